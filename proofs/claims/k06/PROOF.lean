import PyProof.Rows.All
import Wide.All
import OpenK.AllK
import Wide.FinOn
import PyProof.EqAt
import PyProof.EqKinds
import PyProof.TupleCall
import PyProof.CollectWalk
import PyProof.Seq
import PyProof.SetRoads
import PyProof.DictWalks
import Lean
import PySem.Challenge.RW_turnhall_k06_whole_waiting_ends
set_option linter.all false
set_option maxRecDepth 100000
set_option maxHeartbeats 4000000
set_option Elab.async false
section
namespace TH
inductive DS where
 | zan | waiting | kept | dropped
 deriving DecidableEq
structure Act (K:Type) where
 wr:Bool
 key:K
 val:Int
structure Deed (K:Type) where
 st:DS
 done:List (Act K)
 wish:Option (Act K)
inductive Row (K:Type) where
 | begin (d:Nat) | write (d:Nat) (k:K) (before value:Int) | keep (d:Nat) | drop (d:Nat)
structure HS (K:Type) where
 n:Nat
 deed:Nat->Deed K
 held:K->List (Nat×Bool)
 rows:K->List (Nat×Bool)
 book:K->Option Int
 seen:List K
 log:List (Row K)
 kept:List Nat
def up {α β:Type} [DecidableEq α] (f:α->β) (a:α) (b:β):α->β:=λ x=>if x=a then b else f x
section
variable {α β:Type} [DecidableEq α] {f:α->β} {a x:α} {b:β}
theorem zag:up f a b a=b:=by unfold up; rw [if_pos rfl]
theorem zam (h:x≠a):up f a b x=f x:=by unfold up; rw [if_neg h]
end
def Deed.act {K:Type} (D:Deed K):Prop:=D.st=.zan\/D.st=.waiting
section
variable {K:Type} [DecidableEq K]
abbrev Book (K:Type):=K->Option Int
def over (b:Book K):List (Act K)->Book K
 | []=>b
 | a::r=>over (if a.wr then up b a.key (some a.val) else b) r
def zaK:List (Act K)->K->Option Int
 | [],_=>none
 | a::r,k=>match zaK r k with
  | some v=>some v
  | none=>if a.wr=true/\a.key=k then some a.val else none
def replay:List (Act K)->Book K->Option (Book K)
 | [],b=>some b
 | a::r,b=>if a.wr=true then replay r (up b a.key (some a.val)) else if (b a.key).getD 0=a.val then replay r b else none
def zb4 (deed:Nat->Deed K):List Nat->Book K->Option (Book K)
 | [],b=>some b
 | d::r,b=>(replay (deed d).done b).bind (zb4 deed r)
def zel (deed:Nat->Deed K):List Nat->Book K->Book K
 | [],b=>b
 | d::r,b=>zel deed r (over b (deed d).done)
def zaq (s:HS K):Book K:=zel s.deed s.kept λ _=>none
theorem zff (k:K):∀ (l:List (Act K)) (b:Book K),over b l k=match zaK l k with | some v=>some v | none=>b k
 | [],b=>rfl
 | a::r,b=>by
  simp only [over,zaK]
  rw [zff k r]
  cases h:zaK r k with
  | some v=>rfl
  | none =>
   by_cases hw:a.wr=true
   . by_cases hk:a.key=k
     . subst hk; simp [hw,zag]
     . simp [hw,hk,zam (Ne.symm hk)]
   . simp [hw]
theorem zex (a:Act K) (k:K):∀ l:List (Act K),zaK (l++[a]) k=if a.wr=true/\a.key=k then some a.val else zaK l k
 | []=>by simp [zaK]
 | x::r=>by
  simp only [List.cons_append,zaK]
  rw [zex a k r]
  by_cases h:a.wr=true/\a.key=k
  . simp [h]
  . simp [h]
theorem zek {k:K} {v:Int}:∀ {l:List (Act K)},zaK l k=some v->∃ a∈l,a.wr=true/\a.key=k
 | [],h=>by simp [zaK] at h
 | a::r,h=>by
  simp only [zaK] at h
  cases h':zaK r k with
  | some w =>
   obtain ⟨x,hx,q⟩:=zek h'
   exact ⟨x,List.mem_cons_of_mem _ hx,q⟩
  | none =>
   rw [h'] at h
   by_cases c:a.wr=true/\a.key=k
   . exact ⟨a,List.mem_cons_self,c⟩
   . simp [c] at h
theorem zf2 (l m:List (Act K)):∀ b,replay (l++m) b=(replay l b).bind (replay m):=by
 induction l with
 | nil=>intro b; rfl
 | cons a r ih =>
  intro b
  simp only [List.cons_append,replay]
  by_cases hw:a.wr=true
  . simp only [hw,if_true]; exact ih _
  . simp only [hw,if_false]
    by_cases hv:(b a.key).getD 0=a.val
    . simp only [hv,if_true]; exact ih _
    . simp only [hv,if_false]; rfl
theorem zfb:∀ {l:List (Act K)} {b c:Book K},replay l b=some c->c=over b l
 | [],b,c,h=>by simp only [replay,Option.some.injEq] at h; exact h.symm
 | a::r,b,c,h=>by
  simp only [replay] at h
  simp only [over]
  by_cases hw:a.wr=true
  . simp only [hw,if_true] at h ⊢; exact zfb h
  . simp only [hw] at h ⊢
    by_cases hv:(b a.key).getD 0=a.val
    . simp only [hv,if_true] at h; exact zfb h
    . simp [hv] at h
theorem zhn {l:List (Act K)} {b:Book K} (h:(replay l b).isSome=true):replay l b=some (over b l):=by
 cases e:replay l b with
 | none=>rw [e] at h; cases h
 | some c=>rw [zfb e]
theorem zed:∀ {l:List (Act K)} {b c:Book K},(∀ a∈l,b a.key=c a.key)->(replay l b).isSome=(replay l c).isSome
 | [],_,_,_=>rfl
 | a::r,b,c,h=>by
  simp only [replay]
  have hr:∀ x∈r,b x.key=c x.key:=λ x hx=>h x (List.mem_cons_of_mem _ hx)
  have ha:=h a List.mem_cons_self
  by_cases hw:a.wr=true
  . simp only [hw,if_true]
    refine zed λ x hx=>?_
    by_cases e:x.key=a.key
    . rw [e,zag,zag]
    . rw [zam e,zam e]; exact hr x hx
  . simp only [hw,ha]
    by_cases hv:(c a.key).getD 0=a.val
    . simp [hv,zed hr]
    . simp [hv]
theorem zeu (deed:Nat->Deed K) (m:List Nat):∀ (l:List Nat) (b:Book K),zb4 deed (l++m) b=(zb4 deed l b).bind (zb4 deed m)
 | [],b=>rfl
 | d::r,b=>by
  simp only [List.cons_append,zb4]
  cases replay (deed d).done b with
  | none=>rfl
  | some c=>exact zeu deed m r c
theorem zcs {deed deed':Nat->Deed K}:∀ {l:List Nat} {b:Book K},(∀ d∈l,(deed' d).done=(deed d).done)->zb4 deed' l b=zb4 deed l b
 | [],_,_=>rfl
 | d::r,b,h=>by
  simp only [zb4]
  rw [h d List.mem_cons_self]
  cases replay (deed d).done b with
  | none=>rfl
  | some c=>exact zcs λ x hx=>h x (List.mem_cons_of_mem _ hx)
theorem zfD (deed:Nat->Deed K) (m:List Nat):∀ (l:List Nat) (b:Book K),zel deed (l++m) b=zel deed m (zel deed l b)
 | [],b=>rfl
 | d::r,b=>by simp only [List.cons_append,zel]; exact zfD deed m r _
theorem zbo {deed deed':Nat->Deed K}:∀ {l:List Nat} {b:Book K},(∀ d∈l,(deed' d).done=(deed d).done)->zel deed' l b=zel deed l b
 | [],_,_=>rfl
 | d::r,b,h=>by
  simp only [zel]
  rw [h d List.mem_cons_self]
  exact zbo λ x hx=>h x (List.mem_cons_of_mem _ hx)
def lets (h:List (Nat×Bool)) (d:Nat) (w:Bool):Bool:=h.all λ p=>p.1 == d || !(w || p.2)
def zbf (h:List (Nat×Bool)) (d:Nat) (w:Bool):List (Nat×Bool) :=
 if h.any (λ p=>p.1 == d) then h.map (λ p=>if p.1 == d then (d,w) else p) else h++[(d,w)]
def less (h:List (Nat×Bool)) (d:Nat):List (Nat×Bool):=h.filter λ p=>p.1 != d
def doIt (s:HS K) (d:Nat) (a:Act K):HS K :=
  if a.wr then
    { s with deed:=up s.deed d { s.deed d with st:=.zan,done:=(s.deed d).done++[a] },
             log:=s.log++[.write d a.key ((s.book a.key).getD 0) a.val],
             book:=up s.book a.key (some a.val) }
  else { s with deed:=up s.deed d { s.deed d with st:=.zan,done:=(s.deed d).done++[⟨false,a.key,(s.book a.key).getD 0⟩] } }
def take (s:HS K) (d:Nat) (k:K) (w:Bool):HS K:={ s with held:=up s.held k (zbf (s.held k) d w) }
def zbt:Nat->HS K->K->HS K
 | 0,s,_=>s
 | f+1,s,k=>match s.rows k with
  | []=>s
  | (d,w)::r=>if lets (s.held k) d w then
    match (s.deed d).wish with
    | some a=>zbt f (doIt (take { s with rows:=up s.rows k r } d k w) d a) k
    | none=>s
   else s
def zaG (s:HS K):List K->HS K
 | []=>s
 | k::r=>zaG (zbt (s.rows k).length s k) r
def letGo (s:HS K) (d:Nat):HS K:={ s with held:=λ k=>less (s.held k) d,rows:=λ k=>less (s.rows k) d }
variable (ord:List K->List K)
def free (s:HS K) (d:Nat):HS K:=zaG (letGo s d) (ord s.seen)
def zft (s:HS K) (d:Nat) (t:DS):HS K:={ s with deed:=up s.deed d { s.deed d with st:=t } }
def zpb (s:HS K) (d:Nat):HS K:={ zft s d .kept with kept:=s.kept++[d],log:=s.log++[.keep d] }
def zpA (s:HS K) (d:Nat):HS K :=
 { zft s d .dropped with book:=λ k=>if (zaK (s.deed d).done k).isSome then zaq s k else s.book k,log:=s.log++[.drop d] }
def keep (s:HS K) (d:Nat):HS K:=free ord (zpb s d) d
def drop (s:HS K) (d:Nat):HS K:=free ord (zpA s d) d
def za1 (s:HS K):HS K:={ s with n:=s.n+1,deed:=up s.deed s.n ⟨.zan,[],none⟩,log:=s.log++[.begin s.n] }
def zbQ (s:HS K) (d:Nat):List Nat:=match (s.deed d).st,(s.deed d).wish with
 | .waiting,some a=>((s.rows a.key).takeWhile λ p=>p.1 != d).map (·.1)++((s.held a.key).filter λ p=>p.1 != d && (a.wr || p.2)).map (·.1)
 | _,_=>[]
inductive Reach (s:HS K):Nat->Nat->Prop where
 | one {d e:Nat}:e∈zbQ s d->Reach s d e
 | step {d e f:Nat}:e∈zbQ s d->Reach s e f->Reach s d f
open Classical in
noncomputable def rings (s:HS K):List Nat:=(List.range s.n).filter λ d=>decide (Reach s d d)
noncomputable def settle:Nat->HS K->HS K
 | 0,s=>s
 | f+1,s=>match (rings s).getLast? with
  | none=>s
  | some d=>settle f (drop ord s d)
def has (h:List (Nat×Bool)) (d:Nat):Bool:=h.any λ p=>p.1 == d
def look (h:List (Nat×Bool)) (d:Nat):Option Bool:=(h.find? λ p=>p.1 == d).map (·.2)
def see (s:HS K) (k:K):HS K:={ s with seen:=if k∈s.seen then s.seen else s.seen++[k] }
def wait (s:HS K) (d:Nat) (a:Act K):HS K :=
  { s with deed:=up s.deed d { s.deed d with st:=.waiting,wish:=some a },
           rows:=up s.rows a.key (if has (s.held a.key) d then (d,a.wr)::s.rows a.key else s.rows a.key++[(d,a.wr)]) }
noncomputable def wish (s:HS K) (d:Nat) (a:Act K):HS K :=
 let s:=see s a.key
 if look (s.held a.key) d=some a.wr\/look (s.held a.key) d=some true then doIt s d a
 else if lets (s.held a.key) d a.wr=true/\(has (s.held a.key) d=true\/s.rows a.key=[]) then doIt (take s d a.key a.wr) d a
 else settle ord s.n (wait s d a)
end
end TH
end
section
namespace TH
section
variable {K:Type} [DecidableEq K]
structure Core (s:HS K) (x:Option Nat):Prop where
 out:∀ d,s.n<=d->(s.deed d).st=.dropped/\(s.deed d).done=[]
 hAct:∀ k p,p∈s.held k->(s.deed p.1).act
 hNd:∀ k,((s.held k).map (·.1)).Nodup
 hEx:∀ k d,(d,true)∈s.held k->∀ p∈s.held k,p.1=d
 rAct:∀ k p,p∈s.rows k->(s.deed p.1).st=.waiting/\∃ a,(s.deed p.1).wish=some a/\a.key=k/\a.wr=p.2
 rNd:∀ k,((s.rows k).map (·.1)).Nodup
 wRow:∀ d,some d≠x->(s.deed d).st=.waiting->∃ a,(s.deed d).wish=some a/\(d,a.wr)∈s.rows a.key
 zf3:∀ k d w w',(d,w)∈s.rows k->(d,w')∈s.held k->w'=false/\w=true
 zfK:∀ d,(s.deed d).act->∀ a∈(s.deed d).done,∃ w,(d,w)∈s.held a.key/\(a.wr=true->w=true)
 zeV:∀ k,k∉s.seen->s.held k=[]/\s.rows k=[]
 bOwn:∀ d,(s.deed d).act->∀ k v,zaK (s.deed d).done k=some v->s.book k=some v
 zgs:∀ k,(∀ d,(s.deed d).act->zaK (s.deed d).done k=none)->s.book k=zaq s k
 ser:zb4 s.deed s.kept (λ _=>none)=some (zaq s)
 actR:∀ d,(s.deed d).act->(replay (s.deed d).done (zaq s)).isSome=true
 zdi:∀ d,d∈s.kept↔(s.deed d).st=.kept
 zhO:s.kept.Nodup
theorem zdI {D:Deed K} (h:D.act):D.st≠.kept:=by
 rcases h with h | h <;> rw [h] <;> decide
theorem zeT {D:Deed K} (h:D.act):D.st≠.dropped:=by
 rcases h with h | h <;> rw [h] <;> decide
theorem Core.lt {s:HS K} {x:Option Nat} (c:Core s x) {d:Nat} (h:(s.deed d).act):d < s.n:=by
 by_cases e:d < s.n
 . exact e
 . exact absurd (c.out d (by omega)).1 (zeT h)
theorem Core.sole {s:HS K} {x:Option Nat} (c:Core s x) {d e:Nat} {k:K} {v:Int} {w:Bool} (hd:(s.deed d).act) (hw:zaK (s.deed d).done k=some v) (he:(e,w)∈s.held k):e=d:=by
 obtain ⟨a,ha,aw,ak⟩:=zek hw
 obtain ⟨w',hh,hw'⟩:=c.zfK d hd a ha
 rw [hw' aw,ak] at hh
 exact c.hEx k d hh (e,w) he
theorem zbZ {s t:HS K} (h:t.kept=s.kept) (hd:∀ d∈s.kept,(t.deed d).done=(s.deed d).done):zaq t=zaq s:=by
 unfold zaq; rw [h]; exact zbo hd
theorem Core.reads {s:HS K} {x:Option Nat} (c:Core s x) {d:Nat} {k:K} {w:Bool} (hd:(s.deed d).act) (hh:(d,w)∈s.held k):s.book k=over (zaq s) (s.deed d).done k:=by
 rw [zff]
 cases e:zaK (s.deed d).done k with
 | some v=>exact c.bOwn d hd k v e
 | none =>
  refine c.zgs k λ f hf=>?_
  cases e':zaK (s.deed f).done k with
  | none=>rfl
  | some v =>
   have q:=c.sole hf e' hh
   subst q
   rw [e] at e'; cases e'
theorem Core.doIt {s:HS K} {d:Nat} {a:Act K} {w:Bool} (c:Core s (some d)) (hd:(s.deed d).act) (hr:∀ k w,(d,w)∉s.rows k) (hh:(d,w)∈s.held a.key) (hw:a.wr=true->w=true):Core (doIt s d a) none:=by
 have hnk:(s.deed d).st≠.kept:=zdI hd
 have nk:∀ e∈s.kept,e≠d:=λ e he z=>by subst z; exact hnk ((c.zdi _).mp he)
 have main:∀ (a':Act K) (bk:Book K) (lg:List (Row K)),a'.key=a.key->a'.wr=a.wr->(a.wr=false->bk=s.book/\a'.val=(s.book a.key).getD 0)->(a.wr=true->bk=up s.book a.key (some a'.val)) ->
    Core { s with deed:=up s.deed d { s.deed d with st:=.zan,done:=(s.deed d).done++[a'] },log:=lg,book:=bk } none:=by
  intro a' bk lg ek ew hbr hbw
  have dd:∀ e,e≠d->up s.deed d { s.deed d with st:=.zan,done:=(s.deed d).done++[a'] } e=s.deed e:=λ e he=>zam he
  have ds:up s.deed d { s.deed d with st:=.zan,done:=(s.deed d).done++[a'] } d={ s.deed d with st:=.zan,done:=(s.deed d).done++[a'] }:=zag
  have actE:∀ e,(up s.deed d { s.deed d with st:=.zan,done:=(s.deed d).done++[a'] } e).act↔(s.deed e).act:=λ e=>by
    by_cases h:e=d
    . subst h; rw [ds]; exact ⟨λ _=>hd,λ _=>.inl rfl⟩
    . rw [dd e h]
  have kb:zaq { s with deed:=up s.deed d { s.deed d with st:=.zan,done:=(s.deed d).done++[a'] },log:=lg,book:=bk }=zaq s :=
    zbZ rfl λ e he=>by show (up s.deed d _ e).done=_; rw [dd e (nk e he)]
  have lastE:∀ e k,zaK (up s.deed d { s.deed d with st:=.zan,done:=(s.deed d).done++[a'] } e).done k=if e=d/\a.wr=true/\a.key=k then some a'.val else zaK (s.deed e).done k:=λ e k=>by
    by_cases h:e=d
    . subst h; rw [ds]; show zaK ((s.deed e).done++[a']) k=_; rw [zex,ek,ew]; simp
    . rw [dd e h]; simp [h]
  refine ⟨λ e he=>?_,λ k p hp=>?_,c.hNd,c.hEx,λ k p hp=>?_,c.rNd,λ e _ he=>?_,c.zf3,λ e he b hb=>?_,c.zeV,λ e he k v hv=>?_,λ k hk=>?_,?_,λ e he=>?_,λ e=>?_,c.zhO⟩
  . have:e≠d:=λ z=>by subst z; have:=c.lt hd; have he':s.n<=e:=he; omega
    rw [show ({ s with deed:=up s.deed d { s.deed d with st:=.zan,done:=(s.deed d).done++[a'] },log:=lg,book:=bk }:HS K).deed e=s.deed e from dd e this]
    exact c.out e he
  . exact (actE p.1).mpr (c.hAct k p hp)
  . have:p.1≠d:=λ z=>hr k p.2 (by rw [<-z]; exact hp)
    rw [show ({ s with deed:=up s.deed d { s.deed d with st:=.zan,done:=(s.deed d).done++[a'] },log:=lg,book:=bk }:HS K).deed p.1=s.deed p.1 from dd p.1 this]
    exact c.rAct k p hp
  . have hne:e≠d:=λ z=>by
      subst z
      have he':(up s.deed e { s.deed e with st:=.zan,done:=(s.deed e).done++[a'] } e).st=.waiting:=he
      rw [ds] at he'; cases he'
    have he':(up s.deed d { s.deed d with st:=.zan,done:=(s.deed d).done++[a'] } e).st=.waiting:=he
    rw [dd e hne] at he'
    obtain ⟨b,q1,q2⟩:=c.wRow e (λ z=>hne (Option.some.inj z)) he'
    exact ⟨b,by show (up s.deed d _ e).wish=_; rw [dd e hne]; exact q1,q2⟩
  . by_cases h:e=d
    . subst h
      have hb':b∈(up s.deed e { s.deed e with st:=.zan,done:=(s.deed e).done++[a'] } e).done:=hb
      rw [ds] at hb'
      rcases List.mem_append.mp hb' with q | q
      . exact c.zfK e hd b q
      . have q':b=a':=by simpa using q
        subst q'
        exact ⟨w,by rw [ek]; exact hh,λ z=>hw (by rw [<-ew]; exact z)⟩
    . have hb':b∈(up s.deed d { s.deed d with st:=.zan,done:=(s.deed d).done++[a'] } e).done:=hb
      rw [dd e h] at hb'
      exact c.zfK e ((actE e).mp he) b hb'
  . have hv':zaK (up s.deed d { s.deed d with st:=.zan,done:=(s.deed d).done++[a'] } e).done k=some v:=hv
    rw [lastE] at hv'
    have he':=(actE e).mp he
    show bk k=some v
    by_cases h:e=d/\a.wr=true/\a.key=k
    . rw [if_pos h] at hv'
      obtain ⟨h1,h2,h3⟩:=h
      rw [hbw h2,<-h3,zag]; exact hv'
    . rw [if_neg h] at hv'
      cases hwr:a.wr with
      | false=>rw [(hbr hwr).1]; exact c.bOwn e he' k v hv'
      | true =>
        have hne:k≠a.key:=λ z=>by
         subst z
         have q:=c.sole he' hv' hh
         exact h ⟨q.symm,hwr,rfl⟩
        rw [hbw hwr,zam hne]
        exact c.bOwn e he' k v hv'
  . show bk k=zaq _ k
    rw [kb]
    have hk':∀ e,(s.deed e).act->¬ (e=d/\a.wr=true/\a.key=k)/\zaK (s.deed e).done k=none:=λ e he=>by
      have q:zaK (up s.deed d { s.deed d with st:=.zan,done:=(s.deed d).done++[a'] } e).done k=none:=hk e ((actE e).mpr he)
      rw [lastE] at q
      by_cases h:e=d/\a.wr=true/\a.key=k
      . rw [if_pos h] at q; cases q
      . rw [if_neg h] at q; exact ⟨h,q⟩
    cases hwr:a.wr with
    | false=>rw [(hbr hwr).1]; exact c.zgs k λ e he=>(hk' e he).2
    | true =>
      have hne:k≠a.key:=λ z=>(hk' d hd).1 ⟨rfl,hwr,z.symm⟩
      rw [hbw hwr,zam hne]
      exact c.zgs k λ e he=>(hk' e he).2
  . show zb4 (up s.deed d _) s.kept _=_
    rw [kb,<-c.ser]
    exact zcs λ e he=>by rw [dd e (nk e he)]
  . rw [kb]
    show (replay (up s.deed d _ e).done (zaq s)).isSome=true
    by_cases h:e=d
    . subst h
      rw [ds]
      show (replay ((s.deed e).done++[a']) (zaq s)).isSome=true
      rw [zf2,zhn (c.actR e hd)]
      show (replay [a'] (over (zaq s) (s.deed e).done)).isSome=true
      unfold replay
      cases hwr:a.wr with
      | true=>rw [if_pos (by rw [ew,hwr])]; rfl
      | false =>
        rw [if_neg (by rw [ew,hwr]; decide),if_pos (by rw [ek,<-c.reads hd hh,(hbr hwr).2])]
        rfl
    . rw [dd e h]; exact c.actR e ((actE e).mp he)
  . show e∈s.kept↔(up s.deed d _ e).st=.kept
    by_cases h:e=d
    . subst h
      rw [ds,c.zdi e]
      exact ⟨λ z=>absurd z hnk,λ z=>by cases z⟩
    . rw [dd e h]; exact c.zdi e
 unfold TH.doIt
 cases hwr:a.wr with
 | true=>exact main a _ _ rfl rfl (λ z=>by rw [hwr] at z; cases z) λ _=>rfl
 | false=>exact main ⟨false,a.key,(s.book a.key).getD 0⟩ _ _ rfl hwr.symm (λ _=>⟨rfl,rfl⟩) λ z=>by rw [hwr] at z; cases z
end
end TH
end
section
namespace TH
section
variable {K:Type} [DecidableEq K]
theorem zcI {h:List (Nat×Bool)} {d:Nat} {p:Nat×Bool}:p∈less h d↔p∈h/\p.1≠d:=by
 unfold less; rw [List.mem_filter]; simp
theorem ziO {h:List (Nat×Bool)} {d:Nat} (n:(h.map (·.1)).Nodup):((less h d).map (·.1)).Nodup :=
 n.sublist (List.Sublist.map _ List.filter_sublist)
theorem zjJ {h:List (Nat×Bool)} {d:Nat} {w:Bool}:lets h d w=true↔∀ p∈h,p.1≠d->w=false/\p.2=false:=by
 unfold lets
 rw [List.all_eq_true]
 refine ⟨λ q p hp hn=>?_,λ q p hp=>?_⟩
 . have:=q p hp
   cases w <;> cases hb:p.2 <;> simp_all
 . by_cases hn:p.1=d
   . simp [hn]
   . obtain ⟨q1,q2⟩:=q p hp hn
     simp [q1,q2]
theorem zic {h:List (Nat×Bool)} {d:Nat}:(h.any λ p=>p.1 == d)=true↔∃ w,(d,w)∈h:=by
 rw [List.any_eq_true]
 refine ⟨λ ⟨p,hp,e⟩=>⟨p.2,?_⟩,λ ⟨w,hw⟩=>⟨(d,w),hw,by simp⟩⟩
 have e':p.1=d:=by simpa using e
 rw [<-e']; exact hp
theorem zaT {h:List (Nat×Bool)} {d:Nat} {w:Bool} {p:Nat×Bool}:p∈zbf h d w↔p=(d,w)\/(p∈h/\p.1≠d):=by
 unfold zbf
 by_cases c:(h.any λ p=>p.1 == d)=true
 . rw [if_pos c,List.mem_map]
   refine ⟨λ ⟨q,hq,e⟩=>?_,λ z=>?_⟩
   . by_cases hn:q.1=d
     . simp [hn] at e; exact .inl e.symm
     . simp [hn] at e; subst e; exact .inr ⟨hq,hn⟩
   . rcases z with z | ⟨z1,z2⟩
     . obtain ⟨w',hw'⟩:=zic.mp c
       exact ⟨(d,w'),hw',by simp [z]⟩
     . exact ⟨p,z1,by simp [z2]⟩
 . rw [if_neg c,List.mem_append]
   refine ⟨λ z=>?_,λ z=>?_⟩
   . rcases z with z | z
     . refine .inr ⟨z,λ e=>c (zic.mpr ⟨p.2,?_⟩)⟩
       rw [<-e]; exact z
     . exact .inl (by simpa using z)
   . rcases z with z | ⟨z1,_⟩
     . exact .inr (by simp [z])
     . exact .inl z1
theorem zl2 {h:List (Nat×Bool)} {d:Nat} {w:Bool}:(zbf h d w).map (·.1)=if (h.any λ p=>p.1 == d)=true then h.map (·.1) else h.map (·.1)++[d]:=by
 unfold zbf
 by_cases c:(h.any λ p=>p.1 == d)=true
 . rw [if_pos c,if_pos c,List.map_map]
   refine List.map_congr_left λ p _=>?_
   by_cases hn:p.1=d
   . simp [hn]
   . simp [hn]
 . rw [if_neg c,if_neg c,List.map_append]; rfl
theorem zjA {h:List (Nat×Bool)} {d:Nat} {w:Bool} (n:(h.map (·.1)).Nodup):((zbf h d w).map (·.1)).Nodup:=by
 rw [zl2]
 by_cases c:(h.any λ p=>p.1 == d)=true
 . rw [if_pos c]; exact n
 . rw [if_neg c]
   refine List.nodup_append.mpr ⟨n,by simp,λ a ha b hb=>?_⟩
   have hb':b=d:=by simpa using hb
   subst hb'
   rintro rfl
   obtain ⟨p,hp,e⟩:=List.mem_map.mp ha
   exact c (zic.mpr ⟨p.2,by rw [<-e]; exact hp⟩)
theorem Core.take {s:HS K} {x:Option Nat} {d:Nat} {k:K} {w:Bool} (c:Core s x) (hd:(s.deed d).act) (hl:lets (s.held k) d w=true) (hf:w=false->∀ w',(d,w')∉s.held k) (hr:∀ w',(d,w')∉s.rows k) (hk:k∈s.seen):Core (TH.take s d k w) x:=by
 have hh:∀ k',k'≠k->(TH.take s d k w).held k'=s.held k':=λ k' h=>zam h
 have hs:(TH.take s d k w).held k=zbf (s.held k) d w:=zag
 have hl':=zjJ.mp hl
 have mem:∀ k' p,p∈(TH.take s d k w).held k'->p∈s.held k'\/(k'=k/\p=(d,w)):=λ k' p hp=>by
   by_cases h:k'=k
   . subst h
     rw [hs] at hp
     rcases zaT.mp hp with z | z
     . exact .inr ⟨rfl,z⟩
     . exact .inl z.1
   . rw [hh k' h] at hp; exact .inl hp
 refine ⟨c.out,λ k' p hp=>?_,λ k'=>?_,λ k' e he p hp=>?_,c.rAct,c.rNd,c.wRow,λ k' e v v' h1 h2=>?_,λ e he a ha=>?_,λ k' h'=>?_,c.bOwn,c.zgs,c.ser,c.actR,c.zdi,c.zhO⟩
 . rcases mem k' p hp with z | ⟨_,z⟩
   . exact c.hAct k' p z
   . subst z; exact hd
 . by_cases h:k'=k
   . subst h; rw [hs]; exact zjA (c.hNd k')
   . rw [hh k' h]; exact c.hNd k'
 . by_cases h:k'=k
   . subst h
     rw [hs] at he hp
     rcases zaT.mp he with z | ⟨z1,z2⟩
     . have z1:e=d:=congrArg Prod.fst z
       have z2:w=true:=(congrArg Prod.snd z).symm
       subst z1
       rcases zaT.mp hp with y | ⟨y1,y2⟩
       . rw [y]
       . have:=(hl' p y1 y2).1
         rw [z2] at this; cases this
     . have:=(hl' (e,true) z1 z2).2
       cases this
   . rw [hh k' h] at he hp; exact c.hEx k' e he p hp
 . by_cases h:k'=k
   . subst h
     rw [hs] at h2
     rcases zaT.mp h2 with z | ⟨z1,z2⟩
     . have z1:e=d:=congrArg Prod.fst z
       subst z1
       exact absurd h1 (hr v)
     . exact c.zf3 k' e v v' h1 z1
   . rw [hh k' h] at h2; exact c.zf3 k' e v v' h1 h2
 . obtain ⟨v,q1,q2⟩:=c.zfK e he a ha
   by_cases h:a.key=k
   . by_cases hed:e=d
     . subst hed
       refine ⟨w,by rw [h,hs]; exact zaT.mpr (.inl rfl),λ z=>?_⟩
       cases hw:w with
       | true=>rfl
       | false=>exact absurd (h ▸ q1) (hf hw v)
     . exact ⟨v,by rw [h,hs]; exact zaT.mpr (.inr ⟨h ▸ q1,hed⟩),q2⟩
   . exact ⟨v,by rw [hh _ h]; exact q1,q2⟩
 . have:k'≠k:=λ z=>h' (z ▸ hk)
   rw [hh k' this]; exact c.zeV k' h'
theorem Core.ends {s:HS K} {d:Nat} {t:DS} {bk:Book K} {kp:List Nat} {lg:List (Row K)} (c:Core s none) (hd:(s.deed d).act) (ht:t=.kept\/t=.dropped)
   (hk:∀ e,e∈kp↔(up s.deed d { s.deed d with st:=t } e).st=.kept) (hn:kp.Nodup)
   (hser:zb4 s.deed kp (λ _=>none)=some (zel s.deed kp λ _=>none))
   (hact:∀ e,e≠d->(s.deed e).act->(replay (s.deed e).done (zel s.deed kp λ _=>none)).isSome=true)
   (hbo:∀ e,e≠d->(s.deed e).act->∀ k v,zaK (s.deed e).done k=some v->bk k=some v)
   (hbk:∀ k,(∀ e,e≠d->(s.deed e).act->zaK (s.deed e).done k=none)->bk k=zel s.deed kp (λ _=>none) k) :
   Core (letGo { s with deed:=up s.deed d { s.deed d with st:=t },book:=bk,kept:=kp,log:=lg } d) none:=by
 have dd:∀ e,e≠d->up s.deed d { s.deed d with st:=t } e=s.deed e:=λ e he=>zam he
 have ds:up s.deed d { s.deed d with st:=t } d={ s.deed d with st:=t }:=zag
 have dn:∀ e,(up s.deed d { s.deed d with st:=t } e).done=(s.deed e).done:=λ e=>by
   by_cases h:e=d
   . subst h; rw [ds]
   . rw [dd e h]
 have actE:∀ e,(up s.deed d { s.deed d with st:=t } e).act->e≠d/\(s.deed e).act:=λ e he=>by
   by_cases h:e=d
   . subst h
     rw [ds] at he
     rcases he with he | he <;> rcases ht with z | z <;> (have he':t=_:=he; rw [z] at he'; cases he')
   . rw [dd e h] at he; exact ⟨h,he⟩
 have kb:zaq (letGo { s with deed:=up s.deed d { s.deed d with st:=t },book:=bk,kept:=kp,log:=lg } d)=zel s.deed kp λ _=>none:=zbo λ e _=>dn e
 refine ⟨λ e he=>?_,λ k p hp=>?_,λ k=>ziO (c.hNd k),λ k e he p hp=>?_,λ k p hp=>?_,λ k=>ziO (c.rNd k),λ e _ he=>?_,λ k e v v' h1 h2=>?_,λ e he a ha=>?_,λ k hk'=>?_,λ e he k v hv=>?_,λ k hk'=>?_,?_,λ e he=>?_,hk,hn⟩
 . have he':s.n<=e:=he
   have:e≠d:=λ z=>by subst z; have:=c.lt hd; omega
   show (up s.deed d _ e).st=_/\(up s.deed d _ e).done=_
   rw [dd e this]; exact c.out e he'
 . have hp':=zcI.mp hp
   show (up s.deed d _ p.1).act
   rw [dd _ hp'.2]; exact c.hAct k p hp'.1
 . exact c.hEx k e (zcI.mp he).1 p (zcI.mp hp).1
 . have hp':=zcI.mp hp
   show (up s.deed d _ p.1).st=_/\∃ a,(up s.deed d _ p.1).wish=some a/\_
   rw [dd _ hp'.2]; exact c.rAct k p hp'.1
 . have he':(up s.deed d { s.deed d with st:=t } e).st=.waiting:=he
   obtain ⟨h1,h2⟩:=actE e (.inr he')
   rw [dd e h1] at he'
   obtain ⟨a,q1,q2⟩:=c.wRow e (λ z=>by cases z) he'
   exact ⟨a,by show (up s.deed d _ e).wish=_; rw [dd e h1]; exact q1,zcI.mpr ⟨q2,h1⟩⟩
 . exact c.zf3 k e v v' (zcI.mp h1).1 (zcI.mp h2).1
 . obtain ⟨h1,h2⟩:=actE e he
   have ha':a∈(up s.deed d { s.deed d with st:=t } e).done:=ha
   rw [dn e] at ha'
   obtain ⟨v,q1,q2⟩:=c.zfK e h2 a ha'
   exact ⟨v,zcI.mpr ⟨q1,h1⟩,q2⟩
 . obtain ⟨q1,q2⟩:=c.zeV k hk'
   show less (s.held k) d=[]/\less (s.rows k) d=[]
   rw [q1,q2]; exact ⟨rfl,rfl⟩
 . obtain ⟨h1,h2⟩:=actE e he
   have hv':zaK (up s.deed d { s.deed d with st:=t } e).done k=some v:=hv
   rw [dn e] at hv'
   exact hbo e h1 h2 k v hv'
 . rw [kb]
   refine hbk k λ e h1 h2=>?_
   have q:zaK (up s.deed d { s.deed d with st:=t } e).done k=none:=hk' e (by show (up s.deed d _ e).act; rw [dd e h1]; exact h2)
   rw [dn e] at q; exact q
 . rw [kb,<-hser]
   exact zcs λ e _=>dn e
 . obtain ⟨h1,h2⟩:=actE e he
   rw [kb]
   show (replay (up s.deed d _ e).done _).isSome=true
   rw [dn e]; exact hact e h1 h2
theorem Core.keeps {s:HS K} {d:Nat} (c:Core s none) (hd:(s.deed d).act):Core (letGo (zpb s d) d) none:=by
 have kd:d∉s.kept:=λ z=>zdI hd ((c.zdi d).mp z)
 have kf:zel s.deed (s.kept++[d]) (λ _=>none)=over (zaq s) (s.deed d).done:=by rw [zfD]; rfl
 refine Core.ends (t:=.kept) c hd (.inl rfl) (λ e=>?_) (List.nodup_append.mpr ⟨c.zhO,by simp,λ a ha b hb=>?_⟩) ?_ (λ e h1 h2=>?_) (λ e h1 h2 k v hv=>c.bOwn e h2 k v hv) λ k hk=>?_
 . rw [List.mem_append,c.zdi e]
   by_cases h:e=d
   . subst h; rw [zag]; simp
   . rw [zam h]; simp [h]
 . have hb':b=d:=by simpa using hb
   subst hb'
   rintro rfl
   exact kd ha
 . rw [zeu,c.ser,kf]
   show (replay (s.deed d).done (zaq s)).bind (zb4 s.deed [])=_
   rw [zhn (c.actR d hd)]; rfl
 . rw [kf,<-zed (b:=zaq s) λ a ha=>?_]
   . exact c.actR e h2
   . rw [zff]
     cases q:zaK (s.deed d).done a.key with
     | none=>rfl
     | some v =>
       obtain ⟨w,q1,_⟩:=c.zfK e h2 a ha
       exact absurd (c.sole hd q q1) h1
 . rw [kf,zff]
   cases q:zaK (s.deed d).done k with
   | some v=>exact c.bOwn d hd k v q
   | none =>
     refine c.zgs k λ e he=>?_
     by_cases h:e=d
     . subst h; exact q
     . exact hk e h he
theorem Core.drops {s:HS K} {d:Nat} (c:Core s none) (hd:(s.deed d).act):Core (letGo (zpA s d) d) none:=by
 refine Core.ends (t:=.dropped) c hd (.inr rfl) (λ e=>?_) c.zhO c.ser (λ e _ h2=>c.actR e h2) (λ e h1 h2 k v hv=>?_) λ k hk=>?_
 . show e∈s.kept↔_
   rw [c.zdi e]
   by_cases h:e=d
   . subst h; rw [zag]; exact ⟨λ z=>absurd z (zdI hd),λ z=>by cases z⟩
   . rw [zam h]
 . cases q:zaK (s.deed d).done k with
   | none=>simp [q]; exact c.bOwn e h2 k v hv
   | some u =>
     obtain ⟨a,ha,aw,ak⟩:=zek hv
     obtain ⟨w,q1,_⟩:=c.zfK e h2 a ha
     rw [ak] at q1
     exact absurd (c.sole hd q q1) h1
 . show (if (zaK (s.deed d).done k).isSome=true then zaq s k else s.book k)=zaq s k
   cases q:zaK (s.deed d).done k with
   | some u=>simp
   | none =>
     simp
     refine c.zgs k λ e he=>?_
     by_cases h:e=d
     . subst h; exact q
     . exact hk e h he
theorem Core.zpn {s:HS K} {k:K} {d:Nat} {w:Bool} {r:List (Nat×Bool)} {a:Act K} (c:Core s none) (hr:s.rows k=(d,w)::r) (hl:lets (s.held k) d w=true) (ha:(s.deed d).wish=some a) :
  Core (TH.doIt (TH.take { s with rows:=up s.rows k r } d k w) d a) none:=by
 have hm:(d,w)∈s.rows k:=by rw [hr]; exact List.mem_cons_self
 obtain ⟨hw,a',ea,ek,ew⟩:=c.rAct k (d,w) hm
 have ea':some a=some a':=ha.symm.trans ea
 cases ea'
 have nd:=c.rNd k
 rw [hr] at nd
 have ndr:∀ w',(d,w')∉r:=λ w' z=>(List.nodup_cons.mp nd).1 (List.mem_map.mpr ⟨_,z,rfl⟩)
 have rk:(up s.rows k r) k=r:=zag
 have rn:∀ k',k'≠k->(up s.rows k r) k'=s.rows k':=λ k' h=>zam h
 have sub:∀ k' p,p∈(up s.rows k r) k'->p∈s.rows k':=λ k' p hp=>by
  by_cases h:k'=k
  . subst h; rw [rk] at hp; rw [hr]; exact List.mem_cons_of_mem _ hp
  . rw [rn k' h] at hp; exact hp
 have nor:∀ k' w',(d,w')∉(up s.rows k r) k':=λ k' w' hp=>by
  by_cases h:k'=k
  . subst h; rw [rk] at hp; exact ndr w' hp
  . have:=(c.rAct k' _ (sub k' _ hp)).2
    obtain ⟨a'',q1,q2,_⟩:=this
    have q1':(s.deed d).wish=some a'':=q1
    rw [ha] at q1'; cases q1'
    exact h (q2.symm.trans ek)
 have c1:Core { s with rows:=up s.rows k r } (some d):=by
  refine ⟨c.out,c.hAct,c.hNd,c.hEx,λ k' p hp=>c.rAct k' p (sub k' p hp),λ k'=>?_,λ e he hwt=>?_,λ k' e v v' h1 h2=>c.zf3 k' e v v' (sub k' _ h1) h2,c.zfK,λ k' h'=>?_,c.bOwn,c.zgs,c.ser,c.actR,c.zdi,c.zhO⟩
  . by_cases h:k'=k
    . subst h; show ((up s.rows k' r k').map _).Nodup; rw [rk]; exact (List.nodup_cons.mp nd).2
    . show ((up s.rows k r k').map _).Nodup; rw [rn k' h]; exact c.rNd k'
  . obtain ⟨b,q1,q2⟩:=c.wRow e (λ z=>by cases z) hwt
    refine ⟨b,q1,?_⟩
    show (e,b.wr)∈up s.rows k r b.key
    by_cases h:b.key=k
    . rw [h,rk]
      rw [h,hr] at q2
      rcases List.mem_cons.mp q2 with z | z
      . exact absurd (congrArg some (congrArg Prod.fst z)) he
      . exact z
    . rw [rn _ h]; exact q2
  . obtain ⟨q1,q2⟩:=c.zeV k' h'
    have:k'≠k:=λ z=>by subst z; rw [hr] at q2; cases q2
    exact ⟨q1,by show up s.rows k r k'=_; rw [rn k' this]; exact q2⟩
 have hks:k∈s.seen:=by
  by_cases z:k∈s.seen
  . exact z
  . have:=(c.zeV k z).2; rw [hr] at this; cases this
 have c2:Core (TH.take { s with rows:=up s.rows k r } d k w) (some d):=c1.take (.inr hw) hl (λ hwf w' z=>by
  obtain ⟨_,q⟩:=c.zf3 k d w w' hm z
  rw [hwf] at q; cases q) (λ w' z=>nor k w' z) hks
 refine c2.doIt (w:=w) (.inr hw) nor ?_ λ z=>by have ew':a.wr=w:=ew; rw [<-ew']; exact z
 show (d,w)∈up s.held k (zbf (s.held k) d w) a.key
 rw [ek,zag]
 exact zaT.mpr (.inl rfl)
theorem Core.zbt {k:K}:∀ {f:Nat} {s:HS K},Core s none->Core (TH.zbt f s k) none
 | 0,s,c=>c
 | f+1,s,c=>by
  unfold TH.zbt
  split
  . exact c
  . rename_i d w r hr
    split
    . rename_i hl
      split
      . rename_i a ha
        exact Core.zbt (c.zpn hr hl ha)
      . exact c
    . exact c
theorem Core.zaG:∀ {ks:List K} {s:HS K},Core s none->Core (TH.zaG s ks) none
 | [],s,c=>c
 | k::r,s,c=>by unfold TH.zaG; exact Core.zaG c.zbt
variable (ord:List K->List K)
theorem Core.keep {s:HS K} {d:Nat} (c:Core s none) (hd:(s.deed d).act):Core (TH.keep ord s d) none:=Core.zaG (c.keeps hd)
theorem Core.drop {s:HS K} {d:Nat} (c:Core s none) (hd:(s.deed d).act):Core (TH.drop ord s d) none:=Core.zaG (c.drops hd)
theorem zg9 {s:HS K} {d e:Nat} (h:e∈zbQ s d):(s.deed d).st=.waiting:=by
 unfold zbQ at h
 split at h
 . rename_i q _; exact q
 . cases h
theorem zaI {s:HS K} {d e:Nat} (h:Reach s d e):(s.deed d).st=.waiting:=by
 cases h with
 | one q=>exact zg9 q
 | step q _=>exact zg9 q
theorem zbD {s:HS K} {d:Nat} (h:d∈rings s):d < s.n/\Reach s d d:=by
 unfold rings at h
 rw [List.mem_filter] at h
 exact ⟨List.mem_range.mp h.1,@of_decide_eq_true _ (_) h.2⟩
theorem Core.settle:∀ {f:Nat} {s:HS K},Core s none->Core (TH.settle ord f s) none
 | 0,s,c=>c
 | f+1,s,c=>by
  unfold TH.settle
  split
  . exact c
  . rename_i d hd
    have:=zbD (List.mem_of_getLast? hd)
    exact Core.settle (c.drop ord (.inr (zaI this.2)))
theorem Core.za1 {s:HS K} (c:Core s none):Core (TH.za1 s) none:=by
 have o:=c.out s.n (Nat.le_refl _)
 have dd:∀ e,e≠s.n->up s.deed s.n ⟨.zan,[],none⟩ e=s.deed e:=λ e he=>zam he
 have ds:up s.deed s.n (⟨.zan,[],none⟩:Deed K) s.n=⟨.zan,[],none⟩:=zag
 have nn:∀ {e},(s.deed e).act->e≠s.n:=λ h z=>by subst z; exact zeT h o.1
 have nk:∀ e∈s.kept,e≠s.n:=λ e he z=>by subst z; have:=(c.zdi _).mp he; rw [o.1] at this; cases this
 have dn:∀ e,(up s.deed s.n ⟨.zan,[],none⟩ e).done=(s.deed e).done:=λ e=>by
   by_cases h:e=s.n
   . subst h; rw [ds,o.2]
   . rw [dd e h]
 have kb:zaq (TH.za1 s)=zaq s:=zbo λ e _=>dn e
 refine ⟨λ e he=>?_,λ k p hp=>?_,c.hNd,c.hEx,λ k p hp=>?_,c.rNd,λ e _ he=>?_,c.zf3,λ e he a ha=>?_,c.zeV,λ e he k v hv=>?_,λ k hk=>?_,?_,λ e he=>?_,λ e=>?_,c.zhO⟩
 . have he':s.n+1<=e:=he
   show (up s.deed s.n _ e).st=_/\(up s.deed s.n _ e).done=_
   rw [dd e (by omega)]; exact c.out e (by omega)
 . have q:=c.hAct k p hp
   show (up s.deed s.n _ p.1).act
   rw [dd _ (nn q)]; exact q
 . have q:=c.rAct k p hp
   show (up s.deed s.n _ p.1).st=_/\∃ a,(up s.deed s.n _ p.1).wish=some a/\_
   rw [dd _ (nn (.inr q.1))]; exact q
 . have he':(up s.deed s.n ⟨.zan,[],none⟩ e).st=.waiting:=he
   have hne:e≠s.n:=λ z=>by subst z; rw [ds] at he'; cases he'
   rw [dd e hne] at he'
   obtain ⟨a,q1,q2⟩:=c.wRow e (λ z=>by cases z) he'
   exact ⟨a,by show (up s.deed s.n _ e).wish=_; rw [dd e hne]; exact q1,q2⟩
 . have ha':a∈(up s.deed s.n ⟨.zan,[],none⟩ e).done:=ha
   by_cases h:e=s.n
   . subst h; rw [ds] at ha'; cases ha'
   . rw [dd e h] at ha'
     have he':(up s.deed s.n ⟨.zan,[],none⟩ e).act:=he
     rw [dd e h] at he'
     exact c.zfK e he' a ha'
 . have hv':zaK (up s.deed s.n ⟨.zan,[],none⟩ e).done k=some v:=hv
   by_cases h:e=s.n
   . subst h; rw [ds] at hv'; cases hv'
   . have he':(up s.deed s.n ⟨.zan,[],none⟩ e).act:=he
     rw [dd e h] at he' hv'
     exact c.bOwn e he' k v hv'
 . rw [kb]
   refine c.zgs k λ e he=>?_
   have q:zaK (up s.deed s.n ⟨.zan,[],none⟩ e).done k=none:=hk e (by show (up s.deed s.n _ e).act; rw [dd e (nn he)]; exact he)
   rw [dn e] at q; exact q
 . rw [kb,<-c.ser]; exact zcs λ e _=>dn e
 . rw [kb]
   show (replay (up s.deed s.n _ e).done _).isSome=true
   by_cases h:e=s.n
   . subst h; rw [ds]; rfl
   . have he':(up s.deed s.n ⟨.zan,[],none⟩ e).act:=he
     rw [dd e h] at he' ⊢
     exact c.actR e he'
 . show e∈s.kept↔(up s.deed s.n _ e).st=.kept
   by_cases h:e=s.n
   . subst h; rw [ds]; exact ⟨λ z=>absurd rfl (nk _ z),λ z=>by cases z⟩
   . rw [dd e h]; exact c.zdi e
theorem Core.see {s:HS K} {x:Option Nat} {k:K} (c:Core s x):Core (TH.see s k) x :=
 ⟨c.out,c.hAct,c.hNd,c.hEx,c.rAct,c.rNd,c.wRow,c.zf3,c.zfK,λ k' h=>c.zeV k' λ z=>h (by
  show k'∈(if k∈s.seen then s.seen else s.seen++[k])
  split
  . exact z
  . exact List.mem_append_left _ z),c.bOwn,c.zgs,c.ser,c.actR,c.zdi,c.zhO⟩
theorem zb5 {s:HS K} {k:K}:k∈(TH.see s k).seen:=by
 show k∈(if k∈s.seen then s.seen else s.seen++[k])
 split
 . assumption
 . simp
theorem zc5 {h:List (Nat×Bool)} {d:Nat} {w:Bool} (e:look h d=some w):(d,w)∈h:=by
 unfold look at e
 cases q:h.find? λ p=>p.1 == d with
 | none=>rw [q] at e; cases e
 | some p =>
  rw [q] at e
  have e2:p.2=w:=Option.some.inj e
  have e1:p.1=d:=by simpa using List.find?_some q
  have:=List.mem_of_find?_eq_some q
  rw [<-e1,<-e2]; exact this
theorem zcS {h:List (Nat×Bool)} {d:Nat} {w:Bool} (n:(h.map (·.1)).Nodup) (m:(d,w)∈h):look h d=some w:=by
 unfold look
 induction h with
 | nil=>cases m
 | cons p r ih =>
  rw [List.map_cons,List.nodup_cons] at n
  by_cases e:p.1=d
  . rcases List.mem_cons.mp m with z | z
    . rw [<-z]; simp
    . exact absurd (List.mem_map.mpr ⟨_,z,rfl⟩) (e ▸ n.1)
  . rcases List.mem_cons.mp m with z | z
    . exact absurd (by rw [<-z]) e
    . rw [List.find?_cons_of_neg (by simpa using e)]
      exact ih n.2 z
theorem Core.wait {s:HS K} {d:Nat} {a:Act K} (c:Core s none) (hd:(s.deed d).st=.zan) (hk:a.key∈s.seen) (h1:∀ w',(d,w')∈s.held a.key->w'=false/\a.wr=true):Core (TH.wait s d a) none:=by
 have dd:∀ e,e≠d->up s.deed d { s.deed d with st:=.waiting,wish:=some a } e=s.deed e:=λ e he=>zam he
 have ds:up s.deed d { s.deed d with st:=.waiting,wish:=some a } d={ s.deed d with st:=.waiting,wish:=some a }:=zag
 have dn:∀ e,(up s.deed d { s.deed d with st:=.waiting,wish:=some a } e).done=(s.deed e).done:=λ e=>by
   by_cases h:e=d
   . subst h; rw [ds]
   . rw [dd e h]
 have actE:∀ e,(up s.deed d { s.deed d with st:=.waiting,wish:=some a } e).act↔(s.deed e).act:=λ e=>by
   by_cases h:e=d
   . subst h; rw [ds]; exact ⟨λ _=>.inl hd,λ _=>.inr rfl⟩
   . rw [dd e h]
 have nk:∀ e∈s.kept,e≠d:=λ e he z=>by subst z; have:=(c.zdi _).mp he; rw [hd] at this; cases this
 have nor:∀ k w',(d,w')∉s.rows k:=λ k w' z=>by
   have:=(c.rAct k _ z).1
   have this':(s.deed d).st=.waiting:=this
   rw [hd] at this'; cases this'
 have kb:zaq (TH.wait s d a)=zaq s:=zbo λ e _=>dn e
 have rk:(TH.wait s d a).rows a.key=if has (s.held a.key) d then (d,a.wr)::s.rows a.key else s.rows a.key++[(d,a.wr)]:=zag
 have rn:∀ k,k≠a.key->(TH.wait s d a).rows k=s.rows k:=λ k h=>zam h
 have rm:∀ k p,p∈(TH.wait s d a).rows k↔p∈s.rows k\/(k=a.key/\p=(d,a.wr)):=λ k p=>by
   by_cases h:k=a.key
   . subst h
     rw [rk]
     split
     . rw [List.mem_cons]; exact ⟨λ z=>z.elim (λ y=>.inr ⟨rfl,y⟩) .inl,λ z=>z.elim .inr λ y=>.inl y.2⟩
     . rw [List.mem_append]; exact ⟨λ z=>z.elim .inl λ y=>.inr ⟨rfl,by simpa using y⟩,λ z=>z.elim .inl λ y=>.inr (by simp [y.2])⟩
   . rw [rn k h]; exact ⟨.inl,λ z=>z.elim id λ y=>absurd y.1 h⟩
 refine ⟨λ e he=>?_,λ k p hp=>?_,c.hNd,c.hEx,λ k p hp=>?_,λ k=>?_,λ e _ he=>?_,λ k e v v' q1 q2=>?_,λ e he b hb=>?_,λ k hk'=>?_,λ e he k v hv=>?_,λ k hk'=>?_,?_,λ e he=>?_,λ e=>?_,c.zhO⟩
 . have he':s.n<=e:=he
   have:e≠d:=λ z=>by subst z; have:=c.lt (d:=e) (.inl hd); omega
   show (up s.deed d _ e).st=_/\(up s.deed d _ e).done=_
   rw [dd e this]; exact c.out e he'
 . exact (actE p.1).mpr (c.hAct k p hp)
 . show (up s.deed d _ p.1).st=_/\∃ a',(up s.deed d _ p.1).wish=some a'/\_
   rcases (rm k p).mp hp with z | ⟨z1,z2⟩
   . have:p.1≠d:=λ y=>nor k p.2 (by rw [<-y]; exact z)
     rw [dd _ this]; exact c.rAct k p z
   . subst z2; rw [ds]; exact ⟨rfl,a,rfl,z1.symm,rfl⟩
 . by_cases h:k=a.key
   . subst h
     rw [rk]
     split
     . rw [List.map_cons,List.nodup_cons]
       exact ⟨λ z=>by obtain ⟨p,hp,e⟩:=List.mem_map.mp z; exact nor _ p.2 (by have e':p.1=d:=e; rw [<-e']; exact hp),c.rNd _⟩
     . rw [List.map_append]
       refine List.nodup_append.mpr ⟨c.rNd _,by simp,λ x hx y hy=>?_⟩
       have hy':y=d:=by simpa using hy
       subst hy'
       rintro rfl
       obtain ⟨p,hp,e⟩:=List.mem_map.mp hx
       exact nor _ p.2 (by have e':p.1=x:=e; rw [<-e']; exact hp)
   . rw [rn k h]; exact c.rNd k
 . have he':(up s.deed d { s.deed d with st:=.waiting,wish:=some a } e).st=.waiting:=he
   show ∃ b,(up s.deed d _ e).wish=some b/\_
   by_cases h:e=d
   . subst h; rw [ds]; exact ⟨a,rfl,(rm _ _).mpr (.inr ⟨rfl,rfl⟩)⟩
   . rw [dd e h] at he' ⊢
     obtain ⟨b,q1,q2⟩:=c.wRow e (λ z=>by cases z) he'
     exact ⟨b,q1,(rm _ _).mpr (.inl q2)⟩
 . rcases (rm k _).mp q1 with z | ⟨z1,z2⟩
   . exact c.zf3 k e v v' z q2
   . have e1:e=d:=congrArg Prod.fst z2
     have e2:v=a.wr:=congrArg Prod.snd z2
     subst e1 e2 z1
     exact h1 v' q2
 . have hb':b∈(up s.deed d { s.deed d with st:=.waiting,wish:=some a } e).done:=hb
   rw [dn e] at hb'
   exact c.zfK e ((actE e).mp he) b hb'
 . have:k≠a.key:=λ z=>hk' (z ▸ hk)
   obtain ⟨q1,q2⟩:=c.zeV k hk'
   exact ⟨q1,by rw [rn k this]; exact q2⟩
 . have hv':zaK (up s.deed d { s.deed d with st:=.waiting,wish:=some a } e).done k=some v:=hv
   rw [dn e] at hv'
   exact c.bOwn e ((actE e).mp he) k v hv'
 . rw [kb]
   refine c.zgs k λ e he=>?_
   have q:zaK (up s.deed d { s.deed d with st:=.waiting,wish:=some a } e).done k=none:=hk' e ((actE e).mpr he)
   rw [dn e] at q; exact q
 . rw [kb,<-c.ser]; exact zcs λ e _=>dn e
 . rw [kb]
   show (replay (up s.deed d _ e).done _).isSome=true
   rw [dn e]; exact c.actR e ((actE e).mp he)
 . show e∈s.kept↔(up s.deed d _ e).st=.kept
   by_cases h:e=d
   . subst h; rw [ds]; exact ⟨λ z=>absurd rfl (nk _ z),λ z=>by cases z⟩
   . rw [dd e h]; exact c.zdi e
theorem Core.weaken {s:HS K} {x:Option Nat} (c:Core s none):Core s x :=
 ⟨c.out,c.hAct,c.hNd,c.hEx,c.rAct,c.rNd,λ d _=>c.wRow d (λ z=>by cases z),c.zf3,c.zfK,c.zeV,c.bOwn,c.zgs,c.ser,c.actR,c.zdi,c.zhO⟩
theorem Core.wish {s:HS K} {d:Nat} {a:Act K} (c:Core s none) (hd:(s.deed d).st=.zan):Core (TH.wish ord s d a) none:=by
 have c1:Core (TH.see s a.key) none:=c.see
 have nor:∀ k w',(d,w')∉(TH.see s a.key).rows k:=λ k w' z=>by
   have:=(c1.rAct k _ z).1
   have this':(s.deed d).st=.waiting:=this
   rw [hd] at this'; cases this'
 unfold TH.wish
 dsimp only
 by_cases h1:look ((TH.see s a.key).held a.key) d=some a.wr\/look ((TH.see s a.key).held a.key) d=some true
 . rw [if_pos h1]
   rcases h1 with h1 | h1
   . exact Core.doIt (w:=a.wr) c1.weaken (.inl hd) nor (zc5 h1) id
   . exact Core.doIt (w:=true) c1.weaken (.inl hd) nor (zc5 h1) λ _=>rfl
 . rw [if_neg h1]
   have hw:∀ w',(d,w')∈(TH.see s a.key).held a.key->w'=false/\a.wr=true:=λ w' z=>by
     have q:=zcS (c1.hNd _) z
     cases hw':w' with
     | true=>exact absurd (.inr (hw' ▸ q)) h1
     | false =>
       cases ha:a.wr with
       | true=>exact ⟨rfl,rfl⟩
       | false=>exact absurd (.inl (by rw [ha,q,hw'])) h1
   by_cases h2:lets ((TH.see s a.key).held a.key) d a.wr=true/\(has ((TH.see s a.key).held a.key) d=true\/(TH.see s a.key).rows a.key=[])
   . rw [if_pos h2]
     refine Core.doIt (w:=a.wr) (c1.weaken.take (.inl hd) h2.1 (λ hf w' z=>?_) (λ w'=>nor _ w') zb5) (.inl hd) nor ?_ id
     . have:=(hw w' z).2; rw [hf] at this; cases this
     . show (d,a.wr)∈up (TH.see s a.key).held a.key _ a.key
       rw [zag]; exact zaT.mpr (.inl rfl)
   . rw [if_neg h2]
     exact Core.settle ord (c1.wait hd zb5 hw)
end
end TH
end
section
namespace TH
section
variable {K:Type} [DecidableEq K]
theorem zct (s:HS K) (d:Nat) (a:Act K):(doIt s d a).held=s.held:=by unfold doIt; split <;> rfl
theorem zcU (s:HS K) (d:Nat) (a:Act K):(doIt s d a).rows=s.rows:=by unfold doIt; split <;> rfl
theorem zce (s:HS K) (d:Nat) (a:Act K):(doIt s d a).seen=s.seen:=by unfold doIt; split <;> rfl
theorem zdN (s:HS K) (d:Nat) (a:Act K):(doIt s d a).n=s.n:=by unfold doIt; split <;> rfl
theorem zep (s:HS K) (d:Nat) (a:Act K):(doIt s d a).kept=s.kept:=by unfold doIt; split <;> rfl
theorem zcf (s:HS K) (d:Nat) (a:Act K) {e:Nat} (h:e≠d):(doIt s d a).deed e=s.deed e:=by unfold doIt; split <;> exact zam h
theorem zeo (s:HS K) (d:Nat) (a:Act K):((doIt s d a).deed d).st=.zan:=by
 unfold doIt
 split
 . show (up s.deed d _ d).st=_; rw [zag]
 . show (up s.deed d _ d).st=_; rw [zag]
theorem zeA {s:HS K} {k:K} {d:Nat} {w:Bool} {r:List (Nat×Bool)} {a:Act K} {f:Nat} (hr:s.rows k=(d,w)::r) (hl:lets (s.held k) d w=true) (ha:(s.deed d).wish=some a) :
  zbt (f+1) s k=zbt f (doIt (take { s with rows:=up s.rows k r } d k w) d a) k:=by
 conv=>lhs; unfold zbt
 rw [hr]
 simp only [hl,if_true,ha]
theorem zez {s:HS K} {k:K} {d:Nat} {w:Bool} {r:List (Nat×Bool)} {f:Nat} (hr:s.rows k=(d,w)::r) (hl:lets (s.held k) d w=false):zbt f s k=s:=by
 cases f with
 | zero=>rfl
 | succ f =>
  unfold zbt
  rw [hr]
  simp [hl]
theorem zfG {s:HS K} {k:K} {f:Nat} (hr:s.rows k=[]):zbt f s k=s:=by
 cases f with
 | zero=>rfl
 | succ f=>unfold zbt; rw [hr]
theorem zen {k:K} (P:HS K->Prop) (step:∀ s d w r a,Core s none->s.rows k=(d,w)::r->lets (s.held k) d w=true->(s.deed d).wish=some a->P s->P (doIt (take { s with rows:=up s.rows k r } d k w) d a)) :
  ∀ (f:Nat) (s:HS K),Core s none->P s->P (zbt f s k)
 | 0,s,c,h=>h
 | f+1,s,c,h=>by
  cases hr:s.rows k with
  | nil=>rw [zfG hr]; exact h
  | cons p r =>
   obtain ⟨d,w⟩:=p
   cases hl:lets (s.held k) d w with
   | false=>rw [zez hr hl]; exact h
   | true =>
    obtain ⟨_,a,ha,_⟩:=c.rAct k (d,w) (by rw [hr]; exact List.mem_cons_self)
    rw [zeA hr hl ha]
    exact zen P step f _ (c.zpn hr hl ha) (step s d w r a c hr hl ha h)
theorem zbv (P:HS K->Prop) (step:∀ s k d w r a,Core s none->s.rows k=(d,w)::r->lets (s.held k) d w=true->(s.deed d).wish=some a->P s->P (doIt (take { s with rows:=up s.rows k r } d k w) d a)) :
  ∀ (ks:List K) (s:HS K),Core s none->P s->P (zaG s ks)
 | [],s,c,h=>h
 | k::r,s,c,h=>by
  unfold zaG
  exact zbv P step r _ c.zbt (zen P (λ s=>step s k) _ s c h)
def znv (s:HS K) (k:K):Prop:=∀ d w r,s.rows k=(d,w)::r->lets (s.held k) d w=false
def Head (s:HS K):Prop:=∀ k,znv s k
theorem zhU {k k':K} (h:k'≠k) (f:Nat) (s:HS K) (c:Core s none):(zbt f s k).rows k'=s.rows k'/\(zbt f s k).held k'=s.held k':=by
 refine zen (k:=k) (λ t=>t.rows k'=s.rows k'/\t.held k'=s.held k') (λ t d w r a _ _ _ _ q=>?_) f s c ⟨rfl,rfl⟩
 rw [zcU,zct]
 exact ⟨(zam h).trans q.1,(zam h).trans q.2⟩
theorem zi1 {k:K}:∀ (f:Nat) (s:HS K),Core s none->(s.rows k).length<=f->znv (zbt f s k) k
 | 0,s,c,h=>λ d w r e=>by
  have:s.rows k=[]:=List.length_eq_zero_iff.mp (by omega)
  have e':s.rows k=(d,w)::r:=e
  rw [this] at e'; cases e'
 | f+1,s,c,h=>by
  cases hr:s.rows k with
  | nil=>rw [zfG hr]; intro d w r e; rw [hr] at e; cases e
  | cons p r =>
   obtain ⟨d,w⟩:=p
   cases hl:lets (s.held k) d w with
   | false=>rw [zez hr hl]; intro d' w' r' e; rw [hr] at e; cases e; exact hl
   | true =>
    obtain ⟨_,a,ha,_⟩:=c.rAct k (d,w) (by rw [hr]; exact List.mem_cons_self)
    rw [zeA hr hl ha]
    refine zi1 f _ (c.zpn hr hl ha) ?_
    rw [zcU]
    show (up s.rows k r k).length<=f
    rw [zag]
    rw [hr] at h
    simpa using h
theorem zhT:∀ (ks:List K) (s:HS K),Core s none->∀ k,(k∈ks->znv (zaG s ks) k)/\(k∉ks->(zaG s ks).rows k=s.rows k/\(zaG s ks).held k=s.held k)
 | [],s,c,k=>⟨λ h=>(by cases h),λ _=>⟨rfl,rfl⟩⟩
 | k₀::r,s,c,k=>by
  unfold zaG
  obtain ⟨h1,h2⟩:=zhT r _ (c.zbt (k:=k₀) (f:=(s.rows k₀).length)) k
  refine ⟨λ hk=>?_,λ hk=>?_⟩
  . by_cases hr:k∈r
    . exact h1 hr
    . have e:k=k₀:=(List.mem_cons.mp hk).resolve_right hr
      subst e
      obtain ⟨q1,q2⟩:=h2 hr
      intro d w r' e
      rw [q1] at e
      rw [q2]
      exact zi1 _ s c (Nat.le_refl _) d w r' e
  . obtain ⟨q1,q2⟩:=h2 λ z=>hk (List.mem_cons_of_mem _ z)
    obtain ⟨p1,p2⟩:=zhU (k':=k) (λ z=>hk (by rw [z]; exact List.mem_cons_self)) (s.rows k₀).length s c
    exact ⟨q1.trans p1,q2.trans p2⟩
theorem zdH (ks:List K) (s:HS K) (c:Core s none):(zaG s ks).seen=s.seen :=
 zbv (λ t=>t.seen=s.seen) (λ t k d w r a _ _ _ _ q=>by rw [zce]; exact q) ks s c rfl
theorem zjN (ks:List K) (s:HS K) (c:Core s none):(zaG s ks).n=s.n :=
 zbv (λ t=>t.n=s.n) (λ t k d w r a _ _ _ _ q=>by rw [zdN]; exact q) ks s c rfl
variable (ord:List K->List K) (hord:∀ l k,k∈ord l↔k∈l)
include hord
theorem zla {s:HS K} {d:Nat} (c:Core (letGo s d) none):Head (free ord s d):=by
 intro k
 by_cases hk:k∈s.seen
 . exact (zhT (ord s.seen) _ c k).1 ((hord _ _).mpr hk)
 . intro d' w r e
   have c':Core (free ord s d) none:=c.zaG
   have:=(c'.zeV k (by unfold free; rw [zdH _ _ c]; exact hk)).2
   rw [this] at e; cases e
theorem Head.keep {s:HS K} {d:Nat} (c:Core s none) (hd:(s.deed d).act):Head (TH.keep ord s d):=zla ord hord (c.keeps hd)
theorem Head.drop {s:HS K} {d:Nat} (c:Core s none) (hd:(s.deed d).act):Head (TH.drop ord s d):=zla ord hord (c.drops hd)
theorem Head.settle:∀ {f:Nat} {s:HS K},Core s none->Head s->Head (TH.settle ord f s)
 | 0,s,c,h=>h
 | f+1,s,c,h=>by
  unfold TH.settle
  split
  . exact h
  . rename_i d hd
    have q:=zbD (List.mem_of_getLast? hd)
    have ha:(s.deed d).act:=.inr (zaI q.2)
    exact Head.settle (c.drop ord ha) (Head.drop ord hord c ha)
theorem zr3 {h:List (Nat×Bool)} {d:Nat}:has h d=true↔∃ w,(d,w)∈h:=zic
theorem Head.wish {s:HS K} {d:Nat} {a:Act K} (c:Core s none) (h:Head s) (hd:(s.deed d).st=.zan):Head (TH.wish ord s d a):=by
 have c1:Core (TH.see s a.key) none:=c.see
 have h':Head (TH.see s a.key):=h
 have nor:∀ k w',(d,w')∉(TH.see s a.key).rows k:=λ k w' z=>by
   have:=(c1.rAct k _ z).1
   have this':(s.deed d).st=.waiting:=this
   rw [hd] at this'; cases this'
 unfold TH.wish
 dsimp only
 by_cases h1:look ((TH.see s a.key).held a.key) d=some a.wr\/look ((TH.see s a.key).held a.key) d=some true
 . rw [if_pos h1]
   intro k e w r q
   rw [zcU] at q; rw [zct]
   exact h' k e w r q
 . rw [if_neg h1]
   have hw:∀ w',(d,w')∈(TH.see s a.key).held a.key->w'=false/\a.wr=true:=λ w' z=>by
     have q:=zcS (c1.hNd _) z
     cases hw':w' with
     | true=>exact absurd (.inr (hw' ▸ q)) h1
     | false =>
       cases ha:a.wr with
       | true=>exact ⟨rfl,rfl⟩
       | false=>exact absurd (.inl (by rw [ha,q,hw'])) h1
   by_cases h2:lets ((TH.see s a.key).held a.key) d a.wr=true/\(has ((TH.see s a.key).held a.key) d=true\/(TH.see s a.key).rows a.key=[])
   . rw [if_pos h2]
     intro k e w r q
     rw [zcU] at q; rw [zct]
     have q':(TH.see s a.key).rows k=(e,w)::r:=q
     show lets (up (TH.see s a.key).held a.key _ k) e w=false
     by_cases hk:k=a.key
     . subst hk
       rw [zag]
       rcases h2.2 with z | z
       . obtain ⟨w',hw'⟩:=zr3 ord hord |>.mp z
         have aw:=(hw w' hw').2
         have hne:e≠d:=λ y=>nor a.key w (by rw [<-y,q']; exact List.mem_cons_self)
         cases hl:lets (zbf ((TH.see s a.key).held a.key) d a.wr) e w with
         | false=>rfl
         | true =>
          have:=(zjJ.mp hl (d,a.wr) (zaT.mpr (.inl rfl)) (Ne.symm hne)).2
          have this':a.wr=false:=this
          rw [aw] at this'; cases this'
       . rw [z] at q'; cases q'
     . rw [zam hk]; exact h' k e w r q'
   . rw [if_neg h2]
     refine Head.settle ord hord (c1.wait hd zb5 hw) λ k e w r q=>?_
     show lets ((TH.see s a.key).held k) e w=false
     by_cases hk:k=a.key
     . subst hk
       have q':(if has ((TH.see s a.key).held a.key) d then (d,a.wr)::(TH.see s a.key).rows a.key else (TH.see s a.key).rows a.key++[(d,a.wr)])=(e,w)::r:=by
         rw [<-q]; exact zag.symm
       cases hh:has ((TH.see s a.key).held a.key) d with
       | true =>
         rw [hh] at q'
         simp only [if_true] at q'
         injection q' with e1 e2
         have e3:d=e:=congrArg Prod.fst e1
         have e4:a.wr=w:=congrArg Prod.snd e1
         subst e3 e4
         cases hl:lets ((TH.see s a.key).held a.key) d a.wr with
         | false=>rfl
         | true=>exact absurd ⟨hl,.inl hh⟩ h2
       | false =>
         rw [hh] at q'
         simp only [Bool.false_eq_true,if_false] at q'
         cases hr:(TH.see s a.key).rows a.key with
         | nil =>
          rw [hr] at q'
          simp only [List.nil_append] at q'
          injection q' with e1 e2
          have e3:d=e:=congrArg Prod.fst e1
          have e4:a.wr=w:=congrArg Prod.snd e1
          subst e3 e4
          cases hl:lets ((TH.see s a.key).held a.key) d a.wr with
          | false=>rfl
          | true=>exact absurd ⟨hl,.inr hr⟩ h2
         | cons p t =>
          rw [hr] at q'
          simp only [List.cons_append] at q'
          injection q' with e1 e2
          subst e1
          exact h' a.key e w t hr
     . have q':(TH.see s a.key).rows k=(e,w)::r:=by rw [<-q]; exact (zam hk).symm
       exact h' k e w r q'
omit hord
def Acyc (s:HS K):Prop:=∀ d,¬ Reach s d d
theorem Reach.mono {s t:HS K} (h:∀ d e,e∈zbQ t d->e∈zbQ s d) {d e:Nat} (r:Reach t d e):Reach s d e:=by
 induction r with
 | one q=>exact .one (h _ _ q)
 | step q _ ih=>exact .step (h _ _ q) ih
theorem Acyc.mono {s t:HS K} (a:Acyc s) (h:∀ d e,e∈zbQ t d->e∈zbQ s d):Acyc t:=λ d r=>a d (r.mono h)
theorem Reach.trans {s:HS K} {d e f:Nat} (r:Reach s d e) (q:Reach s e f):Reach s d f:=by
 induction r with
 | one z=>exact .step z q
 | step z _ ih=>exact .step z (ih q)
theorem zbe {s:HS K} {d e:Nat}:e∈zbQ s d↔∃ a,(s.deed d).st=.waiting/\(s.deed d).wish=some a /\
   ((∃ w,(e,w)∈(s.rows a.key).takeWhile λ p=>p.1 != d)\/∃ w,(e,w)∈s.held a.key/\e≠d/\(a.wr=true\/w=true)):=by
 unfold zbQ
 split
 . rename_i a h1 h2
   rw [List.mem_append,List.mem_map,List.mem_map]
   refine ⟨λ z=>⟨a,h1,h2,?_⟩,λ ⟨b,q1,q2,z⟩=>?_⟩
   . rcases z with ⟨p,hp,rfl⟩ | ⟨p,hp,rfl⟩
     . exact .inl ⟨p.2,hp⟩
     . rw [List.mem_filter] at hp
       obtain ⟨y1,y2⟩:=hp
       simp only [Bool.and_eq_true,bne_iff_ne,Bool.or_eq_true] at y2
       exact .inr ⟨p.2,y1,y2.1,y2.2⟩
   . rw [h2] at q2; cases q2
     rcases z with ⟨w,hw⟩ | ⟨w,hw,y1,y2⟩
     . exact .inl ⟨_,hw,rfl⟩
     . refine .inr ⟨(e,w),List.mem_filter.mpr ⟨hw,?_⟩,rfl⟩
       simp only [Bool.and_eq_true,bne_iff_ne,Bool.or_eq_true]
       exact ⟨y1,y2⟩
 . rename_i h
   refine ⟨λ z=>(by cases z),λ ⟨a,q1,q2,_⟩=>(h a q1 q2).elim⟩
theorem zih {l:List (Nat×Bool)} {d e:Nat} (hne:e≠d) {p:Nat×Bool}:p∈(less l d).takeWhile (λ p=>p.1 != e)->p∈l.takeWhile λ p=>p.1 != e:=by
 induction l with
 | nil=>exact id
 | cons x r ih =>
  intro hp
  by_cases hx:x.1=d
  . have e1:less (x::r) d=less r d:=by unfold less; rw [List.filter_cons_of_neg (by simp [hx])]
    rw [e1] at hp
    rw [List.takeWhile_cons_of_pos (by simp [hx]; exact Ne.symm hne)]
    exact List.mem_cons_of_mem _ (ih hp)
  . have e1:less (x::r) d=x::less r d:=by unfold less; rw [List.filter_cons_of_pos (by simp [hx])]
    rw [e1] at hp
    by_cases hy:x.1=e
    . rw [List.takeWhile_cons_of_neg (by simp [hy])] at hp; cases hp
    . rw [List.takeWhile_cons_of_pos (by simp [hy])] at hp ⊢
      rcases List.mem_cons.mp hp with z | z
      . exact List.mem_cons.mpr (.inl z)
      . exact List.mem_cons_of_mem _ (ih z)
theorem zeU {s:HS K} {d:Nat} {t:DS} {bk:Book K} {kp:List Nat} {lg:List (Row K)} (ht:t≠.waiting):∀ e x,x∈zbQ (letGo { s with deed:=up s.deed d { s.deed d with st:=t },book:=bk,kept:=kp,log:=lg } d) e->x∈zbQ s e:=by
 intro e x hx
 obtain ⟨a,h1,h2,h3⟩:=zbe.mp hx
 have hne:e≠d:=λ z=>by
   subst z
   have h1':(up s.deed e { s.deed e with st:=t } e).st=.waiting:=h1
   rw [zag] at h1'
   exact ht h1'
 have de:up s.deed d { s.deed d with st:=t } e=s.deed e:=zam hne
 have h1':(up s.deed d { s.deed d with st:=t } e).st=.waiting:=h1
 have h2':(up s.deed d { s.deed d with st:=t } e).wish=some a:=h2
 rw [de] at h1' h2'
 refine zbe.mpr ⟨a,h1',h2',?_⟩
 rcases h3 with ⟨w,hw⟩ | ⟨w,hw,y1,y2⟩
 . exact .inl ⟨w,zih hne hw⟩
 . exact .inr ⟨w,(zcI.mp hw).1,y1,y2⟩
theorem zkf {s:HS K} {k:K} {d:Nat} {w:Bool} {r:List (Nat×Bool)} {a:Act K} (hr:s.rows k=(d,w)::r) :
   ∀ e x,x∈zbQ (doIt (take { s with rows:=up s.rows k r } d k w) d a) e->x∈zbQ s e:=by
 intro e x hx
 obtain ⟨b,h1,h2,h3⟩:=zbe.mp hx
 have hne:e≠d:=λ z=>by
   subst z
   rw [zeo] at h1; cases h1
 rw [zcf _ _ _ hne] at h1 h2
 rw [zcU,zct] at h3
 refine zbe.mpr ⟨b,h1,h2,?_⟩
 by_cases hk:b.key=k
 . have e1:(take { s with rows:=up s.rows k r } d k w).rows b.key=r:=by show up s.rows k r b.key=r; rw [hk,zag]
   have e2:(take { s with rows:=up s.rows k r } d k w).held b.key=zbf (s.held k) d w:=by show up s.held k (zbf (s.held k) d w) b.key=_; rw [hk,zag]
   rw [e1,e2] at h3
   rw [hk,hr,List.takeWhile_cons_of_pos (by simp; exact Ne.symm hne)]
   rcases h3 with ⟨v,hv⟩ | ⟨v,hv,y1,y2⟩
   . exact .inl ⟨v,List.mem_cons_of_mem _ hv⟩
   . rcases zaT.mp hv with z | ⟨z1,z2⟩
     . exact .inl ⟨w,by have z':x=d:=congrArg Prod.fst z; rw [z']; exact List.mem_cons_self⟩
     . exact .inr ⟨v,z1,y1,y2⟩
 . have e1:(take { s with rows:=up s.rows k r } d k w).rows b.key=s.rows b.key:=zam hk
   have e2:(take { s with rows:=up s.rows k r } d k w).held b.key=s.held b.key:=zam hk
   rw [e1,e2] at h3
   exact h3
theorem zd3 {s:HS K} {ks:List K} (c:Core s none):∀ e x,x∈zbQ (zaG s ks) e->x∈zbQ s e :=
 zbv (λ t=>∀ e x,x∈zbQ t e->x∈zbQ s e) (λ t k d w r a _ hr _ _ q e x hx=>q e x (zkf hr e x hx)) ks s c λ _ _ h=>h
theorem Acyc.keep {s:HS K} {d:Nat} (c:Core s none) (hd:(s.deed d).act) (a:Acyc s):Acyc (TH.keep ord s d) :=
 a.mono λ e x hx=>zeU (t:=.kept) (by decide) e x (zd3 (c.keeps hd) e x hx)
theorem Acyc.drop {s:HS K} {d:Nat} (c:Core s none) (hd:(s.deed d).act) (a:Acyc s):Acyc (TH.drop ord s d) :=
 a.mono λ e x hx=>zeU (t:=.dropped) (by decide) e x (zd3 (c.drops hd) e x hx)
def actB (D:Deed K):Bool:=D.st == .zan || D.st == .waiting
theorem zaH {D:Deed K}:actB D=true↔D.act:=by unfold actB Deed.act; simp
def actN (s:HS K):Nat:=(List.range s.n).countP λ d=>actB (s.deed d)
theorem zer {α:Type} {p q:α->Bool}:∀ {l:List α},(∀ x∈l,q x=true->p x=true)->(∃ x∈l,p x=true/\q x=false)->l.countP q < l.countP p
 | [],_,⟨_,h,_⟩=>by cases h
 | a::r,h,⟨x,hx,px,qx⟩=>by
  have hr:∀ y∈r,q y=true->p y=true:=λ y hy=>h y (List.mem_cons_of_mem _ hy)
  have le:r.countP q<=r.countP p:=List.countP_mono_left hr
  rcases List.mem_cons.mp hx with z | z
  . subst z
    rw [List.countP_cons_of_pos px,List.countP_cons_of_neg (by simp [qx])]
    omega
  . have lt:=zer hr ⟨x,z,px,qx⟩
    by_cases hq:q a=true
    . rw [List.countP_cons_of_pos hq,List.countP_cons_of_pos (h a List.mem_cons_self hq)]; omega
    . rw [List.countP_cons_of_neg hq]
      by_cases hp:p a=true
      . rw [List.countP_cons_of_pos hp]; omega
      . rw [List.countP_cons_of_neg hp]; exact lt
theorem zi9 {s:HS K} {ks:List K} (c:Core s none):∀ e,((zaG s ks).deed e).act↔(s.deed e).act :=
 zbv (λ t=>∀ e,(t.deed e).act↔(s.deed e).act) (λ t k d w r a c' hr _ _ q e=>by
  by_cases h:e=d
  . subst h
    have hw:=(c'.rAct k (e,w) (by rw [hr]; exact List.mem_cons_self)).1
    exact ⟨λ _=>(q e).mp (.inr hw),λ _=>.inl (zeo _ _ _)⟩
  . rw [zcf _ _ _ h]; exact q e) ks s c λ _=>Iff.rfl
theorem zqU {s:HS K} {d:Nat} (c:Core s none) (hd:(s.deed d).act) (e:Nat):((TH.drop ord s d).deed e).act↔e≠d/\(s.deed e).act:=by
 refine (zi9 (c.drops hd) e).trans ?_
 show (up s.deed d { s.deed d with st:=.dropped } e).act↔_
 by_cases h:e=d
 . subst h; rw [zag]; exact ⟨λ z=>(by rcases z with z | z <;> cases z),λ z=>absurd rfl z.1⟩
 . rw [zam h]; exact ⟨λ z=>⟨h,z⟩,λ z=>z.2⟩
theorem zqT {s:HS K} {d:Nat} (c:Core s none) (hd:(s.deed d).act) (e:Nat):((TH.keep ord s d).deed e).act↔e≠d/\(s.deed e).act:=by
 refine (zi9 (c.keeps hd) e).trans ?_
 show (up s.deed d { s.deed d with st:=.kept } e).act↔_
 by_cases h:e=d
 . subst h; rw [zag]; exact ⟨λ z=>(by rcases z with z | z <;> cases z),λ z=>absurd rfl z.1⟩
 . rw [zam h]; exact ⟨λ z=>⟨h,z⟩,λ z=>z.2⟩
theorem zkT {s:HS K} {d:Nat} (c:Core s none) (hd:(s.deed d).act):(TH.drop ord s d).n=s.n:=zjN _ _ (c.drops hd)
theorem znd {s:HS K} {d:Nat} (c:Core s none) (hd:(s.deed d).act):(TH.keep ord s d).n=s.n:=zjN _ _ (c.keeps hd)
theorem zpT {s t:HS K} {d:Nat} (hn:t.n=s.n) (h:∀ e,(t.deed e).act↔e≠d/\(s.deed e).act) (hd:(s.deed d).act) (hlt:d < s.n):actN t < actN s:=by
 unfold actN
 rw [hn]
 refine zer (λ e _ q=>zaH.mpr ((h e).mp (zaH.mp q)).2) ⟨d,List.mem_range.mpr hlt,zaH.mpr hd,?_⟩
 cases q:actB (t.deed d) with
 | false=>rfl
 | true=>exact absurd rfl ((h d).mp (zaH.mp q)).1
theorem zlu {s:HS K} {d:Nat} (c:Core s none) (hd:(s.deed d).act):actN (TH.drop ord s d) < actN s:=zpT (zkT ord c hd) (zqU ord c hd) hd (c.lt hd)
theorem zpU {s:HS K} {d:Nat} (c:Core s none) (hd:(s.deed d).act):actN (TH.keep ord s d) < actN s:=zpT (znd ord c hd) (zqT ord c hd) hd (c.lt hd)
theorem znO {s:HS K} (c:Core s none) (h:rings s=[]):Acyc s:=λ d r=>by
 have hd:=c.lt (d:=d) (.inr (zaI r))
 have:d∈rings s:=by
  unfold rings
  rw [List.mem_filter]
  exact ⟨List.mem_range.mpr hd,@decide_eq_true _ (_) r⟩
 rw [h] at this; cases this
theorem zhe:∀ {f:Nat} {s:HS K},Core s none->actN s<=f->Acyc (TH.settle ord f s)
 | 0,s,c,h=>λ d r=>by
  have hd:(s.deed d).act:=.inr (zaI r)
  have hlt:=c.lt hd
  have:0 < actN s:=by
    unfold actN
    exact List.countP_pos_iff.mpr ⟨d,List.mem_range.mpr hlt,zaH.mpr hd⟩
  omega
 | f+1,s,c,h=>by
  unfold TH.settle
  split
  . rename_i q
    exact znO c (List.getLast?_eq_none_iff.mp q)
  . rename_i d hd
    have q:=zbD (List.mem_of_getLast? hd)
    have ha:(s.deed d).act:=.inr (zaI q.2)
    refine zhe (c.drop ord ha) ?_
    have:=zlu ord c ha
    omega
theorem zmx (s:HS K):actN s<=s.n:=by
 unfold actN
 have:=List.countP_le_length (p:=λ d=>actB (s.deed d)) (l:=List.range s.n)
 rwa [List.length_range] at this
theorem Acyc.za1 {s:HS K} (c:Core s none) (a:Acyc s):Acyc (TH.za1 s):=a.mono λ e x hx=>by
 obtain ⟨b,h1,h2,h3⟩:=zbe.mp hx
 have h1':(up s.deed s.n ⟨.zan,[],none⟩ e).st=.waiting:=h1
 have h2':(up s.deed s.n ⟨.zan,[],none⟩ e).wish=some b:=h2
 have hne:e≠s.n:=λ z=>by subst z; rw [zag] at h1'; cases h1'
 rw [zam hne] at h1' h2'
 exact zbe.mpr ⟨b,h1',h2',h3⟩
theorem Acyc.into {s t:HS K} {d:Nat} (a:Acyc s) (hd:(t.deed d).st≠.waiting) (h:∀ e x,x∈zbQ t e->x=d\/x∈zbQ s e):Acyc t:=by
 have key:∀ x y,Reach t x y->y=d\/Reach s x y:=λ x y r=>by
   induction r with
   | one q=>exact (h _ _ q).imp id .one
   | step q r ih =>
    rcases h _ _ q with z | z
    . subst z; exact absurd (zaI r) hd
    . exact ih.imp id (.step z)
 intro x r
 rcases key x x r with z | z
 . subst z; exact hd (zaI r)
 . exact a x z
theorem Acyc.wish {s:HS K} {d:Nat} {a:Act K} (c:Core s none) (ac:Acyc s) (hd:(s.deed d).st=.zan):Acyc (TH.wish ord s d a):=by
 have c1:Core (TH.see s a.key) none:=c.see
 have ac1:Acyc (TH.see s a.key):=ac.mono λ e x hx=>hx
 unfold TH.wish
 dsimp only
 have zan:∀ (t:HS K),t.deed=(TH.see s a.key).deed->∀ e x,x∈zbQ (doIt t d a) e->e≠d/\∃ b,((TH.see s a.key).deed e).st=.waiting/\((TH.see s a.key).deed e).wish=some b /\
     ((∃ w,(x,w)∈(t.rows b.key).takeWhile λ p=>p.1 != e)\/∃ w,(x,w)∈t.held b.key/\x≠e/\(b.wr=true\/w=true)):=λ t ht e x hx=>by
   obtain ⟨b,h1,h2,h3⟩:=zbe.mp hx
   have hne:e≠d:=λ z=>by subst z; rw [zeo] at h1; cases h1
   rw [zcf _ _ _ hne,ht] at h1 h2
   rw [zcU,zct] at h3
   exact ⟨hne,b,h1,h2,h3⟩
 by_cases h1:look ((TH.see s a.key).held a.key) d=some a.wr\/look ((TH.see s a.key).held a.key) d=some true
 . rw [if_pos h1]
   refine ac1.mono λ e x hx=>?_
   obtain ⟨_,b,q1,q2,q3⟩:=zan _ rfl e x hx
   exact zbe.mpr ⟨b,q1,q2,q3⟩
 . rw [if_neg h1]
   by_cases h2:lets ((TH.see s a.key).held a.key) d a.wr=true/\(has ((TH.see s a.key).held a.key) d=true\/(TH.see s a.key).rows a.key=[])
   . rw [if_pos h2]
     refine ac1.into (d:=d) (by rw [zeo]; decide) λ e x hx=>?_
     obtain ⟨_,b,q1,q2,q3⟩:=zan (take (TH.see s a.key) d a.key a.wr) rfl e x hx
     by_cases hxd:x=d
     . exact .inl hxd
     . refine .inr (zbe.mpr ⟨b,q1,q2,q3.imp id λ ⟨w,hw,y⟩=>⟨w,?_,y⟩⟩)
       have hw':(x,w)∈up (TH.see s a.key).held a.key (zbf ((TH.see s a.key).held a.key) d a.wr) b.key:=hw
       by_cases hk:b.key=a.key
       . rw [hk,zag] at hw'
         rcases zaT.mp hw' with z | z
         . exact absurd (congrArg Prod.fst z) hxd
         . rw [hk]; exact z.1
       . rw [zam hk] at hw'; exact hw'
   . rw [if_neg h2]
     have hw:∀ w',(d,w')∈(TH.see s a.key).held a.key->w'=false/\a.wr=true:=λ w' z=>by
       have q:=zcS (c1.hNd _) z
       cases hw':w' with
       | true=>exact absurd (.inr (hw' ▸ q)) h1
       | false =>
         cases ha:a.wr with
         | true=>exact ⟨rfl,rfl⟩
         | false=>exact absurd (.inl (by rw [ha,q,hw'])) h1
     exact zhe ord (c1.wait hd zb5 hw) (zmx _)
theorem zkg {s:HS K} (c:Core s none) {d e:Nat} (h:e∈zbQ s d):(s.deed e).act:=by
 obtain ⟨a,h1,h2,h3⟩:=zbe.mp h
 rcases h3 with ⟨w,hw⟩ | ⟨w,hw,_⟩
 . exact .inr (c.rAct _ _ ((List.takeWhile_sublist _).mem hw)).1
 . exact c.hAct _ _ hw
theorem znz {s:HS K} (c:Core s none) (hh:Head s) {d:Nat} (h:(s.deed d).st=.waiting):∃ e,e∈zbQ s d:=by
 obtain ⟨a,h2,h3⟩:=c.wRow d (λ z=>by cases z) h
 cases hr:s.rows a.key with
 | nil=>rw [hr] at h3; cases h3
 | cons p r =>
  obtain ⟨e,w⟩:=p
  by_cases hed:e=d
  . subst hed
    have nd:=c.rNd a.key
    rw [hr] at nd h3
    have hw:w=a.wr:=by
      rcases List.mem_cons.mp h3 with z | z
      . exact (congrArg Prod.snd z).symm
      . exact absurd (List.mem_map.mpr ⟨_,z,rfl⟩) (List.nodup_cons.mp nd).1
    have hl:=hh a.key e w r hr
    by_cases hex:∃ p∈s.held a.key,p.1≠e/\(w=true\/p.2=true)
    . obtain ⟨p,hp,q1,q2⟩:=hex
      exact ⟨p.1,zbe.mpr ⟨a,h,h2,.inr ⟨p.2,hp,q1,by rw [<-hw]; exact q2⟩⟩⟩
    . have:lets (s.held a.key) e w=true:=zjJ.mpr λ p hp hn=>by
        refine ⟨?_,?_⟩
        . cases hw':w with
          | false=>rfl
          | true=>exact absurd ⟨p,hp,hn,.inl hw'⟩ hex
        . cases hp2:p.2 with
          | false=>rfl
          | true=>exact absurd ⟨p,hp,hn,.inr hp2⟩ hex
      rw [this] at hl; cases hl
  . refine ⟨e,zbe.mpr ⟨a,h,h2,.inl ⟨w,?_⟩⟩⟩
    rw [hr,List.takeWhile_cons_of_pos (by simp; exact hed)]
    exact List.mem_cons_self
open Classical in
theorem zeP {s:HS K} (c:Core s none) (hh:Head s) (ac:Acyc s):∀ (m:Nat) (d:Nat),((List.range s.n).countP λ x=>decide (Reach s d x))<=m->(s.deed d).act->∃ e,(s.deed e).st=.zan
 | m,d,hm,hd=>by
  rcases hd with hg | hw
  . exact ⟨d,hg⟩
  . obtain ⟨e,he⟩:=znz c hh hw
    have ea:=zkg c he
    have lt:((List.range s.n).countP λ x=>decide (Reach s e x)) < (List.range s.n).countP λ x=>decide (Reach s d x) :=
     zer (λ x _ q=>decide_eq_true (Reach.step he (of_decide_eq_true q))) ⟨e,List.mem_range.mpr (c.lt ea),decide_eq_true (Reach.one he),decide_eq_false (ac e)⟩
    cases m with
    | zero=>omega
    | succ m=>exact zeP c hh ac m e (by omega) ea
theorem znK {s:HS K} (c:Core s none) (hh:Head s) (ac:Acyc s) {d:Nat} (hd:(s.deed d).act):∃ e,(s.deed e).st=.zan:=zeP c hh ac _ d (Nat.le_refl _) hd
end
end TH
end
section
namespace TH
section
variable {K:Type} [DecidableEq K]
def zat (l:List (Act K)):List (K×Int):=l.filterMap λ a=>if a.wr then some (a.key,a.val) else none
def logW (l:List (Row K)) (d:Nat):List (K×Int):=l.filterMap λ r=>match r with
 | .write e k _ v=>if e=d then some (k,v) else none
 | _=>none
def logK (l:List (Row K)):List Nat:=l.filterMap λ r=>match r with
 | .keep d=>some d
 | _=>none
def logB (l:List (Row K)):List Nat:=l.filterMap λ r=>match r with
 | .begin d=>some d
 | _=>none
def goes (g:List Nat):Row K->List Nat
 | .begin d=>g++[d]
 | .write _ _ _ _=>g
 | .keep d=>g.erase d
 | .drop d=>g.erase d
def logG (l:List (Row K)):List Nat:=l.foldl goes []
structure Scan (K:Type) where
 book:K->Int
 bef:Nat->List (K×Int)
def undo (l:List (K×Int)) (b:K->Int):K->Int:=l.foldr (λ p bk=>up bk p.1 p.2) b
def scan1 (S:Scan K):Row K->Scan K
 | .begin _=>S
 | .write d k b v=>⟨up S.book k v,up S.bef d (S.bef d++[(k,b)])⟩
 | .keep _=>S
 | .drop d=>⟨undo (S.bef d) S.book,S.bef⟩
def scan (l:List (Row K)):Scan K:=l.foldl scan1 ⟨λ _=>0,λ _=>[]⟩
def ztD (l:List (Row K)):Row K->Prop
 | .begin d=>d=(logB l).length
 | .write d k b _=>d∈logG l/\b=(scan l).book k
 | .keep d=>d∈logG l
 | .drop d=>d∈logG l
inductive Wf:List (Row K)->Prop where
 | nil:Wf []
 | snoc {l:List (Row K)} {r:Row K}:Wf l->ztD l r->Wf (l++[r])
def first (l:List (K×Int)) (k:K):Option Int:=(l.find? λ p=>decide (p.1=k)).map (·.2)
theorem zoo (k:K) (b:K->Int):∀ l:List (K×Int),undo l b k=(first l k).getD (b k)
 | []=>rfl
 | p::r=>by
  show up (undo r b) p.1 p.2 k=_
  by_cases h:p.1=k
  . subst h; rw [zag]; unfold first; rw [List.find?_cons_of_pos (by simp)]; rfl
  . rw [zam (Ne.symm h),zoo k b r]; unfold first; rw [List.find?_cons_of_neg (by simpa using h)]
theorem zn5 (l:List (K×Int)) (k k':K) (b:Int):first (l++[(k,b)]) k'=match first l k' with | some v=>some v | none=>if k=k' then some b else none:=by
 unfold first
 rw [List.find?_append]
 cases h:l.find? λ p=>decide (p.1=k') with
 | some p=>rfl
 | none =>
  by_cases e:k=k'
  . simp [e]
  . simp [e]
theorem zhG (l:List (Row K)) (r:Row K) (d:Nat):logW (l++[r]) d=logW l d++(match r with | .write e k _ v=>if e=d then [(k,v)] else [] | _=>[]):=by
 unfold logW
 rw [List.filterMap_append]
 cases r with
 | write e k b v=>by_cases h:e=d <;> simp [h]
 | begin _=>rfl
 | keep _=>rfl
 | drop _=>rfl
theorem zhH (l:List (Row K)) (r:Row K):logK (l++[r])=logK l++(match r with | .keep d=>[d] | _=>[]):=by
 unfold logK
 rw [List.filterMap_append]
 cases r <;> rfl
theorem zfB (l:List (Row K)) (r:Row K):logB (l++[r])=logB l++(match r with | .begin d=>[d] | _=>[]):=by
 unfold logB
 rw [List.filterMap_append]
 cases r <;> rfl
theorem zhI (l:List (Row K)) (r:Row K):logG (l++[r])=goes (logG l) r:=by unfold logG; rw [List.foldl_append]; rfl
theorem scan_snoc (l:List (Row K)) (r:Row K):scan (l++[r])=scan1 (scan l) r:=by unfold scan; rw [List.foldl_append]; rfl
theorem zcD (l:List (Act K)) (a:Act K):zat (l++[a])=zat l++(if a.wr then [(a.key,a.val)] else []):=by
 unfold zat
 rw [List.filterMap_append]
 cases h:a.wr <;> simp [h]
structure zaS (s:HS K):Prop where
 w:∀ d,logW s.log d=zat (s.deed d).done
 k:logK s.log=s.kept
 b:logB s.log=List.range s.n
 g:logG s.log=(List.range s.n).filter λ d=>actB (s.deed d)
 bk:∀ k,(scan s.log).book k=(s.book k).getD 0
 bef:∀ d,(s.deed d).act->∀ k,first ((scan s.log).bef d) k=if (zaK (s.deed d).done k).isSome then some ((zaq s k).getD 0) else none
 befN:∀ d,s.n<=d->(scan s.log).bef d=[]
 wf:Wf s.log
theorem zcd {α:Type} {p q:α->Bool} {l:List α} (h:∀ x∈l,p x=q x):l.filter p=l.filter q:=List.filter_congr h
theorem zaS.znk {s:HS K} {x:Option Nat} (L:zaS s) (c:Core s x) {d:Nat} (hd:(s.deed d).act):d∈logG s.log:=by
 rw [L.g,List.mem_filter]; exact ⟨List.mem_range.mpr (c.lt hd),zaH.mpr hd⟩
theorem zaS.doIt {s:HS K} {d:Nat} {a:Act K} {w:Bool} (L:zaS s) (c:Core s (some d)) (hd:(s.deed d).act) (hh:(d,w)∈s.held a.key):zaS (doIt s d a):=by
 have actE:∀ e,actB ((TH.doIt s d a).deed e)=actB (s.deed e):=λ e=>by
  by_cases h:e=d
  . subst h
    rw [zaH.mpr hd,zaH.mpr (.inl (zeo s e a))]
  . rw [zcf s d a h]
 have nk:∀ e∈s.kept,e≠d:=λ e he z=>by subst z; exact zdI hd ((c.zdi _).mp he)
 have kb:zaq (TH.doIt s d a)=zaq s:=zbZ (zep s d a) λ e he=>by rw [zcf s d a (nk e he)]
 cases hwr:a.wr with
 | false =>
  have e1:TH.doIt s d a={ s with deed:=up s.deed d { s.deed d with st:=.zan,done:=(s.deed d).done++[⟨false,a.key,(s.book a.key).getD 0⟩] } }:=by
    unfold TH.doIt; rw [if_neg (by rw [hwr]; decide)]
  have dn:∀ e,zat ((TH.doIt s d a).deed e).done=zat (s.deed e).done/\∀ k,zaK ((TH.doIt s d a).deed e).done k=zaK (s.deed e).done k:=λ e=>by
    by_cases h:e=d
    . subst h
      rw [e1]
      show zat (up s.deed e _ e).done=_/\∀ k,zaK (up s.deed e _ e).done k=_
      rw [zag]
      refine ⟨?_,λ k=>?_⟩
      . show zat ((s.deed e).done++[_])=_
        rw [zcD]; simp
      . show zaK ((s.deed e).done++[_]) k=_
        rw [zex]; simp
    . rw [zcf s d a h]; exact ⟨rfl,λ _=>rfl⟩
  have el:(TH.doIt s d a).log=s.log:=by rw [e1]
  have eb:(TH.doIt s d a).book=s.book:=by rw [e1]
  refine ⟨λ e=>by rw [el,(dn e).1]; exact L.w e,by rw [el,zep]; exact L.k,by rw [el,zdN]; exact L.b,?_,λ k=>by rw [el,eb]; exact L.bk k,λ e he k=>?_,λ e he=>by rw [el]; exact L.befN e (by rw [zdN] at he; exact he),by rw [el]; exact L.wf⟩
  . rw [el,zdN,L.g]; exact zcd λ x _=>(actE x).symm
  . rw [el,(dn e).2 k,kb]; exact L.bef e (zaH.mp ((actE e).symm.trans (zaH.mpr he))) k
 | true =>
  have e1:TH.doIt s d a={ s with deed:=up s.deed d { s.deed d with st:=.zan,done:=(s.deed d).done++[a] },log:=s.log++[.write d a.key ((s.book a.key).getD 0) a.val],book:=up s.book a.key (some a.val) }:=by
    unfold TH.doIt; rw [if_pos hwr]
  have el:(TH.doIt s d a).log=s.log++[.write d a.key ((s.book a.key).getD 0) a.val]:=by rw [e1]
  have eb:(TH.doIt s d a).book=up s.book a.key (some a.val):=by rw [e1]
  have edd:((TH.doIt s d a).deed d).done=(s.deed d).done++[a]:=by rw [e1]; show (up s.deed d _ d).done=_; rw [zag]
  refine ⟨λ e=>?_,by rw [el,zhH,zep]; simp; exact L.k,by rw [el,zfB,zdN]; simp; exact L.b,?_,λ k=>?_,λ e he k=>?_,λ e he=>?_,?_⟩
  . rw [el,zhG]
    by_cases h:e=d
    . subst h; rw [edd,zcD,L.w e]; simp [hwr]
    . rw [zcf s d a h,L.w e]; simp [Ne.symm h]
  . rw [el,zhI,zdN]
    show logG s.log=_
    rw [L.g]; exact zcd λ x _=>(actE x).symm
  . rw [el,scan_snoc,eb]
    show up (scan s.log).book a.key a.val k=(up s.book a.key (some a.val) k).getD 0
    by_cases h:k=a.key
    . subst h; rw [zag,zag]; rfl
    . rw [zam h,zam h]; exact L.bk k
  . rw [el,scan_snoc,kb]
    show first (up (scan s.log).bef d ((scan s.log).bef d++[(a.key,(s.book a.key).getD 0)]) e) k=_
    by_cases h:e=d
    . subst h
      rw [zag,zn5,edd,zex,L.bef e hd k]
      cases hl:zaK (s.deed e).done k with
      | some v =>
        by_cases hk:a.wr=true/\a.key=k
        . simp [hk]
        . simp [hk,hl]
      | none =>
        by_cases hk:a.key=k
        . simp [hk,hwr]
          have q:=c.reads hd hh
          rw [zff,hk,hl] at q
          rw [q]
        . simp [hk,hl]
    . rw [zam h,zcf s d a h]
      rw [zcf s d a h] at he
      exact L.bef e he k
  . rw [zdN] at he
    rw [el,scan_snoc]
    show up (scan s.log).bef d _ e=[]
    have:e≠d:=λ z=>by subst z; have:=c.lt hd; omega
    rw [zam this]; exact L.befN e he
  . rw [el]
    exact .snoc L.wf ⟨L.znk c hd,(L.bk a.key).symm⟩
theorem zaS.ends {s:HS K} {d:Nat} {t:DS} {bk:Book K} {kp:List Nat} {r:Row K} (L:zaS s) (c:Core s none) (hd:(s.deed d).act) (ht:t=.kept\/t=.dropped)
   (hr:(t=.kept/\r=.keep d/\kp=s.kept++[d]/\bk=s.book)\/(t=.dropped/\r=.drop d/\kp=s.kept/\bk=λ k=>if (zaK (s.deed d).done k).isSome then zaq s k else s.book k)) :
   zaS (letGo { s with deed:=up s.deed d { s.deed d with st:=t },book:=bk,kept:=kp,log:=s.log++[r] } d):=by
 have dn:∀ e,(up s.deed d { s.deed d with st:=t } e).done=(s.deed e).done:=λ e=>by
   by_cases h:e=d
   . subst h; rw [zag]
   . rw [zam h]
 have actE:∀ e,(up s.deed d { s.deed d with st:=t } e).act↔e≠d/\(s.deed e).act:=λ e=>by
   by_cases h:e=d
   . subst h
     rw [zag]
     refine ⟨λ z=>?_,λ z=>absurd rfl z.1⟩
     rcases z with z | z <;> rcases ht with y | y <;> (have z':t=_:=z; rw [y] at z'; cases z')
   . rw [zam h]; exact ⟨λ z=>⟨h,z⟩,λ z=>z.2⟩
 have hg:(logG s.log).erase d=(List.range s.n).filter λ e=>actB (up s.deed d { s.deed d with st:=t } e):=by
   have nd:((List.range s.n).filter λ e=>actB (s.deed e)).Nodup:=List.nodup_range.sublist List.filter_sublist
   rw [L.g,nd.erase_eq_filter,List.filter_filter]
   refine zcd λ x _=>?_
   cases q:actB (up s.deed d { s.deed d with st:=t } x) with
   | true =>
     obtain ⟨q1,q2⟩:=(actE x).mp (zaH.mp q)
     simp [q1,zaH.mpr q2]
   | false =>
     by_cases h1:x=d
     . simp [h1]
     . cases h2:actB (s.deed x) with
       | false=>simp
       | true =>
        rw [zaH.mpr ((actE x).mpr ⟨h1,zaH.mp h2⟩)] at q; cases q
 have kbe:∀ k,zaq (letGo { s with deed:=up s.deed d { s.deed d with st:=t },book:=bk,kept:=kp,log:=s.log++[r] } d) k=if t=.kept then over (zaq s) (s.deed d).done k else zaq s k:=λ k=>by
   have e0:zaq (letGo { s with deed:=up s.deed d { s.deed d with st:=t },book:=bk,kept:=kp,log:=s.log++[r] } d)=zel s.deed kp λ _=>none:=zbo λ e _=>dn e
   rw [e0]
   rcases hr with ⟨h1,_,h3,_⟩ | ⟨h1,_,h3,_⟩
   . rw [if_pos h1,h3,zfD]; rfl
   . rw [if_neg (by rw [h1]; decide),h3]; rfl
 have sole:∀ e k,e≠d->(s.deed e).act->(zaK (s.deed e).done k).isSome=true->zaK (s.deed d).done k=none:=λ e k hne he hs=>by
   cases q:zaK (s.deed d).done k with
   | none=>rfl
   | some u =>
     cases q':zaK (s.deed e).done k with
     | none=>rw [q'] at hs; cases hs
     | some v =>
       obtain ⟨b,hb,bw,bkk⟩:=zek q'
       obtain ⟨w,z,_⟩:=c.zfK e he b hb
       rw [bkk] at z
       exact absurd (c.sole hd q z) hne
 have sc:(scan (s.log++[r])).bef=(scan s.log).bef:=by
   rw [scan_snoc]
   rcases hr with ⟨_,h2,_,_⟩ | ⟨_,h2,_,_⟩ <;> rw [h2] <;> rfl
 refine ⟨λ e=>?_,?_,?_,?_,λ k=>?_,λ e he k=>?_,λ e he=>?_,?_⟩
 . show logW (s.log++[r]) e=zat (up s.deed d _ e).done
   rw [zhG,dn e,L.w e]
   rcases hr with ⟨_,h2,_,_⟩ | ⟨_,h2,_,_⟩ <;> rw [h2] <;> simp
 . show logK (s.log++[r])=kp
   rw [zhH,L.k]
   rcases hr with ⟨_,h2,h3,_⟩ | ⟨_,h2,h3,_⟩ <;> rw [h2,h3] <;> simp
 . show logB (s.log++[r])=List.range s.n
   rw [zfB,L.b]
   rcases hr with ⟨_,h2,_,_⟩ | ⟨_,h2,_,_⟩ <;> rw [h2] <;> simp
 . show logG (s.log++[r])=(List.range s.n).filter λ e=>actB (up s.deed d _ e)
   rw [zhI,<-hg]
   rcases hr with ⟨_,h2,_,_⟩ | ⟨_,h2,_,_⟩ <;> rw [h2] <;> rfl
 . show (scan (s.log++[r])).book k=(bk k).getD 0
   rw [scan_snoc]
   rcases hr with ⟨_,h2,_,h4⟩ | ⟨_,h2,_,h4⟩
   . rw [h2,h4]; exact L.bk k
   . rw [h2,h4]
     show undo ((scan s.log).bef d) (scan s.log).book k=_
     rw [zoo,L.bef d hd k,L.bk k]
     cases q:zaK (s.deed d).done k with
     | none=>simp [q]
     | some v=>simp [q]
 . have he':(up s.deed d { s.deed d with st:=t } e).act:=he
   obtain ⟨h1,h2⟩:=(actE e).mp he'
   show first ((scan (s.log++[r])).bef e) k=if (zaK (up s.deed d _ e).done k).isSome then _ else _
   rw [sc,dn e,kbe k,L.bef e h2 k]
   cases hs:(zaK (s.deed e).done k).isSome with
   | false=>rfl
   | true =>
     simp
     by_cases ht':t=.kept
     . rw [if_pos ht',zff,sole e k h1 h2 hs]
     . rw [if_neg ht']
 . show (scan (s.log++[r])).bef e=[]
   rw [sc]; exact L.befN e he
 . refine .snoc L.wf ?_
   have:=L.znk c hd
   rcases hr with ⟨_,h2,_,_⟩ | ⟨_,h2,_,_⟩ <;> rw [h2] <;> exact this
theorem zaS.zaG {ks:List K} {s:HS K} (L:zaS s) (c:Core s none):zaS (TH.zaG s ks):=by
 refine zbv (λ t=>zaS t) (λ t k d w r a c' hr hl ha q=>?_) ks s c L
 have hm:(d,w)∈t.rows k:=by rw [hr]; exact List.mem_cons_self
 obtain ⟨hw,a',ea,ek,ew⟩:=c'.rAct k (d,w) hm
 have ea':some a=some a':=ha.symm.trans ea
 cases ea'
 have c2:Core (take { t with rows:=up t.rows k r } d k w) (some d):=by
  have nd:=c'.rNd k
  rw [hr] at nd
  have sub:∀ k' p,p∈(up t.rows k r) k'->p∈t.rows k':=λ k' p hp=>by
    by_cases h:k'=k
    . subst h; rw [zag] at hp; rw [hr]; exact List.mem_cons_of_mem _ hp
    . rw [zam h] at hp; exact hp
  have c1:Core { t with rows:=up t.rows k r } (some d):=by
    refine ⟨c'.out,c'.hAct,c'.hNd,c'.hEx,λ k' p hp=>c'.rAct k' p (sub k' p hp),λ k'=>?_,λ e he hwt=>?_,λ k' e v v' h1 h2=>c'.zf3 k' e v v' (sub k' _ h1) h2,c'.zfK,λ k' h'=>?_,c'.bOwn,c'.zgs,c'.ser,c'.actR,c'.zdi,c'.zhO⟩
    . by_cases h:k'=k
      . subst h; show ((up t.rows k' r k').map _).Nodup; rw [zag]; exact (List.nodup_cons.mp nd).2
      . show ((up t.rows k r k').map _).Nodup; rw [zam h]; exact c'.rNd k'
    . obtain ⟨b,q1,q2⟩:=c'.wRow e (λ z=>by cases z) hwt
      refine ⟨b,q1,?_⟩
      show (e,b.wr)∈up t.rows k r b.key
      by_cases h:b.key=k
      . rw [h,zag]
        rw [h,hr] at q2
        rcases List.mem_cons.mp q2 with z | z
        . exact absurd (congrArg some (congrArg Prod.fst z)) he
        . exact z
      . rw [zam h]; exact q2
    . obtain ⟨q1,q2⟩:=c'.zeV k' h'
      have:k'≠k:=λ z=>by subst z; rw [hr] at q2; cases q2
      exact ⟨q1,by show up t.rows k r k'=_; rw [zam this]; exact q2⟩
  refine c1.take (.inr hw) hl (λ hwf w' z=>?_) (λ w' z=>?_) ?_
  . obtain ⟨_,q⟩:=c'.zf3 k d w w' hm z
    rw [hwf] at q; cases q
  . have z':(d,w')∈up t.rows k r k:=z
    rw [zag] at z'
    exact (List.nodup_cons.mp nd).1 (List.mem_map.mpr ⟨_,z',rfl⟩)
  . by_cases z:k∈t.seen
    . exact z
    . have:=(c'.zeV k z).2; rw [hr] at this; cases this
 have q':zaS (take { t with rows:=up t.rows k r } d k w):=⟨q.w,q.k,q.b,q.g,q.bk,q.bef,q.befN,q.wf⟩
 refine q'.doIt (w:=w) c2 (.inr hw) ?_
 show (d,w)∈up t.held k (zbf (t.held k) d w) a.key
 rw [ek,zag]
 exact zaT.mpr (.inl rfl)
variable (ord:List K->List K)
theorem zaS.keep {s:HS K} {d:Nat} (L:zaS s) (c:Core s none) (hd:(s.deed d).act):zaS (TH.keep ord s d) :=
 (zaS.ends (t:=.kept) L c hd (.inl rfl) (.inl ⟨rfl,rfl,rfl,rfl⟩)).zaG (c.keeps hd)
theorem zaS.drop {s:HS K} {d:Nat} (L:zaS s) (c:Core s none) (hd:(s.deed d).act):zaS (TH.drop ord s d) :=
 (zaS.ends (t:=.dropped) L c hd (.inr rfl) (.inr ⟨rfl,rfl,rfl,rfl⟩)).zaG (c.drops hd)
theorem zaS.settle:∀ {f:Nat} {s:HS K},zaS s->Core s none->zaS (TH.settle ord f s)
 | 0,s,L,c=>L
 | f+1,s,L,c=>by
  unfold TH.settle
  split
  . exact L
  . rename_i d hd
    have q:=zbD (List.mem_of_getLast? hd)
    have ha:(s.deed d).act:=.inr (zaI q.2)
    exact zaS.settle (L.drop ord c ha) (c.drop ord ha)
theorem zaS.za1 {s:HS K} (L:zaS s) (c:Core s none):zaS (TH.za1 s):=by
 have o:=c.out s.n (Nat.le_refl _)
 have dn:∀ e,(up s.deed s.n ⟨.zan,[],none⟩ e).done=(s.deed e).done:=λ e=>by
   by_cases h:e=s.n
   . subst h; rw [zag,o.2]
   . rw [zam h]
 have kb:zaq (TH.za1 s)=zaq s:=zbo λ e _=>dn e
 have sc:scan (s.log++[.begin s.n])=scan s.log:=by rw [scan_snoc]; rfl
 refine ⟨λ e=>?_,?_,?_,?_,λ k=>?_,λ e he k=>?_,λ e he=>?_,?_⟩
 . show logW (s.log++[.begin s.n]) e=zat (up s.deed s.n _ e).done
   rw [zhG,dn e,L.w e]; simp
 . show logK (s.log++[.begin s.n])=s.kept
   rw [zhH,L.k]; simp
 . show logB (s.log++[.begin s.n])=List.range (s.n+1)
   rw [zfB,L.b,List.range_succ]
 . show logG (s.log++[.begin s.n])=(List.range (s.n+1)).filter λ e=>actB (up s.deed s.n _ e)
   rw [zhI,List.range_succ,List.filter_append]
   show logG s.log++[s.n]=_
   rw [L.g]
   congr 1
   . refine zcd λ x hx=>?_
     have:x≠s.n:=λ z=>by have:=List.mem_range.mp hx; omega
     rw [zam this]
   . rw [List.filter_cons_of_pos (by rw [zag]; rfl)]; rfl
 . show (scan (s.log++[.begin s.n])).book k=(s.book k).getD 0
   rw [sc]; exact L.bk k
 . show first ((scan (s.log++[.begin s.n])).bef e) k=if (zaK (up s.deed s.n _ e).done k).isSome then some ((zaq (TH.za1 s) k).getD 0) else none
   rw [sc,dn e,kb]
   by_cases h:e=s.n
   . subst h
     rw [L.befN _ (Nat.le_refl _),o.2]; rfl
   . have he':(up s.deed s.n ⟨.zan,[],none⟩ e).act:=he
     rw [zam h] at he'
     exact L.bef e he' k
 . have he':s.n+1<=e:=he
   show (scan (s.log++[.begin s.n])).bef e=[]
   rw [sc]; exact L.befN e (by omega)
 . exact .snoc L.wf (by show s.n=(logB s.log).length; rw [L.b,List.length_range])
theorem zaS.wish {s:HS K} {d:Nat} {a:Act K} (L:zaS s) (c:Core s none) (hd:(s.deed d).st=.zan):zaS (TH.wish ord s d a):=by
 have c1:Core (TH.see s a.key) none:=c.see
 have L1:zaS (TH.see s a.key):=⟨L.w,L.k,L.b,L.g,L.bk,L.bef,L.befN,L.wf⟩
 have nor:∀ k w',(d,w')∉(TH.see s a.key).rows k:=λ k w' z=>by
   have:=(c1.rAct k _ z).1
   have this':(s.deed d).st=.waiting:=this
   rw [hd] at this'; cases this'
 unfold TH.wish
 dsimp only
 by_cases h1:look ((TH.see s a.key).held a.key) d=some a.wr\/look ((TH.see s a.key).held a.key) d=some true
 . rw [if_pos h1]
   rcases h1 with h1 | h1
   . exact L1.doIt c1.weaken (.inl hd) (zc5 h1)
   . exact L1.doIt c1.weaken (.inl hd) (zc5 h1)
 . rw [if_neg h1]
   have hw:∀ w',(d,w')∈(TH.see s a.key).held a.key->w'=false/\a.wr=true:=λ w' z=>by
     have q:=zcS (c1.hNd _) z
     cases hw':w' with
     | true=>exact absurd (.inr (hw' ▸ q)) h1
     | false =>
       cases ha:a.wr with
       | true=>exact ⟨rfl,rfl⟩
       | false=>exact absurd (.inl (by rw [ha,q,hw'])) h1
   by_cases h2:lets ((TH.see s a.key).held a.key) d a.wr=true/\(has ((TH.see s a.key).held a.key) d=true\/(TH.see s a.key).rows a.key=[])
   . rw [if_pos h2]
     have L2:zaS (take (TH.see s a.key) d a.key a.wr):=⟨L1.w,L1.k,L1.b,L1.g,L1.bk,L1.bef,L1.befN,L1.wf⟩
     refine L2.doIt (w:=a.wr) (c1.weaken.take (.inl hd) h2.1 (λ hf w' z=>?_) (λ w'=>nor _ w') zb5) (.inl hd) ?_
     . have:=(hw w' z).2; rw [hf] at this; cases this
     . show (d,a.wr)∈up (TH.see s a.key).held a.key _ a.key
       rw [zag]; exact zaT.mpr (.inl rfl)
   . rw [if_neg h2]
     refine zaS.settle ord ?_ (c1.wait hd zb5 hw)
     have dn:∀ e,(up s.deed d { s.deed d with st:=.waiting,wish:=some a } e).done=(s.deed e).done:=λ e=>by
       by_cases h:e=d
       . subst h; rw [zag]
       . rw [zam h]
     have actE:∀ e,(up s.deed d { s.deed d with st:=.waiting,wish:=some a } e).act↔(s.deed e).act:=λ e=>by
       by_cases h:e=d
       . subst h; rw [zag]; exact ⟨λ _=>.inl hd,λ _=>.inr rfl⟩
       . rw [zam h]
     have kb:zaq (TH.wait (TH.see s a.key) d a)=zaq s:=zbo λ e _=>dn e
     refine ⟨λ e=>?_,L.k,L.b,?_,L.bk,λ e he k=>?_,L.befN,L.wf⟩
     . exact (L.w e).trans (congrArg zat (dn e)).symm
     . show logG s.log=(List.range s.n).filter λ e=>actB (up s.deed d _ e)
       rw [L.g]
       refine zcd λ x _=>?_
       cases q:actB (s.deed x) with
       | true=>exact (zaH.mpr ((actE x).mpr (zaH.mp q))).symm
       | false =>
         cases q':actB (up s.deed d { s.deed d with st:=.waiting,wish:=some a } x) with
         | false=>exact q'.symm
         | true=>rw [zaH.mpr ((actE x).mp (zaH.mp q'))] at q; cases q
     . have q:=L.bef e ((actE e).mp he) k
       rw [kb]
       show first ((scan s.log).bef e) k=if (zaK (up s.deed d { s.deed d with st:=.waiting,wish:=some a } e).done k).isSome then some ((zaq s k).getD 0) else none
       rw [dn e]; exact q
structure All (s:HS K):Prop where
 c:Core s none
 h:Head s
 a:Acyc s
 l:zaS s
def empty:HS K:=⟨0,λ _=>⟨.dropped,[],none⟩,λ _=>[],λ _=>[],λ _=>none,[],[],[]⟩
theorem All.empty:All (TH.empty (K:=K)):=by
 have na:∀ d,¬ ((TH.empty (K:=K)).deed d).act:=λ d z=>by rcases z with z | z <;> cases z
 refine ⟨⟨λ d _=>⟨rfl,rfl⟩,λ k p hp=>(by cases hp),λ k=>List.nodup_nil,λ k d h=>(by cases h),λ k p hp=>(by cases hp),λ k=>List.nodup_nil,λ d _ h=>(by cases h),λ k d w w' h=>(by cases h),λ d h=>absurd h (na d),λ k _=>⟨rfl,rfl⟩,λ d h=>absurd h (na d),λ k _=>rfl,rfl,λ d h=>absurd h (na d),λ d=>⟨λ h=>(by cases h),λ h=>(by cases h)⟩,List.nodup_nil⟩,λ k d w r e=>(by cases e),λ d r=>?_,⟨λ d=>rfl,rfl,rfl,rfl,λ k=>rfl,λ d h=>absurd h (na d),λ d _=>rfl,.nil⟩⟩
 exact absurd (Or.inr (zaI r)) (na d)
variable (hord:∀ l k,k∈ord l↔k∈l)
include hord
end
end TH
end
section
namespace TH
section
variable {K:Type} [DecidableEq K]
def zid (s:HS K) (a:Act K):Act K:=if a.wr then a else ⟨false,a.key,(s.book a.key).getD 0⟩
theorem zcu (s:HS K) (a:Act K):(zid s a).key=a.key:=by unfold zid; split <;> rfl
theorem zcV (s:HS K) (d:Nat) (a:Act K):(doIt s d a).deed=up s.deed d { s.deed d with st:=.zan,done:=(s.deed d).done++[zid s a] }:=by
 unfold doIt zid; split <;> rfl
theorem zqN (s:HS K) (d:Nat) (a:Act K):(doIt s d a).log=s.log++(if a.wr then [.write d a.key ((s.book a.key).getD 0) a.val] else []):=by
 unfold doIt; split
 . rfl
 . simp
theorem zpB (s:HS K) (d:Nat) (a:Act K):(doIt s d a).book=if a.wr then up s.book a.key (some a.val) else s.book:=by
 unfold doIt; split <;> rfl
def zgJ (D:Deed K):Bool:=decide (D.st=.waiting)
def zdx (s:HS K):Nat:=(List.range s.n).countP λ d=>zgJ (s.deed d)
theorem zh0 {p q:Nat->Bool} {d:Nat}:∀ {l:List Nat},l.Nodup->(∀ x∈l,q x=true->p x=true\/x=d)->l.countP q<=l.countP p+1
 | [],_,_=>by simp
 | x::r,nd,h=>by
  have hr:∀ y∈r,q y=true->p y=true\/y=d:=λ y hy=>h y (List.mem_cons_of_mem _ hy)
  have nd':=List.nodup_cons.mp nd
  rw [List.countP_cons,List.countP_cons]
  by_cases hx:x=d
  . have:r.countP q<=r.countP p:=List.countP_mono_left λ y hy hq=>(hr y hy hq).resolve_right λ z=>nd'.1 (by rw [hx,<-z]; exact hy)
    split <;> split <;> omega
  . have ih:=zh0 nd'.2 hr
    cases hq:q x with
    | false=>simp; split <;> omega
    | true =>
     have:p x=true:=(h x List.mem_cons_self hq).resolve_right hx
     simp [this]; exact ih
structure Ext (s:HS K) (T:Nat):Prop where
 own:∀ k d w,(d,w)∈s.held k->∃ a∈(s.deed d).done,a.key=k
 dn:∀ d,(s.deed d).done.length+(if (s.deed d).st=.waiting then 1 else 0)<=T
 n:s.n<=T
 sn:s.seen.length<=T
 snd:s.seen.Nodup
 lg:s.log.length+zdx s+actN s<=2 * T
 zgn:∀ d,∀ a∈(s.deed d).done,a.key∈s.seen
 zgR:∀ k,s.book k≠none->k∈s.seen
theorem zoR:∀ {l:List (Act K)} {b:Book K} {k:K},over b l k≠none->b k≠none\/∃ a∈l,a.key=k:=λ {l b k} h=>by
 rw [zff] at h
 cases e:zaK l k with
 | none=>rw [e] at h; exact .inl h
 | some v=>obtain ⟨a,ha,_,hk⟩:=zek e; exact .inr ⟨a,ha,hk⟩
theorem ziU {deed:Nat->Deed K} {k:K}:∀ {l:List Nat} {b:Book K},zel deed l b k≠none->b k≠none\/∃ d∈l,∃ a∈(deed d).done,a.key=k
 | [],b,h=>.inl h
 | d::r,b,h=>by
  rcases ziU (l:=r) h with h | ⟨e,he,q⟩
  . rcases zoR h with h | ⟨a,ha,hk⟩
    . exact .inl h
    . exact .inr ⟨d,List.mem_cons_self,a,ha,hk⟩
  . exact .inr ⟨e,List.mem_cons_of_mem _ he,q⟩
theorem Ext.zo7 {s:HS K} {T:Nat} (E:Ext s T):∀ k,zaq s k≠none->k∈s.seen:=λ k h=>by
 rcases ziU h with h | ⟨d,_,a,ha,hk⟩
 . exact absurd rfl h
 . rw [<-hk]; exact E.zgn d a ha
theorem Ext.mono {s:HS K} {T T':Nat} (E:Ext s T) (h:T<=T'):Ext s T' :=
 ⟨E.own,λ d=>Nat.le_trans (E.dn d) h,Nat.le_trans E.n h,Nat.le_trans E.sn h,E.snd,Nat.le_trans E.lg (by omega),E.zgn,E.zgR⟩
theorem Ext.empty:Ext (TH.empty (K:=K)) 0 :=
 ⟨λ k d w h=>(by cases h),λ d=>(by simp [TH.empty]),Nat.le_refl _,Nat.le_refl _,List.nodup_nil,by simp [TH.empty,zdx,actN],λ d a h=>(by cases h),λ k h=>absurd rfl h⟩
theorem Ext.does {s t:HS K} {T T':Nat} {d:Nat} {a:Act K} (E:Ext s T) (hn:t.n=s.n) (hs:t.seen=s.seen) (hdl:d < s.n) (hd:(s.deed d).act)
   (hdeed:t.deed=up s.deed d { s.deed d with st:=.zan,done:=(s.deed d).done++[a] })
   (hlog:t.log.length<=s.log.length+1) (hbook:∀ k,t.book k≠none->s.book k≠none\/k=a.key)
   (hheld:∀ k e w,(e,w)∈t.held k->(∃ w',(e,w')∈s.held k)\/(e=d/\k=a.key)) (hk:a.key∈s.seen) (hT:T<=T') (hw:(s.deed d).st=.waiting\/T+1<=T'):Ext t T':=by
 have ds:t.deed d={ s.deed d with st:=.zan,done:=(s.deed d).done++[a] }:=by rw [hdeed,zag]
 have dn:∀ e,e≠d->t.deed e=s.deed e:=λ e he=>by rw [hdeed,zam he]
 have sub:∀ e x,x∈(s.deed e).done->x∈(t.deed e).done:=λ e x hx=>by
   by_cases he:e=d
   . subst he; rw [ds]; exact List.mem_append_left _ hx
   . rw [dn e he]; exact hx
 refine ⟨λ k e w h=>?_,λ e=>?_,by rw [hn]; exact Nat.le_trans E.n hT,by rw [hs]; exact Nat.le_trans E.sn hT,by rw [hs]; exact E.snd,?_,λ e x hx=>?_,λ k h=>?_⟩
 . rcases hheld k e w h with ⟨w',h'⟩ | ⟨he,hk'⟩
   . obtain ⟨x,hx,q⟩:=E.own k e w' h'
     exact ⟨x,sub e x hx,q⟩
   . subst he
     refine ⟨a,?_,hk'.symm⟩
     rw [ds]; exact List.mem_append_right _ List.mem_cons_self
 . by_cases he:e=d
   . subst he
     have:=E.dn e
     rw [ds]
     simp only [List.length_append,List.length_cons,List.length_nil]
     rcases hw with hw | hw
     . rw [if_pos hw] at this; simp; omega
     . simp
       have:(s.deed e).done.length<=T:=by split at this <;> omega
       omega
   . rw [dn e he]; exact Nat.le_trans (E.dn e) hT
 . have ea:actN t=actN s:=by
     unfold actN; rw [hn]
     refine List.countP_congr λ x _=>?_
     by_cases hx:x=d
     . subst hx; rw [ds,zaH,zaH]; exact ⟨λ _=>hd,λ _=>.inl rfl⟩
     . rw [dn x hx]
   have:=E.lg
   rcases hw with hw | hw
   . have ew:zdx t < zdx s:=by
       unfold zdx; rw [hn]
       refine zer (λ x _ hx=>?_) ⟨d,List.mem_range.mpr hdl,?_,?_⟩
       . by_cases hxd:x=d
         . subst hxd; unfold zgJ; rw [hw]; rfl
         . rw [dn x hxd] at hx; exact hx
       . unfold zgJ; rw [hw]; rfl
       . rw [ds]; rfl
     omega
   . have ew:zdx t<=zdx s:=by
       unfold zdx; rw [hn]
       refine List.countP_mono_left λ x _ hx=>?_
       by_cases hxd:x=d
       . subst hxd; rw [ds] at hx; cases hx
       . rw [dn x hxd] at hx; exact hx
     omega
 . rw [hs]
   by_cases he:e=d
   . subst he
     rw [ds] at hx
     rcases List.mem_append.mp hx with hx | hx
     . exact E.zgn e x hx
     . rw [List.mem_singleton.mp hx]; exact hk
   . rw [dn e he] at hx; exact E.zgn e x hx
 . rw [hs]
   rcases hbook k h with h | h
   . exact E.zgR k h
   . rw [h]; exact hk
theorem zcH {s:HS K} {x:Option Nat} (c:Core s x) {k:K} {p:Nat×Bool} (h:p∈s.rows k):k∈s.seen:=by
 by_cases hk:k∈s.seen
 . exact hk
 . rw [(c.zeV k hk).2] at h; cases h
theorem zjC {s:HS K} {d e:Nat} {k k':K} {w w':Bool} (h:(e,w')∈(take s d k w).held k'):(∃ w'',(e,w'')∈s.held k')\/(e=d/\k'=k):=by
 by_cases hk:k'=k
 . subst hk
   have h':(e,w')∈up s.held k' (zbf (s.held k') d w) k':=h
   rw [zag] at h'
   unfold zbf at h'
   split at h'
   . obtain ⟨p,hp,q⟩:=List.mem_map.mp h'
     by_cases hpd:(p.1 == d)=true
     . rw [if_pos hpd] at q; cases q; exact .inr ⟨rfl,rfl⟩
     . rw [if_neg hpd] at q; subst q; exact .inl ⟨_,hp⟩
   . rcases List.mem_append.mp h' with h' | h'
     . exact .inl ⟨_,h'⟩
     . rw [List.mem_singleton] at h'; cases h'; exact .inr ⟨rfl,rfl⟩
 . have h':(e,w')∈up s.held k _ k':=h
   rw [zam hk] at h'; exact .inl ⟨_,h'⟩
theorem zh5 {s:HS K} {d:Nat} {a:Act K} {k:K} (h:(doIt s d a).book k≠none):s.book k≠none\/k=(zid s a).key:=by
 rw [zpB] at h
 rw [zcu]
 split at h
 . by_cases hk:k=a.key
   . exact .inr hk
   . rw [zam hk] at h; exact .inl h
 . exact .inl h
theorem zjI {s:HS K} {d:Nat} {a:Act K}:(doIt s d a).log.length<=s.log.length+1:=by
 rw [zqN,List.length_append]; split <;> simp
theorem Ext.zaG {ks:List K} {s:HS K} {T:Nat} (E:Ext s T) (c:Core s none):Ext (TH.zaG s ks) T:=by
 refine zbv (λ t=>Ext t T) (λ s k d w r a c hr hl ha E=>?_) ks s c E
 have hm:(d,w)∈s.rows k:=by rw [hr]; exact List.mem_cons_self
 obtain ⟨hst,a',ha',hk',hw'⟩:=c.rAct k _ hm
 rw [ha] at ha'; cases ha'
 refine E.does (a:=zid s a) (d:=d) (by rw [zdN]; rfl) (by rw [zce]; rfl) (c.lt (.inr hst)) (.inr hst) (by rw [zcV]; rfl) zjI (λ k=>zh5) (λ k' e w' h=>?_) ?_ (Nat.le_refl _) (.inl hst)
 . rw [zct] at h
   rcases zjC h with h | ⟨h1,h2⟩
   . exact .inl h
   . exact .inr ⟨h1,by rw [zcu,hk']; exact h2⟩
 . rw [zcu,hk']; exact zcH c hm
theorem zqz {l:List (Nat×Bool)} {d:Nat} {p:Nat×Bool} (h:p∈less l d):p∈l:=(List.mem_filter.mp h).1
theorem Ext.ends {s:HS K} {d:Nat} {t:DS} {bk:Book K} {kp:List Nat} {r:Row K} {T:Nat} (E:Ext s T) (c:Core s none) (hd:(s.deed d).act) (ht:t=.kept\/t=.dropped) (hb:∀ k,bk k≠none->k∈s.seen) :
   Ext (letGo { s with deed:=up s.deed d { s.deed d with st:=t },book:=bk,kept:=kp,log:=s.log++[r] } d) T:=by
 have dn:∀ e,(up s.deed d { s.deed d with st:=t } e).done=(s.deed e).done:=λ e=>by
   by_cases h:e=d
   . subst h; rw [zag]
   . rw [zam h]
 have tw:t≠.waiting/\t≠.zan:=by rcases ht with h | h <;> subst h <;> decide
 refine ⟨λ k e w h=>?_,λ e=>?_,E.n,E.sn,E.snd,?_,λ e x hx=>?_,λ k h=>hb k h⟩
 . obtain ⟨x,hx,q⟩:=E.own k e w (zqz h)
   exact ⟨x,by show x∈(up s.deed d _ e).done; rw [dn]; exact hx,q⟩
 . show (up s.deed d _ e).done.length+(if (up s.deed d _ e).st=.waiting then 1 else 0)<=T
   rw [dn]
   have:=E.dn e
   by_cases h:e=d
   . subst h; rw [zag,if_neg tw.1]; split at this <;> omega
   . rw [zam h]; exact this
 . show (s.log++[r]).length+(List.range s.n).countP (λ x=>zgJ (up s.deed d _ x))+(List.range s.n).countP (λ x=>actB (up s.deed d _ x))<=2 * T
   have e1:(List.range s.n).countP (λ x=>actB (up s.deed d { s.deed d with st:=t } x)) < actN s:=by
     unfold actN
     refine zer (λ x _ hx=>?_) ⟨d,List.mem_range.mpr (c.lt hd),zaH.mpr hd,?_⟩
     . by_cases h:x=d
       . subst h; exact zaH.mpr hd
       . rw [zam h] at hx; exact hx
     . rw [zag]; unfold actB; simp [tw.1,tw.2]
   have e2:(List.range s.n).countP (λ x=>zgJ (up s.deed d { s.deed d with st:=t } x))<=zdx s:=by
     unfold zdx
     refine List.countP_mono_left λ x _ hx=>?_
     by_cases h:x=d
     . subst h; rw [zag] at hx; unfold zgJ at hx; simp [tw.1] at hx
     . rw [zam h] at hx; exact hx
   have:=E.lg
   rw [List.length_append,List.length_singleton]
   dsimp only at e1 e2 ⊢
   omega
 . have hx':x∈(up s.deed d { s.deed d with st:=t } e).done:=hx
   rw [dn] at hx'; exact E.zgn e x hx'
variable (ord:List K->List K)
theorem Ext.keep {s:HS K} {d:Nat} {T:Nat} (E:Ext s T) (c:Core s none) (hd:(s.deed d).act):Ext (TH.keep ord s d) T:=by
 have:=Ext.zaG (ks:=ord s.seen) (E.ends (t:=.kept) (bk:=s.book) (kp:=s.kept++[d]) (r:=.keep d) c hd (.inl rfl) E.zgR) (c.keeps hd)
 exact this
theorem Ext.drop {s:HS K} {d:Nat} {T:Nat} (E:Ext s T) (c:Core s none) (hd:(s.deed d).act):Ext (TH.drop ord s d) T:=by
 have:=Ext.zaG (ks:=ord s.seen) (E.ends (t:=.dropped) (bk:=λ k=>if (zaK (s.deed d).done k).isSome then zaq s k else s.book k) (kp:=s.kept) (r:=.drop d) c hd (.inr rfl) (λ k h=>by
  split at h
  . exact E.zo7 k h
  . exact E.zgR k h)) (c.drops hd)
 exact this
theorem Ext.za1 {s:HS K} {T:Nat} (E:Ext s T) (c:Core s none):Ext (TH.za1 s) (T+1):=by
 have dd:∀ e,e≠s.n->(TH.za1 s).deed e=s.deed e:=λ e he=>zam he
 have ds:(TH.za1 s).deed s.n=⟨.zan,[],none⟩:=zag
 have out:=c.out s.n (Nat.le_refl _)
 refine ⟨λ k d w h=>?_,λ d=>?_,Nat.succ_le_succ E.n,Nat.le_succ_of_le E.sn,E.snd,?_,λ d x hx=>?_,E.zgR⟩
 . obtain ⟨x,hx,q⟩:=E.own k d w h
   have hne:d≠s.n:=λ z=>by subst z; rw [out.2] at hx; cases hx
   exact ⟨x,by rw [dd d hne]; exact hx,q⟩
 . by_cases h:d=s.n
   . subst h; rw [ds]; simp
   . rw [dd d h]; exact Nat.le_succ_of_le (E.dn d)
 . show (s.log++[_]).length+(List.range (s.n+1)).countP (λ x=>zgJ ((TH.za1 s).deed x))+(List.range (s.n+1)).countP (λ x=>actB ((TH.za1 s).deed x))<=_
   rw [List.range_succ,List.countP_append,List.countP_append,List.length_append]
   have e1:(List.range s.n).countP (λ x=>zgJ ((TH.za1 s).deed x))=zdx s:=List.countP_congr λ x hx=>by rw [dd x (Nat.ne_of_lt (List.mem_range.mp hx))]
   have e2:(List.range s.n).countP (λ x=>actB ((TH.za1 s).deed x))=actN s:=List.countP_congr λ x hx=>by rw [dd x (Nat.ne_of_lt (List.mem_range.mp hx))]
   rw [e1,e2]
   have:=E.lg
   have h1:[s.n].countP (λ x=>zgJ ((TH.za1 s).deed x))=0:=by simp [ds,zgJ]
   have h2:[s.n].countP (λ x=>actB ((TH.za1 s).deed x))<=1:=by
     have:=List.countP_le_length (p:=λ x=>actB ((TH.za1 s).deed x)) (l:=[s.n]); simpa using this
   rw [h1]
   simp only [List.length_singleton]
   omega
 . by_cases h:d=s.n
   . subst h; rw [ds] at hx; cases hx
   . rw [dd d h] at hx; exact E.zgn d x hx
theorem Ext.see {s:HS K} {T:Nat} {k:K} (E:Ext s T):Ext (TH.see s k) (T+1):=by
 have sub:∀ x,x∈s.seen->x∈(TH.see s k).seen:=λ x hx=>by
   show x∈if k∈s.seen then s.seen else s.seen++[k]
   split
   . exact hx
   . exact List.mem_append_left _ hx
 refine ⟨E.own,λ d=>Nat.le_succ_of_le (E.dn d),Nat.le_succ_of_le E.n,?_,?_,Nat.le_trans E.lg (by omega),λ d x hx=>sub _ (E.zgn d x hx),λ k h=>sub _ (E.zgR k h)⟩
 . show (if k∈s.seen then s.seen else s.seen++[k]).length<=_
   have:=E.sn
   split
   . omega
   . simp; omega
 . show (if k∈s.seen then s.seen else s.seen++[k]).Nodup
   split
   . exact E.snd
   . rename_i h
     exact List.nodup_append.mpr ⟨E.snd,by simp,λ a ha b hb=>by rw [List.mem_singleton.mp hb]; intro z; rw [z] at ha; exact h ha⟩
theorem Ext.settle:∀ {f:Nat} {s:HS K} {T:Nat},Ext s T->Core s none->Ext (TH.settle ord f s) T
 | 0,s,T,E,c=>E
 | f+1,s,T,E,c=>by
  unfold TH.settle
  cases h:(rings s).getLast? with
  | none=>exact E
  | some d =>
   have hd:(s.deed d).act:=.inr (zaI (zbD (List.mem_of_getLast? h)).2)
   exact Ext.settle (E.drop ord c hd) (c.drop ord hd)
theorem Ext.wait {s:HS K} {d:Nat} {a:Act K} {T:Nat} (E:Ext s T) (hd:(s.deed d).st=.zan) (hT:∀ e,(s.deed e).done.length+(if (s.deed e).st=.waiting then 1 else 0)+1<=T) (hl:s.log.length+zdx s+actN s+2<=2 * T):Ext (TH.wait s d a) T:=by
 have dn:∀ e,(up s.deed d { s.deed d with st:=.waiting,wish:=some a } e).done=(s.deed e).done:=λ e=>by
   by_cases h:e=d
   . subst h; rw [zag]
   . rw [zam h]
 refine ⟨λ k e w h=>?_,λ e=>?_,E.n,E.sn,E.snd,?_,λ e x hx=>?_,E.zgR⟩
 . obtain ⟨x,hx,q⟩:=E.own k e w h
   exact ⟨x,by show x∈(up s.deed d _ e).done; rw [dn]; exact hx,q⟩
 . show (up s.deed d _ e).done.length+(if (up s.deed d _ e).st=.waiting then 1 else 0)<=T
   rw [dn]
   have:=hT e
   split at this <;> split <;> omega
 . show s.log.length+(List.range s.n).countP (λ x=>zgJ (up s.deed d _ x))+(List.range s.n).countP (λ x=>actB (up s.deed d _ x))<=2 * T
   have e1:(List.range s.n).countP (λ x=>actB (up s.deed d { s.deed d with st:=.waiting,wish:=some a } x))<=actN s:=by
     unfold actN
     refine List.countP_mono_left λ x _ hx=>?_
     by_cases h:x=d
     . subst h; exact zaH.mpr (.inl hd)
     . rw [zam h] at hx; exact hx
   have e2:(List.range s.n).countP (λ x=>zgJ (up s.deed d { s.deed d with st:=.waiting,wish:=some a } x))<=zdx s+1:=by
     unfold zdx
     refine zh0 (d:=d) List.nodup_range λ x _ hx=>?_
     by_cases h:x=d
     . exact .inr h
     . rw [zam h] at hx; exact .inl hx
   dsimp only at e1 e2 ⊢
   omega
 . have hx':x∈(up s.deed d { s.deed d with st:=.waiting,wish:=some a } e).done:=hx
   rw [dn] at hx'; exact E.zgn e x hx'
theorem Ext.wish {s:HS K} {d:Nat} {a:Act K} {T:Nat} (E:Ext s T) (c:Core s none) (hd:(s.deed d).st=.zan):Ext (TH.wish ord s d a) (T+1):=by
 have c1:Core (TH.see s a.key) none:=c.see
 have E1:Ext (TH.see s a.key) (T+1):=E.see
 have es:∀ x,x∈(TH.see s a.key).seen↔x=a.key\/x∈s.seen:=λ x=>by
   show x∈(if a.key∈s.seen then s.seen else s.seen++[a.key])↔_
   split
   . rename_i h; exact ⟨.inr,λ q=>q.elim (λ z=>z ▸ h) id⟩
   . rw [List.mem_append,List.mem_singleton]; exact Or.comm
 have main:∀ t:HS K,t.n=s.n->t.seen=(TH.see s a.key).seen->t.deed=s.deed->t.log=s.log->t.book=s.book->(∀ k e w,(e,w)∈t.held k->(∃ w',(e,w')∈s.held k)\/(e=d/\k=a.key))->Ext (doIt t d a) (T+1):=by
   intro t hn hs hdd hlg hbk hh
   have q:Ext { s with seen:=(TH.see s a.key).seen } (T+1):=E1
   have D:∀ T',Ext { s with seen:=(TH.see s a.key).seen } T'->T<=T'->(∀ e,(s.deed e).done.length+(if (s.deed e).st=.waiting then 1 else 0)<=T)->Ext (doIt t d a) (T+1):=λ _ _ _ _=>by
     have ds:(doIt t d a).deed d={ s.deed d with st:=.zan,done:=(s.deed d).done++[zid t a] }:=by rw [zcV,hdd,zag]
     have dn:∀ e,e≠d->(doIt t d a).deed e=s.deed e:=λ e he=>by rw [zcV,hdd,zam he]
     have en:(doIt t d a).n=s.n:=by rw [zdN]; exact hn
     refine ⟨λ k e w h=>?_,λ e=>?_,by rw [en]; exact Nat.le_succ_of_le E.n,by rw [zce,hs]; exact E1.sn,by rw [zce,hs]; exact E1.snd,?_,λ e x hx=>?_,λ k h=>?_⟩
     . rw [zct] at h
       have sub:∀ e x,x∈(s.deed e).done->x∈((doIt t d a).deed e).done:=λ e x hx=>by
         by_cases he:e=d
         . subst he; rw [ds]; exact List.mem_append_left _ hx
         . rw [dn e he]; exact hx
       rcases hh k e w h with ⟨w',h'⟩ | ⟨he,hk⟩
       . obtain ⟨x,hx,q⟩:=E.own k e w' h'
         exact ⟨x,sub e x hx,q⟩
       . subst he
         exact ⟨zid t a,by rw [ds]; exact List.mem_append_right _ List.mem_cons_self,by rw [zcu]; exact hk.symm⟩
     . by_cases he:e=d
       . subst he
         have:=E.dn e
         rw [ds]
         simp
         split at this <;> omega
       . rw [dn e he]; exact Nat.le_succ_of_le (E.dn e)
     . have e1:actN (doIt t d a)=actN s:=by
         unfold actN; rw [en]
         refine List.countP_congr λ x _=>?_
         by_cases hx:x=d
         . subst hx; rw [ds,zaH,zaH]; exact ⟨λ _=>.inl hd,λ _=>.inl rfl⟩
         . rw [dn x hx]
       have e2:zdx (doIt t d a)<=zdx s:=by
         unfold zdx; rw [en]
         refine List.countP_mono_left λ x _ hx=>?_
         by_cases hxd:x=d
         . subst hxd; rw [ds] at hx; cases hx
         . rw [dn x hxd] at hx; exact hx
       have e3:=zjI (s:=t) (d:=d) (a:=a)
       rw [hlg] at e3
       have:=E.lg
       omega
     . rw [zce,hs]
       by_cases he:e=d
       . subst he
         rw [ds] at hx
         rcases List.mem_append.mp hx with hx | hx
         . exact (es _).mpr (.inr (E.zgn e x hx))
         . rw [List.mem_singleton.mp hx,zcu]; exact (es _).mpr (.inl rfl)
       . rw [dn e he] at hx; exact (es _).mpr (.inr (E.zgn e x hx))
     . rw [zce,hs]
       rcases zh5 h with h | h
       . rw [hbk] at h; exact (es _).mpr (.inr (E.zgR k h))
       . rw [h,zcu]; exact (es _).mpr (.inl rfl)
   exact D _ q (Nat.le_succ _) E.dn
 unfold TH.wish
 dsimp only
 by_cases h1:look ((TH.see s a.key).held a.key) d=some a.wr\/look ((TH.see s a.key).held a.key) d=some true
 . rw [if_pos h1]
   exact main _ rfl rfl rfl rfl rfl λ k e w h=>.inl ⟨w,h⟩
 . rw [if_neg h1]
   have hw:∀ w',(d,w')∈(TH.see s a.key).held a.key->w'=false/\a.wr=true:=λ w' z=>by
     have q:=zcS (c1.hNd _) z
     cases hw':w' with
     | true=>exact absurd (.inr (hw' ▸ q)) h1
     | false =>
       cases ha:a.wr with
       | true=>exact ⟨rfl,rfl⟩
       | false=>exact absurd (.inl (by rw [ha,q,hw'])) h1
   by_cases h2:lets ((TH.see s a.key).held a.key) d a.wr=true/\(has ((TH.see s a.key).held a.key) d=true\/(TH.see s a.key).rows a.key=[])
   . rw [if_pos h2]
     exact main _ rfl rfl rfl rfl rfl λ k e w h=>zjC (s:=TH.see s a.key) h
   . rw [if_neg h2]
     refine Ext.settle ord (Ext.wait E1 hd (λ e=>?_) ?_) (c1.wait hd zb5 hw)
     . have:=E.dn e
       show (s.deed e).done.length+(if (s.deed e).st=.waiting then 1 else 0)+1<=T+1
       omega
     . show s.log.length+zdx s+actN s+2<=2 * (T+1)
       have:=E.lg; omega
end
end TH
end
section
namespace TH
section
variable {K:Type} [DecidableEq K]
theorem zlC {α:Type} {p:α->Bool}:∀ {l:List α},l.takeWhile p=l↔∀ x∈l,p x=true
 | []=>by simp
 | a::r=>by
  rw [List.takeWhile_cons]
  cases h:p a with
  | true=>simp [zlC (l:=r),h]
  | false=>simp [h]
def hind (h:List (Nat×Bool)) (d:Nat) (w:Bool):List Nat:=(h.filter λ p=>p.1 != d && (w || p.2)).map (·.1)
def ahead (r:List (Nat×Bool)) (d:Nat):List (Nat×Bool):=r.takeWhile λ p=>p.1 != d
def zjz (h r:List (Nat×Bool)) (d:Nat) (w:Bool):List Nat:=match (ahead r d).getLast? with
 | some p=>[p.1]
 | none=>hind h d w
def nxt (s:HS K) (d:Nat):List Nat:=match (s.deed d).st,(s.deed d).wish with
 | .waiting,some a=>zjz (s.held a.key) (s.rows a.key) d a.wr
 | _,_=>[]
theorem zg1 {s:HS K} {d:Nat} {a:Act K} (h:(s.deed d).st=.waiting) (w:(s.deed d).wish=some a):zbQ s d=(ahead (s.rows a.key) d).map (·.1)++hind (s.held a.key) d a.wr:=by
 unfold zbQ; rw [h,w]; rfl
theorem zkP {s:HS K} {d:Nat} {a:Act K} (h:(s.deed d).st=.waiting) (w:(s.deed d).wish=some a):nxt s d=zjz (s.held a.key) (s.rows a.key) d a.wr:=by
 unfold nxt; rw [h,w]
theorem zoW {s:HS K} {d:Nat} (h:(s.deed d).st≠.waiting):nxt s d=[]:=by
 unfold nxt; split
 . contradiction
 . rfl
inductive Path (R:Nat->Nat->Prop):Nat->Nat->Prop where
 | one {d e:Nat}:R d e->Path R d e
 | step {d e f:Nat}:R d e->Path R e f->Path R d f
theorem Path.trans {R:Nat->Nat->Prop} {d e f:Nat} (p:Path R d e) (q:Path R e f):Path R d f:=by
 induction p with
 | one h=>exact .step h q
 | step h _ ih=>exact .step h (ih q)
theorem Path.mono {R S:Nat->Nat->Prop} (h:∀ a b,R a b->S a b) {d e:Nat} (p:Path R d e):Path S d e:=by
 induction p with
 | one q=>exact .one (h _ _ q)
 | step q _ ih=>exact .step (h _ _ q) ih
theorem Path.last {R:Nat->Nat->Prop} {d e:Nat} (p:Path R d e):∃ c,R c e/\(c=d\/Path R d c):=by
 induction p with
 | one h=>exact ⟨_,h,.inl rfl⟩
 | step h _ ih =>
  obtain ⟨c,q,z⟩:=ih
  refine ⟨c,q,.inr ?_⟩
  rcases z with z | z
  . subst z; exact .one h
  . exact .step h z
theorem zbI {s:HS K} {d e:Nat}:Reach s d e↔Path (λ a b=>b∈zbQ s a) d e :=
 ⟨λ r=>by induction r with
  | one h=>exact .one h
  | step h _ ih=>exact .step h ih,λ r=>by induction r with
  | one h=>exact .one h
  | step h _ ih=>exact .step h ih⟩
abbrev zc9 (s:HS K):Nat->Nat->Prop:=Path λ a b=>b∈nxt s a
theorem zkO {s:HS K} {d e:Nat} (h:e∈nxt s d):e∈zbQ s d:=by
 by_cases hw:(s.deed d).st=.waiting
 . cases ha:(s.deed d).wish with
   | none=>unfold nxt at h; rw [hw,ha] at h; cases h
   | some a =>
    rw [zkP hw ha] at h
    rw [zg1 hw ha]
    unfold zjz at h
    cases hl:(ahead (s.rows a.key) d).getLast? with
    | none=>rw [hl] at h; exact List.mem_append_right _ h
    | some p =>
     rw [hl] at h
     rw [List.mem_singleton.mp h]
     exact List.mem_append_left _ (List.mem_map.mpr ⟨p,List.mem_of_getLast? hl,rfl⟩)
 . rw [zoW hw] at h; cases h
theorem zc8 {pre post:List (Nat×Bool)} {d:Nat} {w:Bool} (h:∀ p∈pre,p.1≠d):ahead (pre++(d,w)::post) d=pre:=by
 unfold ahead
 rw [List.takeWhile_append_of_pos (by intro p hp; simpa using h p hp)]
 simp
theorem zje {r:List (Nat×Bool)} {d:Nat} {w:Bool} (nd:(r.map (·.1)).Nodup) (h:(d,w)∈r):∃ post,r=ahead r d++(d,w)::post/\∀ p∈ahead r d,p.1≠d:=by
 obtain ⟨pre,post,rfl⟩:=List.append_of_mem h
 have hp:∀ p∈pre,p.1≠d:=λ p hp z=>by
  rw [List.map_append,List.nodup_append] at nd
  exact nd.2.2 p.1 (List.mem_map.mpr ⟨p,hp,rfl⟩) d (by simp) z
 exact ⟨post,by rw [zc8 hp],by rw [zc8 hp]; exact hp⟩
theorem zhm {s:HS K} (c:Core s none) {k:K}:∀ (m:Nat) (pre post:List (Nat×Bool)) (d:Nat) (w:Bool),pre.length=m->s.rows k=pre++(d,w)::post->∀ p∈pre,zc9 s d p.1
 | 0,pre,post,d,w,hm,e,p,hp=>by
  have:pre=[]:=List.length_eq_zero_iff.mp hm
  subst this; cases hp
 | m+1,pre,post,d,w,hm,e,p,hp=>by
  have hne:pre≠[]:=by intro z; subst z; cases hm
  obtain ⟨init,⟨f,wf⟩,rfl⟩:∃ init l,pre=init++[l]:=⟨pre.dropLast,pre.getLast hne,(List.dropLast_concat_getLast hne).symm⟩
  have nd:=c.rNd k
  have hm':(d,w)∈s.rows k:=by rw [e]; simp
  obtain ⟨hst,a,ha,hk,hw⟩:=c.rAct k _ hm'
  obtain ⟨post',e',hall⟩:=zje nd hm'
  have hpre:∀ p∈init++[(f,wf)],p.1≠d:=λ p hp z=>by
    rw [e,List.map_append,List.nodup_append] at nd
    exact nd.2.2 p.1 (List.mem_map.mpr ⟨p,hp,rfl⟩) d (by simp) z
  have ea:ahead (s.rows k) d=init++[(f,wf)]:=by rw [e]; exact zc8 hpre
  have h1:f∈nxt s d:=by
    rw [zkP hst ha,hk]; unfold zjz; rw [ea]; simp
  rcases List.mem_append.mp hp with hp | hp
  . exact .step h1 (zhm c m init ((d,w)::post) f wf (by simpa using hm) (by rw [e]; simp) p hp)
  . rw [List.mem_singleton.mp hp]; exact .one h1
theorem zgw {s:HS K} (c:Core s none) (hh:Head s) {d e:Nat} (h:e∈zbQ s d):zc9 s d e:=by
 obtain ⟨a,hst,ha,_⟩:=zbe.mp h
 rw [zg1 hst ha] at h
 obtain ⟨a',ha',hrow⟩:=c.wRow d (by simp) hst
 rw [ha] at ha'; cases ha'
 have hr:(d,a.wr)∈s.rows a.key:=hrow
 have nd:=c.rNd a.key
 obtain ⟨post,e1,hall⟩:=zje nd hr
 rcases List.mem_append.mp h with h | h
 . obtain ⟨p,hp,rfl⟩:=List.mem_map.mp h
   exact zhm c _ _ post d a.wr rfl e1 p hp
 . cases hl:ahead (s.rows a.key) d with
   | nil =>
    refine .one ?_
    rw [zkP hst ha]; unfold zjz; rw [hl]; exact h
   | cons p r =>
    obtain ⟨f,wf⟩:=p
    have hf:zc9 s d f:=zhm c _ _ post d a.wr rfl e1 (f,wf) (by rw [hl]; exact List.mem_cons_self)
    by_cases hef:e=f
    . rw [hef]; exact hf
    ·
      rw [hl] at e1
      have hd0:=hh a.key f wf _ (by rw [e1]; rfl)
      unfold hind at h
      obtain ⟨⟨e',we⟩,hm,rfl⟩:=List.mem_map.mp h
      obtain ⟨hm1,hm2⟩:=List.mem_filter.mp hm
      have hfr:(f,wf)∈s.rows a.key:=by rw [e1]; simp
      obtain ⟨fst,af,haf,hkf,hwf⟩:=c.rAct a.key _ hfr
      have hnf:nxt s f=hind (s.held a.key) f wf:=by
       have q:=zkP fst haf
       rw [hkf] at q
       rw [q]
       unfold zjz
       have:ahead (s.rows a.key) f=[]:=by rw [e1]; exact zc8 (pre:=[]) (by simp)
       rw [this]
       show hind (s.held a.key) f af.wr=_
       rw [hwf]
      refine hf.trans (.one ?_)
      rw [hnf]
      unfold hind
      refine List.mem_map.mpr ⟨(e',we),List.mem_filter.mpr ⟨hm1,?_⟩,rfl⟩
      have hne:((e' != f))=true:=by simpa using hef
      simp only [hne,Bool.true_and]
      cases hwf':wf with
      | true=>rfl
      | false =>
       rw [hwf'] at hd0
       have hx:∃ p∈s.held a.key,p.1≠f/\p.2=true:=by
        unfold lets at hd0
        obtain ⟨p,hp,q⟩:=List.all_eq_false.mp hd0
        refine ⟨p,hp,?_⟩
        cases hp2:p.2 with
        | false=>simp [hp2] at q
        | true=>simp [hp2] at q; exact ⟨q,rfl⟩
       obtain ⟨⟨x,wx⟩,hx1,_,hx2⟩:=hx
       have hx2':wx=true:=hx2
       subst hx2'
       have q:=c.hEx a.key x hx1 (e',we) hm1
       have q':e'=x:=q
       subst q'
       have n1:=zcS (c.hNd a.key) hm1
       have n2:=zcS (c.hNd a.key) hx1
       rw [n1] at n2; cases n2; rfl
theorem zdt {s:HS K} (c:Core s none) (hh:Head s) {d e:Nat}:zc9 s d e↔Reach s d e:=by
 rw [zbI]
 refine ⟨λ p=>p.mono λ a b h=>zkO h,λ p=>?_⟩
 induction p with
 | one h=>exact zgw c hh h
 | step h _ ih=>exact (zgw c hh h).trans ih
def Thru (s:HS K) (d:Nat):Prop:=∀ x,¬ Path (λ a b=>b∈zbQ s a/\a≠d/\b≠d) x x
theorem Thru.mono {s t:HS K} {d:Nat} (h:Thru s d) (m:∀ e x,x∈zbQ t e->x∈zbQ s e):Thru t d:=λ x p=>h x (p.mono λ a b q=>⟨m _ _ q.1,q.2⟩)
theorem zrR {R:Nat->Nat->Prop} {d x y:Nat} (p:Path R x y):(x=d\/y=d)\/(Path R x d/\Path R d y)\/Path (λ a b=>R a b/\a≠d/\b≠d) x y:=by
 induction p with
 | @one x y h =>
  by_cases h1:x=d
  . exact .inl (.inl h1)
  . by_cases h2:y=d
    . exact .inl (.inr h2)
    . exact .inr (.inr (.one ⟨h,h1,h2⟩))
 | @step x e y h q ih =>
  by_cases h1:x=d
  . exact .inl (.inl h1)
  . rcases ih with (z | z) | ⟨z1,z2⟩ | z
    . subst z; exact .inr (.inl ⟨.one h,q⟩)
    . exact .inl (.inr z)
    . exact .inr (.inl ⟨.step h z1,z2⟩)
    . by_cases h2:e=d
      . subst h2; exact .inr (.inl ⟨.one h,q⟩)
      . exact .inr (.inr (.step ⟨h,h1,h2⟩ z))
theorem Thru.ring {s:HS K} {d:Nat} (h:Thru s d) {x:Nat} (r:Reach s x x):Reach s x d/\Reach s d x:=by
 rw [zbI] at r
 rcases zrR (d:=d) r with (z | z) | ⟨z1,z2⟩ | z
 . subst z; exact ⟨zbI.mpr r,zbI.mpr r⟩
 . subst z; exact ⟨zbI.mpr r,zbI.mpr r⟩
 . exact ⟨zbI.mpr z1,zbI.mpr z2⟩
 . exact absurd z (h x)
theorem Thru.wait {s:HS K} {d:Nat} {a:Act K} (ac:Acyc s):Thru (TH.wait s d a) d:=by
 intro x p
 refine ac x (zbI.mpr (p.mono λ e y h=>?_))
 obtain ⟨h,he,hy⟩:=h
 obtain ⟨b,hst,hb,_⟩:=zbe.mp h
 rw [zg1 hst hb] at h
 have de:(TH.wait s d a).deed e=s.deed e:=zam he
 rw [de] at hst hb
 rw [zg1 hst hb]
 rcases List.mem_append.mp h with h | h
 . refine List.mem_append_left _ ?_
   by_cases hk:b.key=a.key
   . have er:(TH.wait s d a).rows b.key=if has (s.held a.key) d then (d,a.wr)::s.rows a.key else s.rows a.key++[(d,a.wr)]:=by
       show up s.rows a.key _ b.key=_
       rw [hk,zag]
     rw [er] at h
     rw [hk]
     obtain ⟨q,hq,rfl⟩:=List.mem_map.mp h
     refine List.mem_map.mpr ⟨q,?_,rfl⟩
     unfold ahead at hq ⊢
     split at hq
     . rw [List.takeWhile_cons] at hq
       split at hq
       . rcases List.mem_cons.mp hq with z | z
         . subst z; exact absurd rfl hy
         . exact z
       . cases hq
     . by_cases hall:∀ q∈s.rows a.key,(q.1 != e)=true
       . rw [List.takeWhile_append_of_pos hall] at hq
         rw [zlC.mpr hall]
         rcases List.mem_append.mp hq with z | z
         . exact z
         . rw [List.takeWhile_cons] at z
           split at z
           . simp at z; subst z; exact absurd rfl hy
           . cases z
       . have:(s.rows a.key++[(d,a.wr)]).takeWhile (λ p=>p.1 != e)=(s.rows a.key).takeWhile λ p=>p.1 != e:=by
           rw [List.takeWhile_append]
           rw [if_neg]
           intro z
           apply hall
           have:(s.rows a.key).takeWhile (λ p=>p.1 != e)=s.rows a.key:=(List.takeWhile_sublist _).eq_of_length z
           exact zlC.mp this
         rw [this] at hq; exact hq
   . have er:(TH.wait s d a).rows b.key=s.rows b.key:=zam hk
     rw [er] at h; exact h
 . exact List.mem_append_right _ h
theorem znA (ord:List K->List K) {s:HS K} {g:Nat} (c:Core s none) (hg:(s.deed g).act):∀ e x,x∈zbQ (TH.drop ord s g) e->x∈zbQ s e:=λ e x h =>
 zeU (t:=.dropped) (d:=g) (s:=s) (bk:=λ k=>if (zaK (s.deed g).done k).isSome then zaq s k else s.book k) (kp:=s.kept) (lg:=s.log++[.drop g]) (by decide) e x (zd3 (c.drops hg) e x h)
theorem zjl {s:HS K} {d:Nat} (c:Core s none) (th:Thru s d) :
   ((¬ Reach s d d)->(rings s).getLast?=none)/\∀ g,Reach s d g->Reach s g d->(∀ x,Reach s d x->Reach s x d->x<=g)->(rings s).getLast?=some g:=by
 have mem:∀ x,x∈rings s↔Reach s x x:=λ x=>by
   refine ⟨λ h=>(zbD h).2,λ h=>?_⟩
   unfold rings
   refine List.mem_filter.mpr ⟨List.mem_range.mpr (c.lt (.inr (zaI h))),by simpa using h⟩
 refine ⟨λ h=>?_,λ g h1 h2 h3=>?_⟩
 . cases e:(rings s).getLast? with
   | none=>rfl
   | some x =>
    have:=th.ring ((mem x).mp (List.mem_of_getLast? e))
    exact absurd (this.2.trans this.1) h
 . have hg:g∈rings s:=(mem g).mpr (h2.trans h1)
   cases e:(rings s).getLast? with
   | none=>rw [List.getLast?_eq_none_iff] at e; rw [e] at hg; cases hg
   | some x =>
    have hx:=(mem x).mp (List.mem_of_getLast? e)
    have hx2:=th.ring hx
    have le:=h3 x hx2.2 hx2.1
    have sorted:(rings s).Pairwise (· < ·):=List.Pairwise.filter _ List.pairwise_lt_range
    obtain ⟨init,hi⟩:∃ init,rings s=init++[x]:=by
      have hne:rings s≠[]:=by intro z; rw [z] at hg; cases hg
      refine ⟨(rings s).dropLast,?_⟩
      have:=List.dropLast_concat_getLast hne
      rw [List.getLast?_eq_some_getLast hne] at e
      cases e
      exact this.symm
    rw [hi] at hg sorted
    rcases List.mem_append.mp hg with q | q
    . have:=(List.pairwise_append.mp sorted).2.2 g q x (by simp)
      omega
    . rw [List.mem_singleton.mp q]
theorem zlJ (ord:List K->List K) {s:HS K} {f:Nat} (h:(rings s).getLast?=none):TH.settle ord f s=s:=by
 cases f with
 | zero=>rfl
 | succ f=>unfold TH.settle; rw [h]
theorem zlI (ord:List K->List K) {s:HS K} {f g:Nat} (h:(rings s).getLast?=some g):TH.settle ord (f+1) s=TH.settle ord f (TH.drop ord s g):=by
 conv=>lhs; unfold TH.settle
 rw [h]
def touched (s:HS K) (d:Nat):List K:=(s.deed d).done.map (·.key)++(match (s.deed d).st,(s.deed d).wish with | .waiting,some a=>[a.key] | _,_=>[])
theorem zfm {M:List K}:∀ (ks:List K) (s:HS K),Core s none->(∀ k∈ks,k∉M->znv s k)->zaG s ks=zaG s (ks.filter λ k=>decide (k∈M))
 | [],s,c,h=>rfl
 | k::r,s,c,h=>by
  by_cases hk:k∈M
  . rw [List.filter_cons_of_pos (by simpa using hk)]
    unfold zaG
    refine zfm r _ c.zbt λ k' hk' hn=>?_
    have hne:k'≠k:=λ z=>hn (by rw [z]; exact hk)
    obtain ⟨e1,e2⟩:=zhU hne (s.rows k).length s c
    intro d w r' e
    rw [e1] at e; rw [e2]
    exact h k' (List.mem_cons_of_mem _ hk') hn d w r' e
  . rw [List.filter_cons_of_neg (by simpa using hk)]
    have:zbt (s.rows k).length s k=s:=by
     cases hr:s.rows k with
     | nil=>exact zfG hr
     | cons p r' =>
      obtain ⟨d,w⟩:=p
      exact zez hr (h k List.mem_cons_self hk d w r' hr)
    show zaG (zbt (s.rows k).length s k) r=_
    rw [this]
    exact zfm r s c λ k' hk'=>h k' (List.mem_cons_of_mem _ hk')
theorem zhA {s:HS K} {T:Nat} {d:Nat} {k:K} (c:Core s none) (E:Ext s T) (h:k∉touched s d):less (s.held k) d=s.held k/\less (s.rows k) d=s.rows k:=by
 have hh:∀ p∈s.held k,p.1≠d:=λ p hp z=>by
  obtain ⟨e,w⟩:=p
  have z':e=d:=z
  subst z'
  obtain ⟨a,ha,hk⟩:=E.own k e w hp
  exact h (List.mem_append_left _ (List.mem_map.mpr ⟨a,ha,hk⟩))
 have hr:∀ p∈s.rows k,p.1≠d:=λ p hp z=>by
  obtain ⟨e,w⟩:=p
  have z':e=d:=z
  subst z'
  obtain ⟨hst,a,ha,hk,_⟩:=c.rAct k _ hp
  refine h (List.mem_append_right _ ?_)
  have hst':(s.deed e).st=.waiting:=hst
  have ha':(s.deed e).wish=some a:=ha
  rw [hst',ha']
  simpa using hk.symm
 unfold less
 exact ⟨List.filter_eq_self.mpr λ p hp=>by simpa using hh p hp,List.filter_eq_self.mpr λ p hp=>by simpa using hr p hp⟩
theorem zd2 {s:HS K} {T:Nat} {d:Nat} (c:Core s none) (E:Ext s T):∀ k∈touched s d,k∈s.seen:=λ k h=>by
 rcases List.mem_append.mp h with h | h
 . obtain ⟨a,ha,rfl⟩:=List.mem_map.mp h
   exact E.zgn d a ha
 . split at h
   . rename_i a hst ha
     rw [List.mem_singleton.mp h]
     obtain ⟨a',ha',hr⟩:=c.wRow d (by simp) hst
     rw [ha] at ha'; cases ha'
     exact zcH c hr
   . cases h
variable (ord:List K->List K) (hord:∀ l k,k∈ord l↔k∈l) (hsub:∀ l m:List K,(∀ x∈m,x∈l)->ord m=(ord l).filter λ k=>decide (k∈m))
include hsub
theorem zk9 {s t:HS K} {T:Nat} {d:Nat} (c:Core s none) (E:Ext s T) (hh:Head s) (c1:Core (letGo t d) none) (h1:t.held=s.held) (h2:t.rows=s.rows) (h3:t.seen=s.seen) :
  free ord t d=zaG (letGo t d) (ord (touched s d)):=by
 unfold free
 rw [h3,hsub s.seen (touched s d) (zd2 c E)]
 refine zfm _ _ c1 λ k hk hn=>?_
 obtain ⟨e1,e2⟩:=zhA c E hn
 intro e w r q
 have q':less (t.rows k) d=(e,w)::r:=q
 show lets (less (t.held k) d) e w=false
 rw [h2,e2] at q'
 rw [h1,e1]
 exact hh k e w r q'
omit hsub
def zej (s:HS K) (d:Nat) (k:K):HS K:={ s with held:=up s.held k (less (s.held k) d),rows:=up s.rows k (less (s.rows k) d) }
theorem zkZ (l:List (Nat×Bool)) (d:Nat):less (less l d) d=less l d:=by unfold less; rw [List.filter_filter]; simp
theorem zfC (d:Nat):∀ (ks:List K) (s:HS K),(ks.foldl (λ s k=>zej s d k) s).held=(λ k=>if k∈ks then less (s.held k) d else s.held k)/\(ks.foldl (λ s k=>zej s d k) s).rows=(λ k=>if k∈ks then less (s.rows k) d else s.rows k)
 | [],s=>by simp
 | k::r,s=>by
  obtain ⟨h1,h2⟩:=zfC d r (zej s d k)
  rw [List.foldl_cons,h1,h2]
  refine ⟨funext λ k'=>?_,funext λ k'=>?_⟩
  . show (if k'∈r then less (up s.held k _ k') d else up s.held k _ k')=_
    by_cases hk:k'=k
    . subst hk; rw [zag,zkZ]; simp
    . rw [zam hk]; simp [hk]
  . show (if k'∈r then less (up s.rows k _ k') d else up s.rows k _ k')=_
    by_cases hk:k'=k
    . subst hk; rw [zag,zkZ]; simp
    . rw [zam hk]; simp [hk]
theorem zfk (d:Nat):∀ (ks:List K) (s:HS K),(ks.foldl (λ s k=>zej s d k) s)={ s with held:=(ks.foldl (λ s k=>zej s d k) s).held,rows:=(ks.foldl (λ s k=>zej s d k) s).rows }
 | [],s=>rfl
 | k::r,s=>by rw [List.foldl_cons]; exact zfk d r (zej s d k)
theorem zk1 {s:HS K} {d:Nat} {ks:List K} (h:∀ k,k∉ks->less (s.held k) d=s.held k/\less (s.rows k) d=s.rows k):ks.foldl (λ s k=>zej s d k) s=letGo s d:=by
 rw [zfk,(zfC d ks s).1,(zfC d ks s).2]
 unfold letGo
 congr 1
 . funext k; split
   . rfl
   . rename_i hk; exact (h k hk).1.symm
 . funext k; split
   . rfl
   . rename_i hk; exact (h k hk).2.symm
def take1 (h:List (Nat×Bool)) (d:Nat) (w:Bool):List (Nat×Bool):=if look h d=some true then h else zbf h d w
def zkd (s:HS K) (d:Nat) (k:K) (w:Bool):HS K:={ s with held:=up s.held k (take1 (s.held k) d w) }
theorem zrn {α β:Type} [DecidableEq α] (f:α->β) (a:α):up f a (f a)=f:=by
 funext x; by_cases h:x=a
 . subst h; exact zag
 . exact zam h
theorem zjH {h:List (Nat×Bool)} {d:Nat} {w:Bool} (e:look h d=some w):has h d=true:=zic.mpr ⟨w,zc5 e⟩
theorem zko {h:List (Nat×Bool)} {d:Nat} {w:Bool} (nd:(h.map (·.1)).Nodup) (e:look h d=some w):zbf h d w=h:=by
 unfold zbf
 have hh:h.any (λ p=>p.1 == d)=true:=zjH e
 rw [if_pos hh]
 have:∀ p∈h,(if p.1 == d then (d,w) else p)=p:=λ p hp=>by
  obtain ⟨x,wx⟩:=p
  by_cases hx:x=d
  . subst hx
    have:=zcS nd hp
    rw [e] at this; cases this; simp
  . simp [hx]
 rw [List.map_congr_left this]; simp
theorem zg5 {s:HS K} {d:Nat} {a:Act K} (c:Core s none):wish ord s d a =
   if (has ((see s a.key).held a.key) d || ((see s a.key).rows a.key).isEmpty) && lets ((see s a.key).held a.key) d a.wr then doIt (zkd (see s a.key) d a.key a.wr) d a else settle ord s.n (wait (see s a.key) d a):=by
 have c1:Core (see s a.key) none:=c.see
 have nd:=c1.hNd a.key
 unfold wish
 dsimp only
 by_cases h1:look ((see s a.key).held a.key) d=some a.wr\/look ((see s a.key).held a.key) d=some true
 . rw [if_pos h1]
   have hl:lets ((see s a.key).held a.key) d a.wr=true:=by
     unfold lets
     rw [List.all_eq_true]
     intro p hp
     obtain ⟨x,wx⟩:=p
     by_cases hx:x=d
     . simp [hx]
     . have two:∀ y,(y,true)∈(see s a.key).held a.key->(∃ w,(d,w)∈(see s a.key).held a.key)->y=d:=λ y hy ⟨w,hw⟩=>(c1.hEx a.key y hy _ hw).symm
       rcases h1 with h1 | h1
       . have m:=zc5 h1
         cases hw:a.wr with
         | true=>rw [hw] at m; exact absurd (c1.hEx a.key d m _ hp) hx
         | false =>
          cases hwx:wx with
          | true=>subst hwx; exact absurd (two x hp ⟨_,m⟩) hx
          | false=>simp
       . have m:=zc5 h1
         exact absurd (c1.hEx a.key d m _ hp) hx
   have hhas:has ((see s a.key).held a.key) d=true:=by rcases h1 with h1 | h1 <;> exact zjH h1
   rw [hl,hhas]
   simp only [Bool.true_or,Bool.and_self,if_true]
   have:zkd (see s a.key) d a.key a.wr=see s a.key:=by
     unfold zkd
     have:take1 ((see s a.key).held a.key) d a.wr=(see s a.key).held a.key:=by
       unfold take1
       by_cases h2:look ((see s a.key).held a.key) d=some true
       . rw [if_pos h2]
       . rw [if_neg h2]
         exact zko nd (h1.resolve_right h2)
     rw [this,zrn]
   rw [this]
 . rw [if_neg h1]
   have h2:look ((see s a.key).held a.key) d≠some true:=λ z=>h1 (.inr z)
   have et:zkd (see s a.key) d a.key a.wr=take (see s a.key) d a.key a.wr:=by
     unfold zkd take take1; rw [if_neg h2]
   rw [et]
   by_cases h3:lets ((see s a.key).held a.key) d a.wr=true/\(has ((see s a.key).held a.key) d=true\/(see s a.key).rows a.key=[])
   . rw [if_pos h3,if_pos]
     obtain ⟨h4,h5⟩:=h3
     rw [h4]
     rcases h5 with h5 | h5
     . rw [h5]; rfl
     . rw [h5]; simp
   . rw [if_neg h3,if_neg]
     . rfl
     . intro z
       apply h3
       rw [Bool.and_eq_true,Bool.or_eq_true] at z
       exact ⟨z.2,z.1.imp id λ q=>List.isEmpty_iff.mp q⟩
theorem zn1 {s:HS K} {k:K} {d:Nat} {w:Bool} {r:List (Nat×Bool)} (c:Core s none) (hr:s.rows k=(d,w)::r):take { s with rows:=up s.rows k r } d k w=zkd { s with rows:=up s.rows k r } d k w:=by
 unfold take zkd take1
 rw [if_neg]
 intro z
 have:=c.zf3 k d w true (by rw [hr]; exact List.mem_cons_self) (zc5 z)
 cases this.1
end
end TH
end
section
namespace S6
open PySem
section
variable {prog:Program} {w:World} {A:Around} {E:Value->Shared->Prop}
theorem zgm {α:Type}:∀ {l:List α} {k:Nat} (h:k < l.length),(l[k]::l.eraseIdx k).Perm l
 | a::r,0,h=>by simp
 | a::r,k+1,h=>by
  have:=zgm (l:=r) (k:=k) (by simpa using h)
  simp only [List.getElem_cons_succ,List.eraseIdx_cons_succ]
  exact (List.Perm.swap _ _ _).trans (this.cons a)
theorem zrj {src:Source} {n:Nat} {Q:Nat->Shared->Prop} {s:Shared} (hn:n≠0) (h:∀ k d,k < n->Q k { s with drawn:=d }):wpAny (model prog w) A (choose src n) Q E s:=λ Γ p _ =>
 ⟨hn,h _ _ (Nat.mod_lt _ (Nat.pos_of_ne_zero hn))⟩
theorem zmN {α:Type}:∀ (n:Nat) (xs:List α) (s:Shared) (Q:List α->Shared->Prop),xs.length=n->(∀ ys d,ys.Perm xs->Q ys { s with drawn:=d })->wpAny (model prog w) A (drawOrder n xs) Q E s
 | 0,xs,s,Q,hl,h=>by
  have:xs=[]:=List.length_eq_zero_iff.mp hl
  subst this
  exact wpAny_pure (h [] s.drawn .nil)
 | n+1,[],s,Q,hl,h=>by cases hl
 | n+1,x::r,s,Q,hl,h=>by
  unfold drawOrder
  refine wpAny_bind (zrj (by simp) λ k d hk=>?_)
  obtain ⟨y,hy⟩:∃ y,(x::r)[k]?=some y:=⟨_,List.getElem?_eq_getElem hk⟩
  rw [hy]
  dsimp only
  refine wpAny_bind (zmN n ((x::r).eraseIdx k) _ _ ?_ λ ys d' hp=>wpAny_pure ?_)
  . rw [List.length_eraseIdx,if_pos hk]; omega
  . refine h (y::ys) d' ?_
    obtain ⟨hk',rfl⟩:=List.getElem?_eq_some_iff.mp hy
    exact (hp.cons _).trans (zgm hk')
theorem ziK {α:Type} (next:Nat->Nat):∀ (n k:Nat) (l:List α) (out:Array α),l.length=n->(pickOrder.go next n k l out).toList.Perm (out.toList++l)
 | 0,k,l,out,hl=>by
  have:l=[]:=List.length_eq_zero_iff.mp hl
  subst this
  unfold pickOrder.go; simp
 | n+1,k,l,out,hl=>by
  unfold pickOrder.go
  have hk:next k % l.length < l.length:=Nat.mod_lt _ (by omega)
  rw [List.getElem?_eq_getElem hk]
  dsimp only
  refine (ziK next n (k+1) _ _ (by rw [List.length_eraseIdx,if_pos hk]; omega)).trans ?_
  rw [Array.toList_push,List.append_assoc]
  exact List.Perm.append_left _ (zgm hk)
theorem zqj {α:Type} (next:Nat->Nat) (xs:Array α):(pickOrder next xs).toList.Perm xs.toList:=by
 unfold pickOrder
 have:=ziK next xs.size 0 xs.toList #[] (by simp)
 simpa using this
theorem zht {α β:Type} {F:α->β->Prop} {l l':List α} (p:l'.Perm l):∀ {m:List β},Paired F l m->∃ m',m'.Perm m/\Paired F l' m':=by
 induction p with
 | nil=>intro m h; exact ⟨m,.refl _,h⟩
 | cons x _ ih =>
  intro m h
  cases h with
  | cons r t =>
   obtain ⟨m',p',h'⟩:=ih t
   exact ⟨_::m',p'.cons _,.cons r h'⟩
 | swap x y l =>
  intro m h
  cases h with
  | cons r t=>cases t with
   | cons r' t'=>exact ⟨_,.swap _ _ _,.cons r' (.cons r t')⟩
 | trans _ _ ih1 ih2 =>
  intro m h
  obtain ⟨m1,p1,h1⟩:=ih2 h
  obtain ⟨m2,p2,h2⟩:=ih1 h1
  exact ⟨m2,p2.trans p1,h2⟩
theorem zb9 {α β:Type} {F:α->β->Prop}:∀ {l:List α} {m:List β} {a:α} {b:β},Paired F l m->F a b->Paired F (l++[a]) (m++[b])
 | _,_,_,_,.nil,h=>.cons h .nil
 | _,_,_,_,.cons r t,h=>.cons r (zb9 t h)
theorem zjt {α β:Type} {F:α->β->Prop}:∀ {l:List α} {m:List β} {i:Nat} {a:α},Paired F l m->l[i]?=some a->∃ b,m[i]?=some b/\F a b
 | _,_,_,_,.nil,h=>by simp at h
 | _,_,0,_,.cons r _,h=>by simp at h; subst h; exact ⟨_,rfl,r⟩
 | _,_,i+1,_,.cons _ t,h=>by
  obtain ⟨b,h1,h2⟩:=zjt (i:=i) t (by simpa using h)
  exact ⟨b,by simpa using h1,h2⟩
theorem zm8 {α β:Type} {F:α->β->Prop} {l:List α} {m:List β} (h:Paired F l m) {a:α} (ha:a∈l):∃ b∈m,F a b:=by
 obtain ⟨i,hi⟩:=List.mem_iff_getElem?.mp ha
 obtain ⟨b,h1,h2⟩:=zjt h hi
 exact ⟨b,List.mem_of_getElem? h1,h2⟩
theorem zkB {α β:Type} {F:α->β->Prop}:∀ {l:List α} {m:List β},Paired F l m->∀ {b:β},b∈m->∃ a∈l,F a b
 | _,_,.nil,_,hb=>by cases hb
 | _,_,.cons r t,b,hb=>by
  rcases List.mem_cons.mp hb with z | z
  . subst z; exact ⟨_,List.mem_cons_self,r⟩
  . obtain ⟨a,h1,h2⟩:=zkB t z
    exact ⟨a,List.mem_cons_of_mem _ h1,h2⟩
theorem zsU (t:SetTable) (n:Nat):(t.orStandIn n).led=t.led:=by unfold SetTable.orStandIn; split <;> rfl
theorem zqq (t:SetTable) (n:Nat) (h:t.plain=false):(t.orStandIn n).plain=false:=by
 unfold SetTable.orStandIn; split
 . exact h
 . rfl
theorem zr1 (t:SetTable) (es:Array (Int×Value)) (h:Int) (x:Value):(layNew t es h x).2.1.led=t.led:=by
 unfold layNew; split
 . dsimp only; rw [zsU]; rfl
 . rfl
theorem zo6 (t:SetTable) (es:Array (Int×Value)) (h:Int) (x:Value) (hp:t.plain=false):(layNew t es h x).2.1.plain=false:=by
 unfold layNew; split
 . exact zqq _ _ hp
 . rfl
theorem znQ {t t':SetTable} {hs:Array Int} {n:Nat} {order:Array Nat} (e:t.relaid hs n=some (t',order)):t'.led=t.led/\t'.plain=t.plain:=by
 unfold SetTable.relaid SetTable.laid at e
 cases hl:SetTable.layClean (SetTable.sizeAbove n - 1) hs with
 | none=>rw [hl] at e; cases e
 | some ow=>rw [hl] at e; cases e; exact ⟨rfl,rfl⟩
theorem zoI (t:SetTable) (es:Array (Int×Value)) (n:Nat):(relayAll t es n).2.1.led=t.led/\(t.plain=false->(relayAll t es n).2.1.plain=false):=by
 unfold relayAll
 split
 . rename_i t' order e
   obtain ⟨h1,h2⟩:=znQ e
   dsimp only
   split
   . exact ⟨h1,λ h=>h2.trans h⟩
   . exact ⟨rfl,λ _=>rfl⟩
 . exact ⟨rfl,λ _=>rfl⟩
variable {K:Type} [DecidableEq K]
abbrev El (knd:KeyKind prog w K) (e:Int×Value) (k:K):Prop:=(knd.is k e.2=true/\e.1=knd.hash k)/\e.2.scannable=true
structure SetT (w:World) (t:SetTable) (n:Nat) (ne:Prop):Prop where
 fits:t.fits n=true
 led:w.params.followText "set-order" = false->t.led=true
 plain:ne->t.plain=false
def SetG (knd:KeyKind prog w K) (h:Heap) (a:Addr) (ks:List K):Prop :=
 ∃ o es ep t,h.get? a=some o/\o.ExactSet/\o.data=.set es ep t/\Paired (El knd) es.toList ks/\ks.Nodup/\ks.length < scanBound/\SetT w t es.size (ks≠[])
def SetP (knd:KeyKind prog w K) (h:Heap) (a:Addr) (ks:List K):Prop:=∃ ks',ks'.Perm ks/\SetG knd h a ks'
variable {knd:KeyKind prog w K} {s:Shared}
theorem SetG.at {h h':Heap} {a:Addr} {ks:List K} (x:SetG knd h a ks) (e:∀ o,h.get? a=some o->h'.get? a=some o):SetG knd h' a ks :=
 let ⟨o,es,ep,t,ho,r⟩:=x; ⟨o,es,ep,t,e _ ho,r⟩
theorem SetP.at {h h':Heap} {a:Addr} {ks:List K} (x:SetP knd h a ks) (e:∀ o,h.get? a=some o->h'.get? a=some o):SetP knd h' a ks :=
 let ⟨ks',p,g⟩:=x; ⟨ks',p,g.at e⟩
theorem zqM {l:List (Int×Value)} {ks:List K} (h:Paired (El knd) l ks):ElemsOf knd l:=λ e he=>by
 obtain ⟨k,_,⟨h1,h2⟩,h3⟩:=zm8 h he
 exact ⟨⟨k,h1,h2⟩,h3⟩
theorem ziJ {h:Heap} {a:Addr} {o:Obj} {es:Array (Int×Value)} {ep:Nat} {t:SetTable} (ho:h.get? a=some o) (hx:o.ExactSet) (hd:o.data=.set es ep t)
  {es':Array (Int×Value)} {t':SetTable} {ks:List K} (he:Paired (El knd) es'.toList ks) (hn:ks.Nodup) (hb:ks.length < scanBound) (ht:SetT w t' es'.size (ks≠[])) :
  ∃ o',(h.update a (Obj.putSet es' t')).get? a=some o'/\o'.ExactSet/\o'.data=.set es' (ep+1) t'/\SetG knd (h.update a (Obj.putSet es' t')) a ks:=by
 have g:=Heap.get?_update_self (Obj.putSet es' t') ho (by rw [putSet_of es' t' hd]; rfl)
 rw [putSet_of es' t' hd] at g
 exact ⟨_,g,hx,rfl,_,es',ep+1,t',g,hx,rfl,he,hn,hb,ht⟩
theorem zqr {x:Value} (hx:x.scannable=true) (hp:plainKind x=false):hashByValue 8 x=pure false:=by rw [hashByValue_scannable 8 hx,hp]
theorem zoB {a:Addr} {ks:List K} {k:K} {x:Value} {Q:Bool->Shared->Prop} (hkey:knd.is k x=true) (hsc:x.scannable=true) (hnp:plainKind x=false) (hS:SetP knd s.heap a ks) (hroom:ks.length+1 < scanBound)
  (h:∀ b h',Heap.SameBut a s.heap h'->SetP knd h' a (if k∈ks then ks else ks++[k])->Q b { s with heap:=h' }) :
  wpAny (model prog w) A (setAddHashed a x (knd.hash k)) Q E s:=by
 obtain ⟨ks',pk,o,es,ep,t,ho,hx,hd,hel,hnd,hb,hT⟩:=hS
 have hl:es.size=ks'.length:=by rw [<-Array.length_toList]; exact hel.length
 have hpl:ks'.length=ks.length:=pk.length_eq
 have E0:=zqM hel
 have hes:es.size < scanBound:=by omega
 unfold setAddHashed setAddHashedIn
 refine wpAny_holding (wpAny_bind (wpAny_setState_of ho hd hT.fits ?_))
 dsimp only
 rw [byScan_of hsc hes E0]
 simp only [↓reduceIte]
 unfold setAddByScan
 refine wpAny_bind (wpAny_bind (wpAny_rule (wpAny_bind (wpAny_setScan_of hkey ho hd hT.fits E0 ?_))))
 have memk:∀ q,(q∈ks↔∃ e∈es.toList,knd.is q e.2=true):=λ q=>by
  rw [<-pk.mem_iff]
  refine ⟨λ hq=>?_,λ ⟨e,he,hq⟩=>?_⟩
  . obtain ⟨e,he,z⟩:=zkB hel hq
    exact ⟨e,he,z.1.1⟩
  . obtain ⟨q',hq',z⟩:=zm8 hel he
    rw [knd.inj _ q q' hq z.1.1]; exact hq'
 cases hr:List.findIdx? (λ e=>knd.is k e.2) es.toList with
 | some j =>
  dsimp only
  obtain ⟨hj,hpj,_⟩:=List.findIdx?_eq_some_iff_getElem.mp hr
  have hk:k∈ks:=(memk k).mpr ⟨es.toList[j],List.getElem_mem hj,hpj⟩
  have q:=h false s.heap (Heap.SameBut.refl a s.heap)
  rw [if_pos hk] at q
  exact wpAny_pure (wpAny_pure (q ⟨ks',pk,o,es,ep,t,ho,hx,hd,hel,hnd,hb,hT⟩))
 | none =>
  dsimp only
  have hk:k∉ks:=λ z=>by
    obtain ⟨e,he,hq⟩:=(memk k).mp z
    have:=List.findIdx?_eq_none_iff.mp hr e he
    rw [hq] at this; cases this
  have gave:∀ (b:Bool) {s₁:Shared} {Q':Unit->Shared->Prop},Q' () s₁->wpAny (model prog w) A (match b with | true=>rule "set.scan.the-table-gave-way" | false=>pure ()) Q' E s₁ :=
    λ b s₁ Q' hq=>by cases b <;> first | exact wpAny_pure hq | exact wpAny_rule hq
  have lp:=layNew_perm t es (knd.hash k) x
  have lf:=layNew_fits t es (knd.hash k) x
  have ll:=zr1 t es (knd.hash k) x
  have lpl:=zo6 t es (knd.hash k) x
  generalize layNew t es (knd.hash k) x=L at lp lf ll lpl ⊢
  obtain ⟨es1,t1,wasDummy,gv⟩:=L
  dsimp only at lp lf ll lpl ⊢
  rw [Array.toList_push] at lp
  obtain ⟨k1,pk1,hel1⟩:=zht lp (zb9 hel (show El knd (knd.hash k,x) k from ⟨⟨hkey,rfl⟩,hsc⟩))
  have hk':k∉ks':=λ z=>hk (pk.mem_iff.mp z)
  have nd1:k1.Nodup:=pk1.nodup_iff.mpr (List.nodup_append.mpr ⟨hnd,by simp,λ u hu v hv=>by rw [List.mem_singleton.mp hv]; intro z; rw [z] at hu; exact hk' hu⟩)
  have ln1:k1.length=ks'.length+1:=by rw [pk1.length_eq]; simp
  have pk2:k1.Perm (ks++[k]):=pk1.trans (pk.append_right _)
  have hz1:es1.size=k1.length:=by rw [<-Array.length_toList]; exact hel1.length
  refine wpAny_bind (gave _ ?_)
  have tail:∀ t2:SetTable,t2.fits es1.size=true->t2.led=t1.led->t2.plain=false ->
      wpAny (model prog w) A (do
       storeSet a es1 t2
       if (!wasDummy && t2.tooFull)=true then do
         (match (relayAll t2 es1 (SetTable.grown es1.size)).2.2 with | true=>rule "set.scan.the-table-gave-way" | false=>pure ())
         storeSet a (relayAll t2 es1 (SetTable.grown es1.size)).1 (relayAll t2 es1 (SetTable.grown es1.size)).2.1
         pure (some true)
        else pure (some true)) (λ r s'=>∃ b h',r=some b/\s'={ s with heap:=h' }/\Heap.SameBut a s.heap h'/\SetP knd h' a (ks++[k])) E s:=λ t2 f2 l2 p2=>by
    have hT2:SetT w t2 es1.size (k1≠[]):=⟨f2,λ q=>by rw [l2,ll]; exact hT.led q,λ _=>p2⟩
    refine wpAny_bind (wpAny_storeSet_of ho hd ?_ (by rw [hz1]; exact fits_of_scanBound (by omega)))
    obtain ⟨o1,ho1,hx1,hd1,G1⟩:=ziJ (knd:=knd) ho hx hd hel1 nd1 (by omega) hT2
    have sb1:=Heap.SameBut.update s.heap a (Obj.putSet es1 t2)
    split
    . have rp:=relayAll_perm t2 es1 (SetTable.grown es1.size)
      have rf:=relayAll_fits t2 es1 (SetTable.grown es1.size)
      obtain ⟨rl,rpl⟩:=zoI t2 es1 (SetTable.grown es1.size)
      generalize relayAll t2 es1 (SetTable.grown es1.size)=R at rp rf rl rpl ⊢
      obtain ⟨es2,t3,g2⟩:=R
      dsimp only at rp rf rl rpl ⊢
      obtain ⟨k3,pk3,hel3⟩:=zht rp hel1
      have hz3:es2.size=k3.length:=by rw [<-Array.length_toList]; exact hel3.length
      refine wpAny_bind (gave _ ?_)
      refine wpAny_bind (wpAny_storeSet_of ho1 hd1 ?_ (by rw [hz3,pk3.length_eq]; exact fits_of_scanBound (by omega)))
      obtain ⟨o3,ho3,hx3,hd3,G3⟩:=ziJ (knd:=knd) ho1 hx1 hd1 hel3 (pk3.nodup_iff.mpr nd1) (by rw [pk3.length_eq]; omega) ⟨rf,λ q=>by rw [rl]; exact hT2.led q,λ _=>rpl p2⟩
      exact wpAny_pure ⟨true,_,rfl,rfl,sb1.trans (Heap.SameBut.update _ a _),k3,pk3.trans pk2,G3⟩
    . exact wpAny_pure ⟨true,_,rfl,rfl,sb1,k1,pk2,G1⟩
  cases hp:t1.plain with
  | true =>
    simp only [↓reduceIte]
    rw [zqr hsc hnp]
    refine wpAny_bind (wpAny_pure ?_)
    simp only [Bool.false_eq_true,↓reduceIte]
    refine wpAny_mono (tail { t1 with plain:=false } (SetTable.fits_plain_off lf) rfl rfl) (λ r s' hq=>?_) λ _ _ z=>z
    obtain ⟨b,h',rfl,rfl,sb,G⟩:=hq
    have q:=h b h' sb
    rw [if_neg hk] at q
    exact wpAny_pure (q G)
  | false =>
    simp only [Bool.false_eq_true,↓reduceIte]
    refine wpAny_bind (wpAny_pure ?_)
    simp only [↓reduceIte]
    refine wpAny_mono (tail t1 lf rfl hp) (λ r s' hq=>?_) λ _ _ z=>z
    obtain ⟨b,h',rfl,rfl,sb,G⟩:=hq
    have q:=h b h' sb
    rw [if_neg hk] at q
    exact wpAny_pure (q G)
end
end S6
end
section
namespace S6
open PySem PyProof.Rows
abbrev set0 (w:World):Obj:={ cls:=.type "set",dict:=none,data:=.set #[] 0 (.fresh 0 0 (!w.params.followText "set-order")) }
section
variable {prog:Program} {w:World} {A:Around} {E:Value->Shared->Prop} {s:Shared}
theorem zrW (a:Value) {Q₁:Value->Shared->Prop} (h:Q₁ (.ref s.heap.objs.size) { s with heap:=s.heap.push (set0 w) }) :
  codeAny (model prog w) A (.call (.builtin "set.__new__") ⟨[.type "set",a],[]⟩) (wants Q₁ E) s:=by
 refine codeAny_of_tree ?_
 show wpAny _ A.in1 (do
  checkBuiltinCall "set.__new__" ⟨[.type "set",a],[]⟩
  again (.builtin "set.__new__" ⟨[.type "set",a],[]⟩)) _ _ s
 refine wpAny_bind (wpAny_of_eq (F.newCall_set_1 a) (wpAny_pure ⟨plainId_quiet F.plain_set_new _,codeAny_builtin F.entry_set_new ?_⟩))
 rw [Around.under_plainId F.plain_set_new _]
 unfold Builtin.«set.__new__» Builtin.Frozenset.newClass
 have hsub:=sub_set_self
 obtain ⟨hp,g,d,tk,os⟩:=s
 dsimp only
 wp_walk
 refine wpAny_askSetting (wpAny_pure ?_)
 dsimp only
 simp only [newObj]
 exact wpAny_bind (wpAny_alloc (wpAny_pure (wpAny_pure h)))
variable {K:Type} [DecidableEq K] {knd:KeyKind prog w K}
theorem zoD {h:Heap} {a:Addr} (e:h.get? a=some (set0 w)):SetP knd h a [] :=
 ⟨[],.refl _,_,#[],0,_,e,⟨rfl,rfl,rfl⟩,rfl,.nil,List.nodup_nil,(by show (0:Nat) < scanBound; decide),⟨rfl,λ q=>by show (!_)=true; rw [q]; rfl,λ z=>absurd rfl z⟩⟩
theorem zsF {l:Addr} {R:Heap->Prop} {Q:Value->Shared->Prop} (hl:∃ o,s.heap.get? l=some o)
  (hup:wpAny (model prog w) A.in1.in1 (Builtin.Frozenset.updateFrom "set.__init__" s.heap.objs.size (.ref l)) (λ _ s'=>∃ h' tk,s'={ s with heap:=h',toks:=tk }/\R h') E { s with heap:=s.heap.push (set0 w) })
  (h:∀ h' tk,R h'->Q (.ref s.heap.objs.size) { s with heap:=h',toks:=tk }) :
  wpAny (model prog w) A (call (.type "set") [.ref l]) Q E s:=by
 obtain ⟨c,tl,hmro⟩:=F.called_set.mro
 have hmade:=F.called_set.made
 have hsub:=F.called_set.sub
 refine wpAny_call (codeAny_of_tree ?_)
 show wpAny _ _ (callAny (.type "set") _) _ _ _
 refine wpAny_pure ⟨Code.quiet_builtin _ (by decide +kernel),codeAny_builtin F.entry_type_call ?_⟩
 rw [Around.under_plain (weight_type_call_type "set" [.ref l] []) rfl]
 have h1:=F.called_set.notType
 have h2:=F.called_set.canCreate
 have hct:=F.typeCall_set_1 (.ref l)
 repeat (any_goals (first | assumption | wp_step))
 refine codeAny_mono (zrW (.ref l) (E:=E) (Q₁:=λ obj s₁=>obj=.ref s.heap.objs.size/\s₁={ s with heap:=s.heap.push (set0 w) }) ⟨rfl,rfl⟩) λ r s₁ hr=>?_
 cases r with
 | error e=>exact hr
 | ok fl =>
  cases fl with
  | ret obj =>
   obtain ⟨rfl,rfl⟩:=hr
   have hS:(s.heap.push (set0 w)).get? s.heap.objs.size=some (set0 w):=Heap.get?_push_size _ rfl
   have hT:Shared.TypeIs { s with heap:=s.heap.push (set0 w) } (.ref s.heap.objs.size) "set" := ⟨_,hS,rfl⟩
   have hli:=F.called_set.init.lookup
   have hbi:=F.called_set.init.bind (.ref s.heap.objs.size)
   repeat (any_goals (first | assumption | wp_step))
   refine codeAny_mono (codeAny_call_builtin (R:=wants (λ r s₂=>r=.none/\∃ h' tk,s₂={ s with heap:=h',toks:=tk }/\R h') E) F.called_set.init.plain F.entry_set_init (check_set_init_1 hT ?_)) λ r₂ s₂ hr₂=>?_
   · unfold Builtin.«set.__init__» noKeywords
     generalize hU:Builtin.Frozenset.updateFrom=U at hup ⊢
     wp_walk
     refine wpAny_mono hup (λ _ s' hq=>?_) λ _ _ z=>z
     obtain ⟨h',tk,rfl,hr⟩:=hq
     exact wpAny_pure ⟨rfl,h',tk,rfl,hr⟩
   . cases r₂ with
     | error e=>exact hr₂
     | ok fl₂ =>
      cases fl₂ with
      | ret r =>
       obtain ⟨rfl,h',tk,rfl,hS'⟩:=hr₂
       repeat (any_goals (first | assumption | wp_step))
       exact h _ _ hS'
      | _=>exact hr₂.elim
  | _=>exact hr.elim
def ded (acc:List K) (k:K):List K:=if k∈acc then acc else acc++[k]
def deds (ks:List K):List K:=ks.foldl ded []
theorem zlg (ks:List K) (k:K):deds (ks++[k])=ded (deds ks) k:=by unfold deds; rw [List.foldl_append]; rfl
theorem zr7 (a:List K) (k:K):(ded a k).length<=a.length+1:=by
 unfold ded; split
 . omega
 . simp
theorem zr0 {a:List K} {k x:K}:x∈ded a k↔x∈a\/x=k:=by
 unfold ded; split
 . rename_i h; exact ⟨.inl,λ z=>z.elim id λ e=>e ▸ h⟩
 . simp
theorem znl {x:K}:∀ {ks a:List K},x∈ks.foldl ded a↔x∈a\/x∈ks
 | [],a=>by simp
 | k::r,a=>by rw [List.foldl_cons,znl (ks:=r),zr0,List.mem_cons,or_assoc]
theorem zjE {ks:List K} {x:K}:x∈deds ks↔x∈ks:=by unfold deds; rw [znl]; simp
theorem ztb {a:List K} {k:K} (h:a.Nodup):(ded a k).Nodup:=by
 unfold ded; split
 . exact h
 . rename_i hk
   exact List.nodup_append.mpr ⟨h,by simp,λ u hu v hv=>by rw [List.mem_singleton.mp hv]; intro z; rw [z] at hu; exact hk hu⟩
theorem zpu:∀ {ks a:List K},a.Nodup->(ks.foldl ded a).Nodup
 | [],a,h=>h
 | k::r,a,h=>zpu (ks:=r) (ztb h)
theorem zpD (ks:List K):(deds ks).Nodup:=zpu List.nodup_nil
theorem znm:∀ {ks a:List K},(ks.foldl ded a).length<=a.length+ks.length
 | [],a=>by simp
 | k::r,a=>by
  have:=znm (ks:=r) (a:=ded a k)
  have:=zr7 a k
  simp only [List.foldl_cons,List.length_cons]; omega
theorem znp (ks:List K):(deds ks).length<=ks.length:=by have:=znm (ks:=ks) (a:=([]:List K)); unfold deds; simpa using this
variable {R:Result->Shared->Prop} {I:Addr} {fp wr:List Addr} {G:Array GenState->Array GenState->Prop} {P:Nat->Value->Prop} {St:Nat->Shared->Prop}
theorem zqb {ks:List K} (W:WalksS prog w A.in1 I fp wr G ks.length P St) (S:Addr) (hSf:S∉fp) (hP:∀ i v,P i v->∃ k,ks[i]?=some k/\knd.is k v=true/\v.scannable=true/\plainKind v=false) (hb:ks.length+1 < scanBound) :
  ∀ (m i:Nat) (s:Shared),ks.length - i=m->i<=ks.length->St i s->SetP knd s.heap S (deds (ks.take i)) ->
    (∀ s',Moved (S::wr) G s s'->SetP knd s'.heap S (deds ks)->R (.ok (.ret .none)) s') ->
    codeAny (model prog w) A (.builtin "set.update.loop" ⟨[.ref S,.ref I],[]⟩) R s:=by
 have nw:S∉wr:=λ z=>hSf (W.sub _ z)
 have up:∀ b∈wr,b∈S::wr:=λ b z=>List.mem_cons_of_mem _ z
 intro m
 induction m with
 | zero =>
  intro i s hm hi st hS hR
  have ei:i=ks.length:=by omega
  subst ei
  refine codeAny_builtin F.entry_set_update_loop ?_
  rw [Around.under_plainId F.plain_set_update_loop _]
  refine wpAny_bind (m:=pyNext (.ref I)) (W.done s _ _ st λ s' mv=>wpAny_pure (hR s' (mv.mono up) ?_))
  rw [List.take_length] at hS
  exact hS.at λ o e=>mv.heap S o nw e
 | succ m ih =>
  intro i s hm hi st hS hR
  have hlt:i < ks.length:=by omega
  refine codeAny_builtin F.entry_set_update_loop ?_
  rw [Around.under_plainId F.plain_set_update_loop _]
  refine wpAny_bind (m:=pyNext (.ref I)) (W.item i s _ _ hlt st λ v s' pv st' mv=>?_)
  obtain ⟨k,hk,his,hsc,hnp⟩:=hP i v pv
  have hS1:SetP knd s'.heap S (deds (ks.take i)):=hS.at λ o e=>mv.heap S o nw e
  refine wpAny_bind (m:=holding [v] (setAdd S v)) (wpAny_holding ?_)
  unfold setAdd
  refine wpAny_holding (wpAny_bind (knd.pyHash his ?_))
  have hlen:(deds (ks.take i)).length<=i:=Nat.le_trans (znp _) (by rw [List.length_take]; omega)
  refine zoB (s:={ s' with toks:=s'.toks+1 }) his hsc hnp hS1 (by omega) λ b h' sb hS2=>?_
  have e:ks.take (i+1)=ks.take i++[k]:=by rw [List.take_add_one,hk]; rfl
  have hS3:SetP knd h' S (deds (ks.take (i+1))):=by rw [e,zlg]; exact hS2
  refine wpAny_pure ⟨plainId_quiet F.plain_set_update_loop _,ih (i+1) _ (by omega) hlt (W.frame _ s' _ _ st' (Nat.le_succ _) λ b hb o eo=>?_) hS3 λ s'' mv'' hS''=>?_⟩
  . rw [sb.2 b λ z=>hSf (z ▸ hb)]; exact eo
  . refine hR s'' (Moved.trans W.gtrans ((mv.mono up).then_heap (Nat.le_succ _) λ b o hb eo=>?_) mv'') hS''
    rw [sb.2 b λ z=>hb (z ▸ List.mem_cons_self)]; exact eo
end
end S6
end
section
namespace S6
open PySem PyProof.Rows
theorem sub_dict_set:isSubtype (.type "dict") (.type "set")=pure false:=by rw [isSubtype_type]; kernel_rfl
theorem zjd:isSubtype (.type "dict") (.type "frozenset")=pure false:=by rw [isSubtype_type]; kernel_rfl
section
variable {prog:Program} {w:World} {A:Around} {E:Value->Shared->Prop} {s:Shared} {K:Type} [DecidableEq K] {knd:KeyKind prog w K}
abbrev KVal (knd:KeyKind prog w K) (k:K) (v:Value):Prop:=knd.is k v=true/\v.scannable=true/\plainKind v=false
theorem zra {T:String} {v:Value} {Q:Bool->Shared->Prop} (hT:s.TypeIs v T) (h1:isSubtype (.type T) (.type "set")=pure false) (h2:isSubtype (.type T) (.type "frozenset")=pure false) (h:Q false s) :
  wpAny (model prog w) A (Builtin.Frozenset.isAnySet v) Q E s:=by
 unfold Builtin.Frozenset.isAnySet
 refine wpAny_bind (wpAny_isInstance hT h1 ?_)
 exact wpAny_isInstance hT h2 h
theorem zpv {S l:Addr} {items:Array Value} {ks:List K} (hh:A.handled=none) (hl:s.heap.IsList l items) (hS:SetP knd s.heap S []) (hne:S≠l) (hlen:items.size=ks.length) (hb:ks.length+1 < scanBound)
   (hv:∀ (i:Nat) v,items[i]?=some v->∃ k,ks[i]?=some k/\KVal knd k v) :
   wpAny (model prog w) A (Builtin.Frozenset.updateFrom "set.__init__" S (.ref l)) (λ _ s'=>∃ h' tk,s'={ s with heap:=h',toks:=tk }/\SetP knd h' S (deds ks)/\∀ b o,b≠S->s.heap.get? b=some o->h'.get? b=some o) E s:=by
 unfold Builtin.Frozenset.updateFrom
 refine wpAny_bind (zra hl.typeIs F.sub_list_set F.sub_list_frozenset ?_)
 simp only [Bool.false_eq_true,if_false]
 refine wpAny_bind (wpAny_typeOf hl.typeIs ?_)
 rw [if_neg (by decide)]
 refine wpAny_bind (wpAny_pyIter_list hl ?_)
 refine wpAny_bind (wpAny_runValue ?_)
 obtain ⟨ol,hol,_⟩:=id hl
 have hSl:S < s.heap.objs.size:=by obtain ⟨_,_,o,_,_,_,e,_⟩:=hS; exact Heap.lt_size e
 have hSf:S∉[s.heap.objs.size,l]:=by
   intro z
   rcases List.mem_cons.mp z with z | z
   . exact absurd hSl (by rw [z]; exact Nat.lt_irrefl _)
   . exact hne (List.mem_singleton.mp z)
 have W:=(Walks.list (prog:=prog) (w:=w) (A:=A.in1) hh s.heap.objs.size l (Nat.ne_of_lt (Heap.lt_size hol)) items).toS
 rw [hlen] at W
 refine zqb W S hSf hv hb ks.length 0 _ (by omega) (Nat.zero_le _) ⟨⟨_,Heap.get?_push_size _ rfl,rfl,rfl⟩,hl.push _⟩ (hS.at λ o e=>Heap.get?_push_of_some _ e) λ s' mv hS'=>?_
 obtain ⟨h',g',d',tk',os'⟩:=s'
 have eg:g'=s.gens:=mv.gens
 have ed:d'=s.drawn:=mv.drawn
 have eo:os'=s.os:=mv.os
 subst eg ed eo
 refine wpAny_pure ⟨h',tk',rfl,hS',λ b o hb e=>mv.heap b o (λ z=>?_) (Heap.get?_push_of_some _ e)⟩
 rcases List.mem_cons.mp z with z | z
 . exact hb z
 . have:=List.mem_singleton.mp z
   exact absurd (Heap.lt_size e) (by rw [this]; exact Nat.lt_irrefl _)
theorem zpw {S d:Addr} {kvs:List (K×Value)} (lo:(d == sysModules)=false) (hd:s.heap.DictOf knd d kvs) (hS0:s.heap.get? S=some (set0 w)) (h4:kvs.length<=4)
   (hv:∀ p∈kvs,∀ u,knd.is p.1 u=true->u.scannable=true/\plainKind u=false) :
   wpAny (model prog w) A (Builtin.Frozenset.updateFrom "set.__init__" S (.ref d)) (λ _ s'=>∃ h' tk,s'={ s with heap:=h',toks:=tk }/\SetP knd h' S (deds (kvs.map (·.1)))/\∀ b o,b≠S->s.heap.get? b=some o->h'.get? b=some o) E s:=by
 have hT:=hd.typeIs (s:=s)
 obtain ⟨o,es,ep,ho,hx,hod,hk,hp,hn⟩:=hd
 have hne:d≠S:=λ z=>by
   rw [z,hS0] at ho; cases ho; cases hod
 have hz:es.size=kvs.length:=by rw [<-hp.length]; simp
 unfold Builtin.Frozenset.updateFrom
 refine wpAny_bind (zra hT sub_dict_set zjd ?_)
 simp only [Bool.false_eq_true,if_false]
 refine wpAny_bind (wpAny_typeOf hT ?_)
 rw [if_pos (by decide)]
 refine wpAny_bind (wpAny_rule (wpAny_bind (m:=Builtin.Frozenset.addrOf (.ref d)) (wpAny_pure ?_)))
 rw [if_neg (by rw [lo]; exact Bool.false_ne_true)]
 refine wpAny_bind (wpAny_dictEpoch ho hod (wpAny_bind (wpAny_dictEntries ho hod (wpAny_bind ?_))))
 unfold setRoomFor
 refine wpAny_bind (wpAny_setState_of hS0 rfl rfl ?_)
 have hroom:(SetTable.fresh 0 0 (!w.params.followText "set-order")).roomFor es.size=none:=by
   unfold SetTable.roomFor
   rw [if_neg]
   show ¬ ((0+es.size) * 5 ≥ 7 * 3)
   omega
 dsimp only
 rw [hroom]
 refine wpAny_pure (wpAny_bind (wpAny_dictEntries ho hod (wpAny_bind ?_)))
 rw [Std.Legacy.Range.forIn_eq_forIn_range']
 simp only [Std.Legacy.Range.size,Nat.sub_zero,Nat.add_sub_cancel,Nat.div_one]
 have hlk:(kvs.map (·.1)).length=es.size:=by rw [List.length_map,hz]
 refine wpAny_forIn_list _ (λ rest _ s'=>∃ h' i,s'={ s with heap:=h' }/\rest=List.range' i (es.size - i)/\i<=es.size/\SetP knd h' S (deds ((kvs.map (·.1)).take i))/\Heap.SameBut S s.heap h') _ ?_ ?_ _ _
   ⟨s.heap,0,rfl,by simp,Nat.zero_le _,zoD hS0,Heap.SameBut.refl _ _⟩
 . rintro x rest b s' ⟨h',i,rfl,hr,hi,hS',sb⟩
   have hlt:i < es.size:=by
    rcases Nat.lt_or_ge i es.size with z | z
    . exact z
    . rw [Nat.sub_eq_zero_of_le z] at hr; cases hr
   obtain ⟨rfl,hrest⟩:x=i/\rest=List.range' (i+1) (es.size - (i+1)):=by
    rw [show es.size - i=(es.size - (i+1))+1 by omega,List.range'_succ] at hr
    injection hr with q1 q2
    exact ⟨q1,q2⟩
   have ho':h'.get? d=some o:=(sb.2 d hne).trans ho
   refine wpAny_bind (wpAny_dictEntries (s:={ s with heap:=h' }) ho' hod ?_)
   rw [Array.getElem?_eq_getElem hlt]
   obtain ⟨⟨k,v⟩,hkv⟩:∃ kv,kvs[x]?=some kv:=⟨kvs[x]'(by rw [<-hz]; exact hlt),List.getElem?_eq_getElem _⟩
   have his:=(hp.get? (e:=es[x]) (by simp [hlt]) hkv).1
   obtain ⟨k',his',hh'⟩:=hk es[x] (Array.getElem_mem hlt)
   obtain rfl:k'=k:=knd.inj _ _ _ his' his
   obtain ⟨hsc,hnp⟩:=hv (k',v) (List.mem_of_getElem? hkv) _ his
   have hke:(kvs.map (·.1))[x]?=some k':=by rw [List.getElem?_map,hkv]; rfl
   have hlen:(deds ((kvs.map (·.1)).take x)).length<=x:=Nat.le_trans (znp _) (by rw [List.length_take]; omega)
   refine wpAny_bind (wpAny_holding ?_)
   rw [hh']
   refine zoB (s:={ s with heap:=h' }) his hsc hnp hS' (by unfold scanBound; omega) λ b2 h2 sb2 hS2=>?_
   have ho2:h2.get? d=some o:=(sb2.2 d hne).trans ho'
   refine wpAny_bind (wpAny_dictEpoch (s:={ s with heap:=h2 }) ho2 hod ?_)
   rw [if_neg (by simp)]
   refine wpAny_pure ⟨h2,x+1,rfl,hrest,hlt,?_,sb.trans sb2⟩
   rw [List.take_add_one,hke]
   show SetP knd h2 S (deds ((kvs.map (·.1)).take x++[k']))
   rw [zlg]; exact hS2
 . rintro b s' ⟨h',i,rfl,hr,hi,hS',sb⟩
   have ei:i=es.size:=by
    rcases Nat.lt_or_ge i es.size with z | z
    . rw [show es.size - i=(es.size - (i+1))+1 by omega,List.range'_succ] at hr; cases hr
    . omega
   rw [ei,<-hlk,List.take_length] at hS'
   exact wpAny_pure ⟨h',s.toks,rfl,hS',λ b o hb e=>(sb.2 b hb).trans e⟩
end
end S6
end
section
namespace S6
open PySem PyProof.Rows
theorem zb0:Slot "set_iterator" "__next__" "set_iterator.__next__" :=
 Slot.of (owner := "set_iterator") (n := "__next__")
  (by rw [typeLookup_type,builtinLookup_eq_fast]; kernel_rfl) (by decide +kernel)
  (by decide +kernel) (by decide +kernel)
  (by first | exact .inl (by decide +kernel) | exact .inr (by decide +kernel))
  (by rw [isSubtype_type]; kernel_rfl)
theorem zfJ : entryFor table "set_iterator.__next__" = some Builtin.«set_iterator.__next__» :=
 entryFor_of_tree (by kernel_rfl)
theorem zgH (a:Value):argsOk "set_iterator.__next__" ⟨[a],[]⟩:=by
 unfold argsOk; kernel_rfl
theorem zlc : entryFor table "set.__iter__" = some Builtin.«frozenset.__iter__» :=
 entryFor_alias (id' := "frozenset.__iter__") (by kernel_rfl) rfl
  (by decide +kernel) (by kernel_rfl)
def byT (w:World):Bool:=w.params.followText "set-order"
def itO (first:Value) (i:Nat) (a:Addr) (n ep:Nat):Obj:={ cls:=.type "set_iterator",data:=.fields #[first,.int i 0,.ref a,.int n 0,.int ep 0] }
def Mode (w:World) (es:Array (Int×Value)) (ep:Nat) (t:SetTable) (vs:List Value) (a it p:Addr) (i:Nat) (h:Heap) (first:Value):Prop :=
 (byT w=true/\(∃ sl:Nat,first=.int sl 0)/\vs=(pickOrder (w.params.setOrder a ep) es).toList.map (·.2)) \/
 (byT w=false/\first=.ref p/\p≠it/\∃ ps:List Nat,h.get? p=some { cls:=.type "tuple",data:=.seq (ps.map λ (n:Nat)=>Value.int n 0).toArray }/\vs=ps.filterMap (λ j=>(es[j]?).map (·.2))/\ps.Perm (List.range es.size)) \/
 (byT w=false/\t.led=true/\es.size<=1/\first=.int (if i=0 then 0 else ((t.place.getD 0 0:Nat):Int)+1) 0/\vs=es.toList.map (·.2))
def SIt (w:World) (es:Array (Int×Value)) (ep:Nat) (t:SetTable) (vs:List Value) (a it p:Addr) (i:Nat) (h:Heap):Prop :=
 (∃ o,h.get? a=some o/\o.ExactSet/\o.data=.set es ep t)/\∃ first,h.get? it=some (itO first i a es.size ep)/\Mode w es ep t vs a it p i h first
section
variable {prog:Program} {w:World} {A:Around} {E:Value->Shared->Prop} {s:Shared}
theorem zol {a:Addr} {o:Obj} {es:Array (Int×Value)} {ep:Nat} {t:SetTable} {Q:Array (Int×Value)->Shared->Prop} (ho:s.heap.get? a=some o) (hd:o.data=.set es ep t) (hf:t.fits es.size=true) (hb:byT w=true)
  (h:Q (pickOrder (w.params.setOrder a ep) es) s):wpAny (model prog w) A (setWalk a) Q E s:=by
 unfold setWalk setsByText
 refine wpAny_bind (wpAny_setState_of ho hd hf ?_)
 dsimp only
 refine wpAny_bind (wpAny_bind (wpAny_askSetting (wpAny_pure ?_)))
 show wpAny _ _ (if byT w=true then _ else _) _ _ _
 rw [if_pos hb]
 exact wpAny_bind (wpAny_askSetting (wpAny_pure h))
theorem zkR {a:Addr} {o:Obj} {es:Array (Int×Value)} {ep slot i:Nat} {t:SetTable} {Q:Option (Value×Nat)->Shared->Prop} (ho:s.heap.get? a=some o) (hd:o.data=.set es ep t) (hf:t.fits es.size=true) (hb:byT w=true)
  (h:Q (((pickOrder (w.params.setOrder a ep) es)[i]?).map λ e=>(e.2,slot)) s):wpAny (model prog w) A (setNext a slot i ep) Q E s:=by
 unfold setNext setsByText
 refine wpAny_bind (wpAny_setState_of ho hd hf ?_)
 dsimp only
 refine wpAny_bind (wpAny_bind (wpAny_askSetting (wpAny_pure ?_)))
 show wpAny _ _ (if byT w=true then _ else _) _ _ _
 rw [if_pos hb,if_neg (by simp)]
 exact wpAny_bind (zol ho hd hf hb (wpAny_pure h))
theorem ziP {a:Addr} {o:Obj} {es:Array (Int×Value)} {ep slot i:Nat} {t:SetTable} {Q:Option (Value×Nat)->Shared->Prop} (ho:s.heap.get? a=some o) (hd:o.data=.set es ep t) (hf:t.fits es.size=true) (hb:byT w=false) (hl:t.led=true) (hz:es.size<=1)
  (h:Q (match es[SetTable.below t.place slot]?,t.place[SetTable.below t.place slot]? with | some (_,x),some j=>some (x,j+1) | _,_=>none) s):wpAny (model prog w) A (setNext a slot i ep) Q E s:=by
 unfold setNext setsByText
 refine wpAny_bind (wpAny_setState_of ho hd hf ?_)
 dsimp only
 refine wpAny_bind (wpAny_bind (wpAny_askSetting (wpAny_pure ?_)))
 show wpAny _ _ (if byT w=true then _ else _) _ _ _
 rw [if_neg (by rw [hb]; exact Bool.false_ne_true)]
 show wpAny _ _ (if (!t.plain && decide (es.size > 1))=true then _ else _) _ _ _
 rw [if_neg (by simp; omega)]
 refine wpAny_bind ?_
 show wpAny _ _ (if (!t.led && !es.isEmpty)=true then _ else _) _ _ _
 rw [if_neg (by simp [hl])]
 exact wpAny_pure (wpAny_pure h)
theorem zln {x j:Nat}:SetTable.below #[x] j=if x < j then 1 else 0:=by
 unfold SetTable.below SetTable.below.go
 simp
 by_cases h:x < j
 . simp [h,SetTable.below.go]
 . simp [h,SetTable.below.go]
theorem zrF {es:Array (Int×Value)} {ep:Nat} {t:SetTable} {vs:List Value} {a it p:Addr} {i:Nat} {v:Value} {Q:Option Value->Shared->Prop} (hf:t.fits es.size=true) (st:SIt w es ep t vs a it p i s.heap) (hne:a≠it) (hv:vs[i]?=some v)
   (h:∀ h',SIt w es ep t vs a it p (i+1) h'->Heap.SameBut it s.heap h'->Q (some v) { s with heap:=h' }):wpAny (model prog w) A (pyNext (.ref it)) Q E s:=by
 obtain ⟨⟨o,ho,hx,hd⟩,first,hit,md⟩:=st
 have hT:s.TypeIs (.ref it) "set_iterator" := ⟨_,hit,rfl⟩
 unfold pyNext
 refine wpAny_bind (wpAny_attempt (wpAny_callSpecial?_slot (name:=Str.ofString "__next__") hT zb0 (wpAny_call_entry zb0 hT zfJ ?_ (zgH _))))
 unfold Builtin.«set_iterator.__next__»
 refine wpAny_bind (m:=slotArgs "__next__" 0 _) (wpAny_pure ?_)
 refine wpAny_bind (wpAny_fieldsOf hit rfl ?_)
 dsimp only
 refine wpAny_bind (wpAny_setEntries_of ho hd hf ?_)
 rw [if_neg (by simp)]
 have upd1:∀ (h1:Heap) (f1:Value),h1.get? it=some (itO f1 i a es.size ep)->(h1.update it (Obj.mapFields (·.setIfInBounds 1 (rawInt ((i:Int)+1))))).get? it=some (itO f1 (i+1) a es.size ep):=λ h1 f1 e=>by
   rw [Heap.get?_update_self _ e rfl]; rfl
 have upd0:∀ (h1:Heap) (f1 f2:Value),h1.get? it=some (itO f1 i a es.size ep)->(h1.update it (Obj.mapFields (·.setIfInBounds 0 f2))).get? it=some (itO f2 i a es.size ep):=λ h1 f1 f2 e=>by
   rw [Heap.get?_update_self _ e rfl]; rfl
 have oth:∀ (h1:Heap) (f:Obj->Obj) (b:Addr),b≠it->(h1.update it f).get? b=h1.get? b:=λ h1 f b hb=>Heap.get?_update_other _ _ (Ne.symm hb)
 rcases md with ⟨hb,⟨sl,rfl⟩,hvs⟩ | ⟨hb,rfl,hpi,ps,hps,hvs,hperm⟩ | ⟨hb,hled,hz,rfl,hvs⟩
 . dsimp only
   simp only [Int.toNat_natCast]
   refine wpAny_bind (zkR ho hd hf hb ?_)
   have e1:(pickOrder (w.params.setOrder a ep) es)[i]?.map (·.2)=some v:=by
    rw [hvs,List.getElem?_map,Array.getElem?_toList] at hv; exact hv
   cases e2:(pickOrder (w.params.setOrder a ep) es)[i]? with
   | none=>rw [e2] at e1; cases e1
   | some q =>
    rw [e2] at e1
    have e3:q.2=v:=Option.some.inj e1
    show wpAny _ _ (setField (.ref it) 0 _ >>= _) _ _ _
    refine wpAny_bind (wpAny_setField hit rfl (by simp) ?_)
    refine wpAny_bind (wpAny_setField (upd0 _ _ _ hit) rfl (by simp) ?_)
    refine wpAny_pure ⟨_,rfl,wpAny_pure ?_⟩
    rw [e3]
    refine h _ ⟨⟨o,by rw [oth _ _ _ hne,oth _ _ _ hne]; exact ho,hx,hd⟩,_,upd1 _ _ (upd0 _ _ _ hit),.inl ⟨hb,⟨_,rfl⟩,hvs⟩⟩ ((Heap.SameBut.update ..).trans (Heap.SameBut.update ..))
 . dsimp only
   refine wpAny_bind (wpAny_seqItems hps rfl ?_)
   dsimp only
   have all:∀ j∈ps,j < es.size:=λ j hj=>List.mem_range.mp (hperm.mem_iff.mp hj)
   have fm:∀ l:List Nat,(∀ j∈l,j < es.size)->l.filterMap (λ j=>(es[j]?).map (·.2))=l.map λ j=>(es[j]?.map (·.2)).getD .none:=λ l=>by
    induction l with
    | nil=>intro _; rfl
    | cons j r ih =>
     intro hl
     have hj:=hl j List.mem_cons_self
     rw [List.filterMap_cons,List.map_cons,ih λ x hx=>hl x (List.mem_cons_of_mem _ hx),Array.getElem?_eq_getElem hj]
     rfl
   rw [hvs,fm ps all,List.getElem?_map] at hv
   cases e2:ps[i]? with
   | none=>rw [e2] at hv; cases hv
   | some j =>
    rw [e2] at hv
    have hj:=all j (List.mem_of_getElem? e2)
    have e3:((ps.map λ (n:Nat)=>Value.int n 0).toArray)[((i:Nat):Int).toNat]?=some (Value.int (j:Int) 0):=by
     rw [List.getElem?_toArray,List.getElem?_map]
     show Option.map _ ps[i]?=_
     rw [e2]; rfl
    rw [e3]
    dsimp only
    have hv':es[j].2=v:=by
     have:=Option.some.inj hv
     dsimp only at this
     rw [Array.getElem?_eq_getElem hj] at this; exact this
    unfold setNextDrawn
    refine wpAny_bind (wpAny_bind (wpAny_setState_of ho hd hf ?_))
    dsimp only
    rw [if_neg (by simp),show es[((j:Nat):Int).toNat]?=some es[j] from Array.getElem?_eq_getElem hj]
    refine wpAny_pure ?_
    refine wpAny_bind (wpAny_setField hit rfl (by simp) ?_)
    refine wpAny_pure ⟨_,rfl,wpAny_pure ?_⟩
    show Q (some es[j].2) _
    rw [hv']
    exact h _ ⟨⟨o,by rw [oth _ _ _ hne]; exact ho,hx,hd⟩,_,upd1 _ _ hit,.inr (.inl ⟨hb,rfl,hpi,ps,by rw [oth _ _ _ hpi]; exact hps,hvs,hperm⟩)⟩ (Heap.SameBut.update ..)
 . dsimp only
   have hi0:i=0:=by
    have:=(List.getElem?_eq_some_iff.mp hv).1
    rw [hvs,List.length_map,Array.length_toList] at this
    omega
   subst hi0
   have hz1:es.size=1:=by
    have:=(List.getElem?_eq_some_iff.mp hv).1
    rw [hvs,List.length_map,Array.length_toList] at this
    omega
   have hps:t.place.size=1:=by
    have:=hf
    simp only [SetTable.fits,Bool.and_eq_true,beq_iff_eq] at this
    rw [this.1,hz1]
   obtain ⟨x,hx1⟩:∃ x,t.place=#[x]:=by
    obtain ⟨q,hq⟩:=List.length_eq_one_iff.mp (show t.place.toList.length=1 by rw [Array.length_toList]; exact hps)
    exact ⟨q,by rw [<-Array.toArray_toList (xs:=t.place),hq]⟩
   obtain ⟨q,hq⟩:∃ q,es=#[q]:=by
    obtain ⟨q,hq⟩:=List.length_eq_one_iff.mp (show es.toList.length=1 by rw [Array.length_toList]; exact hz1)
    exact ⟨q,by rw [<-Array.toArray_toList (xs:=es),hq]⟩
   refine wpAny_bind (ziP ho hd hf hb hled hz ?_)
   have hv':q.2=v:=by rw [hvs,hq] at hv; simpa using hv
   rw [hx1,hq]
   simp only [if_true,Int.toNat_zero,zln,Nat.not_lt_zero,if_false]
   show wpAny _ _ (setField (.ref it) 0 (rawInt ((x+1:Nat):Int)) >>= _) _ _ _
   refine wpAny_bind (wpAny_setField hit rfl (by simp) ?_)
   refine wpAny_bind (wpAny_setField (upd0 _ _ _ hit) rfl (by simp) ?_)
   refine wpAny_pure ⟨_,rfl,wpAny_pure ?_⟩
   rw [hv']
   refine h _ ⟨⟨o,by rw [oth _ _ _ hne,oth _ _ _ hne]; exact ho,hx,hd⟩,_,upd1 _ _ (upd0 _ _ _ hit),.inr (.inr ⟨hb,hled,hz,?_,hvs⟩)⟩ ((Heap.SameBut.update ..).trans (Heap.SameBut.update ..))
   rw [hx1]; rfl
theorem zsE {es:Array (Int×Value)} {ep:Nat} {t:SetTable} {vs:List Value} {a it p:Addr} {Q:Option Value->Shared->Prop} (hh:A.handled=none) (hf:t.fits es.size=true) (st:SIt w es ep t vs a it p vs.length s.heap) (hne:a≠it)
   (h:∀ h',Heap.ExtBut it s.heap h'->Q none { s with heap:=h' }):wpAny (model prog w) A (pyNext (.ref it)) Q E s:=by
 obtain ⟨⟨o,ho,hx,hd⟩,first,hit,md⟩:=st
 have hT:s.TypeIs (.ref it) "set_iterator" := ⟨_,hit,rfl⟩
 unfold pyNext
 refine wpAny_bind (wpAny_attempt (wpAny_callSpecial?_slot (name:=Str.ofString "__next__") hT zb0 (wpAny_call_entry zb0 hT zfJ ?_ (zgH _))))
 unfold Builtin.«set_iterator.__next__»
 refine wpAny_bind (m:=slotArgs "__next__" 0 _) (wpAny_pure ?_)
 refine wpAny_bind (wpAny_fieldsOf hit rfl ?_)
 dsimp only
 refine wpAny_bind (wpAny_setEntries_of ho hd hf ?_)
 rw [if_neg (by simp)]
 have stop:∀ (h1:Heap) (f1:Value),Heap.ExtBut it s.heap h1->h1.get? it=some (itO f1 vs.length a es.size ep) ->
    wpAny (model prog w) A.in1 (do
      setField (.ref it) 2 Value.none
      let e <-newExc (.type "StopIteration") []
      raiseNew e:Sem Fin)
      (λ fin s'=>∃ v,fin=Fin.done (Flow.ret v)/\wpAny (model prog w) A (pure (some v)) Q E s')
      (λ e s'=>wpAny (model prog w) A (do
       let b <-isInstance e (Value.type "StopIteration")
       if b=true then pure none else throw e) Q E s') { s with heap:=h1 }:=λ h1 f1 x1 e1=>by
   refine wpAny_bind (wpAny_setField e1 rfl (by simp) (wpAny_bind ?_))
   simp only [newExc,newTuple]
   refine wpAny_bind (wpAny_newObj_type ?_ (by size_fits))
   refine wpAny_bind (m:=firstArgMember _ _) (wpAny_of_eq (a:=Value.none) (by first | rfl | (simp only [firstArgMember]; rfl)) ?_)
   refine wpAny_newObj_type ?_ (by size_fits)
   simp only [raiseNew]
   refine wpAny_bind (wpAny_handled ?_)
   rw [show A.in1.handled=none from hh]
   refine wpAny_bind (wpAny_pure (wpAny_throw ?_))
   refine wpAny_bind (wpAny_isInstance (T := "StopIteration") (b:=true) ⟨_,Heap.get?_push_size _ rfl,rfl⟩ isSubtype_stop ?_)
   refine wpAny_pure (h _ λ b ob hb q=>?_)
   exact Heap.get?_push_of_some _ (Heap.get?_push_of_some _ ((Heap.get?_update_other _ _ (Ne.symm hb)).trans (x1 b ob hb q)))
 have ext0:Heap.ExtBut it s.heap s.heap:=λ b ob _ q=>q
 rcases md with ⟨hb,⟨sl,rfl⟩,hvs⟩ | ⟨hb,rfl,hpi,ps,hps,hvs,hperm⟩ | ⟨hb,hled,hz,rfl,hvs⟩
 . dsimp only
   simp only [Int.toNat_natCast]
   refine wpAny_bind (zkR ho hd hf hb ?_)
   have e1:(pickOrder (w.params.setOrder a ep) es)[vs.length]?=none:=by
    rw [Array.getElem?_eq_none_iff,hvs,List.length_map,Array.length_toList]
    exact Nat.le_refl _
   rw [e1]
   exact stop _ _ ext0 hit
 . dsimp only
   refine wpAny_bind (wpAny_seqItems hps rfl ?_)
   dsimp only
   have all:∀ j∈ps,j < es.size:=λ j hj=>List.mem_range.mp (hperm.mem_iff.mp hj)
   have fm:∀ l:List Nat,(∀ j∈l,j < es.size)->(l.filterMap (λ j=>(es[j]?).map (·.2))).length=l.length:=λ l=>by
    induction l with
    | nil=>intro _; rfl
    | cons j r ih =>
      intro hl
      have hj:=hl j List.mem_cons_self
      rw [List.filterMap_cons,Array.getElem?_eq_getElem hj]
      simp only [Option.map_some,List.length_cons]
      rw [ih λ x hx=>hl x (List.mem_cons_of_mem _ hx)]
   have e3:((ps.map λ (n:Nat)=>Value.int n 0).toArray)[((vs.length:Nat):Int).toNat]?=none:=by
    rw [List.getElem?_toArray,Int.toNat_natCast,List.getElem?_eq_none_iff,List.length_map,hvs,fm ps all]
    exact Nat.le_refl _
   rw [e3]
   dsimp only
   refine wpAny_bind (wpAny_setField hit rfl (by simp) ?_)
   refine stop _ (rawInt 0) (λ b ob hb q=>(Heap.get?_update_other _ _ (Ne.symm hb)).trans q) ?_
   rw [Heap.get?_update_self _ hit rfl]; rfl
 . dsimp only
   refine wpAny_bind (ziP ho hd hf hb hled hz ?_)
   have hps:t.place.size=es.size:=by
    have:=hf
    simp only [SetTable.fits,Bool.and_eq_true,beq_iff_eq] at this
    exact this.1
   have hlen:vs.length=es.size:=by rw [hvs,List.length_map,Array.length_toList]
   have none1:es[SetTable.below t.place (if vs.length=0 then (0:Int) else ((t.place.getD 0 0:Nat):Int)+1).toNat]?=none:=by
    rw [Array.getElem?_eq_none_iff]
    rcases Nat.lt_or_ge es.size 1 with z | z
    . omega
    . have hz1:es.size=1:=by omega
      obtain ⟨x,hx1⟩:∃ x,t.place=#[x]:=by
       obtain ⟨q,hq⟩:=List.length_eq_one_iff.mp (show t.place.toList.length=1 by rw [Array.length_toList,hps]; exact hz1)
       exact ⟨q,by rw [<-Array.toArray_toList (xs:=t.place),hq]⟩
      rw [if_neg (by omega),hx1,zln]
      have:((x:Int)+1).toNat=x+1:=by omega
      show es.size<=if x < ((x:Int)+1).toNat then 1 else 0
      rw [this,if_pos (Nat.lt_succ_self _)]; omega
   rw [none1]
   exact stop _ _ ext0 hit
end
end S6
end
section
namespace S6
open PySem PyProof.Rows
def Kept (h h':Heap):Prop:=∀ b o,h.get? b=some o->h'.get? b=some o
section
variable {prog:Program} {w:World} {A:Around} {E:Value->Shared->Prop} {s:Shared}
theorem zoA {a:Addr} {o:Obj} {es:Array (Int×Value)} {ep:Nat} {t:SetTable} {Q:Bool->Shared->Prop} (ho:s.heap.get? a=some o) (hd:o.data=.set es ep t) (hf:t.fits es.size=true)
  (h:Q (!byT w && (!t.plain && decide (es.size > 1))) s):wpAny (model prog w) A (setDrawn a) Q E s:=by
 unfold setDrawn setsByText
 refine wpAny_bind (wpAny_setState_of ho hd hf ?_)
 dsimp only
 refine wpAny_bind (wpAny_bind (wpAny_askSetting (wpAny_pure ?_)))
 exact wpAny_pure h
theorem znM {a:Addr} {o:Obj} {es:Array (Int×Value)} {ep:Nat} {t:SetTable} {ne:Prop} {Q:Value->Shared->Prop} (ho:s.heap.get? a=some o) (hx:o.ExactSet) (hd:o.data=.set es ep t) (hT:SetT w t es.size ne) (hne:1 < es.size->ne) (hz:es.size<=sizeLine)
  (h:∀ (it p:Addr) (vs:List Value) h' d,SIt w es ep t vs a it p 0 h'->vs.Perm (es.toList.map (·.2))->Kept s.heap h'->s.heap.objs.size<=it->(p < it\/p=0)->(s.heap.objs.size<=p\/p=0)->Q (.ref it) { s with heap:=h',drawn:=d }) :
  wpAny (model prog w) A (pyIter (.ref a)) Q E s:=by
 have hTy:s.TypeIs (.ref a) "set" := ⟨o,ho,hx.1⟩
 refine wpAny_pyIter_slot hTy F.slot_set_iter (wpAny_call_entry F.slot_set_iter hTy zlc ?_ (F.args_set_iter_1 _))
 unfold Builtin.«frozenset.__iter__» Builtin.Frozenset.slot0 slotArgs
 simp only [List.isEmpty_nil,Bool.not_true,Bool.false_eq_true,↓reduceIte,bind_assoc,List.length_nil,bne_self_eq_false]
 unfold Builtin.Frozenset.addrOf Builtin.Frozenset.sizeOf
 refine wpAny_bind (wpAny_pure ?_)
 try dsimp only
 refine wpAny_bind (wpAny_pure ?_)
 refine wpAny_bind (wpAny_bind (wpAny_setEntries_of ho hd hT.fits (wpAny_pure ?_)))
 have made:∀ (first:Value) (h1:Heap) (d1:Drawn) (p:Addr) (vs:List Value),h1.get? a=some o->Mode w es ep t vs a h1.objs.size p 0 (h1.push (itO first 0 a es.size ep)) first->vs.Perm (es.toList.map (·.2))->Kept s.heap h1->s.heap.objs.size<=h1.objs.size->(p < h1.objs.size\/p=0)->(s.heap.objs.size<=p\/p=0) ->
    wpAny (model prog w) A.in1 (do
     let ep' <-setEpoch a
     let r <-newFields "set_iterator" [first,rawInt 0,Value.ref a,rawInt (es.size:Nat),rawInt (ep':Nat)]
     ret r) (λ fin s'=>∃ r,fin=.done (.ret r)/\∃ T' x,s'.TypeIs r T'/\typeLookup (.type T') "__next__" = pure (some x)/\Q r s') E { s with heap:=h1,drawn:=d1 }:=λ first h1 d1 p vs ha md pm kp hs h3 h4=>by
  refine wpAny_bind (wpAny_setEpoch_of ha hd hT.fits ?_)
  unfold newFields
  refine wpAny_bind (wpAny_newObj_type ?_ (by first | size_fits | exact trivial))
  refine wpAny_pure ⟨_,rfl,"set_iterator",_,⟨_,Heap.get?_push_size _ rfl,rfl⟩,zb0.lookup,?_⟩
  refine h h1.objs.size p vs _ d1 ⟨⟨o,Heap.get?_push_of_some _ ha,hx,hd⟩,first,Heap.get?_push_size _ rfl,md⟩ pm (λ b ob q=>Heap.get?_push_of_some _ (kp b ob q)) hs h3 h4
 refine wpAny_bind (zoA ho hd hT.fits ?_)
 cases hb:byT w with
 | true =>
  simp only [Bool.not_true,Bool.false_and,Bool.false_eq_true,if_false]
  refine wpAny_bind (wpAny_pure ?_)
  exact made (rawInt 0) s.heap s.drawn 0 _ ho (.inl ⟨hb,⟨0,rfl⟩,rfl⟩) ((zqj _ es).map _) (λ _ _ q=>q) (Nat.le_refl _) (.inr rfl) (.inr rfl)
 | false =>
  by_cases hsz:es.size > 1
  . have hp:t.plain=false:=hT.plain (hne hsz)
    have:(!false && (!t.plain && decide (es.size > 1)))=true:=by rw [hp]; simp [hsz]
    rw [this]
    simp only [if_true]
    refine wpAny_bind (zmN es.size (List.range es.size) _ _ (by simp) λ ys d pm=>?_)
    refine wpAny_bind (wpAny_newTuple ?_ (by rw [List.length_map,pm.length_eq,List.length_range]; exact hz))
    have fm:∀ l:List Nat,(∀ j∈l,j < es.size)->l.filterMap (λ j=>(es[j]?).map (·.2))=l.map λ j=>(es[j]?.map (·.2)).getD .none:=λ l=>by
     induction l with
     | nil=>intro _; rfl
     | cons j r ih =>
      intro hl
      have hj:=hl j List.mem_cons_self
      rw [List.filterMap_cons,List.map_cons,ih λ x hx=>hl x (List.mem_cons_of_mem _ hx),Array.getElem?_eq_getElem hj]
      rfl
    have rng:(List.range es.size).filterMap (λ j=>(es[j]?).map (·.2))=es.toList.map (·.2):=by
     have e1:=filterMap_getElem?_range es
     rw [<-e1,List.map_filterMap]
    have ltS:s.heap.objs.size < (s.heap.push { cls:=.type "tuple",data:=.seq (ys.map λ (n:Nat)=>rawInt n).toArray }).objs.size:=by rw [Heap.size_push]; exact Nat.lt_succ_self _
    refine made (.ref s.heap.objs.size) _ d s.heap.objs.size (ys.filterMap λ j=>(es[j]?).map (·.2)) (Heap.get?_push_of_some _ ho) (.inr (.inl ⟨hb,rfl,Nat.ne_of_lt ltS,ys,Heap.get?_push_of_some _ (Heap.get?_push_size _ rfl),rfl,pm⟩)) ?_ (λ b ob q=>Heap.get?_push_of_some _ q) (Nat.le_of_lt ltS) (.inl ltS) (.inl (Nat.le_refl _))
    rw [<-rng]
    exact pm.filterMap _
  . have:(!false && (!t.plain && decide (es.size > 1)))=false:=by simp [hsz]
    rw [this]
    simp only [Bool.false_eq_true,if_false]
    refine wpAny_bind (wpAny_pure ?_)
    exact made (rawInt 0) s.heap s.drawn 0 _ ho (.inr (.inr ⟨hb,hT.led hb,by omega,rfl,rfl⟩)) (.refl _) (λ _ _ q=>q) (Nat.le_refl _) (.inr rfl) (.inr rfl)
theorem zoz {es:Array (Int×Value)} {ep:Nat} {t:SetTable} {vs:List Value} {a it p:Addr} (hh:A.handled=none) (hf:t.fits es.size=true) (hne:a≠it):Walks prog w A it [it,a,p] [it] vs.length (λ i v=>vs[i]?=some v) (λ i h=>SIt w es ep t vs a it p i h) where
 sub:=λ b hb=>by simp at hb; simp [hb]
 frame:=λ i h h' st hk=>by
  obtain ⟨⟨o,ho,hx,hd⟩,first,hit,md⟩:=st
  refine ⟨⟨o,hk a (by simp) o ho,hx,hd⟩,first,hk it (by simp) _ hit,?_⟩
  rcases md with md | ⟨hb,e,hpi,ps,hps,r⟩ | md
  . exact .inl md
  . exact .inr (.inl ⟨hb,e,hpi,ps,hk p (by simp) _ hps,r⟩)
  . exact .inr (.inr md)
 item:=λ i s Q E hi st hQ=>by
  obtain ⟨v,hv⟩:∃ v,vs[i]?=some v:=⟨_,List.getElem?_eq_getElem hi⟩
  exact zrF hf st hne hv λ h' st' sb=>hQ v h' s.toks hv st' λ b o hb e=>(sb.2 b (by simpa using hb)).trans e
 done:=λ s Q E st hQ=>zsE hh hf st hne λ h' x=>hQ h' s.toks λ b o hb e=>x b o (by simpa using hb) e
 self:=λ i s Q E st hQ=>by
  obtain ⟨_,first,hit,_⟩:=st
  have hT:s.TypeIs (.ref it) "set_iterator" := ⟨_,hit,rfl⟩
  have sl:Slot "set_iterator" "__iter__" "set_iterator.__iter__" :=
    Slot.of (owner := "set_iterator") (n := "__iter__")
     (by rw [typeLookup_type,builtinLookup_eq_fast]; kernel_rfl) (by decide +kernel)
     (by decide +kernel) (by decide +kernel)
     (by first | exact .inl (by decide +kernel) | exact .inr (by decide +kernel))
     (by rw [isSubtype_type]; kernel_rfl)
  have en : entryFor table "set_iterator.__iter__" = some Builtin.«dict_keyiterator.__iter__» :=
    entryFor_alias (id' := "dict_keyiterator.__iter__") (by kernel_rfl) rfl
     (by decide +kernel) (by kernel_rfl)
  have ar:∀ a:Value,argsOk "set_iterator.__iter__" ⟨[a],[]⟩:=λ a=>by unfold argsOk; kernel_rfl
  refine wpAny_pyIter_slot hT sl (wpAny_call_entry sl hT en ?_ (ar _))
  show wpAny _ _ (ret (.ref it)) _ _ s
  exact wpAny_pure ⟨_,rfl,"set_iterator",_,hT,zb0.lookup,hQ⟩
end
end S6
end
section
namespace S6
open PySem PyProof.Rows
section
variable {prog:Program} {w:World} {A:Around} {E:Value->Shared->Prop} {s:Shared}
theorem zqD {r:Addr} {Q:Bool->Shared->Prop} (hT:s.TypeIs (.ref r) "set") (h:Q false s):wpAny (model prog w) A (Builtin.List.listLengthHint (.ref r)) Q E s:=by
 unfold Builtin.List.listLengthHint
 refine wpAny_bind (wpAny_specialOf hT F.slot_set_len.lookup ?_)
 generalize hid:("set.__len__" : String)=id0
 wp_delta
 rw [show splitId id0=some ("set","__len__") from by subst hid; decide +kernel]
 subst hid
 refine wpAny_bind (wpAny_isInstance (T := "set") (b:=true) hT (by rw [isSubtype_type]; kernel_rfl) ?_)
 refine wpAny_ite_split (λ hab=>absurd hab (by decide)) (λ _=>?_)
 refine wpAny_ite_split (λ _=>?_) (λ hab=>absurd (by decide +kernel) hab)
 exact wpAny_bind (wpAny_typeOf hT (wpAny_pure h))
theorem znZ {P:Nat->Value->Prop} {vs:List Value} {acc:Array Value} (hP:∀ i v,P i v->vs[i]?=some v) (h:ItemsOf P acc vs.length):acc.toList=vs:=by
 refine List.ext_getElem? λ i=>?_
 cases e:acc.toList[i]? with
 | none =>
  rw [List.getElem?_eq_none_iff,Array.length_toList,h.1] at e
  rw [List.getElem?_eq_none_iff.mpr e]
 | some v=>exact (hP i v (h.2 i v (by rw [<-Array.getElem?_toList]; exact e))).symm
variable {K:Type} [DecidableEq K] {knd:KeyKind prog w K}
theorem zlK {a:Addr} {ks:List K} {R:List Value->Shared->Prop} (hh:A.handled=none) (hS:SetP knd s.heap a ks)
   (h:∀ h' tk d (vs:List Value) (ys:List K),ys.Perm ks->Paired (λ v k=>knd.is k v=true) vs ys->Kept s.heap h'->R vs { s with heap:=h',toks:=tk,drawn:=d }):wpAny (model prog w) A (collect (.ref a)) R E s:=by
 obtain ⟨ks',pk,o,es,ep,t,ho,hx,hd,hel,hnd,hb,hT⟩:=hS
 have hl:es.size=ks'.length:=by rw [<-Array.length_toList]; exact hel.length
 have hz:es.size<=sizeLine:=by rw [hl]; exact fits_of_scanBound hb
 have pv:Paired (λ v k=>knd.is k v=true) (es.toList.map (·.2)) ks':=by
   clear hl hz hd hT
   generalize es.toList=l at hel
   clear hb hnd pk
   induction hel with
   | nil=>exact .nil
   | cons r _ ih=>exact .cons r.1.1 ih
 unfold collect
 refine wpAny_bind (wpAny_runValue (codeAny_builtin F.entry_proto_collect ?_))
 rw [Around.under_plainId F.plain_proto_collect _]
 show wpAny _ A.in1 (newList [] >>= λ l=>again (.builtin "list.__iadd__" ⟨[l,.ref a],[]⟩)) _ _ s
 refine wpAny_bind (wpAny_newObj_type ?_)
 refine wpAny_pure ⟨plainId_quiet F.plain_list_iadd _,codeAny_builtin F.entry_list_iadd ?_⟩
 rw [Around.under_plainId F.plain_list_iadd _]
 generalize hg0:s.heap.push { cls:=.type "list",data:=.seq ([]:List Value).toArray }=g0
 have k0:Kept s.heap g0:=λ b ob q=>by rw [<-hg0]; exact Heap.get?_push_of_some _ q
 have l0:g0.get? s.heap.objs.size=some { cls:=.type "list",data:=.seq #[] }:=by rw [<-hg0]; exact Heap.get?_push_size _ rfl
 have hsa:s.heap.objs.size≠a:=Nat.ne_of_gt (Heap.lt_size ho)
 show wpAny _ A.in1 (Builtin.List.listExtendWith (.ref s.heap.objs.size) (.ref a) (.ref s.heap.objs.size)) _ _ _
 have fin:∀ (vs:List Value),vs.Perm (es.toList.map (·.2))->∀ (h':Heap) (tk:Nat) (d:Drawn) (acc:Array Value) (c:Nat),Kept s.heap h'->h'.get? s.heap.objs.size=some { cls:=.type "list",dict:=none,data:=.seq acc c,slots:=#[] }->acc.toList=vs ->
     wpAny (model prog w) A (do
       match (<-load s.heap.objs.size).data with
       | .seq xs _=>pure xs.toList
       | _=>unsupported "internal:collect") R E { s with heap:=h',toks:=tk,drawn:=d }:=λ vs pm h' tk d acc c kp e ea=>by
   refine wpAny_bind (wpAny_load e (wpAny_pure ?_))
   obtain ⟨ys,py,hy⟩:=zht (ea ▸ pm:acc.toList.Perm (es.toList.map (·.2))) pv
   exact h h' tk d _ ys (py.trans pk) hy kp
 unfold Builtin.List.listExtendWith
 have ho0:g0.get? a=some o:=k0 a o ho
 have hT0:Shared.TypeIs { s with heap:=g0 } (.ref a) "set" := ⟨o,ho0,hx.1⟩
 refine wpAny_bind (wpAny_typeOf hT0 ?_)
 have n1:Builtin.List.listSameRef (.ref s.heap.objs.size) (.ref a)=false:=by simp [Builtin.List.listSameRef,hsa]
 have n2:(Value.type "set" == Value.type "list")=false:=by decide
 have n3:(Value.type "set" == Value.type "tuple")=false:=by decide
 simp only [n1,n2,n3,Bool.or_false,Bool.false_eq_true,if_false]
 refine wpAny_bind (znM (s:={ s with heap:=g0 }) ho0 hx hd hT (λ z=>by intro e; rw [hl,e] at z; exact absurd z (by simp)) hz λ it p vs h1 d st pm k1 hit hp1 hp2=>?_)
 have sz0:s.heap.objs.size < g0.objs.size:=Heap.lt_size l0
 have hSf:s.heap.objs.size∉[it,a,p]:=by
   intro z
   rcases List.mem_cons.mp z with z | z
   . have:g0.objs.size<=it:=hit
     omega
   . rcases List.mem_cons.mp z with z | z
     . exact hsa z
     . have z':=List.mem_singleton.mp z
       rcases hp2 with q | q
       . have:g0.objs.size<=p:=q
         omega
       . have:=Heap.lt_size ho
         rw [z',q] at this
         exact absurd this (Nat.not_lt_zero _)
 have hne:a≠it:=Nat.ne_of_lt (Nat.lt_of_lt_of_le (Heap.lt_size ho0) hit)
 have l1:=k1 _ _ l0
 have W:=zoz (prog:=prog) (w:=w) (A:=A.in1) (es:=es) (ep:=ep) (t:=t) (vs:=vs) (a:=a) (it:=it) (p:=p) hh hT.fits hne
 have hvl:vs.length<=sizeLine:=by rw [pm.length_eq,List.length_map,Array.length_toList]; exact hz
 have key:∀ (h2:Heap) (c1:Nat),SIt w es ep t vs a it p 0 h2->(∀ b ob,b≠s.heap.objs.size->s.heap.get? b=some ob->h2.get? b=some ob)->h2.get? s.heap.objs.size=some { cls:=.type "list",data:=.seq #[] c1 } ->
     codeAny (model prog w) A (.builtin "list.extend.loop" ⟨[.ref s.heap.objs.size,.ref it,.ref s.heap.objs.size],[]⟩)
       (λ q s'=>∃ (h':Heap) (tk:Nat) (acc':Array Value) (c':Nat),q=.ok (.ret (.ref s.heap.objs.size))/\s'={ s with heap:=h',toks:=tk,drawn:=d }/\Kept s.heap h'/\h'.get? s.heap.objs.size=some { cls:=.type "list",dict:=none,data:=.seq acc' c',slots:=#[] }/\acc'.toList=vs)
       { s with heap:=h2,drawn:=d }:=λ h2 c1 st2 k2 l2=>by
   refine codeAny_extend_loopS W.toS hvl s.heap.objs.size hSf (.ref s.heap.objs.size) vs.length 0 _ #[] c1 (by omega) (Nat.zero_le _) st2 l2 (ItemsOf.nil _) λ s' acc' c' hm hS' hacc=>?_
   obtain ⟨h3,g3,d3,tk3,os3⟩:=s'
   have eg:g3=s.gens:=hm.gens
   have ed:d3=d:=hm.drawn
   have eo:os3=s.os:=hm.os
   subst eg ed eo
   refine ⟨h3,tk3,acc',c',rfl,rfl,λ b ob q=>?_,hS',znZ (λ _ _ z=>z) hacc⟩
   have hb1:b≠s.heap.objs.size:=Nat.ne_of_lt (Heap.lt_size q)
   refine hm.heap b ob (λ z=>?_) (k2 b ob hb1 q)
   rcases List.mem_cons.mp z with z | z
   . exact hb1 z
   . exact absurd (List.mem_singleton.mp z) (Nat.ne_of_lt (Nat.lt_of_lt_of_le (Heap.lt_size (k0 b ob q)) hit))
 have run:∀ (h2:Heap) (c1:Nat),SIt w es ep t vs a it p 0 h2->(∀ b ob,b≠s.heap.objs.size->s.heap.get? b=some ob->h2.get? b=some ob)->h2.get? s.heap.objs.size=some { cls:=.type "list",data:=.seq #[] c1 }->∀ (Z:Result->Shared->Prop),
     (∀ (h':Heap) (tk:Nat) (acc':Array Value) (c':Nat),Kept s.heap h'->h'.get? s.heap.objs.size=some { cls:=.type "list",dict:=none,data:=.seq acc' c',slots:=#[] }->acc'.toList=vs->Z (.ok (.ret (.ref s.heap.objs.size))) { s with heap:=h',toks:=tk,drawn:=d }) ->
     codeAny (model prog w) A (.builtin "list.extend.loop" ⟨[.ref s.heap.objs.size,.ref it,.ref s.heap.objs.size],[]⟩) Z { s with heap:=h2,drawn:=d }:=λ h2 c1 st2 k2 l2 Z hZ =>
   codeAny_mono (key h2 c1 st2 k2 l2) λ q s' y=>by
     obtain ⟨h',tk,acc',c',rfl,rfl,kp,e,ea⟩:=y
     exact hZ h' tk acc' c' kp e ea
 refine wpAny_bind (wpAny_holding (zqD (s:={ s with heap:=h1,drawn:=d }) ⟨o,k1 a o ho0,hx.1⟩ ?_))
 have kk:∀ b ob,b≠s.heap.objs.size->s.heap.get? b=some ob->h1.get? b=some ob:=λ b ob _ q=>k1 b ob (k0 b ob q)
 refine wpAny_ite_split (λ _=>?_) (λ _=>wpAny_pure ⟨plainId_quiet F.plain_extend_loop _,run h1 0 st kk l1 _ λ h' tk acc' c' kp e ea=>fin vs pm h' tk d acc' c' kp e ea⟩)
 refine wpAny_bind (wpAny_rule (wpAny_bind ?_))
 show wpAny _ _ (updateSeq s.heap.objs.size (·.push .none) >>= λ _=>updateSeq s.heap.objs.size (·.pop)) _ _ _
 refine wpAny_bind (wpAny_updateSeq l1 rfl ?_)
 have l2:=Heap.get?_update_self (Obj.mapSeq (·.push Value.none)) l1 rfl
 refine wpAny_updateSeq (hz:=by seq_fits) l2 rfl ?_
 have l3:=Heap.get?_update_self (Obj.mapSeq (·.pop)) l2 rfl
 refine wpAny_pure ⟨plainId_quiet F.plain_extend_loop _,run _ _ (W.frame 0 _ _ st λ b hb ob q=>?_) (λ b ob hb q=>?_) l3 _ λ h' tk acc' c' kp e ea=>fin vs pm h' tk d acc' c' kp e ea⟩
 . have hbS:b≠s.heap.objs.size:=λ z=>hSf (z ▸ hb)
   exact (Heap.get?_update_other _ _ (Ne.symm hbS)).trans ((Heap.get?_update_other _ _ (Ne.symm hbS)).trans q)
 . exact (Heap.get?_update_other _ _ (Ne.symm hb)).trans ((Heap.get?_update_other _ _ (Ne.symm hb)).trans (kk b ob hb q))
end
end S6
end
section
namespace L2
open PySem PySem.Spec PyProof.Rows
abbrev Key:=Sum Int Str
def zhM:Key->Value->Bool
 | .inl k,v=>Value.isInt k v
 | .inr x,v=>Value.isStrOf x v
def keyH (w:World):Key->Int
 | .inl k=>hashInt k
 | .inr x=>hashStr w x
theorem zaR:∀ {k:Key} {v:Value},zhM k v=true->(∃ i t,k=Sum.inl i/\v=Value.int i t)\/(∃ x t,k=Sum.inr x/\v=Value.str x t)
 | .inl i,v,h=>by
  obtain ⟨t,e⟩:=Value.isInt_shape (k:=i) (v:=v) h
  exact .inl ⟨i,t,rfl,e⟩
 | .inr x,v,h=>by
  obtain ⟨t,e⟩:=Value.isStrOf_shape (x:=x) (v:=v) h
  exact .inr ⟨x,t,rfl,e⟩
theorem zo9 (i:Int) (t:Tok):zhM (.inl i) (.int i t)=true:=by simp [zhM,Value.isInt]
theorem zo8 (x:Str) (t:Tok):zhM (.inr x) (.str x t)=true:=by simp [zhM,Value.isStrOf]
theorem zs2 (a b:Int):decide ((Sum.inl a:Key)=Sum.inl b)=(a == b):=by
 by_cases e:a=b
 . subst e; simp
 . have h:¬ (Sum.inl a:Key)=Sum.inl b:=λ q=>e (Sum.inl.inj q)
   rw [decide_eq_false h]
   exact (beq_eq_false_iff_ne.mpr e).symm
theorem zq7 (a b:Str):decide ((Sum.inr a:Key)=Sum.inr b)=decide (a=b):=by
 by_cases e:a=b
 . subst e; simp
 . have h:¬ (Sum.inr a:Key)=Sum.inr b:=λ q=>e (Sum.inr.inj q)
   rw [decide_eq_false h,decide_eq_false e]
theorem zs1 (a:Int) (b:Str):decide ((Sum.inl a:Key)=Sum.inr b)=false:=decide_eq_false (λ q=>nomatch q)
theorem zs0 (a:Str) (b:Int):decide ((Sum.inr a:Key)=Sum.inl b)=false:=decide_eq_false (λ q=>nomatch q)
def zaF (prog:Program) (w:World):PySem.KeyKind prog w Key where
 is:=zhM
 hash:=keyH w
 inj:=λ v a b ha hb=>by
  rcases zaR ha with ⟨i,t,rfl,rfl⟩ | ⟨x,t,rfl,rfl⟩
  . rcases zaR hb with ⟨j,u,rfl,e⟩ | ⟨y,u,rfl,e⟩
    . injection e with e1 _; rw [e1]
    . exact nomatch e
  . rcases zaR hb with ⟨j,u,rfl,e⟩ | ⟨y,u,rfl,e⟩
    . exact nomatch e
    . injection e with e1 _; rw [e1]
 byValue:=λ k v h=>by
  rcases zaR h with ⟨i,t,rfl,rfl⟩ | ⟨x,t,rfl,rfl⟩ <;> rfl
 pyHash:=λ hv h=>by
  rcases zaR hv with ⟨i,t,rfl,rfl⟩ | ⟨x,t,rfl,rfl⟩
  . exact wpAny_pyHash_int h
  . exact wpAny_pyHash_str h
 eqBool:=λ hu hv h=>by
  rcases zaR hu with ⟨i,t,rfl,rfl⟩ | ⟨x,t,rfl,rfl⟩
  . rcases zaR hv with ⟨j,u,rfl,rfl⟩ | ⟨y,u,rfl,rfl⟩
    . rw [zs2] at h; exact wpAny_eqBool_int h
    . rw [zs1] at h; exact SeqAt.EqAt.int_str i t y u _ _ _ _ h
  . rcases zaR hv with ⟨j,u,rfl,rfl⟩ | ⟨y,u,rfl,rfl⟩
    . rw [zs0] at h; exact SeqAt.EqAt.str_int x t j u _ _ _ _ h
    . rw [zq7] at h; exact wpAny_eqBool_str h
 «strs» := fun k x t v h => by
  rcases zaR h with ⟨i,u,rfl,e⟩ | ⟨y,u,rfl,e⟩
  . exact nomatch e
  . injection e with e1 _
    subst e1
    cases v <;> rfl
theorem zl0 (prog:Program) (w:World) (i:Int) (t:Tok):(zaF prog w).is (.inl i) (.int i t)=true:=zo9 i t
theorem zhB (prog:Program) (w:World) (x:Str) (t:Tok):(zaF prog w).is (.inr x) (.str x t)=true:=zo8 x t
end L2
namespace L2
open PySem PySem.Spec PyProof.Rows
inductive V where
 | non | bl (b:Bool) | int (i:Int) | str (x:Str) | byt (b:Array UInt8) | flt (b:UInt64) | ref (a:Addr) | ty (n:String)
 deriving DecidableEq
def RelV:V->Value->Prop
 | .non,u=>u=Value.none
 | .bl b,u=>u=Value.bool b
 | .int i,u=>∃ t,u=Value.int i t
 | .str x,u=>∃ t,u=Value.str x t
 | .byt b,u=>∃ t,u=Value.bytes b t
 | .flt b,u=>∃ t,u=Value.float b t
 | .ref a,u=>u=Value.ref a
 | .ty n,u=>u=Value.type n
abbrev Vals:List V->List Value->Prop:=Paired RelV
theorem Vals.length {xs:List V} {us:List Value} (r:Vals xs us):xs.length=us.length:=Paired.length r
theorem Vals.get:∀ {xs:List V} {us:List Value} {i:Nat} {x:V},Vals xs us->xs[i]?=some x->∃ u,us[i]?=some u/\RelV x u
 | _,_,_,_,.nil,e=>by simp at e
 | _,_,0,_,.cons r _,e=>by simp at e; subst e; exact ⟨_,rfl,r⟩
 | _,_,i+1,x,.cons _ t,e=>by
  obtain ⟨u,h1,h2⟩:=Vals.get (i:=i) (x:=x) t (by simpa using e)
  exact ⟨u,by simpa using h1,h2⟩
theorem Vals.set {x:V} {u:Value} (r:RelV x u):∀ {xs:List V} {us:List Value} (i:Nat),Vals xs us->Vals (xs.set i x) (us.set i u)
 | _,_,_,.nil=>.nil
 | _,_,0,.cons _ t=>.cons r t
 | _,_,i+1,.cons q t=>.cons q (Vals.set r i t)
theorem Vals.append:∀ {xs ys:List V} {us ws:List Value},Vals xs us->Vals ys ws->Vals (xs++ys) (us++ws)
 | _,_,_,_,.nil,s=>s
 | _,_,_,_,.cons r t,s=>.cons r (Vals.append t s)
theorem Vals.take:∀ {xs:List V} {us:List Value} (n:Nat),Vals xs us->Vals (xs.take n) (us.take n)
 | _,_,0,_=>.nil
 | _,_,_+1,.nil=>.nil
 | _,_,n+1,.cons r t=>.cons r (Vals.take n t)
theorem Vals.drop:∀ {xs:List V} {us:List Value} (n:Nat),Vals xs us->Vals (xs.drop n) (us.drop n)
 | _,_,0,r=>r
 | _,_,_+1,.nil=>.nil
 | _,_,n+1,.cons _ t=>Vals.drop n t
def RelO:Option V->Option Value->Prop
 | some v,some u=>RelV v u
 | none,none=>True
 | _,_=>False
def KV {κ:Type}:List (κ×V)->List (κ×Value)->Prop:=Paired λ (p:κ×V) (q:κ×Value)=>p.1=q.1/\RelV p.2 q.2
def kV:Key->V
 | .inl i=>.int i
 | .inr x=>.str x
inductive HO where
 | lst (xs:List V)
 | tup (xs:List V)
 | dK (kvs:List (Key×V)) | dT (kvs:List (List Key×V))
 | set (S:Int->Bool) (n:Nat)
 | ins (C dx:Addr) (fs:List (Str×V))
 | own (x:Addr)
 | xd (fs:List (Str×V))
 | met (f x:Addr)
 | rng (lo hi:Int)
 | frz (o:Obj) (u:HO)
 | tbl (ps:Array Value)
 | ext (φ:Heap->Prop)
abbrev Hp:=Addr->Option HO
def upd (H:Hp) (a:Addr) (o:HO):Hp:=λ b=>if b=a then some o else H b
theorem zab {H:Hp} {a:Addr} {o:HO}:upd H a o a=some o:=by unfold upd; rw [if_pos rfl]
theorem zae {H:Hp} {a b:Addr} {o:HO} (h:b≠a):upd H a o b=H b:=by unfold upd; rw [if_neg h]
theorem zja {H:Hp} {a:Addr} {o u:HO}:upd (upd H a o) a u=upd H a u:=by
 funext b; unfold upd; split <;> rfl
theorem zbh {H:Hp} {a b:Addr} {o u:HO} (h:H a=some o) (h':H b=some u) (d:o≠u):a≠b:=by
 intro e; subst e; rw [h] at h'; exact d (Option.some.inj h')
theorem zah {H:Hp} {a b:Addr} {o:HO} (h:H a=some o) (h':H b=none):a≠b:=by
 intro e; subst e; rw [h] at h'; cases h'
section
variable (P:Program) (w:World)
def zbV (H:Hp) (h:Heap) (a:Addr):HO->Prop
 | .lst xs=>xs.length<=sizeLine/\∃ (its:List Value) (n:Nat),Vals xs its/\h.get? a=some { cls:=.type "list",data:=.seq its.toArray n }
 | .tup xs=>xs.length<=sizeLine/\∃ its:List Value,Vals xs its/\IsTup h a its.toArray
 | .dK kvs=>kvs.length<=sizeLine/\(a == sysModules)=false/\∃ vs,KV kvs vs/\h.DictOf (zaF P w) a vs
 | .dT kvs=>kvs.length<=sizeLine/\(a == sysModules)=false/\∃ xs:List (List Key×Addr×Value),
  Paired (λ (p:List Key×V) (q:List Key×Addr×Value)=>p.1=q.1/\H q.2.1=some (.tup (p.1.map kV))/\RelV p.2 q.2.2) kvs xs /\
  ∃ o es ep,h.get? a=some o/\o.ExactDict/\o.data=.dict es ep/\es.toList=xs.map (entryOfKey (tupleKind (zaF P w)))/\(xs.map (·.1)).Nodup
 | .set S n=>h.SetOf (intKind P w) a S n
 | .ins C dx fs=>H dx=some (.own a)/\fs.length<=1000/\dx≠a/\h.get? a=some (PySem.W.instObj C dx) /\
  ∃ mA,h.Ns1 dx mA/\(∀ f,RelO (fs.lookup f) (mA f))/\PySem.Within mA (fs.map (·.1))
 | .own _=>∃ o,h.get? a=some o
 | .xd fs=>∃ mA,h.Ns1 a mA/\∀ f,RelO (fs.lookup f) (mA f)
 | .rng lo hi=>∃ t u v,h.get? a=some { cls:=.type "range",data:=.fields #[.int lo t,.int hi u,.int 1 v] }
 | .frz o u=>h.get? a=some o/\zbV H h a u
 | .tbl ps=>h.get? a=some { cls:=.none,data:=.fields ps }
 | .met f x=>h.get? a=some (PySem.W.methodObj (.ref f) (.ref x))
 | .ext φ=>φ h/\(∃ o,h.get? a=some o)/\∀ h1 h2:Heap,φ h1->(∀ o,h1.get? a=some o->h2.get? a=some o)->φ h2
def HOk (H:Hp) (h:Heap):Prop:=∀ a o,H a=some o->zbV P w H h a o
end
section
variable {P:Program} {w:World} {H H':Hp} {h h':Heap} {a:Addr} {o:HO}
theorem zbV.lt (x:zbV P w H h a o):a < h.objs.size:=by
 cases o with
 | lst xs=>obtain ⟨_,_,_,_,e⟩:=x; exact Heap.lt_size e
 | tup xs=>obtain ⟨_,_,_,p⟩:=x; exact p.lt
 | dK kvs=>obtain ⟨_,_,_,_,o,_,_,e,_⟩:=x; exact Heap.lt_size e
 | dT kvs=>obtain ⟨_,_,_,_,o,_,_,e,_⟩:=x; exact Heap.lt_size e
 | set S n=>obtain ⟨o,_,_,_,e,_⟩:=x; exact Heap.lt_size e
 | ins C dx fs=>obtain ⟨_,_,_,e,_⟩:=x; exact Heap.lt_size e
 | own y=>obtain ⟨_,e⟩:=x; exact Heap.lt_size e
 | xd fs=>obtain ⟨_,⟨_,_,_,e,_⟩,_⟩:=x; exact Heap.lt_size e
 | rng lo hi=>obtain ⟨_,_,_,e⟩:=x; exact Heap.lt_size e
 | frz ob u=>obtain ⟨e,_⟩:=x; exact Heap.lt_size e
 | tbl ps=>exact Heap.lt_size (show h.get? a=some _ from x)
 | met f y=>exact Heap.lt_size (show h.get? a=some _ from x)
 | ext φ=>obtain ⟨_,⟨_,e⟩,_⟩:=x; exact Heap.lt_size e
theorem Paired.mapP {α β:Type} {F G:α->β->Prop}:∀ {l₁:List α} {l₂:List β},Paired F l₁ l₂->(∀ a b,F a b->G a b)->Paired G l₁ l₂
 | _,_,.nil,_=>.nil
 | _,_,.cons r t,f=>.cons (f _ _ r) (Paired.mapP t f)
theorem zbV.stay (x:zbV P w H h a o) (k:∀ b u,(b=a\/H b=some (.own a))->h.get? b=some u->h'.get? b=some u)
  (ho:∀ b,H b=some (.own a)->H' b=some (.own a)) (ht:∀ b xs,H b=some (.tup xs)->H' b=some (.tup xs)):zbV P w H' h' a o:=by
 induction o with
 | lst xs=>obtain ⟨z,its,n,r,e⟩:=x; exact ⟨z,its,n,r,k _ _ (.inl rfl) e⟩
 | tup xs=>obtain ⟨z,its,r,ob,e,c⟩:=x; exact ⟨z,its,r,ob,k _ _ (.inl rfl) e,c⟩
 | dK kvs=>obtain ⟨z,y,vs,r,ob,es,ep,e,c⟩:=x; exact ⟨z,y,vs,r,ob,es,ep,k _ _ (.inl rfl) e,c⟩
 | dT kvs =>
  obtain ⟨z,y,xs,r,ob,es,ep,e,c⟩:=x
  exact ⟨z,y,xs,Paired.mapP r λ p q z=>⟨z.1,ht _ _ z.2.1,z.2.2⟩,ob,es,ep,k _ _ (.inl rfl) e,c⟩
 | set S n=>obtain ⟨ob,es,ep,t,e,c⟩:=x; exact ⟨ob,es,ep,t,k _ _ (.inl rfl) e,c⟩
 | ins C dx fs =>
  obtain ⟨d,z,ne,e,mA,⟨od,es,ep,e2,c⟩,r⟩:=x
  exact ⟨ho _ d,z,ne,k _ _ (.inl rfl) e,mA,⟨od,es,ep,k _ _ (.inr d) e2,c⟩,r⟩
 | own y=>obtain ⟨ob,e⟩:=x; exact ⟨ob,k _ _ (.inl rfl) e⟩
 | xd fs=>obtain ⟨mA,⟨od,es,ep,e,c⟩,r⟩:=x; exact ⟨mA,⟨od,es,ep,k _ _ (.inl rfl) e,c⟩,r⟩
 | rng lo hi=>obtain ⟨t,u,v,e⟩:=x; exact ⟨t,u,v,k _ _ (.inl rfl) e⟩
 | frz ob u ih=>obtain ⟨e,q⟩:=x; exact ⟨k _ _ (.inl rfl) e,ih q⟩
 | tbl ps =>
  have e:h.get? a=some { cls:=.none,data:=.fields ps }:=x
  show h'.get? a=some { cls:=.none,data:=.fields ps }
  exact k a _ (.inl rfl) e
 | met f y =>
  have e:h.get? a=some (PySem.W.methodObj (.ref f) (.ref y)):=x
  show h'.get? a=some (PySem.W.methodObj (.ref f) (.ref y))
  exact k a _ (.inl rfl) e
 | ext φ=>obtain ⟨p,⟨o,e⟩,st⟩:=x; exact ⟨st _ _ p λ o q=>k _ _ (.inl rfl) q,⟨o,k _ _ (.inl rfl) e⟩,st⟩
theorem HOk.lt (x:HOk P w H h) (e:H a=some o):a < h.objs.size:=(x a o e).lt
theorem HOk.fresh (x:HOk P w H h) (e:h.objs.size<=a):H a=none:=by
 cases q:H a with
 | none=>rfl
 | some u=>exact absurd (Nat.lt_of_lt_of_le (x.lt q) e) (Nat.lt_irrefl _)
theorem HOk.kept (x:HOk P w H h) (k:∀ b u,h.get? b=some u->h'.get? b=some u):HOk P w H h':=λ a o e =>
 (x a o e).stay (λ b u _ q=>k b u q) (λ _ q=>q) λ _ _ q=>q
theorem HOk.laid (x:HOk P w H h) (k:∀ b u,h.get? b=some u->h'.get? b=some u) (hp:h.objs.size<=a) (new:zbV P w (upd H a o) h' a o):HOk P w (upd H a o) h':=λ b u e=>by
 have hn:=x.fresh hp
 by_cases hb:b=a
 . subst hb; rw [zab] at e; cases e; exact new
 . rw [zae hb] at e
   exact (x b u e).stay (λ c v _ q=>k c v q) (λ c q=>by rw [zae (zah q hn)]; exact q) λ c xs q=>by rw [zae (zah q hn)]; exact q
end
def Rd (H:Hp) (a:Addr) (u:HO):Prop:=H a=some u\/∃ o,H a=some (.frz o u)
theorem Rd.of {H:Hp} {a:Addr} {u:HO} (h:H a=some u):Rd H a u:=.inl h
theorem Rd.ok {P:Program} {w:World} {H:Hp} {h:Heap} {a:Addr} {u:HO} (r:Rd H a u) (x:HOk P w H h):zbV P w H h a u:=by
 rcases r with r | ⟨o,r⟩
 . exact x a u r
 . obtain ⟨_,q⟩:=x a _ r
   exact q
def Mut:Option HO->Prop
 | some (.lst _)=>True
 | some (.dK _)=>True
 | some (.dT _)=>True
 | some (.set _ _)=>True
 | some (.ins _ _ _)=>True
 | some (.ext _)=>True
 | _=>False
section
variable {P:Program} {w:World} {H:Hp} {h h':Heap} {x e:Addr} {o':HO}
theorem HOk.write (ok:HOk P w H h) (mu:Mut (H x)) (he:e=x\/H e=some (.own x)) (k:∀ b u,b≠e->h.get? b=some u->h'.get? b=some u) (heo:∃ u,h'.get? e=some u)
   (new:zbV P w (upd H x o') h' x o'):HOk P w (upd H x o') h':=λ b u q=>by
 have nown:∀ c y,H c=some (.own y)->c≠x:=λ c y r z=>by subst z; rw [r] at mu; exact mu
 have ntup:∀ c xs,H c=some (.tup xs)->c≠x:=λ c xs r z=>by subst z; rw [r] at mu; exact mu
 by_cases hb:b=x
 . subst hb; rw [zab] at q; cases q; exact new
 . rw [zae hb] at q
   by_cases hbe:b=e
   . have q':H b=some (.own x):=by
       rcases he with z | z
       . exact absurd (hbe.trans z) hb
       . rw [hbe]; exact z
     rw [q] at q'; cases q'
     obtain ⟨v,hv⟩:=heo
     exact ⟨v,by rw [hbe]; exact hv⟩
   . refine (ok b u q).stay (λ c v hc r=>k c v ?_ r) (λ c r=>by rw [zae (nown c b r)]; exact r) λ c xs r=>by rw [zae (ntup c xs r)]; exact r
     rcases hc with rfl | hc
     . exact hbe
     . rintro rfl
       rcases he with z | z
       . exact nown c b hc z
       . rw [hc] at z; cases z; exact hb rfl
end
structure Un (fs ex:List Addr) (H H':Hp) (h h':Heap):Prop where
 keep:∀ b o,h.get? b=some o->H b=none->b∉fs->b∉ex->h'.get? b=some o
 slot:∀ b o,h.get? b=some o->H b=none->b∈fs->b∉ex->∃ sl,h'.get? b=some { o with slots:=sl }
 free:∀ b o,h.get? b=some o->H b=none->b∉ex->H' b=none
 there:∀ b o,h.get? b=some o->b∉ex->∃ o',h'.get? b=some o'
 tups:∀ b xs,H b=some (.tup xs)->H' b=some (.tup xs)
 frzs:∀ b o u,H b=some (.frz o u)->H' b=some (.frz o u)
 tbls:∀ b ps,H b=some (.tbl ps)->∃ more,H' b=some (.tbl (ps++more))
section
variable {fs fs' ex ex':List Addr} {H H1 H2:Hp} {h h1 h2 h':Heap} {a x e:Addr} {o:HO}
theorem Un.any (u:Un fs ex H H1 h h1) {b:Addr} {ob:Obj} (q:h.get? b=some ob) (n:H b=none) (hx:b∉ex):∃ sl,h1.get? b=some { ob with slots:=sl }:=by
 by_cases hb:b∈fs
 . exact u.slot b ob q n hb hx
 . exact ⟨ob.slots,u.keep b ob q n hb hx⟩
theorem Un.kept (k:∀ b u,h.get? b=some u->h'.get? b=some u):Un fs ex H H h h' :=
 ⟨λ b ob q _ _ _=>k b ob q,λ b ob q _ _ _=>⟨ob.slots,k b ob q⟩,λ _ _ _ n _=>n,λ b ob q _=>⟨ob,k b ob q⟩,λ _ _ q=>q,λ _ _ _ q=>q,λ _ ps q=>⟨#[],by rw [q]; simp⟩⟩
theorem Un.refl:Un fs ex H H h h:=Un.kept λ _ _ q=>q
theorem Un.laid (k:∀ b u,h.get? b=some u->h'.get? b=some u) (hp:h.objs.size<=a) (hn:H a=none):Un fs ex H (upd H a o) h h' where
 keep:=λ b u q _ _ _=>k b u q
 slot:=λ b u q _ _ _=>⟨u.slots,k b u q⟩
 free:=λ b u q n _=>by rw [zae (Nat.ne_of_lt (Nat.lt_of_lt_of_le (Heap.lt_size q) hp))]; exact n
 there:=λ b u q _=>⟨u,k b u q⟩
 tups:=λ b xs q=>by rw [zae (zah q hn)]; exact q
 frzs:=λ b u xs q=>by rw [zae (zah q hn)]; exact q
 tbls:=λ b ps q=>⟨#[],by rw [zae (zah q hn),q]; simp⟩
theorem Un.write (mu:Mut (H x)) (he:e=x\/H e=some (.own x)) (k:∀ b u,b≠e->h.get? b=some u->h'.get? b=some u) (heo:∃ u,h'.get? e=some u):Un fs ex H (upd H x o) h h':=by
 have hx:∀ b,H b=none->b≠x:=λ b n z=>by subst z; rw [n] at mu; exact mu
 have hb:∀ b,H b=none->b≠e:=λ b n z=>by
   subst z
   rcases he with r | r
   . exact hx b n r
   . rw [n] at r; cases r
 have hm:∀ b u,H b=some u->¬ Mut (some u)->b≠x:=λ b u q nm z=>by subst z; rw [q] at mu; exact nm mu
 refine ⟨λ b u q n _ _=>k b u (hb b n) q,λ b u q n _ _=>⟨u.slots,k b u (hb b n) q⟩,λ b u q n _=>by rw [zae (hx b n)]; exact n,λ b u q _=>?_,
   λ b xs q=>by rw [zae (hm b _ q λ z=>z)]; exact q,λ b u xs q=>by rw [zae (hm b _ q λ z=>z)]; exact q,λ b ps q=>⟨#[],by rw [zae (hm b _ q λ z=>z),q]; simp⟩⟩
 by_cases hbe:b=e
 . subst hbe; exact heo
 . exact ⟨u,k b u hbe q⟩
end
def trk (h:Heap) (H:Hp):List Addr:=(List.range h.objs.size).filter λ a=>(H a).isSome
def hidT (h:Heap) (H:Hp):Heap:=PySem.W.hideAll h (trk h H)
theorem zpk (h:Heap) (H:Hp):(hidT h H).objs.size=h.objs.size:=PySem.W.hideAll_size _ _
theorem zqE {h:Heap} {H:Hp} {b:Addr} {o:Obj} (e:h.get? b=some o) (n:H b=none):(hidT h H).get? b=some o :=
 PySem.W.hideAll_get _ e λ hm=>by
  have q:(H b).isSome=true:=(List.mem_filter.mp hm).2
  rw [n] at q; simp at q
theorem zrV {h:Heap} {H:Hp} {b:Addr} {o:Obj} (e:(hidT h H).get? b=some o):h.get? b=some o/\H b=none:=by
 have e':h.get? b=some o:=PySem.W.of_hideAll (trk h H) e
 refine ⟨e',?_⟩
 cases q:H b with
 | none=>rfl
 | some x =>
  have hm:b∈trk h H:=List.mem_filter.mpr ⟨List.mem_range.mpr (Heap.lt_size e'),by simp [q]⟩
  have z:(hidT h H).get? b=none:=PySem.W.hideAll_none (trk h H) hm
  rw [z] at e; cases e
end L2
namespace L2
open PySem PySem.Spec PyProof.Rows
structure Mod (K:PySem.W.Frag) (mg:Str->Option Value) (base:Heap):Prop where
 kin:K.In base
 glob:base.Ns mainGlobals mg
 blt:∃ mb,base.Ns builtinsNs mb/\∀ x:Str,x ≠ "__name__" -> mb x=bootBuiltins x
 nolimit:base.NoLimit
structure Cx where
 prog:Program
 w:World
 K:PySem.W.Frag
 mg:Str->Option Value
 base:Heap
 A:Around
 N:List Str
 s₀:Shared
 H₀:Hp
 env:Env
 outer:List Env
 stack:List Env
 ex:List Addr
 fn:Str->Bool
 calm:Bool
 pn:List (Addr×Obj)
 xe:Value->Shared->Prop
def frs (l:List Env):List Addr:=l.filterMap (·.frame)
abbrev Cx.fs (X:Cx):List Addr:=frs X.outer
def Vis (sc:Scope) (x:Str):Prop:=sc.names.lookup x=some .local\/sc.names.lookup x=some .cell\/sc.names.lookup x=some .free
def Loc (sc:Scope) (x:Str):Prop:=sc.names.lookup x=some .local\/sc.names.lookup x=some .cell
def Look (env:Env) (h:Heap) (m:Str->Option Value) (x:Str) (u:Value):Prop :=
 (env.kindOf x=some .local/\m x=some u)\/((env.kindOf x=some .cell\/env.kindOf x=some .free)/\∃ c,env.cells.lookup x=some c/\h.IsCell c (some u))
structure Cx.Ok (X:Cx):Prop where
 mod:Mod X.K X.mg X.base
 kind:X.env.scope.kind=.function
 glob:X.env.globals=mainGlobals
 blt:X.env.builtins=builtinsNs
 above:X.s₀.heap.objs.size<=X.env.locals
 inj:∀ x y c,X.env.cells.lookup x=some c->X.env.cells.lookup y=some c->x=y
 has:∀ x,(X.env.kindOf x=some .cell\/X.env.kindOf x=some .free)->∃ c,X.env.cells.lookup x=some c
 cab:∀ x c,X.fn x=true->X.env.cells.lookup x=some c->X.s₀.heap.objs.size<=c
 hd:X.calm=true->X.A.handled=none
 frames:X.A.frames=some X.stack
 stk:X.stack=X.outer\/(X.stack=X.env::X.outer/\X.env.frame=some X.env.locals)
 exf:∀ b∈X.ex,b≠X.env.locals/\∀ x c,X.env.cells.lookup x=some c->c≠b
 bs:∀ b o,X.base.get? b=some o->X.s₀.heap.get? b=some o/\X.H₀ b=none
 bsz:X.base.objs.size<=X.s₀.heap.objs.size
 noex:∀ b o,X.base.get? b=some o->b∉X.ex
 exfs:∀ b∈X.ex,b∉X.fs
 funs:X.s₀.heap.FunFrames X.base X.outer
 frf:∀ b∈X.fs,X.H₀ b=none
structure Inv (X:Cx) (pins:List (Addr×Obj)) (σ:List (Option V)) (H:Hp) (s:Shared):Prop where
 ok:X.Ok
 os:s.os=X.s₀.os
 bare:AllBare s.gens
 base:Un X.fs X.ex X.H₀ H X.s₀.heap s.heap
 loc:∃ m,s.heap.Ns X.env.locals m/\∀ (i:Nat) (x:Str) (v:V),X.N[i]?=some x->σ[i]?=some (some v)->Vis X.env.scope x->∃ u,RelV v u/\Look X.env s.heap m x u
 cell:∀ x c,X.env.cells.lookup x=some c->∃ v,s.heap.IsCell c v
 free:H X.env.locals=none
 zdX:∀ x c,X.env.cells.lookup x=some c->H c=none
 pin:∀ p∈X.pn++pins,s.heap.get? p.1=some p.2/\H p.1=none/\p.1≠X.env.locals/\p.1∉X.fs/\∀ v,p.2.data≠.cell v
 hok:HOk X.prog X.w H s.heap
 len:σ.length=X.N.length
section
variable {X:Cx} {pins:List (Addr×Obj)} {σ:List (Option V)} {H H':Hp} {s:Shared} {h':Heap}
theorem Cx.Ok.nofr (ok:X.Ok) {b:Addr} {o:Obj} (e:X.base.get? b=some o):b∉X.fs:=λ hb=>by
 have:=(ok.funs.mem hb).1
 rw [e] at this; cases this
theorem Inv.bs (I:Inv X pins σ H s):∀ b o,X.base.get? b=some o->s.heap.get? b=some o/\H b=none:=λ b o e =>
 ⟨I.base.keep b o (I.ok.bs b o e).1 (I.ok.bs b o e).2 (I.ok.nofr e) (I.ok.noex b o e),I.base.free b o (I.ok.bs b o e).1 (I.ok.bs b o e).2 (I.ok.noex b o e)⟩
theorem Inv.bk (I:Inv X pins σ H s):∀ b o,X.base.get? b=some o->s.heap.get? b=some o:=λ b o e=>(I.bs b o e).1
theorem Inv.mod (I:Inv X pins σ H s):Mod X.K X.mg X.base:=I.ok.mod
theorem Inv.kIn (I:Inv X pins σ H s):X.K.In s.heap:=I.ok.mod.kin.keeps I.bk
theorem Inv.fr (I:Inv X pins σ H s):∃ m,Fr X.base X.env.locals s.heap m :=
 let ⟨m,hn,_⟩:=I.loc
 ⟨m,hn,I.bk,Nat.le_trans I.ok.bsz I.ok.above⟩
theorem Inv.lt (I:Inv X pins σ H s):X.env.locals < s.heap.objs.size:=let ⟨_,hn,_⟩:=I.loc; hn.lt
theorem Inv.sz (I:Inv X pins σ H s):X.s₀.heap.objs.size<=s.heap.objs.size:=Nat.le_trans I.ok.above (Nat.le_of_lt I.lt)
theorem Inv.nofs (I:Inv X pins σ H s) {a:Addr} (h:s.heap.objs.size<=a):a∉X.fs:=λ hb=>by
 obtain ⟨_,o,ho,_⟩:=I.ok.funs.mem hb
 exact absurd (Nat.lt_of_lt_of_le (Heap.lt_size ho) (Nat.le_trans I.sz h)) (Nat.lt_irrefl _)
theorem Inv.cne (I:Inv X pins σ H s):∀ x c,X.env.cells.lookup x=some c->c≠X.env.locals:=λ x c e z=>by
 obtain ⟨v,o,ho,hd⟩:=I.cell x c e
 obtain ⟨m,⟨o',es,ep,ho',hd',_⟩,_⟩:=I.loc
 rw [z,ho'] at ho; cases ho; rw [hd'] at hd; cases hd
theorem Inv.funs (I:Inv X pins σ H s):s.heap.FunFrames X.base X.outer:=by
 have all:∀ (l:List Env),(∀ b∈frs l,b∈X.fs)->X.s₀.heap.FunFrames X.base l->s.heap.FunFrames X.base l:=by
  intro l
  induction l with
  | nil=>intro _ _; trivial
  | cons env r ih =>
   intro hs hl
   obtain ⟨hk,⟨L,o,hf,hn,ho,hd⟩,hr⟩:=hl
   have hL:L∈X.fs:=hs L (by unfold frs; rw [List.filterMap_cons,hf]; exact List.mem_cons_self)
   obtain ⟨sl,e⟩:=I.base.slot L o ho (I.ok.frf L hL) hL λ z=>I.ok.exfs L z hL
   exact ⟨hk,⟨L,_,hf,hn,e,hd⟩,ih (λ b hb=>hs b (by unfold frs; rw [List.filterMap_cons,hf]; exact List.mem_cons_of_mem _ hb)) hr⟩
 exact all X.outer (λ _ hb=>hb) I.ok.funs
theorem Inv.stack (I:Inv X pins σ H s):s.heap.FunFrames X.base X.stack:=by
 rcases I.ok.stk with e | ⟨e,hf⟩
 . rw [e]; exact I.funs
 . rw [e]
   obtain ⟨m,hn,_⟩:=I.loc
   refine .cons (by rw [I.ok.kind]; decide) hf hn ?_ I.funs
   exact Heap.get?_none_of_le (Nat.le_trans I.ok.bsz I.ok.above)
theorem Inv.zmU (I:Inv X pins σ H s):∀ b∈frs X.stack,b∈X.env.locals::X.fs:=λ b hb=>by
 rcases I.ok.stk with e | ⟨e,hf⟩
 . rw [e] at hb; exact List.mem_cons_of_mem _ hb
 . rw [e] at hb
   unfold frs at hb
   rw [List.filterMap_cons,hf] at hb
   exact hb
theorem Inv.zha (I:Inv X pins σ H s):∀ b∈frs X.stack,H b=none:=λ b hb=>by
 rcases List.mem_cons.mp (I.zmU b hb) with e | hb
 . rw [e]; exact I.free
 . obtain ⟨_,o,ho,_⟩:=I.ok.funs.mem hb
   exact I.base.free b o ho (I.ok.frf b hb) λ z=>I.ok.exfs b z hb
theorem Inv.step {g':Array GenState} {t':Nat} {d':Drawn} {ch:List Addr} (I:Inv X pins σ H s)
   (hch:∀ b∈ch,(b∈X.ex\/X.s₀.heap.objs.size<=b)/\b≠X.env.locals/\(∀ x c,X.env.cells.lookup x=some c->c≠b)/\∀ p∈X.pn++pins,p.1≠b)
   (keep:∀ b o,b≠X.env.locals->b∉X.fs->b∉ch->s.heap.get? b=some o->H b=none->h'.get? b=some o)
   (slot:∀ b o,b≠X.env.locals->b∈X.fs->b∉ch->s.heap.get? b=some o->H b=none->∃ sl,h'.get? b=some { o with slots:=sl }) (free:∀ b o,b∉ch->s.heap.get? b=some o->H b=none->H' b=none)
   (there:∀ b o,b∉ch->s.heap.get? b=some o->∃ o',h'.get? b=some o')
   (tups:∀ b xs,H b=some (.tup xs)->H' b=some (.tup xs)) (frzs:∀ b o u,H b=some (.frz o u)->H' b=some (.frz o u)) (tbls:∀ b ps,H b=some (.tbl ps)->∃ more,H' b=some (.tbl (ps++more)))
   (ns:∀ m,s.heap.Ns X.env.locals m->h'.Ns X.env.locals m) (hok:HOk X.prog X.w H' h') (hg:AllBare g') :
   Inv X pins σ H' { s with heap:=h',gens:=g',drawn:=d',toks:=t' }:=by
 have neL:∀ b o,X.s₀.heap.get? b=some o->b≠X.env.locals:=λ b o e=>Nat.ne_of_lt (Nat.lt_of_lt_of_le (Heap.lt_size e) I.ok.above)
 have neC:∀ b o,X.s₀.heap.get? b=some o->b∉X.ex->b∉ch:=λ b o e hx hb=>by
   rcases (hch b hb).1 with z | z
   . exact hx z
   . exact absurd (Nat.lt_of_lt_of_le (Heap.lt_size e) z) (Nat.lt_irrefl _)
 have cellK:∀ x c,X.env.cells.lookup x=some c->∀ v,s.heap.IsCell c v->h'.IsCell c v:=λ x c e v ⟨o,ho,hd⟩=>by
   have nch:c∉ch:=λ z=>(hch c z).2.2.1 x c e rfl
   by_cases hc:c∈X.fs
   . obtain ⟨sl,q⟩:=slot c o (I.cne x c e) hc nch ho (I.zdX x c e)
     exact ⟨_,q,hd⟩
   . exact ⟨o,keep c o (I.cne x c e) hc nch ho (I.zdX x c e),hd⟩
 refine ⟨I.ok,I.os,hg,⟨λ b o e n hb hx=>?_,λ b o e n hb hx=>?_,λ b o e n hx=>?_,λ b o e hx=>?_,λ b xs e=>tups b xs (I.base.tups b xs e),λ b o xs e=>frzs b o xs (I.base.frzs b o xs e),λ b ps e=>?_⟩,?_,λ x c e=>?_,?_,λ x c e=>?_,λ p hp=>?_,hok,I.len⟩
 . exact keep b o (neL b o e) hb (neC b o e hx) (I.base.keep b o e n hb hx) (I.base.free b o e n hx)
 . obtain ⟨sl,e1⟩:=I.base.slot b o e n hb hx
   obtain ⟨sl',e2⟩:=slot b _ (neL b o e) hb (neC b o e hx) e1 (I.base.free b o e n hx)
   exact ⟨sl',e2⟩
 . obtain ⟨o',e1⟩:=I.base.there b o e hx
   exact free b o' (neC b o e hx) e1 (I.base.free b o e n hx)
 . obtain ⟨o',e1⟩:=I.base.there b o e hx
   exact there b o' (neC b o e hx) e1
 . obtain ⟨m1,e1⟩:=I.base.tbls b ps e
   obtain ⟨m2,e2⟩:=tbls b _ e1
   exact ⟨m1++m2,by rw [e2,Array.append_assoc]⟩
 . obtain ⟨m,hn,hl⟩:=I.loc
   refine ⟨m,ns m hn,λ i x v e1 e2 e3=>?_⟩
   obtain ⟨u,r,l⟩:=hl i x v e1 e2 e3
   refine ⟨u,r,?_⟩
   rcases l with l | ⟨k,c,e,z⟩
   . exact .inl l
   . exact .inr ⟨k,c,e,cellK x c e _ z⟩
 . obtain ⟨v,z⟩:=I.cell x c e
   exact ⟨v,cellK x c e v z⟩
 . obtain ⟨m,⟨o,_,_,ho,_⟩,_⟩:=I.loc
   exact free _ o (λ z=>(hch _ z).2.1 rfl) ho I.free
 . obtain ⟨v,o,ho,hd⟩:=I.cell x c e
   exact free c o (λ z=>(hch c z).2.2.1 x c e rfl) ho (I.zdX x c e)
 . obtain ⟨e,n,ne,nf,d⟩:=I.pin p hp
   have nch:p.1∉ch:=λ z=>(hch p.1 z).2.2.2 p hp rfl
   exact ⟨keep p.1 p.2 ne nf nch e n,free p.1 p.2 nch e n,ne,nf,d⟩
theorem Inv.un {t':Nat} (I:Inv X pins σ H s) (u:Un X.fs [] H H' s.heap h') (hok:HOk X.prog X.w H' h'):Inv X pins σ H' { s with heap:=h',toks:=t' }:=by
 obtain ⟨m,⟨o,es,ep,ho,r⟩,_⟩:=id I.loc
 obtain ⟨sl,hL⟩:=u.any ho I.free (by simp)
 exact I.step (g':=s.gens) (d':=s.drawn) (ch:=[]) (λ _ z=>nomatch z) (λ b o _ hb _ e n=>u.keep b o e n hb (by simp)) (λ b o _ hb _ e n=>u.slot b o e n hb (by simp)) (λ b o _ e n=>u.free b o e n (by simp)) (λ b o _ e=>u.there b o e (by simp)) u.tups u.frzs u.tbls (λ m' hm=>by
  obtain ⟨o',es',ep',ho',r'⟩:=hm
  rw [ho] at ho'; cases ho'
  exact ⟨_,es',ep',hL,r'⟩) hok I.bare
theorem Inv.call {g':Array GenState} {t':Nat} {d':Drawn} {ch:List Addr} (I:Inv X pins σ H s) (u:Un (frs X.stack) ch H H' s.heap h') (hok:HOk X.prog X.w H' h') (hg:AllBare g')
  (hch:∀ b∈ch,(b∈X.ex\/X.s₀.heap.objs.size<=b)/\b≠X.env.locals/\(∀ x c,X.env.cells.lookup x=some c->c≠b)/\∀ p∈X.pn++pins,p.1≠b) :
  Inv X pins σ H' { s with heap:=h',gens:=g',drawn:=d',toks:=t' }:=by
 obtain ⟨m,⟨o,es,ep,ho,r⟩,_⟩:=id I.loc
 obtain ⟨sl,hL⟩:=u.any ho I.free λ z=>(hch _ z).2.1 rfl
 exact I.step (ch:=ch) hch (λ b o hL hb hc e n=>u.keep b o e n (λ z=>(List.mem_cons.mp (I.zmU b z)).elim hL hb) hc) (λ b o _ _ hc e n=>u.any e n hc) (λ b o hc e n=>u.free b o e n hc) (λ b o hc e=>u.there b o e hc) u.tups u.frzs u.tbls (λ m' hm=>by
  obtain ⟨o',es',ep',ho',r'⟩:=hm
  rw [ho] at ho'; cases ho'
  exact ⟨_,es',ep',hL,r'⟩) hok hg
theorem Inv.turned {t':Nat} {it:Addr} (I:Inv X pins σ H s) (k:∀ b o,b≠it->s.heap.get? b=some o->h'.get? b=some o) (hn:H it=none) (hL:it≠X.env.locals)
   (h1:it∈X.ex\/X.s₀.heap.objs.size<=it) (h2:∀ x c,X.env.cells.lookup x=some c->c≠it) (h3:∀ p∈X.pn++pins,p.1≠it):Inv X pins σ H { s with heap:=h',toks:=t' }:=by
 have nit:∀ b u,H b=some u->b≠it:=λ b u e z=>by rw [z,hn] at e; cases e
 refine I.step (g':=s.gens) (d':=s.drawn) (ch:=[it]) (λ b hb=>?_) (λ b o _ _ hc e _=>k b o (λ z=>hc (by simp [z])) e) (λ b o _ _ hc e _=>⟨o.slots,k b o (λ z=>hc (by simp [z])) e⟩) (λ _ _ _ _ n=>n)
   (λ b o hc e=>⟨o,k b o (λ z=>hc (by simp [z])) e⟩) (λ _ _ e=>e) (λ _ _ _ e=>e) (λ b ps e=>⟨#[],by rw [e]; simp⟩) (λ m hm=>?_) (λ b u e=>?_) I.bare
 . have e:b=it:=by simpa using hb
   subst e
   exact ⟨h1,hL,h2,h3⟩
 . obtain ⟨o,es,ep,ho,r⟩:=hm
   exact ⟨o,es,ep,k _ o (Ne.symm hL) ho,r⟩
 . refine (I.hok b u e).stay (λ c v hc q=>k c v ?_ q) (λ _ q=>q) λ _ _ q=>q
   rcases hc with z | z
   . rw [z]; exact nit b u e
   . exact nit c _ z
theorem Inv.tok (I:Inv X pins σ H s) (t:Nat):Inv X pins σ H { s with toks:=t }:=I.un (h':=s.heap) (t':=t) Un.refl I.hok
theorem Inv.kept {t':Nat} (I:Inv X pins σ H s) (k:∀ b u,s.heap.get? b=some u->h'.get? b=some u):Inv X pins σ H { s with heap:=h',toks:=t' }:=I.un (Un.kept k) (I.hok.kept k)
theorem Inv.laid {a:Addr} {o:HO} {t':Nat} (I:Inv X pins σ H s) (k:∀ b u,s.heap.get? b=some u->h'.get? b=some u) (hp:s.heap.objs.size<=a) (new:zbV X.prog X.w (upd H a o) h' a o) :
 Inv X pins σ (upd H a o) { s with heap:=h',toks:=t' }:=I.un (Un.laid k hp (I.hok.fresh hp)) (I.hok.laid k hp new)
theorem Inv.write {x e:Addr} {o:HO} {t':Nat} (I:Inv X pins σ H s) (mu:Mut (H x)) (he:e=x\/H e=some (.own x)) (k:∀ b u,b≠e->s.heap.get? b=some u->h'.get? b=some u) (heo:∃ u,h'.get? e=some u)
 (new:zbV X.prog X.w (upd H x o) h' x o):Inv X pins σ (upd H x o) { s with heap:=h',toks:=t' }:=I.un (Un.write mu he k heo) (I.hok.write mu he k heo new)
theorem Inv.weak {σ':List (Option V)} (I:Inv X pins σ H s) (hl:σ'.length=σ.length) (w:∀ (i:Nat) v,σ'[i]?=some (some v)->σ[i]?=some (some v)):Inv X pins σ' H s :=
 ⟨I.ok,I.os,I.bare,I.base,let ⟨m,hn,hl'⟩:=I.loc; ⟨m,hn,λ i x v e1 e2 e3=>hl' i x v e1 (w i v e2) e3⟩,I.cell,I.free,I.zdX,I.pin,I.hok,hl.trans I.len⟩
theorem Inv.zhp {pins':List (Addr×Obj)} (I:Inv X pins σ H s) (h:∀ p∈pins',s.heap.get? p.1=some p.2/\H p.1=none/\p.1≠X.env.locals/\p.1∉X.fs/\∀ v,p.2.data≠.cell v):Inv X pins' σ H s :=
 ⟨I.ok,I.os,I.bare,I.base,I.loc,I.cell,I.free,I.zdX,λ p hp=>(List.mem_append.mp hp).elim (λ z=>I.pin p (List.mem_append_left _ z)) (h p),I.hok,I.len⟩
theorem znb {N:List Str} (hN:N.Nodup) {i j:Nat} {x:Str} (a:N[i]?=some x) (b:N[j]?=some x):i=j:=by
 obtain ⟨h1,e1⟩:=List.getElem?_eq_some_iff.mp a
 obtain ⟨h2,e2⟩:=List.getElem?_eq_some_iff.mp b
 exact (List.getElem_inj hN).mp (e1.trans e2.symm)
theorem zke {M:Model} {A:Around} {E:Value->Shared->Prop} {i:Nat} {x:Str} {v:V} {u:Value} {Q:Unit->Shared->Prop} (I:Inv X pins σ H s) (hN:X.N.Nodup) (hi:X.N[i]?=some x) (hx:Loc X.env.scope x) (r:RelV v u)
   (h:∀ s',Inv X pins (σ.set i (some v)) H s'->(∃ a,Heap.SameBut a s.heap s'.heap/\(a=X.env.locals\/X.env.cells.lookup x=some a))->Q () s') (hf:X.fn x=true\/X.env.scope.names.lookup x=some .local:=by first | exact .inl rfl | exact .inr rfl | assumption):wpAny M A (storeName X.env x u) Q E s:=by
 obtain ⟨m,hn,hl⟩:=id I.loc
 have hcls:(X.env.scope.kind == .class || (X.env.scope.kind == .module && X.env.locals != X.env.globals))=false:=by rw [I.ok.kind]; rfl
 have hiσ:i < σ.length:=by rw [I.len]; exact (List.getElem?_eq_some_iff.mp hi).1
 have cne:=I.cne
 have tracked:∀ {a:Addr} {h':Heap},(∃ o,s.heap.get? a=some o/\H a=none)->Heap.SameBut a s.heap h'->HOk X.prog X.w H h':=λ {a h'} ha hs b ob e=>by
   obtain ⟨_,_,hfree⟩:=ha
   refine (I.hok b ob e).stay (λ c w' hc q=>(hs.2 c ?_).trans q) (λ _ q=>q) λ _ _ q=>q
   rintro rfl
   rcases hc with rfl | hc
   . rw [hfree] at e; cases e
   . rw [hfree] at hc; cases hc
 rcases hx with hk | hk
 . refine wpAny_storeName_local hk hn (λ h' hn' hs=>?_) hcls
   obtain ⟨oL,_,_,hoL,_⟩:=id hn
   refine h _ ⟨I.ok,I.os,I.bare,⟨λ b o e n hb hx=>?_,λ b o e n hb hx=>?_,I.base.free,λ b o e hx=>?_,I.base.tups,I.base.frzs,I.base.tbls⟩,⟨_,hn',λ j y v' e1 e2 e3=>?_⟩,λ y c e=>?_,I.free,I.zdX,λ p hp=>?_,tracked ⟨oL,hoL,I.free⟩ hs,by simpa using I.len⟩ ⟨_,hs,.inl rfl⟩
   . exact (hs.2 b (Nat.ne_of_lt (Nat.lt_of_lt_of_le (Heap.lt_size e) I.ok.above))).trans (I.base.keep b o e n hb hx)
   . obtain ⟨sl,e1⟩:=I.base.slot b o e n hb hx
     exact ⟨sl,(hs.2 b (Nat.ne_of_lt (Nat.lt_of_lt_of_le (Heap.lt_size e) I.ok.above))).trans e1⟩
   . obtain ⟨o',e1⟩:=I.base.there b o e hx
     exact ⟨o',(hs.2 b (Nat.ne_of_lt (Nat.lt_of_lt_of_le (Heap.lt_size e) I.ok.above))).trans e1⟩
   . by_cases hj:j=i
     . subst hj
       rw [hi] at e1; cases e1
       rw [List.getElem?_set_self hiσ] at e2
       cases e2
       exact ⟨u,r,.inl ⟨hk,by simp⟩⟩
     . rw [List.getElem?_set_ne (Ne.symm hj)] at e2
       obtain ⟨u',r',q⟩:=hl j y v' e1 e2 e3
       refine ⟨u',r',?_⟩
       rcases q with ⟨k,e⟩ | ⟨k,c,e,z⟩
       . refine .inl ⟨k,?_⟩
         have:y≠x:=λ e=>hj (znb hN e1 (e ▸ hi))
         simp [this,e]
       . exact .inr ⟨k,c,e,z.sameBut hs (cne y c e)⟩
   . obtain ⟨w',z⟩:=I.cell y c e
     exact ⟨w',z.sameBut hs (cne y c e)⟩
   . obtain ⟨e,n,ne,nf,d⟩:=I.pin p hp
     exact ⟨(hs.2 p.1 ne).trans e,n,ne,nf,d⟩
 . have hfn:X.fn x=true:=by
     rcases hf with z | z
     . exact z
     . rw [z] at hk; cases hk
   obtain ⟨c,hc⟩:=I.ok.has x (.inl hk)
   obtain ⟨w',z⟩:=I.cell x c hc
   refine wpAny_storeName_cell I.ok.kind hk hc z (λ h' hc' hs=>?_)
   obtain ⟨oc,hoc,hocd⟩:=id z
   refine h { s with heap:=h' } ⟨I.ok,I.os,I.bare,⟨λ b o e n hb hx=>?_,λ b o e n hb hx=>?_,I.base.free,λ b o e hx=>?_,I.base.tups,I.base.frzs,I.base.tbls⟩,⟨m,hn.sameBut hs (Ne.symm (cne x c hc)),λ j y v' e1 e2 e3=>?_⟩,λ y c' e=>?_,I.free,I.zdX,λ p hp=>?_,tracked ⟨oc,hoc,I.zdX x c hc⟩ hs,by simpa using I.len⟩ ⟨c,hs,.inr hc⟩
   . exact (hs.2 b (Nat.ne_of_lt (Nat.lt_of_lt_of_le (Heap.lt_size e) (I.ok.cab x c hfn hc)))).trans (I.base.keep b o e n hb hx)
   . obtain ⟨sl,e1⟩:=I.base.slot b o e n hb hx
     exact ⟨sl,(hs.2 b (Nat.ne_of_lt (Nat.lt_of_lt_of_le (Heap.lt_size e) (I.ok.cab x c hfn hc)))).trans e1⟩
   . obtain ⟨o',e1⟩:=I.base.there b o e hx
     exact ⟨o',(hs.2 b (Nat.ne_of_lt (Nat.lt_of_lt_of_le (Heap.lt_size e) (I.ok.cab x c hfn hc)))).trans e1⟩
   . by_cases hj:j=i
     . subst hj
       rw [hi] at e1; cases e1
       rw [List.getElem?_set_self hiσ] at e2
       cases e2
       exact ⟨u,r,.inr ⟨.inl hk,c,hc,hc'⟩⟩
     . rw [List.getElem?_set_ne (Ne.symm hj)] at e2
       obtain ⟨u',r',q⟩:=hl j y v' e1 e2 e3
       refine ⟨u',r',?_⟩
       rcases q with q | ⟨k,c',e,z'⟩
       . exact .inl q
       . refine .inr ⟨k,c',e,z'.sameBut hs ?_⟩
         rintro rfl
         exact hj (znb hN e1 (I.ok.inj _ _ _ e hc ▸ hi))
   . by_cases hcc:c'=c
     . subst hcc; exact ⟨_,hc'⟩
     . obtain ⟨w2,z2⟩:=I.cell y c' e
       exact ⟨w2,z2.sameBut hs hcc⟩
   . obtain ⟨e,n,ne,nf,d⟩:=I.pin p hp
     refine ⟨(hs.2 p.1 ?_).trans e,n,ne,nf,d⟩
     intro q
     rw [q,hoc] at e
     have q':oc=p.2:=Option.some.inj e
     exact d w' (by rw [<-q']; exact hocd)
theorem zmT {M:Model} {A:Around} {E:Value->Shared->Prop} {i:Nat} {x:Str} {v:V} {u:Value} {Q:Unit->Shared->Prop} (I:Inv X pins σ H s) (hN:X.N.Nodup) (hi:X.N[i]?=some x) (hx:Loc X.env.scope x) (r:RelV v u)
  (h:∀ s',Inv X pins (σ.set i (some v)) H s'->Q () s') (hf:X.fn x=true\/X.env.scope.names.lookup x=some .local:=by first | exact .inl rfl | exact .inr rfl | assumption):wpAny M A (storeName X.env x u) Q E s :=
 zke I hN hi hx r (λ s' I' _=>h s' I') hf
theorem Inv.zr9 {s':Shared} {ch:List Addr} (I:Inv X pins σ H s) (ho:s'.os=s.os) (u:Un (frs X.stack) ch H H' s.heap s'.heap) (hok:HOk X.prog X.w H' s'.heap) (hg:AllBare s'.gens)
  (hch:∀ b∈ch,(b∈X.ex\/X.s₀.heap.objs.size<=b)/\b≠X.env.locals/\(∀ x c,X.env.cells.lookup x=some c->c≠b)/\∀ p∈X.pn++pins,p.1≠b):Inv X pins σ H' s':=by
 obtain ⟨h',g',d',t',o'⟩:=s'
 have e:o'=s.os:=ho
 subst e
 exact I.call (g':=g') (t':=t') (d':=d') u hok hg hch
end
abbrev XK:=Value->Option Addr->Hp->Prop
abbrev St:=List (Option V)
abbrev VK:=V->Hp->Prop
abbrev TE:=St->Hp->VK->Prop
abbrev TT:=St->Hp->(Bool->Hp->Prop)->Prop
abbrev TA:=St->Hp->(List V->Hp->Prop)->Prop
structure Ends where
 nx:St->Hp->Prop
 rt:VK
 bk:St->Hp->Prop:=λ _ _=>False
 ct:St->Hp->Prop:=λ _ _=>False
abbrev TS:=Ends->St->Hp->Prop
def EP (X:Cx) (pins:List (Addr×Obj)) (σ:St) (Q:VK) (u:Value) (s':Shared):Prop:=∃ v H',Inv X pins σ H' s'/\RelV v u/\Q v H'
def TP (X:Cx) (pins:List (Addr×Obj)) (σ:St) (Q:Bool->Hp->Prop) (b:Bool) (s':Shared):Prop:=∃ H',Inv X pins σ H' s'/\Q b H'
def AP (X:Cx) (pins:List (Addr×Obj)) (σ:St) (Q:List V->Hp->Prop) (us:List Value) (s':Shared):Prop:=∃ vs H',Inv X pins σ H' s'/\Vals vs us/\Q vs H'
def SP (X:Cx) (pins:List (Addr×Obj)) (D:Ends) (f:Flow) (s':Shared):Prop :=
 match f with
 | .next=>∃ σ' H',Inv X pins σ' H' s'/\D.nx σ' H'
 | .brk=>∃ σ' H',Inv X pins σ' H' s'/\D.bk σ' H'
 | .cont=>∃ σ' H',Inv X pins σ' H' s'/\D.ct σ' H'
 | .ret u=>∃ v σ' H',Inv X pins σ' H' s'/\RelV v u/\D.rt v H'
def PE (X:Cx) (e:Expr) (t:TE):Prop :=
 ∀ (pins:List (Addr×Obj)) (s:Shared) (σ:St) (H:Hp) (Q:VK),Inv X pins σ H s->t σ H Q->wpAny (model X.prog X.w) X.A (eval e X.env) (EP X pins σ Q) X.xe s
def PT (X:Cx) (e:Expr) (t:TT):Prop :=
 ∀ (pins:List (Addr×Obj)) (s:Shared) (σ:St) (H:Hp) (Q:Bool->Hp->Prop),Inv X pins σ H s->t σ H Q->wpAny (model X.prog X.w) X.A (isTrue e X.env (eval e X.env)) (TP X pins σ Q) X.xe s
def PW (X:Cx) (e:Expr) (t:TT):Prop :=
 ∀ (whole:Sem Value) (pins:List (Addr×Obj)) (s:Shared) (σ:St) (H:Hp) (Q:Bool->Hp->Prop),Inv X pins σ H s->t σ H Q->wpAny (model X.prog X.w) X.A (isTrue e X.env whole) (TP X pins σ Q) X.xe s
theorem PW.pt {X:Cx} {e:Expr} {t:TT} (h:PW X e t):PT X e t:=h _
def PA (X:Cx) (es:List Expr) (t:TA):Prop :=
 ∀ (pos:Pos) (pins:List (Addr×Obj)) (s:Shared) (σ:St) (H:Hp) (Q:List V->Hp->Prop),Inv X pins σ H s->t σ H Q->wpAny (model X.prog X.w) X.A (spliced (backTo pos (starEach es X.env))) (AP X pins σ Q) X.xe s
def PS (X:Cx) (st:Stmt) (t:TS):Prop :=
 ∀ (pins:List (Addr×Obj)) (s:Shared) (σ:St) (H:Hp) (D:Ends),Inv X pins σ H s->t D σ H->wpAny (model X.prog X.w) X.A (exec st X.env) (SP X pins D) X.xe s
def PSs (X:Cx) (st:List Stmt) (t:TS):Prop :=
 ∀ (pins:List (Addr×Obj)) (s:Shared) (σ:St) (H:Hp) (D:Ends),Inv X pins σ H s->t D σ H->wpAny (model X.prog X.w) X.A (execs st X.env) (SP X pins D) X.xe s
theorem thn {α:Type} {t:Sem α} {Q Q':α->Shared->Prop} {M:Model} {A:Around} {E:Value->Shared->Prop} {s:Shared} (h:wpAny M A t Q E s) (hQ:∀ a s,Q a s->Q' a s):wpAny M A t Q' E s:=wpAny_mono h hQ λ _ _ x=>x
end L2
namespace L2
open PySem PySem.Spec PyProof.Rows
section
variable {X:Cx}
theorem bin {a b:Expr} {ta tb:TE} (ha:PE X a ta) (hb:PE X b tb) {pins:List (Addr×Obj)} {s:Shared} {σ:St} {H:Hp} {R:V->V->Hp->Prop} (I:Inv X pins σ H s) (h:ta σ H λ x H1=>tb σ H1 λ y H2=>R x y H2)
  {α:Type} {Q:α->Shared->Prop} {f:Value->Value->Sem α}
  (hf:∀ v u s2 x y H2,Inv X pins σ H2 s2->RelV x v->RelV y u->R x y H2->wpAny (model X.prog X.w) X.A (f v u) Q X.xe s2) :
  wpAny (model X.prog X.w) X.A (eval a X.env) (λ v s₁=>wpAny (model X.prog X.w) X.A (eval b X.env) (λ u s₂=>wpAny (model X.prog X.w) X.A (f v u) Q X.xe s₂) X.xe s₁) X.xe s:=by
 refine thn (ha pins s σ H _ I h) λ v s1 ⟨x,H1,I1,r1,q1⟩=>?_
 refine thn (hb pins s1 σ H1 _ I1 q1) λ u s2 ⟨y,H2,I2,r2,q2⟩=>?_
 exact hf v u s2 x y H2 I2 r1 r2 q2
def tVar (i:Nat):TE:=λ σ H Q=>∃ v,σ[i]?=some (some v)/\Q v H
def tC (v:V):TE:=λ _ H Q=>Q v H
theorem zsO {i:Nat} {x:Str} {pos:Pos} (hN:X.N[i]?=some x) (hv:Vis X.env.scope x) (hd:(x == ("__debug__" : Str))=false:=by decide) (hcd:(x == ("__classdict__" : Str))=false:=by decide):PE X (.Name x pos) (tVar i):=by
 intro pins s σ H Q I h
 obtain ⟨v,e,h⟩:=h
 obtain ⟨m,hn,hl⟩:=I.loc
 obtain ⟨u,r,l⟩:=hl i x v hN e hv
 have fin:EP X pins σ Q u s:=⟨v,H,I,r,h⟩
 rcases l with ⟨hk,hm⟩ | ⟨hk,c,hc,hcell⟩
 . exact wpAny_Name (wpAny_loadName_local I.ok.kind hk hn hm fin) hd
 . rcases hk with hk | hk
   . exact wpAny_Name (wpAny_loadName_cell I.ok.kind hk hc hcell fin) hd
   . exact wpAny_Name (wpAny_loadName_free I.ok.kind hk hc hcell fin hcd) hd
theorem zal {i j pos}:PE X (.Constant (.int i) j pos) (tC (.int i)):=λ _ _ _ H _ I h=>wpAny_Constant_int ⟨.int i,H,I.tok _,⟨_,rfl⟩,h⟩
theorem zqn {b j pos}:PE X (.Constant (.bool b) j pos) (tC (.bl b)):=λ _ _ _ H _ I h=>Constant_bool ⟨.bl b,H,I,rfl,h⟩
theorem zfx {j pos}:PE X (.Constant .none j pos) (tC .non):=λ _ _ _ H _ I h=>Constant_none ⟨.non,H,I,rfl,h⟩
theorem zaN {x j pos}:PE X (.Constant (.str x) j pos) (tC (.str x)):=λ _ _ _ H _ I h=>Calls.Constant_str ⟨.str x,H,I.tok _,⟨_,rfl⟩,h⟩
def Gl (X:Cx) (x:Str):Prop:=X.env.kindOf x=some .globalImplicit
theorem zgd {E:Value->Shared->Prop} {pins:List (Addr×Obj)} {s:Shared} {σ:St} {H:Hp} {x:Str} {u:Value} {pos:Pos} {Q:Value->Shared->Prop} (I:Inv X pins σ H s) (hg:Gl X x) (hm:X.mg x=some u) (h:Q u s)
  (hd:(x == ("__debug__" : Str))=false:=by decide):wpAny (model X.prog X.w) X.A (eval (.Name x pos) X.env) Q E s :=
 Calls.Name_function_global I.ok.kind hg (Calls.loadGlobal_global (by rw [I.ok.glob]; exact I.mod.glob.keeps I.bk) hm h) hd
theorem zng {E:Value->Shared->Prop} {pins:List (Addr×Obj)} {s:Shared} {σ:St} {H:Hp} {x:Str} {u:Value} {pos:Pos} {Q:Value->Shared->Prop} (I:Inv X pins σ H s) (hg:Gl X x) (hm:X.mg x=none) (hv:bootBuiltins x=some u) (h:Q u s)
  (hn:x ≠ "__name__" := by decide) (hd:(x == ("__debug__" : Str))=false:=by decide):wpAny (model X.prog X.w) X.A (eval (.Name x pos) X.env) Q E s:=by
 obtain ⟨mb,h1,h2⟩:=I.mod.blt
 exact Calls.Name_function_global I.ok.kind hg (Calls.loadGlobal_builtin (by rw [I.ok.glob]; exact I.mod.glob.keeps I.bk) hm (by rw [I.ok.blt]; exact h1.keeps I.bk) ((h2 x hn).trans hv) h) hd
theorem zoM {x:Str} {v:V} {u:Value} {pos:Pos} (hg:Gl X x) (hm:X.mg x=some u) (r:RelV v u) (hd:(x == ("__debug__" : Str))=false:=by decide):PE X (.Name x pos) (tC v) :=
 λ _ _ _ H _ I h=>zgd I hg hm ⟨v,H,I,r,h⟩ hd
theorem zrQ {x:Str} {v:V} {u:Value} {pos:Pos} (hg:Gl X x) (hm:X.mg x=none) (hv:bootBuiltins x=some u) (r:RelV v u) (hn:x ≠ "__name__" := by decide) (hd:(x == ("__debug__" : Str))=false:=by decide):PE X (.Name x pos) (tC v) :=
 λ _ _ _ H _ I h=>zng I hg hm hv ⟨v,H,I,r,h⟩ hn hd
variable {a b:Expr} {ta tb:TE} {pos:Pos}
def PC (X:Cx) (op:CmpOp) (a b:Expr) (t:TE):Prop :=
 ∀ (pins:List (Addr×Obj)) (s:Shared) (σ:St) (H:Hp) (Q:VK),Inv X pins σ H s->t σ H Q ->
  wpAny (model X.prog X.w) X.A (eval a X.env) (λ v s₁=>wpAny (model X.prog X.w) X.A (eval b X.env) (λ u s₂=>wpAny (model X.prog X.w) X.A (compareOp op v u) (EP X pins σ Q) X.xe s₂) X.xe s₁) X.xe s
theorem znc (b:Expr) {op:CmpOp} (h:op≠.In) (h2:op≠.NotIn):behindInMarks op b=false:=by
 have e1:(op == CmpOp.In)=false:=by cases op <;> first | rfl | exact absurd rfl h
 have e2:(op == CmpOp.NotIn)=false:=by cases op <;> first | rfl | exact absurd rfl h2
 cases b <;> simp [behindInMarks,e1,e2]
def tIsN (ta:TE):TE:=λ σ H Q=>ta σ H λ x H1=>Q (.bl (decide (x=.non))) H1
def ztq (ta:TE):TE:=λ σ H Q=>ta σ H λ x H1=>Q (.bl (!decide (x=.non))) H1
theorem RelV.zna {x:V} {v:Value} (r:RelV x v):(v == Value.none)=decide (x=.non):=by
 cases x with
 | non=>cases r; rfl
 | bl _=>cases r; rfl
 | int _=>obtain ⟨t,rfl⟩:=r; rfl
 | str _=>obtain ⟨t,rfl⟩:=r; rfl
 | byt _=>obtain ⟨t,rfl⟩:=r; rfl
 | flt _=>obtain ⟨t,rfl⟩:=r; rfl
 | ref _=>cases r; rfl
 | ty _=>cases r; rfl
theorem zsT {j pos'} (ha:PE X a ta):PC X .Is a (.Constant .none j pos') (tIsN ta):=by
 intro pins s σ H Q I h
 refine thn (ha pins s σ H _ I h) λ v s1 ⟨x,H1,I1,r1,q1⟩=>?_
 exact Constant_none (is_none_gen ⟨.bl _,H1,I1,by rw [r1.zna]; rfl,q1⟩)
theorem zoO {j pos'} (ha:PE X a ta):PC X .IsNot a (.Constant .none j pos') (ztq ta):=by
 intro pins s σ H Q I h
 refine thn (ha pins s σ H _ I h) λ v s1 ⟨x,H1,I1,r1,q1⟩=>?_
 exact Constant_none (isnot_none_gen ⟨.bl _,H1,I1,by rw [r1.zna]; rfl,q1⟩)
def tB (t:TE):TT:=λ σ H Q=>t σ H λ x H1=>∃ c,x=.bl c/\Q c H1
theorem zsS {op:CmpOp} {t:TE} (h:PC X op a b t) (h1:behindInMarks op b=false:=by first | exact znc _ (by decide) (by decide) | rfl):PE X (.Compare a [op] [b] pos) t:=λ pins s σ H Q I hw=>wpAny_Compare1 (h pins s σ H Q I hw) h1
theorem zgz {op:CmpOp} {t:TE} (h:PC X op a b t) (h1:behindInMarks op b=false:=by first | exact znc _ (by decide) (by decide) | rfl):PT X (.Compare a [op] [b] pos) (tB t):=by
 intro pins s σ H Q I hw
 refine wpAny_isTrue_Compare1 (thn (h pins s σ H _ I hw) λ v s1 h1=>thn h1 λ u s2 h2=>thn h2 λ c s3 ⟨x,H1,I1,r1,q1⟩=>?_) h1
 obtain ⟨d,rfl,q⟩:=q1
 cases r1
 exact wpAny_truthy_bool ⟨H1,I1,q⟩
theorem zm1 {e:Expr} {t:TE} (h:PE X e t) (he:∀ whole,isTrue e X.env whole=(do let v <-whole; standAt e.pos; holding [v] (truthy v)):=by intro _; rfl):PT X e (tB t):=by
 intro pins s σ H Q I hw
 refine isTrue_plain (thn (h pins s σ H _ I hw) λ v s1 ⟨x,H1,I1,r1,q1⟩=>?_) (he _)
 obtain ⟨d,rfl,q⟩:=q1
 cases r1
 exact wpAny_truthy_bool ⟨H1,I1,q⟩
variable {tA tB':TT} {rest:List Expr}
def tAnd (t u:TT):TT:=λ σ H Q=>t σ H λ c H1=>if c=true then u σ H1 Q else Q false H1
def tOr (t u:TT):TT:=λ σ H Q=>t σ H λ c H1=>if c=true then Q true H1 else u σ H1 Q
def tNot (t:TT):TT:=λ σ H Q=>t σ H λ c H1=>Q (!c) H1
theorem zjm (ha:PT X a tA):PW X (.BoolOp .And [a] pos) tA:=by
 intro wh pins s σ H Q I h
 refine isTrue_and (thn (ha pins s σ H Q I h) λ c s1 e=>?_)
 cases c with
 | true=>exact isTrue_and_nil e
 | false=>exact e
theorem zq0 (ha:PT X a tA):PW X (.BoolOp .Or [a] pos) tA:=by
 intro wh pins s σ H Q I h
 refine isTrue_or (thn (ha pins s σ H Q I h) λ c s1 e=>?_)
 cases c with
 | false=>exact isTrue_or_nil e
 | true=>exact e
theorem zmZ (ha:PT X a tA) (hb:PW X (.BoolOp .And (b::rest) pos) tB'):PW X (.BoolOp .And (a::b::rest) pos) (tAnd tA tB'):=by
 intro wh pins s σ H Q I h
 refine isTrue_and (thn (ha pins s σ H _ I h) λ c s1 ⟨H1,I1,q1⟩=>?_)
 cases c with
 | true=>exact hb wh pins s1 σ H1 Q I1 q1
 | false=>exact ⟨H1,I1,q1⟩
theorem zrL (ha:PT X a tA) (hb:PW X (.BoolOp .Or (b::rest) pos) tB'):PW X (.BoolOp .Or (a::b::rest) pos) (tOr tA tB'):=by
 intro wh pins s σ H Q I h
 refine isTrue_or (thn (ha pins s σ H _ I h) λ c s1 ⟨H1,I1,q1⟩=>?_)
 cases c with
 | true=>exact ⟨H1,I1,q1⟩
 | false=>exact hb wh pins s1 σ H1 Q I1 q1
theorem zsM (ha:PT X a tA):PT X (.UnaryOp .Not a pos) (tNot tA):=by
 intro pins s σ H Q I h
 exact isTrue_not (ha pins s σ H (λ c H1=>Q (!c) H1) I h)
def ztu (ta tb:TE):TE:=λ σ H Q=>ta σ H λ x H1=>∃ c,x=.bl c/\if c=true then tb σ H1 Q else Q (.bl false) H1
def tOrV (ta tb:TE):TE:=λ σ H Q=>ta σ H λ x H1=>∃ c,x=.bl c/\if c=true then Q (.bl true) H1 else tb σ H1 Q
def ztp (ta:TE):TE:=λ σ H Q=>ta σ H λ x H1=>∃ c,x=.bl c/\Q (.bl (!c)) H1
theorem ziM {op} {t:TE} (h:PE X a t):PE X (.BoolOp op [a] pos) t:=λ pins s σ H Q I hw=>BoolOp_one (h pins s σ H Q I hw)
theorem zm6 (ha:PE X a ta) (hb:PE X (.BoolOp .And (b::rest) pos) tb):PE X (.BoolOp .And (a::b::rest) pos) (ztu ta tb):=by
 intro pins s σ H Q I h
 refine BoolOp_and (thn (ha pins s σ H _ I h) λ v s1 ⟨x,H1,I1,r1,q1⟩=>?_)
 obtain ⟨c,rfl,q1⟩:=q1
 cases r1
 refine wpAny_truthy_bool ?_
 cases c with
 | true=>exact hb pins s1 σ H1 Q I1 q1
 | false=>exact ⟨.bl false,H1,I1,rfl,q1⟩
theorem zsP (ha:PE X a ta) (hb:PE X (.BoolOp .Or (b::rest) pos) tb):PE X (.BoolOp .Or (a::b::rest) pos) (tOrV ta tb):=by
 intro pins s σ H Q I h
 refine BoolOp_or (thn (ha pins s σ H _ I h) λ v s1 ⟨x,H1,I1,r1,q1⟩=>?_)
 obtain ⟨c,rfl,q1⟩:=q1
 cases r1
 refine wpAny_truthy_bool ?_
 cases c with
 | false=>exact hb pins s1 σ H1 Q I1 q1
 | true=>exact ⟨.bl true,H1,I1,rfl,q1⟩
theorem zsQ (ha:PE X a ta):PE X (.UnaryOp .Not a pos) (ztp ta):=by
 intro pins s σ H Q I h
 refine UnaryOp_ (thn (ha pins s σ H _ I h) λ v s1 ⟨x,H1,I1,r1,q1⟩=>?_)
 obtain ⟨c,rfl,q1⟩:=q1
 cases r1
 exact not_of (wpAny_truthy_bool ⟨.bl (!c),H1,I1,rfl,q1⟩)
end
end L2
namespace L2
open PySem PySem.Spec PyProof.Rows
def SqL (K:PySem.W.Frag) (H:Hp) (a:Addr) (xs:List V):Prop :=
 Rd H a (.lst xs) \/
  ∃ (o:Obj) (its:Array Value) (n:Nat),K.lookup a=some o/\o.cls=.type "list" /\ o.dict=none/\o.data=.seq its n/\its.size<=sizeLine/\Vals xs its.toList
def SqT (K:PySem.W.Frag) (H:Hp) (a:Addr) (xs:List V):Prop :=
 Rd H a (.tup xs) \/
  ∃ (o:Obj) (its:Array Value) (n:Nat),K.lookup a=some o/\o.cls=.type "tuple" /\ o.data=.seq its n/\its.size<=sizeLine/\Vals xs its.toList
def absV:Value->Option V
 | .none=>some .non
 | .bool b=>some (.bl b)
 | .int i _=>some (.int i)
 | .str x _=>some (.str x)
 | .bytes b _=>some (.byt b)
 | .float b _=>some (.flt b)
 | .ref a=>some (.ref a)
 | .type n=>some (.ty n)
 | _=>none
theorem RelV.abs {x:V} {u:Value} (r:RelV x u):absV u=some x:=by
 cases x with
 | non=>cases r; rfl
 | bl _=>cases r; rfl
 | int _=>obtain ⟨t,rfl⟩:=r; rfl
 | str _=>obtain ⟨t,rfl⟩:=r; rfl
 | byt _=>obtain ⟨t,rfl⟩:=r; rfl
 | flt _=>obtain ⟨t,rfl⟩:=r; rfl
 | ref _=>cases r; rfl
 | ty _=>cases r; rfl
theorem RelV.inj {x y:V} {u:Value} (r:RelV x u) (q:RelV y u):x=y:=Option.some.inj (r.abs.symm.trans q.abs)
theorem Vals.inj:∀ {xs ys:List V} {us:List Value},Vals xs us->Vals ys us->xs=ys
 | _,_,_,.nil,.nil=>rfl
 | _,_,_,.cons r t,.cons r' t'=>by rw [r.inj r',Vals.inj t t']
section
variable {X:Cx} {pins:List (Addr×Obj)} {σ:St} {H:Hp} {s:Shared} {a:Addr} {xs ys:List V}
theorem SqL.of {K:PySem.W.Frag} (h:H a=some (.lst xs)):SqL K H a xs:=.inl (.inl h)
theorem SqT.of {K:PySem.W.Frag} (h:H a=some (.tup xs)):SqT K H a xs:=.inl (.inl h)
theorem Inv.list (I:Inv X pins σ H s) (h:SqL X.K H a xs):∃ its:List Value,Vals xs its/\PlainL s.heap a its.toArray/\xs.length<=sizeLine:=by
 rcases h with h | ⟨o,its,n,hk,hc,hd,hs,hz,r⟩
 . obtain ⟨z,its,n,r,e⟩:=h.ok I.hok
   exact ⟨its,r,⟨_,n,e,rfl,rfl,rfl⟩,z⟩
 . refine ⟨its.toList,r,⟨o,n,I.kIn a o hk,hc,hd,by simpa using hs⟩,?_⟩
   have e:=r.length
   simp only [Array.length_toList] at e
   omega
theorem Inv.tuple (I:Inv X pins σ H s) (h:SqT X.K H a xs):∃ its:List Value,Vals xs its/\IsTup s.heap a its.toArray/\xs.length<=sizeLine:=by
 rcases h with h | ⟨o,its,n,hk,hc,hs,hz,r⟩
 . obtain ⟨z,its,r,p⟩:=h.ok I.hok
   exact ⟨its,r,p,z⟩
 . refine ⟨its.toList,r,⟨o,I.kIn a o hk,hc,n,by simpa using hs⟩,?_⟩
   have e:=r.length
   simp only [Array.length_toList] at e
   omega
theorem Inv.zqx (I:Inv X pins σ H s) (h:SqL X.K H a xs) (h':SqL X.K H a ys):xs=ys:=by
 obtain ⟨its,r,⟨o,n,e,_,_,d⟩,_⟩:=I.list h
 obtain ⟨its',r',⟨o',n',e',_,_,d'⟩,_⟩:=I.list h'
 rw [e] at e'; cases e'
 rw [d] at d'
 injection d' with d1 _
 have:its=its':=by simpa using congrArg Array.toList d1
 subst this
 exact r.inj r'
theorem Inv.zor (I:Inv X pins σ H s) (h:SqT X.K H a xs) (h':SqT X.K H a ys):xs=ys:=by
 obtain ⟨its,r,⟨o,e,_,n,d⟩,_⟩:=I.tuple h
 obtain ⟨its',r',⟨o',e',_,n',d'⟩,_⟩:=I.tuple h'
 rw [e] at e'; cases e'
 rw [d] at d'
 injection d' with d1 _
 have:its=its':=by simpa using congrArg Array.toList d1
 subst this
 exact r.inj r'
end
abbrev Cx.wish (X:Cx) (E:Value->Shared->Prop):Cx:={ X with xe:=E }
abbrev Cx.nox (X:Cx):Cx:=X.wish λ _ _=>False
theorem Cx.Ok.wish {X:Cx} (ok:X.Ok) (E:Value->Shared->Prop):(X.wish E).Ok :=
 ⟨ok.mod,ok.kind,ok.glob,ok.blt,ok.above,ok.inj,ok.has,ok.cab,ok.hd,ok.frames,ok.stk,ok.exf,ok.bs,ok.bsz,ok.noex,ok.exfs,ok.funs,ok.frf⟩
theorem Cx.Ok.zfr {X:Cx} {E:Value->Shared->Prop} (ok:(X.wish E).Ok):X.Ok :=
 ⟨ok.mod,ok.kind,ok.glob,ok.blt,ok.above,ok.inj,ok.has,ok.cab,ok.hd,ok.frames,ok.stk,ok.exf,ok.bs,ok.bsz,ok.noex,ok.exfs,ok.funs,ok.frf⟩
section
variable {X:Cx} {pins:List (Addr×Obj)} {σ:St} {H:Hp} {s:Shared} {E:Value->Shared->Prop}
theorem Inv.wish (I:Inv X pins σ H s) (E:Value->Shared->Prop):Inv (X.wish E) pins σ H s:=⟨I.ok.wish E,I.os,I.bare,I.base,I.loc,I.cell,I.free,I.zdX,I.pin,I.hok,I.len⟩
theorem Inv.zfr (I:Inv (X.wish E) pins σ H s):Inv X pins σ H s:=⟨I.ok.zfr,I.os,I.bare,I.base,I.loc,I.cell,I.free,I.zdX,I.pin,I.hok,I.len⟩
theorem SP.zfr {D:Ends} {f:Flow} {s':Shared} (h:SP (X.wish E) pins D f s'):SP X pins D f s':=by
 cases f with
 | next=>obtain ⟨σ',H',I,q⟩:=h; exact ⟨σ',H',I.zfr,q⟩
 | brk=>obtain ⟨σ',H',I,q⟩:=h; exact ⟨σ',H',I.zfr,q⟩
 | cont=>obtain ⟨σ',H',I,q⟩:=h; exact ⟨σ',H',I.zfr,q⟩
 | ret u=>obtain ⟨v,σ',H',I,r,q⟩:=h; exact ⟨v,σ',H',I.zfr,r,q⟩
theorem PSs.nox {st:List Stmt} {t:TS} (h:PSs X.nox st t):PSs X st t:=λ pins s σ H D I hw =>
 wpAny_mono (h pins s σ H D (I.wish _) hw) (λ _ _ q=>q.zfr) λ _ _ z=>False.elim z
end
section
variable {X:Cx} {st:Stmt} {rest:List Stmt} {t u:TS} {e:Expr} {te:TE} {pos:Pos}
def zrr:TS:=λ D σ H=>D.nx σ H
def tSeq (t u:TS):TS:=λ D σ H=>t { D with nx:=u D } σ H
theorem zaO:PSs X [] zrr:=λ _ _ σ H _ I h=>wpAny_execs_nil ⟨σ,H,I,h⟩
theorem zac (h1:PS X st t) (h2:PSs X rest u):PSs X (st::rest) (tSeq t u):=by
 intro pins s σ H D I h
 refine wpAny_execs_cons (thn (h1 pins s σ H { D with nx:=u D } I h) λ f s1 q=>?_)
 cases f with
 | next =>
  obtain ⟨σ',H',I',q⟩:=q
  exact h2 pins s1 σ' H' D I' q
 | ret v=>exact q
 | brk=>exact q
 | cont=>exact q
theorem zaf (h1:PS X st t):PSs X [st] t:=by
 intro pins s σ H D I h
 refine wpAny_execs_cons (thn (h1 pins s σ H D I h) λ f s1 q=>?_)
 cases f with
 | next=>exact wpAny_execs_nil q
 | ret v=>exact q
 | brk=>exact q
 | cont=>exact q
theorem Inv.quiet {pins:List (Addr×Obj)} {σ:St} {H:Hp} {s:Shared} (I:Inv X pins σ H s):interactive X.env=false:=by simp [interactive,I.ok.kind]
def ztr (te:TE):TS:=λ D σ H=>te σ H λ _ H1=>D.nx σ H1
theorem zaJ (he:PE X e te) (hs:swapsWith e none pos.line X.env=pure false:=by rfl):PS X (.Expr e pos) (ztr te):=by
 intro pins s σ H D I h
 exact wpAny_Expr_any (thn (he pins s σ H _ I h) λ v s1 ⟨x,H1,I1,r1,q1⟩=>⟨σ,H1,I1,q1⟩) I.quiet hs
def tRet (te:TE):TS:=λ D σ H=>te σ H D.rt
theorem zaw (he:PE X e te):PS X (.Return (some e) pos) (tRet te):=by
 intro pins s σ H D I h
 exact wpAny_Return_some (thn (he pins s σ H _ I h) λ v s1 ⟨x,H1,I1,r1,q1⟩=>⟨x,σ,H1,I1,r1,q1⟩)
def tIfS (c:TT) (t u:TS):TS:=λ D σ H=>c σ H λ b H1=>if b=true then t D σ H1 else u D σ H1
theorem zbE {c:Expr} {a b:List Stmt} {tc:TT} (hc:PT X c tc) (ha:PSs X a t) (hb:PSs X b u):PS X (.If c a b pos) (tIfS tc t u):=by
 intro pins s σ H D I h
 refine wpAny_If (thn (hc pins s σ H _ I h) λ d s1 ⟨H1,I1,q1⟩=>?_)
 cases d with
 | true=>exact ha pins s1 σ H1 D I1 q1
 | false=>exact hb pins s1 σ H1 D I1 q1
end
abbrev TG:=V->St->Hp->(St->Hp->Prop)->Prop
abbrev TGs:=List V->St->Hp->(St->Hp->Prop)->Prop
def PG (X:Cx) (target:Expr) (t:TG):Prop :=
 ∀ (pins:List (Addr×Obj)) (s:Shared) (σ:St) (H:Hp) (v:V) (u:Value) (Q:St->Hp->Prop),Inv X pins σ H s->RelV v u->t v σ H Q ->
  wpAny (model X.prog X.w) X.A (assign target X.env u) (λ _ s'=>∃ σ' H',Inv X pins σ' H' s'/\Q σ' H') X.xe s
def PGs (X:Cx) (ts:List Expr) (t:TGs):Prop :=
 ∀ (pins:List (Addr×Obj)) (s:Shared) (σ:St) (H:Hp) (vs:List V) (us:List Value) (Q:St->Hp->Prop),Inv X pins σ H s->Vals vs us->t vs σ H Q ->
  wpAny (model X.prog X.w) X.A (assignInOrder ((assignEach ts X.env).map (·.2)) us) (λ _ s'=>∃ σ' H',Inv X pins σ' H' s'/\Q σ' H') X.xe s
section
variable {X:Cx} {pos:Pos}
def zps (i:Nat):TG:=λ v σ H Q=>Q (σ.set i (some v)) H
theorem zaL {i:Nat} {x:Str} (hN:X.N.Nodup) (hi:X.N[i]?=some x) (hx:Loc X.env.scope x) (hf:X.fn x=true\/X.env.scope.names.lookup x=some .local:=by first | exact .inl rfl | exact .inr rfl | assumption):PG X (.Name x pos) (zps i):=by
 intro pins s σ H v u Q I r h
 exact wpAny_assign_Name (zmT I hN hi hx r (λ s' I'=>⟨_,H,I',h⟩) hf)
def gNil:TGs:=λ vs σ H Q=>vs=[]/\Q σ H
def ztO (t:TG) (u:TGs):TGs:=λ vs σ H Q=>∃ v r,vs=v::r/\t v σ H λ σ' H'=>u r σ' H' Q
theorem zhr:PGs X [] gNil:=by
 intro pins s σ H vs us Q I r h
 obtain ⟨e,h⟩:=h
 subst e
 cases r
 exact assignInOrder_nil ⟨σ,H,I,h⟩
theorem zbJ {e:Expr} {es:List Expr} {t:TG} {u:TGs} (h1:PG X e t) (h2:PGs X es u)
  (hs:(assignEach (e::es) X.env).map (·.2)=assign e X.env::(assignEach es X.env).map (·.2):=by rfl):PGs X (e::es) (ztO t u):=by
 intro pins s σ H vs us Q I r h
 obtain ⟨v,vr,e1,h⟩:=h
 subst e1
 cases r with
 | cons r rr =>
  rw [hs]
  refine assignInOrder_cons (thn (h1 pins s σ H _ _ _ I r h) λ _ s1 ⟨σ1,H1,I1,q1⟩=>?_)
  exact h2 pins s1 σ1 H1 _ _ Q I1 rr q1
def gTup (K:PySem.W.Frag) (n:Nat) (t:TGs):TG:=λ v σ H Q=>∃ a xs,v=.ref a/\SqT K H a xs/\xs.length=n/\t xs σ H Q
theorem zm2 {es:List Expr} {k:Nat} {t:TGs} {n:Nat} (hc:X.calm=true) (h:PGs X es t)
  (hn:(assignEach es X.env).length=n:=by rfl) (hst:(assignEach es X.env).findIdx? (·.1)=none:=by rfl):PG X (.Tuple es k pos) (gTup X.K n t):=by
 intro pins s σ H v u Q I r hw
 obtain ⟨a,xs,e1,hq,hl,hw⟩:=hw
 subst e1
 cases r
 obtain ⟨its,rv,ht,hz⟩:=I.tuple hq
 refine assign_Tuple_tuple (I.ok.hd hc) ht (by simp [hn,<-hl,rv.length]) hst λ h' hx=>?_
 have I1:Inv X pins σ H { s with heap:=h' }:=I.kept (t':=s.toks) λ b o e=>hx b o (Nat.ne_of_lt (Heap.lt_size e)) e
 exact h pins _ σ H xs _ Q I1 (by simpa using rv) hw
def tAsg (te:TE) (g:TG):TS:=λ D σ H=>te σ H λ x H1=>g x σ H1 D.nx
theorem zaM {i:Nat} {x:Str} {e:Expr} {te:TE} {pos':Pos} (hN:X.N.Nodup) (hi:X.N[i]?=some x) (hx:Loc X.env.scope x) (he:PE X e te) (hs:swapsWith e (some (.Name x pos')) pos.line X.env=pure false:=by rfl) (hf:X.fn x=true\/X.env.scope.names.lookup x=some .local:=by first | exact .inl rfl | exact .inr rfl | assumption) :
  PS X (.Assign [.Name x pos'] e pos) (tAsg te (zps i)):=by
 intro pins s σ H D I h
 refine wpAny_Assign_Name (thn (he pins s σ H _ I h) λ v s1 ⟨y,H1,I1,r1,q1⟩=>?_) hs
 exact zmT I1 hN hi hx r1 (λ s2 I2=>⟨_,H1,I2,q1⟩) hf
end
section
variable {X:Cx} {pos:Pos}
def zsi (c:TT) (tb:TS):TS:=λ D σ H=>∃ W:Nat->St->Hp->Prop,(∃ m,W m σ H)/\∀ m σ H,W m σ H ->
 c σ H λ b H1=>if b=true then ∃ N:St->Hp->Prop,(∀ σ' H',N σ' H'->∃ m',m' < m/\W m' σ' H')/\tb { D with nx:=N,ct:=N,bk:=D.nx } σ H1 else D.nx σ H1
theorem zg2 {c:Expr} {body:List Stmt} {tc:TT} {tb:TS} (hp:PassesOwn (model X.prog X.w) X.A X.env X.xe) (hc:PT X c tc) (hb:PSs X body tb):PS X (.While c body [] pos) (zsi tc tb):=by
 intro pins s σ H D I h
 obtain ⟨W,⟨m0,w0⟩,turn⟩:=h
 refine wpAny_While (codeAny_whileLoop (λ n s'=>∃ σ' H',Inv X pins σ' H' s'/\W n σ' H') ?_ m0 ⟨σ,H,I,w0⟩)
 rintro n s1 ⟨σ1,H1,I1,w1⟩
 refine wpAny_passesOwn hp (thn (hc pins s1 σ1 H1 _ I1 (turn n σ1 H1 w1)) λ b s2 ⟨H2,I2,q2⟩=>?_)
 cases b with
 | true =>
  obtain ⟨N,hN,q2⟩:=q2
  rw [if_pos rfl]
  refine wpAny_passesOwn hp (thn (hb pins s2 σ1 H2 _ I2 q2) λ f s3 q3=>?_)
  cases f with
  | next =>
   obtain ⟨σ3,H3,I3,n3⟩:=q3
   obtain ⟨m',hm,w3⟩:=hN σ3 H3 n3
   exact ⟨m',hm,σ3,H3,I3,w3⟩
  | cont =>
   obtain ⟨σ3,H3,I3,n3⟩:=q3
   obtain ⟨m',hm,w3⟩:=hN σ3 H3 n3
   exact ⟨m',hm,σ3,H3,I3,w3⟩
  | brk=>exact q3
  | ret v=>exact q3
 | false =>
  rw [if_neg Bool.false_ne_true]
  exact wpAny_execs_nil ⟨σ1,H2,I2,q2⟩
end
structure It where
 go:Nat->Hp->Prop
 yld:Nat->Hp->V->Hp->Prop
 stop:Nat->Hp->Prop
def FpOk (X:Cx) (pins:List (Addr×Obj)) (H:Hp) (b:Addr):Prop :=
 H b=none/\b≠X.env.locals/\b∉X.fs/\(b∈X.ex\/X.s₀.heap.objs.size<=b)/\(∀ x c,X.env.cells.lookup x=some c->c≠b)/\∀ p∈X.pn++pins,p.1≠b
theorem Inv.fpOk {X:Cx} {pins:List (Addr×Obj)} {σ:St} {H H':Hp} {s:Shared} {b:Addr} (I:Inv X pins σ H s) (hb:s.heap.objs.size<=b) (hn:H' b=none):FpOk X pins H' b:=by
 refine ⟨hn,Nat.ne_of_gt (Nat.lt_of_lt_of_le I.lt hb),I.nofs hb,.inr (Nat.le_trans I.sz hb),λ x c e z=>?_,λ p hp z=>?_⟩
 . obtain ⟨v,q⟩:=I.cell x c e
   exact absurd (Nat.lt_of_lt_of_le q.lt (by rw [z]; exact hb)) (Nat.lt_irrefl _)
 . exact absurd (Nat.lt_of_lt_of_le (Heap.lt_size (I.pin p hp).1) (by rw [z]; exact hb)) (Nat.lt_irrefl _)
structure Turn (P:Program) (w:World) (K:PySem.W.Frag) (tg:Expr) (J:It) (fp:List Addr) (it:Addr) (tn:Nat->Heap->Prop):Prop where
 mem:it∈fp
 obj:∀ i h,tn i h->∀ b∈fp,∃ o,h.get? b=some o/\∀ v,o.data≠.cell v
 keep:∀ i h h',tn i h->(∀ b∈fp,∀ o,h.get? b=some o->h'.get? b=some o)->tn i h'
 item:∀ (X:Cx),X.prog=P->X.w=w->X.K=K->X.calm=true->∀ (i:Nat) (pins:List (Addr×Obj)) (s:Shared) (σ:St) (H:Hp) (E:Value->Shared->Prop),Inv X pins σ H s->(∀ b∈fp,FpOk X pins H b)->tn i s.heap->J.go i H ->
  wpAny (model P w) X.A (pyNext (.ref it)) (λ r s1=>∃ u,r=some u /\
   wpAny (model P w) X.A (letOwnedTupleGo tg (.ref it) u) (λ _ s2=>∃ x H',Inv X pins σ H' s2/\RelV x u/\J.yld i H x H'/\tn (i+1) s2.heap/\∀ b∈fp,H' b=none) E s1) E s
 done:∀ (X:Cx),X.prog=P->X.w=w->X.K=K->X.calm=true->∀ (i:Nat) (pins:List (Addr×Obj)) (s:Shared) (σ:St) (H:Hp) (E:Value->Shared->Prop),Inv X pins σ H s->(∀ b∈fp,FpOk X pins H b)->tn i s.heap->J.stop i H ->
  wpAny (model P w) X.A (pyNext (.ref it)) (λ r s1=>r=none/\Inv X pins σ H s1) E s
 self:∀ (A:Around) (i:Nat) (s:Shared) (Q:Value->Shared->Prop) (E:Value->Shared->Prop),tn i s.heap->Q (.ref it) s->wpAny (model P w) A (pyIter (.ref it)) Q E s
abbrev TI:=St->Hp->(It->Hp->Prop)->Prop
def PIE (X:Cx) (pins:List (Addr×Obj)) (σ:St) (tg:Expr) (R:It->Hp->Prop) (itv:Value) (s2:Shared):Prop :=
 ∃ (it:Addr) (fp:List Addr) (tn:Nat->Heap->Prop) (J:It) (H':Hp),itv=.ref it/\Inv X pins σ H' s2/\Turn X.prog X.w X.K tg J fp it tn/\tn 0 s2.heap/\(∀ b∈fp,FpOk X pins H' b)/\R J H'
def PI (X:Cx) (tg iter:Expr) (wi:TI):Prop :=
 ∀ (pins:List (Addr×Obj)) (s:Shared) (σ:St) (H:Hp) (R:It->Hp->Prop),Inv X pins σ H s->wi σ H R ->
  wpAny (model X.prog X.w) X.A (eval iter X.env) (λ v s1=>wpAny (model X.prog X.w) X.A (pyIter v) (PIE X pins σ tg R) X.xe s1) X.xe s
theorem zqH {M:Model} {A:Around} {E:Value->Shared->Prop} {s:Shared} {tg:Expr} {it:Addr} {u:Value} {o:Obj} {n:String} {vs:Array Value} {Q:Unit->Shared->Prop} (ho:s.heap.get? it=some o) (hc:o.cls=.type n) (hd:o.data=.fields vs)
    (hn:["enumerate","zip","dict_itemiterator","dict_reverseitemiterator","odict_iterator","itertools.zip_longest","itertools.pairwise"].contains n=false) (hQ:Q () s):wpAny M A (letOwnedTupleGo tg (.ref it) u) Q E s:=by
  unfold letOwnedTupleGo
  cases tg <;> first
    | exact wpAny_pure hQ
    | (cases u <;> first
        | exact wpAny_pure hQ
        | (refine wpAny_bind (wpAny_load ho ?_)
           rw [hc,hd]
           show wpAny M A (if (["enumerate","zip","dict_itemiterator","dict_reverseitemiterator","odict_iterator","itertools.zip_longest","itertools.pairwise"].contains n && vs[0]? == some (rawInt _))=true then _ else _) Q E s
           rw [if_neg (by intro h; rw [hn,Bool.false_and] at h; cases h)]
           exact wpAny_pure hQ))
def Itl (K:PySem.W.Frag) (a:Addr):It :=
 ⟨λ i H=>∃ xs x,SqL K H a xs/\xs[i]?=some x,λ i H x H'=>H'=H/\∀ xs,SqL K H a xs->xs[i]?=some x,λ i H=>∃ xs,SqL K H a xs/\xs.length<=i⟩
def Itt (K:PySem.W.Frag) (a:Addr):It :=
 ⟨λ i H=>∃ xs x,SqT K H a xs/\xs[i]?=some x,λ i H x H'=>H'=H/\∀ xs,SqT K H a xs->xs[i]?=some x,λ i H=>∃ xs,SqT K H a xs/\xs.length<=i⟩
def Itr (lo:Int) (n:Nat):It:=⟨λ i _=>i < n,λ i H x H'=>H'=H/\x=.int (lo+i),λ i _=>n<=i⟩
theorem zop {P:Program} {w:World} {K:PySem.W.Frag} {tg:Expr} (a it:Addr):Turn P w K tg (Itl K a) [it] it (λ i h=>h.IsListIter it a i) where
 mem:=by simp
 obj:=λ i h st b hb=>by
  have e:b=it:=by simpa using hb
  subst e
  obtain ⟨o,e,c,d⟩:=st
  exact ⟨o,e,λ v z=>by rw [d] at z; cases z⟩
 keep:=λ i h h' st k=>st.at λ o e=>k it (by simp) o e
 item:=by
  intro X hP hw hK hc i pins s σ H E I hf st hg
  subst hP hw hK
  obtain ⟨xs,x,hq,hx⟩:=hg
  obtain ⟨its,rv,p,hz⟩:=I.list hq
  obtain ⟨u,hu,ru⟩:=rv.get hx
  obtain ⟨f0,f1,f2,f3,f4,f5⟩:=hf it (by simp)
  refine wpAny_pyNext_list_item st p.isList (x:=u) (by simpa using hu) λ h' st' sb=>?_
  have I1:Inv X pins σ H { s with heap:=h' }:=I.turned (t':=s.toks) (λ b o hb e=>(sb.2 b hb).trans e) f0 f1 f3 f4 f5
  obtain ⟨o,e,c,d⟩:=id st'
  exact ⟨u,rfl,zqH (s:={ s with heap:=h' }) e c d (by decide) ⟨x,H,I1,ru,⟨rfl,λ ys hy=>by rw [I.zqx hy hq]; exact hx⟩,st',λ b hb=>(hf b hb).1⟩⟩
 done:=by
  intro X hP hw hK hc i pins s σ H E I hf st hg
  subst hP hw hK
  obtain ⟨xs,hq,hx⟩:=hg
  obtain ⟨its,rv,p,hz⟩:=I.list hq
  obtain ⟨f0,f1,f2,f3,f4,f5⟩:=hf it (by simp)
  have hl:=rv.length
  exact wpAny_pyNext_list_end (I.ok.hd hc) st p.isList (by simp; omega) λ h' eb=>⟨rfl,I.turned (t':=s.toks) (λ b o hb e=>eb b o hb e) f0 f1 f3 f4 f5⟩
 self:=λ _ _ _ _ _ st h=>wpAny_pyIter_listiter st h
theorem znx {P:Program} {w:World} {K:PySem.W.Frag} {tg:Expr} (a it:Addr):Turn P w K tg (Itt K a) [it] it (λ i h=>h.IsTupleIter it a i) where
 mem:=by simp
 obj:=λ i h st b hb=>by
  have e:b=it:=by simpa using hb
  subst e
  obtain ⟨o,e,c,d⟩:=st
  exact ⟨o,e,λ v z=>by rw [d] at z; cases z⟩
 keep:=λ i h h' st k=>st.at λ o e=>k it (by simp) o e
 item:=by
  intro X hP hw hK hc i pins s σ H E I hf st hg
  subst hP hw hK
  obtain ⟨xs,x,hq,hx⟩:=hg
  obtain ⟨its,rv,p,hz⟩:=I.tuple hq
  obtain ⟨u,hu,ru⟩:=rv.get hx
  obtain ⟨f0,f1,f2,f3,f4,f5⟩:=hf it (by simp)
  refine wpAny_pyNext_tuple_item st (show s.heap.IsTuple a its.toArray from p) (x:=u) (by simpa using hu) λ h' st' sb=>?_
  have I1:Inv X pins σ H { s with heap:=h' }:=I.turned (t':=s.toks) (λ b o hb e=>(sb.2 b hb).trans e) f0 f1 f3 f4 f5
  obtain ⟨o,e,c,d⟩:=id st'
  exact ⟨u,rfl,zqH (s:={ s with heap:=h' }) e c d (by decide) ⟨x,H,I1,ru,⟨rfl,λ ys hy=>by rw [I.zor hy hq]; exact hx⟩,st',λ b hb=>(hf b hb).1⟩⟩
 done:=by
  intro X hP hw hK hc i pins s σ H E I hf st hg
  subst hP hw hK
  obtain ⟨xs,hq,hx⟩:=hg
  obtain ⟨its,rv,p,hz⟩:=I.tuple hq
  obtain ⟨f0,f1,f2,f3,f4,f5⟩:=hf it (by simp)
  have hl:=rv.length
  exact wpAny_pyNext_tuple_end (I.ok.hd hc) st (show s.heap.IsTuple a its.toArray from p) (by simp; omega) λ h' eb=>⟨rfl,I.turned (t':=s.toks) (λ b o hb e=>eb b o hb e) f0 f1 f3 f4 f5⟩
 self:=λ _ _ _ _ _ st h=>wpAny_pyIter_tupleiter st h
theorem zny {P:Program} {w:World} {K:PySem.W.Frag} {tg:Expr} (it:Addr) (lo:Int) (n:Nat):Turn P w K tg (Itr lo n) [it] it (λ i h=>IsRangeIter h it (lo+(i:Nat) * 1) ((n:Int) - (i:Nat)) 1) where
 mem:=by simp
 obj:=λ i h st b hb=>by
  have e:b=it:=by simpa using hb
  subst e
  exact ⟨_,st,λ v z=>by
   have z':Data.fields _=Data.cell v:=z
   cases z'⟩
 keep:=λ i h h' st k=>k it (by simp) _ st
 item:=by
  intro X hP hw hK hc i pins s σ H E I hf st hg
  subst hP hw hK
  obtain ⟨f0,f1,f2,f3,f4,f5⟩:=hf it (by simp)
  have W:=Walks.range (prog:=X.prog) (w:=X.w) (I.ok.hd hc) it lo 1 n
  refine W.item i s _ _ hg st λ v h' tk hv st' kk=>?_
  obtain ⟨t,rfl⟩:=hv
  have I1:Inv X pins σ H { s with heap:=h',toks:=tk }:=I.turned (λ b o hb e=>kk b o (by simpa using hb) e) f0 f1 f3 f4 f5
  refine ⟨_,rfl,zqH (s:={ s with heap:=h',toks:=tk }) (n := "range_iterator") st' rfl rfl (by decide) ⟨.int (lo+i),H,I1,⟨t,?_⟩,⟨rfl,rfl⟩,st',λ b hb=>(hf b hb).1⟩⟩
  rw [Int.mul_one]
 done:=by
  intro X hP hw hK hc i pins s σ H E I hf st hg
  subst hP hw hK
  obtain ⟨f0,f1,f2,f3,f4,f5⟩:=hf it (by simp)
  exact wpAny_pyNext_range_end (I.ok.hd hc) st (by have:n<=i:=hg; omega) λ h' eb=>⟨rfl,I.turned (t':=s.toks) (λ b o hb e=>eb b o hb e) f0 f1 f3 f4 f5⟩
 self:=λ _ _ _ _ _ st h=>wpAny_pyIter_rangeiter st h
end L2
namespace L2
open PySem PySem.Spec PyProof.Rows
section
variable {X:Cx} {tg:Expr}
def zs3 (K:PySem.W.Frag) (tl:TE):TI:=λ σ H R=>tl σ H λ x H1=>∃ a,x=.ref a/\(∃ xs,SqL K H1 a xs)/\R (Itl K a) H1
def iTup (K:PySem.W.Frag) (tl:TE):TI:=λ σ H R=>tl σ H λ x H1=>∃ a,x=.ref a/\(∃ xs,SqT K H1 a xs)/\R (Itt K a) H1
theorem zdg {l:Expr} {tl:TE} (hl:PE X l tl):PI X tg l (zs3 X.K tl):=by
 intro pins s σ H R I h
 refine thn (hl pins s σ H _ I h) λ v s1 ⟨x,H1,I1,r1,q1⟩=>?_
 obtain ⟨a,e,⟨xs,hq⟩,q⟩:=q1
 subst e
 cases r1
 obtain ⟨its,rv,p,hz⟩:=I1.list hq
 refine wpAny_pyIter_list p.isList ?_
 refine ⟨s1.heap.objs.size,[s1.heap.objs.size],_,_,H1,rfl,I1.kept (t':=s1.toks) λ b o e=>Heap.get?_push_of_some _ e,zop a _,⟨_,Heap.get?_push_size _ rfl,rfl,rfl⟩,λ b hb=>?_,q⟩
 have e:b=s1.heap.objs.size:=by simpa using hb
 subst e
 exact I1.fpOk (Nat.le_refl _) (I1.hok.fresh (Nat.le_refl _))
theorem ziL {l:Expr} {tl:TE} (hl:PE X l tl):PI X tg l (iTup X.K tl):=by
 intro pins s σ H R I h
 refine thn (hl pins s σ H _ I h) λ v s1 ⟨x,H1,I1,r1,q1⟩=>?_
 obtain ⟨a,e,⟨xs,hq⟩,q⟩:=q1
 subst e
 cases r1
 obtain ⟨its,rv,p,hz⟩:=I1.tuple hq
 refine wpAny_pyIter_tuple (show s1.heap.IsTuple a its.toArray from p) ?_
 refine ⟨s1.heap.objs.size,[s1.heap.objs.size],_,_,H1,rfl,I1.kept (t':=s1.toks) λ b o e=>Heap.get?_push_of_some _ e,znx a _,⟨_,Heap.get?_push_size _ rfl,rfl,rfl⟩,λ b hb=>?_,q⟩
 have e:b=s1.heap.objs.size:=by simpa using hb
 subst e
 exact I1.fpOk (Nat.le_refl _) (I1.hok.fresh (Nat.le_refl _))
theorem zqe {pins:List (Addr×Obj)} {σ:St} {H:Hp} {s:Shared} {R:It->Hp->Prop} {E:Value->Shared->Prop} {lo hi:Int} {t u v:Tok} {tk:Nat} (I:Inv X pins σ H s) (h1:-(2 ^ 62)<=lo) (h2:lo < 2 ^ 62) (h3:-(2 ^ 62)<=hi) (h4:hi < 2 ^ 62)
   (q:R (Itr lo (hi - lo).toNat) H):wpAny (model X.prog X.w) X.A (pyIter (.ref s.heap.objs.size)) (PIE X pins σ tg R) E { s with heap:=s.heap.push { cls:=.type "range",data:=.fields #[.int lo t,.int hi u,.int 1 v] },toks:=tk }:=by
 refine wpAny_pyIter_range (IsRange.new ..) (small_one h1 h2 h3 h4) ?_
 have I1:Inv X pins σ H { s with heap:=s.heap.push { cls:=.type "range",data:=.fields #[.int lo t,.int hi u,.int 1 v] },toks:=tk }:=I.kept λ b o e=>Heap.get?_push_of_some _ e
 refine ⟨(s.heap.push { cls:=.type "range",data:=.fields #[.int lo t,.int hi u,.int 1 v] }).objs.size,[(s.heap.push { cls:=.type "range",data:=.fields #[.int lo t,.int hi u,.int 1 v] }).objs.size],_,_,H,rfl,
   I1.kept (t':=tk) λ b o e=>Heap.get?_push_of_some _ e,zny _ lo (hi - lo).toNat,?_,λ b hb=>?_,q⟩
 . have e1:lo+((0:Nat):Int) * 1=lo:=by simp
   have e2:(((hi - lo).toNat:Nat):Int) - ((0:Nat):Int)=Builtin.Range.rangeSize lo hi 1:=by rw [rangeSize_one]; split <;> omega
   show IsRangeIter _ _ (lo+((0:Nat):Int) * 1) ((((hi - lo).toNat:Nat):Int) - ((0:Nat):Int)) 1
   rw [e1,e2]
   exact Heap.get?_push_size _ rfl
 . have e:b=(s.heap.push { cls:=.type "range",data:=.fields #[.int lo t,.int hi u,.int 1 v] }).objs.size:=by simpa using hb
   subst e
   exact I1.fpOk (Nat.le_refl _) (I1.hok.fresh (Nat.le_refl _))
def ztK (ta:TA):TI:=λ σ H R=>ta σ H λ vs H1=>∃ j:Int,vs=[.int j]/\-(2 ^ 62)<=j/\j < 2 ^ 62/\R (Itr 0 j.toNat) H1
theorem zdo {a:Expr} {ta:TA} {p pos:Pos} (hg:Gl X "range") (hm:X.mg "range" = none) (ha:PA X [a] ta) (hs:starEach [a] X.env=[(false,eval a X.env)]:=by rfl):PI X tg (.Call (.Name "range" p) [a] [] pos) (ztK ta):=by
 intro pins s σ H R I h
 refine Call_ (zng I hg hm boot_range (PyProof.Rows.callWith_type1 (thn (ha pos pins s σ H _ I h) λ us s1 ⟨vs,H1,I1,r1,q1⟩=>?_) hs rfl))
 obtain ⟨j,e,q1,q2,q⟩:=q1
 subst e
 cases r1 with
 | cons r rr =>
  cases rr
  obtain ⟨t,rfl⟩:=r
  exact call_range_1 (zqe I1 (by omega) (by omega) q1 q2 (by simpa using q))
def tFor (wi:TI) (g:TG) (tb:TS):TS:=λ D σ H=>wi σ H λ J H1=>∃ W:Nat->Nat->St->Hp->Prop,(∃ m,W 0 m σ H1)/\∀ i m σ H,W i m σ H ->
 (J.stop i H/\D.nx σ H)\/(J.go i H/\∃ N:St->Hp->Prop,(∀ σ' H',N σ' H'->∃ m',m' < m/\W (i+1) m' σ' H')/\∀ x H',J.yld i H x H'->g x σ H' λ σ2 H2=>tb { D with nx:=N,ct:=N,bk:=D.nx } σ2 H2)
def zkz (fp:List Addr) (h:Heap):List (Addr×Obj):=fp.filterMap λ b=>(h.get? b).map λ o=>(b,o)
theorem zgb {fp:List Addr} {h:Heap} {b:Addr} {o:Obj} (hb:b∈fp) (e:h.get? b=some o):(b,o)∈zkz fp h:=List.mem_filterMap.mpr ⟨b,hb,by rw [e]; rfl⟩
theorem zoV {fp:List Addr} {h:Heap} {p:Addr×Obj} (hp:p∈zkz fp h):p.1∈fp/\h.get? p.1=some p.2:=by
 obtain ⟨b,hb,e⟩:=List.mem_filterMap.mp hp
 cases q:h.get? b with
 | none=>rw [q] at e; cases e
 | some o =>
  rw [q] at e
  have e':(b,o)=p:=Option.some.inj e
  subst e'
  exact ⟨hb,q⟩
theorem Inv.pinned {pins:List (Addr×Obj)} {σ:St} {H:Hp} {s:Shared} {fp:List Addr} (I:Inv X pins σ H s) (hf:∀ b∈fp,FpOk X pins H b) (ho:∀ b∈fp,∃ o,s.heap.get? b=some o/\∀ v,o.data≠.cell v):Inv X (pins++zkz fp s.heap) σ H s :=
 I.zhp λ p hp=>(List.mem_append.mp hp).elim (λ z=>I.pin p (List.mem_append_right _ z)) λ z=>by
  obtain ⟨hb,e⟩:=zoV z
  obtain ⟨f0,f1,f2,_⟩:=hf p.1 hb
  obtain ⟨o,e',d⟩:=ho p.1 hb
  rw [e] at e'; cases e'
  exact ⟨e,f0,f1,f2,d⟩
theorem Inv.zjb {pins pl:List (Addr×Obj)} {σ:St} {H:Hp} {s:Shared} (I:Inv X (pins++pl) σ H s):Inv X pins σ H s:=I.zhp λ p hp=>I.pin p (List.mem_append_right _ (List.mem_append_left _ hp))
theorem zdn {iter:Expr} {body:List Stmt} {wi:TI} {g:TG} {tb:TS} {pos:Pos} (hp:PassesOwn (model X.prog X.w) X.A X.env X.xe) (hc:X.calm=true) (hi:PI X tg iter wi) (hg:PG X tg g) (hb:PSs X body tb)
   (hs:∀ x,foldedSetIterable iter X.env x=pure x:=by intro _; rfl):PS X (.For tg iter body [] pos) (tFor wi g tb):=by
 intro pins s σ H D I h
 refine wpAny_For (thn (hi pins s σ H _ I h) λ v s1 h1=>thn h1 λ itv s2 h2=>?_) hs
 obtain ⟨it,fp,tn,J,H2,e,I2,T,st2,f2,W,⟨m0,w0⟩,turn⟩:=h2
 subst e
 have stat:∀ {H':Hp},(∀ b∈fp,H' b=none)->∀ b∈fp,FpOk X pins H' b:=λ hn b hb=>⟨hn b hb,(f2 b hb).2⟩
 refine codeAny_forLoop_any (λ n s'=>∃ i σ' H',Inv X pins σ' H' s'/\tn i s'.heap/\(∀ b∈fp,H' b=none)/\W i n σ' H') ?_ m0 ⟨0,σ,H2,I2,st2,λ b hb=>(f2 b hb).1,w0⟩
 rintro n s3 ⟨i,σ3,H3,I3,st3,fr3,w3⟩
 rcases turn i n σ3 H3 w3 with ⟨stop,qn⟩ | ⟨go,N,hN,step⟩
 . refine wpAny_passesOwn hp (thn (T.done X rfl rfl rfl hc i pins s3 σ3 H3 X.xe I3 (stat fr3) st3 stop) λ r s4 ⟨hr,I4⟩=>?_)
   subst hr
   exact wpAny_execs_nil ⟨σ3,H3,I4,qn⟩
 . refine wpAny_passesOwn hp (thn (T.item X rfl rfl rfl hc i pins s3 σ3 H3 X.xe I3 (stat fr3) st3 go) λ r s4 ⟨u,hr,h4⟩=>?_)
   subst hr
   refine wpAny_passesOwn hp (thn h4 λ _ s5 ⟨x,H5,I5,r5,y5,st5,fr5⟩=>?_)
   have I5':=I5.pinned (stat fr5) (T.obj _ _ st5)
   refine wpAny_passesOwn hp (thn (hg _ s5 σ3 H5 x u _ I5' r5 (step x H5 y5)) λ _ s6 ⟨σ6,H6,I6,q6⟩=>?_)
   refine wpAny_passesOwn hp (thn (hb _ s6 σ6 H6 _ I6 q6) λ f s7 q7=>?_)
   have again:∀ {σ7:St} {H7:Hp},Inv X (pins++zkz fp s5.heap) σ7 H7 s7->N σ7 H7->∃ m,m < n/\∃ i σ' H',Inv X pins σ' H' s7/\tn i s7.heap/\(∀ b∈fp,H' b=none)/\W i m σ' H':=λ {σ7 H7} I7 n7=>by
    obtain ⟨m',hm,w7⟩:=hN σ7 H7 n7
    refine ⟨m',hm,i+1,σ7,H7,I7.zjb,T.keep _ _ _ st5 λ b hb o e=>(I7.pin (b,o) (List.mem_append_right _ (List.mem_append_right _ (zgb hb e)))).1,λ b hb=>?_,w7⟩
    obtain ⟨o,e,d⟩:=T.obj _ _ st5 b hb
    exact (I7.pin (b,o) (List.mem_append_right _ (List.mem_append_right _ (zgb hb e)))).2.1
   cases f with
   | next=>obtain ⟨σ7,H7,I7,n7⟩:=q7; exact again I7 n7
   | cont=>obtain ⟨σ7,H7,I7,n7⟩:=q7; exact again I7 n7
   | brk=>obtain ⟨σ7,H7,I7,q7⟩:=q7; exact ⟨σ7,H7,I7.zjb,q7⟩
   | ret v=>obtain ⟨x7,σ7,H7,I7,r7,q7⟩:=q7; exact ⟨x7,σ7,H7,I7.zjb,r7,q7⟩
end
theorem zeC {K:PySem.W.Frag} {a:Addr} {xs:List V} {g:TG} {tb:TS} {D:Ends} {σ:St} {H:Hp} (Pv:Nat->St->Hp->Prop) (h0:Pv 0 σ H) (hl:∀ i σ H,i<=xs.length->Pv i σ H->SqL K H a xs)
   (hs:∀ i x σ H,xs[i]?=some x->Pv i σ H->g x σ H λ σ2 H2=>tb { D with nx:=Pv (i+1),ct:=Pv (i+1),bk:=D.nx } σ2 H2) (hd:∀ σ H,Pv xs.length σ H->D.nx σ H) :
   ∃ W:Nat->Nat->St->Hp->Prop,(∃ m,W 0 m σ H)/\∀ i m σ H,W i m σ H ->
    ((Itl K a).stop i H/\D.nx σ H)\/((Itl K a).go i H/\∃ N:St->Hp->Prop,(∀ σ' H',N σ' H'->∃ m',m' < m/\W (i+1) m' σ' H')/\∀ x H',(Itl K a).yld i H x H'->g x σ H' λ σ2 H2=>tb { D with nx:=N,ct:=N,bk:=D.nx } σ2 H2):=by
 refine ⟨λ i m σ H=>m=xs.length - i/\i<=xs.length/\Pv i σ H,⟨xs.length,by simp,Nat.zero_le _,h0⟩,?_⟩
 rintro i m σ H ⟨rfl,hi,p⟩
 have q:=hl i σ H hi p
 by_cases hlt:i < xs.length
 . refine .inr ⟨⟨xs,xs[i],q,by simp [hlt]⟩,Pv (i+1),λ σ' H' p'=>⟨xs.length - (i+1),by omega,rfl,hlt,p'⟩,λ x H' y=>?_⟩
   obtain ⟨e,y⟩:=y
   subst e
   exact hs i x σ _ (y xs q) p
 . have e:i=xs.length:=by omega
   subst e
   exact .inl ⟨⟨xs,q,Nat.le_refl _⟩,hd σ H p⟩
theorem zjR {K:PySem.W.Frag} {a:Addr} {xs:List V} {g:TG} {tb:TS} {D:Ends} {σ:St} {H:Hp} (Pv:Nat->St->Hp->Prop) (h0:Pv 0 σ H) (hl:∀ i σ H,i<=xs.length->Pv i σ H->SqT K H a xs)
   (hs:∀ i x σ H,xs[i]?=some x->Pv i σ H->g x σ H λ σ2 H2=>tb { D with nx:=Pv (i+1),ct:=Pv (i+1),bk:=D.nx } σ2 H2) (hd:∀ σ H,Pv xs.length σ H->D.nx σ H) :
   ∃ W:Nat->Nat->St->Hp->Prop,(∃ m,W 0 m σ H)/\∀ i m σ H,W i m σ H ->
    ((Itt K a).stop i H/\D.nx σ H)\/((Itt K a).go i H/\∃ N:St->Hp->Prop,(∀ σ' H',N σ' H'->∃ m',m' < m/\W (i+1) m' σ' H')/\∀ x H',(Itt K a).yld i H x H'->g x σ H' λ σ2 H2=>tb { D with nx:=N,ct:=N,bk:=D.nx } σ2 H2):=by
 refine ⟨λ i m σ H=>m=xs.length - i/\i<=xs.length/\Pv i σ H,⟨xs.length,by simp,Nat.zero_le _,h0⟩,?_⟩
 rintro i m σ H ⟨rfl,hi,p⟩
 have q:=hl i σ H hi p
 by_cases hlt:i < xs.length
 . refine .inr ⟨⟨xs,xs[i],q,by simp [hlt]⟩,Pv (i+1),λ σ' H' p'=>⟨xs.length - (i+1),by omega,rfl,hlt,p'⟩,λ x H' y=>?_⟩
   obtain ⟨e,y⟩:=y
   subst e
   exact hs i x σ _ (y xs q) p
 . have e:i=xs.length:=by omega
   subst e
   exact .inl ⟨⟨xs,q,Nat.le_refl _⟩,hd σ H p⟩
theorem zhV {lo:Int} {n:Nat} {g:TG} {tb:TS} {D:Ends} {σ:St} {H:Hp} (Pv:Nat->St->Hp->Prop) (h0:Pv 0 σ H)
   (hs:∀ i σ H,i < n->Pv i σ H->g (.int (lo+i)) σ H λ σ2 H2=>tb { D with nx:=Pv (i+1),ct:=Pv (i+1),bk:=D.nx } σ2 H2) (hd:∀ σ H,Pv n σ H->D.nx σ H) :
   ∃ W:Nat->Nat->St->Hp->Prop,(∃ m,W 0 m σ H)/\∀ i m σ H,W i m σ H ->
    ((Itr lo n).stop i H/\D.nx σ H)\/((Itr lo n).go i H/\∃ N:St->Hp->Prop,(∀ σ' H',N σ' H'->∃ m',m' < m/\W (i+1) m' σ' H')/\∀ x H',(Itr lo n).yld i H x H'->g x σ H' λ σ2 H2=>tb { D with nx:=N,ct:=N,bk:=D.nx } σ2 H2):=by
 refine ⟨λ i m σ H=>m=n - i/\i<=n/\Pv i σ H,⟨n,by simp,Nat.zero_le _,h0⟩,?_⟩
 rintro i m σ H ⟨rfl,hi,p⟩
 by_cases hlt:i < n
 . refine .inr ⟨hlt,Pv (i+1),λ σ' H' p'=>⟨n - (i+1),by omega,rfl,hlt,p'⟩,λ x H' y=>?_⟩
   obtain ⟨e,y⟩:=y
   subst e y
   exact hs i σ _ hlt p
 . have e:i=n:=by omega
   subst e
   exact .inl ⟨Nat.le_refl _,hd σ H p⟩
end L2
namespace L2
open PySem PySem.Spec PyProof.Rows
abbrev R2:=V->V->Hp->VK->Prop
def OpR (X:Cx) (f:Value->Value->Sem Value) (r:R2):Prop :=
 ∀ (pins:List (Addr×Obj)) (s:Shared) (σ:St) (H:Hp) (x y:V) (v u:Value) (Q:VK),Inv X pins σ H s->RelV x v->RelV y u->r x y H Q ->
  wpAny (model X.prog X.w) X.A (f v u) (EP X pins σ Q) X.xe s
def UnR (X:Cx) (f:Value->Sem Value) (r:V->Hp->VK->Prop):Prop :=
 ∀ (pins:List (Addr×Obj)) (s:Shared) (σ:St) (H:Hp) (x:V) (v:Value) (Q:VK),Inv X pins σ H s->RelV x v->r x H Q ->
  wpAny (model X.prog X.w) X.A (f v) (EP X pins σ Q) X.xe s
def ziE (X:Cx) (f:Value) (r:List V->Hp->VK->Prop):Prop :=
 ∀ (pins:List (Addr×Obj)) (s:Shared) (σ:St) (H:Hp) (xs:List V) (us:List Value) (Q:VK),Inv X pins σ H s->Vals xs us->r xs H Q ->
  wpAny (model X.prog X.w) X.A (call f us) (EP X pins σ Q) X.xe s
def tOp (r:R2) (ta tb:TE):TE:=λ σ H Q=>ta σ H λ x H1=>tb σ H1 λ y H2=>r x y H2 Q
def tUn (r:V->Hp->VK->Prop) (ta:TE):TE:=λ σ H Q=>ta σ H λ x H1=>r x H1 Q
def rI (C:Int->Int->Prop) (g:Int->Int->V):R2:=λ x y H Q=>∃ i j,x=.int i/\y=.int j/\C i j/\Q (g i j) H
def rI0 (g:Int->Int->V):R2:=λ x y H Q=>∃ i j,x=.int i/\y=.int j/\Q (g i j) H
def rU (g:Int->V):V->Hp->VK->Prop:=λ x H Q=>∃ i,x=.int i/\Q (g i) H
section
variable {X:Cx} {a b c:Expr} {ta tb tc:TE} {pos:Pos}
theorem binT (ha:PE X a ta) (hb:PE X b tb) {pins:List (Addr×Obj)} {s:Shared} {σ:St} {H:Hp} {R:V->V->Hp->Prop} (I:Inv X pins σ H s)
  (h:ta σ H λ x H1=>tb σ H1 λ y H2=>R x y H2) {Q:Value->Shared->Prop} {f:Value->Value->Sem Value}
  (hf:∀ v u s2 x y H2,Inv X pins σ H2 s2->RelV x v->RelV y u->R x y H2->wpAny (model X.prog X.w) X.A (f v u) Q X.xe s2) :
  wpAny (model X.prog X.w) X.A (eval a X.env) (λ v s₁=>wpAny (model X.prog X.w) X.A (eval b X.env) (λ u s₂=>wpAny (model X.prog X.w) X.A (f v u) Q X.xe s₂) X.xe s₁) X.xe s:=by
 refine thn (ha pins s σ H _ I h) λ v s1 ⟨x,H1,I1,r1,q1⟩=>?_
 refine thn (hb pins s1 σ H1 _ I1 q1) λ u s2 ⟨y,H2,I2,r2,q2⟩=>?_
 exact hf v u s2 x y H2 I2 r1 r2 q2
theorem zcZ {op:Operator} {r:R2} (ho:OpR X (binaryOp op) r) (ha:PE X a ta) (hb:PE X b tb):PE X (.BinOp a op b pos) (tOp r ta tb):=by
 intro pins s σ H Q I h
 exact wpAny_BinOp (binT ha hb I h λ v u s2 x y H2 I2 rx ry q=>ho pins s2 σ H2 x y v u Q I2 rx ry q)
theorem zqk {op:UnaryOp} {r:V->Hp->VK->Prop} (ho:UnR X (unaryOp op) r) (ha:PE X a ta):PE X (.UnaryOp op a pos) (tUn r ta):=by
 intro pins s σ H Q I h
 exact UnaryOp_ (thn (ha pins s σ H _ I h) λ v s1 ⟨x,H1,I1,r1,q1⟩=>ho pins s1 σ H1 x v Q I1 r1 q1)
theorem opI {f:Value->Value->Sem Value} {C:Int->Int->Prop} {g:Int->Int->Int}
  (rule:∀ (i j:Int) (t u:Tok) (s:Shared) (Q:Value->Shared->Prop) (E:Value->Shared->Prop),C i j->Q (.int (g i j) s.toks) { s with toks:=s.toks+1 }->wpAny (model X.prog X.w) X.A (f (.int i t) (.int j u)) Q E s) :
  OpR X f (rI C λ i j=>.int (g i j)):=by
 intro pins s σ H x y v u Q I rx ry h
 obtain ⟨i,j,rfl,rfl,hc,q⟩:=h
 obtain ⟨t,rfl⟩:=rx
 obtain ⟨t',rfl⟩:=ry
 exact rule i j t t' s _ _ hc ⟨.int (g i j),H,I.tok _,⟨_,rfl⟩,q⟩
theorem opI0 {f:Value->Value->Sem Value} {g:Int->Int->Int}
  (rule:∀ (i j:Int) (t u:Tok) (s:Shared) (Q:Value->Shared->Prop) (E:Value->Shared->Prop),Q (.int (g i j) s.toks) { s with toks:=s.toks+1 }->wpAny (model X.prog X.w) X.A (f (.int i t) (.int j u)) Q E s) :
  OpR X f (rI0 λ i j=>.int (g i j)):=by
 intro pins s σ H x y v u Q I rx ry h
 obtain ⟨i,j,rfl,rfl,q⟩:=h
 obtain ⟨t,rfl⟩:=rx
 obtain ⟨t',rfl⟩:=ry
 exact rule i j t t' s _ _ ⟨.int (g i j),H,I.tok _,⟨_,rfl⟩,q⟩
theorem opB0 {f:Value->Value->Sem Value} {g:Int->Int->Bool}
  (rule:∀ (i j:Int) (t u:Tok) (s:Shared) (Q:Value->Shared->Prop) (E:Value->Shared->Prop),Q (.bool (g i j)) s->wpAny (model X.prog X.w) X.A (f (.int i t) (.int j u)) Q E s) :
  OpR X f (rI0 λ i j=>.bl (g i j)):=by
 intro pins s σ H x y v u Q I rx ry h
 obtain ⟨i,j,rfl,rfl,q⟩:=h
 obtain ⟨t,rfl⟩:=rx
 obtain ⟨t',rfl⟩:=ry
 exact rule i j t t' s _ _ ⟨.bl (g i j),H,I,rfl,q⟩
def CDiv (i j:Int):Prop:=0 < j/\j < 1073741824
def CMul (i j:Int):Prop:=(-(2 ^ 64) < i/\i < 2 ^ 64)\/(-(2 ^ 64) < j/\j < 2 ^ 64)
theorem CMul.ok {i j:Int} (h:CMul i j):IntMulOk i j:=by
 rcases h with ⟨h1,h2⟩ | ⟨h1,h2⟩
 . exact .of_left (intBits_le_64 h1 h2)
 . exact .of_right (intBits_le_64 h1 h2)
theorem zhu:OpR X (binaryOp .Add) (rI0 λ i j=>.int (i+j)):=opI0 λ _ _ _ _ _ _ _ q=>add_int q
theorem zq1:OpR X (binaryOp .Sub) (rI0 λ i j=>.int (i - j)):=opI0 λ _ _ _ _ _ _ _ q=>sub_int q
theorem zkD:OpR X (binaryOp .Mult) (rI CMul λ i j=>.int (i * j)):=opI λ _ _ _ _ _ _ _ hc q=>mul_int q hc.ok
theorem zrT:OpR X (binaryOp .FloorDiv) (rI CDiv λ i j=>.int (i / j)):=opI λ i j _ _ _ _ _ hc q=>by
 have h1:(0:Int) < j:=hc.1
 have h2:j < 1073741824:=hc.2
 exact floordiv_int (by omega) (by rw [Int.fdiv_eq_ediv_of_nonneg i (by omega)]; exact q) (.inl (PyProof.noPylong_small (by omega)))
theorem zkE:OpR X (binaryOp .Mod) (rI (λ _ j=>0 < j) λ i j=>.int (i % j)):=opI λ i j _ _ _ _ _ hc q=>by
 have h1:(0:Int) < j:=hc
 exact mod_int' (by omega) (by rw [Int.fmod_eq_emod_of_nonneg i (by omega)]; exact q)
theorem unI {f:Value->Sem Value} {g:Int->Int}
  (rule:∀ (i:Int) (t:Tok) (s:Shared) (Q:Value->Shared->Prop) (E:Value->Shared->Prop),Q (.int (g i) s.toks) { s with toks:=s.toks+1 }->wpAny (model X.prog X.w) X.A (f (.int i t)) Q E s) :
  UnR X f (rU λ i=>.int (g i)):=by
 intro pins s σ H x v Q I rx h
 obtain ⟨i,rfl,q⟩:=h
 obtain ⟨t,rfl⟩:=rx
 exact rule i t s _ _ ⟨.int (g i),H,I.tok _,⟨_,rfl⟩,q⟩
theorem zmQ:UnR X (unaryOp .USub) (rU λ i=>.int (-i)):=unI λ _ _ _ _ _ q=>neg_int q
end
def scal:V->V->Bool
 | .non,.non=>true | .non,.int _=>true | .int _,.non=>true | .non,.bl _=>true | .bl _,.non=>true | .non,.str _=>true | .str _,.non=>true
 | .int _,.int _=>true | .bl _,.bl _=>true | .str _,.str _=>true | .byt _,.byt _=>true
 | .int _,.str _=>true | .str _,.int _=>true | .bl _,.str _=>true | .str _,.bl _=>true
 | _,_=>false
def rEq:R2:=λ x y H Q=>scal x y=true/\Q (.bl (decide (x=y))) H
def rNe:R2:=λ x y H Q=>scal x y=true/\Q (.bl (!decide (x=y))) H
theorem zpF {i j:Int}:decide (V.int i=V.int j)=(i == j):=by
 rw [Bool.eq_iff_iff]
 simp
theorem zrg {i j:Bool}:decide (V.bl i=V.bl j)=(i == j):=by
 rw [Bool.eq_iff_iff]
 simp
theorem zpE {i j:Str}:decide (V.str i=V.str j)=(i == j):=by
 rw [Bool.eq_iff_iff]
 simp
theorem zpG {i j:Array UInt8}:decide (V.byt i=V.byt j)=(i.toList == j.toList):=by
 rw [Bool.eq_iff_iff]
 cases i
 cases j
 simp
section
variable {X:Cx} {a b c:Expr} {ta tb tc:TE} {pos:Pos}
theorem za7 {pins:List (Addr×Obj)} {σ:St} {H:Hp} {s:Shared} {Q:VK} {k k':Bool} (I:Inv X pins σ H s) (q:Q (.bl k) H) (e:k=k'):EP X pins σ Q (.bool k') s:=by
 subst e
 exact ⟨.bl k,H,I,rfl,q⟩
theorem zch:OpR X (compareOp .Eq) rEq:=by
 intro pins s σ H x y v u Q I rx ry h
 obtain ⟨hs,q⟩:=h
 cases x with
 | non =>
  cases rx
  cases y with
  | non=>cases ry; exact PySem.EqNone.eq_none_none (za7 I q (by simp))
  | bl j=>cases ry; exact PySem.EqNone.eq_none_bool (za7 I q (by simp))
  | int j=>obtain ⟨t',rfl⟩:=ry; exact PySem.EqNone.eq_none_int (za7 I q (by simp))
  | str j=>obtain ⟨t',rfl⟩:=ry; exact PySem.EqNone.eq_none_str (za7 I q (by simp))
  | _=>exact absurd (show false=true from hs) Bool.false_ne_true
 | bl i =>
  cases rx
  cases y with
  | non=>cases ry; exact PySem.EqNone.eq_bool_none (za7 I q (by simp))
  | bl j=>cases ry; exact eq_bool (za7 I q zrg)
  | str j=>obtain ⟨t',rfl⟩:=ry; exact PySem.EqMixed.eq_bool_str (za7 I q (by simp))
  | _=>exact absurd (show false=true from hs) Bool.false_ne_true
 | int i =>
  obtain ⟨t,rfl⟩:=rx
  cases y with
  | non=>cases ry; exact PySem.EqNone.eq_int_none (za7 I q (by simp))
  | int j=>obtain ⟨t',rfl⟩:=ry; exact eq_int (za7 I q zpF)
  | str j=>obtain ⟨t',rfl⟩:=ry; exact PySem.EqMixed.eq_int_str (za7 I q (by simp))
  | _=>exact absurd (show false=true from hs) Bool.false_ne_true
 | str i =>
  obtain ⟨t,rfl⟩:=rx
  cases y with
  | non=>cases ry; exact PySem.EqNone.eq_str_none (za7 I q (by simp))
  | bl j=>cases ry; exact PySem.EqMixed.eq_str_bool (za7 I q (by simp))
  | int j=>obtain ⟨t',rfl⟩:=ry; exact PySem.EqMixed.eq_str_int (za7 I q (by simp))
  | str j=>obtain ⟨t',rfl⟩:=ry; exact eq_str (za7 I q zpE)
  | _=>exact absurd (show false=true from hs) Bool.false_ne_true
 | byt i =>
  obtain ⟨t,rfl⟩:=rx
  cases y with
  | byt j=>obtain ⟨t',rfl⟩:=ry; exact PySem.W.eq_bytes (za7 I q zpG)
  | _=>exact absurd (show false=true from hs) Bool.false_ne_true
 | _=>cases y <;> exact absurd (show false=true from hs) Bool.false_ne_true
theorem zlR:OpR X (compareOp .NotEq) rNe:=by
 intro pins s σ H x y v u Q I rx ry h
 obtain ⟨hs,q⟩:=h
 cases x with
 | non =>
  cases rx
  cases y with
  | non=>cases ry; exact PySem.EqNone.ne_none_none (za7 I q (by simp))
  | bl j=>cases ry; exact PySem.EqNone.ne_none_bool (za7 I q (by simp))
  | int j=>obtain ⟨t',rfl⟩:=ry; exact PySem.EqNone.ne_none_int (za7 I q (by simp))
  | str j=>obtain ⟨t',rfl⟩:=ry; exact PySem.EqNone.ne_none_str (za7 I q (by simp))
  | _=>exact absurd (show false=true from hs) Bool.false_ne_true
 | bl i =>
  cases rx
  cases y with
  | non=>cases ry; exact PySem.EqNone.ne_bool_none (za7 I q (by simp))
  | bl j=>cases ry; exact ne_bool (za7 I q (congrArg not zrg))
  | str j=>obtain ⟨t',rfl⟩:=ry; exact PySem.EqMixed.ne_bool_str (za7 I q (by simp))
  | _=>exact absurd (show false=true from hs) Bool.false_ne_true
 | int i =>
  obtain ⟨t,rfl⟩:=rx
  cases y with
  | non=>cases ry; exact PySem.EqNone.ne_int_none (za7 I q (by simp))
  | int j=>obtain ⟨t',rfl⟩:=ry; exact ne_int (za7 I q (congrArg not zpF))
  | str j=>obtain ⟨t',rfl⟩:=ry; exact PySem.EqMixed.ne_int_str (za7 I q (by simp))
  | _=>exact absurd (show false=true from hs) Bool.false_ne_true
 | str i =>
  obtain ⟨t,rfl⟩:=rx
  cases y with
  | non=>cases ry; exact PySem.EqNone.ne_str_none (za7 I q (by simp))
  | bl j=>cases ry; exact PySem.EqMixed.ne_str_bool (za7 I q (by simp))
  | int j=>obtain ⟨t',rfl⟩:=ry; exact PySem.EqMixed.ne_str_int (za7 I q (by simp))
  | str j=>obtain ⟨t',rfl⟩:=ry; exact ne_str (za7 I q (congrArg not zpE))
  | _=>exact absurd (show false=true from hs) Bool.false_ne_true
 | byt i =>
  obtain ⟨t,rfl⟩:=rx
  cases y with
  | byt j=>obtain ⟨t',rfl⟩:=ry; exact PySem.W.ne_bytes (za7 I q (congrArg not zpG))
  | _=>exact absurd (show false=true from hs) Bool.false_ne_true
 | _=>cases y <;> exact absurd (show false=true from hs) Bool.false_ne_true
theorem zlS:OpR X (compareOp .Lt) (rI0 λ i j=>.bl (decide (i < j))):=opB0 λ _ _ _ _ _ _ _ q=>lt_int q
theorem zrS:OpR X (compareOp .Gt) (rI0 λ i j=>.bl (decide (j < i))):=opB0 λ _ _ _ _ _ _ _ q=>gt_int q
theorem ztF:OpR X (compareOp .GtE) (rI0 λ i j=>.bl (decide (j<=i))):=opB0 λ _ _ _ _ _ _ _ q=>ge_int q
theorem zaE (b:Expr) {op:CmpOp} (h:op≠.In:=by decide) (h2:op≠.NotIn:=by decide):behindInMarks op b=false:=by
 have e1:(op == CmpOp.In)=false:=by cases op <;> first | rfl | exact absurd rfl h
 have e2:(op == CmpOp.NotIn)=false:=by cases op <;> first | rfl | exact absurd rfl h2
 cases b <;> simp [behindInMarks,e1,e2]
theorem zcR {op:CmpOp} {r:R2} (ho:OpR X (compareOp op) r) (ha:PE X a ta) (hb:PE X b tb) (hm:behindInMarks op b=false):PE X (.Compare a [op] [b] pos) (tOp r ta tb):=by
 intro pins s σ H Q I h
 exact wpAny_Compare1 (binT ha hb I h λ v u s2 x y H2 I2 rx ry q=>ho pins s2 σ H2 x y v u Q I2 rx ry q) hm
def zrp (t:TE):TT:=λ σ H Q=>t σ H λ x H'=>∃ k,x=.bl k/\Q k H'
theorem zaB {op:CmpOp} {r:R2} (ho:OpR X (compareOp op) r) (ha:PE X a ta) (hb:PE X b tb) (hm:behindInMarks op b=false):PT X (.Compare a [op] [b] pos) (zrp (tOp r ta tb)):=by
 intro pins s σ H Q I h
 refine wpAny_isTrue_Compare1 (thn (ha pins s σ H _ I h) λ v s1 ⟨x,H1,I1,r1,q1⟩=>thn (hb pins s1 σ H1 _ I1 q1) λ u s2 ⟨y,H2,I2,r2,q2⟩ =>
  thn (ho pins s2 σ H2 x y v u _ I2 r1 r2 q2) λ c s3 ⟨z,H3,I3,r3,k,e,q3⟩=>?_) hm
 subst e
 cases r3
 exact wpAny_truthy_bool ⟨H3,I3,q3⟩
theorem znf:(sizeLine:Nat) < 2 ^ 63:=by rw [sizeLine_eq]; decide
theorem ziN:OpR X (binaryOp .Add) (λ x y H Q=>∃ i j,x=.str i/\y=.str j/\i.length+j.length<=sizeLine/\Q (.str (i++j)) H):=by
 intro pins s σ H x y v u Q I rx ry h
 obtain ⟨i,j,rfl,rfl,hz,q⟩:=h
 obtain ⟨t,rfl⟩:=rx
 obtain ⟨t',rfl⟩:=ry
 exact add_str (λ t' tk=>⟨.str (i++j),H,I.tok _,⟨_,rfl⟩,q⟩) hz
theorem vals1 {x:V} {us:List Value} (r:Vals [x] us):∃ u,us=[u]/\RelV x u:=by
 cases r with
 | cons r1 r2=>cases r2; exact ⟨_,rfl,r1⟩
theorem zfN:ziE X (.type "int") (λ xs H Q=>(∃ i,xs=[.int i]/\Q (.int i) H)\/∃ k,xs=[.bl k]/\Q (.int (if k then 1 else 0)) H):=by
 intro pins s σ H xs us Q I r h
 rcases h with ⟨i,rfl,q⟩ | ⟨k,rfl,q⟩
 . obtain ⟨u,rfl,t,rfl⟩:=vals1 r
   exact call_int_int ⟨.int i,H,I,⟨_,rfl⟩,q⟩
 . obtain ⟨u,rfl,r1⟩:=vals1 r
   cases r1
   exact call_int_bool ⟨.int (if k then 1 else 0),H,I.tok _,⟨_,rfl⟩,q⟩
end
end L2
namespace L2
open PySem PySem.Spec PyProof.Rows
structure ObjM (h:Heap) (x dx C:Addr) (mA:Str->Option Value):Prop where
 obj:h.get? x=some (PySem.W.instObj C dx)
 ns:h.Ns1 dx mA
 ne:dx≠x
theorem zo4 {h:Heap} {dx:Addr} {mA:Str->Option Value} (n:h.Ns1 dx mA):∃ od,h.get? dx=some od/\∀ name,PySem.W.lookIn name od=some (mA name):=by
 obtain ⟨o,es,ep,ho,hd,hk,_,hm⟩:=n
 refine ⟨o,ho,λ name=>?_⟩
 have e:=hm name
 unfold nsFind findBy at e
 rw [<-Array.find?_toList] at e
 unfold PySem.W.lookIn
 rw [hd]
 dsimp only
 split
 . rename_i y q
   rw [q] at e
   exact congrArg some e
 . rename_i q
   rw [q] at e
   have a:es.toList.any (·.refKey)=false:=by
    rw [List.any_eq_false]
    intro y hy
    obtain ⟨z,t,hkey⟩:=hk y (Array.mem_toList_iff.mp hy)
    simp [DictEntry.refKey,hkey]
   have a':¬ es.toList.any (·.refKey)=true:=by rw [a]; exact Bool.false_ne_true
   rw [if_neg a']
   exact congrArg some e
theorem ObjM.look {h:Heap} {x dx C:Addr} {mA:Str->Option Value} (I:ObjM h x dx C mA):∃ od,PySem.W.InstAt h x (PySem.W.instObj C dx) C (some od)/\∀ name,PySem.W.lookIn name od=some (mA name) :=
 let ⟨od,ho,hl⟩:=zo4 I.ns
 ⟨od,⟨I.obj,rfl,rfl,ho⟩,hl⟩
section
variable {prog:Program} {w:World} {A:Around} {E:Value->Shared->Prop} {s:Shared} {K:PySem.W.Frag} {x dx C f:Addr} {mA:Str->Option Value} {name:Str} {v:Value}
theorem get_map {expr:Bool} {Q:Value->Shared->Prop} (X:K.In s.heap) (I:ObjM s.heap x dx C mA) (hg:PySem.W.plainGet K C name=true) (hh:PySem.W.hasDictIn K C=true)
  (ha:PySem.W.findIn K (.ref C) name=some none) (hv:mA name=some v) (hv':PySem.W.handedIn v=true) (h:Q v { s with toks:=s.toks+1 }) :
  wpAny (model prog w) A (getAttr (.ref x) name expr) Q E s:=by
 obtain ⟨od,J,hl⟩:=I.look
 exact PySem.W.get_value X J (PySem.W.plainGet_of hg).1 (PySem.W.findObj_own hh ha rfl (by rw [hl,hv])) hv' h
theorem zqI {pl:Sem Bool} {Q:Value×List Value->Shared->Prop} (X:K.In s.heap) (I:ObjM s.heap x dx C mA) (hg:PySem.W.plainGet K C name=true)
  (hf:PySem.W.findIn K (.ref C) name=some (some (.ref f))) (ht:PySem.W.isFn K (.ref f)=true) (hv:mA name=none) (h:Q (.ref f,[.ref x]) s) :
  wpAny (model prog w) A (getMethod (.ref x) name pl) Q E s:=by
 obtain ⟨od,J,hl⟩:=I.look
 exact PySem.W.method_fn X J (PySem.W.plainGet_of hg).1 (PySem.W.plainGet_of hg).2 hf (beq_iff_eq.mp ht) (by show (PySem.W.lookIn name od).map (·.isSome)=some false; rw [hl,hv]; rfl) h
theorem zrH {ns:List Str} {Q:Unit->Shared->Prop} (X:K.In s.heap) (I:ObjM s.heap x dx C mA)
  (hs:PySem.W.findIn K (.ref C) "__setattr__" = some (some (.builtin "object.__setattr__"))) (hp:PySem.W.plainOver K C=true) (ht:PySem.W.takerIn K C name=some none) (hh:PySem.W.hasDictIn K C=true)
  (hw:PySem.Within mA ns) (hsz:ns.length<=sizeLine)
  (h:∀ h',ObjM h' x dx C (λ y=>if y=name then some v else mA y)->Heap.SameBut dx s.heap h'->Q () { s with heap:=h',toks:=s.toks+2 }) :
  wpAny (model prog w) A (setAttr (.ref x) name v) Q E s:=by
 obtain ⟨od,J,hl⟩:=I.look
 refine PySem.W.set_plain X J hs (PySem.W.osa_open (s:={ s with toks:=s.toks+1 }) (r:=none) X J hp ht λ b=>?_)
 obtain ⟨cd,hc,hd'⟩:=PySem.W.any_some hh
 have hx:s.heap.get? x=some ⟨.ref C,some dx,.plain,#[]⟩:=I.obj
 refine wpAny_bind (wpAny_pure (wpAny_bind (wpAny_bind (wpAny_loadPart hx (wpAny_bind (PySem.W.Looks.here (s:={ s with toks:=s.toks+1 }) (PySem.W.looks_clsIn X hc) ?_))))))
 rw [hd']
 refine wpAny_pure (a:=some dx) (wpAny_bind (wpAny_pure (wpAny_bind ?_)))
 refine wpAny_nsSet1 (s:={ s with toks:=s.toks+1 }) I.ns λ h' hn2 hs2=>?_
 obtain ⟨oD,esD,epD,hoD,hdD,hcD⟩:=hn2.count (PySem.Within.cons name v hw)
 refine wpAny_bind (wpAny_lookBehind hoD (by rw [hdD]; exact pastItsLine_dict (Nat.le_trans hcD (by rw [List.length_cons]; omega))) ?_)
 exact wpAny_pure (h _ ⟨(hs2.2 _ (Ne.symm I.ne)).trans I.obj,hn2,I.ne⟩ hs2)
theorem zqv {R:Result->Shared->Prop} {vs:List Value} {kw:List (Str×Value)} (X:K.In s.heap) (hm:PySem.W.makesIn K C=true)
  (hi:PySem.W.findIn K (.ref C) "__init__" = some (some (.ref f))) (hf:PySem.W.typeIn K (.ref f)=some (.type "function"))
  (h:codeAny (model prog w) (A.under (.builtin "type.__call__" ⟨.ref C::vs,kw⟩)) (.call (.ref f) ⟨.ref (s.heap.objs.size+1)::vs,kw⟩) (PySem.W.InitBack (s.heap.objs.size+1) R)
   { s with heap:=(s.heap.push PySem.W.emptyDict).push (PySem.W.instObj C s.heap.objs.size) }) :
  codeAny (model prog w) A (.call (.ref C) ⟨vs,kw⟩) R s:=by
 obtain ⟨hh,g,d,t,os⟩:=s
 exact PySem.W.make_core (PySem.W.makes_of X hm) (PySem.W.looks_findIn X hi) (λ self=>PySem.W.bind_fn X self hf) (.inl rfl) h
end
def putF (f:Str) (v:V):List (Str×V)->List (Str×V)
 | []=>[(f,v)]
 | (g,x)::r=>if g=f then (g,v)::r else (g,x)::putF f v r
theorem zhF (f g:Str) (v:V):∀ fs:List (Str×V),(putF f v fs).lookup g=if g=f then some v else fs.lookup g
 | []=>by
  show List.lookup g [(f,v)]=_
  by_cases h:g=f
  . have hb:(g == f)=true:=beq_iff_eq.mpr h
    simp only [List.lookup,hb,if_pos h]
  . have hb:(g == f)=false:=beq_eq_false_iff_ne.mpr h
    simp only [List.lookup,hb,if_neg h]
 | (k,x)::r=>by
  have ih:=zhF f g v r
  rw [show putF f v ((k,x)::r)=(if k=f then (k,v)::r else (k,x)::putF f v r) from rfl]
  by_cases hk:k=f
  . rw [if_pos hk]
    by_cases h:g=k
    . have hb:(g == k)=true:=beq_iff_eq.mpr h
      simp only [List.lookup,hb,if_pos (h.trans hk)]
    . have hb:(g == k)=false:=beq_eq_false_iff_ne.mpr h
      simp only [List.lookup,hb,if_neg (λ e:g=f=>h (e.trans hk.symm))]
  . rw [if_neg hk]
    by_cases h:g=k
    . have hb:(g == k)=true:=beq_iff_eq.mpr h
      simp only [List.lookup,hb,if_neg (λ e:g=f=>hk (h.symm.trans e))]
    . have hb:(g == k)=false:=beq_eq_false_iff_ne.mpr h
      simp only [List.lookup,hb]
      exact ih
theorem zhK (f:Str) (v:V):∀ fs:List (Str×V),f∈(putF f v fs).map (·.1)/\∀ g,g∈fs.map (·.1)->g∈(putF f v fs).map (·.1)
 | []=>⟨by simp [putF],λ g h=>by simp at h⟩
 | (k,x)::r=>by
  obtain ⟨i1,i2⟩:=zhK f v r
  rw [show putF f v ((k,x)::r)=(if k=f then (k,v)::r else (k,x)::putF f v r) from rfl]
  by_cases hk:k=f
  . rw [if_pos hk]
    subst hk
    exact ⟨by simp,λ g h=>by simpa using h⟩
  . rw [if_neg hk]
    refine ⟨?_,λ g h=>?_⟩
    . rw [List.map_cons]
      exact List.mem_cons_of_mem _ i1
    . rw [List.map_cons] at h ⊢
      rcases List.mem_cons.mp h with e | e
      . exact List.mem_cons.mpr (.inl e)
      . exact List.mem_cons_of_mem _ (i2 g e)
theorem zhJ (f:Str) (v:V):∀ fs:List (Str×V),(putF f v fs).length<=fs.length+1
 | []=>by simp [putF]
 | (k,x)::r=>by
  have ih:=zhJ f v r
  rw [show putF f v ((k,x)::r)=(if k=f then (k,v)::r else (k,x)::putF f v r) from rfl]
  by_cases hk:k=f
  . rw [if_pos hk,List.length_cons,List.length_cons]; omega
  . rw [if_neg hk,List.length_cons,List.length_cons]; omega
theorem RelO.some_of {v:V} {o:Option Value} (r:RelO (some v) o):∃ u,o=some u/\RelV v u:=by
 cases o with
 | none=>exact (show False from r).elim
 | some u=>exact ⟨u,rfl,r⟩
theorem RelO.none_of {o:Option Value} (r:RelO none o):o=none:=by
 cases o with
 | none=>rfl
 | some u=>exact (show False from r).elim
theorem zpm {v:V} {u:Value} (r:RelV v u):PySem.W.handedIn u=true:=by
 cases v with
 | non=>cases (show u=Value.none from r); rfl
 | bl b=>cases (show u=Value.bool b from r); rfl
 | int i=>obtain ⟨t,e⟩:=(show ∃ t,u=Value.int i t from r); cases e; rfl
 | str x=>obtain ⟨t,e⟩:=(show ∃ t,u=Value.str x t from r); cases e; rfl
 | byt b=>obtain ⟨t,e⟩:=(show ∃ t,u=Value.bytes b t from r); cases e; rfl
 | flt b=>obtain ⟨t,e⟩:=(show ∃ t,u=Value.float b t from r); cases e; rfl
 | ref a=>cases (show u=Value.ref a from r); rfl
 | ty n=>cases (show u=Value.type n from r); rfl
section
variable {P:Program} {w:World} {H H':Hp} {h h':Heap} {a C dx:Addr} {fs fs':List (Str×V)}
theorem zjM (hok:HOk P w H h) (e:H a=some (.ins C dx fs)):∃ mA,ObjM h a dx C mA/\(∀ f,RelO (fs.lookup f) (mA f))/\PySem.Within mA (fs.map (·.1))/\fs.length<=1000/\H dx=some (.own a):=by
 obtain ⟨d,z,ne,ob,mA,n,r,q⟩:=(show zbV P w H h a (.ins C dx fs) from hok a _ e)
 exact ⟨mA,⟨ob,n,ne⟩,r,q,z,d⟩
end
structure Cls (K:PySem.W.Frag) (C:Addr):Prop where
 pg:PySem.W.plainGet K C Str.empty=true
 hd:PySem.W.hasDictIn K C=true
 po:PySem.W.plainOver K C=true
 sa:PySem.W.findIn K (.ref C) "__setattr__" = some (some (.builtin "object.__setattr__"))
theorem Cls.get {K:PySem.W.Frag} {C:Addr} (c:Cls K C) (f:Str):PySem.W.plainGet K C f=true:=c.pg
def zb3 (K:PySem.W.Frag) (C:Addr) (f:Str):Prop:=PySem.W.findIn K (.ref C) f=some none
theorem zb3.ztn {K:PySem.W.Frag} {C:Addr} {f:Str} (n:zb3 K C f):PySem.W.takerIn K C f=some none:=by
 unfold PySem.W.takerIn
 rw [show PySem.W.findIn K (.ref C) f=some none from n]
 rfl
structure Meth (K:PySem.W.Frag) (C:Addr) (m:Str) (f:Addr):Prop where
 at_:PySem.W.findIn K (.ref C) m=some (some (.ref f))
 fn:PySem.W.isFn K (.ref f)=true
 kp:PySem.W.keepIn K (.ref f)=true
section
variable {X:Cx} {pins:List (Addr×Obj)} {σ:St} {H:Hp} {s:Shared} {a C dx:Addr} {fs:List (Str×V)} {f:Str} {v:V} {A:Around} {E:Value->Shared->Prop}
theorem zn2 {b:Bool} {Q:Value->Shared->Prop} (I:Inv X pins σ H s) (e:H a=some (.ins C dx fs)) (c:Cls X.K C) (n:zb3 X.K C f) (l:fs.lookup f=some v)
  (h:∀ u s',Inv X pins σ H s'->RelV v u->Q u s'):wpAny (model X.prog X.w) A (getAttr (.ref a) f b) Q E s:=by
 obtain ⟨mA,O,r,_,_,_⟩:=zjM I.hok e
 obtain ⟨u,hu,ru⟩:=RelO.some_of (v:=v) (o:=mA f) (by rw [<-l]; exact r f)
 exact get_map I.kIn O (c.get f) c.hd n hu (zpm ru) (h u _ (I.tok _) ru)
theorem zgh {m:Str} {g:Addr} {pl:Sem Bool} {Q:Value×List Value->Shared->Prop} (I:Inv X pins σ H s) (e:H a=some (.ins C dx fs)) (c:Cls X.K C) (k:Meth X.K C m g) (l:fs.lookup m=none)
  (h:Q (.ref g,[.ref a]) s):wpAny (model X.prog X.w) A (getMethod (.ref a) m pl) Q E s:=by
 obtain ⟨mA,O,r,_,_,_⟩:=zjM I.hok e
 have hn:mA m=none:=RelO.none_of (by rw [<-l]; exact r m)
 exact zqI I.kIn O (c.get m) k.at_ k.fn hn h
theorem znL {y:V} {u:Value} {Q:Unit->Shared->Prop} (I:Inv X pins σ H s) (e:H a=some (.ins C dx fs)) (c:Cls X.K C) (n:zb3 X.K C f) (hl:fs.length < 1000) (ry:RelV y u)
   (h:∀ s',Inv X pins σ (upd H a (.ins C dx (putF f y fs))) s'->Q () s'):wpAny (model X.prog X.w) A (setAttr (.ref a) f u) Q E s:=by
 obtain ⟨mA,O,r,wi,_,ho⟩:=zjM I.hok e
 have hz:(fs.map (·.1)).length<=sizeLine:=by rw [List.length_map,sizeLine_eq]; omega
 refine zrH I.kIn O c.sa c.po n.ztn c.hd wi hz λ h' O' sb=>h _ ?_
 have hd:∃ o,h'.get? dx=some o:=let ⟨o,_,_,e',_⟩:=O'.ns; ⟨o,e'⟩
 refine I.write (x:=a) (e:=dx) (by rw [e]; exact True.intro) (.inr ho) (λ b q hb z=>(sb.2 b hb).trans z) hd ?_
 refine ⟨by rw [zae O.ne]; exact ho,?_,O.ne,O'.obj,_,O'.ns,λ g=>?_,λ g hg=>?_⟩
 . have:=zhJ f y fs; omega
 . show RelO ((putF f y fs).lookup g) (if g=f then some u else mA g)
   rw [zhF]
   by_cases q:g=f
   . rw [if_pos q,if_pos q]; exact ry
   . rw [if_neg q,if_neg q]; exact r g
 . by_cases q:g=f
   . rw [q]; exact (zhK f y fs).1
   . refine (zhK f y fs).2 g (wi g λ z=>hg ?_)
     show (if g=f then some u else mA g)=none
     rw [if_neg q]; exact z
theorem Inv.made (I:Inv X pins σ H s):Inv X pins σ (upd (upd H s.heap.objs.size (.own (s.heap.objs.size+1))) (s.heap.objs.size+1) (.ins C s.heap.objs.size []))
  { s with heap:=(s.heap.push PySem.W.emptyDict).push (PySem.W.instObj C s.heap.objs.size) }:=by
 have e1:(s.heap.push PySem.W.emptyDict).get? s.heap.objs.size=some PySem.W.emptyDict:=Heap.get?_push_size s.heap rfl
 have e2:((s.heap.push PySem.W.emptyDict).push (PySem.W.instObj C s.heap.objs.size)).get? (s.heap.objs.size+1)=some (PySem.W.instObj C s.heap.objs.size):=by
  have:=Heap.get?_push_size (s.heap.push PySem.W.emptyDict) (o:=PySem.W.instObj C s.heap.objs.size) rfl
  rwa [Heap.size_push] at this
 have e3:(s.heap.push PySem.W.emptyDict).Ns s.heap.objs.size (λ _=>none):=⟨PySem.W.emptyDict,#[],_,e1,rfl,(λ e he=>absurd he (by simp)),λ _=>rfl⟩
 have I1:=I.laid (a:=s.heap.objs.size) (o:=.own (s.heap.objs.size+1)) (h':=s.heap.push PySem.W.emptyDict) (t':=s.toks) (λ b u q=>Heap.get?_push_of_some _ q) (Nat.le_refl _) ⟨_,e1⟩
 refine I1.laid (a:=s.heap.objs.size+1) (o:=.ins C s.heap.objs.size []) (t':=s.toks) (λ b u q=>Heap.get?_push_of_some _ q) (Nat.le_of_eq (Heap.size_push _ _)) ?_
 have ne:s.heap.objs.size≠s.heap.objs.size+1:=Nat.ne_of_lt (Nat.lt_succ_self _)
 refine ⟨by rw [zae ne,zab],Nat.zero_le _,ne,e2,λ _=>none,(Heap.Ns1.of_empty e3).at λ o q=>Heap.get?_push_of_some _ q,λ _=>True.intro,λ y hy=>absurd rfl hy⟩
theorem zsb {prog:Program} {w:World} {env:Env} {e:Expr} {f:Str} {pos:Pos} {s:Shared} {Q:Value->Shared->Prop} (hb:attributeBase e f env (eval e env)=eval e env)
  (h:wpAny (model prog w) A (eval e env) (λ o s₁=>wpAny (model prog w) A (getAttr o f true) Q E s₁) E s):wpAny (model prog w) A (eval (.Attribute e f pos) env) Q E s :=
 Attribute_any_ h (by rw [arm_eval_Attribute,hb])
end
def tFld (K:PySem.W.Frag) (ta:TE) (f:Str):TE:=λ σ H Q=>ta σ H λ x H1=>∃ a C dx fs v,x=.ref a/\H1 a=some (.ins C dx fs)/\Cls K C/\zb3 K C f/\fs.lookup f=some v/\Q v H1
def sFld (K:PySem.W.Frag) (ta tv:TE) (f:Str):TS:=λ D σ H=>tv σ H λ y H1=>ta σ H1 λ x H2=>∃ a C dx fs,x=.ref a/\H2 a=some (.ins C dx fs)/\Cls K C/\zb3 K C f/\fs.length < 1000 /\
 D.nx σ (upd H2 a (.ins C dx (putF f y fs)))
section
variable {X:Cx} {o e value:Expr} {f:Str} {pos pos' tpos:Pos} {ta tv:TE}
theorem zao (he:PE X e ta) (hb:attributeBase e f X.env (eval e X.env)=eval e X.env):PE X (.Attribute e f pos) (tFld X.K ta f):=by
 intro pins s σ H Q I h
 refine zsb hb (thn (he pins s σ H _ I h) λ u s1 ⟨x,H1,I1,rx,a,C,dx,fs,v,ex,ea,c,n,l,q⟩=>?_)
 subst ex
 obtain rfl:u=Value.ref a:=rx
 exact zn2 I1 ea c n l λ u' s2 I2 ru=>⟨v,H1,I2,ru,q⟩
theorem zbS (ha:PE X o ta) (hv:PE X value tv) (hs:swapsWith value (some (.Attribute o f pos')) pos.line X.env=pure false):PS X (.Assign [.Attribute o f pos'] value pos) (sFld X.K ta tv f):=by
 intro pins s σ H D I h
 refine plainObj_wpAny_Assign_Attribute (thn (hv pins s σ H _ I h) λ u s1 ⟨y,H1,I1,ry,q⟩=>thn (ha pins s1 σ H1 _ I1 q) λ ov s2 ⟨x,H2,I2,rx,a,C,dx,fs,ex,ea,c,n,l,q2⟩=>?_) hs
 subst ex
 obtain rfl:ov=Value.ref a:=rx
 exact znL I2 ea c n l ry λ s3 I3=>⟨σ,_,I3,q2⟩
theorem methcall_of {pl:Sem Bool} {m:Str} {apos:Pos} {args:List Expr} {pins:List (Addr×Obj)} {s:Shared} {σ:St} {H:Hp} {Q:Value->Shared->Prop} {te:TE} (he:PE X e te) (I:Inv X pins σ H s)
  (h:te σ H λ x H1=>∃ a C dx fs g,x=.ref a/\H1 a=some (.ins C dx fs)/\Cls X.K C/\Meth X.K C m g/\fs.lookup m=none /\
   ∀ s1,Inv X pins σ H1 s1->wpAny (model X.prog X.w) X.A (callWith pos (.ref g) [.ref a] (backTo pos (starEach args X.env)) (backToKw pos (keywordEach [] X.env))) Q X.xe s1)
  (ht:eval (.Call (.Attribute e m apos) args [] pos) X.env=(do
   let ov <-eval e X.env
   standAt apos.atName
   let (f,first) <-holding [ov] (getMethod ov m pl)
   callWith pos f first (backTo pos (starEach args X.env)) (backToKw pos (keywordEach [] X.env)))) :
  wpAny (model X.prog X.w) X.A (eval (.Call (.Attribute e m apos) args [] pos) X.env) Q X.xe s:=by
 refine PySem.W.methodCall_KW (pl:=pl) (thn (he pins s σ H _ I h) λ u s1 ⟨x,H1,I1,rx,a,C,dx,fs,g,ex,ea,c,k,l,q⟩=>?_) ht
 subst ex
 obtain rfl:u=Value.ref a:=rx
 exact zgh I1 ea c k l (q s1 I1)
end
section
variable {X:Cx} {pins:List (Addr×Obj)} {σ:St} {H:Hp} {s:Shared} {A:Around} {E:Value->Shared->Prop} {Q:Value->Shared->Prop} {c:Value} {b:Bool}
inductive TyOf (K:PySem.W.Frag) (H:Hp):V->Value->Prop where
 | non:TyOf K H .non (.type "NoneType")
 | bl (x:Bool):TyOf K H (.bl x) (.type "bool")
 | int (i:Int):TyOf K H (.int i) (.type "int")
 | str (x:Str):TyOf K H (.str x) (.type "str")
 | flt (x:UInt64):TyOf K H (.flt x) (.type "float")
 | lst {a:Addr} {xs:List V} (e:H a=some (.lst xs)):TyOf K H (.ref a) (.type "list")
 | frz {a:Addr} {o:Obj} {xs:List V} (e:H a=some (.frz o (.lst xs))):TyOf K H (.ref a) (.type "list")
 | tup {a:Addr} {xs:List V} (e:H a=some (.tup xs)):TyOf K H (.ref a) (.type "tuple")
 | dK {a:Addr} {kvs:List (Key×V)} (e:H a=some (.dK kvs)):TyOf K H (.ref a) (.type "dict")
 | dT {a:Addr} {kvs:List (List Key×V)} (e:H a=some (.dT kvs)):TyOf K H (.ref a) (.type "dict")
 | ins {a C dx:Addr} {fs:List (Str×V)} (e:H a=some (.ins C dx fs)) (cl:Cls K C) (ha:PySem.W.findIn K (.ref C) "__class__" = some (some (.builtin "object.__class__")))
  (hn:PySem.W.specialIn K (.builtin "object.__class__") "__get__" = some (some (.builtin "getset_descriptor.__get__"))) (htk:PySem.W.takesIn K (.builtin "object.__class__")=some true)
  (hm:PySem.W.mroIn K C (.type "object")=some true):TyOf K H (.ref a) (.ref C)
theorem zph {x:V} {u t:Value} (I:Inv X pins σ H s) (rx:RelV x u) (ty:TyOf X.K H x t) (e:PySem.W.kitOne X.K t c=some b) (h:∀ tk,Q (.bool b) { s with toks:=tk }) :
  wpAny (model X.prog X.w) A (call (.builtin "isinstance") [u,c]) Q E s:=by
 cases ty with
 | non=>cases (show u=Value.none from rx); exact PySem.W.kia_one PySem.W.kitx_none I.kIn True.intro e (λ z=>nomatch z) h
 | bl y=>cases (show u=Value.bool y from rx); exact PySem.W.kia_one PySem.W.kitx_bool I.kIn True.intro e (λ z=>nomatch z) h
 | int i=>obtain ⟨t,q⟩:=(show ∃ t,u=Value.int i t from rx); cases q; exact PySem.W.kia_one PySem.W.kitx_int I.kIn True.intro e (λ z=>nomatch z) h
 | str y=>obtain ⟨t,q⟩:=(show ∃ t,u=Value.str y t from rx); cases q; exact PySem.W.kia_one PySem.W.kitx_str I.kIn True.intro e (λ z=>nomatch z) h
 | flt y=>obtain ⟨t,q⟩:=(show ∃ t,u=Value.float y t from rx); cases q; exact PySem.W.kia_one PySem.W.kitx_float I.kIn True.intro e (λ z=>nomatch z) h
 | @lst a xs ea =>
  cases (show u=Value.ref a from rx)
  obtain ⟨_,_,n,_,h1⟩:=(show zbV X.prog X.w H s.heap a (.lst xs) from I.hok a _ ea)
  exact PySem.W.kia_one PySem.W.kitx_list I.kIn ⟨_,h1,rfl⟩ e (λ z=>nomatch z) h
 | @frz a ob xs ea =>
  cases (show u=Value.ref a from rx)
  obtain ⟨_,_,_,n,_,h1⟩:=(show zbV X.prog X.w H s.heap a (.frz ob (.lst xs)) from I.hok a _ ea)
  exact PySem.W.kia_one PySem.W.kitx_list I.kIn ⟨_,h1,rfl⟩ e (λ z=>nomatch z) h
 | @tup a xs ea =>
  cases (show u=Value.ref a from rx)
  obtain ⟨_,_,_,p⟩:=(show zbV X.prog X.w H s.heap a (.tup xs) from I.hok a _ ea)
  obtain ⟨o,h1,h2,_⟩:=p
  exact PySem.W.kia_one PySem.W.kitx_tuple I.kIn ⟨o,h1,h2⟩ e (λ z=>nomatch z) h
 | @dK a kvs ea =>
  cases (show u=Value.ref a from rx)
  obtain ⟨_,_,vs,_,p⟩:=(show zbV X.prog X.w H s.heap a (.dK kvs) from I.hok a _ ea)
  obtain ⟨o,es,ep,h1,h2,_⟩:=p
  exact PySem.W.kia_one PySem.W.kitx_dict I.kIn ⟨o,h1,h2.1⟩ e (λ z=>nomatch z) h
 | @dT a kvs ea =>
  cases (show u=Value.ref a from rx)
  obtain ⟨_,_,xs,_,o,es,ep,h1,h2,_⟩:=(show zbV X.prog X.w H s.heap a (.dT kvs) from I.hok a _ ea)
  exact PySem.W.kia_one PySem.W.kitx_dict I.kIn ⟨o,h1,h2.1⟩ e (λ z=>nomatch z) h
 | @ins a C dx fs ea cl ha hn htk hm =>
  cases (show u=Value.ref a from rx)
  obtain ⟨mA,O,_⟩:=zjM I.hok ea
  obtain ⟨od,J,_⟩:=O.look
  exact PySem.W.kia_one (PySem.W.kitx_own (cl.get _) cl.hd ha hn htk hm) I.kIn J e (λ z=>nomatch z) h
end
end L2
namespace L2
open PySem PySem.Spec PyProof.Rows
structure Room (k:Nat) (A:Around):Prop where
 hd:A.handled=none
 dp:A.depth+3 * k+5 < recursionLimit
 un:A.units+16 * k+200 < cLine
theorem Room.mono {j k:Nat} {A:Around} (r:Room k A) (h:j<=k):Room j A:=⟨r.hd,by have:=r.dp; omega,by have:=r.un; omega⟩
theorem Room.deeper {k:Nat} {A:Around} (r:Room (k+1) A) (env:Env):Room k (A.deeper env) :=
 ⟨r.hd,by have:=r.dp; show A.depth+1+3 * k+5 < _; omega,by have:=r.un; show A.units+3+16 * k+200 < _; omega⟩
theorem znU {A:Around} {C:Addr} {us:List Value} {kw:List (Str×Value)}:(A.under (.builtin "type.__call__" ⟨.ref C::us,kw⟩)).depth=A.depth+1:=by
 first | rfl | simp [Around.under,Code.weight,Code.isCreation,Code.isGuard,Code.isCaller,Code.frames,Code.isFrame,guardIds]
theorem znT {A:Around} {C:Addr} {us:List Value} {kw:List (Str×Value)}:(A.under (.builtin "type.__call__" ⟨.ref C::us,kw⟩)).units=A.units+1:=by
 first | rfl | simp [Around.under,Code.cUnits,Code.frames,Code.isFrame]
theorem Room.make {k:Nat} {A:Around} (r:Room (k+1) A) (C:Addr) (us:List Value) (kw:List (Str×Value)):Room k (A.under (.builtin "type.__call__" ⟨.ref C::us,kw⟩)) :=
 ⟨r.hd,by have:=r.dp; rw [znU]; omega,by have:=r.un; rw [znT]; omega⟩
theorem Room.depth {k:Nat} {A:Around} (r:Room k A):A.depth < recursionLimit:=by have:=r.dp; omega
theorem Room.units {k:Nat} {A:Around} (r:Room k A):A.units+64 < cLine:=by have:=r.un; omega
def tNil:TA:=λ _ H Q=>Q [] H
def zp3 (ta:TE) (tr:TA):TA:=λ σ H Q=>ta σ H λ x H1=>tr σ H1 λ xs H2=>Q (x::xs) H2
section
variable {X:Cx} {e:Expr} {es:List Expr} {te:TE} {t:TA} {pos:Pos}
theorem zad:PA X [] tNil:=λ _ _ _ _ H Q I h=>Calls.spliced_nil ⟨[],H,I,.nil,h⟩
theorem zaa (ha:PE X e te) (hr:PA X es t) (hs:starEach (e::es) X.env=(false,eval e X.env)::starEach es X.env:=by rfl):PA X (e::es) (zp3 te t):=by
 intro pos pins s σ H Q I h
 rw [hs]
 show wpAny _ _ (spliced ((false,eval e X.env)::backTo pos (starEach es X.env))) _ _ s
 refine Calls.spliced_cons (thn (ha pins s σ H _ I h) λ u s1 ⟨x,H1,I1,r1,q1⟩=>?_)
 exact thn (hr pos pins s1 σ H1 _ I1 q1) λ us s2 ⟨xs,H2,I2,r2,q2⟩=>⟨x::xs,H2,I2,.cons r1 r2,q2⟩
def tTup (t:TA):TE:=λ σ H Q=>t σ H λ xs H1=>xs.length<=sizeLine/\∀ p,H1 p=none->Q (.ref p) (upd H1 p (.tup xs))
def tLst (t:TA):TE:=λ σ H Q=>t σ H λ xs H1=>xs.length<=sizeLine/\∀ p,H1 p=none->Q (.ref p) (upd H1 p (.lst xs))
theorem zbA {x1} (h:PA X es t):PE X (.Tuple es x1 pos) (tTup t):=by
 intro pins s σ H Q I hq
 refine wpAny_Tuple_spliced (thn (h pos pins s σ H _ I hq) λ us s1 ⟨xs,H1,I1,r,z,q⟩=>⟨by rw [<-r.length]; exact z,?_⟩)
 have hf:H1 s1.heap.objs.size=none:=I1.hok.fresh (Nat.le_refl _)
 refine ⟨.ref s1.heap.objs.size,upd H1 s1.heap.objs.size (.tup xs),I1.laid (t':=s1.toks) (λ b u e=>Heap.get?_push_of_some _ e) (Nat.le_refl _) ?_,rfl,q _ hf⟩
 exact ⟨z,us,r,⟨_,Heap.get?_push_size _ rfl,rfl,_,rfl⟩⟩
theorem zdp (h:PA X es t):PE X (.List es pos) (tLst t):=by
 intro pins s σ H Q I hq
 refine wpAny_List_spliced (thn (h pos pins s σ H _ I hq) λ us s1 ⟨xs,H1,I1,r,z,q⟩=>⟨by rw [<-r.length]; exact z,?_⟩)
 have hf:H1 s1.heap.objs.size=none:=I1.hok.fresh (Nat.le_refl _)
 refine ⟨.ref s1.heap.objs.size,upd H1 s1.heap.objs.size (.lst xs),I1.laid (t':=s1.toks) (λ b u e=>Heap.get?_push_of_some _ e) (Nat.le_refl _) ?_,rfl,q _ hf⟩
 exact ⟨z,us,0,r,Heap.get?_push_size _ rfl⟩
end
abbrev Sp:=List V->Hp->VK->XK->Prop
abbrev CXT:=List Env->Hp->Shared->XK->Value->Shared->Prop
structure Env0 (P:Program) (w:World) (K:PySem.W.Frag) (mg:Str->Option Value) (base:Heap) (A:Around) (outer:List Env) (s:Shared) (H:Hp):Prop where
 frames:A.frames=some outer
 mod:Mod K mg base
 bs:∀ b o,base.get? b=some o->s.heap.get? b=some o/\H b=none
 bsz:base.objs.size<=s.heap.objs.size
 funs:s.heap.FunFrames base outer
 frf:∀ b∈frs outer,H b=none
 hok:HOk P w H s.heap
 bare:AllBare s.gens
def CE (outer:List Env) (P:Program) (w:World) (H:Hp) (s:Shared) (Q:VK) (u:Value) (s':Shared):Prop :=
 ∃ v H',s'.os=s.os/\AllBare s'.gens/\Un (frs outer) [] H H' s.heap s'.heap/\HOk P w H' s'.heap/\RelV v u/\Q v H'
def CR (CX:CXT) (outer:List Env) (P:Program) (w:World) (H:Hp) (s:Shared) (Q:VK) (E:XK) (r:Result) (s':Shared):Prop :=
 match r with
 | .ok (.ret u)=>CE outer P w H s Q u s'
 | .ok _=>False
 | .error e=>CX outer H s E e s'
structure FnOk (P:Program) (w:World) (K:PySem.W.Frag) (mg:Str->Option Value) (base:Heap) (CX:CXT) (k:Nat) (f:Addr) (fd:FuncData) (ps:List Str) (sp:Sp):Prop where
 len:∀ vs H Q E,sp vs H Q E->vs.length=ps.length
 run:∀ (A:Around) (outer:List Env) (s:Shared) (H:Hp) (args:Args) (us:List Value) (vs:List V) (Q:VK) (E:XK),Room k A->Env0 P w K mg base A outer s H->BindsTo s fd args (ps.zip us)->Vals vs us->sp vs H Q E ->
  codeAny (model P w) A (.call (.ref f) args) (CR CX outer P w H s Q E) s
theorem Env0.make {P:Program} {w:World} {K:PySem.W.Frag} {mg:Str->Option Value} {base:Heap} {A:Around} {outer:List Env} {s:Shared} {H:Hp} (e:Env0 P w K mg base A outer s H) (C:Addr) (us:List Value) (kw:List (Str×Value)) :
 Env0 P w K mg base (A.under (.builtin "type.__call__" ⟨.ref C::us,kw⟩)) outer s H:=⟨by first | exact e.frames | (simpa [Around.under,Code.envs,Code.isFrame,pushEnvs] using e.frames),e.mod,e.bs,e.bsz,e.funs,e.frf,e.hok,e.bare⟩
section
variable {X:Cx} {pins:List (Addr×Obj)} {σ:St} {H:Hp} {s s':Shared}
theorem Inv.env0 (I:Inv X pins σ H s):Env0 X.prog X.w X.K X.mg X.base X.A X.stack s H :=
 ⟨I.ok.frames,I.ok.mod,I.bs,Nat.le_trans I.ok.bsz I.sz,I.stack,I.zha,I.hok,I.bare⟩
theorem Inv.after {Q:VK} {u:Value} (I:Inv X pins σ H s) (h:CE X.stack X.prog X.w H s Q u s'):EP X pins σ Q u s':=by
 obtain ⟨v,H',os,bare,un,hok,r,q⟩:=h
 obtain ⟨hh,g,d,t,os'⟩:=s'
 obtain rfl:os'=s.os:=os
 exact ⟨v,H',I.call (h':=hh) (g':=g) (d':=d) (t':=t) (ch:=[]) un hok bare (λ b z=>absurd z (by simp)),r,q⟩
end
def ztt (sp:Sp) (dvs:List V) (E:XK) (t:TA):TE:=λ σ H Q=>t σ H λ vs H1=>sp (vs++dvs) H1 Q E
def zsk (C:Addr) (m:Str) (sp:Sp) (dvs:List V) (E:XK) (ta:TE) (t:TA):TE:=λ σ H Q=>ta σ H λ x H1=>∃ a dx fs,x=.ref a/\H1 a=some (.ins C dx fs)/\fs.lookup m=none /\
 t σ H1 λ vs H2=>sp (x::(vs++dvs)) H2 Q E
def zsl (C:Addr) (sp:Sp) (dvs:List V) (E:XK) (t:TA):TE:=λ σ H Q=>t σ H λ vs H1=>∀ x dx,H1 x=none->H1 dx=none->dx≠x ->
 sp (.ref x::(vs++dvs)) (upd (upd H1 dx (.own x)) x (.ins C dx [])) (λ v H2=>v=.non/\Q (.ref x) H2) E
def Binds (K:PySem.W.Frag) (fd:FuncData) (ps:List Str) (ds:List Value):Prop :=
 ∀ (s:Shared) (us:List Value),K.In s.heap->(us++ds).length=ps.length->BindsTo s fd ⟨us,[]⟩ (ps.zip (us++ds))
theorem Binds.all {K:PySem.W.Frag} {fd:FuncData} {ps:List Str} (h:∀ us:List Value,us.length=ps.length->bindArgs fd ⟨us,[]⟩=pure (ps.zip us)):Binds K fd ps []:=λ s us _ hl=>by
 rw [List.append_nil] at hl ⊢
 exact .of_eq (h us hl)
def Passes (CX:CXT) (X:Cx) (E:XK):Prop:=∀ (pins:List (Addr×Obj)) (σ:St) (H:Hp) (s:Shared) (e:Value) (s':Shared),Inv X pins σ H s->CX X.stack H s E e s'->X.xe e s'
section
variable {X:Cx} {CX:CXT} {k:Nat} {f C:Addr} {fd:FuncData} {ps:List Str} {sp:Sp} {dvs:List V} {ds:List Value} {E:XK} {x m:Str} {p pos apos:Pos} {e o:Expr} {es:List Expr} {ta:TE} {t:TA}
theorem zoG {pins:List (Addr×Obj)} {σ:St} {H:Hp} {s:Shared} {Q:VK} {us:List Value} {vs:List V} (F:FnOk X.prog X.w X.K X.mg X.base CX k f fd ps sp) (hr:Room k X.A) (hb:Binds X.K fd ps ds) (hd:Vals dvs ds) (hx:Passes CX X E)
  (I:Inv X pins σ H s) (r:Vals vs us) (h:sp (vs++dvs) H Q E):wpAny (model X.prog X.w) X.A (call (.ref f) us) (EP X pins σ Q) X.xe s:=by
 have r2:Vals (vs++dvs) (us++ds):=r.append hd
 have hl:(us++ds).length=ps.length:=by rw [<-r2.length]; exact F.len _ _ _ _ h
 refine wpAny_call (codeAny_mono (F.run X.A X.stack s H ⟨us,[]⟩ (us++ds) (vs++dvs) Q E hr I.env0 (hb s us I.kIn hl) r2 h) λ r s' hq=>?_)
 cases r with
 | error e=>exact hx pins σ H s e s' I hq
 | ok fl =>
  cases fl with
  | ret u=>exact I.after hq
  | next=>exact False.elim hq
  | brk=>exact False.elim hq
  | cont=>exact False.elim hq
theorem zaP (F:FnOk X.prog X.w X.K X.mg X.base CX k f fd ps sp) (hr:Room k X.A) (hg:Gl X x) (hm:X.mg x=some (.ref f)) (hk:PySem.W.keepIn X.K (.ref f)=true) (hb:Binds X.K fd ps ds) (hd:Vals dvs ds) (hx:Passes CX X E)
  (ha:PA X (e::es) t) (hdb:(x == ("__debug__" : Str))=false:=by decide) (he:starEach (e::es) X.env=(false,eval e X.env)::starEach es X.env:=by rfl) (hpl:(backTo pos (starEach es X.env)).any (·.1)=false:=by rfl) :
  PE X (.Call (.Name x p) (e::es) [] pos) (ztt sp dvs E t):=by
 intro pins s σ H Q I h
 refine wpAny_Call_Name_kw (zgd I hg hm ?_ hdb)
 refine PySem.W.callWith_K (h₀:=X.base) I.ok.mod.kin hk (thn (ha pos pins s σ H _ I h) λ us s1 ⟨vs,H1,I1,r,q⟩=>⟨I1.kIn,?_⟩) he hpl
 exact zoG F hr hb hd hx I1 r q
theorem zax {pl:Sem Bool} (he:PE X o ta) (c:Cls X.K C) (hm:Meth X.K C m f) (F:FnOk X.prog X.w X.K X.mg X.base CX k f fd ps sp) (hr:Room k X.A) (hb:Binds X.K fd ps ds) (hd:Vals dvs ds) (hx:Passes CX X E) (ha:PA X (e::es) t)
  (hst:starEach (e::es) X.env=(false,eval e X.env)::starEach es X.env:=by rfl) (hpl:(backTo pos (starEach es X.env)).any (·.1)=false:=by rfl)
  (ht:eval (.Call (.Attribute o m apos) (e::es) [] pos) X.env=(do
   let ov <-eval o X.env
   standAt apos.atName
   let (f,first) <-holding [ov] (getMethod ov m pl)
   callWith pos f first (backTo pos (starEach (e::es) X.env)) (backToKw pos (keywordEach [] X.env))):=by rfl) :
  PE X (.Call (.Attribute o m apos) (e::es) [] pos) (zsk C m sp dvs E ta t):=by
 intro pins s σ H Q I h
 refine PySem.W.methodCall_KW (pl:=pl) (thn (he pins s σ H _ I h) λ u s1 ⟨x,H1,I1,rx,a,dx,fs,ex,ea,l,q⟩=>?_) ht
 subst ex
 obtain rfl:u=Value.ref a:=rx
 refine zgh I1 ea c hm l ?_
 refine PySem.W.callWith_K (first:=[.ref a]) (h₀:=X.base) I.ok.mod.kin hm.kp (thn (ha pos pins s1 σ H1 _ I1 q) λ us s2 ⟨vs,H2,I2,r,q2⟩=>⟨I2.kIn,?_⟩) hst hpl
 exact zoG (us:=.ref a::us) (vs:=.ref a::vs) F hr hb hd hx I2 (.cons rfl r) q2
theorem zb8 {pl:Sem Bool} (he:PE X o ta) (c:Cls X.K C) (hm:Meth X.K C m f) (F:FnOk X.prog X.w X.K X.mg X.base CX k f fd ps sp) (hr:Room k X.A) (hb:Binds X.K fd ps ds) (hd:Vals dvs ds) (hx:Passes CX X E)
  (ht:eval (.Call (.Attribute o m apos) [] [] pos) X.env=(do
   let ov <-eval o X.env
   standAt apos.atName
   let (f,first) <-holding [ov] (getMethod ov m pl)
   callWith pos f first (backTo pos (starEach [] X.env)) (backToKw pos (keywordEach [] X.env))):=by rfl) :
  PE X (.Call (.Attribute o m apos) [] [] pos) (zsk C m sp dvs E ta tNil):=by
 intro pins s σ H Q I h
 refine PySem.W.methodCall_KW (pl:=pl) (thn (he pins s σ H _ I h) λ u s1 ⟨x,H1,I1,rx,a,dx,fs,ex,ea,l,q⟩=>?_) ht
 subst ex
 obtain rfl:u=Value.ref a:=rx
 refine zgh I1 ea c hm l ?_
 exact PySem.W.callWith_K0 (first:=[.ref a]) I1.kIn hm.kp (zoG (us:=[.ref a]) (vs:=[.ref a]) F hr hb hd hx I1 (.cons rfl .nil) q)
structure Mk (K:PySem.W.Frag) (C f:Addr):Prop where
 makes:PySem.W.makesIn K C=true
 init:PySem.W.findIn K (.ref C) "__init__" = some (some (.ref f))
 fn:PySem.W.isFn K (.ref f)=true
 kp:PySem.W.keepIn K (.ref C)=true
theorem zmX {pins:List (Addr×Obj)} {σ:St} {H:Hp} {s:Shared} {Q:VK} {us:List Value} {vs:List V} (M:Mk X.K C f) (F:FnOk X.prog X.w X.K X.mg X.base CX k f fd ps sp) (hr:Room (k+1) X.A) (hb:Binds X.K fd ps ds) (hd:Vals dvs ds)
  (hx:Passes CX X E) (I:Inv X pins σ H s) (r:Vals vs us)
  (h:∀ x dx,H x=none->H dx=none->dx≠x->sp (.ref x::(vs++dvs)) (upd (upd H dx (.own x)) x (.ins C dx [])) (λ v H2=>v=.non/\Q (.ref x) H2) E) :
  wpAny (model X.prog X.w) X.A (call (.ref C) us) (EP X pins σ Q) X.xe s:=by
 have hq:=h (s.heap.objs.size+1) s.heap.objs.size (I.hok.fresh (Nat.le_succ _)) (I.hok.fresh (Nat.le_refl _)) (Nat.ne_of_lt (Nat.lt_succ_self _))
 have I2:=Inv.made (C:=C) I
 have r2:Vals (V.ref (s.heap.objs.size+1)::(vs++dvs)) (Value.ref (s.heap.objs.size+1)::(us++ds)):=.cons rfl (r.append hd)
 have hl:(Value.ref (s.heap.objs.size+1)::us++ds).length=ps.length:=by
  have e:=r2.length
  rw [F.len _ _ _ _ hq] at e
  exact e.symm
 refine wpAny_call (zqv (f:=f) I.kIn M.makes M.init (beq_iff_eq.mp M.fn) (codeAny_mono (F.run _ X.stack _ _ ⟨Value.ref (s.heap.objs.size+1)::us,[]⟩ (Value.ref (s.heap.objs.size+1)::(us++ds)) _ _ E (hr.make C us [])
  (I2.env0.make C us []) (hb _ (Value.ref (s.heap.objs.size+1)::us) I2.kIn hl) r2 hq) λ r s' hq'=>?_))
 cases r with
 | error e=>exact hx pins σ _ _ e s' I2 hq'
 | ok fl =>
  cases fl with
  | ret u =>
   obtain ⟨v,H',I3,rv,ev,q3⟩:=I2.after hq'
   subst ev
   exact ⟨rv,⟨V.ref (s.heap.objs.size+1),H',I3,rfl,q3⟩⟩
  | next=>exact False.elim hq'
  | brk=>exact False.elim hq'
  | cont=>exact False.elim hq'
theorem zoL (M:Mk X.K C f) (F:FnOk X.prog X.w X.K X.mg X.base CX k f fd ps sp) (hr:Room (k+1) X.A) (hg:Gl X x) (hm:X.mg x=some (.ref C)) (hb:Binds X.K fd ps ds) (hd:Vals dvs ds) (hx:Passes CX X E)
  (ha:PA X (e::es) t) (hdb:(x == ("__debug__" : Str))=false:=by decide) (he:starEach (e::es) X.env=(false,eval e X.env)::starEach es X.env:=by rfl) (hpl:(backTo pos (starEach es X.env)).any (·.1)=false:=by rfl) :
  PE X (.Call (.Name x p) (e::es) [] pos) (zsl C sp dvs E t):=by
 intro pins s σ H Q I h
 refine wpAny_Call_Name_kw (zgd I hg hm ?_ hdb)
 refine PySem.W.callWith_K (h₀:=X.base) I.ok.mod.kin M.kp (thn (ha pos pins s σ H _ I h) λ us s1 ⟨vs,H1,I1,r,q⟩=>⟨I1.kIn,?_⟩) he hpl
 exact zmX M F hr hb hd hx I1 r q
theorem zjs (M:Mk X.K C f) (F:FnOk X.prog X.w X.K X.mg X.base CX k f fd ps sp) (hr:Room (k+1) X.A) (hg:Gl X x) (hm:X.mg x=some (.ref C)) (hb:Binds X.K fd ps ds) (hd:Vals dvs ds) (hx:Passes CX X E)
  (hdb:(x == ("__debug__" : Str))=false:=by decide):PE X (.Call (.Name x p) [] [] pos) (zsl C sp dvs E tNil):=by
 intro pins s σ H Q I h
 refine wpAny_Call_Name_kw (zgd I hg hm ?_ hdb)
 exact PySem.W.callWith_K0 I.kIn M.kp (zmX (us:=[]) M F hr hb hd hx I .nil h)
end
section
variable {X:Cx} {CX:CXT} {k:Nat} {f C:Addr} {fd:FuncData} {ps ks:List Str} {sp:Sp} {E:XK} {x m:Str} {p pos apos kpos:Pos} {e o:Expr} {es:List Expr} {kws:List Keyword} {te ta:TE} {t tk:TA} {nm:Option Str}
variable {g:List Value->List Value->List Value} {gV:List V->List V->List V}
end
structure zar (N P:List Str) (sc:Scope):Prop where
 kind:sc.kind=.function
 co:sc.isCoroutine=false
 gen:sc.isGenerator=false
 nd:N.Nodup
 pre:N.take P.length=P
 par:∀ x∈P,sc.names.lookup x=some .local\/sc.names.lookup x=some .cell
 zsY:∀ y∈sc.names,y.2≠.free
theorem zli {kindOf:Str->Option NameKind} {x:Str}:∀ {binds:List (Str×Value)} {m:Str->Option Value},(∀ v,(x,v)∉binds)->bindL kindOf binds m x=m x
 | [],_,_=>rfl
 | (n,v)::r,m,h=>by
  unfold bindL
  rw [zli λ w hw=>h w (List.mem_cons_of_mem _ hw)]
  split
  . have:x≠n:=by rintro rfl; exact h v List.mem_cons_self
    simp [this]
  . rfl
theorem zlk {kindOf:Str->Option NameKind} {x:Str}:∀ {binds:List (Str×Value)} {m:Str->Option Value},(∀ v,(x,v)∉binds)->bindC kindOf binds m x=m x
 | [],_,_=>rfl
 | (n,v)::r,m,h=>by
  unfold bindC
  rw [zlk λ w hw=>h w (List.mem_cons_of_mem _ hw)]
  split
  . rfl
  . have:x≠n:=by rintro rfl; exact h v List.mem_cons_self
    simp [this]
theorem zlj {kindOf:Str->Option NameKind} {x:Str} {v:Value}:∀ {P:List Str} {vs:List Value} {i:Nat} {m:Str->Option Value},P.Nodup->P[i]?=some x->vs[i]?=some v->kindOf x=some .local ->
  bindL kindOf (P.zip vs) m x=some v
 | [],_,_,_,_,h,_,_=>by simp at h
 | _::_,[],_,_,_,_,h,_=>by simp at h
 | p::P,w::vs,0,m,nd,h1,h2,hk=>by
  simp at h1 h2; subst h1; subst h2
  show bindL kindOf ((p,w)::P.zip vs) m p=_
  unfold bindL
  rw [zli λ v hv=>(List.nodup_cons.mp nd).1 (List.of_mem_zip hv).1,if_pos hk]
  simp
 | p::P,w::vs,i+1,m,nd,h1,h2,hk=>by
  show bindL kindOf ((p,w)::P.zip vs) m x=_
  unfold bindL
  exact zlj (i:=i) (List.nodup_cons.mp nd).2 (by simpa using h1) (by simpa using h2) hk
theorem zll {kindOf:Str->Option NameKind} {x:Str} {v:Value}:∀ {P:List Str} {vs:List Value} {i:Nat} {m:Str->Option Value},P.Nodup->P[i]?=some x->vs[i]?=some v->kindOf x≠some .local ->
  bindC kindOf (P.zip vs) m x=some v
 | [],_,_,_,_,h,_,_=>by simp at h
 | _::_,[],_,_,_,_,h,_=>by simp at h
 | p::P,w::vs,0,m,nd,h1,h2,hk=>by
  simp at h1 h2; subst h1; subst h2
  show bindC kindOf ((p,w)::P.zip vs) m p=_
  unfold bindC
  rw [zlk λ v hv=>(List.nodup_cons.mp nd).1 (List.of_mem_zip hv).1,if_neg hk]
  simp
 | p::P,w::vs,i+1,m,nd,h1,h2,hk=>by
  show bindC kindOf ((p,w)::P.zip vs) m x=_
  unfold bindC
  exact zll (i:=i) (List.nodup_cons.mp nd).2 (by simpa using h1) (by simpa using h2) hk
def start (N:List Str) (vs:List V):St:=vs.map some++List.replicate (N.length - vs.length) none
def cxOf (CX:CXT) (P:Program) (w:World) (K:PySem.W.Frag) (mg:Str->Option Value) (base:Heap) (N:List Str) (qual:Str) (scope:Scope) (f:Addr) (cd:Value) (A:Around) (outer:List Env) (s:Shared) (H:Hp) (E:XK):Cx where
 prog:=P
 w:=w
 K:=K
 mg:=mg
 base:=base
 A:=A.deeper (envOfC qual scope s.heap.objs.size f cd)
 N:=N
 s₀:=s
 H₀:=H
 env:=envOfC qual scope s.heap.objs.size f cd
 outer:=outer
 stack:=envOfC qual scope s.heap.objs.size f cd::outer
 ex:=[]
 calm:=true
 fn:=λ _=>true
 pn:=[]
 xe:=λ e s'=>wpAny (model P w) (A.deeper (envOfC qual scope s.heap.objs.size f cd)) (leaving (envOfC qual scope s.heap.objs.size f cd) e) (λ _ s''=>CX outer H s E e s'') (λ e' s''=>CX outer H s E e' s'') s'
theorem zns {sc:Scope} {n:Nat} {x:Str} (h:sc.names.lookup x=some .cell):∃ c,(cellsFrom n sc.names []).lookup x=some c:=by
 have q:=PySem.W.cellsFrom_some sc.names n [] (.inl h)
 exact Option.isSome_iff_exists.mp q
theorem zpi {CX:CXT} {P:Program} {w:World} {K:PySem.W.Frag} {mg:Str->Option Value} {base:Heap} {N ps:List Str} {qual:Str} {scope:Scope} {f:Addr} {cd:Value} {A:Around} {outer:List Env} {s s1:Shared} {H:Hp} {E:XK} {us:List Value} {vs:List V}
   (S:zar N ps scope) (hd:A.handled=none) (e0:Env0 P w K mg base A outer s H) (hl:vs.length=ps.length) (r:Vals vs us)
   (x:InCallC s s.heap.objs.size (bindL (envOfC qual scope s.heap.objs.size f cd).kindOf (ps.zip us) λ _=>none) (cellsFrom (s.heap.objs.size+1) scope.names []) (bindC (envOfC qual scope s.heap.objs.size f cd).kindOf (ps.zip us) λ _=>none) s1) :
   Inv (cxOf CX P w K mg base N qual scope f cd A outer s H E) [] (start N vs) H s1:=by
 have hpl:ps.length<=N.length:=by have:=congrArg List.length S.pre; rw [List.length_take] at this; omega
 obtain ⟨h1,tk,rfl,hk⟩:=x.done
 have noA:∀ b:Addr,b∉(cxOf CX P w K mg base N qual scope f cd A outer s H E).ex:=λ b z=>absurd (show b∈([]:List Addr) from z) (by simp)
 refine ⟨⟨e0.mod,S.kind,rfl,rfl,Nat.le_refl _,λ y z c h1 h2=>?_,λ y hy=>?_,λ y c _ h=>?_,λ _=>hd,Around.frames_deeper e0.frames,.inr ⟨rfl,rfl⟩,λ b z=>absurd z (noA b),e0.bs,e0.bsz,λ b _ _=>noA b,λ b z=>absurd z (noA b),e0.funs,e0.frf⟩,
   rfl,e0.bare,Un.kept hk,⟨_,x.toInCall.ns,λ i y v h1 h2 h3=>?_⟩,λ y c h=>⟨_,x.cell y c h⟩,e0.hok.fresh (Nat.le_refl _),λ y c h=>?_,λ p hp=>absurd (show p∈([]:List (Addr×Obj)) from hp) (by simp),e0.hok.kept hk,?_⟩
 . exact name_of_addr x.apart (PySem.mem_of_lookup h1) (PySem.mem_of_lookup h2)
 . have hy:scope.names.lookup y=some .cell\/scope.names.lookup y=some .free:=hy
   rcases hy with hy | hy
   . exact zns hy
   . exact absurd rfl (S.zsY _ (PySem.mem_of_lookup hy))
 . exact Nat.le_of_lt (x.above y c (PySem.mem_of_lookup h))
 . have hi:i < vs.length:=by
     unfold start at h2
     by_cases hi:i < vs.length
     . exact hi
     . rw [List.getElem?_append_right (by simpa using hi)] at h2
       rw [List.getElem?_replicate] at h2
       split at h2 <;> cases h2
   have ha:vs[i]?=some v:=by
     unfold start at h2
     rw [List.getElem?_append_left (by simpa using hi),List.getElem?_map] at h2
     cases e:vs[i]? with
     | none=>rw [e] at h2; cases h2
     | some a=>rw [e] at h2; cases h2; rfl
   obtain ⟨u,hu,rv⟩:=r.get ha
   have hp:ps[i]?=some y:=by
     rw [<-S.pre,List.getElem?_take_of_lt (by omega)]; exact h1
   have ndP:ps.Nodup:=by rw [<-S.pre]; exact S.nd.sublist (List.take_sublist _ _)
   refine ⟨u,rv,?_⟩
   rcases S.par y (List.mem_of_getElem? hp) with k | k
   . exact .inl ⟨k,zlj ndP hp hu k⟩
   . obtain ⟨c,e⟩:=zns (n:=s.heap.objs.size+1) k
     refine .inr ⟨.inl k,c,e,?_⟩
     have q:=x.cell y c e
     rw [zll ndP hp hu (by show scope.names.lookup y≠_; rw [k]; decide)] at q
     exact q
 . exact e0.hok.fresh (Nat.le_of_lt (x.above y c (PySem.mem_of_lookup h)))
 . unfold start
   show _=N.length
   rw [List.length_append,List.length_map,List.length_replicate]
   omega
theorem ztP {CX:CXT} {P:Program} {w:World} {K:PySem.W.Frag} {mg:Str->Option Value} {base:Heap} {k:Nat} {f:Addr} {name qual:Str} {params:Arguments} {body:List Stmt} {scope:Scope} {dV kV doc pm cdv ct oc:Value} {an od:Option Addr}
  {osl:Array (Option Value)} {N ps:List Str} {sp:Sp} (lk:K.lookup f=some ⟨oc,od,.func (PySem.W.fnOf name qual params body scope dV kV doc pm an cdv ct),osl⟩) (hcd:PySem.W.codeIn K cdv qual=true) (S:zar N ps scope)
  (len:∀ vs H Q E,sp vs H Q E->vs.length=ps.length)
  (hbody:∀ (A:Around) (outer:List Env) (s:Shared) (H:Hp) (vs:List V) (Q:VK) (E:XK),Room k (A.deeper (envOfC qual scope s.heap.objs.size f cdv))->sp vs H Q E ->
    ∃ t,PSs (cxOf CX P w K mg base N qual scope f cdv A outer s H E) body t/\t { nx:=λ _ H'=>Q .non H',rt:=Q } (start N vs) H) :
  FnOk P w K mg base CX (k+1) f (PySem.W.fnOf name qual params body scope dV kV doc pm an cdv ct) ps sp:=by
 refine ⟨len,λ A outer s H args us vs Q E hr e0 hb r hsp=>?_⟩
 have hl:=len _ _ _ _ hsp
 have KX:K.In s.heap:=e0.mod.kin.keeps λ b o e=>(e0.bs b o e).1
 have lim:s.heap.NoLimit:=e0.mod.nolimit.keeps λ b o e=>(e0.bs b o e).1
 have hkind:∀ y∈ps.zip us,scope.names.lookup y.1=some .local\/(scope.names.lookup y.1=some .cell/\((cellsFrom (s.heap.objs.size+1) scope.names []).lookup y.1).isSome=true):=λ ⟨n,v⟩ hy=>by
  rcases S.par n (List.of_mem_zip hy).1 with q | q
  . exact .inl q
  . exact .inr ⟨q,PySem.W.cellsFrom_some _ _ _ (.inl q)⟩
 refine codeAny_call_function hr.depth (KX _ _ lk) rfl S.co S.gen rfl (PySem.W.codeRec_of KX hcd) (hb _ _ _ _ ?_)
 refine wpAny_newFunctionEnv_cells S.kind hkind λ env he s1 x=>?_
 subst he
 refine ⟨lim.keeps x.toInCall.keep,codeAny_func ?_⟩
 obtain ⟨t,ht,hq⟩:=hbody A outer s H vs Q E (hr.deeper _) hsp
 have I:Inv (cxOf CX P w K mg base N qual scope f cdv A outer s H E) [] (start N vs) H s1:=zpi S hr.hd e0 hl r x
 refine wpAny_mono (ht [] s1 (start N vs) H _ I hq) (λ fl s' hs=>?_) λ e s' hs=>hs
 have fin:∀ {σ':St} {H':Hp} {v:V} {u:Value},Inv (cxOf CX P w K mg base N qual scope f cdv A outer s H E) [] σ' H' s'->RelV v u->Q v H'->CE outer P w H s Q u s' :=
  λ {σ' H' v u} J rv q=>⟨v,H',J.os,J.bare,J.base,J.hok,rv,q⟩
 cases fl with
 | ret u =>
  obtain ⟨v,σ',H',J,rv,q⟩:=hs
  exact fin J rv q
 | next =>
  obtain ⟨σ',H',J,q⟩:=hs
  exact fin (v:=V.non) (u:=Value.none) J rfl q
 | brk =>
  obtain ⟨_,_,_,q⟩:=hs
  exact False.elim q
 | cont =>
  obtain ⟨_,_,_,q⟩:=hs
  exact False.elim q
end L2
namespace L2
open PySem PySem.Spec PyProof.Rows
section
variable {X:Cx} {x:Str} {p pos:Pos} {e:Expr} {es:List Expr} {t:TA} {id T:String} {r:List V->Hp->VK->Prop}
def tCB (r:List V->Hp->VK->Prop) (t:TA):TE:=λ σ H Q=>t σ H λ vs H1=>r vs H1 Q
theorem zbK (hc:ziE X (.builtin id) r) (hg:Gl X x) (hm:X.mg x=none) (hv:bootBuiltins x=some (.builtin id)) (ha:PA X (e::es) t) (hn:x ≠ "__name__" := by decide) (hdb:(x == ("__debug__" : Str))=false:=by decide)
  (he:starEach (e::es) X.env=(false,eval e X.env)::starEach es X.env:=by rfl) (hpl:(backTo pos (starEach es X.env)).any (·.1)=false:=by rfl):PE X (.Call (.Name x p) (e::es) [] pos) (tCB r t):=by
 intro pins s σ H Q I h
 refine wpAny_Call_Name_kw (zng I hg hm hv ?_ hn hdb)
 exact PyProof.Rows.callWith_builtin1 (thn (ha pos pins s σ H _ I h) λ us s1 ⟨vs,H1,I1,r1,q1⟩=>hc pins s1 σ H1 vs us Q I1 r1 q1) he hpl
theorem zbF (hc:ziE X (.type T) r) (hg:Gl X x) (hm:X.mg x=none) (hv:bootBuiltins x=some (.type T)) (ha:PA X (e::es) t) (hn:x ≠ "__name__" := by decide) (hdb:(x == ("__debug__" : Str))=false:=by decide)
  (he:starEach (e::es) X.env=(false,eval e X.env)::starEach es X.env:=by rfl) (hpl:(backTo pos (starEach es X.env)).any (·.1)=false:=by rfl):PE X (.Call (.Name x p) (e::es) [] pos) (tCB r t):=by
 intro pins s σ H Q I h
 refine wpAny_Call_Name_kw (zng I hg hm hv ?_ hn hdb)
 exact PyProof.Rows.callWith_type1 (thn (ha pos pins s σ H _ I h) λ us s1 ⟨vs,H1,I1,r1,q1⟩=>hc pins s1 σ H1 vs us Q I1 r1 q1) he hpl
end
end L2
namespace HT
open PySem PyProof.Rows
section
open PySem.SeqAt
open PySem.AutoSeq1 (wpAny_loadPart')
open PySem.MeetsSeq PySem.MeetsSeq2 PySem.MeetsSeq3
end
section
variable {prog:Program} {w:World} {A:Around} {E:Value->Shared->Prop} {s:Shared}
def sIx (n d:Nat):Option Int->Nat
 | none=>d
 | some v=>if v < 0 then (v+(n:Int)).toNat else min v.toNat n
theorem zsG (n d:Nat) (hd:d<=n) (o:Option Int):sIx n d o<=n:=by
 cases o with
 | none=>exact hd
 | some v =>
  show (if v < 0 then (v+(n:Int)).toNat else min v.toNat n)<=n
  by_cases hv:v < 0
  . rw [if_pos hv]; omega
  . rw [if_neg hv]; exact Nat.min_le_right _ _
theorem zpL (v:Int) (n d:Nat):(if v < 0 then max (v+(n:Int)) 0 else min v (n:Int))=((sIx n d (some v):Nat):Int):=by
 show (if v < 0 then max (v+(n:Int)) 0 else min v (n:Int))=(((if v < 0 then (v+(n:Int)).toNat else min v.toNat n):Nat):Int)
 by_cases hv:v < 0
 . simp only [if_pos hv]; omega
 . simp only [if_neg hv]; omega
theorem zob (lo hi:Option Int) (n:Nat):Builtin.Slice.sliceAdjust lo hi 1 (n:Int)=(((sIx n 0 lo:Nat):Int),((sIx n n hi:Nat):Int)):=by
 have h1:¬ ((1:Int) < 0):=by omega
 unfold Builtin.Slice.sliceAdjust
 simp only [h1,if_false]
 refine Prod.ext ?_ ?_
 . cases lo with
   | none=>rfl
   | some v=>exact zpL v n 0
 . cases hi with
   | none=>rfl
   | some v=>exact zpL v n n
theorem znR (i j:Nat):Builtin.Slice.slicePlaces (i:Int) (j:Int) 1=j - i:=by
 unfold Builtin.Slice.slicePlaces
 have h1:(1:Int) > 0:=by omega
 simp only [h1,if_true,Int.ediv_one]
 split <;> omega
theorem ziI {v:Value} {o:Option Int} {Q:Option Int->Shared->Prop} (p:IsPart v o) (h:Q o s):wpAny (model prog w) A (Builtin.Slice.slicePartIndex v) Q E s:=by
 cases p with
 | none=>exact slicePart_none h
 | int i t=>exact slicePart_int h
theorem zgK {sl:Addr} {vl vu:Value} {lo hi:Option Int} {n:Nat} {Q:Int×Int×Nat->Shared->Prop} (hs:s.heap.IsSliceOf sl vl vu .none) (pl:IsPart vl lo) (pu:IsPart vu hi)
  (h:Q (((sIx n 0 lo:Nat):Int),1,sIx n n hi - sIx n 0 lo) s):wpAny (model prog w) A (Builtin.Slice.sliceApplied (.ref sl) (pure (n:Int))) Q E s:=by
 obtain ⟨os,hos,hcs,hds⟩:=id hs
 unfold Builtin.Slice.sliceApplied Builtin.Slice.sliceFields
 refine wpAny_bind (wpAny_bind (wpAny_field hos hds (x:=vl) rfl (wpAny_bind (wpAny_field hos hds (x:=vu) rfl (wpAny_bind (wpAny_field hos hds (x:=.none) rfl (wpAny_pure ?_)))))))
 refine wpAny_bind (slicePart_none ?_)
 show wpAny _ _ (if ((1:Int) == 0)=true then _ else _) _ _ s
 rw [if_neg (by decide)]
 refine wpAny_bind (ziI pl (wpAny_bind (ziI pu (wpAny_bind (wpAny_pure ?_)))))
 show wpAny _ _ (match Builtin.Slice.sliceAdjust lo hi 1 (n:Int) with | (lo,hi)=>pure (lo,(1:Int),Builtin.Slice.slicePlaces lo hi 1)) _ _ s
 rw [zob lo hi n]
 show wpAny _ _ (pure (((sIx n 0 lo:Nat):Int),(1:Int),Builtin.Slice.slicePlaces ((sIx n 0 lo:Nat):Int) ((sIx n n hi:Nat):Int) 1)) _ _ s
 rw [znR]
 exact wpAny_pure h
theorem zqi (xs:Array Value) (i k:Nat):((List.range k).filterMap λ (m:Nat)=>xs[((i:Int)+(m:Int) * 1).toNat]?).toArray=((xs.toList.drop i).take k).toArray:=by
 have e:(λ (m:Nat)=>xs[((i:Int)+(m:Int) * 1).toNat]?)=λ m=>xs[i+m]?:=by
  funext m
  have:((i:Int)+(m:Int) * 1).toNat=i+m:=by omega
  rw [this]
 rw [e]
 have:=pick_run xs i k
 rw [List.filterMap_map] at this
 have e2:((λ x=>xs[x]?)∘λ x=>i+x)=λ m=>xs[i+m]?:=rfl
 rw [e2] at this
 rw [this]
theorem zgi {t sl:Addr} {items:Array Value} {vl vu:Value} {lo hi:Option Int} {Q:Value->Shared->Prop} (ht:IsTup s.heap t items) (hs:s.heap.IsSliceOf sl vl vu .none) (pl:IsPart vl lo) (pu:IsPart vu hi)
  (hw:¬ (sIx items.size 0 lo=0/\sIx items.size items.size hi=items.size))
  (h:Q (.ref s.heap.objs.size) { s with heap:=s.heap.push { cls:=.type "tuple",data:=.seq ((items.toList.drop (sIx items.size 0 lo)).take (sIx items.size items.size hi - sIx items.size 0 lo)).toArray } })
  (hsz:items.size<=sizeLine):wpAny (model prog w) A (getItem (.ref t) (.ref sl)) Q E s:=by
 have htake:sizeOk (.seq ((items.toList.drop (sIx items.size 0 lo)).take (sIx items.size items.size hi - sIx items.size 0 lo)).toArray):=by
  show ((items.toList.drop (sIx items.size 0 lo)).take (sIx items.size items.size hi - sIx items.size 0 lo)).toArray.size<=sizeLine
  rw [List.size_toArray,List.length_take,List.length_drop,Array.length_toList]
  omega
 have hj:sIx items.size items.size hi<=items.size:=zsG _ _ (Nat.le_refl _) hi
 obtain ⟨os,hos,hcs,hds⟩:=id hs
 have hTs:s.TypeIs (.ref sl) "slice" := ⟨os,hos,hcs⟩
 unfold getItem
 try with_reducible refine wpAny_holding ?_
 first | refine wpAny_bind (wpAny_pure ?_) | skip
 refine wpAny_bind (wpAny_sequenceKey ht.typeIs (by decide) ?_)
 refine wpAny_bind (wpAny_callSpecial?_slot (name:=Str.ofString "__getitem__") ht.typeIs PyProof.Rows.slot_tuple_getitem
  (wpAny_call_entry PyProof.Rows.slot_tuple_getitem ht.typeIs entry_tuple_getitem ?_ (args_tuple_getitem _ _)))
 show wpAny _ _ (Builtin.Tuple.tupleItemsOf (.ref t) >>= _) _ _ s
 refine wpAny_bind (tupleItemsOf_ ht ?_)
 refine wpAny_bind (wpAny_typeOf hTs ?_)
 rw [if_pos (by decide)]
 refine wpAny_bind (zgK hs pl pu ?_)
 have hno:¬ ((((sIx items.size 0 lo:Nat):Int) == 0 && (1:Int) == 1 && (sIx items.size items.size hi - sIx items.size 0 lo) == items.size)=true):=by
  intro q
  rw [Bool.and_eq_true,Bool.and_eq_true] at q
  have q1:((sIx items.size 0 lo:Nat):Int)=0:=eq_of_beq q.1.1
  have q2:sIx items.size items.size hi - sIx items.size 0 lo=items.size:=eq_of_beq q.2
  exact hw ⟨by omega,by omega⟩
 show wpAny _ _ (if (((sIx items.size 0 lo:Nat):Int) == 0 && (1:Int) == 1 && (sIx items.size items.size hi - sIx items.size 0 lo) == items.size)=true then _ else _) _ _ s
 rw [if_neg hno,zqi]
 first
  | exact wpAny_bind (m:=Builtin.Tuple.tupleExact _) (wpAny_newObj_type (wpAny_pure ⟨_,rfl,wpAny_pure h⟩) htake)
  | exact wpAny_bind (m:=Builtin.Tuple.tupleExact _) (wpAny_newObj_type (wpAny_bind (wpAny_pure (wpAny_pure ⟨_,rfl,wpAny_pure h⟩))) htake)
  | exact wpAny_bind (wpAny_bind (m:=Builtin.Tuple.tupleExact _) (wpAny_newObj_type (wpAny_pure (wpAny_pure ⟨_,rfl,wpAny_pure h⟩)) htake))
  | exact wpAny_bind (wpAny_bind (m:=Builtin.Tuple.tupleExact _) (wpAny_newObj_type (wpAny_pure ⟨_,rfl,wpAny_pure h⟩) htake))
end
end HT
namespace L2
open PySem PySem.Spec PyProof.Rows
abbrev TO:=St->Hp->(Option Int->Hp->Prop)->Prop
def PO (X:Cx) (e:Option Expr) (t:TO):Prop :=
 ∀ (pins:List (Addr×Obj)) (s:Shared) (σ:St) (H:Hp) (Q:Option Int->Hp->Prop),Inv X pins σ H s->t σ H Q ->
  wpAny (model X.prog X.w) X.A (evalPart e X.env) (λ u s'=>∃ o H',Inv X pins σ H' s'/\IsPart u o/\Q o H') X.xe s
def zrq:TO:=λ _ H Q=>Q none H
def zto (t:TE):TO:=λ σ H Q=>t σ H λ x H1=>∃ i,x=.int i/\Q (some i) H1
section
variable {X:Cx} {e:Expr} {te:TE} {lo hi:Option Expr} {tl th:TO} {pos p2:Pos}
theorem zrN:PO X none zrq:=by
 intro pins s σ H Q I h
 rw [evalPart_none]
 exact wpAny_pure ⟨none,H,I,.none,h⟩
theorem zlQ (h:PE X e te):PO X (some e) (zto te):=by
 intro pins s σ H Q I hw
 rw [evalPart_some]
 refine thn (h pins s σ H _ I hw) λ u s1 ⟨x,H1,I1,r1,q1⟩=>?_
 obtain ⟨i,rfl,q⟩:=q1
 obtain ⟨t,rfl⟩:=r1
 exact ⟨some i,H1,I1,.int i t,q⟩
def SlR (X:Cx) (r:V->Option Int->Option Int->Hp->VK->Prop):Prop :=
 ∀ (pins:List (Addr×Obj)) (s:Shared) (σ:St) (H:Hp) (x:V) (v vl vu:Value) (lo hi:Option Int) (sl:Addr) (Q:VK),Inv X pins σ H s->RelV x v->s.heap.IsSliceOf sl vl vu .none->IsPart vl lo->IsPart vu hi->r x lo hi H Q ->
  ∃ T id,typeLookup (.type T) "__getitem__" = pure (some (.builtin id))/\s.TypeIs v T/\wpAny (model X.prog X.w) X.A (getItem v (.ref sl)) (EP X pins σ Q) X.xe s
def tSl (r:V->Option Int->Option Int->Hp->VK->Prop) (te:TE) (tl th:TO):TE:=λ σ H Q=>te σ H λ x H1=>tl σ H1 λ l H2=>th σ H2 λ u H3=>r x l u H3 Q
theorem zm3 {r:V->Option Int->Option Int->Hp->VK->Prop} (hr:SlR X r) (he:PE X e te) (hl:PO X lo tl) (hu:PO X hi th):PE X (.Subscript e (.Slice lo hi none p2) pos) (tSl r te tl th):=by
 intro pins s σ H Q I h
 refine Subscript_ (thn (he pins s σ H _ I h) λ v s1 ⟨x,H1,I1,r1,q1⟩=>?_)
 refine wpAny_Slice (thn (hl pins s1 σ H1 _ I1 q1) λ vl s2 ⟨l,H2,I2,pl,q2⟩=>thn (hu pins s2 σ H2 _ I2 q2) λ vu s3 ⟨u,H3,I3,pu,q3⟩=>?_)
 rw [evalPart_none]
 refine wpAny_pure ?_
 have I4:Inv X pins σ H3 { s3 with heap:=s3.heap.push { cls:=.type "slice",data:=.fields #[vl,vu,.none] } }:=I3.kept (t':=s3.toks) λ b ob q=>Heap.get?_push_of_some _ q
 obtain ⟨T,id,hT,ht,hg⟩:=hr pins { s3 with heap:=s3.heap.push { cls:=.type "slice",data:=.fields #[vl,vu,.none] } } σ H3 x v vl vu l u s3.heap.objs.size Q I4 r1 (Heap.IsSliceOf.new ..) pl pu q3
 show wpAny (model X.prog X.w) X.A (subscriptTail e (.Slice lo hi none p2) v (.ref s3.heap.objs.size)) (EP X pins σ Q) X.xe { s3 with heap:=s3.heap.push { cls:=.type "slice",data:=.fields #[vl,vu,.none] } }
 exact tail_any (ops:=[.ref s3.heap.objs.size,v]) ht hT hg (by with_unfolding_all rfl)
def cutV (xs:List V) (lo hi:Option Int):List V:=(xs.drop (HT.sIx xs.length 0 lo)).take (HT.sIx xs.length xs.length hi - HT.sIx xs.length 0 lo)
theorem zhZ (xs:List V) (lo hi:Option Int):(cutV xs lo hi).length<=xs.length:=by
 unfold cutV
 rw [List.length_take,List.length_drop]
 omega
def rSlT (K:PySem.W.Frag):V->Option Int->Option Int->Hp->VK->Prop:=λ x lo hi H Q=>∃ a xs,x=.ref a/\SqT K H a xs /\
 ¬ (HT.sIx xs.length 0 lo=0/\HT.sIx xs.length xs.length hi=xs.length)/\∀ p,H p=none->Q (.ref p) (upd H p (.tup (cutV xs lo hi)))
theorem zsD:SlR X (rSlT X.K):=by
 intro pins s σ H x v vl vu lo hi sl Q I rx hs pl pu h
 obtain ⟨a,xs,rfl,hx,hw,q⟩:=h
 cases rx
 obtain ⟨its,r,ht,hz⟩:=I.tuple hx
 have hlen:its.toArray.size=xs.length:=by rw [List.size_toArray]; exact r.length.symm
 refine ⟨"tuple",_,PyProof.Rows.slot_tuple_getitem.lookup,ht.typeIs,?_⟩
 refine HT.zgi ht hs pl pu (by rw [hlen]; exact hw) ?_ (by rw [hlen]; exact hz)
 rw [hlen]
 refine ⟨.ref s.heap.objs.size,_,I.laid (t':=s.toks) (o:=.tup (cutV xs lo hi)) (λ b ob q=>Heap.get?_push_of_some _ q) (Nat.le_refl _) ?_,rfl,q _ (I.hok.fresh (Nat.le_refl _))⟩
 exact ⟨Nat.le_trans (zhZ xs lo hi) hz,_,(r.drop (HT.sIx xs.length 0 lo)).take (HT.sIx xs.length xs.length hi - HT.sIx xs.length 0 lo),IsTup.new _ _⟩
end
end L2
namespace L2
open PySem PySem.Spec PyProof.Rows
def ixN (n:Nat) (i:Int):Option Nat:=if 0<=i then (if i < n then some i.toNat else none) else if -(n:Int)<=i then some (i+n).toNat else none
def atI {α:Type} (xs:List α) (i:Int):Option α:=(ixN xs.length i).bind λ j=>xs[j]?
theorem zpg {n:Nat} {i:Int} {j:Nat} (h:ixN n i=some j):seqIndex? i n=some j/\j < n/\-(n:Int)<=i/\i < n:=by
 unfold ixN at h
 by_cases h0:0<=i
 . rw [if_pos h0] at h
   by_cases h1:i < n
   . rw [if_pos h1] at h
     have e:i.toNat=j:=Option.some.inj h
     exact ⟨by rw [seqIndex_of h0 h1,e],by omega,by omega,h1⟩
   . rw [if_neg h1] at h; cases h
 . rw [if_neg h0] at h
   by_cases h1:-(n:Int)<=i
   . rw [if_pos h1] at h
     have e:(i+n).toNat=j:=Option.some.inj h
     exact ⟨by rw [seqIndex_neg (by omega) h1,e],by omega,h1,by omega⟩
   . rw [if_neg h1] at h; cases h
theorem zmv {α:Type} {xs:List α} {i:Int} {v:α} (h:atI xs i=some v):∃ j,seqIndex? i xs.length=some j/\xs[j]?=some v/\j < xs.length/\-(xs.length:Int)<=i/\i < xs.length:=by
 unfold atI at h
 cases e:ixN xs.length i with
 | none=>rw [e] at h; cases h
 | some j =>
  rw [e] at h
  obtain ⟨h1,h2,h3,h4⟩:=zpg e
  exact ⟨j,h1,h,h2,h3,h4⟩
theorem zbq {α:Type} {xs:List α} {j:Nat} {v:α} (h:xs[j]?=some v):atI xs (j:Int)=some v:=by
 have hj:j < xs.length:=(List.getElem?_eq_some_iff.mp h).1
 have e:ixN xs.length (j:Int)=some j:=by
  unfold ixN
  rw [if_pos (by omega),if_pos (by omega)]; simp
 unfold atI; rw [e]; exact h
def zsd (b:Expr):Prop:=∀ o i,subscripted b false o i=operate [o,i] (getItem o i)
def IxR (X:Cx) (r:R2):Prop :=
 ∀ (value slice:Expr) (pins:List (Addr×Obj)) (s:Shared) (σ:St) (H:Hp) (x y:V) (v u:Value) (Q:VK),Inv X pins σ H s->RelV x v->RelV y u->r x y H Q ->
  subscripted slice false v u=operate [v,u] (getItem v u)->wpAny (model X.prog X.w) X.A (subscriptTail value slice v u) (EP X pins σ Q) X.xe s
def MtR (X:Cx) (id:String) (r:V->List V->Hp->VK->Prop):Prop :=
 ∀ (pins:List (Addr×Obj)) (s:Shared) (σ:St) (H:Hp) (x:V) (xs:List V) (v:Value) (us:List Value) (Q:VK),Inv X pins σ H s->RelV x v->Vals xs us->r x xs H Q ->
  wpAny (model X.prog X.w) X.A (call (.builtin id) (v::us)) (EP X pins σ Q) X.xe s
section
variable {X:Cx} {a b:Expr} {ta tb:TE} {pos:Pos}
theorem zaY {r:R2} (hr:IxR X r) (ha:PE X a ta) (hb:PE X b tb) (hs:zsd b):PE X (.Subscript a b pos) (tOp r ta tb):=by
 intro pins s σ H Q I h
 exact Subscript_ (binT ha hb I h λ v u s2 x y H2 I2 rx ry q=>hr a b pins s2 σ H2 x y v u Q I2 rx ry q (hs _ _))
def rIxL (K:PySem.W.Frag):R2:=λ x y H Q=>∃ p xs i v,x=.ref p/\y=.int i/\SqL K H p xs/\atI xs i=some v/\Q v H
def rIxT (K:PySem.W.Frag):R2:=λ x y H Q=>∃ p xs i v,x=.ref p/\y=.int i/\SqT K H p xs/\atI xs i=some v/\Q v H
def rIxS:R2:=λ x y H Q=>∃ z i c,x=.str z/\y=.int i/\z.length<=sizeLine/\atI z.cps.toList i=some c/\Q (.str ⟨#[c]⟩) H
theorem zbp:IxR X (rIxL X.K):=by
 intro value slice pins s σ H x y v u Q I rx ry h hs
 obtain ⟨p,xs,i,z,rfl,rfl,hq,he,q⟩:=h
 cases rx
 obtain ⟨t,rfl⟩:=ry
 obtain ⟨its,r,pl,hz⟩:=I.list hq
 obtain ⟨j,h1,h2,h3,h4,h5⟩:=zmv he
 obtain ⟨w,ew,rw'⟩:=r.get h2
 have hl:=r.length
 have hn:=znf
 have fin:EP X pins σ Q w s:=⟨z,H,I,rw',q⟩
 by_cases h0:0<=i
 . have hj:i.toNat=j:=by
    rw [seqIndex_of h0 h5] at h1
    exact Option.some.inj h1
   exact item_listR pl.isList h0 (by omega) (by rw [hj]; simpa using ew) fin hs
 . have hj:(i+(its.toArray.size:Int)).toNat=j:=by
    rw [seqIndex_neg (by omega) h4] at h1
    rw [List.size_toArray,<-hl]
    exact Option.some.inj h1
   exact subscriptTail_builtinR (x:=w) pl.isList.typeIs slot_list_getitem.lookup
    (wpAny_getItem_list_neg (Q:=λ r s'=>r=w/\EP X pins σ Q r s') pl.isList (by omega) (by rw [List.size_toArray] <;> omega) (by omega) (by rw [hj]; simpa using ew) ⟨rfl,fin⟩) hs
theorem zbj:IxR X (rIxT X.K):=by
 intro value slice pins s σ H x y v u Q I rx ry h hs
 obtain ⟨p,xs,i,z,rfl,rfl,hq,he,q⟩:=h
 cases rx
 obtain ⟨t,rfl⟩:=ry
 obtain ⟨its,r,pl,hz⟩:=I.tuple hq
 obtain ⟨j,h1,h2,h3,h4,h5⟩:=zmv he
 obtain ⟨w,ew,rw'⟩:=r.get h2
 have hl:=r.length
 have hn:=znf
 have fin:EP X pins σ Q w s:=⟨z,H,I,rw',q⟩
 exact subscriptTail_builtinR (x:=w) pl.typeIs slot_tuple_getitem.lookup
  (getItem_tuple (j:=j) (Q:=λ r s'=>r=w/\EP X pins σ Q r s') pl (by omega) (by omega) (by rw [List.size_toArray,<-hl]; exact h1) (by simpa using ew) ⟨rfl,fin⟩) hs
theorem zni:IxR X rIxS:=by
 intro value slice pins s σ H x y v u Q I rx ry h hs
 obtain ⟨z,i,c,rfl,rfl,hz,he,q⟩:=h
 obtain ⟨t,rfl⟩:=rx
 obtain ⟨t',rfl⟩:=ry
 obtain ⟨j,h1,h2,h3,h4,h5⟩:=zmv he
 have hl:z.cps.toList.length=z.length:=by simp [Str.length]
 rw [hl] at h1 h4 h5
 have hn:=znf
 exact tail_any (typeIs_str s z t) slot_str_getitem.lookup (getItem_str (c:=c) (by
  have e1:decide (i < -(2 ^ 63:Int))=false:=decide_eq_false (by omega)
  have e2:decide (i ≥ 2 ^ 63)=false:=decide_eq_false (by omega)
  rw [e1,e2,Bool.or_false]) (by rw [h1]; simpa using h2) ⟨.str ⟨#[c]⟩,H,I.tok _,⟨_,rfl⟩,q⟩) hs
theorem zkn (lo hi:Option Int) (n:Nat):(sliceBounds lo hi none n).1=((HT.sIx n 0 lo:Nat):Int)/\(sliceBounds lo hi none n).2.1=((HT.sIx n n hi:Nat):Int)/\(sliceBounds lo hi none n).2.2=1:=by
 refine ⟨?_,?_,rfl⟩
 . cases lo with
   | none=>simp [sliceBounds,HT.sIx]
   | some i =>
    simp only [sliceBounds,HT.sIx,Option.getD_none,show (1:Int) > 0 by decide,if_true]
    by_cases h:i < 0
    . simp only [h,if_true] <;> omega
    . simp only [h,if_false] <;> omega
 . cases hi with
   | none=>simp [sliceBounds,HT.sIx]
   | some i =>
    simp only [sliceBounds,HT.sIx,Option.getD_none,show (1:Int) > 0 by decide,if_true]
    by_cases h:i < 0
    . simp only [h,if_true] <;> omega
    . simp only [h,if_false] <;> omega
theorem zjg (its:List Value) (lo hi:Option Int):slicePick its.toArray lo hi none=((its.drop (HT.sIx its.length 0 lo)).take (HT.sIx its.length its.length hi - HT.sIx its.length 0 lo)).toArray:=by
 obtain ⟨h1,h2,h3⟩:=zkn lo hi its.toArray.size
 unfold slicePick
 rw [h1,h2,h3]
 simp only [sliceRange_one,pick_run,List.size_toArray] <;> rfl
def rSlL (K:PySem.W.Frag):V->Option Int->Option Int->Hp->VK->Prop:=λ x lo hi H Q=>∃ a xs,x=.ref a/\SqL K H a xs/\∀ p,H p=none->Q (.ref p) (upd H p (.lst (cutV xs lo hi)))
theorem zrE:SlR X (rSlL X.K):=by
 intro pins s σ H x v vl vu lo hi sl Q I rx hs pl pu h
 obtain ⟨a,xs,rfl,hx,q⟩:=h
 cases rx
 obtain ⟨its,r,ht,hz⟩:=I.list hx
 have hlen:=r.length
 refine ⟨"list",_,slot_list_getitem.lookup,ht.isList.typeIs,?_⟩
 refine wpAny_getItem_list_slice ht.isList hs pl pu .none (by simp) ?_ (by rw [List.size_toArray] <;> omega)
 rw [zjg,<-hlen]
 refine ⟨.ref s.heap.objs.size,_,I.laid (t':=s.toks) (o:=.lst (cutV xs lo hi)) (λ b ob q=>Heap.get?_push_of_some _ q) (Nat.le_refl _) ?_,rfl,q _ (I.hok.fresh (Nat.le_refl _))⟩
 exact ⟨Nat.le_trans (zhZ xs lo hi) hz,_,0,(r.drop (HT.sIx xs.length 0 lo)).take (HT.sIx xs.length xs.length hi - HT.sIx xs.length 0 lo),Heap.get?_push_size _ rfl⟩
def zlb:V->Bool
 | .non=>true
 | .bl _=>true
 | .int _=>true
 | .str _=>true
 | _=>false
def eqV:V->V->Bool
 | .non,.non=>true
 | .bl a,.bl b=>a == b
 | .bl a,.int b=>(if a then 1 else 0) == b
 | .int a,.bl b=>a == (if b then 1 else 0)
 | .int a,.int b=>a == b
 | .str a,.str b=>a == b
 | _,_=>false
theorem zs8 {A:Around} {s:Shared} {y x:V} {u v:Value} (ry:RelV y u) (rx:RelV x v) (fy:zlb y=true) (fx:zlb x=true):SeqAt.EqAt A s u v (eqV y x):=by
 cases y with
 | non =>
  cases ry
  cases x with
  | non=>cases rx; exact SeqAt.EqAt.same _
  | bl b=>cases rx; exact SeqAt.EqAt.none_bool b
  | int b=>obtain ⟨t,rfl⟩:=rx; exact SeqAt.EqAt.none_int b t
  | str b=>obtain ⟨t,rfl⟩:=rx; exact SeqAt.EqAt.none_str b t
  | _=>exact absurd (show false=true from fx) Bool.false_ne_true
 | bl a =>
  cases ry
  cases x with
  | non=>cases rx; exact SeqAt.EqAt.bool_none a
  | bl b=>cases rx; exact SeqAt.EqAt.bool_bool a b
  | int b=>obtain ⟨t,rfl⟩:=rx; exact SeqAt.EqAt.bool_int a b t
  | str b=>obtain ⟨t,rfl⟩:=rx; exact SeqAt.EqAt.bool_str a b t
  | _=>exact absurd (show false=true from fx) Bool.false_ne_true
 | int a =>
  obtain ⟨t',rfl⟩:=ry
  cases x with
  | non=>cases rx; exact SeqAt.EqAt.int_none a t'
  | bl b=>cases rx; exact SeqAt.EqAt.int_bool a t' b
  | int b=>obtain ⟨t,rfl⟩:=rx; exact SeqAt.EqAt.int_int a t' b t
  | str b=>obtain ⟨t,rfl⟩:=rx; exact SeqAt.EqAt.int_str a t' b t
  | _=>exact absurd (show false=true from fx) Bool.false_ne_true
 | str a =>
  obtain ⟨t',rfl⟩:=ry
  cases x with
  | non=>cases rx; exact SeqAt.EqAt.str_none a t'
  | bl b=>cases rx; exact SeqAt.EqAt.str_bool a t' b
  | int b=>obtain ⟨t,rfl⟩:=rx; exact SeqAt.EqAt.str_int a t' b t
  | str b=>obtain ⟨t,rfl⟩:=rx; exact SeqAt.EqAt.str_str a t' b t
  | _=>exact absurd (show false=true from fx) Bool.false_ne_true
 | _=>exact absurd (show false=true from fy) Bool.false_ne_true
def eqU (x:V) (u:Value):Bool:=match u with
 | .none=>eqV .non x
 | .bool b=>eqV (.bl b) x
 | .int i _=>eqV (.int i) x
 | .str z _=>eqV (.str z) x
 | _=>false
theorem zrf {x y:V} {u:Value} (r:RelV y u) (f:zlb y=true):eqU x u=eqV y x:=by
 cases y with
 | non=>cases r; rfl
 | bl b=>cases r; rfl
 | int i=>obtain ⟨t,rfl⟩:=r; rfl
 | str z=>obtain ⟨t,rfl⟩:=r; rfl
 | _=>exact absurd (show false=true from f) Bool.false_ne_true
theorem zmw {x:V}:∀ {xs:List V} {us:List Value},Vals xs us->xs.all zlb=true->us.any (eqU x)=xs.any λ y=>eqV y x
 | _,_,.nil,_=>rfl
 | y::xs,u::us,.cons r t,f=>by
  rw [List.all_cons,Bool.and_eq_true] at f
  rw [List.any_cons,List.any_cons,zrf r f.1,zmw t f.2]
theorem zjD {A:Around} {s:Shared} {x:V} {v:Value} (rx:RelV x v) (fx:zlb x=true):∀ {xs:List V} {us:List Value},Vals xs us->xs.all zlb=true->∀ u∈us,SeqAt.EqAt A s u v (eqU x u)
 | _,_,.nil,_=>λ u hu=>by cases hu
 | y::xs,u::us,.cons r t,f=>λ u' hu=>by
  rw [List.all_cons,Bool.and_eq_true] at f
  rcases List.mem_cons.mp hu with rfl | hu
  . rw [zrf r f.1]; exact zs8 r rx f.1 fx
  . exact zjD rx fx t f.2 u' hu
def inV (x:V) (xs:List V):Bool:=xs.any λ y=>eqV y x
def rIn (K:PySem.W.Frag) (neg:Bool):R2:=λ x y H Q=>∃ p xs,y=.ref p/\(SqL K H p xs\/SqT K H p xs)/\zlb x=true/\xs.all zlb=true/\Q (.bl (if neg then !inV x xs else inV x xs)) H
theorem zkC:OpR X (compareOp .NotIn) (rIn X.K true):=by
 intro pins s σ H x y v u Q I rx ry h
 obtain ⟨p,xs,rfl,hq,fx,fs,q⟩:=h
 cases ry
 rcases hq with hq | hq
 . obtain ⟨its,r,pl,hz⟩:=I.list hq
   refine SeqAt.notIn_listAt (eqU x) pl.isList (λ w hw=>zjD rx fx r fs w (by simpa using hw)) ⟨.bl _,H,I,rfl,?_⟩
   rw [show its.toArray.any (eqU x)=its.any (eqU x) by simp,zmw r fs]
   exact q
 . obtain ⟨its,r,pl,hz⟩:=I.tuple hq
   refine SeqAt.notIn_tupleAt (eqU x) pl (λ w hw=>zjD rx fx r fs w (by simpa using hw)) ⟨.bl _,H,I,rfl,?_⟩
   rw [show its.toArray.any (eqU x)=its.any (eqU x) by simp,zmw r fs]
   exact q
theorem zbk:ziE X (.builtin "len") (λ xs H Q=>∃ p ys,xs=[.ref p]/\(SqL X.K H p ys\/SqT X.K H p ys)/\Q (.int ys.length) H):=by
 intro pins s σ H xs us Q I r h
 obtain ⟨p,ys,rfl,hq,q⟩:=h
 obtain ⟨u,rfl,rx⟩:=vals1 r
 cases rx
 have hn:=znf
 rcases hq with hq | hq
 . obtain ⟨its,r',pl,hz⟩:=I.list hq
   have hlen:=r'.length
   exact Calls.call_len_list pl.isList (by simp only [List.size_toArray] <;> omega) ⟨.int ys.length,H,I.tok _,⟨s.toks+1,by rw [List.size_toArray,hlen]⟩,q⟩
 . obtain ⟨its,r',pl,hz⟩:=I.tuple hq
   have hlen:=r'.length
   exact len_tuple pl (by simp only [List.size_toArray] <;> omega) ⟨.int ys.length,H,I.tok _,⟨s.toks+1,by rw [List.size_toArray,hlen]⟩,q⟩
theorem zbO:ziE X (.type "tuple") (λ xs H Q=>∃ p ys,xs=[.ref p]/\((SqL X.K H p ys/\∀ l,H l=none->Q (.ref l) (upd H l (.tup ys)))\/(SqT X.K H p ys/\Q (.ref p) H))):=by
 intro pins s σ H xs us Q I r h
 obtain ⟨p,ys,rfl,h⟩:=h
 obtain ⟨u,rfl,rx⟩:=vals1 r
 cases rx
 rcases h with ⟨hq,q⟩ | ⟨hq,q⟩
 . obtain ⟨its,r',pl,hz⟩:=I.list hq
   have hlen:=r'.length
   refine call_tuple_list pl.isList (λ h' kp=>?_) (by simp only [List.size_toArray] <;> omega)
   have I1:Inv X pins σ H { s with heap:=h' }:=I.kept (t':=s.toks) kp
   have I2:Inv X pins σ (upd H h'.objs.size (.tup ys)) { s with heap:=h'.push { cls:=.type "tuple",data:=.seq its.toArray } } :=
    I1.laid (t':=s.toks) (λ b o e=>Heap.get?_push_of_some _ e) (Nat.le_refl _) (show zbV X.prog X.w _ _ _ (.tup ys) from ⟨hz,its,r',IsTup.new _ _⟩)
   exact ⟨.ref h'.objs.size,_,I2,rfl,q _ (I1.hok.fresh (Nat.le_refl _))⟩
 . obtain ⟨its,r',pl,hz⟩:=I.tuple hq
   exact call_tuple_same pl ⟨.ref p,H,I,rfl,q⟩
def tyV (K:PySem.W.Frag) (T:String) (x:V) (H:Hp):Prop:=match x with
 | .str _=>T = "str"
 | .int _=>T = "int"
 | .ref p=>(T = "list" /\ ∃ xs,SqL K H p xs)\/(T = "tuple" /\ ∃ o,K.lookup p=some o/\o.cls=.type "tuple" /\ o.dict=none) \/
  (T = "dict" /\ ((∃ kvs,H p=some (.dK kvs))\/∃ kvs,H p=some (.dT kvs)))\/(T = "set" /\ ∃ S n,H p=some (.set S n))
 | _=>False
theorem zqX {pins:List (Addr×Obj)} {σ:St} {H:Hp} {s:Shared} {T:String} {x:V} {v:Value} (I:Inv X pins σ H s) (r:RelV x v) (ty:tyV X.K T x H) :
  s.TypeIs v T/\∀ a,v=.ref a->∃ ob,s.heap.get? a=some ob/\ob.dict=none:=by
 cases x with
 | str z =>
  obtain ⟨t,rfl⟩:=r
  cases (show T = "str" from ty)
  exact ⟨typeIs_str s z t,λ _ e=>nomatch e⟩
 | int i =>
  obtain ⟨t,rfl⟩:=r
  cases (show T = "int" from ty)
  exact ⟨typeIs_int s i t,λ _ e=>nomatch e⟩
 | ref p =>
  cases r
  rcases ty with ⟨rfl,xs,hq⟩ | ⟨rfl,o,hk,hc,hd⟩ | ⟨rfl,hk⟩ | ⟨rfl,S,n,hk⟩
  . obtain ⟨its,_,pl,_⟩:=I.list hq
    refine ⟨pl.isList.typeIs,λ a e=>?_⟩
    cases e
    obtain ⟨o,n,e,c,hd,_⟩:=pl
    exact ⟨o,e,hd⟩
  . refine ⟨⟨o,I.kIn p o hk,hc⟩,λ a e=>?_⟩
    cases e
    exact ⟨o,I.kIn _ o hk,hd⟩
  . have z:∃ o,s.heap.get? p=some o/\o.ExactDict:=by
     rcases hk with ⟨kvs,hk⟩ | ⟨kvs,hk⟩
     . obtain ⟨_,_,_,_,o,_,_,e,ex,_⟩:=I.hok p _ hk
       exact ⟨o,e,ex⟩
     . obtain ⟨_,_,_,_,o,_,_,e,ex,_⟩:=I.hok p _ hk
       exact ⟨o,e,ex⟩
    obtain ⟨o,e,ex⟩:=z
    refine ⟨⟨o,e,ex.1⟩,λ a e2=>?_⟩
    cases e2
    exact ⟨o,e,ex.2.1⟩
  . obtain ⟨o,_,_,_,e,ex,_⟩:=I.hok p _ hk
    refine ⟨⟨o,e,ex.1⟩,λ a e2=>?_⟩
    cases e2
    exact ⟨o,e,ex.2.1⟩
 | _=>exact False.elim ty
def tBM0 (K:PySem.W.Frag) (T:String) (r:V->List V->Hp->VK->Prop) (to:TE):TE:=λ σ H Q=>to σ H λ x H1=>tyV K T x H1/\r x [] H1 Q
def tBM (K:PySem.W.Frag) (T:String) (r:V->List V->Hp->VK->Prop) (to:TE) (t:TA):TE:=λ σ H Q=>to σ H λ x H1=>tyV K T x H1/\t σ H1 λ xs H2=>r x xs H2 Q
variable {o e:Expr} {es:List Expr} {to:TE} {t:TA} {name:Str} {apos cpos:Pos} {T id:String} {r:V->List V->Hp->VK->Prop}
theorem zoN (pa:PlainAttrs T) (slot:Slot T name id) (hty:typeOf (.builtin id)=pure (.type "method_descriptor")) (hm:MtR X id r) (ho:PE X o to)
  (hbase:attributeBase o name X.env (eval o X.env)=eval o X.env:=by rfl) (hline:(apos.endLine == cpos.line)=true:=by rfl):PE X (.Call (.Attribute o name apos) [] [] cpos) (tBM0 X.K T r to):=by
 intro pins s σ H Q I h
 refine wpAny_Call_method0_late hbase hline (thn (ho pins s σ H _ I h) λ v s1 ⟨x,H1,I1,r1,ty,q1⟩=>?_)
 obtain ⟨h1,h2⟩:=zqX I1 r1 ty
 exact ⟨T,id,pa,slot,hty,h1,h2,Calls.callWith_builtin rfl (PySem.evalArgs_none (hm pins s1 σ H1 x [] v [] Q I1 r1 .nil q1))⟩
theorem zee (pa:PlainAttrs T) (slot:Slot T name id) (hty:typeOf (.builtin id)=pure (.type "method_descriptor")) (hm:MtR X id r) (ho:PE X o to) (ha:PA X (e::es) t)
  (hbase:attributeBase o name X.env (eval o X.env)=eval o X.env:=by rfl)
  (hfew:((backTo cpos (starEach (e::es) X.env)).all (λ x=>!x.1) && (backToKw cpos (keywordEach [] X.env)).all (λ x=>x.1.isSome)
   && decide ((e::es).length+([]:List Keyword).length+(if ([]:List Keyword).isEmpty then 0 else 1) < 30))=true:=by rfl)
  (hline:(apos.endLine == cpos.line)=true:=by rfl) (hs:starEach (e::es) X.env=(false,eval e X.env)::starEach es X.env:=by rfl) (hplain:(backTo cpos (starEach es X.env)).any (·.1)=false:=by rfl) :
  PE X (.Call (.Attribute o name apos) (e::es) [] cpos) (tBM X.K T r to t):=by
 intro pins s σ H Q I h
 refine wpAny_Call_method_late hbase hfew hline rfl (thn (ho pins s σ H _ I h) λ v s1 ⟨x,H1,I1,r1,ty,q1⟩=>?_)
 obtain ⟨h1,h2⟩:=zqX I1 r1 ty
 refine ⟨T,id,pa,slot,hty,h1,h2,?_⟩
 have hA:=ha cpos pins s1 σ H1 _ I1 q1
 rw [hs] at hA ⊢
 refine Calls.callWith_builtin (by show (false || (backTo cpos (starEach es X.env)).any (·.1))=false; rw [hplain] <;> rfl) (Calls.evalArgs_plain ?_)
 exact thn hA λ us s2 ⟨vs,H2,I2,r2,q2⟩=>hm pins s2 σ H2 x vs v us Q I2 r1 r2 q2
end
end L2
namespace L2
open PySem PySem.Spec PyProof.Rows
def MtM (X:Cx) (id:String) (r:V->List V->Hp->VK->Prop):Prop :=
 ∀ (pins:List (Addr×Obj)) (s:Shared) (σ:St) (H:Hp) (x:V) (xs:List V) (v:Value) (us:List Value) (Q:VK),Inv X pins σ H s->RelV x v->Vals xs us->r x xs H Q ->
  wpAny (model X.prog X.w) X.A (call (.builtin id) (v::us)) (EP X pins σ Q) X.xe s
theorem Vals.one:∀ {x:V} {us:List Value},Vals [x] us->∃ u,us=[u]/\RelV x u
 | _,_,.cons r .nil=>⟨_,rfl,r⟩
theorem Vals.two:∀ {x y:V} {us:List Value},Vals [x,y] us->∃ u v,us=[u,v]/\RelV x u/\RelV y v
 | _,_,_,.cons r (.cons q .nil)=>⟨_,_,rfl,r,q⟩
theorem Vals.zero:∀ {us:List Value},Vals [] us->us=[]
 | _,.nil=>rfl
theorem Vals.dropLast {xs:List V} {us:List Value} (h:Vals xs us):Vals xs.dropLast us.dropLast:=by
 induction h with
 | nil=>exact .nil
 | cons r t ih =>
  cases t with
  | nil=>exact .nil
  | cons q t'=>exact .cons r ih
theorem Vals.eraseIdx:∀ {xs:List V} {us:List Value} (i:Nat),Vals xs us->Vals (xs.eraseIdx i) (us.eraseIdx i)
 | _,_,_,.nil=>.nil
 | _,_,0,.cons _ t=>t
 | _,_,i+1,.cons r t=>.cons r (Vals.eraseIdx i t)
theorem zn6 {α:Type} (l:List α):l.eraseIdx (l.length - 1)=l.dropLast:=by
 induction l with
 | nil=>rfl
 | cons a r ih =>
  cases r with
  | nil=>rfl
  | cons b r =>
   have e:(a::b::r).length - 1=((b::r).length - 1)+1:=by
    have h1:(a::b::r).length=r.length+2:=rfl
    have h2:(b::r).length=r.length+1:=rfl
    omega
   rw [e,List.eraseIdx_cons_succ,ih]
   all_goals rfl
theorem zk0 {α:Type}:∀ (l:List α) (i:Nat),(l.eraseIdx i).length<=l.length
 | [],_=>Nat.le_refl _
 | _::_,0=>Nat.le_succ _
 | _::r,i+1=>Nat.succ_le_succ (zk0 r i)
section
variable {X:Cx} {pins:List (Addr×Obj)} {σ:St} {H:Hp} {s:Shared} {l b:Addr} {xs ys zs:List V}
theorem Inv.lset {its its':List Value} {n:Nat} {f:Array Value->Array Value} {t':Nat} (I:Inv X pins σ H s) (hH:H l=some (.lst xs))
  (e:s.heap.get? l=some { cls:=.type "list",data:=.seq its.toArray n }) (hf:f its.toArray=its'.toArray) (hv:Vals ys its') (hz:ys.length<=sizeLine) :
  Inv X pins σ (upd H l (.lst ys)) { s with heap:=s.heap.update l (Obj.mapSeq f),toks:=t' }:=by
 have q:=PySem.IsL.update e f
 rw [hf] at q
 refine I.write (x:=l) (e:=l) (by rw [hH]; exact trivial) (.inl rfl) (λ b' u hb hu=>(Heap.get?_update_other s.heap (Obj.mapSeq f) (Ne.symm hb)).trans hu) ⟨_,q⟩ ?_
 exact ⟨hz,its',_,hv,q⟩
theorem Inv.fresh (I:Inv X pins σ H s):H s.heap.objs.size=none:=I.hok.fresh (Nat.le_refl _)
theorem Inv.lstM (I:Inv X pins σ H s) (hH:H l=some (.lst xs)):xs.length<=sizeLine/\∃ (its:List Value) (n:Nat),Vals xs its/\xs.length=its.length/\s.heap.get? l=some { cls:=.type "list",data:=.seq its.toArray n }:=by
 obtain ⟨z,its,n,r,e⟩:=I.hok l _ hH
 exact ⟨z,its,n,r,r.length,e⟩
end
section
variable {X:Cx}
def zrK:V->List V->Hp->VK->Prop:=λ x vs H Q=>∃ l xs y,x=.ref l/\vs=[y]/\H l=some (.lst xs)/\xs.length < sizeLine/\Q .non (upd H l (.lst (xs++[y])))
theorem zbs:MtM X "list.append" zrK:=by
 intro pins s σ H x vs v us Q I rx rv h
 obtain ⟨l,xs,y,rfl,rfl,hH,hz,q⟩:=h
 cases rx
 obtain ⟨u,rfl,ru⟩:=rv.one
 obtain ⟨z,its,n,r,hl,e⟩:=I.lstM hH
 refine call_meets F.slot_list_append ⟨_,e,rfl⟩ F.entry_list_append (F.args_list_append_2 _ _) (PySem.list_append l its.toArray n u (by rw [List.size_toArray]; omega)) ⟨e,?_⟩
 refine ⟨.non,_,I.lset (its':=its++[u]) hH e (by simp) (r.append (.cons ru .nil)) ?_,rfl,q⟩
 rw [List.length_append,List.length_singleton]
 omega
def rPop:V->List V->Hp->VK->Prop:=λ x vs H Q=>∃ l xs y,x=.ref l/\vs=[]/\H l=some (.lst xs)/\xs[xs.length - 1]?=some y/\Q y (upd H l (.lst xs.dropLast))
theorem zq5:MtM X "list.pop" rPop:=by
 intro pins s σ H x vs v us Q I rx rv h
 obtain ⟨l,xs,y,rfl,rfl,hH,hy,q⟩:=h
 cases rx
 have hus:=rv.zero
 subst hus
 obtain ⟨z,its,n,r,hl,e⟩:=I.lstM hH
 obtain ⟨u,hu,ru⟩:=r.get hy
 have hy':its.toArray[its.toArray.size - 1]?=some u:=by
   show its.toArray[its.length - 1]?=some u
   rw [<-Array.getElem?_toList,<-hl]
   exact hu
 refine call_meets F.slot_list_pop ⟨_,e,rfl⟩ F.entry_list_pop (F.args_list_pop_1 _) (MeetsSeq.list_pop_last l its.toArray n u hy' (by rw [List.size_toArray]; omega)) ⟨e,?_⟩
 refine ⟨y,_,I.lset (its':=its.dropLast) hH e ?_ r.dropLast ?_,ru,q⟩
 . show its.toArray.eraseIdxIfInBounds (its.toArray.size - 1)=its.dropLast.toArray
   rw [List.size_toArray,List.eraseIdxIfInBounds_toArray,zn6]
 . rw [List.length_dropLast]
   omega
def zsJ:V->List V->Hp->VK->Prop:=λ x vs H Q=>∃ l xs i k y,x=.ref l/\vs=[.int i]/\H l=some (.lst xs)/\-(2 ^ 63)<=i/\i < 2 ^ 63/\seqIndex? i xs.length=some k/\xs[k]?=some y/\Q y (upd H l (.lst (xs.eraseIdx k)))
theorem zqs:MtM X "list.pop" zsJ:=by
 intro pins s σ H x vs v us Q I rx rv h
 obtain ⟨l,xs,i,k,y,rfl,rfl,hH,h1,h2,hk,hy,q⟩:=h
 cases rx
 obtain ⟨u,rfl,ru⟩:=rv.one
 obtain ⟨t,rfl⟩:=ru
 obtain ⟨z,its,n,r,hl,e⟩:=I.lstM hH
 obtain ⟨w,hw,rw'⟩:=r.get hy
 refine call_meets F.slot_list_pop ⟨_,e,rfl⟩ F.entry_list_pop (F.args_list_pop_2 _ _)
   (MeetsSeq.list_pop_at l its.toArray n i t k w (fitsIndex_both h1 h2) (by rw [List.size_toArray,<-hl]; exact hk) (by rw [<-Array.getElem?_toList]; exact hw) (by rw [List.size_toArray]; omega)) ⟨e,?_⟩
 refine ⟨y,_,I.lset (its':=its.eraseIdx k) hH e ?_ (r.eraseIdx k) ?_,rw',q⟩
 . show its.toArray.eraseIdxIfInBounds k=(its.eraseIdx k).toArray
   rw [List.eraseIdxIfInBounds_toArray]
 . have:=zk0 xs k
   omega
end
section
variable {prog:Program} {w:World} {A:Around} {E:Value->Shared->Prop} {s:Shared}
set_option maxRecDepth 100000 in
end
section
variable {X:Cx}
end
end L2
namespace L2
open PySem PySem.Spec PyProof.Rows
section
variable {κ:Type} [DecidableEq κ]
def valV (kvs:List (κ×V)) (k:κ):Option V:=(kvs.find? λ kv=>decide (kv.1=k)).map (·.2)
def putK (kvs:List (κ×V)) (k:κ) (v:V):List (κ×V) :=
 if (kvs.any λ kv=>decide (kv.1=k))=true then kvs.map (λ kv=>if kv.1=k then (kv.1,v) else kv) else kvs++[(k,v)]
def ziu (kvs:List (κ×V)) (k:κ):List (κ×V):=kvs.filter λ kv=>decide (kv.1≠k)
theorem zby {p:κ×V} {r:List (κ×V)} {k:κ} (e:p.1=k):valV (p::r) k=some p.2:=by simp [valV,List.find?_cons,e]
theorem zbz {p:κ×V} {r:List (κ×V)} {k:κ} (e:¬ p.1=k):valV (p::r) k=valV r k:=by simp [valV,List.find?_cons,e]
theorem zfq (k:κ):∀ kvs:List (κ×V),(kvs.any λ kv=>decide (kv.1=k))=(valV kvs k).isSome
 | []=>rfl
 | p::r=>by
  rw [List.any_cons]
  by_cases e:p.1=k
  . simp only [zby e,decide_eq_true e,Bool.true_or,Option.isSome_some]
  . rw [zbz e,decide_eq_false e,Bool.false_or]; exact zfq k r
theorem zmP (k j:κ) (y:V):∀ kvs:List (κ×V),valV (kvs.map λ kv=>if kv.1=k then (kv.1,y) else kv) j=(valV kvs j).map λ x=>if j=k then y else x
 | []=>rfl
 | p::r=>by
  have ih:=zmP k j y r
  rw [List.map_cons]
  by_cases h:p.1=k
  . rw [if_pos h]
    by_cases e:p.1=j
    . rw [zby (p:=(p.1,y)) e,zby e,Option.map_some,if_pos (e.symm.trans h)]
    . rw [zbz (p:=(p.1,y)) e,zbz e,ih]
  . rw [if_neg h]
    by_cases e:p.1=j
    . rw [zby (p:=p) e,zby e,Option.map_some,if_neg (λ z=>h (e.trans z))]
    . rw [zbz (p:=p) e,zbz e,ih]
theorem zj9 (k j:κ) (y:V):∀ kvs:List (κ×V),valV kvs k=none->valV (kvs++[(k,y)]) j=if j=k then some y else valV kvs j
 | [],_=>by
  by_cases e:k=j
  . rw [if_pos e.symm]; exact zby (p:=(k,y)) e
  . rw [if_neg (λ z=>e z.symm)]; exact zbz (p:=(k,y)) e
 | p::r,hn=>by
  rw [List.cons_append]
  have hk:¬ p.1=k:=λ z=>by rw [zby z] at hn; cases hn
  rw [zbz hk] at hn
  have ih:=zj9 k j y r hn
  by_cases e:p.1=j
  . rw [zby e,zby e,if_neg (λ z=>hk (e.trans z))]
  . rw [zbz e,zbz e,ih]
theorem zmO (kvs:List (κ×V)) (k j:κ) (y:V):valV (putK kvs k y) j=if j=k then some y else valV kvs j:=by
 unfold putK
 by_cases a:(kvs.any λ kv=>decide (kv.1=k))=true
 . rw [if_pos a,zmP]
   rw [zfq] at a
   by_cases e:j=k
   . obtain ⟨x,hx⟩:=Option.isSome_iff_exists.mp a
     rw [if_pos e,e,hx,Option.map_some,if_pos rfl]
   . rw [if_neg e]
     cases valV kvs j with
     | none=>rfl
     | some x=>rw [Option.map_some,if_neg e]
 . rw [if_neg a]
   refine zj9 k j y kvs ?_
   rw [zfq] at a
   cases q:valV kvs k with
   | none=>rfl
   | some x=>rw [q] at a; exact (a rfl).elim
theorem zfj (kvs:List (κ×V)) (k:κ) (v:V):(putK kvs k v).length<=kvs.length+1:=by
 unfold putK
 split
 . rw [List.length_map]; omega
 . rw [List.length_append,List.length_cons,List.length_nil]; omega
theorem zm0 {kvs:List (κ×V)} {k:κ} (v:V) (h:valV kvs k=none):putK kvs k v=kvs++[(k,v)]:=by
 unfold putK
 rw [zfq,h]
 exact if_neg (by decide)
theorem RelO.zdv {o:Option V} {u:Option Value} (r:RelO o u):o.isSome=u.isSome:=by
 cases o with
 | none=>cases u with
  | none=>rfl
  | some _=>exact (show False from r).elim
 | some _=>cases u with
  | none=>exact (show False from r).elim
  | some _=>rfl
theorem RelO.getD {o:Option V} {u:Option Value} {d:V} {d':Value} (r:RelO o u) (rd:RelV d d'):RelV (o.getD d) (u.getD d'):=by
 cases o with
 | none=>cases u with
  | none=>exact rd
  | some _=>exact (show False from r).elim
 | some _=>cases u with
  | none=>exact (show False from r).elim
  | some _=>exact r
theorem KV.val {kvs:List (κ×V)} {vs:List (κ×Value)} (r:KV kvs vs) (k:κ):RelO (valV kvs k) (valueAt vs k):=by
 unfold KV at r
 induction r with
 | nil=>exact True.intro
 | @cons p q ps qs h t ih =>
  obtain ⟨h1,h2⟩:=h
  by_cases e:p.1=k
  . have e':q.1=k:=h1.symm.trans e
    have b:valueAt (q::qs) k=some q.2:=by simp [valueAt,List.find?_cons,e']
    rw [zby e,b]; exact h2
  . have e':¬ q.1=k:=λ z=>e (h1.trans z)
    have b:valueAt (q::qs) k=valueAt qs k:=by simp [valueAt,List.find?_cons,e']
    rw [zbz e,b]; exact ih
theorem KV.any {kvs:List (κ×V)} {vs:List (κ×Value)} (r:KV kvs vs) (k:κ):(kvs.any λ kv=>decide (kv.1=k))=vs.any λ kv=>decide (kv.1=k):=by
 unfold KV at r
 induction r with
 | nil=>rfl
 | cons h t ih=>rw [List.any_cons,List.any_cons,ih,h.1]
theorem KV.repl {kvs:List (κ×V)} {vs:List (κ×Value)} (r:KV kvs vs) (k:κ) {y:V} {u:Value} (ry:RelV y u) :
  KV (kvs.map λ kv=>if kv.1=k then (kv.1,y) else kv) (vs.map λ kv=>if kv.1=k then (kv.1,u) else kv):=by
 unfold KV at r ⊢
 induction r with
 | nil=>exact .nil
 | @cons p q ps qs h t ih =>
  rw [List.map_cons,List.map_cons]
  refine .cons ?_ ih
  obtain ⟨h1,h2⟩:=h
  by_cases e:p.1=k
  . rw [if_pos e,if_pos (h1.symm.trans e)]; exact ⟨h1,ry⟩
  . rw [if_neg e,if_neg (λ z=>e (h1.trans z))]; exact ⟨h1,h2⟩
theorem KV.put {kvs:List (κ×V)} {vs:List (κ×Value)} (r:KV kvs vs) (k:κ) {y:V} {u:Value} (ry:RelV y u):KV (putK kvs k y) (stored vs k u):=by
 unfold putK stored
 rw [r.any k]
 by_cases e:(vs.any λ kv=>decide (kv.1=k))=true
 . rw [if_pos e,if_pos e]; exact r.repl k ry
 . rw [if_neg e,if_neg e]; exact Paired.snoc r ⟨rfl,ry⟩
theorem KV.drop {kvs:List (κ×V)} {vs:List (κ×Value)} (r:KV kvs vs) (k:κ):KV (ziu kvs k) (without vs k):=by
 unfold KV at r ⊢
 unfold ziu without
 induction r with
 | nil=>exact .nil
 | @cons p q ps qs h t ih =>
  obtain ⟨h1,h2⟩:=h
  rw [List.filter_cons,List.filter_cons]
  by_cases e:p.1=k
  . have a:¬ decide (p.1≠k)=true:=by simp [e]
    have b:¬ decide (q.1≠k)=true:=by simp [h1.symm.trans e]
    rw [if_neg a,if_neg b]; exact ih
  . have e':¬ q.1=k:=λ z=>e (h1.trans z)
    have a:decide (p.1≠k)=true:=by simp [e]
    have b:decide (q.1≠k)=true:=by simp [e']
    rw [if_pos a,if_pos b]; exact .cons ⟨h1,h2⟩ ih
theorem KV.keys {kvs:List (κ×V)} {vs:List (κ×Value)} (r:KV kvs vs):kvs.map (·.1)=vs.map (·.1):=by
 unfold KV at r
 induction r with
 | nil=>rfl
 | cons h t ih=>rw [List.map_cons,List.map_cons,ih,h.1]
theorem KV.length {kvs:List (κ×V)} {vs:List (κ×Value)} (r:KV kvs vs):kvs.length=vs.length:=Paired.length r
theorem znn (kvs:List (κ×V)) (k:κ):(ziu kvs k).length<=kvs.length:=List.length_filter_le _ _
end
theorem zgg {P:Program} {w:World} {k:Key} {u:Value} (r:RelV (kV k) u):(zaF P w).is k u=true:=by
 cases k with
 | inl i=>obtain ⟨t,e⟩:=(show ∃ t,u=Value.int i t from r); subst e; exact zl0 P w i t
 | inr x=>obtain ⟨t,e⟩:=(show ∃ t,u=Value.str x t from r); subst e; exact zhB P w x t
theorem zk6 {P:Program} {w:World}:∀ {ks:List Key} {us:List Value},Vals (ks.map kV) us->ItemsAre (zaF P w) ks us
 | [],_,r=>by rw [List.map_nil] at r; cases r; exact .nil
 | k::ks,_,r=>by
  rw [List.map_cons] at r
  cases r with
  | cons h t=>exact .cons (zgg h) (zk6 t)
abbrev KT (H:Hp):List (List Key×V)->List (List Key×Addr×Value)->Prop:=Paired λ p q=>p.1=q.1/\H q.2.1=some (.tup (p.1.map kV))/\RelV p.2 q.2.2
theorem KT.val {H:Hp} {kvs:List (List Key×V)} {xs:List (List Key×Addr×Value)} (r:KT H kvs xs) (k:List Key):RelO (valV kvs k) ((atKey xs k).map (·.2)):=by
 induction r with
 | nil=>exact True.intro
 | @cons p q ps qs h t ih =>
  obtain ⟨h1,_,h2⟩:=h
  by_cases e:p.1=k
  . have e':q.1=k:=h1.symm.trans e
    have b:atKey (q::qs) k=some q.2:=by simp [atKey,List.find?_cons,e']
    rw [zby e,b]; exact h2
  . have e':¬ q.1=k:=λ z=>e (h1.trans z)
    have b:atKey (q::qs) k=atKey qs k:=by simp [atKey,List.find?_cons,e']
    rw [zbz e,b]; exact ih
theorem KT.repl {H:Hp} {kvs:List (List Key×V)} {xs:List (List Key×Addr×Value)} (r:KT H kvs xs) (k:List Key) {y:V} {u:Value} (ry:RelV y u) :
  KT H (kvs.map λ kv=>if kv.1=k then (kv.1,y) else kv) (xs.map (putAt k u)):=by
 induction r with
 | nil=>exact .nil
 | @cons p q ps qs h t ih =>
  rw [List.map_cons,List.map_cons]
  refine .cons ?_ ih
  obtain ⟨h1,h2,h3⟩:=h
  unfold putAt
  by_cases e:p.1=k
  . rw [if_pos e,if_pos (h1.symm.trans e)]; exact ⟨h1,h2,ry⟩
  . rw [if_neg e,if_neg (λ z=>e (h1.trans z))]; exact ⟨h1,h2,h3⟩
theorem KT.put {H:Hp} {kvs:List (List Key×V)} {xs:List (List Key×Addr×Value)} (r:KT H kvs xs) (k:List Key) {b:Addr} {y:V} {u:Value} (hb:H b=some (.tup (k.map kV))) (ry:RelV y u) :
   KT H (putK kvs k y) (storedH xs k b u):=by
 have e:(kvs.any λ kv=>decide (kv.1=k))=(atKey xs k).isSome:=by
   rw [zfq,(r.val k).zdv,Option.isSome_map]
 unfold putK storedH
 rw [e]
 by_cases q:(atKey xs k).isSome=true
 . rw [if_pos q,if_pos q]; exact r.repl k ry
 . rw [if_neg q,if_neg q]; exact Paired.snoc r ⟨rfl,hb,ry⟩
theorem KT.keeps {H H':Hp} {kvs:List (List Key×V)} {xs:List (List Key×Addr×Value)} (r:KT H kvs xs) (ht:∀ b ys,H b=some (.tup ys)->H' b=some (.tup ys)):KT H' kvs xs :=
 Paired.mapP r λ _ _ z=>⟨z.1,ht _ _ z.2.1,z.2.2⟩
section
variable {P:Program} {w:World} {H:Hp} {h:Heap} {a:Addr}
theorem zsI {u:HO} (ok:HOk P w H h) (e:Rd H a u):zbV P w H h a u:=e.ok ok
theorem zlf {kvs:List (Key×V)} (ok:HOk P w H h) (e:Rd H a (.dK kvs)):kvs.length<=sizeLine/\(a == sysModules)=false/\∃ vs,KV kvs vs/\h.DictOf (zaF P w) a vs :=
 show zbV P w H h a (.dK kvs) from zsI ok e
theorem ziv {kvs:List (Key×V)} (ok:HOk P w H h) (e:H a=some (.dK kvs)):kvs.length<=sizeLine/\(a == sysModules)=false/\∃ vs,KV kvs vs/\h.DictOf (zaF P w) a vs:=zlf ok (.inl e)
theorem zhL {ks:List Key} (ok:HOk P w H h) (e:H a=some (.tup (ks.map kV))):(tupleKind (zaF P w)).is h ks a:=by
 obtain ⟨_,its,r,o,h1,h2,n,h3⟩:=(show zbV P w H h a (.tup (ks.map kV)) from ok a _ e)
 exact ⟨o,its.toArray,n,h1,h2,h3,by simpa using zk6 r⟩
theorem zld {kvs:List (List Key×V)} (ok:HOk P w H h) (e:Rd H a (.dT kvs)):kvs.length<=sizeLine/\(a == sysModules)=false /\
  ∃ xs,KT H kvs xs/\h.DictOfH (tupleKind (zaF P w)) a xs:=by
 obtain ⟨z,y,xs,r,o,es,ep,h1,h2,h3,h4,h5⟩:=(show zbV P w H h a (.dT kvs) from zsI ok e)
 refine ⟨z,y,xs,r,o,es,ep,h1,h2,h3,h4,λ x hx=>?_,h5⟩
 have all:∀ {l:List (List Key×V)} {m:List (List Key×Addr×Value)},KT H l m->∀ x∈m,(tupleKind (zaF P w)).is h x.1 x.2.1:=by
  intro l m q
  induction q with
  | nil=>intro x hx; exact nomatch hx
  | @cons p q ps qs hq t ih =>
   intro x hx
   rcases List.mem_cons.mp hx with e | hx
   . subst e
     exact zhL ok (by rw [<-hq.1]; exact hq.2.1)
   . exact ih x hx
 exact all r x hx
theorem ztQ {kvs:List (List Key×V)} (ok:HOk P w H h) (e:H a=some (.dT kvs)):kvs.length<=sizeLine/\(a == sysModules)=false /\
 ∃ xs,KT H kvs xs/\h.DictOfH (tupleKind (zaF P w)) a xs:=zld ok (.inl e)
end
def DGet (H:Hp) (a:Addr) (y:V) (r:Option V):Prop :=
 (∃ kvs k,Rd H a (.dK kvs)/\y=kV k/\r=valV kvs k)\/∃ kvs k b,Rd H a (.dT kvs)/\y=.ref b/\H b=some (.tup (k.map kV))/\r=valV kvs k
def DPut (H:Hp) (a:Addr) (y v:V) (H':Hp):Prop :=
 (∃ kvs k,H a=some (.dK kvs)/\y=kV k/\kvs.length < sizeLine/\H'=upd H a (.dK (putK kvs k v))) \/
 ∃ kvs k b,H a=some (.dT kvs)/\y=.ref b/\H b=some (.tup (k.map kV))/\kvs.length < sizeLine/\H'=upd H a (.dT (putK kvs k v))
theorem DGet.k {H:Hp} {a:Addr} {kvs:List (Key×V)} {k:Key} (e:H a=some (.dK kvs)):DGet H a (kV k) (valV kvs k):=.inl ⟨kvs,k,.inl e,rfl,rfl⟩
theorem DPut.k {H:Hp} {a:Addr} {kvs:List (Key×V)} {k:Key} {v:V} (e:H a=some (.dK kvs)) (hl:kvs.length < sizeLine):DPut H a (kV k) v (upd H a (.dK (putK kvs k v))):=.inl ⟨kvs,k,e,rfl,hl,rfl⟩
section
variable {X:Cx} {pins:List (Addr×Obj)} {σ:St} {H:Hp} {s:Shared} {a:Addr} {y v:V} {u r:Value} {o:Option V} {A:Around} {E:Value->Shared->Prop}
theorem Inv.big (I:Inv X pins σ H s):sysModules < s.heap.objs.size:=by
 have h:mainGlobals < s.heap.objs.size:=(I.mod.glob.keeps I.bk).lt
 exact Nat.lt_trans (by decide) h
theorem zpJ {Q:Value->Shared->Prop} (hu:A.units+1 < cLine) (I:Inv X pins σ H s) (g:DGet H a y (some v)) (ry:RelV y u) (h:∀ w' s',Inv X pins σ H s'->RelV v w'->Q w' s') :
   wpAny (model X.prog X.w) A (getItem (.ref a) u) Q E s:=by
 rcases g with ⟨kvs,k,e,ey,l⟩ | ⟨kvs,k,b,e,ey,eb,l⟩
 . subst ey
   obtain ⟨z,hd,vs,rel,dd⟩:=zlf I.hok e
   obtain ⟨w',hw,rw'⟩:=RelO.some_of (v:=v) (o:=valueAt vs k) (by rw [l]; exact rel.val k)
   exact wpAny_getItem_of (zgg ry) dd.mapOf hw (h w' _ (I.tok _) rw')
 . subst ey
   cases (show u=Value.ref b from ry)
   obtain ⟨z,hd,xs,rel,dd⟩:=zld I.hok e
   obtain ⟨w',hw,rw'⟩:=RelO.some_of (v:=v) (o:=(atKey xs k).map (·.2)) (by rw [l]; exact rel.val k)
   obtain ⟨p,hp,hp2⟩:=Option.map_eq_some_iff.mp hw
   refine wpAny_getItem_heap (tupleKind_room_in1 hu) (zhL I.hok eb) dd hp ?_
   rw [hp2]
   exact h w' _ (I.tok _) rw'
theorem d_in {Q:Value->Shared->Prop} (hu:A.units+1 < cLine) (I:Inv X pins σ H s) (g:DGet H a y o) (ry:RelV y u) (h:∀ s',Inv X pins σ H s'->Q (.bool o.isSome) s') :
   wpAny (model X.prog X.w) A (compareOp .In u (.ref a)) Q E s:=by
 rcases g with ⟨kvs,k,e,ey,l⟩ | ⟨kvs,k,b,e,ey,eb,l⟩
 . subst ey
   obtain ⟨z,hd,vs,rel,dd⟩:=zlf I.hok e
   refine wpAny_in_of (zgg ry) hd dd.mapOf ?_
   rw [<-(rel.val k).zdv,<-l]
   exact h _ (I.tok _)
 . subst ey
   cases (show u=Value.ref b from ry)
   obtain ⟨z,hd,xs,rel,dd⟩:=zld I.hok e
   refine wpAny_in_heap (tupleKind_room_in1 hu) (zhL I.hok eb) hd dd ?_
   have q:=(rel.val k).zdv
   rw [Option.isSome_map] at q
   rw [<-q,<-l]
   exact h _ (I.tok _)
theorem zr8 {Q:Value->Shared->Prop} (hu:A.units+1 < cLine) (I:Inv X pins σ H s) (g:DGet H a y o) (ry:RelV y u) (h:∀ s',Inv X pins σ H s'->Q (.bool (!o.isSome)) s') :
   wpAny (model X.prog X.w) A (compareOp .NotIn u (.ref a)) Q E s:=by
 rcases g with ⟨kvs,k,e,ey,l⟩ | ⟨kvs,k,b,e,ey,eb,l⟩
 . subst ey
   obtain ⟨z,hd,vs,rel,dd⟩:=zlf I.hok e
   refine wpAny_notIn_of (zgg ry) hd dd.mapOf ?_
   rw [<-(rel.val k).zdv,<-l]
   exact h _ (I.tok _)
 . subst ey
   cases (show u=Value.ref b from ry)
   obtain ⟨z,hd,xs,rel,dd⟩:=zld I.hok e
   refine wpAny_notIn_heap (tupleKind_room_in1 hu) (zhL I.hok eb) hd dd ?_
   have q:=(rel.val k).zdv
   rw [Option.isSome_map] at q
   rw [<-q,<-l]
   exact h _ (I.tok _)
theorem zhY {h':Heap} {t':Nat} {ob:HO} (I:Inv X pins σ H s) (mu:Mut (H a)) (hs:Heap.SameBut a s.heap h') (he:∃ q,h'.get? a=some q) (new:zbV X.prog X.w (upd H a ob) h' a ob) :
  Inv X pins σ (upd H a ob) { s with heap:=h',toks:=t' } :=
 I.write (x:=a) (e:=a) mu (.inl rfl) (λ b q hb z=>(hs.2 b hb).trans z) he new
theorem zno {P:Program} {w:World} {H':Hp} {h':Heap} {kvs:List (Key×V)} {vs:List (Key×Value)} (z:kvs.length<=sizeLine) (hd:(a == sysModules)=false) (rel:KV kvs vs) (dd:h'.DictOf (zaF P w) a vs) :
 zbV P w H' h' a (.dK kvs):=⟨z,hd,vs,rel,dd⟩
theorem zpI {H':Hp} {Q:Unit->Shared->Prop} (hu:A.units+1 < cLine) (I:Inv X pins σ H s) (g:DPut H a y v H') (ry:RelV y u) (rv:RelV v r) (h:∀ s',Inv X pins σ H' s'->Q () s') :
   wpAny (model X.prog X.w) A (setItem (.ref a) u r) Q E s:=by
 rcases g with ⟨kvs,k,e,ey,l,eH⟩ | ⟨kvs,k,b,e,ey,eb,l,eH⟩
 . subst ey eH
   obtain ⟨z,hd,vs,rel,dd⟩:=ziv I.hok e
   have hz:vs.length<=sizeLine:=by rw [<-rel.length]; exact z
   have hl:(putK kvs k v).length<=sizeLine:=by have:=zfj kvs k v; omega
   refine wpAny_setItem_pairs (hsz:=hz) (zgg ry) dd λ h' dd' hs=>h _ ?_
   have he:∃ q,h'.get? a=some q:=let ⟨q,_,_,hq,_⟩:=dd'; ⟨q,hq⟩
   exact zhY I (by rw [e]; exact True.intro) hs he (zno hl hd (rel.put k rv) dd')
 . subst ey eH
   cases (show u=Value.ref b from ry)
   obtain ⟨z,hd,xs,rel,dd⟩:=ztQ I.hok e
   have hz:xs.length<=sizeLine:=by rw [<-Paired.length rel]; exact z
   have hl:(putK kvs k v).length<=sizeLine:=by have:=zfj kvs k v; omega
   refine wpAny_setItem_heap (hsz:=hz) (tupleKind_room_in1 hu) (zhL I.hok eb) dd λ h' dd' hs=>h _ ?_
   obtain ⟨q,es,ep,hq,h2,h3,h4,_,h5⟩:=dd'
   refine zhY I (by rw [e]; exact True.intro) hs ⟨q,hq⟩ ⟨hl,hd,_,(rel.put k eb rv).keeps λ c ys ec=>?_,q,es,ep,hq,h2,h3,h4,h5⟩
   rw [zae (zbh ec e (λ z=>nomatch z))]
   exact ec
end
section
variable {X:Cx} {pins:List (Addr×Obj)} {σ:St} {H:Hp} {s:Shared} {a:Addr} {kvs:List (Key×V)} {k:Key} {u:Value} {A:Around} {E:Value->Shared->Prop}
theorem d_delItem {Q:Unit->Shared->Prop} (I:Inv X pins σ H s) (e:H a=some (.dK kvs)) (ry:RelV (kV k) u) (l:(valV kvs k).isSome=true) (h:∀ s',Inv X pins σ (upd H a (.dK (ziu kvs k))) s'->Q () s') :
  wpAny (model X.prog X.w) A (delItem (.ref a) u) Q E s:=by
 obtain ⟨z,hd,vs,rel,dd⟩:=ziv I.hok e
 refine wpAny_delItem_slot dd.typeIs (by decide) PySem.F.slot_dict_delitem
  (call_meetsIn PySem.F.slot_dict_delitem dd.typeIs PySem.F.entry_dict_delitem (PySem.F.args_dict_delitem_2 _ _) (meets_dict_delitem_pairs (zaF X.prog X.w) a (zgg ry)) ⟨vs,dd,by rw [<-rel.length]; exact z,by rw [<-(rel.val k).zdv]; exact l,λ h' dd' hs=>h _ ?_⟩)
 have he:∃ q,h'.get? a=some q:=let ⟨q,_,_,hq,_⟩:=dd'; ⟨q,hq⟩
 exact zhY I (by rw [e]; exact True.intro) hs he (zno (Nat.le_trans (znn kvs k) z) hd (rel.drop k) dd')
theorem ztR {v:V} {more:List Value} {Q:Value->Shared->Prop} (I:Inv X pins σ H s) (e:H a=some (.dK kvs)) (ry:RelV (kV k) u) (l:valV kvs k=some v) (hm:more=[]\/∃ x,more=[x])
  (h:∀ w' s',Inv X pins σ (upd H a (.dK (ziu kvs k))) s'->RelV v w'->Q w' s'):wpAny (model X.prog X.w) A (call (.builtin "dict.pop") (.ref a::u::more)) Q E s:=by
 obtain ⟨z,hd,vs,rel,dd⟩:=ziv I.hok e
 obtain ⟨w',hw,rw'⟩:=RelO.some_of (v:=v) (o:=valueAt vs k) (by rw [<-l]; exact rel.val k)
 have hp:(keyPart u).isSome=true:=by
  cases k with
  | inl i=>obtain ⟨t,q⟩:=(show ∃ t,u=Value.int i t from ry); subst q; rfl
  | inr x=>obtain ⟨t,q⟩:=(show ∃ t,u=Value.str x t from ry); subst q; rfl
 have ha:argsOk "dict.pop" ⟨.ref a::u::more,[]⟩:=by
  rcases hm with q | ⟨x,q⟩
  . subst q; exact PySem.F.args_dict_pop_2 _ _
  . subst q; exact PySem.F.args_dict_pop_3 _ _ _
 refine call_meetsIn PySem.F.slot_dict_pop dd.typeIs PySem.F.entry_dict_pop ha (meets_dict_pop_there (zaF X.prog X.w) a (zgg ry) more hm hp)
  ⟨vs,w',dd,by rw [<-rel.length]; exact z,hw,λ h' dd' hs=>h w' _ ?_ rw'⟩
 have he:∃ q,h'.get? a=some q:=let ⟨q,_,_,hq,_⟩:=dd'; ⟨q,hq⟩
 exact zhY I (by rw [e]; exact True.intro) hs he (zno (Nat.le_trans (znn kvs k) z) hd (rel.drop k) dd')
theorem ztc {r:Value} {Q:Value->Shared->Prop} (I:Inv X pins σ H s) (e:H a=some (.dK kvs)) (ry:RelV (kV k) u) (l:valV kvs k=none) (h:∀ s',Inv X pins σ H s'->Q r s') :
  wpAny (model X.prog X.w) A (call (.builtin "dict.pop") [.ref a,u,r]) Q E s:=by
 obtain ⟨z,hd,vs,rel,dd⟩:=ziv I.hok e
 have hn:valueAt vs k=none:=RelO.none_of (by rw [<-l]; exact rel.val k)
 have hp:(keyPart u).isSome=true:=by
  cases k with
  | inl i=>obtain ⟨t,q⟩:=(show ∃ t,u=Value.int i t from ry); subst q; rfl
  | inr x=>obtain ⟨t,q⟩:=(show ∃ t,u=Value.str x t from ry); subst q; rfl
 exact call_meetsIn PySem.F.slot_dict_pop dd.typeIs PySem.F.entry_dict_pop (PySem.F.args_dict_pop_3 _ _ _) (meets_dict_pop_default (zaF X.prog X.w) a (zgg ry) hd hp r) ⟨vs,dd,hn,h _ (I.tok _)⟩
end
def NoSl (i:Expr):Prop:=∀ ov iv,subscripted i false ov iv=operate [ov,iv] (getItem ov iv)
theorem zru {prog:Program} {w:World} {A:Around} {E:Value->Shared->Prop} {s:Shared} {env:Env} {value slice:Expr} {pos:Pos} {T id:String} {Q:Value->Shared->Prop}
  (hl:typeLookup (.type T) "__getitem__" = pure (some (.builtin id))) (hs:NoSl slice)
  (h:wpAny (model prog w) A (eval value env) (λ o s₁=>wpAny (model prog w) A (eval slice env) (λ i s₂=>s₂.TypeIs o T/\wpAny (model prog w) A (getItem o i) Q E s₂) E s₁) E s) :
  wpAny (model prog w) A (eval (.Subscript value slice pos) env) Q E s:=by
 refine Subscript_ (wpAny_mono h (λ o s₁ h₁=>wpAny_mono h₁ (λ i s₂ h₂=>?_) λ _ _ x=>x) λ _ _ x=>x)
 obtain ⟨hT,h₂⟩:=h₂
 unfold subscriptTail
 refine wpAny_bind ?_
 rw [getitemInPython_of_ne hT.not_modules]
 refine wpAny_bind (wpAny_specialOf hT hl ?_)
 have fin:wpAny (model prog w) A (subscripted slice false o i) (λ r s₃=>wpAny (model prog w) A (letTemporaryGo value o r >>= λ _=>pure r) Q E s₃) E s₂:=by
  rw [hs o i]
  exact wpAny_operating (wpAny_mono h₂ (λ r s₃ h₃=>wpAny_bind (wpAny_letTemporaryGo (wpAny_pure h₃))) λ _ _ x=>x)
 first
  | exact wpAny_pure (wpAny_bind fin)
  | exact wpAny_bind (wpAny_pure (wpAny_bind fin))
  | exact wpAny_bind fin
theorem zmh {X:Cx} {pins:List (Addr×Obj)} {σ:St} {H:Hp} {s:Shared} {a:Addr} {y:V} {o:Option V} (I:Inv X pins σ H s) (g:DGet H a y o):s.TypeIs (.ref a) "dict" := by
 rcases g with ⟨kvs,k,e,_,_⟩ | ⟨kvs,k,b,e,_,_,_⟩
 . obtain ⟨_,_,vs,_,dd⟩:=zlf I.hok e
   exact dd.typeIs
 . obtain ⟨_,_,xs,_,dd⟩:=zld I.hok e
   exact dd.typeIs
def zts (td ty:TE):TE:=λ σ H Q=>td σ H λ x H1=>ty σ H1 λ y H2=>∃ a v,x=.ref a/\DGet H2 a y (some v)/\Q v H2
def tDIn (ty td:TE):TE:=λ σ H Q=>ty σ H λ y H1=>td σ H1 λ x H2=>∃ a o,x=.ref a/\DGet H2 a y o/\Q (.bl o.isSome) H2
def zrs (ty td:TE):TE:=λ σ H Q=>ty σ H λ y H1=>td σ H1 λ x H2=>∃ a o,x=.ref a/\DGet H2 a y o/\Q (.bl (!o.isSome)) H2
def zsH (td ty tv:TE):TS:=λ D σ H=>tv σ H λ v H1=>td σ H1 λ x H2=>ty σ H2 λ y H3=>∃ a H4,x=.ref a/\DPut H3 a y v H4/\D.nx σ H4
section
variable {X:Cx} {o i e value:Expr} {pos pos' tpos:Pos} {td ty tv:TE}
theorem zcQ (hu:X.A.units+1 < cLine) (ho:PE X o td) (hi:PE X i ty) (hs:NoSl i):PE X (.Subscript o i pos) (zts td ty):=by
 intro pins s σ H Q I h
 refine zru PySem.F.slot_dict_getitem.lookup hs (thn (ho pins s σ H _ I h) λ u s1 ⟨x,H1,I1,rx,q1⟩=>thn (hi pins s1 σ H1 _ I1 q1) λ iv s2 ⟨y,H2,I2,ry,a,v,ex,g,q2⟩=>?_)
 subst ex
 obtain rfl:u=Value.ref a:=rx
 exact ⟨zmh I2 g,zpJ hu I2 g ry λ w' s3 I3 rw'=>⟨v,H2,I3,rw',q2⟩⟩
theorem zoP (hu:X.A.units+1 < cLine) (hi:PE X i ty) (ho:PE X o td):PC X .In i o (tDIn ty td):=by
 intro pins s σ H Q I h
 refine thn (hi pins s σ H _ I h) λ iv s1 ⟨y,H1,I1,ry,q1⟩=>thn (ho pins s1 σ H1 _ I1 q1) λ u s2 ⟨x,H2,I2,rx,a,ov,ex,g,q2⟩=>?_
 subst ex
 obtain rfl:u=Value.ref a:=rx
 exact d_in hu I2 g ry λ s3 I3=>⟨.bl ov.isSome,H2,I3,rfl,q2⟩
theorem zhs (hu:X.A.units+1 < cLine) (hi:PE X i ty) (ho:PE X o td):PC X .NotIn i o (zrs ty td):=by
 intro pins s σ H Q I h
 refine thn (hi pins s σ H _ I h) λ iv s1 ⟨y,H1,I1,ry,q1⟩=>thn (ho pins s1 σ H1 _ I1 q1) λ u s2 ⟨x,H2,I2,rx,a,ov,ex,g,q2⟩=>?_
 subst ex
 obtain rfl:u=Value.ref a:=rx
 exact zr8 hu I2 g ry λ s3 I3=>⟨.bl (!ov.isSome),H2,I3,rfl,q2⟩
theorem zfc (hu:X.A.units+1 < cLine) (ho:PE X o td) (hi:PE X i ty) (hv:PE X value tv) (hs:swapsWith value (some (.Subscript o i pos')) pos.line X.env=pure false) :
  PS X (.Assign [.Subscript o i pos'] value pos) (zsH td ty tv):=by
 intro pins s σ H D I h
 refine wpAny_Assign_Subscript (thn (hv pins s σ H _ I h) λ r s1 ⟨v,H1,I1,rv,q1⟩=>thn (ho pins s1 σ H1 _ I1 q1) λ u s2 ⟨x,H2,I2,rx,q2⟩=>thn (hi pins s2 σ H2 _ I2 q2) λ iv s3 ⟨y,H3,I3,ry,a,H4,ex,g,q3⟩=>?_) hs
 subst ex
 obtain rfl:u=Value.ref a:=rx
 exact zpI hu I3 g ry rv λ s4 I4=>⟨σ,H4,I4,q3⟩
end
theorem zqO {P:Program} {w:World} {H:Hp} (h:Heap) (hb:sysModules < h.objs.size):zbV P w H (h.push { cls:=.type "dict",data:=.dict #[] }) h.objs.size (.dK []) :=
 ⟨Nat.zero_le _,beq_eq_false_iff_ne.mpr (Ne.symm (Nat.ne_of_lt hb)),[],.nil,Heap.DictOf.new h⟩
def zso:TE:=λ _ H Q=>∀ p,H p=none->Q (.ref p) (upd H p (.dK []))
section
variable {X:Cx} {pos:Pos}
theorem zdF:PE X (.Dict [] [] pos) zso:=λ pins s σ H Q I h =>
 wpAny_Dict_empty ⟨.ref s.heap.objs.size,_,I.laid (a:=s.heap.objs.size) (o:=.dK []) (t':=s.toks) (λ _ _ q=>Heap.get?_push_of_some _ q) (Nat.le_refl _) (zqO s.heap I.big),rfl,h _ (I.hok.fresh (Nat.le_refl _))⟩
end
structure M1 (X:Cx) (o:Expr) (m:Str) (apos:Pos) (e:Expr) (cpos:Pos):Prop where
 base:attributeBase o m X.env (eval o X.env)=eval o X.env
 few:((backTo cpos (starEach [e] X.env)).all (λ x=>!x.1) && (backToKw cpos (keywordEach [] X.env)).all (λ x=>x.1.isSome)
  && decide (([e]:List Expr).length+([]:List Keyword).length+(if ([]:List Keyword).isEmpty then 0 else 1) < 30))=true
 line:(apos.endLine == cpos.line)=true
 trees:backTo cpos (starEach [e] X.env)=[(false,eval e X.env)]
structure M2 (X:Cx) (o:Expr) (m:Str) (apos:Pos) (e f:Expr) (cpos:Pos):Prop where
 base:attributeBase o m X.env (eval o X.env)=eval o X.env
 few:((backTo cpos (starEach [e,f] X.env)).all (λ x=>!x.1) && (backToKw cpos (keywordEach [] X.env)).all (λ x=>x.1.isSome)
  && decide (([e,f]:List Expr).length+([]:List Keyword).length+(if ([]:List Keyword).isEmpty then 0 else 1) < 30))=true
 line:(apos.endLine == cpos.line)=true
 trees:backTo cpos (starEach [e,f] X.env)=[(false,eval e X.env),(false,eval f X.env)]
def IsD (H:Hp) (a:Addr):Prop:=(∃ kvs,Rd H a (.dK kvs))\/∃ kvs,Rd H a (.dT kvs)
theorem znj {X:Cx} {pins:List (Addr×Obj)} {σ:St} {H:Hp} {s:Shared} {a:Addr} (I:Inv X pins σ H s) (d:IsD H a) :
   s.TypeIs (.ref a) "dict" /\ (∀ b,Value.ref a=.ref b->∃ ob,s.heap.get? b=some ob/\ob.dict=none)/\(a == sysModules)=false:=by
 rcases d with ⟨kvs,e⟩ | ⟨kvs,e⟩
 . obtain ⟨_,hd,vs,_,dd⟩:=zlf I.hok e
   refine ⟨dd.typeIs,λ b q=>?_,hd⟩
   cases q
   obtain ⟨ob,_,_,h1,h2,_⟩:=dd
   exact ⟨ob,h1,h2.2.1⟩
 . obtain ⟨_,hd,xs,_,dd⟩:=zld I.hok e
   refine ⟨dd.typeIs,λ b q=>?_,hd⟩
   cases q
   obtain ⟨ob,_,_,h1,h2,_⟩:=dd
   exact ⟨ob,h1,h2.2.1⟩
section
variable {X:Cx} {pins:List (Addr×Obj)} {σ:St} {H:Hp} {s:Shared} {a:Addr} {y d:V} {u r:Value} {o:Option V} {A:Around} {E:Value->Shared->Prop}
theorem zte {Q:Value->Shared->Prop} (hu:A.units+1 < cLine) (I:Inv X pins σ H s) (g:DGet H a y o) (ry:RelV y u) (h:∀ w' s',Inv X pins σ H s'->RelV (o.getD .non) w'->Q w' s') :
   wpAny (model X.prog X.w) A (call (.builtin "dict.get") [.ref a,u]) Q E s:=by
 rcases g with ⟨kvs,k,e,ey,l⟩ | ⟨kvs,k,b,e,ey,eb,l⟩
 . subst ey
   obtain ⟨z,hd,vs,rel,dd⟩:=zlf I.hok e
   refine call_meetsIn PySem.F.slot_dict_get dd.typeIs PySem.F.entry_dict_get (PySem.F.args_dict_get_2 _ _) (meets_dict_get (zaF X.prog X.w) a (zgg ry) hd) ⟨_,dd.mapOf,h _ _ (I.tok _) ?_⟩
   rw [l]
   exact (rel.val k).getD rfl
 . subst ey
   cases (show u=Value.ref b from ry)
   obtain ⟨z,hd,xs,rel,dd⟩:=zld I.hok e
   refine call_meetsIn PySem.F.slot_dict_get dd.typeIs PySem.F.entry_dict_get (PySem.F.args_dict_get_2 _ _) (meetsH_dict_get (tupleKind (zaF X.prog X.w)) a b hd) ⟨tupleKind_room_in1 hu,k,xs,zhL I.hok eb,dd,h _ _ (I.tok _) ?_⟩
   rw [l]
   exact (rel.val k).getD rfl
theorem ztd {Q:Value->Shared->Prop} (hu:A.units+1 < cLine) (I:Inv X pins σ H s) (g:DGet H a y o) (ry:RelV y u) (rd:RelV d r) (h:∀ w' s',Inv X pins σ H s'->RelV (o.getD d) w'->Q w' s') :
   wpAny (model X.prog X.w) A (call (.builtin "dict.get") [.ref a,u,r]) Q E s:=by
 rcases g with ⟨kvs,k,e,ey,l⟩ | ⟨kvs,k,b,e,ey,eb,l⟩
 . subst ey
   obtain ⟨z,hd,vs,rel,dd⟩:=zlf I.hok e
   refine call_meetsIn PySem.F.slot_dict_get dd.typeIs PySem.F.entry_dict_get (PySem.F.args_dict_get_3 _ _ _) (meets_dict_get_default (zaF X.prog X.w) a (zgg ry) hd r) ⟨_,dd.mapOf,h _ _ (I.tok _) ?_⟩
   rw [l]
   exact (rel.val k).getD rd
 . subst ey
   cases (show u=Value.ref b from ry)
   obtain ⟨z,hd,xs,rel,dd⟩:=zld I.hok e
   refine call_meetsIn PySem.F.slot_dict_get dd.typeIs PySem.F.entry_dict_get (PySem.F.args_dict_get_3 _ _ _) (meetsH_dict_get_default (tupleKind (zaF X.prog X.w)) a b hd r) ⟨tupleKind_room_in1 hu,k,xs,zhL I.hok eb,dd,h _ _ (I.tok _) ?_⟩
   rw [l]
   exact (rel.val k).getD rd
end
def zsq (td ty:TE):TE:=λ σ H Q=>td σ H λ x H1=>∃ a,x=.ref a/\IsD H1 a/\ty σ H1 λ y H2=>∃ o,DGet H2 a y o/\Q (o.getD .non) H2
def zsp (td ty tx:TE):TE:=λ σ H Q=>td σ H λ x H1=>∃ a,x=.ref a/\IsD H1 a/\ty σ H1 λ y H2=>tx σ H2 λ z H3=>∃ o,DGet H3 a y o/\Q (o.getD z) H3
def zsn (td ty tx:TE):TE:=λ σ H Q=>td σ H λ x H1=>∃ a,x=.ref a/\IsD H1 a/\ty σ H1 λ y H2=>tx σ H2 λ z H3=>∃ kvs k,H3 a=some (.dK kvs)/\y=kV k /\
 (∀ v,valV kvs k=some v->Q v (upd H3 a (.dK (ziu kvs k))))/\(valV kvs k=none->Q z H3)
section
variable {X:Cx} {o e f:Expr} {apos cpos:Pos} {td ty tx:TE}
theorem zqm (hu:X.A.units+1 < cLine) (ho:PE X o td) (he:PE X e ty) (m:M1 X o "get" apos e cpos):PE X (.Call (.Attribute o "get" apos) [e] [] cpos) (zsq td ty):=by
 intro pins s σ H Q I h
 refine wpAny_Call_method m.base m.few m.line PySem.F.plainAttrs_dict PySem.F.slot_dict_get PySem.F.type_dict_get (thn (ho pins s σ H _ I h) λ u s1 ⟨x,H1,I1,rx,a,ex,d,q1⟩=>?_)
 subst ex
 obtain rfl:u=Value.ref a:=rx
 obtain ⟨t1,t2,_⟩:=znj I1 d
 refine ⟨t1,t2,?_⟩
 rw [m.trees]
 refine Calls.callWith_builtin rfl (Calls.evalArgs_plain (Calls.spliced_cons (thn (he pins s1 σ H1 _ I1 q1) λ iv s2 ⟨y,H2,I2,ry,ov,g,q2⟩=>Calls.spliced_nil ?_)))
 exact zte hu I2 g ry λ w' s3 I3 rw'=>⟨_,H2,I3,rw',q2⟩
theorem zm5 (hu:X.A.units+1 < cLine) (ho:PE X o td) (he:PE X e ty) (hf:PE X f tx) (m:M2 X o "get" apos e f cpos):PE X (.Call (.Attribute o "get" apos) [e,f] [] cpos) (zsp td ty tx):=by
 intro pins s σ H Q I h
 refine wpAny_Call_method m.base m.few m.line PySem.F.plainAttrs_dict PySem.F.slot_dict_get PySem.F.type_dict_get (thn (ho pins s σ H _ I h) λ u s1 ⟨x,H1,I1,rx,a,ex,d,q1⟩=>?_)
 subst ex
 obtain rfl:u=Value.ref a:=rx
 obtain ⟨t1,t2,_⟩:=znj I1 d
 refine ⟨t1,t2,?_⟩
 rw [m.trees]
 refine Calls.callWith_builtin rfl (Calls.evalArgs_plain (Calls.spliced_cons (thn (he pins s1 σ H1 _ I1 q1) λ iv s2 ⟨y,H2,I2,ry,q2⟩ =>
  Calls.spliced_cons (thn (hf pins s2 σ H2 _ I2 q2) λ fv s3 ⟨z,H3,I3,rz,ov,g,q3⟩=>Calls.spliced_nil ?_))))
 exact ztd hu I3 g ry rz λ w' s4 I4 rw'=>⟨_,H3,I4,rw',q3⟩
theorem zm4 (ho:PE X o td) (he:PE X e ty) (hf:PE X f tx) (m:M2 X o "pop" apos e f cpos):PE X (.Call (.Attribute o "pop" apos) [e,f] [] cpos) (zsn td ty tx):=by
 intro pins s σ H Q I h
 refine wpAny_Call_method m.base m.few m.line PySem.F.plainAttrs_dict PySem.F.slot_dict_pop PySem.F.type_dict_pop (thn (ho pins s σ H _ I h) λ u s1 ⟨x,H1,I1,rx,a,ex,d,q1⟩=>?_)
 subst ex
 obtain rfl:u=Value.ref a:=rx
 obtain ⟨t1,t2,_⟩:=znj I1 d
 refine ⟨t1,t2,?_⟩
 rw [m.trees]
 refine Calls.callWith_builtin rfl (Calls.evalArgs_plain (Calls.spliced_cons (thn (he pins s1 σ H1 _ I1 q1) λ iv s2 ⟨y,H2,I2,ry,q2⟩ =>
  Calls.spliced_cons (thn (hf pins s2 σ H2 _ I2 q2) λ fv s3 ⟨z,H3,I3,rz,kvs,k,ea,ey,q3,q4⟩=>Calls.spliced_nil ?_))))
 subst ey
 cases l:valV kvs k with
 | some v=>exact ztR I3 ea ry l (.inr ⟨fv,rfl⟩) λ w' s4 I4 rw'=>⟨v,_,I4,rw',q3 v l⟩
 | none=>exact ztc I3 ea ry l λ s4 I4=>⟨z,H3,I4,rz,q4 l⟩
end
section
variable {X:Cx} {pins:List (Addr×Obj)} {σ:St} {H:Hp} {s:Shared} {a:Addr} {kvs:List (Key×V)} {A:Around} {E:Value->Shared->Prop}
end
section
variable {X:Cx} {pins:List (Addr×Obj)} {σ:St} {H:Hp} {s:Shared} {a:Addr} {y:V} {u:Value} {A:Around} {E:Value->Shared->Prop}
end
end L2
namespace Att
open PySem PySem.W PySem.Calls PyProof.Rows
theorem zhQ {P:Params} {h:Heap}:∀ (ns:List Int) (vs:List Value),WellAll P h vs (ns.map WData.int)->IntsAre vs ns:=by
 intro ns
 induction ns with
 | nil =>
  intro vs w
  rw [List.map_nil] at w
  cases w
  exact .nil
 | cons n ns ih =>
  intro vs w
  rw [List.map_cons] at w
  cases w with
  | cons a b =>
   cases a
   exact .cons _ _ (ih _ b)
theorem zoE {l:OpenLaw} {n:Nat} (hn:l.most=some n) {P:Params} {h:Heap} {args:List WData} {vals:List Value}
  (hpre:l.row.toRowW.claim.pre args=true) (hwl:WellAll P h vals args) :
  ∃ a vs ns,vals=[Value.ref a]/\args=[WData.list (ns.map WData.int)]/\h.get? a=some { cls:=.type "list",data:=.seq vs.toArray }/\IntsAre vs ns/\ns.length<=n:=by
 have hsh:WShape.hasAll [] args [.list .int]=true:=(pre_splitW hpre).1
 have hc:l.pre.holds [] { args:=args }=true:=(pre_splitW hpre).2
 obtain ⟨d,r,rfl,h1,h2⟩:=hasAllW_cons hsh
 obtain rfl:=hasAllW_nil h2
 obtain ⟨xs,rfl,h3⟩:=hasW_list h1
 obtain ⟨ns,rfl⟩:=items_int h3
 have hlen:ns.length<=n:=by
  unfold OpenLaw.pre at hc
  have h4:(WTm.not (.lt (.lit (.int (n:Int))) (.len (.arg 0)))).holds [] { args:=[.list (ns.map .int)] }=true:=by
   have h4:=(holds_andW hc).1
   rw [hn] at h4
   exact h4
  have h5:=condW_of h4 (w_not (w_lt w_lit (w_len_list (w_arg rfl))))
  rw [List.length_map] at h5
  refine Nat.le_of_not_lt λ q=>?_
  have q':(n:Int) < ((ns.length:Nat):Int):=by omega
  first
   | (rw [decide_eq_true q'] at h5; exact absurd h5 (by decide))
   | (simp at h5; omega)
 cases hwl with
 | cons w1 w2 =>
  cases w2
  cases w1 with
  | list ho hall=>exact ⟨_,_,ns,rfl,rfl,ho,zhQ ns _ hall,hlen⟩
theorem zoJ (l:OpenLaw) (args:List WData):l.row.toRowW.claim.post args (.bool true) args=true :=
 postW_of (r:=l.row.toRowW) (X:=(true == true))
  (show WShape.has [] (.bool true) .bool=true by first | rfl | decide | simp [WShape.has,WShape.arms,WShape.armsAll])
  (show (WTm.eq .res (.lit (.bool true))).value [] { args:=args,res:=some (.bool true),after:=args }=some (.bool (true == true)) from w_eq_bool (w_res rfl) w_lit) rfl
theorem zmu {l:OpenLaw} {n:Nat} {q:Program} {loose:List Str} {XP:(Str->Option Value)->Heap->Prop} {YP:World->Heap->Prop} {d:DefRec}
  (hn:l.most=some n) (hdf:d.params.defaults=[])
  (call:∀ (w:World) (s₀ s₁:Shared) (mg mb:Str->Option Value) (fa:Addr) (o:Obj) (pm cd doc:Value) (a:Addr) (vs:List Value) (ns:List Int),
   Ground q loose [] XP w s₀ mg mb s₁.heap->YP w s₁.heap ->
   s₁.heap.get? fa=some o->o.data=.func (docDef d.name d.params d.body d.scope pm cd doc)->s₁.heap.CodeRec cd d.name->mg d.name=some (.ref fa) ->
   s₁.heap.get? a=some { cls:=.type "list",data:=.seq vs.toArray }->IntsAre vs ns->ns.length<=n->s₁.gens=#[] ->
   codeAny (model l.prog w) callerA (.call (.ref fa) ⟨[.ref a],[]⟩) (λ r s'=>r=.ok (.ret (.bool true))/\OldK s₁.heap s'.heap/\s'.os=s₁.os/\AllBare s'.gens) s₁) :
  WalkO q loose XP YP l.row.toRowW d [] (λ f vs=>PySem.call f vs):=by
 intro w s₀ s₁ mg mb G Y fa o pm cd doc dV kV ho hd hcd hD hmg hg args vals as hpre hlay hrd hwl hlo
 obtain rfl:dV=.none:=Dflts.none hD hdf
 obtain rfl:kV=.none:=Dflts.noKw hD
 obtain ⟨a,vs,ns,rfl,rfl,hobj,hints,hlen⟩:=zoE hn hpre hwl
 refine enter_call (codeAny_mono (call w s₀ s₁ mg mb fa o pm cd doc a vs ns G Y ho (fd_plain hd) hcd hmg hobj hints hlen hg) λ r s' hq=>?_)
 obtain ⟨rfl,h2,h3,h4⟩:=hq
 exact ⟨.inl ⟨.bool true,.bool true,[],rfl,λ _=>rfl,.bool true,zoJ l _,λ _=>⟨List.Pairwise.nil,λ _ hm=>(nomatch hm)⟩⟩,h2,h3,h4⟩
section
variable {prog:Program} {w:World} {A:Around} {E:Value->Shared->Prop} {s:Shared} {K:Frag}
end
end Att
namespace L2
open PySem PySem.Spec PyProof.Rows
theorem zj8:∀ {vs:List Value} {ns:List Int},IntsAre vs ns->Vals (ns.map V.int) vs
 | _,_,.nil=>.nil
 | _,_,.cons n t h=>.cons ⟨t,rfl⟩ (zj8 h)
def Only (H:Hp):Prop:=∀ b,H b=none\/∃ o xs,H b=some (.frz o (.lst xs))
theorem zqA {P:Program} {w:World} {K:PySem.W.Frag} {mg mb:Str->Option Value} {CX:CXT} {k:Nat} {fa a:Addr} {fd:FuncData} {x:Str} {sp:Sp} {s₁:Shared} {vs:List Value} {ns:List Int}
  (KX:K.In s₁.heap) (hns:s₁.heap.Ns mainGlobals mg) (hb:s₁.heap.Ns builtinsNs mb) (hbb:∀ x:Str,x ≠ "__name__" -> mb x=bootBuiltins x) (hlim:s₁.heap.NoLimit) (hg:s₁.gens=#[])
  (ha:s₁.heap.get? a=some { cls:=.type "list",data:=.seq vs.toArray }) (hi:IntsAre vs ns) (hl:ns.length<=sizeLine) (hr:Room k callerA)
  (F:∀ base:Heap,K.In base->base.Ns mainGlobals mg->FnOk P w K mg base CX k fa fd [x] sp) (hbind:∀ (s:Shared) (u:Value),BindsTo s fd ⟨[u],[]⟩ [(x,u)])
  (hsp:∀ H:Hp,Only H->SqL K H a (ns.map V.int)->sp [.ref a] H (λ v _=>v=.bl true) λ _ _ _=>False)
  (hCX:∀ H e s',CX [] H s₁ (λ _ _ _=>False) e s'->False) :
  codeAny (model P w) callerA (.call (.ref fa) ⟨[.ref a],[]⟩) (λ r s'=>r=.ok (.ret (.bool true))/\OldK s₁.heap s'.heap/\s'.os=s₁.os/\AllBare s'.gens) s₁:=by
 have rv:=zj8 hi
 have lenV:=hi.length
 have core:∀ H:Hp,Only H->SqL K H a (ns.map V.int)->HOk P w H s₁.heap->(∀ b,H b≠none->b=a)->(H a≠none->K.lookup a=none) ->
    codeAny (model P w) callerA (.call (.ref fa) ⟨[.ref a],[]⟩) (λ r s'=>r=.ok (.ret (.bool true))/\OldK s₁.heap s'.heap/\s'.os=s₁.os/\AllBare s'.gens) s₁:=by
  intro H hO hS hok hA hK
  have base_of:∀ {b:Addr} {o:Obj},s₁.heap.get? b=some o->H b=none->(hidT s₁.heap H).get? b=some o:=λ e n=>zqE e n
  have noA:∀ {b:Addr} {o:Obj} {es:Array DictEntry} {ep:Nat},s₁.heap.get? b=some o->o.data=.dict es ep->H b=none:=λ {b o es ep} e d=>by
    cases q:H b with
    | none=>rfl
    | some u =>
      have e':b=a:=hA b (by rw [q]; simp)
      subst e'
      rw [ha] at e; cases e
      have d':Data.seq vs.toArray _=Data.dict es ep:=d
      cases d'
  have nsK:∀ {b:Addr} {m:Str->Option Value},s₁.heap.Ns b m->(hidT s₁.heap H).Ns b m:=λ {b m} ⟨o,es,ep,e,d,r⟩=>⟨o,es,ep,base_of e (noA e d),d,r⟩
  have hKb:K.In (hidT s₁.heap H):=λ b o e=>base_of (KX b o e) (by
    cases q:H b with
    | none=>rfl
    | some u =>
      have e':b=a:=hA b (by rw [q]; simp)
      subst e'
      rw [hK (by rw [q]; simp)] at e; cases e)
  have hM:Mod K mg (hidT s₁.heap H):=⟨hKb,nsK hns,⟨mb,nsK hb,hbb⟩,let ⟨mc,h1,h2⟩:=hlim; ⟨mc,nsK h1,h2⟩⟩
  have e0:Env0 P w K mg (hidT s₁.heap H) callerA [] s₁ H:=⟨rfl,hM,λ b o e=>zrV e,Nat.le_of_eq (zpk _ _),trivial,λ b hb=>absurd (show b∈([]:List Addr) from hb) (by simp),hok,.of_eq hg⟩
  refine codeAny_mono ((F _ hKb (nsK hns)).run callerA [] s₁ H ⟨[.ref a],[]⟩ [.ref a] [.ref a] _ _ hr e0 (hbind s₁ (.ref a)) (.cons rfl .nil) (hsp H hO hS)) λ r s' h=>?_
  cases r with
  | error e=>exact (hCX H e s' h).elim
  | ok fl =>
    cases fl with
    | next=>exact False.elim h
    | brk=>exact False.elim h
    | cont=>exact False.elim h
    | ret u =>
      obtain ⟨v,H',os,bare,un,hok',r',q⟩:=h
      have q':v=.bl true:=q
      subst q'
      obtain rfl:u=Value.bool true:=r'
      refine ⟨rfl,OldK.of_keep λ b o e=>?_,os,bare⟩
      cases q:H b with
      | none=>exact un.keep b o e q (by intro z; exact absurd (show b∈([]:List Addr) from z) (by simp)) (by simp)
      | some u =>
       rcases hO b with z | ⟨ob,xs,z⟩
       . rw [q] at z; cases z
       . have z2:=un.frzs b ob _ z
         obtain ⟨e1,_⟩:=hok b _ z
         obtain ⟨e2,_⟩:=hok' b _ z2
         rw [e] at e1; cases e1
         exact e2
 cases hk:K.lookup a with
 | some o =>
  have e:=KX a o hk
  rw [ha] at e
  cases e
  refine core (λ _=>none) (λ _=>.inl rfl) (.inr ⟨_,vs.toArray,_,hk,rfl,rfl,rfl,by rw [List.size_toArray,lenV]; exact hl,by simpa using rv⟩) (λ b u z=>by have z':(none:Option HO)=some u:=z; cases z') (λ b z=>absurd rfl z) λ z=>absurd rfl z
 | none =>
  refine core (λ b=>if b=a then some (.frz { cls:=.type "list",data:=.seq vs.toArray } (.lst (ns.map V.int))) else none) (λ b=>?_) (.inl (.inr ⟨{ cls:=.type "list",data:=.seq vs.toArray },if_pos rfl⟩)) (λ b u z=>?_) (λ b z=>?_) λ _=>hk
  . by_cases hb:b=a
    . exact .inr ⟨_,_,if_pos hb⟩
    . exact .inl (if_neg hb)
  . by_cases hb:b=a
    . have z':=(if_pos hb).symm.trans z
      cases z'
      subst hb
      exact ⟨ha,by rw [List.length_map]; exact hl,vs,_,rv,ha⟩
    . have z':=(if_neg hb).symm.trans z
      cases z'
  . by_cases hb:b=a
    . exact hb
    . exact absurd (if_neg hb) z
end L2
namespace L2
open PySem PySem.Spec PyProof.Rows
end L2
namespace L2
open PySem PySem.Spec PyProof.Rows
def inClass (s:Stmt) (j:Nat):Stmt:=match s with
 | .ClassDef _ _ _ body _ _ _ _ _ _ _=>body.getD j (.Pass ⟨0,0,0,0⟩)
 | _=>.Pass ⟨0,0,0,0⟩
def zjS (s:Stmt):Arguments:=match s with
 | .FunctionDef _ a _ _ _ _ _ _ _ _=>a
 | _=>{ posonlyargs:=[],args:=[],vararg:=none,kwonlyargs:=[],kw_defaults:=[],kwarg:=none,defaults:=[] }
def zhX (s:Stmt):List Stmt:=match s with
 | .FunctionDef _ _ b _ _ _ _ _ _ _=>b
 | _=>[]
def zak (s:Stmt):Scope:=match s with
 | .FunctionDef _ _ _ _ _ _ sc _ _ _=>sc
 | _=>{ kind:=.function,names:=[],isGenerator:=false,isCoroutine:=false }
structure Fun (K:PySem.W.Frag) (x qual:Str) (st:Stmt) (f:Addr) (fd:FuncData):Prop where
 ex:∃ (oc:Value) (od:Option Addr) (kV doc pm:Value) (an:Option Addr) (cdv ct:Value) (osl:Array (Option Value)),
  fd=PySem.W.fnOf x qual (zjS st) (zhX st) (zak st) .none kV doc pm an cdv ct/\K.lookup f=some ⟨oc,od,.func fd,osl⟩/\PySem.W.codeIn K cdv qual=true
 kp:PySem.W.keepIn K (.ref f)=true
section
variable {P:Program} {w:World} {K:PySem.W.Frag} {mg:Str->Option Value} {base:Heap}
theorem Fun.binds {x qual:Str} {st:Stmt} {f:Addr} {fd:FuncData} {ps:List Str} (F:Fun K x qual st f fd)
  (h:∀ (kV doc pm:Value) (an:Option Addr) (cdv ct:Value) (us:List Value),us.length=ps.length->bindArgs (PySem.W.fnOf x qual (zjS st) (zhX st) (zak st) .none kV doc pm an cdv ct) ⟨us,[]⟩=pure (ps.zip us)):Binds K fd ps []:=by
 obtain ⟨oc,od,kV,doc,pm,an,cdv,ct,osl,rfl,lk,hcd⟩:=F.ex
 exact .all (h kV doc pm an cdv ct)
end
theorem zdW {A:Around} {k:Nat} (hr:Room k A):A.units+1 < cLine:=Nat.lt_of_le_of_lt (Nat.add_le_add_left (by decide:1<=64) _) hr.units
section
variable {X:Cx}
theorem pv (i:Nat) {x:Str} {pos:Pos} (hN:X.N[i]?=some x:=by rfl) (hv:Vis X.env.scope x:=by first | exact Or.inl rfl | exact Or.inr (Or.inl rfl) | exact Or.inr (Or.inr rfl)) (hd:(x == ("__debug__" : Str))=false:=by decide)
 (hcd:(x == ("__classdict__" : Str))=false:=by decide):PE X (.Name x pos) (tVar i):=zsO hN hv hd hcd
end
theorem iteF {A B:Prop} (h:B):if false=true then A else B:=by
 rw [if_neg Bool.false_ne_true]
 exact h
theorem iteT {A B:Prop} (h:A):if true=true then A else B:=by
 rw [if_pos rfl]
 exact h
def Same (H H':Hp):Prop:=∀ b o,H b=some o->H' b=some o
theorem Same.refl (H:Hp):Same H H:=λ _ _ h=>h
theorem Same.trans {H H1 H2:Hp} (a:Same H H1) (b:Same H1 H2):Same H H2:=λ c o h=>b c o (a c o h)
theorem Same.free {H H':Hp} (e:Same H H') {l:Addr} (h:H' l=Option.none):H l=Option.none:=by
 cases q:H l with
 | none=>rfl
 | some o =>
  rw [e l o q] at h
  cases h
theorem Same.seq {K:PySem.W.Frag} {H H':Hp} {a:Addr} {xs:List V} (e:Same H H') (h:SqL K H a xs):SqL K H' a xs:=by
 rcases h with (h | ⟨o,h⟩) | h
 . exact .inl (.inl (e _ _ h))
 . exact .inl (.inr ⟨o,e _ _ h⟩)
 . exact .inr h
section
variable {κ:Type} [DecidableEq κ]
end
end L2
end
section
namespace L2
open PySem PySem.Spec PyProof.Rows
abbrev NoX:Value->Shared->Prop:=λ _ _=>False
def zpV (M:Model) (A:Around) (ifs:List Expr) (env:Env) (tst:(Bool->Shared->Prop)->Shared->Prop):Prop :=
 (ifs=[]/\∀ Q s,tst Q s->Q true s)\/∃ c,ifs=[c]/\∀ Q s,tst Q s->wpAny M A (isTrue c env (eval c env)) Q NoX s
def ztl (M:Model) (A:Around) (target elt:Expr) (env:Env) (it acc v:Value) (tst:(Bool->Shared->Prop)->Shared->Prop) (Nx:Shared->Prop) (s1:Shared):Prop :=
 wpAny M A (letOwnedTupleGo target it v) (λ _ s2=>wpAny M A (assign target env v) (λ _ s3=>tst (λ ok s4 =>
  if ok=true then wpAny M A (eval elt env) (λ x s5=>wpAny M A (call (.builtin "list.append") [acc,x]) (λ _ s6=>Nx s6) NoX s5) NoX s4 else Nx s4) s3) NoX s2) NoX s1
theorem nox {α:Type} {M:Model} {A:Around} {t:Sem α} {Q Q':α->Shared->Prop} {E:Value->Shared->Prop} {s:Shared} (h:wpAny M A t Q NoX s) (k:∀ a s',Q a s'->Q' a s'):wpAny M A t Q' E s:=wpAny_mono h k λ _ _ z=>z.elim
theorem zlh {prog:Program} {w:World} {A:Around} {R:Result->Shared->Prop} {s:Shared} {elt target iter:Expr} {ifs:List Expr} {scope:Scope} {pos:Pos} {it acc:Value} {env:Env} {tst:(Bool->Shared->Prop)->Shared->Prop}
   (ht:zpV (model prog w) A ifs env tst) (I:Nat->Shared->Prop)
   (go:∀ n s,I n s->wpAny (model prog w) A (pyNext it) (λ r s1=>(r=none/\R (.ok .next) s1)\/∃ v,r=some v/\ztl (model prog w) A target elt env it acc v tst (λ s2=>∃ m,m < n/\I m s2) s1) NoX s)
   (n:Nat) (h:I n s):codeAny (model prog w) A (.compLoop (.ListComp elt [⟨target,iter,ifs,0⟩] scope pos) 0 it acc env) R s:=by
 rcases ht with ⟨rfl,ht⟩ | ⟨c,rfl,ht⟩
 . refine PySem.W.kcp_loop I (λ m s' hI=>nox (go m s' hI) λ r s1 q=>?_) n h
   rcases q with ⟨rfl,q⟩ | ⟨v,rfl,q⟩
   . exact q
   . exact nox q λ _ s2 q2=>nox q2 λ _ s3 q3=>by
      have q4:=ht _ _ q3
      rw [if_pos rfl] at q4
      exact nox q4 λ x s5 q5=>nox q5 λ _ _ q6=>q6
 . refine PySem.W.kct_loop I (λ m s' hI=>nox (go m s' hI) λ r s1 q=>?_) n h
   rcases q with ⟨rfl,q⟩ | ⟨v,rfl,q⟩
   . exact q
   . exact nox q λ _ s2 q2=>nox q2 λ _ s3 q3=>nox (ht _ _ q3) λ ok s4 q4=>by
      cases ok with
      | false=>rw [if_neg Bool.false_ne_true] at q4 ⊢; exact q4
      | true=>rw [if_pos rfl] at q4 ⊢; exact nox q4 λ x s5 q5=>nox q5 λ _ _ q6=>q6
def zdP (cells:List (Str×Addr)) (cs:List (Str×Addr)) (y:Str×NameKind):List (Str×Addr) :=
 if y.2 == .free then match cells.lookup y.1 with | some a=>(y.1,a)::cs | none=>cs else cs
def clOf (scope:Scope) (cells:List (Str×Addr)):List (Str×Addr):=scope.names.foldl (zdP cells) []
theorem zi4 {env:Env}:∀ (l:List (Str×NameKind)) (cs:List (Str×Addr)),(∀ y∈l,y.2=.free->∃ a,env.cells.lookup y.1=some a) ->
  (forIn l cs (λ (y:Str×NameKind) (cs:List (Str×Addr))=>if (y.2 == NameKind.free)=true then do let a <-cellOf env y.1; pure (ForInStep.yield ((y.1,a)::cs)) else pure (ForInStep.yield cs)):Sem (List (Str×Addr)))=pure (l.foldl (zdP env.cells) cs)
 | [],cs,_=>rfl
 | y::r,cs,h=>by
  rw [List.forIn_cons]
  have ih:=λ cs'=>zi4 r cs' λ z hz=>h z (List.mem_cons_of_mem _ hz)
  by_cases hk:y.2=.free
  . obtain ⟨a,ha⟩:=h y List.mem_cons_self hk
    have e1:zdP env.cells cs y=(y.1,a)::cs:=by unfold zdP; rw [hk,ha]; rfl
    rw [List.foldl_cons,e1,<-ih]
    have e2:cellOf env y.1=pure a:=by unfold cellOf; rw [ha]
    simp only [hk,beq_self_eq_true,if_true,e2]
    rfl
  . have hb:(y.2 == NameKind.free)=false:=by simpa using hk
    have e1:zdP env.cells cs y=cs:=by unfold zdP; rw [hb]; rfl
    rw [List.foldl_cons,e1,<-ih]
    simp only [hb,Bool.false_eq_true,if_false]
    rfl
theorem zi5 {scope:Scope} {env:Env} (h:∀ y∈scope.names,y.2=.free->∃ a,env.cells.lookup y.1=some a):closureFor scope env=pure (clOf scope env.cells):=by
 have:=zi4 scope.names [] h
 unfold clOf
 rw [<-this]
 unfold closureFor
 first
  | rfl
  | simp only [bind_pure]
theorem zg3 {cells:List (Str×Addr)} {x:Str} {c:Addr}:∀ (l:List (Str×NameKind)) (cs:List (Str×Addr)),(∀ c,cs.lookup x=some c->cells.lookup x=some c)->(l.foldl (zdP cells) cs).lookup x=some c->cells.lookup x=some c
 | [],cs,h,q=>h c q
 | y::r,cs,h,q=>by
  rw [List.foldl_cons] at q
  refine zg3 r _ (λ c' q'=>?_) q
  unfold zdP at q'
  by_cases hk:(y.2 == NameKind.free)=true
  . rw [if_pos hk] at q'
    cases e:cells.lookup y.1 with
    | none=>rw [e] at q'; exact h c' q'
    | some a =>
     rw [e] at q'
     rw [List.lookup_cons] at q'
     by_cases hx:x == y.1
     . rw [hx] at q'
       have:x=y.1:=by simpa using hx
       rw [this,e]; exact q'
     . have hx':(x == y.1)=false:=by simpa using hx
       rw [hx'] at q'; exact h c' q'
  . rw [if_neg hk] at q'; exact h c' q'
theorem zjT {cells:List (Str×Addr)} {x:Str}:∀ (l:List (Str×NameKind)) (cs:List (Str×Addr)),((∃ c,cs.lookup x=some c)\/((x,NameKind.free)∈l/\∃ c,cells.lookup x=some c))->∃ c,(l.foldl (zdP cells) cs).lookup x=some c
 | [],cs,h=>by
  rcases h with h | ⟨h,_⟩
  . exact h
  . cases h
 | y::r,cs,h=>by
  rw [List.foldl_cons]
  refine zjT r _ ?_
  have mono:(∃ c,cs.lookup x=some c)->∃ c,(zdP cells cs y).lookup x=some c:=λ ⟨c,hc⟩=>by
    unfold zdP
    by_cases hk:(y.2 == NameKind.free)=true
    . rw [if_pos hk]
      cases e:cells.lookup y.1 with
      | none=>exact ⟨c,hc⟩
      | some a =>
       show ∃ c,List.lookup x ((y.1,a)::cs)=some c
       rw [List.lookup_cons]
       by_cases hx:(x == y.1)=true
       . rw [hx]; exact ⟨a,rfl⟩
       . have hx':(x == y.1)=false:=by simpa using hx
         rw [hx']; exact ⟨c,hc⟩
    . rw [if_neg hk]; exact ⟨c,hc⟩
  rcases h with h | ⟨h1,c,h2⟩
  . exact .inl (mono h)
  . rcases List.mem_cons.mp h1 with z | z
    . refine .inl ⟨c,?_⟩
      rw [<-z]
      unfold zdP
      show List.lookup x (if (NameKind.free == NameKind.free)=true then (match cells.lookup x with | some a=>(x,a)::cs | none=>cs) else cs)=some c
      rw [if_pos (show (NameKind.free == NameKind.free)=true from rfl),h2]
      show List.lookup x ((x,c)::cs)=some c
      rw [List.lookup_cons]; simp
    . exact .inr ⟨z,c,h2⟩
theorem zeJ {scope:Scope} {env:Env} {x:Str} {k:NameKind} (h:(relabel scope env).names.lookup x=some k):scope.names.lookup x=some k\/(k=.cell/\scope.names.lookup x=some .free):=by
 unfold relabel at h
 dsimp only at h
 generalize scope.names=l at h ⊢
 induction l with
 | nil=>cases h
 | cons y r ih =>
  obtain ⟨n,kk⟩:=y
  rw [List.map_cons,List.lookup_cons] at h
  rw [List.lookup_cons]
  dsimp only at h
  by_cases hc:(kk == NameKind.free && env.scope.kind == .function && env.kindOf n == some .cell)=true
  . rw [if_pos hc] at h
    by_cases hx:(x == n)=true
    . dsimp only at h
      rw [hx] at h ⊢
      simp only [Bool.and_eq_true,beq_iff_eq] at hc
      exact .inr ⟨(Option.some.inj h).symm,by rw [hc.1.1]⟩
    . have hx':(x == n)=false:=by simpa using hx
      dsimp only at h
      rw [hx'] at h ⊢
      exact ih h
  . rw [if_neg hc] at h
    by_cases hx:(x == n)=true
    . dsimp only at h
      rw [hx] at h ⊢
      exact .inl h
    . have hx':(x == n)=false:=by simpa using hx
      dsimp only at h
      rw [hx'] at h ⊢
      exact ih h
theorem zky {scope:Scope} {env:Env} {x:Str} (h:scope.names.lookup x=some .free):(relabel scope env).names.lookup x=some .cell\/(relabel scope env).names.lookup x=some .free:=by
 unfold relabel
 dsimp only
 generalize scope.names=l at h ⊢
 induction l with
 | nil=>cases h
 | cons y r ih =>
  obtain ⟨n,kk⟩:=y
  rw [List.map_cons,List.lookup_cons]
  rw [List.lookup_cons] at h
  dsimp only
  by_cases hx:(x == n)=true
  . rw [hx] at h
    have hk:kk=.free:=Option.some.inj h
    by_cases hc:(kk == NameKind.free && env.scope.kind == .function && env.kindOf n == some .cell)=true
    . rw [if_pos hc]; dsimp only; rw [hx]; exact .inl rfl
    . rw [if_neg hc]; dsimp only; rw [hx,hk]; exact .inr rfl
  . have hx':(x == n)=false:=by simpa using hx
    rw [hx'] at h
    by_cases hc:(kk == NameKind.free && env.scope.kind == .function && env.kindOf n == some .cell)=true
    . rw [if_pos hc]; dsimp only; rw [hx']; exact ih h
    . rw [if_neg hc]; dsimp only; rw [hx']; exact ih h
def cxB (X:Cx) (Nc:List Str) (scope:Scope) (C:Addr) (fp:List Addr) (s:Shared) (H:Hp):Cx where
 prog:=X.prog
 w:=X.w
 K:=X.K
 mg:=X.mg
 base:=X.base
 A:=X.A
 N:=Nc
 s₀:=s
 H₀:=H
 env:=compEnvC scope (clOf scope X.env.cells) C X.env
 outer:=X.stack
 stack:=X.stack
 ex:=fp
 fn:=λ _=>false
 calm:=true
 pn:=[]
 xe:=λ _ _=>False
structure Blk (X:Cx) (scope:Scope) (own:Nat) (ix:List Nat) (Nc:List Str):Prop where
 kind:scope.kind=.function
 zq3:∀ y∈scope.names,y.2≠.cell
 names:∀ y∈scope.names,y.2=.local->scope.names.lookup y.1=some .local
 free:∀ y∈scope.names,y.2=.free->X.env.kindOf y.1=some .cell\/X.env.kindOf y.1=some .free
 nd:Nc.Nodup
 len:Nc.length=own+ix.length
 cap:∀ (i j:Nat) (x:Str),Nc[own+i]?=some x->ix[i]?=some j->X.N[j]?=some x/\scope.names.lookup x=some .free/\(X.env.kindOf x=some .cell\/X.env.kindOf x=some .free)
def zc6 (own:Nat) (ix:List Nat) (σ:St):St:=List.replicate own none++ix.map λ j=>(σ[j]?).join
section
variable {X:Cx} {pins:List (Addr×Obj)} {σ:St} {H H':Hp} {s:Shared} {scope:Scope} {own:Nat} {ix:List Nat} {Nc:List Str} {C D:Addr} {fp:List Addr}
theorem Inv.blk {h1:Heap} {t1:Nat} {m1:Str->Option Value} (I:Inv X pins σ H s) (hc:X.calm=true) (B:Blk X scope own ix Nc) (hf:∀ b∈fp,FpOk X pins H b) (hfo:∀ b∈fp,∃ o,s.heap.get? b=some o)
   (hn:h1.Ns C m1) (k:∀ b u,s.heap.get? b=some u->h1.get? b=some u) (hC:s.heap.objs.size<=C):Inv (cxB X Nc scope C fp s H) [] (zc6 own ix σ) H { s with heap:=h1,toks:=t1 }:=by
 have snd:∀ x c,(clOf scope X.env.cells).lookup x=some c->X.env.cells.lookup x=some c:=λ x c e=>zg3 scope.names [] (λ _ z=>by cases z) e
 have lt:∀ b∈fp,b < s.heap.objs.size:=λ b hb=>by obtain ⟨o,e⟩:=hfo b hb; exact Heap.lt_size e
 refine ⟨⟨I.ok.mod,B.kind,I.ok.glob,I.ok.blt,hC,λ x y c e1 e2=>I.ok.inj x y c (snd x c e1) (snd y c e2),λ x hx=>?_,λ x c e=>(by cases e),λ _=>I.ok.hd hc,I.ok.frames,.inl rfl,λ b hb=>⟨?_,λ x c e=>?_⟩,I.bs,Nat.le_trans I.ok.bsz I.sz,λ b o e hb=>?_,λ b hb hb2=>?_,I.stack,I.zha⟩,
   rfl,I.bare,Un.kept k,⟨m1,hn,λ i x v e1 e2 e3=>?_⟩,λ x c e=>?_,I.hok.fresh hC,λ x c e=>I.zdX x c (snd x c e),λ p hp=>(by cases hp),I.hok.kept k,?_⟩
 . have hx':(relabel scope X.env).names.lookup x=some .cell\/(relabel scope X.env).names.lookup x=some .free:=hx
   have hfr:scope.names.lookup x=some .free:=by
     rcases hx' with z | z
     . rcases zeJ z with q | ⟨_,q⟩
       . exact absurd rfl (B.zq3 _ (PySem.mem_of_lookup q))
       . exact q
     . rcases zeJ z with q | ⟨q,_⟩
       . exact q
       . cases q
   have hm:=PySem.mem_of_lookup hfr
   exact zjT scope.names [] (.inr ⟨hm,I.ok.has x (B.free _ hm rfl)⟩)
 . exact Nat.ne_of_lt (Nat.lt_of_lt_of_le (lt b hb) hC)
 . exact (hf b hb).2.2.2.2.1 x c (snd x c e)
 . rcases (hf b hb).2.2.2.1 with z | z
   . exact I.ok.noex b o e z
   . exact absurd (Nat.lt_of_lt_of_le (Heap.lt_size (I.ok.bs b o e).1) z) (Nat.lt_irrefl _)
 . obtain ⟨_,f1,f2,_⟩:=hf b hb
   rcases List.mem_cons.mp (I.zmU b hb2) with z | z
   . exact f1 z
   . exact f2 z
 . have hlt:¬ i < own:=λ hi=>by
     have e2':(zc6 own ix σ)[i]?=some (some v):=e2
     unfold zc6 at e2'
     rw [List.getElem?_append_left (by simpa using hi),List.getElem?_replicate] at e2'
     rw [if_pos hi] at e2'
     cases e2'
   obtain ⟨j,rfl⟩:∃ j,i=own+j:=⟨i - own,by omega⟩
   have e2':(zc6 own ix σ)[own+j]?=some (some v):=e2
   unfold zc6 at e2'
   rw [List.getElem?_append_right (by simp),List.length_replicate,Nat.add_sub_cancel_left,List.getElem?_map] at e2'
   cases hj:ix[j]? with
   | none=>rw [hj] at e2'; cases e2'
   | some q =>
     rw [hj] at e2'
     have e4:(σ[q]?).join=some v:=Option.some.inj e2'
     have e5:σ[q]?=some (some v):=by
       cases hq:σ[q]? with
       | none=>rw [hq] at e4; cases e4
       | some o=>rw [hq] at e4; exact congrArg some e4
     obtain ⟨g1,g2,g3⟩:=B.cap j q x e1 hj
     obtain ⟨m,hm,hl⟩:=I.loc
     obtain ⟨u,ru,lk⟩:=hl q x v g1 e5 (g3.elim (λ z=>.inr (.inl z)) λ z=>.inr (.inr z))
     refine ⟨u,ru,.inr ⟨zky g2,?_⟩⟩
     rcases lk with ⟨z,_⟩ | ⟨_,c,ec,o,ho,hd⟩
     . rcases g3 with y | y <;> rw [z] at y <;> cases y
     . obtain ⟨c',ec'⟩:=zjT (cells:=X.env.cells) scope.names [] (.inr ⟨PySem.mem_of_lookup g2,c,ec⟩)
       have:c'=c:=Option.some.inj ((snd x c' ec').symm.trans ec)
       subst this
       exact ⟨c',ec',o,k _ _ ho,hd⟩
 . obtain ⟨v,o,ho,hd⟩:=I.cell x c (snd x c e)
   exact ⟨v,o,k _ _ ho,hd⟩
 . show (List.replicate own none++ix.map λ j=>(σ[j]?).join).length=Nc.length
   rw [List.length_append,List.length_replicate,List.length_map,B.len]
abbrev lstO (its:List Value):Obj:=LCg.lst its
theorem Inv.ztf {s':Shared} {pins':List (Addr×Obj)} {σ':St} {ys:List V} {its:List Value} (I:Inv X pins σ H s) (hf:∀ b∈fp,FpOk X pins H b)
   (J:Inv (cxB X Nc scope C fp s H) pins' σ' H' s') (hD:s.heap.objs.size<=D) (hDo:s'.heap.get? D=some (lstO its)) (hDn:H' D=none) (r:Vals ys its) (hz:ys.length<=sizeLine) :
   Inv X pins σ (upd H' D (.lst ys)) s':=by
 have old:∀ b o,s.heap.get? b=some o->b≠D:=λ b o e=>Nat.ne_of_lt (Nat.lt_of_lt_of_le (Heap.lt_size e) hD)
 have trd:∀ b u,H b=some u->b≠D:=λ b u e=>Nat.ne_of_lt (Nat.lt_of_lt_of_le (I.hok.lt e) hD)
 refine I.zr9 (ch:=fp) J.os ⟨λ b o q n hb hx=>J.base.keep b o q n hb hx,λ b o q n hb hx=>J.base.slot b o q n hb hx,λ b o q n hx=>?_,λ b o q hx=>J.base.there b o q hx,λ b xs q=>?_,λ b o u q=>?_,λ b ps q=>?_⟩ (λ b u e=>?_) J.bare λ b hb=>?_
 . rw [zae (old b o q)]; exact J.base.free b o q n hx
 . rw [zae (trd b _ q)]; exact J.base.tups b xs q
 . rw [zae (trd b _ q)]; exact J.base.frzs b o u q
 . obtain ⟨more,e⟩:=J.base.tbls b ps q
   exact ⟨more,by rw [zae (trd b _ q)]; exact e⟩
 . by_cases hb:b=D
   . subst hb
     rw [zab] at e
     cases e
     exact ⟨hz,its,its.length,r,hDo⟩
   . rw [zae hb] at e
     exact (J.hok b u e).stay (λ _ _ _ q=>q) (λ c q=>by rw [zae (zah q hDn)]; exact q) λ c xs q=>by rw [zae (zah q hDn)]; exact q
 . obtain ⟨_,f1,_,f3,f4,f5⟩:=hf b hb
   exact ⟨f3,f1,f4,f5⟩
end
def zsj:TT:=λ _ H Q=>Q true H
def PTs (X:Cx) (ifs:List Expr) (t:TT):Prop:=(ifs=[]/\t=zsj)\/∃ c,ifs=[c]/\PT X c t
theorem zjn {X:Cx}:PTs X [] zsj:=.inl ⟨rfl,rfl⟩
theorem zf4 {X:Cx} {c:Expr} {t:TT} (h:PT X c t):PTs X [c] t:=.inr ⟨c,rfl,h⟩
def ztm (X:Cx) (t:TT) (Q:Bool->Shared->Prop) (s:Shared):Prop :=
 ∃ pins σ H Qa,Inv X pins σ H s/\t σ H Qa/\∀ b H' s',Inv X pins σ H' s'->Qa b H'->Q b s'
theorem PTs.by {X:Cx} {ifs:List Expr} {t:TT} (h:PTs X ifs t) (hx:X.xe=NoX):zpV (model X.prog X.w) X.A ifs X.env (ztm X t):=by
 rcases h with ⟨rfl,rfl⟩ | ⟨c,rfl,h⟩
 . exact .inl ⟨rfl,λ Q s ⟨pins,σ,H,Qa,I,q,k⟩=>k true H s I q⟩
 . refine .inr ⟨c,rfl,λ Q s ⟨pins,σ,H,Qa,I,q,k⟩=>?_⟩
   have:=h pins s σ H _ I q
   rw [hx] at this
   exact thn this λ b s' ⟨H',I',z⟩=>k b H' s' I' z
def ziH (J:It) (g:TG) (tt:TT) (te:TE) (σ₀:St) (H:Hp) (Fin:List V->Hp->Prop):Prop :=
 ∃ W:Nat->Nat->List V->St->Hp->Prop,(∃ m,W 0 m [] σ₀ H)/\∀ i m ys σ H,W i m ys σ H ->
  (J.stop i H/\Fin ys H)\/(J.go i H/\ys.length < sizeLine/\∀ x H',J.yld i H x H'->g x σ H' λ σ2 H2=>tt σ2 H2 λ b H3 =>
   if b=true then te σ2 H3 λ y H4=>∃ m',m' < m/\W (i+1) m' (ys++[y]) σ2 H4 else ∃ m',m' < m/\W (i+1) m' ys σ2 H3)
section
variable {X:Cx} {scope:Scope} {own:Nat} {ix:List Nat} {Nc:List Str} {target iter elt:Expr} {ifs:List Expr} {pos:Pos} {wi:TI} {g:TG} {tt:TT} {te:TE}
theorem zi3 {pins:List (Addr×Obj)} {σ:St} {H2:Hp} {s2:Shared} {it:Addr} {fp:List Addr} {tn:Nat->Heap->Prop} {J:It} {Fin:List V->Hp->Prop} {E:Value->Shared->Prop} {RR:Value->Addr->Result->Shared->Prop}
  (hc:X.calm=true) (B:Blk X scope own ix Nc) (I2:Inv X pins σ H2 s2) (T:Turn X.prog X.w X.K target J fp it tn) (st:tn 0 s2.heap) (hf:∀ b∈fp,FpOk X pins H2 b)
  (hg:∀ C,PG (cxB X Nc scope C fp s2 H2) target g) (ht:∀ C,PTs (cxB X Nc scope C fp s2 H2) ifs tt) (he:∀ C,PE (cxB X Nc scope C fp s2 H2) elt te)
  (hw:ziH J g tt te (zc6 own ix σ) H2 Fin)
  (hRR:∀ D C s' ys H' m',Inv X pins σ (upd H' D (.lst ys)) s'->H' D=none->Fin ys H'->s'.heap.Ns C m'->H' C=none->D≠C->s2.heap.objs.size<=C->RR (.ref D) C (.ok .next) s') :
  wpAny (model X.prog X.w) X.A (newList []) (λ acc s₃=>wpAny (model X.prog X.w) X.A (newFunctionEnv scope X.env.globals (clOf scope X.env.cells) [] X.env.qual none .none (some X.env)) (λ cenv s₄ =>
    codeAny (model X.prog X.w) X.A (.compStart (.ListComp elt [⟨target,iter,ifs,0⟩] scope pos) 0 (.ref it) acc { cenv with scope:=relabel scope X.env }) (RR acc cenv.locals) s₄) E s₃) E s2:=by
 refine wpAny_newObj_type (wpAny_newFunctionEnv B.zq3 (by intro y hy; simp at hy) (λ h₁ hns₁ hsb₁=>?_) B.kind)
 dsimp only at hns₁ hsb₁ ⊢
 generalize hH2:s2.heap.push { cls:=.type "list",dict:=none,data:=.seq ([]:List Value).toArray }=G2 at hns₁ hsb₁ ⊢
 have hC:G2.objs.size=s2.heap.objs.size+1:=by rw [<-hH2,Heap.size_push]
 have hDC:s2.heap.objs.size≠G2.objs.size:=by rw [hC]; exact Nat.ne_of_lt (Nat.lt_succ_self _)
 have hCle:s2.heap.objs.size<=G2.objs.size:=by rw [hC]; exact Nat.le_succ _
 have below:∀ b,b < s2.heap.objs.size->b≠G2.objs.size/\b≠s2.heap.objs.size:=λ b hb=>⟨by rw [hC]; exact Nat.ne_of_lt (Nat.lt_succ_of_lt hb),Nat.ne_of_lt hb⟩
 have old:∀ b o,s2.heap.get? b=some o->h₁.get? b=some o:=λ b o e=>hsb₁.extBut b o (below b (Heap.lt_size e)).1 (Heap.get?_push_of_some _ (hH2 ▸ Heap.get?_push_of_some _ e))
 have hacc:h₁.get? s2.heap.objs.size=some (lstO []):=hsb₁.extBut _ _ hDC (Heap.get?_push_of_some _ (hH2 ▸ Heap.get?_push_size _ rfl))
 have hfo:∀ b∈fp,∃ o,s2.heap.get? b=some o:=λ b hb=>let ⟨o,e,_⟩:=T.obj 0 _ st b hb; ⟨o,e⟩
 have flt:∀ b∈fp,b < s2.heap.objs.size:=λ b hb=>let ⟨o,e⟩:=hfo b hb; Heap.lt_size e
 have I0:Inv (cxB X Nc scope G2.objs.size fp s2 H2) [] (zc6 own ix σ) H2 { s2 with heap:=h₁,toks:=s2.toks+([]:List (Str×Value)).length }:=I2.blk hc B hf hfo hns₁ old hCle
 have st1:tn 0 h₁:=T.keep 0 _ _ st λ b _ o e=>old b o e
 have hDfs:s2.heap.objs.size∉frs X.stack:=λ z=>by
  obtain ⟨_,o,ho,_⟩:=I2.stack.mem z
  exact absurd (Heap.lt_size ho) (Nat.lt_irrefl _)
 have ffs:∀ b∈fp,b∉frs X.stack:=λ b hb z=>by
  obtain ⟨_,f1,f2,_⟩:=hf b hb
  rcases List.mem_cons.mp (I2.zmU b z) with y | y
  . exact f1 y
  . exact f2 y
 have fcl:∀ b∈fp,∀ x c,(clOf scope X.env.cells).lookup x=some c->c≠b:=λ b hb x c e=>(hf b hb).2.2.2.2.1 x c (zg3 scope.names [] (λ _ z=>by cases z) e)
 have dcl:∀ x c,(clOf scope X.env.cells).lookup x=some c->c≠s2.heap.objs.size:=λ x c e z=>by
  obtain ⟨v,q⟩:=I2.cell x c (zg3 scope.names [] (λ _ z=>by cases z) e)
  exact absurd q.lt (by rw [z]; exact Nat.lt_irrefl _)
 obtain ⟨W,⟨m0,w0⟩,turn⟩:=hw
 have loop:∀ s₃:Shared,s₃={ s2 with heap:=h₁,toks:=s2.toks+([]:List (Str×Value)).length } ->
    codeAny (model X.prog X.w) X.A (.compLoop (.ListComp elt [⟨target,iter,ifs,0⟩] scope pos) 0 (.ref it) (.ref s2.heap.objs.size) (compEnvC scope (clOf scope X.env.cells) G2.objs.size X.env))
     (RR (.ref s2.heap.objs.size) G2.objs.size) s₃:=by
  rintro s₃ rfl
  refine zlh ((ht G2.objs.size).by rfl) (λ n s'=>∃ i ys its σ' H',Inv (cxB X Nc scope G2.objs.size fp s2 H2) [] σ' H' s'/\tn i s'.heap/\(∀ b∈fp,H' b=none)/\s'.heap.get? s2.heap.objs.size=some (lstO its)/\H' s2.heap.objs.size=none/\Vals ys its/\ys.length<=sizeLine/\W i n ys σ' H')
    ?_ m0 ⟨0,[],[],_,H2,I0,st1,λ b hb=>(hf b hb).1,hacc,I2.hok.fresh (Nat.le_refl _),.nil,Nat.zero_le _,w0⟩
  rintro n s3 ⟨i,ys,its,σ3,H3,I3,st3,fr3,hD3,nD3,r3,z3,w3⟩
  have Ip:Inv (cxB X Nc scope G2.objs.size fp s2 H2) [(s2.heap.objs.size,lstO its)] σ3 H3 s3:=I3.zhp λ p hp=>by
    have e:p=(s2.heap.objs.size,lstO its):=by simpa using hp
    subst e
    exact ⟨hD3,nD3,hDC,hDfs,λ v z=>by cases z⟩
  have fpk:∀ {H':Hp},(∀ b∈fp,H' b=none)->∀ b∈fp,FpOk (cxB X Nc scope G2.objs.size fp s2 H2) [(s2.heap.objs.size,lstO its)] H' b:=λ hn b hb =>
    ⟨hn b hb,(below b (flt b hb)).1,ffs b hb,.inl hb,fcl b hb,λ p hp=>by
     have hp':p∈([]:List (Addr×Obj))++[(s2.heap.objs.size,lstO its)]:=hp
     have e:p=(s2.heap.objs.size,lstO its):=by simpa using hp'
     subst e
     exact Ne.symm (below b (flt b hb)).2⟩
  rcases turn i n ys σ3 H3 w3 with ⟨stop,fin⟩ | ⟨go,hlen,step⟩
  . refine thn (T.done (cxB X Nc scope G2.objs.size fp s2 H2) rfl rfl rfl rfl i _ s3 σ3 H3 NoX Ip (fpk fr3) st3 stop) λ r s4 ⟨hr,I4⟩=>.inl ⟨hr,?_⟩
    obtain ⟨m4,n4,_⟩:=I4.loc
    have pD:=I4.pin (s2.heap.objs.size,lstO its) (by simp)
    exact hRR _ _ s4 ys H3 m4 (I2.ztf hf I4 (Nat.le_refl _) pD.1 nD3 r3 z3) nD3 fin n4 I4.free hDC hCle
  . refine thn (T.item (cxB X Nc scope G2.objs.size fp s2 H2) rfl rfl rfl rfl i _ s3 σ3 H3 NoX Ip (fpk fr3) st3 go) λ r s4 ⟨u,hr,h4⟩=>.inr ⟨u,hr,?_⟩
    refine thn h4 λ _ s5 ⟨x,H5,I5,r5,y5,st5,fr5⟩=>?_
    have I5':=I5.pinned (fpk fr5) (T.obj _ _ st5)
    have keepT:∀ {σ8:St} {H8:Hp} {s8:Shared},Inv (cxB X Nc scope G2.objs.size fp s2 H2) ([(s2.heap.objs.size,lstO its)]++zkz fp s5.heap) σ8 H8 s8->tn (i+1) s8.heap/\(∀ b∈fp,H8 b=none)/\s8.heap.get? s2.heap.objs.size=some (lstO its)/\H8 s2.heap.objs.size=none:=λ {σ8 H8 s8} I8=>by
     have pin8:∀ b∈fp,∀ o,s5.heap.get? b=some o->s8.heap.get? b=some o/\H8 b=none:=λ b hb o e=>by
      have:=I8.pin (b,o) (List.mem_append_right _ (List.mem_append_right _ (zgb hb e)))
      exact ⟨this.1,this.2.1⟩
     have pD:=I8.pin (s2.heap.objs.size,lstO its) (by simp)
     refine ⟨T.keep _ _ _ st5 λ b hb o e=>(pin8 b hb o e).1,λ b hb=>?_,pD.1,pD.2.1⟩
     obtain ⟨o,e,_⟩:=T.obj _ _ st5 b hb
     exact (pin8 b hb o e).2
    refine thn (hg _ _ s5 σ3 H5 x u _ I5' r5 (step x H5 y5)) λ _ s6 ⟨σ6,H6,I6,q6⟩=>⟨_,σ6,H6,_,I6,q6,λ b H7 s7 I7 q7=>?_⟩
    cases b with
    | false =>
     rw [if_neg Bool.false_ne_true] at q7 ⊢
     obtain ⟨m',hm,w7⟩:=q7
     obtain ⟨k1,k2,k3,k4⟩:=keepT I7
     exact ⟨m',hm,i+1,ys,its,σ6,H7,I7.zhp (λ p hp=>by cases hp),k1,k2,k3,k4,r3,z3,w7⟩
    | true =>
     rw [if_pos rfl] at q7 ⊢
     refine thn (he _ _ s7 σ6 H7 _ I7 q7) λ v s8 ⟨y,H8,I8,r8,m',hm,w8⟩=>?_
     obtain ⟨k1,k2,k3,k4⟩:=keepT I8
     have il:its.length=ys.length:=r3.length.symm
     refine append_at (hsz:=by show its.toArray.size<=sizeLine; rw [List.size_toArray,il]; exact z3) k3 λ h9 hs9 hD9=>?_
     have I9:Inv (cxB X Nc scope G2.objs.size fp s2 H2) [] σ6 H8 { s8 with heap:=h9 }:=Inv.turned (t':=s8.toks) (it:=s2.heap.objs.size) (I8.zhp (pins':=[]) λ p hp=>by cases hp) (λ b o hb e=>(hs9.2 b hb).trans e) k4 hDC (.inr (Nat.le_refl _)) dcl λ p hp=>by cases hp
     refine ⟨m',hm,i+1,ys++[y],its++[v],σ6,H8,I9,T.keep _ _ _ k1 λ b hb o e=>(hs9.2 b (below b (flt b hb)).2).trans e,k2,hD9.trans (congrArg some (LCg.lst_snoc its v)),k4,r3.append (.cons r8 .nil),?_,w8⟩
     rw [List.length_append,List.length_singleton]; exact hlen
 exact codeAny_compStart_list (loop _ rfl) (T.self X.A 0 _ _ _ st1 (loop _ rfl))
def zrt (own:Nat) (ix:List Nat) (wi:TI) (g:TG) (tt:TT) (te:TE):TE:=λ σ H Q=>wi σ H λ J H1=>ziH J g tt te (zc6 own ix σ) H1 λ ys H2=>∀ p,H2 p=none->Q (.ref p) (upd H2 p (.lst ys))
theorem zfe (own:Nat) (ix:List Nat) (Nc:List Str) (hc:X.calm=true) (B:Blk X scope own ix Nc) (hi:PI X target iter wi)
  (hg:∀ C fp s H,PG (cxB X Nc scope C fp s H) target g) (ht:∀ C fp s H,PTs (cxB X Nc scope C fp s H) ifs tt) (he:∀ C fp s H,PE (cxB X Nc scope C fp s H) elt te)
  (hs:∀ x,foldedSetIterable iter X.env x=pure x:=by intro _; rfl):PE X (.ListComp elt [⟨target,iter,ifs,0⟩] scope pos) (zrt own ix wi g tt te):=by
 intro pins s σ H Q I h
 rw [eval_ListComp]
 have hcl:closureFor scope X.env=pure (clOf scope X.env.cells):=zi5 λ y hy hk=>I.ok.has y.1 (B.free y hy hk)
 refine wpAny_comprehension_free (use:=none) rfl hs hcl B.kind B.names (thn (hi pins s σ H _ I h) λ xv s1 h1=>thn h1 λ itv s2 h2=>?_)
 obtain ⟨it,fp,tn,J,H2,e,I2,T,st2,f2,hw⟩:=h2
 subst e
 refine zi3 (RR:=λ acc C=>compPost (model X.prog X.w) X.A X.xe none (EP X pins σ Q) acc C) hc B I2 T st2 f2 (λ C=>hg C fp s2 H2) (λ C=>ht C fp s2 H2) (λ C=>he C fp s2 H2) hw ?_
 intro D C s' ys H' m' J' hD fin hn hC hDC hCle
 refine ⟨m',hn,λ h'' hs''=>⟨.ref D,upd H' D (.lst ys),?_,rfl,fin D hD⟩⟩
 have hCf:=I2.fpOk (H':=upd H' D (.lst ys)) hCle (by rw [zae (Ne.symm hDC)]; exact hC)
 obtain ⟨f0,f1,_,f3,f4,f5⟩:=hCf
 exact Inv.turned (t':=s'.toks) (it:=C) J' (λ b o hb e=>(hs''.2 b hb).trans e) f0 f1 f3 f4 f5
theorem zf5 {i:Nat} {x:Str} {pos' spos:Pos} (own:Nat) (ix:List Nat) (Nc:List Str) (hN:X.N.Nodup) (hxi:X.N[i]?=some x) (hx:Loc X.env.scope x) (hc:X.calm=true) (B:Blk X scope own ix Nc) (hi:PI X target iter wi)
  (hg:∀ C fp s H,PG (cxB X Nc scope C fp s H) target g) (ht:∀ C fp s H,PTs (cxB X Nc scope C fp s H) ifs tt) (he:∀ C fp s H,PE (cxB X Nc scope C fp s H) elt te)
  (hsw:swapsWith (.ListComp elt [⟨target,iter,ifs,0⟩] scope pos) (some (.Name x pos')) spos.line X.env=pure true:=by rfl)
  (hs:∀ x,foldedSetIterable iter X.env x=pure x:=by intro _; rfl) (hf:X.fn x=true\/X.env.scope.names.lookup x=some .local:=by first | exact .inl rfl | exact .inr rfl | assumption) :
  PS X (.Assign [.Name x pos'] (.ListComp elt [⟨target,iter,ifs,0⟩] scope pos) spos) (tAsg (zrt own ix wi g tt te) (zps i)):=by
 intro pins s σ H DD I h
 rw [exec_Assign_Name_used _ _ _ _ hsw]
 refine wpAny_bind (wpAny_standAt (wpAny_bind ?_))
 show wpAny _ X.A (do let _ <-comprehension (.ListComp elt [⟨target,iter,ifs,0⟩] scope pos) scope X.env _ (newList []) false (eval iter X.env) (some (assign (.Name x pos') X.env))) _ _ s
 have hcl:closureFor scope X.env=pure (clOf scope X.env.cells):=zi5 λ y hy hk=>I.ok.has y.1 (B.free y hy hk)
 refine wpAny_bind (wpAny_mono (wpAny_comprehension_free (use:=some (assign (.Name x pos') X.env)) (Q:=λ _ s'=>SP X pins DD .next s') rfl hs hcl B.kind B.names
  (thn (hi pins s σ H _ I h) λ xv s1 h1=>thn h1 λ itv s2 h2=>?_)) (λ _ s' hq=>wpAny_pure (wpAny_pure hq)) λ _ _ e=>e)
 obtain ⟨it,fp,tn,J,H2,e,I2,T,st2,f2,hw⟩:=h2
 subst e
 refine zi3 (RR:=λ acc C=>compPost (model X.prog X.w) X.A X.xe (some (assign (.Name x pos') X.env)) (λ _ s'=>SP X pins DD .next s') acc C) hc B I2 T st2 f2 (λ C=>hg C fp s2 H2) (λ C=>ht C fp s2 H2) (λ C=>he C fp s2 H2) hw ?_
 intro D C s' ys H' m' J' hD fin hn hC hDC hCle
 have hCf:=I2.fpOk (H':=upd H' D (.lst ys)) hCle (by rw [zae (Ne.symm hDC)]; exact hC)
 obtain ⟨f0,f1,_,f3,f4,f5⟩:=hCf
 show wpAny _ X.A (assign (.Name x pos') X.env (.ref D)) _ _ s'
 refine wpAny_assign_Name (zke (v:=V.ref D) J' hN hxi hx rfl (λ s3 I3 ⟨a,sb,ha⟩=>?_) hf)
 have hCa:C≠a:=by
  rcases ha with z | z
  . rw [z]; exact f1
  . exact Ne.symm (f4 x a z)
 refine ⟨m',hn.sameBut sb hCa,λ h'' hs''=>⟨_,upd H' D (.lst ys),?_,fin D hD⟩⟩
 exact Inv.turned (t':=s3.toks) (it:=C) I3 (λ b o hb e=>(hs''.2 b hb).trans e) f0 f1 f3 f4 f5
end
end L2
end
section
namespace L2
open PySem PySem.Spec PyProof.Rows PySem.W
theorem zbV.there {P:Program} {w:World} {H:Hp} {h:Heap} {a:Addr} {o:HO} (x:zbV P w H h a o):∃ ob,h.get? a=some ob:=by
 cases o with
 | lst _=>obtain ⟨_,_,_,_,e⟩:=x; exact ⟨_,e⟩
 | tup _=>obtain ⟨_,_,_,ob,e,_⟩:=x; exact ⟨ob,e⟩
 | dK _=>obtain ⟨_,_,_,_,ob,_,_,e,_⟩:=x; exact ⟨ob,e⟩
 | dT _=>obtain ⟨_,_,_,_,ob,_,_,e,_⟩:=x; exact ⟨ob,e⟩
 | set _ _=>obtain ⟨ob,_,_,_,e,_⟩:=x; exact ⟨ob,e⟩
 | ins _ _ _=>obtain ⟨_,_,_,e,_⟩:=x; exact ⟨_,e⟩
 | own _=>exact x
 | xd _=>obtain ⟨_,⟨ob,_,_,e,_⟩,_⟩:=x; exact ⟨ob,e⟩
 | rng _ _=>obtain ⟨_,_,_,e⟩:=x; exact ⟨_,e⟩
 | frz ob _=>exact ⟨ob,x.1⟩
 | tbl _=>exact ⟨_,x⟩
 | met _ _=>exact ⟨_,x⟩
 | ext _=>exact x.2.1
theorem Un.fly {fs:List Addr} {H H':Hp} {h h1 h2 B:Heap} (u:Un fs [] H H' h h1)
  (hB:∀ b o,h1.get? b=some o->b∉fs->((∃ o',h.get? b=some o')\/∃ v,H' b=some v)->B.get? b=some o) (hs:B.StaysIn h2) (sl:h1.UpToSlots h2)
  (hfs:∀ b∈fs,∀ o,h1.get? b=some o->∀ vs,o.data≠.fields vs):Un fs [] H H' h h2 where
 keep:=λ b o q n hb hx=>hs b o (hB b o (u.keep b o q n hb hx) hb (.inl ⟨o,q⟩))
 slot:=λ b o q n hb hx=>by
  obtain ⟨s1,e1⟩:=u.slot b o q n hb hx
  obtain ⟨s2,e2⟩:=sl b _ e1 (hfs b hb _ e1)
  exact ⟨s2,e2⟩
 free:=u.free
 there:=λ b o q hx=>by
  obtain ⟨o1,e1⟩:=u.there b o q hx
  by_cases hb:b∈fs
  . obtain ⟨s2,e2⟩:=sl b _ e1 (hfs b hb _ e1)
    exact ⟨_,e2⟩
  . exact ⟨o1,hs b o1 (hB b o1 e1 hb (.inl ⟨o,q⟩))⟩
 tups:=u.tups
 frzs:=u.frzs
 tbls:=u.tbls
theorem HOk.fly {P:Program} {w:World} {fs:List Addr} {H':Hp} {h1 h2 B:Heap} (x:HOk P w H' h1) (hB:∀ b o,h1.get? b=some o->b∉fs->(∃ v,H' b=some v)->B.get? b=some o) (hs:B.StaysIn h2) (hf:∀ b∈fs,H' b=none):HOk P w H' h2:=λ a o e =>
 (x a o e).stay (λ b u hb q=>by
  have tr:∃ v,H' b=some v:=by
   rcases hb with rfl | hb
   . exact ⟨o,e⟩
   . exact ⟨_,hb⟩
  have nf:b∉fs:=λ z=>by
   obtain ⟨v,hv⟩:=tr
   rw [hf b z] at hv; cases hv
  exact hs b u (hB b u q nf tr)) (λ _ q=>q) λ _ _ q=>q
def CX1 (P:Program) (w:World):CXT:=λ outer H s E e s'=>∃ (ex C t:Addr) (B:Heap) (H':Hp),e=.ref ex/\s'.os=s.os/\AllBare s'.gens/\Un (frs outer) [] H H' s.heap s'.heap/\HOk P w H' s'.heap /\
 (∀ b o,s'.heap.get? b=some o->b∉frs outer->((∃ o',s.heap.get? b=some o')\/∃ v,H' b=some v)->B.get? b=some o)/\Heap.FlyingW B outer ex (.ref C) (.ref t) s'.heap/\E (.ref C) none H'
def Raises (X:Cx) (E:XK):Prop:=∀ (pins:List (Addr×Obj)) (σ:St) (H:Hp) (s:Shared) (e C:Addr) (h':Heap) (vs:List Value),Inv X pins σ H s->Heap.MadeExcOf s.heap h' e (.ref C) vs->E (.ref C) none H->X.xe (.ref e) { s with heap:=h' }
section
variable {P:Program} {w:World} {K:Frag} {mg:Str->Option Value} {base:Heap} {N:List Str} {qual:Str} {scope:Scope} {f:Addr} {cd:Value} {A:Around} {outer:List Env} {s₀:Shared} {H₀:Hp} {E:XK}
theorem zho:Raises (cxOf (CX1 P w) P w K mg base N qual scope f cd A outer s₀ H₀ E) E:=by
 intro pins σ H s e C h' vs I hx hE
 have hmem:∀ env∈(envOfC qual scope s₀.heap.objs.size f cd::outer),∀ b,env.frame=some b->b∈frs (envOfC qual scope s₀.heap.objs.size f cd::outer):=λ env he b hb=>List.mem_filterMap.mpr ⟨env,he,hb⟩
 refine wpAny_leaves_madeW (base:=hideAll s.heap (frs (envOfC qual scope s₀.heap.objs.size f cd::outer))) (h:=s.heap) I.ok.frames rfl (λ b o q=>of_hideAll _ q) (funFrames_hide I.stack hmem) hx λ h2 t fly _ _ sl=>?_
 have keep:∀ b o,s.heap.get? b=some o->b∉frs (envOfC qual scope s₀.heap.objs.size f cd::outer)->h2.get? b=some o:=λ b o q nb=>fly.1 b o (hideAll_get _ q nb)
 have sub:∀ b,b∈frs (envOfC qual scope s₀.heap.objs.size f cd::outer)->b=s₀.heap.objs.size\/b∈frs outer:=λ b hb=>by
  rcases List.mem_cons.mp (show b∈s₀.heap.objs.size::frs outer from hb) with z | z
  . exact .inl z
  . exact .inr z
 have nb:∀ b,b∉frs outer->((∃ o',s₀.heap.get? b=some o')\/∃ v,H b=some v)->b∉frs (envOfC qual scope s₀.heap.objs.size f cd::outer):=λ b h1 h2 hb=>by
  rcases sub b hb with z | z
  . rcases h2 with ⟨o',q⟩ | ⟨v,q⟩
    . rw [z] at q; exact absurd (Heap.lt_size q) (Nat.lt_irrefl _)
    . have:=I.free
      have this':H s₀.heap.objs.size=none:=this
      rw [z,this'] at q; cases q
  . exact h1 z
 have hB:∀ b o,s.heap.get? b=some o->b∉frs outer->((∃ o',s₀.heap.get? b=some o')\/∃ v,H b=some v)->(hideAll s.heap (frs (envOfC qual scope s₀.heap.objs.size f cd::outer))).get? b=some o:=λ b o q h1 h2=>hideAll_get _ q (nb b h1 h2)
 have sl':s.heap.UpToSlots h2:=(Heap.UpToSlots.of_keeps hx.keeps).trans sl
 have hfs:∀ b∈frs outer,∀ o,s.heap.get? b=some o->∀ vs,o.data≠.fields vs:=λ b hb o q=>by
  have hb':b∈frs (envOfC qual scope s₀.heap.objs.size f cd::outer):=List.mem_cons_of_mem s₀.heap.objs.size hb
  obtain ⟨_,o',q',hd⟩:=I.stack.mem hb'
  rw [q] at q'; cases q'
  exact hd
 refine ⟨e,C,t,_,H,rfl,I.os,I.bare,(show Un (frs outer) [] H₀ H s₀.heap s.heap from I.base).fly hB fly.1 sl' hfs,HOk.fly (fs:=frs outer) I.hok (λ b o q h1 h2=>hB b o q h1 (.inr h2)) fly.1 (λ b hb=>I.zha b (List.mem_cons_of_mem s₀.heap.objs.size hb)),λ b o q h1 h2=>?_,fly,hE⟩
 have ⟨o1,e1⟩:∃ o1,s.heap.get? b=some o1:=by
  rcases h2 with ⟨o',q'⟩ | ⟨v,q'⟩
  . exact I.base.there b o' q' (by intro z; cases z)
  . exact (I.hok b v q').there
 have e2:=hB b o1 e1 h1 h2
 have e3:=fly.1 b o1 e2
 have:o=o1:=Option.some.inj (q.symm.trans e3)
 rw [this]; exact e2
theorem zbG:Passes (CX1 P w) (cxOf (CX1 P w) P w K mg base N qual scope f cd A outer s₀ H₀ E) E:=by
 intro pins σ H s e s' I hc
 obtain ⟨ex,C,t,B,H',rfl,os,bare,un,hok,hB,fly,hE⟩:=hc
 have J:Inv (cxOf (CX1 P w) P w K mg base N qual scope f cd A outer s₀ H₀ E) pins σ H' s':=I.zr9 (ch:=[]) os un hok bare λ b z=>by cases z
 refine wpAny_leaves_onW I.ok.frames rfl fly λ h2 fly2 sl=>?_
 have toStack:∀ b,b∈frs outer->b∈frs (envOfC qual scope s₀.heap.objs.size f cd::outer):=λ b hb=>List.mem_cons_of_mem s₀.heap.objs.size hb
 have hB':∀ b o,s'.heap.get? b=some o->b∉frs outer->((∃ o',s₀.heap.get? b=some o')\/∃ v,H' b=some v)->B.get? b=some o:=λ b o q h1 h2=>by
  refine hB b o q (λ hb=>?_) (h2.imp (λ ⟨o',q'⟩=>I.base.there b o' q' (λ z=>by cases z)) id)
  rcases List.mem_cons.mp (show b∈s₀.heap.objs.size::frs outer from hb) with z | z
  . rcases h2 with ⟨o',q'⟩ | ⟨v,q'⟩
    . rw [z] at q'; exact absurd (Heap.lt_size q') (Nat.lt_irrefl _)
    . have fr:H' s₀.heap.objs.size=none:=J.free
      rw [z,fr] at q'; cases q'
  . exact h1 z
 have hfs:∀ b∈frs outer,∀ o,s'.heap.get? b=some o->∀ vs,o.data≠.fields vs:=λ b hb o q=>by
  obtain ⟨_,o',q',hd⟩:=J.stack.mem (toStack b hb)
  rw [q] at q'; cases q'
  exact hd
 refine ⟨ex,C,t,B,H',rfl,J.os,J.bare,(show Un (frs outer) [] H₀ H' s₀.heap s'.heap from J.base).fly hB' fly2.1 sl hfs,HOk.fly (fs:=frs outer) J.hok (λ b o q h1 h2=>hB' b o q h1 (.inr h2)) fly2.1 (λ b hb=>J.zha b (toStack b hb)),λ b o q h1 h2=>?_,fly2,hE⟩
 obtain ⟨o1,e1⟩:∃ o1,s'.heap.get? b=some o1:=by
  rcases h2 with ⟨o',q'⟩ | ⟨v,q'⟩
  . exact J.base.there b o' q' (by intro z; cases z)
  . exact (J.hok b v q').there
 have e2:=hB' b o1 e1 h1 h2
 have:o=o1:=Option.some.inj (q.symm.trans (fly2.1 b o1 e2))
 rw [this]; exact e2
end
theorem zr5 {K:Frag} {h:Heap} {C:Addr} {bmB:List Value} {newId:String} (X:K.In h) (q:excIn K C bmB newId=true) :
  ∃ bm N nm qn bs hd sn sub ab col dd k0 k1 k2 k3 k5 mN,h.get? C=some (excClassObj nm qn C N bs bm hd sn sub ab col dd k0 k1 k2 k3 k5 newId)/\h.Ns N mN/\mN "__init__" = none/\OwnTail h bmB bm:=by
 unfold excIn at q
 split at q
 case h_2=>cases q
 case h_1 dd cd sl ho =>
  split at q
  case h_2=>cases q
  case h_1 C' bm k0 k1 k2 k3 n k5 hm hs =>
   simp only [Bool.and_eq_true,beq_iff_eq,Bool.not_eq_true'] at q
   obtain ⟨⟨⟨⟨⟨e1,e2⟩,hdel⟩,tl⟩,ok⟩,ni⟩:=q
   subst e1 e2
   obtain ⟨nm,bs,mro,ns,qn,hdc,sn,sub,ab,col,del⟩:=cd
   simp only at hm hdel ok ni
   subst hm hdel
   have es:sl=#[k0,k1,k2,k3,some (.builtin n),k5]:=by
    cases sl with
    | mk l=>simp only at hs; rw [hs]
   subst es
   exact ⟨bm,ns,nm,qn,bs,hdc,sn,sub,ab,col,dd,k0,k1,k2,k3,k5,_,X _ _ ho,.of_isNs (isNs_of_in X ok),nsMap_none_of_in X ok ni,tail_of_in X tl⟩
def zos (C:Addr) (E:XK) (t:TA):TS:=λ _ σ H=>t σ H λ vs H1=>vs.length<=sizeLine/\E (.ref C) none H1
section
variable {X:Cx} {E:XK} {x:Str} {C:Addr} {e₀:Expr} {rest:List Expr} {t:TA} {np cpos pos:Pos} {B newId initId:String} {bm:List Value}
theorem zjo (hr:Raises X E) (hc:X.calm=true) (hg:Gl X x) (hm:X.mg x=some (.ref C)) (q:excIn X.K C bm newId=true) (FB:ExcBaseFacts B newId initId bm) (ha:PA X (e₀::rest) t)
  (hd:(x == ("__debug__" : Str))=false:=by decide) (he:starEach (e₀::rest) X.env=(false,eval e₀ X.env)::starEach rest X.env:=by rfl) (hpl:(backTo cpos (starEach rest X.env)).any (·.1)=false:=by rfl) :
  PS X (.Raise (some (.Call (.Name x np) (e₀::rest) [] cpos)) none pos) (zos C E t):=by
 intro pins s σ H D I h
 obtain ⟨tl,N,nm,qn,bs,hdc,sn,sub,ab,col,dd,k0,k1,k2,k3,k5,mN,hC,hN,hni,T⟩:=zr5 I.ok.mod.kin q
 have hb:(backTo cpos (starEach (e₀::rest) X.env)).any (·.1)=false:=by
  rw [he]
  show (false || (backTo cpos (starEach rest X.env)).any (·.1))=false
  rw [hpl]; rfl
 refine wpAny_Raise_call_subT (C:=C) (nm:=nm) (q:=qn) (N:=N) (bs:=bs) (bm:=tl) (hdct:=hdc) (sn:=sn) (sub:=sub) (ab:=ab) (col:=col) (dd:=dd) (k0:=k0) (k1:=k1) (k2:=k2) (k3:=k3) (k5:=k5) FB (mN:=mN) (T.hasType FB.hasBase) (I.ok.hd hc) hb hni (zgd I hg hm ⟨rfl,?_⟩ hd)
 have hp:=ha cpos pins s σ H _ I h
 rw [he] at hp ⊢
 refine Calls.evalArgs_plain (thn hp λ us s1 ⟨vs,H1,I1,r1,z,hE⟩=>?_)
 exact ⟨rfl,by rw [<-r1.length]; exact z,I1.bk _ _ hC,hN.keeps I1.bk,T.keeps I1.bk,λ h' e mk=>hr pins σ H1 s1 e C h' us I1 mk hE⟩
end
theorem PS.nox {X:Cx} {st:Stmt} {t:TS} (h:PS X.nox st t):PS X st t:=λ pins s σ H D I hw =>
 wpAny_mono (h pins s σ H D (I.wish _) hw) (λ _ _ q=>SP.zfr q) λ _ _ z=>z.elim
theorem Fun.okX {K:Frag} {P:Program} {w:World} {mg:Str->Option Value} {base:Heap} {x qual:Str} {st:Stmt} {f:Addr} {fd:FuncData} {N ps:List Str} {k:Nat} {sp:Sp} (F:Fun K x qual st f fd) (S:zar N ps (zak st))
  (len:∀ vs H Q E,sp vs H Q E->vs.length=ps.length)
  (hb:∀ (cdv:Value) (A:Around) (outer:List Env) (s:Shared) (H:Hp) (vs:List V) (Q:VK) (E:XK),Room k (A.deeper (envOfC qual (zak st) s.heap.objs.size f cdv))->sp vs H Q E ->
   ∃ t,PSs (cxOf (CX1 P w) P w K mg base N qual (zak st) f cdv A outer s H E) (zhX st) t/\t { nx:=λ _ H'=>Q .non H',rt:=Q } (start N vs) H) :
  FnOk P w K mg base (CX1 P w) (k+1) f fd ps sp:=by
 obtain ⟨oc,od,kV,doc,pm,an,cdv,ct,osl,rfl,lk,hcd⟩:=F.ex
 exact ztP lk hcd S len (hb cdv)
abbrev EF:XK:=λ _ _ _=>False
theorem zaD {X:Cx}:Passes (CX1 X.prog X.w) X EF:=λ _ _ _ _ _ _ _ ⟨_,_,_,_,_,_,_,_,_,_,_,_,h⟩=>h.elim
def cxH (X:Cx) (e:Value):Cx:={ X with A:=X.A.mark (some e),calm:=false,xe:=NoX }
theorem Inv.toH {X:Cx} {pins:List (Addr×Obj)} {σ:St} {H:Hp} {s:Shared} {e:Value} (I:Inv X pins σ H s):Inv (cxH X e) pins σ H s :=
 ⟨⟨I.ok.mod,I.ok.kind,I.ok.glob,I.ok.blt,I.ok.above,I.ok.inj,I.ok.has,I.ok.cab,λ z=>(by cases z),I.ok.frames,I.ok.stk,I.ok.exf,I.ok.bs,I.ok.bsz,I.ok.noex,I.ok.exfs,I.ok.funs,I.ok.frf⟩,I.os,I.bare,I.base,I.loc,I.cell,I.free,I.zdX,I.pin,I.hok,I.len⟩
theorem Inv.ofH {X:Cx} {pins:List (Addr×Obj)} {σ:St} {H:Hp} {s:Shared} {e:Value} {pins0:List (Addr×Obj)} {σ0:St} {H0:Hp} {s0:Shared} (I0:Inv X pins0 σ0 H0 s0) (I:Inv (cxH X e) pins σ H s):Inv X pins σ H s :=
 ⟨I0.ok,I.os,I.bare,I.base,I.loc,I.cell,I.free,I.zdX,I.pin,I.hok,I.len⟩
def cxT (X:Cx) (pn:List (Addr×Obj)) (xe:Value->Shared->Prop):Cx:={ X with pn:=pn,xe:=xe }
theorem Inv.toT {X:Cx} {pins:List (Addr×Obj)} {σ:St} {H:Hp} {s:Shared} {xe:Value->Shared->Prop} (I:Inv X pins σ H s):Inv (cxT X (X.pn++pins) xe) [] σ H s :=
 ⟨⟨I.ok.mod,I.ok.kind,I.ok.glob,I.ok.blt,I.ok.above,I.ok.inj,I.ok.has,I.ok.cab,I.ok.hd,I.ok.frames,I.ok.stk,I.ok.exf,I.ok.bs,I.ok.bsz,I.ok.noex,I.ok.exfs,I.ok.funs,I.ok.frf⟩,I.os,I.bare,I.base,I.loc,I.cell,I.free,I.zdX,λ p hp=>I.pin p (by have hp':p∈(X.pn++pins)++[]:=hp; rwa [List.append_nil] at hp'),I.hok,I.len⟩
theorem Inv.ofT {X:Cx} {pins pins':List (Addr×Obj)} {σ:St} {H:Hp} {s:Shared} {xe:Value->Shared->Prop} (I:Inv (cxT X (X.pn++pins) xe) pins' σ H s):Inv X pins σ H s :=
 ⟨⟨I.ok.mod,I.ok.kind,I.ok.glob,I.ok.blt,I.ok.above,I.ok.inj,I.ok.has,I.ok.cab,I.ok.hd,I.ok.frames,I.ok.stk,I.ok.exf,I.ok.bs,I.ok.bsz,I.ok.noex,I.ok.exfs,I.ok.funs,I.ok.frf⟩,I.os,I.bare,I.base,I.loc,I.cell,I.free,I.zdX,λ p hp=>I.pin p (List.mem_append_left _ hp),I.hok,I.len⟩
def tTry (C:Addr) (tb:XK->TS) (ts:TS):TS:=λ D σ H=>tb (λ cls _ H'=>cls=.ref C/\ts D (σ.map λ _=>none) H') D σ H
section
variable {X:Cx} {C:Addr} {x:Str} {body suite:List Stmt} {b₀:Stmt} {np hpos pos:Pos} {tb:XK->TS} {ts:TS}
theorem zsN (hc:X.calm=true) (hk:X.stack=X.env::X.outer) (hfr:X.env.frame=some X.env.locals) (hex:X.ex=[]) (hg:Gl X x) (hm:X.mg x=some (.ref C)) (q:ktsIn X.K C "BaseException" = true)
   (hb:∀ E pn xe,Passes (CX1 X.prog X.w) (cxT X pn xe) E->PSs (cxT X pn xe) body (tb E)) (hs:∀ e,PSs (cxH X e) (b₀::suite) ts)
   (hd:(x == ("__debug__" : Str))=false:=by decide) :
   PS X (.Try body [.ExceptHandler (some (.Name x np)) none (b₀::suite) hpos] [] [] pos) (tTry C tb ts):=by
 intro pins s σ H D I h
 refine wpAny_Try_except (wpAny_mono ((hb _ (X.pn++pins) _ ?pass) [] s σ H D I.toT h) (λ fl s' hq=>?_) λ e s' hq=>hq)
 case pass =>
   intro pins' σ' H1 s1 e s' I' hcx
   obtain ⟨ex,C',t,B,H',rfl,os,bare,un,hok,hB,fly,hC',hE⟩:=hcx
   obtain rfl:C'=C:=Value.ref.inj hC'
   have I1:Inv X pins σ' H1 s1:=I'.ofT
   have frm:X.A.frames=some (X.env::X.outer):=by rw [<-hk]; exact I.ok.frames
   have fly':Heap.FlyingW B (X.env::X.outer) ex (.ref C') (.ref t) s'.heap:=by rw [<-hk]; exact fly
   refine wpAny_looks_onW frm hfr fly' λ h4 held sl4=>?_
   refine wpAny_landsW held λ h5 fly5 sl5=>?_
   have hfs:∀ b∈frs X.stack,∀ o,s'.heap.get? b=some o->∀ vs,o.data≠.fields vs:=λ b hb' o qo=>by
    obtain ⟨_,o',q',hd'⟩:=fly.2.2.1.mem hb'
    rw [qo] at q'; cases q'
    exact hd'
   have at_:∀ h6:Heap,B.StaysIn h6->s'.heap.UpToSlots h6->Inv X pins σ' H' { s' with heap:=h6 }:=λ h6 st6 sl6 =>
    I1.zr9 (ch:=[]) (s':={ s' with heap:=h6 }) os (un.fly hB st6 sl6 hfs) (HOk.fly (fs:=frs X.stack) hok (λ b o q1 n1 t1=>hB b o q1 n1 (.inr t1)) st6 λ b hb'=>by
     have u:=I1.zha b hb'
     obtain ⟨_,o',q',_⟩:=I1.stack.mem hb'
     exact un.free b o' q' u (by intro z; cases z)) bare λ b z=>by cases z
   have I5:=at_ h5 fly5.1 (sl4.trans sl5)
   obtain ⟨nm,qn,N,bs,bm,hdct,sn,sub,ab,col,dd,k0,k1,k2,k3,k5,newId,hC,hbase,_⟩:=kts_cls I5.kIn q
   obtain ⟨ob,hob,hobc⟩:=fly5.there
   refine wpAny_handleBy_cons (codeAny_handlers_test (zgd (X:=cxH X (.ref ex)) I5.toH hg hm ?_ hd)) (by intro z; cases z)
   refine wpAny_excMatches_sub_self hC hob hobc hbase (codeAny_handlers_suite ?_)
   refine lands_againW fly5 λ h6 fly6 sl6=>?_
   have I6:=at_ h6 fly6.1 ((sl4.trans sl5).trans sl6)
   have I7:Inv X pins (σ.map λ _=>none) H' { s' with heap:=h6 }:=I6.weak (by rw [List.length_map,I.len,I6.len]) λ i v e1=>by
    rw [List.getElem?_map] at e1
    cases e2:σ[i]? with
    | none=>rw [e2] at e1; cases e1
    | some o=>rw [e2] at e1; cases e1
   refine wpAny_mono (hs (.ref ex) pins _ _ H' D I7.toH hE) (λ fl s8 hq=>?_) λ _ _ z=>z.elim
   have ret:SP X pins D fl s8:=by
    cases fl with
    | next=>obtain ⟨σ8,H8,I8,q8⟩:=hq; exact ⟨σ8,H8,I7.ofH I8,q8⟩
    | brk=>obtain ⟨σ8,H8,I8,q8⟩:=hq; exact ⟨σ8,H8,I7.ofH I8,q8⟩
    | cont=>obtain ⟨σ8,H8,I8,q8⟩:=hq; exact ⟨σ8,H8,I7.ofH I8,q8⟩
    | ret u=>obtain ⟨v8,σ8,H8,I8,r8,q8⟩:=hq; exact ⟨v8,σ8,H8,I7.ofH I8,r8,q8⟩
   exact ret
 . cases fl with
   | next=>obtain ⟨σ8,H8,I8,q8⟩:=hq; exact wpAny_execs_nil ⟨σ8,H8,I8.ofT,q8⟩
   | brk=>obtain ⟨σ8,H8,I8,q8⟩:=hq; exact ⟨σ8,H8,I8.ofT,q8⟩
   | cont=>obtain ⟨σ8,H8,I8,q8⟩:=hq; exact ⟨σ8,H8,I8.ofT,q8⟩
   | ret u=>obtain ⟨v8,σ8,H8,I8,r8,q8⟩:=hq; exact ⟨v8,σ8,H8,I8.ofT,r8,q8⟩
end
end L2
end
section
namespace S5
open PySem PySem.W PyProof.Rows
def run {α:Type} (a:Nat->Nat->Bool):KasT α->α
 | .ret x=>x
 | .ask i j k=>run a (k (a i j))
theorem run_bind {α β:Type} (a:Nat->Nat->Bool) (f:α->KasT β):∀ t:KasT α,run a (t.bind f)=run a (f (run a t))
 | .ret _=>rfl
 | .ask i j k=>run_bind a f (k (a i j))
def Below (a:Nat->Nat->Bool) (n:Nat) {α:Type}:KasT α->Prop
 | .ret _=>True
 | .ask i j k=>(i < n/\j < n/\i≠j)/\Below a n (k (a i j))
theorem zcK {α β:Type} {a:Nat->Nat->Bool} {n:Nat} {f:α->KasT β}:∀ {t:KasT α},Below a n t->Below a n (f (run a t))->Below a n (t.bind f)
 | .ret _,_,h=>h
 | .ask i j k,h,g=>⟨h.1,zcK (t:=k (a i j)) h.2 g⟩
theorem wp_run {α:Type} {cmp:Nat->Nat->(Bool->Shared->Prop)->Shared->Prop} {a:Nat->Nat->Bool} {n:Nat} {s:Shared} (hc:∀ i j C,i < n->j < n->i≠j->C (a i j) s->cmp i j C s) :
  ∀ (t:KasT α) (Q:α->Shared->Prop),Below a n t->Q (run a t) s->t.kasWp cmp Q s
 | .ret x,Q,_,h=>h
 | .ask i j k,Q,b,h=>hc i j _ b.1.1 b.1.2.1 b.1.2.2 (wp_run hc (k (a i j)) Q b.2 h)
structure Ord (a:Nat->Nat->Bool) (n:Nat):Prop where
 irr:∀ i,a i i=false
 tr:∀ i j k,a i j=true->a j k=true->a i k=true
 tot:∀ i j,i < n->j < n->i≠j->a i j=true\/a j i=true
section
variable {a:Nat->Nat->Bool} {n:Nat} (O:Ord a n)
include O
def Arr (n:Nat) (p:Array Nat):Prop:=p.toList.Perm (List.range n)
omit O in
theorem Arr.size {p:Array Nat} (h:Arr n p):p.size=n:=by
 have:=h.length_eq; rw [List.length_range,Array.length_toList] at this; exact this
omit O in
theorem Arr.lt {p:Array Nat} (h:Arr n p) {i:Nat} (hi:i < n):p.getD i 0 < n:=by
 have hs:=h.size
 have:p.getD i 0∈p.toList:=by
  rw [Array.getD_eq_getD_getElem?,Array.getElem?_eq_getElem (by omega)]; simp
 exact List.mem_range.mp (h.mem_iff.mp this)
omit O in
theorem Arr.inj {p:Array Nat} (h:Arr n p) {i j:Nat} (hi:i < n) (hj:j < n) (e:p.getD i 0=p.getD j 0):i=j:=by
 have hs:=h.size
 have nd:p.toList.Nodup:=(h.nodup_iff).mpr List.nodup_range
 have hi':i < p.toList.length:=by rw [Array.length_toList]; omega
 have hj':j < p.toList.length:=by rw [Array.length_toList]; omega
 refine (List.getElem_inj (h₀:=hi') (h₁:=hj') nd).mp ?_
 have e1:p.getD i 0=p.toList[i]:=by rw [Array.getD_eq_getD_getElem?,Array.getElem?_eq_getElem (by omega)]; simp
 have e2:p.getD j 0=p.toList[j]:=by rw [Array.getD_eq_getD_getElem?,Array.getElem?_eq_getElem (by omega)]; simp
 rw [<-e1,<-e2,e]
def Up (a:Nat->Nat->Bool) (p:Array Nat) (k:Nat):Prop:=∀ i j,i < j->j < k->a (p.getD i 0) (p.getD j 0)=true
def Dn (a:Nat->Nat->Bool) (p:Array Nat) (k:Nat):Prop:=∀ i j,i < j->j < k->a (p.getD j 0) (p.getD i 0)=true
theorem Ord.le {p:Array Nat} (h:Arr n p) {i j:Nat} (hi:i < n) (hj:j < n) (hne:i≠j) (q:a (p.getD i 0) (p.getD j 0)=false):a (p.getD j 0) (p.getD i 0)=true:=by
 rcases O.tot _ _ (h.lt hi) (h.lt hj) (λ e=>hne (h.inj hi hj e)) with z | z
 . rw [q] at z; cases z
 . exact z
omit O in
theorem Up.snoc {p:Array Nat} {k:Nat} (tr:∀ i j k,a i j=true->a j k=true->a i k=true) (u:Up a p k) (h:k=0\/a (p.getD (k - 1) 0) (p.getD k 0)=true):Up a p (k+1):=λ i j hij hj=>by
 by_cases e:j=k
 . subst e
   rcases h with z | z
   . omega
   . by_cases e2:i=j - 1
     . subst e2; exact z
     . exact tr _ _ _ (u i (j - 1) (by omega) (by omega)) z
 . exact u i j hij (by omega)
omit O in
theorem Dn.snoc {p:Array Nat} {k:Nat} (tr:∀ i j k,a i j=true->a j k=true->a i k=true) (u:Dn a p k) (h:k=0\/a (p.getD k 0) (p.getD (k - 1) 0)=true):Dn a p (k+1):=λ i j hij hj=>by
 by_cases e:j=k
 . subst e
   rcases h with z | z
   . omega
   . by_cases e2:i=j - 1
     . subst e2; exact z
     . exact tr _ _ _ z (u i (j - 1) (by omega) (by omega))
 . exact u i j hij (by omega)
omit O in
theorem zth (p:Array Nat) (f k:Nat):run a (kas_asc p (f+1) k)=if a (p.getD k 0) (p.getD (k - 1) 0)=true then k else run a (kas_asc p f (k+1)):=by
 show run a ((λ c=>if c=true then KasT.ret k else kas_asc p f (k+1)) (a (p.getD k 0) (p.getD (k - 1) 0)))=_
 cases a (p.getD k 0) (p.getD (k - 1) 0) <;> rfl
theorem znt {p:Array Nat} (h:Arr n p):∀ (f k:Nat),1<=k->k+f<=n->Up a p k->k<=run a (kas_asc p f k)/\run a (kas_asc p f k)<=k+f/\Up a p (run a (kas_asc p f k)) /\
  (run a (kas_asc p f k) < k+f->a (p.getD (run a (kas_asc p f k)) 0) (p.getD (run a (kas_asc p f k) - 1) 0)=true)
 | 0,k,_,_,u=>⟨Nat.le_refl _,Nat.le_refl _,u,λ z=>absurd z (Nat.lt_irrefl _)⟩
 | f+1,k,h1,hk,u=>by
  rw [zth]
  cases q:a (p.getD k 0) (p.getD (k - 1) 0) with
  | true=>rw [if_pos rfl]; exact ⟨Nat.le_refl _,by omega,u,λ _=>q⟩
  | false =>
   rw [if_neg Bool.false_ne_true]
   have nx:=O.le h (i:=k) (j:=k - 1) (by omega) (by omega) (by omega) q
   obtain ⟨g1,g2,g3,g4⟩:=znt h f (k+1) (by omega) (by omega) (u.snoc O.tr (.inr nx))
   exact ⟨by omega,by omega,g3,λ z=>g4 (by omega)⟩
omit O in
theorem zr6 (p:Array Nat) (f k:Nat):run a (kas_desc (f+1) p k 0)=if a (p.getD k 0) (p.getD (k - 1) 0)=true then run a (kas_desc f p (k+1) 0) else if a (p.getD (k - 1) 0) (p.getD k 0)=true then (p,k,0) else run a (kas_desc f p (k+1) 1):=by
 show run a ((λ c=>if c=true then (if 0 > 0 then kas_desc f (kas_rev p (k - (0+1)) k) (k+1) 0 else kas_desc f p (k+1) 0) else KasT.ask (p.getD (k - 1) 0) (p.getD k 0) λ d=>if d=true then KasT.ret (p,k,0) else kas_desc f p (k+1) (0+1)) (a (p.getD k 0) (p.getD (k - 1) 0)))=_
 cases a (p.getD k 0) (p.getD (k - 1) 0) with
 | true =>
  show run a (if 0 > 0 then kas_desc f (kas_rev p (k - (0+1)) k) (k+1) 0 else kas_desc f p (k+1) 0)=_
  rw [if_neg (by omega),if_pos rfl]
 | false =>
  show run a ((λ d=>if d=true then KasT.ret (p,k,0) else kas_desc f p (k+1) (0+1)) (a (p.getD (k - 1) 0) (p.getD k 0)))=_
  rw [if_neg Bool.false_ne_true]
  cases a (p.getD (k - 1) 0) (p.getD k 0) <;> rfl
theorem zmj {p:Array Nat} (h:Arr n p):∀ (f k:Nat),1<=k->k+f<=n->Dn a p k->∃ m,run a (kas_desc f p k 0)=(p,m,0)/\k<=m/\m<=k+f/\Dn a p m
 | 0,k,_,_,u=>⟨k,rfl,Nat.le_refl _,Nat.le_refl _,u⟩
 | f+1,k,h1,hk,u=>by
  rw [zr6]
  cases q:a (p.getD k 0) (p.getD (k - 1) 0) with
  | true =>
   rw [if_pos rfl]
   obtain ⟨m,e,g1,g2,g3⟩:=zmj h f (k+1) (by omega) (by omega) (u.snoc O.tr (.inr q))
   exact ⟨m,e,by omega,by omega,g3⟩
  | false =>
   rw [if_neg Bool.false_ne_true]
   have nx:=O.le h (i:=k) (j:=k - 1) (by omega) (by omega) (by omega) q
   rw [if_pos nx]
   exact ⟨k,rfl,Nat.le_refl _,by omega,u⟩
omit O in
theorem zoH {p:Array Nat} {i j:Nat} (hj:j<=p.size) (k:Nat):(kas_rev p i j).getD k 0=if i<=k/\k < j then p.getD (i+j - 1 - k) 0 else p.getD k 0:=by
 unfold kas_rev
 have e:=getElem?_mirror_all (i:=i) hj k
 rw [Array.getD_eq_getD_getElem?,e]
 split
 . rw [Array.getD_eq_getD_getElem?]
 . rw [Array.getD_eq_getD_getElem?]
omit O in
theorem Arr.rev {p:Array Nat} (h:Arr n p) (i j:Nat):Arr n (kas_rev p i j):=(Array.perm_iff_toList_perm.mp (mirror_perm p i j _)).trans h
omit O in
theorem Arr.bub {p:Array Nat} (h:Arr n p) (i j:Nat):Arr n (bubble p i j):=(Array.perm_iff_toList_perm.mp (bubble_perm p i j)).trans h
omit O in
theorem Dn.rev {p:Array Nat} {m:Nat} (hm:m<=p.size) (d:Dn a p m):Up a (kas_rev p 0 m) m:=λ i j hij hj=>by
 rw [zoH hm,zoH hm,if_pos ⟨Nat.zero_le _,by omega⟩,if_pos ⟨Nat.zero_le _,hj⟩]
 exact d (0+m - 1 - j) (0+m - 1 - i) (by omega) (by omega)
theorem znq {p:Array Nat} (h:Arr n p) (hn:1<=n):(run a (kas_count n p)).1<=n/\1<=(run a (kas_count n p)).1/\Arr n (run a (kas_count n p)).2/\Up a (run a (kas_count n p)).2 (run a (kas_count n p)).1:=by
 have u1:Up a p 1:=λ i j hij hj=>by omega
 obtain ⟨g1,g2,g3,g4⟩:=znt O h (n - 1) 1 (Nat.le_refl _) (by omega) u1
 unfold kas_count
 rw [run_bind]
 generalize run a (kas_asc p (n - 1) 1)=r at g1 g2 g3 g4 ⊢
 by_cases e:(r == n)=true
 . rw [if_pos e]; exact ⟨by show r<=n; omega,g1,h,g3⟩
 . rw [if_neg e]
   have ne:r≠n:=by simpa using e
   by_cases hr:r > 1
   . rw [if_pos hr]
     have q:a (p.getD 0 0) (p.getD (r - 1) 0)=true:=g3 0 (r - 1) (by omega) (by omega)
     simp only [run,q,if_true]
     exact ⟨by omega,g1,h,g3⟩
   . rw [if_neg hr]
     have hr1:r=1:=by omega
     subst hr1
     have q:=g4 (by omega)
     have d2:Dn a p 2:=(show Dn a p 1 from λ i j hij hj=>by omega).snoc O.tr (.inr q)
     obtain ⟨m,em,m1,m2,dm⟩:=zmj O h (n - (1+1)) 2 (by omega) (by omega) d2
     unfold kas_descPart
     rw [run_bind,em]
     dsimp only
     rw [if_neg (by omega)]
     unfold kas_tail3
     rw [run_bind]
     have hs:=h.size
     have ur:=Dn.rev (by omega) dm
     obtain ⟨g1',g2',g3',_⟩:=znt O (h.rev 0 m) (n - m) m (by omega) (by omega) ur
     simp only [run]
     exact ⟨by omega,by omega,h.rev 0 m,g3'⟩
omit O in
theorem zpM {p:Array Nat} {src d:Nat} (hs:src < p.size) (hd:d<=src) (k:Nat):(bubble p src d).getD k 0=if k=src - d then p.getD src 0 else if src - d < k/\k<=src then p.getD (k - 1) 0 else p.getD k 0:=by
 have e:=getElem?_bubble hs d hd k
 rw [Array.getD_eq_getD_getElem?,e]
 by_cases h1:k=src - d
 . rw [if_pos h1,if_pos h1,Array.getD_eq_getD_getElem?]
 . rw [if_neg h1,if_neg h1]
   by_cases h2:src - d < k/\k<=src
   . rw [if_pos h2,if_pos h2,Array.getD_eq_getD_getElem?]
   . rw [if_neg h2,if_neg h2,Array.getD_eq_getD_getElem?]
theorem zjp {p:Array Nat} (h:Arr n p) {k:Nat} (hk:k < n):∀ (f l r:Nat),l<=r->r<=k->r - l<=f->(∀ i,i < l->a (p.getD i 0) (p.getD k 0)=true)->(∀ i,r<=i->i < k->a (p.getD k 0) (p.getD i 0)=true)->Up a p k ->
  ∃ m,run a (kas_place p k f l r)=m/\m<=k/\(∀ i,i < m->a (p.getD i 0) (p.getD k 0)=true)/\∀ i,m<=i->i < k->a (p.getD k 0) (p.getD i 0)=true
 | 0,l,r,h1,h2,h3,g1,g2,u=>⟨l,rfl,by omega,g1,λ i hi hk=>g2 i (by omega) hk⟩
 | f+1,l,r,h1,h2,h3,g1,g2,u=>by
  unfold kas_place
  by_cases hlr:l ≥ r
  . rw [if_pos hlr]; exact ⟨l,rfl,by omega,g1,λ i hi hk=>g2 i (by omega) hk⟩
  . rw [if_neg hlr]
    simp only [run]
    have hm:(l+r) / 2 < r:=by omega
    have hm2:l<=(l+r) / 2:=by omega
    cases q:a (p.getD k 0) (p.getD ((l+r) / 2) 0) with
    | true =>
     simp only [if_true]
     refine zjp h hk f l ((l+r) / 2) hm2 (by omega) (by omega) g1 (λ i hi hik=>?_) u
     by_cases e:i=(l+r) / 2
     . subst e; exact q
     . exact O.tr _ _ _ q (u _ i (by omega) hik)
    | false =>
     simp only [Bool.false_eq_true,if_false]
     have nx:=O.le h (i:=k) (j:=(l+r) / 2) hk (by omega) (by omega) q
     refine zjp h hk f ((l+r) / 2+1) r (by omega) h2 (by omega) (λ i hi=>?_) g2 u
     by_cases e:i=(l+r) / 2
     . subst e; exact nx
     . exact O.tr _ _ _ (u i ((l+r) / 2) (by omega) (by omega)) nx
theorem zrh:∀ (f:Nat) (p:Array Nat) (k:Nat),Arr n p->k+f=n->Up a p k->Arr n (run a (kas_bin f p k))/\Up a (run a (kas_bin f p k)) n
 | 0,p,k,h,e,u=>⟨h,by rw [Nat.add_zero] at e; rw [<-e]; exact u⟩
 | f+1,p,k,h,e,u=>by
  have hk:k < n:=by omega
  have hs:=h.size
  unfold kas_bin
  rw [run_bind]
  obtain ⟨m,em,m1,g1,g2⟩:=zjp O h hk k 0 k (Nat.zero_le _) (Nat.le_refl _) (by omega) (λ i hi=>by omega) (λ i h1 h2=>by omega) u
  rw [em]
  refine zrh f _ (k+1) (h.bub k (k - m)) (by omega) λ i j hij hj=>?_
  rw [zpM (by omega) (by omega),zpM (by omega) (by omega),show k - (k - m)=m by omega]
  by_cases e1:i=m
  . rw [if_pos e1,if_neg (show ¬ j=m by omega),if_pos (show m < j/\j<=k by omega)]
    exact g2 (j - 1) (by omega) (by omega)
  . rw [if_neg e1]
    by_cases e2:m < i/\i<=k
    . rw [if_pos e2,if_neg (show ¬ j=m by omega),if_pos (show m < j/\j<=k by omega)]
      exact u (i - 1) (j - 1) (by omega) (by omega)
    . rw [if_neg e2]
      by_cases e3:j=m
      . rw [if_pos e3]; exact g1 i (by omega)
      . rw [if_neg e3]
        by_cases e4:m < j/\j<=k
        . rw [if_pos e4]
          by_cases e5:i=j - 1
          . omega
          . exact u i (j - 1) (by omega) (by omega)
        . rw [if_neg e4]; exact u i j hij (by omega)
omit O in
theorem Arr.two {p:Array Nat} (h:Arr n p) {i j:Nat} (hi:i < n) (hj:j < n) (hne:i≠j):p.getD i 0 < n/\p.getD j 0 < n/\p.getD i 0≠p.getD j 0:=⟨h.lt hi,h.lt hj,λ e=>hne (h.inj hi hj e)⟩
omit O in
theorem zib {p:Array Nat} (h:Arr n p):∀ (f k:Nat),1<=k->k+f<=n->Below a n (kas_asc p f k)
 | 0,_,_,_=>trivial
 | f+1,k,h1,hk=>by
  refine ⟨h.two (by omega) (by omega) (by omega),?_⟩
  cases a (p.getD k 0) (p.getD (k - 1) 0) with
  | true=>exact trivial
  | false=>exact zib h f (k+1) (by omega) (by omega)
theorem zi2 {p:Array Nat} (h:Arr n p):∀ (f k:Nat),1<=k->k+f<=n->Below a n (kas_desc f p k 0)
 | 0,_,_,_=>trivial
 | f+1,k,h1,hk=>by
  refine ⟨h.two (by omega) (by omega) (by omega),?_⟩
  cases q:a (p.getD k 0) (p.getD (k - 1) 0) with
  | true =>
   show Below a n (if 0 > 0 then kas_desc f (kas_rev p (k - (0+1)) k) (k+1) 0 else kas_desc f p (k+1) 0)
   rw [if_neg (by omega)]
   exact zi2 h f (k+1) (by omega) (by omega)
  | false =>
   have nx:=O.le h (i:=k) (j:=k - 1) (by omega) (by omega) (by omega) q
   refine ⟨h.two (by omega) (by omega) (by omega),?_⟩
   rw [nx]
   exact trivial
theorem zmk {p:Array Nat} (h:Arr n p) (hn:1<=n):Below a n (kas_count n p):=by
 have u1:Up a p 1:=λ i j hij hj=>by omega
 obtain ⟨g1,g2,g3,g4⟩:=znt O h (n - 1) 1 (Nat.le_refl _) (by omega) u1
 unfold kas_count
 refine zcK (zib h (n - 1) 1 (Nat.le_refl _) (by omega)) ?_
 generalize run a (kas_asc p (n - 1) 1)=r at g1 g2 g3 g4 ⊢
 by_cases e:(r == n)=true
 . rw [if_pos e]; exact trivial
 . rw [if_neg e]
   have ne:r≠n:=by simpa using e
   by_cases hr:r > 1
   . rw [if_pos hr]
     have q:a (p.getD 0 0) (p.getD (r - 1) 0)=true:=g3 0 (r - 1) (by omega) (by omega)
     refine ⟨h.two (by omega) (by omega) (by omega),?_⟩
     rw [q]; exact trivial
   . rw [if_neg hr]
     have hr1:r=1:=by omega
     subst hr1
     have q:=g4 (by omega)
     have d2:Dn a p 2:=(show Dn a p 1 from λ i j hij hj=>by omega).snoc O.tr (.inr q)
     obtain ⟨m,em,m1,m2,dm⟩:=zmj O h (n - (1+1)) 2 (by omega) (by omega) d2
     unfold kas_descPart
     refine zcK (zi2 O h (n - (1+1)) 2 (by omega) (by omega)) ?_
     rw [em]
     dsimp only
     rw [if_neg (by omega)]
     unfold kas_tail3
     exact zcK (zib (h.rev 0 m) (n - m) m (by omega) (by omega)) trivial
omit O in
theorem zfd {p:Array Nat} (h:Arr n p) {k:Nat} (hk:k < n):∀ (f l r:Nat),r<=k->Below a n (kas_place p k f l r)
 | 0,_,_,_=>trivial
 | f+1,l,r,hr=>by
  unfold kas_place
  by_cases hlr:l ≥ r
  . rw [if_pos hlr]; exact trivial
  . rw [if_neg hlr]
    refine ⟨h.two hk (by omega) (by omega),?_⟩
    cases a (p.getD k 0) (p.getD ((l+r) / 2) 0) with
    | true=>exact zfd h hk f l _ (by omega)
    | false=>exact zfd h hk f _ r hr
omit O in
theorem zlm:∀ (f:Nat) (p:Array Nat) (k:Nat),Arr n p->k+f=n->Below a n (kas_bin f p k)
 | 0,_,_,_,_=>trivial
 | f+1,p,k,h,e=>by
  unfold kas_bin
  exact zcK (zfd h (by omega) k 0 k (Nat.le_refl _)) (zlm f _ (k+1) (h.bub k _) (by omega))
theorem znJ (hn:1<=n):Below a n (kas_sort n):=by
 have h0:Arr n (List.toArray (List.range n)):=List.Perm.refl _
 obtain ⟨c1,c2,c3,c4⟩:=znq O h0 hn
 unfold kas_sort
 refine zcK (zmk O h0 hn) ?_
 by_cases h:(run a (kas_count n (List.toArray (List.range n)))).1 < n
 . rw [if_pos h]
   exact zlm _ _ _ c3 (by omega)
 . rw [if_neg h]; exact trivial
theorem zoy (hn:1<=n):Arr n (run a (kas_sort n))/\Up a (run a (kas_sort n)) n:=by
 have h0:Arr n (List.toArray (List.range n)):=List.Perm.refl _
 obtain ⟨c1,c2,c3,c4⟩:=znq O h0 hn
 unfold kas_sort
 rw [run_bind]
 generalize run a (kas_count n (List.toArray (List.range n)))=r at c1 c2 c3 c4 ⊢
 obtain ⟨m,p⟩:=r
 dsimp only at c1 c2 c3 c4 ⊢
 by_cases h:m < n
 . rw [if_pos h,show max m 1=m by omega]
   exact zrh O (n - m) p m c3 (by omega) c4
 . rw [if_neg h]
   have:m=n:=by omega
   subst this
   exact ⟨c3,c4⟩
end
end S5
end
section
namespace S5
open PySem PySem.W PyProof.Rows
def zif (a:Addr) (h h':Heap):Prop:=∀ b o,b≠a->h.get? b=some o->h'.get? b=some o
def picked (vs:List Value) (p:Array Nat):List Value:=p.toList.map λ i=>vs.getD i Value.none
section
variable {prog:Program} {w:World} {A:Around} {E:Value->Shared->Prop} {s:Shared}
theorem zlH {a:Addr} {vs:List Value} {c:Nat} {κ:SortKind} {lt:Nat->Nat->Bool} {P:PySem.Fin->Shared->Prop} (ho:s.heap.get? a=some (seqObj "list" vs.toArray c)) (h64:vs.length < 64) (O:Ord lt vs.length)
   (hk:∀ h1,zif a s.heap h1->2<=vs.length->∀ Q:SortKind->Shared->Prop,Q κ { s with heap:=h1 }->wpAny (model prog w) A (keyKind' vs.toArray) Q (λ _ _=>False) { s with heap:=h1 })
   (hlt:∀ h1,zif a s.heap h1->∀ i j,i < vs.length->j < vs.length->i≠j->∀ Q:Bool->Shared->Prop,Q (lt i j) { s with heap:=h1 }->wpAny (model prog w) A (keyLt' κ (vs.getD i Value.none) (vs.getD j Value.none)) Q (λ _ _=>False) { s with heap:=h1 })
   (h:∀ p h' c',Arr vs.length p->Up lt p vs.length->zif a s.heap h'->h'.get? a=some (seqObj "list" (picked vs p).toArray c')->P (.done (.ret .none)) { s with heap:=h' }) :
   wpAny (model prog w) A (Builtin.«list.sort» ⟨[.ref a], []⟩) P E s := by
 have big:∀ {k:Nat},k < 64->k<=sizeLine:=λ hk'=>by rw [sizeLine_eq]; omega
 rw [list_sort_plain]
 refine wpAny_bind (listItems_at ho rfl (wpAny_bind (listUpdate_at ho rfl ?_ (by rw [List.size_toArray]; exact big h64) (Nat.zero_le _))))
 have e1:=get?_update_seq ho λ _=>(#[]:Array Value)
 generalize (if ((λ _=>(#[]:Array Value)) vs.toArray).size == vs.toArray.size then c else c+1)=c1 at e1
 generalize hg1:s.heap.update a (Obj.mapSeq λ _=>(#[]:Array Value))=g1 at e1 ⊢
 have k1:zif a s.heap g1:=λ b o hb q=>by rw [<-hg1,Heap.get?_update_other _ _ (Ne.symm hb)]; exact q
 refine wpAny_bind (seqEpoch_at e1 rfl (wpAny_bind (wpAny_newTuple ?_ (by show vs.toArray.toList.length<=_; exact big (by simpa using h64)))))
 refine wpAny_bind (wpAny_newList (wpAny_holding ?_) (Nat.zero_le _))
 dsimp only
 generalize hg2:(g1.push { cls:=.type "tuple",data:=.seq vs.toArray.toList.toArray }).push { cls:=.type "list",data:=.seq ([]:List Value).toArray }=g2
 have k2:∀ b o,g1.get? b=some o->g2.get? b=some o:=λ b o q=>by rw [<-hg2]; exact Heap.get?_push_of_some _ (Heap.get?_push_of_some _ q)
 have e2:g2.get? a=some (seqObj "list" #[] c1):=k2 _ _ e1
 have kk:zif a s.heap g2:=λ b o hb q=>k2 b o (k1 b o hb q)
 have fin:∀ (p:Array Nat),Arr vs.length p->Up lt p vs.length->∀ (st:SortSt),(arrOf st).map (·.2)=(picked vs p).toArray->failedOf st=none ->
    wpAny (model prog w) A (do
     let touched:=(<-seqEpoch a) != c1
     Builtin.List.listUpdate (.ref a) λ _=>(arrOf st).map (·.2)
     if let some e:=failedOf st then rule "list.sort.comparison-raised"; throw e
     if touched then rule "list.sort.modified"; raiseError "ValueError" "list modified during sort"
     ret .none) P E { s with heap:=g2 }:=λ p hp hu st es hf=>by
   have lp:(picked vs p).length=vs.length:=by unfold picked; rw [List.length_map,Array.length_toList,hp.size]
   refine wpAny_bind (seqEpoch_at e2 rfl (wpAny_bind (listUpdate_at e2 rfl ?_ (Nat.zero_le _) (by rw [es,List.size_toArray,lp]; exact Nat.le_succ_of_le (big h64)))))
   rw [hf,es]
   simp only [bne_self_eq_false,Bool.false_eq_true,if_false]
   exact wpAny_pure (h p _ _ hp hu (λ b o hb q=>by rw [Heap.get?_update_other _ _ (Ne.symm hb)]; exact kk b o hb q) (get?_update_seq e2 λ _=>(picked vs p).toArray))
 by_cases h2:vs.toArray.size < 2
 . rw [if_pos h2,if_pos h2]
   refine wpAny_bind (wpAny_pure ?_)
   rw [StateT.run_pure]
   refine wpAny_bind (wpAny_pure ?_)
   have hl:vs.length < 2:=by simpa using h2
   refine fin (List.range vs.length).toArray (List.Perm.refl _) (λ i j hij hj=>by omega) (SortSt.mk' general' (vs.toArray.zip vs.toArray) #[] 7 none) ?_ rfl
   show (vs.toArray.zip vs.toArray).map (·.2)=_
   apply Array.toList_inj.mp
   unfold picked
   match vs,hl with
   | [],_=>simp
   | [v],_=>simp
 . rw [if_neg h2,if_neg h2]
   have hl:2<=vs.length:=by simpa using h2
   refine wpAny_bind (wpAny_mono (hk g2 kk hl (λ κ' s'=>κ'=κ/\s'={ s with heap:=g2 }) ⟨rfl,rfl⟩) (λ κ' s' hq=>?_) λ _ _ z=>z.elim)
   obtain ⟨rfl,rfl⟩:=hq
   have ask:(kas_sort vs.length).kasWp (kas_ask prog w A κ' vs) (λ p s'=>s'={ s with heap:=g2 }/\Arr vs.length p/\Up lt p vs.length) { s with heap:=g2 } :=
    wp_run (λ i j C hi hj hne hc=>hlt g2 kk i j hi hj hne C hc) _ _ (znJ O (by omega)) ⟨rfl,(zoy O (by omega)).1,(zoy O (by omega)).2⟩
   refine wpAny_bind (wpAny_mono (kat_run (vs:=vs) (ks:=vs) (Q:=λ st' s'=>s'={ s with heap:=g2 }/\∃ p,Arr vs.length p/\Up lt p vs.length/\(arrOf st').map (·.2)=(picked vs p).toArray/\failedOf st'=none) rfl hl h64 (λ p st' s' hz har hf hg=>⟨hg.1,p,hg.2.1,hg.2.2,kat_snds rfl har,hf⟩) ask) ?_ λ _ _ z=>z)
   rintro ⟨⟨⟩,st'⟩ s' ⟨rfl,p,hp,hu,es,hf⟩
   exact fin p hp hu st' es hf
end
end S5
end
section
namespace L2
open PySem PySem.Spec PyProof.Rows PySem.W S5
theorem Inv.zp1 {X:Cx} {pins:List (Addr×Obj)} {σ:St} {H:Hp} {s:Shared} {a:Addr} {o:HO} (I:Inv X pins σ H s) (f:FpOk X pins H a) (new:zbV X.prog X.w (upd H a o) s.heap a o):Inv X pins σ (upd H a o) s:=by
 obtain ⟨f0,f1,f2,f3,f4,f5⟩:=f
 have tr:∀ b u,H b=some u->b≠a:=λ b u e z=>by rw [z,f0] at e; cases e
 have J:=I.step (H':=upd H a o) (h':=s.heap) (g':=s.gens) (t':=s.toks) (d':=s.drawn) (ch:=[a]) (λ b hb=>by
  have e:b=a:=by simpa using hb
  subst e
  exact ⟨f3,f1,f4,f5⟩) (λ b u _ _ _ q _=>q) (λ b u _ _ _ q _=>⟨u.slots,q⟩) (λ b u hb q n=>by rw [zae (λ z=>hb (by simp [z]))]; exact n) (λ b u _ q=>⟨u,q⟩)
  (λ b xs q=>by rw [zae (tr b _ q)]; exact q) (λ b u xs q=>by rw [zae (tr b _ q)]; exact q) (λ b ps q=>⟨#[],by rw [zae (tr b _ q),q]; simp⟩) (λ m hm=>hm) (λ b u e=>by
   by_cases hb:b=a
   . subst hb; rw [zab] at e; cases e; exact new
   . rw [zae hb] at e
     exact (I.hok b u e).stay (λ _ _ _ q=>q) (λ c q=>by rw [zae (tr c _ q)]; exact q) λ c xs q=>by rw [zae (tr c _ q)]; exact q) I.bare
 exact J
def kLt:Key->Key->Bool
 | .inl a,.inl b=>decide (a < b)
 | .inr x,.inr y=>decide (x.cps.toList < y.cps.toList)
 | _,_=>false
def zdJ (ks:List Key):Prop:=(∀ k∈ks,∃ i,k=Sum.inl i)\/∀ k∈ks,∃ x,k=Sum.inr x
theorem zpe:∀ k:Key,kLt k k=false
 | .inl a=>by show decide (a < a)=false; simp
 | .inr x=>by show decide (x.cps.toList < x.cps.toList)=false; simpa using List.lt_irrefl _
theorem zq9:∀ {a b c:Key},kLt a b=true->kLt b c=true->kLt a c=true
 | .inl a,.inl b,.inl c,h1,h2=>by
  have h1':decide (a < b)=true:=h1
  have h2':decide (b < c)=true:=h2
  show decide (a < c)=true
  simp only [decide_eq_true_eq] at *; omega
 | .inr a,.inr b,.inr c,h1,h2=>by
  have h1':decide (a.cps.toList < b.cps.toList)=true:=h1
  have h2':decide (b.cps.toList < c.cps.toList)=true:=h2
  show decide (a.cps.toList < c.cps.toList)=true
  simp only [decide_eq_true_eq] at *; exact List.lt_trans h1' h2'
 | .inl _,.inr _,_,h1,_=>by cases h1
 | .inr _,.inl _,_,h1,_=>by cases h1
 | .inl _,.inl _,.inr _,_,h2=>by cases h2
 | .inr _,.inr _,.inl _,_,h2=>by cases h2
theorem zrv {x y:Str} (h:x.cps.toList=y.cps.toList):x=y:=by
 obtain ⟨a⟩:=x
 obtain ⟨b⟩:=y
 have:a=b:=Array.toList_inj.mp h
 rw [this]
theorem zpd {ks:List Key} (one:zdJ ks) {a b:Key} (ha:a∈ks) (hb:b∈ks) (hne:a≠b):kLt a b=true\/kLt b a=true:=by
 rcases one with h | h
 . obtain ⟨i,rfl⟩:=h a ha
   obtain ⟨j,rfl⟩:=h b hb
   have:i≠j:=λ e=>hne (by rw [e])
   show decide (i < j)=true\/decide (j < i)=true
   simp only [decide_eq_true_eq]; omega
 . obtain ⟨x,rfl⟩:=h a ha
   obtain ⟨y,rfl⟩:=h b hb
   show decide (x.cps.toList < y.cps.toList)=true\/decide (y.cps.toList < x.cps.toList)=true
   simp only [decide_eq_true_eq]
   by_cases h1:x.cps.toList < y.cps.toList
   . exact .inl h1
   . by_cases h2:y.cps.toList < x.cps.toList
     . exact .inr h2
     . exact absurd (zrv (List.le_antisymm (List.not_lt.mp h2) (List.not_lt.mp h1))) (λ e=>hne (by rw [e]))
abbrev atK (ks:List Key) (i:Nat):Key:=ks.getD i (Sum.inl 0)
theorem zgt {ks:List Key} {i:Nat} (h:i < ks.length):ks[i]?=some (atK ks i):=by
 unfold atK; rw [List.getD_eq_getElem?_getD,List.getElem?_eq_getElem h]; rfl
theorem zcX {ks:List Key} {i:Nat} (h:i < ks.length):atK ks i∈ks:=List.mem_of_getElem? (zgt h)
theorem ordK {ks:List Key} (nd:ks.Nodup) (one:zdJ ks):Ord (λ i j=>kLt (atK ks i) (atK ks j)) ks.length :=
 ⟨λ i=>zpe _,λ i j k h1 h2=>zq9 h1 h2,λ i j hi hj hne=>zpd one (zcX hi) (zcX hj) λ e=>hne (by
  have e1:=zgt hi
  have e2:=zgt hj
  rw [e] at e1
  obtain ⟨_,q1⟩:=List.getElem?_eq_some_iff.mp e1
  obtain ⟨_,q2⟩:=List.getElem?_eq_some_iff.mp e2
  exact (List.getElem_inj (h₀:=hi) (h₁:=hj) nd).mp (q1.trans q2.symm))⟩
section
variable {prog:Program} {w:World} {A:Around} {E:Value->Shared->Prop} {s:Shared}
theorem zl7 {k l:Key} {u v:Value} {Q:Bool->Shared->Prop} (one:zdJ [k,l]) (hu:RelV (kV k) u) (hv:RelV (kV l) v) (h:Q (kLt k l) s):wpAny (model prog w) A (oneLt' true u v) Q E s:=by
 rcases one with o | o
 . obtain ⟨i,rfl⟩:=o k (by simp)
   obtain ⟨j,rfl⟩:=o l (by simp)
   obtain ⟨t,rfl⟩:=(show ∃ t,u=Value.int i t from hu)
   obtain ⟨t',rfl⟩:=(show ∃ t,v=Value.int j t from hv)
   exact oneLt_int h
 . obtain ⟨x,rfl⟩:=o k (by simp)
   obtain ⟨y,rfl⟩:=o l (by simp)
   obtain ⟨t,rfl⟩:=(show ∃ t,u=Value.str x t from hu)
   obtain ⟨t',rfl⟩:=(show ∃ t,v=Value.str y t from hv)
   exact oneLt_str h
theorem zrX {k l:Key} {u v:Value} {Q:Bool->Shared->Prop} (hne:k≠l) (hu:RelV (kV k) u) (hv:RelV (kV l) v) (h:Q false s):wpAny (model prog w) A (eqBool u v) Q E s:=by
 refine (zaF prog w).eqBool (a:=k) (b:=l) (zgg hu) (zgg hv) ?_
 rw [decide_eq_false hne]; exact h
def kTy:List Key->String
 | .inr _::_ => "str"
 | _ => "int"
theorem ty_keys {ks:List Key} (one:zdJ ks) {k:Key} (hk:k∈ks) {u:Value} (hu:RelV (kV k) u) (M:Model) (h:Heap):Looks M h (typeOf u) (.type (kTy ks)):=by
 cases ks with
 | nil=>cases hk
 | cons k0 r =>
  rcases one with o | o
  . obtain ⟨i,rfl⟩:=o k hk
    obtain ⟨j,rfl⟩:=o k0 (by simp)
    obtain ⟨t,rfl⟩:=(show ∃ t,u=Value.int i t from hu)
    exact Looks.of_pure rfl
  . obtain ⟨x,rfl⟩:=o k hk
    obtain ⟨y,rfl⟩:=o k0 (by simp)
    obtain ⟨t,rfl⟩:=(show ∃ t,u=Value.str x t from hu)
    exact Looks.of_pure rfl
theorem ziY (ks:List Key):kTy ks = "str" \/ kTy ks = "int" := by
 unfold kTy
 split
 . exact .inl rfl
 . exact .inr rfl
def zj1 (h h':Heap):Prop:=∀ b o,h.get? b=some o->h'.get? b=some o
theorem zkm {a:Addr} {PC:List Value->Heap->Prop} {Q:Value->Shared->Prop}
  (hcol:∀ R:List Value->Shared->Prop,(∀ h' tk vs,zj1 s.heap h'->PC vs h'->R vs { s with heap:=h',toks:=tk })->wpAny (model prog w) A.in1 (collect (.ref a)) R E s)
  (h64:∀ vs h',PC vs h'->vs.length < 64)
  (hsort : ∀ h' tk vs, zj1 s.heap h' → PC vs h' → wpAny (model prog w) A.in1.in1 (Builtin.«list.sort» ⟨[.ref h'.objs.size], []⟩) (fun fin s' => fin = .done (.ret .none) ∧ Q (.ref h'.objs.size) s') E { s with heap := h'.push { cls := .type "list", data := .seq vs.toArray }, toks := tk }) :
  wpAny (model prog w) A (call (.builtin "sorted") [.ref a]) Q E s:=by
 refine Calls.call_function_entry kind_sorted plain_sorted entry_sorted (args_sorted1 _) ?_
 unfold Builtin.«sorted»
 refine wpAny_bind (m:=checkCount "sorted" 1 1 _) (wpAny_pure (wpAny_bind (hcol _ λ h' tk vs hk hp=>?_)))
 refine wpAny_bind (wpAny_newList ?_ (by have:=h64 vs h' hp; rw [sizeLine_eq]; omega))
 refine wpAny_bind (wpAny_holding (wpAny_call_entry slot_list_sort ⟨_,Heap.get?_push_size _ rfl,rfl⟩ entry_list_sort ?_ (args_list_sort _)))
 refine wpAny_mono (hsort h' tk vs hk hp) (λ fin s' hq=>?_) λ _ _ z=>z
 obtain ⟨rfl,hq⟩:=hq
 exact ⟨_,rfl,wpAny_pure ⟨_,rfl,hq⟩⟩
end
end L2
end
section
namespace L2
open PySem PySem.Spec PyProof.Rows PySem.W S5
theorem Inv.zqL {X:Cx} {pins:List (Addr×Obj)} {σ:St} {H:Hp} {s:Shared} {a:Addr} (I:Inv X pins σ H s) (hb:∀ b o,s.heap.get? b=some o->b < a):FpOk X pins H a:=by
 have nL:X.env.locals < a:=by
   obtain ⟨m,⟨o,_,_,e,_⟩,_⟩:=I.loc
   exact hb _ _ e
 refine ⟨?_,Nat.ne_of_gt nL,λ z=>?_,.inr (Nat.le_trans I.ok.above (Nat.le_of_lt nL)),λ x c e z=>?_,λ p hp z=>?_⟩
 . cases q:H a with
   | none=>rfl
   | some u =>
    obtain ⟨o,e⟩:=(I.hok a u q).there
    exact absurd (hb _ _ e) (Nat.lt_irrefl _)
 . obtain ⟨_,o,e,_⟩:=I.funs.mem z
   exact absurd (hb _ _ e) (Nat.lt_irrefl _)
 . obtain ⟨v,o,e,_⟩:=I.cell x c e
   subst z
   exact absurd (hb _ _ e) (Nat.lt_irrefl _)
 . have e:=(I.pin p hp).1
   rw [z] at e
   exact absurd (hb _ _ e) (Nat.lt_irrefl _)
theorem range_getD {α:Type} (xs:List α) (d:α):(List.range xs.length).map (λ i=>xs.getD i d)=xs:=by
 apply List.ext_getElem
 . simp
 . intro i h1 h2
   simp [h2]
def zeG {α:Type} (xs:List α) (d:α) (p:Array Nat):List α:=p.toList.map λ i=>xs.getD i d
theorem zcP {α:Type} (xs:List α) (d:α) {p:Array Nat} (h:Arr xs.length p):(zeG xs d p).Perm xs:=by
 have q:=List.Perm.map (λ i=>xs.getD i d) h
 rw [range_getD] at q
 exact q
theorem zhq {α:Type} (xs:List α) (d:α) {lt:α->α->Bool} {p:Array Nat} (h:Arr xs.length p) (u:Up (λ i j=>lt (xs.getD i d) (xs.getD j d)) p xs.length):(zeG xs d p).Pairwise (λ a b=>lt a b=true):=by
 unfold zeG
 rw [List.pairwise_map,List.pairwise_iff_getElem]
 intro i j hi hj hij
 have hs:=h.size
 have hj':j < xs.length:=by rw [Array.length_toList] at hj; omega
 have q:=u i j hij hj'
 have e:∀ k (hk:k < p.toList.length),p.getD k 0=p.toList[k]:=λ k hk=>by
  rw [Array.getD_eq_getD_getElem?,Array.getElem?_eq_getElem (by rw [Array.length_toList] at hk; exact hk)]; simp
 rw [e i hi,e j hj] at q
 exact q
theorem zg6 {xs:List V} {vs:List Value} (r:Vals xs vs) {p:Array Nat} (h:Arr xs.length p):Vals (zeG xs .non p) (picked vs p):=by
 have key:∀ l:List Nat,(∀ i∈l,i < xs.length)->Vals (l.map λ i=>xs.getD i .non) (l.map λ i=>vs.getD i Value.none):=λ l=>by
  induction l with
  | nil=>intro _; exact .nil
  | cons i t ih =>
   intro hl
   have hi:i < xs.length:=hl i (by simp)
   obtain ⟨u,e1,e2⟩:=r.get (List.getElem?_eq_getElem hi)
   refine .cons ?_ (ih λ j hj=>hl j (List.mem_cons_of_mem _ hj))
   show RelV (xs.getD i V.non) (vs.getD i Value.none)
   rw [List.getD_eq_getElem?_getD,List.getElem?_eq_getElem hi,List.getD_eq_getElem?_getD,e1]
   exact e2
 exact key p.toList λ i hi=>List.mem_range.mp (h.mem_iff.mp hi)
theorem zjq {α:Type} (f:α->V) (xs:List α) (d:α) {p:Array Nat} (h:Arr xs.length p):zeG (xs.map f) .non p=(zeG xs d p).map f:=by
 unfold zeG
 rw [List.map_map]
 refine List.map_congr_left λ i hi=>?_
 have hi':i < xs.length:=List.mem_range.mp (h.mem_iff.mp hi)
 show (xs.map f).getD i .non=f (xs.getD i d)
 rw [List.getD_eq_getElem?_getD,List.getD_eq_getElem?_getD,List.getElem?_map,List.getElem?_eq_getElem hi']
 rfl
def KSrc (K:Frag) (H:Hp) (p:Addr) (ks:List Key):Prop:=SqL K H p (ks.map kV)\/∃ kvs:List (Key×V),H p=some (.dK kvs)/\kvs.map (·.1)=ks
theorem zeB {ks:List Key} {vs:List Value} (r:Vals (ks.map kV) vs) {i:Nat} (hi:i < ks.length):RelV (kV (atK ks i)) (vs.getD i Value.none):=by
 have e:(ks.map kV)[i]?=some (kV (atK ks i)):=by rw [List.getElem?_map,zgt hi]; rfl
 obtain ⟨u,e1,e2⟩:=r.get e
 rw [List.getD_eq_getElem?_getD,e1]
 exact e2
theorem zlT {ks:List Key} (one:zdJ ks) {a b:Key} (ha:a∈ks) (hb:b∈ks):zdJ [a,b]:=by
 rcases one with o | o
 . exact .inl λ k hk=>by
    rcases List.mem_cons.mp hk with z | z
    . rw [z]; exact o a ha
    . have:k=b:=by simpa using z
      rw [this]; exact o b hb
 . exact .inr λ k hk=>by
    rcases List.mem_cons.mp hk with z | z
    . rw [z]; exact o a ha
    . have:k=b:=by simpa using z
      rw [this]; exact o b hb
section
variable {X:Cx}
theorem zgQ (hc:X.calm=true):ziE X (.builtin "sorted") (λ xs H Q=>∃ p ks,xs=[.ref p]/\KSrc X.K H p ks/\ks.Nodup/\zdJ ks/\ks.length < 64 /\
   ∀ (ys:List Key) (l:Addr),ys.Perm ks->ys.Pairwise (λ a b=>kLt a b=true)->H l=none->Q (.ref l) (upd H l (.lst (ys.map kV)))):=by
 intro pins s σ H xs us Q I r h
 obtain ⟨p,ks,rfl,src,nd,one,h64,h⟩:=h
 obtain ⟨u,rfl,ru⟩:=Vals.one r
 cases ru
 refine zkm (PC:=λ vs _=>Vals (ks.map kV) vs) (λ R hR=>?_) (λ vs _ hv=>by rw [<-hv.length,List.length_map]; exact h64) (λ h' tk vs hk hv=>?_)
 . rcases src with hq | ⟨kvs,hd,hks⟩
   . obtain ⟨its,rv,pl,hz⟩:=I.list hq
     refine collect_list pl.isList (hR _ s.toks its (λ b o e=>?_) rv) (by rw [<-rv.length]; exact hz)
     have hb:=Heap.lt_size e
     rw [Heap.get?_update_other _ _ (Nat.ne_of_gt hb)]
     exact Heap.get?_push_of_some _ e
   . obtain ⟨z,lo,vs,rel,dd⟩:=ziv I.hok hd
     obtain ⟨ep,hat⟩:=dd.dictAt
     refine kdu_collect (A:=X.A.in1) (kdl_dict (knd:=zaF X.prog X.w) (kvs:=vs) (ep:=ep) lo) (I.ok.hd hc) hat (by rw [<-rel.length]; exact z) λ h' tk acc hk hacc=>hR h' tk acc.toList hk ?_
     have hl:acc.toList.length=ks.length:=by rw [Array.length_toList,hacc.1,<-rel.length,<-hks,List.length_map]
     have key:∀ (l1:List Key) (l2:List Value) (off:Nat),l2.length=l1.length->(∀ j v,l2[j]?=some v->∃ k,l1[j]?=some k/\RelV (kV k) v)->Vals (l1.map kV) l2:=λ l1=>by
       induction l1 with
       | nil=>intro l2 _ hl2 _; cases l2 with
         | nil=>exact .nil
         | cons _ _=>simp at hl2
       | cons k t ih =>
         intro l2 off hl2 hj
         cases l2 with
         | nil=>simp at hl2
         | cons v t2 =>
          obtain ⟨k',e1,e2⟩:=hj 0 v rfl
          have:k=k':=Option.some.inj e1
          subst this
          exact .cons e2 (ih t2 off (by simpa using hl2) λ j w hw=>hj (j+1) w (by simpa using hw))
     refine key ks acc.toList 0 hl λ j v hj=>?_
     obtain ⟨k,x,e1,e2⟩:=hacc.2 j v (by rw [<-Array.getElem?_toList]; exact hj)
     refine ⟨k,?_,?_⟩
     . rw [<-hks,KV.keys rel,List.getElem?_map,e1]; rfl
     . rcases zaR (show zhM k v=true from e2) with ⟨i,t,rfl,rfl⟩ | ⟨x',t,rfl,rfl⟩
       . exact ⟨t,rfl⟩
       . exact ⟨t,rfl⟩
 . have hl:vs.length=ks.length:=by rw [<-hv.length,List.length_map]
   have O:=ordK nd one
   rw [<-hl] at O
   refine zlH (s:={ s with heap:=h'.push { cls:=.type "list",data:=.seq vs.toArray },toks:=tk }) (κ:=oneType') (c:=0) (Heap.get?_push_size _ rfl) (by rw [hl]; exact h64) O (λ h1 _ h2 Qk hq=>?_) (λ h1 _ i j hi hj hne Qb hq=>?_) (λ q h3 c' hp hu hkb hg=>⟨rfl,?_⟩)
   . refine kas_kind (T:=.type (kTy ks)) h2 (λ v hvm=>?_) ?_ ?_ hq
     . obtain ⟨i,hi⟩:=List.mem_iff_getElem?.mp hvm
       have hi':i < ks.length:=by rw [<-hl]; exact (List.getElem?_eq_some_iff.mp hi).1
       have:=zeB hv hi'
       rw [List.getD_eq_getElem?_getD,hi] at this
       exact ty_keys one (zcX hi') this _ _
     . rcases ziY ks with z | z <;> rw [z] <;> decide
     . rcases ziY ks with z | z <;> rw [z] <;> decide
   . rw [keyLt'_oneType]
     rw [hl] at hi hj
     exact zl7 (zlT one (zcX hi) (zcX hj)) (zeB hv hi) (zeB hv hj) hq
   . rw [hl] at hp hu
     have keepAll:∀ b o,s.heap.get? b=some o->h3.get? b=some o:=λ b o e=>hkb b o (Nat.ne_of_lt (Heap.lt_size (hk b o e))) (Heap.get?_push_of_some _ (hk b o e))
     have I1:Inv X pins σ H { s with heap:=h3,toks:=tk }:=I.kept keepAll
     have fp:=I.zqL (a:=h'.objs.size) λ b o e=>Heap.lt_size (hk b o e)
     have vp:=zg6 hv (p:=q) (by rw [List.length_map]; exact hp)
     rw [zjq kV ks (Sum.inl 0) hp] at vp
     have lp:(zeG ks (Sum.inl 0) q).length=ks.length:=(zcP ks (Sum.inl 0) hp).length_eq
     refine ⟨.ref h'.objs.size,upd H h'.objs.size (.lst ((zeG ks (Sum.inl 0) q).map kV)),?_,rfl,h _ _ (zcP ks _ hp) (zhq ks _ hp hu) fp.1⟩
     have f2:FpOk X pins H h'.objs.size:=fp
     exact I1.zp1 f2 ⟨by rw [List.length_map,lp,sizeLine_eq]; omega,picked vs q,c',vp,hg⟩
end
end L2
end
section
namespace L2
open PySem PySem.Spec PyProof.Rows PySem.W S5
def ItV (v d:Addr):Heap->Prop:=λ h=>h.IsItemsView v d
section
variable {X:Cx}
def zsK:V->List V->Hp->VK->Prop:=λ x xs H Q=>∃ (d:Addr) (kvs:List (Key×V)),x=.ref d/\xs=[]/\H d=some (.dK kvs)/\∀ v:Addr,H v=none->Q (.ref v) (upd H v (.ext (ItV v d)))
theorem zqt:MtR X "dict.items" zsK:=by
 intro pins s σ H x xs v us Q I r rs h
 obtain ⟨d,kvs,rfl,rfl,hd,h⟩:=h
 cases r
 cases rs
 obtain ⟨z,lo,vs,rel,dd⟩:=ziv I.hok hd
 have hn:=I.hok.fresh (Nat.le_refl s.heap.objs.size)
 refine call_meetsIn PySem.F.slot_dict_items dd.typeIs PySem.F.entry_dict_items (PySem.F.args_dict_items_1 _) (meets_dict_items (zaF X.prog X.w) d lo) ⟨⟨vs,dd⟩,⟨.ref s.heap.objs.size,upd H s.heap.objs.size (.ext (ItV s.heap.objs.size d)),?_,rfl,h _ hn⟩⟩
 have vw:(s.heap.push { cls:=.type "dict_items",data:=.fields #[.ref d] }).IsItemsView s.heap.objs.size d:=⟨_,Heap.get?_push_size _ rfl,rfl,rfl⟩
 exact I.laid (t':=s.toks) (λ b u e=>Heap.get?_push_of_some _ e) (Nat.le_refl _) ⟨vw,⟨_,Heap.get?_push_size _ rfl⟩,λ h1 h2 ⟨o,e,c,dd⟩ k=>⟨o,k o e,c,dd⟩⟩
end
theorem Inv.zkb {X:Cx} {pins:List (Addr×Obj)} {σ:St} {s:Shared}:∀ (as:List Addr) (ts:List (List V)) {H:Hp},Inv X pins σ H s->as.length=ts.length->as.Nodup->(∀ a∈as,FpOk X pins H a) ->
  (∀ (j:Nat) (a:Addr) (t:List V),as[j]?=some a->ts[j]?=some t->zbV X.prog X.w H s.heap a (.tup t)) ->
  ∃ H',Inv X pins σ H' s/\Same H H'/\(∀ b,b∉as->H' b=H b)/\∀ (j:Nat) (a:Addr) (t:List V),as[j]?=some a->ts[j]?=some t->H' a=some (.tup t)
 | [],[],H,I,_,_,_,_=>⟨H,I,Same.refl H,λ _ _=>rfl,λ j a t e=>by cases e⟩
 | [],_::_,_,_,hl,_,_,_=>by simp at hl
 | _::_,[],_,_,hl,_,_,_=>by simp at hl
 | a::as,t::ts,H,I,hl,nd,hf,ho=>by
  obtain ⟨na,nd'⟩:=List.nodup_cons.mp nd
  have fa:=hf a (by simp)
  have I1:=I.zp1 (o:=.tup t) fa (ho 0 a t rfl rfl)
  obtain ⟨H',I',sm,ot,at_⟩:=Inv.zkb as ts I1 (by simpa using hl) nd' (λ b hb=>⟨by rw [zae (show b≠a from λ z=>na (by rw [<-z]; exact hb))]; exact (hf b (List.mem_cons_of_mem _ hb)).1,(hf b (List.mem_cons_of_mem _ hb)).2⟩) (λ j b t' e1 e2=>ho (j+1) b t' (by simpa using e1) (by simpa using e2))
  have ha:H' a=some (.tup t):=by rw [ot a na]; exact zab
  refine ⟨H',I',λ b o e=>sm b o (by rw [zae (zah e fa.1)]; exact e),λ b hb=>?_,λ j b t' e1 e2=>?_⟩
  . rw [ot b λ z=>hb (List.mem_cons_of_mem _ z),zae λ z=>hb (by rw [z]; simp)]
  . cases j with
    | zero =>
     have q1:a=b:=Option.some.inj e1
     have q2:t=t':=Option.some.inj e2
     subst q1 q2
     exact ha
    | succ j=>exact at_ j b t' (by simpa using e1) (by simpa using e2)
theorem zmY:∀ as:List Addr,Vals (as.map V.ref) (as.map Value.ref)
 | []=>.nil
 | _::t=>.cons rfl (zmY t)
theorem zkA {α β:Type} {F:α->β->Prop}:∀ {l:List α} {m:List β},l.length=m.length->(∀ (j:Nat) (a:α) (b:β),l[j]?=some a->m[j]?=some b->F a b)->Paired F l m
 | [],[],_,_=>.nil
 | [],_::_,h,_=>by simp at h
 | _::_,[],h,_=>by simp at h
 | a::l,b::m,h,k=>.cons (k 0 a b rfl rfl) (zkA (by simpa using h) λ j x y e1 e2=>k (j+1) x y (by simpa using e1) (by simpa using e2))
theorem ziX {h:Heap}:∀ {as:List Addr} {fs:List Value},as.length=fs.length->(∀ (j:Nat) (a:Addr) (f:Value),as[j]?=some a->fs[j]?=some f->∃ x,h.get? a=some { cls:=.type "tuple",data:=.seq #[f,x] })->KatTups h (as.map Value.ref) fs
 | [],[],_,_=>.nil
 | [],_::_,hl,_=>by simp at hl
 | _::_,[],hl,_=>by simp at hl
 | a::as,f::fs,hl,k=>by
  obtain ⟨x,e⟩:=k 0 a f rfl rfl
  exact KatTups.cons e rfl rfl rfl (ziX (by simpa using hl) λ j a' f' e1 e2=>k (j+1) a' f' (by simpa using e1) (by simpa using e2))
def kvD:Key×V:=(Sum.inl 0,.non)
section
variable {X:Cx}
theorem zgp (hc:X.calm=true):ziE X (.builtin "sorted") (λ xs H Q=>∃ (v d:Addr) (kvs:List (Key×V)),xs=[.ref v]/\H v=some (.ext (ItV v d))/\H d=some (.dK kvs)/\zdJ (kvs.map (·.1))/\kvs.length < 64 /\
   ∀ (ys:List (Key×V)) (l:Addr) (as:List Addr) (H':Hp),ys.Perm kvs->ys.Pairwise (λ a b=>kLt a.1 b.1=true)->Same H H'->H l=none->H' l=some (.lst (as.map V.ref))->Paired (λ a kv=>H a=none/\H' a=some (.tup [kV kv.1,kv.2])) as ys->Q (.ref l) H'):=by
 intro pins s σ H xs us Q I r h
 obtain ⟨v,d,kvs,rfl,hv,hd,one,h64,h⟩:=h
 obtain ⟨u,rfl,ru⟩:=Vals.one r
 cases ru
 obtain ⟨z,lo,ws,rel,dd⟩:=ziv I.hok hd
 obtain ⟨ep,hat⟩:=dd.dictAt
 have vw:s.heap.IsItemsView v d:=(I.hok v _ hv).1
 have wl:ws.length=kvs.length:=rel.length.symm
 have nd:(kvs.map (·.1)).Nodup:=by rw [KV.keys rel]; exact hat.nodup
 refine zkm (PC:=λ vs h'=>∃ as,vs=as.map Value.ref/\as.length=kvs.length/\KdxG (zaF X.prog X.w) ws s.heap.objs.size h' as) (λ R hR=>?_) (λ vs _ ⟨as,e,hl,_⟩=>by rw [e,List.length_map,hl]; exact h64) (λ h' tk vs hk hp=>?_)
 . exact kdx_collect (A:=X.A.in1) (I.ok.hd hc) vw hat (by rw [wl]; exact z) λ h' tk as hk hl hG=>hR h' tk _ hk ⟨as,rfl,by rw [hl,wl],hG⟩
 . obtain ⟨as,rfl,hal,hG⟩:=hp
   have tup:∀ i,i < kvs.length->∃ a key x,as[i]?=some a/\h'.get? a=some { cls:=.type "tuple",data:=.seq #[key,x] }/\RelV (kV (atK (kvs.map (·.1)) i)) key/\RelV (kvs.getD i kvD).2 x:=λ i hi=>by
     have ia:i < as.length:=by rw [hal]; exact hi
     obtain ⟨key,k,x,e1,e2,e3⟩:=hG.pairs i as[i] (List.getElem?_eq_getElem ia)
     have ek:kvs[i]?=some kvs[i]:=List.getElem?_eq_getElem hi
     have rr:∀ {l:List (Key×V)} {m:List (Key×Value)} {j:Nat} {p:Key×V} {q:Key×Value},KV l m->l[j]?=some p->m[j]?=some q->p.1=q.1/\RelV p.2 q.2:=λ {l m j p q} rl=>by
       unfold KV at rl
       induction rl generalizing j with
       | nil=>intro e; cases e
       | cons hh tt ih =>
         intro e1 e2
         cases j with
         | zero=>cases e1; cases e2; exact hh
         | succ j=>exact ih (by simpa using e1) (by simpa using e2)
     obtain ⟨q1,q2⟩:=rr rel ek e1
     refine ⟨as[i],key,x,List.getElem?_eq_getElem ia,e3,?_,?_⟩
     . have:atK (kvs.map (·.1)) i=k:=by
         unfold atK
         rw [List.getD_eq_getElem?_getD,List.getElem?_map,ek]
         exact q1
       rw [this]
       rcases zaR (show zhM k key=true from e2) with ⟨n,t,rfl,rfl⟩ | ⟨y,t,rfl,rfl⟩
       . exact ⟨t,rfl⟩
       . exact ⟨t,rfl⟩
     . rw [List.getD_eq_getElem?_getD,ek]; exact q2
   have kl:(kvs.map (·.1)).length=kvs.length:=List.length_map ..
   have vl:(as.map Value.ref).length=kvs.length:=by rw [List.length_map,hal]
   have O:=ordK nd one
   rw [kl,<-vl] at O
   have asLt:∀ a∈as,a < h'.objs.size:=λ a ha=>hG.there ha
   have getV:∀ i a,as[i]?=some a->(as.map Value.ref).getD i Value.none=.ref a:=λ i a e=>by rw [List.getD_eq_getElem?_getD,List.getElem?_map,e]; rfl
   have T0:(Value.type (kTy (kvs.map (·.1))) != Value.type "tuple")=true:=by rcases ziY (kvs.map (·.1)) with z | z <;> rw [z] <;> decide
   refine zlH (s:={ s with heap:=h'.push { cls:=.type "list",data:=.seq (as.map Value.ref).toArray },toks:=tk }) (κ:=tuples' true) (c:=0) (lt:=λ i j=>kLt (atK (kvs.map (·.1)) i) (atK (kvs.map (·.1)) j)) (Heap.get?_push_size _ rfl) (by rw [vl]; exact h64) O (λ h1 k1 h2 Qk hq=>?_) (λ h1 k1 i j hi hj hne Qb hq=>?_) (λ q h3 c' hp hu hkb hg=>⟨rfl,?_⟩)
   . have there:∀ b o,h'.get? b=some o->h1.get? b=some o:=λ b o e=>k1 b o (Nat.ne_of_lt (Heap.lt_size e)) (Heap.get?_push_of_some _ e)
     have fsx:∃ fs:List Value,as.length=fs.length/\(∀ (j:Nat) (a:Addr) (f:Value),as[j]?=some a->fs[j]?=some f->∃ x,h1.get? a=some { cls:=.type "tuple",data:=.seq #[f,x] })/\∀ f∈fs,Looks (model X.prog X.w) h1 (typeOf f) (.type (kTy (kvs.map (·.1)))):=by
       let fs:=(List.range kvs.length).map λ i=>match as[i]? with
         | some a=>(match h'.get? a with
          | some o=>(match o.data with | .seq xs _=>xs.getD 0 Value.none | _=>Value.none)
          | none=>Value.none)
         | none=>Value.none
       have fget:∀ i,i < kvs.length->∃ a key x,as[i]?=some a/\fs[i]?=some key/\h'.get? a=some { cls:=.type "tuple",data:=.seq #[key,x] }/\RelV (kV (atK (kvs.map (·.1)) i)) key:=λ i hi=>by
         obtain ⟨a,key,x,e1,e2,e3,_⟩:=tup i hi
         refine ⟨a,key,x,e1,?_,e2,e3⟩
         show ((List.range kvs.length).map _)[i]?=some key
         rw [List.getElem?_map,List.getElem?_range hi]
         simp [e1,e2]
       refine ⟨fs,by simp [fs,hal],λ j a f e1 e2=>?_,λ f hf=>?_⟩
       . have hj:j < kvs.length:=by rw [<-hal]; exact (List.getElem?_eq_some_iff.mp e1).1
         obtain ⟨a',key,x,g1,g2,g3,_⟩:=fget j hj
         rw [e1] at g1; cases g1
         rw [e2] at g2; cases g2
         exact ⟨x,there _ _ g3⟩
       . obtain ⟨j,hj⟩:=List.mem_iff_getElem?.mp hf
         have hj':j < kvs.length:=by have:=(List.getElem?_eq_some_iff.mp hj).1; simpa [fs] using this
         obtain ⟨a',key,x,g1,g2,g3,g4⟩:=fget j hj'
         rw [hj] at g2; cases g2
         exact ty_keys one (zcX (by rw [kl]; exact hj')) g4 _ _
     obtain ⟨fs,fl,fp,ft⟩:=fsx
     have hq':Qk (tuples' (Value.type (kTy (kvs.map (·.1))) != Value.type "tuple")) { s with heap:=h1,toks:=tk }:=by rw [T0]; exact hq
     exact kat_kind (ziX fl fp) (by rw [<-fl,hal]; rw [vl] at h2; omega) ft (by rcases ziY (kvs.map (·.1)) with z | z <;> rw [z] <;> decide) hq'
   . have there:∀ b o,h'.get? b=some o->h1.get? b=some o:=λ b o e=>k1 b o (Nat.ne_of_lt (Heap.lt_size e)) (Heap.get?_push_of_some _ e)
     rw [vl] at hi hj
     obtain ⟨a,key,x,e1,e2,e3,_⟩:=tup i hi
     obtain ⟨b,key',x',g1,g2,g3,_⟩:=tup j hj
     rw [getV i a e1,getV j b g1]
     have hik:i < (kvs.map (·.1)).length:=by rw [kl]; exact hi
     have hjk:j < (kvs.map (·.1)).length:=by rw [kl]; exact hj
     have ne:atK (kvs.map (·.1)) i≠atK (kvs.map (·.1)) j:=λ e=>hne (by
       have q1:=zgt hik
       have q2:=zgt hjk
       rw [e] at q1
       obtain ⟨_,w1⟩:=List.getElem?_eq_some_iff.mp q1
       obtain ⟨_,w2⟩:=List.getElem?_eq_some_iff.mp q2
       exact (List.getElem_inj (h₀:=hik) (h₁:=hjk) nd).mp (w1.trans w2.symm))
     refine kat_lt (there _ _ e2) rfl (there _ _ g2) rfl ?_
     refine kat_cons (zrX ne e3 g3 (kat_no ?_))
     exact zl7 (zlT one (zcX hik) (zcX hjk)) e3 g3 hq
   . rw [vl] at hp hu
     have keepAll:∀ b o,s.heap.get? b=some o->h3.get? b=some o:=λ b o e=>hkb b o (Nat.ne_of_lt (Heap.lt_size (hk b o e))) (Heap.get?_push_of_some _ (hk b o e))
     have there:∀ b o,h'.get? b=some o->h3.get? b=some o:=λ b o e=>hkb b o (Nat.ne_of_lt (Heap.lt_size e)) (Heap.get?_push_of_some _ e)
     have I1:Inv X pins σ H { s with heap:=h3,toks:=tk }:=I.kept keepAll
     have and_:as.Nodup:=hG.rise.imp λ h=>Nat.ne_of_lt h
     have fa:∀ a∈as,FpOk X pins H a:=λ a ha=>I.zqL λ b o e=>Nat.lt_trans (Heap.lt_size e) (hG.above a ha)
     obtain ⟨H1,I2,sm,ot,at_⟩:=I1.zkb as (kvs.map λ kv=>[kV kv.1,kv.2]) (by rw [List.length_map,hal]) and_ fa (λ j a t e1 e2=>by
       have hj:j < kvs.length:=by rw [<-hal]; exact (List.getElem?_eq_some_iff.mp e1).1
       obtain ⟨a',key,x,g1,g2,g3,g4⟩:=tup j hj
       rw [e1] at g1; cases g1
       rw [List.getElem?_map,List.getElem?_eq_getElem hj] at e2
       have e2':[kV kvs[j].1,kvs[j].2]=t:=Option.some.inj e2
       subst e2'
       have q1:atK (kvs.map (·.1)) j=kvs[j].1:=by unfold atK; rw [List.getD_eq_getElem?_getD,List.getElem?_map,List.getElem?_eq_getElem hj]; rfl
       have q2:(kvs.getD j kvD).2=kvs[j].2:=by rw [List.getD_eq_getElem?_getD,List.getElem?_eq_getElem hj]; rfl
       rw [q1] at g3
       rw [q2] at g4
       exact ⟨by show 2<=sizeLine; rw [sizeLine_eq]; omega,[key,x],.cons g3 (.cons g4 .nil),_,there _ _ g2,rfl,_,rfl⟩)
     have fl0:=I.zqL (a:=h'.objs.size) λ b o e=>Heap.lt_size (hk b o e)
     have nl:h'.objs.size∉as:=λ z=>absurd (asLt _ z) (Nat.lt_irrefl _)
     have fl1:FpOk X pins H1 h'.objs.size:=⟨by rw [ot _ nl]; exact fl0.1,fl0.2⟩
     have hpk:Arr as.length q:=by rw [hal]; exact hp
     have vr:Vals (as.map V.ref) (as.map Value.ref):=by
       exact zmY as
     have vp:=zg6 vr (p:=q) (by rw [List.length_map]; exact hpk)
     rw [zjq V.ref as 0 hpk] at vp
     have lp:(zeG as 0 q).length=kvs.length:=by rw [(zcP as 0 hpk).length_eq,hal]
     have I3:=I2.zp1 (o:=.lst ((zeG as 0 q).map V.ref)) fl1 ⟨by rw [List.length_map,lp,sizeLine_eq]; omega,picked (as.map Value.ref) q,c',vp,hg⟩
     refine ⟨.ref h'.objs.size,_,I3,rfl,h (zeG kvs kvD q) h'.objs.size (zeG as 0 q) _ (zcP kvs kvD hp) ?_ (λ b o e=>by rw [zae (zah e fl0.1)]; exact sm b o e) fl0.1 zab ?_⟩
     . refine zhq (lt:=λ a b=>kLt a.1 b.1) kvs kvD hp λ i j hij hj=>?_
       have q0:=hu i j hij hj
       have conv:∀ m,atK (kvs.map (·.1)) m=(kvs.getD m kvD).1:=λ m=>by
         unfold atK
         rw [List.getD_eq_getElem?_getD,List.getElem?_map,List.getD_eq_getElem?_getD]
         cases kvs[m]? with
         | none=>rfl
         | some _=>rfl
       show kLt (kvs.getD (q.getD i 0) kvD).1 (kvs.getD (q.getD j 0) kvD).1=true
       rw [<-conv,<-conv]; exact q0
     . refine zkA (by rw [lp,(zcP kvs kvD hp).length_eq]) λ j a kv e1 e2=>?_
       unfold zeG at e1 e2
       rw [List.getElem?_map] at e1 e2
       cases hj:q.toList[j]? with
       | none=>rw [hj] at e1; cases e1
       | some i =>
         rw [hj] at e1 e2
         have hi:i < kvs.length:=List.mem_range.mp (hp.mem_iff.mp (List.mem_of_getElem? hj))
         have ia:i < as.length:=by rw [hal]; exact hi
         have q1:as.getD i 0=a:=Option.some.inj e1
         have q2:kvs.getD i kvD=kv:=Option.some.inj e2
         rw [List.getD_eq_getElem?_getD,List.getElem?_eq_getElem ia] at q1
         rw [List.getD_eq_getElem?_getD,List.getElem?_eq_getElem hi] at q2
         have q1':as[i]=a:=q1
         have q2':kvs[i]=kv:=q2
         have mem:a∈as:=by rw [<-q1']; exact List.getElem_mem ia
         refine ⟨(fa a mem).1,?_⟩
         rw [zae (show a≠h'.objs.size from λ z=>nl (by rw [<-z]; exact mem))]
         exact at_ i a _ (by rw [List.getElem?_eq_getElem ia,q1']) (by rw [List.getElem?_map,List.getElem?_eq_getElem hi,q2']; rfl)
end
end L2
end
section
namespace L2
open PySem PySem.Spec PySem.W PyProof.Rows S5
section
variable {X:Cx} {x:Str} {pos:Pos}
theorem zcF {y:Str} (hg:Gl X x) (hm:∃ t,X.mg x=some (.str y t)) (hd:(x == ("__debug__" : Str))=false:=by decide):PE X (.Name x pos) (tC (.str y)):=by
 obtain ⟨t,e⟩:=hm
 exact zoM hg e ⟨t,rfl⟩ hd
theorem ztE {i:Int} (hg:Gl X x) (hm:∃ t,X.mg x=some (.int i t)) (hd:(x == ("__debug__" : Str))=false:=by decide):PE X (.Name x pos) (tC (.int i)):=by
 obtain ⟨t,e⟩:=hm
 exact zoM hg e ⟨t,rfl⟩ hd
end
mutual
inductive DV (H:Hp):V->Dat->Prop
 | non:DV H .non .none
 | int (i:Int):DV H (.int i) (.int i)
 | str (x:Str):DV H (.str x) (.str x)
 | tup {p:Addr} {vs:List V} {ds:List Dat}:H p=some (.tup vs)->DVs H vs ds->DV H (.ref p) (.tuple ds)
 | lst {p:Addr} {vs:List V} {ds:List Dat}:H p=some (.lst vs)->DVs H vs ds->DV H (.ref p) (.list ds)
inductive DVs (H:Hp):List V->List Dat->Prop
 | nil:DVs H [] []
 | cons {v:V} {vs:List V} {d:Dat} {ds:List Dat}:DV H v d->DVs H vs ds->DVs H (v::vs) (d::ds)
end
section
variable {P:Program} {w:World} {H:Hp} {h:Heap}
mutual
theorem DV.reads (hok:HOk P w H h):∀ {v:V} {d:Dat} {u:Value},DV H v d->RelV v u->∃ as,Reads h u (kqdP d) as
 | _,_,_,.non,r=>by cases r; exact ⟨_,.none⟩
 | _,_,_,.int i,r=>by obtain ⟨t,rfl⟩:=r; exact ⟨_,.int i t⟩
 | _,_,_,.str x,r=>by obtain ⟨t,rfl⟩:=r; exact ⟨_,.str x t⟩
 | _,_,_,.tup e q,r=>by
  cases r
  obtain ⟨_,its,rv,o,ho,hc,n,hd⟩:=hok _ _ e
  obtain ⟨as,ra⟩:=DVs.reads hok q rv
  rw [kqdP]
  exact ⟨_,.tuple ho hc hd (by simpa using ra)⟩
 | _,_,_,.lst e q,r=>by
  cases r
  obtain ⟨_,its,n,rv,ho⟩:=hok _ _ e
  obtain ⟨as,ra⟩:=DVs.reads hok q rv
  rw [kqdP]
  exact ⟨_,.list ho rfl rfl (by simpa using ra)⟩
theorem DVs.reads (hok:HOk P w H h):∀ {vs:List V} {ds:List Dat} {us:List Value},DVs H vs ds->Vals vs us->∃ as,ReadsAll h us (kqdPs ds) as
 | _,_,_,.nil,r=>by cases r; exact ⟨_,.nil⟩
 | _,_,_,.cons a b,r=>by
  cases r with
  | cons r1 r2 =>
   obtain ⟨as,q⟩:=DV.reads hok a r1
   obtain ⟨bs,q'⟩:=DVs.reads hok b r2
   rw [kqdPs]
   exact ⟨_,.cons q q'⟩
end
theorem DVs.length {H:Hp}:∀ {vs:List V} {ds:List Dat},DVs H vs ds->vs.length=ds.length
 | _,_,.nil=>rfl
 | _,_,.cons _ r=>congrArg (·+1) (DVs.length r)
mutual
theorem DV.mono {H H':Hp} (h:∀ b o,H b=some o->H' b=some o):∀ {v:V} {d:Dat},DV H v d->DV H' v d
 | _,_,.non=>.non
 | _,_,.int i=>.int i
 | _,_,.str x=>.str x
 | _,_,.tup e q=>.tup (h _ _ e) (DVs.mono h q)
 | _,_,.lst e q=>.lst (h _ _ e) (DVs.mono h q)
theorem DVs.mono {H H':Hp} (h:∀ b o,H b=some o->H' b=some o):∀ {vs:List V} {ds:List Dat},DVs H vs ds->DVs H' vs ds
 | _,_,.nil=>.nil
 | _,_,.cons a b=>.cons (DV.mono h a) (DVs.mono h b)
end
end
abbrev zgP (d:Dat):Prop:=kqdOk 8 d=true
open Classical in
theorem zpH {d e:Dat} (hd:zgP d) (he:zgP e):PyData.eqv (kqdP d) (kqdP e)=decide (d=e):=by
 have q:=kqd_eqv 8 d e 8 hd he
 by_cases h:d=e
 . rw [decide_eq_true h]; exact q.mpr h
 . rw [decide_eq_false h]; exact Bool.eq_false_iff.mpr λ z=>h (q.mp z)
theorem zeD {d:Dat} (hd:zgP d):SeqAt.shaped (kqdP d)=true:=by
 have l:=kqd_lay 8 d hd
 unfold SeqAt.shaped; rw [l.1,Bool.true_and]; exact decide_eq_true (Nat.le_trans l.2 (by decide))
section
variable {X:Cx}
open Classical in
noncomputable def rEqD:R2:=λ x y H Q=>∃ d e,DV H x d/\DV H y e/\zgP d/\zgP e/\Q (.bl (decide (d=e))) H
open Classical in
noncomputable def rNeD:R2:=λ x y H Q=>∃ d e,DV H x d/\DV H y e/\zgP d/\zgP e/\Q (.bl (!decide (d=e))) H
theorem zoS (hu:X.A.units+64 < cLine):OpR X (compareOp .Eq) rEqD:=by
 intro pins s σ H x y v u Q I rx ry h
 obtain ⟨d,e,hd,he,kd,ke,q⟩:=h
 obtain ⟨as,ra⟩:=hd.reads I.hok rx
 obtain ⟨bs,rb⟩:=he.reads I.hok ry
 exact eq_dataH ra rb (zeD kd) (zeD ke) hu (by rw [zpH kd ke]; exact ⟨.bl _,H,I,rfl,q⟩)
theorem zsV (hu:X.A.units+64 < cLine):OpR X (compareOp .NotEq) rNeD:=by
 intro pins s σ H x y v u Q I rx ry h
 obtain ⟨d,e,hd,he,kd,ke,q⟩:=h
 obtain ⟨as,ra⟩:=hd.reads I.hok rx
 obtain ⟨bs,rb⟩:=he.reads I.hok ry
 exact ne_dataH ra rb (zeD kd) (zeD ke) hu (by rw [zpH kd ke]; exact ⟨.bl _,H,I,rfl,q⟩)
theorem hu64 {A:Around} {k:Nat} (hr:Room k A):A.units+64 < cLine:=hr.units
end
end L2
end
section
namespace L2
open PySem PySem.Spec PySem.W PyProof.Rows S5
section
variable {X:Cx}
theorem zh2:ziE X (.builtin "isinstance") (λ xs H Q=>∃ x c t b,xs=[x,.ty c]/\TyOf X.K H x t/\kitOne X.K t (.type c)=some b/\Q (.bl b) H):=by
 intro pins s σ H xs us Q I r h
 obtain ⟨x,c,t,b,rfl,ty,e,q⟩:=h
 obtain ⟨u,v,rfl,ru,rv⟩:=Vals.two r
 cases rv
 exact zph I ru ty e λ tk=>⟨.bl b,H,I.tok tk,rfl,q⟩
def zqf:V->List V->Hp->VK->Prop:=λ x vs H Q=>∃ l xs y,x=.ref l/\vs=[.int 0,y]/\H l=some (.lst xs)/\xs.length < sizeLine/\Q .non (upd H l (.lst (y::xs)))
theorem zo0:MtR X "list.insert" zqf:=by
 intro pins s σ H x vs v us Q I rx rv h
 obtain ⟨l,xs,y,rfl,rfl,hH,hz,q⟩:=h
 cases rx
 obtain ⟨u1,u,rfl,r1,ru⟩:=Vals.two rv
 obtain ⟨t,rfl⟩:=r1
 obtain ⟨z,its,n,r,hl,e⟩:=I.lstM hH
 refine call_meets F.slot_list_insert ⟨_,e,rfl⟩ F.entry_list_insert (F.args_list_insert_3 _ _ _) (AutoSeq1.list_insert_list_int_val_1 l its.toArray n 0 t u (by decide) (by rw [List.size_toArray]; omega)) ⟨e,?_⟩
 refine ⟨.non,_,I.lset (its':=u::its) hH e ?_ (.cons ru r) ?_,rfl,q⟩
 . simp
 . rw [List.length_cons]; omega
def zse (ds:List Dat) (e:Dat) (j:Nat):Prop:=ds[j]?=some e/\∀ m < j,∀ d,ds[m]?=some d->d≠e
def zsL:V->List V->Hp->VK->Prop:=λ x vs H Q=>∃ l xs y ds e j,x=.ref l/\vs=[y]/\H l=some (.lst xs)/\DVs H xs ds/\DV H y e/\(∀ d∈ds,kqdOk 7 d=true)/\kqdOk 7 e=true/\zse ds e j/\Q (.int j) H
theorem zpy {H:Hp}:∀ {vs:List V} {ds:List Dat} {j:Nat} {d:Dat},DVs H vs ds->ds[j]?=some d->∃ v,vs[j]?=some v/\DV H v d
 | _,_,_,_,.nil,e=>by simp at e
 | _,_,0,_,.cons a _,e=>by simp at e; subst e; exact ⟨_,rfl,a⟩
 | _,_,j+1,_,.cons _ r,e=>by
  obtain ⟨v,h1,h2⟩:=zpy (j:=j) r (by simpa using e)
  exact ⟨v,by simpa using h1,h2⟩
theorem zey {d:Dat} (h:kqdOk 7 d=true):kqdOk 8 d=true:=by
 have all:∀ n d,kqdOk n d=true->kqdOk (n+1) d=true:=λ n=>by
  induction n with
  | zero=>intro d h; cases d <;> simp_all [kqdOk]
  | succ n ih =>
   intro d h
   cases d with
   | tuple ds=>simp only [kqdOk,List.all_eq_true] at h ⊢; exact λ x hx=>ih x (h x hx)
   | list ds=>simp only [kqdOk,List.all_eq_true] at h ⊢; exact λ x hx=>ih x (h x hx)
   | _=>simp_all [kqdOk]
 exact all 7 d h
theorem zqu (hu:X.A.units+64 < cLine):MtR X "list.index" zsL:=by
 intro pins s σ H x vs v us Q I rx rv h
 obtain ⟨l,xs,y,ds,e,j,rfl,rfl,hH,hds,he,kds,ke,⟨hj,hno⟩,q⟩:=h
 cases rx
 obtain ⟨u,rfl,ru⟩:=Vals.one rv
 obtain ⟨z,its,n,r,hl,eo⟩:=I.lstM hH
 obtain ⟨as,ra⟩:=hds.reads I.hok r
 obtain ⟨bs,rb⟩:=he.reads I.hok ru
 have lay:=kqd_lay 8 (.list ds) (by simp only [kqdOk,List.all_eq_true]; exact kds)
 rw [kqdP] at lay
 have lays:PyData.canLayAll0 (kqdPs ds)=true:=by
   have:=lay.1
   simpa [PyData.canLay0] using this
 have dep:PyData.depthAll (kqdPs ds)<=8:=by
   have:=lay.2
   simp only [PyData.depth] at this
   omega
 have laye:=kqd_lay 8 e (zey ke)
 have jl:j < its.length:=by
   have:=(List.getElem?_eq_some_iff.mp hj).1
   have h2:=hds.length
   omega
 have eqs:∀ (y':Value) (hy:y'∈its.toArray) (A':Around),A'.units<=X.A.units+40->SeqAt.EqAt A'.in1 s y' u (PyData.eqv (SeqAt.readOf s.heap y') (kqdP e)):=λ y' hy A' hA =>
   SeqAt.items_eqAt (by simpa using ra) rb lays laye.1 (by have:=Nat.min_le_right (PyData.depthAll (kqdPs ds)) (kqdP e).depth; omega) y' hy
 have at_:∀ (m:Nat) (hm:m < its.length) (d:Dat),ds[m]?=some d->SeqAt.readOf s.heap its[m]=kqdP d:=λ m hm d hd=>by
   obtain ⟨vm,h1,h2⟩:=zpy hds hd
   obtain ⟨um,h3,h4⟩:=r.get h1
   have:its[m]=um:=by
    rw [List.getElem?_eq_getElem hm] at h3
    exact Option.some.inj h3
   obtain ⟨cs,rc⟩:=h2.reads I.hok h4
   rw [this]
   exact SeqAt.readOf_eq (kqd_lay 8 d (zey (kds d (List.mem_of_getElem? hd)))).1 rc
 refine call_meets F.slot_list_index ⟨_,eo,rfl⟩ F.entry_list_index (F.args_list_index_2 _ _)
   (SeqAt.list_indexAt l its.toArray n none #[] u (λ y'=>PyData.eqv (SeqAt.readOf s.heap y') (kqdP e)) j (by simpa using jl) ?_ ?_ ?_) ⟨eo,λ y' hy=>eqs y' hy _ (by first | exact Nat.le_add_right _ _ | omega),⟨.int j,H,I.tok _,⟨_,rfl⟩,q⟩⟩
 . have:=z
   rw [hl,sizeLine_eq] at this
   omega
 . show PyData.eqv (SeqAt.readOf s.heap its[j]) (kqdP e)=true
   rw [at_ j jl e hj]
   exact (kqd_eqv 8 e e 8 (zey ke) (zey ke)).mpr rfl
 . intro m hm hmj
   have hm':m < its.length:=by simpa using hm
   have hmd:m < ds.length:=by have h2:=hds.length; omega
   show PyData.eqv (SeqAt.readOf s.heap its[m]) (kqdP e)=false
   rw [at_ m hm' ds[m] (List.getElem?_eq_getElem hmd)]
   refine Bool.eq_false_iff.mpr λ z=>hno m hmj ds[m] (List.getElem?_eq_getElem hmd) ((kqd_eqv 8 _ e 8 (zey (kds _ (List.getElem_mem hmd))) (zey ke)).mp z)
end
end L2
end
section
namespace L2
open PySem PySem.Spec PySem.W PyProof.Rows S5
def zsm (td ty tx:TE):TE:=λ σ H Q=>td σ H λ x H1=>∃ a,x=.ref a/\IsD H1 a/\ty σ H1 λ y H2=>tx σ H2 λ z H3=>∃ kvs k,H3 a=some (.dK kvs)/\y=kV k/\kvs.length < sizeLine /\
 (∀ v,valV kvs k=some v->Q v H3)/\(valV kvs k=none->Q z (upd H3 a (.dK (putK kvs k z))))
section
variable {X:Cx} {o e f:Expr} {apos cpos:Pos} {td ty tx:TE}
theorem zql (ho:PE X o td) (he:PE X e ty) (hf:PE X f tx) (m:M2 X o "setdefault" apos e f cpos):PE X (.Call (.Attribute o "setdefault" apos) [e,f] [] cpos) (zsm td ty tx):=by
 intro pins s σ H Q I h
 refine wpAny_Call_method m.base m.few m.line PySem.F.plainAttrs_dict PySem.F.slot_dict_setdefault PySem.F.type_dict_setdefault (thn (ho pins s σ H _ I h) λ u s1 ⟨x,H1,I1,rx,a,ex,d,q1⟩=>?_)
 subst ex
 obtain rfl:u=Value.ref a:=rx
 obtain ⟨t1,t2,_⟩:=znj I1 d
 refine ⟨t1,t2,?_⟩
 rw [m.trees]
 refine Calls.callWith_builtin rfl (Calls.evalArgs_plain (Calls.spliced_cons (thn (he pins s1 σ H1 _ I1 q1) λ iv s2 ⟨y,H2,I2,ry,q2⟩ =>
   Calls.spliced_cons (thn (hf pins s2 σ H2 _ I2 q2) λ fv s3 ⟨z,H3,I3,rz,kvs,k,ea,ey,hl,q3,q4⟩=>Calls.spliced_nil ?_))))
 subst ey
 obtain ⟨hz,hd,vs,rel,dd⟩:=ziv I3.hok ea
 refine call_meetsIn PySem.F.slot_dict_setdefault dd.typeIs PySem.F.entry_dict_setdefault (PySem.F.args_dict_setdefault_3 _ _ _) (kt_meets_setdefault (zaF X.prog X.w) a (zgg ry) hd fv) ⟨vs,dd,by rw [<-rel.length]; exact hz,λ v' hv=>?_,λ hn h' dd' hs=>?_⟩
 . cases l:valV kvs k with
   | none =>
    have:=RelO.none_of (o:=valueAt vs k) (by rw [<-l]; exact rel.val k)
    rw [this] at hv; cases hv
   | some v =>
    obtain ⟨w',hw,rw'⟩:=RelO.some_of (v:=v) (o:=valueAt vs k) (by rw [<-l]; exact rel.val k)
    rw [hw] at hv; cases hv
    exact ⟨v,H3,I3.tok _,rw',q3 v l⟩
 . have l:valV kvs k=none:=by
    cases l:valV kvs k with
    | none=>rfl
    | some v =>
     obtain ⟨w',hw,_⟩:=RelO.some_of (v:=v) (o:=valueAt vs k) (by rw [<-l]; exact rel.val k)
     rw [hw] at hn; cases hn
   have hl2:(putK kvs k z).length<=sizeLine:=by have:=zfj kvs k z; omega
   have he2:∃ q,h'.get? a=some q:=let ⟨q,_,_,hq,_⟩:=dd'; ⟨q,hq⟩
   exact ⟨z,_,zhY I3 (by rw [ea]; exact True.intro) hs he2 (zno hl2 hd (rel.put k rz) dd'),rz,q4 l⟩
end
section
variable {X:Cx}
def rJoin:V->List V->Hp->VK->Prop:=λ x vs H Q=>∃ sep l ys,x=.str sep/\vs=[.ref l]/\H l=some (.lst (ys.map V.str))/\(ys.map (·.length)).sum+ys.length * sep.length<=16777216/\Q (.str (Txt.join sep ys)) H
theorem zmS:∀ {ys:List Str} {us:List Value},Vals (ys.map V.str) us->StrsAre us ys
 | [],_,.nil=>.nil
 | y::r,_,.cons q t=>by obtain ⟨k,rfl⟩:=q; exact .cons y k (zmS t)
theorem zoZ:MtR X "str.join" rJoin:=by
 intro pins s σ H x vs v us Q I rx rv h
 obtain ⟨sep,l,ys,rfl,rfl,hH,hok,q⟩:=h
 obtain ⟨t,rfl⟩:=rx
 obtain ⟨u,rfl,ru⟩:=Vals.one rv
 cases ru
 obtain ⟨z,its,n,r,hl,e⟩:=I.lstM hH
 exact join_list ⟨_,e,rfl,n,rfl⟩ (by simpa using zmS r) hok λ t' k=>⟨.str _,H,I.tok _,⟨_,rfl⟩,q⟩
end
section
variable {X:Cx} {pins:List (Addr×Obj)} {σ:St} {H:Hp} {s:Shared} {a:Addr} {kvs:List (Key×V)} {o:Obj}
theorem zrc {P:Program} {w:World} {H:Hp} {h:Heap} {a:Addr} {u v:HO} (ok:HOk P w H h) (e:H a=some v) (nt:∀ xs,v≠.tup xs) (no:∀ y,v≠.own y) (new:zbV P w (upd H a u) h a u):HOk P w (upd H a u) h:=λ b x q=>by
 by_cases hb:b=a
 . subst hb; rw [zab] at q; cases q; exact new
 . rw [zae hb] at q
   refine (ok b x q).stay (λ _ _ _ z=>z) (λ c z=>?_) λ c xs z=>?_
   . rw [zae λ k=>by rw [k,e] at z; cases z; exact no _ rfl]; exact z
   . rw [zae λ k=>by rw [k,e] at z; cases z; exact nt _ rfl]; exact z
theorem Inv.freeze (I:Inv X pins σ H s) (e:H a=some (.dK kvs)):∃ o,s.heap.get? a=some o/\Inv X pins σ (upd H a (.frz o (.dK kvs))) s:=by
 obtain ⟨hz,hd,vs,rel,ob,es,ep,ho,r⟩:=I.hok a _ e
 have ne:∀ b,H b=none->b≠a:=λ b z k=>by rw [k,e] at z; cases z
 refine ⟨ob,ho,I.ok,I.os,I.bare,⟨I.base.keep,I.base.slot,λ b o h1 h2 h3=>?_,I.base.there,λ b xs h1=>?_,λ b o u h1=>?_,λ b ps h1=>?_⟩,I.loc,I.cell,?_,λ x c h1=>?_,λ p hp=>?_,?_,I.len⟩
 . have z:=I.base.free b o h1 h2 h3
   rw [zae (ne b z)]; exact z
 . have z:=I.base.tups b xs h1
   rw [zae λ k=>by rw [k,e] at z; cases z]; exact z
 . have z:=I.base.frzs b o u h1
   rw [zae λ k=>by rw [k,e] at z; cases z]; exact z
 . obtain ⟨more,z⟩:=I.base.tbls b ps h1
   exact ⟨more,by rw [zae λ k=>by rw [k,e] at z; cases z]; exact z⟩
 . rw [zae (ne _ I.free)]; exact I.free
 . have z:=I.zdX x c h1
   rw [zae (ne _ z)]; exact z
 . obtain ⟨h1,h2,h3⟩:=I.pin p hp
   exact ⟨h1,by rw [zae (ne _ h2)]; exact h2,h3⟩
 . exact zrc I.hok e (λ _ z=>nomatch z) (λ _ z=>nomatch z) ⟨ho,hz,hd,vs,rel,ob,es,ep,ho,r⟩
theorem Inv.thaw (I:Inv X pins σ H s) (e:H a=some (.frz o (.dK kvs))) (h0:∀ ob u,X.H₀ a≠some (.frz ob u)):Inv X pins σ (upd H a (.dK kvs)) s:=by
 obtain ⟨ho,dk⟩:=I.hok a _ e
 have ne:∀ b,H b=none->b≠a:=λ b z k=>by rw [k,e] at z; cases z
 refine ⟨I.ok,I.os,I.bare,⟨I.base.keep,I.base.slot,λ b o h1 h2 h3=>?_,I.base.there,λ b xs h1=>?_,λ b o u h1=>?_,λ b ps h1=>?_⟩,I.loc,I.cell,?_,λ x c h1=>?_,λ p hp=>?_,?_,I.len⟩
 . have z:=I.base.free b o h1 h2 h3
   rw [zae (ne b z)]; exact z
 . have z:=I.base.tups b xs h1
   rw [zae λ k=>by rw [k,e] at z; cases z]; exact z
 . have z:=I.base.frzs b o u h1
   rw [zae λ k=>by rw [k] at h1; exact h0 _ _ h1]; exact z
 . obtain ⟨more,z⟩:=I.base.tbls b ps h1
   exact ⟨more,by rw [zae λ k=>by rw [k,e] at z; cases z]; exact z⟩
 . rw [zae (ne _ I.free)]; exact I.free
 . have z:=I.zdX x c h1
   rw [zae (ne _ z)]; exact z
 . obtain ⟨h1,h2,h3⟩:=I.pin p hp
   exact ⟨h1,by rw [zae (ne _ h2)]; exact h2,h3⟩
 . refine zrc I.hok e (λ _ z=>nomatch z) (λ _ z=>nomatch z) ?_
   obtain ⟨hz,hd,vs,rel,r⟩:=dk
   exact ⟨hz,hd,vs,rel,r⟩
theorem Inv.zsX (I:Inv X pins σ H s) (e:H a=some (.dK kvs)):∀ ob u,X.H₀ a≠some (.frz ob u):=λ ob u z=>by
 have:=I.base.frzs a ob u z
 rw [e] at this; cases this
end
def Itk (a:Addr) (o:Obj) (kvs:List (Key×V)):It :=
 ⟨λ i H=>i < kvs.length/\H a=some (.frz o (.dK kvs)),λ i H x H'=>H'=H/\∃ k v,kvs[i]?=some (k,v)/\x=kV k,λ i H=>kvs.length<=i/\H a=some (.frz o (.dK kvs))⟩
def epOf (o:Obj):Nat:=match o.data with | .dict _ ep=>ep | _=>0
theorem zmi {P:Program} {w:World} {H:Hp} {h:Heap} {a:Addr} {o:Obj} {kvs:List (Key×V)} (ok:HOk P w H h) (e:H a=some (.frz o (.dK kvs))):(a == sysModules)=false/\∃ vs,KV kvs vs/\h.DictAt (zaF P w) a vs (epOf o)/\vs.length=kvs.length:=by
 obtain ⟨ho,hz,hd,vs,rel,ob,es,ep,ho',hx,hdt,r⟩:=ok a _ e
 rw [ho] at ho'; cases ho'
 have:epOf o=ep:=by unfold epOf; rw [hdt]
 exact ⟨hd,vs,rel,⟨o,es,ho,hx,by rw [this]; exact hdt,r⟩,rel.length.symm⟩
theorem zoq {P:Program} {w:World} {K:PySem.W.Frag} {tg:Expr} (a it:Addr) (o:Obj) (kvs:List (Key×V)):Turn P w K tg (Itk a o kvs) [it] it (λ i h=>h.IsKeyIter it a i kvs.length (epOf o)) where
 mem:=by simp
 obj:=λ i h st b hb=>by
  have e:b=it:=by simpa using hb
  subst e
  obtain ⟨ob,e,c,d⟩:=st
  exact ⟨ob,e,λ v z=>by rw [d] at z; cases z⟩
 keep:=λ i h h' st k=>st.at λ ob e=>k it (by simp) ob e
 item:=by
  intro X hP hw hK hc i pins s σ H E I hf st hg
  subst hP hw hK
  obtain ⟨hlt,hH⟩:=hg
  obtain ⟨lo,vs,rel,dat,hl⟩:=zmi I.hok hH
  obtain ⟨f0,f1,f2,f3,f4,f5⟩:=hf it (by simp)
  obtain ⟨⟨k,x⟩,hx⟩:∃ q,vs[i]?=some q:=⟨_,List.getElem?_eq_getElem (by omega)⟩
  rw [<-hl] at st
  refine wpAny_pyNext_dict_item st dat hx λ key h' hkey st' sb=>?_
  have I1:Inv X pins σ H { s with heap:=h' }:=I.turned (t':=s.toks) (λ b ob hb e=>(sb.2 b hb).trans e) f0 f1 f3 f4 f5
  obtain ⟨ob,e1,c1,d1⟩:=id st'
  obtain ⟨⟨k',v⟩,hkv⟩:∃ q,kvs[i]?=some q:=⟨_,List.getElem?_eq_getElem hlt⟩
  have hk:k'=k:=by
    have e2:=congrArg (λ l=>l[i]?) (KV.keys rel)
    simp only [List.getElem?_map,hkv,hx] at e2
    exact Option.some.inj e2
  subst hk
  rw [hl] at st'
  refine ⟨key,rfl,zqH (s:={ s with heap:=h' }) e1 c1 d1 (by decide) ⟨kV k',H,I1,?_,⟨rfl,k',v,hkv,rfl⟩,st',λ b hb=>(hf b hb).1⟩⟩
  rcases zaR (show zhM k' key=true from hkey) with ⟨n,t,rfl,rfl⟩ | ⟨y,t,rfl,rfl⟩
  . exact ⟨t,rfl⟩
  . exact ⟨t,rfl⟩
 done:=by
  intro X hP hw hK hc i pins s σ H E I hf st hg
  subst hP hw hK
  obtain ⟨hle,hH⟩:=hg
  obtain ⟨lo,vs,rel,dat,hl⟩:=zmi I.hok hH
  obtain ⟨f0,f1,f2,f3,f4,f5⟩:=hf it (by simp)
  rw [<-hl] at st
  exact wpAny_pyNext_dict_end (I.ok.hd hc) st dat (List.getElem?_eq_none_iff.mpr (by omega)) λ h' eb=>⟨rfl,I.turned (t':=s.toks) (λ b ob hb e=>eb b ob hb e) f0 f1 f3 f4 f5⟩
 self:=λ _ _ _ _ _ st h=>wpAny_pyIter_keyiter st h
def ztL (tl:TE):TI:=λ σ H R=>tl σ H λ x H1=>∃ a kvs,x=.ref a/\H1 a=some (.dK kvs)/\∀ o,R (Itk a o kvs) (upd H1 a (.frz o (.dK kvs)))
section
variable {X:Cx} {tg l:Expr} {tl:TE}
theorem zrO (hl:PE X l tl):PI X tg l (ztL tl):=by
 intro pins s σ H R I h
 refine thn (hl pins s σ H _ I h) λ u s1 ⟨x,H1,I1,rx,a,kvs,ex,ea,q⟩=>?_
 subst ex
 obtain rfl:u=Value.ref a:=rx
 obtain ⟨o,ho,I2⟩:=I1.freeze ea
 obtain ⟨lo,vs,rel,dat,hlen⟩:=zmi I2.hok zab
 refine wpAny_pyIter_dict lo dat ?_
 have hf:=I2.fresh
 refine ⟨s1.heap.objs.size,[s1.heap.objs.size],_,Itk a o kvs,upd H1 a (.frz o (.dK kvs)),rfl,I2.kept (t':=s1.toks) (λ b ob e=>Heap.get?_push_of_some _ e),zoq a _ o kvs,?_,λ b hb=>?_,q o⟩
 . show Heap.IsKeyIter _ s1.heap.objs.size a 0 kvs.length (epOf o)
   rw [<-hlen]
   exact ⟨_,Heap.get?_push_size _ rfl,rfl,rfl⟩
 . have e:b=s1.heap.objs.size:=by simpa using hb
   rw [e]
   exact I2.fpOk (Nat.le_refl _) hf
def ztC (t:TS):TS:=λ D σ H=>t { nx:=λ σ' H2=>∃ a o kvs,H a=some (.dK kvs)/\H2 a=some (.frz o (.dK kvs))/\D.nx σ' (upd H2 a (.dK kvs)),rt:=λ v H2=>∃ a o kvs,H a=some (.dK kvs)/\H2 a=some (.frz o (.dK kvs))/\D.rt v (upd H2 a (.dK kvs)) } σ H
theorem zrM {st:Stmt} {t:TS} (h:PS X st t):PS X st (ztC t):=by
 intro pins s σ H D I hq
 refine thn (h pins s σ H _ I hq) λ fl s1 z=>?_
 cases fl with
 | next=>obtain ⟨σ',H2,I2,a,o,kvs,e0,e2,q⟩:=z; exact ⟨σ',_,I2.thaw e2 (I.zsX e0),q⟩
 | brk=>obtain ⟨σ',H2,I2,q⟩:=z; exact q.elim
 | cont=>obtain ⟨σ',H2,I2,q⟩:=z; exact q.elim
 | ret u=>obtain ⟨v,σ',H2,I2,r,a,o,kvs,e0,e2,q⟩:=z; exact ⟨v,σ',_,I2.thaw e2 (I.zsX e0),r,q⟩
end
end L2
end
section
namespace L2
open PySem PySem.Spec PySem.W PyProof.Rows S5
def SetX (P:Program) (w:World) (q:Addr) (ks:List Key):Heap->Prop:=λ h=>S6.SetP (zaF P w) h q ks
theorem zrG {P:Program} {w:World} {H:Hp} {h:Heap} {q:Addr} {ks:List Key} (x:S6.SetP (zaF P w) h q ks):zbV P w H h q (.ext (SetX P w q ks)) :=
 ⟨x,let ⟨_,_,o,_,_,_,e,_⟩:=x; ⟨o,e⟩,λ h1 h2 y k=>S6.SetP.at y k⟩
abbrev zqW (ks:List Key):Prop:=∀ k∈ks,∃ x:Str,k=Sum.inr x
theorem zr2 {P:Program} {w:World} {k:Key} {u:Value} (h:∃ x:Str,k=Sum.inr x) (r:RelV (kV k) u):S6.KVal (zaF P w) k u:=by
 obtain ⟨x,rfl⟩:=h
 obtain ⟨t,rfl⟩:=(show ∃ t,u=Value.str x t from r)
 exact ⟨zhB P w x t,rfl,rfl⟩
section
variable {X:Cx}
def SSrc (K:Frag) (H:Hp) (p:Addr) (ks:List Key):Prop:=SqL K H p (ks.map kV)\/∃ kvs:List (Key×V),H p=some (.dK kvs)/\kvs.map (·.1)=ks/\kvs.length<=4
theorem zqP (hc:X.calm=true):ziE X (.type "set") (λ xs H Q=>∃ p ks,xs=[.ref p]/\SSrc X.K H p ks/\zqW ks/\ks.length < 4000/\∀ q,H q=none->Q (.ref q) (upd H q (.ext (SetX X.prog X.w q (S6.deds ks))))):=by
 intro pins s σ H xs us Q I r h
 obtain ⟨p,ks,rfl,src,tx,hl,h⟩:=h
 obtain ⟨u,rfl,ru⟩:=Vals.one r
 cases ru
 have hp:∃ o,s.heap.get? p=some o:=by
   rcases src with hq | ⟨kvs,hd,_⟩
   . obtain ⟨its,rv,⟨o,n,e,_⟩,hz⟩:=I.list hq
     exact ⟨o,e⟩
   . obtain ⟨z,lo,vs,rel,o,es,ep,e,_⟩:=ziv I.hok hd
     exact ⟨o,e⟩
 refine S6.zsF (R:=λ h'=>S6.SetP (zaF X.prog X.w) h' s.heap.objs.size (S6.deds ks)/\∀ b o,s.heap.get? b=some o->h'.get? b=some o) hp ?_ λ h' tk ⟨hS,kp⟩=>?_
 . have e0:(s.heap.push (S6.set0 X.w)).get? s.heap.objs.size=some (S6.set0 X.w):=Heap.get?_push_size _ rfl
   have fin:∀ {s':Shared},(∃ h' tk,s'={ s with heap:=h',toks:=tk }/\S6.SetP (zaF X.prog X.w) h' s.heap.objs.size (S6.deds ks)/\∀ b o,b≠s.heap.objs.size->(s.heap.push (S6.set0 X.w)).get? b=some o->h'.get? b=some o) ->
       ∃ h' tk,s'={ s with heap:=h',toks:=tk }/\S6.SetP (zaF X.prog X.w) h' s.heap.objs.size (S6.deds ks)/\∀ b o,s.heap.get? b=some o->h'.get? b=some o:=λ ⟨h',tk,e,hS,kp⟩ =>
     ⟨h',tk,e,hS,λ b o q=>kp b o (Nat.ne_of_lt (Heap.lt_size q)) (Heap.get?_push_of_some _ q)⟩
   rcases src with hq | ⟨kvs,hd,hks,h4⟩
   . obtain ⟨its,rv,pl,hz⟩:=I.list hq
     have hlen:its.length=ks.length:=by rw [<-rv.length,List.length_map]
     refine wpAny_mono (S6.zpv (s:={ s with heap:=s.heap.push (S6.set0 X.w) }) (knd:=zaF X.prog X.w) (ks:=ks) (items:=its.toArray) (I.ok.hd hc) (pl.isList.push _) (S6.zoD e0) ?_ (by simpa using hlen) (by unfold scanBound; omega) λ i v hv=>?_) (λ _ s' q=>fin q) λ _ _ z=>z
     . obtain ⟨o,n,e,_⟩:=pl
       exact Nat.ne_of_gt (Heap.lt_size e)
     . have hv':its[i]?=some v:=by simpa using hv
       have hi:i < ks.length:=by rw [<-hlen]; exact (List.getElem?_eq_some_iff.mp hv').1
       have e1:(ks.map kV)[i]?=some (kV ks[i]):=by rw [List.getElem?_map,List.getElem?_eq_getElem hi]; rfl
       obtain ⟨u,e2,ru⟩:=rv.get e1
       rw [hv'] at e2; cases e2
       exact ⟨ks[i],List.getElem?_eq_getElem hi,zr2 (tx _ (List.getElem_mem hi)) ru⟩
   . obtain ⟨z,lo,vs,rel,dd⟩:=ziv I.hok hd
     have hkeys:vs.map (·.1)=ks:=by rw [<-KV.keys rel]; exact hks
     have:=S6.zpw (A:=X.A.in1.in1) (E:=X.xe) (s:={ s with heap:=s.heap.push (S6.set0 X.w) }) (knd:=zaF X.prog X.w) lo (dd.push _) e0 (by rw [<-rel.length]; exact h4) λ q hq u hu=>by
       have hm:q.1∈ks:=by rw [<-hkeys]; exact List.mem_map.mpr ⟨q,hq,rfl⟩
       obtain ⟨x,hx⟩:=tx _ hm
       rw [hx] at hu
       rcases zaR (show zhM (Sum.inr x) u=true from hu) with ⟨i,t,e,_⟩ | ⟨y,t,e,rfl⟩
       . cases e
       . exact ⟨rfl,rfl⟩
     rw [hkeys] at this
     exact wpAny_mono this (λ _ s' q=>fin q) λ _ _ z=>z
 . refine ⟨.ref s.heap.objs.size,upd H s.heap.objs.size (.ext (SetX X.prog X.w s.heap.objs.size (S6.deds ks))),I.laid kp (Nat.le_refl _) (zrG hS),rfl,h _ I.fresh⟩
end
section
variable {prog:Program} {w:World} {A:Around} {E:Value->Shared->Prop} {s:Shared}
theorem znI {a:Addr} {PC:List Value->Heap->Prop} {Q:Value->Shared->Prop}
  (hcol:∀ R:List Value->Shared->Prop,(∀ h' tk d vs,zj1 s.heap h'->PC vs h'->R vs { s with heap:=h',toks:=tk,drawn:=d })->wpAny (model prog w) A.in1 (collect (.ref a)) R E s)
  (h64:∀ vs h',PC vs h'->vs.length < 64)
  (hsort : ∀ h' tk d vs, zj1 s.heap h' → PC vs h' → wpAny (model prog w) A.in1.in1 (Builtin.«list.sort» ⟨[.ref h'.objs.size], []⟩) (fun fin s' => fin = .done (.ret .none) ∧ Q (.ref h'.objs.size) s') E { s with heap := h'.push { cls := .type "list", data := .seq vs.toArray }, toks := tk, drawn := d }) :
  wpAny (model prog w) A (call (.builtin "sorted") [.ref a]) Q E s:=by
 refine Calls.call_function_entry kind_sorted plain_sorted entry_sorted (args_sorted1 _) ?_
 unfold Builtin.«sorted»
 refine wpAny_bind (m:=checkCount "sorted" 1 1 _) (wpAny_pure (wpAny_bind (hcol _ λ h' tk d vs hk hp=>?_)))
 refine wpAny_bind (wpAny_newList ?_ (by have:=h64 vs h' hp; rw [sizeLine_eq]; omega))
 refine wpAny_bind (wpAny_holding (wpAny_call_entry slot_list_sort ⟨_,Heap.get?_push_size _ rfl,rfl⟩ entry_list_sort ?_ (args_list_sort _)))
 refine wpAny_mono (hsort h' tk d vs hk hp) (λ fin s' hq=>?_) λ _ _ z=>z
 obtain ⟨rfl,hq⟩:=hq
 exact ⟨_,rfl,wpAny_pure ⟨_,rfl,hq⟩⟩
end
section
variable {X:Cx}
theorem Inv.ztJ {pins:List (Addr×Obj)} {σ:St} {H:Hp} {s:Shared} {h':Heap} {t':Nat} {d':Drawn} (I:Inv X pins σ H s) (k:∀ b u,s.heap.get? b=some u->h'.get? b=some u):Inv X pins σ H { s with heap:=h',toks:=t',drawn:=d' }:=by
 have J:=I.kept (t':=t') k
 exact ⟨J.ok,J.os,J.bare,J.base,J.loc,J.cell,J.free,J.zdX,J.pin,J.hok,J.len⟩
theorem zh1 (hc:X.calm=true):ziE X (.builtin "sorted") (λ xs H Q=>∃ q ks,xs=[.ref q]/\H q=some (.ext (SetX X.prog X.w q ks))/\ks.Nodup/\zqW ks/\ks.length < 64 /\
   ∀ (ys:List Key) (l:Addr),ys.Perm ks->ys.Pairwise (λ a b=>kLt a b=true)->H l=none->Q (.ref l) (upd H l (.lst (ys.map kV)))):=by
 intro pins s σ H xs us Q I r h
 obtain ⟨p,ks0,rfl,hp,nd0,tx0,h640,h⟩:=h
 obtain ⟨u,rfl,ru⟩:=Vals.one r
 cases ru
 obtain ⟨hS,_,_⟩:=I.hok p _ hp
 have hS:S6.SetP (zaF X.prog X.w) s.heap p ks0:=hS
 refine znI (PC:=λ vs _=>∃ ks:List Key,ks.Perm ks0/\Vals (ks.map kV) vs) (λ R hR=>?_) (λ vs _ ⟨ks,pk,hv⟩=>by rw [<-hv.length,List.length_map,pk.length_eq]; exact h640) (λ h' tk d vs hk ⟨ks,pk,hv⟩=>?_)
 . refine S6.zlK (A:=X.A.in1) (I.ok.hd hc) hS λ h' tk d vs ys py hy kp=>hR h' tk d vs kp ⟨ys,py,?_⟩
   clear hR
   have tx:zqW ys:=λ k hk=>tx0 k (py.mem_iff.mp hk)
   clear py kp
   induction hy with
   | nil=>exact .nil
   | @cons v k vs ys r _ ih =>
     refine .cons ?_ (ih λ k' hk'=>tx k' (List.mem_cons_of_mem _ hk'))
     rcases zaR (show zhM k v=true from r) with ⟨i,t,rfl,rfl⟩ | ⟨y,t,rfl,rfl⟩
     . exact ⟨t,rfl⟩
     . exact ⟨t,rfl⟩
 . have nd:ks.Nodup:=pk.nodup_iff.mpr nd0
   have one:zdJ ks:=.inr λ k hk=>tx0 k (pk.mem_iff.mp hk)
   have h64:ks.length < 64:=by rw [pk.length_eq]; exact h640
   have hl:vs.length=ks.length:=by rw [<-hv.length,List.length_map]
   have O:=ordK nd one
   rw [<-hl] at O
   refine zlH (s:={ s with heap:=h'.push { cls:=.type "list",data:=.seq vs.toArray },toks:=tk,drawn:=d }) (κ:=oneType') (c:=0) (Heap.get?_push_size _ rfl) (by rw [hl]; exact h64) O (λ h1 _ h2 Qk hq=>?_) (λ h1 _ i j hi hj hne Qb hq=>?_) (λ q h3 c' hp hu hkb hg=>⟨rfl,?_⟩)
   . refine kas_kind (T:=.type (kTy ks)) h2 (λ v hvm=>?_) ?_ ?_ hq
     . obtain ⟨i,hi⟩:=List.mem_iff_getElem?.mp hvm
       have hi':i < ks.length:=by rw [<-hl]; exact (List.getElem?_eq_some_iff.mp hi).1
       have:=zeB hv hi'
       rw [List.getD_eq_getElem?_getD,hi] at this
       exact ty_keys one (zcX hi') this _ _
     . rcases ziY ks with z | z <;> rw [z] <;> decide
     . rcases ziY ks with z | z <;> rw [z] <;> decide
   . rw [keyLt'_oneType]
     rw [hl] at hi hj
     exact zl7 (zlT one (zcX hi) (zcX hj)) (zeB hv hi) (zeB hv hj) hq
   . rw [hl] at hp hu
     have keepAll:∀ b o,s.heap.get? b=some o->h3.get? b=some o:=λ b o e=>hkb b o (Nat.ne_of_lt (Heap.lt_size (hk b o e))) (Heap.get?_push_of_some _ (hk b o e))
     have I1:Inv X pins σ H { s with heap:=h3,toks:=tk,drawn:=d }:=I.ztJ keepAll
     have fp:=I.zqL (a:=h'.objs.size) λ b o e=>Heap.lt_size (hk b o e)
     have vp:=zg6 hv (p:=q) (by rw [List.length_map]; exact hp)
     rw [zjq kV ks (Sum.inl 0) hp] at vp
     have lp:(zeG ks (Sum.inl 0) q).length=ks.length:=(zcP ks (Sum.inl 0) hp).length_eq
     refine ⟨.ref h'.objs.size,upd H h'.objs.size (.lst ((zeG ks (Sum.inl 0) q).map kV)),?_,rfl,h _ _ ((zcP ks _ hp).trans pk) (zhq ks _ hp hu) fp.1⟩
     have f2:FpOk X pins H h'.objs.size:=fp
     exact I1.zp1 f2 ⟨by rw [List.length_map,lp,sizeLine_eq]; omega,picked vs q,c',vp,hg⟩
end
end L2
end
section
namespace L2
open PySem PySem.Spec PyProof.Rows
def Nx (n i:Nat) (p:Prop):Prop:=∃ m',m' < n - i/\m'=n - (i+1)/\i+1<=n/\p
theorem nx {n i:Nat} {p:Prop} (h:i < n) (hp:p):Nx n i p:=⟨n - (i+1),by omega,rfl,h,hp⟩
section
variable {K:PySem.W.Frag} {a:Addr} {xs:List V} {g:TG} {tt:TT} {te:TE} {σ₀:St} {H:Hp} {Fin:List V->Hp->Prop}
theorem zfM (Pv:Nat->List V->St->Hp->Prop) (h0:Pv 0 [] σ₀ H) (hl:∀ i ys σ H,Pv i ys σ H->SqL K H a xs/\ys.length<=i) (hz:xs.length<=sizeLine)
   (hs:∀ i x ys σ H,i < xs.length->xs[i]?=some x->Pv i ys σ H->g x σ H λ σ2 H2=>tt σ2 H2 λ b H3=>if b=true then te σ2 H3 λ y H4=>Nx xs.length i (Pv (i+1) (ys++[y]) σ2 H4) else Nx xs.length i (Pv (i+1) ys σ2 H3))
   (hd:∀ ys σ H,Pv xs.length ys σ H->Fin ys H):ziH (Itl K a) g tt te σ₀ H Fin:=by
 refine ⟨λ i m ys σ H=>m=xs.length - i/\i<=xs.length/\Pv i ys σ H,⟨xs.length,by simp,Nat.zero_le _,h0⟩,?_⟩
 rintro i m ys σ H ⟨rfl,hi,p⟩
 obtain ⟨q,hy⟩:=hl i ys σ H p
 by_cases hlt:i < xs.length
 . refine .inr ⟨⟨xs,xs[i],q,by simp [hlt]⟩,by omega,λ x H' y=>?_⟩
   obtain ⟨e,y⟩:=y
   subst e
   exact hs i x ys σ _ hlt (y xs q) p
 . have e:i=xs.length:=by omega
   subst e
   exact .inl ⟨⟨xs,q,Nat.le_refl _⟩,hd ys σ H p⟩
theorem znr (Pv:Nat->List V->St->Hp->Prop) (h0:Pv 0 [] σ₀ H) (hl:∀ i ys σ H,Pv i ys σ H->SqT K H a xs/\ys.length<=i) (hz:xs.length<=sizeLine)
   (hs:∀ i x ys σ H,i < xs.length->xs[i]?=some x->Pv i ys σ H->g x σ H λ σ2 H2=>tt σ2 H2 λ b H3=>if b=true then te σ2 H3 λ y H4=>Nx xs.length i (Pv (i+1) (ys++[y]) σ2 H4) else Nx xs.length i (Pv (i+1) ys σ2 H3))
   (hd:∀ ys σ H,Pv xs.length ys σ H->Fin ys H):ziH (Itt K a) g tt te σ₀ H Fin:=by
 refine ⟨λ i m ys σ H=>m=xs.length - i/\i<=xs.length/\Pv i ys σ H,⟨xs.length,by simp,Nat.zero_le _,h0⟩,?_⟩
 rintro i m ys σ H ⟨rfl,hi,p⟩
 obtain ⟨q,hy⟩:=hl i ys σ H p
 by_cases hlt:i < xs.length
 . refine .inr ⟨⟨xs,xs[i],q,by simp [hlt]⟩,by omega,λ x H' y=>?_⟩
   obtain ⟨e,y⟩:=y
   subst e
   exact hs i x ys σ _ hlt (y xs q) p
 . have e:i=xs.length:=by omega
   subst e
   exact .inl ⟨⟨xs,q,Nat.le_refl _⟩,hd ys σ H p⟩
theorem zgo {lo:Int} {n:Nat} (Pv:Nat->List V->St->Hp->Prop) (h0:Pv 0 [] σ₀ H) (hl:∀ i ys σ H,Pv i ys σ H->ys.length<=i) (hz:n<=sizeLine)
   (hs:∀ i ys σ H,i < n->Pv i ys σ H->g (.int (lo+i)) σ H λ σ2 H2=>tt σ2 H2 λ b H3=>if b=true then te σ2 H3 λ y H4=>Nx n i (Pv (i+1) (ys++[y]) σ2 H4) else Nx n i (Pv (i+1) ys σ2 H3))
   (hd:∀ ys σ H,Pv n ys σ H->Fin ys H):ziH (Itr lo n) g tt te σ₀ H Fin:=by
 refine ⟨λ i m ys σ H=>m=n - i/\i<=n/\Pv i ys σ H,⟨n,by simp,Nat.zero_le _,h0⟩,?_⟩
 rintro i m ys σ H ⟨rfl,hi,p⟩
 have hy:=hl i ys σ H p
 by_cases hlt:i < n
 . refine .inr ⟨hlt,by omega,λ x H' y=>?_⟩
   obtain ⟨e,y⟩:=y
   subst e y
   exact hs i ys σ _ hlt p
 . have e:i=n:=by omega
   subst e
   exact .inl ⟨Nat.le_refl _,hd ys σ H p⟩
theorem zpK {o:Obj} {kvs:List (Key×V)} (Pv:Nat->List V->St->Hp->Prop) (h0:Pv 0 [] σ₀ H) (hl:∀ i ys σ H,Pv i ys σ H->H a=some (.frz o (.dK kvs))/\ys.length<=i) (hz:kvs.length<=sizeLine)
   (hs:∀ i k v ys σ H,i < kvs.length->kvs[i]?=some (k,v)->Pv i ys σ H->g (kV k) σ H λ σ2 H2=>tt σ2 H2 λ b H3=>if b=true then te σ2 H3 λ y H4=>Nx kvs.length i (Pv (i+1) (ys++[y]) σ2 H4) else Nx kvs.length i (Pv (i+1) ys σ2 H3))
   (hd:∀ ys σ H,Pv kvs.length ys σ H->Fin ys H):ziH (Itk a o kvs) g tt te σ₀ H Fin:=by
 refine ⟨λ i m ys σ H=>m=kvs.length - i/\i<=kvs.length/\Pv i ys σ H,⟨kvs.length,by simp,Nat.zero_le _,h0⟩,?_⟩
 rintro i m ys σ H ⟨rfl,hi,p⟩
 obtain ⟨q,hy⟩:=hl i ys σ H p
 by_cases hlt:i < kvs.length
 . refine .inr ⟨⟨hlt,q⟩,by omega,λ x H' y=>?_⟩
   obtain ⟨e,k,v,hk,ex⟩:=y
   subst e ex
   exact hs i k v ys σ _ hlt hk p
 . have e:i=kvs.length:=by omega
   subst e
   exact .inl ⟨⟨Nat.le_refl _,q⟩,hd ys σ H p⟩
end
end L2
end
section
namespace L2
open PySem
theorem Same.zas {H:Hp} {p:Addr} {o:HO} (n:H p=none):Same H (upd H p o):=λ b u e=>by rw [zae (zah e n)]; exact e
theorem Same.upd2 {H H':Hp} {p:Addr} {o:HO} (m:Same H H') (n:H' p=none):Same H (upd H' p o):=λ b u e=>by rw [zae (zah (m b u e) n)]; exact m b u e
theorem zav {H:Hp} {p q:Addr} {o u:HO} (e:H q=some u) (n:H p=none):upd H p o q=some u:=by rw [zae (zah e n)]; exact e
end L2
namespace TP
open PySem L2 TH
structure Ad where
 zdY:Addr
 zaA:Addr
 zci:Addr
 zaU:Addr
 zh3:Addr
 zcW:Addr
structure AdOk (A:Ad):Prop where
 wr:A.zdY≠A.zaA
 wd:A.zdY≠A.zci
 wh:A.zdY≠A.zaU
 rd:A.zaA≠A.zci
 rh:A.zaA≠A.zaU
 dh:A.zci≠A.zaU
def useS (w:Bool):Str:=if w then "writing" else "reading"
def stS:DS->Str
 | .zan => "going"
 | .waiting => "waiting"
 | .kept => "kept"
 | .dropped => "given up"
def actV (a:Act Str):List V:=[.str (if a.wr then "write" else "read"),.str a.key,.int a.val]
def rowV:Row Str->List V
 | .begin d=>[.str "begin",.int d]
 | .write d k b v=>[.str "write",.int d,.str k,.int b,.int v]
 | .keep d=>[.str "keep",.int d]
 | .drop d=>[.str "give up",.int d]
def zco (p:Nat×Bool):List V:=[.int p.1,.str (useS p.2)]
def TupAt (H:Hp) (v:V) (xs:List V):Prop:=∃ p,v=.ref p/\H p=some (.tup xs)
abbrev zap (H:Hp) (vs:List V) (xss:List (List V)):Prop:=Paired (TupAt H) vs xss
def zrl (a:Act Str):List (Str×V):=[("use",.str (useS a.wr)),("key",.str a.key),("value",if a.wr then .int a.val else .non)]
def zcv (A:Ad) (H:Hp) (v:V):Option (Act Str)->Prop
 | none=>v=.non
 | some a=>∃ p dx,v=.ref p/\H p=some (.ins A.zdY dx (zrl a))
def wantOf (D:Deed Str):Option (Act Str):=if D.st=.waiting then D.wish else none
def bkV (l:List (Str×Int)):List (Key×V):=l.map λ p=>(Sum.inr p.1,.int p.2)
structure za6 (l:List (Str×Int)) (b:Book Str):Prop where
 nd:(l.map (·.1)).Nodup
 mem:∀ k v,(k,v)∈l↔b k=some v
theorem zpN:∀ {l:List (Str×Int)} {k:Str},(l.map (·.1)).Nodup->valV (bkV l) (Sum.inr k)=(l.find? λ p=>decide (p.1=k)).map λ p=>V.int p.2
 | [],_,_=>rfl
 | p::r,k,nd=>by
  obtain ⟨_,nd'⟩:=List.nodup_cons.mp nd
  have ih:=zpN (l:=r) (k:=k) nd'
  unfold valV bkV at ih ⊢
  rw [List.map_cons,List.find?_cons,List.find?_cons]
  by_cases h:p.1=k
  . simp [h]
  . have h2:¬ (Sum.inr p.1:Key)=Sum.inr k:=λ z=>h (Sum.inr.inj z)
    simp only [h,h2,decide_false]
    exact ih
theorem za6.val {l:List (Str×Int)} {b:Book Str} (h:za6 l b) (k:Str):valV (bkV l) (Sum.inr k)=(b k).map V.int:=by
 rw [zpN h.nd]
 cases e:l.find? λ p=>decide (p.1=k) with
 | none =>
  cases e2:b k with
  | none=>rfl
  | some v =>
   have:=List.find?_eq_none.mp e _ ((h.mem k v).mpr e2)
   simp at this
 | some p =>
  have hm:=List.mem_of_find?_eq_some e
  have hk:p.1=k:=by simpa using List.find?_some e
  have:=(h.mem p.1 p.2).mp hm
  rw [hk] at this
  rw [this]; rfl
def zcc (h:List (Nat×Bool)):List (Key×V):=h.map λ p=>(Sum.inl (p.1:Int),.str (useS p.2))
inductive Role where
 | hall | recs | zbR | zcl | zc1 | order | rows | other
 | rcd (i:Nat) | did (i:Nat) | desk (k:Str) | held (k:Str) | row (k:Str)
 deriving DecidableEq
def zmc (ad:Role->Addr):List (Str×V) :=
 [("records",.ref (ad .recs)),("desks",.ref (ad .zbR)),("standing",.ref (ad .zcl)),("kept_values",.ref (ad .zc1)),("kept_deeds",.ref (ad .order)),("rows",.ref (ad .rows))]
def recF (st:DS) (did:Addr) (w:V):List (Str×V):=[("state",.str (stS st)),("did",.ref did),("want",w)]
def ziw (held row:Addr):List (Str×V):=[("held",.ref held),("row",.ref row)]
def At (A:Ad) (ad:Role->Addr) (s:HS Str) (kv:Book Str) (H:Hp):Role->HO->Prop
 | .hall,o=>∃ dx,o=.ins A.zaU dx (zmc ad)
 | .recs,o=>o=.lst ((List.range s.n).map λ i=>.ref (ad (.rcd i)))
 | .zbR,o=>o=.dK (s.seen.map λ k=>(Sum.inr k,.ref (ad (.desk k))))
 | .zcl,o=>∃ l,o=.dK (bkV l)/\za6 l s.book
 | .zc1,o=>∃ l,o=.dK (bkV l)/\za6 l kv
 | .order,o=>o=.lst (s.kept.map λ (d:Nat)=>V.int (d:Int))
 | .rows,o=>∃ vs,o=.lst vs/\zap H vs (s.log.map rowV)
 | .rcd i,o=>∃ dx w,o=.ins A.zaA dx (recF (s.deed i).st (ad (.did i)) w)/\zcv A H w (wantOf (s.deed i))
 | .did i,o=>∃ vs,o=.lst vs/\zap H vs ((s.deed i).done.map actV)
 | .desk k,o=>∃ dx,o=.ins A.zci dx (ziw (ad (.held k)) (ad (.row k)))
 | .held k,o=>o=.dK (zcc (s.held k))
 | .row k,o=>∃ vs,o=.lst vs/\zap H vs ((s.rows k).map zco)
 | .other,_=>False
def live (s:HS Str):Role->Prop
 | .rcd i=>i < s.n
 | .did i=>i < s.n
 | .desk k=>k∈s.seen
 | .held k=>k∈s.seen
 | .row k=>k∈s.seen
 | .other=>False
 | _=>True
structure zai (A:Ad) (ρ:Addr->Role) (ad:Role->Addr) (s:HS Str) (kv:Book Str) (H:Hp):Prop where
 at_:∀ r,live s r->∃ o,H (ad r)=some o/\At A ad s kv H r o
 ro:∀ r,live s r->ρ (ad r)=r
 fr:∀ b,H b=none->ρ b=.other
def Frame (ρ:Addr->Role) (H:Hp) (ρ':Addr->Role) (H':Hp):Prop:=∀ b o,H b=some o->ρ b=.other->H' b=some o/\ρ' b=.other
theorem Frame.refl {ρ:Addr->Role} {H:Hp}:Frame ρ H ρ H:=λ _ _ h r=>⟨h,r⟩
theorem Frame.trans {ρ ρ1 ρ2:Addr->Role} {H H1 H2:Hp} (a:Frame ρ H ρ1 H1) (b:Frame ρ1 H1 ρ2 H2):Frame ρ H ρ2 H2:=λ x o h r=>let ⟨h1,r1⟩:=a x o h r; b x o h1 r1
structure Imm (A:Ad) (H H':Hp):Prop where
 tup:∀ p xs,H p=some (.tup xs)->H' p=some (.tup xs)
 want:∀ p dx fs,H p=some (.ins A.zdY dx fs)->H' p=some (.ins A.zdY dx fs)
theorem Imm.of_same {A:Ad} {H H':Hp} (h:Same H H'):Imm A H H':=⟨λ p xs e=>h p _ e,λ p dx fs e=>h p _ e⟩
theorem zap.mono {A:Ad} {H H':Hp} (m:Imm A H H'):∀ {vs:List V} {xss:List (List V)},zap H vs xss->zap H' vs xss
 | _,_,.nil=>.nil
 | _,_,.cons ⟨p,e,q⟩ t=>.cons ⟨p,e,m.tup p _ q⟩ (zap.mono m t)
theorem zcv.mono {A:Ad} {H H':Hp} (m:Imm A H H') {v:V}:∀ {o:Option (Act Str)},zcv A H v o->zcv A H' v o
 | none,h=>h
 | some a,⟨p,dx,e,q⟩=>⟨p,dx,e,m.want p dx _ q⟩
section
variable {A:Ad} {ad:Role->Addr} {s:HS Str} {kv:Book Str} {H H':Hp}
theorem At.mono (m:Imm A H H') {r:Role} {o:HO} (h:At A ad s kv H r o):At A ad s kv H' r o:=by
 cases r with
 | rows=>obtain ⟨vs,e,t⟩:=h; exact ⟨vs,e,zap.mono m t⟩
 | did i=>obtain ⟨vs,e,t⟩:=h; exact ⟨vs,e,zap.mono m t⟩
 | row k=>obtain ⟨vs,e,t⟩:=h; exact ⟨vs,e,zap.mono m t⟩
 | rcd i=>obtain ⟨dx,w,e,t⟩:=h; exact ⟨dx,w,e,t.mono m⟩
 | _=>exact h
theorem At.mut (ok:AdOk A) {r:Role} {o:HO} (h:At A ad s kv H r o):(∀ xs,o≠.tup xs)/\∀ dx fs,o≠.ins A.zdY dx fs:=by
 cases r with
 | hall=>obtain ⟨dx,rfl⟩:=h; exact ⟨λ xs z=>(by cases z),λ dx fs z=>(by injection z with z; exact ok.wh z.symm)⟩
 | recs=>cases h; exact ⟨λ xs z=>(by cases z),λ dx fs z=>(by cases z)⟩
 | zbR=>cases h; exact ⟨λ xs z=>(by cases z),λ dx fs z=>(by cases z)⟩
 | zcl=>obtain ⟨l,rfl,_⟩:=h; exact ⟨λ xs z=>(by cases z),λ dx fs z=>(by cases z)⟩
 | zc1=>obtain ⟨l,rfl,_⟩:=h; exact ⟨λ xs z=>(by cases z),λ dx fs z=>(by cases z)⟩
 | order=>cases h; exact ⟨λ xs z=>(by cases z),λ dx fs z=>(by cases z)⟩
 | rows=>obtain ⟨l,rfl,_⟩:=h; exact ⟨λ xs z=>(by cases z),λ dx fs z=>(by cases z)⟩
 | rcd i=>obtain ⟨dx,w,rfl,_⟩:=h; exact ⟨λ xs z=>(by cases z),λ dx fs z=>(by injection z with z; exact ok.wr z.symm)⟩
 | did i=>obtain ⟨l,rfl,_⟩:=h; exact ⟨λ xs z=>(by cases z),λ dx fs z=>(by cases z)⟩
 | desk k=>obtain ⟨dx,rfl⟩:=h; exact ⟨λ xs z=>(by cases z),λ dx fs z=>(by injection z with z; exact ok.wd z.symm)⟩
 | held k=>cases h; exact ⟨λ xs z=>(by cases z),λ dx fs z=>(by cases z)⟩
 | row k=>obtain ⟨l,rfl,_⟩:=h; exact ⟨λ xs z=>(by cases z),λ dx fs z=>(by cases z)⟩
 | other=>exact h.elim
end
section
variable {A:Ad} {ρ:Addr->Role} {ad:Role->Addr} {s s':HS Str} {kv kv':Book Str} {H H':Hp}
theorem zai.ne (h:zai A ρ ad s kv H) {r r':Role} (a:live s r) (b:live s r') (n:r≠r'):ad r≠ad r':=λ e=>n (by rw [<-h.ro r a,<-h.ro r' b,e])
theorem zai.grow (h:zai A ρ ad s kv H) (m:Same H H'):zai A ρ ad s kv H' :=
 ⟨λ r l=>let ⟨o,e,a⟩:=h.at_ r l; ⟨o,m _ _ e,a.mono (.of_same m)⟩,h.ro,λ b e=>h.fr b (by
  cases q:H b with
  | none=>rfl
  | some o=>rw [m b o q] at e; cases e)⟩
theorem zl8 {s:HS Str} {r:Role} (l:live s r):r≠.other:=by rintro rfl; exact l
theorem Frame.grow {ρ:Addr->Role} (m:Same H H'):Frame ρ H ρ H':=λ b o e r=>⟨m b o e,r⟩
end
end TP
end
section
namespace TP
open PySem L2 TH
def sLt (a b:Str):Bool:=kLt (Sum.inr a) (Sum.inr b)
theorem zlP (a:Str):sLt a a=false:=zpe _
theorem zqZ {a b c:Str} (h:sLt a b=true) (g:sLt b c=true):sLt a c=true:=zq9 h g
theorem zrJ {a b:Str} (h:a≠b):sLt a b=true\/sLt b a=true :=
 zpd (ks:=[Sum.inr a,Sum.inr b]) (.inr λ k hk=>by
  rcases List.mem_cons.mp hk with z | z
  . exact ⟨a,z⟩
  . exact ⟨b,List.mem_singleton.mp z⟩) (by simp) (by simp) λ z=>h (Sum.inr.inj z)
abbrev zie (l:List Str):Prop:=l.Pairwise λ a b=>sLt a b=true
def ins (x:Str):List Str->List Str
 | []=>[x]
 | y::r=>if x=y then y::r else if sLt x y=true then x::y::r else y::ins x r
def ordS (l:List Str):List Str:=l.foldr ins []
theorem zl1 {x z:Str}:∀ {l:List Str},z∈ins x l↔z=x\/z∈l
 | []=>by simp [ins]
 | y::r=>by
  unfold ins
  split
  . rename_i h; subst h; simp
  . split
    . simp
    . rw [List.mem_cons,zl1 (l:=r),List.mem_cons]
      exact ⟨λ h=>h.elim (λ q=>.inr (.inl q)) (λ q=>q.elim .inl λ q=>.inr (.inr q)),λ h=>h.elim (λ q=>.inr (.inl q)) λ q=>q.elim .inl λ q=>.inr (.inr q)⟩
theorem ziZ {x:Str}:∀ {l:List Str},zie l->zie (ins x l)
 | [],_=>by simp [ins,zie]
 | y::r,h=>by
  obtain ⟨h1,h2⟩:=List.pairwise_cons.mp h
  unfold ins
  split
  . exact h
  . rename_i hne
    split
    . rename_i hlt
      exact List.pairwise_cons.mpr ⟨λ z hz=>by
        rcases List.mem_cons.mp hz with q | q
        . rw [q]; exact hlt
        . exact zqZ hlt (h1 z q),h⟩
    . rename_i hlt
      refine List.pairwise_cons.mpr ⟨λ z hz=>?_,ziZ h2⟩
      rcases zl1.mp hz with q | q
      . rw [q]; exact (zrJ hne).resolve_left hlt
      . exact h1 z q
theorem zaV {z:Str}:∀ {l:List Str},z∈ordS l↔z∈l
 | []=>by simp [ordS]
 | y::r=>by
  show z∈ins y (ordS r)↔_
  rw [zl1,zaV (l:=r),List.mem_cons]
theorem zbH:∀ l:List Str,zie (ordS l)
 | []=>List.Pairwise.nil
 | y::r=>ziZ (zbH r)
theorem zgy {l:List Str} (h:zie l):l.Nodup:=h.imp λ {a b} q z=>by subst z; rw [zlP] at q; cases q
theorem zew:∀ {a b:List Str},zie a->zie b->(∀ x,x∈a↔x∈b)->a=b
 | [],[],_,_,_=>rfl
 | [],y::r,_,_,h=>by have:=(h y).mpr List.mem_cons_self; cases this
 | x::r,[],_,_,h=>by have:=(h x).mp List.mem_cons_self; cases this
 | x::r,y::t,ha,hb,h=>by
  obtain ⟨a1,a2⟩:=List.pairwise_cons.mp ha
  obtain ⟨b1,b2⟩:=List.pairwise_cons.mp hb
  have e:x=y:=by
   rcases List.mem_cons.mp ((h x).mp List.mem_cons_self) with q | q
   . exact q
   . rcases List.mem_cons.mp ((h y).mpr List.mem_cons_self) with p | p
     . exact p.symm
     . have:=zqZ (b1 x q) (a1 y p)
       rw [zlP] at this; cases this
  subst e
  have nr:∀ {l:List Str},(∀ z∈l,sLt x z=true)->x∉l:=λ hl z=>by have:=hl x z; rw [zlP] at this; cases this
  refine congrArg _ (zew a2 b2 λ z=>?_)
  have hz:=h z
  rw [List.mem_cons,List.mem_cons] at hz
  exact ⟨λ q=>(hz.mp (.inr q)).resolve_left λ e=>nr a1 (e ▸ q),λ q=>(hz.mpr (.inr q)).resolve_left λ e=>nr b1 (e ▸ q)⟩
theorem zqo (l m:List Str) (h:∀ x∈m,x∈l):ordS m=(ordS l).filter λ k=>decide (k∈m) :=
 zew (zbH m) ((zbH l).filter _) λ x=>by
  rw [zaV,List.mem_filter,zaV,decide_eq_true_eq]
  exact ⟨λ q=>⟨h x q,q⟩,λ q=>q.2⟩
theorem zm9 (l:List Str) (m:List Str) (h:∀ x∈l,x∈m) (nd:m.Nodup):(ordS l).length<=m.length:=by
 have:∀ (a b:List Str),a.Nodup->(∀ x∈a,x∈b)->a.length<=b.length:=λ a=>by
  induction a with
  | nil=>intro b _ _; simp
  | cons x r ih =>
   intro b nd hs
   obtain ⟨n1,n2⟩:=List.nodup_cons.mp nd
   have hx:=hs x List.mem_cons_self
   have:=ih (b.erase x) n2 λ z hz=>(List.mem_erase_of_ne (show z≠x from λ e=>n1 (e ▸ hz))).mpr (hs z (List.mem_cons_of_mem _ hz))
   rw [List.length_erase_of_mem hx] at this
   have hpos:0 < b.length:=List.length_pos_of_mem hx
   simp only [List.length_cons]; omega
 exact this _ _ (zgy (zbH l)) λ x hx=>h x (zaV.mp hx)
theorem zhb {xs:List Str} {ys:List Key} (m:∀ k,k∈ys↔∃ x∈xs,k=Sum.inr x) (p:ys.Pairwise λ a b=>kLt a b=true):ys=(ordS xs).map Sum.inr:=by
 obtain ⟨zs,rfl⟩:∃ zs:List Str,ys=zs.map Sum.inr:=by
  clear p
  have:∀ l:List Key,(∀ k∈l,∃ x:Str,k=Sum.inr x)->∃ zs:List Str,l=zs.map Sum.inr:=λ l=>by
   induction l with
   | nil=>intro _; exact ⟨[],rfl⟩
   | cons k r ih =>
    intro h
    obtain ⟨x,rfl⟩:=h k List.mem_cons_self
    obtain ⟨zs,rfl⟩:=ih λ k hk=>h k (List.mem_cons_of_mem _ hk)
    exact ⟨x::zs,rfl⟩
  exact this ys λ k hk=>let ⟨x,_,e⟩:=(m k).mp hk; ⟨x,e⟩
 congr 1
 refine zew (List.pairwise_map.mp p) (zbH xs) λ x=>?_
 rw [zaV]
 have:=m (Sum.inr x)
 rw [List.mem_map] at this
 exact ⟨λ h=>by
  obtain ⟨y,hy,e⟩:=this.mp ⟨x,h,rfl⟩
  rw [Sum.inr.inj e]; exact hy,λ h=>by
  obtain ⟨y,hy,e⟩:=this.mpr ⟨x,h,rfl⟩
  rw [<-Sum.inr.inj e]; exact hy⟩
end TP
end
section
namespace L2
open PySem PySem.Spec PyProof.Rows
theorem Fun.okN {P:Program} {w:World} {K:PySem.W.Frag} {mg:Str->Option Value} {base:Heap} {x qual:Str} {st:Stmt} {f:Addr} {fd:FuncData} {N ps:List Str} {k:Nat} {sp:Sp} (F:Fun K x qual st f fd) (S:zar N ps (zak st)) (len:∀ vs H Q E,sp vs H Q E->vs.length=ps.length)
  (hbody:∀ (cdv:Value) (A:Around) (outer:List Env) (s:Shared) (H:Hp) (vs:List V) (Q:VK) (E:XK),Room k (A.deeper (envOfC qual (zak st) s.heap.objs.size f cdv))->sp vs H Q E ->
   ∃ t,PSs (cxOf (CX1 P w) P w K mg base N qual (zak st) f cdv A outer s H E).nox (zhX st) t/\t { nx:=λ _ H'=>Q .non H',rt:=Q } (start N vs) H):FnOk P w K mg base (CX1 P w) (k+1) f fd ps sp:=by
 refine F.okX S len λ cdv A outer s H vs Q E hr hsp=>?_
 obtain ⟨t,h,q⟩:=hbody cdv A outer s H vs Q E hr hsp
 exact ⟨t,h.nox,q⟩
section
variable {X:Cx} {K:PySem.W.Frag}
theorem zoK (hK:X.K=K) {es:List Expr} {k:Nat} {t:TGs} {n:Nat} {pos:Pos} (hc:X.calm=true) (h:PGs X es t)
  (hn:(assignEach es X.env).length=n:=by rfl) (hst:(assignEach es X.env).findIdx? (·.1)=none:=by rfl):PG X (.Tuple es k pos) (gTup K n t):=by
 subst hK; exact zm2 hc h hn hst
theorem zrP (hK:X.K=K) {e:Expr} {f:Str} {ta:TE} {pos:Pos} (he:PE X e ta) (hb:attributeBase e f X.env (eval e X.env)=eval e X.env):PE X (.Attribute e f pos) (tFld K ta f):=by
 subst hK; exact zao he hb
theorem zpf (hK:X.K=K):IxR X (rIxT K):=by subst hK; exact zbj
end
theorem zsR {X:Cx} {x:Str} {pos:Pos} {n:String} (hg:Gl X x) (hm:X.mg x=none) (hv:bootBuiltins x=some (.type n)) (hn:x ≠ "__name__" := by decide) (hd:(x == ("__debug__" : Str))=false:=by decide):PE X (.Name x pos) (tC (.ty n)):=zrQ (v:=.ty n) hg hm hv rfl hn hd
end L2
namespace TP
open PySem L2 TH
theorem zpC (xs:List Str):(S6.deds (xs.map (Sum.inr:Str->Key))).Perm ((ordS xs).map Sum.inr):=by
 refine (List.perm_ext_iff_of_nodup (S6.zpD _) ?_).mpr λ k=>?_
 . exact (zgy (zbH xs)).map _ λ a b h e=>h (Sum.inr.inj e)
 . rw [S6.zjE,List.mem_map,List.mem_map]
   exact ⟨λ ⟨x,h,e⟩=>⟨x,zaV.mpr h,e⟩,λ ⟨x,h,e⟩=>⟨x,zaV.mp h,e⟩⟩
theorem zkc (xs:List Str):zqW (xs.map (Sum.inr:Str->Key)):=λ k hk=>by
 obtain ⟨x,_,e⟩:=List.mem_map.mp hk
 exact ⟨x,e.symm⟩
theorem zq6 (xs:List Str):(xs.map (Sum.inr:Str->Key)).map kV=xs.map V.str:=by rw [List.map_map]; rfl
def zow:Sp:=λ vs H Q _=>∃ i:Int,vs=[.int i]/\Q (.bl true) H
def zgx (K:PySem.W.Frag):Sp:=λ vs H Q _=>∃ (p:Addr) (xs:List Str),vs=[.ref p]/\SSrc K H p (xs.map Sum.inr)/\xs.length < 4000/\(ordS xs).length < 64 /\
 ∀ H' q,H q=none->Same H H'->H' q=some (.tup ((ordS xs).map V.str))->Q (.ref q) H'
def zki:Sp:=λ vs H Q _=>∃ (p:Addr) (k:Str) (l:List (Str×Int)) (b:Book Str),vs=[.ref p,.str k]/\H p=some (.dK (bkV l))/\za6 l b/\Q (.int ((b k).getD 0)) H
def zml (ks:List Str) (b:Book Str):List (List V):=(ordS ks).map λ k=>[V.str k,V.int ((b k).getD 0)]
def zjf:Sp:=λ vs H Q _=>∃ (p:Addr) (l:List (Str×Int)) (b:Book Str),vs=[.ref p]/\H p=some (.dK (bkV l))/\za6 l b/\l.length<=4 /\
 ∀ H' q us,Same H H'->H' q=some (.tup us)->zap H' us (zml (l.map (·.1)) b)->Q (.ref q) H'
def zcw (H:Hp) (p:Addr) (H':Hp):Prop:=∀ b o,H b=some o->b≠p->H' b=some o
def znB (A:Ad):Sp:=λ vs H Q _=>∃ (p dx:Addr) (w:Bool) (k:Str) (v:V),vs=[.ref p,.str (useS w),.str k,v]/\H p=some (.ins A.zdY dx []) /\
 ∀ H',H' p=some (.ins A.zdY dx [("use",.str (useS w)),("key",.str k),("value",v)])->zcw H p H'->Q .non H'
def zkj (A:Ad):Sp:=λ vs H Q _=>∃ (p dx:Addr),vs=[.ref p]/\H p=some (.ins A.zaA dx []) /\
 ∀ H' d,H d=none->H' p=some (.ins A.zaA dx (recF .zan d .non))->H' d=some (.lst [])->zcw H p H'->Q .non H'
def zox (A:Ad):Sp:=λ vs H Q _=>∃ (p dx d:Addr) (st:DS) (w:V),vs=[.ref p]/\H p=some (.ins A.zaA dx (recF st d w))/\Q (.bl (decide (st=.kept\/st=.dropped))) H
def ziG (p:Str×Int):List V:=[.str p.1,.int p.2]
structure RecAt (A:Ad) (H:Hp) (p:Addr) (st:DS) (d:Addr) (w:V) (done:List (Act Str)):Prop where
 ob:∃ dx,H p=some (.ins A.zaA dx (recF st d w))
 did:∃ us,H d=some (.lst us)/\zap H us (done.map actV)
def zot (A:Ad):Sp:=λ vs H Q _=>∃ p st d w done,vs=[.ref p]/\RecAt A H p st d w done/\done.length < 3000 /\
 ∀ H' q us,Same H H'->H' q=some (.lst us)->zap H' us ((zat done).map ziG)->Q (.ref q) H'
def zc3:Option (Act Str)->List Str
 | none=>[]
 | some a=>[a.key]
def zou (A:Ad):Sp:=λ vs H Q _=>∃ p st d w done o,vs=[.ref p]/\RecAt A H p st d w done/\zcv A H w o/\done.length < 3000/\(ordS (done.map (·.key)++zc3 o)).length < 64 /\
 ∀ H' q,H q=none->Same H H'->H' q=some (.tup ((ordS (done.map (·.key)++zc3 o)).map V.str))->Q (.ref q) H'
end TP
end
section
namespace TP
open PySem L2 TH
theorem zcT {a b:Nat}:((Sum.inl (a:Int):Key)=Sum.inl (b:Int))↔a=b:=⟨λ h=>by have:=Sum.inl.inj h; omega,λ h=>by rw [h]⟩
theorem zfF (h:List (Nat×Bool)) (d:Nat):valV (zcc h) (Sum.inl (d:Int))=(look h d).map λ w=>V.str (useS w):=by
 unfold zcc look
 induction h with
 | nil=>rfl
 | cons p r ih =>
  rw [List.map_cons]
  by_cases e:p.1=d
  . rw [zby (zcT.mpr e)]; simp [List.find?_cons,e]
  . rw [zbz λ z=>e (zcT.mp z),ih]; simp [List.find?_cons,e]
theorem zqG (h:List (Nat×Bool)) (d:Nat):((zcc h).any λ kv=>decide (kv.1=(Sum.inl (d:Int):Key)))=h.any λ p=>p.1 == d:=by
 unfold zcc
 rw [List.any_map]
 congr 1
 funext p
 show decide ((Sum.inl (p.1:Int):Key)=Sum.inl (d:Int))=(p.1 == d)
 rw [Bool.eq_iff_iff]
 simp only [decide_eq_true_eq,beq_iff_eq]
 exact zcT
theorem zqF (h:List (Nat×Bool)) (d:Nat) (w:Bool):putK (zcc h) (Sum.inl (d:Int)) (V.str (useS w))=zcc (zbf h d w):=by
 unfold putK zbf
 rw [zqG]
 split
 . unfold zcc
   rw [List.map_map,List.map_map]
   refine List.map_congr_left λ p hp=>?_
   show (if (Sum.inl (p.1:Int):Key)=Sum.inl (d:Int) then ((Sum.inl (p.1:Int):Key),V.str (useS w)) else ((Sum.inl (p.1:Int):Key),V.str (useS p.2)))=((Sum.inl (((if (p.1 == d)=true then (d,w) else p).1:Nat):Int):Key),V.str (useS (if (p.1 == d)=true then (d,w) else p).2))
   by_cases e:p.1=d
   . rw [if_pos (zcT.mpr e),if_pos (by simpa using e)]; simp [e]
   . rw [if_neg λ z=>e (zcT.mp z),if_neg (by simpa using e)]
 . unfold zcc; rw [List.map_append]; rfl
theorem zpl (h:List (Nat×Bool)) (d:Nat):ziu (zcc h) (Sum.inl (d:Int))=zcc (less h d):=by
 unfold ziu less zcc
 rw [List.filter_map]
 congr 1
 refine List.filter_congr λ p _=>?_
 show decide ((Sum.inl (p.1:Int):Key)≠Sum.inl (d:Int))=(p.1 != d)
 rw [Bool.eq_iff_iff]
 simp only [decide_eq_true_eq,bne_iff_ne]
 exact not_congr zcT
theorem less_none {h:List (Nat×Bool)} {d:Nat} (e:look h d=none):less h d=h:=by
 unfold less
 refine List.filter_eq_self.mpr λ p hp=>?_
 unfold look at e
 rw [Option.map_eq_none_iff,List.find?_eq_none] at e
 simpa using e p hp
theorem zhR (h:List (Nat×Bool)):(zcc h).length=h.length:=by unfold zcc; rw [List.length_map]
theorem zh6 (l:List (Str×Int)):(bkV l).length=l.length:=by unfold bkV; rw [List.length_map]
def bput (l:List (Str×Int)) (k:Str) (v:Int):List (Str×Int):=if (l.any λ p=>decide (p.1=k))=true then l.map (λ p=>if p.1=k then (p.1,v) else p) else l++[(k,v)]
theorem zsa (l:List (Str×Int)) (k:Str):((bkV l).any λ kv=>decide (kv.1=(Sum.inr k:Key)))=l.any λ p=>decide (p.1=k):=by
 unfold bkV
 rw [List.any_map]
 congr 1
 funext p
 show decide ((Sum.inr p.1:Key)=Sum.inr k)=decide (p.1=k)
 exact zq7 _ _
theorem zjU (l:List (Str×Int)) (k:Str) (v:Int):putK (bkV l) (Sum.inr k) (V.int v)=bkV (bput l k v):=by
 unfold putK bput
 rw [zsa]
 split
 . unfold bkV
   rw [List.map_map,List.map_map]
   refine List.map_congr_left λ p hp=>?_
   show (if (Sum.inr p.1:Key)=Sum.inr k then ((Sum.inr p.1:Key),V.int v) else ((Sum.inr p.1:Key),V.int p.2))=((Sum.inr (if p.1=k then (p.1,v) else p).1:Key),V.int (if p.1=k then (p.1,v) else p).2)
   by_cases e:p.1=k
   . rw [if_pos (congrArg Sum.inr e),if_pos e]
   . rw [if_neg λ z=>e (Sum.inr.inj z),if_neg e]
 . unfold bkV; rw [List.map_append]; rfl
def zqR (l:List (Str×Int)) (k:Str):List (Str×Int):=l.filter λ p=>decide (p.1≠k)
theorem zqQ (l:List (Str×Int)) (k:Str):ziu (bkV l) (Sum.inr k)=bkV (zqR l k):=by
 unfold ziu zqR bkV
 rw [List.filter_map]
 congr 1
 refine List.filter_congr λ p _=>?_
 show decide ((Sum.inr p.1:Key)≠Sum.inr k)=decide (p.1≠k)
 rw [Bool.eq_iff_iff]
 simp only [decide_eq_true_eq]
 exact not_congr ⟨λ z=>Sum.inr.inj z,λ z=>by rw [z]⟩
theorem za6.has {l:List (Str×Int)} {b:Book Str} (h:za6 l b) (k:Str):(l.any λ p=>decide (p.1=k))=(b k).isSome:=by
 cases e:b k with
 | none =>
  refine List.any_eq_false.mpr λ p hp z=>?_
  have hk:p.1=k:=by simpa using z
  have:=(h.mem p.1 p.2).mp hp
  rw [hk,e] at this; cases this
 | some v=>exact List.any_eq_true.mpr ⟨(k,v),(h.mem k v).mpr e,by simp⟩
theorem za6.put {l:List (Str×Int)} {b:Book Str} (h:za6 l b) (k:Str) (v:Int):za6 (bput l k v) (up b k (some v)):=by
 unfold bput
 rw [h.has k]
 cases e:b k with
 | none =>
  simp only [Option.isSome_none,Bool.false_eq_true,if_false]
  have hn:∀ p∈l,p.1≠k:=λ p hp z=>by
    have:=(h.mem p.1 p.2).mp hp
    rw [z,e] at this; cases this
  refine ⟨?_,λ k' v'=>?_⟩
  . rw [List.map_append]
    refine List.nodup_append.mpr ⟨h.nd,by simp,λ a ha c hc=>?_⟩
    obtain ⟨p,hp,rfl⟩:=List.mem_map.mp ha
    rw [List.mem_singleton.mp hc]; exact hn p hp
  . rw [List.mem_append,List.mem_singleton]
    by_cases hk:k'=k
    . subst hk
      rw [zag]
      exact ⟨λ z=>z.elim (λ q=>absurd rfl (hn _ q)) λ q=>by cases q; rfl,λ z=>.inr (by cases z; rfl)⟩
    . rw [zam hk,<-h.mem]
      exact ⟨λ z=>z.elim id λ q=>absurd (by cases q; rfl) hk,.inl⟩
 | some v0 =>
  simp only [Option.isSome_some,if_true]
  have hk1:(l.map λ p=>if p.1=k then (p.1,v) else p).map (·.1)=l.map (·.1):=by
    rw [List.map_map]
    refine List.map_congr_left λ p _=>?_
    show (if p.1=k then (p.1,v) else p).1=p.1
    split <;> rfl
  refine ⟨by rw [hk1]; exact h.nd,λ k' v'=>?_⟩
  rw [List.mem_map]
  by_cases hk:k'=k
  . subst hk
    rw [zag]
    refine ⟨λ ⟨p,hp,q⟩=>?_,λ z=>?_⟩
    . by_cases hpk:p.1=k'
      . rw [if_pos hpk] at q; cases q; rfl
      . rw [if_neg hpk] at q; subst q; exact absurd rfl hpk
    . cases z
      exact ⟨(k',v0),(h.mem _ _).mpr e,by simp⟩
  . rw [zam hk,<-h.mem]
    refine ⟨λ ⟨p,hp,q⟩=>?_,λ z=>⟨(k',v'),z,by rw [if_neg hk]⟩⟩
    by_cases hpk:p.1=k
    . rw [if_pos hpk] at q; cases q; exact absurd hpk hk
    . rw [if_neg hpk] at q; subst q; exact hp
theorem za6.drop {l:List (Str×Int)} {b:Book Str} (h:za6 l b) (k:Str):za6 (zqR l k) (up b k none):=by
 unfold zqR
 refine ⟨?_,λ k' v'=>?_⟩
 . exact h.nd.sublist (List.filter_sublist.map _)
 . rw [List.mem_filter]
   by_cases hk:k'=k
   . subst hk; rw [zag]; simp
   . rw [zam hk,<-h.mem]; simp [hk]
theorem za6.zpz {l:List (Str×Int)} {b:Book Str} (h:za6 l b) {k:Str} (e:b k=none):za6 l (up b k none):=by
 have:up b k none=b:=by
  funext x; by_cases hx:x=k
  . subst hx; rw [zag,e]
  . rw [zam hx]
 rw [this]; exact h
theorem za6.len {l:List (Str×Int)} {b:Book Str} (h:za6 l b) {ks:List Str} (nd:ks.Nodup) (hk:∀ k,b k≠none->k∈ks):l.length<=ks.length:=by
 have:∀ (a c:List Str),a.Nodup->(∀ x∈a,x∈c)->a.length<=c.length:=λ a=>by
  induction a with
  | nil=>intro c _ _; simp
  | cons x r ih =>
   intro c nd hs
   obtain ⟨n1,n2⟩:=List.nodup_cons.mp nd
   have hx:=hs x List.mem_cons_self
   have:=ih (c.erase x) n2 λ z hz=>(List.mem_erase_of_ne (show z≠x from λ e=>n1 (e ▸ hz))).mpr (hs z (List.mem_cons_of_mem _ hz))
   rw [List.length_erase_of_mem hx] at this
   have hpos:0 < c.length:=List.length_pos_of_mem hx
   simp only [List.length_cons]; omega
 have:=this (l.map (·.1)) ks h.nd λ x hx=>by
  obtain ⟨p,hp,rfl⟩:=List.mem_map.mp hx
  exact hk p.1 (by rw [(h.mem p.1 p.2).mp hp]; exact λ z=>nomatch z)
 rwa [List.length_map] at this
def zdO (ad:Role->Addr) (seen:List Str):List (Key×V):=seen.map λ k=>(Sum.inr k,.ref (ad (.desk k)))
theorem zeq (ad:Role->Addr) (k:Str):∀ seen:List Str,valV (zdO ad seen) (Sum.inr k)=if k∈seen then some (.ref (ad (.desk k))) else none
 | []=>rfl
 | x::r=>by
  unfold zdO
  rw [List.map_cons]
  by_cases e:x=k
  . subst e; rw [zby rfl]; simp
  . rw [zbz λ z=>e (Sum.inr.inj z)]
    have:=zeq ad k r
    unfold zdO at this
    rw [this]
    have:(k∈x::r)↔k∈r:=by rw [List.mem_cons]; exact ⟨λ z=>z.resolve_left λ q=>e q.symm,.inr⟩
    by_cases hk:k∈r
    . rw [if_pos hk,if_pos (this.mpr hk)]
    . rw [if_neg hk,if_neg λ z=>hk (this.mp z)]
theorem zcE {H:Hp} {us:List V} {xss:List (List V)} (t:zap H us xss) {i:Nat} {x:V} (h:us[i]?=some x):∃ y,xss[i]?=some y/\TupAt H x y:=S6.zjt t h
theorem zd1 {H:Hp}:∀ {us:List V} {xss:List (List V)},zap H us xss->∀ {i:Nat} {y:List V},xss[i]?=some y->∃ x,us[i]?=some x/\TupAt H x y
 | _,_,.nil,_,_,h=>by simp at h
 | _,_,.cons r _,0,_,h=>by simp at h; subst h; exact ⟨_,rfl,r⟩
 | _,_,.cons _ t,i+1,_,h=>by
  obtain ⟨x,h1,h2⟩:=zd1 t (i:=i) (by simpa using h)
  exact ⟨x,by simpa using h1,h2⟩
theorem zbr {H H':Hp} (m:Same H H') {us:List V} {xss:List (List V)} (t:zap H us xss):zap H' us xss:=by
 induction t with
 | nil=>exact .nil
 | cons r _ ih=>obtain ⟨p,e,q⟩:=r; exact .cons ⟨p,e,m p _ q⟩ ih
theorem zrm {H:Hp} {a q:Addr} {x o y:HO} (e:H a=some y) (hq:H q=none):upd (upd (upd H a x) q o) a y=upd H q o:=by
 funext b
 by_cases hb:b=a
 . subst hb; rw [zab,zae (zah e hq)]; exact e.symm
 . rw [zae hb]
   by_cases hbq:b=q
   . subst hbq; rw [zab,zab]
   . rw [zae hbq,zae hb,zae hbq]
end TP
end
section
namespace TP
open PySem L2 TH
structure zdT (A:Ad) (H:Hp) (p hd rw:Addr) (h r:List (Nat×Bool)):Prop where
 ob:∃ dx,H p=some (.ins A.zci dx (ziw hd rw))
 hd:H hd=some (.dK (zcc h))
 rw:∃ us,H rw=some (.lst us)/\zap H us (r.map zco)
def znH (A:Ad):Sp:=λ vs H Q _=>∃ (p dx:Addr),vs=[.ref p]/\H p=some (.ins A.zci dx []) /\
 ∀ H' hd rw,H hd=none->H rw=none->H' p=some (.ins A.zci dx (ziw hd rw))->H' hd=some (.dK [])->H' rw=some (.lst [])->zcw H p H'->Q .non H'
def zaC (l:List Nat):List V:=l.map λ (n:Nat)=>V.int (n:Int)
def zlE (A:Ad):Sp:=λ vs H Q _=>∃ (p hd rw:Addr) (h r:List (Nat×Bool)) (d:Nat) (w:Bool),vs=[.ref p,.int d,.str (useS w)]/\zdT A H p hd rw h r/\h.length<=1000/\(h.map (·.1)).Nodup /\
 ∀ H' q,H q=none->Same H H'->H' q=some (.lst (zaC (hind h d w)))->Q (.ref q) H'
def zmV (A:Ad):Sp:=λ vs H Q _=>∃ (p hd rw:Addr) (h r:List (Nat×Bool)) (d:Nat) (w:Bool),vs=[.ref p,.int d,.str (useS w)]/\zdT A H p hd rw h r/\h.length<=1000/\(h.map (·.1)).Nodup /\
 ∀ H',Same H H'->Q (.bl (lets h d w)) H'
def zkl (A:Ad):Sp:=λ vs H Q _=>∃ (p hd rw:Addr) (h r:List (Nat×Bool)) (d:Nat) (w:Bool),vs=[.ref p,.int d,.str (useS w)]/\zdT A H p hd rw h r/\h.length<=1000/\(h.map (·.1)).Nodup /\
 ∀ H',Same H H'->Q (.bl ((has h d || r.isEmpty) && lets h d w)) H'
def zo5 (h:List (Nat×Bool)):List (Nat×Bool)->Bool
 | []=>false
 | (d,w)::_=>lets h d w
def zlD (A:Ad):Sp:=λ vs H Q _=>∃ (p hd rw:Addr) (h r:List (Nat×Bool)),vs=[.ref p]/\zdT A H p hd rw h r/\h.length<=1000/\(h.map (·.1)).Nodup /\
 ∀ H',Same H H'->Q (.bl (zo5 h r)) H'
def zsu (A:Ad):Sp:=λ vs H Q _=>∃ (p hd rw:Addr) (h r:List (Nat×Bool)) (d:Nat) (w:Bool),vs=[.ref p,.int d,.str (useS w)]/\zdT A H p hd rw h r/\h.length<=1000/\(h.map (·.1)).Nodup /\
 ∀ H',H' hd=some (.dK (zcc (take1 h d w)))->zcw H hd H'->Q .non H'
def zqy (h r:List (Nat×Bool)) (d:Nat) (w:Bool):List (Nat×Bool):=if has h d then (d,w)::r else r++[(d,w)]
def zp6 (A:Ad):Sp:=λ vs H Q _=>∃ (p hd rw:Addr) (h r:List (Nat×Bool)) (d:Nat) (w:Bool),vs=[.ref p,.int d,.str (useS w)]/\zdT A H p hd rw h r/\r.length<=1000 /\
 ∀ H' us,H' rw=some (.lst us)->zap H' us ((zqy h r d w).map zco)->zcw H rw H'->Q .non H'
def zrz (A:Ad):Sp:=λ vs H Q _=>∃ (p hd rw dx:Addr) (h r:List (Nat×Bool)) (d:Nat),vs=[.ref p,.int d]/\zdT A H p hd rw h r/\H p=some (.ins A.zci dx (ziw hd rw))/\r.length<=1000 /\
 ∀ H' rw' us,H rw'=none->H' p=some (.ins A.zci dx (ziw hd rw'))->H' hd=some (.dK (zcc (less h d)))->H' rw'=some (.lst us)->zap H' us ((less r d).map zco)->(∀ b o,H b=some o->b≠p->b≠hd->H' b=some o)->Q .non H'
def zkk (A:Ad):Sp:=λ vs H Q _=>∃ (p hd rw:Addr) (h r:List (Nat×Bool)) (d:Nat) (w:Bool),vs=[.ref p,.int d,.str (useS w)]/\zdT A H p hd rw h r/\h.length<=1000/\(h.map (·.1)).Nodup/\r.length<=1000/\(d,w)∈r/\(r.map (·.1)).Nodup /\
 ∀ H' q,H q=none->Same H H'->H' q=some (.lst (zaC (zjz h r d w)))->Q (.ref q) H'
theorem zdu {c:Bool} {A B:Prop} (b:Bool) (h:c=b) (k:if b=true then A else B):if c=true then A else B:=by rw [h]; exact k
theorem zbx {c:Bool} {A B:Prop} (h:c=true) (k:A):if c=true then A else B:=by rw [if_pos h]; exact k
theorem zaW {c:Bool} {A B:Prop} (h:c=false) (k:B):if c=true then A else B:=by rw [if_neg (by rw [h]; exact Bool.false_ne_true)]; exact k
theorem zpx (a b:Nat):decide (V.int (a:Int)=V.int (b:Int))=(a == b):=by
 rw [Bool.eq_iff_iff,decide_eq_true_eq,beq_iff_eq]
 exact ⟨λ h=>by have:=V.int.inj h; omega,λ h=>by rw [h]⟩
theorem zq4 (a b:Nat):(!decide (V.int (a:Int)=V.int (b:Int)))=(a != b):=by rw [zpx]; rfl
theorem zkY (h:List (Nat×Bool)) (d:Nat):(look h d).isSome=has h d:=by
 unfold look has
 rw [Option.isSome_map]
 induction h with
 | nil=>rfl
 | cons p r ih =>
  rw [List.find?_cons,List.any_cons]
  cases e:(p.1 == d) with
  | true=>rfl
  | false=>rw [Bool.false_or]; exact ih
theorem zp0 {a b:Bool}:(V.str (useS a)=V.str (useS b))↔a=b:=by
 refine ⟨λ h=>?_,λ h=>by rw [h]⟩
 have e:=V.str.inj h
 cases a <;> cases b <;> first | rfl | exact absurd e (by decide +kernel)
theorem zg7 (w:Bool):decide (V.str (useS w)=V.str "writing")=w:=by
 have:=zp0 (a:=w) (b:=true)
 cases w with
 | true=>exact decide_eq_true rfl
 | false=>exact decide_eq_false λ z=>by cases this.mp z
theorem zdT.same {A:Ad} {H H':Hp} {p hd rw:Addr} {h r:List (Nat×Bool)} (D:zdT A H p hd rw h r) (m:Same H H'):zdT A H' p hd rw h r:=by
 obtain ⟨⟨dx,e⟩,e2,us,e3,t⟩:=D
 exact ⟨⟨dx,m _ _ e⟩,m _ _ e2,us,m _ _ e3,zbr m t⟩
theorem zpj (h:List (Nat×Bool)) (d:Nat) (w:Bool):decide ((hind h d w).length=0)=lets h d w:=by
 unfold hind lets
 rw [List.length_map]
 rw [Bool.eq_iff_iff,decide_eq_true_eq,List.length_eq_zero_iff,List.filter_eq_nil_iff,List.all_eq_true]
 refine forall_congr' λ p=>forall_congr' λ _=>?_
 cases w <;> cases p.2 <;> simp
end TP
namespace TP
open PySem L2 TH
theorem zm7 {H:Hp}:∀ {us:List V} {r:List (Nat×Bool)},zap H us (r.map zco)->DVs H us (r.map λ p=>PySem.W.Dat.tuple [.int p.1,.str (useS p.2)])
 | [],[],_=>.nil
 | _::_,_::_,.cons ⟨p,e,q⟩ t=>by subst e; exact .cons (.tup q (.cons (.int _) (.cons (.str _) .nil))) (zm7 t)
theorem zsf (w:Bool):PyData.strOk (useS w)=true:=by cases w <;> decide +kernel
theorem zoQ (i:Int) (w:Bool):PySem.W.kqdOk 7 (.tuple [.int i,.str (useS w)])=true:=by
 simp only [PySem.W.kqdOk,List.all_cons,List.all_nil,zsf,Bool.and_self]
end TP
end
section
namespace TP
open PySem L2 TH
section
variable {A:Ad} {ρ:Addr->Role} {ad:Role->Addr} {s s':HS Str} {kv kv':Book Str} {H H':Hp}
theorem zai.hall (h:zai A ρ ad s kv H):∃ dx,H (ad .hall)=some (.ins A.zaU dx (zmc ad)):=by
 obtain ⟨o,e,dx,rfl⟩:=h.at_ .hall trivial; exact ⟨dx,e⟩
theorem zai.recs (h:zai A ρ ad s kv H):H (ad .recs)=some (.lst ((List.range s.n).map λ i=>.ref (ad (.rcd i)))):=by
 obtain ⟨o,e,r⟩:=h.at_ .recs trivial; rw [e]; exact congrArg some r
theorem zai.zbR (h:zai A ρ ad s kv H):H (ad .zbR)=some (.dK (zdO ad s.seen)):=by
 obtain ⟨o,e,r⟩:=h.at_ .zbR trivial; rw [e]; exact congrArg some r
theorem zai.zcl (h:zai A ρ ad s kv H):∃ l,H (ad .zcl)=some (.dK (bkV l))/\za6 l s.book:=by
 obtain ⟨o,e,l,rfl,b⟩:=h.at_ .zcl trivial; exact ⟨l,e,b⟩
theorem zai.zc1 (h:zai A ρ ad s kv H):∃ l,H (ad .zc1)=some (.dK (bkV l))/\za6 l kv:=by
 obtain ⟨o,e,l,rfl,b⟩:=h.at_ .zc1 trivial; exact ⟨l,e,b⟩
theorem zai.order (h:zai A ρ ad s kv H):H (ad .order)=some (.lst (zaC s.kept)):=by
 obtain ⟨o,e,r⟩:=h.at_ .order trivial; rw [e]; exact congrArg some r
theorem zai.rows (h:zai A ρ ad s kv H):∃ us,H (ad .rows)=some (.lst us)/\zap H us (s.log.map rowV):=by
 obtain ⟨o,e,us,rfl,t⟩:=h.at_ .rows trivial; exact ⟨us,e,t⟩
theorem zai.rcd (h:zai A ρ ad s kv H) {i:Nat} (hi:i < s.n):∃ dx w,H (ad (.rcd i))=some (.ins A.zaA dx (recF (s.deed i).st (ad (.did i)) w))/\zcv A H w (wantOf (s.deed i)):=by
 obtain ⟨o,e,dx,w,rfl,t⟩:=h.at_ (.rcd i) hi; exact ⟨dx,w,e,t⟩
theorem zai.did (h:zai A ρ ad s kv H) {i:Nat} (hi:i < s.n):∃ us,H (ad (.did i))=some (.lst us)/\zap H us ((s.deed i).done.map actV):=by
 obtain ⟨o,e,us,rfl,t⟩:=h.at_ (.did i) hi; exact ⟨us,e,t⟩
theorem zai.recAt (h:zai A ρ ad s kv H) {i:Nat} (hi:i < s.n):∃ w,RecAt A H (ad (.rcd i)) (s.deed i).st (ad (.did i)) w (s.deed i).done/\zcv A H w (wantOf (s.deed i)):=by
 obtain ⟨dx,w,e,t⟩:=h.rcd hi
 exact ⟨w,⟨⟨dx,e⟩,h.did hi⟩,t⟩
theorem zai.desk (h:zai A ρ ad s kv H) {k:Str} (hk:k∈s.seen):zdT A H (ad (.desk k)) (ad (.held k)) (ad (.row k)) (s.held k) (s.rows k):=by
 obtain ⟨o,e,dx,rfl⟩:=h.at_ (.desk k) hk
 obtain ⟨o2,e2,r2⟩:=h.at_ (.held k) hk
 obtain ⟨o3,e3,us,rfl,t⟩:=h.at_ (.row k) hk
 exact ⟨⟨dx,e⟩,by rw [e2]; exact congrArg some r2,us,e3,t⟩
theorem zai.zfw (h:zai A ρ ad s kv H) {i:Nat} (hi:i < s.n):((List.range s.n).map λ i=>V.ref (ad (.rcd i)))[i]?=some (V.ref (ad (.rcd i))):=by
 rw [List.getElem?_map,List.getElem?_range hi]; rfl
theorem zai.zfL (h:zai A ρ ad s kv H) {k:Str} (hk:k∈s.seen):DGet H (ad .zbR) (V.str k) (some (.ref (ad (.desk k)))):=by
 have:=DGet.k (k:=Sum.inr k) h.zbR
 rw [zeq,if_pos hk] at this; exact this
theorem Imm.zfl (ok:AdOk A) {r:Role} (h:zai A ρ ad s kv H) (l:live s r) (kp:zcw H (ad r) H'):Imm A H H':=by
 obtain ⟨o₀,e₀,a₀⟩:=h.at_ r l
 obtain ⟨m1,m2⟩:=a₀.mut ok
 exact ⟨λ p xs e=>kp p _ e (zbh e e₀ λ z=>m1 xs z.symm),λ p dx fs e=>kp p _ e (zbh e e₀ λ z=>m2 dx fs z.symm)⟩
theorem zai.put' (ok:AdOk A) (h:zai A ρ ad s kv H) {r:Role} {o:HO} (l:live s r) (e:H' (ad r)=some o) (kp:zcw H (ad r) H') (new:At A ad s' kv' H' r o) (lv:∀ r',r'≠r->live s' r'->live s r')
   (oth:∀ r' o',r'≠r->live s' r'->At A ad s kv H' r' o'->At A ad s' kv' H' r' o'):zai A ρ ad s' kv' H'/\Frame ρ H ρ H':=by
 have im:=Imm.zfl ok h l kp
 refine ⟨⟨λ r' l'=>?_,λ r' l'=>?_,λ b eb=>?_⟩,λ b u eb q=>?_⟩
 . by_cases hr:r'=r
   . subst hr; exact ⟨o,e,new⟩
   . obtain ⟨o',e',a'⟩:=h.at_ r' (lv r' hr l')
     exact ⟨o',kp _ _ e' (h.ne (lv r' hr l') l hr),oth r' o' hr l' (a'.mono im)⟩
 . by_cases hr:r'=r
   . subst hr; exact h.ro r' l
   . exact h.ro r' (lv r' hr l')
 . refine h.fr b ?_
   cases q:H b with
   | none=>rfl
   | some u =>
     by_cases z:b=ad r
     . subst z; rw [e] at eb; cases eb
     . rw [kp b u q z] at eb; cases eb
 . have hb:b≠ad r:=λ z=>by rw [z,h.ro r l] at q; exact zl8 l q
   exact ⟨kp b u eb hb,q⟩
theorem zdh {s s':HS Str} (h1:s'.n=s.n) (h2:s'.seen=s.seen) {r:Role} (l:live s' r):live s r:=by
 cases r <;> first | exact l | (show _ < s.n; rw [<-h1]; exact l) | (show _∈s.seen; rw [<-h2]; exact l)
theorem zai.znu (ok:AdOk A) (h:zai A ρ ad s kv H) {row:Row Str} {us:List V} {v:V} (e0:H (ad .rows)=some (.lst us)) (e:H' (ad .rows)=some (.lst (us++[v]))) (kp:zcw H (ad .rows) H') (t:TupAt H' v (rowV row)) :
   zai A ρ ad { s with log:=s.log++[row] } kv H'/\Frame ρ H ρ H':=by
 obtain ⟨us',e1,tu⟩:=h.rows
 rw [e0] at e1; cases e1
 refine h.put' ok (r:=.rows) trivial e kp ⟨_,rfl,?_⟩ (λ r' _ l=>zdh (s:=s) rfl rfl l) λ r' o' hr l a=>?_
 . show zap H' _ ((s.log++[row]).map rowV)
   rw [List.map_append]
   exact S6.zb9 (zap.mono (Imm.zfl ok h (r:=.rows) trivial kp) tu) t
 . cases r' <;> first | exact a | exact absurd rfl hr
theorem zai.zqS (ok:AdOk A) (h:zai A ρ ad s kv H) {d:Nat} (e:H' (ad .order)=some (.lst (zaC s.kept++[V.int (d:Int)]))) (kp:zcw H (ad .order) H') :
   zai A ρ ad { s with kept:=s.kept++[d] } kv H'/\Frame ρ H ρ H':=by
 refine h.put' ok (r:=.order) trivial e kp ?_ (λ r' _ l=>zdh (s:=s) rfl rfl l) λ r' o' hr l a=>?_
 . show _=HO.lst ((s.kept++[d]).map _)
   rw [List.map_append]; rfl
 . cases r' <;> first | exact a | exact absurd rfl hr
theorem zai.zmW (ok:AdOk A) (h:zai A ρ ad s kv H) {l:List (Str×Int)} {b:Book Str} (e:H' (ad .zcl)=some (.dK (bkV l))) (kp:zcw H (ad .zcl) H') (hb:za6 l b) :
  zai A ρ ad { s with book:=b } kv H'/\Frame ρ H ρ H':=by
 refine h.put' ok (r:=.zcl) trivial e kp ⟨l,rfl,hb⟩ (λ r' _ l=>zdh (s:=s) rfl rfl l) λ r' o' hr l a=>?_
 cases r' <;> first | exact a | exact absurd rfl hr
theorem zai.zqc (ok:AdOk A) (h:zai A ρ ad s kv H) {l:List (Str×Int)} {b:Book Str} (e:H' (ad .zc1)=some (.dK (bkV l))) (kp:zcw H (ad .zc1) H') (hb:za6 l b) :
  zai A ρ ad s b H'/\Frame ρ H ρ H':=by
 refine h.put' ok (r:=.zc1) trivial e kp ⟨l,rfl,hb⟩ (λ r' _ l=>zdh (s:=s) rfl rfl l) λ r' o' hr l a=>?_
 cases r' <;> first | exact a | exact absurd rfl hr
theorem zai.zoC (ok:AdOk A) (h:zai A ρ ad s kv H) {d:Nat} (hd:d < s.n) {D:Deed Str} {w:V} {dx:Addr} (e:H' (ad (.rcd d))=some (.ins A.zaA dx (recF D.st (ad (.did d)) w))) (kp:zcw H (ad (.rcd d)) H') (hw:zcv A H' w (wantOf D)) (hdn:D.done=(s.deed d).done) :
   zai A ρ ad { s with deed:=up s.deed d D } kv H'/\Frame ρ H ρ H':=by
 refine h.put' ok (r:=.rcd d) hd e kp ?_ (λ r' _ l=>zdh (s:=s) rfl rfl l) λ r' o' hr l a=>?_
 . refine ⟨dx,w,?_,?_⟩
   . show _=HO.ins A.zaA dx (recF (up s.deed d D d).st _ w)
     rw [zag]
   . show zcv A H' w (wantOf (up s.deed d D d))
     rw [zag]; exact hw
 . cases r' with
   | rcd i =>
     have hi:i≠d:=λ z=>hr (by rw [z])
     obtain ⟨dx',w',e',t⟩:=a
     refine ⟨dx',w',?_,?_⟩
     . show _=HO.ins A.zaA dx' (recF (up s.deed d D i).st _ w')
       rw [zam hi]; exact e'
     . show zcv A H' w' (wantOf (up s.deed d D i))
       rw [zam hi]; exact t
   | did i =>
     obtain ⟨us,e',t⟩:=a
     refine ⟨us,e',?_⟩
     show zap H' us ((up s.deed d D i).done.map actV)
     by_cases hi:i=d
     . subst hi; rw [zag,hdn]; exact t
     . rw [zam hi]; exact t
   | _=>exact a
theorem zai.ztj (ok:AdOk A) (h:zai A ρ ad s kv H) {d:Nat} (hd:d < s.n) {a:Act Str} {us:List V} {v:V} (e0:H (ad (.did d))=some (.lst us)) (e:H' (ad (.did d))=some (.lst (us++[v]))) (kp:zcw H (ad (.did d)) H') (t:TupAt H' v (actV a)) :
   zai A ρ ad { s with deed:=up s.deed d { s.deed d with done:=(s.deed d).done++[a] } } kv H'/\Frame ρ H ρ H':=by
 obtain ⟨us',e1,tu⟩:=h.did hd
 rw [e0] at e1; cases e1
 refine h.put' ok (r:=.did d) hd e kp ⟨_,rfl,?_⟩ (λ r' _ l=>zdh (s:=s) rfl rfl l) λ r' o' hr l b=>?_
 . show zap H' _ ((up s.deed d _ d).done.map actV)
   rw [zag]
   show zap H' _ (((s.deed d).done++[a]).map actV)
   rw [List.map_append]
   exact S6.zb9 (zap.mono (Imm.zfl ok h (r:=.did d) hd kp) tu) t
 . cases r' with
   | rcd i =>
    obtain ⟨dx',w',e',t'⟩:=b
    refine ⟨dx',w',?_,?_⟩
    . show _=HO.ins A.zaA dx' (recF (up s.deed d _ i).st _ w')
      by_cases hi:i=d
      . subst hi; rw [zag]; exact e'
      . rw [zam hi]; exact e'
    . show zcv A H' w' (wantOf (up s.deed d _ i))
      by_cases hi:i=d
      . subst hi; rw [zag]; exact t'
      . rw [zam hi]; exact t'
   | did i =>
    have hi:i≠d:=λ z=>hr (by rw [z])
    obtain ⟨us',e',t'⟩:=b
    refine ⟨us',e',?_⟩
    show zap H' us' ((up s.deed d _ i).done.map actV)
    rw [zam hi]; exact t'
   | _=>exact b
theorem zai.zrI (ok:AdOk A) (h:zai A ρ ad s kv H) {k:Str} (hk:k∈s.seen) {hs:List (Nat×Bool)} (e:H' (ad (.held k))=some (.dK (zcc hs))) (kp:zcw H (ad (.held k)) H') :
   zai A ρ ad { s with held:=up s.held k hs } kv H'/\Frame ρ H ρ H':=by
 refine h.put' ok (r:=.held k) hk e kp ?_ (λ r' _ l=>zdh (s:=s) rfl rfl l) λ r' o' hr l b=>?_
 . show _=HO.dK (zcc (up s.held k hs k))
   rw [zag]
 . cases r' with
   | held j =>
    have hj:j≠k:=λ z=>hr (by rw [z])
    show o'=HO.dK (zcc (up s.held k hs j))
    rw [zam hj]; exact b
   | _=>exact b
theorem zai.zqY (ok:AdOk A) (h:zai A ρ ad s kv H) {k:Str} (hk:k∈s.seen) {r:List (Nat×Bool)} {us:List V} (e:H' (ad (.row k))=some (.lst us)) (kp:zcw H (ad (.row k)) H') (t:zap H' us (r.map zco)) :
   zai A ρ ad { s with rows:=up s.rows k r } kv H'/\Frame ρ H ρ H':=by
 refine h.put' ok (r:=.row k) hk e kp ?_ (λ r' _ l=>zdh (s:=s) rfl rfl l) λ r' o' hr l b=>?_
 . refine ⟨us,rfl,?_⟩
   show zap H' us ((up s.rows k r k).map zco)
   rw [zag]; exact t
 . cases r' with
   | row j =>
    have hj:j≠k:=λ z=>hr (by rw [z])
    obtain ⟨us',e',t'⟩:=b
    refine ⟨us',e',?_⟩
    show zap H' us' ((up s.rows k r j).map zco)
    rw [zam hj]; exact t'
   | _=>exact b
theorem zai.leave (ok:AdOk A) (h:zai A ρ ad s kv H) {k:Str} {d:Nat} (hk:k∈s.seen) {dx p':Addr} {us:List V} (n:H p'=none) (e1:H' (ad (.desk k))=some (.ins A.zci dx (ziw (ad (.held k)) p'))) (e2:H' (ad (.held k))=some (.dK (zcc (less (s.held k) d)))) (e3:H' p'=some (.lst us)) (t:zap H' us ((less (s.rows k) d).map zco))
   (kp:∀ b o,H b=some o->b≠ad (.desk k)->b≠ad (.held k)->H' b=some o):∃ ρ' ad',ad' .hall=ad .hall/\zai A ρ' ad' (zej s d k) kv H'/\Frame ρ H ρ' H':=by
 obtain ⟨dx0,d0⟩:=(h.desk hk).ob
 have d1:=(h.desk hk).hd
 have im:Imm A H H':=⟨λ p xs e=>kp p _ e (zbh e d0 λ z=>nomatch z) (zbh e d1 λ z=>nomatch z),λ p dx fs e=>kp p _ e (zbh e d0 λ z=>by injection z with z; exact ok.wd z) (zbh e d1 λ z=>nomatch z)⟩
 have adn:∀ r,live s r->ad r≠p':=λ r l z=>by
   obtain ⟨o,e,_⟩:=h.at_ r l
   rw [z,n] at e; cases e
 refine ⟨up ρ p' (.row k),up ad (.row k) p',zam (by intro z; cases z),⟨λ r l=>?_,λ r l=>?_,λ b eb=>?_⟩,λ b o eb q=>?_⟩
 . have l0:live s r:=zdh (s:=s) rfl rfl l
   by_cases hr:r=.row k
   . subst hr
     refine ⟨.lst us,by rw [zag]; exact e3,us,rfl,?_⟩
     show zap H' us ((up s.rows k (less (s.rows k) d) k).map zco)
     rw [zag]; exact t
   . have ea:up ad (.row k) p' r=ad r:=zam hr
     rw [ea]
     by_cases hr1:r=.desk k
     . subst hr1
       refine ⟨_,e1,dx,?_⟩
       show _=HO.ins A.zci dx (ziw (up ad (.row k) p' (.held k)) (up ad (.row k) p' (.row k)))
       rw [zag,zam (by intro z; cases z)]
     . by_cases hr2:r=.held k
       . subst hr2
         refine ⟨_,e2,?_⟩
         show _=HO.dK (zcc (up s.held k (less (s.held k) d) k))
         rw [zag]
       . obtain ⟨o,e,a⟩:=h.at_ r l0
         refine ⟨o,kp _ _ e (h.ne l0 hk hr1) (h.ne l0 hk hr2),?_⟩
         have a:=a.mono im
         cases r with
         | hall =>
          obtain ⟨dx',e'⟩:=a
          refine ⟨dx',?_⟩
          rw [e']
          show HO.ins A.zaU dx' (zmc ad)=HO.ins A.zaU dx' (zmc (up ad (.row k) p'))
          unfold zmc
          simp only [zam (show (Role.recs:Role)≠.row k by intro z; cases z),zam (show (Role.zbR:Role)≠.row k by intro z; cases z),zam (show (Role.zcl:Role)≠.row k by intro z; cases z),zam (show (Role.zc1:Role)≠.row k by intro z; cases z),zam (show (Role.order:Role)≠.row k by intro z; cases z),zam (show (Role.rows:Role)≠.row k by intro z; cases z)]
         | recs =>
          show o=HO.lst ((List.range s.n).map λ i=>V.ref (up ad (.row k) p' (.rcd i)))
          have:(λ i=>V.ref (up ad (.row k) p' (.rcd i)))=λ i=>V.ref (ad (.rcd i)):=funext λ i=>by rw [zam (by intro z; cases z)]
          rw [this]; exact a
         | zbR =>
          show o=HO.dK (s.seen.map λ j=>(Sum.inr j,V.ref (up ad (.row k) p' (.desk j))))
          have:(λ j:Str=>((Sum.inr j:Key),V.ref (up ad (.row k) p' (.desk j))))=λ j=>(Sum.inr j,V.ref (ad (.desk j))):=funext λ j=>by rw [zam (by intro z; cases z)]
          rw [this]; exact a
         | rcd i =>
          obtain ⟨dx',w',e',t'⟩:=a
          refine ⟨dx',w',?_,t'⟩
          rw [e',zam (show (Role.did i:Role)≠.row k by intro z; cases z)]
          rfl
         | desk j =>
          have hj:j≠k:=λ z=>hr1 (by rw [z])
          obtain ⟨dx',e'⟩:=a
          refine ⟨dx',?_⟩
          rw [e',zam (show (Role.held j:Role)≠.row k by intro z; cases z),zam (show (Role.row j:Role)≠.row k by intro z; injection z with z; exact hj z)]
         | held j =>
          have hj:j≠k:=λ z=>hr2 (by rw [z])
          show o=HO.dK (zcc (up s.held k _ j))
          rw [zam hj]; exact a
         | row j =>
          have hj:j≠k:=λ z=>hr (by rw [z])
          obtain ⟨us',e',t'⟩:=a
          refine ⟨us',e',?_⟩
          show zap H' us' ((up s.rows k _ j).map zco)
          rw [zam hj]; exact t'
         | _=>exact a
 . have l0:live s r:=zdh (s:=s) rfl rfl l
   by_cases hr:r=.row k
   . subst hr; rw [zag,zag]
   . rw [zam hr,zam (adn r l0)]; exact h.ro r l0
 . have hb:b≠p':=λ z=>by rw [z,e3] at eb; cases eb
   rw [zam hb]
   refine h.fr b ?_
   cases q:H b with
   | none=>rfl
   | some u =>
     by_cases z:b=ad (.desk k)
     . rw [z,e1] at eb; cases eb
     . by_cases z2:b=ad (.held k)
       . rw [z2,e2] at eb; cases eb
       . rw [kp b u q z z2] at eb; cases eb
 . have hb:b≠p':=zah eb n
   refine ⟨kp b o eb (λ z=>?_) λ z=>?_,by rw [zam hb]; exact q⟩
   . rw [z,h.ro (.desk k) hk] at q; cases q
   . rw [z,h.ro (.held k) hk] at q; cases q
end
end TP
end
section
namespace TP
open PySem L2 TH
section
variable {A:Ad} {ρ:Addr->Role} {ad:Role->Addr} {s s':HS Str} {kv kv':Book Str} {H H':Hp}
theorem zai.more (ok:AdOk A) (h:zai A ρ ad s kv H) (r0:Role) (l0:live s r0) (N:Role->Prop) (ρ':Addr->Role) (ad':Role->Addr) (kp:zcw H (ad r0) H') (e0:∃ o,H' (ad r0)=some o)
   (lv:∀ r,live s' r->N r\/live s r) (same:∀ r,¬ N r->ad' r=ad r) (nr0:¬ N r0)
   (new:∀ r,live s' r->N r->H (ad' r)=none/\ρ' (ad' r)=r/\∃ o,H' (ad' r)=some o/\At A ad' s' kv' H' r o) (chg:∀ o,H' (ad r0)=some o->At A ad' s' kv' H' r0 o)
   (oth:∀ r o,r≠r0->¬ N r->live s' r->At A ad s kv H' r o->At A ad' s' kv' H' r o) (hρ:∀ b,(∃ o,H b=some o)->ρ' b=ρ b) (hρ2:∀ b,H' b=none->ρ' b=.other):zai A ρ' ad' s' kv' H'/\Frame ρ H ρ' H':=by
 have im:=Imm.zfl ok h l0 kp
 refine ⟨⟨λ r l=>?_,λ r l=>?_,hρ2⟩,λ b u eb q=>?_⟩
 . by_cases hn:N r
   . obtain ⟨_,_,o,e,a⟩:=new r l hn; exact ⟨o,e,a⟩
   . rw [same r hn]
     have ls:=(lv r l).resolve_left hn
     by_cases hr:r=r0
     . subst hr
       obtain ⟨o,e⟩:=e0
       exact ⟨o,e,chg o e⟩
     . obtain ⟨o',e',a'⟩:=h.at_ r ls
       exact ⟨o',kp _ _ e' (h.ne ls l0 hr),oth r o' hr hn l (a'.mono im)⟩
 . by_cases hn:N r
   . exact (new r l hn).2.1
   . rw [same r hn]
     have ls:=(lv r l).resolve_left hn
     obtain ⟨o',e',_⟩:=h.at_ r ls
     rw [hρ _ ⟨o',e'⟩]; exact h.ro r ls
 . have hb:b≠ad r0:=λ z=>by rw [z,h.ro r0 l0] at q; exact zl8 l0 q
   exact ⟨kp b u eb hb,by rw [hρ b ⟨u,eb⟩]; exact q⟩
theorem zai.addRec (ok:AdOk A) (h:zai A ρ ad s kv H) {p d dx:Addr} (np:H p=none) (nd:H d=none) (e0:H' (ad .recs)=some (.lst (((List.range s.n).map λ i=>V.ref (ad (.rcd i)))++[.ref p]))) (e1:H' p=some (.ins A.zaA dx (recF .zan d .non))) (e2:H' d=some (.lst [])) (kp:zcw H (ad .recs) H') :
   ∃ ρ' ad',ad' .hall=ad .hall/\zai A ρ' ad' { s with n:=s.n+1,deed:=up s.deed s.n ⟨.zan,[],none⟩ } kv H'/\Frame ρ H ρ' H':=by
 have hpd:p≠d:=zbh e1 e2 λ z=>nomatch z
 have a1:∀ r,r≠.rcd s.n->r≠.did s.n->up (up ad (.rcd s.n) p) (.did s.n) d r=ad r:=λ r h1 h2=>by rw [zam h2,zam h1]
 have ar:up (up ad (.rcd s.n) p) (.did s.n) d (.rcd s.n)=p:=by rw [zam (by intro z; cases z),zag]
 have adn:up (up ad (.rcd s.n) p) (.did s.n) d (.did s.n)=d:=zag
 have st:∀ (x:Addr),H x=none->x≠p->x≠d->up (up ρ p (.rcd s.n)) d (.did s.n) x=ρ x:=λ x _ h1 h2=>by rw [zam h2,zam h1]
 refine ⟨up (up ρ p (.rcd s.n)) d (.did s.n),up (up ad (.rcd s.n) p) (.did s.n) d,a1 _ (by intro z; cases z) (by intro z; cases z),?_⟩
 refine h.more ok .recs trivial (λ r=>r=.rcd s.n\/r=.did s.n) _ _ kp ⟨_,e0⟩ (λ r l=>?_) (λ r hn=>a1 r (λ z=>hn (.inl z)) λ z=>hn (.inr z)) (by rintro (z | z) <;> cases z) (λ r l hn=>?_) (λ o e=>?_) (λ r o hr hn l a=>?_) (λ b ⟨o,eb⟩=>?_) λ b eb=>?_
 . cases r with
   | rcd i =>
     have hi:i < s.n+1:=l
     rcases Nat.lt_or_ge i s.n with z | z
     . exact .inr z
     . exact .inl (.inl (by rw [show i=s.n by omega]))
   | did i =>
     have hi:i < s.n+1:=l
     rcases Nat.lt_or_ge i s.n with z | z
     . exact .inr z
     . exact .inl (.inr (by rw [show i=s.n by omega]))
   | _=>exact .inr l
 . rcases hn with z | z
   . subst z
     rw [ar]
     refine ⟨np,by rw [zam hpd,zag],_,e1,dx,.non,?_,?_⟩
     . show _=HO.ins A.zaA dx (recF (up s.deed s.n _ s.n).st (up (up ad (.rcd s.n) p) (.did s.n) d (.did s.n)) .non)
       rw [zag,zag]
     . show zcv A H' .non (wantOf (up s.deed s.n ⟨.zan,[],none⟩ s.n))
       rw [zag]; rfl
   . subst z
     rw [adn]
     refine ⟨nd,zag,_,e2,[],rfl,?_⟩
     show zap H' [] ((up s.deed s.n _ s.n).done.map actV)
     rw [zag]; exact .nil
 . rw [e0] at e
   have e:=Option.some.inj e
   show o=HO.lst ((List.range (s.n+1)).map λ i=>V.ref (up (up ad (.rcd s.n) p) (.did s.n) d (.rcd i)))
   rw [<-e,List.range_succ,List.map_append,List.map_cons,List.map_nil,ar]
   congr 2
   refine List.map_congr_left λ i hi=>?_
   have:i≠s.n:=Nat.ne_of_lt (List.mem_range.mp hi)
   rw [a1 _ (by intro z; injection z with z; exact this z) (by intro z; cases z)]
 . cases r with
   | rcd i =>
     have hi:i≠s.n:=λ z=>hn (.inl (by rw [z]))
     obtain ⟨dx',w',e',t'⟩:=a
     refine ⟨dx',w',?_,?_⟩
     . show _=HO.ins A.zaA dx' (recF (up s.deed s.n _ i).st (up (up ad (.rcd s.n) p) (.did s.n) d (.did i)) w')
       rw [zam hi,a1 _ (by intro z; cases z) (by intro z; injection z with z; exact hi z)]; exact e'
     . show zcv A H' w' (wantOf (up s.deed s.n _ i))
       rw [zam hi]; exact t'
   | did i =>
     have hi:i≠s.n:=λ z=>hn (.inr (by rw [z]))
     obtain ⟨us,e',t'⟩:=a
     refine ⟨us,e',?_⟩
     show zap H' us ((up s.deed s.n _ i).done.map actV)
     rw [zam hi]; exact t'
   | hall =>
     obtain ⟨dx',e'⟩:=a
     refine ⟨dx',?_⟩
     rw [e']
     unfold zmc
     simp only [a1 .recs (by intro z; cases z) (by intro z; cases z),a1 .zbR (by intro z; cases z) (by intro z; cases z),a1 .zcl (by intro z; cases z) (by intro z; cases z),a1 .zc1 (by intro z; cases z) (by intro z; cases z),a1 .order (by intro z; cases z) (by intro z; cases z),a1 .rows (by intro z; cases z) (by intro z; cases z)]
   | recs=>exact absurd rfl hr
   | zbR =>
     show o=HO.dK (s.seen.map λ j=>(Sum.inr j,V.ref (up (up ad (.rcd s.n) p) (.did s.n) d (.desk j))))
     have:(λ j:Str=>((Sum.inr j:Key),V.ref (up (up ad (.rcd s.n) p) (.did s.n) d (.desk j))))=λ j=>(Sum.inr j,V.ref (ad (.desk j))):=funext λ j=>by rw [a1 _ (by intro z; cases z) (by intro z; cases z)]
     rw [this]; exact a
   | desk j =>
     obtain ⟨dx',e'⟩:=a
     refine ⟨dx',?_⟩
     rw [e',a1 (.held j) (by intro z; cases z) (by intro z; cases z),a1 (.row j) (by intro z; cases z) (by intro z; cases z)]
   | _=>exact a
 . rw [zam (zah eb nd),zam (zah eb np)]
 . have h1:b≠p:=λ z=>by rw [z,e1] at eb; cases eb
   have h2:b≠d:=λ z=>by rw [z,e2] at eb; cases eb
   rw [zam h2,zam h1]
   refine h.fr b ?_
   cases q:H b with
   | none=>rfl
   | some u =>
     by_cases z:b=ad .recs
     . rw [z,e0] at eb; cases eb
     . rw [kp b u q z] at eb; cases eb
theorem zai.zsc (ok:AdOk A) (h:zai A ρ ad s kv H) {k:Str} (hk:k∉s.seen) (h1:s.held k=[]) (h2:s.rows k=[]) {p hd rw dx:Addr} (np:H p=none) (nh:H hd=none) (nr:H rw=none)
   (e0:H' (ad .zbR)=some (.dK (zdO ad s.seen++[(Sum.inr k,.ref p)]))) (e1:H' p=some (.ins A.zci dx (ziw hd rw))) (e2:H' hd=some (.dK [])) (e3:H' rw=some (.lst [])) (kp:zcw H (ad .zbR) H') :
   ∃ ρ' ad',ad' .hall=ad .hall/\zai A ρ' ad' { s with seen:=s.seen++[k] } kv H'/\Frame ρ H ρ' H'/\ad' (.desk k)=p:=by
 have p1:p≠hd:=zbh e1 e2 λ z=>nomatch z
 have p2:p≠rw:=zbh e1 e3 λ z=>nomatch z
 have p3:hd≠rw:=zbh e2 e3 λ z=>nomatch z
 generalize hA:(up (up (up ad (.desk k) p) (.held k) hd) (.row k) rw)=ad'
 have a1:∀ r,r≠.desk k->r≠.held k->r≠.row k->ad' r=ad r:=λ r q1 q2 q3=>by rw [<-hA,zam q3,zam q2,zam q1]
 have ad1:ad' (.desk k)=p:=by rw [<-hA,zam (by intro z; cases z),zam (by intro z; cases z),zag]
 have ad2:ad' (.held k)=hd:=by rw [<-hA,zam (by intro z; cases z),zag]
 have ad3:ad' (.row k)=rw:=by rw [<-hA,zag]
 generalize hR:(up (up (up ρ p (.desk k)) hd (.held k)) rw (.row k))=ρ'
 have r1:∀ b,b≠p->b≠hd->b≠rw->ρ' b=ρ b:=λ b q1 q2 q3=>by rw [<-hR,zam q3,zam q2,zam q1]
 refine ⟨ρ',ad',a1 _ (by intro z; cases z) (by intro z; cases z) (by intro z; cases z),?_⟩
 have main:=h.more (s':={ s with seen:=s.seen++[k] }) (kv':=kv) ok .zbR trivial (λ r=>r=.desk k\/r=.held k\/r=.row k) ρ' ad' kp ⟨_,e0⟩ (λ r l=>?_) (λ r hn=>a1 r (λ z=>hn (.inl z)) (λ z=>hn (.inr (.inl z))) λ z=>hn (.inr (.inr z))) (by rintro (z | z | z) <;> cases z) (λ r l hn=>?_) (λ o e=>?_) (λ r o hr hn l a=>?_) (λ b ⟨o,eb⟩=>?_) λ b eb=>?_
 . exact ⟨main.1,main.2,ad1⟩
 . have mm:∀ j,j∈s.seen++[k]->j=k\/j∈s.seen:=λ j hj=>by
     rcases List.mem_append.mp hj with z | z
     . exact .inr z
     . exact .inl (List.mem_singleton.mp z)
   cases r with
   | desk j=>exact (mm j l).elim (λ z=>.inl (.inl (by rw [z]))) .inr
   | held j=>exact (mm j l).elim (λ z=>.inl (.inr (.inl (by rw [z])))) .inr
   | row j=>exact (mm j l).elim (λ z=>.inl (.inr (.inr (by rw [z])))) .inr
   | _=>exact .inr l
 . rcases hn with z | z | z
   . subst z
     rw [ad1]
     refine ⟨np,by rw [<-hR,zam p2,zam p1,zag],_,e1,dx,?_⟩
     rw [ad2,ad3]
   . subst z
     rw [ad2]
     refine ⟨nh,by rw [<-hR,zam p3,zag],_,e2,?_⟩
     show _=HO.dK (zcc (s.held k))
     rw [h1]; rfl
   . subst z
     rw [ad3]
     refine ⟨nr,by rw [<-hR,zag],_,e3,[],rfl,?_⟩
     show zap H' [] ((s.rows k).map zco)
     rw [h2]; exact .nil
 . rw [e0] at e
   have e:=Option.some.inj e
   show o=HO.dK ((s.seen++[k]).map λ j=>(Sum.inr j,V.ref (ad' (.desk j))))
   rw [<-e,List.map_append,List.map_cons,List.map_nil,ad1]
   unfold zdO
   congr 2
   refine List.map_congr_left λ j hj=>?_
   have:j≠k:=λ z=>hk (z ▸ hj)
   rw [a1 _ (by intro z; injection z with z; exact this z) (by intro z; cases z) (by intro z; cases z)]
 . cases r with
   | rcd i =>
     obtain ⟨dx',w',e',t'⟩:=a
     refine ⟨dx',w',?_,t'⟩
     rw [e',a1 (.did i) (by intro z; cases z) (by intro z; cases z) (by intro z; cases z)]
   | hall =>
     obtain ⟨dx',e'⟩:=a
     refine ⟨dx',?_⟩
     rw [e']
     unfold zmc
     simp only [a1 .recs (by intro z; cases z) (by intro z; cases z) (by intro z; cases z),a1 .zbR (by intro z; cases z) (by intro z; cases z) (by intro z; cases z),a1 .zcl (by intro z; cases z) (by intro z; cases z) (by intro z; cases z),a1 .zc1 (by intro z; cases z) (by intro z; cases z) (by intro z; cases z),a1 .order (by intro z; cases z) (by intro z; cases z) (by intro z; cases z),a1 .rows (by intro z; cases z) (by intro z; cases z) (by intro z; cases z)]
   | recs =>
     show o=HO.lst ((List.range s.n).map λ i=>V.ref (ad' (.rcd i)))
     have:(λ i=>V.ref (ad' (.rcd i)))=λ i=>V.ref (ad (.rcd i)):=funext λ i=>by rw [a1 _ (by intro z; cases z) (by intro z; cases z) (by intro z; cases z)]
     rw [this]; exact a
   | zbR=>exact absurd rfl hr
   | desk j =>
     have hj:j≠k:=λ z=>hn (.inl (by rw [z]))
     obtain ⟨dx',e'⟩:=a
     refine ⟨dx',?_⟩
     rw [e',a1 (.held j) (by intro z; cases z) (by intro z; injection z with z; exact hj z) (by intro z; cases z),a1 (.row j) (by intro z; cases z) (by intro z; cases z) (by intro z; injection z with z; exact hj z)]
   | _=>exact a
 . exact r1 b (zah eb np) (zah eb nh) (zah eb nr)
 . have q1:b≠p:=λ z=>by rw [z,e1] at eb; cases eb
   have q2:b≠hd:=λ z=>by rw [z,e2] at eb; cases eb
   have q3:b≠rw:=λ z=>by rw [z,e3] at eb; cases eb
   rw [r1 b q1 q2 q3]
   refine h.fr b ?_
   cases q:H b with
   | none=>rfl
   | some u =>
     by_cases z:b=ad .zbR
     . rw [z,e0] at eb; cases eb
     . rw [kp b u q z] at eb; cases eb
theorem zai.fresh {a dx p1 p2 p3 p4 p5 p6:Addr} (na:H a=none) (n1:H p1=none) (n2:H p2=none) (n3:H p3=none) (n4:H p4=none) (n5:H p5=none) (n6:H p6=none)
   (e:H' a=some (.ins A.zaU dx [("records",.ref p1),("desks",.ref p2),("standing",.ref p3),("kept_values",.ref p4),("kept_deeds",.ref p5),("rows",.ref p6)]))
   (e1:H' p1=some (.lst [])) (e2:H' p2=some (.dK [])) (e3:H' p3=some (.dK [])) (e4:H' p4=some (.dK [])) (e5:H' p5=some (.lst [])) (e6:H' p6=some (.lst [])) (d1:p1≠p5) (d2:p1≠p6) (d3:p5≠p6) (d4:p2≠p3) (d5:p2≠p4) (d6:p3≠p4) (kp:Same H H') :
   ∃ ρ ad,ad .hall=a/\zai A ρ ad TH.empty (λ _=>none) H'/\∀ b o,H b=some o->ρ b=.other:=by
 let ad:Role->Addr:=λ r=>match r with
   | .hall=>a | .recs=>p1 | .zbR=>p2 | .zcl=>p3 | .zc1=>p4 | .order=>p5 | .rows=>p6 | _=>a
 let ρ:Addr->Role:=λ b=>if b=a then .hall else if b=p1 then .recs else if b=p2 then .zbR else if b=p3 then .zcl else if b=p4 then .zc1 else if b=p5 then .order else if b=p6 then .rows else .other
 have k1:a≠p1:=zbh e e1 λ z=>nomatch z
 have k2:a≠p2:=zbh e e2 λ z=>nomatch z
 have k3:a≠p3:=zbh e e3 λ z=>nomatch z
 have k4:a≠p4:=zbh e e4 λ z=>nomatch z
 have k5:a≠p5:=zbh e e5 λ z=>nomatch z
 have k6:a≠p6:=zbh e e6 λ z=>nomatch z
 have l12:p1≠p2:=zbh e1 e2 λ z=>nomatch z
 have l13:p1≠p3:=zbh e1 e3 λ z=>nomatch z
 have l14:p1≠p4:=zbh e1 e4 λ z=>nomatch z
 have l52:p5≠p2:=zbh e5 e2 λ z=>nomatch z
 have l53:p5≠p3:=zbh e5 e3 λ z=>nomatch z
 have l54:p5≠p4:=zbh e5 e4 λ z=>nomatch z
 have l62:p6≠p2:=zbh e6 e2 λ z=>nomatch z
 have l63:p6≠p3:=zbh e6 e3 λ z=>nomatch z
 have l64:p6≠p4:=zbh e6 e4 λ z=>nomatch z
 have bk:za6 [] (λ _=>none:Book Str):=⟨List.nodup_nil,λ k v=>⟨(λ z=>nomatch z),(λ z=>nomatch z)⟩⟩
 have oth:∀ b,b≠a->b≠p1->b≠p2->b≠p3->b≠p4->b≠p5->b≠p6->ρ b=.other:=λ b q q1 q2 q3 q4 q5 q6=>by
   show (if b=a then Role.hall else _)=_
   rw [if_neg q,if_neg q1,if_neg q2,if_neg q3,if_neg q4,if_neg q5,if_neg q6]
 refine ⟨ρ,ad,rfl,⟨λ r l=>?_,λ r l=>?_,λ b eb=>?_⟩,λ b o eb=>?_⟩
 . cases r with
   | hall=>exact ⟨_,e,dx,rfl⟩
   | recs=>exact ⟨_,e1,rfl⟩
   | zbR=>exact ⟨_,e2,rfl⟩
   | zcl=>exact ⟨_,e3,[],rfl,bk⟩
   | zc1=>exact ⟨_,e4,[],rfl,bk⟩
   | order=>exact ⟨_,e5,rfl⟩
   | rows=>exact ⟨_,e6,[],rfl,.nil⟩
   | other=>exact l.elim
   | rcd i=>exact absurd l (Nat.not_lt_zero _)
   | did i=>exact absurd l (Nat.not_lt_zero _)
   | desk k=>exact absurd l (List.not_mem_nil)
   | held k=>exact absurd l (List.not_mem_nil)
   | row k=>exact absurd l (List.not_mem_nil)
 . cases r with
   | hall=>exact if_pos rfl
   | recs=>show (if p1=a then _ else _)=_; rw [if_neg k1.symm,if_pos rfl]
   | zbR=>show (if p2=a then _ else _)=_; rw [if_neg k2.symm,if_neg l12.symm,if_pos rfl]
   | zcl=>show (if p3=a then _ else _)=_; rw [if_neg k3.symm,if_neg l13.symm,if_neg d4.symm,if_pos rfl]
   | zc1=>show (if p4=a then _ else _)=_; rw [if_neg k4.symm,if_neg l14.symm,if_neg d5.symm,if_neg d6.symm,if_pos rfl]
   | order=>show (if p5=a then _ else _)=_; rw [if_neg k5.symm,if_neg d1.symm,if_neg l52,if_neg l53,if_neg l54,if_pos rfl]
   | rows=>show (if p6=a then _ else _)=_; rw [if_neg k6.symm,if_neg d2.symm,if_neg l62,if_neg l63,if_neg l64,if_neg d3.symm,if_pos rfl]
   | other=>exact l.elim
   | rcd i=>exact absurd l (Nat.not_lt_zero _)
   | did i=>exact absurd l (Nat.not_lt_zero _)
   | desk k=>exact absurd l (List.not_mem_nil)
   | held k=>exact absurd l (List.not_mem_nil)
   | row k=>exact absurd l (List.not_mem_nil)
 . exact oth b (λ z=>by rw [z,e] at eb; cases eb) (λ z=>by rw [z,e1] at eb; cases eb) (λ z=>by rw [z,e2] at eb; cases eb) (λ z=>by rw [z,e3] at eb; cases eb) (λ z=>by rw [z,e4] at eb; cases eb) (λ z=>by rw [z,e5] at eb; cases eb) (λ z=>by rw [z,e6] at eb; cases eb)
 . exact oth b (zah eb na) (zah eb n1) (zah eb n2) (zah eb n3) (zah eb n4) (zah eb n5) (zah eb n6)
end
end TP
end
section
namespace TP
open PySem L2 TH
structure Sm (s:HS Str):Prop where
 n:s.n<=63
 seen:s.seen.length<=4
 snd:s.seen.Nodup
 dn:∀ d,(s.deed d).done.length<=2000
 lg:s.log.length<=3000
 kp:s.kept.length<=1000
 hl:∀ k,(s.held k).length<=1000
 hn:∀ k,((s.held k).map (·.1)).Nodup
 rl:∀ k,(s.rows k).length<=1000
 bs:∀ k,s.book k≠none->k∈s.seen
theorem zfz:∀ (n:Nat) (l:List Nat),l.Nodup->(∀ x∈l,x < n)->l.length<=n:=λ n l nd h=>by
 have:∀ (a b:List Nat),a.Nodup->(∀ x∈a,x∈b)->a.length<=b.length:=λ a=>by
  induction a with
  | nil=>intro b _ _; simp
  | cons x r ih =>
   intro b nd hs
   obtain ⟨n1,n2⟩:=List.nodup_cons.mp nd
   have hx:=hs x List.mem_cons_self
   have:=ih (b.erase x) n2 λ z hz=>(List.mem_erase_of_ne (show z≠x from λ e=>n1 (e ▸ hz))).mpr (hs z (List.mem_cons_of_mem _ hz))
   rw [List.length_erase_of_mem hx] at this
   have hpos:0 < b.length:=List.length_pos_of_mem hx
   simp only [List.length_cons]; omega
 have:=this l (List.range n) nd λ x hx=>List.mem_range.mpr (h x hx)
 rwa [List.length_range] at this
structure Lim (s:HS Str) (T:Nat):Prop where
 e:Ext s T
 t:T<=1000
 n:s.n<=63
 sn:s.seen.length<=4
theorem Lim.sm {s:HS Str} {T:Nat} {x:Option Nat} (L:Lim s T) (c:Core s x):Sm s where
 n:=L.n
 seen:=L.sn
 snd:=L.e.snd
 dn:=λ d=>by have:=L.e.dn d; have:=L.t; omega
 lg:=by have:=L.e.lg; have:=L.t; omega
 kp:=Nat.le_trans (zfz s.n s.kept c.zhO λ d hd=>by
  by_cases z:d < s.n
  . exact z
  . have h1:=(c.out d (by omega)).1
    rw [(c.zdi d).mp hd] at h1; cases h1) (by have:=L.n; omega)
 hl:=λ k=>by
  have:=zfz s.n ((s.held k).map (·.1)) (c.hNd k) λ d hd=>by
    obtain ⟨p,hp,rfl⟩:=List.mem_map.mp hd
    exact c.lt (c.hAct k p hp)
  rw [List.length_map] at this
  have:=L.n; omega
 hn:=c.hNd
 rl:=λ k=>by
  have:=zfz s.n ((s.rows k).map (·.1)) (c.rNd k) λ d hd=>by
    obtain ⟨p,hp,rfl⟩:=List.mem_map.mp hd
    exact c.lt (.inr (c.rAct k p hp).1)
  rw [List.length_map] at this
  have:=L.n; omega
 bs:=L.e.zgR
def znF (A:Ad):Sp:=λ vs H Q _=>∃ (p dx:Addr),vs=[.ref p]/\H p=some (.ins A.zaU dx []) /\
 ∀ H' ρ ad,ad .hall=p->zai A ρ ad TH.empty (λ _=>none) H'->(∀ b o,H b=some o->b≠p->H' b=some o/\ρ b=.other)->Q .non H'
def zrD (A:Ad):Sp:=λ vs H Q _=>∃ ρ ad s kv,vs=[.ref (ad Role.hall)]/\zai A ρ ad s kv H/\Sm s/\s.n < 63 /\
 ∀ H' ρ' ad',ad' Role.hall=ad .hall->zai A ρ' ad' (za1 s) kv H'->Frame ρ H ρ' H'->Q (.int s.n) H'
def Out (A:Ad) (s:HS Str) (i:Int) (H:Hp) (E:XK):Prop:=(i < 0\/(s.n:Int)<=i)/\E (.ref A.zh3) none H
def znC (A:Ad):Sp:=λ vs H Q E=>∃ ρ ad s kv i,vs=[.ref (ad Role.hall),.int i]/\zai A ρ ad s kv H/\s.n<=1000 /\
 ((∃ d:Nat,i=d/\d < s.n/\Q (.ref (ad (.rcd d))) H)\/Out A s i H E)
def zp5 (A:Ad):Sp:=λ vs H Q E=>∃ ρ ad s kv i,vs=[.ref (ad Role.hall),.int i]/\zai A ρ ad s kv H/\s.n<=1000 /\
 ((∃ d:Nat,i=d/\d < s.n/\((s.deed d).st=.zan/\Q .non H\/(s.deed d).st≠.zan/\E (.ref A.zcW) none H))\/Out A s i H E)
def zrB (A:Ad):Sp:=λ vs H Q _=>∃ ρ ad s kv d wv a,vs=[.ref (ad Role.hall),.int (d:Nat),wv]/\zai A ρ ad s kv H/\Sm s/\d < s.n/\a.key∈s.seen/\zcv A H wv (some a) /\
 ∀ H',zai A ρ ad (doIt (zkd s d a.key a.wr) d a) kv H'->Frame ρ H ρ H'->Q .non H'
end TP
namespace TP
open PySem L2 TH
theorem two {G:Hp} {p q:Addr} {x o o':HO} (gp:G p=some x) (nq:G q=none) :
  upd (upd G q o) p o' p=some o'/\upd (upd G q o) p o' q=some o/\(∀ b u,b≠p->G b=some u->upd (upd G q o) p o' b=some u)/\∀ b,upd (upd G q o) p o' b=none->G b=none/\b≠q/\b≠p:=by
 have hpq:p≠q:=zah gp nq
 refine ⟨zab,by rw [zae hpq.symm,zab],λ b u hb e=>by rw [zae hb,zae (zah e nq)]; exact e,λ b e=>?_⟩
 have h1:b≠p:=λ z=>by rw [z,zab] at e; cases e
 rw [zae h1] at e
 have h2:b≠q:=λ z=>by rw [z,zab] at e; cases e
 rw [zae h2] at e
 exact ⟨e,h2,h1⟩
end TP
namespace TP
open PySem L2 TH
theorem zsg {α β:Type} [DecidableEq α] (f:α->β) (a:α) (x y:β):up (up f a x) a y=up f a y:=by
 funext b; by_cases h:b=a
 . subst h; rw [zag,zag]
 . rw [zam h,zam h,zam h]
theorem zs9 {K:Type} [DecidableEq K] (t:HS K) (d:Nat) (a:Act K) (h:a.wr=true):doIt t d a={ n:=t.n,deed:=up (up t.deed d { t.deed d with st:=.zan }) d { (up t.deed d { t.deed d with st:=.zan }) d with done:=((up t.deed d { t.deed d with st:=.zan }) d).done++[a] },held:=t.held,rows:=t.rows,book:=up t.book a.key (some a.val),seen:=t.seen,log:=t.log++[.write d a.key ((t.book a.key).getD 0) a.val],kept:=t.kept }:=by
 unfold doIt; rw [if_pos h,zsg,zag]
theorem zta {K:Type} [DecidableEq K] (t:HS K) (d:Nat) (a:Act K) (h:a.wr=false):doIt t d a={ n:=t.n,deed:=up (up t.deed d { t.deed d with st:=.zan }) d { (up t.deed d { t.deed d with st:=.zan }) d with done:=((up t.deed d { t.deed d with st:=.zan }) d).done++[⟨false,a.key,(t.book a.key).getD 0⟩] },held:=t.held,rows:=t.rows,book:=t.book,seen:=t.seen,log:=t.log,kept:=t.kept }:=by
 unfold doIt; rw [if_neg (by rw [h]; exact Bool.false_ne_true),zsg,zag]
end TP
namespace TP
open PySem L2 TH
def znD (A:Ad):Sp:=λ vs H Q _=>∃ ρ ad s kv d,vs=[.ref (ad Role.hall),.int (d:Nat)]/\zai A ρ ad s kv H/\Core s none/\Sm s/\d < s.n /\
 ∀ H' q,H q=none->Same H H'->H' q=some (.lst (zaC (nxt s d)))->Q (.ref q) H'
def zck (l:List Nat):List (Key×V):=l.map λ (x:Nat)=>(Sum.inl (x:Int),V.bl true)
def zp9 (A:Ad):Sp:=λ vs H Q _=>∃ ρ ad s kv d,vs=[.ref (ad Role.hall),.int (d:Nat)]/\zai A ρ ad s kv H/\Core s none/\Sm s/\d < s.n /\
 ∀ H' q l,Same H H'->H' q=some (.dK (zck l))->l.Nodup->(∀ x,x∈l↔zc9 s d x)->Q (.ref q) H'
def gotV:Option Nat->V
 | none=>.non
 | some g=>.int (g:Int)
def znG (A:Ad):Sp:=λ vs H Q _=>∃ ρ ad s kv d,vs=[.ref (ad Role.hall),.int (d:Nat)]/\zai A ρ ad s kv H/\Core s none/\Head s/\Thru s d/\Sm s/\d < s.n /\
 ∀ H',Same H H'->Q (gotV (rings s).getLast?) H'
theorem zq2 {s:HS Str} (c:Core s none) {d e:Nat} (h:e∈nxt s d):e < s.n:=c.lt (zkg c (zkO h))
theorem zfI (l:List Nat) (x:Nat):(valV (zck l) (Sum.inl (x:Int))).isSome=decide (x∈l):=by
 unfold zck
 induction l with
 | nil=>rfl
 | cons y r ih =>
  rw [List.map_cons]
  by_cases e:y=x
  . rw [zby (zcT.mpr e)]; simp [e]
  . rw [zbz λ z=>e (zcT.mp z),ih]
    simp [Ne.symm e]
theorem zpt {l:List Nat} {x:Nat} (h:x∉l):putK (zck l) (Sum.inl (x:Int)) (V.bl true)=zck (l++[x]):=by
 have hn:valV (zck l) (Sum.inl (x:Int))=none:=by
  have:=zfI l x
  rw [decide_eq_false h] at this
  cases e:valV (zck l) (Sum.inl (x:Int)) with
  | none=>rfl
  | some v=>rw [e] at this; cases this
 rw [zm0 _ hn]
 unfold zck; rw [List.map_append]; rfl
end TP
end
section
namespace TP
open PySem L2 TH
def ub (kv b:Book Str) (ks:List Str):Book Str:=λ k=>if k∈ks then kv k else b k
theorem zro (kv b:Book Str) (ks:List Str) (k:Str):up (ub kv b ks) k (kv k)=ub kv b (ks++[k]):=by
 funext j
 by_cases h:j=k
 . subst h; rw [zag]; unfold ub; rw [if_pos (by simp)]
 . rw [zam h]; unfold ub
   by_cases hj:j∈ks
   . rw [if_pos hj,if_pos (List.mem_append_left _ hj)]
   . rw [if_neg hj,if_neg (by simp [hj,h])]
theorem zga {k:Str}:∀ {l:List (Act Str)},k∈(zat l).map (·.1)↔(zaK l k).isSome=true
 | []=>by simp [zat,zaK]
 | a::r=>by
  have ih:=zga (k:=k) (l:=r)
  have e:zat (a::r)=(if a.wr then [(a.key,a.val)] else [])++zat r:=by
   unfold zat; rw [List.filterMap_cons]
   by_cases h:a.wr=true
   . rw [if_pos h,if_pos h]; rfl
   . rw [if_neg h,if_neg h]; rfl
  rw [e,List.map_append,List.mem_append,ih]
  have el:zaK (a::r) k=match zaK r k with | some v=>some v | none=>if a.wr=true/\a.key=k then some a.val else none:=rfl
  rw [el]
  cases hl:zaK r k with
  | some v=>simp
  | none =>
   by_cases h:a.wr=true
   . by_cases hk:a.key=k
     . simp [h,hk]
     . simp [h,hk,Ne.symm hk]
   . simp [h]
def zon (s:HS Str) (kv:Book Str) (d:Nat):Book Str:=λ k=>if (zaK (s.deed d).done k).isSome then kv k else s.book k
theorem zom (s:HS Str) (kv:Book Str) (d:Nat):ub kv s.book ((zat (s.deed d).done).map (·.1))=zon s kv d:=by
 funext k
 unfold ub zon
 by_cases h:(zaK (s.deed d).done k).isSome=true
 . rw [if_pos h,if_pos (zga.mpr h)]
 . rw [if_neg h,if_neg λ z=>h (zga.mp z)]
def zst (A:Ad):Sp:=λ vs H Q _=>∃ ρ ad s kv d,vs=[.ref (ad Role.hall),.int (d:Nat)]/\zai A ρ ad s kv H/\Sm s/\d < s.n/\(∀ k,kv k≠none->k∈s.seen) /\
 ∀ H',zai A ρ ad { s with book:=zon s kv d } kv H'->Frame ρ H ρ H'->Q .non H'
theorem Ext.zbt {K:Type} [DecidableEq K] {k:K} {f:Nat} {s:HS K} {T:Nat} (E:Ext s T) (c:Core s none):Ext (TH.zbt f s k) T:=by
 refine zen (λ t=>Ext t T) (λ s d w r a c hr hl ha E=>?_) f s c E
 have hm:(d,w)∈s.rows k:=by rw [hr]; exact List.mem_cons_self
 obtain ⟨hst,a',ha',hk',hw'⟩:=c.rAct k _ hm
 rw [ha] at ha'; cases ha'
 refine E.does (a:=zid s a) (d:=d) (by rw [zdN]; rfl) (by rw [zce]; rfl) (c.lt (.inr hst)) (.inr hst) (by rw [zcV]; rfl) zjI (λ k=>zh5) (λ k' e w' h=>?_) ?_ (Nat.le_refl _) (.inl hst)
 . rw [zct] at h
   rcases zjC h with h | ⟨h1,h2⟩
   . exact .inl h
   . exact .inr ⟨h1,by rw [zcu,hk']; exact h2⟩
 . rw [zcu,hk']; exact zcH c hm
theorem zn0 {K:Type} [DecidableEq K] {k:K} {f:Nat} {s:HS K} (c:Core s none):(TH.zbt f s k).seen=s.seen/\(TH.zbt f s k).n=s.n :=
 zen (λ t=>t.seen=s.seen/\t.n=s.n) (λ s d w r a _ _ _ _ h=>⟨by rw [zce]; exact h.1,by rw [zdN]; exact h.2⟩) f s c ⟨rfl,rfl⟩
def zry (A:Ad):Sp:=λ vs H Q _=>∃ ρ ad s kv k T,vs=[.ref (ad Role.hall),.str k]/\zai A ρ ad s kv H/\Core s none/\Lim s T/\k∈s.seen /\
 ∀ H',zai A ρ ad (zbt (s.rows k).length s k) kv H'->Frame ρ H ρ H'->Q .non H'
def ztz (A:Ad):Sp:=λ vs H Q _=>∃ ρ ad s s0 kv d st T,vs=[.ref (ad Role.hall),.int (d:Nat),.str (stS st)]/\zai A ρ ad s kv H/\Core s0 none/\Lim s0 T/\Head s0 /\
 s.deed=s0.deed/\s.held=s0.held/\s.rows=s0.rows/\s.seen=s0.seen/\s.n=s0.n/\Core (letGo (zft s d st) d) none/\Lim (letGo (zft s d st) d) T/\st≠.waiting/\d < s.n /\
 ∀ H' ρ' ad',ad' Role.hall=ad .hall->zai A ρ' ad' (free ordS (zft s d st) d) kv H'->Frame ρ H ρ' H'->Q .non H'
theorem zgI (s:HS Str) (d:Nat):(s.deed d).done.map (·.key)++zc3 (wantOf (s.deed d))=touched s d:=by
 unfold touched wantOf
 congr 1
 by_cases h:(s.deed d).st=.waiting
 . rw [if_pos h,h]
   cases (s.deed d).wish with
   | none=>rfl
   | some a=>rfl
 . rw [if_neg h]
   split
   . contradiction
   . rfl
theorem zi0 {K:Type} [DecidableEq K]:∀ (a b:List K) (s:HS K),zaG s (a++b)=zaG (zaG s a) b
 | [],_,_=>rfl
 | k::r,b,s=>zi0 r b (zbt (s.rows k).length s k)
def zsz (A:Ad):Sp:=λ vs H Q _=>∃ ρ ad s d T,vs=[.ref (ad Role.hall),.int (d:Nat)]/\zai A ρ ad s (zaq s) H/\Core s none/\Lim s T/\Head s/\(s.deed d).act /\
 ∀ H' ρ' ad',ad' Role.hall=ad .hall->zai A ρ' ad' (drop ordS s d) (zaq s) H'->Frame ρ H ρ' H'->Q .non H'
def zss (A:Ad):Sp:=λ vs H Q _=>∃ ρ ad s d a wv T,vs=[.ref (ad Role.hall),.int (d:Nat),wv]/\zai A ρ ad s (zaq s) H/\a.key∈s.seen/\zcv A H wv (some a)/\d < s.n/\Sm s /\
 Core (wait s d a) none/\Head (wait s d a)/\Thru (wait s d a) d/\Lim (wait s d a) T /\
 ∀ H' ρ' ad',ad' Role.hall=ad .hall->zai A ρ' ad' (settle ordS s.n (wait s d a)) (zaq s) H'->Frame ρ H ρ' H'->Q .non H'
end TP
end
section
namespace TH
section
variable {K:Type} [DecidableEq K]
theorem zgG {s:HS K} {ks:List K} (c:Core s none):zaq (zaG s ks)=zaq s:=by
 have:=zbv (λ t=>t.kept=s.kept/\∀ d∈s.kept,(t.deed d).done=(s.deed d).done) (λ t k d w r a ct hr hl ha h=>?_) ks s c ⟨rfl,λ _ _=>rfl⟩
 . exact zbZ this.1 this.2
 . refine ⟨by rw [zep]; exact h.1,λ e he=>?_⟩
   have hne:e≠d:=λ z=>by
    have h1:=(ct.zdi e).mp (by rw [h.1]; exact he)
    have h2:=(ct.rAct k (d,w) (by rw [hr]; exact List.mem_cons_self)).1
    rw [z] at h1
    have h2:(t.deed d).st=.waiting:=h2
    rw [h1] at h2; cases h2
   rw [zcf _ _ _ hne]; exact h.2 e he
variable (ord:List K->List K)
theorem zge {s:HS K} {d:Nat} (c:Core s none) (hd:(s.deed d).act):zaq (drop ord s d)=zaq s:=by
 unfold drop free
 rw [zgG (c.drops hd)]
 refine zbZ rfl λ e he=>?_
 show (up s.deed d { s.deed d with st:=.dropped } e).done=_
 by_cases h:e=d
 . subst h; rw [zag]
 . rw [zam h]
theorem znW {s:HS K} {d:Nat} (c:Core s none) (hd:(s.deed d).act):zaq (keep ord s d)=over (zaq s) (s.deed d).done:=by
 unfold keep free
 rw [zgG (c.keeps hd)]
 show zel (up s.deed d { s.deed d with st:=.kept }) (s.kept++[d]) _=_
 rw [zbo (deed:=s.deed) λ e he=>?_,zfD]
 . rfl
 . by_cases h:e=d
   . subst h; rw [zag]
   . rw [zam h]
theorem zl9 {s:HS K} (c:Core s none):zaq (za1 s)=zaq s:=by
 refine zbZ rfl λ e he=>?_
 have:e≠s.n:=λ z=>by
  have h1:=(c.zdi e).mp he
  have h2:=(c.out e (by omega)).1
  rw [h1] at h2; cases h2
 show (up s.deed s.n _ e).done=_
 rw [zam this]
theorem ziW {s:HS K} {d:Nat} {a:Act K}:zaq (wait s d a)=zaq s:=by
 refine zbZ rfl λ e he=>?_
 show (up s.deed d { s.deed d with st:=.waiting,wish:=some a } e).done=_
 by_cases h:e=d
 . subst h; rw [zag]
 . rw [zam h]
theorem zgF:∀ {f:Nat} {s:HS K},Core s none->zaq (settle ord f s)=zaq s
 | 0,_,_=>rfl
 | f+1,s,c=>by
  unfold settle
  split
  . rfl
  . rename_i d h
    have hd:(s.deed d).act:=by
     have:=(zbD (List.mem_of_getLast? h)).2
     exact .inr (zaI this)
    rw [zgF (c.drop ord hd),zge ord c hd]
variable (hord:∀ l k,k∈ord l↔k∈l)
include hord
theorem zj0 {s:HS K} {d:Nat} {a:Act K} (c:Core s none) (h:Head s) (ac:Acyc s) (hd:(s.deed d).st=.zan) (hf:((has ((see s a.key).held a.key) d || ((see s a.key).rows a.key).isEmpty) && lets ((see s a.key).held a.key) d a.wr)=false) :
   Core (wait (see s a.key) d a) none/\Head (wait (see s a.key) d a)/\Thru (wait (see s a.key) d a) d:=by
 have c1:Core (TH.see s a.key) none:=c.see
 have h':Head (TH.see s a.key):=h
 have ac':Acyc (TH.see s a.key):=ac.mono λ e x h=>h
 have h2:¬ (lets ((TH.see s a.key).held a.key) d a.wr=true/\(has ((TH.see s a.key).held a.key) d=true\/(TH.see s a.key).rows a.key=[])):=λ z=>by
   rw [z.1,Bool.and_true] at hf
   rcases z.2 with z | z
   . rw [z] at hf; cases hf
   . rw [z] at hf; simp at hf
 have hw:∀ w',(d,w')∈(TH.see s a.key).held a.key->w'=false/\a.wr=true:=λ w' z=>by
   have q:=zcS (c1.hNd _) z
   have hh:has ((TH.see s a.key).held a.key) d=true:=zjH q
   have hl:lets ((TH.see s a.key).held a.key) d a.wr=false:=by
     cases e:lets ((TH.see s a.key).held a.key) d a.wr with
     | false=>rfl
     | true=>exact absurd ⟨e,.inl hh⟩ h2
   have no:∃ p∈(TH.see s a.key).held a.key,p.1≠d/\(a.wr || p.2)=true:=by
     unfold lets at hl
     have:=List.all_eq_false.mp hl
     obtain ⟨p,hp,hq⟩:=this
     refine ⟨p,hp,?_⟩
     by_cases z:p.1=d
     . simp [z] at hq
     . refine ⟨z,?_⟩
       simp [z] at hq
       cases h1:a.wr <;> cases h2:p.2 <;> simp [h1,h2] at hq ⊢
   obtain ⟨p,hp,hne,hu⟩:=no
   cases hw':w' with
   | true=>subst hw'; exact absurd (c1.hEx a.key d z p hp) hne
   | false =>
     refine ⟨rfl,?_⟩
     cases ha:a.wr with
     | true=>rfl
     | false =>
       rw [ha] at hu
       have hp2:p.2=true:=by simpa using hu
       have hpm:(p.1,true)∈(TH.see s a.key).held a.key:=by rw [<-hp2]; exact hp
       exact absurd (c1.hEx a.key p.1 hpm _ z).symm hne
 refine ⟨c1.wait hd zb5 hw,λ k e w r q=>?_,Thru.wait ac'⟩
 show lets ((TH.see s a.key).held k) e w=false
 by_cases hk:k=a.key
 . subst hk
   have q':(if has ((TH.see s a.key).held a.key) d then (d,a.wr)::(TH.see s a.key).rows a.key else (TH.see s a.key).rows a.key++[(d,a.wr)])=(e,w)::r:=by
     rw [<-q]; exact zag.symm
   cases hh:has ((TH.see s a.key).held a.key) d with
   | true =>
     rw [hh] at q'
     simp only [if_true] at q'
     injection q' with e1 e2
     have e3:d=e:=congrArg Prod.fst e1
     have e4:a.wr=w:=congrArg Prod.snd e1
     subst e3 e4
     cases hl:lets ((TH.see s a.key).held a.key) d a.wr with
     | false=>rfl
     | true=>exact absurd ⟨hl,.inl hh⟩ h2
   | false =>
     rw [hh] at q'
     simp only [Bool.false_eq_true,if_false] at q'
     cases hr:(TH.see s a.key).rows a.key with
     | nil =>
       rw [hr] at q'
       simp only [List.nil_append] at q'
       injection q' with e1 e2
       have e3:d=e:=congrArg Prod.fst e1
       have e4:a.wr=w:=congrArg Prod.snd e1
       subst e3 e4
       cases hl:lets ((TH.see s a.key).held a.key) d a.wr with
       | false=>rfl
       | true=>exact absurd ⟨hl,.inr hr⟩ h2
     | cons p t =>
       rw [hr] at q'
       simp only [List.cons_append] at q'
       injection q' with e1 e2
       subst e1
       exact h' a.key e w t hr
 . have q':(TH.see s a.key).rows k=(e,w)::r:=by rw [<-q]; exact (zam hk).symm
   exact h' k e w r q'
omit hord
def Did (d:Nat) (t:HS K):Prop:=(t.deed d).st=.zan\/(t.deed d).st=.kept->(t.deed d).done≠[]
theorem Did.doIt {t:HS K} {d e:Nat} {a:Act K} (h:Did d t):Did d (doIt t e a):=λ q=>by
 by_cases z:d=e
 . subst z; rw [zcV,zag]; simp
 . rw [zcf _ _ _ z] at q ⊢; exact h q
theorem Did.self {t:HS K} {d:Nat} {a:Act K}:Did d (TH.doIt t d a):=λ q=>by rw [zcV,zag]; simp
theorem Did.zaG {t:HS K} {d:Nat} {ks:List K} (c:Core t none) (h:Did d t):Did d (zaG t ks) :=
 zbv (Did d) (λ s k e w r a _ _ _ _ h=>Did.doIt (t:=take { s with rows:=up s.rows k r } e k w) h) ks t c h
theorem Did.drop {t:HS K} {d g:Nat} (c:Core t none) (hg:(t.deed g).act) (h:Did d t):Did d (drop ord t g):=by
 refine Did.zaG (c.drops hg) λ q=>?_
 have q':(up t.deed g { t.deed g with st:=.dropped } d).st=.zan\/(up t.deed g { t.deed g with st:=.dropped } d).st=.kept:=q
 show (up t.deed g { t.deed g with st:=.dropped } d).done≠[]
 by_cases z:d=g
 . subst z; rw [zag] at q'; rcases q' with q' | q' <;> cases q'
 . rw [zam z] at q' ⊢; exact h q'
theorem Did.settle {d:Nat}:∀ {f:Nat} {t:HS K},Core t none->Did d t->Did d (settle ord f t)
 | 0,_,_,h=>h
 | f+1,t,c,h=>by
  unfold TH.settle
  split
  . exact h
  . rename_i g hg
    have ha:(t.deed g).act:=.inr (zaI (zbD (List.mem_of_getLast? hg)).2)
    exact Did.settle (c.drop ord ha) (h.drop ord c ha)
theorem Did.wait {s:HS K} {d:Nat} {a:Act K}:Did d (wait s d a):=λ q=>by
 have q':(up s.deed d { s.deed d with st:=.waiting,wish:=some a } d).st=.zan\/(up s.deed d { s.deed d with st:=.waiting,wish:=some a } d).st=.kept:=q
 rw [zag] at q'; rcases q' with q' | q' <;> cases q'
end
end TH
namespace TP
open PySem L2 TH
theorem Lim.letGo {s:HS Str} {T d:Nat} (L:Lim s T) {t:HS Str} (E:Ext (TH.letGo t d) T) (hn:t.n=s.n) (hs:t.seen=s.seen):Lim (TH.letGo t d) T:=⟨E,L.t,by show t.n<=63; rw [hn]; exact L.n,by show t.seen.length<=4; rw [hs]; exact L.sn⟩
theorem zhW {s:HS Str} {d:Nat} (c:Core s none) (hd:(s.deed d).act):(drop ordS s d).seen=s.seen:=zdH _ _ (c.drops hd)
theorem Lim.drop {s:HS Str} {T d:Nat} (L:Lim s T) (c:Core s none) (hd:(s.deed d).act):Lim (TH.drop ordS s d) T:=⟨L.e.drop ordS c hd,L.t,by rw [zkT ordS c hd]; exact L.n,by rw [zhW c hd]; exact L.sn⟩
theorem zhP {s:HS Str} {d:Nat} (c:Core s none) (hd:(s.deed d).act):(keep ordS s d).seen=s.seen:=zdH _ _ (c.keeps hd)
theorem Lim.keep {s:HS Str} {T d:Nat} (L:Lim s T) (c:Core s none) (hd:(s.deed d).act):Lim (TH.keep ordS s d) T:=⟨L.e.keep ordS c hd,L.t,by rw [znd ordS c hd]; exact L.n,by rw [zhP c hd]; exact L.sn⟩
theorem Lim.drops {s:HS Str} {T d:Nat} (L:Lim s T) (c:Core s none) (hd:(s.deed d).act):Lim (TH.letGo (zpA s d) d) T :=
 L.letGo (L.e.ends (t:=.dropped) (bk:=λ k=>if (zaK (s.deed d).done k).isSome then zaq s k else s.book k) (kp:=s.kept) (r:=.drop d) c hd (.inr rfl) (λ k h=>by
  split at h
  . exact L.e.zo7 k h
  . exact L.e.zgR k h)) rfl rfl
theorem Lim.keeps {s:HS Str} {T d:Nat} (L:Lim s T) (c:Core s none) (hd:(s.deed d).act):Lim (TH.letGo (zpb s d) d) T :=
 L.letGo (L.e.ends (t:=.kept) (bk:=s.book) (kp:=s.kept++[d]) (r:=.keep d) c hd (.inl rfl) L.e.zgR) rfl rfl
def zk2 (D:Deed Str):Int:=(D.done.getLast?.map (·.val)).getD 0
def ansV (D:Deed Str) (wr:Bool):List V:=match D.st with
 | .dropped=>[.str "given up"]
 | .waiting=>[.str "waits"]
 | _=>if wr then [.str "done"] else [.str "value",.int (zk2 D)]
def zqa (A:Ad):Sp:=λ vs H Q _=>∃ ρ ad s kv d a wv,vs=[.ref (ad Role.hall),.int (d:Nat),wv]/\zai A ρ ad s kv H/\zcv A H wv (some a)/\d < s.n/\Did d s /\
 ∀ H' q,H q=none->Same H H'->H' q=some (.tup (ansV (s.deed d) a.wr))->Q (.ref q) H'
structure Ready (s:HS Str) (T:Nat):Prop where
 c:Core s none
 h:Head s
 a:Acyc s
 L:Lim s T
theorem Sm.see {s:HS Str} {T:Nat} (R:Ready s T) {k:Str} (h:(TH.see s k).seen.length<=4) (t:T+1<=1000):Sm (TH.see s k):=Lim.sm (T:=T+1) (x:=none) ⟨R.L.e.see,t,R.L.n,h⟩ R.c.see
theorem Lim.wish {s:HS Str} {T d:Nat} {a:Act Str} (R:Ready s T) (hd:(s.deed d).st=.zan) (h:(TH.see s a.key).seen.length<=4) (t:T+1<=1000) (hn:(TH.wish ordS s d a).n=s.n) (hs:(TH.wish ordS s d a).seen=(TH.see s a.key).seen):Lim (TH.wish ordS s d a) (T+1) :=
 ⟨R.L.e.wish ordS R.c hd,t,by rw [hn]; exact R.L.n,by rw [hs]; exact h⟩
theorem Lim.wait {s:HS Str} {T d:Nat} {a:Act Str} (R:Ready s T) (hd:(s.deed d).st=.zan) (h:(TH.see s a.key).seen.length<=4) (t:T+1<=1000):Lim (TH.wait (TH.see s a.key) d a) (T+1) :=
 ⟨Ext.wait (s:=TH.see s a.key) R.L.e.see hd (λ e=>by have:=R.L.e.dn e; exact Nat.succ_le_succ this) (by have:=R.L.e.lg; show s.log.length+zdx s+actN s+2<=_; omega),t,R.L.n,h⟩
theorem zhd:∀ {f:Nat} {s:HS Str},Core s none->(settle ordS f s).seen=s.seen/\(settle ordS f s).n=s.n
 | 0,_,_=>⟨rfl,rfl⟩
 | f+1,s,c=>by
  unfold TH.settle
  split
  . exact ⟨rfl,rfl⟩
  . rename_i d h
    have hd:(s.deed d).act:=.inr (zaI (zbD (List.mem_of_getLast? h)).2)
    obtain ⟨h1,h2⟩:=zhd (f:=f) (c.drop ordS hd)
    exact ⟨by rw [h1,zhW c hd],by rw [h2,zkT ordS c hd]⟩
theorem zcJ {s:HS Str} {T d:Nat} {a:Act Str} (R:Ready s T) (hd:(s.deed d).st=.zan):(wish ordS s d a).n=s.n/\(wish ordS s d a).seen=(see s a.key).seen/\zaq (wish ordS s d a)=zaq s/\Did d (wish ordS s d a):=by
 rw [zg5 ordS R.c]
 split
 . refine ⟨by rw [zdN]; rfl,by rw [zce]; rfl,zbZ (zep _ _ _) λ e he=>?_,Did.self⟩
   have hne:e≠d:=λ z=>by
    have h1:=(R.c.zdi e).mp he
    rw [z,hd] at h1; cases h1
   rw [zcf _ _ _ hne]; rfl
 . rename_i h
   obtain ⟨c1,_,_⟩:=zj0 ordS (λ l k=>zaV) R.c R.h R.a hd (by simpa using h)
   obtain ⟨s1,s2⟩:=zhd (f:=s.n) c1
   exact ⟨by rw [s2]; rfl,by rw [s1]; rfl,by rw [zgF ordS c1,ziW]; rfl,Did.settle ordS c1 Did.wait⟩
theorem Ready.wish {s:HS Str} {T d:Nat} {a:Act Str} (R:Ready s T) (hd:(s.deed d).st=.zan) (h:(see s a.key).seen.length<=4) (t:T+1<=1000):Ready (TH.wish ordS s d a) (T+1) :=
 let F:=zcJ (a:=a) R hd
 ⟨R.c.wish ordS hd,Head.wish ordS (λ l k=>zaV) R.c R.h hd,R.a.wish ordS R.c hd,Lim.wish R hd h t F.1 F.2.1⟩
theorem Ready.drop {s:HS Str} {T d:Nat} (R:Ready s T) (hd:(s.deed d).act):Ready (TH.drop ordS s d) T:=⟨R.c.drop ordS hd,Head.drop ordS (λ l k=>zaV) R.c hd,R.a.drop ordS R.c hd,R.L.drop R.c hd⟩
theorem Ready.keep {s:HS Str} {T d:Nat} (R:Ready s T) (hd:(s.deed d).act):Ready (TH.keep ordS s d) T:=⟨R.c.keep ordS hd,Head.keep ordS (λ l k=>zaV) R.c hd,R.a.keep ordS R.c hd,R.L.keep R.c hd⟩
theorem Ready.za1 {s:HS Str} {T:Nat} (R:Ready s T) (hn:s.n < 63) (t:T+1<=1000):Ready (TH.za1 s) (T+1):=⟨R.c.za1,R.h,R.a.za1 R.c,⟨R.L.e.za1 R.c,t,hn,R.L.sn⟩⟩
theorem Ready.empty:Ready (TH.empty:HS Str) 0:=⟨All.empty.c,All.empty.h,All.empty.a,Ext.empty,by decide,by decide,by decide⟩
end TP
end
section
namespace TP
open PySem L2 TH
def zsB (A:Ad):Sp:=λ vs H Q _=>∃ ρ ad s d a pw dw T,vs=[.ref (ad Role.hall),.int (d:Nat),.ref pw]/\zai A ρ ad s (zaq s) H/\Ready s T/\T+1<=1000/\(see s a.key).seen.length<=4/\(s.deed d).st=.zan/\H pw=some (.ins A.zdY dw (zrl a))/\ρ pw=.other /\
 ∀ H' ρ' ad' q,ad' Role.hall=ad .hall->zai A ρ' ad' (wish ordS s d a) (zaq s) H'->Frame ρ H ρ' H'->H' q=some (.tup (ansV ((wish ordS s d a).deed d) a.wr))->ρ' q=.other->Q (.ref q) H'
def zmz (A:Ad) (s:HS Str) (i:Int) (H:Hp) (E:XK) (G:Nat->Prop):Prop :=
 (∃ d:Nat,i=d/\d < s.n/\((s.deed d).st=.zan/\G d\/(s.deed d).st≠.zan/\E (.ref A.zcW) none H))\/Out A s i H E
def zsv (A:Ad):Sp:=λ vs H Q E=>∃ ρ ad s i k T,vs=[.ref (ad Role.hall),.int i,.str k]/\zai A ρ ad s (zaq s) H/\Ready s T/\T+1<=1000/\(see s k).seen.length<=4 /\
 zmz A s i H E λ d=>∀ H' ρ' ad' q,ad' Role.hall=ad .hall->zai A ρ' ad' (wish ordS s d ⟨false,k,0⟩) (zaq s) H'->Frame ρ H ρ' H'->H' q=some (.tup (ansV ((wish ordS s d ⟨false,k,0⟩).deed d) false))->ρ' q=.other->Q (.ref q) H'
def zrw (A:Ad):Sp:=λ vs H Q E=>∃ ρ ad s i k v T,vs=[.ref (ad Role.hall),.int i,.str k,.int v]/\zai A ρ ad s (zaq s) H/\Ready s T/\T+1<=1000/\(see s k).seen.length<=4 /\
 zmz A s i H E λ d=>∀ H' ρ' ad' q,ad' Role.hall=ad .hall->zai A ρ' ad' (wish ordS s d ⟨true,k,v⟩) (zaq s) H'->Frame ρ H ρ' H'->H' q=some (.tup (ansV ((wish ordS s d ⟨true,k,v⟩).deed d) true))->ρ' q=.other->Q (.ref q) H'
def zsy (A:Ad):Sp:=λ vs H Q E=>∃ ρ ad s i T,vs=[.ref (ad Role.hall),.int i]/\zai A ρ ad s (zaq s) H/\Ready s T /\
 zmz A s i H E λ d=>∀ H' ρ' ad',ad' Role.hall=ad .hall->zai A ρ' ad' (keep ordS s d) (zaq (keep ordS s d)) H'->Frame ρ H ρ' H'->Q .non H'
def zp7 (A:Ad):Sp:=λ vs H Q E=>∃ ρ ad s i T,vs=[.ref (ad Role.hall),.int i]/\zai A ρ ad s (zaq s) H/\Ready s T /\
 ((∃ d:Nat,i=d/\d < s.n/\((s.deed d).act/\(∀ H' ρ' ad',ad' Role.hall=ad .hall->zai A ρ' ad' (drop ordS s d) (zaq (drop ordS s d)) H'->Frame ρ H ρ' H'->Q .non H')\/¬ (s.deed d).act/\E (.ref A.zcW) none H))\/Out A s i H E)
def znE (A:Ad):Sp:=λ vs H Q _=>∃ ρ ad s kv,vs=[.ref (ad Role.hall)]/\zai A ρ ad s kv H/\s.seen.length<=4/\s.seen.Nodup/\(∀ k,kv k≠none->k∈s.seen) /\
 ∀ H' q us ks,Same H H'->H' q=some (.tup us)->(∀ k,k∈ks↔kv k≠none)->zap H' us (zml ks kv)->Q (.ref q) H'
def zrx (A:Ad):Sp:=λ vs H Q _=>∃ ρ ad s kv,vs=[.ref (ad Role.hall)]/\zai A ρ ad s kv H/\s.kept.length<=1000/\∀ H' q,Same H H'->H' q=some (.tup (zaC s.kept))->Q (.ref q) H'
def zp8 (A:Ad):Sp:=λ vs H Q E=>∃ ρ ad s kv i,vs=[.ref (ad Role.hall),.int i]/\zai A ρ ad s kv H/\s.n<=1000/\(∀ d,(s.deed d).done.length<=2000) /\
 ((∃ d:Nat,i=d/\d < s.n/\∀ H' q us,Same H H'->H' q=some (.tup us)->zap H' us ((s.deed d).done.map actV)->Q (.ref q) H')\/Out A s i H E)
def wb (b:Book Str) (l:List (Str×Int)):Book Str:=l.foldl (λ b p=>up b p.1 (some p.2)) b
theorem zrk (b:Book Str) (l:List (Str×Int)) (p:Str×Int):wb b (l++[p])=up (wb b l) p.1 (some p.2):=by unfold wb; rw [List.foldl_append]; rfl
theorem zlB:∀ (l:List (Act Str)) (b:Book Str),wb b (zat l)=over b l
 | [],b=>rfl
 | a::r,b=>by
  have e:zat (a::r)=(if a.wr then [(a.key,a.val)] else [])++zat r:=by
    unfold zat; rw [List.filterMap_cons]
    by_cases h:a.wr=true
    . rw [if_pos h,if_pos h]; rfl
    . rw [if_neg h,if_neg h]; rfl
  rw [e]
  by_cases h:a.wr=true
  . rw [if_pos h]; unfold over; rw [if_pos h]; exact zlB r _
  . rw [if_neg h]; unfold over; rw [if_neg h]; exact zlB r _
theorem zok:∀ {l:List (Str×Int)} {b:Book Str} {k:Str},wb b l k≠none->b k≠none\/k∈l.map (·.1)
 | [],_,_,h=>.inl h
 | p::r,b,k,h=>by
  rcases zok (l:=r) (b:=up b p.1 (some p.2)) h with h | h
  . by_cases z:k=p.1
    . exact .inr (by rw [z]; exact List.mem_cons_self)
    . rw [zam z] at h; exact .inl h
  . exact .inr (List.mem_cons_of_mem _ h)
theorem zlA {s:HS Str} {T:Nat} (E:Ext s T) {d:Nat} {k:Str} (h:k∈(zat (s.deed d).done).map (·.1)):k∈s.seen:=by
 obtain ⟨p,hp,rfl⟩:=List.mem_map.mp h
 unfold zat at hp
 obtain ⟨a,ha,hq⟩:=List.mem_filterMap.mp hp
 by_cases z:a.wr=true
 . rw [if_pos z] at hq; cases hq; exact E.zgn d a ha
 . rw [if_neg z] at hq; cases hq
end TP
end
section
namespace TP
open PySem L2 TH
def za2 (ns:List Int) (k:Nat):Int:=ns.getD k 0
def mixF (c p m:Int):Int:=c * 48271 % p % m
theorem ziQ {c p m:Int} (h:0 < m):0<=mixF c p m/\mixF c p m < m:=⟨Int.emod_nonneg _ (by omega),Int.emod_lt_of_pos _ h⟩
theorem zlZ {c p:Int} {m:Nat} (h:0 < m):∃ n:Nat,mixF c p m=n/\n < m:=by
 obtain ⟨h1,h2⟩:=ziQ (c:=c) (p:=p) (m:=(m:Int)) (by omega)
 exact ⟨(mixF c p m).toNat,by omega,by omega⟩
def pick (l:Str) (i:Nat):Str:=match l.cps.toList[i]? with
 | some c=>⟨#[c]⟩
 | none=>Str.empty
def abc:Str := "abcdefghijklmnopqrstuvwxyz"
def zdy (seed:Int):List Str:=(List.range (mixF seed 9967 4).toNat).map λ (j:Nat)=>pick abc (mixF (seed+5 * (j:Int)) 9973 26).toNat
def zhN (ns:List Int) (k:Nat):Str:=pick "qrst" k++Txt.join "" (zdy (za2 ns 0+7 * (k:Int)))
open Classical in
noncomputable def keyF (ns:List Int) (k:Nat):Str:=if k=3/\za2 ns 0 % 2=0 then (if zhN ns 0 = "q" then "qa" else "q") else zhN ns k
theorem zjr {l:Str} {i:Nat} (h:i < l.cps.size):∃ c,atI l.cps.toList (i:Int)=some c/\pick l i=⟨#[c]⟩:=by
 have hl:i < l.cps.toList.length:=by simpa using h
 refine ⟨l.cps.toList[i],zbq (by rw [List.getElem?_eq_getElem hl]),?_⟩
 unfold pick; rw [List.getElem?_eq_getElem hl]
theorem zqh (l:Str) (i:Nat):(pick l i).length<=1:=by
 unfold pick; split
 . exact Nat.le_refl _
 . exact Nat.zero_le _
theorem zp2 (seed:Int):(zdy seed).length<=3:=by
 unfold zdy; rw [List.length_map,List.length_range]
 have:=ziQ (c:=seed) (p:=9967) (m:=4) (by decide)
 omega
theorem zoU {a b:Str} (h:PyData.strOk a=true) (g:PyData.strOk b=true):PyData.strOk (a++b)=true:=by
 unfold PyData.strOk at *
 show (a.cps++b.cps).all _=true
 simp [h,g]
theorem zoT {l:Str} (h:PyData.strOk l=true) (i:Nat):PyData.strOk (pick l i)=true:=by
 unfold pick
 split
 . rename_i c hc
   unfold PyData.strOk at h ⊢
   rw [Array.all_eq_true_iff_forall_mem] at h
   have:=h c (by have:=List.mem_of_getElem? hc; simpa using this)
   simpa using this
 . decide +kernel
theorem zrU:∀ {l:List Str},(∀ x∈l,PyData.strOk x=true)->PyData.strOk (Txt.join "" l)=true:=λ {l} h=>by
 have main:∀ (r:List Str) (a:Array Nat),(∀ x∈r,PyData.strOk x=true)->PyData.strOk ⟨a⟩=true->PyData.strOk ⟨r.foldl (λ acc p=>acc++("" : Str).cps++p.cps) a⟩=true:=λ r=>by
  induction r with
  | nil=>intro a _ h; exact h
  | cons x r ih =>
   intro a hx ha
   refine ih _ (λ y hy=>hx y (List.mem_cons_of_mem _ hy)) ?_
   have h1:=zoU (a:=⟨a⟩) (b := "") ha (by decide +kernel)
   exact zoU (a:=⟨a++("" : Str).cps⟩) (b:=x) h1 (hx x List.mem_cons_self)
 refine main (l.drop 1) _ (λ x hx=>h x (List.mem_of_mem_drop hx)) ?_
 cases l with
 | nil=>decide +kernel
 | cons x r=>exact h x List.mem_cons_self
theorem zq8 (ns:List Int) (k:Nat):PyData.strOk (keyF ns k)=true:=by
 have h0:∀ k,PyData.strOk (zhN ns k)=true:=λ k=>zoU (zoT (by decide +kernel) k) (zrU λ x hx=>by
   unfold zdy at hx
   obtain ⟨j,_,rfl⟩:=List.mem_map.mp hx
   exact zoT (by decide +kernel) _)
 unfold keyF
 split
 . split <;> decide +kernel
 . exact h0 k
theorem znh {l:List Str}:(l.map (·.length)).sum+l.length * ("" : Str).length=(l.map (·.length)).sum:=by
 have:("" : Str).length=0:=by decide +kernel
 rw [this]; omega
theorem zk5 (l:List Str):(Txt.join "" l).length<=(l.map (·.length)).sum:=by
 have e0:("" : Str).cps.size=0:=by decide +kernel
 have main:∀ (r:List Str) (a:Array Nat),(r.foldl (λ acc p=>acc++("" : Str).cps++p.cps) a).size=a.size+(r.map (·.length)).sum:=λ r=>by
  induction r with
  | nil=>intro a; rfl
  | cons x r ih =>
   intro a
   rw [List.foldl_cons,ih,List.map_cons,List.sum_cons,Array.size_append,Array.size_append,e0]
   have:x.cps.size=x.length:=rfl
   omega
 cases l with
 | nil=>exact Nat.le_refl _
 | cons x r =>
  have:=main r x.cps
  rw [List.map_cons,List.sum_cons]
  exact Nat.le_of_eq this
theorem zg0 (seed:Int):((zdy seed).map (·.length)).sum<=3:=by
 have h1:=zp2 seed
 have h2:∀ l:List Str,(∀ x∈l,x.length<=1)->(l.map (·.length)).sum<=l.length:=λ l=>by
  induction l with
  | nil=>intro _; exact Nat.le_refl _
  | cons x r ih=>intro h; rw [List.map_cons,List.sum_cons,List.length_cons]; have:=h x List.mem_cons_self; have:=ih λ y hy=>h y (List.mem_cons_of_mem _ hy); omega
 have h3:=h2 (zdy seed) λ x hx=>by
  unfold zdy at hx
  obtain ⟨j,_,rfl⟩:=List.mem_map.mp hx
  exact zqh _ _
 omega
def zsA (K:PySem.W.Frag):Sp:=λ vs H Q _=>∃ (a:Addr) (ns:List Int) (k:Nat),vs=[.ref a,.int k]/\SqL K H a (ns.map V.int)/\Q (.int (za2 ns k)) H
def ztw:Sp:=λ vs H Q _=>∃ c p m:Int,vs=[.int c,.int p,.int m]/\0 < p/\0 < m/\Q (.int (mixF c p m)) H
def spNo:Sp:=λ _ _ _ _=>False
def zsx (K:PySem.W.Frag):Sp:=λ vs H Q _=>∃ (a:Addr) (ns:List Int) (k:Nat),vs=[.ref a,.int k]/\SqL K H a (ns.map V.int)/\k < 3/\∀ H',Same H H'->Q (.str (zhN ns k)) H'
def zty (K:PySem.W.Frag):Sp:=λ vs H Q _=>∃ (a:Addr) (ns:List Int) (k:Nat),vs=[.ref a,.int k]/\SqL K H a (ns.map V.int)/\k < 4/\∀ H',Same H H'->Q (.str (keyF ns k)) H'
inductive LAct where
 | begin | read (d:Nat) (k:Str) | write (d:Nat) (k:Str) (v:Int) | keep (d:Nat) | drop (d:Nat)
def actD:LAct->List V
 | .begin=>[.str "begin"]
 | .read d k=>[.str "read",.int (d:Int),.str k]
 | .write d k v=>[.str "write",.int (d:Int),.str k,.int v]
 | .keep d=>[.str "keep",.int (d:Int)]
 | .drop d=>[.str "give up",.int (d:Int)]
def zmy (ns:List Int) (k:Str):Prop:=∃ j,j < 4/\k=keyF ns j
def okA (ns:List Int) (b:Nat):LAct->Prop
 | .begin=>True
 | .read d k=>d < b/\zmy ns k
 | .write d k _=>d < b/\zmy ns k
 | .keep d=>d < b
 | .drop d=>d < b
def LAct.isB:LAct->Nat
 | .begin=>1
 | _=>0
def zc7 (l:List LAct):Nat:=(l.map LAct.isB).sum
def Valid (ns:List Int) (l:List LAct):Prop:=∀ i a,l[i]?=some a->okA ns (zc7 (l.take i)) a
theorem Valid.snoc {ns:List Int} {l:List LAct} {a:LAct} (v:Valid ns l) (h:okA ns (zc7 l) a):Valid ns (l++[a]):=λ i b hb=>by
 by_cases hi:i < l.length
 . rw [List.getElem?_append_left hi] at hb
   have:=v i b hb
   rwa [List.take_append_of_le_length (by omega)]
 . rw [List.getElem?_append_right (by omega)] at hb
   have hi2:i - l.length=0:=by
    have:=(List.getElem?_eq_some_iff.mp hb).1
    simp at this; omega
   rw [hi2] at hb
   cases hb
   have:i=l.length:=by omega
   subst this
   rw [List.take_append_of_le_length (Nat.le_refl _),List.take_length]; exact h
theorem zfn (l:List LAct) (a:LAct):zc7 (l++[a])=zc7 l+a.isB:=by unfold zc7; rw [List.map_append,List.sum_append]; simp
theorem zrb (a:LAct):a.isB<=1:=by cases a <;> first | exact Nat.le_refl 1 | exact Nat.zero_le 1
theorem zlo (l:List LAct):zc7 l<=l.length:=by
 unfold zc7
 induction l with
 | nil=>exact Nat.zero_le _
 | cons a r ih=>rw [List.map_cons,List.sum_cons,List.length_cons]; have:=zrb a; omega
theorem zpO (a:LAct):∃ t,actD a=.str t::(actD a).tail/\(decide (V.str t=V.str "begin"))=decide (a.isB=1):=by
 cases a <;> refine ⟨_,rfl,?_⟩ <;> first | rfl | exact decide_eq_false λ z=>by have:=V.str.inj z; revert this; decide +kernel
def ztB (K:PySem.W.Frag):Sp:=λ vs H Q _=>∃ (a:Addr) (ns:List Int) (c:Int) (b:Nat),vs=[.ref a,.int c,.int b]/\SqL K H a (ns.map V.int)/\0 < b/\∀ H' q A,H q=none->Same H H'->H' q=some (.tup (actD A))->okA ns b A->Q (.ref q) H'
def zsC (K:PySem.W.Frag):Sp:=λ vs H Q _=>∃ (a:Addr) (ns:List Int),vs=[.ref a]/\SqL K H a (ns.map V.int)/\∀ H' q us As,H q=none->Same H H'->H' q=some (.lst us)->zap H' us (As.map actD)->(∀ p,V.ref p∈us->H p=none)->Valid ns As->As.length<=63->Q (.ref q) H'
end TP
end
section
namespace TP
open PySem L2 TH
theorem zkQ {α:Type} [DecidableEq α]:∀ (a b:List α),a.Nodup->(∀ x∈a,x∈b)->a.length<=b.length
 | [],b,_,_=>Nat.zero_le _
 | x::r,b,nd,hs=>by
  obtain ⟨n1,n2⟩:=List.nodup_cons.mp nd
  have hx:=hs x List.mem_cons_self
  have:=zkQ r (b.erase x) n2 λ z hz=>(List.mem_erase_of_ne (show z≠x from λ e=>n1 (e ▸ hz))).mpr (hs z (List.mem_cons_of_mem _ hz))
  rw [List.length_erase_of_mem hx] at this
  have hpos:0 < b.length:=List.length_pos_of_mem hx
  simp only [List.length_cons]; omega
theorem ztI {ns:List Int} {l:List Str} (nd:l.Nodup) (h:∀ k∈l,zmy ns k):l.length<=4:=by
 have:=zkQ l ((List.range 4).map (keyF ns)) nd λ k hk=>by
  obtain ⟨j,hj,rfl⟩:=h k hk
  exact List.mem_map.mpr ⟨j,List.mem_range.mpr hj,rfl⟩
 simpa using this
theorem zo3 {s:HS Str} {k x:Str}:x∈(see s k).seen↔x=k\/x∈s.seen:=by
 show x∈(if k∈s.seen then s.seen else s.seen++[k])↔_
 split
 . rename_i h; exact ⟨.inr,λ q=>q.elim (λ z=>z ▸ h) id⟩
 . rw [List.mem_append,List.mem_singleton]; exact Or.comm
theorem see4 {ns:List Int} {s:HS Str} {T:Nat} {k:Str} (E:Ext s T) (h:∀ k∈s.seen,zmy ns k) (hk:zmy ns k):(see s k).seen.length<=4 :=
 ztI (E.see (k:=k)).snd λ x hx=>(zo3.mp hx).elim (λ z=>z ▸ hk) (h x)
noncomputable def zcY (s:HS Str):LAct->HS Str
 | .begin=>za1 s
 | .read d k=>if (s.deed d).st=.zan then wish ordS s d ⟨false,k,0⟩ else s
 | .write d k v=>if (s.deed d).st=.zan then wish ordS s d ⟨true,k,v⟩ else s
 | .keep d=>if (s.deed d).st=.zan then keep ordS s d else s
 | .drop d=>if (s.deed d).st=.zan\/(s.deed d).st=.waiting then drop ordS s d else s
theorem zd4 (s:HS Str) (d:Nat) (k:Str):zcY s (.read d k)=if (s.deed d).st=.zan then wish ordS s d ⟨false,k,0⟩ else s:=rfl
theorem zdk (s:HS Str) (d:Nat) (k:Str) (v:Int):zcY s (.write d k v)=if (s.deed d).st=.zan then wish ordS s d ⟨true,k,v⟩ else s:=rfl
theorem zfs (s:HS Str) (d:Nat):zcY s (.keep d)=if (s.deed d).st=.zan then keep ordS s d else s:=rfl
theorem step_drop (s:HS Str) (d:Nat):zcY s (.drop d)=if (s.deed d).st=.zan\/(s.deed d).st=.waiting then drop ordS s d else s:=rfl
theorem Ready.mono {s:HS Str} {T:Nat} (R:Ready s T) (h:T+1<=1000):Ready s (T+1):=⟨R.c,R.h,R.a,⟨R.L.e.mono (Nat.le_succ _),h,R.L.n,R.L.sn⟩⟩
structure Run (ns:List Int) (s:HS Str) (T:Nat):Prop where
 r:Ready s T
 k:∀ k∈s.seen,zmy ns k
theorem Run.step {ns:List Int} {s:HS Str} {T:Nat} (R:Run ns s T) (ht:T+1<=1000) (hn:s.n < 63) {a:LAct} (ok:okA ns s.n a):Run ns (zcY s a) (T+1)/\(zcY s a).n=s.n+a.isB:=by
 have same:Run ns s (T+1)/\s.n=s.n:=⟨⟨R.r.mono ht,R.k⟩,rfl⟩
 have wi:∀ (d:Nat) (x:Act Str),(s.deed d).st=.zan->zmy ns x.key->Run ns (wish ordS s d x) (T+1)/\(wish ordS s d x).n=s.n:=λ d x hd hk=>by
  have h4:=see4 R.r.L.e R.k hk
  obtain ⟨f1,f2,_,_⟩:=zcJ (a:=x) R.r hd
  refine ⟨⟨R.r.wish hd h4 ht,λ k h=>?_⟩,f1⟩
  rw [f2] at h
  exact (zo3.mp h).elim (λ z=>z ▸ hk) (R.k k)
 cases a with
 | begin=>exact ⟨⟨R.r.za1 hn ht,R.k⟩,rfl⟩
 | read d k =>
  rw [zd4]
  split
  . rename_i h; exact wi d _ h ok.2
  . exact same
 | write d k v =>
  rw [zdk]
  split
  . rename_i h; exact wi d _ h ok.2
  . exact same
 | keep d =>
  rw [zfs]
  split
  . rename_i h
    have ha:(s.deed d).act:=.inl h
    exact ⟨⟨(R.r.keep ha).mono ht,λ k h=>R.k k (by rw [zhP R.r.c ha] at h; exact h)⟩,znd ordS R.r.c ha⟩
  . exact same
 | drop d =>
  rw [step_drop]
  split
  . rename_i h
    have ha:(s.deed d).act:=h
    exact ⟨⟨(R.r.drop ha).mono ht,λ k h=>R.k k (by rw [zhW R.r.c ha] at h; exact h)⟩,zkT ordS R.r.c ha⟩
  . exact same
def zp4 (A:Ad):Sp:=λ vs H Q _=>∃ ρ ad s kv T,vs=[.ref (ad Role.hall)]/\zai A ρ ad s kv H/\Core s none/\Lim s T /\
 ∀ H' q us ks,Same H H'->H' q=some (.tup us)->(∀ k,k∈ks↔zaq s k≠none)->zap H' us (zml ks (zaq s))->Q (.ref q) H'
def zsw (K:PySem.W.Frag):Sp:=λ vs H Q _=>∃ (a:Addr) (ns:List Int),vs=[.ref a]/\SqL K H a (ns.map V.int)/\∀ H',Q (.bl true) H'
def zn7 (ks:List Str) (b:Book Str):List PySem.W.Dat:=(ordS ks).map λ k=>.tuple [.str k,.int ((b k).getD 0)]
theorem zh4 {H:Hp} {b:Book Str}:∀ {l:List Str} {us:List V},zap H us (l.map λ k=>[V.str k,V.int ((b k).getD 0)])->DVs H us (l.map λ k=>PySem.W.Dat.tuple [.str k,.int ((b k).getD 0)])
 | [],[],.nil=>.nil
 | _::_,_::_,.cons ⟨p,e,q⟩ t=>by subst e; exact .cons (.tup q (.cons (.str _) (.cons (.int _) .nil))) (zh4 t)
theorem zqp {a b:List Str} (h:∀ k,k∈a↔k∈b):ordS a=ordS b:=zew (zbH a) (zbH b) λ x=>by rw [zaV,zaV]; exact h x
theorem zeE {ks:List Str} {b:Book Str} (h:∀ k∈ks,PyData.strOk k=true):zgP (.tuple (zn7 ks b)):=by
 show PySem.W.kqdOk 8 _=true
 unfold zn7
 simp only [PySem.W.kqdOk,List.all_map,List.all_eq_true]
 intro k hk
 have:=h k (zaV.mp hk)
 simp [PySem.W.kqdOk,this]
end TP
end
section
namespace TH
section
variable {K:Type} [DecidableEq K]
theorem znP {l:List (Act K)} {b c:Book K} (h:replay l b=some c) (j:Nat):∃ b',replay (l.take j) b=some b':=by
 rw [<-List.take_append_drop j l,zf2] at h
 cases e:replay (l.take j) b with
 | none=>rw [e] at h; cases h
 | some b'=>exact ⟨b',rfl⟩
theorem znN {deed:Nat->Deed K} {l:List Nat} {b c:Book K} (h:zb4 deed l b=some c) (j:Nat):∃ b',zb4 deed (l.take j) b=some b':=by
 rw [<-List.take_append_drop j l,zeu] at h
 cases e:zb4 deed (l.take j) b with
 | none=>rw [e] at h; cases h
 | some b'=>exact ⟨b',rfl⟩
theorem zfa {l:List (Act K)} {a:Act K} {b b':Book K} (h:replay l b=some b'):replay (l++[a]) b=if a.wr=true then some (up b' a.key (some a.val)) else if (b' a.key).getD 0=a.val then some b' else none:=by
 rw [zf2,h]; rfl
theorem zhf {deed:Nat->Deed K} {l:List Nat} {d:Nat} {b b':Book K} (h:zb4 deed l b=some b'):zb4 deed (l++[d]) b=replay (deed d).done b':=by
 rw [zeu,h]
 show (replay (deed d).done b').bind (zb4 deed [])=_
 cases replay (deed d).done b' <;> rfl
end
end TH
namespace TP
open PySem L2 TH
theorem zlG {l:List (Str×Int)} {b:Book Str} (hb:za6 l b) {ys:List (Key×V)} (pm:ys.Perm (bkV l)) (so:ys.Pairwise λ a b=>kLt a.1 b.1=true):ys=(ordS (l.map (·.1))).map λ k=>(Sum.inr k,V.int ((b k).getD 0)):=by
 have e1:ys.map (·.1)=(ordS (l.map (·.1))).map Sum.inr:=by
  refine zhb (λ k=>?_) (List.pairwise_map.mpr so)
  have:k∈ys.map (·.1)↔k∈(bkV l).map (·.1):=(pm.map (·.1)).mem_iff
  rw [this]
  unfold bkV
  rw [List.map_map,List.mem_map]
  constructor
  . rintro ⟨p,hp,rfl⟩; exact ⟨p.1,List.mem_map.mpr ⟨p,hp,rfl⟩,rfl⟩
  . rintro ⟨x,hx,rfl⟩
    obtain ⟨p,hp,rfl⟩:=List.mem_map.mp hx
    exact ⟨p,hp,rfl⟩
 let g:Key->Key×V:=λ k=>match k with
  | .inr k=>(Sum.inr k,V.int ((b k).getD 0))
  | .inl i=>(Sum.inl i,.non)
 have e2:ys=(ys.map (·.1)).map g:=by
  rw [List.map_map]
  have:∀ y∈ys,y=(g∘(·.1)) y:=λ y hy=>by
    have hy:=pm.mem_iff.mp hy
    unfold bkV at hy
    obtain ⟨p,hp,rfl⟩:=List.mem_map.mp hy
    have hv:=(hb.mem p.1 p.2).mp hp
    show (Sum.inr p.1,V.int p.2)=(Sum.inr p.1,V.int ((b p.1).getD 0))
    rw [hv]; rfl
  have h2:=List.map_congr_left (f:=id) (g:=g∘(·.1)) this
  rw [List.map_id] at h2; exact h2
 rw [e2,e1,List.map_map]; rfl
theorem zg8 {H H':Hp}:∀ {as:List Addr} {ys:List (Key×V)},Paired (λ a kv=>H a=none/\H' a=some (.tup [kV kv.1,kv.2])) as ys->zap H' (as.map V.ref) (ys.map λ kv=>[kV kv.1,kv.2])
 | [],[],.nil=>.nil
 | _::_,_::_,.cons h t=>.cons ⟨_,rfl,h.2⟩ (zg8 t)
end TP
end
section
namespace TP
open PySem L2 TH
def ztx (A:Ad):Sp:=λ vs H Q _=>∃ ρ ad s kv,vs=[.ref (ad Role.hall)]/\zai A ρ ad s kv H/\∀ H' q us,H q=none->Same H H'->H' q=some (.tup us)->zap H' us (s.log.map rowV)->Q (.ref q) H'
def zov (A:Ad):Sp:=λ vs H Q E=>∃ ρ ad s kv i,vs=[.ref (ad Role.hall),.int i]/\zai A ρ ad s kv H/\s.n<=1000/\((∃ d:Nat,i=d/\d < s.n/\Q (.str (stS (s.deed d).st)) H)\/Out A s i H E)
def ztv (A:Ad):Sp:=λ vs H Q _=>∃ ρ ad s kv,vs=[.ref (ad Role.hall)]/\zai A ρ ad s kv H/\s.seen.length<=4/\s.seen.Nodup/\(∀ k,s.book k≠none->k∈s.seen) /\
 ∀ H' q us ks,Same H H'->H' q=some (.tup us)->(∀ k,k∈ks↔s.book k≠none)->zap H' us (zml ks s.book)->Q (.ref q) H'
def zrA (A:Ad):Sp:=λ vs H Q _=>∃ ρ ad s kv,vs=[.ref (ad Role.hall)]/\zai A ρ ad s kv H/\s.log.length<=3000/\∀ H',Same H H'->Q (.int ((logB s.log).length:Int)) H'
end TP
end
section
namespace TP
open PySem L2 TH
def rowB:Row Str->Bool
 | .begin _=>true
 | _=>false
theorem zqd (r:Row Str):∃ t,rowV r=.str t::(rowV r).tail/\decide (V.str t=V.str "begin")=rowB r:=by
 cases r <;> refine ⟨_,rfl,?_⟩ <;> first | rfl | exact decide_eq_false λ z=>by have:=V.str.inj z; revert this; decide +kernel
theorem zne (l:List (Row Str)) (r:Row Str):(logB (l++[r])).length=(logB l).length+if rowB r then 1 else 0:=by
 rw [zfB,List.length_append]
 cases r <;> rfl
end TP
namespace TH
section
variable {K:Type} [DecidableEq K] (ord:List K->List K)
theorem quiet {s:HS K} (c:Core s none) (h:∀ d,¬ (s.deed d).act):(∀ k,s.held k=[]/\s.rows k=[])/\s.book=zaq s:=by
 refine ⟨λ k=>⟨List.eq_nil_iff_forall_not_mem.mpr λ p hp=>h _ (c.hAct k p hp),List.eq_nil_iff_forall_not_mem.mpr λ p hp=>h _ (.inr (c.rAct k p hp).1)⟩,funext λ k=>c.zgs k λ d hd=>absurd hd (h d)⟩
end
end TH
end
section
namespace TP
open PySem L2 TH
section
variable {K:PySem.W.Frag} {ρ ρ':Addr->Role} {H H':Hp} {a:Addr} {xs:List V}
end
theorem zqw {ns:List Int} {s:HS Str} {T:Nat} (R:Run ns s T) (l:zaS s) (a:LAct):zaS (zcY s a):=by
 cases a with
 | begin=>exact l.za1 R.r.c
 | read d k =>
  rw [zd4]
  split
  . rename_i h; exact l.wish ordS R.r.c h
  . exact l
 | write d k v =>
  rw [zdk]
  split
  . rename_i h; exact l.wish ordS R.r.c h
  . exact l
 | keep d =>
  rw [zfs]
  split
  . rename_i h; exact l.keep ordS R.r.c (.inl h)
  . exact l
 | drop d =>
  rw [step_drop]
  split
  . rename_i h; exact l.drop ordS R.r.c h
  . exact l
end TP
end
section
namespace TH
section
variable {K:Type} [DecidableEq K] (ord:List K->List K)
def Fol (D0 D:Deed K) (a:Act K):Prop:=(D.st=.zan\/D.st=.kept)/\∃ v,D.done=D0.done++[⟨a.wr,a.key,v⟩]/\(a.wr=true->v=a.val)
theorem zqV (s:HS K) (a:Act K):∃ v,zid s a=⟨a.wr,a.key,v⟩/\(a.wr=true->v=a.val):=by
 unfold zid
 split
 . exact ⟨a.val,rfl,λ _=>rfl⟩
 . rename_i h; exact ⟨_,by rw [show a.wr=false by simpa using h],λ z=>absurd z h⟩
theorem zem {s:HS K} {ks:List K} (c:Core s none) (e:Nat):(zaG s ks).deed e=s.deed e\/(s.deed e).st=.waiting/\((zaG s ks).deed e).st=.zan/\∃ a,(s.deed e).wish=some a/\Fol (s.deed e) ((zaG s ks).deed e) a:=by
 refine zbv (λ t=>t.deed e=s.deed e\/(s.deed e).st=.waiting/\(t.deed e).st=.zan/\∃ a,(s.deed e).wish=some a/\Fol (s.deed e) (t.deed e) a) (λ t k d w r a ct hr _ ha h=>?_) ks s c (.inl rfl)
 by_cases z:e=d
 . subst z
   have hw:(t.deed e).st=.waiting:=(ct.rAct k (e,w) (by rw [hr]; exact List.mem_cons_self)).1
   rcases h with h | ⟨_,h,_⟩
   . rw [h] at hw ha
     refine .inr ⟨hw,zeo _ _ _,a,ha,.inl (zeo _ _ _),?_⟩
     obtain ⟨v,hv,hv2⟩:=zqV (take { t with rows:=up t.rows k r } e k w) a
     refine ⟨v,?_,hv2⟩
     rw [zcV,zag,hv,<-h]; rfl
   . rw [h] at hw; cases hw
 . have:(doIt (take { t with rows:=up t.rows k r } d k w) d a).deed e=t.deed e:=(zcf _ _ _ z).trans rfl
   rw [this]; exact h
theorem ziV {s:HS K} {d e:Nat} (c:Core s none) (hd:(s.deed d).act) (he:e≠d):(keep ord s d).deed e=s.deed e\/(s.deed e).st=.waiting/\((keep ord s d).deed e).st=.zan/\∃ a,(s.deed e).wish=some a/\Fol (s.deed e) ((keep ord s d).deed e) a:=by
 have h:=zem (ks:=ord s.seen) (c.keeps hd) e
 have e1:(letGo (zpb s d) d).deed e=s.deed e:=zam he
 rw [e1] at h; exact h
theorem zk3 {s:HS K} {d:Nat} (c:Core s none) (hd:(s.deed d).act):(keep ord s d).deed d={ s.deed d with st:=.kept }:=by
 have h:=zem (ks:=ord s.seen) (c.keeps hd) d
 have e1:(letGo (zpb s d) d).deed d={ s.deed d with st:=.kept }:=zag
 rw [e1] at h
 rcases h with h | ⟨h,_⟩
 . exact h
 . cases h
theorem zpa {s:HS K} {d e:Nat} (c:Core s none) (hd:(s.deed d).act) (h:((keep ord s d).deed e).st=.waiting):(keep ord s d).deed e=s.deed e:=by
 by_cases z:e=d
 . subst z; rw [zk3 ord c hd] at h; cases h
 . rcases ziV ord c hd z with q | ⟨_,q,_⟩
   . exact q
   . rw [q] at h; cases h
theorem zle {s:HS K} {d e:Nat} (c:Core s none) (hd:(s.deed d).act) (h:((drop ord s d).deed e).st=.waiting):(drop ord s d).deed e=s.deed e:=by
 have q:=zem (ks:=ord s.seen) (c.drops hd) e
 by_cases z:e=d
 . subst z
   have e1:(letGo (zpA s e) e).deed e={ s.deed e with st:=.dropped }:=zag
   rw [e1] at q
   rcases q with q | ⟨q,_⟩
   . rw [show (drop ord s e).deed e=_ from q] at h; cases h
   . cases q
 . have e1:(letGo (zpA s d) d).deed e=s.deed e:=zam z
   rw [e1] at q
   rcases q with q | ⟨_,q,_⟩
   . exact q
   . rw [show ((drop ord s d).deed e).st=_ from q] at h; cases h
theorem zhc {e:Nat}:∀ {f:Nat} {s:HS K},Core s none->((settle ord f s).deed e).st=.waiting->(settle ord f s).deed e=s.deed e
 | 0,_,_,_=>rfl
 | f+1,s,c,h=>by
  unfold TH.settle at h ⊢
  split at h
  . rename_i hr; rfl
  . rename_i d hd
    have hw:(s.deed d).act:=.inr (zaI (zbD (List.mem_of_getLast? hd)).2)
    have h1:=zhc (c.drop ord hw) h
    rw [h1] at h
    exact h1.trans (zle ord c hw h)
theorem zoj {s:HS K} {d e:Nat} {a:Act K} (c:Core s none) (hd:(s.deed d).st=.zan) (h:((wish ord s d a).deed e).st=.waiting):(e=d/\((wish ord s d a).deed e).wish=some a)\/(wish ord s d a).deed e=s.deed e:=by
 have c1:Core (TH.see s a.key) none:=c.see
 have dw:∀ t:HS K,t.deed=s.deed->((doIt t d a).deed e).st=.waiting->(doIt t d a).deed e=s.deed e:=λ t ht q=>by
   by_cases z:e=d
   . subst z; rw [zeo] at q; cases q
   . rw [zcf _ _ _ z,ht]
 unfold TH.wish at h ⊢
 dsimp only at h ⊢
 by_cases h1:look ((TH.see s a.key).held a.key) d=some a.wr\/look ((TH.see s a.key).held a.key) d=some true
 . rw [if_pos h1] at h ⊢; exact .inr (dw _ rfl h)
 . rw [if_neg h1] at h ⊢
   by_cases h2:lets ((TH.see s a.key).held a.key) d a.wr=true/\(has ((TH.see s a.key).held a.key) d=true\/(TH.see s a.key).rows a.key=[])
   . rw [if_pos h2] at h ⊢; exact .inr (dw _ rfl h)
   . rw [if_neg h2] at h ⊢
     have hw:∀ w',(d,w')∈(TH.see s a.key).held a.key->w'=false/\a.wr=true:=λ w' z=>by
       have q:=zcS (c1.hNd _) z
       cases hw':w' with
       | true=>exact absurd (.inr (hw' ▸ q)) h1
       | false =>
        cases ha:a.wr with
        | true=>exact ⟨rfl,rfl⟩
        | false=>exact absurd (.inl (by rw [ha,q,hw'])) h1
     have q:=zhc ord (c1.wait hd zb5 hw) h
     by_cases z:e=d
     . subst z; refine .inl ⟨rfl,?_⟩; rw [q]
       show (up s.deed e _ e).wish=_
       rw [zag]
     . refine .inr (q.trans ?_)
       show up s.deed d _ e=_
       exact zam z
theorem zpS {s:HS K} (c:Core s none) (h:actN s=0) (d:Nat):¬ (s.deed d).act:=λ ha=>by
 unfold actN at h
 have:=List.countP_pos_iff (p:=λ d=>actB (s.deed d)) |>.mpr ⟨d,List.mem_range.mpr (c.lt ha),zaH.mpr ha⟩
 omega
theorem zpR {s:HS K} (c:Core s none) (hh:Head s) (ac:Acyc s) (h:0 < actN s):∃ e,e < s.n/\(s.deed e).st=.zan:=by
 unfold actN at h
 obtain ⟨d,hd,ha⟩:=List.countP_pos_iff.mp h
 obtain ⟨e,he⟩:=znK c hh ac (zaH.mp ha)
 exact ⟨e,c.lt (.inl he),he⟩
end
end TH
namespace TP
open PySem L2 TH
structure zpW (s0 s:HS Str) (T:Nat):Prop where
 r:Ready s T
 n:s.n=s0.n
 sn:s.seen=s0.seen
 fol:∀ e a,(s0.deed e).st=.waiting->(s0.deed e).wish=some a->s.deed e=s0.deed e\/Fol (s0.deed e) (s.deed e) a
theorem zpW.keep {s0 s:HS Str} {T d:Nat} (I:zpW s0 s T) (h:(s.deed d).st=.zan):zpW s0 (TH.keep ordS s d) T:=by
 have ha:(s.deed d).act:=.inl h
 refine ⟨I.r.keep ha,(znd ordS I.r.c ha).trans I.n,(zhP I.r.c ha).trans I.sn,λ e a h1 h2=>?_⟩
 have q:=I.fol e a h1 h2
 by_cases z:e=d
 . subst z
   rw [zk3 ordS I.r.c ha]
   rcases q with q | ⟨_,q⟩
   . rw [q,h1] at h; cases h
   . exact .inr ⟨.inr rfl,q⟩
 . rcases ziV ordS I.r.c ha z with k | ⟨k1,k2,a',k3,k4⟩
   . rw [k]; exact q
   . rcases q with q | ⟨q,_⟩
     . rw [q] at k3 k4
       rw [h2] at k3
       cases k3
       exact .inr k4
     . rw [k1] at q; rcases q with q | q <;> cases q
def asks:LAct->Option (Nat×Act Str)
 | .read d k=>some (d,⟨false,k,0⟩)
 | .write d k v=>some (d,⟨true,k,v⟩)
 | _=>none
theorem zkh {ns:List Int} {s:HS Str} {T e:Nat} (R:Run ns s T) {act:LAct} (h:((zcY s act).deed e).st=.waiting) :
  (zcY s act).deed e=s.deed e\/∃ x,asks act=some (e,x)/\(s.deed e).st=.zan/\((zcY s act).deed e).wish=some x:=by
 have wi:∀ (d:Nat) (x:Act Str),(s.deed d).st=.zan->((wish ordS s d x).deed e).st=.waiting->(wish ordS s d x).deed e=s.deed e\/(e=d/\((wish ordS s d x).deed e).wish=some x):=λ d x hd h=>(zoj ordS R.r.c hd h).symm
 cases act with
 | begin =>
  refine .inl ?_
  show up s.deed s.n _ e=_
  by_cases z:e=s.n
  . subst z
    have h:(up s.deed s.n (⟨.zan,[],none⟩:Deed Str) s.n).st=.waiting:=h
    rw [zag] at h; cases h
  . exact zam z
 | read d k =>
  rw [zd4] at h ⊢
  by_cases hd:(s.deed d).st=.zan
  . rw [if_pos hd] at h ⊢
    rcases wi d _ hd h with q | ⟨rfl,q⟩
    . exact .inl q
    . exact .inr ⟨_,rfl,hd,q⟩
  . rw [if_neg hd]; exact .inl rfl
 | write d k v =>
  rw [zdk] at h ⊢
  by_cases hd:(s.deed d).st=.zan
  . rw [if_pos hd] at h ⊢
    rcases wi d _ hd h with q | ⟨rfl,q⟩
    . exact .inl q
    . exact .inr ⟨_,rfl,hd,q⟩
  . rw [if_neg hd]; exact .inl rfl
 | keep d =>
  rw [zfs] at h ⊢
  by_cases hd:(s.deed d).st=.zan
  . rw [if_pos hd] at h ⊢; exact .inl (zpa ordS R.r.c (.inl hd) h)
  . rw [if_neg hd]; exact .inl rfl
 | drop d =>
  rw [step_drop] at h ⊢
  by_cases hd:(s.deed d).st=.zan\/(s.deed d).st=.waiting
  . rw [if_pos hd] at h ⊢; exact .inl (zle ordS R.r.c hd h)
  . rw [if_neg hd]; exact .inl rfl
def ansD (D:Deed Str) (wr:Bool):List PySem.W.Dat:=match D.st with
 | .dropped=>[.str "given up"]
 | .waiting=>[.str "waits"]
 | _=>if wr then [.str "done"] else [.str "value",.int (zk2 D)]
theorem zri {H:Hp} (D:Deed Str) (wr:Bool):DVs H (ansV D wr) (ansD D wr):=by
 unfold ansV ansD
 cases D.st <;> cases wr <;> first | exact .cons (.str _) .nil | exact .cons (.str _) (.cons (.int _) .nil)
theorem zti (D:Deed Str) (wr:Bool):zgP (.tuple (ansD D wr)):=by
 show PySem.W.kqdOk 8 _=true
 unfold ansD
 cases D.st <;> cases wr <;> simp [PySem.W.kqdOk] <;> decide +kernel
theorem zpQ (D:Deed Str) (wr:Bool):PySem.W.Dat.tuple (ansD D wr)=.tuple [.str "waits"]↔D.st=.waiting:=by
 unfold ansD
 cases D.st <;> cases wr <;> simp <;> decide +kernel
def Told (s:HS Str) (act:LAct) (r:PySem.W.Dat):Prop:=zgP r/\(r=.tuple [.str "waits"]↔∃ e x,asks act=some (e,x)/\(s.deed e).st=.zan/\((zcY s act).deed e).st=.waiting)
def zrC (A:Ad):Sp:=λ vs H Q E=>∃ ρ ad s kq act T ns,vs=[.ref (ad Role.hall),.ref kq]/\zai A ρ ad s (zaq s) H/\Run ns s T/\T+1<=1000/\s.n < 63/\okA ns s.n act/\H kq=some (.tup (actD act)) /\
 (∀ v r H' ρ' ad',ad' Role.hall=ad .hall->zai A ρ' ad' (zcY s act) (zaq (zcY s act)) H'->Frame ρ H ρ' H'->DV H' v r->Told s act r->Q v H')/\(zcY s act=s->E (.ref A.zcW) none H)
def ztA (A:Ad):Sp:=λ vs H Q _=>∃ ρ ad s kq act T ns,vs=[.ref (ad Role.hall),.ref kq]/\zai A ρ ad s (zaq s) H/\Run ns s T/\T+1<=1000/\s.n < 63/\okA ns s.n act/\H kq=some (.tup (actD act)) /\
 ∀ v r H' ρ' ad',ad' Role.hall=ad .hall->zai A ρ' ad' (zcY s act) (zaq (zcY s act)) H'->Frame ρ H ρ' H'->DV H' v r->Told s act r->Q v H'
theorem zjc {s:HS Str} {act:LAct} {r:PySem.W.Dat} (hr:zgP r) (h1:∀ l,r≠.tuple l) (h2:asks act=none\/zcY s act=s):Told s act r :=
 ⟨hr,λ z=>absurd z (h1 _),λ ⟨e,x,q1,q2,q3⟩=>by
  rcases h2 with h2 | h2
  . rw [h2] at q1; cases q1
  . rw [h2,q2] at q3; cases q3⟩
theorem zmR {s:HS Str} {act:LAct} {d:Nat} {x:Act Str} (ha:asks act=some (d,x)) (hg:(s.deed d).st=.zan):Told s act (.tuple (ansD ((zcY s act).deed d) x.wr)) :=
 ⟨zti _ _,(zpQ _ _).trans ⟨λ h=>⟨d,x,ha,hg,h⟩,λ ⟨e,y,q1,q2,q3⟩=>by rw [ha] at q1; cases q1; exact q3⟩⟩
theorem zai.side {A:Ad} {ρ:Addr->Role} {ad:Role->Addr} {s:HS Str} {kv:Book Str} {H:Hp} (h:zai A ρ ad s kv H) {p:Addr} {l l':List (Key×V)} (ro:ρ p=.other) (e:H p=some (.dK l)):zai A ρ ad s kv (upd H p (.dK l')):=by
 have im:Imm A H (upd H p (.dK l')):=⟨λ q xs z=>by rw [zae (zbh z e λ z=>nomatch z)]; exact z,λ q dx fs z=>by rw [zae (zbh z e λ z=>nomatch z)]; exact z⟩
 refine ⟨λ r l=>?_,h.ro,λ b eb=>?_⟩
 . obtain ⟨o,e1,a1⟩:=h.at_ r l
   refine ⟨o,?_,a1.mono im⟩
   rw [zae λ z=>zl8 l (by rw [<-h.ro r l,z,ro])]; exact e1
 . by_cases z:b=p
   . rw [z,ro]
   . rw [zae z] at eb; exact h.fr b eb
def WAt (s:HS Str) (kvs:List (Key×V)) (ρ:Addr->Role) (H:Hp):Prop:=∀ e,(s.deed e).st=.waiting->∃ kq act x,valV kvs (Sum.inl (e:Int))=some (.ref kq)/\H kq=some (.tup (actD act))/\ρ kq=.other/\asks act=some (e,x)/\(s.deed e).wish=some x
theorem WAt.frame {s:HS Str} {kvs:List (Key×V)} {ρ ρ':Addr->Role} {H H':Hp} (w:WAt s kvs ρ H) (f:Frame ρ H ρ' H'):WAt s kvs ρ' H':=λ e he=>by
 obtain ⟨kq,act,x,a,b,c,d⟩:=w e he
 exact ⟨kq,act,x,a,(f _ _ b c).1,(f _ _ b c).2,d⟩
theorem WAt.step {ns:List Int} {s:HS Str} {T:Nat} {kvs:List (Key×V)} {ρ:Addr->Role} {H:Hp} (R:Run ns s T) (w:WAt s kvs ρ H) (act:LAct) (h:¬ ∃ e x,asks act=some (e,x)/\(s.deed e).st=.zan/\((zcY s act).deed e).st=.waiting):WAt (zcY s act) kvs ρ H:=λ e he=>by
 rcases zkh R he with q | ⟨x,a,b,_⟩
 . rw [q] at he ⊢; exact w e he
 . exact absurd ⟨e,x,a,b,he⟩ h
theorem WAt.put {ns:List Int} {s:HS Str} {T:Nat} {kvs:List (Key×V)} {ρ:Addr->Role} {H:Hp} {p kq:Addr} {act:LAct} {e:Nat} {x:Act Str} (R:Run ns s T) (w:WAt s kvs ρ H) (ha:asks act=some (e,x)) (hg:(s.deed e).st=.zan)
   (hp:H p=some (.dK kvs)) (hk:H kq=some (.tup (actD act))) (rk:ρ kq=.other) {l:List (Key×V)}:WAt (zcY s act) (putK kvs (Sum.inl (e:Int)) (.ref kq)) ρ (upd H p (.dK l)):=λ e' he=>by
 have im:∀ q xs,H q=some (.tup xs)->upd H p (.dK l) q=some (.tup xs):=λ q xs z=>by rw [zae (zbh z hp λ z=>nomatch z)]; exact z
 rcases zkh R he with q | ⟨y,a,b,c⟩
 . have hne:e'≠e:=λ z=>by subst z; rw [q,hg] at he; cases he
   rw [q] at he ⊢
   obtain ⟨k1,act1,x1,a1,b1,c1,d1⟩:=w e' he
   refine ⟨k1,act1,x1,?_,im _ _ b1,c1,d1⟩
   rw [zmO,if_neg λ z=>hne (by have:=Sum.inl.inj z; omega)]; exact a1
 . rw [ha] at a
   cases a
   refine ⟨kq,act,x,?_,im _ _ hk,rk,ha,c⟩
   rw [zmO,if_pos rfl]
theorem zqg (kvs:List (Key×V)) (k:Key) (v:V):(putK kvs k v).length<=kvs.length+1:=by
 unfold putK
 split <;> simp
theorem st_w (t:DS):decide (V.str (stS t)=V.str "waiting")=decide (t=.waiting):=by
 cases t <;> first | rfl | exact (decide_eq_false λ z=>by have:=V.str.inj z; revert this; decide +kernel).trans (by decide)
theorem st_g (t:DS):decide (V.str (stS t)=V.str "going")=decide (t=.zan):=by
 cases t <;> first | rfl | exact (decide_eq_false λ z=>by have:=V.str.inj z; revert this; decide +kernel).trans (by decide)
theorem zsr {t:DS} (h:¬ (t=.zan\/t=.waiting)):inV (.str (stS t)) [.str "kept",.str "given up"]=true:=by
 cases t <;> first | exact absurd (.inl rfl) h | exact absurd (.inr rfl) h | decide +kernel
theorem zpZ {ns:List Int} {s:HS Str} {T d:Nat} {x:Act Str} (R:Run ns s T) (h:(s.deed d).st=.waiting) (hx:(s.deed d).wish=some x):PyData.strOk x.key=true:=by
 obtain ⟨a,ha,hr⟩:=R.r.c.wRow d (λ z=>nomatch z) h
 rw [hx] at ha
 cases ha
 by_cases z:x.key∈s.seen
 . obtain ⟨j,_,e⟩:=R.k _ z
   rw [e]; exact zq8 ns j
 . rw [(R.r.c.zeV _ z).2] at hr; cases hr
theorem zka {H:Hp} {x:List V}:∀ {l:List (List V)} {us:List V},zap H us (l++[x])->∃ us0 p,us=us0++[V.ref p]/\H p=some (.tup x)
 | [],_,.cons ⟨p,e,q⟩ .nil=>⟨[],p,by rw [e]; rfl,q⟩
 | _::_,_,.cons _ t=>by
  obtain ⟨u0,p,rfl,q⟩:=zka t
  exact ⟨_::u0,p,rfl,q⟩
def kindS (b:Bool):Str:=if b then "write" else "read"
theorem ztg {act:LAct} {d:Nat} {x:Act Str} (h:asks act=some (d,x)):atI (actD act) 0=some (V.str (kindS x.wr))/\atI (actD act) 2=some (V.str x.key)/\(x.wr=true->atI (actD act) 3=some (V.int x.val)):=by
 cases act <;> cases h <;> exact ⟨rfl,rfl,λ z=>by first | rfl | cases z⟩
theorem zqC (b:Bool):decide (V.str (kindS b)=V.str "write")=b:=by
 cases b
 . exact decide_eq_false λ z=>by have:=V.str.inj z; revert this; decide +kernel
 . exact decide_eq_true rfl
theorem zqB {b:Bool} {k:Str} (h:PyData.strOk k=true):zgP (.tuple [.str (kindS b),.str k]):=by
 show PySem.W.kqdOk 8 _=true
 cases b <;> simp [PySem.W.kqdOk,kindS,h] <;> decide +kernel
end TP
end
section
namespace TP
open PySem PySem.W PyProof.Rows
def goT (thr ok:Thread->Bool) (stp:SharedT->Thread->Option (SharedT×Thread)):Nat->SharedT->Thread->Option SharedT
 | 0,_,_=>none
 | n+1,s,t=>match thr t with
  | true=>some s
  | false=>match ok t with
   | false=>none
   | true=>match stp s t with
    | some (s',t')=>goT thr ok stp n s' t'
    | none=>none
theorem zpo {tb:String->Option Builtin} {p:Program} {w:World} {m:Nat} {ann:Option Value}:∀ {n:Nat} {s s':SharedT} {t:Thread},goT through (stepOk m ann) (stepT (denote tb) p w) n s t=some s'->topRun tb p w m ann n s.abs t=some s'.abs
 | 0,_,_,_,h=>by cases h
 | n+1,s,s',t,h=>by
  unfold goT at h
  unfold topRun
  cases ht:through t with
  | true=>rw [ht] at h; cases h; rfl
  | false =>
   rw [ht] at h
   cases hk:stepOk m ann t with
   | false=>rw [hk] at h; cases h
   | true =>
    rw [hk] at h
    cases hs:stepT (denote tb) p w s t with
    | none=>rw [hs] at h; cases h
    | some r=>obtain ⟨a,b⟩:=r; rw [hs] at h; rw [stepT_spec hs]; exact zpo h
def ofL:List Obj->Nat->BT->BT
 | [],_,t=>t
 | o::l,i,t=>ofL l (i+1) (t.ins i o)
theorem ztH {p q:Program} {loose:List Str} {Xt:Shared->Bool} {α:Type} {Yf:Shared->α} {Ya:World->α} {N m:Nat} {ann:Option Value} {life:Life}
  (op:∀ w:World,(fencedOpening treeTable p w N).map (λ s=>(s.heap,s.gens,s.drawn,s.toks))=some (boot_heap w.params,Array.mk [],boot_drawn,boot_toks))
  (size:∀ w:World,((boot_heap w.params).isNs mainGlobals && (Array.mk []:Array GenState).size == 0,(boot_heap w.params).objs.size,(boot_heap w.params).nsMap mainGlobals "__annotations__")=(true,m,ann))
  (hb:∀ w:World,absHeap (ofL (boot_heap w.params).objs.toList 0 .nil) m life=boot_heap w.params)
  (run:∀ (w:World) (os:OsState),(goT through (stepOk m ann) (stepT (denote treeTable) p w) N ⟨ofL (boot_heap w.params).objs.toList 0 .nil,m,life,Array.mk [],boot_drawn,boot_toks,os⟩ (topStub p)).map
   (λ s=>(staticsOk (importedModules p.main.body) (boot_heap w.params) s.abs.heap && namesBound p s.abs.heap && gensDone s.abs && laidKept (boot_heap w.params) s.abs.heap,openSeen q loose (importedModules p.main.body) Xt true s.abs,Yf s.abs))=some (true,openGood q loose,Ya w)) :
  LeftO p q loose Xt Yf Ya N:=λ w=>by
 obtain ⟨⟨h,gs,d,k,os⟩,e,e'⟩:=Option.map_eq_some_iff.mp (op w)
 obtain ⟨rfl,rfl,rfl,rfl⟩:h=boot_heap w.params/\gs=Array.mk []/\d=boot_drawn/\k=boot_toks:=by simpa using e'
 obtain ⟨z1,z2,z3⟩:_/\_/\_:=by simpa only [Prod.mk.injEq] using size w
 obtain ⟨s,es,ev⟩:=Option.map_eq_some_iff.mp (run w os)
 obtain ⟨l1,l2,l3⟩:_/\_/\_:=by simpa only [Prod.mk.injEq] using ev
 have r:=zpo es
 unfold SharedT.abs at r
 dsimp only at r
 rw [hb] at r
 have t:topFrom treeTable p w N ⟨boot_heap w.params,Array.mk [],boot_drawn,boot_toks,os⟩=some s.abs:=by
  unfold topFrom
  dsimp only
  rw [z1,z2,z3,r]
  show (match staticsOk (importedModules p.main.body) (boot_heap w.params) s.abs.heap && namesBound p s.abs.heap && gensDone s.abs && laidKept (boot_heap w.params) s.abs.heap with | true=>_ | false=>_)=_
  rw [l1]
  rfl
 unfold openEnds
 rw [e]
 show (topFrom treeTable p w N _).map _=_
 rw [t]
 show some (openSeen q loose (importedModules p.main.body) Xt true s.abs,Yf s.abs)=_
 rw [l2,l3]
end TP
end
section
namespace TP
open PySem L2 TH PyProof.Rows
abbrev FV:=Str×Str×Arguments×FuncBody×Scope×Addr×List (Str×Addr)×Value×Addr×Bool
def fV (K:PySem.W.Frag) (f:Addr):Option FV:=match K.lookup f with
 | some ⟨_,_,.func d,_⟩=>some (d.name,d.qualname,d.params,d.body,d.scope,d.globals,d.closure,d.defaults,d.builtins,PySem.W.codeIn K d.code d.qualname && PySem.W.isFn K (.ref f))
 | _=>none
def fE (x q:Str) (st:Stmt):Option FV:=some (x,q,zjS st,.stmts (zhX st),zak st,mainGlobals,[],.none,builtinsNs,true)
def fdOf (K:PySem.W.Frag) (f:Addr):FuncData:=match K.lookup f with
 | some ⟨_,_,.func d,_⟩=>d
 | _=>default
def fi (K:PySem.W.Frag) (c:Addr) (x:Str):Option (Option Value):=PySem.W.findIn K (.ref c) x
def gl (K:PySem.W.Frag) (x:Str):Option (Option Value):=PySem.W.nsIn K mainGlobals x
def gs (K:PySem.W.Frag) (x v:Str):Bool:=match PySem.W.nsIn K mainGlobals x with
 | some (some (.str y _))=>y == v
 | _=>false
def gi (K:PySem.W.Frag) (x:Str) (v:Int):Bool:=match PySem.W.nsIn K mainGlobals x with
 | some (some (.int y _))=>y == v
 | _=>false
def dOf (st:Stmt):DefRec:=match st with
 | .FunctionDef n a b _ _ _ s _ _ p=>⟨n,a,b,s,p⟩
 | _=>⟨"",zjS st,[],zak st,⟨0,0,0,0⟩⟩
def Kof (as:List Addr) (h:Heap):PySem.W.Frag:=as.filterMap λ a=>(h.get? a).map λ o=>(a,o)
theorem ztk {as:List Addr} {h:Heap}:(Kof as h).In h:=by
 unfold Kof
 intro a o e
 induction as with
 | nil=>cases e
 | cons b r ih =>
  rw [List.filterMap_cons] at e
  cases hb:h.get? b with
  | none=>rw [hb] at e; exact ih e
  | some x =>
   rw [hb] at e
   simp only [Option.map_some,List.lookup_cons] at e
   split at e
   . rename_i z
     rw [eq_of_beq z,hb]; exact e
   . exact ih e
section
variable {K:PySem.W.Frag}
theorem bt {L:List Bool} (h:L.all id=true) (i:Nat) {b:Bool} (e:L[i]?=some b):b=true:=List.all_eq_true.mp h b (List.mem_of_getElem? e)
theorem fu0 {x q:Str} {st:Stmt} {f:Addr} (h:fV K f=fE x q st):Fun K x q st f (fdOf K f)/\PySem.W.isFn K (.ref f)=true/\PySem.W.keepIn K (.ref f)=true:=by
 unfold fV fE at h
 unfold fdOf
 split at h
 . rename_i oc od d sl e
   obtain ⟨n,q',ps,bd,sc,g,cl,df,kw,dc,pm,an,cd,ct,bi⟩:=d
   simp only [Option.some.injEq,Prod.mk.injEq,Bool.and_eq_true] at h
   obtain ⟨rfl,rfl,rfl,rfl,rfl,rfl,rfl,rfl,rfl,h1,h2⟩:=h
   have kp:PySem.W.keepIn K (.ref f)=true:=by unfold PySem.W.keepIn; dsimp only; rw [e]
   exact ⟨⟨⟨oc,od,kw,dc,pm,an,cd,ct,sl,rfl,e,h1⟩,kp⟩,h2,kp⟩
 . cases h
theorem fuA {L:List Addr} {E:List (Option FV)} (h:L.map (fV K)=E) (i:Nat) {f:Addr} {x q:Str} {st:Stmt} (e1:L[i]?=some f) (e2:E[i]?=some (fE x q st)):fV K f=fE x q st:=by
 rw [<-h,List.getElem?_map,e1] at e2
 exact Option.some.inj e2
theorem fu {L:List Addr} {E:List (Option FV)} (h:L.map (fV K)=E) (i:Nat) {f:Addr} {x q:Str} {st:Stmt} (e1:L[i]?=some f) (e2:E[i]?=some (fE x q st)):Fun K x q st f (fdOf K f):=(fu0 (fuA h i e1 e2)).1
theorem fu2 {L:List Addr} {E:List (Option FV)} (h:L.map (fV K)=E) (i:Nat) {f:Addr} {x q:Str} {st:Stmt} (e1:L[i]?=some f) (e2:E[i]?=some (fE x q st)):PySem.W.isFn K (.ref f)=true:=(fu0 (fuA h i e1 e2)).2.1
theorem fu3 {L:List Addr} {E:List (Option FV)} (h:L.map (fV K)=E) (i:Nat) {f:Addr} {x q:Str} {st:Stmt} (e1:L[i]?=some f) (e2:E[i]?=some (fE x q st)):PySem.W.keepIn K (.ref f)=true:=(fu0 (fuA h i e1 e2)).2.2
variable {h:Heap} {mg:Str->Option Value}
theorem zhS (X:K.In h) (G:h.Ns mainGlobals mg) {x v:Str} (e:gs K x v=true):∃ t,mg x=some (.str v t):=by
 unfold gs at e
 split at e
 . rename_i y t q
   rw [eq_of_beq e] at q
   exact ⟨t,PySem.W.mg_of X G q⟩
 . cases e
theorem ztM (X:K.In h) (G:h.Ns mainGlobals mg) {x:Str} {v:Int} (e:gi K x v=true):∃ t,mg x=some (.int v t):=by
 unfold gi at e
 split at e
 . rename_i y t q
   rw [eq_of_beq e] at q
   exact ⟨t,PySem.W.mg_of X G q⟩
 . cases e
end
theorem walk2 {l:PySem.W.OpenLaw} {n k:Nat} {q:Program} {loose:List Str} {XP:(Str->Option Value)->Heap->Prop} {OB:PySem.W.Frag->Prop} {d:DefRec} {CX:World->CXT} {sp:PySem.W.Frag->Sp} {x:Str}
  (hn:l.most=some n) (hn2:n<=sizeLine) (hdf:d.params.defaults=[]) (hr:Room k callerA)
  (F:∀ (w:World) (mg:Str->Option Value) (fa:Addr) (h:Heap) (K:PySem.W.Frag),OB K->K.In h->h.Ns mainGlobals mg->mg d.name=some (.ref fa) ->
   ∃ fd:FuncData,(∀ (s:Shared) (u:Value),BindsTo s fd ⟨[u],[]⟩ [(x,u)])/\∀ base:Heap,K.In base->base.Ns mainGlobals mg->FnOk l.prog w K mg base (CX w) k fa fd [x] (sp K))
  (hsp:∀ (K:PySem.W.Frag) (H:Hp) (a:Addr) (ns:List Int),ns.length<=n->Only H->SqL K H a (ns.map V.int)->sp K [.ref a] H (λ v _=>v=.bl true) λ _ _ _=>False)
  (hCX:∀ (w:World) (H:Hp) (s:Shared) (e:Value) (s':Shared),CX w [] H s (λ _ _ _=>False) e s'->False) :
  PySem.W.WalkO q loose XP (λ _ h=>∃ K,OB K/\K.In h) l.row.toRowW d [] (λ f vs=>PySem.call f vs):=by
 refine Att.zmu hn hdf λ w s₀ s₁ mg mb fa o pm cd doc a vs ns G Y ho hd hcd hmg hobj hints hlen hg=>?_
 obtain ⟨K,ob,KX⟩:=Y
 obtain ⟨fd,hb,hF⟩:=F w mg fa _ K ob KX G.T.g hmg
 exact zqA KX G.T.g G.T.b G.T.builtins G.T.nolimit hg hobj hints (Nat.le_trans hlen hn2) hr hF hb (λ H hO hS=>hsp K H a ns hlen hO hS) λ H e s'=>hCX w H s₁ e s'
end TP
end
section
namespace TP
open PySem L2 TH
def top (i:Nat):Stmt:=PySem.Challenge.pw_turnhall_k06_whole_waiting_ends.main.body.getD i (.Pass ⟨0,0,0,0⟩)
abbrev ze5:Stmt:=inClass (top 27) 0
abbrev zfV:Stmt:=top 30
abbrev zeX:Stmt:=top 29
abbrev zfW:Stmt:=top 31
abbrev zfX:Stmt:=top 32
abbrev zeZ:Stmt:=top 33
abbrev zdC:Stmt:=inClass (top 17) 0
abbrev zeb:Stmt:=inClass (top 27) 1
abbrev zfU:Stmt:=top 3
abbrev zcy:Stmt:=inClass (top 27) 15
abbrev za9:Stmt:=inClass (top 27) 16
abbrev ze9:Stmt:=inClass (top 18) 0
abbrev zcC:Stmt:=inClass (top 18) 1
abbrev ze8:Stmt:=inClass (top 18) 2
abbrev zbY:Stmt:=inClass (top 18) 3
abbrev ze7:Stmt:=inClass (top 18) 5
abbrev zdz:Stmt:=top 5
abbrev zcB:Stmt:=inClass (top 27) 19
abbrev zdf:Stmt:=inClass (top 18) 6
abbrev zbw:Stmt:=inClass (top 18) 9
abbrev zcz:Stmt:=inClass (top 27) 23
abbrev zde:Stmt:=inClass (top 27) 22
abbrev zbg:Stmt:=inClass (top 27) 21
abbrev zcx:Stmt:=inClass (top 17) 2
abbrev ze2:Stmt:=inClass (top 27) 25
abbrev zdA:Stmt:=top 4
abbrev zbC:Stmt:=inClass (top 17) 3
abbrev zec:Stmt:=inClass (top 18) 7
abbrev zcn:Stmt:=inClass (top 18) 4
abbrev zdD:Stmt:=inClass (top 27) 27
abbrev zf0:Stmt:=inClass (top 27) 26
abbrev ze6:Stmt:=inClass (top 27) 24
abbrev ze1:Stmt:=inClass (top 27) 20
abbrev zdE:Stmt:=inClass (top 27) 18
abbrev zf1:Stmt:=inClass (top 27) 17
abbrev ze0:Stmt:=inClass (top 16) 0
abbrev ze3:Stmt:=inClass (top 27) 2
abbrev zd9:Stmt:=inClass (top 27) 3
abbrev ze4:Stmt:=inClass (top 27) 4
abbrev zb7:Stmt:=inClass (top 17) 1
abbrev zdc:Stmt:=inClass (top 27) 5
abbrev zeY:Stmt:=top 34
abbrev zhl:Stmt:=top 35
abbrev zfZ:Stmt:=inClass (top 27) 14
abbrev zd8:Stmt:=top 36
abbrev zcO:Stmt:=inClass (top 27) 6
abbrev zdd:Stmt:=inClass (top 27) 7
abbrev zdb:Stmt:=top 6
abbrev zfY:Stmt:=inClass (top 27) 11
abbrev zcA:Stmt:=inClass (top 27) 12
abbrev zea:Stmt:=inClass (top 27) 13
abbrev zdB:Stmt:=top 37
abbrev zoF:Stmt:=top 38
structure Fs where
 f:Nat->Addr
 fd:Nat->FuncData
structure Txt (K:PySem.W.Frag) (mg:Str->Option Value) (A:Ad) (F:Fs):Prop where
 ok:AdOk A
 zaZ:Cls K A.zdY
 zbm:zb3 K A.zdY "use"
 za4:zb3 K A.zdY "key"
 zcG:zb3 K A.zdY "value"
 zrd:mg "Want" = some (.ref A.zdY)
 zo1:Mk K A.zdY (F.f 35)
 zau:Cls K A.zaA
 zay:zb3 K A.zaA "state"
 zbd:zb3 K A.zaA "did"
 za0:zb3 K A.zaA "want"
 zqJ:mg "Record" = some (.ref A.zaA)
 zo2:Mk K A.zaA (F.f 6)
 zaQ:Cls K A.zci
 zbi:zb3 K A.zci "held"
 zaX:zb3 K A.zci "row"
 zs7:mg "Desk" = some (.ref A.zci)
 zrZ:Mk K A.zci (F.f 11)
 zaj:Cls K A.zaU
 zaz:zb3 K A.zaU "records"
 zbn:zb3 K A.zaU "desks"
 zbc:zb3 K A.zaU "standing"
 za5:zb3 K A.zaU "kept_values"
 zca:zb3 K A.zaU "kept_deeds"
 zb2:zb3 K A.zaU "rows"
 zs6:mg "Hall" = some (.ref A.zaU)
 zrY:Mk K A.zaU (F.f 0)
 zmI:Fun K "__init__" "Hall.__init__" ze5 (F.f 0) (F.fd 0)
 zmr:Binds K (F.fd 0) ["self"] []
 zod:Fun K "_law_mix" "_law_mix" zfV (F.f 1) (F.fd 1)
 zbP:Binds K (F.fd 1) ["_law_cell_here","_law_prime","_law_many"] []
 zbN:mg "_law_mix" = some (.ref (F.f 1))
 zbM:PySem.W.keepIn K (.ref (F.f 1))=true
 zmA:Fun K "_law_cell" "_law_cell" zeX (F.f 2) (F.fd 2)
 zcr:Binds K (F.fd 2) ["_law_script","_law_k"] []
 zcq:mg "_law_cell" = some (.ref (F.f 2))
 zcp:PySem.W.keepIn K (.ref (F.f 2))=true
 zgu:Fun K "_law_key" "_law_key" zfW (F.f 3) (F.fd 3)
 zgq:Binds K (F.fd 3) ["_law_script","_law_k"] []
 zgj:mg "_law_key" = some (.ref (F.f 3))
 zgf:PySem.W.keepIn K (.ref (F.f 3))=true
 zoe:Fun K "_law_act" "_law_act" zfX (F.f 4) (F.fd 4)
 zn9:Binds K (F.fd 4) ["_law_script","_law_cell_here","_law_begun"] []
 zn4:mg "_law_act" = some (.ref (F.f 4))
 znY:PySem.W.keepIn K (.ref (F.f 4))=true
 zmC:Fun K "_law_acts" "_law_acts" zeZ (F.f 5) (F.fd 5)
 zmn:Binds K (F.fd 5) ["_law_script"] []
 zme:mg "_law_acts" = some (.ref (F.f 5))
 zmb:PySem.W.keepIn K (.ref (F.f 5))=true
 zj5:Fun K "__init__" "Record.__init__" zdC (F.f 6) (F.fd 6)
 zjX:Binds K (F.fd 6) ["self"] []
 zly:Fun K "begin" "Hall.begin" zeb (F.f 7) (F.fd 7)
 zls:Binds K (F.fd 7) ["self"] []
 zkW:Meth K A.zaU "begin" (F.f 7)
 zoc:Fun K "is_whole" "is_whole" zfU (F.f 8) (F.fd 8)
 zn8:Binds K (F.fd 8) ["thing"] []
 zn3:mg "is_whole" = some (.ref (F.f 8))
 znX:PySem.W.keepIn K (.ref (F.f 8))=true
 zgV:Fun K "record_of" "Hall.record_of" zcy (F.f 9) (F.fd 9)
 zbX:Binds K (F.fd 9) ["self","deed"] []
 zbW:Meth K A.zaU "record_of" (F.f 9)
 zc2:Fun K "refuse_unless_going" "Hall.refuse_unless_going" za9 (F.f 10) (F.fd 10)
 zbb:Binds K (F.fd 10) ["self","deed"] []
 zba:Meth K A.zaU "refuse_unless_going" (F.f 10)
 zmM:Fun K "__init__" "Desk.__init__" ze9 (F.f 11) (F.fd 11)
 zmt:Binds K (F.fd 11) ["self"] []
 zgZ:Fun K "hindering" "Desk.hindering" zcC (F.f 12) (F.fd 12)
 zdS:Binds K (F.fd 12) ["self","deed","use"] []
 zdM:Meth K A.zci "hindering" (F.f 12)
 zmL:Fun K "lets" "Desk.lets" ze8 (F.f 13) (F.fd 13)
 zia:Binds K (F.fd 13) ["self","deed","use"] []
 zhE:Meth K A.zci "lets" (F.f 13)
 zfp:Fun K "lets_at_once" "Desk.lets_at_once" zbY (F.f 14) (F.fd 14)
 zfo:Binds K (F.fd 14) ["self","deed","use"] []
 zfi:Meth K A.zci "lets_at_once" (F.f 14)
 zmK:Fun K "take" "Desk.take" ze7 (F.f 15) (F.fd 15)
 zms:Binds K (F.fd 15) ["self","deed","use"] []
 zl6:Meth K A.zci "take" (F.f 15)
 zj2:Fun K "value_under" "value_under" zdz (F.f 16) (F.fd 16)
 zjV:Binds K (F.fd 16) ["book","key"] []
 zjO:mg "value_under" = some (.ref (F.f 16))
 zjK:PySem.W.keepIn K (.ref (F.f 16))=true
 zgY:Fun K "carry_out" "Hall.carry_out" zcB (F.f 17) (F.fd 17)
 zdR:Binds K (F.fd 17) ["self","deed","want"] []
 zdL:Meth K A.zaU "carry_out" (F.f 17)
 ziD:Fun K "line_up" "Desk.line_up" zdf (F.f 18) (F.fd 18)
 ziy:Binds K (F.fd 18) ["self","deed","use"] []
 zit:Meth K A.zci "line_up" (F.f 18)
 zd0:Fun K "next_waited_for" "Desk.next_waited_for" zbw (F.f 19) (F.fd 19)
 zdZ:Binds K (F.fd 19) ["self","deed","use"] []
 zdV:Meth K A.zci "next_waited_for" (F.f 19)
 zgW:Fun K "next_from" "Hall.next_from" zcz (F.f 20) (F.fd 20)
 zgS:Binds K (F.fd 20) ["self","deed"] []
 zgN:Meth K A.zaU "next_from" (F.f 20)
 ziC:Fun K "come_to" "Hall.come_to" zde (F.f 21) (F.fd 21)
 zeS:Binds K (F.fd 21) ["self","deed"] []
 zeM:Meth K A.zaU "come_to" (F.f 21)
 zdj:Fun K "greatest_all_round" "Hall.greatest_all_round" zbg (F.f 22) (F.fd 22)
 zbU:Binds K (F.fd 22) ["self","deed"] []
 zbT:Meth K A.zaU "greatest_all_round" (F.f 22)
 zgU:Fun K "written" "Record.written" zcx (F.f 23) (F.fd 23)
 zdQ:Binds K (F.fd 23) ["self"] []
 zdK:Meth K A.zaA "written" (F.f 23)
 zmF:Fun K "undo" "Hall.undo" ze2 (F.f 24) (F.fd 24)
 zmp:Binds K (F.fd 24) ["self","deed"] []
 zl4:Meth K A.zaU "undo" (F.f 24)
 zj3:Fun K "rising_keys" "rising_keys" zdA (F.f 25) (F.fd 25)
 zfO:Binds K (F.fd 25) ["given"] []
 zfH:mg "rising_keys" = some (.ref (F.f 25))
 zfE:PySem.W.keepIn K (.ref (F.f 25))=true
 zet:Fun K "touched_keys" "Record.touched_keys" zbC (F.f 26) (F.fd 26)
 zes:Binds K (F.fd 26) ["self"] []
 zei:Meth K A.zaA "touched_keys" (F.f 26)
 zlz:Fun K "leave" "Desk.leave" zec (F.f 27) (F.fd 27)
 zlt:Binds K (F.fd 27) ["self","deed"] []
 zkX:Meth K A.zci "leave" (F.f 27)
 zgv:Fun K "lets_first" "Desk.lets_first" zcn (F.f 28) (F.fd 28)
 zgr:Binds K (F.fd 28) ["self"] []
 zgc:Meth K A.zci "lets_first" (F.f 28)
 zj6:Fun K "let_on" "Hall.let_on" zdD (F.f 29) (F.fd 29)
 zjY:Binds K (F.fd 29) ["self","key"] []
 zjF:Meth K A.zaU "let_on" (F.f 29)
 zoh:Fun K "end" "Hall.end" zf0 (F.f 30) (F.fd 30)
 zi7:Binds K (F.fd 30) ["self","deed","state"] []
 ziS:Meth K A.zaU "end" (F.f 30)
 zmJ:Fun K "drop" "Hall.drop" ze6 (F.f 31) (F.fd 31)
 zh9:Binds K (F.fd 31) ["self","deed"] []
 zhD:Meth K A.zaU "drop" (F.f 31)
 zmE:Fun K "wait" "Hall.wait" ze1 (F.f 32) (F.fd 32)
 zmo:Binds K (F.fd 32) ["self","deed","want"] []
 zl3:Meth K A.zaU "wait" (F.f 32)
 zj7:Fun K "answer" "Hall.answer" zdE (F.f 33) (F.fd 33)
 zjZ:Binds K (F.fd 33) ["self","deed","want"] []
 zjG:Meth K A.zaU "answer" (F.f 33)
 zoi:Fun K "ask" "Hall.ask" zf1 (F.f 34) (F.fd 34)
 zi8:Binds K (F.fd 34) ["self","deed","want"] []
 ziT:Meth K A.zaU "ask" (F.f 34)
 zmD:Fun K "__init__" "Want.__init__" ze0 (F.f 35) (F.fd 35)
 zh7:Binds K (F.fd 35) ["self","use","key","value"] []
 zmG:Fun K "read" "Hall.read" ze3 (F.f 36) (F.fd 36)
 zmq:Binds K (F.fd 36) ["self","deed","key"] []
 zl5:Meth K A.zaU "read" (F.f 36)
 zlw:Fun K "write" "Hall.write" zd9 (F.f 37) (F.fd 37)
 zlq:Binds K (F.fd 37) ["self","deed","key","value"] []
 zkU:Meth K A.zaU "write" (F.f 37)
 zmH:Fun K "keep" "Hall.keep" ze4 (F.f 38) (F.fd 38)
 zh8:Binds K (F.fd 38) ["self","deed"] []
 zhC:Meth K A.zaU "keep" (F.f 38)
 zfQ:Fun K "is_at_end" "Record.is_at_end" zb7 (F.f 39) (F.fd 39)
 zfP:Binds K (F.fd 39) ["self"] []
 zfA:Meth K A.zaA "is_at_end" (F.f 39)
 ziA:Fun K "give_up" "Hall.give_up" zdc (F.f 40) (F.fd 40)
 zix:Binds K (F.fd 40) ["self","deed"] []
 zis:Meth K A.zaU "give_up" (F.f 40)
 zmB:Fun K "_law_call" "_law_call" zeY (F.f 41) (F.fd 41)
 zmm:Binds K (F.fd 41) ["_law_hall","_law_act_here"] []
 zmd:mg "_law_call" = some (.ref (F.f 41))
 zma:PySem.W.keepIn K (.ref (F.f 41))=true
 zpX:Fun K "_law_do" "_law_do" zhl (F.f 42) (F.fd 42)
 zpP:Binds K (F.fd 42) ["_law_hall","_law_act_here"] []
 zpp:mg "_law_do" = some (.ref (F.f 42))
 zpc:PySem.W.keepIn K (.ref (F.f 42))=true
 zog:Fun K "log" "Hall.log" zfZ (F.f 43) (F.fd 43)
 zoa:Binds K (F.fd 43) ["self"] []
 znV:Meth K A.zaU "log" (F.f 43)
 zlv:Fun K "_law_count" "_law_count" zd8 (F.f 44) (F.fd 44)
 zlp:Binds K (F.fd 44) ["_law_hall"] []
 zk7:mg "_law_count" = some (.ref (F.f 44))
 zk4:PySem.W.keepIn K (.ref (F.f 44))=true
 zig:Fun K "state_of" "Hall.state_of" zcO (F.f 45) (F.fd 45)
 zcg:Binds K (F.fd 45) ["self","deed"] []
 zcb:Meth K A.zaU "state_of" (F.f 45)
 ziB:Fun K "done_by" "Hall.done_by" zdd (F.f 46) (F.fd 46)
 zeR:Binds K (F.fd 46) ["self","deed"] []
 zeL:Meth K A.zaU "done_by" (F.f 46)
 ziz:Fun K "rising_pairs" "rising_pairs" zdb (F.f 47) (F.fd 47)
 zeQ:Binds K (F.fd 47) ["book"] []
 zeO:mg "rising_pairs" = some (.ref (F.f 47))
 zeN:PySem.W.keepIn K (.ref (F.f 47))=true
 zof:Fun K "now" "Hall.now" zfY (F.f 48) (F.fd 48)
 zi6:Binds K (F.fd 48) ["self"] []
 ziR:Meth K A.zaU "now" (F.f 48)
 zgX:Fun K "kept_book" "Hall.kept_book" zcA (F.f 49) (F.fd 49)
 zgT:Binds K (F.fd 49) ["self"] []
 zgO:Meth K A.zaU "kept_book" (F.f 49)
 zlx:Fun K "order" "Hall.order" zea (F.f 50) (F.fd 50)
 zlr:Binds K (F.fd 50) ["self"] []
 zkV:Meth K A.zaU "order" (F.f 50)
 zj4:Fun K "_law_serial" "_law_serial" zdB (F.f 51) (F.fd 51)
 zjW:Binds K (F.fd 51) ["_law_hall"] []
 zjP:mg "_law_serial" = some (.ref (F.f 51))
 zjL:PySem.W.keepIn K (.ref (F.f 51))=true
 ztS:Fun K "law" "law" zoF (F.f 52) (F.fd 52)
 b_law:Binds K (F.fd 52) ["_law_script"] []
 ztN:mg "law" = some (.ref (F.f 52))
 k_law:PySem.W.keepIn K (.ref (F.f 52))=true
 zr4:∃ t,mg "BEGIN" = some (.str "begin" t)
 zjQ:∃ t,mg "FIRST_VALUE" = some (.int 0 t)
 zgl:∃ t,mg "GIVEN_UP" = some (.str "given up" t)
 zpr:∃ t,mg "GIVE_UP" = some (.str "give up" t)
 zmg:∃ t,mg "GOING" = some (.str "going" t)
 zs5:∃ t,mg "KEEP" = some (.str "keep" t)
 zre:∃ t,mg "KEPT" = some (.str "kept" t)
 zs4:∃ t,mg "READ" = some (.str "read" t)
 zpq:∃ t,mg "READING" = some (.str "reading" t)
 zk8:∃ t,mg "WAITING" = some (.str "waiting" t)
 zmf:∃ t,mg "WRITE" = some (.str "write" t)
 zdw:∃ t,mg "WRITING" = some (.str "writing" t)
 zqK:mg "NoDeed" = some (.ref A.zh3)
 zpY:PySem.W.excIn K A.zh3 [.type "ValueError",.type "Exception",.type "BaseException",.type "object"] "ValueError.__new__" = true
 zgk:mg "NotGoing" = some (.ref A.zcW)
 ziF:PySem.W.excIn K A.zcW [.type "ValueError",.type "Exception",.type "BaseException",.type "object"] "ValueError.__new__" = true
 znw:PySem.W.ktsIn K A.zcW "BaseException" = true
 zsZ:mg "bool" = none
 zoY:mg "int" = none
 zgE:mg "isinstance" = none
 zkS:mg "len" = none
 zf9:mg "range" = none
 ztG:mg "set" = none
 zjB:mg "sorted" = none
 zf8:mg "tuple" = none
theorem zkt:zar ["self"] ["self"] (zak ze5):=⟨rfl,rfl,rfl,by decide +kernel,rfl,by decide +kernel,by decide +kernel⟩
theorem zlM:zar ["_law_cell_here","_law_prime","_law_many"] ["_law_cell_here","_law_prime","_law_many"] (zak zfV):=⟨rfl,rfl,rfl,by decide +kernel,rfl,by decide +kernel,by decide +kernel⟩
theorem zkp:zar ["_law_script","_law_k"] ["_law_script","_law_k"] (zak zeX):=⟨rfl,rfl,rfl,by decide +kernel,rfl,by decide +kernel,by decide +kernel⟩
theorem zbl:zar ["_law_script","_law_k","_law_letters","_law_seed","_law_tail"] ["_law_script","_law_k"] (zak zfW):=⟨rfl,rfl,rfl,by decide +kernel,rfl,by decide +kernel,by decide +kernel⟩
theorem zcL:zar ["_law_script","_law_cell_here","_law_begun","_law_deed","_law_key_here","_law_turn","_law_many"] ["_law_script","_law_cell_here","_law_begun"] (zak zfX):=⟨rfl,rfl,rfl,by decide +kernel,rfl,by decide +kernel,by decide +kernel⟩
theorem zb1:zar ["_law_script","_law_found","_law_begun","_law_cell_here","_law_act_here"] ["_law_script"] (zak zeZ):=⟨rfl,rfl,rfl,by decide +kernel,rfl,by decide +kernel,by decide +kernel⟩
theorem zik:zar ["self"] ["self"] (zak zdC):=⟨rfl,rfl,rfl,by decide +kernel,rfl,by decide +kernel,by decide +kernel⟩
theorem zfu:zar ["self","deed"] ["self"] (zak zeb):=⟨rfl,rfl,rfl,by decide +kernel,rfl,by decide +kernel,by decide +kernel⟩
theorem zlL:zar ["thing"] ["thing"] (zak zfU):=⟨rfl,rfl,rfl,by decide +kernel,rfl,by decide +kernel,by decide +kernel⟩
theorem zfS:zar ["self","deed"] ["self","deed"] (zak zcy):=⟨rfl,rfl,rfl,by decide +kernel,rfl,by decide +kernel,by decide +kernel⟩
theorem zcM:zar ["self","deed"] ["self","deed"] (zak za9):=⟨rfl,rfl,rfl,by decide +kernel,rfl,by decide +kernel,by decide +kernel⟩
theorem zkx:zar ["self"] ["self"] (zak ze9):=⟨rfl,rfl,rfl,by decide +kernel,rfl,by decide +kernel,by decide +kernel⟩
theorem zdm:zar ["self","deed","use","others"] ["self","deed","use"] (zak zcC):=⟨rfl,rfl,rfl,by decide +kernel,rfl,by decide +kernel,by decide +kernel⟩
theorem zkw:zar ["self","deed","use"] ["self","deed","use"] (zak ze8):=⟨rfl,rfl,rfl,by decide +kernel,rfl,by decide +kernel,by decide +kernel⟩
theorem zeF:zar ["self","deed","use"] ["self","deed","use"] (zak zbY):=⟨rfl,rfl,rfl,by decide +kernel,rfl,by decide +kernel,by decide +kernel⟩
theorem zkv:zar ["self","deed","use"] ["self","deed","use"] (zak ze7):=⟨rfl,rfl,rfl,by decide +kernel,rfl,by decide +kernel,by decide +kernel⟩
theorem zii:zar ["book","key"] ["book","key"] (zak zdz):=⟨rfl,rfl,rfl,by decide +kernel,rfl,by decide +kernel,by decide +kernel⟩
theorem zcm:zar ["self","deed","want","record","before"] ["self","deed","want"] (zak zcB):=⟨rfl,rfl,rfl,by decide +kernel,rfl,by decide +kernel,by decide +kernel⟩
theorem zhk:zar ["self","deed","use"] ["self","deed","use"] (zak zdf):=⟨rfl,rfl,rfl,by decide +kernel,rfl,by decide +kernel,by decide +kernel⟩
theorem zb6:zar ["self","deed","use","place"] ["self","deed","use"] (zak zbw):=⟨rfl,rfl,rfl,by decide +kernel,rfl,by decide +kernel,by decide +kernel⟩
theorem zdl:zar ["self","deed","want"] ["self","deed"] (zak zcz):=⟨rfl,rfl,rfl,by decide +kernel,rfl,by decide +kernel,by decide +kernel⟩
theorem zbB:zar ["self","deed","found","left","last","other"] ["self","deed"] (zak zde):=⟨rfl,rfl,rfl,by decide +kernel,rfl,by decide +kernel,by decide +kernel⟩
theorem za8:zar ["self","deed","found","rising"] ["self","deed"] (zak zbg):=⟨rfl,rfl,rfl,by decide +kernel,rfl,by decide +kernel,by decide +kernel⟩
theorem zfR:zar ["self"] ["self"] (zak zcx):=⟨rfl,rfl,rfl,by decide +kernel,rfl,by decide +kernel,by decide +kernel⟩
theorem zd6:zar ["self","deed","key","value"] ["self","deed"] (zak ze2):=⟨rfl,rfl,rfl,by decide +kernel,rfl,by decide +kernel,by decide +kernel⟩
theorem zij:zar ["given"] ["given"] (zak zdA):=⟨rfl,rfl,rfl,by decide +kernel,rfl,by decide +kernel,by decide +kernel⟩
theorem zcj:zar ["self","touched"] ["self"] (zak zbC):=⟨rfl,rfl,rfl,by decide +kernel,rfl,by decide +kernel,by decide +kernel⟩
theorem zjk:zar ["self","deed"] ["self","deed"] (zak zec):=⟨rfl,rfl,rfl,by decide +kernel,rfl,by decide +kernel,by decide +kernel⟩
theorem zfv:zar ["self"] ["self"] (zak zcn):=⟨rfl,rfl,rfl,by decide +kernel,rfl,by decide +kernel,by decide +kernel⟩
theorem zda:zar ["self","key","desk","first"] ["self","key"] (zak zdD):=⟨rfl,rfl,rfl,by decide +kernel,rfl,by decide +kernel,by decide +kernel⟩
theorem zcN:zar ["self","deed","state","record","touched","key"] ["self","deed","state"] (zak zf0):=⟨rfl,rfl,rfl,by decide +kernel,rfl,by decide +kernel,by decide +kernel⟩
theorem zku:zar ["self","deed"] ["self","deed"] (zak ze6):=⟨rfl,rfl,rfl,by decide +kernel,rfl,by decide +kernel,by decide +kernel⟩
theorem zc4:zar ["self","deed","want","record","greatest"] ["self","deed","want"] (zak ze1):=⟨rfl,rfl,rfl,by decide +kernel,rfl,by decide +kernel,by decide +kernel⟩
theorem zeI:zar ["self","deed","want","record"] ["self","deed","want"] (zak zdE):=⟨rfl,rfl,rfl,by decide +kernel,rfl,by decide +kernel,by decide +kernel⟩
theorem zhj:zar ["self","deed","want","desk"] ["self","deed","want"] (zak zf1):=⟨rfl,rfl,rfl,by decide +kernel,rfl,by decide +kernel,by decide +kernel⟩
theorem zkr:zar ["self","use","key","value"] ["self","use","key","value"] (zak ze0):=⟨rfl,rfl,rfl,by decide +kernel,rfl,by decide +kernel,by decide +kernel⟩
theorem zks:zar ["self","deed","key"] ["self","deed","key"] (zak ze3):=⟨rfl,rfl,rfl,by decide +kernel,rfl,by decide +kernel,by decide +kernel⟩
theorem zji:zar ["self","deed","key","value"] ["self","deed","key","value"] (zak zd9):=⟨rfl,rfl,rfl,by decide +kernel,rfl,by decide +kernel,by decide +kernel⟩
theorem zd7:zar ["self","deed","key","value"] ["self","deed"] (zak ze4):=⟨rfl,rfl,rfl,by decide +kernel,rfl,by decide +kernel,by decide +kernel⟩
theorem zeW:zar ["self"] ["self"] (zak zb7):=⟨rfl,rfl,rfl,by decide +kernel,rfl,by decide +kernel,by decide +kernel⟩
theorem zhh:zar ["self","deed"] ["self","deed"] (zak zdc):=⟨rfl,rfl,rfl,by decide +kernel,rfl,by decide +kernel,by decide +kernel⟩
theorem zkq:zar ["_law_hall","_law_act_here"] ["_law_hall","_law_act_here"] (zak zeY):=⟨rfl,rfl,rfl,by decide +kernel,rfl,by decide +kernel,by decide +kernel⟩
theorem zev:zar ["_law_hall","_law_act_here","_law_told"] ["_law_hall","_law_act_here"] (zak zhl):=⟨rfl,rfl,rfl,by decide +kernel,rfl,by decide +kernel,by decide +kernel⟩
theorem zlO:zar ["self"] ["self"] (zak zfZ):=⟨rfl,rfl,rfl,by decide +kernel,rfl,by decide +kernel,by decide +kernel⟩
theorem zjh:zar ["_law_hall"] ["_law_hall"] (zak zd8):=⟨rfl,rfl,rfl,by decide +kernel,rfl,by decide +kernel,by decide +kernel⟩
theorem zgL:zar ["self","deed"] ["self","deed"] (zak zcO):=⟨rfl,rfl,rfl,by decide +kernel,rfl,by decide +kernel,by decide +kernel⟩
theorem zhi:zar ["self","deed"] ["self","deed"] (zak zdd):=⟨rfl,rfl,rfl,by decide +kernel,rfl,by decide +kernel,by decide +kernel⟩
theorem zhg:zar ["book"] ["book"] (zak zdb):=⟨rfl,rfl,rfl,by decide +kernel,rfl,by decide +kernel,by decide +kernel⟩
theorem zlN:zar ["self"] ["self"] (zak zfY):=⟨rfl,rfl,rfl,by decide +kernel,rfl,by decide +kernel,by decide +kernel⟩
theorem zfT:zar ["self"] ["self"] (zak zcA):=⟨rfl,rfl,rfl,by decide +kernel,rfl,by decide +kernel,by decide +kernel⟩
theorem zjj:zar ["self"] ["self"] (zak zea):=⟨rfl,rfl,rfl,by decide +kernel,rfl,by decide +kernel,by decide +kernel⟩
theorem zbu:zar ["_law_hall","_law_book","_law_deed","_law_kind","_law_key_here","_law_value"] ["_law_hall"] (zak zdB):=⟨rfl,rfl,rfl,by decide +kernel,rfl,by decide +kernel,by decide +kernel⟩
theorem zd5:zar ["_law_script","_law_hall","_law_wishes","_law_act_here","_law_many","_law_waiting","_law_turn","_law_deed","_law_last"] ["_law_script"] (zak zoF):=⟨rfl,rfl,rfl,by decide +kernel,rfl,by decide +kernel,by decide +kernel⟩
end TP
end
section
namespace TP
open PySem L2 TH PyProof.Rows
local macro_rules | `(tactic| walk_at "loc") => `(tactic| first | exact Or.inl rfl | exact Or.inr rfl)
local macro_rules | `(tactic| walk_at "blk") => `(tactic| (
 refine ⟨rfl,by decide +kernel,by decide +kernel,?_,by decide +kernel,rfl,?_⟩
 . (repeat' (first | exact List.forall_mem_nil _ | refine List.forall_mem_cons.mpr ⟨?_,?_⟩)) <;> (first | (intro h; exact absurd h (by decide)) | exact (λ _=>Or.inl rfl) | exact (λ _=>Or.inr rfl))
 . intro i j x h1 h2
   rcases i with _ | _ | _ | _ | i <;> (first | (simp at h2; done) | (cases h1; cases h2; exact ⟨rfl,rfl,by first | exact Or.inl rfl | exact Or.inr rfl⟩))))
section
variable {P:Program} {w:World} {K:PySem.W.Frag} {mg:Str->Option Value} {base:Heap} {A:Ad} {F:Fs}
theorem zlU (T:Txt K mg A F):FnOk P w K mg base (CX1 P w) 1 (F.f 8) (F.fd 8) ["thing"] zow:=by
 refine T.zoc.okN zlL (λ vs H Q E h=>?_) (λ cdv A' outer s H vs Q E hr h=>?_)
 . obtain ⟨i,rfl,_⟩:=h
   rfl
 . obtain ⟨i,rfl,k⟩:=h
   refine ⟨_,(zaf (zaw (zm6 (zbK zh2 (by rfl) T.zgE boot_isinstance (zaa (pv 0) (zaa (zsR rfl T.zoY boot_int) zad))) (ziM (zsQ (zbK zh2 (by rfl) T.zgE boot_isinstance (zaa (pv 0) (zaa (zsR rfl T.zsZ boot_bool) zad)))))))),?_⟩
   refine ⟨_,rfl,_,_,_,_,rfl,.int i,rfl,_,rfl,?_⟩
   refine iteT ?_
   refine ⟨_,rfl,_,_,_,_,rfl,.int i,rfl,_,rfl,?_⟩
   exact k
theorem zeK (T:Txt K mg A F):FnOk P w K mg base (CX1 P w) 1 (F.f 25) (F.fd 25) ["given"] (zgx K):=by
 refine T.zj3.okN zij (λ vs H Q E h=>?_) (λ cdv A' outer s H vs Q E hr h=>?_)
 . obtain ⟨p,xs,rfl,_⟩:=h
   rfl
 . obtain ⟨p,xs,rfl,src,hl,h64,k⟩:=h
   refine ⟨_,(zaf (zaw (zbF zbO (by rfl) T.zf8 boot_tuple (zaa (zbK (zh1 rfl) (by rfl) T.zjB boot_sorted (zaa (zbF (zqP rfl) (by rfl) T.ztG boot_set (zaa (pv 0) zad)) zad)) zad)))),?_⟩
   refine ⟨_,rfl,p,_,rfl,src,zkc xs,by rw [List.length_map]; exact hl,λ q hq=>?_⟩
   refine ⟨q,_,rfl,zab,S6.zpD _,λ k hk=>zkc xs k (S6.zjE.mp hk),by rw [(zpC xs).length_eq,List.length_map]; exact h64,λ ys l pm pw hl=>?_⟩
   refine ⟨l,_,rfl,.inl ⟨SqL.of zab,λ r hr=>?_⟩⟩
   have e:ys=(ordS xs).map Sum.inr:=zhb (λ k=>by
    rw [pm.mem_iff,S6.zjE,List.mem_map]
    exact ⟨λ ⟨x,h,e⟩=>⟨x,h,e.symm⟩,λ ⟨x,h,e⟩=>⟨x,h,e.symm⟩⟩) pw
   subst e
   refine k _ r (((Same.zas hq).upd2 hl).free hr) (((Same.zas hq).upd2 hl).upd2 hr) ?_
   rw [zab,zq6]
theorem zil (T:Txt K mg A F):FnOk P w K mg base (CX1 P w) 1 (F.f 16) (F.fd 16) ["book","key"] zki:=by
 refine T.zj2.okN zii (λ vs H Q E h=>?_) (λ cdv A' outer s H vs Q E hr h=>?_)
 . obtain ⟨p,k,l,b,rfl,_⟩:=h
   rfl
 . obtain ⟨p,k,l,b,rfl,hp,hb,q⟩:=h
   have hu:=zdW hr
   refine ⟨_,(zaf (zaw (zm5 hu (pv 0) (pv 1) (ztE rfl T.zjQ) ⟨rfl,rfl,rfl,rfl⟩))),?_⟩
   refine ⟨_,rfl,p,rfl,.inl ⟨_,.of hp⟩,_,rfl,_,DGet.k (k:=Sum.inr k) hp,?_⟩
   rw [hb.val]
   cases e:b k with
   | none=>rw [e] at q; exact q
   | some v=>rw [e] at q; exact q
end
section
variable {P:Program} {w:World} {K:PySem.W.Frag} {mg:Str->Option Value} {base:Heap} {A:Ad} {F:Fs}
theorem zef (T:Txt K mg A F):FnOk P w K mg base (CX1 P w) 2 (F.f 47) (F.fd 47) ["book"] zjf:=by
 have G_rising_keys:=zeK (P:=P) (w:=w) (base:=base) T
 refine T.ziz.okN zhg (λ vs H Q E h=>?_) (λ cdv A' outer s H vs Q E hr h=>?_)
 . obtain ⟨p,l,b,rfl,_⟩:=h
   rfl
 . obtain ⟨p,l,b,rfl,hp,hb,h4,k⟩:=h
   have hu:=zdW hr
   refine ⟨_,(zaf (zaw (zbF zbO (by rfl) T.zf8 boot_tuple (zaa (zfe 1 [0] ["key","book"] rfl (by walk_at "blk") (ziL (zaP G_rising_keys (hr.mono (by decide)) rfl T.zfH T.zfE T.zfO .nil zaD (zaa (pv 0) zad))) (λ C fp s H=>(zaL (i:=0) (show (["key","book"]:List Str).Nodup by decide +kernel) rfl (by walk_at "loc"))) (λ C fp s H=>zjn) (λ C fp s H=>(zbA (zaa (pv 0) (zaa (zcQ hu (pv 1) (pv 0) (λ _ _=>rfl)) zad))))) zad)))),?_⟩
   have hlen:(ordS (l.map (·.1))).length<=4:=Nat.le_trans (zm9 _ (l.map (·.1)) (λ _ h=>h) hb.nd) (by rw [List.length_map]; exact h4)
   refine ⟨_,rfl,p,l.map (·.1),rfl,.inr ⟨bkV l,hp,by unfold bkV; simp [List.map_map,Function.comp_def],by unfold bkV; rw [List.length_map]; exact h4⟩,by rw [List.length_map]; omega,by omega,λ H1 q _ s1 hq=>⟨q,rfl,⟨_,SqT.of hq⟩,?_⟩⟩
   refine znr (xs:=(ordS (l.map (·.1))).map V.str) (λ i ys σ H2=>∃ v0,σ=[v0,some (.ref p)]/\Same H H2/\H2 q=some (.tup ((ordS (l.map (·.1))).map V.str))/\i<=(ordS (l.map (·.1))).length/\zap H2 ys (((ordS (l.map (·.1))).take i).map λ k=>[V.str k,V.int ((b k).getD 0)])) ⟨none,rfl,s1,hq,Nat.zero_le _,.nil⟩ (λ i ys σ H2 ⟨_,_,_,e,hi,t⟩=>⟨SqT.of e,?_⟩) (by rw [List.length_map,sizeLine_eq]; omega) ?_ ?_
   . rw [t.length,List.length_map,List.length_take]; omega
   . rintro i x ys σ H2 hlt hx ⟨v0,rfl,s2,hq2,hi,t⟩
     rw [List.length_map] at hlt
     rw [List.getElem?_map] at hx
     obtain ⟨y,hy,rfl⟩:=Option.map_eq_some_iff.mp hx
     obtain ⟨v,hv⟩:∃ v,b y=some v:=by
      obtain ⟨e,he,hey⟩:=List.mem_map.mp (zaV.mp (List.mem_of_getElem? hy))
      exact ⟨e.2,(hb.mem y e.2).mp (by rw [<-hey]; exact he)⟩
     have dg:DGet H2 p (V.str y) (some (V.int v)):=by
      have:=DGet.k (k:=Sum.inr y) (s2 p _ hp)
      rw [hb.val,hv] at this; exact this
     refine ⟨_,rfl,_,rfl,_,rfl,p,_,rfl,dg,by show 2<=sizeLine; rw [sizeLine_eq]; decide,λ r hr=>nx (by rw [List.length_map]; exact hlt) ⟨_,rfl,s2.upd2 hr,zav hq2 hr,hlt,?_⟩⟩
     rw [List.take_add_one,hy,List.map_append]
     refine S6.zb9 (zap.mono (A:=A) (.of_same (Same.zas hr)) t) ⟨r,rfl,?_⟩
     rw [zab]
     show _=some (HO.tup [V.str y,V.int ((b y).getD 0)])
     rw [hv]; rfl
   . rintro ys σ H2 ⟨v0,rfl,s2,hq2,hi,t⟩
     rw [List.length_map,List.take_length] at t
     intro r hr
     refine ⟨r,_,rfl,.inl ⟨SqL.of zab,λ r2 hr2=>?_⟩⟩
     refine k _ r2 ys ((s2.upd2 hr).upd2 hr2) zab ?_
     exact zap.mono (A:=A) (.of_same ((Same.zas hr).upd2 hr2)) t
end
section
variable {P:Program} {w:World} {K:PySem.W.Frag} {mg:Str->Option Value} {base:Heap} {A:Ad} {F:Fs}
theorem zgA (T:Txt K mg A F):FnOk P w K mg base (CX1 P w) 1 (F.f 35) (F.fd 35) ["self","use","key","value"] (znB A):=by
 refine T.zmD.okN zkr (λ vs H Q E h=>?_) (λ cdv A' outer s H vs Q E hr h=>?_)
 . obtain ⟨p,dx,w,k,v,rfl,_⟩:=h
   rfl
 . obtain ⟨p,dx,w,k,v,rfl,hp,q⟩:=h
   refine ⟨_,(zac (zbS (pv 0) (pv 1) rfl)
    (zac (zbS (pv 0) (pv 2) rfl)
    (zaf (zbS (pv 0) (pv 3) rfl)))),?_⟩
   refine ⟨_,rfl,_,rfl,p,_,dx,_,rfl,hp,T.zaZ,T.zbm,Nat.le_of_ble_eq_true rfl,_,rfl,_,rfl,p,_,dx,_,rfl,zab,T.zaZ,T.za4,Nat.le_of_ble_eq_true rfl,_,rfl,_,rfl,p,_,dx,_,rfl,zab,T.zaZ,T.zcG,Nat.le_of_ble_eq_true rfl,?_⟩
   refine q _ (by rw [zab]; rfl) λ b o e hb=>?_
   rw [zae hb,zae hb,zae hb]; exact e
theorem zio (T:Txt K mg A F):FnOk P w K mg base (CX1 P w) 1 (F.f 6) (F.fd 6) ["self"] (zkj A):=by
 refine T.zj5.okN zik (λ vs H Q E h=>?_) (λ cdv A' outer s H vs Q E hr h=>?_)
 . obtain ⟨p,dx,rfl,_⟩:=h
   rfl
 . obtain ⟨p,dx,rfl,hp,q⟩:=h
   refine ⟨_,(zac (zbS (pv 0) (zcF rfl T.zmg) rfl)
     (zac (zbS (pv 0) (zdp zad) rfl)
     (zaf (zbS (pv 0) zfx rfl)))),?_⟩
   refine ⟨_,rfl,p,_,dx,_,rfl,hp,T.zau,T.zay,Nat.le_of_ble_eq_true rfl,Nat.le_of_ble_eq_true rfl,λ d hd=>⟨_,rfl,p,_,dx,_,rfl,zav zab hd,T.zau,T.zbd,Nat.le_of_ble_eq_true rfl,_,rfl,p,_,dx,_,rfl,zab,T.zau,T.za0,Nat.le_of_ble_eq_true rfl,?_⟩⟩
   have hpd:p≠d:=zah zab hd
   refine q _ d ?_ (by rw [zab]; rfl) ?_ λ b o e hb=>?_
   . rw [zae hpd.symm] at hd; exact hd
   . rw [zae hpd.symm,zae hpd.symm,zab]
   . have hbd:b≠d:=λ z=>by
      rw [zae hpd.symm] at hd
      rw [z,hd] at e; cases e
     rw [zae hb,zae hb,zae hbd,zae hb]; exact e
theorem zfh (T:Txt K mg A F):FnOk P w K mg base (CX1 P w) 1 (F.f 39) (F.fd 39) ["self"] (zox A):=by
 refine T.zfQ.okN zeW (λ vs H Q E h=>?_) (λ cdv A' outer s H vs Q E hr h=>?_)
 . obtain ⟨p,dx,d,st,w,rfl,_⟩:=h
   rfl
 . obtain ⟨p,dx,d,st,w,rfl,hp,q⟩:=h
   refine ⟨_,(zaf (zaw (zsP (zcR zch (zao (pv 0) rfl) (zcF rfl T.zre) (zaE _)) (ziM (zcR zch (zao (pv 0) rfl) (zcF rfl T.zgl) (zaE _)))))),?_⟩
   refine ⟨_,rfl,p,_,dx,_,_,rfl,hp,T.zau,T.zay,rfl,rfl,_,rfl,?_⟩
   cases st with
   | kept=>exact q
   | dropped=>exact ⟨_,rfl,p,_,dx,_,_,rfl,hp,T.zau,T.zay,rfl,rfl,q⟩
   | zan=>exact ⟨_,rfl,p,_,dx,_,_,rfl,hp,T.zau,T.zay,rfl,rfl,q⟩
   | waiting=>exact ⟨_,rfl,p,_,dx,_,_,rfl,hp,T.zau,T.zay,rfl,rfl,q⟩
theorem zdq (T:Txt K mg A F):FnOk P w K mg base (CX1 P w) 1 (F.f 23) (F.fd 23) ["self"] (zot A):=by
 refine T.zgU.okN zfR (λ vs H Q E h=>?_) (λ cdv A' outer s H vs Q E hr h=>?_)
 . obtain ⟨p,st,d,w,done,rfl,_⟩:=h
   rfl
 . obtain ⟨p,st,d,w,done,rfl,⟨⟨dx,hp⟩,us,hd,tu⟩,hl,q⟩:=h
   refine ⟨_,(zaf (zaw (zfe 3 [] ["act","key","value"] rfl (by walk_at "blk") (zdg (zao (pv 0) rfl)) (λ C fp s H=>(zoK (K:=K) (n:=3) rfl rfl (zbJ (zaL (i:=0) (show (["act","key","value"]:List Str).Nodup by decide +kernel) rfl (by walk_at "loc")) (zbJ (zaL (i:=1) (show (["act","key","value"]:List Str).Nodup by decide +kernel) rfl (by walk_at "loc")) (zbJ (zaL (i:=2) (show (["act","key","value"]:List Str).Nodup by decide +kernel) rfl (by walk_at "loc")) zhr))))) (λ C fp s H=>zf4 (zaB zch (pv 0) (zcF rfl T.zmf) (zaE _))) (λ C fp s H=>(zbA (zaa (pv 1) (zaa (pv 2) zad))))))),?_⟩
   refine ⟨_,rfl,p,_,dx,_,_,rfl,hp,T.zau,T.zbd,rfl,d,rfl,⟨_,SqL.of hd⟩,?_⟩
   have hul:us.length=done.length:=by rw [tu.length,List.length_map]
   have hz:us.length<=sizeLine:=by rw [hul,sizeLine_eq]; omega
   refine zfM (xs:=us) (λ i ys σ H2=>∃ v0 v1 v2,σ=[v0,v1,v2]/\Same H H2/\ys.length<=i/\zap H2 ys ((zat (done.take i)).map ziG)) ⟨none,none,none,rfl,Same.refl H,Nat.le_refl _,.nil⟩ (λ i ys σ H2 ⟨_,_,_,_,s2,hy,_⟩=>⟨SqL.of (s2 _ _ hd),hy⟩) hz ?_ ?_
   . rintro i x ys σ H2 hlt hx ⟨v0,v1,v2,rfl,s2,hy,t⟩
     obtain ⟨y,hy1,r,rfl,hr1⟩:=zcE tu hx
     rw [List.getElem?_map] at hy1
     obtain ⟨a,ha,rfl⟩:=Option.map_eq_some_iff.mp hy1
     have e1:done.take (i+1)=done.take i++[a]:=by rw [List.take_add_one,ha]; rfl
     refine ⟨r,_,rfl,SqT.of (s2 _ _ hr1),rfl,_,_,rfl,_,_,rfl,_,_,rfl,rfl,_,rfl,rfl,_,rfl,?_⟩
     cases hw:a.wr with
     | true =>
      refine ⟨_,rfl,_,rfl,by show 2<=sizeLine; rw [sizeLine_eq]; decide,λ n hn=>nx hlt ⟨_,_,_,rfl,s2.upd2 hn,by rw [List.length_append,List.length_singleton]; omega,?_⟩⟩
      rw [e1,zcD,hw,List.map_append]
      exact S6.zb9 (zbr (Same.zas hn) t) ⟨n,rfl,zab⟩
     | false =>
      refine nx hlt ⟨_,_,_,rfl,s2,by omega,?_⟩
      rw [e1,zcD,hw]
      simp only [Bool.false_eq_true,if_false,List.append_nil]
      exact t
   . rintro ys σ H2 ⟨v0,v1,v2,rfl,s2,hy,t⟩
     rw [hul,List.take_length] at t
     intro n hn
     exact q _ n ys (s2.upd2 hn) zab (zbr (Same.zas hn) t)
theorem zdU (T:Txt K mg A F):FnOk P w K mg base (CX1 P w) 2 (F.f 26) (F.fd 26) ["self"] (zou A):=by
 have G_rising_keys:=zeK (P:=P) (w:=w) (base:=base) T
 refine T.zet.okN zcj (λ vs H Q E h=>?_) (λ cdv A' outer s H vs Q E hr h=>?_)
 . obtain ⟨p,st,d,w,done,o,rfl,_⟩:=h
   rfl
 . obtain ⟨p,st,d,w,done,o,rfl,⟨⟨dx,hp⟩,us,hd,tu⟩,hw,hl,h64,q⟩:=h
   refine ⟨_,(zac (zf5 (i:=1) 3 [] ["act","key","value"] zcj.nd rfl (by walk_at "loc") rfl (by walk_at "blk") (zdg (zao (pv 0) rfl)) (λ C fp s H=>(zoK (K:=K) (n:=3) rfl rfl (zbJ (zaL (i:=0) (show (["act","key","value"]:List Str).Nodup by decide +kernel) rfl (by walk_at "loc")) (zbJ (zaL (i:=1) (show (["act","key","value"]:List Str).Nodup by decide +kernel) rfl (by walk_at "loc")) (zbJ (zaL (i:=2) (show (["act","key","value"]:List Str).Nodup by decide +kernel) rfl (by walk_at "loc")) zhr))))) (λ C fp s H=>zjn) (λ C fp s H=>(pv 1)))
     (zac (zbE (zgz (zoO (zao (pv 0) rfl))) (zaf (zaJ (zee PySem.F.plainAttrs_list PySem.F.slot_list_append PySem.F.type_list_append zbs (pv 1) (zaa (zao (zao (pv 0) rfl) rfl) zad)))) zaO)
     (zaf (zaw (zaP G_rising_keys (hr.mono (by decide)) rfl T.zfH T.zfE T.zfO .nil zaD (zaa (pv 1) zad)))))),?_⟩
   have hul:us.length=done.length:=by rw [tu.length,List.length_map]
   refine ⟨_,rfl,p,_,dx,_,_,rfl,hp,T.zau,T.zbd,rfl,d,rfl,⟨_,SqL.of hd⟩,?_⟩
   refine zfM (xs:=us) (λ i ys σ H2=>∃ v0 v1 v2,σ=[v0,v1,v2]/\H2=H/\ys=(done.take i).map λ a=>V.str a.key) ⟨none,none,none,rfl,rfl,rfl⟩ (λ i ys σ H2 ⟨_,_,_,_,e,hy⟩=>⟨SqL.of (by rw [e]; exact hd),by rw [hy,List.length_map,List.length_take]; omega⟩) (by rw [hul,sizeLine_eq]; omega) ?_ ?_
   . rintro i x ys σ H2 hlt hx ⟨v0,v1,v2,rfl,rfl,rfl⟩
     obtain ⟨y,hy1,r,rfl,hr1⟩:=zcE tu hx
     rw [List.getElem?_map] at hy1
     obtain ⟨a,ha,rfl⟩:=Option.map_eq_some_iff.mp hy1
     have e1:done.take (i+1)=done.take i++[a]:=by rw [List.take_add_one,ha]; rfl
     refine ⟨r,_,rfl,SqT.of hr1,rfl,_,_,rfl,_,_,rfl,_,_,rfl,rfl,_,rfl,nx hlt ⟨_,_,_,rfl,rfl,?_⟩⟩
     rw [e1,List.map_append]; rfl
   . rintro ys σ H2 ⟨v0,v1,v2,rfl,rfl,rfl⟩
     rw [hul,List.take_length]
     intro n hn
     have hpn:upd H2 n (.lst (done.map λ a=>V.str a.key)) p=some (.ins A.zaA dx (recF st d w)):=zav hp hn
     refine ⟨_,rfl,p,_,dx,_,_,rfl,hpn,T.zau,T.za0,rfl,_,rfl,?_⟩
     have fin:∀ (H3:Hp) (xs:List Str),Same H2 H3->H3 n=some (.lst (xs.map V.str))->xs=done.map (·.key)++zc3 o->zgx K [V.ref n] H3 Q EF:=λ H3 xs s3 e3 ex=>by
      subst ex
      refine ⟨n,done.map (·.key)++zc3 o,rfl,.inl (SqL.of (by rw [zq6]; exact e3)),?_,h64,λ H' q' nq m e=>q H' q' (s3.free nq) (s3.trans m) e⟩
      rw [List.length_append,List.length_map]
      cases o <;> simp only [zc3,List.length_nil,List.length_singleton] <;> omega
     cases o with
     | none =>
      have hw':w=.non:=hw
      subst hw'
      exact ⟨_,rfl,fin _ (done.map (·.key)) (Same.zas hn) (by rw [zab,List.map_map]; rfl) (by simp [zc3])⟩
     | some a =>
      obtain ⟨pw,dw,rfl,hpw⟩:=hw
      have hpw':=zav (o:=HO.lst (done.map λ a=>V.str a.key)) hpw hn
      refine ⟨_,rfl,.inl ⟨rfl,_,SqL.of zab⟩,_,rfl,p,_,dx,_,_,rfl,hpn,T.zau,T.za0,rfl,pw,_,dw,_,_,rfl,hpw',T.zaZ,T.za4,rfl,n,_,_,rfl,rfl,zab,by rw [List.length_map,sizeLine_eq]; omega,_,rfl,?_⟩
      refine fin _ (done.map (·.key)++[a.key]) ?_ ?_ rfl
      . rw [zja]; exact Same.zas hn
      . rw [zab,List.map_append,List.map_map]; rfl
end
section
variable {P:Program} {w:World} {K:PySem.W.Frag} {mg:Str->Option Value} {base:Heap} {A:Ad} {F:Fs}
theorem zkN (T:Txt K mg A F):FnOk P w K mg base (CX1 P w) 1 (F.f 11) (F.fd 11) ["self"] (znH A):=by
 refine T.zmM.okN zkx (λ vs H Q E h=>?_) (λ cdv A' outer s H vs Q E hr h=>?_)
 . obtain ⟨p,dx,rfl,_⟩:=h
   rfl
 . obtain ⟨p,dx,rfl,hp,q⟩:=h
   refine ⟨_,(zac (zbS (pv 0) zdF rfl)
     (zaf (zbS (pv 0) (zdp zad) rfl))),?_⟩
   intro hd nh
   have hph:p≠hd:=zah hp nh
   refine ⟨_,rfl,p,_,dx,_,rfl,zav hp nh,T.zaQ,T.zbi,Nat.le_of_ble_eq_true rfl,Nat.le_of_ble_eq_true rfl,λ rw nr=>?_⟩
   have hpr:p≠rw:=zah zab nr
   have nr1:upd H hd (.dK []) rw=none:=by rw [zae hpr.symm] at nr; exact nr
   have hhr:hd≠rw:=zah zab nr1
   have nr2:H rw=none:=by rw [zae hhr.symm] at nr1; exact nr1
   refine ⟨_,rfl,p,_,dx,_,rfl,zav zab nr,T.zaQ,T.zaX,Nat.le_of_ble_eq_true rfl,?_⟩
   refine q _ hd rw nh nr2 (by rw [zab]; rfl) ?_ ?_ λ b o e hb=>?_
   . rw [zae hph.symm,zae hhr,zae hph.symm,zab]
   . rw [zae hpr.symm,zab]
   . rw [zae hb,zae (zah e nr2),zae hb,zae (zah e nh)]; exact e
theorem zds (T:Txt K mg A F):FnOk P w K mg base (CX1 P w) 1 (F.f 12) (F.fd 12) ["self","deed","use"] (zlE A):=by
 refine T.zgZ.okN zdm (λ vs H Q E h=>?_) (λ cdv A' outer s H vs Q E hr h=>?_)
 . obtain ⟨p,hd,rw,h,r,d,w,rfl,_⟩:=h
   rfl
 . obtain ⟨p,hd,rw,h,r,d,w,rfl,⟨⟨dx,hp⟩,hh,_⟩,hl,hnd,q⟩:=h
   have hu:=zdW hr
   refine ⟨_,(zac (zrM (zf5 (i:=3) 1 [1] ["other","deed"] zdm.nd rfl (by walk_at "loc") rfl (by walk_at "blk") (zrO (zao (pv 0) rfl)) (λ C fp s H=>(zaL (i:=0) (show (["other","deed"]:List Str).Nodup by decide +kernel) rfl (by walk_at "loc"))) (λ C fp s H=>zf4 (zaB zlR (pv 0) (pv 1) (zaE _))) (λ C fp s H=>(pv 0))))
     (zac (zbE (zaB zch (pv 2) (zcF rfl T.zdw) (zaE _)) (zaf (zaw (pv 3))) zaO)
     (zaf (zaw (zfe 1 [0] ["other","self"] rfl (by walk_at "blk") (zdg (pv 3)) (λ C fp s H=>(zaL (i:=0) (show (["other","self"]:List Str).Nodup by decide +kernel) rfl (by walk_at "loc"))) (λ C fp s H=>zf4 (zaB zch (zcQ hu (zrP (K:=K) rfl (pv 1) rfl) (pv 0) (λ _ _=>rfl)) (zcF rfl T.zdw) (zaE _))) (λ C fp s H=>(pv 0))))))),?_⟩
   have hz:(zcc h).length<=sizeLine:=by rw [zhR,sizeLine_eq]; omega
   refine ⟨_,rfl,p,_,dx,_,_,rfl,hp,T.zaQ,T.zbi,rfl,hd,_,rfl,hh,λ o=>?_⟩
   refine zpK (λ i ys σ H2=>∃ v0,σ=[v0,some (V.int d)]/\H2=upd H hd (.frz o (.dK (zcc h)))/\ys=zaC (((h.take i).filter λ p=>p.1 != d).map (·.1))) ⟨none,rfl,rfl,rfl⟩ (λ i ys σ H2 ⟨_,_,e,hy⟩=>⟨by rw [e,zab],?_⟩) hz ?_ ?_
   . rw [hy]; unfold zaC; rw [List.length_map,List.length_map]
     exact Nat.le_trans (List.length_filter_le _ _) (by rw [List.length_take]; omega)
   . rintro i k v ys σ H2 hlt hk ⟨v0,rfl,rfl,rfl⟩
     unfold zcc at hk
     rw [List.getElem?_map] at hk
     obtain ⟨⟨e,we⟩,he,hke⟩:=Option.map_eq_some_iff.mp hk
     cases hke
     have e1:h.take (i+1)=h.take i++[(e,we)]:=by rw [List.take_add_one,he]; rfl
     refine ⟨_,rfl,_,rfl,rfl,_,rfl,?_⟩
     refine zdu (e != d) (zq4 e d) ?_
     by_cases hed:e=d
     . refine zaW (by simp [hed]) (nx hlt ⟨_,rfl,rfl,?_⟩)
       rw [e1,List.filter_append]; simp [hed]
     . refine zbx (by simp [hed]) ⟨_,rfl,nx hlt ⟨_,rfl,rfl,?_⟩⟩
       rw [e1,List.filter_append]
       unfold zaC
       simp [hed]
       rfl
   . rintro ys σ H2 ⟨v0,rfl,rfl,rfl⟩
     rw [zhR,List.take_length]
     intro n hn
     have hnh:H n=none:=by
       by_cases z:n=hd
       . rw [z,zab] at hn; cases hn
       . rw [zae z] at hn; exact hn
     refine ⟨hd,o,zcc h,hh,zav zab hn,?_⟩
     rw [zrm hh hnh]
     have hpn:=zav (o:=HO.lst (zaC ((h.filter λ p=>p.1 != d).map (·.1)))) hp hnh
     have hhn:=zav (o:=HO.lst (zaC ((h.filter λ p=>p.1 != d).map (·.1)))) hh hnh
     refine ⟨_,rfl,rfl,_,rfl,?_⟩
     rw [zg7]
     cases w with
     | true =>
       refine ⟨_,rfl,q _ n hnh (Same.zas hnh) ?_⟩
       rw [zab]; unfold hind; simp
     | false =>
       have hlen:(zaC ((h.filter λ p=>p.1 != d).map (·.1))).length<=1000:=by
         unfold zaC; rw [List.length_map,List.length_map]
         exact Nat.le_trans (List.length_filter_le _ _) hl
       refine ⟨_,rfl,n,rfl,⟨_,SqL.of zab⟩,?_⟩
       refine zfM (xs:=zaC ((h.filter λ p=>p.1 != d).map (·.1))) (λ i ys σ H2=>∃ v0,σ=[v0,some (V.ref p)]/\H2=upd H n (.lst (zaC ((h.filter λ p=>p.1 != d).map (·.1))))/\ys=zaC ((((h.filter λ p=>p.1 != d).take i).filter λ p=>p.2).map (·.1))) ⟨none,rfl,rfl,rfl⟩ (λ i ys σ H2 ⟨_,_,e,hy⟩=>⟨SqL.of (by rw [e,zab]),?_⟩) (by rw [sizeLine_eq]; omega) ?_ ?_
       . rw [hy]; unfold zaC; rw [List.length_map,List.length_map]
         exact Nat.le_trans (List.length_filter_le _ _) (by rw [List.length_take]; omega)
       . rintro i x ys σ H2 hlt hx ⟨v0,rfl,rfl,rfl⟩
         unfold zaC at hx
         rw [List.getElem?_map,List.getElem?_map] at hx
         obtain ⟨e,he,rfl⟩:=Option.map_eq_some_iff.mp hx
         obtain ⟨⟨e',we⟩,he',rfl⟩:=Option.map_eq_some_iff.mp he
         have e1:(h.filter λ p=>p.1 != d).take (i+1)=(h.filter λ p=>p.1 != d).take i++[(e',we)]:=by rw [List.take_add_one,he']; rfl
         have hm:(e',we)∈h:=(List.mem_filter.mp (List.mem_of_getElem? he')).1
         have dg:DGet (upd H n (.lst (zaC ((h.filter λ p=>p.1 != d).map (·.1))))) hd (V.int (e':Int)) (some (V.str (useS we))):=by
          have:=DGet.k (k:=Sum.inl (e':Int)) hhn
          rw [zfF,zcS hnd hm] at this
          exact this
         refine ⟨_,rfl,p,_,dx,_,_,rfl,hpn,T.zaQ,T.zbi,rfl,_,rfl,hd,_,rfl,dg,rfl,_,rfl,?_⟩
         refine zdu we (zg7 we) ?_
         cases we with
         | true =>
          refine ⟨_,rfl,nx hlt ⟨_,rfl,rfl,?_⟩⟩
          rw [e1,List.filter_append]
          unfold zaC
          simp
         | false =>
          refine nx hlt ⟨_,rfl,rfl,?_⟩
          rw [e1,List.filter_append]; simp
       . rintro ys σ H2 ⟨v0,rfl,rfl,rfl⟩
         have e2:(zaC ((h.filter λ p=>p.1 != d).map (·.1))).length=(h.filter λ p=>p.1 != d).length:=by unfold zaC; rw [List.length_map,List.length_map]
         rw [e2,List.take_length]
         intro m hm
         refine q _ m ((Same.zas hnh).free hm) ((Same.zas hnh).upd2 hm) ?_
         rw [zab,List.filter_filter]
         unfold hind
         congr 4
         exact List.filter_congr λ p _=>by simp [Bool.and_comm]
theorem zgD (T:Txt K mg A F):FnOk P w K mg base (CX1 P w) 2 (F.f 13) (F.fd 13) ["self","deed","use"] (zmV A):=by
 have G_Desk_hindering:=zds (P:=P) (w:=w) (base:=base) T
 refine T.zmL.okN zkw (λ vs H Q E h=>?_) (λ cdv A' outer s H vs Q E hr h=>?_)
 . obtain ⟨p,hd,rw,h,r,d,w,rfl,_⟩:=h
   rfl
 . obtain ⟨p,hd,rw,h,r,d,w,rfl,D,hl,hnd,q⟩:=h
   obtain ⟨dx,hp⟩:=D.ob
   refine ⟨_,(zaf (zaw (zcR zch (zbK zbk (by rfl) T.zkS PySem.boot_len (zaa (zax (pv 0) T.zaQ T.zdM G_Desk_hindering (hr.mono (by decide)) T.zdS .nil zaD (zaa (pv 1) (zaa (pv 2) zad))) zad)) zal (zaE _)))),?_⟩
   refine ⟨_,rfl,p,dx,_,rfl,hp,rfl,_,rfl,_,rfl,p,hd,rw,h,r,d,w,rfl,D,hl,hnd,λ H' n _ m e=>⟨n,_,rfl,.inl (SqL.of e),rfl,?_⟩⟩
   have:=q H' m
   rw [<-zpj] at this
   unfold zaC
   rw [List.length_map]
   have e3:decide (V.int ((hind h d w).length:Int)=V.int 0)=decide ((hind h d w).length=0):=by
    have:=zpx (hind h d w).length 0
    rw [show ((0:Nat):Int)=0 from rfl] at this
    rw [this]; rfl
   rw [e3]; exact this
theorem zeH (T:Txt K mg A F):FnOk P w K mg base (CX1 P w) 3 (F.f 14) (F.fd 14) ["self","deed","use"] (zkl A):=by
 have G_Desk_lets:=zgD (P:=P) (w:=w) (base:=base) T
 refine T.zfp.okN zeF (λ vs H Q E h=>?_) (λ cdv A' outer s H vs Q E hr h=>?_)
 . obtain ⟨p,hd,rw,h,r,d,w,rfl,_⟩:=h
   rfl
 . obtain ⟨p,hd,rw,h,r,d,w,rfl,D,hl,hnd,q⟩:=h
   have hu:=zdW hr
   obtain ⟨dx,hp⟩:=D.ob
   obtain ⟨us,hrw,tu⟩:=D.rw
   have hul:us.length=r.length:=by rw [tu.length,List.length_map]
   refine ⟨_,(zaf (zaw (zm6 (zsP (zsS (zoP hu (pv 1) (zao (pv 0) rfl))) (ziM (zcR zch (zbK zbk (by rfl) T.zkS PySem.boot_len (zaa (zao (pv 0) rfl) zad)) zal (zaE _)))) (ziM (zax (pv 0) T.zaQ T.zhE G_Desk_lets (hr.mono (by decide)) T.zia .nil zaD (zaa (pv 1) (zaa (pv 2) zad))))))),?_⟩
   have dg:=DGet.k (k:=Sum.inl (d:Int)) D.hd
   rw [zfF] at dg
   refine ⟨_,rfl,_,rfl,p,_,dx,_,_,rfl,hp,T.zaQ,T.zbi,rfl,hd,_,rfl,dg,_,rfl,?_⟩
   have call:∀ b:Bool,b=(has h d || r.isEmpty)->(if b=true then zmV A [V.ref p,.int d,.str (useS w)] H Q EF else Q (.bl false) H):=λ b hb=>by
    cases b with
    | true =>
     refine iteT ⟨p,hd,rw,h,r,d,w,rfl,D,hl,hnd,λ H' m=>?_⟩
     have:=q H' m
     rw [<-hb] at this
     exact this
    | false =>
     refine iteF ?_
     have:=q H (Same.refl H)
     rw [<-hb] at this
     exact this
   have e0:((look h d).map λ w=>V.str (useS w)).isSome=has h d:=by
    rw [Option.isSome_map,zkY]
   rw [e0]
   cases hh:has h d with
   | true =>
    refine iteT ⟨true,rfl,?_⟩
    have t:zmV A [V.ref p,.int d,.str (useS w)] H Q EF:=by simpa using call true (by rw [hh]; rfl)
    exact iteT ⟨_,rfl,p,dx,_,rfl,hp,rfl,_,rfl,_,rfl,t⟩
   | false =>
    refine iteF ⟨_,rfl,p,_,dx,_,_,rfl,hp,T.zaQ,T.zaX,rfl,rw,_,rfl,.inl (SqL.of hrw),rfl,_,rfl,?_⟩
    have e1:decide (V.int (us.length:Int)=V.int 0)=r.isEmpty:=by
     have:=zpx us.length 0
     rw [show ((0:Nat):Int)=0 from rfl] at this
     rw [this,hul]
     cases r <;> rfl
    rw [e1]
    have:=call r.isEmpty (by rw [hh]; rfl)
    cases hr0:r.isEmpty with
    | true =>
     rw [hr0] at this
     have t:zmV A [V.ref p,.int d,.str (useS w)] H Q EF:=by simpa using this
     exact iteT ⟨_,rfl,p,dx,_,rfl,hp,rfl,_,rfl,_,rfl,t⟩
    | false =>
     rw [hr0] at this
     exact iteF (by simpa using this)
theorem zfy (T:Txt K mg A F):FnOk P w K mg base (CX1 P w) 3 (F.f 28) (F.fd 28) ["self"] (zlD A):=by
 have G_Desk_lets:=zgD (P:=P) (w:=w) (base:=base) T
 refine T.zgv.okN zfv (λ vs H Q E h=>?_) (λ cdv A' outer s H vs Q E hr h=>?_)
 . obtain ⟨p,hd,rw,h,r,rfl,_⟩:=h
   rfl
 . obtain ⟨p,hd,rw,h,r,rfl,D,hl,hnd,q⟩:=h
   obtain ⟨dx,hp⟩:=D.ob
   obtain ⟨us,hrw,tu⟩:=D.rw
   have hul:us.length=r.length:=by rw [tu.length,List.length_map]
   refine ⟨_,(zaf (zaw (zm6 (zcR zrS (zbK zbk (by rfl) T.zkS PySem.boot_len (zaa (zao (pv 0) rfl) zad)) zal (zaE _)) (ziM (zax (pv 0) T.zaQ T.zhE G_Desk_lets (hr.mono (by decide)) T.zia .nil zaD (zaa (zaY zbj (zaY zbp (zao (pv 0) rfl) zal (λ _ _=>rfl)) zal (λ _ _=>rfl)) (zaa (zaY zbj (zaY zbp (zao (pv 0) rfl) zal (λ _ _=>rfl)) zal (λ _ _=>rfl)) zad))))))),?_⟩
   refine ⟨_,rfl,p,_,dx,_,_,rfl,hp,T.zaQ,T.zaX,rfl,rw,_,rfl,.inl (SqL.of hrw),_,_,rfl,rfl,_,rfl,?_⟩
   cases r with
   | nil =>
    have:us=[]:=List.length_eq_zero_iff.mp hul
    subst this
    exact q H (Same.refl H)
   | cons x t =>
    obtain ⟨d,w⟩:=x
    obtain ⟨v,hv,pv',rfl,hpv⟩:=zd1 tu (i:=0) (y:=zco (d,w)) rfl
    have hix:atI us 0=some (V.ref pv'):=zbq (j:=0) hv
    refine zbx (by rw [hul]; simp) ?_
    refine ⟨_,rfl,p,dx,_,rfl,hp,rfl,_,rfl,p,_,dx,_,_,rfl,hp,T.zaQ,T.zaX,rfl,rw,_,_,_,rfl,rfl,SqL.of hrw,hix,pv',_,_,_,rfl,rfl,SqT.of hpv,rfl,
     _,rfl,p,_,dx,_,_,rfl,hp,T.zaQ,T.zaX,rfl,rw,_,_,_,rfl,rfl,SqL.of hrw,hix,pv',_,_,_,rfl,rfl,SqT.of hpv,rfl,p,hd,rw,h,_,d,w,rfl,D,hl,hnd,q⟩
theorem zkM (T:Txt K mg A F):FnOk P w K mg base (CX1 P w) 1 (F.f 15) (F.fd 15) ["self","deed","use"] (zsu A):=by
 refine T.zmK.okN zkv (λ vs H Q E h=>?_) (λ cdv A' outer s H vs Q E hr h=>?_)
 . obtain ⟨p,hd,rw,h,r,d,w,rfl,_⟩:=h
   rfl
 . obtain ⟨p,hd,rw,h,r,d,w,rfl,D,hl,hnd,q⟩:=h
   have hu:=zdW hr
   obtain ⟨dx,hp⟩:=D.ob
   refine ⟨_,(zaf (zbE (zaB zlR (zqm hu (zao (pv 0) rfl) (pv 1) ⟨rfl,rfl,rfl,rfl⟩) (zcF rfl T.zdw) (zaE _)) (zaf (zfc hu (zao (pv 0) rfl) (pv 1) (pv 2) rfl)) zaO)),?_⟩
   have dg:=DGet.k (k:=Sum.inl (d:Int)) D.hd
   rw [zfF] at dg
   refine ⟨_,rfl,p,_,dx,_,_,rfl,hp,T.zaQ,T.zbi,rfl,hd,rfl,.inl ⟨_,.of D.hd⟩,_,rfl,_,dg,?_⟩
   have put:take1 h d w=zbf h d w->tSeq (zsH (tFld K (tVar 0) "held") (tVar 1) (tVar 2)) zrr { nx:=λ _ H'=>Q .non H',rt:=Q } [some (V.ref p),some (V.int d),some (V.str (useS w))] H:=λ e=>by
    refine ⟨_,rfl,_,rfl,p,_,dx,_,_,rfl,hp,T.zaQ,T.zbi,rfl,_,rfl,hd,_,rfl,DPut.k (k:=Sum.inl (d:Int)) D.hd (by rw [zhR,sizeLine_eq]; omega),?_⟩
    refine q _ ?_ λ b o e hb=>by rw [zae hb]; exact e
    rw [zab,zqF,e]
   cases hk:look h d with
   | none =>
    refine ⟨rfl,_,rfl,?_⟩
    exact put (by unfold take1; rw [hk]; simp)
   | some wh =>
    refine ⟨rfl,_,rfl,?_⟩
    cases wh with
    | true =>
     refine q H ?_ λ b o e _=>e
     unfold take1; rw [hk,if_pos rfl]; exact D.hd
    | false=>exact put (by unfold take1; rw [hk]; simp)
end
section
variable {P:Program} {w:World} {K:PySem.W.Frag} {mg:Str->Option Value} {base:Heap} {A:Ad} {F:Fs}
theorem zhz (T:Txt K mg A F):FnOk P w K mg base (CX1 P w) 1 (F.f 18) (F.fd 18) ["self","deed","use"] (zp6 A):=by
 refine T.ziD.okN zhk (λ vs H Q E h=>?_) (λ cdv A' outer s H vs Q E hr h=>?_)
 . obtain ⟨p,hd,rw,h,r,d,w,rfl,_⟩:=h
   rfl
 . obtain ⟨p,hd,rw,h,r,d,w,rfl,D,hl,q⟩:=h
   have hu:=zdW hr
   obtain ⟨dx,hp⟩:=D.ob
   obtain ⟨us,hrw,tu⟩:=D.rw
   have hul:us.length=r.length:=by rw [tu.length,List.length_map]
   refine ⟨_,(zaf (zbE (zgz (zoP hu (pv 1) (zao (pv 0) rfl))) (zaf (zaJ (zee PySem.F.plainAttrs_list PySem.F.slot_list_insert PySem.F.type_list_insert zo0 (zao (pv 0) rfl) (zaa zal (zaa (zbA (zaa (pv 1) (zaa (pv 2) zad))) zad))))) (zaf (zaJ (zee PySem.F.plainAttrs_list PySem.F.slot_list_append PySem.F.type_list_append zbs (zao (pv 0) rfl) (zaa (zbA (zaa (pv 1) (zaa (pv 2) zad))) zad)))))),?_⟩
   have dg:=DGet.k (k:=Sum.inl (d:Int)) D.hd
   rw [zfF] at dg
   refine ⟨_,rfl,_,rfl,p,_,dx,_,_,rfl,hp,T.zaQ,T.zbi,rfl,hd,_,rfl,dg,_,rfl,?_⟩
   rw [Option.isSome_map,zkY]
   have z2:([V.int (d:Int),V.str (useS w)]:List V).length<=sizeLine:=by show 2<=sizeLine; rw [sizeLine_eq]; decide
   have fin:∀ (n:Addr) (us':List V),H n=none->zap (upd H n (.tup (zco (d,w)))) us' ((zqy h r d w).map zco)->Q .non (upd (upd H n (.tup (zco (d,w)))) rw (.lst us')):=λ n us' hn t=>by
    have hrn:=zav (o:=HO.tup (zco (d,w))) hrw hn
    refine q _ us' zab ?_ λ b o e hb=>?_
    . have:∀ {vs:List V} {xss:List (List V)},zap (upd H n (.tup (zco (d,w)))) vs xss->zap (upd (upd H n (.tup (zco (d,w)))) rw (.lst us')) vs xss:=λ t=>by
       induction t with
       | nil=>exact .nil
       | cons r0 _ ih =>
        obtain ⟨p0,e0,q0⟩:=r0
        exact .cons ⟨p0,e0,by rw [zae (zbh q0 hrn (λ z=>nomatch z))]; exact q0⟩ ih
      exact this t
    . rw [zae hb,zae (zah e hn)]; exact e
   have tn:∀ n,H n=none->zap (upd H n (.tup (zco (d,w)))) us (r.map zco):=λ n hn=>zbr (Same.zas hn) tu
   cases hh:has h d with
   | true =>
    refine iteT ⟨_,rfl,p,_,dx,_,_,rfl,hp,T.zaQ,T.zaX,rfl,.inl ⟨rfl,_,SqL.of hrw⟩,_,rfl,_,rfl,z2,λ n hn=>⟨rw,us,_,rfl,rfl,zav hrw hn,by rw [hul,sizeLine_eq]; omega,?_⟩⟩
    refine fin n _ hn ?_
    unfold zqy; rw [hh]
    exact .cons ⟨n,rfl,zab⟩ (tn n hn)
   | false =>
    refine iteF ⟨_,rfl,p,_,dx,_,_,rfl,hp,T.zaQ,T.zaX,rfl,.inl ⟨rfl,_,SqL.of hrw⟩,_,rfl,_,rfl,z2,λ n hn=>⟨rw,us,_,rfl,rfl,zav hrw hn,by rw [hul,sizeLine_eq]; omega,?_⟩⟩
    refine fin n _ hn ?_
    unfold zqy; rw [hh]
    simp only [Bool.false_eq_true,if_false,List.map_append]
    exact S6.zb9 (tn n hn) ⟨n,rfl,zab⟩
theorem zjy (T:Txt K mg A F):FnOk P w K mg base (CX1 P w) 1 (F.f 27) (F.fd 27) ["self","deed"] (zrz A):=by
 refine T.zlz.okN zjk (λ vs H Q E h=>?_) (λ cdv A' outer s H vs Q E hr h=>?_)
 . obtain ⟨p,hd,rw,dx,h,r,d,rfl,_⟩:=h
   rfl
 . obtain ⟨p,hd,rw,dx,h,r,d,rfl,D,hp,hl,q⟩:=h
   obtain ⟨us,hrw,tu⟩:=D.rw
   have hul:us.length=r.length:=by rw [tu.length,List.length_map]
   refine ⟨_,(zac (zaJ (zm4 (zao (pv 0) rfl) (pv 1) zfx ⟨rfl,rfl,rfl,rfl⟩))
     (zaf (zbS (pv 0) (zfe 1 [1] ["pair","deed"] rfl (by walk_at "blk") (zdg (zao (pv 0) rfl)) (λ C fp s H=>(zaL (i:=0) (show (["pair","deed"]:List Str).Nodup by decide +kernel) rfl (by walk_at "loc"))) (λ C fp s H=>zf4 (zaB zlR (zaY (zpf (K:=K) rfl) (pv 0) zal (λ _ _=>rfl)) (pv 1) (zaE _))) (λ C fp s H=>(pv 0))) rfl))),?_⟩
   have go:∀ H1:Hp,H1 hd=some (.dK (zcc (less h d)))->(∀ b o,H b=some o->b≠hd->H1 b=some o)->(∀ b,H b=none->H1 b=none)->H1 p=some (.ins A.zci dx (ziw hd rw))->H1 rw=some (.lst us)->zap H1 us (r.map zco) ->
       sFld K (tVar 0) (zrt 1 [1] (zs3 K (tFld K (tVar 0) "row")) (zps 0) (zrp (tOp rNe (tOp (rIxT K) (tVar 0) (tC (.int 0))) (tVar 1))) (tVar 0)) "row" { nx:=λ _ H'=>Q .non H',rt:=Q } [some (V.ref p),some (V.int d)] H1:=λ H1 h1 k1 k0 hp1 hr1 t1=>by
     refine ⟨_,rfl,p,_,dx,_,_,rfl,hp1,T.zaQ,T.zaX,rfl,rw,rfl,⟨_,SqL.of hr1⟩,?_⟩
     refine zfM (xs:=us) (λ i ys σ H2=>∃ v0,σ=[v0,some (V.int d)]/\H2=H1/\ys.length<=i/\zap H1 ys ((less (r.take i) d).map zco)) ⟨none,rfl,rfl,Nat.le_refl _,.nil⟩ (λ i ys σ H2 ⟨_,_,e,hy,_⟩=>⟨SqL.of (by rw [e]; exact hr1),hy⟩) (by rw [hul,sizeLine_eq]; omega) ?_ ?_
     . rintro i x ys σ H2 hlt hx ⟨v0,rfl,rfl,hy,t⟩
       obtain ⟨y,hy1,n,rfl,hn1⟩:=zcE t1 hx
       rw [List.getElem?_map] at hy1
       obtain ⟨⟨e,we⟩,he,rfl⟩:=Option.map_eq_some_iff.mp hy1
       have e1:r.take (i+1)=r.take i++[(e,we)]:=by rw [List.take_add_one,he]; rfl
       refine ⟨_,rfl,n,_,_,_,rfl,rfl,SqT.of hn1,rfl,_,rfl,rfl,_,rfl,?_⟩
       refine zdu (e != d) (zq4 e d) ?_
       by_cases hed:e=d
       . refine zaW (by simp [hed]) (nx hlt ⟨_,rfl,rfl,by omega,?_⟩)
         rw [e1]; unfold less; rw [List.filter_append]; simp [hed]; exact t
       . refine zbx (by simp [hed]) ⟨_,rfl,nx hlt ⟨_,rfl,rfl,by rw [List.length_append,List.length_singleton]; omega,?_⟩⟩
         rw [e1]; unfold less; rw [List.filter_append,List.map_append]
         have:([(e,we)]:List (Nat×Bool)).filter (λ p=>p.1 != d)=[(e,we)]:=by simp [hed]
         rw [this]
         exact S6.zb9 t ⟨n,rfl,hn1⟩
     . rintro ys σ H2 ⟨v0,rfl,rfl,hy,t⟩
       rw [hul,List.take_length] at t
       intro n hn
       have hnp:p≠n:=zah hp1 hn
       refine ⟨_,rfl,p,_,dx,_,rfl,zav hp1 hn,T.zaQ,T.zaX,Nat.le_of_ble_eq_true rfl,?_⟩
       have hHn:H n=none:=by
         cases e:H n with
         | none=>rfl
         | some o =>
          by_cases z:n=hd
          . rw [z,h1] at hn; cases hn
          . rw [k1 n o e z] at hn; cases hn
       have hhp:hd≠p:=zbh h1 hp1 (λ z=>nomatch z)
       refine q _ n ys hHn (by rw [zab]; rfl) ?_ ?_ ?_ λ b o e hb hbh=>?_
       . rw [zae hhp,zae (zah h1 hn)]; exact h1
       . rw [zae hnp.symm,zab]
       . have:∀ {vs:List V} {xss:List (List V)},zap H2 vs xss->zap (upd (upd H2 n (.lst ys)) p (.ins A.zci dx (ziw hd n))) vs xss:=λ t=>by
          induction t with
          | nil=>exact .nil
          | cons r0 _ ih =>
            obtain ⟨p0,e0,q0⟩:=r0
            exact .cons ⟨p0,e0,by rw [zae (zbh q0 hp1 (λ z=>nomatch z)),zae (zah q0 hn)]; exact q0⟩ ih
         exact this t
       . rw [zae hb,zae (zah e hHn)]; exact k1 b o e hbh
   have tup1:∀ o,zap (upd H hd (.dK o)) us (r.map zco):=λ o=>by
     have:∀ {vs:List V} {xss:List (List V)},zap H vs xss->zap (upd H hd (.dK o)) vs xss:=λ t=>by
       induction t with
       | nil=>exact .nil
       | cons r0 _ ih =>
         obtain ⟨p0,e0,q0⟩:=r0
         exact .cons ⟨p0,e0,by rw [zae (zbh q0 D.hd (λ z=>nomatch z))]; exact q0⟩ ih
     exact this tu
   refine ⟨_,rfl,p,_,dx,_,_,rfl,hp,T.zaQ,T.zbi,rfl,hd,rfl,.inl ⟨_,.of D.hd⟩,_,rfl,_,Sum.inl (d:Int),D.hd,rfl,λ v hv=>?_,λ hv=>?_⟩
   . rw [zpl]
     refine go _ zab (λ b o e hb=>by rw [zae hb]; exact e) (λ b e=>by rw [zae λ z=>by rw [z,D.hd] at e; cases e]; exact e) ?_ ?_ (tup1 _)
     . rw [zae (zbh hp D.hd (λ z=>nomatch z))]; exact hp
     . rw [zae (zbh hrw D.hd (λ z=>nomatch z))]; exact hrw
   . rw [zfF] at hv
     have hn:look h d=none:=by simpa using hv
     exact go H (by rw [less_none hn]; exact D.hd) (λ b o e _=>e) (λ b e=>e) hp hrw tu
theorem zdG (T:Txt K mg A F):FnOk P w K mg base (CX1 P w) 2 (F.f 19) (F.fd 19) ["self","deed","use"] (zkk A):=by
 have G_Desk_hindering:=zds (P:=P) (w:=w) (base:=base) T
 refine T.zd0.okN zb6 (λ vs H Q E h=>?_) (λ cdv A' outer s H vs Q E hr h=>?_)
 . obtain ⟨p,hd,rw,h,r,d,w,rfl,_⟩:=h
   rfl
 . obtain ⟨p,hd,rw,h,r,d,w,rfl,D,hl,hnd,hlr,hm,hrn,q⟩:=h
   have hu64:=hu64 hr
   obtain ⟨dx,hp⟩:=D.ob
   obtain ⟨us,hrw,tu⟩:=D.rw
   have hul:us.length=r.length:=by rw [tu.length,List.length_map]
   refine ⟨_,(zac (zaM (i:=3) zb6.nd rfl (by walk_at "loc") (zee PySem.F.plainAttrs_list PySem.F.slot_list_index PySem.F.type_list_index (zqu hu64) (zao (pv 0) rfl) (zaa (zbA (zaa (pv 1) (zaa (pv 2) zad))) zad)))
     (zac (zbE (zaB zrS (pv 3) zal (zaE _)) (zaf (zaw (zdp (zaa (zaY zbj (zaY zbp (zao (pv 0) rfl) (zcZ zq1 (pv 3) zal) (λ _ _=>rfl)) zal (λ _ _=>rfl)) zad)))) zaO)
     (zaf (zaw (zax (pv 0) T.zaQ T.zdM G_Desk_hindering (hr.mono (by decide)) T.zdS .nil zaD (zaa (pv 1) (zaa (pv 2) zad))))))),?_⟩
   obtain ⟨post,er,hall⟩:=zje hrn hm
   have z2:([V.int (d:Int),V.str (useS w)]:List V).length<=sizeLine:=by show 2<=sizeLine; rw [sizeLine_eq]; decide
   refine ⟨_,rfl,p,_,dx,_,_,rfl,hp,T.zaQ,T.zaX,rfl,.inl ⟨rfl,_,SqL.of hrw⟩,_,rfl,_,rfl,z2,λ n hn=>?_⟩
   have dv:DVs (upd H n (.tup [V.int (d:Int),V.str (useS w)])) us (r.map λ p=>.tuple [.int p.1,.str (useS p.2)]):=zm7 (zbr (Same.zas hn) tu)
   refine ⟨rw,us,_,_,_,(ahead r d).length,rfl,rfl,zav hrw hn,dv,.tup zab (.cons (.int _) (.cons (.str _) .nil)),λ e he=>?_,zoQ _ _,⟨?_,λ m hm' e he=>?_⟩,?_⟩
   . obtain ⟨x,_,rfl⟩:=List.mem_map.mp he
     exact zoQ _ _
   . have:r[(ahead r d).length]?=some (d,w):=by
      have e2:(ahead r d++(d,w)::post)[(ahead r d).length]?=some (d,w):=by rw [List.getElem?_append_right (Nat.le_refl _)]; simp
      rw [<-er] at e2; exact e2
     rw [List.getElem?_map,this]; rfl
   . rw [List.getElem?_map] at he
     obtain ⟨x,hx,rfl⟩:=Option.map_eq_some_iff.mp he
     have hx2:x∈ahead r d:=by
      have e2:(ahead r d++(d,w)::post)[m]?=(ahead r d)[m]?:=List.getElem?_append_left hm'
      rw [<-er,hx] at e2
      exact List.mem_of_getElem? e2.symm
     intro z
     injection z with z
     injection z with z1 _
     injection z1 with z1
     exact hall x hx2 (by omega)
   . have m0:Same H (upd H n (.tup [V.int (d:Int),V.str (useS w)])):=Same.zas hn
     have D1:=D.same m0
     refine ⟨_,rfl,_,_,rfl,rfl,_,rfl,?_⟩
     cases hg:(ahead r d).getLast? with
     | none =>
      have h0:ahead r d=[]:=List.getLast?_eq_none_iff.mp hg
      refine zaW (by rw [h0]; rfl) ?_
      refine ⟨_,rfl,p,dx,_,rfl,m0 _ _ hp,rfl,_,rfl,_,rfl,p,hd,rw,h,r,d,w,rfl,D1,hl,hnd,λ H' x nf m e=>q H' x (m0.free nf) (m0.trans m) ?_⟩
      unfold zjz; rw [hg]; exact e
     | some x =>
      have hne:ahead r d≠[]:=by intro z; rw [z] at hg; cases hg
      have hlen:0 < (ahead r d).length:=List.length_pos_iff.mpr hne
      have hix:r[(ahead r d).length - 1]?=some x:=by
       have e2:(ahead r d++(d,w)::post)[(ahead r d).length - 1]?=(ahead r d)[(ahead r d).length - 1]?:=List.getElem?_append_left (by omega)
       rw [<-er] at e2
       rw [e2,<-List.getLast?_eq_getElem?]; exact hg
      obtain ⟨v,hv,px,rfl,hpx⟩:=zd1 (zbr m0 tu) (i:=(ahead r d).length - 1) (y:=zco x) (by rw [List.getElem?_map,hix]; rfl)
      have hat:atI us (((ahead r d).length:Int) - 1)=some (V.ref px):=by
       have:=zbq hv
       rw [show (((ahead r d).length - 1:Nat):Int)=((ahead r d).length:Int) - 1 by omega] at this
       exact this
      refine zbx (by simpa using hlen) ?_
      refine ⟨_,rfl,p,_,dx,_,_,rfl,m0 _ _ hp,T.zaQ,T.zaX,rfl,_,rfl,_,_,rfl,rfl,rw,_,_,_,rfl,rfl,SqL.of (m0 _ _ hrw),hat,px,_,_,_,rfl,rfl,SqT.of hpx,rfl,by show 1<=sizeLine; rw [sizeLine_eq]; decide,λ m hm=>?_⟩
      refine q _ m (m0.free hm) (m0.upd2 hm) ?_
      rw [zab]; unfold zjz; rw [hg]; rfl
end
section
variable {P:Program} {w:World} {K:PySem.W.Frag} {mg:Str->Option Value} {base:Heap} {A:Ad} {F:Fs}
theorem zkL (T:Txt K mg A F):FnOk P w K mg base (CX1 P w) 1 (F.f 0) (F.fd 0) ["self"] (znF A):=by
 refine T.zmI.okN zkt (λ vs H Q E h=>?_) (λ cdv A' outer s H vs Q E hr h=>?_)
 . obtain ⟨p,dx,rfl,_⟩:=h
   rfl
 . obtain ⟨p,dx,rfl,hp,q⟩:=h
   refine ⟨_,(zac (zbS (pv 0) (zdp zad) rfl)
    (zac (zbS (pv 0) zdF rfl)
    (zac (zbS (pv 0) zdF rfl)
    (zac (zbS (pv 0) zdF rfl)
    (zac (zbS (pv 0) (zdp zad) rfl)
    (zaf (zbS (pv 0) (zdp zad) rfl))))))),?_⟩
   refine ⟨Nat.le_of_ble_eq_true rfl,λ p1 n1=>⟨_,rfl,p,_,dx,_,rfl,zav hp n1,T.zaj,T.zaz,Nat.le_of_ble_eq_true rfl,λ p2 n2=>⟨_,rfl,p,_,dx,_,rfl,zav zab n2,T.zaj,T.zbn,Nat.le_of_ble_eq_true rfl,λ p3 n3=>⟨_,rfl,p,_,dx,_,rfl,zav zab n3,T.zaj,T.zbc,Nat.le_of_ble_eq_true rfl,λ p4 n4=>⟨_,rfl,p,_,dx,_,rfl,zav zab n4,T.zaj,T.za5,Nat.le_of_ble_eq_true rfl,Nat.le_of_ble_eq_true rfl,λ p5 n5=>⟨_,rfl,p,_,dx,_,rfl,zav zab n5,T.zaj,T.zca,Nat.le_of_ble_eq_true rfl,Nat.le_of_ble_eq_true rfl,λ p6 n6=>⟨_,rfl,p,_,dx,_,rfl,zav zab n6,T.zaj,T.zb2,Nat.le_of_ble_eq_true rfl,?_⟩⟩⟩⟩⟩⟩⟩
   obtain ⟨a1,b1,c1,d1⟩:=two (o:=.lst []) (o':=.ins A.zaU dx (putF "records" (.ref p1) [])) hp n1
   generalize upd (upd H p1 (.lst [])) p (.ins A.zaU dx (putF "records" (.ref p1) []))=H1 at *
   obtain ⟨a2,b2,c2,d2⟩:=two (o:=.dK []) (o':=.ins A.zaU dx (putF "desks" (.ref p2) (putF "records" (.ref p1) []))) a1 n2
   generalize upd (upd H1 p2 (.dK [])) p (.ins A.zaU dx (putF "desks" (.ref p2) (putF "records" (.ref p1) [])))=H2 at *
   obtain ⟨a3,b3,c3,d3⟩:=two (o:=.dK []) (o':=.ins A.zaU dx (putF "standing" (.ref p3) (putF "desks" (.ref p2) (putF "records" (.ref p1) [])))) a2 n3
   generalize upd (upd H2 p3 (.dK [])) p (.ins A.zaU dx (putF "standing" (.ref p3) (putF "desks" (.ref p2) (putF "records" (.ref p1) []))))=H3 at *
   obtain ⟨a4,b4,c4,d4⟩:=two (o:=.dK []) (o':=.ins A.zaU dx (putF "kept_values" (.ref p4) (putF "standing" (.ref p3) (putF "desks" (.ref p2) (putF "records" (.ref p1) []))))) a3 n4
   generalize upd (upd H3 p4 (.dK [])) p (.ins A.zaU dx (putF "kept_values" (.ref p4) (putF "standing" (.ref p3) (putF "desks" (.ref p2) (putF "records" (.ref p1) [])))))=H4 at *
   obtain ⟨a5,b5,c5,d5⟩:=two (o:=.lst []) (o':=.ins A.zaU dx (putF "kept_deeds" (.ref p5) (putF "kept_values" (.ref p4) (putF "standing" (.ref p3) (putF "desks" (.ref p2) (putF "records" (.ref p1) [])))))) a4 n5
   generalize upd (upd H4 p5 (.lst [])) p (.ins A.zaU dx (putF "kept_deeds" (.ref p5) (putF "kept_values" (.ref p4) (putF "standing" (.ref p3) (putF "desks" (.ref p2) (putF "records" (.ref p1) []))))))=H5 at *
   obtain ⟨a6,b6,c6,d6⟩:=two (o:=.lst []) (o':=.ins A.zaU dx (putF "rows" (.ref p6) (putF "kept_deeds" (.ref p5) (putF "kept_values" (.ref p4) (putF "standing" (.ref p3) (putF "desks" (.ref p2) (putF "records" (.ref p1) []))))))) a5 n6
   generalize upd (upd H5 p6 (.lst [])) p (.ins A.zaU dx (putF "rows" (.ref p6) (putF "kept_deeds" (.ref p5) (putF "kept_values" (.ref p4) (putF "standing" (.ref p3) (putF "desks" (.ref p2) (putF "records" (.ref p1) [])))))))=H6 at *
   have q1:p1≠p:=λ z=>by rw [z,hp] at n1; cases n1
   obtain ⟨m21,k21,q2⟩:=d1 p2 n2
   obtain ⟨m32,k32,q3⟩:=d2 p3 n3
   obtain ⟨m31,k31,_⟩:=d1 p3 m32
   obtain ⟨m43,k43,q4⟩:=d3 p4 n4
   obtain ⟨m42,k42,_⟩:=d2 p4 m43
   obtain ⟨m41,k41,_⟩:=d1 p4 m42
   obtain ⟨m54,k54,q5⟩:=d4 p5 n5
   obtain ⟨m53,k53,_⟩:=d3 p5 m54
   obtain ⟨m52,k52,_⟩:=d2 p5 m53
   obtain ⟨m51,k51,_⟩:=d1 p5 m52
   obtain ⟨m65,k65,q6⟩:=d5 p6 n6
   obtain ⟨m64,k64,_⟩:=d4 p6 m65
   obtain ⟨m63,k63,_⟩:=d3 p6 m64
   obtain ⟨m62,k62,_⟩:=d2 p6 m63
   obtain ⟨m61,k61,_⟩:=d1 p6 m62
   have e1:=c6 _ _ q1 (c5 _ _ q1 (c4 _ _ q1 (c3 _ _ q1 (c2 _ _ q1 b1))))
   have e2:=c6 _ _ q2 (c5 _ _ q2 (c4 _ _ q2 (c3 _ _ q2 b2)))
   have e3:=c6 _ _ q3 (c5 _ _ q3 (c4 _ _ q3 b3))
   have e4:=c6 _ _ q4 (c5 _ _ q4 b4)
   have e5:=c6 _ _ q5 b5
   have kp:∀ b o,H b=some o->b≠p->H6 b=some o:=λ b o e hb=>c6 _ _ hb (c5 _ _ hb (c4 _ _ hb (c3 _ _ hb (c2 _ _ hb (c1 _ _ hb e)))))
   have ne:∀ b,b≠p->H b=none->(λ b=>if b=p then none else H b) b=none:=λ b hb e=>by
    show (if b=p then none else H b)=none
    rw [if_neg hb]; exact e
   obtain ⟨ρ,ad,h1,h2,h3⟩:=zai.fresh (A:=A) (H:=λ b=>if b=p then none else H b) (H':=H6) (a:=p) (dx:=dx) (p1:=p1) (p2:=p2) (p3:=p3) (p4:=p4) (p5:=p5) (p6:=p6) (if_pos rfl) (ne _ q1 n1) (ne _ q2 m21) (ne _ q3 m31) (ne _ q4 m41) (ne _ q5 m51) (ne _ q6 m61) a6 e1 e2 e3 e4 e5 b6 (Ne.symm k51) (Ne.symm k61) (Ne.symm k65) (Ne.symm k32) (Ne.symm k42) (Ne.symm k43) (λ b o e=>by
    by_cases z:b=p
    . have e:(if b=p then none else H b)=some o:=e
      rw [if_pos z] at e; cases e
    . have e:(if b=p then none else H b)=some o:=e
      rw [if_neg z] at e; exact kp b o e z)
   exact q H6 ρ ad h1 h2 λ b o e hb=>⟨kp b o e hb,h3 b o (by show (if b=p then none else H b)=some o; rw [if_neg hb]; exact e)⟩
theorem zjx (T:Txt K mg A F):FnOk P w K mg base (CX1 P w) 3 (F.f 7) (F.fd 7) ["self"] (zrD A):=by
 have G_Record_init:=zio (P:=P) (w:=w) (base:=base) T
 refine T.zly.okN zfu (λ vs H Q E h=>?_) (λ cdv A' outer s H vs Q E hr h=>?_)
 . obtain ⟨ρ,ad,s,kv,rfl,_⟩:=h
   rfl
 . obtain ⟨ρ,ad,s,kv,rfl,hh,sm,hn,q⟩:=h
   obtain ⟨dx,hp⟩:=hh.hall
   refine ⟨_,(zac (zaM (i:=1) zfu.nd rfl (by walk_at "loc") (zbK zbk (by rfl) T.zkS PySem.boot_len (zaa (zao (pv 0) rfl) zad)))
    (zac (zaJ (zee PySem.F.plainAttrs_list PySem.F.slot_list_append PySem.F.type_list_append zbs (zao (pv 0) rfl) (zaa (zjs T.zo2 G_Record_init (hr.mono (by decide)) rfl T.zqJ T.zjX .nil zaD) zad)))
    (zac (zaJ (zee PySem.F.plainAttrs_list PySem.F.slot_list_append PySem.F.type_list_append zbs (zao (pv 0) rfl) (zaa (zbA (zaa (zcF rfl T.zr4) (zaa (pv 1) zad))) zad)))
    (zaf (zaw (pv 1)))))),?_⟩
   have hl:((List.range s.n).map λ i=>V.ref (ad (.rcd i))).length=s.n:=by rw [List.length_map,List.length_range]
   refine ⟨_,rfl,_,_,dx,_,_,rfl,hp,T.zaj,T.zaz,rfl,ad .recs,_,rfl,.inl (SqL.of hh.recs),?_⟩
   rw [hl]
   refine ⟨_,rfl,_,_,dx,_,_,rfl,hp,T.zaj,T.zaz,rfl,.inl ⟨rfl,_,SqL.of hh.recs⟩,λ x dx2 nx ndx nex=>⟨x,dx2,rfl,zab,λ H1 d nd e1 e2 kp=>⟨rfl,?_⟩⟩⟩
   have s0:Same H (upd (upd H dx2 (.own x)) x (.ins A.zaA dx2 [])):=(Same.zas ndx).upd2 (by rw [zae nex.symm]; exact nx)
   have s1:Same H H1:=λ b o e=>kp b o (s0 b o e) (zah e nx)
   refine ⟨ad .recs,_,_,rfl,rfl,s1 _ _ hh.recs,by rw [hl,sizeLine_eq]; omega,?_⟩
   have hdx:x≠ad .recs:=(zah hh.recs nx).symm
   have hdd:d≠ad .recs:=(zah (s0 _ _ hh.recs) nd).symm
   obtain ⟨ρ',ad',ea,h2,f2⟩:=hh.addRec (H':=upd H1 (ad .recs) (.lst (((List.range s.n).map λ i=>V.ref (ad (.rcd i)))++[.ref x]))) T.ok (p:=x) (d:=d) (dx:=dx2) nx (by
     cases e:H d with
     | none=>rfl
     | some o=>rw [s0 d o e] at nd; cases nd) zab (by rw [zae hdx]; exact e1) (by rw [zae hdd]; exact e2) (λ b o e hb=>by rw [zae hb]; exact s1 b o e)
   obtain ⟨dx3,hp3⟩:=h2.hall
   obtain ⟨us,hus,tus⟩:=h2.rows
   have hul:us.length=s.log.length:=by rw [tus.length,List.length_map]
   rw [<-ea]
   refine ⟨_,rfl,_,_,dx3,_,_,rfl,hp3,T.zaj,T.zb2,rfl,.inl ⟨rfl,_,SqL.of hus⟩,_,rfl,by show 2<=sizeLine; rw [sizeLine_eq]; decide,λ n nn=>⟨ad' .rows,_,_,rfl,rfl,zav hus nn,by have:=sm.lg; rw [hul,sizeLine_eq]; omega,_,rfl,?_⟩⟩
   have h3:=h2.grow (H':=upd _ n (.tup [V.str "begin",V.int (s.n:Int)])) (Same.zas nn)
   obtain ⟨h4,f4⟩:=h3.znu (H':=upd (upd _ n (.tup [V.str "begin",V.int (s.n:Int)])) (ad' .rows) (.lst (us++[.ref n]))) T.ok (row:=.begin s.n) (zav hus nn) zab (λ b o e hb=>by rw [zae hb]; exact e) ⟨n,rfl,by rw [zae (zah hus nn).symm,zab]; rfl⟩
   exact q _ ρ' ad' ea h4 ((f2.trans (Frame.grow (Same.zas nn))).trans f4)
theorem zbL (T:Txt K mg A F):FnOk P w K mg base (CX1 P w) 2 (F.f 9) (F.fd 9) ["self","deed"] (znC A):=by
 have G_is_whole:=zlU (P:=P) (w:=w) (base:=base) T
 refine T.zgV.okX zfS (λ vs H Q E h=>?_) (λ cdv A' outer s H vs Q E hr h=>?_)
 . obtain ⟨ρ,ad,s,kv,i,rfl,_⟩:=h
   rfl
 . obtain ⟨ρ,ad,s,kv,i,rfl,hh,hn,q⟩:=h
   obtain ⟨dx,hp⟩:=hh.hall
   refine ⟨_,(zac (zbE (PW.pt (zrL (zsM (zm1 (zaP G_is_whole (hr.mono (by decide)) rfl T.zn3 T.znX T.zn8 .nil zaD (zaa (pv 1) zad)))) (zrL (zaB zlS (pv 1) zal (zaE _)) (zq0 (zaB ztF (pv 1) (zbK zbk (by rfl) T.zkS PySem.boot_len (zaa (zao (pv 0) rfl) zad)) (zaE _)))))) (zaf (zjo zho rfl rfl T.zqK T.zpY PySem.F.excBase_ValueError (zaa zaN zad))) zaO)
    (zaf (zaw (zaY zbp (zao (pv 0) rfl) (pv 1) (λ _ _=>rfl))))),?_⟩
   have hl:((List.range s.n).map λ i=>V.ref (ad (.rcd i))).length=s.n:=by rw [List.length_map,List.length_range]
   refine ⟨_,rfl,i,rfl,_,rfl,?_⟩
   refine ⟨_,rfl,_,_,rfl,rfl,_,rfl,?_⟩
   have bad:Out A s i H E->zos A.zh3 E (zp3 (tC (.str "there is no deed with this number")) tNil) { nx:=λ σ H'=>tRet (tOp (rIxL K) (tFld K (tVar 0) "records") (tVar 1)) { nx:=λ _ H'=>Q .non H',rt:=Q } σ H',rt:=Q } [some (.ref (ad .hall)),some (.int i)] H:=λ o=>⟨Nat.le_of_ble_eq_true rfl,o.2⟩
   have last:(if decide ((s.n:Int)<=i)=true then Out A s i H E else ∃ d:Nat,i=d/\d < s.n/\Q (.ref (ad (.rcd d))) H)->zrp (tOp (rI0 λ i j=>.bl (decide (j<=i))) (tVar 1) (tCB (λ xs H Q=>∃ p ys,xs=[.ref p]/\(SqL K H p ys\/SqT K H p ys)/\Q (.int ys.length) H) (zp3 (tFld K (tVar 0) "records") tNil))) [some (.ref (ad .hall)),some (.int i)] H λ c H1=>if c=true then zos A.zh3 E (zp3 (tC (.str "there is no deed with this number")) tNil) { nx:=λ σ H'=>tRet (tOp (rIxL K) (tFld K (tVar 0) "records") (tVar 1)) { nx:=λ _ H'=>Q .non H',rt:=Q } σ H',rt:=Q } [some (.ref (ad .hall)),some (.int i)] H1 else zrr { nx:=λ σ H'=>tRet (tOp (rIxL K) (tFld K (tVar 0) "records") (tVar 1)) { nx:=λ _ H'=>Q .non H',rt:=Q } σ H',rt:=Q } [some (.ref (ad .hall)),some (.int i)] H1:=λ o=>by
    refine ⟨_,rfl,_,rfl,_,_,dx,_,_,rfl,hp,T.zaj,T.zaz,rfl,ad .recs,_,rfl,.inl (SqL.of hh.recs),_,_,rfl,rfl,_,rfl,?_⟩
    rw [hl]
    cases hb:decide ((s.n:Int)<=i) with
    | true=>rw [hb] at o; exact iteT (bad (by simpa using o))
    | false =>
      rw [hb] at o
      obtain ⟨d,rfl,hd,z⟩:∃ d:Nat,i=d/\d < s.n/\Q (.ref (ad (.rcd d))) H:=by simpa using o
      exact iteF ⟨_,rfl,_,_,dx,_,_,rfl,hp,T.zaj,T.zaz,rfl,_,rfl,ad .recs,_,_,_,rfl,rfl,SqL.of hh.recs,zbq (hh.zfw hd),z⟩
   cases hb:decide (i < 0) with
   | true =>
    refine iteT (bad ?_)
    rcases q with ⟨d,rfl,hd,z⟩ | o
    . simp at hb; omega
    . exact o
   | false =>
    refine iteF (last ?_)
    have hi:¬ i < 0:=by simpa using hb
    rcases q with ⟨d,rfl,hd,z⟩ | o
    . exact zaW (decide_eq_false (by omega)) ⟨d,rfl,hd,z⟩
    . exact zbx (decide_eq_true (o.1.resolve_left hi)) o
end
section
variable {P:Program} {w:World} {K:PySem.W.Frag} {mg:Str->Option Value} {base:Heap} {A:Ad} {F:Fs}
theorem za3 (T:Txt K mg A F):FnOk P w K mg base (CX1 P w) 3 (F.f 10) (F.fd 10) ["self","deed"] (zp5 A):=by
 have G_Hall_record_of:=zbL (P:=P) (w:=w) (base:=base) T
 refine T.zc2.okX zcM (λ vs H Q E h=>?_) (λ cdv A' outer s H vs Q E hr h=>?_)
 . obtain ⟨ρ,ad,s,kv,i,rfl,_⟩:=h
   rfl
 . obtain ⟨ρ,ad,s,kv,i,rfl,hh,hn,q⟩:=h
   obtain ⟨dx,hp⟩:=hh.hall
   refine ⟨_,(zaf (zbE (zaB zlR (zao (zax (pv 0) T.zaj T.zbW G_Hall_record_of (hr.mono (by decide)) T.zbX .nil zbG (zaa (pv 1) zad)) rfl) (zcF rfl T.zmg) (zaE _)) (zaf (zjo zho rfl rfl T.zgk T.ziF PySem.F.excBase_ValueError (zaa zaN zad))) zaO)),?_⟩
   refine ⟨_,rfl,_,dx,_,rfl,hp,rfl,_,rfl,ρ,ad,s,kv,i,rfl,hh,hn,?_⟩
   rcases q with ⟨d,rfl,hd,q⟩ | o
   . obtain ⟨dr,wv,hr1,_⟩:=hh.rcd hd
     refine .inl ⟨d,rfl,hd,_,_,dr,_,_,rfl,hr1,T.zau,T.zay,rfl,rfl,_,rfl,?_⟩
     rcases q with ⟨hs,q⟩ | ⟨hs,q⟩
     . refine zaW ?_ q
       rw [hs]; rfl
     . refine zbx ?_ ⟨Nat.le_of_ble_eq_true rfl,q⟩
       cases hst:(s.deed d).st with
       | zan=>exact absurd hst hs
       | waiting=>rfl
       | kept=>rfl
       | dropped=>rfl
   . exact .inr o
end
section
variable {P:Program} {w:World} {K:PySem.W.Frag} {mg:Str->Option Value} {base:Heap} {A:Ad} {F:Fs}
theorem zdr (T:Txt K mg A F):FnOk P w K mg base (CX1 P w) 2 (F.f 17) (F.fd 17) ["self","deed","want"] (zrB A):=by
 have G_Desk_take:=zkM (P:=P) (w:=w) (base:=base) T
 have G_value_under:=zil (P:=P) (w:=w) (base:=base) T
 refine T.zgY.okN zcm (λ vs H Q E h=>?_) (λ cdv A' outer s H vs Q E hr h=>?_)
 . obtain ⟨ρ,ad,s,kv,d,wv,a,rfl,_⟩:=h
   rfl
 . obtain ⟨ρ,ad,s,kv,d,wv,a,rfl,hh,sm,hd,hk,⟨pw,dw,rfl,hw⟩,q⟩:=h
   have hu:=zdW hr
   obtain ⟨dx,hp⟩:=hh.hall
   have D:=hh.desk hk
   obtain ⟨dd,hdk⟩:=D.ob
   refine ⟨_,(zac (zaJ (zax (zcQ hu (zao (pv 0) rfl) (zao (pv 2) rfl) (λ _ _=>rfl)) T.zaQ T.zl6 G_Desk_take (hr.mono (by decide)) T.zms .nil zaD (zaa (pv 1) (zaa (zao (pv 2) rfl) zad))))
    (zac (zaM (i:=3) zcm.nd rfl (by walk_at "loc") (zaY zbp (zao (pv 0) rfl) (pv 1) (λ _ _=>rfl)))
    (zac (zbS (pv 3) (zcF rfl T.zmg) rfl)
    (zac (zbS (pv 3) zfx rfl)
    (zac (zaM (i:=4) zcm.nd rfl (by walk_at "loc") (zaP G_value_under (hr.mono (by decide)) rfl T.zjO T.zjK T.zjV .nil zaD (zaa (zao (pv 0) rfl) (zaa (zao (pv 2) rfl) zad))))
    (zaf (zbE (zaB zch (zao (pv 2) rfl) (zcF rfl T.zdw) (zaE _)) (zac (zaJ (zee PySem.F.plainAttrs_list PySem.F.slot_list_append PySem.F.type_list_append zbs (zao (pv 0) rfl) (zaa (zbA (zaa (zcF rfl T.zmf) (zaa (pv 1) (zaa (zao (pv 2) rfl) (zaa (pv 4) (zaa (zao (pv 2) rfl) zad)))))) zad)))
    (zac (zfc hu (zao (pv 0) rfl) (zao (pv 2) rfl) (zao (pv 2) rfl) rfl)
    (zaf (zaJ (zee PySem.F.plainAttrs_list PySem.F.slot_list_append PySem.F.type_list_append zbs (zao (pv 3) rfl) (zaa (zbA (zaa (zcF rfl T.zmf) (zaa (zao (pv 2) rfl) (zaa (zao (pv 2) rfl) zad)))) zad)))))) (zaf (zaJ (zee PySem.F.plainAttrs_list PySem.F.slot_list_append PySem.F.type_list_append zbs (zao (pv 3) rfl) (zaa (zbA (zaa (zcF rfl T.zs4) (zaa (zao (pv 2) rfl) (zaa (pv 4) zad)))) zad))))))))))),?_⟩
   refine ⟨_,rfl,_,_,dx,_,_,rfl,hp,T.zaj,T.zbn,rfl,_,rfl,pw,_,dw,_,_,rfl,hw,T.zaZ,T.za4,rfl,_,_,rfl,hh.zfL hk,_,dd,_,rfl,hdk,rfl,_,rfl,_,rfl,pw,_,dw,_,_,rfl,hw,T.zaZ,T.zbm,rfl,_,_,_,_,_,d,a.wr,rfl,D,sm.hl _,sm.hn _,λ H1 e1 kp1=>?_⟩
   obtain ⟨h1,f1⟩:=hh.zrI T.ok hk e1 kp1
   have hw1:H1 pw=_:=(Imm.zfl T.ok hh (r:=.held a.key) hk kp1).want _ _ _ hw
   obtain ⟨dx1,hp1⟩:=h1.hall
   obtain ⟨dr,w0,hr1,_⟩:=h1.rcd hd
   refine ⟨_,rfl,_,_,dx1,_,_,rfl,hp1,T.zaj,T.zaz,rfl,_,rfl,_,_,_,_,rfl,rfl,SqL.of h1.recs,zbq (h1.zfw hd),?_⟩
   refine ⟨_,rfl,_,_,dr,_,rfl,hr1,T.zau,T.zay,Nat.le_of_ble_eq_true rfl,_,rfl,_,_,dr,_,rfl,zab,T.zau,T.za0,Nat.le_of_ble_eq_true rfl,?_⟩
   rw [zja]
   have kp3:zcw H1 (ad (.rcd d)) (upd H1 (ad (.rcd d)) (.ins A.zaA dr (recF .zan (ad (.did d)) .non))):=λ b o e hb=>by rw [zae hb]; exact e
   obtain ⟨h3,f3⟩:=h1.zoC (H':=upd H1 (ad (.rcd d)) (.ins A.zaA dr (recF .zan (ad (.did d)) .non))) T.ok hd (D:={ s.deed d with st:=.zan }) (w:=.non) zab kp3 rfl rfl
   have hw3:=(Imm.zfl T.ok h1 (r:=.rcd d) hd kp3).want _ _ _ hw1
   show tSeq _ _ _ _ (upd H1 (ad (.rcd d)) (.ins A.zaA dr (recF .zan (ad (.did d)) .non)))
   generalize upd H1 (ad (.rcd d)) (.ins A.zaA dr (recF .zan (ad (.did d)) .non))=H3 at *
   obtain ⟨dx3,hp3⟩:=h3.hall
   obtain ⟨l,hl,hb⟩:=h3.zcl
   have hb:za6 l s.book:=hb
   refine ⟨_,rfl,_,_,dx3,_,_,rfl,hp3,T.zaj,T.zbc,rfl,_,rfl,pw,_,dw,_,_,rfl,hw3,T.zaZ,T.za4,rfl,_,a.key,l,_,rfl,hl,hb,?_⟩
   refine ⟨_,rfl,pw,_,dw,_,_,rfl,hw3,T.zaZ,T.zbm,rfl,rfl,_,rfl,?_⟩
   refine zdu a.wr (zg7 a.wr) ?_
   have hr3:∃ dr w,H3 (ad (.rcd d))=some (.ins A.zaA dr (recF .zan (ad (.did d)) w)):=by
    obtain ⟨dr,w,e,_⟩:=h3.rcd hd
    have e:H3 (ad (.rcd d))=some (.ins A.zaA dr (recF (up s.deed d { s.deed d with st:=.zan } d).st (ad (.did d)) w)):=e
    rw [zag] at e
    exact ⟨dr,w,e⟩
   have fin:∀ (t:HS Str) (H4:Hp) (b:Act Str),zai A ρ ad t kv H4->Frame ρ H ρ H4->t.n=s.n->(t.deed d).done.length<=2000->∀ us,H4 (ad (.did d))=some (.lst us)->∀ n,H4 n=none ->
     ∃ l xs y,V.ref (ad (.did d))=.ref l/\[V.ref n]=[y]/\upd H4 n (.tup (actV b)) l=some (.lst xs)/\xs.length < sizeLine/\(zai A ρ ad { t with deed:=up t.deed d { t.deed d with done:=(t.deed d).done++[b] } } kv (upd (upd H4 n (.tup (actV b))) l (.lst (xs++[y])))/\Frame ρ H ρ (upd (upd H4 n (.tup (actV b))) l (.lst (xs++[y])))):=λ t H4 b h4 f4 hn hl us hus n nn=>by
    have hdt:d < t.n:=by rw [hn]; exact hd
    have h5:=h4.grow (H':=upd H4 n (.tup (actV b))) (Same.zas nn)
    obtain ⟨us',e',tu⟩:=h4.did hdt
    rw [hus] at e'; cases e'
    have hlen:us.length=(t.deed d).done.length:=by rw [tu.length,List.length_map]
    obtain ⟨h6,f6⟩:=h5.ztj (H':=upd (upd H4 n (.tup (actV b))) (ad (.did d)) (.lst (us++[.ref n]))) T.ok hdt (a:=b) (zav hus nn) zab (λ x o e hx=>by rw [zae hx]; exact e) ⟨n,rfl,by rw [zae (zah hus nn).symm,zab]⟩
    exact ⟨ad (.did d),us,.ref n,rfl,rfl,zav hus nn,by rw [hlen,sizeLine_eq]; omega,h6,(f4.trans (Frame.grow (Same.zas nn))).trans f6⟩
   have f03:Frame ρ H ρ H3:=f1.trans f3
   have dn3:(up s.deed d { s.deed d with st:=DS.zan } d).done.length<=2000:=by rw [zag]; exact sm.dn d
   cases hwr:a.wr with
   | true =>
    obtain ⟨us,hus,tus⟩:=h3.rows
    have hul:us.length=s.log.length:=by rw [tus.length,List.length_map]
    have hwv:List.lookup ("value" : Str) (zrl a)=some (.int a.val):=by
     show some (if a.wr then V.int a.val else .non)=_
     rw [hwr]; rfl
    refine ⟨_,rfl,_,_,dx3,_,_,rfl,hp3,T.zaj,T.zb2,rfl,.inl ⟨rfl,_,SqL.of hus⟩,_,rfl,_,rfl,pw,_,dw,_,_,rfl,hw3,T.zaZ,T.za4,rfl,_,rfl,_,rfl,pw,_,dw,_,_,rfl,hw3,T.zaZ,T.zcG,hwv,by show 5<=sizeLine; rw [sizeLine_eq]; decide,λ n nn=>⟨_,_,_,rfl,rfl,zav hus nn,by have:=sm.lg; rw [hul,sizeLine_eq]; omega,?_⟩⟩
    have g4:=h3.grow (H':=upd H3 n (.tup [V.str "write",.int (d:Int),.str a.key,.int ((s.book a.key).getD 0),.int a.val])) (Same.zas nn)
    have kp4:zcw (upd H3 n (.tup [V.str "write",.int (d:Int),.str a.key,.int ((s.book a.key).getD 0),.int a.val])) (ad .rows) (upd (upd H3 n (.tup [V.str "write",.int (d:Int),.str a.key,.int ((s.book a.key).getD 0),.int a.val])) (ad .rows) (.lst (us++[.ref n]))):=λ b o e hb=>by rw [zae hb]; exact e
    obtain ⟨h4,f4⟩:=g4.znu T.ok (row:=.write d a.key ((s.book a.key).getD 0) a.val) (zav hus nn) zab kp4 ⟨n,rfl,by rw [zae (zah hus nn).symm,zab]; rfl⟩
    have hw4:=(Imm.zfl T.ok g4 (r:=.rows) trivial kp4).want _ _ _ (Same.zas nn _ _ hw3)
    have f04:=(f03.trans (Frame.grow (Same.zas nn))).trans f4
    have hl4:=kp4 _ _ (Same.zas (o:=.tup [V.str "write",.int (d:Int),.str a.key,.int ((s.book a.key).getD 0),.int a.val]) nn _ _ hl) (g4.ne (r:=.zcl) (r':=.rows) trivial trivial (by intro z; cases z))
    generalize upd (upd H3 n (.tup [V.str "write",.int (d:Int),.str a.key,.int ((s.book a.key).getD 0),.int a.val])) (ad .rows) (.lst (us++[.ref n]))=H4 at *
    obtain ⟨dx4,hp4⟩:=h4.hall
    have hll:l.length<=4:=Nat.le_trans (hb.len sm.snd sm.bs) sm.seen
    refine ⟨_,rfl,pw,_,dw,_,_,rfl,hw4,T.zaZ,T.zcG,hwv,_,rfl,_,_,dx4,_,_,rfl,hp4,T.zaj,T.zbc,rfl,_,rfl,pw,_,dw,_,_,rfl,hw4,T.zaZ,T.za4,rfl,_,_,rfl,DPut.k (k:=Sum.inr a.key) hl4 (by rw [zh6,sizeLine_eq]; omega),?_⟩
    rw [zjU]
    have kp5:zcw H4 (ad .zcl) (upd H4 (ad .zcl) (.dK (bkV (bput l a.key a.val)))):=λ b o e hb=>by rw [zae hb]; exact e
    obtain ⟨h5,f5⟩:=h4.zmW T.ok zab kp5 (hb.put a.key a.val)
    have hw5:=(Imm.zfl T.ok h4 (r:=.zcl) trivial kp5).want _ _ _ hw4
    generalize upd H4 (ad .zcl) (.dK (bkV (bput l a.key a.val)))=H5 at *
    obtain ⟨dr5,w5,hr5,_⟩:=h5.rcd hd
    obtain ⟨us5,hus5,_⟩:=h5.did hd
    refine ⟨_,rfl,_,_,dr5,_,_,rfl,hr5,T.zau,T.zbd,rfl,.inl ⟨rfl,_,SqL.of hus5⟩,_,rfl,pw,_,dw,_,_,rfl,hw5,T.zaZ,T.za4,rfl,_,rfl,pw,_,dw,_,_,rfl,hw5,T.zaZ,T.zcG,hwv,by show 3<=sizeLine; rw [sizeLine_eq]; decide,λ n5 nn5=>?_⟩
    obtain ⟨l6,xs6,y6,g1,g2,g3,g4',g5,g6⟩:=fin _ H5 a h5 (f04.trans f5) rfl dn3 us5 hus5 n5 nn5
    have ea:actV a=[V.str "write",.str a.key,.int a.val]:=by unfold actV; rw [hwr]; rfl
    rw [ea] at g3 g5 g6
    refine ⟨l6,xs6,y6,g1,g2,g3,g4',q _ ?_ g6⟩
    rw [zs9 _ _ _ hwr]
    exact g5
   | false =>
    obtain ⟨dr5,w5,hr5⟩:=hr3
    obtain ⟨us5,hus5,_⟩:=h3.did hd
    refine ⟨_,rfl,_,_,dr5,_,_,rfl,hr5,T.zau,T.zbd,rfl,.inl ⟨rfl,_,SqL.of hus5⟩,_,rfl,pw,_,dw,_,_,rfl,hw3,T.zaZ,T.za4,rfl,_,rfl,by show 3<=sizeLine; rw [sizeLine_eq]; decide,λ n5 nn5=>?_⟩
    obtain ⟨l6,xs6,y6,g1,g2,g3,g4',g5,g6⟩:=fin _ H3 ⟨false,a.key,(s.book a.key).getD 0⟩ h3 f03 rfl dn3 us5 hus5 n5 nn5
    refine ⟨l6,xs6,y6,g1,g2,g3,g4',q _ ?_ g6⟩
    rw [zta _ _ _ hwr]
    exact g5
end
section
variable {P:Program} {w:World} {K:PySem.W.Frag} {mg:Str->Option Value} {base:Heap} {A:Ad} {F:Fs}
theorem zf6 (T:Txt K mg A F):FnOk P w K mg base (CX1 P w) 3 (F.f 20) (F.fd 20) ["self","deed"] (znD A):=by
 have G_Desk_next_waited_for:=zdG (P:=P) (w:=w) (base:=base) T
 refine T.zgW.okN zdl (λ vs H Q E h=>?_) (λ cdv A' outer s H vs Q E hr h=>?_)
 . obtain ⟨ρ,ad,s,kv,d,rfl,_⟩:=h
   rfl
 . obtain ⟨ρ,ad,s,kv,d,rfl,hh,c,sm,hd,q⟩:=h
   have hu:=zdW hr
   obtain ⟨dx,hp⟩:=hh.hall
   obtain ⟨dr,wv,hr1,hw⟩:=hh.rcd hd
   refine ⟨_,(zac (zaM (i:=2) zdl.nd rfl (by walk_at "loc") (zao (zaY zbp (zao (pv 0) rfl) (pv 1) (λ _ _=>rfl)) rfl))
     (zac (zbE (zgz (zsT (pv 2))) (zaf (zaw (zdp zad))) zaO)
     (zaf (zaw (zax (zcQ hu (zao (pv 0) rfl) (zao (pv 2) rfl) (λ _ _=>rfl)) T.zaQ T.zdV G_Desk_next_waited_for (hr.mono (by decide)) T.zdZ .nil zaD (zaa (pv 1) (zaa (zao (pv 2) rfl) zad))))))),?_⟩
   refine ⟨_,rfl,_,_,dx,_,_,rfl,hp,T.zaj,T.zaz,rfl,_,rfl,_,_,_,_,rfl,rfl,SqL.of hh.recs,zbq (hh.zfw hd),_,_,dr,_,_,rfl,hr1,T.zau,T.za0,rfl,?_⟩
   refine ⟨_,rfl,_,rfl,?_⟩
   by_cases hst:(s.deed d).st=.waiting
   . obtain ⟨a,ha,hrow⟩:=c.wRow d (by simp) hst
     have hw0:wantOf (s.deed d)=some a:=by unfold wantOf; rw [if_pos hst,ha]
     rw [hw0] at hw
     obtain ⟨pw,dw,rfl,hpw⟩:=hw
     have hk:a.key∈s.seen:=zcH c hrow
     have D:=hh.desk hk
     obtain ⟨dd,hdk⟩:=D.ob
     refine zaW rfl ?_
     refine ⟨_,rfl,_,_,dx,_,_,rfl,hp,T.zaj,T.zbn,rfl,_,rfl,pw,_,dw,_,_,rfl,hpw,T.zaZ,T.za4,rfl,_,_,rfl,hh.zfL hk,_,dd,_,rfl,hdk,rfl,_,rfl,_,rfl,pw,_,dw,_,_,rfl,hpw,T.zaZ,T.zbm,rfl,_,_,_,_,_,d,a.wr,rfl,D,sm.hl _,sm.hn _,sm.rl _,hrow,c.rNd _,λ H' n nf m e=>q H' n nf m ?_⟩
     rw [zkP hst ha]; exact e
   . have hw0:wantOf (s.deed d)=none:=by unfold wantOf; rw [if_neg hst]
     rw [hw0] at hw
     have hw:wv=.non:=hw
     subst hw
     refine zbx rfl ⟨Nat.le_of_ble_eq_true rfl,λ n hn=>q _ n hn (Same.zas hn) ?_⟩
     rw [zab,zoW hst]; rfl
theorem zhx (T:Txt K mg A F):FnOk P w K mg base (CX1 P w) 4 (F.f 21) (F.fd 21) ["self","deed"] (zp9 A):=by
 have G_Hall_next_from:=zf6 (P:=P) (w:=w) (base:=base) T
 refine T.ziC.okN zbB (λ vs H Q E h=>?_) (λ cdv A' outer s H vs Q E hr h=>?_)
 . obtain ⟨ρ,ad,s,kv,d,rfl,_⟩:=h
   rfl
 . obtain ⟨ρ,ad,s,kv,d,rfl,hh,c,sm,hd,q⟩:=h
   have hu:=zdW hr
   refine ⟨_,(zac (zaM (i:=2) zbB.nd rfl (by walk_at "loc") zdF)
     (zac (zaM (i:=3) zbB.nd rfl (by walk_at "loc") (zdp (zaa (pv 1) zad)))
     (zac (zg2 PassesOwn.never (zaB zrS (zbK zbk (by rfl) T.zkS PySem.boot_len (zaa (pv 3) zad)) zal (zaE _)) (zac (zaM (i:=4) zbB.nd rfl (by walk_at "loc") (zoN PySem.F.plainAttrs_list PySem.F.slot_list_pop PySem.F.type_list_pop zq5 (pv 3)))
     (zaf (zdn PassesOwn.never rfl (zdg (zax (pv 0) T.zaj T.zgN G_Hall_next_from (hr.mono (by decide)) T.zgS .nil zaD (zaa (pv 4) zad))) (zaL (i:=5) zbB.nd rfl (by walk_at "loc")) (zaf (zbE (zgz (zhs hu (pv 5) (pv 2))) (zac (zfc hu (pv 2) (pv 5) zqn rfl)
     (zaf (zaJ (zee PySem.F.plainAttrs_list PySem.F.slot_list_append PySem.F.type_list_append zbs (pv 3) (zaa (pv 5) zad))))) zaO))))))
     (zaf (zaw (pv 2)))))),?_⟩
   intro pf nf
   refine ⟨_,rfl,Nat.le_of_ble_eq_true rfl,λ pl nl=>?_⟩
   have hfl:pf≠pl:=zah zab nl
   let Inv0:List Nat->List Nat->Hp->Prop:=λ fd lf H1=>Same H H1/\H1 pf=some (.dK (zck fd))/\H1 pl=some (.lst (zaC lf))/\fd.Nodup/\(∀ x∈fd,zc9 s d x)/\(∀ x∈lf,x=d\/x∈fd)/\lf.length<=fd.length+1
   have fdlt:∀ fd:List Nat,(∀ x∈fd,zc9 s d x)->∀ x∈fd,x < s.n:=λ fd h x hx=>by
     obtain ⟨z,hz,_⟩:=(h x hx).last
     exact zq2 c hz
   have fdlen:∀ fd:List Nat,fd.Nodup->(∀ x∈fd,zc9 s d x)->fd.length<=s.n:=λ fd nd h=>zfz _ _ nd (fdlt fd h)
   refine ⟨λ m σ H1=>∃ fd lf v4 v5,σ=[some (.ref (ad .hall)),some (.int d),some (.ref pf),some (.ref pl),v4,v5]/\Inv0 fd lf H1/\(∀ x,x=d\/x∈fd->x∈lf\/∀ y∈nxt s x,y∈fd)/\m=2 * (s.n - fd.length)+lf.length,⟨_,[],[d],none,none,rfl,⟨(Same.zas nf).upd2 nl,?_,zab,List.nodup_nil,λ x hx=>(by cases hx),λ x hx=>.inl (List.mem_singleton.mp hx),by simp⟩,λ x hx=>.inl (by rcases hx with z | z; exact List.mem_singleton.mpr z; cases z),rfl⟩,?_⟩
   . rw [zae hfl,zab]; rfl
   rintro m σ H1 ⟨fd,lf,v4,v5,rfl,⟨s1,hf,hl,nd,hre,hlf,hll⟩,hcl,rfl⟩
   refine ⟨_,rfl,pl,_,rfl,.inl (SqL.of hl),_,_,rfl,rfl,_,rfl,?_⟩
   rcases List.eq_nil_or_concat lf with hlf0 | ⟨init,x,hix⟩
   . subst hlf0
     refine zaW rfl ?_
     refine ⟨_,rfl,q H1 pf fd s1 hf nd λ x=>⟨hre x,λ hx=>?_⟩⟩
     have step:∀ z,(z=d\/z∈fd)->∀ y∈nxt s z,y∈fd:=λ z hz=>(hcl z hz).resolve_left (λ k=>nomatch k)
     have:∀ a b,Path (λ a b=>b∈nxt s a) a b->(a=d\/a∈fd)->b∈fd:=λ a b p=>by
       induction p with
       | one h=>exact λ ha=>step _ ha _ h
       | step h _ ih=>exact λ ha=>ih (.inr (step _ ha _ h))
     exact this d x hx (.inl rfl)
   . have hix:lf=init++[x]:=by rw [hix]; simp
     subst hix
     have hx:=hlf x (by simp)
     have hxn:x < s.n:=hx.elim (λ z=>z ▸ hd) λ z=>fdlt fd hre x z
     refine zbx ?_ ?_
     . unfold zaC; simp
     refine ⟨λ σ' H'=>∃ fd' lf' v4 v5,σ'=[some (.ref (ad .hall)),some (.int d),some (.ref pf),some (.ref pl),v4,v5]/\Inv0 fd' lf' H'/\(∀ x,x=d\/x∈fd'->x∈lf'\/∀ y∈nxt s x,y∈fd')/\2 * (s.n - fd'.length)+lf'.length < 2 * (s.n - fd.length)+(init++[x]).length,λ σ' H' ⟨fd',lf',v4,v5,e,i,cl,lt⟩=>⟨_,lt,fd',lf',v4,v5,e,i,cl,rfl⟩,?_⟩
     have il:zaC (init++[x])=zaC init++[V.int (x:Int)]:=by unfold zaC; rw [List.map_append]; rfl
     have hlast:(zaC (init++[x]))[(zaC (init++[x])).length - 1]?=some (V.int (x:Int)):=by
       rw [il]; simp
     refine ⟨_,rfl,.inl ⟨rfl,_,SqL.of hl⟩,pl,_,_,rfl,rfl,hl,hlast,?_⟩
     have hdrop:(zaC (init++[x])).dropLast=zaC init:=by rw [il,List.dropLast_concat]
     rw [hdrop]
     have fpl:∀ b o,H b=some o->b≠pl:=λ b o e=>zah (Same.zas nf b o e) nl
     have s2:Same H (upd H1 pl (.lst (zaC init))):=λ b o e=>by rw [zae (fpl b o e)]; exact s1 b o e
     have hf2:upd H1 pl (.lst (zaC init)) pf=some (.dK (zck fd)):=by rw [zae hfl]; exact hf
     obtain ⟨dx,hp⟩:=hh.hall
     refine ⟨_,rfl,_,dx,_,rfl,s2 _ _ hp,rfl,_,rfl,ρ,ad,s,kv,x,rfl,hh.grow s2,c,sm,hxn,λ H3 pn nf3 m3 hn=>⟨pn,rfl,⟨_,SqL.of hn⟩,?_⟩⟩
     have s3:Same H H3:=s2.trans m3
     have hf3:=m3 _ _ hf2
     have hl3:=m3 _ _ (zab (H:=H1) (a:=pl) (o:=.lst (zaC init)))
     have hnf:pn≠pf:=λ z=>by rw [z,hf2] at nf3; cases nf3
     have hnpl:pn≠pl:=λ z=>by rw [z,zab] at nf3; cases nf3
     have hxr:∀ y∈nxt s x,zc9 s d y:=λ y hy=>hx.elim (λ z=>z ▸ .one hy) λ z=>(hre x z).trans (.one hy)
     have Hpn:∀ b o,H b=some o->b≠pn:=λ b o e=>zah (s2 b o e) nf3
     have Hpf:∀ b o,H b=some o->b≠pf:=λ b o e=>zah e nf
     refine zeC (xs:=zaC (nxt s x)) (λ i σ' H'=>∃ new v5,σ'=[some (.ref (ad .hall)),some (.int d),some (.ref pf),some (.ref pl),some (V.int x),v5]/\Same H H'/\H' pn=some (.lst (zaC (nxt s x)))/\H' pf=some (.dK (zck (fd++new)))/\H' pl=some (.lst (zaC (init++new)))/\(fd++new).Nodup/\(∀ y∈new,y∈nxt s x)/\(∀ y∈(nxt s x).take i,y∈fd++new)) ⟨[],_,rfl,s3,hn,by rw [List.append_nil]; exact hf3,by rw [List.append_nil]; exact hl3,by rw [List.append_nil]; exact nd,(λ y hy=>by cases hy),(λ y hy=>by simp at hy)⟩ (λ i σ' H' _ ⟨_,_,_,_,e,_⟩=>SqL.of e) ?_ ?_
     . rintro i y σ' H' hy ⟨new,v5,rfl,s4,e1,e2,e3,e4,e5,e6⟩
       unfold zaC at hy
       rw [List.getElem?_map] at hy
       obtain ⟨y,hyy,rfl⟩:=Option.map_eq_some_iff.mp hy
       replace hy:=hyy
       have hy1:=List.mem_of_getElem? hy
       have et:(nxt s x).take (i+1)=(nxt s x).take i++[y]:=by rw [List.take_add_one,hy]; rfl
       have dg:=DGet.k (k:=Sum.inl (y:Int)) e2
       have ln:(fd++new).length<=s.n:=fdlen _ e4 λ z hz=>(List.mem_append.mp hz).elim (hre z) λ h=>hxr z (e5 z h)
       refine ⟨_,rfl,_,rfl,_,_,rfl,dg,_,rfl,?_⟩
       refine zdu (!decide (y∈fd++new)) (by rw [zfI]) ?_
       by_cases hm:y∈fd++new
       . refine zaW (by simp [hm]) ⟨new,_,rfl,s4,e1,e2,e3,e4,e5,?_⟩
         intro z hz
         rw [et] at hz
         rcases List.mem_append.mp hz with hz | hz
         . exact e6 z hz
         . rw [List.mem_singleton.mp hz]; exact hm
       . refine zbx (by simp [hm]) ?_
         refine ⟨_,rfl,_,rfl,_,_,rfl,DPut.k (k:=Sum.inl (y:Int)) e2 (by have:=sm.n; unfold zck; rw [List.length_map,sizeLine_eq]; omega),?_⟩
         rw [zpt hm]
         have e3':upd H' pf (.dK (zck (fd++new++[y]))) pl=some (.lst (zaC (init++new))):=by rw [zae hfl.symm]; exact e3
         refine ⟨_,rfl,.inl ⟨rfl,_,SqL.of e3'⟩,_,rfl,_,_,_,rfl,rfl,e3',?_,?_⟩
         . have:=sm.n
           unfold zaC; rw [List.length_map,sizeLine_eq]
           simp only [List.length_append,List.length_cons,List.length_nil] at hll ln ⊢
           omega
         . refine ⟨new++[y],_,rfl,?_,?_,?_,?_,?_,?_,?_⟩
           . intro b o e
             rw [zae (fpl b o e),zae (Hpf b o e)]; exact s4 b o e
           . rw [zae hnpl,zae hnf]; exact e1
           . rw [zae hfl,zab,List.append_assoc]
           . rw [zab]; unfold zaC; simp
           . rw [<-List.append_assoc]
             exact List.nodup_append.mpr ⟨e4,by simp,λ a ha b hb=>by rw [List.mem_singleton.mp hb]; exact λ z=>hm (z ▸ ha)⟩
           . intro z hz
             rcases List.mem_append.mp hz with hz | hz
             . exact e5 z hz
             . rw [List.mem_singleton.mp hz]; exact hy1
           . intro z hz
             rw [<-List.append_assoc]
             rw [et] at hz
             rcases List.mem_append.mp hz with hz | hz
             . exact List.mem_append_left _ (e6 z hz)
             . exact List.mem_append_right _ hz
     . rintro σ' H' ⟨new,v5,rfl,s4,e1,e2,e3,e4,e5,e6⟩
       have e6:∀ y∈nxt s x,y∈fd++new:=by
         have:(zaC (nxt s x)).length=(nxt s x).length:=by unfold zaC; rw [List.length_map]
         rw [this,List.take_length] at e6; exact e6
       have re2:∀ z∈fd++new,zc9 s d z:=λ z hz=>(List.mem_append.mp hz).elim (hre z) λ h=>hxr z (e5 z h)
       have ln:(fd++new).length<=s.n:=fdlen _ e4 re2
       refine ⟨fd++new,init++new,_,_,rfl,⟨s4,e2,e3,e4,re2,λ z hz=>?_,?_⟩,λ z hz=>?_,?_⟩
       . rcases List.mem_append.mp hz with hz | hz
         . exact (hlf z (List.mem_append_left _ hz)).imp_right λ h=>List.mem_append_left _ h
         . exact .inr (List.mem_append_right _ hz)
       . simp only [List.length_append,List.length_cons,List.length_nil] at hll ⊢
         omega
       . have key:(z=d\/z∈fd)->z∈init++new\/∀ y∈nxt s z,y∈fd++new:=λ hz=>by
           rcases hcl z hz with h | h
           . rcases List.mem_append.mp h with h | h
             . exact .inl (List.mem_append_left _ h)
             . rw [List.mem_singleton.mp h]; exact .inr e6
           . exact .inr λ y hy=>List.mem_append_left _ (h y hy)
         rcases hz with hz | hz
         . exact key (.inl hz)
         . rcases List.mem_append.mp hz with hz | hz
           . exact key (.inr hz)
           . exact .inl (List.mem_append_right _ hz)
       . simp only [List.length_append,List.length_cons,List.length_nil] at ln ⊢
         omega
end
theorem zoX {α β:Type} {f:α->β} (h:∀ a b,f a=f b->a=b) {l:List α} (nd:l.Nodup):(l.map f).Nodup:=by
 induction l with
 | nil=>simp
 | cons a r ih =>
  obtain ⟨n1,n2⟩:=List.nodup_cons.mp nd
  rw [List.map_cons]
  refine List.nodup_cons.mpr ⟨λ z=>?_,ih n2⟩
  obtain ⟨b,hb,e⟩:=List.mem_map.mp z
  exact n1 (h _ _ e ▸ hb)
theorem zlF {l:List Nat} {ys:List Key} (pm:ys.Perm (l.map λ (n:Nat)=>Sum.inl (n:Int))) (so:ys.Pairwise λ a b=>kLt a b=true) :
   ∃ L:List Nat,ys=L.map (λ (n:Nat)=>Sum.inl (n:Int))/\(∀ x,x∈L↔x∈l)/\L.Pairwise (· < ·):=by
 obtain ⟨L,rfl⟩:∃ L:List Nat,ys=L.map (λ (n:Nat)=>Sum.inl (n:Int)):=by
   have:∀ y∈ys,∃ n:Nat,y=Sum.inl (n:Int):=λ y hy=>by
     obtain ⟨n,_,e⟩:=List.mem_map.mp (pm.mem_iff.mp hy)
     exact ⟨n,e.symm⟩
   clear so pm
   induction ys with
   | nil=>exact ⟨[],rfl⟩
   | cons y r ih =>
     obtain ⟨n,rfl⟩:=this _ List.mem_cons_self
     obtain ⟨L,rfl⟩:=ih λ y hy=>this y (List.mem_cons_of_mem _ hy)
     exact ⟨n::L,rfl⟩
 refine ⟨L,rfl,λ x=>?_,?_⟩
 . have:=pm.mem_iff (a:=Sum.inl (x:Int))
   rw [List.mem_map,List.mem_map] at this
   constructor
   . intro h
     obtain ⟨y,hy,e⟩:=this.mp ⟨x,h,rfl⟩
     rw [zcT.mp e] at hy; exact hy
   . intro h
     obtain ⟨y,hy,e⟩:=this.mpr ⟨x,h,rfl⟩
     rw [zcT.mp e] at hy; exact hy
 . rw [List.pairwise_map] at so
   exact so.imp λ {a b} h=>by
     have:decide ((a:Int) < (b:Int))=true:=h
     have:=of_decide_eq_true this
     omega
theorem zg4 {xs:List V} {x:V}:atI (xs++[x]) (-1)=some x:=by
 have e:ixN (xs++[x]).length (-1)=some xs.length:=by
  unfold ixN
  rw [List.length_append,List.length_singleton,if_neg (by omega),if_pos (by omega)]
  congr 1; omega
 unfold atI
 rw [e]; simp
section
variable {P:Program} {w:World} {K:PySem.W.Frag} {mg:Str->Option Value} {base:Heap} {A:Ad} {F:Fs}
theorem zc0 (T:Txt K mg A F):FnOk P w K mg base (CX1 P w) 5 (F.f 22) (F.fd 22) ["self","deed"] (znG A):=by
 have G_Hall_come_to:=zhx (P:=P) (w:=w) (base:=base) T
 refine T.zdj.okN za8 (λ vs H Q E h=>?_) (λ cdv A' outer s H vs Q E hr h=>?_)
 . obtain ⟨ρ,ad,s,kv,d,rfl,_⟩:=h
   rfl
 . obtain ⟨ρ,ad,s,kv,d,rfl,hh,c,hd0,th,sm,hd,q⟩:=h
   have hu:=zdW hr
   obtain ⟨dx,hp⟩:=hh.hall
   have RG:=zjl c th
   refine ⟨_,(zac (zaM (i:=2) za8.nd rfl (by walk_at "loc") (zax (pv 0) T.zaj T.zeM G_Hall_come_to (hr.mono (by decide)) T.zeS .nil zaD (zaa (pv 1) zad)))
     (zac (zbE (zgz (zhs hu (pv 1) (pv 2))) (zaf (zaw zfx)) zaO)
     (zac (zaM (i:=3) za8.nd rfl (by walk_at "loc") (zbK (zgQ rfl) (by rfl) T.zjB boot_sorted (zaa (pv 2) zad)))
     (zac (zg2 PassesOwn.never (zgz (zhs hu (pv 1) (zax (pv 0) T.zaj T.zeM G_Hall_come_to (hr.mono (by decide)) T.zeS .nil zaD (zaa (zaY zbp (pv 3) (zqk zmQ zal) (λ _ _=>rfl)) zad)))) (zaf (zaJ (zoN PySem.F.plainAttrs_list PySem.F.slot_list_pop PySem.F.type_list_pop zq5 (pv 3)))))
     (zaf (zaw (zaY zbp (pv 3) (zqk zmQ zal) (λ _ _=>rfl)))))))),?_⟩
   refine ⟨_,rfl,_,dx,_,rfl,hp,rfl,_,rfl,ρ,ad,s,kv,d,rfl,hh,c,sm,hd,λ H1 pf fd m1 hf nd hre=>?_⟩
   have dg:=DGet.k (k:=Sum.inl (d:Int)) hf
   refine ⟨_,rfl,_,rfl,_,_,rfl,dg,_,rfl,?_⟩
   refine zdu (!decide (d∈fd)) (by rw [zfI]) ?_
   by_cases hm:d∈fd
   rotate_left
   . refine zbx (by simp [hm]) ?_
     have:=q H1 m1
     rw [RG.1 λ z=>hm ((hre d).mpr ((zdt c hd0).mpr z))] at this
     exact this
   refine zaW (by simp [hm]) ?_
   have fl:∀ x∈fd,x < s.n:=λ x hx=>by
     obtain ⟨z,hz,_⟩:=((hre x).mp hx).last
     exact zq2 c hz
   have len:fd.length<=s.n:=zfz _ _ nd fl
   refine ⟨_,rfl,pf,_,rfl,.inr ⟨_,hf,rfl⟩,?_,?_,?_,λ ys pr pm so nr=>?_⟩
   . rw [show (zck fd).map (·.1)=fd.map λ (n:Nat)=>Sum.inl (n:Int) by unfold zck; rw [List.map_map]; rfl]
     exact zoX (λ a b z=>zcT.mp z) nd
   . refine .inl λ k hk=>?_
     obtain ⟨y,hk2,rfl⟩:=List.mem_map.mp hk
     obtain ⟨x,_,e⟩:=List.mem_map.mp hk2
     exact ⟨_,by rw [<-e]⟩
   . have:=sm.n
     unfold zck; rw [List.length_map,List.length_map]; omega
   obtain ⟨L,rfl,hL,sL⟩:=zlF (l:=fd) (by rw [show (zck fd).map (·.1)=fd.map λ (n:Nat)=>Sum.inl (n:Int) by unfold zck; rw [List.map_map]; rfl] at pm; exact pm) so
   have eL:List.map kV (L.map λ (n:Nat)=>Sum.inl (n:Int))=zaC L:=by unfold zaC; rw [List.map_map]; rfl
   rw [eL]
   have hdd:zc9 s d d:=(hre d).mp hm
   have s1:Same H (upd H1 pr (.lst (zaC L))):=m1.upd2 nr
   have frm:∀ b o,H b=some o->b≠pr:=λ b o e=>zah (m1 b o e) nr
   refine ⟨λ m σ H2=>∃ pre rest,σ=[some (.ref (ad .hall)),some (.int d),some (.ref pf),some (.ref pr)]/\m=pre.length/\L=pre++rest/\d∈pre/\(∀ x∈rest,¬ zc9 s x d)/\Same H H2/\H2 pr=some (.lst (zaC pre)),⟨_,L,[],rfl,rfl,by simp,(hL d).mpr hm,(λ x hx=>by cases hx),s1,zab⟩,?_⟩
   rintro m σ H2 ⟨pre,rest,rfl,rfl,eq,hdp,hrest,s2,hr2⟩
   have hne:pre≠[]:=λ z=>by rw [z] at hdp; cases hdp
   obtain ⟨init,g,rfl⟩:∃ init g,pre=init++[g]:=⟨pre.dropLast,pre.getLast hne,(List.dropLast_concat_getLast hne).symm⟩
   have il:zaC (init++[g])=zaC init++[V.int (g:Int)]:=by unfold zaC; rw [List.map_append]; rfl
   have hat:atI (zaC (init++[g])) (-1)=some (V.int (g:Int)):=by
     rw [il]; exact zg4
   have hgL:g∈L:=by rw [eq]; simp
   have hgn:g < s.n:=fl g ((hL g).mp hgL)
   refine ⟨_,rfl,_,rfl,_,dx,_,rfl,s2 _ _ hp,rfl,_,rfl,_,rfl,_,_,_,_,rfl,rfl,SqL.of hr2,hat,ρ,ad,s,kv,g,rfl,hh.grow s2,c,sm,hgn,λ H3 pg gd m3 hg ndg hreg=>?_⟩
   have dg3:=DGet.k (k:=Sum.inl (d:Int)) hg
   refine ⟨_,_,rfl,dg3,_,rfl,?_⟩
   refine zdu (!decide (d∈gd)) (by rw [zfI]) ?_
   have hr3:=m3 _ _ hr2
   have s3:=s2.trans m3
   by_cases hgd:d∈gd
   . refine zaW (by simp [hgd]) ?_
     refine ⟨_,rfl,_,rfl,_,_,_,_,rfl,rfl,SqL.of hr3,hat,?_⟩
     have:=q H3 s3
     rw [RG.2 g ((zdt c hd0).mp ((hre g).mp ((hL g).mp hgL))) ((zdt c hd0).mp ((hreg d).mp hgd)) λ x h1 h2=>?_] at this
     . exact this
     . have hx:x∈L:=(hL x).mpr ((hre x).mpr ((zdt c hd0).mpr h1))
       rw [eq] at hx
       rcases List.mem_append.mp hx with hx | hx
       . rw [eq] at sL
         have sp:=(List.pairwise_append.mp sL).1
         rcases List.mem_append.mp hx with hx | hx
         . exact Nat.le_of_lt ((List.pairwise_append.mp sp).2.2 x hx g (by simp))
         . rw [List.mem_singleton.mp hx]; exact Nat.le_refl _
       . exact absurd ((zdt c hd0).mpr h2) (hrest x hx)
   . refine zbx (by simp [hgd]) ?_
     have hgd2:¬ zc9 s g d:=λ z=>hgd ((hreg d).mpr z)
     refine ⟨λ σ' H'=>∃ pre' rest',σ'=[some (.ref (ad .hall)),some (.int d),some (.ref pf),some (.ref pr)]/\pre'.length < (init++[g]).length/\L=pre'++rest'/\d∈pre'/\(∀ x∈rest',¬ zc9 s x d)/\Same H H'/\H' pr=some (.lst (zaC pre')),λ σ' H' ⟨pre',rest',e,lt,a1,a2,a3,a4,a5⟩=>⟨_,lt,pre',rest',e,rfl,a1,a2,a3,a4,a5⟩,?_⟩
     have hlast:(zaC (init++[g]))[(zaC (init++[g])).length - 1]?=some (V.int (g:Int)):=by
       rw [il]; simp
     refine ⟨_,rfl,.inl ⟨rfl,_,SqL.of hr3⟩,pr,_,_,rfl,rfl,hr3,hlast,?_⟩
     have hdrop:(zaC (init++[g])).dropLast=zaC init:=by rw [il,List.dropLast_concat]
     rw [hdrop]
     refine ⟨init,g::rest,rfl,by simp,by rw [eq]; simp,?_,?_,λ b o e=>by rw [zae (frm b o e)]; exact s3 b o e,zab⟩
     . rcases List.mem_append.mp hdp with z | z
       . exact z
       . rw [<-List.mem_singleton.mp z] at hgd2; exact absurd hdd hgd2
     . intro x hx
       rcases List.mem_cons.mp hx with rfl | hx
       . exact hgd2
       . exact hrest x hx
end
section
variable {P:Program} {w:World} {K:PySem.W.Frag} {mg:Str->Option Value} {base:Heap} {A:Ad} {F:Fs}
theorem zkJ (T:Txt K mg A F):FnOk P w K mg base (CX1 P w) 2 (F.f 24) (F.fd 24) ["self","deed"] (zst A):=by
 have G_Record_written:=zdq (P:=P) (w:=w) (base:=base) T
 refine T.zmF.okN zd6 (λ vs H Q E h=>?_) (λ cdv A' outer s H vs Q E hr h=>?_)
 . obtain ⟨ρ,ad,s,kv,d,rfl,_⟩:=h
   rfl
 . obtain ⟨ρ,ad,s,kv,d,rfl,hh,sm,hd,hks,q⟩:=h
   have hu:=zdW hr
   obtain ⟨dx,hp⟩:=hh.hall
   obtain ⟨wv,ra,_⟩:=hh.recAt hd
   obtain ⟨dr,hrc⟩:=ra.ob
   refine ⟨_,(zaf (zdn PassesOwn.never rfl (zdg (zb8 (zaY zbp (zao (pv 0) rfl) (pv 1) (λ _ _=>rfl)) T.zau T.zdK G_Record_written (hr.mono (by decide)) T.zdQ .nil zaD)) (zm2 (n:=2) rfl (zbJ (zaL (i:=2) zd6.nd rfl (by walk_at "loc")) (zbJ (zaL (i:=3) zd6.nd rfl (by walk_at "loc")) zhr))) (zaf (zbE (zgz (zoP hu (pv 2) (zao (pv 0) rfl))) (zaf (zfc hu (zao (pv 0) rfl) (pv 2) (zcQ hu (zao (pv 0) rfl) (pv 2) (λ _ _=>rfl)) rfl)) (zaf (zaJ (zm4 (zao (pv 0) rfl) (pv 2) zfx ⟨rfl,rfl,rfl,rfl⟩))))))),?_⟩
   refine ⟨_,rfl,_,_,dx,_,_,rfl,hp,T.zaj,T.zaz,rfl,_,rfl,_,_,_,_,rfl,rfl,SqL.of hh.recs,zbq (hh.zfw hd),_,dr,_,rfl,hrc,rfl,_,_,_,_,_,rfl,ra,by have:=sm.dn d; omega,λ H1 ql us m1 hq tu=>⟨ql,rfl,⟨_,SqL.of hq⟩,?_⟩⟩
   have hul:us.length=(zat (s.deed d).done).length:=by rw [tu.length,List.length_map]
   refine zeC (xs:=us) (λ i σ H2=>∃ v2 v3,σ=[some (.ref (ad .hall)),some (.int d),v2,v3]/\zai A ρ ad { s with book:=ub kv s.book (((zat (s.deed d).done).take i).map (·.1)) } kv H2/\Frame ρ H ρ H2/\H2 ql=some (.lst us)/\zap H2 us ((zat (s.deed d).done).map ziG)) ⟨_,_,rfl,hh.grow m1,Frame.grow m1,hq,tu⟩ (λ i σ H2 _ ⟨_,_,_,_,_,e,_⟩=>SqL.of e) ?_ ?_
   . rintro i x σ H2 hx ⟨v2,v3,rfl,h2,f2,hq2,t2⟩
     obtain ⟨y,hy1,r,rfl,hr1⟩:=zcE t2 hx
     rw [List.getElem?_map] at hy1
     obtain ⟨⟨k,v⟩,ha,rfl⟩:=Option.map_eq_some_iff.mp hy1
     have e1:(zat (s.deed d).done).take (i+1)=(zat (s.deed d).done).take i++[(k,v)]:=by rw [List.take_add_one,ha]; rfl
     obtain ⟨dx2,hp2⟩:=h2.hall
     obtain ⟨l,hl,hb⟩:=h2.zcl
     have hb:za6 l (ub kv s.book (((zat (s.deed d).done).take i).map (·.1))):=hb
     obtain ⟨lk,hlk,hbk⟩:=h2.zc1
     have dg:=DGet.k (k:=Sum.inr k) hlk
     rw [hbk.val] at dg
     have hll:l.length<=4:=Nat.le_trans (hb.len sm.snd λ j hj=>by
      unfold ub at hj
      by_cases z:j∈((zat (s.deed d).done).take i).map (·.1)
      . rw [if_pos z] at hj; exact hks j hj
      . rw [if_neg z] at hj; exact sm.bs j hj) sm.seen
     have step:∀ (H3:Hp) (l3:List (Str×Int)),H3 (ad .zcl)=some (.dK (bkV l3))->zcw H2 (ad .zcl) H3->za6 l3 (up (ub kv s.book (((zat (s.deed d).done).take i).map (·.1))) k (kv k))->∃ v2 v3,[some (.ref (ad .hall)),some (.int d),some (V.str k),some (V.int v)]=[some (.ref (ad .hall)),some (.int (d:Int)),v2,v3]/\zai A ρ ad { s with book:=ub kv s.book (((zat (s.deed d).done).take (i+1)).map (·.1)) } kv H3/\Frame ρ H ρ H3/\H3 ql=some (.lst us)/\zap H3 us ((zat (s.deed d).done).map ziG):=λ H3 l3 e3 k3 b3=>by
      obtain ⟨h3,f3⟩:=h2.zmW T.ok e3 k3 b3
      refine ⟨_,_,rfl,?_,f2.trans f3,k3 _ _ hq2 (zbh hq2 hl (λ z=>nomatch z)),zap.mono (Imm.zfl T.ok h2 (r:=.zcl) trivial k3) t2⟩
      rw [e1,List.map_append]
      rw [zro] at h3
      exact h3
     refine ⟨r,_,rfl,SqT.of hr1,rfl,_,_,rfl,_,_,rfl,rfl,?_⟩
     refine ⟨_,rfl,_,rfl,_,_,dx2,_,_,rfl,hp2,T.zaj,T.za5,rfl,_,_,rfl,dg,_,rfl,?_⟩
     cases hkv:kv k with
     | some u =>
      rw [hkv] at dg
      refine zbx rfl ?_
      refine ⟨_,rfl,_,_,dx2,_,_,rfl,hp2,T.zaj,T.za5,rfl,_,rfl,_,_,rfl,dg,_,rfl,_,_,dx2,_,_,rfl,hp2,T.zaj,T.zbc,rfl,_,rfl,_,_,rfl,DPut.k (k:=Sum.inr k) hl (by rw [zh6,sizeLine_eq]; omega),?_⟩
      rw [zjU]
      refine step _ _ zab (λ b o e hb=>by rw [zae hb]; exact e) ?_
      rw [hkv]
      exact hb.put k u
     | none =>
      refine zaW rfl ?_
      refine ⟨_,rfl,_,_,dx2,_,_,rfl,hp2,T.zaj,T.zbc,rfl,_,rfl,.inl ⟨_,.of hl⟩,_,rfl,_,Sum.inr k,hl,rfl,λ v hv=>?_,λ hv=>?_⟩
      . rw [zqQ]
        refine step _ _ zab (λ b o e hb=>by rw [zae hb]; exact e) ?_
        rw [hkv]
        exact hb.drop k
      . refine step _ _ hl (λ b o e _=>e) ?_
        rw [hkv]
        refine hb.zpz ?_
        rw [hb.val] at hv
        simpa using hv
   . rintro σ H2 ⟨v2,v3,rfl,h2,f2,_⟩
     rw [hul,List.take_length,zom] at h2
     exact q H2 h2 f2
theorem ziq (T:Txt K mg A F):FnOk P w K mg base (CX1 P w) 4 (F.f 29) (F.fd 29) ["self","key"] (zry A):=by
 have G_Desk_lets_first:=zfy (P:=P) (w:=w) (base:=base) T
 have G_Hall_carry_out:=zdr (P:=P) (w:=w) (base:=base) T
 refine T.zj6.okN zda (λ vs H Q E h=>?_) (λ cdv A' outer s H vs Q E hr h=>?_)
 . obtain ⟨ρ,ad,s,kv,k,T,rfl,_⟩:=h
   rfl
 . obtain ⟨ρ,ad,s,kv,k,T0,rfl,hh,c,L,hk,q⟩:=h
   have hu:=zdW hr
   obtain ⟨dx,hp⟩:=hh.hall
   refine ⟨_,(zac (zaM (i:=2) zda.nd rfl (by walk_at "loc") (zcQ hu (zao (pv 0) rfl) (pv 1) (λ _ _=>rfl)))
    (zaf (zg2 PassesOwn.never (zm1 (zb8 (pv 2) T.zaQ T.zgc G_Desk_lets_first (hr.mono (by decide)) T.zgr .nil zaD)) (zac (zaM (i:=3) zda.nd rfl (by walk_at "loc") (zee PySem.F.plainAttrs_list PySem.F.slot_list_pop PySem.F.type_list_pop zqs (zao (pv 2) rfl) (zaa zal zad)))
    (zaf (zaJ (zax (pv 0) T.zaj T.zdL G_Hall_carry_out (hr.mono (by decide)) T.zdR .nil zaD (zaa (zaY zbj (pv 3) zal (λ _ _=>rfl)) (zaa (zao (zaY zbp (zao (pv 0) rfl) (zaY zbj (pv 3) zal (λ _ _=>rfl)) (λ _ _=>rfl)) rfl) zad))))))))),?_⟩
   refine ⟨_,rfl,_,_,dx,_,_,rfl,hp,T.zaj,T.zbn,rfl,_,rfl,_,_,rfl,hh.zfL hk,?_⟩
   refine ⟨λ m σ H2=>∃ t v3,σ=[some (.ref (ad .hall)),some (.str k),some (.ref (ad (.desk k))),v3]/\m=(t.rows k).length/\zai A ρ ad t kv H2/\Frame ρ H ρ H2/\Core t none/\Lim t T0/\t.seen=s.seen/\zbt (s.rows k).length s k=zbt (t.rows k).length t k,⟨_,s,none,rfl,rfl,hh,.refl,c,L,rfl,rfl⟩,?_⟩
   rintro m σ H2 ⟨t,v3,rfl,rfl,h2,f2,c2,L2,es,eg⟩
   have hk2:k∈t.seen:=by rw [es]; exact hk
   have sm:=L2.sm c2
   have D:=h2.desk hk2
   obtain ⟨dd,hdk⟩:=D.ob
   refine ⟨_,rfl,_,dd,_,rfl,hdk,rfl,_,_,_,_,_,rfl,D,sm.hl k,sm.hn k,λ H3 m3=>?_⟩
   refine ⟨_,rfl,?_⟩
   cases hrw:t.rows k with
   | nil =>
    refine zaW rfl (q H3 ?_ (f2.trans (Frame.grow m3)))
    rw [eg,zfG hrw]; exact h2.grow m3
   | cons pr r =>
    obtain ⟨d,w'⟩:=pr
    cases hlt:lets (t.held k) d w' with
    | false =>
     refine zaW hlt (q H3 ?_ (f2.trans (Frame.grow m3)))
     rw [eg,zez hrw hlt]; exact h2.grow m3
    | true =>
     refine zbx hlt ?_
     have h3:=h2.grow m3
     have D3:=h3.desk hk2
     obtain ⟨us,hus,tus⟩:=D3.rw
     obtain ⟨dd3,hdk3⟩:=D3.ob
     rw [hrw] at tus
     obtain ⟨u0,us',rfl,⟨pp,rfl,hpp⟩,tus'⟩:∃ u0 us',us=u0::us'/\TupAt H3 u0 (zco (d,w'))/\zap H3 us' (r.map zco):=by
       cases tus with
       | cons a b=>exact ⟨_,_,rfl,a,b⟩
     have kp4:zcw H3 (ad (.row k)) (upd H3 (ad (.row k)) (.lst us')):=λ b o e hb=>by rw [zae hb]; exact e
     have im4:=Imm.zfl T.ok h3 (r:=.row k) hk2 kp4
     obtain ⟨h4,f4⟩:=h3.zqY T.ok hk2 (r:=r) zab kp4 (zap.mono im4 tus')
     have hpp4:=im4.tup _ _ hpp
     refine ⟨λ σ' H'=>∃ t' v3,σ'=[some (.ref (ad .hall)),some (.str k),some (.ref (ad (.desk k))),v3]/\(t'.rows k).length < ((d,w')::r).length/\zai A ρ ad t' kv H'/\Frame ρ H ρ H'/\Core t' none/\Lim t' T0/\t'.seen=s.seen/\zbt (s.rows k).length s k=zbt (t'.rows k).length t' k,λ σ' H' ⟨t',v3,e,lt,a1,a2,a3,a4,a5,a6⟩=>⟨_,lt,t',v3,e,rfl,a1,a2,a3,a4,a5,a6⟩,?_⟩
     refine ⟨_,rfl,_,_,dd3,_,_,rfl,hdk3,T.zaQ,T.zaX,rfl,.inl ⟨rfl,_,SqL.of hus⟩,ad (.row k),_,0,0,_,rfl,rfl,hus,by decide,by decide,(zpg (n:=(V.ref pp::us').length) (i:=0) (j:=0) (by unfold ixN; rw [if_pos (by decide),if_pos (by simp)]; rfl)).1,rfl,?_⟩
     show tSeq _ _ _ _ (upd H3 (ad (.row k)) (.lst us'))
     generalize upd H3 (ad (.row k)) (.lst us')=H4 at *
     have hm:(d,w')∈t.rows k:=by rw [hrw]; exact List.mem_cons_self
     obtain ⟨hst,a,ha,hak,haw⟩:=c2.rAct k _ hm
     have hdn:d < t.n:=c2.lt (.inr hst)
     obtain ⟨dr,wv,hr4,hw4⟩:=h4.rcd hdn
     obtain ⟨dx4,hp4⟩:=h4.hall
     have hwo:wantOf (t.deed d)=some a:=by
       have hst:(t.deed d).st=.waiting:=hst
       unfold wantOf; rw [if_pos hst]; exact ha
     have hw4:zcv A H4 wv (wantOf (t.deed d)):=hw4
     rw [hwo] at hw4
     have sm4:Sm { t with rows:=up t.rows k r }:=⟨sm.n,sm.seen,sm.snd,sm.dn,sm.lg,sm.kp,sm.hl,sm.hn,(λ j=>by
       show (up t.rows k r j).length<=1000
       by_cases z:j=k
       . subst z; rw [zag]; have:=sm.rl j; rw [hrw,List.length_cons] at this; omega
       . rw [zam z]; exact sm.rl j),sm.bs⟩
     refine ⟨_,rfl,_,dx4,_,rfl,hp4,rfl,_,rfl,pp,_,_,_,rfl,rfl,SqT.of hpp4,rfl,_,rfl,_,_,dx4,_,_,rfl,hp4,T.zaj,T.zaz,rfl,_,rfl,pp,_,_,_,rfl,rfl,SqT.of hpp4,rfl,_,_,_,_,rfl,rfl,SqL.of h4.recs,zbq (h4.zfw hdn),_,_,dr,_,_,rfl,hr4,T.zau,T.za0,rfl,ρ,ad,_,kv,d,wv,a,rfl,h4,sm4,hdn,by rw [hak]; exact hk2,hw4,λ H5 h5 f5=>?_⟩
     have hak:a.key=k:=hak
     have haw:a.wr=w':=haw
     rw [hak,haw,<-zn1 c2 hrw] at h5
     have e1:zbt 1 t k=doIt (take { t with rows:=up t.rows k r } d k w') d a:=by
       rw [zeA hrw hlt ha]; rfl
     rw [<-e1] at h5
     have er:(zbt 1 t k).rows k=r:=by
       rw [e1,zcU]; exact zag
     obtain ⟨g1,g2⟩:=zn0 (k:=k) (f:=1) c2
     refine ⟨zbt 1 t k,_,rfl,?_,h5,((f2.trans (Frame.grow m3)).trans f4).trans f5,c2.zbt,⟨Ext.zbt L2.e c2,L2.t,by rw [g2]; exact L2.n,by rw [g1]; exact L2.sn⟩,by rw [g1]; exact es,?_⟩
     . rw [er,List.length_cons]; omega
     . rw [eg,er,e1,hrw,List.length_cons,zeA hrw hlt ha]
end
section
variable {P:Program} {w:World} {K:PySem.W.Frag} {mg:Str->Option Value} {base:Heap} {A:Ad} {F:Fs}
theorem zhw (T:Txt K mg A F):FnOk P w K mg base (CX1 P w) 5 (F.f 30) (F.fd 30) ["self","deed","state"] (ztz A):=by
 have G_Record_touched_keys:=zdU (P:=P) (w:=w) (base:=base) T
 have G_Desk_leave:=zjy (P:=P) (w:=w) (base:=base) T
 have G_Hall_let_on:=ziq (P:=P) (w:=w) (base:=base) T
 refine T.zoh.okN zcN (λ vs H Q E h=>?_) (λ cdv A' outer s H vs Q E hr h=>?_)
 . obtain ⟨ρ,ad,s,s0,kv,d,st,T0,rfl,_⟩:=h
   rfl
 . obtain ⟨ρ,ad,s,s0,kv,d,st,T0,rfl,hh,c0,L0,hd0,e1,e2,e3,e4,e5,c1,L1,hst,hd,q⟩:=h
   have hu:=zdW hr
   obtain ⟨dx,hp⟩:=hh.hall
   obtain ⟨wv,ra,hw⟩:=hh.recAt hd
   obtain ⟨dr,hrc⟩:=ra.ob
   have sm0:=L0.sm c0
   have ek:(s.deed d).done.map (·.key)++zc3 (wantOf (s.deed d))=touched s0 d:=by rw [zgI]; unfold touched; rw [e1]
   have hts:∀ k∈touched s0 d,k∈s.seen:=λ k hk=>by rw [e4]; exact zd2 c0 L0.e k hk
   have hlen:(ordS (touched s0 d)).length<=4:=Nat.le_trans (zm9 _ s0.seen (zd2 c0 L0.e) L0.e.snd) L0.sn
   refine ⟨_,(zac (zaM (i:=3) zcN.nd rfl (by walk_at "loc") (zaY zbp (zao (pv 0) rfl) (pv 1) (λ _ _=>rfl)))
     (zac (zaM (i:=4) zcN.nd rfl (by walk_at "loc") (zb8 (pv 3) T.zau T.zei G_Record_touched_keys (hr.mono (by decide)) T.zes .nil zaD))
     (zac (zbS (pv 3) (pv 2) rfl)
     (zac (zbS (pv 3) zfx rfl)
     (zac (zdn PassesOwn.never rfl (ziL (pv 4)) (zaL (i:=5) zcN.nd rfl (by walk_at "loc")) (zaf (zaJ (zax (zcQ hu (zao (pv 0) rfl) (pv 5) (λ _ _=>rfl)) T.zaQ T.zkX G_Desk_leave (hr.mono (by decide)) T.zlt .nil zaD (zaa (pv 1) zad)))))
     (zaf (zdn PassesOwn.never rfl (ziL (pv 4)) (zaL (i:=5) zcN.nd rfl (by walk_at "loc")) (zaf (zaJ (zax (pv 0) T.zaj T.zjF G_Hall_let_on (hr.mono (by decide)) T.zjY .nil zaD (zaa (pv 5) zad))))))))))),?_⟩
   refine ⟨_,rfl,_,_,dx,_,_,rfl,hp,T.zaj,T.zaz,rfl,_,rfl,_,_,_,_,rfl,rfl,SqL.of hh.recs,zbq (hh.zfw hd),?_⟩
   refine ⟨_,rfl,_,dr,_,rfl,hrc,rfl,_,_,_,_,_,_,rfl,ra,hw,by have:=sm0.dn d; rw [e1]; omega,by rw [ek]; omega,λ H1 qt nq m1 hq=>?_⟩
   rw [ek] at hq
   have h1:=hh.grow m1
   refine ⟨_,rfl,_,rfl,_,_,dr,_,rfl,m1 _ _ hrc,T.zau,T.zay,Nat.le_of_ble_eq_true rfl,_,rfl,_,_,dr,_,rfl,zab,T.zau,T.za0,Nat.le_of_ble_eq_true rfl,?_⟩
   rw [zja]
   have kp2:zcw H1 (ad (.rcd d)) (upd H1 (ad (.rcd d)) (.ins A.zaA dr (recF st (ad (.did d)) .non))):=λ b o e hb=>by rw [zae hb]; exact e
   obtain ⟨h2,f2⟩:=h1.zoC (H':=upd H1 (ad (.rcd d)) (.ins A.zaA dr (recF st (ad (.did d)) .non))) T.ok hd (D:={ s.deed d with st:=st }) (w:=.non) zab kp2 (by unfold wantOf; rw [if_neg hst]; rfl) rfl
   have hq2:=(Imm.zfl T.ok h1 (r:=.rcd d) hd kp2).tup _ _ hq
   have f02:=(Frame.grow (ρ:=ρ) m1).trans f2
   have ro0:ρ qt=.other:=hh.fr _ nq
   show tSeq _ _ _ _ (upd H1 (ad (.rcd d)) (.ins A.zaA dr (recF st (ad (.did d)) .non)))
   generalize upd H1 (ad (.rcd d)) (.ins A.zaA dr (recF st (ad (.did d)) .non))=H2 at *
   have h2:zai A ρ ad (zft s d st) kv H2:=h2
   refine ⟨_,rfl,qt,rfl,⟨_,SqT.of hq2⟩,?_⟩
   refine zjR (xs:=(ordS (touched s0 d)).map V.str) (λ i σ H'=>∃ ρ' ad' v5,σ=[some (.ref (ad .hall)),some (.int d),some (.str (stS st)),some (.ref (ad (.rcd d))),some (.ref qt),v5]/\ad' Role.hall=ad .hall/\zai A ρ' ad' (((ordS (touched s0 d)).take i).foldl (λ s k=>zej s d k) (zft s d st)) kv H'/\Frame ρ H ρ' H'/\H' qt=some (.tup ((ordS (touched s0 d)).map V.str))/\ρ' qt=.other) ⟨ρ,ad,_,rfl,rfl,h2,f02,hq2,ro0⟩ (λ i σ H' _ ⟨_,_,_,_,_,_,_,e,_⟩=>SqT.of e) ?_ ?_
   . rintro i x σ H3 hx ⟨ρ3,ad3,v5,rfl,ea,h3,f3,hq3,ro3⟩
     rw [List.getElem?_map] at hx
     obtain ⟨k,hk,rfl⟩:=Option.map_eq_some_iff.mp hx
     have e6:(ordS (touched s0 d)).take (i+1)=(ordS (touched s0 d)).take i++[k]:=by rw [List.take_add_one,hk]; rfl
     have hks:k∈s.seen:=hts k (zaV.mp (List.mem_of_getElem? hk))
     have hks3:k∈(((ordS (touched s0 d)).take i).foldl (λ s k=>zej s d k) (zft s d st)).seen:=by rw [zfk]; exact hks
     obtain ⟨dx3,hp3⟩:=h3.hall
     have D:=h3.desk hks3
     obtain ⟨dd,hdk⟩:=D.ob
     rw [<-ea]
     refine ⟨_,rfl,_,_,dx3,_,_,rfl,hp3,T.zaj,T.zbn,rfl,_,rfl,_,_,rfl,h3.zfL hks3,_,dd,_,rfl,hdk,rfl,_,rfl,_,_,_,dd,_,_,d,rfl,D,hdk,?_,λ H4 rw' us n0 a1 a2 a3 a4 a5=>?_⟩
     . rw [(zfC d _ _).2]
       show (if k∈(ordS (touched s0 d)).take i then less (s.rows k) d else s.rows k).length<=1000
       have:=sm0.rl k
       rw [e3]
       split
       . exact Nat.le_trans (List.length_filter_le _ _) this
       . exact this
     . obtain ⟨ρ4,ad4,ea4,h4,f4⟩:=h3.leave T.ok hks3 n0 a1 a2 a3 a4 a5
       refine ⟨ρ4,ad4,_,by rw [ea]; rfl,by rw [ea4],?_,f3.trans f4,(f4 _ _ hq3 ro3).1,(f4 _ _ hq3 ro3).2⟩
       rw [e6,List.foldl_append]; exact h4
   . rintro σ H3 ⟨ρ3,ad3,v5,rfl,ea,h3,f3,hq3,ro3⟩
     rw [List.length_map,List.take_length,zk1 λ k hk=>?_] at h3
     rotate_left
     . have:=zhA (d:=d) (k:=k) c0 L0.e λ z=>hk (zaV.mpr z)
       show less (s.held k) d=s.held k/\less (s.rows k) d=s.rows k
       rw [e2,e3]; exact this
     have ef:free ordS (zft s d st) d=zaG (letGo (zft s d st) d) (ordS (touched s0 d)):=zk9 ordS zqo c0 L0.e hd0 c1 e2 e3 e4
     refine ⟨_,rfl,qt,rfl,⟨_,SqT.of hq3⟩,?_⟩
     refine zjR (xs:=(ordS (touched s0 d)).map V.str) (λ i σ H'=>∃ v5,σ=[some (.ref (ad .hall)),some (.int d),some (.str (stS st)),some (.ref (ad (.rcd d))),some (.ref qt),v5]/\zai A ρ3 ad3 (zaG (letGo (zft s d st) d) ((ordS (touched s0 d)).take i)) kv H'/\Frame ρ H ρ3 H'/\H' qt=some (.tup ((ordS (touched s0 d)).map V.str))) ⟨_,rfl,h3,f3,hq3⟩ (λ i σ H' _ ⟨_,_,_,_,e⟩=>SqT.of e) ?_ ?_
     . rintro i x σ H4 hx ⟨v5,rfl,h4,f4,hq4⟩
       rw [List.getElem?_map] at hx
       obtain ⟨k,hk,rfl⟩:=Option.map_eq_some_iff.mp hx
       have e6:(ordS (touched s0 d)).take (i+1)=(ordS (touched s0 d)).take i++[k]:=by rw [List.take_add_one,hk]; rfl
       have hks:k∈s.seen:=hts k (zaV.mp (List.mem_of_getElem? hk))
       obtain ⟨dx4,hp4⟩:=h4.hall
       have c4:Core (zaG (letGo (zft s d st) d) ((ordS (touched s0 d)).take i)) none:=Core.zaG c1
       have s4:=zdH ((ordS (touched s0 d)).take i) (letGo (zft s d st) d) c1
       have n4:=zjN ((ordS (touched s0 d)).take i) (letGo (zft s d st) d) c1
       rw [<-ea]
       refine ⟨_,rfl,_,dx4,_,rfl,hp4,rfl,_,rfl,ρ3,ad3,_,kv,k,T0,rfl,h4,c4,⟨L1.e.zaG c1,L1.t,by rw [n4]; exact L1.n,by rw [s4]; exact L1.sn⟩,by rw [s4]; exact hks,λ H5 h5 f5=>⟨_,by rw [ea]; rfl,?_,f4.trans f5,(f5 _ _ hq4 ro3).1⟩⟩
       rw [e6,zi0]; exact h5
     . rintro σ H4 ⟨v5,rfl,h4,f4,hq4⟩
       rw [List.length_map,List.take_length,<-ef] at h4
       exact q H4 ρ3 ad3 ea h4 f4
theorem zgC (T:Txt K mg A F):FnOk P w K mg base (CX1 P w) 6 (F.f 31) (F.fd 31) ["self","deed"] (zsz A):=by
 have G_Hall_undo:=zkJ (P:=P) (w:=w) (base:=base) T
 have G_Hall_end:=zhw (P:=P) (w:=w) (base:=base) T
 refine T.zmJ.okN zku (λ vs H Q E h=>?_) (λ cdv A' outer s H vs Q E hr h=>?_)
 . obtain ⟨ρ,ad,s,d,T0,rfl,_⟩:=h
   rfl
 . obtain ⟨ρ,ad,s,d,T0,rfl,hh,c,L,hd0,hact,q⟩:=h
   have hd:=c.lt hact
   have sm:=L.sm c
   obtain ⟨dx,hp⟩:=hh.hall
   obtain ⟨us,hus,tus⟩:=hh.rows
   have hul:us.length=s.log.length:=by rw [tus.length,List.length_map]
   refine ⟨_,(zac (zaJ (zee PySem.F.plainAttrs_list PySem.F.slot_list_append PySem.F.type_list_append zbs (zao (pv 0) rfl) (zaa (zbA (zaa (zcF rfl T.zpr) (zaa (pv 1) zad))) zad)))
     (zac (zaJ (zax (pv 0) T.zaj T.zl4 G_Hall_undo (hr.mono (by decide)) T.zmp .nil zaD (zaa (pv 1) zad)))
     (zaf (zaJ (zax (pv 0) T.zaj T.ziS G_Hall_end (hr.mono (by decide)) T.zi7 .nil zaD (zaa (pv 1) (zaa (zcF rfl T.zgl) zad))))))),?_⟩
   refine ⟨_,rfl,_,_,dx,_,_,rfl,hp,T.zaj,T.zb2,rfl,.inl ⟨rfl,_,SqL.of hus⟩,_,rfl,by show 2<=sizeLine; rw [sizeLine_eq]; decide,λ n nn=>⟨ad .rows,_,_,rfl,rfl,zav hus nn,by have:=sm.lg; rw [hul,sizeLine_eq]; omega,?_⟩⟩
   have h3:=hh.grow (H':=upd H n (.tup [V.str "give up",V.int (d:Int)])) (Same.zas nn)
   obtain ⟨h4,f4⟩:=h3.znu (H':=upd (upd H n (.tup [V.str "give up",V.int (d:Int)])) (ad .rows) (.lst (us++[.ref n]))) T.ok (row:=.drop d) (zav hus nn) zab (λ b o e hb=>by rw [zae hb]; exact e) ⟨n,rfl,by rw [zae (zah hus nn).symm,zab]; rfl⟩
   have f04:=(Frame.grow (ρ:=ρ) (Same.zas (o:=.tup [V.str "give up",V.int (d:Int)]) nn)).trans f4
   show tSeq _ _ _ _ (upd (upd H n (.tup [V.str "give up",V.int (d:Int)])) (ad .rows) (.lst (us++[.ref n])))
   generalize upd (upd H n (.tup [V.str "give up",V.int (d:Int)])) (ad .rows) (.lst (us++[.ref n]))=H4 at *
   obtain ⟨dx4,hp4⟩:=h4.hall
   refine ⟨_,rfl,_,dx4,_,rfl,hp4,rfl,_,rfl,ρ,ad,_,zaq s,d,rfl,h4,⟨sm.n,sm.seen,sm.snd,sm.dn,?_,sm.kp,sm.hl,sm.hn,sm.rl,sm.bs⟩,hd,L.e.zo7,λ H5 h5 f5=>?_⟩
   . show (s.log++[_]).length<=3000
     have:=L.e.lg; have:=L.t
     rw [List.length_append,List.length_singleton]; omega
   . obtain ⟨dx5,hp5⟩:=h5.hall
     refine ⟨_,rfl,_,dx5,_,rfl,hp5,rfl,_,rfl,ρ,ad,_,s,zaq s,d,.dropped,T0,rfl,h5,c,L,hd0,rfl,rfl,rfl,rfl,rfl,c.drops hact,L.drops c hact,by decide,hd,λ H6 ρ6 ad6 ea6 h6 f6=>q H6 ρ6 ad6 ea6 h6 ((f04.trans f5).trans f6)⟩
end
section
variable {P:Program} {w:World} {K:PySem.W.Frag} {mg:Str->Option Value} {base:Heap} {A:Ad} {F:Fs}
theorem zkI (T:Txt K mg A F):FnOk P w K mg base (CX1 P w) 7 (F.f 32) (F.fd 32) ["self","deed","want"] (zss A):=by
 have G_Desk_line_up:=zhz (P:=P) (w:=w) (base:=base) T
 have G_Hall_greatest_all_round:=zc0 (P:=P) (w:=w) (base:=base) T
 have G_Hall_drop:=zgC (P:=P) (w:=w) (base:=base) T
 refine T.zmE.okN zc4 (λ vs H Q E h=>?_) (λ cdv A' outer s H vs Q E hr h=>?_)
 . obtain ⟨ρ,ad,s,d,a,wv,T0,rfl,_⟩:=h
   rfl
 . obtain ⟨ρ,ad,s,d,a,wv,T0,rfl,hh,hk,⟨pw,dw,rfl,hw⟩,hd,sm,c1,hh1,th1,L1,q⟩:=h
   have hu:=zdW hr
   obtain ⟨dx,hp⟩:=hh.hall
   obtain ⟨dr,w0,hrc,_⟩:=hh.rcd hd
   refine ⟨_,(zac (zaM (i:=3) zc4.nd rfl (by walk_at "loc") (zaY zbp (zao (pv 0) rfl) (pv 1) (λ _ _=>rfl)))
    (zac (zbS (pv 3) (zcF rfl T.zk8) rfl)
    (zac (zbS (pv 3) (pv 2) rfl)
    (zac (zaJ (zax (zcQ hu (zao (pv 0) rfl) (zao (pv 2) rfl) (λ _ _=>rfl)) T.zaQ T.zit G_Desk_line_up (hr.mono (by decide)) T.ziy .nil zaD (zaa (pv 1) (zaa (zao (pv 2) rfl) zad))))
    (zac (zaM (i:=4) zc4.nd rfl (by walk_at "loc") (zax (pv 0) T.zaj T.zbT G_Hall_greatest_all_round (hr.mono (by decide)) T.zbU .nil zaD (zaa (pv 1) zad)))
    (zaf (zg2 PassesOwn.never (zgz (zoO (pv 4))) (zac (zaJ (zax (pv 0) T.zaj T.zhD G_Hall_drop (hr.mono (by decide)) T.zh9 .nil zaD (zaa (pv 4) zad)))
    (zaf (zaM (i:=4) zc4.nd rfl (by walk_at "loc") (zax (pv 0) T.zaj T.zbT G_Hall_greatest_all_round (hr.mono (by decide)) T.zbU .nil zaD (zaa (pv 1) zad)))))))))))),?_⟩
   refine ⟨_,rfl,_,_,dx,_,_,rfl,hp,T.zaj,T.zaz,rfl,_,rfl,_,_,_,_,rfl,rfl,SqL.of hh.recs,zbq (hh.zfw hd),?_⟩
   refine ⟨_,rfl,_,_,dr,_,rfl,hrc,T.zau,T.zay,Nat.le_of_ble_eq_true rfl,_,rfl,_,rfl,_,_,dr,_,rfl,zab,T.zau,T.za0,Nat.le_of_ble_eq_true rfl,?_⟩
   rw [zja]
   have kp2:zcw H (ad (.rcd d)) (upd H (ad (.rcd d)) (.ins A.zaA dr (recF .waiting (ad (.did d)) (.ref pw)))):=λ b o e hb=>by rw [zae hb]; exact e
   have im2:=Imm.zfl T.ok hh (r:=.rcd d) hd kp2
   have hw2:=im2.want _ _ _ hw
   obtain ⟨h2,f2⟩:=hh.zoC (H':=upd H (ad (.rcd d)) (.ins A.zaA dr (recF .waiting (ad (.did d)) (.ref pw)))) T.ok hd (D:={ s.deed d with st:=.waiting,wish:=some a }) (w:=.ref pw) zab kp2 ⟨pw,dw,rfl,hw2⟩ rfl
   show tSeq _ _ _ _ (upd H (ad (.rcd d)) (.ins A.zaA dr (recF .waiting (ad (.did d)) (.ref pw))))
   generalize upd H (ad (.rcd d)) (.ins A.zaA dr (recF .waiting (ad (.did d)) (.ref pw)))=H2 at *
   obtain ⟨dx2,hp2⟩:=h2.hall
   have D:=h2.desk hk
   obtain ⟨dd,hdk⟩:=D.ob
   refine ⟨_,rfl,_,_,dx2,_,_,rfl,hp2,T.zaj,T.zbn,rfl,_,rfl,pw,_,dw,_,_,rfl,hw2,T.zaZ,T.za4,rfl,_,_,rfl,h2.zfL hk,_,dd,_,rfl,hdk,rfl,_,rfl,_,rfl,pw,_,dw,_,_,rfl,hw2,T.zaZ,T.zbm,rfl,_,_,_,_,_,d,a.wr,rfl,D,sm.rl _,λ H3 us a1 a2 a3=>?_⟩
   obtain ⟨h3,f3⟩:=h2.zqY T.ok hk a1 a3 a2
   have h3:zai A ρ ad (wait s d a) (zaq s) H3:=h3
   obtain ⟨dx3,hp3⟩:=h3.hall
   refine ⟨_,rfl,_,dx3,_,rfl,hp3,rfl,_,rfl,ρ,ad,_,zaq s,d,rfl,h3,c1,hh1,th1,L1.sm c1,hd,λ H4 m4=>?_⟩
   refine ⟨λ m σ H'=>∃ t ρ' ad' f,σ=[some (.ref (ad .hall)),some (.int d),some (.ref pw),some (.ref (ad (.rcd d))),some (gotV (rings t).getLast?)]/\m=actN t/\ad' Role.hall=ad .hall/\zai A ρ' ad' t (zaq s) H'/\Frame ρ H ρ' H'/\Core t none/\Head t/\Thru t d/\Lim t T0/\t.n=s.n/\zaq t=zaq s/\actN t<=f/\settle ordS s.n (wait s d a)=settle ordS f t,⟨_,wait s d a,ρ,ad,s.n,rfl,rfl,rfl,h3.grow m4,(f2.trans f3).trans (Frame.grow m4),c1,hh1,th1,L1,rfl,ziW,zmx _,rfl⟩,?_⟩
   rintro m σ H5 ⟨t,ρ5,ad5,f,rfl,rfl,ea,h5,f5,c5,hd5,th5,L5,en,ek,hf,es⟩
   refine ⟨_,rfl,_,rfl,?_⟩
   cases hg:(rings t).getLast? with
   | none =>
    refine zaW rfl (q H5 ρ5 ad5 ea ?_ f5)
    rw [es,zlJ ordS hg]; exact h5
   | some g =>
    refine zbx rfl ?_
    have hga:(t.deed g).act:=.inr (zaI (zbD (List.mem_of_getLast? hg)).2)
    have lt:=zlu ordS c5 hga
    refine ⟨λ σ' H'=>∃ t' ρ' ad' f,σ'=[some (.ref (ad .hall)),some (.int d),some (.ref pw),some (.ref (ad (.rcd d))),some (gotV (rings t').getLast?)]/\actN t' < actN t/\ad' Role.hall=ad .hall/\zai A ρ' ad' t' (zaq s) H'/\Frame ρ H ρ' H'/\Core t' none/\Head t'/\Thru t' d/\Lim t' T0/\t'.n=s.n/\zaq t'=zaq s/\actN t'<=f/\settle ordS s.n (wait s d a)=settle ordS f t',λ σ' H' ⟨t',ρ',ad',f,e,lt,r⟩=>⟨_,lt,t',ρ',ad',f,e,rfl,r⟩,?_⟩
    obtain ⟨dx5,hp5⟩:=h5.hall
    rw [<-ea]
    refine ⟨_,rfl,_,dx5,_,rfl,hp5,rfl,_,rfl,ρ5,ad5,t,g,T0,rfl,by rw [ek]; exact h5,c5,L5,hd5,hga,λ H6 ρ6 ad6 ea6 h6 f6=>?_⟩
    obtain ⟨dx6,hp6⟩:=h6.hall
    have c6:=c5.drop ordS hga
    have hd6:=Head.drop ordS (λ l k=>zaV) c5 hga
    have th6:=th5.mono (znA ordS c5 hga)
    have L6:=L5.drop c5 hga
    have n6:(drop ordS t g).n=s.n:=by rw [zkT ordS c5 hga]; exact en
    rw [<-ea6]
    refine ⟨_,rfl,_,dx6,_,rfl,hp6,rfl,_,rfl,ρ6,ad6,_,zaq t,d,rfl,h6,c6,hd6,th6,L6.sm c6,by rw [n6]; exact hd,λ H7 m7=>?_⟩
    obtain ⟨f',rfl⟩:∃ f',f=f'+1:=⟨f - 1,by omega⟩
    refine ⟨drop ordS t g,ρ6,ad6,f',by rw [ea6,ea]; rfl,lt,by rw [ea6,ea],by rw [<-ek]; exact h6.grow m7,(f5.trans f6).trans (Frame.grow m7),c6,hd6,th6,L6,n6,by rw [zge ordS c5 hga]; exact ek,by omega,?_⟩
    rw [es,zlI ordS hg]
theorem zir (T:Txt K mg A F):FnOk P w K mg base (CX1 P w) 1 (F.f 33) (F.fd 33) ["self","deed","want"] (zqa A):=by
 refine T.zj7.okN zeI (λ vs H Q E h=>?_) (λ cdv A' outer s H vs Q E hr h=>?_)
 . obtain ⟨ρ,ad,s,kv,d,a,wv,rfl,_⟩:=h
   rfl
 . obtain ⟨ρ,ad,s,kv,d,a,wv,rfl,hh,⟨pw,dw,rfl,hw⟩,hd,did,q⟩:=h
   obtain ⟨dx,hp⟩:=hh.hall
   obtain ⟨dr,w0,hrc,_⟩:=hh.rcd hd
   obtain ⟨us,hus,tus⟩:=hh.did hd
   refine ⟨_,(zac (zaM (i:=3) zeI.nd rfl (by walk_at "loc") (zaY zbp (zao (pv 0) rfl) (pv 1) (λ _ _=>rfl)))
    (zac (zbE (zaB zch (zao (pv 3) rfl) (zcF rfl T.zgl) (zaE _)) (zaf (zaw (zbA (zaa zaN zad)))) zaO)
    (zac (zbE (zaB zch (zao (pv 3) rfl) (zcF rfl T.zk8) (zaE _)) (zaf (zaw (zbA (zaa zaN zad)))) zaO)
    (zac (zbE (zaB zch (zao (pv 2) rfl) (zcF rfl T.zdw) (zaE _)) (zaf (zaw (zbA (zaa zaN zad)))) zaO)
    (zaf (zaw (zbA (zaa zaN (zaa (zaY zbj (zaY zbp (zao (pv 3) rfl) (zqk zmQ zal) (λ _ _=>rfl)) zal (λ _ _=>rfl)) zad))))))))),?_⟩
   refine ⟨_,rfl,_,_,dx,_,_,rfl,hp,T.zaj,T.zaz,rfl,_,rfl,_,_,_,_,rfl,rfl,SqL.of hh.recs,zbq (hh.zfw hd),?_⟩
   refine ⟨_,rfl,_,_,dr,_,_,rfl,hrc,T.zau,T.zay,rfl,rfl,_,rfl,?_⟩
   have nst:∀ (a b:DS),stS a≠stS b->decide (V.str (stS a)=V.str (stS b))=false:=λ a b h=>decide_eq_false λ z=>h (V.str.inj z)
   cases hst:(s.deed d).st with
   | dropped =>
    refine zbx (decide_eq_true rfl) ⟨by show 1<=sizeLine; rw [sizeLine_eq]; decide,λ n nn=>q _ n nn (Same.zas nn) ?_⟩
    rw [zab]; unfold ansV; rw [hst]
   | waiting =>
    refine zaW (nst .waiting .dropped (by decide +kernel)) ⟨_,rfl,_,_,dr,_,_,rfl,hrc,T.zau,T.zay,rfl,rfl,_,rfl,?_⟩
    rw [hst]
    refine zbx (decide_eq_true rfl) ⟨by show 1<=sizeLine; rw [sizeLine_eq]; decide,λ n nn=>q _ n nn (Same.zas nn) ?_⟩
    rw [zab]; unfold ansV; rw [hst]
   | zan =>
    refine zaW (nst .zan .dropped (by decide +kernel)) ⟨_,rfl,_,_,dr,_,_,rfl,hrc,T.zau,T.zay,rfl,rfl,_,rfl,?_⟩
    rw [hst]
    refine zaW (nst .zan .waiting (by decide +kernel)) ⟨_,rfl,pw,_,dw,_,_,rfl,hw,T.zaZ,T.zbm,rfl,rfl,_,rfl,?_⟩
    refine zdu a.wr (zg7 a.wr) ?_
    have ea:ansV (s.deed d) a.wr=if a.wr then [V.str "done"] else [V.str "value",.int (zk2 (s.deed d))]:=by unfold ansV; rw [hst]
    rw [ea] at q
    cases hwr:a.wr with
    | true =>
     rw [hwr] at q
     exact iteT ⟨by show 1<=sizeLine; rw [sizeLine_eq]; decide,λ n nn=>q _ n nn (Same.zas nn) zab⟩
    | false =>
     rw [hwr] at q
     obtain ⟨init,b,eb⟩:∃ init b,(s.deed d).done=init++[b]:=by
      have hne:=did (.inl hst)
      exact ⟨_,_,(List.dropLast_concat_getLast hne).symm⟩
     have hul:us.length=init.length+1:=by rw [tus.length,List.length_map,eb]; simp
     obtain ⟨v,hv,pb,rfl,hpb⟩:=zd1 tus (i:=init.length) (y:=actV b) (by rw [eb]; simp)
     have hat:atI us (-1)=some (V.ref pb):=by
      obtain ⟨ys,y,rfl⟩:∃ ys y,us=ys++[y]:=⟨us.dropLast,us.getLast (by intro z; rw [z] at hul; simp at hul),(List.dropLast_concat_getLast _).symm⟩
      have hl:ys.length=init.length:=by simpa using hul
      rw [zg4]
      rw [<-hl] at hv
      simpa using hv
     have el:zk2 (s.deed d)=b.val:=by unfold zk2; rw [eb]; simp
     refine iteF ⟨_,rfl,_,_,dr,_,_,rfl,hrc,T.zau,T.zbd,rfl,_,rfl,_,_,_,_,rfl,rfl,SqL.of hus,hat,pb,_,_,_,rfl,rfl,SqT.of hpb,rfl,by show 2<=sizeLine; rw [sizeLine_eq]; decide,λ n nn=>q _ n nn (Same.zas nn) ?_⟩
     rw [zab,el]; rfl
   | kept =>
    refine zaW (nst .kept .dropped (by decide +kernel)) ⟨_,rfl,_,_,dr,_,_,rfl,hrc,T.zau,T.zay,rfl,rfl,_,rfl,?_⟩
    rw [hst]
    refine zaW (nst .kept .waiting (by decide +kernel)) ⟨_,rfl,pw,_,dw,_,_,rfl,hw,T.zaZ,T.zbm,rfl,rfl,_,rfl,?_⟩
    refine zdu a.wr (zg7 a.wr) ?_
    have ea:ansV (s.deed d) a.wr=if a.wr then [V.str "done"] else [V.str "value",.int (zk2 (s.deed d))]:=by unfold ansV; rw [hst]
    rw [ea] at q
    cases hwr:a.wr with
    | true =>
     rw [hwr] at q
     exact iteT ⟨by show 1<=sizeLine; rw [sizeLine_eq]; decide,λ n nn=>q _ n nn (Same.zas nn) zab⟩
    | false =>
     rw [hwr] at q
     obtain ⟨init,b,eb⟩:∃ init b,(s.deed d).done=init++[b]:=by
      have hne:=did (.inr hst)
      exact ⟨_,_,(List.dropLast_concat_getLast hne).symm⟩
     have hul:us.length=init.length+1:=by rw [tus.length,List.length_map,eb]; simp
     obtain ⟨v,hv,pb,rfl,hpb⟩:=zd1 tus (i:=init.length) (y:=actV b) (by rw [eb]; simp)
     have hat:atI us (-1)=some (V.ref pb):=by
      obtain ⟨ys,y,rfl⟩:∃ ys y,us=ys++[y]:=⟨us.dropLast,us.getLast (by intro z; rw [z] at hul; simp at hul),(List.dropLast_concat_getLast _).symm⟩
      have hl:ys.length=init.length:=by simpa using hul
      rw [zg4]
      rw [<-hl] at hv
      simpa using hv
     have el:zk2 (s.deed d)=b.val:=by unfold zk2; rw [eb]; simp
     refine iteF ⟨_,rfl,_,_,dr,_,_,rfl,hrc,T.zau,T.zbd,rfl,_,rfl,_,_,_,_,rfl,rfl,SqL.of hus,hat,pb,_,_,_,rfl,rfl,SqT.of hpb,rfl,by show 2<=sizeLine; rw [sizeLine_eq]; decide,λ n nn=>q _ n nn (Same.zas nn) ?_⟩
     rw [zab,el]; rfl
end
section
variable {P:Program} {w:World} {K:PySem.W.Frag} {mg:Str->Option Value} {base:Heap} {A:Ad} {F:Fs}
theorem zhy (T:Txt K mg A F):FnOk P w K mg base (CX1 P w) 8 (F.f 34) (F.fd 34) ["self","deed","want"] (zsB A):=by
 have G_Desk_init:=zkN (P:=P) (w:=w) (base:=base) T
 have G_Desk_lets_at_once:=zeH (P:=P) (w:=w) (base:=base) T
 have G_Hall_carry_out:=zdr (P:=P) (w:=w) (base:=base) T
 have G_Hall_wait:=zkI (P:=P) (w:=w) (base:=base) T
 have G_Hall_answer:=zir (P:=P) (w:=w) (base:=base) T
 refine T.zoi.okN zhj (λ vs H Q E h=>?_) (λ cdv A' outer s H vs Q E hr h=>?_)
 . obtain ⟨ρ,ad,s,d,a,pw,dw,T0,rfl,_⟩:=h
   rfl
 . obtain ⟨ρ,ad,s,d,a,pw,dw,T0,rfl,hh,R,ht,h4,hst,hw,row,q⟩:=h
   have hu:=zdW hr
   obtain ⟨dx,hp⟩:=hh.hall
   refine ⟨_,(zac (zaM (i:=3) zhj.nd rfl (by walk_at "loc") (zql (zao (pv 0) rfl) (zao (pv 2) rfl) (zjs T.zrZ G_Desk_init (hr.mono (by decide)) rfl T.zs7 T.zmt .nil zaD) ⟨rfl,rfl,rfl,rfl⟩))
     (zac (zbE (zm1 (zax (pv 3) T.zaQ T.zfi G_Desk_lets_at_once (hr.mono (by decide)) T.zfo .nil zaD (zaa (pv 1) (zaa (zao (pv 2) rfl) zad)))) (zaf (zaJ (zax (pv 0) T.zaj T.zdL G_Hall_carry_out (hr.mono (by decide)) T.zdR .nil zaD (zaa (pv 1) (zaa (pv 2) zad))))) (zaf (zaJ (zax (pv 0) T.zaj T.zl3 G_Hall_wait (hr.mono (by decide)) T.zmo .nil zaD (zaa (pv 1) (zaa (pv 2) zad))))))
     (zaf (zaw (zax (pv 0) T.zaj T.zjG G_Hall_answer (hr.mono (by decide)) T.zjZ .nil zaD (zaa (pv 1) (zaa (pv 2) zad))))))),?_⟩
   refine ⟨_,rfl,_,_,dx,_,_,rfl,hp,T.zaj,T.zbn,rfl,ad .zbR,rfl,.inl ⟨_,.of hh.zbR⟩,_,rfl,pw,_,dw,_,_,rfl,hw,T.zaZ,T.za4,rfl,λ x dx2 nx ndx nex=>⟨x,dx2,rfl,zab,λ H1 hd rw nhd nrw e1 e2 e3 kp=>⟨rfl,?_⟩⟩⟩
   have s0:Same H (upd (upd H dx2 (.own x)) x (.ins A.zci dx2 [])):=(Same.zas ndx).upd2 (by rw [zae nex.symm]; exact nx)
   have s1:Same H H1:=λ b o e=>kp b o (s0 b o e) (zah e nx)
   have hde:=s1 _ _ hh.zbR
   have ln:(zdO ad s.seen).length < sizeLine:=by have:=R.L.sn; unfold zdO; rw [List.length_map,sizeLine_eq]; omega
   refine ⟨_,Sum.inr a.key,hde,rfl,ln,λ v hv=>?_,λ hn=>?_⟩
   . rw [zeq] at hv
     have hk:a.key∈s.seen:=by
      by_cases z:a.key∈s.seen
      . exact z
      . rw [if_neg z] at hv; cases hv
     rw [if_pos hk] at hv
     cases hv
     have es:see s a.key=s:=by unfold see; rw [if_pos hk]
     obtain ⟨H3,ρ3,ad3,eH,eρ,ea⟩:∃ H3 ρ3 ad3,H3=H1/\ρ3=ρ/\ad3=ad:=⟨_,_,_,rfl,rfl,rfl⟩
     have h3:zai A ρ3 ad3 (see s a.key) (zaq s) H3:=by rw [es,eH,eρ,ea]; exact hh.grow s1
     have f03:Frame ρ H ρ3 H3:=by rw [eH,eρ]; exact Frame.grow s1
     have ea3:ad3 Role.hall=ad .hall:=by rw [ea]
     have edk:ad (.desk a.key)=ad3 (.desk a.key):=by rw [ea]
     rw [edk,<-eH]
     have hd:d < s.n:=R.c.lt (.inl hst)
     have sms:Sm (see s a.key):=Sm.see R h4 ht
     have hks:a.key∈(see s a.key).seen:=zb5
     have hw3:H3 pw=_:=(f03 _ _ hw row).1
     have ro3:ρ3 pw=.other:=(f03 _ _ hw row).2
     have D:=h3.desk hks
     obtain ⟨dd,hdk⟩:=D.ob
     refine ⟨_,rfl,_,dd,_,rfl,hdk,rfl,_,rfl,_,rfl,pw,_,dw,_,_,rfl,hw3,T.zaZ,T.zbm,rfl,_,_,_,_,_,d,a.wr,rfl,D,sms.hl _,sms.hn _,λ H4 m4=>⟨_,rfl,?_⟩⟩
     have h4':=h3.grow m4
     have f04:=f03.trans (Frame.grow m4)
     have hw4:=m4 _ _ hw3
     obtain ⟨dx4,hp4⟩:=h4'.hall
     have wf:=zcJ (a:=a) R hst
     have wp:=zg5 ordS (d:=d) (a:=a) R.c
     rw [<-ea3]
     cases hb:((has ((see s a.key).held a.key) d || ((see s a.key).rows a.key).isEmpty) && lets ((see s a.key).held a.key) d a.wr) with
     | true =>
      rw [hb,if_pos rfl] at wp
      rw [wp] at q wf
      refine iteT ⟨_,rfl,_,dx4,_,rfl,hp4,rfl,_,rfl,_,rfl,ρ3,ad3,_,zaq s,d,.ref pw,a,rfl,h4',sms,hd,hks,⟨pw,dw,rfl,hw4⟩,λ H5 h5 f5=>?_⟩
      obtain ⟨dx5,hp5⟩:=h5.hall
      obtain ⟨hw5,ro5⟩:=f5 _ _ hw4 ro3
      refine ⟨_,rfl,_,dx5,_,rfl,hp5,rfl,_,rfl,_,rfl,ρ3,ad3,_,zaq s,d,a,.ref pw,rfl,h5,⟨pw,dw,rfl,hw5⟩,by rw [wf.1]; exact hd,wf.2.2.2,λ H6 q6 n6 m6 e6=>q H6 ρ3 ad3 q6 ea3 (h5.grow m6) ((f04.trans f5).trans (Frame.grow m6)) e6 (h5.fr _ n6)⟩
     | false =>
      rw [hb,if_neg Bool.false_ne_true] at wp
      rw [wp] at q wf
      obtain ⟨c1,hh1,th1⟩:=zj0 ordS (λ l k=>zaV) R.c R.h R.a hst hb
      refine iteF ⟨_,rfl,_,dx4,_,rfl,hp4,rfl,_,rfl,_,rfl,ρ3,ad3,see s a.key,d,a,.ref pw,T0+1,rfl,h4',hks,⟨pw,dw,rfl,hw4⟩,hd,sms,c1,hh1,th1,Lim.wait R hst h4 ht,λ H5 ρ5 ad5 ea5 h5 f5=>?_⟩
      obtain ⟨dx5,hp5⟩:=h5.hall
      obtain ⟨hw5,ro5⟩:=f5 _ _ hw4 ro3
      rw [<-ea5]
      refine ⟨_,rfl,_,dx5,_,rfl,hp5,rfl,_,rfl,_,rfl,ρ5,ad5,_,zaq s,d,a,.ref pw,rfl,h5,⟨pw,dw,rfl,hw5⟩,?_,?_,λ H6 q6 n6 m6 e6=>q H6 ρ5 ad5 q6 (by rw [ea5,ea3]) (h5.grow m6) ((f04.trans f5).trans (Frame.grow m6)) e6 (h5.fr _ n6)⟩
      . have:=wf.1; show d < (settle ordS s.n (wait (see s a.key) d a)).n; rw [this]; exact hd
      . exact wf.2.2.2
   . rw [zeq] at hn
     have hk:a.key∉s.seen:=λ z=>by rw [if_pos z] at hn; cases hn
     have es:see s a.key={ s with seen:=s.seen++[a.key] }:=by unfold see; rw [if_neg hk]
     have epk:putK (zdO ad s.seen) (Sum.inr a.key) (V.ref x)=zdO ad s.seen++[(Sum.inr a.key,V.ref x)]:=zm0 _ (by rw [zeq,if_neg hk])
     rw [epk]
     obtain ⟨g1,g2⟩:=R.c.zeV a.key hk
     have hxd:x≠ad .zbR:=(zah hh.zbR nx).symm
     have hhd:hd≠ad .zbR:=(zah (s0 _ _ hh.zbR) nhd).symm
     have hrd:rw≠ad .zbR:=(zah (s0 _ _ hh.zbR) nrw).symm
     obtain ⟨ρ3,ad3,ea3,h3,f03,edk⟩:=hh.zsc (H':=upd H1 (ad .zbR) (.dK (zdO ad s.seen++[(Sum.inr a.key,V.ref x)]))) T.ok (k:=a.key) hk g1 g2 (p:=x) (hd:=hd) (rw:=rw) (dx:=dx2) nx (s0.free nhd) (s0.free nrw) zab (by rw [zae hxd]; exact e1) (by rw [zae hhd]; exact e2) (by rw [zae hrd]; exact e3) (λ b o e hb=>by rw [zae hb]; exact s1 b o e)
     rw [<-es] at h3
     generalize upd H1 (ad .zbR) (.dK (zdO ad s.seen++[(Sum.inr a.key,V.ref x)]))=H3 at *
     rw [<-edk]
     have hd:d < s.n:=R.c.lt (.inl hst)
     have sms:Sm (see s a.key):=Sm.see R h4 ht
     have hks:a.key∈(see s a.key).seen:=zb5
     have hw3:H3 pw=_:=(f03 _ _ hw row).1
     have ro3:ρ3 pw=.other:=(f03 _ _ hw row).2
     have D:=h3.desk hks
     obtain ⟨dd,hdk⟩:=D.ob
     refine ⟨_,rfl,_,dd,_,rfl,hdk,rfl,_,rfl,_,rfl,pw,_,dw,_,_,rfl,hw3,T.zaZ,T.zbm,rfl,_,_,_,_,_,d,a.wr,rfl,D,sms.hl _,sms.hn _,λ H4 m4=>⟨_,rfl,?_⟩⟩
     have h4':=h3.grow m4
     have f04:=f03.trans (Frame.grow m4)
     have hw4:=m4 _ _ hw3
     obtain ⟨dx4,hp4⟩:=h4'.hall
     have wf:=zcJ (a:=a) R hst
     have wp:=zg5 ordS (d:=d) (a:=a) R.c
     rw [<-ea3]
     cases hb:((has ((see s a.key).held a.key) d || ((see s a.key).rows a.key).isEmpty) && lets ((see s a.key).held a.key) d a.wr) with
     | true =>
      rw [hb,if_pos rfl] at wp
      rw [wp] at q wf
      refine iteT ⟨_,rfl,_,dx4,_,rfl,hp4,rfl,_,rfl,_,rfl,ρ3,ad3,_,zaq s,d,.ref pw,a,rfl,h4',sms,hd,hks,⟨pw,dw,rfl,hw4⟩,λ H5 h5 f5=>?_⟩
      obtain ⟨dx5,hp5⟩:=h5.hall
      obtain ⟨hw5,ro5⟩:=f5 _ _ hw4 ro3
      refine ⟨_,rfl,_,dx5,_,rfl,hp5,rfl,_,rfl,_,rfl,ρ3,ad3,_,zaq s,d,a,.ref pw,rfl,h5,⟨pw,dw,rfl,hw5⟩,by rw [wf.1]; exact hd,wf.2.2.2,λ H6 q6 n6 m6 e6=>q H6 ρ3 ad3 q6 ea3 (h5.grow m6) ((f04.trans f5).trans (Frame.grow m6)) e6 (h5.fr _ n6)⟩
     | false =>
      rw [hb,if_neg Bool.false_ne_true] at wp
      rw [wp] at q wf
      obtain ⟨c1,hh1,th1⟩:=zj0 ordS (λ l k=>zaV) R.c R.h R.a hst hb
      refine iteF ⟨_,rfl,_,dx4,_,rfl,hp4,rfl,_,rfl,_,rfl,ρ3,ad3,see s a.key,d,a,.ref pw,T0+1,rfl,h4',hks,⟨pw,dw,rfl,hw4⟩,hd,sms,c1,hh1,th1,Lim.wait R hst h4 ht,λ H5 ρ5 ad5 ea5 h5 f5=>?_⟩
      obtain ⟨dx5,hp5⟩:=h5.hall
      obtain ⟨hw5,ro5⟩:=f5 _ _ hw4 ro3
      rw [<-ea5]
      refine ⟨_,rfl,_,dx5,_,rfl,hp5,rfl,_,rfl,_,rfl,ρ5,ad5,_,zaq s,d,a,.ref pw,rfl,h5,⟨pw,dw,rfl,hw5⟩,?_,?_,λ H6 q6 n6 m6 e6=>q H6 ρ5 ad5 q6 (by rw [ea5,ea3]) (h5.grow m6) ((f04.trans f5).trans (Frame.grow m6)) e6 (h5.fr _ n6)⟩
      . have:=wf.1; show d < (settle ordS s.n (wait (see s a.key) d a)).n; rw [this]; exact hd
      . exact wf.2.2.2
end
section
variable {P:Program} {w:World} {K:PySem.W.Frag} {mg:Str->Option Value} {base:Heap} {A:Ad} {F:Fs}
theorem zkK (T:Txt K mg A F):FnOk P w K mg base (CX1 P w) 9 (F.f 36) (F.fd 36) ["self","deed","key"] (zsv A):=by
 have G_Hall_refuse_unless_going:=za3 (P:=P) (w:=w) (base:=base) T
 have G_Want_init:=zgA (P:=P) (w:=w) (base:=base) T
 have G_Hall_ask:=zhy (P:=P) (w:=w) (base:=base) T
 refine T.zmG.okX zks (λ vs H Q E h=>?_) (λ cdv A' outer s H vs Q E hr h=>?_)
 . obtain ⟨ρ,ad,s,i,k,T0,rfl,_⟩:=h
   rfl
 . obtain ⟨ρ,ad,s,i,k,T0,rfl,hh,R,ht,h4,q⟩:=h
   obtain ⟨dx,hp⟩:=hh.hall
   have hn:s.n<=1000:=by have:=R.L.n; omega
   refine ⟨_,(zac (zaJ (zax (pv 0) T.zaj T.zba G_Hall_refuse_unless_going (hr.mono (by decide)) T.zbb .nil zbG (zaa (pv 1) zad)))
     (zaf (zaw (zax (pv 0) T.zaj T.ziT G_Hall_ask (hr.mono (by decide)) T.zi8 .nil zaD (zaa (pv 1) (zaa (zoL T.zo1 G_Want_init (hr.mono (by decide)) rfl T.zrd T.zh7 .nil zaD (zaa (zcF rfl T.zpq) (zaa (pv 2) (zaa zfx zad)))) zad)))))),?_⟩
   refine ⟨_,rfl,_,dx,_,rfl,hp,rfl,_,rfl,ρ,ad,s,zaq s,i,rfl,hh,hn,?_⟩
   rcases q with ⟨d,rfl,hd,⟨hg,q⟩ | ⟨hg,q⟩⟩ | q
   rotate_left
   . exact .inl ⟨d,rfl,hd,.inr ⟨hg,q⟩⟩
   . exact .inr q
   refine .inl ⟨d,rfl,hd,.inl ⟨hg,?_⟩⟩
   refine ⟨_,rfl,_,dx,_,rfl,hp,rfl,_,rfl,_,rfl,λ x dx2 nx ndx nex=>⟨x,dx2,false,k,.non,rfl,zab,λ H1 e1 kp=>⟨rfl,?_⟩⟩⟩
   have s0:Same H (upd (upd H dx2 (.own x)) x (.ins A.zdY dx2 [])):=(Same.zas ndx).upd2 (by rw [zae nex.symm]; exact nx)
   have s1:Same H H1:=λ b o e=>kp b o (s0 b o e) (zah e nx)
   exact ⟨ρ,ad,s,d,⟨false,k,0⟩,x,dx2,T0,rfl,hh.grow s1,R,ht,h4,hg,e1,hh.fr _ nx,λ H' ρ' ad' q' a1 a2 a3 a4 a5=>q H' ρ' ad' q' a1 a2 ((Frame.grow s1).trans a3) a4 a5⟩
theorem zjv (T:Txt K mg A F):FnOk P w K mg base (CX1 P w) 9 (F.f 37) (F.fd 37) ["self","deed","key","value"] (zrw A):=by
 have G_Hall_refuse_unless_going:=za3 (P:=P) (w:=w) (base:=base) T
 have G_Want_init:=zgA (P:=P) (w:=w) (base:=base) T
 have G_Hall_ask:=zhy (P:=P) (w:=w) (base:=base) T
 refine T.zlw.okX zji (λ vs H Q E h=>?_) (λ cdv A' outer s H vs Q E hr h=>?_)
 . obtain ⟨ρ,ad,s,i,k,v,T0,rfl,_⟩:=h
   rfl
 . obtain ⟨ρ,ad,s,i,k,v,T0,rfl,hh,R,ht,h4,q⟩:=h
   obtain ⟨dx,hp⟩:=hh.hall
   have hn:s.n<=1000:=by have:=R.L.n; omega
   refine ⟨_,(zac (zaJ (zax (pv 0) T.zaj T.zba G_Hall_refuse_unless_going (hr.mono (by decide)) T.zbb .nil zbG (zaa (pv 1) zad)))
     (zaf (zaw (zax (pv 0) T.zaj T.ziT G_Hall_ask (hr.mono (by decide)) T.zi8 .nil zaD (zaa (pv 1) (zaa (zoL T.zo1 G_Want_init (hr.mono (by decide)) rfl T.zrd T.zh7 .nil zaD (zaa (zcF rfl T.zdw) (zaa (pv 2) (zaa (pv 3) zad)))) zad)))))),?_⟩
   refine ⟨_,rfl,_,dx,_,rfl,hp,rfl,_,rfl,ρ,ad,s,zaq s,i,rfl,hh,hn,?_⟩
   rcases q with ⟨d,rfl,hd,⟨hg,q⟩ | ⟨hg,q⟩⟩ | q
   rotate_left
   . exact .inl ⟨d,rfl,hd,.inr ⟨hg,q⟩⟩
   . exact .inr q
   refine .inl ⟨d,rfl,hd,.inl ⟨hg,?_⟩⟩
   refine ⟨_,rfl,_,dx,_,rfl,hp,rfl,_,rfl,_,rfl,_,rfl,λ x dx2 nx ndx nex=>⟨x,dx2,true,k,.int v,rfl,zab,λ H1 e1 kp=>⟨rfl,?_⟩⟩⟩
   have s0:Same H (upd (upd H dx2 (.own x)) x (.ins A.zdY dx2 [])):=(Same.zas ndx).upd2 (by rw [zae nex.symm]; exact nx)
   have s1:Same H H1:=λ b o e=>kp b o (s0 b o e) (zah e nx)
   exact ⟨ρ,ad,s,d,⟨true,k,v⟩,x,dx2,T0,rfl,hh.grow s1,R,ht,h4,hg,e1,hh.fr _ nx,λ H' ρ' ad' q' a1 a2 a3 a4 a5=>q H' ρ' ad' q' a1 a2 ((Frame.grow s1).trans a3) a4 a5⟩
theorem zhv (T:Txt K mg A F):FnOk P w K mg base (CX1 P w) 7 (F.f 40) (F.fd 40) ["self","deed"] (zp7 A):=by
 have G_Hall_record_of:=zbL (P:=P) (w:=w) (base:=base) T
 have G_Record_is_at_end:=zfh (P:=P) (w:=w) (base:=base) T
 have G_Hall_drop:=zgC (P:=P) (w:=w) (base:=base) T
 refine T.ziA.okX zhh (λ vs H Q E h=>?_) (λ cdv A' outer s H vs Q E hr h=>?_)
 . obtain ⟨ρ,ad,s,i,T0,rfl,_⟩:=h
   rfl
 . obtain ⟨ρ,ad,s,i,T0,rfl,hh,R,q⟩:=h
   obtain ⟨dx,hp⟩:=hh.hall
   have hn:s.n<=1000:=by have:=R.L.n; omega
   refine ⟨_,(zac (zbE (zm1 (zb8 (zax (pv 0) T.zaj T.zbW G_Hall_record_of (hr.mono (by decide)) T.zbX .nil zbG (zaa (pv 1) zad)) T.zau T.zfA G_Record_is_at_end (hr.mono (by decide)) T.zfP .nil zaD)) (zaf (zjo zho rfl rfl T.zgk T.ziF PySem.F.excBase_ValueError (zaa zaN zad))) zaO)
     (zaf (zaJ (zax (pv 0) T.zaj T.zhD G_Hall_drop (hr.mono (by decide)) T.zh9 .nil zaD (zaa (pv 1) zad))))),?_⟩
   refine ⟨_,rfl,_,dx,_,rfl,hp,rfl,_,rfl,ρ,ad,s,zaq s,i,rfl,hh,hn,?_⟩
   rcases q with ⟨d,rfl,hd,q⟩ | q
   rotate_left
   . exact .inr q
   obtain ⟨dr,w0,hrc,_⟩:=hh.rcd hd
   refine .inl ⟨d,rfl,hd,_,dr,_,rfl,hrc,rfl,_,dr,_,_,_,rfl,hrc,_,rfl,?_⟩
   rcases q with ⟨ha,q⟩ | ⟨ha,q⟩
   . refine zaW (decide_eq_false λ z=>?_) ⟨_,rfl,_,dx,_,rfl,hp,rfl,_,rfl,ρ,ad,s,d,T0,rfl,hh,R.c,R.L,R.h,ha,λ H' ρ' ad' a1 a2 a3=>q H' ρ' ad' a1 (by rw [zge ordS R.c ha]; exact a2) a3⟩
     rcases ha with ha | ha <;> rw [ha] at z <;> rcases z with z | z <;> cases z
   . refine zbx (decide_eq_true ?_) ⟨Nat.le_of_ble_eq_true rfl,q⟩
     cases e:(s.deed d).st with
     | zan=>exact absurd (.inl e) ha
     | waiting=>exact absurd (.inr e) ha
     | kept=>exact .inl rfl
     | dropped=>exact .inr rfl
theorem zf7 (T:Txt K mg A F):FnOk P w K mg base (CX1 P w) 3 (F.f 49) (F.fd 49) ["self"] (znE A):=by
 have G_rising_pairs:=zef (P:=P) (w:=w) (base:=base) T
 refine T.zgX.okN zfT (λ vs H Q E h=>?_) (λ cdv A' outer s H vs Q E hr h=>?_)
 . obtain ⟨ρ,ad,s,kv,rfl,_⟩:=h
   rfl
 . obtain ⟨ρ,ad,s,kv,rfl,hh,h4,nd,hk,q⟩:=h
   obtain ⟨dx,hp⟩:=hh.hall
   obtain ⟨l,hl,hb⟩:=hh.zc1
   refine ⟨_,(zaf (zaw (zaP G_rising_pairs (hr.mono (by decide)) rfl T.zeO T.zeN T.zeQ .nil zaD (zaa (zao (pv 0) rfl) zad)))),?_⟩
   refine ⟨_,rfl,_,_,dx,_,_,rfl,hp,T.zaj,T.za5,rfl,_,l,kv,rfl,hl,hb,Nat.le_trans (hb.len nd hk) h4,λ H' q' us m e t=>q H' q' us (l.map (·.1)) m e (λ k=>?_) t⟩
   constructor
   . intro h
     obtain ⟨p,hp,rfl⟩:=List.mem_map.mp h
     rw [(hb.mem p.1 p.2).mp hp]; exact λ z=>nomatch z
   . intro h
     cases e:kv k with
     | none=>exact absurd e h
     | some v=>exact List.mem_map.mpr ⟨(k,v),(hb.mem k v).mpr e,rfl⟩
theorem zjw (T:Txt K mg A F):FnOk P w K mg base (CX1 P w) 1 (F.f 50) (F.fd 50) ["self"] (zrx A):=by
 refine T.zlx.okN zjj (λ vs H Q E h=>?_) (λ cdv A' outer s H vs Q E hr h=>?_)
 . obtain ⟨ρ,ad,s,kv,rfl,_⟩:=h
   rfl
 . obtain ⟨ρ,ad,s,kv,rfl,hh,hl,q⟩:=h
   obtain ⟨dx,hp⟩:=hh.hall
   refine ⟨_,(zaf (zaw (zbF zbO (by rfl) T.zf8 boot_tuple (zaa (zao (pv 0) rfl) zad)))),?_⟩
   refine ⟨_,rfl,_,_,dx,_,_,rfl,hp,T.zaj,T.zca,rfl,ad .order,_,rfl,.inl ⟨SqL.of hh.order,λ n nn=>q _ n (Same.zas nn) zab⟩⟩
theorem zeh (T:Txt K mg A F):FnOk P w K mg base (CX1 P w) 3 (F.f 46) (F.fd 46) ["self","deed"] (zp8 A):=by
 have G_Hall_record_of:=zbL (P:=P) (w:=w) (base:=base) T
 refine T.ziB.okX zhi (λ vs H Q E h=>?_) (λ cdv A' outer s H vs Q E hr h=>?_)
 . obtain ⟨ρ,ad,s,kv,i,rfl,_⟩:=h
   rfl
 . obtain ⟨ρ,ad,s,kv,i,rfl,hh,hn,hl,q⟩:=h
   obtain ⟨dx,hp⟩:=hh.hall
   refine ⟨_,(zaf (zaw (zbF zbO (by rfl) T.zf8 boot_tuple (zaa (zao (zax (pv 0) T.zaj T.zbW G_Hall_record_of (hr.mono (by decide)) T.zbX .nil zbG (zaa (pv 1) zad)) rfl) zad)))),?_⟩
   refine ⟨_,rfl,_,dx,_,rfl,hp,rfl,_,rfl,ρ,ad,s,kv,i,rfl,hh,hn,?_⟩
   rcases q with ⟨d,rfl,hd,q⟩ | q
   rotate_left
   . exact .inr q
   obtain ⟨dr,w0,hrc,_⟩:=hh.rcd hd
   obtain ⟨us,hus,tus⟩:=hh.did hd
   exact .inl ⟨d,rfl,hd,_,_,dr,_,_,rfl,hrc,T.zau,T.zbd,rfl,ad (.did d),_,rfl,.inl ⟨SqL.of hus,λ n nn=>q _ n us (Same.zas nn) zab (zbr (Same.zas nn) tus)⟩⟩
end
section
variable {P:Program} {w:World} {K:PySem.W.Frag} {mg:Str->Option Value} {base:Heap} {A:Ad} {F:Fs}
theorem zgB (T:Txt K mg A F):FnOk P w K mg base (CX1 P w) 6 (F.f 38) (F.fd 38) ["self","deed"] (zsy A):=by
 have G_Hall_refuse_unless_going:=za3 (P:=P) (w:=w) (base:=base) T
 have G_Record_written:=zdq (P:=P) (w:=w) (base:=base) T
 have G_Hall_end:=zhw (P:=P) (w:=w) (base:=base) T
 refine T.zmH.okX zd7 (λ vs H Q E h=>?_) (λ cdv A' outer s H vs Q E hr h=>?_)
 . obtain ⟨ρ,ad,s,i,T0,rfl,_⟩:=h
   rfl
 . obtain ⟨ρ,ad,s,i,T0,rfl,hh,R,q⟩:=h
   have hu:=zdW hr
   obtain ⟨dx,hp⟩:=hh.hall
   have hn:s.n<=1000:=by have:=R.L.n; omega
   have sm:=R.L.sm R.c
   obtain ⟨us,hus,tus⟩:=hh.rows
   have hul:us.length=s.log.length:=by rw [tus.length,List.length_map]
   refine ⟨_,(zac (zaJ (zax (pv 0) T.zaj T.zba G_Hall_refuse_unless_going (hr.mono (by decide)) T.zbb .nil zbG (zaa (pv 1) zad)))
     (zac (zaJ (zee PySem.F.plainAttrs_list PySem.F.slot_list_append PySem.F.type_list_append zbs (zao (pv 0) rfl) (zaa (zbA (zaa (zcF rfl T.zs5) (zaa (pv 1) zad))) zad)))
     (zac (zaJ (zee PySem.F.plainAttrs_list PySem.F.slot_list_append PySem.F.type_list_append zbs (zao (pv 0) rfl) (zaa (pv 1) zad)))
     (zac (PS.nox (zdn PassesOwn.never rfl (zdg (zb8 (zaY zbp (zao (pv 0) rfl) (pv 1) (λ _ _=>rfl)) T.zau T.zdK G_Record_written (hr.mono (by decide)) T.zdQ .nil zaD)) (zm2 (n:=2) rfl (zbJ (zaL (i:=2) zd7.nd rfl (by walk_at "loc")) (zbJ (zaL (i:=3) zd7.nd rfl (by walk_at "loc")) zhr))) (zaf (zfc hu (zao (pv 0) rfl) (pv 2) (pv 3) rfl))))
     (zaf (zaJ (zax (pv 0) T.zaj T.ziS G_Hall_end (hr.mono (by decide)) T.zi7 .nil zaD (zaa (pv 1) (zaa (zcF rfl T.zre) zad))))))))),?_⟩
   refine ⟨_,rfl,_,dx,_,rfl,hp,rfl,_,rfl,ρ,ad,s,zaq s,i,rfl,hh,hn,?_⟩
   rcases q with ⟨d,rfl,hd,⟨hg,q⟩ | ⟨hg,q⟩⟩ | q
   rotate_left
   . exact .inl ⟨d,rfl,hd,.inr ⟨hg,q⟩⟩
   . exact .inr q
   refine .inl ⟨d,rfl,hd,.inl ⟨hg,?_⟩⟩
   have hact:(s.deed d).act:=.inl hg
   refine ⟨_,rfl,_,_,dx,_,_,rfl,hp,T.zaj,T.zb2,rfl,.inl ⟨rfl,_,SqL.of hus⟩,_,rfl,by show 2<=sizeLine; rw [sizeLine_eq]; decide,λ n nn=>⟨ad .rows,_,_,rfl,rfl,zav hus nn,by have:=sm.lg; rw [hul,sizeLine_eq]; omega,?_⟩⟩
   have h3:=hh.grow (H':=upd H n (.tup [V.str "keep",V.int (d:Int)])) (Same.zas nn)
   obtain ⟨h4,f4⟩:=h3.znu (H':=upd (upd H n (.tup [V.str "keep",V.int (d:Int)])) (ad .rows) (.lst (us++[.ref n]))) T.ok (row:=.keep d) (zav hus nn) zab (λ b o e hb=>by rw [zae hb]; exact e) ⟨n,rfl,by rw [zae (zah hus nn).symm,zab]; rfl⟩
   have f04:=(Frame.grow (ρ:=ρ) (Same.zas (o:=.tup [V.str "keep",V.int (d:Int)]) nn)).trans f4
   show tSeq _ _ _ _ (upd (upd H n (.tup [V.str "keep",V.int (d:Int)])) (ad .rows) (.lst (us++[.ref n])))
   generalize upd (upd H n (.tup [V.str "keep",V.int (d:Int)])) (ad .rows) (.lst (us++[.ref n]))=H4 at *
   obtain ⟨dx4,hp4⟩:=h4.hall
   have ho4:H4 (ad .order)=some (.lst (zaC s.kept)):=h4.order
   have hlk:(zaC s.kept).length<=1000:=by unfold zaC; rw [List.length_map]; exact sm.kp
   refine ⟨_,rfl,_,_,dx4,_,_,rfl,hp4,T.zaj,T.zca,rfl,.inl ⟨rfl,_,SqL.of ho4⟩,_,rfl,ad .order,_,_,rfl,rfl,ho4,by rw [sizeLine_eq]; omega,?_⟩
   obtain ⟨h5,f5⟩:=h4.zqS (H':=upd H4 (ad .order) (.lst (zaC s.kept++[V.int (d:Int)]))) T.ok (d:=d) zab (λ b o e hb=>by rw [zae hb]; exact e)
   have f05:=f04.trans f5
   show tSeq _ _ _ _ (upd H4 (ad .order) (.lst (zaC s.kept++[V.int (d:Int)])))
   generalize upd H4 (ad .order) (.lst (zaC s.kept++[V.int (d:Int)]))=H5 at *
   obtain ⟨dx5,hp5⟩:=h5.hall
   obtain ⟨wv,ra,_⟩:=h5.recAt hd
   obtain ⟨dr,hrc⟩:=ra.ob
   refine ⟨_,rfl,_,_,dx5,_,_,rfl,hp5,T.zaj,T.zaz,rfl,_,rfl,_,_,_,_,rfl,rfl,SqL.of h5.recs,zbq (h5.zfw hd),_,dr,_,rfl,hrc,rfl,_,_,_,_,_,rfl,ra,by show (s.deed d).done.length < 3000; have:=sm.dn d; omega,λ H1 ql vs m1 hq tu=>⟨ql,rfl,⟨_,SqL.of hq⟩,?_⟩⟩
   have tu:zap H1 vs ((zat (s.deed d).done).map ziG):=tu
   have hvl:vs.length=(zat (s.deed d).done).length:=by rw [tu.length,List.length_map]
   refine zeC (xs:=vs) (λ i σ H2=>∃ v2 v3,σ=[some (.ref (ad .hall)),some (.int d),v2,v3]/\zai A ρ ad { s with log:=s.log++[.keep d],kept:=s.kept++[d] } (wb (zaq s) ((zat (s.deed d).done).take i)) H2/\Frame ρ H ρ H2/\H2 ql=some (.lst vs)/\zap H2 vs ((zat (s.deed d).done).map ziG)) ⟨_,_,rfl,h5.grow m1,f05.trans (Frame.grow m1),hq,tu⟩ (λ i σ H2 _ ⟨_,_,_,_,_,e,_⟩=>SqL.of e) ?_ ?_
   . rintro i x σ H2 hx ⟨v2,v3,rfl,h2,f2,hq2,t2⟩
     obtain ⟨y,hy1,r,rfl,hr1⟩:=zcE t2 hx
     rw [List.getElem?_map] at hy1
     obtain ⟨⟨k,v⟩,ha,rfl⟩:=Option.map_eq_some_iff.mp hy1
     have e1:(zat (s.deed d).done).take (i+1)=(zat (s.deed d).done).take i++[(k,v)]:=by rw [List.take_add_one,ha]; rfl
     obtain ⟨dx2,hp2⟩:=h2.hall
     obtain ⟨lk,hlk,hbk⟩:=h2.zc1
     have hll:lk.length<=4:=Nat.le_trans (hbk.len sm.snd λ j hj=>by
      rcases zok hj with hj | hj
      . exact R.L.e.zo7 j hj
      . refine zlA R.L.e (d:=d) ?_
        obtain ⟨p,hp,rfl⟩:=List.mem_map.mp hj
        exact List.mem_map.mpr ⟨p,List.mem_of_mem_take hp,rfl⟩) sm.seen
     refine ⟨r,_,rfl,SqT.of hr1,rfl,_,_,rfl,_,_,rfl,rfl,?_⟩
     refine ⟨_,rfl,_,rfl,_,_,dx2,_,_,rfl,hp2,T.zaj,T.za5,rfl,_,rfl,_,_,rfl,DPut.k (k:=Sum.inr k) hlk (by rw [zh6,sizeLine_eq]; omega),?_⟩
     rw [zjU]
     have kp3:zcw H2 (ad .zc1) (upd H2 (ad .zc1) (.dK (bkV (bput lk k v)))):=λ b o e hb=>by rw [zae hb]; exact e
     obtain ⟨h3,f3⟩:=h2.zqc T.ok zab kp3 (hbk.put k v)
     refine ⟨_,_,rfl,?_,f2.trans f3,kp3 _ _ hq2 (zbh hq2 hlk (λ z=>nomatch z)),zap.mono (Imm.zfl T.ok h2 (r:=.zc1) trivial kp3) t2⟩
     rw [e1,zrk]; exact h3
   . rintro σ H2 ⟨v2,v3,rfl,h2,f2,_⟩
     rw [hvl,List.take_length,zlB] at h2
     obtain ⟨dx2,hp2⟩:=h2.hall
     refine ⟨_,rfl,_,dx2,_,rfl,hp2,rfl,_,rfl,ρ,ad,_,s,_,d,.kept,T0,rfl,h2,R.c,R.L,R.h,rfl,rfl,rfl,rfl,rfl,R.c.keeps hact,R.L.keeps R.c hact,by decide,hd,λ H6 ρ6 ad6 ea6 h6 f6=>q H6 ρ6 ad6 ea6 ?_ (f2.trans f6)⟩
     rw [znW ordS R.c hact]; exact h6
end
section
variable {P:Program} {w:World} {K:PySem.W.Frag} {mg:Str->Option Value} {base:Heap} {A:Ad} {F:Fs}
theorem zfg (T:Txt K mg A F):FnOk P w K mg base (CX1 P w) 1 (F.f 1) (F.fd 1) ["_law_cell_here","_law_prime","_law_many"] ztw:=by
 refine T.zod.okN zlM (λ vs H Q E h=>?_) (λ cdv A' outer s H vs Q E hr h=>?_)
 . obtain ⟨c,p,m,rfl,_⟩:=h
   rfl
 . obtain ⟨c,p,m,rfl,hp,hm,q⟩:=h
   refine ⟨_,(zaf (zaw (zcZ zkE (zcZ zkE (zcZ zkD (pv 0) zal) (pv 1)) (pv 2)))),?_⟩
   exact ⟨_,rfl,_,_,rfl,rfl,.inr ⟨by decide,by decide⟩,_,rfl,_,_,rfl,rfl,hp,_,rfl,_,_,rfl,rfl,hm,q⟩
theorem zeg (T:Txt K mg A F):FnOk P w K mg base (CX1 P w) 1 (F.f 2) (F.fd 2) ["_law_script","_law_k"] (zsA K):=by
 refine T.zmA.okN zkp (λ vs H Q E h=>?_) (λ cdv A' outer s H vs Q E hr h=>?_)
 . obtain ⟨a,ns,k,rfl,_⟩:=h
   rfl
 . obtain ⟨a,ns,k,rfl,hS,q⟩:=h
   refine ⟨_,(zac (zbE (zaB zlS (pv 1) (zbK zbk (by rfl) T.zkS PySem.boot_len (zaa (pv 0) zad)) (zaE _)) (zaf (zaw (zaY zbp (pv 0) (pv 1) (λ _ _=>rfl)))) zaO)
     (zaf (zaw zal))),?_⟩
   refine ⟨_,rfl,_,rfl,a,_,rfl,.inl hS,_,_,rfl,rfl,_,rfl,?_⟩
   rw [List.length_map]
   by_cases h:k < ns.length
   . refine zbx (decide_eq_true (by omega)) ⟨_,rfl,_,rfl,a,_,_,_,rfl,rfl,hS,zbq (by rw [List.getElem?_map,List.getElem?_eq_getElem h]; rfl),?_⟩
     have:za2 ns k=ns[k]:=by unfold za2; rw [List.getD_eq_getElem?_getD,List.getElem?_eq_getElem h]; rfl
     rw [this] at q; exact q
   . refine zaW (decide_eq_false (by omega)) ?_
     have:za2 ns k=0:=by unfold za2; rw [List.getD_eq_getElem?_getD,List.getElem?_eq_none (by omega)]; rfl
     rw [this] at q; exact q
theorem zin (T:Txt K mg A F):FnOk P w K mg base (CX1 P w) 2 (F.f 3) (F.fd 3) ["_law_script","_law_k"] spNo :=
 T.zgu.okN zbl (λ vs H Q E h=>h.elim) (λ cdv A' outer s H vs Q E hr h=>h.elim)
theorem zkF (T:Txt K mg A F):FnOk P w K mg base (CX1 P w) 3 (F.f 3) (F.fd 3) ["_law_script","_law_k"] (zsx K):=by
 have G__law_mix:=zfg (P:=P) (w:=w) (base:=base) T
 have G__law_cell:=zeg (P:=P) (w:=w) (base:=base) T
 have G__law_key:=zin (P:=P) (w:=w) (base:=base) T
 refine T.zgu.okN zbl (λ vs H Q E h=>?_) (λ cdv A' outer s H vs Q E hr h=>?_)
 . obtain ⟨a,ns,k,rfl,_⟩:=h
   rfl
 . obtain ⟨a,ns,k,rfl,hS,hk,q⟩:=h
   refine ⟨_,(zac (zaM (i:=2) zbl.nd rfl (by walk_at "loc") zaN)
     (zac (zaM (i:=3) zbl.nd rfl (by walk_at "loc") (zcZ zhu (zaP G__law_cell (hr.mono (by decide)) rfl T.zcq T.zcp T.zcr .nil zaD (zaa (pv 0) (zaa zal zad))) (zcZ zkD zal (pv 1))))
     (zac (zaM (i:=4) zbl.nd rfl (by walk_at "loc") (zee PySem.F.plainAttrs_str PySem.F.slot_str_join PySem.F.type_str_join zoZ zaN (zaa (zfe 1 [2,3] ["_law_j","_law_letters","_law_seed"] rfl (by walk_at "blk") (zdo rfl T.zf9 (zaa (zaP G__law_mix (hr.mono (by decide)) rfl T.zbN T.zbM T.zbP .nil zaD (zaa (pv 3) (zaa zal (zaa zal zad)))) zad)) (λ C fp s H=>(zaL (i:=0) (show (["_law_j","_law_letters","_law_seed"]:List Str).Nodup by decide +kernel) rfl (by walk_at "loc"))) (λ C fp s H=>zjn) (λ C fp s H=>(zaY zni (pv 1) (zaP G__law_mix (hr.mono (by decide)) rfl T.zbN T.zbM T.zbP .nil zaD (zaa (zcZ zhu (pv 2) (zcZ zkD zal (pv 0))) (zaa zal (zaa zal zad)))) (λ _ _=>rfl)))) zad)))
     (zac (zbE (PW.pt (zmZ (zaB zch (pv 1) zal (zaE _)) (zjm (zaB zch (zcZ zkE (zaP G__law_cell (hr.mono (by decide)) rfl T.zcq T.zcp T.zcr .nil zaD (zaa (pv 0) (zaa zal zad))) zal) zal (zaE _))))) (zaf (zaw (zaY zbp (zdp (zaa zaN (zaa zaN zad))) (zbF zfN (by rfl) T.zoY boot_int (zaa (zcR zch (zaP G__law_key (hr.mono (by decide)) rfl T.zgj T.zgf T.zgq .nil zaD (zaa (pv 0) (zaa zal zad))) zaN (zaE _)) zad)) (λ _ _=>rfl)))) zaO)
     (zaf (zaw (zcZ ziN (zaY zni zaN (pv 1) (λ _ _=>rfl)) (pv 4)))))))),?_⟩
   refine ⟨_,rfl,a,ns,0,rfl,hS,_,rfl,_,_,rfl,rfl,.inl ⟨by decide,by decide⟩,_,_,rfl,rfl,?_⟩
   obtain ⟨t0,t1⟩:=ziQ (c:=za2 ns 0+7 * (k:Int)) (p:=9967) (m:=4) (by decide)
   refine ⟨rfl,_,rfl,_,_,_,rfl,by decide,by decide,_,rfl,by omega,by omega,?_⟩
   refine zgo (λ i ys σ H2=>∃ v0,σ=[v0,some (.str abc),some (.int (za2 ns 0+7 * (k:Int)))]/\H2=H/\ys=((List.range i).map λ (j:Nat)=>pick abc (mixF (za2 ns 0+7 * (k:Int)+5 * (j:Int)) 9973 26).toNat).map V.str) ⟨none,rfl,rfl,rfl⟩ (λ i ys σ H2 ⟨_,_,_,e⟩=>by rw [e,List.length_map,List.length_map,List.length_range]; exact Nat.le_refl _) (by rw [sizeLine_eq]; omega) ?_ ?_
   . rintro i ys σ H2 hlt ⟨v0,rfl,rfl,rfl⟩
     obtain ⟨u0,u1⟩:=ziQ (c:=za2 ns 0+7 * (k:Int)+5 * (0+(i:Int))) (p:=9973) (m:=26) (by decide)
     have hsz:abc.cps.size=26:=by decide +kernel
     obtain ⟨c,hc,hp⟩:=zjr (l:=abc) (i:=(mixF (za2 ns 0+7 * (k:Int)+5 * (0+(i:Int))) 9973 26).toNat) (by rw [hsz]; omega)
     rw [show (((mixF (za2 ns 0+7 * (k:Int)+5 * (0+(i:Int))) 9973 26).toNat:Nat):Int)=mixF (za2 ns 0+7 * (k:Int)+5 * (0+(i:Int))) 9973 26 by omega] at hc
     refine ⟨_,rfl,_,rfl,_,rfl,_,_,rfl,rfl,.inl ⟨by decide,by decide⟩,_,_,rfl,rfl,_,_,_,rfl,by decide,by decide,_,_,c,rfl,rfl,by show abc.cps.size<=sizeLine; rw [hsz,sizeLine_eq]; decide,hc,nx hlt ⟨_,rfl,rfl,?_⟩⟩
     rw [List.range_succ,List.map_append,List.map_append]
     rw [show (0+(i:Int))=(i:Int) by omega] at hp
     rw [<-hp]; rfl
   rintro ys σ H2 ⟨v0,rfl,rfl,rfl⟩
   intro pt nt
   refine ⟨_,pt,zdy (za2 ns 0+7 * (k:Int)),rfl,rfl,zab,?_,?_⟩
   . rw [znh]
     have h3:=zg0 (za2 ns 0+7 * (k:Int))
     omega
   have s1:Same H2 (upd H2 pt (.lst ((zdy (za2 ns 0+7 * (k:Int))).map V.str))):=Same.zas nt
   show tSeq _ _ _ _ (upd H2 pt (.lst ((zdy (za2 ns 0+7 * (k:Int))).map V.str)))
   generalize upd H2 pt (.lst ((zdy (za2 ns 0+7 * (k:Int))).map V.str))=H3 at *
   have last:∀ kf:Str,kf=zhN ns k->(∀ H',Same H2 H'->Q (.str kf) H')->tRet (tOp (λ x y H Q=>∃ i j,x=.str i/\y=.str j/\i.length+j.length<=sizeLine/\Q (.str (i++j)) H) (tOp rIxS (tC (.str "qrst")) (tVar 1)) (tVar 4)) { nx:=λ _ H'=>Q .non H',rt:=Q } [some (.ref a),some (.int k),some (.str "abcdefghijklmnopqrstuvwxyz"),some (.int (za2 ns 0+7 * (k:Int))),some (.str (Txt.join "" (zdy (za2 ns 0+7 * (k:Int)))))] H3:=λ kf ek q=>by
     have hsz:("qrst" : Str).cps.size=4:=by decide +kernel
     obtain ⟨c,hc,hp⟩:=zjr (l := "qrst") (i:=k) (by rw [hsz]; omega)
     refine ⟨_,rfl,_,_,c,rfl,rfl,by show ("qrst" : Str).cps.size<=sizeLine; rw [hsz,sizeLine_eq]; decide,hc,_,rfl,_,_,rfl,rfl,?_,?_⟩
     . have h3:=zg0 (za2 ns 0+7 * (k:Int))
       have h4:=zk5 (zdy (za2 ns 0+7 * (k:Int)))
       have h5:(⟨#[c]⟩:Str).length=1:=rfl
       rw [sizeLine_eq]; omega
     . have:=q H3 s1
       rw [ek] at this
       unfold zhN at this
       rw [hp] at this
       exact this
   refine ⟨_,rfl,rfl,_,rfl,?_⟩
   refine zaW (decide_eq_false λ z=>by have:=V.int.inj z; omega) (last _ rfl q)
theorem zlV (T:Txt K mg A F):FnOk P w K mg base (CX1 P w) 4 (F.f 3) (F.fd 3) ["_law_script","_law_k"] (zty K):=by
 have G__law_mix:=zfg (P:=P) (w:=w) (base:=base) T
 have G__law_cell:=zeg (P:=P) (w:=w) (base:=base) T
 have G__law_key:=zkF (P:=P) (w:=w) (base:=base) T
 refine T.zgu.okN zbl (λ vs H Q E h=>?_) (λ cdv A' outer s H vs Q E hr h=>?_)
 . obtain ⟨a,ns,k,rfl,_⟩:=h
   rfl
 . obtain ⟨a,ns,k,rfl,hS,hk,q⟩:=h
   refine ⟨_,(zac (zaM (i:=2) zbl.nd rfl (by walk_at "loc") zaN)
     (zac (zaM (i:=3) zbl.nd rfl (by walk_at "loc") (zcZ zhu (zaP G__law_cell (hr.mono (by decide)) rfl T.zcq T.zcp T.zcr .nil zaD (zaa (pv 0) (zaa zal zad))) (zcZ zkD zal (pv 1))))
     (zac (zaM (i:=4) zbl.nd rfl (by walk_at "loc") (zee PySem.F.plainAttrs_str PySem.F.slot_str_join PySem.F.type_str_join zoZ zaN (zaa (zfe 1 [2,3] ["_law_j","_law_letters","_law_seed"] rfl (by walk_at "blk") (zdo rfl T.zf9 (zaa (zaP G__law_mix (hr.mono (by decide)) rfl T.zbN T.zbM T.zbP .nil zaD (zaa (pv 3) (zaa zal (zaa zal zad)))) zad)) (λ C fp s H=>(zaL (i:=0) (show (["_law_j","_law_letters","_law_seed"]:List Str).Nodup by decide +kernel) rfl (by walk_at "loc"))) (λ C fp s H=>zjn) (λ C fp s H=>(zaY zni (pv 1) (zaP G__law_mix (hr.mono (by decide)) rfl T.zbN T.zbM T.zbP .nil zaD (zaa (zcZ zhu (pv 2) (zcZ zkD zal (pv 0))) (zaa zal (zaa zal zad)))) (λ _ _=>rfl)))) zad)))
     (zac (zbE (PW.pt (zmZ (zaB zch (pv 1) zal (zaE _)) (zjm (zaB zch (zcZ zkE (zaP G__law_cell (hr.mono (by decide)) rfl T.zcq T.zcp T.zcr .nil zaD (zaa (pv 0) (zaa zal zad))) zal) zal (zaE _))))) (zaf (zaw (zaY zbp (zdp (zaa zaN (zaa zaN zad))) (zbF zfN (by rfl) T.zoY boot_int (zaa (zcR zch (zaP G__law_key (hr.mono (by decide)) rfl T.zgj T.zgf T.zgq .nil zaD (zaa (pv 0) (zaa zal zad))) zaN (zaE _)) zad)) (λ _ _=>rfl)))) zaO)
     (zaf (zaw (zcZ ziN (zaY zni zaN (pv 1) (λ _ _=>rfl)) (pv 4)))))))),?_⟩
   refine ⟨_,rfl,a,ns,0,rfl,hS,_,rfl,_,_,rfl,rfl,.inl ⟨by decide,by decide⟩,_,_,rfl,rfl,?_⟩
   obtain ⟨t0,t1⟩:=ziQ (c:=za2 ns 0+7 * (k:Int)) (p:=9967) (m:=4) (by decide)
   refine ⟨rfl,_,rfl,_,_,_,rfl,by decide,by decide,_,rfl,by omega,by omega,?_⟩
   refine zgo (λ i ys σ H2=>∃ v0,σ=[v0,some (.str abc),some (.int (za2 ns 0+7 * (k:Int)))]/\H2=H/\ys=((List.range i).map λ (j:Nat)=>pick abc (mixF (za2 ns 0+7 * (k:Int)+5 * (j:Int)) 9973 26).toNat).map V.str) ⟨none,rfl,rfl,rfl⟩ (λ i ys σ H2 ⟨_,_,_,e⟩=>by rw [e,List.length_map,List.length_map,List.length_range]; exact Nat.le_refl _) (by rw [sizeLine_eq]; omega) ?_ ?_
   . rintro i ys σ H2 hlt ⟨v0,rfl,rfl,rfl⟩
     obtain ⟨u0,u1⟩:=ziQ (c:=za2 ns 0+7 * (k:Int)+5 * (0+(i:Int))) (p:=9973) (m:=26) (by decide)
     have hsz:abc.cps.size=26:=by decide +kernel
     obtain ⟨c,hc,hp⟩:=zjr (l:=abc) (i:=(mixF (za2 ns 0+7 * (k:Int)+5 * (0+(i:Int))) 9973 26).toNat) (by rw [hsz]; omega)
     rw [show (((mixF (za2 ns 0+7 * (k:Int)+5 * (0+(i:Int))) 9973 26).toNat:Nat):Int)=mixF (za2 ns 0+7 * (k:Int)+5 * (0+(i:Int))) 9973 26 by omega] at hc
     refine ⟨_,rfl,_,rfl,_,rfl,_,_,rfl,rfl,.inl ⟨by decide,by decide⟩,_,_,rfl,rfl,_,_,_,rfl,by decide,by decide,_,_,c,rfl,rfl,by show abc.cps.size<=sizeLine; rw [hsz,sizeLine_eq]; decide,hc,nx hlt ⟨_,rfl,rfl,?_⟩⟩
     rw [List.range_succ,List.map_append,List.map_append]
     rw [show (0+(i:Int))=(i:Int) by omega] at hp
     rw [<-hp]; rfl
   rintro ys σ H2 ⟨v0,rfl,rfl,rfl⟩
   intro pt nt
   refine ⟨_,pt,zdy (za2 ns 0+7 * (k:Int)),rfl,rfl,zab,?_,?_⟩
   . rw [znh]
     have h3:=zg0 (za2 ns 0+7 * (k:Int))
     omega
   have s1:Same H2 (upd H2 pt (.lst ((zdy (za2 ns 0+7 * (k:Int))).map V.str))):=Same.zas nt
   show tSeq _ _ _ _ (upd H2 pt (.lst ((zdy (za2 ns 0+7 * (k:Int))).map V.str)))
   generalize upd H2 pt (.lst ((zdy (za2 ns 0+7 * (k:Int))).map V.str))=H3 at *
   have last:∀ kf:Str,kf=zhN ns k->(∀ H',Same H2 H'->Q (.str kf) H')->tRet (tOp (λ x y H Q=>∃ i j,x=.str i/\y=.str j/\i.length+j.length<=sizeLine/\Q (.str (i++j)) H) (tOp rIxS (tC (.str "qrst")) (tVar 1)) (tVar 4)) { nx:=λ _ H'=>Q .non H',rt:=Q } [some (.ref a),some (.int k),some (.str "abcdefghijklmnopqrstuvwxyz"),some (.int (za2 ns 0+7 * (k:Int))),some (.str (Txt.join "" (zdy (za2 ns 0+7 * (k:Int)))))] H3:=λ kf ek q=>by
     have hsz:("qrst" : Str).cps.size=4:=by decide +kernel
     obtain ⟨c,hc,hp⟩:=zjr (l := "qrst") (i:=k) (by rw [hsz]; omega)
     refine ⟨_,rfl,_,_,c,rfl,rfl,by show ("qrst" : Str).cps.size<=sizeLine; rw [hsz,sizeLine_eq]; decide,hc,_,rfl,_,_,rfl,rfl,?_,?_⟩
     . have h3:=zg0 (za2 ns 0+7 * (k:Int))
       have h4:=zk5 (zdy (za2 ns 0+7 * (k:Int)))
       have h5:(⟨#[c]⟩:Str).length=1:=rfl
       rw [sizeLine_eq]; omega
     . have:=q H3 s1
       rw [ek] at this
       unfold zhN at this
       rw [hp] at this
       exact this
   refine ⟨_,rfl,rfl,_,rfl,?_⟩
   by_cases h3:k=3
   rotate_left
   . refine zaW (decide_eq_false λ z=>by have:=V.int.inj z; omega) (last _ ?_ q)
     unfold keyF; rw [if_neg λ z=>h3 z.1]
   refine zbx (decide_eq_true (by rw [h3]; rfl)) ?_
   refine ⟨_,rfl,a,ns,0,rfl,s1.seq hS,_,_,rfl,rfl,(by show (0:Int) < 2; decide),rfl,_,rfl,?_⟩
   by_cases h2:za2 ns 0 % 2=0
   rotate_left
   . refine zaW (decide_eq_false λ z=>h2 (V.int.inj z)) (last _ ?_ q)
     unfold keyF; rw [if_neg λ z=>h2 z.2]
   refine zbx (decide_eq_true (show V.int (za2 ns 0 % 2)=V.int 0 by rw [h2])) ?_
   refine ⟨by show 2<=sizeLine; rw [sizeLine_eq]; decide,λ l hl=>?_⟩
   have s2:Same H2 (upd H3 l (.lst [V.str "q",V.str "qa"])):=s1.upd2 hl
   refine ⟨_,rfl,a,ns,0,rfl,s2.seq hS,by decide,λ H5 s5=>⟨rfl,.inr ⟨_,rfl,?_⟩⟩⟩
   have hl5:=s5 _ _ (zab (H:=H3) (a:=l) (o:=.lst [V.str "q",V.str "qa"]))
   have q5:=q H5 (s2.trans s5)
   unfold keyF at q5
   rw [if_pos ⟨h3,h2⟩] at q5
   by_cases hq:zhN ns 0 = "q"
   . rw [if_pos hq] at q5
     rw [decide_eq_true (show V.str (zhN ns 0)=V.str "q" by rw [hq])]
     exact ⟨l,_,_,_,rfl,rfl,SqL.of hl5,zbq (xs:=[V.str "q",V.str "qa"]) (j:=1) rfl,q5⟩
   . rw [if_neg hq] at q5
     rw [decide_eq_false (show ¬ V.str (zhN ns 0)=V.str "q" from λ z=>hq (V.str.inj z))]
     exact ⟨l,_,_,_,rfl,rfl,SqL.of hl5,zbq (xs:=[V.str "q",V.str "qa"]) (j:=0) rfl,q5⟩
end
section
variable {P:Program} {w:World} {K:PySem.W.Frag} {mg:Str->Option Value} {base:Heap} {A:Ad} {F:Fs}
theorem zlW (T:Txt K mg A F):FnOk P w K mg base (CX1 P w) 5 (F.f 4) (F.fd 4) ["_law_script","_law_cell_here","_law_begun"] (ztB K):=by
 have G__law_mix:=zfg (P:=P) (w:=w) (base:=base) T
 have G__law_cell:=zeg (P:=P) (w:=w) (base:=base) T
 have G__law_key:=zlV (P:=P) (w:=w) (base:=base) T
 refine T.zoe.okN zcL (λ vs H Q E h=>?_) (λ cdv A' outer s H vs Q E hr h=>?_)
 . obtain ⟨a,ns,c,b,rfl,_⟩:=h
   rfl
 . obtain ⟨a,ns,c,b,rfl,hS,hb,q⟩:=h
   refine ⟨_,(zac (zaM (i:=3) zcL.nd rfl (by walk_at "loc") (zaP G__law_mix (hr.mono (by decide)) rfl T.zbN T.zbM T.zbP .nil zaD (zaa (pv 1) (zaa zal (zaa (pv 2) zad)))))
     (zac (zaM (i:=4) zcL.nd rfl (by walk_at "loc") (zaP G__law_key (hr.mono (by decide)) rfl T.zgj T.zgf T.zgq .nil zaD (zaa (pv 0) (zaa (zaP G__law_mix (hr.mono (by decide)) rfl T.zbN T.zbM T.zbP .nil zaD (zaa (pv 1) (zaa zal (zaa (zcZ zhu zal (zaP G__law_mix (hr.mono (by decide)) rfl T.zbN T.zbM T.zbP .nil zaD (zaa (zaP G__law_cell (hr.mono (by decide)) rfl T.zcq T.zcp T.zcr .nil zaD (zaa (pv 0) (zaa zal zad))) (zaa zal (zaa zal zad))))) zad)))) zad))))
     (zac (zaM (i:=5) zcL.nd rfl (by walk_at "loc") (zaP G__law_mix (hr.mono (by decide)) rfl T.zbN T.zbM T.zbP .nil zaD (zaa (pv 1) (zaa zal (zaa zal zad)))))
     (zac (zaM (i:=6) zcL.nd rfl (by walk_at "loc") (zaY zbp (zdp (zaa zal (zaa zal zad))) (zbF zfN (by rfl) T.zoY boot_int (zaa (zcR zch (zcZ zkE (zaP G__law_cell (hr.mono (by decide)) rfl T.zcq T.zcp T.zcr .nil zaD (zaa (pv 0) (zaa zal zad))) zal) zal (zaE _)) zad)) (λ _ _=>rfl)))
     (zac (zbE (PW.pt (zmZ (zaB zlS (pv 5) (zcZ zhu zal (zcZ zrT (pv 6) zal)) (zaE _)) (zjm (zaB zlS (pv 2) (pv 6) (zaE _))))) (zaf (zaw (zbA (zaa zaN zad)))) zaO)
     (zac (zbE (zaB zlS (pv 5) zal (zaE _)) (zaf (zaw (zbA (zaa zaN (zaa (pv 3) (zaa (pv 4) zad)))))) zaO)
     (zac (zbE (zaB zlS (pv 5) zal (zaE _)) (zaf (zaw (zbA (zaa zaN (zaa (pv 3) (zaa (pv 4) (zaa (zcZ zq1 (zaP G__law_mix (hr.mono (by decide)) rfl T.zbN T.zbM T.zbP .nil zaD (zaa (pv 1) (zaa zal (zaa zal zad)))) zal) zad))))))) zaO)
     (zac (zbE (zaB zlS (pv 5) zal (zaE _)) (zaf (zaw (zbA (zaa zaN (zaa (pv 3) zad))))) zaO)
     (zaf (zaw (zbA (zaa zaN (zaa (pv 3) zad))))))))))))),?_⟩
   obtain ⟨d,ed,hd⟩:=zlZ (c:=c) (p:=9949) hb
   obtain ⟨m,em,hm⟩:=zlZ (c:=za2 ns 0) (p:=9931) (m:=4) (by decide)
   obtain ⟨j,ej,hj⟩:=zlZ (c:=c) (p:=9941) (m:=1+m) (by omega)
   have em:mixF (za2 ns 0) 9931 4=m:=em
   refine ⟨_,rfl,_,rfl,_,_,_,rfl,by decide,by omega,?_⟩
   rw [ed]
   refine ⟨_,rfl,_,rfl,_,rfl,a,ns,0,rfl,hS,_,_,_,rfl,by decide,by decide,_,_,rfl,rfl,_,_,_,rfl,by decide,by rw [em]; omega,a,ns,j,?_,hS,by omega,λ H1 s1=>?_⟩
   . rw [em,show (1:Int)+(m:Int)=((1+m:Nat):Int) by omega,ej]; rfl
   refine ⟨_,rfl,_,_,_,rfl,by decide,by decide,?_⟩
   generalize mixF c 9929 17=tn
   refine ⟨by show 2<=sizeLine; rw [sizeLine_eq]; decide,λ l hl=>?_⟩
   have s2:Same H (upd H1 l (.lst [V.int 9,V.int 30])):=s1.upd2 hl
   refine ⟨_,rfl,a,ns,0,rfl,s2.seq hS,_,_,rfl,rfl,(by show (0:Int) < 16; decide),rfl,.inr ⟨_,rfl,l,_,_,V.int (if za2 ns 0 % 16=3 then 30 else 9),rfl,rfl,SqL.of zab,?_,?_⟩⟩
   . by_cases h:za2 ns 0 % 16=3
     . rw [if_pos h]
       show atI [V.int 9,V.int 30] (if decide (V.int (za2 ns 0 % 16)=V.int 3)=true then 1 else 0)=_
       rw [if_pos (decide_eq_true (by rw [h]))]; exact zbq (xs:=[V.int 9,V.int 30]) (j:=1) rfl
     . rw [if_neg h]
       show atI [V.int 9,V.int 30] (if decide (V.int (za2 ns 0 % 16)=V.int 3)=true then 1 else 0)=_
       rw [if_neg (by rw [decide_eq_false λ z=>h (V.int.inj z)]; exact Bool.false_ne_true)]; exact zbq (xs:=[V.int 9,V.int 30]) (j:=0) rfl
   generalize (if za2 ns 0 % 16=3 then (30:Int) else 9)=M
   show tSeq _ _ _ _ (upd H1 l (.lst [V.int 9,V.int 30]))
   generalize upd H1 l (.lst [V.int 9,V.int 30])=H2 at *
   refine ⟨_,rfl,_,rfl,_,_,rfl,rfl,⟨by decide,by decide⟩,_,_,rfl,rfl,_,_,rfl,rfl,_,rfl,?_⟩
   by_cases h1:tn < 2+M / 15
   . refine zbx (decide_eq_true h1) ⟨_,rfl,_,rfl,_,_,rfl,rfl,_,rfl,?_⟩
     by_cases h2:(b:Int) < M
     . exact zbx (decide_eq_true h2) ⟨by show 1<=sizeLine; rw [sizeLine_eq]; decide,λ n nn=>q _ n .begin (s2.free nn) (s2.upd2 nn) zab trivial⟩
     refine zaW (decide_eq_false h2) ?_
     refine ⟨_,rfl,_,_,rfl,rfl,_,rfl,?_⟩
     by_cases h3:tn < 7
     . exact zbx (decide_eq_true h3) ⟨_,rfl,_,rfl,by show 3<=sizeLine; rw [sizeLine_eq]; decide,λ n nn=>q _ n (.read d (keyF ns j)) (s2.free nn) (s2.upd2 nn) zab ⟨hd,j,by omega,rfl⟩⟩
     refine zaW (decide_eq_false h3) ⟨_,rfl,_,_,rfl,rfl,_,rfl,?_⟩
     by_cases h4:tn < 13
     . exact zbx (decide_eq_true h4) ⟨_,rfl,_,rfl,_,rfl,_,_,_,rfl,by decide,by decide,_,_,rfl,rfl,by show 4<=sizeLine; rw [sizeLine_eq]; decide,λ n nn=>q _ n (.write d (keyF ns j) _) (s2.free nn) (s2.upd2 nn) zab ⟨hd,j,by omega,rfl⟩⟩
     refine zaW (decide_eq_false h4) ⟨_,rfl,_,_,rfl,rfl,_,rfl,?_⟩
     by_cases h5:tn < 16
     . exact zbx (decide_eq_true h5) ⟨_,rfl,by show 2<=sizeLine; rw [sizeLine_eq]; decide,λ n nn=>q _ n (.keep d) (s2.free nn) (s2.upd2 nn) zab hd⟩
     . exact zaW (decide_eq_false h5) ⟨_,rfl,by show 2<=sizeLine; rw [sizeLine_eq]; decide,λ n nn=>q _ n (.drop d) (s2.free nn) (s2.upd2 nn) zab hd⟩
   . refine zaW (decide_eq_false h1) ?_
     refine ⟨_,rfl,_,_,rfl,rfl,_,rfl,?_⟩
     by_cases h3:tn < 7
     . exact zbx (decide_eq_true h3) ⟨_,rfl,_,rfl,by show 3<=sizeLine; rw [sizeLine_eq]; decide,λ n nn=>q _ n (.read d (keyF ns j)) (s2.free nn) (s2.upd2 nn) zab ⟨hd,j,by omega,rfl⟩⟩
     refine zaW (decide_eq_false h3) ⟨_,rfl,_,_,rfl,rfl,_,rfl,?_⟩
     by_cases h4:tn < 13
     . exact zbx (decide_eq_true h4) ⟨_,rfl,_,rfl,_,rfl,_,_,_,rfl,by decide,by decide,_,_,rfl,rfl,by show 4<=sizeLine; rw [sizeLine_eq]; decide,λ n nn=>q _ n (.write d (keyF ns j) _) (s2.free nn) (s2.upd2 nn) zab ⟨hd,j,by omega,rfl⟩⟩
     refine zaW (decide_eq_false h4) ⟨_,rfl,_,_,rfl,rfl,_,rfl,?_⟩
     by_cases h5:tn < 16
     . exact zbx (decide_eq_true h5) ⟨_,rfl,by show 2<=sizeLine; rw [sizeLine_eq]; decide,λ n nn=>q _ n (.keep d) (s2.free nn) (s2.upd2 nn) zab hd⟩
     . exact zaW (decide_eq_false h5) ⟨_,rfl,by show 2<=sizeLine; rw [sizeLine_eq]; decide,λ n nn=>q _ n (.drop d) (s2.free nn) (s2.upd2 nn) zab hd⟩
theorem zkH (T:Txt K mg A F):FnOk P w K mg base (CX1 P w) 6 (F.f 5) (F.fd 5) ["_law_script"] (zsC K):=by
 have G__law_act:=zlW (P:=P) (w:=w) (base:=base) T
 refine T.zmC.okN zb1 (λ vs H Q E h=>?_) (λ cdv A' outer s H vs Q E hr h=>?_)
 . obtain ⟨a,ns,rfl,_⟩:=h
   rfl
 . obtain ⟨a,ns,rfl,hS,q⟩:=h
   refine ⟨_,(zac (zaM (i:=1) zb1.nd rfl (by walk_at "loc") (zdp (zaa (zbA (zaa zaN zad)) (zaa (zbA (zaa zaN zad)) zad))))
     (zac (zaM (i:=2) zb1.nd rfl (by walk_at "loc") zal)
     (zac (zdn PassesOwn.never rfl (zdg (zm3 zrE (pv 0) (zlQ zal) (zlQ zal))) (zaL (i:=3) zb1.nd rfl (by walk_at "loc")) (zac (zaM (i:=4) zb1.nd rfl (by walk_at "loc") (zaP G__law_act (hr.mono (by decide)) rfl T.zn4 T.znY T.zn9 .nil zaD (zaa (pv 0) (zaa (pv 3) (zaa (pv 2) zad)))))
     (zac (zaM (i:=2) zb1.nd rfl (by walk_at "loc") (zcZ zhu (pv 2) (zbF zfN (by rfl) T.zoY boot_int (zaa (zcR zch (zaY zbj (pv 4) zal (λ _ _=>rfl)) zaN (zaE _)) zad))))
     (zaf (zaJ (zee PySem.F.plainAttrs_list PySem.F.slot_list_append PySem.F.type_list_append zbs (pv 1) (zaa (pv 4) zad)))))))
     (zaf (zaw (pv 1)))))),?_⟩
   refine ⟨by show 1<=sizeLine; rw [sizeLine_eq]; decide,λ p1 n1=>⟨by show 1<=sizeLine; rw [sizeLine_eq]; decide,λ p2 n2=>⟨by show 2<=sizeLine; rw [sizeLine_eq]; decide,λ l nl=>?_⟩⟩⟩
   have s1:Same H (upd H p1 (.tup [V.str "begin"])):=Same.zas n1
   have s2:=s1.upd2 (o:=.tup [V.str "begin"]) n2
   have s3:=s2.upd2 (o:=.lst [V.ref p1,V.ref p2]) nl
   have e2:upd (upd H p1 (.tup [V.str "begin"])) p2 (.tup [V.str "begin"]) p2=some (.tup [V.str "begin"]):=zab
   have e1:upd (upd H p1 (.tup [V.str "begin"])) p2 (.tup [V.str "begin"]) p1=some (.tup [V.str "begin"]):=zav zab n2
   refine ⟨_,rfl,_,rfl,_,rfl,a,_,rfl,s3.seq hS,λ pc nc=>⟨pc,rfl,⟨_,SqL.of zab⟩,?_⟩⟩
   have ec:cutV (ns.map V.int) (some 1) (some 62)=((ns.take 62).drop 1).map V.int:=by
     have e0:cutV (ns.map V.int) (some 1) (some 62)=((ns.map V.int).drop (min 1 (ns.map V.int).length)).take (min 62 (ns.map V.int).length - min 1 (ns.map V.int).length):=rfl
     rw [e0,List.length_map,List.map_drop,List.map_take,List.drop_take]
     cases hns:ns with
     | nil=>rfl
     | cons x r =>
       rw [List.length_cons,Nat.min_eq_left (show 1<=r.length+1 by omega)]
       show ((r.map V.int).take _)=(r.map V.int).take 61
       by_cases h:62<=r.length+1
       . rw [Nat.min_eq_left h]
       . rw [List.take_of_length_le (by rw [List.length_map]; omega),List.take_of_length_le (by rw [List.length_map]; omega)]
   rw [ec]
   have hcl:((ns.take 62).drop 1).length<=61:=by rw [List.length_drop,List.length_take]; omega
   generalize hcs:(ns.take 62).drop 1=cs at *
   have nlc:l≠pc:=zah zab nc
   have s4:=s3.upd2 (o:=.lst (cs.map V.int)) nc
   have nlH:H l=none:=s2.free nl
   have npH:H pc=none:=s3.free nc
   refine zeC (xs:=cs.map V.int) (λ i σ H2=>∃ us As v3 v4,σ=[some (.ref a),some (.ref l),some (.int ((zc7 As:Nat):Int)),v3,v4]/\Same H H2/\H2 l=some (.lst us)/\H2 pc=some (.lst (cs.map V.int))/\zap H2 us (As.map actD)/\(∀ p,V.ref p∈us->H p=none)/\Valid ns As/\As.length=2+i/\2<=zc7 As) ?_ (λ i σ H2 _ ⟨_,_,_,_,_,_,_,e,_⟩=>SqL.of e) ?_ ?_
   . refine ⟨[V.ref p1,V.ref p2],[.begin,.begin],none,none,rfl,s4,zav zab nc,zab,?_,?_,?_,rfl,Nat.le_refl _⟩
     . exact .cons ⟨p1,rfl,zav (zav e1 nl) nc⟩ (.cons ⟨p2,rfl,zav (zav e2 nl) nc⟩ .nil)
     . intro p hp
       rcases List.mem_cons.mp hp with h | h
       . cases h; exact n1
       . rcases List.mem_cons.mp h with h | h
         . cases h; exact s1.free n2
         . cases h
     . intro i x hx
       match i,hx with
       | 0,hx=>cases hx; trivial
       | 1,hx=>cases hx; trivial
       | i+2,hx=>cases hx
   . rintro i x σ H2 hx ⟨us,As,v3,v4,rfl,m2,hl2,hc2,t2,f2,vd,hlen,hb2⟩
     rw [List.getElem?_map] at hx
     obtain ⟨c,hc,rfl⟩:=Option.map_eq_some_iff.mp hx
     have hi:i < cs.length:=(List.getElem?_eq_some_iff.mp hc).1
     have hul:us.length=As.length:=by rw [t2.length,List.length_map]
     refine ⟨_,rfl,_,rfl,_,rfl,a,ns,c,zc7 As,rfl,m2.seq hS,by omega,λ H3 q3 Ac n3 m3 e3 ok3=>?_⟩
     obtain ⟨tx,eA,db⟩:=zpO Ac
     have m03:=m2.trans m3
     refine ⟨_,rfl,_,rfl,q3,_,_,V.str tx,rfl,rfl,SqT.of e3,zbq (j:=0) (by rw [eA]; rfl),rfl,.inr ⟨_,rfl,_,_,rfl,rfl,?_⟩⟩
     have hl3:=m3 _ _ hl2
     refine ⟨_,rfl,.inl ⟨rfl,_,SqL.of hl3⟩,_,rfl,l,us,V.ref q3,rfl,rfl,hl3,by rw [hul,sizeLine_eq]; omega,?_⟩
     have eb:((zc7 As:Nat):Int)+(if decide (V.str tx=V.str "begin")=true then 1 else 0)=((zc7 (As++[Ac]):Nat):Int):=by
       rw [db,zfn]
       have:=zrb Ac
       by_cases h:Ac.isB=1
       . rw [decide_eq_true h,if_pos rfl,h]; rfl
       . rw [decide_eq_false h,if_neg Bool.false_ne_true]; have:Ac.isB=0:=by omega
         rw [this]; rfl
     refine ⟨us++[V.ref q3],As++[Ac],_,_,by rw [<-eb]; rfl,?_,zab,?_,?_,?_,vd.snoc ok3,by rw [List.length_append,List.length_singleton]; omega,by rw [zfn]; omega⟩
     . intro b o e
       rw [zae (zah e nlH)]; exact m03 b o e
     . rw [zae nlc.symm]; exact m3 _ _ hc2
     . rw [List.map_append]
       have lift:∀ {vs:List V} {xss:List (List V)},zap H3 vs xss->zap (upd H3 l (.lst (us++[V.ref q3]))) vs xss:=λ {vs xss} t=>by
         induction t with
         | nil=>exact .nil
         | cons r0 _ ih =>
           obtain ⟨p0,e0,q0⟩:=r0
           exact .cons ⟨p0,e0,by rw [zae (zbh q0 hl3 (λ z=>nomatch z))]; exact q0⟩ ih
       exact lift (S6.zb9 (zbr m3 t2) ⟨q3,rfl,e3⟩)
     . intro p hp
       rcases List.mem_append.mp hp with hp | hp
       . exact f2 p hp
       . have:=List.mem_singleton.mp hp
         cases this
         exact m2.free n3
   . rintro σ H2 ⟨us,As,v3,v4,rfl,m2,hl2,hc2,t2,f2,vd,hlen,hb2⟩
     rw [List.length_map] at hlen
     exact ⟨_,rfl,q H2 l us As nlH m2 hl2 t2 f2 vd (by omega)⟩
end
section
variable {P:Program} {w:World} {K:PySem.W.Frag} {mg:Str->Option Value} {base:Heap} {A:Ad} {F:Fs}
theorem zkG (T:Txt K mg A F):FnOk P w K mg base (CX1 P w) 10 (F.f 41) (F.fd 41) ["_law_hall","_law_act_here"] (zrC A):=by
 have G_Hall_begin:=zjx (P:=P) (w:=w) (base:=base) T
 have G_Hall_read:=zkK (P:=P) (w:=w) (base:=base) T
 have G_Hall_write:=zjv (P:=P) (w:=w) (base:=base) T
 have G_Hall_keep:=zgB (P:=P) (w:=w) (base:=base) T
 have G_Hall_give_up:=zhv (P:=P) (w:=w) (base:=base) T
 refine T.zmB.okX zkq (λ vs H Q E h=>?_) (λ cdv A' outer s H vs Q E hr h=>?_)
 . obtain ⟨ρ,ad,s,kq,act,T0,ns,rfl,_⟩:=h
   rfl
 . obtain ⟨ρ,ad,s,kq,act,T0,ns,rfl,hh,R,ht,hn,ok,hq,q,qe⟩:=h
   obtain ⟨dx,hp⟩:=hh.hall
   have nes:∀ a b:Str,a≠b->decide (V.str a=V.str b)=false:=λ a b h=>decide_eq_false λ z=>h (V.str.inj z)
   refine ⟨_,(zac (zbE (zaB zch (zaY zbj (pv 1) zal (λ _ _=>rfl)) zaN (zaE _)) (zaf (zaw (zb8 (pv 0) T.zaj T.zkW G_Hall_begin (hr.mono (by decide)) T.zls .nil zaD))) zaO)
    (zac (zbE (zaB zch (zaY zbj (pv 1) zal (λ _ _=>rfl)) zaN (zaE _)) (zaf (zaw (zax (pv 0) T.zaj T.zl5 G_Hall_read (hr.mono (by decide)) T.zmq .nil zbG (zaa (zaY zbj (pv 1) zal (λ _ _=>rfl)) (zaa (zaY zbj (pv 1) zal (λ _ _=>rfl)) zad))))) zaO)
    (zac (zbE (zaB zch (zaY zbj (pv 1) zal (λ _ _=>rfl)) zaN (zaE _)) (zaf (zaw (zax (pv 0) T.zaj T.zkU G_Hall_write (hr.mono (by decide)) T.zlq .nil zbG (zaa (zaY zbj (pv 1) zal (λ _ _=>rfl)) (zaa (zaY zbj (pv 1) zal (λ _ _=>rfl)) (zaa (zaY zbj (pv 1) zal (λ _ _=>rfl)) zad)))))) zaO)
    (zac (zbE (zaB zch (zaY zbj (pv 1) zal (λ _ _=>rfl)) zaN (zaE _)) (zaf (zaw (zax (pv 0) T.zaj T.zhC G_Hall_keep (hr.mono (by decide)) T.zh8 .nil zbG (zaa (zaY zbj (pv 1) zal (λ _ _=>rfl)) zad)))) zaO)
    (zaf (zaw (zax (pv 0) T.zaj T.zis G_Hall_give_up (hr.mono (by decide)) T.zix .nil zbG (zaa (zaY zbj (pv 1) zal (λ _ _=>rfl)) zad)))))))),?_⟩
   cases act with
   | begin =>
    refine ⟨_,rfl,kq,_,_,_,rfl,rfl,SqT.of hq,rfl,rfl,_,rfl,?_⟩
    refine zbx (decide_eq_true rfl) ⟨_,rfl,_,dx,_,rfl,hp,rfl,ρ,ad,s,zaq s,rfl,hh,R.r.L.sm R.r.c,hn,λ H' ρ' ad' a1 a2 a3=>q _ (.int _) H' ρ' ad' a1 ?_ a3 (.int _) (zjc rfl (λ _ z=>nomatch z) (.inl rfl))⟩
    show zai A ρ' ad' (za1 s) (zaq (za1 s)) H'
    rw [zl9 R.r.c]; exact a2
   | read d k =>
    refine ⟨_,rfl,kq,_,_,_,rfl,rfl,SqT.of hq,rfl,rfl,_,rfl,?_⟩
    refine zaW (nes _ _ (by decide +kernel)) ?_
    refine ⟨_,rfl,kq,_,_,_,rfl,rfl,SqT.of hq,rfl,rfl,_,rfl,?_⟩
    refine zbx (decide_eq_true rfl) ?_
    have h4:=see4 R.r.L.e R.k ok.2
    refine ⟨_,rfl,_,dx,_,rfl,hp,rfl,_,rfl,kq,_,_,_,rfl,rfl,SqT.of hq,rfl,_,rfl,kq,_,_,_,rfl,rfl,SqT.of hq,rfl,ρ,ad,s,d,k,T0,rfl,hh,R.r,ht,h4,.inl ⟨d,rfl,ok.1,?_⟩⟩
    rw [zd4] at q qe
    by_cases hg:(s.deed d).st=.zan
    . rw [if_pos hg] at q
      refine .inl ⟨hg,λ H' ρ' ad' q' a1 a2 a3 a4 a5=>q _ _ H' ρ' ad' a1 ?_ a3 (.tup a4 (zri _ _)) (by have:=zmR (act:=.read d k) rfl hg; rw [zd4,if_pos hg] at this; exact this)⟩
      rw [(zcJ R.r hg).2.2.1]; exact a2
    . rw [if_neg hg] at qe
      exact .inr ⟨hg,qe rfl⟩
   | write d k v =>
    refine ⟨_,rfl,kq,_,_,_,rfl,rfl,SqT.of hq,rfl,rfl,_,rfl,?_⟩
    refine zaW (nes _ _ (by decide +kernel)) ?_
    refine ⟨_,rfl,kq,_,_,_,rfl,rfl,SqT.of hq,rfl,rfl,_,rfl,?_⟩
    refine zaW (nes _ _ (by decide +kernel)) ?_
    refine ⟨_,rfl,kq,_,_,_,rfl,rfl,SqT.of hq,rfl,rfl,_,rfl,?_⟩
    refine zbx (decide_eq_true rfl) ?_
    have h4:=see4 R.r.L.e R.k ok.2
    refine ⟨_,rfl,_,dx,_,rfl,hp,rfl,_,rfl,kq,_,_,_,rfl,rfl,SqT.of hq,rfl,_,rfl,kq,_,_,_,rfl,rfl,SqT.of hq,rfl,_,rfl,kq,_,_,_,rfl,rfl,SqT.of hq,rfl,ρ,ad,s,d,k,v,T0,rfl,hh,R.r,ht,h4,.inl ⟨d,rfl,ok.1,?_⟩⟩
    rw [zdk] at q qe
    by_cases hg:(s.deed d).st=.zan
    . rw [if_pos hg] at q
      refine .inl ⟨hg,λ H' ρ' ad' q' a1 a2 a3 a4 a5=>q _ _ H' ρ' ad' a1 ?_ a3 (.tup a4 (zri _ _)) (by have:=zmR (act:=.write d k v) rfl hg; rw [zdk,if_pos hg] at this; exact this)⟩
      rw [(zcJ R.r hg).2.2.1]; exact a2
    . rw [if_neg hg] at qe
      exact .inr ⟨hg,qe rfl⟩
   | keep d =>
    refine ⟨_,rfl,kq,_,_,_,rfl,rfl,SqT.of hq,rfl,rfl,_,rfl,?_⟩
    refine zaW (nes _ _ (by decide +kernel)) ?_
    refine ⟨_,rfl,kq,_,_,_,rfl,rfl,SqT.of hq,rfl,rfl,_,rfl,?_⟩
    refine zaW (nes _ _ (by decide +kernel)) ?_
    refine ⟨_,rfl,kq,_,_,_,rfl,rfl,SqT.of hq,rfl,rfl,_,rfl,?_⟩
    refine zaW (nes _ _ (by decide +kernel)) ?_
    refine ⟨_,rfl,kq,_,_,_,rfl,rfl,SqT.of hq,rfl,rfl,_,rfl,?_⟩
    refine zbx (decide_eq_true rfl) ?_
    refine ⟨_,rfl,_,dx,_,rfl,hp,rfl,_,rfl,kq,_,_,_,rfl,rfl,SqT.of hq,rfl,ρ,ad,s,d,T0,rfl,hh,R.r,.inl ⟨d,rfl,ok,?_⟩⟩
    rw [zfs] at q qe
    by_cases hg:(s.deed d).st=.zan
    . rw [if_pos hg] at q
      exact .inl ⟨hg,λ H' ρ' ad' a1 a2 a3=>q _ .none H' ρ' ad' a1 a2 a3 .non (zjc rfl (λ _ z=>nomatch z) (.inl rfl))⟩
    . rw [if_neg hg] at qe
      exact .inr ⟨hg,qe rfl⟩
   | drop d =>
    refine ⟨_,rfl,kq,_,_,_,rfl,rfl,SqT.of hq,rfl,rfl,_,rfl,?_⟩
    refine zaW (nes _ _ (by decide +kernel)) ?_
    refine ⟨_,rfl,kq,_,_,_,rfl,rfl,SqT.of hq,rfl,rfl,_,rfl,?_⟩
    refine zaW (nes _ _ (by decide +kernel)) ?_
    refine ⟨_,rfl,kq,_,_,_,rfl,rfl,SqT.of hq,rfl,rfl,_,rfl,?_⟩
    refine zaW (nes _ _ (by decide +kernel)) ?_
    refine ⟨_,rfl,kq,_,_,_,rfl,rfl,SqT.of hq,rfl,rfl,_,rfl,?_⟩
    refine zaW (nes _ _ (by decide +kernel)) ?_
    refine ⟨_,rfl,_,dx,_,rfl,hp,rfl,_,rfl,kq,_,_,_,rfl,rfl,SqT.of hq,rfl,ρ,ad,s,d,T0,rfl,hh,R.r,.inl ⟨d,rfl,ok,?_⟩⟩
    rw [step_drop] at q qe
    by_cases hg:(s.deed d).st=.zan\/(s.deed d).st=.waiting
    . rw [if_pos hg] at q
      exact .inl ⟨hg,λ H' ρ' ad' a1 a2 a3=>q _ .none H' ρ' ad' a1 a2 a3 .non (zjc rfl (λ _ z=>nomatch z) (.inl rfl))⟩
    . rw [if_neg hg] at qe
      exact .inr ⟨hg,qe rfl⟩
theorem znS (T:Txt K mg A F):FnOk P w K mg base (CX1 P w) 11 (F.f 42) (F.fd 42) ["_law_hall","_law_act_here"] (ztA A):=by
 have G__law_call:=zkG (P:=P) (w:=w) (base:=base) T
 refine T.zpX.okN zev (λ vs H Q E h=>?_) (λ cdv A' outer s H vs Q E hr h=>?_)
 . obtain ⟨ρ,ad,s,kq,act,T0,ns,rfl,_⟩:=h
   rfl
 . obtain ⟨ρ,ad,s,kq,act,T0,ns,rfl,hh,R,ht,hn,ok,hq,q⟩:=h
   refine ⟨_,(zac (zaM (i:=2) zev.nd rfl (by walk_at "loc") zfx)
    (zac (zsN rfl rfl rfl rfl rfl T.zgk T.znw (λ E pn xe hp=>(zaf (zaM (i:=2) zev.nd rfl (by walk_at "loc") (zaP G__law_call (hr.mono (by decide)) rfl T.zmd T.zma T.zmm .nil hp (zaa (pv 0) (zaa (pv 1) zad)))))) (λ e=>(zaf (zaM (i:=2) zev.nd rfl (by walk_at "loc") zaN))))
    (zaf (zaw (pv 2))))),?_⟩
   refine ⟨_,rfl,_,rfl,ρ,ad,s,kq,act,T0,ns,rfl,hh,R,ht,hn,ok,hq,λ v r H' ρ' ad' a1 a2 a3 a4 a5=>⟨_,rfl,q _ r H' ρ' ad' a1 a2 a3 a4 a5⟩,λ e=>⟨rfl,?_⟩⟩
   refine ⟨_,rfl,q _ (.str "not going") H ρ ad rfl ?_ .refl (.str _) (zjc (by show PySem.W.kqdOk 8 _=true; decide +kernel) (λ _ z=>nomatch z) (.inr e))⟩
   rw [e]; exact hh
end
section
variable {P:Program} {w:World} {K:PySem.W.Frag} {mg:Str->Option Value} {base:Heap} {A:Ad} {F:Fs}
theorem zlY (T:Txt K mg A F):FnOk P w K mg base (CX1 P w) 1 (F.f 43) (F.fd 43) ["self"] (ztx A):=by
 refine T.zog.okN zlO (λ vs H Q E h=>?_) (λ cdv A' outer s H vs Q E hr h=>?_)
 . obtain ⟨ρ,ad,s,kv,rfl,_⟩:=h
   rfl
 . obtain ⟨ρ,ad,s,kv,rfl,hh,q⟩:=h
   obtain ⟨dx,hp⟩:=hh.hall
   obtain ⟨us,hus,tus⟩:=hh.rows
   refine ⟨_,(zaf (zaw (zbF zbO (by rfl) T.zf8 boot_tuple (zaa (zao (pv 0) rfl) zad)))),?_⟩
   exact ⟨_,rfl,_,_,dx,_,_,rfl,hp,T.zaj,T.zb2,rfl,ad .rows,_,rfl,.inl ⟨SqL.of hus,λ n nn=>q _ n us nn (Same.zas nn) zab (zbr (Same.zas nn) tus)⟩⟩
theorem zgM (T:Txt K mg A F):FnOk P w K mg base (CX1 P w) 3 (F.f 45) (F.fd 45) ["self","deed"] (zov A):=by
 have G_Hall_record_of:=zbL (P:=P) (w:=w) (base:=base) T
 refine T.zig.okX zgL (λ vs H Q E h=>?_) (λ cdv A' outer s H vs Q E hr h=>?_)
 . obtain ⟨ρ,ad,s,kv,i,rfl,_⟩:=h
   rfl
 . obtain ⟨ρ,ad,s,kv,i,rfl,hh,hn,q⟩:=h
   obtain ⟨dx,hp⟩:=hh.hall
   refine ⟨_,(zaf (zaw (zao (zax (pv 0) T.zaj T.zbW G_Hall_record_of (hr.mono (by decide)) T.zbX .nil zbG (zaa (pv 1) zad)) rfl))),?_⟩
   refine ⟨_,rfl,_,dx,_,rfl,hp,rfl,_,rfl,ρ,ad,s,kv,i,rfl,hh,hn,?_⟩
   rcases q with ⟨d,rfl,hd,q⟩ | q
   rotate_left
   . exact .inr q
   obtain ⟨dr,w0,hrc,_⟩:=hh.rcd hd
   exact .inl ⟨d,rfl,hd,_,_,dr,_,_,rfl,hrc,T.zau,T.zay,rfl,q⟩
theorem zlX (T:Txt K mg A F):FnOk P w K mg base (CX1 P w) 3 (F.f 48) (F.fd 48) ["self"] (ztv A):=by
 have G_rising_pairs:=zef (P:=P) (w:=w) (base:=base) T
 refine T.zof.okN zlN (λ vs H Q E h=>?_) (λ cdv A' outer s H vs Q E hr h=>?_)
 . obtain ⟨ρ,ad,s,kv,rfl,_⟩:=h
   rfl
 . obtain ⟨ρ,ad,s,kv,rfl,hh,h4,nd,hk,q⟩:=h
   obtain ⟨dx,hp⟩:=hh.hall
   obtain ⟨l,hl,hb⟩:=hh.zcl
   refine ⟨_,(zaf (zaw (zaP G_rising_pairs (hr.mono (by decide)) rfl T.zeO T.zeN T.zeQ .nil zaD (zaa (zao (pv 0) rfl) zad)))),?_⟩
   refine ⟨_,rfl,_,_,dx,_,_,rfl,hp,T.zaj,T.zbc,rfl,_,l,_,rfl,hl,hb,Nat.le_trans (hb.len nd hk) h4,λ H' q' us m e t=>q H' q' us (l.map (·.1)) m e (λ k=>?_) t⟩
   constructor
   . intro h
     obtain ⟨p,hp,rfl⟩:=List.mem_map.mp h
     rw [(hb.mem p.1 p.2).mp hp]; exact λ z=>nomatch z
   . intro h
     cases e:s.book k with
     | none=>exact absurd e h
     | some v=>exact List.mem_map.mpr ⟨(k,v),(hb.mem k v).mpr e,rfl⟩
end
section
variable {P:Program} {w:World} {K:PySem.W.Frag} {mg:Str->Option Value} {base:Heap} {A:Ad} {F:Fs}
theorem zju (T:Txt K mg A F):FnOk P w K mg base (CX1 P w) 2 (F.f 44) (F.fd 44) ["_law_hall"] (zrA A):=by
 have G_Hall_log:=zlY (P:=P) (w:=w) (base:=base) T
 refine T.zlv.okN zjh (λ vs H Q E h=>?_) (λ cdv A' outer s H vs Q E hr h=>?_)
 . obtain ⟨ρ,ad,s,kv,rfl,_⟩:=h
   rfl
 . obtain ⟨ρ,ad,s,kv,rfl,hh,hl,q⟩:=h
   obtain ⟨dx,hp⟩:=hh.hall
   refine ⟨_,(zaf (zaw (zbK zbk (by rfl) T.zkS PySem.boot_len (zaa (zfe 1 [] ["_law_row"] rfl (by walk_at "blk") (ziL (zb8 (pv 0) T.zaj T.znV G_Hall_log (hr.mono (by decide)) T.zoa .nil zaD)) (λ C fp s H=>(zaL (i:=0) (show (["_law_row"]:List Str).Nodup by decide +kernel) rfl (by walk_at "loc"))) (λ C fp s H=>zf4 (zaB zch (zaY (zpf (K:=K) rfl) (pv 0) zal (λ _ _=>rfl)) zaN (zaE _))) (λ C fp s H=>(pv 0))) zad)))),?_⟩
   refine ⟨_,rfl,_,dx,_,rfl,hp,rfl,ρ,ad,s,kv,rfl,hh,λ H1 qt us nq m1 e1 t1=>⟨qt,rfl,⟨_,SqT.of e1⟩,?_⟩⟩
   have hul:us.length=s.log.length:=by rw [t1.length,List.length_map]
   refine znr (xs:=us) (λ i ys σ H2=>∃ v0,σ=[v0]/\H2=H1/\ys.length=(logB (s.log.take i)).length/\ys.length<=i) ⟨none,rfl,rfl,rfl,Nat.le_refl _⟩ (λ i ys σ H2 ⟨_,_,e,_,hy⟩=>⟨SqT.of (by rw [e]; exact e1),hy⟩) (by rw [hul,sizeLine_eq]; omega) ?_ ?_
   . rintro i x ys σ H2 hlt hx ⟨v0,rfl,rfl,hy,hyi⟩
     obtain ⟨y,hy1,r,rfl,hr1⟩:=zcE t1 hx
     rw [List.getElem?_map] at hy1
     obtain ⟨row,hrow,rfl⟩:=Option.map_eq_some_iff.mp hy1
     have ei:s.log.take (i+1)=s.log.take i++[row]:=by rw [List.take_add_one,hrow]; rfl
     obtain ⟨t,et,db⟩:=zqd row
     refine ⟨_,rfl,r,_,_,V.str t,rfl,rfl,SqT.of hr1,zbq (j:=0) (by rw [et]; rfl),rfl,_,rfl,?_⟩
     refine zdu (rowB row) db ?_
     cases hb:rowB row with
     | true =>
      refine iteT ⟨_,rfl,nx hlt ⟨_,rfl,rfl,?_,?_⟩⟩
      . rw [ei,zne,hb,List.length_append,hy]; rfl
      . rw [List.length_append,List.length_singleton]; omega
     | false =>
      refine iteF (nx hlt ⟨_,rfl,rfl,?_,by omega⟩)
      rw [ei,zne,hb,hy]; rfl
   . rintro ys σ H2 ⟨v0,rfl,rfl,hy,hyi⟩
     rw [hul,List.take_length] at hy
     intro n hn
     refine ⟨n,_,rfl,.inl (SqL.of zab),?_⟩
     have:=q _ (m1.upd2 (o:=.lst ys) hn)
     rw [<-hy] at this; exact this
end
section
variable {P:Program} {w:World} {K:PySem.W.Frag} {mg:Str->Option Value} {base:Heap} {A:Ad} {F:Fs}
theorem zim (T:Txt K mg A F):FnOk P w K mg base (CX1 P w) 4 (F.f 51) (F.fd 51) ["_law_hall"] (zp4 A):=by
 have G_Hall_order:=zjw (P:=P) (w:=w) (base:=base) T
 have G_Hall_done_by:=zeh (P:=P) (w:=w) (base:=base) T
 refine T.zj4.okN zbu (λ vs H Q E h=>?_) (λ cdv A' outer s H vs Q E hr h=>?_)
 . obtain ⟨ρ,ad,s,kv,T0,rfl,_⟩:=h
   rfl
 . obtain ⟨ρ,ad,s,kv,T0,rfl,hh,c,L,q⟩:=h
   have hu:=zdW hr
   have sm:=L.sm c
   obtain ⟨dx,hp⟩:=hh.hall
   refine ⟨_,(zac (zaM (i:=1) zbu.nd rfl (by walk_at "loc") zdF)
     (zac (zdn PassesOwn.never rfl (ziL (zb8 (pv 0) T.zaj T.zkV G_Hall_order (hr.mono (by decide)) T.zlr .nil zaD)) (zaL (i:=2) zbu.nd rfl (by walk_at "loc")) (zaf (zdn PassesOwn.never rfl (ziL (zax (pv 0) T.zaj T.zeL G_Hall_done_by (hr.mono (by decide)) T.zeR .nil zaD (zaa (pv 2) zad))) (zm2 (n:=3) rfl (zbJ (zaL (i:=3) zbu.nd rfl (by walk_at "loc")) (zbJ (zaL (i:=4) zbu.nd rfl (by walk_at "loc")) (zbJ (zaL (i:=5) zbu.nd rfl (by walk_at "loc")) zhr)))) (zaf (zbE (zaB zch (pv 3) zaN (zaE _)) (zaf (zfc hu (pv 1) (pv 4) (pv 5) rfl)) (zaf (zbE (zaB zlR (zm5 hu (pv 1) (pv 4) zal ⟨rfl,rfl,rfl,rfl⟩) (pv 5) (zaE _)) (zaf (zaw zfx)) zaO)))))))
     (zaf (zaw (zbF zbO (by rfl) T.zf8 boot_tuple (zaa (zbK (zgp rfl) (by rfl) T.zjB boot_sorted (zaa (zoN PySem.F.plainAttrs_dict PySem.F.slot_dict_items PySem.F.type_dict_items zqt (pv 1)) zad)) zad)))))),?_⟩
   intro pb nb
   have s0:Same H (upd H pb (.dK [])):=Same.zas nb
   refine ⟨_,rfl,_,dx,_,rfl,s0 _ _ hp,rfl,ρ,ad,s,kv,rfl,hh.grow s0,sm.kp,λ H1 qo m1 e1=>⟨qo,rfl,⟨_,SqT.of e1⟩,?_⟩⟩
   have zfl:∀ {G:Hp} {o:HO},Same H G->Same H (upd G pb o):=λ m b u e=>by rw [zae (zah e nb)]; exact m b u e
   have small:∀ {l:List (Str×Int)} {b:Book Str},za6 l b->(∀ k,b k≠none->k∈s.seen)->l.length<=4:=λ hb hk=>Nat.le_trans (hb.len sm.snd hk) sm.seen
   refine zjR (xs:=zaC s.kept) (λ i σ H2=>∃ l b v2 v3 v4 v5,σ=[some (.ref (ad .hall)),some (.ref pb),v2,v3,v4,v5]/\Same H H2/\H2 pb=some (.dK (bkV l))/\za6 l b/\zb4 s.deed (s.kept.take i) (λ _=>none)=some b/\H2 qo=some (.tup (zaC s.kept))/\∀ k,b k≠none->k∈s.seen) ⟨[],λ _=>none,none,none,none,none,rfl,s0.trans m1,m1 _ _ zab,⟨List.nodup_nil,λ k v=>⟨λ h=>(by cases h),λ h=>(by cases h)⟩⟩,rfl,e1,λ k h=>absurd rfl h⟩ (λ i σ H2 _ ⟨_,_,_,_,_,_,_,_,_,_,_,e,_⟩=>SqT.of e) ?_ ?_
   . rintro i x σ H2 hx ⟨l,b,v2,v3,v4,v5,rfl,m2,hb2,ib,sr,ho2,hk⟩
     unfold zaC at hx
     rw [List.getElem?_map] at hx
     obtain ⟨d,hd,rfl⟩:=Option.map_eq_some_iff.mp hx
     have ei:s.kept.take (i+1)=s.kept.take i++[d]:=by rw [List.take_add_one,hd]; rfl
     have hdn:d < s.n:=by
       by_cases z:d < s.n
       . exact z
       . have h1:=(c.out d (by omega)).1
         rw [(c.zdi d).mp (List.mem_of_getElem? hd)] at h1; cases h1
     obtain ⟨bn,hbn⟩:=znN c.ser (i+1)
     rw [ei,zhf sr] at hbn
     refine ⟨_,rfl,_,dx,_,rfl,m2 _ _ hp,rfl,_,rfl,ρ,ad,s,kv,d,rfl,hh.grow m2,by have:=sm.n; omega,sm.dn,.inl ⟨d,rfl,hdn,λ H3 qd us m3 e3 t3=>⟨qd,rfl,⟨_,SqT.of e3⟩,?_⟩⟩⟩
     have hul:us.length=(s.deed d).done.length:=by rw [t3.length,List.length_map]
     refine zjR (xs:=us) (λ j σ H4=>∃ l b' v3 v4 v5,σ=[some (.ref (ad .hall)),some (.ref pb),some (.int (d:Int)),v3,v4,v5]/\Same H H4/\H4 pb=some (.dK (bkV l))/\za6 l b'/\replay ((s.deed d).done.take j) b=some b'/\H4 qo=some (.tup (zaC s.kept))/\H4 qd=some (.tup us)/\zap H4 us ((s.deed d).done.map actV)/\∀ k,b' k≠none->k∈s.seen) ⟨l,b,_,_,_,rfl,m2.trans m3,m3 _ _ hb2,ib,rfl,m3 _ _ ho2,e3,t3,hk⟩ (λ i σ H2 _ ⟨_,_,_,_,_,_,_,_,_,_,_,e,_⟩=>SqT.of e) ?_ ?_
     . rintro j y σ H4 hy ⟨l4,b4,v3,v4,v5,rfl,m4,hb4,ib4,rp,ho4,hd4,t4,hk4⟩
       obtain ⟨z,hz,r,rfl,hr4⟩:=zcE t4 hy
       rw [List.getElem?_map] at hz
       obtain ⟨a,ha,rfl⟩:=Option.map_eq_some_iff.mp hz
       have ej:(s.deed d).done.take (j+1)=(s.deed d).done.take j++[a]:=by rw [List.take_add_one,ha]; rfl
       have hak:a.key∈s.seen:=L.e.zgn d a (List.mem_of_getElem? ha)
       refine ⟨r,_,rfl,SqT.of hr4,rfl,_,_,rfl,_,_,rfl,_,_,rfl,rfl,_,rfl,rfl,_,rfl,?_⟩
       cases hw:a.wr with
       | true =>
         refine zbx (decide_eq_true rfl) ?_
         refine ⟨_,rfl,_,rfl,_,rfl,pb,_,rfl,DPut.k (k:=Sum.inr a.key) hb4 (by have:=small ib4 hk4; rw [zh6,sizeLine_eq]; omega),?_⟩
         rw [zjU]
         have im:∀ p xs,H4 p=some (.tup xs)->upd H4 pb (.dK (bkV (bput l4 a.key a.val))) p=some (.tup xs):=λ p xs e=>by rw [zae (zbh e hb4 (λ z=>nomatch z))]; exact e
         refine ⟨_,up b4 a.key (some a.val),_,_,_,rfl,zfl m4,zab,ib4.put a.key a.val,?_,im _ _ ho4,im _ _ hd4,?_,λ k h=>?_⟩
         . rw [ej,zfa rp,if_pos hw]
         . have lift:∀ {vs:List V} {xss:List (List V)},zap H4 vs xss->zap (upd H4 pb (.dK (bkV (bput l4 a.key a.val)))) vs xss:=λ {vs xss} t=>by
             induction t with
             | nil=>exact .nil
             | cons r0 _ ih =>
              obtain ⟨p0,e0,q0⟩:=r0
              exact .cons ⟨p0,e0,im _ _ q0⟩ ih
           exact lift t4
         . by_cases z:k=a.key
           . rw [z]; exact hak
           . rw [zam z] at h; exact hk4 k h
       | false =>
         refine zaW (decide_eq_false λ z=>by have:=V.str.inj z; revert this; decide +kernel) ?_
         obtain ⟨bx,hbx⟩:=znP hbn (j+1)
         rw [ej,zfa rp,if_neg (by rw [hw]; exact Bool.false_ne_true)] at hbx
         have hv:(b4 a.key).getD 0=a.val:=by
           by_cases z:(b4 a.key).getD 0=a.val
           . exact z
           . rw [if_neg z] at hbx; cases hbx
         have eg:((valV (bkV l4) (Sum.inr a.key)).getD (V.int 0))=V.int a.val:=by
           rw [ib4.val,<-hv]
           cases b4 a.key <;> rfl
         refine ⟨_,rfl,pb,rfl,.inl ⟨_,.of hb4⟩,_,rfl,_,DGet.k (k:=Sum.inr a.key) hb4,_,rfl,by rw [eg]; rfl,_,rfl,?_⟩
         refine zaW (by rw [eg]; simp) ⟨l4,b4,_,_,_,rfl,m4,hb4,ib4,?_,ho4,hd4,t4,hk4⟩
         rw [ej,zfa rp,if_neg (by rw [hw]; exact Bool.false_ne_true),if_pos hv]
     . rintro σ H4 ⟨l4,b4,v3,v4,v5,rfl,m4,hb4,ib4,rp,ho4,hd4,t4,hk4⟩
       rw [hul,List.take_length] at rp
       refine ⟨l4,b4,_,_,_,_,rfl,m4,hb4,ib4,?_,ho4,hk4⟩
       rw [ei,zhf sr]; exact rp
   . rintro σ H2 ⟨l,b,v2,v3,v4,v5,rfl,m2,hb2,ib,sr,ho2,hk⟩
     have:(zaC s.kept).length=s.kept.length:=by unfold zaC; rw [List.length_map]
     rw [this,List.take_length,c.ser] at sr
     injection sr with sr
     subst sr
     have hl4:=small ib hk
     refine ⟨_,rfl,.inr (.inr (.inl ⟨rfl,.inl ⟨_,hb2⟩⟩)),pb,_,rfl,rfl,hb2,λ v nv=>?_⟩
     refine ⟨v,pb,_,rfl,zab,zav hb2 nv,?_,by rw [zh6]; omega,λ ys lq as H' pm so m' nl e' pr=>?_⟩
     . refine .inr λ k hk=>?_
       obtain ⟨p,hp,rfl⟩:=List.mem_map.mp hk
       unfold bkV at hp
       obtain ⟨r,_,rfl⟩:=List.mem_map.mp hp
       exact ⟨_,rfl⟩
     have ey:=zlG ib pm so
     have tt:=zg8 pr
     refine ⟨lq,_,rfl,.inl ⟨SqL.of e',λ r nr=>q _ r _ (l.map (·.1)) (((m2.upd2 nv).trans m').upd2 nr) zab (λ k=>?_) ?_⟩⟩
     . constructor
       . intro h
         obtain ⟨p,hp,rfl⟩:=List.mem_map.mp h
         rw [(ib.mem p.1 p.2).mp hp]; exact λ z=>nomatch z
       . intro h
         cases e:zaq s k with
         | none=>exact absurd e h
         | some v=>exact List.mem_map.mpr ⟨(k,v),(ib.mem k v).mpr e,rfl⟩
     . refine zbr (Same.zas nr) ?_
       rw [ey,List.map_map] at tt
       exact tt
end
section
variable {P:Program} {w:World} {K:PySem.W.Frag} {mg:Str->Option Value} {base:Heap} {A:Ad} {F:Fs}
theorem zsW (T:Txt K mg A F):FnOk P w K mg base (CX1 P w) 12 (F.f 52) (F.fd 52) ["_law_script"] (zsw K):=by
 have G_Hall_init:=zkL (P:=P) (w:=w) (base:=base) T
 have G__law_acts:=zkH (P:=P) (w:=w) (base:=base) T
 have G__law_do:=znS (P:=P) (w:=w) (base:=base) T
 have G__law_count:=zju (P:=P) (w:=w) (base:=base) T
 have G__law_serial:=zim (P:=P) (w:=w) (base:=base) T
 have G_Hall_state_of:=zgM (P:=P) (w:=w) (base:=base) T
 have G_Hall_keep:=zgB (P:=P) (w:=w) (base:=base) T
 have G_Hall_done_by:=zeh (P:=P) (w:=w) (base:=base) T
 have G_Hall_now:=zlX (P:=P) (w:=w) (base:=base) T
 have G_Hall_kept_book:=zf7 (P:=P) (w:=w) (base:=base) T
 refine T.ztS.okN zd5 (λ vs H Q E h=>?_) (λ cdv A' outer s H vs Q E hr h=>?_)
 . obtain ⟨a,ns,rfl,_⟩:=h
   rfl
 . obtain ⟨a,ns,rfl,hS,q⟩:=h
   have hu:=zdW hr
   have hu64:=hu64 hr
   refine ⟨_,(zac (zaM (i:=1) zd5.nd rfl (by walk_at "loc") (zjs T.zrY G_Hall_init (hr.mono (by decide)) rfl T.zs6 T.zmr .nil zaD))
     (zac (zaM (i:=2) zd5.nd rfl (by walk_at "loc") zdF)
     (zac (zdn PassesOwn.never rfl (zdg (zaP G__law_acts (hr.mono (by decide)) rfl T.zme T.zmb T.zmn .nil zaD (zaa (pv 0) zad))) (zaL (i:=3) zd5.nd rfl (by walk_at "loc")) (zaf (zbE (zaB (zoS hu64) (zaP G__law_do (hr.mono (by decide)) rfl T.zpp T.zpc T.zpP .nil zaD (zaa (pv 1) (zaa (pv 3) zad))) (zbA (zaa zaN zad)) (zaE _)) (zaf (zfc hu (pv 2) (zaY zbj (pv 3) zal (λ _ _=>rfl)) (pv 3) rfl)) zaO)))
     (zac (zaM (i:=4) zd5.nd rfl (by walk_at "loc") (zaP G__law_count (hr.mono (by decide)) rfl T.zk7 T.zk4 T.zlp .nil zaD (zaa (pv 1) zad)))
     (zac (zf5 (i:=5) 1 [1] ["_law_deed","_law_hall"] zd5.nd rfl (by walk_at "loc") rfl (by walk_at "blk") (zdo rfl T.zf9 (zaa (pv 4) zad)) (λ C fp s H=>(zaL (i:=0) (show (["_law_deed","_law_hall"]:List Str).Nodup by decide +kernel) rfl (by walk_at "loc"))) (λ C fp s H=>zf4 (zaB zch (zax (pv 1) T.zaj T.zcb G_Hall_state_of (hr.mono (by decide)) T.zcg .nil zaD (zaa (pv 0) zad)) zaN (zaE _))) (λ C fp s H=>(pv 0)))
     (zac (zdn PassesOwn.never rfl (zdo rfl T.zf9 (zaa (pv 4) zad)) (zaL (i:=6) zd5.nd rfl (by walk_at "loc")) (zaf (zdn PassesOwn.never rfl (zdo rfl T.zf9 (zaa (pv 4) zad)) (zaL (i:=7) zd5.nd rfl (by walk_at "loc")) (zaf (zbE (zaB zch (zax (pv 1) T.zaj T.zcb G_Hall_state_of (hr.mono (by decide)) T.zcg .nil zaD (zaa (pv 7) zad)) zaN (zaE _)) (zaf (zaJ (zax (pv 1) T.zaj T.zhC G_Hall_keep (hr.mono (by decide)) T.zh8 .nil zaD (zaa (pv 7) zad)))) zaO)))))
     (zac (zdn PassesOwn.never rfl (zdo rfl T.zf9 (zaa (pv 4) zad)) (zaL (i:=7) zd5.nd rfl (by walk_at "loc")) (zaf (zbE (zaB zkC (zax (pv 1) T.zaj T.zcb G_Hall_state_of (hr.mono (by decide)) T.zcg .nil zaD (zaa (pv 7) zad)) (zdp (zaa zaN (zaa zaN zad))) (by with_unfolding_all rfl)) (zaf (zaw zqn)) zaO)))
     (zac (zdn PassesOwn.never rfl (zdg (pv 5)) (zaL (i:=7) zd5.nd rfl (by walk_at "loc")) (zac (zaM (i:=8) zd5.nd rfl (by walk_at "loc") (zaY zbj (zax (pv 1) T.zaj T.zeL G_Hall_done_by (hr.mono (by decide)) T.zeR .nil zaD (zaa (pv 7) zad)) (zqk zmQ zal) (λ _ _=>rfl)))
     (zac (zbE (PW.pt (zrL (zaB zlR (zax (pv 1) T.zaj T.zcb G_Hall_state_of (hr.mono (by decide)) T.zcg .nil zaD (zaa (pv 7) zad)) zaN (zaE _)) (zq0 (zaB (zsV hu64) (zm3 zsD (pv 8) zrN (zlQ zal)) (zbA (zaa (zaY zbj (zcQ hu (pv 2) (pv 7) (λ _ _=>rfl)) zal (λ _ _=>rfl)) (zaa (zaY zbj (zcQ hu (pv 2) (pv 7) (λ _ _=>rfl)) zal (λ _ _=>rfl)) zad))) (zaE _))))) (zaf (zaw zqn)) zaO)
     (zaf (zbE (PW.pt (zmZ (zaB zch (zaY zbj (pv 8) zal (λ _ _=>rfl)) zaN (zaE _)) (zjm (zaB zlR (zaY zbj (pv 8) zal (λ _ _=>rfl)) (zaY zbj (zcQ hu (pv 2) (pv 7) (λ _ _=>rfl)) zal (λ _ _=>rfl)) (zaE _))))) (zaf (zaw zqn)) zaO)))))
     (zaf (zaw (zm6 (zcR (zoS hu64) (zb8 (pv 1) T.zaj T.ziR G_Hall_now (hr.mono (by decide)) T.zi6 .nil zaD) (zb8 (pv 1) T.zaj T.zgO G_Hall_kept_book (hr.mono (by decide)) T.zgT .nil zaD) (zaE _)) (ziM (zcR (zoS hu64) (zb8 (pv 1) T.zaj T.ziR G_Hall_now (hr.mono (by decide)) T.zi6 .nil zaD) (zaP G__law_serial (hr.mono (by decide)) rfl T.zjP T.zjL T.zjW .nil zaD (zaa (pv 1) zad)) (zaE _)))))))))))))),?_⟩
   intro x dx nx ndx nex
   refine ⟨x,dx,rfl,zab,λ H1 ρ ad ea hh kp=>⟨rfl,?_⟩⟩
   have s0:Same H (upd (upd H dx (.own x)) x (.ins A.zaU dx [])):=(Same.zas ndx).upd2 (by rw [zae nex.symm]; exact nx)
   have s1:Same H H1:=λ b o e=>(kp b o (s0 b o e) (zah e nx)).1
   have hh:zai A ρ ad TH.empty (zaq (TH.empty:HS Str)) H1:=hh
   intro pw npw
   have sp1:Same H1 (upd H1 pw (.dK [])):=Same.zas npw
   refine ⟨_,rfl,a,ns,rfl,sp1.seq (s1.seq hS),λ H2 qa us As nq m2 hq tu fu vd hl=>⟨qa,rfl,⟨_,SqL.of hq⟩,?_⟩⟩
   have hul:us.length=As.length:=by rw [tu.length,List.length_map]
   refine zeC (xs:=us) (λ i σ H3=>∃ s ρ' ad' v3 kvs,σ=[some (.ref a),some (.ref x),some (.ref pw),v3,none,none,none,none,none]/\ad' Role.hall=x/\zai A ρ' ad' s (zaq s) H3/\Run ns s i/\zaS s/\s.n=zc7 (As.take i)/\H3 qa=some (.lst us)/\ρ' qa=.other/\(∀ p,V.ref p∈us->ρ' p=.other)/\zap H3 us (As.map actD)/\H3 pw=some (.dK kvs)/\ρ' pw=.other/\kvs.length<=i/\WAt s kvs ρ' H3) ⟨TH.empty,ρ,ad,none,[],rfl,ea,(hh.grow sp1).grow m2,⟨Ready.empty,λ k h=>by cases h⟩,All.empty.l,rfl,hq,(hh.grow sp1).fr _ nq,λ p h=>(hh.grow sp1).fr _ (fu p h),tu,m2 _ _ zab,hh.fr _ npw,Nat.le_refl _,λ e he=>by cases he⟩ (λ i σ H3 _ ⟨_,_,_,_,_,_,_,_,_,_,_,e,_⟩=>SqL.of e) ?_ ?_
   . rintro i y σ H3 hy ⟨s,ρ3,ad3,v3,kvs,rfl,ea3,h3,R3,l3,n3,hq3,ro3,rp3,t3,hw3,rw3,kl3,wt3⟩
     have hi:i < us.length:=(List.getElem?_eq_some_iff.mp hy).1
     obtain ⟨z,hz,kq,rfl,hkq⟩:=zcE t3 hy
     have rkq:=rp3 _ (List.mem_of_getElem? hy)
     rw [List.getElem?_map] at hz
     obtain ⟨act,hact,rfl⟩:=Option.map_eq_some_iff.mp hz
     have ok3:=vd i act hact
     rw [<-n3] at ok3
     have hn3:s.n < 63:=by
       have:=zlo (As.take i)
       rw [List.length_take] at this
       omega
     have e5:As.take (i+1)=As.take i++[act]:=by rw [List.take_add_one,hact]; rfl
     obtain ⟨R4,n4⟩:=R3.step (by omega) hn3 ok3
     have l4:=zqw R3 l3 act
     subst ea3
     refine ⟨_,rfl,_,rfl,ρ3,ad3,s,kq,act,i,ns,rfl,h3,R3,by omega,hn3,ok3,hkq,λ v r H4 ρ4 ad4 ea4 h4 f4 dv told=>?_⟩
     refine ⟨by show 1<=sizeLine; rw [sizeLine_eq]; decide,λ n nn=>⟨r,.tuple [.str "waits"],dv.mono (Same.zas nn),.tup zab (.cons (.str _) .nil),told.1,by show PySem.W.kqdOk 8 _=true; decide +kernel,_,rfl,?_⟩⟩
     have g5:Same H4 (upd H4 n (.tup [V.str "waits"])):=Same.zas nn
     generalize upd H4 n (.tup [V.str "waits"])=H5 at *
     have f5:Frame ρ3 H3 ρ4 H5:=f4.trans (Frame.grow g5)
     have h5:=h4.grow g5
     have lift:∀ {G:Hp},(∀ p xs,H5 p=some (.tup xs)->G p=some (.tup xs))->zap G us (As.map actD):=λ {G} im=>by
       have main:∀ {vs:List V} {xss:List (List V)},(∀ p,V.ref p∈vs->ρ3 p=.other)->zap H3 vs xss->zap G vs xss:=λ {vs xss} hr t=>by
         induction t with
         | nil=>exact .nil
         | cons r0 _ ih =>
           obtain ⟨p0,e0,q0⟩:=r0
           subst e0
           exact .cons ⟨p0,rfl,im _ _ (f5 _ _ q0 (hr p0 List.mem_cons_self)).1⟩ (ih λ p hp=>hr p (List.mem_cons_of_mem _ hp))
       exact main rp3 t3
     have rp5:∀ p,V.ref p∈us->ρ4 p=.other:=λ p hp=>by
       obtain ⟨j,hj⟩:=List.getElem?_of_mem hp
       obtain ⟨z,_,p',ep,hp'⟩:=zcE t3 hj
       cases ep
       exact (f5 _ _ hp' (rp3 p hp)).2
     have hw5:=(f5 _ _ hw3 rw3).1
     have rw5:=(f5 _ _ hw3 rw3).2
     have hq5:=(f5 _ _ hq3 ro3).1
     have nn5:(zcY s act).n=zc7 (As.take (i+1)):=by rw [e5,zfn,n4,n3]
     by_cases hwt:r=.tuple [.str "waits"]
     . obtain ⟨e,y,he1,he2,he3⟩:=told.2.mp hwt
       have at1:atI (actD act) 1=some (V.int (e:Int)):=by
         cases act <;> cases he1 <;> rfl
       refine zbx (by simp [hwt]) ⟨_,rfl,_,rfl,_,rfl,kq,_,_,_,rfl,rfl,SqT.of (f5 _ _ hkq rkq).1,at1,pw,_,rfl,DPut.k (k:=Sum.inl (e:Int)) hw5 (by rw [sizeLine_eq]; omega),?_⟩
       have im:∀ p xs,H5 p=some (.tup xs)->upd H5 pw (.dK (putK kvs (Sum.inl (e:Int)) (.ref kq))) p=some (.tup xs):=λ p xs z=>by rw [zae (zbh z hw5 λ z=>nomatch z)]; exact z
       refine ⟨_,ρ4,ad4,_,_,rfl,ea4,h5.side rw5 hw5,R4,l4,nn5,?_,(f5 _ _ hq3 ro3).2,rp5,lift im,zab,rw5,Nat.le_trans (zqg _ _ _) (by omega),WAt.put R3 (wt3.frame f5) he1 he2 hw5 (f5 _ _ hkq rkq).1 (f5 _ _ hkq rkq).2⟩
       rw [zae (zbh hq5 hw5 λ z=>nomatch z)]; exact hq5
     . exact zaW (by simp [hwt]) ⟨_,ρ4,ad4,_,kvs,rfl,ea4,h5,R4,l4,nn5,hq5,(f5 _ _ hq3 ro3).2,rp5,lift λ _ _ z=>z,hw5,rw5,by omega,WAt.step R3 (wt3.frame f5) act λ z=>hwt (told.2.mpr z)⟩
   . rintro σ H3 ⟨s,ρ3,ad3,v3,kvs,rfl,ea3,h3,R3,l3,n3,_,_,_,_,hw3,rw3,_,wt3⟩
     have hn3:s.n<=63:=by
       rw [hul,List.take_length] at n3
       have:=zlo As
       omega
     subst ea3
     refine ⟨_,rfl,ρ3,ad3,s,_,rfl,h3,(R3.r.L.sm R3.r.c).lg,λ H4 m4=>?_⟩
     rw [l3.b,List.length_range]
     have h4:=h3.grow m4
     obtain ⟨dx4,hp4⟩:=h4.hall
     refine ⟨_,rfl,_,rfl,by omega,by omega,?_⟩
     refine zgo (n:=s.n) (λ i ys σ H5=>∃ v0,σ=[v0,some (.ref (ad3 .hall))]/\H5=H4/\ys=zaC ((List.range i).filter λ d=>decide ((s.deed d).st=.waiting))) ⟨none,rfl,rfl,rfl⟩ (λ i ys σ H5 ⟨_,_,_,e⟩=>by rw [e]; unfold zaC; rw [List.length_map]; exact Nat.le_trans (List.length_filter_le _ _) (by rw [List.length_range]; exact Nat.le_refl _)) (by rw [sizeLine_eq]; omega) ?_ ?_
     . rintro i ys σ H5 hi ⟨v0,rfl,rfl,rfl⟩
       rw [Int.zero_add]
       refine ⟨_,rfl,_,dx4,_,rfl,hp4,rfl,_,rfl,ρ3,ad3,s,_,i,rfl,h4,by omega,.inl ⟨i,rfl,hi,rfl,_,rfl,?_⟩⟩
       refine zdu (decide ((s.deed i).st=.waiting)) (st_w _) ?_
       by_cases hw:(s.deed i).st=.waiting
       . refine zbx (decide_eq_true hw) ⟨_,rfl,L2.nx hi ⟨_,rfl,rfl,?_⟩⟩
         rw [List.range_succ,List.filter_append]; unfold zaC; rw [List.map_append]; simp [hw]
       . refine zaW (decide_eq_false hw) (L2.nx hi ⟨_,rfl,rfl,?_⟩)
         rw [List.range_succ,List.filter_append]; simp [hw]
     . rintro ys σ H5 ⟨v0,rfl,rfl,rfl⟩
       intro n5 nn5
       have hp5:=hp4
       have m6:Same H5 (upd H5 n5 (.lst (zaC ((List.range s.n).filter λ d=>decide ((s.deed d).st=.waiting))))):=Same.zas nn5
       have e6:upd H5 n5 (.lst (zaC ((List.range s.n).filter λ d=>decide ((s.deed d).st=.waiting)))) n5=some (.lst (zaC ((List.range s.n).filter λ d=>decide ((s.deed d).st=.waiting)))):=zab
       have ro5:ρ3 n5=.other:=h4.fr _ nn5
       have mem:∀ d,d∈((List.range s.n).filter λ d=>decide ((s.deed d).st=.waiting))↔d < s.n/\(s.deed d).st=.waiting:=λ d=>by rw [List.mem_filter,List.mem_range,decide_eq_true_iff]
       dsimp only [zps]
       show tSeq (tFor _ _ _) _ _ _ (upd H5 n5 (.lst (zaC ((List.range s.n).filter λ d=>decide ((s.deed d).st=.waiting)))))
       generalize ((List.range s.n).filter λ d=>decide ((s.deed d).st=.waiting))=W at *
       generalize upd H5 n5 (.lst (zaC W))=H6 at *
       have h6:=h4.grow m6
       have f6:Frame ρ3 H3 ρ3 H6:=(Frame.grow m4).trans (Frame.grow m6)
       refine ⟨_,rfl,_,rfl,by omega,by omega,?_⟩
       refine zhV (n:=s.n) (λ i σ H7=>∃ s' ρ' ad' v6 v7,σ=[some (.ref a),some (.ref (ad3 .hall)),some (.ref pw),v3,some (.int (s.n:Int)),some (.ref n5),v6,v7,none]/\ad' Role.hall=ad3 .hall/\zai A ρ' ad' s' (zaq s') H7/\zpW s s' us.length/\actN s'<=s.n - i/\Frame ρ3 H6 ρ' H7) ⟨s,ρ3,ad3,none,none,rfl,rfl,h6,⟨R3.r,rfl,rfl,λ e a _ _=>.inl rfl⟩,zmx s,.refl⟩ ?_ ?_
       . rintro i σ H7 hi ⟨s',ρ7,ad7,v6,v7,rfl,ea7,h7,I7,an7,f7⟩
         refine ⟨_,rfl,_,rfl,by omega,by omega,?_⟩
         refine zhV (n:=s.n) (λ j σ H8=>∃ s2 ρ' ad' v6 v7,σ=[some (.ref a),some (.ref (ad3 .hall)),some (.ref pw),v3,some (.int (s.n:Int)),some (.ref n5),v6,v7,none]/\ad' Role.hall=ad3 .hall/\zai A ρ' ad' s2 (zaq s2) H8/\zpW s s2 us.length/\actN s2<=actN s'/\(actN s'=0\/actN s2 < actN s'\/∃ e,j<=e/\e < s.n/\(s2.deed e).st=.zan)/\Frame ρ3 H6 ρ' H8) ⟨s',ρ7,ad7,_,_,rfl,ea7,h7,I7,Nat.le_refl _,?_,f7⟩ ?_ ?_
         . by_cases z:actN s'=0
           . exact .inl z
           . obtain ⟨e,he,hg⟩:=zpR I7.r.c I7.r.h I7.r.a (by omega)
             exact .inr (.inr ⟨e,Nat.zero_le _,by rw [<-I7.n]; exact he,hg⟩)
         . rintro j σ H8 hj ⟨s2,ρ8,ad8,v6,v7,rfl,ea8,h8,I8,an8,ws8,f8⟩
           rw [Int.zero_add]
           obtain ⟨dx8,hp8⟩:=h8.hall
           rw [<-ea8]
           have hjn:j < s2.n:=by rw [I8.n]; exact hj
           refine ⟨_,rfl,_,dx8,_,rfl,hp8,rfl,_,rfl,ρ8,ad8,s2,_,j,rfl,h8,by have:=I8.r.L.n; omega,.inl ⟨j,rfl,hjn,rfl,_,rfl,?_⟩⟩
           refine zdu (decide ((s2.deed j).st=.zan)) (st_g _) ?_
           by_cases hg:(s2.deed j).st=.zan
           . refine zbx (decide_eq_true hg) ⟨_,rfl,_,dx8,_,rfl,hp8,rfl,_,rfl,ρ8,ad8,s2,j,us.length,rfl,h8,I8.r,.inl ⟨j,rfl,hjn,.inl ⟨hg,λ H9 ρ9 ad9 ea9 h9 f9=>?_⟩⟩⟩
             have lt:=zpU ordS I8.r.c (.inl hg)
             exact ⟨_,ρ9,ad9,_,_,rfl,ea9,h9,I8.keep hg,by omega,.inr (.inl (by omega)),f8.trans f9⟩
           . refine zaW (decide_eq_false hg) ⟨s2,ρ8,ad8,_,_,rfl,rfl,h8,I8,an8,?_,f8⟩
             rcases ws8 with q | q | ⟨e,q1,q2,q3⟩
             . exact .inl q
             . exact .inr (.inl q)
             . refine .inr (.inr ⟨e,?_,q2,q3⟩)
               have:e≠j:=λ z=>hg (z ▸ q3)
               omega
         . rintro σ H8 ⟨s2,ρ8,ad8,v6,v7,rfl,ea8,h8,I8,an8,ws8,f8⟩
           refine ⟨s2,ρ8,ad8,_,_,rfl,ea8,h8,I8,?_,f8⟩
           rcases ws8 with q | q | ⟨e,q1,q2,q3⟩ <;> omega
       . rintro σ H7 ⟨s',ρ7,ad7,v6,v7,rfl,ea7,h7,I7,an7,f7⟩
         have no:∀ d,¬ (s'.deed d).act:=zpS I7.r.c (by omega)
         have wt7:=(wt3.frame f6).frame f7
         have hw7:=((f6.trans f7) _ _ hw3 rw3).1
         have hl7:=(f7 _ _ e6 ro5).1
         obtain ⟨em,bk⟩:=quiet I7.r.c no
         obtain ⟨dx7,hp7⟩:=h7.hall
         rw [<-ea7]
         refine ⟨_,rfl,_,rfl,by omega,by omega,?_⟩
         refine zhV (n:=s.n) (λ i σ G=>∃ v7,σ=[some (.ref a),some (.ref (ad7 .hall)),some (.ref pw),v3,some (.int (s.n:Int)),some (.ref n5),v6,v7,none]/\Same H7 G) ⟨_,rfl,λ _ _ e=>e⟩ ?_ ?_
         . rintro i σ G hi ⟨v7,rfl,mG⟩
           rw [Int.zero_add]
           refine ⟨_,rfl,_,dx7,_,rfl,mG _ _ hp7,rfl,_,rfl,ρ7,ad7,s',_,i,rfl,h7.grow mG,by have:=I7.r.L.n; omega,.inl ⟨i,rfl,by rw [I7.n]; exact hi,?_⟩⟩
           refine ⟨by show 2<=sizeLine; rw [sizeLine_eq]; decide,λ n nn=>⟨n,_,rfl,.inl (SqL.of zab),rfl,rfl,_,rfl,zaW ?_ ⟨_,rfl,mG.upd2 nn⟩⟩⟩
           show (!inV (.str (stS (s'.deed i).st)) [.str "kept",.str "given up"])=false
           rw [zsr (no i)]; rfl
         . rintro σ G0 ⟨v7,rfl,mG0⟩
           refine ⟨_,rfl,n5,rfl,⟨_,SqL.of (mG0 _ _ hl7)⟩,?_⟩
           refine zeC (xs:=zaC W) (λ i σ G=>∃ v7 v8,σ=[some (.ref a),some (.ref (ad7 .hall)),some (.ref pw),v3,some (.int (s.n:Int)),some (.ref n5),v6,v7,v8]/\Same H7 G) ⟨_,_,rfl,mG0⟩ (λ i σ G _ ⟨_,_,_,e⟩=>SqL.of (e _ _ hl7)) ?_ ?_
           . rintro i y σ G hy ⟨v7,v8,rfl,mG⟩
             unfold zaC at hy
             rw [List.getElem?_map] at hy
             obtain ⟨d,hd,rfl⟩:=Option.map_eq_some_iff.mp hy
             obtain ⟨hdn,hdw⟩:=(mem d).mp (List.mem_of_getElem? hd)
             obtain ⟨kq,act,x',hv,hkq,rkq,hask,hwish⟩:=wt7 d hdw
             obtain ⟨hst,v,hdone,hval⟩:Fol (s.deed d) (s'.deed d) x':=by
               rcases I7.fol d x' hdw hwish with q | q
               . exact absurd (.inr (by rw [q]; exact hdw)) (no d)
               . exact q
             have hkept:(s'.deed d).st=.kept:=by
               rcases hst with q | q
               . exact absurd (.inl q) (no d)
               . exact q
             have hdn':d < s'.n:=by rw [I7.n]; exact hdn
             have hn7:s'.n<=1000:=by have:=I7.r.L.n; omega
             obtain ⟨a0,a2,a3⟩:=ztg hask
             have dg:∀ {G2:Hp},G2 pw=some (.dK kvs)->DGet G2 pw (.int (d:Int)) (some (.ref kq)):=λ e=>by have:=DGet.k (k:=Sum.inl (d:Int)) e; rw [hv] at this; exact this
             refine ⟨_,rfl,_,dx7,_,rfl,mG _ _ hp7,rfl,_,rfl,ρ7,ad7,s',_,d,rfl,h7.grow mG,hn7,(I7.r.L.sm I7.r.c).dn,.inl ⟨d,rfl,hdn',λ G1 q1 us1 m1 e1 t1=>?_⟩⟩
             rw [hdone,List.map_append] at t1
             obtain ⟨us0,pl,rfl,hpl⟩:=zka t1
             refine ⟨1,rfl,q1,_,_,_,rfl,rfl,SqT.of e1,zg4,?_⟩
             have m2:Same H7 G1:=mG.trans m1
             refine ⟨_,rfl,_,dx7,_,rfl,m2 _ _ hp7,rfl,_,rfl,ρ7,ad7,s',_,d,rfl,h7.grow m2,hn7,.inl ⟨d,rfl,hdn',rfl,_,rfl,zaW (by rw [hkept]; rfl) ?_⟩⟩
             refine ⟨_,rfl,2,rfl,pl,_,rfl,SqT.of hpl,(by show ¬ (HT.sIx 3 0 none=0/\HT.sIx 3 3 (some 2)=3); decide),λ p np=>?_⟩
             have ec:cutV (actV ⟨x'.wr,x'.key,v⟩) none (some 2)=[V.str (kindS x'.wr),V.str x'.key]:=rfl
             rw [ec]
             have m3:Same G1 (upd G1 p (.tup [V.str (kindS x'.wr),V.str x'.key])):=Same.zas np
             have e3:upd G1 p (.tup [V.str (kindS x'.wr),V.str x'.key]) p=some (.tup [V.str (kindS x'.wr),V.str x'.key]):=zab
             generalize upd G1 p (.tup [V.str (kindS x'.wr),V.str x'.key])=G2 at *
             have m4:=m2.trans m3
             refine ⟨_,rfl,_,rfl,pw,_,rfl,dg (m4 _ _ hw7),kq,_,_,_,rfl,rfl,SqT.of (m4 _ _ hkq),a0,_,rfl,_,rfl,pw,_,rfl,dg (m4 _ _ hw7),kq,_,_,_,rfl,rfl,SqT.of (m4 _ _ hkq),a2,by show 2<=sizeLine; rw [sizeLine_eq]; decide,λ n nn=>?_⟩
             have ok:=zqB (b:=x'.wr) (zpZ R3 hdw hwish)
             refine ⟨.tuple [.str (kindS x'.wr),.str x'.key],.tuple [.str (kindS x'.wr),.str x'.key],.tup (zav e3 nn) (.cons (.str _) (.cons (.str _) .nil)),.tup zab (.cons (.str _) (.cons (.str _) .nil)),ok,ok,_,rfl,zaW (by simp) ?_⟩
             have m5:Same G2 (upd G2 n (.tup [V.str (kindS x'.wr),V.str x'.key])):=Same.zas nn
             show tSeq _ _ _ _ (upd G2 n (.tup [V.str (kindS x'.wr),V.str x'.key]))
             generalize upd G2 n (.tup [V.str (kindS x'.wr),V.str x'.key])=G3 at *
             have m6:=m4.trans m5
             have hpl3:=m5 _ _ (m3 _ _ hpl)
             refine ⟨_,rfl,pl,_,_,V.str (kindS x'.wr),rfl,rfl,SqT.of hpl3,rfl,rfl,_,rfl,?_⟩
             refine zdu x'.wr (zqC _) ?_
             cases hwr:x'.wr with
             | true =>
               refine iteT ⟨_,rfl,pl,_,_,V.int v,rfl,rfl,SqT.of hpl3,rfl,_,rfl,_,rfl,pw,_,rfl,dg (m6 _ _ hw7),kq,_,_,_,rfl,rfl,SqT.of (m6 _ _ hkq),a3 hwr,rfl,_,rfl,zaW (by rw [hval hwr]; simp) ⟨_,_,rfl,m6⟩⟩
             | false=>exact iteF (zaW rfl ⟨_,_,rfl,m6⟩)
           . rintro σ G ⟨v7,v8,rfl,mG⟩
             have sn7:=I7.r.L.sn
             have nd7:=I7.r.L.e.snd
             have ks7:=I7.r.L.e.zo7
             have kb7:∀ k,s'.book k≠none->k∈s'.seen:=I7.r.L.e.zgR
             have okk:∀ ks:List Str,(∀ k,k∈ks↔zaq s' k≠none)->∀ k∈ks,PyData.strOk k=true:=λ ks hks k hk=>by
               obtain ⟨j,_,rfl⟩:=R3.k k (by rw [<-I7.sn]; exact ks7 k ((hks k).mp hk))
               exact zq8 ns j
             have same:∀ (ks ks':List Str) (us:List V) (G:Hp),(∀ k,k∈ks↔zaq s' k≠none)->(∀ k,k∈ks'↔zaq s' k≠none)->zap G us (zml ks (zaq s'))->zap G us (zml ks' (zaq s')):=λ ks ks' us G h1 h2 t=>by
               unfold zml at t ⊢
               rw [zqp λ k=>(h1 k).trans (h2 k).symm] at t; exact t
             have hg:=h7.grow mG
             refine ⟨_,rfl,_,dx7,_,rfl,mG _ _ hp7,rfl,ρ7,ad7,s',_,rfl,hg,sn7,nd7,kb7,λ H10 q10 us10 ks10 m10 e10 k10 t10=>?_⟩
             have h10:=hg.grow m10
             refine ⟨_,rfl,_,dx7,_,rfl,m10 _ _ (mG _ _ hp7),rfl,ρ7,ad7,s',_,rfl,h10,sn7,nd7,ks7,λ H11 q11 us11 ks11 m11 e11 k11 t11=>?_⟩
             rw [bk] at k10 t10
             refine ⟨.tuple (zn7 ks11 (zaq s')),.tuple (zn7 ks11 (zaq s')),.tup (m11 _ _ e10) (zh4 (zbr m11 (same _ _ _ _ k10 k11 t10))),.tup e11 (zh4 t11),zeE (okk _ k11),zeE (okk _ k11),_,rfl,zbx (by simp) ?_⟩
             have h11:=h10.grow m11
             refine ⟨_,rfl,_,dx7,_,rfl,m11 _ _ (m10 _ _ (mG _ _ hp7)),rfl,ρ7,ad7,s',_,rfl,h11,sn7,nd7,kb7,λ H12 q12 us12 ks12 m12 e12 k12 t12=>?_⟩
             rw [bk] at k12 t12
             refine ⟨_,rfl,ρ7,ad7,s',_,us.length,rfl,h11.grow m12,I7.r.c,I7.r.L,λ H13 q13 us13 ks13 m13 e13 k13 t13=>?_⟩
             refine ⟨.tuple (zn7 ks13 (zaq s')),.tuple (zn7 ks13 (zaq s')),.tup (m13 _ _ e12) (zh4 (zbr m13 (same _ _ _ _ k12 k13 t12))),.tup e13 (zh4 t13),zeE (okk _ k13),zeE (okk _ k13),?_⟩
             simpa using q H13
end
end TP
end
section
namespace TP
open PySem L2 TH PyProof.Rows
def AA:Ad:=⟨64,102,182,429,209,221⟩
def ff:List Addr:=[237,447,440,452,459,466,82,244,28,342,349,120,125,132,139,153,42,370,160,179,398,391,384,94,412,35,99,165,146,426,419,405,377,363,356,61,251,258,265,89,272,473,480,335,485,279,286,47,314,321,328,492,497]
def FF (K:PySem.W.Frag):Fs:=⟨λ i=>ff.getD i 0,λ i=>fdOf K (ff.getD i 0)⟩
def exps:List (Option FV):=[fE "__init__" "Hall.__init__" ze5,fE "_law_mix" "_law_mix" zfV,fE "_law_cell" "_law_cell" zeX,fE "_law_key" "_law_key" zfW,fE "_law_act" "_law_act" zfX,fE "_law_acts" "_law_acts" zeZ,fE "__init__" "Record.__init__" zdC,fE "begin" "Hall.begin" zeb,fE "is_whole" "is_whole" zfU,fE "record_of" "Hall.record_of" zcy,fE "refuse_unless_going" "Hall.refuse_unless_going" za9,fE "__init__" "Desk.__init__" ze9,fE "hindering" "Desk.hindering" zcC,fE "lets" "Desk.lets" ze8,fE "lets_at_once" "Desk.lets_at_once" zbY,fE "take" "Desk.take" ze7,fE "value_under" "value_under" zdz,fE "carry_out" "Hall.carry_out" zcB,fE "line_up" "Desk.line_up" zdf,fE "next_waited_for" "Desk.next_waited_for" zbw,fE "next_from" "Hall.next_from" zcz,fE "come_to" "Hall.come_to" zde,fE "greatest_all_round" "Hall.greatest_all_round" zbg,fE "written" "Record.written" zcx,fE "undo" "Hall.undo" ze2,fE "rising_keys" "rising_keys" zdA,fE "touched_keys" "Record.touched_keys" zbC,fE "leave" "Desk.leave" zec,fE "lets_first" "Desk.lets_first" zcn,fE "let_on" "Hall.let_on" zdD,fE "end" "Hall.end" zf0,fE "drop" "Hall.drop" ze6,fE "wait" "Hall.wait" ze1,fE "answer" "Hall.answer" zdE,fE "ask" "Hall.ask" zf1,fE "__init__" "Want.__init__" ze0,fE "read" "Hall.read" ze3,fE "write" "Hall.write" zd9,fE "keep" "Hall.keep" ze4,fE "is_at_end" "Record.is_at_end" zb7,fE "give_up" "Hall.give_up" zdc,fE "_law_call" "_law_call" zeY,fE "_law_do" "_law_do" zhl,fE "log" "Hall.log" zfZ,fE "_law_count" "_law_count" zd8,fE "state_of" "Hall.state_of" zcO,fE "done_by" "Hall.done_by" zdd,fE "rising_pairs" "rising_pairs" zdb,fE "now" "Hall.now" zfY,fE "kept_book" "Hall.kept_book" zcA,fE "order" "Hall.order" zea,fE "_law_serial" "_law_serial" zdB,fE "law" "law" zoF]
def bs (K:PySem.W.Frag):List Bool:=[PySem.W.plainGet K 64 Str.empty,PySem.W.hasDictIn K 64,PySem.W.plainOver K 64,fi K 64 "__setattr__" == some (some (.builtin "object.__setattr__")),fi K 64 "use" == some none,fi K 64 "key" == some none,fi K 64 "value" == some none,gl K "Want" == some (some (.ref 64)),PySem.W.makesIn K 64,fi K 64 "__init__" == some (some (.ref 61)),PySem.W.keepIn K (.ref 64),PySem.W.plainGet K 102 Str.empty,PySem.W.hasDictIn K 102,PySem.W.plainOver K 102,fi K 102 "__setattr__" == some (some (.builtin "object.__setattr__")),fi K 102 "state" == some none,fi K 102 "did" == some none,fi K 102 "want" == some none,gl K "Record" == some (some (.ref 102)),PySem.W.makesIn K 102,fi K 102 "__init__" == some (some (.ref 82)),PySem.W.keepIn K (.ref 102),PySem.W.plainGet K 182 Str.empty,PySem.W.hasDictIn K 182,PySem.W.plainOver K 182,fi K 182 "__setattr__" == some (some (.builtin "object.__setattr__")),fi K 182 "held" == some none,fi K 182 "row" == some none,gl K "Desk" == some (some (.ref 182)),PySem.W.makesIn K 182,fi K 182 "__init__" == some (some (.ref 120)),PySem.W.keepIn K (.ref 182),PySem.W.plainGet K 429 Str.empty,PySem.W.hasDictIn K 429,PySem.W.plainOver K 429,fi K 429 "__setattr__" == some (some (.builtin "object.__setattr__")),fi K 429 "records" == some none,fi K 429 "desks" == some none,fi K 429 "standing" == some none,fi K 429 "kept_values" == some none,fi K 429 "kept_deeds" == some none,fi K 429 "rows" == some none,gl K "Hall" == some (some (.ref 429)),PySem.W.makesIn K 429,fi K 429 "__init__" == some (some (.ref 237)),PySem.W.keepIn K (.ref 429),gl K "_law_mix" == some (some (.ref 447)),gl K "_law_cell" == some (some (.ref 440)),gl K "_law_key" == some (some (.ref 452)),gl K "_law_act" == some (some (.ref 459)),gl K "_law_acts" == some (some (.ref 466)),fi K 429 "begin" == some (some (.ref 244)),gl K "is_whole" == some (some (.ref 28)),fi K 429 "record_of" == some (some (.ref 342)),fi K 429 "refuse_unless_going" == some (some (.ref 349)),fi K 182 "hindering" == some (some (.ref 125)),fi K 182 "lets" == some (some (.ref 132)),fi K 182 "lets_at_once" == some (some (.ref 139)),fi K 182 "take" == some (some (.ref 153)),gl K "value_under" == some (some (.ref 42)),fi K 429 "carry_out" == some (some (.ref 370)),fi K 182 "line_up" == some (some (.ref 160)),fi K 182 "next_waited_for" == some (some (.ref 179)),fi K 429 "next_from" == some (some (.ref 398)),fi K 429 "come_to" == some (some (.ref 391)),fi K 429 "greatest_all_round" == some (some (.ref 384)),fi K 102 "written" == some (some (.ref 94)),fi K 429 "undo" == some (some (.ref 412)),gl K "rising_keys" == some (some (.ref 35)),fi K 102 "touched_keys" == some (some (.ref 99)),fi K 182 "leave" == some (some (.ref 165)),fi K 182 "lets_first" == some (some (.ref 146)),fi K 429 "let_on" == some (some (.ref 426)),fi K 429 "end" == some (some (.ref 419)),fi K 429 "drop" == some (some (.ref 405)),fi K 429 "wait" == some (some (.ref 377)),fi K 429 "answer" == some (some (.ref 363)),fi K 429 "ask" == some (some (.ref 356)),fi K 429 "read" == some (some (.ref 251)),fi K 429 "write" == some (some (.ref 258)),fi K 429 "keep" == some (some (.ref 265)),fi K 102 "is_at_end" == some (some (.ref 89)),fi K 429 "give_up" == some (some (.ref 272)),gl K "_law_call" == some (some (.ref 473)),gl K "_law_do" == some (some (.ref 480)),fi K 429 "log" == some (some (.ref 335)),gl K "_law_count" == some (some (.ref 485)),fi K 429 "state_of" == some (some (.ref 279)),fi K 429 "done_by" == some (some (.ref 286)),gl K "rising_pairs" == some (some (.ref 47)),fi K 429 "now" == some (some (.ref 314)),fi K 429 "kept_book" == some (some (.ref 321)),fi K 429 "order" == some (some (.ref 328)),gl K "_law_serial" == some (some (.ref 492)),gl K "law" == some (some (.ref 497)),gs K "BEGIN" "begin",gi K "FIRST_VALUE" 0,gs K "GIVEN_UP" "given up",gs K "GIVE_UP" "give up",gs K "GOING" "going",gs K "KEEP" "keep",gs K "KEPT" "kept",gs K "READ" "read",gs K "READING" "reading",gs K "WAITING" "waiting",gs K "WRITE" "write",gs K "WRITING" "writing",gl K "NoDeed" == some (some (.ref 209)),PySem.W.excIn K 209 [.type "ValueError",.type "Exception",.type "BaseException",.type "object"] "ValueError.__new__",gl K "NotGoing" == some (some (.ref 221)),PySem.W.excIn K 221 [.type "ValueError",.type "Exception",.type "BaseException",.type "object"] "ValueError.__new__",PySem.W.ktsIn K 221 "BaseException",gl K "bool" == some none,gl K "int" == some none,gl K "isinstance" == some none,gl K "len" == some none,gl K "range" == some none,gl K "set" == some none,gl K "sorted" == some none,gl K "tuple" == some none]
def qq:Program:={ PySem.Challenge.pw_turnhall_k06_whole_waiting_ends with main:={ PySem.Challenge.pw_turnhall_k06_whole_waiting_ends.main with body:=[zoF] } }
def lo:List Str:=(PySem.Challenge.pw_turnhall_k06_whole_waiting_ends.main.scope.names.map (·.1)).filter λ x=>!(x == "law")
def kk (h:Heap):PySem.W.Frag:=Kof (3::List.range' 11 487) h
def OB (K:PySem.W.Frag):Prop:=ff.map (fV K)=exps/\(bs K).all id=true
theorem zsh {K:PySem.W.Frag} {h:Heap} {mg:Str->Option Value} (X:K.In h) (G:h.Ns mainGlobals mg) (o:OB K):Txt K mg AA (FF K):=by
 obtain ⟨h1,h2⟩:=o
 exact ⟨⟨by decide,by decide,by decide,by decide,by decide,by decide⟩,
  ⟨bt h2 0 rfl,bt h2 1 rfl,bt h2 2 rfl,eq_of_beq (bt h2 3 rfl)⟩,
  eq_of_beq (bt h2 4 rfl),
  eq_of_beq (bt h2 5 rfl),
  eq_of_beq (bt h2 6 rfl),
  PySem.W.mg_of X G (eq_of_beq (bt h2 7 rfl)),
  ⟨bt h2 8 rfl,eq_of_beq (bt h2 9 rfl),fu2 h1 35 rfl rfl,bt h2 10 rfl⟩,
  ⟨bt h2 11 rfl,bt h2 12 rfl,bt h2 13 rfl,eq_of_beq (bt h2 14 rfl)⟩,
  eq_of_beq (bt h2 15 rfl),
  eq_of_beq (bt h2 16 rfl),
  eq_of_beq (bt h2 17 rfl),
  PySem.W.mg_of X G (eq_of_beq (bt h2 18 rfl)),
  ⟨bt h2 19 rfl,eq_of_beq (bt h2 20 rfl),fu2 h1 6 rfl rfl,bt h2 21 rfl⟩,
  ⟨bt h2 22 rfl,bt h2 23 rfl,bt h2 24 rfl,eq_of_beq (bt h2 25 rfl)⟩,
  eq_of_beq (bt h2 26 rfl),
  eq_of_beq (bt h2 27 rfl),
  PySem.W.mg_of X G (eq_of_beq (bt h2 28 rfl)),
  ⟨bt h2 29 rfl,eq_of_beq (bt h2 30 rfl),fu2 h1 11 rfl rfl,bt h2 31 rfl⟩,
  ⟨bt h2 32 rfl,bt h2 33 rfl,bt h2 34 rfl,eq_of_beq (bt h2 35 rfl)⟩,
  eq_of_beq (bt h2 36 rfl),
  eq_of_beq (bt h2 37 rfl),
  eq_of_beq (bt h2 38 rfl),
  eq_of_beq (bt h2 39 rfl),
  eq_of_beq (bt h2 40 rfl),
  eq_of_beq (bt h2 41 rfl),
  PySem.W.mg_of X G (eq_of_beq (bt h2 42 rfl)),
  ⟨bt h2 43 rfl,eq_of_beq (bt h2 44 rfl),fu2 h1 0 rfl rfl,bt h2 45 rfl⟩,
  fu h1 0 rfl rfl,
  (fu h1 0 rfl rfl).binds λ _ _ _ _ _ _ us hl=>match us,hl with | [_],_=>rfl,
  fu h1 1 rfl rfl,
  (fu h1 1 rfl rfl).binds λ _ _ _ _ _ _ us hl=>match us,hl with | [_,_,_],_=>rfl,
  PySem.W.mg_of X G (eq_of_beq (bt h2 46 rfl)),
  fu3 h1 1 rfl rfl,
  fu h1 2 rfl rfl,
  (fu h1 2 rfl rfl).binds λ _ _ _ _ _ _ us hl=>match us,hl with | [_,_],_=>rfl,
  PySem.W.mg_of X G (eq_of_beq (bt h2 47 rfl)),
  fu3 h1 2 rfl rfl,
  fu h1 3 rfl rfl,
  (fu h1 3 rfl rfl).binds λ _ _ _ _ _ _ us hl=>match us,hl with | [_,_],_=>rfl,
  PySem.W.mg_of X G (eq_of_beq (bt h2 48 rfl)),
  fu3 h1 3 rfl rfl,
  fu h1 4 rfl rfl,
  (fu h1 4 rfl rfl).binds λ _ _ _ _ _ _ us hl=>match us,hl with | [_,_,_],_=>rfl,
  PySem.W.mg_of X G (eq_of_beq (bt h2 49 rfl)),
  fu3 h1 4 rfl rfl,
  fu h1 5 rfl rfl,
  (fu h1 5 rfl rfl).binds λ _ _ _ _ _ _ us hl=>match us,hl with | [_],_=>rfl,
  PySem.W.mg_of X G (eq_of_beq (bt h2 50 rfl)),
  fu3 h1 5 rfl rfl,
  fu h1 6 rfl rfl,
  (fu h1 6 rfl rfl).binds λ _ _ _ _ _ _ us hl=>match us,hl with | [_],_=>rfl,
  fu h1 7 rfl rfl,
  (fu h1 7 rfl rfl).binds λ _ _ _ _ _ _ us hl=>match us,hl with | [_],_=>rfl,
  ⟨eq_of_beq (bt h2 51 rfl),fu2 h1 7 rfl rfl,fu3 h1 7 rfl rfl⟩,
  fu h1 8 rfl rfl,
  (fu h1 8 rfl rfl).binds λ _ _ _ _ _ _ us hl=>match us,hl with | [_],_=>rfl,
  PySem.W.mg_of X G (eq_of_beq (bt h2 52 rfl)),
  fu3 h1 8 rfl rfl,
  fu h1 9 rfl rfl,
  (fu h1 9 rfl rfl).binds λ _ _ _ _ _ _ us hl=>match us,hl with | [_,_],_=>rfl,
  ⟨eq_of_beq (bt h2 53 rfl),fu2 h1 9 rfl rfl,fu3 h1 9 rfl rfl⟩,
  fu h1 10 rfl rfl,
  (fu h1 10 rfl rfl).binds λ _ _ _ _ _ _ us hl=>match us,hl with | [_,_],_=>rfl,
  ⟨eq_of_beq (bt h2 54 rfl),fu2 h1 10 rfl rfl,fu3 h1 10 rfl rfl⟩,
  fu h1 11 rfl rfl,
  (fu h1 11 rfl rfl).binds λ _ _ _ _ _ _ us hl=>match us,hl with | [_],_=>rfl,
  fu h1 12 rfl rfl,
  (fu h1 12 rfl rfl).binds λ _ _ _ _ _ _ us hl=>match us,hl with | [_,_,_],_=>rfl,
  ⟨eq_of_beq (bt h2 55 rfl),fu2 h1 12 rfl rfl,fu3 h1 12 rfl rfl⟩,
  fu h1 13 rfl rfl,
  (fu h1 13 rfl rfl).binds λ _ _ _ _ _ _ us hl=>match us,hl with | [_,_,_],_=>rfl,
  ⟨eq_of_beq (bt h2 56 rfl),fu2 h1 13 rfl rfl,fu3 h1 13 rfl rfl⟩,
  fu h1 14 rfl rfl,
  (fu h1 14 rfl rfl).binds λ _ _ _ _ _ _ us hl=>match us,hl with | [_,_,_],_=>rfl,
  ⟨eq_of_beq (bt h2 57 rfl),fu2 h1 14 rfl rfl,fu3 h1 14 rfl rfl⟩,
  fu h1 15 rfl rfl,
  (fu h1 15 rfl rfl).binds λ _ _ _ _ _ _ us hl=>match us,hl with | [_,_,_],_=>rfl,
  ⟨eq_of_beq (bt h2 58 rfl),fu2 h1 15 rfl rfl,fu3 h1 15 rfl rfl⟩,
  fu h1 16 rfl rfl,
  (fu h1 16 rfl rfl).binds λ _ _ _ _ _ _ us hl=>match us,hl with | [_,_],_=>rfl,
  PySem.W.mg_of X G (eq_of_beq (bt h2 59 rfl)),
  fu3 h1 16 rfl rfl,
  fu h1 17 rfl rfl,
  (fu h1 17 rfl rfl).binds λ _ _ _ _ _ _ us hl=>match us,hl with | [_,_,_],_=>rfl,
  ⟨eq_of_beq (bt h2 60 rfl),fu2 h1 17 rfl rfl,fu3 h1 17 rfl rfl⟩,
  fu h1 18 rfl rfl,
  (fu h1 18 rfl rfl).binds λ _ _ _ _ _ _ us hl=>match us,hl with | [_,_,_],_=>rfl,
  ⟨eq_of_beq (bt h2 61 rfl),fu2 h1 18 rfl rfl,fu3 h1 18 rfl rfl⟩,
  fu h1 19 rfl rfl,
  (fu h1 19 rfl rfl).binds λ _ _ _ _ _ _ us hl=>match us,hl with | [_,_,_],_=>rfl,
  ⟨eq_of_beq (bt h2 62 rfl),fu2 h1 19 rfl rfl,fu3 h1 19 rfl rfl⟩,
  fu h1 20 rfl rfl,
  (fu h1 20 rfl rfl).binds λ _ _ _ _ _ _ us hl=>match us,hl with | [_,_],_=>rfl,
  ⟨eq_of_beq (bt h2 63 rfl),fu2 h1 20 rfl rfl,fu3 h1 20 rfl rfl⟩,
  fu h1 21 rfl rfl,
  (fu h1 21 rfl rfl).binds λ _ _ _ _ _ _ us hl=>match us,hl with | [_,_],_=>rfl,
  ⟨eq_of_beq (bt h2 64 rfl),fu2 h1 21 rfl rfl,fu3 h1 21 rfl rfl⟩,
  fu h1 22 rfl rfl,
  (fu h1 22 rfl rfl).binds λ _ _ _ _ _ _ us hl=>match us,hl with | [_,_],_=>rfl,
  ⟨eq_of_beq (bt h2 65 rfl),fu2 h1 22 rfl rfl,fu3 h1 22 rfl rfl⟩,
  fu h1 23 rfl rfl,
  (fu h1 23 rfl rfl).binds λ _ _ _ _ _ _ us hl=>match us,hl with | [_],_=>rfl,
  ⟨eq_of_beq (bt h2 66 rfl),fu2 h1 23 rfl rfl,fu3 h1 23 rfl rfl⟩,
  fu h1 24 rfl rfl,
  (fu h1 24 rfl rfl).binds λ _ _ _ _ _ _ us hl=>match us,hl with | [_,_],_=>rfl,
  ⟨eq_of_beq (bt h2 67 rfl),fu2 h1 24 rfl rfl,fu3 h1 24 rfl rfl⟩,
  fu h1 25 rfl rfl,
  (fu h1 25 rfl rfl).binds λ _ _ _ _ _ _ us hl=>match us,hl with | [_],_=>rfl,
  PySem.W.mg_of X G (eq_of_beq (bt h2 68 rfl)),
  fu3 h1 25 rfl rfl,
  fu h1 26 rfl rfl,
  (fu h1 26 rfl rfl).binds λ _ _ _ _ _ _ us hl=>match us,hl with | [_],_=>rfl,
  ⟨eq_of_beq (bt h2 69 rfl),fu2 h1 26 rfl rfl,fu3 h1 26 rfl rfl⟩,
  fu h1 27 rfl rfl,
  (fu h1 27 rfl rfl).binds λ _ _ _ _ _ _ us hl=>match us,hl with | [_,_],_=>rfl,
  ⟨eq_of_beq (bt h2 70 rfl),fu2 h1 27 rfl rfl,fu3 h1 27 rfl rfl⟩,
  fu h1 28 rfl rfl,
  (fu h1 28 rfl rfl).binds λ _ _ _ _ _ _ us hl=>match us,hl with | [_],_=>rfl,
  ⟨eq_of_beq (bt h2 71 rfl),fu2 h1 28 rfl rfl,fu3 h1 28 rfl rfl⟩,
  fu h1 29 rfl rfl,
  (fu h1 29 rfl rfl).binds λ _ _ _ _ _ _ us hl=>match us,hl with | [_,_],_=>rfl,
  ⟨eq_of_beq (bt h2 72 rfl),fu2 h1 29 rfl rfl,fu3 h1 29 rfl rfl⟩,
  fu h1 30 rfl rfl,
  (fu h1 30 rfl rfl).binds λ _ _ _ _ _ _ us hl=>match us,hl with | [_,_,_],_=>rfl,
  ⟨eq_of_beq (bt h2 73 rfl),fu2 h1 30 rfl rfl,fu3 h1 30 rfl rfl⟩,
  fu h1 31 rfl rfl,
  (fu h1 31 rfl rfl).binds λ _ _ _ _ _ _ us hl=>match us,hl with | [_,_],_=>rfl,
  ⟨eq_of_beq (bt h2 74 rfl),fu2 h1 31 rfl rfl,fu3 h1 31 rfl rfl⟩,
  fu h1 32 rfl rfl,
  (fu h1 32 rfl rfl).binds λ _ _ _ _ _ _ us hl=>match us,hl with | [_,_,_],_=>rfl,
  ⟨eq_of_beq (bt h2 75 rfl),fu2 h1 32 rfl rfl,fu3 h1 32 rfl rfl⟩,
  fu h1 33 rfl rfl,
  (fu h1 33 rfl rfl).binds λ _ _ _ _ _ _ us hl=>match us,hl with | [_,_,_],_=>rfl,
  ⟨eq_of_beq (bt h2 76 rfl),fu2 h1 33 rfl rfl,fu3 h1 33 rfl rfl⟩,
  fu h1 34 rfl rfl,
  (fu h1 34 rfl rfl).binds λ _ _ _ _ _ _ us hl=>match us,hl with | [_,_,_],_=>rfl,
  ⟨eq_of_beq (bt h2 77 rfl),fu2 h1 34 rfl rfl,fu3 h1 34 rfl rfl⟩,
  fu h1 35 rfl rfl,
  (fu h1 35 rfl rfl).binds λ _ _ _ _ _ _ us hl=>match us,hl with | [_,_,_,_],_=>rfl,
  fu h1 36 rfl rfl,
  (fu h1 36 rfl rfl).binds λ _ _ _ _ _ _ us hl=>match us,hl with | [_,_,_],_=>rfl,
  ⟨eq_of_beq (bt h2 78 rfl),fu2 h1 36 rfl rfl,fu3 h1 36 rfl rfl⟩,
  fu h1 37 rfl rfl,
  (fu h1 37 rfl rfl).binds λ _ _ _ _ _ _ us hl=>match us,hl with | [_,_,_,_],_=>rfl,
  ⟨eq_of_beq (bt h2 79 rfl),fu2 h1 37 rfl rfl,fu3 h1 37 rfl rfl⟩,
  fu h1 38 rfl rfl,
  (fu h1 38 rfl rfl).binds λ _ _ _ _ _ _ us hl=>match us,hl with | [_,_],_=>rfl,
  ⟨eq_of_beq (bt h2 80 rfl),fu2 h1 38 rfl rfl,fu3 h1 38 rfl rfl⟩,
  fu h1 39 rfl rfl,
  (fu h1 39 rfl rfl).binds λ _ _ _ _ _ _ us hl=>match us,hl with | [_],_=>rfl,
  ⟨eq_of_beq (bt h2 81 rfl),fu2 h1 39 rfl rfl,fu3 h1 39 rfl rfl⟩,
  fu h1 40 rfl rfl,
  (fu h1 40 rfl rfl).binds λ _ _ _ _ _ _ us hl=>match us,hl with | [_,_],_=>rfl,
  ⟨eq_of_beq (bt h2 82 rfl),fu2 h1 40 rfl rfl,fu3 h1 40 rfl rfl⟩,
  fu h1 41 rfl rfl,
  (fu h1 41 rfl rfl).binds λ _ _ _ _ _ _ us hl=>match us,hl with | [_,_],_=>rfl,
  PySem.W.mg_of X G (eq_of_beq (bt h2 83 rfl)),
  fu3 h1 41 rfl rfl,
  fu h1 42 rfl rfl,
  (fu h1 42 rfl rfl).binds λ _ _ _ _ _ _ us hl=>match us,hl with | [_,_],_=>rfl,
  PySem.W.mg_of X G (eq_of_beq (bt h2 84 rfl)),
  fu3 h1 42 rfl rfl,
  fu h1 43 rfl rfl,
  (fu h1 43 rfl rfl).binds λ _ _ _ _ _ _ us hl=>match us,hl with | [_],_=>rfl,
  ⟨eq_of_beq (bt h2 85 rfl),fu2 h1 43 rfl rfl,fu3 h1 43 rfl rfl⟩,
  fu h1 44 rfl rfl,
  (fu h1 44 rfl rfl).binds λ _ _ _ _ _ _ us hl=>match us,hl with | [_],_=>rfl,
  PySem.W.mg_of X G (eq_of_beq (bt h2 86 rfl)),
  fu3 h1 44 rfl rfl,
  fu h1 45 rfl rfl,
  (fu h1 45 rfl rfl).binds λ _ _ _ _ _ _ us hl=>match us,hl with | [_,_],_=>rfl,
  ⟨eq_of_beq (bt h2 87 rfl),fu2 h1 45 rfl rfl,fu3 h1 45 rfl rfl⟩,
  fu h1 46 rfl rfl,
  (fu h1 46 rfl rfl).binds λ _ _ _ _ _ _ us hl=>match us,hl with | [_,_],_=>rfl,
  ⟨eq_of_beq (bt h2 88 rfl),fu2 h1 46 rfl rfl,fu3 h1 46 rfl rfl⟩,
  fu h1 47 rfl rfl,
  (fu h1 47 rfl rfl).binds λ _ _ _ _ _ _ us hl=>match us,hl with | [_],_=>rfl,
  PySem.W.mg_of X G (eq_of_beq (bt h2 89 rfl)),
  fu3 h1 47 rfl rfl,
  fu h1 48 rfl rfl,
  (fu h1 48 rfl rfl).binds λ _ _ _ _ _ _ us hl=>match us,hl with | [_],_=>rfl,
  ⟨eq_of_beq (bt h2 90 rfl),fu2 h1 48 rfl rfl,fu3 h1 48 rfl rfl⟩,
  fu h1 49 rfl rfl,
  (fu h1 49 rfl rfl).binds λ _ _ _ _ _ _ us hl=>match us,hl with | [_],_=>rfl,
  ⟨eq_of_beq (bt h2 91 rfl),fu2 h1 49 rfl rfl,fu3 h1 49 rfl rfl⟩,
  fu h1 50 rfl rfl,
  (fu h1 50 rfl rfl).binds λ _ _ _ _ _ _ us hl=>match us,hl with | [_],_=>rfl,
  ⟨eq_of_beq (bt h2 92 rfl),fu2 h1 50 rfl rfl,fu3 h1 50 rfl rfl⟩,
  fu h1 51 rfl rfl,
  (fu h1 51 rfl rfl).binds λ _ _ _ _ _ _ us hl=>match us,hl with | [_],_=>rfl,
  PySem.W.mg_of X G (eq_of_beq (bt h2 93 rfl)),
  fu3 h1 51 rfl rfl,
  fu h1 52 rfl rfl,
  (fu h1 52 rfl rfl).binds λ _ _ _ _ _ _ us hl=>match us,hl with | [_],_=>rfl,
  PySem.W.mg_of X G (eq_of_beq (bt h2 94 rfl)),
  fu3 h1 52 rfl rfl,
  zhS X G (bt h2 95 rfl),
  ztM X G (bt h2 96 rfl),
  zhS X G (bt h2 97 rfl),
  zhS X G (bt h2 98 rfl),
  zhS X G (bt h2 99 rfl),
  zhS X G (bt h2 100 rfl),
  zhS X G (bt h2 101 rfl),
  zhS X G (bt h2 102 rfl),
  zhS X G (bt h2 103 rfl),
  zhS X G (bt h2 104 rfl),
  zhS X G (bt h2 105 rfl),
  zhS X G (bt h2 106 rfl),
  PySem.W.mg_of X G (eq_of_beq (bt h2 107 rfl)),
  bt h2 108 rfl,
  PySem.W.mg_of X G (eq_of_beq (bt h2 109 rfl)),
  bt h2 110 rfl,
  bt h2 111 rfl,
  PySem.W.mg_none_of X G (eq_of_beq (bt h2 112 rfl)),
  PySem.W.mg_none_of X G (eq_of_beq (bt h2 113 rfl)),
  PySem.W.mg_none_of X G (eq_of_beq (bt h2 114 rfl)),
  PySem.W.mg_none_of X G (eq_of_beq (bt h2 115 rfl)),
  PySem.W.mg_none_of X G (eq_of_beq (bt h2 116 rfl)),
  PySem.W.mg_none_of X G (eq_of_beq (bt h2 117 rfl)),
  PySem.W.mg_none_of X G (eq_of_beq (bt h2 118 rfl)),
  PySem.W.mg_none_of X G (eq_of_beq (bt h2 119 rfl))⟩
theorem walk {q:Program} {loose:List Str} {d:DefRec} (hdf:d.params.defaults=[]) (hnm:d.name = "law"):PySem.W.WalkO q loose (λ _ _=>True) (λ _ h=>∃ K,OB K/\K.In h) PySem.Challenge.rw_turnhall_k06_whole_waiting_ends.row.toRowW d [] (λ f vs=>PySem.call f vs) :=
 walk2 (n:=63) (k:=12) (x := "_law_script") (CX:=λ w=>CX1 PySem.Challenge.rw_turnhall_k06_whole_waiting_ends.prog w) (sp:=λ K=>zsw K) rfl (by decide) hdf ⟨rfl,by decide,by decide⟩
  (λ w mg fa h K o X G hfa=>by
   have T:=zsh X G o
   have F:=fu o.1 52 rfl rfl
   rw [hnm] at hfa
   have e:=(T.ztN).symm.trans hfa
   injection e with e
   injection e with e
   subst e
   obtain ⟨oc,od,kV,dc,pm,an,cd,ct,sl,e1,e2,e3⟩:=F.ex
   refine ⟨fdOf K (ff.getD 52 0),λ s v=>?_,λ base _ _=>zsW T⟩
   have:fdOf K (ff.getD 52 0)=_:=e1
   rw [this]
   exact .of_eq rfl)
  (λ _ _ a ns hl _ hS=>⟨a,ns,rfl,hS,λ _=>rfl⟩) λ _ _ _ _ _ z=>by
   obtain ⟨_,_,_,_,_,_,_,_,_,_,_,_,z⟩:=z
   exact z
end TP
end
open PySem PySem.W PyProof.Rows
theorem TP.left:LeftO PySem.Challenge.rw_turnhall_k06_whole_waiting_ends.prog TP.qq TP.lo (λ _=>true) (λ s=>(TP.ff.map (TP.fV (TP.kk s.heap)),(TP.bs (TP.kk s.heap)).all id)) (λ _=>(TP.exps,true)) 6866 :=
 TP.ztH (m:=11) (ann:=some (.ref 6)) (life:={}) (boot_open (by kernel_rfl) rfl λ s=>by kernel_rfl) (λ w=>by kernel_rfl) (λ w=>by kernel_rfl) λ w os=>by rw [PySem.W.Fast.te10156331382660048174,PySem.W.Fast.te11892475500146522536,PySem.W.Fast.te14364793385576792824,PySem.W.Fast.te4187177175401517315]; kernel_rfl
theorem PySem.Challenge.cw_turnhall_k06_whole_waiting_ends_holds : PySem.Challenge.rw_turnhall_k06_whole_waiting_ends.Holds := by
 refine holds_law (by rw [PySem.W.Fast.te9446332074065402090]; kernel_rfl) λ said=>holds_open (XP:=λ _ _=>True) (YP:=λ _ h=>∃ K,TP.OB K/\K.In h) (d:=TP.dOf TP.zoF) (kwd:=[]) TP.left (λ w s e=>⟨_,⟨congrArg Prod.fst e,congrArg Prod.snd e⟩,TP.ztk⟩) (λ _ h h2 ⟨K,o,x⟩ k=>⟨K,o,x.keeps k⟩) (λ _ _=>trivial) (λ _ _ _ _ _=>trivial) (by kernel_rfl) (by kernel_rfl) (by kernel_rfl) (λ s _=>recFacts_of (R:=[]) (s:=s) rfl) (by kernel_rfl) said (by kernel_rfl) ⟨rfl,rfl,rfl,rfl,rfl,by decide +kernel⟩ (by w_witness2) (TP.walk rfl rfl)
