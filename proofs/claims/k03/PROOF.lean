import PyProof.Rows.All
import Wide.All
import OpenK.AllK
import Wide.FinOn
import PyProof.EqAt
import PyProof.EqKinds
import PyProof.TupleCall
import PyProof.CollectWalk
import PyProof.Seq
import PyProof.SetRoads
import PyProof.DictWalks
import PyProof.DictValues
import PyProof.AttrMissHeap
import KE.KDictOf
import Lean
import PySem.Challenge.RW_turnhall_k03_refusals
set_option linter.all false
set_option maxRecDepth 100000
set_option maxHeartbeats 4000000
set_option Elab.async false
section
namespace TH
inductive DS where
 | zaq | waiting | kept | dropped
 deriving DecidableEq
structure Act (K:Type) where
 wr:Bool
 key:K
 val:Int
structure Deed (K:Type) where
 st:DS
 done:List (Act K)
 wish:Option (Act K)
inductive Row (K:Type) where
 | begin (d:Nat) | write (d:Nat) (k:K) (before value:Int) | keep (d:Nat) | drop (d:Nat)
structure HS (K:Type) where
 n:Nat
 deed:Nat->Deed K
 held:K->List (Nat×Bool)
 rows:K->List (Nat×Bool)
 book:K->Option Int
 seen:List K
 log:List (Row K)
 kept:List Nat
def up {α β:Type} [DecidableEq α] (f:α->β) (a:α) (b:β):α->β:=λ x=>if x=a then b else f x
section
variable {α β:Type} [DecidableEq α] {f:α->β} {a x:α} {b:β}
theorem zag:up f a b a=b:=by unfold up; rw [if_pos rfl]
theorem zan (h:x≠a):up f a b x=f x:=by unfold up; rw [if_neg h]
end
def Deed.act {K:Type} (D:Deed K):Prop:=D.st=.zaq\/D.st=.waiting
section
variable {K:Type} [DecidableEq K]
abbrev Book (K:Type):=K->Option Int
def over (b:Book K):List (Act K)->Book K
 | []=>b
 | a::r=>over (if a.wr then up b a.key (some a.val) else b) r
def zaQ:List (Act K)->K->Option Int
 | [],_=>none
 | a::r,k=>match zaQ r k with
  | some v=>some v
  | none=>if a.wr=true/\a.key=k then some a.val else none
def replay:List (Act K)->Book K->Option (Book K)
 | [],b=>some b
 | a::r,b=>if a.wr=true then replay r (up b a.key (some a.val)) else if (b a.key).getD 0=a.val then replay r b else none
def zdI (deed:Nat->Deed K):List Nat->Book K->Option (Book K)
 | [],b=>some b
 | d::r,b=>(replay (deed d).done b).bind (zdI deed r)
def zeh (deed:Nat->Deed K):List Nat->Book K->Book K
 | [],b=>b
 | d::r,b=>zeh deed r (over b (deed d).done)
def zas (s:HS K):Book K:=zeh s.deed s.kept λ _=>none
theorem zfb (k:K):∀ (l:List (Act K)) (b:Book K),over b l k=match zaQ l k with | some v=>some v | none=>b k
 | [],b=>rfl
 | a::r,b=>by
  simp only [over,zaQ]
  rw [zfb k r]
  cases h:zaQ r k with
  | some v=>rfl
  | none =>
   by_cases hw:a.wr=true
   . by_cases hk:a.key=k
     . subst hk; simp [hw,zag]
     . simp [hw,hk,zan (Ne.symm hk)]
   . simp [hw]
theorem zeu (a:Act K) (k:K):∀ l:List (Act K),zaQ (l++[a]) k=if a.wr=true/\a.key=k then some a.val else zaQ l k
 | []=>by simp [zaQ]
 | x::r=>by
  simp only [List.cons_append,zaQ]
  rw [zeu a k r]
  by_cases h:a.wr=true/\a.key=k
  . simp [h]
  . simp [h]
theorem zeg {k:K} {v:Int}:∀ {l:List (Act K)},zaQ l k=some v->∃ a∈l,a.wr=true/\a.key=k
 | [],h=>by simp [zaQ] at h
 | a::r,h=>by
  simp only [zaQ] at h
  cases h':zaQ r k with
  | some w =>
   obtain ⟨x,hx,q⟩:=zeg h'
   exact ⟨x,List.mem_cons_of_mem _ hx,q⟩
  | none =>
   rw [h'] at h
   by_cases c:a.wr=true/\a.key=k
   . exact ⟨a,List.mem_cons_self,c⟩
   . simp [c] at h
theorem znS (l m:List (Act K)):∀ b,replay (l++m) b=(replay l b).bind (replay m):=by
 induction l with
 | nil=>intro b; rfl
 | cons a r ih =>
  intro b
  simp only [List.cons_append,replay]
  by_cases hw:a.wr=true
  . simp only [hw,if_true]; exact ih _
  . simp only [hw,if_false]
    by_cases hv:(b a.key).getD 0=a.val
    . simp only [hv,if_true]; exact ih _
    . simp only [hv,if_false]; rfl
theorem ze8:∀ {l:List (Act K)} {b c:Book K},replay l b=some c->c=over b l
 | [],b,c,h=>by simp only [replay,Option.some.injEq] at h; exact h.symm
 | a::r,b,c,h=>by
  simp only [replay] at h
  simp only [over]
  by_cases hw:a.wr=true
  . simp only [hw,if_true] at h ⊢; exact ze8 h
  . simp only [hw] at h ⊢
    by_cases hv:(b a.key).getD 0=a.val
    . simp only [hv,if_true] at h; exact ze8 h
    . simp [hv] at h
theorem zhw {l:List (Act K)} {b:Book K} (h:(replay l b).isSome=true):replay l b=some (over b l):=by
 cases e:replay l b with
 | none=>rw [e] at h; cases h
 | some c=>rw [ze8 e]
theorem zea:∀ {l:List (Act K)} {b c:Book K},(∀ a∈l,b a.key=c a.key)->(replay l b).isSome=(replay l c).isSome
 | [],_,_,_=>rfl
 | a::r,b,c,h=>by
  simp only [replay]
  have hr:∀ x∈r,b x.key=c x.key:=λ x hx=>h x (List.mem_cons_of_mem _ hx)
  have ha:=h a List.mem_cons_self
  by_cases hw:a.wr=true
  . simp only [hw,if_true]
    refine zea λ x hx=>?_
    by_cases e:x.key=a.key
    . rw [e,zag,zag]
    . rw [zan e,zan e]; exact hr x hx
  . simp only [hw,ha]
    by_cases hv:(c a.key).getD 0=a.val
    . simp [hv,zea hr]
    . simp [hv]
theorem ziV (deed:Nat->Deed K) (m:List Nat):∀ (l:List Nat) (b:Book K),zdI deed (l++m) b=(zdI deed l b).bind (zdI deed m)
 | [],b=>rfl
 | d::r,b=>by
  simp only [List.cons_append,zdI]
  cases replay (deed d).done b with
  | none=>rfl
  | some c=>exact ziV deed m r c
theorem zcq {deed deed':Nat->Deed K}:∀ {l:List Nat} {b:Book K},(∀ d∈l,(deed' d).done=(deed d).done)->zdI deed' l b=zdI deed l b
 | [],_,_=>rfl
 | d::r,b,h=>by
  simp only [zdI]
  rw [h d List.mem_cons_self]
  cases replay (deed d).done b with
  | none=>rfl
  | some c=>exact zcq λ x hx=>h x (List.mem_cons_of_mem _ hx)
theorem zfL (deed:Nat->Deed K) (m:List Nat):∀ (l:List Nat) (b:Book K),zeh deed (l++m) b=zeh deed m (zeh deed l b)
 | [],b=>rfl
 | d::r,b=>by simp only [List.cons_append,zeh]; exact zfL deed m r _
theorem zbs {deed deed':Nat->Deed K}:∀ {l:List Nat} {b:Book K},(∀ d∈l,(deed' d).done=(deed d).done)->zeh deed' l b=zeh deed l b
 | [],_,_=>rfl
 | d::r,b,h=>by
  simp only [zeh]
  rw [h d List.mem_cons_self]
  exact zbs λ x hx=>h x (List.mem_cons_of_mem _ hx)
def lets (h:List (Nat×Bool)) (d:Nat) (w:Bool):Bool:=h.all λ p=>p.1 == d || !(w || p.2)
def zbf (h:List (Nat×Bool)) (d:Nat) (w:Bool):List (Nat×Bool) :=
 if h.any (λ p=>p.1 == d) then h.map (λ p=>if p.1 == d then (d,w) else p) else h++[(d,w)]
def less (h:List (Nat×Bool)) (d:Nat):List (Nat×Bool):=h.filter λ p=>p.1 != d
def doIt (s:HS K) (d:Nat) (a:Act K):HS K :=
  if a.wr then
    { s with deed:=up s.deed d { s.deed d with st:=.zaq,done:=(s.deed d).done++[a] },
             log:=s.log++[.write d a.key ((s.book a.key).getD 0) a.val],
             book:=up s.book a.key (some a.val) }
  else { s with deed:=up s.deed d { s.deed d with st:=.zaq,done:=(s.deed d).done++[⟨false,a.key,(s.book a.key).getD 0⟩] } }
def take (s:HS K) (d:Nat) (k:K) (w:Bool):HS K:={ s with held:=up s.held k (zbf (s.held k) d w) }
def zby:Nat->HS K->K->HS K
 | 0,s,_=>s
 | f+1,s,k=>match s.rows k with
  | []=>s
  | (d,w)::r=>if lets (s.held k) d w then
    match (s.deed d).wish with
    | some a=>zby f (doIt (take { s with rows:=up s.rows k r } d k w) d a) k
    | none=>s
   else s
def zaM (s:HS K):List K->HS K
 | []=>s
 | k::r=>zaM (zby (s.rows k).length s k) r
def letGo (s:HS K) (d:Nat):HS K:={ s with held:=λ k=>less (s.held k) d,rows:=λ k=>less (s.rows k) d }
variable (ord:List K->List K)
def free (s:HS K) (d:Nat):HS K:=zaM (letGo s d) (ord s.seen)
def zft (s:HS K) (d:Nat) (t:DS):HS K:={ s with deed:=up s.deed d { s.deed d with st:=t } }
def zsd (s:HS K) (d:Nat):HS K:={ zft s d .kept with kept:=s.kept++[d],log:=s.log++[.keep d] }
def zsl (s:HS K) (d:Nat):HS K :=
 { zft s d .dropped with book:=λ k=>if (zaQ (s.deed d).done k).isSome then zas s k else s.book k,log:=s.log++[.drop d] }
def keep (s:HS K) (d:Nat):HS K:=free ord (zsd s d) d
def drop (s:HS K) (d:Nat):HS K:=free ord (zsl s d) d
def za6 (s:HS K):HS K:={ s with n:=s.n+1,deed:=up s.deed s.n ⟨.zaq,[],none⟩,log:=s.log++[.begin s.n] }
def zbQ (s:HS K) (d:Nat):List Nat:=match (s.deed d).st,(s.deed d).wish with
 | .waiting,some a=>((s.rows a.key).takeWhile λ p=>p.1 != d).map (·.1)++((s.held a.key).filter λ p=>p.1 != d && (a.wr || p.2)).map (·.1)
 | _,_=>[]
inductive Reach (s:HS K):Nat->Nat->Prop where
 | one {d e:Nat}:e∈zbQ s d->Reach s d e
 | step {d e f:Nat}:e∈zbQ s d->Reach s e f->Reach s d f
open Classical in
noncomputable def rings (s:HS K):List Nat:=(List.range s.n).filter λ d=>decide (Reach s d d)
noncomputable def settle:Nat->HS K->HS K
 | 0,s=>s
 | f+1,s=>match (rings s).getLast? with
  | none=>s
  | some d=>settle f (drop ord s d)
def has (h:List (Nat×Bool)) (d:Nat):Bool:=h.any λ p=>p.1 == d
def look (h:List (Nat×Bool)) (d:Nat):Option Bool:=(h.find? λ p=>p.1 == d).map (·.2)
def see (s:HS K) (k:K):HS K:={ s with seen:=if k∈s.seen then s.seen else s.seen++[k] }
def wait (s:HS K) (d:Nat) (a:Act K):HS K :=
  { s with deed:=up s.deed d { s.deed d with st:=.waiting,wish:=some a },
           rows:=up s.rows a.key (if has (s.held a.key) d then (d,a.wr)::s.rows a.key else s.rows a.key++[(d,a.wr)]) }
noncomputable def wish (s:HS K) (d:Nat) (a:Act K):HS K :=
 let s:=see s a.key
 if look (s.held a.key) d=some a.wr\/look (s.held a.key) d=some true then doIt s d a
 else if lets (s.held a.key) d a.wr=true/\(has (s.held a.key) d=true\/s.rows a.key=[]) then doIt (take s d a.key a.wr) d a
 else settle ord s.n (wait s d a)
end
end TH
end
section
namespace TH
section
variable {K:Type} [DecidableEq K]
structure Core (s:HS K) (x:Option Nat):Prop where
 out:∀ d,s.n<=d->(s.deed d).st=.dropped/\(s.deed d).done=[]
 hAct:∀ k p,p∈s.held k->(s.deed p.1).act
 hNd:∀ k,((s.held k).map (·.1)).Nodup
 hEx:∀ k d,(d,true)∈s.held k->∀ p∈s.held k,p.1=d
 rAct:∀ k p,p∈s.rows k->(s.deed p.1).st=.waiting/\∃ a,(s.deed p.1).wish=some a/\a.key=k/\a.wr=p.2
 rNd:∀ k,((s.rows k).map (·.1)).Nodup
 wRow:∀ d,some d≠x->(s.deed d).st=.waiting->∃ a,(s.deed d).wish=some a/\(d,a.wr)∈s.rows a.key
 zgf:∀ k d w w',(d,w)∈s.rows k->(d,w')∈s.held k->w'=false/\w=true
 zfS:∀ d,(s.deed d).act->∀ a∈(s.deed d).done,∃ w,(d,w)∈s.held a.key/\(a.wr=true->w=true)
 zfu:∀ k,k∉s.seen->s.held k=[]/\s.rows k=[]
 bOwn:∀ d,(s.deed d).act->∀ k v,zaQ (s.deed d).done k=some v->s.book k=some v
 zg5:∀ k,(∀ d,(s.deed d).act->zaQ (s.deed d).done k=none)->s.book k=zas s k
 ser:zdI s.deed s.kept (λ _=>none)=some (zas s)
 actR:∀ d,(s.deed d).act->(replay (s.deed d).done (zas s)).isSome=true
 zdp:∀ d,d∈s.kept↔(s.deed d).st=.kept
 zh0:s.kept.Nodup
theorem zdG {D:Deed K} (h:D.act):D.st≠.kept:=by
 rcases h with h | h <;> rw [h] <;> decide
theorem zeR {D:Deed K} (h:D.act):D.st≠.dropped:=by
 rcases h with h | h <;> rw [h] <;> decide
theorem Core.lt {s:HS K} {x:Option Nat} (c:Core s x) {d:Nat} (h:(s.deed d).act):d < s.n:=by
 by_cases e:d < s.n
 . exact e
 . exact absurd (c.out d (by omega)).1 (zeR h)
theorem Core.sole {s:HS K} {x:Option Nat} (c:Core s x) {d e:Nat} {k:K} {v:Int} {w:Bool} (hd:(s.deed d).act) (hw:zaQ (s.deed d).done k=some v) (he:(e,w)∈s.held k):e=d:=by
 obtain ⟨a,ha,aw,ak⟩:=zeg hw
 obtain ⟨w',hh,hw'⟩:=c.zfS d hd a ha
 rw [hw' aw,ak] at hh
 exact c.hEx k d hh (e,w) he
theorem zbX {s t:HS K} (h:t.kept=s.kept) (hd:∀ d∈s.kept,(t.deed d).done=(s.deed d).done):zas t=zas s:=by
 unfold zas; rw [h]; exact zbs hd
theorem Core.reads {s:HS K} {x:Option Nat} (c:Core s x) {d:Nat} {k:K} {w:Bool} (hd:(s.deed d).act) (hh:(d,w)∈s.held k):s.book k=over (zas s) (s.deed d).done k:=by
 rw [zfb]
 cases e:zaQ (s.deed d).done k with
 | some v=>exact c.bOwn d hd k v e
 | none =>
  refine c.zg5 k λ f hf=>?_
  cases e':zaQ (s.deed f).done k with
  | none=>rfl
  | some v =>
   have q:=c.sole hf e' hh
   subst q
   rw [e] at e'; cases e'
theorem Core.doIt {s:HS K} {d:Nat} {a:Act K} {w:Bool} (c:Core s (some d)) (hd:(s.deed d).act) (hr:∀ k w,(d,w)∉s.rows k) (hh:(d,w)∈s.held a.key) (hw:a.wr=true->w=true):Core (doIt s d a) none:=by
 have hnk:(s.deed d).st≠.kept:=zdG hd
 have nk:∀ e∈s.kept,e≠d:=λ e he z=>by subst z; exact hnk ((c.zdp _).mp he)
 have main:∀ (a':Act K) (bk:Book K) (lg:List (Row K)),a'.key=a.key->a'.wr=a.wr->(a.wr=false->bk=s.book/\a'.val=(s.book a.key).getD 0)->(a.wr=true->bk=up s.book a.key (some a'.val)) ->
    Core { s with deed:=up s.deed d { s.deed d with st:=.zaq,done:=(s.deed d).done++[a'] },log:=lg,book:=bk } none:=by
  intro a' bk lg ek ew hbr hbw
  have dd:∀ e,e≠d->up s.deed d { s.deed d with st:=.zaq,done:=(s.deed d).done++[a'] } e=s.deed e:=λ e he=>zan he
  have ds:up s.deed d { s.deed d with st:=.zaq,done:=(s.deed d).done++[a'] } d={ s.deed d with st:=.zaq,done:=(s.deed d).done++[a'] }:=zag
  have actE:∀ e,(up s.deed d { s.deed d with st:=.zaq,done:=(s.deed d).done++[a'] } e).act↔(s.deed e).act:=λ e=>by
    by_cases h:e=d
    . subst h; rw [ds]; exact ⟨λ _=>hd,λ _=>.inl rfl⟩
    . rw [dd e h]
  have kb:zas { s with deed:=up s.deed d { s.deed d with st:=.zaq,done:=(s.deed d).done++[a'] },log:=lg,book:=bk }=zas s :=
    zbX rfl λ e he=>by show (up s.deed d _ e).done=_; rw [dd e (nk e he)]
  have lastE:∀ e k,zaQ (up s.deed d { s.deed d with st:=.zaq,done:=(s.deed d).done++[a'] } e).done k=if e=d/\a.wr=true/\a.key=k then some a'.val else zaQ (s.deed e).done k:=λ e k=>by
    by_cases h:e=d
    . subst h; rw [ds]; show zaQ ((s.deed e).done++[a']) k=_; rw [zeu,ek,ew]; simp
    . rw [dd e h]; simp [h]
  refine ⟨λ e he=>?_,λ k p hp=>?_,c.hNd,c.hEx,λ k p hp=>?_,c.rNd,λ e _ he=>?_,c.zgf,λ e he b hb=>?_,c.zfu,λ e he k v hv=>?_,λ k hk=>?_,?_,λ e he=>?_,λ e=>?_,c.zh0⟩
  . have:e≠d:=λ z=>by subst z; have:=c.lt hd; have he':s.n<=e:=he; omega
    rw [show ({ s with deed:=up s.deed d { s.deed d with st:=.zaq,done:=(s.deed d).done++[a'] },log:=lg,book:=bk }:HS K).deed e=s.deed e from dd e this]
    exact c.out e he
  . exact (actE p.1).mpr (c.hAct k p hp)
  . have:p.1≠d:=λ z=>hr k p.2 (by rw [<-z]; exact hp)
    rw [show ({ s with deed:=up s.deed d { s.deed d with st:=.zaq,done:=(s.deed d).done++[a'] },log:=lg,book:=bk }:HS K).deed p.1=s.deed p.1 from dd p.1 this]
    exact c.rAct k p hp
  . have hne:e≠d:=λ z=>by
      subst z
      have he':(up s.deed e { s.deed e with st:=.zaq,done:=(s.deed e).done++[a'] } e).st=.waiting:=he
      rw [ds] at he'; cases he'
    have he':(up s.deed d { s.deed d with st:=.zaq,done:=(s.deed d).done++[a'] } e).st=.waiting:=he
    rw [dd e hne] at he'
    obtain ⟨b,q1,q2⟩:=c.wRow e (λ z=>hne (Option.some.inj z)) he'
    exact ⟨b,by show (up s.deed d _ e).wish=_; rw [dd e hne]; exact q1,q2⟩
  . by_cases h:e=d
    . subst h
      have hb':b∈(up s.deed e { s.deed e with st:=.zaq,done:=(s.deed e).done++[a'] } e).done:=hb
      rw [ds] at hb'
      rcases List.mem_append.mp hb' with q | q
      . exact c.zfS e hd b q
      . have q':b=a':=by simpa using q
        subst q'
        exact ⟨w,by rw [ek]; exact hh,λ z=>hw (by rw [<-ew]; exact z)⟩
    . have hb':b∈(up s.deed d { s.deed d with st:=.zaq,done:=(s.deed d).done++[a'] } e).done:=hb
      rw [dd e h] at hb'
      exact c.zfS e ((actE e).mp he) b hb'
  . have hv':zaQ (up s.deed d { s.deed d with st:=.zaq,done:=(s.deed d).done++[a'] } e).done k=some v:=hv
    rw [lastE] at hv'
    have he':=(actE e).mp he
    show bk k=some v
    by_cases h:e=d/\a.wr=true/\a.key=k
    . rw [if_pos h] at hv'
      obtain ⟨h1,h2,h3⟩:=h
      rw [hbw h2,<-h3,zag]; exact hv'
    . rw [if_neg h] at hv'
      cases hwr:a.wr with
      | false=>rw [(hbr hwr).1]; exact c.bOwn e he' k v hv'
      | true =>
        have hne:k≠a.key:=λ z=>by
         subst z
         have q:=c.sole he' hv' hh
         exact h ⟨q.symm,hwr,rfl⟩
        rw [hbw hwr,zan hne]
        exact c.bOwn e he' k v hv'
  . show bk k=zas _ k
    rw [kb]
    have hk':∀ e,(s.deed e).act->¬ (e=d/\a.wr=true/\a.key=k)/\zaQ (s.deed e).done k=none:=λ e he=>by
      have q:zaQ (up s.deed d { s.deed d with st:=.zaq,done:=(s.deed d).done++[a'] } e).done k=none:=hk e ((actE e).mpr he)
      rw [lastE] at q
      by_cases h:e=d/\a.wr=true/\a.key=k
      . rw [if_pos h] at q; cases q
      . rw [if_neg h] at q; exact ⟨h,q⟩
    cases hwr:a.wr with
    | false=>rw [(hbr hwr).1]; exact c.zg5 k λ e he=>(hk' e he).2
    | true =>
      have hne:k≠a.key:=λ z=>(hk' d hd).1 ⟨rfl,hwr,z.symm⟩
      rw [hbw hwr,zan hne]
      exact c.zg5 k λ e he=>(hk' e he).2
  . show zdI (up s.deed d _) s.kept _=_
    rw [kb,<-c.ser]
    exact zcq λ e he=>by rw [dd e (nk e he)]
  . rw [kb]
    show (replay (up s.deed d _ e).done (zas s)).isSome=true
    by_cases h:e=d
    . subst h
      rw [ds]
      show (replay ((s.deed e).done++[a']) (zas s)).isSome=true
      rw [znS,zhw (c.actR e hd)]
      show (replay [a'] (over (zas s) (s.deed e).done)).isSome=true
      unfold replay
      cases hwr:a.wr with
      | true=>rw [if_pos (by rw [ew,hwr])]; rfl
      | false =>
        rw [if_neg (by rw [ew,hwr]; decide),if_pos (by rw [ek,<-c.reads hd hh,(hbr hwr).2])]
        rfl
    . rw [dd e h]; exact c.actR e ((actE e).mp he)
  . show e∈s.kept↔(up s.deed d _ e).st=.kept
    by_cases h:e=d
    . subst h
      rw [ds,c.zdp e]
      exact ⟨λ z=>absurd z hnk,λ z=>by cases z⟩
    . rw [dd e h]; exact c.zdp e
 unfold TH.doIt
 cases hwr:a.wr with
 | true=>exact main a _ _ rfl rfl (λ z=>by rw [hwr] at z; cases z) λ _=>rfl
 | false=>exact main ⟨false,a.key,(s.book a.key).getD 0⟩ _ _ rfl hwr.symm (λ _=>⟨rfl,rfl⟩) λ z=>by rw [hwr] at z; cases z
end
end TH
end
section
namespace TH
section
variable {K:Type} [DecidableEq K]
theorem zcI {h:List (Nat×Bool)} {d:Nat} {p:Nat×Bool}:p∈less h d↔p∈h/\p.1≠d:=by
 unfold less; rw [List.mem_filter]; simp
theorem ziZ {h:List (Nat×Bool)} {d:Nat} (n:(h.map (·.1)).Nodup):((less h d).map (·.1)).Nodup :=
 n.sublist (List.Sublist.map _ List.filter_sublist)
theorem zne {h:List (Nat×Bool)} {d:Nat} {w:Bool}:lets h d w=true↔∀ p∈h,p.1≠d->w=false/\p.2=false:=by
 unfold lets
 rw [List.all_eq_true]
 refine ⟨λ q p hp hn=>?_,λ q p hp=>?_⟩
 . have:=q p hp
   cases w <;> cases hb:p.2 <;> simp_all
 . by_cases hn:p.1=d
   . simp [hn]
   . obtain ⟨q1,q2⟩:=q p hp hn
     simp [q1,q2]
theorem zim {h:List (Nat×Bool)} {d:Nat}:(h.any λ p=>p.1 == d)=true↔∃ w,(d,w)∈h:=by
 rw [List.any_eq_true]
 refine ⟨λ ⟨p,hp,e⟩=>⟨p.2,?_⟩,λ ⟨w,hw⟩=>⟨(d,w),hw,by simp⟩⟩
 have e':p.1=d:=by simpa using e
 rw [<-e']; exact hp
theorem zaY {h:List (Nat×Bool)} {d:Nat} {w:Bool} {p:Nat×Bool}:p∈zbf h d w↔p=(d,w)\/(p∈h/\p.1≠d):=by
 unfold zbf
 by_cases c:(h.any λ p=>p.1 == d)=true
 . rw [if_pos c,List.mem_map]
   refine ⟨λ ⟨q,hq,e⟩=>?_,λ z=>?_⟩
   . by_cases hn:q.1=d
     . simp [hn] at e; exact .inl e.symm
     . simp [hn] at e; subst e; exact .inr ⟨hq,hn⟩
   . rcases z with z | ⟨z1,z2⟩
     . obtain ⟨w',hw'⟩:=zim.mp c
       exact ⟨(d,w'),hw',by simp [z]⟩
     . exact ⟨p,z1,by simp [z2]⟩
 . rw [if_neg c,List.mem_append]
   refine ⟨λ z=>?_,λ z=>?_⟩
   . rcases z with z | z
     . refine .inr ⟨z,λ e=>c (zim.mpr ⟨p.2,?_⟩)⟩
       rw [<-e]; exact z
     . exact .inl (by simpa using z)
   . rcases z with z | ⟨z1,_⟩
     . exact .inr (by simp [z])
     . exact .inl z1
theorem zl6 {h:List (Nat×Bool)} {d:Nat} {w:Bool}:(zbf h d w).map (·.1)=if (h.any λ p=>p.1 == d)=true then h.map (·.1) else h.map (·.1)++[d]:=by
 unfold zbf
 by_cases c:(h.any λ p=>p.1 == d)=true
 . rw [if_pos c,if_pos c,List.map_map]
   refine List.map_congr_left λ p _=>?_
   by_cases hn:p.1=d
   . simp [hn]
   . simp [hn]
 . rw [if_neg c,if_neg c,List.map_append]; rfl
theorem zjO {h:List (Nat×Bool)} {d:Nat} {w:Bool} (n:(h.map (·.1)).Nodup):((zbf h d w).map (·.1)).Nodup:=by
 rw [zl6]
 by_cases c:(h.any λ p=>p.1 == d)=true
 . rw [if_pos c]; exact n
 . rw [if_neg c]
   refine List.nodup_append.mpr ⟨n,by simp,λ a ha b hb=>?_⟩
   have hb':b=d:=by simpa using hb
   subst hb'
   rintro rfl
   obtain ⟨p,hp,e⟩:=List.mem_map.mp ha
   exact c (zim.mpr ⟨p.2,by rw [<-e]; exact hp⟩)
theorem Core.take {s:HS K} {x:Option Nat} {d:Nat} {k:K} {w:Bool} (c:Core s x) (hd:(s.deed d).act) (hl:lets (s.held k) d w=true) (hf:w=false->∀ w',(d,w')∉s.held k) (hr:∀ w',(d,w')∉s.rows k) (hk:k∈s.seen):Core (TH.take s d k w) x:=by
 have hh:∀ k',k'≠k->(TH.take s d k w).held k'=s.held k':=λ k' h=>zan h
 have hs:(TH.take s d k w).held k=zbf (s.held k) d w:=zag
 have hl':=zne.mp hl
 have mem:∀ k' p,p∈(TH.take s d k w).held k'->p∈s.held k'\/(k'=k/\p=(d,w)):=λ k' p hp=>by
   by_cases h:k'=k
   . subst h
     rw [hs] at hp
     rcases zaY.mp hp with z | z
     . exact .inr ⟨rfl,z⟩
     . exact .inl z.1
   . rw [hh k' h] at hp; exact .inl hp
 refine ⟨c.out,λ k' p hp=>?_,λ k'=>?_,λ k' e he p hp=>?_,c.rAct,c.rNd,c.wRow,λ k' e v v' h1 h2=>?_,λ e he a ha=>?_,λ k' h'=>?_,c.bOwn,c.zg5,c.ser,c.actR,c.zdp,c.zh0⟩
 . rcases mem k' p hp with z | ⟨_,z⟩
   . exact c.hAct k' p z
   . subst z; exact hd
 . by_cases h:k'=k
   . subst h; rw [hs]; exact zjO (c.hNd k')
   . rw [hh k' h]; exact c.hNd k'
 . by_cases h:k'=k
   . subst h
     rw [hs] at he hp
     rcases zaY.mp he with z | ⟨z1,z2⟩
     . have z1:e=d:=congrArg Prod.fst z
       have z2:w=true:=(congrArg Prod.snd z).symm
       subst z1
       rcases zaY.mp hp with y | ⟨y1,y2⟩
       . rw [y]
       . have:=(hl' p y1 y2).1
         rw [z2] at this; cases this
     . have:=(hl' (e,true) z1 z2).2
       cases this
   . rw [hh k' h] at he hp; exact c.hEx k' e he p hp
 . by_cases h:k'=k
   . subst h
     rw [hs] at h2
     rcases zaY.mp h2 with z | ⟨z1,z2⟩
     . have z1:e=d:=congrArg Prod.fst z
       subst z1
       exact absurd h1 (hr v)
     . exact c.zgf k' e v v' h1 z1
   . rw [hh k' h] at h2; exact c.zgf k' e v v' h1 h2
 . obtain ⟨v,q1,q2⟩:=c.zfS e he a ha
   by_cases h:a.key=k
   . by_cases hed:e=d
     . subst hed
       refine ⟨w,by rw [h,hs]; exact zaY.mpr (.inl rfl),λ z=>?_⟩
       cases hw:w with
       | true=>rfl
       | false=>exact absurd (h ▸ q1) (hf hw v)
     . exact ⟨v,by rw [h,hs]; exact zaY.mpr (.inr ⟨h ▸ q1,hed⟩),q2⟩
   . exact ⟨v,by rw [hh _ h]; exact q1,q2⟩
 . have:k'≠k:=λ z=>h' (z ▸ hk)
   rw [hh k' this]; exact c.zfu k' h'
theorem Core.ends {s:HS K} {d:Nat} {t:DS} {bk:Book K} {kp:List Nat} {lg:List (Row K)} (c:Core s none) (hd:(s.deed d).act) (ht:t=.kept\/t=.dropped)
   (hk:∀ e,e∈kp↔(up s.deed d { s.deed d with st:=t } e).st=.kept) (hn:kp.Nodup)
   (hser:zdI s.deed kp (λ _=>none)=some (zeh s.deed kp λ _=>none))
   (hact:∀ e,e≠d->(s.deed e).act->(replay (s.deed e).done (zeh s.deed kp λ _=>none)).isSome=true)
   (hbo:∀ e,e≠d->(s.deed e).act->∀ k v,zaQ (s.deed e).done k=some v->bk k=some v)
   (hbk:∀ k,(∀ e,e≠d->(s.deed e).act->zaQ (s.deed e).done k=none)->bk k=zeh s.deed kp (λ _=>none) k) :
   Core (letGo { s with deed:=up s.deed d { s.deed d with st:=t },book:=bk,kept:=kp,log:=lg } d) none:=by
 have dd:∀ e,e≠d->up s.deed d { s.deed d with st:=t } e=s.deed e:=λ e he=>zan he
 have ds:up s.deed d { s.deed d with st:=t } d={ s.deed d with st:=t }:=zag
 have dn:∀ e,(up s.deed d { s.deed d with st:=t } e).done=(s.deed e).done:=λ e=>by
   by_cases h:e=d
   . subst h; rw [ds]
   . rw [dd e h]
 have actE:∀ e,(up s.deed d { s.deed d with st:=t } e).act->e≠d/\(s.deed e).act:=λ e he=>by
   by_cases h:e=d
   . subst h
     rw [ds] at he
     rcases he with he | he <;> rcases ht with z | z <;> (have he':t=_:=he; rw [z] at he'; cases he')
   . rw [dd e h] at he; exact ⟨h,he⟩
 have kb:zas (letGo { s with deed:=up s.deed d { s.deed d with st:=t },book:=bk,kept:=kp,log:=lg } d)=zeh s.deed kp λ _=>none:=zbs λ e _=>dn e
 refine ⟨λ e he=>?_,λ k p hp=>?_,λ k=>ziZ (c.hNd k),λ k e he p hp=>?_,λ k p hp=>?_,λ k=>ziZ (c.rNd k),λ e _ he=>?_,λ k e v v' h1 h2=>?_,λ e he a ha=>?_,λ k hk'=>?_,λ e he k v hv=>?_,λ k hk'=>?_,?_,λ e he=>?_,hk,hn⟩
 . have he':s.n<=e:=he
   have:e≠d:=λ z=>by subst z; have:=c.lt hd; omega
   show (up s.deed d _ e).st=_/\(up s.deed d _ e).done=_
   rw [dd e this]; exact c.out e he'
 . have hp':=zcI.mp hp
   show (up s.deed d _ p.1).act
   rw [dd _ hp'.2]; exact c.hAct k p hp'.1
 . exact c.hEx k e (zcI.mp he).1 p (zcI.mp hp).1
 . have hp':=zcI.mp hp
   show (up s.deed d _ p.1).st=_/\∃ a,(up s.deed d _ p.1).wish=some a/\_
   rw [dd _ hp'.2]; exact c.rAct k p hp'.1
 . have he':(up s.deed d { s.deed d with st:=t } e).st=.waiting:=he
   obtain ⟨h1,h2⟩:=actE e (.inr he')
   rw [dd e h1] at he'
   obtain ⟨a,q1,q2⟩:=c.wRow e (λ z=>by cases z) he'
   exact ⟨a,by show (up s.deed d _ e).wish=_; rw [dd e h1]; exact q1,zcI.mpr ⟨q2,h1⟩⟩
 . exact c.zgf k e v v' (zcI.mp h1).1 (zcI.mp h2).1
 . obtain ⟨h1,h2⟩:=actE e he
   have ha':a∈(up s.deed d { s.deed d with st:=t } e).done:=ha
   rw [dn e] at ha'
   obtain ⟨v,q1,q2⟩:=c.zfS e h2 a ha'
   exact ⟨v,zcI.mpr ⟨q1,h1⟩,q2⟩
 . obtain ⟨q1,q2⟩:=c.zfu k hk'
   show less (s.held k) d=[]/\less (s.rows k) d=[]
   rw [q1,q2]; exact ⟨rfl,rfl⟩
 . obtain ⟨h1,h2⟩:=actE e he
   have hv':zaQ (up s.deed d { s.deed d with st:=t } e).done k=some v:=hv
   rw [dn e] at hv'
   exact hbo e h1 h2 k v hv'
 . rw [kb]
   refine hbk k λ e h1 h2=>?_
   have q:zaQ (up s.deed d { s.deed d with st:=t } e).done k=none:=hk' e (by show (up s.deed d _ e).act; rw [dd e h1]; exact h2)
   rw [dn e] at q; exact q
 . rw [kb,<-hser]
   exact zcq λ e _=>dn e
 . obtain ⟨h1,h2⟩:=actE e he
   rw [kb]
   show (replay (up s.deed d _ e).done _).isSome=true
   rw [dn e]; exact hact e h1 h2
theorem Core.keeps {s:HS K} {d:Nat} (c:Core s none) (hd:(s.deed d).act):Core (letGo (zsd s d) d) none:=by
 have kd:d∉s.kept:=λ z=>zdG hd ((c.zdp d).mp z)
 have kf:zeh s.deed (s.kept++[d]) (λ _=>none)=over (zas s) (s.deed d).done:=by rw [zfL]; rfl
 refine Core.ends (t:=.kept) c hd (.inl rfl) (λ e=>?_) (List.nodup_append.mpr ⟨c.zh0,by simp,λ a ha b hb=>?_⟩) ?_ (λ e h1 h2=>?_) (λ e h1 h2 k v hv=>c.bOwn e h2 k v hv) λ k hk=>?_
 . rw [List.mem_append,c.zdp e]
   by_cases h:e=d
   . subst h; rw [zag]; simp
   . rw [zan h]; simp [h]
 . have hb':b=d:=by simpa using hb
   subst hb'
   rintro rfl
   exact kd ha
 . rw [ziV,c.ser,kf]
   show (replay (s.deed d).done (zas s)).bind (zdI s.deed [])=_
   rw [zhw (c.actR d hd)]; rfl
 . rw [kf,<-zea (b:=zas s) λ a ha=>?_]
   . exact c.actR e h2
   . rw [zfb]
     cases q:zaQ (s.deed d).done a.key with
     | none=>rfl
     | some v =>
       obtain ⟨w,q1,_⟩:=c.zfS e h2 a ha
       exact absurd (c.sole hd q q1) h1
 . rw [kf,zfb]
   cases q:zaQ (s.deed d).done k with
   | some v=>exact c.bOwn d hd k v q
   | none =>
     refine c.zg5 k λ e he=>?_
     by_cases h:e=d
     . subst h; exact q
     . exact hk e h he
theorem Core.drops {s:HS K} {d:Nat} (c:Core s none) (hd:(s.deed d).act):Core (letGo (zsl s d) d) none:=by
 refine Core.ends (t:=.dropped) c hd (.inr rfl) (λ e=>?_) c.zh0 c.ser (λ e _ h2=>c.actR e h2) (λ e h1 h2 k v hv=>?_) λ k hk=>?_
 . show e∈s.kept↔_
   rw [c.zdp e]
   by_cases h:e=d
   . subst h; rw [zag]; exact ⟨λ z=>absurd z (zdG hd),λ z=>by cases z⟩
   . rw [zan h]
 . cases q:zaQ (s.deed d).done k with
   | none=>simp [q]; exact c.bOwn e h2 k v hv
   | some u =>
     obtain ⟨a,ha,aw,ak⟩:=zeg hv
     obtain ⟨w,q1,_⟩:=c.zfS e h2 a ha
     rw [ak] at q1
     exact absurd (c.sole hd q q1) h1
 . show (if (zaQ (s.deed d).done k).isSome=true then zas s k else s.book k)=zas s k
   cases q:zaQ (s.deed d).done k with
   | some u=>simp
   | none =>
     simp
     refine c.zg5 k λ e he=>?_
     by_cases h:e=d
     . subst h; exact q
     . exact hk e h he
theorem Core.zpC {s:HS K} {k:K} {d:Nat} {w:Bool} {r:List (Nat×Bool)} {a:Act K} (c:Core s none) (hr:s.rows k=(d,w)::r) (hl:lets (s.held k) d w=true) (ha:(s.deed d).wish=some a) :
  Core (TH.doIt (TH.take { s with rows:=up s.rows k r } d k w) d a) none:=by
 have hm:(d,w)∈s.rows k:=by rw [hr]; exact List.mem_cons_self
 obtain ⟨hw,a',ea,ek,ew⟩:=c.rAct k (d,w) hm
 have ea':some a=some a':=ha.symm.trans ea
 cases ea'
 have nd:=c.rNd k
 rw [hr] at nd
 have ndr:∀ w',(d,w')∉r:=λ w' z=>(List.nodup_cons.mp nd).1 (List.mem_map.mpr ⟨_,z,rfl⟩)
 have rk:(up s.rows k r) k=r:=zag
 have rn:∀ k',k'≠k->(up s.rows k r) k'=s.rows k':=λ k' h=>zan h
 have sub:∀ k' p,p∈(up s.rows k r) k'->p∈s.rows k':=λ k' p hp=>by
  by_cases h:k'=k
  . subst h; rw [rk] at hp; rw [hr]; exact List.mem_cons_of_mem _ hp
  . rw [rn k' h] at hp; exact hp
 have nor:∀ k' w',(d,w')∉(up s.rows k r) k':=λ k' w' hp=>by
  by_cases h:k'=k
  . subst h; rw [rk] at hp; exact ndr w' hp
  . have:=(c.rAct k' _ (sub k' _ hp)).2
    obtain ⟨a'',q1,q2,_⟩:=this
    have q1':(s.deed d).wish=some a'':=q1
    rw [ha] at q1'; cases q1'
    exact h (q2.symm.trans ek)
 have c1:Core { s with rows:=up s.rows k r } (some d):=by
  refine ⟨c.out,c.hAct,c.hNd,c.hEx,λ k' p hp=>c.rAct k' p (sub k' p hp),λ k'=>?_,λ e he hwt=>?_,λ k' e v v' h1 h2=>c.zgf k' e v v' (sub k' _ h1) h2,c.zfS,λ k' h'=>?_,c.bOwn,c.zg5,c.ser,c.actR,c.zdp,c.zh0⟩
  . by_cases h:k'=k
    . subst h; show ((up s.rows k' r k').map _).Nodup; rw [rk]; exact (List.nodup_cons.mp nd).2
    . show ((up s.rows k r k').map _).Nodup; rw [rn k' h]; exact c.rNd k'
  . obtain ⟨b,q1,q2⟩:=c.wRow e (λ z=>by cases z) hwt
    refine ⟨b,q1,?_⟩
    show (e,b.wr)∈up s.rows k r b.key
    by_cases h:b.key=k
    . rw [h,rk]
      rw [h,hr] at q2
      rcases List.mem_cons.mp q2 with z | z
      . exact absurd (congrArg some (congrArg Prod.fst z)) he
      . exact z
    . rw [rn _ h]; exact q2
  . obtain ⟨q1,q2⟩:=c.zfu k' h'
    have:k'≠k:=λ z=>by subst z; rw [hr] at q2; cases q2
    exact ⟨q1,by show up s.rows k r k'=_; rw [rn k' this]; exact q2⟩
 have hks:k∈s.seen:=by
  by_cases z:k∈s.seen
  . exact z
  . have:=(c.zfu k z).2; rw [hr] at this; cases this
 have c2:Core (TH.take { s with rows:=up s.rows k r } d k w) (some d):=c1.take (.inr hw) hl (λ hwf w' z=>by
  obtain ⟨_,q⟩:=c.zgf k d w w' hm z
  rw [hwf] at q; cases q) (λ w' z=>nor k w' z) hks
 refine c2.doIt (w:=w) (.inr hw) nor ?_ λ z=>by have ew':a.wr=w:=ew; rw [<-ew']; exact z
 show (d,w)∈up s.held k (zbf (s.held k) d w) a.key
 rw [ek,zag]
 exact zaY.mpr (.inl rfl)
theorem Core.zby {k:K}:∀ {f:Nat} {s:HS K},Core s none->Core (TH.zby f s k) none
 | 0,s,c=>c
 | f+1,s,c=>by
  unfold TH.zby
  split
  . exact c
  . rename_i d w r hr
    split
    . rename_i hl
      split
      . rename_i a ha
        exact Core.zby (c.zpC hr hl ha)
      . exact c
    . exact c
theorem Core.zaM:∀ {ks:List K} {s:HS K},Core s none->Core (TH.zaM s ks) none
 | [],s,c=>c
 | k::r,s,c=>by unfold TH.zaM; exact Core.zaM c.zby
variable (ord:List K->List K)
theorem Core.keep {s:HS K} {d:Nat} (c:Core s none) (hd:(s.deed d).act):Core (TH.keep ord s d) none:=Core.zaM (c.keeps hd)
theorem Core.drop {s:HS K} {d:Nat} (c:Core s none) (hd:(s.deed d).act):Core (TH.drop ord s d) none:=Core.zaM (c.drops hd)
theorem zhk {s:HS K} {d e:Nat} (h:e∈zbQ s d):(s.deed d).st=.waiting:=by
 unfold zbQ at h
 split at h
 . rename_i q _; exact q
 . cases h
theorem zaT {s:HS K} {d e:Nat} (h:Reach s d e):(s.deed d).st=.waiting:=by
 cases h with
 | one q=>exact zhk q
 | step q _=>exact zhk q
theorem zbR {s:HS K} {d:Nat} (h:d∈rings s):d < s.n/\Reach s d d:=by
 unfold rings at h
 rw [List.mem_filter] at h
 exact ⟨List.mem_range.mp h.1,@of_decide_eq_true _ (_) h.2⟩
theorem Core.settle:∀ {f:Nat} {s:HS K},Core s none->Core (TH.settle ord f s) none
 | 0,s,c=>c
 | f+1,s,c=>by
  unfold TH.settle
  split
  . exact c
  . rename_i d hd
    have:=zbR (List.mem_of_getLast? hd)
    exact Core.settle (c.drop ord (.inr (zaT this.2)))
theorem Core.za6 {s:HS K} (c:Core s none):Core (TH.za6 s) none:=by
 have o:=c.out s.n (Nat.le_refl _)
 have dd:∀ e,e≠s.n->up s.deed s.n ⟨.zaq,[],none⟩ e=s.deed e:=λ e he=>zan he
 have ds:up s.deed s.n (⟨.zaq,[],none⟩:Deed K) s.n=⟨.zaq,[],none⟩:=zag
 have nn:∀ {e},(s.deed e).act->e≠s.n:=λ h z=>by subst z; exact zeR h o.1
 have nk:∀ e∈s.kept,e≠s.n:=λ e he z=>by subst z; have:=(c.zdp _).mp he; rw [o.1] at this; cases this
 have dn:∀ e,(up s.deed s.n ⟨.zaq,[],none⟩ e).done=(s.deed e).done:=λ e=>by
   by_cases h:e=s.n
   . subst h; rw [ds,o.2]
   . rw [dd e h]
 have kb:zas (TH.za6 s)=zas s:=zbs λ e _=>dn e
 refine ⟨λ e he=>?_,λ k p hp=>?_,c.hNd,c.hEx,λ k p hp=>?_,c.rNd,λ e _ he=>?_,c.zgf,λ e he a ha=>?_,c.zfu,λ e he k v hv=>?_,λ k hk=>?_,?_,λ e he=>?_,λ e=>?_,c.zh0⟩
 . have he':s.n+1<=e:=he
   show (up s.deed s.n _ e).st=_/\(up s.deed s.n _ e).done=_
   rw [dd e (by omega)]; exact c.out e (by omega)
 . have q:=c.hAct k p hp
   show (up s.deed s.n _ p.1).act
   rw [dd _ (nn q)]; exact q
 . have q:=c.rAct k p hp
   show (up s.deed s.n _ p.1).st=_/\∃ a,(up s.deed s.n _ p.1).wish=some a/\_
   rw [dd _ (nn (.inr q.1))]; exact q
 . have he':(up s.deed s.n ⟨.zaq,[],none⟩ e).st=.waiting:=he
   have hne:e≠s.n:=λ z=>by subst z; rw [ds] at he'; cases he'
   rw [dd e hne] at he'
   obtain ⟨a,q1,q2⟩:=c.wRow e (λ z=>by cases z) he'
   exact ⟨a,by show (up s.deed s.n _ e).wish=_; rw [dd e hne]; exact q1,q2⟩
 . have ha':a∈(up s.deed s.n ⟨.zaq,[],none⟩ e).done:=ha
   by_cases h:e=s.n
   . subst h; rw [ds] at ha'; cases ha'
   . rw [dd e h] at ha'
     have he':(up s.deed s.n ⟨.zaq,[],none⟩ e).act:=he
     rw [dd e h] at he'
     exact c.zfS e he' a ha'
 . have hv':zaQ (up s.deed s.n ⟨.zaq,[],none⟩ e).done k=some v:=hv
   by_cases h:e=s.n
   . subst h; rw [ds] at hv'; cases hv'
   . have he':(up s.deed s.n ⟨.zaq,[],none⟩ e).act:=he
     rw [dd e h] at he' hv'
     exact c.bOwn e he' k v hv'
 . rw [kb]
   refine c.zg5 k λ e he=>?_
   have q:zaQ (up s.deed s.n ⟨.zaq,[],none⟩ e).done k=none:=hk e (by show (up s.deed s.n _ e).act; rw [dd e (nn he)]; exact he)
   rw [dn e] at q; exact q
 . rw [kb,<-c.ser]; exact zcq λ e _=>dn e
 . rw [kb]
   show (replay (up s.deed s.n _ e).done _).isSome=true
   by_cases h:e=s.n
   . subst h; rw [ds]; rfl
   . have he':(up s.deed s.n ⟨.zaq,[],none⟩ e).act:=he
     rw [dd e h] at he' ⊢
     exact c.actR e he'
 . show e∈s.kept↔(up s.deed s.n _ e).st=.kept
   by_cases h:e=s.n
   . subst h; rw [ds]; exact ⟨λ z=>absurd rfl (nk _ z),λ z=>by cases z⟩
   . rw [dd e h]; exact c.zdp e
theorem Core.see {s:HS K} {x:Option Nat} {k:K} (c:Core s x):Core (TH.see s k) x :=
 ⟨c.out,c.hAct,c.hNd,c.hEx,c.rAct,c.rNd,c.wRow,c.zgf,c.zfS,λ k' h=>c.zfu k' λ z=>h (by
  show k'∈(if k∈s.seen then s.seen else s.seen++[k])
  split
  . exact z
  . exact List.mem_append_left _ z),c.bOwn,c.zg5,c.ser,c.actR,c.zdp,c.zh0⟩
theorem zco {s:HS K} {k:K}:k∈(TH.see s k).seen:=by
 show k∈(if k∈s.seen then s.seen else s.seen++[k])
 split
 . assumption
 . simp
theorem zc2 {h:List (Nat×Bool)} {d:Nat} {w:Bool} (e:look h d=some w):(d,w)∈h:=by
 unfold look at e
 cases q:h.find? λ p=>p.1 == d with
 | none=>rw [q] at e; cases e
 | some p =>
  rw [q] at e
  have e2:p.2=w:=Option.some.inj e
  have e1:p.1=d:=by simpa using List.find?_some q
  have:=List.mem_of_find?_eq_some q
  rw [<-e1,<-e2]; exact this
theorem zde {h:List (Nat×Bool)} {d:Nat} {w:Bool} (n:(h.map (·.1)).Nodup) (m:(d,w)∈h):look h d=some w:=by
 unfold look
 induction h with
 | nil=>cases m
 | cons p r ih =>
  rw [List.map_cons,List.nodup_cons] at n
  by_cases e:p.1=d
  . rcases List.mem_cons.mp m with z | z
    . rw [<-z]; simp
    . exact absurd (List.mem_map.mpr ⟨_,z,rfl⟩) (e ▸ n.1)
  . rcases List.mem_cons.mp m with z | z
    . exact absurd (by rw [<-z]) e
    . rw [List.find?_cons_of_neg (by simpa using e)]
      exact ih n.2 z
theorem Core.wait {s:HS K} {d:Nat} {a:Act K} (c:Core s none) (hd:(s.deed d).st=.zaq) (hk:a.key∈s.seen) (h1:∀ w',(d,w')∈s.held a.key->w'=false/\a.wr=true):Core (TH.wait s d a) none:=by
 have dd:∀ e,e≠d->up s.deed d { s.deed d with st:=.waiting,wish:=some a } e=s.deed e:=λ e he=>zan he
 have ds:up s.deed d { s.deed d with st:=.waiting,wish:=some a } d={ s.deed d with st:=.waiting,wish:=some a }:=zag
 have dn:∀ e,(up s.deed d { s.deed d with st:=.waiting,wish:=some a } e).done=(s.deed e).done:=λ e=>by
   by_cases h:e=d
   . subst h; rw [ds]
   . rw [dd e h]
 have actE:∀ e,(up s.deed d { s.deed d with st:=.waiting,wish:=some a } e).act↔(s.deed e).act:=λ e=>by
   by_cases h:e=d
   . subst h; rw [ds]; exact ⟨λ _=>.inl hd,λ _=>.inr rfl⟩
   . rw [dd e h]
 have nk:∀ e∈s.kept,e≠d:=λ e he z=>by subst z; have:=(c.zdp _).mp he; rw [hd] at this; cases this
 have nor:∀ k w',(d,w')∉s.rows k:=λ k w' z=>by
   have:=(c.rAct k _ z).1
   have this':(s.deed d).st=.waiting:=this
   rw [hd] at this'; cases this'
 have kb:zas (TH.wait s d a)=zas s:=zbs λ e _=>dn e
 have rk:(TH.wait s d a).rows a.key=if has (s.held a.key) d then (d,a.wr)::s.rows a.key else s.rows a.key++[(d,a.wr)]:=zag
 have rn:∀ k,k≠a.key->(TH.wait s d a).rows k=s.rows k:=λ k h=>zan h
 have rm:∀ k p,p∈(TH.wait s d a).rows k↔p∈s.rows k\/(k=a.key/\p=(d,a.wr)):=λ k p=>by
   by_cases h:k=a.key
   . subst h
     rw [rk]
     split
     . rw [List.mem_cons]; exact ⟨λ z=>z.elim (λ y=>.inr ⟨rfl,y⟩) .inl,λ z=>z.elim .inr λ y=>.inl y.2⟩
     . rw [List.mem_append]; exact ⟨λ z=>z.elim .inl λ y=>.inr ⟨rfl,by simpa using y⟩,λ z=>z.elim .inl λ y=>.inr (by simp [y.2])⟩
   . rw [rn k h]; exact ⟨.inl,λ z=>z.elim id λ y=>absurd y.1 h⟩
 refine ⟨λ e he=>?_,λ k p hp=>?_,c.hNd,c.hEx,λ k p hp=>?_,λ k=>?_,λ e _ he=>?_,λ k e v v' q1 q2=>?_,λ e he b hb=>?_,λ k hk'=>?_,λ e he k v hv=>?_,λ k hk'=>?_,?_,λ e he=>?_,λ e=>?_,c.zh0⟩
 . have he':s.n<=e:=he
   have:e≠d:=λ z=>by subst z; have:=c.lt (d:=e) (.inl hd); omega
   show (up s.deed d _ e).st=_/\(up s.deed d _ e).done=_
   rw [dd e this]; exact c.out e he'
 . exact (actE p.1).mpr (c.hAct k p hp)
 . show (up s.deed d _ p.1).st=_/\∃ a',(up s.deed d _ p.1).wish=some a'/\_
   rcases (rm k p).mp hp with z | ⟨z1,z2⟩
   . have:p.1≠d:=λ y=>nor k p.2 (by rw [<-y]; exact z)
     rw [dd _ this]; exact c.rAct k p z
   . subst z2; rw [ds]; exact ⟨rfl,a,rfl,z1.symm,rfl⟩
 . by_cases h:k=a.key
   . subst h
     rw [rk]
     split
     . rw [List.map_cons,List.nodup_cons]
       exact ⟨λ z=>by obtain ⟨p,hp,e⟩:=List.mem_map.mp z; exact nor _ p.2 (by have e':p.1=d:=e; rw [<-e']; exact hp),c.rNd _⟩
     . rw [List.map_append]
       refine List.nodup_append.mpr ⟨c.rNd _,by simp,λ x hx y hy=>?_⟩
       have hy':y=d:=by simpa using hy
       subst hy'
       rintro rfl
       obtain ⟨p,hp,e⟩:=List.mem_map.mp hx
       exact nor _ p.2 (by have e':p.1=x:=e; rw [<-e']; exact hp)
   . rw [rn k h]; exact c.rNd k
 . have he':(up s.deed d { s.deed d with st:=.waiting,wish:=some a } e).st=.waiting:=he
   show ∃ b,(up s.deed d _ e).wish=some b/\_
   by_cases h:e=d
   . subst h; rw [ds]; exact ⟨a,rfl,(rm _ _).mpr (.inr ⟨rfl,rfl⟩)⟩
   . rw [dd e h] at he' ⊢
     obtain ⟨b,q1,q2⟩:=c.wRow e (λ z=>by cases z) he'
     exact ⟨b,q1,(rm _ _).mpr (.inl q2)⟩
 . rcases (rm k _).mp q1 with z | ⟨z1,z2⟩
   . exact c.zgf k e v v' z q2
   . have e1:e=d:=congrArg Prod.fst z2
     have e2:v=a.wr:=congrArg Prod.snd z2
     subst e1 e2 z1
     exact h1 v' q2
 . have hb':b∈(up s.deed d { s.deed d with st:=.waiting,wish:=some a } e).done:=hb
   rw [dn e] at hb'
   exact c.zfS e ((actE e).mp he) b hb'
 . have:k≠a.key:=λ z=>hk' (z ▸ hk)
   obtain ⟨q1,q2⟩:=c.zfu k hk'
   exact ⟨q1,by rw [rn k this]; exact q2⟩
 . have hv':zaQ (up s.deed d { s.deed d with st:=.waiting,wish:=some a } e).done k=some v:=hv
   rw [dn e] at hv'
   exact c.bOwn e ((actE e).mp he) k v hv'
 . rw [kb]
   refine c.zg5 k λ e he=>?_
   have q:zaQ (up s.deed d { s.deed d with st:=.waiting,wish:=some a } e).done k=none:=hk' e ((actE e).mpr he)
   rw [dn e] at q; exact q
 . rw [kb,<-c.ser]; exact zcq λ e _=>dn e
 . rw [kb]
   show (replay (up s.deed d _ e).done _).isSome=true
   rw [dn e]; exact c.actR e ((actE e).mp he)
 . show e∈s.kept↔(up s.deed d _ e).st=.kept
   by_cases h:e=d
   . subst h; rw [ds]; exact ⟨λ z=>absurd rfl (nk _ z),λ z=>by cases z⟩
   . rw [dd e h]; exact c.zdp e
theorem Core.weaken {s:HS K} {x:Option Nat} (c:Core s none):Core s x :=
 ⟨c.out,c.hAct,c.hNd,c.hEx,c.rAct,c.rNd,λ d _=>c.wRow d (λ z=>by cases z),c.zgf,c.zfS,c.zfu,c.bOwn,c.zg5,c.ser,c.actR,c.zdp,c.zh0⟩
theorem Core.wish {s:HS K} {d:Nat} {a:Act K} (c:Core s none) (hd:(s.deed d).st=.zaq):Core (TH.wish ord s d a) none:=by
 have c1:Core (TH.see s a.key) none:=c.see
 have nor:∀ k w',(d,w')∉(TH.see s a.key).rows k:=λ k w' z=>by
   have:=(c1.rAct k _ z).1
   have this':(s.deed d).st=.waiting:=this
   rw [hd] at this'; cases this'
 unfold TH.wish
 dsimp only
 by_cases h1:look ((TH.see s a.key).held a.key) d=some a.wr\/look ((TH.see s a.key).held a.key) d=some true
 . rw [if_pos h1]
   rcases h1 with h1 | h1
   . exact Core.doIt (w:=a.wr) c1.weaken (.inl hd) nor (zc2 h1) id
   . exact Core.doIt (w:=true) c1.weaken (.inl hd) nor (zc2 h1) λ _=>rfl
 . rw [if_neg h1]
   have hw:∀ w',(d,w')∈(TH.see s a.key).held a.key->w'=false/\a.wr=true:=λ w' z=>by
     have q:=zde (c1.hNd _) z
     cases hw':w' with
     | true=>exact absurd (.inr (hw' ▸ q)) h1
     | false =>
       cases ha:a.wr with
       | true=>exact ⟨rfl,rfl⟩
       | false=>exact absurd (.inl (by rw [ha,q,hw'])) h1
   by_cases h2:lets ((TH.see s a.key).held a.key) d a.wr=true/\(has ((TH.see s a.key).held a.key) d=true\/(TH.see s a.key).rows a.key=[])
   . rw [if_pos h2]
     refine Core.doIt (w:=a.wr) (c1.weaken.take (.inl hd) h2.1 (λ hf w' z=>?_) (λ w'=>nor _ w') zco) (.inl hd) nor ?_ id
     . have:=(hw w' z).2; rw [hf] at this; cases this
     . show (d,a.wr)∈up (TH.see s a.key).held a.key _ a.key
       rw [zag]; exact zaY.mpr (.inl rfl)
   . rw [if_neg h2]
     exact Core.settle ord (c1.wait hd zco hw)
end
end TH
end
section
namespace TH
section
variable {K:Type} [DecidableEq K]
theorem zct (s:HS K) (d:Nat) (a:Act K):(doIt s d a).held=s.held:=by unfold doIt; split <;> rfl
theorem zcS (s:HS K) (d:Nat) (a:Act K):(doIt s d a).rows=s.rows:=by unfold doIt; split <;> rfl
theorem zcd (s:HS K) (d:Nat) (a:Act K):(doIt s d a).seen=s.seen:=by unfold doIt; split <;> rfl
theorem zdN (s:HS K) (d:Nat) (a:Act K):(doIt s d a).n=s.n:=by unfold doIt; split <;> rfl
theorem zek (s:HS K) (d:Nat) (a:Act K):(doIt s d a).kept=s.kept:=by unfold doIt; split <;> rfl
theorem zcE (s:HS K) (d:Nat) (a:Act K) {e:Nat} (h:e≠d):(doIt s d a).deed e=s.deed e:=by unfold doIt; split <;> exact zan h
theorem zh9 (s:HS K) (d:Nat) (a:Act K):((doIt s d a).deed d).st=.zaq:=by
 unfold doIt
 split
 . show (up s.deed d _ d).st=_; rw [zag]
 . show (up s.deed d _ d).st=_; rw [zag]
theorem zex {s:HS K} {k:K} {d:Nat} {w:Bool} {r:List (Nat×Bool)} {a:Act K} {f:Nat} (hr:s.rows k=(d,w)::r) (hl:lets (s.held k) d w=true) (ha:(s.deed d).wish=some a) :
  zby (f+1) s k=zby f (doIt (take { s with rows:=up s.rows k r } d k w) d a) k:=by
 conv=>lhs; unfold zby
 rw [hr]
 simp only [hl,if_true,ha]
theorem zew {s:HS K} {k:K} {d:Nat} {w:Bool} {r:List (Nat×Bool)} {f:Nat} (hr:s.rows k=(d,w)::r) (hl:lets (s.held k) d w=false):zby f s k=s:=by
 cases f with
 | zero=>rfl
 | succ f =>
  unfold zby
  rw [hr]
  simp [hl]
theorem zfO {s:HS K} {k:K} {f:Nat} (hr:s.rows k=[]):zby f s k=s:=by
 cases f with
 | zero=>rfl
 | succ f=>unfold zby; rw [hr]
theorem zej {k:K} (P:HS K->Prop) (step:∀ s d w r a,Core s none->s.rows k=(d,w)::r->lets (s.held k) d w=true->(s.deed d).wish=some a->P s->P (doIt (take { s with rows:=up s.rows k r } d k w) d a)) :
  ∀ (f:Nat) (s:HS K),Core s none->P s->P (zby f s k)
 | 0,s,c,h=>h
 | f+1,s,c,h=>by
  cases hr:s.rows k with
  | nil=>rw [zfO hr]; exact h
  | cons p r =>
   obtain ⟨d,w⟩:=p
   cases hl:lets (s.held k) d w with
   | false=>rw [zew hr hl]; exact h
   | true =>
    obtain ⟨_,a,ha,_⟩:=c.rAct k (d,w) (by rw [hr]; exact List.mem_cons_self)
    rw [zex hr hl ha]
    exact zej P step f _ (c.zpC hr hl ha) (step s d w r a c hr hl ha h)
theorem zbM (P:HS K->Prop) (step:∀ s k d w r a,Core s none->s.rows k=(d,w)::r->lets (s.held k) d w=true->(s.deed d).wish=some a->P s->P (doIt (take { s with rows:=up s.rows k r } d k w) d a)) :
  ∀ (ks:List K) (s:HS K),Core s none->P s->P (zaM s ks)
 | [],s,c,h=>h
 | k::r,s,c,h=>by
  unfold zaM
  exact zbM P step r _ c.zby (zej P (λ s=>step s k) _ s c h)
def zny (s:HS K) (k:K):Prop:=∀ d w r,s.rows k=(d,w)::r->lets (s.held k) d w=false
def Head (s:HS K):Prop:=∀ k,zny s k
theorem zh7 {k k':K} (h:k'≠k) (f:Nat) (s:HS K) (c:Core s none):(zby f s k).rows k'=s.rows k'/\(zby f s k).held k'=s.held k':=by
 refine zej (k:=k) (λ t=>t.rows k'=s.rows k'/\t.held k'=s.held k') (λ t d w r a _ _ _ _ q=>?_) f s c ⟨rfl,rfl⟩
 rw [zcS,zct]
 exact ⟨(zan h).trans q.1,(zan h).trans q.2⟩
theorem zi8 {k:K}:∀ (f:Nat) (s:HS K),Core s none->(s.rows k).length<=f->zny (zby f s k) k
 | 0,s,c,h=>λ d w r e=>by
  have:s.rows k=[]:=List.length_eq_zero_iff.mp (by omega)
  have e':s.rows k=(d,w)::r:=e
  rw [this] at e'; cases e'
 | f+1,s,c,h=>by
  cases hr:s.rows k with
  | nil=>rw [zfO hr]; intro d w r e; rw [hr] at e; cases e
  | cons p r =>
   obtain ⟨d,w⟩:=p
   cases hl:lets (s.held k) d w with
   | false=>rw [zew hr hl]; intro d' w' r' e; rw [hr] at e; cases e; exact hl
   | true =>
    obtain ⟨_,a,ha,_⟩:=c.rAct k (d,w) (by rw [hr]; exact List.mem_cons_self)
    rw [zex hr hl ha]
    refine zi8 f _ (c.zpC hr hl ha) ?_
    rw [zcS]
    show (up s.rows k r k).length<=f
    rw [zag]
    rw [hr] at h
    simpa using h
theorem zh6:∀ (ks:List K) (s:HS K),Core s none->∀ k,(k∈ks->zny (zaM s ks) k)/\(k∉ks->(zaM s ks).rows k=s.rows k/\(zaM s ks).held k=s.held k)
 | [],s,c,k=>⟨λ h=>(by cases h),λ _=>⟨rfl,rfl⟩⟩
 | k₀::r,s,c,k=>by
  unfold zaM
  obtain ⟨h1,h2⟩:=zh6 r _ (c.zby (k:=k₀) (f:=(s.rows k₀).length)) k
  refine ⟨λ hk=>?_,λ hk=>?_⟩
  . by_cases hr:k∈r
    . exact h1 hr
    . have e:k=k₀:=(List.mem_cons.mp hk).resolve_right hr
      subst e
      obtain ⟨q1,q2⟩:=h2 hr
      intro d w r' e
      rw [q1] at e
      rw [q2]
      exact zi8 _ s c (Nat.le_refl _) d w r' e
  . obtain ⟨q1,q2⟩:=h2 λ z=>hk (List.mem_cons_of_mem _ z)
    obtain ⟨p1,p2⟩:=zh7 (k':=k) (λ z=>hk (by rw [z]; exact List.mem_cons_self)) (s.rows k₀).length s c
    exact ⟨q1.trans p1,q2.trans p2⟩
theorem zdE (ks:List K) (s:HS K) (c:Core s none):(zaM s ks).seen=s.seen :=
 zbM (λ t=>t.seen=s.seen) (λ t k d w r a _ _ _ _ q=>by rw [zcd]; exact q) ks s c rfl
theorem zj1 (ks:List K) (s:HS K) (c:Core s none):(zaM s ks).n=s.n :=
 zbM (λ t=>t.n=s.n) (λ t k d w r a _ _ _ _ q=>by rw [zdN]; exact q) ks s c rfl
variable (ord:List K->List K) (hord:∀ l k,k∈ord l↔k∈l)
include hord
theorem zli {s:HS K} {d:Nat} (c:Core (letGo s d) none):Head (free ord s d):=by
 intro k
 by_cases hk:k∈s.seen
 . exact (zh6 (ord s.seen) _ c k).1 ((hord _ _).mpr hk)
 . intro d' w r e
   have c':Core (free ord s d) none:=c.zaM
   have:=(c'.zfu k (by unfold free; rw [zdE _ _ c]; exact hk)).2
   rw [this] at e; cases e
theorem Head.keep {s:HS K} {d:Nat} (c:Core s none) (hd:(s.deed d).act):Head (TH.keep ord s d):=zli ord hord (c.keeps hd)
theorem Head.drop {s:HS K} {d:Nat} (c:Core s none) (hd:(s.deed d).act):Head (TH.drop ord s d):=zli ord hord (c.drops hd)
theorem Head.settle:∀ {f:Nat} {s:HS K},Core s none->Head s->Head (TH.settle ord f s)
 | 0,s,c,h=>h
 | f+1,s,c,h=>by
  unfold TH.settle
  split
  . exact h
  . rename_i d hd
    have q:=zbR (List.mem_of_getLast? hd)
    have ha:(s.deed d).act:=.inr (zaT q.2)
    exact Head.settle (c.drop ord ha) (Head.drop ord hord c ha)
theorem zsf {h:List (Nat×Bool)} {d:Nat}:has h d=true↔∃ w,(d,w)∈h:=zim
theorem Head.wish {s:HS K} {d:Nat} {a:Act K} (c:Core s none) (h:Head s) (hd:(s.deed d).st=.zaq):Head (TH.wish ord s d a):=by
 have c1:Core (TH.see s a.key) none:=c.see
 have h':Head (TH.see s a.key):=h
 have nor:∀ k w',(d,w')∉(TH.see s a.key).rows k:=λ k w' z=>by
   have:=(c1.rAct k _ z).1
   have this':(s.deed d).st=.waiting:=this
   rw [hd] at this'; cases this'
 unfold TH.wish
 dsimp only
 by_cases h1:look ((TH.see s a.key).held a.key) d=some a.wr\/look ((TH.see s a.key).held a.key) d=some true
 . rw [if_pos h1]
   intro k e w r q
   rw [zcS] at q; rw [zct]
   exact h' k e w r q
 . rw [if_neg h1]
   have hw:∀ w',(d,w')∈(TH.see s a.key).held a.key->w'=false/\a.wr=true:=λ w' z=>by
     have q:=zde (c1.hNd _) z
     cases hw':w' with
     | true=>exact absurd (.inr (hw' ▸ q)) h1
     | false =>
       cases ha:a.wr with
       | true=>exact ⟨rfl,rfl⟩
       | false=>exact absurd (.inl (by rw [ha,q,hw'])) h1
   by_cases h2:lets ((TH.see s a.key).held a.key) d a.wr=true/\(has ((TH.see s a.key).held a.key) d=true\/(TH.see s a.key).rows a.key=[])
   . rw [if_pos h2]
     intro k e w r q
     rw [zcS] at q; rw [zct]
     have q':(TH.see s a.key).rows k=(e,w)::r:=q
     show lets (up (TH.see s a.key).held a.key _ k) e w=false
     by_cases hk:k=a.key
     . subst hk
       rw [zag]
       rcases h2.2 with z | z
       . obtain ⟨w',hw'⟩:=zsf ord hord |>.mp z
         have aw:=(hw w' hw').2
         have hne:e≠d:=λ y=>nor a.key w (by rw [<-y,q']; exact List.mem_cons_self)
         cases hl:lets (zbf ((TH.see s a.key).held a.key) d a.wr) e w with
         | false=>rfl
         | true =>
          have:=(zne.mp hl (d,a.wr) (zaY.mpr (.inl rfl)) (Ne.symm hne)).2
          have this':a.wr=false:=this
          rw [aw] at this'; cases this'
       . rw [z] at q'; cases q'
     . rw [zan hk]; exact h' k e w r q'
   . rw [if_neg h2]
     refine Head.settle ord hord (c1.wait hd zco hw) λ k e w r q=>?_
     show lets ((TH.see s a.key).held k) e w=false
     by_cases hk:k=a.key
     . subst hk
       have q':(if has ((TH.see s a.key).held a.key) d then (d,a.wr)::(TH.see s a.key).rows a.key else (TH.see s a.key).rows a.key++[(d,a.wr)])=(e,w)::r:=by
         rw [<-q]; exact zag.symm
       cases hh:has ((TH.see s a.key).held a.key) d with
       | true =>
         rw [hh] at q'
         simp only [if_true] at q'
         injection q' with e1 e2
         have e3:d=e:=congrArg Prod.fst e1
         have e4:a.wr=w:=congrArg Prod.snd e1
         subst e3 e4
         cases hl:lets ((TH.see s a.key).held a.key) d a.wr with
         | false=>rfl
         | true=>exact absurd ⟨hl,.inl hh⟩ h2
       | false =>
         rw [hh] at q'
         simp only [Bool.false_eq_true,if_false] at q'
         cases hr:(TH.see s a.key).rows a.key with
         | nil =>
          rw [hr] at q'
          simp only [List.nil_append] at q'
          injection q' with e1 e2
          have e3:d=e:=congrArg Prod.fst e1
          have e4:a.wr=w:=congrArg Prod.snd e1
          subst e3 e4
          cases hl:lets ((TH.see s a.key).held a.key) d a.wr with
          | false=>rfl
          | true=>exact absurd ⟨hl,.inr hr⟩ h2
         | cons p t =>
          rw [hr] at q'
          simp only [List.cons_append] at q'
          injection q' with e1 e2
          subst e1
          exact h' a.key e w t hr
     . have q':(TH.see s a.key).rows k=(e,w)::r:=by rw [<-q]; exact (zan hk).symm
       exact h' k e w r q'
omit hord
def Acyc (s:HS K):Prop:=∀ d,¬ Reach s d d
theorem Reach.mono {s t:HS K} (h:∀ d e,e∈zbQ t d->e∈zbQ s d) {d e:Nat} (r:Reach t d e):Reach s d e:=by
 induction r with
 | one q=>exact .one (h _ _ q)
 | step q _ ih=>exact .step (h _ _ q) ih
theorem Acyc.mono {s t:HS K} (a:Acyc s) (h:∀ d e,e∈zbQ t d->e∈zbQ s d):Acyc t:=λ d r=>a d (r.mono h)
theorem Reach.trans {s:HS K} {d e f:Nat} (r:Reach s d e) (q:Reach s e f):Reach s d f:=by
 induction r with
 | one z=>exact .step z q
 | step z _ ih=>exact .step z (ih q)
theorem zbw {s:HS K} {d e:Nat}:e∈zbQ s d↔∃ a,(s.deed d).st=.waiting/\(s.deed d).wish=some a /\
   ((∃ w,(e,w)∈(s.rows a.key).takeWhile λ p=>p.1 != d)\/∃ w,(e,w)∈s.held a.key/\e≠d/\(a.wr=true\/w=true)):=by
 unfold zbQ
 split
 . rename_i a h1 h2
   rw [List.mem_append,List.mem_map,List.mem_map]
   refine ⟨λ z=>⟨a,h1,h2,?_⟩,λ ⟨b,q1,q2,z⟩=>?_⟩
   . rcases z with ⟨p,hp,rfl⟩ | ⟨p,hp,rfl⟩
     . exact .inl ⟨p.2,hp⟩
     . rw [List.mem_filter] at hp
       obtain ⟨y1,y2⟩:=hp
       simp only [Bool.and_eq_true,bne_iff_ne,Bool.or_eq_true] at y2
       exact .inr ⟨p.2,y1,y2.1,y2.2⟩
   . rw [h2] at q2; cases q2
     rcases z with ⟨w,hw⟩ | ⟨w,hw,y1,y2⟩
     . exact .inl ⟨_,hw,rfl⟩
     . refine .inr ⟨(e,w),List.mem_filter.mpr ⟨hw,?_⟩,rfl⟩
       simp only [Bool.and_eq_true,bne_iff_ne,Bool.or_eq_true]
       exact ⟨y1,y2⟩
 . rename_i h
   refine ⟨λ z=>(by cases z),λ ⟨a,q1,q2,_⟩=>(h a q1 q2).elim⟩
theorem zit {l:List (Nat×Bool)} {d e:Nat} (hne:e≠d) {p:Nat×Bool}:p∈(less l d).takeWhile (λ p=>p.1 != e)->p∈l.takeWhile λ p=>p.1 != e:=by
 induction l with
 | nil=>exact id
 | cons x r ih =>
  intro hp
  by_cases hx:x.1=d
  . have e1:less (x::r) d=less r d:=by unfold less; rw [List.filter_cons_of_neg (by simp [hx])]
    rw [e1] at hp
    rw [List.takeWhile_cons_of_pos (by simp [hx]; exact Ne.symm hne)]
    exact List.mem_cons_of_mem _ (ih hp)
  . have e1:less (x::r) d=x::less r d:=by unfold less; rw [List.filter_cons_of_pos (by simp [hx])]
    rw [e1] at hp
    by_cases hy:x.1=e
    . rw [List.takeWhile_cons_of_neg (by simp [hy])] at hp; cases hp
    . rw [List.takeWhile_cons_of_pos (by simp [hy])] at hp ⊢
      rcases List.mem_cons.mp hp with z | z
      . exact List.mem_cons.mpr (.inl z)
      . exact List.mem_cons_of_mem _ (ih z)
theorem zeS {s:HS K} {d:Nat} {t:DS} {bk:Book K} {kp:List Nat} {lg:List (Row K)} (ht:t≠.waiting):∀ e x,x∈zbQ (letGo { s with deed:=up s.deed d { s.deed d with st:=t },book:=bk,kept:=kp,log:=lg } d) e->x∈zbQ s e:=by
 intro e x hx
 obtain ⟨a,h1,h2,h3⟩:=zbw.mp hx
 have hne:e≠d:=λ z=>by
   subst z
   have h1':(up s.deed e { s.deed e with st:=t } e).st=.waiting:=h1
   rw [zag] at h1'
   exact ht h1'
 have de:up s.deed d { s.deed d with st:=t } e=s.deed e:=zan hne
 have h1':(up s.deed d { s.deed d with st:=t } e).st=.waiting:=h1
 have h2':(up s.deed d { s.deed d with st:=t } e).wish=some a:=h2
 rw [de] at h1' h2'
 refine zbw.mpr ⟨a,h1',h2',?_⟩
 rcases h3 with ⟨w,hw⟩ | ⟨w,hw,y1,y2⟩
 . exact .inl ⟨w,zit hne hw⟩
 . exact .inr ⟨w,(zcI.mp hw).1,y1,y2⟩
theorem zkp {s:HS K} {k:K} {d:Nat} {w:Bool} {r:List (Nat×Bool)} {a:Act K} (hr:s.rows k=(d,w)::r) :
   ∀ e x,x∈zbQ (doIt (take { s with rows:=up s.rows k r } d k w) d a) e->x∈zbQ s e:=by
 intro e x hx
 obtain ⟨b,h1,h2,h3⟩:=zbw.mp hx
 have hne:e≠d:=λ z=>by
   subst z
   rw [zh9] at h1; cases h1
 rw [zcE _ _ _ hne] at h1 h2
 rw [zcS,zct] at h3
 refine zbw.mpr ⟨b,h1,h2,?_⟩
 by_cases hk:b.key=k
 . have e1:(take { s with rows:=up s.rows k r } d k w).rows b.key=r:=by show up s.rows k r b.key=r; rw [hk,zag]
   have e2:(take { s with rows:=up s.rows k r } d k w).held b.key=zbf (s.held k) d w:=by show up s.held k (zbf (s.held k) d w) b.key=_; rw [hk,zag]
   rw [e1,e2] at h3
   rw [hk,hr,List.takeWhile_cons_of_pos (by simp; exact Ne.symm hne)]
   rcases h3 with ⟨v,hv⟩ | ⟨v,hv,y1,y2⟩
   . exact .inl ⟨v,List.mem_cons_of_mem _ hv⟩
   . rcases zaY.mp hv with z | ⟨z1,z2⟩
     . exact .inl ⟨w,by have z':x=d:=congrArg Prod.fst z; rw [z']; exact List.mem_cons_self⟩
     . exact .inr ⟨v,z1,y1,y2⟩
 . have e1:(take { s with rows:=up s.rows k r } d k w).rows b.key=s.rows b.key:=zan hk
   have e2:(take { s with rows:=up s.rows k r } d k w).held b.key=s.held b.key:=zan hk
   rw [e1,e2] at h3
   exact h3
theorem zd1 {s:HS K} {ks:List K} (c:Core s none):∀ e x,x∈zbQ (zaM s ks) e->x∈zbQ s e :=
 zbM (λ t=>∀ e x,x∈zbQ t e->x∈zbQ s e) (λ t k d w r a _ hr _ _ q e x hx=>q e x (zkp hr e x hx)) ks s c λ _ _ h=>h
theorem Acyc.keep {s:HS K} {d:Nat} (c:Core s none) (hd:(s.deed d).act) (a:Acyc s):Acyc (TH.keep ord s d) :=
 a.mono λ e x hx=>zeS (t:=.kept) (by decide) e x (zd1 (c.keeps hd) e x hx)
theorem Acyc.drop {s:HS K} {d:Nat} (c:Core s none) (hd:(s.deed d).act) (a:Acyc s):Acyc (TH.drop ord s d) :=
 a.mono λ e x hx=>zeS (t:=.dropped) (by decide) e x (zd1 (c.drops hd) e x hx)
def actB (D:Deed K):Bool:=D.st == .zaq || D.st == .waiting
theorem zaS {D:Deed K}:actB D=true↔D.act:=by unfold actB Deed.act; simp
def actN (s:HS K):Nat:=(List.range s.n).countP λ d=>actB (s.deed d)
theorem zfU {α:Type} {p q:α->Bool}:∀ {l:List α},(∀ x∈l,q x=true->p x=true)->(∃ x∈l,p x=true/\q x=false)->l.countP q < l.countP p
 | [],_,⟨_,h,_⟩=>by cases h
 | a::r,h,⟨x,hx,px,qx⟩=>by
  have hr:∀ y∈r,q y=true->p y=true:=λ y hy=>h y (List.mem_cons_of_mem _ hy)
  have le:r.countP q<=r.countP p:=List.countP_mono_left hr
  rcases List.mem_cons.mp hx with z | z
  . subst z
    rw [List.countP_cons_of_pos px,List.countP_cons_of_neg (by simp [qx])]
    omega
  . have lt:=zfU hr ⟨x,z,px,qx⟩
    by_cases hq:q a=true
    . rw [List.countP_cons_of_pos hq,List.countP_cons_of_pos (h a List.mem_cons_self hq)]; omega
    . rw [List.countP_cons_of_neg hq]
      by_cases hp:p a=true
      . rw [List.countP_cons_of_pos hp]; omega
      . rw [List.countP_cons_of_neg hp]; exact lt
theorem zog {s:HS K} {ks:List K} (c:Core s none):∀ e,((zaM s ks).deed e).act↔(s.deed e).act :=
 zbM (λ t=>∀ e,(t.deed e).act↔(s.deed e).act) (λ t k d w r a c' hr _ _ q e=>by
  by_cases h:e=d
  . subst h
    have hw:=(c'.rAct k (e,w) (by rw [hr]; exact List.mem_cons_self)).1
    exact ⟨λ _=>(q e).mp (.inr hw),λ _=>.inl (zh9 _ _ _)⟩
  . rw [zcE _ _ _ h]; exact q e) ks s c λ _=>Iff.rfl
theorem zq7 {s:HS K} {d:Nat} (c:Core s none) (hd:(s.deed d).act) (e:Nat):((TH.drop ord s d).deed e).act↔e≠d/\(s.deed e).act:=by
 refine (zog (c.drops hd) e).trans ?_
 show (up s.deed d { s.deed d with st:=.dropped } e).act↔_
 by_cases h:e=d
 . subst h; rw [zag]; exact ⟨λ z=>(by rcases z with z | z <;> cases z),λ z=>absurd rfl z.1⟩
 . rw [zan h]; exact ⟨λ z=>⟨h,z⟩,λ z=>z.2⟩
theorem zk1 {s:HS K} {d:Nat} (c:Core s none) (hd:(s.deed d).act):(TH.drop ord s d).n=s.n:=zj1 _ _ (c.drops hd)
theorem zrh {s:HS K} {d:Nat} (c:Core s none) (hd:(s.deed d).act):(TH.keep ord s d).n=s.n:=zj1 _ _ (c.keeps hd)
theorem zsw {s t:HS K} {d:Nat} (hn:t.n=s.n) (h:∀ e,(t.deed e).act↔e≠d/\(s.deed e).act) (hd:(s.deed d).act) (hlt:d < s.n):actN t < actN s:=by
 unfold actN
 rw [hn]
 refine zfU (λ e _ q=>zaS.mpr ((h e).mp (zaS.mp q)).2) ⟨d,List.mem_range.mpr hlt,zaS.mpr hd,?_⟩
 cases q:actB (t.deed d) with
 | false=>rfl
 | true=>exact absurd rfl ((h d).mp (zaS.mp q)).1
theorem zlB {s:HS K} {d:Nat} (c:Core s none) (hd:(s.deed d).act):actN (TH.drop ord s d) < actN s:=zsw (zk1 ord c hd) (zq7 ord c hd) hd (c.lt hd)
theorem znR {s:HS K} (c:Core s none) (h:rings s=[]):Acyc s:=λ d r=>by
 have hd:=c.lt (d:=d) (.inr (zaT r))
 have:d∈rings s:=by
  unfold rings
  rw [List.mem_filter]
  exact ⟨List.mem_range.mpr hd,@decide_eq_true _ (_) r⟩
 rw [h] at this; cases this
theorem zho:∀ {f:Nat} {s:HS K},Core s none->actN s<=f->Acyc (TH.settle ord f s)
 | 0,s,c,h=>λ d r=>by
  have hd:(s.deed d).act:=.inr (zaT r)
  have hlt:=c.lt hd
  have:0 < actN s:=by
    unfold actN
    exact List.countP_pos_iff.mpr ⟨d,List.mem_range.mpr hlt,zaS.mpr hd⟩
  omega
 | f+1,s,c,h=>by
  unfold TH.settle
  split
  . rename_i q
    exact znR c (List.getLast?_eq_none_iff.mp q)
  . rename_i d hd
    have q:=zbR (List.mem_of_getLast? hd)
    have ha:(s.deed d).act:=.inr (zaT q.2)
    refine zho (c.drop ord ha) ?_
    have:=zlB ord c ha
    omega
theorem zp5 (s:HS K):actN s<=s.n:=by
 unfold actN
 have:=List.countP_le_length (p:=λ d=>actB (s.deed d)) (l:=List.range s.n)
 rwa [List.length_range] at this
theorem Acyc.za6 {s:HS K} (c:Core s none) (a:Acyc s):Acyc (TH.za6 s):=a.mono λ e x hx=>by
 obtain ⟨b,h1,h2,h3⟩:=zbw.mp hx
 have h1':(up s.deed s.n ⟨.zaq,[],none⟩ e).st=.waiting:=h1
 have h2':(up s.deed s.n ⟨.zaq,[],none⟩ e).wish=some b:=h2
 have hne:e≠s.n:=λ z=>by subst z; rw [zag] at h1'; cases h1'
 rw [zan hne] at h1' h2'
 exact zbw.mpr ⟨b,h1',h2',h3⟩
theorem Acyc.into {s t:HS K} {d:Nat} (a:Acyc s) (hd:(t.deed d).st≠.waiting) (h:∀ e x,x∈zbQ t e->x=d\/x∈zbQ s e):Acyc t:=by
 have key:∀ x y,Reach t x y->y=d\/Reach s x y:=λ x y r=>by
   induction r with
   | one q=>exact (h _ _ q).imp id .one
   | step q r ih =>
    rcases h _ _ q with z | z
    . subst z; exact absurd (zaT r) hd
    . exact ih.imp id (.step z)
 intro x r
 rcases key x x r with z | z
 . subst z; exact hd (zaT r)
 . exact a x z
theorem Acyc.wish {s:HS K} {d:Nat} {a:Act K} (c:Core s none) (ac:Acyc s) (hd:(s.deed d).st=.zaq):Acyc (TH.wish ord s d a):=by
 have c1:Core (TH.see s a.key) none:=c.see
 have ac1:Acyc (TH.see s a.key):=ac.mono λ e x hx=>hx
 unfold TH.wish
 dsimp only
 have zaq:∀ (t:HS K),t.deed=(TH.see s a.key).deed->∀ e x,x∈zbQ (doIt t d a) e->e≠d/\∃ b,((TH.see s a.key).deed e).st=.waiting/\((TH.see s a.key).deed e).wish=some b /\
     ((∃ w,(x,w)∈(t.rows b.key).takeWhile λ p=>p.1 != e)\/∃ w,(x,w)∈t.held b.key/\x≠e/\(b.wr=true\/w=true)):=λ t ht e x hx=>by
   obtain ⟨b,h1,h2,h3⟩:=zbw.mp hx
   have hne:e≠d:=λ z=>by subst z; rw [zh9] at h1; cases h1
   rw [zcE _ _ _ hne,ht] at h1 h2
   rw [zcS,zct] at h3
   exact ⟨hne,b,h1,h2,h3⟩
 by_cases h1:look ((TH.see s a.key).held a.key) d=some a.wr\/look ((TH.see s a.key).held a.key) d=some true
 . rw [if_pos h1]
   refine ac1.mono λ e x hx=>?_
   obtain ⟨_,b,q1,q2,q3⟩:=zaq _ rfl e x hx
   exact zbw.mpr ⟨b,q1,q2,q3⟩
 . rw [if_neg h1]
   by_cases h2:lets ((TH.see s a.key).held a.key) d a.wr=true/\(has ((TH.see s a.key).held a.key) d=true\/(TH.see s a.key).rows a.key=[])
   . rw [if_pos h2]
     refine ac1.into (d:=d) (by rw [zh9]; decide) λ e x hx=>?_
     obtain ⟨_,b,q1,q2,q3⟩:=zaq (take (TH.see s a.key) d a.key a.wr) rfl e x hx
     by_cases hxd:x=d
     . exact .inl hxd
     . refine .inr (zbw.mpr ⟨b,q1,q2,q3.imp id λ ⟨w,hw,y⟩=>⟨w,?_,y⟩⟩)
       have hw':(x,w)∈up (TH.see s a.key).held a.key (zbf ((TH.see s a.key).held a.key) d a.wr) b.key:=hw
       by_cases hk:b.key=a.key
       . rw [hk,zag] at hw'
         rcases zaY.mp hw' with z | z
         . exact absurd (congrArg Prod.fst z) hxd
         . rw [hk]; exact z.1
       . rw [zan hk] at hw'; exact hw'
   . rw [if_neg h2]
     have hw:∀ w',(d,w')∈(TH.see s a.key).held a.key->w'=false/\a.wr=true:=λ w' z=>by
       have q:=zde (c1.hNd _) z
       cases hw':w' with
       | true=>exact absurd (.inr (hw' ▸ q)) h1
       | false =>
         cases ha:a.wr with
         | true=>exact ⟨rfl,rfl⟩
         | false=>exact absurd (.inl (by rw [ha,q,hw'])) h1
     exact zho ord (c1.wait hd zco hw) (zp5 _)
theorem zoz {s:HS K} (c:Core s none) {d e:Nat} (h:e∈zbQ s d):(s.deed e).act:=by
 obtain ⟨a,h1,h2,h3⟩:=zbw.mp h
 rcases h3 with ⟨w,hw⟩ | ⟨w,hw,_⟩
 . exact .inr (c.rAct _ _ ((List.takeWhile_sublist _).mem hw)).1
 . exact c.hAct _ _ hw
open Classical in
end
end TH
end
section
namespace TH
section
variable {K:Type} [DecidableEq K]
def zau (l:List (Act K)):List (K×Int):=l.filterMap λ a=>if a.wr then some (a.key,a.val) else none
def logW (l:List (Row K)) (d:Nat):List (K×Int):=l.filterMap λ r=>match r with
 | .write e k _ v=>if e=d then some (k,v) else none
 | _=>none
def logK (l:List (Row K)):List Nat:=l.filterMap λ r=>match r with
 | .keep d=>some d
 | _=>none
def logB (l:List (Row K)):List Nat:=l.filterMap λ r=>match r with
 | .begin d=>some d
 | _=>none
def goes (g:List Nat):Row K->List Nat
 | .begin d=>g++[d]
 | .write _ _ _ _=>g
 | .keep d=>g.erase d
 | .drop d=>g.erase d
def logG (l:List (Row K)):List Nat:=l.foldl goes []
structure Scan (K:Type) where
 book:K->Int
 bef:Nat->List (K×Int)
def undo (l:List (K×Int)) (b:K->Int):K->Int:=l.foldr (λ p bk=>up bk p.1 p.2) b
def scan1 (S:Scan K):Row K->Scan K
 | .begin _=>S
 | .write d k b v=>⟨up S.book k v,up S.bef d (S.bef d++[(k,b)])⟩
 | .keep _=>S
 | .drop d=>⟨undo (S.bef d) S.book,S.bef⟩
def scan (l:List (Row K)):Scan K:=l.foldl scan1 ⟨λ _=>0,λ _=>[]⟩
def zt5 (l:List (Row K)):Row K->Prop
 | .begin d=>d=(logB l).length
 | .write d k b _=>d∈logG l/\b=(scan l).book k
 | .keep d=>d∈logG l
 | .drop d=>d∈logG l
inductive Wf:List (Row K)->Prop where
 | nil:Wf []
 | snoc {l:List (Row K)} {r:Row K}:Wf l->zt5 l r->Wf (l++[r])
def first (l:List (K×Int)) (k:K):Option Int:=(l.find? λ p=>decide (p.1=k)).map (·.2)
theorem zot (k:K) (b:K->Int):∀ l:List (K×Int),undo l b k=(first l k).getD (b k)
 | []=>rfl
 | p::r=>by
  show up (undo r b) p.1 p.2 k=_
  by_cases h:p.1=k
  . subst h; rw [zag]; unfold first; rw [List.find?_cons_of_pos (by simp)]; rfl
  . rw [zan (Ne.symm h),zot k b r]; unfold first; rw [List.find?_cons_of_neg (by simpa using h)]
theorem zoa (l:List (K×Int)) (k k':K) (b:Int):first (l++[(k,b)]) k'=match first l k' with | some v=>some v | none=>if k=k' then some b else none:=by
 unfold first
 rw [List.find?_append]
 cases h:l.find? λ p=>decide (p.1=k') with
 | some p=>rfl
 | none =>
  by_cases e:k=k'
  . simp [e]
  . simp [e]
theorem zhT (l:List (Row K)) (r:Row K) (d:Nat):logW (l++[r]) d=logW l d++(match r with | .write e k _ v=>if e=d then [(k,v)] else [] | _=>[]):=by
 unfold logW
 rw [List.filterMap_append]
 cases r with
 | write e k b v=>by_cases h:e=d <;> simp [h]
 | begin _=>rfl
 | keep _=>rfl
 | drop _=>rfl
theorem zhU (l:List (Row K)) (r:Row K):logK (l++[r])=logK l++(match r with | .keep d=>[d] | _=>[]):=by
 unfold logK
 rw [List.filterMap_append]
 cases r <;> rfl
theorem zfJ (l:List (Row K)) (r:Row K):logB (l++[r])=logB l++(match r with | .begin d=>[d] | _=>[]):=by
 unfold logB
 rw [List.filterMap_append]
 cases r <;> rfl
theorem zhV (l:List (Row K)) (r:Row K):logG (l++[r])=goes (logG l) r:=by unfold logG; rw [List.foldl_append]; rfl
theorem scan_snoc (l:List (Row K)) (r:Row K):scan (l++[r])=scan1 (scan l) r:=by unfold scan; rw [List.foldl_append]; rfl
theorem zcF (l:List (Act K)) (a:Act K):zau (l++[a])=zau l++(if a.wr then [(a.key,a.val)] else []):=by
 unfold zau
 rw [List.filterMap_append]
 cases h:a.wr <;> simp [h]
structure zaW (s:HS K):Prop where
 w:∀ d,logW s.log d=zau (s.deed d).done
 k:logK s.log=s.kept
 b:logB s.log=List.range s.n
 g:logG s.log=(List.range s.n).filter λ d=>actB (s.deed d)
 bk:∀ k,(scan s.log).book k=(s.book k).getD 0
 bef:∀ d,(s.deed d).act->∀ k,first ((scan s.log).bef d) k=if (zaQ (s.deed d).done k).isSome then some ((zas s k).getD 0) else none
 befN:∀ d,s.n<=d->(scan s.log).bef d=[]
 wf:Wf s.log
theorem zcc {α:Type} {p q:α->Bool} {l:List α} (h:∀ x∈l,p x=q x):l.filter p=l.filter q:=List.filter_congr h
theorem zaW.znk {s:HS K} {x:Option Nat} (L:zaW s) (c:Core s x) {d:Nat} (hd:(s.deed d).act):d∈logG s.log:=by
 rw [L.g,List.mem_filter]; exact ⟨List.mem_range.mpr (c.lt hd),zaS.mpr hd⟩
theorem zaW.doIt {s:HS K} {d:Nat} {a:Act K} {w:Bool} (L:zaW s) (c:Core s (some d)) (hd:(s.deed d).act) (hh:(d,w)∈s.held a.key):zaW (doIt s d a):=by
 have actE:∀ e,actB ((TH.doIt s d a).deed e)=actB (s.deed e):=λ e=>by
  by_cases h:e=d
  . subst h
    rw [zaS.mpr hd,zaS.mpr (.inl (zh9 s e a))]
  . rw [zcE s d a h]
 have nk:∀ e∈s.kept,e≠d:=λ e he z=>by subst z; exact zdG hd ((c.zdp _).mp he)
 have kb:zas (TH.doIt s d a)=zas s:=zbX (zek s d a) λ e he=>by rw [zcE s d a (nk e he)]
 cases hwr:a.wr with
 | false =>
  have e1:TH.doIt s d a={ s with deed:=up s.deed d { s.deed d with st:=.zaq,done:=(s.deed d).done++[⟨false,a.key,(s.book a.key).getD 0⟩] } }:=by
    unfold TH.doIt; rw [if_neg (by rw [hwr]; decide)]
  have dn:∀ e,zau ((TH.doIt s d a).deed e).done=zau (s.deed e).done/\∀ k,zaQ ((TH.doIt s d a).deed e).done k=zaQ (s.deed e).done k:=λ e=>by
    by_cases h:e=d
    . subst h
      rw [e1]
      show zau (up s.deed e _ e).done=_/\∀ k,zaQ (up s.deed e _ e).done k=_
      rw [zag]
      refine ⟨?_,λ k=>?_⟩
      . show zau ((s.deed e).done++[_])=_
        rw [zcF]; simp
      . show zaQ ((s.deed e).done++[_]) k=_
        rw [zeu]; simp
    . rw [zcE s d a h]; exact ⟨rfl,λ _=>rfl⟩
  have el:(TH.doIt s d a).log=s.log:=by rw [e1]
  have eb:(TH.doIt s d a).book=s.book:=by rw [e1]
  refine ⟨λ e=>by rw [el,(dn e).1]; exact L.w e,by rw [el,zek]; exact L.k,by rw [el,zdN]; exact L.b,?_,λ k=>by rw [el,eb]; exact L.bk k,λ e he k=>?_,λ e he=>by rw [el]; exact L.befN e (by rw [zdN] at he; exact he),by rw [el]; exact L.wf⟩
  . rw [el,zdN,L.g]; exact zcc λ x _=>(actE x).symm
  . rw [el,(dn e).2 k,kb]; exact L.bef e (zaS.mp ((actE e).symm.trans (zaS.mpr he))) k
 | true =>
  have e1:TH.doIt s d a={ s with deed:=up s.deed d { s.deed d with st:=.zaq,done:=(s.deed d).done++[a] },log:=s.log++[.write d a.key ((s.book a.key).getD 0) a.val],book:=up s.book a.key (some a.val) }:=by
    unfold TH.doIt; rw [if_pos hwr]
  have el:(TH.doIt s d a).log=s.log++[.write d a.key ((s.book a.key).getD 0) a.val]:=by rw [e1]
  have eb:(TH.doIt s d a).book=up s.book a.key (some a.val):=by rw [e1]
  have edd:((TH.doIt s d a).deed d).done=(s.deed d).done++[a]:=by rw [e1]; show (up s.deed d _ d).done=_; rw [zag]
  refine ⟨λ e=>?_,by rw [el,zhU,zek]; simp; exact L.k,by rw [el,zfJ,zdN]; simp; exact L.b,?_,λ k=>?_,λ e he k=>?_,λ e he=>?_,?_⟩
  . rw [el,zhT]
    by_cases h:e=d
    . subst h; rw [edd,zcF,L.w e]; simp [hwr]
    . rw [zcE s d a h,L.w e]; simp [Ne.symm h]
  . rw [el,zhV,zdN]
    show logG s.log=_
    rw [L.g]; exact zcc λ x _=>(actE x).symm
  . rw [el,scan_snoc,eb]
    show up (scan s.log).book a.key a.val k=(up s.book a.key (some a.val) k).getD 0
    by_cases h:k=a.key
    . subst h; rw [zag,zag]; rfl
    . rw [zan h,zan h]; exact L.bk k
  . rw [el,scan_snoc,kb]
    show first (up (scan s.log).bef d ((scan s.log).bef d++[(a.key,(s.book a.key).getD 0)]) e) k=_
    by_cases h:e=d
    . subst h
      rw [zag,zoa,edd,zeu,L.bef e hd k]
      cases hl:zaQ (s.deed e).done k with
      | some v =>
        by_cases hk:a.wr=true/\a.key=k
        . simp [hk]
        . simp [hk,hl]
      | none =>
        by_cases hk:a.key=k
        . simp [hk,hwr]
          have q:=c.reads hd hh
          rw [zfb,hk,hl] at q
          rw [q]
        . simp [hk,hl]
    . rw [zan h,zcE s d a h]
      rw [zcE s d a h] at he
      exact L.bef e he k
  . rw [zdN] at he
    rw [el,scan_snoc]
    show up (scan s.log).bef d _ e=[]
    have:e≠d:=λ z=>by subst z; have:=c.lt hd; omega
    rw [zan this]; exact L.befN e he
  . rw [el]
    exact .snoc L.wf ⟨L.znk c hd,(L.bk a.key).symm⟩
theorem zaW.ends {s:HS K} {d:Nat} {t:DS} {bk:Book K} {kp:List Nat} {r:Row K} (L:zaW s) (c:Core s none) (hd:(s.deed d).act) (ht:t=.kept\/t=.dropped)
   (hr:(t=.kept/\r=.keep d/\kp=s.kept++[d]/\bk=s.book)\/(t=.dropped/\r=.drop d/\kp=s.kept/\bk=λ k=>if (zaQ (s.deed d).done k).isSome then zas s k else s.book k)) :
   zaW (letGo { s with deed:=up s.deed d { s.deed d with st:=t },book:=bk,kept:=kp,log:=s.log++[r] } d):=by
 have dn:∀ e,(up s.deed d { s.deed d with st:=t } e).done=(s.deed e).done:=λ e=>by
   by_cases h:e=d
   . subst h; rw [zag]
   . rw [zan h]
 have actE:∀ e,(up s.deed d { s.deed d with st:=t } e).act↔e≠d/\(s.deed e).act:=λ e=>by
   by_cases h:e=d
   . subst h
     rw [zag]
     refine ⟨λ z=>?_,λ z=>absurd rfl z.1⟩
     rcases z with z | z <;> rcases ht with y | y <;> (have z':t=_:=z; rw [y] at z'; cases z')
   . rw [zan h]; exact ⟨λ z=>⟨h,z⟩,λ z=>z.2⟩
 have hg:(logG s.log).erase d=(List.range s.n).filter λ e=>actB (up s.deed d { s.deed d with st:=t } e):=by
   have nd:((List.range s.n).filter λ e=>actB (s.deed e)).Nodup:=List.nodup_range.sublist List.filter_sublist
   rw [L.g,nd.erase_eq_filter,List.filter_filter]
   refine zcc λ x _=>?_
   cases q:actB (up s.deed d { s.deed d with st:=t } x) with
   | true =>
     obtain ⟨q1,q2⟩:=(actE x).mp (zaS.mp q)
     simp [q1,zaS.mpr q2]
   | false =>
     by_cases h1:x=d
     . simp [h1]
     . cases h2:actB (s.deed x) with
       | false=>simp
       | true =>
        rw [zaS.mpr ((actE x).mpr ⟨h1,zaS.mp h2⟩)] at q; cases q
 have kbe:∀ k,zas (letGo { s with deed:=up s.deed d { s.deed d with st:=t },book:=bk,kept:=kp,log:=s.log++[r] } d) k=if t=.kept then over (zas s) (s.deed d).done k else zas s k:=λ k=>by
   have e0:zas (letGo { s with deed:=up s.deed d { s.deed d with st:=t },book:=bk,kept:=kp,log:=s.log++[r] } d)=zeh s.deed kp λ _=>none:=zbs λ e _=>dn e
   rw [e0]
   rcases hr with ⟨h1,_,h3,_⟩ | ⟨h1,_,h3,_⟩
   . rw [if_pos h1,h3,zfL]; rfl
   . rw [if_neg (by rw [h1]; decide),h3]; rfl
 have sole:∀ e k,e≠d->(s.deed e).act->(zaQ (s.deed e).done k).isSome=true->zaQ (s.deed d).done k=none:=λ e k hne he hs=>by
   cases q:zaQ (s.deed d).done k with
   | none=>rfl
   | some u =>
     cases q':zaQ (s.deed e).done k with
     | none=>rw [q'] at hs; cases hs
     | some v =>
       obtain ⟨b,hb,bw,bkk⟩:=zeg q'
       obtain ⟨w,z,_⟩:=c.zfS e he b hb
       rw [bkk] at z
       exact absurd (c.sole hd q z) hne
 have sc:(scan (s.log++[r])).bef=(scan s.log).bef:=by
   rw [scan_snoc]
   rcases hr with ⟨_,h2,_,_⟩ | ⟨_,h2,_,_⟩ <;> rw [h2] <;> rfl
 refine ⟨λ e=>?_,?_,?_,?_,λ k=>?_,λ e he k=>?_,λ e he=>?_,?_⟩
 . show logW (s.log++[r]) e=zau (up s.deed d _ e).done
   rw [zhT,dn e,L.w e]
   rcases hr with ⟨_,h2,_,_⟩ | ⟨_,h2,_,_⟩ <;> rw [h2] <;> simp
 . show logK (s.log++[r])=kp
   rw [zhU,L.k]
   rcases hr with ⟨_,h2,h3,_⟩ | ⟨_,h2,h3,_⟩ <;> rw [h2,h3] <;> simp
 . show logB (s.log++[r])=List.range s.n
   rw [zfJ,L.b]
   rcases hr with ⟨_,h2,_,_⟩ | ⟨_,h2,_,_⟩ <;> rw [h2] <;> simp
 . show logG (s.log++[r])=(List.range s.n).filter λ e=>actB (up s.deed d _ e)
   rw [zhV,<-hg]
   rcases hr with ⟨_,h2,_,_⟩ | ⟨_,h2,_,_⟩ <;> rw [h2] <;> rfl
 . show (scan (s.log++[r])).book k=(bk k).getD 0
   rw [scan_snoc]
   rcases hr with ⟨_,h2,_,h4⟩ | ⟨_,h2,_,h4⟩
   . rw [h2,h4]; exact L.bk k
   . rw [h2,h4]
     show undo ((scan s.log).bef d) (scan s.log).book k=_
     rw [zot,L.bef d hd k,L.bk k]
     cases q:zaQ (s.deed d).done k with
     | none=>simp [q]
     | some v=>simp [q]
 . have he':(up s.deed d { s.deed d with st:=t } e).act:=he
   obtain ⟨h1,h2⟩:=(actE e).mp he'
   show first ((scan (s.log++[r])).bef e) k=if (zaQ (up s.deed d _ e).done k).isSome then _ else _
   rw [sc,dn e,kbe k,L.bef e h2 k]
   cases hs:(zaQ (s.deed e).done k).isSome with
   | false=>rfl
   | true =>
     simp
     by_cases ht':t=.kept
     . rw [if_pos ht',zfb,sole e k h1 h2 hs]
     . rw [if_neg ht']
 . show (scan (s.log++[r])).bef e=[]
   rw [sc]; exact L.befN e he
 . refine .snoc L.wf ?_
   have:=L.znk c hd
   rcases hr with ⟨_,h2,_,_⟩ | ⟨_,h2,_,_⟩ <;> rw [h2] <;> exact this
theorem zaW.zaM {ks:List K} {s:HS K} (L:zaW s) (c:Core s none):zaW (TH.zaM s ks):=by
 refine zbM (λ t=>zaW t) (λ t k d w r a c' hr hl ha q=>?_) ks s c L
 have hm:(d,w)∈t.rows k:=by rw [hr]; exact List.mem_cons_self
 obtain ⟨hw,a',ea,ek,ew⟩:=c'.rAct k (d,w) hm
 have ea':some a=some a':=ha.symm.trans ea
 cases ea'
 have c2:Core (take { t with rows:=up t.rows k r } d k w) (some d):=by
  have nd:=c'.rNd k
  rw [hr] at nd
  have sub:∀ k' p,p∈(up t.rows k r) k'->p∈t.rows k':=λ k' p hp=>by
    by_cases h:k'=k
    . subst h; rw [zag] at hp; rw [hr]; exact List.mem_cons_of_mem _ hp
    . rw [zan h] at hp; exact hp
  have c1:Core { t with rows:=up t.rows k r } (some d):=by
    refine ⟨c'.out,c'.hAct,c'.hNd,c'.hEx,λ k' p hp=>c'.rAct k' p (sub k' p hp),λ k'=>?_,λ e he hwt=>?_,λ k' e v v' h1 h2=>c'.zgf k' e v v' (sub k' _ h1) h2,c'.zfS,λ k' h'=>?_,c'.bOwn,c'.zg5,c'.ser,c'.actR,c'.zdp,c'.zh0⟩
    . by_cases h:k'=k
      . subst h; show ((up t.rows k' r k').map _).Nodup; rw [zag]; exact (List.nodup_cons.mp nd).2
      . show ((up t.rows k r k').map _).Nodup; rw [zan h]; exact c'.rNd k'
    . obtain ⟨b,q1,q2⟩:=c'.wRow e (λ z=>by cases z) hwt
      refine ⟨b,q1,?_⟩
      show (e,b.wr)∈up t.rows k r b.key
      by_cases h:b.key=k
      . rw [h,zag]
        rw [h,hr] at q2
        rcases List.mem_cons.mp q2 with z | z
        . exact absurd (congrArg some (congrArg Prod.fst z)) he
        . exact z
      . rw [zan h]; exact q2
    . obtain ⟨q1,q2⟩:=c'.zfu k' h'
      have:k'≠k:=λ z=>by subst z; rw [hr] at q2; cases q2
      exact ⟨q1,by show up t.rows k r k'=_; rw [zan this]; exact q2⟩
  refine c1.take (.inr hw) hl (λ hwf w' z=>?_) (λ w' z=>?_) ?_
  . obtain ⟨_,q⟩:=c'.zgf k d w w' hm z
    rw [hwf] at q; cases q
  . have z':(d,w')∈up t.rows k r k:=z
    rw [zag] at z'
    exact (List.nodup_cons.mp nd).1 (List.mem_map.mpr ⟨_,z',rfl⟩)
  . by_cases z:k∈t.seen
    . exact z
    . have:=(c'.zfu k z).2; rw [hr] at this; cases this
 have q':zaW (take { t with rows:=up t.rows k r } d k w):=⟨q.w,q.k,q.b,q.g,q.bk,q.bef,q.befN,q.wf⟩
 refine q'.doIt (w:=w) c2 (.inr hw) ?_
 show (d,w)∈up t.held k (zbf (t.held k) d w) a.key
 rw [ek,zag]
 exact zaY.mpr (.inl rfl)
variable (ord:List K->List K)
theorem zaW.keep {s:HS K} {d:Nat} (L:zaW s) (c:Core s none) (hd:(s.deed d).act):zaW (TH.keep ord s d) :=
 (zaW.ends (t:=.kept) L c hd (.inl rfl) (.inl ⟨rfl,rfl,rfl,rfl⟩)).zaM (c.keeps hd)
theorem zaW.drop {s:HS K} {d:Nat} (L:zaW s) (c:Core s none) (hd:(s.deed d).act):zaW (TH.drop ord s d) :=
 (zaW.ends (t:=.dropped) L c hd (.inr rfl) (.inr ⟨rfl,rfl,rfl,rfl⟩)).zaM (c.drops hd)
theorem zaW.settle:∀ {f:Nat} {s:HS K},zaW s->Core s none->zaW (TH.settle ord f s)
 | 0,s,L,c=>L
 | f+1,s,L,c=>by
  unfold TH.settle
  split
  . exact L
  . rename_i d hd
    have q:=zbR (List.mem_of_getLast? hd)
    have ha:(s.deed d).act:=.inr (zaT q.2)
    exact zaW.settle (L.drop ord c ha) (c.drop ord ha)
theorem zaW.za6 {s:HS K} (L:zaW s) (c:Core s none):zaW (TH.za6 s):=by
 have o:=c.out s.n (Nat.le_refl _)
 have dn:∀ e,(up s.deed s.n ⟨.zaq,[],none⟩ e).done=(s.deed e).done:=λ e=>by
   by_cases h:e=s.n
   . subst h; rw [zag,o.2]
   . rw [zan h]
 have kb:zas (TH.za6 s)=zas s:=zbs λ e _=>dn e
 have sc:scan (s.log++[.begin s.n])=scan s.log:=by rw [scan_snoc]; rfl
 refine ⟨λ e=>?_,?_,?_,?_,λ k=>?_,λ e he k=>?_,λ e he=>?_,?_⟩
 . show logW (s.log++[.begin s.n]) e=zau (up s.deed s.n _ e).done
   rw [zhT,dn e,L.w e]; simp
 . show logK (s.log++[.begin s.n])=s.kept
   rw [zhU,L.k]; simp
 . show logB (s.log++[.begin s.n])=List.range (s.n+1)
   rw [zfJ,L.b,List.range_succ]
 . show logG (s.log++[.begin s.n])=(List.range (s.n+1)).filter λ e=>actB (up s.deed s.n _ e)
   rw [zhV,List.range_succ,List.filter_append]
   show logG s.log++[s.n]=_
   rw [L.g]
   congr 1
   . refine zcc λ x hx=>?_
     have:x≠s.n:=λ z=>by have:=List.mem_range.mp hx; omega
     rw [zan this]
   . rw [List.filter_cons_of_pos (by rw [zag]; rfl)]; rfl
 . show (scan (s.log++[.begin s.n])).book k=(s.book k).getD 0
   rw [sc]; exact L.bk k
 . show first ((scan (s.log++[.begin s.n])).bef e) k=if (zaQ (up s.deed s.n _ e).done k).isSome then some ((zas (TH.za6 s) k).getD 0) else none
   rw [sc,dn e,kb]
   by_cases h:e=s.n
   . subst h
     rw [L.befN _ (Nat.le_refl _),o.2]; rfl
   . have he':(up s.deed s.n ⟨.zaq,[],none⟩ e).act:=he
     rw [zan h] at he'
     exact L.bef e he' k
 . have he':s.n+1<=e:=he
   show (scan (s.log++[.begin s.n])).bef e=[]
   rw [sc]; exact L.befN e (by omega)
 . exact .snoc L.wf (by show s.n=(logB s.log).length; rw [L.b,List.length_range])
theorem zaW.wish {s:HS K} {d:Nat} {a:Act K} (L:zaW s) (c:Core s none) (hd:(s.deed d).st=.zaq):zaW (TH.wish ord s d a):=by
 have c1:Core (TH.see s a.key) none:=c.see
 have L1:zaW (TH.see s a.key):=⟨L.w,L.k,L.b,L.g,L.bk,L.bef,L.befN,L.wf⟩
 have nor:∀ k w',(d,w')∉(TH.see s a.key).rows k:=λ k w' z=>by
   have:=(c1.rAct k _ z).1
   have this':(s.deed d).st=.waiting:=this
   rw [hd] at this'; cases this'
 unfold TH.wish
 dsimp only
 by_cases h1:look ((TH.see s a.key).held a.key) d=some a.wr\/look ((TH.see s a.key).held a.key) d=some true
 . rw [if_pos h1]
   rcases h1 with h1 | h1
   . exact L1.doIt c1.weaken (.inl hd) (zc2 h1)
   . exact L1.doIt c1.weaken (.inl hd) (zc2 h1)
 . rw [if_neg h1]
   have hw:∀ w',(d,w')∈(TH.see s a.key).held a.key->w'=false/\a.wr=true:=λ w' z=>by
     have q:=zde (c1.hNd _) z
     cases hw':w' with
     | true=>exact absurd (.inr (hw' ▸ q)) h1
     | false =>
       cases ha:a.wr with
       | true=>exact ⟨rfl,rfl⟩
       | false=>exact absurd (.inl (by rw [ha,q,hw'])) h1
   by_cases h2:lets ((TH.see s a.key).held a.key) d a.wr=true/\(has ((TH.see s a.key).held a.key) d=true\/(TH.see s a.key).rows a.key=[])
   . rw [if_pos h2]
     have L2:zaW (take (TH.see s a.key) d a.key a.wr):=⟨L1.w,L1.k,L1.b,L1.g,L1.bk,L1.bef,L1.befN,L1.wf⟩
     refine L2.doIt (w:=a.wr) (c1.weaken.take (.inl hd) h2.1 (λ hf w' z=>?_) (λ w'=>nor _ w') zco) (.inl hd) ?_
     . have:=(hw w' z).2; rw [hf] at this; cases this
     . show (d,a.wr)∈up (TH.see s a.key).held a.key _ a.key
       rw [zag]; exact zaY.mpr (.inl rfl)
   . rw [if_neg h2]
     refine zaW.settle ord ?_ (c1.wait hd zco hw)
     have dn:∀ e,(up s.deed d { s.deed d with st:=.waiting,wish:=some a } e).done=(s.deed e).done:=λ e=>by
       by_cases h:e=d
       . subst h; rw [zag]
       . rw [zan h]
     have actE:∀ e,(up s.deed d { s.deed d with st:=.waiting,wish:=some a } e).act↔(s.deed e).act:=λ e=>by
       by_cases h:e=d
       . subst h; rw [zag]; exact ⟨λ _=>.inl hd,λ _=>.inr rfl⟩
       . rw [zan h]
     have kb:zas (TH.wait (TH.see s a.key) d a)=zas s:=zbs λ e _=>dn e
     refine ⟨λ e=>?_,L.k,L.b,?_,L.bk,λ e he k=>?_,L.befN,L.wf⟩
     . exact (L.w e).trans (congrArg zau (dn e)).symm
     . show logG s.log=(List.range s.n).filter λ e=>actB (up s.deed d _ e)
       rw [L.g]
       refine zcc λ x _=>?_
       cases q:actB (s.deed x) with
       | true=>exact (zaS.mpr ((actE x).mpr (zaS.mp q))).symm
       | false =>
         cases q':actB (up s.deed d { s.deed d with st:=.waiting,wish:=some a } x) with
         | false=>exact q'.symm
         | true=>rw [zaS.mpr ((actE x).mp (zaS.mp q'))] at q; cases q
     . have q:=L.bef e ((actE e).mp he) k
       rw [kb]
       show first ((scan s.log).bef e) k=if (zaQ (up s.deed d { s.deed d with st:=.waiting,wish:=some a } e).done k).isSome then some ((zas s k).getD 0) else none
       rw [dn e]; exact q
structure All (s:HS K):Prop where
 c:Core s none
 h:Head s
 a:Acyc s
 l:zaW s
def empty:HS K:=⟨0,λ _=>⟨.dropped,[],none⟩,λ _=>[],λ _=>[],λ _=>none,[],[],[]⟩
theorem All.empty:All (TH.empty (K:=K)):=by
 have na:∀ d,¬ ((TH.empty (K:=K)).deed d).act:=λ d z=>by rcases z with z | z <;> cases z
 refine ⟨⟨λ d _=>⟨rfl,rfl⟩,λ k p hp=>(by cases hp),λ k=>List.nodup_nil,λ k d h=>(by cases h),λ k p hp=>(by cases hp),λ k=>List.nodup_nil,λ d _ h=>(by cases h),λ k d w w' h=>(by cases h),λ d h=>absurd h (na d),λ k _=>⟨rfl,rfl⟩,λ d h=>absurd h (na d),λ k _=>rfl,rfl,λ d h=>absurd h (na d),λ d=>⟨λ h=>(by cases h),λ h=>(by cases h)⟩,List.nodup_nil⟩,λ k d w r e=>(by cases e),λ d r=>?_,⟨λ d=>rfl,rfl,rfl,rfl,λ k=>rfl,λ d h=>absurd h (na d),λ d _=>rfl,.nil⟩⟩
 exact absurd (Or.inr (zaT r)) (na d)
variable (hord:∀ l k,k∈ord l↔k∈l)
include hord
end
end TH
end
section
namespace TH
section
variable {K:Type} [DecidableEq K]
def zkd (s:HS K) (a:Act K):Act K:=if a.wr then a else ⟨false,a.key,(s.book a.key).getD 0⟩
theorem zcu (s:HS K) (a:Act K):(zkd s a).key=a.key:=by unfold zkd; split <;> rfl
theorem zdr (s:HS K) (d:Nat) (a:Act K):(doIt s d a).deed=up s.deed d { s.deed d with st:=.zaq,done:=(s.deed d).done++[zkd s a] }:=by
 unfold doIt zkd; split <;> rfl
theorem zqX (s:HS K) (d:Nat) (a:Act K):(doIt s d a).log=s.log++(if a.wr then [.write d a.key ((s.book a.key).getD 0) a.val] else []):=by
 unfold doIt; split
 . rfl
 . simp
theorem zpO (s:HS K) (d:Nat) (a:Act K):(doIt s d a).book=if a.wr then up s.book a.key (some a.val) else s.book:=by
 unfold doIt; split <;> rfl
def zgU (D:Deed K):Bool:=decide (D.st=.waiting)
def zdt (s:HS K):Nat:=(List.range s.n).countP λ d=>zgU (s.deed d)
theorem zic {p q:Nat->Bool} {d:Nat}:∀ {l:List Nat},l.Nodup->(∀ x∈l,q x=true->p x=true\/x=d)->l.countP q<=l.countP p+1
 | [],_,_=>by simp
 | x::r,nd,h=>by
  have hr:∀ y∈r,q y=true->p y=true\/y=d:=λ y hy=>h y (List.mem_cons_of_mem _ hy)
  have nd':=List.nodup_cons.mp nd
  rw [List.countP_cons,List.countP_cons]
  by_cases hx:x=d
  . have:r.countP q<=r.countP p:=List.countP_mono_left λ y hy hq=>(hr y hy hq).resolve_right λ z=>nd'.1 (by rw [hx,<-z]; exact hy)
    split <;> split <;> omega
  . have ih:=zic nd'.2 hr
    cases hq:q x with
    | false=>simp; split <;> omega
    | true =>
     have:p x=true:=(h x List.mem_cons_self hq).resolve_right hx
     simp [this]; exact ih
structure Ext (s:HS K) (T:Nat):Prop where
 own:∀ k d w,(d,w)∈s.held k->∃ a∈(s.deed d).done,a.key=k
 dn:∀ d,(s.deed d).done.length+(if (s.deed d).st=.waiting then 1 else 0)<=T
 n:s.n<=T
 sn:s.seen.length<=T
 snd:s.seen.Nodup
 lg:s.log.length+zdt s+actN s<=2 * T
 zgZ:∀ d,∀ a∈(s.deed d).done,a.key∈s.seen
 zg1:∀ k,s.book k≠none->k∈s.seen
theorem zo2:∀ {l:List (Act K)} {b:Book K} {k:K},over b l k≠none->b k≠none\/∃ a∈l,a.key=k:=λ {l b k} h=>by
 rw [zfb] at h
 cases e:zaQ l k with
 | none=>rw [e] at h; exact .inl h
 | some v=>obtain ⟨a,ha,_,hk⟩:=zeg e; exact .inr ⟨a,ha,hk⟩
theorem zi4 {deed:Nat->Deed K} {k:K}:∀ {l:List Nat} {b:Book K},zeh deed l b k≠none->b k≠none\/∃ d∈l,∃ a∈(deed d).done,a.key=k
 | [],b,h=>.inl h
 | d::r,b,h=>by
  rcases zi4 (l:=r) h with h | ⟨e,he,q⟩
  . rcases zo2 h with h | ⟨a,ha,hk⟩
    . exact .inl h
    . exact .inr ⟨d,List.mem_cons_self,a,ha,hk⟩
  . exact .inr ⟨e,List.mem_cons_of_mem _ he,q⟩
theorem Ext.zpm {s:HS K} {T:Nat} (E:Ext s T):∀ k,zas s k≠none->k∈s.seen:=λ k h=>by
 rcases zi4 h with h | ⟨d,_,a,ha,hk⟩
 . exact absurd rfl h
 . rw [<-hk]; exact E.zgZ d a ha
theorem Ext.mono {s:HS K} {T T':Nat} (E:Ext s T) (h:T<=T'):Ext s T' :=
 ⟨E.own,λ d=>Nat.le_trans (E.dn d) h,Nat.le_trans E.n h,Nat.le_trans E.sn h,E.snd,Nat.le_trans E.lg (by omega),E.zgZ,E.zg1⟩
theorem Ext.empty:Ext (TH.empty (K:=K)) 0 :=
 ⟨λ k d w h=>(by cases h),λ d=>(by simp [TH.empty]),Nat.le_refl _,Nat.le_refl _,List.nodup_nil,by simp [TH.empty,zdt,actN],λ d a h=>(by cases h),λ k h=>absurd rfl h⟩
theorem Ext.does {s t:HS K} {T T':Nat} {d:Nat} {a:Act K} (E:Ext s T) (hn:t.n=s.n) (hs:t.seen=s.seen) (hdl:d < s.n) (hd:(s.deed d).act)
   (hdeed:t.deed=up s.deed d { s.deed d with st:=.zaq,done:=(s.deed d).done++[a] })
   (hlog:t.log.length<=s.log.length+1) (hbook:∀ k,t.book k≠none->s.book k≠none\/k=a.key)
   (hheld:∀ k e w,(e,w)∈t.held k->(∃ w',(e,w')∈s.held k)\/(e=d/\k=a.key)) (hk:a.key∈s.seen) (hT:T<=T') (hw:(s.deed d).st=.waiting\/T+1<=T'):Ext t T':=by
 have ds:t.deed d={ s.deed d with st:=.zaq,done:=(s.deed d).done++[a] }:=by rw [hdeed,zag]
 have dn:∀ e,e≠d->t.deed e=s.deed e:=λ e he=>by rw [hdeed,zan he]
 have sub:∀ e x,x∈(s.deed e).done->x∈(t.deed e).done:=λ e x hx=>by
   by_cases he:e=d
   . subst he; rw [ds]; exact List.mem_append_left _ hx
   . rw [dn e he]; exact hx
 refine ⟨λ k e w h=>?_,λ e=>?_,by rw [hn]; exact Nat.le_trans E.n hT,by rw [hs]; exact Nat.le_trans E.sn hT,by rw [hs]; exact E.snd,?_,λ e x hx=>?_,λ k h=>?_⟩
 . rcases hheld k e w h with ⟨w',h'⟩ | ⟨he,hk'⟩
   . obtain ⟨x,hx,q⟩:=E.own k e w' h'
     exact ⟨x,sub e x hx,q⟩
   . subst he
     refine ⟨a,?_,hk'.symm⟩
     rw [ds]; exact List.mem_append_right _ List.mem_cons_self
 . by_cases he:e=d
   . subst he
     have:=E.dn e
     rw [ds]
     simp only [List.length_append,List.length_cons,List.length_nil]
     rcases hw with hw | hw
     . rw [if_pos hw] at this; simp; omega
     . simp
       have:(s.deed e).done.length<=T:=by split at this <;> omega
       omega
   . rw [dn e he]; exact Nat.le_trans (E.dn e) hT
 . have ea:actN t=actN s:=by
     unfold actN; rw [hn]
     refine List.countP_congr λ x _=>?_
     by_cases hx:x=d
     . subst hx; rw [ds,zaS,zaS]; exact ⟨λ _=>hd,λ _=>.inl rfl⟩
     . rw [dn x hx]
   have:=E.lg
   rcases hw with hw | hw
   . have ew:zdt t < zdt s:=by
       unfold zdt; rw [hn]
       refine zfU (λ x _ hx=>?_) ⟨d,List.mem_range.mpr hdl,?_,?_⟩
       . by_cases hxd:x=d
         . subst hxd; unfold zgU; rw [hw]; rfl
         . rw [dn x hxd] at hx; exact hx
       . unfold zgU; rw [hw]; rfl
       . rw [ds]; rfl
     omega
   . have ew:zdt t<=zdt s:=by
       unfold zdt; rw [hn]
       refine List.countP_mono_left λ x _ hx=>?_
       by_cases hxd:x=d
       . subst hxd; rw [ds] at hx; cases hx
       . rw [dn x hxd] at hx; exact hx
     omega
 . rw [hs]
   by_cases he:e=d
   . subst he
     rw [ds] at hx
     rcases List.mem_append.mp hx with hx | hx
     . exact E.zgZ e x hx
     . rw [List.mem_singleton.mp hx]; exact hk
   . rw [dn e he] at hx; exact E.zgZ e x hx
 . rw [hs]
   rcases hbook k h with h | h
   . exact E.zg1 k h
   . rw [h]; exact hk
theorem zcH {s:HS K} {x:Option Nat} (c:Core s x) {k:K} {p:Nat×Bool} (h:p∈s.rows k):k∈s.seen:=by
 by_cases hk:k∈s.seen
 . exact hk
 . rw [(c.zfu k hk).2] at h; cases h
theorem zjS {s:HS K} {d e:Nat} {k k':K} {w w':Bool} (h:(e,w')∈(take s d k w).held k'):(∃ w'',(e,w'')∈s.held k')\/(e=d/\k'=k):=by
 by_cases hk:k'=k
 . subst hk
   have h':(e,w')∈up s.held k' (zbf (s.held k') d w) k':=h
   rw [zag] at h'
   unfold zbf at h'
   split at h'
   . obtain ⟨p,hp,q⟩:=List.mem_map.mp h'
     by_cases hpd:(p.1 == d)=true
     . rw [if_pos hpd] at q; cases q; exact .inr ⟨rfl,rfl⟩
     . rw [if_neg hpd] at q; subst q; exact .inl ⟨_,hp⟩
   . rcases List.mem_append.mp h' with h' | h'
     . exact .inl ⟨_,h'⟩
     . rw [List.mem_singleton] at h'; cases h'; exact .inr ⟨rfl,rfl⟩
 . have h':(e,w')∈up s.held k _ k':=h
   rw [zan hk] at h'; exact .inl ⟨_,h'⟩
theorem zig {s:HS K} {d:Nat} {a:Act K} {k:K} (h:(doIt s d a).book k≠none):s.book k≠none\/k=(zkd s a).key:=by
 rw [zpO] at h
 rw [zcu]
 split at h
 . by_cases hk:k=a.key
   . exact .inr hk
   . rw [zan hk] at h; exact .inl h
 . exact .inl h
theorem zjY {s:HS K} {d:Nat} {a:Act K}:(doIt s d a).log.length<=s.log.length+1:=by
 rw [zqX,List.length_append]; split <;> simp
theorem Ext.zaM {ks:List K} {s:HS K} {T:Nat} (E:Ext s T) (c:Core s none):Ext (TH.zaM s ks) T:=by
 refine zbM (λ t=>Ext t T) (λ s k d w r a c hr hl ha E=>?_) ks s c E
 have hm:(d,w)∈s.rows k:=by rw [hr]; exact List.mem_cons_self
 obtain ⟨hst,a',ha',hk',hw'⟩:=c.rAct k _ hm
 rw [ha] at ha'; cases ha'
 refine E.does (a:=zkd s a) (d:=d) (by rw [zdN]; rfl) (by rw [zcd]; rfl) (c.lt (.inr hst)) (.inr hst) (by rw [zdr]; rfl) zjY (λ k=>zig) (λ k' e w' h=>?_) ?_ (Nat.le_refl _) (.inl hst)
 . rw [zct] at h
   rcases zjS h with h | ⟨h1,h2⟩
   . exact .inl h
   . exact .inr ⟨h1,by rw [zcu,hk']; exact h2⟩
 . rw [zcu,hk']; exact zcH c hm
theorem zqI {l:List (Nat×Bool)} {d:Nat} {p:Nat×Bool} (h:p∈less l d):p∈l:=(List.mem_filter.mp h).1
theorem Ext.ends {s:HS K} {d:Nat} {t:DS} {bk:Book K} {kp:List Nat} {r:Row K} {T:Nat} (E:Ext s T) (c:Core s none) (hd:(s.deed d).act) (ht:t=.kept\/t=.dropped) (hb:∀ k,bk k≠none->k∈s.seen) :
   Ext (letGo { s with deed:=up s.deed d { s.deed d with st:=t },book:=bk,kept:=kp,log:=s.log++[r] } d) T:=by
 have dn:∀ e,(up s.deed d { s.deed d with st:=t } e).done=(s.deed e).done:=λ e=>by
   by_cases h:e=d
   . subst h; rw [zag]
   . rw [zan h]
 have tw:t≠.waiting/\t≠.zaq:=by rcases ht with h | h <;> subst h <;> decide
 refine ⟨λ k e w h=>?_,λ e=>?_,E.n,E.sn,E.snd,?_,λ e x hx=>?_,λ k h=>hb k h⟩
 . obtain ⟨x,hx,q⟩:=E.own k e w (zqI h)
   exact ⟨x,by show x∈(up s.deed d _ e).done; rw [dn]; exact hx,q⟩
 . show (up s.deed d _ e).done.length+(if (up s.deed d _ e).st=.waiting then 1 else 0)<=T
   rw [dn]
   have:=E.dn e
   by_cases h:e=d
   . subst h; rw [zag,if_neg tw.1]; split at this <;> omega
   . rw [zan h]; exact this
 . show (s.log++[r]).length+(List.range s.n).countP (λ x=>zgU (up s.deed d _ x))+(List.range s.n).countP (λ x=>actB (up s.deed d _ x))<=2 * T
   have e1:(List.range s.n).countP (λ x=>actB (up s.deed d { s.deed d with st:=t } x)) < actN s:=by
     unfold actN
     refine zfU (λ x _ hx=>?_) ⟨d,List.mem_range.mpr (c.lt hd),zaS.mpr hd,?_⟩
     . by_cases h:x=d
       . subst h; exact zaS.mpr hd
       . rw [zan h] at hx; exact hx
     . rw [zag]; unfold actB; simp [tw.1,tw.2]
   have e2:(List.range s.n).countP (λ x=>zgU (up s.deed d { s.deed d with st:=t } x))<=zdt s:=by
     unfold zdt
     refine List.countP_mono_left λ x _ hx=>?_
     by_cases h:x=d
     . subst h; rw [zag] at hx; unfold zgU at hx; simp [tw.1] at hx
     . rw [zan h] at hx; exact hx
   have:=E.lg
   rw [List.length_append,List.length_singleton]
   dsimp only at e1 e2 ⊢
   omega
 . have hx':x∈(up s.deed d { s.deed d with st:=t } e).done:=hx
   rw [dn] at hx'; exact E.zgZ e x hx'
variable (ord:List K->List K)
theorem Ext.keep {s:HS K} {d:Nat} {T:Nat} (E:Ext s T) (c:Core s none) (hd:(s.deed d).act):Ext (TH.keep ord s d) T:=by
 have:=Ext.zaM (ks:=ord s.seen) (E.ends (t:=.kept) (bk:=s.book) (kp:=s.kept++[d]) (r:=.keep d) c hd (.inl rfl) E.zg1) (c.keeps hd)
 exact this
theorem Ext.drop {s:HS K} {d:Nat} {T:Nat} (E:Ext s T) (c:Core s none) (hd:(s.deed d).act):Ext (TH.drop ord s d) T:=by
 have:=Ext.zaM (ks:=ord s.seen) (E.ends (t:=.dropped) (bk:=λ k=>if (zaQ (s.deed d).done k).isSome then zas s k else s.book k) (kp:=s.kept) (r:=.drop d) c hd (.inr rfl) (λ k h=>by
  split at h
  . exact E.zpm k h
  . exact E.zg1 k h)) (c.drops hd)
 exact this
theorem Ext.za6 {s:HS K} {T:Nat} (E:Ext s T) (c:Core s none):Ext (TH.za6 s) (T+1):=by
 have dd:∀ e,e≠s.n->(TH.za6 s).deed e=s.deed e:=λ e he=>zan he
 have ds:(TH.za6 s).deed s.n=⟨.zaq,[],none⟩:=zag
 have out:=c.out s.n (Nat.le_refl _)
 refine ⟨λ k d w h=>?_,λ d=>?_,Nat.succ_le_succ E.n,Nat.le_succ_of_le E.sn,E.snd,?_,λ d x hx=>?_,E.zg1⟩
 . obtain ⟨x,hx,q⟩:=E.own k d w h
   have hne:d≠s.n:=λ z=>by subst z; rw [out.2] at hx; cases hx
   exact ⟨x,by rw [dd d hne]; exact hx,q⟩
 . by_cases h:d=s.n
   . subst h; rw [ds]; simp
   . rw [dd d h]; exact Nat.le_succ_of_le (E.dn d)
 . show (s.log++[_]).length+(List.range (s.n+1)).countP (λ x=>zgU ((TH.za6 s).deed x))+(List.range (s.n+1)).countP (λ x=>actB ((TH.za6 s).deed x))<=_
   rw [List.range_succ,List.countP_append,List.countP_append,List.length_append]
   have e1:(List.range s.n).countP (λ x=>zgU ((TH.za6 s).deed x))=zdt s:=List.countP_congr λ x hx=>by rw [dd x (Nat.ne_of_lt (List.mem_range.mp hx))]
   have e2:(List.range s.n).countP (λ x=>actB ((TH.za6 s).deed x))=actN s:=List.countP_congr λ x hx=>by rw [dd x (Nat.ne_of_lt (List.mem_range.mp hx))]
   rw [e1,e2]
   have:=E.lg
   have h1:[s.n].countP (λ x=>zgU ((TH.za6 s).deed x))=0:=by simp [ds,zgU]
   have h2:[s.n].countP (λ x=>actB ((TH.za6 s).deed x))<=1:=by
     have:=List.countP_le_length (p:=λ x=>actB ((TH.za6 s).deed x)) (l:=[s.n]); simpa using this
   rw [h1]
   simp only [List.length_singleton]
   omega
 . by_cases h:d=s.n
   . subst h; rw [ds] at hx; cases hx
   . rw [dd d h] at hx; exact E.zgZ d x hx
theorem Ext.see {s:HS K} {T:Nat} {k:K} (E:Ext s T):Ext (TH.see s k) (T+1):=by
 have sub:∀ x,x∈s.seen->x∈(TH.see s k).seen:=λ x hx=>by
   show x∈if k∈s.seen then s.seen else s.seen++[k]
   split
   . exact hx
   . exact List.mem_append_left _ hx
 refine ⟨E.own,λ d=>Nat.le_succ_of_le (E.dn d),Nat.le_succ_of_le E.n,?_,?_,Nat.le_trans E.lg (by omega),λ d x hx=>sub _ (E.zgZ d x hx),λ k h=>sub _ (E.zg1 k h)⟩
 . show (if k∈s.seen then s.seen else s.seen++[k]).length<=_
   have:=E.sn
   split
   . omega
   . simp; omega
 . show (if k∈s.seen then s.seen else s.seen++[k]).Nodup
   split
   . exact E.snd
   . rename_i h
     exact List.nodup_append.mpr ⟨E.snd,by simp,λ a ha b hb=>by rw [List.mem_singleton.mp hb]; intro z; rw [z] at ha; exact h ha⟩
theorem Ext.settle:∀ {f:Nat} {s:HS K} {T:Nat},Ext s T->Core s none->Ext (TH.settle ord f s) T
 | 0,s,T,E,c=>E
 | f+1,s,T,E,c=>by
  unfold TH.settle
  cases h:(rings s).getLast? with
  | none=>exact E
  | some d =>
   have hd:(s.deed d).act:=.inr (zaT (zbR (List.mem_of_getLast? h)).2)
   exact Ext.settle (E.drop ord c hd) (c.drop ord hd)
theorem Ext.wait {s:HS K} {d:Nat} {a:Act K} {T:Nat} (E:Ext s T) (hd:(s.deed d).st=.zaq) (hT:∀ e,(s.deed e).done.length+(if (s.deed e).st=.waiting then 1 else 0)+1<=T) (hl:s.log.length+zdt s+actN s+2<=2 * T):Ext (TH.wait s d a) T:=by
 have dn:∀ e,(up s.deed d { s.deed d with st:=.waiting,wish:=some a } e).done=(s.deed e).done:=λ e=>by
   by_cases h:e=d
   . subst h; rw [zag]
   . rw [zan h]
 refine ⟨λ k e w h=>?_,λ e=>?_,E.n,E.sn,E.snd,?_,λ e x hx=>?_,E.zg1⟩
 . obtain ⟨x,hx,q⟩:=E.own k e w h
   exact ⟨x,by show x∈(up s.deed d _ e).done; rw [dn]; exact hx,q⟩
 . show (up s.deed d _ e).done.length+(if (up s.deed d _ e).st=.waiting then 1 else 0)<=T
   rw [dn]
   have:=hT e
   split at this <;> split <;> omega
 . show s.log.length+(List.range s.n).countP (λ x=>zgU (up s.deed d _ x))+(List.range s.n).countP (λ x=>actB (up s.deed d _ x))<=2 * T
   have e1:(List.range s.n).countP (λ x=>actB (up s.deed d { s.deed d with st:=.waiting,wish:=some a } x))<=actN s:=by
     unfold actN
     refine List.countP_mono_left λ x _ hx=>?_
     by_cases h:x=d
     . subst h; exact zaS.mpr (.inl hd)
     . rw [zan h] at hx; exact hx
   have e2:(List.range s.n).countP (λ x=>zgU (up s.deed d { s.deed d with st:=.waiting,wish:=some a } x))<=zdt s+1:=by
     unfold zdt
     refine zic (d:=d) List.nodup_range λ x _ hx=>?_
     by_cases h:x=d
     . exact .inr h
     . rw [zan h] at hx; exact .inl hx
   dsimp only at e1 e2 ⊢
   omega
 . have hx':x∈(up s.deed d { s.deed d with st:=.waiting,wish:=some a } e).done:=hx
   rw [dn] at hx'; exact E.zgZ e x hx'
theorem Ext.wish {s:HS K} {d:Nat} {a:Act K} {T:Nat} (E:Ext s T) (c:Core s none) (hd:(s.deed d).st=.zaq):Ext (TH.wish ord s d a) (T+1):=by
 have c1:Core (TH.see s a.key) none:=c.see
 have E1:Ext (TH.see s a.key) (T+1):=E.see
 have es:∀ x,x∈(TH.see s a.key).seen↔x=a.key\/x∈s.seen:=λ x=>by
   show x∈(if a.key∈s.seen then s.seen else s.seen++[a.key])↔_
   split
   . rename_i h; exact ⟨.inr,λ q=>q.elim (λ z=>z ▸ h) id⟩
   . rw [List.mem_append,List.mem_singleton]; exact Or.comm
 have main:∀ t:HS K,t.n=s.n->t.seen=(TH.see s a.key).seen->t.deed=s.deed->t.log=s.log->t.book=s.book->(∀ k e w,(e,w)∈t.held k->(∃ w',(e,w')∈s.held k)\/(e=d/\k=a.key))->Ext (doIt t d a) (T+1):=by
   intro t hn hs hdd hlg hbk hh
   have q:Ext { s with seen:=(TH.see s a.key).seen } (T+1):=E1
   have D:∀ T',Ext { s with seen:=(TH.see s a.key).seen } T'->T<=T'->(∀ e,(s.deed e).done.length+(if (s.deed e).st=.waiting then 1 else 0)<=T)->Ext (doIt t d a) (T+1):=λ _ _ _ _=>by
     have ds:(doIt t d a).deed d={ s.deed d with st:=.zaq,done:=(s.deed d).done++[zkd t a] }:=by rw [zdr,hdd,zag]
     have dn:∀ e,e≠d->(doIt t d a).deed e=s.deed e:=λ e he=>by rw [zdr,hdd,zan he]
     have en:(doIt t d a).n=s.n:=by rw [zdN]; exact hn
     refine ⟨λ k e w h=>?_,λ e=>?_,by rw [en]; exact Nat.le_succ_of_le E.n,by rw [zcd,hs]; exact E1.sn,by rw [zcd,hs]; exact E1.snd,?_,λ e x hx=>?_,λ k h=>?_⟩
     . rw [zct] at h
       have sub:∀ e x,x∈(s.deed e).done->x∈((doIt t d a).deed e).done:=λ e x hx=>by
         by_cases he:e=d
         . subst he; rw [ds]; exact List.mem_append_left _ hx
         . rw [dn e he]; exact hx
       rcases hh k e w h with ⟨w',h'⟩ | ⟨he,hk⟩
       . obtain ⟨x,hx,q⟩:=E.own k e w' h'
         exact ⟨x,sub e x hx,q⟩
       . subst he
         exact ⟨zkd t a,by rw [ds]; exact List.mem_append_right _ List.mem_cons_self,by rw [zcu]; exact hk.symm⟩
     . by_cases he:e=d
       . subst he
         have:=E.dn e
         rw [ds]
         simp
         split at this <;> omega
       . rw [dn e he]; exact Nat.le_succ_of_le (E.dn e)
     . have e1:actN (doIt t d a)=actN s:=by
         unfold actN; rw [en]
         refine List.countP_congr λ x _=>?_
         by_cases hx:x=d
         . subst hx; rw [ds,zaS,zaS]; exact ⟨λ _=>.inl hd,λ _=>.inl rfl⟩
         . rw [dn x hx]
       have e2:zdt (doIt t d a)<=zdt s:=by
         unfold zdt; rw [en]
         refine List.countP_mono_left λ x _ hx=>?_
         by_cases hxd:x=d
         . subst hxd; rw [ds] at hx; cases hx
         . rw [dn x hxd] at hx; exact hx
       have e3:=zjY (s:=t) (d:=d) (a:=a)
       rw [hlg] at e3
       have:=E.lg
       omega
     . rw [zcd,hs]
       by_cases he:e=d
       . subst he
         rw [ds] at hx
         rcases List.mem_append.mp hx with hx | hx
         . exact (es _).mpr (.inr (E.zgZ e x hx))
         . rw [List.mem_singleton.mp hx,zcu]; exact (es _).mpr (.inl rfl)
       . rw [dn e he] at hx; exact (es _).mpr (.inr (E.zgZ e x hx))
     . rw [zcd,hs]
       rcases zig h with h | h
       . rw [hbk] at h; exact (es _).mpr (.inr (E.zg1 k h))
       . rw [h,zcu]; exact (es _).mpr (.inl rfl)
   exact D _ q (Nat.le_succ _) E.dn
 unfold TH.wish
 dsimp only
 by_cases h1:look ((TH.see s a.key).held a.key) d=some a.wr\/look ((TH.see s a.key).held a.key) d=some true
 . rw [if_pos h1]
   exact main _ rfl rfl rfl rfl rfl λ k e w h=>.inl ⟨w,h⟩
 . rw [if_neg h1]
   have hw:∀ w',(d,w')∈(TH.see s a.key).held a.key->w'=false/\a.wr=true:=λ w' z=>by
     have q:=zde (c1.hNd _) z
     cases hw':w' with
     | true=>exact absurd (.inr (hw' ▸ q)) h1
     | false =>
       cases ha:a.wr with
       | true=>exact ⟨rfl,rfl⟩
       | false=>exact absurd (.inl (by rw [ha,q,hw'])) h1
   by_cases h2:lets ((TH.see s a.key).held a.key) d a.wr=true/\(has ((TH.see s a.key).held a.key) d=true\/(TH.see s a.key).rows a.key=[])
   . rw [if_pos h2]
     exact main _ rfl rfl rfl rfl rfl λ k e w h=>zjS (s:=TH.see s a.key) h
   . rw [if_neg h2]
     refine Ext.settle ord (Ext.wait E1 hd (λ e=>?_) ?_) (c1.wait hd zco hw)
     . have:=E.dn e
       show (s.deed e).done.length+(if (s.deed e).st=.waiting then 1 else 0)+1<=T+1
       omega
     . show s.log.length+zdt s+actN s+2<=2 * (T+1)
       have:=E.lg; omega
end
end TH
end
section
namespace TH
section
variable {K:Type} [DecidableEq K]
theorem zlJ {α:Type} {p:α->Bool}:∀ {l:List α},l.takeWhile p=l↔∀ x∈l,p x=true
 | []=>by simp
 | a::r=>by
  rw [List.takeWhile_cons]
  cases h:p a with
  | true=>simp [zlJ (l:=r),h]
  | false=>simp [h]
def hind (h:List (Nat×Bool)) (d:Nat) (w:Bool):List Nat:=(h.filter λ p=>p.1 != d && (w || p.2)).map (·.1)
def ahead (r:List (Nat×Bool)) (d:Nat):List (Nat×Bool):=r.takeWhile λ p=>p.1 != d
def zjN (h r:List (Nat×Bool)) (d:Nat) (w:Bool):List Nat:=match (ahead r d).getLast? with
 | some p=>[p.1]
 | none=>hind h d w
def nxt (s:HS K) (d:Nat):List Nat:=match (s.deed d).st,(s.deed d).wish with
 | .waiting,some a=>zjN (s.held a.key) (s.rows a.key) d a.wr
 | _,_=>[]
theorem zhe {s:HS K} {d:Nat} {a:Act K} (h:(s.deed d).st=.waiting) (w:(s.deed d).wish=some a):zbQ s d=(ahead (s.rows a.key) d).map (·.1)++hind (s.held a.key) d a.wr:=by
 unfold zbQ; rw [h,w]; rfl
theorem zkX {s:HS K} {d:Nat} {a:Act K} (h:(s.deed d).st=.waiting) (w:(s.deed d).wish=some a):nxt s d=zjN (s.held a.key) (s.rows a.key) d a.wr:=by
 unfold nxt; rw [h,w]
theorem zpb {s:HS K} {d:Nat} (h:(s.deed d).st≠.waiting):nxt s d=[]:=by
 unfold nxt; split
 . contradiction
 . rfl
inductive Path (R:Nat->Nat->Prop):Nat->Nat->Prop where
 | one {d e:Nat}:R d e->Path R d e
 | step {d e f:Nat}:R d e->Path R e f->Path R d f
theorem Path.trans {R:Nat->Nat->Prop} {d e f:Nat} (p:Path R d e) (q:Path R e f):Path R d f:=by
 induction p with
 | one h=>exact .step h q
 | step h _ ih=>exact .step h (ih q)
theorem Path.mono {R S:Nat->Nat->Prop} (h:∀ a b,R a b->S a b) {d e:Nat} (p:Path R d e):Path S d e:=by
 induction p with
 | one q=>exact .one (h _ _ q)
 | step q _ ih=>exact .step (h _ _ q) ih
theorem Path.last {R:Nat->Nat->Prop} {d e:Nat} (p:Path R d e):∃ c,R c e/\(c=d\/Path R d c):=by
 induction p with
 | one h=>exact ⟨_,h,.inl rfl⟩
 | step h _ ih =>
  obtain ⟨c,q,z⟩:=ih
  refine ⟨c,q,.inr ?_⟩
  rcases z with z | z
  . subst z; exact .one h
  . exact .step h z
theorem zbK {s:HS K} {d e:Nat}:Reach s d e↔Path (λ a b=>b∈zbQ s a) d e :=
 ⟨λ r=>by induction r with
  | one h=>exact .one h
  | step h _ ih=>exact .step h ih,λ r=>by induction r with
  | one h=>exact .one h
  | step h _ ih=>exact .step h ih⟩
abbrev zc5 (s:HS K):Nat->Nat->Prop:=Path λ a b=>b∈nxt s a
theorem zkW {s:HS K} {d e:Nat} (h:e∈nxt s d):e∈zbQ s d:=by
 by_cases hw:(s.deed d).st=.waiting
 . cases ha:(s.deed d).wish with
   | none=>unfold nxt at h; rw [hw,ha] at h; cases h
   | some a =>
    rw [zkX hw ha] at h
    rw [zhe hw ha]
    unfold zjN at h
    cases hl:(ahead (s.rows a.key) d).getLast? with
    | none=>rw [hl] at h; exact List.mem_append_right _ h
    | some p =>
     rw [hl] at h
     rw [List.mem_singleton.mp h]
     exact List.mem_append_left _ (List.mem_map.mpr ⟨p,List.mem_of_getLast? hl,rfl⟩)
 . rw [zpb hw] at h; cases h
theorem zc4 {pre post:List (Nat×Bool)} {d:Nat} {w:Bool} (h:∀ p∈pre,p.1≠d):ahead (pre++(d,w)::post) d=pre:=by
 unfold ahead
 rw [List.takeWhile_append_of_pos (by intro p hp; simpa using h p hp)]
 simp
theorem zjn {r:List (Nat×Bool)} {d:Nat} {w:Bool} (nd:(r.map (·.1)).Nodup) (h:(d,w)∈r):∃ post,r=ahead r d++(d,w)::post/\∀ p∈ahead r d,p.1≠d:=by
 obtain ⟨pre,post,rfl⟩:=List.append_of_mem h
 have hp:∀ p∈pre,p.1≠d:=λ p hp z=>by
  rw [List.map_append,List.nodup_append] at nd
  exact nd.2.2 p.1 (List.mem_map.mpr ⟨p,hp,rfl⟩) d (by simp) z
 exact ⟨post,by rw [zc4 hp],by rw [zc4 hp]; exact hp⟩
theorem zhv {s:HS K} (c:Core s none) {k:K}:∀ (m:Nat) (pre post:List (Nat×Bool)) (d:Nat) (w:Bool),pre.length=m->s.rows k=pre++(d,w)::post->∀ p∈pre,zc5 s d p.1
 | 0,pre,post,d,w,hm,e,p,hp=>by
  have:pre=[]:=List.length_eq_zero_iff.mp hm
  subst this; cases hp
 | m+1,pre,post,d,w,hm,e,p,hp=>by
  have hne:pre≠[]:=by intro z; subst z; cases hm
  obtain ⟨init,⟨f,wf⟩,rfl⟩:∃ init l,pre=init++[l]:=⟨pre.dropLast,pre.getLast hne,(List.dropLast_concat_getLast hne).symm⟩
  have nd:=c.rNd k
  have hm':(d,w)∈s.rows k:=by rw [e]; simp
  obtain ⟨hst,a,ha,hk,hw⟩:=c.rAct k _ hm'
  obtain ⟨post',e',hall⟩:=zjn nd hm'
  have hpre:∀ p∈init++[(f,wf)],p.1≠d:=λ p hp z=>by
    rw [e,List.map_append,List.nodup_append] at nd
    exact nd.2.2 p.1 (List.mem_map.mpr ⟨p,hp,rfl⟩) d (by simp) z
  have ea:ahead (s.rows k) d=init++[(f,wf)]:=by rw [e]; exact zc4 hpre
  have h1:f∈nxt s d:=by
    rw [zkX hst ha,hk]; unfold zjN; rw [ea]; simp
  rcases List.mem_append.mp hp with hp | hp
  . exact .step h1 (zhv c m init ((d,w)::post) f wf (by simpa using hm) (by rw [e]; simp) p hp)
  . rw [List.mem_singleton.mp hp]; exact .one h1
theorem zgC {s:HS K} (c:Core s none) (hh:Head s) {d e:Nat} (h:e∈zbQ s d):zc5 s d e:=by
 obtain ⟨a,hst,ha,_⟩:=zbw.mp h
 rw [zhe hst ha] at h
 obtain ⟨a',ha',hrow⟩:=c.wRow d (by simp) hst
 rw [ha] at ha'; cases ha'
 have hr:(d,a.wr)∈s.rows a.key:=hrow
 have nd:=c.rNd a.key
 obtain ⟨post,e1,hall⟩:=zjn nd hr
 rcases List.mem_append.mp h with h | h
 . obtain ⟨p,hp,rfl⟩:=List.mem_map.mp h
   exact zhv c _ _ post d a.wr rfl e1 p hp
 . cases hl:ahead (s.rows a.key) d with
   | nil =>
    refine .one ?_
    rw [zkX hst ha]; unfold zjN; rw [hl]; exact h
   | cons p r =>
    obtain ⟨f,wf⟩:=p
    have hf:zc5 s d f:=zhv c _ _ post d a.wr rfl e1 (f,wf) (by rw [hl]; exact List.mem_cons_self)
    by_cases hef:e=f
    . rw [hef]; exact hf
    ·
      rw [hl] at e1
      have hd0:=hh a.key f wf _ (by rw [e1]; rfl)
      unfold hind at h
      obtain ⟨⟨e',we⟩,hm,rfl⟩:=List.mem_map.mp h
      obtain ⟨hm1,hm2⟩:=List.mem_filter.mp hm
      have hfr:(f,wf)∈s.rows a.key:=by rw [e1]; simp
      obtain ⟨fst,af,haf,hkf,hwf⟩:=c.rAct a.key _ hfr
      have hnf:nxt s f=hind (s.held a.key) f wf:=by
       have q:=zkX fst haf
       rw [hkf] at q
       rw [q]
       unfold zjN
       have:ahead (s.rows a.key) f=[]:=by rw [e1]; exact zc4 (pre:=[]) (by simp)
       rw [this]
       show hind (s.held a.key) f af.wr=_
       rw [hwf]
      refine hf.trans (.one ?_)
      rw [hnf]
      unfold hind
      refine List.mem_map.mpr ⟨(e',we),List.mem_filter.mpr ⟨hm1,?_⟩,rfl⟩
      have hne:((e' != f))=true:=by simpa using hef
      simp only [hne,Bool.true_and]
      cases hwf':wf with
      | true=>rfl
      | false =>
       rw [hwf'] at hd0
       have hx:∃ p∈s.held a.key,p.1≠f/\p.2=true:=by
        unfold lets at hd0
        obtain ⟨p,hp,q⟩:=List.all_eq_false.mp hd0
        refine ⟨p,hp,?_⟩
        cases hp2:p.2 with
        | false=>simp [hp2] at q
        | true=>simp [hp2] at q; exact ⟨q,rfl⟩
       obtain ⟨⟨x,wx⟩,hx1,_,hx2⟩:=hx
       have hx2':wx=true:=hx2
       subst hx2'
       have q:=c.hEx a.key x hx1 (e',we) hm1
       have q':e'=x:=q
       subst q'
       have n1:=zde (c.hNd a.key) hm1
       have n2:=zde (c.hNd a.key) hx1
       rw [n1] at n2; cases n2; rfl
theorem zdo {s:HS K} (c:Core s none) (hh:Head s) {d e:Nat}:zc5 s d e↔Reach s d e:=by
 rw [zbK]
 refine ⟨λ p=>p.mono λ a b h=>zkW h,λ p=>?_⟩
 induction p with
 | one h=>exact zgC c hh h
 | step h _ ih=>exact (zgC c hh h).trans ih
def Thru (s:HS K) (d:Nat):Prop:=∀ x,¬ Path (λ a b=>b∈zbQ s a/\a≠d/\b≠d) x x
theorem Thru.mono {s t:HS K} {d:Nat} (h:Thru s d) (m:∀ e x,x∈zbQ t e->x∈zbQ s e):Thru t d:=λ x p=>h x (p.mono λ a b q=>⟨m _ _ q.1,q.2⟩)
theorem zr2 {R:Nat->Nat->Prop} {d x y:Nat} (p:Path R x y):(x=d\/y=d)\/(Path R x d/\Path R d y)\/Path (λ a b=>R a b/\a≠d/\b≠d) x y:=by
 induction p with
 | @one x y h =>
  by_cases h1:x=d
  . exact .inl (.inl h1)
  . by_cases h2:y=d
    . exact .inl (.inr h2)
    . exact .inr (.inr (.one ⟨h,h1,h2⟩))
 | @step x e y h q ih =>
  by_cases h1:x=d
  . exact .inl (.inl h1)
  . rcases ih with (z | z) | ⟨z1,z2⟩ | z
    . subst z; exact .inr (.inl ⟨.one h,q⟩)
    . exact .inl (.inr z)
    . exact .inr (.inl ⟨.step h z1,z2⟩)
    . by_cases h2:e=d
      . subst h2; exact .inr (.inl ⟨.one h,q⟩)
      . exact .inr (.inr (.step ⟨h,h1,h2⟩ z))
theorem Thru.ring {s:HS K} {d:Nat} (h:Thru s d) {x:Nat} (r:Reach s x x):Reach s x d/\Reach s d x:=by
 rw [zbK] at r
 rcases zr2 (d:=d) r with (z | z) | ⟨z1,z2⟩ | z
 . subst z; exact ⟨zbK.mpr r,zbK.mpr r⟩
 . subst z; exact ⟨zbK.mpr r,zbK.mpr r⟩
 . exact ⟨zbK.mpr z1,zbK.mpr z2⟩
 . exact absurd z (h x)
theorem Thru.wait {s:HS K} {d:Nat} {a:Act K} (ac:Acyc s):Thru (TH.wait s d a) d:=by
 intro x p
 refine ac x (zbK.mpr (p.mono λ e y h=>?_))
 obtain ⟨h,he,hy⟩:=h
 obtain ⟨b,hst,hb,_⟩:=zbw.mp h
 rw [zhe hst hb] at h
 have de:(TH.wait s d a).deed e=s.deed e:=zan he
 rw [de] at hst hb
 rw [zhe hst hb]
 rcases List.mem_append.mp h with h | h
 . refine List.mem_append_left _ ?_
   by_cases hk:b.key=a.key
   . have er:(TH.wait s d a).rows b.key=if has (s.held a.key) d then (d,a.wr)::s.rows a.key else s.rows a.key++[(d,a.wr)]:=by
       show up s.rows a.key _ b.key=_
       rw [hk,zag]
     rw [er] at h
     rw [hk]
     obtain ⟨q,hq,rfl⟩:=List.mem_map.mp h
     refine List.mem_map.mpr ⟨q,?_,rfl⟩
     unfold ahead at hq ⊢
     split at hq
     . rw [List.takeWhile_cons] at hq
       split at hq
       . rcases List.mem_cons.mp hq with z | z
         . subst z; exact absurd rfl hy
         . exact z
       . cases hq
     . by_cases hall:∀ q∈s.rows a.key,(q.1 != e)=true
       . rw [List.takeWhile_append_of_pos hall] at hq
         rw [zlJ.mpr hall]
         rcases List.mem_append.mp hq with z | z
         . exact z
         . rw [List.takeWhile_cons] at z
           split at z
           . simp at z; subst z; exact absurd rfl hy
           . cases z
       . have:(s.rows a.key++[(d,a.wr)]).takeWhile (λ p=>p.1 != e)=(s.rows a.key).takeWhile λ p=>p.1 != e:=by
           rw [List.takeWhile_append]
           rw [if_neg]
           intro z
           apply hall
           have:(s.rows a.key).takeWhile (λ p=>p.1 != e)=s.rows a.key:=(List.takeWhile_sublist _).eq_of_length z
           exact zlJ.mp this
         rw [this] at hq; exact hq
   . have er:(TH.wait s d a).rows b.key=s.rows b.key:=zan hk
     rw [er] at h; exact h
 . exact List.mem_append_right _ h
theorem znD (ord:List K->List K) {s:HS K} {g:Nat} (c:Core s none) (hg:(s.deed g).act):∀ e x,x∈zbQ (TH.drop ord s g) e->x∈zbQ s e:=λ e x h =>
 zeS (t:=.dropped) (d:=g) (s:=s) (bk:=λ k=>if (zaQ (s.deed g).done k).isSome then zas s k else s.book k) (kp:=s.kept) (lg:=s.log++[.drop g]) (by decide) e x (zd1 (c.drops hg) e x h)
theorem zju {s:HS K} {d:Nat} (c:Core s none) (th:Thru s d) :
   ((¬ Reach s d d)->(rings s).getLast?=none)/\∀ g,Reach s d g->Reach s g d->(∀ x,Reach s d x->Reach s x d->x<=g)->(rings s).getLast?=some g:=by
 have mem:∀ x,x∈rings s↔Reach s x x:=λ x=>by
   refine ⟨λ h=>(zbR h).2,λ h=>?_⟩
   unfold rings
   refine List.mem_filter.mpr ⟨List.mem_range.mpr (c.lt (.inr (zaT h))),by simpa using h⟩
 refine ⟨λ h=>?_,λ g h1 h2 h3=>?_⟩
 . cases e:(rings s).getLast? with
   | none=>rfl
   | some x =>
    have:=th.ring ((mem x).mp (List.mem_of_getLast? e))
    exact absurd (this.2.trans this.1) h
 . have hg:g∈rings s:=(mem g).mpr (h2.trans h1)
   cases e:(rings s).getLast? with
   | none=>rw [List.getLast?_eq_none_iff] at e; rw [e] at hg; cases hg
   | some x =>
    have hx:=(mem x).mp (List.mem_of_getLast? e)
    have hx2:=th.ring hx
    have le:=h3 x hx2.2 hx2.1
    have sorted:(rings s).Pairwise (· < ·):=List.Pairwise.filter _ List.pairwise_lt_range
    obtain ⟨init,hi⟩:∃ init,rings s=init++[x]:=by
      have hne:rings s≠[]:=by intro z; rw [z] at hg; cases hg
      refine ⟨(rings s).dropLast,?_⟩
      have:=List.dropLast_concat_getLast hne
      rw [List.getLast?_eq_some_getLast hne] at e
      cases e
      exact this.symm
    rw [hi] at hg sorted
    rcases List.mem_append.mp hg with q | q
    . have:=(List.pairwise_append.mp sorted).2.2 g q x (by simp)
      omega
    . rw [List.mem_singleton.mp q]
theorem zlP (ord:List K->List K) {s:HS K} {f:Nat} (h:(rings s).getLast?=none):TH.settle ord f s=s:=by
 cases f with
 | zero=>rfl
 | succ f=>unfold TH.settle; rw [h]
theorem zlO (ord:List K->List K) {s:HS K} {f g:Nat} (h:(rings s).getLast?=some g):TH.settle ord (f+1) s=TH.settle ord f (TH.drop ord s g):=by
 conv=>lhs; unfold TH.settle
 rw [h]
def touched (s:HS K) (d:Nat):List K:=(s.deed d).done.map (·.key)++(match (s.deed d).st,(s.deed d).wish with | .waiting,some a=>[a.key] | _,_=>[])
theorem zfl {M:List K}:∀ (ks:List K) (s:HS K),Core s none->(∀ k∈ks,k∉M->zny s k)->zaM s ks=zaM s (ks.filter λ k=>decide (k∈M))
 | [],s,c,h=>rfl
 | k::r,s,c,h=>by
  by_cases hk:k∈M
  . rw [List.filter_cons_of_pos (by simpa using hk)]
    unfold zaM
    refine zfl r _ c.zby λ k' hk' hn=>?_
    have hne:k'≠k:=λ z=>hn (by rw [z]; exact hk)
    obtain ⟨e1,e2⟩:=zh7 hne (s.rows k).length s c
    intro d w r' e
    rw [e1] at e; rw [e2]
    exact h k' (List.mem_cons_of_mem _ hk') hn d w r' e
  . rw [List.filter_cons_of_neg (by simpa using hk)]
    have:zby (s.rows k).length s k=s:=by
     cases hr:s.rows k with
     | nil=>exact zfO hr
     | cons p r' =>
      obtain ⟨d,w⟩:=p
      exact zew hr (h k List.mem_cons_self hk d w r' hr)
    show zaM (zby (s.rows k).length s k) r=_
    rw [this]
    exact zfl r s c λ k' hk'=>h k' (List.mem_cons_of_mem _ hk')
theorem zhK {s:HS K} {T:Nat} {d:Nat} {k:K} (c:Core s none) (E:Ext s T) (h:k∉touched s d):less (s.held k) d=s.held k/\less (s.rows k) d=s.rows k:=by
 have hh:∀ p∈s.held k,p.1≠d:=λ p hp z=>by
  obtain ⟨e,w⟩:=p
  have z':e=d:=z
  subst z'
  obtain ⟨a,ha,hk⟩:=E.own k e w hp
  exact h (List.mem_append_left _ (List.mem_map.mpr ⟨a,ha,hk⟩))
 have hr:∀ p∈s.rows k,p.1≠d:=λ p hp z=>by
  obtain ⟨e,w⟩:=p
  have z':e=d:=z
  subst z'
  obtain ⟨hst,a,ha,hk,_⟩:=c.rAct k _ hp
  refine h (List.mem_append_right _ ?_)
  have hst':(s.deed e).st=.waiting:=hst
  have ha':(s.deed e).wish=some a:=ha
  rw [hst',ha']
  simpa using hk.symm
 unfold less
 exact ⟨List.filter_eq_self.mpr λ p hp=>by simpa using hh p hp,List.filter_eq_self.mpr λ p hp=>by simpa using hr p hp⟩
theorem zd0 {s:HS K} {T:Nat} {d:Nat} (c:Core s none) (E:Ext s T):∀ k∈touched s d,k∈s.seen:=λ k h=>by
 rcases List.mem_append.mp h with h | h
 . obtain ⟨a,ha,rfl⟩:=List.mem_map.mp h
   exact E.zgZ d a ha
 . split at h
   . rename_i a hst ha
     rw [List.mem_singleton.mp h]
     obtain ⟨a',ha',hr⟩:=c.wRow d (by simp) hst
     rw [ha] at ha'; cases ha'
     exact zcH c hr
   . cases h
variable (ord:List K->List K) (hord:∀ l k,k∈ord l↔k∈l) (hsub:∀ l m:List K,(∀ x∈m,x∈l)->ord m=(ord l).filter λ k=>decide (k∈m))
include hsub
theorem zlh {s t:HS K} {T:Nat} {d:Nat} (c:Core s none) (E:Ext s T) (hh:Head s) (c1:Core (letGo t d) none) (h1:t.held=s.held) (h2:t.rows=s.rows) (h3:t.seen=s.seen) :
  free ord t d=zaM (letGo t d) (ord (touched s d)):=by
 unfold free
 rw [h3,hsub s.seen (touched s d) (zd0 c E)]
 refine zfl _ _ c1 λ k hk hn=>?_
 obtain ⟨e1,e2⟩:=zhK c E hn
 intro e w r q
 have q':less (t.rows k) d=(e,w)::r:=q
 show lets (less (t.held k) d) e w=false
 rw [h2,e2] at q'
 rw [h1,e1]
 exact hh k e w r q'
omit hsub
def zef (s:HS K) (d:Nat) (k:K):HS K:={ s with held:=up s.held k (less (s.held k) d),rows:=up s.rows k (less (s.rows k) d) }
theorem zk7 (l:List (Nat×Bool)) (d:Nat):less (less l d) d=less l d:=by unfold less; rw [List.filter_filter]; simp
theorem zfK (d:Nat):∀ (ks:List K) (s:HS K),(ks.foldl (λ s k=>zef s d k) s).held=(λ k=>if k∈ks then less (s.held k) d else s.held k)/\(ks.foldl (λ s k=>zef s d k) s).rows=(λ k=>if k∈ks then less (s.rows k) d else s.rows k)
 | [],s=>by simp
 | k::r,s=>by
  obtain ⟨h1,h2⟩:=zfK d r (zef s d k)
  rw [List.foldl_cons,h1,h2]
  refine ⟨funext λ k'=>?_,funext λ k'=>?_⟩
  . show (if k'∈r then less (up s.held k _ k') d else up s.held k _ k')=_
    by_cases hk:k'=k
    . subst hk; rw [zag,zk7]; simp
    . rw [zan hk]; simp [hk]
  . show (if k'∈r then less (up s.rows k _ k') d else up s.rows k _ k')=_
    by_cases hk:k'=k
    . subst hk; rw [zag,zk7]; simp
    . rw [zan hk]; simp [hk]
theorem zfh (d:Nat):∀ (ks:List K) (s:HS K),(ks.foldl (λ s k=>zef s d k) s)={ s with held:=(ks.foldl (λ s k=>zef s d k) s).held,rows:=(ks.foldl (λ s k=>zef s d k) s).rows }
 | [],s=>rfl
 | k::r,s=>by rw [List.foldl_cons]; exact zfh d r (zef s d k)
theorem zk9 {s:HS K} {d:Nat} {ks:List K} (h:∀ k,k∉ks->less (s.held k) d=s.held k/\less (s.rows k) d=s.rows k):ks.foldl (λ s k=>zef s d k) s=letGo s d:=by
 rw [zfh,(zfK d ks s).1,(zfK d ks s).2]
 unfold letGo
 congr 1
 . funext k; split
   . rfl
   . rename_i hk; exact (h k hk).1.symm
 . funext k; split
   . rfl
   . rename_i hk; exact (h k hk).2.symm
def take1 (h:List (Nat×Bool)) (d:Nat) (w:Bool):List (Nat×Bool):=if look h d=some true then h else zbf h d w
def zkn (s:HS K) (d:Nat) (k:K) (w:Bool):HS K:={ s with held:=up s.held k (take1 (s.held k) d w) }
theorem zrx {α β:Type} [DecidableEq α] (f:α->β) (a:α):up f a (f a)=f:=by
 funext x; by_cases h:x=a
 . subst h; exact zag
 . exact zan h
theorem zjX {h:List (Nat×Bool)} {d:Nat} {w:Bool} (e:look h d=some w):has h d=true:=zim.mpr ⟨w,zc2 e⟩
theorem zkw {h:List (Nat×Bool)} {d:Nat} {w:Bool} (nd:(h.map (·.1)).Nodup) (e:look h d=some w):zbf h d w=h:=by
 unfold zbf
 have hh:h.any (λ p=>p.1 == d)=true:=zjX e
 rw [if_pos hh]
 have:∀ p∈h,(if p.1 == d then (d,w) else p)=p:=λ p hp=>by
  obtain ⟨x,wx⟩:=p
  by_cases hx:x=d
  . subst hx
    have:=zde nd hp
    rw [e] at this; cases this; simp
  . simp [hx]
 rw [List.map_congr_left this]; simp
theorem zhi {s:HS K} {d:Nat} {a:Act K} (c:Core s none):wish ord s d a =
   if (has ((see s a.key).held a.key) d || ((see s a.key).rows a.key).isEmpty) && lets ((see s a.key).held a.key) d a.wr then doIt (zkn (see s a.key) d a.key a.wr) d a else settle ord s.n (wait (see s a.key) d a):=by
 have c1:Core (see s a.key) none:=c.see
 have nd:=c1.hNd a.key
 unfold wish
 dsimp only
 by_cases h1:look ((see s a.key).held a.key) d=some a.wr\/look ((see s a.key).held a.key) d=some true
 . rw [if_pos h1]
   have hl:lets ((see s a.key).held a.key) d a.wr=true:=by
     unfold lets
     rw [List.all_eq_true]
     intro p hp
     obtain ⟨x,wx⟩:=p
     by_cases hx:x=d
     . simp [hx]
     . have two:∀ y,(y,true)∈(see s a.key).held a.key->(∃ w,(d,w)∈(see s a.key).held a.key)->y=d:=λ y hy ⟨w,hw⟩=>(c1.hEx a.key y hy _ hw).symm
       rcases h1 with h1 | h1
       . have m:=zc2 h1
         cases hw:a.wr with
         | true=>rw [hw] at m; exact absurd (c1.hEx a.key d m _ hp) hx
         | false =>
          cases hwx:wx with
          | true=>subst hwx; exact absurd (two x hp ⟨_,m⟩) hx
          | false=>simp
       . have m:=zc2 h1
         exact absurd (c1.hEx a.key d m _ hp) hx
   have hhas:has ((see s a.key).held a.key) d=true:=by rcases h1 with h1 | h1 <;> exact zjX h1
   rw [hl,hhas]
   simp only [Bool.true_or,Bool.and_self,if_true]
   have:zkn (see s a.key) d a.key a.wr=see s a.key:=by
     unfold zkn
     have:take1 ((see s a.key).held a.key) d a.wr=(see s a.key).held a.key:=by
       unfold take1
       by_cases h2:look ((see s a.key).held a.key) d=some true
       . rw [if_pos h2]
       . rw [if_neg h2]
         exact zkw nd (h1.resolve_right h2)
     rw [this,zrx]
   rw [this]
 . rw [if_neg h1]
   have h2:look ((see s a.key).held a.key) d≠some true:=λ z=>h1 (.inr z)
   have et:zkn (see s a.key) d a.key a.wr=take (see s a.key) d a.key a.wr:=by
     unfold zkn take take1; rw [if_neg h2]
   rw [et]
   by_cases h3:lets ((see s a.key).held a.key) d a.wr=true/\(has ((see s a.key).held a.key) d=true\/(see s a.key).rows a.key=[])
   . rw [if_pos h3,if_pos]
     obtain ⟨h4,h5⟩:=h3
     rw [h4]
     rcases h5 with h5 | h5
     . rw [h5]; rfl
     . rw [h5]; simp
   . rw [if_neg h3,if_neg]
     . rfl
     . intro z
       apply h3
       rw [Bool.and_eq_true,Bool.or_eq_true] at z
       exact ⟨z.2,z.1.imp id λ q=>List.isEmpty_iff.mp q⟩
theorem zn5 {s:HS K} {k:K} {d:Nat} {w:Bool} {r:List (Nat×Bool)} (c:Core s none) (hr:s.rows k=(d,w)::r):take { s with rows:=up s.rows k r } d k w=zkn { s with rows:=up s.rows k r } d k w:=by
 unfold take zkn take1
 rw [if_neg]
 intro z
 have:=c.zgf k d w true (by rw [hr]; exact List.mem_cons_self) (zc2 z)
 cases this.1
end
end TH
end
section
namespace S6
open PySem
def Rise (xs:Array Nat):Prop:=xs.toList.Pairwise (· < ·)
theorem Rise.lt {xs:Array Nat} (h:Rise xs) {i j:Nat} (hij:i < j) (hj:j < xs.size):xs[i] < xs[j]:=by
 have:=List.pairwise_iff_getElem.mp h i j (by simpa using Nat.lt_trans hij hj) (by simpa using hj) hij
 simpa using this
theorem Rise.small {xs:Array Nat} (h:xs.size<=1):Rise xs:=by
 refine List.pairwise_iff_getElem.mpr λ i j hi hj hij=>?_
 have:xs.toList.length<=1:=by simpa using h
 omega
theorem zmf {xs:Array Nat} (h:Rise xs) (j:Nat):∀ (fuel lo hi:Nat),hi - lo<=fuel->lo<=hi->hi<=xs.size->(∀ i (hx:i < xs.size),i < lo->xs[i] < j)->(∀ i (hx:i < xs.size),hi<=i->j<=xs[i]) ->
  SetTable.below.go xs j fuel lo hi<=xs.size/\(∀ i (hx:i < xs.size),i < SetTable.below.go xs j fuel lo hi->xs[i] < j)/\∀ i (hx:i < xs.size),SetTable.below.go xs j fuel lo hi<=i->j<=xs[i]
 | 0,lo,hi,hf,hl,hh,h1,h2=>by
  have:lo=hi:=by omega
  subst this
  unfold SetTable.below.go
  exact ⟨hh,h1,h2⟩
 | fuel+1,lo,hi,hf,hl,hh,h1,h2=>by
  unfold SetTable.below.go
  by_cases z:lo < hi
  . rw [if_pos z]
    dsimp only
    have hm:(lo+hi) / 2 < hi:=by omega
    have hm':lo<=(lo+hi) / 2:=by omega
    have hms:(lo+hi) / 2 < xs.size:=by omega
    have e:xs.getD ((lo+hi) / 2) j=xs[(lo+hi) / 2]:=by simp [Array.getD,hms]
    rw [e]
    by_cases y:xs[(lo+hi) / 2] < j
    . rw [if_pos y]
      refine zmf h j fuel ((lo+hi) / 2+1) hi (by omega) (by omega) hh (λ i hi' hlt=>?_) h2
      rcases Nat.lt_or_ge i ((lo+hi) / 2) with q | q
      . exact Nat.lt_trans (h.lt q hms) y
      . have:i=(lo+hi) / 2:=by omega
        subst this; exact y
    . rw [if_neg y]
      refine zmf h j fuel lo ((lo+hi) / 2) (by omega) hm' (by omega) h1 λ i hx hge=>?_
      rcases Nat.lt_or_ge ((lo+hi) / 2) i with q | q
      . exact Nat.le_trans (Nat.le_of_not_lt y) (Nat.le_of_lt (h.lt q hx))
      . have:i=(lo+hi) / 2:=by omega
        subst this; exact Nat.le_of_not_lt y
  . rw [if_neg z]
    have:lo=hi:=by omega
    subst this
    exact ⟨hh,h1,h2⟩
theorem zjf {xs:Array Nat} (h:Rise xs) (j:Nat):SetTable.below xs j<=xs.size/\(∀ i (hi:i < xs.size),i < SetTable.below xs j->xs[i] < j)/\∀ i (hx:i < xs.size),SetTable.below xs j<=i->j<=xs[i] :=
 zmf h j xs.size 0 xs.size (by omega) (Nat.zero_le _) (Nat.le_refl _) (λ i _ z=>absurd z (Nat.not_lt_zero _)) λ i hx z=>by omega
def slotAt (xs:Array Nat) (i:Nat):Nat:=if i=0 then 0 else xs.getD (i - 1) 0+1
theorem below_at {xs:Array Nat} (h:Rise xs) {i:Nat} (hi:i<=xs.size):SetTable.below xs (slotAt xs i)=i:=by
 obtain ⟨h0,h1,h2⟩:=zjf h (slotAt xs i)
 generalize hr:SetTable.below xs (slotAt xs i)=r at *
 by_cases z:i=0
 . subst z
   rcases Nat.eq_zero_or_pos r with q | q
   . exact q
   . have:=h1 0 (by omega) q
     unfold slotAt at this
     simp at this
 . have e:slotAt xs i=xs[i - 1]'(by omega)+1:=by unfold slotAt; rw [if_neg z]; simp [Array.getD,show i - 1 < xs.size by omega]
   rw [e] at h1 h2
   rcases Nat.lt_trichotomy r i with q | q | q
   . have:=h2 (i - 1) (by omega) (by omega)
     omega
   . exact q
   . have:=h1 i (by omega) q
     have:=h.lt (i:=i - 1) (j:=i) (by omega) (by omega)
     omega
theorem zlX {xs:Array Nat} (h:Rise xs) {j:Nat} (hn:xs[SetTable.below xs j]?≠some j):Rise (SetTable.insertAt xs (SetTable.below xs j) j):=by
 obtain ⟨h0,h1,h2⟩:=zjf h j
 unfold Rise SetTable.insertAt
 generalize SetTable.below xs j=r at *
 have e:((xs.extract 0 r).push j++xs.extract r xs.size).toList=xs.toList.take r++j::xs.toList.drop r:=by
   simp [List.extract_eq_take_drop]
   exact List.take_of_length_le (by simp)
 rw [e]
 have gt:∀ i (hx:i < xs.size),r<=i->j < xs[i]:=λ i hx hr=>by
   have hr':r < xs.size:=by omega
   have h3:=h2 r hr' (Nat.le_refl _)
   have h4:xs[r]≠j:=λ z=>hn (by rw [Array.getElem?_eq_getElem hr',z])
   rcases Nat.lt_or_ge r i with q | q
   . have:=h.lt q hx; omega
   . have:i=r:=by omega
     subst this; omega
 refine List.pairwise_append.mpr ⟨List.Pairwise.sublist (List.take_sublist _ _) h,List.pairwise_cons.mpr ⟨λ b hb=>?_,List.Pairwise.sublist (List.drop_sublist _ _) h⟩,λ a ha b hb=>?_⟩
 . obtain ⟨i,hi⟩:=List.getElem?_of_mem hb
   rw [List.getElem?_drop] at hi
   obtain ⟨hl,e1⟩:=List.getElem?_eq_some_iff.mp hi
   have:=gt (r+i) (by simpa using hl) (by omega)
   simp at e1
   omega
 . obtain ⟨i,hi⟩:=List.getElem?_of_mem ha
   have hir:i < r:=by
     have:=(List.getElem?_eq_some_iff.mp hi).1
     rw [List.length_take] at this
     omega
   rw [List.getElem?_take_of_lt hir] at hi
   obtain ⟨hl,e1⟩:=List.getElem?_eq_some_iff.mp hi
   have ha':a < j:=by
     have:=h1 i (by simpa using hl) hir
     simp at e1
     omega
   rcases List.mem_cons.mp hb with q | q
   . omega
   . obtain ⟨i2,hi2⟩:=List.getElem?_of_mem q
     rw [List.getElem?_drop] at hi2
     obtain ⟨hl2,e2⟩:=List.getElem?_eq_some_iff.mp hi2
     have:=gt (r+i2) (by simpa using hl2) (by omega)
     simp at e2
     omega
def zgy (t:SetTable) (j:Nat):Prop:=t.place[SetTable.below t.place j]?≠some j
theorem znN {t:SetTable} {j:Nat} (h:t.slot j=.empty):zgy t j:=λ z=>by
 unfold SetTable.slot at h
 simp only [z,beq_self_eq_true,if_true] at h
 cases h
theorem znO {t:SetTable} {j:Nat} (h:t.slot j=.dummy):zgy t j:=λ z=>by
 unfold SetTable.slot at h
 simp only [z,beq_self_eq_true,if_true] at h
 cases h
theorem zjy {t:SetTable} {f:Nat->Int} {h:Int}:∀ (fuel:Nat) (p:SetTable.Probe) {j:Nat} {d:Option Nat},(∀ q,p.dummy=some q->zgy t q)->SetTable.probe.go t f h fuel p=some (.empty j d)->zgy t j/\∀ q,d=some q->zgy t q
 | 0,p,j,d,_,e=>by unfold SetTable.probe.go at e; cases e
 | fuel+1,p,j,d,hp,e=>by
  have adv:∀ p:SetTable.Probe,(t.advance p).dummy=p.dummy:=λ p=>by
    unfold SetTable.advance
    split <;> rfl
  unfold SetTable.probe.go at e
  split at e
  . rename_i hs
    cases e
    exact ⟨znN hs,hp⟩
  . rename_i hs
    refine zjy fuel _ (λ q hq=>?_) e
    rw [adv] at hq
    cases hq
    exact znO hs
  . split at e
    . cases e
    . exact zjy fuel _ (λ q hq=>by rw [adv] at hq; exact hp q hq) e
theorem zsj {t:SetTable} {h:Int} {j:Nat} {b:Bool} (e:t.freeSlot h=some (j,b)):zgy t j:=by
 unfold SetTable.freeSlot at e
 split at e
 . rename_i j' d hq
   obtain ⟨h1,h2⟩:=zjy _ _ (λ q hq=>by cases hq) hq
   cases e
   cases d with
   | none=>exact h1
   | some q=>exact h2 q rfl
 . cases e
def Ri (t:SetTable):Prop:=t.plain=true->Rise t.place
theorem zt7 {t:SetTable} (n:Nat) (h:Ri t):Ri (t.orStandIn n):=by
 unfold SetTable.orStandIn
 split
 . exact h
 . intro z; cases z
theorem ztq {t:SetTable} (es:Array (Int×Value)) (h:Int) (x:Value) (r:Ri t):Ri (layNew t es h x).2.1:=by
 unfold layNew
 split
 . rename_i slot wd e
   dsimp only
   refine zt7 _ λ z=>?_
   exact zlX (r z) (zsj e)
 . intro z; cases z
theorem zoT {t t':SetTable} {hs:Array Int} {n:Nat} {order:Array Nat} (e:t.relaid hs n=some (t',order)):Rise t'.place:=by
 unfold SetTable.relaid SetTable.laid at e
 cases hl:SetTable.layClean (SetTable.sizeAbove n - 1) hs with
 | none=>rw [hl] at e; cases e
 | some ow =>
  rw [hl] at e
  cases e
  show List.Pairwise _ _
  rw [List.toList_toArray,List.pairwise_map]
  refine List.Pairwise.filterMap (R:=(· < ·)) _ (λ a b hab x hx y hy=>?_) List.pairwise_lt_range
  obtain ⟨_,_,rfl⟩:=Option.map_eq_some_iff.mp hx
  obtain ⟨_,_,rfl⟩:=Option.map_eq_some_iff.mp hy
  exact hab
theorem zqo {t:SetTable} (es:Array (Int×Value)) (n:Nat):Ri (relayAll t es n).2.1:=by
 unfold relayAll
 split
 . rename_i t' order e
   dsimp only
   split
   . exact λ _=>zoT e
   . intro z; cases z
 . intro z; cases z
end S6
end
section
namespace S6
open PySem
section
variable {prog:Program} {w:World} {A:Around} {E:Value->Shared->Prop}
theorem zgu {α:Type}:∀ {l:List α} {k:Nat} (h:k < l.length),(l[k]::l.eraseIdx k).Perm l
 | a::r,0,h=>by simp
 | a::r,k+1,h=>by
  have:=zgu (l:=r) (k:=k) (by simpa using h)
  simp only [List.getElem_cons_succ,List.eraseIdx_cons_succ]
  exact (List.Perm.swap _ _ _).trans (this.cons a)
theorem zrt {src:Source} {n:Nat} {Q:Nat->Shared->Prop} {s:Shared} (hn:n≠0) (h:∀ k d,k < n->Q k { s with drawn:=d }):wpAny (model prog w) A (choose src n) Q E s:=λ Γ p _ =>
 ⟨hn,h _ _ (Nat.mod_lt _ (Nat.pos_of_ne_zero hn))⟩
theorem zmT {α:Type}:∀ (n:Nat) (xs:List α) (s:Shared) (Q:List α->Shared->Prop),xs.length=n->(∀ ys d,ys.Perm xs->Q ys { s with drawn:=d })->wpAny (model prog w) A (drawOrder n xs) Q E s
 | 0,xs,s,Q,hl,h=>by
  have:xs=[]:=List.length_eq_zero_iff.mp hl
  subst this
  exact wpAny_pure (h [] s.drawn .nil)
 | n+1,[],s,Q,hl,h=>by cases hl
 | n+1,x::r,s,Q,hl,h=>by
  unfold drawOrder
  refine wpAny_bind (zrt (by simp) λ k d hk=>?_)
  obtain ⟨y,hy⟩:∃ y,(x::r)[k]?=some y:=⟨_,List.getElem?_eq_getElem hk⟩
  rw [hy]
  dsimp only
  refine wpAny_bind (zmT n ((x::r).eraseIdx k) _ _ ?_ λ ys d' hp=>wpAny_pure ?_)
  . rw [List.length_eraseIdx,if_pos hk]; omega
  . refine h (y::ys) d' ?_
    obtain ⟨hk',rfl⟩:=List.getElem?_eq_some_iff.mp hy
    exact (hp.cons _).trans (zgu hk')
theorem ziX {α:Type} (next:Nat->Nat):∀ (n k:Nat) (l:List α) (out:Array α),l.length=n->(pickOrder.go next n k l out).toList.Perm (out.toList++l)
 | 0,k,l,out,hl=>by
  have:l=[]:=List.length_eq_zero_iff.mp hl
  subst this
  unfold pickOrder.go; simp
 | n+1,k,l,out,hl=>by
  unfold pickOrder.go
  have hk:next k % l.length < l.length:=Nat.mod_lt _ (by omega)
  rw [List.getElem?_eq_getElem hk]
  dsimp only
  refine (ziX next n (k+1) _ _ (by rw [List.length_eraseIdx,if_pos hk]; omega)).trans ?_
  rw [Array.toList_push,List.append_assoc]
  exact List.Perm.append_left _ (zgu hk)
theorem zqt {α:Type} (next:Nat->Nat) (xs:Array α):(pickOrder next xs).toList.Perm xs.toList:=by
 unfold pickOrder
 have:=ziX next xs.size 0 xs.toList #[] (by simp)
 simpa using this
theorem zhD {α β:Type} {F:α->β->Prop} {l l':List α} (p:l'.Perm l):∀ {m:List β},Paired F l m->∃ m',m'.Perm m/\Paired F l' m':=by
 induction p with
 | nil=>intro m h; exact ⟨m,.refl _,h⟩
 | cons x _ ih =>
  intro m h
  cases h with
  | cons r t =>
   obtain ⟨m',p',h'⟩:=ih t
   exact ⟨_::m',p'.cons _,.cons r h'⟩
 | swap x y l =>
  intro m h
  cases h with
  | cons r t=>cases t with
   | cons r' t'=>exact ⟨_,.swap _ _ _,.cons r' (.cons r t')⟩
 | trans _ _ ih1 ih2 =>
  intro m h
  obtain ⟨m1,p1,h1⟩:=ih2 h
  obtain ⟨m2,p2,h2⟩:=ih1 h1
  exact ⟨m2,p2.trans p1,h2⟩
theorem zb8 {α β:Type} {F:α->β->Prop}:∀ {l:List α} {m:List β} {a:α} {b:β},Paired F l m->F a b->Paired F (l++[a]) (m++[b])
 | _,_,_,_,.nil,h=>.cons h .nil
 | _,_,_,_,.cons r t,h=>.cons r (zb8 t h)
theorem zjF {α β:Type} {F:α->β->Prop}:∀ {l:List α} {m:List β} {i:Nat} {a:α},Paired F l m->l[i]?=some a->∃ b,m[i]?=some b/\F a b
 | _,_,_,_,.nil,h=>by simp at h
 | _,_,0,_,.cons r _,h=>by simp at h; subst h; exact ⟨_,rfl,r⟩
 | _,_,i+1,_,.cons _ t,h=>by
  obtain ⟨b,h1,h2⟩:=zjF (i:=i) t (by simpa using h)
  exact ⟨b,by simpa using h1,h2⟩
theorem zm6 {α β:Type} {F:α->β->Prop} {l:List α} {m:List β} (h:Paired F l m) {a:α} (ha:a∈l):∃ b∈m,F a b:=by
 obtain ⟨i,hi⟩:=List.mem_iff_getElem?.mp ha
 obtain ⟨b,h1,h2⟩:=zjF h hi
 exact ⟨b,List.mem_of_getElem? h1,h2⟩
theorem zkK {α β:Type} {F:α->β->Prop}:∀ {l:List α} {m:List β},Paired F l m->∀ {b:β},b∈m->∃ a∈l,F a b
 | _,_,.nil,_,hb=>by cases hb
 | _,_,.cons r t,b,hb=>by
  rcases List.mem_cons.mp hb with z | z
  . subst z; exact ⟨_,List.mem_cons_self,r⟩
  . obtain ⟨a,h1,h2⟩:=zkK t z
    exact ⟨a,List.mem_cons_of_mem _ h1,h2⟩
theorem zti (t:SetTable) (n:Nat):(t.orStandIn n).led=t.led:=by unfold SetTable.orStandIn; split <;> rfl
theorem zsb (t:SetTable) (es:Array (Int×Value)) (h:Int) (x:Value):(layNew t es h x).2.1.led=t.led:=by
 unfold layNew; split
 . dsimp only; rw [zti]; rfl
 . rfl
theorem znT {t t':SetTable} {hs:Array Int} {n:Nat} {order:Array Nat} (e:t.relaid hs n=some (t',order)):t'.led=t.led/\t'.plain=t.plain:=by
 unfold SetTable.relaid SetTable.laid at e
 cases hl:SetTable.layClean (SetTable.sizeAbove n - 1) hs with
 | none=>rw [hl] at e; cases e
 | some ow=>rw [hl] at e; cases e; exact ⟨rfl,rfl⟩
theorem zoS (t:SetTable) (es:Array (Int×Value)) (n:Nat):(relayAll t es n).2.1.led=t.led/\(t.plain=false->(relayAll t es n).2.1.plain=false):=by
 unfold relayAll
 split
 . rename_i t' order e
   obtain ⟨h1,h2⟩:=znT e
   dsimp only
   split
   . exact ⟨h1,λ h=>h2.trans h⟩
   . exact ⟨rfl,λ _=>rfl⟩
 . exact ⟨rfl,λ _=>rfl⟩
variable {K:Type} [DecidableEq K]
abbrev El (knd:KeyKind prog w K) (e:Int×Value) (k:K):Prop:=(knd.is k e.2=true/\e.1=knd.hash k)/\e.2.scannable=true
structure SetT (w:World) (t:SetTable) (n:Nat):Prop where
 fits:t.fits n=true
 led:w.params.followText "set-order" = false->t.led=true
 rise:Ri t
def SetG (knd:KeyKind prog w K) (h:Heap) (a:Addr) (ks:List K):Prop :=
 ∃ o es ep t,h.get? a=some o/\o.ExactSet/\o.data=.set es ep t/\Paired (El knd) es.toList ks/\ks.Nodup/\ks.length < scanBound/\SetT w t es.size
def SetP (knd:KeyKind prog w K) (h:Heap) (a:Addr) (ks:List K):Prop:=∃ ks',ks'.Perm ks/\SetG knd h a ks'
variable {knd:KeyKind prog w K} {s:Shared}
theorem SetG.at {h h':Heap} {a:Addr} {ks:List K} (x:SetG knd h a ks) (e:∀ o,h.get? a=some o->h'.get? a=some o):SetG knd h' a ks :=
 let ⟨o,es,ep,t,ho,r⟩:=x; ⟨o,es,ep,t,e _ ho,r⟩
theorem SetP.at {h h':Heap} {a:Addr} {ks:List K} (x:SetP knd h a ks) (e:∀ o,h.get? a=some o->h'.get? a=some o):SetP knd h' a ks :=
 let ⟨ks',p,g⟩:=x; ⟨ks',p,g.at e⟩
theorem zqW {l:List (Int×Value)} {ks:List K} (h:Paired (El knd) l ks):ElemsOf knd l:=λ e he=>by
 obtain ⟨k,_,⟨h1,h2⟩,h3⟩:=zm6 h he
 exact ⟨⟨k,h1,h2⟩,h3⟩
theorem ziU {h:Heap} {a:Addr} {o:Obj} {es:Array (Int×Value)} {ep:Nat} {t:SetTable} (ho:h.get? a=some o) (hx:o.ExactSet) (hd:o.data=.set es ep t)
  {es':Array (Int×Value)} {t':SetTable} {ks:List K} (he:Paired (El knd) es'.toList ks) (hn:ks.Nodup) (hb:ks.length < scanBound) (ht:SetT w t' es'.size) :
  ∃ o',(h.update a (Obj.putSet es' t')).get? a=some o'/\o'.ExactSet/\o'.data=.set es' (ep+1) t'/\SetG knd (h.update a (Obj.putSet es' t')) a ks:=by
 have g:=Heap.get?_update_self (Obj.putSet es' t') ho (by rw [putSet_of es' t' hd]; rfl)
 rw [putSet_of es' t' hd] at g
 exact ⟨_,g,hx,rfl,_,es',ep+1,t',g,hx,rfl,he,hn,hb,ht⟩
theorem zoK {a:Addr} {ks:List K} {k:K} {x:Value} {Q:Bool->Shared->Prop} (hkey:knd.is k x=true) (hsc:x.scannable=true) (hS:SetP knd s.heap a ks) (hroom:ks.length+1 < scanBound)
  (h:∀ b h',Heap.SameBut a s.heap h'->SetP knd h' a (if k∈ks then ks else ks++[k])->Q b { s with heap:=h' }) :
  wpAny (model prog w) A (setAddHashed a x (knd.hash k)) Q E s:=by
 obtain ⟨ks',pk,o,es,ep,t,ho,hx,hd,hel,hnd,hb,hT⟩:=hS
 have hl:es.size=ks'.length:=by rw [<-Array.length_toList]; exact hel.length
 have hpl:ks'.length=ks.length:=pk.length_eq
 have E0:=zqW hel
 have hes:es.size < scanBound:=by omega
 unfold setAddHashed setAddHashedIn
 refine wpAny_holding (wpAny_bind (wpAny_setState_of ho hd hT.fits ?_))
 dsimp only
 rw [byScan_of hsc hes E0]
 simp only [↓reduceIte]
 unfold setAddByScan
 refine wpAny_bind (wpAny_bind (wpAny_rule (wpAny_bind (wpAny_setScan_of hkey ho hd hT.fits E0 ?_))))
 have memk:∀ q,(q∈ks↔∃ e∈es.toList,knd.is q e.2=true):=λ q=>by
  rw [<-pk.mem_iff]
  refine ⟨λ hq=>?_,λ ⟨e,he,hq⟩=>?_⟩
  . obtain ⟨e,he,z⟩:=zkK hel hq
    exact ⟨e,he,z.1.1⟩
  . obtain ⟨q',hq',z⟩:=zm6 hel he
    rw [knd.inj _ q q' hq z.1.1]; exact hq'
 cases hr:List.findIdx? (λ e=>knd.is k e.2) es.toList with
 | some j =>
  dsimp only
  obtain ⟨hj,hpj,_⟩:=List.findIdx?_eq_some_iff_getElem.mp hr
  have hk:k∈ks:=(memk k).mpr ⟨es.toList[j],List.getElem_mem hj,hpj⟩
  have q:=h false s.heap (Heap.SameBut.refl a s.heap)
  rw [if_pos hk] at q
  exact wpAny_pure (wpAny_pure (q ⟨ks',pk,o,es,ep,t,ho,hx,hd,hel,hnd,hb,hT⟩))
 | none =>
  dsimp only
  have hk:k∉ks:=λ z=>by
    obtain ⟨e,he,hq⟩:=(memk k).mp z
    have:=List.findIdx?_eq_none_iff.mp hr e he
    rw [hq] at this; cases this
  have gave:∀ (b:Bool) {s₁:Shared} {Q':Unit->Shared->Prop},Q' () s₁->wpAny (model prog w) A (match b with | true=>rule "set.scan.the-table-gave-way" | false=>pure ()) Q' E s₁ :=
    λ b s₁ Q' hq=>by cases b <;> first | exact wpAny_pure hq | exact wpAny_rule hq
  have lp:=layNew_perm t es (knd.hash k) x
  have lf:=layNew_fits t es (knd.hash k) x
  have ll:=zsb t es (knd.hash k) x
  have lpl:=ztq es (knd.hash k) x hT.rise
  generalize layNew t es (knd.hash k) x=L at lp lf ll lpl ⊢
  obtain ⟨es1,t1,wasDummy,gv⟩:=L
  dsimp only at lp lf ll lpl ⊢
  rw [Array.toList_push] at lp
  obtain ⟨k1,pk1,hel1⟩:=zhD lp (zb8 hel (show El knd (knd.hash k,x) k from ⟨⟨hkey,rfl⟩,hsc⟩))
  have hk':k∉ks':=λ z=>hk (pk.mem_iff.mp z)
  have nd1:k1.Nodup:=pk1.nodup_iff.mpr (List.nodup_append.mpr ⟨hnd,by simp,λ u hu v hv=>by rw [List.mem_singleton.mp hv]; intro z; rw [z] at hu; exact hk' hu⟩)
  have ln1:k1.length=ks'.length+1:=by rw [pk1.length_eq]; simp
  have pk2:k1.Perm (ks++[k]):=pk1.trans (pk.append_right _)
  have hz1:es1.size=k1.length:=by rw [<-Array.length_toList]; exact hel1.length
  refine wpAny_bind (gave _ ?_)
  have tail:∀ t2:SetTable,t2.fits es1.size=true->t2.led=t1.led->Ri t2 ->
      wpAny (model prog w) A (do
       storeSet a es1 t2
       if (!wasDummy && t2.tooFull)=true then do
         (match (relayAll t2 es1 (SetTable.grown es1.size)).2.2 with | true=>rule "set.scan.the-table-gave-way" | false=>pure ())
         storeSet a (relayAll t2 es1 (SetTable.grown es1.size)).1 (relayAll t2 es1 (SetTable.grown es1.size)).2.1
         pure (some true)
        else pure (some true)) (λ r s'=>∃ b h',r=some b/\s'={ s with heap:=h' }/\Heap.SameBut a s.heap h'/\SetP knd h' a (ks++[k])) E s:=λ t2 f2 l2 p2=>by
    have hT2:SetT w t2 es1.size:=⟨f2,λ q=>by rw [l2,ll]; exact hT.led q,p2⟩
    refine wpAny_bind (wpAny_storeSet_of ho hd ?_ (by rw [hz1]; exact fits_of_scanBound (by omega)))
    obtain ⟨o1,ho1,hx1,hd1,G1⟩:=ziU (knd:=knd) ho hx hd hel1 nd1 (by omega) hT2
    have sb1:=Heap.SameBut.update s.heap a (Obj.putSet es1 t2)
    split
    . have rp:=relayAll_perm t2 es1 (SetTable.grown es1.size)
      have rf:=relayAll_fits t2 es1 (SetTable.grown es1.size)
      obtain ⟨rl,_⟩:=zoS t2 es1 (SetTable.grown es1.size)
      have rpl:=zqo (t:=t2) es1 (SetTable.grown es1.size)
      generalize relayAll t2 es1 (SetTable.grown es1.size)=R at rp rf rl rpl ⊢
      obtain ⟨es2,t3,g2⟩:=R
      dsimp only at rp rf rl rpl ⊢
      obtain ⟨k3,pk3,hel3⟩:=zhD rp hel1
      have hz3:es2.size=k3.length:=by rw [<-Array.length_toList]; exact hel3.length
      refine wpAny_bind (gave _ ?_)
      refine wpAny_bind (wpAny_storeSet_of ho1 hd1 ?_ (by rw [hz3,pk3.length_eq]; exact fits_of_scanBound (by omega)))
      obtain ⟨o3,ho3,hx3,hd3,G3⟩:=ziU (knd:=knd) ho1 hx1 hd1 hel3 (pk3.nodup_iff.mpr nd1) (by rw [pk3.length_eq]; omega) ⟨rf,λ q=>by rw [rl]; exact hT2.led q,rpl⟩
      exact wpAny_pure ⟨true,_,rfl,rfl,sb1.trans (Heap.SameBut.update _ a _),k3,pk3.trans pk2,G3⟩
    . exact wpAny_pure ⟨true,_,rfl,rfl,sb1,k1,pk2,G1⟩
  cases hp:t1.plain with
  | true =>
    simp only [↓reduceIte]
    rw [hashByValue_scannable 8 hsc]
    refine wpAny_bind (wpAny_pure ?_)
    cases hv:plainKind x with
    | true =>
      simp only [↓reduceIte]
      refine wpAny_mono (tail t1 lf rfl lpl) (λ r s' hq=>?_) λ _ _ z=>z
      obtain ⟨b,h',rfl,rfl,sb,G⟩:=hq
      have q:=h b h' sb
      rw [if_neg hk] at q
      exact wpAny_pure (q G)
    | false =>
      simp only [Bool.false_eq_true,↓reduceIte]
      refine wpAny_mono (tail { t1 with plain:=false } (SetTable.fits_plain_off lf) rfl (λ z=>by cases z)) (λ r s' hq=>?_) λ _ _ z=>z
      obtain ⟨b,h',rfl,rfl,sb,G⟩:=hq
      have q:=h b h' sb
      rw [if_neg hk] at q
      exact wpAny_pure (q G)
  | false =>
    simp only [Bool.false_eq_true,↓reduceIte]
    refine wpAny_bind (wpAny_pure ?_)
    simp only [↓reduceIte]
    refine wpAny_mono (tail t1 lf rfl lpl) (λ r s' hq=>?_) λ _ _ z=>z
    obtain ⟨b,h',rfl,rfl,sb,G⟩:=hq
    have q:=h b h' sb
    rw [if_neg hk] at q
    exact wpAny_pure (q G)
end
end S6
end
section
namespace S6
open PySem PyProof.Rows
abbrev set0 (w:World):Obj:={ cls:=.type "set",dict:=none,data:=.set #[] 0 (.fresh 0 0 (!w.params.followText "set-order")) }
section
variable {prog:Program} {w:World} {A:Around} {E:Value->Shared->Prop} {s:Shared}
theorem zr7 (a:Value) {Q₁:Value->Shared->Prop} (h:Q₁ (.ref s.heap.objs.size) { s with heap:=s.heap.push (set0 w) }) :
  codeAny (model prog w) A (.call (.builtin "set.__new__") ⟨[.type "set",a],[]⟩) (wants Q₁ E) s:=by
 refine codeAny_of_tree ?_
 show wpAny _ A.in1 (do
  checkBuiltinCall "set.__new__" ⟨[.type "set",a],[]⟩
  again (.builtin "set.__new__" ⟨[.type "set",a],[]⟩)) _ _ s
 refine wpAny_bind (wpAny_of_eq (F.newCall_set_1 a) (wpAny_pure ⟨plainId_quiet F.plain_set_new _,codeAny_builtin F.entry_set_new ?_⟩))
 rw [Around.under_plainId F.plain_set_new _]
 unfold Builtin.«set.__new__» Builtin.Frozenset.newClass
 have hsub:=sub_set_self
 obtain ⟨hp,g,d,tk,os⟩:=s
 dsimp only
 wp_walk
 refine wpAny_askSetting (wpAny_pure ?_)
 dsimp only
 simp only [newObj]
 exact wpAny_bind (wpAny_alloc (wpAny_pure (wpAny_pure h)))
variable {K:Type} [DecidableEq K] {knd:KeyKind prog w K}
theorem zoM {h:Heap} {a:Addr} (e:h.get? a=some (set0 w)):SetP knd h a [] :=
 ⟨[],.refl _,_,#[],0,_,e,⟨rfl,rfl,rfl⟩,rfl,.nil,List.nodup_nil,(by show (0:Nat) < scanBound; decide),⟨rfl,λ q=>by show (!_)=true; rw [q]; rfl,λ _=>List.Pairwise.nil⟩⟩
theorem zs4 {l:Addr} {R:Heap->Prop} {Q:Value->Shared->Prop} (hl:∃ o,s.heap.get? l=some o)
  (hup:wpAny (model prog w) A.in1.in1 (Builtin.Frozenset.updateFrom "set.__init__" s.heap.objs.size (.ref l)) (λ _ s'=>∃ h' tk,s'={ s with heap:=h',toks:=tk }/\R h') E { s with heap:=s.heap.push (set0 w) })
  (h:∀ h' tk,R h'->Q (.ref s.heap.objs.size) { s with heap:=h',toks:=tk }) :
  wpAny (model prog w) A (call (.type "set") [.ref l]) Q E s:=by
 obtain ⟨c,tl,hmro⟩:=F.called_set.mro
 have hmade:=F.called_set.made
 have hsub:=F.called_set.sub
 refine wpAny_call (codeAny_of_tree ?_)
 show wpAny _ _ (callAny (.type "set") _) _ _ _
 refine wpAny_pure ⟨Code.quiet_builtin _ (by decide +kernel),codeAny_builtin F.entry_type_call ?_⟩
 rw [Around.under_plain (weight_type_call_type "set" [.ref l] []) rfl]
 have h1:=F.called_set.notType
 have h2:=F.called_set.canCreate
 have hct:=F.typeCall_set_1 (.ref l)
 repeat (any_goals (first | assumption | wp_step))
 refine codeAny_mono (zr7 (.ref l) (E:=E) (Q₁:=λ obj s₁=>obj=.ref s.heap.objs.size/\s₁={ s with heap:=s.heap.push (set0 w) }) ⟨rfl,rfl⟩) λ r s₁ hr=>?_
 cases r with
 | error e=>exact hr
 | ok fl =>
  cases fl with
  | ret obj =>
   obtain ⟨rfl,rfl⟩:=hr
   have hS:(s.heap.push (set0 w)).get? s.heap.objs.size=some (set0 w):=Heap.get?_push_size _ rfl
   have hT:Shared.TypeIs { s with heap:=s.heap.push (set0 w) } (.ref s.heap.objs.size) "set" := ⟨_,hS,rfl⟩
   have hli:=F.called_set.init.lookup
   have hbi:=F.called_set.init.bind (.ref s.heap.objs.size)
   repeat (any_goals (first | assumption | wp_step))
   refine codeAny_mono (codeAny_call_builtin (R:=wants (λ r s₂=>r=.none/\∃ h' tk,s₂={ s with heap:=h',toks:=tk }/\R h') E) F.called_set.init.plain F.entry_set_init (check_set_init_1 hT ?_)) λ r₂ s₂ hr₂=>?_
   · unfold Builtin.«set.__init__» noKeywords
     generalize hU:Builtin.Frozenset.updateFrom=U at hup ⊢
     wp_walk
     refine wpAny_mono hup (λ _ s' hq=>?_) λ _ _ z=>z
     obtain ⟨h',tk,rfl,hr⟩:=hq
     exact wpAny_pure ⟨rfl,h',tk,rfl,hr⟩
   . cases r₂ with
     | error e=>exact hr₂
     | ok fl₂ =>
      cases fl₂ with
      | ret r =>
       obtain ⟨rfl,h',tk,rfl,hS'⟩:=hr₂
       repeat (any_goals (first | assumption | wp_step))
       exact h _ _ hS'
      | _=>exact hr₂.elim
  | _=>exact hr.elim
def ded (acc:List K) (k:K):List K:=if k∈acc then acc else acc++[k]
def deds (ks:List K):List K:=ks.foldl ded []
theorem zlp (ks:List K) (k:K):deds (ks++[k])=ded (deds ks) k:=by unfold deds; rw [List.foldl_append]; rfl
theorem zsn (a:List K) (k:K):(ded a k).length<=a.length+1:=by
 unfold ded; split
 . omega
 . simp
theorem zsa {a:List K} {k x:K}:x∈ded a k↔x∈a\/x=k:=by
 unfold ded; split
 . rename_i h; exact ⟨.inl,λ z=>z.elim id λ e=>e ▸ h⟩
 . simp
theorem znn {x:K}:∀ {ks a:List K},x∈ks.foldl ded a↔x∈a\/x∈ks
 | [],a=>by simp
 | k::r,a=>by rw [List.foldl_cons,znn (ks:=r),zsa,List.mem_cons,or_assoc]
theorem zjU {ks:List K} {x:K}:x∈deds ks↔x∈ks:=by unfold deds; rw [znn]; simp
theorem ztF {a:List K} {k:K} (h:a.Nodup):(ded a k).Nodup:=by
 unfold ded; split
 . exact h
 . rename_i hk
   exact List.nodup_append.mpr ⟨h,by simp,λ u hu v hv=>by rw [List.mem_singleton.mp hv]; intro z; rw [z] at hu; exact hk hu⟩
theorem zpI:∀ {ks a:List K},a.Nodup->(ks.foldl ded a).Nodup
 | [],a,h=>h
 | k::r,a,h=>zpI (ks:=r) (ztF h)
theorem zpR (ks:List K):(deds ks).Nodup:=zpI List.nodup_nil
theorem zno:∀ {ks a:List K},(ks.foldl ded a).length<=a.length+ks.length
 | [],a=>by simp
 | k::r,a=>by
  have:=zno (ks:=r) (a:=ded a k)
  have:=zsn a k
  simp only [List.foldl_cons,List.length_cons]; omega
theorem znr (ks:List K):(deds ks).length<=ks.length:=by have:=zno (ks:=ks) (a:=([]:List K)); unfold deds; simpa using this
variable {R:Result->Shared->Prop} {I:Addr} {fp wr:List Addr} {G:Array GenState->Array GenState->Prop} {P:Nat->Value->Prop} {St:Nat->Shared->Prop}
theorem zql {ks:List K} (W:WalksS prog w A.in1 I fp wr G ks.length P St) (S:Addr) (hSf:S∉fp) (hP:∀ i v,P i v->∃ k,ks[i]?=some k/\knd.is k v=true/\v.scannable=true) (hb:ks.length+1 < scanBound) :
  ∀ (m i:Nat) (s:Shared),ks.length - i=m->i<=ks.length->St i s->SetP knd s.heap S (deds (ks.take i)) ->
    (∀ s',Moved (S::wr) G s s'->SetP knd s'.heap S (deds ks)->R (.ok (.ret .none)) s') ->
    codeAny (model prog w) A (.builtin "set.update.loop" ⟨[.ref S,.ref I],[]⟩) R s:=by
 have nw:S∉wr:=λ z=>hSf (W.sub _ z)
 have up:∀ b∈wr,b∈S::wr:=λ b z=>List.mem_cons_of_mem _ z
 intro m
 induction m with
 | zero =>
  intro i s hm hi st hS hR
  have ei:i=ks.length:=by omega
  subst ei
  refine codeAny_builtin F.entry_set_update_loop ?_
  rw [Around.under_plainId F.plain_set_update_loop _]
  refine wpAny_bind (m:=pyNext (.ref I)) (W.done s _ _ st λ s' mv=>wpAny_pure (hR s' (mv.mono up) ?_))
  rw [List.take_length] at hS
  exact hS.at λ o e=>mv.heap S o nw e
 | succ m ih =>
  intro i s hm hi st hS hR
  have hlt:i < ks.length:=by omega
  refine codeAny_builtin F.entry_set_update_loop ?_
  rw [Around.under_plainId F.plain_set_update_loop _]
  refine wpAny_bind (m:=pyNext (.ref I)) (W.item i s _ _ hlt st λ v s' pv st' mv=>?_)
  obtain ⟨k,hk,his,hsc⟩:=hP i v pv
  have hS1:SetP knd s'.heap S (deds (ks.take i)):=hS.at λ o e=>mv.heap S o nw e
  refine wpAny_bind (m:=holding [v] (setAdd S v)) (wpAny_holding ?_)
  unfold setAdd
  refine wpAny_holding (wpAny_bind (knd.pyHash his ?_))
  have hlen:(deds (ks.take i)).length<=i:=Nat.le_trans (znr _) (by rw [List.length_take]; omega)
  refine zoK (s:={ s' with toks:=s'.toks+1 }) his hsc hS1 (by omega) λ b h' sb hS2=>?_
  have e:ks.take (i+1)=ks.take i++[k]:=by rw [List.take_add_one,hk]; rfl
  have hS3:SetP knd h' S (deds (ks.take (i+1))):=by rw [e,zlp]; exact hS2
  refine wpAny_pure ⟨plainId_quiet F.plain_set_update_loop _,ih (i+1) _ (by omega) hlt (W.frame _ s' _ _ st' (Nat.le_succ _) λ b hb o eo=>?_) hS3 λ s'' mv'' hS''=>?_⟩
  . rw [sb.2 b λ z=>hSf (z ▸ hb)]; exact eo
  . refine hR s'' (Moved.trans W.gtrans ((mv.mono up).then_heap (Nat.le_succ _) λ b o hb eo=>?_) mv'') hS''
    rw [sb.2 b λ z=>hb (z ▸ List.mem_cons_self)]; exact eo
end
end S6
end
section
namespace S6
open PySem PyProof.Rows
theorem sub_dict_set:isSubtype (.type "dict") (.type "set")=pure false:=by rw [isSubtype_type]; kernel_rfl
theorem zjl:isSubtype (.type "dict") (.type "frozenset")=pure false:=by rw [isSubtype_type]; kernel_rfl
section
variable {prog:Program} {w:World} {A:Around} {E:Value->Shared->Prop} {s:Shared} {K:Type} [DecidableEq K] {knd:KeyKind prog w K}
abbrev KVal (knd:KeyKind prog w K) (k:K) (v:Value):Prop:=knd.is k v=true/\v.scannable=true
theorem zrm {T:String} {v:Value} {Q:Bool->Shared->Prop} (hT:s.TypeIs v T) (h1:isSubtype (.type T) (.type "set")=pure false) (h2:isSubtype (.type T) (.type "frozenset")=pure false) (h:Q false s) :
  wpAny (model prog w) A (Builtin.Frozenset.isAnySet v) Q E s:=by
 unfold Builtin.Frozenset.isAnySet
 refine wpAny_bind (wpAny_isInstance hT h1 ?_)
 exact wpAny_isInstance hT h2 h
theorem zpJ {S l:Addr} {items:Array Value} {ks:List K} (hh:A.handled=none) (hl:s.heap.IsList l items) (hS:SetP knd s.heap S []) (hne:S≠l) (hlen:items.size=ks.length) (hb:ks.length+1 < scanBound)
   (hv:∀ (i:Nat) v,items[i]?=some v->∃ k,ks[i]?=some k/\KVal knd k v) :
   wpAny (model prog w) A (Builtin.Frozenset.updateFrom "set.__init__" S (.ref l)) (λ _ s'=>∃ h' tk,s'={ s with heap:=h',toks:=tk }/\SetP knd h' S (deds ks)/\∀ b o,b≠S->s.heap.get? b=some o->h'.get? b=some o) E s:=by
 unfold Builtin.Frozenset.updateFrom
 refine wpAny_bind (zrm hl.typeIs F.sub_list_set F.sub_list_frozenset ?_)
 simp only [Bool.false_eq_true,if_false]
 refine wpAny_bind (wpAny_typeOf hl.typeIs ?_)
 rw [if_neg (by decide)]
 refine wpAny_bind (wpAny_pyIter_list hl ?_)
 refine wpAny_bind (wpAny_runValue ?_)
 obtain ⟨ol,hol,_⟩:=id hl
 have hSl:S < s.heap.objs.size:=by obtain ⟨_,_,o,_,_,_,e,_⟩:=hS; exact Heap.lt_size e
 have hSf:S∉[s.heap.objs.size,l]:=by
   intro z
   rcases List.mem_cons.mp z with z | z
   . exact absurd hSl (by rw [z]; exact Nat.lt_irrefl _)
   . exact hne (List.mem_singleton.mp z)
 have W:=(Walks.list (prog:=prog) (w:=w) (A:=A.in1) hh s.heap.objs.size l (Nat.ne_of_lt (Heap.lt_size hol)) items).toS
 rw [hlen] at W
 refine zql W S hSf hv hb ks.length 0 _ (by omega) (Nat.zero_le _) ⟨⟨_,Heap.get?_push_size _ rfl,rfl,rfl⟩,hl.push _⟩ (hS.at λ o e=>Heap.get?_push_of_some _ e) λ s' mv hS'=>?_
 obtain ⟨h',g',d',tk',os'⟩:=s'
 have eg:g'=s.gens:=mv.gens
 have ed:d'=s.drawn:=mv.drawn
 have eo:os'=s.os:=mv.os
 subst eg ed eo
 refine wpAny_pure ⟨h',tk',rfl,hS',λ b o hb e=>mv.heap b o (λ z=>?_) (Heap.get?_push_of_some _ e)⟩
 rcases List.mem_cons.mp z with z | z
 . exact hb z
 . have:=List.mem_singleton.mp z
   exact absurd (Heap.lt_size e) (by rw [this]; exact Nat.lt_irrefl _)
theorem zpK {S d:Addr} {kvs:List (K×Value)} (lo:(d == sysModules)=false) (hd:s.heap.DictOf knd d kvs) (hS0:s.heap.get? S=some (set0 w)) (h4:kvs.length<=4)
   (hv:∀ p∈kvs,∀ u,knd.is p.1 u=true->u.scannable=true) :
   wpAny (model prog w) A (Builtin.Frozenset.updateFrom "set.__init__" S (.ref d)) (λ _ s'=>∃ h' tk,s'={ s with heap:=h',toks:=tk }/\SetP knd h' S (deds (kvs.map (·.1)))/\∀ b o,b≠S->s.heap.get? b=some o->h'.get? b=some o) E s:=by
 have hT:=hd.typeIs (s:=s)
 obtain ⟨o,es,ep,ho,hx,hod,hk,hp,hn⟩:=hd
 have hne:d≠S:=λ z=>by
   rw [z,hS0] at ho; cases ho; cases hod
 have hz:es.size=kvs.length:=by rw [<-hp.length]; simp
 unfold Builtin.Frozenset.updateFrom
 refine wpAny_bind (zrm hT sub_dict_set zjl ?_)
 simp only [Bool.false_eq_true,if_false]
 refine wpAny_bind (wpAny_typeOf hT ?_)
 rw [if_pos (by decide)]
 refine wpAny_bind (wpAny_rule (wpAny_bind (m:=Builtin.Frozenset.addrOf (.ref d)) (wpAny_pure ?_)))
 rw [if_neg (by rw [lo]; exact Bool.false_ne_true)]
 refine wpAny_bind (wpAny_dictEpoch ho hod (wpAny_bind (wpAny_dictEntries ho hod (wpAny_bind ?_))))
 unfold setRoomFor
 refine wpAny_bind (wpAny_setState_of hS0 rfl rfl ?_)
 have hroom:(SetTable.fresh 0 0 (!w.params.followText "set-order")).roomFor es.size=none:=by
   unfold SetTable.roomFor
   rw [if_neg]
   show ¬ ((0+es.size) * 5 ≥ 7 * 3)
   omega
 dsimp only
 rw [hroom]
 refine wpAny_pure (wpAny_bind (wpAny_dictEntries ho hod (wpAny_bind ?_)))
 rw [Std.Legacy.Range.forIn_eq_forIn_range']
 simp only [Std.Legacy.Range.size,Nat.sub_zero,Nat.add_sub_cancel,Nat.div_one]
 have hlk:(kvs.map (·.1)).length=es.size:=by rw [List.length_map,hz]
 refine wpAny_forIn_list _ (λ rest _ s'=>∃ h' i,s'={ s with heap:=h' }/\rest=List.range' i (es.size - i)/\i<=es.size/\SetP knd h' S (deds ((kvs.map (·.1)).take i))/\Heap.SameBut S s.heap h') _ ?_ ?_ _ _
   ⟨s.heap,0,rfl,by simp,Nat.zero_le _,zoM hS0,Heap.SameBut.refl _ _⟩
 . rintro x rest b s' ⟨h',i,rfl,hr,hi,hS',sb⟩
   have hlt:i < es.size:=by
    rcases Nat.lt_or_ge i es.size with z | z
    . exact z
    . rw [Nat.sub_eq_zero_of_le z] at hr; cases hr
   obtain ⟨rfl,hrest⟩:x=i/\rest=List.range' (i+1) (es.size - (i+1)):=by
    rw [show es.size - i=(es.size - (i+1))+1 by omega,List.range'_succ] at hr
    injection hr with q1 q2
    exact ⟨q1,q2⟩
   have ho':h'.get? d=some o:=(sb.2 d hne).trans ho
   refine wpAny_bind (wpAny_dictEntries (s:={ s with heap:=h' }) ho' hod ?_)
   rw [Array.getElem?_eq_getElem hlt]
   obtain ⟨⟨k,v⟩,hkv⟩:∃ kv,kvs[x]?=some kv:=⟨kvs[x]'(by rw [<-hz]; exact hlt),List.getElem?_eq_getElem _⟩
   have his:=(hp.get? (e:=es[x]) (by simp [hlt]) hkv).1
   obtain ⟨k',his',hh'⟩:=hk es[x] (Array.getElem_mem hlt)
   obtain rfl:k'=k:=knd.inj _ _ _ his' his
   have hsc:=hv (k',v) (List.mem_of_getElem? hkv) _ his
   have hke:(kvs.map (·.1))[x]?=some k':=by rw [List.getElem?_map,hkv]; rfl
   have hlen:(deds ((kvs.map (·.1)).take x)).length<=x:=Nat.le_trans (znr _) (by rw [List.length_take]; omega)
   refine wpAny_bind (wpAny_holding ?_)
   rw [hh']
   refine zoK (s:={ s with heap:=h' }) his hsc hS' (by unfold scanBound; omega) λ b2 h2 sb2 hS2=>?_
   have ho2:h2.get? d=some o:=(sb2.2 d hne).trans ho'
   refine wpAny_bind (wpAny_dictEpoch (s:={ s with heap:=h2 }) ho2 hod ?_)
   rw [if_neg (by simp)]
   refine wpAny_pure ⟨h2,x+1,rfl,hrest,hlt,?_,sb.trans sb2⟩
   rw [List.take_add_one,hke]
   show SetP knd h2 S (deds ((kvs.map (·.1)).take x++[k']))
   rw [zlp]; exact hS2
 . rintro b s' ⟨h',i,rfl,hr,hi,hS',sb⟩
   have ei:i=es.size:=by
    rcases Nat.lt_or_ge i es.size with z | z
    . rw [show es.size - i=(es.size - (i+1))+1 by omega,List.range'_succ] at hr; cases hr
    . omega
   rw [ei,<-hlk,List.take_length] at hS'
   exact wpAny_pure ⟨h',s.toks,rfl,hS',λ b o hb e=>(sb.2 b hb).trans e⟩
end
end S6
end
section
namespace S6
open PySem PyProof.Rows
theorem zbZ:Slot "set_iterator" "__next__" "set_iterator.__next__" :=
 Slot.of (owner := "set_iterator") (n := "__next__")
  (by rw [typeLookup_type,builtinLookup_eq_fast]; kernel_rfl) (by decide +kernel)
  (by decide +kernel) (by decide +kernel)
  (by first | exact .inl (by decide +kernel) | exact .inr (by decide +kernel))
  (by rw [isSubtype_type]; kernel_rfl)
theorem zfR : entryFor table "set_iterator.__next__" = some Builtin.«set_iterator.__next__» :=
 entryFor_of_tree (by kernel_rfl)
theorem zgR (a:Value):argsOk "set_iterator.__next__" ⟨[a],[]⟩:=by
 unfold argsOk; kernel_rfl
theorem zll : entryFor table "set.__iter__" = some Builtin.«frozenset.__iter__» :=
 entryFor_alias (id' := "frozenset.__iter__") (by kernel_rfl) rfl
  (by decide +kernel) (by kernel_rfl)
def byT (w:World):Bool:=w.params.followText "set-order"
def itO (first:Value) (i:Nat) (a:Addr) (n ep:Nat):Obj:={ cls:=.type "set_iterator",data:=.fields #[first,.int i 0,.ref a,.int n 0,.int ep 0] }
def Mode (w:World) (es:Array (Int×Value)) (ep:Nat) (t:SetTable) (vs:List Value) (a it p:Addr) (i:Nat) (h:Heap) (first:Value):Prop :=
 (byT w=true/\(∃ sl:Nat,first=.int sl 0)/\vs=(pickOrder (w.params.setOrder a ep) es).toList.map (·.2)) \/
 (byT w=false/\first=.ref p/\p≠it/\∃ ps:List Nat,h.get? p=some { cls:=.type "tuple",data:=.seq (ps.map λ (n:Nat)=>Value.int n 0).toArray }/\vs=ps.filterMap (λ j=>(es[j]?).map (·.2))/\ps.Perm (List.range es.size)) \/
 (byT w=false/\t.led=true/\(t.plain=true\/es.size<=1)/\Rise t.place/\first=.int (slotAt t.place i:Nat) 0/\vs=es.toList.map (·.2))
def SIt (w:World) (es:Array (Int×Value)) (ep:Nat) (t:SetTable) (vs:List Value) (a it p:Addr) (i:Nat) (h:Heap):Prop :=
 (∃ o,h.get? a=some o/\o.ExactSet/\o.data=.set es ep t)/\∃ first,h.get? it=some (itO first i a es.size ep)/\Mode w es ep t vs a it p i h first
section
variable {prog:Program} {w:World} {A:Around} {E:Value->Shared->Prop} {s:Shared}
theorem zoq {a:Addr} {o:Obj} {es:Array (Int×Value)} {ep:Nat} {t:SetTable} {Q:Array (Int×Value)->Shared->Prop} (ho:s.heap.get? a=some o) (hd:o.data=.set es ep t) (hf:t.fits es.size=true) (hb:byT w=true)
  (h:Q (pickOrder (w.params.setOrder a ep) es) s):wpAny (model prog w) A (setWalk a) Q E s:=by
 unfold setWalk setsByText
 refine wpAny_bind (wpAny_setState_of ho hd hf ?_)
 dsimp only
 refine wpAny_bind (wpAny_bind (wpAny_askSetting (wpAny_pure ?_)))
 show wpAny _ _ (if byT w=true then _ else _) _ _ _
 rw [if_pos hb]
 exact wpAny_bind (wpAny_askSetting (wpAny_pure h))
theorem zkZ {a:Addr} {o:Obj} {es:Array (Int×Value)} {ep slot i:Nat} {t:SetTable} {Q:Option (Value×Nat)->Shared->Prop} (ho:s.heap.get? a=some o) (hd:o.data=.set es ep t) (hf:t.fits es.size=true) (hb:byT w=true)
  (h:Q (((pickOrder (w.params.setOrder a ep) es)[i]?).map λ e=>(e.2,slot)) s):wpAny (model prog w) A (setNext a slot i ep) Q E s:=by
 unfold setNext setsByText
 refine wpAny_bind (wpAny_setState_of ho hd hf ?_)
 dsimp only
 refine wpAny_bind (wpAny_bind (wpAny_askSetting (wpAny_pure ?_)))
 show wpAny _ _ (if byT w=true then _ else _) _ _ _
 rw [if_pos hb,if_neg (by simp)]
 exact wpAny_bind (zoq ho hd hf hb (wpAny_pure h))
theorem zi0 {a:Addr} {o:Obj} {es:Array (Int×Value)} {ep slot i:Nat} {t:SetTable} {Q:Option (Value×Nat)->Shared->Prop} (ho:s.heap.get? a=some o) (hd:o.data=.set es ep t) (hf:t.fits es.size=true) (hb:byT w=false) (hl:t.led=true) (hz:t.plain=true\/es.size<=1)
  (h:Q (match es[SetTable.below t.place slot]?,t.place[SetTable.below t.place slot]? with | some (_,x),some j=>some (x,j+1) | _,_=>none) s):wpAny (model prog w) A (setNext a slot i ep) Q E s:=by
 unfold setNext setsByText
 refine wpAny_bind (wpAny_setState_of ho hd hf ?_)
 dsimp only
 refine wpAny_bind (wpAny_bind (wpAny_askSetting (wpAny_pure ?_)))
 show wpAny _ _ (if byT w=true then _ else _) _ _ _
 rw [if_neg (by rw [hb]; exact Bool.false_ne_true)]
 show wpAny _ _ (if (!t.plain && decide (es.size > 1))=true then _ else _) _ _ _
 have hnd:¬ ((!t.plain && decide (es.size > 1))=true):=by
  rcases hz with z | z
  . simp [z]
  . simp; omega
 rw [if_neg hnd]
 refine wpAny_bind ?_
 show wpAny _ _ (if (!t.led && !es.isEmpty)=true then _ else _) _ _ _
 rw [if_neg (by simp [hl])]
 exact wpAny_pure (wpAny_pure h)
theorem zrP {es:Array (Int×Value)} {ep:Nat} {t:SetTable} {vs:List Value} {a it p:Addr} {i:Nat} {v:Value} {Q:Option Value->Shared->Prop} (hf:t.fits es.size=true) (st:SIt w es ep t vs a it p i s.heap) (hne:a≠it) (hv:vs[i]?=some v)
   (h:∀ h',SIt w es ep t vs a it p (i+1) h'->Heap.SameBut it s.heap h'->Q (some v) { s with heap:=h' }):wpAny (model prog w) A (pyNext (.ref it)) Q E s:=by
 obtain ⟨⟨o,ho,hx,hd⟩,first,hit,md⟩:=st
 have hT:s.TypeIs (.ref it) "set_iterator" := ⟨_,hit,rfl⟩
 unfold pyNext
 refine wpAny_bind (wpAny_attempt (wpAny_callSpecial?_slot (name:=Str.ofString "__next__") hT zbZ (wpAny_call_entry zbZ hT zfR ?_ (zgR _))))
 unfold Builtin.«set_iterator.__next__»
 refine wpAny_bind (m:=slotArgs "__next__" 0 _) (wpAny_pure ?_)
 refine wpAny_bind (wpAny_fieldsOf hit rfl ?_)
 dsimp only
 refine wpAny_bind (wpAny_setEntries_of ho hd hf ?_)
 rw [if_neg (by simp)]
 have upd1:∀ (h1:Heap) (f1:Value),h1.get? it=some (itO f1 i a es.size ep)->(h1.update it (Obj.mapFields (·.setIfInBounds 1 (rawInt ((i:Int)+1))))).get? it=some (itO f1 (i+1) a es.size ep):=λ h1 f1 e=>by
   rw [Heap.get?_update_self _ e rfl]; rfl
 have upd0:∀ (h1:Heap) (f1 f2:Value),h1.get? it=some (itO f1 i a es.size ep)->(h1.update it (Obj.mapFields (·.setIfInBounds 0 f2))).get? it=some (itO f2 i a es.size ep):=λ h1 f1 f2 e=>by
   rw [Heap.get?_update_self _ e rfl]; rfl
 have oth:∀ (h1:Heap) (f:Obj->Obj) (b:Addr),b≠it->(h1.update it f).get? b=h1.get? b:=λ h1 f b hb=>Heap.get?_update_other _ _ (Ne.symm hb)
 rcases md with ⟨hb,⟨sl,rfl⟩,hvs⟩ | ⟨hb,rfl,hpi,ps,hps,hvs,hperm⟩ | ⟨hb,hled,hz,hri,rfl,hvs⟩
 . dsimp only
   simp only [Int.toNat_natCast]
   refine wpAny_bind (zkZ ho hd hf hb ?_)
   have e1:(pickOrder (w.params.setOrder a ep) es)[i]?.map (·.2)=some v:=by
    rw [hvs,List.getElem?_map,Array.getElem?_toList] at hv; exact hv
   cases e2:(pickOrder (w.params.setOrder a ep) es)[i]? with
   | none=>rw [e2] at e1; cases e1
   | some q =>
    rw [e2] at e1
    have e3:q.2=v:=Option.some.inj e1
    show wpAny _ _ (setField (.ref it) 0 _ >>= _) _ _ _
    refine wpAny_bind (wpAny_setField hit rfl (by simp) ?_)
    refine wpAny_bind (wpAny_setField (upd0 _ _ _ hit) rfl (by simp) ?_)
    refine wpAny_pure ⟨_,rfl,wpAny_pure ?_⟩
    rw [e3]
    refine h _ ⟨⟨o,by rw [oth _ _ _ hne,oth _ _ _ hne]; exact ho,hx,hd⟩,_,upd1 _ _ (upd0 _ _ _ hit),.inl ⟨hb,⟨_,rfl⟩,hvs⟩⟩ ((Heap.SameBut.update ..).trans (Heap.SameBut.update ..))
 . dsimp only
   refine wpAny_bind (wpAny_seqItems hps rfl ?_)
   dsimp only
   have all:∀ j∈ps,j < es.size:=λ j hj=>List.mem_range.mp (hperm.mem_iff.mp hj)
   have fm:∀ l:List Nat,(∀ j∈l,j < es.size)->l.filterMap (λ j=>(es[j]?).map (·.2))=l.map λ j=>(es[j]?.map (·.2)).getD .none:=λ l=>by
    induction l with
    | nil=>intro _; rfl
    | cons j r ih =>
     intro hl
     have hj:=hl j List.mem_cons_self
     rw [List.filterMap_cons,List.map_cons,ih λ x hx=>hl x (List.mem_cons_of_mem _ hx),Array.getElem?_eq_getElem hj]
     rfl
   rw [hvs,fm ps all,List.getElem?_map] at hv
   cases e2:ps[i]? with
   | none=>rw [e2] at hv; cases hv
   | some j =>
    rw [e2] at hv
    have hj:=all j (List.mem_of_getElem? e2)
    have e3:((ps.map λ (n:Nat)=>Value.int n 0).toArray)[((i:Nat):Int).toNat]?=some (Value.int (j:Int) 0):=by
     rw [List.getElem?_toArray,List.getElem?_map]
     show Option.map _ ps[i]?=_
     rw [e2]; rfl
    rw [e3]
    dsimp only
    have hv':es[j].2=v:=by
     have:=Option.some.inj hv
     dsimp only at this
     rw [Array.getElem?_eq_getElem hj] at this; exact this
    unfold setNextDrawn
    refine wpAny_bind (wpAny_bind (wpAny_setState_of ho hd hf ?_))
    dsimp only
    rw [if_neg (by simp),show es[((j:Nat):Int).toNat]?=some es[j] from Array.getElem?_eq_getElem hj]
    refine wpAny_pure ?_
    refine wpAny_bind (wpAny_setField hit rfl (by simp) ?_)
    refine wpAny_pure ⟨_,rfl,wpAny_pure ?_⟩
    show Q (some es[j].2) _
    rw [hv']
    exact h _ ⟨⟨o,by rw [oth _ _ _ hne]; exact ho,hx,hd⟩,_,upd1 _ _ hit,.inr (.inl ⟨hb,rfl,hpi,ps,by rw [oth _ _ _ hpi]; exact hps,hvs,hperm⟩)⟩ (Heap.SameBut.update ..)
 . dsimp only
   have hi:i < es.size:=by
    have:=(List.getElem?_eq_some_iff.mp hv).1
    rw [hvs,List.length_map,Array.length_toList] at this
    exact this
   have hps:t.place.size=es.size:=by
    have:=hf
    simp only [SetTable.fits,Bool.and_eq_true,beq_iff_eq] at this
    exact this.1
   have hip:i < t.place.size:=by omega
   refine wpAny_bind (zi0 ho hd hf hb hled hz ?_)
   have hv':es[i].2=v:=by
    rw [hvs,List.getElem?_map,Array.getElem?_toList,Array.getElem?_eq_getElem hi] at hv
    exact Option.some.inj hv
   rw [Int.toNat_natCast,below_at hri (by omega),Array.getElem?_eq_getElem hi,Array.getElem?_eq_getElem hip]
   show wpAny _ _ (setField (.ref it) 0 (rawInt ((t.place[i]+1:Nat):Int)) >>= _) _ _ _
   refine wpAny_bind (wpAny_setField hit rfl (by simp) ?_)
   refine wpAny_bind (wpAny_setField (upd0 _ _ _ hit) rfl (by simp) ?_)
   refine wpAny_pure ⟨_,rfl,wpAny_pure ?_⟩
   show Q (some es[i].2) _
   rw [hv']
   refine h _ ⟨⟨o,by rw [oth _ _ _ hne,oth _ _ _ hne]; exact ho,hx,hd⟩,_,upd1 _ _ (upd0 _ _ _ hit),.inr (.inr ⟨hb,hled,hz,hri,?_,hvs⟩)⟩ ((Heap.SameBut.update ..).trans (Heap.SameBut.update ..))
   unfold slotAt
   rw [if_neg (Nat.succ_ne_zero _),Nat.add_sub_cancel]
   simp [Array.getD,hip,rawInt]
theorem zs3 {es:Array (Int×Value)} {ep:Nat} {t:SetTable} {vs:List Value} {a it p:Addr} {Q:Option Value->Shared->Prop} (hh:A.handled=none) (hf:t.fits es.size=true) (st:SIt w es ep t vs a it p vs.length s.heap) (hne:a≠it)
   (h:∀ h',Heap.ExtBut it s.heap h'->Q none { s with heap:=h' }):wpAny (model prog w) A (pyNext (.ref it)) Q E s:=by
 obtain ⟨⟨o,ho,hx,hd⟩,first,hit,md⟩:=st
 have hT:s.TypeIs (.ref it) "set_iterator" := ⟨_,hit,rfl⟩
 unfold pyNext
 refine wpAny_bind (wpAny_attempt (wpAny_callSpecial?_slot (name:=Str.ofString "__next__") hT zbZ (wpAny_call_entry zbZ hT zfR ?_ (zgR _))))
 unfold Builtin.«set_iterator.__next__»
 refine wpAny_bind (m:=slotArgs "__next__" 0 _) (wpAny_pure ?_)
 refine wpAny_bind (wpAny_fieldsOf hit rfl ?_)
 dsimp only
 refine wpAny_bind (wpAny_setEntries_of ho hd hf ?_)
 rw [if_neg (by simp)]
 have stop:∀ (h1:Heap) (f1:Value),Heap.ExtBut it s.heap h1->h1.get? it=some (itO f1 vs.length a es.size ep) ->
    wpAny (model prog w) A.in1 (do
     setField (.ref it) 2 Value.none
     let e <-newExc (.type "StopIteration") []
     raiseNew e:Sem Fin)
     (λ fin s'=>∃ v,fin=Fin.done (Flow.ret v)/\wpAny (model prog w) A (pure (some v)) Q E s')
     (λ e s'=>wpAny (model prog w) A (do
      let b <-isInstance e (Value.type "StopIteration")
      if b=true then pure none else throw e) Q E s') { s with heap:=h1 }:=λ h1 f1 x1 e1=>by
   refine wpAny_bind (wpAny_setField e1 rfl (by simp) (wpAny_bind ?_))
   simp only [newExc,newTuple]
   refine wpAny_bind (wpAny_newObj_type ?_ (by size_fits))
   refine wpAny_bind (m:=firstArgMember _ _) (wpAny_of_eq (a:=Value.none) (by first | rfl | (simp only [firstArgMember]; rfl)) ?_)
   refine wpAny_newObj_type ?_ (by size_fits)
   simp only [raiseNew]
   refine wpAny_bind (wpAny_handled ?_)
   rw [show A.in1.handled=none from hh]
   refine wpAny_bind (wpAny_pure (wpAny_throw ?_))
   refine wpAny_bind (wpAny_isInstance (T := "StopIteration") (b:=true) ⟨_,Heap.get?_push_size _ rfl,rfl⟩ isSubtype_stop ?_)
   refine wpAny_pure (h _ λ b ob hb q=>?_)
   exact Heap.get?_push_of_some _ (Heap.get?_push_of_some _ ((Heap.get?_update_other _ _ (Ne.symm hb)).trans (x1 b ob hb q)))
 have ext0:Heap.ExtBut it s.heap s.heap:=λ b ob _ q=>q
 rcases md with ⟨hb,⟨sl,rfl⟩,hvs⟩ | ⟨hb,rfl,hpi,ps,hps,hvs,hperm⟩ | ⟨hb,hled,hz,hri,rfl,hvs⟩
 . dsimp only
   simp only [Int.toNat_natCast]
   refine wpAny_bind (zkZ ho hd hf hb ?_)
   have e1:(pickOrder (w.params.setOrder a ep) es)[vs.length]?=none:=by
    rw [Array.getElem?_eq_none_iff,hvs,List.length_map,Array.length_toList]
    exact Nat.le_refl _
   rw [e1]
   exact stop _ _ ext0 hit
 . dsimp only
   refine wpAny_bind (wpAny_seqItems hps rfl ?_)
   dsimp only
   have all:∀ j∈ps,j < es.size:=λ j hj=>List.mem_range.mp (hperm.mem_iff.mp hj)
   have fm:∀ l:List Nat,(∀ j∈l,j < es.size)->(l.filterMap (λ j=>(es[j]?).map (·.2))).length=l.length:=λ l=>by
    induction l with
    | nil=>intro _; rfl
    | cons j r ih =>
     intro hl
     have hj:=hl j List.mem_cons_self
     rw [List.filterMap_cons,Array.getElem?_eq_getElem hj]
     simp only [Option.map_some,List.length_cons]
     rw [ih λ x hx=>hl x (List.mem_cons_of_mem _ hx)]
   have e3:((ps.map λ (n:Nat)=>Value.int n 0).toArray)[((vs.length:Nat):Int).toNat]?=none:=by
    rw [List.getElem?_toArray,Int.toNat_natCast,List.getElem?_eq_none_iff,List.length_map,hvs,fm ps all]
    exact Nat.le_refl _
   rw [e3]
   dsimp only
   refine wpAny_bind (wpAny_setField hit rfl (by simp) ?_)
   refine stop _ (rawInt 0) (λ b ob hb q=>(Heap.get?_update_other _ _ (Ne.symm hb)).trans q) ?_
   rw [Heap.get?_update_self _ hit rfl]; rfl
 . dsimp only
   refine wpAny_bind (zi0 ho hd hf hb hled hz ?_)
   have hps:t.place.size=es.size:=by
    have:=hf
    simp only [SetTable.fits,Bool.and_eq_true,beq_iff_eq] at this
    exact this.1
   have hlen:vs.length=es.size:=by rw [hvs,List.length_map,Array.length_toList]
   have none1:es[SetTable.below t.place (slotAt t.place vs.length)]?=none:=by
    rw [below_at hri (by omega),hlen]
    simp
   rw [Int.toNat_natCast]
   rw [none1]
   exact stop _ _ ext0 hit
end
end S6
end
section
namespace S6
open PySem PyProof.Rows
def Kept (h h':Heap):Prop:=∀ b o,h.get? b=some o->h'.get? b=some o
section
variable {prog:Program} {w:World} {A:Around} {E:Value->Shared->Prop} {s:Shared}
theorem zoJ {a:Addr} {o:Obj} {es:Array (Int×Value)} {ep:Nat} {t:SetTable} {Q:Bool->Shared->Prop} (ho:s.heap.get? a=some o) (hd:o.data=.set es ep t) (hf:t.fits es.size=true)
  (h:Q (!byT w && (!t.plain && decide (es.size > 1))) s):wpAny (model prog w) A (setDrawn a) Q E s:=by
 unfold setDrawn setsByText
 refine wpAny_bind (wpAny_setState_of ho hd hf ?_)
 dsimp only
 refine wpAny_bind (wpAny_bind (wpAny_askSetting (wpAny_pure ?_)))
 exact wpAny_pure h
theorem znQ {a:Addr} {o:Obj} {es:Array (Int×Value)} {ep:Nat} {t:SetTable} {Q:Value->Shared->Prop} (ho:s.heap.get? a=some o) (hx:o.ExactSet) (hd:o.data=.set es ep t) (hT:SetT w t es.size) (hz:es.size<=sizeLine)
  (h:∀ (it p:Addr) (vs:List Value) h' d,SIt w es ep t vs a it p 0 h'->vs.Perm (es.toList.map (·.2))->Kept s.heap h'->s.heap.objs.size<=it->(p < it\/p=0)->(s.heap.objs.size<=p\/p=0)->Q (.ref it) { s with heap:=h',drawn:=d }) :
  wpAny (model prog w) A (pyIter (.ref a)) Q E s:=by
 have hTy:s.TypeIs (.ref a) "set" := ⟨o,ho,hx.1⟩
 refine wpAny_pyIter_slot hTy F.slot_set_iter (wpAny_call_entry F.slot_set_iter hTy zll ?_ (F.args_set_iter_1 _))
 unfold Builtin.«frozenset.__iter__» Builtin.Frozenset.slot0 slotArgs
 simp only [List.isEmpty_nil,Bool.not_true,Bool.false_eq_true,↓reduceIte,bind_assoc,List.length_nil,bne_self_eq_false]
 unfold Builtin.Frozenset.addrOf Builtin.Frozenset.sizeOf
 refine wpAny_bind (wpAny_pure ?_)
 try dsimp only
 refine wpAny_bind (wpAny_pure ?_)
 refine wpAny_bind (wpAny_bind (wpAny_setEntries_of ho hd hT.fits (wpAny_pure ?_)))
 have made:∀ (first:Value) (h1:Heap) (d1:Drawn) (p:Addr) (vs:List Value),h1.get? a=some o->Mode w es ep t vs a h1.objs.size p 0 (h1.push (itO first 0 a es.size ep)) first->vs.Perm (es.toList.map (·.2))->Kept s.heap h1->s.heap.objs.size<=h1.objs.size->(p < h1.objs.size\/p=0)->(s.heap.objs.size<=p\/p=0) ->
    wpAny (model prog w) A.in1 (do
     let ep' <-setEpoch a
     let r <-newFields "set_iterator" [first,rawInt 0,Value.ref a,rawInt (es.size:Nat),rawInt (ep':Nat)]
     ret r) (λ fin s'=>∃ r,fin=.done (.ret r)/\∃ T' x,s'.TypeIs r T'/\typeLookup (.type T') "__next__" = pure (some x)/\Q r s') E { s with heap:=h1,drawn:=d1 }:=λ first h1 d1 p vs ha md pm kp hs h3 h4=>by
  refine wpAny_bind (wpAny_setEpoch_of ha hd hT.fits ?_)
  unfold newFields
  refine wpAny_bind (wpAny_newObj_type ?_ (by first | size_fits | exact trivial))
  refine wpAny_pure ⟨_,rfl,"set_iterator",_,⟨_,Heap.get?_push_size _ rfl,rfl⟩,zbZ.lookup,?_⟩
  refine h h1.objs.size p vs _ d1 ⟨⟨o,Heap.get?_push_of_some _ ha,hx,hd⟩,first,Heap.get?_push_size _ rfl,md⟩ pm (λ b ob q=>Heap.get?_push_of_some _ (kp b ob q)) hs h3 h4
 refine wpAny_bind (zoJ ho hd hT.fits ?_)
 cases hb:byT w with
 | true =>
  simp only [Bool.not_true,Bool.false_and,Bool.false_eq_true,if_false]
  refine wpAny_bind (wpAny_pure ?_)
  exact made (rawInt 0) s.heap s.drawn 0 _ ho (.inl ⟨hb,⟨0,rfl⟩,rfl⟩) ((zqt _ es).map _) (λ _ _ q=>q) (Nat.le_refl _) (.inr rfl) (.inr rfl)
 | false =>
  by_cases hsz:t.plain=false/\es.size > 1
  . obtain ⟨hp,hsz⟩:=hsz
    have:(!false && (!t.plain && decide (es.size > 1)))=true:=by rw [hp]; simp [hsz]
    rw [this]
    simp only [if_true]
    refine wpAny_bind (zmT es.size (List.range es.size) _ _ (by simp) λ ys d pm=>?_)
    refine wpAny_bind (wpAny_newTuple ?_ (by rw [List.length_map,pm.length_eq,List.length_range]; exact hz))
    have fm:∀ l:List Nat,(∀ j∈l,j < es.size)->l.filterMap (λ j=>(es[j]?).map (·.2))=l.map λ j=>(es[j]?.map (·.2)).getD .none:=λ l=>by
     induction l with
     | nil=>intro _; rfl
     | cons j r ih =>
       intro hl
       have hj:=hl j List.mem_cons_self
       rw [List.filterMap_cons,List.map_cons,ih λ x hx=>hl x (List.mem_cons_of_mem _ hx),Array.getElem?_eq_getElem hj]
       rfl
    have rng:(List.range es.size).filterMap (λ j=>(es[j]?).map (·.2))=es.toList.map (·.2):=by
     have e1:=filterMap_getElem?_range es
     rw [<-e1,List.map_filterMap]
    have ltS:s.heap.objs.size < (s.heap.push { cls:=.type "tuple",data:=.seq (ys.map λ (n:Nat)=>rawInt n).toArray }).objs.size:=by rw [Heap.size_push]; exact Nat.lt_succ_self _
    refine made (.ref s.heap.objs.size) _ d s.heap.objs.size (ys.filterMap λ j=>(es[j]?).map (·.2)) (Heap.get?_push_of_some _ ho) (.inr (.inl ⟨hb,rfl,Nat.ne_of_lt ltS,ys,Heap.get?_push_of_some _ (Heap.get?_push_size _ rfl),rfl,pm⟩)) ?_ (λ b ob q=>Heap.get?_push_of_some _ q) (Nat.le_of_lt ltS) (.inl ltS) (.inl (Nat.le_refl _))
    rw [<-rng]
    exact pm.filterMap _
  . have hz':t.plain=true\/es.size<=1:=by
     cases e:t.plain with
     | true=>exact .inl rfl
     | false=>exact .inr (Nat.le_of_not_lt λ z=>hsz ⟨e,z⟩)
    have hri:Rise t.place:=by
     rcases hz' with z | z
     . exact hT.rise z
     . refine Rise.small ?_
       have:=hT.fits
       simp only [SetTable.fits,Bool.and_eq_true,beq_iff_eq] at this
       rw [this.1]; exact z
    have:(!false && (!t.plain && decide (es.size > 1)))=false:=by
     rcases hz' with z | z
     . simp [z]
     . simp; omega
    rw [this]
    simp only [Bool.false_eq_true,if_false]
    refine wpAny_bind (wpAny_pure ?_)
    exact made (rawInt 0) s.heap s.drawn 0 _ ho (.inr (.inr ⟨hb,hT.led hb,hz',hri,rfl,rfl⟩)) (.refl _) (λ _ _ q=>q) (Nat.le_refl _) (.inr rfl) (.inr rfl)
theorem zoI {es:Array (Int×Value)} {ep:Nat} {t:SetTable} {vs:List Value} {a it p:Addr} (hh:A.handled=none) (hf:t.fits es.size=true) (hne:a≠it):Walks prog w A it [it,a,p] [it] vs.length (λ i v=>vs[i]?=some v) (λ i h=>SIt w es ep t vs a it p i h) where
 sub:=λ b hb=>by simp at hb; simp [hb]
 frame:=λ i h h' st hk=>by
  obtain ⟨⟨o,ho,hx,hd⟩,first,hit,md⟩:=st
  refine ⟨⟨o,hk a (by simp) o ho,hx,hd⟩,first,hk it (by simp) _ hit,?_⟩
  rcases md with md | ⟨hb,e,hpi,ps,hps,r⟩ | md
  . exact .inl md
  . exact .inr (.inl ⟨hb,e,hpi,ps,hk p (by simp) _ hps,r⟩)
  . exact .inr (.inr md)
 item:=λ i s Q E hi st hQ=>by
  obtain ⟨v,hv⟩:∃ v,vs[i]?=some v:=⟨_,List.getElem?_eq_getElem hi⟩
  exact zrP hf st hne hv λ h' st' sb=>hQ v h' s.toks hv st' λ b o hb e=>(sb.2 b (by simpa using hb)).trans e
 done:=λ s Q E st hQ=>zs3 hh hf st hne λ h' x=>hQ h' s.toks λ b o hb e=>x b o (by simpa using hb) e
 self:=λ i s Q E st hQ=>by
  obtain ⟨_,first,hit,_⟩:=st
  have hT:s.TypeIs (.ref it) "set_iterator" := ⟨_,hit,rfl⟩
  have sl:Slot "set_iterator" "__iter__" "set_iterator.__iter__" :=
    Slot.of (owner := "set_iterator") (n := "__iter__")
     (by rw [typeLookup_type,builtinLookup_eq_fast]; kernel_rfl) (by decide +kernel)
     (by decide +kernel) (by decide +kernel)
     (by first | exact .inl (by decide +kernel) | exact .inr (by decide +kernel))
     (by rw [isSubtype_type]; kernel_rfl)
  have en : entryFor table "set_iterator.__iter__" = some Builtin.«dict_keyiterator.__iter__» :=
    entryFor_alias (id' := "dict_keyiterator.__iter__") (by kernel_rfl) rfl
     (by decide +kernel) (by kernel_rfl)
  have ar:∀ a:Value,argsOk "set_iterator.__iter__" ⟨[a],[]⟩:=λ a=>by unfold argsOk; kernel_rfl
  refine wpAny_pyIter_slot hT sl (wpAny_call_entry sl hT en ?_ (ar _))
  show wpAny _ _ (ret (.ref it)) _ _ s
  exact wpAny_pure ⟨_,rfl,"set_iterator",_,hT,zbZ.lookup,hQ⟩
end
end S6
end
section
namespace S6
open PySem PyProof.Rows
section
variable {prog:Program} {w:World} {A:Around} {E:Value->Shared->Prop} {s:Shared}
theorem zqL {r:Addr} {Q:Bool->Shared->Prop} (hT:s.TypeIs (.ref r) "set") (h:Q false s):wpAny (model prog w) A (Builtin.List.listLengthHint (.ref r)) Q E s:=by
 unfold Builtin.List.listLengthHint
 refine wpAny_bind (wpAny_specialOf hT F.slot_set_len.lookup ?_)
 generalize hid:("set.__len__" : String)=id0
 wp_delta
 rw [show splitId id0=some ("set","__len__") from by subst hid; decide +kernel]
 subst hid
 refine wpAny_bind (wpAny_isInstance (T := "set") (b:=true) hT (by rw [isSubtype_type]; kernel_rfl) ?_)
 refine wpAny_ite_split (λ hab=>absurd hab (by decide)) (λ _=>?_)
 refine wpAny_ite_split (λ _=>?_) (λ hab=>absurd (by decide +kernel) hab)
 exact wpAny_bind (wpAny_typeOf hT (wpAny_pure h))
theorem zn3 {P:Nat->Value->Prop} {vs:List Value} {acc:Array Value} (hP:∀ i v,P i v->vs[i]?=some v) (h:ItemsOf P acc vs.length):acc.toList=vs:=by
 refine List.ext_getElem? λ i=>?_
 cases e:acc.toList[i]? with
 | none =>
  rw [List.getElem?_eq_none_iff,Array.length_toList,h.1] at e
  rw [List.getElem?_eq_none_iff.mpr e]
 | some v=>exact (hP i v (h.2 i v (by rw [<-Array.getElem?_toList]; exact e))).symm
variable {K:Type} [DecidableEq K] {knd:KeyKind prog w K}
theorem zlQ {a:Addr} {ks:List K} {R:List Value->Shared->Prop} (hh:A.handled=none) (hS:SetP knd s.heap a ks)
   (h:∀ h' tk d (vs:List Value) (ys:List K),ys.Perm ks->Paired (λ v k=>knd.is k v=true) vs ys->Kept s.heap h'->R vs { s with heap:=h',toks:=tk,drawn:=d }):wpAny (model prog w) A (collect (.ref a)) R E s:=by
 obtain ⟨ks',pk,o,es,ep,t,ho,hx,hd,hel,hnd,hb,hT⟩:=hS
 have hl:es.size=ks'.length:=by rw [<-Array.length_toList]; exact hel.length
 have hz:es.size<=sizeLine:=by rw [hl]; exact fits_of_scanBound hb
 have pv:Paired (λ v k=>knd.is k v=true) (es.toList.map (·.2)) ks':=by
   clear hl hz hd hT
   generalize es.toList=l at hel
   clear hb hnd pk
   induction hel with
   | nil=>exact .nil
   | cons r _ ih=>exact .cons r.1.1 ih
 unfold collect
 refine wpAny_bind (wpAny_runValue (codeAny_builtin F.entry_proto_collect ?_))
 rw [Around.under_plainId F.plain_proto_collect _]
 show wpAny _ A.in1 (newList [] >>= λ l=>again (.builtin "list.__iadd__" ⟨[l,.ref a],[]⟩)) _ _ s
 refine wpAny_bind (wpAny_newObj_type ?_)
 refine wpAny_pure ⟨plainId_quiet F.plain_list_iadd _,codeAny_builtin F.entry_list_iadd ?_⟩
 rw [Around.under_plainId F.plain_list_iadd _]
 generalize hg0:s.heap.push { cls:=.type "list",data:=.seq ([]:List Value).toArray }=g0
 have k0:Kept s.heap g0:=λ b ob q=>by rw [<-hg0]; exact Heap.get?_push_of_some _ q
 have l0:g0.get? s.heap.objs.size=some { cls:=.type "list",data:=.seq #[] }:=by rw [<-hg0]; exact Heap.get?_push_size _ rfl
 have hsa:s.heap.objs.size≠a:=Nat.ne_of_gt (Heap.lt_size ho)
 show wpAny _ A.in1 (Builtin.List.listExtendWith (.ref s.heap.objs.size) (.ref a) (.ref s.heap.objs.size)) _ _ _
 have fin:∀ (vs:List Value),vs.Perm (es.toList.map (·.2))->∀ (h':Heap) (tk:Nat) (d:Drawn) (acc:Array Value) (c:Nat),Kept s.heap h'->h'.get? s.heap.objs.size=some { cls:=.type "list",dict:=none,data:=.seq acc c,slots:=#[] }->acc.toList=vs ->
     wpAny (model prog w) A (do
       match (<-load s.heap.objs.size).data with
       | .seq xs _=>pure xs.toList
       | _=>unsupported "internal:collect") R E { s with heap:=h',toks:=tk,drawn:=d }:=λ vs pm h' tk d acc c kp e ea=>by
   refine wpAny_bind (wpAny_load e (wpAny_pure ?_))
   obtain ⟨ys,py,hy⟩:=zhD (ea ▸ pm:acc.toList.Perm (es.toList.map (·.2))) pv
   exact h h' tk d _ ys (py.trans pk) hy kp
 unfold Builtin.List.listExtendWith
 have ho0:g0.get? a=some o:=k0 a o ho
 have hT0:Shared.TypeIs { s with heap:=g0 } (.ref a) "set" := ⟨o,ho0,hx.1⟩
 refine wpAny_bind (wpAny_typeOf hT0 ?_)
 have n1:Builtin.List.listSameRef (.ref s.heap.objs.size) (.ref a)=false:=by simp [Builtin.List.listSameRef,hsa]
 have n2:(Value.type "set" == Value.type "list")=false:=by decide
 have n3:(Value.type "set" == Value.type "tuple")=false:=by decide
 simp only [n1,n2,n3,Bool.or_false,Bool.false_eq_true,if_false]
 refine wpAny_bind (znQ (s:={ s with heap:=g0 }) ho0 hx hd hT hz λ it p vs h1 d st pm k1 hit hp1 hp2=>?_)
 have sz0:s.heap.objs.size < g0.objs.size:=Heap.lt_size l0
 have hSf:s.heap.objs.size∉[it,a,p]:=by
   intro z
   rcases List.mem_cons.mp z with z | z
   . have:g0.objs.size<=it:=hit
     omega
   . rcases List.mem_cons.mp z with z | z
     . exact hsa z
     . have z':=List.mem_singleton.mp z
       rcases hp2 with q | q
       . have:g0.objs.size<=p:=q
         omega
       . have:=Heap.lt_size ho
         rw [z',q] at this
         exact absurd this (Nat.not_lt_zero _)
 have hne:a≠it:=Nat.ne_of_lt (Nat.lt_of_lt_of_le (Heap.lt_size ho0) hit)
 have l1:=k1 _ _ l0
 have W:=zoI (prog:=prog) (w:=w) (A:=A.in1) (es:=es) (ep:=ep) (t:=t) (vs:=vs) (a:=a) (it:=it) (p:=p) hh hT.fits hne
 have hvl:vs.length<=sizeLine:=by rw [pm.length_eq,List.length_map,Array.length_toList]; exact hz
 have key:∀ (h2:Heap) (c1:Nat),SIt w es ep t vs a it p 0 h2->(∀ b ob,b≠s.heap.objs.size->s.heap.get? b=some ob->h2.get? b=some ob)->h2.get? s.heap.objs.size=some { cls:=.type "list",data:=.seq #[] c1 } ->
     codeAny (model prog w) A (.builtin "list.extend.loop" ⟨[.ref s.heap.objs.size,.ref it,.ref s.heap.objs.size],[]⟩)
       (λ q s'=>∃ (h':Heap) (tk:Nat) (acc':Array Value) (c':Nat),q=.ok (.ret (.ref s.heap.objs.size))/\s'={ s with heap:=h',toks:=tk,drawn:=d }/\Kept s.heap h'/\h'.get? s.heap.objs.size=some { cls:=.type "list",dict:=none,data:=.seq acc' c',slots:=#[] }/\acc'.toList=vs)
       { s with heap:=h2,drawn:=d }:=λ h2 c1 st2 k2 l2=>by
   refine codeAny_extend_loopS W.toS hvl s.heap.objs.size hSf (.ref s.heap.objs.size) vs.length 0 _ #[] c1 (by omega) (Nat.zero_le _) st2 l2 (ItemsOf.nil _) λ s' acc' c' hm hS' hacc=>?_
   obtain ⟨h3,g3,d3,tk3,os3⟩:=s'
   have eg:g3=s.gens:=hm.gens
   have ed:d3=d:=hm.drawn
   have eo:os3=s.os:=hm.os
   subst eg ed eo
   refine ⟨h3,tk3,acc',c',rfl,rfl,λ b ob q=>?_,hS',zn3 (λ _ _ z=>z) hacc⟩
   have hb1:b≠s.heap.objs.size:=Nat.ne_of_lt (Heap.lt_size q)
   refine hm.heap b ob (λ z=>?_) (k2 b ob hb1 q)
   rcases List.mem_cons.mp z with z | z
   . exact hb1 z
   . exact absurd (List.mem_singleton.mp z) (Nat.ne_of_lt (Nat.lt_of_lt_of_le (Heap.lt_size (k0 b ob q)) hit))
 have run:∀ (h2:Heap) (c1:Nat),SIt w es ep t vs a it p 0 h2->(∀ b ob,b≠s.heap.objs.size->s.heap.get? b=some ob->h2.get? b=some ob)->h2.get? s.heap.objs.size=some { cls:=.type "list",data:=.seq #[] c1 }->∀ (Z:Result->Shared->Prop),
     (∀ (h':Heap) (tk:Nat) (acc':Array Value) (c':Nat),Kept s.heap h'->h'.get? s.heap.objs.size=some { cls:=.type "list",dict:=none,data:=.seq acc' c',slots:=#[] }->acc'.toList=vs->Z (.ok (.ret (.ref s.heap.objs.size))) { s with heap:=h',toks:=tk,drawn:=d }) ->
     codeAny (model prog w) A (.builtin "list.extend.loop" ⟨[.ref s.heap.objs.size,.ref it,.ref s.heap.objs.size],[]⟩) Z { s with heap:=h2,drawn:=d }:=λ h2 c1 st2 k2 l2 Z hZ =>
   codeAny_mono (key h2 c1 st2 k2 l2) λ q s' y=>by
     obtain ⟨h',tk,acc',c',rfl,rfl,kp,e,ea⟩:=y
     exact hZ h' tk acc' c' kp e ea
 refine wpAny_bind (wpAny_holding (zqL (s:={ s with heap:=h1,drawn:=d }) ⟨o,k1 a o ho0,hx.1⟩ ?_))
 have kk:∀ b ob,b≠s.heap.objs.size->s.heap.get? b=some ob->h1.get? b=some ob:=λ b ob _ q=>k1 b ob (k0 b ob q)
 refine wpAny_ite_split (λ _=>?_) (λ _=>wpAny_pure ⟨plainId_quiet F.plain_extend_loop _,run h1 0 st kk l1 _ λ h' tk acc' c' kp e ea=>fin vs pm h' tk d acc' c' kp e ea⟩)
 refine wpAny_bind (wpAny_rule (wpAny_bind ?_))
 show wpAny _ _ (updateSeq s.heap.objs.size (·.push .none) >>= λ _=>updateSeq s.heap.objs.size (·.pop)) _ _ _
 refine wpAny_bind (wpAny_updateSeq l1 rfl ?_)
 have l2:=Heap.get?_update_self (Obj.mapSeq (·.push Value.none)) l1 rfl
 refine wpAny_updateSeq (hz:=by seq_fits) l2 rfl ?_
 have l3:=Heap.get?_update_self (Obj.mapSeq (·.pop)) l2 rfl
 refine wpAny_pure ⟨plainId_quiet F.plain_extend_loop _,run _ _ (W.frame 0 _ _ st λ b hb ob q=>?_) (λ b ob hb q=>?_) l3 _ λ h' tk acc' c' kp e ea=>fin vs pm h' tk d acc' c' kp e ea⟩
 . have hbS:b≠s.heap.objs.size:=λ z=>hSf (z ▸ hb)
   exact (Heap.get?_update_other _ _ (Ne.symm hbS)).trans ((Heap.get?_update_other _ _ (Ne.symm hbS)).trans q)
 . exact (Heap.get?_update_other _ _ (Ne.symm hb)).trans ((Heap.get?_update_other _ _ (Ne.symm hb)).trans (kk b ob hb q))
end
end S6
end
section
namespace L2
open PySem PySem.Spec PyProof.Rows
abbrev Key:=Sum Int Str
def ziG:Key->Value->Bool
 | .inl k,v=>Value.isInt k v
 | .inr x,v=>Value.isStrOf x v
def keyH (w:World):Key->Int
 | .inl k=>hashInt k
 | .inr x=>hashStr w x
theorem zaZ:∀ {k:Key} {v:Value},ziG k v=true->(∃ i t,k=Sum.inl i/\v=Value.int i t)\/(∃ x t,k=Sum.inr x/\v=Value.str x t)
 | .inl i,v,h=>by
  obtain ⟨t,e⟩:=Value.isInt_shape (k:=i) (v:=v) h
  exact .inl ⟨i,t,rfl,e⟩
 | .inr x,v,h=>by
  obtain ⟨t,e⟩:=Value.isStrOf_shape (x:=x) (v:=v) h
  exact .inr ⟨x,t,rfl,e⟩
theorem zpp (i:Int) (t:Tok):ziG (.inl i) (.int i t)=true:=by simp [ziG,Value.isInt]
theorem zpo (x:Str) (t:Tok):ziG (.inr x) (.str x t)=true:=by simp [ziG,Value.isStrOf]
theorem ztu (a b:Int):decide ((Sum.inl a:Key)=Sum.inl b)=(a == b):=by
 by_cases e:a=b
 . subst e; simp
 . have h:¬ (Sum.inl a:Key)=Sum.inl b:=λ q=>e (Sum.inl.inj q)
   rw [decide_eq_false h]
   exact (beq_eq_false_iff_ne.mpr e).symm
theorem zrk (a b:Str):decide ((Sum.inr a:Key)=Sum.inr b)=decide (a=b):=by
 by_cases e:a=b
 . subst e; simp
 . have h:¬ (Sum.inr a:Key)=Sum.inr b:=λ q=>e (Sum.inr.inj q)
   rw [decide_eq_false h,decide_eq_false e]
theorem ztt (a:Int) (b:Str):decide ((Sum.inl a:Key)=Sum.inr b)=false:=decide_eq_false (λ q=>nomatch q)
theorem ztr (a:Str) (b:Int):decide ((Sum.inr a:Key)=Sum.inl b)=false:=decide_eq_false (λ q=>nomatch q)
def zaO (prog:Program) (w:World):PySem.KeyKind prog w Key where
 is:=ziG
 hash:=keyH w
 inj:=λ v a b ha hb=>by
  rcases zaZ ha with ⟨i,t,rfl,rfl⟩ | ⟨x,t,rfl,rfl⟩
  . rcases zaZ hb with ⟨j,u,rfl,e⟩ | ⟨y,u,rfl,e⟩
    . injection e with e1 _; rw [e1]
    . exact nomatch e
  . rcases zaZ hb with ⟨j,u,rfl,e⟩ | ⟨y,u,rfl,e⟩
    . exact nomatch e
    . injection e with e1 _; rw [e1]
 byValue:=λ k v h=>by
  rcases zaZ h with ⟨i,t,rfl,rfl⟩ | ⟨x,t,rfl,rfl⟩ <;> rfl
 pyHash:=λ hv h=>by
  rcases zaZ hv with ⟨i,t,rfl,rfl⟩ | ⟨x,t,rfl,rfl⟩
  . exact wpAny_pyHash_int h
  . exact wpAny_pyHash_str h
 eqBool:=λ hu hv h=>by
  rcases zaZ hu with ⟨i,t,rfl,rfl⟩ | ⟨x,t,rfl,rfl⟩
  . rcases zaZ hv with ⟨j,u,rfl,rfl⟩ | ⟨y,u,rfl,rfl⟩
    . rw [ztu] at h; exact wpAny_eqBool_int h
    . rw [ztt] at h; exact SeqAt.EqAt.int_str i t y u _ _ _ _ h
  . rcases zaZ hv with ⟨j,u,rfl,rfl⟩ | ⟨y,u,rfl,rfl⟩
    . rw [ztr] at h; exact SeqAt.EqAt.str_int x t j u _ _ _ _ h
    . rw [zrk] at h; exact wpAny_eqBool_str h
 «strs» := fun k x t v h => by
  rcases zaZ h with ⟨i,u,rfl,e⟩ | ⟨y,u,rfl,e⟩
  . exact nomatch e
  . injection e with e1 _
    subst e1
    cases v <;> rfl
theorem zhN (prog:Program) (w:World) (i:Int) (t:Tok):(zaO prog w).is (.inl i) (.int i t)=true:=zpp i t
theorem zhM (prog:Program) (w:World) (x:Str) (t:Tok):(zaO prog w).is (.inr x) (.str x t)=true:=zpo x t
end L2
namespace L2
open PySem PySem.Spec PyProof.Rows
inductive V where
 | non | bl (b:Bool) | int (i:Int) | str (x:Str) | byt (b:Array UInt8) | flt (b:UInt64) | ref (a:Addr) | ty (n:String)
 deriving DecidableEq
def RelV:V->Value->Prop
 | .non,u=>u=Value.none
 | .bl b,u=>u=Value.bool b
 | .int i,u=>∃ t,u=Value.int i t
 | .str x,u=>∃ t,u=Value.str x t
 | .byt b,u=>∃ t,u=Value.bytes b t
 | .flt b,u=>∃ t,u=Value.float b t
 | .ref a,u=>u=Value.ref a
 | .ty n,u=>u=Value.type n
abbrev Vals:List V->List Value->Prop:=Paired RelV
theorem Vals.length {xs:List V} {us:List Value} (r:Vals xs us):xs.length=us.length:=Paired.length r
theorem Vals.get:∀ {xs:List V} {us:List Value} {i:Nat} {x:V},Vals xs us->xs[i]?=some x->∃ u,us[i]?=some u/\RelV x u
 | _,_,_,_,.nil,e=>by simp at e
 | _,_,0,_,.cons r _,e=>by simp at e; subst e; exact ⟨_,rfl,r⟩
 | _,_,i+1,x,.cons _ t,e=>by
  obtain ⟨u,h1,h2⟩:=Vals.get (i:=i) (x:=x) t (by simpa using e)
  exact ⟨u,by simpa using h1,h2⟩
theorem Vals.set {x:V} {u:Value} (r:RelV x u):∀ {xs:List V} {us:List Value} (i:Nat),Vals xs us->Vals (xs.set i x) (us.set i u)
 | _,_,_,.nil=>.nil
 | _,_,0,.cons _ t=>.cons r t
 | _,_,i+1,.cons q t=>.cons q (Vals.set r i t)
theorem Vals.append:∀ {xs ys:List V} {us ws:List Value},Vals xs us->Vals ys ws->Vals (xs++ys) (us++ws)
 | _,_,_,_,.nil,s=>s
 | _,_,_,_,.cons r t,s=>.cons r (Vals.append t s)
theorem Vals.take:∀ {xs:List V} {us:List Value} (n:Nat),Vals xs us->Vals (xs.take n) (us.take n)
 | _,_,0,_=>.nil
 | _,_,_+1,.nil=>.nil
 | _,_,n+1,.cons r t=>.cons r (Vals.take n t)
theorem Vals.drop:∀ {xs:List V} {us:List Value} (n:Nat),Vals xs us->Vals (xs.drop n) (us.drop n)
 | _,_,0,r=>r
 | _,_,_+1,.nil=>.nil
 | _,_,n+1,.cons _ t=>Vals.drop n t
def RelO:Option V->Option Value->Prop
 | some v,some u=>RelV v u
 | none,none=>True
 | _,_=>False
def KV {κ:Type}:List (κ×V)->List (κ×Value)->Prop:=Paired λ (p:κ×V) (q:κ×Value)=>p.1=q.1/\RelV p.2 q.2
def kV:Key->V
 | .inl i=>.int i
 | .inr x=>.str x
inductive HO where
 | lst (xs:List V)
 | tup (xs:List V)
 | dK (kvs:List (Key×V)) | dT (kvs:List (List Key×V))
 | set (S:Int->Bool) (n:Nat)
 | ins (C dx:Addr) (fs:List (Str×V))
 | own (x:Addr)
 | xd (fs:List (Str×V))
 | met (f x:Addr)
 | rng (lo hi:Int)
 | frz (o:Obj) (u:HO)
 | tbl (ps:Array Value)
 | ext (φ:Heap->Prop)
abbrev Hp:=Addr->Option HO
def upd (H:Hp) (a:Addr) (o:HO):Hp:=λ b=>if b=a then some o else H b
theorem zab {H:Hp} {a:Addr} {o:HO}:upd H a o a=some o:=by unfold upd; rw [if_pos rfl]
theorem zaf {H:Hp} {a b:Addr} {o:HO} (h:b≠a):upd H a o b=H b:=by unfold upd; rw [if_neg h]
theorem zjj {H:Hp} {a:Addr} {o u:HO}:upd (upd H a o) a u=upd H a u:=by
 funext b; unfold upd; split <;> rfl
theorem zbG {H:Hp} {a b:Addr} {o u:HO} (h:H a=some o) (h':H b=some u) (d:o≠u):a≠b:=by
 intro e; subst e; rw [h] at h'; exact d (Option.some.inj h')
theorem zah {H:Hp} {a b:Addr} {o:HO} (h:H a=some o) (h':H b=none):a≠b:=by
 intro e; subst e; rw [h] at h'; cases h'
section
variable (P:Program) (w:World)
def zbY (H:Hp) (h:Heap) (a:Addr):HO->Prop
 | .lst xs=>xs.length<=sizeLine/\∃ (its:List Value) (n:Nat),Vals xs its/\h.get? a=some { cls:=.type "list",data:=.seq its.toArray n }
 | .tup xs=>xs.length<=sizeLine/\∃ its:List Value,Vals xs its/\IsTup h a its.toArray
 | .dK kvs=>kvs.length<=sizeLine/\(a == sysModules)=false/\∃ vs,KV kvs vs/\h.DictOf (zaO P w) a vs
 | .dT kvs=>kvs.length<=sizeLine/\(a == sysModules)=false/\∃ xs:List (List Key×Addr×Value),
  Paired (λ (p:List Key×V) (q:List Key×Addr×Value)=>p.1=q.1/\H q.2.1=some (.tup (p.1.map kV))/\RelV p.2 q.2.2) kvs xs /\
  ∃ o es ep,h.get? a=some o/\o.ExactDict/\o.data=.dict es ep/\es.toList=xs.map (entryOfKey (tupleKind (zaO P w)))/\(xs.map (·.1)).Nodup
 | .set S n=>h.SetOf (intKind P w) a S n
 | .ins C dx fs=>H dx=some (.own a)/\fs.length<=1000/\dx≠a/\h.get? a=some (PySem.W.instObj C dx) /\
  ∃ mA,h.Ns1 dx mA/\(∀ f,RelO (fs.lookup f) (mA f))/\PySem.Within mA (fs.map (·.1))
 | .own _=>∃ o,h.get? a=some o
 | .xd fs=>∃ mA,h.Ns1 a mA/\∀ f,RelO (fs.lookup f) (mA f)
 | .rng lo hi=>∃ t u v,h.get? a=some { cls:=.type "range",data:=.fields #[.int lo t,.int hi u,.int 1 v] }
 | .frz o u=>h.get? a=some o/\zbY H h a u
 | .tbl ps=>h.get? a=some { cls:=.none,data:=.fields ps }
 | .met f x=>h.get? a=some (PySem.W.methodObj (.ref f) (.ref x))
 | .ext φ=>φ h/\(∃ o,h.get? a=some o)/\∀ h1 h2:Heap,φ h1->(∀ o,h1.get? a=some o->h2.get? a=some o)->φ h2
def HOk (H:Hp) (h:Heap):Prop:=∀ a o,H a=some o->zbY P w H h a o
end
section
variable {P:Program} {w:World} {H H':Hp} {h h':Heap} {a:Addr} {o:HO}
theorem zbY.lt (x:zbY P w H h a o):a < h.objs.size:=by
 cases o with
 | lst xs=>obtain ⟨_,_,_,_,e⟩:=x; exact Heap.lt_size e
 | tup xs=>obtain ⟨_,_,_,p⟩:=x; exact p.lt
 | dK kvs=>obtain ⟨_,_,_,_,o,_,_,e,_⟩:=x; exact Heap.lt_size e
 | dT kvs=>obtain ⟨_,_,_,_,o,_,_,e,_⟩:=x; exact Heap.lt_size e
 | set S n=>obtain ⟨o,_,_,_,e,_⟩:=x; exact Heap.lt_size e
 | ins C dx fs=>obtain ⟨_,_,_,e,_⟩:=x; exact Heap.lt_size e
 | own y=>obtain ⟨_,e⟩:=x; exact Heap.lt_size e
 | xd fs=>obtain ⟨_,⟨_,_,_,e,_⟩,_⟩:=x; exact Heap.lt_size e
 | rng lo hi=>obtain ⟨_,_,_,e⟩:=x; exact Heap.lt_size e
 | frz ob u=>obtain ⟨e,_⟩:=x; exact Heap.lt_size e
 | tbl ps=>exact Heap.lt_size (show h.get? a=some _ from x)
 | met f y=>exact Heap.lt_size (show h.get? a=some _ from x)
 | ext φ=>obtain ⟨_,⟨_,e⟩,_⟩:=x; exact Heap.lt_size e
theorem Paired.mapP {α β:Type} {F G:α->β->Prop}:∀ {l₁:List α} {l₂:List β},Paired F l₁ l₂->(∀ a b,F a b->G a b)->Paired G l₁ l₂
 | _,_,.nil,_=>.nil
 | _,_,.cons r t,f=>.cons (f _ _ r) (Paired.mapP t f)
theorem zbY.stay (x:zbY P w H h a o) (k:∀ b u,(b=a\/H b=some (.own a))->h.get? b=some u->h'.get? b=some u)
  (ho:∀ b,H b=some (.own a)->H' b=some (.own a)) (ht:∀ b xs,H b=some (.tup xs)->H' b=some (.tup xs)):zbY P w H' h' a o:=by
 induction o with
 | lst xs=>obtain ⟨z,its,n,r,e⟩:=x; exact ⟨z,its,n,r,k _ _ (.inl rfl) e⟩
 | tup xs=>obtain ⟨z,its,r,ob,e,c⟩:=x; exact ⟨z,its,r,ob,k _ _ (.inl rfl) e,c⟩
 | dK kvs=>obtain ⟨z,y,vs,r,ob,es,ep,e,c⟩:=x; exact ⟨z,y,vs,r,ob,es,ep,k _ _ (.inl rfl) e,c⟩
 | dT kvs =>
  obtain ⟨z,y,xs,r,ob,es,ep,e,c⟩:=x
  exact ⟨z,y,xs,Paired.mapP r λ p q z=>⟨z.1,ht _ _ z.2.1,z.2.2⟩,ob,es,ep,k _ _ (.inl rfl) e,c⟩
 | set S n=>obtain ⟨ob,es,ep,t,e,c⟩:=x; exact ⟨ob,es,ep,t,k _ _ (.inl rfl) e,c⟩
 | ins C dx fs =>
  obtain ⟨d,z,ne,e,mA,⟨od,es,ep,e2,c⟩,r⟩:=x
  exact ⟨ho _ d,z,ne,k _ _ (.inl rfl) e,mA,⟨od,es,ep,k _ _ (.inr d) e2,c⟩,r⟩
 | own y=>obtain ⟨ob,e⟩:=x; exact ⟨ob,k _ _ (.inl rfl) e⟩
 | xd fs=>obtain ⟨mA,⟨od,es,ep,e,c⟩,r⟩:=x; exact ⟨mA,⟨od,es,ep,k _ _ (.inl rfl) e,c⟩,r⟩
 | rng lo hi=>obtain ⟨t,u,v,e⟩:=x; exact ⟨t,u,v,k _ _ (.inl rfl) e⟩
 | frz ob u ih=>obtain ⟨e,q⟩:=x; exact ⟨k _ _ (.inl rfl) e,ih q⟩
 | tbl ps =>
  have e:h.get? a=some { cls:=.none,data:=.fields ps }:=x
  show h'.get? a=some { cls:=.none,data:=.fields ps }
  exact k a _ (.inl rfl) e
 | met f y =>
  have e:h.get? a=some (PySem.W.methodObj (.ref f) (.ref y)):=x
  show h'.get? a=some (PySem.W.methodObj (.ref f) (.ref y))
  exact k a _ (.inl rfl) e
 | ext φ=>obtain ⟨p,⟨o,e⟩,st⟩:=x; exact ⟨st _ _ p λ o q=>k _ _ (.inl rfl) q,⟨o,k _ _ (.inl rfl) e⟩,st⟩
theorem HOk.lt (x:HOk P w H h) (e:H a=some o):a < h.objs.size:=(x a o e).lt
theorem HOk.fresh (x:HOk P w H h) (e:h.objs.size<=a):H a=none:=by
 cases q:H a with
 | none=>rfl
 | some u=>exact absurd (Nat.lt_of_lt_of_le (x.lt q) e) (Nat.lt_irrefl _)
theorem HOk.kept (x:HOk P w H h) (k:∀ b u,h.get? b=some u->h'.get? b=some u):HOk P w H h':=λ a o e =>
 (x a o e).stay (λ b u _ q=>k b u q) (λ _ q=>q) λ _ _ q=>q
theorem HOk.laid (x:HOk P w H h) (k:∀ b u,h.get? b=some u->h'.get? b=some u) (hp:h.objs.size<=a) (new:zbY P w (upd H a o) h' a o):HOk P w (upd H a o) h':=λ b u e=>by
 have hn:=x.fresh hp
 by_cases hb:b=a
 . subst hb; rw [zab] at e; cases e; exact new
 . rw [zaf hb] at e
   exact (x b u e).stay (λ c v _ q=>k c v q) (λ c q=>by rw [zaf (zah q hn)]; exact q) λ c xs q=>by rw [zaf (zah q hn)]; exact q
end
def Rd (H:Hp) (a:Addr) (u:HO):Prop:=H a=some u\/∃ o,H a=some (.frz o u)
theorem Rd.of {H:Hp} {a:Addr} {u:HO} (h:H a=some u):Rd H a u:=.inl h
theorem Rd.ok {P:Program} {w:World} {H:Hp} {h:Heap} {a:Addr} {u:HO} (r:Rd H a u) (x:HOk P w H h):zbY P w H h a u:=by
 rcases r with r | ⟨o,r⟩
 . exact x a u r
 . obtain ⟨_,q⟩:=x a _ r
   exact q
def Mut:Option HO->Prop
 | some (.lst _)=>True
 | some (.dK _)=>True
 | some (.dT _)=>True
 | some (.set _ _)=>True
 | some (.ins _ _ _)=>True
 | some (.ext _)=>True
 | _=>False
section
variable {P:Program} {w:World} {H:Hp} {h h':Heap} {x e:Addr} {o':HO}
theorem HOk.write (ok:HOk P w H h) (mu:Mut (H x)) (he:e=x\/H e=some (.own x)) (k:∀ b u,b≠e->h.get? b=some u->h'.get? b=some u) (heo:∃ u,h'.get? e=some u)
   (new:zbY P w (upd H x o') h' x o'):HOk P w (upd H x o') h':=λ b u q=>by
 have nown:∀ c y,H c=some (.own y)->c≠x:=λ c y r z=>by subst z; rw [r] at mu; exact mu
 have ntup:∀ c xs,H c=some (.tup xs)->c≠x:=λ c xs r z=>by subst z; rw [r] at mu; exact mu
 by_cases hb:b=x
 . subst hb; rw [zab] at q; cases q; exact new
 . rw [zaf hb] at q
   by_cases hbe:b=e
   . have q':H b=some (.own x):=by
       rcases he with z | z
       . exact absurd (hbe.trans z) hb
       . rw [hbe]; exact z
     rw [q] at q'; cases q'
     obtain ⟨v,hv⟩:=heo
     exact ⟨v,by rw [hbe]; exact hv⟩
   . refine (ok b u q).stay (λ c v hc r=>k c v ?_ r) (λ c r=>by rw [zaf (nown c b r)]; exact r) λ c xs r=>by rw [zaf (ntup c xs r)]; exact r
     rcases hc with rfl | hc
     . exact hbe
     . rintro rfl
       rcases he with z | z
       . exact nown c b hc z
       . rw [hc] at z; cases z; exact hb rfl
end
structure Un (fs ex:List Addr) (H H':Hp) (h h':Heap):Prop where
 keep:∀ b o,h.get? b=some o->H b=none->b∉fs->b∉ex->h'.get? b=some o
 slot:∀ b o,h.get? b=some o->H b=none->b∈fs->b∉ex->∃ sl,h'.get? b=some { o with slots:=sl }
 free:∀ b o,h.get? b=some o->H b=none->b∉ex->H' b=none
 there:∀ b o,h.get? b=some o->b∉ex->∃ o',h'.get? b=some o'
 tups:∀ b xs,H b=some (.tup xs)->H' b=some (.tup xs)
 frzs:∀ b o u,H b=some (.frz o u)->H' b=some (.frz o u)
 tbls:∀ b ps,H b=some (.tbl ps)->∃ more,H' b=some (.tbl (ps++more))
section
variable {fs fs' ex ex':List Addr} {H H1 H2:Hp} {h h1 h2 h':Heap} {a x e:Addr} {o:HO}
theorem Un.any (u:Un fs ex H H1 h h1) {b:Addr} {ob:Obj} (q:h.get? b=some ob) (n:H b=none) (hx:b∉ex):∃ sl,h1.get? b=some { ob with slots:=sl }:=by
 by_cases hb:b∈fs
 . exact u.slot b ob q n hb hx
 . exact ⟨ob.slots,u.keep b ob q n hb hx⟩
theorem Un.kept (k:∀ b u,h.get? b=some u->h'.get? b=some u):Un fs ex H H h h' :=
 ⟨λ b ob q _ _ _=>k b ob q,λ b ob q _ _ _=>⟨ob.slots,k b ob q⟩,λ _ _ _ n _=>n,λ b ob q _=>⟨ob,k b ob q⟩,λ _ _ q=>q,λ _ _ _ q=>q,λ _ ps q=>⟨#[],by rw [q]; simp⟩⟩
theorem Un.refl:Un fs ex H H h h:=Un.kept λ _ _ q=>q
theorem Un.laid (k:∀ b u,h.get? b=some u->h'.get? b=some u) (hp:h.objs.size<=a) (hn:H a=none):Un fs ex H (upd H a o) h h' where
 keep:=λ b u q _ _ _=>k b u q
 slot:=λ b u q _ _ _=>⟨u.slots,k b u q⟩
 free:=λ b u q n _=>by rw [zaf (Nat.ne_of_lt (Nat.lt_of_lt_of_le (Heap.lt_size q) hp))]; exact n
 there:=λ b u q _=>⟨u,k b u q⟩
 tups:=λ b xs q=>by rw [zaf (zah q hn)]; exact q
 frzs:=λ b u xs q=>by rw [zaf (zah q hn)]; exact q
 tbls:=λ b ps q=>⟨#[],by rw [zaf (zah q hn),q]; simp⟩
theorem Un.write (mu:Mut (H x)) (he:e=x\/H e=some (.own x)) (k:∀ b u,b≠e->h.get? b=some u->h'.get? b=some u) (heo:∃ u,h'.get? e=some u):Un fs ex H (upd H x o) h h':=by
 have hx:∀ b,H b=none->b≠x:=λ b n z=>by subst z; rw [n] at mu; exact mu
 have hb:∀ b,H b=none->b≠e:=λ b n z=>by
   subst z
   rcases he with r | r
   . exact hx b n r
   . rw [n] at r; cases r
 have hm:∀ b u,H b=some u->¬ Mut (some u)->b≠x:=λ b u q nm z=>by subst z; rw [q] at mu; exact nm mu
 refine ⟨λ b u q n _ _=>k b u (hb b n) q,λ b u q n _ _=>⟨u.slots,k b u (hb b n) q⟩,λ b u q n _=>by rw [zaf (hx b n)]; exact n,λ b u q _=>?_,
   λ b xs q=>by rw [zaf (hm b _ q λ z=>z)]; exact q,λ b u xs q=>by rw [zaf (hm b _ q λ z=>z)]; exact q,λ b ps q=>⟨#[],by rw [zaf (hm b _ q λ z=>z),q]; simp⟩⟩
 by_cases hbe:b=e
 . subst hbe; exact heo
 . exact ⟨u,k b u hbe q⟩
end
def trk (h:Heap) (H:Hp):List Addr:=(List.range h.objs.size).filter λ a=>(H a).isSome
def hidT (h:Heap) (H:Hp):Heap:=PySem.W.hideAll h (trk h H)
theorem zpz (h:Heap) (H:Hp):(hidT h H).objs.size=h.objs.size:=PySem.W.hideAll_size _ _
theorem zqM {h:Heap} {H:Hp} {b:Addr} {o:Obj} (e:h.get? b=some o) (n:H b=none):(hidT h H).get? b=some o :=
 PySem.W.hideAll_get _ e λ hm=>by
  have q:(H b).isSome=true:=(List.mem_filter.mp hm).2
  rw [n] at q; simp at q
theorem zr6 {h:Heap} {H:Hp} {b:Addr} {o:Obj} (e:(hidT h H).get? b=some o):h.get? b=some o/\H b=none:=by
 have e':h.get? b=some o:=PySem.W.of_hideAll (trk h H) e
 refine ⟨e',?_⟩
 cases q:H b with
 | none=>rfl
 | some x =>
  have hm:b∈trk h H:=List.mem_filter.mpr ⟨List.mem_range.mpr (Heap.lt_size e'),by simp [q]⟩
  have z:(hidT h H).get? b=none:=PySem.W.hideAll_none (trk h H) hm
  rw [z] at e; cases e
end L2
namespace L2
open PySem PySem.Spec PyProof.Rows
structure Mod (K:PySem.W.Frag) (mg:Str->Option Value) (base:Heap):Prop where
 kin:K.In base
 glob:base.Ns mainGlobals mg
 blt:∃ mb,base.Ns builtinsNs mb/\∀ x:Str,x ≠ "__name__" -> mb x=bootBuiltins x
 nolimit:base.NoLimit
structure Cx where
 prog:Program
 w:World
 K:PySem.W.Frag
 mg:Str->Option Value
 base:Heap
 A:Around
 N:List Str
 s₀:Shared
 H₀:Hp
 env:Env
 outer:List Env
 stack:List Env
 ex:List Addr
 fn:Str->Bool
 calm:Bool
 pn:List (Addr×Obj)
 xe:Value->Shared->Prop
def frs (l:List Env):List Addr:=l.filterMap (·.frame)
abbrev Cx.fs (X:Cx):List Addr:=frs X.outer
def Vis (sc:Scope) (x:Str):Prop:=sc.names.lookup x=some .local\/sc.names.lookup x=some .cell\/sc.names.lookup x=some .free
def Loc (sc:Scope) (x:Str):Prop:=sc.names.lookup x=some .local\/sc.names.lookup x=some .cell
def Look (env:Env) (h:Heap) (m:Str->Option Value) (x:Str) (u:Value):Prop :=
 (env.kindOf x=some .local/\m x=some u)\/((env.kindOf x=some .cell\/env.kindOf x=some .free)/\∃ c,env.cells.lookup x=some c/\h.IsCell c (some u))
structure Cx.Ok (X:Cx):Prop where
 mod:Mod X.K X.mg X.base
 kind:X.env.scope.kind=.function
 glob:X.env.globals=mainGlobals
 blt:X.env.builtins=builtinsNs
 above:X.s₀.heap.objs.size<=X.env.locals
 inj:∀ x y c,X.env.cells.lookup x=some c->X.env.cells.lookup y=some c->x=y
 has:∀ x,(X.env.kindOf x=some .cell\/X.env.kindOf x=some .free)->∃ c,X.env.cells.lookup x=some c
 cab:∀ x c,X.fn x=true->X.env.cells.lookup x=some c->X.s₀.heap.objs.size<=c
 hd:X.calm=true->X.A.handled=none
 frames:X.A.frames=some X.stack
 stk:X.stack=X.outer\/(X.stack=X.env::X.outer/\X.env.frame=some X.env.locals)
 exf:∀ b∈X.ex,b≠X.env.locals/\∀ x c,X.env.cells.lookup x=some c->c≠b
 bs:∀ b o,X.base.get? b=some o->X.s₀.heap.get? b=some o/\X.H₀ b=none
 bsz:X.base.objs.size<=X.s₀.heap.objs.size
 noex:∀ b o,X.base.get? b=some o->b∉X.ex
 exfs:∀ b∈X.ex,b∉X.fs
 funs:X.s₀.heap.FunFrames X.base X.outer
 frf:∀ b∈X.fs,X.H₀ b=none
structure Inv (X:Cx) (pins:List (Addr×Obj)) (σ:List (Option V)) (H:Hp) (s:Shared):Prop where
 ok:X.Ok
 os:s.os=X.s₀.os
 bare:AllBare s.gens
 base:Un X.fs X.ex X.H₀ H X.s₀.heap s.heap
 loc:∃ m,s.heap.Ns X.env.locals m/\∀ (i:Nat) (x:Str) (v:V),X.N[i]?=some x->σ[i]?=some (some v)->Vis X.env.scope x->∃ u,RelV v u/\Look X.env s.heap m x u
 cell:∀ x c,X.env.cells.lookup x=some c->∃ v,s.heap.IsCell c v
 free:H X.env.locals=none
 zdg:∀ x c,X.env.cells.lookup x=some c->H c=none
 pin:∀ p∈X.pn++pins,s.heap.get? p.1=some p.2/\H p.1=none/\p.1≠X.env.locals/\p.1∉X.fs/\∀ v,p.2.data≠.cell v
 hok:HOk X.prog X.w H s.heap
 len:σ.length=X.N.length
section
variable {X:Cx} {pins:List (Addr×Obj)} {σ:List (Option V)} {H H':Hp} {s:Shared} {h':Heap}
theorem Cx.Ok.nofr (ok:X.Ok) {b:Addr} {o:Obj} (e:X.base.get? b=some o):b∉X.fs:=λ hb=>by
 have:=(ok.funs.mem hb).1
 rw [e] at this; cases this
theorem Inv.bs (I:Inv X pins σ H s):∀ b o,X.base.get? b=some o->s.heap.get? b=some o/\H b=none:=λ b o e =>
 ⟨I.base.keep b o (I.ok.bs b o e).1 (I.ok.bs b o e).2 (I.ok.nofr e) (I.ok.noex b o e),I.base.free b o (I.ok.bs b o e).1 (I.ok.bs b o e).2 (I.ok.noex b o e)⟩
theorem Inv.bk (I:Inv X pins σ H s):∀ b o,X.base.get? b=some o->s.heap.get? b=some o:=λ b o e=>(I.bs b o e).1
theorem Inv.mod (I:Inv X pins σ H s):Mod X.K X.mg X.base:=I.ok.mod
theorem Inv.kIn (I:Inv X pins σ H s):X.K.In s.heap:=I.ok.mod.kin.keeps I.bk
theorem Inv.fr (I:Inv X pins σ H s):∃ m,Fr X.base X.env.locals s.heap m :=
 let ⟨m,hn,_⟩:=I.loc
 ⟨m,hn,I.bk,Nat.le_trans I.ok.bsz I.ok.above⟩
theorem Inv.lt (I:Inv X pins σ H s):X.env.locals < s.heap.objs.size:=let ⟨_,hn,_⟩:=I.loc; hn.lt
theorem Inv.sz (I:Inv X pins σ H s):X.s₀.heap.objs.size<=s.heap.objs.size:=Nat.le_trans I.ok.above (Nat.le_of_lt I.lt)
theorem Inv.nofs (I:Inv X pins σ H s) {a:Addr} (h:s.heap.objs.size<=a):a∉X.fs:=λ hb=>by
 obtain ⟨_,o,ho,_⟩:=I.ok.funs.mem hb
 exact absurd (Nat.lt_of_lt_of_le (Heap.lt_size ho) (Nat.le_trans I.sz h)) (Nat.lt_irrefl _)
theorem Inv.cne (I:Inv X pins σ H s):∀ x c,X.env.cells.lookup x=some c->c≠X.env.locals:=λ x c e z=>by
 obtain ⟨v,o,ho,hd⟩:=I.cell x c e
 obtain ⟨m,⟨o',es,ep,ho',hd',_⟩,_⟩:=I.loc
 rw [z,ho'] at ho; cases ho; rw [hd'] at hd; cases hd
theorem Inv.funs (I:Inv X pins σ H s):s.heap.FunFrames X.base X.outer:=by
 have all:∀ (l:List Env),(∀ b∈frs l,b∈X.fs)->X.s₀.heap.FunFrames X.base l->s.heap.FunFrames X.base l:=by
  intro l
  induction l with
  | nil=>intro _ _; trivial
  | cons env r ih =>
   intro hs hl
   obtain ⟨hk,⟨L,o,hf,hn,ho,hd⟩,hr⟩:=hl
   have hL:L∈X.fs:=hs L (by unfold frs; rw [List.filterMap_cons,hf]; exact List.mem_cons_self)
   obtain ⟨sl,e⟩:=I.base.slot L o ho (I.ok.frf L hL) hL λ z=>I.ok.exfs L z hL
   exact ⟨hk,⟨L,_,hf,hn,e,hd⟩,ih (λ b hb=>hs b (by unfold frs; rw [List.filterMap_cons,hf]; exact List.mem_cons_of_mem _ hb)) hr⟩
 exact all X.outer (λ _ hb=>hb) I.ok.funs
theorem Inv.stack (I:Inv X pins σ H s):s.heap.FunFrames X.base X.stack:=by
 rcases I.ok.stk with e | ⟨e,hf⟩
 . rw [e]; exact I.funs
 . rw [e]
   obtain ⟨m,hn,_⟩:=I.loc
   refine .cons (by rw [I.ok.kind]; decide) hf hn ?_ I.funs
   exact Heap.get?_none_of_le (Nat.le_trans I.ok.bsz I.ok.above)
theorem Inv.zmW (I:Inv X pins σ H s):∀ b∈frs X.stack,b∈X.env.locals::X.fs:=λ b hb=>by
 rcases I.ok.stk with e | ⟨e,hf⟩
 . rw [e] at hb; exact List.mem_cons_of_mem _ hb
 . rw [e] at hb
   unfold frs at hb
   rw [List.filterMap_cons,hf] at hb
   exact hb
theorem Inv.zf0 (I:Inv X pins σ H s):∀ b∈frs X.stack,H b=none:=λ b hb=>by
 rcases List.mem_cons.mp (I.zmW b hb) with e | hb
 . rw [e]; exact I.free
 . obtain ⟨_,o,ho,_⟩:=I.ok.funs.mem hb
   exact I.base.free b o ho (I.ok.frf b hb) λ z=>I.ok.exfs b z hb
theorem Inv.step {g':Array GenState} {t':Nat} {d':Drawn} {ch:List Addr} (I:Inv X pins σ H s)
   (hch:∀ b∈ch,(b∈X.ex\/X.s₀.heap.objs.size<=b)/\b≠X.env.locals/\(∀ x c,X.env.cells.lookup x=some c->c≠b)/\∀ p∈X.pn++pins,p.1≠b)
   (keep:∀ b o,b≠X.env.locals->b∉X.fs->b∉ch->s.heap.get? b=some o->H b=none->h'.get? b=some o)
   (slot:∀ b o,b≠X.env.locals->b∈X.fs->b∉ch->s.heap.get? b=some o->H b=none->∃ sl,h'.get? b=some { o with slots:=sl }) (free:∀ b o,b∉ch->s.heap.get? b=some o->H b=none->H' b=none)
   (there:∀ b o,b∉ch->s.heap.get? b=some o->∃ o',h'.get? b=some o')
   (tups:∀ b xs,H b=some (.tup xs)->H' b=some (.tup xs)) (frzs:∀ b o u,H b=some (.frz o u)->H' b=some (.frz o u)) (tbls:∀ b ps,H b=some (.tbl ps)->∃ more,H' b=some (.tbl (ps++more)))
   (ns:∀ m,s.heap.Ns X.env.locals m->h'.Ns X.env.locals m) (hok:HOk X.prog X.w H' h') (hg:AllBare g') :
   Inv X pins σ H' { s with heap:=h',gens:=g',drawn:=d',toks:=t' }:=by
 have neL:∀ b o,X.s₀.heap.get? b=some o->b≠X.env.locals:=λ b o e=>Nat.ne_of_lt (Nat.lt_of_lt_of_le (Heap.lt_size e) I.ok.above)
 have neC:∀ b o,X.s₀.heap.get? b=some o->b∉X.ex->b∉ch:=λ b o e hx hb=>by
   rcases (hch b hb).1 with z | z
   . exact hx z
   . exact absurd (Nat.lt_of_lt_of_le (Heap.lt_size e) z) (Nat.lt_irrefl _)
 have cellK:∀ x c,X.env.cells.lookup x=some c->∀ v,s.heap.IsCell c v->h'.IsCell c v:=λ x c e v ⟨o,ho,hd⟩=>by
   have nch:c∉ch:=λ z=>(hch c z).2.2.1 x c e rfl
   by_cases hc:c∈X.fs
   . obtain ⟨sl,q⟩:=slot c o (I.cne x c e) hc nch ho (I.zdg x c e)
     exact ⟨_,q,hd⟩
   . exact ⟨o,keep c o (I.cne x c e) hc nch ho (I.zdg x c e),hd⟩
 refine ⟨I.ok,I.os,hg,⟨λ b o e n hb hx=>?_,λ b o e n hb hx=>?_,λ b o e n hx=>?_,λ b o e hx=>?_,λ b xs e=>tups b xs (I.base.tups b xs e),λ b o xs e=>frzs b o xs (I.base.frzs b o xs e),λ b ps e=>?_⟩,?_,λ x c e=>?_,?_,λ x c e=>?_,λ p hp=>?_,hok,I.len⟩
 . exact keep b o (neL b o e) hb (neC b o e hx) (I.base.keep b o e n hb hx) (I.base.free b o e n hx)
 . obtain ⟨sl,e1⟩:=I.base.slot b o e n hb hx
   obtain ⟨sl',e2⟩:=slot b _ (neL b o e) hb (neC b o e hx) e1 (I.base.free b o e n hx)
   exact ⟨sl',e2⟩
 . obtain ⟨o',e1⟩:=I.base.there b o e hx
   exact free b o' (neC b o e hx) e1 (I.base.free b o e n hx)
 . obtain ⟨o',e1⟩:=I.base.there b o e hx
   exact there b o' (neC b o e hx) e1
 . obtain ⟨m1,e1⟩:=I.base.tbls b ps e
   obtain ⟨m2,e2⟩:=tbls b _ e1
   exact ⟨m1++m2,by rw [e2,Array.append_assoc]⟩
 . obtain ⟨m,hn,hl⟩:=I.loc
   refine ⟨m,ns m hn,λ i x v e1 e2 e3=>?_⟩
   obtain ⟨u,r,l⟩:=hl i x v e1 e2 e3
   refine ⟨u,r,?_⟩
   rcases l with l | ⟨k,c,e,z⟩
   . exact .inl l
   . exact .inr ⟨k,c,e,cellK x c e _ z⟩
 . obtain ⟨v,z⟩:=I.cell x c e
   exact ⟨v,cellK x c e v z⟩
 . obtain ⟨m,⟨o,_,_,ho,_⟩,_⟩:=I.loc
   exact free _ o (λ z=>(hch _ z).2.1 rfl) ho I.free
 . obtain ⟨v,o,ho,hd⟩:=I.cell x c e
   exact free c o (λ z=>(hch c z).2.2.1 x c e rfl) ho (I.zdg x c e)
 . obtain ⟨e,n,ne,nf,d⟩:=I.pin p hp
   have nch:p.1∉ch:=λ z=>(hch p.1 z).2.2.2 p hp rfl
   exact ⟨keep p.1 p.2 ne nf nch e n,free p.1 p.2 nch e n,ne,nf,d⟩
theorem Inv.un {t':Nat} (I:Inv X pins σ H s) (u:Un X.fs [] H H' s.heap h') (hok:HOk X.prog X.w H' h'):Inv X pins σ H' { s with heap:=h',toks:=t' }:=by
 obtain ⟨m,⟨o,es,ep,ho,r⟩,_⟩:=id I.loc
 obtain ⟨sl,hL⟩:=u.any ho I.free (by simp)
 exact I.step (g':=s.gens) (d':=s.drawn) (ch:=[]) (λ _ z=>nomatch z) (λ b o _ hb _ e n=>u.keep b o e n hb (by simp)) (λ b o _ hb _ e n=>u.slot b o e n hb (by simp)) (λ b o _ e n=>u.free b o e n (by simp)) (λ b o _ e=>u.there b o e (by simp)) u.tups u.frzs u.tbls (λ m' hm=>by
  obtain ⟨o',es',ep',ho',r'⟩:=hm
  rw [ho] at ho'; cases ho'
  exact ⟨_,es',ep',hL,r'⟩) hok I.bare
theorem Inv.call {g':Array GenState} {t':Nat} {d':Drawn} {ch:List Addr} (I:Inv X pins σ H s) (u:Un (frs X.stack) ch H H' s.heap h') (hok:HOk X.prog X.w H' h') (hg:AllBare g')
  (hch:∀ b∈ch,(b∈X.ex\/X.s₀.heap.objs.size<=b)/\b≠X.env.locals/\(∀ x c,X.env.cells.lookup x=some c->c≠b)/\∀ p∈X.pn++pins,p.1≠b) :
  Inv X pins σ H' { s with heap:=h',gens:=g',drawn:=d',toks:=t' }:=by
 obtain ⟨m,⟨o,es,ep,ho,r⟩,_⟩:=id I.loc
 obtain ⟨sl,hL⟩:=u.any ho I.free λ z=>(hch _ z).2.1 rfl
 exact I.step (ch:=ch) hch (λ b o hL hb hc e n=>u.keep b o e n (λ z=>(List.mem_cons.mp (I.zmW b z)).elim hL hb) hc) (λ b o _ _ hc e n=>u.any e n hc) (λ b o hc e n=>u.free b o e n hc) (λ b o hc e=>u.there b o e hc) u.tups u.frzs u.tbls (λ m' hm=>by
  obtain ⟨o',es',ep',ho',r'⟩:=hm
  rw [ho] at ho'; cases ho'
  exact ⟨_,es',ep',hL,r'⟩) hok hg
theorem Inv.turned {t':Nat} {it:Addr} (I:Inv X pins σ H s) (k:∀ b o,b≠it->s.heap.get? b=some o->h'.get? b=some o) (hn:H it=none) (hL:it≠X.env.locals)
   (h1:it∈X.ex\/X.s₀.heap.objs.size<=it) (h2:∀ x c,X.env.cells.lookup x=some c->c≠it) (h3:∀ p∈X.pn++pins,p.1≠it):Inv X pins σ H { s with heap:=h',toks:=t' }:=by
 have nit:∀ b u,H b=some u->b≠it:=λ b u e z=>by rw [z,hn] at e; cases e
 refine I.step (g':=s.gens) (d':=s.drawn) (ch:=[it]) (λ b hb=>?_) (λ b o _ _ hc e _=>k b o (λ z=>hc (by simp [z])) e) (λ b o _ _ hc e _=>⟨o.slots,k b o (λ z=>hc (by simp [z])) e⟩) (λ _ _ _ _ n=>n)
   (λ b o hc e=>⟨o,k b o (λ z=>hc (by simp [z])) e⟩) (λ _ _ e=>e) (λ _ _ _ e=>e) (λ b ps e=>⟨#[],by rw [e]; simp⟩) (λ m hm=>?_) (λ b u e=>?_) I.bare
 . have e:b=it:=by simpa using hb
   subst e
   exact ⟨h1,hL,h2,h3⟩
 . obtain ⟨o,es,ep,ho,r⟩:=hm
   exact ⟨o,es,ep,k _ o (Ne.symm hL) ho,r⟩
 . refine (I.hok b u e).stay (λ c v hc q=>k c v ?_ q) (λ _ q=>q) λ _ _ q=>q
   rcases hc with z | z
   . rw [z]; exact nit b u e
   . exact nit c _ z
theorem Inv.tok (I:Inv X pins σ H s) (t:Nat):Inv X pins σ H { s with toks:=t }:=I.un (h':=s.heap) (t':=t) Un.refl I.hok
theorem Inv.kept {t':Nat} (I:Inv X pins σ H s) (k:∀ b u,s.heap.get? b=some u->h'.get? b=some u):Inv X pins σ H { s with heap:=h',toks:=t' }:=I.un (Un.kept k) (I.hok.kept k)
theorem Inv.laid {a:Addr} {o:HO} {t':Nat} (I:Inv X pins σ H s) (k:∀ b u,s.heap.get? b=some u->h'.get? b=some u) (hp:s.heap.objs.size<=a) (new:zbY X.prog X.w (upd H a o) h' a o) :
 Inv X pins σ (upd H a o) { s with heap:=h',toks:=t' }:=I.un (Un.laid k hp (I.hok.fresh hp)) (I.hok.laid k hp new)
theorem Inv.write {x e:Addr} {o:HO} {t':Nat} (I:Inv X pins σ H s) (mu:Mut (H x)) (he:e=x\/H e=some (.own x)) (k:∀ b u,b≠e->s.heap.get? b=some u->h'.get? b=some u) (heo:∃ u,h'.get? e=some u)
 (new:zbY X.prog X.w (upd H x o) h' x o):Inv X pins σ (upd H x o) { s with heap:=h',toks:=t' }:=I.un (Un.write mu he k heo) (I.hok.write mu he k heo new)
theorem Inv.weak {σ':List (Option V)} (I:Inv X pins σ H s) (hl:σ'.length=σ.length) (w:∀ (i:Nat) v,σ'[i]?=some (some v)->σ[i]?=some (some v)):Inv X pins σ' H s :=
 ⟨I.ok,I.os,I.bare,I.base,let ⟨m,hn,hl'⟩:=I.loc; ⟨m,hn,λ i x v e1 e2 e3=>hl' i x v e1 (w i v e2) e3⟩,I.cell,I.free,I.zdg,I.pin,I.hok,hl.trans I.len⟩
theorem Inv.zhA {pins':List (Addr×Obj)} (I:Inv X pins σ H s) (h:∀ p∈pins',s.heap.get? p.1=some p.2/\H p.1=none/\p.1≠X.env.locals/\p.1∉X.fs/\∀ v,p.2.data≠.cell v):Inv X pins' σ H s :=
 ⟨I.ok,I.os,I.bare,I.base,I.loc,I.cell,I.free,I.zdg,λ p hp=>(List.mem_append.mp hp).elim (λ z=>I.pin p (List.mem_append_left _ z)) (h p),I.hok,I.len⟩
theorem zjP {N:List Str} (hN:N.Nodup) {i j:Nat} {x:Str} (a:N[i]?=some x) (b:N[j]?=some x):i=j:=by
 obtain ⟨h1,e1⟩:=List.getElem?_eq_some_iff.mp a
 obtain ⟨h2,e2⟩:=List.getElem?_eq_some_iff.mp b
 exact (List.getElem_inj hN).mp (e1.trans e2.symm)
theorem zko {M:Model} {A:Around} {E:Value->Shared->Prop} {i:Nat} {x:Str} {v:V} {u:Value} {Q:Unit->Shared->Prop} (I:Inv X pins σ H s) (hN:X.N.Nodup) (hi:X.N[i]?=some x) (hx:Loc X.env.scope x) (r:RelV v u)
   (h:∀ s',Inv X pins (σ.set i (some v)) H s'->(∃ a,Heap.SameBut a s.heap s'.heap/\(a=X.env.locals\/X.env.cells.lookup x=some a))->Q () s') (hf:X.fn x=true\/X.env.scope.names.lookup x=some .local:=by first | exact .inl rfl | exact .inr rfl | assumption):wpAny M A (storeName X.env x u) Q E s:=by
 obtain ⟨m,hn,hl⟩:=id I.loc
 have hcls:(X.env.scope.kind == .class || (X.env.scope.kind == .module && X.env.locals != X.env.globals))=false:=by rw [I.ok.kind]; rfl
 have hiσ:i < σ.length:=by rw [I.len]; exact (List.getElem?_eq_some_iff.mp hi).1
 have cne:=I.cne
 have tracked:∀ {a:Addr} {h':Heap},(∃ o,s.heap.get? a=some o/\H a=none)->Heap.SameBut a s.heap h'->HOk X.prog X.w H h':=λ {a h'} ha hs b ob e=>by
   obtain ⟨_,_,hfree⟩:=ha
   refine (I.hok b ob e).stay (λ c w' hc q=>(hs.2 c ?_).trans q) (λ _ q=>q) λ _ _ q=>q
   rintro rfl
   rcases hc with rfl | hc
   . rw [hfree] at e; cases e
   . rw [hfree] at hc; cases hc
 rcases hx with hk | hk
 . refine wpAny_storeName_local hk hn (λ h' hn' hs=>?_) hcls
   obtain ⟨oL,_,_,hoL,_⟩:=id hn
   refine h _ ⟨I.ok,I.os,I.bare,⟨λ b o e n hb hx=>?_,λ b o e n hb hx=>?_,I.base.free,λ b o e hx=>?_,I.base.tups,I.base.frzs,I.base.tbls⟩,⟨_,hn',λ j y v' e1 e2 e3=>?_⟩,λ y c e=>?_,I.free,I.zdg,λ p hp=>?_,tracked ⟨oL,hoL,I.free⟩ hs,by simpa using I.len⟩ ⟨_,hs,.inl rfl⟩
   . exact (hs.2 b (Nat.ne_of_lt (Nat.lt_of_lt_of_le (Heap.lt_size e) I.ok.above))).trans (I.base.keep b o e n hb hx)
   . obtain ⟨sl,e1⟩:=I.base.slot b o e n hb hx
     exact ⟨sl,(hs.2 b (Nat.ne_of_lt (Nat.lt_of_lt_of_le (Heap.lt_size e) I.ok.above))).trans e1⟩
   . obtain ⟨o',e1⟩:=I.base.there b o e hx
     exact ⟨o',(hs.2 b (Nat.ne_of_lt (Nat.lt_of_lt_of_le (Heap.lt_size e) I.ok.above))).trans e1⟩
   . by_cases hj:j=i
     . subst hj
       rw [hi] at e1; cases e1
       rw [List.getElem?_set_self hiσ] at e2
       cases e2
       exact ⟨u,r,.inl ⟨hk,by simp⟩⟩
     . rw [List.getElem?_set_ne (Ne.symm hj)] at e2
       obtain ⟨u',r',q⟩:=hl j y v' e1 e2 e3
       refine ⟨u',r',?_⟩
       rcases q with ⟨k,e⟩ | ⟨k,c,e,z⟩
       . refine .inl ⟨k,?_⟩
         have:y≠x:=λ e=>hj (zjP hN e1 (e ▸ hi))
         simp [this,e]
       . exact .inr ⟨k,c,e,z.sameBut hs (cne y c e)⟩
   . obtain ⟨w',z⟩:=I.cell y c e
     exact ⟨w',z.sameBut hs (cne y c e)⟩
   . obtain ⟨e,n,ne,nf,d⟩:=I.pin p hp
     exact ⟨(hs.2 p.1 ne).trans e,n,ne,nf,d⟩
 . have hfn:X.fn x=true:=by
     rcases hf with z | z
     . exact z
     . rw [z] at hk; cases hk
   obtain ⟨c,hc⟩:=I.ok.has x (.inl hk)
   obtain ⟨w',z⟩:=I.cell x c hc
   refine wpAny_storeName_cell I.ok.kind hk hc z (λ h' hc' hs=>?_)
   obtain ⟨oc,hoc,hocd⟩:=id z
   refine h { s with heap:=h' } ⟨I.ok,I.os,I.bare,⟨λ b o e n hb hx=>?_,λ b o e n hb hx=>?_,I.base.free,λ b o e hx=>?_,I.base.tups,I.base.frzs,I.base.tbls⟩,⟨m,hn.sameBut hs (Ne.symm (cne x c hc)),λ j y v' e1 e2 e3=>?_⟩,λ y c' e=>?_,I.free,I.zdg,λ p hp=>?_,tracked ⟨oc,hoc,I.zdg x c hc⟩ hs,by simpa using I.len⟩ ⟨c,hs,.inr hc⟩
   . exact (hs.2 b (Nat.ne_of_lt (Nat.lt_of_lt_of_le (Heap.lt_size e) (I.ok.cab x c hfn hc)))).trans (I.base.keep b o e n hb hx)
   . obtain ⟨sl,e1⟩:=I.base.slot b o e n hb hx
     exact ⟨sl,(hs.2 b (Nat.ne_of_lt (Nat.lt_of_lt_of_le (Heap.lt_size e) (I.ok.cab x c hfn hc)))).trans e1⟩
   . obtain ⟨o',e1⟩:=I.base.there b o e hx
     exact ⟨o',(hs.2 b (Nat.ne_of_lt (Nat.lt_of_lt_of_le (Heap.lt_size e) (I.ok.cab x c hfn hc)))).trans e1⟩
   . by_cases hj:j=i
     . subst hj
       rw [hi] at e1; cases e1
       rw [List.getElem?_set_self hiσ] at e2
       cases e2
       exact ⟨u,r,.inr ⟨.inl hk,c,hc,hc'⟩⟩
     . rw [List.getElem?_set_ne (Ne.symm hj)] at e2
       obtain ⟨u',r',q⟩:=hl j y v' e1 e2 e3
       refine ⟨u',r',?_⟩
       rcases q with q | ⟨k,c',e,z'⟩
       . exact .inl q
       . refine .inr ⟨k,c',e,z'.sameBut hs ?_⟩
         rintro rfl
         exact hj (zjP hN e1 (I.ok.inj _ _ _ e hc ▸ hi))
   . by_cases hcc:c'=c
     . subst hcc; exact ⟨_,hc'⟩
     . obtain ⟨w2,z2⟩:=I.cell y c' e
       exact ⟨w2,z2.sameBut hs hcc⟩
   . obtain ⟨e,n,ne,nf,d⟩:=I.pin p hp
     refine ⟨(hs.2 p.1 ?_).trans e,n,ne,nf,d⟩
     intro q
     rw [q,hoc] at e
     have q':oc=p.2:=Option.some.inj e
     exact d w' (by rw [<-q']; exact hocd)
theorem zjm {M:Model} {A:Around} {E:Value->Shared->Prop} {i:Nat} {x:Str} {v:V} {u:Value} {Q:Unit->Shared->Prop} (I:Inv X pins σ H s) (hN:X.N.Nodup) (hi:X.N[i]?=some x) (hx:Loc X.env.scope x) (r:RelV v u)
  (h:∀ s',Inv X pins (σ.set i (some v)) H s'->Q () s') (hf:X.fn x=true\/X.env.scope.names.lookup x=some .local:=by first | exact .inl rfl | exact .inr rfl | assumption):wpAny M A (storeName X.env x u) Q E s :=
 zko I hN hi hx r (λ s' I' _=>h s' I') hf
theorem Inv.zq1 {s':Shared} {ch:List Addr} (I:Inv X pins σ H s) (ho:s'.os=s.os) (u:Un (frs X.stack) ch H H' s.heap s'.heap) (hok:HOk X.prog X.w H' s'.heap) (hg:AllBare s'.gens)
  (hch:∀ b∈ch,(b∈X.ex\/X.s₀.heap.objs.size<=b)/\b≠X.env.locals/\(∀ x c,X.env.cells.lookup x=some c->c≠b)/\∀ p∈X.pn++pins,p.1≠b):Inv X pins σ H' s':=by
 obtain ⟨h',g',d',t',o'⟩:=s'
 have e:o'=s.os:=ho
 subst e
 exact I.call (g':=g') (t':=t') (d':=d') u hok hg hch
end
abbrev XK:=Value->Option Addr->Hp->Prop
abbrev St:=List (Option V)
abbrev VK:=V->Hp->Prop
abbrev TE:=St->Hp->VK->Prop
abbrev TT:=St->Hp->(Bool->Hp->Prop)->Prop
abbrev TA:=St->Hp->(List V->Hp->Prop)->Prop
structure Ends where
 nx:St->Hp->Prop
 rt:VK
 bk:St->Hp->Prop:=λ _ _=>False
 ct:St->Hp->Prop:=λ _ _=>False
abbrev TS:=Ends->St->Hp->Prop
def EP (X:Cx) (pins:List (Addr×Obj)) (σ:St) (Q:VK) (u:Value) (s':Shared):Prop:=∃ v H',Inv X pins σ H' s'/\RelV v u/\Q v H'
def TP (X:Cx) (pins:List (Addr×Obj)) (σ:St) (Q:Bool->Hp->Prop) (b:Bool) (s':Shared):Prop:=∃ H',Inv X pins σ H' s'/\Q b H'
def AP (X:Cx) (pins:List (Addr×Obj)) (σ:St) (Q:List V->Hp->Prop) (us:List Value) (s':Shared):Prop:=∃ vs H',Inv X pins σ H' s'/\Vals vs us/\Q vs H'
def SP (X:Cx) (pins:List (Addr×Obj)) (D:Ends) (f:Flow) (s':Shared):Prop :=
 match f with
 | .next=>∃ σ' H',Inv X pins σ' H' s'/\D.nx σ' H'
 | .brk=>∃ σ' H',Inv X pins σ' H' s'/\D.bk σ' H'
 | .cont=>∃ σ' H',Inv X pins σ' H' s'/\D.ct σ' H'
 | .ret u=>∃ v σ' H',Inv X pins σ' H' s'/\RelV v u/\D.rt v H'
def PE (X:Cx) (e:Expr) (t:TE):Prop :=
 ∀ (pins:List (Addr×Obj)) (s:Shared) (σ:St) (H:Hp) (Q:VK),Inv X pins σ H s->t σ H Q->wpAny (model X.prog X.w) X.A (eval e X.env) (EP X pins σ Q) X.xe s
def PT (X:Cx) (e:Expr) (t:TT):Prop :=
 ∀ (pins:List (Addr×Obj)) (s:Shared) (σ:St) (H:Hp) (Q:Bool->Hp->Prop),Inv X pins σ H s->t σ H Q->wpAny (model X.prog X.w) X.A (isTrue e X.env (eval e X.env)) (TP X pins σ Q) X.xe s
def PW (X:Cx) (e:Expr) (t:TT):Prop :=
 ∀ (whole:Sem Value) (pins:List (Addr×Obj)) (s:Shared) (σ:St) (H:Hp) (Q:Bool->Hp->Prop),Inv X pins σ H s->t σ H Q->wpAny (model X.prog X.w) X.A (isTrue e X.env whole) (TP X pins σ Q) X.xe s
theorem PW.pt {X:Cx} {e:Expr} {t:TT} (h:PW X e t):PT X e t:=h _
def PA (X:Cx) (es:List Expr) (t:TA):Prop :=
 ∀ (pos:Pos) (pins:List (Addr×Obj)) (s:Shared) (σ:St) (H:Hp) (Q:List V->Hp->Prop),Inv X pins σ H s->t σ H Q->wpAny (model X.prog X.w) X.A (spliced (backTo pos (starEach es X.env))) (AP X pins σ Q) X.xe s
def PS (X:Cx) (st:Stmt) (t:TS):Prop :=
 ∀ (pins:List (Addr×Obj)) (s:Shared) (σ:St) (H:Hp) (D:Ends),Inv X pins σ H s->t D σ H->wpAny (model X.prog X.w) X.A (exec st X.env) (SP X pins D) X.xe s
def PSs (X:Cx) (st:List Stmt) (t:TS):Prop :=
 ∀ (pins:List (Addr×Obj)) (s:Shared) (σ:St) (H:Hp) (D:Ends),Inv X pins σ H s->t D σ H->wpAny (model X.prog X.w) X.A (execs st X.env) (SP X pins D) X.xe s
theorem thn {α:Type} {t:Sem α} {Q Q':α->Shared->Prop} {M:Model} {A:Around} {E:Value->Shared->Prop} {s:Shared} (h:wpAny M A t Q E s) (hQ:∀ a s,Q a s->Q' a s):wpAny M A t Q' E s:=wpAny_mono h hQ λ _ _ x=>x
end L2
namespace L2
open PySem PySem.Spec PyProof.Rows
section
variable {X:Cx}
theorem bin {a b:Expr} {ta tb:TE} (ha:PE X a ta) (hb:PE X b tb) {pins:List (Addr×Obj)} {s:Shared} {σ:St} {H:Hp} {R:V->V->Hp->Prop} (I:Inv X pins σ H s) (h:ta σ H λ x H1=>tb σ H1 λ y H2=>R x y H2)
  {α:Type} {Q:α->Shared->Prop} {f:Value->Value->Sem α}
  (hf:∀ v u s2 x y H2,Inv X pins σ H2 s2->RelV x v->RelV y u->R x y H2->wpAny (model X.prog X.w) X.A (f v u) Q X.xe s2) :
  wpAny (model X.prog X.w) X.A (eval a X.env) (λ v s₁=>wpAny (model X.prog X.w) X.A (eval b X.env) (λ u s₂=>wpAny (model X.prog X.w) X.A (f v u) Q X.xe s₂) X.xe s₁) X.xe s:=by
 refine thn (ha pins s σ H _ I h) λ v s1 ⟨x,H1,I1,r1,q1⟩=>?_
 refine thn (hb pins s1 σ H1 _ I1 q1) λ u s2 ⟨y,H2,I2,r2,q2⟩=>?_
 exact hf v u s2 x y H2 I2 r1 r2 q2
def tVar (i:Nat):TE:=λ σ H Q=>∃ v,σ[i]?=some (some v)/\Q v H
def tC (v:V):TE:=λ _ H Q=>Q v H
theorem zte {i:Nat} {x:Str} {pos:Pos} (hN:X.N[i]?=some x) (hv:Vis X.env.scope x) (hd:(x == ("__debug__" : Str))=false:=by decide) (hcd:(x == ("__classdict__" : Str))=false:=by decide):PE X (.Name x pos) (tVar i):=by
 intro pins s σ H Q I h
 obtain ⟨v,e,h⟩:=h
 obtain ⟨m,hn,hl⟩:=I.loc
 obtain ⟨u,r,l⟩:=hl i x v hN e hv
 have fin:EP X pins σ Q u s:=⟨v,H,I,r,h⟩
 rcases l with ⟨hk,hm⟩ | ⟨hk,c,hc,hcell⟩
 . exact wpAny_Name (wpAny_loadName_local I.ok.kind hk hn hm fin) hd
 . rcases hk with hk | hk
   . exact wpAny_Name (wpAny_loadName_cell I.ok.kind hk hc hcell fin) hd
   . exact wpAny_Name (wpAny_loadName_free I.ok.kind hk hc hcell fin hcd) hd
theorem zal {i j pos}:PE X (.Constant (.int i) j pos) (tC (.int i)):=λ _ _ _ H _ I h=>wpAny_Constant_int ⟨.int i,H,I.tok _,⟨_,rfl⟩,h⟩
theorem zix {b j pos}:PE X (.Constant (.bool b) j pos) (tC (.bl b)):=λ _ _ _ H _ I h=>Constant_bool ⟨.bl b,H,I,rfl,h⟩
theorem zfD {j pos}:PE X (.Constant .none j pos) (tC .non):=λ _ _ _ H _ I h=>Constant_none ⟨.non,H,I,rfl,h⟩
theorem zaV {x j pos}:PE X (.Constant (.str x) j pos) (tC (.str x)):=λ _ _ _ H _ I h=>Calls.Constant_str ⟨.str x,H,I.tok _,⟨_,rfl⟩,h⟩
def Gl (X:Cx) (x:Str):Prop:=X.env.kindOf x=some .globalImplicit
theorem zfi {E:Value->Shared->Prop} {pins:List (Addr×Obj)} {s:Shared} {σ:St} {H:Hp} {x:Str} {u:Value} {pos:Pos} {Q:Value->Shared->Prop} (I:Inv X pins σ H s) (hg:Gl X x) (hm:X.mg x=some u) (h:Q u s)
  (hd:(x == ("__debug__" : Str))=false:=by decide):wpAny (model X.prog X.w) X.A (eval (.Name x pos) X.env) Q E s :=
 Calls.Name_function_global I.ok.kind hg (Calls.loadGlobal_global (by rw [I.ok.glob]; exact I.mod.glob.keeps I.bk) hm h) hd
theorem znf {E:Value->Shared->Prop} {pins:List (Addr×Obj)} {s:Shared} {σ:St} {H:Hp} {x:Str} {u:Value} {pos:Pos} {Q:Value->Shared->Prop} (I:Inv X pins σ H s) (hg:Gl X x) (hm:X.mg x=none) (hv:bootBuiltins x=some u) (h:Q u s)
  (hn:x ≠ "__name__" := by decide) (hd:(x == ("__debug__" : Str))=false:=by decide):wpAny (model X.prog X.w) X.A (eval (.Name x pos) X.env) Q E s:=by
 obtain ⟨mb,h1,h2⟩:=I.mod.blt
 exact Calls.Name_function_global I.ok.kind hg (Calls.loadGlobal_builtin (by rw [I.ok.glob]; exact I.mod.glob.keeps I.bk) hm (by rw [I.ok.blt]; exact h1.keeps I.bk) ((h2 x hn).trans hv) h) hd
theorem zjE {x:Str} {v:V} {u:Value} {pos:Pos} (hg:Gl X x) (hm:X.mg x=some u) (r:RelV v u) (hd:(x == ("__debug__" : Str))=false:=by decide):PE X (.Name x pos) (tC v) :=
 λ _ _ _ H _ I h=>zfi I hg hm ⟨v,H,I,r,h⟩ hd
theorem zr1 {x:Str} {v:V} {u:Value} {pos:Pos} (hg:Gl X x) (hm:X.mg x=none) (hv:bootBuiltins x=some u) (r:RelV v u) (hn:x ≠ "__name__" := by decide) (hd:(x == ("__debug__" : Str))=false:=by decide):PE X (.Name x pos) (tC v) :=
 λ _ _ _ H _ I h=>znf I hg hm hv ⟨v,H,I,r,h⟩ hn hd
variable {a b:Expr} {ta tb:TE} {pos:Pos}
def PC (X:Cx) (op:CmpOp) (a b:Expr) (t:TE):Prop :=
 ∀ (pins:List (Addr×Obj)) (s:Shared) (σ:St) (H:Hp) (Q:VK),Inv X pins σ H s->t σ H Q ->
  wpAny (model X.prog X.w) X.A (eval a X.env) (λ v s₁=>wpAny (model X.prog X.w) X.A (eval b X.env) (λ u s₂=>wpAny (model X.prog X.w) X.A (compareOp op v u) (EP X pins σ Q) X.xe s₂) X.xe s₁) X.xe s
theorem zna (b:Expr) {op:CmpOp} (h:op≠.In) (h2:op≠.NotIn):behindInMarks op b=false:=by
 have e1:(op == CmpOp.In)=false:=by cases op <;> first | rfl | exact absurd rfl h
 have e2:(op == CmpOp.NotIn)=false:=by cases op <;> first | rfl | exact absurd rfl h2
 cases b <;> simp [behindInMarks,e1,e2]
def tIsN (ta:TE):TE:=λ σ H Q=>ta σ H λ x H1=>Q (.bl (decide (x=.non))) H1
def ztS (ta:TE):TE:=λ σ H Q=>ta σ H λ x H1=>Q (.bl (!decide (x=.non))) H1
theorem RelV.zm9 {x:V} {v:Value} (r:RelV x v):(v == Value.none)=decide (x=.non):=by
 cases x with
 | non=>cases r; rfl
 | bl _=>cases r; rfl
 | int _=>obtain ⟨t,rfl⟩:=r; rfl
 | str _=>obtain ⟨t,rfl⟩:=r; rfl
 | byt _=>obtain ⟨t,rfl⟩:=r; rfl
 | flt _=>obtain ⟨t,rfl⟩:=r; rfl
 | ref _=>cases r; rfl
 | ty _=>cases r; rfl
theorem zrd {j pos'} (ha:PE X a ta):PC X .Is a (.Constant .none j pos') (tIsN ta):=by
 intro pins s σ H Q I h
 refine thn (ha pins s σ H _ I h) λ v s1 ⟨x,H1,I1,r1,q1⟩=>?_
 exact Constant_none (is_none_gen ⟨.bl _,H1,I1,by rw [r1.zm9]; rfl,q1⟩)
theorem zoZ {j pos'} (ha:PE X a ta):PC X .IsNot a (.Constant .none j pos') (ztS ta):=by
 intro pins s σ H Q I h
 refine thn (ha pins s σ H _ I h) λ v s1 ⟨x,H1,I1,r1,q1⟩=>?_
 exact Constant_none (isnot_none_gen ⟨.bl _,H1,I1,by rw [r1.zm9]; rfl,q1⟩)
def tB (t:TE):TT:=λ σ H Q=>t σ H λ x H1=>∃ c,x=.bl c/\Q c H1
theorem zth {op:CmpOp} {t:TE} (h:PC X op a b t) (h1:behindInMarks op b=false:=by first | exact zna _ (by decide) (by decide) | rfl):PE X (.Compare a [op] [b] pos) t:=λ pins s σ H Q I hw=>wpAny_Compare1 (h pins s σ H Q I hw) h1
theorem zfA {op:CmpOp} {t:TE} (h:PC X op a b t) (h1:behindInMarks op b=false:=by first | exact zna _ (by decide) (by decide) | rfl):PT X (.Compare a [op] [b] pos) (tB t):=by
 intro pins s σ H Q I hw
 refine wpAny_isTrue_Compare1 (thn (h pins s σ H _ I hw) λ v s1 h1=>thn h1 λ u s2 h2=>thn h2 λ c s3 ⟨x,H1,I1,r1,q1⟩=>?_) h1
 obtain ⟨d,rfl,q⟩:=q1
 cases r1
 exact wpAny_truthy_bool ⟨H1,I1,q⟩
theorem zkG {e:Expr} {t:TE} (h:PE X e t) (he:∀ whole,isTrue e X.env whole=(do let v <-whole; standAt e.pos; holding [v] (truthy v)):=by intro _; rfl):PT X e (tB t):=by
 intro pins s σ H Q I hw
 refine isTrue_plain (thn (h pins s σ H _ I hw) λ v s1 ⟨x,H1,I1,r1,q1⟩=>?_) (he _)
 obtain ⟨d,rfl,q⟩:=q1
 cases r1
 exact wpAny_truthy_bool ⟨H1,I1,q⟩
variable {tA tB':TT} {rest:List Expr}
def tAnd (t u:TT):TT:=λ σ H Q=>t σ H λ c H1=>if c=true then u σ H1 Q else Q false H1
def tOr (t u:TT):TT:=λ σ H Q=>t σ H λ c H1=>if c=true then Q true H1 else u σ H1 Q
def tNot (t:TT):TT:=λ σ H Q=>t σ H λ c H1=>Q (!c) H1
theorem zjv (ha:PT X a tA):PW X (.BoolOp .And [a] pos) tA:=by
 intro wh pins s σ H Q I h
 refine isTrue_and (thn (ha pins s σ H Q I h) λ c s1 e=>?_)
 cases c with
 | true=>exact isTrue_and_nil e
 | false=>exact e
theorem zta (ha:PT X a tA):PW X (.BoolOp .Or [a] pos) tA:=by
 intro wh pins s σ H Q I h
 refine isTrue_or (thn (ha pins s σ H Q I h) λ c s1 e=>?_)
 cases c with
 | false=>exact isTrue_or_nil e
 | true=>exact e
theorem zm0 (ha:PT X a tA) (hb:PW X (.BoolOp .And (b::rest) pos) tB'):PW X (.BoolOp .And (a::b::rest) pos) (tAnd tA tB'):=by
 intro wh pins s σ H Q I h
 refine isTrue_and (thn (ha pins s σ H _ I h) λ c s1 ⟨H1,I1,q1⟩=>?_)
 cases c with
 | true=>exact hb wh pins s1 σ H1 Q I1 q1
 | false=>exact ⟨H1,I1,q1⟩
theorem ztb (ha:PT X a tA) (hb:PW X (.BoolOp .Or (b::rest) pos) tB'):PW X (.BoolOp .Or (a::b::rest) pos) (tOr tA tB'):=by
 intro wh pins s σ H Q I h
 refine isTrue_or (thn (ha pins s σ H _ I h) λ c s1 ⟨H1,I1,q1⟩=>?_)
 cases c with
 | true=>exact ⟨H1,I1,q1⟩
 | false=>exact hb wh pins s1 σ H1 Q I1 q1
theorem ztc (ha:PT X a tA):PT X (.UnaryOp .Not a pos) (tNot tA):=by
 intro pins s σ H Q I h
 exact isTrue_not (ha pins s σ H (λ c H1=>Q (!c) H1) I h)
def ztW (ta tb:TE):TE:=λ σ H Q=>ta σ H λ x H1=>∃ c,x=.bl c/\if c=true then tb σ H1 Q else Q (.bl false) H1
def tOrV (ta tb:TE):TE:=λ σ H Q=>ta σ H λ x H1=>∃ c,x=.bl c/\if c=true then Q (.bl true) H1 else tb σ H1 Q
def ztR (ta:TE):TE:=λ σ H Q=>ta σ H λ x H1=>∃ c,x=.bl c/\Q (.bl (!c)) H1
theorem zkJ {op} {t:TE} (h:PE X a t):PE X (.BoolOp op [a] pos) t:=λ pins s σ H Q I hw=>BoolOp_one (h pins s σ H Q I hw)
theorem zoY (ha:PE X a ta) (hb:PE X (.BoolOp .And (b::rest) pos) tb):PE X (.BoolOp .And (a::b::rest) pos) (ztW ta tb):=by
 intro pins s σ H Q I h
 refine BoolOp_and (thn (ha pins s σ H _ I h) λ v s1 ⟨x,H1,I1,r1,q1⟩=>?_)
 obtain ⟨c,rfl,q1⟩:=q1
 cases r1
 refine wpAny_truthy_bool ?_
 cases c with
 | true=>exact hb pins s1 σ H1 Q I1 q1
 | false=>exact ⟨.bl false,H1,I1,rfl,q1⟩
theorem ztf (ha:PE X a ta) (hb:PE X (.BoolOp .Or (b::rest) pos) tb):PE X (.BoolOp .Or (a::b::rest) pos) (tOrV ta tb):=by
 intro pins s σ H Q I h
 refine BoolOp_or (thn (ha pins s σ H _ I h) λ v s1 ⟨x,H1,I1,r1,q1⟩=>?_)
 obtain ⟨c,rfl,q1⟩:=q1
 cases r1
 refine wpAny_truthy_bool ?_
 cases c with
 | false=>exact hb pins s1 σ H1 Q I1 q1
 | true=>exact ⟨.bl true,H1,I1,rfl,q1⟩
theorem ztg (ha:PE X a ta):PE X (.UnaryOp .Not a pos) (ztR ta):=by
 intro pins s σ H Q I h
 refine UnaryOp_ (thn (ha pins s σ H _ I h) λ v s1 ⟨x,H1,I1,r1,q1⟩=>?_)
 obtain ⟨c,rfl,q1⟩:=q1
 cases r1
 exact not_of (wpAny_truthy_bool ⟨.bl (!c),H1,I1,rfl,q1⟩)
end
end L2
namespace L2
open PySem PySem.Spec PyProof.Rows
def SqL (K:PySem.W.Frag) (H:Hp) (a:Addr) (xs:List V):Prop :=
 Rd H a (.lst xs) \/
  ∃ (o:Obj) (its:Array Value) (n:Nat),K.lookup a=some o/\o.cls=.type "list" /\ o.dict=none/\o.data=.seq its n/\its.size<=sizeLine/\Vals xs its.toList
def SqT (K:PySem.W.Frag) (H:Hp) (a:Addr) (xs:List V):Prop :=
 Rd H a (.tup xs) \/
  ∃ (o:Obj) (its:Array Value) (n:Nat),K.lookup a=some o/\o.cls=.type "tuple" /\ o.data=.seq its n/\its.size<=sizeLine/\Vals xs its.toList
def absV:Value->Option V
 | .none=>some .non
 | .bool b=>some (.bl b)
 | .int i _=>some (.int i)
 | .str x _=>some (.str x)
 | .bytes b _=>some (.byt b)
 | .float b _=>some (.flt b)
 | .ref a=>some (.ref a)
 | .type n=>some (.ty n)
 | _=>none
theorem RelV.abs {x:V} {u:Value} (r:RelV x u):absV u=some x:=by
 cases x with
 | non=>cases r; rfl
 | bl _=>cases r; rfl
 | int _=>obtain ⟨t,rfl⟩:=r; rfl
 | str _=>obtain ⟨t,rfl⟩:=r; rfl
 | byt _=>obtain ⟨t,rfl⟩:=r; rfl
 | flt _=>obtain ⟨t,rfl⟩:=r; rfl
 | ref _=>cases r; rfl
 | ty _=>cases r; rfl
theorem RelV.inj {x y:V} {u:Value} (r:RelV x u) (q:RelV y u):x=y:=Option.some.inj (r.abs.symm.trans q.abs)
theorem Vals.inj:∀ {xs ys:List V} {us:List Value},Vals xs us->Vals ys us->xs=ys
 | _,_,_,.nil,.nil=>rfl
 | _,_,_,.cons r t,.cons r' t'=>by rw [r.inj r',Vals.inj t t']
section
variable {X:Cx} {pins:List (Addr×Obj)} {σ:St} {H:Hp} {s:Shared} {a:Addr} {xs ys:List V}
theorem SqL.of {K:PySem.W.Frag} (h:H a=some (.lst xs)):SqL K H a xs:=.inl (.inl h)
theorem SqT.of {K:PySem.W.Frag} (h:H a=some (.tup xs)):SqT K H a xs:=.inl (.inl h)
theorem Inv.list (I:Inv X pins σ H s) (h:SqL X.K H a xs):∃ its:List Value,Vals xs its/\PlainL s.heap a its.toArray/\xs.length<=sizeLine:=by
 rcases h with h | ⟨o,its,n,hk,hc,hd,hs,hz,r⟩
 . obtain ⟨z,its,n,r,e⟩:=h.ok I.hok
   exact ⟨its,r,⟨_,n,e,rfl,rfl,rfl⟩,z⟩
 . refine ⟨its.toList,r,⟨o,n,I.kIn a o hk,hc,hd,by simpa using hs⟩,?_⟩
   have e:=r.length
   simp only [Array.length_toList] at e
   omega
theorem Inv.tuple (I:Inv X pins σ H s) (h:SqT X.K H a xs):∃ its:List Value,Vals xs its/\IsTup s.heap a its.toArray/\xs.length<=sizeLine:=by
 rcases h with h | ⟨o,its,n,hk,hc,hs,hz,r⟩
 . obtain ⟨z,its,r,p⟩:=h.ok I.hok
   exact ⟨its,r,p,z⟩
 . refine ⟨its.toList,r,⟨o,I.kIn a o hk,hc,n,by simpa using hs⟩,?_⟩
   have e:=r.length
   simp only [Array.length_toList] at e
   omega
theorem Inv.zqG (I:Inv X pins σ H s) (h:SqL X.K H a xs) (h':SqL X.K H a ys):xs=ys:=by
 obtain ⟨its,r,⟨o,n,e,_,_,d⟩,_⟩:=I.list h
 obtain ⟨its',r',⟨o',n',e',_,_,d'⟩,_⟩:=I.list h'
 rw [e] at e'; cases e'
 rw [d] at d'
 injection d' with d1 _
 have:its=its':=by simpa using congrArg Array.toList d1
 subst this
 exact r.inj r'
theorem Inv.zow (I:Inv X pins σ H s) (h:SqT X.K H a xs) (h':SqT X.K H a ys):xs=ys:=by
 obtain ⟨its,r,⟨o,e,_,n,d⟩,_⟩:=I.tuple h
 obtain ⟨its',r',⟨o',e',_,n',d'⟩,_⟩:=I.tuple h'
 rw [e] at e'; cases e'
 rw [d] at d'
 injection d' with d1 _
 have:its=its':=by simpa using congrArg Array.toList d1
 subst this
 exact r.inj r'
end
abbrev Cx.wish (X:Cx) (E:Value->Shared->Prop):Cx:={ X with xe:=E }
abbrev Cx.nox (X:Cx):Cx:=X.wish λ _ _=>False
theorem Cx.Ok.wish {X:Cx} (ok:X.Ok) (E:Value->Shared->Prop):(X.wish E).Ok :=
 ⟨ok.mod,ok.kind,ok.glob,ok.blt,ok.above,ok.inj,ok.has,ok.cab,ok.hd,ok.frames,ok.stk,ok.exf,ok.bs,ok.bsz,ok.noex,ok.exfs,ok.funs,ok.frf⟩
theorem Cx.Ok.zfr {X:Cx} {E:Value->Shared->Prop} (ok:(X.wish E).Ok):X.Ok :=
 ⟨ok.mod,ok.kind,ok.glob,ok.blt,ok.above,ok.inj,ok.has,ok.cab,ok.hd,ok.frames,ok.stk,ok.exf,ok.bs,ok.bsz,ok.noex,ok.exfs,ok.funs,ok.frf⟩
section
variable {X:Cx} {pins:List (Addr×Obj)} {σ:St} {H:Hp} {s:Shared} {E:Value->Shared->Prop}
theorem Inv.wish (I:Inv X pins σ H s) (E:Value->Shared->Prop):Inv (X.wish E) pins σ H s:=⟨I.ok.wish E,I.os,I.bare,I.base,I.loc,I.cell,I.free,I.zdg,I.pin,I.hok,I.len⟩
theorem Inv.zfr (I:Inv (X.wish E) pins σ H s):Inv X pins σ H s:=⟨I.ok.zfr,I.os,I.bare,I.base,I.loc,I.cell,I.free,I.zdg,I.pin,I.hok,I.len⟩
theorem SP.zfr {D:Ends} {f:Flow} {s':Shared} (h:SP (X.wish E) pins D f s'):SP X pins D f s':=by
 cases f with
 | next=>obtain ⟨σ',H',I,q⟩:=h; exact ⟨σ',H',I.zfr,q⟩
 | brk=>obtain ⟨σ',H',I,q⟩:=h; exact ⟨σ',H',I.zfr,q⟩
 | cont=>obtain ⟨σ',H',I,q⟩:=h; exact ⟨σ',H',I.zfr,q⟩
 | ret u=>obtain ⟨v,σ',H',I,r,q⟩:=h; exact ⟨v,σ',H',I.zfr,r,q⟩
theorem PSs.nox {st:List Stmt} {t:TS} (h:PSs X.nox st t):PSs X st t:=λ pins s σ H D I hw =>
 wpAny_mono (h pins s σ H D (I.wish _) hw) (λ _ _ q=>q.zfr) λ _ _ z=>False.elim z
end
section
variable {X:Cx} {st:Stmt} {rest:List Stmt} {t u:TS} {e:Expr} {te:TE} {pos:Pos}
def zrA:TS:=λ D σ H=>D.nx σ H
def tSeq (t u:TS):TS:=λ D σ H=>t { D with nx:=u D } σ H
theorem zaF:PSs X [] zrA:=λ _ _ σ H _ I h=>wpAny_execs_nil ⟨σ,H,I,h⟩
theorem zac (h1:PS X st t) (h2:PSs X rest u):PSs X (st::rest) (tSeq t u):=by
 intro pins s σ H D I h
 refine wpAny_execs_cons (thn (h1 pins s σ H { D with nx:=u D } I h) λ f s1 q=>?_)
 cases f with
 | next =>
  obtain ⟨σ',H',I',q⟩:=q
  exact h2 pins s1 σ' H' D I' q
 | ret v=>exact q
 | brk=>exact q
 | cont=>exact q
theorem zae (h1:PS X st t):PSs X [st] t:=by
 intro pins s σ H D I h
 refine wpAny_execs_cons (thn (h1 pins s σ H D I h) λ f s1 q=>?_)
 cases f with
 | next=>exact wpAny_execs_nil q
 | ret v=>exact q
 | brk=>exact q
 | cont=>exact q
theorem Inv.quiet {pins:List (Addr×Obj)} {σ:St} {H:Hp} {s:Shared} (I:Inv X pins σ H s):interactive X.env=false:=by simp [interactive,I.ok.kind]
def ztT (te:TE):TS:=λ D σ H=>te σ H λ _ H1=>D.nx σ H1
theorem zaG (he:PE X e te) (hs:swapsWith e none pos.line X.env=pure false:=by rfl):PS X (.Expr e pos) (ztT te):=by
 intro pins s σ H D I h
 exact wpAny_Expr_any (thn (he pins s σ H _ I h) λ v s1 ⟨x,H1,I1,r1,q1⟩=>⟨σ,H1,I1,q1⟩) I.quiet hs
def tRet (te:TE):TS:=λ D σ H=>te σ H D.rt
theorem zar (he:PE X e te):PS X (.Return (some e) pos) (tRet te):=by
 intro pins s σ H D I h
 exact wpAny_Return_some (thn (he pins s σ H _ I h) λ v s1 ⟨x,H1,I1,r1,q1⟩=>⟨x,σ,H1,I1,r1,q1⟩)
def tIfS (c:TT) (t u:TS):TS:=λ D σ H=>c σ H λ b H1=>if b=true then t D σ H1 else u D σ H1
theorem zbk {c:Expr} {a b:List Stmt} {tc:TT} (hc:PT X c tc) (ha:PSs X a t) (hb:PSs X b u):PS X (.If c a b pos) (tIfS tc t u):=by
 intro pins s σ H D I h
 refine wpAny_If (thn (hc pins s σ H _ I h) λ d s1 ⟨H1,I1,q1⟩=>?_)
 cases d with
 | true=>exact ha pins s1 σ H1 D I1 q1
 | false=>exact hb pins s1 σ H1 D I1 q1
end
abbrev TG:=V->St->Hp->(St->Hp->Prop)->Prop
abbrev TGs:=List V->St->Hp->(St->Hp->Prop)->Prop
def PG (X:Cx) (target:Expr) (t:TG):Prop :=
 ∀ (pins:List (Addr×Obj)) (s:Shared) (σ:St) (H:Hp) (v:V) (u:Value) (Q:St->Hp->Prop),Inv X pins σ H s->RelV v u->t v σ H Q ->
  wpAny (model X.prog X.w) X.A (assign target X.env u) (λ _ s'=>∃ σ' H',Inv X pins σ' H' s'/\Q σ' H') X.xe s
def PGs (X:Cx) (ts:List Expr) (t:TGs):Prop :=
 ∀ (pins:List (Addr×Obj)) (s:Shared) (σ:St) (H:Hp) (vs:List V) (us:List Value) (Q:St->Hp->Prop),Inv X pins σ H s->Vals vs us->t vs σ H Q ->
  wpAny (model X.prog X.w) X.A (assignInOrder ((assignEach ts X.env).map (·.2)) us) (λ _ s'=>∃ σ' H',Inv X pins σ' H' s'/\Q σ' H') X.xe s
section
variable {X:Cx} {pos:Pos}
def zqV (i:Nat):TG:=λ v σ H Q=>Q (σ.set i (some v)) H
theorem za2 {i:Nat} {x:Str} (hN:X.N.Nodup) (hi:X.N[i]?=some x) (hx:Loc X.env.scope x) (hf:X.fn x=true\/X.env.scope.names.lookup x=some .local:=by first | exact .inl rfl | exact .inr rfl | assumption):PG X (.Name x pos) (zqV i):=by
 intro pins s σ H v u Q I r h
 exact wpAny_assign_Name (zjm I hN hi hx r (λ s' I'=>⟨_,H,I',h⟩) hf)
def gNil:TGs:=λ vs σ H Q=>vs=[]/\Q σ H
def zui (t:TG) (u:TGs):TGs:=λ vs σ H Q=>∃ v r,vs=v::r/\t v σ H λ σ' H'=>u r σ' H' Q
theorem zjB:PGs X [] gNil:=by
 intro pins s σ H vs us Q I r h
 obtain ⟨e,h⟩:=h
 subst e
 cases r
 exact assignInOrder_nil ⟨σ,H,I,h⟩
theorem zcp {e:Expr} {es:List Expr} {t:TG} {u:TGs} (h1:PG X e t) (h2:PGs X es u)
  (hs:(assignEach (e::es) X.env).map (·.2)=assign e X.env::(assignEach es X.env).map (·.2):=by rfl):PGs X (e::es) (zui t u):=by
 intro pins s σ H vs us Q I r h
 obtain ⟨v,vr,e1,h⟩:=h
 subst e1
 cases r with
 | cons r rr =>
  rw [hs]
  refine assignInOrder_cons (thn (h1 pins s σ H _ _ _ I r h) λ _ s1 ⟨σ1,H1,I1,q1⟩=>?_)
  exact h2 pins s1 σ1 H1 _ _ Q I1 rr q1
def gTup (K:PySem.W.Frag) (n:Nat) (t:TGs):TG:=λ v σ H Q=>∃ a xs,v=.ref a/\SqT K H a xs/\xs.length=n/\t xs σ H Q
theorem zoX {es:List Expr} {k:Nat} {t:TGs} {n:Nat} (hc:X.calm=true) (h:PGs X es t)
  (hn:(assignEach es X.env).length=n:=by rfl) (hst:(assignEach es X.env).findIdx? (·.1)=none:=by rfl):PG X (.Tuple es k pos) (gTup X.K n t):=by
 intro pins s σ H v u Q I r hw
 obtain ⟨a,xs,e1,hq,hl,hw⟩:=hw
 subst e1
 cases r
 obtain ⟨its,rv,ht,hz⟩:=I.tuple hq
 refine assign_Tuple_tuple (I.ok.hd hc) ht (by simp [hn,<-hl,rv.length]) hst λ h' hx=>?_
 have I1:Inv X pins σ H { s with heap:=h' }:=I.kept (t':=s.toks) λ b o e=>hx b o (Nat.ne_of_lt (Heap.lt_size e)) e
 exact h pins _ σ H xs _ Q I1 (by simpa using rv) hw
def tAsg (te:TE) (g:TG):TS:=λ D σ H=>te σ H λ x H1=>g x σ H1 D.nx
theorem zaL {i:Nat} {x:Str} {e:Expr} {te:TE} {pos':Pos} (hN:X.N.Nodup) (hi:X.N[i]?=some x) (hx:Loc X.env.scope x) (he:PE X e te) (hs:swapsWith e (some (.Name x pos')) pos.line X.env=pure false:=by rfl) (hf:X.fn x=true\/X.env.scope.names.lookup x=some .local:=by first | exact .inl rfl | exact .inr rfl | assumption) :
  PS X (.Assign [.Name x pos'] e pos) (tAsg te (zqV i)):=by
 intro pins s σ H D I h
 refine wpAny_Assign_Name (thn (he pins s σ H _ I h) λ v s1 ⟨y,H1,I1,r1,q1⟩=>?_) hs
 exact zjm I1 hN hi hx r1 (λ s2 I2=>⟨_,H1,I2,q1⟩) hf
end
section
variable {X:Cx} {pos:Pos}
def zsD (c:TT) (tb:TS):TS:=λ D σ H=>∃ W:Nat->St->Hp->Prop,(∃ m,W m σ H)/\∀ m σ H,W m σ H ->
 c σ H λ b H1=>if b=true then ∃ N:St->Hp->Prop,(∀ σ' H',N σ' H'->∃ m',m' < m/\W m' σ' H')/\tb { D with nx:=N,ct:=N,bk:=D.nx } σ H1 else D.nx σ H1
theorem zhf {c:Expr} {body:List Stmt} {tc:TT} {tb:TS} (hp:PassesOwn (model X.prog X.w) X.A X.env X.xe) (hc:PT X c tc) (hb:PSs X body tb):PS X (.While c body [] pos) (zsD tc tb):=by
 intro pins s σ H D I h
 obtain ⟨W,⟨m0,w0⟩,turn⟩:=h
 refine wpAny_While (codeAny_whileLoop (λ n s'=>∃ σ' H',Inv X pins σ' H' s'/\W n σ' H') ?_ m0 ⟨σ,H,I,w0⟩)
 rintro n s1 ⟨σ1,H1,I1,w1⟩
 refine wpAny_passesOwn hp (thn (hc pins s1 σ1 H1 _ I1 (turn n σ1 H1 w1)) λ b s2 ⟨H2,I2,q2⟩=>?_)
 cases b with
 | true =>
  obtain ⟨N,hN,q2⟩:=q2
  rw [if_pos rfl]
  refine wpAny_passesOwn hp (thn (hb pins s2 σ1 H2 _ I2 q2) λ f s3 q3=>?_)
  cases f with
  | next =>
   obtain ⟨σ3,H3,I3,n3⟩:=q3
   obtain ⟨m',hm,w3⟩:=hN σ3 H3 n3
   exact ⟨m',hm,σ3,H3,I3,w3⟩
  | cont =>
   obtain ⟨σ3,H3,I3,n3⟩:=q3
   obtain ⟨m',hm,w3⟩:=hN σ3 H3 n3
   exact ⟨m',hm,σ3,H3,I3,w3⟩
  | brk=>exact q3
  | ret v=>exact q3
 | false =>
  rw [if_neg Bool.false_ne_true]
  exact wpAny_execs_nil ⟨σ1,H2,I2,q2⟩
end
structure It where
 go:Nat->Hp->Prop
 yld:Nat->Hp->V->Hp->Prop
 stop:Nat->Hp->Prop
def FpOk (X:Cx) (pins:List (Addr×Obj)) (H:Hp) (b:Addr):Prop :=
 H b=none/\b≠X.env.locals/\b∉X.fs/\(b∈X.ex\/X.s₀.heap.objs.size<=b)/\(∀ x c,X.env.cells.lookup x=some c->c≠b)/\∀ p∈X.pn++pins,p.1≠b
theorem Inv.fpOk {X:Cx} {pins:List (Addr×Obj)} {σ:St} {H H':Hp} {s:Shared} {b:Addr} (I:Inv X pins σ H s) (hb:s.heap.objs.size<=b) (hn:H' b=none):FpOk X pins H' b:=by
 refine ⟨hn,Nat.ne_of_gt (Nat.lt_of_lt_of_le I.lt hb),I.nofs hb,.inr (Nat.le_trans I.sz hb),λ x c e z=>?_,λ p hp z=>?_⟩
 . obtain ⟨v,q⟩:=I.cell x c e
   exact absurd (Nat.lt_of_lt_of_le q.lt (by rw [z]; exact hb)) (Nat.lt_irrefl _)
 . exact absurd (Nat.lt_of_lt_of_le (Heap.lt_size (I.pin p hp).1) (by rw [z]; exact hb)) (Nat.lt_irrefl _)
structure Turn (P:Program) (w:World) (K:PySem.W.Frag) (tg:Expr) (J:It) (fp:List Addr) (it:Addr) (tn:Nat->Heap->Prop):Prop where
 mem:it∈fp
 obj:∀ i h,tn i h->∀ b∈fp,∃ o,h.get? b=some o/\∀ v,o.data≠.cell v
 keep:∀ i h h',tn i h->(∀ b∈fp,∀ o,h.get? b=some o->h'.get? b=some o)->tn i h'
 item:∀ (X:Cx),X.prog=P->X.w=w->X.K=K->X.calm=true->∀ (i:Nat) (pins:List (Addr×Obj)) (s:Shared) (σ:St) (H:Hp) (E:Value->Shared->Prop),Inv X pins σ H s->(∀ b∈fp,FpOk X pins H b)->tn i s.heap->J.go i H ->
  wpAny (model P w) X.A (pyNext (.ref it)) (λ r s1=>∃ u,r=some u /\
   wpAny (model P w) X.A (letOwnedTupleGo tg (.ref it) u) (λ _ s2=>∃ x H',Inv X pins σ H' s2/\RelV x u/\J.yld i H x H'/\tn (i+1) s2.heap/\∀ b∈fp,H' b=none) E s1) E s
 done:∀ (X:Cx),X.prog=P->X.w=w->X.K=K->X.calm=true->∀ (i:Nat) (pins:List (Addr×Obj)) (s:Shared) (σ:St) (H:Hp) (E:Value->Shared->Prop),Inv X pins σ H s->(∀ b∈fp,FpOk X pins H b)->tn i s.heap->J.stop i H ->
  wpAny (model P w) X.A (pyNext (.ref it)) (λ r s1=>r=none/\Inv X pins σ H s1) E s
 self:∀ (A:Around) (i:Nat) (s:Shared) (Q:Value->Shared->Prop) (E:Value->Shared->Prop),tn i s.heap->Q (.ref it) s->wpAny (model P w) A (pyIter (.ref it)) Q E s
abbrev TI:=St->Hp->(It->Hp->Prop)->Prop
def PIE (X:Cx) (pins:List (Addr×Obj)) (σ:St) (tg:Expr) (R:It->Hp->Prop) (itv:Value) (s2:Shared):Prop :=
 ∃ (it:Addr) (fp:List Addr) (tn:Nat->Heap->Prop) (J:It) (H':Hp),itv=.ref it/\Inv X pins σ H' s2/\Turn X.prog X.w X.K tg J fp it tn/\tn 0 s2.heap/\(∀ b∈fp,FpOk X pins H' b)/\R J H'
def PI (X:Cx) (tg iter:Expr) (wi:TI):Prop :=
 ∀ (pins:List (Addr×Obj)) (s:Shared) (σ:St) (H:Hp) (R:It->Hp->Prop),Inv X pins σ H s->wi σ H R ->
  wpAny (model X.prog X.w) X.A (eval iter X.env) (λ v s1=>wpAny (model X.prog X.w) X.A (pyIter v) (PIE X pins σ tg R) X.xe s1) X.xe s
theorem zqP {M:Model} {A:Around} {E:Value->Shared->Prop} {s:Shared} {tg:Expr} {it:Addr} {u:Value} {o:Obj} {n:String} {vs:Array Value} {Q:Unit->Shared->Prop} (ho:s.heap.get? it=some o) (hc:o.cls=.type n) (hd:o.data=.fields vs)
    (hn:["enumerate","zip","dict_itemiterator","dict_reverseitemiterator","odict_iterator","itertools.zip_longest","itertools.pairwise"].contains n=false) (hQ:Q () s):wpAny M A (letOwnedTupleGo tg (.ref it) u) Q E s:=by
  unfold letOwnedTupleGo
  cases tg <;> first
    | exact wpAny_pure hQ
    | (cases u <;> first
        | exact wpAny_pure hQ
        | (refine wpAny_bind (wpAny_load ho ?_)
           rw [hc,hd]
           show wpAny M A (if (["enumerate","zip","dict_itemiterator","dict_reverseitemiterator","odict_iterator","itertools.zip_longest","itertools.pairwise"].contains n && vs[0]? == some (rawInt _))=true then _ else _) Q E s
           rw [if_neg (by intro h; rw [hn,Bool.false_and] at h; cases h)]
           exact wpAny_pure hQ))
def Itl (K:PySem.W.Frag) (a:Addr):It :=
 ⟨λ i H=>∃ xs x,SqL K H a xs/\xs[i]?=some x,λ i H x H'=>H'=H/\∀ xs,SqL K H a xs->xs[i]?=some x,λ i H=>∃ xs,SqL K H a xs/\xs.length<=i⟩
def Itt (K:PySem.W.Frag) (a:Addr):It :=
 ⟨λ i H=>∃ xs x,SqT K H a xs/\xs[i]?=some x,λ i H x H'=>H'=H/\∀ xs,SqT K H a xs->xs[i]?=some x,λ i H=>∃ xs,SqT K H a xs/\xs.length<=i⟩
def Itr (lo:Int) (n:Nat):It:=⟨λ i _=>i < n,λ i H x H'=>H'=H/\x=.int (lo+i),λ i _=>n<=i⟩
theorem zou {P:Program} {w:World} {K:PySem.W.Frag} {tg:Expr} (a it:Addr):Turn P w K tg (Itl K a) [it] it (λ i h=>h.IsListIter it a i) where
 mem:=by simp
 obj:=λ i h st b hb=>by
  have e:b=it:=by simpa using hb
  subst e
  obtain ⟨o,e,c,d⟩:=st
  exact ⟨o,e,λ v z=>by rw [d] at z; cases z⟩
 keep:=λ i h h' st k=>st.at λ o e=>k it (by simp) o e
 item:=by
  intro X hP hw hK hc i pins s σ H E I hf st hg
  subst hP hw hK
  obtain ⟨xs,x,hq,hx⟩:=hg
  obtain ⟨its,rv,p,hz⟩:=I.list hq
  obtain ⟨u,hu,ru⟩:=rv.get hx
  obtain ⟨f0,f1,f2,f3,f4,f5⟩:=hf it (by simp)
  refine wpAny_pyNext_list_item st p.isList (x:=u) (by simpa using hu) λ h' st' sb=>?_
  have I1:Inv X pins σ H { s with heap:=h' }:=I.turned (t':=s.toks) (λ b o hb e=>(sb.2 b hb).trans e) f0 f1 f3 f4 f5
  obtain ⟨o,e,c,d⟩:=id st'
  exact ⟨u,rfl,zqP (s:={ s with heap:=h' }) e c d (by decide) ⟨x,H,I1,ru,⟨rfl,λ ys hy=>by rw [I.zqG hy hq]; exact hx⟩,st',λ b hb=>(hf b hb).1⟩⟩
 done:=by
  intro X hP hw hK hc i pins s σ H E I hf st hg
  subst hP hw hK
  obtain ⟨xs,hq,hx⟩:=hg
  obtain ⟨its,rv,p,hz⟩:=I.list hq
  obtain ⟨f0,f1,f2,f3,f4,f5⟩:=hf it (by simp)
  have hl:=rv.length
  exact wpAny_pyNext_list_end (I.ok.hd hc) st p.isList (by simp; omega) λ h' eb=>⟨rfl,I.turned (t':=s.toks) (λ b o hb e=>eb b o hb e) f0 f1 f3 f4 f5⟩
 self:=λ _ _ _ _ _ st h=>wpAny_pyIter_listiter st h
theorem znA {P:Program} {w:World} {K:PySem.W.Frag} {tg:Expr} (a it:Addr):Turn P w K tg (Itt K a) [it] it (λ i h=>h.IsTupleIter it a i) where
 mem:=by simp
 obj:=λ i h st b hb=>by
  have e:b=it:=by simpa using hb
  subst e
  obtain ⟨o,e,c,d⟩:=st
  exact ⟨o,e,λ v z=>by rw [d] at z; cases z⟩
 keep:=λ i h h' st k=>st.at λ o e=>k it (by simp) o e
 item:=by
  intro X hP hw hK hc i pins s σ H E I hf st hg
  subst hP hw hK
  obtain ⟨xs,x,hq,hx⟩:=hg
  obtain ⟨its,rv,p,hz⟩:=I.tuple hq
  obtain ⟨u,hu,ru⟩:=rv.get hx
  obtain ⟨f0,f1,f2,f3,f4,f5⟩:=hf it (by simp)
  refine wpAny_pyNext_tuple_item st (show s.heap.IsTuple a its.toArray from p) (x:=u) (by simpa using hu) λ h' st' sb=>?_
  have I1:Inv X pins σ H { s with heap:=h' }:=I.turned (t':=s.toks) (λ b o hb e=>(sb.2 b hb).trans e) f0 f1 f3 f4 f5
  obtain ⟨o,e,c,d⟩:=id st'
  exact ⟨u,rfl,zqP (s:={ s with heap:=h' }) e c d (by decide) ⟨x,H,I1,ru,⟨rfl,λ ys hy=>by rw [I.zow hy hq]; exact hx⟩,st',λ b hb=>(hf b hb).1⟩⟩
 done:=by
  intro X hP hw hK hc i pins s σ H E I hf st hg
  subst hP hw hK
  obtain ⟨xs,hq,hx⟩:=hg
  obtain ⟨its,rv,p,hz⟩:=I.tuple hq
  obtain ⟨f0,f1,f2,f3,f4,f5⟩:=hf it (by simp)
  have hl:=rv.length
  exact wpAny_pyNext_tuple_end (I.ok.hd hc) st (show s.heap.IsTuple a its.toArray from p) (by simp; omega) λ h' eb=>⟨rfl,I.turned (t':=s.toks) (λ b o hb e=>eb b o hb e) f0 f1 f3 f4 f5⟩
 self:=λ _ _ _ _ _ st h=>wpAny_pyIter_tupleiter st h
theorem znB {P:Program} {w:World} {K:PySem.W.Frag} {tg:Expr} (it:Addr) (lo:Int) (n:Nat):Turn P w K tg (Itr lo n) [it] it (λ i h=>IsRangeIter h it (lo+(i:Nat) * 1) ((n:Int) - (i:Nat)) 1) where
 mem:=by simp
 obj:=λ i h st b hb=>by
  have e:b=it:=by simpa using hb
  subst e
  exact ⟨_,st,λ v z=>by
   have z':Data.fields _=Data.cell v:=z
   cases z'⟩
 keep:=λ i h h' st k=>k it (by simp) _ st
 item:=by
  intro X hP hw hK hc i pins s σ H E I hf st hg
  subst hP hw hK
  obtain ⟨f0,f1,f2,f3,f4,f5⟩:=hf it (by simp)
  have W:=Walks.range (prog:=X.prog) (w:=X.w) (I.ok.hd hc) it lo 1 n
  refine W.item i s _ _ hg st λ v h' tk hv st' kk=>?_
  obtain ⟨t,rfl⟩:=hv
  have I1:Inv X pins σ H { s with heap:=h',toks:=tk }:=I.turned (λ b o hb e=>kk b o (by simpa using hb) e) f0 f1 f3 f4 f5
  refine ⟨_,rfl,zqP (s:={ s with heap:=h',toks:=tk }) (n := "range_iterator") st' rfl rfl (by decide) ⟨.int (lo+i),H,I1,⟨t,?_⟩,⟨rfl,rfl⟩,st',λ b hb=>(hf b hb).1⟩⟩
  rw [Int.mul_one]
 done:=by
  intro X hP hw hK hc i pins s σ H E I hf st hg
  subst hP hw hK
  obtain ⟨f0,f1,f2,f3,f4,f5⟩:=hf it (by simp)
  exact wpAny_pyNext_range_end (I.ok.hd hc) st (by have:n<=i:=hg; omega) λ h' eb=>⟨rfl,I.turned (t':=s.toks) (λ b o hb e=>eb b o hb e) f0 f1 f3 f4 f5⟩
 self:=λ _ _ _ _ _ st h=>wpAny_pyIter_rangeiter st h
end L2
namespace L2
open PySem PySem.Spec PyProof.Rows
section
variable {X:Cx} {tg:Expr}
def ztv (K:PySem.W.Frag) (tl:TE):TI:=λ σ H R=>tl σ H λ x H1=>∃ a,x=.ref a/\(∃ xs,SqL K H1 a xs)/\R (Itl K a) H1
def iTup (K:PySem.W.Frag) (tl:TE):TI:=λ σ H R=>tl σ H λ x H1=>∃ a,x=.ref a/\(∃ xs,SqT K H1 a xs)/\R (Itt K a) H1
theorem zdc {l:Expr} {tl:TE} (hl:PE X l tl):PI X tg l (ztv X.K tl):=by
 intro pins s σ H R I h
 refine thn (hl pins s σ H _ I h) λ v s1 ⟨x,H1,I1,r1,q1⟩=>?_
 obtain ⟨a,e,⟨xs,hq⟩,q⟩:=q1
 subst e
 cases r1
 obtain ⟨its,rv,p,hz⟩:=I1.list hq
 refine wpAny_pyIter_list p.isList ?_
 refine ⟨s1.heap.objs.size,[s1.heap.objs.size],_,_,H1,rfl,I1.kept (t':=s1.toks) λ b o e=>Heap.get?_push_of_some _ e,zou a _,⟨_,Heap.get?_push_size _ rfl,rfl,rfl⟩,λ b hb=>?_,q⟩
 have e:b=s1.heap.objs.size:=by simpa using hb
 subst e
 exact I1.fpOk (Nat.le_refl _) (I1.hok.fresh (Nat.le_refl _))
theorem zm3 {l:Expr} {tl:TE} (hl:PE X l tl):PI X tg l (iTup X.K tl):=by
 intro pins s σ H R I h
 refine thn (hl pins s σ H _ I h) λ v s1 ⟨x,H1,I1,r1,q1⟩=>?_
 obtain ⟨a,e,⟨xs,hq⟩,q⟩:=q1
 subst e
 cases r1
 obtain ⟨its,rv,p,hz⟩:=I1.tuple hq
 refine wpAny_pyIter_tuple (show s1.heap.IsTuple a its.toArray from p) ?_
 refine ⟨s1.heap.objs.size,[s1.heap.objs.size],_,_,H1,rfl,I1.kept (t':=s1.toks) λ b o e=>Heap.get?_push_of_some _ e,znA a _,⟨_,Heap.get?_push_size _ rfl,rfl,rfl⟩,λ b hb=>?_,q⟩
 have e:b=s1.heap.objs.size:=by simpa using hb
 subst e
 exact I1.fpOk (Nat.le_refl _) (I1.hok.fresh (Nat.le_refl _))
theorem zqp {pins:List (Addr×Obj)} {σ:St} {H:Hp} {s:Shared} {R:It->Hp->Prop} {E:Value->Shared->Prop} {lo hi:Int} {t u v:Tok} {tk:Nat} (I:Inv X pins σ H s) (h1:-(2 ^ 62)<=lo) (h2:lo < 2 ^ 62) (h3:-(2 ^ 62)<=hi) (h4:hi < 2 ^ 62)
   (q:R (Itr lo (hi - lo).toNat) H):wpAny (model X.prog X.w) X.A (pyIter (.ref s.heap.objs.size)) (PIE X pins σ tg R) E { s with heap:=s.heap.push { cls:=.type "range",data:=.fields #[.int lo t,.int hi u,.int 1 v] },toks:=tk }:=by
 refine wpAny_pyIter_range (IsRange.new ..) (small_one h1 h2 h3 h4) ?_
 have I1:Inv X pins σ H { s with heap:=s.heap.push { cls:=.type "range",data:=.fields #[.int lo t,.int hi u,.int 1 v] },toks:=tk }:=I.kept λ b o e=>Heap.get?_push_of_some _ e
 refine ⟨(s.heap.push { cls:=.type "range",data:=.fields #[.int lo t,.int hi u,.int 1 v] }).objs.size,[(s.heap.push { cls:=.type "range",data:=.fields #[.int lo t,.int hi u,.int 1 v] }).objs.size],_,_,H,rfl,
   I1.kept (t':=tk) λ b o e=>Heap.get?_push_of_some _ e,znB _ lo (hi - lo).toNat,?_,λ b hb=>?_,q⟩
 . have e1:lo+((0:Nat):Int) * 1=lo:=by simp
   have e2:(((hi - lo).toNat:Nat):Int) - ((0:Nat):Int)=Builtin.Range.rangeSize lo hi 1:=by rw [rangeSize_one]; split <;> omega
   show IsRangeIter _ _ (lo+((0:Nat):Int) * 1) ((((hi - lo).toNat:Nat):Int) - ((0:Nat):Int)) 1
   rw [e1,e2]
   exact Heap.get?_push_size _ rfl
 . have e:b=(s.heap.push { cls:=.type "range",data:=.fields #[.int lo t,.int hi u,.int 1 v] }).objs.size:=by simpa using hb
   subst e
   exact I1.fpOk (Nat.le_refl _) (I1.hok.fresh (Nat.le_refl _))
def zud (ta:TA):TI:=λ σ H R=>ta σ H λ vs H1=>∃ j:Int,vs=[.int j]/\-(2 ^ 62)<=j/\j < 2 ^ 62/\R (Itr 0 j.toNat) H1
theorem zfC {a:Expr} {ta:TA} {p pos:Pos} (hg:Gl X "range") (hm:X.mg "range" = none) (ha:PA X [a] ta) (hs:starEach [a] X.env=[(false,eval a X.env)]:=by rfl):PI X tg (.Call (.Name "range" p) [a] [] pos) (zud ta):=by
 intro pins s σ H R I h
 refine Call_ (znf I hg hm boot_range (PyProof.Rows.callWith_type1 (thn (ha pos pins s σ H _ I h) λ us s1 ⟨vs,H1,I1,r1,q1⟩=>?_) hs rfl))
 obtain ⟨j,e,q1,q2,q⟩:=q1
 subst e
 cases r1 with
 | cons r rr =>
  cases rr
  obtain ⟨t,rfl⟩:=r
  exact call_range_1 (zqp I1 (by omega) (by omega) q1 q2 (by simpa using q))
def tFor (wi:TI) (g:TG) (tb:TS):TS:=λ D σ H=>wi σ H λ J H1=>∃ W:Nat->Nat->St->Hp->Prop,(∃ m,W 0 m σ H1)/\∀ i m σ H,W i m σ H ->
 (J.stop i H/\D.nx σ H)\/(J.go i H/\∃ N:St->Hp->Prop,(∀ σ' H',N σ' H'->∃ m',m' < m/\W (i+1) m' σ' H')/\∀ x H',J.yld i H x H'->g x σ H' λ σ2 H2=>tb { D with nx:=N,ct:=N,bk:=D.nx } σ2 H2)
def zkH (fp:List Addr) (h:Heap):List (Addr×Obj):=fp.filterMap λ b=>(h.get? b).map λ o=>(b,o)
theorem zgj {fp:List Addr} {h:Heap} {b:Addr} {o:Obj} (hb:b∈fp) (e:h.get? b=some o):(b,o)∈zkH fp h:=List.mem_filterMap.mpr ⟨b,hb,by rw [e]; rfl⟩
theorem zpa {fp:List Addr} {h:Heap} {p:Addr×Obj} (hp:p∈zkH fp h):p.1∈fp/\h.get? p.1=some p.2:=by
 obtain ⟨b,hb,e⟩:=List.mem_filterMap.mp hp
 cases q:h.get? b with
 | none=>rw [q] at e; cases e
 | some o =>
  rw [q] at e
  have e':(b,o)=p:=Option.some.inj e
  subst e'
  exact ⟨hb,q⟩
theorem Inv.pinned {pins:List (Addr×Obj)} {σ:St} {H:Hp} {s:Shared} {fp:List Addr} (I:Inv X pins σ H s) (hf:∀ b∈fp,FpOk X pins H b) (ho:∀ b∈fp,∃ o,s.heap.get? b=some o/\∀ v,o.data≠.cell v):Inv X (pins++zkH fp s.heap) σ H s :=
 I.zhA λ p hp=>(List.mem_append.mp hp).elim (λ z=>I.pin p (List.mem_append_right _ z)) λ z=>by
  obtain ⟨hb,e⟩:=zpa z
  obtain ⟨f0,f1,f2,_⟩:=hf p.1 hb
  obtain ⟨o,e',d⟩:=ho p.1 hb
  rw [e] at e'; cases e'
  exact ⟨e,f0,f1,f2,d⟩
theorem Inv.zjk {pins pl:List (Addr×Obj)} {σ:St} {H:Hp} {s:Shared} (I:Inv X (pins++pl) σ H s):Inv X pins σ H s:=I.zhA λ p hp=>I.pin p (List.mem_append_right _ (List.mem_append_left _ hp))
theorem zeH {iter:Expr} {body:List Stmt} {wi:TI} {g:TG} {tb:TS} {pos:Pos} (hp:PassesOwn (model X.prog X.w) X.A X.env X.xe) (hc:X.calm=true) (hi:PI X tg iter wi) (hg:PG X tg g) (hb:PSs X body tb)
   (hs:∀ x,foldedSetIterable iter X.env x=pure x:=by intro _; rfl):PS X (.For tg iter body [] pos) (tFor wi g tb):=by
 intro pins s σ H D I h
 refine wpAny_For (thn (hi pins s σ H _ I h) λ v s1 h1=>thn h1 λ itv s2 h2=>?_) hs
 obtain ⟨it,fp,tn,J,H2,e,I2,T,st2,f2,W,⟨m0,w0⟩,turn⟩:=h2
 subst e
 have stat:∀ {H':Hp},(∀ b∈fp,H' b=none)->∀ b∈fp,FpOk X pins H' b:=λ hn b hb=>⟨hn b hb,(f2 b hb).2⟩
 refine codeAny_forLoop_any (λ n s'=>∃ i σ' H',Inv X pins σ' H' s'/\tn i s'.heap/\(∀ b∈fp,H' b=none)/\W i n σ' H') ?_ m0 ⟨0,σ,H2,I2,st2,λ b hb=>(f2 b hb).1,w0⟩
 rintro n s3 ⟨i,σ3,H3,I3,st3,fr3,w3⟩
 rcases turn i n σ3 H3 w3 with ⟨stop,qn⟩ | ⟨go,N,hN,step⟩
 . refine wpAny_passesOwn hp (thn (T.done X rfl rfl rfl hc i pins s3 σ3 H3 X.xe I3 (stat fr3) st3 stop) λ r s4 ⟨hr,I4⟩=>?_)
   subst hr
   exact wpAny_execs_nil ⟨σ3,H3,I4,qn⟩
 . refine wpAny_passesOwn hp (thn (T.item X rfl rfl rfl hc i pins s3 σ3 H3 X.xe I3 (stat fr3) st3 go) λ r s4 ⟨u,hr,h4⟩=>?_)
   subst hr
   refine wpAny_passesOwn hp (thn h4 λ _ s5 ⟨x,H5,I5,r5,y5,st5,fr5⟩=>?_)
   have I5':=I5.pinned (stat fr5) (T.obj _ _ st5)
   refine wpAny_passesOwn hp (thn (hg _ s5 σ3 H5 x u _ I5' r5 (step x H5 y5)) λ _ s6 ⟨σ6,H6,I6,q6⟩=>?_)
   refine wpAny_passesOwn hp (thn (hb _ s6 σ6 H6 _ I6 q6) λ f s7 q7=>?_)
   have again:∀ {σ7:St} {H7:Hp},Inv X (pins++zkH fp s5.heap) σ7 H7 s7->N σ7 H7->∃ m,m < n/\∃ i σ' H',Inv X pins σ' H' s7/\tn i s7.heap/\(∀ b∈fp,H' b=none)/\W i m σ' H':=λ {σ7 H7} I7 n7=>by
    obtain ⟨m',hm,w7⟩:=hN σ7 H7 n7
    refine ⟨m',hm,i+1,σ7,H7,I7.zjk,T.keep _ _ _ st5 λ b hb o e=>(I7.pin (b,o) (List.mem_append_right _ (List.mem_append_right _ (zgj hb e)))).1,λ b hb=>?_,w7⟩
    obtain ⟨o,e,d⟩:=T.obj _ _ st5 b hb
    exact (I7.pin (b,o) (List.mem_append_right _ (List.mem_append_right _ (zgj hb e)))).2.1
   cases f with
   | next=>obtain ⟨σ7,H7,I7,n7⟩:=q7; exact again I7 n7
   | cont=>obtain ⟨σ7,H7,I7,n7⟩:=q7; exact again I7 n7
   | brk=>obtain ⟨σ7,H7,I7,q7⟩:=q7; exact ⟨σ7,H7,I7.zjk,q7⟩
   | ret v=>obtain ⟨x7,σ7,H7,I7,r7,q7⟩:=q7; exact ⟨x7,σ7,H7,I7.zjk,r7,q7⟩
end
theorem zeA {K:PySem.W.Frag} {a:Addr} {xs:List V} {g:TG} {tb:TS} {D:Ends} {σ:St} {H:Hp} (Pv:Nat->St->Hp->Prop) (h0:Pv 0 σ H) (hl:∀ i σ H,i<=xs.length->Pv i σ H->SqL K H a xs)
   (hs:∀ i x σ H,xs[i]?=some x->Pv i σ H->g x σ H λ σ2 H2=>tb { D with nx:=Pv (i+1),ct:=Pv (i+1),bk:=D.nx } σ2 H2) (hd:∀ σ H,Pv xs.length σ H->D.nx σ H) :
   ∃ W:Nat->Nat->St->Hp->Prop,(∃ m,W 0 m σ H)/\∀ i m σ H,W i m σ H ->
    ((Itl K a).stop i H/\D.nx σ H)\/((Itl K a).go i H/\∃ N:St->Hp->Prop,(∀ σ' H',N σ' H'->∃ m',m' < m/\W (i+1) m' σ' H')/\∀ x H',(Itl K a).yld i H x H'->g x σ H' λ σ2 H2=>tb { D with nx:=N,ct:=N,bk:=D.nx } σ2 H2):=by
 refine ⟨λ i m σ H=>m=xs.length - i/\i<=xs.length/\Pv i σ H,⟨xs.length,by simp,Nat.zero_le _,h0⟩,?_⟩
 rintro i m σ H ⟨rfl,hi,p⟩
 have q:=hl i σ H hi p
 by_cases hlt:i < xs.length
 . refine .inr ⟨⟨xs,xs[i],q,by simp [hlt]⟩,Pv (i+1),λ σ' H' p'=>⟨xs.length - (i+1),by omega,rfl,hlt,p'⟩,λ x H' y=>?_⟩
   obtain ⟨e,y⟩:=y
   subst e
   exact hs i x σ _ (y xs q) p
 . have e:i=xs.length:=by omega
   subst e
   exact .inl ⟨⟨xs,q,Nat.le_refl _⟩,hd σ H p⟩
theorem zpH {K:PySem.W.Frag} {a:Addr} {xs:List V} {g:TG} {tb:TS} {D:Ends} {σ:St} {H:Hp} (Pv:Nat->St->Hp->Prop) (h0:Pv 0 σ H) (hl:∀ i σ H,i<=xs.length->Pv i σ H->SqT K H a xs)
   (hs:∀ i x σ H,xs[i]?=some x->Pv i σ H->g x σ H λ σ2 H2=>tb { D with nx:=Pv (i+1),ct:=Pv (i+1),bk:=D.nx } σ2 H2) (hd:∀ σ H,Pv xs.length σ H->D.nx σ H) :
   ∃ W:Nat->Nat->St->Hp->Prop,(∃ m,W 0 m σ H)/\∀ i m σ H,W i m σ H ->
    ((Itt K a).stop i H/\D.nx σ H)\/((Itt K a).go i H/\∃ N:St->Hp->Prop,(∀ σ' H',N σ' H'->∃ m',m' < m/\W (i+1) m' σ' H')/\∀ x H',(Itt K a).yld i H x H'->g x σ H' λ σ2 H2=>tb { D with nx:=N,ct:=N,bk:=D.nx } σ2 H2):=by
 refine ⟨λ i m σ H=>m=xs.length - i/\i<=xs.length/\Pv i σ H,⟨xs.length,by simp,Nat.zero_le _,h0⟩,?_⟩
 rintro i m σ H ⟨rfl,hi,p⟩
 have q:=hl i σ H hi p
 by_cases hlt:i < xs.length
 . refine .inr ⟨⟨xs,xs[i],q,by simp [hlt]⟩,Pv (i+1),λ σ' H' p'=>⟨xs.length - (i+1),by omega,rfl,hlt,p'⟩,λ x H' y=>?_⟩
   obtain ⟨e,y⟩:=y
   subst e
   exact hs i x σ _ (y xs q) p
 . have e:i=xs.length:=by omega
   subst e
   exact .inl ⟨⟨xs,q,Nat.le_refl _⟩,hd σ H p⟩
theorem zlj {lo:Int} {n:Nat} {g:TG} {tb:TS} {D:Ends} {σ:St} {H:Hp} (Pv:Nat->St->Hp->Prop) (h0:Pv 0 σ H)
   (hs:∀ i σ H,i < n->Pv i σ H->g (.int (lo+i)) σ H λ σ2 H2=>tb { D with nx:=Pv (i+1),ct:=Pv (i+1),bk:=D.nx } σ2 H2) (hd:∀ σ H,Pv n σ H->D.nx σ H) :
   ∃ W:Nat->Nat->St->Hp->Prop,(∃ m,W 0 m σ H)/\∀ i m σ H,W i m σ H ->
    ((Itr lo n).stop i H/\D.nx σ H)\/((Itr lo n).go i H/\∃ N:St->Hp->Prop,(∀ σ' H',N σ' H'->∃ m',m' < m/\W (i+1) m' σ' H')/\∀ x H',(Itr lo n).yld i H x H'->g x σ H' λ σ2 H2=>tb { D with nx:=N,ct:=N,bk:=D.nx } σ2 H2):=by
 refine ⟨λ i m σ H=>m=n - i/\i<=n/\Pv i σ H,⟨n,by simp,Nat.zero_le _,h0⟩,?_⟩
 rintro i m σ H ⟨rfl,hi,p⟩
 by_cases hlt:i < n
 . refine .inr ⟨hlt,Pv (i+1),λ σ' H' p'=>⟨n - (i+1),by omega,rfl,hlt,p'⟩,λ x H' y=>?_⟩
   obtain ⟨e,y⟩:=y
   subst e y
   exact hs i σ _ hlt p
 . have e:i=n:=by omega
   subst e
   exact .inl ⟨Nat.le_refl _,hd σ H p⟩
end L2
namespace L2
open PySem PySem.Spec PyProof.Rows
abbrev R2:=V->V->Hp->VK->Prop
def OpR (X:Cx) (f:Value->Value->Sem Value) (r:R2):Prop :=
 ∀ (pins:List (Addr×Obj)) (s:Shared) (σ:St) (H:Hp) (x y:V) (v u:Value) (Q:VK),Inv X pins σ H s->RelV x v->RelV y u->r x y H Q ->
  wpAny (model X.prog X.w) X.A (f v u) (EP X pins σ Q) X.xe s
def UnR (X:Cx) (f:Value->Sem Value) (r:V->Hp->VK->Prop):Prop :=
 ∀ (pins:List (Addr×Obj)) (s:Shared) (σ:St) (H:Hp) (x:V) (v:Value) (Q:VK),Inv X pins σ H s->RelV x v->r x H Q ->
  wpAny (model X.prog X.w) X.A (f v) (EP X pins σ Q) X.xe s
def zis (X:Cx) (f:Value) (r:List V->Hp->VK->Prop):Prop :=
 ∀ (pins:List (Addr×Obj)) (s:Shared) (σ:St) (H:Hp) (xs:List V) (us:List Value) (Q:VK),Inv X pins σ H s->Vals xs us->r xs H Q ->
  wpAny (model X.prog X.w) X.A (call f us) (EP X pins σ Q) X.xe s
def tOp (r:R2) (ta tb:TE):TE:=λ σ H Q=>ta σ H λ x H1=>tb σ H1 λ y H2=>r x y H2 Q
def tUn (r:V->Hp->VK->Prop) (ta:TE):TE:=λ σ H Q=>ta σ H λ x H1=>r x H1 Q
def rI (C:Int->Int->Prop) (g:Int->Int->V):R2:=λ x y H Q=>∃ i j,x=.int i/\y=.int j/\C i j/\Q (g i j) H
def rI0 (g:Int->Int->V):R2:=λ x y H Q=>∃ i j,x=.int i/\y=.int j/\Q (g i j) H
def rU (g:Int->V):V->Hp->VK->Prop:=λ x H Q=>∃ i,x=.int i/\Q (g i) H
section
variable {X:Cx} {a b c:Expr} {ta tb tc:TE} {pos:Pos}
theorem binT (ha:PE X a ta) (hb:PE X b tb) {pins:List (Addr×Obj)} {s:Shared} {σ:St} {H:Hp} {R:V->V->Hp->Prop} (I:Inv X pins σ H s)
  (h:ta σ H λ x H1=>tb σ H1 λ y H2=>R x y H2) {Q:Value->Shared->Prop} {f:Value->Value->Sem Value}
  (hf:∀ v u s2 x y H2,Inv X pins σ H2 s2->RelV x v->RelV y u->R x y H2->wpAny (model X.prog X.w) X.A (f v u) Q X.xe s2) :
  wpAny (model X.prog X.w) X.A (eval a X.env) (λ v s₁=>wpAny (model X.prog X.w) X.A (eval b X.env) (λ u s₂=>wpAny (model X.prog X.w) X.A (f v u) Q X.xe s₂) X.xe s₁) X.xe s:=by
 refine thn (ha pins s σ H _ I h) λ v s1 ⟨x,H1,I1,r1,q1⟩=>?_
 refine thn (hb pins s1 σ H1 _ I1 q1) λ u s2 ⟨y,H2,I2,r2,q2⟩=>?_
 exact hf v u s2 x y H2 I2 r1 r2 q2
theorem zcm {op:Operator} {r:R2} (ho:OpR X (binaryOp op) r) (ha:PE X a ta) (hb:PE X b tb):PE X (.BinOp a op b pos) (tOp r ta tb):=by
 intro pins s σ H Q I h
 exact wpAny_BinOp (binT ha hb I h λ v u s2 x y H2 I2 rx ry q=>ho pins s2 σ H2 x y v u Q I2 rx ry q)
theorem zqu {op:UnaryOp} {r:V->Hp->VK->Prop} (ho:UnR X (unaryOp op) r) (ha:PE X a ta):PE X (.UnaryOp op a pos) (tUn r ta):=by
 intro pins s σ H Q I h
 exact UnaryOp_ (thn (ha pins s σ H _ I h) λ v s1 ⟨x,H1,I1,r1,q1⟩=>ho pins s1 σ H1 x v Q I1 r1 q1)
theorem opI {f:Value->Value->Sem Value} {C:Int->Int->Prop} {g:Int->Int->Int}
  (rule:∀ (i j:Int) (t u:Tok) (s:Shared) (Q:Value->Shared->Prop) (E:Value->Shared->Prop),C i j->Q (.int (g i j) s.toks) { s with toks:=s.toks+1 }->wpAny (model X.prog X.w) X.A (f (.int i t) (.int j u)) Q E s) :
  OpR X f (rI C λ i j=>.int (g i j)):=by
 intro pins s σ H x y v u Q I rx ry h
 obtain ⟨i,j,rfl,rfl,hc,q⟩:=h
 obtain ⟨t,rfl⟩:=rx
 obtain ⟨t',rfl⟩:=ry
 exact rule i j t t' s _ _ hc ⟨.int (g i j),H,I.tok _,⟨_,rfl⟩,q⟩
theorem opI0 {f:Value->Value->Sem Value} {g:Int->Int->Int}
  (rule:∀ (i j:Int) (t u:Tok) (s:Shared) (Q:Value->Shared->Prop) (E:Value->Shared->Prop),Q (.int (g i j) s.toks) { s with toks:=s.toks+1 }->wpAny (model X.prog X.w) X.A (f (.int i t) (.int j u)) Q E s) :
  OpR X f (rI0 λ i j=>.int (g i j)):=by
 intro pins s σ H x y v u Q I rx ry h
 obtain ⟨i,j,rfl,rfl,q⟩:=h
 obtain ⟨t,rfl⟩:=rx
 obtain ⟨t',rfl⟩:=ry
 exact rule i j t t' s _ _ ⟨.int (g i j),H,I.tok _,⟨_,rfl⟩,q⟩
theorem opB0 {f:Value->Value->Sem Value} {g:Int->Int->Bool}
  (rule:∀ (i j:Int) (t u:Tok) (s:Shared) (Q:Value->Shared->Prop) (E:Value->Shared->Prop),Q (.bool (g i j)) s->wpAny (model X.prog X.w) X.A (f (.int i t) (.int j u)) Q E s) :
  OpR X f (rI0 λ i j=>.bl (g i j)):=by
 intro pins s σ H x y v u Q I rx ry h
 obtain ⟨i,j,rfl,rfl,q⟩:=h
 obtain ⟨t,rfl⟩:=rx
 obtain ⟨t',rfl⟩:=ry
 exact rule i j t t' s _ _ ⟨.bl (g i j),H,I,rfl,q⟩
def CDiv (i j:Int):Prop:=0 < j/\j < 1073741824
def CPow (i j:Int):Prop:=0<=j/\j<=1000000/\i.natAbs < 2 ^ 64
def CMul (i j:Int):Prop:=(-(2 ^ 64) < i/\i < 2 ^ 64)\/(-(2 ^ 64) < j/\j < 2 ^ 64)
theorem CMul.ok {i j:Int} (h:CMul i j):IntMulOk i j:=by
 rcases h with ⟨h1,h2⟩ | ⟨h1,h2⟩
 . exact .of_left (intBits_le_64 h1 h2)
 . exact .of_right (intBits_le_64 h1 h2)
theorem zgG:OpR X (binaryOp .Add) (rI0 λ i j=>.int (i+j)):=opI0 λ _ _ _ _ _ _ _ q=>add_int q
theorem zo3:OpR X (binaryOp .Sub) (rI0 λ i j=>.int (i - j)):=opI0 λ _ _ _ _ _ _ _ q=>sub_int q
theorem zkL:OpR X (binaryOp .Mult) (rI CMul λ i j=>.int (i * j)):=opI λ _ _ _ _ _ _ _ hc q=>mul_int q hc.ok
theorem zr4:OpR X (binaryOp .FloorDiv) (rI CDiv λ i j=>.int (i / j)):=opI λ i j _ _ _ _ _ hc q=>by
 have h1:(0:Int) < j:=hc.1
 have h2:j < 1073741824:=hc.2
 exact floordiv_int (by omega) (by rw [Int.fdiv_eq_ediv_of_nonneg i (by omega)]; exact q) (.inl (PyProof.noPylong_small (by omega)))
theorem zhE:OpR X (binaryOp .Mod) (rI (λ _ j=>0 < j) λ i j=>.int (i % j)):=opI λ i j _ _ _ _ _ hc q=>by
 have h1:(0:Int) < j:=hc
 exact mod_int' (by omega) (by rw [Int.fmod_eq_emod_of_nonneg i (by omega)]; exact q)
theorem ztj:OpR X (binaryOp .Pow) (rI CPow λ i j=>.int (i ^ j.toNat)):=opI λ _ _ _ _ _ _ _ hc q=>pow_int_small hc.1 hc.2.1 hc.2.2 q
theorem unI {f:Value->Sem Value} {g:Int->Int}
  (rule:∀ (i:Int) (t:Tok) (s:Shared) (Q:Value->Shared->Prop) (E:Value->Shared->Prop),Q (.int (g i) s.toks) { s with toks:=s.toks+1 }->wpAny (model X.prog X.w) X.A (f (.int i t)) Q E s) :
  UnR X f (rU λ i=>.int (g i)):=by
 intro pins s σ H x v Q I rx h
 obtain ⟨i,rfl,q⟩:=h
 obtain ⟨t,rfl⟩:=rx
 exact rule i t s _ _ ⟨.int (g i),H,I.tok _,⟨_,rfl⟩,q⟩
theorem zmU:UnR X (unaryOp .USub) (rU λ i=>.int (-i)):=unI λ _ _ _ _ _ q=>neg_int q
end
def scal:V->V->Bool
 | .non,.non=>true | .non,.int _=>true | .int _,.non=>true | .non,.bl _=>true | .bl _,.non=>true | .non,.str _=>true | .str _,.non=>true
 | .int _,.int _=>true | .bl _,.bl _=>true | .str _,.str _=>true | .byt _,.byt _=>true
 | .int _,.str _=>true | .str _,.int _=>true | .bl _,.str _=>true | .str _,.bl _=>true
 | _,_=>false
def rEq:R2:=λ x y H Q=>scal x y=true/\Q (.bl (decide (x=y))) H
def rNe:R2:=λ x y H Q=>scal x y=true/\Q (.bl (!decide (x=y))) H
theorem zpT {i j:Int}:decide (V.int i=V.int j)=(i == j):=by
 rw [Bool.eq_iff_iff]
 simp
theorem zrr {i j:Bool}:decide (V.bl i=V.bl j)=(i == j):=by
 rw [Bool.eq_iff_iff]
 simp
theorem zpS {i j:Str}:decide (V.str i=V.str j)=(i == j):=by
 rw [Bool.eq_iff_iff]
 simp
theorem zpU {i j:Array UInt8}:decide (V.byt i=V.byt j)=(i.toList == j.toList):=by
 rw [Bool.eq_iff_iff]
 cases i
 cases j
 simp
section
variable {X:Cx} {a b c:Expr} {ta tb tc:TE} {pos:Pos}
theorem za9 {pins:List (Addr×Obj)} {σ:St} {H:Hp} {s:Shared} {Q:VK} {k k':Bool} (I:Inv X pins σ H s) (q:Q (.bl k) H) (e:k=k'):EP X pins σ Q (.bool k') s:=by
 subst e
 exact ⟨.bl k,H,I,rfl,q⟩
theorem zb3:OpR X (compareOp .Eq) rEq:=by
 intro pins s σ H x y v u Q I rx ry h
 obtain ⟨hs,q⟩:=h
 cases x with
 | non =>
  cases rx
  cases y with
  | non=>cases ry; exact PySem.EqNone.eq_none_none (za9 I q (by simp))
  | bl j=>cases ry; exact PySem.EqNone.eq_none_bool (za9 I q (by simp))
  | int j=>obtain ⟨t',rfl⟩:=ry; exact PySem.EqNone.eq_none_int (za9 I q (by simp))
  | str j=>obtain ⟨t',rfl⟩:=ry; exact PySem.EqNone.eq_none_str (za9 I q (by simp))
  | _=>exact absurd (show false=true from hs) Bool.false_ne_true
 | bl i =>
  cases rx
  cases y with
  | non=>cases ry; exact PySem.EqNone.eq_bool_none (za9 I q (by simp))
  | bl j=>cases ry; exact eq_bool (za9 I q zrr)
  | str j=>obtain ⟨t',rfl⟩:=ry; exact PySem.EqMixed.eq_bool_str (za9 I q (by simp))
  | _=>exact absurd (show false=true from hs) Bool.false_ne_true
 | int i =>
  obtain ⟨t,rfl⟩:=rx
  cases y with
  | non=>cases ry; exact PySem.EqNone.eq_int_none (za9 I q (by simp))
  | int j=>obtain ⟨t',rfl⟩:=ry; exact eq_int (za9 I q zpT)
  | str j=>obtain ⟨t',rfl⟩:=ry; exact PySem.EqMixed.eq_int_str (za9 I q (by simp))
  | _=>exact absurd (show false=true from hs) Bool.false_ne_true
 | str i =>
  obtain ⟨t,rfl⟩:=rx
  cases y with
  | non=>cases ry; exact PySem.EqNone.eq_str_none (za9 I q (by simp))
  | bl j=>cases ry; exact PySem.EqMixed.eq_str_bool (za9 I q (by simp))
  | int j=>obtain ⟨t',rfl⟩:=ry; exact PySem.EqMixed.eq_str_int (za9 I q (by simp))
  | str j=>obtain ⟨t',rfl⟩:=ry; exact eq_str (za9 I q zpS)
  | _=>exact absurd (show false=true from hs) Bool.false_ne_true
 | byt i =>
  obtain ⟨t,rfl⟩:=rx
  cases y with
  | byt j=>obtain ⟨t',rfl⟩:=ry; exact PySem.W.eq_bytes (za9 I q zpU)
  | _=>exact absurd (show false=true from hs) Bool.false_ne_true
 | _=>cases y <;> exact absurd (show false=true from hs) Bool.false_ne_true
theorem zo5:OpR X (compareOp .NotEq) rNe:=by
 intro pins s σ H x y v u Q I rx ry h
 obtain ⟨hs,q⟩:=h
 cases x with
 | non =>
  cases rx
  cases y with
  | non=>cases ry; exact PySem.EqNone.ne_none_none (za9 I q (by simp))
  | bl j=>cases ry; exact PySem.EqNone.ne_none_bool (za9 I q (by simp))
  | int j=>obtain ⟨t',rfl⟩:=ry; exact PySem.EqNone.ne_none_int (za9 I q (by simp))
  | str j=>obtain ⟨t',rfl⟩:=ry; exact PySem.EqNone.ne_none_str (za9 I q (by simp))
  | _=>exact absurd (show false=true from hs) Bool.false_ne_true
 | bl i =>
  cases rx
  cases y with
  | non=>cases ry; exact PySem.EqNone.ne_bool_none (za9 I q (by simp))
  | bl j=>cases ry; exact ne_bool (za9 I q (congrArg not zrr))
  | str j=>obtain ⟨t',rfl⟩:=ry; exact PySem.EqMixed.ne_bool_str (za9 I q (by simp))
  | _=>exact absurd (show false=true from hs) Bool.false_ne_true
 | int i =>
  obtain ⟨t,rfl⟩:=rx
  cases y with
  | non=>cases ry; exact PySem.EqNone.ne_int_none (za9 I q (by simp))
  | int j=>obtain ⟨t',rfl⟩:=ry; exact ne_int (za9 I q (congrArg not zpT))
  | str j=>obtain ⟨t',rfl⟩:=ry; exact PySem.EqMixed.ne_int_str (za9 I q (by simp))
  | _=>exact absurd (show false=true from hs) Bool.false_ne_true
 | str i =>
  obtain ⟨t,rfl⟩:=rx
  cases y with
  | non=>cases ry; exact PySem.EqNone.ne_str_none (za9 I q (by simp))
  | bl j=>cases ry; exact PySem.EqMixed.ne_str_bool (za9 I q (by simp))
  | int j=>obtain ⟨t',rfl⟩:=ry; exact PySem.EqMixed.ne_str_int (za9 I q (by simp))
  | str j=>obtain ⟨t',rfl⟩:=ry; exact ne_str (za9 I q (congrArg not zpS))
  | _=>exact absurd (show false=true from hs) Bool.false_ne_true
 | byt i =>
  obtain ⟨t,rfl⟩:=rx
  cases y with
  | byt j=>obtain ⟨t',rfl⟩:=ry; exact PySem.W.ne_bytes (za9 I q (congrArg not zpU))
  | _=>exact absurd (show false=true from hs) Bool.false_ne_true
 | _=>cases y <;> exact absurd (show false=true from hs) Bool.false_ne_true
theorem zlY:OpR X (compareOp .Lt) (rI0 λ i j=>.bl (decide (i < j))):=opB0 λ _ _ _ _ _ _ _ q=>lt_int q
theorem zr3:OpR X (compareOp .Gt) (rI0 λ i j=>.bl (decide (j < i))):=opB0 λ _ _ _ _ _ _ _ q=>gt_int q
theorem zt8:OpR X (compareOp .GtE) (rI0 λ i j=>.bl (decide (j<=i))):=opB0 λ _ _ _ _ _ _ _ q=>ge_int q
theorem zaD (b:Expr) {op:CmpOp} (h:op≠.In:=by decide) (h2:op≠.NotIn:=by decide):behindInMarks op b=false:=by
 have e1:(op == CmpOp.In)=false:=by cases op <;> first | rfl | exact absurd rfl h
 have e2:(op == CmpOp.NotIn)=false:=by cases op <;> first | rfl | exact absurd rfl h2
 cases b <;> simp [behindInMarks,e1,e2]
theorem zdd {op:CmpOp} {r:R2} (ho:OpR X (compareOp op) r) (ha:PE X a ta) (hb:PE X b tb) (hm:behindInMarks op b=false):PE X (.Compare a [op] [b] pos) (tOp r ta tb):=by
 intro pins s σ H Q I h
 exact wpAny_Compare1 (binT ha hb I h λ v u s2 x y H2 I2 rx ry q=>ho pins s2 σ H2 x y v u Q I2 rx ry q) hm
def zrz (t:TE):TT:=λ σ H Q=>t σ H λ x H'=>∃ k,x=.bl k/\Q k H'
theorem zaA {op:CmpOp} {r:R2} (ho:OpR X (compareOp op) r) (ha:PE X a ta) (hb:PE X b tb) (hm:behindInMarks op b=false):PT X (.Compare a [op] [b] pos) (zrz (tOp r ta tb)):=by
 intro pins s σ H Q I h
 refine wpAny_isTrue_Compare1 (thn (ha pins s σ H _ I h) λ v s1 ⟨x,H1,I1,r1,q1⟩=>thn (hb pins s1 σ H1 _ I1 q1) λ u s2 ⟨y,H2,I2,r2,q2⟩ =>
  thn (ho pins s2 σ H2 x y v u _ I2 r1 r2 q2) λ c s3 ⟨z,H3,I3,r3,k,e,q3⟩=>?_) hm
 subst e
 cases r3
 exact wpAny_truthy_bool ⟨H3,I3,q3⟩
theorem znd:(sizeLine:Nat) < 2 ^ 63:=by rw [sizeLine_eq]; decide
theorem ziY:OpR X (binaryOp .Add) (λ x y H Q=>∃ i j,x=.str i/\y=.str j/\i.length+j.length<=sizeLine/\Q (.str (i++j)) H):=by
 intro pins s σ H x y v u Q I rx ry h
 obtain ⟨i,j,rfl,rfl,hz,q⟩:=h
 obtain ⟨t,rfl⟩:=rx
 obtain ⟨t',rfl⟩:=ry
 exact add_str (λ t' tk=>⟨.str (i++j),H,I.tok _,⟨_,rfl⟩,q⟩) hz
theorem vals1 {x:V} {us:List Value} (r:Vals [x] us):∃ u,us=[u]/\RelV x u:=by
 cases r with
 | cons r1 r2=>cases r2; exact ⟨_,rfl,r1⟩
theorem zfW:zis X (.type "int") (λ xs H Q=>(∃ i,xs=[.int i]/\Q (.int i) H)\/∃ k,xs=[.bl k]/\Q (.int (if k then 1 else 0)) H):=by
 intro pins s σ H xs us Q I r h
 rcases h with ⟨i,rfl,q⟩ | ⟨k,rfl,q⟩
 . obtain ⟨u,rfl,t,rfl⟩:=vals1 r
   exact call_int_int ⟨.int i,H,I,⟨_,rfl⟩,q⟩
 . obtain ⟨u,rfl,r1⟩:=vals1 r
   cases r1
   exact call_int_bool ⟨.int (if k then 1 else 0),H,I.tok _,⟨_,rfl⟩,q⟩
end
end L2
namespace L2
open PySem PySem.Spec PyProof.Rows
structure ObjM (h:Heap) (x dx C:Addr) (mA:Str->Option Value):Prop where
 obj:h.get? x=some (PySem.W.instObj C dx)
 ns:h.Ns1 dx mA
 ne:dx≠x
theorem zpj {h:Heap} {dx:Addr} {mA:Str->Option Value} (n:h.Ns1 dx mA):∃ od,h.get? dx=some od/\∀ name,PySem.W.lookIn name od=some (mA name):=by
 obtain ⟨o,es,ep,ho,hd,hk,_,hm⟩:=n
 refine ⟨o,ho,λ name=>?_⟩
 have e:=hm name
 unfold nsFind findBy at e
 rw [<-Array.find?_toList] at e
 unfold PySem.W.lookIn
 rw [hd]
 dsimp only
 split
 . rename_i y q
   rw [q] at e
   exact congrArg some e
 . rename_i q
   rw [q] at e
   have a:es.toList.any (·.refKey)=false:=by
    rw [List.any_eq_false]
    intro y hy
    obtain ⟨z,t,hkey⟩:=hk y (Array.mem_toList_iff.mp hy)
    simp [DictEntry.refKey,hkey]
   have a':¬ es.toList.any (·.refKey)=true:=by rw [a]; exact Bool.false_ne_true
   rw [if_neg a']
   exact congrArg some e
theorem ObjM.look {h:Heap} {x dx C:Addr} {mA:Str->Option Value} (I:ObjM h x dx C mA):∃ od,PySem.W.InstAt h x (PySem.W.instObj C dx) C (some od)/\∀ name,PySem.W.lookIn name od=some (mA name) :=
 let ⟨od,ho,hl⟩:=zpj I.ns
 ⟨od,⟨I.obj,rfl,rfl,ho⟩,hl⟩
section
variable {prog:Program} {w:World} {A:Around} {E:Value->Shared->Prop} {s:Shared} {K:PySem.W.Frag} {x dx C f:Addr} {mA:Str->Option Value} {name:Str} {v:Value}
theorem get_map {expr:Bool} {Q:Value->Shared->Prop} (X:K.In s.heap) (I:ObjM s.heap x dx C mA) (hg:PySem.W.plainGet K C name=true) (hh:PySem.W.hasDictIn K C=true)
  (ha:PySem.W.findIn K (.ref C) name=some none) (hv:mA name=some v) (hv':PySem.W.handedIn v=true) (h:Q v { s with toks:=s.toks+1 }) :
  wpAny (model prog w) A (getAttr (.ref x) name expr) Q E s:=by
 obtain ⟨od,J,hl⟩:=I.look
 exact PySem.W.get_value X J (PySem.W.plainGet_of hg).1 (PySem.W.findObj_own hh ha rfl (by rw [hl,hv])) hv' h
theorem zqT {pl:Sem Bool} {Q:Value×List Value->Shared->Prop} (X:K.In s.heap) (I:ObjM s.heap x dx C mA) (hg:PySem.W.plainGet K C name=true)
  (hf:PySem.W.findIn K (.ref C) name=some (some (.ref f))) (ht:PySem.W.isFn K (.ref f)=true) (hv:mA name=none) (h:Q (.ref f,[.ref x]) s) :
  wpAny (model prog w) A (getMethod (.ref x) name pl) Q E s:=by
 obtain ⟨od,J,hl⟩:=I.look
 exact PySem.W.method_fn X J (PySem.W.plainGet_of hg).1 (PySem.W.plainGet_of hg).2 hf (beq_iff_eq.mp ht) (by show (PySem.W.lookIn name od).map (·.isSome)=some false; rw [hl,hv]; rfl) h
theorem zrR {ns:List Str} {Q:Unit->Shared->Prop} (X:K.In s.heap) (I:ObjM s.heap x dx C mA)
  (hs:PySem.W.findIn K (.ref C) "__setattr__" = some (some (.builtin "object.__setattr__"))) (hp:PySem.W.plainOver K C=true) (ht:PySem.W.takerIn K C name=some none) (hh:PySem.W.hasDictIn K C=true)
  (hw:PySem.Within mA ns) (hsz:ns.length<=sizeLine)
  (h:∀ h',ObjM h' x dx C (λ y=>if y=name then some v else mA y)->Heap.SameBut dx s.heap h'->Q () { s with heap:=h',toks:=s.toks+2 }) :
  wpAny (model prog w) A (setAttr (.ref x) name v) Q E s:=by
 obtain ⟨od,J,hl⟩:=I.look
 refine PySem.W.set_plain X J hs (PySem.W.osa_open (s:={ s with toks:=s.toks+1 }) (r:=none) X J hp ht λ b=>?_)
 obtain ⟨cd,hc,hd'⟩:=PySem.W.any_some hh
 have hx:s.heap.get? x=some ⟨.ref C,some dx,.plain,#[]⟩:=I.obj
 refine wpAny_bind (wpAny_pure (wpAny_bind (wpAny_bind (wpAny_loadPart hx (wpAny_bind (PySem.W.Looks.here (s:={ s with toks:=s.toks+1 }) (PySem.W.looks_clsIn X hc) ?_))))))
 rw [hd']
 refine wpAny_pure (a:=some dx) (wpAny_bind (wpAny_pure (wpAny_bind ?_)))
 refine wpAny_nsSet1 (s:={ s with toks:=s.toks+1 }) I.ns λ h' hn2 hs2=>?_
 obtain ⟨oD,esD,epD,hoD,hdD,hcD⟩:=hn2.count (PySem.Within.cons name v hw)
 refine wpAny_bind (wpAny_lookBehind hoD (by rw [hdD]; exact pastItsLine_dict (Nat.le_trans hcD (by rw [List.length_cons]; omega))) ?_)
 exact wpAny_pure (h _ ⟨(hs2.2 _ (Ne.symm I.ne)).trans I.obj,hn2,I.ne⟩ hs2)
theorem zqD {R:Result->Shared->Prop} {vs:List Value} {kw:List (Str×Value)} (X:K.In s.heap) (hm:PySem.W.makesIn K C=true)
  (hi:PySem.W.findIn K (.ref C) "__init__" = some (some (.ref f))) (hf:PySem.W.typeIn K (.ref f)=some (.type "function"))
  (h:codeAny (model prog w) (A.under (.builtin "type.__call__" ⟨.ref C::vs,kw⟩)) (.call (.ref f) ⟨.ref (s.heap.objs.size+1)::vs,kw⟩) (PySem.W.InitBack (s.heap.objs.size+1) R)
   { s with heap:=(s.heap.push PySem.W.emptyDict).push (PySem.W.instObj C s.heap.objs.size) }) :
  codeAny (model prog w) A (.call (.ref C) ⟨vs,kw⟩) R s:=by
 obtain ⟨hh,g,d,t,os⟩:=s
 exact PySem.W.make_core (PySem.W.makes_of X hm) (PySem.W.looks_findIn X hi) (λ self=>PySem.W.bind_fn X self hf) (.inl rfl) h
end
def putF (f:Str) (v:V):List (Str×V)->List (Str×V)
 | []=>[(f,v)]
 | (g,x)::r=>if g=f then (g,v)::r else (g,x)::putF f v r
theorem zhS (f g:Str) (v:V):∀ fs:List (Str×V),(putF f v fs).lookup g=if g=f then some v else fs.lookup g
 | []=>by
  show List.lookup g [(f,v)]=_
  by_cases h:g=f
  . have hb:(g == f)=true:=beq_iff_eq.mpr h
    simp only [List.lookup,hb,if_pos h]
  . have hb:(g == f)=false:=beq_eq_false_iff_ne.mpr h
    simp only [List.lookup,hb,if_neg h]
 | (k,x)::r=>by
  have ih:=zhS f g v r
  rw [show putF f v ((k,x)::r)=(if k=f then (k,v)::r else (k,x)::putF f v r) from rfl]
  by_cases hk:k=f
  . rw [if_pos hk]
    by_cases h:g=k
    . have hb:(g == k)=true:=beq_iff_eq.mpr h
      simp only [List.lookup,hb,if_pos (h.trans hk)]
    . have hb:(g == k)=false:=beq_eq_false_iff_ne.mpr h
      simp only [List.lookup,hb,if_neg (λ e:g=f=>h (e.trans hk.symm))]
  . rw [if_neg hk]
    by_cases h:g=k
    . have hb:(g == k)=true:=beq_iff_eq.mpr h
      simp only [List.lookup,hb,if_neg (λ e:g=f=>hk (h.symm.trans e))]
    . have hb:(g == k)=false:=beq_eq_false_iff_ne.mpr h
      simp only [List.lookup,hb]
      exact ih
theorem zhX (f:Str) (v:V):∀ fs:List (Str×V),f∈(putF f v fs).map (·.1)/\∀ g,g∈fs.map (·.1)->g∈(putF f v fs).map (·.1)
 | []=>⟨by simp [putF],λ g h=>by simp at h⟩
 | (k,x)::r=>by
  obtain ⟨i1,i2⟩:=zhX f v r
  rw [show putF f v ((k,x)::r)=(if k=f then (k,v)::r else (k,x)::putF f v r) from rfl]
  by_cases hk:k=f
  . rw [if_pos hk]
    subst hk
    exact ⟨by simp,λ g h=>by simpa using h⟩
  . rw [if_neg hk]
    refine ⟨?_,λ g h=>?_⟩
    . rw [List.map_cons]
      exact List.mem_cons_of_mem _ i1
    . rw [List.map_cons] at h ⊢
      rcases List.mem_cons.mp h with e | e
      . exact List.mem_cons.mpr (.inl e)
      . exact List.mem_cons_of_mem _ (i2 g e)
theorem zhW (f:Str) (v:V):∀ fs:List (Str×V),(putF f v fs).length<=fs.length+1
 | []=>by simp [putF]
 | (k,x)::r=>by
  have ih:=zhW f v r
  rw [show putF f v ((k,x)::r)=(if k=f then (k,v)::r else (k,x)::putF f v r) from rfl]
  by_cases hk:k=f
  . rw [if_pos hk,List.length_cons,List.length_cons]; omega
  . rw [if_neg hk,List.length_cons,List.length_cons]; omega
theorem RelO.some_of {v:V} {o:Option Value} (r:RelO (some v) o):∃ u,o=some u/\RelV v u:=by
 cases o with
 | none=>exact (show False from r).elim
 | some u=>exact ⟨u,rfl,r⟩
theorem RelO.none_of {o:Option Value} (r:RelO none o):o=none:=by
 cases o with
 | none=>rfl
 | some u=>exact (show False from r).elim
theorem zpB {v:V} {u:Value} (r:RelV v u):PySem.W.handedIn u=true:=by
 cases v with
 | non=>cases (show u=Value.none from r); rfl
 | bl b=>cases (show u=Value.bool b from r); rfl
 | int i=>obtain ⟨t,e⟩:=(show ∃ t,u=Value.int i t from r); cases e; rfl
 | str x=>obtain ⟨t,e⟩:=(show ∃ t,u=Value.str x t from r); cases e; rfl
 | byt b=>obtain ⟨t,e⟩:=(show ∃ t,u=Value.bytes b t from r); cases e; rfl
 | flt b=>obtain ⟨t,e⟩:=(show ∃ t,u=Value.float b t from r); cases e; rfl
 | ref a=>cases (show u=Value.ref a from r); rfl
 | ty n=>cases (show u=Value.type n from r); rfl
section
variable {P:Program} {w:World} {H H':Hp} {h h':Heap} {a C dx:Addr} {fs fs':List (Str×V)}
theorem zj0 (hok:HOk P w H h) (e:H a=some (.ins C dx fs)):∃ mA,ObjM h a dx C mA/\(∀ f,RelO (fs.lookup f) (mA f))/\PySem.Within mA (fs.map (·.1))/\fs.length<=1000/\H dx=some (.own a):=by
 obtain ⟨d,z,ne,ob,mA,n,r,q⟩:=(show zbY P w H h a (.ins C dx fs) from hok a _ e)
 exact ⟨mA,⟨ob,n,ne⟩,r,q,z,d⟩
end
structure Cls (K:PySem.W.Frag) (C:Addr):Prop where
 pg:PySem.W.plainGet K C Str.empty=true
 hd:PySem.W.hasDictIn K C=true
 po:PySem.W.plainOver K C=true
 sa:PySem.W.findIn K (.ref C) "__setattr__" = some (some (.builtin "object.__setattr__"))
theorem Cls.get {K:PySem.W.Frag} {C:Addr} (c:Cls K C) (f:Str):PySem.W.plainGet K C f=true:=c.pg
def zb2 (K:PySem.W.Frag) (C:Addr) (f:Str):Prop:=PySem.W.findIn K (.ref C) f=some none
theorem zb2.ztP {K:PySem.W.Frag} {C:Addr} {f:Str} (n:zb2 K C f):PySem.W.takerIn K C f=some none:=by
 unfold PySem.W.takerIn
 rw [show PySem.W.findIn K (.ref C) f=some none from n]
 rfl
structure Meth (K:PySem.W.Frag) (C:Addr) (m:Str) (f:Addr):Prop where
 at_:PySem.W.findIn K (.ref C) m=some (some (.ref f))
 fn:PySem.W.isFn K (.ref f)=true
 kp:PySem.W.keepIn K (.ref f)=true
section
variable {X:Cx} {pins:List (Addr×Obj)} {σ:St} {H:Hp} {s:Shared} {a C dx:Addr} {fs:List (Str×V)} {f:Str} {v:V} {A:Around} {E:Value->Shared->Prop}
theorem zn6 {b:Bool} {Q:Value->Shared->Prop} (I:Inv X pins σ H s) (e:H a=some (.ins C dx fs)) (c:Cls X.K C) (n:zb2 X.K C f) (l:fs.lookup f=some v)
  (h:∀ u s',Inv X pins σ H s'->RelV v u->Q u s'):wpAny (model X.prog X.w) A (getAttr (.ref a) f b) Q E s:=by
 obtain ⟨mA,O,r,_,_,_⟩:=zj0 I.hok e
 obtain ⟨u,hu,ru⟩:=RelO.some_of (v:=v) (o:=mA f) (by rw [<-l]; exact r f)
 exact get_map I.kIn O (c.get f) c.hd n hu (zpB ru) (h u _ (I.tok _) ru)
theorem zgr {m:Str} {g:Addr} {pl:Sem Bool} {Q:Value×List Value->Shared->Prop} (I:Inv X pins σ H s) (e:H a=some (.ins C dx fs)) (c:Cls X.K C) (k:Meth X.K C m g) (l:fs.lookup m=none)
  (h:Q (.ref g,[.ref a]) s):wpAny (model X.prog X.w) A (getMethod (.ref a) m pl) Q E s:=by
 obtain ⟨mA,O,r,_,_,_⟩:=zj0 I.hok e
 have hn:mA m=none:=RelO.none_of (by rw [<-l]; exact r m)
 exact zqT I.kIn O (c.get m) k.at_ k.fn hn h
theorem znP {y:V} {u:Value} {Q:Unit->Shared->Prop} (I:Inv X pins σ H s) (e:H a=some (.ins C dx fs)) (c:Cls X.K C) (n:zb2 X.K C f) (hl:fs.length < 1000) (ry:RelV y u)
   (h:∀ s',Inv X pins σ (upd H a (.ins C dx (putF f y fs))) s'->Q () s'):wpAny (model X.prog X.w) A (setAttr (.ref a) f u) Q E s:=by
 obtain ⟨mA,O,r,wi,_,ho⟩:=zj0 I.hok e
 have hz:(fs.map (·.1)).length<=sizeLine:=by rw [List.length_map,sizeLine_eq]; omega
 refine zrR I.kIn O c.sa c.po n.ztP c.hd wi hz λ h' O' sb=>h _ ?_
 have hd:∃ o,h'.get? dx=some o:=let ⟨o,_,_,e',_⟩:=O'.ns; ⟨o,e'⟩
 refine I.write (x:=a) (e:=dx) (by rw [e]; exact True.intro) (.inr ho) (λ b q hb z=>(sb.2 b hb).trans z) hd ?_
 refine ⟨by rw [zaf O.ne]; exact ho,?_,O.ne,O'.obj,_,O'.ns,λ g=>?_,λ g hg=>?_⟩
 . have:=zhW f y fs; omega
 . show RelO ((putF f y fs).lookup g) (if g=f then some u else mA g)
   rw [zhS]
   by_cases q:g=f
   . rw [if_pos q,if_pos q]; exact ry
   . rw [if_neg q,if_neg q]; exact r g
 . by_cases q:g=f
   . rw [q]; exact (zhX f y fs).1
   . refine (zhX f y fs).2 g (wi g λ z=>hg ?_)
     show (if g=f then some u else mA g)=none
     rw [if_neg q]; exact z
theorem Inv.made (I:Inv X pins σ H s):Inv X pins σ (upd (upd H s.heap.objs.size (.own (s.heap.objs.size+1))) (s.heap.objs.size+1) (.ins C s.heap.objs.size []))
  { s with heap:=(s.heap.push PySem.W.emptyDict).push (PySem.W.instObj C s.heap.objs.size) }:=by
 have e1:(s.heap.push PySem.W.emptyDict).get? s.heap.objs.size=some PySem.W.emptyDict:=Heap.get?_push_size s.heap rfl
 have e2:((s.heap.push PySem.W.emptyDict).push (PySem.W.instObj C s.heap.objs.size)).get? (s.heap.objs.size+1)=some (PySem.W.instObj C s.heap.objs.size):=by
  have:=Heap.get?_push_size (s.heap.push PySem.W.emptyDict) (o:=PySem.W.instObj C s.heap.objs.size) rfl
  rwa [Heap.size_push] at this
 have e3:(s.heap.push PySem.W.emptyDict).Ns s.heap.objs.size (λ _=>none):=⟨PySem.W.emptyDict,#[],_,e1,rfl,(λ e he=>absurd he (by simp)),λ _=>rfl⟩
 have I1:=I.laid (a:=s.heap.objs.size) (o:=.own (s.heap.objs.size+1)) (h':=s.heap.push PySem.W.emptyDict) (t':=s.toks) (λ b u q=>Heap.get?_push_of_some _ q) (Nat.le_refl _) ⟨_,e1⟩
 refine I1.laid (a:=s.heap.objs.size+1) (o:=.ins C s.heap.objs.size []) (t':=s.toks) (λ b u q=>Heap.get?_push_of_some _ q) (Nat.le_of_eq (Heap.size_push _ _)) ?_
 have ne:s.heap.objs.size≠s.heap.objs.size+1:=Nat.ne_of_lt (Nat.lt_succ_self _)
 refine ⟨by rw [zaf ne,zab],Nat.zero_le _,ne,e2,λ _=>none,(Heap.Ns1.of_empty e3).at λ o q=>Heap.get?_push_of_some _ q,λ _=>True.intro,λ y hy=>absurd rfl hy⟩
theorem zsu {prog:Program} {w:World} {env:Env} {e:Expr} {f:Str} {pos:Pos} {s:Shared} {Q:Value->Shared->Prop} (hb:attributeBase e f env (eval e env)=eval e env)
  (h:wpAny (model prog w) A (eval e env) (λ o s₁=>wpAny (model prog w) A (getAttr o f true) Q E s₁) E s):wpAny (model prog w) A (eval (.Attribute e f pos) env) Q E s :=
 Attribute_any_ h (by rw [arm_eval_Attribute,hb])
end
def tFld (K:PySem.W.Frag) (ta:TE) (f:Str):TE:=λ σ H Q=>ta σ H λ x H1=>∃ a C dx fs v,x=.ref a/\H1 a=some (.ins C dx fs)/\Cls K C/\zb2 K C f/\fs.lookup f=some v/\Q v H1
def sFld (K:PySem.W.Frag) (ta tv:TE) (f:Str):TS:=λ D σ H=>tv σ H λ y H1=>ta σ H1 λ x H2=>∃ a C dx fs,x=.ref a/\H2 a=some (.ins C dx fs)/\Cls K C/\zb2 K C f/\fs.length < 1000 /\
 D.nx σ (upd H2 a (.ins C dx (putF f y fs)))
section
variable {X:Cx} {o e value:Expr} {f:Str} {pos pos' tpos:Pos} {ta tv:TE}
theorem zam (he:PE X e ta) (hb:attributeBase e f X.env (eval e X.env)=eval e X.env):PE X (.Attribute e f pos) (tFld X.K ta f):=by
 intro pins s σ H Q I h
 refine zsu hb (thn (he pins s σ H _ I h) λ u s1 ⟨x,H1,I1,rx,a,C,dx,fs,v,ex,ea,c,n,l,q⟩=>?_)
 subst ex
 obtain rfl:u=Value.ref a:=rx
 exact zn6 I1 ea c n l λ u' s2 I2 ru=>⟨v,H1,I2,ru,q⟩
theorem zbS (ha:PE X o ta) (hv:PE X value tv) (hs:swapsWith value (some (.Attribute o f pos')) pos.line X.env=pure false):PS X (.Assign [.Attribute o f pos'] value pos) (sFld X.K ta tv f):=by
 intro pins s σ H D I h
 refine plainObj_wpAny_Assign_Attribute (thn (hv pins s σ H _ I h) λ u s1 ⟨y,H1,I1,ry,q⟩=>thn (ha pins s1 σ H1 _ I1 q) λ ov s2 ⟨x,H2,I2,rx,a,C,dx,fs,ex,ea,c,n,l,q2⟩=>?_) hs
 subst ex
 obtain rfl:ov=Value.ref a:=rx
 exact znP I2 ea c n l ry λ s3 I3=>⟨σ,_,I3,q2⟩
theorem methcall_of {pl:Sem Bool} {m:Str} {apos:Pos} {args:List Expr} {pins:List (Addr×Obj)} {s:Shared} {σ:St} {H:Hp} {Q:Value->Shared->Prop} {te:TE} (he:PE X e te) (I:Inv X pins σ H s)
  (h:te σ H λ x H1=>∃ a C dx fs g,x=.ref a/\H1 a=some (.ins C dx fs)/\Cls X.K C/\Meth X.K C m g/\fs.lookup m=none /\
   ∀ s1,Inv X pins σ H1 s1->wpAny (model X.prog X.w) X.A (callWith pos (.ref g) [.ref a] (backTo pos (starEach args X.env)) (backToKw pos (keywordEach [] X.env))) Q X.xe s1)
  (ht:eval (.Call (.Attribute e m apos) args [] pos) X.env=(do
   let ov <-eval e X.env
   standAt apos.atName
   let (f,first) <-holding [ov] (getMethod ov m pl)
   callWith pos f first (backTo pos (starEach args X.env)) (backToKw pos (keywordEach [] X.env)))) :
  wpAny (model X.prog X.w) X.A (eval (.Call (.Attribute e m apos) args [] pos) X.env) Q X.xe s:=by
 refine PySem.W.methodCall_KW (pl:=pl) (thn (he pins s σ H _ I h) λ u s1 ⟨x,H1,I1,rx,a,C,dx,fs,g,ex,ea,c,k,l,q⟩=>?_) ht
 subst ex
 obtain rfl:u=Value.ref a:=rx
 exact zgr I1 ea c k l (q s1 I1)
end
section
variable {X:Cx} {pins:List (Addr×Obj)} {σ:St} {H:Hp} {s:Shared} {A:Around} {E:Value->Shared->Prop} {Q:Value->Shared->Prop} {c:Value} {b:Bool}
inductive TyOf (K:PySem.W.Frag) (H:Hp):V->Value->Prop where
 | non:TyOf K H .non (.type "NoneType")
 | bl (x:Bool):TyOf K H (.bl x) (.type "bool")
 | int (i:Int):TyOf K H (.int i) (.type "int")
 | str (x:Str):TyOf K H (.str x) (.type "str")
 | flt (x:UInt64):TyOf K H (.flt x) (.type "float")
 | lst {a:Addr} {xs:List V} (e:H a=some (.lst xs)):TyOf K H (.ref a) (.type "list")
 | frz {a:Addr} {o:Obj} {xs:List V} (e:H a=some (.frz o (.lst xs))):TyOf K H (.ref a) (.type "list")
 | tup {a:Addr} {xs:List V} (e:H a=some (.tup xs)):TyOf K H (.ref a) (.type "tuple")
 | dK {a:Addr} {kvs:List (Key×V)} (e:H a=some (.dK kvs)):TyOf K H (.ref a) (.type "dict")
 | dT {a:Addr} {kvs:List (List Key×V)} (e:H a=some (.dT kvs)):TyOf K H (.ref a) (.type "dict")
 | ins {a C dx:Addr} {fs:List (Str×V)} (e:H a=some (.ins C dx fs)) (cl:Cls K C) (ha:PySem.W.findIn K (.ref C) "__class__" = some (some (.builtin "object.__class__")))
  (hn:PySem.W.specialIn K (.builtin "object.__class__") "__get__" = some (some (.builtin "getset_descriptor.__get__"))) (htk:PySem.W.takesIn K (.builtin "object.__class__")=some true)
  (hm:PySem.W.mroIn K C (.type "object")=some true):TyOf K H (.ref a) (.ref C)
theorem zpv {x:V} {u t:Value} (I:Inv X pins σ H s) (rx:RelV x u) (ty:TyOf X.K H x t) (e:PySem.W.kitOne X.K t c=some b) (h:∀ tk,Q (.bool b) { s with toks:=tk }) :
  wpAny (model X.prog X.w) A (call (.builtin "isinstance") [u,c]) Q E s:=by
 cases ty with
 | non=>cases (show u=Value.none from rx); exact PySem.W.kia_one PySem.W.kitx_none I.kIn True.intro e (λ z=>nomatch z) h
 | bl y=>cases (show u=Value.bool y from rx); exact PySem.W.kia_one PySem.W.kitx_bool I.kIn True.intro e (λ z=>nomatch z) h
 | int i=>obtain ⟨t,q⟩:=(show ∃ t,u=Value.int i t from rx); cases q; exact PySem.W.kia_one PySem.W.kitx_int I.kIn True.intro e (λ z=>nomatch z) h
 | str y=>obtain ⟨t,q⟩:=(show ∃ t,u=Value.str y t from rx); cases q; exact PySem.W.kia_one PySem.W.kitx_str I.kIn True.intro e (λ z=>nomatch z) h
 | flt y=>obtain ⟨t,q⟩:=(show ∃ t,u=Value.float y t from rx); cases q; exact PySem.W.kia_one PySem.W.kitx_float I.kIn True.intro e (λ z=>nomatch z) h
 | @lst a xs ea =>
  cases (show u=Value.ref a from rx)
  obtain ⟨_,_,n,_,h1⟩:=(show zbY X.prog X.w H s.heap a (.lst xs) from I.hok a _ ea)
  exact PySem.W.kia_one PySem.W.kitx_list I.kIn ⟨_,h1,rfl⟩ e (λ z=>nomatch z) h
 | @frz a ob xs ea =>
  cases (show u=Value.ref a from rx)
  obtain ⟨_,_,_,n,_,h1⟩:=(show zbY X.prog X.w H s.heap a (.frz ob (.lst xs)) from I.hok a _ ea)
  exact PySem.W.kia_one PySem.W.kitx_list I.kIn ⟨_,h1,rfl⟩ e (λ z=>nomatch z) h
 | @tup a xs ea =>
  cases (show u=Value.ref a from rx)
  obtain ⟨_,_,_,p⟩:=(show zbY X.prog X.w H s.heap a (.tup xs) from I.hok a _ ea)
  obtain ⟨o,h1,h2,_⟩:=p
  exact PySem.W.kia_one PySem.W.kitx_tuple I.kIn ⟨o,h1,h2⟩ e (λ z=>nomatch z) h
 | @dK a kvs ea =>
  cases (show u=Value.ref a from rx)
  obtain ⟨_,_,vs,_,p⟩:=(show zbY X.prog X.w H s.heap a (.dK kvs) from I.hok a _ ea)
  obtain ⟨o,es,ep,h1,h2,_⟩:=p
  exact PySem.W.kia_one PySem.W.kitx_dict I.kIn ⟨o,h1,h2.1⟩ e (λ z=>nomatch z) h
 | @dT a kvs ea =>
  cases (show u=Value.ref a from rx)
  obtain ⟨_,_,xs,_,o,es,ep,h1,h2,_⟩:=(show zbY X.prog X.w H s.heap a (.dT kvs) from I.hok a _ ea)
  exact PySem.W.kia_one PySem.W.kitx_dict I.kIn ⟨o,h1,h2.1⟩ e (λ z=>nomatch z) h
 | @ins a C dx fs ea cl ha hn htk hm =>
  cases (show u=Value.ref a from rx)
  obtain ⟨mA,O,_⟩:=zj0 I.hok ea
  obtain ⟨od,J,_⟩:=O.look
  exact PySem.W.kia_one (PySem.W.kitx_own (cl.get _) cl.hd ha hn htk hm) I.kIn J e (λ z=>nomatch z) h
end
end L2
namespace L2
open PySem PySem.Spec PyProof.Rows
structure Room (k:Nat) (A:Around):Prop where
 hd:A.handled=none
 dp:A.depth+3 * k+5 < recursionLimit
 un:A.units+16 * k+200 < cLine
theorem Room.mono {j k:Nat} {A:Around} (r:Room k A) (h:j<=k):Room j A:=⟨r.hd,by have:=r.dp; omega,by have:=r.un; omega⟩
theorem Room.deeper {k:Nat} {A:Around} (r:Room (k+1) A) (env:Env):Room k (A.deeper env) :=
 ⟨r.hd,by have:=r.dp; show A.depth+1+3 * k+5 < _; omega,by have:=r.un; show A.units+3+16 * k+200 < _; omega⟩
theorem znW {A:Around} {C:Addr} {us:List Value} {kw:List (Str×Value)}:(A.under (.builtin "type.__call__" ⟨.ref C::us,kw⟩)).depth=A.depth+1:=by
 first | rfl | simp [Around.under,Code.weight,Code.isCreation,Code.isGuard,Code.isCaller,Code.frames,Code.isFrame,guardIds]
theorem znV {A:Around} {C:Addr} {us:List Value} {kw:List (Str×Value)}:(A.under (.builtin "type.__call__" ⟨.ref C::us,kw⟩)).units=A.units+1:=by
 first | rfl | simp [Around.under,Code.cUnits,Code.frames,Code.isFrame]
theorem Room.make {k:Nat} {A:Around} (r:Room (k+1) A) (C:Addr) (us:List Value) (kw:List (Str×Value)):Room k (A.under (.builtin "type.__call__" ⟨.ref C::us,kw⟩)) :=
 ⟨r.hd,by have:=r.dp; rw [znW]; omega,by have:=r.un; rw [znV]; omega⟩
theorem Room.depth {k:Nat} {A:Around} (r:Room k A):A.depth < recursionLimit:=by have:=r.dp; omega
theorem Room.units {k:Nat} {A:Around} (r:Room k A):A.units+64 < cLine:=by have:=r.un; omega
def tNil:TA:=λ _ H Q=>Q [] H
def zqb (ta:TE) (tr:TA):TA:=λ σ H Q=>ta σ H λ x H1=>tr σ H1 λ xs H2=>Q (x::xs) H2
section
variable {X:Cx} {e:Expr} {es:List Expr} {te:TE} {t:TA} {pos:Pos}
theorem zad:PA X [] tNil:=λ _ _ _ _ H Q I h=>Calls.spliced_nil ⟨[],H,I,.nil,h⟩
theorem zaa (ha:PE X e te) (hr:PA X es t) (hs:starEach (e::es) X.env=(false,eval e X.env)::starEach es X.env:=by rfl):PA X (e::es) (zqb te t):=by
 intro pos pins s σ H Q I h
 rw [hs]
 show wpAny _ _ (spliced ((false,eval e X.env)::backTo pos (starEach es X.env))) _ _ s
 refine Calls.spliced_cons (thn (ha pins s σ H _ I h) λ u s1 ⟨x,H1,I1,r1,q1⟩=>?_)
 exact thn (hr pos pins s1 σ H1 _ I1 q1) λ us s2 ⟨xs,H2,I2,r2,q2⟩=>⟨x::xs,H2,I2,.cons r1 r2,q2⟩
def tTup (t:TA):TE:=λ σ H Q=>t σ H λ xs H1=>xs.length<=sizeLine/\∀ p,H1 p=none->Q (.ref p) (upd H1 p (.tup xs))
def tLst (t:TA):TE:=λ σ H Q=>t σ H λ xs H1=>xs.length<=sizeLine/\∀ p,H1 p=none->Q (.ref p) (upd H1 p (.lst xs))
theorem zbC {x1} (h:PA X es t):PE X (.Tuple es x1 pos) (tTup t):=by
 intro pins s σ H Q I hq
 refine wpAny_Tuple_spliced (thn (h pos pins s σ H _ I hq) λ us s1 ⟨xs,H1,I1,r,z,q⟩=>⟨by rw [<-r.length]; exact z,?_⟩)
 have hf:H1 s1.heap.objs.size=none:=I1.hok.fresh (Nat.le_refl _)
 refine ⟨.ref s1.heap.objs.size,upd H1 s1.heap.objs.size (.tup xs),I1.laid (t':=s1.toks) (λ b u e=>Heap.get?_push_of_some _ e) (Nat.le_refl _) ?_,rfl,q _ hf⟩
 exact ⟨z,us,r,⟨_,Heap.get?_push_size _ rfl,rfl,_,rfl⟩⟩
theorem zb7 (h:PA X es t):PE X (.List es pos) (tLst t):=by
 intro pins s σ H Q I hq
 refine wpAny_List_spliced (thn (h pos pins s σ H _ I hq) λ us s1 ⟨xs,H1,I1,r,z,q⟩=>⟨by rw [<-r.length]; exact z,?_⟩)
 have hf:H1 s1.heap.objs.size=none:=I1.hok.fresh (Nat.le_refl _)
 refine ⟨.ref s1.heap.objs.size,upd H1 s1.heap.objs.size (.lst xs),I1.laid (t':=s1.toks) (λ b u e=>Heap.get?_push_of_some _ e) (Nat.le_refl _) ?_,rfl,q _ hf⟩
 exact ⟨z,us,0,r,Heap.get?_push_size _ rfl⟩
end
abbrev Sp:=List V->Hp->VK->XK->Prop
abbrev CXT:=List Env->Hp->Shared->XK->Value->Shared->Prop
structure Env0 (P:Program) (w:World) (K:PySem.W.Frag) (mg:Str->Option Value) (base:Heap) (A:Around) (outer:List Env) (s:Shared) (H:Hp):Prop where
 frames:A.frames=some outer
 mod:Mod K mg base
 bs:∀ b o,base.get? b=some o->s.heap.get? b=some o/\H b=none
 bsz:base.objs.size<=s.heap.objs.size
 funs:s.heap.FunFrames base outer
 frf:∀ b∈frs outer,H b=none
 hok:HOk P w H s.heap
 bare:AllBare s.gens
def CE (outer:List Env) (P:Program) (w:World) (H:Hp) (s:Shared) (Q:VK) (u:Value) (s':Shared):Prop :=
 ∃ v H',s'.os=s.os/\AllBare s'.gens/\Un (frs outer) [] H H' s.heap s'.heap/\HOk P w H' s'.heap/\RelV v u/\Q v H'
def CR (CX:CXT) (outer:List Env) (P:Program) (w:World) (H:Hp) (s:Shared) (Q:VK) (E:XK) (r:Result) (s':Shared):Prop :=
 match r with
 | .ok (.ret u)=>CE outer P w H s Q u s'
 | .ok _=>False
 | .error e=>CX outer H s E e s'
structure FnOk (P:Program) (w:World) (K:PySem.W.Frag) (mg:Str->Option Value) (base:Heap) (CX:CXT) (k:Nat) (f:Addr) (fd:FuncData) (ps:List Str) (sp:Sp):Prop where
 len:∀ vs H Q E,sp vs H Q E->vs.length=ps.length
 run:∀ (A:Around) (outer:List Env) (s:Shared) (H:Hp) (args:Args) (us:List Value) (vs:List V) (Q:VK) (E:XK),Room k A->Env0 P w K mg base A outer s H->BindsTo s fd args (ps.zip us)->Vals vs us->sp vs H Q E ->
  codeAny (model P w) A (.call (.ref f) args) (CR CX outer P w H s Q E) s
theorem Env0.make {P:Program} {w:World} {K:PySem.W.Frag} {mg:Str->Option Value} {base:Heap} {A:Around} {outer:List Env} {s:Shared} {H:Hp} (e:Env0 P w K mg base A outer s H) (C:Addr) (us:List Value) (kw:List (Str×Value)) :
 Env0 P w K mg base (A.under (.builtin "type.__call__" ⟨.ref C::us,kw⟩)) outer s H:=⟨by first | exact e.frames | (simpa [Around.under,Code.envs,Code.isFrame,pushEnvs] using e.frames),e.mod,e.bs,e.bsz,e.funs,e.frf,e.hok,e.bare⟩
section
variable {X:Cx} {pins:List (Addr×Obj)} {σ:St} {H:Hp} {s s':Shared}
theorem Inv.env0 (I:Inv X pins σ H s):Env0 X.prog X.w X.K X.mg X.base X.A X.stack s H :=
 ⟨I.ok.frames,I.ok.mod,I.bs,Nat.le_trans I.ok.bsz I.sz,I.stack,I.zf0,I.hok,I.bare⟩
theorem Inv.after {Q:VK} {u:Value} (I:Inv X pins σ H s) (h:CE X.stack X.prog X.w H s Q u s'):EP X pins σ Q u s':=by
 obtain ⟨v,H',os,bare,un,hok,r,q⟩:=h
 obtain ⟨hh,g,d,t,os'⟩:=s'
 obtain rfl:os'=s.os:=os
 exact ⟨v,H',I.call (h':=hh) (g':=g) (d':=d) (t':=t) (ch:=[]) un hok bare (λ b z=>absurd z (by simp)),r,q⟩
end
def ztV (sp:Sp) (dvs:List V) (E:XK) (t:TA):TE:=λ σ H Q=>t σ H λ vs H1=>sp (vs++dvs) H1 Q E
def zsG (C:Addr) (m:Str) (sp:Sp) (dvs:List V) (E:XK) (ta:TE) (t:TA):TE:=λ σ H Q=>ta σ H λ x H1=>∃ a dx fs,x=.ref a/\H1 a=some (.ins C dx fs)/\fs.lookup m=none /\
 t σ H1 λ vs H2=>sp (x::(vs++dvs)) H2 Q E
def zsH (C:Addr) (sp:Sp) (dvs:List V) (E:XK) (t:TA):TE:=λ σ H Q=>t σ H λ vs H1=>∀ x dx,H1 x=none->H1 dx=none->dx≠x ->
 sp (.ref x::(vs++dvs)) (upd (upd H1 dx (.own x)) x (.ins C dx [])) (λ v H2=>v=.non/\Q (.ref x) H2) E
def Binds (K:PySem.W.Frag) (fd:FuncData) (ps:List Str) (ds:List Value):Prop :=
 ∀ (s:Shared) (us:List Value),K.In s.heap->(us++ds).length=ps.length->BindsTo s fd ⟨us,[]⟩ (ps.zip (us++ds))
theorem Binds.all {K:PySem.W.Frag} {fd:FuncData} {ps:List Str} (h:∀ us:List Value,us.length=ps.length->bindArgs fd ⟨us,[]⟩=pure (ps.zip us)):Binds K fd ps []:=λ s us _ hl=>by
 rw [List.append_nil] at hl ⊢
 exact .of_eq (h us hl)
def Passes (CX:CXT) (X:Cx) (E:XK):Prop:=∀ (pins:List (Addr×Obj)) (σ:St) (H:Hp) (s:Shared) (e:Value) (s':Shared),Inv X pins σ H s->CX X.stack H s E e s'->X.xe e s'
section
variable {X:Cx} {CX:CXT} {k:Nat} {f C:Addr} {fd:FuncData} {ps:List Str} {sp:Sp} {dvs:List V} {ds:List Value} {E:XK} {x m:Str} {p pos apos:Pos} {e o:Expr} {es:List Expr} {ta:TE} {t:TA}
theorem zoP {pins:List (Addr×Obj)} {σ:St} {H:Hp} {s:Shared} {Q:VK} {us:List Value} {vs:List V} (F:FnOk X.prog X.w X.K X.mg X.base CX k f fd ps sp) (hr:Room k X.A) (hb:Binds X.K fd ps ds) (hd:Vals dvs ds) (hx:Passes CX X E)
  (I:Inv X pins σ H s) (r:Vals vs us) (h:sp (vs++dvs) H Q E):wpAny (model X.prog X.w) X.A (call (.ref f) us) (EP X pins σ Q) X.xe s:=by
 have r2:Vals (vs++dvs) (us++ds):=r.append hd
 have hl:(us++ds).length=ps.length:=by rw [<-r2.length]; exact F.len _ _ _ _ h
 refine wpAny_call (codeAny_mono (F.run X.A X.stack s H ⟨us,[]⟩ (us++ds) (vs++dvs) Q E hr I.env0 (hb s us I.kIn hl) r2 h) λ r s' hq=>?_)
 cases r with
 | error e=>exact hx pins σ H s e s' I hq
 | ok fl =>
  cases fl with
  | ret u=>exact I.after hq
  | next=>exact False.elim hq
  | brk=>exact False.elim hq
  | cont=>exact False.elim hq
theorem zaE (F:FnOk X.prog X.w X.K X.mg X.base CX k f fd ps sp) (hr:Room k X.A) (hg:Gl X x) (hm:X.mg x=some (.ref f)) (hk:PySem.W.keepIn X.K (.ref f)=true) (hb:Binds X.K fd ps ds) (hd:Vals dvs ds) (hx:Passes CX X E)
  (ha:PA X (e::es) t) (hdb:(x == ("__debug__" : Str))=false:=by decide) (he:starEach (e::es) X.env=(false,eval e X.env)::starEach es X.env:=by rfl) (hpl:(backTo pos (starEach es X.env)).any (·.1)=false:=by rfl) :
  PE X (.Call (.Name x p) (e::es) [] pos) (ztV sp dvs E t):=by
 intro pins s σ H Q I h
 refine wpAny_Call_Name_kw (zfi I hg hm ?_ hdb)
 refine PySem.W.callWith_K (h₀:=X.base) I.ok.mod.kin hk (thn (ha pos pins s σ H _ I h) λ us s1 ⟨vs,H1,I1,r,q⟩=>⟨I1.kIn,?_⟩) he hpl
 exact zoP F hr hb hd hx I1 r q
theorem zat {pl:Sem Bool} (he:PE X o ta) (c:Cls X.K C) (hm:Meth X.K C m f) (F:FnOk X.prog X.w X.K X.mg X.base CX k f fd ps sp) (hr:Room k X.A) (hb:Binds X.K fd ps ds) (hd:Vals dvs ds) (hx:Passes CX X E) (ha:PA X (e::es) t)
  (hst:starEach (e::es) X.env=(false,eval e X.env)::starEach es X.env:=by rfl) (hpl:(backTo pos (starEach es X.env)).any (·.1)=false:=by rfl)
  (ht:eval (.Call (.Attribute o m apos) (e::es) [] pos) X.env=(do
   let ov <-eval o X.env
   standAt apos.atName
   let (f,first) <-holding [ov] (getMethod ov m pl)
   callWith pos f first (backTo pos (starEach (e::es) X.env)) (backToKw pos (keywordEach [] X.env))):=by rfl) :
  PE X (.Call (.Attribute o m apos) (e::es) [] pos) (zsG C m sp dvs E ta t):=by
 intro pins s σ H Q I h
 refine PySem.W.methodCall_KW (pl:=pl) (thn (he pins s σ H _ I h) λ u s1 ⟨x,H1,I1,rx,a,dx,fs,ex,ea,l,q⟩=>?_) ht
 subst ex
 obtain rfl:u=Value.ref a:=rx
 refine zgr I1 ea c hm l ?_
 refine PySem.W.callWith_K (first:=[.ref a]) (h₀:=X.base) I.ok.mod.kin hm.kp (thn (ha pos pins s1 σ H1 _ I1 q) λ us s2 ⟨vs,H2,I2,r,q2⟩=>⟨I2.kIn,?_⟩) hst hpl
 exact zoP (us:=.ref a::us) (vs:=.ref a::vs) F hr hb hd hx I2 (.cons rfl r) q2
theorem zb6 {pl:Sem Bool} (he:PE X o ta) (c:Cls X.K C) (hm:Meth X.K C m f) (F:FnOk X.prog X.w X.K X.mg X.base CX k f fd ps sp) (hr:Room k X.A) (hb:Binds X.K fd ps ds) (hd:Vals dvs ds) (hx:Passes CX X E)
  (ht:eval (.Call (.Attribute o m apos) [] [] pos) X.env=(do
   let ov <-eval o X.env
   standAt apos.atName
   let (f,first) <-holding [ov] (getMethod ov m pl)
   callWith pos f first (backTo pos (starEach [] X.env)) (backToKw pos (keywordEach [] X.env))):=by rfl) :
  PE X (.Call (.Attribute o m apos) [] [] pos) (zsG C m sp dvs E ta tNil):=by
 intro pins s σ H Q I h
 refine PySem.W.methodCall_KW (pl:=pl) (thn (he pins s σ H _ I h) λ u s1 ⟨x,H1,I1,rx,a,dx,fs,ex,ea,l,q⟩=>?_) ht
 subst ex
 obtain rfl:u=Value.ref a:=rx
 refine zgr I1 ea c hm l ?_
 exact PySem.W.callWith_K0 (first:=[.ref a]) I1.kIn hm.kp (zoP (us:=[.ref a]) (vs:=[.ref a]) F hr hb hd hx I1 (.cons rfl .nil) q)
structure Mk (K:PySem.W.Frag) (C f:Addr):Prop where
 makes:PySem.W.makesIn K C=true
 init:PySem.W.findIn K (.ref C) "__init__" = some (some (.ref f))
 fn:PySem.W.isFn K (.ref f)=true
 kp:PySem.W.keepIn K (.ref C)=true
theorem zmZ {pins:List (Addr×Obj)} {σ:St} {H:Hp} {s:Shared} {Q:VK} {us:List Value} {vs:List V} (M:Mk X.K C f) (F:FnOk X.prog X.w X.K X.mg X.base CX k f fd ps sp) (hr:Room (k+1) X.A) (hb:Binds X.K fd ps ds) (hd:Vals dvs ds)
  (hx:Passes CX X E) (I:Inv X pins σ H s) (r:Vals vs us)
  (h:∀ x dx,H x=none->H dx=none->dx≠x->sp (.ref x::(vs++dvs)) (upd (upd H dx (.own x)) x (.ins C dx [])) (λ v H2=>v=.non/\Q (.ref x) H2) E) :
  wpAny (model X.prog X.w) X.A (call (.ref C) us) (EP X pins σ Q) X.xe s:=by
 have hq:=h (s.heap.objs.size+1) s.heap.objs.size (I.hok.fresh (Nat.le_succ _)) (I.hok.fresh (Nat.le_refl _)) (Nat.ne_of_lt (Nat.lt_succ_self _))
 have I2:=Inv.made (C:=C) I
 have r2:Vals (V.ref (s.heap.objs.size+1)::(vs++dvs)) (Value.ref (s.heap.objs.size+1)::(us++ds)):=.cons rfl (r.append hd)
 have hl:(Value.ref (s.heap.objs.size+1)::us++ds).length=ps.length:=by
  have e:=r2.length
  rw [F.len _ _ _ _ hq] at e
  exact e.symm
 refine wpAny_call (zqD (f:=f) I.kIn M.makes M.init (beq_iff_eq.mp M.fn) (codeAny_mono (F.run _ X.stack _ _ ⟨Value.ref (s.heap.objs.size+1)::us,[]⟩ (Value.ref (s.heap.objs.size+1)::(us++ds)) _ _ E (hr.make C us [])
  (I2.env0.make C us []) (hb _ (Value.ref (s.heap.objs.size+1)::us) I2.kIn hl) r2 hq) λ r s' hq'=>?_))
 cases r with
 | error e=>exact hx pins σ _ _ e s' I2 hq'
 | ok fl =>
  cases fl with
  | ret u =>
   obtain ⟨v,H',I3,rv,ev,q3⟩:=I2.after hq'
   subst ev
   exact ⟨rv,⟨V.ref (s.heap.objs.size+1),H',I3,rfl,q3⟩⟩
  | next=>exact False.elim hq'
  | brk=>exact False.elim hq'
  | cont=>exact False.elim hq'
theorem zjD (M:Mk X.K C f) (F:FnOk X.prog X.w X.K X.mg X.base CX k f fd ps sp) (hr:Room (k+1) X.A) (hg:Gl X x) (hm:X.mg x=some (.ref C)) (hb:Binds X.K fd ps ds) (hd:Vals dvs ds) (hx:Passes CX X E)
  (ha:PA X (e::es) t) (hdb:(x == ("__debug__" : Str))=false:=by decide) (he:starEach (e::es) X.env=(false,eval e X.env)::starEach es X.env:=by rfl) (hpl:(backTo pos (starEach es X.env)).any (·.1)=false:=by rfl) :
  PE X (.Call (.Name x p) (e::es) [] pos) (zsH C sp dvs E t):=by
 intro pins s σ H Q I h
 refine wpAny_Call_Name_kw (zfi I hg hm ?_ hdb)
 refine PySem.W.callWith_K (h₀:=X.base) I.ok.mod.kin M.kp (thn (ha pos pins s σ H _ I h) λ us s1 ⟨vs,H1,I1,r,q⟩=>⟨I1.kIn,?_⟩) he hpl
 exact zmZ M F hr hb hd hx I1 r q
theorem zjC (M:Mk X.K C f) (F:FnOk X.prog X.w X.K X.mg X.base CX k f fd ps sp) (hr:Room (k+1) X.A) (hg:Gl X x) (hm:X.mg x=some (.ref C)) (hb:Binds X.K fd ps ds) (hd:Vals dvs ds) (hx:Passes CX X E)
  (hdb:(x == ("__debug__" : Str))=false:=by decide):PE X (.Call (.Name x p) [] [] pos) (zsH C sp dvs E tNil):=by
 intro pins s σ H Q I h
 refine wpAny_Call_Name_kw (zfi I hg hm ?_ hdb)
 exact PySem.W.callWith_K0 I.kIn M.kp (zmZ (us:=[]) M F hr hb hd hx I .nil h)
end
section
variable {X:Cx} {CX:CXT} {k:Nat} {f C:Addr} {fd:FuncData} {ps ks:List Str} {sp:Sp} {E:XK} {x m:Str} {p pos apos kpos:Pos} {e o:Expr} {es:List Expr} {kws:List Keyword} {te ta:TE} {t tk:TA} {nm:Option Str}
variable {g:List Value->List Value->List Value} {gV:List V->List V->List V}
end
structure zao (N P:List Str) (sc:Scope):Prop where
 kind:sc.kind=.function
 co:sc.isCoroutine=false
 gen:sc.isGenerator=false
 nd:N.Nodup
 pre:N.take P.length=P
 par:∀ x∈P,sc.names.lookup x=some .local\/sc.names.lookup x=some .cell
 zto:∀ y∈sc.names,y.2≠.free
theorem zlr {kindOf:Str->Option NameKind} {x:Str}:∀ {binds:List (Str×Value)} {m:Str->Option Value},(∀ v,(x,v)∉binds)->bindL kindOf binds m x=m x
 | [],_,_=>rfl
 | (n,v)::r,m,h=>by
  unfold bindL
  rw [zlr λ w hw=>h w (List.mem_cons_of_mem _ hw)]
  split
  . have:x≠n:=by rintro rfl; exact h v List.mem_cons_self
    simp [this]
  . rfl
theorem zlt {kindOf:Str->Option NameKind} {x:Str}:∀ {binds:List (Str×Value)} {m:Str->Option Value},(∀ v,(x,v)∉binds)->bindC kindOf binds m x=m x
 | [],_,_=>rfl
 | (n,v)::r,m,h=>by
  unfold bindC
  rw [zlt λ w hw=>h w (List.mem_cons_of_mem _ hw)]
  split
  . rfl
  . have:x≠n:=by rintro rfl; exact h v List.mem_cons_self
    simp [this]
theorem zls {kindOf:Str->Option NameKind} {x:Str} {v:Value}:∀ {P:List Str} {vs:List Value} {i:Nat} {m:Str->Option Value},P.Nodup->P[i]?=some x->vs[i]?=some v->kindOf x=some .local ->
  bindL kindOf (P.zip vs) m x=some v
 | [],_,_,_,_,h,_,_=>by simp at h
 | _::_,[],_,_,_,_,h,_=>by simp at h
 | p::P,w::vs,0,m,nd,h1,h2,hk=>by
  simp at h1 h2; subst h1; subst h2
  show bindL kindOf ((p,w)::P.zip vs) m p=_
  unfold bindL
  rw [zlr λ v hv=>(List.nodup_cons.mp nd).1 (List.of_mem_zip hv).1,if_pos hk]
  simp
 | p::P,w::vs,i+1,m,nd,h1,h2,hk=>by
  show bindL kindOf ((p,w)::P.zip vs) m x=_
  unfold bindL
  exact zls (i:=i) (List.nodup_cons.mp nd).2 (by simpa using h1) (by simpa using h2) hk
theorem zlu {kindOf:Str->Option NameKind} {x:Str} {v:Value}:∀ {P:List Str} {vs:List Value} {i:Nat} {m:Str->Option Value},P.Nodup->P[i]?=some x->vs[i]?=some v->kindOf x≠some .local ->
  bindC kindOf (P.zip vs) m x=some v
 | [],_,_,_,_,h,_,_=>by simp at h
 | _::_,[],_,_,_,_,h,_=>by simp at h
 | p::P,w::vs,0,m,nd,h1,h2,hk=>by
  simp at h1 h2; subst h1; subst h2
  show bindC kindOf ((p,w)::P.zip vs) m p=_
  unfold bindC
  rw [zlt λ v hv=>(List.nodup_cons.mp nd).1 (List.of_mem_zip hv).1,if_neg hk]
  simp
 | p::P,w::vs,i+1,m,nd,h1,h2,hk=>by
  show bindC kindOf ((p,w)::P.zip vs) m x=_
  unfold bindC
  exact zlu (i:=i) (List.nodup_cons.mp nd).2 (by simpa using h1) (by simpa using h2) hk
def start (N:List Str) (vs:List V):St:=vs.map some++List.replicate (N.length - vs.length) none
def cxOf (CX:CXT) (P:Program) (w:World) (K:PySem.W.Frag) (mg:Str->Option Value) (base:Heap) (N:List Str) (qual:Str) (scope:Scope) (f:Addr) (cd:Value) (A:Around) (outer:List Env) (s:Shared) (H:Hp) (E:XK):Cx where
 prog:=P
 w:=w
 K:=K
 mg:=mg
 base:=base
 A:=A.deeper (envOfC qual scope s.heap.objs.size f cd)
 N:=N
 s₀:=s
 H₀:=H
 env:=envOfC qual scope s.heap.objs.size f cd
 outer:=outer
 stack:=envOfC qual scope s.heap.objs.size f cd::outer
 ex:=[]
 calm:=true
 fn:=λ _=>true
 pn:=[]
 xe:=λ e s'=>wpAny (model P w) (A.deeper (envOfC qual scope s.heap.objs.size f cd)) (leaving (envOfC qual scope s.heap.objs.size f cd) e) (λ _ s''=>CX outer H s E e s'') (λ e' s''=>CX outer H s E e' s'') s'
theorem znu {sc:Scope} {n:Nat} {x:Str} (h:sc.names.lookup x=some .cell):∃ c,(cellsFrom n sc.names []).lookup x=some c:=by
 have q:=PySem.W.cellsFrom_some sc.names n [] (.inl h)
 exact Option.isSome_iff_exists.mp q
theorem zpw {CX:CXT} {P:Program} {w:World} {K:PySem.W.Frag} {mg:Str->Option Value} {base:Heap} {N ps:List Str} {qual:Str} {scope:Scope} {f:Addr} {cd:Value} {A:Around} {outer:List Env} {s s1:Shared} {H:Hp} {E:XK} {us:List Value} {vs:List V}
   (S:zao N ps scope) (hd:A.handled=none) (e0:Env0 P w K mg base A outer s H) (hl:vs.length=ps.length) (r:Vals vs us)
   (x:InCallC s s.heap.objs.size (bindL (envOfC qual scope s.heap.objs.size f cd).kindOf (ps.zip us) λ _=>none) (cellsFrom (s.heap.objs.size+1) scope.names []) (bindC (envOfC qual scope s.heap.objs.size f cd).kindOf (ps.zip us) λ _=>none) s1) :
   Inv (cxOf CX P w K mg base N qual scope f cd A outer s H E) [] (start N vs) H s1:=by
 have hpl:ps.length<=N.length:=by have:=congrArg List.length S.pre; rw [List.length_take] at this; omega
 obtain ⟨h1,tk,rfl,hk⟩:=x.done
 have noA:∀ b:Addr,b∉(cxOf CX P w K mg base N qual scope f cd A outer s H E).ex:=λ b z=>absurd (show b∈([]:List Addr) from z) (by simp)
 refine ⟨⟨e0.mod,S.kind,rfl,rfl,Nat.le_refl _,λ y z c h1 h2=>?_,λ y hy=>?_,λ y c _ h=>?_,λ _=>hd,Around.frames_deeper e0.frames,.inr ⟨rfl,rfl⟩,λ b z=>absurd z (noA b),e0.bs,e0.bsz,λ b _ _=>noA b,λ b z=>absurd z (noA b),e0.funs,e0.frf⟩,
   rfl,e0.bare,Un.kept hk,⟨_,x.toInCall.ns,λ i y v h1 h2 h3=>?_⟩,λ y c h=>⟨_,x.cell y c h⟩,e0.hok.fresh (Nat.le_refl _),λ y c h=>?_,λ p hp=>absurd (show p∈([]:List (Addr×Obj)) from hp) (by simp),e0.hok.kept hk,?_⟩
 . exact name_of_addr x.apart (PySem.mem_of_lookup h1) (PySem.mem_of_lookup h2)
 . have hy:scope.names.lookup y=some .cell\/scope.names.lookup y=some .free:=hy
   rcases hy with hy | hy
   . exact znu hy
   . exact absurd rfl (S.zto _ (PySem.mem_of_lookup hy))
 . exact Nat.le_of_lt (x.above y c (PySem.mem_of_lookup h))
 . have hi:i < vs.length:=by
     unfold start at h2
     by_cases hi:i < vs.length
     . exact hi
     . rw [List.getElem?_append_right (by simpa using hi)] at h2
       rw [List.getElem?_replicate] at h2
       split at h2 <;> cases h2
   have ha:vs[i]?=some v:=by
     unfold start at h2
     rw [List.getElem?_append_left (by simpa using hi),List.getElem?_map] at h2
     cases e:vs[i]? with
     | none=>rw [e] at h2; cases h2
     | some a=>rw [e] at h2; cases h2; rfl
   obtain ⟨u,hu,rv⟩:=r.get ha
   have hp:ps[i]?=some y:=by
     rw [<-S.pre,List.getElem?_take_of_lt (by omega)]; exact h1
   have ndP:ps.Nodup:=by rw [<-S.pre]; exact S.nd.sublist (List.take_sublist _ _)
   refine ⟨u,rv,?_⟩
   rcases S.par y (List.mem_of_getElem? hp) with k | k
   . exact .inl ⟨k,zls ndP hp hu k⟩
   . obtain ⟨c,e⟩:=znu (n:=s.heap.objs.size+1) k
     refine .inr ⟨.inl k,c,e,?_⟩
     have q:=x.cell y c e
     rw [zlu ndP hp hu (by show scope.names.lookup y≠_; rw [k]; decide)] at q
     exact q
 . exact e0.hok.fresh (Nat.le_of_lt (x.above y c (PySem.mem_of_lookup h)))
 . unfold start
   show _=N.length
   rw [List.length_append,List.length_map,List.length_replicate]
   omega
theorem zuj {CX:CXT} {P:Program} {w:World} {K:PySem.W.Frag} {mg:Str->Option Value} {base:Heap} {k:Nat} {f:Addr} {name qual:Str} {params:Arguments} {body:List Stmt} {scope:Scope} {dV kV doc pm cdv ct oc:Value} {an od:Option Addr}
  {osl:Array (Option Value)} {N ps:List Str} {sp:Sp} (lk:K.lookup f=some ⟨oc,od,.func (PySem.W.fnOf name qual params body scope dV kV doc pm an cdv ct),osl⟩) (hcd:PySem.W.codeIn K cdv qual=true) (S:zao N ps scope)
  (len:∀ vs H Q E,sp vs H Q E->vs.length=ps.length)
  (hbody:∀ (A:Around) (outer:List Env) (s:Shared) (H:Hp) (vs:List V) (Q:VK) (E:XK),Room k (A.deeper (envOfC qual scope s.heap.objs.size f cdv))->sp vs H Q E ->
    ∃ t,PSs (cxOf CX P w K mg base N qual scope f cdv A outer s H E) body t/\t { nx:=λ _ H'=>Q .non H',rt:=Q } (start N vs) H) :
  FnOk P w K mg base CX (k+1) f (PySem.W.fnOf name qual params body scope dV kV doc pm an cdv ct) ps sp:=by
 refine ⟨len,λ A outer s H args us vs Q E hr e0 hb r hsp=>?_⟩
 have hl:=len _ _ _ _ hsp
 have KX:K.In s.heap:=e0.mod.kin.keeps λ b o e=>(e0.bs b o e).1
 have lim:s.heap.NoLimit:=e0.mod.nolimit.keeps λ b o e=>(e0.bs b o e).1
 have hkind:∀ y∈ps.zip us,scope.names.lookup y.1=some .local\/(scope.names.lookup y.1=some .cell/\((cellsFrom (s.heap.objs.size+1) scope.names []).lookup y.1).isSome=true):=λ ⟨n,v⟩ hy=>by
  rcases S.par n (List.of_mem_zip hy).1 with q | q
  . exact .inl q
  . exact .inr ⟨q,PySem.W.cellsFrom_some _ _ _ (.inl q)⟩
 refine codeAny_call_function hr.depth (KX _ _ lk) rfl S.co S.gen rfl (PySem.W.codeRec_of KX hcd) (hb _ _ _ _ ?_)
 refine wpAny_newFunctionEnv_cells S.kind hkind λ env he s1 x=>?_
 subst he
 refine ⟨lim.keeps x.toInCall.keep,codeAny_func ?_⟩
 obtain ⟨t,ht,hq⟩:=hbody A outer s H vs Q E (hr.deeper _) hsp
 have I:Inv (cxOf CX P w K mg base N qual scope f cdv A outer s H E) [] (start N vs) H s1:=zpw S hr.hd e0 hl r x
 refine wpAny_mono (ht [] s1 (start N vs) H _ I hq) (λ fl s' hs=>?_) λ e s' hs=>hs
 have fin:∀ {σ':St} {H':Hp} {v:V} {u:Value},Inv (cxOf CX P w K mg base N qual scope f cdv A outer s H E) [] σ' H' s'->RelV v u->Q v H'->CE outer P w H s Q u s' :=
  λ {σ' H' v u} J rv q=>⟨v,H',J.os,J.bare,J.base,J.hok,rv,q⟩
 cases fl with
 | ret u =>
  obtain ⟨v,σ',H',J,rv,q⟩:=hs
  exact fin J rv q
 | next =>
  obtain ⟨σ',H',J,q⟩:=hs
  exact fin (v:=V.non) (u:=Value.none) J rfl q
 | brk =>
  obtain ⟨_,_,_,q⟩:=hs
  exact False.elim q
 | cont =>
  obtain ⟨_,_,_,q⟩:=hs
  exact False.elim q
end L2
namespace L2
open PySem PySem.Spec PyProof.Rows
section
variable {X:Cx} {x:Str} {p pos:Pos} {e:Expr} {es:List Expr} {t:TA} {id T:String} {r:List V->Hp->VK->Prop}
def tCB (r:List V->Hp->VK->Prop) (t:TA):TE:=λ σ H Q=>t σ H λ vs H1=>r vs H1 Q
theorem zbp (hc:zis X (.builtin id) r) (hg:Gl X x) (hm:X.mg x=none) (hv:bootBuiltins x=some (.builtin id)) (ha:PA X (e::es) t) (hn:x ≠ "__name__" := by decide) (hdb:(x == ("__debug__" : Str))=false:=by decide)
  (he:starEach (e::es) X.env=(false,eval e X.env)::starEach es X.env:=by rfl) (hpl:(backTo pos (starEach es X.env)).any (·.1)=false:=by rfl):PE X (.Call (.Name x p) (e::es) [] pos) (tCB r t):=by
 intro pins s σ H Q I h
 refine wpAny_Call_Name_kw (znf I hg hm hv ?_ hn hdb)
 exact PyProof.Rows.callWith_builtin1 (thn (ha pos pins s σ H _ I h) λ us s1 ⟨vs,H1,I1,r1,q1⟩=>hc pins s1 σ H1 vs us Q I1 r1 q1) he hpl
theorem zbT (hc:zis X (.type T) r) (hg:Gl X x) (hm:X.mg x=none) (hv:bootBuiltins x=some (.type T)) (ha:PA X (e::es) t) (hn:x ≠ "__name__" := by decide) (hdb:(x == ("__debug__" : Str))=false:=by decide)
  (he:starEach (e::es) X.env=(false,eval e X.env)::starEach es X.env:=by rfl) (hpl:(backTo pos (starEach es X.env)).any (·.1)=false:=by rfl):PE X (.Call (.Name x p) (e::es) [] pos) (tCB r t):=by
 intro pins s σ H Q I h
 refine wpAny_Call_Name_kw (znf I hg hm hv ?_ hn hdb)
 exact PyProof.Rows.callWith_type1 (thn (ha pos pins s σ H _ I h) λ us s1 ⟨vs,H1,I1,r1,q1⟩=>hc pins s1 σ H1 vs us Q I1 r1 q1) he hpl
end
end L2
namespace HT
open PySem PyProof.Rows
section
open PySem.SeqAt
open PySem.AutoSeq1 (wpAny_loadPart')
open PySem.MeetsSeq PySem.MeetsSeq2 PySem.MeetsSeq3
end
section
variable {prog:Program} {w:World} {A:Around} {E:Value->Shared->Prop} {s:Shared}
def sIx (n d:Nat):Option Int->Nat
 | none=>d
 | some v=>if v < 0 then (v+(n:Int)).toNat else min v.toNat n
end
end HT
namespace L2
open PySem PySem.Spec PyProof.Rows
abbrev TO:=St->Hp->(Option Int->Hp->Prop)->Prop
def PO (X:Cx) (e:Option Expr) (t:TO):Prop :=
 ∀ (pins:List (Addr×Obj)) (s:Shared) (σ:St) (H:Hp) (Q:Option Int->Hp->Prop),Inv X pins σ H s->t σ H Q ->
  wpAny (model X.prog X.w) X.A (evalPart e X.env) (λ u s'=>∃ o H',Inv X pins σ H' s'/\IsPart u o/\Q o H') X.xe s
def ztQ (t:TE):TO:=λ σ H Q=>t σ H λ x H1=>∃ i,x=.int i/\Q (some i) H1
section
variable {X:Cx} {e:Expr} {te:TE} {lo hi:Option Expr} {tl th:TO} {pos p2:Pos}
theorem zoV (h:PE X e te):PO X (some e) (ztQ te):=by
 intro pins s σ H Q I hw
 rw [evalPart_some]
 refine thn (h pins s σ H _ I hw) λ u s1 ⟨x,H1,I1,r1,q1⟩=>?_
 obtain ⟨i,rfl,q⟩:=q1
 obtain ⟨t,rfl⟩:=r1
 exact ⟨some i,H1,I1,.int i t,q⟩
def SlR (X:Cx) (r:V->Option Int->Option Int->Hp->VK->Prop):Prop :=
 ∀ (pins:List (Addr×Obj)) (s:Shared) (σ:St) (H:Hp) (x:V) (v vl vu:Value) (lo hi:Option Int) (sl:Addr) (Q:VK),Inv X pins σ H s->RelV x v->s.heap.IsSliceOf sl vl vu .none->IsPart vl lo->IsPart vu hi->r x lo hi H Q ->
  ∃ T id,typeLookup (.type T) "__getitem__" = pure (some (.builtin id))/\s.TypeIs v T/\wpAny (model X.prog X.w) X.A (getItem v (.ref sl)) (EP X pins σ Q) X.xe s
def tSl (r:V->Option Int->Option Int->Hp->VK->Prop) (te:TE) (tl th:TO):TE:=λ σ H Q=>te σ H λ x H1=>tl σ H1 λ l H2=>th σ H2 λ u H3=>r x l u H3 Q
theorem zqv {r:V->Option Int->Option Int->Hp->VK->Prop} (hr:SlR X r) (he:PE X e te) (hl:PO X lo tl) (hu:PO X hi th):PE X (.Subscript e (.Slice lo hi none p2) pos) (tSl r te tl th):=by
 intro pins s σ H Q I h
 refine Subscript_ (thn (he pins s σ H _ I h) λ v s1 ⟨x,H1,I1,r1,q1⟩=>?_)
 refine wpAny_Slice (thn (hl pins s1 σ H1 _ I1 q1) λ vl s2 ⟨l,H2,I2,pl,q2⟩=>thn (hu pins s2 σ H2 _ I2 q2) λ vu s3 ⟨u,H3,I3,pu,q3⟩=>?_)
 rw [evalPart_none]
 refine wpAny_pure ?_
 have I4:Inv X pins σ H3 { s3 with heap:=s3.heap.push { cls:=.type "slice",data:=.fields #[vl,vu,.none] } }:=I3.kept (t':=s3.toks) λ b ob q=>Heap.get?_push_of_some _ q
 obtain ⟨T,id,hT,ht,hg⟩:=hr pins { s3 with heap:=s3.heap.push { cls:=.type "slice",data:=.fields #[vl,vu,.none] } } σ H3 x v vl vu l u s3.heap.objs.size Q I4 r1 (Heap.IsSliceOf.new ..) pl pu q3
 show wpAny (model X.prog X.w) X.A (subscriptTail e (.Slice lo hi none p2) v (.ref s3.heap.objs.size)) (EP X pins σ Q) X.xe { s3 with heap:=s3.heap.push { cls:=.type "slice",data:=.fields #[vl,vu,.none] } }
 exact tail_any (ops:=[.ref s3.heap.objs.size,v]) ht hT hg (by with_unfolding_all rfl)
def cutV (xs:List V) (lo hi:Option Int):List V:=(xs.drop (HT.sIx xs.length 0 lo)).take (HT.sIx xs.length xs.length hi - HT.sIx xs.length 0 lo)
theorem zmq (xs:List V) (lo hi:Option Int):(cutV xs lo hi).length<=xs.length:=by
 unfold cutV
 rw [List.length_take,List.length_drop]
 omega
end
end L2
namespace L2
open PySem PySem.Spec PyProof.Rows
def ixN (n:Nat) (i:Int):Option Nat:=if 0<=i then (if i < n then some i.toNat else none) else if -(n:Int)<=i then some (i+n).toNat else none
def atI {α:Type} (xs:List α) (i:Int):Option α:=(ixN xs.length i).bind λ j=>xs[j]?
theorem zpu {n:Nat} {i:Int} {j:Nat} (h:ixN n i=some j):seqIndex? i n=some j/\j < n/\-(n:Int)<=i/\i < n:=by
 unfold ixN at h
 by_cases h0:0<=i
 . rw [if_pos h0] at h
   by_cases h1:i < n
   . rw [if_pos h1] at h
     have e:i.toNat=j:=Option.some.inj h
     exact ⟨by rw [seqIndex_of h0 h1,e],by omega,by omega,h1⟩
   . rw [if_neg h1] at h; cases h
 . rw [if_neg h0] at h
   by_cases h1:-(n:Int)<=i
   . rw [if_pos h1] at h
     have e:(i+n).toNat=j:=Option.some.inj h
     exact ⟨by rw [seqIndex_neg (by omega) h1,e],by omega,h1,by omega⟩
   . rw [if_neg h1] at h; cases h
theorem zmC {α:Type} {xs:List α} {i:Int} {v:α} (h:atI xs i=some v):∃ j,seqIndex? i xs.length=some j/\xs[j]?=some v/\j < xs.length/\-(xs.length:Int)<=i/\i < xs.length:=by
 unfold atI at h
 cases e:ixN xs.length i with
 | none=>rw [e] at h; cases h
 | some j =>
  rw [e] at h
  obtain ⟨h1,h2,h3,h4⟩:=zpu e
  exact ⟨j,h1,h,h2,h3,h4⟩
theorem zbt {α:Type} {xs:List α} {j:Nat} {v:α} (h:xs[j]?=some v):atI xs (j:Int)=some v:=by
 have hj:j < xs.length:=(List.getElem?_eq_some_iff.mp h).1
 have e:ixN xs.length (j:Int)=some j:=by
  unfold ixN
  rw [if_pos (by omega),if_pos (by omega)]; simp
 unfold atI; rw [e]; exact h
def zsx (b:Expr):Prop:=∀ o i,subscripted b false o i=operate [o,i] (getItem o i)
def IxR (X:Cx) (r:R2):Prop :=
 ∀ (value slice:Expr) (pins:List (Addr×Obj)) (s:Shared) (σ:St) (H:Hp) (x y:V) (v u:Value) (Q:VK),Inv X pins σ H s->RelV x v->RelV y u->r x y H Q ->
  subscripted slice false v u=operate [v,u] (getItem v u)->wpAny (model X.prog X.w) X.A (subscriptTail value slice v u) (EP X pins σ Q) X.xe s
def MtR (X:Cx) (id:String) (r:V->List V->Hp->VK->Prop):Prop :=
 ∀ (pins:List (Addr×Obj)) (s:Shared) (σ:St) (H:Hp) (x:V) (xs:List V) (v:Value) (us:List Value) (Q:VK),Inv X pins σ H s->RelV x v->Vals xs us->r x xs H Q ->
  wpAny (model X.prog X.w) X.A (call (.builtin id) (v::us)) (EP X pins σ Q) X.xe s
section
variable {X:Cx} {a b:Expr} {ta tb:TE} {pos:Pos}
theorem zbd {r:R2} (hr:IxR X r) (ha:PE X a ta) (hb:PE X b tb) (hs:zsx b):PE X (.Subscript a b pos) (tOp r ta tb):=by
 intro pins s σ H Q I h
 exact Subscript_ (binT ha hb I h λ v u s2 x y H2 I2 rx ry q=>hr a b pins s2 σ H2 x y v u Q I2 rx ry q (hs _ _))
def rIxL (K:PySem.W.Frag):R2:=λ x y H Q=>∃ p xs i v,x=.ref p/\y=.int i/\SqL K H p xs/\atI xs i=some v/\Q v H
def rIxT (K:PySem.W.Frag):R2:=λ x y H Q=>∃ p xs i v,x=.ref p/\y=.int i/\SqT K H p xs/\atI xs i=some v/\Q v H
def rIxS:R2:=λ x y H Q=>∃ z i c,x=.str z/\y=.int i/\z.length<=sizeLine/\atI z.cps.toList i=some c/\Q (.str ⟨#[c]⟩) H
theorem zbi:IxR X (rIxL X.K):=by
 intro value slice pins s σ H x y v u Q I rx ry h hs
 obtain ⟨p,xs,i,z,rfl,rfl,hq,he,q⟩:=h
 cases rx
 obtain ⟨t,rfl⟩:=ry
 obtain ⟨its,r,pl,hz⟩:=I.list hq
 obtain ⟨j,h1,h2,h3,h4,h5⟩:=zmC he
 obtain ⟨w,ew,rw'⟩:=r.get h2
 have hl:=r.length
 have hn:=znd
 have fin:EP X pins σ Q w s:=⟨z,H,I,rw',q⟩
 by_cases h0:0<=i
 . have hj:i.toNat=j:=by
    rw [seqIndex_of h0 h5] at h1
    exact Option.some.inj h1
   exact item_listR pl.isList h0 (by omega) (by rw [hj]; simpa using ew) fin hs
 . have hj:(i+(its.toArray.size:Int)).toNat=j:=by
    rw [seqIndex_neg (by omega) h4] at h1
    rw [List.size_toArray,<-hl]
    exact Option.some.inj h1
   exact subscriptTail_builtinR (x:=w) pl.isList.typeIs slot_list_getitem.lookup
    (wpAny_getItem_list_neg (Q:=λ r s'=>r=w/\EP X pins σ Q r s') pl.isList (by omega) (by rw [List.size_toArray] <;> omega) (by omega) (by rw [hj]; simpa using ew) ⟨rfl,fin⟩) hs
theorem zca:IxR X (rIxT X.K):=by
 intro value slice pins s σ H x y v u Q I rx ry h hs
 obtain ⟨p,xs,i,z,rfl,rfl,hq,he,q⟩:=h
 cases rx
 obtain ⟨t,rfl⟩:=ry
 obtain ⟨its,r,pl,hz⟩:=I.tuple hq
 obtain ⟨j,h1,h2,h3,h4,h5⟩:=zmC he
 obtain ⟨w,ew,rw'⟩:=r.get h2
 have hl:=r.length
 have hn:=znd
 have fin:EP X pins σ Q w s:=⟨z,H,I,rw',q⟩
 exact subscriptTail_builtinR (x:=w) pl.typeIs slot_tuple_getitem.lookup
  (getItem_tuple (j:=j) (Q:=λ r s'=>r=w/\EP X pins σ Q r s') pl (by omega) (by omega) (by rw [List.size_toArray,<-hl]; exact h1) (by simpa using ew) ⟨rfl,fin⟩) hs
theorem zni:IxR X rIxS:=by
 intro value slice pins s σ H x y v u Q I rx ry h hs
 obtain ⟨z,i,c,rfl,rfl,hz,he,q⟩:=h
 obtain ⟨t,rfl⟩:=rx
 obtain ⟨t',rfl⟩:=ry
 obtain ⟨j,h1,h2,h3,h4,h5⟩:=zmC he
 have hl:z.cps.toList.length=z.length:=by simp [Str.length]
 rw [hl] at h1 h4 h5
 have hn:=znd
 exact tail_any (typeIs_str s z t) slot_str_getitem.lookup (getItem_str (c:=c) (by
  have e1:decide (i < -(2 ^ 63:Int))=false:=decide_eq_false (by omega)
  have e2:decide (i ≥ 2 ^ 63)=false:=decide_eq_false (by omega)
  rw [e1,e2,Bool.or_false]) (by rw [h1]; simpa using h2) ⟨.str ⟨#[c]⟩,H,I.tok _,⟨_,rfl⟩,q⟩) hs
theorem zku (lo hi:Option Int) (n:Nat):(sliceBounds lo hi none n).1=((HT.sIx n 0 lo:Nat):Int)/\(sliceBounds lo hi none n).2.1=((HT.sIx n n hi:Nat):Int)/\(sliceBounds lo hi none n).2.2=1:=by
 refine ⟨?_,?_,rfl⟩
 . cases lo with
   | none=>simp [sliceBounds,HT.sIx]
   | some i =>
    simp only [sliceBounds,HT.sIx,Option.getD_none,show (1:Int) > 0 by decide,if_true]
    by_cases h:i < 0
    . simp only [h,if_true] <;> omega
    . simp only [h,if_false] <;> omega
 . cases hi with
   | none=>simp [sliceBounds,HT.sIx]
   | some i =>
    simp only [sliceBounds,HT.sIx,Option.getD_none,show (1:Int) > 0 by decide,if_true]
    by_cases h:i < 0
    . simp only [h,if_true] <;> omega
    . simp only [h,if_false] <;> omega
theorem zjp (its:List Value) (lo hi:Option Int):slicePick its.toArray lo hi none=((its.drop (HT.sIx its.length 0 lo)).take (HT.sIx its.length its.length hi - HT.sIx its.length 0 lo)).toArray:=by
 obtain ⟨h1,h2,h3⟩:=zku lo hi its.toArray.size
 unfold slicePick
 rw [h1,h2,h3]
 simp only [sliceRange_one,pick_run,List.size_toArray] <;> rfl
def rSlL (K:PySem.W.Frag):V->Option Int->Option Int->Hp->VK->Prop:=λ x lo hi H Q=>∃ a xs,x=.ref a/\SqL K H a xs/\∀ p,H p=none->Q (.ref p) (upd H p (.lst (cutV xs lo hi)))
theorem zrO:SlR X (rSlL X.K):=by
 intro pins s σ H x v vl vu lo hi sl Q I rx hs pl pu h
 obtain ⟨a,xs,rfl,hx,q⟩:=h
 cases rx
 obtain ⟨its,r,ht,hz⟩:=I.list hx
 have hlen:=r.length
 refine ⟨"list",_,slot_list_getitem.lookup,ht.isList.typeIs,?_⟩
 refine wpAny_getItem_list_slice ht.isList hs pl pu .none (by simp) ?_ (by rw [List.size_toArray] <;> omega)
 rw [zjp,<-hlen]
 refine ⟨.ref s.heap.objs.size,_,I.laid (t':=s.toks) (o:=.lst (cutV xs lo hi)) (λ b ob q=>Heap.get?_push_of_some _ q) (Nat.le_refl _) ?_,rfl,q _ (I.hok.fresh (Nat.le_refl _))⟩
 exact ⟨Nat.le_trans (zmq xs lo hi) hz,_,0,(r.drop (HT.sIx xs.length 0 lo)).take (HT.sIx xs.length xs.length hi - HT.sIx xs.length 0 lo),Heap.get?_push_size _ rfl⟩
def zlk:V->Bool
 | .non=>true
 | .bl _=>true
 | .int _=>true
 | .str _=>true
 | _=>false
def eqV:V->V->Bool
 | .non,.non=>true
 | .bl a,.bl b=>a == b
 | .bl a,.int b=>(if a then 1 else 0) == b
 | .int a,.bl b=>a == (if b then 1 else 0)
 | .int a,.int b=>a == b
 | .str a,.str b=>a == b
 | _,_=>false
theorem ztC {A:Around} {s:Shared} {y x:V} {u v:Value} (ry:RelV y u) (rx:RelV x v) (fy:zlk y=true) (fx:zlk x=true):SeqAt.EqAt A s u v (eqV y x):=by
 cases y with
 | non =>
  cases ry
  cases x with
  | non=>cases rx; exact SeqAt.EqAt.same _
  | bl b=>cases rx; exact SeqAt.EqAt.none_bool b
  | int b=>obtain ⟨t,rfl⟩:=rx; exact SeqAt.EqAt.none_int b t
  | str b=>obtain ⟨t,rfl⟩:=rx; exact SeqAt.EqAt.none_str b t
  | _=>exact absurd (show false=true from fx) Bool.false_ne_true
 | bl a =>
  cases ry
  cases x with
  | non=>cases rx; exact SeqAt.EqAt.bool_none a
  | bl b=>cases rx; exact SeqAt.EqAt.bool_bool a b
  | int b=>obtain ⟨t,rfl⟩:=rx; exact SeqAt.EqAt.bool_int a b t
  | str b=>obtain ⟨t,rfl⟩:=rx; exact SeqAt.EqAt.bool_str a b t
  | _=>exact absurd (show false=true from fx) Bool.false_ne_true
 | int a =>
  obtain ⟨t',rfl⟩:=ry
  cases x with
  | non=>cases rx; exact SeqAt.EqAt.int_none a t'
  | bl b=>cases rx; exact SeqAt.EqAt.int_bool a t' b
  | int b=>obtain ⟨t,rfl⟩:=rx; exact SeqAt.EqAt.int_int a t' b t
  | str b=>obtain ⟨t,rfl⟩:=rx; exact SeqAt.EqAt.int_str a t' b t
  | _=>exact absurd (show false=true from fx) Bool.false_ne_true
 | str a =>
  obtain ⟨t',rfl⟩:=ry
  cases x with
  | non=>cases rx; exact SeqAt.EqAt.str_none a t'
  | bl b=>cases rx; exact SeqAt.EqAt.str_bool a t' b
  | int b=>obtain ⟨t,rfl⟩:=rx; exact SeqAt.EqAt.str_int a t' b t
  | str b=>obtain ⟨t,rfl⟩:=rx; exact SeqAt.EqAt.str_str a t' b t
  | _=>exact absurd (show false=true from fx) Bool.false_ne_true
 | _=>exact absurd (show false=true from fy) Bool.false_ne_true
def eqU (x:V) (u:Value):Bool:=match u with
 | .none=>eqV .non x
 | .bool b=>eqV (.bl b) x
 | .int i _=>eqV (.int i) x
 | .str z _=>eqV (.str z) x
 | _=>false
theorem zrq {x y:V} {u:Value} (r:RelV y u) (f:zlk y=true):eqU x u=eqV y x:=by
 cases y with
 | non=>cases r; rfl
 | bl b=>cases r; rfl
 | int i=>obtain ⟨t,rfl⟩:=r; rfl
 | str z=>obtain ⟨t,rfl⟩:=r; rfl
 | _=>exact absurd (show false=true from f) Bool.false_ne_true
theorem zmD {x:V}:∀ {xs:List V} {us:List Value},Vals xs us->xs.all zlk=true->us.any (eqU x)=xs.any λ y=>eqV y x
 | _,_,.nil,_=>rfl
 | y::xs,u::us,.cons r t,f=>by
  rw [List.all_cons,Bool.and_eq_true] at f
  rw [List.any_cons,List.any_cons,zrq r f.1,zmD t f.2]
theorem zjT {A:Around} {s:Shared} {x:V} {v:Value} (rx:RelV x v) (fx:zlk x=true):∀ {xs:List V} {us:List Value},Vals xs us->xs.all zlk=true->∀ u∈us,SeqAt.EqAt A s u v (eqU x u)
 | _,_,.nil,_=>λ u hu=>by cases hu
 | y::xs,u::us,.cons r t,f=>λ u' hu=>by
  rw [List.all_cons,Bool.and_eq_true] at f
  rcases List.mem_cons.mp hu with rfl | hu
  . rw [zrq r f.1]; exact ztC r rx f.1 fx
  . exact zjT rx fx t f.2 u' hu
def inV (x:V) (xs:List V):Bool:=xs.any λ y=>eqV y x
def rIn (K:PySem.W.Frag) (neg:Bool):R2:=λ x y H Q=>∃ p xs,y=.ref p/\(SqL K H p xs\/SqT K H p xs)/\zlk x=true/\xs.all zlk=true/\Q (.bl (if neg then !inV x xs else inV x xs)) H
theorem zo6:OpR X (compareOp .In) (rIn X.K false):=by
 intro pins s σ H x y v u Q I rx ry h
 obtain ⟨p,xs,rfl,hq,fx,fs,q⟩:=h
 cases ry
 rcases hq with hq | hq
 . obtain ⟨its,r,pl,hz⟩:=I.list hq
   refine SeqAt.in_listAt (eqU x) pl.isList (λ w hw=>zjT rx fx r fs w (by simpa using hw)) ⟨.bl _,H,I,rfl,?_⟩
   rw [show its.toArray.any (eqU x)=its.any (eqU x) by simp,zmD r fs]
   exact q
 . obtain ⟨its,r,pl,hz⟩:=I.tuple hq
   refine SeqAt.in_tupleAt (eqU x) pl (λ w hw=>zjT rx fx r fs w (by simpa using hw)) ⟨.bl _,H,I,rfl,?_⟩
   rw [show its.toArray.any (eqU x)=its.any (eqU x) by simp,zmD r fs]
   exact q
theorem zbn:zis X (.builtin "len") (λ xs H Q=>∃ p ys,xs=[.ref p]/\(SqL X.K H p ys\/SqT X.K H p ys)/\Q (.int ys.length) H):=by
 intro pins s σ H xs us Q I r h
 obtain ⟨p,ys,rfl,hq,q⟩:=h
 obtain ⟨u,rfl,rx⟩:=vals1 r
 cases rx
 have hn:=znd
 rcases hq with hq | hq
 . obtain ⟨its,r',pl,hz⟩:=I.list hq
   have hlen:=r'.length
   exact Calls.call_len_list pl.isList (by simp only [List.size_toArray] <;> omega) ⟨.int ys.length,H,I.tok _,⟨s.toks+1,by rw [List.size_toArray,hlen]⟩,q⟩
 . obtain ⟨its,r',pl,hz⟩:=I.tuple hq
   have hlen:=r'.length
   exact len_tuple pl (by simp only [List.size_toArray] <;> omega) ⟨.int ys.length,H,I.tok _,⟨s.toks+1,by rw [List.size_toArray,hlen]⟩,q⟩
theorem zce:zis X (.type "tuple") (λ xs H Q=>∃ p ys,xs=[.ref p]/\((SqL X.K H p ys/\∀ l,H l=none->Q (.ref l) (upd H l (.tup ys)))\/(SqT X.K H p ys/\Q (.ref p) H))):=by
 intro pins s σ H xs us Q I r h
 obtain ⟨p,ys,rfl,h⟩:=h
 obtain ⟨u,rfl,rx⟩:=vals1 r
 cases rx
 rcases h with ⟨hq,q⟩ | ⟨hq,q⟩
 . obtain ⟨its,r',pl,hz⟩:=I.list hq
   have hlen:=r'.length
   refine call_tuple_list pl.isList (λ h' kp=>?_) (by simp only [List.size_toArray] <;> omega)
   have I1:Inv X pins σ H { s with heap:=h' }:=I.kept (t':=s.toks) kp
   have I2:Inv X pins σ (upd H h'.objs.size (.tup ys)) { s with heap:=h'.push { cls:=.type "tuple",data:=.seq its.toArray } } :=
    I1.laid (t':=s.toks) (λ b o e=>Heap.get?_push_of_some _ e) (Nat.le_refl _) (show zbY X.prog X.w _ _ _ (.tup ys) from ⟨hz,its,r',IsTup.new _ _⟩)
   exact ⟨.ref h'.objs.size,_,I2,rfl,q _ (I1.hok.fresh (Nat.le_refl _))⟩
 . obtain ⟨its,r',pl,hz⟩:=I.tuple hq
   exact call_tuple_same pl ⟨.ref p,H,I,rfl,q⟩
def tyV (K:PySem.W.Frag) (T:String) (x:V) (H:Hp):Prop:=match x with
 | .str _=>T = "str"
 | .int _=>T = "int"
 | .ref p=>(T = "list" /\ ∃ xs,SqL K H p xs)\/(T = "tuple" /\ ∃ o,K.lookup p=some o/\o.cls=.type "tuple" /\ o.dict=none) \/
  (T = "dict" /\ ((∃ kvs,H p=some (.dK kvs))\/∃ kvs,H p=some (.dT kvs)))\/(T = "set" /\ ∃ S n,H p=some (.set S n))
 | _=>False
theorem zq9 {pins:List (Addr×Obj)} {σ:St} {H:Hp} {s:Shared} {T:String} {x:V} {v:Value} (I:Inv X pins σ H s) (r:RelV x v) (ty:tyV X.K T x H) :
  s.TypeIs v T/\∀ a,v=.ref a->∃ ob,s.heap.get? a=some ob/\ob.dict=none:=by
 cases x with
 | str z =>
  obtain ⟨t,rfl⟩:=r
  cases (show T = "str" from ty)
  exact ⟨typeIs_str s z t,λ _ e=>nomatch e⟩
 | int i =>
  obtain ⟨t,rfl⟩:=r
  cases (show T = "int" from ty)
  exact ⟨typeIs_int s i t,λ _ e=>nomatch e⟩
 | ref p =>
  cases r
  rcases ty with ⟨rfl,xs,hq⟩ | ⟨rfl,o,hk,hc,hd⟩ | ⟨rfl,hk⟩ | ⟨rfl,S,n,hk⟩
  . obtain ⟨its,_,pl,_⟩:=I.list hq
    refine ⟨pl.isList.typeIs,λ a e=>?_⟩
    cases e
    obtain ⟨o,n,e,c,hd,_⟩:=pl
    exact ⟨o,e,hd⟩
  . refine ⟨⟨o,I.kIn p o hk,hc⟩,λ a e=>?_⟩
    cases e
    exact ⟨o,I.kIn _ o hk,hd⟩
  . have z:∃ o,s.heap.get? p=some o/\o.ExactDict:=by
     rcases hk with ⟨kvs,hk⟩ | ⟨kvs,hk⟩
     . obtain ⟨_,_,_,_,o,_,_,e,ex,_⟩:=I.hok p _ hk
       exact ⟨o,e,ex⟩
     . obtain ⟨_,_,_,_,o,_,_,e,ex,_⟩:=I.hok p _ hk
       exact ⟨o,e,ex⟩
    obtain ⟨o,e,ex⟩:=z
    refine ⟨⟨o,e,ex.1⟩,λ a e2=>?_⟩
    cases e2
    exact ⟨o,e,ex.2.1⟩
  . obtain ⟨o,_,_,_,e,ex,_⟩:=I.hok p _ hk
    refine ⟨⟨o,e,ex.1⟩,λ a e2=>?_⟩
    cases e2
    exact ⟨o,e,ex.2.1⟩
 | _=>exact False.elim ty
def tBM0 (K:PySem.W.Frag) (T:String) (r:V->List V->Hp->VK->Prop) (to:TE):TE:=λ σ H Q=>to σ H λ x H1=>tyV K T x H1/\r x [] H1 Q
def tBM (K:PySem.W.Frag) (T:String) (r:V->List V->Hp->VK->Prop) (to:TE) (t:TA):TE:=λ σ H Q=>to σ H λ x H1=>tyV K T x H1/\t σ H1 λ xs H2=>r x xs H2 Q
variable {o e:Expr} {es:List Expr} {to:TE} {t:TA} {name:Str} {apos cpos:Pos} {T id:String} {r:V->List V->Hp->VK->Prop}
theorem zrc (pa:PlainAttrs T) (slot:Slot T name id) (hty:typeOf (.builtin id)=pure (.type "method_descriptor")) (hm:MtR X id r) (ho:PE X o to)
  (hbase:attributeBase o name X.env (eval o X.env)=eval o X.env:=by rfl) (hline:(apos.endLine == cpos.line)=true:=by rfl):PE X (.Call (.Attribute o name apos) [] [] cpos) (tBM0 X.K T r to):=by
 intro pins s σ H Q I h
 refine wpAny_Call_method0_late hbase hline (thn (ho pins s σ H _ I h) λ v s1 ⟨x,H1,I1,r1,ty,q1⟩=>?_)
 obtain ⟨h1,h2⟩:=zq9 I1 r1 ty
 exact ⟨T,id,pa,slot,hty,h1,h2,Calls.callWith_builtin rfl (PySem.evalArgs_none (hm pins s1 σ H1 x [] v [] Q I1 r1 .nil q1))⟩
theorem zeb (pa:PlainAttrs T) (slot:Slot T name id) (hty:typeOf (.builtin id)=pure (.type "method_descriptor")) (hm:MtR X id r) (ho:PE X o to) (ha:PA X (e::es) t)
  (hbase:attributeBase o name X.env (eval o X.env)=eval o X.env:=by rfl)
  (hfew:((backTo cpos (starEach (e::es) X.env)).all (λ x=>!x.1) && (backToKw cpos (keywordEach [] X.env)).all (λ x=>x.1.isSome)
   && decide ((e::es).length+([]:List Keyword).length+(if ([]:List Keyword).isEmpty then 0 else 1) < 30))=true:=by rfl)
  (hline:(apos.endLine == cpos.line)=true:=by rfl) (hs:starEach (e::es) X.env=(false,eval e X.env)::starEach es X.env:=by rfl) (hplain:(backTo cpos (starEach es X.env)).any (·.1)=false:=by rfl) :
  PE X (.Call (.Attribute o name apos) (e::es) [] cpos) (tBM X.K T r to t):=by
 intro pins s σ H Q I h
 refine wpAny_Call_method_late hbase hfew hline rfl (thn (ho pins s σ H _ I h) λ v s1 ⟨x,H1,I1,r1,ty,q1⟩=>?_)
 obtain ⟨h1,h2⟩:=zq9 I1 r1 ty
 refine ⟨T,id,pa,slot,hty,h1,h2,?_⟩
 have hA:=ha cpos pins s1 σ H1 _ I1 q1
 rw [hs] at hA ⊢
 refine Calls.callWith_builtin (by show (false || (backTo cpos (starEach es X.env)).any (·.1))=false; rw [hplain] <;> rfl) (Calls.evalArgs_plain ?_)
 exact thn hA λ us s2 ⟨vs,H2,I2,r2,q2⟩=>hm pins s2 σ H2 x vs v us Q I2 r1 r2 q2
end
end L2
namespace L2
open PySem PySem.Spec PyProof.Rows
def MtM (X:Cx) (id:String) (r:V->List V->Hp->VK->Prop):Prop :=
 ∀ (pins:List (Addr×Obj)) (s:Shared) (σ:St) (H:Hp) (x:V) (xs:List V) (v:Value) (us:List Value) (Q:VK),Inv X pins σ H s->RelV x v->Vals xs us->r x xs H Q ->
  wpAny (model X.prog X.w) X.A (call (.builtin id) (v::us)) (EP X pins σ Q) X.xe s
theorem Vals.one:∀ {x:V} {us:List Value},Vals [x] us->∃ u,us=[u]/\RelV x u
 | _,_,.cons r .nil=>⟨_,rfl,r⟩
theorem Vals.two:∀ {x y:V} {us:List Value},Vals [x,y] us->∃ u v,us=[u,v]/\RelV x u/\RelV y v
 | _,_,_,.cons r (.cons q .nil)=>⟨_,_,rfl,r,q⟩
theorem Vals.zero:∀ {us:List Value},Vals [] us->us=[]
 | _,.nil=>rfl
theorem Vals.dropLast {xs:List V} {us:List Value} (h:Vals xs us):Vals xs.dropLast us.dropLast:=by
 induction h with
 | nil=>exact .nil
 | cons r t ih =>
  cases t with
  | nil=>exact .nil
  | cons q t'=>exact .cons r ih
theorem Vals.eraseIdx:∀ {xs:List V} {us:List Value} (i:Nat),Vals xs us->Vals (xs.eraseIdx i) (us.eraseIdx i)
 | _,_,_,.nil=>.nil
 | _,_,0,.cons _ t=>t
 | _,_,i+1,.cons r t=>.cons r (Vals.eraseIdx i t)
theorem zob {α:Type} (l:List α):l.eraseIdx (l.length - 1)=l.dropLast:=by
 induction l with
 | nil=>rfl
 | cons a r ih =>
  cases r with
  | nil=>rfl
  | cons b r =>
   have e:(a::b::r).length - 1=((b::r).length - 1)+1:=by
    have h1:(a::b::r).length=r.length+2:=rfl
    have h2:(b::r).length=r.length+1:=rfl
    omega
   rw [e,List.eraseIdx_cons_succ,ih]
   all_goals rfl
theorem zk8 {α:Type}:∀ (l:List α) (i:Nat),(l.eraseIdx i).length<=l.length
 | [],_=>Nat.le_refl _
 | _::_,0=>Nat.le_succ _
 | _::r,i+1=>Nat.succ_le_succ (zk8 r i)
section
variable {X:Cx} {pins:List (Addr×Obj)} {σ:St} {H:Hp} {s:Shared} {l b:Addr} {xs ys zs:List V}
theorem Inv.lset {its its':List Value} {n:Nat} {f:Array Value->Array Value} {t':Nat} (I:Inv X pins σ H s) (hH:H l=some (.lst xs))
  (e:s.heap.get? l=some { cls:=.type "list",data:=.seq its.toArray n }) (hf:f its.toArray=its'.toArray) (hv:Vals ys its') (hz:ys.length<=sizeLine) :
  Inv X pins σ (upd H l (.lst ys)) { s with heap:=s.heap.update l (Obj.mapSeq f),toks:=t' }:=by
 have q:=PySem.IsL.update e f
 rw [hf] at q
 refine I.write (x:=l) (e:=l) (by rw [hH]; exact trivial) (.inl rfl) (λ b' u hb hu=>(Heap.get?_update_other s.heap (Obj.mapSeq f) (Ne.symm hb)).trans hu) ⟨_,q⟩ ?_
 exact ⟨hz,its',_,hv,q⟩
theorem Inv.fresh (I:Inv X pins σ H s):H s.heap.objs.size=none:=I.hok.fresh (Nat.le_refl _)
theorem Inv.lstM (I:Inv X pins σ H s) (hH:H l=some (.lst xs)):xs.length<=sizeLine/\∃ (its:List Value) (n:Nat),Vals xs its/\xs.length=its.length/\s.heap.get? l=some { cls:=.type "list",data:=.seq its.toArray n }:=by
 obtain ⟨z,its,n,r,e⟩:=I.hok l _ hH
 exact ⟨z,its,n,r,r.length,e⟩
end
section
variable {X:Cx}
def zrW:V->List V->Hp->VK->Prop:=λ x vs H Q=>∃ l xs y,x=.ref l/\vs=[y]/\H l=some (.lst xs)/\xs.length < sizeLine/\Q .non (upd H l (.lst (xs++[y])))
theorem zbv:MtM X "list.append" zrW:=by
 intro pins s σ H x vs v us Q I rx rv h
 obtain ⟨l,xs,y,rfl,rfl,hH,hz,q⟩:=h
 cases rx
 obtain ⟨u,rfl,ru⟩:=rv.one
 obtain ⟨z,its,n,r,hl,e⟩:=I.lstM hH
 refine call_meets F.slot_list_append ⟨_,e,rfl⟩ F.entry_list_append (F.args_list_append_2 _ _) (PySem.list_append l its.toArray n u (by rw [List.size_toArray]; omega)) ⟨e,?_⟩
 refine ⟨.non,_,I.lset (its':=its++[u]) hH e (by simp) (r.append (.cons ru .nil)) ?_,rfl,q⟩
 rw [List.length_append,List.length_singleton]
 omega
def rPop:V->List V->Hp->VK->Prop:=λ x vs H Q=>∃ l xs y,x=.ref l/\vs=[]/\H l=some (.lst xs)/\xs[xs.length - 1]?=some y/\Q y (upd H l (.lst xs.dropLast))
theorem zri:MtM X "list.pop" rPop:=by
 intro pins s σ H x vs v us Q I rx rv h
 obtain ⟨l,xs,y,rfl,rfl,hH,hy,q⟩:=h
 cases rx
 have hus:=rv.zero
 subst hus
 obtain ⟨z,its,n,r,hl,e⟩:=I.lstM hH
 obtain ⟨u,hu,ru⟩:=r.get hy
 have hy':its.toArray[its.toArray.size - 1]?=some u:=by
   show its.toArray[its.length - 1]?=some u
   rw [<-Array.getElem?_toList,<-hl]
   exact hu
 refine call_meets F.slot_list_pop ⟨_,e,rfl⟩ F.entry_list_pop (F.args_list_pop_1 _) (MeetsSeq.list_pop_last l its.toArray n u hy' (by rw [List.size_toArray]; omega)) ⟨e,?_⟩
 refine ⟨y,_,I.lset (its':=its.dropLast) hH e ?_ r.dropLast ?_,ru,q⟩
 . show its.toArray.eraseIdxIfInBounds (its.toArray.size - 1)=its.dropLast.toArray
   rw [List.size_toArray,List.eraseIdxIfInBounds_toArray,zob]
 . rw [List.length_dropLast]
   omega
def zs8:V->List V->Hp->VK->Prop:=λ x vs H Q=>∃ l xs i k y,x=.ref l/\vs=[.int i]/\H l=some (.lst xs)/\-(2 ^ 63)<=i/\i < 2 ^ 63/\seqIndex? i xs.length=some k/\xs[k]?=some y/\Q y (upd H l (.lst (xs.eraseIdx k)))
theorem zqB:MtM X "list.pop" zs8:=by
 intro pins s σ H x vs v us Q I rx rv h
 obtain ⟨l,xs,i,k,y,rfl,rfl,hH,h1,h2,hk,hy,q⟩:=h
 cases rx
 obtain ⟨u,rfl,ru⟩:=rv.one
 obtain ⟨t,rfl⟩:=ru
 obtain ⟨z,its,n,r,hl,e⟩:=I.lstM hH
 obtain ⟨w,hw,rw'⟩:=r.get hy
 refine call_meets F.slot_list_pop ⟨_,e,rfl⟩ F.entry_list_pop (F.args_list_pop_2 _ _)
   (MeetsSeq.list_pop_at l its.toArray n i t k w (fitsIndex_both h1 h2) (by rw [List.size_toArray,<-hl]; exact hk) (by rw [<-Array.getElem?_toList]; exact hw) (by rw [List.size_toArray]; omega)) ⟨e,?_⟩
 refine ⟨y,_,I.lset (its':=its.eraseIdx k) hH e ?_ (r.eraseIdx k) ?_,rw',q⟩
 . show its.toArray.eraseIdxIfInBounds k=(its.eraseIdx k).toArray
   rw [List.eraseIdxIfInBounds_toArray]
 . have:=zk8 xs k
   omega
end
section
variable {prog:Program} {w:World} {A:Around} {E:Value->Shared->Prop} {s:Shared}
set_option maxRecDepth 100000 in
end
section
variable {X:Cx}
end
end L2
namespace L2
open PySem PySem.Spec PyProof.Rows
section
variable {κ:Type} [DecidableEq κ]
def valV (kvs:List (κ×V)) (k:κ):Option V:=(kvs.find? λ kv=>decide (kv.1=k)).map (·.2)
def putK (kvs:List (κ×V)) (k:κ) (v:V):List (κ×V) :=
 if (kvs.any λ kv=>decide (kv.1=k))=true then kvs.map (λ kv=>if kv.1=k then (kv.1,v) else kv) else kvs++[(k,v)]
def ziH (kvs:List (κ×V)) (k:κ):List (κ×V):=kvs.filter λ kv=>decide (kv.1≠k)
theorem zep {p:κ×V} {r:List (κ×V)} {k:κ} (e:p.1=k):valV (p::r) k=some p.2:=by simp [valV,List.find?_cons,e]
theorem zeq {p:κ×V} {r:List (κ×V)} {k:κ} (e:¬ p.1=k):valV (p::r) k=valV r k:=by simp [valV,List.find?_cons,e]
theorem zji (k:κ):∀ kvs:List (κ×V),(kvs.any λ kv=>decide (kv.1=k))=(valV kvs k).isSome
 | []=>rfl
 | p::r=>by
  rw [List.any_cons]
  by_cases e:p.1=k
  . simp only [zep e,decide_eq_true e,Bool.true_or,Option.isSome_some]
  . rw [zeq e,decide_eq_false e,Bool.false_or]; exact zji k r
theorem zfg (kvs:List (κ×V)) (k:κ) (v:V):(putK kvs k v).length<=kvs.length+1:=by
 unfold putK
 split
 . rw [List.length_map]; omega
 . rw [List.length_append,List.length_cons,List.length_nil]; omega
theorem zm1 {kvs:List (κ×V)} {k:κ} (v:V) (h:valV kvs k=none):putK kvs k v=kvs++[(k,v)]:=by
 unfold putK
 rw [zji,h]
 exact if_neg (by decide)
theorem RelO.zdq {o:Option V} {u:Option Value} (r:RelO o u):o.isSome=u.isSome:=by
 cases o with
 | none=>cases u with
  | none=>rfl
  | some _=>exact (show False from r).elim
 | some _=>cases u with
  | none=>exact (show False from r).elim
  | some _=>rfl
theorem RelO.getD {o:Option V} {u:Option Value} {d:V} {d':Value} (r:RelO o u) (rd:RelV d d'):RelV (o.getD d) (u.getD d'):=by
 cases o with
 | none=>cases u with
  | none=>exact rd
  | some _=>exact (show False from r).elim
 | some _=>cases u with
  | none=>exact (show False from r).elim
  | some _=>exact r
theorem KV.val {kvs:List (κ×V)} {vs:List (κ×Value)} (r:KV kvs vs) (k:κ):RelO (valV kvs k) (valueAt vs k):=by
 unfold KV at r
 induction r with
 | nil=>exact True.intro
 | @cons p q ps qs h t ih =>
  obtain ⟨h1,h2⟩:=h
  by_cases e:p.1=k
  . have e':q.1=k:=h1.symm.trans e
    have b:valueAt (q::qs) k=some q.2:=by simp [valueAt,List.find?_cons,e']
    rw [zep e,b]; exact h2
  . have e':¬ q.1=k:=λ z=>e (h1.trans z)
    have b:valueAt (q::qs) k=valueAt qs k:=by simp [valueAt,List.find?_cons,e']
    rw [zeq e,b]; exact ih
theorem KV.any {kvs:List (κ×V)} {vs:List (κ×Value)} (r:KV kvs vs) (k:κ):(kvs.any λ kv=>decide (kv.1=k))=vs.any λ kv=>decide (kv.1=k):=by
 unfold KV at r
 induction r with
 | nil=>rfl
 | cons h t ih=>rw [List.any_cons,List.any_cons,ih,h.1]
theorem KV.repl {kvs:List (κ×V)} {vs:List (κ×Value)} (r:KV kvs vs) (k:κ) {y:V} {u:Value} (ry:RelV y u) :
  KV (kvs.map λ kv=>if kv.1=k then (kv.1,y) else kv) (vs.map λ kv=>if kv.1=k then (kv.1,u) else kv):=by
 unfold KV at r ⊢
 induction r with
 | nil=>exact .nil
 | @cons p q ps qs h t ih =>
  rw [List.map_cons,List.map_cons]
  refine .cons ?_ ih
  obtain ⟨h1,h2⟩:=h
  by_cases e:p.1=k
  . rw [if_pos e,if_pos (h1.symm.trans e)]; exact ⟨h1,ry⟩
  . rw [if_neg e,if_neg (λ z=>e (h1.trans z))]; exact ⟨h1,h2⟩
theorem KV.put {kvs:List (κ×V)} {vs:List (κ×Value)} (r:KV kvs vs) (k:κ) {y:V} {u:Value} (ry:RelV y u):KV (putK kvs k y) (stored vs k u):=by
 unfold putK stored
 rw [r.any k]
 by_cases e:(vs.any λ kv=>decide (kv.1=k))=true
 . rw [if_pos e,if_pos e]; exact r.repl k ry
 . rw [if_neg e,if_neg e]; exact Paired.snoc r ⟨rfl,ry⟩
theorem KV.drop {kvs:List (κ×V)} {vs:List (κ×Value)} (r:KV kvs vs) (k:κ):KV (ziH kvs k) (without vs k):=by
 unfold KV at r ⊢
 unfold ziH without
 induction r with
 | nil=>exact .nil
 | @cons p q ps qs h t ih =>
  obtain ⟨h1,h2⟩:=h
  rw [List.filter_cons,List.filter_cons]
  by_cases e:p.1=k
  . have a:¬ decide (p.1≠k)=true:=by simp [e]
    have b:¬ decide (q.1≠k)=true:=by simp [h1.symm.trans e]
    rw [if_neg a,if_neg b]; exact ih
  . have e':¬ q.1=k:=λ z=>e (h1.trans z)
    have a:decide (p.1≠k)=true:=by simp [e]
    have b:decide (q.1≠k)=true:=by simp [e']
    rw [if_pos a,if_pos b]; exact .cons ⟨h1,h2⟩ ih
theorem KV.keys {kvs:List (κ×V)} {vs:List (κ×Value)} (r:KV kvs vs):kvs.map (·.1)=vs.map (·.1):=by
 unfold KV at r
 induction r with
 | nil=>rfl
 | cons h t ih=>rw [List.map_cons,List.map_cons,ih,h.1]
theorem KV.length {kvs:List (κ×V)} {vs:List (κ×Value)} (r:KV kvs vs):kvs.length=vs.length:=Paired.length r
theorem znp (kvs:List (κ×V)) (k:κ):(ziH kvs k).length<=kvs.length:=List.length_filter_le _ _
end
theorem zh1 {P:Program} {w:World} {k:Key} {u:Value} (r:RelV (kV k) u):(zaO P w).is k u=true:=by
 cases k with
 | inl i=>obtain ⟨t,e⟩:=(show ∃ t,u=Value.int i t from r); subst e; exact zhN P w i t
 | inr x=>obtain ⟨t,e⟩:=(show ∃ t,u=Value.str x t from r); subst e; exact zhM P w x t
theorem zld {P:Program} {w:World}:∀ {ks:List Key} {us:List Value},Vals (ks.map kV) us->ItemsAre (zaO P w) ks us
 | [],_,r=>by rw [List.map_nil] at r; cases r; exact .nil
 | k::ks,_,r=>by
  rw [List.map_cons] at r
  cases r with
  | cons h t=>exact .cons (zh1 h) (zld t)
abbrev KT (H:Hp):List (List Key×V)->List (List Key×Addr×Value)->Prop:=Paired λ p q=>p.1=q.1/\H q.2.1=some (.tup (p.1.map kV))/\RelV p.2 q.2.2
theorem KT.val {H:Hp} {kvs:List (List Key×V)} {xs:List (List Key×Addr×Value)} (r:KT H kvs xs) (k:List Key):RelO (valV kvs k) ((atKey xs k).map (·.2)):=by
 induction r with
 | nil=>exact True.intro
 | @cons p q ps qs h t ih =>
  obtain ⟨h1,_,h2⟩:=h
  by_cases e:p.1=k
  . have e':q.1=k:=h1.symm.trans e
    have b:atKey (q::qs) k=some q.2:=by simp [atKey,List.find?_cons,e']
    rw [zep e,b]; exact h2
  . have e':¬ q.1=k:=λ z=>e (h1.trans z)
    have b:atKey (q::qs) k=atKey qs k:=by simp [atKey,List.find?_cons,e']
    rw [zeq e,b]; exact ih
theorem KT.repl {H:Hp} {kvs:List (List Key×V)} {xs:List (List Key×Addr×Value)} (r:KT H kvs xs) (k:List Key) {y:V} {u:Value} (ry:RelV y u) :
  KT H (kvs.map λ kv=>if kv.1=k then (kv.1,y) else kv) (xs.map (putAt k u)):=by
 induction r with
 | nil=>exact .nil
 | @cons p q ps qs h t ih =>
  rw [List.map_cons,List.map_cons]
  refine .cons ?_ ih
  obtain ⟨h1,h2,h3⟩:=h
  unfold putAt
  by_cases e:p.1=k
  . rw [if_pos e,if_pos (h1.symm.trans e)]; exact ⟨h1,h2,ry⟩
  . rw [if_neg e,if_neg (λ z=>e (h1.trans z))]; exact ⟨h1,h2,h3⟩
theorem KT.put {H:Hp} {kvs:List (List Key×V)} {xs:List (List Key×Addr×Value)} (r:KT H kvs xs) (k:List Key) {b:Addr} {y:V} {u:Value} (hb:H b=some (.tup (k.map kV))) (ry:RelV y u) :
   KT H (putK kvs k y) (storedH xs k b u):=by
 have e:(kvs.any λ kv=>decide (kv.1=k))=(atKey xs k).isSome:=by
   rw [zji,(r.val k).zdq,Option.isSome_map]
 unfold putK storedH
 rw [e]
 by_cases q:(atKey xs k).isSome=true
 . rw [if_pos q,if_pos q]; exact r.repl k ry
 . rw [if_neg q,if_neg q]; exact Paired.snoc r ⟨rfl,hb,ry⟩
theorem KT.keeps {H H':Hp} {kvs:List (List Key×V)} {xs:List (List Key×Addr×Value)} (r:KT H kvs xs) (ht:∀ b ys,H b=some (.tup ys)->H' b=some (.tup ys)):KT H' kvs xs :=
 Paired.mapP r λ _ _ z=>⟨z.1,ht _ _ z.2.1,z.2.2⟩
section
variable {P:Program} {w:World} {H:Hp} {h:Heap} {a:Addr}
theorem zs7 {u:HO} (ok:HOk P w H h) (e:Rd H a u):zbY P w H h a u:=e.ok ok
theorem zln {kvs:List (Key×V)} (ok:HOk P w H h) (e:Rd H a (.dK kvs)):kvs.length<=sizeLine/\(a == sysModules)=false/\∃ vs,KV kvs vs/\h.DictOf (zaO P w) a vs :=
 show zbY P w H h a (.dK kvs) from zs7 ok e
theorem zlo {kvs:List (Key×V)} (ok:HOk P w H h) (e:H a=some (.dK kvs)):kvs.length<=sizeLine/\(a == sysModules)=false/\∃ vs,KV kvs vs/\h.DictOf (zaO P w) a vs:=zln ok (.inl e)
theorem zhY {ks:List Key} (ok:HOk P w H h) (e:H a=some (.tup (ks.map kV))):(tupleKind (zaO P w)).is h ks a:=by
 obtain ⟨_,its,r,o,h1,h2,n,h3⟩:=(show zbY P w H h a (.tup (ks.map kV)) from ok a _ e)
 exact ⟨o,its.toArray,n,h1,h2,h3,by simpa using zld r⟩
theorem zlm {kvs:List (List Key×V)} (ok:HOk P w H h) (e:Rd H a (.dT kvs)):kvs.length<=sizeLine/\(a == sysModules)=false /\
  ∃ xs,KT H kvs xs/\h.DictOfH (tupleKind (zaO P w)) a xs:=by
 obtain ⟨z,y,xs,r,o,es,ep,h1,h2,h3,h4,h5⟩:=(show zbY P w H h a (.dT kvs) from zs7 ok e)
 refine ⟨z,y,xs,r,o,es,ep,h1,h2,h3,h4,λ x hx=>?_,h5⟩
 have all:∀ {l:List (List Key×V)} {m:List (List Key×Addr×Value)},KT H l m->∀ x∈m,(tupleKind (zaO P w)).is h x.1 x.2.1:=by
  intro l m q
  induction q with
  | nil=>intro x hx; exact nomatch hx
  | @cons p q ps qs hq t ih =>
   intro x hx
   rcases List.mem_cons.mp hx with e | hx
   . subst e
     exact zhY ok (by rw [<-hq.1]; exact hq.2.1)
   . exact ih x hx
 exact all r x hx
theorem zuk {kvs:List (List Key×V)} (ok:HOk P w H h) (e:H a=some (.dT kvs)):kvs.length<=sizeLine/\(a == sysModules)=false /\
 ∃ xs,KT H kvs xs/\h.DictOfH (tupleKind (zaO P w)) a xs:=zlm ok (.inl e)
end
def DGet (H:Hp) (a:Addr) (y:V) (r:Option V):Prop :=
 (∃ kvs k,Rd H a (.dK kvs)/\y=kV k/\r=valV kvs k)\/∃ kvs k b,Rd H a (.dT kvs)/\y=.ref b/\H b=some (.tup (k.map kV))/\r=valV kvs k
def DPut (H:Hp) (a:Addr) (y v:V) (H':Hp):Prop :=
 (∃ kvs k,H a=some (.dK kvs)/\y=kV k/\kvs.length < sizeLine/\H'=upd H a (.dK (putK kvs k v))) \/
 ∃ kvs k b,H a=some (.dT kvs)/\y=.ref b/\H b=some (.tup (k.map kV))/\kvs.length < sizeLine/\H'=upd H a (.dT (putK kvs k v))
theorem DGet.k {H:Hp} {a:Addr} {kvs:List (Key×V)} {k:Key} (e:H a=some (.dK kvs)):DGet H a (kV k) (valV kvs k):=.inl ⟨kvs,k,.inl e,rfl,rfl⟩
theorem DPut.k {H:Hp} {a:Addr} {kvs:List (Key×V)} {k:Key} {v:V} (e:H a=some (.dK kvs)) (hl:kvs.length < sizeLine):DPut H a (kV k) v (upd H a (.dK (putK kvs k v))):=.inl ⟨kvs,k,e,rfl,hl,rfl⟩
section
variable {X:Cx} {pins:List (Addr×Obj)} {σ:St} {H:Hp} {s:Shared} {a:Addr} {y v:V} {u r:Value} {o:Option V} {A:Around} {E:Value->Shared->Prop}
theorem Inv.big (I:Inv X pins σ H s):sysModules < s.heap.objs.size:=by
 have h:mainGlobals < s.heap.objs.size:=(I.mod.glob.keeps I.bk).lt
 exact Nat.lt_trans (by decide) h
theorem zpW {Q:Value->Shared->Prop} (hu:A.units+1 < cLine) (I:Inv X pins σ H s) (g:DGet H a y (some v)) (ry:RelV y u) (h:∀ w' s',Inv X pins σ H s'->RelV v w'->Q w' s') :
   wpAny (model X.prog X.w) A (getItem (.ref a) u) Q E s:=by
 rcases g with ⟨kvs,k,e,ey,l⟩ | ⟨kvs,k,b,e,ey,eb,l⟩
 . subst ey
   obtain ⟨z,hd,vs,rel,dd⟩:=zln I.hok e
   obtain ⟨w',hw,rw'⟩:=RelO.some_of (v:=v) (o:=valueAt vs k) (by rw [l]; exact rel.val k)
   exact wpAny_getItem_of (zh1 ry) dd.mapOf hw (h w' _ (I.tok _) rw')
 . subst ey
   cases (show u=Value.ref b from ry)
   obtain ⟨z,hd,xs,rel,dd⟩:=zlm I.hok e
   obtain ⟨w',hw,rw'⟩:=RelO.some_of (v:=v) (o:=(atKey xs k).map (·.2)) (by rw [l]; exact rel.val k)
   obtain ⟨p,hp,hp2⟩:=Option.map_eq_some_iff.mp hw
   refine wpAny_getItem_heap (tupleKind_room_in1 hu) (zhY I.hok eb) dd hp ?_
   rw [hp2]
   exact h w' _ (I.tok _) rw'
theorem d_in {Q:Value->Shared->Prop} (hu:A.units+1 < cLine) (I:Inv X pins σ H s) (g:DGet H a y o) (ry:RelV y u) (h:∀ s',Inv X pins σ H s'->Q (.bool o.isSome) s') :
   wpAny (model X.prog X.w) A (compareOp .In u (.ref a)) Q E s:=by
 rcases g with ⟨kvs,k,e,ey,l⟩ | ⟨kvs,k,b,e,ey,eb,l⟩
 . subst ey
   obtain ⟨z,hd,vs,rel,dd⟩:=zln I.hok e
   refine wpAny_in_of (zh1 ry) hd dd.mapOf ?_
   rw [<-(rel.val k).zdq,<-l]
   exact h _ (I.tok _)
 . subst ey
   cases (show u=Value.ref b from ry)
   obtain ⟨z,hd,xs,rel,dd⟩:=zlm I.hok e
   refine wpAny_in_heap (tupleKind_room_in1 hu) (zhY I.hok eb) hd dd ?_
   have q:=(rel.val k).zdq
   rw [Option.isSome_map] at q
   rw [<-q,<-l]
   exact h _ (I.tok _)
theorem zsp {Q:Value->Shared->Prop} (hu:A.units+1 < cLine) (I:Inv X pins σ H s) (g:DGet H a y o) (ry:RelV y u) (h:∀ s',Inv X pins σ H s'->Q (.bool (!o.isSome)) s') :
   wpAny (model X.prog X.w) A (compareOp .NotIn u (.ref a)) Q E s:=by
 rcases g with ⟨kvs,k,e,ey,l⟩ | ⟨kvs,k,b,e,ey,eb,l⟩
 . subst ey
   obtain ⟨z,hd,vs,rel,dd⟩:=zln I.hok e
   refine wpAny_notIn_of (zh1 ry) hd dd.mapOf ?_
   rw [<-(rel.val k).zdq,<-l]
   exact h _ (I.tok _)
 . subst ey
   cases (show u=Value.ref b from ry)
   obtain ⟨z,hd,xs,rel,dd⟩:=zlm I.hok e
   refine wpAny_notIn_heap (tupleKind_room_in1 hu) (zhY I.hok eb) hd dd ?_
   have q:=(rel.val k).zdq
   rw [Option.isSome_map] at q
   rw [<-q,<-l]
   exact h _ (I.tok _)
theorem zib {h':Heap} {t':Nat} {ob:HO} (I:Inv X pins σ H s) (mu:Mut (H a)) (hs:Heap.SameBut a s.heap h') (he:∃ q,h'.get? a=some q) (new:zbY X.prog X.w (upd H a ob) h' a ob) :
  Inv X pins σ (upd H a ob) { s with heap:=h',toks:=t' } :=
 I.write (x:=a) (e:=a) mu (.inl rfl) (λ b q hb z=>(hs.2 b hb).trans z) he new
theorem znq {P:Program} {w:World} {H':Hp} {h':Heap} {kvs:List (Key×V)} {vs:List (Key×Value)} (z:kvs.length<=sizeLine) (hd:(a == sysModules)=false) (rel:KV kvs vs) (dd:h'.DictOf (zaO P w) a vs) :
 zbY P w H' h' a (.dK kvs):=⟨z,hd,vs,rel,dd⟩
theorem zpV {H':Hp} {Q:Unit->Shared->Prop} (hu:A.units+1 < cLine) (I:Inv X pins σ H s) (g:DPut H a y v H') (ry:RelV y u) (rv:RelV v r) (h:∀ s',Inv X pins σ H' s'->Q () s') :
   wpAny (model X.prog X.w) A (setItem (.ref a) u r) Q E s:=by
 rcases g with ⟨kvs,k,e,ey,l,eH⟩ | ⟨kvs,k,b,e,ey,eb,l,eH⟩
 . subst ey eH
   obtain ⟨z,hd,vs,rel,dd⟩:=zlo I.hok e
   have hz:vs.length<=sizeLine:=by rw [<-rel.length]; exact z
   have hl:(putK kvs k v).length<=sizeLine:=by have:=zfg kvs k v; omega
   refine wpAny_setItem_pairs (hsz:=hz) (zh1 ry) dd λ h' dd' hs=>h _ ?_
   have he:∃ q,h'.get? a=some q:=let ⟨q,_,_,hq,_⟩:=dd'; ⟨q,hq⟩
   exact zib I (by rw [e]; exact True.intro) hs he (znq hl hd (rel.put k rv) dd')
 . subst ey eH
   cases (show u=Value.ref b from ry)
   obtain ⟨z,hd,xs,rel,dd⟩:=zuk I.hok e
   have hz:xs.length<=sizeLine:=by rw [<-Paired.length rel]; exact z
   have hl:(putK kvs k v).length<=sizeLine:=by have:=zfg kvs k v; omega
   refine wpAny_setItem_heap (hsz:=hz) (tupleKind_room_in1 hu) (zhY I.hok eb) dd λ h' dd' hs=>h _ ?_
   obtain ⟨q,es,ep,hq,h2,h3,h4,_,h5⟩:=dd'
   refine zib I (by rw [e]; exact True.intro) hs ⟨q,hq⟩ ⟨hl,hd,_,(rel.put k eb rv).keeps λ c ys ec=>?_,q,es,ep,hq,h2,h3,h4,h5⟩
   rw [zaf (zbG ec e (λ z=>nomatch z))]
   exact ec
end
section
variable {X:Cx} {pins:List (Addr×Obj)} {σ:St} {H:Hp} {s:Shared} {a:Addr} {kvs:List (Key×V)} {k:Key} {u:Value} {A:Around} {E:Value->Shared->Prop}
theorem d_delItem {Q:Unit->Shared->Prop} (I:Inv X pins σ H s) (e:H a=some (.dK kvs)) (ry:RelV (kV k) u) (l:(valV kvs k).isSome=true) (h:∀ s',Inv X pins σ (upd H a (.dK (ziH kvs k))) s'->Q () s') :
  wpAny (model X.prog X.w) A (delItem (.ref a) u) Q E s:=by
 obtain ⟨z,hd,vs,rel,dd⟩:=zlo I.hok e
 refine wpAny_delItem_slot dd.typeIs (by decide) PySem.F.slot_dict_delitem
  (call_meetsIn PySem.F.slot_dict_delitem dd.typeIs PySem.F.entry_dict_delitem (PySem.F.args_dict_delitem_2 _ _) (meets_dict_delitem_pairs (zaO X.prog X.w) a (zh1 ry)) ⟨vs,dd,by rw [<-rel.length]; exact z,by rw [<-(rel.val k).zdq]; exact l,λ h' dd' hs=>h _ ?_⟩)
 have he:∃ q,h'.get? a=some q:=let ⟨q,_,_,hq,_⟩:=dd'; ⟨q,hq⟩
 exact zib I (by rw [e]; exact True.intro) hs he (znq (Nat.le_trans (znp kvs k) z) hd (rel.drop k) dd')
theorem zul {v:V} {more:List Value} {Q:Value->Shared->Prop} (I:Inv X pins σ H s) (e:H a=some (.dK kvs)) (ry:RelV (kV k) u) (l:valV kvs k=some v) (hm:more=[]\/∃ x,more=[x])
  (h:∀ w' s',Inv X pins σ (upd H a (.dK (ziH kvs k))) s'->RelV v w'->Q w' s'):wpAny (model X.prog X.w) A (call (.builtin "dict.pop") (.ref a::u::more)) Q E s:=by
 obtain ⟨z,hd,vs,rel,dd⟩:=zlo I.hok e
 obtain ⟨w',hw,rw'⟩:=RelO.some_of (v:=v) (o:=valueAt vs k) (by rw [<-l]; exact rel.val k)
 have hp:(keyPart u).isSome=true:=by
  cases k with
  | inl i=>obtain ⟨t,q⟩:=(show ∃ t,u=Value.int i t from ry); subst q; rfl
  | inr x=>obtain ⟨t,q⟩:=(show ∃ t,u=Value.str x t from ry); subst q; rfl
 have ha:argsOk "dict.pop" ⟨.ref a::u::more,[]⟩:=by
  rcases hm with q | ⟨x,q⟩
  . subst q; exact PySem.F.args_dict_pop_2 _ _
  . subst q; exact PySem.F.args_dict_pop_3 _ _ _
 refine call_meetsIn PySem.F.slot_dict_pop dd.typeIs PySem.F.entry_dict_pop ha (meets_dict_pop_there (zaO X.prog X.w) a (zh1 ry) more hm hp)
  ⟨vs,w',dd,by rw [<-rel.length]; exact z,hw,λ h' dd' hs=>h w' _ ?_ rw'⟩
 have he:∃ q,h'.get? a=some q:=let ⟨q,_,_,hq,_⟩:=dd'; ⟨q,hq⟩
 exact zib I (by rw [e]; exact True.intro) hs he (znq (Nat.le_trans (znp kvs k) z) hd (rel.drop k) dd')
theorem ztG {r:Value} {Q:Value->Shared->Prop} (I:Inv X pins σ H s) (e:H a=some (.dK kvs)) (ry:RelV (kV k) u) (l:valV kvs k=none) (h:∀ s',Inv X pins σ H s'->Q r s') :
  wpAny (model X.prog X.w) A (call (.builtin "dict.pop") [.ref a,u,r]) Q E s:=by
 obtain ⟨z,hd,vs,rel,dd⟩:=zlo I.hok e
 have hn:valueAt vs k=none:=RelO.none_of (by rw [<-l]; exact rel.val k)
 have hp:(keyPart u).isSome=true:=by
  cases k with
  | inl i=>obtain ⟨t,q⟩:=(show ∃ t,u=Value.int i t from ry); subst q; rfl
  | inr x=>obtain ⟨t,q⟩:=(show ∃ t,u=Value.str x t from ry); subst q; rfl
 exact call_meetsIn PySem.F.slot_dict_pop dd.typeIs PySem.F.entry_dict_pop (PySem.F.args_dict_pop_3 _ _ _) (meets_dict_pop_default (zaO X.prog X.w) a (zh1 ry) hd hp r) ⟨vs,dd,hn,h _ (I.tok _)⟩
end
def NoSl (i:Expr):Prop:=∀ ov iv,subscripted i false ov iv=operate [ov,iv] (getItem ov iv)
theorem zrD {prog:Program} {w:World} {A:Around} {E:Value->Shared->Prop} {s:Shared} {env:Env} {value slice:Expr} {pos:Pos} {T id:String} {Q:Value->Shared->Prop}
  (hl:typeLookup (.type T) "__getitem__" = pure (some (.builtin id))) (hs:NoSl slice)
  (h:wpAny (model prog w) A (eval value env) (λ o s₁=>wpAny (model prog w) A (eval slice env) (λ i s₂=>s₂.TypeIs o T/\wpAny (model prog w) A (getItem o i) Q E s₂) E s₁) E s) :
  wpAny (model prog w) A (eval (.Subscript value slice pos) env) Q E s:=by
 refine Subscript_ (wpAny_mono h (λ o s₁ h₁=>wpAny_mono h₁ (λ i s₂ h₂=>?_) λ _ _ x=>x) λ _ _ x=>x)
 obtain ⟨hT,h₂⟩:=h₂
 unfold subscriptTail
 refine wpAny_bind ?_
 rw [getitemInPython_of_ne hT.not_modules]
 refine wpAny_bind (wpAny_specialOf hT hl ?_)
 have fin:wpAny (model prog w) A (subscripted slice false o i) (λ r s₃=>wpAny (model prog w) A (letTemporaryGo value o r >>= λ _=>pure r) Q E s₃) E s₂:=by
  rw [hs o i]
  exact wpAny_operating (wpAny_mono h₂ (λ r s₃ h₃=>wpAny_bind (wpAny_letTemporaryGo (wpAny_pure h₃))) λ _ _ x=>x)
 first
  | exact wpAny_pure (wpAny_bind fin)
  | exact wpAny_bind (wpAny_pure (wpAny_bind fin))
  | exact wpAny_bind fin
theorem zmm {X:Cx} {pins:List (Addr×Obj)} {σ:St} {H:Hp} {s:Shared} {a:Addr} {y:V} {o:Option V} (I:Inv X pins σ H s) (g:DGet H a y o):s.TypeIs (.ref a) "dict" := by
 rcases g with ⟨kvs,k,e,_,_⟩ | ⟨kvs,k,b,e,_,_,_⟩
 . obtain ⟨_,_,vs,_,dd⟩:=zln I.hok e
   exact dd.typeIs
 . obtain ⟨_,_,xs,_,dd⟩:=zlm I.hok e
   exact dd.typeIs
def ztU (td ty:TE):TE:=λ σ H Q=>td σ H λ x H1=>ty σ H1 λ y H2=>∃ a v,x=.ref a/\DGet H2 a y (some v)/\Q v H2
def tDIn (ty td:TE):TE:=λ σ H Q=>ty σ H λ y H1=>td σ H1 λ x H2=>∃ a o,x=.ref a/\DGet H2 a y o/\Q (.bl o.isSome) H2
def zrB (ty td:TE):TE:=λ σ H Q=>ty σ H λ y H1=>td σ H1 λ x H2=>∃ a o,x=.ref a/\DGet H2 a y o/\Q (.bl (!o.isSome)) H2
def zs5 (td ty tv:TE):TS:=λ D σ H=>tv σ H λ v H1=>td σ H1 λ x H2=>ty σ H2 λ y H3=>∃ a H4,x=.ref a/\DPut H3 a y v H4/\D.nx σ H4
section
variable {X:Cx} {o i e value:Expr} {pos pos' tpos:Pos} {td ty tv:TE}
theorem zdB (hu:X.A.units+1 < cLine) (ho:PE X o td) (hi:PE X i ty) (hs:NoSl i):PE X (.Subscript o i pos) (ztU td ty):=by
 intro pins s σ H Q I h
 refine zrD PySem.F.slot_dict_getitem.lookup hs (thn (ho pins s σ H _ I h) λ u s1 ⟨x,H1,I1,rx,q1⟩=>thn (hi pins s1 σ H1 _ I1 q1) λ iv s2 ⟨y,H2,I2,ry,a,v,ex,g,q2⟩=>?_)
 subst ex
 obtain rfl:u=Value.ref a:=rx
 exact ⟨zmm I2 g,zpW hu I2 g ry λ w' s3 I3 rw'=>⟨v,H2,I3,rw',q2⟩⟩
theorem zo0 (hu:X.A.units+1 < cLine) (hi:PE X i ty) (ho:PE X o td):PC X .In i o (tDIn ty td):=by
 intro pins s σ H Q I h
 refine thn (hi pins s σ H _ I h) λ iv s1 ⟨y,H1,I1,ry,q1⟩=>thn (ho pins s1 σ H1 _ I1 q1) λ u s2 ⟨x,H2,I2,rx,a,ov,ex,g,q2⟩=>?_
 subst ex
 obtain rfl:u=Value.ref a:=rx
 exact d_in hu I2 g ry λ s3 I3=>⟨.bl ov.isSome,H2,I3,rfl,q2⟩
theorem zhC (hu:X.A.units+1 < cLine) (hi:PE X i ty) (ho:PE X o td):PC X .NotIn i o (zrB ty td):=by
 intro pins s σ H Q I h
 refine thn (hi pins s σ H _ I h) λ iv s1 ⟨y,H1,I1,ry,q1⟩=>thn (ho pins s1 σ H1 _ I1 q1) λ u s2 ⟨x,H2,I2,rx,a,ov,ex,g,q2⟩=>?_
 subst ex
 obtain rfl:u=Value.ref a:=rx
 exact zsp hu I2 g ry λ s3 I3=>⟨.bl (!ov.isSome),H2,I3,rfl,q2⟩
theorem zhz (hu:X.A.units+1 < cLine) (ho:PE X o td) (hi:PE X i ty) (hv:PE X value tv) (hs:swapsWith value (some (.Subscript o i pos')) pos.line X.env=pure false) :
  PS X (.Assign [.Subscript o i pos'] value pos) (zs5 td ty tv):=by
 intro pins s σ H D I h
 refine wpAny_Assign_Subscript (thn (hv pins s σ H _ I h) λ r s1 ⟨v,H1,I1,rv,q1⟩=>thn (ho pins s1 σ H1 _ I1 q1) λ u s2 ⟨x,H2,I2,rx,q2⟩=>thn (hi pins s2 σ H2 _ I2 q2) λ iv s3 ⟨y,H3,I3,ry,a,H4,ex,g,q3⟩=>?_) hs
 subst ex
 obtain rfl:u=Value.ref a:=rx
 exact zpV hu I3 g ry rv λ s4 I4=>⟨σ,H4,I4,q3⟩
end
theorem zqY {P:Program} {w:World} {H:Hp} (h:Heap) (hb:sysModules < h.objs.size):zbY P w H (h.push { cls:=.type "dict",data:=.dict #[] }) h.objs.size (.dK []) :=
 ⟨Nat.zero_le _,beq_eq_false_iff_ne.mpr (Ne.symm (Nat.ne_of_lt hb)),[],.nil,Heap.DictOf.new h⟩
def zsK:TE:=λ _ H Q=>∀ p,H p=none->Q (.ref p) (upd H p (.dK []))
section
variable {X:Cx} {pos:Pos}
theorem zfE:PE X (.Dict [] [] pos) zsK:=λ pins s σ H Q I h =>
 wpAny_Dict_empty ⟨.ref s.heap.objs.size,_,I.laid (a:=s.heap.objs.size) (o:=.dK []) (t':=s.toks) (λ _ _ q=>Heap.get?_push_of_some _ q) (Nat.le_refl _) (zqY s.heap I.big),rfl,h _ (I.hok.fresh (Nat.le_refl _))⟩
end
structure M1 (X:Cx) (o:Expr) (m:Str) (apos:Pos) (e:Expr) (cpos:Pos):Prop where
 base:attributeBase o m X.env (eval o X.env)=eval o X.env
 few:((backTo cpos (starEach [e] X.env)).all (λ x=>!x.1) && (backToKw cpos (keywordEach [] X.env)).all (λ x=>x.1.isSome)
  && decide (([e]:List Expr).length+([]:List Keyword).length+(if ([]:List Keyword).isEmpty then 0 else 1) < 30))=true
 line:(apos.endLine == cpos.line)=true
 trees:backTo cpos (starEach [e] X.env)=[(false,eval e X.env)]
structure M2 (X:Cx) (o:Expr) (m:Str) (apos:Pos) (e f:Expr) (cpos:Pos):Prop where
 base:attributeBase o m X.env (eval o X.env)=eval o X.env
 few:((backTo cpos (starEach [e,f] X.env)).all (λ x=>!x.1) && (backToKw cpos (keywordEach [] X.env)).all (λ x=>x.1.isSome)
  && decide (([e,f]:List Expr).length+([]:List Keyword).length+(if ([]:List Keyword).isEmpty then 0 else 1) < 30))=true
 line:(apos.endLine == cpos.line)=true
 trees:backTo cpos (starEach [e,f] X.env)=[(false,eval e X.env),(false,eval f X.env)]
def IsD (H:Hp) (a:Addr):Prop:=(∃ kvs,Rd H a (.dK kvs))\/∃ kvs,Rd H a (.dT kvs)
theorem znj {X:Cx} {pins:List (Addr×Obj)} {σ:St} {H:Hp} {s:Shared} {a:Addr} (I:Inv X pins σ H s) (d:IsD H a) :
   s.TypeIs (.ref a) "dict" /\ (∀ b,Value.ref a=.ref b->∃ ob,s.heap.get? b=some ob/\ob.dict=none)/\(a == sysModules)=false:=by
 rcases d with ⟨kvs,e⟩ | ⟨kvs,e⟩
 . obtain ⟨_,hd,vs,_,dd⟩:=zln I.hok e
   refine ⟨dd.typeIs,λ b q=>?_,hd⟩
   cases q
   obtain ⟨ob,_,_,h1,h2,_⟩:=dd
   exact ⟨ob,h1,h2.2.1⟩
 . obtain ⟨_,hd,xs,_,dd⟩:=zlm I.hok e
   refine ⟨dd.typeIs,λ b q=>?_,hd⟩
   cases q
   obtain ⟨ob,_,_,h1,h2,_⟩:=dd
   exact ⟨ob,h1,h2.2.1⟩
section
variable {X:Cx} {pins:List (Addr×Obj)} {σ:St} {H:Hp} {s:Shared} {a:Addr} {y d:V} {u r:Value} {o:Option V} {A:Around} {E:Value->Shared->Prop}
theorem ztI {Q:Value->Shared->Prop} (hu:A.units+1 < cLine) (I:Inv X pins σ H s) (g:DGet H a y o) (ry:RelV y u) (h:∀ w' s',Inv X pins σ H s'->RelV (o.getD .non) w'->Q w' s') :
   wpAny (model X.prog X.w) A (call (.builtin "dict.get") [.ref a,u]) Q E s:=by
 rcases g with ⟨kvs,k,e,ey,l⟩ | ⟨kvs,k,b,e,ey,eb,l⟩
 . subst ey
   obtain ⟨z,hd,vs,rel,dd⟩:=zln I.hok e
   refine call_meetsIn PySem.F.slot_dict_get dd.typeIs PySem.F.entry_dict_get (PySem.F.args_dict_get_2 _ _) (meets_dict_get (zaO X.prog X.w) a (zh1 ry) hd) ⟨_,dd.mapOf,h _ _ (I.tok _) ?_⟩
   rw [l]
   exact (rel.val k).getD rfl
 . subst ey
   cases (show u=Value.ref b from ry)
   obtain ⟨z,hd,xs,rel,dd⟩:=zlm I.hok e
   refine call_meetsIn PySem.F.slot_dict_get dd.typeIs PySem.F.entry_dict_get (PySem.F.args_dict_get_2 _ _) (meetsH_dict_get (tupleKind (zaO X.prog X.w)) a b hd) ⟨tupleKind_room_in1 hu,k,xs,zhY I.hok eb,dd,h _ _ (I.tok _) ?_⟩
   rw [l]
   exact (rel.val k).getD rfl
theorem ztH {Q:Value->Shared->Prop} (hu:A.units+1 < cLine) (I:Inv X pins σ H s) (g:DGet H a y o) (ry:RelV y u) (rd:RelV d r) (h:∀ w' s',Inv X pins σ H s'->RelV (o.getD d) w'->Q w' s') :
   wpAny (model X.prog X.w) A (call (.builtin "dict.get") [.ref a,u,r]) Q E s:=by
 rcases g with ⟨kvs,k,e,ey,l⟩ | ⟨kvs,k,b,e,ey,eb,l⟩
 . subst ey
   obtain ⟨z,hd,vs,rel,dd⟩:=zln I.hok e
   refine call_meetsIn PySem.F.slot_dict_get dd.typeIs PySem.F.entry_dict_get (PySem.F.args_dict_get_3 _ _ _) (meets_dict_get_default (zaO X.prog X.w) a (zh1 ry) hd r) ⟨_,dd.mapOf,h _ _ (I.tok _) ?_⟩
   rw [l]
   exact (rel.val k).getD rd
 . subst ey
   cases (show u=Value.ref b from ry)
   obtain ⟨z,hd,xs,rel,dd⟩:=zlm I.hok e
   refine call_meetsIn PySem.F.slot_dict_get dd.typeIs PySem.F.entry_dict_get (PySem.F.args_dict_get_3 _ _ _) (meetsH_dict_get_default (tupleKind (zaO X.prog X.w)) a b hd r) ⟨tupleKind_room_in1 hu,k,xs,zhY I.hok eb,dd,h _ _ (I.tok _) ?_⟩
   rw [l]
   exact (rel.val k).getD rd
end
def zsM (td ty:TE):TE:=λ σ H Q=>td σ H λ x H1=>∃ a,x=.ref a/\IsD H1 a/\ty σ H1 λ y H2=>∃ o,DGet H2 a y o/\Q (o.getD .non) H2
def zsL (td ty tx:TE):TE:=λ σ H Q=>td σ H λ x H1=>∃ a,x=.ref a/\IsD H1 a/\ty σ H1 λ y H2=>tx σ H2 λ z H3=>∃ o,DGet H3 a y o/\Q (o.getD z) H3
def zsJ (td ty tx:TE):TE:=λ σ H Q=>td σ H λ x H1=>∃ a,x=.ref a/\IsD H1 a/\ty σ H1 λ y H2=>tx σ H2 λ z H3=>∃ kvs k,H3 a=some (.dK kvs)/\y=kV k /\
 (∀ v,valV kvs k=some v->Q v (upd H3 a (.dK (ziH kvs k))))/\(valV kvs k=none->Q z H3)
section
variable {X:Cx} {o e f:Expr} {apos cpos:Pos} {td ty tx:TE}
theorem zqy (hu:X.A.units+1 < cLine) (ho:PE X o td) (he:PE X e ty) (m:M1 X o "get" apos e cpos):PE X (.Call (.Attribute o "get" apos) [e] [] cpos) (zsM td ty):=by
 intro pins s σ H Q I h
 refine wpAny_Call_method m.base m.few m.line PySem.F.plainAttrs_dict PySem.F.slot_dict_get PySem.F.type_dict_get (thn (ho pins s σ H _ I h) λ u s1 ⟨x,H1,I1,rx,a,ex,d,q1⟩=>?_)
 subst ex
 obtain rfl:u=Value.ref a:=rx
 obtain ⟨t1,t2,_⟩:=znj I1 d
 refine ⟨t1,t2,?_⟩
 rw [m.trees]
 refine Calls.callWith_builtin rfl (Calls.evalArgs_plain (Calls.spliced_cons (thn (he pins s1 σ H1 _ I1 q1) λ iv s2 ⟨y,H2,I2,ry,ov,g,q2⟩=>Calls.spliced_nil ?_)))
 exact ztI hu I2 g ry λ w' s3 I3 rw'=>⟨_,H2,I3,rw',q2⟩
theorem zqx (hu:X.A.units+1 < cLine) (ho:PE X o td) (he:PE X e ty) (hf:PE X f tx) (m:M2 X o "get" apos e f cpos):PE X (.Call (.Attribute o "get" apos) [e,f] [] cpos) (zsL td ty tx):=by
 intro pins s σ H Q I h
 refine wpAny_Call_method m.base m.few m.line PySem.F.plainAttrs_dict PySem.F.slot_dict_get PySem.F.type_dict_get (thn (ho pins s σ H _ I h) λ u s1 ⟨x,H1,I1,rx,a,ex,d,q1⟩=>?_)
 subst ex
 obtain rfl:u=Value.ref a:=rx
 obtain ⟨t1,t2,_⟩:=znj I1 d
 refine ⟨t1,t2,?_⟩
 rw [m.trees]
 refine Calls.callWith_builtin rfl (Calls.evalArgs_plain (Calls.spliced_cons (thn (he pins s1 σ H1 _ I1 q1) λ iv s2 ⟨y,H2,I2,ry,q2⟩ =>
  Calls.spliced_cons (thn (hf pins s2 σ H2 _ I2 q2) λ fv s3 ⟨z,H3,I3,rz,ov,g,q3⟩=>Calls.spliced_nil ?_))))
 exact ztH hu I3 g ry rz λ w' s4 I4 rw'=>⟨_,H3,I4,rw',q3⟩
theorem zm4 (ho:PE X o td) (he:PE X e ty) (hf:PE X f tx) (m:M2 X o "pop" apos e f cpos):PE X (.Call (.Attribute o "pop" apos) [e,f] [] cpos) (zsJ td ty tx):=by
 intro pins s σ H Q I h
 refine wpAny_Call_method m.base m.few m.line PySem.F.plainAttrs_dict PySem.F.slot_dict_pop PySem.F.type_dict_pop (thn (ho pins s σ H _ I h) λ u s1 ⟨x,H1,I1,rx,a,ex,d,q1⟩=>?_)
 subst ex
 obtain rfl:u=Value.ref a:=rx
 obtain ⟨t1,t2,_⟩:=znj I1 d
 refine ⟨t1,t2,?_⟩
 rw [m.trees]
 refine Calls.callWith_builtin rfl (Calls.evalArgs_plain (Calls.spliced_cons (thn (he pins s1 σ H1 _ I1 q1) λ iv s2 ⟨y,H2,I2,ry,q2⟩ =>
  Calls.spliced_cons (thn (hf pins s2 σ H2 _ I2 q2) λ fv s3 ⟨z,H3,I3,rz,kvs,k,ea,ey,q3,q4⟩=>Calls.spliced_nil ?_))))
 subst ey
 cases l:valV kvs k with
 | some v=>exact zul I3 ea ry l (.inr ⟨fv,rfl⟩) λ w' s4 I4 rw'=>⟨v,_,I4,rw',q3 v l⟩
 | none=>exact ztG I3 ea ry l λ s4 I4=>⟨z,H3,I4,rz,q4 l⟩
end
section
variable {X:Cx} {pins:List (Addr×Obj)} {σ:St} {H:Hp} {s:Shared} {a:Addr} {kvs:List (Key×V)} {A:Around} {E:Value->Shared->Prop}
end
section
variable {X:Cx} {pins:List (Addr×Obj)} {σ:St} {H:Hp} {s:Shared} {a:Addr} {y:V} {u:Value} {A:Around} {E:Value->Shared->Prop}
end
end L2
namespace Att
open PySem PySem.W PySem.Calls PyProof.Rows
theorem zh2 {P:Params} {h:Heap}:∀ (ns:List Int) (vs:List Value),WellAll P h vs (ns.map WData.int)->IntsAre vs ns:=by
 intro ns
 induction ns with
 | nil =>
  intro vs w
  rw [List.map_nil] at w
  cases w
  exact .nil
 | cons n ns ih =>
  intro vs w
  rw [List.map_cons] at w
  cases w with
  | cons a b =>
   cases a
   exact .cons _ _ (ih _ b)
theorem zoN {l:OpenLaw} {n:Nat} (hn:l.most=some n) {P:Params} {h:Heap} {args:List WData} {vals:List Value}
  (hpre:l.row.toRowW.claim.pre args=true) (hwl:WellAll P h vals args) :
  ∃ a vs ns,vals=[Value.ref a]/\args=[WData.list (ns.map WData.int)]/\h.get? a=some { cls:=.type "list",data:=.seq vs.toArray }/\IntsAre vs ns/\ns.length<=n:=by
 have hsh:WShape.hasAll [] args [.list .int]=true:=(pre_splitW hpre).1
 have hc:l.pre.holds [] { args:=args }=true:=(pre_splitW hpre).2
 obtain ⟨d,r,rfl,h1,h2⟩:=hasAllW_cons hsh
 obtain rfl:=hasAllW_nil h2
 obtain ⟨xs,rfl,h3⟩:=hasW_list h1
 obtain ⟨ns,rfl⟩:=items_int h3
 have hlen:ns.length<=n:=by
  unfold OpenLaw.pre at hc
  have h4:(WTm.not (.lt (.lit (.int (n:Int))) (.len (.arg 0)))).holds [] { args:=[.list (ns.map .int)] }=true:=by
   have h4:=(holds_andW hc).1
   rw [hn] at h4
   exact h4
  have h5:=condW_of h4 (w_not (w_lt w_lit (w_len_list (w_arg rfl))))
  rw [List.length_map] at h5
  refine Nat.le_of_not_lt λ q=>?_
  have q':(n:Int) < ((ns.length:Nat):Int):=by omega
  first
   | (rw [decide_eq_true q'] at h5; exact absurd h5 (by decide))
   | (simp at h5; omega)
 cases hwl with
 | cons w1 w2 =>
  cases w2
  cases w1 with
  | list ho hall=>exact ⟨_,_,ns,rfl,rfl,ho,zh2 ns _ hall,hlen⟩
theorem zoU (l:OpenLaw) (args:List WData):l.row.toRowW.claim.post args (.bool true) args=true :=
 postW_of (r:=l.row.toRowW) (X:=(true == true))
  (show WShape.has [] (.bool true) .bool=true by first | rfl | decide | simp [WShape.has,WShape.arms,WShape.armsAll])
  (show (WTm.eq .res (.lit (.bool true))).value [] { args:=args,res:=some (.bool true),after:=args }=some (.bool (true == true)) from w_eq_bool (w_res rfl) w_lit) rfl
theorem zmB {l:OpenLaw} {n:Nat} {q:Program} {loose:List Str} {XP:(Str->Option Value)->Heap->Prop} {YP:World->Heap->Prop} {d:DefRec}
  (hn:l.most=some n) (hdf:d.params.defaults=[])
  (call:∀ (w:World) (s₀ s₁:Shared) (mg mb:Str->Option Value) (fa:Addr) (o:Obj) (pm cd doc:Value) (a:Addr) (vs:List Value) (ns:List Int),
   Ground q loose [] XP w s₀ mg mb s₁.heap->YP w s₁.heap ->
   s₁.heap.get? fa=some o->o.data=.func (docDef d.name d.params d.body d.scope pm cd doc)->s₁.heap.CodeRec cd d.name->mg d.name=some (.ref fa) ->
   s₁.heap.get? a=some { cls:=.type "list",data:=.seq vs.toArray }->IntsAre vs ns->ns.length<=n->s₁.gens=#[] ->
   codeAny (model l.prog w) callerA (.call (.ref fa) ⟨[.ref a],[]⟩) (λ r s'=>r=.ok (.ret (.bool true))/\OldK s₁.heap s'.heap/\s'.os=s₁.os/\AllBare s'.gens) s₁) :
  WalkO q loose XP YP l.row.toRowW d [] (λ f vs=>PySem.call f vs):=by
 intro w s₀ s₁ mg mb G Y fa o pm cd doc dV kV ho hd hcd hD hmg hg args vals as hpre hlay hrd hwl hlo
 obtain rfl:dV=.none:=Dflts.none hD hdf
 obtain rfl:kV=.none:=Dflts.noKw hD
 obtain ⟨a,vs,ns,rfl,rfl,hobj,hints,hlen⟩:=zoN hn hpre hwl
 refine enter_call (codeAny_mono (call w s₀ s₁ mg mb fa o pm cd doc a vs ns G Y ho (fd_plain hd) hcd hmg hobj hints hlen hg) λ r s' hq=>?_)
 obtain ⟨rfl,h2,h3,h4⟩:=hq
 exact ⟨.inl ⟨.bool true,.bool true,[],rfl,λ _=>rfl,.bool true,zoU l _,λ _=>⟨List.Pairwise.nil,λ _ hm=>(nomatch hm)⟩⟩,h2,h3,h4⟩
section
variable {prog:Program} {w:World} {A:Around} {E:Value->Shared->Prop} {s:Shared} {K:Frag}
end
end Att
namespace L2
open PySem PySem.Spec PyProof.Rows
theorem zkm:∀ {vs:List Value} {ns:List Int},IntsAre vs ns->Vals (ns.map V.int) vs
 | _,_,.nil=>.nil
 | _,_,.cons n t h=>.cons ⟨t,rfl⟩ (zkm h)
def Only (H:Hp):Prop:=∀ b,H b=none\/∃ o xs,H b=some (.frz o (.lst xs))
theorem zqJ {P:Program} {w:World} {K:PySem.W.Frag} {mg mb:Str->Option Value} {CX:CXT} {k:Nat} {fa a:Addr} {fd:FuncData} {x:Str} {sp:Sp} {s₁:Shared} {vs:List Value} {ns:List Int}
  (KX:K.In s₁.heap) (hns:s₁.heap.Ns mainGlobals mg) (hb:s₁.heap.Ns builtinsNs mb) (hbb:∀ x:Str,x ≠ "__name__" -> mb x=bootBuiltins x) (hlim:s₁.heap.NoLimit) (hg:s₁.gens=#[])
  (ha:s₁.heap.get? a=some { cls:=.type "list",data:=.seq vs.toArray }) (hi:IntsAre vs ns) (hl:ns.length<=sizeLine) (hr:Room k callerA)
  (F:∀ base:Heap,K.In base->base.Ns mainGlobals mg->FnOk P w K mg base CX k fa fd [x] sp) (hbind:∀ (s:Shared) (u:Value),BindsTo s fd ⟨[u],[]⟩ [(x,u)])
  (hsp:∀ H:Hp,Only H->SqL K H a (ns.map V.int)->sp [.ref a] H (λ v _=>v=.bl true) λ _ _ _=>False)
  (hCX:∀ H e s',CX [] H s₁ (λ _ _ _=>False) e s'->False) :
  codeAny (model P w) callerA (.call (.ref fa) ⟨[.ref a],[]⟩) (λ r s'=>r=.ok (.ret (.bool true))/\OldK s₁.heap s'.heap/\s'.os=s₁.os/\AllBare s'.gens) s₁:=by
 have rv:=zkm hi
 have lenV:=hi.length
 have core:∀ H:Hp,Only H->SqL K H a (ns.map V.int)->HOk P w H s₁.heap->(∀ b,H b≠none->b=a)->(H a≠none->K.lookup a=none) ->
    codeAny (model P w) callerA (.call (.ref fa) ⟨[.ref a],[]⟩) (λ r s'=>r=.ok (.ret (.bool true))/\OldK s₁.heap s'.heap/\s'.os=s₁.os/\AllBare s'.gens) s₁:=by
  intro H hO hS hok hA hK
  have base_of:∀ {b:Addr} {o:Obj},s₁.heap.get? b=some o->H b=none->(hidT s₁.heap H).get? b=some o:=λ e n=>zqM e n
  have noA:∀ {b:Addr} {o:Obj} {es:Array DictEntry} {ep:Nat},s₁.heap.get? b=some o->o.data=.dict es ep->H b=none:=λ {b o es ep} e d=>by
    cases q:H b with
    | none=>rfl
    | some u =>
      have e':b=a:=hA b (by rw [q]; simp)
      subst e'
      rw [ha] at e; cases e
      have d':Data.seq vs.toArray _=Data.dict es ep:=d
      cases d'
  have nsK:∀ {b:Addr} {m:Str->Option Value},s₁.heap.Ns b m->(hidT s₁.heap H).Ns b m:=λ {b m} ⟨o,es,ep,e,d,r⟩=>⟨o,es,ep,base_of e (noA e d),d,r⟩
  have hKb:K.In (hidT s₁.heap H):=λ b o e=>base_of (KX b o e) (by
    cases q:H b with
    | none=>rfl
    | some u =>
      have e':b=a:=hA b (by rw [q]; simp)
      subst e'
      rw [hK (by rw [q]; simp)] at e; cases e)
  have hM:Mod K mg (hidT s₁.heap H):=⟨hKb,nsK hns,⟨mb,nsK hb,hbb⟩,let ⟨mc,h1,h2⟩:=hlim; ⟨mc,nsK h1,h2⟩⟩
  have e0:Env0 P w K mg (hidT s₁.heap H) callerA [] s₁ H:=⟨rfl,hM,λ b o e=>zr6 e,Nat.le_of_eq (zpz _ _),trivial,λ b hb=>absurd (show b∈([]:List Addr) from hb) (by simp),hok,.of_eq hg⟩
  refine codeAny_mono ((F _ hKb (nsK hns)).run callerA [] s₁ H ⟨[.ref a],[]⟩ [.ref a] [.ref a] _ _ hr e0 (hbind s₁ (.ref a)) (.cons rfl .nil) (hsp H hO hS)) λ r s' h=>?_
  cases r with
  | error e=>exact (hCX H e s' h).elim
  | ok fl =>
    cases fl with
    | next=>exact False.elim h
    | brk=>exact False.elim h
    | cont=>exact False.elim h
    | ret u =>
      obtain ⟨v,H',os,bare,un,hok',r',q⟩:=h
      have q':v=.bl true:=q
      subst q'
      obtain rfl:u=Value.bool true:=r'
      refine ⟨rfl,OldK.of_keep λ b o e=>?_,os,bare⟩
      cases q:H b with
      | none=>exact un.keep b o e q (by intro z; exact absurd (show b∈([]:List Addr) from z) (by simp)) (by simp)
      | some u =>
       rcases hO b with z | ⟨ob,xs,z⟩
       . rw [q] at z; cases z
       . have z2:=un.frzs b ob _ z
         obtain ⟨e1,_⟩:=hok b _ z
         obtain ⟨e2,_⟩:=hok' b _ z2
         rw [e] at e1; cases e1
         exact e2
 cases hk:K.lookup a with
 | some o =>
  have e:=KX a o hk
  rw [ha] at e
  cases e
  refine core (λ _=>none) (λ _=>.inl rfl) (.inr ⟨_,vs.toArray,_,hk,rfl,rfl,rfl,by rw [List.size_toArray,lenV]; exact hl,by simpa using rv⟩) (λ b u z=>by have z':(none:Option HO)=some u:=z; cases z') (λ b z=>absurd rfl z) λ z=>absurd rfl z
 | none =>
  refine core (λ b=>if b=a then some (.frz { cls:=.type "list",data:=.seq vs.toArray } (.lst (ns.map V.int))) else none) (λ b=>?_) (.inl (.inr ⟨{ cls:=.type "list",data:=.seq vs.toArray },if_pos rfl⟩)) (λ b u z=>?_) (λ b z=>?_) λ _=>hk
  . by_cases hb:b=a
    . exact .inr ⟨_,_,if_pos hb⟩
    . exact .inl (if_neg hb)
  . by_cases hb:b=a
    . have z':=(if_pos hb).symm.trans z
      cases z'
      subst hb
      exact ⟨ha,by rw [List.length_map]; exact hl,vs,_,rv,ha⟩
    . have z':=(if_neg hb).symm.trans z
      cases z'
  . by_cases hb:b=a
    . exact hb
    . exact absurd (if_neg hb) z
end L2
namespace L2
open PySem PySem.Spec PyProof.Rows
end L2
namespace L2
open PySem PySem.Spec PyProof.Rows
def inClass (s:Stmt) (j:Nat):Stmt:=match s with
 | .ClassDef _ _ _ body _ _ _ _ _ _ _=>body.getD j (.Pass ⟨0,0,0,0⟩)
 | _=>.Pass ⟨0,0,0,0⟩
def zj4 (s:Stmt):Arguments:=match s with
 | .FunctionDef _ a _ _ _ _ _ _ _ _=>a
 | _=>{ posonlyargs:=[],args:=[],vararg:=none,kwonlyargs:=[],kw_defaults:=[],kwarg:=none,defaults:=[] }
def zia (s:Stmt):List Stmt:=match s with
 | .FunctionDef _ _ b _ _ _ _ _ _ _=>b
 | _=>[]
def zak (s:Stmt):Scope:=match s with
 | .FunctionDef _ _ _ _ _ _ sc _ _ _=>sc
 | _=>{ kind:=.function,names:=[],isGenerator:=false,isCoroutine:=false }
structure Fun (K:PySem.W.Frag) (x qual:Str) (st:Stmt) (f:Addr) (fd:FuncData):Prop where
 ex:∃ (oc:Value) (od:Option Addr) (kV doc pm:Value) (an:Option Addr) (cdv ct:Value) (osl:Array (Option Value)),
  fd=PySem.W.fnOf x qual (zj4 st) (zia st) (zak st) .none kV doc pm an cdv ct/\K.lookup f=some ⟨oc,od,.func fd,osl⟩/\PySem.W.codeIn K cdv qual=true
 kp:PySem.W.keepIn K (.ref f)=true
section
variable {P:Program} {w:World} {K:PySem.W.Frag} {mg:Str->Option Value} {base:Heap}
theorem Fun.binds {x qual:Str} {st:Stmt} {f:Addr} {fd:FuncData} {ps:List Str} (F:Fun K x qual st f fd)
  (h:∀ (kV doc pm:Value) (an:Option Addr) (cdv ct:Value) (us:List Value),us.length=ps.length->bindArgs (PySem.W.fnOf x qual (zj4 st) (zia st) (zak st) .none kV doc pm an cdv ct) ⟨us,[]⟩=pure (ps.zip us)):Binds K fd ps []:=by
 obtain ⟨oc,od,kV,doc,pm,an,cdv,ct,osl,rfl,lk,hcd⟩:=F.ex
 exact .all (h kV doc pm an cdv ct)
end
theorem zei {A:Around} {k:Nat} (hr:Room k A):A.units+1 < cLine:=Nat.lt_of_le_of_lt (Nat.add_le_add_left (by decide:1<=64) _) hr.units
section
variable {X:Cx}
theorem pv (i:Nat) {x:Str} {pos:Pos} (hN:X.N[i]?=some x:=by rfl) (hv:Vis X.env.scope x:=by first | exact Or.inl rfl | exact Or.inr (Or.inl rfl) | exact Or.inr (Or.inr rfl)) (hd:(x == ("__debug__" : Str))=false:=by decide)
 (hcd:(x == ("__classdict__" : Str))=false:=by decide):PE X (.Name x pos) (tVar i):=zte hN hv hd hcd
end
theorem iteF {A B:Prop} (h:B):if false=true then A else B:=by
 rw [if_neg Bool.false_ne_true]
 exact h
theorem iteT {A B:Prop} (h:A):if true=true then A else B:=by
 rw [if_pos rfl]
 exact h
def Same (H H':Hp):Prop:=∀ b o,H b=some o->H' b=some o
theorem Same.refl (H:Hp):Same H H:=λ _ _ h=>h
theorem Same.trans {H H1 H2:Hp} (a:Same H H1) (b:Same H1 H2):Same H H2:=λ c o h=>b c o (a c o h)
theorem Same.free {H H':Hp} (e:Same H H') {l:Addr} (h:H' l=Option.none):H l=Option.none:=by
 cases q:H l with
 | none=>rfl
 | some o =>
  rw [e l o q] at h
  cases h
theorem Same.seq {K:PySem.W.Frag} {H H':Hp} {a:Addr} {xs:List V} (e:Same H H') (h:SqL K H a xs):SqL K H' a xs:=by
 rcases h with (h | ⟨o,h⟩) | h
 . exact .inl (.inl (e _ _ h))
 . exact .inl (.inr ⟨o,e _ _ h⟩)
 . exact .inr h
section
variable {κ:Type} [DecidableEq κ]
end
end L2
end
section
namespace L2
open PySem PySem.Spec PyProof.Rows
abbrev NoX:Value->Shared->Prop:=λ _ _=>False
def zp6 (M:Model) (A:Around) (ifs:List Expr) (env:Env) (tst:(Bool->Shared->Prop)->Shared->Prop):Prop :=
 (ifs=[]/\∀ Q s,tst Q s->Q true s)\/∃ c,ifs=[c]/\∀ Q s,tst Q s->wpAny M A (isTrue c env (eval c env)) Q NoX s
def ztN (M:Model) (A:Around) (target elt:Expr) (env:Env) (it acc v:Value) (tst:(Bool->Shared->Prop)->Shared->Prop) (Nx:Shared->Prop) (s1:Shared):Prop :=
 wpAny M A (letOwnedTupleGo target it v) (λ _ s2=>wpAny M A (assign target env v) (λ _ s3=>tst (λ ok s4 =>
  if ok=true then wpAny M A (eval elt env) (λ x s5=>wpAny M A (call (.builtin "list.append") [acc,x]) (λ _ s6=>Nx s6) NoX s5) NoX s4 else Nx s4) s3) NoX s2) NoX s1
theorem nox {α:Type} {M:Model} {A:Around} {t:Sem α} {Q Q':α->Shared->Prop} {E:Value->Shared->Prop} {s:Shared} (h:wpAny M A t Q NoX s) (k:∀ a s',Q a s'->Q' a s'):wpAny M A t Q' E s:=wpAny_mono h k λ _ _ z=>z.elim
theorem zlq {prog:Program} {w:World} {A:Around} {R:Result->Shared->Prop} {s:Shared} {elt target iter:Expr} {ifs:List Expr} {scope:Scope} {pos:Pos} {it acc:Value} {env:Env} {tst:(Bool->Shared->Prop)->Shared->Prop}
   (ht:zp6 (model prog w) A ifs env tst) (I:Nat->Shared->Prop)
   (go:∀ n s,I n s->wpAny (model prog w) A (pyNext it) (λ r s1=>(r=none/\R (.ok .next) s1)\/∃ v,r=some v/\ztN (model prog w) A target elt env it acc v tst (λ s2=>∃ m,m < n/\I m s2) s1) NoX s)
   (n:Nat) (h:I n s):codeAny (model prog w) A (.compLoop (.ListComp elt [⟨target,iter,ifs,0⟩] scope pos) 0 it acc env) R s:=by
 rcases ht with ⟨rfl,ht⟩ | ⟨c,rfl,ht⟩
 . refine PySem.W.kcp_loop I (λ m s' hI=>nox (go m s' hI) λ r s1 q=>?_) n h
   rcases q with ⟨rfl,q⟩ | ⟨v,rfl,q⟩
   . exact q
   . exact nox q λ _ s2 q2=>nox q2 λ _ s3 q3=>by
      have q4:=ht _ _ q3
      rw [if_pos rfl] at q4
      exact nox q4 λ x s5 q5=>nox q5 λ _ _ q6=>q6
 . refine PySem.W.kct_loop I (λ m s' hI=>nox (go m s' hI) λ r s1 q=>?_) n h
   rcases q with ⟨rfl,q⟩ | ⟨v,rfl,q⟩
   . exact q
   . exact nox q λ _ s2 q2=>nox q2 λ _ s3 q3=>nox (ht _ _ q3) λ ok s4 q4=>by
      cases ok with
      | false=>rw [if_neg Bool.false_ne_true] at q4 ⊢; exact q4
      | true=>rw [if_pos rfl] at q4 ⊢; exact nox q4 λ x s5 q5=>nox q5 λ _ _ q6=>q6
def zdP (cells:List (Str×Addr)) (cs:List (Str×Addr)) (y:Str×NameKind):List (Str×Addr) :=
 if y.2 == .free then match cells.lookup y.1 with | some a=>(y.1,a)::cs | none=>cs else cs
def clOf (scope:Scope) (cells:List (Str×Addr)):List (Str×Addr):=scope.names.foldl (zdP cells) []
theorem zjd {env:Env}:∀ (l:List (Str×NameKind)) (cs:List (Str×Addr)),(∀ y∈l,y.2=.free->∃ a,env.cells.lookup y.1=some a) ->
  (forIn l cs (λ (y:Str×NameKind) (cs:List (Str×Addr))=>if (y.2 == NameKind.free)=true then do let a <-cellOf env y.1; pure (ForInStep.yield ((y.1,a)::cs)) else pure (ForInStep.yield cs)):Sem (List (Str×Addr)))=pure (l.foldl (zdP env.cells) cs)
 | [],cs,_=>rfl
 | y::r,cs,h=>by
  rw [List.forIn_cons]
  have ih:=λ cs'=>zjd r cs' λ z hz=>h z (List.mem_cons_of_mem _ hz)
  by_cases hk:y.2=.free
  . obtain ⟨a,ha⟩:=h y List.mem_cons_self hk
    have e1:zdP env.cells cs y=(y.1,a)::cs:=by unfold zdP; rw [hk,ha]; rfl
    rw [List.foldl_cons,e1,<-ih]
    have e2:cellOf env y.1=pure a:=by unfold cellOf; rw [ha]
    simp only [hk,beq_self_eq_true,if_true,e2]
    rfl
  . have hb:(y.2 == NameKind.free)=false:=by simpa using hk
    have e1:zdP env.cells cs y=cs:=by unfold zdP; rw [hb]; rfl
    rw [List.foldl_cons,e1,<-ih]
    simp only [hb,Bool.false_eq_true,if_false]
    rfl
theorem zje {scope:Scope} {env:Env} (h:∀ y∈scope.names,y.2=.free->∃ a,env.cells.lookup y.1=some a):closureFor scope env=pure (clOf scope env.cells):=by
 have:=zjd scope.names [] h
 unfold clOf
 rw [<-this]
 unfold closureFor
 first
  | rfl
  | simp only [bind_pure]
theorem zhg {cells:List (Str×Addr)} {x:Str} {c:Addr}:∀ (l:List (Str×NameKind)) (cs:List (Str×Addr)),(∀ c,cs.lookup x=some c->cells.lookup x=some c)->(l.foldl (zdP cells) cs).lookup x=some c->cells.lookup x=some c
 | [],cs,h,q=>h c q
 | y::r,cs,h,q=>by
  rw [List.foldl_cons] at q
  refine zhg r _ (λ c' q'=>?_) q
  unfold zdP at q'
  by_cases hk:(y.2 == NameKind.free)=true
  . rw [if_pos hk] at q'
    cases e:cells.lookup y.1 with
    | none=>rw [e] at q'; exact h c' q'
    | some a =>
     rw [e] at q'
     rw [List.lookup_cons] at q'
     by_cases hx:x == y.1
     . rw [hx] at q'
       have:x=y.1:=by simpa using hx
       rw [this,e]; exact q'
     . have hx':(x == y.1)=false:=by simpa using hx
       rw [hx'] at q'; exact h c' q'
  . rw [if_neg hk] at q'; exact h c' q'
theorem zj5 {cells:List (Str×Addr)} {x:Str}:∀ (l:List (Str×NameKind)) (cs:List (Str×Addr)),((∃ c,cs.lookup x=some c)\/((x,NameKind.free)∈l/\∃ c,cells.lookup x=some c))->∃ c,(l.foldl (zdP cells) cs).lookup x=some c
 | [],cs,h=>by
  rcases h with h | ⟨h,_⟩
  . exact h
  . cases h
 | y::r,cs,h=>by
  rw [List.foldl_cons]
  refine zj5 r _ ?_
  have mono:(∃ c,cs.lookup x=some c)->∃ c,(zdP cells cs y).lookup x=some c:=λ ⟨c,hc⟩=>by
    unfold zdP
    by_cases hk:(y.2 == NameKind.free)=true
    . rw [if_pos hk]
      cases e:cells.lookup y.1 with
      | none=>exact ⟨c,hc⟩
      | some a =>
       show ∃ c,List.lookup x ((y.1,a)::cs)=some c
       rw [List.lookup_cons]
       by_cases hx:(x == y.1)=true
       . rw [hx]; exact ⟨a,rfl⟩
       . have hx':(x == y.1)=false:=by simpa using hx
         rw [hx']; exact ⟨c,hc⟩
    . rw [if_neg hk]; exact ⟨c,hc⟩
  rcases h with h | ⟨h1,c,h2⟩
  . exact .inl (mono h)
  . rcases List.mem_cons.mp h1 with z | z
    . refine .inl ⟨c,?_⟩
      rw [<-z]
      unfold zdP
      show List.lookup x (if (NameKind.free == NameKind.free)=true then (match cells.lookup x with | some a=>(x,a)::cs | none=>cs) else cs)=some c
      rw [if_pos (show (NameKind.free == NameKind.free)=true from rfl),h2]
      show List.lookup x ((x,c)::cs)=some c
      rw [List.lookup_cons]; simp
    . exact .inr ⟨z,c,h2⟩
theorem zeG {scope:Scope} {env:Env} {x:Str} {k:NameKind} (h:(relabel scope env).names.lookup x=some k):scope.names.lookup x=some k\/(k=.cell/\scope.names.lookup x=some .free):=by
 unfold relabel at h
 dsimp only at h
 generalize scope.names=l at h ⊢
 induction l with
 | nil=>cases h
 | cons y r ih =>
  obtain ⟨n,kk⟩:=y
  rw [List.map_cons,List.lookup_cons] at h
  rw [List.lookup_cons]
  dsimp only at h
  by_cases hc:(kk == NameKind.free && env.scope.kind == .function && env.kindOf n == some .cell)=true
  . rw [if_pos hc] at h
    by_cases hx:(x == n)=true
    . dsimp only at h
      rw [hx] at h ⊢
      simp only [Bool.and_eq_true,beq_iff_eq] at hc
      exact .inr ⟨(Option.some.inj h).symm,by rw [hc.1.1]⟩
    . have hx':(x == n)=false:=by simpa using hx
      dsimp only at h
      rw [hx'] at h ⊢
      exact ih h
  . rw [if_neg hc] at h
    by_cases hx:(x == n)=true
    . dsimp only at h
      rw [hx] at h ⊢
      exact .inl h
    . have hx':(x == n)=false:=by simpa using hx
      dsimp only at h
      rw [hx'] at h ⊢
      exact ih h
theorem zkF {scope:Scope} {env:Env} {x:Str} (h:scope.names.lookup x=some .free):(relabel scope env).names.lookup x=some .cell\/(relabel scope env).names.lookup x=some .free:=by
 unfold relabel
 dsimp only
 generalize scope.names=l at h ⊢
 induction l with
 | nil=>cases h
 | cons y r ih =>
  obtain ⟨n,kk⟩:=y
  rw [List.map_cons,List.lookup_cons]
  rw [List.lookup_cons] at h
  dsimp only
  by_cases hx:(x == n)=true
  . rw [hx] at h
    have hk:kk=.free:=Option.some.inj h
    by_cases hc:(kk == NameKind.free && env.scope.kind == .function && env.kindOf n == some .cell)=true
    . rw [if_pos hc]; dsimp only; rw [hx]; exact .inl rfl
    . rw [if_neg hc]; dsimp only; rw [hx,hk]; exact .inr rfl
  . have hx':(x == n)=false:=by simpa using hx
    rw [hx'] at h
    by_cases hc:(kk == NameKind.free && env.scope.kind == .function && env.kindOf n == some .cell)=true
    . rw [if_pos hc]; dsimp only; rw [hx']; exact ih h
    . rw [if_neg hc]; dsimp only; rw [hx']; exact ih h
def cxB (X:Cx) (Nc:List Str) (scope:Scope) (C:Addr) (fp:List Addr) (s:Shared) (H:Hp):Cx where
 prog:=X.prog
 w:=X.w
 K:=X.K
 mg:=X.mg
 base:=X.base
 A:=X.A
 N:=Nc
 s₀:=s
 H₀:=H
 env:=compEnvC scope (clOf scope X.env.cells) C X.env
 outer:=X.stack
 stack:=X.stack
 ex:=fp
 fn:=λ _=>false
 calm:=true
 pn:=[]
 xe:=λ _ _=>False
structure Blk (X:Cx) (scope:Scope) (own:Nat) (ix:List Nat) (Nc:List Str):Prop where
 kind:scope.kind=.function
 zrf:∀ y∈scope.names,y.2≠.cell
 names:∀ y∈scope.names,y.2=.local->scope.names.lookup y.1=some .local
 free:∀ y∈scope.names,y.2=.free->X.env.kindOf y.1=some .cell\/X.env.kindOf y.1=some .free
 nd:Nc.Nodup
 len:Nc.length=own+ix.length
 cap:∀ (i j:Nat) (x:Str),Nc[own+i]?=some x->ix[i]?=some j->X.N[j]?=some x/\scope.names.lookup x=some .free/\(X.env.kindOf x=some .cell\/X.env.kindOf x=some .free)
def zc3 (own:Nat) (ix:List Nat) (σ:St):St:=List.replicate own none++ix.map λ j=>(σ[j]?).join
section
variable {X:Cx} {pins:List (Addr×Obj)} {σ:St} {H H':Hp} {s:Shared} {scope:Scope} {own:Nat} {ix:List Nat} {Nc:List Str} {C D:Addr} {fp:List Addr}
theorem Inv.blk {h1:Heap} {t1:Nat} {m1:Str->Option Value} (I:Inv X pins σ H s) (hc:X.calm=true) (B:Blk X scope own ix Nc) (hf:∀ b∈fp,FpOk X pins H b) (hfo:∀ b∈fp,∃ o,s.heap.get? b=some o)
   (hn:h1.Ns C m1) (k:∀ b u,s.heap.get? b=some u->h1.get? b=some u) (hC:s.heap.objs.size<=C):Inv (cxB X Nc scope C fp s H) [] (zc3 own ix σ) H { s with heap:=h1,toks:=t1 }:=by
 have snd:∀ x c,(clOf scope X.env.cells).lookup x=some c->X.env.cells.lookup x=some c:=λ x c e=>zhg scope.names [] (λ _ z=>by cases z) e
 have lt:∀ b∈fp,b < s.heap.objs.size:=λ b hb=>by obtain ⟨o,e⟩:=hfo b hb; exact Heap.lt_size e
 refine ⟨⟨I.ok.mod,B.kind,I.ok.glob,I.ok.blt,hC,λ x y c e1 e2=>I.ok.inj x y c (snd x c e1) (snd y c e2),λ x hx=>?_,λ x c e=>(by cases e),λ _=>I.ok.hd hc,I.ok.frames,.inl rfl,λ b hb=>⟨?_,λ x c e=>?_⟩,I.bs,Nat.le_trans I.ok.bsz I.sz,λ b o e hb=>?_,λ b hb hb2=>?_,I.stack,I.zf0⟩,
   rfl,I.bare,Un.kept k,⟨m1,hn,λ i x v e1 e2 e3=>?_⟩,λ x c e=>?_,I.hok.fresh hC,λ x c e=>I.zdg x c (snd x c e),λ p hp=>(by cases hp),I.hok.kept k,?_⟩
 . have hx':(relabel scope X.env).names.lookup x=some .cell\/(relabel scope X.env).names.lookup x=some .free:=hx
   have hfr:scope.names.lookup x=some .free:=by
     rcases hx' with z | z
     . rcases zeG z with q | ⟨_,q⟩
       . exact absurd rfl (B.zrf _ (PySem.mem_of_lookup q))
       . exact q
     . rcases zeG z with q | ⟨q,_⟩
       . exact q
       . cases q
   have hm:=PySem.mem_of_lookup hfr
   exact zj5 scope.names [] (.inr ⟨hm,I.ok.has x (B.free _ hm rfl)⟩)
 . exact Nat.ne_of_lt (Nat.lt_of_lt_of_le (lt b hb) hC)
 . exact (hf b hb).2.2.2.2.1 x c (snd x c e)
 . rcases (hf b hb).2.2.2.1 with z | z
   . exact I.ok.noex b o e z
   . exact absurd (Nat.lt_of_lt_of_le (Heap.lt_size (I.ok.bs b o e).1) z) (Nat.lt_irrefl _)
 . obtain ⟨_,f1,f2,_⟩:=hf b hb
   rcases List.mem_cons.mp (I.zmW b hb2) with z | z
   . exact f1 z
   . exact f2 z
 . have hlt:¬ i < own:=λ hi=>by
     have e2':(zc3 own ix σ)[i]?=some (some v):=e2
     unfold zc3 at e2'
     rw [List.getElem?_append_left (by simpa using hi),List.getElem?_replicate] at e2'
     rw [if_pos hi] at e2'
     cases e2'
   obtain ⟨j,rfl⟩:∃ j,i=own+j:=⟨i - own,by omega⟩
   have e2':(zc3 own ix σ)[own+j]?=some (some v):=e2
   unfold zc3 at e2'
   rw [List.getElem?_append_right (by simp),List.length_replicate,Nat.add_sub_cancel_left,List.getElem?_map] at e2'
   cases hj:ix[j]? with
   | none=>rw [hj] at e2'; cases e2'
   | some q =>
     rw [hj] at e2'
     have e4:(σ[q]?).join=some v:=Option.some.inj e2'
     have e5:σ[q]?=some (some v):=by
       cases hq:σ[q]? with
       | none=>rw [hq] at e4; cases e4
       | some o=>rw [hq] at e4; exact congrArg some e4
     obtain ⟨g1,g2,g3⟩:=B.cap j q x e1 hj
     obtain ⟨m,hm,hl⟩:=I.loc
     obtain ⟨u,ru,lk⟩:=hl q x v g1 e5 (g3.elim (λ z=>.inr (.inl z)) λ z=>.inr (.inr z))
     refine ⟨u,ru,.inr ⟨zkF g2,?_⟩⟩
     rcases lk with ⟨z,_⟩ | ⟨_,c,ec,o,ho,hd⟩
     . rcases g3 with y | y <;> rw [z] at y <;> cases y
     . obtain ⟨c',ec'⟩:=zj5 (cells:=X.env.cells) scope.names [] (.inr ⟨PySem.mem_of_lookup g2,c,ec⟩)
       have:c'=c:=Option.some.inj ((snd x c' ec').symm.trans ec)
       subst this
       exact ⟨c',ec',o,k _ _ ho,hd⟩
 . obtain ⟨v,o,ho,hd⟩:=I.cell x c (snd x c e)
   exact ⟨v,o,k _ _ ho,hd⟩
 . show (List.replicate own none++ix.map λ j=>(σ[j]?).join).length=Nc.length
   rw [List.length_append,List.length_replicate,List.length_map,B.len]
abbrev lstO (its:List Value):Obj:=LCg.lst its
theorem Inv.ztJ {s':Shared} {pins':List (Addr×Obj)} {σ':St} {ys:List V} {its:List Value} (I:Inv X pins σ H s) (hf:∀ b∈fp,FpOk X pins H b)
   (J:Inv (cxB X Nc scope C fp s H) pins' σ' H' s') (hD:s.heap.objs.size<=D) (hDo:s'.heap.get? D=some (lstO its)) (hDn:H' D=none) (r:Vals ys its) (hz:ys.length<=sizeLine) :
   Inv X pins σ (upd H' D (.lst ys)) s':=by
 have old:∀ b o,s.heap.get? b=some o->b≠D:=λ b o e=>Nat.ne_of_lt (Nat.lt_of_lt_of_le (Heap.lt_size e) hD)
 have trd:∀ b u,H b=some u->b≠D:=λ b u e=>Nat.ne_of_lt (Nat.lt_of_lt_of_le (I.hok.lt e) hD)
 refine I.zq1 (ch:=fp) J.os ⟨λ b o q n hb hx=>J.base.keep b o q n hb hx,λ b o q n hb hx=>J.base.slot b o q n hb hx,λ b o q n hx=>?_,λ b o q hx=>J.base.there b o q hx,λ b xs q=>?_,λ b o u q=>?_,λ b ps q=>?_⟩ (λ b u e=>?_) J.bare λ b hb=>?_
 . rw [zaf (old b o q)]; exact J.base.free b o q n hx
 . rw [zaf (trd b _ q)]; exact J.base.tups b xs q
 . rw [zaf (trd b _ q)]; exact J.base.frzs b o u q
 . obtain ⟨more,e⟩:=J.base.tbls b ps q
   exact ⟨more,by rw [zaf (trd b _ q)]; exact e⟩
 . by_cases hb:b=D
   . subst hb
     rw [zab] at e
     cases e
     exact ⟨hz,its,its.length,r,hDo⟩
   . rw [zaf hb] at e
     exact (J.hok b u e).stay (λ _ _ _ q=>q) (λ c q=>by rw [zaf (zah q hDn)]; exact q) λ c xs q=>by rw [zaf (zah q hDn)]; exact q
 . obtain ⟨_,f1,_,f3,f4,f5⟩:=hf b hb
   exact ⟨f3,f1,f4,f5⟩
end
def zsF:TT:=λ _ H Q=>Q true H
def PTs (X:Cx) (ifs:List Expr) (t:TT):Prop:=(ifs=[]/\t=zsF)\/∃ c,ifs=[c]/\PT X c t
theorem zjw {X:Cx}:PTs X [] zsF:=.inl ⟨rfl,rfl⟩
theorem zhy {X:Cx} {c:Expr} {t:TT} (h:PT X c t):PTs X [c] t:=.inr ⟨c,rfl,h⟩
def ztO (X:Cx) (t:TT) (Q:Bool->Shared->Prop) (s:Shared):Prop :=
 ∃ pins σ H Qa,Inv X pins σ H s/\t σ H Qa/\∀ b H' s',Inv X pins σ H' s'->Qa b H'->Q b s'
theorem PTs.by {X:Cx} {ifs:List Expr} {t:TT} (h:PTs X ifs t) (hx:X.xe=NoX):zp6 (model X.prog X.w) X.A ifs X.env (ztO X t):=by
 rcases h with ⟨rfl,rfl⟩ | ⟨c,rfl,h⟩
 . exact .inl ⟨rfl,λ Q s ⟨pins,σ,H,Qa,I,q,k⟩=>k true H s I q⟩
 . refine .inr ⟨c,rfl,λ Q s ⟨pins,σ,H,Qa,I,q,k⟩=>?_⟩
   have:=h pins s σ H _ I q
   rw [hx] at this
   exact thn this λ b s' ⟨H',I',z⟩=>k b H' s' I' z
def ziT (J:It) (g:TG) (tt:TT) (te:TE) (σ₀:St) (H:Hp) (Fin:List V->Hp->Prop):Prop :=
 ∃ W:Nat->Nat->List V->St->Hp->Prop,(∃ m,W 0 m [] σ₀ H)/\∀ i m ys σ H,W i m ys σ H ->
  (J.stop i H/\Fin ys H)\/(J.go i H/\ys.length < sizeLine/\∀ x H',J.yld i H x H'->g x σ H' λ σ2 H2=>tt σ2 H2 λ b H3 =>
   if b=true then te σ2 H3 λ y H4=>∃ m',m' < m/\W (i+1) m' (ys++[y]) σ2 H4 else ∃ m',m' < m/\W (i+1) m' ys σ2 H3)
section
variable {X:Cx} {scope:Scope} {own:Nat} {ix:List Nat} {Nc:List Str} {target iter elt:Expr} {ifs:List Expr} {pos:Pos} {wi:TI} {g:TG} {tt:TT} {te:TE}
theorem zjc {pins:List (Addr×Obj)} {σ:St} {H2:Hp} {s2:Shared} {it:Addr} {fp:List Addr} {tn:Nat->Heap->Prop} {J:It} {Fin:List V->Hp->Prop} {E:Value->Shared->Prop} {RR:Value->Addr->Result->Shared->Prop}
  (hc:X.calm=true) (B:Blk X scope own ix Nc) (I2:Inv X pins σ H2 s2) (T:Turn X.prog X.w X.K target J fp it tn) (st:tn 0 s2.heap) (hf:∀ b∈fp,FpOk X pins H2 b)
  (hg:∀ C,PG (cxB X Nc scope C fp s2 H2) target g) (ht:∀ C,PTs (cxB X Nc scope C fp s2 H2) ifs tt) (he:∀ C,PE (cxB X Nc scope C fp s2 H2) elt te)
  (hw:ziT J g tt te (zc3 own ix σ) H2 Fin)
  (hRR:∀ D C s' ys H' m',Inv X pins σ (upd H' D (.lst ys)) s'->H' D=none->Fin ys H'->s'.heap.Ns C m'->H' C=none->D≠C->s2.heap.objs.size<=C->RR (.ref D) C (.ok .next) s') :
  wpAny (model X.prog X.w) X.A (newList []) (λ acc s₃=>wpAny (model X.prog X.w) X.A (newFunctionEnv scope X.env.globals (clOf scope X.env.cells) [] X.env.qual none .none (some X.env)) (λ cenv s₄ =>
    codeAny (model X.prog X.w) X.A (.compStart (.ListComp elt [⟨target,iter,ifs,0⟩] scope pos) 0 (.ref it) acc { cenv with scope:=relabel scope X.env }) (RR acc cenv.locals) s₄) E s₃) E s2:=by
 refine wpAny_newObj_type (wpAny_newFunctionEnv B.zrf (by intro y hy; simp at hy) (λ h₁ hns₁ hsb₁=>?_) B.kind)
 dsimp only at hns₁ hsb₁ ⊢
 generalize hH2:s2.heap.push { cls:=.type "list",dict:=none,data:=.seq ([]:List Value).toArray }=G2 at hns₁ hsb₁ ⊢
 have hC:G2.objs.size=s2.heap.objs.size+1:=by rw [<-hH2,Heap.size_push]
 have hDC:s2.heap.objs.size≠G2.objs.size:=by rw [hC]; exact Nat.ne_of_lt (Nat.lt_succ_self _)
 have hCle:s2.heap.objs.size<=G2.objs.size:=by rw [hC]; exact Nat.le_succ _
 have below:∀ b,b < s2.heap.objs.size->b≠G2.objs.size/\b≠s2.heap.objs.size:=λ b hb=>⟨by rw [hC]; exact Nat.ne_of_lt (Nat.lt_succ_of_lt hb),Nat.ne_of_lt hb⟩
 have old:∀ b o,s2.heap.get? b=some o->h₁.get? b=some o:=λ b o e=>hsb₁.extBut b o (below b (Heap.lt_size e)).1 (Heap.get?_push_of_some _ (hH2 ▸ Heap.get?_push_of_some _ e))
 have hacc:h₁.get? s2.heap.objs.size=some (lstO []):=hsb₁.extBut _ _ hDC (Heap.get?_push_of_some _ (hH2 ▸ Heap.get?_push_size _ rfl))
 have hfo:∀ b∈fp,∃ o,s2.heap.get? b=some o:=λ b hb=>let ⟨o,e,_⟩:=T.obj 0 _ st b hb; ⟨o,e⟩
 have flt:∀ b∈fp,b < s2.heap.objs.size:=λ b hb=>let ⟨o,e⟩:=hfo b hb; Heap.lt_size e
 have I0:Inv (cxB X Nc scope G2.objs.size fp s2 H2) [] (zc3 own ix σ) H2 { s2 with heap:=h₁,toks:=s2.toks+([]:List (Str×Value)).length }:=I2.blk hc B hf hfo hns₁ old hCle
 have st1:tn 0 h₁:=T.keep 0 _ _ st λ b _ o e=>old b o e
 have hDfs:s2.heap.objs.size∉frs X.stack:=λ z=>by
  obtain ⟨_,o,ho,_⟩:=I2.stack.mem z
  exact absurd (Heap.lt_size ho) (Nat.lt_irrefl _)
 have ffs:∀ b∈fp,b∉frs X.stack:=λ b hb z=>by
  obtain ⟨_,f1,f2,_⟩:=hf b hb
  rcases List.mem_cons.mp (I2.zmW b z) with y | y
  . exact f1 y
  . exact f2 y
 have fcl:∀ b∈fp,∀ x c,(clOf scope X.env.cells).lookup x=some c->c≠b:=λ b hb x c e=>(hf b hb).2.2.2.2.1 x c (zhg scope.names [] (λ _ z=>by cases z) e)
 have dcl:∀ x c,(clOf scope X.env.cells).lookup x=some c->c≠s2.heap.objs.size:=λ x c e z=>by
  obtain ⟨v,q⟩:=I2.cell x c (zhg scope.names [] (λ _ z=>by cases z) e)
  exact absurd q.lt (by rw [z]; exact Nat.lt_irrefl _)
 obtain ⟨W,⟨m0,w0⟩,turn⟩:=hw
 have loop:∀ s₃:Shared,s₃={ s2 with heap:=h₁,toks:=s2.toks+([]:List (Str×Value)).length } ->
    codeAny (model X.prog X.w) X.A (.compLoop (.ListComp elt [⟨target,iter,ifs,0⟩] scope pos) 0 (.ref it) (.ref s2.heap.objs.size) (compEnvC scope (clOf scope X.env.cells) G2.objs.size X.env))
     (RR (.ref s2.heap.objs.size) G2.objs.size) s₃:=by
  rintro s₃ rfl
  refine zlq ((ht G2.objs.size).by rfl) (λ n s'=>∃ i ys its σ' H',Inv (cxB X Nc scope G2.objs.size fp s2 H2) [] σ' H' s'/\tn i s'.heap/\(∀ b∈fp,H' b=none)/\s'.heap.get? s2.heap.objs.size=some (lstO its)/\H' s2.heap.objs.size=none/\Vals ys its/\ys.length<=sizeLine/\W i n ys σ' H')
    ?_ m0 ⟨0,[],[],_,H2,I0,st1,λ b hb=>(hf b hb).1,hacc,I2.hok.fresh (Nat.le_refl _),.nil,Nat.zero_le _,w0⟩
  rintro n s3 ⟨i,ys,its,σ3,H3,I3,st3,fr3,hD3,nD3,r3,z3,w3⟩
  have Ip:Inv (cxB X Nc scope G2.objs.size fp s2 H2) [(s2.heap.objs.size,lstO its)] σ3 H3 s3:=I3.zhA λ p hp=>by
    have e:p=(s2.heap.objs.size,lstO its):=by simpa using hp
    subst e
    exact ⟨hD3,nD3,hDC,hDfs,λ v z=>by cases z⟩
  have fpk:∀ {H':Hp},(∀ b∈fp,H' b=none)->∀ b∈fp,FpOk (cxB X Nc scope G2.objs.size fp s2 H2) [(s2.heap.objs.size,lstO its)] H' b:=λ hn b hb =>
    ⟨hn b hb,(below b (flt b hb)).1,ffs b hb,.inl hb,fcl b hb,λ p hp=>by
     have hp':p∈([]:List (Addr×Obj))++[(s2.heap.objs.size,lstO its)]:=hp
     have e:p=(s2.heap.objs.size,lstO its):=by simpa using hp'
     subst e
     exact Ne.symm (below b (flt b hb)).2⟩
  rcases turn i n ys σ3 H3 w3 with ⟨stop,fin⟩ | ⟨go,hlen,step⟩
  . refine thn (T.done (cxB X Nc scope G2.objs.size fp s2 H2) rfl rfl rfl rfl i _ s3 σ3 H3 NoX Ip (fpk fr3) st3 stop) λ r s4 ⟨hr,I4⟩=>.inl ⟨hr,?_⟩
    obtain ⟨m4,n4,_⟩:=I4.loc
    have pD:=I4.pin (s2.heap.objs.size,lstO its) (by simp)
    exact hRR _ _ s4 ys H3 m4 (I2.ztJ hf I4 (Nat.le_refl _) pD.1 nD3 r3 z3) nD3 fin n4 I4.free hDC hCle
  . refine thn (T.item (cxB X Nc scope G2.objs.size fp s2 H2) rfl rfl rfl rfl i _ s3 σ3 H3 NoX Ip (fpk fr3) st3 go) λ r s4 ⟨u,hr,h4⟩=>.inr ⟨u,hr,?_⟩
    refine thn h4 λ _ s5 ⟨x,H5,I5,r5,y5,st5,fr5⟩=>?_
    have I5':=I5.pinned (fpk fr5) (T.obj _ _ st5)
    have keepT:∀ {σ8:St} {H8:Hp} {s8:Shared},Inv (cxB X Nc scope G2.objs.size fp s2 H2) ([(s2.heap.objs.size,lstO its)]++zkH fp s5.heap) σ8 H8 s8->tn (i+1) s8.heap/\(∀ b∈fp,H8 b=none)/\s8.heap.get? s2.heap.objs.size=some (lstO its)/\H8 s2.heap.objs.size=none:=λ {σ8 H8 s8} I8=>by
     have pin8:∀ b∈fp,∀ o,s5.heap.get? b=some o->s8.heap.get? b=some o/\H8 b=none:=λ b hb o e=>by
      have:=I8.pin (b,o) (List.mem_append_right _ (List.mem_append_right _ (zgj hb e)))
      exact ⟨this.1,this.2.1⟩
     have pD:=I8.pin (s2.heap.objs.size,lstO its) (by simp)
     refine ⟨T.keep _ _ _ st5 λ b hb o e=>(pin8 b hb o e).1,λ b hb=>?_,pD.1,pD.2.1⟩
     obtain ⟨o,e,_⟩:=T.obj _ _ st5 b hb
     exact (pin8 b hb o e).2
    refine thn (hg _ _ s5 σ3 H5 x u _ I5' r5 (step x H5 y5)) λ _ s6 ⟨σ6,H6,I6,q6⟩=>⟨_,σ6,H6,_,I6,q6,λ b H7 s7 I7 q7=>?_⟩
    cases b with
    | false =>
     rw [if_neg Bool.false_ne_true] at q7 ⊢
     obtain ⟨m',hm,w7⟩:=q7
     obtain ⟨k1,k2,k3,k4⟩:=keepT I7
     exact ⟨m',hm,i+1,ys,its,σ6,H7,I7.zhA (λ p hp=>by cases hp),k1,k2,k3,k4,r3,z3,w7⟩
    | true =>
     rw [if_pos rfl] at q7 ⊢
     refine thn (he _ _ s7 σ6 H7 _ I7 q7) λ v s8 ⟨y,H8,I8,r8,m',hm,w8⟩=>?_
     obtain ⟨k1,k2,k3,k4⟩:=keepT I8
     have il:its.length=ys.length:=r3.length.symm
     refine append_at (hsz:=by show its.toArray.size<=sizeLine; rw [List.size_toArray,il]; exact z3) k3 λ h9 hs9 hD9=>?_
     have I9:Inv (cxB X Nc scope G2.objs.size fp s2 H2) [] σ6 H8 { s8 with heap:=h9 }:=Inv.turned (t':=s8.toks) (it:=s2.heap.objs.size) (I8.zhA (pins':=[]) λ p hp=>by cases hp) (λ b o hb e=>(hs9.2 b hb).trans e) k4 hDC (.inr (Nat.le_refl _)) dcl λ p hp=>by cases hp
     refine ⟨m',hm,i+1,ys++[y],its++[v],σ6,H8,I9,T.keep _ _ _ k1 λ b hb o e=>(hs9.2 b (below b (flt b hb)).2).trans e,k2,hD9.trans (congrArg some (LCg.lst_snoc its v)),k4,r3.append (.cons r8 .nil),?_,w8⟩
     rw [List.length_append,List.length_singleton]; exact hlen
 exact codeAny_compStart_list (loop _ rfl) (T.self X.A 0 _ _ _ st1 (loop _ rfl))
def zrC (own:Nat) (ix:List Nat) (wi:TI) (g:TG) (tt:TT) (te:TE):TE:=λ σ H Q=>wi σ H λ J H1=>ziT J g tt te (zc3 own ix σ) H1 λ ys H2=>∀ p,H2 p=none->Q (.ref p) (upd H2 p (.lst ys))
theorem zfa (own:Nat) (ix:List Nat) (Nc:List Str) (hc:X.calm=true) (B:Blk X scope own ix Nc) (hi:PI X target iter wi)
  (hg:∀ C fp s H,PG (cxB X Nc scope C fp s H) target g) (ht:∀ C fp s H,PTs (cxB X Nc scope C fp s H) ifs tt) (he:∀ C fp s H,PE (cxB X Nc scope C fp s H) elt te)
  (hs:∀ x,foldedSetIterable iter X.env x=pure x:=by intro _; rfl):PE X (.ListComp elt [⟨target,iter,ifs,0⟩] scope pos) (zrC own ix wi g tt te):=by
 intro pins s σ H Q I h
 rw [eval_ListComp]
 have hcl:closureFor scope X.env=pure (clOf scope X.env.cells):=zje λ y hy hk=>I.ok.has y.1 (B.free y hy hk)
 refine wpAny_comprehension_free (use:=none) rfl hs hcl B.kind B.names (thn (hi pins s σ H _ I h) λ xv s1 h1=>thn h1 λ itv s2 h2=>?_)
 obtain ⟨it,fp,tn,J,H2,e,I2,T,st2,f2,hw⟩:=h2
 subst e
 refine zjc (RR:=λ acc C=>compPost (model X.prog X.w) X.A X.xe none (EP X pins σ Q) acc C) hc B I2 T st2 f2 (λ C=>hg C fp s2 H2) (λ C=>ht C fp s2 H2) (λ C=>he C fp s2 H2) hw ?_
 intro D C s' ys H' m' J' hD fin hn hC hDC hCle
 refine ⟨m',hn,λ h'' hs''=>⟨.ref D,upd H' D (.lst ys),?_,rfl,fin D hD⟩⟩
 have hCf:=I2.fpOk (H':=upd H' D (.lst ys)) hCle (by rw [zaf (Ne.symm hDC)]; exact hC)
 obtain ⟨f0,f1,_,f3,f4,f5⟩:=hCf
 exact Inv.turned (t':=s'.toks) (it:=C) J' (λ b o hb e=>(hs''.2 b hb).trans e) f0 f1 f3 f4 f5
theorem ziW {i:Nat} {x:Str} {pos' spos:Pos} (own:Nat) (ix:List Nat) (Nc:List Str) (hN:X.N.Nodup) (hxi:X.N[i]?=some x) (hx:Loc X.env.scope x) (hc:X.calm=true) (B:Blk X scope own ix Nc) (hi:PI X target iter wi)
  (hg:∀ C fp s H,PG (cxB X Nc scope C fp s H) target g) (ht:∀ C fp s H,PTs (cxB X Nc scope C fp s H) ifs tt) (he:∀ C fp s H,PE (cxB X Nc scope C fp s H) elt te)
  (hsw:swapsWith (.ListComp elt [⟨target,iter,ifs,0⟩] scope pos) (some (.Name x pos')) spos.line X.env=pure true:=by rfl)
  (hs:∀ x,foldedSetIterable iter X.env x=pure x:=by intro _; rfl) (hf:X.fn x=true\/X.env.scope.names.lookup x=some .local:=by first | exact .inl rfl | exact .inr rfl | assumption) :
  PS X (.Assign [.Name x pos'] (.ListComp elt [⟨target,iter,ifs,0⟩] scope pos) spos) (tAsg (zrC own ix wi g tt te) (zqV i)):=by
 intro pins s σ H DD I h
 rw [exec_Assign_Name_used _ _ _ _ hsw]
 refine wpAny_bind (wpAny_standAt (wpAny_bind ?_))
 show wpAny _ X.A (do let _ <-comprehension (.ListComp elt [⟨target,iter,ifs,0⟩] scope pos) scope X.env _ (newList []) false (eval iter X.env) (some (assign (.Name x pos') X.env))) _ _ s
 have hcl:closureFor scope X.env=pure (clOf scope X.env.cells):=zje λ y hy hk=>I.ok.has y.1 (B.free y hy hk)
 refine wpAny_bind (wpAny_mono (wpAny_comprehension_free (use:=some (assign (.Name x pos') X.env)) (Q:=λ _ s'=>SP X pins DD .next s') rfl hs hcl B.kind B.names
  (thn (hi pins s σ H _ I h) λ xv s1 h1=>thn h1 λ itv s2 h2=>?_)) (λ _ s' hq=>wpAny_pure (wpAny_pure hq)) λ _ _ e=>e)
 obtain ⟨it,fp,tn,J,H2,e,I2,T,st2,f2,hw⟩:=h2
 subst e
 refine zjc (RR:=λ acc C=>compPost (model X.prog X.w) X.A X.xe (some (assign (.Name x pos') X.env)) (λ _ s'=>SP X pins DD .next s') acc C) hc B I2 T st2 f2 (λ C=>hg C fp s2 H2) (λ C=>ht C fp s2 H2) (λ C=>he C fp s2 H2) hw ?_
 intro D C s' ys H' m' J' hD fin hn hC hDC hCle
 have hCf:=I2.fpOk (H':=upd H' D (.lst ys)) hCle (by rw [zaf (Ne.symm hDC)]; exact hC)
 obtain ⟨f0,f1,_,f3,f4,f5⟩:=hCf
 show wpAny _ X.A (assign (.Name x pos') X.env (.ref D)) _ _ s'
 refine wpAny_assign_Name (zko (v:=V.ref D) J' hN hxi hx rfl (λ s3 I3 ⟨a,sb,ha⟩=>?_) hf)
 have hCa:C≠a:=by
  rcases ha with z | z
  . rw [z]; exact f1
  . exact Ne.symm (f4 x a z)
 refine ⟨m',hn.sameBut sb hCa,λ h'' hs''=>⟨_,upd H' D (.lst ys),?_,fin D hD⟩⟩
 exact Inv.turned (t':=s3.toks) (it:=C) I3 (λ b o hb e=>(hs''.2 b hb).trans e) f0 f1 f3 f4 f5
end
end L2
end
section
namespace L2
open PySem PySem.Spec PyProof.Rows PySem.W
theorem zbY.there {P:Program} {w:World} {H:Hp} {h:Heap} {a:Addr} {o:HO} (x:zbY P w H h a o):∃ ob,h.get? a=some ob:=by
 cases o with
 | lst _=>obtain ⟨_,_,_,_,e⟩:=x; exact ⟨_,e⟩
 | tup _=>obtain ⟨_,_,_,ob,e,_⟩:=x; exact ⟨ob,e⟩
 | dK _=>obtain ⟨_,_,_,_,ob,_,_,e,_⟩:=x; exact ⟨ob,e⟩
 | dT _=>obtain ⟨_,_,_,_,ob,_,_,e,_⟩:=x; exact ⟨ob,e⟩
 | set _ _=>obtain ⟨ob,_,_,_,e,_⟩:=x; exact ⟨ob,e⟩
 | ins _ _ _=>obtain ⟨_,_,_,e,_⟩:=x; exact ⟨_,e⟩
 | own _=>exact x
 | xd _=>obtain ⟨_,⟨ob,_,_,e,_⟩,_⟩:=x; exact ⟨ob,e⟩
 | rng _ _=>obtain ⟨_,_,_,e⟩:=x; exact ⟨_,e⟩
 | frz ob _=>exact ⟨ob,x.1⟩
 | tbl _=>exact ⟨_,x⟩
 | met _ _=>exact ⟨_,x⟩
 | ext _=>exact x.2.1
theorem Un.fly {fs:List Addr} {H H':Hp} {h h1 h2 B:Heap} (u:Un fs [] H H' h h1)
  (hB:∀ b o,h1.get? b=some o->b∉fs->((∃ o',h.get? b=some o')\/∃ v,H' b=some v)->B.get? b=some o) (hs:B.StaysIn h2) (sl:h1.UpToSlots h2)
  (hfs:∀ b∈fs,∀ o,h1.get? b=some o->∀ vs,o.data≠.fields vs):Un fs [] H H' h h2 where
 keep:=λ b o q n hb hx=>hs b o (hB b o (u.keep b o q n hb hx) hb (.inl ⟨o,q⟩))
 slot:=λ b o q n hb hx=>by
  obtain ⟨s1,e1⟩:=u.slot b o q n hb hx
  obtain ⟨s2,e2⟩:=sl b _ e1 (hfs b hb _ e1)
  exact ⟨s2,e2⟩
 free:=u.free
 there:=λ b o q hx=>by
  obtain ⟨o1,e1⟩:=u.there b o q hx
  by_cases hb:b∈fs
  . obtain ⟨s2,e2⟩:=sl b _ e1 (hfs b hb _ e1)
    exact ⟨_,e2⟩
  . exact ⟨o1,hs b o1 (hB b o1 e1 hb (.inl ⟨o,q⟩))⟩
 tups:=u.tups
 frzs:=u.frzs
 tbls:=u.tbls
theorem HOk.fly {P:Program} {w:World} {fs:List Addr} {H':Hp} {h1 h2 B:Heap} (x:HOk P w H' h1) (hB:∀ b o,h1.get? b=some o->b∉fs->(∃ v,H' b=some v)->B.get? b=some o) (hs:B.StaysIn h2) (hf:∀ b∈fs,H' b=none):HOk P w H' h2:=λ a o e =>
 (x a o e).stay (λ b u hb q=>by
  have tr:∃ v,H' b=some v:=by
   rcases hb with rfl | hb
   . exact ⟨o,e⟩
   . exact ⟨_,hb⟩
  have nf:b∉fs:=λ z=>by
   obtain ⟨v,hv⟩:=tr
   rw [hf b z] at hv; cases hv
  exact hs b u (hB b u q nf tr)) (λ _ q=>q) λ _ _ q=>q
def CX1 (P:Program) (w:World):CXT:=λ outer H s E e s'=>∃ (ex C t:Addr) (B:Heap) (H':Hp),e=.ref ex/\s'.os=s.os/\AllBare s'.gens/\Un (frs outer) [] H H' s.heap s'.heap/\HOk P w H' s'.heap /\
 (∀ b o,s'.heap.get? b=some o->b∉frs outer->((∃ o',s.heap.get? b=some o')\/∃ v,H' b=some v)->B.get? b=some o)/\Heap.FlyingW B outer ex (.ref C) (.ref t) s'.heap/\E (.ref C) none H'
def Raises (X:Cx) (E:XK):Prop:=∀ (pins:List (Addr×Obj)) (σ:St) (H:Hp) (s:Shared) (e C:Addr) (h':Heap) (vs:List Value),Inv X pins σ H s->Heap.MadeExcOf s.heap h' e (.ref C) vs->E (.ref C) none H->X.xe (.ref e) { s with heap:=h' }
section
variable {P:Program} {w:World} {K:Frag} {mg:Str->Option Value} {base:Heap} {N:List Str} {qual:Str} {scope:Scope} {f:Addr} {cd:Value} {A:Around} {outer:List Env} {s₀:Shared} {H₀:Hp} {E:XK}
theorem zhx:Raises (cxOf (CX1 P w) P w K mg base N qual scope f cd A outer s₀ H₀ E) E:=by
 intro pins σ H s e C h' vs I hx hE
 have hmem:∀ env∈(envOfC qual scope s₀.heap.objs.size f cd::outer),∀ b,env.frame=some b->b∈frs (envOfC qual scope s₀.heap.objs.size f cd::outer):=λ env he b hb=>List.mem_filterMap.mpr ⟨env,he,hb⟩
 refine wpAny_leaves_madeW (base:=hideAll s.heap (frs (envOfC qual scope s₀.heap.objs.size f cd::outer))) (h:=s.heap) I.ok.frames rfl (λ b o q=>of_hideAll _ q) (funFrames_hide I.stack hmem) hx λ h2 t fly _ _ sl=>?_
 have keep:∀ b o,s.heap.get? b=some o->b∉frs (envOfC qual scope s₀.heap.objs.size f cd::outer)->h2.get? b=some o:=λ b o q nb=>fly.1 b o (hideAll_get _ q nb)
 have sub:∀ b,b∈frs (envOfC qual scope s₀.heap.objs.size f cd::outer)->b=s₀.heap.objs.size\/b∈frs outer:=λ b hb=>by
  rcases List.mem_cons.mp (show b∈s₀.heap.objs.size::frs outer from hb) with z | z
  . exact .inl z
  . exact .inr z
 have nb:∀ b,b∉frs outer->((∃ o',s₀.heap.get? b=some o')\/∃ v,H b=some v)->b∉frs (envOfC qual scope s₀.heap.objs.size f cd::outer):=λ b h1 h2 hb=>by
  rcases sub b hb with z | z
  . rcases h2 with ⟨o',q⟩ | ⟨v,q⟩
    . rw [z] at q; exact absurd (Heap.lt_size q) (Nat.lt_irrefl _)
    . have:=I.free
      have this':H s₀.heap.objs.size=none:=this
      rw [z,this'] at q; cases q
  . exact h1 z
 have hB:∀ b o,s.heap.get? b=some o->b∉frs outer->((∃ o',s₀.heap.get? b=some o')\/∃ v,H b=some v)->(hideAll s.heap (frs (envOfC qual scope s₀.heap.objs.size f cd::outer))).get? b=some o:=λ b o q h1 h2=>hideAll_get _ q (nb b h1 h2)
 have sl':s.heap.UpToSlots h2:=(Heap.UpToSlots.of_keeps hx.keeps).trans sl
 have hfs:∀ b∈frs outer,∀ o,s.heap.get? b=some o->∀ vs,o.data≠.fields vs:=λ b hb o q=>by
  have hb':b∈frs (envOfC qual scope s₀.heap.objs.size f cd::outer):=List.mem_cons_of_mem s₀.heap.objs.size hb
  obtain ⟨_,o',q',hd⟩:=I.stack.mem hb'
  rw [q] at q'; cases q'
  exact hd
 refine ⟨e,C,t,_,H,rfl,I.os,I.bare,(show Un (frs outer) [] H₀ H s₀.heap s.heap from I.base).fly hB fly.1 sl' hfs,HOk.fly (fs:=frs outer) I.hok (λ b o q h1 h2=>hB b o q h1 (.inr h2)) fly.1 (λ b hb=>I.zf0 b (List.mem_cons_of_mem s₀.heap.objs.size hb)),λ b o q h1 h2=>?_,fly,hE⟩
 have ⟨o1,e1⟩:∃ o1,s.heap.get? b=some o1:=by
  rcases h2 with ⟨o',q'⟩ | ⟨v,q'⟩
  . exact I.base.there b o' q' (by intro z; cases z)
  . exact (I.hok b v q').there
 have e2:=hB b o1 e1 h1 h2
 have e3:=fly.1 b o1 e2
 have:o=o1:=Option.some.inj (q.symm.trans e3)
 rw [this]; exact e2
theorem zaN:Passes (CX1 P w) (cxOf (CX1 P w) P w K mg base N qual scope f cd A outer s₀ H₀ E) E:=by
 intro pins σ H s e s' I hc
 obtain ⟨ex,C,t,B,H',rfl,os,bare,un,hok,hB,fly,hE⟩:=hc
 have J:Inv (cxOf (CX1 P w) P w K mg base N qual scope f cd A outer s₀ H₀ E) pins σ H' s':=I.zq1 (ch:=[]) os un hok bare λ b z=>by cases z
 refine wpAny_leaves_onW I.ok.frames rfl fly λ h2 fly2 sl=>?_
 have toStack:∀ b,b∈frs outer->b∈frs (envOfC qual scope s₀.heap.objs.size f cd::outer):=λ b hb=>List.mem_cons_of_mem s₀.heap.objs.size hb
 have hB':∀ b o,s'.heap.get? b=some o->b∉frs outer->((∃ o',s₀.heap.get? b=some o')\/∃ v,H' b=some v)->B.get? b=some o:=λ b o q h1 h2=>by
  refine hB b o q (λ hb=>?_) (h2.imp (λ ⟨o',q'⟩=>I.base.there b o' q' (λ z=>by cases z)) id)
  rcases List.mem_cons.mp (show b∈s₀.heap.objs.size::frs outer from hb) with z | z
  . rcases h2 with ⟨o',q'⟩ | ⟨v,q'⟩
    . rw [z] at q'; exact absurd (Heap.lt_size q') (Nat.lt_irrefl _)
    . have fr:H' s₀.heap.objs.size=none:=J.free
      rw [z,fr] at q'; cases q'
  . exact h1 z
 have hfs:∀ b∈frs outer,∀ o,s'.heap.get? b=some o->∀ vs,o.data≠.fields vs:=λ b hb o q=>by
  obtain ⟨_,o',q',hd⟩:=J.stack.mem (toStack b hb)
  rw [q] at q'; cases q'
  exact hd
 refine ⟨ex,C,t,B,H',rfl,J.os,J.bare,(show Un (frs outer) [] H₀ H' s₀.heap s'.heap from J.base).fly hB' fly2.1 sl hfs,HOk.fly (fs:=frs outer) J.hok (λ b o q h1 h2=>hB' b o q h1 (.inr h2)) fly2.1 (λ b hb=>J.zf0 b (toStack b hb)),λ b o q h1 h2=>?_,fly2,hE⟩
 obtain ⟨o1,e1⟩:∃ o1,s'.heap.get? b=some o1:=by
  rcases h2 with ⟨o',q'⟩ | ⟨v,q'⟩
  . exact J.base.there b o' q' (by intro z; cases z)
  . exact (J.hok b v q').there
 have e2:=hB' b o1 e1 h1 h2
 have:o=o1:=Option.some.inj (q.symm.trans (fly2.1 b o1 e2))
 rw [this]; exact e2
end
theorem zsk {K:Frag} {h:Heap} {C:Addr} {bmB:List Value} {newId:String} (X:K.In h) (q:excIn K C bmB newId=true) :
  ∃ bm N nm qn bs hd sn sub ab col dd k0 k1 k2 k3 k5 mN,h.get? C=some (excClassObj nm qn C N bs bm hd sn sub ab col dd k0 k1 k2 k3 k5 newId)/\h.Ns N mN/\mN "__init__" = none/\OwnTail h bmB bm:=by
 unfold excIn at q
 split at q
 case h_2=>cases q
 case h_1 dd cd sl ho =>
  split at q
  case h_2=>cases q
  case h_1 C' bm k0 k1 k2 k3 n k5 hm hs =>
   simp only [Bool.and_eq_true,beq_iff_eq,Bool.not_eq_true'] at q
   obtain ⟨⟨⟨⟨⟨e1,e2⟩,hdel⟩,tl⟩,ok⟩,ni⟩:=q
   subst e1 e2
   obtain ⟨nm,bs,mro,ns,qn,hdc,sn,sub,ab,col,del⟩:=cd
   simp only at hm hdel ok ni
   subst hm hdel
   have es:sl=#[k0,k1,k2,k3,some (.builtin n),k5]:=by
    cases sl with
    | mk l=>simp only at hs; rw [hs]
   subst es
   exact ⟨bm,ns,nm,qn,bs,hdc,sn,sub,ab,col,dd,k0,k1,k2,k3,k5,_,X _ _ ho,.of_isNs (isNs_of_in X ok),nsMap_none_of_in X ok ni,tail_of_in X tl⟩
def zoy (C:Addr) (E:XK) (t:TA):TS:=λ _ σ H=>t σ H λ vs H1=>vs.length<=sizeLine/\E (.ref C) none H1
section
variable {X:Cx} {E:XK} {x:Str} {C:Addr} {e₀:Expr} {rest:List Expr} {t:TA} {np cpos pos:Pos} {B newId initId:String} {bm:List Value}
theorem zjx (hr:Raises X E) (hc:X.calm=true) (hg:Gl X x) (hm:X.mg x=some (.ref C)) (q:excIn X.K C bm newId=true) (FB:ExcBaseFacts B newId initId bm) (ha:PA X (e₀::rest) t)
  (hd:(x == ("__debug__" : Str))=false:=by decide) (he:starEach (e₀::rest) X.env=(false,eval e₀ X.env)::starEach rest X.env:=by rfl) (hpl:(backTo cpos (starEach rest X.env)).any (·.1)=false:=by rfl) :
  PS X (.Raise (some (.Call (.Name x np) (e₀::rest) [] cpos)) none pos) (zoy C E t):=by
 intro pins s σ H D I h
 obtain ⟨tl,N,nm,qn,bs,hdc,sn,sub,ab,col,dd,k0,k1,k2,k3,k5,mN,hC,hN,hni,T⟩:=zsk I.ok.mod.kin q
 have hb:(backTo cpos (starEach (e₀::rest) X.env)).any (·.1)=false:=by
  rw [he]
  show (false || (backTo cpos (starEach rest X.env)).any (·.1))=false
  rw [hpl]; rfl
 refine wpAny_Raise_call_subT (C:=C) (nm:=nm) (q:=qn) (N:=N) (bs:=bs) (bm:=tl) (hdct:=hdc) (sn:=sn) (sub:=sub) (ab:=ab) (col:=col) (dd:=dd) (k0:=k0) (k1:=k1) (k2:=k2) (k3:=k3) (k5:=k5) FB (mN:=mN) (T.hasType FB.hasBase) (I.ok.hd hc) hb hni (zfi I hg hm ⟨rfl,?_⟩ hd)
 have hp:=ha cpos pins s σ H _ I h
 rw [he] at hp ⊢
 refine Calls.evalArgs_plain (thn hp λ us s1 ⟨vs,H1,I1,r1,z,hE⟩=>?_)
 exact ⟨rfl,by rw [<-r1.length]; exact z,I1.bk _ _ hC,hN.keeps I1.bk,T.keeps I1.bk,λ h' e mk=>hr pins σ H1 s1 e C h' us I1 mk hE⟩
end
theorem PS.nox {X:Cx} {st:Stmt} {t:TS} (h:PS X.nox st t):PS X st t:=λ pins s σ H D I hw =>
 wpAny_mono (h pins s σ H D (I.wish _) hw) (λ _ _ q=>SP.zfr q) λ _ _ z=>z.elim
theorem Fun.okX {K:Frag} {P:Program} {w:World} {mg:Str->Option Value} {base:Heap} {x qual:Str} {st:Stmt} {f:Addr} {fd:FuncData} {N ps:List Str} {k:Nat} {sp:Sp} (F:Fun K x qual st f fd) (S:zao N ps (zak st))
  (len:∀ vs H Q E,sp vs H Q E->vs.length=ps.length)
  (hb:∀ (cdv:Value) (A:Around) (outer:List Env) (s:Shared) (H:Hp) (vs:List V) (Q:VK) (E:XK),Room k (A.deeper (envOfC qual (zak st) s.heap.objs.size f cdv))->sp vs H Q E ->
   ∃ t,PSs (cxOf (CX1 P w) P w K mg base N qual (zak st) f cdv A outer s H E) (zia st) t/\t { nx:=λ _ H'=>Q .non H',rt:=Q } (start N vs) H) :
  FnOk P w K mg base (CX1 P w) (k+1) f fd ps sp:=by
 obtain ⟨oc,od,kV,doc,pm,an,cdv,ct,osl,rfl,lk,hcd⟩:=F.ex
 exact zuj lk hcd S len (hb cdv)
abbrev EF:XK:=λ _ _ _=>False
theorem zaz {X:Cx}:Passes (CX1 X.prog X.w) X EF:=λ _ _ _ _ _ _ _ ⟨_,_,_,_,_,_,_,_,_,_,_,_,h⟩=>h.elim
def cxH (X:Cx) (e:Value):Cx:={ X with A:=X.A.mark (some e),calm:=false,xe:=NoX }
theorem Inv.toH {X:Cx} {pins:List (Addr×Obj)} {σ:St} {H:Hp} {s:Shared} {e:Value} (I:Inv X pins σ H s):Inv (cxH X e) pins σ H s :=
 ⟨⟨I.ok.mod,I.ok.kind,I.ok.glob,I.ok.blt,I.ok.above,I.ok.inj,I.ok.has,I.ok.cab,λ z=>(by cases z),I.ok.frames,I.ok.stk,I.ok.exf,I.ok.bs,I.ok.bsz,I.ok.noex,I.ok.exfs,I.ok.funs,I.ok.frf⟩,I.os,I.bare,I.base,I.loc,I.cell,I.free,I.zdg,I.pin,I.hok,I.len⟩
theorem Inv.ofH {X:Cx} {pins:List (Addr×Obj)} {σ:St} {H:Hp} {s:Shared} {e:Value} {pins0:List (Addr×Obj)} {σ0:St} {H0:Hp} {s0:Shared} (I0:Inv X pins0 σ0 H0 s0) (I:Inv (cxH X e) pins σ H s):Inv X pins σ H s :=
 ⟨I0.ok,I.os,I.bare,I.base,I.loc,I.cell,I.free,I.zdg,I.pin,I.hok,I.len⟩
def cxT (X:Cx) (pn:List (Addr×Obj)) (xe:Value->Shared->Prop):Cx:={ X with pn:=pn,xe:=xe }
theorem Inv.toT {X:Cx} {pins:List (Addr×Obj)} {σ:St} {H:Hp} {s:Shared} {xe:Value->Shared->Prop} (I:Inv X pins σ H s):Inv (cxT X (X.pn++pins) xe) [] σ H s :=
 ⟨⟨I.ok.mod,I.ok.kind,I.ok.glob,I.ok.blt,I.ok.above,I.ok.inj,I.ok.has,I.ok.cab,I.ok.hd,I.ok.frames,I.ok.stk,I.ok.exf,I.ok.bs,I.ok.bsz,I.ok.noex,I.ok.exfs,I.ok.funs,I.ok.frf⟩,I.os,I.bare,I.base,I.loc,I.cell,I.free,I.zdg,λ p hp=>I.pin p (by have hp':p∈(X.pn++pins)++[]:=hp; rwa [List.append_nil] at hp'),I.hok,I.len⟩
theorem Inv.ofT {X:Cx} {pins pins':List (Addr×Obj)} {σ:St} {H:Hp} {s:Shared} {xe:Value->Shared->Prop} (I:Inv (cxT X (X.pn++pins) xe) pins' σ H s):Inv X pins σ H s :=
 ⟨⟨I.ok.mod,I.ok.kind,I.ok.glob,I.ok.blt,I.ok.above,I.ok.inj,I.ok.has,I.ok.cab,I.ok.hd,I.ok.frames,I.ok.stk,I.ok.exf,I.ok.bs,I.ok.bsz,I.ok.noex,I.ok.exfs,I.ok.funs,I.ok.frf⟩,I.os,I.bare,I.base,I.loc,I.cell,I.free,I.zdg,λ p hp=>I.pin p (List.mem_append_left _ hp),I.hok,I.len⟩
def tTry (C:Addr) (tb:XK->TS) (ts:TS):TS:=λ D σ H=>tb (λ cls _ H'=>cls=.ref C/\ts D (σ.map λ _=>none) H') D σ H
section
variable {X:Cx} {C:Addr} {x:Str} {body suite:List Stmt} {b₀:Stmt} {np hpos pos:Pos} {tb:XK->TS} {ts:TS}
theorem ztd (hc:X.calm=true) (hk:X.stack=X.env::X.outer) (hfr:X.env.frame=some X.env.locals) (hex:X.ex=[]) (hg:Gl X x) (hm:X.mg x=some (.ref C)) (q:ktsIn X.K C "BaseException" = true)
   (hb:∀ E pn xe,Passes (CX1 X.prog X.w) (cxT X pn xe) E->PSs (cxT X pn xe) body (tb E)) (hs:∀ e,PSs (cxH X e) (b₀::suite) ts)
   (hd:(x == ("__debug__" : Str))=false:=by decide) :
   PS X (.Try body [.ExceptHandler (some (.Name x np)) none (b₀::suite) hpos] [] [] pos) (tTry C tb ts):=by
 intro pins s σ H D I h
 refine wpAny_Try_except (wpAny_mono ((hb _ (X.pn++pins) _ ?pass) [] s σ H D I.toT h) (λ fl s' hq=>?_) λ e s' hq=>hq)
 case pass =>
   intro pins' σ' H1 s1 e s' I' hcx
   obtain ⟨ex,C',t,B,H',rfl,os,bare,un,hok,hB,fly,hC',hE⟩:=hcx
   obtain rfl:C'=C:=Value.ref.inj hC'
   have I1:Inv X pins σ' H1 s1:=I'.ofT
   have frm:X.A.frames=some (X.env::X.outer):=by rw [<-hk]; exact I.ok.frames
   have fly':Heap.FlyingW B (X.env::X.outer) ex (.ref C') (.ref t) s'.heap:=by rw [<-hk]; exact fly
   refine wpAny_looks_onW frm hfr fly' λ h4 held sl4=>?_
   refine wpAny_landsW held λ h5 fly5 sl5=>?_
   have hfs:∀ b∈frs X.stack,∀ o,s'.heap.get? b=some o->∀ vs,o.data≠.fields vs:=λ b hb' o qo=>by
    obtain ⟨_,o',q',hd'⟩:=fly.2.2.1.mem hb'
    rw [qo] at q'; cases q'
    exact hd'
   have at_:∀ h6:Heap,B.StaysIn h6->s'.heap.UpToSlots h6->Inv X pins σ' H' { s' with heap:=h6 }:=λ h6 st6 sl6 =>
    I1.zq1 (ch:=[]) (s':={ s' with heap:=h6 }) os (un.fly hB st6 sl6 hfs) (HOk.fly (fs:=frs X.stack) hok (λ b o q1 n1 t1=>hB b o q1 n1 (.inr t1)) st6 λ b hb'=>by
     have u:=I1.zf0 b hb'
     obtain ⟨_,o',q',_⟩:=I1.stack.mem hb'
     exact un.free b o' q' u (by intro z; cases z)) bare λ b z=>by cases z
   have I5:=at_ h5 fly5.1 (sl4.trans sl5)
   obtain ⟨nm,qn,N,bs,bm,hdct,sn,sub,ab,col,dd,k0,k1,k2,k3,k5,newId,hC,hbase,_⟩:=kts_cls I5.kIn q
   obtain ⟨ob,hob,hobc⟩:=fly5.there
   refine wpAny_handleBy_cons (codeAny_handlers_test (zfi (X:=cxH X (.ref ex)) I5.toH hg hm ?_ hd)) (by intro z; cases z)
   refine wpAny_excMatches_sub_self hC hob hobc hbase (codeAny_handlers_suite ?_)
   refine lands_againW fly5 λ h6 fly6 sl6=>?_
   have I6:=at_ h6 fly6.1 ((sl4.trans sl5).trans sl6)
   have I7:Inv X pins (σ.map λ _=>none) H' { s' with heap:=h6 }:=I6.weak (by rw [List.length_map,I.len,I6.len]) λ i v e1=>by
    rw [List.getElem?_map] at e1
    cases e2:σ[i]? with
    | none=>rw [e2] at e1; cases e1
    | some o=>rw [e2] at e1; cases e1
   refine wpAny_mono (hs (.ref ex) pins _ _ H' D I7.toH hE) (λ fl s8 hq=>?_) λ _ _ z=>z.elim
   have ret:SP X pins D fl s8:=by
    cases fl with
    | next=>obtain ⟨σ8,H8,I8,q8⟩:=hq; exact ⟨σ8,H8,I7.ofH I8,q8⟩
    | brk=>obtain ⟨σ8,H8,I8,q8⟩:=hq; exact ⟨σ8,H8,I7.ofH I8,q8⟩
    | cont=>obtain ⟨σ8,H8,I8,q8⟩:=hq; exact ⟨σ8,H8,I7.ofH I8,q8⟩
    | ret u=>obtain ⟨v8,σ8,H8,I8,r8,q8⟩:=hq; exact ⟨v8,σ8,H8,I7.ofH I8,r8,q8⟩
   exact ret
 . cases fl with
   | next=>obtain ⟨σ8,H8,I8,q8⟩:=hq; exact wpAny_execs_nil ⟨σ8,H8,I8.ofT,q8⟩
   | brk=>obtain ⟨σ8,H8,I8,q8⟩:=hq; exact ⟨σ8,H8,I8.ofT,q8⟩
   | cont=>obtain ⟨σ8,H8,I8,q8⟩:=hq; exact ⟨σ8,H8,I8.ofT,q8⟩
   | ret u=>obtain ⟨v8,σ8,H8,I8,r8,q8⟩:=hq; exact ⟨v8,σ8,H8,I8.ofT,r8,q8⟩
end
end L2
end
section
namespace S5
open PySem PySem.W PyProof.Rows
def run {α:Type} (a:Nat->Nat->Bool):KasT α->α
 | .ret x=>x
 | .ask i j k=>run a (k (a i j))
theorem run_bind {α β:Type} (a:Nat->Nat->Bool) (f:α->KasT β):∀ t:KasT α,run a (t.bind f)=run a (f (run a t))
 | .ret _=>rfl
 | .ask i j k=>run_bind a f (k (a i j))
def Below (a:Nat->Nat->Bool) (n:Nat) {α:Type}:KasT α->Prop
 | .ret _=>True
 | .ask i j k=>(i < n/\j < n/\i≠j)/\Below a n (k (a i j))
theorem zcK {α β:Type} {a:Nat->Nat->Bool} {n:Nat} {f:α->KasT β}:∀ {t:KasT α},Below a n t->Below a n (f (run a t))->Below a n (t.bind f)
 | .ret _,_,h=>h
 | .ask i j k,h,g=>⟨h.1,zcK (t:=k (a i j)) h.2 g⟩
theorem wp_run {α:Type} {cmp:Nat->Nat->(Bool->Shared->Prop)->Shared->Prop} {a:Nat->Nat->Bool} {n:Nat} {s:Shared} (hc:∀ i j C,i < n->j < n->i≠j->C (a i j) s->cmp i j C s) :
  ∀ (t:KasT α) (Q:α->Shared->Prop),Below a n t->Q (run a t) s->t.kasWp cmp Q s
 | .ret x,Q,_,h=>h
 | .ask i j k,Q,b,h=>hc i j _ b.1.1 b.1.2.1 b.1.2.2 (wp_run hc (k (a i j)) Q b.2 h)
structure Ord (a:Nat->Nat->Bool) (n:Nat):Prop where
 irr:∀ i,a i i=false
 tr:∀ i j k,a i j=true->a j k=true->a i k=true
 tot:∀ i j,i < n->j < n->i≠j->a i j=true\/a j i=true
section
variable {a:Nat->Nat->Bool} {n:Nat} (O:Ord a n)
include O
def Arr (n:Nat) (p:Array Nat):Prop:=p.toList.Perm (List.range n)
omit O in
theorem Arr.size {p:Array Nat} (h:Arr n p):p.size=n:=by
 have:=h.length_eq; rw [List.length_range,Array.length_toList] at this; exact this
omit O in
theorem Arr.lt {p:Array Nat} (h:Arr n p) {i:Nat} (hi:i < n):p.getD i 0 < n:=by
 have hs:=h.size
 have:p.getD i 0∈p.toList:=by
  rw [Array.getD_eq_getD_getElem?,Array.getElem?_eq_getElem (by omega)]; simp
 exact List.mem_range.mp (h.mem_iff.mp this)
omit O in
theorem Arr.inj {p:Array Nat} (h:Arr n p) {i j:Nat} (hi:i < n) (hj:j < n) (e:p.getD i 0=p.getD j 0):i=j:=by
 have hs:=h.size
 have nd:p.toList.Nodup:=(h.nodup_iff).mpr List.nodup_range
 have hi':i < p.toList.length:=by rw [Array.length_toList]; omega
 have hj':j < p.toList.length:=by rw [Array.length_toList]; omega
 refine (List.getElem_inj (h₀:=hi') (h₁:=hj') nd).mp ?_
 have e1:p.getD i 0=p.toList[i]:=by rw [Array.getD_eq_getD_getElem?,Array.getElem?_eq_getElem (by omega)]; simp
 have e2:p.getD j 0=p.toList[j]:=by rw [Array.getD_eq_getD_getElem?,Array.getElem?_eq_getElem (by omega)]; simp
 rw [<-e1,<-e2,e]
def Up (a:Nat->Nat->Bool) (p:Array Nat) (k:Nat):Prop:=∀ i j,i < j->j < k->a (p.getD i 0) (p.getD j 0)=true
def Dn (a:Nat->Nat->Bool) (p:Array Nat) (k:Nat):Prop:=∀ i j,i < j->j < k->a (p.getD j 0) (p.getD i 0)=true
theorem Ord.le {p:Array Nat} (h:Arr n p) {i j:Nat} (hi:i < n) (hj:j < n) (hne:i≠j) (q:a (p.getD i 0) (p.getD j 0)=false):a (p.getD j 0) (p.getD i 0)=true:=by
 rcases O.tot _ _ (h.lt hi) (h.lt hj) (λ e=>hne (h.inj hi hj e)) with z | z
 . rw [q] at z; cases z
 . exact z
omit O in
theorem Up.snoc {p:Array Nat} {k:Nat} (tr:∀ i j k,a i j=true->a j k=true->a i k=true) (u:Up a p k) (h:k=0\/a (p.getD (k - 1) 0) (p.getD k 0)=true):Up a p (k+1):=λ i j hij hj=>by
 by_cases e:j=k
 . subst e
   rcases h with z | z
   . omega
   . by_cases e2:i=j - 1
     . subst e2; exact z
     . exact tr _ _ _ (u i (j - 1) (by omega) (by omega)) z
 . exact u i j hij (by omega)
omit O in
theorem Dn.snoc {p:Array Nat} {k:Nat} (tr:∀ i j k,a i j=true->a j k=true->a i k=true) (u:Dn a p k) (h:k=0\/a (p.getD k 0) (p.getD (k - 1) 0)=true):Dn a p (k+1):=λ i j hij hj=>by
 by_cases e:j=k
 . subst e
   rcases h with z | z
   . omega
   . by_cases e2:i=j - 1
     . subst e2; exact z
     . exact tr _ _ _ z (u i (j - 1) (by omega) (by omega))
 . exact u i j hij (by omega)
omit O in
theorem ztK (p:Array Nat) (f k:Nat):run a (kas_asc p (f+1) k)=if a (p.getD k 0) (p.getD (k - 1) 0)=true then k else run a (kas_asc p f (k+1)):=by
 show run a ((λ c=>if c=true then KasT.ret k else kas_asc p f (k+1)) (a (p.getD k 0) (p.getD (k - 1) 0)))=_
 cases a (p.getD k 0) (p.getD (k - 1) 0) <;> rfl
theorem znw {p:Array Nat} (h:Arr n p):∀ (f k:Nat),1<=k->k+f<=n->Up a p k->k<=run a (kas_asc p f k)/\run a (kas_asc p f k)<=k+f/\Up a p (run a (kas_asc p f k)) /\
  (run a (kas_asc p f k) < k+f->a (p.getD (run a (kas_asc p f k)) 0) (p.getD (run a (kas_asc p f k) - 1) 0)=true)
 | 0,k,_,_,u=>⟨Nat.le_refl _,Nat.le_refl _,u,λ z=>absurd z (Nat.lt_irrefl _)⟩
 | f+1,k,h1,hk,u=>by
  rw [ztK]
  cases q:a (p.getD k 0) (p.getD (k - 1) 0) with
  | true=>rw [if_pos rfl]; exact ⟨Nat.le_refl _,by omega,u,λ _=>q⟩
  | false =>
   rw [if_neg Bool.false_ne_true]
   have nx:=O.le h (i:=k) (j:=k - 1) (by omega) (by omega) (by omega) q
   obtain ⟨g1,g2,g3,g4⟩:=znw h f (k+1) (by omega) (by omega) (u.snoc O.tr (.inr nx))
   exact ⟨by omega,by omega,g3,λ z=>g4 (by omega)⟩
omit O in
theorem zsm (p:Array Nat) (f k:Nat):run a (kas_desc (f+1) p k 0)=if a (p.getD k 0) (p.getD (k - 1) 0)=true then run a (kas_desc f p (k+1) 0) else if a (p.getD (k - 1) 0) (p.getD k 0)=true then (p,k,0) else run a (kas_desc f p (k+1) 1):=by
 show run a ((λ c=>if c=true then (if 0 > 0 then kas_desc f (kas_rev p (k - (0+1)) k) (k+1) 0 else kas_desc f p (k+1) 0) else KasT.ask (p.getD (k - 1) 0) (p.getD k 0) λ d=>if d=true then KasT.ret (p,k,0) else kas_desc f p (k+1) (0+1)) (a (p.getD k 0) (p.getD (k - 1) 0)))=_
 cases a (p.getD k 0) (p.getD (k - 1) 0) with
 | true =>
  show run a (if 0 > 0 then kas_desc f (kas_rev p (k - (0+1)) k) (k+1) 0 else kas_desc f p (k+1) 0)=_
  rw [if_neg (by omega),if_pos rfl]
 | false =>
  show run a ((λ d=>if d=true then KasT.ret (p,k,0) else kas_desc f p (k+1) (0+1)) (a (p.getD (k - 1) 0) (p.getD k 0)))=_
  rw [if_neg Bool.false_ne_true]
  cases a (p.getD (k - 1) 0) (p.getD k 0) <;> rfl
theorem zmo {p:Array Nat} (h:Arr n p):∀ (f k:Nat),1<=k->k+f<=n->Dn a p k->∃ m,run a (kas_desc f p k 0)=(p,m,0)/\k<=m/\m<=k+f/\Dn a p m
 | 0,k,_,_,u=>⟨k,rfl,Nat.le_refl _,Nat.le_refl _,u⟩
 | f+1,k,h1,hk,u=>by
  rw [zsm]
  cases q:a (p.getD k 0) (p.getD (k - 1) 0) with
  | true =>
   rw [if_pos rfl]
   obtain ⟨m,e,g1,g2,g3⟩:=zmo h f (k+1) (by omega) (by omega) (u.snoc O.tr (.inr q))
   exact ⟨m,e,by omega,by omega,g3⟩
  | false =>
   rw [if_neg Bool.false_ne_true]
   have nx:=O.le h (i:=k) (j:=k - 1) (by omega) (by omega) (by omega) q
   rw [if_pos nx]
   exact ⟨k,rfl,Nat.le_refl _,by omega,u⟩
omit O in
theorem zoR {p:Array Nat} {i j:Nat} (hj:j<=p.size) (k:Nat):(kas_rev p i j).getD k 0=if i<=k/\k < j then p.getD (i+j - 1 - k) 0 else p.getD k 0:=by
 unfold kas_rev
 have e:=getElem?_mirror_all (i:=i) hj k
 rw [Array.getD_eq_getD_getElem?,e]
 split
 . rw [Array.getD_eq_getD_getElem?]
 . rw [Array.getD_eq_getD_getElem?]
omit O in
theorem Arr.rev {p:Array Nat} (h:Arr n p) (i j:Nat):Arr n (kas_rev p i j):=(Array.perm_iff_toList_perm.mp (mirror_perm p i j _)).trans h
omit O in
theorem Arr.bub {p:Array Nat} (h:Arr n p) (i j:Nat):Arr n (bubble p i j):=(Array.perm_iff_toList_perm.mp (bubble_perm p i j)).trans h
omit O in
theorem Dn.rev {p:Array Nat} {m:Nat} (hm:m<=p.size) (d:Dn a p m):Up a (kas_rev p 0 m) m:=λ i j hij hj=>by
 rw [zoR hm,zoR hm,if_pos ⟨Nat.zero_le _,by omega⟩,if_pos ⟨Nat.zero_le _,hj⟩]
 exact d (0+m - 1 - j) (0+m - 1 - i) (by omega) (by omega)
theorem zns {p:Array Nat} (h:Arr n p) (hn:1<=n):(run a (kas_count n p)).1<=n/\1<=(run a (kas_count n p)).1/\Arr n (run a (kas_count n p)).2/\Up a (run a (kas_count n p)).2 (run a (kas_count n p)).1:=by
 have u1:Up a p 1:=λ i j hij hj=>by omega
 obtain ⟨g1,g2,g3,g4⟩:=znw O h (n - 1) 1 (Nat.le_refl _) (by omega) u1
 unfold kas_count
 rw [run_bind]
 generalize run a (kas_asc p (n - 1) 1)=r at g1 g2 g3 g4 ⊢
 by_cases e:(r == n)=true
 . rw [if_pos e]; exact ⟨by show r<=n; omega,g1,h,g3⟩
 . rw [if_neg e]
   have ne:r≠n:=by simpa using e
   by_cases hr:r > 1
   . rw [if_pos hr]
     have q:a (p.getD 0 0) (p.getD (r - 1) 0)=true:=g3 0 (r - 1) (by omega) (by omega)
     simp only [run,q,if_true]
     exact ⟨by omega,g1,h,g3⟩
   . rw [if_neg hr]
     have hr1:r=1:=by omega
     subst hr1
     have q:=g4 (by omega)
     have d2:Dn a p 2:=(show Dn a p 1 from λ i j hij hj=>by omega).snoc O.tr (.inr q)
     obtain ⟨m,em,m1,m2,dm⟩:=zmo O h (n - (1+1)) 2 (by omega) (by omega) d2
     unfold kas_descPart
     rw [run_bind,em]
     dsimp only
     rw [if_neg (by omega)]
     unfold kas_tail3
     rw [run_bind]
     have hs:=h.size
     have ur:=Dn.rev (by omega) dm
     obtain ⟨g1',g2',g3',_⟩:=znw O (h.rev 0 m) (n - m) m (by omega) (by omega) ur
     simp only [run]
     exact ⟨by omega,by omega,h.rev 0 m,g3'⟩
omit O in
theorem zpY {p:Array Nat} {src d:Nat} (hs:src < p.size) (hd:d<=src) (k:Nat):(bubble p src d).getD k 0=if k=src - d then p.getD src 0 else if src - d < k/\k<=src then p.getD (k - 1) 0 else p.getD k 0:=by
 have e:=getElem?_bubble hs d hd k
 rw [Array.getD_eq_getD_getElem?,e]
 by_cases h1:k=src - d
 . rw [if_pos h1,if_pos h1,Array.getD_eq_getD_getElem?]
 . rw [if_neg h1,if_neg h1]
   by_cases h2:src - d < k/\k<=src
   . rw [if_pos h2,if_pos h2,Array.getD_eq_getD_getElem?]
   . rw [if_neg h2,if_neg h2,Array.getD_eq_getD_getElem?]
theorem zjz {p:Array Nat} (h:Arr n p) {k:Nat} (hk:k < n):∀ (f l r:Nat),l<=r->r<=k->r - l<=f->(∀ i,i < l->a (p.getD i 0) (p.getD k 0)=true)->(∀ i,r<=i->i < k->a (p.getD k 0) (p.getD i 0)=true)->Up a p k ->
  ∃ m,run a (kas_place p k f l r)=m/\m<=k/\(∀ i,i < m->a (p.getD i 0) (p.getD k 0)=true)/\∀ i,m<=i->i < k->a (p.getD k 0) (p.getD i 0)=true
 | 0,l,r,h1,h2,h3,g1,g2,u=>⟨l,rfl,by omega,g1,λ i hi hk=>g2 i (by omega) hk⟩
 | f+1,l,r,h1,h2,h3,g1,g2,u=>by
  unfold kas_place
  by_cases hlr:l ≥ r
  . rw [if_pos hlr]; exact ⟨l,rfl,by omega,g1,λ i hi hk=>g2 i (by omega) hk⟩
  . rw [if_neg hlr]
    simp only [run]
    have hm:(l+r) / 2 < r:=by omega
    have hm2:l<=(l+r) / 2:=by omega
    cases q:a (p.getD k 0) (p.getD ((l+r) / 2) 0) with
    | true =>
     simp only [if_true]
     refine zjz h hk f l ((l+r) / 2) hm2 (by omega) (by omega) g1 (λ i hi hik=>?_) u
     by_cases e:i=(l+r) / 2
     . subst e; exact q
     . exact O.tr _ _ _ q (u _ i (by omega) hik)
    | false =>
     simp only [Bool.false_eq_true,if_false]
     have nx:=O.le h (i:=k) (j:=(l+r) / 2) hk (by omega) (by omega) q
     refine zjz h hk f ((l+r) / 2+1) r (by omega) h2 (by omega) (λ i hi=>?_) g2 u
     by_cases e:i=(l+r) / 2
     . subst e; exact nx
     . exact O.tr _ _ _ (u i ((l+r) / 2) (by omega) (by omega)) nx
theorem zrs:∀ (f:Nat) (p:Array Nat) (k:Nat),Arr n p->k+f=n->Up a p k->Arr n (run a (kas_bin f p k))/\Up a (run a (kas_bin f p k)) n
 | 0,p,k,h,e,u=>⟨h,by rw [Nat.add_zero] at e; rw [<-e]; exact u⟩
 | f+1,p,k,h,e,u=>by
  have hk:k < n:=by omega
  have hs:=h.size
  unfold kas_bin
  rw [run_bind]
  obtain ⟨m,em,m1,g1,g2⟩:=zjz O h hk k 0 k (Nat.zero_le _) (Nat.le_refl _) (by omega) (λ i hi=>by omega) (λ i h1 h2=>by omega) u
  rw [em]
  refine zrs f _ (k+1) (h.bub k (k - m)) (by omega) λ i j hij hj=>?_
  rw [zpY (by omega) (by omega),zpY (by omega) (by omega),show k - (k - m)=m by omega]
  by_cases e1:i=m
  . rw [if_pos e1,if_neg (show ¬ j=m by omega),if_pos (show m < j/\j<=k by omega)]
    exact g2 (j - 1) (by omega) (by omega)
  . rw [if_neg e1]
    by_cases e2:m < i/\i<=k
    . rw [if_pos e2,if_neg (show ¬ j=m by omega),if_pos (show m < j/\j<=k by omega)]
      exact u (i - 1) (j - 1) (by omega) (by omega)
    . rw [if_neg e2]
      by_cases e3:j=m
      . rw [if_pos e3]; exact g1 i (by omega)
      . rw [if_neg e3]
        by_cases e4:m < j/\j<=k
        . rw [if_pos e4]
          by_cases e5:i=j - 1
          . omega
          . exact u i (j - 1) (by omega) (by omega)
        . rw [if_neg e4]; exact u i j hij (by omega)
omit O in
theorem Arr.two {p:Array Nat} (h:Arr n p) {i j:Nat} (hi:i < n) (hj:j < n) (hne:i≠j):p.getD i 0 < n/\p.getD j 0 < n/\p.getD i 0≠p.getD j 0:=⟨h.lt hi,h.lt hj,λ e=>hne (h.inj hi hj e)⟩
omit O in
theorem zil {p:Array Nat} (h:Arr n p):∀ (f k:Nat),1<=k->k+f<=n->Below a n (kas_asc p f k)
 | 0,_,_,_=>trivial
 | f+1,k,h1,hk=>by
  refine ⟨h.two (by omega) (by omega) (by omega),?_⟩
  cases a (p.getD k 0) (p.getD (k - 1) 0) with
  | true=>exact trivial
  | false=>exact zil h f (k+1) (by omega) (by omega)
theorem zi9 {p:Array Nat} (h:Arr n p):∀ (f k:Nat),1<=k->k+f<=n->Below a n (kas_desc f p k 0)
 | 0,_,_,_=>trivial
 | f+1,k,h1,hk=>by
  refine ⟨h.two (by omega) (by omega) (by omega),?_⟩
  cases q:a (p.getD k 0) (p.getD (k - 1) 0) with
  | true =>
   show Below a n (if 0 > 0 then kas_desc f (kas_rev p (k - (0+1)) k) (k+1) 0 else kas_desc f p (k+1) 0)
   rw [if_neg (by omega)]
   exact zi9 h f (k+1) (by omega) (by omega)
  | false =>
   have nx:=O.le h (i:=k) (j:=k - 1) (by omega) (by omega) (by omega) q
   refine ⟨h.two (by omega) (by omega) (by omega),?_⟩
   rw [nx]
   exact trivial
theorem zmr {p:Array Nat} (h:Arr n p) (hn:1<=n):Below a n (kas_count n p):=by
 have u1:Up a p 1:=λ i j hij hj=>by omega
 obtain ⟨g1,g2,g3,g4⟩:=znw O h (n - 1) 1 (Nat.le_refl _) (by omega) u1
 unfold kas_count
 refine zcK (zil h (n - 1) 1 (Nat.le_refl _) (by omega)) ?_
 generalize run a (kas_asc p (n - 1) 1)=r at g1 g2 g3 g4 ⊢
 by_cases e:(r == n)=true
 . rw [if_pos e]; exact trivial
 . rw [if_neg e]
   have ne:r≠n:=by simpa using e
   by_cases hr:r > 1
   . rw [if_pos hr]
     have q:a (p.getD 0 0) (p.getD (r - 1) 0)=true:=g3 0 (r - 1) (by omega) (by omega)
     refine ⟨h.two (by omega) (by omega) (by omega),?_⟩
     rw [q]; exact trivial
   . rw [if_neg hr]
     have hr1:r=1:=by omega
     subst hr1
     have q:=g4 (by omega)
     have d2:Dn a p 2:=(show Dn a p 1 from λ i j hij hj=>by omega).snoc O.tr (.inr q)
     obtain ⟨m,em,m1,m2,dm⟩:=zmo O h (n - (1+1)) 2 (by omega) (by omega) d2
     unfold kas_descPart
     refine zcK (zi9 O h (n - (1+1)) 2 (by omega) (by omega)) ?_
     rw [em]
     dsimp only
     rw [if_neg (by omega)]
     unfold kas_tail3
     exact zcK (zil (h.rev 0 m) (n - m) m (by omega) (by omega)) trivial
omit O in
theorem ze9 {p:Array Nat} (h:Arr n p) {k:Nat} (hk:k < n):∀ (f l r:Nat),r<=k->Below a n (kas_place p k f l r)
 | 0,_,_,_=>trivial
 | f+1,l,r,hr=>by
  unfold kas_place
  by_cases hlr:l ≥ r
  . rw [if_pos hlr]; exact trivial
  . rw [if_neg hlr]
    refine ⟨h.two hk (by omega) (by omega),?_⟩
    cases a (p.getD k 0) (p.getD ((l+r) / 2) 0) with
    | true=>exact ze9 h hk f l _ (by omega)
    | false=>exact ze9 h hk f _ r hr
omit O in
theorem zlv:∀ (f:Nat) (p:Array Nat) (k:Nat),Arr n p->k+f=n->Below a n (kas_bin f p k)
 | 0,_,_,_,_=>trivial
 | f+1,p,k,h,e=>by
  unfold kas_bin
  exact zcK (ze9 h (by omega) k 0 k (Nat.le_refl _)) (zlv f _ (k+1) (h.bub k _) (by omega))
theorem znM (hn:1<=n):Below a n (kas_sort n):=by
 have h0:Arr n (List.toArray (List.range n)):=List.Perm.refl _
 obtain ⟨c1,c2,c3,c4⟩:=zns O h0 hn
 unfold kas_sort
 refine zcK (zmr O h0 hn) ?_
 by_cases h:(run a (kas_count n (List.toArray (List.range n)))).1 < n
 . rw [if_pos h]
   exact zlv _ _ _ c3 (by omega)
 . rw [if_neg h]; exact trivial
theorem zoG (hn:1<=n):Arr n (run a (kas_sort n))/\Up a (run a (kas_sort n)) n:=by
 have h0:Arr n (List.toArray (List.range n)):=List.Perm.refl _
 obtain ⟨c1,c2,c3,c4⟩:=zns O h0 hn
 unfold kas_sort
 rw [run_bind]
 generalize run a (kas_count n (List.toArray (List.range n)))=r at c1 c2 c3 c4 ⊢
 obtain ⟨m,p⟩:=r
 dsimp only at c1 c2 c3 c4 ⊢
 by_cases h:m < n
 . rw [if_pos h,show max m 1=m by omega]
   exact zrs O (n - m) p m c3 (by omega) c4
 . rw [if_neg h]
   have:m=n:=by omega
   subst this
   exact ⟨c3,c4⟩
end
end S5
end
section
namespace S5
open PySem PySem.W PyProof.Rows
def zio (a:Addr) (h h':Heap):Prop:=∀ b o,b≠a->h.get? b=some o->h'.get? b=some o
def picked (vs:List Value) (p:Array Nat):List Value:=p.toList.map λ i=>vs.getD i Value.none
section
variable {prog:Program} {w:World} {A:Around} {E:Value->Shared->Prop} {s:Shared}
theorem zoH {a:Addr} {vs:List Value} {c:Nat} {κ:SortKind} {lt:Nat->Nat->Bool} {P:PySem.Fin->Shared->Prop} (ho:s.heap.get? a=some (seqObj "list" vs.toArray c)) (h64:vs.length < 64) (O:Ord lt vs.length)
   (hk:∀ h1,zio a s.heap h1->2<=vs.length->∀ Q:SortKind->Shared->Prop,Q κ { s with heap:=h1 }->wpAny (model prog w) A (keyKind' vs.toArray) Q (λ _ _=>False) { s with heap:=h1 })
   (hlt:∀ h1,zio a s.heap h1->∀ i j,i < vs.length->j < vs.length->i≠j->∀ Q:Bool->Shared->Prop,Q (lt i j) { s with heap:=h1 }->wpAny (model prog w) A (keyLt' κ (vs.getD i Value.none) (vs.getD j Value.none)) Q (λ _ _=>False) { s with heap:=h1 })
   (h:∀ p h' c',Arr vs.length p->Up lt p vs.length->zio a s.heap h'->h'.get? a=some (seqObj "list" (picked vs p).toArray c')->P (.done (.ret .none)) { s with heap:=h' }) :
   wpAny (model prog w) A (Builtin.«list.sort» ⟨[.ref a], []⟩) P E s := by
 have big:∀ {k:Nat},k < 64->k<=sizeLine:=λ hk'=>by rw [sizeLine_eq]; omega
 rw [list_sort_plain]
 refine wpAny_bind (listItems_at ho rfl (wpAny_bind (listUpdate_at ho rfl ?_ (by rw [List.size_toArray]; exact big h64) (Nat.zero_le _))))
 have e1:=get?_update_seq ho λ _=>(#[]:Array Value)
 generalize (if ((λ _=>(#[]:Array Value)) vs.toArray).size == vs.toArray.size then c else c+1)=c1 at e1
 generalize hg1:s.heap.update a (Obj.mapSeq λ _=>(#[]:Array Value))=g1 at e1 ⊢
 have k1:zio a s.heap g1:=λ b o hb q=>by rw [<-hg1,Heap.get?_update_other _ _ (Ne.symm hb)]; exact q
 refine wpAny_bind (seqEpoch_at e1 rfl (wpAny_bind (wpAny_newTuple ?_ (by show vs.toArray.toList.length<=_; exact big (by simpa using h64)))))
 refine wpAny_bind (wpAny_newList (wpAny_holding ?_) (Nat.zero_le _))
 dsimp only
 generalize hg2:(g1.push { cls:=.type "tuple",data:=.seq vs.toArray.toList.toArray }).push { cls:=.type "list",data:=.seq ([]:List Value).toArray }=g2
 have k2:∀ b o,g1.get? b=some o->g2.get? b=some o:=λ b o q=>by rw [<-hg2]; exact Heap.get?_push_of_some _ (Heap.get?_push_of_some _ q)
 have e2:g2.get? a=some (seqObj "list" #[] c1):=k2 _ _ e1
 have kk:zio a s.heap g2:=λ b o hb q=>k2 b o (k1 b o hb q)
 have fin:∀ (p:Array Nat),Arr vs.length p->Up lt p vs.length->∀ (st:SortSt),(arrOf st).map (·.2)=(picked vs p).toArray->failedOf st=none ->
    wpAny (model prog w) A (do
     let touched:=(<-seqEpoch a) != c1
     Builtin.List.listUpdate (.ref a) λ _=>(arrOf st).map (·.2)
     if let some e:=failedOf st then rule "list.sort.comparison-raised"; throw e
     if touched then rule "list.sort.modified"; raiseError "ValueError" "list modified during sort"
     ret .none) P E { s with heap:=g2 }:=λ p hp hu st es hf=>by
   have lp:(picked vs p).length=vs.length:=by unfold picked; rw [List.length_map,Array.length_toList,hp.size]
   refine wpAny_bind (seqEpoch_at e2 rfl (wpAny_bind (listUpdate_at e2 rfl ?_ (Nat.zero_le _) (by rw [es,List.size_toArray,lp]; exact Nat.le_succ_of_le (big h64)))))
   rw [hf,es]
   simp only [bne_self_eq_false,Bool.false_eq_true,if_false]
   exact wpAny_pure (h p _ _ hp hu (λ b o hb q=>by rw [Heap.get?_update_other _ _ (Ne.symm hb)]; exact kk b o hb q) (get?_update_seq e2 λ _=>(picked vs p).toArray))
 by_cases h2:vs.toArray.size < 2
 . rw [if_pos h2,if_pos h2]
   refine wpAny_bind (wpAny_pure ?_)
   rw [StateT.run_pure]
   refine wpAny_bind (wpAny_pure ?_)
   have hl:vs.length < 2:=by simpa using h2
   refine fin (List.range vs.length).toArray (List.Perm.refl _) (λ i j hij hj=>by omega) (SortSt.mk' general' (vs.toArray.zip vs.toArray) #[] 7 none) ?_ rfl
   show (vs.toArray.zip vs.toArray).map (·.2)=_
   apply Array.toList_inj.mp
   unfold picked
   match vs,hl with
   | [],_=>simp
   | [v],_=>simp
 . rw [if_neg h2,if_neg h2]
   have hl:2<=vs.length:=by simpa using h2
   refine wpAny_bind (wpAny_mono (hk g2 kk hl (λ κ' s'=>κ'=κ/\s'={ s with heap:=g2 }) ⟨rfl,rfl⟩) (λ κ' s' hq=>?_) λ _ _ z=>z.elim)
   obtain ⟨rfl,rfl⟩:=hq
   have ask:(kas_sort vs.length).kasWp (kas_ask prog w A κ' vs) (λ p s'=>s'={ s with heap:=g2 }/\Arr vs.length p/\Up lt p vs.length) { s with heap:=g2 } :=
    wp_run (λ i j C hi hj hne hc=>hlt g2 kk i j hi hj hne C hc) _ _ (znM O (by omega)) ⟨rfl,(zoG O (by omega)).1,(zoG O (by omega)).2⟩
   refine wpAny_bind (wpAny_mono (kat_run (vs:=vs) (ks:=vs) (Q:=λ st' s'=>s'={ s with heap:=g2 }/\∃ p,Arr vs.length p/\Up lt p vs.length/\(arrOf st').map (·.2)=(picked vs p).toArray/\failedOf st'=none) rfl hl h64 (λ p st' s' hz har hf hg=>⟨hg.1,p,hg.2.1,hg.2.2,kat_snds rfl har,hf⟩) ask) ?_ λ _ _ z=>z)
   rintro ⟨⟨⟩,st'⟩ s' ⟨rfl,p,hp,hu,es,hf⟩
   exact fin p hp hu st' es hf
end
end S5
end
section
namespace L2
open PySem PySem.Spec PyProof.Rows PySem.W S5
theorem Inv.zsC {X:Cx} {pins:List (Addr×Obj)} {σ:St} {H:Hp} {s:Shared} {a:Addr} {o:HO} (I:Inv X pins σ H s) (f:FpOk X pins H a) (new:zbY X.prog X.w (upd H a o) s.heap a o):Inv X pins σ (upd H a o) s:=by
 obtain ⟨f0,f1,f2,f3,f4,f5⟩:=f
 have tr:∀ b u,H b=some u->b≠a:=λ b u e z=>by rw [z,f0] at e; cases e
 have J:=I.step (H':=upd H a o) (h':=s.heap) (g':=s.gens) (t':=s.toks) (d':=s.drawn) (ch:=[a]) (λ b hb=>by
  have e:b=a:=by simpa using hb
  subst e
  exact ⟨f3,f1,f4,f5⟩) (λ b u _ _ _ q _=>q) (λ b u _ _ _ q _=>⟨u.slots,q⟩) (λ b u hb q n=>by rw [zaf (λ z=>hb (by simp [z]))]; exact n) (λ b u _ q=>⟨u,q⟩)
  (λ b xs q=>by rw [zaf (tr b _ q)]; exact q) (λ b u xs q=>by rw [zaf (tr b _ q)]; exact q) (λ b ps q=>⟨#[],by rw [zaf (tr b _ q),q]; simp⟩) (λ m hm=>hm) (λ b u e=>by
   by_cases hb:b=a
   . subst hb; rw [zab] at e; cases e; exact new
   . rw [zaf hb] at e
     exact (I.hok b u e).stay (λ _ _ _ q=>q) (λ c q=>by rw [zaf (tr c _ q)]; exact q) λ c xs q=>by rw [zaf (tr c _ q)]; exact q) I.bare
 exact J
def kLt:Key->Key->Bool
 | .inl a,.inl b=>decide (a < b)
 | .inr x,.inr y=>decide (x.cps.toList < y.cps.toList)
 | _,_=>false
def zdH (ks:List Key):Prop:=(∀ k∈ks,∃ i,k=Sum.inl i)\/∀ k∈ks,∃ x,k=Sum.inr x
theorem zps:∀ k:Key,kLt k k=false
 | .inl a=>by show decide (a < a)=false; simp
 | .inr x=>by show decide (x.cps.toList < x.cps.toList)=false; simpa using List.lt_irrefl _
theorem zrl:∀ {a b c:Key},kLt a b=true->kLt b c=true->kLt a c=true
 | .inl a,.inl b,.inl c,h1,h2=>by
  have h1':decide (a < b)=true:=h1
  have h2':decide (b < c)=true:=h2
  show decide (a < c)=true
  simp only [decide_eq_true_eq] at *; omega
 | .inr a,.inr b,.inr c,h1,h2=>by
  have h1':decide (a.cps.toList < b.cps.toList)=true:=h1
  have h2':decide (b.cps.toList < c.cps.toList)=true:=h2
  show decide (a.cps.toList < c.cps.toList)=true
  simp only [decide_eq_true_eq] at *; exact List.lt_trans h1' h2'
 | .inl _,.inr _,_,h1,_=>by cases h1
 | .inr _,.inl _,_,h1,_=>by cases h1
 | .inl _,.inl _,.inr _,_,h2=>by cases h2
 | .inr _,.inr _,.inl _,_,h2=>by cases h2
theorem zrE {x y:Str} (h:x.cps.toList=y.cps.toList):x=y:=by
 obtain ⟨a⟩:=x
 obtain ⟨b⟩:=y
 have:a=b:=Array.toList_inj.mp h
 rw [this]
theorem zpr {ks:List Key} (one:zdH ks) {a b:Key} (ha:a∈ks) (hb:b∈ks) (hne:a≠b):kLt a b=true\/kLt b a=true:=by
 rcases one with h | h
 . obtain ⟨i,rfl⟩:=h a ha
   obtain ⟨j,rfl⟩:=h b hb
   have:i≠j:=λ e=>hne (by rw [e])
   show decide (i < j)=true\/decide (j < i)=true
   simp only [decide_eq_true_eq]; omega
 . obtain ⟨x,rfl⟩:=h a ha
   obtain ⟨y,rfl⟩:=h b hb
   show decide (x.cps.toList < y.cps.toList)=true\/decide (y.cps.toList < x.cps.toList)=true
   simp only [decide_eq_true_eq]
   by_cases h1:x.cps.toList < y.cps.toList
   . exact .inl h1
   . by_cases h2:y.cps.toList < x.cps.toList
     . exact .inr h2
     . exact absurd (zrE (List.le_antisymm (List.not_lt.mp h2) (List.not_lt.mp h1))) (λ e=>hne (by rw [e]))
abbrev atK (ks:List Key) (i:Nat):Key:=ks.getD i (Sum.inl 0)
theorem zka {ks:List Key} {i:Nat} (h:i < ks.length):ks[i]?=some (atK ks i):=by
 unfold atK; rw [List.getD_eq_getElem?_getD,List.getElem?_eq_getElem h]; rfl
theorem zen {ks:List Key} {i:Nat} (h:i < ks.length):atK ks i∈ks:=List.mem_of_getElem? (zka h)
theorem ordK {ks:List Key} (nd:ks.Nodup) (one:zdH ks):Ord (λ i j=>kLt (atK ks i) (atK ks j)) ks.length :=
 ⟨λ i=>zps _,λ i j k h1 h2=>zrl h1 h2,λ i j hi hj hne=>zpr one (zen hi) (zen hj) λ e=>hne (by
  have e1:=zka hi
  have e2:=zka hj
  rw [e] at e1
  obtain ⟨_,q1⟩:=List.getElem?_eq_some_iff.mp e1
  obtain ⟨_,q2⟩:=List.getElem?_eq_some_iff.mp e2
  exact (List.getElem_inj (h₀:=hi) (h₁:=hj) nd).mp (q1.trans q2.symm))⟩
section
variable {prog:Program} {w:World} {A:Around} {E:Value->Shared->Prop} {s:Shared}
theorem zpi {k l:Key} {u v:Value} {Q:Bool->Shared->Prop} (one:zdH [k,l]) (hu:RelV (kV k) u) (hv:RelV (kV l) v) (h:Q (kLt k l) s):wpAny (model prog w) A (oneLt' true u v) Q E s:=by
 rcases one with o | o
 . obtain ⟨i,rfl⟩:=o k (by simp)
   obtain ⟨j,rfl⟩:=o l (by simp)
   obtain ⟨t,rfl⟩:=(show ∃ t,u=Value.int i t from hu)
   obtain ⟨t',rfl⟩:=(show ∃ t,v=Value.int j t from hv)
   exact oneLt_int h
 . obtain ⟨x,rfl⟩:=o k (by simp)
   obtain ⟨y,rfl⟩:=o l (by simp)
   obtain ⟨t,rfl⟩:=(show ∃ t,u=Value.str x t from hu)
   obtain ⟨t',rfl⟩:=(show ∃ t,v=Value.str y t from hv)
   exact oneLt_str h
def kTy:List Key->String
 | .inr _::_ => "str"
 | _ => "int"
theorem ty_keys {ks:List Key} (one:zdH ks) {k:Key} (hk:k∈ks) {u:Value} (hu:RelV (kV k) u) (M:Model) (h:Heap):Looks M h (typeOf u) (.type (kTy ks)):=by
 cases ks with
 | nil=>cases hk
 | cons k0 r =>
  rcases one with o | o
  . obtain ⟨i,rfl⟩:=o k hk
    obtain ⟨j,rfl⟩:=o k0 (by simp)
    obtain ⟨t,rfl⟩:=(show ∃ t,u=Value.int i t from hu)
    exact Looks.of_pure rfl
  . obtain ⟨x,rfl⟩:=o k hk
    obtain ⟨y,rfl⟩:=o k0 (by simp)
    obtain ⟨t,rfl⟩:=(show ∃ t,u=Value.str x t from hu)
    exact Looks.of_pure rfl
theorem zng (ks:List Key):kTy ks = "str" \/ kTy ks = "int" := by
 unfold kTy
 split
 . exact .inl rfl
 . exact .inr rfl
def zke (h h':Heap):Prop:=∀ b o,h.get? b=some o->h'.get? b=some o
theorem zoF {a:Addr} {PC:List Value->Heap->Prop} {Q:Value->Shared->Prop}
  (hcol:∀ R:List Value->Shared->Prop,(∀ h' tk vs,zke s.heap h'->PC vs h'->R vs { s with heap:=h',toks:=tk })->wpAny (model prog w) A.in1 (collect (.ref a)) R E s)
  (h64:∀ vs h',PC vs h'->vs.length < 64)
  (hsort : ∀ h' tk vs, zke s.heap h' → PC vs h' → wpAny (model prog w) A.in1.in1 (Builtin.«list.sort» ⟨[.ref h'.objs.size], []⟩) (fun fin s' => fin = .done (.ret .none) ∧ Q (.ref h'.objs.size) s') E { s with heap := h'.push { cls := .type "list", data := .seq vs.toArray }, toks := tk }) :
  wpAny (model prog w) A (call (.builtin "sorted") [.ref a]) Q E s:=by
 refine Calls.call_function_entry kind_sorted plain_sorted entry_sorted (args_sorted1 _) ?_
 unfold Builtin.«sorted»
 refine wpAny_bind (m:=checkCount "sorted" 1 1 _) (wpAny_pure (wpAny_bind (hcol _ λ h' tk vs hk hp=>?_)))
 refine wpAny_bind (wpAny_newList ?_ (by have:=h64 vs h' hp; rw [sizeLine_eq]; omega))
 refine wpAny_bind (wpAny_holding (wpAny_call_entry slot_list_sort ⟨_,Heap.get?_push_size _ rfl,rfl⟩ entry_list_sort ?_ (args_list_sort _)))
 refine wpAny_mono (hsort h' tk vs hk hp) (λ fin s' hq=>?_) λ _ _ z=>z
 obtain ⟨rfl,hq⟩:=hq
 exact ⟨_,rfl,wpAny_pure ⟨_,rfl,hq⟩⟩
end
end L2
end
section
namespace L2
open PySem PySem.Spec PyProof.Rows PySem.W S5
theorem Inv.ztA {X:Cx} {pins:List (Addr×Obj)} {σ:St} {H:Hp} {s:Shared} {a:Addr} (I:Inv X pins σ H s) (hb:∀ b o,s.heap.get? b=some o->b < a):FpOk X pins H a:=by
 have nL:X.env.locals < a:=by
   obtain ⟨m,⟨o,_,_,e,_⟩,_⟩:=I.loc
   exact hb _ _ e
 refine ⟨?_,Nat.ne_of_gt nL,λ z=>?_,.inr (Nat.le_trans I.ok.above (Nat.le_of_lt nL)),λ x c e z=>?_,λ p hp z=>?_⟩
 . cases q:H a with
   | none=>rfl
   | some u =>
    obtain ⟨o,e⟩:=(I.hok a u q).there
    exact absurd (hb _ _ e) (Nat.lt_irrefl _)
 . obtain ⟨_,o,e,_⟩:=I.funs.mem z
   exact absurd (hb _ _ e) (Nat.lt_irrefl _)
 . obtain ⟨v,o,e,_⟩:=I.cell x c e
   subst z
   exact absurd (hb _ _ e) (Nat.lt_irrefl _)
 . have e:=(I.pin p hp).1
   rw [z] at e
   exact absurd (hb _ _ e) (Nat.lt_irrefl _)
theorem range_getD {α:Type} (xs:List α) (d:α):(List.range xs.length).map (λ i=>xs.getD i d)=xs:=by
 apply List.ext_getElem
 . simp
 . intro i h1 h2
   simp [h2]
def zhB {α:Type} (xs:List α) (d:α) (p:Array Nat):List α:=p.toList.map λ i=>xs.getD i d
theorem zfB {α:Type} (xs:List α) (d:α) {p:Array Nat} (h:Arr xs.length p):(zhB xs d p).Perm xs:=by
 have q:=List.Perm.map (λ i=>xs.getD i d) h
 rw [range_getD] at q
 exact q
theorem zkI {α:Type} (xs:List α) (d:α) {lt:α->α->Bool} {p:Array Nat} (h:Arr xs.length p) (u:Up (λ i j=>lt (xs.getD i d) (xs.getD j d)) p xs.length):(zhB xs d p).Pairwise (λ a b=>lt a b=true):=by
 unfold zhB
 rw [List.pairwise_map,List.pairwise_iff_getElem]
 intro i j hi hj hij
 have hs:=h.size
 have hj':j < xs.length:=by rw [Array.length_toList] at hj; omega
 have q:=u i j hij hj'
 have e:∀ k (hk:k < p.toList.length),p.getD k 0=p.toList[k]:=λ k hk=>by
  rw [Array.getD_eq_getD_getElem?,Array.getElem?_eq_getElem (by rw [Array.length_toList] at hk; exact hk)]; simp
 rw [e i hi,e j hj] at q
 exact q
theorem zkl {xs:List V} {vs:List Value} (r:Vals xs vs) {p:Array Nat} (h:Arr xs.length p):Vals (zhB xs .non p) (picked vs p):=by
 have key:∀ l:List Nat,(∀ i∈l,i < xs.length)->Vals (l.map λ i=>xs.getD i .non) (l.map λ i=>vs.getD i Value.none):=λ l=>by
  induction l with
  | nil=>intro _; exact .nil
  | cons i t ih =>
   intro hl
   have hi:i < xs.length:=hl i (by simp)
   obtain ⟨u,e1,e2⟩:=r.get (List.getElem?_eq_getElem hi)
   refine .cons ?_ (ih λ j hj=>hl j (List.mem_cons_of_mem _ hj))
   show RelV (xs.getD i V.non) (vs.getD i Value.none)
   rw [List.getD_eq_getElem?_getD,List.getElem?_eq_getElem hi,List.getD_eq_getElem?_getD,e1]
   exact e2
 exact key p.toList λ i hi=>List.mem_range.mp (h.mem_iff.mp hi)
theorem zm2 {α:Type} (f:α->V) (xs:List α) (d:α) {p:Array Nat} (h:Arr xs.length p):zhB (xs.map f) .non p=(zhB xs d p).map f:=by
 unfold zhB
 rw [List.map_map]
 refine List.map_congr_left λ i hi=>?_
 have hi':i < xs.length:=List.mem_range.mp (h.mem_iff.mp hi)
 show (xs.map f).getD i .non=f (xs.getD i d)
 rw [List.getD_eq_getElem?_getD,List.getD_eq_getElem?_getD,List.getElem?_map,List.getElem?_eq_getElem hi']
 rfl
def KSrc (K:Frag) (H:Hp) (p:Addr) (ks:List Key):Prop:=SqL K H p (ks.map kV)\/∃ kvs:List (Key×V),H p=some (.dK kvs)/\kvs.map (·.1)=ks
theorem zey {ks:List Key} {vs:List Value} (r:Vals (ks.map kV) vs) {i:Nat} (hi:i < ks.length):RelV (kV (atK ks i)) (vs.getD i Value.none):=by
 have e:(ks.map kV)[i]?=some (kV (atK ks i)):=by rw [List.getElem?_map,zka hi]; rfl
 obtain ⟨u,e1,e2⟩:=r.get e
 rw [List.getD_eq_getElem?_getD,e1]
 exact e2
theorem zo7 {ks:List Key} (one:zdH ks) {a b:Key} (ha:a∈ks) (hb:b∈ks):zdH [a,b]:=by
 rcases one with o | o
 . exact .inl λ k hk=>by
    rcases List.mem_cons.mp hk with z | z
    . rw [z]; exact o a ha
    . have:k=b:=by simpa using z
      rw [this]; exact o b hb
 . exact .inr λ k hk=>by
    rcases List.mem_cons.mp hk with z | z
    . rw [z]; exact o a ha
    . have:k=b:=by simpa using z
      rw [this]; exact o b hb
section
variable {X:Cx}
theorem zg0 (hc:X.calm=true):zis X (.builtin "sorted") (λ xs H Q=>∃ p ks,xs=[.ref p]/\KSrc X.K H p ks/\ks.Nodup/\zdH ks/\ks.length < 64 /\
   ∀ (ys:List Key) (l:Addr),ys.Perm ks->ys.Pairwise (λ a b=>kLt a b=true)->H l=none->Q (.ref l) (upd H l (.lst (ys.map kV)))):=by
 intro pins s σ H xs us Q I r h
 obtain ⟨p,ks,rfl,src,nd,one,h64,h⟩:=h
 obtain ⟨u,rfl,ru⟩:=Vals.one r
 cases ru
 refine zoF (PC:=λ vs _=>Vals (ks.map kV) vs) (λ R hR=>?_) (λ vs _ hv=>by rw [<-hv.length,List.length_map]; exact h64) (λ h' tk vs hk hv=>?_)
 . rcases src with hq | ⟨kvs,hd,hks⟩
   . obtain ⟨its,rv,pl,hz⟩:=I.list hq
     refine collect_list pl.isList (hR _ s.toks its (λ b o e=>?_) rv) (by rw [<-rv.length]; exact hz)
     have hb:=Heap.lt_size e
     rw [Heap.get?_update_other _ _ (Nat.ne_of_gt hb)]
     exact Heap.get?_push_of_some _ e
   . obtain ⟨z,lo,vs,rel,dd⟩:=zlo I.hok hd
     obtain ⟨ep,hat⟩:=dd.dictAt
     refine kdu_collect (A:=X.A.in1) (kdl_dict (knd:=zaO X.prog X.w) (kvs:=vs) (ep:=ep) lo) (I.ok.hd hc) hat (by rw [<-rel.length]; exact z) λ h' tk acc hk hacc=>hR h' tk acc.toList hk ?_
     have hl:acc.toList.length=ks.length:=by rw [Array.length_toList,hacc.1,<-rel.length,<-hks,List.length_map]
     have key:∀ (l1:List Key) (l2:List Value) (off:Nat),l2.length=l1.length->(∀ j v,l2[j]?=some v->∃ k,l1[j]?=some k/\RelV (kV k) v)->Vals (l1.map kV) l2:=λ l1=>by
       induction l1 with
       | nil=>intro l2 _ hl2 _; cases l2 with
         | nil=>exact .nil
         | cons _ _=>simp at hl2
       | cons k t ih =>
         intro l2 off hl2 hj
         cases l2 with
         | nil=>simp at hl2
         | cons v t2 =>
          obtain ⟨k',e1,e2⟩:=hj 0 v rfl
          have:k=k':=Option.some.inj e1
          subst this
          exact .cons e2 (ih t2 off (by simpa using hl2) λ j w hw=>hj (j+1) w (by simpa using hw))
     refine key ks acc.toList 0 hl λ j v hj=>?_
     obtain ⟨k,x,e1,e2⟩:=hacc.2 j v (by rw [<-Array.getElem?_toList]; exact hj)
     refine ⟨k,?_,?_⟩
     . rw [<-hks,KV.keys rel,List.getElem?_map,e1]; rfl
     . rcases zaZ (show ziG k v=true from e2) with ⟨i,t,rfl,rfl⟩ | ⟨x',t,rfl,rfl⟩
       . exact ⟨t,rfl⟩
       . exact ⟨t,rfl⟩
 . have hl:vs.length=ks.length:=by rw [<-hv.length,List.length_map]
   have O:=ordK nd one
   rw [<-hl] at O
   refine zoH (s:={ s with heap:=h'.push { cls:=.type "list",data:=.seq vs.toArray },toks:=tk }) (κ:=oneType') (c:=0) (Heap.get?_push_size _ rfl) (by rw [hl]; exact h64) O (λ h1 _ h2 Qk hq=>?_) (λ h1 _ i j hi hj hne Qb hq=>?_) (λ q h3 c' hp hu hkb hg=>⟨rfl,?_⟩)
   . refine kas_kind (T:=.type (kTy ks)) h2 (λ v hvm=>?_) ?_ ?_ hq
     . obtain ⟨i,hi⟩:=List.mem_iff_getElem?.mp hvm
       have hi':i < ks.length:=by rw [<-hl]; exact (List.getElem?_eq_some_iff.mp hi).1
       have:=zey hv hi'
       rw [List.getD_eq_getElem?_getD,hi] at this
       exact ty_keys one (zen hi') this _ _
     . rcases zng ks with z | z <;> rw [z] <;> decide
     . rcases zng ks with z | z <;> rw [z] <;> decide
   . rw [keyLt'_oneType]
     rw [hl] at hi hj
     exact zpi (zo7 one (zen hi) (zen hj)) (zey hv hi) (zey hv hj) hq
   . rw [hl] at hp hu
     have keepAll:∀ b o,s.heap.get? b=some o->h3.get? b=some o:=λ b o e=>hkb b o (Nat.ne_of_lt (Heap.lt_size (hk b o e))) (Heap.get?_push_of_some _ (hk b o e))
     have I1:Inv X pins σ H { s with heap:=h3,toks:=tk }:=I.kept keepAll
     have fp:=I.ztA (a:=h'.objs.size) λ b o e=>Heap.lt_size (hk b o e)
     have vp:=zkl hv (p:=q) (by rw [List.length_map]; exact hp)
     rw [zm2 kV ks (Sum.inl 0) hp] at vp
     have lp:(zhB ks (Sum.inl 0) q).length=ks.length:=(zfB ks (Sum.inl 0) hp).length_eq
     refine ⟨.ref h'.objs.size,upd H h'.objs.size (.lst ((zhB ks (Sum.inl 0) q).map kV)),?_,rfl,h _ _ (zfB ks _ hp) (zkI ks _ hp hu) fp.1⟩
     have f2:FpOk X pins H h'.objs.size:=fp
     exact I1.zsC f2 ⟨by rw [List.length_map,lp,sizeLine_eq]; omega,picked vs q,c',vp,hg⟩
end
end L2
end
section
namespace L2
open PySem PySem.Spec PySem.W PyProof.Rows S5
section
variable {X:Cx} {x:Str} {pos:Pos}
theorem zcr {y:Str} (hg:Gl X x) (hm:∃ t,X.mg x=some (.str y t)) (hd:(x == ("__debug__" : Str))=false:=by decide):PE X (.Name x pos) (tC (.str y)):=by
 obtain ⟨t,e⟩:=hm
 exact zjE hg e ⟨t,rfl⟩ hd
theorem zt6 {i:Int} (hg:Gl X x) (hm:∃ t,X.mg x=some (.int i t)) (hd:(x == ("__debug__" : Str))=false:=by decide):PE X (.Name x pos) (tC (.int i)):=by
 obtain ⟨t,e⟩:=hm
 exact zjE hg e ⟨t,rfl⟩ hd
end
mutual
inductive DV (H:Hp):V->Dat->Prop
 | non:DV H .non .none
 | int (i:Int):DV H (.int i) (.int i)
 | str (x:Str):DV H (.str x) (.str x)
 | tup {p:Addr} {vs:List V} {ds:List Dat}:H p=some (.tup vs)->DVs H vs ds->DV H (.ref p) (.tuple ds)
 | lst {p:Addr} {vs:List V} {ds:List Dat}:H p=some (.lst vs)->DVs H vs ds->DV H (.ref p) (.list ds)
inductive DVs (H:Hp):List V->List Dat->Prop
 | nil:DVs H [] []
 | cons {v:V} {vs:List V} {d:Dat} {ds:List Dat}:DV H v d->DVs H vs ds->DVs H (v::vs) (d::ds)
end
section
variable {P:Program} {w:World} {H:Hp} {h:Heap}
mutual
theorem DV.reads (hok:HOk P w H h):∀ {v:V} {d:Dat} {u:Value},DV H v d->RelV v u->∃ as,Reads h u (kqdP d) as
 | _,_,_,.non,r=>by cases r; exact ⟨_,.none⟩
 | _,_,_,.int i,r=>by obtain ⟨t,rfl⟩:=r; exact ⟨_,.int i t⟩
 | _,_,_,.str x,r=>by obtain ⟨t,rfl⟩:=r; exact ⟨_,.str x t⟩
 | _,_,_,.tup e q,r=>by
  cases r
  obtain ⟨_,its,rv,o,ho,hc,n,hd⟩:=hok _ _ e
  obtain ⟨as,ra⟩:=DVs.reads hok q rv
  rw [kqdP]
  exact ⟨_,.tuple ho hc hd (by simpa using ra)⟩
 | _,_,_,.lst e q,r=>by
  cases r
  obtain ⟨_,its,n,rv,ho⟩:=hok _ _ e
  obtain ⟨as,ra⟩:=DVs.reads hok q rv
  rw [kqdP]
  exact ⟨_,.list ho rfl rfl (by simpa using ra)⟩
theorem DVs.reads (hok:HOk P w H h):∀ {vs:List V} {ds:List Dat} {us:List Value},DVs H vs ds->Vals vs us->∃ as,ReadsAll h us (kqdPs ds) as
 | _,_,_,.nil,r=>by cases r; exact ⟨_,.nil⟩
 | _,_,_,.cons a b,r=>by
  cases r with
  | cons r1 r2 =>
   obtain ⟨as,q⟩:=DV.reads hok a r1
   obtain ⟨bs,q'⟩:=DVs.reads hok b r2
   rw [kqdPs]
   exact ⟨_,.cons q q'⟩
end
theorem DVs.length {H:Hp}:∀ {vs:List V} {ds:List Dat},DVs H vs ds->vs.length=ds.length
 | _,_,.nil=>rfl
 | _,_,.cons _ r=>congrArg (·+1) (DVs.length r)
mutual
theorem DV.mono {H H':Hp} (h:∀ b o,H b=some o->H' b=some o):∀ {v:V} {d:Dat},DV H v d->DV H' v d
 | _,_,.non=>.non
 | _,_,.int i=>.int i
 | _,_,.str x=>.str x
 | _,_,.tup e q=>.tup (h _ _ e) (DVs.mono h q)
 | _,_,.lst e q=>.lst (h _ _ e) (DVs.mono h q)
theorem DVs.mono {H H':Hp} (h:∀ b o,H b=some o->H' b=some o):∀ {vs:List V} {ds:List Dat},DVs H vs ds->DVs H' vs ds
 | _,_,.nil=>.nil
 | _,_,.cons a b=>.cons (DV.mono h a) (DVs.mono h b)
end
end
abbrev zmp (d:Dat):Prop:=kqdOk 8 d=true
open Classical in
theorem zso {d e:Dat} (hd:zmp d) (he:zmp e):PyData.eqv (kqdP d) (kqdP e)=decide (d=e):=by
 have q:=kqd_eqv 8 d e 8 hd he
 by_cases h:d=e
 . rw [decide_eq_true h]; exact q.mpr h
 . rw [decide_eq_false h]; exact Bool.eq_false_iff.mpr λ z=>h (q.mp z)
theorem zja {d:Dat} (hd:zmp d):SeqAt.shaped (kqdP d)=true:=by
 have l:=kqd_lay 8 d hd
 unfold SeqAt.shaped; rw [l.1,Bool.true_and]; exact decide_eq_true (Nat.le_trans l.2 (by decide))
section
variable {X:Cx}
open Classical in
noncomputable def rEqD:R2:=λ x y H Q=>∃ d e,DV H x d/\DV H y e/\zmp d/\zmp e/\Q (.bl (decide (d=e))) H
open Classical in
theorem ztk (hu:X.A.units+64 < cLine):OpR X (compareOp .Eq) rEqD:=by
 intro pins s σ H x y v u Q I rx ry h
 obtain ⟨d,e,hd,he,kd,ke,q⟩:=h
 obtain ⟨as,ra⟩:=hd.reads I.hok rx
 obtain ⟨bs,rb⟩:=he.reads I.hok ry
 exact eq_dataH ra rb (zja kd) (zja ke) hu (by rw [zso kd ke]; exact ⟨.bl _,H,I,rfl,q⟩)
theorem hu64 {A:Around} {k:Nat} (hr:Room k A):A.units+64 < cLine:=hr.units
end
end L2
end
section
namespace L2
open PySem PySem.Spec PySem.W PyProof.Rows S5
section
variable {X:Cx}
theorem zif:zis X (.builtin "isinstance") (λ xs H Q=>∃ x c t b,xs=[x,.ty c]/\TyOf X.K H x t/\kitOne X.K t (.type c)=some b/\Q (.bl b) H):=by
 intro pins s σ H xs us Q I r h
 obtain ⟨x,c,t,b,rfl,ty,e,q⟩:=h
 obtain ⟨u,v,rfl,ru,rv⟩:=Vals.two r
 cases rv
 exact zpv I ru ty e λ tk=>⟨.bl b,H,I.tok tk,rfl,q⟩
def zqq:V->List V->Hp->VK->Prop:=λ x vs H Q=>∃ l xs y,x=.ref l/\vs=[.int 0,y]/\H l=some (.lst xs)/\xs.length < sizeLine/\Q .non (upd H l (.lst (y::xs)))
theorem zpf:MtR X "list.insert" zqq:=by
 intro pins s σ H x vs v us Q I rx rv h
 obtain ⟨l,xs,y,rfl,rfl,hH,hz,q⟩:=h
 cases rx
 obtain ⟨u1,u,rfl,r1,ru⟩:=Vals.two rv
 obtain ⟨t,rfl⟩:=r1
 obtain ⟨z,its,n,r,hl,e⟩:=I.lstM hH
 refine call_meets F.slot_list_insert ⟨_,e,rfl⟩ F.entry_list_insert (F.args_list_insert_3 _ _ _) (AutoSeq1.list_insert_list_int_val_1 l its.toArray n 0 t u (by decide) (by rw [List.size_toArray]; omega)) ⟨e,?_⟩
 refine ⟨.non,_,I.lset (its':=u::its) hH e ?_ (.cons ru r) ?_,rfl,q⟩
 . simp
 . rw [List.length_cons]; omega
def zsy (ds:List Dat) (e:Dat) (j:Nat):Prop:=ds[j]?=some e/\∀ m < j,∀ d,ds[m]?=some d->d≠e
def zs9:V->List V->Hp->VK->Prop:=λ x vs H Q=>∃ l xs y ds e j,x=.ref l/\vs=[y]/\H l=some (.lst xs)/\DVs H xs ds/\DV H y e/\(∀ d∈ds,kqdOk 7 d=true)/\kqdOk 7 e=true/\zsy ds e j/\Q (.int j) H
theorem zpM {H:Hp}:∀ {vs:List V} {ds:List Dat} {j:Nat} {d:Dat},DVs H vs ds->ds[j]?=some d->∃ v,vs[j]?=some v/\DV H v d
 | _,_,_,_,.nil,e=>by simp at e
 | _,_,0,_,.cons a _,e=>by simp at e; subst e; exact ⟨_,rfl,a⟩
 | _,_,j+1,_,.cons _ r,e=>by
  obtain ⟨v,h1,h2⟩:=zpM (j:=j) r (by simpa using e)
  exact ⟨v,by simpa using h1,h2⟩
theorem zev {d:Dat} (h:kqdOk 7 d=true):kqdOk 8 d=true:=by
 have all:∀ n d,kqdOk n d=true->kqdOk (n+1) d=true:=λ n=>by
  induction n with
  | zero=>intro d h; cases d <;> simp_all [kqdOk]
  | succ n ih =>
   intro d h
   cases d with
   | tuple ds=>simp only [kqdOk,List.all_eq_true] at h ⊢; exact λ x hx=>ih x (h x hx)
   | list ds=>simp only [kqdOk,List.all_eq_true] at h ⊢; exact λ x hx=>ih x (h x hx)
   | _=>simp_all [kqdOk]
 exact all 7 d h
theorem zqC (hu:X.A.units+64 < cLine):MtR X "list.index" zs9:=by
 intro pins s σ H x vs v us Q I rx rv h
 obtain ⟨l,xs,y,ds,e,j,rfl,rfl,hH,hds,he,kds,ke,⟨hj,hno⟩,q⟩:=h
 cases rx
 obtain ⟨u,rfl,ru⟩:=Vals.one rv
 obtain ⟨z,its,n,r,hl,eo⟩:=I.lstM hH
 obtain ⟨as,ra⟩:=hds.reads I.hok r
 obtain ⟨bs,rb⟩:=he.reads I.hok ru
 have lay:=kqd_lay 8 (.list ds) (by simp only [kqdOk,List.all_eq_true]; exact kds)
 rw [kqdP] at lay
 have lays:PyData.canLayAll0 (kqdPs ds)=true:=by
   have:=lay.1
   simpa [PyData.canLay0] using this
 have dep:PyData.depthAll (kqdPs ds)<=8:=by
   have:=lay.2
   simp only [PyData.depth] at this
   omega
 have laye:=kqd_lay 8 e (zev ke)
 have jl:j < its.length:=by
   have:=(List.getElem?_eq_some_iff.mp hj).1
   have h2:=hds.length
   omega
 have eqs:∀ (y':Value) (hy:y'∈its.toArray) (A':Around),A'.units<=X.A.units+40->SeqAt.EqAt A'.in1 s y' u (PyData.eqv (SeqAt.readOf s.heap y') (kqdP e)):=λ y' hy A' hA =>
   SeqAt.items_eqAt (by simpa using ra) rb lays laye.1 (by have:=Nat.min_le_right (PyData.depthAll (kqdPs ds)) (kqdP e).depth; omega) y' hy
 have at_:∀ (m:Nat) (hm:m < its.length) (d:Dat),ds[m]?=some d->SeqAt.readOf s.heap its[m]=kqdP d:=λ m hm d hd=>by
   obtain ⟨vm,h1,h2⟩:=zpM hds hd
   obtain ⟨um,h3,h4⟩:=r.get h1
   have:its[m]=um:=by
    rw [List.getElem?_eq_getElem hm] at h3
    exact Option.some.inj h3
   obtain ⟨cs,rc⟩:=h2.reads I.hok h4
   rw [this]
   exact SeqAt.readOf_eq (kqd_lay 8 d (zev (kds d (List.mem_of_getElem? hd)))).1 rc
 refine call_meets F.slot_list_index ⟨_,eo,rfl⟩ F.entry_list_index (F.args_list_index_2 _ _)
   (SeqAt.list_indexAt l its.toArray n none #[] u (λ y'=>PyData.eqv (SeqAt.readOf s.heap y') (kqdP e)) j (by simpa using jl) ?_ ?_ ?_) ⟨eo,λ y' hy=>eqs y' hy _ (by first | exact Nat.le_add_right _ _ | omega),⟨.int j,H,I.tok _,⟨_,rfl⟩,q⟩⟩
 . have:=z
   rw [hl,sizeLine_eq] at this
   omega
 . show PyData.eqv (SeqAt.readOf s.heap its[j]) (kqdP e)=true
   rw [at_ j jl e hj]
   exact (kqd_eqv 8 e e 8 (zev ke) (zev ke)).mpr rfl
 . intro m hm hmj
   have hm':m < its.length:=by simpa using hm
   have hmd:m < ds.length:=by have h2:=hds.length; omega
   show PyData.eqv (SeqAt.readOf s.heap its[m]) (kqdP e)=false
   rw [at_ m hm' ds[m] (List.getElem?_eq_getElem hmd)]
   refine Bool.eq_false_iff.mpr λ z=>hno m hmj ds[m] (List.getElem?_eq_getElem hmd) ((kqd_eqv 8 _ e 8 (zev (kds _ (List.getElem_mem hmd))) (zev ke)).mp z)
end
end L2
end
section
namespace L2
open PySem PySem.Spec PySem.W PyProof.Rows S5
def zsI (td ty tx:TE):TE:=λ σ H Q=>td σ H λ x H1=>∃ a,x=.ref a/\IsD H1 a/\ty σ H1 λ y H2=>tx σ H2 λ z H3=>∃ kvs k,H3 a=some (.dK kvs)/\y=kV k/\kvs.length < sizeLine /\
 (∀ v,valV kvs k=some v->Q v H3)/\(valV kvs k=none->Q z (upd H3 a (.dK (putK kvs k z))))
section
variable {X:Cx} {o e f:Expr} {apos cpos:Pos} {td ty tx:TE}
theorem zqw (ho:PE X o td) (he:PE X e ty) (hf:PE X f tx) (m:M2 X o "setdefault" apos e f cpos):PE X (.Call (.Attribute o "setdefault" apos) [e,f] [] cpos) (zsI td ty tx):=by
 intro pins s σ H Q I h
 refine wpAny_Call_method m.base m.few m.line PySem.F.plainAttrs_dict PySem.F.slot_dict_setdefault PySem.F.type_dict_setdefault (thn (ho pins s σ H _ I h) λ u s1 ⟨x,H1,I1,rx,a,ex,d,q1⟩=>?_)
 subst ex
 obtain rfl:u=Value.ref a:=rx
 obtain ⟨t1,t2,_⟩:=znj I1 d
 refine ⟨t1,t2,?_⟩
 rw [m.trees]
 refine Calls.callWith_builtin rfl (Calls.evalArgs_plain (Calls.spliced_cons (thn (he pins s1 σ H1 _ I1 q1) λ iv s2 ⟨y,H2,I2,ry,q2⟩ =>
   Calls.spliced_cons (thn (hf pins s2 σ H2 _ I2 q2) λ fv s3 ⟨z,H3,I3,rz,kvs,k,ea,ey,hl,q3,q4⟩=>Calls.spliced_nil ?_))))
 subst ey
 obtain ⟨hz,hd,vs,rel,dd⟩:=zlo I3.hok ea
 refine call_meetsIn PySem.F.slot_dict_setdefault dd.typeIs PySem.F.entry_dict_setdefault (PySem.F.args_dict_setdefault_3 _ _ _) (kt_meets_setdefault (zaO X.prog X.w) a (zh1 ry) hd fv) ⟨vs,dd,by rw [<-rel.length]; exact hz,λ v' hv=>?_,λ hn h' dd' hs=>?_⟩
 . cases l:valV kvs k with
   | none =>
    have:=RelO.none_of (o:=valueAt vs k) (by rw [<-l]; exact rel.val k)
    rw [this] at hv; cases hv
   | some v =>
    obtain ⟨w',hw,rw'⟩:=RelO.some_of (v:=v) (o:=valueAt vs k) (by rw [<-l]; exact rel.val k)
    rw [hw] at hv; cases hv
    exact ⟨v,H3,I3.tok _,rw',q3 v l⟩
 . have l:valV kvs k=none:=by
    cases l:valV kvs k with
    | none=>rfl
    | some v =>
     obtain ⟨w',hw,_⟩:=RelO.some_of (v:=v) (o:=valueAt vs k) (by rw [<-l]; exact rel.val k)
     rw [hw] at hn; cases hn
   have hl2:(putK kvs k z).length<=sizeLine:=by have:=zfg kvs k z; omega
   have he2:∃ q,h'.get? a=some q:=let ⟨q,_,_,hq,_⟩:=dd'; ⟨q,hq⟩
   exact ⟨z,_,zib I3 (by rw [ea]; exact True.intro) hs he2 (znq hl2 hd (rel.put k rz) dd'),rz,q4 l⟩
end
section
variable {X:Cx}
def rJoin:V->List V->Hp->VK->Prop:=λ x vs H Q=>∃ sep l ys,x=.str sep/\vs=[.ref l]/\H l=some (.lst (ys.map V.str))/\(ys.map (·.length)).sum+ys.length * sep.length<=16777216/\Q (.str (Txt.join sep ys)) H
theorem zmV:∀ {ys:List Str} {us:List Value},Vals (ys.map V.str) us->StrsAre us ys
 | [],_,.nil=>.nil
 | y::r,_,.cons q t=>by obtain ⟨k,rfl⟩:=q; exact .cons y k (zmV t)
theorem zpe:MtR X "str.join" rJoin:=by
 intro pins s σ H x vs v us Q I rx rv h
 obtain ⟨sep,l,ys,rfl,rfl,hH,hok,q⟩:=h
 obtain ⟨t,rfl⟩:=rx
 obtain ⟨u,rfl,ru⟩:=Vals.one rv
 cases ru
 obtain ⟨z,its,n,r,hl,e⟩:=I.lstM hH
 exact join_list ⟨_,e,rfl,n,rfl⟩ (by simpa using zmV r) hok λ t' k=>⟨.str _,H,I.tok _,⟨_,rfl⟩,q⟩
end
section
variable {X:Cx} {pins:List (Addr×Obj)} {σ:St} {H:Hp} {s:Shared} {a:Addr} {kvs:List (Key×V)} {o:Obj}
theorem zro {P:Program} {w:World} {H:Hp} {h:Heap} {a:Addr} {u v:HO} (ok:HOk P w H h) (e:H a=some v) (nt:∀ xs,v≠.tup xs) (no:∀ y,v≠.own y) (new:zbY P w (upd H a u) h a u):HOk P w (upd H a u) h:=λ b x q=>by
 by_cases hb:b=a
 . subst hb; rw [zab] at q; cases q; exact new
 . rw [zaf hb] at q
   refine (ok b x q).stay (λ _ _ _ z=>z) (λ c z=>?_) λ c xs z=>?_
   . rw [zaf λ k=>by rw [k,e] at z; cases z; exact no _ rfl]; exact z
   . rw [zaf λ k=>by rw [k,e] at z; cases z; exact nt _ rfl]; exact z
theorem Inv.freeze (I:Inv X pins σ H s) (e:H a=some (.dK kvs)):∃ o,s.heap.get? a=some o/\Inv X pins σ (upd H a (.frz o (.dK kvs))) s:=by
 obtain ⟨hz,hd,vs,rel,ob,es,ep,ho,r⟩:=I.hok a _ e
 have ne:∀ b,H b=none->b≠a:=λ b z k=>by rw [k,e] at z; cases z
 refine ⟨ob,ho,I.ok,I.os,I.bare,⟨I.base.keep,I.base.slot,λ b o h1 h2 h3=>?_,I.base.there,λ b xs h1=>?_,λ b o u h1=>?_,λ b ps h1=>?_⟩,I.loc,I.cell,?_,λ x c h1=>?_,λ p hp=>?_,?_,I.len⟩
 . have z:=I.base.free b o h1 h2 h3
   rw [zaf (ne b z)]; exact z
 . have z:=I.base.tups b xs h1
   rw [zaf λ k=>by rw [k,e] at z; cases z]; exact z
 . have z:=I.base.frzs b o u h1
   rw [zaf λ k=>by rw [k,e] at z; cases z]; exact z
 . obtain ⟨more,z⟩:=I.base.tbls b ps h1
   exact ⟨more,by rw [zaf λ k=>by rw [k,e] at z; cases z]; exact z⟩
 . rw [zaf (ne _ I.free)]; exact I.free
 . have z:=I.zdg x c h1
   rw [zaf (ne _ z)]; exact z
 . obtain ⟨h1,h2,h3⟩:=I.pin p hp
   exact ⟨h1,by rw [zaf (ne _ h2)]; exact h2,h3⟩
 . exact zro I.hok e (λ _ z=>nomatch z) (λ _ z=>nomatch z) ⟨ho,hz,hd,vs,rel,ob,es,ep,ho,r⟩
theorem Inv.thaw (I:Inv X pins σ H s) (e:H a=some (.frz o (.dK kvs))) (h0:∀ ob u,X.H₀ a≠some (.frz ob u)):Inv X pins σ (upd H a (.dK kvs)) s:=by
 obtain ⟨ho,dk⟩:=I.hok a _ e
 have ne:∀ b,H b=none->b≠a:=λ b z k=>by rw [k,e] at z; cases z
 refine ⟨I.ok,I.os,I.bare,⟨I.base.keep,I.base.slot,λ b o h1 h2 h3=>?_,I.base.there,λ b xs h1=>?_,λ b o u h1=>?_,λ b ps h1=>?_⟩,I.loc,I.cell,?_,λ x c h1=>?_,λ p hp=>?_,?_,I.len⟩
 . have z:=I.base.free b o h1 h2 h3
   rw [zaf (ne b z)]; exact z
 . have z:=I.base.tups b xs h1
   rw [zaf λ k=>by rw [k,e] at z; cases z]; exact z
 . have z:=I.base.frzs b o u h1
   rw [zaf λ k=>by rw [k] at h1; exact h0 _ _ h1]; exact z
 . obtain ⟨more,z⟩:=I.base.tbls b ps h1
   exact ⟨more,by rw [zaf λ k=>by rw [k,e] at z; cases z]; exact z⟩
 . rw [zaf (ne _ I.free)]; exact I.free
 . have z:=I.zdg x c h1
   rw [zaf (ne _ z)]; exact z
 . obtain ⟨h1,h2,h3⟩:=I.pin p hp
   exact ⟨h1,by rw [zaf (ne _ h2)]; exact h2,h3⟩
 . refine zro I.hok e (λ _ z=>nomatch z) (λ _ z=>nomatch z) ?_
   obtain ⟨hz,hd,vs,rel,r⟩:=dk
   exact ⟨hz,hd,vs,rel,r⟩
theorem Inv.ztn (I:Inv X pins σ H s) (e:H a=some (.dK kvs)):∀ ob u,X.H₀ a≠some (.frz ob u):=λ ob u z=>by
 have:=I.base.frzs a ob u z
 rw [e] at this; cases this
end
def Itk (a:Addr) (o:Obj) (kvs:List (Key×V)):It :=
 ⟨λ i H=>i < kvs.length/\H a=some (.frz o (.dK kvs)),λ i H x H'=>H'=H/\∃ k v,kvs[i]?=some (k,v)/\x=kV k,λ i H=>kvs.length<=i/\H a=some (.frz o (.dK kvs))⟩
def epOf (o:Obj):Nat:=match o.data with | .dict _ ep=>ep | _=>0
theorem zmn {P:Program} {w:World} {H:Hp} {h:Heap} {a:Addr} {o:Obj} {kvs:List (Key×V)} (ok:HOk P w H h) (e:H a=some (.frz o (.dK kvs))):(a == sysModules)=false/\∃ vs,KV kvs vs/\h.DictAt (zaO P w) a vs (epOf o)/\vs.length=kvs.length:=by
 obtain ⟨ho,hz,hd,vs,rel,ob,es,ep,ho',hx,hdt,r⟩:=ok a _ e
 rw [ho] at ho'; cases ho'
 have:epOf o=ep:=by unfold epOf; rw [hdt]
 exact ⟨hd,vs,rel,⟨o,es,ho,hx,by rw [this]; exact hdt,r⟩,rel.length.symm⟩
theorem zov {P:Program} {w:World} {K:PySem.W.Frag} {tg:Expr} (a it:Addr) (o:Obj) (kvs:List (Key×V)):Turn P w K tg (Itk a o kvs) [it] it (λ i h=>h.IsKeyIter it a i kvs.length (epOf o)) where
 mem:=by simp
 obj:=λ i h st b hb=>by
  have e:b=it:=by simpa using hb
  subst e
  obtain ⟨ob,e,c,d⟩:=st
  exact ⟨ob,e,λ v z=>by rw [d] at z; cases z⟩
 keep:=λ i h h' st k=>st.at λ ob e=>k it (by simp) ob e
 item:=by
  intro X hP hw hK hc i pins s σ H E I hf st hg
  subst hP hw hK
  obtain ⟨hlt,hH⟩:=hg
  obtain ⟨lo,vs,rel,dat,hl⟩:=zmn I.hok hH
  obtain ⟨f0,f1,f2,f3,f4,f5⟩:=hf it (by simp)
  obtain ⟨⟨k,x⟩,hx⟩:∃ q,vs[i]?=some q:=⟨_,List.getElem?_eq_getElem (by omega)⟩
  rw [<-hl] at st
  refine wpAny_pyNext_dict_item st dat hx λ key h' hkey st' sb=>?_
  have I1:Inv X pins σ H { s with heap:=h' }:=I.turned (t':=s.toks) (λ b ob hb e=>(sb.2 b hb).trans e) f0 f1 f3 f4 f5
  obtain ⟨ob,e1,c1,d1⟩:=id st'
  obtain ⟨⟨k',v⟩,hkv⟩:∃ q,kvs[i]?=some q:=⟨_,List.getElem?_eq_getElem hlt⟩
  have hk:k'=k:=by
    have e2:=congrArg (λ l=>l[i]?) (KV.keys rel)
    simp only [List.getElem?_map,hkv,hx] at e2
    exact Option.some.inj e2
  subst hk
  rw [hl] at st'
  refine ⟨key,rfl,zqP (s:={ s with heap:=h' }) e1 c1 d1 (by decide) ⟨kV k',H,I1,?_,⟨rfl,k',v,hkv,rfl⟩,st',λ b hb=>(hf b hb).1⟩⟩
  rcases zaZ (show ziG k' key=true from hkey) with ⟨n,t,rfl,rfl⟩ | ⟨y,t,rfl,rfl⟩
  . exact ⟨t,rfl⟩
  . exact ⟨t,rfl⟩
 done:=by
  intro X hP hw hK hc i pins s σ H E I hf st hg
  subst hP hw hK
  obtain ⟨hle,hH⟩:=hg
  obtain ⟨lo,vs,rel,dat,hl⟩:=zmn I.hok hH
  obtain ⟨f0,f1,f2,f3,f4,f5⟩:=hf it (by simp)
  rw [<-hl] at st
  exact wpAny_pyNext_dict_end (I.ok.hd hc) st dat (List.getElem?_eq_none_iff.mpr (by omega)) λ h' eb=>⟨rfl,I.turned (t':=s.toks) (λ b ob hb e=>eb b ob hb e) f0 f1 f3 f4 f5⟩
 self:=λ _ _ _ _ _ st h=>wpAny_pyIter_keyiter st h
def zue (tl:TE):TI:=λ σ H R=>tl σ H λ x H1=>∃ a kvs,x=.ref a/\H1 a=some (.dK kvs)/\∀ o,R (Itk a o kvs) (upd H1 a (.frz o (.dK kvs)))
section
variable {X:Cx} {tg l:Expr} {tl:TE}
theorem zrY (hl:PE X l tl):PI X tg l (zue tl):=by
 intro pins s σ H R I h
 refine thn (hl pins s σ H _ I h) λ u s1 ⟨x,H1,I1,rx,a,kvs,ex,ea,q⟩=>?_
 subst ex
 obtain rfl:u=Value.ref a:=rx
 obtain ⟨o,ho,I2⟩:=I1.freeze ea
 obtain ⟨lo,vs,rel,dat,hlen⟩:=zmn I2.hok zab
 refine wpAny_pyIter_dict lo dat ?_
 have hf:=I2.fresh
 refine ⟨s1.heap.objs.size,[s1.heap.objs.size],_,Itk a o kvs,upd H1 a (.frz o (.dK kvs)),rfl,I2.kept (t':=s1.toks) (λ b ob e=>Heap.get?_push_of_some _ e),zov a _ o kvs,?_,λ b hb=>?_,q o⟩
 . show Heap.IsKeyIter _ s1.heap.objs.size a 0 kvs.length (epOf o)
   rw [<-hlen]
   exact ⟨_,Heap.get?_push_size _ rfl,rfl,rfl⟩
 . have e:b=s1.heap.objs.size:=by simpa using hb
   rw [e]
   exact I2.fpOk (Nat.le_refl _) hf
def zt4 (t:TS):TS:=λ D σ H=>t { nx:=λ σ' H2=>∃ a o kvs,H a=some (.dK kvs)/\H2 a=some (.frz o (.dK kvs))/\D.nx σ' (upd H2 a (.dK kvs)),rt:=λ v H2=>∃ a o kvs,H a=some (.dK kvs)/\H2 a=some (.frz o (.dK kvs))/\D.rt v (upd H2 a (.dK kvs)) } σ H
theorem zrX {st:Stmt} {t:TS} (h:PS X st t):PS X st (zt4 t):=by
 intro pins s σ H D I hq
 refine thn (h pins s σ H _ I hq) λ fl s1 z=>?_
 cases fl with
 | next=>obtain ⟨σ',H2,I2,a,o,kvs,e0,e2,q⟩:=z; exact ⟨σ',_,I2.thaw e2 (I.ztn e0),q⟩
 | brk=>obtain ⟨σ',H2,I2,q⟩:=z; exact q.elim
 | cont=>obtain ⟨σ',H2,I2,q⟩:=z; exact q.elim
 | ret u=>obtain ⟨v,σ',H2,I2,r,a,o,kvs,e0,e2,q⟩:=z; exact ⟨v,σ',_,I2.thaw e2 (I.ztn e0),r,q⟩
end
end L2
end
section
namespace L2
open PySem PySem.Spec PySem.W PyProof.Rows S5
def SetX (P:Program) (w:World) (q:Addr) (ks:List Key):Heap->Prop:=λ h=>S6.SetP (zaO P w) h q ks
theorem zrQ {P:Program} {w:World} {H:Hp} {h:Heap} {q:Addr} {ks:List Key} (x:S6.SetP (zaO P w) h q ks):zbY P w H h q (.ext (SetX P w q ks)) :=
 ⟨x,let ⟨_,_,o,_,_,_,e,_⟩:=x; ⟨o,e⟩,λ h1 h2 y k=>S6.SetP.at y k⟩
abbrev zq8 (ks:List Key):Prop:=zdH ks
theorem zsc {P:Program} {w:World} {k:Key} {u:Value} (r:RelV (kV k) u):S6.KVal (zaO P w) k u:=by
 cases k with
 | inl i =>
  obtain ⟨t,rfl⟩:=(show ∃ t,u=Value.int i t from r)
  exact ⟨zhN P w i t,rfl⟩
 | inr x =>
  obtain ⟨t,rfl⟩:=(show ∃ t,u=Value.str x t from r)
  exact ⟨zhM P w x t,rfl⟩
section
variable {X:Cx}
def SSrc (K:Frag) (H:Hp) (p:Addr) (ks:List Key):Prop:=SqL K H p (ks.map kV)\/∃ kvs:List (Key×V),H p=some (.dK kvs)/\kvs.map (·.1)=ks/\kvs.length<=4
theorem zqZ (hc:X.calm=true):zis X (.type "set") (λ xs H Q=>∃ p ks,xs=[.ref p]/\SSrc X.K H p ks/\zq8 ks/\ks.length < 4000/\∀ q,H q=none->Q (.ref q) (upd H q (.ext (SetX X.prog X.w q (S6.deds ks))))):=by
 intro pins s σ H xs us Q I r h
 obtain ⟨p,ks,rfl,src,tx,hl,h⟩:=h
 obtain ⟨u,rfl,ru⟩:=Vals.one r
 cases ru
 have hp:∃ o,s.heap.get? p=some o:=by
   rcases src with hq | ⟨kvs,hd,_⟩
   . obtain ⟨its,rv,⟨o,n,e,_⟩,hz⟩:=I.list hq
     exact ⟨o,e⟩
   . obtain ⟨z,lo,vs,rel,o,es,ep,e,_⟩:=zlo I.hok hd
     exact ⟨o,e⟩
 refine S6.zs4 (R:=λ h'=>S6.SetP (zaO X.prog X.w) h' s.heap.objs.size (S6.deds ks)/\∀ b o,s.heap.get? b=some o->h'.get? b=some o) hp ?_ λ h' tk ⟨hS,kp⟩=>?_
 . have e0:(s.heap.push (S6.set0 X.w)).get? s.heap.objs.size=some (S6.set0 X.w):=Heap.get?_push_size _ rfl
   have fin:∀ {s':Shared},(∃ h' tk,s'={ s with heap:=h',toks:=tk }/\S6.SetP (zaO X.prog X.w) h' s.heap.objs.size (S6.deds ks)/\∀ b o,b≠s.heap.objs.size->(s.heap.push (S6.set0 X.w)).get? b=some o->h'.get? b=some o) ->
       ∃ h' tk,s'={ s with heap:=h',toks:=tk }/\S6.SetP (zaO X.prog X.w) h' s.heap.objs.size (S6.deds ks)/\∀ b o,s.heap.get? b=some o->h'.get? b=some o:=λ ⟨h',tk,e,hS,kp⟩ =>
     ⟨h',tk,e,hS,λ b o q=>kp b o (Nat.ne_of_lt (Heap.lt_size q)) (Heap.get?_push_of_some _ q)⟩
   rcases src with hq | ⟨kvs,hd,hks,h4⟩
   . obtain ⟨its,rv,pl,hz⟩:=I.list hq
     have hlen:its.length=ks.length:=by rw [<-rv.length,List.length_map]
     refine wpAny_mono (S6.zpJ (s:={ s with heap:=s.heap.push (S6.set0 X.w) }) (knd:=zaO X.prog X.w) (ks:=ks) (items:=its.toArray) (I.ok.hd hc) (pl.isList.push _) (S6.zoM e0) ?_ (by simpa using hlen) (by unfold scanBound; omega) λ i v hv=>?_) (λ _ s' q=>fin q) λ _ _ z=>z
     . obtain ⟨o,n,e,_⟩:=pl
       exact Nat.ne_of_gt (Heap.lt_size e)
     . have hv':its[i]?=some v:=by simpa using hv
       have hi:i < ks.length:=by rw [<-hlen]; exact (List.getElem?_eq_some_iff.mp hv').1
       have e1:(ks.map kV)[i]?=some (kV ks[i]):=by rw [List.getElem?_map,List.getElem?_eq_getElem hi]; rfl
       obtain ⟨u,e2,ru⟩:=rv.get e1
       rw [hv'] at e2; cases e2
       exact ⟨ks[i],List.getElem?_eq_getElem hi,zsc ru⟩
   . obtain ⟨z,lo,vs,rel,dd⟩:=zlo I.hok hd
     have hkeys:vs.map (·.1)=ks:=by rw [<-KV.keys rel]; exact hks
     have:=S6.zpK (A:=X.A.in1.in1) (E:=X.xe) (s:={ s with heap:=s.heap.push (S6.set0 X.w) }) (knd:=zaO X.prog X.w) lo (dd.push _) e0 (by rw [<-rel.length]; exact h4) λ q hq u hu=>by
       rcases zaZ (show ziG q.1 u=true from hu) with ⟨i,t,e,rfl⟩ | ⟨y,t,e,rfl⟩
       . rfl
       . rfl
     rw [hkeys] at this
     exact wpAny_mono this (λ _ s' q=>fin q) λ _ _ z=>z
 . refine ⟨.ref s.heap.objs.size,upd H s.heap.objs.size (.ext (SetX X.prog X.w s.heap.objs.size (S6.deds ks))),I.laid kp (Nat.le_refl _) (zrQ hS),rfl,h _ I.fresh⟩
end
section
variable {prog:Program} {w:World} {A:Around} {E:Value->Shared->Prop} {s:Shared}
theorem znL {a:Addr} {PC:List Value->Heap->Prop} {Q:Value->Shared->Prop}
  (hcol:∀ R:List Value->Shared->Prop,(∀ h' tk d vs,zke s.heap h'->PC vs h'->R vs { s with heap:=h',toks:=tk,drawn:=d })->wpAny (model prog w) A.in1 (collect (.ref a)) R E s)
  (h64:∀ vs h',PC vs h'->vs.length < 64)
  (hsort : ∀ h' tk d vs, zke s.heap h' → PC vs h' → wpAny (model prog w) A.in1.in1 (Builtin.«list.sort» ⟨[.ref h'.objs.size], []⟩) (fun fin s' => fin = .done (.ret .none) ∧ Q (.ref h'.objs.size) s') E { s with heap := h'.push { cls := .type "list", data := .seq vs.toArray }, toks := tk, drawn := d }) :
  wpAny (model prog w) A (call (.builtin "sorted") [.ref a]) Q E s:=by
 refine Calls.call_function_entry kind_sorted plain_sorted entry_sorted (args_sorted1 _) ?_
 unfold Builtin.«sorted»
 refine wpAny_bind (m:=checkCount "sorted" 1 1 _) (wpAny_pure (wpAny_bind (hcol _ λ h' tk d vs hk hp=>?_)))
 refine wpAny_bind (wpAny_newList ?_ (by have:=h64 vs h' hp; rw [sizeLine_eq]; omega))
 refine wpAny_bind (wpAny_holding (wpAny_call_entry slot_list_sort ⟨_,Heap.get?_push_size _ rfl,rfl⟩ entry_list_sort ?_ (args_list_sort _)))
 refine wpAny_mono (hsort h' tk d vs hk hp) (λ fin s' hq=>?_) λ _ _ z=>z
 obtain ⟨rfl,hq⟩:=hq
 exact ⟨_,rfl,wpAny_pure ⟨_,rfl,hq⟩⟩
end
section
variable {X:Cx}
theorem Inv.zuc {pins:List (Addr×Obj)} {σ:St} {H:Hp} {s:Shared} {h':Heap} {t':Nat} {d':Drawn} (I:Inv X pins σ H s) (k:∀ b u,s.heap.get? b=some u->h'.get? b=some u):Inv X pins σ H { s with heap:=h',toks:=t',drawn:=d' }:=by
 have J:=I.kept (t':=t') k
 exact ⟨J.ok,J.os,J.bare,J.base,J.loc,J.cell,J.free,J.zdg,J.pin,J.hok,J.len⟩
theorem zid (hc:X.calm=true):zis X (.builtin "sorted") (λ xs H Q=>∃ q ks,xs=[.ref q]/\H q=some (.ext (SetX X.prog X.w q ks))/\ks.Nodup/\zq8 ks/\ks.length < 64 /\
   ∀ (ys:List Key) (l:Addr),ys.Perm ks->ys.Pairwise (λ a b=>kLt a b=true)->H l=none->Q (.ref l) (upd H l (.lst (ys.map kV)))):=by
 intro pins s σ H xs us Q I r h
 obtain ⟨p,ks0,rfl,hp,nd0,tx0,h640,h⟩:=h
 obtain ⟨u,rfl,ru⟩:=Vals.one r
 cases ru
 obtain ⟨hS,_,_⟩:=I.hok p _ hp
 have hS:S6.SetP (zaO X.prog X.w) s.heap p ks0:=hS
 refine znL (PC:=λ vs _=>∃ ks:List Key,ks.Perm ks0/\Vals (ks.map kV) vs) (λ R hR=>?_) (λ vs _ ⟨ks,pk,hv⟩=>by rw [<-hv.length,List.length_map,pk.length_eq]; exact h640) (λ h' tk d vs hk ⟨ks,pk,hv⟩=>?_)
 . refine S6.zlQ (A:=X.A.in1) (I.ok.hd hc) hS λ h' tk d vs ys py hy kp=>hR h' tk d vs kp ⟨ys,py,?_⟩
   clear hR
   clear py kp
   induction hy with
   | nil=>exact .nil
   | @cons v k vs ys r _ ih =>
     refine .cons ?_ ih
     rcases zaZ (show ziG k v=true from r) with ⟨i,t,rfl,rfl⟩ | ⟨y,t,rfl,rfl⟩
     . exact ⟨t,rfl⟩
     . exact ⟨t,rfl⟩
 . have nd:ks.Nodup:=pk.nodup_iff.mpr nd0
   have one:zdH ks:=tx0.imp (λ h k hk=>h k (pk.mem_iff.mp hk)) λ h k hk=>h k (pk.mem_iff.mp hk)
   have h64:ks.length < 64:=by rw [pk.length_eq]; exact h640
   have hl:vs.length=ks.length:=by rw [<-hv.length,List.length_map]
   have O:=ordK nd one
   rw [<-hl] at O
   refine zoH (s:={ s with heap:=h'.push { cls:=.type "list",data:=.seq vs.toArray },toks:=tk,drawn:=d }) (κ:=oneType') (c:=0) (Heap.get?_push_size _ rfl) (by rw [hl]; exact h64) O (λ h1 _ h2 Qk hq=>?_) (λ h1 _ i j hi hj hne Qb hq=>?_) (λ q h3 c' hp hu hkb hg=>⟨rfl,?_⟩)
   . refine kas_kind (T:=.type (kTy ks)) h2 (λ v hvm=>?_) ?_ ?_ hq
     . obtain ⟨i,hi⟩:=List.mem_iff_getElem?.mp hvm
       have hi':i < ks.length:=by rw [<-hl]; exact (List.getElem?_eq_some_iff.mp hi).1
       have:=zey hv hi'
       rw [List.getD_eq_getElem?_getD,hi] at this
       exact ty_keys one (zen hi') this _ _
     . rcases zng ks with z | z <;> rw [z] <;> decide
     . rcases zng ks with z | z <;> rw [z] <;> decide
   . rw [keyLt'_oneType]
     rw [hl] at hi hj
     exact zpi (zo7 one (zen hi) (zen hj)) (zey hv hi) (zey hv hj) hq
   . rw [hl] at hp hu
     have keepAll:∀ b o,s.heap.get? b=some o->h3.get? b=some o:=λ b o e=>hkb b o (Nat.ne_of_lt (Heap.lt_size (hk b o e))) (Heap.get?_push_of_some _ (hk b o e))
     have I1:Inv X pins σ H { s with heap:=h3,toks:=tk,drawn:=d }:=I.zuc keepAll
     have fp:=I.ztA (a:=h'.objs.size) λ b o e=>Heap.lt_size (hk b o e)
     have vp:=zkl hv (p:=q) (by rw [List.length_map]; exact hp)
     rw [zm2 kV ks (Sum.inl 0) hp] at vp
     have lp:(zhB ks (Sum.inl 0) q).length=ks.length:=(zfB ks (Sum.inl 0) hp).length_eq
     refine ⟨.ref h'.objs.size,upd H h'.objs.size (.lst ((zhB ks (Sum.inl 0) q).map kV)),?_,rfl,h _ _ ((zfB ks _ hp).trans pk) (zkI ks _ hp hu) fp.1⟩
     have f2:FpOk X pins H h'.objs.size:=fp
     exact I1.zsC f2 ⟨by rw [List.length_map,lp,sizeLine_eq]; omega,picked vs q,c',vp,hg⟩
end
end L2
end
section
namespace L2
open PySem PySem.Spec PyProof.Rows
def Nx (n i:Nat) (p:Prop):Prop:=∃ m',m' < n - i/\m'=n - (i+1)/\i+1<=n/\p
theorem nx {n i:Nat} {p:Prop} (h:i < n) (hp:p):Nx n i p:=⟨n - (i+1),by omega,rfl,h,hp⟩
section
variable {K:PySem.W.Frag} {a:Addr} {xs:List V} {g:TG} {tt:TT} {te:TE} {σ₀:St} {H:Hp} {Fin:List V->Hp->Prop}
theorem zfV (Pv:Nat->List V->St->Hp->Prop) (h0:Pv 0 [] σ₀ H) (hl:∀ i ys σ H,Pv i ys σ H->SqL K H a xs/\ys.length<=i) (hz:xs.length<=sizeLine)
   (hs:∀ i x ys σ H,i < xs.length->xs[i]?=some x->Pv i ys σ H->g x σ H λ σ2 H2=>tt σ2 H2 λ b H3=>if b=true then te σ2 H3 λ y H4=>Nx xs.length i (Pv (i+1) (ys++[y]) σ2 H4) else Nx xs.length i (Pv (i+1) ys σ2 H3))
   (hd:∀ ys σ H,Pv xs.length ys σ H->Fin ys H):ziT (Itl K a) g tt te σ₀ H Fin:=by
 refine ⟨λ i m ys σ H=>m=xs.length - i/\i<=xs.length/\Pv i ys σ H,⟨xs.length,by simp,Nat.zero_le _,h0⟩,?_⟩
 rintro i m ys σ H ⟨rfl,hi,p⟩
 obtain ⟨q,hy⟩:=hl i ys σ H p
 by_cases hlt:i < xs.length
 . refine .inr ⟨⟨xs,xs[i],q,by simp [hlt]⟩,by omega,λ x H' y=>?_⟩
   obtain ⟨e,y⟩:=y
   subst e
   exact hs i x ys σ _ hlt (y xs q) p
 . have e:i=xs.length:=by omega
   subst e
   exact .inl ⟨⟨xs,q,Nat.le_refl _⟩,hd ys σ H p⟩
theorem znt (Pv:Nat->List V->St->Hp->Prop) (h0:Pv 0 [] σ₀ H) (hl:∀ i ys σ H,Pv i ys σ H->SqT K H a xs/\ys.length<=i) (hz:xs.length<=sizeLine)
   (hs:∀ i x ys σ H,i < xs.length->xs[i]?=some x->Pv i ys σ H->g x σ H λ σ2 H2=>tt σ2 H2 λ b H3=>if b=true then te σ2 H3 λ y H4=>Nx xs.length i (Pv (i+1) (ys++[y]) σ2 H4) else Nx xs.length i (Pv (i+1) ys σ2 H3))
   (hd:∀ ys σ H,Pv xs.length ys σ H->Fin ys H):ziT (Itt K a) g tt te σ₀ H Fin:=by
 refine ⟨λ i m ys σ H=>m=xs.length - i/\i<=xs.length/\Pv i ys σ H,⟨xs.length,by simp,Nat.zero_le _,h0⟩,?_⟩
 rintro i m ys σ H ⟨rfl,hi,p⟩
 obtain ⟨q,hy⟩:=hl i ys σ H p
 by_cases hlt:i < xs.length
 . refine .inr ⟨⟨xs,xs[i],q,by simp [hlt]⟩,by omega,λ x H' y=>?_⟩
   obtain ⟨e,y⟩:=y
   subst e
   exact hs i x ys σ _ hlt (y xs q) p
 . have e:i=xs.length:=by omega
   subst e
   exact .inl ⟨⟨xs,q,Nat.le_refl _⟩,hd ys σ H p⟩
theorem zjb {lo:Int} {n:Nat} (Pv:Nat->List V->St->Hp->Prop) (h0:Pv 0 [] σ₀ H) (hl:∀ i ys σ H,Pv i ys σ H->ys.length<=i) (hz:n<=sizeLine)
   (hs:∀ i ys σ H,i < n->Pv i ys σ H->g (.int (lo+i)) σ H λ σ2 H2=>tt σ2 H2 λ b H3=>if b=true then te σ2 H3 λ y H4=>Nx n i (Pv (i+1) (ys++[y]) σ2 H4) else Nx n i (Pv (i+1) ys σ2 H3))
   (hd:∀ ys σ H,Pv n ys σ H->Fin ys H):ziT (Itr lo n) g tt te σ₀ H Fin:=by
 refine ⟨λ i m ys σ H=>m=n - i/\i<=n/\Pv i ys σ H,⟨n,by simp,Nat.zero_le _,h0⟩,?_⟩
 rintro i m ys σ H ⟨rfl,hi,p⟩
 have hy:=hl i ys σ H p
 by_cases hlt:i < n
 . refine .inr ⟨hlt,by omega,λ x H' y=>?_⟩
   obtain ⟨e,y⟩:=y
   subst e y
   exact hs i ys σ _ hlt p
 . have e:i=n:=by omega
   subst e
   exact .inl ⟨Nat.le_refl _,hd ys σ H p⟩
theorem zpX {o:Obj} {kvs:List (Key×V)} (Pv:Nat->List V->St->Hp->Prop) (h0:Pv 0 [] σ₀ H) (hl:∀ i ys σ H,Pv i ys σ H->H a=some (.frz o (.dK kvs))/\ys.length<=i) (hz:kvs.length<=sizeLine)
   (hs:∀ i k v ys σ H,i < kvs.length->kvs[i]?=some (k,v)->Pv i ys σ H->g (kV k) σ H λ σ2 H2=>tt σ2 H2 λ b H3=>if b=true then te σ2 H3 λ y H4=>Nx kvs.length i (Pv (i+1) (ys++[y]) σ2 H4) else Nx kvs.length i (Pv (i+1) ys σ2 H3))
   (hd:∀ ys σ H,Pv kvs.length ys σ H->Fin ys H):ziT (Itk a o kvs) g tt te σ₀ H Fin:=by
 refine ⟨λ i m ys σ H=>m=kvs.length - i/\i<=kvs.length/\Pv i ys σ H,⟨kvs.length,by simp,Nat.zero_le _,h0⟩,?_⟩
 rintro i m ys σ H ⟨rfl,hi,p⟩
 obtain ⟨q,hy⟩:=hl i ys σ H p
 by_cases hlt:i < kvs.length
 . refine .inr ⟨⟨hlt,q⟩,by omega,λ x H' y=>?_⟩
   obtain ⟨e,k,v,hk,ex⟩:=y
   subst e ex
   exact hs i k v ys σ _ hlt hk p
 . have e:i=kvs.length:=by omega
   subst e
   exact .inl ⟨⟨Nat.le_refl _,q⟩,hd ys σ H p⟩
end
end L2
end
section
namespace L2
open PySem
theorem Same.zaw {H:Hp} {p:Addr} {o:HO} (n:H p=none):Same H (upd H p o):=λ b u e=>by rw [zaf (zah e n)]; exact e
theorem Same.upd2 {H H':Hp} {p:Addr} {o:HO} (m:Same H H') (n:H' p=none):Same H (upd H' p o):=λ b u e=>by rw [zaf (zah (m b u e) n)]; exact m b u e
theorem zax {H:Hp} {p q:Addr} {o u:HO} (e:H q=some u) (n:H p=none):upd H p o q=some u:=by rw [zaf (zah e n)]; exact e
end L2
namespace TP
open PySem L2 TH
structure Ad where
 zdW:Addr
 zaC:Addr
 zcf:Addr
 zaX:Addr
 zbB:Addr
 zaP:Addr
structure AdOk (A:Ad):Prop where
 wr:A.zdW≠A.zaC
 wd:A.zdW≠A.zcf
 wh:A.zdW≠A.zaX
 rd:A.zaC≠A.zcf
 rh:A.zaC≠A.zaX
 dh:A.zcf≠A.zaX
def useS (w:Bool):Str:=if w then "writing" else "reading"
def stS:DS->Str
 | .zaq => "going"
 | .waiting => "waiting"
 | .kept => "kept"
 | .dropped => "given up"
def actV (a:Act Str):List V:=[.str (if a.wr then "write" else "read"),.str a.key,.int a.val]
def rowV:Row Str->List V
 | .begin d=>[.str "begin",.int d]
 | .write d k b v=>[.str "write",.int d,.str k,.int b,.int v]
 | .keep d=>[.str "keep",.int d]
 | .drop d=>[.str "give up",.int d]
def zcn (p:Nat×Bool):List V:=[.int p.1,.str (useS p.2)]
def TupAt (H:Hp) (v:V) (xs:List V):Prop:=∃ p,v=.ref p/\H p=some (.tup xs)
abbrev zap (H:Hp) (vs:List V) (xss:List (List V)):Prop:=Paired (TupAt H) vs xss
def zrv (a:Act Str):List (Str×V):=[("use",.str (useS a.wr)),("key",.str a.key),("value",if a.wr then .int a.val else .non)]
def zcv (A:Ad) (H:Hp) (v:V):Option (Act Str)->Prop
 | none=>v=.non
 | some a=>∃ p dx,v=.ref p/\H p=some (.ins A.zdW dx (zrv a))
def wantOf (D:Deed Str):Option (Act Str):=if D.st=.waiting then D.wish else none
def bkV (l:List (Str×Int)):List (Key×V):=l.map λ p=>(Sum.inr p.1,.int p.2)
structure zbj (l:List (Str×Int)) (b:Book Str):Prop where
 nd:(l.map (·.1)).Nodup
 mem:∀ k v,(k,v)∈l↔b k=some v
theorem zp2:∀ {l:List (Str×Int)} {k:Str},(l.map (·.1)).Nodup->valV (bkV l) (Sum.inr k)=(l.find? λ p=>decide (p.1=k)).map λ p=>V.int p.2
 | [],_,_=>rfl
 | p::r,k,nd=>by
  obtain ⟨_,nd'⟩:=List.nodup_cons.mp nd
  have ih:=zp2 (l:=r) (k:=k) nd'
  unfold valV bkV at ih ⊢
  rw [List.map_cons,List.find?_cons,List.find?_cons]
  by_cases h:p.1=k
  . simp [h]
  . have h2:¬ (Sum.inr p.1:Key)=Sum.inr k:=λ z=>h (Sum.inr.inj z)
    simp only [h,h2,decide_false]
    exact ih
theorem zbj.val {l:List (Str×Int)} {b:Book Str} (h:zbj l b) (k:Str):valV (bkV l) (Sum.inr k)=(b k).map V.int:=by
 rw [zp2 h.nd]
 cases e:l.find? λ p=>decide (p.1=k) with
 | none =>
  cases e2:b k with
  | none=>rfl
  | some v =>
   have:=List.find?_eq_none.mp e _ ((h.mem k v).mpr e2)
   simp at this
 | some p =>
  have hm:=List.mem_of_find?_eq_some e
  have hk:p.1=k:=by simpa using List.find?_some e
  have:=(h.mem p.1 p.2).mp hm
  rw [hk] at this
  rw [this]; rfl
def zcb (h:List (Nat×Bool)):List (Key×V):=h.map λ p=>(Sum.inl (p.1:Int),.str (useS p.2))
inductive Role where
 | hall | recs | zbP | zci | zcV | order | rows | other
 | rcd (i:Nat) | did (i:Nat) | desk (k:Str) | held (k:Str) | row (k:Str)
 deriving DecidableEq
def zme (ad:Role->Addr):List (Str×V) :=
 [("records",.ref (ad .recs)),("desks",.ref (ad .zbP)),("standing",.ref (ad .zci)),("kept_values",.ref (ad .zcV)),("kept_deeds",.ref (ad .order)),("rows",.ref (ad .rows))]
def recF (st:DS) (did:Addr) (w:V):List (Str×V):=[("state",.str (stS st)),("did",.ref did),("want",w)]
def ziI (held row:Addr):List (Str×V):=[("held",.ref held),("row",.ref row)]
def At (A:Ad) (ad:Role->Addr) (s:HS Str) (kv:Book Str) (H:Hp):Role->HO->Prop
 | .hall,o=>∃ dx,o=.ins A.zaX dx (zme ad)
 | .recs,o=>o=.lst ((List.range s.n).map λ i=>.ref (ad (.rcd i)))
 | .zbP,o=>o=.dK (s.seen.map λ k=>(Sum.inr k,.ref (ad (.desk k))))
 | .zci,o=>∃ l,o=.dK (bkV l)/\zbj l s.book
 | .zcV,o=>∃ l,o=.dK (bkV l)/\zbj l kv
 | .order,o=>o=.lst (s.kept.map λ (d:Nat)=>V.int (d:Int))
 | .rows,o=>∃ vs,o=.lst vs/\zap H vs (s.log.map rowV)
 | .rcd i,o=>∃ dx w,o=.ins A.zaC dx (recF (s.deed i).st (ad (.did i)) w)/\zcv A H w (wantOf (s.deed i))
 | .did i,o=>∃ vs,o=.lst vs/\zap H vs ((s.deed i).done.map actV)
 | .desk k,o=>∃ dx,o=.ins A.zcf dx (ziI (ad (.held k)) (ad (.row k)))
 | .held k,o=>o=.dK (zcb (s.held k))
 | .row k,o=>∃ vs,o=.lst vs/\zap H vs ((s.rows k).map zcn)
 | .other,_=>False
def live (s:HS Str):Role->Prop
 | .rcd i=>i < s.n
 | .did i=>i < s.n
 | .desk k=>k∈s.seen
 | .held k=>k∈s.seen
 | .row k=>k∈s.seen
 | .other=>False
 | _=>True
structure zai (A:Ad) (ρ:Addr->Role) (ad:Role->Addr) (s:HS Str) (kv:Book Str) (H:Hp):Prop where
 at_:∀ r,live s r->∃ o,H (ad r)=some o/\At A ad s kv H r o
 ro:∀ r,live s r->ρ (ad r)=r
 fr:∀ b,H b=none->ρ b=.other
structure Frame (ρ:Addr->Role) (H:Hp) (ρ':Addr->Role) (H':Hp):Prop where
 o:∀ b o,H b=some o->ρ b=.other->H' b=some o/\ρ' b=.other
 t:∀ b xs,H b=some (.tup xs)->H' b=some (.tup xs)
instance {ρ:Addr->Role} {H:Hp} {ρ':Addr->Role} {H':Hp}:CoeFun (Frame ρ H ρ' H') (λ _=>∀ b o,H b=some o->ρ b=.other->H' b=some o/\ρ' b=.other):=⟨Frame.o⟩
theorem Frame.refl {ρ:Addr->Role} {H:Hp}:Frame ρ H ρ H:=⟨λ _ _ h r=>⟨h,r⟩,λ _ _ h=>h⟩
theorem Frame.trans {ρ ρ1 ρ2:Addr->Role} {H H1 H2:Hp} (a:Frame ρ H ρ1 H1) (b:Frame ρ1 H1 ρ2 H2):Frame ρ H ρ2 H2:=⟨λ x o h r=>let ⟨h1,r1⟩:=a x o h r; b x o h1 r1,λ x xs h=>b.t x xs (a.t x xs h)⟩
structure Imm (A:Ad) (H H':Hp):Prop where
 tup:∀ p xs,H p=some (.tup xs)->H' p=some (.tup xs)
 want:∀ p dx fs,H p=some (.ins A.zdW dx fs)->H' p=some (.ins A.zdW dx fs)
theorem Imm.of_same {A:Ad} {H H':Hp} (h:Same H H'):Imm A H H':=⟨λ p xs e=>h p _ e,λ p dx fs e=>h p _ e⟩
theorem zap.mono {A:Ad} {H H':Hp} (m:Imm A H H'):∀ {vs:List V} {xss:List (List V)},zap H vs xss->zap H' vs xss
 | _,_,.nil=>.nil
 | _,_,.cons ⟨p,e,q⟩ t=>.cons ⟨p,e,m.tup p _ q⟩ (zap.mono m t)
theorem zcv.mono {A:Ad} {H H':Hp} (m:Imm A H H') {v:V}:∀ {o:Option (Act Str)},zcv A H v o->zcv A H' v o
 | none,h=>h
 | some a,⟨p,dx,e,q⟩=>⟨p,dx,e,m.want p dx _ q⟩
section
variable {A:Ad} {ad:Role->Addr} {s:HS Str} {kv:Book Str} {H H':Hp}
theorem At.mono (m:Imm A H H') {r:Role} {o:HO} (h:At A ad s kv H r o):At A ad s kv H' r o:=by
 cases r with
 | rows=>obtain ⟨vs,e,t⟩:=h; exact ⟨vs,e,zap.mono m t⟩
 | did i=>obtain ⟨vs,e,t⟩:=h; exact ⟨vs,e,zap.mono m t⟩
 | row k=>obtain ⟨vs,e,t⟩:=h; exact ⟨vs,e,zap.mono m t⟩
 | rcd i=>obtain ⟨dx,w,e,t⟩:=h; exact ⟨dx,w,e,t.mono m⟩
 | _=>exact h
theorem At.mut (ok:AdOk A) {r:Role} {o:HO} (h:At A ad s kv H r o):(∀ xs,o≠.tup xs)/\∀ dx fs,o≠.ins A.zdW dx fs:=by
 cases r with
 | hall=>obtain ⟨dx,rfl⟩:=h; exact ⟨λ xs z=>(by cases z),λ dx fs z=>(by injection z with z; exact ok.wh z.symm)⟩
 | recs=>cases h; exact ⟨λ xs z=>(by cases z),λ dx fs z=>(by cases z)⟩
 | zbP=>cases h; exact ⟨λ xs z=>(by cases z),λ dx fs z=>(by cases z)⟩
 | zci=>obtain ⟨l,rfl,_⟩:=h; exact ⟨λ xs z=>(by cases z),λ dx fs z=>(by cases z)⟩
 | zcV=>obtain ⟨l,rfl,_⟩:=h; exact ⟨λ xs z=>(by cases z),λ dx fs z=>(by cases z)⟩
 | order=>cases h; exact ⟨λ xs z=>(by cases z),λ dx fs z=>(by cases z)⟩
 | rows=>obtain ⟨l,rfl,_⟩:=h; exact ⟨λ xs z=>(by cases z),λ dx fs z=>(by cases z)⟩
 | rcd i=>obtain ⟨dx,w,rfl,_⟩:=h; exact ⟨λ xs z=>(by cases z),λ dx fs z=>(by injection z with z; exact ok.wr z.symm)⟩
 | did i=>obtain ⟨l,rfl,_⟩:=h; exact ⟨λ xs z=>(by cases z),λ dx fs z=>(by cases z)⟩
 | desk k=>obtain ⟨dx,rfl⟩:=h; exact ⟨λ xs z=>(by cases z),λ dx fs z=>(by injection z with z; exact ok.wd z.symm)⟩
 | held k=>cases h; exact ⟨λ xs z=>(by cases z),λ dx fs z=>(by cases z)⟩
 | row k=>obtain ⟨l,rfl,_⟩:=h; exact ⟨λ xs z=>(by cases z),λ dx fs z=>(by cases z)⟩
 | other=>exact h.elim
end
section
variable {A:Ad} {ρ:Addr->Role} {ad:Role->Addr} {s s':HS Str} {kv kv':Book Str} {H H':Hp}
theorem zai.ne (h:zai A ρ ad s kv H) {r r':Role} (a:live s r) (b:live s r') (n:r≠r'):ad r≠ad r':=λ e=>n (by rw [<-h.ro r a,<-h.ro r' b,e])
theorem zai.grow (h:zai A ρ ad s kv H) (m:Same H H'):zai A ρ ad s kv H' :=
 ⟨λ r l=>let ⟨o,e,a⟩:=h.at_ r l; ⟨o,m _ _ e,a.mono (.of_same m)⟩,h.ro,λ b e=>h.fr b (by
  cases q:H b with
  | none=>rfl
  | some o=>rw [m b o q] at e; cases e)⟩
theorem zpk {s:HS Str} {r:Role} (l:live s r):r≠.other:=by rintro rfl; exact l
theorem Frame.grow {ρ:Addr->Role} (m:Same H H'):Frame ρ H ρ H':=⟨λ b o e r=>⟨m b o e,r⟩,λ b xs e=>m b _ e⟩
end
end TP
end
section
namespace TP
open PySem L2 TH
def sLt (a b:Str):Bool:=kLt (Sum.inr a) (Sum.inr b)
theorem zlW (a:Str):sLt a a=false:=zps _
theorem zrb {a b c:Str} (h:sLt a b=true) (g:sLt b c=true):sLt a c=true:=zrl h g
theorem zrU {a b:Str} (h:a≠b):sLt a b=true\/sLt b a=true :=
 zpr (ks:=[Sum.inr a,Sum.inr b]) (.inr λ k hk=>by
  rcases List.mem_cons.mp hk with z | z
  . exact ⟨a,z⟩
  . exact ⟨b,List.mem_singleton.mp z⟩) (by simp) (by simp) λ z=>h (Sum.inr.inj z)
abbrev zin (l:List Str):Prop:=l.Pairwise λ a b=>sLt a b=true
def ins (x:Str):List Str->List Str
 | []=>[x]
 | y::r=>if x=y then y::r else if sLt x y=true then x::y::r else y::ins x r
def ordS (l:List Str):List Str:=l.foldr ins []
theorem zl5 {x z:Str}:∀ {l:List Str},z∈ins x l↔z=x\/z∈l
 | []=>by simp [ins]
 | y::r=>by
  unfold ins
  split
  . rename_i h; subst h; simp
  . split
    . simp
    . rw [List.mem_cons,zl5 (l:=r),List.mem_cons]
      exact ⟨λ h=>h.elim (λ q=>.inr (.inl q)) (λ q=>q.elim .inl λ q=>.inr (.inr q)),λ h=>h.elim (λ q=>.inr (.inl q)) λ q=>q.elim .inl λ q=>.inr (.inr q)⟩
theorem zi6 {x:Str}:∀ {l:List Str},zin l->zin (ins x l)
 | [],_=>by simp [ins,zin]
 | y::r,h=>by
  obtain ⟨h1,h2⟩:=List.pairwise_cons.mp h
  unfold ins
  split
  . exact h
  . rename_i hne
    split
    . rename_i hlt
      exact List.pairwise_cons.mpr ⟨λ z hz=>by
        rcases List.mem_cons.mp hz with q | q
        . rw [q]; exact hlt
        . exact zrb hlt (h1 z q),h⟩
    . rename_i hlt
      refine List.pairwise_cons.mpr ⟨λ z hz=>?_,zi6 h2⟩
      rcases zl5.mp hz with q | q
      . rw [q]; exact (zrU hne).resolve_left hlt
      . exact h1 z q
theorem za0 {z:Str}:∀ {l:List Str},z∈ordS l↔z∈l
 | []=>by simp [ordS]
 | y::r=>by
  show z∈ins y (ordS r)↔_
  rw [zl5,za0 (l:=r),List.mem_cons]
theorem zbF:∀ l:List Str,zin (ordS l)
 | []=>List.Pairwise.nil
 | y::r=>zi6 (zbF r)
theorem zgF {l:List Str} (h:zin l):l.Nodup:=h.imp λ {a b} q z=>by subst z; rw [zlW] at q; cases q
theorem zes:∀ {a b:List Str},zin a->zin b->(∀ x,x∈a↔x∈b)->a=b
 | [],[],_,_,_=>rfl
 | [],y::r,_,_,h=>by have:=(h y).mpr List.mem_cons_self; cases this
 | x::r,[],_,_,h=>by have:=(h x).mp List.mem_cons_self; cases this
 | x::r,y::t,ha,hb,h=>by
  obtain ⟨a1,a2⟩:=List.pairwise_cons.mp ha
  obtain ⟨b1,b2⟩:=List.pairwise_cons.mp hb
  have e:x=y:=by
   rcases List.mem_cons.mp ((h x).mp List.mem_cons_self) with q | q
   . exact q
   . rcases List.mem_cons.mp ((h y).mpr List.mem_cons_self) with p | p
     . exact p.symm
     . have:=zrb (b1 x q) (a1 y p)
       rw [zlW] at this; cases this
  subst e
  have nr:∀ {l:List Str},(∀ z∈l,sLt x z=true)->x∉l:=λ hl z=>by have:=hl x z; rw [zlW] at this; cases this
  refine congrArg _ (zes a2 b2 λ z=>?_)
  have hz:=h z
  rw [List.mem_cons,List.mem_cons] at hz
  exact ⟨λ q=>(hz.mp (.inr q)).resolve_left λ e=>nr a1 (e ▸ q),λ q=>(hz.mpr (.inr q)).resolve_left λ e=>nr b1 (e ▸ q)⟩
theorem zqz (l m:List Str) (h:∀ x∈m,x∈l):ordS m=(ordS l).filter λ k=>decide (k∈m) :=
 zes (zbF m) ((zbF l).filter _) λ x=>by
  rw [za0,List.mem_filter,za0,decide_eq_true_eq]
  exact ⟨λ q=>⟨h x q,q⟩,λ q=>q.2⟩
theorem zm7 (l:List Str) (m:List Str) (h:∀ x∈l,x∈m) (nd:m.Nodup):(ordS l).length<=m.length:=by
 have:∀ (a b:List Str),a.Nodup->(∀ x∈a,x∈b)->a.length<=b.length:=λ a=>by
  induction a with
  | nil=>intro b _ _; simp
  | cons x r ih =>
   intro b nd hs
   obtain ⟨n1,n2⟩:=List.nodup_cons.mp nd
   have hx:=hs x List.mem_cons_self
   have:=ih (b.erase x) n2 λ z hz=>(List.mem_erase_of_ne (show z≠x from λ e=>n1 (e ▸ hz))).mpr (hs z (List.mem_cons_of_mem _ hz))
   rw [List.length_erase_of_mem hx] at this
   have hpos:0 < b.length:=List.length_pos_of_mem hx
   simp only [List.length_cons]; omega
 exact this _ _ (zgF (zbF l)) λ x hx=>h x (za0.mp hx)
theorem zlN {xs:List Str} {ys:List Key} (m:∀ k,k∈ys↔∃ x∈xs,k=Sum.inr x) (p:ys.Pairwise λ a b=>kLt a b=true):ys=(ordS xs).map Sum.inr:=by
 obtain ⟨zs,rfl⟩:∃ zs:List Str,ys=zs.map Sum.inr:=by
  clear p
  have:∀ l:List Key,(∀ k∈l,∃ x:Str,k=Sum.inr x)->∃ zs:List Str,l=zs.map Sum.inr:=λ l=>by
   induction l with
   | nil=>intro _; exact ⟨[],rfl⟩
   | cons k r ih =>
    intro h
    obtain ⟨x,rfl⟩:=h k List.mem_cons_self
    obtain ⟨zs,rfl⟩:=ih λ k hk=>h k (List.mem_cons_of_mem _ hk)
    exact ⟨x::zs,rfl⟩
  exact this ys λ k hk=>let ⟨x,_,e⟩:=(m k).mp hk; ⟨x,e⟩
 congr 1
 refine zes (List.pairwise_map.mp p) (zbF xs) λ x=>?_
 rw [za0]
 have:=m (Sum.inr x)
 rw [List.mem_map] at this
 exact ⟨λ h=>by
  obtain ⟨y,hy,e⟩:=this.mp ⟨x,h,rfl⟩
  rw [Sum.inr.inj e]; exact hy,λ h=>by
  obtain ⟨y,hy,e⟩:=this.mpr ⟨x,h,rfl⟩
  rw [<-Sum.inr.inj e]; exact hy⟩
end TP
end
section
namespace L2
open PySem PySem.Spec PyProof.Rows
theorem Fun.okN {P:Program} {w:World} {K:PySem.W.Frag} {mg:Str->Option Value} {base:Heap} {x qual:Str} {st:Stmt} {f:Addr} {fd:FuncData} {N ps:List Str} {k:Nat} {sp:Sp} (F:Fun K x qual st f fd) (S:zao N ps (zak st)) (len:∀ vs H Q E,sp vs H Q E->vs.length=ps.length)
  (hbody:∀ (cdv:Value) (A:Around) (outer:List Env) (s:Shared) (H:Hp) (vs:List V) (Q:VK) (E:XK),Room k (A.deeper (envOfC qual (zak st) s.heap.objs.size f cdv))->sp vs H Q E ->
   ∃ t,PSs (cxOf (CX1 P w) P w K mg base N qual (zak st) f cdv A outer s H E).nox (zia st) t/\t { nx:=λ _ H'=>Q .non H',rt:=Q } (start N vs) H):FnOk P w K mg base (CX1 P w) (k+1) f fd ps sp:=by
 refine F.okX S len λ cdv A outer s H vs Q E hr hsp=>?_
 obtain ⟨t,h,q⟩:=hbody cdv A outer s H vs Q E hr hsp
 exact ⟨t,h.nox,q⟩
section
variable {X:Cx} {K:PySem.W.Frag}
theorem zoW (hK:X.K=K) {es:List Expr} {k:Nat} {t:TGs} {n:Nat} {pos:Pos} (hc:X.calm=true) (h:PGs X es t)
  (hn:(assignEach es X.env).length=n:=by rfl) (hst:(assignEach es X.env).findIdx? (·.1)=none:=by rfl):PG X (.Tuple es k pos) (gTup K n t):=by
 subst hK; exact zoX hc h hn hst
theorem zr0 (hK:X.K=K) {e:Expr} {f:Str} {ta:TE} {pos:Pos} (he:PE X e ta) (hb:attributeBase e f X.env (eval e X.env)=eval e X.env):PE X (.Attribute e f pos) (tFld K ta f):=by
 subst hK; exact zam he hb
theorem zpt (hK:X.K=K):IxR X (rIxT K):=by subst hK; exact zca
end
theorem zrZ {X:Cx} {x:Str} {pos:Pos} {n:String} (hg:Gl X x) (hm:X.mg x=none) (hv:bootBuiltins x=some (.type n)) (hn:x ≠ "__name__" := by decide) (hd:(x == ("__debug__" : Str))=false:=by decide):PE X (.Name x pos) (tC (.ty n)):=zr1 (v:=.ty n) hg hm hv rfl hn hd
end L2
namespace TP
open PySem L2 TH
theorem zpQ (xs:List Str):(S6.deds (xs.map (Sum.inr:Str->Key))).Perm ((ordS xs).map Sum.inr):=by
 refine (List.perm_ext_iff_of_nodup (S6.zpR _) ?_).mpr λ k=>?_
 . exact (zgF (zbF xs)).map _ λ a b h e=>h (Sum.inr.inj e)
 . rw [S6.zjU,List.mem_map,List.mem_map]
   exact ⟨λ ⟨x,h,e⟩=>⟨x,za0.mpr h,e⟩,λ ⟨x,h,e⟩=>⟨x,za0.mp h,e⟩⟩
theorem zox (xs:List Str):zq8 (xs.map (Sum.inr:Str->Key)):=.inr λ k hk=>by
 obtain ⟨x,_,e⟩:=List.mem_map.mp hk
 exact ⟨x,e.symm⟩
theorem znC (xs:List Str):zq8 (S6.deds (xs.map (Sum.inr:Str->Key))):=.inr λ k hk=>by
 obtain ⟨x,_,e⟩:=List.mem_map.mp (S6.zjU.mp hk)
 exact ⟨x,e.symm⟩
theorem zrj (xs:List Str):(xs.map (Sum.inr:Str->Key)).map kV=xs.map V.str:=by rw [List.map_map]; rfl
def zoD:Sp:=λ vs H Q _=>∃ i:Int,vs=[.int i]/\Q (.bl true) H
def zgD (K:PySem.W.Frag):Sp:=λ vs H Q _=>∃ (p:Addr) (xs:List Str),vs=[.ref p]/\SSrc K H p (xs.map Sum.inr)/\xs.length < 4000/\(ordS xs).length < 64 /\
 ∀ H' q,H q=none->Same H H'->H' q=some (.tup ((ordS xs).map V.str))->Q (.ref q) H'
def zkq:Sp:=λ vs H Q _=>∃ (p:Addr) (k:Str) (l:List (Str×Int)) (b:Book Str),vs=[.ref p,.str k]/\H p=some (.dK (bkV l))/\zbj l b/\Q (.int ((b k).getD 0)) H
def zp0 (ks:List Str) (b:Book Str):List (List V):=(ordS ks).map λ k=>[V.str k,V.int ((b k).getD 0)]
def zjo:Sp:=λ vs H Q _=>∃ (p:Addr) (l:List (Str×Int)) (b:Book Str),vs=[.ref p]/\H p=some (.dK (bkV l))/\zbj l b/\l.length<=4 /\
 ∀ H' q us,Same H H'->H' q=some (.tup us)->zap H' us (zp0 (l.map (·.1)) b)->Q (.ref q) H'
def zcw (H:Hp) (p:Addr) (H':Hp):Prop:=∀ b o,H b=some o->b≠p->H' b=some o
def znE (A:Ad):Sp:=λ vs H Q _=>∃ (p dx:Addr) (w:Bool) (k:Str) (v:V),vs=[.ref p,.str (useS w),.str k,v]/\H p=some (.ins A.zdW dx []) /\
 ∀ H',H' p=some (.ins A.zdW dx [("use",.str (useS w)),("key",.str k),("value",v)])->zcw H p H'->Q .non H'
def zkr (A:Ad):Sp:=λ vs H Q _=>∃ (p dx:Addr),vs=[.ref p]/\H p=some (.ins A.zaC dx []) /\
 ∀ H' d,H d=none->H' p=some (.ins A.zaC dx (recF .zaq d .non))->H' d=some (.lst [])->zcw H p H'->Q .non H'
def zoE (A:Ad):Sp:=λ vs H Q _=>∃ (p dx d:Addr) (st:DS) (w:V),vs=[.ref p]/\H p=some (.ins A.zaC dx (recF st d w))/\Q (.bl (decide (st=.kept\/st=.dropped))) H
def ziR (p:Str×Int):List V:=[.str p.1,.int p.2]
structure RecAt (A:Ad) (H:Hp) (p:Addr) (st:DS) (d:Addr) (w:V) (done:List (Act Str)):Prop where
 ob:∃ dx,H p=some (.ins A.zaC dx (recF st d w))
 did:∃ us,H d=some (.lst us)/\zap H us (done.map actV)
def zoA (A:Ad):Sp:=λ vs H Q _=>∃ p st d w done,vs=[.ref p]/\RecAt A H p st d w done/\done.length < 3000 /\
 ∀ H' q us,Same H H'->H' q=some (.lst us)->zap H' us ((zau done).map ziR)->Q (.ref q) H'
def zcX:Option (Act Str)->List Str
 | none=>[]
 | some a=>[a.key]
def zoB (A:Ad):Sp:=λ vs H Q _=>∃ p st d w done o,vs=[.ref p]/\RecAt A H p st d w done/\zcv A H w o/\done.length < 3000/\(ordS (done.map (·.key)++zcX o)).length < 64 /\
 ∀ H' q,H q=none->Same H H'->H' q=some (.tup ((ordS (done.map (·.key)++zcX o)).map V.str))->Q (.ref q) H'
end TP
end
section
namespace TP
open PySem L2 TH
theorem zcQ {a b:Nat}:((Sum.inl (a:Int):Key)=Sum.inl (b:Int))↔a=b:=⟨λ h=>by have:=Sum.inl.inj h; omega,λ h=>by rw [h]⟩
theorem zfN (h:List (Nat×Bool)) (d:Nat):valV (zcb h) (Sum.inl (d:Int))=(look h d).map λ w=>V.str (useS w):=by
 unfold zcb look
 induction h with
 | nil=>rfl
 | cons p r ih =>
  rw [List.map_cons]
  by_cases e:p.1=d
  . rw [zep (zcQ.mpr e)]; simp [List.find?_cons,e]
  . rw [zeq λ z=>e (zcQ.mp z),ih]; simp [List.find?_cons,e]
theorem zqO (h:List (Nat×Bool)) (d:Nat):((zcb h).any λ kv=>decide (kv.1=(Sum.inl (d:Int):Key)))=h.any λ p=>p.1 == d:=by
 unfold zcb
 rw [List.any_map]
 congr 1
 funext p
 show decide ((Sum.inl (p.1:Int):Key)=Sum.inl (d:Int))=(p.1 == d)
 rw [Bool.eq_iff_iff]
 simp only [decide_eq_true_eq,beq_iff_eq]
 exact zcQ
theorem zqN (h:List (Nat×Bool)) (d:Nat) (w:Bool):putK (zcb h) (Sum.inl (d:Int)) (V.str (useS w))=zcb (zbf h d w):=by
 unfold putK zbf
 rw [zqO]
 split
 . unfold zcb
   rw [List.map_map,List.map_map]
   refine List.map_congr_left λ p hp=>?_
   show (if (Sum.inl (p.1:Int):Key)=Sum.inl (d:Int) then ((Sum.inl (p.1:Int):Key),V.str (useS w)) else ((Sum.inl (p.1:Int):Key),V.str (useS p.2)))=((Sum.inl (((if (p.1 == d)=true then (d,w) else p).1:Nat):Int):Key),V.str (useS (if (p.1 == d)=true then (d,w) else p).2))
   by_cases e:p.1=d
   . rw [if_pos (zcQ.mpr e),if_pos (by simpa using e)]; simp [e]
   . rw [if_neg λ z=>e (zcQ.mp z),if_neg (by simpa using e)]
 . unfold zcb; rw [List.map_append]; rfl
theorem zpA (h:List (Nat×Bool)) (d:Nat):ziH (zcb h) (Sum.inl (d:Int))=zcb (less h d):=by
 unfold ziH less zcb
 rw [List.filter_map]
 congr 1
 refine List.filter_congr λ p _=>?_
 show decide ((Sum.inl (p.1:Int):Key)≠Sum.inl (d:Int))=(p.1 != d)
 rw [Bool.eq_iff_iff]
 simp only [decide_eq_true_eq,bne_iff_ne]
 exact not_congr zcQ
theorem less_none {h:List (Nat×Bool)} {d:Nat} (e:look h d=none):less h d=h:=by
 unfold less
 refine List.filter_eq_self.mpr λ p hp=>?_
 unfold look at e
 rw [Option.map_eq_none_iff,List.find?_eq_none] at e
 simpa using e p hp
theorem zh4 (h:List (Nat×Bool)):(zcb h).length=h.length:=by unfold zcb; rw [List.length_map]
theorem zmt (l:List (Str×Int)):(bkV l).length=l.length:=by unfold bkV; rw [List.length_map]
def bput (l:List (Str×Int)) (k:Str) (v:Int):List (Str×Int):=if (l.any λ p=>decide (p.1=k))=true then l.map (λ p=>if p.1=k then (p.1,v) else p) else l++[(k,v)]
theorem zsr (l:List (Str×Int)) (k:Str):((bkV l).any λ kv=>decide (kv.1=(Sum.inr k:Key)))=l.any λ p=>decide (p.1=k):=by
 unfold bkV
 rw [List.any_map]
 congr 1
 funext p
 show decide ((Sum.inr p.1:Key)=Sum.inr k)=decide (p.1=k)
 exact zrk _ _
theorem zms (l:List (Str×Int)) (k:Str) (v:Int):putK (bkV l) (Sum.inr k) (V.int v)=bkV (bput l k v):=by
 unfold putK bput
 rw [zsr]
 split
 . unfold bkV
   rw [List.map_map,List.map_map]
   refine List.map_congr_left λ p hp=>?_
   show (if (Sum.inr p.1:Key)=Sum.inr k then ((Sum.inr p.1:Key),V.int v) else ((Sum.inr p.1:Key),V.int p.2))=((Sum.inr (if p.1=k then (p.1,v) else p).1:Key),V.int (if p.1=k then (p.1,v) else p).2)
   by_cases e:p.1=k
   . rw [if_pos (congrArg Sum.inr e),if_pos e]
   . rw [if_neg λ z=>e (Sum.inr.inj z),if_neg e]
 . unfold bkV; rw [List.map_append]; rfl
def zq5 (l:List (Str×Int)) (k:Str):List (Str×Int):=l.filter λ p=>decide (p.1≠k)
theorem zq2 (l:List (Str×Int)) (k:Str):ziH (bkV l) (Sum.inr k)=bkV (zq5 l k):=by
 unfold ziH zq5 bkV
 rw [List.filter_map]
 congr 1
 refine List.filter_congr λ p _=>?_
 show decide ((Sum.inr p.1:Key)≠Sum.inr k)=decide (p.1≠k)
 rw [Bool.eq_iff_iff]
 simp only [decide_eq_true_eq]
 exact not_congr ⟨λ z=>Sum.inr.inj z,λ z=>by rw [z]⟩
theorem zbj.has {l:List (Str×Int)} {b:Book Str} (h:zbj l b) (k:Str):(l.any λ p=>decide (p.1=k))=(b k).isSome:=by
 cases e:b k with
 | none =>
  refine List.any_eq_false.mpr λ p hp z=>?_
  have hk:p.1=k:=by simpa using z
  have:=(h.mem p.1 p.2).mp hp
  rw [hk,e] at this; cases this
 | some v=>exact List.any_eq_true.mpr ⟨(k,v),(h.mem k v).mpr e,by simp⟩
theorem zbj.put {l:List (Str×Int)} {b:Book Str} (h:zbj l b) (k:Str) (v:Int):zbj (bput l k v) (up b k (some v)):=by
 unfold bput
 rw [h.has k]
 cases e:b k with
 | none =>
  simp only [Option.isSome_none,Bool.false_eq_true,if_false]
  have hn:∀ p∈l,p.1≠k:=λ p hp z=>by
    have:=(h.mem p.1 p.2).mp hp
    rw [z,e] at this; cases this
  refine ⟨?_,λ k' v'=>?_⟩
  . rw [List.map_append]
    refine List.nodup_append.mpr ⟨h.nd,by simp,λ a ha c hc=>?_⟩
    obtain ⟨p,hp,rfl⟩:=List.mem_map.mp ha
    rw [List.mem_singleton.mp hc]; exact hn p hp
  . rw [List.mem_append,List.mem_singleton]
    by_cases hk:k'=k
    . subst hk
      rw [zag]
      exact ⟨λ z=>z.elim (λ q=>absurd rfl (hn _ q)) λ q=>by cases q; rfl,λ z=>.inr (by cases z; rfl)⟩
    . rw [zan hk,<-h.mem]
      exact ⟨λ z=>z.elim id λ q=>absurd (by cases q; rfl) hk,.inl⟩
 | some v0 =>
  simp only [Option.isSome_some,if_true]
  have hk1:(l.map λ p=>if p.1=k then (p.1,v) else p).map (·.1)=l.map (·.1):=by
    rw [List.map_map]
    refine List.map_congr_left λ p _=>?_
    show (if p.1=k then (p.1,v) else p).1=p.1
    split <;> rfl
  refine ⟨by rw [hk1]; exact h.nd,λ k' v'=>?_⟩
  rw [List.mem_map]
  by_cases hk:k'=k
  . subst hk
    rw [zag]
    refine ⟨λ ⟨p,hp,q⟩=>?_,λ z=>?_⟩
    . by_cases hpk:p.1=k'
      . rw [if_pos hpk] at q; cases q; rfl
      . rw [if_neg hpk] at q; subst q; exact absurd rfl hpk
    . cases z
      exact ⟨(k',v0),(h.mem _ _).mpr e,by simp⟩
  . rw [zan hk,<-h.mem]
    refine ⟨λ ⟨p,hp,q⟩=>?_,λ z=>⟨(k',v'),z,by rw [if_neg hk]⟩⟩
    by_cases hpk:p.1=k
    . rw [if_pos hpk] at q; cases q; exact absurd hpk hk
    . rw [if_neg hpk] at q; subst q; exact hp
theorem zbj.drop {l:List (Str×Int)} {b:Book Str} (h:zbj l b) (k:Str):zbj (zq5 l k) (up b k none):=by
 unfold zq5
 refine ⟨?_,λ k' v'=>?_⟩
 . exact h.nd.sublist (List.filter_sublist.map _)
 . rw [List.mem_filter]
   by_cases hk:k'=k
   . subst hk; rw [zag]; simp
   . rw [zan hk,<-h.mem]; simp [hk]
theorem zbj.zpN {l:List (Str×Int)} {b:Book Str} (h:zbj l b) {k:Str} (e:b k=none):zbj l (up b k none):=by
 have:up b k none=b:=by
  funext x; by_cases hx:x=k
  . subst hx; rw [zag,e]
  . rw [zan hx]
 rw [this]; exact h
theorem zbj.len {l:List (Str×Int)} {b:Book Str} (h:zbj l b) {ks:List Str} (nd:ks.Nodup) (hk:∀ k,b k≠none->k∈ks):l.length<=ks.length:=by
 have:∀ (a c:List Str),a.Nodup->(∀ x∈a,x∈c)->a.length<=c.length:=λ a=>by
  induction a with
  | nil=>intro c _ _; simp
  | cons x r ih =>
   intro c nd hs
   obtain ⟨n1,n2⟩:=List.nodup_cons.mp nd
   have hx:=hs x List.mem_cons_self
   have:=ih (c.erase x) n2 λ z hz=>(List.mem_erase_of_ne (show z≠x from λ e=>n1 (e ▸ hz))).mpr (hs z (List.mem_cons_of_mem _ hz))
   rw [List.length_erase_of_mem hx] at this
   have hpos:0 < c.length:=List.length_pos_of_mem hx
   simp only [List.length_cons]; omega
 have:=this (l.map (·.1)) ks h.nd λ x hx=>by
  obtain ⟨p,hp,rfl⟩:=List.mem_map.mp hx
  exact hk p.1 (by rw [(h.mem p.1 p.2).mp hp]; exact λ z=>nomatch z)
 rwa [List.length_map] at this
def zdO (ad:Role->Addr) (seen:List Str):List (Key×V):=seen.map λ k=>(Sum.inr k,.ref (ad (.desk k)))
theorem zel (ad:Role->Addr) (k:Str):∀ seen:List Str,valV (zdO ad seen) (Sum.inr k)=if k∈seen then some (.ref (ad (.desk k))) else none
 | []=>rfl
 | x::r=>by
  unfold zdO
  rw [List.map_cons]
  by_cases e:x=k
  . subst e; rw [zep rfl]; simp
  . rw [zeq λ z=>e (Sum.inr.inj z)]
    have:=zel ad k r
    unfold zdO at this
    rw [this]
    have:(k∈x::r)↔k∈r:=by rw [List.mem_cons]; exact ⟨λ z=>z.resolve_left λ q=>e q.symm,.inr⟩
    by_cases hk:k∈r
    . rw [if_pos hk,if_pos (this.mpr hk)]
    . rw [if_neg hk,if_neg λ z=>hk (this.mp z)]
theorem zdu {H:Hp} {us:List V} {xss:List (List V)} (t:zap H us xss) {i:Nat} {x:V} (h:us[i]?=some x):∃ y,xss[i]?=some y/\TupAt H x y:=S6.zjF t h
theorem zdZ {H:Hp}:∀ {us:List V} {xss:List (List V)},zap H us xss->∀ {i:Nat} {y:List V},xss[i]?=some y->∃ x,us[i]?=some x/\TupAt H x y
 | _,_,.nil,_,_,h=>by simp at h
 | _,_,.cons r _,0,_,h=>by simp at h; subst h; exact ⟨_,rfl,r⟩
 | _,_,.cons _ t,i+1,_,h=>by
  obtain ⟨x,h1,h2⟩:=zdZ t (i:=i) (by simpa using h)
  exact ⟨x,by simpa using h1,h2⟩
theorem zbu {H H':Hp} (m:Same H H') {us:List V} {xss:List (List V)} (t:zap H us xss):zap H' us xss:=by
 induction t with
 | nil=>exact .nil
 | cons r _ ih=>obtain ⟨p,e,q⟩:=r; exact .cons ⟨p,e,m p _ q⟩ ih
theorem zrw {H:Hp} {a q:Addr} {x o y:HO} (e:H a=some y) (hq:H q=none):upd (upd (upd H a x) q o) a y=upd H q o:=by
 funext b
 by_cases hb:b=a
 . subst hb; rw [zab,zaf (zah e hq)]; exact e.symm
 . rw [zaf hb]
   by_cases hbq:b=q
   . subst hbq; rw [zab,zab]
   . rw [zaf hbq,zaf hb,zaf hbq]
end TP
end
section
namespace TP
open PySem L2 TH
structure zdT (A:Ad) (H:Hp) (p hd rw:Addr) (h r:List (Nat×Bool)):Prop where
 ob:∃ dx,H p=some (.ins A.zcf dx (ziI hd rw))
 hd:H hd=some (.dK (zcb h))
 rw:∃ us,H rw=some (.lst us)/\zap H us (r.map zcn)
def znK (A:Ad):Sp:=λ vs H Q _=>∃ (p dx:Addr),vs=[.ref p]/\H p=some (.ins A.zcf dx []) /\
 ∀ H' hd rw,H hd=none->H rw=none->H' p=some (.ins A.zcf dx (ziI hd rw))->H' hd=some (.dK [])->H' rw=some (.lst [])->zcw H p H'->Q .non H'
def zaR (l:List Nat):List V:=l.map λ (n:Nat)=>V.int (n:Int)
def zlL (A:Ad):Sp:=λ vs H Q _=>∃ (p hd rw:Addr) (h r:List (Nat×Bool)) (d:Nat) (w:Bool),vs=[.ref p,.int d,.str (useS w)]/\zdT A H p hd rw h r/\h.length<=1000/\(h.map (·.1)).Nodup /\
 ∀ H' q,H q=none->Same H H'->H' q=some (.lst (zaR (hind h d w)))->Q (.ref q) H'
def zmX (A:Ad):Sp:=λ vs H Q _=>∃ (p hd rw:Addr) (h r:List (Nat×Bool)) (d:Nat) (w:Bool),vs=[.ref p,.int d,.str (useS w)]/\zdT A H p hd rw h r/\h.length<=1000/\(h.map (·.1)).Nodup /\
 ∀ H',Same H H'->Q (.bl (lets h d w)) H'
def zkt (A:Ad):Sp:=λ vs H Q _=>∃ (p hd rw:Addr) (h r:List (Nat×Bool)) (d:Nat) (w:Bool),vs=[.ref p,.int d,.str (useS w)]/\zdT A H p hd rw h r/\h.length<=1000/\(h.map (·.1)).Nodup /\
 ∀ H',Same H H'->Q (.bl ((has h d || r.isEmpty) && lets h d w)) H'
def zpl (h:List (Nat×Bool)):List (Nat×Bool)->Bool
 | []=>false
 | (d,w)::_=>lets h d w
def zlK (A:Ad):Sp:=λ vs H Q _=>∃ (p hd rw:Addr) (h r:List (Nat×Bool)),vs=[.ref p]/\zdT A H p hd rw h r/\h.length<=1000/\(h.map (·.1)).Nodup /\
 ∀ H',Same H H'->Q (.bl (zpl h r)) H'
def zsS (A:Ad):Sp:=λ vs H Q _=>∃ (p hd rw:Addr) (h r:List (Nat×Bool)) (d:Nat) (w:Bool),vs=[.ref p,.int d,.str (useS w)]/\zdT A H p hd rw h r/\h.length<=1000/\(h.map (·.1)).Nodup /\
 ∀ H',H' hd=some (.dK (zcb (take1 h d w)))->zcw H hd H'->Q .non H'
def zqH (h r:List (Nat×Bool)) (d:Nat) (w:Bool):List (Nat×Bool):=if has h d then (d,w)::r else r++[(d,w)]
def zqf (A:Ad):Sp:=λ vs H Q _=>∃ (p hd rw:Addr) (h r:List (Nat×Bool)) (d:Nat) (w:Bool),vs=[.ref p,.int d,.str (useS w)]/\zdT A H p hd rw h r/\r.length<=1000 /\
 ∀ H' us,H' rw=some (.lst us)->zap H' us ((zqH h r d w).map zcn)->zcw H rw H'->Q .non H'
def zrK (A:Ad):Sp:=λ vs H Q _=>∃ (p hd rw dx:Addr) (h r:List (Nat×Bool)) (d:Nat),vs=[.ref p,.int d]/\zdT A H p hd rw h r/\H p=some (.ins A.zcf dx (ziI hd rw))/\r.length<=1000 /\
 ∀ H' rw' us,H rw'=none->H' p=some (.ins A.zcf dx (ziI hd rw'))->H' hd=some (.dK (zcb (less h d)))->H' rw'=some (.lst us)->zap H' us ((less r d).map zcn)->(∀ b o,H b=some o->b≠p->b≠hd->H' b=some o)->Q .non H'
def zks (A:Ad):Sp:=λ vs H Q _=>∃ (p hd rw:Addr) (h r:List (Nat×Bool)) (d:Nat) (w:Bool),vs=[.ref p,.int d,.str (useS w)]/\zdT A H p hd rw h r/\h.length<=1000/\(h.map (·.1)).Nodup/\r.length<=1000/\(d,w)∈r/\(r.map (·.1)).Nodup /\
 ∀ H' q,H q=none->Same H H'->H' q=some (.lst (zaR (zjN h r d w)))->Q (.ref q) H'
theorem zeM {c:Bool} {A B:Prop} (b:Bool) (h:c=b) (k:if b=true then A else B):if c=true then A else B:=by rw [h]; exact k
theorem zbl {c:Bool} {A B:Prop} (h:c=true) (k:A):if c=true then A else B:=by rw [if_pos h]; exact k
theorem zaJ {c:Bool} {A B:Prop} (h:c=false) (k:B):if c=true then A else B:=by rw [if_neg (by rw [h]; exact Bool.false_ne_true)]; exact k
theorem zpL (a b:Nat):decide (V.int (a:Int)=V.int (b:Int))=(a == b):=by
 rw [Bool.eq_iff_iff,decide_eq_true_eq,beq_iff_eq]
 exact ⟨λ h=>by have:=V.int.inj h; omega,λ h=>by rw [h]⟩
theorem zrg (a b:Nat):(!decide (V.int (a:Int)=V.int (b:Int)))=(a != b):=by rw [zpL]; rfl
theorem zk6 (h:List (Nat×Bool)) (d:Nat):(look h d).isSome=has h d:=by
 unfold look has
 rw [Option.isSome_map]
 induction h with
 | nil=>rfl
 | cons p r ih =>
  rw [List.find?_cons,List.any_cons]
  cases e:(p.1 == d) with
  | true=>rfl
  | false=>rw [Bool.false_or]; exact ih
theorem zp9 {a b:Bool}:(V.str (useS a)=V.str (useS b))↔a=b:=by
 refine ⟨λ h=>?_,λ h=>by rw [h]⟩
 have e:=V.str.inj h
 cases a <;> cases b <;> first | rfl | exact absurd e (by decide +kernel)
theorem zhj (w:Bool):decide (V.str (useS w)=V.str "writing")=w:=by
 have:=zp9 (a:=w) (b:=true)
 cases w with
 | true=>exact decide_eq_true rfl
 | false=>exact decide_eq_false λ z=>by cases this.mp z
theorem zdT.same {A:Ad} {H H':Hp} {p hd rw:Addr} {h r:List (Nat×Bool)} (D:zdT A H p hd rw h r) (m:Same H H'):zdT A H' p hd rw h r:=by
 obtain ⟨⟨dx,e⟩,e2,us,e3,t⟩:=D
 exact ⟨⟨dx,m _ _ e⟩,m _ _ e2,us,m _ _ e3,zbu m t⟩
theorem zpy (h:List (Nat×Bool)) (d:Nat) (w:Bool):decide ((hind h d w).length=0)=lets h d w:=by
 unfold hind lets
 rw [List.length_map]
 rw [Bool.eq_iff_iff,decide_eq_true_eq,List.length_eq_zero_iff,List.filter_eq_nil_iff,List.all_eq_true]
 refine forall_congr' λ p=>forall_congr' λ _=>?_
 cases w <;> cases p.2 <;> simp
end TP
namespace TP
open PySem L2 TH
theorem zm5 {H:Hp}:∀ {us:List V} {r:List (Nat×Bool)},zap H us (r.map zcn)->DVs H us (r.map λ p=>PySem.W.Dat.tuple [.int p.1,.str (useS p.2)])
 | [],[],_=>.nil
 | _::_,_::_,.cons ⟨p,e,q⟩ t=>by subst e; exact .cons (.tup q (.cons (.int _) (.cons (.str _) .nil))) (zm5 t)
theorem zsz (w:Bool):PyData.strOk (useS w)=true:=by cases w <;> decide +kernel
theorem zo1 (i:Int) (w:Bool):PySem.W.kqdOk 7 (.tuple [.int i,.str (useS w)])=true:=by
 simp only [PySem.W.kqdOk,List.all_cons,List.all_nil,zsz,Bool.and_self]
end TP
end
section
namespace TP
open PySem L2 TH
section
variable {A:Ad} {ρ:Addr->Role} {ad:Role->Addr} {s s':HS Str} {kv kv':Book Str} {H H':Hp}
theorem zai.hall (h:zai A ρ ad s kv H):∃ dx,H (ad .hall)=some (.ins A.zaX dx (zme ad)):=by
 obtain ⟨o,e,dx,rfl⟩:=h.at_ .hall trivial; exact ⟨dx,e⟩
theorem zai.recs (h:zai A ρ ad s kv H):H (ad .recs)=some (.lst ((List.range s.n).map λ i=>.ref (ad (.rcd i)))):=by
 obtain ⟨o,e,r⟩:=h.at_ .recs trivial; rw [e]; exact congrArg some r
theorem zai.zbP (h:zai A ρ ad s kv H):H (ad .zbP)=some (.dK (zdO ad s.seen)):=by
 obtain ⟨o,e,r⟩:=h.at_ .zbP trivial; rw [e]; exact congrArg some r
theorem zai.zci (h:zai A ρ ad s kv H):∃ l,H (ad .zci)=some (.dK (bkV l))/\zbj l s.book:=by
 obtain ⟨o,e,l,rfl,b⟩:=h.at_ .zci trivial; exact ⟨l,e,b⟩
theorem zai.zcV (h:zai A ρ ad s kv H):∃ l,H (ad .zcV)=some (.dK (bkV l))/\zbj l kv:=by
 obtain ⟨o,e,l,rfl,b⟩:=h.at_ .zcV trivial; exact ⟨l,e,b⟩
theorem zai.order (h:zai A ρ ad s kv H):H (ad .order)=some (.lst (zaR s.kept)):=by
 obtain ⟨o,e,r⟩:=h.at_ .order trivial; rw [e]; exact congrArg some r
theorem zai.rows (h:zai A ρ ad s kv H):∃ us,H (ad .rows)=some (.lst us)/\zap H us (s.log.map rowV):=by
 obtain ⟨o,e,us,rfl,t⟩:=h.at_ .rows trivial; exact ⟨us,e,t⟩
theorem zai.rcd (h:zai A ρ ad s kv H) {i:Nat} (hi:i < s.n):∃ dx w,H (ad (.rcd i))=some (.ins A.zaC dx (recF (s.deed i).st (ad (.did i)) w))/\zcv A H w (wantOf (s.deed i)):=by
 obtain ⟨o,e,dx,w,rfl,t⟩:=h.at_ (.rcd i) hi; exact ⟨dx,w,e,t⟩
theorem zai.did (h:zai A ρ ad s kv H) {i:Nat} (hi:i < s.n):∃ us,H (ad (.did i))=some (.lst us)/\zap H us ((s.deed i).done.map actV):=by
 obtain ⟨o,e,us,rfl,t⟩:=h.at_ (.did i) hi; exact ⟨us,e,t⟩
theorem zai.recAt (h:zai A ρ ad s kv H) {i:Nat} (hi:i < s.n):∃ w,RecAt A H (ad (.rcd i)) (s.deed i).st (ad (.did i)) w (s.deed i).done/\zcv A H w (wantOf (s.deed i)):=by
 obtain ⟨dx,w,e,t⟩:=h.rcd hi
 exact ⟨w,⟨⟨dx,e⟩,h.did hi⟩,t⟩
theorem zai.desk (h:zai A ρ ad s kv H) {k:Str} (hk:k∈s.seen):zdT A H (ad (.desk k)) (ad (.held k)) (ad (.row k)) (s.held k) (s.rows k):=by
 obtain ⟨o,e,dx,rfl⟩:=h.at_ (.desk k) hk
 obtain ⟨o2,e2,r2⟩:=h.at_ (.held k) hk
 obtain ⟨o3,e3,us,rfl,t⟩:=h.at_ (.row k) hk
 exact ⟨⟨dx,e⟩,by rw [e2]; exact congrArg some r2,us,e3,t⟩
theorem zai.zfz (h:zai A ρ ad s kv H) {i:Nat} (hi:i < s.n):((List.range s.n).map λ i=>V.ref (ad (.rcd i)))[i]?=some (V.ref (ad (.rcd i))):=by
 rw [List.getElem?_map,List.getElem?_range hi]; rfl
theorem zai.zfT (h:zai A ρ ad s kv H) {k:Str} (hk:k∈s.seen):DGet H (ad .zbP) (V.str k) (some (.ref (ad (.desk k)))):=by
 have:=DGet.k (k:=Sum.inr k) h.zbP
 rw [zel,if_pos hk] at this; exact this
theorem Imm.zgm (ok:AdOk A) {r:Role} (h:zai A ρ ad s kv H) (l:live s r) (kp:zcw H (ad r) H'):Imm A H H':=by
 obtain ⟨o₀,e₀,a₀⟩:=h.at_ r l
 obtain ⟨m1,m2⟩:=a₀.mut ok
 exact ⟨λ p xs e=>kp p _ e (zbG e e₀ λ z=>m1 xs z.symm),λ p dx fs e=>kp p _ e (zbG e e₀ λ z=>m2 dx fs z.symm)⟩
theorem zai.put' (ok:AdOk A) (h:zai A ρ ad s kv H) {r:Role} {o:HO} (l:live s r) (e:H' (ad r)=some o) (kp:zcw H (ad r) H') (new:At A ad s' kv' H' r o) (lv:∀ r',r'≠r->live s' r'->live s r')
   (oth:∀ r' o',r'≠r->live s' r'->At A ad s kv H' r' o'->At A ad s' kv' H' r' o'):zai A ρ ad s' kv' H'/\Frame ρ H ρ H':=by
 have im:=Imm.zgm ok h l kp
 refine ⟨⟨λ r' l'=>?_,λ r' l'=>?_,λ b eb=>?_⟩,λ b u eb q=>?_,im.tup⟩
 . by_cases hr:r'=r
   . subst hr; exact ⟨o,e,new⟩
   . obtain ⟨o',e',a'⟩:=h.at_ r' (lv r' hr l')
     exact ⟨o',kp _ _ e' (h.ne (lv r' hr l') l hr),oth r' o' hr l' (a'.mono im)⟩
 . by_cases hr:r'=r
   . subst hr; exact h.ro r' l
   . exact h.ro r' (lv r' hr l')
 . refine h.fr b ?_
   cases q:H b with
   | none=>rfl
   | some u =>
     by_cases z:b=ad r
     . subst z; rw [e] at eb; cases eb
     . rw [kp b u q z] at eb; cases eb
 . have hb:b≠ad r:=λ z=>by rw [z,h.ro r l] at q; exact zpk l q
   exact ⟨kp b u eb hb,q⟩
theorem zdf {s s':HS Str} (h1:s'.n=s.n) (h2:s'.seen=s.seen) {r:Role} (l:live s' r):live s r:=by
 cases r <;> first | exact l | (show _ < s.n; rw [<-h1]; exact l) | (show _∈s.seen; rw [<-h2]; exact l)
theorem zai.znx (ok:AdOk A) (h:zai A ρ ad s kv H) {row:Row Str} {us:List V} {v:V} (e0:H (ad .rows)=some (.lst us)) (e:H' (ad .rows)=some (.lst (us++[v]))) (kp:zcw H (ad .rows) H') (t:TupAt H' v (rowV row)) :
   zai A ρ ad { s with log:=s.log++[row] } kv H'/\Frame ρ H ρ H':=by
 obtain ⟨us',e1,tu⟩:=h.rows
 rw [e0] at e1; cases e1
 refine h.put' ok (r:=.rows) trivial e kp ⟨_,rfl,?_⟩ (λ r' _ l=>zdf (s:=s) rfl rfl l) λ r' o' hr l a=>?_
 . show zap H' _ ((s.log++[row]).map rowV)
   rw [List.map_append]
   exact S6.zb8 (zap.mono (Imm.zgm ok h (r:=.rows) trivial kp) tu) t
 . cases r' <;> first | exact a | exact absurd rfl hr
theorem zai.zq6 (ok:AdOk A) (h:zai A ρ ad s kv H) {d:Nat} (e:H' (ad .order)=some (.lst (zaR s.kept++[V.int (d:Int)]))) (kp:zcw H (ad .order) H') :
   zai A ρ ad { s with kept:=s.kept++[d] } kv H'/\Frame ρ H ρ H':=by
 refine h.put' ok (r:=.order) trivial e kp ?_ (λ r' _ l=>zdf (s:=s) rfl rfl l) λ r' o' hr l a=>?_
 . show _=HO.lst ((s.kept++[d]).map _)
   rw [List.map_append]; rfl
 . cases r' <;> first | exact a | exact absurd rfl hr
theorem zai.zmY (ok:AdOk A) (h:zai A ρ ad s kv H) {l:List (Str×Int)} {b:Book Str} (e:H' (ad .zci)=some (.dK (bkV l))) (kp:zcw H (ad .zci) H') (hb:zbj l b) :
  zai A ρ ad { s with book:=b } kv H'/\Frame ρ H ρ H':=by
 refine h.put' ok (r:=.zci) trivial e kp ⟨l,rfl,hb⟩ (λ r' _ l=>zdf (s:=s) rfl rfl l) λ r' o' hr l a=>?_
 cases r' <;> first | exact a | exact absurd rfl hr
theorem zai.zqm (ok:AdOk A) (h:zai A ρ ad s kv H) {l:List (Str×Int)} {b:Book Str} (e:H' (ad .zcV)=some (.dK (bkV l))) (kp:zcw H (ad .zcV) H') (hb:zbj l b) :
  zai A ρ ad s b H'/\Frame ρ H ρ H':=by
 refine h.put' ok (r:=.zcV) trivial e kp ⟨l,rfl,hb⟩ (λ r' _ l=>zdf (s:=s) rfl rfl l) λ r' o' hr l a=>?_
 cases r' <;> first | exact a | exact absurd rfl hr
theorem zai.zoL (ok:AdOk A) (h:zai A ρ ad s kv H) {d:Nat} (hd:d < s.n) {D:Deed Str} {w:V} {dx:Addr} (e:H' (ad (.rcd d))=some (.ins A.zaC dx (recF D.st (ad (.did d)) w))) (kp:zcw H (ad (.rcd d)) H') (hw:zcv A H' w (wantOf D)) (hdn:D.done=(s.deed d).done) :
   zai A ρ ad { s with deed:=up s.deed d D } kv H'/\Frame ρ H ρ H':=by
 refine h.put' ok (r:=.rcd d) hd e kp ?_ (λ r' _ l=>zdf (s:=s) rfl rfl l) λ r' o' hr l a=>?_
 . refine ⟨dx,w,?_,?_⟩
   . show _=HO.ins A.zaC dx (recF (up s.deed d D d).st _ w)
     rw [zag]
   . show zcv A H' w (wantOf (up s.deed d D d))
     rw [zag]; exact hw
 . cases r' with
   | rcd i =>
     have hi:i≠d:=λ z=>hr (by rw [z])
     obtain ⟨dx',w',e',t⟩:=a
     refine ⟨dx',w',?_,?_⟩
     . show _=HO.ins A.zaC dx' (recF (up s.deed d D i).st _ w')
       rw [zan hi]; exact e'
     . show zcv A H' w' (wantOf (up s.deed d D i))
       rw [zan hi]; exact t
   | did i =>
     obtain ⟨us,e',t⟩:=a
     refine ⟨us,e',?_⟩
     show zap H' us ((up s.deed d D i).done.map actV)
     by_cases hi:i=d
     . subst hi; rw [zag,hdn]; exact t
     . rw [zan hi]; exact t
   | _=>exact a
theorem zai.ztL (ok:AdOk A) (h:zai A ρ ad s kv H) {d:Nat} (hd:d < s.n) {a:Act Str} {us:List V} {v:V} (e0:H (ad (.did d))=some (.lst us)) (e:H' (ad (.did d))=some (.lst (us++[v]))) (kp:zcw H (ad (.did d)) H') (t:TupAt H' v (actV a)) :
   zai A ρ ad { s with deed:=up s.deed d { s.deed d with done:=(s.deed d).done++[a] } } kv H'/\Frame ρ H ρ H':=by
 obtain ⟨us',e1,tu⟩:=h.did hd
 rw [e0] at e1; cases e1
 refine h.put' ok (r:=.did d) hd e kp ⟨_,rfl,?_⟩ (λ r' _ l=>zdf (s:=s) rfl rfl l) λ r' o' hr l b=>?_
 . show zap H' _ ((up s.deed d _ d).done.map actV)
   rw [zag]
   show zap H' _ (((s.deed d).done++[a]).map actV)
   rw [List.map_append]
   exact S6.zb8 (zap.mono (Imm.zgm ok h (r:=.did d) hd kp) tu) t
 . cases r' with
   | rcd i =>
    obtain ⟨dx',w',e',t'⟩:=b
    refine ⟨dx',w',?_,?_⟩
    . show _=HO.ins A.zaC dx' (recF (up s.deed d _ i).st _ w')
      by_cases hi:i=d
      . subst hi; rw [zag]; exact e'
      . rw [zan hi]; exact e'
    . show zcv A H' w' (wantOf (up s.deed d _ i))
      by_cases hi:i=d
      . subst hi; rw [zag]; exact t'
      . rw [zan hi]; exact t'
   | did i =>
    have hi:i≠d:=λ z=>hr (by rw [z])
    obtain ⟨us',e',t'⟩:=b
    refine ⟨us',e',?_⟩
    show zap H' us' ((up s.deed d _ i).done.map actV)
    rw [zan hi]; exact t'
   | _=>exact b
theorem zai.zrS (ok:AdOk A) (h:zai A ρ ad s kv H) {k:Str} (hk:k∈s.seen) {hs:List (Nat×Bool)} (e:H' (ad (.held k))=some (.dK (zcb hs))) (kp:zcw H (ad (.held k)) H') :
   zai A ρ ad { s with held:=up s.held k hs } kv H'/\Frame ρ H ρ H':=by
 refine h.put' ok (r:=.held k) hk e kp ?_ (λ r' _ l=>zdf (s:=s) rfl rfl l) λ r' o' hr l b=>?_
 . show _=HO.dK (zcb (up s.held k hs k))
   rw [zag]
 . cases r' with
   | held j =>
    have hj:j≠k:=λ z=>hr (by rw [z])
    show o'=HO.dK (zcb (up s.held k hs j))
    rw [zan hj]; exact b
   | _=>exact b
theorem zai.zra (ok:AdOk A) (h:zai A ρ ad s kv H) {k:Str} (hk:k∈s.seen) {r:List (Nat×Bool)} {us:List V} (e:H' (ad (.row k))=some (.lst us)) (kp:zcw H (ad (.row k)) H') (t:zap H' us (r.map zcn)) :
   zai A ρ ad { s with rows:=up s.rows k r } kv H'/\Frame ρ H ρ H':=by
 refine h.put' ok (r:=.row k) hk e kp ?_ (λ r' _ l=>zdf (s:=s) rfl rfl l) λ r' o' hr l b=>?_
 . refine ⟨us,rfl,?_⟩
   show zap H' us ((up s.rows k r k).map zcn)
   rw [zag]; exact t
 . cases r' with
   | row j =>
    have hj:j≠k:=λ z=>hr (by rw [z])
    obtain ⟨us',e',t'⟩:=b
    refine ⟨us',e',?_⟩
    show zap H' us' ((up s.rows k r j).map zcn)
    rw [zan hj]; exact t'
   | _=>exact b
theorem zai.leave (ok:AdOk A) (h:zai A ρ ad s kv H) {k:Str} {d:Nat} (hk:k∈s.seen) {dx p':Addr} {us:List V} (n:H p'=none) (e1:H' (ad (.desk k))=some (.ins A.zcf dx (ziI (ad (.held k)) p'))) (e2:H' (ad (.held k))=some (.dK (zcb (less (s.held k) d)))) (e3:H' p'=some (.lst us)) (t:zap H' us ((less (s.rows k) d).map zcn))
   (kp:∀ b o,H b=some o->b≠ad (.desk k)->b≠ad (.held k)->H' b=some o):∃ ρ' ad',ad' .hall=ad .hall/\zai A ρ' ad' (zef s d k) kv H'/\Frame ρ H ρ' H':=by
 obtain ⟨dx0,d0⟩:=(h.desk hk).ob
 have d1:=(h.desk hk).hd
 have im:Imm A H H':=⟨λ p xs e=>kp p _ e (zbG e d0 λ z=>nomatch z) (zbG e d1 λ z=>nomatch z),λ p dx fs e=>kp p _ e (zbG e d0 λ z=>by injection z with z; exact ok.wd z) (zbG e d1 λ z=>nomatch z)⟩
 have adn:∀ r,live s r->ad r≠p':=λ r l z=>by
   obtain ⟨o,e,_⟩:=h.at_ r l
   rw [z,n] at e; cases e
 refine ⟨up ρ p' (.row k),up ad (.row k) p',zan (by intro z; cases z),⟨λ r l=>?_,λ r l=>?_,λ b eb=>?_⟩,λ b o eb q=>?_,im.tup⟩
 . have l0:live s r:=zdf (s:=s) rfl rfl l
   by_cases hr:r=.row k
   . subst hr
     refine ⟨.lst us,by rw [zag]; exact e3,us,rfl,?_⟩
     show zap H' us ((up s.rows k (less (s.rows k) d) k).map zcn)
     rw [zag]; exact t
   . have ea:up ad (.row k) p' r=ad r:=zan hr
     rw [ea]
     by_cases hr1:r=.desk k
     . subst hr1
       refine ⟨_,e1,dx,?_⟩
       show _=HO.ins A.zcf dx (ziI (up ad (.row k) p' (.held k)) (up ad (.row k) p' (.row k)))
       rw [zag,zan (by intro z; cases z)]
     . by_cases hr2:r=.held k
       . subst hr2
         refine ⟨_,e2,?_⟩
         show _=HO.dK (zcb (up s.held k (less (s.held k) d) k))
         rw [zag]
       . obtain ⟨o,e,a⟩:=h.at_ r l0
         refine ⟨o,kp _ _ e (h.ne l0 hk hr1) (h.ne l0 hk hr2),?_⟩
         have a:=a.mono im
         cases r with
         | hall =>
          obtain ⟨dx',e'⟩:=a
          refine ⟨dx',?_⟩
          rw [e']
          show HO.ins A.zaX dx' (zme ad)=HO.ins A.zaX dx' (zme (up ad (.row k) p'))
          unfold zme
          simp only [zan (show (Role.recs:Role)≠.row k by intro z; cases z),zan (show (Role.zbP:Role)≠.row k by intro z; cases z),zan (show (Role.zci:Role)≠.row k by intro z; cases z),zan (show (Role.zcV:Role)≠.row k by intro z; cases z),zan (show (Role.order:Role)≠.row k by intro z; cases z),zan (show (Role.rows:Role)≠.row k by intro z; cases z)]
         | recs =>
          show o=HO.lst ((List.range s.n).map λ i=>V.ref (up ad (.row k) p' (.rcd i)))
          have:(λ i=>V.ref (up ad (.row k) p' (.rcd i)))=λ i=>V.ref (ad (.rcd i)):=funext λ i=>by rw [zan (by intro z; cases z)]
          rw [this]; exact a
         | zbP =>
          show o=HO.dK (s.seen.map λ j=>(Sum.inr j,V.ref (up ad (.row k) p' (.desk j))))
          have:(λ j:Str=>((Sum.inr j:Key),V.ref (up ad (.row k) p' (.desk j))))=λ j=>(Sum.inr j,V.ref (ad (.desk j))):=funext λ j=>by rw [zan (by intro z; cases z)]
          rw [this]; exact a
         | rcd i =>
          obtain ⟨dx',w',e',t'⟩:=a
          refine ⟨dx',w',?_,t'⟩
          rw [e',zan (show (Role.did i:Role)≠.row k by intro z; cases z)]
          rfl
         | desk j =>
          have hj:j≠k:=λ z=>hr1 (by rw [z])
          obtain ⟨dx',e'⟩:=a
          refine ⟨dx',?_⟩
          rw [e',zan (show (Role.held j:Role)≠.row k by intro z; cases z),zan (show (Role.row j:Role)≠.row k by intro z; injection z with z; exact hj z)]
         | held j =>
          have hj:j≠k:=λ z=>hr2 (by rw [z])
          show o=HO.dK (zcb (up s.held k _ j))
          rw [zan hj]; exact a
         | row j =>
          have hj:j≠k:=λ z=>hr (by rw [z])
          obtain ⟨us',e',t'⟩:=a
          refine ⟨us',e',?_⟩
          show zap H' us' ((up s.rows k _ j).map zcn)
          rw [zan hj]; exact t'
         | _=>exact a
 . have l0:live s r:=zdf (s:=s) rfl rfl l
   by_cases hr:r=.row k
   . subst hr; rw [zag,zag]
   . rw [zan hr,zan (adn r l0)]; exact h.ro r l0
 . have hb:b≠p':=λ z=>by rw [z,e3] at eb; cases eb
   rw [zan hb]
   refine h.fr b ?_
   cases q:H b with
   | none=>rfl
   | some u =>
     by_cases z:b=ad (.desk k)
     . rw [z,e1] at eb; cases eb
     . by_cases z2:b=ad (.held k)
       . rw [z2,e2] at eb; cases eb
       . rw [kp b u q z z2] at eb; cases eb
 . have hb:b≠p':=zah eb n
   refine ⟨kp b o eb (λ z=>?_) λ z=>?_,by rw [zan hb]; exact q⟩
   . rw [z,h.ro (.desk k) hk] at q; cases q
   . rw [z,h.ro (.held k) hk] at q; cases q
end
end TP
end
section
namespace TP
open PySem L2 TH
section
variable {A:Ad} {ρ:Addr->Role} {ad:Role->Addr} {s s':HS Str} {kv kv':Book Str} {H H':Hp}
theorem zai.more (ok:AdOk A) (h:zai A ρ ad s kv H) (r0:Role) (l0:live s r0) (N:Role->Prop) (ρ':Addr->Role) (ad':Role->Addr) (kp:zcw H (ad r0) H') (e0:∃ o,H' (ad r0)=some o)
   (lv:∀ r,live s' r->N r\/live s r) (same:∀ r,¬ N r->ad' r=ad r) (nr0:¬ N r0)
   (new:∀ r,live s' r->N r->H (ad' r)=none/\ρ' (ad' r)=r/\∃ o,H' (ad' r)=some o/\At A ad' s' kv' H' r o) (chg:∀ o,H' (ad r0)=some o->At A ad' s' kv' H' r0 o)
   (oth:∀ r o,r≠r0->¬ N r->live s' r->At A ad s kv H' r o->At A ad' s' kv' H' r o) (hρ:∀ b,(∃ o,H b=some o)->ρ' b=ρ b) (hρ2:∀ b,H' b=none->ρ' b=.other):zai A ρ' ad' s' kv' H'/\Frame ρ H ρ' H':=by
 have im:=Imm.zgm ok h l0 kp
 refine ⟨⟨λ r l=>?_,λ r l=>?_,hρ2⟩,λ b u eb q=>?_,im.tup⟩
 . by_cases hn:N r
   . obtain ⟨_,_,o,e,a⟩:=new r l hn; exact ⟨o,e,a⟩
   . rw [same r hn]
     have ls:=(lv r l).resolve_left hn
     by_cases hr:r=r0
     . subst hr
       obtain ⟨o,e⟩:=e0
       exact ⟨o,e,chg o e⟩
     . obtain ⟨o',e',a'⟩:=h.at_ r ls
       exact ⟨o',kp _ _ e' (h.ne ls l0 hr),oth r o' hr hn l (a'.mono im)⟩
 . by_cases hn:N r
   . exact (new r l hn).2.1
   . rw [same r hn]
     have ls:=(lv r l).resolve_left hn
     obtain ⟨o',e',_⟩:=h.at_ r ls
     rw [hρ _ ⟨o',e'⟩]; exact h.ro r ls
 . have hb:b≠ad r0:=λ z=>by rw [z,h.ro r0 l0] at q; exact zpk l0 q
   exact ⟨kp b u eb hb,by rw [hρ b ⟨u,eb⟩]; exact q⟩
theorem zai.addRec (ok:AdOk A) (h:zai A ρ ad s kv H) {p d dx:Addr} (np:H p=none) (nd:H d=none) (e0:H' (ad .recs)=some (.lst (((List.range s.n).map λ i=>V.ref (ad (.rcd i)))++[.ref p]))) (e1:H' p=some (.ins A.zaC dx (recF .zaq d .non))) (e2:H' d=some (.lst [])) (kp:zcw H (ad .recs) H') :
   ∃ ρ' ad',ad' .hall=ad .hall/\zai A ρ' ad' { s with n:=s.n+1,deed:=up s.deed s.n ⟨.zaq,[],none⟩ } kv H'/\Frame ρ H ρ' H':=by
 have hpd:p≠d:=zbG e1 e2 λ z=>nomatch z
 have a1:∀ r,r≠.rcd s.n->r≠.did s.n->up (up ad (.rcd s.n) p) (.did s.n) d r=ad r:=λ r h1 h2=>by rw [zan h2,zan h1]
 have ar:up (up ad (.rcd s.n) p) (.did s.n) d (.rcd s.n)=p:=by rw [zan (by intro z; cases z),zag]
 have adn:up (up ad (.rcd s.n) p) (.did s.n) d (.did s.n)=d:=zag
 have st:∀ (x:Addr),H x=none->x≠p->x≠d->up (up ρ p (.rcd s.n)) d (.did s.n) x=ρ x:=λ x _ h1 h2=>by rw [zan h2,zan h1]
 refine ⟨up (up ρ p (.rcd s.n)) d (.did s.n),up (up ad (.rcd s.n) p) (.did s.n) d,a1 _ (by intro z; cases z) (by intro z; cases z),?_⟩
 refine h.more ok .recs trivial (λ r=>r=.rcd s.n\/r=.did s.n) _ _ kp ⟨_,e0⟩ (λ r l=>?_) (λ r hn=>a1 r (λ z=>hn (.inl z)) λ z=>hn (.inr z)) (by rintro (z | z) <;> cases z) (λ r l hn=>?_) (λ o e=>?_) (λ r o hr hn l a=>?_) (λ b ⟨o,eb⟩=>?_) λ b eb=>?_
 . cases r with
   | rcd i =>
     have hi:i < s.n+1:=l
     rcases Nat.lt_or_ge i s.n with z | z
     . exact .inr z
     . exact .inl (.inl (by rw [show i=s.n by omega]))
   | did i =>
     have hi:i < s.n+1:=l
     rcases Nat.lt_or_ge i s.n with z | z
     . exact .inr z
     . exact .inl (.inr (by rw [show i=s.n by omega]))
   | _=>exact .inr l
 . rcases hn with z | z
   . subst z
     rw [ar]
     refine ⟨np,by rw [zan hpd,zag],_,e1,dx,.non,?_,?_⟩
     . show _=HO.ins A.zaC dx (recF (up s.deed s.n _ s.n).st (up (up ad (.rcd s.n) p) (.did s.n) d (.did s.n)) .non)
       rw [zag,zag]
     . show zcv A H' .non (wantOf (up s.deed s.n ⟨.zaq,[],none⟩ s.n))
       rw [zag]; rfl
   . subst z
     rw [adn]
     refine ⟨nd,zag,_,e2,[],rfl,?_⟩
     show zap H' [] ((up s.deed s.n _ s.n).done.map actV)
     rw [zag]; exact .nil
 . rw [e0] at e
   have e:=Option.some.inj e
   show o=HO.lst ((List.range (s.n+1)).map λ i=>V.ref (up (up ad (.rcd s.n) p) (.did s.n) d (.rcd i)))
   rw [<-e,List.range_succ,List.map_append,List.map_cons,List.map_nil,ar]
   congr 2
   refine List.map_congr_left λ i hi=>?_
   have:i≠s.n:=Nat.ne_of_lt (List.mem_range.mp hi)
   rw [a1 _ (by intro z; injection z with z; exact this z) (by intro z; cases z)]
 . cases r with
   | rcd i =>
     have hi:i≠s.n:=λ z=>hn (.inl (by rw [z]))
     obtain ⟨dx',w',e',t'⟩:=a
     refine ⟨dx',w',?_,?_⟩
     . show _=HO.ins A.zaC dx' (recF (up s.deed s.n _ i).st (up (up ad (.rcd s.n) p) (.did s.n) d (.did i)) w')
       rw [zan hi,a1 _ (by intro z; cases z) (by intro z; injection z with z; exact hi z)]; exact e'
     . show zcv A H' w' (wantOf (up s.deed s.n _ i))
       rw [zan hi]; exact t'
   | did i =>
     have hi:i≠s.n:=λ z=>hn (.inr (by rw [z]))
     obtain ⟨us,e',t'⟩:=a
     refine ⟨us,e',?_⟩
     show zap H' us ((up s.deed s.n _ i).done.map actV)
     rw [zan hi]; exact t'
   | hall =>
     obtain ⟨dx',e'⟩:=a
     refine ⟨dx',?_⟩
     rw [e']
     unfold zme
     simp only [a1 .recs (by intro z; cases z) (by intro z; cases z),a1 .zbP (by intro z; cases z) (by intro z; cases z),a1 .zci (by intro z; cases z) (by intro z; cases z),a1 .zcV (by intro z; cases z) (by intro z; cases z),a1 .order (by intro z; cases z) (by intro z; cases z),a1 .rows (by intro z; cases z) (by intro z; cases z)]
   | recs=>exact absurd rfl hr
   | zbP =>
     show o=HO.dK (s.seen.map λ j=>(Sum.inr j,V.ref (up (up ad (.rcd s.n) p) (.did s.n) d (.desk j))))
     have:(λ j:Str=>((Sum.inr j:Key),V.ref (up (up ad (.rcd s.n) p) (.did s.n) d (.desk j))))=λ j=>(Sum.inr j,V.ref (ad (.desk j))):=funext λ j=>by rw [a1 _ (by intro z; cases z) (by intro z; cases z)]
     rw [this]; exact a
   | desk j =>
     obtain ⟨dx',e'⟩:=a
     refine ⟨dx',?_⟩
     rw [e',a1 (.held j) (by intro z; cases z) (by intro z; cases z),a1 (.row j) (by intro z; cases z) (by intro z; cases z)]
   | _=>exact a
 . rw [zan (zah eb nd),zan (zah eb np)]
 . have h1:b≠p:=λ z=>by rw [z,e1] at eb; cases eb
   have h2:b≠d:=λ z=>by rw [z,e2] at eb; cases eb
   rw [zan h2,zan h1]
   refine h.fr b ?_
   cases q:H b with
   | none=>rfl
   | some u =>
     by_cases z:b=ad .recs
     . rw [z,e0] at eb; cases eb
     . rw [kp b u q z] at eb; cases eb
theorem zai.zsv (ok:AdOk A) (h:zai A ρ ad s kv H) {k:Str} (hk:k∉s.seen) (h1:s.held k=[]) (h2:s.rows k=[]) {p hd rw dx:Addr} (np:H p=none) (nh:H hd=none) (nr:H rw=none)
   (e0:H' (ad .zbP)=some (.dK (zdO ad s.seen++[(Sum.inr k,.ref p)]))) (e1:H' p=some (.ins A.zcf dx (ziI hd rw))) (e2:H' hd=some (.dK [])) (e3:H' rw=some (.lst [])) (kp:zcw H (ad .zbP) H') :
   ∃ ρ' ad',ad' .hall=ad .hall/\zai A ρ' ad' { s with seen:=s.seen++[k] } kv H'/\Frame ρ H ρ' H'/\ad' (.desk k)=p:=by
 have p1:p≠hd:=zbG e1 e2 λ z=>nomatch z
 have p2:p≠rw:=zbG e1 e3 λ z=>nomatch z
 have p3:hd≠rw:=zbG e2 e3 λ z=>nomatch z
 generalize hA:(up (up (up ad (.desk k) p) (.held k) hd) (.row k) rw)=ad'
 have a1:∀ r,r≠.desk k->r≠.held k->r≠.row k->ad' r=ad r:=λ r q1 q2 q3=>by rw [<-hA,zan q3,zan q2,zan q1]
 have ad1:ad' (.desk k)=p:=by rw [<-hA,zan (by intro z; cases z),zan (by intro z; cases z),zag]
 have ad2:ad' (.held k)=hd:=by rw [<-hA,zan (by intro z; cases z),zag]
 have ad3:ad' (.row k)=rw:=by rw [<-hA,zag]
 generalize hR:(up (up (up ρ p (.desk k)) hd (.held k)) rw (.row k))=ρ'
 have r1:∀ b,b≠p->b≠hd->b≠rw->ρ' b=ρ b:=λ b q1 q2 q3=>by rw [<-hR,zan q3,zan q2,zan q1]
 refine ⟨ρ',ad',a1 _ (by intro z; cases z) (by intro z; cases z) (by intro z; cases z),?_⟩
 have main:=h.more (s':={ s with seen:=s.seen++[k] }) (kv':=kv) ok .zbP trivial (λ r=>r=.desk k\/r=.held k\/r=.row k) ρ' ad' kp ⟨_,e0⟩ (λ r l=>?_) (λ r hn=>a1 r (λ z=>hn (.inl z)) (λ z=>hn (.inr (.inl z))) λ z=>hn (.inr (.inr z))) (by rintro (z | z | z) <;> cases z) (λ r l hn=>?_) (λ o e=>?_) (λ r o hr hn l a=>?_) (λ b ⟨o,eb⟩=>?_) λ b eb=>?_
 . exact ⟨main.1,main.2,ad1⟩
 . have mm:∀ j,j∈s.seen++[k]->j=k\/j∈s.seen:=λ j hj=>by
     rcases List.mem_append.mp hj with z | z
     . exact .inr z
     . exact .inl (List.mem_singleton.mp z)
   cases r with
   | desk j=>exact (mm j l).elim (λ z=>.inl (.inl (by rw [z]))) .inr
   | held j=>exact (mm j l).elim (λ z=>.inl (.inr (.inl (by rw [z])))) .inr
   | row j=>exact (mm j l).elim (λ z=>.inl (.inr (.inr (by rw [z])))) .inr
   | _=>exact .inr l
 . rcases hn with z | z | z
   . subst z
     rw [ad1]
     refine ⟨np,by rw [<-hR,zan p2,zan p1,zag],_,e1,dx,?_⟩
     rw [ad2,ad3]
   . subst z
     rw [ad2]
     refine ⟨nh,by rw [<-hR,zan p3,zag],_,e2,?_⟩
     show _=HO.dK (zcb (s.held k))
     rw [h1]; rfl
   . subst z
     rw [ad3]
     refine ⟨nr,by rw [<-hR,zag],_,e3,[],rfl,?_⟩
     show zap H' [] ((s.rows k).map zcn)
     rw [h2]; exact .nil
 . rw [e0] at e
   have e:=Option.some.inj e
   show o=HO.dK ((s.seen++[k]).map λ j=>(Sum.inr j,V.ref (ad' (.desk j))))
   rw [<-e,List.map_append,List.map_cons,List.map_nil,ad1]
   unfold zdO
   congr 2
   refine List.map_congr_left λ j hj=>?_
   have:j≠k:=λ z=>hk (z ▸ hj)
   rw [a1 _ (by intro z; injection z with z; exact this z) (by intro z; cases z) (by intro z; cases z)]
 . cases r with
   | rcd i =>
     obtain ⟨dx',w',e',t'⟩:=a
     refine ⟨dx',w',?_,t'⟩
     rw [e',a1 (.did i) (by intro z; cases z) (by intro z; cases z) (by intro z; cases z)]
   | hall =>
     obtain ⟨dx',e'⟩:=a
     refine ⟨dx',?_⟩
     rw [e']
     unfold zme
     simp only [a1 .recs (by intro z; cases z) (by intro z; cases z) (by intro z; cases z),a1 .zbP (by intro z; cases z) (by intro z; cases z) (by intro z; cases z),a1 .zci (by intro z; cases z) (by intro z; cases z) (by intro z; cases z),a1 .zcV (by intro z; cases z) (by intro z; cases z) (by intro z; cases z),a1 .order (by intro z; cases z) (by intro z; cases z) (by intro z; cases z),a1 .rows (by intro z; cases z) (by intro z; cases z) (by intro z; cases z)]
   | recs =>
     show o=HO.lst ((List.range s.n).map λ i=>V.ref (ad' (.rcd i)))
     have:(λ i=>V.ref (ad' (.rcd i)))=λ i=>V.ref (ad (.rcd i)):=funext λ i=>by rw [a1 _ (by intro z; cases z) (by intro z; cases z) (by intro z; cases z)]
     rw [this]; exact a
   | zbP=>exact absurd rfl hr
   | desk j =>
     have hj:j≠k:=λ z=>hn (.inl (by rw [z]))
     obtain ⟨dx',e'⟩:=a
     refine ⟨dx',?_⟩
     rw [e',a1 (.held j) (by intro z; cases z) (by intro z; injection z with z; exact hj z) (by intro z; cases z),a1 (.row j) (by intro z; cases z) (by intro z; cases z) (by intro z; injection z with z; exact hj z)]
   | _=>exact a
 . exact r1 b (zah eb np) (zah eb nh) (zah eb nr)
 . have q1:b≠p:=λ z=>by rw [z,e1] at eb; cases eb
   have q2:b≠hd:=λ z=>by rw [z,e2] at eb; cases eb
   have q3:b≠rw:=λ z=>by rw [z,e3] at eb; cases eb
   rw [r1 b q1 q2 q3]
   refine h.fr b ?_
   cases q:H b with
   | none=>rfl
   | some u =>
     by_cases z:b=ad .zbP
     . rw [z,e0] at eb; cases eb
     . rw [kp b u q z] at eb; cases eb
theorem zai.fresh {a dx p1 p2 p3 p4 p5 p6:Addr} (na:H a=none) (n1:H p1=none) (n2:H p2=none) (n3:H p3=none) (n4:H p4=none) (n5:H p5=none) (n6:H p6=none)
   (e:H' a=some (.ins A.zaX dx [("records",.ref p1),("desks",.ref p2),("standing",.ref p3),("kept_values",.ref p4),("kept_deeds",.ref p5),("rows",.ref p6)]))
   (e1:H' p1=some (.lst [])) (e2:H' p2=some (.dK [])) (e3:H' p3=some (.dK [])) (e4:H' p4=some (.dK [])) (e5:H' p5=some (.lst [])) (e6:H' p6=some (.lst [])) (d1:p1≠p5) (d2:p1≠p6) (d3:p5≠p6) (d4:p2≠p3) (d5:p2≠p4) (d6:p3≠p4) (kp:Same H H') :
   ∃ ρ ad,ad .hall=a/\zai A ρ ad TH.empty (λ _=>none) H'/\∀ b o,H b=some o->ρ b=.other:=by
 let ad:Role->Addr:=λ r=>match r with
   | .hall=>a | .recs=>p1 | .zbP=>p2 | .zci=>p3 | .zcV=>p4 | .order=>p5 | .rows=>p6 | _=>a
 let ρ:Addr->Role:=λ b=>if b=a then .hall else if b=p1 then .recs else if b=p2 then .zbP else if b=p3 then .zci else if b=p4 then .zcV else if b=p5 then .order else if b=p6 then .rows else .other
 have k1:a≠p1:=zbG e e1 λ z=>nomatch z
 have k2:a≠p2:=zbG e e2 λ z=>nomatch z
 have k3:a≠p3:=zbG e e3 λ z=>nomatch z
 have k4:a≠p4:=zbG e e4 λ z=>nomatch z
 have k5:a≠p5:=zbG e e5 λ z=>nomatch z
 have k6:a≠p6:=zbG e e6 λ z=>nomatch z
 have l12:p1≠p2:=zbG e1 e2 λ z=>nomatch z
 have l13:p1≠p3:=zbG e1 e3 λ z=>nomatch z
 have l14:p1≠p4:=zbG e1 e4 λ z=>nomatch z
 have l52:p5≠p2:=zbG e5 e2 λ z=>nomatch z
 have l53:p5≠p3:=zbG e5 e3 λ z=>nomatch z
 have l54:p5≠p4:=zbG e5 e4 λ z=>nomatch z
 have l62:p6≠p2:=zbG e6 e2 λ z=>nomatch z
 have l63:p6≠p3:=zbG e6 e3 λ z=>nomatch z
 have l64:p6≠p4:=zbG e6 e4 λ z=>nomatch z
 have bk:zbj [] (λ _=>none:Book Str):=⟨List.nodup_nil,λ k v=>⟨(λ z=>nomatch z),(λ z=>nomatch z)⟩⟩
 have oth:∀ b,b≠a->b≠p1->b≠p2->b≠p3->b≠p4->b≠p5->b≠p6->ρ b=.other:=λ b q q1 q2 q3 q4 q5 q6=>by
   show (if b=a then Role.hall else _)=_
   rw [if_neg q,if_neg q1,if_neg q2,if_neg q3,if_neg q4,if_neg q5,if_neg q6]
 refine ⟨ρ,ad,rfl,⟨λ r l=>?_,λ r l=>?_,λ b eb=>?_⟩,λ b o eb=>?_⟩
 . cases r with
   | hall=>exact ⟨_,e,dx,rfl⟩
   | recs=>exact ⟨_,e1,rfl⟩
   | zbP=>exact ⟨_,e2,rfl⟩
   | zci=>exact ⟨_,e3,[],rfl,bk⟩
   | zcV=>exact ⟨_,e4,[],rfl,bk⟩
   | order=>exact ⟨_,e5,rfl⟩
   | rows=>exact ⟨_,e6,[],rfl,.nil⟩
   | other=>exact l.elim
   | rcd i=>exact absurd l (Nat.not_lt_zero _)
   | did i=>exact absurd l (Nat.not_lt_zero _)
   | desk k=>exact absurd l (List.not_mem_nil)
   | held k=>exact absurd l (List.not_mem_nil)
   | row k=>exact absurd l (List.not_mem_nil)
 . cases r with
   | hall=>exact if_pos rfl
   | recs=>show (if p1=a then _ else _)=_; rw [if_neg k1.symm,if_pos rfl]
   | zbP=>show (if p2=a then _ else _)=_; rw [if_neg k2.symm,if_neg l12.symm,if_pos rfl]
   | zci=>show (if p3=a then _ else _)=_; rw [if_neg k3.symm,if_neg l13.symm,if_neg d4.symm,if_pos rfl]
   | zcV=>show (if p4=a then _ else _)=_; rw [if_neg k4.symm,if_neg l14.symm,if_neg d5.symm,if_neg d6.symm,if_pos rfl]
   | order=>show (if p5=a then _ else _)=_; rw [if_neg k5.symm,if_neg d1.symm,if_neg l52,if_neg l53,if_neg l54,if_pos rfl]
   | rows=>show (if p6=a then _ else _)=_; rw [if_neg k6.symm,if_neg d2.symm,if_neg l62,if_neg l63,if_neg l64,if_neg d3.symm,if_pos rfl]
   | other=>exact l.elim
   | rcd i=>exact absurd l (Nat.not_lt_zero _)
   | did i=>exact absurd l (Nat.not_lt_zero _)
   | desk k=>exact absurd l (List.not_mem_nil)
   | held k=>exact absurd l (List.not_mem_nil)
   | row k=>exact absurd l (List.not_mem_nil)
 . exact oth b (λ z=>by rw [z,e] at eb; cases eb) (λ z=>by rw [z,e1] at eb; cases eb) (λ z=>by rw [z,e2] at eb; cases eb) (λ z=>by rw [z,e3] at eb; cases eb) (λ z=>by rw [z,e4] at eb; cases eb) (λ z=>by rw [z,e5] at eb; cases eb) (λ z=>by rw [z,e6] at eb; cases eb)
 . exact oth b (zah eb na) (zah eb n1) (zah eb n2) (zah eb n3) (zah eb n4) (zah eb n5) (zah eb n6)
end
end TP
end
section
namespace TP
open PySem L2 TH
structure Sm (s:HS Str):Prop where
 n:s.n<=63
 seen:s.seen.length<=4
 snd:s.seen.Nodup
 dn:∀ d,(s.deed d).done.length<=2000
 lg:s.log.length<=3000
 kp:s.kept.length<=1000
 hl:∀ k,(s.held k).length<=1000
 hn:∀ k,((s.held k).map (·.1)).Nodup
 rl:∀ k,(s.rows k).length<=1000
 bs:∀ k,s.book k≠none->k∈s.seen
theorem zfH:∀ (n:Nat) (l:List Nat),l.Nodup->(∀ x∈l,x < n)->l.length<=n:=λ n l nd h=>by
 have:∀ (a b:List Nat),a.Nodup->(∀ x∈a,x∈b)->a.length<=b.length:=λ a=>by
  induction a with
  | nil=>intro b _ _; simp
  | cons x r ih =>
   intro b nd hs
   obtain ⟨n1,n2⟩:=List.nodup_cons.mp nd
   have hx:=hs x List.mem_cons_self
   have:=ih (b.erase x) n2 λ z hz=>(List.mem_erase_of_ne (show z≠x from λ e=>n1 (e ▸ hz))).mpr (hs z (List.mem_cons_of_mem _ hz))
   rw [List.length_erase_of_mem hx] at this
   have hpos:0 < b.length:=List.length_pos_of_mem hx
   simp only [List.length_cons]; omega
 have:=this l (List.range n) nd λ x hx=>List.mem_range.mpr (h x hx)
 rwa [List.length_range] at this
structure Lim (s:HS Str) (T:Nat):Prop where
 e:Ext s T
 t:T<=1000
 n:s.n<=63
 sn:s.seen.length<=4
theorem Lim.sm {s:HS Str} {T:Nat} {x:Option Nat} (L:Lim s T) (c:Core s x):Sm s where
 n:=L.n
 seen:=L.sn
 snd:=L.e.snd
 dn:=λ d=>by have:=L.e.dn d; have:=L.t; omega
 lg:=by have:=L.e.lg; have:=L.t; omega
 kp:=Nat.le_trans (zfH s.n s.kept c.zh0 λ d hd=>by
  by_cases z:d < s.n
  . exact z
  . have h1:=(c.out d (by omega)).1
    rw [(c.zdp d).mp hd] at h1; cases h1) (by have:=L.n; omega)
 hl:=λ k=>by
  have:=zfH s.n ((s.held k).map (·.1)) (c.hNd k) λ d hd=>by
    obtain ⟨p,hp,rfl⟩:=List.mem_map.mp hd
    exact c.lt (c.hAct k p hp)
  rw [List.length_map] at this
  have:=L.n; omega
 hn:=c.hNd
 rl:=λ k=>by
  have:=zfH s.n ((s.rows k).map (·.1)) (c.rNd k) λ d hd=>by
    obtain ⟨p,hp,rfl⟩:=List.mem_map.mp hd
    exact c.lt (.inr (c.rAct k p hp).1)
  rw [List.length_map] at this
  have:=L.n; omega
 bs:=L.e.zg1
def znI (A:Ad):Sp:=λ vs H Q _=>∃ (p dx:Addr),vs=[.ref p]/\H p=some (.ins A.zaX dx []) /\
 ∀ H' ρ ad,ad .hall=p->zai A ρ ad TH.empty (λ _=>none) H'->(∀ b o,H b=some o->b≠p->H' b=some o/\ρ b=.other)->Q .non H'
def zrN (A:Ad):Sp:=λ vs H Q _=>∃ ρ ad s kv,vs=[.ref (ad Role.hall)]/\zai A ρ ad s kv H/\Sm s/\s.n < 63 /\
 ∀ H' ρ' ad',ad' Role.hall=ad .hall->zai A ρ' ad' (za6 s) kv H'->Frame ρ H ρ' H'->Q (.int s.n) H'
def Out (A:Ad) (s:HS Str) (i:Int) (H:Hp) (E:XK):Prop:=(i < 0\/(s.n:Int)<=i)/\E (.ref A.zbB) none H
def znF (A:Ad):Sp:=λ vs H Q E=>∃ ρ ad s kv i,vs=[.ref (ad Role.hall),.int i]/\zai A ρ ad s kv H/\s.n<=1000 /\
 ((∃ d:Nat,i=d/\d < s.n/\Q (.ref (ad (.rcd d))) H)\/Out A s i H E)
def zqe (A:Ad):Sp:=λ vs H Q E=>∃ ρ ad s kv i,vs=[.ref (ad Role.hall),.int i]/\zai A ρ ad s kv H/\s.n<=1000 /\
 ((∃ d:Nat,i=d/\d < s.n/\((s.deed d).st=.zaq/\Q .non H\/(s.deed d).st≠.zaq/\E (.ref A.zaP) none H))\/Out A s i H E)
def zrM (A:Ad):Sp:=λ vs H Q _=>∃ ρ ad s kv d wv a,vs=[.ref (ad Role.hall),.int (d:Nat),wv]/\zai A ρ ad s kv H/\Sm s/\d < s.n/\a.key∈s.seen/\zcv A H wv (some a) /\
 ∀ H',zai A ρ ad (doIt (zkn s d a.key a.wr) d a) kv H'->Frame ρ H ρ H'->Q .non H'
end TP
namespace TP
open PySem L2 TH
theorem two {G:Hp} {p q:Addr} {x o o':HO} (gp:G p=some x) (nq:G q=none) :
  upd (upd G q o) p o' p=some o'/\upd (upd G q o) p o' q=some o/\(∀ b u,b≠p->G b=some u->upd (upd G q o) p o' b=some u)/\∀ b,upd (upd G q o) p o' b=none->G b=none/\b≠q/\b≠p:=by
 have hpq:p≠q:=zah gp nq
 refine ⟨zab,by rw [zaf hpq.symm,zab],λ b u hb e=>by rw [zaf hb,zaf (zah e nq)]; exact e,λ b e=>?_⟩
 have h1:b≠p:=λ z=>by rw [z,zab] at e; cases e
 rw [zaf h1] at e
 have h2:b≠q:=λ z=>by rw [z,zab] at e; cases e
 rw [zaf h2] at e
 exact ⟨e,h2,h1⟩
end TP
namespace TP
open PySem L2 TH
theorem zsA {α β:Type} [DecidableEq α] (f:α->β) (a:α) (x y:β):up (up f a x) a y=up f a y:=by
 funext b; by_cases h:b=a
 . subst h; rw [zag,zag]
 . rw [zan h,zan h,zan h]
theorem ztD {K:Type} [DecidableEq K] (t:HS K) (d:Nat) (a:Act K) (h:a.wr=true):doIt t d a={ n:=t.n,deed:=up (up t.deed d { t.deed d with st:=.zaq }) d { (up t.deed d { t.deed d with st:=.zaq }) d with done:=((up t.deed d { t.deed d with st:=.zaq }) d).done++[a] },held:=t.held,rows:=t.rows,book:=up t.book a.key (some a.val),seen:=t.seen,log:=t.log++[.write d a.key ((t.book a.key).getD 0) a.val],kept:=t.kept }:=by
 unfold doIt; rw [if_pos h,zsA,zag]
theorem ztE {K:Type} [DecidableEq K] (t:HS K) (d:Nat) (a:Act K) (h:a.wr=false):doIt t d a={ n:=t.n,deed:=up (up t.deed d { t.deed d with st:=.zaq }) d { (up t.deed d { t.deed d with st:=.zaq }) d with done:=((up t.deed d { t.deed d with st:=.zaq }) d).done++[⟨false,a.key,(t.book a.key).getD 0⟩] },held:=t.held,rows:=t.rows,book:=t.book,seen:=t.seen,log:=t.log,kept:=t.kept }:=by
 unfold doIt; rw [if_neg (by rw [h]; exact Bool.false_ne_true),zsA,zag]
end TP
namespace TP
open PySem L2 TH
def znG (A:Ad):Sp:=λ vs H Q _=>∃ ρ ad s kv d,vs=[.ref (ad Role.hall),.int (d:Nat)]/\zai A ρ ad s kv H/\Core s none/\Sm s/\d < s.n /\
 ∀ H' q,H q=none->Same H H'->H' q=some (.lst (zaR (nxt s d)))->Q (.ref q) H'
def zch (l:List Nat):List (Key×V):=l.map λ (x:Nat)=>(Sum.inl (x:Int),V.bl true)
def zqi (A:Ad):Sp:=λ vs H Q _=>∃ ρ ad s kv d,vs=[.ref (ad Role.hall),.int (d:Nat)]/\zai A ρ ad s kv H/\Core s none/\Sm s/\d < s.n /\
 ∀ H' q l,Same H H'->H' q=some (.dK (zch l))->l.Nodup->(∀ x,x∈l↔zc5 s d x)->Q (.ref q) H'
def gotV:Option Nat->V
 | none=>.non
 | some g=>.int (g:Int)
def znJ (A:Ad):Sp:=λ vs H Q _=>∃ ρ ad s kv d,vs=[.ref (ad Role.hall),.int (d:Nat)]/\zai A ρ ad s kv H/\Core s none/\Head s/\Thru s d/\Sm s/\d < s.n /\
 ∀ H',Same H H'->Q (gotV (rings s).getLast?) H'
theorem zre {s:HS Str} (c:Core s none) {d e:Nat} (h:e∈nxt s d):e < s.n:=c.lt (zoz c (zkW h))
theorem zfQ (l:List Nat) (x:Nat):(valV (zch l) (Sum.inl (x:Int))).isSome=decide (x∈l):=by
 unfold zch
 induction l with
 | nil=>rfl
 | cons y r ih =>
  rw [List.map_cons]
  by_cases e:y=x
  . rw [zep (zcQ.mpr e)]; simp [e]
  . rw [zeq λ z=>e (zcQ.mp z),ih]
    simp [Ne.symm e]
theorem zpG {l:List Nat} {x:Nat} (h:x∉l):putK (zch l) (Sum.inl (x:Int)) (V.bl true)=zch (l++[x]):=by
 have hn:valV (zch l) (Sum.inl (x:Int))=none:=by
  have:=zfQ l x
  rw [decide_eq_false h] at this
  cases e:valV (zch l) (Sum.inl (x:Int)) with
  | none=>rfl
  | some v=>rw [e] at this; cases this
 rw [zm1 _ hn]
 unfold zch; rw [List.map_append]; rfl
end TP
end
section
namespace TP
open PySem L2 TH
def ub (kv b:Book Str) (ks:List Str):Book Str:=λ k=>if k∈ks then kv k else b k
theorem zry (kv b:Book Str) (ks:List Str) (k:Str):up (ub kv b ks) k (kv k)=ub kv b (ks++[k]):=by
 funext j
 by_cases h:j=k
 . subst h; rw [zag]; unfold ub; rw [if_pos (by simp)]
 . rw [zan h]; unfold ub
   by_cases hj:j∈ks
   . rw [if_pos hj,if_pos (List.mem_append_left _ hj)]
   . rw [if_neg hj,if_neg (by simp [hj,h])]
theorem zgi {k:Str}:∀ {l:List (Act Str)},k∈(zau l).map (·.1)↔(zaQ l k).isSome=true
 | []=>by simp [zau,zaQ]
 | a::r=>by
  have ih:=zgi (k:=k) (l:=r)
  have e:zau (a::r)=(if a.wr then [(a.key,a.val)] else [])++zau r:=by
   unfold zau; rw [List.filterMap_cons]
   by_cases h:a.wr=true
   . rw [if_pos h,if_pos h]; rfl
   . rw [if_neg h,if_neg h]; rfl
  rw [e,List.map_append,List.mem_append,ih]
  have el:zaQ (a::r) k=match zaQ r k with | some v=>some v | none=>if a.wr=true/\a.key=k then some a.val else none:=rfl
  rw [el]
  cases hl:zaQ r k with
  | some v=>simp
  | none =>
   by_cases h:a.wr=true
   . by_cases hk:a.key=k
     . simp [h,hk]
     . simp [h,hk,Ne.symm hk]
   . simp [h]
def zos (s:HS Str) (kv:Book Str) (d:Nat):Book Str:=λ k=>if (zaQ (s.deed d).done k).isSome then kv k else s.book k
theorem zor (s:HS Str) (kv:Book Str) (d:Nat):ub kv s.book ((zau (s.deed d).done).map (·.1))=zos s kv d:=by
 funext k
 unfold ub zos
 by_cases h:(zaQ (s.deed d).done k).isSome=true
 . rw [if_pos h,if_pos (zgi.mpr h)]
 . rw [if_neg h,if_neg λ z=>h (zgi.mp z)]
def zsR (A:Ad):Sp:=λ vs H Q _=>∃ ρ ad s kv d,vs=[.ref (ad Role.hall),.int (d:Nat)]/\zai A ρ ad s kv H/\Sm s/\d < s.n/\(∀ k,kv k≠none->k∈s.seen) /\
 ∀ H',zai A ρ ad { s with book:=zos s kv d } kv H'->Frame ρ H ρ H'->Q .non H'
theorem Ext.zby {K:Type} [DecidableEq K] {k:K} {f:Nat} {s:HS K} {T:Nat} (E:Ext s T) (c:Core s none):Ext (TH.zby f s k) T:=by
 refine zej (λ t=>Ext t T) (λ s d w r a c hr hl ha E=>?_) f s c E
 have hm:(d,w)∈s.rows k:=by rw [hr]; exact List.mem_cons_self
 obtain ⟨hst,a',ha',hk',hw'⟩:=c.rAct k _ hm
 rw [ha] at ha'; cases ha'
 refine E.does (a:=zkd s a) (d:=d) (by rw [zdN]; rfl) (by rw [zcd]; rfl) (c.lt (.inr hst)) (.inr hst) (by rw [zdr]; rfl) zjY (λ k=>zig) (λ k' e w' h=>?_) ?_ (Nat.le_refl _) (.inl hst)
 . rw [zct] at h
   rcases zjS h with h | ⟨h1,h2⟩
   . exact .inl h
   . exact .inr ⟨h1,by rw [zcu,hk']; exact h2⟩
 . rw [zcu,hk']; exact zcH c hm
theorem zn4 {K:Type} [DecidableEq K] {k:K} {f:Nat} {s:HS K} (c:Core s none):(TH.zby f s k).seen=s.seen/\(TH.zby f s k).n=s.n :=
 zej (λ t=>t.seen=s.seen/\t.n=s.n) (λ s d w r a _ _ _ _ h=>⟨by rw [zcd]; exact h.1,by rw [zdN]; exact h.2⟩) f s c ⟨rfl,rfl⟩
def zrJ (A:Ad):Sp:=λ vs H Q _=>∃ ρ ad s kv k T,vs=[.ref (ad Role.hall),.str k]/\zai A ρ ad s kv H/\Core s none/\Lim s T/\k∈s.seen /\
 ∀ H',zai A ρ ad (zby (s.rows k).length s k) kv H'->Frame ρ H ρ H'->Q .non H'
def zt2 (A:Ad):Sp:=λ vs H Q _=>∃ ρ ad s s0 kv d st T,vs=[.ref (ad Role.hall),.int (d:Nat),.str (stS st)]/\zai A ρ ad s kv H/\Core s0 none/\Lim s0 T/\Head s0 /\
 s.deed=s0.deed/\s.held=s0.held/\s.rows=s0.rows/\s.seen=s0.seen/\s.n=s0.n/\Core (letGo (zft s d st) d) none/\Lim (letGo (zft s d st) d) T/\st≠.waiting/\d < s.n /\
 ∀ H' ρ' ad',ad' Role.hall=ad .hall->zai A ρ' ad' (free ordS (zft s d st) d) kv H'->Frame ρ H ρ' H'->Q .non H'
theorem zgT (s:HS Str) (d:Nat):(s.deed d).done.map (·.key)++zcX (wantOf (s.deed d))=touched s d:=by
 unfold touched wantOf
 congr 1
 by_cases h:(s.deed d).st=.waiting
 . rw [if_pos h,h]
   cases (s.deed d).wish with
   | none=>rfl
   | some a=>rfl
 . rw [if_neg h]
   split
   . contradiction
   . rfl
theorem zi7 {K:Type} [DecidableEq K]:∀ (a b:List K) (s:HS K),zaM s (a++b)=zaM (zaM s a) b
 | [],_,_=>rfl
 | k::r,b,s=>zi7 r b (zby (s.rows k).length s k)
def zsY (A:Ad):Sp:=λ vs H Q _=>∃ ρ ad s d T,vs=[.ref (ad Role.hall),.int (d:Nat)]/\zai A ρ ad s (zas s) H/\Core s none/\Lim s T/\Head s/\(s.deed d).act /\
 ∀ H' ρ' ad',ad' Role.hall=ad .hall->zai A ρ' ad' (drop ordS s d) (zas s) H'->Frame ρ H ρ' H'->Q .non H'
def zsQ (A:Ad):Sp:=λ vs H Q _=>∃ ρ ad s d a wv T,vs=[.ref (ad Role.hall),.int (d:Nat),wv]/\zai A ρ ad s (zas s) H/\a.key∈s.seen/\zcv A H wv (some a)/\d < s.n/\Sm s /\
 Core (wait s d a) none/\Head (wait s d a)/\Thru (wait s d a) d/\Lim (wait s d a) T /\
 ∀ H' ρ' ad',ad' Role.hall=ad .hall->zai A ρ' ad' (settle ordS s.n (wait s d a)) (zas s) H'->Frame ρ H ρ' H'->Q .non H'
end TP
end
section
namespace TH
section
variable {K:Type} [DecidableEq K]
theorem zgM {s:HS K} {ks:List K} (c:Core s none):zas (zaM s ks)=zas s:=by
 have:=zbM (λ t=>t.kept=s.kept/\∀ d∈s.kept,(t.deed d).done=(s.deed d).done) (λ t k d w r a ct hr hl ha h=>?_) ks s c ⟨rfl,λ _ _=>rfl⟩
 . exact zbX this.1 this.2
 . refine ⟨by rw [zek]; exact h.1,λ e he=>?_⟩
   have hne:e≠d:=λ z=>by
    have h1:=(ct.zdp e).mp (by rw [h.1]; exact he)
    have h2:=(ct.rAct k (d,w) (by rw [hr]; exact List.mem_cons_self)).1
    rw [z] at h1
    have h2:(t.deed d).st=.waiting:=h2
    rw [h1] at h2; cases h2
   rw [zcE _ _ _ hne]; exact h.2 e he
variable (ord:List K->List K)
theorem zgn {s:HS K} {d:Nat} (c:Core s none) (hd:(s.deed d).act):zas (drop ord s d)=zas s:=by
 unfold drop free
 rw [zgM (c.drops hd)]
 refine zbX rfl λ e he=>?_
 show (up s.deed d { s.deed d with st:=.dropped } e).done=_
 by_cases h:e=d
 . subst h; rw [zag]
 . rw [zan h]
theorem znZ {s:HS K} {d:Nat} (c:Core s none) (hd:(s.deed d).act):zas (keep ord s d)=over (zas s) (s.deed d).done:=by
 unfold keep free
 rw [zgM (c.keeps hd)]
 show zeh (up s.deed d { s.deed d with st:=.kept }) (s.kept++[d]) _=_
 rw [zbs (deed:=s.deed) λ e he=>?_,zfL]
 . rfl
 . by_cases h:e=d
   . subst h; rw [zag]
   . rw [zan h]
theorem zmb {s:HS K} (c:Core s none):zas (za6 s)=zas s:=by
 refine zbX rfl λ e he=>?_
 have:e≠s.n:=λ z=>by
  have h1:=(c.zdp e).mp he
  have h2:=(c.out e (by omega)).1
  rw [h1] at h2; cases h2
 show (up s.deed s.n _ e).done=_
 rw [zan this]
theorem zi5 {s:HS K} {d:Nat} {a:Act K}:zas (wait s d a)=zas s:=by
 refine zbX rfl λ e he=>?_
 show (up s.deed d { s.deed d with st:=.waiting,wish:=some a } e).done=_
 by_cases h:e=d
 . subst h; rw [zag]
 . rw [zan h]
theorem zgL:∀ {f:Nat} {s:HS K},Core s none->zas (settle ord f s)=zas s
 | 0,_,_=>rfl
 | f+1,s,c=>by
  unfold settle
  split
  . rfl
  . rename_i d h
    have hd:(s.deed d).act:=by
     have:=(zbR (List.mem_of_getLast? h)).2
     exact .inr (zaT this)
    rw [zgL (c.drop ord hd),zgn ord c hd]
variable (hord:∀ l k,k∈ord l↔k∈l)
include hord
theorem zkc {s:HS K} {d:Nat} {a:Act K} (c:Core s none) (h:Head s) (ac:Acyc s) (hd:(s.deed d).st=.zaq) (hf:((has ((see s a.key).held a.key) d || ((see s a.key).rows a.key).isEmpty) && lets ((see s a.key).held a.key) d a.wr)=false) :
   Core (wait (see s a.key) d a) none/\Head (wait (see s a.key) d a)/\Thru (wait (see s a.key) d a) d:=by
 have c1:Core (TH.see s a.key) none:=c.see
 have h':Head (TH.see s a.key):=h
 have ac':Acyc (TH.see s a.key):=ac.mono λ e x h=>h
 have h2:¬ (lets ((TH.see s a.key).held a.key) d a.wr=true/\(has ((TH.see s a.key).held a.key) d=true\/(TH.see s a.key).rows a.key=[])):=λ z=>by
   rw [z.1,Bool.and_true] at hf
   rcases z.2 with z | z
   . rw [z] at hf; cases hf
   . rw [z] at hf; simp at hf
 have hw:∀ w',(d,w')∈(TH.see s a.key).held a.key->w'=false/\a.wr=true:=λ w' z=>by
   have q:=zde (c1.hNd _) z
   have hh:has ((TH.see s a.key).held a.key) d=true:=zjX q
   have hl:lets ((TH.see s a.key).held a.key) d a.wr=false:=by
     cases e:lets ((TH.see s a.key).held a.key) d a.wr with
     | false=>rfl
     | true=>exact absurd ⟨e,.inl hh⟩ h2
   have no:∃ p∈(TH.see s a.key).held a.key,p.1≠d/\(a.wr || p.2)=true:=by
     unfold lets at hl
     have:=List.all_eq_false.mp hl
     obtain ⟨p,hp,hq⟩:=this
     refine ⟨p,hp,?_⟩
     by_cases z:p.1=d
     . simp [z] at hq
     . refine ⟨z,?_⟩
       simp [z] at hq
       cases h1:a.wr <;> cases h2:p.2 <;> simp [h1,h2] at hq ⊢
   obtain ⟨p,hp,hne,hu⟩:=no
   cases hw':w' with
   | true=>subst hw'; exact absurd (c1.hEx a.key d z p hp) hne
   | false =>
     refine ⟨rfl,?_⟩
     cases ha:a.wr with
     | true=>rfl
     | false =>
       rw [ha] at hu
       have hp2:p.2=true:=by simpa using hu
       have hpm:(p.1,true)∈(TH.see s a.key).held a.key:=by rw [<-hp2]; exact hp
       exact absurd (c1.hEx a.key p.1 hpm _ z).symm hne
 refine ⟨c1.wait hd zco hw,λ k e w r q=>?_,Thru.wait ac'⟩
 show lets ((TH.see s a.key).held k) e w=false
 by_cases hk:k=a.key
 . subst hk
   have q':(if has ((TH.see s a.key).held a.key) d then (d,a.wr)::(TH.see s a.key).rows a.key else (TH.see s a.key).rows a.key++[(d,a.wr)])=(e,w)::r:=by
     rw [<-q]; exact zag.symm
   cases hh:has ((TH.see s a.key).held a.key) d with
   | true =>
     rw [hh] at q'
     simp only [if_true] at q'
     injection q' with e1 e2
     have e3:d=e:=congrArg Prod.fst e1
     have e4:a.wr=w:=congrArg Prod.snd e1
     subst e3 e4
     cases hl:lets ((TH.see s a.key).held a.key) d a.wr with
     | false=>rfl
     | true=>exact absurd ⟨hl,.inl hh⟩ h2
   | false =>
     rw [hh] at q'
     simp only [Bool.false_eq_true,if_false] at q'
     cases hr:(TH.see s a.key).rows a.key with
     | nil =>
       rw [hr] at q'
       simp only [List.nil_append] at q'
       injection q' with e1 e2
       have e3:d=e:=congrArg Prod.fst e1
       have e4:a.wr=w:=congrArg Prod.snd e1
       subst e3 e4
       cases hl:lets ((TH.see s a.key).held a.key) d a.wr with
       | false=>rfl
       | true=>exact absurd ⟨hl,.inr hr⟩ h2
     | cons p t =>
       rw [hr] at q'
       simp only [List.cons_append] at q'
       injection q' with e1 e2
       subst e1
       exact h' a.key e w t hr
 . have q':(TH.see s a.key).rows k=(e,w)::r:=by rw [<-q]; exact (zan hk).symm
   exact h' k e w r q'
omit hord
def Did (d:Nat) (t:HS K):Prop:=(t.deed d).st=.zaq\/(t.deed d).st=.kept->(t.deed d).done≠[]
theorem Did.doIt {t:HS K} {d e:Nat} {a:Act K} (h:Did d t):Did d (doIt t e a):=λ q=>by
 by_cases z:d=e
 . subst z; rw [zdr,zag]; simp
 . rw [zcE _ _ _ z] at q ⊢; exact h q
theorem Did.self {t:HS K} {d:Nat} {a:Act K}:Did d (TH.doIt t d a):=λ q=>by rw [zdr,zag]; simp
theorem Did.zaM {t:HS K} {d:Nat} {ks:List K} (c:Core t none) (h:Did d t):Did d (zaM t ks) :=
 zbM (Did d) (λ s k e w r a _ _ _ _ h=>Did.doIt (t:=take { s with rows:=up s.rows k r } e k w) h) ks t c h
theorem Did.drop {t:HS K} {d g:Nat} (c:Core t none) (hg:(t.deed g).act) (h:Did d t):Did d (drop ord t g):=by
 refine Did.zaM (c.drops hg) λ q=>?_
 have q':(up t.deed g { t.deed g with st:=.dropped } d).st=.zaq\/(up t.deed g { t.deed g with st:=.dropped } d).st=.kept:=q
 show (up t.deed g { t.deed g with st:=.dropped } d).done≠[]
 by_cases z:d=g
 . subst z; rw [zag] at q'; rcases q' with q' | q' <;> cases q'
 . rw [zan z] at q' ⊢; exact h q'
theorem Did.settle {d:Nat}:∀ {f:Nat} {t:HS K},Core t none->Did d t->Did d (settle ord f t)
 | 0,_,_,h=>h
 | f+1,t,c,h=>by
  unfold TH.settle
  split
  . exact h
  . rename_i g hg
    have ha:(t.deed g).act:=.inr (zaT (zbR (List.mem_of_getLast? hg)).2)
    exact Did.settle (c.drop ord ha) (h.drop ord c ha)
theorem Did.wait {s:HS K} {d:Nat} {a:Act K}:Did d (wait s d a):=λ q=>by
 have q':(up s.deed d { s.deed d with st:=.waiting,wish:=some a } d).st=.zaq\/(up s.deed d { s.deed d with st:=.waiting,wish:=some a } d).st=.kept:=q
 rw [zag] at q'; rcases q' with q' | q' <;> cases q'
end
end TH
namespace TP
open PySem L2 TH
theorem Lim.letGo {s:HS Str} {T d:Nat} (L:Lim s T) {t:HS Str} (E:Ext (TH.letGo t d) T) (hn:t.n=s.n) (hs:t.seen=s.seen):Lim (TH.letGo t d) T:=⟨E,L.t,by show t.n<=63; rw [hn]; exact L.n,by show t.seen.length<=4; rw [hs]; exact L.sn⟩
theorem zh8 {s:HS Str} {d:Nat} (c:Core s none) (hd:(s.deed d).act):(drop ordS s d).seen=s.seen:=zdE _ _ (c.drops hd)
theorem Lim.drop {s:HS Str} {T d:Nat} (L:Lim s T) (c:Core s none) (hd:(s.deed d).act):Lim (TH.drop ordS s d) T:=⟨L.e.drop ordS c hd,L.t,by rw [zk1 ordS c hd]; exact L.n,by rw [zh8 c hd]; exact L.sn⟩
theorem zla {s:HS Str} {d:Nat} (c:Core s none) (hd:(s.deed d).act):(keep ordS s d).seen=s.seen:=zdE _ _ (c.keeps hd)
theorem Lim.keep {s:HS Str} {T d:Nat} (L:Lim s T) (c:Core s none) (hd:(s.deed d).act):Lim (TH.keep ordS s d) T:=⟨L.e.keep ordS c hd,L.t,by rw [zrh ordS c hd]; exact L.n,by rw [zla c hd]; exact L.sn⟩
theorem Lim.drops {s:HS Str} {T d:Nat} (L:Lim s T) (c:Core s none) (hd:(s.deed d).act):Lim (TH.letGo (zsl s d) d) T :=
 L.letGo (L.e.ends (t:=.dropped) (bk:=λ k=>if (zaQ (s.deed d).done k).isSome then zas s k else s.book k) (kp:=s.kept) (r:=.drop d) c hd (.inr rfl) (λ k h=>by
  split at h
  . exact L.e.zpm k h
  . exact L.e.zg1 k h)) rfl rfl
theorem Lim.keeps {s:HS Str} {T d:Nat} (L:Lim s T) (c:Core s none) (hd:(s.deed d).act):Lim (TH.letGo (zsd s d) d) T :=
 L.letGo (L.e.ends (t:=.kept) (bk:=s.book) (kp:=s.kept++[d]) (r:=.keep d) c hd (.inl rfl) L.e.zg1) rfl rfl
def zma (D:Deed Str):Int:=(D.done.getLast?.map (·.val)).getD 0
def ansV (D:Deed Str) (wr:Bool):List V:=match D.st with
 | .dropped=>[.str "given up"]
 | .waiting=>[.str "waits"]
 | _=>if wr then [.str "done"] else [.str "value",.int (zma D)]
def zqj (A:Ad):Sp:=λ vs H Q _=>∃ ρ ad s kv d a wv,vs=[.ref (ad Role.hall),.int (d:Nat),wv]/\zai A ρ ad s kv H/\zcv A H wv (some a)/\d < s.n/\Did d s /\
 ∀ H' q,H q=none->Same H H'->H' q=some (.tup (ansV (s.deed d) a.wr))->Q (.ref q) H'
structure Ready (s:HS Str) (T:Nat):Prop where
 c:Core s none
 h:Head s
 a:Acyc s
 L:Lim s T
theorem Sm.see {s:HS Str} {T:Nat} (R:Ready s T) {k:Str} (h:(TH.see s k).seen.length<=4) (t:T+1<=1000):Sm (TH.see s k):=Lim.sm (T:=T+1) (x:=none) ⟨R.L.e.see,t,R.L.n,h⟩ R.c.see
theorem Lim.wish {s:HS Str} {T d:Nat} {a:Act Str} (R:Ready s T) (hd:(s.deed d).st=.zaq) (h:(TH.see s a.key).seen.length<=4) (t:T+1<=1000) (hn:(TH.wish ordS s d a).n=s.n) (hs:(TH.wish ordS s d a).seen=(TH.see s a.key).seen):Lim (TH.wish ordS s d a) (T+1) :=
 ⟨R.L.e.wish ordS R.c hd,t,by rw [hn]; exact R.L.n,by rw [hs]; exact h⟩
theorem Lim.wait {s:HS Str} {T d:Nat} {a:Act Str} (R:Ready s T) (hd:(s.deed d).st=.zaq) (h:(TH.see s a.key).seen.length<=4) (t:T+1<=1000):Lim (TH.wait (TH.see s a.key) d a) (T+1) :=
 ⟨Ext.wait (s:=TH.see s a.key) R.L.e.see hd (λ e=>by have:=R.L.e.dn e; exact Nat.succ_le_succ this) (by have:=R.L.e.lg; show s.log.length+zdt s+actN s+2<=_; omega),t,R.L.n,h⟩
theorem zhn:∀ {f:Nat} {s:HS Str},Core s none->(settle ordS f s).seen=s.seen/\(settle ordS f s).n=s.n
 | 0,_,_=>⟨rfl,rfl⟩
 | f+1,s,c=>by
  unfold TH.settle
  split
  . exact ⟨rfl,rfl⟩
  . rename_i d h
    have hd:(s.deed d).act:=.inr (zaT (zbR (List.mem_of_getLast? h)).2)
    obtain ⟨h1,h2⟩:=zhn (f:=f) (c.drop ordS hd)
    exact ⟨by rw [h1,zh8 c hd],by rw [h2,zk1 ordS c hd]⟩
theorem zcJ {s:HS Str} {T d:Nat} {a:Act Str} (R:Ready s T) (hd:(s.deed d).st=.zaq):(wish ordS s d a).n=s.n/\(wish ordS s d a).seen=(see s a.key).seen/\zas (wish ordS s d a)=zas s/\Did d (wish ordS s d a):=by
 rw [zhi ordS R.c]
 split
 . refine ⟨by rw [zdN]; rfl,by rw [zcd]; rfl,zbX (zek _ _ _) λ e he=>?_,Did.self⟩
   have hne:e≠d:=λ z=>by
    have h1:=(R.c.zdp e).mp he
    rw [z,hd] at h1; cases h1
   rw [zcE _ _ _ hne]; rfl
 . rename_i h
   obtain ⟨c1,_,_⟩:=zkc ordS (λ l k=>za0) R.c R.h R.a hd (by simpa using h)
   obtain ⟨s1,s2⟩:=zhn (f:=s.n) c1
   exact ⟨by rw [s2]; rfl,by rw [s1]; rfl,by rw [zgL ordS c1,zi5]; rfl,Did.settle ordS c1 Did.wait⟩
theorem Ready.wish {s:HS Str} {T d:Nat} {a:Act Str} (R:Ready s T) (hd:(s.deed d).st=.zaq) (h:(see s a.key).seen.length<=4) (t:T+1<=1000):Ready (TH.wish ordS s d a) (T+1) :=
 let F:=zcJ (a:=a) R hd
 ⟨R.c.wish ordS hd,Head.wish ordS (λ l k=>za0) R.c R.h hd,R.a.wish ordS R.c hd,Lim.wish R hd h t F.1 F.2.1⟩
theorem Ready.drop {s:HS Str} {T d:Nat} (R:Ready s T) (hd:(s.deed d).act):Ready (TH.drop ordS s d) T:=⟨R.c.drop ordS hd,Head.drop ordS (λ l k=>za0) R.c hd,R.a.drop ordS R.c hd,R.L.drop R.c hd⟩
theorem Ready.keep {s:HS Str} {T d:Nat} (R:Ready s T) (hd:(s.deed d).act):Ready (TH.keep ordS s d) T:=⟨R.c.keep ordS hd,Head.keep ordS (λ l k=>za0) R.c hd,R.a.keep ordS R.c hd,R.L.keep R.c hd⟩
theorem Ready.za6 {s:HS Str} {T:Nat} (R:Ready s T) (hn:s.n < 63) (t:T+1<=1000):Ready (TH.za6 s) (T+1):=⟨R.c.za6,R.h,R.a.za6 R.c,⟨R.L.e.za6 R.c,t,hn,R.L.sn⟩⟩
theorem Ready.empty:Ready (TH.empty:HS Str) 0:=⟨All.empty.c,All.empty.h,All.empty.a,Ext.empty,by decide,by decide,by decide⟩
end TP
end
section
namespace TP
open PySem L2 TH
def zs1 (A:Ad):Sp:=λ vs H Q _=>∃ ρ ad s d a pw dw T,vs=[.ref (ad Role.hall),.int (d:Nat),.ref pw]/\zai A ρ ad s (zas s) H/\Ready s T/\T+1<=1000/\(see s a.key).seen.length<=4/\(s.deed d).st=.zaq/\H pw=some (.ins A.zdW dw (zrv a))/\ρ pw=.other /\
 ∀ H' ρ' ad' q,ad' Role.hall=ad .hall->zai A ρ' ad' (wish ordS s d a) (zas s) H'->Frame ρ H ρ' H'->H' q=some (.tup (ansV ((wish ordS s d a).deed d) a.wr))->ρ' q=.other->Q (.ref q) H'
def zkf (A:Ad) (s:HS Str) (i:Int) (H:Hp) (E:XK) (G:Nat->Prop):Prop :=
 (∃ d:Nat,i=d/\d < s.n/\((s.deed d).st=.zaq/\G d\/(s.deed d).st≠.zaq/\E (.ref A.zaP) none H))\/Out A s i H E
def zsU (A:Ad):Sp:=λ vs H Q E=>∃ ρ ad s i k T,vs=[.ref (ad Role.hall),.int i,.str k]/\zai A ρ ad s (zas s) H/\Ready s T/\T+1<=1000/\(see s k).seen.length<=4 /\
 zkf A s i H E λ d=>∀ H' ρ' ad' q,ad' Role.hall=ad .hall->zai A ρ' ad' (wish ordS s d ⟨false,k,0⟩) (zas s) H'->Frame ρ H ρ' H'->H' q=some (.tup (ansV ((wish ordS s d ⟨false,k,0⟩).deed d) false))->ρ' q=.other->Q (.ref q) H'
def zrF (A:Ad):Sp:=λ vs H Q E=>∃ ρ ad s i k v T,vs=[.ref (ad Role.hall),.int i,.str k,.int v]/\zai A ρ ad s (zas s) H/\Ready s T/\T+1<=1000/\(see s k).seen.length<=4 /\
 zkf A s i H E λ d=>∀ H' ρ' ad' q,ad' Role.hall=ad .hall->zai A ρ' ad' (wish ordS s d ⟨true,k,v⟩) (zas s) H'->Frame ρ H ρ' H'->H' q=some (.tup (ansV ((wish ordS s d ⟨true,k,v⟩).deed d) true))->ρ' q=.other->Q (.ref q) H'
def zsX (A:Ad):Sp:=λ vs H Q E=>∃ ρ ad s i T,vs=[.ref (ad Role.hall),.int i]/\zai A ρ ad s (zas s) H/\Ready s T /\
 zkf A s i H E λ d=>∀ H' ρ' ad',ad' Role.hall=ad .hall->zai A ρ' ad' (keep ordS s d) (zas (keep ordS s d)) H'->Frame ρ H ρ' H'->Q .non H'
def zqg (A:Ad):Sp:=λ vs H Q E=>∃ ρ ad s i T,vs=[.ref (ad Role.hall),.int i]/\zai A ρ ad s (zas s) H/\Ready s T /\
 ((∃ d:Nat,i=d/\d < s.n/\((s.deed d).act/\(∀ H' ρ' ad',ad' Role.hall=ad .hall->zai A ρ' ad' (drop ordS s d) (zas (drop ordS s d)) H'->Frame ρ H ρ' H'->Q .non H')\/¬ (s.deed d).act/\E (.ref A.zaP) none H))\/Out A s i H E)
def znH (A:Ad):Sp:=λ vs H Q _=>∃ ρ ad s kv,vs=[.ref (ad Role.hall)]/\zai A ρ ad s kv H/\s.seen.length<=4/\s.seen.Nodup/\(∀ k,kv k≠none->k∈s.seen) /\
 ∀ H' q us ks,Same H H'->H' q=some (.tup us)->(∀ k,k∈ks↔kv k≠none)->zap H' us (zp0 ks kv)->Q (.ref q) H'
def zrI (A:Ad):Sp:=λ vs H Q _=>∃ ρ ad s kv,vs=[.ref (ad Role.hall)]/\zai A ρ ad s kv H/\s.kept.length<=1000/\∀ H' q,Same H H'->H' q=some (.tup (zaR s.kept))->Q (.ref q) H'
def zqh (A:Ad):Sp:=λ vs H Q E=>∃ ρ ad s kv i,vs=[.ref (ad Role.hall),.int i]/\zai A ρ ad s kv H/\s.n<=1000/\(∀ d,(s.deed d).done.length<=2000) /\
 ((∃ d:Nat,i=d/\d < s.n/\∀ H' q us,Same H H'->H' q=some (.tup us)->zap H' us ((s.deed d).done.map actV)->Q (.ref q) H')\/Out A s i H E)
def wb (b:Book Str) (l:List (Str×Int)):Book Str:=l.foldl (λ b p=>up b p.1 (some p.2)) b
theorem zru (b:Book Str) (l:List (Str×Int)) (p:Str×Int):wb b (l++[p])=up (wb b l) p.1 (some p.2):=by unfold wb; rw [List.foldl_append]; rfl
theorem zlI:∀ (l:List (Act Str)) (b:Book Str),wb b (zau l)=over b l
 | [],b=>rfl
 | a::r,b=>by
  have e:zau (a::r)=(if a.wr then [(a.key,a.val)] else [])++zau r:=by
    unfold zau; rw [List.filterMap_cons]
    by_cases h:a.wr=true
    . rw [if_pos h,if_pos h]; rfl
    . rw [if_neg h,if_neg h]; rfl
  rw [e]
  by_cases h:a.wr=true
  . rw [if_pos h]; unfold over; rw [if_pos h]; exact zlI r _
  . rw [if_neg h]; unfold over; rw [if_neg h]; exact zlI r _
theorem zop:∀ {l:List (Str×Int)} {b:Book Str} {k:Str},wb b l k≠none->b k≠none\/k∈l.map (·.1)
 | [],_,_,h=>.inl h
 | p::r,b,k,h=>by
  rcases zop (l:=r) (b:=up b p.1 (some p.2)) h with h | h
  . by_cases z:k=p.1
    . exact .inr (by rw [z]; exact List.mem_cons_self)
    . rw [zan z] at h; exact .inl h
  . exact .inr (List.mem_cons_of_mem _ h)
theorem zhh {s:HS Str} {T:Nat} (E:Ext s T) {d:Nat} {k:Str} (h:k∈(zau (s.deed d).done).map (·.1)):k∈s.seen:=by
 obtain ⟨p,hp,rfl⟩:=List.mem_map.mp h
 unfold zau at hp
 obtain ⟨a,ha,hq⟩:=List.mem_filterMap.mp hp
 by_cases z:a.wr=true
 . rw [if_pos z] at hq; cases hq; exact E.zgZ d a ha
 . rw [if_neg z] at hq; cases hq
end TP
end
section
namespace TP
open PySem L2 TH
def za1 (ns:List Int) (k:Nat):Int:=ns.getD k 0
def mixF (c p m:Int):Int:=c * 48271 % p % m
theorem zi1 {c p m:Int} (h:0 < m):0<=mixF c p m/\mixF c p m < m:=⟨Int.emod_nonneg _ (by omega),Int.emod_lt_of_pos _ h⟩
theorem zl4 {c p:Int} {m:Nat} (h:0 < m):∃ n:Nat,mixF c p m=n/\n < m:=by
 obtain ⟨h1,h2⟩:=zi1 (c:=c) (p:=p) (m:=(m:Int)) (by omega)
 exact ⟨(mixF c p m).toNat,by omega,by omega⟩
def pick (l:Str) (i:Nat):Str:=match l.cps.toList[i]? with
 | some c=>⟨#[c]⟩
 | none=>Str.empty
def abc:Str := "abcdefghijklmnopqrstuvwxyz"
def zdv (seed:Int):List Str:=(List.range (mixF seed 9967 4).toNat).map λ (j:Nat)=>pick abc (mixF (seed+5 * (j:Int)) 9973 26).toNat
def zhZ (ns:List Int) (k:Nat):Str:=pick "qrst" k++Txt.join "" (zdv (za1 ns 0+7 * (k:Int)))
open Classical in
noncomputable def keyF (ns:List Int) (k:Nat):Str:=if k=3/\za1 ns 0 % 2=0 then (if zhZ ns 0 = "q" then "qa" else "q") else zhZ ns k
theorem zjA {l:Str} {i:Nat} (h:i < l.cps.size):∃ c,atI l.cps.toList (i:Int)=some c/\pick l i=⟨#[c]⟩:=by
 have hl:i < l.cps.toList.length:=by simpa using h
 refine ⟨l.cps.toList[i],zbt (by rw [List.getElem?_eq_getElem hl]),?_⟩
 unfold pick; rw [List.getElem?_eq_getElem hl]
theorem zqs (l:Str) (i:Nat):(pick l i).length<=1:=by
 unfold pick; split
 . exact Nat.le_refl _
 . exact Nat.zero_le _
theorem zqa (seed:Int):(zdv seed).length<=3:=by
 unfold zdv; rw [List.length_map,List.length_range]
 have:=zi1 (c:=seed) (p:=9967) (m:=4) (by decide)
 omega
theorem zo9 {a b:Str} (h:PyData.strOk a=true) (g:PyData.strOk b=true):PyData.strOk (a++b)=true:=by
 unfold PyData.strOk at *
 show (a.cps++b.cps).all _=true
 simp [h,g]
theorem zo8 {l:Str} (h:PyData.strOk l=true) (i:Nat):PyData.strOk (pick l i)=true:=by
 unfold pick
 split
 . rename_i c hc
   unfold PyData.strOk at h ⊢
   rw [Array.all_eq_true_iff_forall_mem] at h
   have:=h c (by have:=List.mem_of_getElem? hc; simpa using this)
   simpa using this
 . decide +kernel
theorem zr5:∀ {l:List Str},(∀ x∈l,PyData.strOk x=true)->PyData.strOk (Txt.join "" l)=true:=λ {l} h=>by
 have main:∀ (r:List Str) (a:Array Nat),(∀ x∈r,PyData.strOk x=true)->PyData.strOk ⟨a⟩=true->PyData.strOk ⟨r.foldl (λ acc p=>acc++("" : Str).cps++p.cps) a⟩=true:=λ r=>by
  induction r with
  | nil=>intro a _ h; exact h
  | cons x r ih =>
   intro a hx ha
   refine ih _ (λ y hy=>hx y (List.mem_cons_of_mem _ hy)) ?_
   have h1:=zo9 (a:=⟨a⟩) (b := "") ha (by decide +kernel)
   exact zo9 (a:=⟨a++("" : Str).cps⟩) (b:=x) h1 (hx x List.mem_cons_self)
 refine main (l.drop 1) _ (λ x hx=>h x (List.mem_of_mem_drop hx)) ?_
 cases l with
 | nil=>decide +kernel
 | cons x r=>exact h x List.mem_cons_self
theorem zts (ns:List Int) (k:Nat):PyData.strOk (keyF ns k)=true:=by
 have h0:∀ k,PyData.strOk (zhZ ns k)=true:=λ k=>zo9 (zo8 (by decide +kernel) k) (zr5 λ x hx=>by
   unfold zdv at hx
   obtain ⟨j,_,rfl⟩:=List.mem_map.mp hx
   exact zo8 (by decide +kernel) _)
 unfold keyF
 split
 . split <;> decide +kernel
 . exact h0 k
theorem znh {l:List Str}:(l.map (·.length)).sum+l.length * ("" : Str).length=(l.map (·.length)).sum:=by
 have:("" : Str).length=0:=by decide +kernel
 rw [this]; omega
theorem zlc (l:List Str):(Txt.join "" l).length<=(l.map (·.length)).sum:=by
 have e0:("" : Str).cps.size=0:=by decide +kernel
 have main:∀ (r:List Str) (a:Array Nat),(r.foldl (λ acc p=>acc++("" : Str).cps++p.cps) a).size=a.size+(r.map (·.length)).sum:=λ r=>by
  induction r with
  | nil=>intro a; rfl
  | cons x r ih =>
   intro a
   rw [List.foldl_cons,ih,List.map_cons,List.sum_cons,Array.size_append,Array.size_append,e0]
   have:x.cps.size=x.length:=rfl
   omega
 cases l with
 | nil=>exact Nat.le_refl _
 | cons x r =>
  have:=main r x.cps
  rw [List.map_cons,List.sum_cons]
  exact Nat.le_of_eq this
theorem zhd (seed:Int):((zdv seed).map (·.length)).sum<=3:=by
 have h1:=zqa seed
 have h2:∀ l:List Str,(∀ x∈l,x.length<=1)->(l.map (·.length)).sum<=l.length:=λ l=>by
  induction l with
  | nil=>intro _; exact Nat.le_refl _
  | cons x r ih=>intro h; rw [List.map_cons,List.sum_cons,List.length_cons]; have:=h x List.mem_cons_self; have:=ih λ y hy=>h y (List.mem_cons_of_mem _ hy); omega
 have h3:=h2 (zdv seed) λ x hx=>by
  unfold zdv at hx
  obtain ⟨j,_,rfl⟩:=List.mem_map.mp hx
  exact zqs _ _
 omega
def zsZ (K:PySem.W.Frag):Sp:=λ vs H Q _=>∃ (a:Addr) (ns:List Int) (k:Nat),vs=[.ref a,.int k]/\SqL K H a (ns.map V.int)/\Q (.int (za1 ns k)) H
def ztZ:Sp:=λ vs H Q _=>∃ c p m:Int,vs=[.int c,.int p,.int m]/\0 < p/\0 < m/\Q (.int (mixF c p m)) H
def spNo:Sp:=λ _ _ _ _=>False
def zsW (K:PySem.W.Frag):Sp:=λ vs H Q _=>∃ (a:Addr) (ns:List Int) (k:Nat),vs=[.ref a,.int k]/\SqL K H a (ns.map V.int)/\k < 3/\∀ H',Same H H'->Q (.str (zhZ ns k)) H'
def zt1 (K:PySem.W.Frag):Sp:=λ vs H Q _=>∃ (a:Addr) (ns:List Int) (k:Nat),vs=[.ref a,.int k]/\SqL K H a (ns.map V.int)/\k < 4/\∀ H',Same H H'->Q (.str (keyF ns k)) H'
inductive LAct where
 | begin | read (d:Nat) (k:Str) | write (d:Nat) (k:Str) (v:Int) | keep (d:Nat) | drop (d:Nat)
def actD:LAct->List V
 | .begin=>[.str "begin"]
 | .read d k=>[.str "read",.int (d:Int),.str k]
 | .write d k v=>[.str "write",.int (d:Int),.str k,.int v]
 | .keep d=>[.str "keep",.int (d:Int)]
 | .drop d=>[.str "give up",.int (d:Int)]
def zmF (ns:List Int) (k:Str):Prop:=∃ j,j < 4/\k=keyF ns j
def okA (ns:List Int) (b:Nat):LAct->Prop
 | .begin=>True
 | .read d k=>d < b/\zmF ns k
 | .write d k _=>d < b/\zmF ns k
 | .keep d=>d < b
 | .drop d=>d < b
def LAct.isB:LAct->Nat
 | .begin=>1
 | _=>0
def zds (l:List LAct):Nat:=(l.map LAct.isB).sum
def Valid (ns:List Int) (l:List LAct):Prop:=∀ i a,l[i]?=some a->okA ns (zds (l.take i)) a
theorem Valid.snoc {ns:List Int} {l:List LAct} {a:LAct} (v:Valid ns l) (h:okA ns (zds l) a):Valid ns (l++[a]):=λ i b hb=>by
 by_cases hi:i < l.length
 . rw [List.getElem?_append_left hi] at hb
   have:=v i b hb
   rwa [List.take_append_of_le_length (by omega)]
 . rw [List.getElem?_append_right (by omega)] at hb
   have hi2:i - l.length=0:=by
    have:=(List.getElem?_eq_some_iff.mp hb).1
    simp at this; omega
   rw [hi2] at hb
   cases hb
   have:i=l.length:=by omega
   subst this
   rw [List.take_append_of_le_length (Nat.le_refl _),List.take_length]; exact h
theorem zfn (l:List LAct) (a:LAct):zds (l++[a])=zds l+a.isB:=by unfold zds; rw [List.map_append,List.sum_append]; simp
theorem zrn (a:LAct):a.isB<=1:=by cases a <;> first | exact Nat.le_refl 1 | exact Nat.zero_le 1
theorem zlw (l:List LAct):zds l<=l.length:=by
 unfold zds
 induction l with
 | nil=>exact Nat.zero_le _
 | cons a r ih=>rw [List.map_cons,List.sum_cons,List.length_cons]; have:=zrn a; omega
theorem zp3 (a:LAct):∃ t,actD a=.str t::(actD a).tail/\(decide (V.str t=V.str "begin"))=decide (a.isB=1):=by
 cases a <;> refine ⟨_,rfl,?_⟩ <;> first | rfl | exact decide_eq_false λ z=>by have:=V.str.inj z; revert this; decide +kernel
def zt3 (K:PySem.W.Frag):Sp:=λ vs H Q _=>∃ (a:Addr) (ns:List Int) (c:Int) (b:Nat),vs=[.ref a,.int c,.int b]/\SqL K H a (ns.map V.int)/\0 < b/\∀ H' q A,H q=none->Same H H'->H' q=some (.tup (actD A))->okA ns b A->Q (.ref q) H'
def zs2 (K:PySem.W.Frag):Sp:=λ vs H Q _=>∃ (a:Addr) (ns:List Int),vs=[.ref a]/\SqL K H a (ns.map V.int)/\∀ H' q us As,H q=none->Same H H'->H' q=some (.lst us)->zap H' us (As.map actD)->(∀ p,V.ref p∈us->H p=none)->Valid ns As->As.length<=63->Q (.ref q) H'
end TP
end
section
namespace TP
open PySem L2 TH
theorem zkY {α:Type} [DecidableEq α]:∀ (a b:List α),a.Nodup->(∀ x∈a,x∈b)->a.length<=b.length
 | [],b,_,_=>Nat.zero_le _
 | x::r,b,nd,hs=>by
  obtain ⟨n1,n2⟩:=List.nodup_cons.mp nd
  have hx:=hs x List.mem_cons_self
  have:=zkY r (b.erase x) n2 λ z hz=>(List.mem_erase_of_ne (show z≠x from λ e=>n1 (e ▸ hz))).mpr (hs z (List.mem_cons_of_mem _ hz))
  rw [List.length_erase_of_mem hx] at this
  have hpos:0 < b.length:=List.length_pos_of_mem hx
  simp only [List.length_cons]; omega
theorem zub {ns:List Int} {l:List Str} (nd:l.Nodup) (h:∀ k∈l,zmF ns k):l.length<=4:=by
 have:=zkY l ((List.range 4).map (keyF ns)) nd λ k hk=>by
  obtain ⟨j,hj,rfl⟩:=h k hk
  exact List.mem_map.mpr ⟨j,List.mem_range.mpr hj,rfl⟩
 simpa using this
theorem zph {s:HS Str} {k x:Str}:x∈(see s k).seen↔x=k\/x∈s.seen:=by
 show x∈(if k∈s.seen then s.seen else s.seen++[k])↔_
 split
 . rename_i h; exact ⟨.inr,λ q=>q.elim (λ z=>z ▸ h) id⟩
 . rw [List.mem_append,List.mem_singleton]; exact Or.comm
theorem see4 {ns:List Int} {s:HS Str} {T:Nat} {k:Str} (E:Ext s T) (h:∀ k∈s.seen,zmF ns k) (hk:zmF ns k):(see s k).seen.length<=4 :=
 zub (E.see (k:=k)).snd λ x hx=>(zph.mp hx).elim (λ z=>z ▸ hk) (h x)
noncomputable def zf2 (s:HS Str):LAct->HS Str
 | .begin=>za6 s
 | .read d k=>if (s.deed d).st=.zaq then wish ordS s d ⟨false,k,0⟩ else s
 | .write d k v=>if (s.deed d).st=.zaq then wish ordS s d ⟨true,k,v⟩ else s
 | .keep d=>if (s.deed d).st=.zaq then keep ordS s d else s
 | .drop d=>if (s.deed d).st=.zaq\/(s.deed d).st=.waiting then drop ordS s d else s
theorem zhl (s:HS Str) (d:Nat) (k:Str):zf2 s (.read d k)=if (s.deed d).st=.zaq then wish ordS s d ⟨false,k,0⟩ else s:=rfl
theorem zf1 (s:HS Str) (d:Nat) (k:Str) (v:Int):zf2 s (.write d k v)=if (s.deed d).st=.zaq then wish ordS s d ⟨true,k,v⟩ else s:=rfl
theorem zhm (s:HS Str) (d:Nat):zf2 s (.keep d)=if (s.deed d).st=.zaq then keep ordS s d else s:=rfl
theorem step_drop (s:HS Str) (d:Nat):zf2 s (.drop d)=if (s.deed d).st=.zaq\/(s.deed d).st=.waiting then drop ordS s d else s:=rfl
theorem Ready.mono {s:HS Str} {T:Nat} (R:Ready s T) (h:T+1<=1000):Ready s (T+1):=⟨R.c,R.h,R.a,⟨R.L.e.mono (Nat.le_succ _),h,R.L.n,R.L.sn⟩⟩
structure Run (ns:List Int) (s:HS Str) (T:Nat):Prop where
 r:Ready s T
 k:∀ k∈s.seen,zmF ns k
theorem Run.step {ns:List Int} {s:HS Str} {T:Nat} (R:Run ns s T) (ht:T+1<=1000) (hn:s.n < 63) {a:LAct} (ok:okA ns s.n a):Run ns (zf2 s a) (T+1)/\(zf2 s a).n=s.n+a.isB:=by
 have same:Run ns s (T+1)/\s.n=s.n:=⟨⟨R.r.mono ht,R.k⟩,rfl⟩
 have wi:∀ (d:Nat) (x:Act Str),(s.deed d).st=.zaq->zmF ns x.key->Run ns (wish ordS s d x) (T+1)/\(wish ordS s d x).n=s.n:=λ d x hd hk=>by
  have h4:=see4 R.r.L.e R.k hk
  obtain ⟨f1,f2,_,_⟩:=zcJ (a:=x) R.r hd
  refine ⟨⟨R.r.wish hd h4 ht,λ k h=>?_⟩,f1⟩
  rw [f2] at h
  exact (zph.mp h).elim (λ z=>z ▸ hk) (R.k k)
 cases a with
 | begin=>exact ⟨⟨R.r.za6 hn ht,R.k⟩,rfl⟩
 | read d k =>
  rw [zhl]
  split
  . rename_i h; exact wi d _ h ok.2
  . exact same
 | write d k v =>
  rw [zf1]
  split
  . rename_i h; exact wi d _ h ok.2
  . exact same
 | keep d =>
  rw [zhm]
  split
  . rename_i h
    have ha:(s.deed d).act:=.inl h
    exact ⟨⟨(R.r.keep ha).mono ht,λ k h=>R.k k (by rw [zla R.r.c ha] at h; exact h)⟩,zrh ordS R.r.c ha⟩
  . exact same
 | drop d =>
  rw [step_drop]
  split
  . rename_i h
    have ha:(s.deed d).act:=h
    exact ⟨⟨(R.r.drop ha).mono ht,λ k h=>R.k k (by rw [zh8 R.r.c ha] at h; exact h)⟩,zk1 ordS R.r.c ha⟩
  . exact same
def zs0 (A:Ad):Sp:=λ vs H Q E=>∃ ρ ad s kq act T ns,vs=[.ref (ad Role.hall),.ref kq]/\zai A ρ ad s (zas s) H/\Run ns s T/\T+1<=1000/\s.n < 63/\okA ns s.n act/\H kq=some (.tup (actD act)) /\
 (∀ v H' ρ' ad',ad' Role.hall=ad .hall->zai A ρ' ad' (zf2 s act) (zas (zf2 s act)) H'->Frame ρ H ρ' H'->Q v H')/\(zf2 s act=s->E (.ref A.zaP) none H)
def spDo (A:Ad):Sp:=λ vs H Q _=>∃ ρ ad s kq act T ns,vs=[.ref (ad Role.hall),.ref kq]/\zai A ρ ad s (zas s) H/\Run ns s T/\T+1<=1000/\s.n < 63/\okA ns s.n act/\H kq=some (.tup (actD act)) /\
 ∀ v H' ρ' ad',ad' Role.hall=ad .hall->zai A ρ' ad' (zf2 s act) (zas (zf2 s act)) H'->Frame ρ H ρ' H'->Q v H'
def zsV (K:PySem.W.Frag):Sp:=λ vs H Q _=>∃ (a:Addr) (ns:List Int),vs=[.ref a]/\SqL K H a (ns.map V.int)/\∀ H',Q (.bl true) H'
def zp1 (ks:List Str) (b:Book Str):List PySem.W.Dat:=(ordS ks).map λ k=>.tuple [.str k,.int ((b k).getD 0)]
theorem zpZ {H:Hp} {b:Book Str}:∀ {l:List Str} {us:List V},zap H us (l.map λ k=>[V.str k,V.int ((b k).getD 0)])->DVs H us (l.map λ k=>PySem.W.Dat.tuple [.str k,.int ((b k).getD 0)])
 | [],[],.nil=>.nil
 | _::_,_::_,.cons ⟨p,e,q⟩ t=>by subst e; exact .cons (.tup q (.cons (.str _) (.cons (.int _) .nil))) (zpZ t)
theorem zqA {a b:List Str} (h:∀ k,k∈a↔k∈b):ordS a=ordS b:=zes (zbF a) (zbF b) λ x=>by rw [za0,za0]; exact h x
end TP
end
section
namespace TP
open PySem L2 TH
def zt0 (A:Ad):Sp:=λ vs H Q _=>∃ ρ ad s kv,vs=[.ref (ad Role.hall)]/\zai A ρ ad s kv H/\∀ H' q us,H q=none->Same H H'->H' q=some (.tup us)->zap H' us (s.log.map rowV)->Q (.ref q) H'
def zoC (A:Ad):Sp:=λ vs H Q E=>∃ ρ ad s kv i,vs=[.ref (ad Role.hall),.int i]/\zai A ρ ad s kv H/\s.n<=1000/\((∃ d:Nat,i=d/\d < s.n/\Q (.str (stS (s.deed d).st)) H)\/Out A s i H E)
def ztY (A:Ad):Sp:=λ vs H Q _=>∃ ρ ad s kv,vs=[.ref (ad Role.hall)]/\zai A ρ ad s kv H/\s.seen.length<=4/\s.seen.Nodup/\(∀ k,s.book k≠none->k∈s.seen) /\
 ∀ H' q us ks,Same H H'->H' q=some (.tup us)->(∀ k,k∈ks↔s.book k≠none)->zap H' us (zp0 ks s.book)->Q (.ref q) H'
def zrL (A:Ad):Sp:=λ vs H Q _=>∃ ρ ad s kv,vs=[.ref (ad Role.hall)]/\zai A ρ ad s kv H/\s.log.length<=3000/\∀ H',Same H H'->Q (.int ((logB s.log).length:Int)) H'
end TP
end
section
namespace TP
open PySem L2 TH
def rowB:Row Str->Bool
 | .begin _=>true
 | _=>false
theorem zqn (r:Row Str):∃ t,rowV r=.str t::(rowV r).tail/\decide (V.str t=V.str "begin")=rowB r:=by
 cases r <;> refine ⟨_,rfl,?_⟩ <;> first | rfl | exact decide_eq_false λ z=>by have:=V.str.inj z; revert this; decide +kernel
theorem znc (l:List (Row Str)) (r:Row Str):(logB (l++[r])).length=(logB l).length+if rowB r then 1 else 0:=by
 rw [zfJ,List.length_append]
 cases r <;> rfl
end TP
namespace TH
section
variable {K:Type} [DecidableEq K] (ord:List K->List K)
end
end TH
end
section
namespace TP
open PySem L2 TH
def Apart (K:PySem.W.Frag) (ρ:Addr->Role) (H:Hp) (a:Addr) (xs:List V):Prop:=(∃ o,H a=some o/\ρ a=.other/\∀ H':Hp,H' a=some o->SqL K H' a xs)\/∀ H':Hp,SqL K H' a xs
section
variable {K:PySem.W.Frag} {ρ ρ':Addr->Role} {H H':Hp} {a:Addr} {xs:List V}
theorem Apart.of (h:SqL K H a xs) (hr:∀ o,H a=some o->ρ a=.other):Apart K ρ H a xs:=by
 rcases h with (h | ⟨o,h⟩) | h
 . exact .inl ⟨_,h,hr _ h,λ H' e=>.inl (.inl e)⟩
 . exact .inl ⟨_,h,hr _ h,λ H' e=>.inl (.inr ⟨o,e⟩)⟩
 . exact .inr λ _=>.inr h
theorem Apart.frame (S:Apart K ρ H a xs) (f:Frame ρ H ρ' H'):Apart K ρ' H' a xs:=by
 rcases S with ⟨o,h,r,k⟩ | k
 . exact .inl ⟨o,(f _ _ h r).1,(f _ _ h r).2,k⟩
 . exact .inr k
theorem Apart.sq (S:Apart K ρ H a xs):SqL K H a xs:=by
 rcases S with ⟨o,h,r,k⟩ | k
 . exact k _ h
 . exact k _
end
theorem zqE {ns:List Int} {s:HS Str} {T:Nat} (R:Run ns s T) (l:zaW s) (a:LAct):zaW (zf2 s a):=by
 cases a with
 | begin=>exact l.za6 R.r.c
 | read d k =>
  rw [zhl]
  split
  . rename_i h; exact l.wish ordS R.r.c h
  . exact l
 | write d k v =>
  rw [zf1]
  split
  . rename_i h; exact l.wish ordS R.r.c h
  . exact l
 | keep d =>
  rw [zhm]
  split
  . rename_i h; exact l.keep ordS R.r.c (.inl h)
  . exact l
 | drop d =>
  rw [step_drop]
  split
  . rename_i h; exact l.drop ordS R.r.c h
  . exact l
theorem zpx {H:Hp}:∀ l:List Nat,DVs H (zaR l) (l.map λ (n:Nat)=>PySem.W.Dat.int (n:Int))
 | []=>.nil
 | _::r=>.cons (.int _) (zpx r)
theorem zrT {t U:TS} {D:Ends} {σ:St} {H:Hp} (Pv:St->Hp->Prop) (hU:∀ σ' H',Pv σ' H'->U D σ' H') (ht:∀ V:TS,(∀ σ' H',Pv σ' H'->V D σ' H')->tSeq t V D σ H):tSeq t U D σ H:=ht U hU
end TP
end
section
namespace TP
open PySem L2 TH
section
variable {H0 H H':Hp} {kvs:List (Key×V)} {l:List (Row Str)}
end
def KeysIn (SN:List Str) (l:List (Row Str)):Prop:=∀ d,∀ p∈logW l d,p.1∈SN
end TP
end
section
namespace TH
section
variable {K:Type} [DecidableEq K] (ord:List K->List K)
end
end TH
namespace TP
open PySem L2 TH
theorem ziS {ρ ρ':Addr->Role} {H H':Hp} (f:Frame ρ H ρ' H'):∀ {us:List V} {xss:List (List V)},(∀ p,V.ref p∈us->ρ p=.other)->zap H us xss->zap H' us xss/\∀ p,V.ref p∈us->ρ' p=.other
 | _,_,_,.nil=>⟨.nil,λ p h=>by cases h⟩
 | _::us,_,hr,.cons ⟨p,e,q⟩ t=>by
  obtain ⟨t',r'⟩:=ziS f (λ p hp=>hr p (List.mem_cons_of_mem _ hp)) t
  subst e
  have h1:=f _ _ q (hr p List.mem_cons_self)
  exact ⟨.cons ⟨p,rfl,h1.1⟩ t',λ x hx=>by
   rcases List.mem_cons.mp hx with z | z
   . cases z; exact h1.2
   . exact r' x z⟩
section
variable {l:List (Row Str)} {kvs:List (Key×V)} {ρ ρ':Addr->Role} {H H':Hp}
end
theorem zqF {s:HS Str} {T:Nat} (E:Ext s T) (L:zaW s):KeysIn s.seen s.log:=λ d p hp=>by
 rw [L.w] at hp
 exact zhh E (List.mem_map.mpr ⟨p,hp,rfl⟩)
end TP
end
section
namespace TP
open PySem L2 TH
section
variable {H H':Hp} {kvs:List (Key×V)} {f:Nat->List (Str×Int)} {n:Nat}
end
def rowD:Row Str->List PySem.W.Dat
 | .begin d=>[.str "begin",.int d]
 | .write d k b v=>[.str "write",.int d,.str k,.int b,.int v]
 | .keep d=>[.str "keep",.int d]
 | .drop d=>[.str "give up",.int d]
theorem zs6 {H:Hp} (r:Row Str):DVs H (rowV r) (rowD r):=by
 cases r <;> first | exact .cons (.str _) (.cons (.int _) .nil) | exact .cons (.str _) (.cons (.int _) (.cons (.str _) (.cons (.int _) (.cons (.int _) .nil))))
theorem zoQ {H:Hp}:∀ {l:List (Row Str)} {us:List V},zap H us (l.map rowV)->DVs H us (l.map λ r=>.tuple (rowD r))
 | [],[],.nil=>.nil
 | r::_,_::_,.cons ⟨p,e,q⟩ t=>by subst e; exact .cons (.tup q (zs6 r)) (zoQ t)
def zmE (SN:List Str) (l:List (Row Str)):Prop:=∀ d k b v,Row.write d k b v∈l->k∈SN
theorem KeysIn.rows {SN:List Str} {l:List (Row Str)} (h:KeysIn SN l):zmE SN l:=λ d k b v m=>h d (k,v) (by
 unfold logW
 exact List.mem_filterMap.mpr ⟨_,m,by simp⟩)
end TP
end
section
namespace L2
open PySem PySem.Spec PySem.W PyProof.Rows
structure ExcO (h:Heap) (x D:Addr) (ox:Obj):Prop where
 at_:h.get? x=some ox
 cls:ox.cls=.ref D
theorem ExcO.type {h:Heap} {x D:Addr} {ox:Obj} {M:Model} (e:ExcO h x D ox):Looks M h (typeOf (.ref x)) (.ref D):=λ A Q E s k hq=>wpAny_typeOf_ref (k _ _ e.at_) (by rw [e.cls]; exact hq)
theorem zqR:plainId "getset_descriptor.__get__" = true:=by decide +kernel
theorem zsg:builtinKind "getset_descriptor.__get__" = some Manifest.AttrKind.slot:=by kernel_rfl
theorem zqQ:splitId "getset_descriptor.__get__" = some ("getset_descriptor","__get__"):=by kernel_rfl
theorem zqS : entryFor table "getset_descriptor.__get__" = some Builtin.«getset_descriptor.__get__» := entryFor_of_tree (by kernel_rfl)
theorem zsh (a b c:Value):argsOk "getset_descriptor.__get__" ⟨[a,b,c],[]⟩:=by unfold argsOk; kernel_rfl
theorem zug:isInstance (.builtin "object.__class__") (.type "getset_descriptor")=pure true:=by
 unfold isInstance; rw [F.typeOf_object_class]; show isSubtype (.type "getset_descriptor") (.type "getset_descriptor")=_; rw [isSubtype_type]; kernel_rfl
theorem zq4:plainId "BaseException.__getattribute__" = true:=by decide +kernel
theorem zst:builtinKind "BaseException.__getattribute__" = some Manifest.AttrKind.slot:=by kernel_rfl
theorem zq3:splitId "BaseException.__getattribute__" = some ("BaseException","__getattribute__"):=by kernel_rfl
theorem zss:typeOf (Value.builtin "BaseException.__getattribute__")=pure (Value.type "wrapper_descriptor"):=by kernel_rfl
theorem zm8:plainId "object.__class__" = true:=by decide +kernel
theorem ztm:Builtin.Getset_descriptor.descrOwnerAndName "object.__class__" = ("object","__class__"):=by kernel_rfl
theorem zpP {prog:Program} {w:World} {A:Around} {s:Shared} {K:Frag} {x D:Addr} {ox:Obj} {R:Result->Shared->Prop}
  (f6:mroIn K D (.type "object")=some true) (hK:K.In s.heap) (hI:ExcO s.heap x D ox) (h:R (.ok (.ret (.ref D))) s):codeAny (model prog w) A (.call (.builtin "getset_descriptor.__get__") ⟨[.builtin "object.__class__",.ref x,.ref D],[]⟩) R s:=by
 have looks:∀ M,Looks M s.heap (isInstance (.builtin "object.__class__") (.type "getset_descriptor")) true:=λ M A Q E s' k hq=>by rw [zug]; exact wpAny_pure hq
 refine codeAny_call_builtin (id := "getset_descriptor.__get__") zqR zqS ?_
 refine @W.check_slot _ _ _ _ "getset_descriptor.__get__" "getset_descriptor" "__get__" (.builtin "object.__class__") [.ref x,.ref D] [] _ zsg zqQ (looks _) (zsh _ _ _) ?_
 unfold Builtin.«getset_descriptor.__get__» Builtin.Getset_descriptor.descrGet
 refine wpAny_bind (wpAny_of_eq (show Builtin.Getset_descriptor.descrGetArgs ⟨[.builtin "object.__class__",.ref x,.ref D],[]⟩=pure (.builtin "object.__class__",some (.ref x),some (.ref D)) from rfl) ?_)
 dsimp only
 unfold Builtin.Getset_descriptor.descrGetter
 dsimp only
 unfold Builtin.Getset_descriptor.descrCheckInstance Builtin.Getset_descriptor.descrNameAndClass
 dsimp only
 rw [ztm]
 dsimp only
 refine wpAny_bind (wpAny_bind (wpAny_pure ?_))
 dsimp only
 refine wpAny_bind ((Looks.andThen hI.type (looks_mroIn hK f6):Looks _ s.heap (isInstance (.ref x) (.type "object")) true).at ?_)
 rw [if_neg (by decide)]
 refine wpAny_pure ?_
 refine wpAny_pure ⟨plainId_quiet zm8 _,codeAny_builtin F.entry_object_class ?_⟩
 rw [Around.under_plainId zm8 _]
 unfold Builtin.«object.__class__»
 dsimp only
 unfold shownTypeOf
 refine wpAny_bind (wpAny_bind ((hI.type).at ?_))
 rw [if_neg (by intro z; cases z)]
 exact wpAny_pure (wpAny_pure h)
theorem ztB {prog:Program} {w:World} {A:Around} {E:Value->Shared->Prop} {s:Shared} {K:Frag} {x D:Addr} {ox:Obj} {Q:Option Value->Shared->Prop}
  (f1:findIn K (.ref D) "__getattribute__" = some (some (.builtin "BaseException.__getattribute__"))) (f2:findIn K (.ref D) "__getattr__" = some none)
  (f3:findIn K (.ref D) "__class__" = some (some (.builtin "object.__class__"))) (f4:specialIn K (.builtin "object.__class__") "__get__" = some (some (.builtin "getset_descriptor.__get__"))) (f5:takesIn K (.builtin "object.__class__")=some true)
  (f6:mroIn K D (.type "object")=some true) (f7:mroIn K D (.type "BaseException")=some true)
  (hK:K.In s.heap) (hI:ExcO s.heap x D ox) (h:Q (some (.ref D)) { s with toks:=s.toks+1 }):wpAny (model prog w) A (getAttr? (.ref x) "__class__") Q E s:=by
 unfold getAttr? mkText
 refine wpAny_bind (nd_fresh (wpAny_pure ?_))
 unfold getAttrBy?
 refine wpAny_bind (wpAny_attempt ?_)
 unfold getAttrBy
 refine wpAny_holding (wpAny_bind ((hI.type).at ?_))
 refine wpAny_bind ((looks_findIn hK f1).at ?_)
 dsimp only
 rw [if_neg (by rw [show (Value.builtin "BaseException.__getattribute__" == Value.builtin "object.__getattribute__")=false by decide +kernel,Bool.and_false]; exact Bool.false_ne_true)]
 unfold getAttrByItsOwn
 refine wpAny_bind ((looks_hook hK (r:=none) (by rw [if_pos (by rfl)]; exact f2)).at ?_)
 refine wpAny_bind (wpAny_attempt (wpAny_holding ?_))
 unfold callGetattribute
 rw [if_neg (by decide)]
 unfold boundAndCalled bindSpecial
 refine wpAny_bind (wpAny_bind (wpAny_of_eq zss (wpAny_pure ?_)))
 dsimp only
 refine wpAny_call (codeAny_call_builtin (id := "BaseException.__getattribute__") zq4 F.entry_bexc_ga ?_)
 refine @W.check_slot _ _ _ _ "BaseException.__getattribute__" "BaseException" "__getattribute__" (.ref x) [.str "__class__" s.toks] [] _ zst zq3 (Looks.andThen hI.type (looks_mroIn hK f7)) (F.args_bexc_ga _ _) ?_
 unfold Builtin.«object.__getattribute__»
 refine wpAny_bind (wpAny_of_eq (show slotArgs "__getattribute__" 1 ⟨[.ref x,.str "__class__" s.toks],[]⟩=pure (.ref x,[.str "__class__" s.toks]) from rfl) ?_)
 dsimp only
 refine wpAny_bind (wpAny_pure (wpAny_bind ((hI.type).at (wpAny_bind ?_))))
 unfold Builtin.ObjectAttr.find
 refine wpAny_bind ((looks_findIn hK f3).at (wpAny_bind ((looks_specialIn hK f4).at ?_)))
 unfold Builtin.ObjectAttr.dataDescriptor?
 dsimp only
 refine wpAny_bind (wpAny_bind ((looks_takesIn hK f5).at ?_))
 rw [if_pos rfl]
 refine wpAny_pure (wpAny_bind (wpAny_rule (wpAny_pure ?_)))
 dsimp only
 unfold Builtin.ObjectAttr.bindTo
 dsimp only
 refine wpAny_bind (wpAny_holding (wpAny_call (zpP (s:={ s with toks:=s.toks+1 }) f6 hK hI (wpAny_pure ?_))))
 exact wpAny_pure (wpAny_pure h)
structure ExcK (K:Frag) (D:Addr):Prop where
 ga:findIn K (.ref D) "__getattribute__" = some (some (.builtin "BaseException.__getattribute__"))
 gh:findIn K (.ref D) "__getattr__" = some none
 cl:findIn K (.ref D) "__class__" = some (some (.builtin "object.__class__"))
 sp:specialIn K (.builtin "object.__class__") "__get__" = some (some (.builtin "getset_descriptor.__get__"))
 tk:takesIn K (.builtin "object.__class__")=some true
 ob:mroIn K D (.type "object")=some true
 be:mroIn K D (.type "BaseException")=some true
theorem zqK {K:Frag} {x D:Addr} {ox:Obj} (k:ExcK K D):KitX K (.ref x) (.ref D) (λ h=>ExcO h x D ox):=by
 have hm:∃ dd c cd sl,List.lookup D K=some ⟨c,dd,.cls cd,sl⟩:=by
   have:=k.ob
   unfold mroIn clsIn at this
   split at this
   . rename_i c dd cd sl e
     exact ⟨_,_,_,_,e⟩
   . cases this
 obtain ⟨dd,c,cd,sl,hm⟩:=hm
 refine ⟨λ M h _ e=>e.type,λ M h hK _=>?_,λ h tp dd' its n sl' hK e=>?_,λ hK e hq=>ztB k.ga k.gh k.cl k.sp k.tk k.ob k.be hK e hq⟩
 . unfold isType
   exact Looks.andThen (Looks.ld (hK _ _ hm)) Looks.now
 . have h1:=hK _ _ hm
   refine beq_eq_false_iff_ne.mpr λ z=>?_
   cases z
   rw [h1] at e; cases e
theorem zml {M:Model} {A:Around} {E:Value->Shared->Prop} {s:Shared} {K:Frag} {x D C:Addr} {ox:Obj} {Q:Bool->Shared->Prop} (hK:K.In s.heap) (e:ExcO s.heap x D ox) (q:ktsIn K C "BaseException" = true) (m:mroIn K D (.ref C)=some true) (h:Q true s) :
  wpAny M A (excMatches (.ref x) (.ref C)) Q E s:=by
 obtain ⟨nm,qn,N,bs,bm,hdct,sn,sub,ab,col,dd,k0,k1,k2,k3,k5,newId,hC,hbase,_⟩:=kts_cls hK q
 unfold excMatches isInstance
 refine wpAny_bind (wpAny_bind (wpAny_typeOf_ref hC ?_))
 refine wpAny_of_eq (show isSubtype (.type "type") (.type "tuple")=pure false by rw [isSubtype_type]; kernel_rfl) ?_
 rw [if_neg Bool.false_ne_true]
 refine wpAny_bind (wpAny_pure ?_)
 dsimp only
 refine wpAny_bind ?_
 rw [List.forIn_cons]
 refine wpAny_bind (wpAny_bind ?_)
 unfold isExcClass isType
 refine wpAny_bind (wpAny_bind ((Looks.ld hC).at ?_))
 refine wpAny_pure ?_
 rw [if_pos rfl]
 obtain ⟨hp,g,d,tk,os⟩:=s
 refine wpAny_isSubtype_exc hC ?_
 rw [show (Value.ref C::bm).contains (.type "BaseException")=true by rw [List.contains_cons,hbase,Bool.or_true]]
 rw [if_neg (by decide)]
 refine wpAny_pure ?_
 dsimp only
 rw [List.forIn_nil]
 refine wpAny_pure (wpAny_bind ((e.type).at (wpAny_bind ?_)))
 rw [List.forIn_cons]
 refine wpAny_bind (wpAny_bind ((looks_mroIn hK m).at ?_))
 rw [if_pos rfl]
 exact wpAny_pure (wpAny_pure (wpAny_pure h))
end L2
end
section
namespace L2
open PySem PySem.Spec PySem.W PyProof.Rows
section
variable {X:Cx} {pins:List (Addr×Obj)} {σ:St} {H:Hp} {s:Shared}
theorem zfs {M:Model} {A:Around} {E:Value->Shared->Prop} {i:Nat} {x:Str} {pos:Pos} {Q:Unit->Shared->Prop} (I:Inv X pins σ H s) (hN:X.N.Nodup) (hi:X.N[i]?=some x) (hk:X.env.scope.names.lookup x=some .local)
   (h:∀ s',Inv X pins (σ.set i none) H s'->Q () s'):wpAny M A (do bindName X.env x .none; unbindBehindTheSuite X.env x pos) Q E s:=by
 obtain ⟨m,hn,hl⟩:=id I.loc
 have hcls:(X.env.scope.kind == .class || (X.env.scope.kind == .module && X.env.locals != X.env.globals))=false:=by rw [I.ok.kind]; rfl
 have hiσ:i < σ.length:=by rw [I.len]; exact (List.getElem?_eq_some_iff.mp hi).1
 have cne:=I.cne
 obtain ⟨oL,_,_,hoL,_⟩:=id hn
 refine wpAny_nameGoes_keeps hk hn hcls λ h' v hn' hs=>?_
 refine h _ ⟨I.ok,I.os,I.bare,⟨λ b o e n hb hx=>?_,λ b o e n hb hx=>?_,I.base.free,λ b o e hx=>?_,I.base.tups,I.base.frzs,I.base.tbls⟩,⟨_,hn',λ j y v' e1 e2 e3=>?_⟩,λ y c e=>?_,I.free,I.zdg,λ p hp=>?_,λ b ob e=>?_,by simpa using I.len⟩
 . exact (hs.2 b (Nat.ne_of_lt (Nat.lt_of_lt_of_le (Heap.lt_size e) I.ok.above))).trans (I.base.keep b o e n hb hx)
 . obtain ⟨sl,e1⟩:=I.base.slot b o e n hb hx
   exact ⟨sl,(hs.2 b (Nat.ne_of_lt (Nat.lt_of_lt_of_le (Heap.lt_size e) I.ok.above))).trans e1⟩
 . obtain ⟨o',e1⟩:=I.base.there b o e hx
   exact ⟨o',(hs.2 b (Nat.ne_of_lt (Nat.lt_of_lt_of_le (Heap.lt_size e) I.ok.above))).trans e1⟩
 . by_cases hj:j=i
   . subst hj
     rw [List.getElem?_set_self hiσ] at e2
     cases e2
   . rw [List.getElem?_set_ne (Ne.symm hj)] at e2
     obtain ⟨u',r',q⟩:=hl j y v' e1 e2 e3
     refine ⟨u',r',?_⟩
     rcases q with ⟨k,e⟩ | ⟨k,c,e,z⟩
     . refine .inl ⟨k,?_⟩
       have:y≠x:=λ e=>hj (zjP hN e1 (e ▸ hi))
       simp [this,e]
     . exact .inr ⟨k,c,e,z.sameBut hs (cne y c e)⟩
 . obtain ⟨w',z⟩:=I.cell y c e
   exact ⟨w',z.sameBut hs (cne y c e)⟩
 . obtain ⟨e,n,ne,nf,d⟩:=I.pin p hp
   exact ⟨(hs.2 p.1 ne).trans e,n,ne,nf,d⟩
 . refine (I.hok b ob e).stay (λ c w' hc q=>(hs.2 c ?_).trans q) (λ _ q=>q) λ _ _ q=>q
   rintro rfl
   rcases hc with z | hc
   . rw [<-z,I.free] at e; cases e
   . rw [I.free] at hc; cases hc
end
def cxHA (X:Cx) (e:Value) (pn:List (Addr×Obj)):Cx:={ X with A:=X.A.mark (some e),calm:=false,xe:=NoX,pn:=pn }
theorem Inv.toHA {X:Cx} {pins:List (Addr×Obj)} {σ:St} {H:Hp} {s:Shared} {e:Value} {p:Addr×Obj} (I:Inv X pins σ H s) (h:s.heap.get? p.1=some p.2/\H p.1=none/\p.1≠X.env.locals/\p.1∉X.fs/\∀ v,p.2.data≠.cell v):Inv (cxHA X e (p::(X.pn++pins))) [] σ H s :=
 ⟨⟨I.ok.mod,I.ok.kind,I.ok.glob,I.ok.blt,I.ok.above,I.ok.inj,I.ok.has,I.ok.cab,λ z=>(by cases z),I.ok.frames,I.ok.stk,I.ok.exf,I.ok.bs,I.ok.bsz,I.ok.noex,I.ok.exfs,I.ok.funs,I.ok.frf⟩,I.os,I.bare,I.base,I.loc,I.cell,I.free,I.zdg,λ q hq=>by
  have hq':q∈(p::(X.pn++pins))++[]:=hq
  rw [List.append_nil] at hq'
  rcases List.mem_cons.mp hq' with z | z
  . subst z; exact h
  . exact I.pin q z,I.hok,I.len⟩
theorem Inv.ofHA {X:Cx} {pins pins':List (Addr×Obj)} {σ:St} {H:Hp} {s:Shared} {e:Value} {p:Addr×Obj} {pins0:List (Addr×Obj)} {σ0:St} {H0:Hp} {s0:Shared} (I0:Inv X pins0 σ0 H0 s0) (I:Inv (cxHA X e (p::(X.pn++pins))) pins' σ H s):Inv X pins σ H s :=
 ⟨I0.ok,I.os,I.bare,I.base,I.loc,I.cell,I.free,I.zdg,λ q hq=>I.pin q (List.mem_append_left _ (List.mem_cons_of_mem _ hq)),I.hok,I.len⟩
def unE (i:Nat) (D:Ends):Ends:={ nx:=λ σ H=>D.nx (σ.set i none) H,rt:=D.rt,bk:=λ σ H=>D.bk (σ.set i none) H,ct:=λ σ H=>D.ct (σ.set i none) H }
def zsE (i:Nat) (Cs:List Addr) (tb:XK->TS) (ts:Addr->Addr->TS):TS:=λ D σ H=>tb (λ cls _ H'=>∃ C∈Cs,cls=.ref C/\∀ ex,ts ex C (unE i D) ((σ.map λ _=>none).set i (some (.ref ex))) H') D σ H
section
variable {X:Cx} {C:Addr} {Cs:List Addr} {x n:Str} {i:Nat} {body suite:List Stmt} {b₀:Stmt} {np hpos pos:Pos} {tb:XK->TS} {ts:Addr->Addr->TS}
theorem zqr (hc:X.calm=true) (hk:X.stack=X.env::X.outer) (hfr:X.env.frame=some X.env.locals) (hex:X.ex=[]) (hg:Gl X x) (hm:X.mg x=some (.ref C)) (q:ktsIn X.K C "BaseException" = true) (hsub:∀ D∈Cs,mroIn X.K D (.ref C)=some true)
   (hN:X.N.Nodup) (hi:X.N[i]?=some n) (hl:X.env.scope.names.lookup n=some .local)
   (hb:∀ E pn xe,Passes (CX1 X.prog X.w) (cxT X pn xe) E->PSs (cxT X pn xe) body (tb E)) (hs:∀ ex D ob pn,D∈Cs->ob.cls=.ref D->(ex,ob)∈pn->PSs (cxHA X (.ref ex) pn) (b₀::suite) (ts ex D))
   (hd:(x == ("__debug__" : Str))=false:=by decide) :
   PS X (.Try body [.ExceptHandler (some (.Name x np)) (some n) (b₀::suite) hpos] [] [] pos) (zsE i Cs tb ts):=by
 intro pins s σ H D I h
 refine wpAny_Try_except (wpAny_mono ((hb _ (X.pn++pins) _ ?pass) [] s σ H D I.toT h) (λ fl s' hq=>?_) λ e s' hq=>hq)
 case pass =>
   intro pins' σ' H1 s1 e s' I' hcx
   obtain ⟨ex,C',t,B,H',rfl,os,bare,un,hok,hB,fly,D',hD',hC',hE⟩:=hcx
   obtain rfl:C'=D':=Value.ref.inj hC'
   have I1:Inv X pins σ' H1 s1:=I'.ofT
   have frm:X.A.frames=some (X.env::X.outer):=by rw [<-hk]; exact I.ok.frames
   have fly':Heap.FlyingW B (X.env::X.outer) ex (.ref C') (.ref t) s'.heap:=by rw [<-hk]; exact fly
   refine wpAny_looks_onW frm hfr fly' λ h4 held sl4=>?_
   refine wpAny_landsW held λ h5 fly5 sl5=>?_
   have hfs:∀ b∈frs X.stack,∀ o,s'.heap.get? b=some o->∀ vs,o.data≠.fields vs:=λ b hb' o qo=>by
    obtain ⟨_,o',q',hd'⟩:=fly.2.2.1.mem hb'
    rw [qo] at q'; cases q'
    exact hd'
   have at_:∀ h6:Heap,B.StaysIn h6->s'.heap.UpToSlots h6->Inv X pins σ' H' { s' with heap:=h6 }:=λ h6 st6 sl6 =>
    I1.zq1 (ch:=[]) (s':={ s' with heap:=h6 }) os (un.fly hB st6 sl6 hfs) (HOk.fly (fs:=frs X.stack) hok (λ b o q1 n1 t1=>hB b o q1 n1 (.inr t1)) st6 λ b hb'=>by
     have u:=I1.zf0 b hb'
     obtain ⟨_,o',q',_⟩:=I1.stack.mem hb'
     exact un.free b o' q' u (by intro z; cases z)) bare λ b z=>by cases z
   have I5:=at_ h5 fly5.1 (sl4.trans sl5)
   obtain ⟨ob,hob,hobc⟩:=fly5.there
   refine wpAny_handleBy_cons (codeAny_handlers_test (zfi (X:=cxH X (.ref ex)) I5.toH hg hm ?_ hd)) (by intro z; cases z)
   refine zml I5.kIn ⟨hob,hobc⟩ q (hsub C' hD') (codeAny_handlers_suite_as ?_)
   refine lands_againW fly5 λ h6 fly6 sl6=>?_
   have I6:=at_ h6 fly6.1 ((sl4.trans sl5).trans sl6)
   have I7:Inv X pins (σ.map λ _=>none) H' { s' with heap:=h6 }:=I6.weak (by rw [List.length_map,I.len,I6.len]) λ i v e1=>by
    rw [List.getElem?_map] at e1
    cases e2:σ[i]? with
    | none=>rw [e2] at e1; cases e1
    | some o=>rw [e2] at e1; cases e1
   obtain ⟨oe,ws,hoe,hoec,hoed,_⟩:=fly6.first
   obtain ⟨oe0,ws0,hoe0,_,hoed0,_⟩:=fly.first
   have nst:ex∉frs X.stack:=λ z=>hfs ex z oe0 hoe0 _ hoed0
   have nH:H' ex=none:=by
    cases e:H' ex with
    | none=>rfl
    | some v =>
     have:=hB ex oe0 hoe0 nst (.inr ⟨v,e⟩)
     rw [fly.2.1] at this
     cases this
   have sub:∀ b,b=X.env.locals\/b∈X.fs->b∈frs X.stack:=λ b z=>by
    rw [hk]
    show b∈List.filterMap _ (X.env::X.outer)
    rw [List.filterMap_cons,hfr]
    exact List.mem_cons.mpr z
   have I8:=I7.toHA (e:=.ref ex) (p:=(ex,oe)) ⟨hoe,nH,λ z=>nst (sub _ (.inl z)),λ z=>nst (sub _ (.inr z)),λ v z=>by rw [hoed] at z; cases z⟩
   refine zjm (X:=cxHA X (.ref ex) ((ex,oe)::(X.pn++pins))) I8 hN hi (.inl hl) (show RelV (.ref ex) (.ref ex) from rfl) (λ s8 I9=>?_) (.inr hl)
   refine wpAny_mono (hs ex C' oe _ hD' hoec List.mem_cons_self [] s8 _ H' (unE i D) I9 (hE ex)) (λ fl s9 hq=>?_) λ _ _ z=>z.elim
   cases fl with
   | next =>
    obtain ⟨σ9,H9,I10,q9⟩:=hq
    exact zfs (I7.ofHA I10) hN hi hl λ s10 I11=>⟨_,H9,I11,q9⟩
   | brk =>
    obtain ⟨σ9,H9,I10,q9⟩:=hq
    exact zfs (I7.ofHA I10) hN hi hl λ s10 I11=>⟨_,H9,I11,q9⟩
   | cont =>
    obtain ⟨σ9,H9,I10,q9⟩:=hq
    exact zfs (I7.ofHA I10) hN hi hl λ s10 I11=>⟨_,H9,I11,q9⟩
   | ret u =>
    obtain ⟨v9,σ9,H9,I10,r9,q9⟩:=hq
    exact zfs (I7.ofHA I10) hN hi hl λ s10 I11=>⟨v9,_,H9,I11,r9,q9⟩
 . cases fl with
   | next=>obtain ⟨σ8,H8,I8,q8⟩:=hq; exact wpAny_execs_nil ⟨σ8,H8,I8.ofT,q8⟩
   | brk=>obtain ⟨σ8,H8,I8,q8⟩:=hq; exact ⟨σ8,H8,I8.ofT,q8⟩
   | cont=>obtain ⟨σ8,H8,I8,q8⟩:=hq; exact ⟨σ8,H8,I8.ofT,q8⟩
   | ret u=>obtain ⟨v8,σ8,H8,I8,r8,q8⟩:=hq; exact ⟨v8,σ8,H8,I8.ofT,r8,q8⟩
end
def cvOf:V->Value
 | .ty n=>.type n
 | .ref a=>.ref a
 | _=>.none
def rIsx (K:Frag) (ex D:Addr):List V->Hp->VK->Prop:=λ xs H Q=>∃ c b,xs=[.ref ex,c]/\((∃ n,c=.ty n)\/∃ a,c=.ref a)/\kitOne K (.ref D) (cvOf c)=some b/\Q (.bl b) H
theorem zq0 {Y:Cx} {ex D:Addr} {ob:Obj} (k:ExcK Y.K D) (hc:ob.cls=.ref D) (hp:(ex,ob)∈Y.pn):zis Y (.builtin "isinstance") (rIsx Y.K ex D):=by
 intro pins s σ H xs us Q I r h
 obtain ⟨c,b,rfl,hcv,e,q⟩:=h
 obtain ⟨u,v,rfl,ru,rv⟩:=Vals.two r
 cases ru
 have hv:v=cvOf c:=by
  rcases hcv with ⟨n,rfl⟩ | ⟨a,rfl⟩
  . exact rv
  . exact rv
 subst hv
 obtain ⟨e1,_⟩:=I.pin (ex,ob) (List.mem_append_left _ hp)
 exact kia_one (zqK k) I.kIn ⟨e1,hc⟩ e (λ z=>nomatch z) λ tk=>⟨.bl b,H,I.tok tk,rfl,q⟩
def rNeB:R2:=λ x y H Q=>∃ l m a b,x=.ref l/\y=.ref m/\H l=some (.lst [.bl a,.bl b])/\H m=some (.lst [.bl a,.bl b])/\Q (.bl false) H
theorem zo4 {X:Cx} (hu:X.A.units+64 < cLine):OpR X (compareOp .NotEq) rNeB:=by
 intro pins s σ H x y v u Q I rx ry h
 obtain ⟨l,m,a,b,rfl,rfl,hl,hm,q⟩:=h
 have rd:∀ (l:Addr) (u:Value),H l=some (.lst [.bl a,.bl b])->RelV (.ref l) u->∃ as,Reads s.heap u (.list [.bool a,.bool b]) as:=λ l u hl r=>by
  cases r
  obtain ⟨_,its,n,rv,ho⟩:=I.hok _ _ hl
  obtain ⟨u1,u2,rfl,r1,r2⟩:=Vals.two rv
  cases r1
  cases r2
  exact ⟨_,.list ho rfl rfl (ReadsAll.cons (Reads.bool a) (ReadsAll.cons (Reads.bool b) .nil))⟩
 obtain ⟨as,ra⟩:=rd l v hl rx
 obtain ⟨bs,rb⟩:=rd m u hm ry
 have sh:SeqAt.shaped (.list [.bool a,.bool b])=true:=by cases a <;> cases b <;> decide +kernel
 have ev:PyData.eqv (.list [.bool a,.bool b]) (.list [.bool a,.bool b])=true:=by cases a <;> cases b <;> decide +kernel
 exact ne_dataH ra rb sh sh hu (by rw [ev]; exact ⟨.bl _,H,I,rfl,q⟩)
end L2
end
section
namespace TP
open PySem L2 TH
theorem zsq:bootBuiltins "ValueError" = some (.type "ValueError"):=by decide +kernel
theorem zie {Y:Cx} {K:PySem.W.Frag} {ex D:Addr} {ob:Obj} (hK:Y.K=K) (k:ExcK K D) (hc:ob.cls=.ref D) (hp:(ex,ob)∈Y.pn):zis Y (.builtin "isinstance") (rIsx K ex D):=by
 subst hK
 exact zq0 k hc hp
theorem mem2 {P:Addr->Prop} {a b C:Addr} (h:C∈[a,b]) (pa:P a) (pb:P b):P C:=by
 rcases List.mem_cons.mp h with z | z
 . rw [z]; exact pa
 . rw [List.mem_singleton.mp z]; exact pb
def Refd (A:Ad) (s:HS Str) (i:Int) (H:Hp) (E:XK):Prop:=(∃ d:Nat,i=d/\d < s.n/\(s.deed d).st≠.zaq/\E (.ref A.zaP) none H)\/Out A s i H E
def zrH (A:Ad):Sp:=λ vs H Q E=>∃ ρ ad s kv i k,vs=[.ref (ad Role.hall),.int i,.str k]/\zai A ρ ad s kv H/\s.n<=1000/\Refd A s i H E
def zqc (A:Ad):Sp:=λ vs H Q E=>∃ ρ ad s kv i k v,vs=[.ref (ad Role.hall),.int i,.str k,.int v]/\zai A ρ ad s kv H/\s.n<=1000/\Refd A s i H E
def zqd (A:Ad):Sp:=λ vs H Q E=>∃ ρ ad s kv i,vs=[.ref (ad Role.hall),.int i]/\zai A ρ ad s kv H/\s.n<=1000/\Out A s i H E
def Bad (s:HS Str) (way:Nat) (i:Int) (b:Bool):Prop:=(b=true/\(i < 0\/(s.n:Int)<=i))\/(b=false/\∃ d:Nat,i=d/\d < s.n/\(way < 3/\(s.deed d).st≠.zaq\/way=3/\¬ (s.deed d).act))
def excC (A:Ad) (b:Bool):Addr:=if b then A.zbB else A.zaP
def ztX (A:Ad):Sp:=λ vs H Q E=>∃ ρ ad s i,∃ way:Nat,∃ T b,vs=[.ref (ad Role.hall),.int way,.int i]/\zai A ρ ad s (zas s) H/\Ready s T/\(∀ d,(s.deed d).done.length<=2000)/\way < 7/\Bad s way i b/\E (.ref (excC A b)) none H
def zsT (A:Ad):Sp:=λ vs H Q _=>∃ ρ ad s i,∃ way:Nat,∃ T b,vs=[.ref (ad Role.hall),.int way,.int i]/\zai A ρ ad s (zas s) H/\Ready s T/\(∀ d,(s.deed d).done.length<=2000)/\way < 7/\Bad s way i b /\
 ∀ H' q,Same H H'->H' q=some (.lst [.bl b,.bl (!b)])->Q (.ref q) H'
section
variable {A:Ad} {s:HS Str} {way:Nat} {i:Int} {b:Bool} {H:Hp} {E:XK}
theorem Bad.ref (h:Bad s way i b) (hw:way < 3) (e:E (.ref (excC A b)) none H):Refd A s i H E:=by
 rcases h with ⟨rfl,h⟩ | ⟨rfl,d,rfl,hd,h | h⟩
 . exact .inr ⟨h,e⟩
 . exact .inl ⟨d,rfl,hd,h.2,e⟩
 . omega
theorem Bad.ifg {G:Nat->Prop} (h:Bad s way i b) (hw:way < 3) (e:E (.ref (excC A b)) none H):zkf A s i H E G:=by
 rcases h with ⟨rfl,h⟩ | ⟨rfl,d,rfl,hd,h | h⟩
 . exact .inr ⟨h,e⟩
 . exact .inl ⟨d,rfl,hd,.inr ⟨h.2,e⟩⟩
 . omega
theorem Bad.out (h:Bad s way i b) (hw:3 < way) (e:E (.ref (excC A b)) none H):Out A s i H E:=by
 rcases h with ⟨rfl,h⟩ | ⟨rfl,d,rfl,hd,h | h⟩
 . exact ⟨h,e⟩
 . omega
 . omega
end
theorem zsP {D:Deed Str} (h:¬ D.act):inV (V.str (stS D.st)) [V.str "kept",V.str "given up"]=true:=by
 cases e:D.st with
 | zaq=>exact absurd (.inl e) h
 | waiting=>exact absurd (.inr e) h
 | kept=>decide +kernel
 | dropped=>decide +kernel
theorem zsN {D:Deed Str} (h:D.act):inV (V.str (stS D.st)) [V.str "kept",V.str "given up"]=false:=by
 rcases h with e | e <;> rw [e] <;> decide +kernel
theorem zsO {x:DS} (h:x≠.zaq):(!decide (V.str (stS x)=V.str "going"))=true:=by
 cases x with
 | zaq=>exact absurd rfl h
 | waiting=>decide +kernel
 | kept=>decide +kernel
 | dropped=>decide +kernel
def zse (l:List Nat):List PySem.W.Dat:=l.map λ (n:Nat)=>.int (n:Int)
open Classical in
noncomputable def znY (seen:List Str) (b:Book Str):List Str:=seen.filter λ k=>decide (b k≠none)
open Classical in
theorem zpn {seen:List Str} {b:Book Str} (h:∀ k,b k≠none->k∈seen) (k:Str):k∈znY seen b↔b k≠none:=by
 unfold znY
 rw [List.mem_filter]
 exact ⟨λ z=>of_decide_eq_true z.2,λ z=>⟨h k z,decide_eq_true z⟩⟩
noncomputable def zkv (s:HS Str) (kv:Book Str):PySem.W.Dat:=.tuple [.tuple (s.log.map λ r=>.tuple (rowD r)),.tuple (zp1 (znY s.seen s.book) s.book),.tuple (zp1 (znY s.seen kv) kv),.tuple (zse s.kept)]
theorem zrV {r:Row Str} (h:∀ d k b v,r=.write d k b v->PyData.strOk k=true):PySem.W.kqdOk 6 (.tuple (rowD r))=true:=by
 cases r with
 | write d k b v=>simp [rowD,PySem.W.kqdOk,h d k b v rfl]; decide +kernel
 | begin d=>simp [rowD,PySem.W.kqdOk]; decide +kernel
 | keep d=>simp [rowD,PySem.W.kqdOk]; decide +kernel
 | drop d=>simp [rowD,PySem.W.kqdOk]; decide +kernel
theorem zqk {s:HS Str} {kv:Book Str} (rk:zmE s.seen s.log) (ok:∀ k∈s.seen,PyData.strOk k=true):zmp (zkv s kv):=by
 have bk:∀ b:Book Str,PySem.W.kqdOk 7 (.tuple (zp1 (znY s.seen b) b))=true:=λ b=>by
   unfold zp1
   simp only [PySem.W.kqdOk,List.all_map,List.all_eq_true]
   intro k hk
   have:=ok k ((List.mem_filter.mp (za0.mp hk)).1)
   simp [PySem.W.kqdOk,this]
 show PySem.W.kqdOk 8 _=true
 unfold zkv
 rw [PySem.W.kqdOk,List.all_eq_true]
 intro d hd
 have r7:PySem.W.kqdOk 7 (.tuple (s.log.map λ r=>.tuple (rowD r)))=true:=by
   rw [PySem.W.kqdOk,List.all_map,List.all_eq_true]
   exact λ r hr=>zrV λ d k b v e=>ok k (rk d k b v (e ▸ hr))
 have i7:PySem.W.kqdOk 7 (.tuple (zse s.kept))=true:=by
   unfold zse
   rw [PySem.W.kqdOk,List.all_map,List.all_eq_true]
   intro n hn
   simp [PySem.W.kqdOk]
 rcases List.mem_cons.mp hd with z | hd
 . rw [z]; exact r7
 rcases List.mem_cons.mp hd with z | hd
 . rw [z]; exact bk _
 rcases List.mem_cons.mp hd with z | hd
 . rw [z]; exact bk _
 . rw [List.mem_singleton.mp hd]; exact i7
def zrG (A:Ad):Sp:=λ vs H Q _=>∃ ρ ad s kv,vs=[.ref (ad Role.hall)]/\zai A ρ ad s kv H/\s.seen.length<=4/\s.seen.Nodup/\(∀ k,s.book k≠none->k∈s.seen)/\(∀ k,kv k≠none->k∈s.seen)/\s.kept.length<=1000 /\
 ∀ H' q,Same H H'->DV H' (.ref q) (zkv s kv)->Q (.ref q) H'
theorem znv {H:Hp} {q:Addr} {us:List V} {ks seen:List Str} {b:Book Str} (e:H q=some (.tup us)) (h:∀ k,b k≠none->k∈seen) (hk:∀ k,k∈ks↔b k≠none) (t:zap H us (zp0 ks b)):DV H (.ref q) (.tuple (zp1 (znY seen b) b)):=by
 refine .tup e ?_
 unfold zp0 at t
 rw [zqA λ k=>(hk k).trans (zpn h k).symm] at t
 exact zpZ t
end TP
end
section
namespace TP
open PySem PySem.W PyProof.Rows
def goT (thr ok:Thread->Bool) (stp:SharedT->Thread->Option (SharedT×Thread)):Nat->SharedT->Thread->Option SharedT
 | 0,_,_=>none
 | n+1,s,t=>match thr t with
  | true=>some s
  | false=>match ok t with
   | false=>none
   | true=>match stp s t with
    | some (s',t')=>goT thr ok stp n s' t'
    | none=>none
theorem zpD {tb:String->Option Builtin} {p:Program} {w:World} {m:Nat} {ann:Option Value}:∀ {n:Nat} {s s':SharedT} {t:Thread},goT through (stepOk m ann) (stepT (denote tb) p w) n s t=some s'->topRun tb p w m ann n s.abs t=some s'.abs
 | 0,_,_,_,h=>by cases h
 | n+1,s,s',t,h=>by
  unfold goT at h
  unfold topRun
  cases ht:through t with
  | true=>rw [ht] at h; cases h; rfl
  | false =>
   rw [ht] at h
   cases hk:stepOk m ann t with
   | false=>rw [hk] at h; cases h
   | true =>
    rw [hk] at h
    cases hs:stepT (denote tb) p w s t with
    | none=>rw [hs] at h; cases h
    | some r=>obtain ⟨a,b⟩:=r; rw [hs] at h; rw [stepT_spec hs]; exact zpD h
def ofL:List Obj->Nat->BT->BT
 | [],_,t=>t
 | o::l,i,t=>ofL l (i+1) (t.ins i o)
theorem zua {p q:Program} {loose:List Str} {Xt:Shared->Bool} {α:Type} {Yf:Shared->α} {Ya:World->α} {N m:Nat} {ann:Option Value} {life:Life}
  (op:∀ w:World,(fencedOpening treeTable p w N).map (λ s=>(s.heap,s.gens,s.drawn,s.toks))=some (boot_heap w.params,Array.mk [],boot_drawn,boot_toks))
  (size:∀ w:World,((boot_heap w.params).isNs mainGlobals && (Array.mk []:Array GenState).size == 0,(boot_heap w.params).objs.size,(boot_heap w.params).nsMap mainGlobals "__annotations__")=(true,m,ann))
  (hb:∀ w:World,absHeap (ofL (boot_heap w.params).objs.toList 0 .nil) m life=boot_heap w.params)
  (run:∀ (w:World) (os:OsState),(goT through (stepOk m ann) (stepT (denote treeTable) p w) N ⟨ofL (boot_heap w.params).objs.toList 0 .nil,m,life,Array.mk [],boot_drawn,boot_toks,os⟩ (topStub p)).map
   (λ s=>(staticsOk (importedModules p.main.body) (boot_heap w.params) s.abs.heap && namesBound p s.abs.heap && gensDone s.abs && laidKept (boot_heap w.params) s.abs.heap,openSeen q loose (importedModules p.main.body) Xt true s.abs,Yf s.abs))=some (true,openGood q loose,Ya w)) :
  LeftO p q loose Xt Yf Ya N:=λ w=>by
 obtain ⟨⟨h,gs,d,k,os⟩,e,e'⟩:=Option.map_eq_some_iff.mp (op w)
 obtain ⟨rfl,rfl,rfl,rfl⟩:h=boot_heap w.params/\gs=Array.mk []/\d=boot_drawn/\k=boot_toks:=by simpa using e'
 obtain ⟨z1,z2,z3⟩:_/\_/\_:=by simpa only [Prod.mk.injEq] using size w
 obtain ⟨s,es,ev⟩:=Option.map_eq_some_iff.mp (run w os)
 obtain ⟨l1,l2,l3⟩:_/\_/\_:=by simpa only [Prod.mk.injEq] using ev
 have r:=zpD es
 unfold SharedT.abs at r
 dsimp only at r
 rw [hb] at r
 have t:topFrom treeTable p w N ⟨boot_heap w.params,Array.mk [],boot_drawn,boot_toks,os⟩=some s.abs:=by
  unfold topFrom
  dsimp only
  rw [z1,z2,z3,r]
  show (match staticsOk (importedModules p.main.body) (boot_heap w.params) s.abs.heap && namesBound p s.abs.heap && gensDone s.abs && laidKept (boot_heap w.params) s.abs.heap with | true=>_ | false=>_)=_
  rw [l1]
  rfl
 unfold openEnds
 rw [e]
 show (topFrom treeTable p w N _).map _=_
 rw [t]
 show some (openSeen q loose (importedModules p.main.body) Xt true s.abs,Yf s.abs)=_
 rw [l2,l3]
end TP
end
section
namespace TP
open PySem L2 TH PyProof.Rows
abbrev FV:=Str×Str×Arguments×FuncBody×Scope×Addr×List (Str×Addr)×Value×Addr×Bool
def fV (K:PySem.W.Frag) (f:Addr):Option FV:=match K.lookup f with
 | some ⟨_,_,.func d,_⟩=>some (d.name,d.qualname,d.params,d.body,d.scope,d.globals,d.closure,d.defaults,d.builtins,PySem.W.codeIn K d.code d.qualname && PySem.W.isFn K (.ref f))
 | _=>none
def fE (x q:Str) (st:Stmt):Option FV:=some (x,q,zj4 st,.stmts (zia st),zak st,mainGlobals,[],.none,builtinsNs,true)
def fdOf (K:PySem.W.Frag) (f:Addr):FuncData:=match K.lookup f with
 | some ⟨_,_,.func d,_⟩=>d
 | _=>default
def fi (K:PySem.W.Frag) (c:Addr) (x:Str):Option (Option Value):=PySem.W.findIn K (.ref c) x
def gl (K:PySem.W.Frag) (x:Str):Option (Option Value):=PySem.W.nsIn K mainGlobals x
def gs (K:PySem.W.Frag) (x v:Str):Bool:=match PySem.W.nsIn K mainGlobals x with
 | some (some (.str y _))=>y == v
 | _=>false
def gi (K:PySem.W.Frag) (x:Str) (v:Int):Bool:=match PySem.W.nsIn K mainGlobals x with
 | some (some (.int y _))=>y == v
 | _=>false
def dOf (st:Stmt):DefRec:=match st with
 | .FunctionDef n a b _ _ _ s _ _ p=>⟨n,a,b,s,p⟩
 | _=>⟨"",zj4 st,[],zak st,⟨0,0,0,0⟩⟩
def Kof (as:List Addr) (h:Heap):PySem.W.Frag:=as.filterMap λ a=>(h.get? a).map λ o=>(a,o)
theorem ztM {as:List Addr} {h:Heap}:(Kof as h).In h:=by
 unfold Kof
 intro a o e
 induction as with
 | nil=>cases e
 | cons b r ih =>
  rw [List.filterMap_cons] at e
  cases hb:h.get? b with
  | none=>rw [hb] at e; exact ih e
  | some x =>
   rw [hb] at e
   simp only [Option.map_some,List.lookup_cons] at e
   split at e
   . rename_i z
     rw [eq_of_beq z,hb]; exact e
   . exact ih e
section
variable {K:PySem.W.Frag}
theorem bt {L:List Bool} (h:L.all id=true) (i:Nat) {b:Bool} (e:L[i]?=some b):b=true:=List.all_eq_true.mp h b (List.mem_of_getElem? e)
theorem fu0 {x q:Str} {st:Stmt} {f:Addr} (h:fV K f=fE x q st):Fun K x q st f (fdOf K f)/\PySem.W.isFn K (.ref f)=true/\PySem.W.keepIn K (.ref f)=true:=by
 unfold fV fE at h
 unfold fdOf
 split at h
 . rename_i oc od d sl e
   obtain ⟨n,q',ps,bd,sc,g,cl,df,kw,dc,pm,an,cd,ct,bi⟩:=d
   simp only [Option.some.injEq,Prod.mk.injEq,Bool.and_eq_true] at h
   obtain ⟨rfl,rfl,rfl,rfl,rfl,rfl,rfl,rfl,rfl,h1,h2⟩:=h
   have kp:PySem.W.keepIn K (.ref f)=true:=by unfold PySem.W.keepIn; dsimp only; rw [e]
   exact ⟨⟨⟨oc,od,kw,dc,pm,an,cd,ct,sl,rfl,e,h1⟩,kp⟩,h2,kp⟩
 . cases h
theorem fuA {L:List Addr} {E:List (Option FV)} (h:L.map (fV K)=E) (i:Nat) {f:Addr} {x q:Str} {st:Stmt} (e1:L[i]?=some f) (e2:E[i]?=some (fE x q st)):fV K f=fE x q st:=by
 rw [<-h,List.getElem?_map,e1] at e2
 exact Option.some.inj e2
theorem fu {L:List Addr} {E:List (Option FV)} (h:L.map (fV K)=E) (i:Nat) {f:Addr} {x q:Str} {st:Stmt} (e1:L[i]?=some f) (e2:E[i]?=some (fE x q st)):Fun K x q st f (fdOf K f):=(fu0 (fuA h i e1 e2)).1
theorem fu2 {L:List Addr} {E:List (Option FV)} (h:L.map (fV K)=E) (i:Nat) {f:Addr} {x q:Str} {st:Stmt} (e1:L[i]?=some f) (e2:E[i]?=some (fE x q st)):PySem.W.isFn K (.ref f)=true:=(fu0 (fuA h i e1 e2)).2.1
theorem fu3 {L:List Addr} {E:List (Option FV)} (h:L.map (fV K)=E) (i:Nat) {f:Addr} {x q:Str} {st:Stmt} (e1:L[i]?=some f) (e2:E[i]?=some (fE x q st)):PySem.W.keepIn K (.ref f)=true:=(fu0 (fuA h i e1 e2)).2.2
variable {h:Heap} {mg:Str->Option Value}
theorem zh5 (X:K.In h) (G:h.Ns mainGlobals mg) {x v:Str} (e:gs K x v=true):∃ t,mg x=some (.str v t):=by
 unfold gs at e
 split at e
 . rename_i y t q
   rw [eq_of_beq e] at q
   exact ⟨t,PySem.W.mg_of X G q⟩
 . cases e
theorem zuf (X:K.In h) (G:h.Ns mainGlobals mg) {x:Str} {v:Int} (e:gi K x v=true):∃ t,mg x=some (.int v t):=by
 unfold gi at e
 split at e
 . rename_i y t q
   rw [eq_of_beq e] at q
   exact ⟨t,PySem.W.mg_of X G q⟩
 . cases e
end
theorem walk2 {l:PySem.W.OpenLaw} {n k:Nat} {q:Program} {loose:List Str} {XP:(Str->Option Value)->Heap->Prop} {OB:PySem.W.Frag->Prop} {d:DefRec} {CX:World->CXT} {sp:PySem.W.Frag->Sp} {x:Str}
  (hn:l.most=some n) (hn2:n<=sizeLine) (hdf:d.params.defaults=[]) (hr:Room k callerA)
  (F:∀ (w:World) (mg:Str->Option Value) (fa:Addr) (h:Heap) (K:PySem.W.Frag),OB K->K.In h->h.Ns mainGlobals mg->mg d.name=some (.ref fa) ->
   ∃ fd:FuncData,(∀ (s:Shared) (u:Value),BindsTo s fd ⟨[u],[]⟩ [(x,u)])/\∀ base:Heap,K.In base->base.Ns mainGlobals mg->FnOk l.prog w K mg base (CX w) k fa fd [x] (sp K))
  (hsp:∀ (K:PySem.W.Frag) (H:Hp) (a:Addr) (ns:List Int),ns.length<=n->Only H->SqL K H a (ns.map V.int)->sp K [.ref a] H (λ v _=>v=.bl true) λ _ _ _=>False)
  (hCX:∀ (w:World) (H:Hp) (s:Shared) (e:Value) (s':Shared),CX w [] H s (λ _ _ _=>False) e s'->False) :
  PySem.W.WalkO q loose XP (λ _ h=>∃ K,OB K/\K.In h) l.row.toRowW d [] (λ f vs=>PySem.call f vs):=by
 refine Att.zmB hn hdf λ w s₀ s₁ mg mb fa o pm cd doc a vs ns G Y ho hd hcd hmg hobj hints hlen hg=>?_
 obtain ⟨K,ob,KX⟩:=Y
 obtain ⟨fd,hb,hF⟩:=F w mg fa _ K ob KX G.T.g hmg
 exact zqJ KX G.T.g G.T.b G.T.builtins G.T.nolimit hg hobj hints (Nat.le_trans hlen hn2) hr hF hb (λ H hO hS=>hsp K H a ns hlen hO hS) λ H e s'=>hCX w H s₁ e s'
end TP
end
section
namespace TP
open PySem L2 TH
def top (i:Nat):Stmt:=PySem.Challenge.pw_turnhall_k03_refusals.main.body.getD i (.Pass ⟨0,0,0,0⟩)
abbrev ze3:Stmt:=inClass (top 27) 0
abbrev zf8:Stmt:=top 30
abbrev zeV:Stmt:=top 29
abbrev zf9:Stmt:=top 31
abbrev zga:Stmt:=top 32
abbrev zeX:Stmt:=top 33
abbrev zdy:Stmt:=inClass (top 17) 0
abbrev zd8:Stmt:=inClass (top 27) 1
abbrev zf6:Stmt:=top 3
abbrev zcz:Stmt:=inClass (top 27) 15
abbrev zbb:Stmt:=inClass (top 27) 16
abbrev ze7:Stmt:=inClass (top 18) 0
abbrev zcD:Stmt:=inClass (top 18) 1
abbrev ze6:Stmt:=inClass (top 18) 2
abbrev zbW:Stmt:=inClass (top 18) 3
abbrev ze5:Stmt:=inClass (top 18) 5
abbrev zdw:Stmt:=top 5
abbrev zcC:Stmt:=inClass (top 27) 19
abbrev zdb:Stmt:=inClass (top 18) 6
abbrev zbA:Stmt:=inClass (top 18) 9
abbrev zcA:Stmt:=inClass (top 27) 23
abbrev zda:Stmt:=inClass (top 27) 22
abbrev zbg:Stmt:=inClass (top 27) 21
abbrev zcx:Stmt:=inClass (top 17) 2
abbrev ze0:Stmt:=inClass (top 27) 25
abbrev zdx:Stmt:=top 4
abbrev zbE:Stmt:=inClass (top 17) 3
abbrev zd9:Stmt:=inClass (top 18) 7
abbrev zcl:Stmt:=inClass (top 18) 4
abbrev zdz:Stmt:=inClass (top 27) 27
abbrev zgd:Stmt:=inClass (top 27) 26
abbrev ze4:Stmt:=inClass (top 27) 24
abbrev zeZ:Stmt:=inClass (top 27) 20
abbrev zdA:Stmt:=inClass (top 27) 18
abbrev zge:Stmt:=inClass (top 27) 17
abbrev zeY:Stmt:=inClass (top 16) 0
abbrev ze1:Stmt:=inClass (top 27) 2
abbrev zd6:Stmt:=inClass (top 27) 3
abbrev ze2:Stmt:=inClass (top 27) 4
abbrev zb5:Stmt:=inClass (top 17) 1
abbrev zc8:Stmt:=inClass (top 27) 5
abbrev zeW:Stmt:=top 34
abbrev zhu:Stmt:=top 35
abbrev zgc:Stmt:=inClass (top 27) 14
abbrev zc7:Stmt:=top 6
abbrev zgb:Stmt:=inClass (top 27) 11
abbrev zcB:Stmt:=inClass (top 27) 12
abbrev zd7:Stmt:=inClass (top 27) 13
abbrev zd4:Stmt:=top 39
abbrev zd5:Stmt:=top 36
abbrev zcO:Stmt:=inClass (top 27) 6
abbrev zc9:Stmt:=inClass (top 27) 7
abbrev zck:Stmt:=inClass (top 18) 8
abbrev zcy:Stmt:=inClass (top 27) 10
abbrev zf7:Stmt:=top 37
abbrev zeU:Stmt:=top 38
abbrev zoO:Stmt:=top 40
structure Fs where
 f:Nat->Addr
 fd:Nat->FuncData
structure Txt (K:PySem.W.Frag) (mg:Str->Option Value) (A:Ad) (F:Fs):Prop where
 ok:AdOk A
 za4:Cls K A.zdW
 zbq:zb2 K A.zdW "use"
 za7:zb2 K A.zdW "key"
 zcG:zb2 K A.zdW "value"
 znl:mg "Want" = some (.ref A.zdW)
 zjR:Mk K A.zdW (F.f 35)
 zav:Cls K A.zaC
 zay:zb2 K A.zaC "state"
 zbe:zb2 K A.zaC "did"
 za5:zb2 K A.zaC "want"
 zqU:mg "Record" = some (.ref A.zaC)
 zpg:Mk K A.zaC (F.f 6)
 zaU:Cls K A.zcf
 zbm:zb2 K A.zcf "held"
 za3:zb2 K A.zcf "row"
 ztz:mg "Desk" = some (.ref A.zcf)
 zr9:Mk K A.zcf (F.f 11)
 zaj:Cls K A.zaX
 zaB:zb2 K A.zaX "records"
 zbr:zb2 K A.zaX "desks"
 zbc:zb2 K A.zaX "standing"
 za8:zb2 K A.zaX "kept_values"
 zb9:zb2 K A.zaX "kept_deeds"
 zb1:zb2 K A.zaX "rows"
 zty:mg "Hall" = some (.ref A.zaX)
 zr8:Mk K A.zaX (F.f 0)
 zmO:Fun K "__init__" "Hall.__init__" ze3 (F.f 0) (F.fd 0)
 zmy:Binds K (F.fd 0) ["self"] []
 zoj:Fun K "_law_mix" "_law_mix" zf8 (F.f 1) (F.fd 1)
 zbO:Binds K (F.fd 1) ["_law_cell_here","_law_prime","_law_many"] []
 zbN:mg "_law_mix" = some (.ref (F.f 1))
 zbL:PySem.W.keepIn K (.ref (F.f 1))=true
 zmH:Fun K "_law_cell" "_law_cell" zeV (F.f 2) (F.fd 2)
 zbJ:Binds K (F.fd 2) ["_law_script","_law_k"] []
 zbI:mg "_law_cell" = some (.ref (F.f 2))
 zbH:PySem.W.keepIn K (.ref (F.f 2))=true
 zgz:Fun K "_law_key" "_law_key" zf9 (F.f 3) (F.fd 3)
 zgv:Binds K (F.fd 3) ["_law_script","_law_k"] []
 zgs:mg "_law_key" = some (.ref (F.f 3))
 zgo:PySem.W.keepIn K (.ref (F.f 3))=true
 zok:Fun K "_law_act" "_law_act" zga (F.f 4) (F.fd 4)
 zoe:Binds K (F.fd 4) ["_law_script","_law_cell_here","_law_begun"] []
 zn9:mg "_law_act" = some (.ref (F.f 4))
 zn2:PySem.W.keepIn K (.ref (F.f 4))=true
 zmJ:Fun K "_law_acts" "_law_acts" zeX (F.f 5) (F.fd 5)
 zmv:Binds K (F.fd 5) ["_law_script"] []
 zmh:mg "_law_acts" = some (.ref (F.f 5))
 zmd:PySem.W.keepIn K (.ref (F.f 5))=true
 zki:Fun K "__init__" "Record.__init__" zdy (F.f 6) (F.fd 6)
 zj7:Binds K (F.fd 6) ["self"] []
 zlF:Fun K "begin" "Hall.begin" zd8 (F.f 7) (F.fd 7)
 zlz:Binds K (F.fd 7) ["self"] []
 zk4:Meth K A.zaX "begin" (F.f 7)
 zoh:Fun K "is_whole" "is_whole" zf6 (F.f 8) (F.fd 8)
 zoc:Binds K (F.fd 8) ["thing"] []
 zn7:mg "is_whole" = some (.ref (F.f 8))
 zn0:PySem.W.keepIn K (.ref (F.f 8))=true
 zg8:Fun K "record_of" "Hall.record_of" zcz (F.f 9) (F.fd 9)
 zbz:Binds K (F.fd 9) ["self","deed"] []
 zbx:Meth K A.zaX "record_of" (F.f 9)
 zcW:Fun K "refuse_unless_going" "Hall.refuse_unless_going" zbb (F.f 10) (F.fd 10)
 zaK:Binds K (F.fd 10) ["self","deed"] []
 zaI:Meth K A.zaX "refuse_unless_going" (F.f 10)
 zmS:Fun K "__init__" "Desk.__init__" ze7 (F.f 11) (F.fd 11)
 zmA:Binds K (F.fd 11) ["self"] []
 zhc:Fun K "hindering" "Desk.hindering" zcD (F.f 12) (F.fd 12)
 zdS:Binds K (F.fd 12) ["self","deed","use"] []
 zdM:Meth K A.zcf "hindering" (F.f 12)
 zmR:Fun K "lets" "Desk.lets" ze6 (F.f 13) (F.fd 13)
 zik:Binds K (F.fd 13) ["self","deed","use"] []
 zhR:Meth K A.zcf "lets" (F.f 13)
 zfq:Fun K "lets_at_once" "Desk.lets_at_once" zbW (F.f 14) (F.fd 14)
 zfp:Binds K (F.fd 14) ["self","deed","use"] []
 zff:Meth K A.zcf "lets_at_once" (F.f 14)
 zmQ:Fun K "take" "Desk.take" ze5 (F.f 15) (F.fd 15)
 zmz:Binds K (F.fd 15) ["self","deed","use"] []
 zl9:Meth K A.zcf "take" (F.f 15)
 zkg:Fun K "value_under" "value_under" zdw (F.f 16) (F.fd 16)
 zj6:Binds K (F.fd 16) ["book","key"] []
 zj2:mg "value_under" = some (.ref (F.f 16))
 zjZ:PySem.W.keepIn K (.ref (F.f 16))=true
 zhb:Fun K "carry_out" "Hall.carry_out" zcC (F.f 17) (F.fd 17)
 zdR:Binds K (F.fd 17) ["self","deed","want"] []
 zdL:Meth K A.zaX "carry_out" (F.f 17)
 ziP:Fun K "line_up" "Desk.line_up" zdb (F.f 18) (F.fd 18)
 ziK:Binds K (F.fd 18) ["self","deed","use"] []
 ziF:Meth K A.zcf "line_up" (F.f 18)
 zdY:Fun K "next_waited_for" "Desk.next_waited_for" zbA (F.f 19) (F.fd 19)
 zdX:Binds K (F.fd 19) ["self","deed","use"] []
 zdV:Meth K A.zcf "next_waited_for" (F.f 19)
 zg9:Fun K "next_from" "Hall.next_from" zcA (F.f 20) (F.fd 20)
 zg3:Binds K (F.fd 20) ["self","deed"] []
 zgX:Meth K A.zaX "next_from" (F.f 20)
 ziO:Fun K "come_to" "Hall.come_to" zda (F.f 21) (F.fd 21)
 zeQ:Binds K (F.fd 21) ["self","deed"] []
 zeK:Meth K A.zaX "come_to" (F.f 21)
 zdh:Fun K "greatest_all_round" "Hall.greatest_all_round" zbg (F.f 22) (F.fd 22)
 zbV:Binds K (F.fd 22) ["self","deed"] []
 zbU:Meth K A.zaX "greatest_all_round" (F.f 22)
 zg6:Fun K "written" "Record.written" zcx (F.f 23) (F.fd 23)
 zdQ:Binds K (F.fd 23) ["self"] []
 zdK:Meth K A.zaC "written" (F.f 23)
 zmM:Fun K "undo" "Hall.undo" ze0 (F.f 24) (F.fd 24)
 zmx:Binds K (F.fd 24) ["self","deed"] []
 zl8:Meth K A.zaX "undo" (F.f 24)
 zkh:Fun K "rising_keys" "rising_keys" zdx (F.f 25) (F.fd 25)
 zfX:Binds K (F.fd 25) ["given"] []
 zfP:mg "rising_keys" = some (.ref (F.f 25))
 zfM:PySem.W.keepIn K (.ref (F.f 25))=true
 zeo:Fun K "touched_keys" "Record.touched_keys" zbE (F.f 26) (F.fd 26)
 zem:Binds K (F.fd 26) ["self"] []
 zee:Meth K A.zaC "touched_keys" (F.f 26)
 zlG:Fun K "leave" "Desk.leave" zd9 (F.f 27) (F.fd 27)
 zlA:Binds K (F.fd 27) ["self","deed"] []
 zk5:Meth K A.zcf "leave" (F.f 27)
 zgB:Fun K "lets_first" "Desk.lets_first" zcl (F.f 28) (F.fd 28)
 zgx:Binds K (F.fd 28) ["self"] []
 zgl:Meth K A.zcf "lets_first" (F.f 28)
 zkj:Fun K "let_on" "Hall.let_on" zdz (F.f 29) (F.fd 29)
 zj8:Binds K (F.fd 29) ["self","key"] []
 zjV:Meth K A.zaX "let_on" (F.f 29)
 zon:Fun K "end" "Hall.end" zgd (F.f 30) (F.fd 30)
 zjh:Binds K (F.fd 30) ["self","deed","state"] []
 zi3:Meth K A.zaX "end" (F.f 30)
 zmP:Fun K "drop" "Hall.drop" ze4 (F.f 31) (F.fd 31)
 zij:Binds K (F.fd 31) ["self","deed"] []
 zhQ:Meth K A.zaX "drop" (F.f 31)
 zmL:Fun K "wait" "Hall.wait" zeZ (F.f 32) (F.fd 32)
 zmw:Binds K (F.fd 32) ["self","deed","want"] []
 zl7:Meth K A.zaX "wait" (F.f 32)
 zkk:Fun K "answer" "Hall.answer" zdA (F.f 33) (F.fd 33)
 zj9:Binds K (F.fd 33) ["self","deed","want"] []
 zjW:Meth K A.zaX "answer" (F.f 33)
 zoo:Fun K "ask" "Hall.ask" zge (F.f 34) (F.fd 34)
 zeB:Binds K (F.fd 34) ["self","deed","want"] []
 zet:Meth K A.zaX "ask" (F.f 34)
 zmK:Fun K "__init__" "Want.__init__" zeY (F.f 35) (F.fd 35)
 zdF:Binds K (F.fd 35) ["self","use","key","value"] []
 zir:Fun K "read" "Hall.read" ze1 (F.f 36) (F.fd 36)
 zih:Binds K (F.fd 36) ["self","deed","key"] []
 zhO:Meth K A.zaX "read" (F.f 36)
 zgS:Fun K "write" "Hall.write" zd6 (F.f 37) (F.fd 37)
 zgQ:Binds K (F.fd 37) ["self","deed","key","value"] []
 zgK:Meth K A.zaX "write" (F.f 37)
 zmN:Fun K "keep" "Hall.keep" ze2 (F.f 38) (F.fd 38)
 zii:Binds K (F.fd 38) ["self","deed"] []
 zhP:Meth K A.zaX "keep" (F.f 38)
 zfZ:Fun K "is_at_end" "Record.is_at_end" zb5 (F.f 39) (F.fd 39)
 zfY:Binds K (F.fd 39) ["self"] []
 zfI:Meth K A.zaC "is_at_end" (F.f 39)
 ziM:Fun K "give_up" "Hall.give_up" zc8 (F.f 40) (F.fd 40)
 zeP:Binds K (F.fd 40) ["self","deed"] []
 zeJ:Meth K A.zaX "give_up" (F.f 40)
 zmI:Fun K "_law_call" "_law_call" zeW (F.f 41) (F.fd 41)
 zmu:Binds K (F.fd 41) ["_law_hall","_law_act_here"] []
 zmg:mg "_law_call" = some (.ref (F.f 41))
 zmc:PySem.W.keepIn K (.ref (F.f 41))=true
 zp7:Fun K "_law_do" "_law_do" zhu (F.f 42) (F.fd 42)
 zp4:Binds K (F.fd 42) ["_law_hall","_law_act_here"] []
 zpE:mg "_law_do" = some (.ref (F.f 42))
 zpq:PySem.W.keepIn K (.ref (F.f 42))=true
 zom:Fun K "log" "Hall.log" zgc (F.f 43) (F.fd 43)
 zjg:Binds K (F.fd 43) ["self"] []
 zi2:Meth K A.zaX "log" (F.f 43)
 ziL:Fun K "rising_pairs" "rising_pairs" zc7 (F.f 44) (F.fd 44)
 zeO:Binds K (F.fd 44) ["book"] []
 zeN:mg "rising_pairs" = some (.ref (F.f 44))
 zeL:PySem.W.keepIn K (.ref (F.f 44))=true
 zol:Fun K "now" "Hall.now" zgb (F.f 45) (F.fd 45)
 zof:Binds K (F.fd 45) ["self"] []
 znX:Meth K A.zaX "now" (F.f 45)
 zha:Fun K "kept_book" "Hall.kept_book" zcB (F.f 46) (F.fd 46)
 zg4:Binds K (F.fd 46) ["self"] []
 zgY:Meth K A.zaX "kept_book" (F.f 46)
 zlE:Fun K "order" "Hall.order" zd7 (F.f 47) (F.fd 47)
 zly:Binds K (F.fd 47) ["self"] []
 zk3:Meth K A.zaX "order" (F.f 47)
 zlC:Fun K "_law_shown" "_law_shown" zd4 (F.f 48) (F.fd 48)
 zgP:Binds K (F.fd 48) ["_law_hall"] []
 zgO:mg "_law_shown" = some (.ref (F.f 48))
 zgN:PySem.W.keepIn K (.ref (F.f 48))=true
 zlD:Fun K "_law_count" "_law_count" zd5 (F.f 49) (F.fd 49)
 zlx:Binds K (F.fd 49) ["_law_hall"] []
 zle:mg "_law_count" = some (.ref (F.f 49))
 zlb:PySem.W.keepIn K (.ref (F.f 49))=true
 ziq:Fun K "state_of" "Hall.state_of" zcO (F.f 50) (F.fd 50)
 zcT:Binds K (F.fd 50) ["self","deed"] []
 zcP:Meth K A.zaX "state_of" (F.f 50)
 ziN:Fun K "done_by" "Hall.done_by" zc9 (F.f 51) (F.fd 51)
 ziJ:Binds K (F.fd 51) ["self","deed"] []
 ziE:Meth K A.zaX "done_by" (F.f 51)
 zgA:Fun K "waited_for" "Desk.waited_for" zck (F.f 52) (F.fd 52)
 zgw:Binds K (F.fd 52) ["self","deed","use"] []
 zgk:Meth K A.zcf "waited_for" (F.f 52)
 zg7:Fun K "waits_for" "Hall.waits_for" zcy (F.f 53) (F.fd 53)
 zg2:Binds K (F.fd 53) ["self","deed"] []
 zgW:Meth K A.zaX "waits_for" (F.f 53)
 zoi:Fun K "_law_try" "_law_try" zf7 (F.f 54) (F.fd 54)
 zod:Binds K (F.fd 54) ["_law_hall","_law_way","_law_deed"] []
 zn8:mg "_law_try" = some (.ref (F.f 54))
 zn1:PySem.W.keepIn K (.ref (F.f 54))=true
 zmG:Fun K "_law_said" "_law_said" zeU (F.f 55) (F.fd 55)
 zfo:Binds K (F.fd 55) ["_law_hall","_law_way","_law_deed"] []
 zfm:mg "_law_said" = some (.ref (F.f 55))
 zfj:PySem.W.keepIn K (.ref (F.f 55))=true
 zum:Fun K "law" "law" zoO (F.f 56) (F.fd 56)
 b_law:Binds K (F.fd 56) ["_law_script"] []
 zuh:mg "law" = some (.ref (F.f 56))
 k_law:PySem.W.keepIn K (.ref (F.f 56))=true
 zsi:∃ t,mg "BEGIN" = some (.str "begin" t)
 zj3:∃ t,mg "FIRST_VALUE" = some (.int 0 t)
 zgt:∃ t,mg "GIVEN_UP" = some (.str "given up" t)
 zpF:∃ t,mg "GIVE_UP" = some (.str "give up" t)
 zmk:∃ t,mg "GOING" = some (.str "going" t)
 ztx:∃ t,mg "KEEP" = some (.str "keep" t)
 zrp:∃ t,mg "KEPT" = some (.str "kept" t)
 ztw:∃ t,mg "READ" = some (.str "read" t)
 zlg:∃ t,mg "READING" = some (.str "reading" t)
 zlf:∃ t,mg "WAITING" = some (.str "waiting" t)
 zmi:∃ t,mg "WRITE" = some (.str "write" t)
 zcR:∃ t,mg "WRITING" = some (.str "writing" t)
 znm:mg "NoDeed" = some (.ref A.zbB)
 zp8:PySem.W.excIn K A.zbB [.type "ValueError",.type "Exception",.type "BaseException",.type "object"] "ValueError.__new__" = true
 zez:mg "NotGoing" = some (.ref A.zaP)
 ziQ:PySem.W.excIn K A.zaP [.type "ValueError",.type "Exception",.type "BaseException",.type "object"] "ValueError.__new__" = true
 znz:PySem.W.ktsIn K A.zaP "BaseException" = true
 zmj:mg "HallError" = some (.ref (F.f 57))
 zlH:PySem.W.ktsIn K (F.f 57) "BaseException" = true
 us:∀ C∈[A.zbB,A.zaP],PySem.W.mroIn K C (.ref (F.f 57))=some true
 ek:∀ C∈[A.zbB,A.zaP],ExcK K C
 iv:∀ C∈[A.zbB,A.zaP],PySem.W.kitOne K (.ref C) (.type "ValueError")=some true
 zh3:PySem.W.kitOne K (.ref A.zbB) (.ref A.zbB)=some true
 zgq:PySem.W.kitOne K (.ref A.zbB) (.ref A.zaP)=some false
 zgp:PySem.W.kitOne K (.ref A.zaP) (.ref A.zbB)=some false
 zfk:PySem.W.kitOne K (.ref A.zaP) (.ref A.zaP)=some true
 zk2:mg "ValueError" = none
 ztp:mg "bool" = none
 zpd:mg "int" = none
 zcs:mg "isinstance" = none
 zk0:mg "len" = none
 zjQ:mg "range" = none
 zt9:mg "set" = none
 znb:mg "sorted" = none
 zhL:mg "tuple" = none
local macro_rules | `(tactic| trivial) => `(tactic| exact ⟨rfl, rfl, rfl, by decide +kernel, rfl, by decide +kernel, by decide +kernel⟩)
theorem zkA:zao ["self"] ["self"] (zak ze3):=by trivial
theorem zlT:zao ["_law_cell_here","_law_prime","_law_many"] ["_law_cell_here","_law_prime","_law_many"] (zak zf8):=by trivial
theorem zkx:zao ["_law_script","_law_k"] ["_law_script","_law_k"] (zak zeV):=by trivial
theorem zbo:zao ["_law_script","_law_k","_law_letters","_law_seed","_law_tail"] ["_law_script","_law_k"] (zak zf9):=by trivial
theorem zcL:zao ["_law_script","_law_cell_here","_law_begun","_law_deed","_law_key_here","_law_turn","_law_many"] ["_law_script","_law_cell_here","_law_begun"] (zak zga):=by trivial
theorem zb0:zao ["_law_script","_law_found","_law_begun","_law_cell_here","_law_act_here"] ["_law_script"] (zak zeX):=by trivial
theorem ziw:zao ["self"] ["self"] (zak zdy):=by trivial
theorem zfw:zao ["self","deed"] ["self"] (zak zd8):=by trivial
theorem zlR:zao ["thing"] ["thing"] (zak zf6):=by trivial
theorem zf4:zao ["self","deed"] ["self","deed"] (zak zcz):=by trivial
theorem zcM:zao ["self","deed"] ["self","deed"] (zak zbb):=by trivial
theorem zkE:zao ["self"] ["self"] (zak ze7):=by trivial
theorem zdk:zao ["self","deed","use","others"] ["self","deed","use"] (zak zcD):=by trivial
theorem zkD:zao ["self","deed","use"] ["self","deed","use"] (zak ze6):=by trivial
theorem zeC:zao ["self","deed","use"] ["self","deed","use"] (zak zbW):=by trivial
theorem zkC:zao ["self","deed","use"] ["self","deed","use"] (zak ze5):=by trivial
theorem ziu:zao ["book","key"] ["book","key"] (zak zdw):=by trivial
theorem zcj:zao ["self","deed","want","record","before"] ["self","deed","want"] (zak zcC):=by trivial
theorem zht:zao ["self","deed","use"] ["self","deed","use"] (zak zdb):=by trivial
theorem zb4:zao ["self","deed","use","place"] ["self","deed","use"] (zak zbA):=by trivial
theorem zdj:zao ["self","deed","want"] ["self","deed"] (zak zcA):=by trivial
theorem zbD:zao ["self","deed","found","left","last","other"] ["self","deed"] (zak zda):=by trivial
theorem zba:zao ["self","deed","found","rising"] ["self","deed"] (zak zbg):=by trivial
theorem zf3:zao ["self"] ["self"] (zak zcx):=by trivial
theorem zd2:zao ["self","deed","key","value"] ["self","deed"] (zak ze0):=by trivial
theorem ziv:zao ["given"] ["given"] (zak zdx):=by trivial
theorem zcg:zao ["self","touched"] ["self"] (zak zbE):=by trivial
theorem zjt:zao ["self","deed"] ["self","deed"] (zak zd9):=by trivial
theorem zfy:zao ["self"] ["self"] (zak zcl):=by trivial
theorem zc6:zao ["self","key","desk","first"] ["self","key"] (zak zdz):=by trivial
theorem zcN:zao ["self","deed","state","record","touched","key"] ["self","deed","state"] (zak zgd):=by trivial
theorem zkB:zao ["self","deed"] ["self","deed"] (zak ze4):=by trivial
theorem zcZ:zao ["self","deed","want","record","greatest"] ["self","deed","want"] (zak zeZ):=by trivial
theorem zeF:zao ["self","deed","want","record"] ["self","deed","want"] (zak zdA):=by trivial
theorem zhs:zao ["self","deed","want","desk"] ["self","deed","want"] (zak zge):=by trivial
theorem zkz:zao ["self","use","key","value"] ["self","use","key","value"] (zak zeY):=by trivial
theorem zgE:zao ["self","deed","key"] ["self","deed","key"] (zak ze1):=by trivial
theorem zfv:zao ["self","deed","key","value"] ["self","deed","key","value"] (zak zd6):=by trivial
theorem zd3:zao ["self","deed","key","value"] ["self","deed"] (zak ze2):=by trivial
theorem zeT:zao ["self"] ["self"] (zak zb5):=by trivial
theorem zhq:zao ["self","deed"] ["self","deed"] (zak zc8):=by trivial
theorem zky:zao ["_law_hall","_law_act_here"] ["_law_hall","_law_act_here"] (zak zeW):=by trivial
theorem zer:zao ["_law_hall","_law_act_here","_law_told"] ["_law_hall","_law_act_here"] (zak zhu):=by trivial
theorem zlV:zao ["self"] ["self"] (zak zgc):=by trivial
theorem zhp:zao ["book"] ["book"] (zak zc7):=by trivial
theorem zlU:zao ["self"] ["self"] (zak zgb):=by trivial
theorem zf5:zao ["self"] ["self"] (zak zcB):=by trivial
theorem zjs:zao ["self"] ["self"] (zak zd7):=by trivial
theorem zjq:zao ["_law_hall"] ["_law_hall"] (zak zd4):=by trivial
theorem zjr:zao ["_law_hall"] ["_law_hall"] (zak zd5):=by trivial
theorem zgV:zao ["self","deed"] ["self","deed"] (zak zcO):=by trivial
theorem zhr:zao ["self","deed"] ["self","deed"] (zak zc9):=by trivial
theorem zfx:zao ["self","deed","use","place","ahead"] ["self","deed","use"] (zak zck):=by trivial
theorem zdi:zao ["self","deed","want"] ["self","deed"] (zak zcy):=by trivial
theorem zlS:zao ["_law_hall","_law_way","_law_deed"] ["_law_hall","_law_way","_law_deed"] (zak zf7):=by trivial
theorem zcY:zao ["_law_hall","_law_way","_law_deed","_law_told","e"] ["_law_hall","_law_way","_law_deed"] (zak zeU):=by trivial
theorem zeE:zao ["_law_script","_law_hall","_law_act_here","_law_before","_law_count_here","_law_by","_law_bad","_law_way","_law_deed"] ["_law_script"] (zak zoO):=by trivial
end TP
end
section
namespace TP
open PySem L2 TH PyProof.Rows
theorem hmr {j k:Nat} {A:Around} (r:Room k A) (h:j<=k:=by decide):Room j A:=r.mono h
theorem sz1:1<=sizeLine:=by rw [sizeLine_eq]; decide
theorem sz2:2<=sizeLine:=by rw [sizeLine_eq]; decide
theorem sz3:3<=sizeLine:=by rw [sizeLine_eq]; decide
theorem sz4:4<=sizeLine:=by rw [sizeLine_eq]; decide
theorem sz5:5<=sizeLine:=by rw [sizeLine_eq]; decide
theorem sz6:6<=sizeLine:=by rw [sizeLine_eq]; decide
local macro_rules | `(tactic| walk_at "loc") => `(tactic| first | exact Or.inl rfl | exact Or.inr rfl)
local macro_rules | `(tactic| walk_at "blk") => `(tactic| (
 refine ⟨rfl,by decide +kernel,by decide +kernel,?_,by decide +kernel,rfl,?_⟩
 . (repeat' (first | exact List.forall_mem_nil _ | refine List.forall_mem_cons.mpr ⟨?_,?_⟩)) <;> (first | (intro h; exact absurd h (by decide)) | exact (λ _=>Or.inl rfl) | exact (λ _=>Or.inr rfl))
 . intro i j x h1 h2
   rcases i with _ | _ | _ | _ | i <;> (first | (simp at h2; done) | (cases h1; cases h2; exact ⟨rfl,rfl,by first | exact Or.inl rfl | exact Or.inr rfl⟩))))
section
variable {P:Program} {w:World} {K:PySem.W.Frag} {mg:Str->Option Value} {base:Heap} {A:Ad} {F:Fs}
theorem zlZ (T:Txt K mg A F):FnOk P w K mg base (CX1 P w) 1 (F.f 8) (F.fd 8) ["thing"] zoD:=by
 refine T.zoh.okN zlR (λ vs H Q E h=>?_) (λ cdv A' outer s H vs Q E hr h=>?_)
 . obtain ⟨i,rfl,_⟩:=h
   rfl
 . obtain ⟨i,rfl,k⟩:=h
   refine ⟨_,(zae (zar (zoY (zbp zif (by rfl) T.zcs boot_isinstance (zaa (pv 0) (zaa (zrZ rfl T.zpd boot_int) zad))) (zkJ (ztg (zbp zif (by rfl) T.zcs boot_isinstance (zaa (pv 0) (zaa (zrZ rfl T.ztp boot_bool) zad)))))))),?_⟩
   refine ⟨_,rfl,_,_,_,_,rfl,.int i,rfl,_,rfl,?_⟩
   refine iteT ?_
   refine ⟨_,rfl,_,_,_,_,rfl,.int i,rfl,_,rfl,?_⟩
   exact k
theorem zeI (T:Txt K mg A F):FnOk P w K mg base (CX1 P w) 1 (F.f 25) (F.fd 25) ["given"] (zgD K):=by
 refine T.zkh.okN ziv (λ vs H Q E h=>?_) (λ cdv A' outer s H vs Q E hr h=>?_)
 . obtain ⟨p,xs,rfl,_⟩:=h
   rfl
 . obtain ⟨p,xs,rfl,src,hl,h64,k⟩:=h
   refine ⟨_,(zae (zar (zbT zce (by rfl) T.zhL boot_tuple (zaa (zbp (zid rfl) (by rfl) T.znb boot_sorted (zaa (zbT (zqZ rfl) (by rfl) T.zt9 boot_set (zaa (pv 0) zad)) zad)) zad)))),?_⟩
   refine ⟨_,rfl,p,_,rfl,src,zox xs,by rw [List.length_map]; exact hl,λ q hq=>?_⟩
   refine ⟨q,_,rfl,zab,S6.zpR _,znC xs,by rw [(zpQ xs).length_eq,List.length_map]; exact h64,λ ys l pm pw hl=>?_⟩
   refine ⟨l,_,rfl,.inl ⟨SqL.of zab,λ r hr=>?_⟩⟩
   have e:ys=(ordS xs).map Sum.inr:=zlN (λ k=>by
    rw [pm.mem_iff,S6.zjU,List.mem_map]
    exact ⟨λ ⟨x,h,e⟩=>⟨x,h,e.symm⟩,λ ⟨x,h,e⟩=>⟨x,h,e.symm⟩⟩) pw
   subst e
   refine k _ r (((Same.zaw hq).upd2 hl).free hr) (((Same.zaw hq).upd2 hl).upd2 hr) ?_
   rw [zab,zrj]
theorem ziy (T:Txt K mg A F):FnOk P w K mg base (CX1 P w) 1 (F.f 16) (F.fd 16) ["book","key"] zkq:=by
 refine T.zkg.okN ziu (λ vs H Q E h=>?_) (λ cdv A' outer s H vs Q E hr h=>?_)
 . obtain ⟨p,k,l,b,rfl,_⟩:=h
   rfl
 . obtain ⟨p,k,l,b,rfl,hp,hb,q⟩:=h
   have hu:=zei hr
   refine ⟨_,(zae (zar (zqx hu (pv 0) (pv 1) (zt6 rfl T.zj3) ⟨rfl,rfl,rfl,rfl⟩))),?_⟩
   refine ⟨_,rfl,p,rfl,.inl ⟨_,.of hp⟩,_,rfl,_,DGet.k (k:=Sum.inr k) hp,?_⟩
   rw [hb.val]
   cases e:b k with
   | none=>rw [e] at q; exact q
   | some v=>rw [e] at q; exact q
theorem zec (T:Txt K mg A F):FnOk P w K mg base (CX1 P w) 2 (F.f 44) (F.fd 44) ["book"] zjo:=by
 have G_rising_keys:=@zeI P w K mg base A F T
 refine T.ziL.okN zhp (λ vs H Q E h=>?_) (λ cdv A' outer s H vs Q E hr h=>?_)
 . obtain ⟨p,l,b,rfl,_⟩:=h
   rfl
 . obtain ⟨p,l,b,rfl,hp,hb,h4,k⟩:=h
   have hu:=zei hr
   refine ⟨_,(zae (zar (zbT zce (by rfl) T.zhL boot_tuple (zaa (zfa 1 [0] ["key","book"] rfl (by walk_at "blk") (zm3 (zaE G_rising_keys (hmr hr) rfl T.zfP T.zfM T.zfX .nil zaz (zaa (pv 0) zad))) (λ C fp s H=>(za2 (i:=0) (show (["key","book"]:List Str).Nodup by decide +kernel) rfl (by walk_at "loc"))) (λ C fp s H=>zjw) (λ C fp s H=>(zbC (zaa (pv 0) (zaa (zdB hu (pv 1) (pv 0) (λ _ _=>rfl)) zad))))) zad)))),?_⟩
   have hlen:(ordS (l.map (·.1))).length<=4:=Nat.le_trans (zm7 _ (l.map (·.1)) (λ _ h=>h) hb.nd) (by rw [List.length_map]; exact h4)
   refine ⟨_,rfl,p,l.map (·.1),rfl,.inr ⟨bkV l,hp,by unfold bkV; simp [List.map_map,Function.comp_def],by unfold bkV; rw [List.length_map]; exact h4⟩,by rw [List.length_map]; omega,by omega,λ H1 q _ s1 hq=>⟨q,rfl,⟨_,SqT.of hq⟩,?_⟩⟩
   refine znt (xs:=(ordS (l.map (·.1))).map V.str) (λ i ys σ H2=>∃ v0,σ=[v0,some (.ref p)]/\Same H H2/\H2 q=some (.tup ((ordS (l.map (·.1))).map V.str))/\i<=(ordS (l.map (·.1))).length/\zap H2 ys (((ordS (l.map (·.1))).take i).map λ k=>[V.str k,V.int ((b k).getD 0)])) ⟨none,rfl,s1,hq,Nat.zero_le _,.nil⟩ (λ i ys σ H2 ⟨_,_,_,e,hi,t⟩=>⟨SqT.of e,?_⟩) (by rw [List.length_map,sizeLine_eq]; omega) ?_ ?_
   . rw [t.length,List.length_map,List.length_take]; omega
   . rintro i x ys σ H2 hlt hx ⟨v0,rfl,s2,hq2,hi,t⟩
     rw [List.length_map] at hlt
     rw [List.getElem?_map] at hx
     obtain ⟨y,hy,rfl⟩:=Option.map_eq_some_iff.mp hx
     obtain ⟨v,hv⟩:∃ v,b y=some v:=by
      obtain ⟨e,he,hey⟩:=List.mem_map.mp (za0.mp (List.mem_of_getElem? hy))
      exact ⟨e.2,(hb.mem y e.2).mp (by rw [<-hey]; exact he)⟩
     have dg:DGet H2 p (V.str y) (some (V.int v)):=by
      have:=DGet.k (k:=Sum.inr y) (s2 p _ hp)
      rw [hb.val,hv] at this; exact this
     refine ⟨_,rfl,_,rfl,_,rfl,p,_,rfl,dg,sz2,λ r hr=>nx (by rw [List.length_map]; exact hlt) ⟨_,rfl,s2.upd2 hr,zax hq2 hr,hlt,?_⟩⟩
     rw [List.take_add_one,hy,List.map_append]
     refine S6.zb8 (zap.mono (A:=A) (.of_same (Same.zaw hr)) t) ⟨r,rfl,?_⟩
     rw [zab]
     show _=some (HO.tup [V.str y,V.int ((b y).getD 0)])
     rw [hv]; rfl
   . rintro ys σ H2 ⟨v0,rfl,s2,hq2,hi,t⟩
     rw [List.length_map,List.take_length] at t
     intro r hr
     refine ⟨r,_,rfl,.inl ⟨SqL.of zab,λ r2 hr2=>?_⟩⟩
     refine k _ r2 ys ((s2.upd2 hr).upd2 hr2) zab ?_
     exact zap.mono (A:=A) (.of_same ((Same.zaw hr).upd2 hr2)) t
theorem zc1 (T:Txt K mg A F):FnOk P w K mg base (CX1 P w) 1 (F.f 35) (F.fd 35) ["self","use","key","value"] (znE A):=by
 refine T.zmK.okN zkz (λ vs H Q E h=>?_) (λ cdv A' outer s H vs Q E hr h=>?_)
 . obtain ⟨p,dx,w,k,v,rfl,_⟩:=h
   rfl
 . obtain ⟨p,dx,w,k,v,rfl,hp,q⟩:=h
   refine ⟨_,(zac (zbS (pv 0) (pv 1) rfl)
    (zac (zbS (pv 0) (pv 2) rfl)
    (zae (zbS (pv 0) (pv 3) rfl)))),?_⟩
   refine ⟨_,rfl,_,rfl,p,_,dx,_,rfl,hp,T.za4,T.zbq,Nat.le_of_ble_eq_true rfl,_,rfl,_,rfl,p,_,dx,_,rfl,zab,T.za4,T.za7,Nat.le_of_ble_eq_true rfl,_,rfl,_,rfl,p,_,dx,_,rfl,zab,T.za4,T.zcG,Nat.le_of_ble_eq_true rfl,?_⟩
   refine q _ (by rw [zab]; rfl) λ b o e hb=>?_
   rw [zaf hb,zaf hb,zaf hb]; exact e
theorem ziA (T:Txt K mg A F):FnOk P w K mg base (CX1 P w) 1 (F.f 6) (F.fd 6) ["self"] (zkr A):=by
 refine T.zki.okN ziw (λ vs H Q E h=>?_) (λ cdv A' outer s H vs Q E hr h=>?_)
 . obtain ⟨p,dx,rfl,_⟩:=h
   rfl
 . obtain ⟨p,dx,rfl,hp,q⟩:=h
   refine ⟨_,(zac (zbS (pv 0) (zcr rfl T.zmk) rfl)
     (zac (zbS (pv 0) (zb7 zad) rfl)
     (zae (zbS (pv 0) zfD rfl)))),?_⟩
   refine ⟨_,rfl,p,_,dx,_,rfl,hp,T.zav,T.zay,Nat.le_of_ble_eq_true rfl,Nat.le_of_ble_eq_true rfl,λ d hd=>⟨_,rfl,p,_,dx,_,rfl,zax zab hd,T.zav,T.zbe,Nat.le_of_ble_eq_true rfl,_,rfl,p,_,dx,_,rfl,zab,T.zav,T.za5,Nat.le_of_ble_eq_true rfl,?_⟩⟩
   have hpd:p≠d:=zah zab hd
   refine q _ d ?_ (by rw [zab]; rfl) ?_ λ b o e hb=>?_
   . rw [zaf hpd.symm] at hd; exact hd
   . rw [zaf hpd.symm,zaf hpd.symm,zab]
   . have hbd:b≠d:=λ z=>by
      rw [zaf hpd.symm] at hd
      rw [z,hd] at e; cases e
     rw [zaf hb,zaf hb,zaf hbd,zaf hb]; exact e
theorem zfd (T:Txt K mg A F):FnOk P w K mg base (CX1 P w) 1 (F.f 39) (F.fd 39) ["self"] (zoE A):=by
 refine T.zfZ.okN zeT (λ vs H Q E h=>?_) (λ cdv A' outer s H vs Q E hr h=>?_)
 . obtain ⟨p,dx,d,st,w,rfl,_⟩:=h
   rfl
 . obtain ⟨p,dx,d,st,w,rfl,hp,q⟩:=h
   refine ⟨_,(zae (zar (ztf (zdd zb3 (zam (pv 0) rfl) (zcr rfl T.zrp) (zaD _)) (zkJ (zdd zb3 (zam (pv 0) rfl) (zcr rfl T.zgt) (zaD _)))))),?_⟩
   refine ⟨_,rfl,p,_,dx,_,_,rfl,hp,T.zav,T.zay,rfl,rfl,_,rfl,?_⟩
   cases st with
   | kept=>exact q
   | dropped=>exact ⟨_,rfl,p,_,dx,_,_,rfl,hp,T.zav,T.zay,rfl,rfl,q⟩
   | zaq=>exact ⟨_,rfl,p,_,dx,_,_,rfl,hp,T.zav,T.zay,rfl,rfl,q⟩
   | waiting=>exact ⟨_,rfl,p,_,dx,_,_,rfl,hp,T.zav,T.zay,rfl,rfl,q⟩
theorem zdl (T:Txt K mg A F):FnOk P w K mg base (CX1 P w) 1 (F.f 23) (F.fd 23) ["self"] (zoA A):=by
 refine T.zg6.okN zf3 (λ vs H Q E h=>?_) (λ cdv A' outer s H vs Q E hr h=>?_)
 . obtain ⟨p,st,d,w,done,rfl,_⟩:=h
   rfl
 . obtain ⟨p,st,d,w,done,rfl,⟨⟨dx,hp⟩,us,hd,tu⟩,hl,q⟩:=h
   refine ⟨_,(zae (zar (zfa 3 [] ["act","key","value"] rfl (by walk_at "blk") (zdc (zam (pv 0) rfl)) (λ C fp s H=>(zoW (K:=K) (n:=3) rfl rfl (zcp (za2 (i:=0) (show (["act","key","value"]:List Str).Nodup by decide +kernel) rfl (by walk_at "loc")) (zcp (za2 (i:=1) (show (["act","key","value"]:List Str).Nodup by decide +kernel) rfl (by walk_at "loc")) (zcp (za2 (i:=2) (show (["act","key","value"]:List Str).Nodup by decide +kernel) rfl (by walk_at "loc")) zjB))))) (λ C fp s H=>zhy (zaA zb3 (pv 0) (zcr rfl T.zmi) (zaD _))) (λ C fp s H=>(zbC (zaa (pv 1) (zaa (pv 2) zad))))))),?_⟩
   refine ⟨_,rfl,p,_,dx,_,_,rfl,hp,T.zav,T.zbe,rfl,d,rfl,⟨_,SqL.of hd⟩,?_⟩
   have hul:us.length=done.length:=by rw [tu.length,List.length_map]
   have hz:us.length<=sizeLine:=by rw [hul,sizeLine_eq]; omega
   refine zfV (xs:=us) (λ i ys σ H2=>∃ v0 v1 v2,σ=[v0,v1,v2]/\Same H H2/\ys.length<=i/\zap H2 ys ((zau (done.take i)).map ziR)) ⟨none,none,none,rfl,Same.refl H,Nat.le_refl _,.nil⟩ (λ i ys σ H2 ⟨_,_,_,_,s2,hy,_⟩=>⟨SqL.of (s2 _ _ hd),hy⟩) hz ?_ ?_
   . rintro i x ys σ H2 hlt hx ⟨v0,v1,v2,rfl,s2,hy,t⟩
     obtain ⟨y,hy1,r,rfl,hr1⟩:=zdu tu hx
     rw [List.getElem?_map] at hy1
     obtain ⟨a,ha,rfl⟩:=Option.map_eq_some_iff.mp hy1
     have e1:done.take (i+1)=done.take i++[a]:=by rw [List.take_add_one,ha]; rfl
     refine ⟨r,_,rfl,SqT.of (s2 _ _ hr1),rfl,_,_,rfl,_,_,rfl,_,_,rfl,rfl,_,rfl,rfl,_,rfl,?_⟩
     cases hw:a.wr with
     | true =>
      refine ⟨_,rfl,_,rfl,sz2,λ n hn=>nx hlt ⟨_,_,_,rfl,s2.upd2 hn,by rw [List.length_append,List.length_singleton]; omega,?_⟩⟩
      rw [e1,zcF,hw,List.map_append]
      exact S6.zb8 (zbu (Same.zaw hn) t) ⟨n,rfl,zab⟩
     | false =>
      refine nx hlt ⟨_,_,_,rfl,s2,by omega,?_⟩
      rw [e1,zcF,hw]
      simp only [Bool.false_eq_true,if_false,List.append_nil]
      exact t
   . rintro ys σ H2 ⟨v0,v1,v2,rfl,s2,hy,t⟩
     rw [hul,List.take_length] at t
     intro n hn
     exact q _ n ys (s2.upd2 hn) zab (zbu (Same.zaw hn) t)
theorem zdU (T:Txt K mg A F):FnOk P w K mg base (CX1 P w) 2 (F.f 26) (F.fd 26) ["self"] (zoB A):=by
 have G_rising_keys:=@zeI P w K mg base A F T
 refine T.zeo.okN zcg (λ vs H Q E h=>?_) (λ cdv A' outer s H vs Q E hr h=>?_)
 . obtain ⟨p,st,d,w,done,o,rfl,_⟩:=h
   rfl
 . obtain ⟨p,st,d,w,done,o,rfl,⟨⟨dx,hp⟩,us,hd,tu⟩,hw,hl,h64,q⟩:=h
   refine ⟨_,(zac (ziW (i:=1) 3 [] ["act","key","value"] zcg.nd rfl (by walk_at "loc") rfl (by walk_at "blk") (zdc (zam (pv 0) rfl)) (λ C fp s H=>(zoW (K:=K) (n:=3) rfl rfl (zcp (za2 (i:=0) (show (["act","key","value"]:List Str).Nodup by decide +kernel) rfl (by walk_at "loc")) (zcp (za2 (i:=1) (show (["act","key","value"]:List Str).Nodup by decide +kernel) rfl (by walk_at "loc")) (zcp (za2 (i:=2) (show (["act","key","value"]:List Str).Nodup by decide +kernel) rfl (by walk_at "loc")) zjB))))) (λ C fp s H=>zjw) (λ C fp s H=>(pv 1)))
     (zac (zbk (zfA (zoZ (zam (pv 0) rfl))) (zae (zaG (zeb PySem.F.plainAttrs_list PySem.F.slot_list_append PySem.F.type_list_append zbv (pv 1) (zaa (zam (zam (pv 0) rfl) rfl) zad)))) zaF)
     (zae (zar (zaE G_rising_keys (hmr hr) rfl T.zfP T.zfM T.zfX .nil zaz (zaa (pv 1) zad)))))),?_⟩
   have hul:us.length=done.length:=by rw [tu.length,List.length_map]
   refine ⟨_,rfl,p,_,dx,_,_,rfl,hp,T.zav,T.zbe,rfl,d,rfl,⟨_,SqL.of hd⟩,?_⟩
   refine zfV (xs:=us) (λ i ys σ H2=>∃ v0 v1 v2,σ=[v0,v1,v2]/\H2=H/\ys=(done.take i).map λ a=>V.str a.key) ⟨none,none,none,rfl,rfl,rfl⟩ (λ i ys σ H2 ⟨_,_,_,_,e,hy⟩=>⟨SqL.of (by rw [e]; exact hd),by rw [hy,List.length_map,List.length_take]; omega⟩) (by rw [hul,sizeLine_eq]; omega) ?_ ?_
   . rintro i x ys σ H2 hlt hx ⟨v0,v1,v2,rfl,rfl,rfl⟩
     obtain ⟨y,hy1,r,rfl,hr1⟩:=zdu tu hx
     rw [List.getElem?_map] at hy1
     obtain ⟨a,ha,rfl⟩:=Option.map_eq_some_iff.mp hy1
     have e1:done.take (i+1)=done.take i++[a]:=by rw [List.take_add_one,ha]; rfl
     refine ⟨r,_,rfl,SqT.of hr1,rfl,_,_,rfl,_,_,rfl,_,_,rfl,rfl,_,rfl,nx hlt ⟨_,_,_,rfl,rfl,?_⟩⟩
     rw [e1,List.map_append]; rfl
   . rintro ys σ H2 ⟨v0,v1,v2,rfl,rfl,rfl⟩
     rw [hul,List.take_length]
     intro n hn
     have hpn:upd H2 n (.lst (done.map λ a=>V.str a.key)) p=some (.ins A.zaC dx (recF st d w)):=zax hp hn
     refine ⟨_,rfl,p,_,dx,_,_,rfl,hpn,T.zav,T.za5,rfl,_,rfl,?_⟩
     have fin:∀ (H3:Hp) (xs:List Str),Same H2 H3->H3 n=some (.lst (xs.map V.str))->xs=done.map (·.key)++zcX o->zgD K [V.ref n] H3 Q EF:=λ H3 xs s3 e3 ex=>by
      subst ex
      refine ⟨n,done.map (·.key)++zcX o,rfl,.inl (SqL.of (by rw [zrj]; exact e3)),?_,h64,λ H' q' nq m e=>q H' q' (s3.free nq) (s3.trans m) e⟩
      rw [List.length_append,List.length_map]
      cases o <;> simp only [zcX,List.length_nil,List.length_singleton] <;> omega
     cases o with
     | none =>
      have hw':w=.non:=hw
      subst hw'
      exact ⟨_,rfl,fin _ (done.map (·.key)) (Same.zaw hn) (by rw [zab,List.map_map]; rfl) (by simp [zcX])⟩
     | some a =>
      obtain ⟨pw,dw,rfl,hpw⟩:=hw
      have hpw':=zax (o:=HO.lst (done.map λ a=>V.str a.key)) hpw hn
      refine ⟨_,rfl,.inl ⟨rfl,_,SqL.of zab⟩,_,rfl,p,_,dx,_,_,rfl,hpn,T.zav,T.za5,rfl,pw,_,dw,_,_,rfl,hpw',T.za4,T.za7,rfl,n,_,_,rfl,rfl,zab,by rw [List.length_map,sizeLine_eq]; omega,_,rfl,?_⟩
      refine fin _ (done.map (·.key)++[a.key]) ?_ ?_ rfl
      . rw [zjj]; exact Same.zaw hn
      . rw [zab,List.map_append,List.map_map]; rfl
theorem zkV (T:Txt K mg A F):FnOk P w K mg base (CX1 P w) 1 (F.f 11) (F.fd 11) ["self"] (znK A):=by
 refine T.zmS.okN zkE (λ vs H Q E h=>?_) (λ cdv A' outer s H vs Q E hr h=>?_)
 . obtain ⟨p,dx,rfl,_⟩:=h
   rfl
 . obtain ⟨p,dx,rfl,hp,q⟩:=h
   refine ⟨_,(zac (zbS (pv 0) zfE rfl)
     (zae (zbS (pv 0) (zb7 zad) rfl))),?_⟩
   intro hd nh
   have hph:p≠hd:=zah hp nh
   refine ⟨_,rfl,p,_,dx,_,rfl,zax hp nh,T.zaU,T.zbm,Nat.le_of_ble_eq_true rfl,Nat.le_of_ble_eq_true rfl,λ rw nr=>?_⟩
   have hpr:p≠rw:=zah zab nr
   have nr1:upd H hd (.dK []) rw=none:=by rw [zaf hpr.symm] at nr; exact nr
   have hhr:hd≠rw:=zah zab nr1
   have nr2:H rw=none:=by rw [zaf hhr.symm] at nr1; exact nr1
   refine ⟨_,rfl,p,_,dx,_,rfl,zax zab nr,T.zaU,T.za3,Nat.le_of_ble_eq_true rfl,?_⟩
   refine q _ hd rw nh nr2 (by rw [zab]; rfl) ?_ ?_ λ b o e hb=>?_
   . rw [zaf hph.symm,zaf hhr,zaf hph.symm,zab]
   . rw [zaf hpr.symm,zab]
   . rw [zaf hb,zaf (zah e nr2),zaf hb,zaf (zah e nh)]; exact e
theorem zdn (T:Txt K mg A F):FnOk P w K mg base (CX1 P w) 1 (F.f 12) (F.fd 12) ["self","deed","use"] (zlL A):=by
 refine T.zhc.okN zdk (λ vs H Q E h=>?_) (λ cdv A' outer s H vs Q E hr h=>?_)
 . obtain ⟨p,hd,rw,h,r,d,w,rfl,_⟩:=h
   rfl
 . obtain ⟨p,hd,rw,h,r,d,w,rfl,⟨⟨dx,hp⟩,hh,_⟩,hl,hnd,q⟩:=h
   have hu:=zei hr
   refine ⟨_,(zac (zrX (ziW (i:=3) 1 [1] ["other","deed"] zdk.nd rfl (by walk_at "loc") rfl (by walk_at "blk") (zrY (zam (pv 0) rfl)) (λ C fp s H=>(za2 (i:=0) (show (["other","deed"]:List Str).Nodup by decide +kernel) rfl (by walk_at "loc"))) (λ C fp s H=>zhy (zaA zo5 (pv 0) (pv 1) (zaD _))) (λ C fp s H=>(pv 0))))
     (zac (zbk (zaA zb3 (pv 2) (zcr rfl T.zcR) (zaD _)) (zae (zar (pv 3))) zaF)
     (zae (zar (zfa 1 [0] ["other","self"] rfl (by walk_at "blk") (zdc (pv 3)) (λ C fp s H=>(za2 (i:=0) (show (["other","self"]:List Str).Nodup by decide +kernel) rfl (by walk_at "loc"))) (λ C fp s H=>zhy (zaA zb3 (zdB hu (zr0 (K:=K) rfl (pv 1) rfl) (pv 0) (λ _ _=>rfl)) (zcr rfl T.zcR) (zaD _))) (λ C fp s H=>(pv 0))))))),?_⟩
   have hz:(zcb h).length<=sizeLine:=by rw [zh4,sizeLine_eq]; omega
   refine ⟨_,rfl,p,_,dx,_,_,rfl,hp,T.zaU,T.zbm,rfl,hd,_,rfl,hh,λ o=>?_⟩
   refine zpX (λ i ys σ H2=>∃ v0,σ=[v0,some (V.int d)]/\H2=upd H hd (.frz o (.dK (zcb h)))/\ys=zaR (((h.take i).filter λ p=>p.1 != d).map (·.1))) ⟨none,rfl,rfl,rfl⟩ (λ i ys σ H2 ⟨_,_,e,hy⟩=>⟨by rw [e,zab],?_⟩) hz ?_ ?_
   . rw [hy]; unfold zaR; rw [List.length_map,List.length_map]
     exact Nat.le_trans (List.length_filter_le _ _) (by rw [List.length_take]; omega)
   . rintro i k v ys σ H2 hlt hk ⟨v0,rfl,rfl,rfl⟩
     unfold zcb at hk
     rw [List.getElem?_map] at hk
     obtain ⟨⟨e,we⟩,he,hke⟩:=Option.map_eq_some_iff.mp hk
     cases hke
     have e1:h.take (i+1)=h.take i++[(e,we)]:=by rw [List.take_add_one,he]; rfl
     refine ⟨_,rfl,_,rfl,rfl,_,rfl,?_⟩
     refine zeM (e != d) (zrg e d) ?_
     by_cases hed:e=d
     . refine zaJ (by simp [hed]) (nx hlt ⟨_,rfl,rfl,?_⟩)
       rw [e1,List.filter_append]; simp [hed]
     . refine zbl (by simp [hed]) ⟨_,rfl,nx hlt ⟨_,rfl,rfl,?_⟩⟩
       rw [e1,List.filter_append]
       unfold zaR
       simp [hed]
       rfl
   . rintro ys σ H2 ⟨v0,rfl,rfl,rfl⟩
     rw [zh4,List.take_length]
     intro n hn
     have hnh:H n=none:=by
       by_cases z:n=hd
       . rw [z,zab] at hn; cases hn
       . rw [zaf z] at hn; exact hn
     refine ⟨hd,o,zcb h,hh,zax zab hn,?_⟩
     rw [zrw hh hnh]
     have hpn:=zax (o:=HO.lst (zaR ((h.filter λ p=>p.1 != d).map (·.1)))) hp hnh
     have hhn:=zax (o:=HO.lst (zaR ((h.filter λ p=>p.1 != d).map (·.1)))) hh hnh
     refine ⟨_,rfl,rfl,_,rfl,?_⟩
     rw [zhj]
     cases w with
     | true =>
       refine ⟨_,rfl,q _ n hnh (Same.zaw hnh) ?_⟩
       rw [zab]; unfold hind; simp
     | false =>
       have hlen:(zaR ((h.filter λ p=>p.1 != d).map (·.1))).length<=1000:=by
         unfold zaR; rw [List.length_map,List.length_map]
         exact Nat.le_trans (List.length_filter_le _ _) hl
       refine ⟨_,rfl,n,rfl,⟨_,SqL.of zab⟩,?_⟩
       refine zfV (xs:=zaR ((h.filter λ p=>p.1 != d).map (·.1))) (λ i ys σ H2=>∃ v0,σ=[v0,some (V.ref p)]/\H2=upd H n (.lst (zaR ((h.filter λ p=>p.1 != d).map (·.1))))/\ys=zaR ((((h.filter λ p=>p.1 != d).take i).filter λ p=>p.2).map (·.1))) ⟨none,rfl,rfl,rfl⟩ (λ i ys σ H2 ⟨_,_,e,hy⟩=>⟨SqL.of (by rw [e,zab]),?_⟩) (by rw [sizeLine_eq]; omega) ?_ ?_
       . rw [hy]; unfold zaR; rw [List.length_map,List.length_map]
         exact Nat.le_trans (List.length_filter_le _ _) (by rw [List.length_take]; omega)
       . rintro i x ys σ H2 hlt hx ⟨v0,rfl,rfl,rfl⟩
         unfold zaR at hx
         rw [List.getElem?_map,List.getElem?_map] at hx
         obtain ⟨e,he,rfl⟩:=Option.map_eq_some_iff.mp hx
         obtain ⟨⟨e',we⟩,he',rfl⟩:=Option.map_eq_some_iff.mp he
         have e1:(h.filter λ p=>p.1 != d).take (i+1)=(h.filter λ p=>p.1 != d).take i++[(e',we)]:=by rw [List.take_add_one,he']; rfl
         have hm:(e',we)∈h:=(List.mem_filter.mp (List.mem_of_getElem? he')).1
         have dg:DGet (upd H n (.lst (zaR ((h.filter λ p=>p.1 != d).map (·.1))))) hd (V.int (e':Int)) (some (V.str (useS we))):=by
          have:=DGet.k (k:=Sum.inl (e':Int)) hhn
          rw [zfN,zde hnd hm] at this
          exact this
         refine ⟨_,rfl,p,_,dx,_,_,rfl,hpn,T.zaU,T.zbm,rfl,_,rfl,hd,_,rfl,dg,rfl,_,rfl,?_⟩
         refine zeM we (zhj we) ?_
         cases we with
         | true =>
          refine ⟨_,rfl,nx hlt ⟨_,rfl,rfl,?_⟩⟩
          rw [e1,List.filter_append]
          unfold zaR
          simp
         | false =>
          refine nx hlt ⟨_,rfl,rfl,?_⟩
          rw [e1,List.filter_append]; simp
       . rintro ys σ H2 ⟨v0,rfl,rfl,rfl⟩
         have e2:(zaR ((h.filter λ p=>p.1 != d).map (·.1))).length=(h.filter λ p=>p.1 != d).length:=by unfold zaR; rw [List.length_map,List.length_map]
         rw [e2,List.take_length]
         intro m hm
         refine q _ m ((Same.zaw hnh).free hm) ((Same.zaw hnh).upd2 hm) ?_
         rw [zab,List.filter_filter]
         unfold hind
         congr 4
         exact List.filter_congr λ p _=>by simp [Bool.and_comm]
theorem zgJ (T:Txt K mg A F):FnOk P w K mg base (CX1 P w) 2 (F.f 13) (F.fd 13) ["self","deed","use"] (zmX A):=by
 have G_Desk_hindering:=@zdn P w K mg base A F T
 refine T.zmR.okN zkD (λ vs H Q E h=>?_) (λ cdv A' outer s H vs Q E hr h=>?_)
 . obtain ⟨p,hd,rw,h,r,d,w,rfl,_⟩:=h
   rfl
 . obtain ⟨p,hd,rw,h,r,d,w,rfl,D,hl,hnd,q⟩:=h
   obtain ⟨dx,hp⟩:=D.ob
   refine ⟨_,(zae (zar (zdd zb3 (zbp zbn (by rfl) T.zk0 PySem.boot_len (zaa (zat (pv 0) T.zaU T.zdM G_Desk_hindering (hmr hr) T.zdS .nil zaz (zaa (pv 1) (zaa (pv 2) zad))) zad)) zal (zaD _)))),?_⟩
   refine ⟨_,rfl,p,dx,_,rfl,hp,rfl,_,rfl,_,rfl,p,hd,rw,h,r,d,w,rfl,D,hl,hnd,λ H' n _ m e=>⟨n,_,rfl,.inl (SqL.of e),rfl,?_⟩⟩
   have:=q H' m
   rw [<-zpy] at this
   unfold zaR
   rw [List.length_map]
   have e3:decide (V.int ((hind h d w).length:Int)=V.int 0)=decide ((hind h d w).length=0):=by
    have:=zpL (hind h d w).length 0
    rw [show ((0:Nat):Int)=0 from rfl] at this
    rw [this]; rfl
   rw [e3]; exact this
theorem zeD (T:Txt K mg A F):FnOk P w K mg base (CX1 P w) 3 (F.f 14) (F.fd 14) ["self","deed","use"] (zkt A):=by
 have G_Desk_lets:=@zgJ P w K mg base A F T
 refine T.zfq.okN zeC (λ vs H Q E h=>?_) (λ cdv A' outer s H vs Q E hr h=>?_)
 . obtain ⟨p,hd,rw,h,r,d,w,rfl,_⟩:=h
   rfl
 . obtain ⟨p,hd,rw,h,r,d,w,rfl,D,hl,hnd,q⟩:=h
   have hu:=zei hr
   obtain ⟨dx,hp⟩:=D.ob
   obtain ⟨us,hrw,tu⟩:=D.rw
   have hul:us.length=r.length:=by rw [tu.length,List.length_map]
   refine ⟨_,(zae (zar (zoY (ztf (zth (zo0 hu (pv 1) (zam (pv 0) rfl))) (zkJ (zdd zb3 (zbp zbn (by rfl) T.zk0 PySem.boot_len (zaa (zam (pv 0) rfl) zad)) zal (zaD _)))) (zkJ (zat (pv 0) T.zaU T.zhR G_Desk_lets (hmr hr) T.zik .nil zaz (zaa (pv 1) (zaa (pv 2) zad))))))),?_⟩
   have dg:=DGet.k (k:=Sum.inl (d:Int)) D.hd
   rw [zfN] at dg
   refine ⟨_,rfl,_,rfl,p,_,dx,_,_,rfl,hp,T.zaU,T.zbm,rfl,hd,_,rfl,dg,_,rfl,?_⟩
   have call:∀ b:Bool,b=(has h d || r.isEmpty)->(if b=true then zmX A [V.ref p,.int d,.str (useS w)] H Q EF else Q (.bl false) H):=λ b hb=>by
    cases b with
    | true =>
     refine iteT ⟨p,hd,rw,h,r,d,w,rfl,D,hl,hnd,λ H' m=>?_⟩
     have:=q H' m
     rw [<-hb] at this
     exact this
    | false =>
     refine iteF ?_
     have:=q H (Same.refl H)
     rw [<-hb] at this
     exact this
   have e0:((look h d).map λ w=>V.str (useS w)).isSome=has h d:=by
    rw [Option.isSome_map,zk6]
   rw [e0]
   cases hh:has h d with
   | true =>
    refine iteT ⟨true,rfl,?_⟩
    have t:zmX A [V.ref p,.int d,.str (useS w)] H Q EF:=by simpa using call true (by rw [hh]; rfl)
    exact iteT ⟨_,rfl,p,dx,_,rfl,hp,rfl,_,rfl,_,rfl,t⟩
   | false =>
    refine iteF ⟨_,rfl,p,_,dx,_,_,rfl,hp,T.zaU,T.za3,rfl,rw,_,rfl,.inl (SqL.of hrw),rfl,_,rfl,?_⟩
    have e1:decide (V.int (us.length:Int)=V.int 0)=r.isEmpty:=by
     have:=zpL us.length 0
     rw [show ((0:Nat):Int)=0 from rfl] at this
     rw [this,hul]
     cases r <;> rfl
    rw [e1]
    have:=call r.isEmpty (by rw [hh]; rfl)
    cases hr0:r.isEmpty with
    | true =>
     rw [hr0] at this
     have t:zmX A [V.ref p,.int d,.str (useS w)] H Q EF:=by simpa using this
     exact iteT ⟨_,rfl,p,dx,_,rfl,hp,rfl,_,rfl,_,rfl,t⟩
    | false =>
     rw [hr0] at this
     exact iteF (by simpa using this)
theorem zfG (T:Txt K mg A F):FnOk P w K mg base (CX1 P w) 3 (F.f 28) (F.fd 28) ["self"] (zlK A):=by
 have G_Desk_lets:=@zgJ P w K mg base A F T
 refine T.zgB.okN zfy (λ vs H Q E h=>?_) (λ cdv A' outer s H vs Q E hr h=>?_)
 . obtain ⟨p,hd,rw,h,r,rfl,_⟩:=h
   rfl
 . obtain ⟨p,hd,rw,h,r,rfl,D,hl,hnd,q⟩:=h
   obtain ⟨dx,hp⟩:=D.ob
   obtain ⟨us,hrw,tu⟩:=D.rw
   have hul:us.length=r.length:=by rw [tu.length,List.length_map]
   refine ⟨_,(zae (zar (zoY (zdd zr3 (zbp zbn (by rfl) T.zk0 PySem.boot_len (zaa (zam (pv 0) rfl) zad)) zal (zaD _)) (zkJ (zat (pv 0) T.zaU T.zhR G_Desk_lets (hmr hr) T.zik .nil zaz (zaa (zbd zca (zbd zbi (zam (pv 0) rfl) zal (λ _ _=>rfl)) zal (λ _ _=>rfl)) (zaa (zbd zca (zbd zbi (zam (pv 0) rfl) zal (λ _ _=>rfl)) zal (λ _ _=>rfl)) zad))))))),?_⟩
   refine ⟨_,rfl,p,_,dx,_,_,rfl,hp,T.zaU,T.za3,rfl,rw,_,rfl,.inl (SqL.of hrw),_,_,rfl,rfl,_,rfl,?_⟩
   cases r with
   | nil =>
    have:us=[]:=List.length_eq_zero_iff.mp hul
    subst this
    exact q H (Same.refl H)
   | cons x t =>
    obtain ⟨d,w⟩:=x
    obtain ⟨v,hv,pv',rfl,hpv⟩:=zdZ tu (i:=0) (y:=zcn (d,w)) rfl
    have hix:atI us 0=some (V.ref pv'):=zbt (j:=0) hv
    refine zbl (by rw [hul]; simp) ?_
    refine ⟨_,rfl,p,dx,_,rfl,hp,rfl,_,rfl,p,_,dx,_,_,rfl,hp,T.zaU,T.za3,rfl,rw,_,_,_,rfl,rfl,SqL.of hrw,hix,pv',_,_,_,rfl,rfl,SqT.of hpv,rfl,
     _,rfl,p,_,dx,_,_,rfl,hp,T.zaU,T.za3,rfl,rw,_,_,_,rfl,rfl,SqL.of hrw,hix,pv',_,_,_,rfl,rfl,SqT.of hpv,rfl,p,hd,rw,h,_,d,w,rfl,D,hl,hnd,q⟩
theorem zkU (T:Txt K mg A F):FnOk P w K mg base (CX1 P w) 1 (F.f 15) (F.fd 15) ["self","deed","use"] (zsS A):=by
 refine T.zmQ.okN zkC (λ vs H Q E h=>?_) (λ cdv A' outer s H vs Q E hr h=>?_)
 . obtain ⟨p,hd,rw,h,r,d,w,rfl,_⟩:=h
   rfl
 . obtain ⟨p,hd,rw,h,r,d,w,rfl,D,hl,hnd,q⟩:=h
   have hu:=zei hr
   obtain ⟨dx,hp⟩:=D.ob
   refine ⟨_,(zae (zbk (zaA zo5 (zqy hu (zam (pv 0) rfl) (pv 1) ⟨rfl,rfl,rfl,rfl⟩) (zcr rfl T.zcR) (zaD _)) (zae (zhz hu (zam (pv 0) rfl) (pv 1) (pv 2) rfl)) zaF)),?_⟩
   have dg:=DGet.k (k:=Sum.inl (d:Int)) D.hd
   rw [zfN] at dg
   refine ⟨_,rfl,p,_,dx,_,_,rfl,hp,T.zaU,T.zbm,rfl,hd,rfl,.inl ⟨_,.of D.hd⟩,_,rfl,_,dg,?_⟩
   have put:take1 h d w=zbf h d w->tSeq (zs5 (tFld K (tVar 0) "held") (tVar 1) (tVar 2)) zrA { nx:=λ _ H'=>Q .non H',rt:=Q } [some (V.ref p),some (V.int d),some (V.str (useS w))] H:=λ e=>by
    refine ⟨_,rfl,_,rfl,p,_,dx,_,_,rfl,hp,T.zaU,T.zbm,rfl,_,rfl,hd,_,rfl,DPut.k (k:=Sum.inl (d:Int)) D.hd (by rw [zh4,sizeLine_eq]; omega),?_⟩
    refine q _ ?_ λ b o e hb=>by rw [zaf hb]; exact e
    rw [zab,zqN,e]
   cases hk:look h d with
   | none =>
    refine ⟨rfl,_,rfl,?_⟩
    exact put (by unfold take1; rw [hk]; simp)
   | some wh =>
    refine ⟨rfl,_,rfl,?_⟩
    cases wh with
    | true =>
     refine q H ?_ λ b o e _=>e
     unfold take1; rw [hk,if_pos rfl]; exact D.hd
    | false=>exact put (by unfold take1; rw [hk]; simp)
theorem zhJ (T:Txt K mg A F):FnOk P w K mg base (CX1 P w) 1 (F.f 18) (F.fd 18) ["self","deed","use"] (zqf A):=by
 refine T.ziP.okN zht (λ vs H Q E h=>?_) (λ cdv A' outer s H vs Q E hr h=>?_)
 . obtain ⟨p,hd,rw,h,r,d,w,rfl,_⟩:=h
   rfl
 . obtain ⟨p,hd,rw,h,r,d,w,rfl,D,hl,q⟩:=h
   have hu:=zei hr
   obtain ⟨dx,hp⟩:=D.ob
   obtain ⟨us,hrw,tu⟩:=D.rw
   have hul:us.length=r.length:=by rw [tu.length,List.length_map]
   refine ⟨_,(zae (zbk (zfA (zo0 hu (pv 1) (zam (pv 0) rfl))) (zae (zaG (zeb PySem.F.plainAttrs_list PySem.F.slot_list_insert PySem.F.type_list_insert zpf (zam (pv 0) rfl) (zaa zal (zaa (zbC (zaa (pv 1) (zaa (pv 2) zad))) zad))))) (zae (zaG (zeb PySem.F.plainAttrs_list PySem.F.slot_list_append PySem.F.type_list_append zbv (zam (pv 0) rfl) (zaa (zbC (zaa (pv 1) (zaa (pv 2) zad))) zad)))))),?_⟩
   have dg:=DGet.k (k:=Sum.inl (d:Int)) D.hd
   rw [zfN] at dg
   refine ⟨_,rfl,_,rfl,p,_,dx,_,_,rfl,hp,T.zaU,T.zbm,rfl,hd,_,rfl,dg,_,rfl,?_⟩
   rw [Option.isSome_map,zk6]
   have z2:([V.int (d:Int),V.str (useS w)]:List V).length<=sizeLine:=sz2
   have fin:∀ (n:Addr) (us':List V),H n=none->zap (upd H n (.tup (zcn (d,w)))) us' ((zqH h r d w).map zcn)->Q .non (upd (upd H n (.tup (zcn (d,w)))) rw (.lst us')):=λ n us' hn t=>by
    have hrn:=zax (o:=HO.tup (zcn (d,w))) hrw hn
    refine q _ us' zab ?_ λ b o e hb=>?_
    . have:∀ {vs:List V} {xss:List (List V)},zap (upd H n (.tup (zcn (d,w)))) vs xss->zap (upd (upd H n (.tup (zcn (d,w)))) rw (.lst us')) vs xss:=λ t=>by
       induction t with
       | nil=>exact .nil
       | cons r0 _ ih =>
        obtain ⟨p0,e0,q0⟩:=r0
        exact .cons ⟨p0,e0,by rw [zaf (zbG q0 hrn (λ z=>nomatch z))]; exact q0⟩ ih
      exact this t
    . rw [zaf hb,zaf (zah e hn)]; exact e
   have tn:∀ n,H n=none->zap (upd H n (.tup (zcn (d,w)))) us (r.map zcn):=λ n hn=>zbu (Same.zaw hn) tu
   cases hh:has h d with
   | true =>
    refine iteT ⟨_,rfl,p,_,dx,_,_,rfl,hp,T.zaU,T.za3,rfl,.inl ⟨rfl,_,SqL.of hrw⟩,_,rfl,_,rfl,z2,λ n hn=>⟨rw,us,_,rfl,rfl,zax hrw hn,by rw [hul,sizeLine_eq]; omega,?_⟩⟩
    refine fin n _ hn ?_
    unfold zqH; rw [hh]
    exact .cons ⟨n,rfl,zab⟩ (tn n hn)
   | false =>
    refine iteF ⟨_,rfl,p,_,dx,_,_,rfl,hp,T.zaU,T.za3,rfl,.inl ⟨rfl,_,SqL.of hrw⟩,_,rfl,_,rfl,z2,λ n hn=>⟨rw,us,_,rfl,rfl,zax hrw hn,by rw [hul,sizeLine_eq]; omega,?_⟩⟩
    refine fin n _ hn ?_
    unfold zqH; rw [hh]
    simp only [Bool.false_eq_true,if_false,List.map_append]
    exact S6.zb8 (tn n hn) ⟨n,rfl,zab⟩
theorem zjM (T:Txt K mg A F):FnOk P w K mg base (CX1 P w) 1 (F.f 27) (F.fd 27) ["self","deed"] (zrK A):=by
 refine T.zlG.okN zjt (λ vs H Q E h=>?_) (λ cdv A' outer s H vs Q E hr h=>?_)
 . obtain ⟨p,hd,rw,dx,h,r,d,rfl,_⟩:=h
   rfl
 . obtain ⟨p,hd,rw,dx,h,r,d,rfl,D,hp,hl,q⟩:=h
   obtain ⟨us,hrw,tu⟩:=D.rw
   have hul:us.length=r.length:=by rw [tu.length,List.length_map]
   refine ⟨_,(zac (zaG (zm4 (zam (pv 0) rfl) (pv 1) zfD ⟨rfl,rfl,rfl,rfl⟩))
     (zae (zbS (pv 0) (zfa 1 [1] ["pair","deed"] rfl (by walk_at "blk") (zdc (zam (pv 0) rfl)) (λ C fp s H=>(za2 (i:=0) (show (["pair","deed"]:List Str).Nodup by decide +kernel) rfl (by walk_at "loc"))) (λ C fp s H=>zhy (zaA zo5 (zbd (zpt (K:=K) rfl) (pv 0) zal (λ _ _=>rfl)) (pv 1) (zaD _))) (λ C fp s H=>(pv 0))) rfl))),?_⟩
   have go:∀ H1:Hp,H1 hd=some (.dK (zcb (less h d)))->(∀ b o,H b=some o->b≠hd->H1 b=some o)->(∀ b,H b=none->H1 b=none)->H1 p=some (.ins A.zcf dx (ziI hd rw))->H1 rw=some (.lst us)->zap H1 us (r.map zcn) ->
       sFld K (tVar 0) (zrC 1 [1] (ztv K (tFld K (tVar 0) "row")) (zqV 0) (zrz (tOp rNe (tOp (rIxT K) (tVar 0) (tC (.int 0))) (tVar 1))) (tVar 0)) "row" { nx:=λ _ H'=>Q .non H',rt:=Q } [some (V.ref p),some (V.int d)] H1:=λ H1 h1 k1 k0 hp1 hr1 t1=>by
     refine ⟨_,rfl,p,_,dx,_,_,rfl,hp1,T.zaU,T.za3,rfl,rw,rfl,⟨_,SqL.of hr1⟩,?_⟩
     refine zfV (xs:=us) (λ i ys σ H2=>∃ v0,σ=[v0,some (V.int d)]/\H2=H1/\ys.length<=i/\zap H1 ys ((less (r.take i) d).map zcn)) ⟨none,rfl,rfl,Nat.le_refl _,.nil⟩ (λ i ys σ H2 ⟨_,_,e,hy,_⟩=>⟨SqL.of (by rw [e]; exact hr1),hy⟩) (by rw [hul,sizeLine_eq]; omega) ?_ ?_
     . rintro i x ys σ H2 hlt hx ⟨v0,rfl,rfl,hy,t⟩
       obtain ⟨y,hy1,n,rfl,hn1⟩:=zdu t1 hx
       rw [List.getElem?_map] at hy1
       obtain ⟨⟨e,we⟩,he,rfl⟩:=Option.map_eq_some_iff.mp hy1
       have e1:r.take (i+1)=r.take i++[(e,we)]:=by rw [List.take_add_one,he]; rfl
       refine ⟨_,rfl,n,_,_,_,rfl,rfl,SqT.of hn1,rfl,_,rfl,rfl,_,rfl,?_⟩
       refine zeM (e != d) (zrg e d) ?_
       by_cases hed:e=d
       . refine zaJ (by simp [hed]) (nx hlt ⟨_,rfl,rfl,by omega,?_⟩)
         rw [e1]; unfold less; rw [List.filter_append]; simp [hed]; exact t
       . refine zbl (by simp [hed]) ⟨_,rfl,nx hlt ⟨_,rfl,rfl,by rw [List.length_append,List.length_singleton]; omega,?_⟩⟩
         rw [e1]; unfold less; rw [List.filter_append,List.map_append]
         have:([(e,we)]:List (Nat×Bool)).filter (λ p=>p.1 != d)=[(e,we)]:=by simp [hed]
         rw [this]
         exact S6.zb8 t ⟨n,rfl,hn1⟩
     . rintro ys σ H2 ⟨v0,rfl,rfl,hy,t⟩
       rw [hul,List.take_length] at t
       intro n hn
       have hnp:p≠n:=zah hp1 hn
       refine ⟨_,rfl,p,_,dx,_,rfl,zax hp1 hn,T.zaU,T.za3,Nat.le_of_ble_eq_true rfl,?_⟩
       have hHn:H n=none:=by
         cases e:H n with
         | none=>rfl
         | some o =>
          by_cases z:n=hd
          . rw [z,h1] at hn; cases hn
          . rw [k1 n o e z] at hn; cases hn
       have hhp:hd≠p:=zbG h1 hp1 (λ z=>nomatch z)
       refine q _ n ys hHn (by rw [zab]; rfl) ?_ ?_ ?_ λ b o e hb hbh=>?_
       . rw [zaf hhp,zaf (zah h1 hn)]; exact h1
       . rw [zaf hnp.symm,zab]
       . have:∀ {vs:List V} {xss:List (List V)},zap H2 vs xss->zap (upd (upd H2 n (.lst ys)) p (.ins A.zcf dx (ziI hd n))) vs xss:=λ t=>by
          induction t with
          | nil=>exact .nil
          | cons r0 _ ih =>
            obtain ⟨p0,e0,q0⟩:=r0
            exact .cons ⟨p0,e0,by rw [zaf (zbG q0 hp1 (λ z=>nomatch z)),zaf (zah q0 hn)]; exact q0⟩ ih
         exact this t
       . rw [zaf hb,zaf (zah e hHn)]; exact k1 b o e hbh
   have tup1:∀ o,zap (upd H hd (.dK o)) us (r.map zcn):=λ o=>by
     have:∀ {vs:List V} {xss:List (List V)},zap H vs xss->zap (upd H hd (.dK o)) vs xss:=λ t=>by
       induction t with
       | nil=>exact .nil
       | cons r0 _ ih =>
         obtain ⟨p0,e0,q0⟩:=r0
         exact .cons ⟨p0,e0,by rw [zaf (zbG q0 D.hd (λ z=>nomatch z))]; exact q0⟩ ih
     exact this tu
   refine ⟨_,rfl,p,_,dx,_,_,rfl,hp,T.zaU,T.zbm,rfl,hd,rfl,.inl ⟨_,.of D.hd⟩,_,rfl,_,Sum.inl (d:Int),D.hd,rfl,λ v hv=>?_,λ hv=>?_⟩
   . rw [zpA]
     refine go _ zab (λ b o e hb=>by rw [zaf hb]; exact e) (λ b e=>by rw [zaf λ z=>by rw [z,D.hd] at e; cases e]; exact e) ?_ ?_ (tup1 _)
     . rw [zaf (zbG hp D.hd (λ z=>nomatch z))]; exact hp
     . rw [zaf (zbG hrw D.hd (λ z=>nomatch z))]; exact hrw
   . rw [zfN] at hv
     have hn:look h d=none:=by simpa using hv
     exact go H (by rw [less_none hn]; exact D.hd) (λ b o e _=>e) (λ b e=>e) hp hrw tu
theorem zdD (T:Txt K mg A F):FnOk P w K mg base (CX1 P w) 2 (F.f 19) (F.fd 19) ["self","deed","use"] (zks A):=by
 have G_Desk_hindering:=@zdn P w K mg base A F T
 refine T.zdY.okN zb4 (λ vs H Q E h=>?_) (λ cdv A' outer s H vs Q E hr h=>?_)
 . obtain ⟨p,hd,rw,h,r,d,w,rfl,_⟩:=h
   rfl
 . obtain ⟨p,hd,rw,h,r,d,w,rfl,D,hl,hnd,hlr,hm,hrn,q⟩:=h
   have hu64:=hu64 hr
   obtain ⟨dx,hp⟩:=D.ob
   obtain ⟨us,hrw,tu⟩:=D.rw
   have hul:us.length=r.length:=by rw [tu.length,List.length_map]
   refine ⟨_,(zac (zaL (i:=3) zb4.nd rfl (by walk_at "loc") (zeb PySem.F.plainAttrs_list PySem.F.slot_list_index PySem.F.type_list_index (zqC hu64) (zam (pv 0) rfl) (zaa (zbC (zaa (pv 1) (zaa (pv 2) zad))) zad)))
     (zac (zbk (zaA zr3 (pv 3) zal (zaD _)) (zae (zar (zb7 (zaa (zbd zca (zbd zbi (zam (pv 0) rfl) (zcm zo3 (pv 3) zal) (λ _ _=>rfl)) zal (λ _ _=>rfl)) zad)))) zaF)
     (zae (zar (zat (pv 0) T.zaU T.zdM G_Desk_hindering (hmr hr) T.zdS .nil zaz (zaa (pv 1) (zaa (pv 2) zad))))))),?_⟩
   obtain ⟨post,er,hall⟩:=zjn hrn hm
   have z2:([V.int (d:Int),V.str (useS w)]:List V).length<=sizeLine:=sz2
   refine ⟨_,rfl,p,_,dx,_,_,rfl,hp,T.zaU,T.za3,rfl,.inl ⟨rfl,_,SqL.of hrw⟩,_,rfl,_,rfl,z2,λ n hn=>?_⟩
   have dv:DVs (upd H n (.tup [V.int (d:Int),V.str (useS w)])) us (r.map λ p=>.tuple [.int p.1,.str (useS p.2)]):=zm5 (zbu (Same.zaw hn) tu)
   refine ⟨rw,us,_,_,_,(ahead r d).length,rfl,rfl,zax hrw hn,dv,.tup zab (.cons (.int _) (.cons (.str _) .nil)),λ e he=>?_,zo1 _ _,⟨?_,λ m hm' e he=>?_⟩,?_⟩
   . obtain ⟨x,_,rfl⟩:=List.mem_map.mp he
     exact zo1 _ _
   . have:r[(ahead r d).length]?=some (d,w):=by
      have e2:(ahead r d++(d,w)::post)[(ahead r d).length]?=some (d,w):=by rw [List.getElem?_append_right (Nat.le_refl _)]; simp
      rw [<-er] at e2; exact e2
     rw [List.getElem?_map,this]; rfl
   . rw [List.getElem?_map] at he
     obtain ⟨x,hx,rfl⟩:=Option.map_eq_some_iff.mp he
     have hx2:x∈ahead r d:=by
      have e2:(ahead r d++(d,w)::post)[m]?=(ahead r d)[m]?:=List.getElem?_append_left hm'
      rw [<-er,hx] at e2
      exact List.mem_of_getElem? e2.symm
     intro z
     injection z with z
     injection z with z1 _
     injection z1 with z1
     exact hall x hx2 (by omega)
   . have m0:Same H (upd H n (.tup [V.int (d:Int),V.str (useS w)])):=Same.zaw hn
     have D1:=D.same m0
     refine ⟨_,rfl,_,_,rfl,rfl,_,rfl,?_⟩
     cases hg:(ahead r d).getLast? with
     | none =>
      have h0:ahead r d=[]:=List.getLast?_eq_none_iff.mp hg
      refine zaJ (by rw [h0]; rfl) ?_
      refine ⟨_,rfl,p,dx,_,rfl,m0 _ _ hp,rfl,_,rfl,_,rfl,p,hd,rw,h,r,d,w,rfl,D1,hl,hnd,λ H' x nf m e=>q H' x (m0.free nf) (m0.trans m) ?_⟩
      unfold zjN; rw [hg]; exact e
     | some x =>
      have hne:ahead r d≠[]:=by intro z; rw [z] at hg; cases hg
      have hlen:0 < (ahead r d).length:=List.length_pos_iff.mpr hne
      have hix:r[(ahead r d).length - 1]?=some x:=by
       have e2:(ahead r d++(d,w)::post)[(ahead r d).length - 1]?=(ahead r d)[(ahead r d).length - 1]?:=List.getElem?_append_left (by omega)
       rw [<-er] at e2
       rw [e2,<-List.getLast?_eq_getElem?]; exact hg
      obtain ⟨v,hv,px,rfl,hpx⟩:=zdZ (zbu m0 tu) (i:=(ahead r d).length - 1) (y:=zcn x) (by rw [List.getElem?_map,hix]; rfl)
      have hat:atI us (((ahead r d).length:Int) - 1)=some (V.ref px):=by
       have:=zbt hv
       rw [show (((ahead r d).length - 1:Nat):Int)=((ahead r d).length:Int) - 1 by omega] at this
       exact this
      refine zbl (by simpa using hlen) ?_
      refine ⟨_,rfl,p,_,dx,_,_,rfl,m0 _ _ hp,T.zaU,T.za3,rfl,_,rfl,_,_,rfl,rfl,rw,_,_,_,rfl,rfl,SqL.of (m0 _ _ hrw),hat,px,_,_,_,rfl,rfl,SqT.of hpx,rfl,sz1,λ m hm=>?_⟩
      refine q _ m (m0.free hm) (m0.upd2 hm) ?_
      rw [zab]; unfold zjN; rw [hg]; rfl
theorem zkT (T:Txt K mg A F):FnOk P w K mg base (CX1 P w) 1 (F.f 0) (F.fd 0) ["self"] (znI A):=by
 refine T.zmO.okN zkA (λ vs H Q E h=>?_) (λ cdv A' outer s H vs Q E hr h=>?_)
 . obtain ⟨p,dx,rfl,_⟩:=h
   rfl
 . obtain ⟨p,dx,rfl,hp,q⟩:=h
   refine ⟨_,(zac (zbS (pv 0) (zb7 zad) rfl)
    (zac (zbS (pv 0) zfE rfl)
    (zac (zbS (pv 0) zfE rfl)
    (zac (zbS (pv 0) zfE rfl)
    (zac (zbS (pv 0) (zb7 zad) rfl)
    (zae (zbS (pv 0) (zb7 zad) rfl))))))),?_⟩
   refine ⟨Nat.le_of_ble_eq_true rfl,λ p1 n1=>⟨_,rfl,p,_,dx,_,rfl,zax hp n1,T.zaj,T.zaB,Nat.le_of_ble_eq_true rfl,λ p2 n2=>⟨_,rfl,p,_,dx,_,rfl,zax zab n2,T.zaj,T.zbr,Nat.le_of_ble_eq_true rfl,λ p3 n3=>⟨_,rfl,p,_,dx,_,rfl,zax zab n3,T.zaj,T.zbc,Nat.le_of_ble_eq_true rfl,λ p4 n4=>⟨_,rfl,p,_,dx,_,rfl,zax zab n4,T.zaj,T.za8,Nat.le_of_ble_eq_true rfl,Nat.le_of_ble_eq_true rfl,λ p5 n5=>⟨_,rfl,p,_,dx,_,rfl,zax zab n5,T.zaj,T.zb9,Nat.le_of_ble_eq_true rfl,Nat.le_of_ble_eq_true rfl,λ p6 n6=>⟨_,rfl,p,_,dx,_,rfl,zax zab n6,T.zaj,T.zb1,Nat.le_of_ble_eq_true rfl,?_⟩⟩⟩⟩⟩⟩⟩
   obtain ⟨a1,b1,c1,d1⟩:=two (o:=.lst []) (o':=.ins A.zaX dx (putF "records" (.ref p1) [])) hp n1
   generalize upd (upd H p1 (.lst [])) p (.ins A.zaX dx (putF "records" (.ref p1) []))=H1 at *
   obtain ⟨a2,b2,c2,d2⟩:=two (o:=.dK []) (o':=.ins A.zaX dx (putF "desks" (.ref p2) (putF "records" (.ref p1) []))) a1 n2
   generalize upd (upd H1 p2 (.dK [])) p (.ins A.zaX dx (putF "desks" (.ref p2) (putF "records" (.ref p1) [])))=H2 at *
   obtain ⟨a3,b3,c3,d3⟩:=two (o:=.dK []) (o':=.ins A.zaX dx (putF "standing" (.ref p3) (putF "desks" (.ref p2) (putF "records" (.ref p1) [])))) a2 n3
   generalize upd (upd H2 p3 (.dK [])) p (.ins A.zaX dx (putF "standing" (.ref p3) (putF "desks" (.ref p2) (putF "records" (.ref p1) []))))=H3 at *
   obtain ⟨a4,b4,c4,d4⟩:=two (o:=.dK []) (o':=.ins A.zaX dx (putF "kept_values" (.ref p4) (putF "standing" (.ref p3) (putF "desks" (.ref p2) (putF "records" (.ref p1) []))))) a3 n4
   generalize upd (upd H3 p4 (.dK [])) p (.ins A.zaX dx (putF "kept_values" (.ref p4) (putF "standing" (.ref p3) (putF "desks" (.ref p2) (putF "records" (.ref p1) [])))))=H4 at *
   obtain ⟨a5,b5,c5,d5⟩:=two (o:=.lst []) (o':=.ins A.zaX dx (putF "kept_deeds" (.ref p5) (putF "kept_values" (.ref p4) (putF "standing" (.ref p3) (putF "desks" (.ref p2) (putF "records" (.ref p1) [])))))) a4 n5
   generalize upd (upd H4 p5 (.lst [])) p (.ins A.zaX dx (putF "kept_deeds" (.ref p5) (putF "kept_values" (.ref p4) (putF "standing" (.ref p3) (putF "desks" (.ref p2) (putF "records" (.ref p1) []))))))=H5 at *
   obtain ⟨a6,b6,c6,d6⟩:=two (o:=.lst []) (o':=.ins A.zaX dx (putF "rows" (.ref p6) (putF "kept_deeds" (.ref p5) (putF "kept_values" (.ref p4) (putF "standing" (.ref p3) (putF "desks" (.ref p2) (putF "records" (.ref p1) []))))))) a5 n6
   generalize upd (upd H5 p6 (.lst [])) p (.ins A.zaX dx (putF "rows" (.ref p6) (putF "kept_deeds" (.ref p5) (putF "kept_values" (.ref p4) (putF "standing" (.ref p3) (putF "desks" (.ref p2) (putF "records" (.ref p1) [])))))))=H6 at *
   have q1:p1≠p:=λ z=>by rw [z,hp] at n1; cases n1
   obtain ⟨m21,k21,q2⟩:=d1 p2 n2
   obtain ⟨m32,k32,q3⟩:=d2 p3 n3
   obtain ⟨m31,k31,_⟩:=d1 p3 m32
   obtain ⟨m43,k43,q4⟩:=d3 p4 n4
   obtain ⟨m42,k42,_⟩:=d2 p4 m43
   obtain ⟨m41,k41,_⟩:=d1 p4 m42
   obtain ⟨m54,k54,q5⟩:=d4 p5 n5
   obtain ⟨m53,k53,_⟩:=d3 p5 m54
   obtain ⟨m52,k52,_⟩:=d2 p5 m53
   obtain ⟨m51,k51,_⟩:=d1 p5 m52
   obtain ⟨m65,k65,q6⟩:=d5 p6 n6
   obtain ⟨m64,k64,_⟩:=d4 p6 m65
   obtain ⟨m63,k63,_⟩:=d3 p6 m64
   obtain ⟨m62,k62,_⟩:=d2 p6 m63
   obtain ⟨m61,k61,_⟩:=d1 p6 m62
   have e1:=c6 _ _ q1 (c5 _ _ q1 (c4 _ _ q1 (c3 _ _ q1 (c2 _ _ q1 b1))))
   have e2:=c6 _ _ q2 (c5 _ _ q2 (c4 _ _ q2 (c3 _ _ q2 b2)))
   have e3:=c6 _ _ q3 (c5 _ _ q3 (c4 _ _ q3 b3))
   have e4:=c6 _ _ q4 (c5 _ _ q4 b4)
   have e5:=c6 _ _ q5 b5
   have kp:∀ b o,H b=some o->b≠p->H6 b=some o:=λ b o e hb=>c6 _ _ hb (c5 _ _ hb (c4 _ _ hb (c3 _ _ hb (c2 _ _ hb (c1 _ _ hb e)))))
   have ne:∀ b,b≠p->H b=none->(λ b=>if b=p then none else H b) b=none:=λ b hb e=>by
    show (if b=p then none else H b)=none
    rw [if_neg hb]; exact e
   obtain ⟨ρ,ad,h1,h2,h3⟩:=zai.fresh (A:=A) (H:=λ b=>if b=p then none else H b) (H':=H6) (a:=p) (dx:=dx) (p1:=p1) (p2:=p2) (p3:=p3) (p4:=p4) (p5:=p5) (p6:=p6) (if_pos rfl) (ne _ q1 n1) (ne _ q2 m21) (ne _ q3 m31) (ne _ q4 m41) (ne _ q5 m51) (ne _ q6 m61) a6 e1 e2 e3 e4 e5 b6 (Ne.symm k51) (Ne.symm k61) (Ne.symm k65) (Ne.symm k32) (Ne.symm k42) (Ne.symm k43) (λ b o e=>by
    by_cases z:b=p
    . have e:(if b=p then none else H b)=some o:=e
      rw [if_pos z] at e; cases e
    . have e:(if b=p then none else H b)=some o:=e
      rw [if_neg z] at e; exact kp b o e z)
   exact q H6 ρ ad h1 h2 λ b o e hb=>⟨kp b o e hb,h3 b o (by show (if b=p then none else H b)=some o; rw [if_neg hb]; exact e)⟩
theorem zjL (T:Txt K mg A F):FnOk P w K mg base (CX1 P w) 3 (F.f 7) (F.fd 7) ["self"] (zrN A):=by
 have G_Record_init:=@ziA P w K mg base A F T
 refine T.zlF.okN zfw (λ vs H Q E h=>?_) (λ cdv A' outer s H vs Q E hr h=>?_)
 . obtain ⟨ρ,ad,s,kv,rfl,_⟩:=h
   rfl
 . obtain ⟨ρ,ad,s,kv,rfl,hh,sm,hn,q⟩:=h
   obtain ⟨dx,hp⟩:=hh.hall
   refine ⟨_,(zac (zaL (i:=1) zfw.nd rfl (by walk_at "loc") (zbp zbn (by rfl) T.zk0 PySem.boot_len (zaa (zam (pv 0) rfl) zad)))
    (zac (zaG (zeb PySem.F.plainAttrs_list PySem.F.slot_list_append PySem.F.type_list_append zbv (zam (pv 0) rfl) (zaa (zjC T.zpg G_Record_init (hmr hr) rfl T.zqU T.zj7 .nil zaz) zad)))
    (zac (zaG (zeb PySem.F.plainAttrs_list PySem.F.slot_list_append PySem.F.type_list_append zbv (zam (pv 0) rfl) (zaa (zbC (zaa (zcr rfl T.zsi) (zaa (pv 1) zad))) zad)))
    (zae (zar (pv 1)))))),?_⟩
   have hl:((List.range s.n).map λ i=>V.ref (ad (.rcd i))).length=s.n:=by rw [List.length_map,List.length_range]
   refine ⟨_,rfl,_,_,dx,_,_,rfl,hp,T.zaj,T.zaB,rfl,ad .recs,_,rfl,.inl (SqL.of hh.recs),?_⟩
   rw [hl]
   refine ⟨_,rfl,_,_,dx,_,_,rfl,hp,T.zaj,T.zaB,rfl,.inl ⟨rfl,_,SqL.of hh.recs⟩,λ x dx2 nx ndx nex=>⟨x,dx2,rfl,zab,λ H1 d nd e1 e2 kp=>⟨rfl,?_⟩⟩⟩
   have s0:Same H (upd (upd H dx2 (.own x)) x (.ins A.zaC dx2 [])):=(Same.zaw ndx).upd2 (by rw [zaf nex.symm]; exact nx)
   have s1:Same H H1:=λ b o e=>kp b o (s0 b o e) (zah e nx)
   refine ⟨ad .recs,_,_,rfl,rfl,s1 _ _ hh.recs,by rw [hl,sizeLine_eq]; omega,?_⟩
   have hdx:x≠ad .recs:=(zah hh.recs nx).symm
   have hdd:d≠ad .recs:=(zah (s0 _ _ hh.recs) nd).symm
   obtain ⟨ρ',ad',ea,h2,f2⟩:=hh.addRec (H':=upd H1 (ad .recs) (.lst (((List.range s.n).map λ i=>V.ref (ad (.rcd i)))++[.ref x]))) T.ok (p:=x) (d:=d) (dx:=dx2) nx (by
     cases e:H d with
     | none=>rfl
     | some o=>rw [s0 d o e] at nd; cases nd) zab (by rw [zaf hdx]; exact e1) (by rw [zaf hdd]; exact e2) (λ b o e hb=>by rw [zaf hb]; exact s1 b o e)
   obtain ⟨dx3,hp3⟩:=h2.hall
   obtain ⟨us,hus,tus⟩:=h2.rows
   have hul:us.length=s.log.length:=by rw [tus.length,List.length_map]
   rw [<-ea]
   refine ⟨_,rfl,_,_,dx3,_,_,rfl,hp3,T.zaj,T.zb1,rfl,.inl ⟨rfl,_,SqL.of hus⟩,_,rfl,sz2,λ n nn=>⟨ad' .rows,_,_,rfl,rfl,zax hus nn,by have:=sm.lg; rw [hul,sizeLine_eq]; omega,_,rfl,?_⟩⟩
   have h3:=h2.grow (H':=upd _ n (.tup [V.str "begin",V.int (s.n:Int)])) (Same.zaw nn)
   obtain ⟨h4,f4⟩:=h3.znx (H':=upd (upd _ n (.tup [V.str "begin",V.int (s.n:Int)])) (ad' .rows) (.lst (us++[.ref n]))) T.ok (row:=.begin s.n) (zax hus nn) zab (λ b o e hb=>by rw [zaf hb]; exact e) ⟨n,rfl,by rw [zaf (zah hus nn).symm,zab]; rfl⟩
   exact q _ ρ' ad' ea h4 ((f2.trans (Frame.grow (Same.zaw nn))).trans f4)
theorem zbh (T:Txt K mg A F):FnOk P w K mg base (CX1 P w) 2 (F.f 9) (F.fd 9) ["self","deed"] (znF A):=by
 have G_is_whole:=@zlZ P w K mg base A F T
 refine T.zg8.okX zf4 (λ vs H Q E h=>?_) (λ cdv A' outer s H vs Q E hr h=>?_)
 . obtain ⟨ρ,ad,s,kv,i,rfl,_⟩:=h
   rfl
 . obtain ⟨ρ,ad,s,kv,i,rfl,hh,hn,q⟩:=h
   obtain ⟨dx,hp⟩:=hh.hall
   refine ⟨_,(zac (zbk (PW.pt (ztb (ztc (zkG (zaE G_is_whole (hmr hr) rfl T.zn7 T.zn0 T.zoc .nil zaz (zaa (pv 1) zad)))) (ztb (zaA zlY (pv 1) zal (zaD _)) (zta (zaA zt8 (pv 1) (zbp zbn (by rfl) T.zk0 PySem.boot_len (zaa (zam (pv 0) rfl) zad)) (zaD _)))))) (zae (zjx zhx rfl rfl T.znm T.zp8 PySem.F.excBase_ValueError (zaa zaV zad))) zaF)
    (zae (zar (zbd zbi (zam (pv 0) rfl) (pv 1) (λ _ _=>rfl))))),?_⟩
   have hl:((List.range s.n).map λ i=>V.ref (ad (.rcd i))).length=s.n:=by rw [List.length_map,List.length_range]
   refine ⟨_,rfl,i,rfl,_,rfl,?_⟩
   refine ⟨_,rfl,_,_,rfl,rfl,_,rfl,?_⟩
   have bad:Out A s i H E->zoy A.zbB E (zqb (tC (.str "there is no deed with this number")) tNil) { nx:=λ σ H'=>tRet (tOp (rIxL K) (tFld K (tVar 0) "records") (tVar 1)) { nx:=λ _ H'=>Q .non H',rt:=Q } σ H',rt:=Q } [some (.ref (ad .hall)),some (.int i)] H:=λ o=>⟨Nat.le_of_ble_eq_true rfl,o.2⟩
   have last:(if decide ((s.n:Int)<=i)=true then Out A s i H E else ∃ d:Nat,i=d/\d < s.n/\Q (.ref (ad (.rcd d))) H)->zrz (tOp (rI0 λ i j=>.bl (decide (j<=i))) (tVar 1) (tCB (λ xs H Q=>∃ p ys,xs=[.ref p]/\(SqL K H p ys\/SqT K H p ys)/\Q (.int ys.length) H) (zqb (tFld K (tVar 0) "records") tNil))) [some (.ref (ad .hall)),some (.int i)] H λ c H1=>if c=true then zoy A.zbB E (zqb (tC (.str "there is no deed with this number")) tNil) { nx:=λ σ H'=>tRet (tOp (rIxL K) (tFld K (tVar 0) "records") (tVar 1)) { nx:=λ _ H'=>Q .non H',rt:=Q } σ H',rt:=Q } [some (.ref (ad .hall)),some (.int i)] H1 else zrA { nx:=λ σ H'=>tRet (tOp (rIxL K) (tFld K (tVar 0) "records") (tVar 1)) { nx:=λ _ H'=>Q .non H',rt:=Q } σ H',rt:=Q } [some (.ref (ad .hall)),some (.int i)] H1:=λ o=>by
    refine ⟨_,rfl,_,rfl,_,_,dx,_,_,rfl,hp,T.zaj,T.zaB,rfl,ad .recs,_,rfl,.inl (SqL.of hh.recs),_,_,rfl,rfl,_,rfl,?_⟩
    rw [hl]
    cases hb:decide ((s.n:Int)<=i) with
    | true=>rw [hb] at o; exact iteT (bad (by simpa using o))
    | false =>
      rw [hb] at o
      obtain ⟨d,rfl,hd,z⟩:∃ d:Nat,i=d/\d < s.n/\Q (.ref (ad (.rcd d))) H:=by simpa using o
      exact iteF ⟨_,rfl,_,_,dx,_,_,rfl,hp,T.zaj,T.zaB,rfl,_,rfl,ad .recs,_,_,_,rfl,rfl,SqL.of hh.recs,zbt (hh.zfz hd),z⟩
   cases hb:decide (i < 0) with
   | true =>
    refine iteT (bad ?_)
    rcases q with ⟨d,rfl,hd,z⟩ | o
    . simp at hb; omega
    . exact o
   | false =>
    refine iteF (last ?_)
    have hi:¬ i < 0:=by simpa using hb
    rcases q with ⟨d,rfl,hd,z⟩ | o
    . exact zaJ (decide_eq_false (by omega)) ⟨d,rfl,hd,z⟩
    . exact zbl (decide_eq_true (o.1.resolve_left hi)) o
theorem zaH (T:Txt K mg A F):FnOk P w K mg base (CX1 P w) 3 (F.f 10) (F.fd 10) ["self","deed"] (zqe A):=by
 have G_Hall_record_of:=@zbh P w K mg base A F T
 refine T.zcW.okX zcM (λ vs H Q E h=>?_) (λ cdv A' outer s H vs Q E hr h=>?_)
 . obtain ⟨ρ,ad,s,kv,i,rfl,_⟩:=h
   rfl
 . obtain ⟨ρ,ad,s,kv,i,rfl,hh,hn,q⟩:=h
   obtain ⟨dx,hp⟩:=hh.hall
   refine ⟨_,(zae (zbk (zaA zo5 (zam (zat (pv 0) T.zaj T.zbx G_Hall_record_of (hmr hr) T.zbz .nil zaN (zaa (pv 1) zad)) rfl) (zcr rfl T.zmk) (zaD _)) (zae (zjx zhx rfl rfl T.zez T.ziQ PySem.F.excBase_ValueError (zaa zaV zad))) zaF)),?_⟩
   refine ⟨_,rfl,_,dx,_,rfl,hp,rfl,_,rfl,ρ,ad,s,kv,i,rfl,hh,hn,?_⟩
   rcases q with ⟨d,rfl,hd,q⟩ | o
   . obtain ⟨dr,wv,hr1,_⟩:=hh.rcd hd
     refine .inl ⟨d,rfl,hd,_,_,dr,_,_,rfl,hr1,T.zav,T.zay,rfl,rfl,_,rfl,?_⟩
     rcases q with ⟨hs,q⟩ | ⟨hs,q⟩
     . refine zaJ ?_ q
       rw [hs]; rfl
     . refine zbl ?_ ⟨Nat.le_of_ble_eq_true rfl,q⟩
       cases hst:(s.deed d).st with
       | zaq=>exact absurd hst hs
       | waiting=>rfl
       | kept=>rfl
       | dropped=>rfl
   . exact .inr o
theorem zdm (T:Txt K mg A F):FnOk P w K mg base (CX1 P w) 2 (F.f 17) (F.fd 17) ["self","deed","want"] (zrM A):=by
 have G_Desk_take:=@zkU P w K mg base A F T
 have G_value_under:=@ziy P w K mg base A F T
 refine T.zhb.okN zcj (λ vs H Q E h=>?_) (λ cdv A' outer s H vs Q E hr h=>?_)
 . obtain ⟨ρ,ad,s,kv,d,wv,a,rfl,_⟩:=h
   rfl
 . obtain ⟨ρ,ad,s,kv,d,wv,a,rfl,hh,sm,hd,hk,⟨pw,dw,rfl,hw⟩,q⟩:=h
   have hu:=zei hr
   obtain ⟨dx,hp⟩:=hh.hall
   have D:=hh.desk hk
   obtain ⟨dd,hdk⟩:=D.ob
   refine ⟨_,(zac (zaG (zat (zdB hu (zam (pv 0) rfl) (zam (pv 2) rfl) (λ _ _=>rfl)) T.zaU T.zl9 G_Desk_take (hmr hr) T.zmz .nil zaz (zaa (pv 1) (zaa (zam (pv 2) rfl) zad))))
    (zac (zaL (i:=3) zcj.nd rfl (by walk_at "loc") (zbd zbi (zam (pv 0) rfl) (pv 1) (λ _ _=>rfl)))
    (zac (zbS (pv 3) (zcr rfl T.zmk) rfl)
    (zac (zbS (pv 3) zfD rfl)
    (zac (zaL (i:=4) zcj.nd rfl (by walk_at "loc") (zaE G_value_under (hmr hr) rfl T.zj2 T.zjZ T.zj6 .nil zaz (zaa (zam (pv 0) rfl) (zaa (zam (pv 2) rfl) zad))))
    (zae (zbk (zaA zb3 (zam (pv 2) rfl) (zcr rfl T.zcR) (zaD _)) (zac (zaG (zeb PySem.F.plainAttrs_list PySem.F.slot_list_append PySem.F.type_list_append zbv (zam (pv 0) rfl) (zaa (zbC (zaa (zcr rfl T.zmi) (zaa (pv 1) (zaa (zam (pv 2) rfl) (zaa (pv 4) (zaa (zam (pv 2) rfl) zad)))))) zad)))
    (zac (zhz hu (zam (pv 0) rfl) (zam (pv 2) rfl) (zam (pv 2) rfl) rfl)
    (zae (zaG (zeb PySem.F.plainAttrs_list PySem.F.slot_list_append PySem.F.type_list_append zbv (zam (pv 3) rfl) (zaa (zbC (zaa (zcr rfl T.zmi) (zaa (zam (pv 2) rfl) (zaa (zam (pv 2) rfl) zad)))) zad)))))) (zae (zaG (zeb PySem.F.plainAttrs_list PySem.F.slot_list_append PySem.F.type_list_append zbv (zam (pv 3) rfl) (zaa (zbC (zaa (zcr rfl T.ztw) (zaa (zam (pv 2) rfl) (zaa (pv 4) zad)))) zad))))))))))),?_⟩
   refine ⟨_,rfl,_,_,dx,_,_,rfl,hp,T.zaj,T.zbr,rfl,_,rfl,pw,_,dw,_,_,rfl,hw,T.za4,T.za7,rfl,_,_,rfl,hh.zfT hk,_,dd,_,rfl,hdk,rfl,_,rfl,_,rfl,pw,_,dw,_,_,rfl,hw,T.za4,T.zbq,rfl,_,_,_,_,_,d,a.wr,rfl,D,sm.hl _,sm.hn _,λ H1 e1 kp1=>?_⟩
   obtain ⟨h1,f1⟩:=hh.zrS T.ok hk e1 kp1
   have hw1:H1 pw=_:=(Imm.zgm T.ok hh (r:=.held a.key) hk kp1).want _ _ _ hw
   obtain ⟨dx1,hp1⟩:=h1.hall
   obtain ⟨dr,w0,hr1,_⟩:=h1.rcd hd
   refine ⟨_,rfl,_,_,dx1,_,_,rfl,hp1,T.zaj,T.zaB,rfl,_,rfl,_,_,_,_,rfl,rfl,SqL.of h1.recs,zbt (h1.zfz hd),?_⟩
   refine ⟨_,rfl,_,_,dr,_,rfl,hr1,T.zav,T.zay,Nat.le_of_ble_eq_true rfl,_,rfl,_,_,dr,_,rfl,zab,T.zav,T.za5,Nat.le_of_ble_eq_true rfl,?_⟩
   rw [zjj]
   have kp3:zcw H1 (ad (.rcd d)) (upd H1 (ad (.rcd d)) (.ins A.zaC dr (recF .zaq (ad (.did d)) .non))):=λ b o e hb=>by rw [zaf hb]; exact e
   obtain ⟨h3,f3⟩:=h1.zoL (H':=upd H1 (ad (.rcd d)) (.ins A.zaC dr (recF .zaq (ad (.did d)) .non))) T.ok hd (D:={ s.deed d with st:=.zaq }) (w:=.non) zab kp3 rfl rfl
   have hw3:=(Imm.zgm T.ok h1 (r:=.rcd d) hd kp3).want _ _ _ hw1
   show tSeq _ _ _ _ (upd H1 (ad (.rcd d)) (.ins A.zaC dr (recF .zaq (ad (.did d)) .non)))
   generalize upd H1 (ad (.rcd d)) (.ins A.zaC dr (recF .zaq (ad (.did d)) .non))=H3 at *
   obtain ⟨dx3,hp3⟩:=h3.hall
   obtain ⟨l,hl,hb⟩:=h3.zci
   have hb:zbj l s.book:=hb
   refine ⟨_,rfl,_,_,dx3,_,_,rfl,hp3,T.zaj,T.zbc,rfl,_,rfl,pw,_,dw,_,_,rfl,hw3,T.za4,T.za7,rfl,_,a.key,l,_,rfl,hl,hb,?_⟩
   refine ⟨_,rfl,pw,_,dw,_,_,rfl,hw3,T.za4,T.zbq,rfl,rfl,_,rfl,?_⟩
   refine zeM a.wr (zhj a.wr) ?_
   have hr3:∃ dr w,H3 (ad (.rcd d))=some (.ins A.zaC dr (recF .zaq (ad (.did d)) w)):=by
    obtain ⟨dr,w,e,_⟩:=h3.rcd hd
    have e:H3 (ad (.rcd d))=some (.ins A.zaC dr (recF (up s.deed d { s.deed d with st:=.zaq } d).st (ad (.did d)) w)):=e
    rw [zag] at e
    exact ⟨dr,w,e⟩
   have fin:∀ (t:HS Str) (H4:Hp) (b:Act Str),zai A ρ ad t kv H4->Frame ρ H ρ H4->t.n=s.n->(t.deed d).done.length<=2000->∀ us,H4 (ad (.did d))=some (.lst us)->∀ n,H4 n=none ->
     ∃ l xs y,V.ref (ad (.did d))=.ref l/\[V.ref n]=[y]/\upd H4 n (.tup (actV b)) l=some (.lst xs)/\xs.length < sizeLine/\(zai A ρ ad { t with deed:=up t.deed d { t.deed d with done:=(t.deed d).done++[b] } } kv (upd (upd H4 n (.tup (actV b))) l (.lst (xs++[y])))/\Frame ρ H ρ (upd (upd H4 n (.tup (actV b))) l (.lst (xs++[y])))):=λ t H4 b h4 f4 hn hl us hus n nn=>by
    have hdt:d < t.n:=by rw [hn]; exact hd
    have h5:=h4.grow (H':=upd H4 n (.tup (actV b))) (Same.zaw nn)
    obtain ⟨us',e',tu⟩:=h4.did hdt
    rw [hus] at e'; cases e'
    have hlen:us.length=(t.deed d).done.length:=by rw [tu.length,List.length_map]
    obtain ⟨h6,f6⟩:=h5.ztL (H':=upd (upd H4 n (.tup (actV b))) (ad (.did d)) (.lst (us++[.ref n]))) T.ok hdt (a:=b) (zax hus nn) zab (λ x o e hx=>by rw [zaf hx]; exact e) ⟨n,rfl,by rw [zaf (zah hus nn).symm,zab]⟩
    exact ⟨ad (.did d),us,.ref n,rfl,rfl,zax hus nn,by rw [hlen,sizeLine_eq]; omega,h6,(f4.trans (Frame.grow (Same.zaw nn))).trans f6⟩
   have f03:Frame ρ H ρ H3:=f1.trans f3
   have dn3:(up s.deed d { s.deed d with st:=DS.zaq } d).done.length<=2000:=by rw [zag]; exact sm.dn d
   cases hwr:a.wr with
   | true =>
    obtain ⟨us,hus,tus⟩:=h3.rows
    have hul:us.length=s.log.length:=by rw [tus.length,List.length_map]
    have hwv:List.lookup ("value" : Str) (zrv a)=some (.int a.val):=by
     show some (if a.wr then V.int a.val else .non)=_
     rw [hwr]; rfl
    refine ⟨_,rfl,_,_,dx3,_,_,rfl,hp3,T.zaj,T.zb1,rfl,.inl ⟨rfl,_,SqL.of hus⟩,_,rfl,_,rfl,pw,_,dw,_,_,rfl,hw3,T.za4,T.za7,rfl,_,rfl,_,rfl,pw,_,dw,_,_,rfl,hw3,T.za4,T.zcG,hwv,sz5,λ n nn=>⟨_,_,_,rfl,rfl,zax hus nn,by have:=sm.lg; rw [hul,sizeLine_eq]; omega,?_⟩⟩
    have g4:=h3.grow (H':=upd H3 n (.tup [V.str "write",.int (d:Int),.str a.key,.int ((s.book a.key).getD 0),.int a.val])) (Same.zaw nn)
    have kp4:zcw (upd H3 n (.tup [V.str "write",.int (d:Int),.str a.key,.int ((s.book a.key).getD 0),.int a.val])) (ad .rows) (upd (upd H3 n (.tup [V.str "write",.int (d:Int),.str a.key,.int ((s.book a.key).getD 0),.int a.val])) (ad .rows) (.lst (us++[.ref n]))):=λ b o e hb=>by rw [zaf hb]; exact e
    obtain ⟨h4,f4⟩:=g4.znx T.ok (row:=.write d a.key ((s.book a.key).getD 0) a.val) (zax hus nn) zab kp4 ⟨n,rfl,by rw [zaf (zah hus nn).symm,zab]; rfl⟩
    have hw4:=(Imm.zgm T.ok g4 (r:=.rows) trivial kp4).want _ _ _ (Same.zaw nn _ _ hw3)
    have f04:=(f03.trans (Frame.grow (Same.zaw nn))).trans f4
    have hl4:=kp4 _ _ (Same.zaw (o:=.tup [V.str "write",.int (d:Int),.str a.key,.int ((s.book a.key).getD 0),.int a.val]) nn _ _ hl) (g4.ne (r:=.zci) (r':=.rows) trivial trivial (by intro z; cases z))
    generalize upd (upd H3 n (.tup [V.str "write",.int (d:Int),.str a.key,.int ((s.book a.key).getD 0),.int a.val])) (ad .rows) (.lst (us++[.ref n]))=H4 at *
    obtain ⟨dx4,hp4⟩:=h4.hall
    have hll:l.length<=4:=Nat.le_trans (hb.len sm.snd sm.bs) sm.seen
    refine ⟨_,rfl,pw,_,dw,_,_,rfl,hw4,T.za4,T.zcG,hwv,_,rfl,_,_,dx4,_,_,rfl,hp4,T.zaj,T.zbc,rfl,_,rfl,pw,_,dw,_,_,rfl,hw4,T.za4,T.za7,rfl,_,_,rfl,DPut.k (k:=Sum.inr a.key) hl4 (by rw [zmt,sizeLine_eq]; omega),?_⟩
    rw [zms]
    have kp5:zcw H4 (ad .zci) (upd H4 (ad .zci) (.dK (bkV (bput l a.key a.val)))):=λ b o e hb=>by rw [zaf hb]; exact e
    obtain ⟨h5,f5⟩:=h4.zmY T.ok zab kp5 (hb.put a.key a.val)
    have hw5:=(Imm.zgm T.ok h4 (r:=.zci) trivial kp5).want _ _ _ hw4
    generalize upd H4 (ad .zci) (.dK (bkV (bput l a.key a.val)))=H5 at *
    obtain ⟨dr5,w5,hr5,_⟩:=h5.rcd hd
    obtain ⟨us5,hus5,_⟩:=h5.did hd
    refine ⟨_,rfl,_,_,dr5,_,_,rfl,hr5,T.zav,T.zbe,rfl,.inl ⟨rfl,_,SqL.of hus5⟩,_,rfl,pw,_,dw,_,_,rfl,hw5,T.za4,T.za7,rfl,_,rfl,pw,_,dw,_,_,rfl,hw5,T.za4,T.zcG,hwv,sz3,λ n5 nn5=>?_⟩
    obtain ⟨l6,xs6,y6,g1,g2,g3,g4',g5,g6⟩:=fin _ H5 a h5 (f04.trans f5) rfl dn3 us5 hus5 n5 nn5
    have ea:actV a=[V.str "write",.str a.key,.int a.val]:=by unfold actV; rw [hwr]; rfl
    rw [ea] at g3 g5 g6
    refine ⟨l6,xs6,y6,g1,g2,g3,g4',q _ ?_ g6⟩
    rw [ztD _ _ _ hwr]
    exact g5
   | false =>
    obtain ⟨dr5,w5,hr5⟩:=hr3
    obtain ⟨us5,hus5,_⟩:=h3.did hd
    refine ⟨_,rfl,_,_,dr5,_,_,rfl,hr5,T.zav,T.zbe,rfl,.inl ⟨rfl,_,SqL.of hus5⟩,_,rfl,pw,_,dw,_,_,rfl,hw3,T.za4,T.za7,rfl,_,rfl,sz3,λ n5 nn5=>?_⟩
    obtain ⟨l6,xs6,y6,g1,g2,g3,g4',g5,g6⟩:=fin _ H3 ⟨false,a.key,(s.book a.key).getD 0⟩ h3 f03 rfl dn3 us5 hus5 n5 nn5
    refine ⟨l6,xs6,y6,g1,g2,g3,g4',q _ ?_ g6⟩
    rw [ztE _ _ _ hwr]
    exact g5
theorem zgg (T:Txt K mg A F):FnOk P w K mg base (CX1 P w) 3 (F.f 20) (F.fd 20) ["self","deed"] (znG A):=by
 have G_Desk_next_waited_for:=@zdD P w K mg base A F T
 refine T.zg9.okN zdj (λ vs H Q E h=>?_) (λ cdv A' outer s H vs Q E hr h=>?_)
 . obtain ⟨ρ,ad,s,kv,d,rfl,_⟩:=h
   rfl
 . obtain ⟨ρ,ad,s,kv,d,rfl,hh,c,sm,hd,q⟩:=h
   have hu:=zei hr
   obtain ⟨dx,hp⟩:=hh.hall
   obtain ⟨dr,wv,hr1,hw⟩:=hh.rcd hd
   refine ⟨_,(zac (zaL (i:=2) zdj.nd rfl (by walk_at "loc") (zam (zbd zbi (zam (pv 0) rfl) (pv 1) (λ _ _=>rfl)) rfl))
     (zac (zbk (zfA (zrd (pv 2))) (zae (zar (zb7 zad))) zaF)
     (zae (zar (zat (zdB hu (zam (pv 0) rfl) (zam (pv 2) rfl) (λ _ _=>rfl)) T.zaU T.zdV G_Desk_next_waited_for (hmr hr) T.zdX .nil zaz (zaa (pv 1) (zaa (zam (pv 2) rfl) zad))))))),?_⟩
   refine ⟨_,rfl,_,_,dx,_,_,rfl,hp,T.zaj,T.zaB,rfl,_,rfl,_,_,_,_,rfl,rfl,SqL.of hh.recs,zbt (hh.zfz hd),_,_,dr,_,_,rfl,hr1,T.zav,T.za5,rfl,?_⟩
   refine ⟨_,rfl,_,rfl,?_⟩
   by_cases hst:(s.deed d).st=.waiting
   . obtain ⟨a,ha,hrow⟩:=c.wRow d (by simp) hst
     have hw0:wantOf (s.deed d)=some a:=by unfold wantOf; rw [if_pos hst,ha]
     rw [hw0] at hw
     obtain ⟨pw,dw,rfl,hpw⟩:=hw
     have hk:a.key∈s.seen:=zcH c hrow
     have D:=hh.desk hk
     obtain ⟨dd,hdk⟩:=D.ob
     refine zaJ rfl ?_
     refine ⟨_,rfl,_,_,dx,_,_,rfl,hp,T.zaj,T.zbr,rfl,_,rfl,pw,_,dw,_,_,rfl,hpw,T.za4,T.za7,rfl,_,_,rfl,hh.zfT hk,_,dd,_,rfl,hdk,rfl,_,rfl,_,rfl,pw,_,dw,_,_,rfl,hpw,T.za4,T.zbq,rfl,_,_,_,_,_,d,a.wr,rfl,D,sm.hl _,sm.hn _,sm.rl _,hrow,c.rNd _,λ H' n nf m e=>q H' n nf m ?_⟩
     rw [zkX hst ha]; exact e
   . have hw0:wantOf (s.deed d)=none:=by unfold wantOf; rw [if_neg hst]
     rw [hw0] at hw
     have hw:wv=.non:=hw
     subst hw
     refine zbl rfl ⟨Nat.le_of_ble_eq_true rfl,λ n hn=>q _ n hn (Same.zaw hn) ?_⟩
     rw [zab,zpb hst]; rfl
theorem zhI (T:Txt K mg A F):FnOk P w K mg base (CX1 P w) 4 (F.f 21) (F.fd 21) ["self","deed"] (zqi A):=by
 have G_Hall_next_from:=@zgg P w K mg base A F T
 refine T.ziO.okN zbD (λ vs H Q E h=>?_) (λ cdv A' outer s H vs Q E hr h=>?_)
 . obtain ⟨ρ,ad,s,kv,d,rfl,_⟩:=h
   rfl
 . obtain ⟨ρ,ad,s,kv,d,rfl,hh,c,sm,hd,q⟩:=h
   have hu:=zei hr
   refine ⟨_,(zac (zaL (i:=2) zbD.nd rfl (by walk_at "loc") zfE)
     (zac (zaL (i:=3) zbD.nd rfl (by walk_at "loc") (zb7 (zaa (pv 1) zad)))
     (zac (zhf PassesOwn.never (zaA zr3 (zbp zbn (by rfl) T.zk0 PySem.boot_len (zaa (pv 3) zad)) zal (zaD _)) (zac (zaL (i:=4) zbD.nd rfl (by walk_at "loc") (zrc PySem.F.plainAttrs_list PySem.F.slot_list_pop PySem.F.type_list_pop zri (pv 3)))
     (zae (zeH PassesOwn.never rfl (zdc (zat (pv 0) T.zaj T.zgX G_Hall_next_from (hmr hr) T.zg3 .nil zaz (zaa (pv 4) zad))) (za2 (i:=5) zbD.nd rfl (by walk_at "loc")) (zae (zbk (zfA (zhC hu (pv 5) (pv 2))) (zac (zhz hu (pv 2) (pv 5) zix rfl)
     (zae (zaG (zeb PySem.F.plainAttrs_list PySem.F.slot_list_append PySem.F.type_list_append zbv (pv 3) (zaa (pv 5) zad))))) zaF))))))
     (zae (zar (pv 2)))))),?_⟩
   intro pf nf
   refine ⟨_,rfl,Nat.le_of_ble_eq_true rfl,λ pl nl=>?_⟩
   have hfl:pf≠pl:=zah zab nl
   let Inv0:List Nat->List Nat->Hp->Prop:=λ fd lf H1=>Same H H1/\H1 pf=some (.dK (zch fd))/\H1 pl=some (.lst (zaR lf))/\fd.Nodup/\(∀ x∈fd,zc5 s d x)/\(∀ x∈lf,x=d\/x∈fd)/\lf.length<=fd.length+1
   have fdlt:∀ fd:List Nat,(∀ x∈fd,zc5 s d x)->∀ x∈fd,x < s.n:=λ fd h x hx=>by
     obtain ⟨z,hz,_⟩:=(h x hx).last
     exact zre c hz
   have fdlen:∀ fd:List Nat,fd.Nodup->(∀ x∈fd,zc5 s d x)->fd.length<=s.n:=λ fd nd h=>zfH _ _ nd (fdlt fd h)
   refine ⟨λ m σ H1=>∃ fd lf v4 v5,σ=[some (.ref (ad .hall)),some (.int d),some (.ref pf),some (.ref pl),v4,v5]/\Inv0 fd lf H1/\(∀ x,x=d\/x∈fd->x∈lf\/∀ y∈nxt s x,y∈fd)/\m=2 * (s.n - fd.length)+lf.length,⟨_,[],[d],none,none,rfl,⟨(Same.zaw nf).upd2 nl,?_,zab,List.nodup_nil,λ x hx=>(by cases hx),λ x hx=>.inl (List.mem_singleton.mp hx),by simp⟩,λ x hx=>.inl (by rcases hx with z | z; exact List.mem_singleton.mpr z; cases z),rfl⟩,?_⟩
   . rw [zaf hfl,zab]; rfl
   rintro m σ H1 ⟨fd,lf,v4,v5,rfl,⟨s1,hf,hl,nd,hre,hlf,hll⟩,hcl,rfl⟩
   refine ⟨_,rfl,pl,_,rfl,.inl (SqL.of hl),_,_,rfl,rfl,_,rfl,?_⟩
   rcases List.eq_nil_or_concat lf with hlf0 | ⟨init,x,hix⟩
   . subst hlf0
     refine zaJ rfl ?_
     refine ⟨_,rfl,q H1 pf fd s1 hf nd λ x=>⟨hre x,λ hx=>?_⟩⟩
     have step:∀ z,(z=d\/z∈fd)->∀ y∈nxt s z,y∈fd:=λ z hz=>(hcl z hz).resolve_left (λ k=>nomatch k)
     have:∀ a b,Path (λ a b=>b∈nxt s a) a b->(a=d\/a∈fd)->b∈fd:=λ a b p=>by
       induction p with
       | one h=>exact λ ha=>step _ ha _ h
       | step h _ ih=>exact λ ha=>ih (.inr (step _ ha _ h))
     exact this d x hx (.inl rfl)
   . have hix:lf=init++[x]:=by rw [hix]; simp
     subst hix
     have hx:=hlf x (by simp)
     have hxn:x < s.n:=hx.elim (λ z=>z ▸ hd) λ z=>fdlt fd hre x z
     refine zbl ?_ ?_
     . unfold zaR; simp
     refine ⟨λ σ' H'=>∃ fd' lf' v4 v5,σ'=[some (.ref (ad .hall)),some (.int d),some (.ref pf),some (.ref pl),v4,v5]/\Inv0 fd' lf' H'/\(∀ x,x=d\/x∈fd'->x∈lf'\/∀ y∈nxt s x,y∈fd')/\2 * (s.n - fd'.length)+lf'.length < 2 * (s.n - fd.length)+(init++[x]).length,λ σ' H' ⟨fd',lf',v4,v5,e,i,cl,lt⟩=>⟨_,lt,fd',lf',v4,v5,e,i,cl,rfl⟩,?_⟩
     have il:zaR (init++[x])=zaR init++[V.int (x:Int)]:=by unfold zaR; rw [List.map_append]; rfl
     have hlast:(zaR (init++[x]))[(zaR (init++[x])).length - 1]?=some (V.int (x:Int)):=by
       rw [il]; simp
     refine ⟨_,rfl,.inl ⟨rfl,_,SqL.of hl⟩,pl,_,_,rfl,rfl,hl,hlast,?_⟩
     have hdrop:(zaR (init++[x])).dropLast=zaR init:=by rw [il,List.dropLast_concat]
     rw [hdrop]
     have fpl:∀ b o,H b=some o->b≠pl:=λ b o e=>zah (Same.zaw nf b o e) nl
     have s2:Same H (upd H1 pl (.lst (zaR init))):=λ b o e=>by rw [zaf (fpl b o e)]; exact s1 b o e
     have hf2:upd H1 pl (.lst (zaR init)) pf=some (.dK (zch fd)):=by rw [zaf hfl]; exact hf
     obtain ⟨dx,hp⟩:=hh.hall
     refine ⟨_,rfl,_,dx,_,rfl,s2 _ _ hp,rfl,_,rfl,ρ,ad,s,kv,x,rfl,hh.grow s2,c,sm,hxn,λ H3 pn nf3 m3 hn=>⟨pn,rfl,⟨_,SqL.of hn⟩,?_⟩⟩
     have s3:Same H H3:=s2.trans m3
     have hf3:=m3 _ _ hf2
     have hl3:=m3 _ _ (zab (H:=H1) (a:=pl) (o:=.lst (zaR init)))
     have hnf:pn≠pf:=λ z=>by rw [z,hf2] at nf3; cases nf3
     have hnpl:pn≠pl:=λ z=>by rw [z,zab] at nf3; cases nf3
     have hxr:∀ y∈nxt s x,zc5 s d y:=λ y hy=>hx.elim (λ z=>z ▸ .one hy) λ z=>(hre x z).trans (.one hy)
     have Hpn:∀ b o,H b=some o->b≠pn:=λ b o e=>zah (s2 b o e) nf3
     have Hpf:∀ b o,H b=some o->b≠pf:=λ b o e=>zah e nf
     refine zeA (xs:=zaR (nxt s x)) (λ i σ' H'=>∃ new v5,σ'=[some (.ref (ad .hall)),some (.int d),some (.ref pf),some (.ref pl),some (V.int x),v5]/\Same H H'/\H' pn=some (.lst (zaR (nxt s x)))/\H' pf=some (.dK (zch (fd++new)))/\H' pl=some (.lst (zaR (init++new)))/\(fd++new).Nodup/\(∀ y∈new,y∈nxt s x)/\(∀ y∈(nxt s x).take i,y∈fd++new)) ⟨[],_,rfl,s3,hn,by rw [List.append_nil]; exact hf3,by rw [List.append_nil]; exact hl3,by rw [List.append_nil]; exact nd,(λ y hy=>by cases hy),(λ y hy=>by simp at hy)⟩ (λ i σ' H' _ ⟨_,_,_,_,e,_⟩=>SqL.of e) ?_ ?_
     . rintro i y σ' H' hy ⟨new,v5,rfl,s4,e1,e2,e3,e4,e5,e6⟩
       unfold zaR at hy
       rw [List.getElem?_map] at hy
       obtain ⟨y,hyy,rfl⟩:=Option.map_eq_some_iff.mp hy
       replace hy:=hyy
       have hy1:=List.mem_of_getElem? hy
       have et:(nxt s x).take (i+1)=(nxt s x).take i++[y]:=by rw [List.take_add_one,hy]; rfl
       have dg:=DGet.k (k:=Sum.inl (y:Int)) e2
       have ln:(fd++new).length<=s.n:=fdlen _ e4 λ z hz=>(List.mem_append.mp hz).elim (hre z) λ h=>hxr z (e5 z h)
       refine ⟨_,rfl,_,rfl,_,_,rfl,dg,_,rfl,?_⟩
       refine zeM (!decide (y∈fd++new)) (by rw [zfQ]) ?_
       by_cases hm:y∈fd++new
       . refine zaJ (by simp [hm]) ⟨new,_,rfl,s4,e1,e2,e3,e4,e5,?_⟩
         intro z hz
         rw [et] at hz
         rcases List.mem_append.mp hz with hz | hz
         . exact e6 z hz
         . rw [List.mem_singleton.mp hz]; exact hm
       . refine zbl (by simp [hm]) ?_
         refine ⟨_,rfl,_,rfl,_,_,rfl,DPut.k (k:=Sum.inl (y:Int)) e2 (by have:=sm.n; unfold zch; rw [List.length_map,sizeLine_eq]; omega),?_⟩
         rw [zpG hm]
         have e3':upd H' pf (.dK (zch (fd++new++[y]))) pl=some (.lst (zaR (init++new))):=by rw [zaf hfl.symm]; exact e3
         refine ⟨_,rfl,.inl ⟨rfl,_,SqL.of e3'⟩,_,rfl,_,_,_,rfl,rfl,e3',?_,?_⟩
         . have:=sm.n
           unfold zaR; rw [List.length_map,sizeLine_eq]
           simp only [List.length_append,List.length_cons,List.length_nil] at hll ln ⊢
           omega
         . refine ⟨new++[y],_,rfl,?_,?_,?_,?_,?_,?_,?_⟩
           . intro b o e
             rw [zaf (fpl b o e),zaf (Hpf b o e)]; exact s4 b o e
           . rw [zaf hnpl,zaf hnf]; exact e1
           . rw [zaf hfl,zab,List.append_assoc]
           . rw [zab]; unfold zaR; simp
           . rw [<-List.append_assoc]
             exact List.nodup_append.mpr ⟨e4,by simp,λ a ha b hb=>by rw [List.mem_singleton.mp hb]; exact λ z=>hm (z ▸ ha)⟩
           . intro z hz
             rcases List.mem_append.mp hz with hz | hz
             . exact e5 z hz
             . rw [List.mem_singleton.mp hz]; exact hy1
           . intro z hz
             rw [<-List.append_assoc]
             rw [et] at hz
             rcases List.mem_append.mp hz with hz | hz
             . exact List.mem_append_left _ (e6 z hz)
             . exact List.mem_append_right _ hz
     . rintro σ' H' ⟨new,v5,rfl,s4,e1,e2,e3,e4,e5,e6⟩
       have e6:∀ y∈nxt s x,y∈fd++new:=by
         have:(zaR (nxt s x)).length=(nxt s x).length:=by unfold zaR; rw [List.length_map]
         rw [this,List.take_length] at e6; exact e6
       have re2:∀ z∈fd++new,zc5 s d z:=λ z hz=>(List.mem_append.mp hz).elim (hre z) λ h=>hxr z (e5 z h)
       have ln:(fd++new).length<=s.n:=fdlen _ e4 re2
       refine ⟨fd++new,init++new,_,_,rfl,⟨s4,e2,e3,e4,re2,λ z hz=>?_,?_⟩,λ z hz=>?_,?_⟩
       . rcases List.mem_append.mp hz with hz | hz
         . exact (hlf z (List.mem_append_left _ hz)).imp_right λ h=>List.mem_append_left _ h
         . exact .inr (List.mem_append_right _ hz)
       . simp only [List.length_append,List.length_cons,List.length_nil] at hll ⊢
         omega
       . have key:(z=d\/z∈fd)->z∈init++new\/∀ y∈nxt s z,y∈fd++new:=λ hz=>by
           rcases hcl z hz with h | h
           . rcases List.mem_append.mp h with h | h
             . exact .inl (List.mem_append_left _ h)
             . rw [List.mem_singleton.mp h]; exact .inr e6
           . exact .inr λ y hy=>List.mem_append_left _ (h y hy)
         rcases hz with hz | hz
         . exact key (.inl hz)
         . rcases List.mem_append.mp hz with hz | hz
           . exact key (.inr hz)
           . exact .inl (List.mem_append_right _ hz)
       . simp only [List.length_append,List.length_cons,List.length_nil] at ln ⊢
         omega
theorem zpc {α β:Type} {f:α->β} (h:∀ a b,f a=f b->a=b) {l:List α} (nd:l.Nodup):(l.map f).Nodup:=by
 induction l with
 | nil=>simp
 | cons a r ih =>
  obtain ⟨n1,n2⟩:=List.nodup_cons.mp nd
  rw [List.map_cons]
  refine List.nodup_cons.mpr ⟨λ z=>?_,ih n2⟩
  obtain ⟨b,hb,e⟩:=List.mem_map.mp z
  exact n1 (h _ _ e ▸ hb)
theorem zlM {l:List Nat} {ys:List Key} (pm:ys.Perm (l.map λ (n:Nat)=>Sum.inl (n:Int))) (so:ys.Pairwise λ a b=>kLt a b=true) :
   ∃ L:List Nat,ys=L.map (λ (n:Nat)=>Sum.inl (n:Int))/\(∀ x,x∈L↔x∈l)/\L.Pairwise (· < ·):=by
 obtain ⟨L,rfl⟩:∃ L:List Nat,ys=L.map (λ (n:Nat)=>Sum.inl (n:Int)):=by
   have:∀ y∈ys,∃ n:Nat,y=Sum.inl (n:Int):=λ y hy=>by
     obtain ⟨n,_,e⟩:=List.mem_map.mp (pm.mem_iff.mp hy)
     exact ⟨n,e.symm⟩
   clear so pm
   induction ys with
   | nil=>exact ⟨[],rfl⟩
   | cons y r ih =>
     obtain ⟨n,rfl⟩:=this _ List.mem_cons_self
     obtain ⟨L,rfl⟩:=ih λ y hy=>this y (List.mem_cons_of_mem _ hy)
     exact ⟨n::L,rfl⟩
 refine ⟨L,rfl,λ x=>?_,?_⟩
 . have:=pm.mem_iff (a:=Sum.inl (x:Int))
   rw [List.mem_map,List.mem_map] at this
   constructor
   . intro h
     obtain ⟨y,hy,e⟩:=this.mp ⟨x,h,rfl⟩
     rw [zcQ.mp e] at hy; exact hy
   . intro h
     obtain ⟨y,hy,e⟩:=this.mpr ⟨x,h,rfl⟩
     rw [zcQ.mp e] at hy; exact hy
 . rw [List.pairwise_map] at so
   exact so.imp λ {a b} h=>by
     have:decide ((a:Int) < (b:Int))=true:=h
     have:=of_decide_eq_true this
     omega
theorem zkb {xs:List V} {x:V}:atI (xs++[x]) (-1)=some x:=by
 have e:ixN (xs++[x]).length (-1)=some xs.length:=by
  unfold ixN
  rw [List.length_append,List.length_singleton,if_neg (by omega),if_pos (by omega)]
  congr 1; omega
 unfold atI
 rw [e]; simp
theorem zcU (T:Txt K mg A F):FnOk P w K mg base (CX1 P w) 5 (F.f 22) (F.fd 22) ["self","deed"] (znJ A):=by
 have G_Hall_come_to:=@zhI P w K mg base A F T
 refine T.zdh.okN zba (λ vs H Q E h=>?_) (λ cdv A' outer s H vs Q E hr h=>?_)
 . obtain ⟨ρ,ad,s,kv,d,rfl,_⟩:=h
   rfl
 . obtain ⟨ρ,ad,s,kv,d,rfl,hh,c,hd0,th,sm,hd,q⟩:=h
   have hu:=zei hr
   obtain ⟨dx,hp⟩:=hh.hall
   have RG:=zju c th
   refine ⟨_,(zac (zaL (i:=2) zba.nd rfl (by walk_at "loc") (zat (pv 0) T.zaj T.zeK G_Hall_come_to (hmr hr) T.zeQ .nil zaz (zaa (pv 1) zad)))
     (zac (zbk (zfA (zhC hu (pv 1) (pv 2))) (zae (zar zfD)) zaF)
     (zac (zaL (i:=3) zba.nd rfl (by walk_at "loc") (zbp (zg0 rfl) (by rfl) T.znb boot_sorted (zaa (pv 2) zad)))
     (zac (zhf PassesOwn.never (zfA (zhC hu (pv 1) (zat (pv 0) T.zaj T.zeK G_Hall_come_to (hmr hr) T.zeQ .nil zaz (zaa (zbd zbi (pv 3) (zqu zmU zal) (λ _ _=>rfl)) zad)))) (zae (zaG (zrc PySem.F.plainAttrs_list PySem.F.slot_list_pop PySem.F.type_list_pop zri (pv 3)))))
     (zae (zar (zbd zbi (pv 3) (zqu zmU zal) (λ _ _=>rfl)))))))),?_⟩
   refine ⟨_,rfl,_,dx,_,rfl,hp,rfl,_,rfl,ρ,ad,s,kv,d,rfl,hh,c,sm,hd,λ H1 pf fd m1 hf nd hre=>?_⟩
   have dg:=DGet.k (k:=Sum.inl (d:Int)) hf
   refine ⟨_,rfl,_,rfl,_,_,rfl,dg,_,rfl,?_⟩
   refine zeM (!decide (d∈fd)) (by rw [zfQ]) ?_
   by_cases hm:d∈fd
   rotate_left
   . refine zbl (by simp [hm]) ?_
     have:=q H1 m1
     rw [RG.1 λ z=>hm ((hre d).mpr ((zdo c hd0).mpr z))] at this
     exact this
   refine zaJ (by simp [hm]) ?_
   have fl:∀ x∈fd,x < s.n:=λ x hx=>by
     obtain ⟨z,hz,_⟩:=((hre x).mp hx).last
     exact zre c hz
   have len:fd.length<=s.n:=zfH _ _ nd fl
   refine ⟨_,rfl,pf,_,rfl,.inr ⟨_,hf,rfl⟩,?_,?_,?_,λ ys pr pm so nr=>?_⟩
   . rw [show (zch fd).map (·.1)=fd.map λ (n:Nat)=>Sum.inl (n:Int) by unfold zch; rw [List.map_map]; rfl]
     exact zpc (λ a b z=>zcQ.mp z) nd
   . refine .inl λ k hk=>?_
     obtain ⟨y,hk2,rfl⟩:=List.mem_map.mp hk
     obtain ⟨x,_,e⟩:=List.mem_map.mp hk2
     exact ⟨_,by rw [<-e]⟩
   . have:=sm.n
     unfold zch; rw [List.length_map,List.length_map]; omega
   obtain ⟨L,rfl,hL,sL⟩:=zlM (l:=fd) (by rw [show (zch fd).map (·.1)=fd.map λ (n:Nat)=>Sum.inl (n:Int) by unfold zch; rw [List.map_map]; rfl] at pm; exact pm) so
   have eL:List.map kV (L.map λ (n:Nat)=>Sum.inl (n:Int))=zaR L:=by unfold zaR; rw [List.map_map]; rfl
   rw [eL]
   have hdd:zc5 s d d:=(hre d).mp hm
   have s1:Same H (upd H1 pr (.lst (zaR L))):=m1.upd2 nr
   have frm:∀ b o,H b=some o->b≠pr:=λ b o e=>zah (m1 b o e) nr
   refine ⟨λ m σ H2=>∃ pre rest,σ=[some (.ref (ad .hall)),some (.int d),some (.ref pf),some (.ref pr)]/\m=pre.length/\L=pre++rest/\d∈pre/\(∀ x∈rest,¬ zc5 s x d)/\Same H H2/\H2 pr=some (.lst (zaR pre)),⟨_,L,[],rfl,rfl,by simp,(hL d).mpr hm,(λ x hx=>by cases hx),s1,zab⟩,?_⟩
   rintro m σ H2 ⟨pre,rest,rfl,rfl,eq,hdp,hrest,s2,hr2⟩
   have hne:pre≠[]:=λ z=>by rw [z] at hdp; cases hdp
   obtain ⟨init,g,rfl⟩:∃ init g,pre=init++[g]:=⟨pre.dropLast,pre.getLast hne,(List.dropLast_concat_getLast hne).symm⟩
   have il:zaR (init++[g])=zaR init++[V.int (g:Int)]:=by unfold zaR; rw [List.map_append]; rfl
   have hat:atI (zaR (init++[g])) (-1)=some (V.int (g:Int)):=by
     rw [il]; exact zkb
   have hgL:g∈L:=by rw [eq]; simp
   have hgn:g < s.n:=fl g ((hL g).mp hgL)
   refine ⟨_,rfl,_,rfl,_,dx,_,rfl,s2 _ _ hp,rfl,_,rfl,_,rfl,_,_,_,_,rfl,rfl,SqL.of hr2,hat,ρ,ad,s,kv,g,rfl,hh.grow s2,c,sm,hgn,λ H3 pg gd m3 hg ndg hreg=>?_⟩
   have dg3:=DGet.k (k:=Sum.inl (d:Int)) hg
   refine ⟨_,_,rfl,dg3,_,rfl,?_⟩
   refine zeM (!decide (d∈gd)) (by rw [zfQ]) ?_
   have hr3:=m3 _ _ hr2
   have s3:=s2.trans m3
   by_cases hgd:d∈gd
   . refine zaJ (by simp [hgd]) ?_
     refine ⟨_,rfl,_,rfl,_,_,_,_,rfl,rfl,SqL.of hr3,hat,?_⟩
     have:=q H3 s3
     rw [RG.2 g ((zdo c hd0).mp ((hre g).mp ((hL g).mp hgL))) ((zdo c hd0).mp ((hreg d).mp hgd)) λ x h1 h2=>?_] at this
     . exact this
     . have hx:x∈L:=(hL x).mpr ((hre x).mpr ((zdo c hd0).mpr h1))
       rw [eq] at hx
       rcases List.mem_append.mp hx with hx | hx
       . rw [eq] at sL
         have sp:=(List.pairwise_append.mp sL).1
         rcases List.mem_append.mp hx with hx | hx
         . exact Nat.le_of_lt ((List.pairwise_append.mp sp).2.2 x hx g (by simp))
         . rw [List.mem_singleton.mp hx]; exact Nat.le_refl _
       . exact absurd ((zdo c hd0).mpr h2) (hrest x hx)
   . refine zbl (by simp [hgd]) ?_
     have hgd2:¬ zc5 s g d:=λ z=>hgd ((hreg d).mpr z)
     refine ⟨λ σ' H'=>∃ pre' rest',σ'=[some (.ref (ad .hall)),some (.int d),some (.ref pf),some (.ref pr)]/\pre'.length < (init++[g]).length/\L=pre'++rest'/\d∈pre'/\(∀ x∈rest',¬ zc5 s x d)/\Same H H'/\H' pr=some (.lst (zaR pre')),λ σ' H' ⟨pre',rest',e,lt,a1,a2,a3,a4,a5⟩=>⟨_,lt,pre',rest',e,rfl,a1,a2,a3,a4,a5⟩,?_⟩
     have hlast:(zaR (init++[g]))[(zaR (init++[g])).length - 1]?=some (V.int (g:Int)):=by
       rw [il]; simp
     refine ⟨_,rfl,.inl ⟨rfl,_,SqL.of hr3⟩,pr,_,_,rfl,rfl,hr3,hlast,?_⟩
     have hdrop:(zaR (init++[g])).dropLast=zaR init:=by rw [il,List.dropLast_concat]
     rw [hdrop]
     refine ⟨init,g::rest,rfl,by simp,by rw [eq]; simp,?_,?_,λ b o e=>by rw [zaf (frm b o e)]; exact s3 b o e,zab⟩
     . rcases List.mem_append.mp hdp with z | z
       . exact z
       . rw [<-List.mem_singleton.mp z] at hgd2; exact absurd hdd hgd2
     . intro x hx
       rcases List.mem_cons.mp hx with rfl | hx
       . exact hgd2
       . exact hrest x hx
theorem zkR (T:Txt K mg A F):FnOk P w K mg base (CX1 P w) 2 (F.f 24) (F.fd 24) ["self","deed"] (zsR A):=by
 have G_Record_written:=@zdl P w K mg base A F T
 refine T.zmM.okN zd2 (λ vs H Q E h=>?_) (λ cdv A' outer s H vs Q E hr h=>?_)
 . obtain ⟨ρ,ad,s,kv,d,rfl,_⟩:=h
   rfl
 . obtain ⟨ρ,ad,s,kv,d,rfl,hh,sm,hd,hks,q⟩:=h
   have hu:=zei hr
   obtain ⟨dx,hp⟩:=hh.hall
   obtain ⟨wv,ra,_⟩:=hh.recAt hd
   obtain ⟨dr,hrc⟩:=ra.ob
   refine ⟨_,(zae (zeH PassesOwn.never rfl (zdc (zb6 (zbd zbi (zam (pv 0) rfl) (pv 1) (λ _ _=>rfl)) T.zav T.zdK G_Record_written (hmr hr) T.zdQ .nil zaz)) (zoX (n:=2) rfl (zcp (za2 (i:=2) zd2.nd rfl (by walk_at "loc")) (zcp (za2 (i:=3) zd2.nd rfl (by walk_at "loc")) zjB))) (zae (zbk (zfA (zo0 hu (pv 2) (zam (pv 0) rfl))) (zae (zhz hu (zam (pv 0) rfl) (pv 2) (zdB hu (zam (pv 0) rfl) (pv 2) (λ _ _=>rfl)) rfl)) (zae (zaG (zm4 (zam (pv 0) rfl) (pv 2) zfD ⟨rfl,rfl,rfl,rfl⟩))))))),?_⟩
   refine ⟨_,rfl,_,_,dx,_,_,rfl,hp,T.zaj,T.zaB,rfl,_,rfl,_,_,_,_,rfl,rfl,SqL.of hh.recs,zbt (hh.zfz hd),_,dr,_,rfl,hrc,rfl,_,_,_,_,_,rfl,ra,by have:=sm.dn d; omega,λ H1 ql us m1 hq tu=>⟨ql,rfl,⟨_,SqL.of hq⟩,?_⟩⟩
   have hul:us.length=(zau (s.deed d).done).length:=by rw [tu.length,List.length_map]
   refine zeA (xs:=us) (λ i σ H2=>∃ v2 v3,σ=[some (.ref (ad .hall)),some (.int d),v2,v3]/\zai A ρ ad { s with book:=ub kv s.book (((zau (s.deed d).done).take i).map (·.1)) } kv H2/\Frame ρ H ρ H2/\H2 ql=some (.lst us)/\zap H2 us ((zau (s.deed d).done).map ziR)) ⟨_,_,rfl,hh.grow m1,Frame.grow m1,hq,tu⟩ (λ i σ H2 _ ⟨_,_,_,_,_,e,_⟩=>SqL.of e) ?_ ?_
   . rintro i x σ H2 hx ⟨v2,v3,rfl,h2,f2,hq2,t2⟩
     obtain ⟨y,hy1,r,rfl,hr1⟩:=zdu t2 hx
     rw [List.getElem?_map] at hy1
     obtain ⟨⟨k,v⟩,ha,rfl⟩:=Option.map_eq_some_iff.mp hy1
     have e1:(zau (s.deed d).done).take (i+1)=(zau (s.deed d).done).take i++[(k,v)]:=by rw [List.take_add_one,ha]; rfl
     obtain ⟨dx2,hp2⟩:=h2.hall
     obtain ⟨l,hl,hb⟩:=h2.zci
     have hb:zbj l (ub kv s.book (((zau (s.deed d).done).take i).map (·.1))):=hb
     obtain ⟨lk,hlk,hbk⟩:=h2.zcV
     have dg:=DGet.k (k:=Sum.inr k) hlk
     rw [hbk.val] at dg
     have hll:l.length<=4:=Nat.le_trans (hb.len sm.snd λ j hj=>by
      unfold ub at hj
      by_cases z:j∈((zau (s.deed d).done).take i).map (·.1)
      . rw [if_pos z] at hj; exact hks j hj
      . rw [if_neg z] at hj; exact sm.bs j hj) sm.seen
     have step:∀ (H3:Hp) (l3:List (Str×Int)),H3 (ad .zci)=some (.dK (bkV l3))->zcw H2 (ad .zci) H3->zbj l3 (up (ub kv s.book (((zau (s.deed d).done).take i).map (·.1))) k (kv k))->∃ v2 v3,[some (.ref (ad .hall)),some (.int d),some (V.str k),some (V.int v)]=[some (.ref (ad .hall)),some (.int (d:Int)),v2,v3]/\zai A ρ ad { s with book:=ub kv s.book (((zau (s.deed d).done).take (i+1)).map (·.1)) } kv H3/\Frame ρ H ρ H3/\H3 ql=some (.lst us)/\zap H3 us ((zau (s.deed d).done).map ziR):=λ H3 l3 e3 k3 b3=>by
      obtain ⟨h3,f3⟩:=h2.zmY T.ok e3 k3 b3
      refine ⟨_,_,rfl,?_,f2.trans f3,k3 _ _ hq2 (zbG hq2 hl (λ z=>nomatch z)),zap.mono (Imm.zgm T.ok h2 (r:=.zci) trivial k3) t2⟩
      rw [e1,List.map_append]
      rw [zry] at h3
      exact h3
     refine ⟨r,_,rfl,SqT.of hr1,rfl,_,_,rfl,_,_,rfl,rfl,?_⟩
     refine ⟨_,rfl,_,rfl,_,_,dx2,_,_,rfl,hp2,T.zaj,T.za8,rfl,_,_,rfl,dg,_,rfl,?_⟩
     cases hkv:kv k with
     | some u =>
      rw [hkv] at dg
      refine zbl rfl ?_
      refine ⟨_,rfl,_,_,dx2,_,_,rfl,hp2,T.zaj,T.za8,rfl,_,rfl,_,_,rfl,dg,_,rfl,_,_,dx2,_,_,rfl,hp2,T.zaj,T.zbc,rfl,_,rfl,_,_,rfl,DPut.k (k:=Sum.inr k) hl (by rw [zmt,sizeLine_eq]; omega),?_⟩
      rw [zms]
      refine step _ _ zab (λ b o e hb=>by rw [zaf hb]; exact e) ?_
      rw [hkv]
      exact hb.put k u
     | none =>
      refine zaJ rfl ?_
      refine ⟨_,rfl,_,_,dx2,_,_,rfl,hp2,T.zaj,T.zbc,rfl,_,rfl,.inl ⟨_,.of hl⟩,_,rfl,_,Sum.inr k,hl,rfl,λ v hv=>?_,λ hv=>?_⟩
      . rw [zq2]
        refine step _ _ zab (λ b o e hb=>by rw [zaf hb]; exact e) ?_
        rw [hkv]
        exact hb.drop k
      . refine step _ _ hl (λ b o e _=>e) ?_
        rw [hkv]
        refine hb.zpN ?_
        rw [hb.val] at hv
        simpa using hv
   . rintro σ H2 ⟨v2,v3,rfl,h2,f2,_⟩
     rw [hul,List.take_length,zor] at h2
     exact q H2 h2 f2
theorem ziC (T:Txt K mg A F):FnOk P w K mg base (CX1 P w) 4 (F.f 29) (F.fd 29) ["self","key"] (zrJ A):=by
 have G_Desk_lets_first:=@zfG P w K mg base A F T
 have G_Hall_carry_out:=@zdm P w K mg base A F T
 refine T.zkj.okN zc6 (λ vs H Q E h=>?_) (λ cdv A' outer s H vs Q E hr h=>?_)
 . obtain ⟨ρ,ad,s,kv,k,T,rfl,_⟩:=h
   rfl
 . obtain ⟨ρ,ad,s,kv,k,T0,rfl,hh,c,L,hk,q⟩:=h
   have hu:=zei hr
   obtain ⟨dx,hp⟩:=hh.hall
   refine ⟨_,(zac (zaL (i:=2) zc6.nd rfl (by walk_at "loc") (zdB hu (zam (pv 0) rfl) (pv 1) (λ _ _=>rfl)))
    (zae (zhf PassesOwn.never (zkG (zb6 (pv 2) T.zaU T.zgl G_Desk_lets_first (hmr hr) T.zgx .nil zaz)) (zac (zaL (i:=3) zc6.nd rfl (by walk_at "loc") (zeb PySem.F.plainAttrs_list PySem.F.slot_list_pop PySem.F.type_list_pop zqB (zam (pv 2) rfl) (zaa zal zad)))
    (zae (zaG (zat (pv 0) T.zaj T.zdL G_Hall_carry_out (hmr hr) T.zdR .nil zaz (zaa (zbd zca (pv 3) zal (λ _ _=>rfl)) (zaa (zam (zbd zbi (zam (pv 0) rfl) (zbd zca (pv 3) zal (λ _ _=>rfl)) (λ _ _=>rfl)) rfl) zad))))))))),?_⟩
   refine ⟨_,rfl,_,_,dx,_,_,rfl,hp,T.zaj,T.zbr,rfl,_,rfl,_,_,rfl,hh.zfT hk,?_⟩
   refine ⟨λ m σ H2=>∃ t v3,σ=[some (.ref (ad .hall)),some (.str k),some (.ref (ad (.desk k))),v3]/\m=(t.rows k).length/\zai A ρ ad t kv H2/\Frame ρ H ρ H2/\Core t none/\Lim t T0/\t.seen=s.seen/\zby (s.rows k).length s k=zby (t.rows k).length t k,⟨_,s,none,rfl,rfl,hh,.refl,c,L,rfl,rfl⟩,?_⟩
   rintro m σ H2 ⟨t,v3,rfl,rfl,h2,f2,c2,L2,es,eg⟩
   have hk2:k∈t.seen:=by rw [es]; exact hk
   have sm:=L2.sm c2
   have D:=h2.desk hk2
   obtain ⟨dd,hdk⟩:=D.ob
   refine ⟨_,rfl,_,dd,_,rfl,hdk,rfl,_,_,_,_,_,rfl,D,sm.hl k,sm.hn k,λ H3 m3=>?_⟩
   refine ⟨_,rfl,?_⟩
   cases hrw:t.rows k with
   | nil =>
    refine zaJ rfl (q H3 ?_ (f2.trans (Frame.grow m3)))
    rw [eg,zfO hrw]; exact h2.grow m3
   | cons pr r =>
    obtain ⟨d,w'⟩:=pr
    cases hlt:lets (t.held k) d w' with
    | false =>
     refine zaJ hlt (q H3 ?_ (f2.trans (Frame.grow m3)))
     rw [eg,zew hrw hlt]; exact h2.grow m3
    | true =>
     refine zbl hlt ?_
     have h3:=h2.grow m3
     have D3:=h3.desk hk2
     obtain ⟨us,hus,tus⟩:=D3.rw
     obtain ⟨dd3,hdk3⟩:=D3.ob
     rw [hrw] at tus
     obtain ⟨u0,us',rfl,⟨pp,rfl,hpp⟩,tus'⟩:∃ u0 us',us=u0::us'/\TupAt H3 u0 (zcn (d,w'))/\zap H3 us' (r.map zcn):=by
       cases tus with
       | cons a b=>exact ⟨_,_,rfl,a,b⟩
     have kp4:zcw H3 (ad (.row k)) (upd H3 (ad (.row k)) (.lst us')):=λ b o e hb=>by rw [zaf hb]; exact e
     have im4:=Imm.zgm T.ok h3 (r:=.row k) hk2 kp4
     obtain ⟨h4,f4⟩:=h3.zra T.ok hk2 (r:=r) zab kp4 (zap.mono im4 tus')
     have hpp4:=im4.tup _ _ hpp
     refine ⟨λ σ' H'=>∃ t' v3,σ'=[some (.ref (ad .hall)),some (.str k),some (.ref (ad (.desk k))),v3]/\(t'.rows k).length < ((d,w')::r).length/\zai A ρ ad t' kv H'/\Frame ρ H ρ H'/\Core t' none/\Lim t' T0/\t'.seen=s.seen/\zby (s.rows k).length s k=zby (t'.rows k).length t' k,λ σ' H' ⟨t',v3,e,lt,a1,a2,a3,a4,a5,a6⟩=>⟨_,lt,t',v3,e,rfl,a1,a2,a3,a4,a5,a6⟩,?_⟩
     refine ⟨_,rfl,_,_,dd3,_,_,rfl,hdk3,T.zaU,T.za3,rfl,.inl ⟨rfl,_,SqL.of hus⟩,ad (.row k),_,0,0,_,rfl,rfl,hus,by decide,by decide,(zpu (n:=(V.ref pp::us').length) (i:=0) (j:=0) (by unfold ixN; rw [if_pos (by decide),if_pos (by simp)]; rfl)).1,rfl,?_⟩
     show tSeq _ _ _ _ (upd H3 (ad (.row k)) (.lst us'))
     generalize upd H3 (ad (.row k)) (.lst us')=H4 at *
     have hm:(d,w')∈t.rows k:=by rw [hrw]; exact List.mem_cons_self
     obtain ⟨hst,a,ha,hak,haw⟩:=c2.rAct k _ hm
     have hdn:d < t.n:=c2.lt (.inr hst)
     obtain ⟨dr,wv,hr4,hw4⟩:=h4.rcd hdn
     obtain ⟨dx4,hp4⟩:=h4.hall
     have hwo:wantOf (t.deed d)=some a:=by
       have hst:(t.deed d).st=.waiting:=hst
       unfold wantOf; rw [if_pos hst]; exact ha
     have hw4:zcv A H4 wv (wantOf (t.deed d)):=hw4
     rw [hwo] at hw4
     have sm4:Sm { t with rows:=up t.rows k r }:=⟨sm.n,sm.seen,sm.snd,sm.dn,sm.lg,sm.kp,sm.hl,sm.hn,(λ j=>by
       show (up t.rows k r j).length<=1000
       by_cases z:j=k
       . subst z; rw [zag]; have:=sm.rl j; rw [hrw,List.length_cons] at this; omega
       . rw [zan z]; exact sm.rl j),sm.bs⟩
     refine ⟨_,rfl,_,dx4,_,rfl,hp4,rfl,_,rfl,pp,_,_,_,rfl,rfl,SqT.of hpp4,rfl,_,rfl,_,_,dx4,_,_,rfl,hp4,T.zaj,T.zaB,rfl,_,rfl,pp,_,_,_,rfl,rfl,SqT.of hpp4,rfl,_,_,_,_,rfl,rfl,SqL.of h4.recs,zbt (h4.zfz hdn),_,_,dr,_,_,rfl,hr4,T.zav,T.za5,rfl,ρ,ad,_,kv,d,wv,a,rfl,h4,sm4,hdn,by rw [hak]; exact hk2,hw4,λ H5 h5 f5=>?_⟩
     have hak:a.key=k:=hak
     have haw:a.wr=w':=haw
     rw [hak,haw,<-zn5 c2 hrw] at h5
     have e1:zby 1 t k=doIt (take { t with rows:=up t.rows k r } d k w') d a:=by
       rw [zex hrw hlt ha]; rfl
     rw [<-e1] at h5
     have er:(zby 1 t k).rows k=r:=by
       rw [e1,zcS]; exact zag
     obtain ⟨g1,g2⟩:=zn4 (k:=k) (f:=1) c2
     refine ⟨zby 1 t k,_,rfl,?_,h5,((f2.trans (Frame.grow m3)).trans f4).trans f5,c2.zby,⟨Ext.zby L2.e c2,L2.t,by rw [g2]; exact L2.n,by rw [g1]; exact L2.sn⟩,by rw [g1]; exact es,?_⟩
     . rw [er,List.length_cons]; omega
     . rw [eg,er,e1,hrw,List.length_cons,zex hrw hlt ha]
theorem zhG (T:Txt K mg A F):FnOk P w K mg base (CX1 P w) 5 (F.f 30) (F.fd 30) ["self","deed","state"] (zt2 A):=by
 have G_Record_touched_keys:=@zdU P w K mg base A F T
 have G_Desk_leave:=@zjM P w K mg base A F T
 have G_Hall_let_on:=@ziC P w K mg base A F T
 refine T.zon.okN zcN (λ vs H Q E h=>?_) (λ cdv A' outer s H vs Q E hr h=>?_)
 . obtain ⟨ρ,ad,s,s0,kv,d,st,T0,rfl,_⟩:=h
   rfl
 . obtain ⟨ρ,ad,s,s0,kv,d,st,T0,rfl,hh,c0,L0,hd0,e1,e2,e3,e4,e5,c1,L1,hst,hd,q⟩:=h
   have hu:=zei hr
   obtain ⟨dx,hp⟩:=hh.hall
   obtain ⟨wv,ra,hw⟩:=hh.recAt hd
   obtain ⟨dr,hrc⟩:=ra.ob
   have sm0:=L0.sm c0
   have ek:(s.deed d).done.map (·.key)++zcX (wantOf (s.deed d))=touched s0 d:=by rw [zgT]; unfold touched; rw [e1]
   have hts:∀ k∈touched s0 d,k∈s.seen:=λ k hk=>by rw [e4]; exact zd0 c0 L0.e k hk
   have hlen:(ordS (touched s0 d)).length<=4:=Nat.le_trans (zm7 _ s0.seen (zd0 c0 L0.e) L0.e.snd) L0.sn
   refine ⟨_,(zac (zaL (i:=3) zcN.nd rfl (by walk_at "loc") (zbd zbi (zam (pv 0) rfl) (pv 1) (λ _ _=>rfl)))
     (zac (zaL (i:=4) zcN.nd rfl (by walk_at "loc") (zb6 (pv 3) T.zav T.zee G_Record_touched_keys (hmr hr) T.zem .nil zaz))
     (zac (zbS (pv 3) (pv 2) rfl)
     (zac (zbS (pv 3) zfD rfl)
     (zac (zeH PassesOwn.never rfl (zm3 (pv 4)) (za2 (i:=5) zcN.nd rfl (by walk_at "loc")) (zae (zaG (zat (zdB hu (zam (pv 0) rfl) (pv 5) (λ _ _=>rfl)) T.zaU T.zk5 G_Desk_leave (hmr hr) T.zlA .nil zaz (zaa (pv 1) zad)))))
     (zae (zeH PassesOwn.never rfl (zm3 (pv 4)) (za2 (i:=5) zcN.nd rfl (by walk_at "loc")) (zae (zaG (zat (pv 0) T.zaj T.zjV G_Hall_let_on (hmr hr) T.zj8 .nil zaz (zaa (pv 5) zad))))))))))),?_⟩
   refine ⟨_,rfl,_,_,dx,_,_,rfl,hp,T.zaj,T.zaB,rfl,_,rfl,_,_,_,_,rfl,rfl,SqL.of hh.recs,zbt (hh.zfz hd),?_⟩
   refine ⟨_,rfl,_,dr,_,rfl,hrc,rfl,_,_,_,_,_,_,rfl,ra,hw,by have:=sm0.dn d; rw [e1]; omega,by rw [ek]; omega,λ H1 qt nq m1 hq=>?_⟩
   rw [ek] at hq
   have h1:=hh.grow m1
   refine ⟨_,rfl,_,rfl,_,_,dr,_,rfl,m1 _ _ hrc,T.zav,T.zay,Nat.le_of_ble_eq_true rfl,_,rfl,_,_,dr,_,rfl,zab,T.zav,T.za5,Nat.le_of_ble_eq_true rfl,?_⟩
   rw [zjj]
   have kp2:zcw H1 (ad (.rcd d)) (upd H1 (ad (.rcd d)) (.ins A.zaC dr (recF st (ad (.did d)) .non))):=λ b o e hb=>by rw [zaf hb]; exact e
   obtain ⟨h2,f2⟩:=h1.zoL (H':=upd H1 (ad (.rcd d)) (.ins A.zaC dr (recF st (ad (.did d)) .non))) T.ok hd (D:={ s.deed d with st:=st }) (w:=.non) zab kp2 (by unfold wantOf; rw [if_neg hst]; rfl) rfl
   have hq2:=(Imm.zgm T.ok h1 (r:=.rcd d) hd kp2).tup _ _ hq
   have f02:=(Frame.grow (ρ:=ρ) m1).trans f2
   have ro0:ρ qt=.other:=hh.fr _ nq
   show tSeq _ _ _ _ (upd H1 (ad (.rcd d)) (.ins A.zaC dr (recF st (ad (.did d)) .non)))
   generalize upd H1 (ad (.rcd d)) (.ins A.zaC dr (recF st (ad (.did d)) .non))=H2 at *
   have h2:zai A ρ ad (zft s d st) kv H2:=h2
   refine ⟨_,rfl,qt,rfl,⟨_,SqT.of hq2⟩,?_⟩
   refine zpH (xs:=(ordS (touched s0 d)).map V.str) (λ i σ H'=>∃ ρ' ad' v5,σ=[some (.ref (ad .hall)),some (.int d),some (.str (stS st)),some (.ref (ad (.rcd d))),some (.ref qt),v5]/\ad' Role.hall=ad .hall/\zai A ρ' ad' (((ordS (touched s0 d)).take i).foldl (λ s k=>zef s d k) (zft s d st)) kv H'/\Frame ρ H ρ' H'/\H' qt=some (.tup ((ordS (touched s0 d)).map V.str))/\ρ' qt=.other) ⟨ρ,ad,_,rfl,rfl,h2,f02,hq2,ro0⟩ (λ i σ H' _ ⟨_,_,_,_,_,_,_,e,_⟩=>SqT.of e) ?_ ?_
   . rintro i x σ H3 hx ⟨ρ3,ad3,v5,rfl,ea,h3,f3,hq3,ro3⟩
     rw [List.getElem?_map] at hx
     obtain ⟨k,hk,rfl⟩:=Option.map_eq_some_iff.mp hx
     have e6:(ordS (touched s0 d)).take (i+1)=(ordS (touched s0 d)).take i++[k]:=by rw [List.take_add_one,hk]; rfl
     have hks:k∈s.seen:=hts k (za0.mp (List.mem_of_getElem? hk))
     have hks3:k∈(((ordS (touched s0 d)).take i).foldl (λ s k=>zef s d k) (zft s d st)).seen:=by rw [zfh]; exact hks
     obtain ⟨dx3,hp3⟩:=h3.hall
     have D:=h3.desk hks3
     obtain ⟨dd,hdk⟩:=D.ob
     rw [<-ea]
     refine ⟨_,rfl,_,_,dx3,_,_,rfl,hp3,T.zaj,T.zbr,rfl,_,rfl,_,_,rfl,h3.zfT hks3,_,dd,_,rfl,hdk,rfl,_,rfl,_,_,_,dd,_,_,d,rfl,D,hdk,?_,λ H4 rw' us n0 a1 a2 a3 a4 a5=>?_⟩
     . rw [(zfK d _ _).2]
       show (if k∈(ordS (touched s0 d)).take i then less (s.rows k) d else s.rows k).length<=1000
       have:=sm0.rl k
       rw [e3]
       split
       . exact Nat.le_trans (List.length_filter_le _ _) this
       . exact this
     . obtain ⟨ρ4,ad4,ea4,h4,f4⟩:=h3.leave T.ok hks3 n0 a1 a2 a3 a4 a5
       refine ⟨ρ4,ad4,_,by rw [ea]; rfl,by rw [ea4],?_,f3.trans f4,(f4 _ _ hq3 ro3).1,(f4 _ _ hq3 ro3).2⟩
       rw [e6,List.foldl_append]; exact h4
   . rintro σ H3 ⟨ρ3,ad3,v5,rfl,ea,h3,f3,hq3,ro3⟩
     rw [List.length_map,List.take_length,zk9 λ k hk=>?_] at h3
     rotate_left
     . have:=zhK (d:=d) (k:=k) c0 L0.e λ z=>hk (za0.mpr z)
       show less (s.held k) d=s.held k/\less (s.rows k) d=s.rows k
       rw [e2,e3]; exact this
     have ef:free ordS (zft s d st) d=zaM (letGo (zft s d st) d) (ordS (touched s0 d)):=zlh ordS zqz c0 L0.e hd0 c1 e2 e3 e4
     refine ⟨_,rfl,qt,rfl,⟨_,SqT.of hq3⟩,?_⟩
     refine zpH (xs:=(ordS (touched s0 d)).map V.str) (λ i σ H'=>∃ v5,σ=[some (.ref (ad .hall)),some (.int d),some (.str (stS st)),some (.ref (ad (.rcd d))),some (.ref qt),v5]/\zai A ρ3 ad3 (zaM (letGo (zft s d st) d) ((ordS (touched s0 d)).take i)) kv H'/\Frame ρ H ρ3 H'/\H' qt=some (.tup ((ordS (touched s0 d)).map V.str))) ⟨_,rfl,h3,f3,hq3⟩ (λ i σ H' _ ⟨_,_,_,_,e⟩=>SqT.of e) ?_ ?_
     . rintro i x σ H4 hx ⟨v5,rfl,h4,f4,hq4⟩
       rw [List.getElem?_map] at hx
       obtain ⟨k,hk,rfl⟩:=Option.map_eq_some_iff.mp hx
       have e6:(ordS (touched s0 d)).take (i+1)=(ordS (touched s0 d)).take i++[k]:=by rw [List.take_add_one,hk]; rfl
       have hks:k∈s.seen:=hts k (za0.mp (List.mem_of_getElem? hk))
       obtain ⟨dx4,hp4⟩:=h4.hall
       have c4:Core (zaM (letGo (zft s d st) d) ((ordS (touched s0 d)).take i)) none:=Core.zaM c1
       have s4:=zdE ((ordS (touched s0 d)).take i) (letGo (zft s d st) d) c1
       have n4:=zj1 ((ordS (touched s0 d)).take i) (letGo (zft s d st) d) c1
       rw [<-ea]
       refine ⟨_,rfl,_,dx4,_,rfl,hp4,rfl,_,rfl,ρ3,ad3,_,kv,k,T0,rfl,h4,c4,⟨L1.e.zaM c1,L1.t,by rw [n4]; exact L1.n,by rw [s4]; exact L1.sn⟩,by rw [s4]; exact hks,λ H5 h5 f5=>⟨_,by rw [ea]; rfl,?_,f4.trans f5,(f5 _ _ hq4 ro3).1⟩⟩
       rw [e6,zi7]; exact h5
     . rintro σ H4 ⟨v5,rfl,h4,f4,hq4⟩
       rw [List.length_map,List.take_length,<-ef] at h4
       exact q H4 ρ3 ad3 ea h4 f4
theorem zgI (T:Txt K mg A F):FnOk P w K mg base (CX1 P w) 6 (F.f 31) (F.fd 31) ["self","deed"] (zsY A):=by
 have G_Hall_undo:=@zkR P w K mg base A F T
 have G_Hall_end:=@zhG P w K mg base A F T
 refine T.zmP.okN zkB (λ vs H Q E h=>?_) (λ cdv A' outer s H vs Q E hr h=>?_)
 . obtain ⟨ρ,ad,s,d,T0,rfl,_⟩:=h
   rfl
 . obtain ⟨ρ,ad,s,d,T0,rfl,hh,c,L,hd0,hact,q⟩:=h
   have hd:=c.lt hact
   have sm:=L.sm c
   obtain ⟨dx,hp⟩:=hh.hall
   obtain ⟨us,hus,tus⟩:=hh.rows
   have hul:us.length=s.log.length:=by rw [tus.length,List.length_map]
   refine ⟨_,(zac (zaG (zeb PySem.F.plainAttrs_list PySem.F.slot_list_append PySem.F.type_list_append zbv (zam (pv 0) rfl) (zaa (zbC (zaa (zcr rfl T.zpF) (zaa (pv 1) zad))) zad)))
     (zac (zaG (zat (pv 0) T.zaj T.zl8 G_Hall_undo (hmr hr) T.zmx .nil zaz (zaa (pv 1) zad)))
     (zae (zaG (zat (pv 0) T.zaj T.zi3 G_Hall_end (hmr hr) T.zjh .nil zaz (zaa (pv 1) (zaa (zcr rfl T.zgt) zad))))))),?_⟩
   refine ⟨_,rfl,_,_,dx,_,_,rfl,hp,T.zaj,T.zb1,rfl,.inl ⟨rfl,_,SqL.of hus⟩,_,rfl,sz2,λ n nn=>⟨ad .rows,_,_,rfl,rfl,zax hus nn,by have:=sm.lg; rw [hul,sizeLine_eq]; omega,?_⟩⟩
   have h3:=hh.grow (H':=upd H n (.tup [V.str "give up",V.int (d:Int)])) (Same.zaw nn)
   obtain ⟨h4,f4⟩:=h3.znx (H':=upd (upd H n (.tup [V.str "give up",V.int (d:Int)])) (ad .rows) (.lst (us++[.ref n]))) T.ok (row:=.drop d) (zax hus nn) zab (λ b o e hb=>by rw [zaf hb]; exact e) ⟨n,rfl,by rw [zaf (zah hus nn).symm,zab]; rfl⟩
   have f04:=(Frame.grow (ρ:=ρ) (Same.zaw (o:=.tup [V.str "give up",V.int (d:Int)]) nn)).trans f4
   show tSeq _ _ _ _ (upd (upd H n (.tup [V.str "give up",V.int (d:Int)])) (ad .rows) (.lst (us++[.ref n])))
   generalize upd (upd H n (.tup [V.str "give up",V.int (d:Int)])) (ad .rows) (.lst (us++[.ref n]))=H4 at *
   obtain ⟨dx4,hp4⟩:=h4.hall
   refine ⟨_,rfl,_,dx4,_,rfl,hp4,rfl,_,rfl,ρ,ad,_,zas s,d,rfl,h4,⟨sm.n,sm.seen,sm.snd,sm.dn,?_,sm.kp,sm.hl,sm.hn,sm.rl,sm.bs⟩,hd,L.e.zpm,λ H5 h5 f5=>?_⟩
   . show (s.log++[_]).length<=3000
     have:=L.e.lg; have:=L.t
     rw [List.length_append,List.length_singleton]; omega
   . obtain ⟨dx5,hp5⟩:=h5.hall
     refine ⟨_,rfl,_,dx5,_,rfl,hp5,rfl,_,rfl,ρ,ad,_,s,zas s,d,.dropped,T0,rfl,h5,c,L,hd0,rfl,rfl,rfl,rfl,rfl,c.drops hact,L.drops c hact,by decide,hd,λ H6 ρ6 ad6 ea6 h6 f6=>q H6 ρ6 ad6 ea6 h6 ((f04.trans f5).trans f6)⟩
theorem zkQ (T:Txt K mg A F):FnOk P w K mg base (CX1 P w) 7 (F.f 32) (F.fd 32) ["self","deed","want"] (zsQ A):=by
 have G_Desk_line_up:=@zhJ P w K mg base A F T
 have G_Hall_greatest_all_round:=@zcU P w K mg base A F T
 have G_Hall_drop:=@zgI P w K mg base A F T
 refine T.zmL.okN zcZ (λ vs H Q E h=>?_) (λ cdv A' outer s H vs Q E hr h=>?_)
 . obtain ⟨ρ,ad,s,d,a,wv,T0,rfl,_⟩:=h
   rfl
 . obtain ⟨ρ,ad,s,d,a,wv,T0,rfl,hh,hk,⟨pw,dw,rfl,hw⟩,hd,sm,c1,hh1,th1,L1,q⟩:=h
   have hu:=zei hr
   obtain ⟨dx,hp⟩:=hh.hall
   obtain ⟨dr,w0,hrc,_⟩:=hh.rcd hd
   refine ⟨_,(zac (zaL (i:=3) zcZ.nd rfl (by walk_at "loc") (zbd zbi (zam (pv 0) rfl) (pv 1) (λ _ _=>rfl)))
    (zac (zbS (pv 3) (zcr rfl T.zlf) rfl)
    (zac (zbS (pv 3) (pv 2) rfl)
    (zac (zaG (zat (zdB hu (zam (pv 0) rfl) (zam (pv 2) rfl) (λ _ _=>rfl)) T.zaU T.ziF G_Desk_line_up (hmr hr) T.ziK .nil zaz (zaa (pv 1) (zaa (zam (pv 2) rfl) zad))))
    (zac (zaL (i:=4) zcZ.nd rfl (by walk_at "loc") (zat (pv 0) T.zaj T.zbU G_Hall_greatest_all_round (hmr hr) T.zbV .nil zaz (zaa (pv 1) zad)))
    (zae (zhf PassesOwn.never (zfA (zoZ (pv 4))) (zac (zaG (zat (pv 0) T.zaj T.zhQ G_Hall_drop (hmr hr) T.zij .nil zaz (zaa (pv 4) zad)))
    (zae (zaL (i:=4) zcZ.nd rfl (by walk_at "loc") (zat (pv 0) T.zaj T.zbU G_Hall_greatest_all_round (hmr hr) T.zbV .nil zaz (zaa (pv 1) zad)))))))))))),?_⟩
   refine ⟨_,rfl,_,_,dx,_,_,rfl,hp,T.zaj,T.zaB,rfl,_,rfl,_,_,_,_,rfl,rfl,SqL.of hh.recs,zbt (hh.zfz hd),?_⟩
   refine ⟨_,rfl,_,_,dr,_,rfl,hrc,T.zav,T.zay,Nat.le_of_ble_eq_true rfl,_,rfl,_,rfl,_,_,dr,_,rfl,zab,T.zav,T.za5,Nat.le_of_ble_eq_true rfl,?_⟩
   rw [zjj]
   have kp2:zcw H (ad (.rcd d)) (upd H (ad (.rcd d)) (.ins A.zaC dr (recF .waiting (ad (.did d)) (.ref pw)))):=λ b o e hb=>by rw [zaf hb]; exact e
   have im2:=Imm.zgm T.ok hh (r:=.rcd d) hd kp2
   have hw2:=im2.want _ _ _ hw
   obtain ⟨h2,f2⟩:=hh.zoL (H':=upd H (ad (.rcd d)) (.ins A.zaC dr (recF .waiting (ad (.did d)) (.ref pw)))) T.ok hd (D:={ s.deed d with st:=.waiting,wish:=some a }) (w:=.ref pw) zab kp2 ⟨pw,dw,rfl,hw2⟩ rfl
   show tSeq _ _ _ _ (upd H (ad (.rcd d)) (.ins A.zaC dr (recF .waiting (ad (.did d)) (.ref pw))))
   generalize upd H (ad (.rcd d)) (.ins A.zaC dr (recF .waiting (ad (.did d)) (.ref pw)))=H2 at *
   obtain ⟨dx2,hp2⟩:=h2.hall
   have D:=h2.desk hk
   obtain ⟨dd,hdk⟩:=D.ob
   refine ⟨_,rfl,_,_,dx2,_,_,rfl,hp2,T.zaj,T.zbr,rfl,_,rfl,pw,_,dw,_,_,rfl,hw2,T.za4,T.za7,rfl,_,_,rfl,h2.zfT hk,_,dd,_,rfl,hdk,rfl,_,rfl,_,rfl,pw,_,dw,_,_,rfl,hw2,T.za4,T.zbq,rfl,_,_,_,_,_,d,a.wr,rfl,D,sm.rl _,λ H3 us a1 a2 a3=>?_⟩
   obtain ⟨h3,f3⟩:=h2.zra T.ok hk a1 a3 a2
   have h3:zai A ρ ad (wait s d a) (zas s) H3:=h3
   obtain ⟨dx3,hp3⟩:=h3.hall
   refine ⟨_,rfl,_,dx3,_,rfl,hp3,rfl,_,rfl,ρ,ad,_,zas s,d,rfl,h3,c1,hh1,th1,L1.sm c1,hd,λ H4 m4=>?_⟩
   refine ⟨λ m σ H'=>∃ t ρ' ad' f,σ=[some (.ref (ad .hall)),some (.int d),some (.ref pw),some (.ref (ad (.rcd d))),some (gotV (rings t).getLast?)]/\m=actN t/\ad' Role.hall=ad .hall/\zai A ρ' ad' t (zas s) H'/\Frame ρ H ρ' H'/\Core t none/\Head t/\Thru t d/\Lim t T0/\t.n=s.n/\zas t=zas s/\actN t<=f/\settle ordS s.n (wait s d a)=settle ordS f t,⟨_,wait s d a,ρ,ad,s.n,rfl,rfl,rfl,h3.grow m4,(f2.trans f3).trans (Frame.grow m4),c1,hh1,th1,L1,rfl,zi5,zp5 _,rfl⟩,?_⟩
   rintro m σ H5 ⟨t,ρ5,ad5,f,rfl,rfl,ea,h5,f5,c5,hd5,th5,L5,en,ek,hf,es⟩
   refine ⟨_,rfl,_,rfl,?_⟩
   cases hg:(rings t).getLast? with
   | none =>
    refine zaJ rfl (q H5 ρ5 ad5 ea ?_ f5)
    rw [es,zlP ordS hg]; exact h5
   | some g =>
    refine zbl rfl ?_
    have hga:(t.deed g).act:=.inr (zaT (zbR (List.mem_of_getLast? hg)).2)
    have lt:=zlB ordS c5 hga
    refine ⟨λ σ' H'=>∃ t' ρ' ad' f,σ'=[some (.ref (ad .hall)),some (.int d),some (.ref pw),some (.ref (ad (.rcd d))),some (gotV (rings t').getLast?)]/\actN t' < actN t/\ad' Role.hall=ad .hall/\zai A ρ' ad' t' (zas s) H'/\Frame ρ H ρ' H'/\Core t' none/\Head t'/\Thru t' d/\Lim t' T0/\t'.n=s.n/\zas t'=zas s/\actN t'<=f/\settle ordS s.n (wait s d a)=settle ordS f t',λ σ' H' ⟨t',ρ',ad',f,e,lt,r⟩=>⟨_,lt,t',ρ',ad',f,e,rfl,r⟩,?_⟩
    obtain ⟨dx5,hp5⟩:=h5.hall
    rw [<-ea]
    refine ⟨_,rfl,_,dx5,_,rfl,hp5,rfl,_,rfl,ρ5,ad5,t,g,T0,rfl,by rw [ek]; exact h5,c5,L5,hd5,hga,λ H6 ρ6 ad6 ea6 h6 f6=>?_⟩
    obtain ⟨dx6,hp6⟩:=h6.hall
    have c6:=c5.drop ordS hga
    have hd6:=Head.drop ordS (λ l k=>za0) c5 hga
    have th6:=th5.mono (znD ordS c5 hga)
    have L6:=L5.drop c5 hga
    have n6:(drop ordS t g).n=s.n:=by rw [zk1 ordS c5 hga]; exact en
    rw [<-ea6]
    refine ⟨_,rfl,_,dx6,_,rfl,hp6,rfl,_,rfl,ρ6,ad6,_,zas t,d,rfl,h6,c6,hd6,th6,L6.sm c6,by rw [n6]; exact hd,λ H7 m7=>?_⟩
    obtain ⟨f',rfl⟩:∃ f',f=f'+1:=⟨f - 1,by omega⟩
    refine ⟨drop ordS t g,ρ6,ad6,f',by rw [ea6,ea]; rfl,lt,by rw [ea6,ea],by rw [<-ek]; exact h6.grow m7,(f5.trans f6).trans (Frame.grow m7),c6,hd6,th6,L6,n6,by rw [zgn ordS c5 hga]; exact ek,by omega,?_⟩
    rw [es,zlO ordS hg]
theorem ziD (T:Txt K mg A F):FnOk P w K mg base (CX1 P w) 1 (F.f 33) (F.fd 33) ["self","deed","want"] (zqj A):=by
 refine T.zkk.okN zeF (λ vs H Q E h=>?_) (λ cdv A' outer s H vs Q E hr h=>?_)
 . obtain ⟨ρ,ad,s,kv,d,a,wv,rfl,_⟩:=h
   rfl
 . obtain ⟨ρ,ad,s,kv,d,a,wv,rfl,hh,⟨pw,dw,rfl,hw⟩,hd,did,q⟩:=h
   obtain ⟨dx,hp⟩:=hh.hall
   obtain ⟨dr,w0,hrc,_⟩:=hh.rcd hd
   obtain ⟨us,hus,tus⟩:=hh.did hd
   refine ⟨_,(zac (zaL (i:=3) zeF.nd rfl (by walk_at "loc") (zbd zbi (zam (pv 0) rfl) (pv 1) (λ _ _=>rfl)))
    (zac (zbk (zaA zb3 (zam (pv 3) rfl) (zcr rfl T.zgt) (zaD _)) (zae (zar (zbC (zaa zaV zad)))) zaF)
    (zac (zbk (zaA zb3 (zam (pv 3) rfl) (zcr rfl T.zlf) (zaD _)) (zae (zar (zbC (zaa zaV zad)))) zaF)
    (zac (zbk (zaA zb3 (zam (pv 2) rfl) (zcr rfl T.zcR) (zaD _)) (zae (zar (zbC (zaa zaV zad)))) zaF)
    (zae (zar (zbC (zaa zaV (zaa (zbd zca (zbd zbi (zam (pv 3) rfl) (zqu zmU zal) (λ _ _=>rfl)) zal (λ _ _=>rfl)) zad))))))))),?_⟩
   refine ⟨_,rfl,_,_,dx,_,_,rfl,hp,T.zaj,T.zaB,rfl,_,rfl,_,_,_,_,rfl,rfl,SqL.of hh.recs,zbt (hh.zfz hd),?_⟩
   refine ⟨_,rfl,_,_,dr,_,_,rfl,hrc,T.zav,T.zay,rfl,rfl,_,rfl,?_⟩
   have nst:∀ (a b:DS),stS a≠stS b->decide (V.str (stS a)=V.str (stS b))=false:=λ a b h=>decide_eq_false λ z=>h (V.str.inj z)
   cases hst:(s.deed d).st with
   | dropped =>
    refine zbl (decide_eq_true rfl) ⟨sz1,λ n nn=>q _ n nn (Same.zaw nn) ?_⟩
    rw [zab]; unfold ansV; rw [hst]
   | waiting =>
    refine zaJ (nst .waiting .dropped (by decide +kernel)) ⟨_,rfl,_,_,dr,_,_,rfl,hrc,T.zav,T.zay,rfl,rfl,_,rfl,?_⟩
    rw [hst]
    refine zbl (decide_eq_true rfl) ⟨sz1,λ n nn=>q _ n nn (Same.zaw nn) ?_⟩
    rw [zab]; unfold ansV; rw [hst]
   | zaq =>
    refine zaJ (nst .zaq .dropped (by decide +kernel)) ⟨_,rfl,_,_,dr,_,_,rfl,hrc,T.zav,T.zay,rfl,rfl,_,rfl,?_⟩
    rw [hst]
    refine zaJ (nst .zaq .waiting (by decide +kernel)) ⟨_,rfl,pw,_,dw,_,_,rfl,hw,T.za4,T.zbq,rfl,rfl,_,rfl,?_⟩
    refine zeM a.wr (zhj a.wr) ?_
    have ea:ansV (s.deed d) a.wr=if a.wr then [V.str "done"] else [V.str "value",.int (zma (s.deed d))]:=by unfold ansV; rw [hst]
    rw [ea] at q
    cases hwr:a.wr with
    | true =>
     rw [hwr] at q
     exact iteT ⟨sz1,λ n nn=>q _ n nn (Same.zaw nn) zab⟩
    | false =>
     rw [hwr] at q
     obtain ⟨init,b,eb⟩:∃ init b,(s.deed d).done=init++[b]:=by
      have hne:=did (.inl hst)
      exact ⟨_,_,(List.dropLast_concat_getLast hne).symm⟩
     have hul:us.length=init.length+1:=by rw [tus.length,List.length_map,eb]; simp
     obtain ⟨v,hv,pb,rfl,hpb⟩:=zdZ tus (i:=init.length) (y:=actV b) (by rw [eb]; simp)
     have hat:atI us (-1)=some (V.ref pb):=by
      obtain ⟨ys,y,rfl⟩:∃ ys y,us=ys++[y]:=⟨us.dropLast,us.getLast (by intro z; rw [z] at hul; simp at hul),(List.dropLast_concat_getLast _).symm⟩
      have hl:ys.length=init.length:=by simpa using hul
      rw [zkb]
      rw [<-hl] at hv
      simpa using hv
     have el:zma (s.deed d)=b.val:=by unfold zma; rw [eb]; simp
     refine iteF ⟨_,rfl,_,_,dr,_,_,rfl,hrc,T.zav,T.zbe,rfl,_,rfl,_,_,_,_,rfl,rfl,SqL.of hus,hat,pb,_,_,_,rfl,rfl,SqT.of hpb,rfl,sz2,λ n nn=>q _ n nn (Same.zaw nn) ?_⟩
     rw [zab,el]; rfl
   | kept =>
    refine zaJ (nst .kept .dropped (by decide +kernel)) ⟨_,rfl,_,_,dr,_,_,rfl,hrc,T.zav,T.zay,rfl,rfl,_,rfl,?_⟩
    rw [hst]
    refine zaJ (nst .kept .waiting (by decide +kernel)) ⟨_,rfl,pw,_,dw,_,_,rfl,hw,T.za4,T.zbq,rfl,rfl,_,rfl,?_⟩
    refine zeM a.wr (zhj a.wr) ?_
    have ea:ansV (s.deed d) a.wr=if a.wr then [V.str "done"] else [V.str "value",.int (zma (s.deed d))]:=by unfold ansV; rw [hst]
    rw [ea] at q
    cases hwr:a.wr with
    | true =>
     rw [hwr] at q
     exact iteT ⟨sz1,λ n nn=>q _ n nn (Same.zaw nn) zab⟩
    | false =>
     rw [hwr] at q
     obtain ⟨init,b,eb⟩:∃ init b,(s.deed d).done=init++[b]:=by
      have hne:=did (.inr hst)
      exact ⟨_,_,(List.dropLast_concat_getLast hne).symm⟩
     have hul:us.length=init.length+1:=by rw [tus.length,List.length_map,eb]; simp
     obtain ⟨v,hv,pb,rfl,hpb⟩:=zdZ tus (i:=init.length) (y:=actV b) (by rw [eb]; simp)
     have hat:atI us (-1)=some (V.ref pb):=by
      obtain ⟨ys,y,rfl⟩:∃ ys y,us=ys++[y]:=⟨us.dropLast,us.getLast (by intro z; rw [z] at hul; simp at hul),(List.dropLast_concat_getLast _).symm⟩
      have hl:ys.length=init.length:=by simpa using hul
      rw [zkb]
      rw [<-hl] at hv
      simpa using hv
     have el:zma (s.deed d)=b.val:=by unfold zma; rw [eb]; simp
     refine iteF ⟨_,rfl,_,_,dr,_,_,rfl,hrc,T.zav,T.zbe,rfl,_,rfl,_,_,_,_,rfl,rfl,SqL.of hus,hat,pb,_,_,_,rfl,rfl,SqT.of hpb,rfl,sz2,λ n nn=>q _ n nn (Same.zaw nn) ?_⟩
     rw [zab,el]; rfl
theorem zdC (T:Txt K mg A F):FnOk P w K mg base (CX1 P w) 8 (F.f 34) (F.fd 34) ["self","deed","want"] (zs1 A):=by
 have G_Desk_init:=@zkV P w K mg base A F T
 have G_Desk_lets_at_once:=@zeD P w K mg base A F T
 have G_Hall_carry_out:=@zdm P w K mg base A F T
 have G_Hall_wait:=@zkQ P w K mg base A F T
 have G_Hall_answer:=@ziD P w K mg base A F T
 refine T.zoo.okN zhs (λ vs H Q E h=>?_) (λ cdv A' outer s H vs Q E hr h=>?_)
 . obtain ⟨ρ,ad,s,d,a,pw,dw,T0,rfl,_⟩:=h
   rfl
 . obtain ⟨ρ,ad,s,d,a,pw,dw,T0,rfl,hh,R,ht,h4,hst,hw,row,q⟩:=h
   have hu:=zei hr
   obtain ⟨dx,hp⟩:=hh.hall
   refine ⟨_,(zac (zaL (i:=3) zhs.nd rfl (by walk_at "loc") (zqw (zam (pv 0) rfl) (zam (pv 2) rfl) (zjC T.zr9 G_Desk_init (hmr hr) rfl T.ztz T.zmA .nil zaz) ⟨rfl,rfl,rfl,rfl⟩))
     (zac (zbk (zkG (zat (pv 3) T.zaU T.zff G_Desk_lets_at_once (hmr hr) T.zfp .nil zaz (zaa (pv 1) (zaa (zam (pv 2) rfl) zad)))) (zae (zaG (zat (pv 0) T.zaj T.zdL G_Hall_carry_out (hmr hr) T.zdR .nil zaz (zaa (pv 1) (zaa (pv 2) zad))))) (zae (zaG (zat (pv 0) T.zaj T.zl7 G_Hall_wait (hmr hr) T.zmw .nil zaz (zaa (pv 1) (zaa (pv 2) zad))))))
     (zae (zar (zat (pv 0) T.zaj T.zjW G_Hall_answer (hmr hr) T.zj9 .nil zaz (zaa (pv 1) (zaa (pv 2) zad))))))),?_⟩
   refine ⟨_,rfl,_,_,dx,_,_,rfl,hp,T.zaj,T.zbr,rfl,ad .zbP,rfl,.inl ⟨_,.of hh.zbP⟩,_,rfl,pw,_,dw,_,_,rfl,hw,T.za4,T.za7,rfl,λ x dx2 nx ndx nex=>⟨x,dx2,rfl,zab,λ H1 hd rw nhd nrw e1 e2 e3 kp=>⟨rfl,?_⟩⟩⟩
   have s0:Same H (upd (upd H dx2 (.own x)) x (.ins A.zcf dx2 [])):=(Same.zaw ndx).upd2 (by rw [zaf nex.symm]; exact nx)
   have s1:Same H H1:=λ b o e=>kp b o (s0 b o e) (zah e nx)
   have hde:=s1 _ _ hh.zbP
   have ln:(zdO ad s.seen).length < sizeLine:=by have:=R.L.sn; unfold zdO; rw [List.length_map,sizeLine_eq]; omega
   refine ⟨_,Sum.inr a.key,hde,rfl,ln,λ v hv=>?_,λ hn=>?_⟩
   . rw [zel] at hv
     have hk:a.key∈s.seen:=by
      by_cases z:a.key∈s.seen
      . exact z
      . rw [if_neg z] at hv; cases hv
     rw [if_pos hk] at hv
     cases hv
     have es:see s a.key=s:=by unfold see; rw [if_pos hk]
     obtain ⟨H3,ρ3,ad3,eH,eρ,ea⟩:∃ H3 ρ3 ad3,H3=H1/\ρ3=ρ/\ad3=ad:=⟨_,_,_,rfl,rfl,rfl⟩
     have h3:zai A ρ3 ad3 (see s a.key) (zas s) H3:=by rw [es,eH,eρ,ea]; exact hh.grow s1
     have f03:Frame ρ H ρ3 H3:=by rw [eH,eρ]; exact Frame.grow s1
     have ea3:ad3 Role.hall=ad .hall:=by rw [ea]
     have edk:ad (.desk a.key)=ad3 (.desk a.key):=by rw [ea]
     rw [edk,<-eH]
     have hd:d < s.n:=R.c.lt (.inl hst)
     have sms:Sm (see s a.key):=Sm.see R h4 ht
     have hks:a.key∈(see s a.key).seen:=zco
     have hw3:H3 pw=_:=(f03 _ _ hw row).1
     have ro3:ρ3 pw=.other:=(f03 _ _ hw row).2
     have D:=h3.desk hks
     obtain ⟨dd,hdk⟩:=D.ob
     refine ⟨_,rfl,_,dd,_,rfl,hdk,rfl,_,rfl,_,rfl,pw,_,dw,_,_,rfl,hw3,T.za4,T.zbq,rfl,_,_,_,_,_,d,a.wr,rfl,D,sms.hl _,sms.hn _,λ H4 m4=>⟨_,rfl,?_⟩⟩
     have h4':=h3.grow m4
     have f04:=f03.trans (Frame.grow m4)
     have hw4:=m4 _ _ hw3
     obtain ⟨dx4,hp4⟩:=h4'.hall
     have wf:=zcJ (a:=a) R hst
     have wp:=zhi ordS (d:=d) (a:=a) R.c
     rw [<-ea3]
     cases hb:((has ((see s a.key).held a.key) d || ((see s a.key).rows a.key).isEmpty) && lets ((see s a.key).held a.key) d a.wr) with
     | true =>
      rw [hb,if_pos rfl] at wp
      rw [wp] at q wf
      refine iteT ⟨_,rfl,_,dx4,_,rfl,hp4,rfl,_,rfl,_,rfl,ρ3,ad3,_,zas s,d,.ref pw,a,rfl,h4',sms,hd,hks,⟨pw,dw,rfl,hw4⟩,λ H5 h5 f5=>?_⟩
      obtain ⟨dx5,hp5⟩:=h5.hall
      obtain ⟨hw5,ro5⟩:=f5 _ _ hw4 ro3
      refine ⟨_,rfl,_,dx5,_,rfl,hp5,rfl,_,rfl,_,rfl,ρ3,ad3,_,zas s,d,a,.ref pw,rfl,h5,⟨pw,dw,rfl,hw5⟩,by rw [wf.1]; exact hd,wf.2.2.2,λ H6 q6 n6 m6 e6=>q H6 ρ3 ad3 q6 ea3 (h5.grow m6) ((f04.trans f5).trans (Frame.grow m6)) e6 (h5.fr _ n6)⟩
     | false =>
      rw [hb,if_neg Bool.false_ne_true] at wp
      rw [wp] at q wf
      obtain ⟨c1,hh1,th1⟩:=zkc ordS (λ l k=>za0) R.c R.h R.a hst hb
      refine iteF ⟨_,rfl,_,dx4,_,rfl,hp4,rfl,_,rfl,_,rfl,ρ3,ad3,see s a.key,d,a,.ref pw,T0+1,rfl,h4',hks,⟨pw,dw,rfl,hw4⟩,hd,sms,c1,hh1,th1,Lim.wait R hst h4 ht,λ H5 ρ5 ad5 ea5 h5 f5=>?_⟩
      obtain ⟨dx5,hp5⟩:=h5.hall
      obtain ⟨hw5,ro5⟩:=f5 _ _ hw4 ro3
      rw [<-ea5]
      refine ⟨_,rfl,_,dx5,_,rfl,hp5,rfl,_,rfl,_,rfl,ρ5,ad5,_,zas s,d,a,.ref pw,rfl,h5,⟨pw,dw,rfl,hw5⟩,?_,?_,λ H6 q6 n6 m6 e6=>q H6 ρ5 ad5 q6 (by rw [ea5,ea3]) (h5.grow m6) ((f04.trans f5).trans (Frame.grow m6)) e6 (h5.fr _ n6)⟩
      . have:=wf.1; show d < (settle ordS s.n (wait (see s a.key) d a)).n; rw [this]; exact hd
      . exact wf.2.2.2
   . rw [zel] at hn
     have hk:a.key∉s.seen:=λ z=>by rw [if_pos z] at hn; cases hn
     have es:see s a.key={ s with seen:=s.seen++[a.key] }:=by unfold see; rw [if_neg hk]
     have epk:putK (zdO ad s.seen) (Sum.inr a.key) (V.ref x)=zdO ad s.seen++[(Sum.inr a.key,V.ref x)]:=zm1 _ (by rw [zel,if_neg hk])
     rw [epk]
     obtain ⟨g1,g2⟩:=R.c.zfu a.key hk
     have hxd:x≠ad .zbP:=(zah hh.zbP nx).symm
     have hhd:hd≠ad .zbP:=(zah (s0 _ _ hh.zbP) nhd).symm
     have hrd:rw≠ad .zbP:=(zah (s0 _ _ hh.zbP) nrw).symm
     obtain ⟨ρ3,ad3,ea3,h3,f03,edk⟩:=hh.zsv (H':=upd H1 (ad .zbP) (.dK (zdO ad s.seen++[(Sum.inr a.key,V.ref x)]))) T.ok (k:=a.key) hk g1 g2 (p:=x) (hd:=hd) (rw:=rw) (dx:=dx2) nx (s0.free nhd) (s0.free nrw) zab (by rw [zaf hxd]; exact e1) (by rw [zaf hhd]; exact e2) (by rw [zaf hrd]; exact e3) (λ b o e hb=>by rw [zaf hb]; exact s1 b o e)
     rw [<-es] at h3
     generalize upd H1 (ad .zbP) (.dK (zdO ad s.seen++[(Sum.inr a.key,V.ref x)]))=H3 at *
     rw [<-edk]
     have hd:d < s.n:=R.c.lt (.inl hst)
     have sms:Sm (see s a.key):=Sm.see R h4 ht
     have hks:a.key∈(see s a.key).seen:=zco
     have hw3:H3 pw=_:=(f03 _ _ hw row).1
     have ro3:ρ3 pw=.other:=(f03 _ _ hw row).2
     have D:=h3.desk hks
     obtain ⟨dd,hdk⟩:=D.ob
     refine ⟨_,rfl,_,dd,_,rfl,hdk,rfl,_,rfl,_,rfl,pw,_,dw,_,_,rfl,hw3,T.za4,T.zbq,rfl,_,_,_,_,_,d,a.wr,rfl,D,sms.hl _,sms.hn _,λ H4 m4=>⟨_,rfl,?_⟩⟩
     have h4':=h3.grow m4
     have f04:=f03.trans (Frame.grow m4)
     have hw4:=m4 _ _ hw3
     obtain ⟨dx4,hp4⟩:=h4'.hall
     have wf:=zcJ (a:=a) R hst
     have wp:=zhi ordS (d:=d) (a:=a) R.c
     rw [<-ea3]
     cases hb:((has ((see s a.key).held a.key) d || ((see s a.key).rows a.key).isEmpty) && lets ((see s a.key).held a.key) d a.wr) with
     | true =>
      rw [hb,if_pos rfl] at wp
      rw [wp] at q wf
      refine iteT ⟨_,rfl,_,dx4,_,rfl,hp4,rfl,_,rfl,_,rfl,ρ3,ad3,_,zas s,d,.ref pw,a,rfl,h4',sms,hd,hks,⟨pw,dw,rfl,hw4⟩,λ H5 h5 f5=>?_⟩
      obtain ⟨dx5,hp5⟩:=h5.hall
      obtain ⟨hw5,ro5⟩:=f5 _ _ hw4 ro3
      refine ⟨_,rfl,_,dx5,_,rfl,hp5,rfl,_,rfl,_,rfl,ρ3,ad3,_,zas s,d,a,.ref pw,rfl,h5,⟨pw,dw,rfl,hw5⟩,by rw [wf.1]; exact hd,wf.2.2.2,λ H6 q6 n6 m6 e6=>q H6 ρ3 ad3 q6 ea3 (h5.grow m6) ((f04.trans f5).trans (Frame.grow m6)) e6 (h5.fr _ n6)⟩
     | false =>
      rw [hb,if_neg Bool.false_ne_true] at wp
      rw [wp] at q wf
      obtain ⟨c1,hh1,th1⟩:=zkc ordS (λ l k=>za0) R.c R.h R.a hst hb
      refine iteF ⟨_,rfl,_,dx4,_,rfl,hp4,rfl,_,rfl,_,rfl,ρ3,ad3,see s a.key,d,a,.ref pw,T0+1,rfl,h4',hks,⟨pw,dw,rfl,hw4⟩,hd,sms,c1,hh1,th1,Lim.wait R hst h4 ht,λ H5 ρ5 ad5 ea5 h5 f5=>?_⟩
      obtain ⟨dx5,hp5⟩:=h5.hall
      obtain ⟨hw5,ro5⟩:=f5 _ _ hw4 ro3
      rw [<-ea5]
      refine ⟨_,rfl,_,dx5,_,rfl,hp5,rfl,_,rfl,_,rfl,ρ5,ad5,_,zas s,d,a,.ref pw,rfl,h5,⟨pw,dw,rfl,hw5⟩,?_,?_,λ H6 q6 n6 m6 e6=>q H6 ρ5 ad5 q6 (by rw [ea5,ea3]) (h5.grow m6) ((f04.trans f5).trans (Frame.grow m6)) e6 (h5.fr _ n6)⟩
      . have:=wf.1; show d < (settle ordS s.n (wait (see s a.key) d a)).n; rw [this]; exact hd
      . exact wf.2.2.2
theorem zkS (T:Txt K mg A F):FnOk P w K mg base (CX1 P w) 9 (F.f 36) (F.fd 36) ["self","deed","key"] (zsU A):=by
 have G_Hall_refuse_unless_going:=@zaH P w K mg base A F T
 have G_Want_init:=@zc1 P w K mg base A F T
 have G_Hall_ask:=@zdC P w K mg base A F T
 refine T.zir.okX zgE (λ vs H Q E h=>?_) (λ cdv A' outer s H vs Q E hr h=>?_)
 . obtain ⟨ρ,ad,s,i,k,T0,rfl,_⟩:=h
   rfl
 . obtain ⟨ρ,ad,s,i,k,T0,rfl,hh,R,ht,h4,q⟩:=h
   obtain ⟨dx,hp⟩:=hh.hall
   have hn:s.n<=1000:=by have:=R.L.n; omega
   refine ⟨_,(zac (zaG (zat (pv 0) T.zaj T.zaI G_Hall_refuse_unless_going (hmr hr) T.zaK .nil zaN (zaa (pv 1) zad)))
     (zae (zar (zat (pv 0) T.zaj T.zet G_Hall_ask (hmr hr) T.zeB .nil zaz (zaa (pv 1) (zaa (zjD T.zjR G_Want_init (hmr hr) rfl T.znl T.zdF .nil zaz (zaa (zcr rfl T.zlg) (zaa (pv 2) (zaa zfD zad)))) zad)))))),?_⟩
   refine ⟨_,rfl,_,dx,_,rfl,hp,rfl,_,rfl,ρ,ad,s,zas s,i,rfl,hh,hn,?_⟩
   rcases q with ⟨d,rfl,hd,⟨hg,q⟩ | ⟨hg,q⟩⟩ | q
   rotate_left
   . exact .inl ⟨d,rfl,hd,.inr ⟨hg,q⟩⟩
   . exact .inr q
   refine .inl ⟨d,rfl,hd,.inl ⟨hg,?_⟩⟩
   refine ⟨_,rfl,_,dx,_,rfl,hp,rfl,_,rfl,_,rfl,λ x dx2 nx ndx nex=>⟨x,dx2,false,k,.non,rfl,zab,λ H1 e1 kp=>⟨rfl,?_⟩⟩⟩
   have s0:Same H (upd (upd H dx2 (.own x)) x (.ins A.zdW dx2 [])):=(Same.zaw ndx).upd2 (by rw [zaf nex.symm]; exact nx)
   have s1:Same H H1:=λ b o e=>kp b o (s0 b o e) (zah e nx)
   exact ⟨ρ,ad,s,d,⟨false,k,0⟩,x,dx2,T0,rfl,hh.grow s1,R,ht,h4,hg,e1,hh.fr _ nx,λ H' ρ' ad' q' a1 a2 a3 a4 a5=>q H' ρ' ad' q' a1 a2 ((Frame.grow s1).trans a3) a4 a5⟩
theorem zjI (T:Txt K mg A F):FnOk P w K mg base (CX1 P w) 9 (F.f 37) (F.fd 37) ["self","deed","key","value"] (zrF A):=by
 have G_Hall_refuse_unless_going:=@zaH P w K mg base A F T
 have G_Want_init:=@zc1 P w K mg base A F T
 have G_Hall_ask:=@zdC P w K mg base A F T
 refine T.zgS.okX zfv (λ vs H Q E h=>?_) (λ cdv A' outer s H vs Q E hr h=>?_)
 . obtain ⟨ρ,ad,s,i,k,v,T0,rfl,_⟩:=h
   rfl
 . obtain ⟨ρ,ad,s,i,k,v,T0,rfl,hh,R,ht,h4,q⟩:=h
   obtain ⟨dx,hp⟩:=hh.hall
   have hn:s.n<=1000:=by have:=R.L.n; omega
   refine ⟨_,(zac (zaG (zat (pv 0) T.zaj T.zaI G_Hall_refuse_unless_going (hmr hr) T.zaK .nil zaN (zaa (pv 1) zad)))
     (zae (zar (zat (pv 0) T.zaj T.zet G_Hall_ask (hmr hr) T.zeB .nil zaz (zaa (pv 1) (zaa (zjD T.zjR G_Want_init (hmr hr) rfl T.znl T.zdF .nil zaz (zaa (zcr rfl T.zcR) (zaa (pv 2) (zaa (pv 3) zad)))) zad)))))),?_⟩
   refine ⟨_,rfl,_,dx,_,rfl,hp,rfl,_,rfl,ρ,ad,s,zas s,i,rfl,hh,hn,?_⟩
   rcases q with ⟨d,rfl,hd,⟨hg,q⟩ | ⟨hg,q⟩⟩ | q
   rotate_left
   . exact .inl ⟨d,rfl,hd,.inr ⟨hg,q⟩⟩
   . exact .inr q
   refine .inl ⟨d,rfl,hd,.inl ⟨hg,?_⟩⟩
   refine ⟨_,rfl,_,dx,_,rfl,hp,rfl,_,rfl,_,rfl,_,rfl,λ x dx2 nx ndx nex=>⟨x,dx2,true,k,.int v,rfl,zab,λ H1 e1 kp=>⟨rfl,?_⟩⟩⟩
   have s0:Same H (upd (upd H dx2 (.own x)) x (.ins A.zdW dx2 [])):=(Same.zaw ndx).upd2 (by rw [zaf nex.symm]; exact nx)
   have s1:Same H H1:=λ b o e=>kp b o (s0 b o e) (zah e nx)
   exact ⟨ρ,ad,s,d,⟨true,k,v⟩,x,dx2,T0,rfl,hh.grow s1,R,ht,h4,hg,e1,hh.fr _ nx,λ H' ρ' ad' q' a1 a2 a3 a4 a5=>q H' ρ' ad' q' a1 a2 ((Frame.grow s1).trans a3) a4 a5⟩
theorem zed (T:Txt K mg A F):FnOk P w K mg base (CX1 P w) 7 (F.f 40) (F.fd 40) ["self","deed"] (zqg A):=by
 have G_Hall_record_of:=@zbh P w K mg base A F T
 have G_Record_is_at_end:=@zfd P w K mg base A F T
 have G_Hall_drop:=@zgI P w K mg base A F T
 refine T.ziM.okX zhq (λ vs H Q E h=>?_) (λ cdv A' outer s H vs Q E hr h=>?_)
 . obtain ⟨ρ,ad,s,i,T0,rfl,_⟩:=h
   rfl
 . obtain ⟨ρ,ad,s,i,T0,rfl,hh,R,q⟩:=h
   obtain ⟨dx,hp⟩:=hh.hall
   have hn:s.n<=1000:=by have:=R.L.n; omega
   refine ⟨_,(zac (zbk (zkG (zb6 (zat (pv 0) T.zaj T.zbx G_Hall_record_of (hmr hr) T.zbz .nil zaN (zaa (pv 1) zad)) T.zav T.zfI G_Record_is_at_end (hmr hr) T.zfY .nil zaz)) (zae (zjx zhx rfl rfl T.zez T.ziQ PySem.F.excBase_ValueError (zaa zaV zad))) zaF)
     (zae (zaG (zat (pv 0) T.zaj T.zhQ G_Hall_drop (hmr hr) T.zij .nil zaz (zaa (pv 1) zad))))),?_⟩
   refine ⟨_,rfl,_,dx,_,rfl,hp,rfl,_,rfl,ρ,ad,s,zas s,i,rfl,hh,hn,?_⟩
   rcases q with ⟨d,rfl,hd,q⟩ | q
   rotate_left
   . exact .inr q
   obtain ⟨dr,w0,hrc,_⟩:=hh.rcd hd
   refine .inl ⟨d,rfl,hd,_,dr,_,rfl,hrc,rfl,_,dr,_,_,_,rfl,hrc,_,rfl,?_⟩
   rcases q with ⟨ha,q⟩ | ⟨ha,q⟩
   . refine zaJ (decide_eq_false λ z=>?_) ⟨_,rfl,_,dx,_,rfl,hp,rfl,_,rfl,ρ,ad,s,d,T0,rfl,hh,R.c,R.L,R.h,ha,λ H' ρ' ad' a1 a2 a3=>q H' ρ' ad' a1 (by rw [zgn ordS R.c ha]; exact a2) a3⟩
     rcases ha with ha | ha <;> rw [ha] at z <;> rcases z with z | z <;> cases z
   . refine zbl (decide_eq_true ?_) ⟨Nat.le_of_ble_eq_true rfl,q⟩
     cases e:(s.deed d).st with
     | zaq=>exact absurd (.inl e) ha
     | waiting=>exact absurd (.inr e) ha
     | kept=>exact .inl rfl
     | dropped=>exact .inr rfl
theorem zgh (T:Txt K mg A F):FnOk P w K mg base (CX1 P w) 3 (F.f 46) (F.fd 46) ["self"] (znH A):=by
 have G_rising_pairs:=@zec P w K mg base A F T
 refine T.zha.okN zf5 (λ vs H Q E h=>?_) (λ cdv A' outer s H vs Q E hr h=>?_)
 . obtain ⟨ρ,ad,s,kv,rfl,_⟩:=h
   rfl
 . obtain ⟨ρ,ad,s,kv,rfl,hh,h4,nd,hk,q⟩:=h
   obtain ⟨dx,hp⟩:=hh.hall
   obtain ⟨l,hl,hb⟩:=hh.zcV
   refine ⟨_,(zae (zar (zaE G_rising_pairs (hmr hr) rfl T.zeN T.zeL T.zeO .nil zaz (zaa (zam (pv 0) rfl) zad)))),?_⟩
   refine ⟨_,rfl,_,_,dx,_,_,rfl,hp,T.zaj,T.za8,rfl,_,l,kv,rfl,hl,hb,Nat.le_trans (hb.len nd hk) h4,λ H' q' us m e t=>q H' q' us (l.map (·.1)) m e (λ k=>?_) t⟩
   constructor
   . intro h
     obtain ⟨p,hp,rfl⟩:=List.mem_map.mp h
     rw [(hb.mem p.1 p.2).mp hp]; exact λ z=>nomatch z
   . intro h
     cases e:kv k with
     | none=>exact absurd e h
     | some v=>exact List.mem_map.mpr ⟨(k,v),(hb.mem k v).mpr e,rfl⟩
theorem zjK (T:Txt K mg A F):FnOk P w K mg base (CX1 P w) 1 (F.f 47) (F.fd 47) ["self"] (zrI A):=by
 refine T.zlE.okN zjs (λ vs H Q E h=>?_) (λ cdv A' outer s H vs Q E hr h=>?_)
 . obtain ⟨ρ,ad,s,kv,rfl,_⟩:=h
   rfl
 . obtain ⟨ρ,ad,s,kv,rfl,hh,hl,q⟩:=h
   obtain ⟨dx,hp⟩:=hh.hall
   refine ⟨_,(zae (zar (zbT zce (by rfl) T.zhL boot_tuple (zaa (zam (pv 0) rfl) zad)))),?_⟩
   refine ⟨_,rfl,_,_,dx,_,_,rfl,hp,T.zaj,T.zb9,rfl,ad .order,_,rfl,.inl ⟨SqL.of hh.order,λ n nn=>q _ n (Same.zaw nn) zab⟩⟩
theorem zhH (T:Txt K mg A F):FnOk P w K mg base (CX1 P w) 3 (F.f 51) (F.fd 51) ["self","deed"] (zqh A):=by
 have G_Hall_record_of:=@zbh P w K mg base A F T
 refine T.ziN.okX zhr (λ vs H Q E h=>?_) (λ cdv A' outer s H vs Q E hr h=>?_)
 . obtain ⟨ρ,ad,s,kv,i,rfl,_⟩:=h
   rfl
 . obtain ⟨ρ,ad,s,kv,i,rfl,hh,hn,hl,q⟩:=h
   obtain ⟨dx,hp⟩:=hh.hall
   refine ⟨_,(zae (zar (zbT zce (by rfl) T.zhL boot_tuple (zaa (zam (zat (pv 0) T.zaj T.zbx G_Hall_record_of (hmr hr) T.zbz .nil zaN (zaa (pv 1) zad)) rfl) zad)))),?_⟩
   refine ⟨_,rfl,_,dx,_,rfl,hp,rfl,_,rfl,ρ,ad,s,kv,i,rfl,hh,hn,?_⟩
   rcases q with ⟨d,rfl,hd,q⟩ | q
   rotate_left
   . exact .inr q
   obtain ⟨dr,w0,hrc,_⟩:=hh.rcd hd
   obtain ⟨us,hus,tus⟩:=hh.did hd
   exact .inl ⟨d,rfl,hd,_,_,dr,_,_,rfl,hrc,T.zav,T.zbe,rfl,ad (.did d),_,rfl,.inl ⟨SqL.of hus,λ n nn=>q _ n us (Same.zaw nn) zab (zbu (Same.zaw nn) tus)⟩⟩
theorem zgH (T:Txt K mg A F):FnOk P w K mg base (CX1 P w) 6 (F.f 38) (F.fd 38) ["self","deed"] (zsX A):=by
 have G_Hall_refuse_unless_going:=@zaH P w K mg base A F T
 have G_Record_written:=@zdl P w K mg base A F T
 have G_Hall_end:=@zhG P w K mg base A F T
 refine T.zmN.okX zd3 (λ vs H Q E h=>?_) (λ cdv A' outer s H vs Q E hr h=>?_)
 . obtain ⟨ρ,ad,s,i,T0,rfl,_⟩:=h
   rfl
 . obtain ⟨ρ,ad,s,i,T0,rfl,hh,R,q⟩:=h
   have hu:=zei hr
   obtain ⟨dx,hp⟩:=hh.hall
   have hn:s.n<=1000:=by have:=R.L.n; omega
   have sm:=R.L.sm R.c
   obtain ⟨us,hus,tus⟩:=hh.rows
   have hul:us.length=s.log.length:=by rw [tus.length,List.length_map]
   refine ⟨_,(zac (zaG (zat (pv 0) T.zaj T.zaI G_Hall_refuse_unless_going (hmr hr) T.zaK .nil zaN (zaa (pv 1) zad)))
     (zac (zaG (zeb PySem.F.plainAttrs_list PySem.F.slot_list_append PySem.F.type_list_append zbv (zam (pv 0) rfl) (zaa (zbC (zaa (zcr rfl T.ztx) (zaa (pv 1) zad))) zad)))
     (zac (zaG (zeb PySem.F.plainAttrs_list PySem.F.slot_list_append PySem.F.type_list_append zbv (zam (pv 0) rfl) (zaa (pv 1) zad)))
     (zac (PS.nox (zeH PassesOwn.never rfl (zdc (zb6 (zbd zbi (zam (pv 0) rfl) (pv 1) (λ _ _=>rfl)) T.zav T.zdK G_Record_written (hmr hr) T.zdQ .nil zaz)) (zoX (n:=2) rfl (zcp (za2 (i:=2) zd3.nd rfl (by walk_at "loc")) (zcp (za2 (i:=3) zd3.nd rfl (by walk_at "loc")) zjB))) (zae (zhz hu (zam (pv 0) rfl) (pv 2) (pv 3) rfl))))
     (zae (zaG (zat (pv 0) T.zaj T.zi3 G_Hall_end (hmr hr) T.zjh .nil zaz (zaa (pv 1) (zaa (zcr rfl T.zrp) zad))))))))),?_⟩
   refine ⟨_,rfl,_,dx,_,rfl,hp,rfl,_,rfl,ρ,ad,s,zas s,i,rfl,hh,hn,?_⟩
   rcases q with ⟨d,rfl,hd,⟨hg,q⟩ | ⟨hg,q⟩⟩ | q
   rotate_left
   . exact .inl ⟨d,rfl,hd,.inr ⟨hg,q⟩⟩
   . exact .inr q
   refine .inl ⟨d,rfl,hd,.inl ⟨hg,?_⟩⟩
   have hact:(s.deed d).act:=.inl hg
   refine ⟨_,rfl,_,_,dx,_,_,rfl,hp,T.zaj,T.zb1,rfl,.inl ⟨rfl,_,SqL.of hus⟩,_,rfl,sz2,λ n nn=>⟨ad .rows,_,_,rfl,rfl,zax hus nn,by have:=sm.lg; rw [hul,sizeLine_eq]; omega,?_⟩⟩
   have h3:=hh.grow (H':=upd H n (.tup [V.str "keep",V.int (d:Int)])) (Same.zaw nn)
   obtain ⟨h4,f4⟩:=h3.znx (H':=upd (upd H n (.tup [V.str "keep",V.int (d:Int)])) (ad .rows) (.lst (us++[.ref n]))) T.ok (row:=.keep d) (zax hus nn) zab (λ b o e hb=>by rw [zaf hb]; exact e) ⟨n,rfl,by rw [zaf (zah hus nn).symm,zab]; rfl⟩
   have f04:=(Frame.grow (ρ:=ρ) (Same.zaw (o:=.tup [V.str "keep",V.int (d:Int)]) nn)).trans f4
   show tSeq _ _ _ _ (upd (upd H n (.tup [V.str "keep",V.int (d:Int)])) (ad .rows) (.lst (us++[.ref n])))
   generalize upd (upd H n (.tup [V.str "keep",V.int (d:Int)])) (ad .rows) (.lst (us++[.ref n]))=H4 at *
   obtain ⟨dx4,hp4⟩:=h4.hall
   have ho4:H4 (ad .order)=some (.lst (zaR s.kept)):=h4.order
   have hlk:(zaR s.kept).length<=1000:=by unfold zaR; rw [List.length_map]; exact sm.kp
   refine ⟨_,rfl,_,_,dx4,_,_,rfl,hp4,T.zaj,T.zb9,rfl,.inl ⟨rfl,_,SqL.of ho4⟩,_,rfl,ad .order,_,_,rfl,rfl,ho4,by rw [sizeLine_eq]; omega,?_⟩
   obtain ⟨h5,f5⟩:=h4.zq6 (H':=upd H4 (ad .order) (.lst (zaR s.kept++[V.int (d:Int)]))) T.ok (d:=d) zab (λ b o e hb=>by rw [zaf hb]; exact e)
   have f05:=f04.trans f5
   show tSeq _ _ _ _ (upd H4 (ad .order) (.lst (zaR s.kept++[V.int (d:Int)])))
   generalize upd H4 (ad .order) (.lst (zaR s.kept++[V.int (d:Int)]))=H5 at *
   obtain ⟨dx5,hp5⟩:=h5.hall
   obtain ⟨wv,ra,_⟩:=h5.recAt hd
   obtain ⟨dr,hrc⟩:=ra.ob
   refine ⟨_,rfl,_,_,dx5,_,_,rfl,hp5,T.zaj,T.zaB,rfl,_,rfl,_,_,_,_,rfl,rfl,SqL.of h5.recs,zbt (h5.zfz hd),_,dr,_,rfl,hrc,rfl,_,_,_,_,_,rfl,ra,by show (s.deed d).done.length < 3000; have:=sm.dn d; omega,λ H1 ql vs m1 hq tu=>⟨ql,rfl,⟨_,SqL.of hq⟩,?_⟩⟩
   have tu:zap H1 vs ((zau (s.deed d).done).map ziR):=tu
   have hvl:vs.length=(zau (s.deed d).done).length:=by rw [tu.length,List.length_map]
   refine zeA (xs:=vs) (λ i σ H2=>∃ v2 v3,σ=[some (.ref (ad .hall)),some (.int d),v2,v3]/\zai A ρ ad { s with log:=s.log++[.keep d],kept:=s.kept++[d] } (wb (zas s) ((zau (s.deed d).done).take i)) H2/\Frame ρ H ρ H2/\H2 ql=some (.lst vs)/\zap H2 vs ((zau (s.deed d).done).map ziR)) ⟨_,_,rfl,h5.grow m1,f05.trans (Frame.grow m1),hq,tu⟩ (λ i σ H2 _ ⟨_,_,_,_,_,e,_⟩=>SqL.of e) ?_ ?_
   . rintro i x σ H2 hx ⟨v2,v3,rfl,h2,f2,hq2,t2⟩
     obtain ⟨y,hy1,r,rfl,hr1⟩:=zdu t2 hx
     rw [List.getElem?_map] at hy1
     obtain ⟨⟨k,v⟩,ha,rfl⟩:=Option.map_eq_some_iff.mp hy1
     have e1:(zau (s.deed d).done).take (i+1)=(zau (s.deed d).done).take i++[(k,v)]:=by rw [List.take_add_one,ha]; rfl
     obtain ⟨dx2,hp2⟩:=h2.hall
     obtain ⟨lk,hlk,hbk⟩:=h2.zcV
     have hll:lk.length<=4:=Nat.le_trans (hbk.len sm.snd λ j hj=>by
      rcases zop hj with hj | hj
      . exact R.L.e.zpm j hj
      . refine zhh R.L.e (d:=d) ?_
        obtain ⟨p,hp,rfl⟩:=List.mem_map.mp hj
        exact List.mem_map.mpr ⟨p,List.mem_of_mem_take hp,rfl⟩) sm.seen
     refine ⟨r,_,rfl,SqT.of hr1,rfl,_,_,rfl,_,_,rfl,rfl,?_⟩
     refine ⟨_,rfl,_,rfl,_,_,dx2,_,_,rfl,hp2,T.zaj,T.za8,rfl,_,rfl,_,_,rfl,DPut.k (k:=Sum.inr k) hlk (by rw [zmt,sizeLine_eq]; omega),?_⟩
     rw [zms]
     have kp3:zcw H2 (ad .zcV) (upd H2 (ad .zcV) (.dK (bkV (bput lk k v)))):=λ b o e hb=>by rw [zaf hb]; exact e
     obtain ⟨h3,f3⟩:=h2.zqm T.ok zab kp3 (hbk.put k v)
     refine ⟨_,_,rfl,?_,f2.trans f3,kp3 _ _ hq2 (zbG hq2 hlk (λ z=>nomatch z)),zap.mono (Imm.zgm T.ok h2 (r:=.zcV) trivial kp3) t2⟩
     rw [e1,zru]; exact h3
   . rintro σ H2 ⟨v2,v3,rfl,h2,f2,_⟩
     rw [hvl,List.take_length,zlI] at h2
     obtain ⟨dx2,hp2⟩:=h2.hall
     refine ⟨_,rfl,_,dx2,_,rfl,hp2,rfl,_,rfl,ρ,ad,_,s,_,d,.kept,T0,rfl,h2,R.c,R.L,R.h,rfl,rfl,rfl,rfl,rfl,R.c.keeps hact,R.L.keeps R.c hact,by decide,hd,λ H6 ρ6 ad6 ea6 h6 f6=>q H6 ρ6 ad6 ea6 ?_ (f2.trans f6)⟩
     rw [znZ ordS R.c hact]; exact h6
theorem zfc (T:Txt K mg A F):FnOk P w K mg base (CX1 P w) 1 (F.f 1) (F.fd 1) ["_law_cell_here","_law_prime","_law_many"] ztZ:=by
 refine T.zoj.okN zlT (λ vs H Q E h=>?_) (λ cdv A' outer s H vs Q E hr h=>?_)
 . obtain ⟨c,p,m,rfl,_⟩:=h
   rfl
 . obtain ⟨c,p,m,rfl,hp,hm,q⟩:=h
   refine ⟨_,(zae (zar (zcm zhE (zcm zhE (zcm zkL (pv 0) zal) (pv 1)) (pv 2)))),?_⟩
   exact ⟨_,rfl,_,_,rfl,rfl,.inr ⟨by decide,by decide⟩,_,rfl,_,_,rfl,rfl,hp,_,rfl,_,_,rfl,rfl,hm,q⟩
theorem zc0 (T:Txt K mg A F):FnOk P w K mg base (CX1 P w) 1 (F.f 2) (F.fd 2) ["_law_script","_law_k"] (zsZ K):=by
 refine T.zmH.okN zkx (λ vs H Q E h=>?_) (λ cdv A' outer s H vs Q E hr h=>?_)
 . obtain ⟨a,ns,k,rfl,_⟩:=h
   rfl
 . obtain ⟨a,ns,k,rfl,hS,q⟩:=h
   refine ⟨_,(zac (zbk (zaA zlY (pv 1) (zbp zbn (by rfl) T.zk0 PySem.boot_len (zaa (pv 0) zad)) (zaD _)) (zae (zar (zbd zbi (pv 0) (pv 1) (λ _ _=>rfl)))) zaF)
     (zae (zar zal))),?_⟩
   refine ⟨_,rfl,_,rfl,a,_,rfl,.inl hS,_,_,rfl,rfl,_,rfl,?_⟩
   rw [List.length_map]
   by_cases h:k < ns.length
   . refine zbl (decide_eq_true (by omega)) ⟨_,rfl,_,rfl,a,_,_,_,rfl,rfl,hS,zbt (by rw [List.getElem?_map,List.getElem?_eq_getElem h]; rfl),?_⟩
     have:za1 ns k=ns[k]:=by unfold za1; rw [List.getD_eq_getElem?_getD,List.getElem?_eq_getElem h]; rfl
     rw [this] at q; exact q
   . refine zaJ (decide_eq_false (by omega)) ?_
     have:za1 ns k=0:=by unfold za1; rw [List.getD_eq_getElem?_getD,List.getElem?_eq_none (by omega)]; rfl
     rw [this] at q; exact q
theorem ziz (T:Txt K mg A F):FnOk P w K mg base (CX1 P w) 2 (F.f 3) (F.fd 3) ["_law_script","_law_k"] spNo :=
 T.zgz.okN zbo (λ vs H Q E h=>h.elim) (λ cdv A' outer s H vs Q E hr h=>h.elim)
theorem zkN (T:Txt K mg A F):FnOk P w K mg base (CX1 P w) 3 (F.f 3) (F.fd 3) ["_law_script","_law_k"] (zsW K):=by
 have G__law_mix:=@zfc P w K mg base A F T
 have G__law_cell:=@zc0 P w K mg base A F T
 have G__law_key:=@ziz P w K mg base A F T
 refine T.zgz.okN zbo (λ vs H Q E h=>?_) (λ cdv A' outer s H vs Q E hr h=>?_)
 . obtain ⟨a,ns,k,rfl,_⟩:=h
   rfl
 . obtain ⟨a,ns,k,rfl,hS,hk,q⟩:=h
   refine ⟨_,(zac (zaL (i:=2) zbo.nd rfl (by walk_at "loc") zaV)
     (zac (zaL (i:=3) zbo.nd rfl (by walk_at "loc") (zcm zgG (zaE G__law_cell (hmr hr) rfl T.zbI T.zbH T.zbJ .nil zaz (zaa (pv 0) (zaa zal zad))) (zcm zkL zal (pv 1))))
     (zac (zaL (i:=4) zbo.nd rfl (by walk_at "loc") (zeb PySem.F.plainAttrs_str PySem.F.slot_str_join PySem.F.type_str_join zpe zaV (zaa (zfa 1 [2,3] ["_law_j","_law_letters","_law_seed"] rfl (by walk_at "blk") (zfC rfl T.zjQ (zaa (zaE G__law_mix (hmr hr) rfl T.zbN T.zbL T.zbO .nil zaz (zaa (pv 3) (zaa zal (zaa zal zad)))) zad)) (λ C fp s H=>(za2 (i:=0) (show (["_law_j","_law_letters","_law_seed"]:List Str).Nodup by decide +kernel) rfl (by walk_at "loc"))) (λ C fp s H=>zjw) (λ C fp s H=>(zbd zni (pv 1) (zaE G__law_mix (hmr hr) rfl T.zbN T.zbL T.zbO .nil zaz (zaa (zcm zgG (pv 2) (zcm zkL zal (pv 0))) (zaa zal (zaa zal zad)))) (λ _ _=>rfl)))) zad)))
     (zac (zbk (PW.pt (zm0 (zaA zb3 (pv 1) zal (zaD _)) (zjv (zaA zb3 (zcm zhE (zaE G__law_cell (hmr hr) rfl T.zbI T.zbH T.zbJ .nil zaz (zaa (pv 0) (zaa zal zad))) zal) zal (zaD _))))) (zae (zar (zbd zbi (zb7 (zaa zaV (zaa zaV zad))) (zbT zfW (by rfl) T.zpd boot_int (zaa (zdd zb3 (zaE G__law_key (hmr hr) rfl T.zgs T.zgo T.zgv .nil zaz (zaa (pv 0) (zaa zal zad))) zaV (zaD _)) zad)) (λ _ _=>rfl)))) zaF)
     (zae (zar (zcm ziY (zbd zni zaV (pv 1) (λ _ _=>rfl)) (pv 4)))))))),?_⟩
   refine ⟨_,rfl,a,ns,0,rfl,hS,_,rfl,_,_,rfl,rfl,.inl ⟨by decide,by decide⟩,_,_,rfl,rfl,?_⟩
   obtain ⟨t0,t1⟩:=zi1 (c:=za1 ns 0+7 * (k:Int)) (p:=9967) (m:=4) (by decide)
   refine ⟨rfl,_,rfl,_,_,_,rfl,by decide,by decide,_,rfl,by omega,by omega,?_⟩
   refine zjb (λ i ys σ H2=>∃ v0,σ=[v0,some (.str abc),some (.int (za1 ns 0+7 * (k:Int)))]/\H2=H/\ys=((List.range i).map λ (j:Nat)=>pick abc (mixF (za1 ns 0+7 * (k:Int)+5 * (j:Int)) 9973 26).toNat).map V.str) ⟨none,rfl,rfl,rfl⟩ (λ i ys σ H2 ⟨_,_,_,e⟩=>by rw [e,List.length_map,List.length_map,List.length_range]; exact Nat.le_refl _) (by rw [sizeLine_eq]; omega) ?_ ?_
   . rintro i ys σ H2 hlt ⟨v0,rfl,rfl,rfl⟩
     obtain ⟨u0,u1⟩:=zi1 (c:=za1 ns 0+7 * (k:Int)+5 * (0+(i:Int))) (p:=9973) (m:=26) (by decide)
     have hsz:abc.cps.size=26:=by decide +kernel
     obtain ⟨c,hc,hp⟩:=zjA (l:=abc) (i:=(mixF (za1 ns 0+7 * (k:Int)+5 * (0+(i:Int))) 9973 26).toNat) (by rw [hsz]; omega)
     rw [show (((mixF (za1 ns 0+7 * (k:Int)+5 * (0+(i:Int))) 9973 26).toNat:Nat):Int)=mixF (za1 ns 0+7 * (k:Int)+5 * (0+(i:Int))) 9973 26 by omega] at hc
     refine ⟨_,rfl,_,rfl,_,rfl,_,_,rfl,rfl,.inl ⟨by decide,by decide⟩,_,_,rfl,rfl,_,_,_,rfl,by decide,by decide,_,_,c,rfl,rfl,by show abc.cps.size<=sizeLine; rw [hsz,sizeLine_eq]; decide,hc,nx hlt ⟨_,rfl,rfl,?_⟩⟩
     rw [List.range_succ,List.map_append,List.map_append]
     rw [show (0+(i:Int))=(i:Int) by omega] at hp
     rw [<-hp]; rfl
   rintro ys σ H2 ⟨v0,rfl,rfl,rfl⟩
   intro pt nt
   refine ⟨_,pt,zdv (za1 ns 0+7 * (k:Int)),rfl,rfl,zab,?_,?_⟩
   . rw [znh]
     have h3:=zhd (za1 ns 0+7 * (k:Int))
     omega
   have s1:Same H2 (upd H2 pt (.lst ((zdv (za1 ns 0+7 * (k:Int))).map V.str))):=Same.zaw nt
   show tSeq _ _ _ _ (upd H2 pt (.lst ((zdv (za1 ns 0+7 * (k:Int))).map V.str)))
   generalize upd H2 pt (.lst ((zdv (za1 ns 0+7 * (k:Int))).map V.str))=H3 at *
   have last:∀ kf:Str,kf=zhZ ns k->(∀ H',Same H2 H'->Q (.str kf) H')->tRet (tOp (λ x y H Q=>∃ i j,x=.str i/\y=.str j/\i.length+j.length<=sizeLine/\Q (.str (i++j)) H) (tOp rIxS (tC (.str "qrst")) (tVar 1)) (tVar 4)) { nx:=λ _ H'=>Q .non H',rt:=Q } [some (.ref a),some (.int k),some (.str "abcdefghijklmnopqrstuvwxyz"),some (.int (za1 ns 0+7 * (k:Int))),some (.str (Txt.join "" (zdv (za1 ns 0+7 * (k:Int)))))] H3:=λ kf ek q=>by
     have hsz:("qrst" : Str).cps.size=4:=by decide +kernel
     obtain ⟨c,hc,hp⟩:=zjA (l := "qrst") (i:=k) (by rw [hsz]; omega)
     refine ⟨_,rfl,_,_,c,rfl,rfl,by show ("qrst" : Str).cps.size<=sizeLine; rw [hsz,sizeLine_eq]; decide,hc,_,rfl,_,_,rfl,rfl,?_,?_⟩
     . have h3:=zhd (za1 ns 0+7 * (k:Int))
       have h4:=zlc (zdv (za1 ns 0+7 * (k:Int)))
       have h5:(⟨#[c]⟩:Str).length=1:=rfl
       rw [sizeLine_eq]; omega
     . have:=q H3 s1
       rw [ek] at this
       unfold zhZ at this
       rw [hp] at this
       exact this
   refine ⟨_,rfl,rfl,_,rfl,?_⟩
   refine zaJ (decide_eq_false λ z=>by have:=V.int.inj z; omega) (last _ rfl q)
theorem zl1 (T:Txt K mg A F):FnOk P w K mg base (CX1 P w) 4 (F.f 3) (F.fd 3) ["_law_script","_law_k"] (zt1 K):=by
 have G__law_mix:=@zfc P w K mg base A F T
 have G__law_cell:=@zc0 P w K mg base A F T
 have G__law_key:=@zkN P w K mg base A F T
 refine T.zgz.okN zbo (λ vs H Q E h=>?_) (λ cdv A' outer s H vs Q E hr h=>?_)
 . obtain ⟨a,ns,k,rfl,_⟩:=h
   rfl
 . obtain ⟨a,ns,k,rfl,hS,hk,q⟩:=h
   refine ⟨_,(zac (zaL (i:=2) zbo.nd rfl (by walk_at "loc") zaV)
     (zac (zaL (i:=3) zbo.nd rfl (by walk_at "loc") (zcm zgG (zaE G__law_cell (hmr hr) rfl T.zbI T.zbH T.zbJ .nil zaz (zaa (pv 0) (zaa zal zad))) (zcm zkL zal (pv 1))))
     (zac (zaL (i:=4) zbo.nd rfl (by walk_at "loc") (zeb PySem.F.plainAttrs_str PySem.F.slot_str_join PySem.F.type_str_join zpe zaV (zaa (zfa 1 [2,3] ["_law_j","_law_letters","_law_seed"] rfl (by walk_at "blk") (zfC rfl T.zjQ (zaa (zaE G__law_mix (hmr hr) rfl T.zbN T.zbL T.zbO .nil zaz (zaa (pv 3) (zaa zal (zaa zal zad)))) zad)) (λ C fp s H=>(za2 (i:=0) (show (["_law_j","_law_letters","_law_seed"]:List Str).Nodup by decide +kernel) rfl (by walk_at "loc"))) (λ C fp s H=>zjw) (λ C fp s H=>(zbd zni (pv 1) (zaE G__law_mix (hmr hr) rfl T.zbN T.zbL T.zbO .nil zaz (zaa (zcm zgG (pv 2) (zcm zkL zal (pv 0))) (zaa zal (zaa zal zad)))) (λ _ _=>rfl)))) zad)))
     (zac (zbk (PW.pt (zm0 (zaA zb3 (pv 1) zal (zaD _)) (zjv (zaA zb3 (zcm zhE (zaE G__law_cell (hmr hr) rfl T.zbI T.zbH T.zbJ .nil zaz (zaa (pv 0) (zaa zal zad))) zal) zal (zaD _))))) (zae (zar (zbd zbi (zb7 (zaa zaV (zaa zaV zad))) (zbT zfW (by rfl) T.zpd boot_int (zaa (zdd zb3 (zaE G__law_key (hmr hr) rfl T.zgs T.zgo T.zgv .nil zaz (zaa (pv 0) (zaa zal zad))) zaV (zaD _)) zad)) (λ _ _=>rfl)))) zaF)
     (zae (zar (zcm ziY (zbd zni zaV (pv 1) (λ _ _=>rfl)) (pv 4)))))))),?_⟩
   refine ⟨_,rfl,a,ns,0,rfl,hS,_,rfl,_,_,rfl,rfl,.inl ⟨by decide,by decide⟩,_,_,rfl,rfl,?_⟩
   obtain ⟨t0,t1⟩:=zi1 (c:=za1 ns 0+7 * (k:Int)) (p:=9967) (m:=4) (by decide)
   refine ⟨rfl,_,rfl,_,_,_,rfl,by decide,by decide,_,rfl,by omega,by omega,?_⟩
   refine zjb (λ i ys σ H2=>∃ v0,σ=[v0,some (.str abc),some (.int (za1 ns 0+7 * (k:Int)))]/\H2=H/\ys=((List.range i).map λ (j:Nat)=>pick abc (mixF (za1 ns 0+7 * (k:Int)+5 * (j:Int)) 9973 26).toNat).map V.str) ⟨none,rfl,rfl,rfl⟩ (λ i ys σ H2 ⟨_,_,_,e⟩=>by rw [e,List.length_map,List.length_map,List.length_range]; exact Nat.le_refl _) (by rw [sizeLine_eq]; omega) ?_ ?_
   . rintro i ys σ H2 hlt ⟨v0,rfl,rfl,rfl⟩
     obtain ⟨u0,u1⟩:=zi1 (c:=za1 ns 0+7 * (k:Int)+5 * (0+(i:Int))) (p:=9973) (m:=26) (by decide)
     have hsz:abc.cps.size=26:=by decide +kernel
     obtain ⟨c,hc,hp⟩:=zjA (l:=abc) (i:=(mixF (za1 ns 0+7 * (k:Int)+5 * (0+(i:Int))) 9973 26).toNat) (by rw [hsz]; omega)
     rw [show (((mixF (za1 ns 0+7 * (k:Int)+5 * (0+(i:Int))) 9973 26).toNat:Nat):Int)=mixF (za1 ns 0+7 * (k:Int)+5 * (0+(i:Int))) 9973 26 by omega] at hc
     refine ⟨_,rfl,_,rfl,_,rfl,_,_,rfl,rfl,.inl ⟨by decide,by decide⟩,_,_,rfl,rfl,_,_,_,rfl,by decide,by decide,_,_,c,rfl,rfl,by show abc.cps.size<=sizeLine; rw [hsz,sizeLine_eq]; decide,hc,nx hlt ⟨_,rfl,rfl,?_⟩⟩
     rw [List.range_succ,List.map_append,List.map_append]
     rw [show (0+(i:Int))=(i:Int) by omega] at hp
     rw [<-hp]; rfl
   rintro ys σ H2 ⟨v0,rfl,rfl,rfl⟩
   intro pt nt
   refine ⟨_,pt,zdv (za1 ns 0+7 * (k:Int)),rfl,rfl,zab,?_,?_⟩
   . rw [znh]
     have h3:=zhd (za1 ns 0+7 * (k:Int))
     omega
   have s1:Same H2 (upd H2 pt (.lst ((zdv (za1 ns 0+7 * (k:Int))).map V.str))):=Same.zaw nt
   show tSeq _ _ _ _ (upd H2 pt (.lst ((zdv (za1 ns 0+7 * (k:Int))).map V.str)))
   generalize upd H2 pt (.lst ((zdv (za1 ns 0+7 * (k:Int))).map V.str))=H3 at *
   have last:∀ kf:Str,kf=zhZ ns k->(∀ H',Same H2 H'->Q (.str kf) H')->tRet (tOp (λ x y H Q=>∃ i j,x=.str i/\y=.str j/\i.length+j.length<=sizeLine/\Q (.str (i++j)) H) (tOp rIxS (tC (.str "qrst")) (tVar 1)) (tVar 4)) { nx:=λ _ H'=>Q .non H',rt:=Q } [some (.ref a),some (.int k),some (.str "abcdefghijklmnopqrstuvwxyz"),some (.int (za1 ns 0+7 * (k:Int))),some (.str (Txt.join "" (zdv (za1 ns 0+7 * (k:Int)))))] H3:=λ kf ek q=>by
     have hsz:("qrst" : Str).cps.size=4:=by decide +kernel
     obtain ⟨c,hc,hp⟩:=zjA (l := "qrst") (i:=k) (by rw [hsz]; omega)
     refine ⟨_,rfl,_,_,c,rfl,rfl,by show ("qrst" : Str).cps.size<=sizeLine; rw [hsz,sizeLine_eq]; decide,hc,_,rfl,_,_,rfl,rfl,?_,?_⟩
     . have h3:=zhd (za1 ns 0+7 * (k:Int))
       have h4:=zlc (zdv (za1 ns 0+7 * (k:Int)))
       have h5:(⟨#[c]⟩:Str).length=1:=rfl
       rw [sizeLine_eq]; omega
     . have:=q H3 s1
       rw [ek] at this
       unfold zhZ at this
       rw [hp] at this
       exact this
   refine ⟨_,rfl,rfl,_,rfl,?_⟩
   by_cases h3:k=3
   rotate_left
   . refine zaJ (decide_eq_false λ z=>by have:=V.int.inj z; omega) (last _ ?_ q)
     unfold keyF; rw [if_neg λ z=>h3 z.1]
   refine zbl (decide_eq_true (by rw [h3]; rfl)) ?_
   refine ⟨_,rfl,a,ns,0,rfl,s1.seq hS,_,_,rfl,rfl,(by show (0:Int) < 2; decide),rfl,_,rfl,?_⟩
   by_cases h2:za1 ns 0 % 2=0
   rotate_left
   . refine zaJ (decide_eq_false λ z=>h2 (V.int.inj z)) (last _ ?_ q)
     unfold keyF; rw [if_neg λ z=>h2 z.2]
   refine zbl (decide_eq_true (show V.int (za1 ns 0 % 2)=V.int 0 by rw [h2])) ?_
   refine ⟨sz2,λ l hl=>?_⟩
   have s2:Same H2 (upd H3 l (.lst [V.str "q",V.str "qa"])):=s1.upd2 hl
   refine ⟨_,rfl,a,ns,0,rfl,s2.seq hS,by decide,λ H5 s5=>⟨rfl,.inr ⟨_,rfl,?_⟩⟩⟩
   have hl5:=s5 _ _ (zab (H:=H3) (a:=l) (o:=.lst [V.str "q",V.str "qa"]))
   have q5:=q H5 (s2.trans s5)
   unfold keyF at q5
   rw [if_pos ⟨h3,h2⟩] at q5
   by_cases hq:zhZ ns 0 = "q"
   . rw [if_pos hq] at q5
     rw [decide_eq_true (show V.str (zhZ ns 0)=V.str "q" by rw [hq])]
     exact ⟨l,_,_,_,rfl,rfl,SqL.of hl5,zbt (xs:=[V.str "q",V.str "qa"]) (j:=1) rfl,q5⟩
   . rw [if_neg hq] at q5
     rw [decide_eq_false (show ¬ V.str (zhZ ns 0)=V.str "q" from λ z=>hq (V.str.inj z))]
     exact ⟨l,_,_,_,rfl,rfl,SqL.of hl5,zbt (xs:=[V.str "q",V.str "qa"]) (j:=0) rfl,q5⟩
theorem zl2 (T:Txt K mg A F):FnOk P w K mg base (CX1 P w) 5 (F.f 4) (F.fd 4) ["_law_script","_law_cell_here","_law_begun"] (zt3 K):=by
 have G__law_mix:=@zfc P w K mg base A F T
 have G__law_cell:=@zc0 P w K mg base A F T
 have G__law_key:=@zl1 P w K mg base A F T
 refine T.zok.okN zcL (λ vs H Q E h=>?_) (λ cdv A' outer s H vs Q E hr h=>?_)
 . obtain ⟨a,ns,c,b,rfl,_⟩:=h
   rfl
 . obtain ⟨a,ns,c,b,rfl,hS,hb,q⟩:=h
   refine ⟨_,(zac (zaL (i:=3) zcL.nd rfl (by walk_at "loc") (zaE G__law_mix (hmr hr) rfl T.zbN T.zbL T.zbO .nil zaz (zaa (pv 1) (zaa zal (zaa (pv 2) zad)))))
     (zac (zaL (i:=4) zcL.nd rfl (by walk_at "loc") (zaE G__law_key (hmr hr) rfl T.zgs T.zgo T.zgv .nil zaz (zaa (pv 0) (zaa (zaE G__law_mix (hmr hr) rfl T.zbN T.zbL T.zbO .nil zaz (zaa (pv 1) (zaa zal (zaa (zcm zgG zal (zaE G__law_mix (hmr hr) rfl T.zbN T.zbL T.zbO .nil zaz (zaa (zaE G__law_cell (hmr hr) rfl T.zbI T.zbH T.zbJ .nil zaz (zaa (pv 0) (zaa zal zad))) (zaa zal (zaa zal zad))))) zad)))) zad))))
     (zac (zaL (i:=5) zcL.nd rfl (by walk_at "loc") (zaE G__law_mix (hmr hr) rfl T.zbN T.zbL T.zbO .nil zaz (zaa (pv 1) (zaa zal (zaa zal zad)))))
     (zac (zaL (i:=6) zcL.nd rfl (by walk_at "loc") (zbd zbi (zb7 (zaa zal (zaa zal zad))) (zbT zfW (by rfl) T.zpd boot_int (zaa (zdd zb3 (zcm zhE (zaE G__law_cell (hmr hr) rfl T.zbI T.zbH T.zbJ .nil zaz (zaa (pv 0) (zaa zal zad))) zal) zal (zaD _)) zad)) (λ _ _=>rfl)))
     (zac (zbk (PW.pt (zm0 (zaA zlY (pv 5) (zcm zgG zal (zcm zr4 (pv 6) zal)) (zaD _)) (zjv (zaA zlY (pv 2) (pv 6) (zaD _))))) (zae (zar (zbC (zaa zaV zad)))) zaF)
     (zac (zbk (zaA zlY (pv 5) zal (zaD _)) (zae (zar (zbC (zaa zaV (zaa (pv 3) (zaa (pv 4) zad)))))) zaF)
     (zac (zbk (zaA zlY (pv 5) zal (zaD _)) (zae (zar (zbC (zaa zaV (zaa (pv 3) (zaa (pv 4) (zaa (zcm zo3 (zaE G__law_mix (hmr hr) rfl T.zbN T.zbL T.zbO .nil zaz (zaa (pv 1) (zaa zal (zaa zal zad)))) zal) zad))))))) zaF)
     (zac (zbk (zaA zlY (pv 5) zal (zaD _)) (zae (zar (zbC (zaa zaV (zaa (pv 3) zad))))) zaF)
     (zae (zar (zbC (zaa zaV (zaa (pv 3) zad))))))))))))),?_⟩
   obtain ⟨d,ed,hd⟩:=zl4 (c:=c) (p:=9949) hb
   obtain ⟨m,em,hm⟩:=zl4 (c:=za1 ns 0) (p:=9931) (m:=4) (by decide)
   obtain ⟨j,ej,hj⟩:=zl4 (c:=c) (p:=9941) (m:=1+m) (by omega)
   have em:mixF (za1 ns 0) 9931 4=m:=em
   refine ⟨_,rfl,_,rfl,_,_,_,rfl,by decide,by omega,?_⟩
   rw [ed]
   refine ⟨_,rfl,_,rfl,_,rfl,a,ns,0,rfl,hS,_,_,_,rfl,by decide,by decide,_,_,rfl,rfl,_,_,_,rfl,by decide,by rw [em]; omega,a,ns,j,?_,hS,by omega,λ H1 s1=>?_⟩
   . rw [em,show (1:Int)+(m:Int)=((1+m:Nat):Int) by omega,ej]; rfl
   refine ⟨_,rfl,_,_,_,rfl,by decide,by decide,?_⟩
   generalize mixF c 9929 17=tn
   refine ⟨sz2,λ l hl=>?_⟩
   have s2:Same H (upd H1 l (.lst [V.int 9,V.int 30])):=s1.upd2 hl
   refine ⟨_,rfl,a,ns,0,rfl,s2.seq hS,_,_,rfl,rfl,(by show (0:Int) < 16; decide),rfl,.inr ⟨_,rfl,l,_,_,V.int (if za1 ns 0 % 16=3 then 30 else 9),rfl,rfl,SqL.of zab,?_,?_⟩⟩
   . by_cases h:za1 ns 0 % 16=3
     . rw [if_pos h]
       show atI [V.int 9,V.int 30] (if decide (V.int (za1 ns 0 % 16)=V.int 3)=true then 1 else 0)=_
       rw [if_pos (decide_eq_true (by rw [h]))]; exact zbt (xs:=[V.int 9,V.int 30]) (j:=1) rfl
     . rw [if_neg h]
       show atI [V.int 9,V.int 30] (if decide (V.int (za1 ns 0 % 16)=V.int 3)=true then 1 else 0)=_
       rw [if_neg (by rw [decide_eq_false λ z=>h (V.int.inj z)]; exact Bool.false_ne_true)]; exact zbt (xs:=[V.int 9,V.int 30]) (j:=0) rfl
   generalize (if za1 ns 0 % 16=3 then (30:Int) else 9)=M
   show tSeq _ _ _ _ (upd H1 l (.lst [V.int 9,V.int 30]))
   generalize upd H1 l (.lst [V.int 9,V.int 30])=H2 at *
   refine ⟨_,rfl,_,rfl,_,_,rfl,rfl,⟨by decide,by decide⟩,_,_,rfl,rfl,_,_,rfl,rfl,_,rfl,?_⟩
   by_cases h1:tn < 2+M / 15
   . refine zbl (decide_eq_true h1) ⟨_,rfl,_,rfl,_,_,rfl,rfl,_,rfl,?_⟩
     by_cases h2:(b:Int) < M
     . exact zbl (decide_eq_true h2) ⟨sz1,λ n nn=>q _ n .begin (s2.free nn) (s2.upd2 nn) zab trivial⟩
     refine zaJ (decide_eq_false h2) ?_
     refine ⟨_,rfl,_,_,rfl,rfl,_,rfl,?_⟩
     by_cases h3:tn < 7
     . exact zbl (decide_eq_true h3) ⟨_,rfl,_,rfl,sz3,λ n nn=>q _ n (.read d (keyF ns j)) (s2.free nn) (s2.upd2 nn) zab ⟨hd,j,by omega,rfl⟩⟩
     refine zaJ (decide_eq_false h3) ⟨_,rfl,_,_,rfl,rfl,_,rfl,?_⟩
     by_cases h4:tn < 13
     . exact zbl (decide_eq_true h4) ⟨_,rfl,_,rfl,_,rfl,_,_,_,rfl,by decide,by decide,_,_,rfl,rfl,sz4,λ n nn=>q _ n (.write d (keyF ns j) _) (s2.free nn) (s2.upd2 nn) zab ⟨hd,j,by omega,rfl⟩⟩
     refine zaJ (decide_eq_false h4) ⟨_,rfl,_,_,rfl,rfl,_,rfl,?_⟩
     by_cases h5:tn < 16
     . exact zbl (decide_eq_true h5) ⟨_,rfl,sz2,λ n nn=>q _ n (.keep d) (s2.free nn) (s2.upd2 nn) zab hd⟩
     . exact zaJ (decide_eq_false h5) ⟨_,rfl,sz2,λ n nn=>q _ n (.drop d) (s2.free nn) (s2.upd2 nn) zab hd⟩
   . refine zaJ (decide_eq_false h1) ?_
     refine ⟨_,rfl,_,_,rfl,rfl,_,rfl,?_⟩
     by_cases h3:tn < 7
     . exact zbl (decide_eq_true h3) ⟨_,rfl,_,rfl,sz3,λ n nn=>q _ n (.read d (keyF ns j)) (s2.free nn) (s2.upd2 nn) zab ⟨hd,j,by omega,rfl⟩⟩
     refine zaJ (decide_eq_false h3) ⟨_,rfl,_,_,rfl,rfl,_,rfl,?_⟩
     by_cases h4:tn < 13
     . exact zbl (decide_eq_true h4) ⟨_,rfl,_,rfl,_,rfl,_,_,_,rfl,by decide,by decide,_,_,rfl,rfl,sz4,λ n nn=>q _ n (.write d (keyF ns j) _) (s2.free nn) (s2.upd2 nn) zab ⟨hd,j,by omega,rfl⟩⟩
     refine zaJ (decide_eq_false h4) ⟨_,rfl,_,_,rfl,rfl,_,rfl,?_⟩
     by_cases h5:tn < 16
     . exact zbl (decide_eq_true h5) ⟨_,rfl,sz2,λ n nn=>q _ n (.keep d) (s2.free nn) (s2.upd2 nn) zab hd⟩
     . exact zaJ (decide_eq_false h5) ⟨_,rfl,sz2,λ n nn=>q _ n (.drop d) (s2.free nn) (s2.upd2 nn) zab hd⟩
theorem zkP (T:Txt K mg A F):FnOk P w K mg base (CX1 P w) 6 (F.f 5) (F.fd 5) ["_law_script"] (zs2 K):=by
 have G__law_act:=@zl2 P w K mg base A F T
 refine T.zmJ.okN zb0 (λ vs H Q E h=>?_) (λ cdv A' outer s H vs Q E hr h=>?_)
 . obtain ⟨a,ns,rfl,_⟩:=h
   rfl
 . obtain ⟨a,ns,rfl,hS,q⟩:=h
   refine ⟨_,(zac (zaL (i:=1) zb0.nd rfl (by walk_at "loc") (zb7 (zaa (zbC (zaa zaV zad)) (zaa (zbC (zaa zaV zad)) zad))))
     (zac (zaL (i:=2) zb0.nd rfl (by walk_at "loc") zal)
     (zac (zeH PassesOwn.never rfl (zdc (zqv zrO (pv 0) (zoV zal) (zoV zal))) (za2 (i:=3) zb0.nd rfl (by walk_at "loc")) (zac (zaL (i:=4) zb0.nd rfl (by walk_at "loc") (zaE G__law_act (hmr hr) rfl T.zn9 T.zn2 T.zoe .nil zaz (zaa (pv 0) (zaa (pv 3) (zaa (pv 2) zad)))))
     (zac (zaL (i:=2) zb0.nd rfl (by walk_at "loc") (zcm zgG (pv 2) (zbT zfW (by rfl) T.zpd boot_int (zaa (zdd zb3 (zbd zca (pv 4) zal (λ _ _=>rfl)) zaV (zaD _)) zad))))
     (zae (zaG (zeb PySem.F.plainAttrs_list PySem.F.slot_list_append PySem.F.type_list_append zbv (pv 1) (zaa (pv 4) zad)))))))
     (zae (zar (pv 1)))))),?_⟩
   refine ⟨sz1,λ p1 n1=>⟨sz1,λ p2 n2=>⟨sz2,λ l nl=>?_⟩⟩⟩
   have s1:Same H (upd H p1 (.tup [V.str "begin"])):=Same.zaw n1
   have s2:=s1.upd2 (o:=.tup [V.str "begin"]) n2
   have s3:=s2.upd2 (o:=.lst [V.ref p1,V.ref p2]) nl
   have e2:upd (upd H p1 (.tup [V.str "begin"])) p2 (.tup [V.str "begin"]) p2=some (.tup [V.str "begin"]):=zab
   have e1:upd (upd H p1 (.tup [V.str "begin"])) p2 (.tup [V.str "begin"]) p1=some (.tup [V.str "begin"]):=zax zab n2
   refine ⟨_,rfl,_,rfl,_,rfl,a,_,rfl,s3.seq hS,λ pc nc=>⟨pc,rfl,⟨_,SqL.of zab⟩,?_⟩⟩
   have ec:cutV (ns.map V.int) (some 1) (some 62)=((ns.take 62).drop 1).map V.int:=by
     have e0:cutV (ns.map V.int) (some 1) (some 62)=((ns.map V.int).drop (min 1 (ns.map V.int).length)).take (min 62 (ns.map V.int).length - min 1 (ns.map V.int).length):=rfl
     rw [e0,List.length_map,List.map_drop,List.map_take,List.drop_take]
     cases hns:ns with
     | nil=>rfl
     | cons x r =>
       rw [List.length_cons,Nat.min_eq_left (show 1<=r.length+1 by omega)]
       show ((r.map V.int).take _)=(r.map V.int).take 61
       by_cases h:62<=r.length+1
       . rw [Nat.min_eq_left h]
       . rw [List.take_of_length_le (by rw [List.length_map]; omega),List.take_of_length_le (by rw [List.length_map]; omega)]
   rw [ec]
   have hcl:((ns.take 62).drop 1).length<=61:=by rw [List.length_drop,List.length_take]; omega
   generalize hcs:(ns.take 62).drop 1=cs at *
   have nlc:l≠pc:=zah zab nc
   have s4:=s3.upd2 (o:=.lst (cs.map V.int)) nc
   have nlH:H l=none:=s2.free nl
   have npH:H pc=none:=s3.free nc
   refine zeA (xs:=cs.map V.int) (λ i σ H2=>∃ us As v3 v4,σ=[some (.ref a),some (.ref l),some (.int ((zds As:Nat):Int)),v3,v4]/\Same H H2/\H2 l=some (.lst us)/\H2 pc=some (.lst (cs.map V.int))/\zap H2 us (As.map actD)/\(∀ p,V.ref p∈us->H p=none)/\Valid ns As/\As.length=2+i/\2<=zds As) ?_ (λ i σ H2 _ ⟨_,_,_,_,_,_,_,e,_⟩=>SqL.of e) ?_ ?_
   . refine ⟨[V.ref p1,V.ref p2],[.begin,.begin],none,none,rfl,s4,zax zab nc,zab,?_,?_,?_,rfl,Nat.le_refl _⟩
     . exact .cons ⟨p1,rfl,zax (zax e1 nl) nc⟩ (.cons ⟨p2,rfl,zax (zax e2 nl) nc⟩ .nil)
     . intro p hp
       rcases List.mem_cons.mp hp with h | h
       . cases h; exact n1
       . rcases List.mem_cons.mp h with h | h
         . cases h; exact s1.free n2
         . cases h
     . intro i x hx
       match i,hx with
       | 0,hx=>cases hx; trivial
       | 1,hx=>cases hx; trivial
       | i+2,hx=>cases hx
   . rintro i x σ H2 hx ⟨us,As,v3,v4,rfl,m2,hl2,hc2,t2,f2,vd,hlen,hb2⟩
     rw [List.getElem?_map] at hx
     obtain ⟨c,hc,rfl⟩:=Option.map_eq_some_iff.mp hx
     have hi:i < cs.length:=(List.getElem?_eq_some_iff.mp hc).1
     have hul:us.length=As.length:=by rw [t2.length,List.length_map]
     refine ⟨_,rfl,_,rfl,_,rfl,a,ns,c,zds As,rfl,m2.seq hS,by omega,λ H3 q3 Ac n3 m3 e3 ok3=>?_⟩
     obtain ⟨tx,eA,db⟩:=zp3 Ac
     have m03:=m2.trans m3
     refine ⟨_,rfl,_,rfl,q3,_,_,V.str tx,rfl,rfl,SqT.of e3,zbt (j:=0) (by rw [eA]; rfl),rfl,.inr ⟨_,rfl,_,_,rfl,rfl,?_⟩⟩
     have hl3:=m3 _ _ hl2
     refine ⟨_,rfl,.inl ⟨rfl,_,SqL.of hl3⟩,_,rfl,l,us,V.ref q3,rfl,rfl,hl3,by rw [hul,sizeLine_eq]; omega,?_⟩
     have eb:((zds As:Nat):Int)+(if decide (V.str tx=V.str "begin")=true then 1 else 0)=((zds (As++[Ac]):Nat):Int):=by
       rw [db,zfn]
       have:=zrn Ac
       by_cases h:Ac.isB=1
       . rw [decide_eq_true h,if_pos rfl,h]; rfl
       . rw [decide_eq_false h,if_neg Bool.false_ne_true]; have:Ac.isB=0:=by omega
         rw [this]; rfl
     refine ⟨us++[V.ref q3],As++[Ac],_,_,by rw [<-eb]; rfl,?_,zab,?_,?_,?_,vd.snoc ok3,by rw [List.length_append,List.length_singleton]; omega,by rw [zfn]; omega⟩
     . intro b o e
       rw [zaf (zah e nlH)]; exact m03 b o e
     . rw [zaf nlc.symm]; exact m3 _ _ hc2
     . rw [List.map_append]
       have lift:∀ {vs:List V} {xss:List (List V)},zap H3 vs xss->zap (upd H3 l (.lst (us++[V.ref q3]))) vs xss:=λ {vs xss} t=>by
         induction t with
         | nil=>exact .nil
         | cons r0 _ ih =>
           obtain ⟨p0,e0,q0⟩:=r0
           exact .cons ⟨p0,e0,by rw [zaf (zbG q0 hl3 (λ z=>nomatch z))]; exact q0⟩ ih
       exact lift (S6.zb8 (zbu m3 t2) ⟨q3,rfl,e3⟩)
     . intro p hp
       rcases List.mem_append.mp hp with hp | hp
       . exact f2 p hp
       . have:=List.mem_singleton.mp hp
         cases this
         exact m2.free n3
   . rintro σ H2 ⟨us,As,v3,v4,rfl,m2,hl2,hc2,t2,f2,vd,hlen,hb2⟩
     rw [List.length_map] at hlen
     exact ⟨_,rfl,q H2 l us As nlH m2 hl2 t2 f2 vd (by omega)⟩
theorem zkO (T:Txt K mg A F):FnOk P w K mg base (CX1 P w) 10 (F.f 41) (F.fd 41) ["_law_hall","_law_act_here"] (zs0 A):=by
 have G_Hall_begin:=@zjL P w K mg base A F T
 have G_Hall_read:=@zkS P w K mg base A F T
 have G_Hall_write:=@zjI P w K mg base A F T
 have G_Hall_keep:=@zgH P w K mg base A F T
 have G_Hall_give_up:=@zed P w K mg base A F T
 refine T.zmI.okX zky (λ vs H Q E h=>?_) (λ cdv A' outer s H vs Q E hr h=>?_)
 . obtain ⟨ρ,ad,s,kq,act,T0,ns,rfl,_⟩:=h
   rfl
 . obtain ⟨ρ,ad,s,kq,act,T0,ns,rfl,hh,R,ht,hn,ok,hq,q,qe⟩:=h
   obtain ⟨dx,hp⟩:=hh.hall
   have nes:∀ a b:Str,a≠b->decide (V.str a=V.str b)=false:=λ a b h=>decide_eq_false λ z=>h (V.str.inj z)
   refine ⟨_,(zac (zbk (zaA zb3 (zbd zca (pv 1) zal (λ _ _=>rfl)) zaV (zaD _)) (zae (zar (zb6 (pv 0) T.zaj T.zk4 G_Hall_begin (hmr hr) T.zlz .nil zaz))) zaF)
    (zac (zbk (zaA zb3 (zbd zca (pv 1) zal (λ _ _=>rfl)) zaV (zaD _)) (zae (zar (zat (pv 0) T.zaj T.zhO G_Hall_read (hmr hr) T.zih .nil zaN (zaa (zbd zca (pv 1) zal (λ _ _=>rfl)) (zaa (zbd zca (pv 1) zal (λ _ _=>rfl)) zad))))) zaF)
    (zac (zbk (zaA zb3 (zbd zca (pv 1) zal (λ _ _=>rfl)) zaV (zaD _)) (zae (zar (zat (pv 0) T.zaj T.zgK G_Hall_write (hmr hr) T.zgQ .nil zaN (zaa (zbd zca (pv 1) zal (λ _ _=>rfl)) (zaa (zbd zca (pv 1) zal (λ _ _=>rfl)) (zaa (zbd zca (pv 1) zal (λ _ _=>rfl)) zad)))))) zaF)
    (zac (zbk (zaA zb3 (zbd zca (pv 1) zal (λ _ _=>rfl)) zaV (zaD _)) (zae (zar (zat (pv 0) T.zaj T.zhP G_Hall_keep (hmr hr) T.zii .nil zaN (zaa (zbd zca (pv 1) zal (λ _ _=>rfl)) zad)))) zaF)
    (zae (zar (zat (pv 0) T.zaj T.zeJ G_Hall_give_up (hmr hr) T.zeP .nil zaN (zaa (zbd zca (pv 1) zal (λ _ _=>rfl)) zad)))))))),?_⟩
   cases act with
   | begin =>
    refine ⟨_,rfl,kq,_,_,_,rfl,rfl,SqT.of hq,rfl,rfl,_,rfl,?_⟩
    refine zbl (decide_eq_true rfl) ⟨_,rfl,_,dx,_,rfl,hp,rfl,ρ,ad,s,zas s,rfl,hh,R.r.L.sm R.r.c,hn,λ H' ρ' ad' a1 a2 a3=>q _ H' ρ' ad' a1 ?_ a3⟩
    show zai A ρ' ad' (za6 s) (zas (za6 s)) H'
    rw [zmb R.r.c]; exact a2
   | read d k =>
    refine ⟨_,rfl,kq,_,_,_,rfl,rfl,SqT.of hq,rfl,rfl,_,rfl,?_⟩
    refine zaJ (nes _ _ (by decide +kernel)) ?_
    refine ⟨_,rfl,kq,_,_,_,rfl,rfl,SqT.of hq,rfl,rfl,_,rfl,?_⟩
    refine zbl (decide_eq_true rfl) ?_
    have h4:=see4 R.r.L.e R.k ok.2
    refine ⟨_,rfl,_,dx,_,rfl,hp,rfl,_,rfl,kq,_,_,_,rfl,rfl,SqT.of hq,rfl,_,rfl,kq,_,_,_,rfl,rfl,SqT.of hq,rfl,ρ,ad,s,d,k,T0,rfl,hh,R.r,ht,h4,.inl ⟨d,rfl,ok.1,?_⟩⟩
    rw [zhl] at q qe
    by_cases hg:(s.deed d).st=.zaq
    . rw [if_pos hg] at q
      refine .inl ⟨hg,λ H' ρ' ad' q' a1 a2 a3 a4 a5=>q _ H' ρ' ad' a1 ?_ a3⟩
      rw [(zcJ R.r hg).2.2.1]; exact a2
    . rw [if_neg hg] at qe
      exact .inr ⟨hg,qe rfl⟩
   | write d k v =>
    refine ⟨_,rfl,kq,_,_,_,rfl,rfl,SqT.of hq,rfl,rfl,_,rfl,?_⟩
    refine zaJ (nes _ _ (by decide +kernel)) ?_
    refine ⟨_,rfl,kq,_,_,_,rfl,rfl,SqT.of hq,rfl,rfl,_,rfl,?_⟩
    refine zaJ (nes _ _ (by decide +kernel)) ?_
    refine ⟨_,rfl,kq,_,_,_,rfl,rfl,SqT.of hq,rfl,rfl,_,rfl,?_⟩
    refine zbl (decide_eq_true rfl) ?_
    have h4:=see4 R.r.L.e R.k ok.2
    refine ⟨_,rfl,_,dx,_,rfl,hp,rfl,_,rfl,kq,_,_,_,rfl,rfl,SqT.of hq,rfl,_,rfl,kq,_,_,_,rfl,rfl,SqT.of hq,rfl,_,rfl,kq,_,_,_,rfl,rfl,SqT.of hq,rfl,ρ,ad,s,d,k,v,T0,rfl,hh,R.r,ht,h4,.inl ⟨d,rfl,ok.1,?_⟩⟩
    rw [zf1] at q qe
    by_cases hg:(s.deed d).st=.zaq
    . rw [if_pos hg] at q
      refine .inl ⟨hg,λ H' ρ' ad' q' a1 a2 a3 a4 a5=>q _ H' ρ' ad' a1 ?_ a3⟩
      rw [(zcJ R.r hg).2.2.1]; exact a2
    . rw [if_neg hg] at qe
      exact .inr ⟨hg,qe rfl⟩
   | keep d =>
    refine ⟨_,rfl,kq,_,_,_,rfl,rfl,SqT.of hq,rfl,rfl,_,rfl,?_⟩
    refine zaJ (nes _ _ (by decide +kernel)) ?_
    refine ⟨_,rfl,kq,_,_,_,rfl,rfl,SqT.of hq,rfl,rfl,_,rfl,?_⟩
    refine zaJ (nes _ _ (by decide +kernel)) ?_
    refine ⟨_,rfl,kq,_,_,_,rfl,rfl,SqT.of hq,rfl,rfl,_,rfl,?_⟩
    refine zaJ (nes _ _ (by decide +kernel)) ?_
    refine ⟨_,rfl,kq,_,_,_,rfl,rfl,SqT.of hq,rfl,rfl,_,rfl,?_⟩
    refine zbl (decide_eq_true rfl) ?_
    refine ⟨_,rfl,_,dx,_,rfl,hp,rfl,_,rfl,kq,_,_,_,rfl,rfl,SqT.of hq,rfl,ρ,ad,s,d,T0,rfl,hh,R.r,.inl ⟨d,rfl,ok,?_⟩⟩
    rw [zhm] at q qe
    by_cases hg:(s.deed d).st=.zaq
    . rw [if_pos hg] at q
      exact .inl ⟨hg,λ H' ρ' ad' a1 a2 a3=>q _ H' ρ' ad' a1 a2 a3⟩
    . rw [if_neg hg] at qe
      exact .inr ⟨hg,qe rfl⟩
   | drop d =>
    refine ⟨_,rfl,kq,_,_,_,rfl,rfl,SqT.of hq,rfl,rfl,_,rfl,?_⟩
    refine zaJ (nes _ _ (by decide +kernel)) ?_
    refine ⟨_,rfl,kq,_,_,_,rfl,rfl,SqT.of hq,rfl,rfl,_,rfl,?_⟩
    refine zaJ (nes _ _ (by decide +kernel)) ?_
    refine ⟨_,rfl,kq,_,_,_,rfl,rfl,SqT.of hq,rfl,rfl,_,rfl,?_⟩
    refine zaJ (nes _ _ (by decide +kernel)) ?_
    refine ⟨_,rfl,kq,_,_,_,rfl,rfl,SqT.of hq,rfl,rfl,_,rfl,?_⟩
    refine zaJ (nes _ _ (by decide +kernel)) ?_
    refine ⟨_,rfl,_,dx,_,rfl,hp,rfl,_,rfl,kq,_,_,_,rfl,rfl,SqT.of hq,rfl,ρ,ad,s,d,T0,rfl,hh,R.r,.inl ⟨d,rfl,ok,?_⟩⟩
    rw [step_drop] at q qe
    by_cases hg:(s.deed d).st=.zaq\/(s.deed d).st=.waiting
    . rw [if_pos hg] at q
      exact .inl ⟨hg,λ H' ρ' ad' a1 a2 a3=>q _ H' ρ' ad' a1 a2 a3⟩
    . rw [if_neg hg] at qe
      exact .inr ⟨hg,qe rfl⟩
theorem znU (T:Txt K mg A F):FnOk P w K mg base (CX1 P w) 11 (F.f 42) (F.fd 42) ["_law_hall","_law_act_here"] (spDo A):=by
 have G__law_call:=@zkO P w K mg base A F T
 refine T.zp7.okN zer (λ vs H Q E h=>?_) (λ cdv A' outer s H vs Q E hr h=>?_)
 . obtain ⟨ρ,ad,s,kq,act,T0,ns,rfl,_⟩:=h
   rfl
 . obtain ⟨ρ,ad,s,kq,act,T0,ns,rfl,hh,R,ht,hn,ok,hq,q⟩:=h
   refine ⟨_,(zac (zaL (i:=2) zer.nd rfl (by walk_at "loc") zfD)
    (zac (ztd rfl rfl rfl rfl rfl T.zez T.znz (λ E pn xe hp=>(zae (zaL (i:=2) zer.nd rfl (by walk_at "loc") (zaE G__law_call (hmr hr) rfl T.zmg T.zmc T.zmu .nil hp (zaa (pv 0) (zaa (pv 1) zad)))))) (λ e=>(zae (zaL (i:=2) zer.nd rfl (by walk_at "loc") zaV))))
    (zae (zar (pv 2))))),?_⟩
   refine ⟨_,rfl,_,rfl,ρ,ad,s,kq,act,T0,ns,rfl,hh,R,ht,hn,ok,hq,λ v H' ρ' ad' a1 a2 a3=>⟨_,rfl,q _ H' ρ' ad' a1 a2 a3⟩,λ e=>⟨rfl,?_⟩⟩
   refine ⟨_,rfl,q _ H ρ ad rfl ?_ .refl⟩
   rw [e]; exact hh
theorem zhF (T:Txt K mg A F):FnOk P w K mg base (CX1 P w) 1 (F.f 43) (F.fd 43) ["self"] (zt0 A):=by
 refine T.zom.okN zlV (λ vs H Q E h=>?_) (λ cdv A' outer s H vs Q E hr h=>?_)
 . obtain ⟨ρ,ad,s,kv,rfl,_⟩:=h
   rfl
 . obtain ⟨ρ,ad,s,kv,rfl,hh,q⟩:=h
   obtain ⟨dx,hp⟩:=hh.hall
   obtain ⟨us,hus,tus⟩:=hh.rows
   refine ⟨_,(zae (zar (zbT zce (by rfl) T.zhL boot_tuple (zaa (zam (pv 0) rfl) zad)))),?_⟩
   exact ⟨_,rfl,_,_,dx,_,_,rfl,hp,T.zaj,T.zb1,rfl,ad .rows,_,rfl,.inl ⟨SqL.of hus,λ n nn=>q _ n us nn (Same.zaw nn) zab (zbu (Same.zaw nn) tus)⟩⟩
theorem zdJ (T:Txt K mg A F):FnOk P w K mg base (CX1 P w) 3 (F.f 50) (F.fd 50) ["self","deed"] (zoC A):=by
 have G_Hall_record_of:=@zbh P w K mg base A F T
 refine T.ziq.okX zgV (λ vs H Q E h=>?_) (λ cdv A' outer s H vs Q E hr h=>?_)
 . obtain ⟨ρ,ad,s,kv,i,rfl,_⟩:=h
   rfl
 . obtain ⟨ρ,ad,s,kv,i,rfl,hh,hn,q⟩:=h
   obtain ⟨dx,hp⟩:=hh.hall
   refine ⟨_,(zae (zar (zam (zat (pv 0) T.zaj T.zbx G_Hall_record_of (hmr hr) T.zbz .nil zaN (zaa (pv 1) zad)) rfl))),?_⟩
   refine ⟨_,rfl,_,dx,_,rfl,hp,rfl,_,rfl,ρ,ad,s,kv,i,rfl,hh,hn,?_⟩
   rcases q with ⟨d,rfl,hd,q⟩ | q
   rotate_left
   . exact .inr q
   obtain ⟨dr,w0,hrc,_⟩:=hh.rcd hd
   exact .inl ⟨d,rfl,hd,_,_,dr,_,_,rfl,hrc,T.zav,T.zay,rfl,q⟩
theorem zl3 (T:Txt K mg A F):FnOk P w K mg base (CX1 P w) 3 (F.f 45) (F.fd 45) ["self"] (ztY A):=by
 have G_rising_pairs:=@zec P w K mg base A F T
 refine T.zol.okN zlU (λ vs H Q E h=>?_) (λ cdv A' outer s H vs Q E hr h=>?_)
 . obtain ⟨ρ,ad,s,kv,rfl,_⟩:=h
   rfl
 . obtain ⟨ρ,ad,s,kv,rfl,hh,h4,nd,hk,q⟩:=h
   obtain ⟨dx,hp⟩:=hh.hall
   obtain ⟨l,hl,hb⟩:=hh.zci
   refine ⟨_,(zae (zar (zaE G_rising_pairs (hmr hr) rfl T.zeN T.zeL T.zeO .nil zaz (zaa (zam (pv 0) rfl) zad)))),?_⟩
   refine ⟨_,rfl,_,_,dx,_,_,rfl,hp,T.zaj,T.zbc,rfl,_,l,_,rfl,hl,hb,Nat.le_trans (hb.len nd hk) h4,λ H' q' us m e t=>q H' q' us (l.map (·.1)) m e (λ k=>?_) t⟩
   constructor
   . intro h
     obtain ⟨p,hp,rfl⟩:=List.mem_map.mp h
     rw [(hb.mem p.1 p.2).mp hp]; exact λ z=>nomatch z
   . intro h
     cases e:s.book k with
     | none=>exact absurd e h
     | some v=>exact List.mem_map.mpr ⟨(k,v),(hb.mem k v).mpr e,rfl⟩
theorem zjH (T:Txt K mg A F):FnOk P w K mg base (CX1 P w) 2 (F.f 49) (F.fd 49) ["_law_hall"] (zrL A):=by
 have G_Hall_log:=@zhF P w K mg base A F T
 refine T.zlD.okN zjr (λ vs H Q E h=>?_) (λ cdv A' outer s H vs Q E hr h=>?_)
 . obtain ⟨ρ,ad,s,kv,rfl,_⟩:=h
   rfl
 . obtain ⟨ρ,ad,s,kv,rfl,hh,hl,q⟩:=h
   obtain ⟨dx,hp⟩:=hh.hall
   refine ⟨_,(zae (zar (zbp zbn (by rfl) T.zk0 PySem.boot_len (zaa (zfa 1 [] ["_law_row"] rfl (by walk_at "blk") (zm3 (zb6 (pv 0) T.zaj T.zi2 G_Hall_log (hmr hr) T.zjg .nil zaz)) (λ C fp s H=>(za2 (i:=0) (show (["_law_row"]:List Str).Nodup by decide +kernel) rfl (by walk_at "loc"))) (λ C fp s H=>zhy (zaA zb3 (zbd (zpt (K:=K) rfl) (pv 0) zal (λ _ _=>rfl)) zaV (zaD _))) (λ C fp s H=>(pv 0))) zad)))),?_⟩
   refine ⟨_,rfl,_,dx,_,rfl,hp,rfl,ρ,ad,s,kv,rfl,hh,λ H1 qt us nq m1 e1 t1=>⟨qt,rfl,⟨_,SqT.of e1⟩,?_⟩⟩
   have hul:us.length=s.log.length:=by rw [t1.length,List.length_map]
   refine znt (xs:=us) (λ i ys σ H2=>∃ v0,σ=[v0]/\H2=H1/\ys.length=(logB (s.log.take i)).length/\ys.length<=i) ⟨none,rfl,rfl,rfl,Nat.le_refl _⟩ (λ i ys σ H2 ⟨_,_,e,_,hy⟩=>⟨SqT.of (by rw [e]; exact e1),hy⟩) (by rw [hul,sizeLine_eq]; omega) ?_ ?_
   . rintro i x ys σ H2 hlt hx ⟨v0,rfl,rfl,hy,hyi⟩
     obtain ⟨y,hy1,r,rfl,hr1⟩:=zdu t1 hx
     rw [List.getElem?_map] at hy1
     obtain ⟨row,hrow,rfl⟩:=Option.map_eq_some_iff.mp hy1
     have ei:s.log.take (i+1)=s.log.take i++[row]:=by rw [List.take_add_one,hrow]; rfl
     obtain ⟨t,et,db⟩:=zqn row
     refine ⟨_,rfl,r,_,_,V.str t,rfl,rfl,SqT.of hr1,zbt (j:=0) (by rw [et]; rfl),rfl,_,rfl,?_⟩
     refine zeM (rowB row) db ?_
     cases hb:rowB row with
     | true =>
      refine iteT ⟨_,rfl,nx hlt ⟨_,rfl,rfl,?_,?_⟩⟩
      . rw [ei,znc,hb,List.length_append,hy]; rfl
      . rw [List.length_append,List.length_singleton]; omega
     | false =>
      refine iteF (nx hlt ⟨_,rfl,rfl,?_,by omega⟩)
      rw [ei,znc,hb,hy]; rfl
   . rintro ys σ H2 ⟨v0,rfl,rfl,hy,hyi⟩
     rw [hul,List.take_length] at hy
     intro n hn
     refine ⟨n,_,rfl,.inl (SqL.of zab),?_⟩
     have:=q _ (m1.upd2 (o:=.lst ys) hn)
     rw [<-hy] at this; exact this
theorem zjJ (T:Txt K mg A F):FnOk P w K mg base (CX1 P w) 9 (F.f 36) (F.fd 36) ["self","deed","key"] (zrH A):=by
 have G_Hall_refuse_unless_going:=@zaH P w K mg base A F T
 have G_Want_init:=@zc1 P w K mg base A F T
 have G_Hall_ask:=@zdC P w K mg base A F T
 refine T.zir.okX zgE (λ vs H Q E h=>?_) (λ cdv A' outer s H vs Q E hr h=>?_)
 . obtain ⟨ρ,ad,s,kv,i,k,rfl,_⟩:=h
   rfl
 . obtain ⟨ρ,ad,s,kv,i,k,rfl,hh,hn,q⟩:=h
   obtain ⟨dx,hp⟩:=hh.hall
   refine ⟨_,(zac (zaG (zat (pv 0) T.zaj T.zaI G_Hall_refuse_unless_going (hmr hr) T.zaK .nil zaN (zaa (pv 1) zad)))
     (zae (zar (zat (pv 0) T.zaj T.zet G_Hall_ask (hmr hr) T.zeB .nil zaz (zaa (pv 1) (zaa (zjD T.zjR G_Want_init (hmr hr) rfl T.znl T.zdF .nil zaz (zaa (zcr rfl T.zlg) (zaa (pv 2) (zaa zfD zad)))) zad)))))),?_⟩
   refine ⟨_,rfl,_,dx,_,rfl,hp,rfl,_,rfl,ρ,ad,s,kv,i,rfl,hh,hn,?_⟩
   rcases q with ⟨d,rfl,hd,hg,q⟩ | q
   . exact .inl ⟨d,rfl,hd,.inr ⟨hg,q⟩⟩
   . exact .inr q
theorem ziB (T:Txt K mg A F):FnOk P w K mg base (CX1 P w) 9 (F.f 37) (F.fd 37) ["self","deed","key","value"] (zqc A):=by
 have G_Hall_refuse_unless_going:=@zaH P w K mg base A F T
 have G_Want_init:=@zc1 P w K mg base A F T
 have G_Hall_ask:=@zdC P w K mg base A F T
 refine T.zgS.okX zfv (λ vs H Q E h=>?_) (λ cdv A' outer s H vs Q E hr h=>?_)
 . obtain ⟨ρ,ad,s,kv,i,k,v,rfl,_⟩:=h
   rfl
 . obtain ⟨ρ,ad,s,kv,i,k,v,rfl,hh,hn,q⟩:=h
   obtain ⟨dx,hp⟩:=hh.hall
   refine ⟨_,(zac (zaG (zat (pv 0) T.zaj T.zaI G_Hall_refuse_unless_going (hmr hr) T.zaK .nil zaN (zaa (pv 1) zad)))
     (zae (zar (zat (pv 0) T.zaj T.zet G_Hall_ask (hmr hr) T.zeB .nil zaz (zaa (pv 1) (zaa (zjD T.zjR G_Want_init (hmr hr) rfl T.znl T.zdF .nil zaz (zaa (zcr rfl T.zcR) (zaa (pv 2) (zaa (pv 3) zad)))) zad)))))),?_⟩
   refine ⟨_,rfl,_,dx,_,rfl,hp,rfl,_,rfl,ρ,ad,s,kv,i,rfl,hh,hn,?_⟩
   rcases q with ⟨d,rfl,hd,hg,q⟩ | q
   . exact .inl ⟨d,rfl,hd,.inr ⟨hg,q⟩⟩
   . exact .inr q
theorem zfe (T:Txt K mg A F):FnOk P w K mg base (CX1 P w) 2 (F.f 52) (F.fd 52) ["self","deed","use"] spNo:=by
 exact T.zgA.okN zfx (λ vs H Q E h=>h.elim) (λ cdv A' outer s H vs Q E hr h=>h.elim)
theorem zfF (T:Txt K mg A F):FnOk P w K mg base (CX1 P w) 3 (F.f 53) (F.fd 53) ["self","deed"] (zqd A):=by
 have G_Hall_record_of:=@zbh P w K mg base A F T
 have G_Desk_waited_for:=@zfe P w K mg base A F T
 refine T.zg7.okX zdi (λ vs H Q E h=>?_) (λ cdv A' outer s H vs Q E hr h=>?_)
 . obtain ⟨ρ,ad,s,kv,i,rfl,_⟩:=h
   rfl
 . obtain ⟨ρ,ad,s,kv,i,rfl,hh,hn,q⟩:=h
   have hu:=zei hr
   obtain ⟨dx,hp⟩:=hh.hall
   refine ⟨_,(zac (zaL (i:=2) zdi.nd rfl (by walk_at "loc") (zam (zat (pv 0) T.zaj T.zbx G_Hall_record_of (hmr hr) T.zbz .nil zaN (zaa (pv 1) zad)) rfl))
    (zac (zbk (zfA (zrd (pv 2))) (zae (zar (zbC zad))) zaF)
    (zae (zar (zat (zdB hu (zam (pv 0) rfl) (zam (pv 2) rfl) (λ _ _=>rfl)) T.zaU T.zgk G_Desk_waited_for (hmr hr) T.zgw .nil zaz (zaa (pv 1) (zaa (zam (pv 2) rfl) zad))))))),?_⟩
   exact ⟨_,rfl,_,dx,_,rfl,hp,rfl,_,rfl,ρ,ad,s,kv,i,rfl,hh,hn,.inr q⟩
theorem zl0 (T:Txt K mg A F):FnOk P w K mg base (CX1 P w) 10 (F.f 54) (F.fd 54) ["_law_hall","_law_way","_law_deed"] (ztX A):=by
 have G_Hall_read:=@zjJ P w K mg base A F T
 have G_Hall_write:=@ziB P w K mg base A F T
 have G_Hall_keep:=@zgH P w K mg base A F T
 have G_Hall_give_up:=@zed P w K mg base A F T
 have G_Hall_state_of:=@zdJ P w K mg base A F T
 have G_Hall_done_by:=@zhH P w K mg base A F T
 have G_Hall_waits_for:=@zfF P w K mg base A F T
 refine T.zoi.okX zlS (λ vs H Q E h=>?_) (λ cdv A' outer s H vs Q E hr h=>?_)
 . obtain ⟨ρ,ad,s,i,way,T0,b,rfl,_⟩:=h
   rfl
 . obtain ⟨ρ,ad,s,i,way,T0,b,rfl,hh,R,dn,hw,hb,q⟩:=h
   obtain ⟨dx,hp⟩:=hh.hall
   have hn:s.n<=1000:=by have:=R.L.n; omega
   have ne:∀ m n:Nat,m≠n->decide (V.int (m:Int)=V.int (n:Int))=false:=λ m n h=>decide_eq_false λ z=>h (by have:=V.int.inj z; omega)
   refine ⟨_,(zac (zbk (zaA zb3 (pv 1) zal (zaD _)) (zae (zar (zat (pv 0) T.zaj T.zhO G_Hall_read (hmr hr) T.zih .nil zaN (zaa (pv 2) (zaa zaV zad))))) zaF)
     (zac (zbk (zaA zb3 (pv 1) zal (zaD _)) (zae (zar (zat (pv 0) T.zaj T.zgK G_Hall_write (hmr hr) T.zgQ .nil zaN (zaa (pv 2) (zaa zaV (zaa zal zad)))))) zaF)
     (zac (zbk (zaA zb3 (pv 1) zal (zaD _)) (zae (zar (zat (pv 0) T.zaj T.zhP G_Hall_keep (hmr hr) T.zii .nil zaN (zaa (pv 2) zad)))) zaF)
     (zac (zbk (zaA zb3 (pv 1) zal (zaD _)) (zae (zar (zat (pv 0) T.zaj T.zeJ G_Hall_give_up (hmr hr) T.zeP .nil zaN (zaa (pv 2) zad)))) zaF)
     (zac (zbk (zaA zb3 (pv 1) zal (zaD _)) (zae (zar (zat (pv 0) T.zaj T.zcP G_Hall_state_of (hmr hr) T.zcT .nil zaN (zaa (pv 2) zad)))) zaF)
     (zac (zbk (zaA zb3 (pv 1) zal (zaD _)) (zae (zar (zat (pv 0) T.zaj T.ziE G_Hall_done_by (hmr hr) T.ziJ .nil zaN (zaa (pv 2) zad)))) zaF)
     (zae (zar (zat (pv 0) T.zaj T.zgW G_Hall_waits_for (hmr hr) T.zg2 .nil zaN (zaa (pv 2) zad)))))))))),?_⟩
   obtain rfl | rfl | rfl | rfl | rfl | rfl | rfl:way=0\/way=1\/way=2\/way=3\/way=4\/way=5\/way=6:=by omega
   . refine ⟨_,rfl,rfl,_,rfl,zbl (decide_eq_true rfl) ?_⟩
     exact ⟨_,rfl,_,dx,_,rfl,hp,rfl,_,rfl,ρ,ad,s,_,i,"q",rfl,hh,hn,hb.ref (by decide) q⟩
   . refine ⟨_,rfl,rfl,_,rfl,zaJ (ne 1 0 (by decide)) ⟨_,rfl,rfl,_,rfl,zbl (decide_eq_true rfl) ?_⟩⟩
     exact ⟨_,rfl,_,dx,_,rfl,hp,rfl,_,rfl,ρ,ad,s,_,i,"q",5,rfl,hh,hn,hb.ref (by decide) q⟩
   . refine ⟨_,rfl,rfl,_,rfl,zaJ (ne 2 0 (by decide)) ⟨_,rfl,rfl,_,rfl,zaJ (ne 2 1 (by decide)) ⟨_,rfl,rfl,_,rfl,zbl (decide_eq_true rfl) ?_⟩⟩⟩
     exact ⟨_,rfl,_,dx,_,rfl,hp,rfl,_,rfl,ρ,ad,s,i,T0,rfl,hh,R,hb.ifg (by decide) q⟩
   . refine ⟨_,rfl,rfl,_,rfl,zaJ (ne 3 0 (by decide)) ⟨_,rfl,rfl,_,rfl,zaJ (ne 3 1 (by decide)) ⟨_,rfl,rfl,_,rfl,zaJ (ne 3 2 (by decide)) ⟨_,rfl,rfl,_,rfl,zbl (decide_eq_true rfl) ?_⟩⟩⟩⟩
     refine ⟨_,rfl,_,dx,_,rfl,hp,rfl,_,rfl,ρ,ad,s,i,T0,rfl,hh,R,?_⟩
     rcases hb with ⟨rfl,hb⟩ | ⟨rfl,d,rfl,hd,hb | hb⟩
     . exact .inr ⟨hb,q⟩
     . exact absurd hb.1 (by decide)
     . exact .inl ⟨d,rfl,hd,.inr ⟨hb.2,q⟩⟩
   . refine ⟨_,rfl,rfl,_,rfl,zaJ (ne 4 0 (by decide)) ⟨_,rfl,rfl,_,rfl,zaJ (ne 4 1 (by decide)) ⟨_,rfl,rfl,_,rfl,zaJ (ne 4 2 (by decide)) ⟨_,rfl,rfl,_,rfl,zaJ (ne 4 3 (by decide)) ⟨_,rfl,rfl,_,rfl,zbl (decide_eq_true rfl) ?_⟩⟩⟩⟩⟩
     exact ⟨_,rfl,_,dx,_,rfl,hp,rfl,_,rfl,ρ,ad,s,_,i,rfl,hh,hn,.inr (hb.out (by decide) q)⟩
   . refine ⟨_,rfl,rfl,_,rfl,zaJ (ne 5 0 (by decide)) ⟨_,rfl,rfl,_,rfl,zaJ (ne 5 1 (by decide)) ⟨_,rfl,rfl,_,rfl,zaJ (ne 5 2 (by decide)) ⟨_,rfl,rfl,_,rfl,zaJ (ne 5 3 (by decide)) ⟨_,rfl,rfl,_,rfl,zaJ (ne 5 4 (by decide)) ⟨_,rfl,rfl,_,rfl,zbl (decide_eq_true rfl) ?_⟩⟩⟩⟩⟩⟩
     exact ⟨_,rfl,_,dx,_,rfl,hp,rfl,_,rfl,ρ,ad,s,_,i,rfl,hh,hn,dn,.inr (hb.out (by decide) q)⟩
   . refine ⟨_,rfl,rfl,_,rfl,zaJ (ne 6 0 (by decide)) ⟨_,rfl,rfl,_,rfl,zaJ (ne 6 1 (by decide)) ⟨_,rfl,rfl,_,rfl,zaJ (ne 6 2 (by decide)) ⟨_,rfl,rfl,_,rfl,zaJ (ne 6 3 (by decide)) ⟨_,rfl,rfl,_,rfl,zaJ (ne 6 4 (by decide)) ⟨_,rfl,rfl,_,rfl,zaJ (ne 6 5 (by decide)) ?_⟩⟩⟩⟩⟩⟩
     exact ⟨_,rfl,_,dx,_,rfl,hp,rfl,_,rfl,ρ,ad,s,_,i,rfl,hh,hn,hb.out (by decide) q⟩
theorem zkM (T:Txt K mg A F):FnOk P w K mg base (CX1 P w) 11 (F.f 55) (F.fd 55) ["_law_hall","_law_way","_law_deed"] (zsT A):=by
 have G__law_try:=@zl0 P w K mg base A F T
 refine T.zmG.okN zcY (λ vs H Q E h=>?_) (λ cdv A' outer s H vs Q E hr h=>?_)
 . obtain ⟨ρ,ad,s,i,way,T0,b,rfl,_⟩:=h
   rfl
 . obtain ⟨ρ,ad,s,i,way,T0,b,rfl,hh,R,dn,hw,hb,q⟩:=h
   have hc:excC A b∈[A.zbB,A.zaP]:=by
    unfold excC
    cases b
    . exact List.mem_cons_of_mem _ List.mem_cons_self
    . exact List.mem_cons_self
   refine ⟨_,(zac (zaL (i:=3) zcY.nd rfl (by walk_at "loc") zaV)
    (zac (zqr (i:=4) (Cs:=[A.zbB,A.zaP]) rfl rfl rfl rfl rfl T.zmj T.zlH T.us zcY.nd rfl rfl (λ E pn xe hp=>(zae (zaG (zaE G__law_try (hmr hr) rfl T.zn8 T.zn1 T.zod .nil hp (zaa (pv 0) (zaa (pv 1) (zaa (pv 2) zad))))))) (λ ex C ob pn hC hc hp=>(zae (zbk (zkG (zbp (zie (K:=K) (ex:=ex) rfl (T.ek C hC) hc hp) (by rfl) T.zcs boot_isinstance (zaa (pv 4) (zaa (zrZ rfl T.zk2 zsq) zad)))) (zae (zaL (i:=3) zcY.nd rfl (by walk_at "loc") (zb7 (zaa (zbp (zie (K:=K) (ex:=ex) rfl (T.ek C hC) hc hp) (by rfl) T.zcs boot_isinstance (zaa (pv 4) (zaa (zjE (v:=.ref A.zbB) rfl T.znm rfl) zad))) (zaa (zbp (zie (K:=K) (ex:=ex) rfl (T.ek C hC) hc hp) (by rfl) T.zcs boot_isinstance (zaa (pv 4) (zaa (zjE (v:=.ref A.zaP) rfl T.zez rfl) zad))) zad))))) zaF))))
    (zae (zar (pv 3))))),?_⟩
   refine ⟨_,rfl,_,rfl,_,rfl,ρ,ad,s,i,way,T0,b,rfl,hh,R,dn,hw,hb,excC A b,hc,rfl,λ ex=>?_⟩
   refine ⟨_,rfl,.ty "ValueError",true,rfl,.inl ⟨_,rfl⟩,T.iv _ hc,_,rfl,iteT ?_⟩
   have k1:PySem.W.kitOne K (.ref (excC A b)) (.ref A.zbB)=some b:=by
    cases b
    . exact T.zgp
    . exact T.zh3
   have k2:PySem.W.kitOne K (.ref (excC A b)) (.ref A.zaP)=some (!b):=by
    cases b
    . exact T.zfk
    . exact T.zgq
   refine ⟨_,rfl,.ref A.zbB,b,rfl,.inr ⟨_,rfl⟩,k1,_,rfl,.ref A.zaP,!b,rfl,.inr ⟨_,rfl⟩,k2,sz2,λ n hn=>?_⟩
   exact ⟨_,rfl,q _ n (Same.zaw hn) zab⟩
theorem zjG (T:Txt K mg A F):FnOk P w K mg base (CX1 P w) 4 (F.f 48) (F.fd 48) ["_law_hall"] (zrG A):=by
 have G_Hall_log:=@zhF P w K mg base A F T
 have G_Hall_now:=@zl3 P w K mg base A F T
 have G_Hall_kept_book:=@zgh P w K mg base A F T
 have G_Hall_order:=@zjK P w K mg base A F T
 refine T.zlC.okN zjq (λ vs H Q E h=>?_) (λ cdv A' outer s H vs Q E hr h=>?_)
 . obtain ⟨ρ,ad,s,kv,rfl,_⟩:=h
   rfl
 . obtain ⟨ρ,ad,s,kv,rfl,hh,h4,nd,hb,hk,kp,q⟩:=h
   obtain ⟨dx,hp⟩:=hh.hall
   refine ⟨_,(zae (zar (zbC (zaa (zb6 (pv 0) T.zaj T.zi2 G_Hall_log (hmr hr) T.zjg .nil zaz) (zaa (zb6 (pv 0) T.zaj T.znX G_Hall_now (hmr hr) T.zof .nil zaz) (zaa (zb6 (pv 0) T.zaj T.zgY G_Hall_kept_book (hmr hr) T.zg4 .nil zaz) (zaa (zb6 (pv 0) T.zaj T.zk3 G_Hall_order (hmr hr) T.zly .nil zaz) zad))))))),?_⟩
   refine ⟨_,rfl,_,dx,_,rfl,hp,rfl,ρ,ad,s,kv,rfl,hh,λ H1 q1 us1 n1 m1 e1 t1=>?_⟩
   refine ⟨_,rfl,_,dx,_,rfl,m1 _ _ hp,rfl,ρ,ad,s,kv,rfl,hh.grow m1,h4,nd,hb,λ H2 q2 us2 ks2 m2 e2 k2 t2=>?_⟩
   have m12:=m1.trans m2
   refine ⟨_,rfl,_,dx,_,rfl,m12 _ _ hp,rfl,ρ,ad,s,kv,rfl,hh.grow m12,h4,nd,hk,λ H3 q3 us3 ks3 m3 e3 k3 t3=>?_⟩
   have m13:=m12.trans m3
   refine ⟨_,rfl,_,dx,_,rfl,m13 _ _ hp,rfl,ρ,ad,s,kv,rfl,hh.grow m13,kp,λ H4 q4 m4 e4=>?_⟩
   have m14:=m13.trans m4
   refine ⟨sz4,λ n hn=>?_⟩
   have m5:=Same.zaw (o:=.tup [.ref q1,.ref q2,.ref q3,.ref q4]) hn
   have m25:=(m2.trans (m3.trans m4)).trans m5
   have m35:=(m3.trans m4).trans m5
   refine q _ n (m14.upd2 hn) (.tup zab (.cons (.tup (m25 _ _ e1) (zoQ (zbu m25 t1))) (.cons (znv (m35 _ _ e2) hb k2 (zbu m35 t2)) (.cons (znv ((m4.trans m5) _ _ e3) hk k3 (zbu (m4.trans m5) t3)) (.cons (.tup (m5 _ _ e4) (zpx _)) .nil)))))
theorem ztl (T:Txt K mg A F):FnOk P w K mg base (CX1 P w) 12 (F.f 56) (F.fd 56) ["_law_script"] (zsV K):=by
 have G_Hall_init:=@zkT P w K mg base A F T
 have G__law_acts:=@zkP P w K mg base A F T
 have G__law_do:=@znU P w K mg base A F T
 have G__law_count:=@zjH P w K mg base A F T
 have G__law_cell:=@zc0 P w K mg base A F T
 have G__law_shown:=@zjG P w K mg base A F T
 have G__law_said:=@zkM P w K mg base A F T
 have G_Hall_state_of:=@zdJ P w K mg base A F T
 refine T.zum.okN zeE (λ vs H Q E h=>?_) (λ cdv A' outer s H vs Q E hr h=>?_)
 . obtain ⟨a,ns,rfl,_⟩:=h
   rfl
 . obtain ⟨a,ns,rfl,hS,q⟩:=h
   have hu64:=hu64 hr
   refine ⟨_,(zac (zaL (i:=1) zeE.nd rfl (by walk_at "loc") (zjC T.zr8 G_Hall_init (hmr hr) rfl T.zty T.zmy .nil zaz))
     (zac (zeH PassesOwn.never rfl (zdc (zaE G__law_acts (hmr hr) rfl T.zmh T.zmd T.zmv .nil zaz (zaa (pv 0) zad))) (za2 (i:=2) zeE.nd rfl (by walk_at "loc")) (zae (zaG (zaE G__law_do (hmr hr) rfl T.zpE T.zpq T.zp4 .nil zaz (zaa (pv 1) (zaa (pv 2) zad))))))
     (zac (zaL (i:=3) zeE.nd rfl (by walk_at "loc") (zaE G__law_shown (hmr hr) rfl T.zgO T.zgN T.zgP .nil zaz (zaa (pv 1) zad)))
     (zac (zaL (i:=4) zeE.nd rfl (by walk_at "loc") (zaE G__law_count (hmr hr) rfl T.zle T.zlb T.zlx .nil zaz (zaa (pv 1) zad)))
     (zac (zaL (i:=5) zeE.nd rfl (by walk_at "loc") (zcm zhE (zaE G__law_cell (hmr hr) rfl T.zbI T.zbH T.zbJ .nil zaz (zaa (pv 0) (zaa zal zad))) (zcm ztj zal zal)))
     (zac (zaL (i:=6) zeE.nd rfl (by walk_at "loc") (zbd zbi (zb7 (zaa (zcm zo3 (zqu zmU zal) (pv 5)) (zaa (pv 4) (zaa (zcm zgG (pv 4) (pv 5)) zad)))) (zcm zhE (zaE G__law_cell (hmr hr) rfl T.zbI T.zbH T.zbJ .nil zaz (zaa (pv 0) (zaa zal zad))) zal) (λ _ _=>rfl)))
     (zac (zeH PassesOwn.never rfl (zfC rfl T.zjQ (zaa zal zad)) (za2 (i:=7) zeE.nd rfl (by walk_at "loc")) (zae (zbk (zaA (zo4 hu64) (zaE G__law_said (hmr hr) rfl T.zfm T.zfj T.zfo .nil zaz (zaa (pv 1) (zaa (pv 7) (zaa (pv 6) zad)))) (zb7 (zaa zix (zaa zix zad))) (zaD _)) (zae (zar zix)) zaF)))
     (zac (zeH PassesOwn.never rfl (zfC rfl T.zjQ (zaa (pv 4) zad)) (za2 (i:=8) zeE.nd rfl (by walk_at "loc")) (zac (zbk (zaA zo5 (zat (pv 1) T.zaj T.zcP G_Hall_state_of (hmr hr) T.zcT .nil zaz (zaa (pv 8) zad)) zaV (zaD _)) (zae (zeH PassesOwn.never rfl (zdc (zb7 (zaa zal (zaa zal (zaa zal zad))))) (za2 (i:=7) zeE.nd rfl (by walk_at "loc")) (zae (zbk (zaA (zo4 hu64) (zaE G__law_said (hmr hr) rfl T.zfm T.zfj T.zfo .nil zaz (zaa (pv 1) (zaa (pv 7) (zaa (pv 8) zad)))) (zb7 (zaa zix (zaa zix zad))) (zaD _)) (zae (zar zix)) zaF)))) zaF)
     (zae (zbk (PW.pt (zm0 (zaA zo6 (zat (pv 1) T.zaj T.zcP G_Hall_state_of (hmr hr) T.zcT .nil zaz (zaa (pv 8) zad)) (zb7 (zaa zaV (zaa zaV zad))) (by with_unfolding_all rfl)) (zjv (zaA (zo4 hu64) (zaE G__law_said (hmr hr) rfl T.zfm T.zfj T.zfo .nil zaz (zaa (pv 1) (zaa zal (zaa (pv 8) zad)))) (zb7 (zaa zix (zaa zix zad))) (zaD _))))) (zae (zar zix)) zaF))))
     (zae (zar (zdd (ztk hu64) (zaE G__law_shown (hmr hr) rfl T.zgO T.zgN T.zgP .nil zaz (zaa (pv 1) zad)) (pv 3) (zaD _)))))))))))),?_⟩
   intro x dx nxx ndx nex
   refine ⟨x,dx,rfl,zab,λ H1 ρ ad ea hh kp=>⟨rfl,?_⟩⟩
   have s0:Same H (upd (upd H dx (.own x)) x (.ins A.zaX dx [])):=(Same.zaw ndx).upd2 (by rw [zaf nex.symm]; exact nxx)
   have s1:Same H H1:=λ b o e=>(kp b o (s0 b o e) (zah e nxx)).1
   have hh:zai A ρ ad TH.empty (zas (TH.empty:HS Str)) H1:=hh
   have ap:Apart K ρ H1 a (ns.map V.int):=by
     rcases Apart.of (ρ:=λ _=>Role.other) hS (λ _ _=>rfl) with ⟨o,e,_,k⟩ | k
     . exact .inl ⟨o,s1 _ _ e,(kp a o (s0 a o e) (zah e nxx)).2,k⟩
     . exact .inr k
   refine ⟨_,rfl,a,ns,rfl,s1.seq hS,λ H2 qa us As nq m2 hq tu fu vd hl=>⟨qa,rfl,⟨_,SqL.of hq⟩,?_⟩⟩
   have hul:us.length=As.length:=by rw [tu.length,List.length_map]
   refine zeA (xs:=us) (λ i σ H3=>∃ s ρ' ad' v2,σ=[some (.ref a),some (.ref x),v2,none,none,none,none,none,none]/\ad' Role.hall=x/\zai A ρ' ad' s (zas s) H3/\Run ns s i/\zaW s/\s.n=zds (As.take i)/\H3 qa=some (.lst us)/\ρ' qa=.other/\(∀ p,V.ref p∈us->ρ' p=.other)/\zap H3 us (As.map actD)/\Apart K ρ' H3 a (ns.map V.int)) ⟨TH.empty,ρ,ad,none,rfl,ea,hh.grow m2,⟨Ready.empty,λ k h=>by cases h⟩,All.empty.l,rfl,hq,hh.fr _ nq,λ p h=>hh.fr _ (fu p h),tu,ap.frame (Frame.grow m2)⟩ (λ i σ H3 _ ⟨_,_,_,_,_,_,_,_,_,_,e,_⟩=>SqL.of e) ?_ ?_
   . rintro i y σ H3 hy ⟨s,ρ3,ad3,v2,rfl,ea3,h3,R3,l3,n3,hq3,ro3,rp3,t3,ap3⟩
     have hi:i < us.length:=(List.getElem?_eq_some_iff.mp hy).1
     obtain ⟨z,hz,kq,rfl,hkq⟩:=zdu t3 hy
     rw [List.getElem?_map] at hz
     obtain ⟨act,hact,rfl⟩:=Option.map_eq_some_iff.mp hz
     have ok3:=vd i act hact
     rw [<-n3] at ok3
     have hn3:s.n < 63:=by
       have:=zlw (As.take i)
       rw [List.length_take] at this
       omega
     have e5:As.take (i+1)=As.take i++[act]:=by rw [List.take_add_one,hact]; rfl
     obtain ⟨R4,n4⟩:=R3.step (by omega) hn3 ok3
     have l4:=zqE R3 l3 act
     subst ea3
     refine ⟨_,rfl,_,rfl,ρ3,ad3,s,kq,act,i,ns,rfl,h3,R3,by omega,hn3,ok3,hkq,λ v H4 ρ4 ad4 ea4 h4 f4=>?_⟩
     generalize hs':zf2 s act=s' at *
     obtain ⟨t4,r4⟩:=ziS f4 rp3 t3
     exact ⟨s',ρ4,ad4,_,rfl,ea4,h4,R4,l4,by rw [e5,zfn,n4,n3],(f4 _ _ hq3 ro3).1,(f4 _ _ hq3 ro3).2,r4,t4,ap3.frame f4⟩
   . rintro σ H3 ⟨s,ρ3,ad3,v2,rfl,ea3,h3,R3,l3,n3,_,_,_,_,ap3⟩
     have hn3:s.n<=63:=by
       rw [hul,List.take_length] at n3
       have:=zlw As
       omega
     have sm:=R3.r.L.sm R3.r.c
     have kb:∀ k,s.book k≠none->k∈s.seen:=R3.r.L.e.zg1
     have ks:∀ k,zas s k≠none->k∈s.seen:=R3.r.L.e.zpm
     have okk:∀ k∈s.seen,PyData.strOk k=true:=λ k hk=>by
       obtain ⟨j,_,rfl⟩:=R3.k k hk
       exact zts ns j
     have rk:zmE s.seen s.log:=(zqF R3.r.L.e l3).rows
     have dok:zmp (zkv s (zas s)):=zqk rk okk
     subst ea3
     obtain ⟨dx3,hp3⟩:=h3.hall
     refine ⟨_,rfl,ρ3,ad3,s,_,rfl,h3,R3.r.L.sn,R3.r.L.e.snd,kb,ks,sm.kp,λ H4 pb m4 d4=>?_⟩
     refine ⟨_,rfl,ρ3,ad3,s,_,rfl,h3.grow m4,sm.lg,λ H5 m5=>?_⟩
     rw [l3.b,List.length_range]
     have m35:=m4.trans m5
     have d5:=d4.mono m5
     have ap5:=ap3.frame (Frame.grow (ρ:=ρ3) m35)
     refine ⟨_,rfl,a,ns,1,rfl,ap5.sq,10,20,rfl,rfl,⟨by decide,by decide,by decide⟩,_,_,rfl,rfl,(show (0:Int) < 10 ^ (20:Int).toNat by decide),?_⟩
     let by_:Int:=za1 ns 1 % 10 ^ (20:Int).toNat
     have h0:0<=by_:=Int.emod_nonneg _ (by decide)
     refine ⟨1,rfl,_,rfl,_,_,rfl,rfl,_,rfl,_,rfl,_,rfl,_,_,rfl,rfl,sz3,λ n hn=>?_⟩
     let H6:Hp:=upd H5 n (.lst [V.int (-1 - by_),V.int s.n,V.int (s.n+by_)])
     have m6:Same H3 H6:=m35.upd2 hn
     have e6:H6 n=some (.lst [V.int (-1 - by_),V.int s.n,V.int (s.n+by_)]):=zab
     have d6:DV H6 (.ref pb) (zkv s (zas s)):=d5.mono (Same.zaw hn)
     obtain ⟨bad,hbad,hb⟩:∃ bad:Int,atI [V.int (-1 - by_),V.int s.n,V.int (s.n+by_)] (za1 ns 2 % 3)=some (V.int bad)/\(bad < 0\/(s.n:Int)<=bad):=by
       have h1:=Int.emod_nonneg (za1 ns 2) (show (3:Int)≠0 by decide)
       have h2:=Int.emod_lt_of_pos (za1 ns 2) (show (0:Int) < 3 by decide)
       generalize za1 ns 2 % 3=j at h1 h2 ⊢
       obtain rfl | rfl | rfl:j=0\/j=1\/j=2:=by omega
       . exact ⟨_,rfl,by omega⟩
       . exact ⟨_,rfl,by omega⟩
       . exact ⟨_,rfl,by omega⟩
     refine ⟨_,rfl,a,ns,2,rfl,(ap3.frame (Frame.grow (ρ:=ρ3) m6)).sq,_,_,rfl,rfl,(show (0:Int) < 3 by decide),n,_,_,_,rfl,rfl,SqL.of e6,hbad,?_⟩
     refine ⟨7,rfl,by decide,by decide,?_⟩
     refine zlj (n:=7) (λ i σ G=>∃ v7,σ=[some (.ref a),some (.ref (ad3 .hall)),v2,some (.ref pb),some (.int s.n),some (.int by_),some (.int bad),v7,none]/\Same H6 G) ⟨_,rfl,λ _ _ e=>e⟩ ?_ ?_
     . rintro i σ G hi ⟨v7,rfl,mG⟩
       rw [Int.zero_add]
       refine ⟨_,rfl,_,rfl,_,rfl,ρ3,ad3,s,_,i,us.length,true,rfl,h3.grow (m6.trans mG),R3.r,sm.dn,hi,.inl ⟨rfl,hb⟩,λ G' p mG' e=>?_⟩
       refine ⟨sz2,λ n2 hn2=>⟨p,n2,true,false,rfl,rfl,zax e hn2,zab,_,rfl,zaJ rfl ?_⟩⟩
       exact ⟨_,rfl,(mG.trans mG').upd2 hn2⟩
     . rintro σ G ⟨v7,rfl,mG⟩
       refine ⟨_,rfl,_,rfl,by omega,by omega,?_⟩
       refine zlj (n:=s.n) (λ i σ G=>∃ v7 v8,σ=[some (.ref a),some (.ref (ad3 .hall)),v2,some (.ref pb),some (.int s.n),some (.int by_),some (.int bad),v7,v8]/\Same H6 G) ⟨_,_,rfl,mG⟩ ?_ ?_
       . rintro d σ G hd ⟨v7,v8,rfl,mG⟩
         rw [Int.zero_add]
         have mG3:=m6.trans mG
         refine zrT (λ σ' G'=>∃ v7,σ'=[some (.ref a),some (.ref (ad3 .hall)),v2,some (.ref pb),some (.int s.n),some (.int by_),some (.int bad),v7,some (.int (d:Int))]/\Same H6 G') ?_ λ W1 hV=>?_
         . rintro σ' G' ⟨v7',rfl,mG'⟩
           have mG4:=m6.trans mG'
           refine ⟨_,rfl,_,dx3,_,rfl,mG4 _ _ hp3,rfl,_,rfl,ρ3,ad3,s,_,d,rfl,h3.grow mG4,by omega,.inl ⟨d,rfl,hd,?_⟩⟩
           refine ⟨sz2,λ n3 hn3=>⟨n3,_,rfl,.inl (SqL.of zab),rfl,rfl,_,rfl,?_⟩⟩
           have mG5:Same H6 (upd G' n3 (.lst [V.str "kept",V.str "given up"])):=mG'.upd2 hn3
           by_cases ha:(s.deed d).act
           . exact zaJ (zsN ha) ⟨_,_,rfl,mG5⟩
           . refine zbl (zsP ha) ⟨_,rfl,_,rfl,ρ3,ad3,s,_,3,us.length,false,rfl,h3.grow (m6.trans mG5),R3.r,sm.dn,by decide,.inr ⟨rfl,d,rfl,hd,.inr ⟨rfl,ha⟩⟩,λ G6 p mG6 e=>?_⟩
             refine ⟨sz2,λ n2 hn2=>⟨p,n2,false,true,rfl,rfl,zax e hn2,zab,_,rfl,zaJ rfl ⟨_,_,rfl,(mG5.trans mG6).upd2 hn2⟩⟩⟩
         . refine ⟨_,rfl,_,dx3,_,rfl,mG3 _ _ hp3,rfl,_,rfl,ρ3,ad3,s,_,d,rfl,h3.grow mG3,by omega,.inl ⟨d,rfl,hd,rfl,_,rfl,?_⟩⟩
           by_cases hg:(s.deed d).st=.zaq
           . refine zaJ (by rw [hg]; rfl) (hV _ _ ⟨_,rfl,mG⟩)
           . refine zbl (zsO hg) ⟨sz3,λ l hl=>⟨l,rfl,⟨_,SqL.of zab⟩,?_⟩⟩
             have mG5:Same H6 (upd G l (.lst [V.int 0,V.int 1,V.int 2])):=mG.upd2 hl
             have e5:upd G l (.lst [V.int 0,V.int 1,V.int 2]) l=some (.lst [V.int 0,V.int 1,V.int 2]):=zab
             generalize upd G l (.lst [V.int 0,V.int 1,V.int 2])=G5 at *
             refine zeA (xs:=[V.int 0,V.int 1,V.int 2]) (λ i σ G'=>∃ v7,σ=[some (.ref a),some (.ref (ad3 .hall)),v2,some (.ref pb),some (.int s.n),some (.int by_),some (.int bad),v7,some (.int (d:Int))]/\Same G5 G') ⟨_,rfl,λ _ _ e=>e⟩ (λ i σ G' _ ⟨_,_,e⟩=>SqL.of (e _ _ e5)) ?_ ?_
             . rintro i y σ G' hy ⟨v7',rfl,mG'⟩
               have hi:i < 3:=(List.getElem?_eq_some_iff.mp hy).1
               have ey:y=V.int (i:Int):=by
                obtain rfl | rfl | rfl:i=0\/i=1\/i=2:=by omega
                all_goals (cases hy; rfl)
               subst ey
               refine ⟨_,rfl,_,rfl,_,rfl,ρ3,ad3,s,_,i,us.length,false,rfl,h3.grow (m6.trans (mG5.trans mG')),R3.r,sm.dn,by omega,.inr ⟨rfl,d,rfl,hd,.inl ⟨hi,hg⟩⟩,λ G6 p mG6 e=>?_⟩
               refine ⟨sz2,λ n2 hn2=>⟨p,n2,false,true,rfl,rfl,zax e hn2,zab,_,rfl,zaJ rfl ⟨_,rfl,(mG'.trans mG6).upd2 hn2⟩⟩⟩
             . rintro σ G' ⟨v7',rfl,mG'⟩
               exact hV _ _ ⟨_,rfl,mG5.trans mG'⟩
       . rintro σ G ⟨v7,v8,rfl,mG⟩
         refine ⟨_,rfl,ρ3,ad3,s,_,rfl,h3.grow (m6.trans mG),R3.r.L.sn,R3.r.L.e.snd,kb,ks,sm.kp,λ G' p mG' dG=>?_⟩
         refine ⟨_,rfl,_,_,dG,(d6.mono mG).mono mG',dok,dok,?_⟩
         simpa using q G'
end
end TP
end
section
namespace TP
open PySem L2 TH PyProof.Rows
def AA:Ad:=⟨64,102,180,427,207,219⟩
def ff:List Addr:=[235,445,438,450,457,464,82,242,28,340,347,120,125,132,139,153,42,368,160,177,396,389,382,94,410,35,99,165,146,424,417,403,375,361,354,61,249,256,263,89,270,471,478,333,47,312,319,326,504,483,277,284,170,305,490,497,511]
def FF (K:PySem.W.Frag):Fs:=⟨λ i=>(ff++[194]).getD i 0,λ i=>fdOf K (ff.getD i 0)⟩
def exps:List (Option FV):=[fE "__init__" "Hall.__init__" ze3,fE "_law_mix" "_law_mix" zf8,fE "_law_cell" "_law_cell" zeV,fE "_law_key" "_law_key" zf9,fE "_law_act" "_law_act" zga,fE "_law_acts" "_law_acts" zeX,fE "__init__" "Record.__init__" zdy,fE "begin" "Hall.begin" zd8,fE "is_whole" "is_whole" zf6,fE "record_of" "Hall.record_of" zcz,fE "refuse_unless_going" "Hall.refuse_unless_going" zbb,fE "__init__" "Desk.__init__" ze7,fE "hindering" "Desk.hindering" zcD,fE "lets" "Desk.lets" ze6,fE "lets_at_once" "Desk.lets_at_once" zbW,fE "take" "Desk.take" ze5,fE "value_under" "value_under" zdw,fE "carry_out" "Hall.carry_out" zcC,fE "line_up" "Desk.line_up" zdb,fE "next_waited_for" "Desk.next_waited_for" zbA,fE "next_from" "Hall.next_from" zcA,fE "come_to" "Hall.come_to" zda,fE "greatest_all_round" "Hall.greatest_all_round" zbg,fE "written" "Record.written" zcx,fE "undo" "Hall.undo" ze0,fE "rising_keys" "rising_keys" zdx,fE "touched_keys" "Record.touched_keys" zbE,fE "leave" "Desk.leave" zd9,fE "lets_first" "Desk.lets_first" zcl,fE "let_on" "Hall.let_on" zdz,fE "end" "Hall.end" zgd,fE "drop" "Hall.drop" ze4,fE "wait" "Hall.wait" zeZ,fE "answer" "Hall.answer" zdA,fE "ask" "Hall.ask" zge,fE "__init__" "Want.__init__" zeY,fE "read" "Hall.read" ze1,fE "write" "Hall.write" zd6,fE "keep" "Hall.keep" ze2,fE "is_at_end" "Record.is_at_end" zb5,fE "give_up" "Hall.give_up" zc8,fE "_law_call" "_law_call" zeW,fE "_law_do" "_law_do" zhu,fE "log" "Hall.log" zgc,fE "rising_pairs" "rising_pairs" zc7,fE "now" "Hall.now" zgb,fE "kept_book" "Hall.kept_book" zcB,fE "order" "Hall.order" zd7,fE "_law_shown" "_law_shown" zd4,fE "_law_count" "_law_count" zd5,fE "state_of" "Hall.state_of" zcO,fE "done_by" "Hall.done_by" zc9,fE "waited_for" "Desk.waited_for" zck,fE "waits_for" "Hall.waits_for" zcy,fE "_law_try" "_law_try" zf7,fE "_law_said" "_law_said" zeU,fE "law" "law" zoO]
def bs (K:PySem.W.Frag):List Bool:=[PySem.W.plainGet K 64 Str.empty,PySem.W.hasDictIn K 64,PySem.W.plainOver K 64,fi K 64 "__setattr__" == some (some (.builtin "object.__setattr__")),fi K 64 "use" == some none,fi K 64 "key" == some none,fi K 64 "value" == some none,gl K "Want" == some (some (.ref 64)),PySem.W.makesIn K 64,fi K 64 "__init__" == some (some (.ref 61)),PySem.W.keepIn K (.ref 64),PySem.W.plainGet K 102 Str.empty,PySem.W.hasDictIn K 102,PySem.W.plainOver K 102,fi K 102 "__setattr__" == some (some (.builtin "object.__setattr__")),fi K 102 "state" == some none,fi K 102 "did" == some none,fi K 102 "want" == some none,gl K "Record" == some (some (.ref 102)),PySem.W.makesIn K 102,fi K 102 "__init__" == some (some (.ref 82)),PySem.W.keepIn K (.ref 102),PySem.W.plainGet K 180 Str.empty,PySem.W.hasDictIn K 180,PySem.W.plainOver K 180,fi K 180 "__setattr__" == some (some (.builtin "object.__setattr__")),fi K 180 "held" == some none,fi K 180 "row" == some none,gl K "Desk" == some (some (.ref 180)),PySem.W.makesIn K 180,fi K 180 "__init__" == some (some (.ref 120)),PySem.W.keepIn K (.ref 180),PySem.W.plainGet K 427 Str.empty,PySem.W.hasDictIn K 427,PySem.W.plainOver K 427,fi K 427 "__setattr__" == some (some (.builtin "object.__setattr__")),fi K 427 "records" == some none,fi K 427 "desks" == some none,fi K 427 "standing" == some none,fi K 427 "kept_values" == some none,fi K 427 "kept_deeds" == some none,fi K 427 "rows" == some none,gl K "Hall" == some (some (.ref 427)),PySem.W.makesIn K 427,fi K 427 "__init__" == some (some (.ref 235)),PySem.W.keepIn K (.ref 427),gl K "_law_mix" == some (some (.ref 445)),gl K "_law_cell" == some (some (.ref 438)),gl K "_law_key" == some (some (.ref 450)),gl K "_law_act" == some (some (.ref 457)),gl K "_law_acts" == some (some (.ref 464)),fi K 427 "begin" == some (some (.ref 242)),gl K "is_whole" == some (some (.ref 28)),fi K 427 "record_of" == some (some (.ref 340)),fi K 427 "refuse_unless_going" == some (some (.ref 347)),fi K 180 "hindering" == some (some (.ref 125)),fi K 180 "lets" == some (some (.ref 132)),fi K 180 "lets_at_once" == some (some (.ref 139)),fi K 180 "take" == some (some (.ref 153)),gl K "value_under" == some (some (.ref 42)),fi K 427 "carry_out" == some (some (.ref 368)),fi K 180 "line_up" == some (some (.ref 160)),fi K 180 "next_waited_for" == some (some (.ref 177)),fi K 427 "next_from" == some (some (.ref 396)),fi K 427 "come_to" == some (some (.ref 389)),fi K 427 "greatest_all_round" == some (some (.ref 382)),fi K 102 "written" == some (some (.ref 94)),fi K 427 "undo" == some (some (.ref 410)),gl K "rising_keys" == some (some (.ref 35)),fi K 102 "touched_keys" == some (some (.ref 99)),fi K 180 "leave" == some (some (.ref 165)),fi K 180 "lets_first" == some (some (.ref 146)),fi K 427 "let_on" == some (some (.ref 424)),fi K 427 "end" == some (some (.ref 417)),fi K 427 "drop" == some (some (.ref 403)),fi K 427 "wait" == some (some (.ref 375)),fi K 427 "answer" == some (some (.ref 361)),fi K 427 "ask" == some (some (.ref 354)),fi K 427 "read" == some (some (.ref 249)),fi K 427 "write" == some (some (.ref 256)),fi K 427 "keep" == some (some (.ref 263)),fi K 102 "is_at_end" == some (some (.ref 89)),fi K 427 "give_up" == some (some (.ref 270)),gl K "_law_call" == some (some (.ref 471)),gl K "_law_do" == some (some (.ref 478)),fi K 427 "log" == some (some (.ref 333)),gl K "rising_pairs" == some (some (.ref 47)),fi K 427 "now" == some (some (.ref 312)),fi K 427 "kept_book" == some (some (.ref 319)),fi K 427 "order" == some (some (.ref 326)),gl K "_law_shown" == some (some (.ref 504)),gl K "_law_count" == some (some (.ref 483)),fi K 427 "state_of" == some (some (.ref 277)),fi K 427 "done_by" == some (some (.ref 284)),fi K 180 "waited_for" == some (some (.ref 170)),fi K 427 "waits_for" == some (some (.ref 305)),gl K "_law_try" == some (some (.ref 490)),gl K "_law_said" == some (some (.ref 497)),gl K "law" == some (some (.ref 511)),gs K "BEGIN" "begin",gi K "FIRST_VALUE" 0,gs K "GIVEN_UP" "given up",gs K "GIVE_UP" "give up",gs K "GOING" "going",gs K "KEEP" "keep",gs K "KEPT" "kept",gs K "READ" "read",gs K "READING" "reading",gs K "WAITING" "waiting",gs K "WRITE" "write",gs K "WRITING" "writing",gl K "NoDeed" == some (some (.ref 207)),PySem.W.excIn K 207 [.type "ValueError",.type "Exception",.type "BaseException",.type "object"] "ValueError.__new__",gl K "NotGoing" == some (some (.ref 219)),PySem.W.excIn K 219 [.type "ValueError",.type "Exception",.type "BaseException",.type "object"] "ValueError.__new__",PySem.W.ktsIn K 219 "BaseException",gl K "HallError" == some (some (.ref 194)),PySem.W.ktsIn K 194 "BaseException",PySem.W.specialIn K (.builtin "object.__class__") "__get__" == some (some (.builtin "getset_descriptor.__get__")),PySem.W.takesIn K (.builtin "object.__class__") == some true,PySem.W.mroIn K 207 (.ref 194) == some true,fi K 207 "__getattribute__" == some (some (.builtin "BaseException.__getattribute__")),fi K 207 "__getattr__" == some none,fi K 207 "__class__" == some (some (.builtin "object.__class__")),PySem.W.mroIn K 207 (.type "object") == some true,PySem.W.mroIn K 207 (.type "BaseException") == some true,PySem.W.kitOne K (.ref 207) (.type "ValueError") == some true,PySem.W.kitOne K (.ref 207) (.ref 207) == some true,PySem.W.kitOne K (.ref 207) (.ref 219) == some false,PySem.W.mroIn K 219 (.ref 194) == some true,fi K 219 "__getattribute__" == some (some (.builtin "BaseException.__getattribute__")),fi K 219 "__getattr__" == some none,fi K 219 "__class__" == some (some (.builtin "object.__class__")),PySem.W.mroIn K 219 (.type "object") == some true,PySem.W.mroIn K 219 (.type "BaseException") == some true,PySem.W.kitOne K (.ref 219) (.type "ValueError") == some true,PySem.W.kitOne K (.ref 219) (.ref 207) == some false,PySem.W.kitOne K (.ref 219) (.ref 219) == some true,gl K "ValueError" == some none,gl K "bool" == some none,gl K "int" == some none,gl K "isinstance" == some none,gl K "len" == some none,gl K "range" == some none,gl K "set" == some none,gl K "sorted" == some none,gl K "tuple" == some none]
def qq:Program:={ PySem.Challenge.pw_turnhall_k03_refusals with main:={ PySem.Challenge.pw_turnhall_k03_refusals.main with body:=[zoO] } }
def lo:List Str:=(PySem.Challenge.pw_turnhall_k03_refusals.main.scope.names.map (·.1)).filter λ x=>!(x == "law")
def kk (h:Heap):PySem.W.Frag:=Kof (3::List.range' 11 501) h
def OB (K:PySem.W.Frag):Prop:=ff.map (fV K)=exps/\(bs K).all id=true
theorem zsB {K:PySem.W.Frag} {h:Heap} {mg:Str->Option Value} (X:K.In h) (G:h.Ns mainGlobals mg) (o:OB K):Txt K mg AA (FF K):=by
 obtain ⟨h1,h2⟩:=o
 exact ⟨⟨by decide,by decide,by decide,by decide,by decide,by decide⟩,
  ⟨bt h2 0 rfl,bt h2 1 rfl,bt h2 2 rfl,eq_of_beq (bt h2 3 rfl)⟩,
  eq_of_beq (bt h2 4 rfl),
  eq_of_beq (bt h2 5 rfl),
  eq_of_beq (bt h2 6 rfl),
  PySem.W.mg_of X G (eq_of_beq (bt h2 7 rfl)),
  ⟨bt h2 8 rfl,eq_of_beq (bt h2 9 rfl),fu2 h1 35 rfl rfl,bt h2 10 rfl⟩,
  ⟨bt h2 11 rfl,bt h2 12 rfl,bt h2 13 rfl,eq_of_beq (bt h2 14 rfl)⟩,
  eq_of_beq (bt h2 15 rfl),
  eq_of_beq (bt h2 16 rfl),
  eq_of_beq (bt h2 17 rfl),
  PySem.W.mg_of X G (eq_of_beq (bt h2 18 rfl)),
  ⟨bt h2 19 rfl,eq_of_beq (bt h2 20 rfl),fu2 h1 6 rfl rfl,bt h2 21 rfl⟩,
  ⟨bt h2 22 rfl,bt h2 23 rfl,bt h2 24 rfl,eq_of_beq (bt h2 25 rfl)⟩,
  eq_of_beq (bt h2 26 rfl),
  eq_of_beq (bt h2 27 rfl),
  PySem.W.mg_of X G (eq_of_beq (bt h2 28 rfl)),
  ⟨bt h2 29 rfl,eq_of_beq (bt h2 30 rfl),fu2 h1 11 rfl rfl,bt h2 31 rfl⟩,
  ⟨bt h2 32 rfl,bt h2 33 rfl,bt h2 34 rfl,eq_of_beq (bt h2 35 rfl)⟩,
  eq_of_beq (bt h2 36 rfl),
  eq_of_beq (bt h2 37 rfl),
  eq_of_beq (bt h2 38 rfl),
  eq_of_beq (bt h2 39 rfl),
  eq_of_beq (bt h2 40 rfl),
  eq_of_beq (bt h2 41 rfl),
  PySem.W.mg_of X G (eq_of_beq (bt h2 42 rfl)),
  ⟨bt h2 43 rfl,eq_of_beq (bt h2 44 rfl),fu2 h1 0 rfl rfl,bt h2 45 rfl⟩,
  fu h1 0 rfl rfl,
  (fu h1 0 rfl rfl).binds λ _ _ _ _ _ _ us hl=>match us,hl with | [_],_=>rfl,
  fu h1 1 rfl rfl,
  (fu h1 1 rfl rfl).binds λ _ _ _ _ _ _ us hl=>match us,hl with | [_,_,_],_=>rfl,
  PySem.W.mg_of X G (eq_of_beq (bt h2 46 rfl)),
  fu3 h1 1 rfl rfl,
  fu h1 2 rfl rfl,
  (fu h1 2 rfl rfl).binds λ _ _ _ _ _ _ us hl=>match us,hl with | [_,_],_=>rfl,
  PySem.W.mg_of X G (eq_of_beq (bt h2 47 rfl)),
  fu3 h1 2 rfl rfl,
  fu h1 3 rfl rfl,
  (fu h1 3 rfl rfl).binds λ _ _ _ _ _ _ us hl=>match us,hl with | [_,_],_=>rfl,
  PySem.W.mg_of X G (eq_of_beq (bt h2 48 rfl)),
  fu3 h1 3 rfl rfl,
  fu h1 4 rfl rfl,
  (fu h1 4 rfl rfl).binds λ _ _ _ _ _ _ us hl=>match us,hl with | [_,_,_],_=>rfl,
  PySem.W.mg_of X G (eq_of_beq (bt h2 49 rfl)),
  fu3 h1 4 rfl rfl,
  fu h1 5 rfl rfl,
  (fu h1 5 rfl rfl).binds λ _ _ _ _ _ _ us hl=>match us,hl with | [_],_=>rfl,
  PySem.W.mg_of X G (eq_of_beq (bt h2 50 rfl)),
  fu3 h1 5 rfl rfl,
  fu h1 6 rfl rfl,
  (fu h1 6 rfl rfl).binds λ _ _ _ _ _ _ us hl=>match us,hl with | [_],_=>rfl,
  fu h1 7 rfl rfl,
  (fu h1 7 rfl rfl).binds λ _ _ _ _ _ _ us hl=>match us,hl with | [_],_=>rfl,
  ⟨eq_of_beq (bt h2 51 rfl),fu2 h1 7 rfl rfl,fu3 h1 7 rfl rfl⟩,
  fu h1 8 rfl rfl,
  (fu h1 8 rfl rfl).binds λ _ _ _ _ _ _ us hl=>match us,hl with | [_],_=>rfl,
  PySem.W.mg_of X G (eq_of_beq (bt h2 52 rfl)),
  fu3 h1 8 rfl rfl,
  fu h1 9 rfl rfl,
  (fu h1 9 rfl rfl).binds λ _ _ _ _ _ _ us hl=>match us,hl with | [_,_],_=>rfl,
  ⟨eq_of_beq (bt h2 53 rfl),fu2 h1 9 rfl rfl,fu3 h1 9 rfl rfl⟩,
  fu h1 10 rfl rfl,
  (fu h1 10 rfl rfl).binds λ _ _ _ _ _ _ us hl=>match us,hl with | [_,_],_=>rfl,
  ⟨eq_of_beq (bt h2 54 rfl),fu2 h1 10 rfl rfl,fu3 h1 10 rfl rfl⟩,
  fu h1 11 rfl rfl,
  (fu h1 11 rfl rfl).binds λ _ _ _ _ _ _ us hl=>match us,hl with | [_],_=>rfl,
  fu h1 12 rfl rfl,
  (fu h1 12 rfl rfl).binds λ _ _ _ _ _ _ us hl=>match us,hl with | [_,_,_],_=>rfl,
  ⟨eq_of_beq (bt h2 55 rfl),fu2 h1 12 rfl rfl,fu3 h1 12 rfl rfl⟩,
  fu h1 13 rfl rfl,
  (fu h1 13 rfl rfl).binds λ _ _ _ _ _ _ us hl=>match us,hl with | [_,_,_],_=>rfl,
  ⟨eq_of_beq (bt h2 56 rfl),fu2 h1 13 rfl rfl,fu3 h1 13 rfl rfl⟩,
  fu h1 14 rfl rfl,
  (fu h1 14 rfl rfl).binds λ _ _ _ _ _ _ us hl=>match us,hl with | [_,_,_],_=>rfl,
  ⟨eq_of_beq (bt h2 57 rfl),fu2 h1 14 rfl rfl,fu3 h1 14 rfl rfl⟩,
  fu h1 15 rfl rfl,
  (fu h1 15 rfl rfl).binds λ _ _ _ _ _ _ us hl=>match us,hl with | [_,_,_],_=>rfl,
  ⟨eq_of_beq (bt h2 58 rfl),fu2 h1 15 rfl rfl,fu3 h1 15 rfl rfl⟩,
  fu h1 16 rfl rfl,
  (fu h1 16 rfl rfl).binds λ _ _ _ _ _ _ us hl=>match us,hl with | [_,_],_=>rfl,
  PySem.W.mg_of X G (eq_of_beq (bt h2 59 rfl)),
  fu3 h1 16 rfl rfl,
  fu h1 17 rfl rfl,
  (fu h1 17 rfl rfl).binds λ _ _ _ _ _ _ us hl=>match us,hl with | [_,_,_],_=>rfl,
  ⟨eq_of_beq (bt h2 60 rfl),fu2 h1 17 rfl rfl,fu3 h1 17 rfl rfl⟩,
  fu h1 18 rfl rfl,
  (fu h1 18 rfl rfl).binds λ _ _ _ _ _ _ us hl=>match us,hl with | [_,_,_],_=>rfl,
  ⟨eq_of_beq (bt h2 61 rfl),fu2 h1 18 rfl rfl,fu3 h1 18 rfl rfl⟩,
  fu h1 19 rfl rfl,
  (fu h1 19 rfl rfl).binds λ _ _ _ _ _ _ us hl=>match us,hl with | [_,_,_],_=>rfl,
  ⟨eq_of_beq (bt h2 62 rfl),fu2 h1 19 rfl rfl,fu3 h1 19 rfl rfl⟩,
  fu h1 20 rfl rfl,
  (fu h1 20 rfl rfl).binds λ _ _ _ _ _ _ us hl=>match us,hl with | [_,_],_=>rfl,
  ⟨eq_of_beq (bt h2 63 rfl),fu2 h1 20 rfl rfl,fu3 h1 20 rfl rfl⟩,
  fu h1 21 rfl rfl,
  (fu h1 21 rfl rfl).binds λ _ _ _ _ _ _ us hl=>match us,hl with | [_,_],_=>rfl,
  ⟨eq_of_beq (bt h2 64 rfl),fu2 h1 21 rfl rfl,fu3 h1 21 rfl rfl⟩,
  fu h1 22 rfl rfl,
  (fu h1 22 rfl rfl).binds λ _ _ _ _ _ _ us hl=>match us,hl with | [_,_],_=>rfl,
  ⟨eq_of_beq (bt h2 65 rfl),fu2 h1 22 rfl rfl,fu3 h1 22 rfl rfl⟩,
  fu h1 23 rfl rfl,
  (fu h1 23 rfl rfl).binds λ _ _ _ _ _ _ us hl=>match us,hl with | [_],_=>rfl,
  ⟨eq_of_beq (bt h2 66 rfl),fu2 h1 23 rfl rfl,fu3 h1 23 rfl rfl⟩,
  fu h1 24 rfl rfl,
  (fu h1 24 rfl rfl).binds λ _ _ _ _ _ _ us hl=>match us,hl with | [_,_],_=>rfl,
  ⟨eq_of_beq (bt h2 67 rfl),fu2 h1 24 rfl rfl,fu3 h1 24 rfl rfl⟩,
  fu h1 25 rfl rfl,
  (fu h1 25 rfl rfl).binds λ _ _ _ _ _ _ us hl=>match us,hl with | [_],_=>rfl,
  PySem.W.mg_of X G (eq_of_beq (bt h2 68 rfl)),
  fu3 h1 25 rfl rfl,
  fu h1 26 rfl rfl,
  (fu h1 26 rfl rfl).binds λ _ _ _ _ _ _ us hl=>match us,hl with | [_],_=>rfl,
  ⟨eq_of_beq (bt h2 69 rfl),fu2 h1 26 rfl rfl,fu3 h1 26 rfl rfl⟩,
  fu h1 27 rfl rfl,
  (fu h1 27 rfl rfl).binds λ _ _ _ _ _ _ us hl=>match us,hl with | [_,_],_=>rfl,
  ⟨eq_of_beq (bt h2 70 rfl),fu2 h1 27 rfl rfl,fu3 h1 27 rfl rfl⟩,
  fu h1 28 rfl rfl,
  (fu h1 28 rfl rfl).binds λ _ _ _ _ _ _ us hl=>match us,hl with | [_],_=>rfl,
  ⟨eq_of_beq (bt h2 71 rfl),fu2 h1 28 rfl rfl,fu3 h1 28 rfl rfl⟩,
  fu h1 29 rfl rfl,
  (fu h1 29 rfl rfl).binds λ _ _ _ _ _ _ us hl=>match us,hl with | [_,_],_=>rfl,
  ⟨eq_of_beq (bt h2 72 rfl),fu2 h1 29 rfl rfl,fu3 h1 29 rfl rfl⟩,
  fu h1 30 rfl rfl,
  (fu h1 30 rfl rfl).binds λ _ _ _ _ _ _ us hl=>match us,hl with | [_,_,_],_=>rfl,
  ⟨eq_of_beq (bt h2 73 rfl),fu2 h1 30 rfl rfl,fu3 h1 30 rfl rfl⟩,
  fu h1 31 rfl rfl,
  (fu h1 31 rfl rfl).binds λ _ _ _ _ _ _ us hl=>match us,hl with | [_,_],_=>rfl,
  ⟨eq_of_beq (bt h2 74 rfl),fu2 h1 31 rfl rfl,fu3 h1 31 rfl rfl⟩,
  fu h1 32 rfl rfl,
  (fu h1 32 rfl rfl).binds λ _ _ _ _ _ _ us hl=>match us,hl with | [_,_,_],_=>rfl,
  ⟨eq_of_beq (bt h2 75 rfl),fu2 h1 32 rfl rfl,fu3 h1 32 rfl rfl⟩,
  fu h1 33 rfl rfl,
  (fu h1 33 rfl rfl).binds λ _ _ _ _ _ _ us hl=>match us,hl with | [_,_,_],_=>rfl,
  ⟨eq_of_beq (bt h2 76 rfl),fu2 h1 33 rfl rfl,fu3 h1 33 rfl rfl⟩,
  fu h1 34 rfl rfl,
  (fu h1 34 rfl rfl).binds λ _ _ _ _ _ _ us hl=>match us,hl with | [_,_,_],_=>rfl,
  ⟨eq_of_beq (bt h2 77 rfl),fu2 h1 34 rfl rfl,fu3 h1 34 rfl rfl⟩,
  fu h1 35 rfl rfl,
  (fu h1 35 rfl rfl).binds λ _ _ _ _ _ _ us hl=>match us,hl with | [_,_,_,_],_=>rfl,
  fu h1 36 rfl rfl,
  (fu h1 36 rfl rfl).binds λ _ _ _ _ _ _ us hl=>match us,hl with | [_,_,_],_=>rfl,
  ⟨eq_of_beq (bt h2 78 rfl),fu2 h1 36 rfl rfl,fu3 h1 36 rfl rfl⟩,
  fu h1 37 rfl rfl,
  (fu h1 37 rfl rfl).binds λ _ _ _ _ _ _ us hl=>match us,hl with | [_,_,_,_],_=>rfl,
  ⟨eq_of_beq (bt h2 79 rfl),fu2 h1 37 rfl rfl,fu3 h1 37 rfl rfl⟩,
  fu h1 38 rfl rfl,
  (fu h1 38 rfl rfl).binds λ _ _ _ _ _ _ us hl=>match us,hl with | [_,_],_=>rfl,
  ⟨eq_of_beq (bt h2 80 rfl),fu2 h1 38 rfl rfl,fu3 h1 38 rfl rfl⟩,
  fu h1 39 rfl rfl,
  (fu h1 39 rfl rfl).binds λ _ _ _ _ _ _ us hl=>match us,hl with | [_],_=>rfl,
  ⟨eq_of_beq (bt h2 81 rfl),fu2 h1 39 rfl rfl,fu3 h1 39 rfl rfl⟩,
  fu h1 40 rfl rfl,
  (fu h1 40 rfl rfl).binds λ _ _ _ _ _ _ us hl=>match us,hl with | [_,_],_=>rfl,
  ⟨eq_of_beq (bt h2 82 rfl),fu2 h1 40 rfl rfl,fu3 h1 40 rfl rfl⟩,
  fu h1 41 rfl rfl,
  (fu h1 41 rfl rfl).binds λ _ _ _ _ _ _ us hl=>match us,hl with | [_,_],_=>rfl,
  PySem.W.mg_of X G (eq_of_beq (bt h2 83 rfl)),
  fu3 h1 41 rfl rfl,
  fu h1 42 rfl rfl,
  (fu h1 42 rfl rfl).binds λ _ _ _ _ _ _ us hl=>match us,hl with | [_,_],_=>rfl,
  PySem.W.mg_of X G (eq_of_beq (bt h2 84 rfl)),
  fu3 h1 42 rfl rfl,
  fu h1 43 rfl rfl,
  (fu h1 43 rfl rfl).binds λ _ _ _ _ _ _ us hl=>match us,hl with | [_],_=>rfl,
  ⟨eq_of_beq (bt h2 85 rfl),fu2 h1 43 rfl rfl,fu3 h1 43 rfl rfl⟩,
  fu h1 44 rfl rfl,
  (fu h1 44 rfl rfl).binds λ _ _ _ _ _ _ us hl=>match us,hl with | [_],_=>rfl,
  PySem.W.mg_of X G (eq_of_beq (bt h2 86 rfl)),
  fu3 h1 44 rfl rfl,
  fu h1 45 rfl rfl,
  (fu h1 45 rfl rfl).binds λ _ _ _ _ _ _ us hl=>match us,hl with | [_],_=>rfl,
  ⟨eq_of_beq (bt h2 87 rfl),fu2 h1 45 rfl rfl,fu3 h1 45 rfl rfl⟩,
  fu h1 46 rfl rfl,
  (fu h1 46 rfl rfl).binds λ _ _ _ _ _ _ us hl=>match us,hl with | [_],_=>rfl,
  ⟨eq_of_beq (bt h2 88 rfl),fu2 h1 46 rfl rfl,fu3 h1 46 rfl rfl⟩,
  fu h1 47 rfl rfl,
  (fu h1 47 rfl rfl).binds λ _ _ _ _ _ _ us hl=>match us,hl with | [_],_=>rfl,
  ⟨eq_of_beq (bt h2 89 rfl),fu2 h1 47 rfl rfl,fu3 h1 47 rfl rfl⟩,
  fu h1 48 rfl rfl,
  (fu h1 48 rfl rfl).binds λ _ _ _ _ _ _ us hl=>match us,hl with | [_],_=>rfl,
  PySem.W.mg_of X G (eq_of_beq (bt h2 90 rfl)),
  fu3 h1 48 rfl rfl,
  fu h1 49 rfl rfl,
  (fu h1 49 rfl rfl).binds λ _ _ _ _ _ _ us hl=>match us,hl with | [_],_=>rfl,
  PySem.W.mg_of X G (eq_of_beq (bt h2 91 rfl)),
  fu3 h1 49 rfl rfl,
  fu h1 50 rfl rfl,
  (fu h1 50 rfl rfl).binds λ _ _ _ _ _ _ us hl=>match us,hl with | [_,_],_=>rfl,
  ⟨eq_of_beq (bt h2 92 rfl),fu2 h1 50 rfl rfl,fu3 h1 50 rfl rfl⟩,
  fu h1 51 rfl rfl,
  (fu h1 51 rfl rfl).binds λ _ _ _ _ _ _ us hl=>match us,hl with | [_,_],_=>rfl,
  ⟨eq_of_beq (bt h2 93 rfl),fu2 h1 51 rfl rfl,fu3 h1 51 rfl rfl⟩,
  fu h1 52 rfl rfl,
  (fu h1 52 rfl rfl).binds λ _ _ _ _ _ _ us hl=>match us,hl with | [_,_,_],_=>rfl,
  ⟨eq_of_beq (bt h2 94 rfl),fu2 h1 52 rfl rfl,fu3 h1 52 rfl rfl⟩,
  fu h1 53 rfl rfl,
  (fu h1 53 rfl rfl).binds λ _ _ _ _ _ _ us hl=>match us,hl with | [_,_],_=>rfl,
  ⟨eq_of_beq (bt h2 95 rfl),fu2 h1 53 rfl rfl,fu3 h1 53 rfl rfl⟩,
  fu h1 54 rfl rfl,
  (fu h1 54 rfl rfl).binds λ _ _ _ _ _ _ us hl=>match us,hl with | [_,_,_],_=>rfl,
  PySem.W.mg_of X G (eq_of_beq (bt h2 96 rfl)),
  fu3 h1 54 rfl rfl,
  fu h1 55 rfl rfl,
  (fu h1 55 rfl rfl).binds λ _ _ _ _ _ _ us hl=>match us,hl with | [_,_,_],_=>rfl,
  PySem.W.mg_of X G (eq_of_beq (bt h2 97 rfl)),
  fu3 h1 55 rfl rfl,
  fu h1 56 rfl rfl,
  (fu h1 56 rfl rfl).binds λ _ _ _ _ _ _ us hl=>match us,hl with | [_],_=>rfl,
  PySem.W.mg_of X G (eq_of_beq (bt h2 98 rfl)),
  fu3 h1 56 rfl rfl,
  zh5 X G (bt h2 99 rfl),
  zuf X G (bt h2 100 rfl),
  zh5 X G (bt h2 101 rfl),
  zh5 X G (bt h2 102 rfl),
  zh5 X G (bt h2 103 rfl),
  zh5 X G (bt h2 104 rfl),
  zh5 X G (bt h2 105 rfl),
  zh5 X G (bt h2 106 rfl),
  zh5 X G (bt h2 107 rfl),
  zh5 X G (bt h2 108 rfl),
  zh5 X G (bt h2 109 rfl),
  zh5 X G (bt h2 110 rfl),
  PySem.W.mg_of X G (eq_of_beq (bt h2 111 rfl)),
  bt h2 112 rfl,
  PySem.W.mg_of X G (eq_of_beq (bt h2 113 rfl)),
  bt h2 114 rfl,
  bt h2 115 rfl,
  PySem.W.mg_of X G (eq_of_beq (bt h2 116 rfl)),
  bt h2 117 rfl,
  λ C hC=>mem2 (P:=λ C=>PySem.W.mroIn K C (.ref 194)=some true) hC (eq_of_beq (bt h2 120 rfl)) (eq_of_beq (bt h2 129 rfl)),
  λ C hC=>mem2 (P:=λ C=>ExcK K C) hC ⟨eq_of_beq (bt h2 121 rfl),eq_of_beq (bt h2 122 rfl),eq_of_beq (bt h2 123 rfl),eq_of_beq (bt h2 118 rfl),eq_of_beq (bt h2 119 rfl),eq_of_beq (bt h2 124 rfl),eq_of_beq (bt h2 125 rfl)⟩ ⟨eq_of_beq (bt h2 130 rfl),eq_of_beq (bt h2 131 rfl),eq_of_beq (bt h2 132 rfl),eq_of_beq (bt h2 118 rfl),eq_of_beq (bt h2 119 rfl),eq_of_beq (bt h2 133 rfl),eq_of_beq (bt h2 134 rfl)⟩,
  λ C hC=>mem2 (P:=λ C=>PySem.W.kitOne K (.ref C) (.type "ValueError")=some true) hC (eq_of_beq (bt h2 126 rfl)) (eq_of_beq (bt h2 135 rfl)),
  eq_of_beq (bt h2 127 rfl),
  eq_of_beq (bt h2 128 rfl),
  eq_of_beq (bt h2 136 rfl),
  eq_of_beq (bt h2 137 rfl),
  PySem.W.mg_none_of X G (eq_of_beq (bt h2 138 rfl)),
  PySem.W.mg_none_of X G (eq_of_beq (bt h2 139 rfl)),
  PySem.W.mg_none_of X G (eq_of_beq (bt h2 140 rfl)),
  PySem.W.mg_none_of X G (eq_of_beq (bt h2 141 rfl)),
  PySem.W.mg_none_of X G (eq_of_beq (bt h2 142 rfl)),
  PySem.W.mg_none_of X G (eq_of_beq (bt h2 143 rfl)),
  PySem.W.mg_none_of X G (eq_of_beq (bt h2 144 rfl)),
  PySem.W.mg_none_of X G (eq_of_beq (bt h2 145 rfl)),
  PySem.W.mg_none_of X G (eq_of_beq (bt h2 146 rfl))⟩
theorem walk {q:Program} {loose:List Str} {d:DefRec} (hdf:d.params.defaults=[]) (hnm:d.name = "law"):PySem.W.WalkO q loose (λ _ _=>True) (λ _ h=>∃ K,OB K/\K.In h) PySem.Challenge.rw_turnhall_k03_refusals.row.toRowW d [] (λ f vs=>PySem.call f vs) :=
 walk2 (n:=63) (k:=12) (x := "_law_script") (CX:=λ w=>CX1 PySem.Challenge.rw_turnhall_k03_refusals.prog w) (sp:=λ K=>zsV K) rfl (by decide) hdf ⟨rfl,by decide,by decide⟩
  (λ w mg fa h K o X G hfa=>by
   have T:=zsB X G o
   have F:=fu o.1 56 rfl rfl
   rw [hnm] at hfa
   have e:=(T.zuh).symm.trans hfa
   injection e with e
   injection e with e
   subst e
   obtain ⟨oc,od,kV,dc,pm,an,cd,ct,sl,e1,e2,e3⟩:=F.ex
   refine ⟨fdOf K (ff.getD 56 0),λ s v=>?_,λ base _ _=>ztl T⟩
   have:fdOf K (ff.getD 56 0)=_:=e1
   rw [this]
   exact .of_eq rfl)
  (λ _ _ a ns hl _ hS=>⟨a,ns,rfl,hS,λ _=>rfl⟩) λ _ _ _ _ _ z=>by
   obtain ⟨_,_,_,_,_,_,_,_,_,_,_,_,z⟩:=z
   exact z
end TP
end
open PySem PySem.W PyProof.Rows
theorem TP.left:LeftO PySem.Challenge.rw_turnhall_k03_refusals.prog TP.qq TP.lo (λ _=>true) (λ s=>(TP.ff.map (TP.fV (TP.kk s.heap)),(TP.bs (TP.kk s.heap)).all id)) (λ _=>(TP.exps,true)) 6998 :=
 TP.zua (m:=11) (ann:=some (.ref 6)) (life:={}) (boot_open (by kernel_rfl) rfl λ s=>by kernel_rfl) (λ w=>by kernel_rfl) (λ w=>by kernel_rfl) λ w os=>by rw [PySem.W.Fast.te10156331382660048174,PySem.W.Fast.te11892475500146522536,PySem.W.Fast.te14364793385576792824,PySem.W.Fast.te4187177175401517315]; kernel_rfl
theorem PySem.Challenge.cw_turnhall_k03_refusals_holds : PySem.Challenge.rw_turnhall_k03_refusals.Holds := by
 refine holds_law (by rw [PySem.W.Fast.te9446332074065402090]; kernel_rfl) λ said=>holds_open (XP:=λ _ _=>True) (YP:=λ _ h=>∃ K,TP.OB K/\K.In h) (d:=TP.dOf TP.zoO) (kwd:=[]) TP.left (λ w s e=>⟨_,⟨congrArg Prod.fst e,congrArg Prod.snd e⟩,TP.ztM⟩) (λ _ h h2 ⟨K,o,x⟩ k=>⟨K,o,x.keeps k⟩) (λ _ _=>trivial) (λ _ _ _ _ _=>trivial) (by kernel_rfl) (by kernel_rfl) (by kernel_rfl) (λ s _=>recFacts_of (R:=[]) (s:=s) rfl) (by kernel_rfl) said (by kernel_rfl) ⟨rfl,rfl,rfl,rfl,rfl,by decide +kernel⟩ (by w_witness2) (TP.walk rfl rfl)
