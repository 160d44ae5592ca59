import PyProof.Rows.All
import Wide.All
import OpenK.AllK
import Wide.FinOn
import PyProof.EqAt
import PyProof.EqKinds
import PyProof.TupleCall
import PyProof.CollectWalk
import PyProof.Seq
import PyProof.SetRoads
import PyProof.DictWalks
import PyProof.DictValues
import PyProof.AttrMissHeap
import KE.KDictOf
import Lean
import PySem.Challenge.RW_turnhall_k05_whole_nobody_waits_all_roun
set_option linter.all false
set_option maxRecDepth 100000
set_option maxHeartbeats 4000000
set_option Elab.async false
section
namespace TH
inductive DS where
 | zar | waiting | kept | dropped
 deriving DecidableEq
structure Act (K:Type) where
 wr:Bool
 key:K
 val:Int
structure Deed (K:Type) where
 st:DS
 done:List (Act K)
 wish:Option (Act K)
inductive Row (K:Type) where
 | begin (d:Nat) | write (d:Nat) (k:K) (before value:Int) | keep (d:Nat) | drop (d:Nat)
structure HS (K:Type) where
 n:Nat
 deed:Nat->Deed K
 held:K->List (Nat×Bool)
 rows:K->List (Nat×Bool)
 book:K->Option Int
 seen:List K
 log:List (Row K)
 kept:List Nat
def up {α β:Type} [DecidableEq α] (f:α->β) (a:α) (b:β):α->β:=λ x=>if x=a then b else f x
section
variable {α β:Type} [DecidableEq α] {f:α->β} {a x:α} {b:β}
theorem zag:up f a b a=b:=by unfold up; rw [if_pos rfl]
theorem zao (h:x≠a):up f a b x=f x:=by unfold up; rw [if_neg h]
end
def Deed.act {K:Type} (D:Deed K):Prop:=D.st=.zar\/D.st=.waiting
section
variable {K:Type} [DecidableEq K]
abbrev Book (K:Type):=K->Option Int
def over (b:Book K):List (Act K)->Book K
 | []=>b
 | a::r=>over (if a.wr then up b a.key (some a.val) else b) r
def zaL:List (Act K)->K->Option Int
 | [],_=>none
 | a::r,k=>match zaL r k with
  | some v=>some v
  | none=>if a.wr=true/\a.key=k then some a.val else none
def replay:List (Act K)->Book K->Option (Book K)
 | [],b=>some b
 | a::r,b=>if a.wr=true then replay r (up b a.key (some a.val)) else if (b a.key).getD 0=a.val then replay r b else none
def zdF (deed:Nat->Deed K):List Nat->Book K->Option (Book K)
 | [],b=>some b
 | d::r,b=>(replay (deed d).done b).bind (zdF deed r)
def zea (deed:Nat->Deed K):List Nat->Book K->Book K
 | [],b=>b
 | d::r,b=>zea deed r (over b (deed d).done)
def zav (s:HS K):Book K:=zea s.deed s.kept λ _=>none
theorem zeX (k:K):∀ (l:List (Act K)) (b:Book K),over b l k=match zaL l k with | some v=>some v | none=>b k
 | [],b=>rfl
 | a::r,b=>by
  simp only [over,zaL]
  rw [zeX k r]
  cases h:zaL r k with
  | some v=>rfl
  | none =>
   by_cases hw:a.wr=true
   . by_cases hk:a.key=k
     . subst hk; simp [hw,zag]
     . simp [hw,hk,zao (Ne.symm hk)]
   . simp [hw]
theorem zeq (a:Act K) (k:K):∀ l:List (Act K),zaL (l++[a]) k=if a.wr=true/\a.key=k then some a.val else zaL l k
 | []=>by simp [zaL]
 | x::r=>by
  simp only [List.cons_append,zaL]
  rw [zeq a k r]
  by_cases h:a.wr=true/\a.key=k
  . simp [h]
  . simp [h]
theorem zd9 {k:K} {v:Int}:∀ {l:List (Act K)},zaL l k=some v->∃ a∈l,a.wr=true/\a.key=k
 | [],h=>by simp [zaL] at h
 | a::r,h=>by
  simp only [zaL] at h
  cases h':zaL r k with
  | some w =>
   obtain ⟨x,hx,q⟩:=zd9 h'
   exact ⟨x,List.mem_cons_of_mem _ hx,q⟩
  | none =>
   rw [h'] at h
   by_cases c:a.wr=true/\a.key=k
   . exact ⟨a,List.mem_cons_self,c⟩
   . simp [c] at h
theorem znd (l m:List (Act K)):∀ b,replay (l++m) b=(replay l b).bind (replay m):=by
 induction l with
 | nil=>intro b; rfl
 | cons a r ih =>
  intro b
  simp only [List.cons_append,replay]
  by_cases hw:a.wr=true
  . simp only [hw,if_true]; exact ih _
  . simp only [hw,if_false]
    by_cases hv:(b a.key).getD 0=a.val
    . simp only [hv,if_true]; exact ih _
    . simp only [hv,if_false]; rfl
theorem zeU:∀ {l:List (Act K)} {b c:Book K},replay l b=some c->c=over b l
 | [],b,c,h=>by simp only [replay,Option.some.injEq] at h; exact h.symm
 | a::r,b,c,h=>by
  simp only [replay] at h
  simp only [over]
  by_cases hw:a.wr=true
  . simp only [hw,if_true] at h ⊢; exact zeU h
  . simp only [hw] at h ⊢
    by_cases hv:(b a.key).getD 0=a.val
    . simp only [hv,if_true] at h; exact zeU h
    . simp [hv] at h
theorem zgZ {l:List (Act K)} {b:Book K} (h:(replay l b).isSome=true):replay l b=some (over b l):=by
 cases e:replay l b with
 | none=>rw [e] at h; cases h
 | some c=>rw [zeU e]
theorem zd3:∀ {l:List (Act K)} {b c:Book K},(∀ a∈l,b a.key=c a.key)->(replay l b).isSome=(replay l c).isSome
 | [],_,_,_=>rfl
 | a::r,b,c,h=>by
  simp only [replay]
  have hr:∀ x∈r,b x.key=c x.key:=λ x hx=>h x (List.mem_cons_of_mem _ hx)
  have ha:=h a List.mem_cons_self
  by_cases hw:a.wr=true
  . simp only [hw,if_true]
    refine zd3 λ x hx=>?_
    by_cases e:x.key=a.key
    . rw [e,zag,zag]
    . rw [zao e,zao e]; exact hr x hx
  . simp only [hw,ha]
    by_cases hv:(c a.key).getD 0=a.val
    . simp [hv,zd3 hr]
    . simp [hv]
theorem zik (deed:Nat->Deed K) (m:List Nat):∀ (l:List Nat) (b:Book K),zdF deed (l++m) b=(zdF deed l b).bind (zdF deed m)
 | [],b=>rfl
 | d::r,b=>by
  simp only [List.cons_append,zdF]
  cases replay (deed d).done b with
  | none=>rfl
  | some c=>exact zik deed m r c
theorem zcm {deed deed':Nat->Deed K}:∀ {l:List Nat} {b:Book K},(∀ d∈l,(deed' d).done=(deed d).done)->zdF deed' l b=zdF deed l b
 | [],_,_=>rfl
 | d::r,b,h=>by
  simp only [zdF]
  rw [h d List.mem_cons_self]
  cases replay (deed d).done b with
  | none=>rfl
  | some c=>exact zcm λ x hx=>h x (List.mem_cons_of_mem _ hx)
theorem zfr (deed:Nat->Deed K) (m:List Nat):∀ (l:List Nat) (b:Book K),zea deed (l++m) b=zea deed m (zea deed l b)
 | [],b=>rfl
 | d::r,b=>by simp only [List.cons_append,zea]; exact zfr deed m r _
theorem zbq {deed deed':Nat->Deed K}:∀ {l:List Nat} {b:Book K},(∀ d∈l,(deed' d).done=(deed d).done)->zea deed' l b=zea deed l b
 | [],_,_=>rfl
 | d::r,b,h=>by
  simp only [zea]
  rw [h d List.mem_cons_self]
  exact zbq λ x hx=>h x (List.mem_cons_of_mem _ hx)
def lets (h:List (Nat×Bool)) (d:Nat) (w:Bool):Bool:=h.all λ p=>p.1 == d || !(w || p.2)
def zbf (h:List (Nat×Bool)) (d:Nat) (w:Bool):List (Nat×Bool) :=
 if h.any (λ p=>p.1 == d) then h.map (λ p=>if p.1 == d then (d,w) else p) else h++[(d,w)]
def less (h:List (Nat×Bool)) (d:Nat):List (Nat×Bool):=h.filter λ p=>p.1 != d
def doIt (s:HS K) (d:Nat) (a:Act K):HS K :=
  if a.wr then
    { s with deed:=up s.deed d { s.deed d with st:=.zar,done:=(s.deed d).done++[a] },
             log:=s.log++[.write d a.key ((s.book a.key).getD 0) a.val],
             book:=up s.book a.key (some a.val) }
  else { s with deed:=up s.deed d { s.deed d with st:=.zar,done:=(s.deed d).done++[⟨false,a.key,(s.book a.key).getD 0⟩] } }
def take (s:HS K) (d:Nat) (k:K) (w:Bool):HS K:={ s with held:=up s.held k (zbf (s.held k) d w) }
def zbu:Nat->HS K->K->HS K
 | 0,s,_=>s
 | f+1,s,k=>match s.rows k with
  | []=>s
  | (d,w)::r=>if lets (s.held k) d w then
    match (s.deed d).wish with
    | some a=>zbu f (doIt (take { s with rows:=up s.rows k r } d k w) d a) k
    | none=>s
   else s
def zaK (s:HS K):List K->HS K
 | []=>s
 | k::r=>zaK (zbu (s.rows k).length s k) r
def letGo (s:HS K) (d:Nat):HS K:={ s with held:=λ k=>less (s.held k) d,rows:=λ k=>less (s.rows k) d }
variable (ord:List K->List K)
def free (s:HS K) (d:Nat):HS K:=zaK (letGo s d) (ord s.seen)
def zfa (s:HS K) (d:Nat) (t:DS):HS K:={ s with deed:=up s.deed d { s.deed d with st:=t } }
def zrl (s:HS K) (d:Nat):HS K:={ zfa s d .kept with kept:=s.kept++[d],log:=s.log++[.keep d] }
def zrr (s:HS K) (d:Nat):HS K :=
 { zfa s d .dropped with book:=λ k=>if (zaL (s.deed d).done k).isSome then zav s k else s.book k,log:=s.log++[.drop d] }
def keep (s:HS K) (d:Nat):HS K:=free ord (zrl s d) d
def drop (s:HS K) (d:Nat):HS K:=free ord (zrr s d) d
def za1 (s:HS K):HS K:={ s with n:=s.n+1,deed:=up s.deed s.n ⟨.zar,[],none⟩,log:=s.log++[.begin s.n] }
def zaC (s:HS K) (d:Nat):List Nat:=match (s.deed d).st,(s.deed d).wish with
 | .waiting,some a=>((s.rows a.key).takeWhile λ p=>p.1 != d).map (·.1)++((s.held a.key).filter λ p=>p.1 != d && (a.wr || p.2)).map (·.1)
 | _,_=>[]
inductive Reach (s:HS K):Nat->Nat->Prop where
 | one {d e:Nat}:e∈zaC s d->Reach s d e
 | step {d e f:Nat}:e∈zaC s d->Reach s e f->Reach s d f
open Classical in
noncomputable def rings (s:HS K):List Nat:=(List.range s.n).filter λ d=>decide (Reach s d d)
noncomputable def settle:Nat->HS K->HS K
 | 0,s=>s
 | f+1,s=>match (rings s).getLast? with
  | none=>s
  | some d=>settle f (drop ord s d)
def has (h:List (Nat×Bool)) (d:Nat):Bool:=h.any λ p=>p.1 == d
def look (h:List (Nat×Bool)) (d:Nat):Option Bool:=(h.find? λ p=>p.1 == d).map (·.2)
def see (s:HS K) (k:K):HS K:={ s with seen:=if k∈s.seen then s.seen else s.seen++[k] }
def wait (s:HS K) (d:Nat) (a:Act K):HS K :=
  { s with deed:=up s.deed d { s.deed d with st:=.waiting,wish:=some a },
           rows:=up s.rows a.key (if has (s.held a.key) d then (d,a.wr)::s.rows a.key else s.rows a.key++[(d,a.wr)]) }
noncomputable def wish (s:HS K) (d:Nat) (a:Act K):HS K :=
 let s:=see s a.key
 if look (s.held a.key) d=some a.wr\/look (s.held a.key) d=some true then doIt s d a
 else if lets (s.held a.key) d a.wr=true/\(has (s.held a.key) d=true\/s.rows a.key=[]) then doIt (take s d a.key a.wr) d a
 else settle ord s.n (wait s d a)
end
end TH
end
section
namespace TH
section
variable {K:Type} [DecidableEq K]
structure Core (s:HS K) (x:Option Nat):Prop where
 out:∀ d,s.n<=d->(s.deed d).st=.dropped/\(s.deed d).done=[]
 hAct:∀ k p,p∈s.held k->(s.deed p.1).act
 hNd:∀ k,((s.held k).map (·.1)).Nodup
 hEx:∀ k d,(d,true)∈s.held k->∀ p∈s.held k,p.1=d
 rAct:∀ k p,p∈s.rows k->(s.deed p.1).st=.waiting/\∃ a,(s.deed p.1).wish=some a/\a.key=k/\a.wr=p.2
 rNd:∀ k,((s.rows k).map (·.1)).Nodup
 wRow:∀ d,some d≠x->(s.deed d).st=.waiting->∃ a,(s.deed d).wish=some a/\(d,a.wr)∈s.rows a.key
 zfP:∀ k d w w',(d,w)∈s.rows k->(d,w')∈s.held k->w'=false/\w=true
 zfx:∀ d,(s.deed d).act->∀ a∈(s.deed d).done,∃ w,(d,w)∈s.held a.key/\(a.wr=true->w=true)
 zfb:∀ k,k∉s.seen->s.held k=[]/\s.rows k=[]
 bOwn:∀ d,(s.deed d).act->∀ k v,zaL (s.deed d).done k=some v->s.book k=some v
 zgA:∀ k,(∀ d,(s.deed d).act->zaL (s.deed d).done k=none)->s.book k=zav s k
 ser:zdF s.deed s.kept (λ _=>none)=some (zav s)
 actR:∀ d,(s.deed d).act->(replay (s.deed d).done (zav s)).isSome=true
 zdm:∀ d,d∈s.kept↔(s.deed d).st=.kept
 zht:s.kept.Nodup
theorem zdE {D:Deed K} (h:D.act):D.st≠.kept:=by
 rcases h with h | h <;> rw [h] <;> decide
theorem zeD {D:Deed K} (h:D.act):D.st≠.dropped:=by
 rcases h with h | h <;> rw [h] <;> decide
theorem Core.lt {s:HS K} {x:Option Nat} (c:Core s x) {d:Nat} (h:(s.deed d).act):d < s.n:=by
 by_cases e:d < s.n
 . exact e
 . exact absurd (c.out d (by omega)).1 (zeD h)
theorem Core.sole {s:HS K} {x:Option Nat} (c:Core s x) {d e:Nat} {k:K} {v:Int} {w:Bool} (hd:(s.deed d).act) (hw:zaL (s.deed d).done k=some v) (he:(e,w)∈s.held k):e=d:=by
 obtain ⟨a,ha,aw,ak⟩:=zd9 hw
 obtain ⟨w',hh,hw'⟩:=c.zfx d hd a ha
 rw [hw' aw,ak] at hh
 exact c.hEx k d hh (e,w) he
theorem zbT {s t:HS K} (h:t.kept=s.kept) (hd:∀ d∈s.kept,(t.deed d).done=(s.deed d).done):zav t=zav s:=by
 unfold zav; rw [h]; exact zbq hd
theorem Core.reads {s:HS K} {x:Option Nat} (c:Core s x) {d:Nat} {k:K} {w:Bool} (hd:(s.deed d).act) (hh:(d,w)∈s.held k):s.book k=over (zav s) (s.deed d).done k:=by
 rw [zeX]
 cases e:zaL (s.deed d).done k with
 | some v=>exact c.bOwn d hd k v e
 | none =>
  refine c.zgA k λ f hf=>?_
  cases e':zaL (s.deed f).done k with
  | none=>rfl
  | some v =>
   have q:=c.sole hf e' hh
   subst q
   rw [e] at e'; cases e'
theorem Core.doIt {s:HS K} {d:Nat} {a:Act K} {w:Bool} (c:Core s (some d)) (hd:(s.deed d).act) (hr:∀ k w,(d,w)∉s.rows k) (hh:(d,w)∈s.held a.key) (hw:a.wr=true->w=true):Core (doIt s d a) none:=by
 have hnk:(s.deed d).st≠.kept:=zdE hd
 have nk:∀ e∈s.kept,e≠d:=λ e he z=>by subst z; exact hnk ((c.zdm _).mp he)
 have main:∀ (a':Act K) (bk:Book K) (lg:List (Row K)),a'.key=a.key->a'.wr=a.wr->(a.wr=false->bk=s.book/\a'.val=(s.book a.key).getD 0)->(a.wr=true->bk=up s.book a.key (some a'.val)) ->
    Core { s with deed:=up s.deed d { s.deed d with st:=.zar,done:=(s.deed d).done++[a'] },log:=lg,book:=bk } none:=by
  intro a' bk lg ek ew hbr hbw
  have dd:∀ e,e≠d->up s.deed d { s.deed d with st:=.zar,done:=(s.deed d).done++[a'] } e=s.deed e:=λ e he=>zao he
  have ds:up s.deed d { s.deed d with st:=.zar,done:=(s.deed d).done++[a'] } d={ s.deed d with st:=.zar,done:=(s.deed d).done++[a'] }:=zag
  have actE:∀ e,(up s.deed d { s.deed d with st:=.zar,done:=(s.deed d).done++[a'] } e).act↔(s.deed e).act:=λ e=>by
    by_cases h:e=d
    . subst h; rw [ds]; exact ⟨λ _=>hd,λ _=>.inl rfl⟩
    . rw [dd e h]
  have kb:zav { s with deed:=up s.deed d { s.deed d with st:=.zar,done:=(s.deed d).done++[a'] },log:=lg,book:=bk }=zav s :=
    zbT rfl λ e he=>by show (up s.deed d _ e).done=_; rw [dd e (nk e he)]
  have lastE:∀ e k,zaL (up s.deed d { s.deed d with st:=.zar,done:=(s.deed d).done++[a'] } e).done k=if e=d/\a.wr=true/\a.key=k then some a'.val else zaL (s.deed e).done k:=λ e k=>by
    by_cases h:e=d
    . subst h; rw [ds]; show zaL ((s.deed e).done++[a']) k=_; rw [zeq,ek,ew]; simp
    . rw [dd e h]; simp [h]
  refine ⟨λ e he=>?_,λ k p hp=>?_,c.hNd,c.hEx,λ k p hp=>?_,c.rNd,λ e _ he=>?_,c.zfP,λ e he b hb=>?_,c.zfb,λ e he k v hv=>?_,λ k hk=>?_,?_,λ e he=>?_,λ e=>?_,c.zht⟩
  . have:e≠d:=λ z=>by subst z; have:=c.lt hd; have he':s.n<=e:=he; omega
    rw [show ({ s with deed:=up s.deed d { s.deed d with st:=.zar,done:=(s.deed d).done++[a'] },log:=lg,book:=bk }:HS K).deed e=s.deed e from dd e this]
    exact c.out e he
  . exact (actE p.1).mpr (c.hAct k p hp)
  . have:p.1≠d:=λ z=>hr k p.2 (by rw [<-z]; exact hp)
    rw [show ({ s with deed:=up s.deed d { s.deed d with st:=.zar,done:=(s.deed d).done++[a'] },log:=lg,book:=bk }:HS K).deed p.1=s.deed p.1 from dd p.1 this]
    exact c.rAct k p hp
  . have hne:e≠d:=λ z=>by
      subst z
      have he':(up s.deed e { s.deed e with st:=.zar,done:=(s.deed e).done++[a'] } e).st=.waiting:=he
      rw [ds] at he'; cases he'
    have he':(up s.deed d { s.deed d with st:=.zar,done:=(s.deed d).done++[a'] } e).st=.waiting:=he
    rw [dd e hne] at he'
    obtain ⟨b,q1,q2⟩:=c.wRow e (λ z=>hne (Option.some.inj z)) he'
    exact ⟨b,by show (up s.deed d _ e).wish=_; rw [dd e hne]; exact q1,q2⟩
  . by_cases h:e=d
    . subst h
      have hb':b∈(up s.deed e { s.deed e with st:=.zar,done:=(s.deed e).done++[a'] } e).done:=hb
      rw [ds] at hb'
      rcases List.mem_append.mp hb' with q | q
      . exact c.zfx e hd b q
      . have q':b=a':=by simpa using q
        subst q'
        exact ⟨w,by rw [ek]; exact hh,λ z=>hw (by rw [<-ew]; exact z)⟩
    . have hb':b∈(up s.deed d { s.deed d with st:=.zar,done:=(s.deed d).done++[a'] } e).done:=hb
      rw [dd e h] at hb'
      exact c.zfx e ((actE e).mp he) b hb'
  . have hv':zaL (up s.deed d { s.deed d with st:=.zar,done:=(s.deed d).done++[a'] } e).done k=some v:=hv
    rw [lastE] at hv'
    have he':=(actE e).mp he
    show bk k=some v
    by_cases h:e=d/\a.wr=true/\a.key=k
    . rw [if_pos h] at hv'
      obtain ⟨h1,h2,h3⟩:=h
      rw [hbw h2,<-h3,zag]; exact hv'
    . rw [if_neg h] at hv'
      cases hwr:a.wr with
      | false=>rw [(hbr hwr).1]; exact c.bOwn e he' k v hv'
      | true =>
        have hne:k≠a.key:=λ z=>by
         subst z
         have q:=c.sole he' hv' hh
         exact h ⟨q.symm,hwr,rfl⟩
        rw [hbw hwr,zao hne]
        exact c.bOwn e he' k v hv'
  . show bk k=zav _ k
    rw [kb]
    have hk':∀ e,(s.deed e).act->¬ (e=d/\a.wr=true/\a.key=k)/\zaL (s.deed e).done k=none:=λ e he=>by
      have q:zaL (up s.deed d { s.deed d with st:=.zar,done:=(s.deed d).done++[a'] } e).done k=none:=hk e ((actE e).mpr he)
      rw [lastE] at q
      by_cases h:e=d/\a.wr=true/\a.key=k
      . rw [if_pos h] at q; cases q
      . rw [if_neg h] at q; exact ⟨h,q⟩
    cases hwr:a.wr with
    | false=>rw [(hbr hwr).1]; exact c.zgA k λ e he=>(hk' e he).2
    | true =>
      have hne:k≠a.key:=λ z=>(hk' d hd).1 ⟨rfl,hwr,z.symm⟩
      rw [hbw hwr,zao hne]
      exact c.zgA k λ e he=>(hk' e he).2
  . show zdF (up s.deed d _) s.kept _=_
    rw [kb,<-c.ser]
    exact zcm λ e he=>by rw [dd e (nk e he)]
  . rw [kb]
    show (replay (up s.deed d _ e).done (zav s)).isSome=true
    by_cases h:e=d
    . subst h
      rw [ds]
      show (replay ((s.deed e).done++[a']) (zav s)).isSome=true
      rw [znd,zgZ (c.actR e hd)]
      show (replay [a'] (over (zav s) (s.deed e).done)).isSome=true
      unfold replay
      cases hwr:a.wr with
      | true=>rw [if_pos (by rw [ew,hwr])]; rfl
      | false =>
        rw [if_neg (by rw [ew,hwr]; decide),if_pos (by rw [ek,<-c.reads hd hh,(hbr hwr).2])]
        rfl
    . rw [dd e h]; exact c.actR e ((actE e).mp he)
  . show e∈s.kept↔(up s.deed d _ e).st=.kept
    by_cases h:e=d
    . subst h
      rw [ds,c.zdm e]
      exact ⟨λ z=>absurd z hnk,λ z=>by cases z⟩
    . rw [dd e h]; exact c.zdm e
 unfold TH.doIt
 cases hwr:a.wr with
 | true=>exact main a _ _ rfl rfl (λ z=>by rw [hwr] at z; cases z) λ _=>rfl
 | false=>exact main ⟨false,a.key,(s.book a.key).getD 0⟩ _ _ rfl hwr.symm (λ _=>⟨rfl,rfl⟩) λ z=>by rw [hwr] at z; cases z
end
end TH
end
section
namespace TH
section
variable {K:Type} [DecidableEq K]
theorem zcJ {h:List (Nat×Bool)} {d:Nat} {p:Nat×Bool}:p∈less h d↔p∈h/\p.1≠d:=by
 unfold less; rw [List.mem_filter]; simp
theorem zio {h:List (Nat×Bool)} {d:Nat} (n:(h.map (·.1)).Nodup):((less h d).map (·.1)).Nodup :=
 n.sublist (List.Sublist.map _ List.filter_sublist)
theorem zje {h:List (Nat×Bool)} {d:Nat} {w:Bool}:lets h d w=true↔∀ p∈h,p.1≠d->w=false/\p.2=false:=by
 unfold lets
 rw [List.all_eq_true]
 refine ⟨λ q p hp hn=>?_,λ q p hp=>?_⟩
 . have:=q p hp
   cases w <;> cases hb:p.2 <;> simp_all
 . by_cases hn:p.1=d
   . simp [hn]
   . obtain ⟨q1,q2⟩:=q p hp hn
     simp [q1,q2]
theorem zhO {h:List (Nat×Bool)} {d:Nat}:(h.any λ p=>p.1 == d)=true↔∃ w,(d,w)∈h:=by
 rw [List.any_eq_true]
 refine ⟨λ ⟨p,hp,e⟩=>⟨p.2,?_⟩,λ ⟨w,hw⟩=>⟨(d,w),hw,by simp⟩⟩
 have e':p.1=d:=by simpa using e
 rw [<-e']; exact hp
theorem zaS {h:List (Nat×Bool)} {d:Nat} {w:Bool} {p:Nat×Bool}:p∈zbf h d w↔p=(d,w)\/(p∈h/\p.1≠d):=by
 unfold zbf
 by_cases c:(h.any λ p=>p.1 == d)=true
 . rw [if_pos c,List.mem_map]
   refine ⟨λ ⟨q,hq,e⟩=>?_,λ z=>?_⟩
   . by_cases hn:q.1=d
     . simp [hn] at e; exact .inl e.symm
     . simp [hn] at e; subst e; exact .inr ⟨hq,hn⟩
   . rcases z with z | ⟨z1,z2⟩
     . obtain ⟨w',hw'⟩:=zhO.mp c
       exact ⟨(d,w'),hw',by simp [z]⟩
     . exact ⟨p,z1,by simp [z2]⟩
 . rw [if_neg c,List.mem_append]
   refine ⟨λ z=>?_,λ z=>?_⟩
   . rcases z with z | z
     . refine .inr ⟨z,λ e=>c (zhO.mpr ⟨p.2,?_⟩)⟩
       rw [<-e]; exact z
     . exact .inl (by simpa using z)
   . rcases z with z | ⟨z1,_⟩
     . exact .inr (by simp [z])
     . exact .inl z1
theorem zlt {h:List (Nat×Bool)} {d:Nat} {w:Bool}:(zbf h d w).map (·.1)=if (h.any λ p=>p.1 == d)=true then h.map (·.1) else h.map (·.1)++[d]:=by
 unfold zbf
 by_cases c:(h.any λ p=>p.1 == d)=true
 . rw [if_pos c,if_pos c,List.map_map]
   refine List.map_congr_left λ p _=>?_
   by_cases hn:p.1=d
   . simp [hn]
   . simp [hn]
 . rw [if_neg c,if_neg c,List.map_append]; rfl
theorem zi7 {h:List (Nat×Bool)} {d:Nat} {w:Bool} (n:(h.map (·.1)).Nodup):((zbf h d w).map (·.1)).Nodup:=by
 rw [zlt]
 by_cases c:(h.any λ p=>p.1 == d)=true
 . rw [if_pos c]; exact n
 . rw [if_neg c]
   refine List.nodup_append.mpr ⟨n,by simp,λ a ha b hb=>?_⟩
   have hb':b=d:=by simpa using hb
   subst hb'
   rintro rfl
   obtain ⟨p,hp,e⟩:=List.mem_map.mp ha
   exact c (zhO.mpr ⟨p.2,by rw [<-e]; exact hp⟩)
theorem Core.take {s:HS K} {x:Option Nat} {d:Nat} {k:K} {w:Bool} (c:Core s x) (hd:(s.deed d).act) (hl:lets (s.held k) d w=true) (hf:w=false->∀ w',(d,w')∉s.held k) (hr:∀ w',(d,w')∉s.rows k) (hk:k∈s.seen):Core (TH.take s d k w) x:=by
 have hh:∀ k',k'≠k->(TH.take s d k w).held k'=s.held k':=λ k' h=>zao h
 have hs:(TH.take s d k w).held k=zbf (s.held k) d w:=zag
 have hl':=zje.mp hl
 have mem:∀ k' p,p∈(TH.take s d k w).held k'->p∈s.held k'\/(k'=k/\p=(d,w)):=λ k' p hp=>by
   by_cases h:k'=k
   . subst h
     rw [hs] at hp
     rcases zaS.mp hp with z | z
     . exact .inr ⟨rfl,z⟩
     . exact .inl z.1
   . rw [hh k' h] at hp; exact .inl hp
 refine ⟨c.out,λ k' p hp=>?_,λ k'=>?_,λ k' e he p hp=>?_,c.rAct,c.rNd,c.wRow,λ k' e v v' h1 h2=>?_,λ e he a ha=>?_,λ k' h'=>?_,c.bOwn,c.zgA,c.ser,c.actR,c.zdm,c.zht⟩
 . rcases mem k' p hp with z | ⟨_,z⟩
   . exact c.hAct k' p z
   . subst z; exact hd
 . by_cases h:k'=k
   . subst h; rw [hs]; exact zi7 (c.hNd k')
   . rw [hh k' h]; exact c.hNd k'
 . by_cases h:k'=k
   . subst h
     rw [hs] at he hp
     rcases zaS.mp he with z | ⟨z1,z2⟩
     . have z1:e=d:=congrArg Prod.fst z
       have z2:w=true:=(congrArg Prod.snd z).symm
       subst z1
       rcases zaS.mp hp with y | ⟨y1,y2⟩
       . rw [y]
       . have:=(hl' p y1 y2).1
         rw [z2] at this; cases this
     . have:=(hl' (e,true) z1 z2).2
       cases this
   . rw [hh k' h] at he hp; exact c.hEx k' e he p hp
 . by_cases h:k'=k
   . subst h
     rw [hs] at h2
     rcases zaS.mp h2 with z | ⟨z1,z2⟩
     . have z1:e=d:=congrArg Prod.fst z
       subst z1
       exact absurd h1 (hr v)
     . exact c.zfP k' e v v' h1 z1
   . rw [hh k' h] at h2; exact c.zfP k' e v v' h1 h2
 . obtain ⟨v,q1,q2⟩:=c.zfx e he a ha
   by_cases h:a.key=k
   . by_cases hed:e=d
     . subst hed
       refine ⟨w,by rw [h,hs]; exact zaS.mpr (.inl rfl),λ z=>?_⟩
       cases hw:w with
       | true=>rfl
       | false=>exact absurd (h ▸ q1) (hf hw v)
     . exact ⟨v,by rw [h,hs]; exact zaS.mpr (.inr ⟨h ▸ q1,hed⟩),q2⟩
   . exact ⟨v,by rw [hh _ h]; exact q1,q2⟩
 . have:k'≠k:=λ z=>h' (z ▸ hk)
   rw [hh k' this]; exact c.zfb k' h'
theorem Core.ends {s:HS K} {d:Nat} {t:DS} {bk:Book K} {kp:List Nat} {lg:List (Row K)} (c:Core s none) (hd:(s.deed d).act) (ht:t=.kept\/t=.dropped)
   (hk:∀ e,e∈kp↔(up s.deed d { s.deed d with st:=t } e).st=.kept) (hn:kp.Nodup)
   (hser:zdF s.deed kp (λ _=>none)=some (zea s.deed kp λ _=>none))
   (hact:∀ e,e≠d->(s.deed e).act->(replay (s.deed e).done (zea s.deed kp λ _=>none)).isSome=true)
   (hbo:∀ e,e≠d->(s.deed e).act->∀ k v,zaL (s.deed e).done k=some v->bk k=some v)
   (hbk:∀ k,(∀ e,e≠d->(s.deed e).act->zaL (s.deed e).done k=none)->bk k=zea s.deed kp (λ _=>none) k) :
   Core (letGo { s with deed:=up s.deed d { s.deed d with st:=t },book:=bk,kept:=kp,log:=lg } d) none:=by
 have dd:∀ e,e≠d->up s.deed d { s.deed d with st:=t } e=s.deed e:=λ e he=>zao he
 have ds:up s.deed d { s.deed d with st:=t } d={ s.deed d with st:=t }:=zag
 have dn:∀ e,(up s.deed d { s.deed d with st:=t } e).done=(s.deed e).done:=λ e=>by
   by_cases h:e=d
   . subst h; rw [ds]
   . rw [dd e h]
 have actE:∀ e,(up s.deed d { s.deed d with st:=t } e).act->e≠d/\(s.deed e).act:=λ e he=>by
   by_cases h:e=d
   . subst h
     rw [ds] at he
     rcases he with he | he <;> rcases ht with z | z <;> (have he':t=_:=he; rw [z] at he'; cases he')
   . rw [dd e h] at he; exact ⟨h,he⟩
 have kb:zav (letGo { s with deed:=up s.deed d { s.deed d with st:=t },book:=bk,kept:=kp,log:=lg } d)=zea s.deed kp λ _=>none:=zbq λ e _=>dn e
 refine ⟨λ e he=>?_,λ k p hp=>?_,λ k=>zio (c.hNd k),λ k e he p hp=>?_,λ k p hp=>?_,λ k=>zio (c.rNd k),λ e _ he=>?_,λ k e v v' h1 h2=>?_,λ e he a ha=>?_,λ k hk'=>?_,λ e he k v hv=>?_,λ k hk'=>?_,?_,λ e he=>?_,hk,hn⟩
 . have he':s.n<=e:=he
   have:e≠d:=λ z=>by subst z; have:=c.lt hd; omega
   show (up s.deed d _ e).st=_/\(up s.deed d _ e).done=_
   rw [dd e this]; exact c.out e he'
 . have hp':=zcJ.mp hp
   show (up s.deed d _ p.1).act
   rw [dd _ hp'.2]; exact c.hAct k p hp'.1
 . exact c.hEx k e (zcJ.mp he).1 p (zcJ.mp hp).1
 . have hp':=zcJ.mp hp
   show (up s.deed d _ p.1).st=_/\∃ a,(up s.deed d _ p.1).wish=some a/\_
   rw [dd _ hp'.2]; exact c.rAct k p hp'.1
 . have he':(up s.deed d { s.deed d with st:=t } e).st=.waiting:=he
   obtain ⟨h1,h2⟩:=actE e (.inr he')
   rw [dd e h1] at he'
   obtain ⟨a,q1,q2⟩:=c.wRow e (λ z=>by cases z) he'
   exact ⟨a,by show (up s.deed d _ e).wish=_; rw [dd e h1]; exact q1,zcJ.mpr ⟨q2,h1⟩⟩
 . exact c.zfP k e v v' (zcJ.mp h1).1 (zcJ.mp h2).1
 . obtain ⟨h1,h2⟩:=actE e he
   have ha':a∈(up s.deed d { s.deed d with st:=t } e).done:=ha
   rw [dn e] at ha'
   obtain ⟨v,q1,q2⟩:=c.zfx e h2 a ha'
   exact ⟨v,zcJ.mpr ⟨q1,h1⟩,q2⟩
 . obtain ⟨q1,q2⟩:=c.zfb k hk'
   show less (s.held k) d=[]/\less (s.rows k) d=[]
   rw [q1,q2]; exact ⟨rfl,rfl⟩
 . obtain ⟨h1,h2⟩:=actE e he
   have hv':zaL (up s.deed d { s.deed d with st:=t } e).done k=some v:=hv
   rw [dn e] at hv'
   exact hbo e h1 h2 k v hv'
 . rw [kb]
   refine hbk k λ e h1 h2=>?_
   have q:zaL (up s.deed d { s.deed d with st:=t } e).done k=none:=hk' e (by show (up s.deed d _ e).act; rw [dd e h1]; exact h2)
   rw [dn e] at q; exact q
 . rw [kb,<-hser]
   exact zcm λ e _=>dn e
 . obtain ⟨h1,h2⟩:=actE e he
   rw [kb]
   show (replay (up s.deed d _ e).done _).isSome=true
   rw [dn e]; exact hact e h1 h2
theorem Core.keeps {s:HS K} {d:Nat} (c:Core s none) (hd:(s.deed d).act):Core (letGo (zrl s d) d) none:=by
 have kd:d∉s.kept:=λ z=>zdE hd ((c.zdm d).mp z)
 have kf:zea s.deed (s.kept++[d]) (λ _=>none)=over (zav s) (s.deed d).done:=by rw [zfr]; rfl
 refine Core.ends (t:=.kept) c hd (.inl rfl) (λ e=>?_) (List.nodup_append.mpr ⟨c.zht,by simp,λ a ha b hb=>?_⟩) ?_ (λ e h1 h2=>?_) (λ e h1 h2 k v hv=>c.bOwn e h2 k v hv) λ k hk=>?_
 . rw [List.mem_append,c.zdm e]
   by_cases h:e=d
   . subst h; rw [zag]; simp
   . rw [zao h]; simp [h]
 . have hb':b=d:=by simpa using hb
   subst hb'
   rintro rfl
   exact kd ha
 . rw [zik,c.ser,kf]
   show (replay (s.deed d).done (zav s)).bind (zdF s.deed [])=_
   rw [zgZ (c.actR d hd)]; rfl
 . rw [kf,<-zd3 (b:=zav s) λ a ha=>?_]
   . exact c.actR e h2
   . rw [zeX]
     cases q:zaL (s.deed d).done a.key with
     | none=>rfl
     | some v =>
       obtain ⟨w,q1,_⟩:=c.zfx e h2 a ha
       exact absurd (c.sole hd q q1) h1
 . rw [kf,zeX]
   cases q:zaL (s.deed d).done k with
   | some v=>exact c.bOwn d hd k v q
   | none =>
     refine c.zgA k λ e he=>?_
     by_cases h:e=d
     . subst h; exact q
     . exact hk e h he
theorem Core.drops {s:HS K} {d:Nat} (c:Core s none) (hd:(s.deed d).act):Core (letGo (zrr s d) d) none:=by
 refine Core.ends (t:=.dropped) c hd (.inr rfl) (λ e=>?_) c.zht c.ser (λ e _ h2=>c.actR e h2) (λ e h1 h2 k v hv=>?_) λ k hk=>?_
 . show e∈s.kept↔_
   rw [c.zdm e]
   by_cases h:e=d
   . subst h; rw [zag]; exact ⟨λ z=>absurd z (zdE hd),λ z=>by cases z⟩
   . rw [zao h]
 . cases q:zaL (s.deed d).done k with
   | none=>simp [q]; exact c.bOwn e h2 k v hv
   | some u =>
     obtain ⟨a,ha,aw,ak⟩:=zd9 hv
     obtain ⟨w,q1,_⟩:=c.zfx e h2 a ha
     rw [ak] at q1
     exact absurd (c.sole hd q q1) h1
 . show (if (zaL (s.deed d).done k).isSome=true then zav s k else s.book k)=zav s k
   cases q:zaL (s.deed d).done k with
   | some u=>simp
   | none =>
     simp
     refine c.zgA k λ e he=>?_
     by_cases h:e=d
     . subst h; exact q
     . exact hk e h he
theorem Core.zoV {s:HS K} {k:K} {d:Nat} {w:Bool} {r:List (Nat×Bool)} {a:Act K} (c:Core s none) (hr:s.rows k=(d,w)::r) (hl:lets (s.held k) d w=true) (ha:(s.deed d).wish=some a) :
  Core (TH.doIt (TH.take { s with rows:=up s.rows k r } d k w) d a) none:=by
 have hm:(d,w)∈s.rows k:=by rw [hr]; exact List.mem_cons_self
 obtain ⟨hw,a',ea,ek,ew⟩:=c.rAct k (d,w) hm
 have ea':some a=some a':=ha.symm.trans ea
 cases ea'
 have nd:=c.rNd k
 rw [hr] at nd
 have ndr:∀ w',(d,w')∉r:=λ w' z=>(List.nodup_cons.mp nd).1 (List.mem_map.mpr ⟨_,z,rfl⟩)
 have rk:(up s.rows k r) k=r:=zag
 have rn:∀ k',k'≠k->(up s.rows k r) k'=s.rows k':=λ k' h=>zao h
 have sub:∀ k' p,p∈(up s.rows k r) k'->p∈s.rows k':=λ k' p hp=>by
  by_cases h:k'=k
  . subst h; rw [rk] at hp; rw [hr]; exact List.mem_cons_of_mem _ hp
  . rw [rn k' h] at hp; exact hp
 have nor:∀ k' w',(d,w')∉(up s.rows k r) k':=λ k' w' hp=>by
  by_cases h:k'=k
  . subst h; rw [rk] at hp; exact ndr w' hp
  . have:=(c.rAct k' _ (sub k' _ hp)).2
    obtain ⟨a'',q1,q2,_⟩:=this
    have q1':(s.deed d).wish=some a'':=q1
    rw [ha] at q1'; cases q1'
    exact h (q2.symm.trans ek)
 have c1:Core { s with rows:=up s.rows k r } (some d):=by
  refine ⟨c.out,c.hAct,c.hNd,c.hEx,λ k' p hp=>c.rAct k' p (sub k' p hp),λ k'=>?_,λ e he hwt=>?_,λ k' e v v' h1 h2=>c.zfP k' e v v' (sub k' _ h1) h2,c.zfx,λ k' h'=>?_,c.bOwn,c.zgA,c.ser,c.actR,c.zdm,c.zht⟩
  . by_cases h:k'=k
    . subst h; show ((up s.rows k' r k').map _).Nodup; rw [rk]; exact (List.nodup_cons.mp nd).2
    . show ((up s.rows k r k').map _).Nodup; rw [rn k' h]; exact c.rNd k'
  . obtain ⟨b,q1,q2⟩:=c.wRow e (λ z=>by cases z) hwt
    refine ⟨b,q1,?_⟩
    show (e,b.wr)∈up s.rows k r b.key
    by_cases h:b.key=k
    . rw [h,rk]
      rw [h,hr] at q2
      rcases List.mem_cons.mp q2 with z | z
      . exact absurd (congrArg some (congrArg Prod.fst z)) he
      . exact z
    . rw [rn _ h]; exact q2
  . obtain ⟨q1,q2⟩:=c.zfb k' h'
    have:k'≠k:=λ z=>by subst z; rw [hr] at q2; cases q2
    exact ⟨q1,by show up s.rows k r k'=_; rw [rn k' this]; exact q2⟩
 have hks:k∈s.seen:=by
  by_cases z:k∈s.seen
  . exact z
  . have:=(c.zfb k z).2; rw [hr] at this; cases this
 have c2:Core (TH.take { s with rows:=up s.rows k r } d k w) (some d):=c1.take (.inr hw) hl (λ hwf w' z=>by
  obtain ⟨_,q⟩:=c.zfP k d w w' hm z
  rw [hwf] at q; cases q) (λ w' z=>nor k w' z) hks
 refine c2.doIt (w:=w) (.inr hw) nor ?_ λ z=>by have ew':a.wr=w:=ew; rw [<-ew']; exact z
 show (d,w)∈up s.held k (zbf (s.held k) d w) a.key
 rw [ek,zag]
 exact zaS.mpr (.inl rfl)
theorem Core.zbu {k:K}:∀ {f:Nat} {s:HS K},Core s none->Core (TH.zbu f s k) none
 | 0,s,c=>c
 | f+1,s,c=>by
  unfold TH.zbu
  split
  . exact c
  . rename_i d w r hr
    split
    . rename_i hl
      split
      . rename_i a ha
        exact Core.zbu (c.zoV hr hl ha)
      . exact c
    . exact c
theorem Core.zaK:∀ {ks:List K} {s:HS K},Core s none->Core (TH.zaK s ks) none
 | [],s,c=>c
 | k::r,s,c=>by unfold TH.zaK; exact Core.zaK c.zbu
variable (ord:List K->List K)
theorem Core.keep {s:HS K} {d:Nat} (c:Core s none) (hd:(s.deed d).act):Core (TH.keep ord s d) none:=Core.zaK (c.keeps hd)
theorem Core.drop {s:HS K} {d:Nat} (c:Core s none) (hd:(s.deed d).act):Core (TH.drop ord s d) none:=Core.zaK (c.drops hd)
theorem zeE {s:HS K} {d e:Nat} (h:e∈zaC s d):(s.deed d).st=.waiting:=by
 unfold zaC at h
 split at h
 . rename_i q _; exact q
 . cases h
theorem zaN {s:HS K} {d e:Nat} (h:Reach s d e):(s.deed d).st=.waiting:=by
 cases h with
 | one q=>exact zeE q
 | step q _=>exact zeE q
theorem zbL {s:HS K} {d:Nat} (h:d∈rings s):d < s.n/\Reach s d d:=by
 unfold rings at h
 rw [List.mem_filter] at h
 exact ⟨List.mem_range.mp h.1,@of_decide_eq_true _ (_) h.2⟩
theorem Core.settle:∀ {f:Nat} {s:HS K},Core s none->Core (TH.settle ord f s) none
 | 0,s,c=>c
 | f+1,s,c=>by
  unfold TH.settle
  split
  . exact c
  . rename_i d hd
    have:=zbL (List.mem_of_getLast? hd)
    exact Core.settle (c.drop ord (.inr (zaN this.2)))
theorem Core.za1 {s:HS K} (c:Core s none):Core (TH.za1 s) none:=by
 have o:=c.out s.n (Nat.le_refl _)
 have dd:∀ e,e≠s.n->up s.deed s.n ⟨.zar,[],none⟩ e=s.deed e:=λ e he=>zao he
 have ds:up s.deed s.n (⟨.zar,[],none⟩:Deed K) s.n=⟨.zar,[],none⟩:=zag
 have nn:∀ {e},(s.deed e).act->e≠s.n:=λ h z=>by subst z; exact zeD h o.1
 have nk:∀ e∈s.kept,e≠s.n:=λ e he z=>by subst z; have:=(c.zdm _).mp he; rw [o.1] at this; cases this
 have dn:∀ e,(up s.deed s.n ⟨.zar,[],none⟩ e).done=(s.deed e).done:=λ e=>by
   by_cases h:e=s.n
   . subst h; rw [ds,o.2]
   . rw [dd e h]
 have kb:zav (TH.za1 s)=zav s:=zbq λ e _=>dn e
 refine ⟨λ e he=>?_,λ k p hp=>?_,c.hNd,c.hEx,λ k p hp=>?_,c.rNd,λ e _ he=>?_,c.zfP,λ e he a ha=>?_,c.zfb,λ e he k v hv=>?_,λ k hk=>?_,?_,λ e he=>?_,λ e=>?_,c.zht⟩
 . have he':s.n+1<=e:=he
   show (up s.deed s.n _ e).st=_/\(up s.deed s.n _ e).done=_
   rw [dd e (by omega)]; exact c.out e (by omega)
 . have q:=c.hAct k p hp
   show (up s.deed s.n _ p.1).act
   rw [dd _ (nn q)]; exact q
 . have q:=c.rAct k p hp
   show (up s.deed s.n _ p.1).st=_/\∃ a,(up s.deed s.n _ p.1).wish=some a/\_
   rw [dd _ (nn (.inr q.1))]; exact q
 . have he':(up s.deed s.n ⟨.zar,[],none⟩ e).st=.waiting:=he
   have hne:e≠s.n:=λ z=>by subst z; rw [ds] at he'; cases he'
   rw [dd e hne] at he'
   obtain ⟨a,q1,q2⟩:=c.wRow e (λ z=>by cases z) he'
   exact ⟨a,by show (up s.deed s.n _ e).wish=_; rw [dd e hne]; exact q1,q2⟩
 . have ha':a∈(up s.deed s.n ⟨.zar,[],none⟩ e).done:=ha
   by_cases h:e=s.n
   . subst h; rw [ds] at ha'; cases ha'
   . rw [dd e h] at ha'
     have he':(up s.deed s.n ⟨.zar,[],none⟩ e).act:=he
     rw [dd e h] at he'
     exact c.zfx e he' a ha'
 . have hv':zaL (up s.deed s.n ⟨.zar,[],none⟩ e).done k=some v:=hv
   by_cases h:e=s.n
   . subst h; rw [ds] at hv'; cases hv'
   . have he':(up s.deed s.n ⟨.zar,[],none⟩ e).act:=he
     rw [dd e h] at he' hv'
     exact c.bOwn e he' k v hv'
 . rw [kb]
   refine c.zgA k λ e he=>?_
   have q:zaL (up s.deed s.n ⟨.zar,[],none⟩ e).done k=none:=hk e (by show (up s.deed s.n _ e).act; rw [dd e (nn he)]; exact he)
   rw [dn e] at q; exact q
 . rw [kb,<-c.ser]; exact zcm λ e _=>dn e
 . rw [kb]
   show (replay (up s.deed s.n _ e).done _).isSome=true
   by_cases h:e=s.n
   . subst h; rw [ds]; rfl
   . have he':(up s.deed s.n ⟨.zar,[],none⟩ e).act:=he
     rw [dd e h] at he' ⊢
     exact c.actR e he'
 . show e∈s.kept↔(up s.deed s.n _ e).st=.kept
   by_cases h:e=s.n
   . subst h; rw [ds]; exact ⟨λ z=>absurd rfl (nk _ z),λ z=>by cases z⟩
   . rw [dd e h]; exact c.zdm e
theorem Core.see {s:HS K} {x:Option Nat} {k:K} (c:Core s x):Core (TH.see s k) x :=
 ⟨c.out,c.hAct,c.hNd,c.hEx,c.rAct,c.rNd,c.wRow,c.zfP,c.zfx,λ k' h=>c.zfb k' λ z=>h (by
  show k'∈(if k∈s.seen then s.seen else s.seen++[k])
  split
  . exact z
  . exact List.mem_append_left _ z),c.bOwn,c.zgA,c.ser,c.actR,c.zdm,c.zht⟩
theorem zcj {s:HS K} {k:K}:k∈(TH.see s k).seen:=by
 show k∈(if k∈s.seen then s.seen else s.seen++[k])
 split
 . assumption
 . simp
theorem zc2 {h:List (Nat×Bool)} {d:Nat} {w:Bool} (e:look h d=some w):(d,w)∈h:=by
 unfold look at e
 cases q:h.find? λ p=>p.1 == d with
 | none=>rw [q] at e; cases e
 | some p =>
  rw [q] at e
  have e2:p.2=w:=Option.some.inj e
  have e1:p.1=d:=by simpa using List.find?_some q
  have:=List.mem_of_find?_eq_some q
  rw [<-e1,<-e2]; exact this
theorem zdb {h:List (Nat×Bool)} {d:Nat} {w:Bool} (n:(h.map (·.1)).Nodup) (m:(d,w)∈h):look h d=some w:=by
 unfold look
 induction h with
 | nil=>cases m
 | cons p r ih =>
  rw [List.map_cons,List.nodup_cons] at n
  by_cases e:p.1=d
  . rcases List.mem_cons.mp m with z | z
    . rw [<-z]; simp
    . exact absurd (List.mem_map.mpr ⟨_,z,rfl⟩) (e ▸ n.1)
  . rcases List.mem_cons.mp m with z | z
    . exact absurd (by rw [<-z]) e
    . rw [List.find?_cons_of_neg (by simpa using e)]
      exact ih n.2 z
theorem Core.wait {s:HS K} {d:Nat} {a:Act K} (c:Core s none) (hd:(s.deed d).st=.zar) (hk:a.key∈s.seen) (h1:∀ w',(d,w')∈s.held a.key->w'=false/\a.wr=true):Core (TH.wait s d a) none:=by
 have dd:∀ e,e≠d->up s.deed d { s.deed d with st:=.waiting,wish:=some a } e=s.deed e:=λ e he=>zao he
 have ds:up s.deed d { s.deed d with st:=.waiting,wish:=some a } d={ s.deed d with st:=.waiting,wish:=some a }:=zag
 have dn:∀ e,(up s.deed d { s.deed d with st:=.waiting,wish:=some a } e).done=(s.deed e).done:=λ e=>by
   by_cases h:e=d
   . subst h; rw [ds]
   . rw [dd e h]
 have actE:∀ e,(up s.deed d { s.deed d with st:=.waiting,wish:=some a } e).act↔(s.deed e).act:=λ e=>by
   by_cases h:e=d
   . subst h; rw [ds]; exact ⟨λ _=>.inl hd,λ _=>.inr rfl⟩
   . rw [dd e h]
 have nk:∀ e∈s.kept,e≠d:=λ e he z=>by subst z; have:=(c.zdm _).mp he; rw [hd] at this; cases this
 have nor:∀ k w',(d,w')∉s.rows k:=λ k w' z=>by
   have:=(c.rAct k _ z).1
   have this':(s.deed d).st=.waiting:=this
   rw [hd] at this'; cases this'
 have kb:zav (TH.wait s d a)=zav s:=zbq λ e _=>dn e
 have rk:(TH.wait s d a).rows a.key=if has (s.held a.key) d then (d,a.wr)::s.rows a.key else s.rows a.key++[(d,a.wr)]:=zag
 have rn:∀ k,k≠a.key->(TH.wait s d a).rows k=s.rows k:=λ k h=>zao h
 have rm:∀ k p,p∈(TH.wait s d a).rows k↔p∈s.rows k\/(k=a.key/\p=(d,a.wr)):=λ k p=>by
   by_cases h:k=a.key
   . subst h
     rw [rk]
     split
     . rw [List.mem_cons]; exact ⟨λ z=>z.elim (λ y=>.inr ⟨rfl,y⟩) .inl,λ z=>z.elim .inr λ y=>.inl y.2⟩
     . rw [List.mem_append]; exact ⟨λ z=>z.elim .inl λ y=>.inr ⟨rfl,by simpa using y⟩,λ z=>z.elim .inl λ y=>.inr (by simp [y.2])⟩
   . rw [rn k h]; exact ⟨.inl,λ z=>z.elim id λ y=>absurd y.1 h⟩
 refine ⟨λ e he=>?_,λ k p hp=>?_,c.hNd,c.hEx,λ k p hp=>?_,λ k=>?_,λ e _ he=>?_,λ k e v v' q1 q2=>?_,λ e he b hb=>?_,λ k hk'=>?_,λ e he k v hv=>?_,λ k hk'=>?_,?_,λ e he=>?_,λ e=>?_,c.zht⟩
 . have he':s.n<=e:=he
   have:e≠d:=λ z=>by subst z; have:=c.lt (d:=e) (.inl hd); omega
   show (up s.deed d _ e).st=_/\(up s.deed d _ e).done=_
   rw [dd e this]; exact c.out e he'
 . exact (actE p.1).mpr (c.hAct k p hp)
 . show (up s.deed d _ p.1).st=_/\∃ a',(up s.deed d _ p.1).wish=some a'/\_
   rcases (rm k p).mp hp with z | ⟨z1,z2⟩
   . have:p.1≠d:=λ y=>nor k p.2 (by rw [<-y]; exact z)
     rw [dd _ this]; exact c.rAct k p z
   . subst z2; rw [ds]; exact ⟨rfl,a,rfl,z1.symm,rfl⟩
 . by_cases h:k=a.key
   . subst h
     rw [rk]
     split
     . rw [List.map_cons,List.nodup_cons]
       exact ⟨λ z=>by obtain ⟨p,hp,e⟩:=List.mem_map.mp z; exact nor _ p.2 (by have e':p.1=d:=e; rw [<-e']; exact hp),c.rNd _⟩
     . rw [List.map_append]
       refine List.nodup_append.mpr ⟨c.rNd _,by simp,λ x hx y hy=>?_⟩
       have hy':y=d:=by simpa using hy
       subst hy'
       rintro rfl
       obtain ⟨p,hp,e⟩:=List.mem_map.mp hx
       exact nor _ p.2 (by have e':p.1=x:=e; rw [<-e']; exact hp)
   . rw [rn k h]; exact c.rNd k
 . have he':(up s.deed d { s.deed d with st:=.waiting,wish:=some a } e).st=.waiting:=he
   show ∃ b,(up s.deed d _ e).wish=some b/\_
   by_cases h:e=d
   . subst h; rw [ds]; exact ⟨a,rfl,(rm _ _).mpr (.inr ⟨rfl,rfl⟩)⟩
   . rw [dd e h] at he' ⊢
     obtain ⟨b,q1,q2⟩:=c.wRow e (λ z=>by cases z) he'
     exact ⟨b,q1,(rm _ _).mpr (.inl q2)⟩
 . rcases (rm k _).mp q1 with z | ⟨z1,z2⟩
   . exact c.zfP k e v v' z q2
   . have e1:e=d:=congrArg Prod.fst z2
     have e2:v=a.wr:=congrArg Prod.snd z2
     subst e1 e2 z1
     exact h1 v' q2
 . have hb':b∈(up s.deed d { s.deed d with st:=.waiting,wish:=some a } e).done:=hb
   rw [dn e] at hb'
   exact c.zfx e ((actE e).mp he) b hb'
 . have:k≠a.key:=λ z=>hk' (z ▸ hk)
   obtain ⟨q1,q2⟩:=c.zfb k hk'
   exact ⟨q1,by rw [rn k this]; exact q2⟩
 . have hv':zaL (up s.deed d { s.deed d with st:=.waiting,wish:=some a } e).done k=some v:=hv
   rw [dn e] at hv'
   exact c.bOwn e ((actE e).mp he) k v hv'
 . rw [kb]
   refine c.zgA k λ e he=>?_
   have q:zaL (up s.deed d { s.deed d with st:=.waiting,wish:=some a } e).done k=none:=hk' e ((actE e).mpr he)
   rw [dn e] at q; exact q
 . rw [kb,<-c.ser]; exact zcm λ e _=>dn e
 . rw [kb]
   show (replay (up s.deed d _ e).done _).isSome=true
   rw [dn e]; exact c.actR e ((actE e).mp he)
 . show e∈s.kept↔(up s.deed d _ e).st=.kept
   by_cases h:e=d
   . subst h; rw [ds]; exact ⟨λ z=>absurd rfl (nk _ z),λ z=>by cases z⟩
   . rw [dd e h]; exact c.zdm e
theorem Core.weaken {s:HS K} {x:Option Nat} (c:Core s none):Core s x :=
 ⟨c.out,c.hAct,c.hNd,c.hEx,c.rAct,c.rNd,λ d _=>c.wRow d (λ z=>by cases z),c.zfP,c.zfx,c.zfb,c.bOwn,c.zgA,c.ser,c.actR,c.zdm,c.zht⟩
theorem Core.wish {s:HS K} {d:Nat} {a:Act K} (c:Core s none) (hd:(s.deed d).st=.zar):Core (TH.wish ord s d a) none:=by
 have c1:Core (TH.see s a.key) none:=c.see
 have nor:∀ k w',(d,w')∉(TH.see s a.key).rows k:=λ k w' z=>by
   have:=(c1.rAct k _ z).1
   have this':(s.deed d).st=.waiting:=this
   rw [hd] at this'; cases this'
 unfold TH.wish
 dsimp only
 by_cases h1:look ((TH.see s a.key).held a.key) d=some a.wr\/look ((TH.see s a.key).held a.key) d=some true
 . rw [if_pos h1]
   rcases h1 with h1 | h1
   . exact Core.doIt (w:=a.wr) c1.weaken (.inl hd) nor (zc2 h1) id
   . exact Core.doIt (w:=true) c1.weaken (.inl hd) nor (zc2 h1) λ _=>rfl
 . rw [if_neg h1]
   have hw:∀ w',(d,w')∈(TH.see s a.key).held a.key->w'=false/\a.wr=true:=λ w' z=>by
     have q:=zdb (c1.hNd _) z
     cases hw':w' with
     | true=>exact absurd (.inr (hw' ▸ q)) h1
     | false =>
       cases ha:a.wr with
       | true=>exact ⟨rfl,rfl⟩
       | false=>exact absurd (.inl (by rw [ha,q,hw'])) h1
   by_cases h2:lets ((TH.see s a.key).held a.key) d a.wr=true/\(has ((TH.see s a.key).held a.key) d=true\/(TH.see s a.key).rows a.key=[])
   . rw [if_pos h2]
     refine Core.doIt (w:=a.wr) (c1.weaken.take (.inl hd) h2.1 (λ hf w' z=>?_) (λ w'=>nor _ w') zcj) (.inl hd) nor ?_ id
     . have:=(hw w' z).2; rw [hf] at this; cases this
     . show (d,a.wr)∈up (TH.see s a.key).held a.key _ a.key
       rw [zag]; exact zaS.mpr (.inl rfl)
   . rw [if_neg h2]
     exact Core.settle ord (c1.wait hd zcj hw)
end
end TH
end
section
namespace TH
section
variable {K:Type} [DecidableEq K]
theorem zcp (s:HS K) (d:Nat) (a:Act K):(doIt s d a).held=s.held:=by unfold doIt; split <;> rfl
theorem zcR (s:HS K) (d:Nat) (a:Act K):(doIt s d a).rows=s.rows:=by unfold doIt; split <;> rfl
theorem zb6 (s:HS K) (d:Nat) (a:Act K):(doIt s d a).seen=s.seen:=by unfold doIt; split <;> rfl
theorem zdI (s:HS K) (d:Nat) (a:Act K):(doIt s d a).n=s.n:=by unfold doIt; split <;> rfl
theorem zed (s:HS K) (d:Nat) (a:Act K):(doIt s d a).kept=s.kept:=by unfold doIt; split <;> rfl
theorem zcC (s:HS K) (d:Nat) (a:Act K) {e:Nat} (h:e≠d):(doIt s d a).deed e=s.deed e:=by unfold doIt; split <;> exact zao h
theorem zhB (s:HS K) (d:Nat) (a:Act K):((doIt s d a).deed d).st=.zar:=by
 unfold doIt
 split
 . show (up s.deed d _ d).st=_; rw [zag]
 . show (up s.deed d _ d).st=_; rw [zag]
theorem zet {s:HS K} {k:K} {d:Nat} {w:Bool} {r:List (Nat×Bool)} {a:Act K} {f:Nat} (hr:s.rows k=(d,w)::r) (hl:lets (s.held k) d w=true) (ha:(s.deed d).wish=some a) :
  zbu (f+1) s k=zbu f (doIt (take { s with rows:=up s.rows k r } d k w) d a) k:=by
 conv=>lhs; unfold zbu
 rw [hr]
 simp only [hl,if_true,ha]
theorem zes {s:HS K} {k:K} {d:Nat} {w:Bool} {r:List (Nat×Bool)} {f:Nat} (hr:s.rows k=(d,w)::r) (hl:lets (s.held k) d w=false):zbu f s k=s:=by
 cases f with
 | zero=>rfl
 | succ f =>
  unfold zbu
  rw [hr]
  simp [hl]
theorem zft {s:HS K} {k:K} {f:Nat} (hr:s.rows k=[]):zbu f s k=s:=by
 cases f with
 | zero=>rfl
 | succ f=>unfold zbu; rw [hr]
theorem zec {k:K} (P:HS K->Prop) (step:∀ s d w r a,Core s none->s.rows k=(d,w)::r->lets (s.held k) d w=true->(s.deed d).wish=some a->P s->P (doIt (take { s with rows:=up s.rows k r } d k w) d a)) :
  ∀ (f:Nat) (s:HS K),Core s none->P s->P (zbu f s k)
 | 0,s,c,h=>h
 | f+1,s,c,h=>by
  cases hr:s.rows k with
  | nil=>rw [zft hr]; exact h
  | cons p r =>
   obtain ⟨d,w⟩:=p
   cases hl:lets (s.held k) d w with
   | false=>rw [zes hr hl]; exact h
   | true =>
    obtain ⟨_,a,ha,_⟩:=c.rAct k (d,w) (by rw [hr]; exact List.mem_cons_self)
    rw [zet hr hl ha]
    exact zec P step f _ (c.zoV hr hl ha) (step s d w r a c hr hl ha h)
theorem zbG (P:HS K->Prop) (step:∀ s k d w r a,Core s none->s.rows k=(d,w)::r->lets (s.held k) d w=true->(s.deed d).wish=some a->P s->P (doIt (take { s with rows:=up s.rows k r } d k w) d a)) :
  ∀ (ks:List K) (s:HS K),Core s none->P s->P (zaK s ks)
 | [],s,c,h=>h
 | k::r,s,c,h=>by
  unfold zaK
  exact zbG P step r _ c.zbu (zec P (λ s=>step s k) _ s c h)
def zmT (s:HS K) (k:K):Prop:=∀ d w r,s.rows k=(d,w)::r->lets (s.held k) d w=false
def Head (s:HS K):Prop:=∀ k,zmT s k
theorem zhz {k k':K} (h:k'≠k) (f:Nat) (s:HS K) (c:Core s none):(zbu f s k).rows k'=s.rows k'/\(zbu f s k).held k'=s.held k':=by
 refine zec (k:=k) (λ t=>t.rows k'=s.rows k'/\t.held k'=s.held k') (λ t d w r a _ _ _ _ q=>?_) f s c ⟨rfl,rfl⟩
 rw [zcR,zcp]
 exact ⟨(zao h).trans q.1,(zao h).trans q.2⟩
theorem ziA {k:K}:∀ (f:Nat) (s:HS K),Core s none->(s.rows k).length<=f->zmT (zbu f s k) k
 | 0,s,c,h=>λ d w r e=>by
  have:s.rows k=[]:=List.length_eq_zero_iff.mp (by omega)
  have e':s.rows k=(d,w)::r:=e
  rw [this] at e'; cases e'
 | f+1,s,c,h=>by
  cases hr:s.rows k with
  | nil=>rw [zft hr]; intro d w r e; rw [hr] at e; cases e
  | cons p r =>
   obtain ⟨d,w⟩:=p
   cases hl:lets (s.held k) d w with
   | false=>rw [zes hr hl]; intro d' w' r' e; rw [hr] at e; cases e; exact hl
   | true =>
    obtain ⟨_,a,ha,_⟩:=c.rAct k (d,w) (by rw [hr]; exact List.mem_cons_self)
    rw [zet hr hl ha]
    refine ziA f _ (c.zoV hr hl ha) ?_
    rw [zcR]
    show (up s.rows k r k).length<=f
    rw [zag]
    rw [hr] at h
    simpa using h
theorem zhy:∀ (ks:List K) (s:HS K),Core s none->∀ k,(k∈ks->zmT (zaK s ks) k)/\(k∉ks->(zaK s ks).rows k=s.rows k/\(zaK s ks).held k=s.held k)
 | [],s,c,k=>⟨λ h=>(by cases h),λ _=>⟨rfl,rfl⟩⟩
 | k₀::r,s,c,k=>by
  unfold zaK
  obtain ⟨h1,h2⟩:=zhy r _ (c.zbu (k:=k₀) (f:=(s.rows k₀).length)) k
  refine ⟨λ hk=>?_,λ hk=>?_⟩
  . by_cases hr:k∈r
    . exact h1 hr
    . have e:k=k₀:=(List.mem_cons.mp hk).resolve_right hr
      subst e
      obtain ⟨q1,q2⟩:=h2 hr
      intro d w r' e
      rw [q1] at e
      rw [q2]
      exact ziA _ s c (Nat.le_refl _) d w r' e
  . obtain ⟨q1,q2⟩:=h2 λ z=>hk (List.mem_cons_of_mem _ z)
    obtain ⟨p1,p2⟩:=zhz (k':=k) (λ z=>hk (by rw [z]; exact List.mem_cons_self)) (s.rows k₀).length s c
    exact ⟨q1.trans p1,q2.trans p2⟩
theorem zdC (ks:List K) (s:HS K) (c:Core s none):(zaK s ks).seen=s.seen :=
 zbG (λ t=>t.seen=s.seen) (λ t k d w r a _ _ _ _ q=>by rw [zb6]; exact q) ks s c rfl
theorem zjj (ks:List K) (s:HS K) (c:Core s none):(zaK s ks).n=s.n :=
 zbG (λ t=>t.n=s.n) (λ t k d w r a _ _ _ _ q=>by rw [zdI]; exact q) ks s c rfl
variable (ord:List K->List K) (hord:∀ l k,k∈ord l↔k∈l)
include hord
theorem zkF {s:HS K} {d:Nat} (c:Core (letGo s d) none):Head (free ord s d):=by
 intro k
 by_cases hk:k∈s.seen
 . exact (zhy (ord s.seen) _ c k).1 ((hord _ _).mpr hk)
 . intro d' w r e
   have c':Core (free ord s d) none:=c.zaK
   have:=(c'.zfb k (by unfold free; rw [zdC _ _ c]; exact hk)).2
   rw [this] at e; cases e
theorem Head.keep {s:HS K} {d:Nat} (c:Core s none) (hd:(s.deed d).act):Head (TH.keep ord s d):=zkF ord hord (c.keeps hd)
theorem Head.drop {s:HS K} {d:Nat} (c:Core s none) (hd:(s.deed d).act):Head (TH.drop ord s d):=zkF ord hord (c.drops hd)
theorem Head.settle:∀ {f:Nat} {s:HS K},Core s none->Head s->Head (TH.settle ord f s)
 | 0,s,c,h=>h
 | f+1,s,c,h=>by
  unfold TH.settle
  split
  . exact h
  . rename_i d hd
    have q:=zbL (List.mem_of_getLast? hd)
    have ha:(s.deed d).act:=.inr (zaN q.2)
    exact Head.settle (c.drop ord ha) (Head.drop ord hord c ha)
theorem zrn {h:List (Nat×Bool)} {d:Nat}:has h d=true↔∃ w,(d,w)∈h:=zhO
theorem Head.wish {s:HS K} {d:Nat} {a:Act K} (c:Core s none) (h:Head s) (hd:(s.deed d).st=.zar):Head (TH.wish ord s d a):=by
 have c1:Core (TH.see s a.key) none:=c.see
 have h':Head (TH.see s a.key):=h
 have nor:∀ k w',(d,w')∉(TH.see s a.key).rows k:=λ k w' z=>by
   have:=(c1.rAct k _ z).1
   have this':(s.deed d).st=.waiting:=this
   rw [hd] at this'; cases this'
 unfold TH.wish
 dsimp only
 by_cases h1:look ((TH.see s a.key).held a.key) d=some a.wr\/look ((TH.see s a.key).held a.key) d=some true
 . rw [if_pos h1]
   intro k e w r q
   rw [zcR] at q; rw [zcp]
   exact h' k e w r q
 . rw [if_neg h1]
   have hw:∀ w',(d,w')∈(TH.see s a.key).held a.key->w'=false/\a.wr=true:=λ w' z=>by
     have q:=zdb (c1.hNd _) z
     cases hw':w' with
     | true=>exact absurd (.inr (hw' ▸ q)) h1
     | false =>
       cases ha:a.wr with
       | true=>exact ⟨rfl,rfl⟩
       | false=>exact absurd (.inl (by rw [ha,q,hw'])) h1
   by_cases h2:lets ((TH.see s a.key).held a.key) d a.wr=true/\(has ((TH.see s a.key).held a.key) d=true\/(TH.see s a.key).rows a.key=[])
   . rw [if_pos h2]
     intro k e w r q
     rw [zcR] at q; rw [zcp]
     have q':(TH.see s a.key).rows k=(e,w)::r:=q
     show lets (up (TH.see s a.key).held a.key _ k) e w=false
     by_cases hk:k=a.key
     . subst hk
       rw [zag]
       rcases h2.2 with z | z
       . obtain ⟨w',hw'⟩:=zrn ord hord |>.mp z
         have aw:=(hw w' hw').2
         have hne:e≠d:=λ y=>nor a.key w (by rw [<-y,q']; exact List.mem_cons_self)
         cases hl:lets (zbf ((TH.see s a.key).held a.key) d a.wr) e w with
         | false=>rfl
         | true =>
          have:=(zje.mp hl (d,a.wr) (zaS.mpr (.inl rfl)) (Ne.symm hne)).2
          have this':a.wr=false:=this
          rw [aw] at this'; cases this'
       . rw [z] at q'; cases q'
     . rw [zao hk]; exact h' k e w r q'
   . rw [if_neg h2]
     refine Head.settle ord hord (c1.wait hd zcj hw) λ k e w r q=>?_
     show lets ((TH.see s a.key).held k) e w=false
     by_cases hk:k=a.key
     . subst hk
       have q':(if has ((TH.see s a.key).held a.key) d then (d,a.wr)::(TH.see s a.key).rows a.key else (TH.see s a.key).rows a.key++[(d,a.wr)])=(e,w)::r:=by
         rw [<-q]; exact zag.symm
       cases hh:has ((TH.see s a.key).held a.key) d with
       | true =>
         rw [hh] at q'
         simp only [if_true] at q'
         injection q' with e1 e2
         have e3:d=e:=congrArg Prod.fst e1
         have e4:a.wr=w:=congrArg Prod.snd e1
         subst e3 e4
         cases hl:lets ((TH.see s a.key).held a.key) d a.wr with
         | false=>rfl
         | true=>exact absurd ⟨hl,.inl hh⟩ h2
       | false =>
         rw [hh] at q'
         simp only [Bool.false_eq_true,if_false] at q'
         cases hr:(TH.see s a.key).rows a.key with
         | nil =>
          rw [hr] at q'
          simp only [List.nil_append] at q'
          injection q' with e1 e2
          have e3:d=e:=congrArg Prod.fst e1
          have e4:a.wr=w:=congrArg Prod.snd e1
          subst e3 e4
          cases hl:lets ((TH.see s a.key).held a.key) d a.wr with
          | false=>rfl
          | true=>exact absurd ⟨hl,.inr hr⟩ h2
         | cons p t =>
          rw [hr] at q'
          simp only [List.cons_append] at q'
          injection q' with e1 e2
          subst e1
          exact h' a.key e w t hr
     . have q':(TH.see s a.key).rows k=(e,w)::r:=by rw [<-q]; exact (zao hk).symm
       exact h' k e w r q'
omit hord
def Acyc (s:HS K):Prop:=∀ d,¬ Reach s d d
theorem Reach.mono {s t:HS K} (h:∀ d e,e∈zaC t d->e∈zaC s d) {d e:Nat} (r:Reach t d e):Reach s d e:=by
 induction r with
 | one q=>exact .one (h _ _ q)
 | step q _ ih=>exact .step (h _ _ q) ih
theorem Acyc.mono {s t:HS K} (a:Acyc s) (h:∀ d e,e∈zaC t d->e∈zaC s d):Acyc t:=λ d r=>a d (r.mono h)
theorem Reach.trans {s:HS K} {d e f:Nat} (r:Reach s d e) (q:Reach s e f):Reach s d f:=by
 induction r with
 | one z=>exact .step z q
 | step z _ ih=>exact .step z (ih q)
theorem zbc {s:HS K} {d e:Nat}:e∈zaC s d↔∃ a,(s.deed d).st=.waiting/\(s.deed d).wish=some a /\
   ((∃ w,(e,w)∈(s.rows a.key).takeWhile λ p=>p.1 != d)\/∃ w,(e,w)∈s.held a.key/\e≠d/\(a.wr=true\/w=true)):=by
 unfold zaC
 split
 . rename_i a h1 h2
   rw [List.mem_append,List.mem_map,List.mem_map]
   refine ⟨λ z=>⟨a,h1,h2,?_⟩,λ ⟨b,q1,q2,z⟩=>?_⟩
   . rcases z with ⟨p,hp,rfl⟩ | ⟨p,hp,rfl⟩
     . exact .inl ⟨p.2,hp⟩
     . rw [List.mem_filter] at hp
       obtain ⟨y1,y2⟩:=hp
       simp only [Bool.and_eq_true,bne_iff_ne,Bool.or_eq_true] at y2
       exact .inr ⟨p.2,y1,y2.1,y2.2⟩
   . rw [h2] at q2; cases q2
     rcases z with ⟨w,hw⟩ | ⟨w,hw,y1,y2⟩
     . exact .inl ⟨_,hw,rfl⟩
     . refine .inr ⟨(e,w),List.mem_filter.mpr ⟨hw,?_⟩,rfl⟩
       simp only [Bool.and_eq_true,bne_iff_ne,Bool.or_eq_true]
       exact ⟨y1,y2⟩
 . rename_i h
   refine ⟨λ z=>(by cases z),λ ⟨a,q1,q2,_⟩=>(h a q1 q2).elim⟩
theorem zhT {l:List (Nat×Bool)} {d e:Nat} (hne:e≠d) {p:Nat×Bool}:p∈(less l d).takeWhile (λ p=>p.1 != e)->p∈l.takeWhile λ p=>p.1 != e:=by
 induction l with
 | nil=>exact id
 | cons x r ih =>
  intro hp
  by_cases hx:x.1=d
  . have e1:less (x::r) d=less r d:=by unfold less; rw [List.filter_cons_of_neg (by simp [hx])]
    rw [e1] at hp
    rw [List.takeWhile_cons_of_pos (by simp [hx]; exact Ne.symm hne)]
    exact List.mem_cons_of_mem _ (ih hp)
  . have e1:less (x::r) d=x::less r d:=by unfold less; rw [List.filter_cons_of_pos (by simp [hx])]
    rw [e1] at hp
    by_cases hy:x.1=e
    . rw [List.takeWhile_cons_of_neg (by simp [hy])] at hp; cases hp
    . rw [List.takeWhile_cons_of_pos (by simp [hy])] at hp ⊢
      rcases List.mem_cons.mp hp with z | z
      . exact List.mem_cons.mpr (.inl z)
      . exact List.mem_cons_of_mem _ (ih z)
theorem zeF {s:HS K} {d:Nat} {t:DS} {bk:Book K} {kp:List Nat} {lg:List (Row K)} (ht:t≠.waiting):∀ e x,x∈zaC (letGo { s with deed:=up s.deed d { s.deed d with st:=t },book:=bk,kept:=kp,log:=lg } d) e->x∈zaC s e:=by
 intro e x hx
 obtain ⟨a,h1,h2,h3⟩:=zbc.mp hx
 have hne:e≠d:=λ z=>by
   subst z
   have h1':(up s.deed e { s.deed e with st:=t } e).st=.waiting:=h1
   rw [zag] at h1'
   exact ht h1'
 have de:up s.deed d { s.deed d with st:=t } e=s.deed e:=zao hne
 have h1':(up s.deed d { s.deed d with st:=t } e).st=.waiting:=h1
 have h2':(up s.deed d { s.deed d with st:=t } e).wish=some a:=h2
 rw [de] at h1' h2'
 refine zbc.mpr ⟨a,h1',h2',?_⟩
 rcases h3 with ⟨w,hw⟩ | ⟨w,hw,y1,y2⟩
 . exact .inl ⟨w,zhT hne hw⟩
 . exact .inr ⟨w,(zcJ.mp hw).1,y1,y2⟩
theorem zjK {s:HS K} {k:K} {d:Nat} {w:Bool} {r:List (Nat×Bool)} {a:Act K} (hr:s.rows k=(d,w)::r) :
   ∀ e x,x∈zaC (doIt (take { s with rows:=up s.rows k r } d k w) d a) e->x∈zaC s e:=by
 intro e x hx
 obtain ⟨b,h1,h2,h3⟩:=zbc.mp hx
 have hne:e≠d:=λ z=>by
   subst z
   rw [zhB] at h1; cases h1
 rw [zcC _ _ _ hne] at h1 h2
 rw [zcR,zcp] at h3
 refine zbc.mpr ⟨b,h1,h2,?_⟩
 by_cases hk:b.key=k
 . have e1:(take { s with rows:=up s.rows k r } d k w).rows b.key=r:=by show up s.rows k r b.key=r; rw [hk,zag]
   have e2:(take { s with rows:=up s.rows k r } d k w).held b.key=zbf (s.held k) d w:=by show up s.held k (zbf (s.held k) d w) b.key=_; rw [hk,zag]
   rw [e1,e2] at h3
   rw [hk,hr,List.takeWhile_cons_of_pos (by simp; exact Ne.symm hne)]
   rcases h3 with ⟨v,hv⟩ | ⟨v,hv,y1,y2⟩
   . exact .inl ⟨v,List.mem_cons_of_mem _ hv⟩
   . rcases zaS.mp hv with z | ⟨z1,z2⟩
     . exact .inl ⟨w,by have z':x=d:=congrArg Prod.fst z; rw [z']; exact List.mem_cons_self⟩
     . exact .inr ⟨v,z1,y1,y2⟩
 . have e1:(take { s with rows:=up s.rows k r } d k w).rows b.key=s.rows b.key:=zao hk
   have e2:(take { s with rows:=up s.rows k r } d k w).held b.key=s.held b.key:=zao hk
   rw [e1,e2] at h3
   exact h3
theorem zdW {s:HS K} {ks:List K} (c:Core s none):∀ e x,x∈zaC (zaK s ks) e->x∈zaC s e :=
 zbG (λ t=>∀ e x,x∈zaC t e->x∈zaC s e) (λ t k d w r a _ hr _ _ q e x hx=>q e x (zjK hr e x hx)) ks s c λ _ _ h=>h
theorem Acyc.keep {s:HS K} {d:Nat} (c:Core s none) (hd:(s.deed d).act) (a:Acyc s):Acyc (TH.keep ord s d) :=
 a.mono λ e x hx=>zeF (t:=.kept) (by decide) e x (zdW (c.keeps hd) e x hx)
theorem Acyc.drop {s:HS K} {d:Nat} (c:Core s none) (hd:(s.deed d).act) (a:Acyc s):Acyc (TH.drop ord s d) :=
 a.mono λ e x hx=>zeF (t:=.dropped) (by decide) e x (zdW (c.drops hd) e x hx)
def actB (D:Deed K):Bool:=D.st == .zar || D.st == .waiting
theorem zaM {D:Deed K}:actB D=true↔D.act:=by unfold actB Deed.act; simp
def actN (s:HS K):Nat:=(List.range s.n).countP λ d=>actB (s.deed d)
theorem zfz {α:Type} {p q:α->Bool}:∀ {l:List α},(∀ x∈l,q x=true->p x=true)->(∃ x∈l,p x=true/\q x=false)->l.countP q < l.countP p
 | [],_,⟨_,h,_⟩=>by cases h
 | a::r,h,⟨x,hx,px,qx⟩=>by
  have hr:∀ y∈r,q y=true->p y=true:=λ y hy=>h y (List.mem_cons_of_mem _ hy)
  have le:r.countP q<=r.countP p:=List.countP_mono_left hr
  rcases List.mem_cons.mp hx with z | z
  . subst z
    rw [List.countP_cons_of_pos px,List.countP_cons_of_neg (by simp [qx])]
    omega
  . have lt:=zfz hr ⟨x,z,px,qx⟩
    by_cases hq:q a=true
    . rw [List.countP_cons_of_pos hq,List.countP_cons_of_pos (h a List.mem_cons_self hq)]; omega
    . rw [List.countP_cons_of_neg hq]
      by_cases hp:p a=true
      . rw [List.countP_cons_of_pos hp]; omega
      . rw [List.countP_cons_of_neg hp]; exact lt
theorem znB {s:HS K} {ks:List K} (c:Core s none):∀ e,((zaK s ks).deed e).act↔(s.deed e).act :=
 zbG (λ t=>∀ e,(t.deed e).act↔(s.deed e).act) (λ t k d w r a c' hr _ _ q e=>by
  by_cases h:e=d
  . subst h
    have hw:=(c'.rAct k (e,w) (by rw [hr]; exact List.mem_cons_self)).1
    exact ⟨λ _=>(q e).mp (.inr hw),λ _=>.inl (zhB _ _ _)⟩
  . rw [zcC _ _ _ h]; exact q e) ks s c λ _=>Iff.rfl
theorem zqf {s:HS K} {d:Nat} (c:Core s none) (hd:(s.deed d).act) (e:Nat):((TH.drop ord s d).deed e).act↔e≠d/\(s.deed e).act:=by
 refine (znB (c.drops hd) e).trans ?_
 show (up s.deed d { s.deed d with st:=.dropped } e).act↔_
 by_cases h:e=d
 . subst h; rw [zag]; exact ⟨λ z=>(by rcases z with z | z <;> cases z),λ z=>absurd rfl z.1⟩
 . rw [zao h]; exact ⟨λ z=>⟨h,z⟩,λ z=>z.2⟩
theorem zko {s:HS K} {d:Nat} (c:Core s none) (hd:(s.deed d).act):(TH.drop ord s d).n=s.n:=zjj _ _ (c.drops hd)
theorem zqt {s:HS K} {d:Nat} (c:Core s none) (hd:(s.deed d).act):(TH.keep ord s d).n=s.n:=zjj _ _ (c.keeps hd)
theorem zrA {s t:HS K} {d:Nat} (hn:t.n=s.n) (h:∀ e,(t.deed e).act↔e≠d/\(s.deed e).act) (hd:(s.deed d).act) (hlt:d < s.n):actN t < actN s:=by
 unfold actN
 rw [hn]
 refine zfz (λ e _ q=>zaM.mpr ((h e).mp (zaM.mp q)).2) ⟨d,List.mem_range.mpr hlt,zaM.mpr hd,?_⟩
 cases q:actB (t.deed d) with
 | false=>rfl
 | true=>exact absurd rfl ((h d).mp (zaM.mp q)).1
theorem zkV {s:HS K} {d:Nat} (c:Core s none) (hd:(s.deed d).act):actN (TH.drop ord s d) < actN s:=zrA (zko ord c hd) (zqf ord c hd) hd (c.lt hd)
theorem znc {s:HS K} (c:Core s none) (h:rings s=[]):Acyc s:=λ d r=>by
 have hd:=c.lt (d:=d) (.inr (zaN r))
 have:d∈rings s:=by
  unfold rings
  rw [List.mem_filter]
  exact ⟨List.mem_range.mpr hd,@decide_eq_true _ (_) r⟩
 rw [h] at this; cases this
theorem zgT:∀ {f:Nat} {s:HS K},Core s none->actN s<=f->Acyc (TH.settle ord f s)
 | 0,s,c,h=>λ d r=>by
  have hd:(s.deed d).act:=.inr (zaN r)
  have hlt:=c.lt hd
  have:0 < actN s:=by
    unfold actN
    exact List.countP_pos_iff.mpr ⟨d,List.mem_range.mpr hlt,zaM.mpr hd⟩
  omega
 | f+1,s,c,h=>by
  unfold TH.settle
  split
  . rename_i q
    exact znc c (List.getLast?_eq_none_iff.mp q)
  . rename_i d hd
    have q:=zbL (List.mem_of_getLast? hd)
    have ha:(s.deed d).act:=.inr (zaN q.2)
    refine zgT (c.drop ord ha) ?_
    have:=zkV ord c ha
    omega
theorem zpo (s:HS K):actN s<=s.n:=by
 unfold actN
 have:=List.countP_le_length (p:=λ d=>actB (s.deed d)) (l:=List.range s.n)
 rwa [List.length_range] at this
theorem Acyc.za1 {s:HS K} (c:Core s none) (a:Acyc s):Acyc (TH.za1 s):=a.mono λ e x hx=>by
 obtain ⟨b,h1,h2,h3⟩:=zbc.mp hx
 have h1':(up s.deed s.n ⟨.zar,[],none⟩ e).st=.waiting:=h1
 have h2':(up s.deed s.n ⟨.zar,[],none⟩ e).wish=some b:=h2
 have hne:e≠s.n:=λ z=>by subst z; rw [zag] at h1'; cases h1'
 rw [zao hne] at h1' h2'
 exact zbc.mpr ⟨b,h1',h2',h3⟩
theorem Acyc.into {s t:HS K} {d:Nat} (a:Acyc s) (hd:(t.deed d).st≠.waiting) (h:∀ e x,x∈zaC t e->x=d\/x∈zaC s e):Acyc t:=by
 have key:∀ x y,Reach t x y->y=d\/Reach s x y:=λ x y r=>by
   induction r with
   | one q=>exact (h _ _ q).imp id .one
   | step q r ih =>
    rcases h _ _ q with z | z
    . subst z; exact absurd (zaN r) hd
    . exact ih.imp id (.step z)
 intro x r
 rcases key x x r with z | z
 . subst z; exact hd (zaN r)
 . exact a x z
theorem Acyc.wish {s:HS K} {d:Nat} {a:Act K} (c:Core s none) (ac:Acyc s) (hd:(s.deed d).st=.zar):Acyc (TH.wish ord s d a):=by
 have c1:Core (TH.see s a.key) none:=c.see
 have ac1:Acyc (TH.see s a.key):=ac.mono λ e x hx=>hx
 unfold TH.wish
 dsimp only
 have zar:∀ (t:HS K),t.deed=(TH.see s a.key).deed->∀ e x,x∈zaC (doIt t d a) e->e≠d/\∃ b,((TH.see s a.key).deed e).st=.waiting/\((TH.see s a.key).deed e).wish=some b /\
     ((∃ w,(x,w)∈(t.rows b.key).takeWhile λ p=>p.1 != e)\/∃ w,(x,w)∈t.held b.key/\x≠e/\(b.wr=true\/w=true)):=λ t ht e x hx=>by
   obtain ⟨b,h1,h2,h3⟩:=zbc.mp hx
   have hne:e≠d:=λ z=>by subst z; rw [zhB] at h1; cases h1
   rw [zcC _ _ _ hne,ht] at h1 h2
   rw [zcR,zcp] at h3
   exact ⟨hne,b,h1,h2,h3⟩
 by_cases h1:look ((TH.see s a.key).held a.key) d=some a.wr\/look ((TH.see s a.key).held a.key) d=some true
 . rw [if_pos h1]
   refine ac1.mono λ e x hx=>?_
   obtain ⟨_,b,q1,q2,q3⟩:=zar _ rfl e x hx
   exact zbc.mpr ⟨b,q1,q2,q3⟩
 . rw [if_neg h1]
   by_cases h2:lets ((TH.see s a.key).held a.key) d a.wr=true/\(has ((TH.see s a.key).held a.key) d=true\/(TH.see s a.key).rows a.key=[])
   . rw [if_pos h2]
     refine ac1.into (d:=d) (by rw [zhB]; decide) λ e x hx=>?_
     obtain ⟨_,b,q1,q2,q3⟩:=zar (take (TH.see s a.key) d a.key a.wr) rfl e x hx
     by_cases hxd:x=d
     . exact .inl hxd
     . refine .inr (zbc.mpr ⟨b,q1,q2,q3.imp id λ ⟨w,hw,y⟩=>⟨w,?_,y⟩⟩)
       have hw':(x,w)∈up (TH.see s a.key).held a.key (zbf ((TH.see s a.key).held a.key) d a.wr) b.key:=hw
       by_cases hk:b.key=a.key
       . rw [hk,zag] at hw'
         rcases zaS.mp hw' with z | z
         . exact absurd (congrArg Prod.fst z) hxd
         . rw [hk]; exact z.1
       . rw [zao hk] at hw'; exact hw'
   . rw [if_neg h2]
     have hw:∀ w',(d,w')∈(TH.see s a.key).held a.key->w'=false/\a.wr=true:=λ w' z=>by
       have q:=zdb (c1.hNd _) z
       cases hw':w' with
       | true=>exact absurd (.inr (hw' ▸ q)) h1
       | false =>
         cases ha:a.wr with
         | true=>exact ⟨rfl,rfl⟩
         | false=>exact absurd (.inl (by rw [ha,q,hw'])) h1
     exact zgT ord (c1.wait hd zcj hw) (zpo _)
theorem zgO {s:HS K} (c:Core s none) {d e:Nat} (h:e∈zaC s d):(s.deed e).act:=by
 obtain ⟨a,h1,h2,h3⟩:=zbc.mp h
 rcases h3 with ⟨w,hw⟩ | ⟨w,hw,_⟩
 . exact .inr (c.rAct _ _ ((List.takeWhile_sublist _).mem hw)).1
 . exact c.hAct _ _ hw
theorem zmY {s:HS K} (c:Core s none) (hh:Head s) {d:Nat} (h:(s.deed d).st=.waiting):∃ e,e∈zaC s d:=by
 obtain ⟨a,h2,h3⟩:=c.wRow d (λ z=>by cases z) h
 cases hr:s.rows a.key with
 | nil=>rw [hr] at h3; cases h3
 | cons p r =>
  obtain ⟨e,w⟩:=p
  by_cases hed:e=d
  . subst hed
    have nd:=c.rNd a.key
    rw [hr] at nd h3
    have hw:w=a.wr:=by
      rcases List.mem_cons.mp h3 with z | z
      . exact (congrArg Prod.snd z).symm
      . exact absurd (List.mem_map.mpr ⟨_,z,rfl⟩) (List.nodup_cons.mp nd).1
    have hl:=hh a.key e w r hr
    by_cases hex:∃ p∈s.held a.key,p.1≠e/\(w=true\/p.2=true)
    . obtain ⟨p,hp,q1,q2⟩:=hex
      exact ⟨p.1,zbc.mpr ⟨a,h,h2,.inr ⟨p.2,hp,q1,by rw [<-hw]; exact q2⟩⟩⟩
    . have:lets (s.held a.key) e w=true:=zje.mpr λ p hp hn=>by
        refine ⟨?_,?_⟩
        . cases hw':w with
          | false=>rfl
          | true=>exact absurd ⟨p,hp,hn,.inl hw'⟩ hex
        . cases hp2:p.2 with
          | false=>rfl
          | true=>exact absurd ⟨p,hp,hn,.inr hp2⟩ hex
      rw [this] at hl; cases hl
  . refine ⟨e,zbc.mpr ⟨a,h,h2,.inl ⟨w,?_⟩⟩⟩
    rw [hr,List.takeWhile_cons_of_pos (by simp; exact hed)]
    exact List.mem_cons_self
open Classical in
end
end TH
end
section
namespace TH
section
variable {K:Type} [DecidableEq K]
def zas (l:List (Act K)):List (K×Int):=l.filterMap λ a=>if a.wr then some (a.key,a.val) else none
def logW (l:List (Row K)) (d:Nat):List (K×Int):=l.filterMap λ r=>match r with
 | .write e k _ v=>if e=d then some (k,v) else none
 | _=>none
def logK (l:List (Row K)):List Nat:=l.filterMap λ r=>match r with
 | .keep d=>some d
 | _=>none
def logB (l:List (Row K)):List Nat:=l.filterMap λ r=>match r with
 | .begin d=>some d
 | _=>none
def goes (g:List Nat):Row K->List Nat
 | .begin d=>g++[d]
 | .write _ _ _ _=>g
 | .keep d=>g.erase d
 | .drop d=>g.erase d
def logG (l:List (Row K)):List Nat:=l.foldl goes []
structure Scan (K:Type) where
 book:K->Int
 bef:Nat->List (K×Int)
def undo (l:List (K×Int)) (b:K->Int):K->Int:=l.foldr (λ p bk=>up bk p.1 p.2) b
def scan1 (S:Scan K):Row K->Scan K
 | .begin _=>S
 | .write d k b v=>⟨up S.book k v,up S.bef d (S.bef d++[(k,b)])⟩
 | .keep _=>S
 | .drop d=>⟨undo (S.bef d) S.book,S.bef⟩
def scan (l:List (Row K)):Scan K:=l.foldl scan1 ⟨λ _=>0,λ _=>[]⟩
def zsY (l:List (Row K)):Row K->Prop
 | .begin d=>d=(logB l).length
 | .write d k b _=>d∈logG l/\b=(scan l).book k
 | .keep d=>d∈logG l
 | .drop d=>d∈logG l
inductive Wf:List (Row K)->Prop where
 | nil:Wf []
 | snoc {l:List (Row K)} {r:Row K}:Wf l->zsY l r->Wf (l++[r])
def first (l:List (K×Int)) (k:K):Option Int:=(l.find? λ p=>decide (p.1=k)).map (·.2)
theorem znM (k:K) (b:K->Int):∀ l:List (K×Int),undo l b k=(first l k).getD (b k)
 | []=>rfl
 | p::r=>by
  show up (undo r b) p.1 p.2 k=_
  by_cases h:p.1=k
  . subst h; rw [zag]; unfold first; rw [List.find?_cons_of_pos (by simp)]; rfl
  . rw [zao (Ne.symm h),znM k b r]; unfold first; rw [List.find?_cons_of_neg (by simpa using h)]
theorem znv (l:List (K×Int)) (k k':K) (b:Int):first (l++[(k,b)]) k'=match first l k' with | some v=>some v | none=>if k=k' then some b else none:=by
 unfold first
 rw [List.find?_append]
 cases h:l.find? λ p=>decide (p.1=k') with
 | some p=>rfl
 | none =>
  by_cases e:k=k'
  . simp [e]
  . simp [e]
theorem zhn (l:List (Row K)) (r:Row K) (d:Nat):logW (l++[r]) d=logW l d++(match r with | .write e k _ v=>if e=d then [(k,v)] else [] | _=>[]):=by
 unfold logW
 rw [List.filterMap_append]
 cases r with
 | write e k b v=>by_cases h:e=d <;> simp [h]
 | begin _=>rfl
 | keep _=>rfl
 | drop _=>rfl
theorem zho (l:List (Row K)) (r:Row K):logK (l++[r])=logK l++(match r with | .keep d=>[d] | _=>[]):=by
 unfold logK
 rw [List.filterMap_append]
 cases r <;> rfl
theorem zfp (l:List (Row K)) (r:Row K):logB (l++[r])=logB l++(match r with | .begin d=>[d] | _=>[]):=by
 unfold logB
 rw [List.filterMap_append]
 cases r <;> rfl
theorem zhp (l:List (Row K)) (r:Row K):logG (l++[r])=goes (logG l) r:=by unfold logG; rw [List.foldl_append]; rfl
theorem scan_snoc (l:List (Row K)) (r:Row K):scan (l++[r])=scan1 (scan l) r:=by unfold scan; rw [List.foldl_append]; rfl
theorem zcF (l:List (Act K)) (a:Act K):zas (l++[a])=zas l++(if a.wr then [(a.key,a.val)] else []):=by
 unfold zas
 rw [List.filterMap_append]
 cases h:a.wr <;> simp [h]
structure zaQ (s:HS K):Prop where
 w:∀ d,logW s.log d=zas (s.deed d).done
 k:logK s.log=s.kept
 b:logB s.log=List.range s.n
 g:logG s.log=(List.range s.n).filter λ d=>actB (s.deed d)
 bk:∀ k,(scan s.log).book k=(s.book k).getD 0
 bef:∀ d,(s.deed d).act->∀ k,first ((scan s.log).bef d) k=if (zaL (s.deed d).done k).isSome then some ((zav s k).getD 0) else none
 befN:∀ d,s.n<=d->(scan s.log).bef d=[]
 wf:Wf s.log
theorem zb5 {α:Type} {p q:α->Bool} {l:List α} (h:∀ x∈l,p x=q x):l.filter p=l.filter q:=List.filter_congr h
theorem zaQ.zmH {s:HS K} {x:Option Nat} (L:zaQ s) (c:Core s x) {d:Nat} (hd:(s.deed d).act):d∈logG s.log:=by
 rw [L.g,List.mem_filter]; exact ⟨List.mem_range.mpr (c.lt hd),zaM.mpr hd⟩
theorem zaQ.doIt {s:HS K} {d:Nat} {a:Act K} {w:Bool} (L:zaQ s) (c:Core s (some d)) (hd:(s.deed d).act) (hh:(d,w)∈s.held a.key):zaQ (doIt s d a):=by
 have actE:∀ e,actB ((TH.doIt s d a).deed e)=actB (s.deed e):=λ e=>by
  by_cases h:e=d
  . subst h
    rw [zaM.mpr hd,zaM.mpr (.inl (zhB s e a))]
  . rw [zcC s d a h]
 have nk:∀ e∈s.kept,e≠d:=λ e he z=>by subst z; exact zdE hd ((c.zdm _).mp he)
 have kb:zav (TH.doIt s d a)=zav s:=zbT (zed s d a) λ e he=>by rw [zcC s d a (nk e he)]
 cases hwr:a.wr with
 | false =>
  have e1:TH.doIt s d a={ s with deed:=up s.deed d { s.deed d with st:=.zar,done:=(s.deed d).done++[⟨false,a.key,(s.book a.key).getD 0⟩] } }:=by
    unfold TH.doIt; rw [if_neg (by rw [hwr]; decide)]
  have dn:∀ e,zas ((TH.doIt s d a).deed e).done=zas (s.deed e).done/\∀ k,zaL ((TH.doIt s d a).deed e).done k=zaL (s.deed e).done k:=λ e=>by
    by_cases h:e=d
    . subst h
      rw [e1]
      show zas (up s.deed e _ e).done=_/\∀ k,zaL (up s.deed e _ e).done k=_
      rw [zag]
      refine ⟨?_,λ k=>?_⟩
      . show zas ((s.deed e).done++[_])=_
        rw [zcF]; simp
      . show zaL ((s.deed e).done++[_]) k=_
        rw [zeq]; simp
    . rw [zcC s d a h]; exact ⟨rfl,λ _=>rfl⟩
  have el:(TH.doIt s d a).log=s.log:=by rw [e1]
  have eb:(TH.doIt s d a).book=s.book:=by rw [e1]
  refine ⟨λ e=>by rw [el,(dn e).1]; exact L.w e,by rw [el,zed]; exact L.k,by rw [el,zdI]; exact L.b,?_,λ k=>by rw [el,eb]; exact L.bk k,λ e he k=>?_,λ e he=>by rw [el]; exact L.befN e (by rw [zdI] at he; exact he),by rw [el]; exact L.wf⟩
  . rw [el,zdI,L.g]; exact zb5 λ x _=>(actE x).symm
  . rw [el,(dn e).2 k,kb]; exact L.bef e (zaM.mp ((actE e).symm.trans (zaM.mpr he))) k
 | true =>
  have e1:TH.doIt s d a={ s with deed:=up s.deed d { s.deed d with st:=.zar,done:=(s.deed d).done++[a] },log:=s.log++[.write d a.key ((s.book a.key).getD 0) a.val],book:=up s.book a.key (some a.val) }:=by
    unfold TH.doIt; rw [if_pos hwr]
  have el:(TH.doIt s d a).log=s.log++[.write d a.key ((s.book a.key).getD 0) a.val]:=by rw [e1]
  have eb:(TH.doIt s d a).book=up s.book a.key (some a.val):=by rw [e1]
  have edd:((TH.doIt s d a).deed d).done=(s.deed d).done++[a]:=by rw [e1]; show (up s.deed d _ d).done=_; rw [zag]
  refine ⟨λ e=>?_,by rw [el,zho,zed]; simp; exact L.k,by rw [el,zfp,zdI]; simp; exact L.b,?_,λ k=>?_,λ e he k=>?_,λ e he=>?_,?_⟩
  . rw [el,zhn]
    by_cases h:e=d
    . subst h; rw [edd,zcF,L.w e]; simp [hwr]
    . rw [zcC s d a h,L.w e]; simp [Ne.symm h]
  . rw [el,zhp,zdI]
    show logG s.log=_
    rw [L.g]; exact zb5 λ x _=>(actE x).symm
  . rw [el,scan_snoc,eb]
    show up (scan s.log).book a.key a.val k=(up s.book a.key (some a.val) k).getD 0
    by_cases h:k=a.key
    . subst h; rw [zag,zag]; rfl
    . rw [zao h,zao h]; exact L.bk k
  . rw [el,scan_snoc,kb]
    show first (up (scan s.log).bef d ((scan s.log).bef d++[(a.key,(s.book a.key).getD 0)]) e) k=_
    by_cases h:e=d
    . subst h
      rw [zag,znv,edd,zeq,L.bef e hd k]
      cases hl:zaL (s.deed e).done k with
      | some v =>
        by_cases hk:a.wr=true/\a.key=k
        . simp [hk]
        . simp [hk,hl]
      | none =>
        by_cases hk:a.key=k
        . simp [hk,hwr]
          have q:=c.reads hd hh
          rw [zeX,hk,hl] at q
          rw [q]
        . simp [hk,hl]
    . rw [zao h,zcC s d a h]
      rw [zcC s d a h] at he
      exact L.bef e he k
  . rw [zdI] at he
    rw [el,scan_snoc]
    show up (scan s.log).bef d _ e=[]
    have:e≠d:=λ z=>by subst z; have:=c.lt hd; omega
    rw [zao this]; exact L.befN e he
  . rw [el]
    exact .snoc L.wf ⟨L.zmH c hd,(L.bk a.key).symm⟩
theorem zaQ.ends {s:HS K} {d:Nat} {t:DS} {bk:Book K} {kp:List Nat} {r:Row K} (L:zaQ s) (c:Core s none) (hd:(s.deed d).act) (ht:t=.kept\/t=.dropped)
   (hr:(t=.kept/\r=.keep d/\kp=s.kept++[d]/\bk=s.book)\/(t=.dropped/\r=.drop d/\kp=s.kept/\bk=λ k=>if (zaL (s.deed d).done k).isSome then zav s k else s.book k)) :
   zaQ (letGo { s with deed:=up s.deed d { s.deed d with st:=t },book:=bk,kept:=kp,log:=s.log++[r] } d):=by
 have dn:∀ e,(up s.deed d { s.deed d with st:=t } e).done=(s.deed e).done:=λ e=>by
   by_cases h:e=d
   . subst h; rw [zag]
   . rw [zao h]
 have actE:∀ e,(up s.deed d { s.deed d with st:=t } e).act↔e≠d/\(s.deed e).act:=λ e=>by
   by_cases h:e=d
   . subst h
     rw [zag]
     refine ⟨λ z=>?_,λ z=>absurd rfl z.1⟩
     rcases z with z | z <;> rcases ht with y | y <;> (have z':t=_:=z; rw [y] at z'; cases z')
   . rw [zao h]; exact ⟨λ z=>⟨h,z⟩,λ z=>z.2⟩
 have hg:(logG s.log).erase d=(List.range s.n).filter λ e=>actB (up s.deed d { s.deed d with st:=t } e):=by
   have nd:((List.range s.n).filter λ e=>actB (s.deed e)).Nodup:=List.nodup_range.sublist List.filter_sublist
   rw [L.g,nd.erase_eq_filter,List.filter_filter]
   refine zb5 λ x _=>?_
   cases q:actB (up s.deed d { s.deed d with st:=t } x) with
   | true =>
     obtain ⟨q1,q2⟩:=(actE x).mp (zaM.mp q)
     simp [q1,zaM.mpr q2]
   | false =>
     by_cases h1:x=d
     . simp [h1]
     . cases h2:actB (s.deed x) with
       | false=>simp
       | true =>
        rw [zaM.mpr ((actE x).mpr ⟨h1,zaM.mp h2⟩)] at q; cases q
 have kbe:∀ k,zav (letGo { s with deed:=up s.deed d { s.deed d with st:=t },book:=bk,kept:=kp,log:=s.log++[r] } d) k=if t=.kept then over (zav s) (s.deed d).done k else zav s k:=λ k=>by
   have e0:zav (letGo { s with deed:=up s.deed d { s.deed d with st:=t },book:=bk,kept:=kp,log:=s.log++[r] } d)=zea s.deed kp λ _=>none:=zbq λ e _=>dn e
   rw [e0]
   rcases hr with ⟨h1,_,h3,_⟩ | ⟨h1,_,h3,_⟩
   . rw [if_pos h1,h3,zfr]; rfl
   . rw [if_neg (by rw [h1]; decide),h3]; rfl
 have sole:∀ e k,e≠d->(s.deed e).act->(zaL (s.deed e).done k).isSome=true->zaL (s.deed d).done k=none:=λ e k hne he hs=>by
   cases q:zaL (s.deed d).done k with
   | none=>rfl
   | some u =>
     cases q':zaL (s.deed e).done k with
     | none=>rw [q'] at hs; cases hs
     | some v =>
       obtain ⟨b,hb,bw,bkk⟩:=zd9 q'
       obtain ⟨w,z,_⟩:=c.zfx e he b hb
       rw [bkk] at z
       exact absurd (c.sole hd q z) hne
 have sc:(scan (s.log++[r])).bef=(scan s.log).bef:=by
   rw [scan_snoc]
   rcases hr with ⟨_,h2,_,_⟩ | ⟨_,h2,_,_⟩ <;> rw [h2] <;> rfl
 refine ⟨λ e=>?_,?_,?_,?_,λ k=>?_,λ e he k=>?_,λ e he=>?_,?_⟩
 . show logW (s.log++[r]) e=zas (up s.deed d _ e).done
   rw [zhn,dn e,L.w e]
   rcases hr with ⟨_,h2,_,_⟩ | ⟨_,h2,_,_⟩ <;> rw [h2] <;> simp
 . show logK (s.log++[r])=kp
   rw [zho,L.k]
   rcases hr with ⟨_,h2,h3,_⟩ | ⟨_,h2,h3,_⟩ <;> rw [h2,h3] <;> simp
 . show logB (s.log++[r])=List.range s.n
   rw [zfp,L.b]
   rcases hr with ⟨_,h2,_,_⟩ | ⟨_,h2,_,_⟩ <;> rw [h2] <;> simp
 . show logG (s.log++[r])=(List.range s.n).filter λ e=>actB (up s.deed d _ e)
   rw [zhp,<-hg]
   rcases hr with ⟨_,h2,_,_⟩ | ⟨_,h2,_,_⟩ <;> rw [h2] <;> rfl
 . show (scan (s.log++[r])).book k=(bk k).getD 0
   rw [scan_snoc]
   rcases hr with ⟨_,h2,_,h4⟩ | ⟨_,h2,_,h4⟩
   . rw [h2,h4]; exact L.bk k
   . rw [h2,h4]
     show undo ((scan s.log).bef d) (scan s.log).book k=_
     rw [znM,L.bef d hd k,L.bk k]
     cases q:zaL (s.deed d).done k with
     | none=>simp [q]
     | some v=>simp [q]
 . have he':(up s.deed d { s.deed d with st:=t } e).act:=he
   obtain ⟨h1,h2⟩:=(actE e).mp he'
   show first ((scan (s.log++[r])).bef e) k=if (zaL (up s.deed d _ e).done k).isSome then _ else _
   rw [sc,dn e,kbe k,L.bef e h2 k]
   cases hs:(zaL (s.deed e).done k).isSome with
   | false=>rfl
   | true =>
     simp
     by_cases ht':t=.kept
     . rw [if_pos ht',zeX,sole e k h1 h2 hs]
     . rw [if_neg ht']
 . show (scan (s.log++[r])).bef e=[]
   rw [sc]; exact L.befN e he
 . refine .snoc L.wf ?_
   have:=L.zmH c hd
   rcases hr with ⟨_,h2,_,_⟩ | ⟨_,h2,_,_⟩ <;> rw [h2] <;> exact this
theorem zaQ.zaK {ks:List K} {s:HS K} (L:zaQ s) (c:Core s none):zaQ (TH.zaK s ks):=by
 refine zbG (λ t=>zaQ t) (λ t k d w r a c' hr hl ha q=>?_) ks s c L
 have hm:(d,w)∈t.rows k:=by rw [hr]; exact List.mem_cons_self
 obtain ⟨hw,a',ea,ek,ew⟩:=c'.rAct k (d,w) hm
 have ea':some a=some a':=ha.symm.trans ea
 cases ea'
 have c2:Core (take { t with rows:=up t.rows k r } d k w) (some d):=by
  have nd:=c'.rNd k
  rw [hr] at nd
  have sub:∀ k' p,p∈(up t.rows k r) k'->p∈t.rows k':=λ k' p hp=>by
    by_cases h:k'=k
    . subst h; rw [zag] at hp; rw [hr]; exact List.mem_cons_of_mem _ hp
    . rw [zao h] at hp; exact hp
  have c1:Core { t with rows:=up t.rows k r } (some d):=by
    refine ⟨c'.out,c'.hAct,c'.hNd,c'.hEx,λ k' p hp=>c'.rAct k' p (sub k' p hp),λ k'=>?_,λ e he hwt=>?_,λ k' e v v' h1 h2=>c'.zfP k' e v v' (sub k' _ h1) h2,c'.zfx,λ k' h'=>?_,c'.bOwn,c'.zgA,c'.ser,c'.actR,c'.zdm,c'.zht⟩
    . by_cases h:k'=k
      . subst h; show ((up t.rows k' r k').map _).Nodup; rw [zag]; exact (List.nodup_cons.mp nd).2
      . show ((up t.rows k r k').map _).Nodup; rw [zao h]; exact c'.rNd k'
    . obtain ⟨b,q1,q2⟩:=c'.wRow e (λ z=>by cases z) hwt
      refine ⟨b,q1,?_⟩
      show (e,b.wr)∈up t.rows k r b.key
      by_cases h:b.key=k
      . rw [h,zag]
        rw [h,hr] at q2
        rcases List.mem_cons.mp q2 with z | z
        . exact absurd (congrArg some (congrArg Prod.fst z)) he
        . exact z
      . rw [zao h]; exact q2
    . obtain ⟨q1,q2⟩:=c'.zfb k' h'
      have:k'≠k:=λ z=>by subst z; rw [hr] at q2; cases q2
      exact ⟨q1,by show up t.rows k r k'=_; rw [zao this]; exact q2⟩
  refine c1.take (.inr hw) hl (λ hwf w' z=>?_) (λ w' z=>?_) ?_
  . obtain ⟨_,q⟩:=c'.zfP k d w w' hm z
    rw [hwf] at q; cases q
  . have z':(d,w')∈up t.rows k r k:=z
    rw [zag] at z'
    exact (List.nodup_cons.mp nd).1 (List.mem_map.mpr ⟨_,z',rfl⟩)
  . by_cases z:k∈t.seen
    . exact z
    . have:=(c'.zfb k z).2; rw [hr] at this; cases this
 have q':zaQ (take { t with rows:=up t.rows k r } d k w):=⟨q.w,q.k,q.b,q.g,q.bk,q.bef,q.befN,q.wf⟩
 refine q'.doIt (w:=w) c2 (.inr hw) ?_
 show (d,w)∈up t.held k (zbf (t.held k) d w) a.key
 rw [ek,zag]
 exact zaS.mpr (.inl rfl)
variable (ord:List K->List K)
theorem zaQ.keep {s:HS K} {d:Nat} (L:zaQ s) (c:Core s none) (hd:(s.deed d).act):zaQ (TH.keep ord s d) :=
 (zaQ.ends (t:=.kept) L c hd (.inl rfl) (.inl ⟨rfl,rfl,rfl,rfl⟩)).zaK (c.keeps hd)
theorem zaQ.drop {s:HS K} {d:Nat} (L:zaQ s) (c:Core s none) (hd:(s.deed d).act):zaQ (TH.drop ord s d) :=
 (zaQ.ends (t:=.dropped) L c hd (.inr rfl) (.inr ⟨rfl,rfl,rfl,rfl⟩)).zaK (c.drops hd)
theorem zaQ.settle:∀ {f:Nat} {s:HS K},zaQ s->Core s none->zaQ (TH.settle ord f s)
 | 0,s,L,c=>L
 | f+1,s,L,c=>by
  unfold TH.settle
  split
  . exact L
  . rename_i d hd
    have q:=zbL (List.mem_of_getLast? hd)
    have ha:(s.deed d).act:=.inr (zaN q.2)
    exact zaQ.settle (L.drop ord c ha) (c.drop ord ha)
theorem zaQ.za1 {s:HS K} (L:zaQ s) (c:Core s none):zaQ (TH.za1 s):=by
 have o:=c.out s.n (Nat.le_refl _)
 have dn:∀ e,(up s.deed s.n ⟨.zar,[],none⟩ e).done=(s.deed e).done:=λ e=>by
   by_cases h:e=s.n
   . subst h; rw [zag,o.2]
   . rw [zao h]
 have kb:zav (TH.za1 s)=zav s:=zbq λ e _=>dn e
 have sc:scan (s.log++[.begin s.n])=scan s.log:=by rw [scan_snoc]; rfl
 refine ⟨λ e=>?_,?_,?_,?_,λ k=>?_,λ e he k=>?_,λ e he=>?_,?_⟩
 . show logW (s.log++[.begin s.n]) e=zas (up s.deed s.n _ e).done
   rw [zhn,dn e,L.w e]; simp
 . show logK (s.log++[.begin s.n])=s.kept
   rw [zho,L.k]; simp
 . show logB (s.log++[.begin s.n])=List.range (s.n+1)
   rw [zfp,L.b,List.range_succ]
 . show logG (s.log++[.begin s.n])=(List.range (s.n+1)).filter λ e=>actB (up s.deed s.n _ e)
   rw [zhp,List.range_succ,List.filter_append]
   show logG s.log++[s.n]=_
   rw [L.g]
   congr 1
   . refine zb5 λ x hx=>?_
     have:x≠s.n:=λ z=>by have:=List.mem_range.mp hx; omega
     rw [zao this]
   . rw [List.filter_cons_of_pos (by rw [zag]; rfl)]; rfl
 . show (scan (s.log++[.begin s.n])).book k=(s.book k).getD 0
   rw [sc]; exact L.bk k
 . show first ((scan (s.log++[.begin s.n])).bef e) k=if (zaL (up s.deed s.n _ e).done k).isSome then some ((zav (TH.za1 s) k).getD 0) else none
   rw [sc,dn e,kb]
   by_cases h:e=s.n
   . subst h
     rw [L.befN _ (Nat.le_refl _),o.2]; rfl
   . have he':(up s.deed s.n ⟨.zar,[],none⟩ e).act:=he
     rw [zao h] at he'
     exact L.bef e he' k
 . have he':s.n+1<=e:=he
   show (scan (s.log++[.begin s.n])).bef e=[]
   rw [sc]; exact L.befN e (by omega)
 . exact .snoc L.wf (by show s.n=(logB s.log).length; rw [L.b,List.length_range])
theorem zaQ.wish {s:HS K} {d:Nat} {a:Act K} (L:zaQ s) (c:Core s none) (hd:(s.deed d).st=.zar):zaQ (TH.wish ord s d a):=by
 have c1:Core (TH.see s a.key) none:=c.see
 have L1:zaQ (TH.see s a.key):=⟨L.w,L.k,L.b,L.g,L.bk,L.bef,L.befN,L.wf⟩
 have nor:∀ k w',(d,w')∉(TH.see s a.key).rows k:=λ k w' z=>by
   have:=(c1.rAct k _ z).1
   have this':(s.deed d).st=.waiting:=this
   rw [hd] at this'; cases this'
 unfold TH.wish
 dsimp only
 by_cases h1:look ((TH.see s a.key).held a.key) d=some a.wr\/look ((TH.see s a.key).held a.key) d=some true
 . rw [if_pos h1]
   rcases h1 with h1 | h1
   . exact L1.doIt c1.weaken (.inl hd) (zc2 h1)
   . exact L1.doIt c1.weaken (.inl hd) (zc2 h1)
 . rw [if_neg h1]
   have hw:∀ w',(d,w')∈(TH.see s a.key).held a.key->w'=false/\a.wr=true:=λ w' z=>by
     have q:=zdb (c1.hNd _) z
     cases hw':w' with
     | true=>exact absurd (.inr (hw' ▸ q)) h1
     | false =>
       cases ha:a.wr with
       | true=>exact ⟨rfl,rfl⟩
       | false=>exact absurd (.inl (by rw [ha,q,hw'])) h1
   by_cases h2:lets ((TH.see s a.key).held a.key) d a.wr=true/\(has ((TH.see s a.key).held a.key) d=true\/(TH.see s a.key).rows a.key=[])
   . rw [if_pos h2]
     have L2:zaQ (take (TH.see s a.key) d a.key a.wr):=⟨L1.w,L1.k,L1.b,L1.g,L1.bk,L1.bef,L1.befN,L1.wf⟩
     refine L2.doIt (w:=a.wr) (c1.weaken.take (.inl hd) h2.1 (λ hf w' z=>?_) (λ w'=>nor _ w') zcj) (.inl hd) ?_
     . have:=(hw w' z).2; rw [hf] at this; cases this
     . show (d,a.wr)∈up (TH.see s a.key).held a.key _ a.key
       rw [zag]; exact zaS.mpr (.inl rfl)
   . rw [if_neg h2]
     refine zaQ.settle ord ?_ (c1.wait hd zcj hw)
     have dn:∀ e,(up s.deed d { s.deed d with st:=.waiting,wish:=some a } e).done=(s.deed e).done:=λ e=>by
       by_cases h:e=d
       . subst h; rw [zag]
       . rw [zao h]
     have actE:∀ e,(up s.deed d { s.deed d with st:=.waiting,wish:=some a } e).act↔(s.deed e).act:=λ e=>by
       by_cases h:e=d
       . subst h; rw [zag]; exact ⟨λ _=>.inl hd,λ _=>.inr rfl⟩
       . rw [zao h]
     have kb:zav (TH.wait (TH.see s a.key) d a)=zav s:=zbq λ e _=>dn e
     refine ⟨λ e=>?_,L.k,L.b,?_,L.bk,λ e he k=>?_,L.befN,L.wf⟩
     . exact (L.w e).trans (congrArg zas (dn e)).symm
     . show logG s.log=(List.range s.n).filter λ e=>actB (up s.deed d _ e)
       rw [L.g]
       refine zb5 λ x _=>?_
       cases q:actB (s.deed x) with
       | true=>exact (zaM.mpr ((actE x).mpr (zaM.mp q))).symm
       | false =>
         cases q':actB (up s.deed d { s.deed d with st:=.waiting,wish:=some a } x) with
         | false=>exact q'.symm
         | true=>rw [zaM.mpr ((actE x).mp (zaM.mp q'))] at q; cases q
     . have q:=L.bef e ((actE e).mp he) k
       rw [kb]
       show first ((scan s.log).bef e) k=if (zaL (up s.deed d { s.deed d with st:=.waiting,wish:=some a } e).done k).isSome then some ((zav s k).getD 0) else none
       rw [dn e]; exact q
structure All (s:HS K):Prop where
 c:Core s none
 h:Head s
 a:Acyc s
 l:zaQ s
def empty:HS K:=⟨0,λ _=>⟨.dropped,[],none⟩,λ _=>[],λ _=>[],λ _=>none,[],[],[]⟩
theorem All.empty:All (TH.empty (K:=K)):=by
 have na:∀ d,¬ ((TH.empty (K:=K)).deed d).act:=λ d z=>by rcases z with z | z <;> cases z
 refine ⟨⟨λ d _=>⟨rfl,rfl⟩,λ k p hp=>(by cases hp),λ k=>List.nodup_nil,λ k d h=>(by cases h),λ k p hp=>(by cases hp),λ k=>List.nodup_nil,λ d _ h=>(by cases h),λ k d w w' h=>(by cases h),λ d h=>absurd h (na d),λ k _=>⟨rfl,rfl⟩,λ d h=>absurd h (na d),λ k _=>rfl,rfl,λ d h=>absurd h (na d),λ d=>⟨λ h=>(by cases h),λ h=>(by cases h)⟩,List.nodup_nil⟩,λ k d w r e=>(by cases e),λ d r=>?_,⟨λ d=>rfl,rfl,rfl,rfl,λ k=>rfl,λ d h=>absurd h (na d),λ d _=>rfl,.nil⟩⟩
 exact absurd (Or.inr (zaN r)) (na d)
variable (hord:∀ l k,k∈ord l↔k∈l)
include hord
end
end TH
end
section
namespace TH
section
variable {K:Type} [DecidableEq K]
def zjy (s:HS K) (a:Act K):Act K:=if a.wr then a else ⟨false,a.key,(s.book a.key).getD 0⟩
theorem zcq (s:HS K) (a:Act K):(zjy s a).key=a.key:=by unfold zjy; split <;> rfl
theorem zdp (s:HS K) (d:Nat) (a:Act K):(doIt s d a).deed=up s.deed d { s.deed d with st:=.zar,done:=(s.deed d).done++[zjy s a] }:=by
 unfold doIt zjy; split <;> rfl
theorem zp9 (s:HS K) (d:Nat) (a:Act K):(doIt s d a).log=s.log++(if a.wr then [.write d a.key ((s.book a.key).getD 0) a.val] else []):=by
 unfold doIt; split
 . rfl
 . simp
theorem zpa (s:HS K) (d:Nat) (a:Act K):(doIt s d a).book=if a.wr then up s.book a.key (some a.val) else s.book:=by
 unfold doIt; split <;> rfl
def zgt (D:Deed K):Bool:=decide (D.st=.waiting)
def zds (s:HS K):Nat:=(List.range s.n).countP λ d=>zgt (s.deed d)
theorem zhF {p q:Nat->Bool} {d:Nat}:∀ {l:List Nat},l.Nodup->(∀ x∈l,q x=true->p x=true\/x=d)->l.countP q<=l.countP p+1
 | [],_,_=>by simp
 | x::r,nd,h=>by
  have hr:∀ y∈r,q y=true->p y=true\/y=d:=λ y hy=>h y (List.mem_cons_of_mem _ hy)
  have nd':=List.nodup_cons.mp nd
  rw [List.countP_cons,List.countP_cons]
  by_cases hx:x=d
  . have:r.countP q<=r.countP p:=List.countP_mono_left λ y hy hq=>(hr y hy hq).resolve_right λ z=>nd'.1 (by rw [hx,<-z]; exact hy)
    split <;> split <;> omega
  . have ih:=zhF nd'.2 hr
    cases hq:q x with
    | false=>simp; split <;> omega
    | true =>
     have:p x=true:=(h x List.mem_cons_self hq).resolve_right hx
     simp [this]; exact ih
structure Ext (s:HS K) (T:Nat):Prop where
 own:∀ k d w,(d,w)∈s.held k->∃ a∈(s.deed d).done,a.key=k
 dn:∀ d,(s.deed d).done.length+(if (s.deed d).st=.waiting then 1 else 0)<=T
 n:s.n<=T
 sn:s.seen.length<=T
 snd:s.seen.Nodup
 lg:s.log.length+zds s+actN s<=2 * T
 zgx:∀ d,∀ a∈(s.deed d).done,a.key∈s.seen
 zhI:∀ k,s.book k≠none->k∈s.seen
theorem zon:∀ {l:List (Act K)} {b:Book K} {k:K},over b l k≠none->b k≠none\/∃ a∈l,a.key=k:=λ {l b k} h=>by
 rw [zeX] at h
 cases e:zaL l k with
 | none=>rw [e] at h; exact .inl h
 | some v=>obtain ⟨a,ha,_,hk⟩:=zd9 e; exact .inr ⟨a,ha,hk⟩
theorem ziv {deed:Nat->Deed K} {k:K}:∀ {l:List Nat} {b:Book K},zea deed l b k≠none->b k≠none\/∃ d∈l,∃ a∈(deed d).done,a.key=k
 | [],b,h=>.inl h
 | d::r,b,h=>by
  rcases ziv (l:=r) h with h | ⟨e,he,q⟩
  . rcases zon h with h | ⟨a,ha,hk⟩
    . exact .inl h
    . exact .inr ⟨d,List.mem_cons_self,a,ha,hk⟩
  . exact .inr ⟨e,List.mem_cons_of_mem _ he,q⟩
theorem Ext.zpX {s:HS K} {T:Nat} (E:Ext s T):∀ k,zav s k≠none->k∈s.seen:=λ k h=>by
 rcases ziv h with h | ⟨d,_,a,ha,hk⟩
 . exact absurd rfl h
 . rw [<-hk]; exact E.zgx d a ha
theorem Ext.mono {s:HS K} {T T':Nat} (E:Ext s T) (h:T<=T'):Ext s T' :=
 ⟨E.own,λ d=>Nat.le_trans (E.dn d) h,Nat.le_trans E.n h,Nat.le_trans E.sn h,E.snd,Nat.le_trans E.lg (by omega),E.zgx,E.zhI⟩
theorem Ext.empty:Ext (TH.empty (K:=K)) 0 :=
 ⟨λ k d w h=>(by cases h),λ d=>(by simp [TH.empty]),Nat.le_refl _,Nat.le_refl _,List.nodup_nil,by simp [TH.empty,zds,actN],λ d a h=>(by cases h),λ k h=>absurd rfl h⟩
theorem Ext.does {s t:HS K} {T T':Nat} {d:Nat} {a:Act K} (E:Ext s T) (hn:t.n=s.n) (hs:t.seen=s.seen) (hdl:d < s.n) (hd:(s.deed d).act)
   (hdeed:t.deed=up s.deed d { s.deed d with st:=.zar,done:=(s.deed d).done++[a] })
   (hlog:t.log.length<=s.log.length+1) (hbook:∀ k,t.book k≠none->s.book k≠none\/k=a.key)
   (hheld:∀ k e w,(e,w)∈t.held k->(∃ w',(e,w')∈s.held k)\/(e=d/\k=a.key)) (hk:a.key∈s.seen) (hT:T<=T') (hw:(s.deed d).st=.waiting\/T+1<=T'):Ext t T':=by
 have ds:t.deed d={ s.deed d with st:=.zar,done:=(s.deed d).done++[a] }:=by rw [hdeed,zag]
 have dn:∀ e,e≠d->t.deed e=s.deed e:=λ e he=>by rw [hdeed,zao he]
 have sub:∀ e x,x∈(s.deed e).done->x∈(t.deed e).done:=λ e x hx=>by
   by_cases he:e=d
   . subst he; rw [ds]; exact List.mem_append_left _ hx
   . rw [dn e he]; exact hx
 refine ⟨λ k e w h=>?_,λ e=>?_,by rw [hn]; exact Nat.le_trans E.n hT,by rw [hs]; exact Nat.le_trans E.sn hT,by rw [hs]; exact E.snd,?_,λ e x hx=>?_,λ k h=>?_⟩
 . rcases hheld k e w h with ⟨w',h'⟩ | ⟨he,hk'⟩
   . obtain ⟨x,hx,q⟩:=E.own k e w' h'
     exact ⟨x,sub e x hx,q⟩
   . subst he
     refine ⟨a,?_,hk'.symm⟩
     rw [ds]; exact List.mem_append_right _ List.mem_cons_self
 . by_cases he:e=d
   . subst he
     have:=E.dn e
     rw [ds]
     simp only [List.length_append,List.length_cons,List.length_nil]
     rcases hw with hw | hw
     . rw [if_pos hw] at this; simp; omega
     . simp
       have:(s.deed e).done.length<=T:=by split at this <;> omega
       omega
   . rw [dn e he]; exact Nat.le_trans (E.dn e) hT
 . have ea:actN t=actN s:=by
     unfold actN; rw [hn]
     refine List.countP_congr λ x _=>?_
     by_cases hx:x=d
     . subst hx; rw [ds,zaM,zaM]; exact ⟨λ _=>hd,λ _=>.inl rfl⟩
     . rw [dn x hx]
   have:=E.lg
   rcases hw with hw | hw
   . have ew:zds t < zds s:=by
       unfold zds; rw [hn]
       refine zfz (λ x _ hx=>?_) ⟨d,List.mem_range.mpr hdl,?_,?_⟩
       . by_cases hxd:x=d
         . subst hxd; unfold zgt; rw [hw]; rfl
         . rw [dn x hxd] at hx; exact hx
       . unfold zgt; rw [hw]; rfl
       . rw [ds]; rfl
     omega
   . have ew:zds t<=zds s:=by
       unfold zds; rw [hn]
       refine List.countP_mono_left λ x _ hx=>?_
       by_cases hxd:x=d
       . subst hxd; rw [ds] at hx; cases hx
       . rw [dn x hxd] at hx; exact hx
     omega
 . rw [hs]
   by_cases he:e=d
   . subst he
     rw [ds] at hx
     rcases List.mem_append.mp hx with hx | hx
     . exact E.zgx e x hx
     . rw [List.mem_singleton.mp hx]; exact hk
   . rw [dn e he] at hx; exact E.zgx e x hx
 . rw [hs]
   rcases hbook k h with h | h
   . exact E.zhI k h
   . rw [h]; exact hk
theorem zb2 {s:HS K} {x:Option Nat} (c:Core s x) {k:K} {p:Nat×Bool} (h:p∈s.rows k):k∈s.seen:=by
 by_cases hk:k∈s.seen
 . exact hk
 . rw [(c.zfb k hk).2] at h; cases h
theorem zi9 {s:HS K} {d e:Nat} {k k':K} {w w':Bool} (h:(e,w')∈(take s d k w).held k'):(∃ w'',(e,w'')∈s.held k')\/(e=d/\k'=k):=by
 by_cases hk:k'=k
 . subst hk
   have h':(e,w')∈up s.held k' (zbf (s.held k') d w) k':=h
   rw [zag] at h'
   unfold zbf at h'
   split at h'
   . obtain ⟨p,hp,q⟩:=List.mem_map.mp h'
     by_cases hpd:(p.1 == d)=true
     . rw [if_pos hpd] at q; cases q; exact .inr ⟨rfl,rfl⟩
     . rw [if_neg hpd] at q; subst q; exact .inl ⟨_,hp⟩
   . rcases List.mem_append.mp h' with h' | h'
     . exact .inl ⟨_,h'⟩
     . rw [List.mem_singleton] at h'; cases h'; exact .inr ⟨rfl,rfl⟩
 . have h':(e,w')∈up s.held k _ k':=h
   rw [zao hk] at h'; exact .inl ⟨_,h'⟩
theorem zhJ {s:HS K} {d:Nat} {a:Act K} {k:K} (h:(doIt s d a).book k≠none):s.book k≠none\/k=(zjy s a).key:=by
 rw [zpa] at h
 rw [zcq]
 split at h
 . by_cases hk:k=a.key
   . exact .inr hk
   . rw [zao hk] at h; exact .inl h
 . exact .inl h
theorem zjd {s:HS K} {d:Nat} {a:Act K}:(doIt s d a).log.length<=s.log.length+1:=by
 rw [zp9,List.length_append]; split <;> simp
theorem Ext.zaK {ks:List K} {s:HS K} {T:Nat} (E:Ext s T) (c:Core s none):Ext (TH.zaK s ks) T:=by
 refine zbG (λ t=>Ext t T) (λ s k d w r a c hr hl ha E=>?_) ks s c E
 have hm:(d,w)∈s.rows k:=by rw [hr]; exact List.mem_cons_self
 obtain ⟨hst,a',ha',hk',hw'⟩:=c.rAct k _ hm
 rw [ha] at ha'; cases ha'
 refine E.does (a:=zjy s a) (d:=d) (by rw [zdI]; rfl) (by rw [zb6]; rfl) (c.lt (.inr hst)) (.inr hst) (by rw [zdp]; rfl) zjd (λ k=>zhJ) (λ k' e w' h=>?_) ?_ (Nat.le_refl _) (.inl hst)
 . rw [zcp] at h
   rcases zi9 h with h | ⟨h1,h2⟩
   . exact .inl h
   . exact .inr ⟨h1,by rw [zcq,hk']; exact h2⟩
 . rw [zcq,hk']; exact zb2 c hm
theorem zpV {l:List (Nat×Bool)} {d:Nat} {p:Nat×Bool} (h:p∈less l d):p∈l:=(List.mem_filter.mp h).1
theorem Ext.ends {s:HS K} {d:Nat} {t:DS} {bk:Book K} {kp:List Nat} {r:Row K} {T:Nat} (E:Ext s T) (c:Core s none) (hd:(s.deed d).act) (ht:t=.kept\/t=.dropped) (hb:∀ k,bk k≠none->k∈s.seen) :
   Ext (letGo { s with deed:=up s.deed d { s.deed d with st:=t },book:=bk,kept:=kp,log:=s.log++[r] } d) T:=by
 have dn:∀ e,(up s.deed d { s.deed d with st:=t } e).done=(s.deed e).done:=λ e=>by
   by_cases h:e=d
   . subst h; rw [zag]
   . rw [zao h]
 have tw:t≠.waiting/\t≠.zar:=by rcases ht with h | h <;> subst h <;> decide
 refine ⟨λ k e w h=>?_,λ e=>?_,E.n,E.sn,E.snd,?_,λ e x hx=>?_,λ k h=>hb k h⟩
 . obtain ⟨x,hx,q⟩:=E.own k e w (zpV h)
   exact ⟨x,by show x∈(up s.deed d _ e).done; rw [dn]; exact hx,q⟩
 . show (up s.deed d _ e).done.length+(if (up s.deed d _ e).st=.waiting then 1 else 0)<=T
   rw [dn]
   have:=E.dn e
   by_cases h:e=d
   . subst h; rw [zag,if_neg tw.1]; split at this <;> omega
   . rw [zao h]; exact this
 . show (s.log++[r]).length+(List.range s.n).countP (λ x=>zgt (up s.deed d _ x))+(List.range s.n).countP (λ x=>actB (up s.deed d _ x))<=2 * T
   have e1:(List.range s.n).countP (λ x=>actB (up s.deed d { s.deed d with st:=t } x)) < actN s:=by
     unfold actN
     refine zfz (λ x _ hx=>?_) ⟨d,List.mem_range.mpr (c.lt hd),zaM.mpr hd,?_⟩
     . by_cases h:x=d
       . subst h; exact zaM.mpr hd
       . rw [zao h] at hx; exact hx
     . rw [zag]; unfold actB; simp [tw.1,tw.2]
   have e2:(List.range s.n).countP (λ x=>zgt (up s.deed d { s.deed d with st:=t } x))<=zds s:=by
     unfold zds
     refine List.countP_mono_left λ x _ hx=>?_
     by_cases h:x=d
     . subst h; rw [zag] at hx; unfold zgt at hx; simp [tw.1] at hx
     . rw [zao h] at hx; exact hx
   have:=E.lg
   rw [List.length_append,List.length_singleton]
   dsimp only at e1 e2 ⊢
   omega
 . have hx':x∈(up s.deed d { s.deed d with st:=t } e).done:=hx
   rw [dn] at hx'; exact E.zgx e x hx'
variable (ord:List K->List K)
theorem Ext.keep {s:HS K} {d:Nat} {T:Nat} (E:Ext s T) (c:Core s none) (hd:(s.deed d).act):Ext (TH.keep ord s d) T:=by
 have:=Ext.zaK (ks:=ord s.seen) (E.ends (t:=.kept) (bk:=s.book) (kp:=s.kept++[d]) (r:=.keep d) c hd (.inl rfl) E.zhI) (c.keeps hd)
 exact this
theorem Ext.drop {s:HS K} {d:Nat} {T:Nat} (E:Ext s T) (c:Core s none) (hd:(s.deed d).act):Ext (TH.drop ord s d) T:=by
 have:=Ext.zaK (ks:=ord s.seen) (E.ends (t:=.dropped) (bk:=λ k=>if (zaL (s.deed d).done k).isSome then zav s k else s.book k) (kp:=s.kept) (r:=.drop d) c hd (.inr rfl) (λ k h=>by
  split at h
  . exact E.zpX k h
  . exact E.zhI k h)) (c.drops hd)
 exact this
theorem Ext.za1 {s:HS K} {T:Nat} (E:Ext s T) (c:Core s none):Ext (TH.za1 s) (T+1):=by
 have dd:∀ e,e≠s.n->(TH.za1 s).deed e=s.deed e:=λ e he=>zao he
 have ds:(TH.za1 s).deed s.n=⟨.zar,[],none⟩:=zag
 have out:=c.out s.n (Nat.le_refl _)
 refine ⟨λ k d w h=>?_,λ d=>?_,Nat.succ_le_succ E.n,Nat.le_succ_of_le E.sn,E.snd,?_,λ d x hx=>?_,E.zhI⟩
 . obtain ⟨x,hx,q⟩:=E.own k d w h
   have hne:d≠s.n:=λ z=>by subst z; rw [out.2] at hx; cases hx
   exact ⟨x,by rw [dd d hne]; exact hx,q⟩
 . by_cases h:d=s.n
   . subst h; rw [ds]; simp
   . rw [dd d h]; exact Nat.le_succ_of_le (E.dn d)
 . show (s.log++[_]).length+(List.range (s.n+1)).countP (λ x=>zgt ((TH.za1 s).deed x))+(List.range (s.n+1)).countP (λ x=>actB ((TH.za1 s).deed x))<=_
   rw [List.range_succ,List.countP_append,List.countP_append,List.length_append]
   have e1:(List.range s.n).countP (λ x=>zgt ((TH.za1 s).deed x))=zds s:=List.countP_congr λ x hx=>by rw [dd x (Nat.ne_of_lt (List.mem_range.mp hx))]
   have e2:(List.range s.n).countP (λ x=>actB ((TH.za1 s).deed x))=actN s:=List.countP_congr λ x hx=>by rw [dd x (Nat.ne_of_lt (List.mem_range.mp hx))]
   rw [e1,e2]
   have:=E.lg
   have h1:[s.n].countP (λ x=>zgt ((TH.za1 s).deed x))=0:=by simp [ds,zgt]
   have h2:[s.n].countP (λ x=>actB ((TH.za1 s).deed x))<=1:=by
     have:=List.countP_le_length (p:=λ x=>actB ((TH.za1 s).deed x)) (l:=[s.n]); simpa using this
   rw [h1]
   simp only [List.length_singleton]
   omega
 . by_cases h:d=s.n
   . subst h; rw [ds] at hx; cases hx
   . rw [dd d h] at hx; exact E.zgx d x hx
theorem Ext.see {s:HS K} {T:Nat} {k:K} (E:Ext s T):Ext (TH.see s k) (T+1):=by
 have sub:∀ x,x∈s.seen->x∈(TH.see s k).seen:=λ x hx=>by
   show x∈if k∈s.seen then s.seen else s.seen++[k]
   split
   . exact hx
   . exact List.mem_append_left _ hx
 refine ⟨E.own,λ d=>Nat.le_succ_of_le (E.dn d),Nat.le_succ_of_le E.n,?_,?_,Nat.le_trans E.lg (by omega),λ d x hx=>sub _ (E.zgx d x hx),λ k h=>sub _ (E.zhI k h)⟩
 . show (if k∈s.seen then s.seen else s.seen++[k]).length<=_
   have:=E.sn
   split
   . omega
   . simp; omega
 . show (if k∈s.seen then s.seen else s.seen++[k]).Nodup
   split
   . exact E.snd
   . rename_i h
     exact List.nodup_append.mpr ⟨E.snd,by simp,λ a ha b hb=>by rw [List.mem_singleton.mp hb]; intro z; rw [z] at ha; exact h ha⟩
theorem Ext.settle:∀ {f:Nat} {s:HS K} {T:Nat},Ext s T->Core s none->Ext (TH.settle ord f s) T
 | 0,s,T,E,c=>E
 | f+1,s,T,E,c=>by
  unfold TH.settle
  cases h:(rings s).getLast? with
  | none=>exact E
  | some d =>
   have hd:(s.deed d).act:=.inr (zaN (zbL (List.mem_of_getLast? h)).2)
   exact Ext.settle (E.drop ord c hd) (c.drop ord hd)
theorem Ext.wait {s:HS K} {d:Nat} {a:Act K} {T:Nat} (E:Ext s T) (hd:(s.deed d).st=.zar) (hT:∀ e,(s.deed e).done.length+(if (s.deed e).st=.waiting then 1 else 0)+1<=T) (hl:s.log.length+zds s+actN s+2<=2 * T):Ext (TH.wait s d a) T:=by
 have dn:∀ e,(up s.deed d { s.deed d with st:=.waiting,wish:=some a } e).done=(s.deed e).done:=λ e=>by
   by_cases h:e=d
   . subst h; rw [zag]
   . rw [zao h]
 refine ⟨λ k e w h=>?_,λ e=>?_,E.n,E.sn,E.snd,?_,λ e x hx=>?_,E.zhI⟩
 . obtain ⟨x,hx,q⟩:=E.own k e w h
   exact ⟨x,by show x∈(up s.deed d _ e).done; rw [dn]; exact hx,q⟩
 . show (up s.deed d _ e).done.length+(if (up s.deed d _ e).st=.waiting then 1 else 0)<=T
   rw [dn]
   have:=hT e
   split at this <;> split <;> omega
 . show s.log.length+(List.range s.n).countP (λ x=>zgt (up s.deed d _ x))+(List.range s.n).countP (λ x=>actB (up s.deed d _ x))<=2 * T
   have e1:(List.range s.n).countP (λ x=>actB (up s.deed d { s.deed d with st:=.waiting,wish:=some a } x))<=actN s:=by
     unfold actN
     refine List.countP_mono_left λ x _ hx=>?_
     by_cases h:x=d
     . subst h; exact zaM.mpr (.inl hd)
     . rw [zao h] at hx; exact hx
   have e2:(List.range s.n).countP (λ x=>zgt (up s.deed d { s.deed d with st:=.waiting,wish:=some a } x))<=zds s+1:=by
     unfold zds
     refine zhF (d:=d) List.nodup_range λ x _ hx=>?_
     by_cases h:x=d
     . exact .inr h
     . rw [zao h] at hx; exact .inl hx
   dsimp only at e1 e2 ⊢
   omega
 . have hx':x∈(up s.deed d { s.deed d with st:=.waiting,wish:=some a } e).done:=hx
   rw [dn] at hx'; exact E.zgx e x hx'
theorem Ext.wish {s:HS K} {d:Nat} {a:Act K} {T:Nat} (E:Ext s T) (c:Core s none) (hd:(s.deed d).st=.zar):Ext (TH.wish ord s d a) (T+1):=by
 have c1:Core (TH.see s a.key) none:=c.see
 have E1:Ext (TH.see s a.key) (T+1):=E.see
 have es:∀ x,x∈(TH.see s a.key).seen↔x=a.key\/x∈s.seen:=λ x=>by
   show x∈(if a.key∈s.seen then s.seen else s.seen++[a.key])↔_
   split
   . rename_i h; exact ⟨.inr,λ q=>q.elim (λ z=>z ▸ h) id⟩
   . rw [List.mem_append,List.mem_singleton]; exact Or.comm
 have main:∀ t:HS K,t.n=s.n->t.seen=(TH.see s a.key).seen->t.deed=s.deed->t.log=s.log->t.book=s.book->(∀ k e w,(e,w)∈t.held k->(∃ w',(e,w')∈s.held k)\/(e=d/\k=a.key))->Ext (doIt t d a) (T+1):=by
   intro t hn hs hdd hlg hbk hh
   have q:Ext { s with seen:=(TH.see s a.key).seen } (T+1):=E1
   have D:∀ T',Ext { s with seen:=(TH.see s a.key).seen } T'->T<=T'->(∀ e,(s.deed e).done.length+(if (s.deed e).st=.waiting then 1 else 0)<=T)->Ext (doIt t d a) (T+1):=λ _ _ _ _=>by
     have ds:(doIt t d a).deed d={ s.deed d with st:=.zar,done:=(s.deed d).done++[zjy t a] }:=by rw [zdp,hdd,zag]
     have dn:∀ e,e≠d->(doIt t d a).deed e=s.deed e:=λ e he=>by rw [zdp,hdd,zao he]
     have en:(doIt t d a).n=s.n:=by rw [zdI]; exact hn
     refine ⟨λ k e w h=>?_,λ e=>?_,by rw [en]; exact Nat.le_succ_of_le E.n,by rw [zb6,hs]; exact E1.sn,by rw [zb6,hs]; exact E1.snd,?_,λ e x hx=>?_,λ k h=>?_⟩
     . rw [zcp] at h
       have sub:∀ e x,x∈(s.deed e).done->x∈((doIt t d a).deed e).done:=λ e x hx=>by
         by_cases he:e=d
         . subst he; rw [ds]; exact List.mem_append_left _ hx
         . rw [dn e he]; exact hx
       rcases hh k e w h with ⟨w',h'⟩ | ⟨he,hk⟩
       . obtain ⟨x,hx,q⟩:=E.own k e w' h'
         exact ⟨x,sub e x hx,q⟩
       . subst he
         exact ⟨zjy t a,by rw [ds]; exact List.mem_append_right _ List.mem_cons_self,by rw [zcq]; exact hk.symm⟩
     . by_cases he:e=d
       . subst he
         have:=E.dn e
         rw [ds]
         simp
         split at this <;> omega
       . rw [dn e he]; exact Nat.le_succ_of_le (E.dn e)
     . have e1:actN (doIt t d a)=actN s:=by
         unfold actN; rw [en]
         refine List.countP_congr λ x _=>?_
         by_cases hx:x=d
         . subst hx; rw [ds,zaM,zaM]; exact ⟨λ _=>.inl hd,λ _=>.inl rfl⟩
         . rw [dn x hx]
       have e2:zds (doIt t d a)<=zds s:=by
         unfold zds; rw [en]
         refine List.countP_mono_left λ x _ hx=>?_
         by_cases hxd:x=d
         . subst hxd; rw [ds] at hx; cases hx
         . rw [dn x hxd] at hx; exact hx
       have e3:=zjd (s:=t) (d:=d) (a:=a)
       rw [hlg] at e3
       have:=E.lg
       omega
     . rw [zb6,hs]
       by_cases he:e=d
       . subst he
         rw [ds] at hx
         rcases List.mem_append.mp hx with hx | hx
         . exact (es _).mpr (.inr (E.zgx e x hx))
         . rw [List.mem_singleton.mp hx,zcq]; exact (es _).mpr (.inl rfl)
       . rw [dn e he] at hx; exact (es _).mpr (.inr (E.zgx e x hx))
     . rw [zb6,hs]
       rcases zhJ h with h | h
       . rw [hbk] at h; exact (es _).mpr (.inr (E.zhI k h))
       . rw [h,zcq]; exact (es _).mpr (.inl rfl)
   exact D _ q (Nat.le_succ _) E.dn
 unfold TH.wish
 dsimp only
 by_cases h1:look ((TH.see s a.key).held a.key) d=some a.wr\/look ((TH.see s a.key).held a.key) d=some true
 . rw [if_pos h1]
   exact main _ rfl rfl rfl rfl rfl λ k e w h=>.inl ⟨w,h⟩
 . rw [if_neg h1]
   have hw:∀ w',(d,w')∈(TH.see s a.key).held a.key->w'=false/\a.wr=true:=λ w' z=>by
     have q:=zdb (c1.hNd _) z
     cases hw':w' with
     | true=>exact absurd (.inr (hw' ▸ q)) h1
     | false =>
       cases ha:a.wr with
       | true=>exact ⟨rfl,rfl⟩
       | false=>exact absurd (.inl (by rw [ha,q,hw'])) h1
   by_cases h2:lets ((TH.see s a.key).held a.key) d a.wr=true/\(has ((TH.see s a.key).held a.key) d=true\/(TH.see s a.key).rows a.key=[])
   . rw [if_pos h2]
     exact main _ rfl rfl rfl rfl rfl λ k e w h=>zi9 (s:=TH.see s a.key) h
   . rw [if_neg h2]
     refine Ext.settle ord (Ext.wait E1 hd (λ e=>?_) ?_) (c1.wait hd zcj hw)
     . have:=E.dn e
       show (s.deed e).done.length+(if (s.deed e).st=.waiting then 1 else 0)+1<=T+1
       omega
     . show s.log.length+zds s+actN s+2<=2 * (T+1)
       have:=E.lg; omega
end
end TH
end
section
namespace TH
section
variable {K:Type} [DecidableEq K]
theorem zk2 {α:Type} {p:α->Bool}:∀ {l:List α},l.takeWhile p=l↔∀ x∈l,p x=true
 | []=>by simp
 | a::r=>by
  rw [List.takeWhile_cons]
  cases h:p a with
  | true=>simp [zk2 (l:=r),h]
  | false=>simp [h]
def hind (h:List (Nat×Bool)) (d:Nat) (w:Bool):List Nat:=(h.filter λ p=>p.1 != d && (w || p.2)).map (·.1)
def ahead (r:List (Nat×Bool)) (d:Nat):List (Nat×Bool):=r.takeWhile λ p=>p.1 != d
def zi6 (h r:List (Nat×Bool)) (d:Nat) (w:Bool):List Nat:=match (ahead r d).getLast? with
 | some p=>[p.1]
 | none=>hind h d w
def nxt (s:HS K) (d:Nat):List Nat:=match (s.deed d).st,(s.deed d).wish with
 | .waiting,some a=>zi6 (s.held a.key) (s.rows a.key) d a.wr
 | _,_=>[]
theorem zen {s:HS K} {d:Nat} {a:Act K} (h:(s.deed d).st=.waiting) (w:(s.deed d).wish=some a):zaC s d=(ahead (s.rows a.key) d).map (·.1)++hind (s.held a.key) d a.wr:=by
 unfold zaC; rw [h,w]; rfl
theorem zkl {s:HS K} {d:Nat} {a:Act K} (h:(s.deed d).st=.waiting) (w:(s.deed d).wish=some a):nxt s d=zi6 (s.held a.key) (s.rows a.key) d a.wr:=by
 unfold nxt; rw [h,w]
theorem zot {s:HS K} {d:Nat} (h:(s.deed d).st≠.waiting):nxt s d=[]:=by
 unfold nxt; split
 . contradiction
 . rfl
inductive Path (R:Nat->Nat->Prop):Nat->Nat->Prop where
 | one {d e:Nat}:R d e->Path R d e
 | step {d e f:Nat}:R d e->Path R e f->Path R d f
theorem Path.trans {R:Nat->Nat->Prop} {d e f:Nat} (p:Path R d e) (q:Path R e f):Path R d f:=by
 induction p with
 | one h=>exact .step h q
 | step h _ ih=>exact .step h (ih q)
theorem Path.mono {R S:Nat->Nat->Prop} (h:∀ a b,R a b->S a b) {d e:Nat} (p:Path R d e):Path S d e:=by
 induction p with
 | one q=>exact .one (h _ _ q)
 | step q _ ih=>exact .step (h _ _ q) ih
theorem Path.last {R:Nat->Nat->Prop} {d e:Nat} (p:Path R d e):∃ c,R c e/\(c=d\/Path R d c):=by
 induction p with
 | one h=>exact ⟨_,h,.inl rfl⟩
 | step h _ ih =>
  obtain ⟨c,q,z⟩:=ih
  refine ⟨c,q,.inr ?_⟩
  rcases z with z | z
  . subst z; exact .one h
  . exact .step h z
theorem zbC {s:HS K} {d e:Nat}:Reach s d e↔Path (λ a b=>b∈zaC s a) d e :=
 ⟨λ r=>by induction r with
  | one h=>exact .one h
  | step h _ ih=>exact .step h ih,λ r=>by induction r with
  | one h=>exact .one h
  | step h _ ih=>exact .step h ih⟩
abbrev zc5 (s:HS K):Nat->Nat->Prop:=Path λ a b=>b∈nxt s a
theorem zkk {s:HS K} {d e:Nat} (h:e∈nxt s d):e∈zaC s d:=by
 by_cases hw:(s.deed d).st=.waiting
 . cases ha:(s.deed d).wish with
   | none=>unfold nxt at h; rw [hw,ha] at h; cases h
   | some a =>
    rw [zkl hw ha] at h
    rw [zen hw ha]
    unfold zi6 at h
    cases hl:(ahead (s.rows a.key) d).getLast? with
    | none=>rw [hl] at h; exact List.mem_append_right _ h
    | some p =>
     rw [hl] at h
     rw [List.mem_singleton.mp h]
     exact List.mem_append_left _ (List.mem_map.mpr ⟨p,List.mem_of_getLast? hl,rfl⟩)
 . rw [zot hw] at h; cases h
theorem zc4 {pre post:List (Nat×Bool)} {d:Nat} {w:Bool} (h:∀ p∈pre,p.1≠d):ahead (pre++(d,w)::post) d=pre:=by
 unfold ahead
 rw [List.takeWhile_append_of_pos (by intro p hp; simpa using h p hp)]
 simp
theorem zgJ {r:List (Nat×Bool)} {d:Nat} {w:Bool} (nd:(r.map (·.1)).Nodup) (h:(d,w)∈r):∃ post,r=ahead r d++(d,w)::post/\∀ p∈ahead r d,p.1≠d:=by
 obtain ⟨pre,post,rfl⟩:=List.append_of_mem h
 have hp:∀ p∈pre,p.1≠d:=λ p hp z=>by
  rw [List.map_append,List.nodup_append] at nd
  exact nd.2.2 p.1 (List.mem_map.mpr ⟨p,hp,rfl⟩) d (by simp) z
 exact ⟨post,by rw [zc4 hp],by rw [zc4 hp]; exact hp⟩
theorem zgY {s:HS K} (c:Core s none) {k:K}:∀ (m:Nat) (pre post:List (Nat×Bool)) (d:Nat) (w:Bool),pre.length=m->s.rows k=pre++(d,w)::post->∀ p∈pre,zc5 s d p.1
 | 0,pre,post,d,w,hm,e,p,hp=>by
  have:pre=[]:=List.length_eq_zero_iff.mp hm
  subst this; cases hp
 | m+1,pre,post,d,w,hm,e,p,hp=>by
  have hne:pre≠[]:=by intro z; subst z; cases hm
  obtain ⟨init,⟨f,wf⟩,rfl⟩:∃ init l,pre=init++[l]:=⟨pre.dropLast,pre.getLast hne,(List.dropLast_concat_getLast hne).symm⟩
  have nd:=c.rNd k
  have hm':(d,w)∈s.rows k:=by rw [e]; simp
  obtain ⟨hst,a,ha,hk,hw⟩:=c.rAct k _ hm'
  obtain ⟨post',e',hall⟩:=zgJ nd hm'
  have hpre:∀ p∈init++[(f,wf)],p.1≠d:=λ p hp z=>by
    rw [e,List.map_append,List.nodup_append] at nd
    exact nd.2.2 p.1 (List.mem_map.mpr ⟨p,hp,rfl⟩) d (by simp) z
  have ea:ahead (s.rows k) d=init++[(f,wf)]:=by rw [e]; exact zc4 hpre
  have h1:f∈nxt s d:=by
    rw [zkl hst ha,hk]; unfold zi6; rw [ea]; simp
  rcases List.mem_append.mp hp with hp | hp
  . exact .step h1 (zgY c m init ((d,w)::post) f wf (by simpa using hm) (by rw [e]; simp) p hp)
  . rw [List.mem_singleton.mp hp]; exact .one h1
theorem zgg {s:HS K} (c:Core s none) (hh:Head s) {d e:Nat} (h:e∈zaC s d):zc5 s d e:=by
 obtain ⟨a,hst,ha,_⟩:=zbc.mp h
 rw [zen hst ha] at h
 obtain ⟨a',ha',hrow⟩:=c.wRow d (by simp) hst
 rw [ha] at ha'; cases ha'
 have hr:(d,a.wr)∈s.rows a.key:=hrow
 have nd:=c.rNd a.key
 obtain ⟨post,e1,hall⟩:=zgJ nd hr
 rcases List.mem_append.mp h with h | h
 . obtain ⟨p,hp,rfl⟩:=List.mem_map.mp h
   exact zgY c _ _ post d a.wr rfl e1 p hp
 . cases hl:ahead (s.rows a.key) d with
   | nil =>
    refine .one ?_
    rw [zkl hst ha]; unfold zi6; rw [hl]; exact h
   | cons p r =>
    obtain ⟨f,wf⟩:=p
    have hf:zc5 s d f:=zgY c _ _ post d a.wr rfl e1 (f,wf) (by rw [hl]; exact List.mem_cons_self)
    by_cases hef:e=f
    . rw [hef]; exact hf
    ·
      rw [hl] at e1
      have hd0:=hh a.key f wf _ (by rw [e1]; rfl)
      unfold hind at h
      obtain ⟨⟨e',we⟩,hm,rfl⟩:=List.mem_map.mp h
      obtain ⟨hm1,hm2⟩:=List.mem_filter.mp hm
      have hfr:(f,wf)∈s.rows a.key:=by rw [e1]; simp
      obtain ⟨fst,af,haf,hkf,hwf⟩:=c.rAct a.key _ hfr
      have hnf:nxt s f=hind (s.held a.key) f wf:=by
       have q:=zkl fst haf
       rw [hkf] at q
       rw [q]
       unfold zi6
       have:ahead (s.rows a.key) f=[]:=by rw [e1]; exact zc4 (pre:=[]) (by simp)
       rw [this]
       show hind (s.held a.key) f af.wr=_
       rw [hwf]
      refine hf.trans (.one ?_)
      rw [hnf]
      unfold hind
      refine List.mem_map.mpr ⟨(e',we),List.mem_filter.mpr ⟨hm1,?_⟩,rfl⟩
      have hne:((e' != f))=true:=by simpa using hef
      simp only [hne,Bool.true_and]
      cases hwf':wf with
      | true=>rfl
      | false =>
       rw [hwf'] at hd0
       have hx:∃ p∈s.held a.key,p.1≠f/\p.2=true:=by
        unfold lets at hd0
        obtain ⟨p,hp,q⟩:=List.all_eq_false.mp hd0
        refine ⟨p,hp,?_⟩
        cases hp2:p.2 with
        | false=>simp [hp2] at q
        | true=>simp [hp2] at q; exact ⟨q,rfl⟩
       obtain ⟨⟨x,wx⟩,hx1,_,hx2⟩:=hx
       have hx2':wx=true:=hx2
       subst hx2'
       have q:=c.hEx a.key x hx1 (e',we) hm1
       have q':e'=x:=q
       subst q'
       have n1:=zdb (c.hNd a.key) hm1
       have n2:=zdb (c.hNd a.key) hx1
       rw [n1] at n2; cases n2; rfl
theorem zdl {s:HS K} (c:Core s none) (hh:Head s) {d e:Nat}:zc5 s d e↔Reach s d e:=by
 rw [zbC]
 refine ⟨λ p=>p.mono λ a b h=>zkk h,λ p=>?_⟩
 induction p with
 | one h=>exact zgg c hh h
 | step h _ ih=>exact (zgg c hh h).trans ih
def Thru (s:HS K) (d:Nat):Prop:=∀ x,¬ Path (λ a b=>b∈zaC s a/\a≠d/\b≠d) x x
theorem Thru.mono {s t:HS K} {d:Nat} (h:Thru s d) (m:∀ e x,x∈zaC t e->x∈zaC s e):Thru t d:=λ x p=>h x (p.mono λ a b q=>⟨m _ _ q.1,q.2⟩)
theorem zrb {R:Nat->Nat->Prop} {d x y:Nat} (p:Path R x y):(x=d\/y=d)\/(Path R x d/\Path R d y)\/Path (λ a b=>R a b/\a≠d/\b≠d) x y:=by
 induction p with
 | @one x y h =>
  by_cases h1:x=d
  . exact .inl (.inl h1)
  . by_cases h2:y=d
    . exact .inl (.inr h2)
    . exact .inr (.inr (.one ⟨h,h1,h2⟩))
 | @step x e y h q ih =>
  by_cases h1:x=d
  . exact .inl (.inl h1)
  . rcases ih with (z | z) | ⟨z1,z2⟩ | z
    . subst z; exact .inr (.inl ⟨.one h,q⟩)
    . exact .inl (.inr z)
    . exact .inr (.inl ⟨.step h z1,z2⟩)
    . by_cases h2:e=d
      . subst h2; exact .inr (.inl ⟨.one h,q⟩)
      . exact .inr (.inr (.step ⟨h,h1,h2⟩ z))
theorem Thru.ring {s:HS K} {d:Nat} (h:Thru s d) {x:Nat} (r:Reach s x x):Reach s x d/\Reach s d x:=by
 rw [zbC] at r
 rcases zrb (d:=d) r with (z | z) | ⟨z1,z2⟩ | z
 . subst z; exact ⟨zbC.mpr r,zbC.mpr r⟩
 . subst z; exact ⟨zbC.mpr r,zbC.mpr r⟩
 . exact ⟨zbC.mpr z1,zbC.mpr z2⟩
 . exact absurd z (h x)
theorem Thru.wait {s:HS K} {d:Nat} {a:Act K} (ac:Acyc s):Thru (TH.wait s d a) d:=by
 intro x p
 refine ac x (zbC.mpr (p.mono λ e y h=>?_))
 obtain ⟨h,he,hy⟩:=h
 obtain ⟨b,hst,hb,_⟩:=zbc.mp h
 rw [zen hst hb] at h
 have de:(TH.wait s d a).deed e=s.deed e:=zao he
 rw [de] at hst hb
 rw [zen hst hb]
 rcases List.mem_append.mp h with h | h
 . refine List.mem_append_left _ ?_
   by_cases hk:b.key=a.key
   . have er:(TH.wait s d a).rows b.key=if has (s.held a.key) d then (d,a.wr)::s.rows a.key else s.rows a.key++[(d,a.wr)]:=by
       show up s.rows a.key _ b.key=_
       rw [hk,zag]
     rw [er] at h
     rw [hk]
     obtain ⟨q,hq,rfl⟩:=List.mem_map.mp h
     refine List.mem_map.mpr ⟨q,?_,rfl⟩
     unfold ahead at hq ⊢
     split at hq
     . rw [List.takeWhile_cons] at hq
       split at hq
       . rcases List.mem_cons.mp hq with z | z
         . subst z; exact absurd rfl hy
         . exact z
       . cases hq
     . by_cases hall:∀ q∈s.rows a.key,(q.1 != e)=true
       . rw [List.takeWhile_append_of_pos hall] at hq
         rw [zk2.mpr hall]
         rcases List.mem_append.mp hq with z | z
         . exact z
         . rw [List.takeWhile_cons] at z
           split at z
           . simp at z; subst z; exact absurd rfl hy
           . cases z
       . have:(s.rows a.key++[(d,a.wr)]).takeWhile (λ p=>p.1 != e)=(s.rows a.key).takeWhile λ p=>p.1 != e:=by
           rw [List.takeWhile_append]
           rw [if_neg]
           intro z
           apply hall
           have:(s.rows a.key).takeWhile (λ p=>p.1 != e)=s.rows a.key:=(List.takeWhile_sublist _).eq_of_length z
           exact zk2.mp this
         rw [this] at hq; exact hq
   . have er:(TH.wait s d a).rows b.key=s.rows b.key:=zao hk
     rw [er] at h; exact h
 . exact List.mem_append_right _ h
theorem zmZ (ord:List K->List K) {s:HS K} {g:Nat} (c:Core s none) (hg:(s.deed g).act):∀ e x,x∈zaC (TH.drop ord s g) e->x∈zaC s e:=λ e x h =>
 zeF (t:=.dropped) (d:=g) (s:=s) (bk:=λ k=>if (zaL (s.deed g).done k).isSome then zav s k else s.book k) (kp:=s.kept) (lg:=s.log++[.drop g]) (by decide) e x (zdW (c.drops hg) e x h)
theorem ziS {s:HS K} {d:Nat} (c:Core s none) (th:Thru s d) :
   ((¬ Reach s d d)->(rings s).getLast?=none)/\∀ g,Reach s d g->Reach s g d->(∀ x,Reach s d x->Reach s x d->x<=g)->(rings s).getLast?=some g:=by
 have mem:∀ x,x∈rings s↔Reach s x x:=λ x=>by
   refine ⟨λ h=>(zbL h).2,λ h=>?_⟩
   unfold rings
   refine List.mem_filter.mpr ⟨List.mem_range.mpr (c.lt (.inr (zaN h))),by simpa using h⟩
 refine ⟨λ h=>?_,λ g h1 h2 h3=>?_⟩
 . cases e:(rings s).getLast? with
   | none=>rfl
   | some x =>
    have:=th.ring ((mem x).mp (List.mem_of_getLast? e))
    exact absurd (this.2.trans this.1) h
 . have hg:g∈rings s:=(mem g).mpr (h2.trans h1)
   cases e:(rings s).getLast? with
   | none=>rw [List.getLast?_eq_none_iff] at e; rw [e] at hg; cases hg
   | some x =>
    have hx:=(mem x).mp (List.mem_of_getLast? e)
    have hx2:=th.ring hx
    have le:=h3 x hx2.2 hx2.1
    have sorted:(rings s).Pairwise (· < ·):=List.Pairwise.filter _ List.pairwise_lt_range
    obtain ⟨init,hi⟩:∃ init,rings s=init++[x]:=by
      have hne:rings s≠[]:=by intro z; rw [z] at hg; cases hg
      refine ⟨(rings s).dropLast,?_⟩
      have:=List.dropLast_concat_getLast hne
      rw [List.getLast?_eq_some_getLast hne] at e
      cases e
      exact this.symm
    rw [hi] at hg sorted
    rcases List.mem_append.mp hg with q | q
    . have:=(List.pairwise_append.mp sorted).2.2 g q x (by simp)
      omega
    . rw [List.mem_singleton.mp q]
theorem zk8 (ord:List K->List K) {s:HS K} {f:Nat} (h:(rings s).getLast?=none):TH.settle ord f s=s:=by
 cases f with
 | zero=>rfl
 | succ f=>unfold TH.settle; rw [h]
theorem zk7 (ord:List K->List K) {s:HS K} {f g:Nat} (h:(rings s).getLast?=some g):TH.settle ord (f+1) s=TH.settle ord f (TH.drop ord s g):=by
 conv=>lhs; unfold TH.settle
 rw [h]
def touched (s:HS K) (d:Nat):List K:=(s.deed d).done.map (·.key)++(match (s.deed d).st,(s.deed d).wish with | .waiting,some a=>[a.key] | _,_=>[])
theorem ze3 {M:List K}:∀ (ks:List K) (s:HS K),Core s none->(∀ k∈ks,k∉M->zmT s k)->zaK s ks=zaK s (ks.filter λ k=>decide (k∈M))
 | [],s,c,h=>rfl
 | k::r,s,c,h=>by
  by_cases hk:k∈M
  . rw [List.filter_cons_of_pos (by simpa using hk)]
    unfold zaK
    refine ze3 r _ c.zbu λ k' hk' hn=>?_
    have hne:k'≠k:=λ z=>hn (by rw [z]; exact hk)
    obtain ⟨e1,e2⟩:=zhz hne (s.rows k).length s c
    intro d w r' e
    rw [e1] at e; rw [e2]
    exact h k' (List.mem_cons_of_mem _ hk') hn d w r' e
  . rw [List.filter_cons_of_neg (by simpa using hk)]
    have:zbu (s.rows k).length s k=s:=by
     cases hr:s.rows k with
     | nil=>exact zft hr
     | cons p r' =>
      obtain ⟨d,w⟩:=p
      exact zes hr (h k List.mem_cons_self hk d w r' hr)
    show zaK (zbu (s.rows k).length s k) r=_
    rw [this]
    exact ze3 r s c λ k' hk'=>h k' (List.mem_cons_of_mem _ hk')
theorem zhh {s:HS K} {T:Nat} {d:Nat} {k:K} (c:Core s none) (E:Ext s T) (h:k∉touched s d):less (s.held k) d=s.held k/\less (s.rows k) d=s.rows k:=by
 have hh:∀ p∈s.held k,p.1≠d:=λ p hp z=>by
  obtain ⟨e,w⟩:=p
  have z':e=d:=z
  subst z'
  obtain ⟨a,ha,hk⟩:=E.own k e w hp
  exact h (List.mem_append_left _ (List.mem_map.mpr ⟨a,ha,hk⟩))
 have hr:∀ p∈s.rows k,p.1≠d:=λ p hp z=>by
  obtain ⟨e,w⟩:=p
  have z':e=d:=z
  subst z'
  obtain ⟨hst,a,ha,hk,_⟩:=c.rAct k _ hp
  refine h (List.mem_append_right _ ?_)
  have hst':(s.deed e).st=.waiting:=hst
  have ha':(s.deed e).wish=some a:=ha
  rw [hst',ha']
  simpa using hk.symm
 unfold less
 exact ⟨List.filter_eq_self.mpr λ p hp=>by simpa using hh p hp,List.filter_eq_self.mpr λ p hp=>by simpa using hr p hp⟩
theorem zdV {s:HS K} {T:Nat} {d:Nat} (c:Core s none) (E:Ext s T):∀ k∈touched s d,k∈s.seen:=λ k h=>by
 rcases List.mem_append.mp h with h | h
 . obtain ⟨a,ha,rfl⟩:=List.mem_map.mp h
   exact E.zgx d a ha
 . split at h
   . rename_i a hst ha
     rw [List.mem_singleton.mp h]
     obtain ⟨a',ha',hr⟩:=c.wRow d (by simp) hst
     rw [ha] at ha'; cases ha'
     exact zb2 c hr
   . cases h
variable (ord:List K->List K) (hord:∀ l k,k∈ord l↔k∈l) (hsub:∀ l m:List K,(∀ x∈m,x∈l)->ord m=(ord l).filter λ k=>decide (k∈m))
include hsub
theorem zkE {s t:HS K} {T:Nat} {d:Nat} (c:Core s none) (E:Ext s T) (hh:Head s) (c1:Core (letGo t d) none) (h1:t.held=s.held) (h2:t.rows=s.rows) (h3:t.seen=s.seen) :
  free ord t d=zaK (letGo t d) (ord (touched s d)):=by
 unfold free
 rw [h3,hsub s.seen (touched s d) (zdV c E)]
 refine ze3 _ _ c1 λ k hk hn=>?_
 obtain ⟨e1,e2⟩:=zhh c E hn
 intro e w r q
 have q':less (t.rows k) d=(e,w)::r:=q
 show lets (less (t.held k) d) e w=false
 rw [h2,e2] at q'
 rw [h1,e1]
 exact hh k e w r q'
omit hsub
def zd8 (s:HS K) (d:Nat) (k:K):HS K:={ s with held:=up s.held k (less (s.held k) d),rows:=up s.rows k (less (s.rows k) d) }
theorem zku (l:List (Nat×Bool)) (d:Nat):less (less l d) d=less l d:=by unfold less; rw [List.filter_filter]; simp
theorem zfq (d:Nat):∀ (ks:List K) (s:HS K),(ks.foldl (λ s k=>zd8 s d k) s).held=(λ k=>if k∈ks then less (s.held k) d else s.held k)/\(ks.foldl (λ s k=>zd8 s d k) s).rows=(λ k=>if k∈ks then less (s.rows k) d else s.rows k)
 | [],s=>by simp
 | k::r,s=>by
  obtain ⟨h1,h2⟩:=zfq d r (zd8 s d k)
  rw [List.foldl_cons,h1,h2]
  refine ⟨funext λ k'=>?_,funext λ k'=>?_⟩
  . show (if k'∈r then less (up s.held k _ k') d else up s.held k _ k')=_
    by_cases hk:k'=k
    . subst hk; rw [zag,zku]; simp
    . rw [zao hk]; simp [hk]
  . show (if k'∈r then less (up s.rows k _ k') d else up s.rows k _ k')=_
    by_cases hk:k'=k
    . subst hk; rw [zag,zku]; simp
    . rw [zao hk]; simp [hk]
theorem ze2 (d:Nat):∀ (ks:List K) (s:HS K),(ks.foldl (λ s k=>zd8 s d k) s)={ s with held:=(ks.foldl (λ s k=>zd8 s d k) s).held,rows:=(ks.foldl (λ s k=>zd8 s d k) s).rows }
 | [],s=>rfl
 | k::r,s=>by rw [List.foldl_cons]; exact ze2 d r (zd8 s d k)
theorem zkw {s:HS K} {d:Nat} {ks:List K} (h:∀ k,k∉ks->less (s.held k) d=s.held k/\less (s.rows k) d=s.rows k):ks.foldl (λ s k=>zd8 s d k) s=letGo s d:=by
 rw [ze2,(zfq d ks s).1,(zfq d ks s).2]
 unfold letGo
 congr 1
 . funext k; split
   . rfl
   . rename_i hk; exact (h k hk).1.symm
 . funext k; split
   . rfl
   . rename_i hk; exact (h k hk).2.symm
def take1 (h:List (Nat×Bool)) (d:Nat) (w:Bool):List (Nat×Bool):=if look h d=some true then h else zbf h d w
def zjI (s:HS K) (d:Nat) (k:K) (w:Bool):HS K:={ s with held:=up s.held k (take1 (s.held k) d w) }
theorem zqJ {α β:Type} [DecidableEq α] (f:α->β) (a:α):up f a (f a)=f:=by
 funext x; by_cases h:x=a
 . subst h; exact zag
 . exact zao h
theorem zjc {h:List (Nat×Bool)} {d:Nat} {w:Bool} (e:look h d=some w):has h d=true:=zhO.mpr ⟨w,zc2 e⟩
theorem zjQ {h:List (Nat×Bool)} {d:Nat} {w:Bool} (nd:(h.map (·.1)).Nodup) (e:look h d=some w):zbf h d w=h:=by
 unfold zbf
 have hh:h.any (λ p=>p.1 == d)=true:=zjc e
 rw [if_pos hh]
 have:∀ p∈h,(if p.1 == d then (d,w) else p)=p:=λ p hp=>by
  obtain ⟨x,wx⟩:=p
  by_cases hx:x=d
  . subst hx
    have:=zdb nd hp
    rw [e] at this; cases this; simp
  . simp [hx]
 rw [List.map_congr_left this]; simp
theorem zgM {s:HS K} {d:Nat} {a:Act K} (c:Core s none):wish ord s d a =
   if (has ((see s a.key).held a.key) d || ((see s a.key).rows a.key).isEmpty) && lets ((see s a.key).held a.key) d a.wr then doIt (zjI (see s a.key) d a.key a.wr) d a else settle ord s.n (wait (see s a.key) d a):=by
 have c1:Core (see s a.key) none:=c.see
 have nd:=c1.hNd a.key
 unfold wish
 dsimp only
 by_cases h1:look ((see s a.key).held a.key) d=some a.wr\/look ((see s a.key).held a.key) d=some true
 . rw [if_pos h1]
   have hl:lets ((see s a.key).held a.key) d a.wr=true:=by
     unfold lets
     rw [List.all_eq_true]
     intro p hp
     obtain ⟨x,wx⟩:=p
     by_cases hx:x=d
     . simp [hx]
     . have two:∀ y,(y,true)∈(see s a.key).held a.key->(∃ w,(d,w)∈(see s a.key).held a.key)->y=d:=λ y hy ⟨w,hw⟩=>(c1.hEx a.key y hy _ hw).symm
       rcases h1 with h1 | h1
       . have m:=zc2 h1
         cases hw:a.wr with
         | true=>rw [hw] at m; exact absurd (c1.hEx a.key d m _ hp) hx
         | false =>
          cases hwx:wx with
          | true=>subst hwx; exact absurd (two x hp ⟨_,m⟩) hx
          | false=>simp
       . have m:=zc2 h1
         exact absurd (c1.hEx a.key d m _ hp) hx
   have hhas:has ((see s a.key).held a.key) d=true:=by rcases h1 with h1 | h1 <;> exact zjc h1
   rw [hl,hhas]
   simp only [Bool.true_or,Bool.and_self,if_true]
   have:zjI (see s a.key) d a.key a.wr=see s a.key:=by
     unfold zjI
     have:take1 ((see s a.key).held a.key) d a.wr=(see s a.key).held a.key:=by
       unfold take1
       by_cases h2:look ((see s a.key).held a.key) d=some true
       . rw [if_pos h2]
       . rw [if_neg h2]
         exact zjQ nd (h1.resolve_right h2)
     rw [this,zqJ]
   rw [this]
 . rw [if_neg h1]
   have h2:look ((see s a.key).held a.key) d≠some true:=λ z=>h1 (.inr z)
   have et:zjI (see s a.key) d a.key a.wr=take (see s a.key) d a.key a.wr:=by
     unfold zjI take take1; rw [if_neg h2]
   rw [et]
   by_cases h3:lets ((see s a.key).held a.key) d a.wr=true/\(has ((see s a.key).held a.key) d=true\/(see s a.key).rows a.key=[])
   . rw [if_pos h3,if_pos]
     obtain ⟨h4,h5⟩:=h3
     rw [h4]
     rcases h5 with h5 | h5
     . rw [h5]; rfl
     . rw [h5]; simp
   . rw [if_neg h3,if_neg]
     . rfl
     . intro z
       apply h3
       rw [Bool.and_eq_true,Bool.or_eq_true] at z
       exact ⟨z.2,z.1.imp id λ q=>List.isEmpty_iff.mp q⟩
theorem znr {s:HS K} {k:K} {d:Nat} {w:Bool} {r:List (Nat×Bool)} (c:Core s none) (hr:s.rows k=(d,w)::r):take { s with rows:=up s.rows k r } d k w=zjI { s with rows:=up s.rows k r } d k w:=by
 unfold take zjI take1
 rw [if_neg]
 intro z
 have:=c.zfP k d w true (by rw [hr]; exact List.mem_cons_self) (zc2 z)
 cases this.1
end
end TH
end
section
namespace S6
open PySem
def Rise (xs:Array Nat):Prop:=xs.toList.Pairwise (· < ·)
theorem Rise.lt {xs:Array Nat} (h:Rise xs) {i j:Nat} (hij:i < j) (hj:j < xs.size):xs[i] < xs[j]:=by
 have:=List.pairwise_iff_getElem.mp h i j (by simpa using Nat.lt_trans hij hj) (by simpa using hj) hij
 simpa using this
theorem Rise.small {xs:Array Nat} (h:xs.size<=1):Rise xs:=by
 refine List.pairwise_iff_getElem.mpr λ i j hi hj hij=>?_
 have:xs.toList.length<=1:=by simpa using h
 omega
theorem zlG {xs:Array Nat} (h:Rise xs) (j:Nat):∀ (fuel lo hi:Nat),hi - lo<=fuel->lo<=hi->hi<=xs.size->(∀ i (hx:i < xs.size),i < lo->xs[i] < j)->(∀ i (hx:i < xs.size),hi<=i->j<=xs[i]) ->
  SetTable.below.go xs j fuel lo hi<=xs.size/\(∀ i (hx:i < xs.size),i < SetTable.below.go xs j fuel lo hi->xs[i] < j)/\∀ i (hx:i < xs.size),SetTable.below.go xs j fuel lo hi<=i->j<=xs[i]
 | 0,lo,hi,hf,hl,hh,h1,h2=>by
  have:lo=hi:=by omega
  subst this
  unfold SetTable.below.go
  exact ⟨hh,h1,h2⟩
 | fuel+1,lo,hi,hf,hl,hh,h1,h2=>by
  unfold SetTable.below.go
  by_cases z:lo < hi
  . rw [if_pos z]
    dsimp only
    have hm:(lo+hi) / 2 < hi:=by omega
    have hm':lo<=(lo+hi) / 2:=by omega
    have hms:(lo+hi) / 2 < xs.size:=by omega
    have e:xs.getD ((lo+hi) / 2) j=xs[(lo+hi) / 2]:=by simp [Array.getD,hms]
    rw [e]
    by_cases y:xs[(lo+hi) / 2] < j
    . rw [if_pos y]
      refine zlG h j fuel ((lo+hi) / 2+1) hi (by omega) (by omega) hh (λ i hi' hlt=>?_) h2
      rcases Nat.lt_or_ge i ((lo+hi) / 2) with q | q
      . exact Nat.lt_trans (h.lt q hms) y
      . have:i=(lo+hi) / 2:=by omega
        subst this; exact y
    . rw [if_neg y]
      refine zlG h j fuel lo ((lo+hi) / 2) (by omega) hm' (by omega) h1 λ i hx hge=>?_
      rcases Nat.lt_or_ge ((lo+hi) / 2) i with q | q
      . exact Nat.le_trans (Nat.le_of_not_lt y) (Nat.le_of_lt (h.lt q hx))
      . have:i=(lo+hi) / 2:=by omega
        subst this; exact Nat.le_of_not_lt y
  . rw [if_neg z]
    have:lo=hi:=by omega
    subst this
    exact ⟨hh,h1,h2⟩
theorem ziH {xs:Array Nat} (h:Rise xs) (j:Nat):SetTable.below xs j<=xs.size/\(∀ i (hi:i < xs.size),i < SetTable.below xs j->xs[i] < j)/\∀ i (hx:i < xs.size),SetTable.below xs j<=i->j<=xs[i] :=
 zlG h j xs.size 0 xs.size (by omega) (Nat.zero_le _) (Nat.le_refl _) (λ i _ z=>absurd z (Nat.not_lt_zero _)) λ i hx z=>by omega
def slotAt (xs:Array Nat) (i:Nat):Nat:=if i=0 then 0 else xs.getD (i - 1) 0+1
theorem below_at {xs:Array Nat} (h:Rise xs) {i:Nat} (hi:i<=xs.size):SetTable.below xs (slotAt xs i)=i:=by
 obtain ⟨h0,h1,h2⟩:=ziH h (slotAt xs i)
 generalize hr:SetTable.below xs (slotAt xs i)=r at *
 by_cases z:i=0
 . subst z
   rcases Nat.eq_zero_or_pos r with q | q
   . exact q
   . have:=h1 0 (by omega) q
     unfold slotAt at this
     simp at this
 . have e:slotAt xs i=xs[i - 1]'(by omega)+1:=by unfold slotAt; rw [if_neg z]; simp [Array.getD,show i - 1 < xs.size by omega]
   rw [e] at h1 h2
   rcases Nat.lt_trichotomy r i with q | q | q
   . have:=h2 (i - 1) (by omega) (by omega)
     omega
   . exact q
   . have:=h1 i (by omega) q
     have:=h.lt (i:=i - 1) (j:=i) (by omega) (by omega)
     omega
theorem zlf {xs:Array Nat} (h:Rise xs) {j:Nat} (hn:xs[SetTable.below xs j]?≠some j):Rise (SetTable.insertAt xs (SetTable.below xs j) j):=by
 obtain ⟨h0,h1,h2⟩:=ziH h j
 unfold Rise SetTable.insertAt
 generalize SetTable.below xs j=r at *
 have e:((xs.extract 0 r).push j++xs.extract r xs.size).toList=xs.toList.take r++j::xs.toList.drop r:=by
   simp [List.extract_eq_take_drop]
   exact List.take_of_length_le (by simp)
 rw [e]
 have gt:∀ i (hx:i < xs.size),r<=i->j < xs[i]:=λ i hx hr=>by
   have hr':r < xs.size:=by omega
   have h3:=h2 r hr' (Nat.le_refl _)
   have h4:xs[r]≠j:=λ z=>hn (by rw [Array.getElem?_eq_getElem hr',z])
   rcases Nat.lt_or_ge r i with q | q
   . have:=h.lt q hx; omega
   . have:i=r:=by omega
     subst this; omega
 refine List.pairwise_append.mpr ⟨List.Pairwise.sublist (List.take_sublist _ _) h,List.pairwise_cons.mpr ⟨λ b hb=>?_,List.Pairwise.sublist (List.drop_sublist _ _) h⟩,λ a ha b hb=>?_⟩
 . obtain ⟨i,hi⟩:=List.getElem?_of_mem hb
   rw [List.getElem?_drop] at hi
   obtain ⟨hl,e1⟩:=List.getElem?_eq_some_iff.mp hi
   have:=gt (r+i) (by simpa using hl) (by omega)
   simp at e1
   omega
 . obtain ⟨i,hi⟩:=List.getElem?_of_mem ha
   have hir:i < r:=by
     have:=(List.getElem?_eq_some_iff.mp hi).1
     rw [List.length_take] at this
     omega
   rw [List.getElem?_take_of_lt hir] at hi
   obtain ⟨hl,e1⟩:=List.getElem?_eq_some_iff.mp hi
   have ha':a < j:=by
     have:=h1 i (by simpa using hl) hir
     simp at e1
     omega
   rcases List.mem_cons.mp hb with q | q
   . omega
   . obtain ⟨i2,hi2⟩:=List.getElem?_of_mem q
     rw [List.getElem?_drop] at hi2
     obtain ⟨hl2,e2⟩:=List.getElem?_eq_some_iff.mp hi2
     have:=gt (r+i2) (by simpa using hl2) (by omega)
     simp at e2
     omega
def zgb (t:SetTable) (j:Nat):Prop:=t.place[SetTable.below t.place j]?≠some j
theorem zm8 {t:SetTable} {j:Nat} (h:t.slot j=.empty):zgb t j:=λ z=>by
 unfold SetTable.slot at h
 simp only [z,beq_self_eq_true,if_true] at h
 cases h
theorem zm9 {t:SetTable} {j:Nat} (h:t.slot j=.dummy):zgb t j:=λ z=>by
 unfold SetTable.slot at h
 simp only [z,beq_self_eq_true,if_true] at h
 cases h
theorem ziU {t:SetTable} {f:Nat->Int} {h:Int}:∀ (fuel:Nat) (p:SetTable.Probe) {j:Nat} {d:Option Nat},(∀ q,p.dummy=some q->zgb t q)->SetTable.probe.go t f h fuel p=some (.empty j d)->zgb t j/\∀ q,d=some q->zgb t q
 | 0,p,j,d,_,e=>by unfold SetTable.probe.go at e; cases e
 | fuel+1,p,j,d,hp,e=>by
  have adv:∀ p:SetTable.Probe,(t.advance p).dummy=p.dummy:=λ p=>by
    unfold SetTable.advance
    split <;> rfl
  unfold SetTable.probe.go at e
  split at e
  . rename_i hs
    cases e
    exact ⟨zm8 hs,hp⟩
  . rename_i hs
    refine ziU fuel _ (λ q hq=>?_) e
    rw [adv] at hq
    cases hq
    exact zm9 hs
  . split at e
    . cases e
    . exact ziU fuel _ (λ q hq=>by rw [adv] at hq; exact hp q hq) e
theorem zrp {t:SetTable} {h:Int} {j:Nat} {b:Bool} (e:t.freeSlot h=some (j,b)):zgb t j:=by
 unfold SetTable.freeSlot at e
 split at e
 . rename_i j' d hq
   obtain ⟨h1,h2⟩:=ziU _ _ (λ q hq=>by cases hq) hq
   cases e
   cases d with
   | none=>exact h1
   | some q=>exact h2 q rfl
 . cases e
def Ri (t:SetTable):Prop:=t.plain=true->Rise t.place
theorem zs0 {t:SetTable} (n:Nat) (h:Ri t):Ri (t.orStandIn n):=by
 unfold SetTable.orStandIn
 split
 . exact h
 . intro z; cases z
theorem zsl {t:SetTable} (es:Array (Int×Value)) (h:Int) (x:Value) (r:Ri t):Ri (layNew t es h x).2.1:=by
 unfold layNew
 split
 . rename_i slot wd e
   dsimp only
   refine zs0 _ λ z=>?_
   exact zlf (r z) (zrp e)
 . intro z; cases z
theorem zoc {t t':SetTable} {hs:Array Int} {n:Nat} {order:Array Nat} (e:t.relaid hs n=some (t',order)):Rise t'.place:=by
 unfold SetTable.relaid SetTable.laid at e
 cases hl:SetTable.layClean (SetTable.sizeAbove n - 1) hs with
 | none=>rw [hl] at e; cases e
 | some ow =>
  rw [hl] at e
  cases e
  show List.Pairwise _ _
  rw [List.toList_toArray,List.pairwise_map]
  refine List.Pairwise.filterMap (R:=(· < ·)) _ (λ a b hab x hx y hy=>?_) List.pairwise_lt_range
  obtain ⟨_,_,rfl⟩:=Option.map_eq_some_iff.mp hx
  obtain ⟨_,_,rfl⟩:=Option.map_eq_some_iff.mp hy
  exact hab
theorem zpD {t:SetTable} (es:Array (Int×Value)) (n:Nat):Ri (relayAll t es n).2.1:=by
 unfold relayAll
 split
 . rename_i t' order e
   dsimp only
   split
   . exact λ _=>zoc e
   . intro z; cases z
 . intro z; cases z
end S6
end
section
namespace S6
open PySem
section
variable {prog:Program} {w:World} {A:Around} {E:Value->Shared->Prop}
theorem zf6 {α:Type}:∀ {l:List α} {k:Nat} (h:k < l.length),(l[k]::l.eraseIdx k).Perm l
 | a::r,0,h=>by simp
 | a::r,k+1,h=>by
  have:=zf6 (l:=r) (k:=k) (by simpa using h)
  simp only [List.getElem_cons_succ,List.eraseIdx_cons_succ]
  exact (List.Perm.swap _ _ _).trans (this.cons a)
theorem zqF {src:Source} {n:Nat} {Q:Nat->Shared->Prop} {s:Shared} (hn:n≠0) (h:∀ k d,k < n->Q k { s with drawn:=d }):wpAny (model prog w) A (choose src n) Q E s:=λ Γ p _ =>
 ⟨hn,h _ _ (Nat.mod_lt _ (Nat.pos_of_ne_zero hn))⟩
theorem zmi {α:Type}:∀ (n:Nat) (xs:List α) (s:Shared) (Q:List α->Shared->Prop),xs.length=n->(∀ ys d,ys.Perm xs->Q ys { s with drawn:=d })->wpAny (model prog w) A (drawOrder n xs) Q E s
 | 0,xs,s,Q,hl,h=>by
  have:xs=[]:=List.length_eq_zero_iff.mp hl
  subst this
  exact wpAny_pure (h [] s.drawn .nil)
 | n+1,[],s,Q,hl,h=>by cases hl
 | n+1,x::r,s,Q,hl,h=>by
  unfold drawOrder
  refine wpAny_bind (zqF (by simp) λ k d hk=>?_)
  obtain ⟨y,hy⟩:∃ y,(x::r)[k]?=some y:=⟨_,List.getElem?_eq_getElem hk⟩
  rw [hy]
  dsimp only
  refine wpAny_bind (zmi n ((x::r).eraseIdx k) _ _ ?_ λ ys d' hp=>wpAny_pure ?_)
  . rw [List.length_eraseIdx,if_pos hk]; omega
  . refine h (y::ys) d' ?_
    obtain ⟨hk',rfl⟩:=List.getElem?_eq_some_iff.mp hy
    exact (hp.cons _).trans (zf6 hk')
theorem zim {α:Type} (next:Nat->Nat):∀ (n k:Nat) (l:List α) (out:Array α),l.length=n->(pickOrder.go next n k l out).toList.Perm (out.toList++l)
 | 0,k,l,out,hl=>by
  have:l=[]:=List.length_eq_zero_iff.mp hl
  subst this
  unfold pickOrder.go; simp
 | n+1,k,l,out,hl=>by
  unfold pickOrder.go
  have hk:next k % l.length < l.length:=Nat.mod_lt _ (by omega)
  rw [List.getElem?_eq_getElem hk]
  dsimp only
  refine (zim next n (k+1) _ _ (by rw [List.length_eraseIdx,if_pos hk]; omega)).trans ?_
  rw [Array.toList_push,List.append_assoc]
  exact List.Perm.append_left _ (zf6 hk)
theorem zpI {α:Type} (next:Nat->Nat) (xs:Array α):(pickOrder next xs).toList.Perm xs.toList:=by
 unfold pickOrder
 have:=zim next xs.size 0 xs.toList #[] (by simp)
 simpa using this
theorem zg8 {α β:Type} {F:α->β->Prop} {l l':List α} (p:l'.Perm l):∀ {m:List β},Paired F l m->∃ m',m'.Perm m/\Paired F l' m':=by
 induction p with
 | nil=>intro m h; exact ⟨m,.refl _,h⟩
 | cons x _ ih =>
  intro m h
  cases h with
  | cons r t =>
   obtain ⟨m',p',h'⟩:=ih t
   exact ⟨_::m',p'.cons _,.cons r h'⟩
 | swap x y l =>
  intro m h
  cases h with
  | cons r t=>cases t with
   | cons r' t'=>exact ⟨_,.swap _ _ _,.cons r' (.cons r t')⟩
 | trans _ _ ih1 ih2 =>
  intro m h
  obtain ⟨m1,p1,h1⟩:=ih2 h
  obtain ⟨m2,p2,h2⟩:=ih1 h1
  exact ⟨m2,p2.trans p1,h2⟩
theorem zcn {α β:Type} {F:α->β->Prop}:∀ {l:List α} {m:List β} {a:α} {b:β},Paired F l m->F a b->Paired F (l++[a]) (m++[b])
 | _,_,_,_,.nil,h=>.cons h .nil
 | _,_,_,_,.cons r t,h=>.cons r (zcn t h)
theorem zi1 {α β:Type} {F:α->β->Prop}:∀ {l:List α} {m:List β} {i:Nat} {a:α},Paired F l m->l[i]?=some a->∃ b,m[i]?=some b/\F a b
 | _,_,_,_,.nil,h=>by simp at h
 | _,_,0,_,.cons r _,h=>by simp at h; subst h; exact ⟨_,rfl,r⟩
 | _,_,i+1,_,.cons _ t,h=>by
  obtain ⟨b,h1,h2⟩:=zi1 (i:=i) t (by simpa using h)
  exact ⟨b,by simpa using h1,h2⟩
theorem zmv {α β:Type} {F:α->β->Prop} {l:List α} {m:List β} (h:Paired F l m) {a:α} (ha:a∈l):∃ b∈m,F a b:=by
 obtain ⟨i,hi⟩:=List.mem_iff_getElem?.mp ha
 obtain ⟨b,h1,h2⟩:=zi1 h hi
 exact ⟨b,List.mem_of_getElem? h1,h2⟩
theorem zj5 {α β:Type} {F:α->β->Prop}:∀ {l:List α} {m:List β},Paired F l m->∀ {b:β},b∈m->∃ a∈l,F a b
 | _,_,.nil,_,hb=>by cases hb
 | _,_,.cons r t,b,hb=>by
  rcases List.mem_cons.mp hb with z | z
  . subst z; exact ⟨_,List.mem_cons_self,r⟩
  . obtain ⟨a,h1,h2⟩:=zj5 t z
    exact ⟨a,List.mem_cons_of_mem _ h1,h2⟩
theorem zsf (t:SetTable) (n:Nat):(t.orStandIn n).led=t.led:=by unfold SetTable.orStandIn; split <;> rfl
theorem zrk (t:SetTable) (es:Array (Int×Value)) (h:Int) (x:Value):(layNew t es h x).2.1.led=t.led:=by
 unfold layNew; split
 . dsimp only; rw [zsf]; rfl
 . rfl
theorem zne {t t':SetTable} {hs:Array Int} {n:Nat} {order:Array Nat} (e:t.relaid hs n=some (t',order)):t'.led=t.led/\t'.plain=t.plain:=by
 unfold SetTable.relaid SetTable.laid at e
 cases hl:SetTable.layClean (SetTable.sizeAbove n - 1) hs with
 | none=>rw [hl] at e; cases e
 | some ow=>rw [hl] at e; cases e; exact ⟨rfl,rfl⟩
theorem zob (t:SetTable) (es:Array (Int×Value)) (n:Nat):(relayAll t es n).2.1.led=t.led/\(t.plain=false->(relayAll t es n).2.1.plain=false):=by
 unfold relayAll
 split
 . rename_i t' order e
   obtain ⟨h1,h2⟩:=zne e
   dsimp only
   split
   . exact ⟨h1,λ h=>h2.trans h⟩
   . exact ⟨rfl,λ _=>rfl⟩
 . exact ⟨rfl,λ _=>rfl⟩
variable {K:Type} [DecidableEq K]
abbrev El (knd:KeyKind prog w K) (e:Int×Value) (k:K):Prop:=(knd.is k e.2=true/\e.1=knd.hash k)/\e.2.scannable=true
structure SetT (w:World) (t:SetTable) (n:Nat):Prop where
 fits:t.fits n=true
 led:w.params.followText "set-order" = false->t.led=true
 rise:Ri t
def SetG (knd:KeyKind prog w K) (h:Heap) (a:Addr) (ks:List K):Prop :=
 ∃ o es ep t,h.get? a=some o/\o.ExactSet/\o.data=.set es ep t/\Paired (El knd) es.toList ks/\ks.Nodup/\ks.length < scanBound/\SetT w t es.size
def SetP (knd:KeyKind prog w K) (h:Heap) (a:Addr) (ks:List K):Prop:=∃ ks',ks'.Perm ks/\SetG knd h a ks'
variable {knd:KeyKind prog w K} {s:Shared}
theorem SetG.at {h h':Heap} {a:Addr} {ks:List K} (x:SetG knd h a ks) (e:∀ o,h.get? a=some o->h'.get? a=some o):SetG knd h' a ks :=
 let ⟨o,es,ep,t,ho,r⟩:=x; ⟨o,es,ep,t,e _ ho,r⟩
theorem SetP.at {h h':Heap} {a:Addr} {ks:List K} (x:SetP knd h a ks) (e:∀ o,h.get? a=some o->h'.get? a=some o):SetP knd h' a ks :=
 let ⟨ks',p,g⟩:=x; ⟨ks',p,g.at e⟩
theorem zp8 {l:List (Int×Value)} {ks:List K} (h:Paired (El knd) l ks):ElemsOf knd l:=λ e he=>by
 obtain ⟨k,_,⟨h1,h2⟩,h3⟩:=zmv h he
 exact ⟨⟨k,h1,h2⟩,h3⟩
theorem zij {h:Heap} {a:Addr} {o:Obj} {es:Array (Int×Value)} {ep:Nat} {t:SetTable} (ho:h.get? a=some o) (hx:o.ExactSet) (hd:o.data=.set es ep t)
  {es':Array (Int×Value)} {t':SetTable} {ks:List K} (he:Paired (El knd) es'.toList ks) (hn:ks.Nodup) (hb:ks.length < scanBound) (ht:SetT w t' es'.size) :
  ∃ o',(h.update a (Obj.putSet es' t')).get? a=some o'/\o'.ExactSet/\o'.data=.set es' (ep+1) t'/\SetG knd (h.update a (Obj.putSet es' t')) a ks:=by
 have g:=Heap.get?_update_self (Obj.putSet es' t') ho (by rw [putSet_of es' t' hd]; rfl)
 rw [putSet_of es' t' hd] at g
 exact ⟨_,g,hx,rfl,_,es',ep+1,t',g,hx,rfl,he,hn,hb,ht⟩
theorem zn5 {a:Addr} {ks:List K} {k:K} {x:Value} {Q:Bool->Shared->Prop} (hkey:knd.is k x=true) (hsc:x.scannable=true) (hS:SetP knd s.heap a ks) (hroom:ks.length+1 < scanBound)
  (h:∀ b h',Heap.SameBut a s.heap h'->SetP knd h' a (if k∈ks then ks else ks++[k])->Q b { s with heap:=h' }) :
  wpAny (model prog w) A (setAddHashed a x (knd.hash k)) Q E s:=by
 obtain ⟨ks',pk,o,es,ep,t,ho,hx,hd,hel,hnd,hb,hT⟩:=hS
 have hl:es.size=ks'.length:=by rw [<-Array.length_toList]; exact hel.length
 have hpl:ks'.length=ks.length:=pk.length_eq
 have E0:=zp8 hel
 have hes:es.size < scanBound:=by omega
 unfold setAddHashed setAddHashedIn
 refine wpAny_holding (wpAny_bind (wpAny_setState_of ho hd hT.fits ?_))
 dsimp only
 rw [byScan_of hsc hes E0]
 simp only [↓reduceIte]
 unfold setAddByScan
 refine wpAny_bind (wpAny_bind (wpAny_rule (wpAny_bind (wpAny_setScan_of hkey ho hd hT.fits E0 ?_))))
 have memk:∀ q,(q∈ks↔∃ e∈es.toList,knd.is q e.2=true):=λ q=>by
  rw [<-pk.mem_iff]
  refine ⟨λ hq=>?_,λ ⟨e,he,hq⟩=>?_⟩
  . obtain ⟨e,he,z⟩:=zj5 hel hq
    exact ⟨e,he,z.1.1⟩
  . obtain ⟨q',hq',z⟩:=zmv hel he
    rw [knd.inj _ q q' hq z.1.1]; exact hq'
 cases hr:List.findIdx? (λ e=>knd.is k e.2) es.toList with
 | some j =>
  dsimp only
  obtain ⟨hj,hpj,_⟩:=List.findIdx?_eq_some_iff_getElem.mp hr
  have hk:k∈ks:=(memk k).mpr ⟨es.toList[j],List.getElem_mem hj,hpj⟩
  have q:=h false s.heap (Heap.SameBut.refl a s.heap)
  rw [if_pos hk] at q
  exact wpAny_pure (wpAny_pure (q ⟨ks',pk,o,es,ep,t,ho,hx,hd,hel,hnd,hb,hT⟩))
 | none =>
  dsimp only
  have hk:k∉ks:=λ z=>by
    obtain ⟨e,he,hq⟩:=(memk k).mp z
    have:=List.findIdx?_eq_none_iff.mp hr e he
    rw [hq] at this; cases this
  have gave:∀ (b:Bool) {s₁:Shared} {Q':Unit->Shared->Prop},Q' () s₁->wpAny (model prog w) A (match b with | true=>rule "set.scan.the-table-gave-way" | false=>pure ()) Q' E s₁ :=
    λ b s₁ Q' hq=>by cases b <;> first | exact wpAny_pure hq | exact wpAny_rule hq
  have lp:=layNew_perm t es (knd.hash k) x
  have lf:=layNew_fits t es (knd.hash k) x
  have ll:=zrk t es (knd.hash k) x
  have lpl:=zsl es (knd.hash k) x hT.rise
  generalize layNew t es (knd.hash k) x=L at lp lf ll lpl ⊢
  obtain ⟨es1,t1,wasDummy,gv⟩:=L
  dsimp only at lp lf ll lpl ⊢
  rw [Array.toList_push] at lp
  obtain ⟨k1,pk1,hel1⟩:=zg8 lp (zcn hel (show El knd (knd.hash k,x) k from ⟨⟨hkey,rfl⟩,hsc⟩))
  have hk':k∉ks':=λ z=>hk (pk.mem_iff.mp z)
  have nd1:k1.Nodup:=pk1.nodup_iff.mpr (List.nodup_append.mpr ⟨hnd,by simp,λ u hu v hv=>by rw [List.mem_singleton.mp hv]; intro z; rw [z] at hu; exact hk' hu⟩)
  have ln1:k1.length=ks'.length+1:=by rw [pk1.length_eq]; simp
  have pk2:k1.Perm (ks++[k]):=pk1.trans (pk.append_right _)
  have hz1:es1.size=k1.length:=by rw [<-Array.length_toList]; exact hel1.length
  refine wpAny_bind (gave _ ?_)
  have tail:∀ t2:SetTable,t2.fits es1.size=true->t2.led=t1.led->Ri t2 ->
      wpAny (model prog w) A (do
       storeSet a es1 t2
       if (!wasDummy && t2.tooFull)=true then do
         (match (relayAll t2 es1 (SetTable.grown es1.size)).2.2 with | true=>rule "set.scan.the-table-gave-way" | false=>pure ())
         storeSet a (relayAll t2 es1 (SetTable.grown es1.size)).1 (relayAll t2 es1 (SetTable.grown es1.size)).2.1
         pure (some true)
        else pure (some true)) (λ r s'=>∃ b h',r=some b/\s'={ s with heap:=h' }/\Heap.SameBut a s.heap h'/\SetP knd h' a (ks++[k])) E s:=λ t2 f2 l2 p2=>by
    have hT2:SetT w t2 es1.size:=⟨f2,λ q=>by rw [l2,ll]; exact hT.led q,p2⟩
    refine wpAny_bind (wpAny_storeSet_of ho hd ?_ (by rw [hz1]; exact fits_of_scanBound (by omega)))
    obtain ⟨o1,ho1,hx1,hd1,G1⟩:=zij (knd:=knd) ho hx hd hel1 nd1 (by omega) hT2
    have sb1:=Heap.SameBut.update s.heap a (Obj.putSet es1 t2)
    split
    . have rp:=relayAll_perm t2 es1 (SetTable.grown es1.size)
      have rf:=relayAll_fits t2 es1 (SetTable.grown es1.size)
      obtain ⟨rl,_⟩:=zob t2 es1 (SetTable.grown es1.size)
      have rpl:=zpD (t:=t2) es1 (SetTable.grown es1.size)
      generalize relayAll t2 es1 (SetTable.grown es1.size)=R at rp rf rl rpl ⊢
      obtain ⟨es2,t3,g2⟩:=R
      dsimp only at rp rf rl rpl ⊢
      obtain ⟨k3,pk3,hel3⟩:=zg8 rp hel1
      have hz3:es2.size=k3.length:=by rw [<-Array.length_toList]; exact hel3.length
      refine wpAny_bind (gave _ ?_)
      refine wpAny_bind (wpAny_storeSet_of ho1 hd1 ?_ (by rw [hz3,pk3.length_eq]; exact fits_of_scanBound (by omega)))
      obtain ⟨o3,ho3,hx3,hd3,G3⟩:=zij (knd:=knd) ho1 hx1 hd1 hel3 (pk3.nodup_iff.mpr nd1) (by rw [pk3.length_eq]; omega) ⟨rf,λ q=>by rw [rl]; exact hT2.led q,rpl⟩
      exact wpAny_pure ⟨true,_,rfl,rfl,sb1.trans (Heap.SameBut.update _ a _),k3,pk3.trans pk2,G3⟩
    . exact wpAny_pure ⟨true,_,rfl,rfl,sb1,k1,pk2,G1⟩
  cases hp:t1.plain with
  | true =>
    simp only [↓reduceIte]
    rw [hashByValue_scannable 8 hsc]
    refine wpAny_bind (wpAny_pure ?_)
    cases hv:plainKind x with
    | true =>
      simp only [↓reduceIte]
      refine wpAny_mono (tail t1 lf rfl lpl) (λ r s' hq=>?_) λ _ _ z=>z
      obtain ⟨b,h',rfl,rfl,sb,G⟩:=hq
      have q:=h b h' sb
      rw [if_neg hk] at q
      exact wpAny_pure (q G)
    | false =>
      simp only [Bool.false_eq_true,↓reduceIte]
      refine wpAny_mono (tail { t1 with plain:=false } (SetTable.fits_plain_off lf) rfl (λ z=>by cases z)) (λ r s' hq=>?_) λ _ _ z=>z
      obtain ⟨b,h',rfl,rfl,sb,G⟩:=hq
      have q:=h b h' sb
      rw [if_neg hk] at q
      exact wpAny_pure (q G)
  | false =>
    simp only [Bool.false_eq_true,↓reduceIte]
    refine wpAny_bind (wpAny_pure ?_)
    simp only [↓reduceIte]
    refine wpAny_mono (tail t1 lf rfl lpl) (λ r s' hq=>?_) λ _ _ z=>z
    obtain ⟨b,h',rfl,rfl,sb,G⟩:=hq
    have q:=h b h' sb
    rw [if_neg hk] at q
    exact wpAny_pure (q G)
end
end S6
end
section
namespace S6
open PySem PyProof.Rows
abbrev set0 (w:World):Obj:={ cls:=.type "set",dict:=none,data:=.set #[] 0 (.fresh 0 0 (!w.params.followText "set-order")) }
section
variable {prog:Program} {w:World} {A:Around} {E:Value->Shared->Prop} {s:Shared}
theorem zrf (a:Value) {Q₁:Value->Shared->Prop} (h:Q₁ (.ref s.heap.objs.size) { s with heap:=s.heap.push (set0 w) }) :
  codeAny (model prog w) A (.call (.builtin "set.__new__") ⟨[.type "set",a],[]⟩) (wants Q₁ E) s:=by
 refine codeAny_of_tree ?_
 show wpAny _ A.in1 (do
  checkBuiltinCall "set.__new__" ⟨[.type "set",a],[]⟩
  again (.builtin "set.__new__" ⟨[.type "set",a],[]⟩)) _ _ s
 refine wpAny_bind (wpAny_of_eq (F.newCall_set_1 a) (wpAny_pure ⟨plainId_quiet F.plain_set_new _,codeAny_builtin F.entry_set_new ?_⟩))
 rw [Around.under_plainId F.plain_set_new _]
 unfold Builtin.«set.__new__» Builtin.Frozenset.newClass
 have hsub:=sub_set_self
 obtain ⟨hp,g,d,tk,os⟩:=s
 dsimp only
 wp_walk
 refine wpAny_askSetting (wpAny_pure ?_)
 dsimp only
 simp only [newObj]
 exact wpAny_bind (wpAny_alloc (wpAny_pure (wpAny_pure h)))
variable {K:Type} [DecidableEq K] {knd:KeyKind prog w K}
theorem zla {h:Heap} {a:Addr} (e:h.get? a=some (set0 w)):SetP knd h a [] :=
 ⟨[],.refl _,_,#[],0,_,e,⟨rfl,rfl,rfl⟩,rfl,.nil,List.nodup_nil,(by show (0:Nat) < scanBound; decide),⟨rfl,λ q=>by show (!_)=true; rw [q]; rfl,λ _=>List.Pairwise.nil⟩⟩
theorem zqi {l:Addr} {R:Heap->Prop} {Q:Value->Shared->Prop} (hl:∃ o,s.heap.get? l=some o)
  (hup:wpAny (model prog w) A.in1.in1 (Builtin.Frozenset.updateFrom "set.__init__" s.heap.objs.size (.ref l)) (λ _ s'=>∃ h' tk,s'={ s with heap:=h',toks:=tk }/\R h') E { s with heap:=s.heap.push (set0 w) })
  (h:∀ h' tk,R h'->Q (.ref s.heap.objs.size) { s with heap:=h',toks:=tk }) :
  wpAny (model prog w) A (call (.type "set") [.ref l]) Q E s:=by
 obtain ⟨c,tl,hmro⟩:=F.called_set.mro
 have hmade:=F.called_set.made
 have hsub:=F.called_set.sub
 refine wpAny_call (codeAny_of_tree ?_)
 show wpAny _ _ (callAny (.type "set") _) _ _ _
 refine wpAny_pure ⟨Code.quiet_builtin _ (by decide +kernel),codeAny_builtin F.entry_type_call ?_⟩
 rw [Around.under_plain (weight_type_call_type "set" [.ref l] []) rfl]
 have h1:=F.called_set.notType
 have h2:=F.called_set.canCreate
 have hct:=F.typeCall_set_1 (.ref l)
 repeat (any_goals (first | assumption | wp_step))
 refine codeAny_mono (zrf (.ref l) (E:=E) (Q₁:=λ obj s₁=>obj=.ref s.heap.objs.size/\s₁={ s with heap:=s.heap.push (set0 w) }) ⟨rfl,rfl⟩) λ r s₁ hr=>?_
 cases r with
 | error e=>exact hr
 | ok fl =>
  cases fl with
  | ret obj =>
   obtain ⟨rfl,rfl⟩:=hr
   have hS:(s.heap.push (set0 w)).get? s.heap.objs.size=some (set0 w):=Heap.get?_push_size _ rfl
   have hT:Shared.TypeIs { s with heap:=s.heap.push (set0 w) } (.ref s.heap.objs.size) "set" := ⟨_,hS,rfl⟩
   have hli:=F.called_set.init.lookup
   have hbi:=F.called_set.init.bind (.ref s.heap.objs.size)
   repeat (any_goals (first | assumption | wp_step))
   refine codeAny_mono (codeAny_call_builtin (R:=wants (λ r s₂=>r=.none/\∃ h' tk,s₂={ s with heap:=h',toks:=tk }/\R h') E) F.called_set.init.plain F.entry_set_init (check_set_init_1 hT ?_)) λ r₂ s₂ hr₂=>?_
   · unfold Builtin.«set.__init__» noKeywords
     generalize hU:Builtin.Frozenset.updateFrom=U at hup ⊢
     wp_walk
     refine wpAny_mono hup (λ _ s' hq=>?_) λ _ _ z=>z
     obtain ⟨h',tk,rfl,hr⟩:=hq
     exact wpAny_pure ⟨rfl,h',tk,rfl,hr⟩
   . cases r₂ with
     | error e=>exact hr₂
     | ok fl₂ =>
      cases fl₂ with
      | ret r =>
       obtain ⟨rfl,h',tk,rfl,hS'⟩:=hr₂
       repeat (any_goals (first | assumption | wp_step))
       exact h _ _ hS'
      | _=>exact hr₂.elim
  | _=>exact hr.elim
def ded (acc:List K) (k:K):List K:=if k∈acc then acc else acc++[k]
def deds (ks:List K):List K:=ks.foldl ded []
theorem zkK (ks:List K) (k:K):deds (ks++[k])=ded (deds ks) k:=by unfold deds; rw [List.foldl_append]; rfl
theorem zrt (a:List K) (k:K):(ded a k).length<=a.length+1:=by
 unfold ded; split
 . omega
 . simp
theorem zrj {a:List K} {k x:K}:x∈ded a k↔x∈a\/x=k:=by
 unfold ded; split
 . rename_i h; exact ⟨.inl,λ z=>z.elim id λ e=>e ▸ h⟩
 . simp
theorem zmI {x:K}:∀ {ks a:List K},x∈ks.foldl ded a↔x∈a\/x∈ks
 | [],a=>by simp
 | k::r,a=>by rw [List.foldl_cons,zmI (ks:=r),zrj,List.mem_cons,or_assoc]
theorem zfn {ks:List K} {x:K}:x∈deds ks↔x∈ks:=by unfold deds; rw [zmI]; simp
theorem zsz {a:List K} {k:K} (h:a.Nodup):(ded a k).Nodup:=by
 unfold ded; split
 . exact h
 . rename_i hk
   exact List.nodup_append.mpr ⟨h,by simp,λ u hu v hv=>by rw [List.mem_singleton.mp hv]; intro z; rw [z] at hu; exact hk hu⟩
theorem zo3:∀ {ks a:List K},a.Nodup->(ks.foldl ded a).Nodup
 | [],a,h=>h
 | k::r,a,h=>zo3 (ks:=r) (zsz h)
theorem zhD (ks:List K):(deds ks).Nodup:=zo3 List.nodup_nil
theorem zmJ:∀ {ks a:List K},(ks.foldl ded a).length<=a.length+ks.length
 | [],a=>by simp
 | k::r,a=>by
  have:=zmJ (ks:=r) (a:=ded a k)
  have:=zrt a k
  simp only [List.foldl_cons,List.length_cons]; omega
theorem zmM (ks:List K):(deds ks).length<=ks.length:=by have:=zmJ (ks:=ks) (a:=([]:List K)); unfold deds; simpa using this
variable {R:Result->Shared->Prop} {I:Addr} {fp wr:List Addr} {G:Array GenState->Array GenState->Prop} {P:Nat->Value->Prop} {St:Nat->Shared->Prop}
theorem zmn {ks:List K} (W:WalksS prog w A.in1 I fp wr G ks.length P St) (S:Addr) (hSf:S∉fp) (hP:∀ i v,P i v->∃ k,ks[i]?=some k/\knd.is k v=true/\v.scannable=true) (hb:ks.length+1 < scanBound) :
  ∀ (m i:Nat) (s:Shared),ks.length - i=m->i<=ks.length->St i s->SetP knd s.heap S (deds (ks.take i)) ->
    (∀ s',Moved (S::wr) G s s'->SetP knd s'.heap S (deds ks)->R (.ok (.ret .none)) s') ->
    codeAny (model prog w) A (.builtin "set.update.loop" ⟨[.ref S,.ref I],[]⟩) R s:=by
 have nw:S∉wr:=λ z=>hSf (W.sub _ z)
 have up:∀ b∈wr,b∈S::wr:=λ b z=>List.mem_cons_of_mem _ z
 intro m
 induction m with
 | zero =>
  intro i s hm hi st hS hR
  have ei:i=ks.length:=by omega
  subst ei
  refine codeAny_builtin F.entry_set_update_loop ?_
  rw [Around.under_plainId F.plain_set_update_loop _]
  refine wpAny_bind (m:=pyNext (.ref I)) (W.done s _ _ st λ s' mv=>wpAny_pure (hR s' (mv.mono up) ?_))
  rw [List.take_length] at hS
  exact hS.at λ o e=>mv.heap S o nw e
 | succ m ih =>
  intro i s hm hi st hS hR
  have hlt:i < ks.length:=by omega
  refine codeAny_builtin F.entry_set_update_loop ?_
  rw [Around.under_plainId F.plain_set_update_loop _]
  refine wpAny_bind (m:=pyNext (.ref I)) (W.item i s _ _ hlt st λ v s' pv st' mv=>?_)
  obtain ⟨k,hk,his,hsc⟩:=hP i v pv
  have hS1:SetP knd s'.heap S (deds (ks.take i)):=hS.at λ o e=>mv.heap S o nw e
  refine wpAny_bind (m:=holding [v] (setAdd S v)) (wpAny_holding ?_)
  unfold setAdd
  refine wpAny_holding (wpAny_bind (knd.pyHash his ?_))
  have hlen:(deds (ks.take i)).length<=i:=Nat.le_trans (zmM _) (by rw [List.length_take]; omega)
  refine zn5 (s:={ s' with toks:=s'.toks+1 }) his hsc hS1 (by omega) λ b h' sb hS2=>?_
  have e:ks.take (i+1)=ks.take i++[k]:=by rw [List.take_add_one,hk]; rfl
  have hS3:SetP knd h' S (deds (ks.take (i+1))):=by rw [e,zkK]; exact hS2
  refine wpAny_pure ⟨plainId_quiet F.plain_set_update_loop _,ih (i+1) _ (by omega) hlt (W.frame _ s' _ _ st' (Nat.le_succ _) λ b hb o eo=>?_) hS3 λ s'' mv'' hS''=>?_⟩
  . rw [sb.2 b λ z=>hSf (z ▸ hb)]; exact eo
  . refine hR s'' (Moved.trans W.gtrans ((mv.mono up).then_heap (Nat.le_succ _) λ b o hb eo=>?_) mv'') hS''
    rw [sb.2 b λ z=>hb (z ▸ List.mem_cons_self)]; exact eo
end
end S6
end
section
namespace S6
open PySem PyProof.Rows
theorem sub_tuple_set:isSubtype (.type "tuple") (.type "set")=pure false:=by rw [isSubtype_type]; kernel_rfl
theorem zhU:isSubtype (.type "tuple") (.type "frozenset")=pure false:=by rw [isSubtype_type]; kernel_rfl
theorem sub_dict_set:isSubtype (.type "dict") (.type "set")=pure false:=by rw [isSubtype_type]; kernel_rfl
theorem ziN:isSubtype (.type "dict") (.type "frozenset")=pure false:=by rw [isSubtype_type]; kernel_rfl
section
variable {prog:Program} {w:World} {A:Around} {E:Value->Shared->Prop} {s:Shared} {K:Type} [DecidableEq K] {knd:KeyKind prog w K}
abbrev KVal (knd:KeyKind prog w K) (k:K) (v:Value):Prop:=knd.is k v=true/\v.scannable=true
theorem zoP {T:String} {v:Value} {Q:Bool->Shared->Prop} (hT:s.TypeIs v T) (h1:isSubtype (.type T) (.type "set")=pure false) (h2:isSubtype (.type T) (.type "frozenset")=pure false) (h:Q false s) :
  wpAny (model prog w) A (Builtin.Frozenset.isAnySet v) Q E s:=by
 unfold Builtin.Frozenset.isAnySet
 refine wpAny_bind (wpAny_isInstance hT h1 ?_)
 exact wpAny_isInstance hT h2 h
theorem zo5 {S l:Addr} {items:Array Value} {ks:List K} (hh:A.handled=none) (hl:s.heap.IsList l items) (hS:SetP knd s.heap S []) (hne:S≠l) (hlen:items.size=ks.length) (hb:ks.length+1 < scanBound)
   (hv:∀ (i:Nat) v,items[i]?=some v->∃ k,ks[i]?=some k/\KVal knd k v) :
   wpAny (model prog w) A (Builtin.Frozenset.updateFrom "set.__init__" S (.ref l)) (λ _ s'=>∃ h' tk,s'={ s with heap:=h',toks:=tk }/\SetP knd h' S (deds ks)/\∀ b o,b≠S->s.heap.get? b=some o->h'.get? b=some o) E s:=by
 unfold Builtin.Frozenset.updateFrom
 refine wpAny_bind (zoP hl.typeIs F.sub_list_set F.sub_list_frozenset ?_)
 simp only [Bool.false_eq_true,if_false]
 refine wpAny_bind (wpAny_typeOf hl.typeIs ?_)
 rw [if_neg (by decide)]
 refine wpAny_bind (wpAny_pyIter_list hl ?_)
 refine wpAny_bind (wpAny_runValue ?_)
 obtain ⟨ol,hol,_⟩:=id hl
 have hSl:S < s.heap.objs.size:=by obtain ⟨_,_,o,_,_,_,e,_⟩:=hS; exact Heap.lt_size e
 have hSf:S∉[s.heap.objs.size,l]:=by
   intro z
   rcases List.mem_cons.mp z with z | z
   . exact absurd hSl (by rw [z]; exact Nat.lt_irrefl _)
   . exact hne (List.mem_singleton.mp z)
 have W:=(Walks.list (prog:=prog) (w:=w) (A:=A.in1) hh s.heap.objs.size l (Nat.ne_of_lt (Heap.lt_size hol)) items).toS
 rw [hlen] at W
 refine zmn W S hSf hv hb ks.length 0 _ (by omega) (Nat.zero_le _) ⟨⟨_,Heap.get?_push_size _ rfl,rfl,rfl⟩,hl.push _⟩ (hS.at λ o e=>Heap.get?_push_of_some _ e) λ s' mv hS'=>?_
 obtain ⟨h',g',d',tk',os'⟩:=s'
 have eg:g'=s.gens:=mv.gens
 have ed:d'=s.drawn:=mv.drawn
 have eo:os'=s.os:=mv.os
 subst eg ed eo
 refine wpAny_pure ⟨h',tk',rfl,hS',λ b o hb e=>mv.heap b o (λ z=>?_) (Heap.get?_push_of_some _ e)⟩
 rcases List.mem_cons.mp z with z | z
 . exact hb z
 . have:=List.mem_singleton.mp z
   exact absurd (Heap.lt_size e) (by rw [this]; exact Nat.lt_irrefl _)
theorem zp7 {S l:Addr} {items:Array Value} {ks:List K} (hh:A.handled=none) (hl:s.heap.IsTuple l items) (hS:SetP knd s.heap S []) (hne:S≠l) (hlen:items.size=ks.length) (hb:ks.length+1 < scanBound)
   (hv:∀ (i:Nat) v,items[i]?=some v->∃ k,ks[i]?=some k/\KVal knd k v) :
   wpAny (model prog w) A (Builtin.Frozenset.updateFrom "set.__init__" S (.ref l)) (λ _ s'=>∃ h' tk,s'={ s with heap:=h',toks:=tk }/\SetP knd h' S (deds ks)/\∀ b o,b≠S->s.heap.get? b=some o->h'.get? b=some o) E s:=by
 unfold Builtin.Frozenset.updateFrom
 refine wpAny_bind (zoP hl.typeIs sub_tuple_set zhU ?_)
 simp only [Bool.false_eq_true,if_false]
 refine wpAny_bind (wpAny_typeOf hl.typeIs ?_)
 rw [if_neg (by decide)]
 refine wpAny_bind (wpAny_pyIter_tuple hl ?_)
 refine wpAny_bind (wpAny_runValue ?_)
 obtain ⟨ol,hol,_⟩:=id hl
 have hSl:S < s.heap.objs.size:=by obtain ⟨_,_,o,_,_,_,e,_⟩:=hS; exact Heap.lt_size e
 have hSf:S∉[s.heap.objs.size,l]:=by
   intro z
   rcases List.mem_cons.mp z with z | z
   . exact absurd hSl (by rw [z]; exact Nat.lt_irrefl _)
   . exact hne (List.mem_singleton.mp z)
 have W:=(Walks.tuple (prog:=prog) (w:=w) (A:=A.in1) hh s.heap.objs.size l (Nat.ne_of_lt (Heap.lt_size hol)) items).toS
 rw [hlen] at W
 refine zmn W S hSf hv hb ks.length 0 _ (by omega) (Nat.zero_le _) ⟨⟨_,Heap.get?_push_size _ rfl,rfl,rfl⟩,(let ⟨o,e,r⟩:=hl; ⟨o,Heap.get?_push_of_some _ e,r⟩)⟩ (hS.at λ o e=>Heap.get?_push_of_some _ e) λ s' mv hS'=>?_
 obtain ⟨h',g',d',tk',os'⟩:=s'
 have eg:g'=s.gens:=mv.gens
 have ed:d'=s.drawn:=mv.drawn
 have eo:os'=s.os:=mv.os
 subst eg ed eo
 refine wpAny_pure ⟨h',tk',rfl,hS',λ b o hb e=>mv.heap b o (λ z=>?_) (Heap.get?_push_of_some _ e)⟩
 rcases List.mem_cons.mp z with z | z
 . exact hb z
 . have:=List.mem_singleton.mp z
   exact absurd (Heap.lt_size e) (by rw [this]; exact Nat.lt_irrefl _)
theorem zo6 {S d:Addr} {kvs:List (K×Value)} (lo:(d == sysModules)=false) (hd:s.heap.DictOf knd d kvs) (hS0:s.heap.get? S=some (set0 w)) (h4:kvs.length<=4)
   (hv:∀ p∈kvs,∀ u,knd.is p.1 u=true->u.scannable=true) :
   wpAny (model prog w) A (Builtin.Frozenset.updateFrom "set.__init__" S (.ref d)) (λ _ s'=>∃ h' tk,s'={ s with heap:=h',toks:=tk }/\SetP knd h' S (deds (kvs.map (·.1)))/\∀ b o,b≠S->s.heap.get? b=some o->h'.get? b=some o) E s:=by
 have hT:=hd.typeIs (s:=s)
 obtain ⟨o,es,ep,ho,hx,hod,hk,hp,hn⟩:=hd
 have hne:d≠S:=λ z=>by
   rw [z,hS0] at ho; cases ho; cases hod
 have hz:es.size=kvs.length:=by rw [<-hp.length]; simp
 unfold Builtin.Frozenset.updateFrom
 refine wpAny_bind (zoP hT sub_dict_set ziN ?_)
 simp only [Bool.false_eq_true,if_false]
 refine wpAny_bind (wpAny_typeOf hT ?_)
 rw [if_pos (by decide)]
 refine wpAny_bind (wpAny_rule (wpAny_bind (m:=Builtin.Frozenset.addrOf (.ref d)) (wpAny_pure ?_)))
 rw [if_neg (by rw [lo]; exact Bool.false_ne_true)]
 refine wpAny_bind (wpAny_dictEpoch ho hod (wpAny_bind (wpAny_dictEntries ho hod (wpAny_bind ?_))))
 unfold setRoomFor
 refine wpAny_bind (wpAny_setState_of hS0 rfl rfl ?_)
 have hroom:(SetTable.fresh 0 0 (!w.params.followText "set-order")).roomFor es.size=none:=by
   unfold SetTable.roomFor
   rw [if_neg]
   show ¬ ((0+es.size) * 5 ≥ 7 * 3)
   omega
 dsimp only
 rw [hroom]
 refine wpAny_pure (wpAny_bind (wpAny_dictEntries ho hod (wpAny_bind ?_)))
 rw [Std.Legacy.Range.forIn_eq_forIn_range']
 simp only [Std.Legacy.Range.size,Nat.sub_zero,Nat.add_sub_cancel,Nat.div_one]
 have hlk:(kvs.map (·.1)).length=es.size:=by rw [List.length_map,hz]
 refine wpAny_forIn_list _ (λ rest _ s'=>∃ h' i,s'={ s with heap:=h' }/\rest=List.range' i (es.size - i)/\i<=es.size/\SetP knd h' S (deds ((kvs.map (·.1)).take i))/\Heap.SameBut S s.heap h') _ ?_ ?_ _ _
   ⟨s.heap,0,rfl,by simp,Nat.zero_le _,zla hS0,Heap.SameBut.refl _ _⟩
 . rintro x rest b s' ⟨h',i,rfl,hr,hi,hS',sb⟩
   have hlt:i < es.size:=by
    rcases Nat.lt_or_ge i es.size with z | z
    . exact z
    . rw [Nat.sub_eq_zero_of_le z] at hr; cases hr
   obtain ⟨rfl,hrest⟩:x=i/\rest=List.range' (i+1) (es.size - (i+1)):=by
    rw [show es.size - i=(es.size - (i+1))+1 by omega,List.range'_succ] at hr
    injection hr with q1 q2
    exact ⟨q1,q2⟩
   have ho':h'.get? d=some o:=(sb.2 d hne).trans ho
   refine wpAny_bind (wpAny_dictEntries (s:={ s with heap:=h' }) ho' hod ?_)
   rw [Array.getElem?_eq_getElem hlt]
   obtain ⟨⟨k,v⟩,hkv⟩:∃ kv,kvs[x]?=some kv:=⟨kvs[x]'(by rw [<-hz]; exact hlt),List.getElem?_eq_getElem _⟩
   have his:=(hp.get? (e:=es[x]) (by simp [hlt]) hkv).1
   obtain ⟨k',his',hh'⟩:=hk es[x] (Array.getElem_mem hlt)
   obtain rfl:k'=k:=knd.inj _ _ _ his' his
   have hsc:=hv (k',v) (List.mem_of_getElem? hkv) _ his
   have hke:(kvs.map (·.1))[x]?=some k':=by rw [List.getElem?_map,hkv]; rfl
   have hlen:(deds ((kvs.map (·.1)).take x)).length<=x:=Nat.le_trans (zmM _) (by rw [List.length_take]; omega)
   refine wpAny_bind (wpAny_holding ?_)
   rw [hh']
   refine zn5 (s:={ s with heap:=h' }) his hsc hS' (by unfold scanBound; omega) λ b2 h2 sb2 hS2=>?_
   have ho2:h2.get? d=some o:=(sb2.2 d hne).trans ho'
   refine wpAny_bind (wpAny_dictEpoch (s:={ s with heap:=h2 }) ho2 hod ?_)
   rw [if_neg (by simp)]
   refine wpAny_pure ⟨h2,x+1,rfl,hrest,hlt,?_,sb.trans sb2⟩
   rw [List.take_add_one,hke]
   show SetP knd h2 S (deds ((kvs.map (·.1)).take x++[k']))
   rw [zkK]; exact hS2
 . rintro b s' ⟨h',i,rfl,hr,hi,hS',sb⟩
   have ei:i=es.size:=by
    rcases Nat.lt_or_ge i es.size with z | z
    . rw [show es.size - i=(es.size - (i+1))+1 by omega,List.range'_succ] at hr; cases hr
    . omega
   rw [ei,<-hlk,List.take_length] at hS'
   exact wpAny_pure ⟨h',s.toks,rfl,hS',λ b o hb e=>(sb.2 b hb).trans e⟩
end
end S6
end
section
namespace S6
open PySem PyProof.Rows
theorem zbU:Slot "set_iterator" "__next__" "set_iterator.__next__" :=
 Slot.of (owner := "set_iterator") (n := "__next__")
  (by rw [typeLookup_type,builtinLookup_eq_fast]; kernel_rfl) (by decide +kernel)
  (by decide +kernel) (by decide +kernel)
  (by first | exact .inl (by decide +kernel) | exact .inr (by decide +kernel))
  (by rw [isSubtype_type]; kernel_rfl)
theorem zfw : entryFor table "set_iterator.__next__" = some Builtin.«set_iterator.__next__» :=
 entryFor_of_tree (by kernel_rfl)
theorem zgr (a:Value):argsOk "set_iterator.__next__" ⟨[a],[]⟩:=by
 unfold argsOk; kernel_rfl
theorem zkG : entryFor table "set.__iter__" = some Builtin.«frozenset.__iter__» :=
 entryFor_alias (id' := "frozenset.__iter__") (by kernel_rfl) rfl
  (by decide +kernel) (by kernel_rfl)
def byT (w:World):Bool:=w.params.followText "set-order"
def itO (first:Value) (i:Nat) (a:Addr) (n ep:Nat):Obj:={ cls:=.type "set_iterator",data:=.fields #[first,.int i 0,.ref a,.int n 0,.int ep 0] }
def Mode (w:World) (es:Array (Int×Value)) (ep:Nat) (t:SetTable) (vs:List Value) (a it p:Addr) (i:Nat) (h:Heap) (first:Value):Prop :=
 (byT w=true/\(∃ sl:Nat,first=.int sl 0)/\vs=(pickOrder (w.params.setOrder a ep) es).toList.map (·.2)) \/
 (byT w=false/\first=.ref p/\p≠it/\∃ ps:List Nat,h.get? p=some { cls:=.type "tuple",data:=.seq (ps.map λ (n:Nat)=>Value.int n 0).toArray }/\vs=ps.filterMap (λ j=>(es[j]?).map (·.2))/\ps.Perm (List.range es.size)) \/
 (byT w=false/\t.led=true/\(t.plain=true\/es.size<=1)/\Rise t.place/\first=.int (slotAt t.place i:Nat) 0/\vs=es.toList.map (·.2))
def SIt (w:World) (es:Array (Int×Value)) (ep:Nat) (t:SetTable) (vs:List Value) (a it p:Addr) (i:Nat) (h:Heap):Prop :=
 (∃ o,h.get? a=some o/\o.ExactSet/\o.data=.set es ep t)/\∃ first,h.get? it=some (itO first i a es.size ep)/\Mode w es ep t vs a it p i h first
section
variable {prog:Program} {w:World} {A:Around} {E:Value->Shared->Prop} {s:Shared}
theorem znJ {a:Addr} {o:Obj} {es:Array (Int×Value)} {ep:Nat} {t:SetTable} {Q:Array (Int×Value)->Shared->Prop} (ho:s.heap.get? a=some o) (hd:o.data=.set es ep t) (hf:t.fits es.size=true) (hb:byT w=true)
  (h:Q (pickOrder (w.params.setOrder a ep) es) s):wpAny (model prog w) A (setWalk a) Q E s:=by
 unfold setWalk setsByText
 refine wpAny_bind (wpAny_setState_of ho hd hf ?_)
 dsimp only
 refine wpAny_bind (wpAny_bind (wpAny_askSetting (wpAny_pure ?_)))
 show wpAny _ _ (if byT w=true then _ else _) _ _ _
 rw [if_pos hb]
 exact wpAny_bind (wpAny_askSetting (wpAny_pure h))
theorem zkn {a:Addr} {o:Obj} {es:Array (Int×Value)} {ep slot i:Nat} {t:SetTable} {Q:Option (Value×Nat)->Shared->Prop} (ho:s.heap.get? a=some o) (hd:o.data=.set es ep t) (hf:t.fits es.size=true) (hb:byT w=true)
  (h:Q (((pickOrder (w.params.setOrder a ep) es)[i]?).map λ e=>(e.2,slot)) s):wpAny (model prog w) A (setNext a slot i ep) Q E s:=by
 unfold setNext setsByText
 refine wpAny_bind (wpAny_setState_of ho hd hf ?_)
 dsimp only
 refine wpAny_bind (wpAny_bind (wpAny_askSetting (wpAny_pure ?_)))
 show wpAny _ _ (if byT w=true then _ else _) _ _ _
 rw [if_pos hb,if_neg (by simp)]
 exact wpAny_bind (znJ ho hd hf hb (wpAny_pure h))
theorem ziq {a:Addr} {o:Obj} {es:Array (Int×Value)} {ep slot i:Nat} {t:SetTable} {Q:Option (Value×Nat)->Shared->Prop} (ho:s.heap.get? a=some o) (hd:o.data=.set es ep t) (hf:t.fits es.size=true) (hb:byT w=false) (hl:t.led=true) (hz:t.plain=true\/es.size<=1)
  (h:Q (match es[SetTable.below t.place slot]?,t.place[SetTable.below t.place slot]? with | some (_,x),some j=>some (x,j+1) | _,_=>none) s):wpAny (model prog w) A (setNext a slot i ep) Q E s:=by
 unfold setNext setsByText
 refine wpAny_bind (wpAny_setState_of ho hd hf ?_)
 dsimp only
 refine wpAny_bind (wpAny_bind (wpAny_askSetting (wpAny_pure ?_)))
 show wpAny _ _ (if byT w=true then _ else _) _ _ _
 rw [if_neg (by rw [hb]; exact Bool.false_ne_true)]
 show wpAny _ _ (if (!t.plain && decide (es.size > 1))=true then _ else _) _ _ _
 have hnd:¬ ((!t.plain && decide (es.size > 1))=true):=by
  rcases hz with z | z
  . simp [z]
  . simp; omega
 rw [if_neg hnd]
 refine wpAny_bind ?_
 show wpAny _ _ (if (!t.led && !es.isEmpty)=true then _ else _) _ _ _
 rw [if_neg (by simp [hl])]
 exact wpAny_pure (wpAny_pure h)
theorem zqZ {es:Array (Int×Value)} {ep:Nat} {t:SetTable} {vs:List Value} {a it p:Addr} {i:Nat} {v:Value} {Q:Option Value->Shared->Prop} (hf:t.fits es.size=true) (st:SIt w es ep t vs a it p i s.heap) (hne:a≠it) (hv:vs[i]?=some v)
   (h:∀ h',SIt w es ep t vs a it p (i+1) h'->Heap.SameBut it s.heap h'->Q (some v) { s with heap:=h' }):wpAny (model prog w) A (pyNext (.ref it)) Q E s:=by
 obtain ⟨⟨o,ho,hx,hd⟩,first,hit,md⟩:=st
 have hT:s.TypeIs (.ref it) "set_iterator" := ⟨_,hit,rfl⟩
 unfold pyNext
 refine wpAny_bind (wpAny_attempt (wpAny_callSpecial?_slot (name:=Str.ofString "__next__") hT zbU (wpAny_call_entry zbU hT zfw ?_ (zgr _))))
 unfold Builtin.«set_iterator.__next__»
 refine wpAny_bind (m:=slotArgs "__next__" 0 _) (wpAny_pure ?_)
 refine wpAny_bind (wpAny_fieldsOf hit rfl ?_)
 dsimp only
 refine wpAny_bind (wpAny_setEntries_of ho hd hf ?_)
 rw [if_neg (by simp)]
 have upd1:∀ (h1:Heap) (f1:Value),h1.get? it=some (itO f1 i a es.size ep)->(h1.update it (Obj.mapFields (·.setIfInBounds 1 (rawInt ((i:Int)+1))))).get? it=some (itO f1 (i+1) a es.size ep):=λ h1 f1 e=>by
   rw [Heap.get?_update_self _ e rfl]; rfl
 have upd0:∀ (h1:Heap) (f1 f2:Value),h1.get? it=some (itO f1 i a es.size ep)->(h1.update it (Obj.mapFields (·.setIfInBounds 0 f2))).get? it=some (itO f2 i a es.size ep):=λ h1 f1 f2 e=>by
   rw [Heap.get?_update_self _ e rfl]; rfl
 have oth:∀ (h1:Heap) (f:Obj->Obj) (b:Addr),b≠it->(h1.update it f).get? b=h1.get? b:=λ h1 f b hb=>Heap.get?_update_other _ _ (Ne.symm hb)
 rcases md with ⟨hb,⟨sl,rfl⟩,hvs⟩ | ⟨hb,rfl,hpi,ps,hps,hvs,hperm⟩ | ⟨hb,hled,hz,hri,rfl,hvs⟩
 . dsimp only
   simp only [Int.toNat_natCast]
   refine wpAny_bind (zkn ho hd hf hb ?_)
   have e1:(pickOrder (w.params.setOrder a ep) es)[i]?.map (·.2)=some v:=by
    rw [hvs,List.getElem?_map,Array.getElem?_toList] at hv; exact hv
   cases e2:(pickOrder (w.params.setOrder a ep) es)[i]? with
   | none=>rw [e2] at e1; cases e1
   | some q =>
    rw [e2] at e1
    have e3:q.2=v:=Option.some.inj e1
    show wpAny _ _ (setField (.ref it) 0 _ >>= _) _ _ _
    refine wpAny_bind (wpAny_setField hit rfl (by simp) ?_)
    refine wpAny_bind (wpAny_setField (upd0 _ _ _ hit) rfl (by simp) ?_)
    refine wpAny_pure ⟨_,rfl,wpAny_pure ?_⟩
    rw [e3]
    refine h _ ⟨⟨o,by rw [oth _ _ _ hne,oth _ _ _ hne]; exact ho,hx,hd⟩,_,upd1 _ _ (upd0 _ _ _ hit),.inl ⟨hb,⟨_,rfl⟩,hvs⟩⟩ ((Heap.SameBut.update ..).trans (Heap.SameBut.update ..))
 . dsimp only
   refine wpAny_bind (wpAny_seqItems hps rfl ?_)
   dsimp only
   have all:∀ j∈ps,j < es.size:=λ j hj=>List.mem_range.mp (hperm.mem_iff.mp hj)
   have fm:∀ l:List Nat,(∀ j∈l,j < es.size)->l.filterMap (λ j=>(es[j]?).map (·.2))=l.map λ j=>(es[j]?.map (·.2)).getD .none:=λ l=>by
    induction l with
    | nil=>intro _; rfl
    | cons j r ih =>
     intro hl
     have hj:=hl j List.mem_cons_self
     rw [List.filterMap_cons,List.map_cons,ih λ x hx=>hl x (List.mem_cons_of_mem _ hx),Array.getElem?_eq_getElem hj]
     rfl
   rw [hvs,fm ps all,List.getElem?_map] at hv
   cases e2:ps[i]? with
   | none=>rw [e2] at hv; cases hv
   | some j =>
    rw [e2] at hv
    have hj:=all j (List.mem_of_getElem? e2)
    have e3:((ps.map λ (n:Nat)=>Value.int n 0).toArray)[((i:Nat):Int).toNat]?=some (Value.int (j:Int) 0):=by
     rw [List.getElem?_toArray,List.getElem?_map]
     show Option.map _ ps[i]?=_
     rw [e2]; rfl
    rw [e3]
    dsimp only
    have hv':es[j].2=v:=by
     have:=Option.some.inj hv
     dsimp only at this
     rw [Array.getElem?_eq_getElem hj] at this; exact this
    unfold setNextDrawn
    refine wpAny_bind (wpAny_bind (wpAny_setState_of ho hd hf ?_))
    dsimp only
    rw [if_neg (by simp),show es[((j:Nat):Int).toNat]?=some es[j] from Array.getElem?_eq_getElem hj]
    refine wpAny_pure ?_
    refine wpAny_bind (wpAny_setField hit rfl (by simp) ?_)
    refine wpAny_pure ⟨_,rfl,wpAny_pure ?_⟩
    show Q (some es[j].2) _
    rw [hv']
    exact h _ ⟨⟨o,by rw [oth _ _ _ hne]; exact ho,hx,hd⟩,_,upd1 _ _ hit,.inr (.inl ⟨hb,rfl,hpi,ps,by rw [oth _ _ _ hpi]; exact hps,hvs,hperm⟩)⟩ (Heap.SameBut.update ..)
 . dsimp only
   have hi:i < es.size:=by
    have:=(List.getElem?_eq_some_iff.mp hv).1
    rw [hvs,List.length_map,Array.length_toList] at this
    exact this
   have hps:t.place.size=es.size:=by
    have:=hf
    simp only [SetTable.fits,Bool.and_eq_true,beq_iff_eq] at this
    exact this.1
   have hip:i < t.place.size:=by omega
   refine wpAny_bind (ziq ho hd hf hb hled hz ?_)
   have hv':es[i].2=v:=by
    rw [hvs,List.getElem?_map,Array.getElem?_toList,Array.getElem?_eq_getElem hi] at hv
    exact Option.some.inj hv
   rw [Int.toNat_natCast,below_at hri (by omega),Array.getElem?_eq_getElem hi,Array.getElem?_eq_getElem hip]
   show wpAny _ _ (setField (.ref it) 0 (rawInt ((t.place[i]+1:Nat):Int)) >>= _) _ _ _
   refine wpAny_bind (wpAny_setField hit rfl (by simp) ?_)
   refine wpAny_bind (wpAny_setField (upd0 _ _ _ hit) rfl (by simp) ?_)
   refine wpAny_pure ⟨_,rfl,wpAny_pure ?_⟩
   show Q (some es[i].2) _
   rw [hv']
   refine h _ ⟨⟨o,by rw [oth _ _ _ hne,oth _ _ _ hne]; exact ho,hx,hd⟩,_,upd1 _ _ (upd0 _ _ _ hit),.inr (.inr ⟨hb,hled,hz,hri,?_,hvs⟩)⟩ ((Heap.SameBut.update ..).trans (Heap.SameBut.update ..))
   unfold slotAt
   rw [if_neg (Nat.succ_ne_zero _),Nat.add_sub_cancel]
   simp [Array.getD,hip,rawInt]
theorem zr4 {es:Array (Int×Value)} {ep:Nat} {t:SetTable} {vs:List Value} {a it p:Addr} {Q:Option Value->Shared->Prop} (hh:A.handled=none) (hf:t.fits es.size=true) (st:SIt w es ep t vs a it p vs.length s.heap) (hne:a≠it)
   (h:∀ h',Heap.ExtBut it s.heap h'->Q none { s with heap:=h' }):wpAny (model prog w) A (pyNext (.ref it)) Q E s:=by
 obtain ⟨⟨o,ho,hx,hd⟩,first,hit,md⟩:=st
 have hT:s.TypeIs (.ref it) "set_iterator" := ⟨_,hit,rfl⟩
 unfold pyNext
 refine wpAny_bind (wpAny_attempt (wpAny_callSpecial?_slot (name:=Str.ofString "__next__") hT zbU (wpAny_call_entry zbU hT zfw ?_ (zgr _))))
 unfold Builtin.«set_iterator.__next__»
 refine wpAny_bind (m:=slotArgs "__next__" 0 _) (wpAny_pure ?_)
 refine wpAny_bind (wpAny_fieldsOf hit rfl ?_)
 dsimp only
 refine wpAny_bind (wpAny_setEntries_of ho hd hf ?_)
 rw [if_neg (by simp)]
 have stop:∀ (h1:Heap) (f1:Value),Heap.ExtBut it s.heap h1->h1.get? it=some (itO f1 vs.length a es.size ep) ->
    wpAny (model prog w) A.in1 (do
     setField (.ref it) 2 Value.none
     let e <-newExc (.type "StopIteration") []
     raiseNew e:Sem Fin)
     (λ fin s'=>∃ v,fin=Fin.done (Flow.ret v)/\wpAny (model prog w) A (pure (some v)) Q E s')
     (λ e s'=>wpAny (model prog w) A (do
      let b <-isInstance e (Value.type "StopIteration")
      if b=true then pure none else throw e) Q E s') { s with heap:=h1 }:=λ h1 f1 x1 e1=>by
   refine wpAny_bind (wpAny_setField e1 rfl (by simp) (wpAny_bind ?_))
   simp only [newExc,newTuple]
   refine wpAny_bind (wpAny_newObj_type ?_ (by size_fits))
   refine wpAny_bind (m:=firstArgMember _ _) (wpAny_of_eq (a:=Value.none) (by first | rfl | (simp only [firstArgMember]; rfl)) ?_)
   refine wpAny_newObj_type ?_ (by size_fits)
   simp only [raiseNew]
   refine wpAny_bind (wpAny_handled ?_)
   rw [show A.in1.handled=none from hh]
   refine wpAny_bind (wpAny_pure (wpAny_throw ?_))
   refine wpAny_bind (wpAny_isInstance (T := "StopIteration") (b:=true) ⟨_,Heap.get?_push_size _ rfl,rfl⟩ isSubtype_stop ?_)
   refine wpAny_pure (h _ λ b ob hb q=>?_)
   exact Heap.get?_push_of_some _ (Heap.get?_push_of_some _ ((Heap.get?_update_other _ _ (Ne.symm hb)).trans (x1 b ob hb q)))
 have ext0:Heap.ExtBut it s.heap s.heap:=λ b ob _ q=>q
 rcases md with ⟨hb,⟨sl,rfl⟩,hvs⟩ | ⟨hb,rfl,hpi,ps,hps,hvs,hperm⟩ | ⟨hb,hled,hz,hri,rfl,hvs⟩
 . dsimp only
   simp only [Int.toNat_natCast]
   refine wpAny_bind (zkn ho hd hf hb ?_)
   have e1:(pickOrder (w.params.setOrder a ep) es)[vs.length]?=none:=by
    rw [Array.getElem?_eq_none_iff,hvs,List.length_map,Array.length_toList]
    exact Nat.le_refl _
   rw [e1]
   exact stop _ _ ext0 hit
 . dsimp only
   refine wpAny_bind (wpAny_seqItems hps rfl ?_)
   dsimp only
   have all:∀ j∈ps,j < es.size:=λ j hj=>List.mem_range.mp (hperm.mem_iff.mp hj)
   have fm:∀ l:List Nat,(∀ j∈l,j < es.size)->(l.filterMap (λ j=>(es[j]?).map (·.2))).length=l.length:=λ l=>by
    induction l with
    | nil=>intro _; rfl
    | cons j r ih =>
     intro hl
     have hj:=hl j List.mem_cons_self
     rw [List.filterMap_cons,Array.getElem?_eq_getElem hj]
     simp only [Option.map_some,List.length_cons]
     rw [ih λ x hx=>hl x (List.mem_cons_of_mem _ hx)]
   have e3:((ps.map λ (n:Nat)=>Value.int n 0).toArray)[((vs.length:Nat):Int).toNat]?=none:=by
    rw [List.getElem?_toArray,Int.toNat_natCast,List.getElem?_eq_none_iff,List.length_map,hvs,fm ps all]
    exact Nat.le_refl _
   rw [e3]
   dsimp only
   refine wpAny_bind (wpAny_setField hit rfl (by simp) ?_)
   refine stop _ (rawInt 0) (λ b ob hb q=>(Heap.get?_update_other _ _ (Ne.symm hb)).trans q) ?_
   rw [Heap.get?_update_self _ hit rfl]; rfl
 . dsimp only
   refine wpAny_bind (ziq ho hd hf hb hled hz ?_)
   have hps:t.place.size=es.size:=by
    have:=hf
    simp only [SetTable.fits,Bool.and_eq_true,beq_iff_eq] at this
    exact this.1
   have hlen:vs.length=es.size:=by rw [hvs,List.length_map,Array.length_toList]
   have none1:es[SetTable.below t.place (slotAt t.place vs.length)]?=none:=by
    rw [below_at hri (by omega),hlen]
    simp
   rw [Int.toNat_natCast]
   rw [none1]
   exact stop _ _ ext0 hit
end
end S6
end
section
namespace S6
open PySem PyProof.Rows
def Kept (h h':Heap):Prop:=∀ b o,h.get? b=some o->h'.get? b=some o
section
variable {prog:Program} {w:World} {A:Around} {E:Value->Shared->Prop} {s:Shared}
theorem zn4 {a:Addr} {o:Obj} {es:Array (Int×Value)} {ep:Nat} {t:SetTable} {Q:Bool->Shared->Prop} (ho:s.heap.get? a=some o) (hd:o.data=.set es ep t) (hf:t.fits es.size=true)
  (h:Q (!byT w && (!t.plain && decide (es.size > 1))) s):wpAny (model prog w) A (setDrawn a) Q E s:=by
 unfold setDrawn setsByText
 refine wpAny_bind (wpAny_setState_of ho hd hf ?_)
 dsimp only
 refine wpAny_bind (wpAny_bind (wpAny_askSetting (wpAny_pure ?_)))
 exact wpAny_pure h
theorem znb {a:Addr} {o:Obj} {es:Array (Int×Value)} {ep:Nat} {t:SetTable} {Q:Value->Shared->Prop} (ho:s.heap.get? a=some o) (hx:o.ExactSet) (hd:o.data=.set es ep t) (hT:SetT w t es.size) (hz:es.size<=sizeLine)
  (h:∀ (it p:Addr) (vs:List Value) h' d,SIt w es ep t vs a it p 0 h'->vs.Perm (es.toList.map (·.2))->Kept s.heap h'->s.heap.objs.size<=it->(p < it\/p=0)->(s.heap.objs.size<=p\/p=0)->Q (.ref it) { s with heap:=h',drawn:=d }) :
  wpAny (model prog w) A (pyIter (.ref a)) Q E s:=by
 have hTy:s.TypeIs (.ref a) "set" := ⟨o,ho,hx.1⟩
 refine wpAny_pyIter_slot hTy F.slot_set_iter (wpAny_call_entry F.slot_set_iter hTy zkG ?_ (F.args_set_iter_1 _))
 unfold Builtin.«frozenset.__iter__» Builtin.Frozenset.slot0 slotArgs
 simp only [List.isEmpty_nil,Bool.not_true,Bool.false_eq_true,↓reduceIte,bind_assoc,List.length_nil,bne_self_eq_false]
 unfold Builtin.Frozenset.addrOf Builtin.Frozenset.sizeOf
 refine wpAny_bind (wpAny_pure ?_)
 try dsimp only
 refine wpAny_bind (wpAny_pure ?_)
 refine wpAny_bind (wpAny_bind (wpAny_setEntries_of ho hd hT.fits (wpAny_pure ?_)))
 have made:∀ (first:Value) (h1:Heap) (d1:Drawn) (p:Addr) (vs:List Value),h1.get? a=some o->Mode w es ep t vs a h1.objs.size p 0 (h1.push (itO first 0 a es.size ep)) first->vs.Perm (es.toList.map (·.2))->Kept s.heap h1->s.heap.objs.size<=h1.objs.size->(p < h1.objs.size\/p=0)->(s.heap.objs.size<=p\/p=0) ->
    wpAny (model prog w) A.in1 (do
     let ep' <-setEpoch a
     let r <-newFields "set_iterator" [first,rawInt 0,Value.ref a,rawInt (es.size:Nat),rawInt (ep':Nat)]
     ret r) (λ fin s'=>∃ r,fin=.done (.ret r)/\∃ T' x,s'.TypeIs r T'/\typeLookup (.type T') "__next__" = pure (some x)/\Q r s') E { s with heap:=h1,drawn:=d1 }:=λ first h1 d1 p vs ha md pm kp hs h3 h4=>by
  refine wpAny_bind (wpAny_setEpoch_of ha hd hT.fits ?_)
  unfold newFields
  refine wpAny_bind (wpAny_newObj_type ?_ (by first | size_fits | exact trivial))
  refine wpAny_pure ⟨_,rfl,"set_iterator",_,⟨_,Heap.get?_push_size _ rfl,rfl⟩,zbU.lookup,?_⟩
  refine h h1.objs.size p vs _ d1 ⟨⟨o,Heap.get?_push_of_some _ ha,hx,hd⟩,first,Heap.get?_push_size _ rfl,md⟩ pm (λ b ob q=>Heap.get?_push_of_some _ (kp b ob q)) hs h3 h4
 refine wpAny_bind (zn4 ho hd hT.fits ?_)
 cases hb:byT w with
 | true =>
  simp only [Bool.not_true,Bool.false_and,Bool.false_eq_true,if_false]
  refine wpAny_bind (wpAny_pure ?_)
  exact made (rawInt 0) s.heap s.drawn 0 _ ho (.inl ⟨hb,⟨0,rfl⟩,rfl⟩) ((zpI _ es).map _) (λ _ _ q=>q) (Nat.le_refl _) (.inr rfl) (.inr rfl)
 | false =>
  by_cases hsz:t.plain=false/\es.size > 1
  . obtain ⟨hp,hsz⟩:=hsz
    have:(!false && (!t.plain && decide (es.size > 1)))=true:=by rw [hp]; simp [hsz]
    rw [this]
    simp only [if_true]
    refine wpAny_bind (zmi es.size (List.range es.size) _ _ (by simp) λ ys d pm=>?_)
    refine wpAny_bind (wpAny_newTuple ?_ (by rw [List.length_map,pm.length_eq,List.length_range]; exact hz))
    have fm:∀ l:List Nat,(∀ j∈l,j < es.size)->l.filterMap (λ j=>(es[j]?).map (·.2))=l.map λ j=>(es[j]?.map (·.2)).getD .none:=λ l=>by
     induction l with
     | nil=>intro _; rfl
     | cons j r ih =>
       intro hl
       have hj:=hl j List.mem_cons_self
       rw [List.filterMap_cons,List.map_cons,ih λ x hx=>hl x (List.mem_cons_of_mem _ hx),Array.getElem?_eq_getElem hj]
       rfl
    have rng:(List.range es.size).filterMap (λ j=>(es[j]?).map (·.2))=es.toList.map (·.2):=by
     have e1:=filterMap_getElem?_range es
     rw [<-e1,List.map_filterMap]
    have ltS:s.heap.objs.size < (s.heap.push { cls:=.type "tuple",data:=.seq (ys.map λ (n:Nat)=>rawInt n).toArray }).objs.size:=by rw [Heap.size_push]; exact Nat.lt_succ_self _
    refine made (.ref s.heap.objs.size) _ d s.heap.objs.size (ys.filterMap λ j=>(es[j]?).map (·.2)) (Heap.get?_push_of_some _ ho) (.inr (.inl ⟨hb,rfl,Nat.ne_of_lt ltS,ys,Heap.get?_push_of_some _ (Heap.get?_push_size _ rfl),rfl,pm⟩)) ?_ (λ b ob q=>Heap.get?_push_of_some _ q) (Nat.le_of_lt ltS) (.inl ltS) (.inl (Nat.le_refl _))
    rw [<-rng]
    exact pm.filterMap _
  . have hz':t.plain=true\/es.size<=1:=by
     cases e:t.plain with
     | true=>exact .inl rfl
     | false=>exact .inr (Nat.le_of_not_lt λ z=>hsz ⟨e,z⟩)
    have hri:Rise t.place:=by
     rcases hz' with z | z
     . exact hT.rise z
     . refine Rise.small ?_
       have:=hT.fits
       simp only [SetTable.fits,Bool.and_eq_true,beq_iff_eq] at this
       rw [this.1]; exact z
    have:(!false && (!t.plain && decide (es.size > 1)))=false:=by
     rcases hz' with z | z
     . simp [z]
     . simp; omega
    rw [this]
    simp only [Bool.false_eq_true,if_false]
    refine wpAny_bind (wpAny_pure ?_)
    exact made (rawInt 0) s.heap s.drawn 0 _ ho (.inr (.inr ⟨hb,hT.led hb,hz',hri,rfl,rfl⟩)) (.refl _) (λ _ _ q=>q) (Nat.le_refl _) (.inr rfl) (.inr rfl)
theorem zn3 {es:Array (Int×Value)} {ep:Nat} {t:SetTable} {vs:List Value} {a it p:Addr} (hh:A.handled=none) (hf:t.fits es.size=true) (hne:a≠it):Walks prog w A it [it,a,p] [it] vs.length (λ i v=>vs[i]?=some v) (λ i h=>SIt w es ep t vs a it p i h) where
 sub:=λ b hb=>by simp at hb; simp [hb]
 frame:=λ i h h' st hk=>by
  obtain ⟨⟨o,ho,hx,hd⟩,first,hit,md⟩:=st
  refine ⟨⟨o,hk a (by simp) o ho,hx,hd⟩,first,hk it (by simp) _ hit,?_⟩
  rcases md with md | ⟨hb,e,hpi,ps,hps,r⟩ | md
  . exact .inl md
  . exact .inr (.inl ⟨hb,e,hpi,ps,hk p (by simp) _ hps,r⟩)
  . exact .inr (.inr md)
 item:=λ i s Q E hi st hQ=>by
  obtain ⟨v,hv⟩:∃ v,vs[i]?=some v:=⟨_,List.getElem?_eq_getElem hi⟩
  exact zqZ hf st hne hv λ h' st' sb=>hQ v h' s.toks hv st' λ b o hb e=>(sb.2 b (by simpa using hb)).trans e
 done:=λ s Q E st hQ=>zr4 hh hf st hne λ h' x=>hQ h' s.toks λ b o hb e=>x b o (by simpa using hb) e
 self:=λ i s Q E st hQ=>by
  obtain ⟨_,first,hit,_⟩:=st
  have hT:s.TypeIs (.ref it) "set_iterator" := ⟨_,hit,rfl⟩
  have sl:Slot "set_iterator" "__iter__" "set_iterator.__iter__" :=
    Slot.of (owner := "set_iterator") (n := "__iter__")
     (by rw [typeLookup_type,builtinLookup_eq_fast]; kernel_rfl) (by decide +kernel)
     (by decide +kernel) (by decide +kernel)
     (by first | exact .inl (by decide +kernel) | exact .inr (by decide +kernel))
     (by rw [isSubtype_type]; kernel_rfl)
  have en : entryFor table "set_iterator.__iter__" = some Builtin.«dict_keyiterator.__iter__» :=
    entryFor_alias (id' := "dict_keyiterator.__iter__") (by kernel_rfl) rfl
     (by decide +kernel) (by kernel_rfl)
  have ar:∀ a:Value,argsOk "set_iterator.__iter__" ⟨[a],[]⟩:=λ a=>by unfold argsOk; kernel_rfl
  refine wpAny_pyIter_slot hT sl (wpAny_call_entry sl hT en ?_ (ar _))
  show wpAny _ _ (ret (.ref it)) _ _ s
  exact wpAny_pure ⟨_,rfl,"set_iterator",_,hT,zbU.lookup,hQ⟩
end
end S6
end
section
namespace S6
open PySem PyProof.Rows
section
variable {prog:Program} {w:World} {A:Around} {E:Value->Shared->Prop} {s:Shared}
theorem zpY {r:Addr} {Q:Bool->Shared->Prop} (hT:s.TypeIs (.ref r) "set") (h:Q false s):wpAny (model prog w) A (Builtin.List.listLengthHint (.ref r)) Q E s:=by
 unfold Builtin.List.listLengthHint
 refine wpAny_bind (wpAny_specialOf hT F.slot_set_len.lookup ?_)
 generalize hid:("set.__len__" : String)=id0
 wp_delta
 rw [show splitId id0=some ("set","__len__") from by subst hid; decide +kernel]
 subst hid
 refine wpAny_bind (wpAny_isInstance (T := "set") (b:=true) hT (by rw [isSubtype_type]; kernel_rfl) ?_)
 refine wpAny_ite_split (λ hab=>absurd hab (by decide)) (λ _=>?_)
 refine wpAny_ite_split (λ _=>?_) (λ hab=>absurd (by decide +kernel) hab)
 exact wpAny_bind (wpAny_typeOf hT (wpAny_pure h))
theorem zno {P:Nat->Value->Prop} {vs:List Value} {acc:Array Value} (hP:∀ i v,P i v->vs[i]?=some v) (h:ItemsOf P acc vs.length):acc.toList=vs:=by
 refine List.ext_getElem? λ i=>?_
 cases e:acc.toList[i]? with
 | none =>
  rw [List.getElem?_eq_none_iff,Array.length_toList,h.1] at e
  rw [List.getElem?_eq_none_iff.mpr e]
 | some v=>exact (hP i v (h.2 i v (by rw [<-Array.getElem?_toList]; exact e))).symm
variable {K:Type} [DecidableEq K] {knd:KeyKind prog w K}
theorem zk9 {a:Addr} {ks:List K} {R:List Value->Shared->Prop} (hh:A.handled=none) (hS:SetP knd s.heap a ks)
   (h:∀ h' tk d (vs:List Value) (ys:List K),ys.Perm ks->Paired (λ v k=>knd.is k v=true) vs ys->Kept s.heap h'->R vs { s with heap:=h',toks:=tk,drawn:=d }):wpAny (model prog w) A (collect (.ref a)) R E s:=by
 obtain ⟨ks',pk,o,es,ep,t,ho,hx,hd,hel,hnd,hb,hT⟩:=hS
 have hl:es.size=ks'.length:=by rw [<-Array.length_toList]; exact hel.length
 have hz:es.size<=sizeLine:=by rw [hl]; exact fits_of_scanBound hb
 have pv:Paired (λ v k=>knd.is k v=true) (es.toList.map (·.2)) ks':=by
   clear hl hz hd hT
   generalize es.toList=l at hel
   clear hb hnd pk
   induction hel with
   | nil=>exact .nil
   | cons r _ ih=>exact .cons r.1.1 ih
 unfold collect
 refine wpAny_bind (wpAny_runValue (codeAny_builtin F.entry_proto_collect ?_))
 rw [Around.under_plainId F.plain_proto_collect _]
 show wpAny _ A.in1 (newList [] >>= λ l=>again (.builtin "list.__iadd__" ⟨[l,.ref a],[]⟩)) _ _ s
 refine wpAny_bind (wpAny_newObj_type ?_)
 refine wpAny_pure ⟨plainId_quiet F.plain_list_iadd _,codeAny_builtin F.entry_list_iadd ?_⟩
 rw [Around.under_plainId F.plain_list_iadd _]
 generalize hg0:s.heap.push { cls:=.type "list",data:=.seq ([]:List Value).toArray }=g0
 have k0:Kept s.heap g0:=λ b ob q=>by rw [<-hg0]; exact Heap.get?_push_of_some _ q
 have l0:g0.get? s.heap.objs.size=some { cls:=.type "list",data:=.seq #[] }:=by rw [<-hg0]; exact Heap.get?_push_size _ rfl
 have hsa:s.heap.objs.size≠a:=Nat.ne_of_gt (Heap.lt_size ho)
 show wpAny _ A.in1 (Builtin.List.listExtendWith (.ref s.heap.objs.size) (.ref a) (.ref s.heap.objs.size)) _ _ _
 have fin:∀ (vs:List Value),vs.Perm (es.toList.map (·.2))->∀ (h':Heap) (tk:Nat) (d:Drawn) (acc:Array Value) (c:Nat),Kept s.heap h'->h'.get? s.heap.objs.size=some { cls:=.type "list",dict:=none,data:=.seq acc c,slots:=#[] }->acc.toList=vs ->
     wpAny (model prog w) A (do
       match (<-load s.heap.objs.size).data with
       | .seq xs _=>pure xs.toList
       | _=>unsupported "internal:collect") R E { s with heap:=h',toks:=tk,drawn:=d }:=λ vs pm h' tk d acc c kp e ea=>by
   refine wpAny_bind (wpAny_load e (wpAny_pure ?_))
   obtain ⟨ys,py,hy⟩:=zg8 (ea ▸ pm:acc.toList.Perm (es.toList.map (·.2))) pv
   exact h h' tk d _ ys (py.trans pk) hy kp
 unfold Builtin.List.listExtendWith
 have ho0:g0.get? a=some o:=k0 a o ho
 have hT0:Shared.TypeIs { s with heap:=g0 } (.ref a) "set" := ⟨o,ho0,hx.1⟩
 refine wpAny_bind (wpAny_typeOf hT0 ?_)
 have n1:Builtin.List.listSameRef (.ref s.heap.objs.size) (.ref a)=false:=by simp [Builtin.List.listSameRef,hsa]
 have n2:(Value.type "set" == Value.type "list")=false:=by decide
 have n3:(Value.type "set" == Value.type "tuple")=false:=by decide
 simp only [n1,n2,n3,Bool.or_false,Bool.false_eq_true,if_false]
 refine wpAny_bind (znb (s:={ s with heap:=g0 }) ho0 hx hd hT hz λ it p vs h1 d st pm k1 hit hp1 hp2=>?_)
 have sz0:s.heap.objs.size < g0.objs.size:=Heap.lt_size l0
 have hSf:s.heap.objs.size∉[it,a,p]:=by
   intro z
   rcases List.mem_cons.mp z with z | z
   . have:g0.objs.size<=it:=hit
     omega
   . rcases List.mem_cons.mp z with z | z
     . exact hsa z
     . have z':=List.mem_singleton.mp z
       rcases hp2 with q | q
       . have:g0.objs.size<=p:=q
         omega
       . have:=Heap.lt_size ho
         rw [z',q] at this
         exact absurd this (Nat.not_lt_zero _)
 have hne:a≠it:=Nat.ne_of_lt (Nat.lt_of_lt_of_le (Heap.lt_size ho0) hit)
 have l1:=k1 _ _ l0
 have W:=zn3 (prog:=prog) (w:=w) (A:=A.in1) (es:=es) (ep:=ep) (t:=t) (vs:=vs) (a:=a) (it:=it) (p:=p) hh hT.fits hne
 have hvl:vs.length<=sizeLine:=by rw [pm.length_eq,List.length_map,Array.length_toList]; exact hz
 have key:∀ (h2:Heap) (c1:Nat),SIt w es ep t vs a it p 0 h2->(∀ b ob,b≠s.heap.objs.size->s.heap.get? b=some ob->h2.get? b=some ob)->h2.get? s.heap.objs.size=some { cls:=.type "list",data:=.seq #[] c1 } ->
     codeAny (model prog w) A (.builtin "list.extend.loop" ⟨[.ref s.heap.objs.size,.ref it,.ref s.heap.objs.size],[]⟩)
       (λ q s'=>∃ (h':Heap) (tk:Nat) (acc':Array Value) (c':Nat),q=.ok (.ret (.ref s.heap.objs.size))/\s'={ s with heap:=h',toks:=tk,drawn:=d }/\Kept s.heap h'/\h'.get? s.heap.objs.size=some { cls:=.type "list",dict:=none,data:=.seq acc' c',slots:=#[] }/\acc'.toList=vs)
       { s with heap:=h2,drawn:=d }:=λ h2 c1 st2 k2 l2=>by
   refine codeAny_extend_loopS W.toS hvl s.heap.objs.size hSf (.ref s.heap.objs.size) vs.length 0 _ #[] c1 (by omega) (Nat.zero_le _) st2 l2 (ItemsOf.nil _) λ s' acc' c' hm hS' hacc=>?_
   obtain ⟨h3,g3,d3,tk3,os3⟩:=s'
   have eg:g3=s.gens:=hm.gens
   have ed:d3=d:=hm.drawn
   have eo:os3=s.os:=hm.os
   subst eg ed eo
   refine ⟨h3,tk3,acc',c',rfl,rfl,λ b ob q=>?_,hS',zno (λ _ _ z=>z) hacc⟩
   have hb1:b≠s.heap.objs.size:=Nat.ne_of_lt (Heap.lt_size q)
   refine hm.heap b ob (λ z=>?_) (k2 b ob hb1 q)
   rcases List.mem_cons.mp z with z | z
   . exact hb1 z
   . exact absurd (List.mem_singleton.mp z) (Nat.ne_of_lt (Nat.lt_of_lt_of_le (Heap.lt_size (k0 b ob q)) hit))
 have run:∀ (h2:Heap) (c1:Nat),SIt w es ep t vs a it p 0 h2->(∀ b ob,b≠s.heap.objs.size->s.heap.get? b=some ob->h2.get? b=some ob)->h2.get? s.heap.objs.size=some { cls:=.type "list",data:=.seq #[] c1 }->∀ (Z:Result->Shared->Prop),
     (∀ (h':Heap) (tk:Nat) (acc':Array Value) (c':Nat),Kept s.heap h'->h'.get? s.heap.objs.size=some { cls:=.type "list",dict:=none,data:=.seq acc' c',slots:=#[] }->acc'.toList=vs->Z (.ok (.ret (.ref s.heap.objs.size))) { s with heap:=h',toks:=tk,drawn:=d }) ->
     codeAny (model prog w) A (.builtin "list.extend.loop" ⟨[.ref s.heap.objs.size,.ref it,.ref s.heap.objs.size],[]⟩) Z { s with heap:=h2,drawn:=d }:=λ h2 c1 st2 k2 l2 Z hZ =>
   codeAny_mono (key h2 c1 st2 k2 l2) λ q s' y=>by
     obtain ⟨h',tk,acc',c',rfl,rfl,kp,e,ea⟩:=y
     exact hZ h' tk acc' c' kp e ea
 refine wpAny_bind (wpAny_holding (zpY (s:={ s with heap:=h1,drawn:=d }) ⟨o,k1 a o ho0,hx.1⟩ ?_))
 have kk:∀ b ob,b≠s.heap.objs.size->s.heap.get? b=some ob->h1.get? b=some ob:=λ b ob _ q=>k1 b ob (k0 b ob q)
 refine wpAny_ite_split (λ _=>?_) (λ _=>wpAny_pure ⟨plainId_quiet F.plain_extend_loop _,run h1 0 st kk l1 _ λ h' tk acc' c' kp e ea=>fin vs pm h' tk d acc' c' kp e ea⟩)
 refine wpAny_bind (wpAny_rule (wpAny_bind ?_))
 show wpAny _ _ (updateSeq s.heap.objs.size (·.push .none) >>= λ _=>updateSeq s.heap.objs.size (·.pop)) _ _ _
 refine wpAny_bind (wpAny_updateSeq l1 rfl ?_)
 have l2:=Heap.get?_update_self (Obj.mapSeq (·.push Value.none)) l1 rfl
 refine wpAny_updateSeq (hz:=by seq_fits) l2 rfl ?_
 have l3:=Heap.get?_update_self (Obj.mapSeq (·.pop)) l2 rfl
 refine wpAny_pure ⟨plainId_quiet F.plain_extend_loop _,run _ _ (W.frame 0 _ _ st λ b hb ob q=>?_) (λ b ob hb q=>?_) l3 _ λ h' tk acc' c' kp e ea=>fin vs pm h' tk d acc' c' kp e ea⟩
 . have hbS:b≠s.heap.objs.size:=λ z=>hSf (z ▸ hb)
   exact (Heap.get?_update_other _ _ (Ne.symm hbS)).trans ((Heap.get?_update_other _ _ (Ne.symm hbS)).trans q)
 . exact (Heap.get?_update_other _ _ (Ne.symm hb)).trans ((Heap.get?_update_other _ _ (Ne.symm hb)).trans (kk b ob hb q))
end
end S6
end
section
namespace L2
open PySem PySem.Spec PyProof.Rows
abbrev Key:=Sum Int Str
def zh6:Key->Value->Bool
 | .inl k,v=>Value.isInt k v
 | .inr x,v=>Value.isStrOf x v
def keyH (w:World):Key->Int
 | .inl k=>hashInt k
 | .inr x=>hashStr w x
theorem zaT:∀ {k:Key} {v:Value},zh6 k v=true->(∃ i t,k=Sum.inl i/\v=Value.int i t)\/(∃ x t,k=Sum.inr x/\v=Value.str x t)
 | .inl i,v,h=>by
  obtain ⟨t,e⟩:=Value.isInt_shape (k:=i) (v:=v) h
  exact .inl ⟨i,t,rfl,e⟩
 | .inr x,v,h=>by
  obtain ⟨t,e⟩:=Value.isStrOf_shape (x:=x) (v:=v) h
  exact .inr ⟨x,t,rfl,e⟩
theorem zoJ (i:Int) (t:Tok):zh6 (.inl i) (.int i t)=true:=by simp [zh6,Value.isInt]
theorem zoI (x:Str) (t:Tok):zh6 (.inr x) (.str x t)=true:=by simp [zh6,Value.isStrOf]
theorem zso (a b:Int):decide ((Sum.inl a:Key)=Sum.inl b)=(a == b):=by
 by_cases e:a=b
 . subst e; simp
 . have h:¬ (Sum.inl a:Key)=Sum.inl b:=λ q=>e (Sum.inl.inj q)
   rw [decide_eq_false h]
   exact (beq_eq_false_iff_ne.mpr e).symm
theorem zqw (a b:Str):decide ((Sum.inr a:Key)=Sum.inr b)=decide (a=b):=by
 by_cases e:a=b
 . subst e; simp
 . have h:¬ (Sum.inr a:Key)=Sum.inr b:=λ q=>e (Sum.inr.inj q)
   rw [decide_eq_false h,decide_eq_false e]
theorem zsn (a:Int) (b:Str):decide ((Sum.inl a:Key)=Sum.inr b)=false:=decide_eq_false (λ q=>nomatch q)
theorem zsm (a:Str) (b:Int):decide ((Sum.inr a:Key)=Sum.inl b)=false:=decide_eq_false (λ q=>nomatch q)
def zaE (prog:Program) (w:World):PySem.KeyKind prog w Key where
 is:=zh6
 hash:=keyH w
 inj:=λ v a b ha hb=>by
  rcases zaT ha with ⟨i,t,rfl,rfl⟩ | ⟨x,t,rfl,rfl⟩
  . rcases zaT hb with ⟨j,u,rfl,e⟩ | ⟨y,u,rfl,e⟩
    . injection e with e1 _; rw [e1]
    . exact nomatch e
  . rcases zaT hb with ⟨j,u,rfl,e⟩ | ⟨y,u,rfl,e⟩
    . exact nomatch e
    . injection e with e1 _; rw [e1]
 byValue:=λ k v h=>by
  rcases zaT h with ⟨i,t,rfl,rfl⟩ | ⟨x,t,rfl,rfl⟩ <;> rfl
 pyHash:=λ hv h=>by
  rcases zaT hv with ⟨i,t,rfl,rfl⟩ | ⟨x,t,rfl,rfl⟩
  . exact wpAny_pyHash_int h
  . exact wpAny_pyHash_str h
 eqBool:=λ hu hv h=>by
  rcases zaT hu with ⟨i,t,rfl,rfl⟩ | ⟨x,t,rfl,rfl⟩
  . rcases zaT hv with ⟨j,u,rfl,rfl⟩ | ⟨y,u,rfl,rfl⟩
    . rw [zso] at h; exact wpAny_eqBool_int h
    . rw [zsn] at h; exact SeqAt.EqAt.int_str i t y u _ _ _ _ h
  . rcases zaT hv with ⟨j,u,rfl,rfl⟩ | ⟨y,u,rfl,rfl⟩
    . rw [zsm] at h; exact SeqAt.EqAt.str_int x t j u _ _ _ _ h
    . rw [zqw] at h; exact wpAny_eqBool_str h
 «strs» := fun k x t v h => by
  rcases zaT h with ⟨i,u,rfl,e⟩ | ⟨y,u,rfl,e⟩
  . exact nomatch e
  . injection e with e1 _
    subst e1
    cases v <;> rfl
theorem zhj (prog:Program) (w:World) (i:Int) (t:Tok):(zaE prog w).is (.inl i) (.int i t)=true:=zoJ i t
theorem zhi (prog:Program) (w:World) (x:Str) (t:Tok):(zaE prog w).is (.inr x) (.str x t)=true:=zoI x t
end L2
namespace L2
open PySem PySem.Spec PyProof.Rows
inductive V where
 | non | bl (b:Bool) | int (i:Int) | str (x:Str) | byt (b:Array UInt8) | flt (b:UInt64) | ref (a:Addr) | ty (n:String)
 deriving DecidableEq
def RelV:V->Value->Prop
 | .non,u=>u=Value.none
 | .bl b,u=>u=Value.bool b
 | .int i,u=>∃ t,u=Value.int i t
 | .str x,u=>∃ t,u=Value.str x t
 | .byt b,u=>∃ t,u=Value.bytes b t
 | .flt b,u=>∃ t,u=Value.float b t
 | .ref a,u=>u=Value.ref a
 | .ty n,u=>u=Value.type n
abbrev Vals:List V->List Value->Prop:=Paired RelV
theorem Vals.length {xs:List V} {us:List Value} (r:Vals xs us):xs.length=us.length:=Paired.length r
theorem Vals.get:∀ {xs:List V} {us:List Value} {i:Nat} {x:V},Vals xs us->xs[i]?=some x->∃ u,us[i]?=some u/\RelV x u
 | _,_,_,_,.nil,e=>by simp at e
 | _,_,0,_,.cons r _,e=>by simp at e; subst e; exact ⟨_,rfl,r⟩
 | _,_,i+1,x,.cons _ t,e=>by
  obtain ⟨u,h1,h2⟩:=Vals.get (i:=i) (x:=x) t (by simpa using e)
  exact ⟨u,by simpa using h1,h2⟩
theorem Vals.set {x:V} {u:Value} (r:RelV x u):∀ {xs:List V} {us:List Value} (i:Nat),Vals xs us->Vals (xs.set i x) (us.set i u)
 | _,_,_,.nil=>.nil
 | _,_,0,.cons _ t=>.cons r t
 | _,_,i+1,.cons q t=>.cons q (Vals.set r i t)
theorem Vals.append:∀ {xs ys:List V} {us ws:List Value},Vals xs us->Vals ys ws->Vals (xs++ys) (us++ws)
 | _,_,_,_,.nil,s=>s
 | _,_,_,_,.cons r t,s=>.cons r (Vals.append t s)
theorem Vals.take:∀ {xs:List V} {us:List Value} (n:Nat),Vals xs us->Vals (xs.take n) (us.take n)
 | _,_,0,_=>.nil
 | _,_,_+1,.nil=>.nil
 | _,_,n+1,.cons r t=>.cons r (Vals.take n t)
theorem Vals.drop:∀ {xs:List V} {us:List Value} (n:Nat),Vals xs us->Vals (xs.drop n) (us.drop n)
 | _,_,0,r=>r
 | _,_,_+1,.nil=>.nil
 | _,_,n+1,.cons _ t=>Vals.drop n t
def RelO:Option V->Option Value->Prop
 | some v,some u=>RelV v u
 | none,none=>True
 | _,_=>False
def KV {κ:Type}:List (κ×V)->List (κ×Value)->Prop:=Paired λ (p:κ×V) (q:κ×Value)=>p.1=q.1/\RelV p.2 q.2
def kV:Key->V
 | .inl i=>.int i
 | .inr x=>.str x
inductive HO where
 | lst (xs:List V)
 | tup (xs:List V)
 | dK (kvs:List (Key×V)) | dT (kvs:List (List Key×V))
 | set (S:Int->Bool) (n:Nat)
 | ins (C dx:Addr) (fs:List (Str×V))
 | own (x:Addr)
 | xd (fs:List (Str×V))
 | met (f x:Addr)
 | rng (lo hi:Int)
 | frz (o:Obj) (u:HO)
 | tbl (ps:Array Value)
 | ext (φ:Heap->Prop)
abbrev Hp:=Addr->Option HO
def upd (H:Hp) (a:Addr) (o:HO):Hp:=λ b=>if b=a then some o else H b
theorem zab {H:Hp} {a:Addr} {o:HO}:upd H a o a=some o:=by unfold upd; rw [if_pos rfl]
theorem zae {H:Hp} {a b:Addr} {o:HO} (h:b≠a):upd H a o b=H b:=by unfold upd; rw [if_neg h]
theorem ziL {H:Hp} {a:Addr} {o u:HO}:upd (upd H a o) a u=upd H a u:=by
 funext b; unfold upd; split <;> rfl
theorem zbA {H:Hp} {a b:Addr} {o u:HO} (h:H a=some o) (h':H b=some u) (d:o≠u):a≠b:=by
 intro e; subst e; rw [h] at h'; exact d (Option.some.inj h')
theorem zaf {H:Hp} {a b:Addr} {o:HO} (h:H a=some o) (h':H b=none):a≠b:=by
 intro e; subst e; rw [h] at h'; cases h'
section
variable (P:Program) (w:World)
def zbP (H:Hp) (h:Heap) (a:Addr):HO->Prop
 | .lst xs=>xs.length<=sizeLine/\∃ (its:List Value) (n:Nat),Vals xs its/\h.get? a=some { cls:=.type "list",data:=.seq its.toArray n }
 | .tup xs=>xs.length<=sizeLine/\∃ its:List Value,Vals xs its/\IsTup h a its.toArray
 | .dK kvs=>kvs.length<=sizeLine/\(a == sysModules)=false/\∃ vs,KV kvs vs/\h.DictOf (zaE P w) a vs
 | .dT kvs=>kvs.length<=sizeLine/\(a == sysModules)=false/\∃ xs:List (List Key×Addr×Value),
  Paired (λ (p:List Key×V) (q:List Key×Addr×Value)=>p.1=q.1/\H q.2.1=some (.tup (p.1.map kV))/\RelV p.2 q.2.2) kvs xs /\
  ∃ o es ep,h.get? a=some o/\o.ExactDict/\o.data=.dict es ep/\es.toList=xs.map (entryOfKey (tupleKind (zaE P w)))/\(xs.map (·.1)).Nodup
 | .set S n=>h.SetOf (intKind P w) a S n
 | .ins C dx fs=>H dx=some (.own a)/\fs.length<=1000/\dx≠a/\h.get? a=some (PySem.W.instObj C dx) /\
  ∃ mA,h.Ns1 dx mA/\(∀ f,RelO (fs.lookup f) (mA f))/\PySem.Within mA (fs.map (·.1))
 | .own _=>∃ o,h.get? a=some o
 | .xd fs=>∃ mA,h.Ns1 a mA/\∀ f,RelO (fs.lookup f) (mA f)
 | .rng lo hi=>∃ t u v,h.get? a=some { cls:=.type "range",data:=.fields #[.int lo t,.int hi u,.int 1 v] }
 | .frz o u=>h.get? a=some o/\zbP H h a u
 | .tbl ps=>h.get? a=some { cls:=.none,data:=.fields ps }
 | .met f x=>h.get? a=some (PySem.W.methodObj (.ref f) (.ref x))
 | .ext φ=>φ h/\(∃ o,h.get? a=some o)/\∀ h1 h2:Heap,φ h1->(∀ o,h1.get? a=some o->h2.get? a=some o)->φ h2
def HOk (H:Hp) (h:Heap):Prop:=∀ a o,H a=some o->zbP P w H h a o
end
section
variable {P:Program} {w:World} {H H':Hp} {h h':Heap} {a:Addr} {o:HO}
theorem zbP.lt (x:zbP P w H h a o):a < h.objs.size:=by
 cases o with
 | lst xs=>obtain ⟨_,_,_,_,e⟩:=x; exact Heap.lt_size e
 | tup xs=>obtain ⟨_,_,_,p⟩:=x; exact p.lt
 | dK kvs=>obtain ⟨_,_,_,_,o,_,_,e,_⟩:=x; exact Heap.lt_size e
 | dT kvs=>obtain ⟨_,_,_,_,o,_,_,e,_⟩:=x; exact Heap.lt_size e
 | set S n=>obtain ⟨o,_,_,_,e,_⟩:=x; exact Heap.lt_size e
 | ins C dx fs=>obtain ⟨_,_,_,e,_⟩:=x; exact Heap.lt_size e
 | own y=>obtain ⟨_,e⟩:=x; exact Heap.lt_size e
 | xd fs=>obtain ⟨_,⟨_,_,_,e,_⟩,_⟩:=x; exact Heap.lt_size e
 | rng lo hi=>obtain ⟨_,_,_,e⟩:=x; exact Heap.lt_size e
 | frz ob u=>obtain ⟨e,_⟩:=x; exact Heap.lt_size e
 | tbl ps=>exact Heap.lt_size (show h.get? a=some _ from x)
 | met f y=>exact Heap.lt_size (show h.get? a=some _ from x)
 | ext φ=>obtain ⟨_,⟨_,e⟩,_⟩:=x; exact Heap.lt_size e
theorem Paired.mapP {α β:Type} {F G:α->β->Prop}:∀ {l₁:List α} {l₂:List β},Paired F l₁ l₂->(∀ a b,F a b->G a b)->Paired G l₁ l₂
 | _,_,.nil,_=>.nil
 | _,_,.cons r t,f=>.cons (f _ _ r) (Paired.mapP t f)
theorem zbP.stay (x:zbP P w H h a o) (k:∀ b u,(b=a\/H b=some (.own a))->h.get? b=some u->h'.get? b=some u)
  (ho:∀ b,H b=some (.own a)->H' b=some (.own a)) (ht:∀ b xs,H b=some (.tup xs)->H' b=some (.tup xs)):zbP P w H' h' a o:=by
 induction o with
 | lst xs=>obtain ⟨z,its,n,r,e⟩:=x; exact ⟨z,its,n,r,k _ _ (.inl rfl) e⟩
 | tup xs=>obtain ⟨z,its,r,ob,e,c⟩:=x; exact ⟨z,its,r,ob,k _ _ (.inl rfl) e,c⟩
 | dK kvs=>obtain ⟨z,y,vs,r,ob,es,ep,e,c⟩:=x; exact ⟨z,y,vs,r,ob,es,ep,k _ _ (.inl rfl) e,c⟩
 | dT kvs =>
  obtain ⟨z,y,xs,r,ob,es,ep,e,c⟩:=x
  exact ⟨z,y,xs,Paired.mapP r λ p q z=>⟨z.1,ht _ _ z.2.1,z.2.2⟩,ob,es,ep,k _ _ (.inl rfl) e,c⟩
 | set S n=>obtain ⟨ob,es,ep,t,e,c⟩:=x; exact ⟨ob,es,ep,t,k _ _ (.inl rfl) e,c⟩
 | ins C dx fs =>
  obtain ⟨d,z,ne,e,mA,⟨od,es,ep,e2,c⟩,r⟩:=x
  exact ⟨ho _ d,z,ne,k _ _ (.inl rfl) e,mA,⟨od,es,ep,k _ _ (.inr d) e2,c⟩,r⟩
 | own y=>obtain ⟨ob,e⟩:=x; exact ⟨ob,k _ _ (.inl rfl) e⟩
 | xd fs=>obtain ⟨mA,⟨od,es,ep,e,c⟩,r⟩:=x; exact ⟨mA,⟨od,es,ep,k _ _ (.inl rfl) e,c⟩,r⟩
 | rng lo hi=>obtain ⟨t,u,v,e⟩:=x; exact ⟨t,u,v,k _ _ (.inl rfl) e⟩
 | frz ob u ih=>obtain ⟨e,q⟩:=x; exact ⟨k _ _ (.inl rfl) e,ih q⟩
 | tbl ps =>
  have e:h.get? a=some { cls:=.none,data:=.fields ps }:=x
  show h'.get? a=some { cls:=.none,data:=.fields ps }
  exact k a _ (.inl rfl) e
 | met f y =>
  have e:h.get? a=some (PySem.W.methodObj (.ref f) (.ref y)):=x
  show h'.get? a=some (PySem.W.methodObj (.ref f) (.ref y))
  exact k a _ (.inl rfl) e
 | ext φ=>obtain ⟨p,⟨o,e⟩,st⟩:=x; exact ⟨st _ _ p λ o q=>k _ _ (.inl rfl) q,⟨o,k _ _ (.inl rfl) e⟩,st⟩
theorem HOk.lt (x:HOk P w H h) (e:H a=some o):a < h.objs.size:=(x a o e).lt
theorem HOk.fresh (x:HOk P w H h) (e:h.objs.size<=a):H a=none:=by
 cases q:H a with
 | none=>rfl
 | some u=>exact absurd (Nat.lt_of_lt_of_le (x.lt q) e) (Nat.lt_irrefl _)
theorem HOk.kept (x:HOk P w H h) (k:∀ b u,h.get? b=some u->h'.get? b=some u):HOk P w H h':=λ a o e =>
 (x a o e).stay (λ b u _ q=>k b u q) (λ _ q=>q) λ _ _ q=>q
theorem HOk.laid (x:HOk P w H h) (k:∀ b u,h.get? b=some u->h'.get? b=some u) (hp:h.objs.size<=a) (new:zbP P w (upd H a o) h' a o):HOk P w (upd H a o) h':=λ b u e=>by
 have hn:=x.fresh hp
 by_cases hb:b=a
 . subst hb; rw [zab] at e; cases e; exact new
 . rw [zae hb] at e
   exact (x b u e).stay (λ c v _ q=>k c v q) (λ c q=>by rw [zae (zaf q hn)]; exact q) λ c xs q=>by rw [zae (zaf q hn)]; exact q
end
def Rd (H:Hp) (a:Addr) (u:HO):Prop:=H a=some u\/∃ o,H a=some (.frz o u)
theorem Rd.of {H:Hp} {a:Addr} {u:HO} (h:H a=some u):Rd H a u:=.inl h
theorem Rd.ok {P:Program} {w:World} {H:Hp} {h:Heap} {a:Addr} {u:HO} (r:Rd H a u) (x:HOk P w H h):zbP P w H h a u:=by
 rcases r with r | ⟨o,r⟩
 . exact x a u r
 . obtain ⟨_,q⟩:=x a _ r
   exact q
def Mut:Option HO->Prop
 | some (.lst _)=>True
 | some (.dK _)=>True
 | some (.dT _)=>True
 | some (.set _ _)=>True
 | some (.ins _ _ _)=>True
 | some (.ext _)=>True
 | _=>False
section
variable {P:Program} {w:World} {H:Hp} {h h':Heap} {x e:Addr} {o':HO}
theorem HOk.write (ok:HOk P w H h) (mu:Mut (H x)) (he:e=x\/H e=some (.own x)) (k:∀ b u,b≠e->h.get? b=some u->h'.get? b=some u) (heo:∃ u,h'.get? e=some u)
   (new:zbP P w (upd H x o') h' x o'):HOk P w (upd H x o') h':=λ b u q=>by
 have nown:∀ c y,H c=some (.own y)->c≠x:=λ c y r z=>by subst z; rw [r] at mu; exact mu
 have ntup:∀ c xs,H c=some (.tup xs)->c≠x:=λ c xs r z=>by subst z; rw [r] at mu; exact mu
 by_cases hb:b=x
 . subst hb; rw [zab] at q; cases q; exact new
 . rw [zae hb] at q
   by_cases hbe:b=e
   . have q':H b=some (.own x):=by
       rcases he with z | z
       . exact absurd (hbe.trans z) hb
       . rw [hbe]; exact z
     rw [q] at q'; cases q'
     obtain ⟨v,hv⟩:=heo
     exact ⟨v,by rw [hbe]; exact hv⟩
   . refine (ok b u q).stay (λ c v hc r=>k c v ?_ r) (λ c r=>by rw [zae (nown c b r)]; exact r) λ c xs r=>by rw [zae (ntup c xs r)]; exact r
     rcases hc with rfl | hc
     . exact hbe
     . rintro rfl
       rcases he with z | z
       . exact nown c b hc z
       . rw [hc] at z; cases z; exact hb rfl
end
structure Un (fs ex:List Addr) (H H':Hp) (h h':Heap):Prop where
 keep:∀ b o,h.get? b=some o->H b=none->b∉fs->b∉ex->h'.get? b=some o
 slot:∀ b o,h.get? b=some o->H b=none->b∈fs->b∉ex->∃ sl,h'.get? b=some { o with slots:=sl }
 free:∀ b o,h.get? b=some o->H b=none->b∉ex->H' b=none
 there:∀ b o,h.get? b=some o->b∉ex->∃ o',h'.get? b=some o'
 tups:∀ b xs,H b=some (.tup xs)->H' b=some (.tup xs)
 frzs:∀ b o u,H b=some (.frz o u)->H' b=some (.frz o u)
 tbls:∀ b ps,H b=some (.tbl ps)->∃ more,H' b=some (.tbl (ps++more))
section
variable {fs fs' ex ex':List Addr} {H H1 H2:Hp} {h h1 h2 h':Heap} {a x e:Addr} {o:HO}
theorem Un.any (u:Un fs ex H H1 h h1) {b:Addr} {ob:Obj} (q:h.get? b=some ob) (n:H b=none) (hx:b∉ex):∃ sl,h1.get? b=some { ob with slots:=sl }:=by
 by_cases hb:b∈fs
 . exact u.slot b ob q n hb hx
 . exact ⟨ob.slots,u.keep b ob q n hb hx⟩
theorem Un.kept (k:∀ b u,h.get? b=some u->h'.get? b=some u):Un fs ex H H h h' :=
 ⟨λ b ob q _ _ _=>k b ob q,λ b ob q _ _ _=>⟨ob.slots,k b ob q⟩,λ _ _ _ n _=>n,λ b ob q _=>⟨ob,k b ob q⟩,λ _ _ q=>q,λ _ _ _ q=>q,λ _ ps q=>⟨#[],by rw [q]; simp⟩⟩
theorem Un.refl:Un fs ex H H h h:=Un.kept λ _ _ q=>q
theorem Un.laid (k:∀ b u,h.get? b=some u->h'.get? b=some u) (hp:h.objs.size<=a) (hn:H a=none):Un fs ex H (upd H a o) h h' where
 keep:=λ b u q _ _ _=>k b u q
 slot:=λ b u q _ _ _=>⟨u.slots,k b u q⟩
 free:=λ b u q n _=>by rw [zae (Nat.ne_of_lt (Nat.lt_of_lt_of_le (Heap.lt_size q) hp))]; exact n
 there:=λ b u q _=>⟨u,k b u q⟩
 tups:=λ b xs q=>by rw [zae (zaf q hn)]; exact q
 frzs:=λ b u xs q=>by rw [zae (zaf q hn)]; exact q
 tbls:=λ b ps q=>⟨#[],by rw [zae (zaf q hn),q]; simp⟩
theorem Un.write (mu:Mut (H x)) (he:e=x\/H e=some (.own x)) (k:∀ b u,b≠e->h.get? b=some u->h'.get? b=some u) (heo:∃ u,h'.get? e=some u):Un fs ex H (upd H x o) h h':=by
 have hx:∀ b,H b=none->b≠x:=λ b n z=>by subst z; rw [n] at mu; exact mu
 have hb:∀ b,H b=none->b≠e:=λ b n z=>by
   subst z
   rcases he with r | r
   . exact hx b n r
   . rw [n] at r; cases r
 have hm:∀ b u,H b=some u->¬ Mut (some u)->b≠x:=λ b u q nm z=>by subst z; rw [q] at mu; exact nm mu
 refine ⟨λ b u q n _ _=>k b u (hb b n) q,λ b u q n _ _=>⟨u.slots,k b u (hb b n) q⟩,λ b u q n _=>by rw [zae (hx b n)]; exact n,λ b u q _=>?_,
   λ b xs q=>by rw [zae (hm b _ q λ z=>z)]; exact q,λ b u xs q=>by rw [zae (hm b _ q λ z=>z)]; exact q,λ b ps q=>⟨#[],by rw [zae (hm b _ q λ z=>z),q]; simp⟩⟩
 by_cases hbe:b=e
 . subst hbe; exact heo
 . exact ⟨u,k b u hbe q⟩
end
def trk (h:Heap) (H:Hp):List Addr:=(List.range h.objs.size).filter λ a=>(H a).isSome
def hidT (h:Heap) (H:Hp):Heap:=PySem.W.hideAll h (trk h H)
theorem zoS (h:Heap) (H:Hp):(hidT h H).objs.size=h.objs.size:=PySem.W.hideAll_size _ _
theorem zpZ {h:Heap} {H:Hp} {b:Addr} {o:Obj} (e:h.get? b=some o) (n:H b=none):(hidT h H).get? b=some o :=
 PySem.W.hideAll_get _ e λ hm=>by
  have q:(H b).isSome=true:=(List.mem_filter.mp hm).2
  rw [n] at q; simp at q
theorem zre {h:Heap} {H:Hp} {b:Addr} {o:Obj} (e:(hidT h H).get? b=some o):h.get? b=some o/\H b=none:=by
 have e':h.get? b=some o:=PySem.W.of_hideAll (trk h H) e
 refine ⟨e',?_⟩
 cases q:H b with
 | none=>rfl
 | some x =>
  have hm:b∈trk h H:=List.mem_filter.mpr ⟨List.mem_range.mpr (Heap.lt_size e'),by simp [q]⟩
  have z:(hidT h H).get? b=none:=PySem.W.hideAll_none (trk h H) hm
  rw [z] at e; cases e
end L2
namespace L2
open PySem PySem.Spec PyProof.Rows
structure Mod (K:PySem.W.Frag) (mg:Str->Option Value) (base:Heap):Prop where
 kin:K.In base
 glob:base.Ns mainGlobals mg
 blt:∃ mb,base.Ns builtinsNs mb/\∀ x:Str,x ≠ "__name__" -> mb x=bootBuiltins x
 nolimit:base.NoLimit
structure Cx where
 prog:Program
 w:World
 K:PySem.W.Frag
 mg:Str->Option Value
 base:Heap
 A:Around
 N:List Str
 s₀:Shared
 H₀:Hp
 env:Env
 outer:List Env
 stack:List Env
 ex:List Addr
 fn:Str->Bool
 calm:Bool
 pn:List (Addr×Obj)
 xe:Value->Shared->Prop
def frs (l:List Env):List Addr:=l.filterMap (·.frame)
abbrev Cx.fs (X:Cx):List Addr:=frs X.outer
def Vis (sc:Scope) (x:Str):Prop:=sc.names.lookup x=some .local\/sc.names.lookup x=some .cell\/sc.names.lookup x=some .free
def Loc (sc:Scope) (x:Str):Prop:=sc.names.lookup x=some .local\/sc.names.lookup x=some .cell
def Look (env:Env) (h:Heap) (m:Str->Option Value) (x:Str) (u:Value):Prop :=
 (env.kindOf x=some .local/\m x=some u)\/((env.kindOf x=some .cell\/env.kindOf x=some .free)/\∃ c,env.cells.lookup x=some c/\h.IsCell c (some u))
structure Cx.Ok (X:Cx):Prop where
 mod:Mod X.K X.mg X.base
 kind:X.env.scope.kind=.function
 glob:X.env.globals=mainGlobals
 blt:X.env.builtins=builtinsNs
 above:X.s₀.heap.objs.size<=X.env.locals
 inj:∀ x y c,X.env.cells.lookup x=some c->X.env.cells.lookup y=some c->x=y
 has:∀ x,(X.env.kindOf x=some .cell\/X.env.kindOf x=some .free)->∃ c,X.env.cells.lookup x=some c
 cab:∀ x c,X.fn x=true->X.env.cells.lookup x=some c->X.s₀.heap.objs.size<=c
 hd:X.calm=true->X.A.handled=none
 frames:X.A.frames=some X.stack
 stk:X.stack=X.outer\/(X.stack=X.env::X.outer/\X.env.frame=some X.env.locals)
 exf:∀ b∈X.ex,b≠X.env.locals/\∀ x c,X.env.cells.lookup x=some c->c≠b
 bs:∀ b o,X.base.get? b=some o->X.s₀.heap.get? b=some o/\X.H₀ b=none
 bsz:X.base.objs.size<=X.s₀.heap.objs.size
 noex:∀ b o,X.base.get? b=some o->b∉X.ex
 exfs:∀ b∈X.ex,b∉X.fs
 funs:X.s₀.heap.FunFrames X.base X.outer
 frf:∀ b∈X.fs,X.H₀ b=none
structure Inv (X:Cx) (pins:List (Addr×Obj)) (σ:List (Option V)) (H:Hp) (s:Shared):Prop where
 ok:X.Ok
 os:s.os=X.s₀.os
 bare:AllBare s.gens
 base:Un X.fs X.ex X.H₀ H X.s₀.heap s.heap
 loc:∃ m,s.heap.Ns X.env.locals m/\∀ (i:Nat) (x:Str) (v:V),X.N[i]?=some x->σ[i]?=some (some v)->Vis X.env.scope x->∃ u,RelV v u/\Look X.env s.heap m x u
 cell:∀ x c,X.env.cells.lookup x=some c->∃ v,s.heap.IsCell c v
 free:H X.env.locals=none
 zdQ:∀ x c,X.env.cells.lookup x=some c->H c=none
 pin:∀ p∈X.pn++pins,s.heap.get? p.1=some p.2/\H p.1=none/\p.1≠X.env.locals/\p.1∉X.fs/\∀ v,p.2.data≠.cell v
 hok:HOk X.prog X.w H s.heap
 len:σ.length=X.N.length
section
variable {X:Cx} {pins:List (Addr×Obj)} {σ:List (Option V)} {H H':Hp} {s:Shared} {h':Heap}
theorem Cx.Ok.nofr (ok:X.Ok) {b:Addr} {o:Obj} (e:X.base.get? b=some o):b∉X.fs:=λ hb=>by
 have:=(ok.funs.mem hb).1
 rw [e] at this; cases this
theorem Inv.bs (I:Inv X pins σ H s):∀ b o,X.base.get? b=some o->s.heap.get? b=some o/\H b=none:=λ b o e =>
 ⟨I.base.keep b o (I.ok.bs b o e).1 (I.ok.bs b o e).2 (I.ok.nofr e) (I.ok.noex b o e),I.base.free b o (I.ok.bs b o e).1 (I.ok.bs b o e).2 (I.ok.noex b o e)⟩
theorem Inv.bk (I:Inv X pins σ H s):∀ b o,X.base.get? b=some o->s.heap.get? b=some o:=λ b o e=>(I.bs b o e).1
theorem Inv.mod (I:Inv X pins σ H s):Mod X.K X.mg X.base:=I.ok.mod
theorem Inv.kIn (I:Inv X pins σ H s):X.K.In s.heap:=I.ok.mod.kin.keeps I.bk
theorem Inv.fr (I:Inv X pins σ H s):∃ m,Fr X.base X.env.locals s.heap m :=
 let ⟨m,hn,_⟩:=I.loc
 ⟨m,hn,I.bk,Nat.le_trans I.ok.bsz I.ok.above⟩
theorem Inv.lt (I:Inv X pins σ H s):X.env.locals < s.heap.objs.size:=let ⟨_,hn,_⟩:=I.loc; hn.lt
theorem Inv.sz (I:Inv X pins σ H s):X.s₀.heap.objs.size<=s.heap.objs.size:=Nat.le_trans I.ok.above (Nat.le_of_lt I.lt)
theorem Inv.nofs (I:Inv X pins σ H s) {a:Addr} (h:s.heap.objs.size<=a):a∉X.fs:=λ hb=>by
 obtain ⟨_,o,ho,_⟩:=I.ok.funs.mem hb
 exact absurd (Nat.lt_of_lt_of_le (Heap.lt_size ho) (Nat.le_trans I.sz h)) (Nat.lt_irrefl _)
theorem Inv.cne (I:Inv X pins σ H s):∀ x c,X.env.cells.lookup x=some c->c≠X.env.locals:=λ x c e z=>by
 obtain ⟨v,o,ho,hd⟩:=I.cell x c e
 obtain ⟨m,⟨o',es,ep,ho',hd',_⟩,_⟩:=I.loc
 rw [z,ho'] at ho; cases ho; rw [hd'] at hd; cases hd
theorem Inv.funs (I:Inv X pins σ H s):s.heap.FunFrames X.base X.outer:=by
 have all:∀ (l:List Env),(∀ b∈frs l,b∈X.fs)->X.s₀.heap.FunFrames X.base l->s.heap.FunFrames X.base l:=by
  intro l
  induction l with
  | nil=>intro _ _; trivial
  | cons env r ih =>
   intro hs hl
   obtain ⟨hk,⟨L,o,hf,hn,ho,hd⟩,hr⟩:=hl
   have hL:L∈X.fs:=hs L (by unfold frs; rw [List.filterMap_cons,hf]; exact List.mem_cons_self)
   obtain ⟨sl,e⟩:=I.base.slot L o ho (I.ok.frf L hL) hL λ z=>I.ok.exfs L z hL
   exact ⟨hk,⟨L,_,hf,hn,e,hd⟩,ih (λ b hb=>hs b (by unfold frs; rw [List.filterMap_cons,hf]; exact List.mem_cons_of_mem _ hb)) hr⟩
 exact all X.outer (λ _ hb=>hb) I.ok.funs
theorem Inv.stack (I:Inv X pins σ H s):s.heap.FunFrames X.base X.stack:=by
 rcases I.ok.stk with e | ⟨e,hf⟩
 . rw [e]; exact I.funs
 . rw [e]
   obtain ⟨m,hn,_⟩:=I.loc
   refine .cons (by rw [I.ok.kind]; decide) hf hn ?_ I.funs
   exact Heap.get?_none_of_le (Nat.le_trans I.ok.bsz I.ok.above)
theorem Inv.zml (I:Inv X pins σ H s):∀ b∈frs X.stack,b∈X.env.locals::X.fs:=λ b hb=>by
 rcases I.ok.stk with e | ⟨e,hf⟩
 . rw [e] at hb; exact List.mem_cons_of_mem _ hb
 . rw [e] at hb
   unfold frs at hb
   rw [List.filterMap_cons,hf] at hb
   exact hb
theorem Inv.zgP (I:Inv X pins σ H s):∀ b∈frs X.stack,H b=none:=λ b hb=>by
 rcases List.mem_cons.mp (I.zml b hb) with e | hb
 . rw [e]; exact I.free
 . obtain ⟨_,o,ho,_⟩:=I.ok.funs.mem hb
   exact I.base.free b o ho (I.ok.frf b hb) λ z=>I.ok.exfs b z hb
theorem Inv.step {g':Array GenState} {t':Nat} {d':Drawn} {ch:List Addr} (I:Inv X pins σ H s)
   (hch:∀ b∈ch,(b∈X.ex\/X.s₀.heap.objs.size<=b)/\b≠X.env.locals/\(∀ x c,X.env.cells.lookup x=some c->c≠b)/\∀ p∈X.pn++pins,p.1≠b)
   (keep:∀ b o,b≠X.env.locals->b∉X.fs->b∉ch->s.heap.get? b=some o->H b=none->h'.get? b=some o)
   (slot:∀ b o,b≠X.env.locals->b∈X.fs->b∉ch->s.heap.get? b=some o->H b=none->∃ sl,h'.get? b=some { o with slots:=sl }) (free:∀ b o,b∉ch->s.heap.get? b=some o->H b=none->H' b=none)
   (there:∀ b o,b∉ch->s.heap.get? b=some o->∃ o',h'.get? b=some o')
   (tups:∀ b xs,H b=some (.tup xs)->H' b=some (.tup xs)) (frzs:∀ b o u,H b=some (.frz o u)->H' b=some (.frz o u)) (tbls:∀ b ps,H b=some (.tbl ps)->∃ more,H' b=some (.tbl (ps++more)))
   (ns:∀ m,s.heap.Ns X.env.locals m->h'.Ns X.env.locals m) (hok:HOk X.prog X.w H' h') (hg:AllBare g') :
   Inv X pins σ H' { s with heap:=h',gens:=g',drawn:=d',toks:=t' }:=by
 have neL:∀ b o,X.s₀.heap.get? b=some o->b≠X.env.locals:=λ b o e=>Nat.ne_of_lt (Nat.lt_of_lt_of_le (Heap.lt_size e) I.ok.above)
 have neC:∀ b o,X.s₀.heap.get? b=some o->b∉X.ex->b∉ch:=λ b o e hx hb=>by
   rcases (hch b hb).1 with z | z
   . exact hx z
   . exact absurd (Nat.lt_of_lt_of_le (Heap.lt_size e) z) (Nat.lt_irrefl _)
 have cellK:∀ x c,X.env.cells.lookup x=some c->∀ v,s.heap.IsCell c v->h'.IsCell c v:=λ x c e v ⟨o,ho,hd⟩=>by
   have nch:c∉ch:=λ z=>(hch c z).2.2.1 x c e rfl
   by_cases hc:c∈X.fs
   . obtain ⟨sl,q⟩:=slot c o (I.cne x c e) hc nch ho (I.zdQ x c e)
     exact ⟨_,q,hd⟩
   . exact ⟨o,keep c o (I.cne x c e) hc nch ho (I.zdQ x c e),hd⟩
 refine ⟨I.ok,I.os,hg,⟨λ b o e n hb hx=>?_,λ b o e n hb hx=>?_,λ b o e n hx=>?_,λ b o e hx=>?_,λ b xs e=>tups b xs (I.base.tups b xs e),λ b o xs e=>frzs b o xs (I.base.frzs b o xs e),λ b ps e=>?_⟩,?_,λ x c e=>?_,?_,λ x c e=>?_,λ p hp=>?_,hok,I.len⟩
 . exact keep b o (neL b o e) hb (neC b o e hx) (I.base.keep b o e n hb hx) (I.base.free b o e n hx)
 . obtain ⟨sl,e1⟩:=I.base.slot b o e n hb hx
   obtain ⟨sl',e2⟩:=slot b _ (neL b o e) hb (neC b o e hx) e1 (I.base.free b o e n hx)
   exact ⟨sl',e2⟩
 . obtain ⟨o',e1⟩:=I.base.there b o e hx
   exact free b o' (neC b o e hx) e1 (I.base.free b o e n hx)
 . obtain ⟨o',e1⟩:=I.base.there b o e hx
   exact there b o' (neC b o e hx) e1
 . obtain ⟨m1,e1⟩:=I.base.tbls b ps e
   obtain ⟨m2,e2⟩:=tbls b _ e1
   exact ⟨m1++m2,by rw [e2,Array.append_assoc]⟩
 . obtain ⟨m,hn,hl⟩:=I.loc
   refine ⟨m,ns m hn,λ i x v e1 e2 e3=>?_⟩
   obtain ⟨u,r,l⟩:=hl i x v e1 e2 e3
   refine ⟨u,r,?_⟩
   rcases l with l | ⟨k,c,e,z⟩
   . exact .inl l
   . exact .inr ⟨k,c,e,cellK x c e _ z⟩
 . obtain ⟨v,z⟩:=I.cell x c e
   exact ⟨v,cellK x c e v z⟩
 . obtain ⟨m,⟨o,_,_,ho,_⟩,_⟩:=I.loc
   exact free _ o (λ z=>(hch _ z).2.1 rfl) ho I.free
 . obtain ⟨v,o,ho,hd⟩:=I.cell x c e
   exact free c o (λ z=>(hch c z).2.2.1 x c e rfl) ho (I.zdQ x c e)
 . obtain ⟨e,n,ne,nf,d⟩:=I.pin p hp
   have nch:p.1∉ch:=λ z=>(hch p.1 z).2.2.2 p hp rfl
   exact ⟨keep p.1 p.2 ne nf nch e n,free p.1 p.2 nch e n,ne,nf,d⟩
theorem Inv.un {t':Nat} (I:Inv X pins σ H s) (u:Un X.fs [] H H' s.heap h') (hok:HOk X.prog X.w H' h'):Inv X pins σ H' { s with heap:=h',toks:=t' }:=by
 obtain ⟨m,⟨o,es,ep,ho,r⟩,_⟩:=id I.loc
 obtain ⟨sl,hL⟩:=u.any ho I.free (by simp)
 exact I.step (g':=s.gens) (d':=s.drawn) (ch:=[]) (λ _ z=>nomatch z) (λ b o _ hb _ e n=>u.keep b o e n hb (by simp)) (λ b o _ hb _ e n=>u.slot b o e n hb (by simp)) (λ b o _ e n=>u.free b o e n (by simp)) (λ b o _ e=>u.there b o e (by simp)) u.tups u.frzs u.tbls (λ m' hm=>by
  obtain ⟨o',es',ep',ho',r'⟩:=hm
  rw [ho] at ho'; cases ho'
  exact ⟨_,es',ep',hL,r'⟩) hok I.bare
theorem Inv.call {g':Array GenState} {t':Nat} {d':Drawn} {ch:List Addr} (I:Inv X pins σ H s) (u:Un (frs X.stack) ch H H' s.heap h') (hok:HOk X.prog X.w H' h') (hg:AllBare g')
  (hch:∀ b∈ch,(b∈X.ex\/X.s₀.heap.objs.size<=b)/\b≠X.env.locals/\(∀ x c,X.env.cells.lookup x=some c->c≠b)/\∀ p∈X.pn++pins,p.1≠b) :
  Inv X pins σ H' { s with heap:=h',gens:=g',drawn:=d',toks:=t' }:=by
 obtain ⟨m,⟨o,es,ep,ho,r⟩,_⟩:=id I.loc
 obtain ⟨sl,hL⟩:=u.any ho I.free λ z=>(hch _ z).2.1 rfl
 exact I.step (ch:=ch) hch (λ b o hL hb hc e n=>u.keep b o e n (λ z=>(List.mem_cons.mp (I.zml b z)).elim hL hb) hc) (λ b o _ _ hc e n=>u.any e n hc) (λ b o hc e n=>u.free b o e n hc) (λ b o hc e=>u.there b o e hc) u.tups u.frzs u.tbls (λ m' hm=>by
  obtain ⟨o',es',ep',ho',r'⟩:=hm
  rw [ho] at ho'; cases ho'
  exact ⟨_,es',ep',hL,r'⟩) hok hg
theorem Inv.turned {t':Nat} {it:Addr} (I:Inv X pins σ H s) (k:∀ b o,b≠it->s.heap.get? b=some o->h'.get? b=some o) (hn:H it=none) (hL:it≠X.env.locals)
   (h1:it∈X.ex\/X.s₀.heap.objs.size<=it) (h2:∀ x c,X.env.cells.lookup x=some c->c≠it) (h3:∀ p∈X.pn++pins,p.1≠it):Inv X pins σ H { s with heap:=h',toks:=t' }:=by
 have nit:∀ b u,H b=some u->b≠it:=λ b u e z=>by rw [z,hn] at e; cases e
 refine I.step (g':=s.gens) (d':=s.drawn) (ch:=[it]) (λ b hb=>?_) (λ b o _ _ hc e _=>k b o (λ z=>hc (by simp [z])) e) (λ b o _ _ hc e _=>⟨o.slots,k b o (λ z=>hc (by simp [z])) e⟩) (λ _ _ _ _ n=>n)
   (λ b o hc e=>⟨o,k b o (λ z=>hc (by simp [z])) e⟩) (λ _ _ e=>e) (λ _ _ _ e=>e) (λ b ps e=>⟨#[],by rw [e]; simp⟩) (λ m hm=>?_) (λ b u e=>?_) I.bare
 . have e:b=it:=by simpa using hb
   subst e
   exact ⟨h1,hL,h2,h3⟩
 . obtain ⟨o,es,ep,ho,r⟩:=hm
   exact ⟨o,es,ep,k _ o (Ne.symm hL) ho,r⟩
 . refine (I.hok b u e).stay (λ c v hc q=>k c v ?_ q) (λ _ q=>q) λ _ _ q=>q
   rcases hc with z | z
   . rw [z]; exact nit b u e
   . exact nit c _ z
theorem Inv.tok (I:Inv X pins σ H s) (t:Nat):Inv X pins σ H { s with toks:=t }:=I.un (h':=s.heap) (t':=t) Un.refl I.hok
theorem Inv.kept {t':Nat} (I:Inv X pins σ H s) (k:∀ b u,s.heap.get? b=some u->h'.get? b=some u):Inv X pins σ H { s with heap:=h',toks:=t' }:=I.un (Un.kept k) (I.hok.kept k)
theorem Inv.laid {a:Addr} {o:HO} {t':Nat} (I:Inv X pins σ H s) (k:∀ b u,s.heap.get? b=some u->h'.get? b=some u) (hp:s.heap.objs.size<=a) (new:zbP X.prog X.w (upd H a o) h' a o) :
 Inv X pins σ (upd H a o) { s with heap:=h',toks:=t' }:=I.un (Un.laid k hp (I.hok.fresh hp)) (I.hok.laid k hp new)
theorem Inv.write {x e:Addr} {o:HO} {t':Nat} (I:Inv X pins σ H s) (mu:Mut (H x)) (he:e=x\/H e=some (.own x)) (k:∀ b u,b≠e->s.heap.get? b=some u->h'.get? b=some u) (heo:∃ u,h'.get? e=some u)
 (new:zbP X.prog X.w (upd H x o) h' x o):Inv X pins σ (upd H x o) { s with heap:=h',toks:=t' }:=I.un (Un.write mu he k heo) (I.hok.write mu he k heo new)
theorem Inv.weak {σ':List (Option V)} (I:Inv X pins σ H s) (hl:σ'.length=σ.length) (w:∀ (i:Nat) v,σ'[i]?=some (some v)->σ[i]?=some (some v)):Inv X pins σ' H s :=
 ⟨I.ok,I.os,I.bare,I.base,let ⟨m,hn,hl'⟩:=I.loc; ⟨m,hn,λ i x v e1 e2 e3=>hl' i x v e1 (w i v e2) e3⟩,I.cell,I.free,I.zdQ,I.pin,I.hok,hl.trans I.len⟩
theorem Inv.zg4 {pins':List (Addr×Obj)} (I:Inv X pins σ H s) (h:∀ p∈pins',s.heap.get? p.1=some p.2/\H p.1=none/\p.1≠X.env.locals/\p.1∉X.fs/\∀ v,p.2.data≠.cell v):Inv X pins' σ H s :=
 ⟨I.ok,I.os,I.bare,I.base,I.loc,I.cell,I.free,I.zdQ,λ p hp=>(List.mem_append.mp hp).elim (λ z=>I.pin p (List.mem_append_left _ z)) (h p),I.hok,I.len⟩
theorem zmx {N:List Str} (hN:N.Nodup) {i j:Nat} {x:Str} (a:N[i]?=some x) (b:N[j]?=some x):i=j:=by
 obtain ⟨h1,e1⟩:=List.getElem?_eq_some_iff.mp a
 obtain ⟨h2,e2⟩:=List.getElem?_eq_some_iff.mp b
 exact (List.getElem_inj hN).mp (e1.trans e2.symm)
theorem zjJ {M:Model} {A:Around} {E:Value->Shared->Prop} {i:Nat} {x:Str} {v:V} {u:Value} {Q:Unit->Shared->Prop} (I:Inv X pins σ H s) (hN:X.N.Nodup) (hi:X.N[i]?=some x) (hx:Loc X.env.scope x) (r:RelV v u)
   (h:∀ s',Inv X pins (σ.set i (some v)) H s'->(∃ a,Heap.SameBut a s.heap s'.heap/\(a=X.env.locals\/X.env.cells.lookup x=some a))->Q () s') (hf:X.fn x=true\/X.env.scope.names.lookup x=some .local:=by first | exact .inl rfl | exact .inr rfl | assumption):wpAny M A (storeName X.env x u) Q E s:=by
 obtain ⟨m,hn,hl⟩:=id I.loc
 have hcls:(X.env.scope.kind == .class || (X.env.scope.kind == .module && X.env.locals != X.env.globals))=false:=by rw [I.ok.kind]; rfl
 have hiσ:i < σ.length:=by rw [I.len]; exact (List.getElem?_eq_some_iff.mp hi).1
 have cne:=I.cne
 have tracked:∀ {a:Addr} {h':Heap},(∃ o,s.heap.get? a=some o/\H a=none)->Heap.SameBut a s.heap h'->HOk X.prog X.w H h':=λ {a h'} ha hs b ob e=>by
   obtain ⟨_,_,hfree⟩:=ha
   refine (I.hok b ob e).stay (λ c w' hc q=>(hs.2 c ?_).trans q) (λ _ q=>q) λ _ _ q=>q
   rintro rfl
   rcases hc with rfl | hc
   . rw [hfree] at e; cases e
   . rw [hfree] at hc; cases hc
 rcases hx with hk | hk
 . refine wpAny_storeName_local hk hn (λ h' hn' hs=>?_) hcls
   obtain ⟨oL,_,_,hoL,_⟩:=id hn
   refine h _ ⟨I.ok,I.os,I.bare,⟨λ b o e n hb hx=>?_,λ b o e n hb hx=>?_,I.base.free,λ b o e hx=>?_,I.base.tups,I.base.frzs,I.base.tbls⟩,⟨_,hn',λ j y v' e1 e2 e3=>?_⟩,λ y c e=>?_,I.free,I.zdQ,λ p hp=>?_,tracked ⟨oL,hoL,I.free⟩ hs,by simpa using I.len⟩ ⟨_,hs,.inl rfl⟩
   . exact (hs.2 b (Nat.ne_of_lt (Nat.lt_of_lt_of_le (Heap.lt_size e) I.ok.above))).trans (I.base.keep b o e n hb hx)
   . obtain ⟨sl,e1⟩:=I.base.slot b o e n hb hx
     exact ⟨sl,(hs.2 b (Nat.ne_of_lt (Nat.lt_of_lt_of_le (Heap.lt_size e) I.ok.above))).trans e1⟩
   . obtain ⟨o',e1⟩:=I.base.there b o e hx
     exact ⟨o',(hs.2 b (Nat.ne_of_lt (Nat.lt_of_lt_of_le (Heap.lt_size e) I.ok.above))).trans e1⟩
   . by_cases hj:j=i
     . subst hj
       rw [hi] at e1; cases e1
       rw [List.getElem?_set_self hiσ] at e2
       cases e2
       exact ⟨u,r,.inl ⟨hk,by simp⟩⟩
     . rw [List.getElem?_set_ne (Ne.symm hj)] at e2
       obtain ⟨u',r',q⟩:=hl j y v' e1 e2 e3
       refine ⟨u',r',?_⟩
       rcases q with ⟨k,e⟩ | ⟨k,c,e,z⟩
       . refine .inl ⟨k,?_⟩
         have:y≠x:=λ e=>hj (zmx hN e1 (e ▸ hi))
         simp [this,e]
       . exact .inr ⟨k,c,e,z.sameBut hs (cne y c e)⟩
   . obtain ⟨w',z⟩:=I.cell y c e
     exact ⟨w',z.sameBut hs (cne y c e)⟩
   . obtain ⟨e,n,ne,nf,d⟩:=I.pin p hp
     exact ⟨(hs.2 p.1 ne).trans e,n,ne,nf,d⟩
 . have hfn:X.fn x=true:=by
     rcases hf with z | z
     . exact z
     . rw [z] at hk; cases hk
   obtain ⟨c,hc⟩:=I.ok.has x (.inl hk)
   obtain ⟨w',z⟩:=I.cell x c hc
   refine wpAny_storeName_cell I.ok.kind hk hc z (λ h' hc' hs=>?_)
   obtain ⟨oc,hoc,hocd⟩:=id z
   refine h { s with heap:=h' } ⟨I.ok,I.os,I.bare,⟨λ b o e n hb hx=>?_,λ b o e n hb hx=>?_,I.base.free,λ b o e hx=>?_,I.base.tups,I.base.frzs,I.base.tbls⟩,⟨m,hn.sameBut hs (Ne.symm (cne x c hc)),λ j y v' e1 e2 e3=>?_⟩,λ y c' e=>?_,I.free,I.zdQ,λ p hp=>?_,tracked ⟨oc,hoc,I.zdQ x c hc⟩ hs,by simpa using I.len⟩ ⟨c,hs,.inr hc⟩
   . exact (hs.2 b (Nat.ne_of_lt (Nat.lt_of_lt_of_le (Heap.lt_size e) (I.ok.cab x c hfn hc)))).trans (I.base.keep b o e n hb hx)
   . obtain ⟨sl,e1⟩:=I.base.slot b o e n hb hx
     exact ⟨sl,(hs.2 b (Nat.ne_of_lt (Nat.lt_of_lt_of_le (Heap.lt_size e) (I.ok.cab x c hfn hc)))).trans e1⟩
   . obtain ⟨o',e1⟩:=I.base.there b o e hx
     exact ⟨o',(hs.2 b (Nat.ne_of_lt (Nat.lt_of_lt_of_le (Heap.lt_size e) (I.ok.cab x c hfn hc)))).trans e1⟩
   . by_cases hj:j=i
     . subst hj
       rw [hi] at e1; cases e1
       rw [List.getElem?_set_self hiσ] at e2
       cases e2
       exact ⟨u,r,.inr ⟨.inl hk,c,hc,hc'⟩⟩
     . rw [List.getElem?_set_ne (Ne.symm hj)] at e2
       obtain ⟨u',r',q⟩:=hl j y v' e1 e2 e3
       refine ⟨u',r',?_⟩
       rcases q with q | ⟨k,c',e,z'⟩
       . exact .inl q
       . refine .inr ⟨k,c',e,z'.sameBut hs ?_⟩
         rintro rfl
         exact hj (zmx hN e1 (I.ok.inj _ _ _ e hc ▸ hi))
   . by_cases hcc:c'=c
     . subst hcc; exact ⟨_,hc'⟩
     . obtain ⟨w2,z2⟩:=I.cell y c' e
       exact ⟨w2,z2.sameBut hs hcc⟩
   . obtain ⟨e,n,ne,nf,d⟩:=I.pin p hp
     refine ⟨(hs.2 p.1 ?_).trans e,n,ne,nf,d⟩
     intro q
     rw [q,hoc] at e
     have q':oc=p.2:=Option.some.inj e
     exact d w' (by rw [<-q']; exact hocd)
theorem zmk {M:Model} {A:Around} {E:Value->Shared->Prop} {i:Nat} {x:Str} {v:V} {u:Value} {Q:Unit->Shared->Prop} (I:Inv X pins σ H s) (hN:X.N.Nodup) (hi:X.N[i]?=some x) (hx:Loc X.env.scope x) (r:RelV v u)
  (h:∀ s',Inv X pins (σ.set i (some v)) H s'->Q () s') (hf:X.fn x=true\/X.env.scope.names.lookup x=some .local:=by first | exact .inl rfl | exact .inr rfl | assumption):wpAny M A (storeName X.env x u) Q E s :=
 zjJ I hN hi hx r (λ s' I' _=>h s' I') hf
theorem Inv.zrw {s':Shared} {ch:List Addr} (I:Inv X pins σ H s) (ho:s'.os=s.os) (u:Un (frs X.stack) ch H H' s.heap s'.heap) (hok:HOk X.prog X.w H' s'.heap) (hg:AllBare s'.gens)
  (hch:∀ b∈ch,(b∈X.ex\/X.s₀.heap.objs.size<=b)/\b≠X.env.locals/\(∀ x c,X.env.cells.lookup x=some c->c≠b)/\∀ p∈X.pn++pins,p.1≠b):Inv X pins σ H' s':=by
 obtain ⟨h',g',d',t',o'⟩:=s'
 have e:o'=s.os:=ho
 subst e
 exact I.call (g':=g') (t':=t') (d':=d') u hok hg hch
end
abbrev XK:=Value->Option Addr->Hp->Prop
abbrev St:=List (Option V)
abbrev VK:=V->Hp->Prop
abbrev TE:=St->Hp->VK->Prop
abbrev TT:=St->Hp->(Bool->Hp->Prop)->Prop
abbrev TA:=St->Hp->(List V->Hp->Prop)->Prop
structure Ends where
 nx:St->Hp->Prop
 rt:VK
 bk:St->Hp->Prop:=λ _ _=>False
 ct:St->Hp->Prop:=λ _ _=>False
abbrev TS:=Ends->St->Hp->Prop
def EP (X:Cx) (pins:List (Addr×Obj)) (σ:St) (Q:VK) (u:Value) (s':Shared):Prop:=∃ v H',Inv X pins σ H' s'/\RelV v u/\Q v H'
def TP (X:Cx) (pins:List (Addr×Obj)) (σ:St) (Q:Bool->Hp->Prop) (b:Bool) (s':Shared):Prop:=∃ H',Inv X pins σ H' s'/\Q b H'
def AP (X:Cx) (pins:List (Addr×Obj)) (σ:St) (Q:List V->Hp->Prop) (us:List Value) (s':Shared):Prop:=∃ vs H',Inv X pins σ H' s'/\Vals vs us/\Q vs H'
def SP (X:Cx) (pins:List (Addr×Obj)) (D:Ends) (f:Flow) (s':Shared):Prop :=
 match f with
 | .next=>∃ σ' H',Inv X pins σ' H' s'/\D.nx σ' H'
 | .brk=>∃ σ' H',Inv X pins σ' H' s'/\D.bk σ' H'
 | .cont=>∃ σ' H',Inv X pins σ' H' s'/\D.ct σ' H'
 | .ret u=>∃ v σ' H',Inv X pins σ' H' s'/\RelV v u/\D.rt v H'
def PE (X:Cx) (e:Expr) (t:TE):Prop :=
 ∀ (pins:List (Addr×Obj)) (s:Shared) (σ:St) (H:Hp) (Q:VK),Inv X pins σ H s->t σ H Q->wpAny (model X.prog X.w) X.A (eval e X.env) (EP X pins σ Q) X.xe s
def PT (X:Cx) (e:Expr) (t:TT):Prop :=
 ∀ (pins:List (Addr×Obj)) (s:Shared) (σ:St) (H:Hp) (Q:Bool->Hp->Prop),Inv X pins σ H s->t σ H Q->wpAny (model X.prog X.w) X.A (isTrue e X.env (eval e X.env)) (TP X pins σ Q) X.xe s
def PW (X:Cx) (e:Expr) (t:TT):Prop :=
 ∀ (whole:Sem Value) (pins:List (Addr×Obj)) (s:Shared) (σ:St) (H:Hp) (Q:Bool->Hp->Prop),Inv X pins σ H s->t σ H Q->wpAny (model X.prog X.w) X.A (isTrue e X.env whole) (TP X pins σ Q) X.xe s
theorem PW.pt {X:Cx} {e:Expr} {t:TT} (h:PW X e t):PT X e t:=h _
def PA (X:Cx) (es:List Expr) (t:TA):Prop :=
 ∀ (pos:Pos) (pins:List (Addr×Obj)) (s:Shared) (σ:St) (H:Hp) (Q:List V->Hp->Prop),Inv X pins σ H s->t σ H Q->wpAny (model X.prog X.w) X.A (spliced (backTo pos (starEach es X.env))) (AP X pins σ Q) X.xe s
def PS (X:Cx) (st:Stmt) (t:TS):Prop :=
 ∀ (pins:List (Addr×Obj)) (s:Shared) (σ:St) (H:Hp) (D:Ends),Inv X pins σ H s->t D σ H->wpAny (model X.prog X.w) X.A (exec st X.env) (SP X pins D) X.xe s
def PSs (X:Cx) (st:List Stmt) (t:TS):Prop :=
 ∀ (pins:List (Addr×Obj)) (s:Shared) (σ:St) (H:Hp) (D:Ends),Inv X pins σ H s->t D σ H->wpAny (model X.prog X.w) X.A (execs st X.env) (SP X pins D) X.xe s
theorem thn {α:Type} {t:Sem α} {Q Q':α->Shared->Prop} {M:Model} {A:Around} {E:Value->Shared->Prop} {s:Shared} (h:wpAny M A t Q E s) (hQ:∀ a s,Q a s->Q' a s):wpAny M A t Q' E s:=wpAny_mono h hQ λ _ _ x=>x
end L2
namespace L2
open PySem PySem.Spec PyProof.Rows
section
variable {X:Cx}
theorem bin {a b:Expr} {ta tb:TE} (ha:PE X a ta) (hb:PE X b tb) {pins:List (Addr×Obj)} {s:Shared} {σ:St} {H:Hp} {R:V->V->Hp->Prop} (I:Inv X pins σ H s) (h:ta σ H λ x H1=>tb σ H1 λ y H2=>R x y H2)
  {α:Type} {Q:α->Shared->Prop} {f:Value->Value->Sem α}
  (hf:∀ v u s2 x y H2,Inv X pins σ H2 s2->RelV x v->RelV y u->R x y H2->wpAny (model X.prog X.w) X.A (f v u) Q X.xe s2) :
  wpAny (model X.prog X.w) X.A (eval a X.env) (λ v s₁=>wpAny (model X.prog X.w) X.A (eval b X.env) (λ u s₂=>wpAny (model X.prog X.w) X.A (f v u) Q X.xe s₂) X.xe s₁) X.xe s:=by
 refine thn (ha pins s σ H _ I h) λ v s1 ⟨x,H1,I1,r1,q1⟩=>?_
 refine thn (hb pins s1 σ H1 _ I1 q1) λ u s2 ⟨y,H2,I2,r2,q2⟩=>?_
 exact hf v u s2 x y H2 I2 r1 r2 q2
def tVar (i:Nat):TE:=λ σ H Q=>∃ v,σ[i]?=some (some v)/\Q v H
def tC (v:V):TE:=λ _ H Q=>Q v H
theorem zsa {i:Nat} {x:Str} {pos:Pos} (hN:X.N[i]?=some x) (hv:Vis X.env.scope x) (hd:(x == ("__debug__" : Str))=false:=by decide) (hcd:(x == ("__classdict__" : Str))=false:=by decide):PE X (.Name x pos) (tVar i):=by
 intro pins s σ H Q I h
 obtain ⟨v,e,h⟩:=h
 obtain ⟨m,hn,hl⟩:=I.loc
 obtain ⟨u,r,l⟩:=hl i x v hN e hv
 have fin:EP X pins σ Q u s:=⟨v,H,I,r,h⟩
 rcases l with ⟨hk,hm⟩ | ⟨hk,c,hc,hcell⟩
 . exact wpAny_Name (wpAny_loadName_local I.ok.kind hk hn hm fin) hd
 . rcases hk with hk | hk
   . exact wpAny_Name (wpAny_loadName_cell I.ok.kind hk hc hcell fin) hd
   . exact wpAny_Name (wpAny_loadName_free I.ok.kind hk hc hcell fin hcd) hd
theorem zan {i j pos}:PE X (.Constant (.int i) j pos) (tC (.int i)):=λ _ _ _ H _ I h=>wpAny_Constant_int ⟨.int i,H,I.tok _,⟨_,rfl⟩,h⟩
theorem zli {b j pos}:PE X (.Constant (.bool b) j pos) (tC (.bl b)):=λ _ _ _ H _ I h=>Constant_bool ⟨.bl b,H,I,rfl,h⟩
theorem zgk {j pos}:PE X (.Constant .none j pos) (tC .non):=λ _ _ _ H _ I h=>Constant_none ⟨.non,H,I,rfl,h⟩
theorem zaU {x j pos}:PE X (.Constant (.str x) j pos) (tC (.str x)):=λ _ _ _ H _ I h=>Calls.Constant_str ⟨.str x,H,I.tok _,⟨_,rfl⟩,h⟩
def Gl (X:Cx) (x:Str):Prop:=X.env.kindOf x=some .globalImplicit
theorem zfW {E:Value->Shared->Prop} {pins:List (Addr×Obj)} {s:Shared} {σ:St} {H:Hp} {x:Str} {u:Value} {pos:Pos} {Q:Value->Shared->Prop} (I:Inv X pins σ H s) (hg:Gl X x) (hm:X.mg x=some u) (h:Q u s)
  (hd:(x == ("__debug__" : Str))=false:=by decide):wpAny (model X.prog X.w) X.A (eval (.Name x pos) X.env) Q E s :=
 Calls.Name_function_global I.ok.kind hg (Calls.loadGlobal_global (by rw [I.ok.glob]; exact I.mod.glob.keeps I.bk) hm h) hd
theorem zmB {E:Value->Shared->Prop} {pins:List (Addr×Obj)} {s:Shared} {σ:St} {H:Hp} {x:Str} {u:Value} {pos:Pos} {Q:Value->Shared->Prop} (I:Inv X pins σ H s) (hg:Gl X x) (hm:X.mg x=none) (hv:bootBuiltins x=some u) (h:Q u s)
  (hn:x ≠ "__name__" := by decide) (hd:(x == ("__debug__" : Str))=false:=by decide):wpAny (model X.prog X.w) X.A (eval (.Name x pos) X.env) Q E s:=by
 obtain ⟨mb,h1,h2⟩:=I.mod.blt
 exact Calls.Name_function_global I.ok.kind hg (Calls.loadGlobal_builtin (by rw [I.ok.glob]; exact I.mod.glob.keeps I.bk) hm (by rw [I.ok.blt]; exact h1.keeps I.bk) ((h2 x hn).trans hv) h) hd
theorem zoi {x:Str} {v:V} {u:Value} {pos:Pos} (hg:Gl X x) (hm:X.mg x=some u) (r:RelV v u) (hd:(x == ("__debug__" : Str))=false:=by decide):PE X (.Name x pos) (tC v) :=
 λ _ _ _ H _ I h=>zfW I hg hm ⟨v,H,I,r,h⟩ hd
theorem zra {x:Str} {v:V} {u:Value} {pos:Pos} (hg:Gl X x) (hm:X.mg x=none) (hv:bootBuiltins x=some u) (r:RelV v u) (hn:x ≠ "__name__" := by decide) (hd:(x == ("__debug__" : Str))=false:=by decide):PE X (.Name x pos) (tC v) :=
 λ _ _ _ H _ I h=>zmB I hg hm hv ⟨v,H,I,r,h⟩ hn hd
variable {a b:Expr} {ta tb:TE} {pos:Pos}
def PC (X:Cx) (op:CmpOp) (a b:Expr) (t:TE):Prop :=
 ∀ (pins:List (Addr×Obj)) (s:Shared) (σ:St) (H:Hp) (Q:VK),Inv X pins σ H s->t σ H Q ->
  wpAny (model X.prog X.w) X.A (eval a X.env) (λ v s₁=>wpAny (model X.prog X.w) X.A (eval b X.env) (λ u s₂=>wpAny (model X.prog X.w) X.A (compareOp op v u) (EP X pins σ Q) X.xe s₂) X.xe s₁) X.xe s
theorem zmy (b:Expr) {op:CmpOp} (h:op≠.In) (h2:op≠.NotIn):behindInMarks op b=false:=by
 have e1:(op == CmpOp.In)=false:=by cases op <;> first | rfl | exact absurd rfl h
 have e2:(op == CmpOp.NotIn)=false:=by cases op <;> first | rfl | exact absurd rfl h2
 cases b <;> simp [behindInMarks,e1,e2]
def tIsN (ta:TE):TE:=λ σ H Q=>ta σ H λ x H1=>Q (.bl (decide (x=.non))) H1
def zsM (ta:TE):TE:=λ σ H Q=>ta σ H λ x H1=>Q (.bl (!decide (x=.non))) H1
theorem RelV.zmw {x:V} {v:Value} (r:RelV x v):(v == Value.none)=decide (x=.non):=by
 cases x with
 | non=>cases r; rfl
 | bl _=>cases r; rfl
 | int _=>obtain ⟨t,rfl⟩:=r; rfl
 | str _=>obtain ⟨t,rfl⟩:=r; rfl
 | byt _=>obtain ⟨t,rfl⟩:=r; rfl
 | flt _=>obtain ⟨t,rfl⟩:=r; rfl
 | ref _=>cases r; rfl
 | ty _=>cases r; rfl
theorem zqn {j pos'} (ha:PE X a ta):PC X .Is a (.Constant .none j pos') (tIsN ta):=by
 intro pins s σ H Q I h
 refine thn (ha pins s σ H _ I h) λ v s1 ⟨x,H1,I1,r1,q1⟩=>?_
 exact Constant_none (is_none_gen ⟨.bl _,H1,I1,by rw [r1.zmw]; rfl,q1⟩)
theorem zol {j pos'} (ha:PE X a ta):PC X .IsNot a (.Constant .none j pos') (zsM ta):=by
 intro pins s σ H Q I h
 refine thn (ha pins s σ H _ I h) λ v s1 ⟨x,H1,I1,r1,q1⟩=>?_
 exact Constant_none (isnot_none_gen ⟨.bl _,H1,I1,by rw [r1.zmw]; rfl,q1⟩)
def tB (t:TE):TT:=λ σ H Q=>t σ H λ x H1=>∃ c,x=.bl c/\Q c H1
theorem zse {op:CmpOp} {t:TE} (h:PC X op a b t) (h1:behindInMarks op b=false:=by first | exact zmy _ (by decide) (by decide) | rfl):PE X (.Compare a [op] [b] pos) t:=λ pins s σ H Q I hw=>wpAny_Compare1 (h pins s σ H Q I hw) h1
theorem zff {op:CmpOp} {t:TE} (h:PC X op a b t) (h1:behindInMarks op b=false:=by first | exact zmy _ (by decide) (by decide) | rfl):PT X (.Compare a [op] [b] pos) (tB t):=by
 intro pins s σ H Q I hw
 refine wpAny_isTrue_Compare1 (thn (h pins s σ H _ I hw) λ v s1 h1=>thn h1 λ u s2 h2=>thn h2 λ c s3 ⟨x,H1,I1,r1,q1⟩=>?_) h1
 obtain ⟨d,rfl,q⟩:=q1
 cases r1
 exact wpAny_truthy_bool ⟨H1,I1,q⟩
theorem zil {e:Expr} {t:TE} (h:PE X e t) (he:∀ whole,isTrue e X.env whole=(do let v <-whole; standAt e.pos; holding [v] (truthy v)):=by intro _; rfl):PT X e (tB t):=by
 intro pins s σ H Q I hw
 refine isTrue_plain (thn (h pins s σ H _ I hw) λ v s1 ⟨x,H1,I1,r1,q1⟩=>?_) (he _)
 obtain ⟨d,rfl,q⟩:=q1
 cases r1
 exact wpAny_truthy_bool ⟨H1,I1,q⟩
variable {tA tB':TT} {rest:List Expr}
def tAnd (t u:TT):TT:=λ σ H Q=>t σ H λ c H1=>if c=true then u σ H1 Q else Q false H1
def tOr (t u:TT):TT:=λ σ H Q=>t σ H λ c H1=>if c=true then Q true H1 else u σ H1 Q
def tNot (t:TT):TT:=λ σ H Q=>t σ H λ c H1=>Q (!c) H1
theorem zlg (ha:PT X a tA):PW X (.BoolOp .And [a] pos) tA:=by
 intro wh pins s σ H Q I h
 refine isTrue_and (thn (ha pins s σ H Q I h) λ c s1 e=>?_)
 cases c with
 | true=>exact isTrue_and_nil e
 | false=>exact e
theorem zql (ha:PT X a tA):PW X (.BoolOp .Or [a] pos) tA:=by
 intro wh pins s σ H Q I h
 refine isTrue_or (thn (ha pins s σ H Q I h) λ c s1 e=>?_)
 cases c with
 | false=>exact isTrue_or_nil e
 | true=>exact e
theorem zod (ha:PT X a tA) (hb:PW X (.BoolOp .And (b::rest) pos) tB'):PW X (.BoolOp .And (a::b::rest) pos) (tAnd tA tB'):=by
 intro wh pins s σ H Q I h
 refine isTrue_and (thn (ha pins s σ H _ I h) λ c s1 ⟨H1,I1,q1⟩=>?_)
 cases c with
 | true=>exact hb wh pins s1 σ H1 Q I1 q1
 | false=>exact ⟨H1,I1,q1⟩
theorem zq4 (ha:PT X a tA) (hb:PW X (.BoolOp .Or (b::rest) pos) tB'):PW X (.BoolOp .Or (a::b::rest) pos) (tOr tA tB'):=by
 intro wh pins s σ H Q I h
 refine isTrue_or (thn (ha pins s σ H _ I h) λ c s1 ⟨H1,I1,q1⟩=>?_)
 cases c with
 | true=>exact ⟨H1,I1,q1⟩
 | false=>exact hb wh pins s1 σ H1 Q I1 q1
theorem zqm (ha:PT X a tA):PT X (.UnaryOp .Not a pos) (tNot tA):=by
 intro pins s σ H Q I h
 exact isTrue_not (ha pins s σ H (λ c H1=>Q (!c) H1) I h)
def zsQ (ta tb:TE):TE:=λ σ H Q=>ta σ H λ x H1=>∃ c,x=.bl c/\if c=true then tb σ H1 Q else Q (.bl false) H1
def tOrV (ta tb:TE):TE:=λ σ H Q=>ta σ H λ x H1=>∃ c,x=.bl c/\if c=true then Q (.bl true) H1 else tb σ H1 Q
def zsL (ta:TE):TE:=λ σ H Q=>ta σ H λ x H1=>∃ c,x=.bl c/\Q (.bl (!c)) H1
theorem zj4 {op} {t:TE} (h:PE X a t):PE X (.BoolOp op [a] pos) t:=λ pins s σ H Q I hw=>BoolOp_one (h pins s σ H Q I hw)
theorem zok (ha:PE X a ta) (hb:PE X (.BoolOp .And (b::rest) pos) tb):PE X (.BoolOp .And (a::b::rest) pos) (zsQ ta tb):=by
 intro pins s σ H Q I h
 refine BoolOp_and (thn (ha pins s σ H _ I h) λ v s1 ⟨x,H1,I1,r1,q1⟩=>?_)
 obtain ⟨c,rfl,q1⟩:=q1
 cases r1
 refine wpAny_truthy_bool ?_
 cases c with
 | true=>exact hb pins s1 σ H1 Q I1 q1
 | false=>exact ⟨.bl false,H1,I1,rfl,q1⟩
theorem zsb (ha:PE X a ta) (hb:PE X (.BoolOp .Or (b::rest) pos) tb):PE X (.BoolOp .Or (a::b::rest) pos) (tOrV ta tb):=by
 intro pins s σ H Q I h
 refine BoolOp_or (thn (ha pins s σ H _ I h) λ v s1 ⟨x,H1,I1,r1,q1⟩=>?_)
 obtain ⟨c,rfl,q1⟩:=q1
 cases r1
 refine wpAny_truthy_bool ?_
 cases c with
 | false=>exact hb pins s1 σ H1 Q I1 q1
 | true=>exact ⟨.bl true,H1,I1,rfl,q1⟩
theorem zsc (ha:PE X a ta):PE X (.UnaryOp .Not a pos) (zsL ta):=by
 intro pins s σ H Q I h
 refine UnaryOp_ (thn (ha pins s σ H _ I h) λ v s1 ⟨x,H1,I1,r1,q1⟩=>?_)
 obtain ⟨c,rfl,q1⟩:=q1
 cases r1
 exact not_of (wpAny_truthy_bool ⟨.bl (!c),H1,I1,rfl,q1⟩)
end
end L2
namespace L2
open PySem PySem.Spec PyProof.Rows
def SqL (K:PySem.W.Frag) (H:Hp) (a:Addr) (xs:List V):Prop :=
 Rd H a (.lst xs) \/
  ∃ (o:Obj) (its:Array Value) (n:Nat),K.lookup a=some o/\o.cls=.type "list" /\ o.dict=none/\o.data=.seq its n/\its.size<=sizeLine/\Vals xs its.toList
def SqT (K:PySem.W.Frag) (H:Hp) (a:Addr) (xs:List V):Prop :=
 Rd H a (.tup xs) \/
  ∃ (o:Obj) (its:Array Value) (n:Nat),K.lookup a=some o/\o.cls=.type "tuple" /\ o.data=.seq its n/\its.size<=sizeLine/\Vals xs its.toList
def absV:Value->Option V
 | .none=>some .non
 | .bool b=>some (.bl b)
 | .int i _=>some (.int i)
 | .str x _=>some (.str x)
 | .bytes b _=>some (.byt b)
 | .float b _=>some (.flt b)
 | .ref a=>some (.ref a)
 | .type n=>some (.ty n)
 | _=>none
theorem RelV.abs {x:V} {u:Value} (r:RelV x u):absV u=some x:=by
 cases x with
 | non=>cases r; rfl
 | bl _=>cases r; rfl
 | int _=>obtain ⟨t,rfl⟩:=r; rfl
 | str _=>obtain ⟨t,rfl⟩:=r; rfl
 | byt _=>obtain ⟨t,rfl⟩:=r; rfl
 | flt _=>obtain ⟨t,rfl⟩:=r; rfl
 | ref _=>cases r; rfl
 | ty _=>cases r; rfl
theorem RelV.inj {x y:V} {u:Value} (r:RelV x u) (q:RelV y u):x=y:=Option.some.inj (r.abs.symm.trans q.abs)
theorem Vals.inj:∀ {xs ys:List V} {us:List Value},Vals xs us->Vals ys us->xs=ys
 | _,_,_,.nil,.nil=>rfl
 | _,_,_,.cons r t,.cons r' t'=>by rw [r.inj r',Vals.inj t t']
section
variable {X:Cx} {pins:List (Addr×Obj)} {σ:St} {H:Hp} {s:Shared} {a:Addr} {xs ys:List V}
theorem SqL.of {K:PySem.W.Frag} (h:H a=some (.lst xs)):SqL K H a xs:=.inl (.inl h)
theorem SqT.of {K:PySem.W.Frag} (h:H a=some (.tup xs)):SqT K H a xs:=.inl (.inl h)
theorem Inv.list (I:Inv X pins σ H s) (h:SqL X.K H a xs):∃ its:List Value,Vals xs its/\PlainL s.heap a its.toArray/\xs.length<=sizeLine:=by
 rcases h with h | ⟨o,its,n,hk,hc,hd,hs,hz,r⟩
 . obtain ⟨z,its,n,r,e⟩:=h.ok I.hok
   exact ⟨its,r,⟨_,n,e,rfl,rfl,rfl⟩,z⟩
 . refine ⟨its.toList,r,⟨o,n,I.kIn a o hk,hc,hd,by simpa using hs⟩,?_⟩
   have e:=r.length
   simp only [Array.length_toList] at e
   omega
theorem Inv.tuple (I:Inv X pins σ H s) (h:SqT X.K H a xs):∃ its:List Value,Vals xs its/\IsTup s.heap a its.toArray/\xs.length<=sizeLine:=by
 rcases h with h | ⟨o,its,n,hk,hc,hs,hz,r⟩
 . obtain ⟨z,its,r,p⟩:=h.ok I.hok
   exact ⟨its,r,p,z⟩
 . refine ⟨its.toList,r,⟨o,I.kIn a o hk,hc,n,by simpa using hs⟩,?_⟩
   have e:=r.length
   simp only [Array.length_toList] at e
   omega
theorem Inv.zpT (I:Inv X pins σ H s) (h:SqL X.K H a xs) (h':SqL X.K H a ys):xs=ys:=by
 obtain ⟨its,r,⟨o,n,e,_,_,d⟩,_⟩:=I.list h
 obtain ⟨its',r',⟨o',n',e',_,_,d'⟩,_⟩:=I.list h'
 rw [e] at e'; cases e'
 rw [d] at d'
 injection d' with d1 _
 have:its=its':=by simpa using congrArg Array.toList d1
 subst this
 exact r.inj r'
theorem Inv.znQ (I:Inv X pins σ H s) (h:SqT X.K H a xs) (h':SqT X.K H a ys):xs=ys:=by
 obtain ⟨its,r,⟨o,e,_,n,d⟩,_⟩:=I.tuple h
 obtain ⟨its',r',⟨o',e',_,n',d'⟩,_⟩:=I.tuple h'
 rw [e] at e'; cases e'
 rw [d] at d'
 injection d' with d1 _
 have:its=its':=by simpa using congrArg Array.toList d1
 subst this
 exact r.inj r'
end
abbrev Cx.wish (X:Cx) (E:Value->Shared->Prop):Cx:={ X with xe:=E }
abbrev Cx.nox (X:Cx):Cx:=X.wish λ _ _=>False
theorem Cx.Ok.wish {X:Cx} (ok:X.Ok) (E:Value->Shared->Prop):(X.wish E).Ok :=
 ⟨ok.mod,ok.kind,ok.glob,ok.blt,ok.above,ok.inj,ok.has,ok.cab,ok.hd,ok.frames,ok.stk,ok.exf,ok.bs,ok.bsz,ok.noex,ok.exfs,ok.funs,ok.frf⟩
theorem Cx.Ok.ze7 {X:Cx} {E:Value->Shared->Prop} (ok:(X.wish E).Ok):X.Ok :=
 ⟨ok.mod,ok.kind,ok.glob,ok.blt,ok.above,ok.inj,ok.has,ok.cab,ok.hd,ok.frames,ok.stk,ok.exf,ok.bs,ok.bsz,ok.noex,ok.exfs,ok.funs,ok.frf⟩
section
variable {X:Cx} {pins:List (Addr×Obj)} {σ:St} {H:Hp} {s:Shared} {E:Value->Shared->Prop}
theorem Inv.wish (I:Inv X pins σ H s) (E:Value->Shared->Prop):Inv (X.wish E) pins σ H s:=⟨I.ok.wish E,I.os,I.bare,I.base,I.loc,I.cell,I.free,I.zdQ,I.pin,I.hok,I.len⟩
theorem Inv.ze7 (I:Inv (X.wish E) pins σ H s):Inv X pins σ H s:=⟨I.ok.ze7,I.os,I.bare,I.base,I.loc,I.cell,I.free,I.zdQ,I.pin,I.hok,I.len⟩
theorem SP.ze7 {D:Ends} {f:Flow} {s':Shared} (h:SP (X.wish E) pins D f s'):SP X pins D f s':=by
 cases f with
 | next=>obtain ⟨σ',H',I,q⟩:=h; exact ⟨σ',H',I.ze7,q⟩
 | brk=>obtain ⟨σ',H',I,q⟩:=h; exact ⟨σ',H',I.ze7,q⟩
 | cont=>obtain ⟨σ',H',I,q⟩:=h; exact ⟨σ',H',I.ze7,q⟩
 | ret u=>obtain ⟨v,σ',H',I,r,q⟩:=h; exact ⟨v,σ',H',I.ze7,r,q⟩
theorem PSs.nox {st:List Stmt} {t:TS} (h:PSs X.nox st t):PSs X st t:=λ pins s σ H D I hw =>
 wpAny_mono (h pins s σ H D (I.wish _) hw) (λ _ _ q=>q.ze7) λ _ _ z=>False.elim z
end
section
variable {X:Cx} {st:Stmt} {rest:List Stmt} {t u:TS} {e:Expr} {te:TE} {pos:Pos}
def zqN:TS:=λ D σ H=>D.nx σ H
def tSeq (t u:TS):TS:=λ D σ H=>t { D with nx:=u D } σ H
theorem zaO:PSs X [] zqN:=λ _ _ σ H _ I h=>wpAny_execs_nil ⟨σ,H,I,h⟩
theorem zac (h1:PS X st t) (h2:PSs X rest u):PSs X (st::rest) (tSeq t u):=by
 intro pins s σ H D I h
 refine wpAny_execs_cons (thn (h1 pins s σ H { D with nx:=u D } I h) λ f s1 q=>?_)
 cases f with
 | next =>
  obtain ⟨σ',H',I',q⟩:=q
  exact h2 pins s1 σ' H' D I' q
 | ret v=>exact q
 | brk=>exact q
 | cont=>exact q
theorem zah (h1:PS X st t):PSs X [st] t:=by
 intro pins s σ H D I h
 refine wpAny_execs_cons (thn (h1 pins s σ H D I h) λ f s1 q=>?_)
 cases f with
 | next=>exact wpAny_execs_nil q
 | ret v=>exact q
 | brk=>exact q
 | cont=>exact q
theorem Inv.quiet {pins:List (Addr×Obj)} {σ:St} {H:Hp} {s:Shared} (I:Inv X pins σ H s):interactive X.env=false:=by simp [interactive,I.ok.kind]
def zsN (te:TE):TS:=λ D σ H=>te σ H λ _ H1=>D.nx σ H1
theorem zaH (he:PE X e te) (hs:swapsWith e none pos.line X.env=pure false:=by rfl):PS X (.Expr e pos) (zsN te):=by
 intro pins s σ H D I h
 exact wpAny_Expr_any (thn (he pins s σ H _ I h) λ v s1 ⟨x,H1,I1,r1,q1⟩=>⟨σ,H1,I1,q1⟩) I.quiet hs
def tRet (te:TE):TS:=λ D σ H=>te σ H D.rt
theorem zaz (he:PE X e te):PS X (.Return (some e) pos) (tRet te):=by
 intro pins s σ H D I h
 exact wpAny_Return_some (thn (he pins s σ H _ I h) λ v s1 ⟨x,H1,I1,r1,q1⟩=>⟨x,σ,H1,I1,r1,q1⟩)
def tIfS (c:TT) (t u:TS):TS:=λ D σ H=>c σ H λ b H1=>if b=true then t D σ H1 else u D σ H1
theorem zbD {c:Expr} {a b:List Stmt} {tc:TT} (hc:PT X c tc) (ha:PSs X a t) (hb:PSs X b u):PS X (.If c a b pos) (tIfS tc t u):=by
 intro pins s σ H D I h
 refine wpAny_If (thn (hc pins s σ H _ I h) λ d s1 ⟨H1,I1,q1⟩=>?_)
 cases d with
 | true=>exact ha pins s1 σ H1 D I1 q1
 | false=>exact hb pins s1 σ H1 D I1 q1
end
abbrev TG:=V->St->Hp->(St->Hp->Prop)->Prop
abbrev TGs:=List V->St->Hp->(St->Hp->Prop)->Prop
def PG (X:Cx) (target:Expr) (t:TG):Prop :=
 ∀ (pins:List (Addr×Obj)) (s:Shared) (σ:St) (H:Hp) (v:V) (u:Value) (Q:St->Hp->Prop),Inv X pins σ H s->RelV v u->t v σ H Q ->
  wpAny (model X.prog X.w) X.A (assign target X.env u) (λ _ s'=>∃ σ' H',Inv X pins σ' H' s'/\Q σ' H') X.xe s
def PGs (X:Cx) (ts:List Expr) (t:TGs):Prop :=
 ∀ (pins:List (Addr×Obj)) (s:Shared) (σ:St) (H:Hp) (vs:List V) (us:List Value) (Q:St->Hp->Prop),Inv X pins σ H s->Vals vs us->t vs σ H Q ->
  wpAny (model X.prog X.w) X.A (assignInOrder ((assignEach ts X.env).map (·.2)) us) (λ _ s'=>∃ σ' H',Inv X pins σ' H' s'/\Q σ' H') X.xe s
section
variable {X:Cx} {pos:Pos}
def zp6 (i:Nat):TG:=λ v σ H Q=>Q (σ.set i (some v)) H
theorem za0 {i:Nat} {x:Str} (hN:X.N.Nodup) (hi:X.N[i]?=some x) (hx:Loc X.env.scope x) (hf:X.fn x=true\/X.env.scope.names.lookup x=some .local:=by first | exact .inl rfl | exact .inr rfl | assumption):PG X (.Name x pos) (zp6 i):=by
 intro pins s σ H v u Q I r h
 exact wpAny_assign_Name (zmk I hN hi hx r (λ s' I'=>⟨_,H,I',h⟩) hf)
def gNil:TGs:=λ vs σ H Q=>vs=[]/\Q σ H
def zta (t:TG) (u:TGs):TGs:=λ vs σ H Q=>∃ v r,vs=v::r/\t v σ H λ σ' H'=>u r σ' H' Q
theorem ziX:PGs X [] gNil:=by
 intro pins s σ H vs us Q I r h
 obtain ⟨e,h⟩:=h
 subst e
 cases r
 exact assignInOrder_nil ⟨σ,H,I,h⟩
theorem zck {e:Expr} {es:List Expr} {t:TG} {u:TGs} (h1:PG X e t) (h2:PGs X es u)
  (hs:(assignEach (e::es) X.env).map (·.2)=assign e X.env::(assignEach es X.env).map (·.2):=by rfl):PGs X (e::es) (zta t u):=by
 intro pins s σ H vs us Q I r h
 obtain ⟨v,vr,e1,h⟩:=h
 subst e1
 cases r with
 | cons r rr =>
  rw [hs]
  refine assignInOrder_cons (thn (h1 pins s σ H _ _ _ I r h) λ _ s1 ⟨σ1,H1,I1,q1⟩=>?_)
  exact h2 pins s1 σ1 H1 _ _ Q I1 rr q1
def gTup (K:PySem.W.Frag) (n:Nat) (t:TGs):TG:=λ v σ H Q=>∃ a xs,v=.ref a/\SqT K H a xs/\xs.length=n/\t xs σ H Q
theorem zog {es:List Expr} {k:Nat} {t:TGs} {n:Nat} (hc:X.calm=true) (h:PGs X es t)
  (hn:(assignEach es X.env).length=n:=by rfl) (hst:(assignEach es X.env).findIdx? (·.1)=none:=by rfl):PG X (.Tuple es k pos) (gTup X.K n t):=by
 intro pins s σ H v u Q I r hw
 obtain ⟨a,xs,e1,hq,hl,hw⟩:=hw
 subst e1
 cases r
 obtain ⟨its,rv,ht,hz⟩:=I.tuple hq
 refine assign_Tuple_tuple (I.ok.hd hc) ht (by simp [hn,<-hl,rv.length]) hst λ h' hx=>?_
 have I1:Inv X pins σ H { s with heap:=h' }:=I.kept (t':=s.toks) λ b o e=>hx b o (Nat.ne_of_lt (Heap.lt_size e)) e
 exact h pins _ σ H xs _ Q I1 (by simpa using rv) hw
def tAsg (te:TE) (g:TG):TS:=λ D σ H=>te σ H λ x H1=>g x σ H1 D.nx
theorem zaI {i:Nat} {x:Str} {e:Expr} {te:TE} {pos':Pos} (hN:X.N.Nodup) (hi:X.N[i]?=some x) (hx:Loc X.env.scope x) (he:PE X e te) (hs:swapsWith e (some (.Name x pos')) pos.line X.env=pure false:=by rfl) (hf:X.fn x=true\/X.env.scope.names.lookup x=some .local:=by first | exact .inl rfl | exact .inr rfl | assumption) :
  PS X (.Assign [.Name x pos'] e pos) (tAsg te (zp6 i)):=by
 intro pins s σ H D I h
 refine wpAny_Assign_Name (thn (he pins s σ H _ I h) λ v s1 ⟨y,H1,I1,r1,q1⟩=>?_) hs
 exact zmk I1 hN hi hx r1 (λ s2 I2=>⟨_,H1,I2,q1⟩) hf
end
section
variable {X:Cx} {pos:Pos}
def zrI (c:TT) (tb:TS):TS:=λ D σ H=>∃ W:Nat->St->Hp->Prop,(∃ m,W m σ H)/\∀ m σ H,W m σ H ->
 c σ H λ b H1=>if b=true then ∃ N:St->Hp->Prop,(∀ σ' H',N σ' H'->∃ m',m' < m/\W m' σ' H')/\tb { D with nx:=N,ct:=N,bk:=D.nx } σ H1 else D.nx σ H1
theorem zfg {c:Expr} {body:List Stmt} {tc:TT} {tb:TS} (hp:PassesOwn (model X.prog X.w) X.A X.env X.xe) (hc:PT X c tc) (hb:PSs X body tb):PS X (.While c body [] pos) (zrI tc tb):=by
 intro pins s σ H D I h
 obtain ⟨W,⟨m0,w0⟩,turn⟩:=h
 refine wpAny_While (codeAny_whileLoop (λ n s'=>∃ σ' H',Inv X pins σ' H' s'/\W n σ' H') ?_ m0 ⟨σ,H,I,w0⟩)
 rintro n s1 ⟨σ1,H1,I1,w1⟩
 refine wpAny_passesOwn hp (thn (hc pins s1 σ1 H1 _ I1 (turn n σ1 H1 w1)) λ b s2 ⟨H2,I2,q2⟩=>?_)
 cases b with
 | true =>
  obtain ⟨N,hN,q2⟩:=q2
  rw [if_pos rfl]
  refine wpAny_passesOwn hp (thn (hb pins s2 σ1 H2 _ I2 q2) λ f s3 q3=>?_)
  cases f with
  | next =>
   obtain ⟨σ3,H3,I3,n3⟩:=q3
   obtain ⟨m',hm,w3⟩:=hN σ3 H3 n3
   exact ⟨m',hm,σ3,H3,I3,w3⟩
  | cont =>
   obtain ⟨σ3,H3,I3,n3⟩:=q3
   obtain ⟨m',hm,w3⟩:=hN σ3 H3 n3
   exact ⟨m',hm,σ3,H3,I3,w3⟩
  | brk=>exact q3
  | ret v=>exact q3
 | false =>
  rw [if_neg Bool.false_ne_true]
  exact wpAny_execs_nil ⟨σ1,H2,I2,q2⟩
end
structure It where
 go:Nat->Hp->Prop
 yld:Nat->Hp->V->Hp->Prop
 stop:Nat->Hp->Prop
def FpOk (X:Cx) (pins:List (Addr×Obj)) (H:Hp) (b:Addr):Prop :=
 H b=none/\b≠X.env.locals/\b∉X.fs/\(b∈X.ex\/X.s₀.heap.objs.size<=b)/\(∀ x c,X.env.cells.lookup x=some c->c≠b)/\∀ p∈X.pn++pins,p.1≠b
theorem Inv.fpOk {X:Cx} {pins:List (Addr×Obj)} {σ:St} {H H':Hp} {s:Shared} {b:Addr} (I:Inv X pins σ H s) (hb:s.heap.objs.size<=b) (hn:H' b=none):FpOk X pins H' b:=by
 refine ⟨hn,Nat.ne_of_gt (Nat.lt_of_lt_of_le I.lt hb),I.nofs hb,.inr (Nat.le_trans I.sz hb),λ x c e z=>?_,λ p hp z=>?_⟩
 . obtain ⟨v,q⟩:=I.cell x c e
   exact absurd (Nat.lt_of_lt_of_le q.lt (by rw [z]; exact hb)) (Nat.lt_irrefl _)
 . exact absurd (Nat.lt_of_lt_of_le (Heap.lt_size (I.pin p hp).1) (by rw [z]; exact hb)) (Nat.lt_irrefl _)
structure Turn (P:Program) (w:World) (K:PySem.W.Frag) (tg:Expr) (J:It) (fp:List Addr) (it:Addr) (tn:Nat->Heap->Prop):Prop where
 mem:it∈fp
 obj:∀ i h,tn i h->∀ b∈fp,∃ o,h.get? b=some o/\∀ v,o.data≠.cell v
 keep:∀ i h h',tn i h->(∀ b∈fp,∀ o,h.get? b=some o->h'.get? b=some o)->tn i h'
 item:∀ (X:Cx),X.prog=P->X.w=w->X.K=K->X.calm=true->∀ (i:Nat) (pins:List (Addr×Obj)) (s:Shared) (σ:St) (H:Hp) (E:Value->Shared->Prop),Inv X pins σ H s->(∀ b∈fp,FpOk X pins H b)->tn i s.heap->J.go i H ->
  wpAny (model P w) X.A (pyNext (.ref it)) (λ r s1=>∃ u,r=some u /\
   wpAny (model P w) X.A (letOwnedTupleGo tg (.ref it) u) (λ _ s2=>∃ x H',Inv X pins σ H' s2/\RelV x u/\J.yld i H x H'/\tn (i+1) s2.heap/\∀ b∈fp,H' b=none) E s1) E s
 done:∀ (X:Cx),X.prog=P->X.w=w->X.K=K->X.calm=true->∀ (i:Nat) (pins:List (Addr×Obj)) (s:Shared) (σ:St) (H:Hp) (E:Value->Shared->Prop),Inv X pins σ H s->(∀ b∈fp,FpOk X pins H b)->tn i s.heap->J.stop i H ->
  wpAny (model P w) X.A (pyNext (.ref it)) (λ r s1=>r=none/\Inv X pins σ H s1) E s
 self:∀ (A:Around) (i:Nat) (s:Shared) (Q:Value->Shared->Prop) (E:Value->Shared->Prop),tn i s.heap->Q (.ref it) s->wpAny (model P w) A (pyIter (.ref it)) Q E s
abbrev TI:=St->Hp->(It->Hp->Prop)->Prop
def PIE (X:Cx) (pins:List (Addr×Obj)) (σ:St) (tg:Expr) (R:It->Hp->Prop) (itv:Value) (s2:Shared):Prop :=
 ∃ (it:Addr) (fp:List Addr) (tn:Nat->Heap->Prop) (J:It) (H':Hp),itv=.ref it/\Inv X pins σ H' s2/\Turn X.prog X.w X.K tg J fp it tn/\tn 0 s2.heap/\(∀ b∈fp,FpOk X pins H' b)/\R J H'
def PI (X:Cx) (tg iter:Expr) (wi:TI):Prop :=
 ∀ (pins:List (Addr×Obj)) (s:Shared) (σ:St) (H:Hp) (R:It->Hp->Prop),Inv X pins σ H s->wi σ H R ->
  wpAny (model X.prog X.w) X.A (eval iter X.env) (λ v s1=>wpAny (model X.prog X.w) X.A (pyIter v) (PIE X pins σ tg R) X.xe s1) X.xe s
theorem zp2 {M:Model} {A:Around} {E:Value->Shared->Prop} {s:Shared} {tg:Expr} {it:Addr} {u:Value} {o:Obj} {n:String} {vs:Array Value} {Q:Unit->Shared->Prop} (ho:s.heap.get? it=some o) (hc:o.cls=.type n) (hd:o.data=.fields vs)
    (hn:["enumerate","zip","dict_itemiterator","dict_reverseitemiterator","odict_iterator","itertools.zip_longest","itertools.pairwise"].contains n=false) (hQ:Q () s):wpAny M A (letOwnedTupleGo tg (.ref it) u) Q E s:=by
  unfold letOwnedTupleGo
  cases tg <;> first
    | exact wpAny_pure hQ
    | (cases u <;> first
        | exact wpAny_pure hQ
        | (refine wpAny_bind (wpAny_load ho ?_)
           rw [hc,hd]
           show wpAny M A (if (["enumerate","zip","dict_itemiterator","dict_reverseitemiterator","odict_iterator","itertools.zip_longest","itertools.pairwise"].contains n && vs[0]? == some (rawInt _))=true then _ else _) Q E s
           rw [if_neg (by intro h; rw [hn,Bool.false_and] at h; cases h)]
           exact wpAny_pure hQ))
def Itl (K:PySem.W.Frag) (a:Addr):It :=
 ⟨λ i H=>∃ xs x,SqL K H a xs/\xs[i]?=some x,λ i H x H'=>H'=H/\∀ xs,SqL K H a xs->xs[i]?=some x,λ i H=>∃ xs,SqL K H a xs/\xs.length<=i⟩
def Itt (K:PySem.W.Frag) (a:Addr):It :=
 ⟨λ i H=>∃ xs x,SqT K H a xs/\xs[i]?=some x,λ i H x H'=>H'=H/\∀ xs,SqT K H a xs->xs[i]?=some x,λ i H=>∃ xs,SqT K H a xs/\xs.length<=i⟩
def Itr (lo:Int) (n:Nat):It:=⟨λ i _=>i < n,λ i H x H'=>H'=H/\x=.int (lo+i),λ i _=>n<=i⟩
theorem znO {P:Program} {w:World} {K:PySem.W.Frag} {tg:Expr} (a it:Addr):Turn P w K tg (Itl K a) [it] it (λ i h=>h.IsListIter it a i) where
 mem:=by simp
 obj:=λ i h st b hb=>by
  have e:b=it:=by simpa using hb
  subst e
  obtain ⟨o,e,c,d⟩:=st
  exact ⟨o,e,λ v z=>by rw [d] at z; cases z⟩
 keep:=λ i h h' st k=>st.at λ o e=>k it (by simp) o e
 item:=by
  intro X hP hw hK hc i pins s σ H E I hf st hg
  subst hP hw hK
  obtain ⟨xs,x,hq,hx⟩:=hg
  obtain ⟨its,rv,p,hz⟩:=I.list hq
  obtain ⟨u,hu,ru⟩:=rv.get hx
  obtain ⟨f0,f1,f2,f3,f4,f5⟩:=hf it (by simp)
  refine wpAny_pyNext_list_item st p.isList (x:=u) (by simpa using hu) λ h' st' sb=>?_
  have I1:Inv X pins σ H { s with heap:=h' }:=I.turned (t':=s.toks) (λ b o hb e=>(sb.2 b hb).trans e) f0 f1 f3 f4 f5
  obtain ⟨o,e,c,d⟩:=id st'
  exact ⟨u,rfl,zp2 (s:={ s with heap:=h' }) e c d (by decide) ⟨x,H,I1,ru,⟨rfl,λ ys hy=>by rw [I.zpT hy hq]; exact hx⟩,st',λ b hb=>(hf b hb).1⟩⟩
 done:=by
  intro X hP hw hK hc i pins s σ H E I hf st hg
  subst hP hw hK
  obtain ⟨xs,hq,hx⟩:=hg
  obtain ⟨its,rv,p,hz⟩:=I.list hq
  obtain ⟨f0,f1,f2,f3,f4,f5⟩:=hf it (by simp)
  have hl:=rv.length
  exact wpAny_pyNext_list_end (I.ok.hd hc) st p.isList (by simp; omega) λ h' eb=>⟨rfl,I.turned (t':=s.toks) (λ b o hb e=>eb b o hb e) f0 f1 f3 f4 f5⟩
 self:=λ _ _ _ _ _ st h=>wpAny_pyIter_listiter st h
theorem zmV {P:Program} {w:World} {K:PySem.W.Frag} {tg:Expr} (a it:Addr):Turn P w K tg (Itt K a) [it] it (λ i h=>h.IsTupleIter it a i) where
 mem:=by simp
 obj:=λ i h st b hb=>by
  have e:b=it:=by simpa using hb
  subst e
  obtain ⟨o,e,c,d⟩:=st
  exact ⟨o,e,λ v z=>by rw [d] at z; cases z⟩
 keep:=λ i h h' st k=>st.at λ o e=>k it (by simp) o e
 item:=by
  intro X hP hw hK hc i pins s σ H E I hf st hg
  subst hP hw hK
  obtain ⟨xs,x,hq,hx⟩:=hg
  obtain ⟨its,rv,p,hz⟩:=I.tuple hq
  obtain ⟨u,hu,ru⟩:=rv.get hx
  obtain ⟨f0,f1,f2,f3,f4,f5⟩:=hf it (by simp)
  refine wpAny_pyNext_tuple_item st (show s.heap.IsTuple a its.toArray from p) (x:=u) (by simpa using hu) λ h' st' sb=>?_
  have I1:Inv X pins σ H { s with heap:=h' }:=I.turned (t':=s.toks) (λ b o hb e=>(sb.2 b hb).trans e) f0 f1 f3 f4 f5
  obtain ⟨o,e,c,d⟩:=id st'
  exact ⟨u,rfl,zp2 (s:={ s with heap:=h' }) e c d (by decide) ⟨x,H,I1,ru,⟨rfl,λ ys hy=>by rw [I.znQ hy hq]; exact hx⟩,st',λ b hb=>(hf b hb).1⟩⟩
 done:=by
  intro X hP hw hK hc i pins s σ H E I hf st hg
  subst hP hw hK
  obtain ⟨xs,hq,hx⟩:=hg
  obtain ⟨its,rv,p,hz⟩:=I.tuple hq
  obtain ⟨f0,f1,f2,f3,f4,f5⟩:=hf it (by simp)
  have hl:=rv.length
  exact wpAny_pyNext_tuple_end (I.ok.hd hc) st (show s.heap.IsTuple a its.toArray from p) (by simp; omega) λ h' eb=>⟨rfl,I.turned (t':=s.toks) (λ b o hb e=>eb b o hb e) f0 f1 f3 f4 f5⟩
 self:=λ _ _ _ _ _ st h=>wpAny_pyIter_tupleiter st h
theorem zmW {P:Program} {w:World} {K:PySem.W.Frag} {tg:Expr} (it:Addr) (lo:Int) (n:Nat):Turn P w K tg (Itr lo n) [it] it (λ i h=>IsRangeIter h it (lo+(i:Nat) * 1) ((n:Int) - (i:Nat)) 1) where
 mem:=by simp
 obj:=λ i h st b hb=>by
  have e:b=it:=by simpa using hb
  subst e
  exact ⟨_,st,λ v z=>by
   have z':Data.fields _=Data.cell v:=z
   cases z'⟩
 keep:=λ i h h' st k=>k it (by simp) _ st
 item:=by
  intro X hP hw hK hc i pins s σ H E I hf st hg
  subst hP hw hK
  obtain ⟨f0,f1,f2,f3,f4,f5⟩:=hf it (by simp)
  have W:=Walks.range (prog:=X.prog) (w:=X.w) (I.ok.hd hc) it lo 1 n
  refine W.item i s _ _ hg st λ v h' tk hv st' kk=>?_
  obtain ⟨t,rfl⟩:=hv
  have I1:Inv X pins σ H { s with heap:=h',toks:=tk }:=I.turned (λ b o hb e=>kk b o (by simpa using hb) e) f0 f1 f3 f4 f5
  refine ⟨_,rfl,zp2 (s:={ s with heap:=h',toks:=tk }) (n := "range_iterator") st' rfl rfl (by decide) ⟨.int (lo+i),H,I1,⟨t,?_⟩,⟨rfl,rfl⟩,st',λ b hb=>(hf b hb).1⟩⟩
  rw [Int.mul_one]
 done:=by
  intro X hP hw hK hc i pins s σ H E I hf st hg
  subst hP hw hK
  obtain ⟨f0,f1,f2,f3,f4,f5⟩:=hf it (by simp)
  exact wpAny_pyNext_range_end (I.ok.hd hc) st (by have:n<=i:=hg; omega) λ h' eb=>⟨rfl,I.turned (t':=s.toks) (λ b o hb e=>eb b o hb e) f0 f1 f3 f4 f5⟩
 self:=λ _ _ _ _ _ st h=>wpAny_pyIter_rangeiter st h
end L2
namespace L2
open PySem PySem.Spec PyProof.Rows
section
variable {X:Cx} {tg:Expr}
def zsq (K:PySem.W.Frag) (tl:TE):TI:=λ σ H R=>tl σ H λ x H1=>∃ a,x=.ref a/\(∃ xs,SqL K H1 a xs)/\R (Itl K a) H1
def iTup (K:PySem.W.Frag) (tl:TE):TI:=λ σ H R=>tl σ H λ x H1=>∃ a,x=.ref a/\(∃ xs,SqT K H1 a xs)/\R (Itt K a) H1
theorem zda {l:Expr} {tl:TE} (hl:PE X l tl):PI X tg l (zsq X.K tl):=by
 intro pins s σ H R I h
 refine thn (hl pins s σ H _ I h) λ v s1 ⟨x,H1,I1,r1,q1⟩=>?_
 obtain ⟨a,e,⟨xs,hq⟩,q⟩:=q1
 subst e
 cases r1
 obtain ⟨its,rv,p,hz⟩:=I1.list hq
 refine wpAny_pyIter_list p.isList ?_
 refine ⟨s1.heap.objs.size,[s1.heap.objs.size],_,_,H1,rfl,I1.kept (t':=s1.toks) λ b o e=>Heap.get?_push_of_some _ e,znO a _,⟨_,Heap.get?_push_size _ rfl,rfl,rfl⟩,λ b hb=>?_,q⟩
 have e:b=s1.heap.objs.size:=by simpa using hb
 subst e
 exact I1.fpOk (Nat.le_refl _) (I1.hok.fresh (Nat.le_refl _))
theorem zms {l:Expr} {tl:TE} (hl:PE X l tl):PI X tg l (iTup X.K tl):=by
 intro pins s σ H R I h
 refine thn (hl pins s σ H _ I h) λ v s1 ⟨x,H1,I1,r1,q1⟩=>?_
 obtain ⟨a,e,⟨xs,hq⟩,q⟩:=q1
 subst e
 cases r1
 obtain ⟨its,rv,p,hz⟩:=I1.tuple hq
 refine wpAny_pyIter_tuple (show s1.heap.IsTuple a its.toArray from p) ?_
 refine ⟨s1.heap.objs.size,[s1.heap.objs.size],_,_,H1,rfl,I1.kept (t':=s1.toks) λ b o e=>Heap.get?_push_of_some _ e,zmV a _,⟨_,Heap.get?_push_size _ rfl,rfl,rfl⟩,λ b hb=>?_,q⟩
 have e:b=s1.heap.objs.size:=by simpa using hb
 subst e
 exact I1.fpOk (Nat.le_refl _) (I1.hok.fresh (Nat.le_refl _))
theorem zpE {pins:List (Addr×Obj)} {σ:St} {H:Hp} {s:Shared} {R:It->Hp->Prop} {E:Value->Shared->Prop} {lo hi:Int} {t u v:Tok} {tk:Nat} (I:Inv X pins σ H s) (h1:-(2 ^ 62)<=lo) (h2:lo < 2 ^ 62) (h3:-(2 ^ 62)<=hi) (h4:hi < 2 ^ 62)
   (q:R (Itr lo (hi - lo).toNat) H):wpAny (model X.prog X.w) X.A (pyIter (.ref s.heap.objs.size)) (PIE X pins σ tg R) E { s with heap:=s.heap.push { cls:=.type "range",data:=.fields #[.int lo t,.int hi u,.int 1 v] },toks:=tk }:=by
 refine wpAny_pyIter_range (IsRange.new ..) (small_one h1 h2 h3 h4) ?_
 have I1:Inv X pins σ H { s with heap:=s.heap.push { cls:=.type "range",data:=.fields #[.int lo t,.int hi u,.int 1 v] },toks:=tk }:=I.kept λ b o e=>Heap.get?_push_of_some _ e
 refine ⟨(s.heap.push { cls:=.type "range",data:=.fields #[.int lo t,.int hi u,.int 1 v] }).objs.size,[(s.heap.push { cls:=.type "range",data:=.fields #[.int lo t,.int hi u,.int 1 v] }).objs.size],_,_,H,rfl,
   I1.kept (t':=tk) λ b o e=>Heap.get?_push_of_some _ e,zmW _ lo (hi - lo).toNat,?_,λ b hb=>?_,q⟩
 . have e1:lo+((0:Nat):Int) * 1=lo:=by simp
   have e2:(((hi - lo).toNat:Nat):Int) - ((0:Nat):Int)=Builtin.Range.rangeSize lo hi 1:=by rw [rangeSize_one]; split <;> omega
   show IsRangeIter _ _ (lo+((0:Nat):Int) * 1) ((((hi - lo).toNat:Nat):Int) - ((0:Nat):Int)) 1
   rw [e1,e2]
   exact Heap.get?_push_size _ rfl
 . have e:b=(s.heap.push { cls:=.type "range",data:=.fields #[.int lo t,.int hi u,.int 1 v] }).objs.size:=by simpa using hb
   subst e
   exact I1.fpOk (Nat.le_refl _) (I1.hok.fresh (Nat.le_refl _))
def zs6 (ta:TA):TI:=λ σ H R=>ta σ H λ vs H1=>∃ j:Int,vs=[.int j]/\-(2 ^ 62)<=j/\j < 2 ^ 62/\R (Itr 0 j.toNat) H1
theorem zg6 {a:Expr} {ta:TA} {p pos:Pos} (hg:Gl X "range") (hm:X.mg "range" = none) (ha:PA X [a] ta) (hs:starEach [a] X.env=[(false,eval a X.env)]:=by rfl):PI X tg (.Call (.Name "range" p) [a] [] pos) (zs6 ta):=by
 intro pins s σ H R I h
 refine Call_ (zmB I hg hm boot_range (PyProof.Rows.callWith_type1 (thn (ha pos pins s σ H _ I h) λ us s1 ⟨vs,H1,I1,r1,q1⟩=>?_) hs rfl))
 obtain ⟨j,e,q1,q2,q⟩:=q1
 subst e
 cases r1 with
 | cons r rr =>
  cases rr
  obtain ⟨t,rfl⟩:=r
  exact call_range_1 (zpE I1 (by omega) (by omega) q1 q2 (by simpa using q))
def tFor (wi:TI) (g:TG) (tb:TS):TS:=λ D σ H=>wi σ H λ J H1=>∃ W:Nat->Nat->St->Hp->Prop,(∃ m,W 0 m σ H1)/\∀ i m σ H,W i m σ H ->
 (J.stop i H/\D.nx σ H)\/(J.go i H/\∃ N:St->Hp->Prop,(∀ σ' H',N σ' H'->∃ m',m' < m/\W (i+1) m' σ' H')/\∀ x H',J.yld i H x H'->g x σ H' λ σ2 H2=>tb { D with nx:=N,ct:=N,bk:=D.nx } σ2 H2)
def zj2 (fp:List Addr) (h:Heap):List (Addr×Obj):=fp.filterMap λ b=>(h.get? b).map λ o=>(b,o)
theorem zfT {fp:List Addr} {h:Heap} {b:Addr} {o:Obj} (hb:b∈fp) (e:h.get? b=some o):(b,o)∈zj2 fp h:=List.mem_filterMap.mpr ⟨b,hb,by rw [e]; rfl⟩
theorem zos {fp:List Addr} {h:Heap} {p:Addr×Obj} (hp:p∈zj2 fp h):p.1∈fp/\h.get? p.1=some p.2:=by
 obtain ⟨b,hb,e⟩:=List.mem_filterMap.mp hp
 cases q:h.get? b with
 | none=>rw [q] at e; cases e
 | some o =>
  rw [q] at e
  have e':(b,o)=p:=Option.some.inj e
  subst e'
  exact ⟨hb,q⟩
theorem Inv.pinned {pins:List (Addr×Obj)} {σ:St} {H:Hp} {s:Shared} {fp:List Addr} (I:Inv X pins σ H s) (hf:∀ b∈fp,FpOk X pins H b) (ho:∀ b∈fp,∃ o,s.heap.get? b=some o/\∀ v,o.data≠.cell v):Inv X (pins++zj2 fp s.heap) σ H s :=
 I.zg4 λ p hp=>(List.mem_append.mp hp).elim (λ z=>I.pin p (List.mem_append_right _ z)) λ z=>by
  obtain ⟨hb,e⟩:=zos z
  obtain ⟨f0,f1,f2,_⟩:=hf p.1 hb
  obtain ⟨o,e',d⟩:=ho p.1 hb
  rw [e] at e'; cases e'
  exact ⟨e,f0,f1,f2,d⟩
theorem Inv.ziM {pins pl:List (Addr×Obj)} {σ:St} {H:Hp} {s:Shared} (I:Inv X (pins++pl) σ H s):Inv X pins σ H s:=I.zg4 λ p hp=>I.pin p (List.mem_append_right _ (List.mem_append_left _ hp))
theorem zgj {iter:Expr} {body:List Stmt} {wi:TI} {g:TG} {tb:TS} {pos:Pos} (hp:PassesOwn (model X.prog X.w) X.A X.env X.xe) (hc:X.calm=true) (hi:PI X tg iter wi) (hg:PG X tg g) (hb:PSs X body tb)
   (hs:∀ x,foldedSetIterable iter X.env x=pure x:=by intro _; rfl):PS X (.For tg iter body [] pos) (tFor wi g tb):=by
 intro pins s σ H D I h
 refine wpAny_For (thn (hi pins s σ H _ I h) λ v s1 h1=>thn h1 λ itv s2 h2=>?_) hs
 obtain ⟨it,fp,tn,J,H2,e,I2,T,st2,f2,W,⟨m0,w0⟩,turn⟩:=h2
 subst e
 have stat:∀ {H':Hp},(∀ b∈fp,H' b=none)->∀ b∈fp,FpOk X pins H' b:=λ hn b hb=>⟨hn b hb,(f2 b hb).2⟩
 refine codeAny_forLoop_any (λ n s'=>∃ i σ' H',Inv X pins σ' H' s'/\tn i s'.heap/\(∀ b∈fp,H' b=none)/\W i n σ' H') ?_ m0 ⟨0,σ,H2,I2,st2,λ b hb=>(f2 b hb).1,w0⟩
 rintro n s3 ⟨i,σ3,H3,I3,st3,fr3,w3⟩
 rcases turn i n σ3 H3 w3 with ⟨stop,qn⟩ | ⟨go,N,hN,step⟩
 . refine wpAny_passesOwn hp (thn (T.done X rfl rfl rfl hc i pins s3 σ3 H3 X.xe I3 (stat fr3) st3 stop) λ r s4 ⟨hr,I4⟩=>?_)
   subst hr
   exact wpAny_execs_nil ⟨σ3,H3,I4,qn⟩
 . refine wpAny_passesOwn hp (thn (T.item X rfl rfl rfl hc i pins s3 σ3 H3 X.xe I3 (stat fr3) st3 go) λ r s4 ⟨u,hr,h4⟩=>?_)
   subst hr
   refine wpAny_passesOwn hp (thn h4 λ _ s5 ⟨x,H5,I5,r5,y5,st5,fr5⟩=>?_)
   have I5':=I5.pinned (stat fr5) (T.obj _ _ st5)
   refine wpAny_passesOwn hp (thn (hg _ s5 σ3 H5 x u _ I5' r5 (step x H5 y5)) λ _ s6 ⟨σ6,H6,I6,q6⟩=>?_)
   refine wpAny_passesOwn hp (thn (hb _ s6 σ6 H6 _ I6 q6) λ f s7 q7=>?_)
   have again:∀ {σ7:St} {H7:Hp},Inv X (pins++zj2 fp s5.heap) σ7 H7 s7->N σ7 H7->∃ m,m < n/\∃ i σ' H',Inv X pins σ' H' s7/\tn i s7.heap/\(∀ b∈fp,H' b=none)/\W i m σ' H':=λ {σ7 H7} I7 n7=>by
    obtain ⟨m',hm,w7⟩:=hN σ7 H7 n7
    refine ⟨m',hm,i+1,σ7,H7,I7.ziM,T.keep _ _ _ st5 λ b hb o e=>(I7.pin (b,o) (List.mem_append_right _ (List.mem_append_right _ (zfT hb e)))).1,λ b hb=>?_,w7⟩
    obtain ⟨o,e,d⟩:=T.obj _ _ st5 b hb
    exact (I7.pin (b,o) (List.mem_append_right _ (List.mem_append_right _ (zfT hb e)))).2.1
   cases f with
   | next=>obtain ⟨σ7,H7,I7,n7⟩:=q7; exact again I7 n7
   | cont=>obtain ⟨σ7,H7,I7,n7⟩:=q7; exact again I7 n7
   | brk=>obtain ⟨σ7,H7,I7,q7⟩:=q7; exact ⟨σ7,H7,I7.ziM,q7⟩
   | ret v=>obtain ⟨x7,σ7,H7,I7,r7,q7⟩:=q7; exact ⟨x7,σ7,H7,I7.ziM,r7,q7⟩
end
theorem zfv {K:PySem.W.Frag} {a:Addr} {xs:List V} {g:TG} {tb:TS} {D:Ends} {σ:St} {H:Hp} (Pv:Nat->St->Hp->Prop) (h0:Pv 0 σ H) (hl:∀ i σ H,i<=xs.length->Pv i σ H->SqL K H a xs)
   (hs:∀ i x σ H,xs[i]?=some x->Pv i σ H->g x σ H λ σ2 H2=>tb { D with nx:=Pv (i+1),ct:=Pv (i+1),bk:=D.nx } σ2 H2) (hd:∀ σ H,Pv xs.length σ H->D.nx σ H) :
   ∃ W:Nat->Nat->St->Hp->Prop,(∃ m,W 0 m σ H)/\∀ i m σ H,W i m σ H ->
    ((Itl K a).stop i H/\D.nx σ H)\/((Itl K a).go i H/\∃ N:St->Hp->Prop,(∀ σ' H',N σ' H'->∃ m',m' < m/\W (i+1) m' σ' H')/\∀ x H',(Itl K a).yld i H x H'->g x σ H' λ σ2 H2=>tb { D with nx:=N,ct:=N,bk:=D.nx } σ2 H2):=by
 refine ⟨λ i m σ H=>m=xs.length - i/\i<=xs.length/\Pv i σ H,⟨xs.length,by simp,Nat.zero_le _,h0⟩,?_⟩
 rintro i m σ H ⟨rfl,hi,p⟩
 have q:=hl i σ H hi p
 by_cases hlt:i < xs.length
 . refine .inr ⟨⟨xs,xs[i],q,by simp [hlt]⟩,Pv (i+1),λ σ' H' p'=>⟨xs.length - (i+1),by omega,rfl,hlt,p'⟩,λ x H' y=>?_⟩
   obtain ⟨e,y⟩:=y
   subst e
   exact hs i x σ _ (y xs q) p
 . have e:i=xs.length:=by omega
   subst e
   exact .inl ⟨⟨xs,q,Nat.le_refl _⟩,hd σ H p⟩
theorem zo1 {K:PySem.W.Frag} {a:Addr} {xs:List V} {g:TG} {tb:TS} {D:Ends} {σ:St} {H:Hp} (Pv:Nat->St->Hp->Prop) (h0:Pv 0 σ H) (hl:∀ i σ H,i<=xs.length->Pv i σ H->SqT K H a xs)
   (hs:∀ i x σ H,xs[i]?=some x->Pv i σ H->g x σ H λ σ2 H2=>tb { D with nx:=Pv (i+1),ct:=Pv (i+1),bk:=D.nx } σ2 H2) (hd:∀ σ H,Pv xs.length σ H->D.nx σ H) :
   ∃ W:Nat->Nat->St->Hp->Prop,(∃ m,W 0 m σ H)/\∀ i m σ H,W i m σ H ->
    ((Itt K a).stop i H/\D.nx σ H)\/((Itt K a).go i H/\∃ N:St->Hp->Prop,(∀ σ' H',N σ' H'->∃ m',m' < m/\W (i+1) m' σ' H')/\∀ x H',(Itt K a).yld i H x H'->g x σ H' λ σ2 H2=>tb { D with nx:=N,ct:=N,bk:=D.nx } σ2 H2):=by
 refine ⟨λ i m σ H=>m=xs.length - i/\i<=xs.length/\Pv i σ H,⟨xs.length,by simp,Nat.zero_le _,h0⟩,?_⟩
 rintro i m σ H ⟨rfl,hi,p⟩
 have q:=hl i σ H hi p
 by_cases hlt:i < xs.length
 . refine .inr ⟨⟨xs,xs[i],q,by simp [hlt]⟩,Pv (i+1),λ σ' H' p'=>⟨xs.length - (i+1),by omega,rfl,hlt,p'⟩,λ x H' y=>?_⟩
   obtain ⟨e,y⟩:=y
   subst e
   exact hs i x σ _ (y xs q) p
 . have e:i=xs.length:=by omega
   subst e
   exact .inl ⟨⟨xs,q,Nat.le_refl _⟩,hd σ H p⟩
theorem zo2 {lo:Int} {n:Nat} {g:TG} {tb:TS} {D:Ends} {σ:St} {H:Hp} (Pv:Nat->St->Hp->Prop) (h0:Pv 0 σ H)
   (hs:∀ i σ H,i < n->Pv i σ H->g (.int (lo+i)) σ H λ σ2 H2=>tb { D with nx:=Pv (i+1),ct:=Pv (i+1),bk:=D.nx } σ2 H2) (hd:∀ σ H,Pv n σ H->D.nx σ H) :
   ∃ W:Nat->Nat->St->Hp->Prop,(∃ m,W 0 m σ H)/\∀ i m σ H,W i m σ H ->
    ((Itr lo n).stop i H/\D.nx σ H)\/((Itr lo n).go i H/\∃ N:St->Hp->Prop,(∀ σ' H',N σ' H'->∃ m',m' < m/\W (i+1) m' σ' H')/\∀ x H',(Itr lo n).yld i H x H'->g x σ H' λ σ2 H2=>tb { D with nx:=N,ct:=N,bk:=D.nx } σ2 H2):=by
 refine ⟨λ i m σ H=>m=n - i/\i<=n/\Pv i σ H,⟨n,by simp,Nat.zero_le _,h0⟩,?_⟩
 rintro i m σ H ⟨rfl,hi,p⟩
 by_cases hlt:i < n
 . refine .inr ⟨hlt,Pv (i+1),λ σ' H' p'=>⟨n - (i+1),by omega,rfl,hlt,p'⟩,λ x H' y=>?_⟩
   obtain ⟨e,y⟩:=y
   subst e y
   exact hs i σ _ hlt p
 . have e:i=n:=by omega
   subst e
   exact .inl ⟨Nat.le_refl _,hd σ H p⟩
end L2
namespace L2
open PySem PySem.Spec PyProof.Rows
abbrev R2:=V->V->Hp->VK->Prop
def OpR (X:Cx) (f:Value->Value->Sem Value) (r:R2):Prop :=
 ∀ (pins:List (Addr×Obj)) (s:Shared) (σ:St) (H:Hp) (x y:V) (v u:Value) (Q:VK),Inv X pins σ H s->RelV x v->RelV y u->r x y H Q ->
  wpAny (model X.prog X.w) X.A (f v u) (EP X pins σ Q) X.xe s
def UnR (X:Cx) (f:Value->Sem Value) (r:V->Hp->VK->Prop):Prop :=
 ∀ (pins:List (Addr×Obj)) (s:Shared) (σ:St) (H:Hp) (x:V) (v:Value) (Q:VK),Inv X pins σ H s->RelV x v->r x H Q ->
  wpAny (model X.prog X.w) X.A (f v) (EP X pins σ Q) X.xe s
def zgH (X:Cx) (f:Value) (r:List V->Hp->VK->Prop):Prop :=
 ∀ (pins:List (Addr×Obj)) (s:Shared) (σ:St) (H:Hp) (xs:List V) (us:List Value) (Q:VK),Inv X pins σ H s->Vals xs us->r xs H Q ->
  wpAny (model X.prog X.w) X.A (call f us) (EP X pins σ Q) X.xe s
def TruR (X:Cx) (r:V->Hp->(Bool->Hp->Prop)->Prop):Prop :=
 ∀ (pins:List (Addr×Obj)) (s:Shared) (σ:St) (H:Hp) (x:V) (v:Value) (Q:Bool->Hp->Prop),Inv X pins σ H s->RelV x v->r x H Q ->
  wpAny (model X.prog X.w) X.A (truthy v) (TP X pins σ Q) X.xe s
def tOp (r:R2) (ta tb:TE):TE:=λ σ H Q=>ta σ H λ x H1=>tb σ H1 λ y H2=>r x y H2 Q
def tUn (r:V->Hp->VK->Prop) (ta:TE):TE:=λ σ H Q=>ta σ H λ x H1=>r x H1 Q
def rI (C:Int->Int->Prop) (g:Int->Int->V):R2:=λ x y H Q=>∃ i j,x=.int i/\y=.int j/\C i j/\Q (g i j) H
def rI0 (g:Int->Int->V):R2:=λ x y H Q=>∃ i j,x=.int i/\y=.int j/\Q (g i j) H
def rU (g:Int->V):V->Hp->VK->Prop:=λ x H Q=>∃ i,x=.int i/\Q (g i) H
section
variable {X:Cx} {a b c:Expr} {ta tb tc:TE} {pos:Pos}
theorem binT (ha:PE X a ta) (hb:PE X b tb) {pins:List (Addr×Obj)} {s:Shared} {σ:St} {H:Hp} {R:V->V->Hp->Prop} (I:Inv X pins σ H s)
  (h:ta σ H λ x H1=>tb σ H1 λ y H2=>R x y H2) {Q:Value->Shared->Prop} {f:Value->Value->Sem Value}
  (hf:∀ v u s2 x y H2,Inv X pins σ H2 s2->RelV x v->RelV y u->R x y H2->wpAny (model X.prog X.w) X.A (f v u) Q X.xe s2) :
  wpAny (model X.prog X.w) X.A (eval a X.env) (λ v s₁=>wpAny (model X.prog X.w) X.A (eval b X.env) (λ u s₂=>wpAny (model X.prog X.w) X.A (f v u) Q X.xe s₂) X.xe s₁) X.xe s:=by
 refine thn (ha pins s σ H _ I h) λ v s1 ⟨x,H1,I1,r1,q1⟩=>?_
 refine thn (hb pins s1 σ H1 _ I1 q1) λ u s2 ⟨y,H2,I2,r2,q2⟩=>?_
 exact hf v u s2 x y H2 I2 r1 r2 q2
theorem zcG {op:Operator} {r:R2} (ho:OpR X (binaryOp op) r) (ha:PE X a ta) (hb:PE X b tb):PE X (.BinOp a op b pos) (tOp r ta tb):=by
 intro pins s σ H Q I h
 exact wpAny_BinOp (binT ha hb I h λ v u s2 x y H2 I2 rx ry q=>ho pins s2 σ H2 x y v u Q I2 rx ry q)
theorem zq8 {op:UnaryOp} {r:V->Hp->VK->Prop} (ho:UnR X (unaryOp op) r) (ha:PE X a ta):PE X (.UnaryOp op a pos) (tUn r ta):=by
 intro pins s σ H Q I h
 exact UnaryOp_ (thn (ha pins s σ H _ I h) λ v s1 ⟨x,H1,I1,r1,q1⟩=>ho pins s1 σ H1 x v Q I1 r1 q1)
theorem opI {f:Value->Value->Sem Value} {C:Int->Int->Prop} {g:Int->Int->Int}
  (rule:∀ (i j:Int) (t u:Tok) (s:Shared) (Q:Value->Shared->Prop) (E:Value->Shared->Prop),C i j->Q (.int (g i j) s.toks) { s with toks:=s.toks+1 }->wpAny (model X.prog X.w) X.A (f (.int i t) (.int j u)) Q E s) :
  OpR X f (rI C λ i j=>.int (g i j)):=by
 intro pins s σ H x y v u Q I rx ry h
 obtain ⟨i,j,rfl,rfl,hc,q⟩:=h
 obtain ⟨t,rfl⟩:=rx
 obtain ⟨t',rfl⟩:=ry
 exact rule i j t t' s _ _ hc ⟨.int (g i j),H,I.tok _,⟨_,rfl⟩,q⟩
theorem opI0 {f:Value->Value->Sem Value} {g:Int->Int->Int}
  (rule:∀ (i j:Int) (t u:Tok) (s:Shared) (Q:Value->Shared->Prop) (E:Value->Shared->Prop),Q (.int (g i j) s.toks) { s with toks:=s.toks+1 }->wpAny (model X.prog X.w) X.A (f (.int i t) (.int j u)) Q E s) :
  OpR X f (rI0 λ i j=>.int (g i j)):=by
 intro pins s σ H x y v u Q I rx ry h
 obtain ⟨i,j,rfl,rfl,q⟩:=h
 obtain ⟨t,rfl⟩:=rx
 obtain ⟨t',rfl⟩:=ry
 exact rule i j t t' s _ _ ⟨.int (g i j),H,I.tok _,⟨_,rfl⟩,q⟩
theorem opB0 {f:Value->Value->Sem Value} {g:Int->Int->Bool}
  (rule:∀ (i j:Int) (t u:Tok) (s:Shared) (Q:Value->Shared->Prop) (E:Value->Shared->Prop),Q (.bool (g i j)) s->wpAny (model X.prog X.w) X.A (f (.int i t) (.int j u)) Q E s) :
  OpR X f (rI0 λ i j=>.bl (g i j)):=by
 intro pins s σ H x y v u Q I rx ry h
 obtain ⟨i,j,rfl,rfl,q⟩:=h
 obtain ⟨t,rfl⟩:=rx
 obtain ⟨t',rfl⟩:=ry
 exact rule i j t t' s _ _ ⟨.bl (g i j),H,I,rfl,q⟩
def CDiv (i j:Int):Prop:=0 < j/\j < 1073741824
def CMul (i j:Int):Prop:=(-(2 ^ 64) < i/\i < 2 ^ 64)\/(-(2 ^ 64) < j/\j < 2 ^ 64)
theorem CMul.ok {i j:Int} (h:CMul i j):IntMulOk i j:=by
 rcases h with ⟨h1,h2⟩ | ⟨h1,h2⟩
 . exact .of_left (intBits_le_64 h1 h2)
 . exact .of_right (intBits_le_64 h1 h2)
theorem zhb:OpR X (binaryOp .Add) (rI0 λ i j=>.int (i+j)):=opI0 λ _ _ _ _ _ _ _ q=>add_int q
theorem zqo:OpR X (binaryOp .Sub) (rI0 λ i j=>.int (i - j)):=opI0 λ _ _ _ _ _ _ _ q=>sub_int q
theorem zj8:OpR X (binaryOp .Mult) (rI CMul λ i j=>.int (i * j)):=opI λ _ _ _ _ _ _ _ hc q=>mul_int q hc.ok
theorem zrd:OpR X (binaryOp .FloorDiv) (rI CDiv λ i j=>.int (i / j)):=opI λ i j _ _ _ _ _ hc q=>by
 have h1:(0:Int) < j:=hc.1
 have h2:j < 1073741824:=hc.2
 exact floordiv_int (by omega) (by rw [Int.fdiv_eq_ediv_of_nonneg i (by omega)]; exact q) (.inl (PyProof.noPylong_small (by omega)))
theorem zj9:OpR X (binaryOp .Mod) (rI (λ _ j=>0 < j) λ i j=>.int (i % j)):=opI λ i j _ _ _ _ _ hc q=>by
 have h1:(0:Int) < j:=hc
 exact mod_int' (by omega) (by rw [Int.fmod_eq_emod_of_nonneg i (by omega)]; exact q)
theorem unI {f:Value->Sem Value} {g:Int->Int}
  (rule:∀ (i:Int) (t:Tok) (s:Shared) (Q:Value->Shared->Prop) (E:Value->Shared->Prop),Q (.int (g i) s.toks) { s with toks:=s.toks+1 }->wpAny (model X.prog X.w) X.A (f (.int i t)) Q E s) :
  UnR X f (rU λ i=>.int (g i)):=by
 intro pins s σ H x v Q I rx h
 obtain ⟨i,rfl,q⟩:=h
 obtain ⟨t,rfl⟩:=rx
 exact rule i t s _ _ ⟨.int (g i),H,I.tok _,⟨_,rfl⟩,q⟩
theorem znN:UnR X (unaryOp .USub) (rU λ i=>.int (-i)):=unI λ _ _ _ _ _ q=>neg_int q
end
def scal:V->V->Bool
 | .non,.non=>true | .non,.int _=>true | .int _,.non=>true | .non,.bl _=>true | .bl _,.non=>true | .non,.str _=>true | .str _,.non=>true
 | .int _,.int _=>true | .bl _,.bl _=>true | .str _,.str _=>true | .byt _,.byt _=>true
 | .int _,.str _=>true | .str _,.int _=>true | .bl _,.str _=>true | .str _,.bl _=>true
 | _,_=>false
def rEq:R2:=λ x y H Q=>scal x y=true/\Q (.bl (decide (x=y))) H
def rNe:R2:=λ x y H Q=>scal x y=true/\Q (.bl (!decide (x=y))) H
theorem zpd {i j:Int}:decide (V.int i=V.int j)=(i == j):=by
 rw [Bool.eq_iff_iff]
 simp
theorem zqD {i j:Bool}:decide (V.bl i=V.bl j)=(i == j):=by
 rw [Bool.eq_iff_iff]
 simp
theorem zpc {i j:Str}:decide (V.str i=V.str j)=(i == j):=by
 rw [Bool.eq_iff_iff]
 simp
theorem zpe {i j:Array UInt8}:decide (V.byt i=V.byt j)=(i.toList == j.toList):=by
 rw [Bool.eq_iff_iff]
 cases i
 cases j
 simp
section
variable {X:Cx} {a b c:Expr} {ta tb tc:TE} {pos:Pos}
theorem za4 {pins:List (Addr×Obj)} {σ:St} {H:Hp} {s:Shared} {Q:VK} {k k':Bool} (I:Inv X pins σ H s) (q:Q (.bl k) H) (e:k=k'):EP X pins σ Q (.bool k') s:=by
 subst e
 exact ⟨.bl k,H,I,rfl,q⟩
theorem zco:OpR X (compareOp .Eq) rEq:=by
 intro pins s σ H x y v u Q I rx ry h
 obtain ⟨hs,q⟩:=h
 cases x with
 | non =>
  cases rx
  cases y with
  | non=>cases ry; exact PySem.EqNone.eq_none_none (za4 I q (by simp))
  | bl j=>cases ry; exact PySem.EqNone.eq_none_bool (za4 I q (by simp))
  | int j=>obtain ⟨t',rfl⟩:=ry; exact PySem.EqNone.eq_none_int (za4 I q (by simp))
  | str j=>obtain ⟨t',rfl⟩:=ry; exact PySem.EqNone.eq_none_str (za4 I q (by simp))
  | _=>exact absurd (show false=true from hs) Bool.false_ne_true
 | bl i =>
  cases rx
  cases y with
  | non=>cases ry; exact PySem.EqNone.eq_bool_none (za4 I q (by simp))
  | bl j=>cases ry; exact eq_bool (za4 I q zqD)
  | str j=>obtain ⟨t',rfl⟩:=ry; exact PySem.EqMixed.eq_bool_str (za4 I q (by simp))
  | _=>exact absurd (show false=true from hs) Bool.false_ne_true
 | int i =>
  obtain ⟨t,rfl⟩:=rx
  cases y with
  | non=>cases ry; exact PySem.EqNone.eq_int_none (za4 I q (by simp))
  | int j=>obtain ⟨t',rfl⟩:=ry; exact eq_int (za4 I q zpd)
  | str j=>obtain ⟨t',rfl⟩:=ry; exact PySem.EqMixed.eq_int_str (za4 I q (by simp))
  | _=>exact absurd (show false=true from hs) Bool.false_ne_true
 | str i =>
  obtain ⟨t,rfl⟩:=rx
  cases y with
  | non=>cases ry; exact PySem.EqNone.eq_str_none (za4 I q (by simp))
  | bl j=>cases ry; exact PySem.EqMixed.eq_str_bool (za4 I q (by simp))
  | int j=>obtain ⟨t',rfl⟩:=ry; exact PySem.EqMixed.eq_str_int (za4 I q (by simp))
  | str j=>obtain ⟨t',rfl⟩:=ry; exact eq_str (za4 I q zpc)
  | _=>exact absurd (show false=true from hs) Bool.false_ne_true
 | byt i =>
  obtain ⟨t,rfl⟩:=rx
  cases y with
  | byt j=>obtain ⟨t',rfl⟩:=ry; exact PySem.W.eq_bytes (za4 I q zpe)
  | _=>exact absurd (show false=true from hs) Bool.false_ne_true
 | _=>cases y <;> exact absurd (show false=true from hs) Bool.false_ne_true
theorem zop:OpR X (compareOp .NotEq) rNe:=by
 intro pins s σ H x y v u Q I rx ry h
 obtain ⟨hs,q⟩:=h
 cases x with
 | non =>
  cases rx
  cases y with
  | non=>cases ry; exact PySem.EqNone.ne_none_none (za4 I q (by simp))
  | bl j=>cases ry; exact PySem.EqNone.ne_none_bool (za4 I q (by simp))
  | int j=>obtain ⟨t',rfl⟩:=ry; exact PySem.EqNone.ne_none_int (za4 I q (by simp))
  | str j=>obtain ⟨t',rfl⟩:=ry; exact PySem.EqNone.ne_none_str (za4 I q (by simp))
  | _=>exact absurd (show false=true from hs) Bool.false_ne_true
 | bl i =>
  cases rx
  cases y with
  | non=>cases ry; exact PySem.EqNone.ne_bool_none (za4 I q (by simp))
  | bl j=>cases ry; exact ne_bool (za4 I q (congrArg not zqD))
  | str j=>obtain ⟨t',rfl⟩:=ry; exact PySem.EqMixed.ne_bool_str (za4 I q (by simp))
  | _=>exact absurd (show false=true from hs) Bool.false_ne_true
 | int i =>
  obtain ⟨t,rfl⟩:=rx
  cases y with
  | non=>cases ry; exact PySem.EqNone.ne_int_none (za4 I q (by simp))
  | int j=>obtain ⟨t',rfl⟩:=ry; exact ne_int (za4 I q (congrArg not zpd))
  | str j=>obtain ⟨t',rfl⟩:=ry; exact PySem.EqMixed.ne_int_str (za4 I q (by simp))
  | _=>exact absurd (show false=true from hs) Bool.false_ne_true
 | str i =>
  obtain ⟨t,rfl⟩:=rx
  cases y with
  | non=>cases ry; exact PySem.EqNone.ne_str_none (za4 I q (by simp))
  | bl j=>cases ry; exact PySem.EqMixed.ne_str_bool (za4 I q (by simp))
  | int j=>obtain ⟨t',rfl⟩:=ry; exact PySem.EqMixed.ne_str_int (za4 I q (by simp))
  | str j=>obtain ⟨t',rfl⟩:=ry; exact ne_str (za4 I q (congrArg not zpc))
  | _=>exact absurd (show false=true from hs) Bool.false_ne_true
 | byt i =>
  obtain ⟨t,rfl⟩:=rx
  cases y with
  | byt j=>obtain ⟨t',rfl⟩:=ry; exact PySem.W.ne_bytes (za4 I q (congrArg not zpe))
  | _=>exact absurd (show false=true from hs) Bool.false_ne_true
 | _=>cases y <;> exact absurd (show false=true from hs) Bool.false_ne_true
theorem zlk:OpR X (compareOp .Lt) (rI0 λ i j=>.bl (decide (i < j))):=opB0 λ _ _ _ _ _ _ _ q=>lt_int q
theorem zpP:OpR X (compareOp .Gt) (rI0 λ i j=>.bl (decide (j < i))):=opB0 λ _ _ _ _ _ _ _ q=>gt_int q
theorem zs1:OpR X (compareOp .GtE) (rI0 λ i j=>.bl (decide (j<=i))):=opB0 λ _ _ _ _ _ _ _ q=>ge_int q
theorem zaJ (b:Expr) {op:CmpOp} (h:op≠.In:=by decide) (h2:op≠.NotIn:=by decide):behindInMarks op b=false:=by
 have e1:(op == CmpOp.In)=false:=by cases op <;> first | rfl | exact absurd rfl h
 have e2:(op == CmpOp.NotIn)=false:=by cases op <;> first | rfl | exact absurd rfl h2
 cases b <;> simp [behindInMarks,e1,e2]
theorem zcz {op:CmpOp} {r:R2} (ho:OpR X (compareOp op) r) (ha:PE X a ta) (hb:PE X b tb) (hm:behindInMarks op b=false):PE X (.Compare a [op] [b] pos) (tOp r ta tb):=by
 intro pins s σ H Q I h
 exact wpAny_Compare1 (binT ha hb I h λ v u s2 x y H2 I2 rx ry q=>ho pins s2 σ H2 x y v u Q I2 rx ry q) hm
def zqL (t:TE):TT:=λ σ H Q=>t σ H λ x H'=>∃ k,x=.bl k/\Q k H'
theorem zaF {op:CmpOp} {r:R2} (ho:OpR X (compareOp op) r) (ha:PE X a ta) (hb:PE X b tb) (hm:behindInMarks op b=false):PT X (.Compare a [op] [b] pos) (zqL (tOp r ta tb)):=by
 intro pins s σ H Q I h
 refine wpAny_isTrue_Compare1 (thn (ha pins s σ H _ I h) λ v s1 ⟨x,H1,I1,r1,q1⟩=>thn (hb pins s1 σ H1 _ I1 q1) λ u s2 ⟨y,H2,I2,r2,q2⟩ =>
  thn (ho pins s2 σ H2 x y v u _ I2 r1 r2 q2) λ c s3 ⟨z,H3,I3,r3,k,e,q3⟩=>?_) hm
 subst e
 cases r3
 exact wpAny_truthy_bool ⟨H3,I3,q3⟩
def TruV (K:PySem.W.Frag) (x:V) (H:Hp) (k:Bool):Prop :=
 match x with
 | .non=>k=false
 | .bl b=>k=b
 | .int i=>k=(i != 0)
 | .str y=>y.length<=sizeLine/\k=((y.length:Int) != 0)
 | .byt y=>y.size<=sizeLine/\k=((y.size:Int) != 0)
 | .ref p=>(∃ xs,SqL K H p xs/\k=!xs.isEmpty)\/(∃ xs,SqT K H p xs/\k=!xs.isEmpty)\/∃ kvs,H p=some (.dK kvs)/\k=!kvs.isEmpty
 | _=>False
theorem znp {κ:Type} {kvs:List (κ×V)} {vs:List (κ×Value)} (r:KV kvs vs):(!vs.isEmpty)=!kvs.isEmpty:=by
 cases r <;> rfl
theorem zix {xs:List V} {its:List Value} (r:Vals xs its):(!its.toArray.isEmpty)=!xs.isEmpty:=by
 cases r <;> simp
theorem zkt:(sizeLine:Nat) < 2 ^ 63:=by rw [sizeLine_eq]; decide
theorem zrG:TruR X (λ x H Q=>∃ k,TruV X.K x H k/\Q k H):=by
 intro pins s σ H x v Q I rx h
 obtain ⟨k,e,q⟩:=h
 have hl:=zkt
 have hs:sizeLine=16777216:=sizeLine_eq
 cases x with
 | non =>
  cases rx
  have e':k=false:=e
  subst e'
  exact truthy_none ⟨H,I,q⟩
 | bl b =>
  cases rx
  have e':k=b:=e
  subst e'
  exact wpAny_truthy_bool ⟨H,I,q⟩
 | int i =>
  obtain ⟨t,rfl⟩:=rx
  have e':k=(i != 0):=e
  subst e'
  exact PySem.P.truthy_int ⟨H,I,q⟩
 | str y =>
  obtain ⟨t,rfl⟩:=rx
  obtain ⟨hy,e'⟩:y.length<=sizeLine/\k=((y.length:Int) != 0):=e
  subst e'
  exact PySem.P.truthy_str (by omega) ⟨H,I.tok _,q⟩
 | byt y =>
  obtain ⟨t,rfl⟩:=rx
  obtain ⟨hy,e'⟩:y.size<=sizeLine/\k=((y.size:Int) != 0):=e
  subst e'
  exact PySem.W.truthy_bytes (by omega) ⟨H,I.tok _,q⟩
 | ref p =>
  cases rx
  have e':(∃ xs,SqL X.K H p xs/\k=!xs.isEmpty)\/(∃ xs,SqT X.K H p xs/\k=!xs.isEmpty)\/∃ kvs,H p=some (.dK kvs)/\k=!kvs.isEmpty:=e
  rcases e' with ⟨xs,hx,e'⟩ | ⟨xs,hx,e'⟩ | ⟨kvs,hx,e'⟩
  . subst e'
    obtain ⟨its,r,pl,hz⟩:=I.list hx
    have hlen:=r.length
    exact wpAny_truthy_list pl.isList (by simp only [List.size_toArray]; omega) ⟨H,I.tok _,by rw [zix r]; exact q⟩
  . subst e'
    obtain ⟨its,r,pl,hz⟩:=I.tuple hx
    have hlen:=r.length
    exact truthy_tuple pl (by simp only [List.size_toArray]; omega) ⟨H,I.tok _,by rw [zix r]; exact q⟩
  . subst e'
    obtain ⟨hz,hS,vs,r,m⟩:kvs.length<=sizeLine/\(p == sysModules)=false/\∃ vs,KV kvs vs/\s.heap.DictOf (zaE X.prog X.w) p vs:=I.hok p _ hx
    have hlen:kvs.length=vs.length:=Paired.length r
    exact wpAny_truthy_dict hS m (by omega) ⟨H,I.tok _,by rw [znp r]; exact q⟩
 | _=>exact (show False from e).elim
theorem zpG (ha:PE X a ta) (he:∀ whole,isTrue a X.env whole=(do let v <-whole; standAt a.pos; holding [v] (truthy v))) :
  PT X a (λ σ H Q=>ta σ H λ x H'=>∃ k,TruV X.K x H' k/\Q k H'):=by
 intro pins s σ H Q I h
 exact isTrue_plain (thn (ha pins s σ H _ I h) λ v s1 ⟨x,H1,I1,r1,q1⟩=>zrG pins s1 σ H1 x v Q I1 r1 q1) (he _)
theorem zin:OpR X (binaryOp .Add) (λ x y H Q=>∃ i j,x=.str i/\y=.str j/\i.length+j.length<=sizeLine/\Q (.str (i++j)) H):=by
 intro pins s σ H x y v u Q I rx ry h
 obtain ⟨i,j,rfl,rfl,hz,q⟩:=h
 obtain ⟨t,rfl⟩:=rx
 obtain ⟨t',rfl⟩:=ry
 exact add_str (λ t' tk=>⟨.str (i++j),H,I.tok _,⟨_,rfl⟩,q⟩) hz
theorem vals1 {x:V} {us:List Value} (r:Vals [x] us):∃ u,us=[u]/\RelV x u:=by
 cases r with
 | cons r1 r2=>cases r2; exact ⟨_,rfl,r1⟩
theorem zfA:zgH X (.type "int") (λ xs H Q=>(∃ i,xs=[.int i]/\Q (.int i) H)\/∃ k,xs=[.bl k]/\Q (.int (if k then 1 else 0)) H):=by
 intro pins s σ H xs us Q I r h
 rcases h with ⟨i,rfl,q⟩ | ⟨k,rfl,q⟩
 . obtain ⟨u,rfl,t,rfl⟩:=vals1 r
   exact call_int_int ⟨.int i,H,I,⟨_,rfl⟩,q⟩
 . obtain ⟨u,rfl,r1⟩:=vals1 r
   cases r1
   exact call_int_bool ⟨.int (if k then 1 else 0),H,I.tok _,⟨_,rfl⟩,q⟩
end
end L2
namespace L2
open PySem PySem.Spec PyProof.Rows
structure ObjM (h:Heap) (x dx C:Addr) (mA:Str->Option Value):Prop where
 obj:h.get? x=some (PySem.W.instObj C dx)
 ns:h.Ns1 dx mA
 ne:dx≠x
theorem zoE {h:Heap} {dx:Addr} {mA:Str->Option Value} (n:h.Ns1 dx mA):∃ od,h.get? dx=some od/\∀ name,PySem.W.lookIn name od=some (mA name):=by
 obtain ⟨o,es,ep,ho,hd,hk,_,hm⟩:=n
 refine ⟨o,ho,λ name=>?_⟩
 have e:=hm name
 unfold nsFind findBy at e
 rw [<-Array.find?_toList] at e
 unfold PySem.W.lookIn
 rw [hd]
 dsimp only
 split
 . rename_i y q
   rw [q] at e
   exact congrArg some e
 . rename_i q
   rw [q] at e
   have a:es.toList.any (·.refKey)=false:=by
    rw [List.any_eq_false]
    intro y hy
    obtain ⟨z,t,hkey⟩:=hk y (Array.mem_toList_iff.mp hy)
    simp [DictEntry.refKey,hkey]
   have a':¬ es.toList.any (·.refKey)=true:=by rw [a]; exact Bool.false_ne_true
   rw [if_neg a']
   exact congrArg some e
theorem ObjM.look {h:Heap} {x dx C:Addr} {mA:Str->Option Value} (I:ObjM h x dx C mA):∃ od,PySem.W.InstAt h x (PySem.W.instObj C dx) C (some od)/\∀ name,PySem.W.lookIn name od=some (mA name) :=
 let ⟨od,ho,hl⟩:=zoE I.ns
 ⟨od,⟨I.obj,rfl,rfl,ho⟩,hl⟩
section
variable {prog:Program} {w:World} {A:Around} {E:Value->Shared->Prop} {s:Shared} {K:PySem.W.Frag} {x dx C f:Addr} {mA:Str->Option Value} {name:Str} {v:Value}
theorem get_map {expr:Bool} {Q:Value->Shared->Prop} (X:K.In s.heap) (I:ObjM s.heap x dx C mA) (hg:PySem.W.plainGet K C name=true) (hh:PySem.W.hasDictIn K C=true)
  (ha:PySem.W.findIn K (.ref C) name=some none) (hv:mA name=some v) (hv':PySem.W.handedIn v=true) (h:Q v { s with toks:=s.toks+1 }) :
  wpAny (model prog w) A (getAttr (.ref x) name expr) Q E s:=by
 obtain ⟨od,J,hl⟩:=I.look
 exact PySem.W.get_value X J (PySem.W.plainGet_of hg).1 (PySem.W.findObj_own hh ha rfl (by rw [hl,hv])) hv' h
theorem zp3 {pl:Sem Bool} {Q:Value×List Value->Shared->Prop} (X:K.In s.heap) (I:ObjM s.heap x dx C mA) (hg:PySem.W.plainGet K C name=true)
  (hf:PySem.W.findIn K (.ref C) name=some (some (.ref f))) (ht:PySem.W.isFn K (.ref f)=true) (hv:mA name=none) (h:Q (.ref f,[.ref x]) s) :
  wpAny (model prog w) A (getMethod (.ref x) name pl) Q E s:=by
 obtain ⟨od,J,hl⟩:=I.look
 exact PySem.W.method_fn X J (PySem.W.plainGet_of hg).1 (PySem.W.plainGet_of hg).2 hf (beq_iff_eq.mp ht) (by show (PySem.W.lookIn name od).map (·.isSome)=some false; rw [hl,hv]; rfl) h
theorem zq0 {ns:List Str} {Q:Unit->Shared->Prop} (X:K.In s.heap) (I:ObjM s.heap x dx C mA)
  (hs:PySem.W.findIn K (.ref C) "__setattr__" = some (some (.builtin "object.__setattr__"))) (hp:PySem.W.plainOver K C=true) (ht:PySem.W.takerIn K C name=some none) (hh:PySem.W.hasDictIn K C=true)
  (hw:PySem.Within mA ns) (hsz:ns.length<=sizeLine)
  (h:∀ h',ObjM h' x dx C (λ y=>if y=name then some v else mA y)->Heap.SameBut dx s.heap h'->Q () { s with heap:=h',toks:=s.toks+2 }) :
  wpAny (model prog w) A (setAttr (.ref x) name v) Q E s:=by
 obtain ⟨od,J,hl⟩:=I.look
 refine PySem.W.set_plain X J hs (PySem.W.osa_open (s:={ s with toks:=s.toks+1 }) (r:=none) X J hp ht λ b=>?_)
 obtain ⟨cd,hc,hd'⟩:=PySem.W.any_some hh
 have hx:s.heap.get? x=some ⟨.ref C,some dx,.plain,#[]⟩:=I.obj
 refine wpAny_bind (wpAny_pure (wpAny_bind (wpAny_bind (wpAny_loadPart hx (wpAny_bind (PySem.W.Looks.here (s:={ s with toks:=s.toks+1 }) (PySem.W.looks_clsIn X hc) ?_))))))
 rw [hd']
 refine wpAny_pure (a:=some dx) (wpAny_bind (wpAny_pure (wpAny_bind ?_)))
 refine wpAny_nsSet1 (s:={ s with toks:=s.toks+1 }) I.ns λ h' hn2 hs2=>?_
 obtain ⟨oD,esD,epD,hoD,hdD,hcD⟩:=hn2.count (PySem.Within.cons name v hw)
 refine wpAny_bind (wpAny_lookBehind hoD (by rw [hdD]; exact pastItsLine_dict (Nat.le_trans hcD (by rw [List.length_cons]; omega))) ?_)
 exact wpAny_pure (h _ ⟨(hs2.2 _ (Ne.symm I.ne)).trans I.obj,hn2,I.ne⟩ hs2)
theorem zpR {R:Result->Shared->Prop} {vs:List Value} {kw:List (Str×Value)} (X:K.In s.heap) (hm:PySem.W.makesIn K C=true)
  (hi:PySem.W.findIn K (.ref C) "__init__" = some (some (.ref f))) (hf:PySem.W.typeIn K (.ref f)=some (.type "function"))
  (h:codeAny (model prog w) (A.under (.builtin "type.__call__" ⟨.ref C::vs,kw⟩)) (.call (.ref f) ⟨.ref (s.heap.objs.size+1)::vs,kw⟩) (PySem.W.InitBack (s.heap.objs.size+1) R)
   { s with heap:=(s.heap.push PySem.W.emptyDict).push (PySem.W.instObj C s.heap.objs.size) }) :
  codeAny (model prog w) A (.call (.ref C) ⟨vs,kw⟩) R s:=by
 obtain ⟨hh,g,d,t,os⟩:=s
 exact PySem.W.make_core (PySem.W.makes_of X hm) (PySem.W.looks_findIn X hi) (λ self=>PySem.W.bind_fn X self hf) (.inl rfl) h
end
def putF (f:Str) (v:V):List (Str×V)->List (Str×V)
 | []=>[(f,v)]
 | (g,x)::r=>if g=f then (g,v)::r else (g,x)::putF f v r
theorem zhm (f g:Str) (v:V):∀ fs:List (Str×V),(putF f v fs).lookup g=if g=f then some v else fs.lookup g
 | []=>by
  show List.lookup g [(f,v)]=_
  by_cases h:g=f
  . have hb:(g == f)=true:=beq_iff_eq.mpr h
    simp only [List.lookup,hb,if_pos h]
  . have hb:(g == f)=false:=beq_eq_false_iff_ne.mpr h
    simp only [List.lookup,hb,if_neg h]
 | (k,x)::r=>by
  have ih:=zhm f g v r
  rw [show putF f v ((k,x)::r)=(if k=f then (k,v)::r else (k,x)::putF f v r) from rfl]
  by_cases hk:k=f
  . rw [if_pos hk]
    by_cases h:g=k
    . have hb:(g == k)=true:=beq_iff_eq.mpr h
      simp only [List.lookup,hb,if_pos (h.trans hk)]
    . have hb:(g == k)=false:=beq_eq_false_iff_ne.mpr h
      simp only [List.lookup,hb,if_neg (λ e:g=f=>h (e.trans hk.symm))]
  . rw [if_neg hk]
    by_cases h:g=k
    . have hb:(g == k)=true:=beq_iff_eq.mpr h
      simp only [List.lookup,hb,if_neg (λ e:g=f=>hk (h.symm.trans e))]
    . have hb:(g == k)=false:=beq_eq_false_iff_ne.mpr h
      simp only [List.lookup,hb]
      exact ih
theorem zhr (f:Str) (v:V):∀ fs:List (Str×V),f∈(putF f v fs).map (·.1)/\∀ g,g∈fs.map (·.1)->g∈(putF f v fs).map (·.1)
 | []=>⟨by simp [putF],λ g h=>by simp at h⟩
 | (k,x)::r=>by
  obtain ⟨i1,i2⟩:=zhr f v r
  rw [show putF f v ((k,x)::r)=(if k=f then (k,v)::r else (k,x)::putF f v r) from rfl]
  by_cases hk:k=f
  . rw [if_pos hk]
    subst hk
    exact ⟨by simp,λ g h=>by simpa using h⟩
  . rw [if_neg hk]
    refine ⟨?_,λ g h=>?_⟩
    . rw [List.map_cons]
      exact List.mem_cons_of_mem _ i1
    . rw [List.map_cons] at h ⊢
      rcases List.mem_cons.mp h with e | e
      . exact List.mem_cons.mpr (.inl e)
      . exact List.mem_cons_of_mem _ (i2 g e)
theorem zhq (f:Str) (v:V):∀ fs:List (Str×V),(putF f v fs).length<=fs.length+1
 | []=>by simp [putF]
 | (k,x)::r=>by
  have ih:=zhq f v r
  rw [show putF f v ((k,x)::r)=(if k=f then (k,v)::r else (k,x)::putF f v r) from rfl]
  by_cases hk:k=f
  . rw [if_pos hk,List.length_cons,List.length_cons]; omega
  . rw [if_neg hk,List.length_cons,List.length_cons]; omega
theorem RelO.some_of {v:V} {o:Option Value} (r:RelO (some v) o):∃ u,o=some u/\RelV v u:=by
 cases o with
 | none=>exact (show False from r).elim
 | some u=>exact ⟨u,rfl,r⟩
theorem RelO.none_of {o:Option Value} (r:RelO none o):o=none:=by
 cases o with
 | none=>rfl
 | some u=>exact (show False from r).elim
theorem zoU {v:V} {u:Value} (r:RelV v u):PySem.W.handedIn u=true:=by
 cases v with
 | non=>cases (show u=Value.none from r); rfl
 | bl b=>cases (show u=Value.bool b from r); rfl
 | int i=>obtain ⟨t,e⟩:=(show ∃ t,u=Value.int i t from r); cases e; rfl
 | str x=>obtain ⟨t,e⟩:=(show ∃ t,u=Value.str x t from r); cases e; rfl
 | byt b=>obtain ⟨t,e⟩:=(show ∃ t,u=Value.bytes b t from r); cases e; rfl
 | flt b=>obtain ⟨t,e⟩:=(show ∃ t,u=Value.float b t from r); cases e; rfl
 | ref a=>cases (show u=Value.ref a from r); rfl
 | ty n=>cases (show u=Value.type n from r); rfl
section
variable {P:Program} {w:World} {H H':Hp} {h h':Heap} {a C dx:Addr} {fs fs':List (Str×V)}
theorem zji (hok:HOk P w H h) (e:H a=some (.ins C dx fs)):∃ mA,ObjM h a dx C mA/\(∀ f,RelO (fs.lookup f) (mA f))/\PySem.Within mA (fs.map (·.1))/\fs.length<=1000/\H dx=some (.own a):=by
 obtain ⟨d,z,ne,ob,mA,n,r,q⟩:=(show zbP P w H h a (.ins C dx fs) from hok a _ e)
 exact ⟨mA,⟨ob,n,ne⟩,r,q,z,d⟩
end
structure Cls (K:PySem.W.Frag) (C:Addr):Prop where
 pg:PySem.W.plainGet K C Str.empty=true
 hd:PySem.W.hasDictIn K C=true
 po:PySem.W.plainOver K C=true
 sa:PySem.W.findIn K (.ref C) "__setattr__" = some (some (.builtin "object.__setattr__"))
theorem Cls.get {K:PySem.W.Frag} {C:Addr} (c:Cls K C) (f:Str):PySem.W.plainGet K C f=true:=c.pg
def zbX (K:PySem.W.Frag) (C:Addr) (f:Str):Prop:=PySem.W.findIn K (.ref C) f=some none
theorem zbX.zsJ {K:PySem.W.Frag} {C:Addr} {f:Str} (n:zbX K C f):PySem.W.takerIn K C f=some none:=by
 unfold PySem.W.takerIn
 rw [show PySem.W.findIn K (.ref C) f=some none from n]
 rfl
structure Meth (K:PySem.W.Frag) (C:Addr) (m:Str) (f:Addr):Prop where
 at_:PySem.W.findIn K (.ref C) m=some (some (.ref f))
 fn:PySem.W.isFn K (.ref f)=true
 kp:PySem.W.keepIn K (.ref f)=true
section
variable {X:Cx} {pins:List (Addr×Obj)} {σ:St} {H:Hp} {s:Shared} {a C dx:Addr} {fs:List (Str×V)} {f:Str} {v:V} {A:Around} {E:Value->Shared->Prop}
theorem zns {b:Bool} {Q:Value->Shared->Prop} (I:Inv X pins σ H s) (e:H a=some (.ins C dx fs)) (c:Cls X.K C) (n:zbX X.K C f) (l:fs.lookup f=some v)
  (h:∀ u s',Inv X pins σ H s'->RelV v u->Q u s'):wpAny (model X.prog X.w) A (getAttr (.ref a) f b) Q E s:=by
 obtain ⟨mA,O,r,_,_,_⟩:=zji I.hok e
 obtain ⟨u,hu,ru⟩:=RelO.some_of (v:=v) (o:=mA f) (by rw [<-l]; exact r f)
 exact get_map I.kIn O (c.get f) c.hd n hu (zoU ru) (h u _ (I.tok _) ru)
theorem zf1 {m:Str} {g:Addr} {pl:Sem Bool} {Q:Value×List Value->Shared->Prop} (I:Inv X pins σ H s) (e:H a=some (.ins C dx fs)) (c:Cls X.K C) (k:Meth X.K C m g) (l:fs.lookup m=none)
  (h:Q (.ref g,[.ref a]) s):wpAny (model X.prog X.w) A (getMethod (.ref a) m pl) Q E s:=by
 obtain ⟨mA,O,r,_,_,_⟩:=zji I.hok e
 have hn:mA m=none:=RelO.none_of (by rw [<-l]; exact r m)
 exact zp3 I.kIn O (c.get m) k.at_ k.fn hn h
theorem zna {y:V} {u:Value} {Q:Unit->Shared->Prop} (I:Inv X pins σ H s) (e:H a=some (.ins C dx fs)) (c:Cls X.K C) (n:zbX X.K C f) (hl:fs.length < 1000) (ry:RelV y u)
   (h:∀ s',Inv X pins σ (upd H a (.ins C dx (putF f y fs))) s'->Q () s'):wpAny (model X.prog X.w) A (setAttr (.ref a) f u) Q E s:=by
 obtain ⟨mA,O,r,wi,_,ho⟩:=zji I.hok e
 have hz:(fs.map (·.1)).length<=sizeLine:=by rw [List.length_map,sizeLine_eq]; omega
 refine zq0 I.kIn O c.sa c.po n.zsJ c.hd wi hz λ h' O' sb=>h _ ?_
 have hd:∃ o,h'.get? dx=some o:=let ⟨o,_,_,e',_⟩:=O'.ns; ⟨o,e'⟩
 refine I.write (x:=a) (e:=dx) (by rw [e]; exact True.intro) (.inr ho) (λ b q hb z=>(sb.2 b hb).trans z) hd ?_
 refine ⟨by rw [zae O.ne]; exact ho,?_,O.ne,O'.obj,_,O'.ns,λ g=>?_,λ g hg=>?_⟩
 . have:=zhq f y fs; omega
 . show RelO ((putF f y fs).lookup g) (if g=f then some u else mA g)
   rw [zhm]
   by_cases q:g=f
   . rw [if_pos q,if_pos q]; exact ry
   . rw [if_neg q,if_neg q]; exact r g
 . by_cases q:g=f
   . rw [q]; exact (zhr f y fs).1
   . refine (zhr f y fs).2 g (wi g λ z=>hg ?_)
     show (if g=f then some u else mA g)=none
     rw [if_neg q]; exact z
theorem Inv.made (I:Inv X pins σ H s):Inv X pins σ (upd (upd H s.heap.objs.size (.own (s.heap.objs.size+1))) (s.heap.objs.size+1) (.ins C s.heap.objs.size []))
  { s with heap:=(s.heap.push PySem.W.emptyDict).push (PySem.W.instObj C s.heap.objs.size) }:=by
 have e1:(s.heap.push PySem.W.emptyDict).get? s.heap.objs.size=some PySem.W.emptyDict:=Heap.get?_push_size s.heap rfl
 have e2:((s.heap.push PySem.W.emptyDict).push (PySem.W.instObj C s.heap.objs.size)).get? (s.heap.objs.size+1)=some (PySem.W.instObj C s.heap.objs.size):=by
  have:=Heap.get?_push_size (s.heap.push PySem.W.emptyDict) (o:=PySem.W.instObj C s.heap.objs.size) rfl
  rwa [Heap.size_push] at this
 have e3:(s.heap.push PySem.W.emptyDict).Ns s.heap.objs.size (λ _=>none):=⟨PySem.W.emptyDict,#[],_,e1,rfl,(λ e he=>absurd he (by simp)),λ _=>rfl⟩
 have I1:=I.laid (a:=s.heap.objs.size) (o:=.own (s.heap.objs.size+1)) (h':=s.heap.push PySem.W.emptyDict) (t':=s.toks) (λ b u q=>Heap.get?_push_of_some _ q) (Nat.le_refl _) ⟨_,e1⟩
 refine I1.laid (a:=s.heap.objs.size+1) (o:=.ins C s.heap.objs.size []) (t':=s.toks) (λ b u q=>Heap.get?_push_of_some _ q) (Nat.le_of_eq (Heap.size_push _ _)) ?_
 have ne:s.heap.objs.size≠s.heap.objs.size+1:=Nat.ne_of_lt (Nat.lt_succ_self _)
 refine ⟨by rw [zae ne,zab],Nat.zero_le _,ne,e2,λ _=>none,(Heap.Ns1.of_empty e3).at λ o q=>Heap.get?_push_of_some _ q,λ _=>True.intro,λ y hy=>absurd rfl hy⟩
theorem zry {prog:Program} {w:World} {env:Env} {e:Expr} {f:Str} {pos:Pos} {s:Shared} {Q:Value->Shared->Prop} (hb:attributeBase e f env (eval e env)=eval e env)
  (h:wpAny (model prog w) A (eval e env) (λ o s₁=>wpAny (model prog w) A (getAttr o f true) Q E s₁) E s):wpAny (model prog w) A (eval (.Attribute e f pos) env) Q E s :=
 Attribute_any_ h (by rw [arm_eval_Attribute,hb])
end
def tFld (K:PySem.W.Frag) (ta:TE) (f:Str):TE:=λ σ H Q=>ta σ H λ x H1=>∃ a C dx fs v,x=.ref a/\H1 a=some (.ins C dx fs)/\Cls K C/\zbX K C f/\fs.lookup f=some v/\Q v H1
def sFld (K:PySem.W.Frag) (ta tv:TE) (f:Str):TS:=λ D σ H=>tv σ H λ y H1=>ta σ H1 λ x H2=>∃ a C dx fs,x=.ref a/\H2 a=some (.ins C dx fs)/\Cls K C/\zbX K C f/\fs.length < 1000 /\
 D.nx σ (upd H2 a (.ins C dx (putF f y fs)))
section
variable {X:Cx} {o e value:Expr} {f:Str} {pos pos' tpos:Pos} {ta tv:TE}
theorem zam (he:PE X e ta) (hb:attributeBase e f X.env (eval e X.env)=eval e X.env):PE X (.Attribute e f pos) (tFld X.K ta f):=by
 intro pins s σ H Q I h
 refine zry hb (thn (he pins s σ H _ I h) λ u s1 ⟨x,H1,I1,rx,a,C,dx,fs,v,ex,ea,c,n,l,q⟩=>?_)
 subst ex
 obtain rfl:u=Value.ref a:=rx
 exact zns I1 ea c n l λ u' s2 I2 ru=>⟨v,H1,I2,ru,q⟩
theorem zbM (ha:PE X o ta) (hv:PE X value tv) (hs:swapsWith value (some (.Attribute o f pos')) pos.line X.env=pure false):PS X (.Assign [.Attribute o f pos'] value pos) (sFld X.K ta tv f):=by
 intro pins s σ H D I h
 refine plainObj_wpAny_Assign_Attribute (thn (hv pins s σ H _ I h) λ u s1 ⟨y,H1,I1,ry,q⟩=>thn (ha pins s1 σ H1 _ I1 q) λ ov s2 ⟨x,H2,I2,rx,a,C,dx,fs,ex,ea,c,n,l,q2⟩=>?_) hs
 subst ex
 obtain rfl:ov=Value.ref a:=rx
 exact zna I2 ea c n l ry λ s3 I3=>⟨σ,_,I3,q2⟩
theorem methcall_of {pl:Sem Bool} {m:Str} {apos:Pos} {args:List Expr} {pins:List (Addr×Obj)} {s:Shared} {σ:St} {H:Hp} {Q:Value->Shared->Prop} {te:TE} (he:PE X e te) (I:Inv X pins σ H s)
  (h:te σ H λ x H1=>∃ a C dx fs g,x=.ref a/\H1 a=some (.ins C dx fs)/\Cls X.K C/\Meth X.K C m g/\fs.lookup m=none /\
   ∀ s1,Inv X pins σ H1 s1->wpAny (model X.prog X.w) X.A (callWith pos (.ref g) [.ref a] (backTo pos (starEach args X.env)) (backToKw pos (keywordEach [] X.env))) Q X.xe s1)
  (ht:eval (.Call (.Attribute e m apos) args [] pos) X.env=(do
   let ov <-eval e X.env
   standAt apos.atName
   let (f,first) <-holding [ov] (getMethod ov m pl)
   callWith pos f first (backTo pos (starEach args X.env)) (backToKw pos (keywordEach [] X.env)))) :
  wpAny (model X.prog X.w) X.A (eval (.Call (.Attribute e m apos) args [] pos) X.env) Q X.xe s:=by
 refine PySem.W.methodCall_KW (pl:=pl) (thn (he pins s σ H _ I h) λ u s1 ⟨x,H1,I1,rx,a,C,dx,fs,g,ex,ea,c,k,l,q⟩=>?_) ht
 subst ex
 obtain rfl:u=Value.ref a:=rx
 exact zf1 I1 ea c k l (q s1 I1)
end
section
variable {X:Cx} {pins:List (Addr×Obj)} {σ:St} {H:Hp} {s:Shared} {A:Around} {E:Value->Shared->Prop} {Q:Value->Shared->Prop} {c:Value} {b:Bool}
inductive TyOf (K:PySem.W.Frag) (H:Hp):V->Value->Prop where
 | non:TyOf K H .non (.type "NoneType")
 | bl (x:Bool):TyOf K H (.bl x) (.type "bool")
 | int (i:Int):TyOf K H (.int i) (.type "int")
 | str (x:Str):TyOf K H (.str x) (.type "str")
 | flt (x:UInt64):TyOf K H (.flt x) (.type "float")
 | lst {a:Addr} {xs:List V} (e:H a=some (.lst xs)):TyOf K H (.ref a) (.type "list")
 | frz {a:Addr} {o:Obj} {xs:List V} (e:H a=some (.frz o (.lst xs))):TyOf K H (.ref a) (.type "list")
 | tup {a:Addr} {xs:List V} (e:H a=some (.tup xs)):TyOf K H (.ref a) (.type "tuple")
 | dK {a:Addr} {kvs:List (Key×V)} (e:H a=some (.dK kvs)):TyOf K H (.ref a) (.type "dict")
 | dT {a:Addr} {kvs:List (List Key×V)} (e:H a=some (.dT kvs)):TyOf K H (.ref a) (.type "dict")
 | ins {a C dx:Addr} {fs:List (Str×V)} (e:H a=some (.ins C dx fs)) (cl:Cls K C) (ha:PySem.W.findIn K (.ref C) "__class__" = some (some (.builtin "object.__class__")))
  (hn:PySem.W.specialIn K (.builtin "object.__class__") "__get__" = some (some (.builtin "getset_descriptor.__get__"))) (htk:PySem.W.takesIn K (.builtin "object.__class__")=some true)
  (hm:PySem.W.mroIn K C (.type "object")=some true):TyOf K H (.ref a) (.ref C)
theorem zoO {x:V} {u t:Value} (I:Inv X pins σ H s) (rx:RelV x u) (ty:TyOf X.K H x t) (e:PySem.W.kitOne X.K t c=some b) (h:∀ tk,Q (.bool b) { s with toks:=tk }) :
  wpAny (model X.prog X.w) A (call (.builtin "isinstance") [u,c]) Q E s:=by
 cases ty with
 | non=>cases (show u=Value.none from rx); exact PySem.W.kia_one PySem.W.kitx_none I.kIn True.intro e (λ z=>nomatch z) h
 | bl y=>cases (show u=Value.bool y from rx); exact PySem.W.kia_one PySem.W.kitx_bool I.kIn True.intro e (λ z=>nomatch z) h
 | int i=>obtain ⟨t,q⟩:=(show ∃ t,u=Value.int i t from rx); cases q; exact PySem.W.kia_one PySem.W.kitx_int I.kIn True.intro e (λ z=>nomatch z) h
 | str y=>obtain ⟨t,q⟩:=(show ∃ t,u=Value.str y t from rx); cases q; exact PySem.W.kia_one PySem.W.kitx_str I.kIn True.intro e (λ z=>nomatch z) h
 | flt y=>obtain ⟨t,q⟩:=(show ∃ t,u=Value.float y t from rx); cases q; exact PySem.W.kia_one PySem.W.kitx_float I.kIn True.intro e (λ z=>nomatch z) h
 | @lst a xs ea =>
  cases (show u=Value.ref a from rx)
  obtain ⟨_,_,n,_,h1⟩:=(show zbP X.prog X.w H s.heap a (.lst xs) from I.hok a _ ea)
  exact PySem.W.kia_one PySem.W.kitx_list I.kIn ⟨_,h1,rfl⟩ e (λ z=>nomatch z) h
 | @frz a ob xs ea =>
  cases (show u=Value.ref a from rx)
  obtain ⟨_,_,_,n,_,h1⟩:=(show zbP X.prog X.w H s.heap a (.frz ob (.lst xs)) from I.hok a _ ea)
  exact PySem.W.kia_one PySem.W.kitx_list I.kIn ⟨_,h1,rfl⟩ e (λ z=>nomatch z) h
 | @tup a xs ea =>
  cases (show u=Value.ref a from rx)
  obtain ⟨_,_,_,p⟩:=(show zbP X.prog X.w H s.heap a (.tup xs) from I.hok a _ ea)
  obtain ⟨o,h1,h2,_⟩:=p
  exact PySem.W.kia_one PySem.W.kitx_tuple I.kIn ⟨o,h1,h2⟩ e (λ z=>nomatch z) h
 | @dK a kvs ea =>
  cases (show u=Value.ref a from rx)
  obtain ⟨_,_,vs,_,p⟩:=(show zbP X.prog X.w H s.heap a (.dK kvs) from I.hok a _ ea)
  obtain ⟨o,es,ep,h1,h2,_⟩:=p
  exact PySem.W.kia_one PySem.W.kitx_dict I.kIn ⟨o,h1,h2.1⟩ e (λ z=>nomatch z) h
 | @dT a kvs ea =>
  cases (show u=Value.ref a from rx)
  obtain ⟨_,_,xs,_,o,es,ep,h1,h2,_⟩:=(show zbP X.prog X.w H s.heap a (.dT kvs) from I.hok a _ ea)
  exact PySem.W.kia_one PySem.W.kitx_dict I.kIn ⟨o,h1,h2.1⟩ e (λ z=>nomatch z) h
 | @ins a C dx fs ea cl ha hn htk hm =>
  cases (show u=Value.ref a from rx)
  obtain ⟨mA,O,_⟩:=zji I.hok ea
  obtain ⟨od,J,_⟩:=O.look
  exact PySem.W.kia_one (PySem.W.kitx_own (cl.get _) cl.hd ha hn htk hm) I.kIn J e (λ z=>nomatch z) h
end
end L2
namespace L2
open PySem PySem.Spec PyProof.Rows
structure Room (k:Nat) (A:Around):Prop where
 hd:A.handled=none
 dp:A.depth+3 * k+5 < recursionLimit
 un:A.units+16 * k+200 < cLine
theorem Room.mono {j k:Nat} {A:Around} (r:Room k A) (h:j<=k):Room j A:=⟨r.hd,by have:=r.dp; omega,by have:=r.un; omega⟩
theorem Room.deeper {k:Nat} {A:Around} (r:Room (k+1) A) (env:Env):Room k (A.deeper env) :=
 ⟨r.hd,by have:=r.dp; show A.depth+1+3 * k+5 < _; omega,by have:=r.un; show A.units+3+16 * k+200 < _; omega⟩
theorem znj {A:Around} {C:Addr} {us:List Value} {kw:List (Str×Value)}:(A.under (.builtin "type.__call__" ⟨.ref C::us,kw⟩)).depth=A.depth+1:=by
 first | rfl | simp [Around.under,Code.weight,Code.isCreation,Code.isGuard,Code.isCaller,Code.frames,Code.isFrame,guardIds]
theorem zni {A:Around} {C:Addr} {us:List Value} {kw:List (Str×Value)}:(A.under (.builtin "type.__call__" ⟨.ref C::us,kw⟩)).units=A.units+1:=by
 first | rfl | simp [Around.under,Code.cUnits,Code.frames,Code.isFrame]
theorem Room.make {k:Nat} {A:Around} (r:Room (k+1) A) (C:Addr) (us:List Value) (kw:List (Str×Value)):Room k (A.under (.builtin "type.__call__" ⟨.ref C::us,kw⟩)) :=
 ⟨r.hd,by have:=r.dp; rw [znj]; omega,by have:=r.un; rw [zni]; omega⟩
theorem Room.depth {k:Nat} {A:Around} (r:Room k A):A.depth < recursionLimit:=by have:=r.dp; omega
theorem Room.units {k:Nat} {A:Around} (r:Room k A):A.units+64 < cLine:=by have:=r.un; omega
def tNil:TA:=λ _ H Q=>Q [] H
def zpu (ta:TE) (tr:TA):TA:=λ σ H Q=>ta σ H λ x H1=>tr σ H1 λ xs H2=>Q (x::xs) H2
section
variable {X:Cx} {e:Expr} {es:List Expr} {te:TE} {t:TA} {pos:Pos}
theorem zad:PA X [] tNil:=λ _ _ _ _ H Q I h=>Calls.spliced_nil ⟨[],H,I,.nil,h⟩
theorem zaa (ha:PE X e te) (hr:PA X es t) (hs:starEach (e::es) X.env=(false,eval e X.env)::starEach es X.env:=by rfl):PA X (e::es) (zpu te t):=by
 intro pos pins s σ H Q I h
 rw [hs]
 show wpAny _ _ (spliced ((false,eval e X.env)::backTo pos (starEach es X.env))) _ _ s
 refine Calls.spliced_cons (thn (ha pins s σ H _ I h) λ u s1 ⟨x,H1,I1,r1,q1⟩=>?_)
 exact thn (hr pos pins s1 σ H1 _ I1 q1) λ us s2 ⟨xs,H2,I2,r2,q2⟩=>⟨x::xs,H2,I2,.cons r1 r2,q2⟩
def tTup (t:TA):TE:=λ σ H Q=>t σ H λ xs H1=>xs.length<=sizeLine/\∀ p,H1 p=none->Q (.ref p) (upd H1 p (.tup xs))
def tLst (t:TA):TE:=λ σ H Q=>t σ H λ xs H1=>xs.length<=sizeLine/\∀ p,H1 p=none->Q (.ref p) (upd H1 p (.lst xs))
theorem zby {x1} (h:PA X es t):PE X (.Tuple es x1 pos) (tTup t):=by
 intro pins s σ H Q I hq
 refine wpAny_Tuple_spliced (thn (h pos pins s σ H _ I hq) λ us s1 ⟨xs,H1,I1,r,z,q⟩=>⟨by rw [<-r.length]; exact z,?_⟩)
 have hf:H1 s1.heap.objs.size=none:=I1.hok.fresh (Nat.le_refl _)
 refine ⟨.ref s1.heap.objs.size,upd H1 s1.heap.objs.size (.tup xs),I1.laid (t':=s1.toks) (λ b u e=>Heap.get?_push_of_some _ e) (Nat.le_refl _) ?_,rfl,q _ hf⟩
 exact ⟨z,us,r,⟨_,Heap.get?_push_size _ rfl,rfl,_,rfl⟩⟩
theorem zc0 (h:PA X es t):PE X (.List es pos) (tLst t):=by
 intro pins s σ H Q I hq
 refine wpAny_List_spliced (thn (h pos pins s σ H _ I hq) λ us s1 ⟨xs,H1,I1,r,z,q⟩=>⟨by rw [<-r.length]; exact z,?_⟩)
 have hf:H1 s1.heap.objs.size=none:=I1.hok.fresh (Nat.le_refl _)
 refine ⟨.ref s1.heap.objs.size,upd H1 s1.heap.objs.size (.lst xs),I1.laid (t':=s1.toks) (λ b u e=>Heap.get?_push_of_some _ e) (Nat.le_refl _) ?_,rfl,q _ hf⟩
 exact ⟨z,us,0,r,Heap.get?_push_size _ rfl⟩
end
abbrev Sp:=List V->Hp->VK->XK->Prop
abbrev CXT:=List Env->Hp->Shared->XK->Value->Shared->Prop
structure Env0 (P:Program) (w:World) (K:PySem.W.Frag) (mg:Str->Option Value) (base:Heap) (A:Around) (outer:List Env) (s:Shared) (H:Hp):Prop where
 frames:A.frames=some outer
 mod:Mod K mg base
 bs:∀ b o,base.get? b=some o->s.heap.get? b=some o/\H b=none
 bsz:base.objs.size<=s.heap.objs.size
 funs:s.heap.FunFrames base outer
 frf:∀ b∈frs outer,H b=none
 hok:HOk P w H s.heap
 bare:AllBare s.gens
def CE (outer:List Env) (P:Program) (w:World) (H:Hp) (s:Shared) (Q:VK) (u:Value) (s':Shared):Prop :=
 ∃ v H',s'.os=s.os/\AllBare s'.gens/\Un (frs outer) [] H H' s.heap s'.heap/\HOk P w H' s'.heap/\RelV v u/\Q v H'
def CR (CX:CXT) (outer:List Env) (P:Program) (w:World) (H:Hp) (s:Shared) (Q:VK) (E:XK) (r:Result) (s':Shared):Prop :=
 match r with
 | .ok (.ret u)=>CE outer P w H s Q u s'
 | .ok _=>False
 | .error e=>CX outer H s E e s'
structure FnOk (P:Program) (w:World) (K:PySem.W.Frag) (mg:Str->Option Value) (base:Heap) (CX:CXT) (k:Nat) (f:Addr) (fd:FuncData) (ps:List Str) (sp:Sp):Prop where
 len:∀ vs H Q E,sp vs H Q E->vs.length=ps.length
 run:∀ (A:Around) (outer:List Env) (s:Shared) (H:Hp) (args:Args) (us:List Value) (vs:List V) (Q:VK) (E:XK),Room k A->Env0 P w K mg base A outer s H->BindsTo s fd args (ps.zip us)->Vals vs us->sp vs H Q E ->
  codeAny (model P w) A (.call (.ref f) args) (CR CX outer P w H s Q E) s
theorem Env0.make {P:Program} {w:World} {K:PySem.W.Frag} {mg:Str->Option Value} {base:Heap} {A:Around} {outer:List Env} {s:Shared} {H:Hp} (e:Env0 P w K mg base A outer s H) (C:Addr) (us:List Value) (kw:List (Str×Value)) :
 Env0 P w K mg base (A.under (.builtin "type.__call__" ⟨.ref C::us,kw⟩)) outer s H:=⟨by first | exact e.frames | (simpa [Around.under,Code.envs,Code.isFrame,pushEnvs] using e.frames),e.mod,e.bs,e.bsz,e.funs,e.frf,e.hok,e.bare⟩
section
variable {X:Cx} {pins:List (Addr×Obj)} {σ:St} {H:Hp} {s s':Shared}
theorem Inv.env0 (I:Inv X pins σ H s):Env0 X.prog X.w X.K X.mg X.base X.A X.stack s H :=
 ⟨I.ok.frames,I.ok.mod,I.bs,Nat.le_trans I.ok.bsz I.sz,I.stack,I.zgP,I.hok,I.bare⟩
theorem Inv.after {Q:VK} {u:Value} (I:Inv X pins σ H s) (h:CE X.stack X.prog X.w H s Q u s'):EP X pins σ Q u s':=by
 obtain ⟨v,H',os,bare,un,hok,r,q⟩:=h
 obtain ⟨hh,g,d,t,os'⟩:=s'
 obtain rfl:os'=s.os:=os
 exact ⟨v,H',I.call (h':=hh) (g':=g) (d':=d) (t':=t) (ch:=[]) un hok bare (λ b z=>absurd z (by simp)),r,q⟩
end
def zsP (sp:Sp) (dvs:List V) (E:XK) (t:TA):TE:=λ σ H Q=>t σ H λ vs H1=>sp (vs++dvs) H1 Q E
def zrK (C:Addr) (m:Str) (sp:Sp) (dvs:List V) (E:XK) (ta:TE) (t:TA):TE:=λ σ H Q=>ta σ H λ x H1=>∃ a dx fs,x=.ref a/\H1 a=some (.ins C dx fs)/\fs.lookup m=none /\
 t σ H1 λ vs H2=>sp (x::(vs++dvs)) H2 Q E
def zrL (C:Addr) (sp:Sp) (dvs:List V) (E:XK) (t:TA):TE:=λ σ H Q=>t σ H λ vs H1=>∀ x dx,H1 x=none->H1 dx=none->dx≠x ->
 sp (.ref x::(vs++dvs)) (upd (upd H1 dx (.own x)) x (.ins C dx [])) (λ v H2=>v=.non/\Q (.ref x) H2) E
def Binds (K:PySem.W.Frag) (fd:FuncData) (ps:List Str) (ds:List Value):Prop :=
 ∀ (s:Shared) (us:List Value),K.In s.heap->(us++ds).length=ps.length->BindsTo s fd ⟨us,[]⟩ (ps.zip (us++ds))
theorem Binds.all {K:PySem.W.Frag} {fd:FuncData} {ps:List Str} (h:∀ us:List Value,us.length=ps.length->bindArgs fd ⟨us,[]⟩=pure (ps.zip us)):Binds K fd ps []:=λ s us _ hl=>by
 rw [List.append_nil] at hl ⊢
 exact .of_eq (h us hl)
def Passes (CX:CXT) (X:Cx) (E:XK):Prop:=∀ (pins:List (Addr×Obj)) (σ:St) (H:Hp) (s:Shared) (e:Value) (s':Shared),Inv X pins σ H s->CX X.stack H s E e s'->X.xe e s'
section
variable {X:Cx} {CX:CXT} {k:Nat} {f C:Addr} {fd:FuncData} {ps:List Str} {sp:Sp} {dvs:List V} {ds:List Value} {E:XK} {x m:Str} {p pos apos:Pos} {e o:Expr} {es:List Expr} {ta:TE} {t:TA}
theorem zn9 {pins:List (Addr×Obj)} {σ:St} {H:Hp} {s:Shared} {Q:VK} {us:List Value} {vs:List V} (F:FnOk X.prog X.w X.K X.mg X.base CX k f fd ps sp) (hr:Room k X.A) (hb:Binds X.K fd ps ds) (hd:Vals dvs ds) (hx:Passes CX X E)
  (I:Inv X pins σ H s) (r:Vals vs us) (h:sp (vs++dvs) H Q E):wpAny (model X.prog X.w) X.A (call (.ref f) us) (EP X pins σ Q) X.xe s:=by
 have r2:Vals (vs++dvs) (us++ds):=r.append hd
 have hl:(us++ds).length=ps.length:=by rw [<-r2.length]; exact F.len _ _ _ _ h
 refine wpAny_call (codeAny_mono (F.run X.A X.stack s H ⟨us,[]⟩ (us++ds) (vs++dvs) Q E hr I.env0 (hb s us I.kIn hl) r2 h) λ r s' hq=>?_)
 cases r with
 | error e=>exact hx pins σ H s e s' I hq
 | ok fl =>
  cases fl with
  | ret u=>exact I.after hq
  | next=>exact False.elim hq
  | brk=>exact False.elim hq
  | cont=>exact False.elim hq
theorem zaR (F:FnOk X.prog X.w X.K X.mg X.base CX k f fd ps sp) (hr:Room k X.A) (hg:Gl X x) (hm:X.mg x=some (.ref f)) (hk:PySem.W.keepIn X.K (.ref f)=true) (hb:Binds X.K fd ps ds) (hd:Vals dvs ds) (hx:Passes CX X E)
  (ha:PA X (e::es) t) (hdb:(x == ("__debug__" : Str))=false:=by decide) (he:starEach (e::es) X.env=(false,eval e X.env)::starEach es X.env:=by rfl) (hpl:(backTo pos (starEach es X.env)).any (·.1)=false:=by rfl) :
  PE X (.Call (.Name x p) (e::es) [] pos) (zsP sp dvs E t):=by
 intro pins s σ H Q I h
 refine wpAny_Call_Name_kw (zfW I hg hm ?_ hdb)
 refine PySem.W.callWith_K (h₀:=X.base) I.ok.mod.kin hk (thn (ha pos pins s σ H _ I h) λ us s1 ⟨vs,H1,I1,r,q⟩=>⟨I1.kIn,?_⟩) he hpl
 exact zn9 F hr hb hd hx I1 r q
theorem zax {pl:Sem Bool} (he:PE X o ta) (c:Cls X.K C) (hm:Meth X.K C m f) (F:FnOk X.prog X.w X.K X.mg X.base CX k f fd ps sp) (hr:Room k X.A) (hb:Binds X.K fd ps ds) (hd:Vals dvs ds) (hx:Passes CX X E) (ha:PA X (e::es) t)
  (hst:starEach (e::es) X.env=(false,eval e X.env)::starEach es X.env:=by rfl) (hpl:(backTo pos (starEach es X.env)).any (·.1)=false:=by rfl)
  (ht:eval (.Call (.Attribute o m apos) (e::es) [] pos) X.env=(do
   let ov <-eval o X.env
   standAt apos.atName
   let (f,first) <-holding [ov] (getMethod ov m pl)
   callWith pos f first (backTo pos (starEach (e::es) X.env)) (backToKw pos (keywordEach [] X.env))):=by rfl) :
  PE X (.Call (.Attribute o m apos) (e::es) [] pos) (zrK C m sp dvs E ta t):=by
 intro pins s σ H Q I h
 refine PySem.W.methodCall_KW (pl:=pl) (thn (he pins s σ H _ I h) λ u s1 ⟨x,H1,I1,rx,a,dx,fs,ex,ea,l,q⟩=>?_) ht
 subst ex
 obtain rfl:u=Value.ref a:=rx
 refine zf1 I1 ea c hm l ?_
 refine PySem.W.callWith_K (first:=[.ref a]) (h₀:=X.base) I.ok.mod.kin hm.kp (thn (ha pos pins s1 σ H1 _ I1 q) λ us s2 ⟨vs,H2,I2,r,q2⟩=>⟨I2.kIn,?_⟩) hst hpl
 exact zn9 (us:=.ref a::us) (vs:=.ref a::vs) F hr hb hd hx I2 (.cons rfl r) q2
theorem zdy {pl:Sem Bool} (he:PE X o ta) (c:Cls X.K C) (hm:Meth X.K C m f) (F:FnOk X.prog X.w X.K X.mg X.base CX k f fd ps sp) (hr:Room k X.A) (hb:Binds X.K fd ps ds) (hd:Vals dvs ds) (hx:Passes CX X E)
  (ht:eval (.Call (.Attribute o m apos) [] [] pos) X.env=(do
   let ov <-eval o X.env
   standAt apos.atName
   let (f,first) <-holding [ov] (getMethod ov m pl)
   callWith pos f first (backTo pos (starEach [] X.env)) (backToKw pos (keywordEach [] X.env))):=by rfl) :
  PE X (.Call (.Attribute o m apos) [] [] pos) (zrK C m sp dvs E ta tNil):=by
 intro pins s σ H Q I h
 refine PySem.W.methodCall_KW (pl:=pl) (thn (he pins s σ H _ I h) λ u s1 ⟨x,H1,I1,rx,a,dx,fs,ex,ea,l,q⟩=>?_) ht
 subst ex
 obtain rfl:u=Value.ref a:=rx
 refine zf1 I1 ea c hm l ?_
 exact PySem.W.callWith_K0 (first:=[.ref a]) I1.kIn hm.kp (zn9 (us:=[.ref a]) (vs:=[.ref a]) F hr hb hd hx I1 (.cons rfl .nil) q)
structure Mk (K:PySem.W.Frag) (C f:Addr):Prop where
 makes:PySem.W.makesIn K C=true
 init:PySem.W.findIn K (.ref C) "__init__" = some (some (.ref f))
 fn:PySem.W.isFn K (.ref f)=true
 kp:PySem.W.keepIn K (.ref C)=true
theorem zmp {pins:List (Addr×Obj)} {σ:St} {H:Hp} {s:Shared} {Q:VK} {us:List Value} {vs:List V} (M:Mk X.K C f) (F:FnOk X.prog X.w X.K X.mg X.base CX k f fd ps sp) (hr:Room (k+1) X.A) (hb:Binds X.K fd ps ds) (hd:Vals dvs ds)
  (hx:Passes CX X E) (I:Inv X pins σ H s) (r:Vals vs us)
  (h:∀ x dx,H x=none->H dx=none->dx≠x->sp (.ref x::(vs++dvs)) (upd (upd H dx (.own x)) x (.ins C dx [])) (λ v H2=>v=.non/\Q (.ref x) H2) E) :
  wpAny (model X.prog X.w) X.A (call (.ref C) us) (EP X pins σ Q) X.xe s:=by
 have hq:=h (s.heap.objs.size+1) s.heap.objs.size (I.hok.fresh (Nat.le_succ _)) (I.hok.fresh (Nat.le_refl _)) (Nat.ne_of_lt (Nat.lt_succ_self _))
 have I2:=Inv.made (C:=C) I
 have r2:Vals (V.ref (s.heap.objs.size+1)::(vs++dvs)) (Value.ref (s.heap.objs.size+1)::(us++ds)):=.cons rfl (r.append hd)
 have hl:(Value.ref (s.heap.objs.size+1)::us++ds).length=ps.length:=by
  have e:=r2.length
  rw [F.len _ _ _ _ hq] at e
  exact e.symm
 refine wpAny_call (zpR (f:=f) I.kIn M.makes M.init (beq_iff_eq.mp M.fn) (codeAny_mono (F.run _ X.stack _ _ ⟨Value.ref (s.heap.objs.size+1)::us,[]⟩ (Value.ref (s.heap.objs.size+1)::(us++ds)) _ _ E (hr.make C us [])
  (I2.env0.make C us []) (hb _ (Value.ref (s.heap.objs.size+1)::us) I2.kIn hl) r2 hq) λ r s' hq'=>?_))
 cases r with
 | error e=>exact hx pins σ _ _ e s' I2 hq'
 | ok fl =>
  cases fl with
  | ret u =>
   obtain ⟨v,H',I3,rv,ev,q3⟩:=I2.after hq'
   subst ev
   exact ⟨rv,⟨V.ref (s.heap.objs.size+1),H',I3,rfl,q3⟩⟩
  | next=>exact False.elim hq'
  | brk=>exact False.elim hq'
  | cont=>exact False.elim hq'
theorem zoh (M:Mk X.K C f) (F:FnOk X.prog X.w X.K X.mg X.base CX k f fd ps sp) (hr:Room (k+1) X.A) (hg:Gl X x) (hm:X.mg x=some (.ref C)) (hb:Binds X.K fd ps ds) (hd:Vals dvs ds) (hx:Passes CX X E)
  (ha:PA X (e::es) t) (hdb:(x == ("__debug__" : Str))=false:=by decide) (he:starEach (e::es) X.env=(false,eval e X.env)::starEach es X.env:=by rfl) (hpl:(backTo pos (starEach es X.env)).any (·.1)=false:=by rfl) :
  PE X (.Call (.Name x p) (e::es) [] pos) (zrL C sp dvs E t):=by
 intro pins s σ H Q I h
 refine wpAny_Call_Name_kw (zfW I hg hm ?_ hdb)
 refine PySem.W.callWith_K (h₀:=X.base) I.ok.mod.kin M.kp (thn (ha pos pins s σ H _ I h) λ us s1 ⟨vs,H1,I1,r,q⟩=>⟨I1.kIn,?_⟩) he hpl
 exact zmp M F hr hb hd hx I1 r q
theorem ziY (M:Mk X.K C f) (F:FnOk X.prog X.w X.K X.mg X.base CX k f fd ps sp) (hr:Room (k+1) X.A) (hg:Gl X x) (hm:X.mg x=some (.ref C)) (hb:Binds X.K fd ps ds) (hd:Vals dvs ds) (hx:Passes CX X E)
  (hdb:(x == ("__debug__" : Str))=false:=by decide):PE X (.Call (.Name x p) [] [] pos) (zrL C sp dvs E tNil):=by
 intro pins s σ H Q I h
 refine wpAny_Call_Name_kw (zfW I hg hm ?_ hdb)
 exact PySem.W.callWith_K0 I.kIn M.kp (zmp (us:=[]) M F hr hb hd hx I .nil h)
end
section
variable {X:Cx} {CX:CXT} {k:Nat} {f C:Addr} {fd:FuncData} {ps ks:List Str} {sp:Sp} {E:XK} {x m:Str} {p pos apos kpos:Pos} {e o:Expr} {es:List Expr} {kws:List Keyword} {te ta:TE} {t tk:TA} {nm:Option Str}
variable {g:List Value->List Value->List Value} {gV:List V->List V->List V}
end
structure zaq (N P:List Str) (sc:Scope):Prop where
 kind:sc.kind=.function
 co:sc.isCoroutine=false
 gen:sc.isGenerator=false
 nd:N.Nodup
 pre:N.take P.length=P
 par:∀ x∈P,sc.names.lookup x=some .local\/sc.names.lookup x=some .cell
 zsj:∀ y∈sc.names,y.2≠.free
theorem zkM {kindOf:Str->Option NameKind} {x:Str}:∀ {binds:List (Str×Value)} {m:Str->Option Value},(∀ v,(x,v)∉binds)->bindL kindOf binds m x=m x
 | [],_,_=>rfl
 | (n,v)::r,m,h=>by
  unfold bindL
  rw [zkM λ w hw=>h w (List.mem_cons_of_mem _ hw)]
  split
  . have:x≠n:=by rintro rfl; exact h v List.mem_cons_self
    simp [this]
  . rfl
theorem zkO {kindOf:Str->Option NameKind} {x:Str}:∀ {binds:List (Str×Value)} {m:Str->Option Value},(∀ v,(x,v)∉binds)->bindC kindOf binds m x=m x
 | [],_,_=>rfl
 | (n,v)::r,m,h=>by
  unfold bindC
  rw [zkO λ w hw=>h w (List.mem_cons_of_mem _ hw)]
  split
  . rfl
  . have:x≠n:=by rintro rfl; exact h v List.mem_cons_self
    simp [this]
theorem zkN {kindOf:Str->Option NameKind} {x:Str} {v:Value}:∀ {P:List Str} {vs:List Value} {i:Nat} {m:Str->Option Value},P.Nodup->P[i]?=some x->vs[i]?=some v->kindOf x=some .local ->
  bindL kindOf (P.zip vs) m x=some v
 | [],_,_,_,_,h,_,_=>by simp at h
 | _::_,[],_,_,_,_,h,_=>by simp at h
 | p::P,w::vs,0,m,nd,h1,h2,hk=>by
  simp at h1 h2; subst h1; subst h2
  show bindL kindOf ((p,w)::P.zip vs) m p=_
  unfold bindL
  rw [zkM λ v hv=>(List.nodup_cons.mp nd).1 (List.of_mem_zip hv).1,if_pos hk]
  simp
 | p::P,w::vs,i+1,m,nd,h1,h2,hk=>by
  show bindL kindOf ((p,w)::P.zip vs) m x=_
  unfold bindL
  exact zkN (i:=i) (List.nodup_cons.mp nd).2 (by simpa using h1) (by simpa using h2) hk
theorem zkP {kindOf:Str->Option NameKind} {x:Str} {v:Value}:∀ {P:List Str} {vs:List Value} {i:Nat} {m:Str->Option Value},P.Nodup->P[i]?=some x->vs[i]?=some v->kindOf x≠some .local ->
  bindC kindOf (P.zip vs) m x=some v
 | [],_,_,_,_,h,_,_=>by simp at h
 | _::_,[],_,_,_,_,h,_=>by simp at h
 | p::P,w::vs,0,m,nd,h1,h2,hk=>by
  simp at h1 h2; subst h1; subst h2
  show bindC kindOf ((p,w)::P.zip vs) m p=_
  unfold bindC
  rw [zkO λ v hv=>(List.nodup_cons.mp nd).1 (List.of_mem_zip hv).1,if_neg hk]
  simp
 | p::P,w::vs,i+1,m,nd,h1,h2,hk=>by
  show bindC kindOf ((p,w)::P.zip vs) m x=_
  unfold bindC
  exact zkP (i:=i) (List.nodup_cons.mp nd).2 (by simpa using h1) (by simpa using h2) hk
def start (N:List Str) (vs:List V):St:=vs.map some++List.replicate (N.length - vs.length) none
def cxOf (CX:CXT) (P:Program) (w:World) (K:PySem.W.Frag) (mg:Str->Option Value) (base:Heap) (N:List Str) (qual:Str) (scope:Scope) (f:Addr) (cd:Value) (A:Around) (outer:List Env) (s:Shared) (H:Hp) (E:XK):Cx where
 prog:=P
 w:=w
 K:=K
 mg:=mg
 base:=base
 A:=A.deeper (envOfC qual scope s.heap.objs.size f cd)
 N:=N
 s₀:=s
 H₀:=H
 env:=envOfC qual scope s.heap.objs.size f cd
 outer:=outer
 stack:=envOfC qual scope s.heap.objs.size f cd::outer
 ex:=[]
 calm:=true
 fn:=λ _=>true
 pn:=[]
 xe:=λ e s'=>wpAny (model P w) (A.deeper (envOfC qual scope s.heap.objs.size f cd)) (leaving (envOfC qual scope s.heap.objs.size f cd) e) (λ _ s''=>CX outer H s E e s'') (λ e' s''=>CX outer H s E e' s'') s'
theorem zmP {sc:Scope} {n:Nat} {x:Str} (h:sc.names.lookup x=some .cell):∃ c,(cellsFrom n sc.names []).lookup x=some c:=by
 have q:=PySem.W.cellsFrom_some sc.names n [] (.inl h)
 exact Option.isSome_iff_exists.mp q
theorem zoQ {CX:CXT} {P:Program} {w:World} {K:PySem.W.Frag} {mg:Str->Option Value} {base:Heap} {N ps:List Str} {qual:Str} {scope:Scope} {f:Addr} {cd:Value} {A:Around} {outer:List Env} {s s1:Shared} {H:Hp} {E:XK} {us:List Value} {vs:List V}
   (S:zaq N ps scope) (hd:A.handled=none) (e0:Env0 P w K mg base A outer s H) (hl:vs.length=ps.length) (r:Vals vs us)
   (x:InCallC s s.heap.objs.size (bindL (envOfC qual scope s.heap.objs.size f cd).kindOf (ps.zip us) λ _=>none) (cellsFrom (s.heap.objs.size+1) scope.names []) (bindC (envOfC qual scope s.heap.objs.size f cd).kindOf (ps.zip us) λ _=>none) s1) :
   Inv (cxOf CX P w K mg base N qual scope f cd A outer s H E) [] (start N vs) H s1:=by
 have hpl:ps.length<=N.length:=by have:=congrArg List.length S.pre; rw [List.length_take] at this; omega
 obtain ⟨h1,tk,rfl,hk⟩:=x.done
 have noA:∀ b:Addr,b∉(cxOf CX P w K mg base N qual scope f cd A outer s H E).ex:=λ b z=>absurd (show b∈([]:List Addr) from z) (by simp)
 refine ⟨⟨e0.mod,S.kind,rfl,rfl,Nat.le_refl _,λ y z c h1 h2=>?_,λ y hy=>?_,λ y c _ h=>?_,λ _=>hd,Around.frames_deeper e0.frames,.inr ⟨rfl,rfl⟩,λ b z=>absurd z (noA b),e0.bs,e0.bsz,λ b _ _=>noA b,λ b z=>absurd z (noA b),e0.funs,e0.frf⟩,
   rfl,e0.bare,Un.kept hk,⟨_,x.toInCall.ns,λ i y v h1 h2 h3=>?_⟩,λ y c h=>⟨_,x.cell y c h⟩,e0.hok.fresh (Nat.le_refl _),λ y c h=>?_,λ p hp=>absurd (show p∈([]:List (Addr×Obj)) from hp) (by simp),e0.hok.kept hk,?_⟩
 . exact name_of_addr x.apart (PySem.mem_of_lookup h1) (PySem.mem_of_lookup h2)
 . have hy:scope.names.lookup y=some .cell\/scope.names.lookup y=some .free:=hy
   rcases hy with hy | hy
   . exact zmP hy
   . exact absurd rfl (S.zsj _ (PySem.mem_of_lookup hy))
 . exact Nat.le_of_lt (x.above y c (PySem.mem_of_lookup h))
 . have hi:i < vs.length:=by
     unfold start at h2
     by_cases hi:i < vs.length
     . exact hi
     . rw [List.getElem?_append_right (by simpa using hi)] at h2
       rw [List.getElem?_replicate] at h2
       split at h2 <;> cases h2
   have ha:vs[i]?=some v:=by
     unfold start at h2
     rw [List.getElem?_append_left (by simpa using hi),List.getElem?_map] at h2
     cases e:vs[i]? with
     | none=>rw [e] at h2; cases h2
     | some a=>rw [e] at h2; cases h2; rfl
   obtain ⟨u,hu,rv⟩:=r.get ha
   have hp:ps[i]?=some y:=by
     rw [<-S.pre,List.getElem?_take_of_lt (by omega)]; exact h1
   have ndP:ps.Nodup:=by rw [<-S.pre]; exact S.nd.sublist (List.take_sublist _ _)
   refine ⟨u,rv,?_⟩
   rcases S.par y (List.mem_of_getElem? hp) with k | k
   . exact .inl ⟨k,zkN ndP hp hu k⟩
   . obtain ⟨c,e⟩:=zmP (n:=s.heap.objs.size+1) k
     refine .inr ⟨.inl k,c,e,?_⟩
     have q:=x.cell y c e
     rw [zkP ndP hp hu (by show scope.names.lookup y≠_; rw [k]; decide)] at q
     exact q
 . exact e0.hok.fresh (Nat.le_of_lt (x.above y c (PySem.mem_of_lookup h)))
 . unfold start
   show _=N.length
   rw [List.length_append,List.length_map,List.length_replicate]
   omega
theorem ztb {CX:CXT} {P:Program} {w:World} {K:PySem.W.Frag} {mg:Str->Option Value} {base:Heap} {k:Nat} {f:Addr} {name qual:Str} {params:Arguments} {body:List Stmt} {scope:Scope} {dV kV doc pm cdv ct oc:Value} {an od:Option Addr}
  {osl:Array (Option Value)} {N ps:List Str} {sp:Sp} (lk:K.lookup f=some ⟨oc,od,.func (PySem.W.fnOf name qual params body scope dV kV doc pm an cdv ct),osl⟩) (hcd:PySem.W.codeIn K cdv qual=true) (S:zaq N ps scope)
  (len:∀ vs H Q E,sp vs H Q E->vs.length=ps.length)
  (hbody:∀ (A:Around) (outer:List Env) (s:Shared) (H:Hp) (vs:List V) (Q:VK) (E:XK),Room k (A.deeper (envOfC qual scope s.heap.objs.size f cdv))->sp vs H Q E ->
    ∃ t,PSs (cxOf CX P w K mg base N qual scope f cdv A outer s H E) body t/\t { nx:=λ _ H'=>Q .non H',rt:=Q } (start N vs) H) :
  FnOk P w K mg base CX (k+1) f (PySem.W.fnOf name qual params body scope dV kV doc pm an cdv ct) ps sp:=by
 refine ⟨len,λ A outer s H args us vs Q E hr e0 hb r hsp=>?_⟩
 have hl:=len _ _ _ _ hsp
 have KX:K.In s.heap:=e0.mod.kin.keeps λ b o e=>(e0.bs b o e).1
 have lim:s.heap.NoLimit:=e0.mod.nolimit.keeps λ b o e=>(e0.bs b o e).1
 have hkind:∀ y∈ps.zip us,scope.names.lookup y.1=some .local\/(scope.names.lookup y.1=some .cell/\((cellsFrom (s.heap.objs.size+1) scope.names []).lookup y.1).isSome=true):=λ ⟨n,v⟩ hy=>by
  rcases S.par n (List.of_mem_zip hy).1 with q | q
  . exact .inl q
  . exact .inr ⟨q,PySem.W.cellsFrom_some _ _ _ (.inl q)⟩
 refine codeAny_call_function hr.depth (KX _ _ lk) rfl S.co S.gen rfl (PySem.W.codeRec_of KX hcd) (hb _ _ _ _ ?_)
 refine wpAny_newFunctionEnv_cells S.kind hkind λ env he s1 x=>?_
 subst he
 refine ⟨lim.keeps x.toInCall.keep,codeAny_func ?_⟩
 obtain ⟨t,ht,hq⟩:=hbody A outer s H vs Q E (hr.deeper _) hsp
 have I:Inv (cxOf CX P w K mg base N qual scope f cdv A outer s H E) [] (start N vs) H s1:=zoQ S hr.hd e0 hl r x
 refine wpAny_mono (ht [] s1 (start N vs) H _ I hq) (λ fl s' hs=>?_) λ e s' hs=>hs
 have fin:∀ {σ':St} {H':Hp} {v:V} {u:Value},Inv (cxOf CX P w K mg base N qual scope f cdv A outer s H E) [] σ' H' s'->RelV v u->Q v H'->CE outer P w H s Q u s' :=
  λ {σ' H' v u} J rv q=>⟨v,H',J.os,J.bare,J.base,J.hok,rv,q⟩
 cases fl with
 | ret u =>
  obtain ⟨v,σ',H',J,rv,q⟩:=hs
  exact fin J rv q
 | next =>
  obtain ⟨σ',H',J,q⟩:=hs
  exact fin (v:=V.non) (u:=Value.none) J rfl q
 | brk =>
  obtain ⟨_,_,_,q⟩:=hs
  exact False.elim q
 | cont =>
  obtain ⟨_,_,_,q⟩:=hs
  exact False.elim q
end L2
namespace L2
open PySem PySem.Spec PyProof.Rows
section
variable {X:Cx} {x:Str} {p pos:Pos} {e:Expr} {es:List Expr} {t:TA} {id T:String} {r:List V->Hp->VK->Prop}
def tCB (r:List V->Hp->VK->Prop) (t:TA):TE:=λ σ H Q=>t σ H λ vs H1=>r vs H1 Q
theorem zbi (hc:zgH X (.builtin id) r) (hg:Gl X x) (hm:X.mg x=none) (hv:bootBuiltins x=some (.builtin id)) (ha:PA X (e::es) t) (hn:x ≠ "__name__" := by decide) (hdb:(x == ("__debug__" : Str))=false:=by decide)
  (he:starEach (e::es) X.env=(false,eval e X.env)::starEach es X.env:=by rfl) (hpl:(backTo pos (starEach es X.env)).any (·.1)=false:=by rfl):PE X (.Call (.Name x p) (e::es) [] pos) (tCB r t):=by
 intro pins s σ H Q I h
 refine wpAny_Call_Name_kw (zmB I hg hm hv ?_ hn hdb)
 exact PyProof.Rows.callWith_builtin1 (thn (ha pos pins s σ H _ I h) λ us s1 ⟨vs,H1,I1,r1,q1⟩=>hc pins s1 σ H1 vs us Q I1 r1 q1) he hpl
theorem zbj (hc:zgH X (.type T) r) (hg:Gl X x) (hm:X.mg x=none) (hv:bootBuiltins x=some (.type T)) (ha:PA X (e::es) t) (hn:x ≠ "__name__" := by decide) (hdb:(x == ("__debug__" : Str))=false:=by decide)
  (he:starEach (e::es) X.env=(false,eval e X.env)::starEach es X.env:=by rfl) (hpl:(backTo pos (starEach es X.env)).any (·.1)=false:=by rfl):PE X (.Call (.Name x p) (e::es) [] pos) (tCB r t):=by
 intro pins s σ H Q I h
 refine wpAny_Call_Name_kw (zmB I hg hm hv ?_ hn hdb)
 exact PyProof.Rows.callWith_type1 (thn (ha pos pins s σ H _ I h) λ us s1 ⟨vs,H1,I1,r1,q1⟩=>hc pins s1 σ H1 vs us Q I1 r1 q1) he hpl
end
end L2
namespace HT
open PySem PyProof.Rows
section
open PySem.SeqAt
open PySem.AutoSeq1 (wpAny_loadPart')
open PySem.MeetsSeq PySem.MeetsSeq2 PySem.MeetsSeq3
end
section
variable {prog:Program} {w:World} {A:Around} {E:Value->Shared->Prop} {s:Shared}
def sIx (n d:Nat):Option Int->Nat
 | none=>d
 | some v=>if v < 0 then (v+(n:Int)).toNat else min v.toNat n
end
end HT
namespace L2
open PySem PySem.Spec PyProof.Rows
abbrev TO:=St->Hp->(Option Int->Hp->Prop)->Prop
def PO (X:Cx) (e:Option Expr) (t:TO):Prop :=
 ∀ (pins:List (Addr×Obj)) (s:Shared) (σ:St) (H:Hp) (Q:Option Int->Hp->Prop),Inv X pins σ H s->t σ H Q ->
  wpAny (model X.prog X.w) X.A (evalPart e X.env) (λ u s'=>∃ o H',Inv X pins σ H' s'/\IsPart u o/\Q o H') X.xe s
def zqM:TO:=λ _ H Q=>Q none H
def zsK (t:TE):TO:=λ σ H Q=>t σ H λ x H1=>∃ i,x=.int i/\Q (some i) H1
section
variable {X:Cx} {e:Expr} {te:TE} {lo hi:Option Expr} {tl th:TO} {pos p2:Pos}
theorem zq6:PO X none zqM:=by
 intro pins s σ H Q I h
 rw [evalPart_none]
 exact wpAny_pure ⟨none,H,I,.none,h⟩
theorem zlh (h:PE X e te):PO X (some e) (zsK te):=by
 intro pins s σ H Q I hw
 rw [evalPart_some]
 refine thn (h pins s σ H _ I hw) λ u s1 ⟨x,H1,I1,r1,q1⟩=>?_
 obtain ⟨i,rfl,q⟩:=q1
 obtain ⟨t,rfl⟩:=r1
 exact ⟨some i,H1,I1,.int i t,q⟩
def SlR (X:Cx) (r:V->Option Int->Option Int->Hp->VK->Prop):Prop :=
 ∀ (pins:List (Addr×Obj)) (s:Shared) (σ:St) (H:Hp) (x:V) (v vl vu:Value) (lo hi:Option Int) (sl:Addr) (Q:VK),Inv X pins σ H s->RelV x v->s.heap.IsSliceOf sl vl vu .none->IsPart vl lo->IsPart vu hi->r x lo hi H Q ->
  ∃ T id,typeLookup (.type T) "__getitem__" = pure (some (.builtin id))/\s.TypeIs v T/\wpAny (model X.prog X.w) X.A (getItem v (.ref sl)) (EP X pins σ Q) X.xe s
def tSl (r:V->Option Int->Option Int->Hp->VK->Prop) (te:TE) (tl th:TO):TE:=λ σ H Q=>te σ H λ x H1=>tl σ H1 λ l H2=>th σ H2 λ u H3=>r x l u H3 Q
theorem zmt {r:V->Option Int->Option Int->Hp->VK->Prop} (hr:SlR X r) (he:PE X e te) (hl:PO X lo tl) (hu:PO X hi th):PE X (.Subscript e (.Slice lo hi none p2) pos) (tSl r te tl th):=by
 intro pins s σ H Q I h
 refine Subscript_ (thn (he pins s σ H _ I h) λ v s1 ⟨x,H1,I1,r1,q1⟩=>?_)
 refine wpAny_Slice (thn (hl pins s1 σ H1 _ I1 q1) λ vl s2 ⟨l,H2,I2,pl,q2⟩=>thn (hu pins s2 σ H2 _ I2 q2) λ vu s3 ⟨u,H3,I3,pu,q3⟩=>?_)
 rw [evalPart_none]
 refine wpAny_pure ?_
 have I4:Inv X pins σ H3 { s3 with heap:=s3.heap.push { cls:=.type "slice",data:=.fields #[vl,vu,.none] } }:=I3.kept (t':=s3.toks) λ b ob q=>Heap.get?_push_of_some _ q
 obtain ⟨T,id,hT,ht,hg⟩:=hr pins { s3 with heap:=s3.heap.push { cls:=.type "slice",data:=.fields #[vl,vu,.none] } } σ H3 x v vl vu l u s3.heap.objs.size Q I4 r1 (Heap.IsSliceOf.new ..) pl pu q3
 show wpAny (model X.prog X.w) X.A (subscriptTail e (.Slice lo hi none p2) v (.ref s3.heap.objs.size)) (EP X pins σ Q) X.xe { s3 with heap:=s3.heap.push { cls:=.type "slice",data:=.fields #[vl,vu,.none] } }
 exact tail_any (ops:=[.ref s3.heap.objs.size,v]) ht hT hg (by with_unfolding_all rfl)
def cutV (xs:List V) (lo hi:Option Int):List V:=(xs.drop (HT.sIx xs.length 0 lo)).take (HT.sIx xs.length xs.length hi - HT.sIx xs.length 0 lo)
theorem zlO (xs:List V) (lo hi:Option Int):(cutV xs lo hi).length<=xs.length:=by
 unfold cutV
 rw [List.length_take,List.length_drop]
 omega
end
end L2
namespace L2
open PySem PySem.Spec PyProof.Rows
def ixN (n:Nat) (i:Int):Option Nat:=if 0<=i then (if i < n then some i.toNat else none) else if -(n:Int)<=i then some (i+n).toNat else none
def atI {α:Type} (xs:List α) (i:Int):Option α:=(ixN xs.length i).bind λ j=>xs[j]?
theorem zoN {n:Nat} {i:Int} {j:Nat} (h:ixN n i=some j):seqIndex? i n=some j/\j < n/\-(n:Int)<=i/\i < n:=by
 unfold ixN at h
 by_cases h0:0<=i
 . rw [if_pos h0] at h
   by_cases h1:i < n
   . rw [if_pos h1] at h
     have e:i.toNat=j:=Option.some.inj h
     exact ⟨by rw [seqIndex_of h0 h1,e],by omega,by omega,h1⟩
   . rw [if_neg h1] at h; cases h
 . rw [if_neg h0] at h
   by_cases h1:-(n:Int)<=i
   . rw [if_pos h1] at h
     have e:(i+n).toNat=j:=Option.some.inj h
     exact ⟨by rw [seqIndex_neg (by omega) h1,e],by omega,h1,by omega⟩
   . rw [if_neg h1] at h; cases h
theorem zl2 {α:Type} {xs:List α} {i:Int} {v:α} (h:atI xs i=some v):∃ j,seqIndex? i xs.length=some j/\xs[j]?=some v/\j < xs.length/\-(xs.length:Int)<=i/\i < xs.length:=by
 unfold atI at h
 cases e:ixN xs.length i with
 | none=>rw [e] at h; cases h
 | some j =>
  rw [e] at h
  obtain ⟨h1,h2,h3,h4⟩:=zoN e
  exact ⟨j,h1,h,h2,h3,h4⟩
theorem zbs {α:Type} {xs:List α} {j:Nat} {v:α} (h:xs[j]?=some v):atI xs (j:Int)=some v:=by
 have hj:j < xs.length:=(List.getElem?_eq_some_iff.mp h).1
 have e:ixN xs.length (j:Int)=some j:=by
  unfold ixN
  rw [if_pos (by omega),if_pos (by omega)]; simp
 unfold atI; rw [e]; exact h
def zrB (b:Expr):Prop:=∀ o i,subscripted b false o i=operate [o,i] (getItem o i)
def IxR (X:Cx) (r:R2):Prop :=
 ∀ (value slice:Expr) (pins:List (Addr×Obj)) (s:Shared) (σ:St) (H:Hp) (x y:V) (v u:Value) (Q:VK),Inv X pins σ H s->RelV x v->RelV y u->r x y H Q ->
  subscripted slice false v u=operate [v,u] (getItem v u)->wpAny (model X.prog X.w) X.A (subscriptTail value slice v u) (EP X pins σ Q) X.xe s
def MtR (X:Cx) (id:String) (r:V->List V->Hp->VK->Prop):Prop :=
 ∀ (pins:List (Addr×Obj)) (s:Shared) (σ:St) (H:Hp) (x:V) (xs:List V) (v:Value) (us:List Value) (Q:VK),Inv X pins σ H s->RelV x v->Vals xs us->r x xs H Q ->
  wpAny (model X.prog X.w) X.A (call (.builtin id) (v::us)) (EP X pins σ Q) X.xe s
section
variable {X:Cx} {a b:Expr} {ta tb:TE} {pos:Pos}
theorem zba {r:R2} (hr:IxR X r) (ha:PE X a ta) (hb:PE X b tb) (hs:zrB b):PE X (.Subscript a b pos) (tOp r ta tb):=by
 intro pins s σ H Q I h
 exact Subscript_ (binT ha hb I h λ v u s2 x y H2 I2 rx ry q=>hr a b pins s2 σ H2 x y v u Q I2 rx ry q (hs _ _))
def rIxL (K:PySem.W.Frag):R2:=λ x y H Q=>∃ p xs i v,x=.ref p/\y=.int i/\SqL K H p xs/\atI xs i=some v/\Q v H
def rIxT (K:PySem.W.Frag):R2:=λ x y H Q=>∃ p xs i v,x=.ref p/\y=.int i/\SqT K H p xs/\atI xs i=some v/\Q v H
def rIxS:R2:=λ x y H Q=>∃ z i c,x=.str z/\y=.int i/\z.length<=sizeLine/\atI z.cps.toList i=some c/\Q (.str ⟨#[c]⟩) H
theorem zbr:IxR X (rIxL X.K):=by
 intro value slice pins s σ H x y v u Q I rx ry h hs
 obtain ⟨p,xs,i,z,rfl,rfl,hq,he,q⟩:=h
 cases rx
 obtain ⟨t,rfl⟩:=ry
 obtain ⟨its,r,pl,hz⟩:=I.list hq
 obtain ⟨j,h1,h2,h3,h4,h5⟩:=zl2 he
 obtain ⟨w,ew,rw'⟩:=r.get h2
 have hl:=r.length
 have hn:=zkt
 have fin:EP X pins σ Q w s:=⟨z,H,I,rw',q⟩
 by_cases h0:0<=i
 . have hj:i.toNat=j:=by
    rw [seqIndex_of h0 h5] at h1
    exact Option.some.inj h1
   exact item_listR pl.isList h0 (by omega) (by rw [hj]; simpa using ew) fin hs
 . have hj:(i+(its.toArray.size:Int)).toNat=j:=by
    rw [seqIndex_neg (by omega) h4] at h1
    rw [List.size_toArray,<-hl]
    exact Option.some.inj h1
   exact subscriptTail_builtinR (x:=w) pl.isList.typeIs slot_list_getitem.lookup
    (wpAny_getItem_list_neg (Q:=λ r s'=>r=w/\EP X pins σ Q r s') pl.isList (by omega) (by rw [List.size_toArray] <;> omega) (by omega) (by rw [hj]; simpa using ew) ⟨rfl,fin⟩) hs
theorem zb3:IxR X (rIxT X.K):=by
 intro value slice pins s σ H x y v u Q I rx ry h hs
 obtain ⟨p,xs,i,z,rfl,rfl,hq,he,q⟩:=h
 cases rx
 obtain ⟨t,rfl⟩:=ry
 obtain ⟨its,r,pl,hz⟩:=I.tuple hq
 obtain ⟨j,h1,h2,h3,h4,h5⟩:=zl2 he
 obtain ⟨w,ew,rw'⟩:=r.get h2
 have hl:=r.length
 have hn:=zkt
 have fin:EP X pins σ Q w s:=⟨z,H,I,rw',q⟩
 exact subscriptTail_builtinR (x:=w) pl.typeIs slot_tuple_getitem.lookup
  (getItem_tuple (j:=j) (Q:=λ r s'=>r=w/\EP X pins σ Q r s') pl (by omega) (by omega) (by rw [List.size_toArray,<-hl]; exact h1) (by simpa using ew) ⟨rfl,fin⟩) hs
theorem zmE:IxR X rIxS:=by
 intro value slice pins s σ H x y v u Q I rx ry h hs
 obtain ⟨z,i,c,rfl,rfl,hz,he,q⟩:=h
 obtain ⟨t,rfl⟩:=rx
 obtain ⟨t',rfl⟩:=ry
 obtain ⟨j,h1,h2,h3,h4,h5⟩:=zl2 he
 have hl:z.cps.toList.length=z.length:=by simp [Str.length]
 rw [hl] at h1 h4 h5
 have hn:=zkt
 exact tail_any (typeIs_str s z t) slot_str_getitem.lookup (getItem_str (c:=c) (by
  have e1:decide (i < -(2 ^ 63:Int))=false:=decide_eq_false (by omega)
  have e2:decide (i ≥ 2 ^ 63)=false:=decide_eq_false (by omega)
  rw [e1,e2,Bool.or_false]) (by rw [h1]; simpa using h2) ⟨.str ⟨#[c]⟩,H,I.tok _,⟨_,rfl⟩,q⟩) hs
theorem zjP (lo hi:Option Int) (n:Nat):(sliceBounds lo hi none n).1=((HT.sIx n 0 lo:Nat):Int)/\(sliceBounds lo hi none n).2.1=((HT.sIx n n hi:Nat):Int)/\(sliceBounds lo hi none n).2.2=1:=by
 refine ⟨?_,?_,rfl⟩
 . cases lo with
   | none=>simp [sliceBounds,HT.sIx]
   | some i =>
    simp only [sliceBounds,HT.sIx,Option.getD_none,show (1:Int) > 0 by decide,if_true]
    by_cases h:i < 0
    . simp only [h,if_true] <;> omega
    . simp only [h,if_false] <;> omega
 . cases hi with
   | none=>simp [sliceBounds,HT.sIx]
   | some i =>
    simp only [sliceBounds,HT.sIx,Option.getD_none,show (1:Int) > 0 by decide,if_true]
    by_cases h:i < 0
    . simp only [h,if_true] <;> omega
    . simp only [h,if_false] <;> omega
theorem ziO (its:List Value) (lo hi:Option Int):slicePick its.toArray lo hi none=((its.drop (HT.sIx its.length 0 lo)).take (HT.sIx its.length its.length hi - HT.sIx its.length 0 lo)).toArray:=by
 obtain ⟨h1,h2,h3⟩:=zjP lo hi its.toArray.size
 unfold slicePick
 rw [h1,h2,h3]
 simp only [sliceRange_one,pick_run,List.size_toArray] <;> rfl
def rSlL (K:PySem.W.Frag):V->Option Int->Option Int->Hp->VK->Prop:=λ x lo hi H Q=>∃ a xs,x=.ref a/\SqL K H a xs/\∀ p,H p=none->Q (.ref p) (upd H p (.lst (cutV xs lo hi)))
theorem zn1:SlR X (rSlL X.K):=by
 intro pins s σ H x v vl vu lo hi sl Q I rx hs pl pu h
 obtain ⟨a,xs,rfl,hx,q⟩:=h
 cases rx
 obtain ⟨its,r,ht,hz⟩:=I.list hx
 have hlen:=r.length
 refine ⟨"list",_,slot_list_getitem.lookup,ht.isList.typeIs,?_⟩
 refine wpAny_getItem_list_slice ht.isList hs pl pu .none (by simp) ?_ (by rw [List.size_toArray] <;> omega)
 rw [ziO,<-hlen]
 refine ⟨.ref s.heap.objs.size,_,I.laid (t':=s.toks) (o:=.lst (cutV xs lo hi)) (λ b ob q=>Heap.get?_push_of_some _ q) (Nat.le_refl _) ?_,rfl,q _ (I.hok.fresh (Nat.le_refl _))⟩
 exact ⟨Nat.le_trans (zlO xs lo hi) hz,_,0,(r.drop (HT.sIx xs.length 0 lo)).take (HT.sIx xs.length xs.length hi - HT.sIx xs.length 0 lo),Heap.get?_push_size _ rfl⟩
def zjn:V->Bool
 | .non=>true
 | .bl _=>true
 | .int _=>true
 | .str _=>true
 | _=>false
def eqV:V->V->Bool
 | .non,.non=>true
 | .bl a,.bl b=>a == b
 | .bl a,.int b=>(if a then 1 else 0) == b
 | .int a,.bl b=>a == (if b then 1 else 0)
 | .int a,.int b=>a == b
 | .str a,.str b=>a == b
 | _,_=>false
theorem zsw {A:Around} {s:Shared} {y x:V} {u v:Value} (ry:RelV y u) (rx:RelV x v) (fy:zjn y=true) (fx:zjn x=true):SeqAt.EqAt A s u v (eqV y x):=by
 cases y with
 | non =>
  cases ry
  cases x with
  | non=>cases rx; exact SeqAt.EqAt.same _
  | bl b=>cases rx; exact SeqAt.EqAt.none_bool b
  | int b=>obtain ⟨t,rfl⟩:=rx; exact SeqAt.EqAt.none_int b t
  | str b=>obtain ⟨t,rfl⟩:=rx; exact SeqAt.EqAt.none_str b t
  | _=>exact absurd (show false=true from fx) Bool.false_ne_true
 | bl a =>
  cases ry
  cases x with
  | non=>cases rx; exact SeqAt.EqAt.bool_none a
  | bl b=>cases rx; exact SeqAt.EqAt.bool_bool a b
  | int b=>obtain ⟨t,rfl⟩:=rx; exact SeqAt.EqAt.bool_int a b t
  | str b=>obtain ⟨t,rfl⟩:=rx; exact SeqAt.EqAt.bool_str a b t
  | _=>exact absurd (show false=true from fx) Bool.false_ne_true
 | int a =>
  obtain ⟨t',rfl⟩:=ry
  cases x with
  | non=>cases rx; exact SeqAt.EqAt.int_none a t'
  | bl b=>cases rx; exact SeqAt.EqAt.int_bool a t' b
  | int b=>obtain ⟨t,rfl⟩:=rx; exact SeqAt.EqAt.int_int a t' b t
  | str b=>obtain ⟨t,rfl⟩:=rx; exact SeqAt.EqAt.int_str a t' b t
  | _=>exact absurd (show false=true from fx) Bool.false_ne_true
 | str a =>
  obtain ⟨t',rfl⟩:=ry
  cases x with
  | non=>cases rx; exact SeqAt.EqAt.str_none a t'
  | bl b=>cases rx; exact SeqAt.EqAt.str_bool a t' b
  | int b=>obtain ⟨t,rfl⟩:=rx; exact SeqAt.EqAt.str_int a t' b t
  | str b=>obtain ⟨t,rfl⟩:=rx; exact SeqAt.EqAt.str_str a t' b t
  | _=>exact absurd (show false=true from fx) Bool.false_ne_true
 | _=>exact absurd (show false=true from fy) Bool.false_ne_true
def eqU (x:V) (u:Value):Bool:=match u with
 | .none=>eqV .non x
 | .bool b=>eqV (.bl b) x
 | .int i _=>eqV (.int i) x
 | .str z _=>eqV (.str z) x
 | _=>false
theorem zqC {x y:V} {u:Value} (r:RelV y u) (f:zjn y=true):eqU x u=eqV y x:=by
 cases y with
 | non=>cases r; rfl
 | bl b=>cases r; rfl
 | int i=>obtain ⟨t,rfl⟩:=r; rfl
 | str z=>obtain ⟨t,rfl⟩:=r; rfl
 | _=>exact absurd (show false=true from f) Bool.false_ne_true
theorem zhP {x:V}:∀ {xs:List V} {us:List Value},Vals xs us->xs.all zjn=true->us.any (eqU x)=xs.any λ y=>eqV y x
 | _,_,.nil,_=>rfl
 | y::xs,u::us,.cons r t,f=>by
  rw [List.all_cons,Bool.and_eq_true] at f
  rw [List.any_cons,List.any_cons,zqC r f.1,zhP t f.2]
theorem zfm {A:Around} {s:Shared} {x:V} {v:Value} (rx:RelV x v) (fx:zjn x=true):∀ {xs:List V} {us:List Value},Vals xs us->xs.all zjn=true->∀ u∈us,SeqAt.EqAt A s u v (eqU x u)
 | _,_,.nil,_=>λ u hu=>by cases hu
 | y::xs,u::us,.cons r t,f=>λ u' hu=>by
  rw [List.all_cons,Bool.and_eq_true] at f
  rcases List.mem_cons.mp hu with rfl | hu
  . rw [zqC r f.1]; exact zsw r rx f.1 fx
  . exact zfm rx fx t f.2 u' hu
def inV (x:V) (xs:List V):Bool:=xs.any λ y=>eqV y x
def rIn (K:PySem.W.Frag) (neg:Bool):R2:=λ x y H Q=>∃ p xs,y=.ref p/\(SqL K H p xs\/SqT K H p xs)/\zjn x=true/\xs.all zjn=true/\Q (.bl (if neg then !inV x xs else inV x xs)) H
theorem zoq:OpR X (compareOp .In) (rIn X.K false):=by
 intro pins s σ H x y v u Q I rx ry h
 obtain ⟨p,xs,rfl,hq,fx,fs,q⟩:=h
 cases ry
 rcases hq with hq | hq
 . obtain ⟨its,r,pl,hz⟩:=I.list hq
   refine SeqAt.in_listAt (eqU x) pl.isList (λ w hw=>zfm rx fx r fs w (by simpa using hw)) ⟨.bl _,H,I,rfl,?_⟩
   rw [show its.toArray.any (eqU x)=its.any (eqU x) by simp,zhP r fs]
   exact q
 . obtain ⟨its,r,pl,hz⟩:=I.tuple hq
   refine SeqAt.in_tupleAt (eqU x) pl (λ w hw=>zfm rx fx r fs w (by simpa using hw)) ⟨.bl _,H,I,rfl,?_⟩
   rw [show its.toArray.any (eqU x)=its.any (eqU x) by simp,zhP r fs]
   exact q
theorem zj7:OpR X (compareOp .NotIn) (rIn X.K true):=by
 intro pins s σ H x y v u Q I rx ry h
 obtain ⟨p,xs,rfl,hq,fx,fs,q⟩:=h
 cases ry
 rcases hq with hq | hq
 . obtain ⟨its,r,pl,hz⟩:=I.list hq
   refine SeqAt.notIn_listAt (eqU x) pl.isList (λ w hw=>zfm rx fx r fs w (by simpa using hw)) ⟨.bl _,H,I,rfl,?_⟩
   rw [show its.toArray.any (eqU x)=its.any (eqU x) by simp,zhP r fs]
   exact q
 . obtain ⟨its,r,pl,hz⟩:=I.tuple hq
   refine SeqAt.notIn_tupleAt (eqU x) pl (λ w hw=>zfm rx fx r fs w (by simpa using hw)) ⟨.bl _,H,I,rfl,?_⟩
   rw [show its.toArray.any (eqU x)=its.any (eqU x) by simp,zhP r fs]
   exact q
theorem zbe:zgH X (.builtin "len") (λ xs H Q=>∃ p ys,xs=[.ref p]/\(SqL X.K H p ys\/SqT X.K H p ys)/\Q (.int ys.length) H):=by
 intro pins s σ H xs us Q I r h
 obtain ⟨p,ys,rfl,hq,q⟩:=h
 obtain ⟨u,rfl,rx⟩:=vals1 r
 cases rx
 have hn:=zkt
 rcases hq with hq | hq
 . obtain ⟨its,r',pl,hz⟩:=I.list hq
   have hlen:=r'.length
   exact Calls.call_len_list pl.isList (by simp only [List.size_toArray] <;> omega) ⟨.int ys.length,H,I.tok _,⟨s.toks+1,by rw [List.size_toArray,hlen]⟩,q⟩
 . obtain ⟨its,r',pl,hz⟩:=I.tuple hq
   have hlen:=r'.length
   exact len_tuple pl (by simp only [List.size_toArray] <;> omega) ⟨.int ys.length,H,I.tok _,⟨s.toks+1,by rw [List.size_toArray,hlen]⟩,q⟩
theorem zeg:zgH X (.type "list") (λ xs H Q=>∃ p ys,xs=[.ref p]/\(SqL X.K H p ys\/SqT X.K H p ys)/\∀ l,H l=none->Q (.ref l) (upd H l (.lst ys))):=by
 intro pins s σ H xs us Q I r h
 obtain ⟨p,ys,rfl,hq,q⟩:=h
 obtain ⟨u,rfl,rx⟩:=vals1 r
 cases rx
 have fin:∀ (its:List Value),Vals ys its->ys.length<=sizeLine->∀ (h':Heap) (c':Nat),(∀ b o',s.heap.get? b=some o'->h'.get? b=some o') ->
    h'.get? s.heap.objs.size=some { cls:=.type "list",dict:=none,data:=.seq its.toArray c',slots:=#[] }->EP X pins σ Q (.ref s.heap.objs.size) { s with heap:=h' }:=λ its r' hz h' c' kp e =>
   ⟨.ref s.heap.objs.size,_,I.laid (t':=s.toks) kp (Nat.le_refl _) (show zbP X.prog X.w _ h' _ (.lst ys) from ⟨hz,its,c',r',e⟩),rfl,q _ (I.hok.fresh (Nat.le_refl _))⟩
 rcases hq with hq | hq
 . obtain ⟨its,r',pl,hz⟩:=I.list hq
   have hlen:=r'.length
   obtain ⟨o,ho,hc,n,hd⟩:=pl.isList
   exact call_list_seq p (.inl rfl) ho hc hd (λ h' c' kp e=>fin its r' hz h' c' kp e) (by simp only [List.size_toArray] <;> omega)
 . obtain ⟨its,r',pl,hz⟩:=I.tuple hq
   have hlen:=r'.length
   obtain ⟨o,ho,hc,n,hd⟩:=pl
   exact call_list_seq p (.inr rfl) ho hc hd (λ h' c' kp e=>fin its r' hz h' c' kp e) (by simp only [List.size_toArray] <;> omega)
theorem zdD:zgH X (.type "tuple") (λ xs H Q=>∃ p ys,xs=[.ref p]/\((SqL X.K H p ys/\∀ l,H l=none->Q (.ref l) (upd H l (.tup ys)))\/(SqT X.K H p ys/\Q (.ref p) H))):=by
 intro pins s σ H xs us Q I r h
 obtain ⟨p,ys,rfl,h⟩:=h
 obtain ⟨u,rfl,rx⟩:=vals1 r
 cases rx
 rcases h with ⟨hq,q⟩ | ⟨hq,q⟩
 . obtain ⟨its,r',pl,hz⟩:=I.list hq
   have hlen:=r'.length
   refine call_tuple_list pl.isList (λ h' kp=>?_) (by simp only [List.size_toArray] <;> omega)
   have I1:Inv X pins σ H { s with heap:=h' }:=I.kept (t':=s.toks) kp
   have I2:Inv X pins σ (upd H h'.objs.size (.tup ys)) { s with heap:=h'.push { cls:=.type "tuple",data:=.seq its.toArray } } :=
    I1.laid (t':=s.toks) (λ b o e=>Heap.get?_push_of_some _ e) (Nat.le_refl _) (show zbP X.prog X.w _ _ _ (.tup ys) from ⟨hz,its,r',IsTup.new _ _⟩)
   exact ⟨.ref h'.objs.size,_,I2,rfl,q _ (I1.hok.fresh (Nat.le_refl _))⟩
 . obtain ⟨its,r',pl,hz⟩:=I.tuple hq
   exact call_tuple_same pl ⟨.ref p,H,I,rfl,q⟩
def tyV (K:PySem.W.Frag) (T:String) (x:V) (H:Hp):Prop:=match x with
 | .str _=>T = "str"
 | .int _=>T = "int"
 | .ref p=>(T = "list" /\ ∃ xs,SqL K H p xs)\/(T = "tuple" /\ ∃ o,K.lookup p=some o/\o.cls=.type "tuple" /\ o.dict=none) \/
  (T = "dict" /\ ((∃ kvs,H p=some (.dK kvs))\/∃ kvs,H p=some (.dT kvs)))\/(T = "set" /\ ∃ S n,H p=some (.set S n))
 | _=>False
theorem zqh {pins:List (Addr×Obj)} {σ:St} {H:Hp} {s:Shared} {T:String} {x:V} {v:Value} (I:Inv X pins σ H s) (r:RelV x v) (ty:tyV X.K T x H) :
  s.TypeIs v T/\∀ a,v=.ref a->∃ ob,s.heap.get? a=some ob/\ob.dict=none:=by
 cases x with
 | str z =>
  obtain ⟨t,rfl⟩:=r
  cases (show T = "str" from ty)
  exact ⟨typeIs_str s z t,λ _ e=>nomatch e⟩
 | int i =>
  obtain ⟨t,rfl⟩:=r
  cases (show T = "int" from ty)
  exact ⟨typeIs_int s i t,λ _ e=>nomatch e⟩
 | ref p =>
  cases r
  rcases ty with ⟨rfl,xs,hq⟩ | ⟨rfl,o,hk,hc,hd⟩ | ⟨rfl,hk⟩ | ⟨rfl,S,n,hk⟩
  . obtain ⟨its,_,pl,_⟩:=I.list hq
    refine ⟨pl.isList.typeIs,λ a e=>?_⟩
    cases e
    obtain ⟨o,n,e,c,hd,_⟩:=pl
    exact ⟨o,e,hd⟩
  . refine ⟨⟨o,I.kIn p o hk,hc⟩,λ a e=>?_⟩
    cases e
    exact ⟨o,I.kIn _ o hk,hd⟩
  . have z:∃ o,s.heap.get? p=some o/\o.ExactDict:=by
     rcases hk with ⟨kvs,hk⟩ | ⟨kvs,hk⟩
     . obtain ⟨_,_,_,_,o,_,_,e,ex,_⟩:=I.hok p _ hk
       exact ⟨o,e,ex⟩
     . obtain ⟨_,_,_,_,o,_,_,e,ex,_⟩:=I.hok p _ hk
       exact ⟨o,e,ex⟩
    obtain ⟨o,e,ex⟩:=z
    refine ⟨⟨o,e,ex.1⟩,λ a e2=>?_⟩
    cases e2
    exact ⟨o,e,ex.2.1⟩
  . obtain ⟨o,_,_,_,e,ex,_⟩:=I.hok p _ hk
    refine ⟨⟨o,e,ex.1⟩,λ a e2=>?_⟩
    cases e2
    exact ⟨o,e,ex.2.1⟩
 | _=>exact False.elim ty
def tBM0 (K:PySem.W.Frag) (T:String) (r:V->List V->Hp->VK->Prop) (to:TE):TE:=λ σ H Q=>to σ H λ x H1=>tyV K T x H1/\r x [] H1 Q
def tBM (K:PySem.W.Frag) (T:String) (r:V->List V->Hp->VK->Prop) (to:TE) (t:TA):TE:=λ σ H Q=>to σ H λ x H1=>tyV K T x H1/\t σ H1 λ xs H2=>r x xs H2 Q
variable {o e:Expr} {es:List Expr} {to:TE} {t:TA} {name:Str} {apos cpos:Pos} {T id:String} {r:V->List V->Hp->VK->Prop}
theorem zoj (pa:PlainAttrs T) (slot:Slot T name id) (hty:typeOf (.builtin id)=pure (.type "method_descriptor")) (hm:MtR X id r) (ho:PE X o to)
  (hbase:attributeBase o name X.env (eval o X.env)=eval o X.env:=by rfl) (hline:(apos.endLine == cpos.line)=true:=by rfl):PE X (.Call (.Attribute o name apos) [] [] cpos) (tBM0 X.K T r to):=by
 intro pins s σ H Q I h
 refine wpAny_Call_method0_late hbase hline (thn (ho pins s σ H _ I h) λ v s1 ⟨x,H1,I1,r1,ty,q1⟩=>?_)
 obtain ⟨h1,h2⟩:=zqh I1 r1 ty
 exact ⟨T,id,pa,slot,hty,h1,h2,Calls.callWith_builtin rfl (PySem.evalArgs_none (hm pins s1 σ H1 x [] v [] Q I1 r1 .nil q1))⟩
theorem zdz (pa:PlainAttrs T) (slot:Slot T name id) (hty:typeOf (.builtin id)=pure (.type "method_descriptor")) (hm:MtR X id r) (ho:PE X o to) (ha:PA X (e::es) t)
  (hbase:attributeBase o name X.env (eval o X.env)=eval o X.env:=by rfl)
  (hfew:((backTo cpos (starEach (e::es) X.env)).all (λ x=>!x.1) && (backToKw cpos (keywordEach [] X.env)).all (λ x=>x.1.isSome)
   && decide ((e::es).length+([]:List Keyword).length+(if ([]:List Keyword).isEmpty then 0 else 1) < 30))=true:=by rfl)
  (hline:(apos.endLine == cpos.line)=true:=by rfl) (hs:starEach (e::es) X.env=(false,eval e X.env)::starEach es X.env:=by rfl) (hplain:(backTo cpos (starEach es X.env)).any (·.1)=false:=by rfl) :
  PE X (.Call (.Attribute o name apos) (e::es) [] cpos) (tBM X.K T r to t):=by
 intro pins s σ H Q I h
 refine wpAny_Call_method_late hbase hfew hline rfl (thn (ho pins s σ H _ I h) λ v s1 ⟨x,H1,I1,r1,ty,q1⟩=>?_)
 obtain ⟨h1,h2⟩:=zqh I1 r1 ty
 refine ⟨T,id,pa,slot,hty,h1,h2,?_⟩
 have hA:=ha cpos pins s1 σ H1 _ I1 q1
 rw [hs] at hA ⊢
 refine Calls.callWith_builtin (by show (false || (backTo cpos (starEach es X.env)).any (·.1))=false; rw [hplain] <;> rfl) (Calls.evalArgs_plain ?_)
 exact thn hA λ us s2 ⟨vs,H2,I2,r2,q2⟩=>hm pins s2 σ H2 x vs v us Q I2 r1 r2 q2
end
end L2
namespace L2
open PySem PySem.Spec PyProof.Rows
def MtM (X:Cx) (id:String) (r:V->List V->Hp->VK->Prop):Prop :=
 ∀ (pins:List (Addr×Obj)) (s:Shared) (σ:St) (H:Hp) (x:V) (xs:List V) (v:Value) (us:List Value) (Q:VK),Inv X pins σ H s->RelV x v->Vals xs us->r x xs H Q ->
  wpAny (model X.prog X.w) X.A (call (.builtin id) (v::us)) (EP X pins σ Q) X.xe s
theorem Vals.one:∀ {x:V} {us:List Value},Vals [x] us->∃ u,us=[u]/\RelV x u
 | _,_,.cons r .nil=>⟨_,rfl,r⟩
theorem Vals.two:∀ {x y:V} {us:List Value},Vals [x,y] us->∃ u v,us=[u,v]/\RelV x u/\RelV y v
 | _,_,_,.cons r (.cons q .nil)=>⟨_,_,rfl,r,q⟩
theorem Vals.zero:∀ {us:List Value},Vals [] us->us=[]
 | _,.nil=>rfl
theorem Vals.dropLast {xs:List V} {us:List Value} (h:Vals xs us):Vals xs.dropLast us.dropLast:=by
 induction h with
 | nil=>exact .nil
 | cons r t ih =>
  cases t with
  | nil=>exact .nil
  | cons q t'=>exact .cons r ih
theorem Vals.eraseIdx:∀ {xs:List V} {us:List Value} (i:Nat),Vals xs us->Vals (xs.eraseIdx i) (us.eraseIdx i)
 | _,_,_,.nil=>.nil
 | _,_,0,.cons _ t=>t
 | _,_,i+1,.cons r t=>.cons r (Vals.eraseIdx i t)
theorem znw {α:Type} (l:List α):l.eraseIdx (l.length - 1)=l.dropLast:=by
 induction l with
 | nil=>rfl
 | cons a r ih =>
  cases r with
  | nil=>rfl
  | cons b r =>
   have e:(a::b::r).length - 1=((b::r).length - 1)+1:=by
    have h1:(a::b::r).length=r.length+2:=rfl
    have h2:(b::r).length=r.length+1:=rfl
    omega
   rw [e,List.eraseIdx_cons_succ,ih]
   all_goals rfl
theorem zkv {α:Type}:∀ (l:List α) (i:Nat),(l.eraseIdx i).length<=l.length
 | [],_=>Nat.le_refl _
 | _::_,0=>Nat.le_succ _
 | _::r,i+1=>Nat.succ_le_succ (zkv r i)
section
variable {X:Cx} {pins:List (Addr×Obj)} {σ:St} {H:Hp} {s:Shared} {l b:Addr} {xs ys zs:List V}
theorem Inv.lset {its its':List Value} {n:Nat} {f:Array Value->Array Value} {t':Nat} (I:Inv X pins σ H s) (hH:H l=some (.lst xs))
  (e:s.heap.get? l=some { cls:=.type "list",data:=.seq its.toArray n }) (hf:f its.toArray=its'.toArray) (hv:Vals ys its') (hz:ys.length<=sizeLine) :
  Inv X pins σ (upd H l (.lst ys)) { s with heap:=s.heap.update l (Obj.mapSeq f),toks:=t' }:=by
 have q:=PySem.IsL.update e f
 rw [hf] at q
 refine I.write (x:=l) (e:=l) (by rw [hH]; exact trivial) (.inl rfl) (λ b' u hb hu=>(Heap.get?_update_other s.heap (Obj.mapSeq f) (Ne.symm hb)).trans hu) ⟨_,q⟩ ?_
 exact ⟨hz,its',_,hv,q⟩
theorem Inv.lnew {its:List Value} {t':Nat} (I:Inv X pins σ H s) (hv:Vals ys its) (hz:ys.length<=sizeLine) :
  Inv X pins σ (upd H s.heap.objs.size (.lst ys)) { s with heap:=s.heap.push { cls:=.type "list",data:=.seq its.toArray },toks:=t' } :=
 I.laid (λ _ _ q=>Heap.get?_push_of_some _ q) (Nat.le_refl _) ⟨hz,its,0,hv,Heap.get?_push_size _ rfl⟩
theorem Inv.fresh (I:Inv X pins σ H s):H s.heap.objs.size=none:=I.hok.fresh (Nat.le_refl _)
theorem Inv.lstM (I:Inv X pins σ H s) (hH:H l=some (.lst xs)):xs.length<=sizeLine/\∃ (its:List Value) (n:Nat),Vals xs its/\xs.length=its.length/\s.heap.get? l=some { cls:=.type "list",data:=.seq its.toArray n }:=by
 obtain ⟨z,its,n,r,e⟩:=I.hok l _ hH
 exact ⟨z,its,n,r,r.length,e⟩
end
section
variable {X:Cx}
def zq3:V->List V->Hp->VK->Prop:=λ x vs H Q=>∃ l xs y,x=.ref l/\vs=[y]/\H l=some (.lst xs)/\xs.length < sizeLine/\Q .non (upd H l (.lst (xs++[y])))
theorem zbk:MtM X "list.append" zq3:=by
 intro pins s σ H x vs v us Q I rx rv h
 obtain ⟨l,xs,y,rfl,rfl,hH,hz,q⟩:=h
 cases rx
 obtain ⟨u,rfl,ru⟩:=rv.one
 obtain ⟨z,its,n,r,hl,e⟩:=I.lstM hH
 refine call_meets F.slot_list_append ⟨_,e,rfl⟩ F.entry_list_append (F.args_list_append_2 _ _) (PySem.list_append l its.toArray n u (by rw [List.size_toArray]; omega)) ⟨e,?_⟩
 refine ⟨.non,_,I.lset (its':=its++[u]) hH e (by simp) (r.append (.cons ru .nil)) ?_,rfl,q⟩
 rw [List.length_append,List.length_singleton]
 omega
def rPop:V->List V->Hp->VK->Prop:=λ x vs H Q=>∃ l xs y,x=.ref l/\vs=[]/\H l=some (.lst xs)/\xs[xs.length - 1]?=some y/\Q y (upd H l (.lst xs.dropLast))
theorem zox:MtM X "list.pop" rPop:=by
 intro pins s σ H x vs v us Q I rx rv h
 obtain ⟨l,xs,y,rfl,rfl,hH,hy,q⟩:=h
 cases rx
 have hus:=rv.zero
 subst hus
 obtain ⟨z,its,n,r,hl,e⟩:=I.lstM hH
 obtain ⟨u,hu,ru⟩:=r.get hy
 have hy':its.toArray[its.toArray.size - 1]?=some u:=by
   show its.toArray[its.length - 1]?=some u
   rw [<-Array.getElem?_toList,<-hl]
   exact hu
 refine call_meets F.slot_list_pop ⟨_,e,rfl⟩ F.entry_list_pop (F.args_list_pop_1 _) (MeetsSeq.list_pop_last l its.toArray n u hy' (by rw [List.size_toArray]; omega)) ⟨e,?_⟩
 refine ⟨y,_,I.lset (its':=its.dropLast) hH e ?_ r.dropLast ?_,ru,q⟩
 . show its.toArray.eraseIdxIfInBounds (its.toArray.size - 1)=its.dropLast.toArray
   rw [List.size_toArray,List.eraseIdxIfInBounds_toArray,znw]
 . rw [List.length_dropLast]
   omega
def zr7:V->List V->Hp->VK->Prop:=λ x vs H Q=>∃ l xs i k y,x=.ref l/\vs=[.int i]/\H l=some (.lst xs)/\-(2 ^ 63)<=i/\i < 2 ^ 63/\seqIndex? i xs.length=some k/\xs[k]?=some y/\Q y (upd H l (.lst (xs.eraseIdx k)))
theorem zpQ:MtM X "list.pop" zr7:=by
 intro pins s σ H x vs v us Q I rx rv h
 obtain ⟨l,xs,i,k,y,rfl,rfl,hH,h1,h2,hk,hy,q⟩:=h
 cases rx
 obtain ⟨u,rfl,ru⟩:=rv.one
 obtain ⟨t,rfl⟩:=ru
 obtain ⟨z,its,n,r,hl,e⟩:=I.lstM hH
 obtain ⟨w,hw,rw'⟩:=r.get hy
 refine call_meets F.slot_list_pop ⟨_,e,rfl⟩ F.entry_list_pop (F.args_list_pop_2 _ _)
   (MeetsSeq.list_pop_at l its.toArray n i t k w (fitsIndex_both h1 h2) (by rw [List.size_toArray,<-hl]; exact hk) (by rw [<-Array.getElem?_toList]; exact hw) (by rw [List.size_toArray]; omega)) ⟨e,?_⟩
 refine ⟨y,_,I.lset (its':=its.eraseIdx k) hH e ?_ (r.eraseIdx k) ?_,rw',q⟩
 . show its.toArray.eraseIdxIfInBounds k=(its.eraseIdx k).toArray
   rw [List.eraseIdxIfInBounds_toArray]
 . have:=zkv xs k
   omega
def rCat:R2:=λ x y H Q=>∃ l b xs zs,x=.ref l/\y=.ref b/\H l=some (.lst xs)/\H b=some (.lst zs)/\xs.length+zs.length<=sizeLine/\∀ p,H p=none->Q (.ref p) (upd H p (.lst (xs++zs)))
theorem zqp:OpR X (binaryOp .Add) rCat:=by
 intro pins s σ H x y v u Q I rx ry h
 obtain ⟨l,b,xs,zs,rfl,rfl,hH,hB,hz,q⟩:=h
 cases rx
 cases ry
 obtain ⟨z,its,n,r,hl,e⟩:=I.lstM hH
 obtain ⟨z2,its2,n2,r2,hl2,e2⟩:=I.lstM hB
 refine PySem.P.add_list e e2 ?_ (by rw [List.size_toArray,List.size_toArray]; omega)
 have ea:its.toArray++its2.toArray=(its++its2).toArray:=by simp
 rw [ea]
 exact ⟨.ref _,_,I.lnew (t':=s.toks) (r.append r2) (by rw [List.length_append]; omega),rfl,q _ I.fresh⟩
end
section
variable {prog:Program} {w:World} {A:Around} {E:Value->Shared->Prop} {s:Shared}
set_option maxRecDepth 100000 in
end
section
variable {X:Cx}
end
end L2
namespace L2
open PySem PySem.Spec PyProof.Rows
section
variable {κ:Type} [DecidableEq κ]
def valV (kvs:List (κ×V)) (k:κ):Option V:=(kvs.find? λ kv=>decide (kv.1=k)).map (·.2)
def putK (kvs:List (κ×V)) (k:κ) (v:V):List (κ×V) :=
 if (kvs.any λ kv=>decide (kv.1=k))=true then kvs.map (λ kv=>if kv.1=k then (kv.1,v) else kv) else kvs++[(k,v)]
def zh8 (kvs:List (κ×V)) (k:κ):List (κ×V):=kvs.filter λ kv=>decide (kv.1≠k)
theorem zel {p:κ×V} {r:List (κ×V)} {k:κ} (e:p.1=k):valV (p::r) k=some p.2:=by simp [valV,List.find?_cons,e]
theorem zem {p:κ×V} {r:List (κ×V)} {k:κ} (e:¬ p.1=k):valV (p::r) k=valV r k:=by simp [valV,List.find?_cons,e]
theorem ziK (k:κ):∀ kvs:List (κ×V),(kvs.any λ kv=>decide (kv.1=k))=(valV kvs k).isSome
 | []=>rfl
 | p::r=>by
  rw [List.any_cons]
  by_cases e:p.1=k
  . simp only [zel e,decide_eq_true e,Bool.true_or,Option.isSome_some]
  . rw [zem e,decide_eq_false e,Bool.false_or]; exact ziK k r
theorem ze1 (kvs:List (κ×V)) (k:κ) (v:V):(putK kvs k v).length<=kvs.length+1:=by
 unfold putK
 split
 . rw [List.length_map]; omega
 . rw [List.length_append,List.length_cons,List.length_nil]; omega
theorem zmq {kvs:List (κ×V)} {k:κ} (v:V) (h:valV kvs k=none):putK kvs k v=kvs++[(k,v)]:=by
 unfold putK
 rw [ziK,h]
 exact if_neg (by decide)
theorem RelO.zdn {o:Option V} {u:Option Value} (r:RelO o u):o.isSome=u.isSome:=by
 cases o with
 | none=>cases u with
  | none=>rfl
  | some _=>exact (show False from r).elim
 | some _=>cases u with
  | none=>exact (show False from r).elim
  | some _=>rfl
theorem RelO.getD {o:Option V} {u:Option Value} {d:V} {d':Value} (r:RelO o u) (rd:RelV d d'):RelV (o.getD d) (u.getD d'):=by
 cases o with
 | none=>cases u with
  | none=>exact rd
  | some _=>exact (show False from r).elim
 | some _=>cases u with
  | none=>exact (show False from r).elim
  | some _=>exact r
theorem KV.val {kvs:List (κ×V)} {vs:List (κ×Value)} (r:KV kvs vs) (k:κ):RelO (valV kvs k) (valueAt vs k):=by
 unfold KV at r
 induction r with
 | nil=>exact True.intro
 | @cons p q ps qs h t ih =>
  obtain ⟨h1,h2⟩:=h
  by_cases e:p.1=k
  . have e':q.1=k:=h1.symm.trans e
    have b:valueAt (q::qs) k=some q.2:=by simp [valueAt,List.find?_cons,e']
    rw [zel e,b]; exact h2
  . have e':¬ q.1=k:=λ z=>e (h1.trans z)
    have b:valueAt (q::qs) k=valueAt qs k:=by simp [valueAt,List.find?_cons,e']
    rw [zem e,b]; exact ih
theorem KV.any {kvs:List (κ×V)} {vs:List (κ×Value)} (r:KV kvs vs) (k:κ):(kvs.any λ kv=>decide (kv.1=k))=vs.any λ kv=>decide (kv.1=k):=by
 unfold KV at r
 induction r with
 | nil=>rfl
 | cons h t ih=>rw [List.any_cons,List.any_cons,ih,h.1]
theorem KV.repl {kvs:List (κ×V)} {vs:List (κ×Value)} (r:KV kvs vs) (k:κ) {y:V} {u:Value} (ry:RelV y u) :
  KV (kvs.map λ kv=>if kv.1=k then (kv.1,y) else kv) (vs.map λ kv=>if kv.1=k then (kv.1,u) else kv):=by
 unfold KV at r ⊢
 induction r with
 | nil=>exact .nil
 | @cons p q ps qs h t ih =>
  rw [List.map_cons,List.map_cons]
  refine .cons ?_ ih
  obtain ⟨h1,h2⟩:=h
  by_cases e:p.1=k
  . rw [if_pos e,if_pos (h1.symm.trans e)]; exact ⟨h1,ry⟩
  . rw [if_neg e,if_neg (λ z=>e (h1.trans z))]; exact ⟨h1,h2⟩
theorem KV.put {kvs:List (κ×V)} {vs:List (κ×Value)} (r:KV kvs vs) (k:κ) {y:V} {u:Value} (ry:RelV y u):KV (putK kvs k y) (stored vs k u):=by
 unfold putK stored
 rw [r.any k]
 by_cases e:(vs.any λ kv=>decide (kv.1=k))=true
 . rw [if_pos e,if_pos e]; exact r.repl k ry
 . rw [if_neg e,if_neg e]; exact Paired.snoc r ⟨rfl,ry⟩
theorem KV.drop {kvs:List (κ×V)} {vs:List (κ×Value)} (r:KV kvs vs) (k:κ):KV (zh8 kvs k) (without vs k):=by
 unfold KV at r ⊢
 unfold zh8 without
 induction r with
 | nil=>exact .nil
 | @cons p q ps qs h t ih =>
  obtain ⟨h1,h2⟩:=h
  rw [List.filter_cons,List.filter_cons]
  by_cases e:p.1=k
  . have a:¬ decide (p.1≠k)=true:=by simp [e]
    have b:¬ decide (q.1≠k)=true:=by simp [h1.symm.trans e]
    rw [if_neg a,if_neg b]; exact ih
  . have e':¬ q.1=k:=λ z=>e (h1.trans z)
    have a:decide (p.1≠k)=true:=by simp [e]
    have b:decide (q.1≠k)=true:=by simp [e']
    rw [if_pos a,if_pos b]; exact .cons ⟨h1,h2⟩ ih
theorem KV.keys {kvs:List (κ×V)} {vs:List (κ×Value)} (r:KV kvs vs):kvs.map (·.1)=vs.map (·.1):=by
 unfold KV at r
 induction r with
 | nil=>rfl
 | cons h t ih=>rw [List.map_cons,List.map_cons,ih,h.1]
theorem KV.length {kvs:List (κ×V)} {vs:List (κ×Value)} (r:KV kvs vs):kvs.length=vs.length:=Paired.length r
theorem zmK (kvs:List (κ×V)) (k:κ):(zh8 kvs k).length<=kvs.length:=List.length_filter_le _ _
end
theorem zhu {P:Program} {w:World} {k:Key} {u:Value} (r:RelV (kV k) u):(zaE P w).is k u=true:=by
 cases k with
 | inl i=>obtain ⟨t,e⟩:=(show ∃ t,u=Value.int i t from r); subst e; exact zhj P w i t
 | inr x=>obtain ⟨t,e⟩:=(show ∃ t,u=Value.str x t from r); subst e; exact zhi P w x t
theorem zkB {P:Program} {w:World}:∀ {ks:List Key} {us:List Value},Vals (ks.map kV) us->ItemsAre (zaE P w) ks us
 | [],_,r=>by rw [List.map_nil] at r; cases r; exact .nil
 | k::ks,_,r=>by
  rw [List.map_cons] at r
  cases r with
  | cons h t=>exact .cons (zhu h) (zkB t)
abbrev KT (H:Hp):List (List Key×V)->List (List Key×Addr×Value)->Prop:=Paired λ p q=>p.1=q.1/\H q.2.1=some (.tup (p.1.map kV))/\RelV p.2 q.2.2
theorem KT.val {H:Hp} {kvs:List (List Key×V)} {xs:List (List Key×Addr×Value)} (r:KT H kvs xs) (k:List Key):RelO (valV kvs k) ((atKey xs k).map (·.2)):=by
 induction r with
 | nil=>exact True.intro
 | @cons p q ps qs h t ih =>
  obtain ⟨h1,_,h2⟩:=h
  by_cases e:p.1=k
  . have e':q.1=k:=h1.symm.trans e
    have b:atKey (q::qs) k=some q.2:=by simp [atKey,List.find?_cons,e']
    rw [zel e,b]; exact h2
  . have e':¬ q.1=k:=λ z=>e (h1.trans z)
    have b:atKey (q::qs) k=atKey qs k:=by simp [atKey,List.find?_cons,e']
    rw [zem e,b]; exact ih
theorem KT.repl {H:Hp} {kvs:List (List Key×V)} {xs:List (List Key×Addr×Value)} (r:KT H kvs xs) (k:List Key) {y:V} {u:Value} (ry:RelV y u) :
  KT H (kvs.map λ kv=>if kv.1=k then (kv.1,y) else kv) (xs.map (putAt k u)):=by
 induction r with
 | nil=>exact .nil
 | @cons p q ps qs h t ih =>
  rw [List.map_cons,List.map_cons]
  refine .cons ?_ ih
  obtain ⟨h1,h2,h3⟩:=h
  unfold putAt
  by_cases e:p.1=k
  . rw [if_pos e,if_pos (h1.symm.trans e)]; exact ⟨h1,h2,ry⟩
  . rw [if_neg e,if_neg (λ z=>e (h1.trans z))]; exact ⟨h1,h2,h3⟩
theorem KT.put {H:Hp} {kvs:List (List Key×V)} {xs:List (List Key×Addr×Value)} (r:KT H kvs xs) (k:List Key) {b:Addr} {y:V} {u:Value} (hb:H b=some (.tup (k.map kV))) (ry:RelV y u) :
   KT H (putK kvs k y) (storedH xs k b u):=by
 have e:(kvs.any λ kv=>decide (kv.1=k))=(atKey xs k).isSome:=by
   rw [ziK,(r.val k).zdn,Option.isSome_map]
 unfold putK storedH
 rw [e]
 by_cases q:(atKey xs k).isSome=true
 . rw [if_pos q,if_pos q]; exact r.repl k ry
 . rw [if_neg q,if_neg q]; exact Paired.snoc r ⟨rfl,hb,ry⟩
theorem KT.keeps {H H':Hp} {kvs:List (List Key×V)} {xs:List (List Key×Addr×Value)} (r:KT H kvs xs) (ht:∀ b ys,H b=some (.tup ys)->H' b=some (.tup ys)):KT H' kvs xs :=
 Paired.mapP r λ _ _ z=>⟨z.1,ht _ _ z.2.1,z.2.2⟩
section
variable {P:Program} {w:World} {H:Hp} {h:Heap} {a:Addr}
theorem zr6 {u:HO} (ok:HOk P w H h) (e:Rd H a u):zbP P w H h a u:=e.ok ok
theorem zkI {kvs:List (Key×V)} (ok:HOk P w H h) (e:Rd H a (.dK kvs)):kvs.length<=sizeLine/\(a == sysModules)=false/\∃ vs,KV kvs vs/\h.DictOf (zaE P w) a vs :=
 show zbP P w H h a (.dK kvs) from zr6 ok e
theorem zkJ {kvs:List (Key×V)} (ok:HOk P w H h) (e:H a=some (.dK kvs)):kvs.length<=sizeLine/\(a == sysModules)=false/\∃ vs,KV kvs vs/\h.DictOf (zaE P w) a vs:=zkI ok (.inl e)
theorem zhs {ks:List Key} (ok:HOk P w H h) (e:H a=some (.tup (ks.map kV))):(tupleKind (zaE P w)).is h ks a:=by
 obtain ⟨_,its,r,o,h1,h2,n,h3⟩:=(show zbP P w H h a (.tup (ks.map kV)) from ok a _ e)
 exact ⟨o,its.toArray,n,h1,h2,h3,by simpa using zkB r⟩
theorem zkH {kvs:List (List Key×V)} (ok:HOk P w H h) (e:Rd H a (.dT kvs)):kvs.length<=sizeLine/\(a == sysModules)=false /\
  ∃ xs,KT H kvs xs/\h.DictOfH (tupleKind (zaE P w)) a xs:=by
 obtain ⟨z,y,xs,r,o,es,ep,h1,h2,h3,h4,h5⟩:=(show zbP P w H h a (.dT kvs) from zr6 ok e)
 refine ⟨z,y,xs,r,o,es,ep,h1,h2,h3,h4,λ x hx=>?_,h5⟩
 have all:∀ {l:List (List Key×V)} {m:List (List Key×Addr×Value)},KT H l m->∀ x∈m,(tupleKind (zaE P w)).is h x.1 x.2.1:=by
  intro l m q
  induction q with
  | nil=>intro x hx; exact nomatch hx
  | @cons p q ps qs hq t ih =>
   intro x hx
   rcases List.mem_cons.mp hx with e | hx
   . subst e
     exact zhs ok (by rw [<-hq.1]; exact hq.2.1)
   . exact ih x hx
 exact all r x hx
theorem ztc {kvs:List (List Key×V)} (ok:HOk P w H h) (e:H a=some (.dT kvs)):kvs.length<=sizeLine/\(a == sysModules)=false /\
 ∃ xs,KT H kvs xs/\h.DictOfH (tupleKind (zaE P w)) a xs:=zkH ok (.inl e)
end
def DGet (H:Hp) (a:Addr) (y:V) (r:Option V):Prop :=
 (∃ kvs k,Rd H a (.dK kvs)/\y=kV k/\r=valV kvs k)\/∃ kvs k b,Rd H a (.dT kvs)/\y=.ref b/\H b=some (.tup (k.map kV))/\r=valV kvs k
def DPut (H:Hp) (a:Addr) (y v:V) (H':Hp):Prop :=
 (∃ kvs k,H a=some (.dK kvs)/\y=kV k/\kvs.length < sizeLine/\H'=upd H a (.dK (putK kvs k v))) \/
 ∃ kvs k b,H a=some (.dT kvs)/\y=.ref b/\H b=some (.tup (k.map kV))/\kvs.length < sizeLine/\H'=upd H a (.dT (putK kvs k v))
theorem DGet.k {H:Hp} {a:Addr} {kvs:List (Key×V)} {k:Key} (e:H a=some (.dK kvs)):DGet H a (kV k) (valV kvs k):=.inl ⟨kvs,k,.inl e,rfl,rfl⟩
theorem DPut.k {H:Hp} {a:Addr} {kvs:List (Key×V)} {k:Key} {v:V} (e:H a=some (.dK kvs)) (hl:kvs.length < sizeLine):DPut H a (kV k) v (upd H a (.dK (putK kvs k v))):=.inl ⟨kvs,k,e,rfl,hl,rfl⟩
section
variable {X:Cx} {pins:List (Addr×Obj)} {σ:St} {H:Hp} {s:Shared} {a:Addr} {y v:V} {u r:Value} {o:Option V} {A:Around} {E:Value->Shared->Prop}
theorem Inv.big (I:Inv X pins σ H s):sysModules < s.heap.objs.size:=by
 have h:mainGlobals < s.heap.objs.size:=(I.mod.glob.keeps I.bk).lt
 exact Nat.lt_trans (by decide) h
theorem zpg {Q:Value->Shared->Prop} (hu:A.units+1 < cLine) (I:Inv X pins σ H s) (g:DGet H a y (some v)) (ry:RelV y u) (h:∀ w' s',Inv X pins σ H s'->RelV v w'->Q w' s') :
   wpAny (model X.prog X.w) A (getItem (.ref a) u) Q E s:=by
 rcases g with ⟨kvs,k,e,ey,l⟩ | ⟨kvs,k,b,e,ey,eb,l⟩
 . subst ey
   obtain ⟨z,hd,vs,rel,dd⟩:=zkI I.hok e
   obtain ⟨w',hw,rw'⟩:=RelO.some_of (v:=v) (o:=valueAt vs k) (by rw [l]; exact rel.val k)
   exact wpAny_getItem_of (zhu ry) dd.mapOf hw (h w' _ (I.tok _) rw')
 . subst ey
   cases (show u=Value.ref b from ry)
   obtain ⟨z,hd,xs,rel,dd⟩:=zkH I.hok e
   obtain ⟨w',hw,rw'⟩:=RelO.some_of (v:=v) (o:=(atKey xs k).map (·.2)) (by rw [l]; exact rel.val k)
   obtain ⟨p,hp,hp2⟩:=Option.map_eq_some_iff.mp hw
   refine wpAny_getItem_heap (tupleKind_room_in1 hu) (zhs I.hok eb) dd hp ?_
   rw [hp2]
   exact h w' _ (I.tok _) rw'
theorem d_in {Q:Value->Shared->Prop} (hu:A.units+1 < cLine) (I:Inv X pins σ H s) (g:DGet H a y o) (ry:RelV y u) (h:∀ s',Inv X pins σ H s'->Q (.bool o.isSome) s') :
   wpAny (model X.prog X.w) A (compareOp .In u (.ref a)) Q E s:=by
 rcases g with ⟨kvs,k,e,ey,l⟩ | ⟨kvs,k,b,e,ey,eb,l⟩
 . subst ey
   obtain ⟨z,hd,vs,rel,dd⟩:=zkI I.hok e
   refine wpAny_in_of (zhu ry) hd dd.mapOf ?_
   rw [<-(rel.val k).zdn,<-l]
   exact h _ (I.tok _)
 . subst ey
   cases (show u=Value.ref b from ry)
   obtain ⟨z,hd,xs,rel,dd⟩:=zkH I.hok e
   refine wpAny_in_heap (tupleKind_room_in1 hu) (zhs I.hok eb) hd dd ?_
   have q:=(rel.val k).zdn
   rw [Option.isSome_map] at q
   rw [<-q,<-l]
   exact h _ (I.tok _)
theorem zrv {Q:Value->Shared->Prop} (hu:A.units+1 < cLine) (I:Inv X pins σ H s) (g:DGet H a y o) (ry:RelV y u) (h:∀ s',Inv X pins σ H s'->Q (.bool (!o.isSome)) s') :
   wpAny (model X.prog X.w) A (compareOp .NotIn u (.ref a)) Q E s:=by
 rcases g with ⟨kvs,k,e,ey,l⟩ | ⟨kvs,k,b,e,ey,eb,l⟩
 . subst ey
   obtain ⟨z,hd,vs,rel,dd⟩:=zkI I.hok e
   refine wpAny_notIn_of (zhu ry) hd dd.mapOf ?_
   rw [<-(rel.val k).zdn,<-l]
   exact h _ (I.tok _)
 . subst ey
   cases (show u=Value.ref b from ry)
   obtain ⟨z,hd,xs,rel,dd⟩:=zkH I.hok e
   refine wpAny_notIn_heap (tupleKind_room_in1 hu) (zhs I.hok eb) hd dd ?_
   have q:=(rel.val k).zdn
   rw [Option.isSome_map] at q
   rw [<-q,<-l]
   exact h _ (I.tok _)
theorem zhE {h':Heap} {t':Nat} {ob:HO} (I:Inv X pins σ H s) (mu:Mut (H a)) (hs:Heap.SameBut a s.heap h') (he:∃ q,h'.get? a=some q) (new:zbP X.prog X.w (upd H a ob) h' a ob) :
  Inv X pins σ (upd H a ob) { s with heap:=h',toks:=t' } :=
 I.write (x:=a) (e:=a) mu (.inl rfl) (λ b q hb z=>(hs.2 b hb).trans z) he new
theorem zmL {P:Program} {w:World} {H':Hp} {h':Heap} {kvs:List (Key×V)} {vs:List (Key×Value)} (z:kvs.length<=sizeLine) (hd:(a == sysModules)=false) (rel:KV kvs vs) (dd:h'.DictOf (zaE P w) a vs) :
 zbP P w H' h' a (.dK kvs):=⟨z,hd,vs,rel,dd⟩
theorem zpf {H':Hp} {Q:Unit->Shared->Prop} (hu:A.units+1 < cLine) (I:Inv X pins σ H s) (g:DPut H a y v H') (ry:RelV y u) (rv:RelV v r) (h:∀ s',Inv X pins σ H' s'->Q () s') :
   wpAny (model X.prog X.w) A (setItem (.ref a) u r) Q E s:=by
 rcases g with ⟨kvs,k,e,ey,l,eH⟩ | ⟨kvs,k,b,e,ey,eb,l,eH⟩
 . subst ey eH
   obtain ⟨z,hd,vs,rel,dd⟩:=zkJ I.hok e
   have hz:vs.length<=sizeLine:=by rw [<-rel.length]; exact z
   have hl:(putK kvs k v).length<=sizeLine:=by have:=ze1 kvs k v; omega
   refine wpAny_setItem_pairs (hsz:=hz) (zhu ry) dd λ h' dd' hs=>h _ ?_
   have he:∃ q,h'.get? a=some q:=let ⟨q,_,_,hq,_⟩:=dd'; ⟨q,hq⟩
   exact zhE I (by rw [e]; exact True.intro) hs he (zmL hl hd (rel.put k rv) dd')
 . subst ey eH
   cases (show u=Value.ref b from ry)
   obtain ⟨z,hd,xs,rel,dd⟩:=ztc I.hok e
   have hz:xs.length<=sizeLine:=by rw [<-Paired.length rel]; exact z
   have hl:(putK kvs k v).length<=sizeLine:=by have:=ze1 kvs k v; omega
   refine wpAny_setItem_heap (hsz:=hz) (tupleKind_room_in1 hu) (zhs I.hok eb) dd λ h' dd' hs=>h _ ?_
   obtain ⟨q,es,ep,hq,h2,h3,h4,_,h5⟩:=dd'
   refine zhE I (by rw [e]; exact True.intro) hs ⟨q,hq⟩ ⟨hl,hd,_,(rel.put k eb rv).keeps λ c ys ec=>?_,q,es,ep,hq,h2,h3,h4,h5⟩
   rw [zae (zbA ec e (λ z=>nomatch z))]
   exact ec
end
section
variable {X:Cx} {pins:List (Addr×Obj)} {σ:St} {H:Hp} {s:Shared} {a:Addr} {kvs:List (Key×V)} {k:Key} {u:Value} {A:Around} {E:Value->Shared->Prop}
theorem d_delItem {Q:Unit->Shared->Prop} (I:Inv X pins σ H s) (e:H a=some (.dK kvs)) (ry:RelV (kV k) u) (l:(valV kvs k).isSome=true) (h:∀ s',Inv X pins σ (upd H a (.dK (zh8 kvs k))) s'->Q () s') :
  wpAny (model X.prog X.w) A (delItem (.ref a) u) Q E s:=by
 obtain ⟨z,hd,vs,rel,dd⟩:=zkJ I.hok e
 refine wpAny_delItem_slot dd.typeIs (by decide) PySem.F.slot_dict_delitem
  (call_meetsIn PySem.F.slot_dict_delitem dd.typeIs PySem.F.entry_dict_delitem (PySem.F.args_dict_delitem_2 _ _) (meets_dict_delitem_pairs (zaE X.prog X.w) a (zhu ry)) ⟨vs,dd,by rw [<-rel.length]; exact z,by rw [<-(rel.val k).zdn]; exact l,λ h' dd' hs=>h _ ?_⟩)
 have he:∃ q,h'.get? a=some q:=let ⟨q,_,_,hq,_⟩:=dd'; ⟨q,hq⟩
 exact zhE I (by rw [e]; exact True.intro) hs he (zmL (Nat.le_trans (zmK kvs k) z) hd (rel.drop k) dd')
theorem ztd {v:V} {more:List Value} {Q:Value->Shared->Prop} (I:Inv X pins σ H s) (e:H a=some (.dK kvs)) (ry:RelV (kV k) u) (l:valV kvs k=some v) (hm:more=[]\/∃ x,more=[x])
  (h:∀ w' s',Inv X pins σ (upd H a (.dK (zh8 kvs k))) s'->RelV v w'->Q w' s'):wpAny (model X.prog X.w) A (call (.builtin "dict.pop") (.ref a::u::more)) Q E s:=by
 obtain ⟨z,hd,vs,rel,dd⟩:=zkJ I.hok e
 obtain ⟨w',hw,rw'⟩:=RelO.some_of (v:=v) (o:=valueAt vs k) (by rw [<-l]; exact rel.val k)
 have hp:(keyPart u).isSome=true:=by
  cases k with
  | inl i=>obtain ⟨t,q⟩:=(show ∃ t,u=Value.int i t from ry); subst q; rfl
  | inr x=>obtain ⟨t,q⟩:=(show ∃ t,u=Value.str x t from ry); subst q; rfl
 have ha:argsOk "dict.pop" ⟨.ref a::u::more,[]⟩:=by
  rcases hm with q | ⟨x,q⟩
  . subst q; exact PySem.F.args_dict_pop_2 _ _
  . subst q; exact PySem.F.args_dict_pop_3 _ _ _
 refine call_meetsIn PySem.F.slot_dict_pop dd.typeIs PySem.F.entry_dict_pop ha (meets_dict_pop_there (zaE X.prog X.w) a (zhu ry) more hm hp)
  ⟨vs,w',dd,by rw [<-rel.length]; exact z,hw,λ h' dd' hs=>h w' _ ?_ rw'⟩
 have he:∃ q,h'.get? a=some q:=let ⟨q,_,_,hq,_⟩:=dd'; ⟨q,hq⟩
 exact zhE I (by rw [e]; exact True.intro) hs he (zmL (Nat.le_trans (zmK kvs k) z) hd (rel.drop k) dd')
theorem zsA {r:Value} {Q:Value->Shared->Prop} (I:Inv X pins σ H s) (e:H a=some (.dK kvs)) (ry:RelV (kV k) u) (l:valV kvs k=none) (h:∀ s',Inv X pins σ H s'->Q r s') :
  wpAny (model X.prog X.w) A (call (.builtin "dict.pop") [.ref a,u,r]) Q E s:=by
 obtain ⟨z,hd,vs,rel,dd⟩:=zkJ I.hok e
 have hn:valueAt vs k=none:=RelO.none_of (by rw [<-l]; exact rel.val k)
 have hp:(keyPart u).isSome=true:=by
  cases k with
  | inl i=>obtain ⟨t,q⟩:=(show ∃ t,u=Value.int i t from ry); subst q; rfl
  | inr x=>obtain ⟨t,q⟩:=(show ∃ t,u=Value.str x t from ry); subst q; rfl
 exact call_meetsIn PySem.F.slot_dict_pop dd.typeIs PySem.F.entry_dict_pop (PySem.F.args_dict_pop_3 _ _ _) (meets_dict_pop_default (zaE X.prog X.w) a (zhu ry) hd hp r) ⟨vs,dd,hn,h _ (I.tok _)⟩
end
def NoSl (i:Expr):Prop:=∀ ov iv,subscripted i false ov iv=operate [ov,iv] (getItem ov iv)
theorem zqQ {prog:Program} {w:World} {A:Around} {E:Value->Shared->Prop} {s:Shared} {env:Env} {value slice:Expr} {pos:Pos} {T id:String} {Q:Value->Shared->Prop}
  (hl:typeLookup (.type T) "__getitem__" = pure (some (.builtin id))) (hs:NoSl slice)
  (h:wpAny (model prog w) A (eval value env) (λ o s₁=>wpAny (model prog w) A (eval slice env) (λ i s₂=>s₂.TypeIs o T/\wpAny (model prog w) A (getItem o i) Q E s₂) E s₁) E s) :
  wpAny (model prog w) A (eval (.Subscript value slice pos) env) Q E s:=by
 refine Subscript_ (wpAny_mono h (λ o s₁ h₁=>wpAny_mono h₁ (λ i s₂ h₂=>?_) λ _ _ x=>x) λ _ _ x=>x)
 obtain ⟨hT,h₂⟩:=h₂
 unfold subscriptTail
 refine wpAny_bind ?_
 rw [getitemInPython_of_ne hT.not_modules]
 refine wpAny_bind (wpAny_specialOf hT hl ?_)
 have fin:wpAny (model prog w) A (subscripted slice false o i) (λ r s₃=>wpAny (model prog w) A (letTemporaryGo value o r >>= λ _=>pure r) Q E s₃) E s₂:=by
  rw [hs o i]
  exact wpAny_operating (wpAny_mono h₂ (λ r s₃ h₃=>wpAny_bind (wpAny_letTemporaryGo (wpAny_pure h₃))) λ _ _ x=>x)
 first
  | exact wpAny_pure (wpAny_bind fin)
  | exact wpAny_bind (wpAny_pure (wpAny_bind fin))
  | exact wpAny_bind fin
theorem zlL {X:Cx} {pins:List (Addr×Obj)} {σ:St} {H:Hp} {s:Shared} {a:Addr} {y:V} {o:Option V} (I:Inv X pins σ H s) (g:DGet H a y o):s.TypeIs (.ref a) "dict" := by
 rcases g with ⟨kvs,k,e,_,_⟩ | ⟨kvs,k,b,e,_,_,_⟩
 . obtain ⟨_,_,vs,_,dd⟩:=zkI I.hok e
   exact dd.typeIs
 . obtain ⟨_,_,xs,_,dd⟩:=zkH I.hok e
   exact dd.typeIs
def zsO (td ty:TE):TE:=λ σ H Q=>td σ H λ x H1=>ty σ H1 λ y H2=>∃ a v,x=.ref a/\DGet H2 a y (some v)/\Q v H2
def tDIn (ty td:TE):TE:=λ σ H Q=>ty σ H λ y H1=>td σ H1 λ x H2=>∃ a o,x=.ref a/\DGet H2 a y o/\Q (.bl o.isSome) H2
def zqO (ty td:TE):TE:=λ σ H Q=>ty σ H λ y H1=>td σ H1 λ x H2=>∃ a o,x=.ref a/\DGet H2 a y o/\Q (.bl (!o.isSome)) H2
def zr5 (td ty tv:TE):TS:=λ D σ H=>tv σ H λ v H1=>td σ H1 λ x H2=>ty σ H2 λ y H3=>∃ a H4,x=.ref a/\DPut H3 a y v H4/\D.nx σ H4
section
variable {X:Cx} {o i e value:Expr} {pos pos' tpos:Pos} {td ty tv:TE}
theorem zd4 (hu:X.A.units+1 < cLine) (ho:PE X o td) (hi:PE X i ty) (hs:NoSl i):PE X (.Subscript o i pos) (zsO td ty):=by
 intro pins s σ H Q I h
 refine zqQ PySem.F.slot_dict_getitem.lookup hs (thn (ho pins s σ H _ I h) λ u s1 ⟨x,H1,I1,rx,q1⟩=>thn (hi pins s1 σ H1 _ I1 q1) λ iv s2 ⟨y,H2,I2,ry,a,v,ex,g,q2⟩=>?_)
 subst ex
 obtain rfl:u=Value.ref a:=rx
 exact ⟨zlL I2 g,zpg hu I2 g ry λ w' s3 I3 rw'=>⟨v,H2,I3,rw',q2⟩⟩
theorem zom (hu:X.A.units+1 < cLine) (hi:PE X i ty) (ho:PE X o td):PC X .In i o (tDIn ty td):=by
 intro pins s σ H Q I h
 refine thn (hi pins s σ H _ I h) λ iv s1 ⟨y,H1,I1,ry,q1⟩=>thn (ho pins s1 σ H1 _ I1 q1) λ u s2 ⟨x,H2,I2,rx,a,ov,ex,g,q2⟩=>?_
 subst ex
 obtain rfl:u=Value.ref a:=rx
 exact d_in hu I2 g ry λ s3 I3=>⟨.bl ov.isSome,H2,I3,rfl,q2⟩
theorem zg7 (hu:X.A.units+1 < cLine) (hi:PE X i ty) (ho:PE X o td):PC X .NotIn i o (zqO ty td):=by
 intro pins s σ H Q I h
 refine thn (hi pins s σ H _ I h) λ iv s1 ⟨y,H1,I1,ry,q1⟩=>thn (ho pins s1 σ H1 _ I1 q1) λ u s2 ⟨x,H2,I2,rx,a,ov,ex,g,q2⟩=>?_
 subst ex
 obtain rfl:u=Value.ref a:=rx
 exact zrv hu I2 g ry λ s3 I3=>⟨.bl (!ov.isSome),H2,I3,rfl,q2⟩
theorem zg3 (hu:X.A.units+1 < cLine) (ho:PE X o td) (hi:PE X i ty) (hv:PE X value tv) (hs:swapsWith value (some (.Subscript o i pos')) pos.line X.env=pure false) :
  PS X (.Assign [.Subscript o i pos'] value pos) (zr5 td ty tv):=by
 intro pins s σ H D I h
 refine wpAny_Assign_Subscript (thn (hv pins s σ H _ I h) λ r s1 ⟨v,H1,I1,rv,q1⟩=>thn (ho pins s1 σ H1 _ I1 q1) λ u s2 ⟨x,H2,I2,rx,q2⟩=>thn (hi pins s2 σ H2 _ I2 q2) λ iv s3 ⟨y,H3,I3,ry,a,H4,ex,g,q3⟩=>?_) hs
 subst ex
 obtain rfl:u=Value.ref a:=rx
 exact zpf hu I3 g ry rv λ s4 I4=>⟨σ,H4,I4,q3⟩
end
theorem zqa {P:Program} {w:World} {H:Hp} (h:Heap) (hb:sysModules < h.objs.size):zbP P w H (h.push { cls:=.type "dict",data:=.dict #[] }) h.objs.size (.dK []) :=
 ⟨Nat.zero_le _,beq_eq_false_iff_ne.mpr (Ne.symm (Nat.ne_of_lt hb)),[],.nil,Heap.DictOf.new h⟩
def zrO:TE:=λ _ H Q=>∀ p,H p=none->Q (.ref p) (upd H p (.dK []))
section
variable {X:Cx} {pos:Pos}
theorem zfi:PE X (.Dict [] [] pos) zrO:=λ pins s σ H Q I h =>
 wpAny_Dict_empty ⟨.ref s.heap.objs.size,_,I.laid (a:=s.heap.objs.size) (o:=.dK []) (t':=s.toks) (λ _ _ q=>Heap.get?_push_of_some _ q) (Nat.le_refl _) (zqa s.heap I.big),rfl,h _ (I.hok.fresh (Nat.le_refl _))⟩
end
structure M1 (X:Cx) (o:Expr) (m:Str) (apos:Pos) (e:Expr) (cpos:Pos):Prop where
 base:attributeBase o m X.env (eval o X.env)=eval o X.env
 few:((backTo cpos (starEach [e] X.env)).all (λ x=>!x.1) && (backToKw cpos (keywordEach [] X.env)).all (λ x=>x.1.isSome)
  && decide (([e]:List Expr).length+([]:List Keyword).length+(if ([]:List Keyword).isEmpty then 0 else 1) < 30))=true
 line:(apos.endLine == cpos.line)=true
 trees:backTo cpos (starEach [e] X.env)=[(false,eval e X.env)]
structure M2 (X:Cx) (o:Expr) (m:Str) (apos:Pos) (e f:Expr) (cpos:Pos):Prop where
 base:attributeBase o m X.env (eval o X.env)=eval o X.env
 few:((backTo cpos (starEach [e,f] X.env)).all (λ x=>!x.1) && (backToKw cpos (keywordEach [] X.env)).all (λ x=>x.1.isSome)
  && decide (([e,f]:List Expr).length+([]:List Keyword).length+(if ([]:List Keyword).isEmpty then 0 else 1) < 30))=true
 line:(apos.endLine == cpos.line)=true
 trees:backTo cpos (starEach [e,f] X.env)=[(false,eval e X.env),(false,eval f X.env)]
def IsD (H:Hp) (a:Addr):Prop:=(∃ kvs,Rd H a (.dK kvs))\/∃ kvs,Rd H a (.dT kvs)
theorem zmF {X:Cx} {pins:List (Addr×Obj)} {σ:St} {H:Hp} {s:Shared} {a:Addr} (I:Inv X pins σ H s) (d:IsD H a) :
   s.TypeIs (.ref a) "dict" /\ (∀ b,Value.ref a=.ref b->∃ ob,s.heap.get? b=some ob/\ob.dict=none)/\(a == sysModules)=false:=by
 rcases d with ⟨kvs,e⟩ | ⟨kvs,e⟩
 . obtain ⟨_,hd,vs,_,dd⟩:=zkI I.hok e
   refine ⟨dd.typeIs,λ b q=>?_,hd⟩
   cases q
   obtain ⟨ob,_,_,h1,h2,_⟩:=dd
   exact ⟨ob,h1,h2.2.1⟩
 . obtain ⟨_,hd,xs,_,dd⟩:=zkH I.hok e
   refine ⟨dd.typeIs,λ b q=>?_,hd⟩
   cases q
   obtain ⟨ob,_,_,h1,h2,_⟩:=dd
   exact ⟨ob,h1,h2.2.1⟩
section
variable {X:Cx} {pins:List (Addr×Obj)} {σ:St} {H:Hp} {s:Shared} {a:Addr} {y d:V} {u r:Value} {o:Option V} {A:Around} {E:Value->Shared->Prop}
theorem zsC {Q:Value->Shared->Prop} (hu:A.units+1 < cLine) (I:Inv X pins σ H s) (g:DGet H a y o) (ry:RelV y u) (h:∀ w' s',Inv X pins σ H s'->RelV (o.getD .non) w'->Q w' s') :
   wpAny (model X.prog X.w) A (call (.builtin "dict.get") [.ref a,u]) Q E s:=by
 rcases g with ⟨kvs,k,e,ey,l⟩ | ⟨kvs,k,b,e,ey,eb,l⟩
 . subst ey
   obtain ⟨z,hd,vs,rel,dd⟩:=zkI I.hok e
   refine call_meetsIn PySem.F.slot_dict_get dd.typeIs PySem.F.entry_dict_get (PySem.F.args_dict_get_2 _ _) (meets_dict_get (zaE X.prog X.w) a (zhu ry) hd) ⟨_,dd.mapOf,h _ _ (I.tok _) ?_⟩
   rw [l]
   exact (rel.val k).getD rfl
 . subst ey
   cases (show u=Value.ref b from ry)
   obtain ⟨z,hd,xs,rel,dd⟩:=zkH I.hok e
   refine call_meetsIn PySem.F.slot_dict_get dd.typeIs PySem.F.entry_dict_get (PySem.F.args_dict_get_2 _ _) (meetsH_dict_get (tupleKind (zaE X.prog X.w)) a b hd) ⟨tupleKind_room_in1 hu,k,xs,zhs I.hok eb,dd,h _ _ (I.tok _) ?_⟩
   rw [l]
   exact (rel.val k).getD rfl
theorem zsB {Q:Value->Shared->Prop} (hu:A.units+1 < cLine) (I:Inv X pins σ H s) (g:DGet H a y o) (ry:RelV y u) (rd:RelV d r) (h:∀ w' s',Inv X pins σ H s'->RelV (o.getD d) w'->Q w' s') :
   wpAny (model X.prog X.w) A (call (.builtin "dict.get") [.ref a,u,r]) Q E s:=by
 rcases g with ⟨kvs,k,e,ey,l⟩ | ⟨kvs,k,b,e,ey,eb,l⟩
 . subst ey
   obtain ⟨z,hd,vs,rel,dd⟩:=zkI I.hok e
   refine call_meetsIn PySem.F.slot_dict_get dd.typeIs PySem.F.entry_dict_get (PySem.F.args_dict_get_3 _ _ _) (meets_dict_get_default (zaE X.prog X.w) a (zhu ry) hd r) ⟨_,dd.mapOf,h _ _ (I.tok _) ?_⟩
   rw [l]
   exact (rel.val k).getD rd
 . subst ey
   cases (show u=Value.ref b from ry)
   obtain ⟨z,hd,xs,rel,dd⟩:=zkH I.hok e
   refine call_meetsIn PySem.F.slot_dict_get dd.typeIs PySem.F.entry_dict_get (PySem.F.args_dict_get_3 _ _ _) (meetsH_dict_get_default (tupleKind (zaE X.prog X.w)) a b hd r) ⟨tupleKind_room_in1 hu,k,xs,zhs I.hok eb,dd,h _ _ (I.tok _) ?_⟩
   rw [l]
   exact (rel.val k).getD rd
end
def zrQ (td ty:TE):TE:=λ σ H Q=>td σ H λ x H1=>∃ a,x=.ref a/\IsD H1 a/\ty σ H1 λ y H2=>∃ o,DGet H2 a y o/\Q (o.getD .non) H2
def zrP (td ty tx:TE):TE:=λ σ H Q=>td σ H λ x H1=>∃ a,x=.ref a/\IsD H1 a/\ty σ H1 λ y H2=>tx σ H2 λ z H3=>∃ o,DGet H3 a y o/\Q (o.getD z) H3
def zrN (td ty tx:TE):TE:=λ σ H Q=>td σ H λ x H1=>∃ a,x=.ref a/\IsD H1 a/\ty σ H1 λ y H2=>tx σ H2 λ z H3=>∃ kvs k,H3 a=some (.dK kvs)/\y=kV k /\
 (∀ v,valV kvs k=some v->Q v (upd H3 a (.dK (zh8 kvs k))))/\(valV kvs k=none->Q z H3)
section
variable {X:Cx} {o e f:Expr} {apos cpos:Pos} {td ty tx:TE}
theorem zpL (hu:X.A.units+1 < cLine) (ho:PE X o td) (he:PE X e ty) (m:M1 X o "get" apos e cpos):PE X (.Call (.Attribute o "get" apos) [e] [] cpos) (zrQ td ty):=by
 intro pins s σ H Q I h
 refine wpAny_Call_method m.base m.few m.line PySem.F.plainAttrs_dict PySem.F.slot_dict_get PySem.F.type_dict_get (thn (ho pins s σ H _ I h) λ u s1 ⟨x,H1,I1,rx,a,ex,d,q1⟩=>?_)
 subst ex
 obtain rfl:u=Value.ref a:=rx
 obtain ⟨t1,t2,_⟩:=zmF I1 d
 refine ⟨t1,t2,?_⟩
 rw [m.trees]
 refine Calls.callWith_builtin rfl (Calls.evalArgs_plain (Calls.spliced_cons (thn (he pins s1 σ H1 _ I1 q1) λ iv s2 ⟨y,H2,I2,ry,ov,g,q2⟩=>Calls.spliced_nil ?_)))
 exact zsC hu I2 g ry λ w' s3 I3 rw'=>⟨_,H2,I3,rw',q2⟩
theorem zpK (hu:X.A.units+1 < cLine) (ho:PE X o td) (he:PE X e ty) (hf:PE X f tx) (m:M2 X o "get" apos e f cpos):PE X (.Call (.Attribute o "get" apos) [e,f] [] cpos) (zrP td ty tx):=by
 intro pins s σ H Q I h
 refine wpAny_Call_method m.base m.few m.line PySem.F.plainAttrs_dict PySem.F.slot_dict_get PySem.F.type_dict_get (thn (ho pins s σ H _ I h) λ u s1 ⟨x,H1,I1,rx,a,ex,d,q1⟩=>?_)
 subst ex
 obtain rfl:u=Value.ref a:=rx
 obtain ⟨t1,t2,_⟩:=zmF I1 d
 refine ⟨t1,t2,?_⟩
 rw [m.trees]
 refine Calls.callWith_builtin rfl (Calls.evalArgs_plain (Calls.spliced_cons (thn (he pins s1 σ H1 _ I1 q1) λ iv s2 ⟨y,H2,I2,ry,q2⟩ =>
  Calls.spliced_cons (thn (hf pins s2 σ H2 _ I2 q2) λ fv s3 ⟨z,H3,I3,rz,ov,g,q3⟩=>Calls.spliced_nil ?_))))
 exact zsB hu I3 g ry rz λ w' s4 I4 rw'=>⟨_,H3,I4,rw',q3⟩
theorem zmu (ho:PE X o td) (he:PE X e ty) (hf:PE X f tx) (m:M2 X o "pop" apos e f cpos):PE X (.Call (.Attribute o "pop" apos) [e,f] [] cpos) (zrN td ty tx):=by
 intro pins s σ H Q I h
 refine wpAny_Call_method m.base m.few m.line PySem.F.plainAttrs_dict PySem.F.slot_dict_pop PySem.F.type_dict_pop (thn (ho pins s σ H _ I h) λ u s1 ⟨x,H1,I1,rx,a,ex,d,q1⟩=>?_)
 subst ex
 obtain rfl:u=Value.ref a:=rx
 obtain ⟨t1,t2,_⟩:=zmF I1 d
 refine ⟨t1,t2,?_⟩
 rw [m.trees]
 refine Calls.callWith_builtin rfl (Calls.evalArgs_plain (Calls.spliced_cons (thn (he pins s1 σ H1 _ I1 q1) λ iv s2 ⟨y,H2,I2,ry,q2⟩ =>
  Calls.spliced_cons (thn (hf pins s2 σ H2 _ I2 q2) λ fv s3 ⟨z,H3,I3,rz,kvs,k,ea,ey,q3,q4⟩=>Calls.spliced_nil ?_))))
 subst ey
 cases l:valV kvs k with
 | some v=>exact ztd I3 ea ry l (.inr ⟨fv,rfl⟩) λ w' s4 I4 rw'=>⟨v,_,I4,rw',q3 v l⟩
 | none=>exact zsA I3 ea ry l λ s4 I4=>⟨z,H3,I4,rz,q4 l⟩
end
section
variable {X:Cx} {pins:List (Addr×Obj)} {σ:St} {H:Hp} {s:Shared} {a:Addr} {kvs:List (Key×V)} {A:Around} {E:Value->Shared->Prop}
end
section
variable {X:Cx} {pins:List (Addr×Obj)} {σ:St} {H:Hp} {s:Shared} {a:Addr} {y:V} {u:Value} {A:Around} {E:Value->Shared->Prop}
end
end L2
namespace Att
open PySem PySem.W PySem.Calls PyProof.Rows
theorem zhv {P:Params} {h:Heap}:∀ (ns:List Int) (vs:List Value),WellAll P h vs (ns.map WData.int)->IntsAre vs ns:=by
 intro ns
 induction ns with
 | nil =>
  intro vs w
  rw [List.map_nil] at w
  cases w
  exact .nil
 | cons n ns ih =>
  intro vs w
  rw [List.map_cons] at w
  cases w with
  | cons a b =>
   cases a
   exact .cons _ _ (ih _ b)
theorem zn7 {l:OpenLaw} {n:Nat} (hn:l.most=some n) {P:Params} {h:Heap} {args:List WData} {vals:List Value}
  (hpre:l.row.toRowW.claim.pre args=true) (hwl:WellAll P h vals args) :
  ∃ a vs ns,vals=[Value.ref a]/\args=[WData.list (ns.map WData.int)]/\h.get? a=some { cls:=.type "list",data:=.seq vs.toArray }/\IntsAre vs ns/\ns.length<=n:=by
 have hsh:WShape.hasAll [] args [.list .int]=true:=(pre_splitW hpre).1
 have hc:l.pre.holds [] { args:=args }=true:=(pre_splitW hpre).2
 obtain ⟨d,r,rfl,h1,h2⟩:=hasAllW_cons hsh
 obtain rfl:=hasAllW_nil h2
 obtain ⟨xs,rfl,h3⟩:=hasW_list h1
 obtain ⟨ns,rfl⟩:=items_int h3
 have hlen:ns.length<=n:=by
  unfold OpenLaw.pre at hc
  have h4:(WTm.not (.lt (.lit (.int (n:Int))) (.len (.arg 0)))).holds [] { args:=[.list (ns.map .int)] }=true:=by
   have h4:=(holds_andW hc).1
   rw [hn] at h4
   exact h4
  have h5:=condW_of h4 (w_not (w_lt w_lit (w_len_list (w_arg rfl))))
  rw [List.length_map] at h5
  refine Nat.le_of_not_lt λ q=>?_
  have q':(n:Int) < ((ns.length:Nat):Int):=by omega
  first
   | (rw [decide_eq_true q'] at h5; exact absurd h5 (by decide))
   | (simp at h5; omega)
 cases hwl with
 | cons w1 w2 =>
  cases w2
  cases w1 with
  | list ho hall=>exact ⟨_,_,ns,rfl,rfl,ho,zhv ns _ hall,hlen⟩
theorem zoe (l:OpenLaw) (args:List WData):l.row.toRowW.claim.post args (.bool true) args=true :=
 postW_of (r:=l.row.toRowW) (X:=(true == true))
  (show WShape.has [] (.bool true) .bool=true by first | rfl | decide | simp [WShape.has,WShape.arms,WShape.armsAll])
  (show (WTm.eq .res (.lit (.bool true))).value [] { args:=args,res:=some (.bool true),after:=args }=some (.bool (true == true)) from w_eq_bool (w_res rfl) w_lit) rfl
theorem zl1 {l:OpenLaw} {n:Nat} {q:Program} {loose:List Str} {XP:(Str->Option Value)->Heap->Prop} {YP:World->Heap->Prop} {d:DefRec}
  (hn:l.most=some n) (hdf:d.params.defaults=[])
  (call:∀ (w:World) (s₀ s₁:Shared) (mg mb:Str->Option Value) (fa:Addr) (o:Obj) (pm cd doc:Value) (a:Addr) (vs:List Value) (ns:List Int),
   Ground q loose [] XP w s₀ mg mb s₁.heap->YP w s₁.heap ->
   s₁.heap.get? fa=some o->o.data=.func (docDef d.name d.params d.body d.scope pm cd doc)->s₁.heap.CodeRec cd d.name->mg d.name=some (.ref fa) ->
   s₁.heap.get? a=some { cls:=.type "list",data:=.seq vs.toArray }->IntsAre vs ns->ns.length<=n->s₁.gens=#[] ->
   codeAny (model l.prog w) callerA (.call (.ref fa) ⟨[.ref a],[]⟩) (λ r s'=>r=.ok (.ret (.bool true))/\OldK s₁.heap s'.heap/\s'.os=s₁.os/\AllBare s'.gens) s₁) :
  WalkO q loose XP YP l.row.toRowW d [] (λ f vs=>PySem.call f vs):=by
 intro w s₀ s₁ mg mb G Y fa o pm cd doc dV kV ho hd hcd hD hmg hg args vals as hpre hlay hrd hwl hlo
 obtain rfl:dV=.none:=Dflts.none hD hdf
 obtain rfl:kV=.none:=Dflts.noKw hD
 obtain ⟨a,vs,ns,rfl,rfl,hobj,hints,hlen⟩:=zn7 hn hpre hwl
 refine enter_call (codeAny_mono (call w s₀ s₁ mg mb fa o pm cd doc a vs ns G Y ho (fd_plain hd) hcd hmg hobj hints hlen hg) λ r s' hq=>?_)
 obtain ⟨rfl,h2,h3,h4⟩:=hq
 exact ⟨.inl ⟨.bool true,.bool true,[],rfl,λ _=>rfl,.bool true,zoe l _,λ _=>⟨List.Pairwise.nil,λ _ hm=>(nomatch hm)⟩⟩,h2,h3,h4⟩
section
variable {prog:Program} {w:World} {A:Around} {E:Value->Shared->Prop} {s:Shared} {K:Frag}
end
end Att
namespace L2
open PySem PySem.Spec PyProof.Rows
theorem zjG:∀ {vs:List Value} {ns:List Int},IntsAre vs ns->Vals (ns.map V.int) vs
 | _,_,.nil=>.nil
 | _,_,.cons n t h=>.cons ⟨t,rfl⟩ (zjG h)
def Only (H:Hp):Prop:=∀ b,H b=none\/∃ o xs,H b=some (.frz o (.lst xs))
theorem zpW {P:Program} {w:World} {K:PySem.W.Frag} {mg mb:Str->Option Value} {CX:CXT} {k:Nat} {fa a:Addr} {fd:FuncData} {x:Str} {sp:Sp} {s₁:Shared} {vs:List Value} {ns:List Int}
  (KX:K.In s₁.heap) (hns:s₁.heap.Ns mainGlobals mg) (hb:s₁.heap.Ns builtinsNs mb) (hbb:∀ x:Str,x ≠ "__name__" -> mb x=bootBuiltins x) (hlim:s₁.heap.NoLimit) (hg:s₁.gens=#[])
  (ha:s₁.heap.get? a=some { cls:=.type "list",data:=.seq vs.toArray }) (hi:IntsAre vs ns) (hl:ns.length<=sizeLine) (hr:Room k callerA)
  (F:∀ base:Heap,K.In base->base.Ns mainGlobals mg->FnOk P w K mg base CX k fa fd [x] sp) (hbind:∀ (s:Shared) (u:Value),BindsTo s fd ⟨[u],[]⟩ [(x,u)])
  (hsp:∀ H:Hp,Only H->SqL K H a (ns.map V.int)->sp [.ref a] H (λ v _=>v=.bl true) λ _ _ _=>False)
  (hCX:∀ H e s',CX [] H s₁ (λ _ _ _=>False) e s'->False) :
  codeAny (model P w) callerA (.call (.ref fa) ⟨[.ref a],[]⟩) (λ r s'=>r=.ok (.ret (.bool true))/\OldK s₁.heap s'.heap/\s'.os=s₁.os/\AllBare s'.gens) s₁:=by
 have rv:=zjG hi
 have lenV:=hi.length
 have core:∀ H:Hp,Only H->SqL K H a (ns.map V.int)->HOk P w H s₁.heap->(∀ b,H b≠none->b=a)->(H a≠none->K.lookup a=none) ->
    codeAny (model P w) callerA (.call (.ref fa) ⟨[.ref a],[]⟩) (λ r s'=>r=.ok (.ret (.bool true))/\OldK s₁.heap s'.heap/\s'.os=s₁.os/\AllBare s'.gens) s₁:=by
  intro H hO hS hok hA hK
  have base_of:∀ {b:Addr} {o:Obj},s₁.heap.get? b=some o->H b=none->(hidT s₁.heap H).get? b=some o:=λ e n=>zpZ e n
  have noA:∀ {b:Addr} {o:Obj} {es:Array DictEntry} {ep:Nat},s₁.heap.get? b=some o->o.data=.dict es ep->H b=none:=λ {b o es ep} e d=>by
    cases q:H b with
    | none=>rfl
    | some u =>
      have e':b=a:=hA b (by rw [q]; simp)
      subst e'
      rw [ha] at e; cases e
      have d':Data.seq vs.toArray _=Data.dict es ep:=d
      cases d'
  have nsK:∀ {b:Addr} {m:Str->Option Value},s₁.heap.Ns b m->(hidT s₁.heap H).Ns b m:=λ {b m} ⟨o,es,ep,e,d,r⟩=>⟨o,es,ep,base_of e (noA e d),d,r⟩
  have hKb:K.In (hidT s₁.heap H):=λ b o e=>base_of (KX b o e) (by
    cases q:H b with
    | none=>rfl
    | some u =>
      have e':b=a:=hA b (by rw [q]; simp)
      subst e'
      rw [hK (by rw [q]; simp)] at e; cases e)
  have hM:Mod K mg (hidT s₁.heap H):=⟨hKb,nsK hns,⟨mb,nsK hb,hbb⟩,let ⟨mc,h1,h2⟩:=hlim; ⟨mc,nsK h1,h2⟩⟩
  have e0:Env0 P w K mg (hidT s₁.heap H) callerA [] s₁ H:=⟨rfl,hM,λ b o e=>zre e,Nat.le_of_eq (zoS _ _),trivial,λ b hb=>absurd (show b∈([]:List Addr) from hb) (by simp),hok,.of_eq hg⟩
  refine codeAny_mono ((F _ hKb (nsK hns)).run callerA [] s₁ H ⟨[.ref a],[]⟩ [.ref a] [.ref a] _ _ hr e0 (hbind s₁ (.ref a)) (.cons rfl .nil) (hsp H hO hS)) λ r s' h=>?_
  cases r with
  | error e=>exact (hCX H e s' h).elim
  | ok fl =>
    cases fl with
    | next=>exact False.elim h
    | brk=>exact False.elim h
    | cont=>exact False.elim h
    | ret u =>
      obtain ⟨v,H',os,bare,un,hok',r',q⟩:=h
      have q':v=.bl true:=q
      subst q'
      obtain rfl:u=Value.bool true:=r'
      refine ⟨rfl,OldK.of_keep λ b o e=>?_,os,bare⟩
      cases q:H b with
      | none=>exact un.keep b o e q (by intro z; exact absurd (show b∈([]:List Addr) from z) (by simp)) (by simp)
      | some u =>
       rcases hO b with z | ⟨ob,xs,z⟩
       . rw [q] at z; cases z
       . have z2:=un.frzs b ob _ z
         obtain ⟨e1,_⟩:=hok b _ z
         obtain ⟨e2,_⟩:=hok' b _ z2
         rw [e] at e1; cases e1
         exact e2
 cases hk:K.lookup a with
 | some o =>
  have e:=KX a o hk
  rw [ha] at e
  cases e
  refine core (λ _=>none) (λ _=>.inl rfl) (.inr ⟨_,vs.toArray,_,hk,rfl,rfl,rfl,by rw [List.size_toArray,lenV]; exact hl,by simpa using rv⟩) (λ b u z=>by have z':(none:Option HO)=some u:=z; cases z') (λ b z=>absurd rfl z) λ z=>absurd rfl z
 | none =>
  refine core (λ b=>if b=a then some (.frz { cls:=.type "list",data:=.seq vs.toArray } (.lst (ns.map V.int))) else none) (λ b=>?_) (.inl (.inr ⟨{ cls:=.type "list",data:=.seq vs.toArray },if_pos rfl⟩)) (λ b u z=>?_) (λ b z=>?_) λ _=>hk
  . by_cases hb:b=a
    . exact .inr ⟨_,_,if_pos hb⟩
    . exact .inl (if_neg hb)
  . by_cases hb:b=a
    . have z':=(if_pos hb).symm.trans z
      cases z'
      subst hb
      exact ⟨ha,by rw [List.length_map]; exact hl,vs,_,rv,ha⟩
    . have z':=(if_neg hb).symm.trans z
      cases z'
  . by_cases hb:b=a
    . exact hb
    . exact absurd (if_neg hb) z
end L2
namespace L2
open PySem PySem.Spec PyProof.Rows
end L2
namespace L2
open PySem PySem.Spec PyProof.Rows
def inClass (s:Stmt) (j:Nat):Stmt:=match s with
 | .ClassDef _ _ _ body _ _ _ _ _ _ _=>body.getD j (.Pass ⟨0,0,0,0⟩)
 | _=>.Pass ⟨0,0,0,0⟩
def zjo (s:Stmt):Arguments:=match s with
 | .FunctionDef _ a _ _ _ _ _ _ _ _=>a
 | _=>{ posonlyargs:=[],args:=[],vararg:=none,kwonlyargs:=[],kw_defaults:=[],kwarg:=none,defaults:=[] }
def zhC (s:Stmt):List Stmt:=match s with
 | .FunctionDef _ _ b _ _ _ _ _ _ _=>b
 | _=>[]
def zaj (s:Stmt):Scope:=match s with
 | .FunctionDef _ _ _ _ _ _ sc _ _ _=>sc
 | _=>{ kind:=.function,names:=[],isGenerator:=false,isCoroutine:=false }
structure Fun (K:PySem.W.Frag) (x qual:Str) (st:Stmt) (f:Addr) (fd:FuncData):Prop where
 ex:∃ (oc:Value) (od:Option Addr) (kV doc pm:Value) (an:Option Addr) (cdv ct:Value) (osl:Array (Option Value)),
  fd=PySem.W.fnOf x qual (zjo st) (zhC st) (zaj st) .none kV doc pm an cdv ct/\K.lookup f=some ⟨oc,od,.func fd,osl⟩/\PySem.W.codeIn K cdv qual=true
 kp:PySem.W.keepIn K (.ref f)=true
section
variable {P:Program} {w:World} {K:PySem.W.Frag} {mg:Str->Option Value} {base:Heap}
theorem Fun.binds {x qual:Str} {st:Stmt} {f:Addr} {fd:FuncData} {ps:List Str} (F:Fun K x qual st f fd)
  (h:∀ (kV doc pm:Value) (an:Option Addr) (cdv ct:Value) (us:List Value),us.length=ps.length->bindArgs (PySem.W.fnOf x qual (zjo st) (zhC st) (zaj st) .none kV doc pm an cdv ct) ⟨us,[]⟩=pure (ps.zip us)):Binds K fd ps []:=by
 obtain ⟨oc,od,kV,doc,pm,an,cdv,ct,osl,rfl,lk,hcd⟩:=F.ex
 exact .all (h kV doc pm an cdv ct)
end
theorem zey {A:Around} {k:Nat} (hr:Room k A):A.units+1 < cLine:=Nat.lt_of_le_of_lt (Nat.add_le_add_left (by decide:1<=64) _) hr.units
section
variable {X:Cx}
theorem pv (i:Nat) {x:Str} {pos:Pos} (hN:X.N[i]?=some x:=by rfl) (hv:Vis X.env.scope x:=by first | exact Or.inl rfl | exact Or.inr (Or.inl rfl) | exact Or.inr (Or.inr rfl)) (hd:(x == ("__debug__" : Str))=false:=by decide)
 (hcd:(x == ("__classdict__" : Str))=false:=by decide):PE X (.Name x pos) (tVar i):=zsa hN hv hd hcd
end
theorem iteF {A B:Prop} (h:B):if false=true then A else B:=by
 rw [if_neg Bool.false_ne_true]
 exact h
theorem iteT {A B:Prop} (h:A):if true=true then A else B:=by
 rw [if_pos rfl]
 exact h
def Same (H H':Hp):Prop:=∀ b o,H b=some o->H' b=some o
theorem Same.refl (H:Hp):Same H H:=λ _ _ h=>h
theorem Same.trans {H H1 H2:Hp} (a:Same H H1) (b:Same H1 H2):Same H H2:=λ c o h=>b c o (a c o h)
theorem Same.free {H H':Hp} (e:Same H H') {l:Addr} (h:H' l=Option.none):H l=Option.none:=by
 cases q:H l with
 | none=>rfl
 | some o =>
  rw [e l o q] at h
  cases h
theorem Same.seq {K:PySem.W.Frag} {H H':Hp} {a:Addr} {xs:List V} (e:Same H H') (h:SqL K H a xs):SqL K H' a xs:=by
 rcases h with (h | ⟨o,h⟩) | h
 . exact .inl (.inl (e _ _ h))
 . exact .inl (.inr ⟨o,e _ _ h⟩)
 . exact .inr h
section
variable {κ:Type} [DecidableEq κ]
end
end L2
end
section
namespace L2
open PySem PySem.Spec PyProof.Rows
abbrev NoX:Value->Shared->Prop:=λ _ _=>False
def zpp (M:Model) (A:Around) (ifs:List Expr) (env:Env) (tst:(Bool->Shared->Prop)->Shared->Prop):Prop :=
 (ifs=[]/\∀ Q s,tst Q s->Q true s)\/∃ c,ifs=[c]/\∀ Q s,tst Q s->wpAny M A (isTrue c env (eval c env)) Q NoX s
def zsH (M:Model) (A:Around) (target elt:Expr) (env:Env) (it acc v:Value) (tst:(Bool->Shared->Prop)->Shared->Prop) (Nx:Shared->Prop) (s1:Shared):Prop :=
 wpAny M A (letOwnedTupleGo target it v) (λ _ s2=>wpAny M A (assign target env v) (λ _ s3=>tst (λ ok s4 =>
  if ok=true then wpAny M A (eval elt env) (λ x s5=>wpAny M A (call (.builtin "list.append") [acc,x]) (λ _ s6=>Nx s6) NoX s5) NoX s4 else Nx s4) s3) NoX s2) NoX s1
theorem nox {α:Type} {M:Model} {A:Around} {t:Sem α} {Q Q':α->Shared->Prop} {E:Value->Shared->Prop} {s:Shared} (h:wpAny M A t Q NoX s) (k:∀ a s',Q a s'->Q' a s'):wpAny M A t Q' E s:=wpAny_mono h k λ _ _ z=>z.elim
theorem zkL {prog:Program} {w:World} {A:Around} {R:Result->Shared->Prop} {s:Shared} {elt target iter:Expr} {ifs:List Expr} {scope:Scope} {pos:Pos} {it acc:Value} {env:Env} {tst:(Bool->Shared->Prop)->Shared->Prop}
   (ht:zpp (model prog w) A ifs env tst) (I:Nat->Shared->Prop)
   (go:∀ n s,I n s->wpAny (model prog w) A (pyNext it) (λ r s1=>(r=none/\R (.ok .next) s1)\/∃ v,r=some v/\zsH (model prog w) A target elt env it acc v tst (λ s2=>∃ m,m < n/\I m s2) s1) NoX s)
   (n:Nat) (h:I n s):codeAny (model prog w) A (.compLoop (.ListComp elt [⟨target,iter,ifs,0⟩] scope pos) 0 it acc env) R s:=by
 rcases ht with ⟨rfl,ht⟩ | ⟨c,rfl,ht⟩
 . refine PySem.W.kcp_loop I (λ m s' hI=>nox (go m s' hI) λ r s1 q=>?_) n h
   rcases q with ⟨rfl,q⟩ | ⟨v,rfl,q⟩
   . exact q
   . exact nox q λ _ s2 q2=>nox q2 λ _ s3 q3=>by
      have q4:=ht _ _ q3
      rw [if_pos rfl] at q4
      exact nox q4 λ x s5 q5=>nox q5 λ _ _ q6=>q6
 . refine PySem.W.kct_loop I (λ m s' hI=>nox (go m s' hI) λ r s1 q=>?_) n h
   rcases q with ⟨rfl,q⟩ | ⟨v,rfl,q⟩
   . exact q
   . exact nox q λ _ s2 q2=>nox q2 λ _ s3 q3=>nox (ht _ _ q3) λ ok s4 q4=>by
      cases ok with
      | false=>rw [if_neg Bool.false_ne_true] at q4 ⊢; exact q4
      | true=>rw [if_pos rfl] at q4 ⊢; exact nox q4 λ x s5 q5=>nox q5 λ _ _ q6=>q6
def zdK (cells:List (Str×Addr)) (cs:List (Str×Addr)) (y:Str×NameKind):List (Str×Addr) :=
 if y.2 == .free then match cells.lookup y.1 with | some a=>(y.1,a)::cs | none=>cs else cs
def clOf (scope:Scope) (cells:List (Str×Addr)):List (Str×Addr):=scope.names.foldl (zdK cells) []
theorem ziF {env:Env}:∀ (l:List (Str×NameKind)) (cs:List (Str×Addr)),(∀ y∈l,y.2=.free->∃ a,env.cells.lookup y.1=some a) ->
  (forIn l cs (λ (y:Str×NameKind) (cs:List (Str×Addr))=>if (y.2 == NameKind.free)=true then do let a <-cellOf env y.1; pure (ForInStep.yield ((y.1,a)::cs)) else pure (ForInStep.yield cs)):Sem (List (Str×Addr)))=pure (l.foldl (zdK env.cells) cs)
 | [],cs,_=>rfl
 | y::r,cs,h=>by
  rw [List.forIn_cons]
  have ih:=λ cs'=>ziF r cs' λ z hz=>h z (List.mem_cons_of_mem _ hz)
  by_cases hk:y.2=.free
  . obtain ⟨a,ha⟩:=h y List.mem_cons_self hk
    have e1:zdK env.cells cs y=(y.1,a)::cs:=by unfold zdK; rw [hk,ha]; rfl
    rw [List.foldl_cons,e1,<-ih]
    have e2:cellOf env y.1=pure a:=by unfold cellOf; rw [ha]
    simp only [hk,beq_self_eq_true,if_true,e2]
    rfl
  . have hb:(y.2 == NameKind.free)=false:=by simpa using hk
    have e1:zdK env.cells cs y=cs:=by unfold zdK; rw [hb]; rfl
    rw [List.foldl_cons,e1,<-ih]
    simp only [hb,Bool.false_eq_true,if_false]
    rfl
theorem ziG {scope:Scope} {env:Env} (h:∀ y∈scope.names,y.2=.free->∃ a,env.cells.lookup y.1=some a):closureFor scope env=pure (clOf scope env.cells):=by
 have:=ziF scope.names [] h
 unfold clOf
 rw [<-this]
 unfold closureFor
 first
  | rfl
  | simp only [bind_pure]
theorem zgL {cells:List (Str×Addr)} {x:Str} {c:Addr}:∀ (l:List (Str×NameKind)) (cs:List (Str×Addr)),(∀ c,cs.lookup x=some c->cells.lookup x=some c)->(l.foldl (zdK cells) cs).lookup x=some c->cells.lookup x=some c
 | [],cs,h,q=>h c q
 | y::r,cs,h,q=>by
  rw [List.foldl_cons] at q
  refine zgL r _ (λ c' q'=>?_) q
  unfold zdK at q'
  by_cases hk:(y.2 == NameKind.free)=true
  . rw [if_pos hk] at q'
    cases e:cells.lookup y.1 with
    | none=>rw [e] at q'; exact h c' q'
    | some a =>
     rw [e] at q'
     rw [List.lookup_cons] at q'
     by_cases hx:x == y.1
     . rw [hx] at q'
       have:x=y.1:=by simpa using hx
       rw [this,e]; exact q'
     . have hx':(x == y.1)=false:=by simpa using hx
       rw [hx'] at q'; exact h c' q'
  . rw [if_neg hk] at q'; exact h c' q'
theorem zjp {cells:List (Str×Addr)} {x:Str}:∀ (l:List (Str×NameKind)) (cs:List (Str×Addr)),((∃ c,cs.lookup x=some c)\/((x,NameKind.free)∈l/\∃ c,cells.lookup x=some c))->∃ c,(l.foldl (zdK cells) cs).lookup x=some c
 | [],cs,h=>by
  rcases h with h | ⟨h,_⟩
  . exact h
  . cases h
 | y::r,cs,h=>by
  rw [List.foldl_cons]
  refine zjp r _ ?_
  have mono:(∃ c,cs.lookup x=some c)->∃ c,(zdK cells cs y).lookup x=some c:=λ ⟨c,hc⟩=>by
    unfold zdK
    by_cases hk:(y.2 == NameKind.free)=true
    . rw [if_pos hk]
      cases e:cells.lookup y.1 with
      | none=>exact ⟨c,hc⟩
      | some a =>
       show ∃ c,List.lookup x ((y.1,a)::cs)=some c
       rw [List.lookup_cons]
       by_cases hx:(x == y.1)=true
       . rw [hx]; exact ⟨a,rfl⟩
       . have hx':(x == y.1)=false:=by simpa using hx
         rw [hx']; exact ⟨c,hc⟩
    . rw [if_neg hk]; exact ⟨c,hc⟩
  rcases h with h | ⟨h1,c,h2⟩
  . exact .inl (mono h)
  . rcases List.mem_cons.mp h1 with z | z
    . refine .inl ⟨c,?_⟩
      rw [<-z]
      unfold zdK
      show List.lookup x (if (NameKind.free == NameKind.free)=true then (match cells.lookup x with | some a=>(x,a)::cs | none=>cs) else cs)=some c
      rw [if_pos (show (NameKind.free == NameKind.free)=true from rfl),h2]
      show List.lookup x ((x,c)::cs)=some c
      rw [List.lookup_cons]; simp
    . exact .inr ⟨z,c,h2⟩
theorem zeA {scope:Scope} {env:Env} {x:Str} {k:NameKind} (h:(relabel scope env).names.lookup x=some k):scope.names.lookup x=some k\/(k=.cell/\scope.names.lookup x=some .free):=by
 unfold relabel at h
 dsimp only at h
 generalize scope.names=l at h ⊢
 induction l with
 | nil=>cases h
 | cons y r ih =>
  obtain ⟨n,kk⟩:=y
  rw [List.map_cons,List.lookup_cons] at h
  rw [List.lookup_cons]
  dsimp only at h
  by_cases hc:(kk == NameKind.free && env.scope.kind == .function && env.kindOf n == some .cell)=true
  . rw [if_pos hc] at h
    by_cases hx:(x == n)=true
    . dsimp only at h
      rw [hx] at h ⊢
      simp only [Bool.and_eq_true,beq_iff_eq] at hc
      exact .inr ⟨(Option.some.inj h).symm,by rw [hc.1.1]⟩
    . have hx':(x == n)=false:=by simpa using hx
      dsimp only at h
      rw [hx'] at h ⊢
      exact ih h
  . rw [if_neg hc] at h
    by_cases hx:(x == n)=true
    . dsimp only at h
      rw [hx] at h ⊢
      exact .inl h
    . have hx':(x == n)=false:=by simpa using hx
      dsimp only at h
      rw [hx'] at h ⊢
      exact ih h
theorem zj1 {scope:Scope} {env:Env} {x:Str} (h:scope.names.lookup x=some .free):(relabel scope env).names.lookup x=some .cell\/(relabel scope env).names.lookup x=some .free:=by
 unfold relabel
 dsimp only
 generalize scope.names=l at h ⊢
 induction l with
 | nil=>cases h
 | cons y r ih =>
  obtain ⟨n,kk⟩:=y
  rw [List.map_cons,List.lookup_cons]
  rw [List.lookup_cons] at h
  dsimp only
  by_cases hx:(x == n)=true
  . rw [hx] at h
    have hk:kk=.free:=Option.some.inj h
    by_cases hc:(kk == NameKind.free && env.scope.kind == .function && env.kindOf n == some .cell)=true
    . rw [if_pos hc]; dsimp only; rw [hx]; exact .inl rfl
    . rw [if_neg hc]; dsimp only; rw [hx,hk]; exact .inr rfl
  . have hx':(x == n)=false:=by simpa using hx
    rw [hx'] at h
    by_cases hc:(kk == NameKind.free && env.scope.kind == .function && env.kindOf n == some .cell)=true
    . rw [if_pos hc]; dsimp only; rw [hx']; exact ih h
    . rw [if_neg hc]; dsimp only; rw [hx']; exact ih h
def cxB (X:Cx) (Nc:List Str) (scope:Scope) (C:Addr) (fp:List Addr) (s:Shared) (H:Hp):Cx where
 prog:=X.prog
 w:=X.w
 K:=X.K
 mg:=X.mg
 base:=X.base
 A:=X.A
 N:=Nc
 s₀:=s
 H₀:=H
 env:=compEnvC scope (clOf scope X.env.cells) C X.env
 outer:=X.stack
 stack:=X.stack
 ex:=fp
 fn:=λ _=>false
 calm:=true
 pn:=[]
 xe:=λ _ _=>False
structure Blk (X:Cx) (scope:Scope) (own:Nat) (ix:List Nat) (Nc:List Str):Prop where
 kind:scope.kind=.function
 zqr:∀ y∈scope.names,y.2≠.cell
 names:∀ y∈scope.names,y.2=.local->scope.names.lookup y.1=some .local
 free:∀ y∈scope.names,y.2=.free->X.env.kindOf y.1=some .cell\/X.env.kindOf y.1=some .free
 nd:Nc.Nodup
 len:Nc.length=own+ix.length
 cap:∀ (i j:Nat) (x:Str),Nc[own+i]?=some x->ix[i]?=some j->X.N[j]?=some x/\scope.names.lookup x=some .free/\(X.env.kindOf x=some .cell\/X.env.kindOf x=some .free)
def zc3 (own:Nat) (ix:List Nat) (σ:St):St:=List.replicate own none++ix.map λ j=>(σ[j]?).join
section
variable {X:Cx} {pins:List (Addr×Obj)} {σ:St} {H H':Hp} {s:Shared} {scope:Scope} {own:Nat} {ix:List Nat} {Nc:List Str} {C D:Addr} {fp:List Addr}
theorem Inv.blk {h1:Heap} {t1:Nat} {m1:Str->Option Value} (I:Inv X pins σ H s) (hc:X.calm=true) (B:Blk X scope own ix Nc) (hf:∀ b∈fp,FpOk X pins H b) (hfo:∀ b∈fp,∃ o,s.heap.get? b=some o)
   (hn:h1.Ns C m1) (k:∀ b u,s.heap.get? b=some u->h1.get? b=some u) (hC:s.heap.objs.size<=C):Inv (cxB X Nc scope C fp s H) [] (zc3 own ix σ) H { s with heap:=h1,toks:=t1 }:=by
 have snd:∀ x c,(clOf scope X.env.cells).lookup x=some c->X.env.cells.lookup x=some c:=λ x c e=>zgL scope.names [] (λ _ z=>by cases z) e
 have lt:∀ b∈fp,b < s.heap.objs.size:=λ b hb=>by obtain ⟨o,e⟩:=hfo b hb; exact Heap.lt_size e
 refine ⟨⟨I.ok.mod,B.kind,I.ok.glob,I.ok.blt,hC,λ x y c e1 e2=>I.ok.inj x y c (snd x c e1) (snd y c e2),λ x hx=>?_,λ x c e=>(by cases e),λ _=>I.ok.hd hc,I.ok.frames,.inl rfl,λ b hb=>⟨?_,λ x c e=>?_⟩,I.bs,Nat.le_trans I.ok.bsz I.sz,λ b o e hb=>?_,λ b hb hb2=>?_,I.stack,I.zgP⟩,
   rfl,I.bare,Un.kept k,⟨m1,hn,λ i x v e1 e2 e3=>?_⟩,λ x c e=>?_,I.hok.fresh hC,λ x c e=>I.zdQ x c (snd x c e),λ p hp=>(by cases hp),I.hok.kept k,?_⟩
 . have hx':(relabel scope X.env).names.lookup x=some .cell\/(relabel scope X.env).names.lookup x=some .free:=hx
   have hfr:scope.names.lookup x=some .free:=by
     rcases hx' with z | z
     . rcases zeA z with q | ⟨_,q⟩
       . exact absurd rfl (B.zqr _ (PySem.mem_of_lookup q))
       . exact q
     . rcases zeA z with q | ⟨q,_⟩
       . exact q
       . cases q
   have hm:=PySem.mem_of_lookup hfr
   exact zjp scope.names [] (.inr ⟨hm,I.ok.has x (B.free _ hm rfl)⟩)
 . exact Nat.ne_of_lt (Nat.lt_of_lt_of_le (lt b hb) hC)
 . exact (hf b hb).2.2.2.2.1 x c (snd x c e)
 . rcases (hf b hb).2.2.2.1 with z | z
   . exact I.ok.noex b o e z
   . exact absurd (Nat.lt_of_lt_of_le (Heap.lt_size (I.ok.bs b o e).1) z) (Nat.lt_irrefl _)
 . obtain ⟨_,f1,f2,_⟩:=hf b hb
   rcases List.mem_cons.mp (I.zml b hb2) with z | z
   . exact f1 z
   . exact f2 z
 . have hlt:¬ i < own:=λ hi=>by
     have e2':(zc3 own ix σ)[i]?=some (some v):=e2
     unfold zc3 at e2'
     rw [List.getElem?_append_left (by simpa using hi),List.getElem?_replicate] at e2'
     rw [if_pos hi] at e2'
     cases e2'
   obtain ⟨j,rfl⟩:∃ j,i=own+j:=⟨i - own,by omega⟩
   have e2':(zc3 own ix σ)[own+j]?=some (some v):=e2
   unfold zc3 at e2'
   rw [List.getElem?_append_right (by simp),List.length_replicate,Nat.add_sub_cancel_left,List.getElem?_map] at e2'
   cases hj:ix[j]? with
   | none=>rw [hj] at e2'; cases e2'
   | some q =>
     rw [hj] at e2'
     have e4:(σ[q]?).join=some v:=Option.some.inj e2'
     have e5:σ[q]?=some (some v):=by
       cases hq:σ[q]? with
       | none=>rw [hq] at e4; cases e4
       | some o=>rw [hq] at e4; exact congrArg some e4
     obtain ⟨g1,g2,g3⟩:=B.cap j q x e1 hj
     obtain ⟨m,hm,hl⟩:=I.loc
     obtain ⟨u,ru,lk⟩:=hl q x v g1 e5 (g3.elim (λ z=>.inr (.inl z)) λ z=>.inr (.inr z))
     refine ⟨u,ru,.inr ⟨zj1 g2,?_⟩⟩
     rcases lk with ⟨z,_⟩ | ⟨_,c,ec,o,ho,hd⟩
     . rcases g3 with y | y <;> rw [z] at y <;> cases y
     . obtain ⟨c',ec'⟩:=zjp (cells:=X.env.cells) scope.names [] (.inr ⟨PySem.mem_of_lookup g2,c,ec⟩)
       have:c'=c:=Option.some.inj ((snd x c' ec').symm.trans ec)
       subst this
       exact ⟨c',ec',o,k _ _ ho,hd⟩
 . obtain ⟨v,o,ho,hd⟩:=I.cell x c (snd x c e)
   exact ⟨v,o,k _ _ ho,hd⟩
 . show (List.replicate own none++ix.map λ j=>(σ[j]?).join).length=Nc.length
   rw [List.length_append,List.length_replicate,List.length_map,B.len]
abbrev lstO (its:List Value):Obj:=LCg.lst its
theorem Inv.zsD {s':Shared} {pins':List (Addr×Obj)} {σ':St} {ys:List V} {its:List Value} (I:Inv X pins σ H s) (hf:∀ b∈fp,FpOk X pins H b)
   (J:Inv (cxB X Nc scope C fp s H) pins' σ' H' s') (hD:s.heap.objs.size<=D) (hDo:s'.heap.get? D=some (lstO its)) (hDn:H' D=none) (r:Vals ys its) (hz:ys.length<=sizeLine) :
   Inv X pins σ (upd H' D (.lst ys)) s':=by
 have old:∀ b o,s.heap.get? b=some o->b≠D:=λ b o e=>Nat.ne_of_lt (Nat.lt_of_lt_of_le (Heap.lt_size e) hD)
 have trd:∀ b u,H b=some u->b≠D:=λ b u e=>Nat.ne_of_lt (Nat.lt_of_lt_of_le (I.hok.lt e) hD)
 refine I.zrw (ch:=fp) J.os ⟨λ b o q n hb hx=>J.base.keep b o q n hb hx,λ b o q n hb hx=>J.base.slot b o q n hb hx,λ b o q n hx=>?_,λ b o q hx=>J.base.there b o q hx,λ b xs q=>?_,λ b o u q=>?_,λ b ps q=>?_⟩ (λ b u e=>?_) J.bare λ b hb=>?_
 . rw [zae (old b o q)]; exact J.base.free b o q n hx
 . rw [zae (trd b _ q)]; exact J.base.tups b xs q
 . rw [zae (trd b _ q)]; exact J.base.frzs b o u q
 . obtain ⟨more,e⟩:=J.base.tbls b ps q
   exact ⟨more,by rw [zae (trd b _ q)]; exact e⟩
 . by_cases hb:b=D
   . subst hb
     rw [zab] at e
     cases e
     exact ⟨hz,its,its.length,r,hDo⟩
   . rw [zae hb] at e
     exact (J.hok b u e).stay (λ _ _ _ q=>q) (λ c q=>by rw [zae (zaf q hDn)]; exact q) λ c xs q=>by rw [zae (zaf q hDn)]; exact q
 . obtain ⟨_,f1,_,f3,f4,f5⟩:=hf b hb
   exact ⟨f3,f1,f4,f5⟩
end
def zrJ:TT:=λ _ H Q=>Q true H
def PTs (X:Cx) (ifs:List Expr) (t:TT):Prop:=(ifs=[]/\t=zrJ)\/∃ c,ifs=[c]/\PT X c t
theorem zg2 {X:Cx}:PTs X [] zrJ:=.inl ⟨rfl,rfl⟩
theorem zg1 {X:Cx} {c:Expr} {t:TT} (h:PT X c t):PTs X [c] t:=.inr ⟨c,rfl,h⟩
def zsI (X:Cx) (t:TT) (Q:Bool->Shared->Prop) (s:Shared):Prop :=
 ∃ pins σ H Qa,Inv X pins σ H s/\t σ H Qa/\∀ b H' s',Inv X pins σ H' s'->Qa b H'->Q b s'
theorem PTs.by {X:Cx} {ifs:List Expr} {t:TT} (h:PTs X ifs t) (hx:X.xe=NoX):zpp (model X.prog X.w) X.A ifs X.env (zsI X t):=by
 rcases h with ⟨rfl,rfl⟩ | ⟨c,rfl,h⟩
 . exact .inl ⟨rfl,λ Q s ⟨pins,σ,H,Qa,I,q,k⟩=>k true H s I q⟩
 . refine .inr ⟨c,rfl,λ Q s ⟨pins,σ,H,Qa,I,q,k⟩=>?_⟩
   have:=h pins s σ H _ I q
   rw [hx] at this
   exact thn this λ b s' ⟨H',I',z⟩=>k b H' s' I' z
def zih (J:It) (g:TG) (tt:TT) (te:TE) (σ₀:St) (H:Hp) (Fin:List V->Hp->Prop):Prop :=
 ∃ W:Nat->Nat->List V->St->Hp->Prop,(∃ m,W 0 m [] σ₀ H)/\∀ i m ys σ H,W i m ys σ H ->
  (J.stop i H/\Fin ys H)\/(J.go i H/\ys.length < sizeLine/\∀ x H',J.yld i H x H'->g x σ H' λ σ2 H2=>tt σ2 H2 λ b H3 =>
   if b=true then te σ2 H3 λ y H4=>∃ m',m' < m/\W (i+1) m' (ys++[y]) σ2 H4 else ∃ m',m' < m/\W (i+1) m' ys σ2 H3)
section
variable {X:Cx} {scope:Scope} {own:Nat} {ix:List Nat} {Nc:List Str} {target iter elt:Expr} {ifs:List Expr} {pos:Pos} {wi:TI} {g:TG} {tt:TT} {te:TE}
theorem ziE {pins:List (Addr×Obj)} {σ:St} {H2:Hp} {s2:Shared} {it:Addr} {fp:List Addr} {tn:Nat->Heap->Prop} {J:It} {Fin:List V->Hp->Prop} {E:Value->Shared->Prop} {RR:Value->Addr->Result->Shared->Prop}
  (hc:X.calm=true) (B:Blk X scope own ix Nc) (I2:Inv X pins σ H2 s2) (T:Turn X.prog X.w X.K target J fp it tn) (st:tn 0 s2.heap) (hf:∀ b∈fp,FpOk X pins H2 b)
  (hg:∀ C,PG (cxB X Nc scope C fp s2 H2) target g) (ht:∀ C,PTs (cxB X Nc scope C fp s2 H2) ifs tt) (he:∀ C,PE (cxB X Nc scope C fp s2 H2) elt te)
  (hw:zih J g tt te (zc3 own ix σ) H2 Fin)
  (hRR:∀ D C s' ys H' m',Inv X pins σ (upd H' D (.lst ys)) s'->H' D=none->Fin ys H'->s'.heap.Ns C m'->H' C=none->D≠C->s2.heap.objs.size<=C->RR (.ref D) C (.ok .next) s') :
  wpAny (model X.prog X.w) X.A (newList []) (λ acc s₃=>wpAny (model X.prog X.w) X.A (newFunctionEnv scope X.env.globals (clOf scope X.env.cells) [] X.env.qual none .none (some X.env)) (λ cenv s₄ =>
    codeAny (model X.prog X.w) X.A (.compStart (.ListComp elt [⟨target,iter,ifs,0⟩] scope pos) 0 (.ref it) acc { cenv with scope:=relabel scope X.env }) (RR acc cenv.locals) s₄) E s₃) E s2:=by
 refine wpAny_newObj_type (wpAny_newFunctionEnv B.zqr (by intro y hy; simp at hy) (λ h₁ hns₁ hsb₁=>?_) B.kind)
 dsimp only at hns₁ hsb₁ ⊢
 generalize hH2:s2.heap.push { cls:=.type "list",dict:=none,data:=.seq ([]:List Value).toArray }=G2 at hns₁ hsb₁ ⊢
 have hC:G2.objs.size=s2.heap.objs.size+1:=by rw [<-hH2,Heap.size_push]
 have hDC:s2.heap.objs.size≠G2.objs.size:=by rw [hC]; exact Nat.ne_of_lt (Nat.lt_succ_self _)
 have hCle:s2.heap.objs.size<=G2.objs.size:=by rw [hC]; exact Nat.le_succ _
 have below:∀ b,b < s2.heap.objs.size->b≠G2.objs.size/\b≠s2.heap.objs.size:=λ b hb=>⟨by rw [hC]; exact Nat.ne_of_lt (Nat.lt_succ_of_lt hb),Nat.ne_of_lt hb⟩
 have old:∀ b o,s2.heap.get? b=some o->h₁.get? b=some o:=λ b o e=>hsb₁.extBut b o (below b (Heap.lt_size e)).1 (Heap.get?_push_of_some _ (hH2 ▸ Heap.get?_push_of_some _ e))
 have hacc:h₁.get? s2.heap.objs.size=some (lstO []):=hsb₁.extBut _ _ hDC (Heap.get?_push_of_some _ (hH2 ▸ Heap.get?_push_size _ rfl))
 have hfo:∀ b∈fp,∃ o,s2.heap.get? b=some o:=λ b hb=>let ⟨o,e,_⟩:=T.obj 0 _ st b hb; ⟨o,e⟩
 have flt:∀ b∈fp,b < s2.heap.objs.size:=λ b hb=>let ⟨o,e⟩:=hfo b hb; Heap.lt_size e
 have I0:Inv (cxB X Nc scope G2.objs.size fp s2 H2) [] (zc3 own ix σ) H2 { s2 with heap:=h₁,toks:=s2.toks+([]:List (Str×Value)).length }:=I2.blk hc B hf hfo hns₁ old hCle
 have st1:tn 0 h₁:=T.keep 0 _ _ st λ b _ o e=>old b o e
 have hDfs:s2.heap.objs.size∉frs X.stack:=λ z=>by
  obtain ⟨_,o,ho,_⟩:=I2.stack.mem z
  exact absurd (Heap.lt_size ho) (Nat.lt_irrefl _)
 have ffs:∀ b∈fp,b∉frs X.stack:=λ b hb z=>by
  obtain ⟨_,f1,f2,_⟩:=hf b hb
  rcases List.mem_cons.mp (I2.zml b z) with y | y
  . exact f1 y
  . exact f2 y
 have fcl:∀ b∈fp,∀ x c,(clOf scope X.env.cells).lookup x=some c->c≠b:=λ b hb x c e=>(hf b hb).2.2.2.2.1 x c (zgL scope.names [] (λ _ z=>by cases z) e)
 have dcl:∀ x c,(clOf scope X.env.cells).lookup x=some c->c≠s2.heap.objs.size:=λ x c e z=>by
  obtain ⟨v,q⟩:=I2.cell x c (zgL scope.names [] (λ _ z=>by cases z) e)
  exact absurd q.lt (by rw [z]; exact Nat.lt_irrefl _)
 obtain ⟨W,⟨m0,w0⟩,turn⟩:=hw
 have loop:∀ s₃:Shared,s₃={ s2 with heap:=h₁,toks:=s2.toks+([]:List (Str×Value)).length } ->
    codeAny (model X.prog X.w) X.A (.compLoop (.ListComp elt [⟨target,iter,ifs,0⟩] scope pos) 0 (.ref it) (.ref s2.heap.objs.size) (compEnvC scope (clOf scope X.env.cells) G2.objs.size X.env))
     (RR (.ref s2.heap.objs.size) G2.objs.size) s₃:=by
  rintro s₃ rfl
  refine zkL ((ht G2.objs.size).by rfl) (λ n s'=>∃ i ys its σ' H',Inv (cxB X Nc scope G2.objs.size fp s2 H2) [] σ' H' s'/\tn i s'.heap/\(∀ b∈fp,H' b=none)/\s'.heap.get? s2.heap.objs.size=some (lstO its)/\H' s2.heap.objs.size=none/\Vals ys its/\ys.length<=sizeLine/\W i n ys σ' H')
    ?_ m0 ⟨0,[],[],_,H2,I0,st1,λ b hb=>(hf b hb).1,hacc,I2.hok.fresh (Nat.le_refl _),.nil,Nat.zero_le _,w0⟩
  rintro n s3 ⟨i,ys,its,σ3,H3,I3,st3,fr3,hD3,nD3,r3,z3,w3⟩
  have Ip:Inv (cxB X Nc scope G2.objs.size fp s2 H2) [(s2.heap.objs.size,lstO its)] σ3 H3 s3:=I3.zg4 λ p hp=>by
    have e:p=(s2.heap.objs.size,lstO its):=by simpa using hp
    subst e
    exact ⟨hD3,nD3,hDC,hDfs,λ v z=>by cases z⟩
  have fpk:∀ {H':Hp},(∀ b∈fp,H' b=none)->∀ b∈fp,FpOk (cxB X Nc scope G2.objs.size fp s2 H2) [(s2.heap.objs.size,lstO its)] H' b:=λ hn b hb =>
    ⟨hn b hb,(below b (flt b hb)).1,ffs b hb,.inl hb,fcl b hb,λ p hp=>by
     have hp':p∈([]:List (Addr×Obj))++[(s2.heap.objs.size,lstO its)]:=hp
     have e:p=(s2.heap.objs.size,lstO its):=by simpa using hp'
     subst e
     exact Ne.symm (below b (flt b hb)).2⟩
  rcases turn i n ys σ3 H3 w3 with ⟨stop,fin⟩ | ⟨go,hlen,step⟩
  . refine thn (T.done (cxB X Nc scope G2.objs.size fp s2 H2) rfl rfl rfl rfl i _ s3 σ3 H3 NoX Ip (fpk fr3) st3 stop) λ r s4 ⟨hr,I4⟩=>.inl ⟨hr,?_⟩
    obtain ⟨m4,n4,_⟩:=I4.loc
    have pD:=I4.pin (s2.heap.objs.size,lstO its) (by simp)
    exact hRR _ _ s4 ys H3 m4 (I2.zsD hf I4 (Nat.le_refl _) pD.1 nD3 r3 z3) nD3 fin n4 I4.free hDC hCle
  . refine thn (T.item (cxB X Nc scope G2.objs.size fp s2 H2) rfl rfl rfl rfl i _ s3 σ3 H3 NoX Ip (fpk fr3) st3 go) λ r s4 ⟨u,hr,h4⟩=>.inr ⟨u,hr,?_⟩
    refine thn h4 λ _ s5 ⟨x,H5,I5,r5,y5,st5,fr5⟩=>?_
    have I5':=I5.pinned (fpk fr5) (T.obj _ _ st5)
    have keepT:∀ {σ8:St} {H8:Hp} {s8:Shared},Inv (cxB X Nc scope G2.objs.size fp s2 H2) ([(s2.heap.objs.size,lstO its)]++zj2 fp s5.heap) σ8 H8 s8->tn (i+1) s8.heap/\(∀ b∈fp,H8 b=none)/\s8.heap.get? s2.heap.objs.size=some (lstO its)/\H8 s2.heap.objs.size=none:=λ {σ8 H8 s8} I8=>by
     have pin8:∀ b∈fp,∀ o,s5.heap.get? b=some o->s8.heap.get? b=some o/\H8 b=none:=λ b hb o e=>by
      have:=I8.pin (b,o) (List.mem_append_right _ (List.mem_append_right _ (zfT hb e)))
      exact ⟨this.1,this.2.1⟩
     have pD:=I8.pin (s2.heap.objs.size,lstO its) (by simp)
     refine ⟨T.keep _ _ _ st5 λ b hb o e=>(pin8 b hb o e).1,λ b hb=>?_,pD.1,pD.2.1⟩
     obtain ⟨o,e,_⟩:=T.obj _ _ st5 b hb
     exact (pin8 b hb o e).2
    refine thn (hg _ _ s5 σ3 H5 x u _ I5' r5 (step x H5 y5)) λ _ s6 ⟨σ6,H6,I6,q6⟩=>⟨_,σ6,H6,_,I6,q6,λ b H7 s7 I7 q7=>?_⟩
    cases b with
    | false =>
     rw [if_neg Bool.false_ne_true] at q7 ⊢
     obtain ⟨m',hm,w7⟩:=q7
     obtain ⟨k1,k2,k3,k4⟩:=keepT I7
     exact ⟨m',hm,i+1,ys,its,σ6,H7,I7.zg4 (λ p hp=>by cases hp),k1,k2,k3,k4,r3,z3,w7⟩
    | true =>
     rw [if_pos rfl] at q7 ⊢
     refine thn (he _ _ s7 σ6 H7 _ I7 q7) λ v s8 ⟨y,H8,I8,r8,m',hm,w8⟩=>?_
     obtain ⟨k1,k2,k3,k4⟩:=keepT I8
     have il:its.length=ys.length:=r3.length.symm
     refine append_at (hsz:=by show its.toArray.size<=sizeLine; rw [List.size_toArray,il]; exact z3) k3 λ h9 hs9 hD9=>?_
     have I9:Inv (cxB X Nc scope G2.objs.size fp s2 H2) [] σ6 H8 { s8 with heap:=h9 }:=Inv.turned (t':=s8.toks) (it:=s2.heap.objs.size) (I8.zg4 (pins':=[]) λ p hp=>by cases hp) (λ b o hb e=>(hs9.2 b hb).trans e) k4 hDC (.inr (Nat.le_refl _)) dcl λ p hp=>by cases hp
     refine ⟨m',hm,i+1,ys++[y],its++[v],σ6,H8,I9,T.keep _ _ _ k1 λ b hb o e=>(hs9.2 b (below b (flt b hb)).2).trans e,k2,hD9.trans (congrArg some (LCg.lst_snoc its v)),k4,r3.append (.cons r8 .nil),?_,w8⟩
     rw [List.length_append,List.length_singleton]; exact hlen
 exact codeAny_compStart_list (loop _ rfl) (T.self X.A 0 _ _ _ st1 (loop _ rfl))
def zqP (own:Nat) (ix:List Nat) (wi:TI) (g:TG) (tt:TT) (te:TE):TE:=λ σ H Q=>wi σ H λ J H1=>zih J g tt te (zc3 own ix σ) H1 λ ys H2=>∀ p,H2 p=none->Q (.ref p) (upd H2 p (.lst ys))
theorem zeW (own:Nat) (ix:List Nat) (Nc:List Str) (hc:X.calm=true) (B:Blk X scope own ix Nc) (hi:PI X target iter wi)
  (hg:∀ C fp s H,PG (cxB X Nc scope C fp s H) target g) (ht:∀ C fp s H,PTs (cxB X Nc scope C fp s H) ifs tt) (he:∀ C fp s H,PE (cxB X Nc scope C fp s H) elt te)
  (hs:∀ x,foldedSetIterable iter X.env x=pure x:=by intro _; rfl):PE X (.ListComp elt [⟨target,iter,ifs,0⟩] scope pos) (zqP own ix wi g tt te):=by
 intro pins s σ H Q I h
 rw [eval_ListComp]
 have hcl:closureFor scope X.env=pure (clOf scope X.env.cells):=ziG λ y hy hk=>I.ok.has y.1 (B.free y hy hk)
 refine wpAny_comprehension_free (use:=none) rfl hs hcl B.kind B.names (thn (hi pins s σ H _ I h) λ xv s1 h1=>thn h1 λ itv s2 h2=>?_)
 obtain ⟨it,fp,tn,J,H2,e,I2,T,st2,f2,hw⟩:=h2
 subst e
 refine ziE (RR:=λ acc C=>compPost (model X.prog X.w) X.A X.xe none (EP X pins σ Q) acc C) hc B I2 T st2 f2 (λ C=>hg C fp s2 H2) (λ C=>ht C fp s2 H2) (λ C=>he C fp s2 H2) hw ?_
 intro D C s' ys H' m' J' hD fin hn hC hDC hCle
 refine ⟨m',hn,λ h'' hs''=>⟨.ref D,upd H' D (.lst ys),?_,rfl,fin D hD⟩⟩
 have hCf:=I2.fpOk (H':=upd H' D (.lst ys)) hCle (by rw [zae (Ne.symm hDC)]; exact hC)
 obtain ⟨f0,f1,_,f3,f4,f5⟩:=hCf
 exact Inv.turned (t':=s'.toks) (it:=C) J' (λ b o hb e=>(hs''.2 b hb).trans e) f0 f1 f3 f4 f5
theorem zfQ {i:Nat} {x:Str} {pos' spos:Pos} (own:Nat) (ix:List Nat) (Nc:List Str) (hN:X.N.Nodup) (hxi:X.N[i]?=some x) (hx:Loc X.env.scope x) (hc:X.calm=true) (B:Blk X scope own ix Nc) (hi:PI X target iter wi)
  (hg:∀ C fp s H,PG (cxB X Nc scope C fp s H) target g) (ht:∀ C fp s H,PTs (cxB X Nc scope C fp s H) ifs tt) (he:∀ C fp s H,PE (cxB X Nc scope C fp s H) elt te)
  (hsw:swapsWith (.ListComp elt [⟨target,iter,ifs,0⟩] scope pos) (some (.Name x pos')) spos.line X.env=pure true:=by rfl)
  (hs:∀ x,foldedSetIterable iter X.env x=pure x:=by intro _; rfl) (hf:X.fn x=true\/X.env.scope.names.lookup x=some .local:=by first | exact .inl rfl | exact .inr rfl | assumption) :
  PS X (.Assign [.Name x pos'] (.ListComp elt [⟨target,iter,ifs,0⟩] scope pos) spos) (tAsg (zqP own ix wi g tt te) (zp6 i)):=by
 intro pins s σ H DD I h
 rw [exec_Assign_Name_used _ _ _ _ hsw]
 refine wpAny_bind (wpAny_standAt (wpAny_bind ?_))
 show wpAny _ X.A (do let _ <-comprehension (.ListComp elt [⟨target,iter,ifs,0⟩] scope pos) scope X.env _ (newList []) false (eval iter X.env) (some (assign (.Name x pos') X.env))) _ _ s
 have hcl:closureFor scope X.env=pure (clOf scope X.env.cells):=ziG λ y hy hk=>I.ok.has y.1 (B.free y hy hk)
 refine wpAny_bind (wpAny_mono (wpAny_comprehension_free (use:=some (assign (.Name x pos') X.env)) (Q:=λ _ s'=>SP X pins DD .next s') rfl hs hcl B.kind B.names
  (thn (hi pins s σ H _ I h) λ xv s1 h1=>thn h1 λ itv s2 h2=>?_)) (λ _ s' hq=>wpAny_pure (wpAny_pure hq)) λ _ _ e=>e)
 obtain ⟨it,fp,tn,J,H2,e,I2,T,st2,f2,hw⟩:=h2
 subst e
 refine ziE (RR:=λ acc C=>compPost (model X.prog X.w) X.A X.xe (some (assign (.Name x pos') X.env)) (λ _ s'=>SP X pins DD .next s') acc C) hc B I2 T st2 f2 (λ C=>hg C fp s2 H2) (λ C=>ht C fp s2 H2) (λ C=>he C fp s2 H2) hw ?_
 intro D C s' ys H' m' J' hD fin hn hC hDC hCle
 have hCf:=I2.fpOk (H':=upd H' D (.lst ys)) hCle (by rw [zae (Ne.symm hDC)]; exact hC)
 obtain ⟨f0,f1,_,f3,f4,f5⟩:=hCf
 show wpAny _ X.A (assign (.Name x pos') X.env (.ref D)) _ _ s'
 refine wpAny_assign_Name (zjJ (v:=V.ref D) J' hN hxi hx rfl (λ s3 I3 ⟨a,sb,ha⟩=>?_) hf)
 have hCa:C≠a:=by
  rcases ha with z | z
  . rw [z]; exact f1
  . exact Ne.symm (f4 x a z)
 refine ⟨m',hn.sameBut sb hCa,λ h'' hs''=>⟨_,upd H' D (.lst ys),?_,fin D hD⟩⟩
 exact Inv.turned (t':=s3.toks) (it:=C) I3 (λ b o hb e=>(hs''.2 b hb).trans e) f0 f1 f3 f4 f5
end
end L2
end
section
namespace L2
open PySem PySem.Spec PyProof.Rows PySem.W
theorem zbP.there {P:Program} {w:World} {H:Hp} {h:Heap} {a:Addr} {o:HO} (x:zbP P w H h a o):∃ ob,h.get? a=some ob:=by
 cases o with
 | lst _=>obtain ⟨_,_,_,_,e⟩:=x; exact ⟨_,e⟩
 | tup _=>obtain ⟨_,_,_,ob,e,_⟩:=x; exact ⟨ob,e⟩
 | dK _=>obtain ⟨_,_,_,_,ob,_,_,e,_⟩:=x; exact ⟨ob,e⟩
 | dT _=>obtain ⟨_,_,_,_,ob,_,_,e,_⟩:=x; exact ⟨ob,e⟩
 | set _ _=>obtain ⟨ob,_,_,_,e,_⟩:=x; exact ⟨ob,e⟩
 | ins _ _ _=>obtain ⟨_,_,_,e,_⟩:=x; exact ⟨_,e⟩
 | own _=>exact x
 | xd _=>obtain ⟨_,⟨ob,_,_,e,_⟩,_⟩:=x; exact ⟨ob,e⟩
 | rng _ _=>obtain ⟨_,_,_,e⟩:=x; exact ⟨_,e⟩
 | frz ob _=>exact ⟨ob,x.1⟩
 | tbl _=>exact ⟨_,x⟩
 | met _ _=>exact ⟨_,x⟩
 | ext _=>exact x.2.1
theorem Un.fly {fs:List Addr} {H H':Hp} {h h1 h2 B:Heap} (u:Un fs [] H H' h h1)
  (hB:∀ b o,h1.get? b=some o->b∉fs->((∃ o',h.get? b=some o')\/∃ v,H' b=some v)->B.get? b=some o) (hs:B.StaysIn h2) (sl:h1.UpToSlots h2)
  (hfs:∀ b∈fs,∀ o,h1.get? b=some o->∀ vs,o.data≠.fields vs):Un fs [] H H' h h2 where
 keep:=λ b o q n hb hx=>hs b o (hB b o (u.keep b o q n hb hx) hb (.inl ⟨o,q⟩))
 slot:=λ b o q n hb hx=>by
  obtain ⟨s1,e1⟩:=u.slot b o q n hb hx
  obtain ⟨s2,e2⟩:=sl b _ e1 (hfs b hb _ e1)
  exact ⟨s2,e2⟩
 free:=u.free
 there:=λ b o q hx=>by
  obtain ⟨o1,e1⟩:=u.there b o q hx
  by_cases hb:b∈fs
  . obtain ⟨s2,e2⟩:=sl b _ e1 (hfs b hb _ e1)
    exact ⟨_,e2⟩
  . exact ⟨o1,hs b o1 (hB b o1 e1 hb (.inl ⟨o,q⟩))⟩
 tups:=u.tups
 frzs:=u.frzs
 tbls:=u.tbls
theorem HOk.fly {P:Program} {w:World} {fs:List Addr} {H':Hp} {h1 h2 B:Heap} (x:HOk P w H' h1) (hB:∀ b o,h1.get? b=some o->b∉fs->(∃ v,H' b=some v)->B.get? b=some o) (hs:B.StaysIn h2) (hf:∀ b∈fs,H' b=none):HOk P w H' h2:=λ a o e =>
 (x a o e).stay (λ b u hb q=>by
  have tr:∃ v,H' b=some v:=by
   rcases hb with rfl | hb
   . exact ⟨o,e⟩
   . exact ⟨_,hb⟩
  have nf:b∉fs:=λ z=>by
   obtain ⟨v,hv⟩:=tr
   rw [hf b z] at hv; cases hv
  exact hs b u (hB b u q nf tr)) (λ _ q=>q) λ _ _ q=>q
def CX1 (P:Program) (w:World):CXT:=λ outer H s E e s'=>∃ (ex C t:Addr) (B:Heap) (H':Hp),e=.ref ex/\s'.os=s.os/\AllBare s'.gens/\Un (frs outer) [] H H' s.heap s'.heap/\HOk P w H' s'.heap /\
 (∀ b o,s'.heap.get? b=some o->b∉frs outer->((∃ o',s.heap.get? b=some o')\/∃ v,H' b=some v)->B.get? b=some o)/\Heap.FlyingW B outer ex (.ref C) (.ref t) s'.heap/\E (.ref C) none H'
def Raises (X:Cx) (E:XK):Prop:=∀ (pins:List (Addr×Obj)) (σ:St) (H:Hp) (s:Shared) (e C:Addr) (h':Heap) (vs:List Value),Inv X pins σ H s->Heap.MadeExcOf s.heap h' e (.ref C) vs->E (.ref C) none H->X.xe (.ref e) { s with heap:=h' }
section
variable {P:Program} {w:World} {K:Frag} {mg:Str->Option Value} {base:Heap} {N:List Str} {qual:Str} {scope:Scope} {f:Addr} {cd:Value} {A:Around} {outer:List Env} {s₀:Shared} {H₀:Hp} {E:XK}
theorem zg0:Raises (cxOf (CX1 P w) P w K mg base N qual scope f cd A outer s₀ H₀ E) E:=by
 intro pins σ H s e C h' vs I hx hE
 have hmem:∀ env∈(envOfC qual scope s₀.heap.objs.size f cd::outer),∀ b,env.frame=some b->b∈frs (envOfC qual scope s₀.heap.objs.size f cd::outer):=λ env he b hb=>List.mem_filterMap.mpr ⟨env,he,hb⟩
 refine wpAny_leaves_madeW (base:=hideAll s.heap (frs (envOfC qual scope s₀.heap.objs.size f cd::outer))) (h:=s.heap) I.ok.frames rfl (λ b o q=>of_hideAll _ q) (funFrames_hide I.stack hmem) hx λ h2 t fly _ _ sl=>?_
 have keep:∀ b o,s.heap.get? b=some o->b∉frs (envOfC qual scope s₀.heap.objs.size f cd::outer)->h2.get? b=some o:=λ b o q nb=>fly.1 b o (hideAll_get _ q nb)
 have sub:∀ b,b∈frs (envOfC qual scope s₀.heap.objs.size f cd::outer)->b=s₀.heap.objs.size\/b∈frs outer:=λ b hb=>by
  rcases List.mem_cons.mp (show b∈s₀.heap.objs.size::frs outer from hb) with z | z
  . exact .inl z
  . exact .inr z
 have nb:∀ b,b∉frs outer->((∃ o',s₀.heap.get? b=some o')\/∃ v,H b=some v)->b∉frs (envOfC qual scope s₀.heap.objs.size f cd::outer):=λ b h1 h2 hb=>by
  rcases sub b hb with z | z
  . rcases h2 with ⟨o',q⟩ | ⟨v,q⟩
    . rw [z] at q; exact absurd (Heap.lt_size q) (Nat.lt_irrefl _)
    . have:=I.free
      have this':H s₀.heap.objs.size=none:=this
      rw [z,this'] at q; cases q
  . exact h1 z
 have hB:∀ b o,s.heap.get? b=some o->b∉frs outer->((∃ o',s₀.heap.get? b=some o')\/∃ v,H b=some v)->(hideAll s.heap (frs (envOfC qual scope s₀.heap.objs.size f cd::outer))).get? b=some o:=λ b o q h1 h2=>hideAll_get _ q (nb b h1 h2)
 have sl':s.heap.UpToSlots h2:=(Heap.UpToSlots.of_keeps hx.keeps).trans sl
 have hfs:∀ b∈frs outer,∀ o,s.heap.get? b=some o->∀ vs,o.data≠.fields vs:=λ b hb o q=>by
  have hb':b∈frs (envOfC qual scope s₀.heap.objs.size f cd::outer):=List.mem_cons_of_mem s₀.heap.objs.size hb
  obtain ⟨_,o',q',hd⟩:=I.stack.mem hb'
  rw [q] at q'; cases q'
  exact hd
 refine ⟨e,C,t,_,H,rfl,I.os,I.bare,(show Un (frs outer) [] H₀ H s₀.heap s.heap from I.base).fly hB fly.1 sl' hfs,HOk.fly (fs:=frs outer) I.hok (λ b o q h1 h2=>hB b o q h1 (.inr h2)) fly.1 (λ b hb=>I.zgP b (List.mem_cons_of_mem s₀.heap.objs.size hb)),λ b o q h1 h2=>?_,fly,hE⟩
 have ⟨o1,e1⟩:∃ o1,s.heap.get? b=some o1:=by
  rcases h2 with ⟨o',q'⟩ | ⟨v,q'⟩
  . exact I.base.there b o' q' (by intro z; cases z)
  . exact (I.hok b v q').there
 have e2:=hB b o1 e1 h1 h2
 have e3:=fly.1 b o1 e2
 have:o=o1:=Option.some.inj (q.symm.trans e3)
 rw [this]; exact e2
theorem zbz:Passes (CX1 P w) (cxOf (CX1 P w) P w K mg base N qual scope f cd A outer s₀ H₀ E) E:=by
 intro pins σ H s e s' I hc
 obtain ⟨ex,C,t,B,H',rfl,os,bare,un,hok,hB,fly,hE⟩:=hc
 have J:Inv (cxOf (CX1 P w) P w K mg base N qual scope f cd A outer s₀ H₀ E) pins σ H' s':=I.zrw (ch:=[]) os un hok bare λ b z=>by cases z
 refine wpAny_leaves_onW I.ok.frames rfl fly λ h2 fly2 sl=>?_
 have toStack:∀ b,b∈frs outer->b∈frs (envOfC qual scope s₀.heap.objs.size f cd::outer):=λ b hb=>List.mem_cons_of_mem s₀.heap.objs.size hb
 have hB':∀ b o,s'.heap.get? b=some o->b∉frs outer->((∃ o',s₀.heap.get? b=some o')\/∃ v,H' b=some v)->B.get? b=some o:=λ b o q h1 h2=>by
  refine hB b o q (λ hb=>?_) (h2.imp (λ ⟨o',q'⟩=>I.base.there b o' q' (λ z=>by cases z)) id)
  rcases List.mem_cons.mp (show b∈s₀.heap.objs.size::frs outer from hb) with z | z
  . rcases h2 with ⟨o',q'⟩ | ⟨v,q'⟩
    . rw [z] at q'; exact absurd (Heap.lt_size q') (Nat.lt_irrefl _)
    . have fr:H' s₀.heap.objs.size=none:=J.free
      rw [z,fr] at q'; cases q'
  . exact h1 z
 have hfs:∀ b∈frs outer,∀ o,s'.heap.get? b=some o->∀ vs,o.data≠.fields vs:=λ b hb o q=>by
  obtain ⟨_,o',q',hd⟩:=J.stack.mem (toStack b hb)
  rw [q] at q'; cases q'
  exact hd
 refine ⟨ex,C,t,B,H',rfl,J.os,J.bare,(show Un (frs outer) [] H₀ H' s₀.heap s'.heap from J.base).fly hB' fly2.1 sl hfs,HOk.fly (fs:=frs outer) J.hok (λ b o q h1 h2=>hB' b o q h1 (.inr h2)) fly2.1 (λ b hb=>J.zgP b (toStack b hb)),λ b o q h1 h2=>?_,fly2,hE⟩
 obtain ⟨o1,e1⟩:∃ o1,s'.heap.get? b=some o1:=by
  rcases h2 with ⟨o',q'⟩ | ⟨v,q'⟩
  . exact J.base.there b o' q' (by intro z; cases z)
  . exact (J.hok b v q').there
 have e2:=hB' b o1 e1 h1 h2
 have:o=o1:=Option.some.inj (q.symm.trans (fly2.1 b o1 e2))
 rw [this]; exact e2
end
theorem zrq {K:Frag} {h:Heap} {C:Addr} {bmB:List Value} {newId:String} (X:K.In h) (q:excIn K C bmB newId=true) :
  ∃ bm N nm qn bs hd sn sub ab col dd k0 k1 k2 k3 k5 mN,h.get? C=some (excClassObj nm qn C N bs bm hd sn sub ab col dd k0 k1 k2 k3 k5 newId)/\h.Ns N mN/\mN "__init__" = none/\OwnTail h bmB bm:=by
 unfold excIn at q
 split at q
 case h_2=>cases q
 case h_1 dd cd sl ho =>
  split at q
  case h_2=>cases q
  case h_1 C' bm k0 k1 k2 k3 n k5 hm hs =>
   simp only [Bool.and_eq_true,beq_iff_eq,Bool.not_eq_true'] at q
   obtain ⟨⟨⟨⟨⟨e1,e2⟩,hdel⟩,tl⟩,ok⟩,ni⟩:=q
   subst e1 e2
   obtain ⟨nm,bs,mro,ns,qn,hdc,sn,sub,ab,col,del⟩:=cd
   simp only at hm hdel ok ni
   subst hm hdel
   have es:sl=#[k0,k1,k2,k3,some (.builtin n),k5]:=by
    cases sl with
    | mk l=>simp only at hs; rw [hs]
   subst es
   exact ⟨bm,ns,nm,qn,bs,hdc,sn,sub,ab,col,dd,k0,k1,k2,k3,k5,_,X _ _ ho,.of_isNs (isNs_of_in X ok),nsMap_none_of_in X ok ni,tail_of_in X tl⟩
def znS (C:Addr) (E:XK) (t:TA):TS:=λ _ σ H=>t σ H λ vs H1=>vs.length<=sizeLine/\E (.ref C) none H1
section
variable {X:Cx} {E:XK} {x:Str} {C:Addr} {e₀:Expr} {rest:List Expr} {t:TA} {np cpos pos:Pos} {B newId initId:String} {bm:List Value}
theorem ziT (hr:Raises X E) (hc:X.calm=true) (hg:Gl X x) (hm:X.mg x=some (.ref C)) (q:excIn X.K C bm newId=true) (FB:ExcBaseFacts B newId initId bm) (ha:PA X (e₀::rest) t)
  (hd:(x == ("__debug__" : Str))=false:=by decide) (he:starEach (e₀::rest) X.env=(false,eval e₀ X.env)::starEach rest X.env:=by rfl) (hpl:(backTo cpos (starEach rest X.env)).any (·.1)=false:=by rfl) :
  PS X (.Raise (some (.Call (.Name x np) (e₀::rest) [] cpos)) none pos) (znS C E t):=by
 intro pins s σ H D I h
 obtain ⟨tl,N,nm,qn,bs,hdc,sn,sub,ab,col,dd,k0,k1,k2,k3,k5,mN,hC,hN,hni,T⟩:=zrq I.ok.mod.kin q
 have hb:(backTo cpos (starEach (e₀::rest) X.env)).any (·.1)=false:=by
  rw [he]
  show (false || (backTo cpos (starEach rest X.env)).any (·.1))=false
  rw [hpl]; rfl
 refine wpAny_Raise_call_subT (C:=C) (nm:=nm) (q:=qn) (N:=N) (bs:=bs) (bm:=tl) (hdct:=hdc) (sn:=sn) (sub:=sub) (ab:=ab) (col:=col) (dd:=dd) (k0:=k0) (k1:=k1) (k2:=k2) (k3:=k3) (k5:=k5) FB (mN:=mN) (T.hasType FB.hasBase) (I.ok.hd hc) hb hni (zfW I hg hm ⟨rfl,?_⟩ hd)
 have hp:=ha cpos pins s σ H _ I h
 rw [he] at hp ⊢
 refine Calls.evalArgs_plain (thn hp λ us s1 ⟨vs,H1,I1,r1,z,hE⟩=>?_)
 exact ⟨rfl,by rw [<-r1.length]; exact z,I1.bk _ _ hC,hN.keeps I1.bk,T.keeps I1.bk,λ h' e mk=>hr pins σ H1 s1 e C h' us I1 mk hE⟩
end
theorem PS.nox {X:Cx} {st:Stmt} {t:TS} (h:PS X.nox st t):PS X st t:=λ pins s σ H D I hw =>
 wpAny_mono (h pins s σ H D (I.wish _) hw) (λ _ _ q=>SP.ze7 q) λ _ _ z=>z.elim
theorem Fun.okX {K:Frag} {P:Program} {w:World} {mg:Str->Option Value} {base:Heap} {x qual:Str} {st:Stmt} {f:Addr} {fd:FuncData} {N ps:List Str} {k:Nat} {sp:Sp} (F:Fun K x qual st f fd) (S:zaq N ps (zaj st))
  (len:∀ vs H Q E,sp vs H Q E->vs.length=ps.length)
  (hb:∀ (cdv:Value) (A:Around) (outer:List Env) (s:Shared) (H:Hp) (vs:List V) (Q:VK) (E:XK),Room k (A.deeper (envOfC qual (zaj st) s.heap.objs.size f cdv))->sp vs H Q E ->
   ∃ t,PSs (cxOf (CX1 P w) P w K mg base N qual (zaj st) f cdv A outer s H E) (zhC st) t/\t { nx:=λ _ H'=>Q .non H',rt:=Q } (start N vs) H) :
  FnOk P w K mg base (CX1 P w) (k+1) f fd ps sp:=by
 obtain ⟨oc,od,kV,doc,pm,an,cdv,ct,osl,rfl,lk,hcd⟩:=F.ex
 exact ztb lk hcd S len (hb cdv)
abbrev EF:XK:=λ _ _ _=>False
theorem zaD {X:Cx}:Passes (CX1 X.prog X.w) X EF:=λ _ _ _ _ _ _ _ ⟨_,_,_,_,_,_,_,_,_,_,_,_,h⟩=>h.elim
def cxH (X:Cx) (e:Value):Cx:={ X with A:=X.A.mark (some e),calm:=false,xe:=NoX }
theorem Inv.toH {X:Cx} {pins:List (Addr×Obj)} {σ:St} {H:Hp} {s:Shared} {e:Value} (I:Inv X pins σ H s):Inv (cxH X e) pins σ H s :=
 ⟨⟨I.ok.mod,I.ok.kind,I.ok.glob,I.ok.blt,I.ok.above,I.ok.inj,I.ok.has,I.ok.cab,λ z=>(by cases z),I.ok.frames,I.ok.stk,I.ok.exf,I.ok.bs,I.ok.bsz,I.ok.noex,I.ok.exfs,I.ok.funs,I.ok.frf⟩,I.os,I.bare,I.base,I.loc,I.cell,I.free,I.zdQ,I.pin,I.hok,I.len⟩
theorem Inv.ofH {X:Cx} {pins:List (Addr×Obj)} {σ:St} {H:Hp} {s:Shared} {e:Value} {pins0:List (Addr×Obj)} {σ0:St} {H0:Hp} {s0:Shared} (I0:Inv X pins0 σ0 H0 s0) (I:Inv (cxH X e) pins σ H s):Inv X pins σ H s :=
 ⟨I0.ok,I.os,I.bare,I.base,I.loc,I.cell,I.free,I.zdQ,I.pin,I.hok,I.len⟩
def cxT (X:Cx) (pn:List (Addr×Obj)) (xe:Value->Shared->Prop):Cx:={ X with pn:=pn,xe:=xe }
theorem Inv.toT {X:Cx} {pins:List (Addr×Obj)} {σ:St} {H:Hp} {s:Shared} {xe:Value->Shared->Prop} (I:Inv X pins σ H s):Inv (cxT X (X.pn++pins) xe) [] σ H s :=
 ⟨⟨I.ok.mod,I.ok.kind,I.ok.glob,I.ok.blt,I.ok.above,I.ok.inj,I.ok.has,I.ok.cab,I.ok.hd,I.ok.frames,I.ok.stk,I.ok.exf,I.ok.bs,I.ok.bsz,I.ok.noex,I.ok.exfs,I.ok.funs,I.ok.frf⟩,I.os,I.bare,I.base,I.loc,I.cell,I.free,I.zdQ,λ p hp=>I.pin p (by have hp':p∈(X.pn++pins)++[]:=hp; rwa [List.append_nil] at hp'),I.hok,I.len⟩
theorem Inv.ofT {X:Cx} {pins pins':List (Addr×Obj)} {σ:St} {H:Hp} {s:Shared} {xe:Value->Shared->Prop} (I:Inv (cxT X (X.pn++pins) xe) pins' σ H s):Inv X pins σ H s :=
 ⟨⟨I.ok.mod,I.ok.kind,I.ok.glob,I.ok.blt,I.ok.above,I.ok.inj,I.ok.has,I.ok.cab,I.ok.hd,I.ok.frames,I.ok.stk,I.ok.exf,I.ok.bs,I.ok.bsz,I.ok.noex,I.ok.exfs,I.ok.funs,I.ok.frf⟩,I.os,I.bare,I.base,I.loc,I.cell,I.free,I.zdQ,λ p hp=>I.pin p (List.mem_append_left _ hp),I.hok,I.len⟩
def tTry (C:Addr) (tb:XK->TS) (ts:TS):TS:=λ D σ H=>tb (λ cls _ H'=>cls=.ref C/\ts D (σ.map λ _=>none) H') D σ H
section
variable {X:Cx} {C:Addr} {x:Str} {body suite:List Stmt} {b₀:Stmt} {np hpos pos:Pos} {tb:XK->TS} {ts:TS}
theorem zr9 (hc:X.calm=true) (hk:X.stack=X.env::X.outer) (hfr:X.env.frame=some X.env.locals) (hex:X.ex=[]) (hg:Gl X x) (hm:X.mg x=some (.ref C)) (q:ktsIn X.K C "BaseException" = true)
   (hb:∀ E pn xe,Passes (CX1 X.prog X.w) (cxT X pn xe) E->PSs (cxT X pn xe) body (tb E)) (hs:∀ e,PSs (cxH X e) (b₀::suite) ts)
   (hd:(x == ("__debug__" : Str))=false:=by decide) :
   PS X (.Try body [.ExceptHandler (some (.Name x np)) none (b₀::suite) hpos] [] [] pos) (tTry C tb ts):=by
 intro pins s σ H D I h
 refine wpAny_Try_except (wpAny_mono ((hb _ (X.pn++pins) _ ?pass) [] s σ H D I.toT h) (λ fl s' hq=>?_) λ e s' hq=>hq)
 case pass =>
   intro pins' σ' H1 s1 e s' I' hcx
   obtain ⟨ex,C',t,B,H',rfl,os,bare,un,hok,hB,fly,hC',hE⟩:=hcx
   obtain rfl:C'=C:=Value.ref.inj hC'
   have I1:Inv X pins σ' H1 s1:=I'.ofT
   have frm:X.A.frames=some (X.env::X.outer):=by rw [<-hk]; exact I.ok.frames
   have fly':Heap.FlyingW B (X.env::X.outer) ex (.ref C') (.ref t) s'.heap:=by rw [<-hk]; exact fly
   refine wpAny_looks_onW frm hfr fly' λ h4 held sl4=>?_
   refine wpAny_landsW held λ h5 fly5 sl5=>?_
   have hfs:∀ b∈frs X.stack,∀ o,s'.heap.get? b=some o->∀ vs,o.data≠.fields vs:=λ b hb' o qo=>by
    obtain ⟨_,o',q',hd'⟩:=fly.2.2.1.mem hb'
    rw [qo] at q'; cases q'
    exact hd'
   have at_:∀ h6:Heap,B.StaysIn h6->s'.heap.UpToSlots h6->Inv X pins σ' H' { s' with heap:=h6 }:=λ h6 st6 sl6 =>
    I1.zrw (ch:=[]) (s':={ s' with heap:=h6 }) os (un.fly hB st6 sl6 hfs) (HOk.fly (fs:=frs X.stack) hok (λ b o q1 n1 t1=>hB b o q1 n1 (.inr t1)) st6 λ b hb'=>by
     have u:=I1.zgP b hb'
     obtain ⟨_,o',q',_⟩:=I1.stack.mem hb'
     exact un.free b o' q' u (by intro z; cases z)) bare λ b z=>by cases z
   have I5:=at_ h5 fly5.1 (sl4.trans sl5)
   obtain ⟨nm,qn,N,bs,bm,hdct,sn,sub,ab,col,dd,k0,k1,k2,k3,k5,newId,hC,hbase,_⟩:=kts_cls I5.kIn q
   obtain ⟨ob,hob,hobc⟩:=fly5.there
   refine wpAny_handleBy_cons (codeAny_handlers_test (zfW (X:=cxH X (.ref ex)) I5.toH hg hm ?_ hd)) (by intro z; cases z)
   refine wpAny_excMatches_sub_self hC hob hobc hbase (codeAny_handlers_suite ?_)
   refine lands_againW fly5 λ h6 fly6 sl6=>?_
   have I6:=at_ h6 fly6.1 ((sl4.trans sl5).trans sl6)
   have I7:Inv X pins (σ.map λ _=>none) H' { s' with heap:=h6 }:=I6.weak (by rw [List.length_map,I.len,I6.len]) λ i v e1=>by
    rw [List.getElem?_map] at e1
    cases e2:σ[i]? with
    | none=>rw [e2] at e1; cases e1
    | some o=>rw [e2] at e1; cases e1
   refine wpAny_mono (hs (.ref ex) pins _ _ H' D I7.toH hE) (λ fl s8 hq=>?_) λ _ _ z=>z.elim
   have ret:SP X pins D fl s8:=by
    cases fl with
    | next=>obtain ⟨σ8,H8,I8,q8⟩:=hq; exact ⟨σ8,H8,I7.ofH I8,q8⟩
    | brk=>obtain ⟨σ8,H8,I8,q8⟩:=hq; exact ⟨σ8,H8,I7.ofH I8,q8⟩
    | cont=>obtain ⟨σ8,H8,I8,q8⟩:=hq; exact ⟨σ8,H8,I7.ofH I8,q8⟩
    | ret u=>obtain ⟨v8,σ8,H8,I8,r8,q8⟩:=hq; exact ⟨v8,σ8,H8,I7.ofH I8,r8,q8⟩
   exact ret
 . cases fl with
   | next=>obtain ⟨σ8,H8,I8,q8⟩:=hq; exact wpAny_execs_nil ⟨σ8,H8,I8.ofT,q8⟩
   | brk=>obtain ⟨σ8,H8,I8,q8⟩:=hq; exact ⟨σ8,H8,I8.ofT,q8⟩
   | cont=>obtain ⟨σ8,H8,I8,q8⟩:=hq; exact ⟨σ8,H8,I8.ofT,q8⟩
   | ret u=>obtain ⟨v8,σ8,H8,I8,r8,q8⟩:=hq; exact ⟨v8,σ8,H8,I8.ofT,r8,q8⟩
end
end L2
end
section
namespace S5
open PySem PySem.W PyProof.Rows
def run {α:Type} (a:Nat->Nat->Bool):KasT α->α
 | .ret x=>x
 | .ask i j k=>run a (k (a i j))
theorem run_bind {α β:Type} (a:Nat->Nat->Bool) (f:α->KasT β):∀ t:KasT α,run a (t.bind f)=run a (f (run a t))
 | .ret _=>rfl
 | .ask i j k=>run_bind a f (k (a i j))
def Below (a:Nat->Nat->Bool) (n:Nat) {α:Type}:KasT α->Prop
 | .ret _=>True
 | .ask i j k=>(i < n/\j < n/\i≠j)/\Below a n (k (a i j))
theorem zcL {α β:Type} {a:Nat->Nat->Bool} {n:Nat} {f:α->KasT β}:∀ {t:KasT α},Below a n t->Below a n (f (run a t))->Below a n (t.bind f)
 | .ret _,_,h=>h
 | .ask i j k,h,g=>⟨h.1,zcL (t:=k (a i j)) h.2 g⟩
theorem wp_run {α:Type} {cmp:Nat->Nat->(Bool->Shared->Prop)->Shared->Prop} {a:Nat->Nat->Bool} {n:Nat} {s:Shared} (hc:∀ i j C,i < n->j < n->i≠j->C (a i j) s->cmp i j C s) :
  ∀ (t:KasT α) (Q:α->Shared->Prop),Below a n t->Q (run a t) s->t.kasWp cmp Q s
 | .ret x,Q,_,h=>h
 | .ask i j k,Q,b,h=>hc i j _ b.1.1 b.1.2.1 b.1.2.2 (wp_run hc (k (a i j)) Q b.2 h)
structure Ord (a:Nat->Nat->Bool) (n:Nat):Prop where
 irr:∀ i,a i i=false
 tr:∀ i j k,a i j=true->a j k=true->a i k=true
 tot:∀ i j,i < n->j < n->i≠j->a i j=true\/a j i=true
section
variable {a:Nat->Nat->Bool} {n:Nat} (O:Ord a n)
include O
def Arr (n:Nat) (p:Array Nat):Prop:=p.toList.Perm (List.range n)
omit O in
theorem Arr.size {p:Array Nat} (h:Arr n p):p.size=n:=by
 have:=h.length_eq; rw [List.length_range,Array.length_toList] at this; exact this
omit O in
theorem Arr.lt {p:Array Nat} (h:Arr n p) {i:Nat} (hi:i < n):p.getD i 0 < n:=by
 have hs:=h.size
 have:p.getD i 0∈p.toList:=by
  rw [Array.getD_eq_getD_getElem?,Array.getElem?_eq_getElem (by omega)]; simp
 exact List.mem_range.mp (h.mem_iff.mp this)
omit O in
theorem Arr.inj {p:Array Nat} (h:Arr n p) {i j:Nat} (hi:i < n) (hj:j < n) (e:p.getD i 0=p.getD j 0):i=j:=by
 have hs:=h.size
 have nd:p.toList.Nodup:=(h.nodup_iff).mpr List.nodup_range
 have hi':i < p.toList.length:=by rw [Array.length_toList]; omega
 have hj':j < p.toList.length:=by rw [Array.length_toList]; omega
 refine (List.getElem_inj (h₀:=hi') (h₁:=hj') nd).mp ?_
 have e1:p.getD i 0=p.toList[i]:=by rw [Array.getD_eq_getD_getElem?,Array.getElem?_eq_getElem (by omega)]; simp
 have e2:p.getD j 0=p.toList[j]:=by rw [Array.getD_eq_getD_getElem?,Array.getElem?_eq_getElem (by omega)]; simp
 rw [<-e1,<-e2,e]
def Up (a:Nat->Nat->Bool) (p:Array Nat) (k:Nat):Prop:=∀ i j,i < j->j < k->a (p.getD i 0) (p.getD j 0)=true
def Dn (a:Nat->Nat->Bool) (p:Array Nat) (k:Nat):Prop:=∀ i j,i < j->j < k->a (p.getD j 0) (p.getD i 0)=true
theorem Ord.le {p:Array Nat} (h:Arr n p) {i j:Nat} (hi:i < n) (hj:j < n) (hne:i≠j) (q:a (p.getD i 0) (p.getD j 0)=false):a (p.getD j 0) (p.getD i 0)=true:=by
 rcases O.tot _ _ (h.lt hi) (h.lt hj) (λ e=>hne (h.inj hi hj e)) with z | z
 . rw [q] at z; cases z
 . exact z
omit O in
theorem Up.snoc {p:Array Nat} {k:Nat} (tr:∀ i j k,a i j=true->a j k=true->a i k=true) (u:Up a p k) (h:k=0\/a (p.getD (k - 1) 0) (p.getD k 0)=true):Up a p (k+1):=λ i j hij hj=>by
 by_cases e:j=k
 . subst e
   rcases h with z | z
   . omega
   . by_cases e2:i=j - 1
     . subst e2; exact z
     . exact tr _ _ _ (u i (j - 1) (by omega) (by omega)) z
 . exact u i j hij (by omega)
omit O in
theorem Dn.snoc {p:Array Nat} {k:Nat} (tr:∀ i j k,a i j=true->a j k=true->a i k=true) (u:Dn a p k) (h:k=0\/a (p.getD k 0) (p.getD (k - 1) 0)=true):Dn a p (k+1):=λ i j hij hj=>by
 by_cases e:j=k
 . subst e
   rcases h with z | z
   . omega
   . by_cases e2:i=j - 1
     . subst e2; exact z
     . exact tr _ _ _ z (u i (j - 1) (by omega) (by omega))
 . exact u i j hij (by omega)
omit O in
theorem zsE (p:Array Nat) (f k:Nat):run a (kas_asc p (f+1) k)=if a (p.getD k 0) (p.getD (k - 1) 0)=true then k else run a (kas_asc p f (k+1)):=by
 show run a ((λ c=>if c=true then KasT.ret k else kas_asc p f (k+1)) (a (p.getD k 0) (p.getD (k - 1) 0)))=_
 cases a (p.getD k 0) (p.getD (k - 1) 0) <;> rfl
theorem zmR {p:Array Nat} (h:Arr n p):∀ (f k:Nat),1<=k->k+f<=n->Up a p k->k<=run a (kas_asc p f k)/\run a (kas_asc p f k)<=k+f/\Up a p (run a (kas_asc p f k)) /\
  (run a (kas_asc p f k) < k+f->a (p.getD (run a (kas_asc p f k)) 0) (p.getD (run a (kas_asc p f k) - 1) 0)=true)
 | 0,k,_,_,u=>⟨Nat.le_refl _,Nat.le_refl _,u,λ z=>absurd z (Nat.lt_irrefl _)⟩
 | f+1,k,h1,hk,u=>by
  rw [zsE]
  cases q:a (p.getD k 0) (p.getD (k - 1) 0) with
  | true=>rw [if_pos rfl]; exact ⟨Nat.le_refl _,by omega,u,λ _=>q⟩
  | false =>
   rw [if_neg Bool.false_ne_true]
   have nx:=O.le h (i:=k) (j:=k - 1) (by omega) (by omega) (by omega) q
   obtain ⟨g1,g2,g3,g4⟩:=zmR h f (k+1) (by omega) (by omega) (u.snoc O.tr (.inr nx))
   exact ⟨by omega,by omega,g3,λ z=>g4 (by omega)⟩
omit O in
theorem zrs (p:Array Nat) (f k:Nat):run a (kas_desc (f+1) p k 0)=if a (p.getD k 0) (p.getD (k - 1) 0)=true then run a (kas_desc f p (k+1) 0) else if a (p.getD (k - 1) 0) (p.getD k 0)=true then (p,k,0) else run a (kas_desc f p (k+1) 1):=by
 show run a ((λ c=>if c=true then (if 0 > 0 then kas_desc f (kas_rev p (k - (0+1)) k) (k+1) 0 else kas_desc f p (k+1) 0) else KasT.ask (p.getD (k - 1) 0) (p.getD k 0) λ d=>if d=true then KasT.ret (p,k,0) else kas_desc f p (k+1) (0+1)) (a (p.getD k 0) (p.getD (k - 1) 0)))=_
 cases a (p.getD k 0) (p.getD (k - 1) 0) with
 | true =>
  show run a (if 0 > 0 then kas_desc f (kas_rev p (k - (0+1)) k) (k+1) 0 else kas_desc f p (k+1) 0)=_
  rw [if_neg (by omega),if_pos rfl]
 | false =>
  show run a ((λ d=>if d=true then KasT.ret (p,k,0) else kas_desc f p (k+1) (0+1)) (a (p.getD (k - 1) 0) (p.getD k 0)))=_
  rw [if_neg Bool.false_ne_true]
  cases a (p.getD (k - 1) 0) (p.getD k 0) <;> rfl
theorem zlN {p:Array Nat} (h:Arr n p):∀ (f k:Nat),1<=k->k+f<=n->Dn a p k->∃ m,run a (kas_desc f p k 0)=(p,m,0)/\k<=m/\m<=k+f/\Dn a p m
 | 0,k,_,_,u=>⟨k,rfl,Nat.le_refl _,Nat.le_refl _,u⟩
 | f+1,k,h1,hk,u=>by
  rw [zrs]
  cases q:a (p.getD k 0) (p.getD (k - 1) 0) with
  | true =>
   rw [if_pos rfl]
   obtain ⟨m,e,g1,g2,g3⟩:=zlN h f (k+1) (by omega) (by omega) (u.snoc O.tr (.inr q))
   exact ⟨m,e,by omega,by omega,g3⟩
  | false =>
   rw [if_neg Bool.false_ne_true]
   have nx:=O.le h (i:=k) (j:=k - 1) (by omega) (by omega) (by omega) q
   rw [if_pos nx]
   exact ⟨k,rfl,Nat.le_refl _,by omega,u⟩
omit O in
theorem zoa {p:Array Nat} {i j:Nat} (hj:j<=p.size) (k:Nat):(kas_rev p i j).getD k 0=if i<=k/\k < j then p.getD (i+j - 1 - k) 0 else p.getD k 0:=by
 unfold kas_rev
 have e:=getElem?_mirror_all (i:=i) hj k
 rw [Array.getD_eq_getD_getElem?,e]
 split
 . rw [Array.getD_eq_getD_getElem?]
 . rw [Array.getD_eq_getD_getElem?]
omit O in
theorem Arr.rev {p:Array Nat} (h:Arr n p) (i j:Nat):Arr n (kas_rev p i j):=(Array.perm_iff_toList_perm.mp (mirror_perm p i j _)).trans h
omit O in
theorem Arr.bub {p:Array Nat} (h:Arr n p) (i j:Nat):Arr n (bubble p i j):=(Array.perm_iff_toList_perm.mp (bubble_perm p i j)).trans h
omit O in
theorem Dn.rev {p:Array Nat} {m:Nat} (hm:m<=p.size) (d:Dn a p m):Up a (kas_rev p 0 m) m:=λ i j hij hj=>by
 rw [zoa hm,zoa hm,if_pos ⟨Nat.zero_le _,by omega⟩,if_pos ⟨Nat.zero_le _,hj⟩]
 exact d (0+m - 1 - j) (0+m - 1 - i) (by omega) (by omega)
theorem zmN {p:Array Nat} (h:Arr n p) (hn:1<=n):(run a (kas_count n p)).1<=n/\1<=(run a (kas_count n p)).1/\Arr n (run a (kas_count n p)).2/\Up a (run a (kas_count n p)).2 (run a (kas_count n p)).1:=by
 have u1:Up a p 1:=λ i j hij hj=>by omega
 obtain ⟨g1,g2,g3,g4⟩:=zmR O h (n - 1) 1 (Nat.le_refl _) (by omega) u1
 unfold kas_count
 rw [run_bind]
 generalize run a (kas_asc p (n - 1) 1)=r at g1 g2 g3 g4 ⊢
 by_cases e:(r == n)=true
 . rw [if_pos e]; exact ⟨by show r<=n; omega,g1,h,g3⟩
 . rw [if_neg e]
   have ne:r≠n:=by simpa using e
   by_cases hr:r > 1
   . rw [if_pos hr]
     have q:a (p.getD 0 0) (p.getD (r - 1) 0)=true:=g3 0 (r - 1) (by omega) (by omega)
     simp only [run,q,if_true]
     exact ⟨by omega,g1,h,g3⟩
   . rw [if_neg hr]
     have hr1:r=1:=by omega
     subst hr1
     have q:=g4 (by omega)
     have d2:Dn a p 2:=(show Dn a p 1 from λ i j hij hj=>by omega).snoc O.tr (.inr q)
     obtain ⟨m,em,m1,m2,dm⟩:=zlN O h (n - (1+1)) 2 (by omega) (by omega) d2
     unfold kas_descPart
     rw [run_bind,em]
     dsimp only
     rw [if_neg (by omega)]
     unfold kas_tail3
     rw [run_bind]
     have hs:=h.size
     have ur:=Dn.rev (by omega) dm
     obtain ⟨g1',g2',g3',_⟩:=zmR O (h.rev 0 m) (n - m) m (by omega) (by omega) ur
     simp only [run]
     exact ⟨by omega,by omega,h.rev 0 m,g3'⟩
omit O in
theorem zpj {p:Array Nat} {src d:Nat} (hs:src < p.size) (hd:d<=src) (k:Nat):(bubble p src d).getD k 0=if k=src - d then p.getD src 0 else if src - d < k/\k<=src then p.getD (k - 1) 0 else p.getD k 0:=by
 have e:=getElem?_bubble hs d hd k
 rw [Array.getD_eq_getD_getElem?,e]
 by_cases h1:k=src - d
 . rw [if_pos h1,if_pos h1,Array.getD_eq_getD_getElem?]
 . rw [if_neg h1,if_neg h1]
   by_cases h2:src - d < k/\k<=src
   . rw [if_pos h2,if_pos h2,Array.getD_eq_getD_getElem?]
   . rw [if_neg h2,if_neg h2,Array.getD_eq_getD_getElem?]
theorem ziV {p:Array Nat} (h:Arr n p) {k:Nat} (hk:k < n):∀ (f l r:Nat),l<=r->r<=k->r - l<=f->(∀ i,i < l->a (p.getD i 0) (p.getD k 0)=true)->(∀ i,r<=i->i < k->a (p.getD k 0) (p.getD i 0)=true)->Up a p k ->
  ∃ m,run a (kas_place p k f l r)=m/\m<=k/\(∀ i,i < m->a (p.getD i 0) (p.getD k 0)=true)/\∀ i,m<=i->i < k->a (p.getD k 0) (p.getD i 0)=true
 | 0,l,r,h1,h2,h3,g1,g2,u=>⟨l,rfl,by omega,g1,λ i hi hk=>g2 i (by omega) hk⟩
 | f+1,l,r,h1,h2,h3,g1,g2,u=>by
  unfold kas_place
  by_cases hlr:l ≥ r
  . rw [if_pos hlr]; exact ⟨l,rfl,by omega,g1,λ i hi hk=>g2 i (by omega) hk⟩
  . rw [if_neg hlr]
    simp only [run]
    have hm:(l+r) / 2 < r:=by omega
    have hm2:l<=(l+r) / 2:=by omega
    cases q:a (p.getD k 0) (p.getD ((l+r) / 2) 0) with
    | true =>
     simp only [if_true]
     refine ziV h hk f l ((l+r) / 2) hm2 (by omega) (by omega) g1 (λ i hi hik=>?_) u
     by_cases e:i=(l+r) / 2
     . subst e; exact q
     . exact O.tr _ _ _ q (u _ i (by omega) hik)
    | false =>
     simp only [Bool.false_eq_true,if_false]
     have nx:=O.le h (i:=k) (j:=(l+r) / 2) hk (by omega) (by omega) q
     refine ziV h hk f ((l+r) / 2+1) r (by omega) h2 (by omega) (λ i hi=>?_) g2 u
     by_cases e:i=(l+r) / 2
     . subst e; exact nx
     . exact O.tr _ _ _ (u i ((l+r) / 2) (by omega) (by omega)) nx
theorem zqE:∀ (f:Nat) (p:Array Nat) (k:Nat),Arr n p->k+f=n->Up a p k->Arr n (run a (kas_bin f p k))/\Up a (run a (kas_bin f p k)) n
 | 0,p,k,h,e,u=>⟨h,by rw [Nat.add_zero] at e; rw [<-e]; exact u⟩
 | f+1,p,k,h,e,u=>by
  have hk:k < n:=by omega
  have hs:=h.size
  unfold kas_bin
  rw [run_bind]
  obtain ⟨m,em,m1,g1,g2⟩:=ziV O h hk k 0 k (Nat.zero_le _) (Nat.le_refl _) (by omega) (λ i hi=>by omega) (λ i h1 h2=>by omega) u
  rw [em]
  refine zqE f _ (k+1) (h.bub k (k - m)) (by omega) λ i j hij hj=>?_
  rw [zpj (by omega) (by omega),zpj (by omega) (by omega),show k - (k - m)=m by omega]
  by_cases e1:i=m
  . rw [if_pos e1,if_neg (show ¬ j=m by omega),if_pos (show m < j/\j<=k by omega)]
    exact g2 (j - 1) (by omega) (by omega)
  . rw [if_neg e1]
    by_cases e2:m < i/\i<=k
    . rw [if_pos e2,if_neg (show ¬ j=m by omega),if_pos (show m < j/\j<=k by omega)]
      exact u (i - 1) (j - 1) (by omega) (by omega)
    . rw [if_neg e2]
      by_cases e3:j=m
      . rw [if_pos e3]; exact g1 i (by omega)
      . rw [if_neg e3]
        by_cases e4:m < j/\j<=k
        . rw [if_pos e4]
          by_cases e5:i=j - 1
          . omega
          . exact u i (j - 1) (by omega) (by omega)
        . rw [if_neg e4]; exact u i j hij (by omega)
omit O in
theorem Arr.two {p:Array Nat} (h:Arr n p) {i j:Nat} (hi:i < n) (hj:j < n) (hne:i≠j):p.getD i 0 < n/\p.getD j 0 < n/\p.getD i 0≠p.getD j 0:=⟨h.lt hi,h.lt hj,λ e=>hne (h.inj hi hj e)⟩
omit O in
theorem zhN {p:Array Nat} (h:Arr n p):∀ (f k:Nat),1<=k->k+f<=n->Below a n (kas_asc p f k)
 | 0,_,_,_=>trivial
 | f+1,k,h1,hk=>by
  refine ⟨h.two (by omega) (by omega) (by omega),?_⟩
  cases a (p.getD k 0) (p.getD (k - 1) 0) with
  | true=>exact trivial
  | false=>exact zhN h f (k+1) (by omega) (by omega)
theorem ziB {p:Array Nat} (h:Arr n p):∀ (f k:Nat),1<=k->k+f<=n->Below a n (kas_desc f p k 0)
 | 0,_,_,_=>trivial
 | f+1,k,h1,hk=>by
  refine ⟨h.two (by omega) (by omega) (by omega),?_⟩
  cases q:a (p.getD k 0) (p.getD (k - 1) 0) with
  | true =>
   show Below a n (if 0 > 0 then kas_desc f (kas_rev p (k - (0+1)) k) (k+1) 0 else kas_desc f p (k+1) 0)
   rw [if_neg (by omega)]
   exact ziB h f (k+1) (by omega) (by omega)
  | false =>
   have nx:=O.le h (i:=k) (j:=k - 1) (by omega) (by omega) (by omega) q
   refine ⟨h.two (by omega) (by omega) (by omega),?_⟩
   rw [nx]
   exact trivial
theorem zlP {p:Array Nat} (h:Arr n p) (hn:1<=n):Below a n (kas_count n p):=by
 have u1:Up a p 1:=λ i j hij hj=>by omega
 obtain ⟨g1,g2,g3,g4⟩:=zmR O h (n - 1) 1 (Nat.le_refl _) (by omega) u1
 unfold kas_count
 refine zcL (zhN h (n - 1) 1 (Nat.le_refl _) (by omega)) ?_
 generalize run a (kas_asc p (n - 1) 1)=r at g1 g2 g3 g4 ⊢
 by_cases e:(r == n)=true
 . rw [if_pos e]; exact trivial
 . rw [if_neg e]
   have ne:r≠n:=by simpa using e
   by_cases hr:r > 1
   . rw [if_pos hr]
     have q:a (p.getD 0 0) (p.getD (r - 1) 0)=true:=g3 0 (r - 1) (by omega) (by omega)
     refine ⟨h.two (by omega) (by omega) (by omega),?_⟩
     rw [q]; exact trivial
   . rw [if_neg hr]
     have hr1:r=1:=by omega
     subst hr1
     have q:=g4 (by omega)
     have d2:Dn a p 2:=(show Dn a p 1 from λ i j hij hj=>by omega).snoc O.tr (.inr q)
     obtain ⟨m,em,m1,m2,dm⟩:=zlN O h (n - (1+1)) 2 (by omega) (by omega) d2
     unfold kas_descPart
     refine zcL (ziB O h (n - (1+1)) 2 (by omega) (by omega)) ?_
     rw [em]
     dsimp only
     rw [if_neg (by omega)]
     unfold kas_tail3
     exact zcL (zhN (h.rev 0 m) (n - m) m (by omega) (by omega)) trivial
omit O in
theorem zeV {p:Array Nat} (h:Arr n p) {k:Nat} (hk:k < n):∀ (f l r:Nat),r<=k->Below a n (kas_place p k f l r)
 | 0,_,_,_=>trivial
 | f+1,l,r,hr=>by
  unfold kas_place
  by_cases hlr:l ≥ r
  . rw [if_pos hlr]; exact trivial
  . rw [if_neg hlr]
    refine ⟨h.two hk (by omega) (by omega),?_⟩
    cases a (p.getD k 0) (p.getD ((l+r) / 2) 0) with
    | true=>exact zeV h hk f l _ (by omega)
    | false=>exact zeV h hk f _ r hr
omit O in
theorem zkQ:∀ (f:Nat) (p:Array Nat) (k:Nat),Arr n p->k+f=n->Below a n (kas_bin f p k)
 | 0,_,_,_,_=>trivial
 | f+1,p,k,h,e=>by
  unfold kas_bin
  exact zcL (zeV h (by omega) k 0 k (Nat.le_refl _)) (zkQ f _ (k+1) (h.bub k _) (by omega))
theorem zm7 (hn:1<=n):Below a n (kas_sort n):=by
 have h0:Arr n (List.toArray (List.range n)):=List.Perm.refl _
 obtain ⟨c1,c2,c3,c4⟩:=zmN O h0 hn
 unfold kas_sort
 refine zcL (zlP O h0 hn) ?_
 by_cases h:(run a (kas_count n (List.toArray (List.range n)))).1 < n
 . rw [if_pos h]
   exact zkQ _ _ _ c3 (by omega)
 . rw [if_neg h]; exact trivial
theorem znZ (hn:1<=n):Arr n (run a (kas_sort n))/\Up a (run a (kas_sort n)) n:=by
 have h0:Arr n (List.toArray (List.range n)):=List.Perm.refl _
 obtain ⟨c1,c2,c3,c4⟩:=zmN O h0 hn
 unfold kas_sort
 rw [run_bind]
 generalize run a (kas_count n (List.toArray (List.range n)))=r at c1 c2 c3 c4 ⊢
 obtain ⟨m,p⟩:=r
 dsimp only at c1 c2 c3 c4 ⊢
 by_cases h:m < n
 . rw [if_pos h,show max m 1=m by omega]
   exact zqE O (n - m) p m c3 (by omega) c4
 . rw [if_neg h]
   have:m=n:=by omega
   subst this
   exact ⟨c3,c4⟩
end
end S5
end
section
namespace S5
open PySem PySem.W PyProof.Rows
def zhR (a:Addr) (h h':Heap):Prop:=∀ b o,b≠a->h.get? b=some o->h'.get? b=some o
def picked (vs:List Value) (p:Array Nat):List Value:=p.toList.map λ i=>vs.getD i Value.none
section
variable {prog:Program} {w:World} {A:Around} {E:Value->Shared->Prop} {s:Shared}
theorem zn0 {a:Addr} {vs:List Value} {c:Nat} {κ:SortKind} {lt:Nat->Nat->Bool} {P:PySem.Fin->Shared->Prop} (ho:s.heap.get? a=some (seqObj "list" vs.toArray c)) (h64:vs.length < 64) (O:Ord lt vs.length)
   (hk:∀ h1,zhR a s.heap h1->2<=vs.length->∀ Q:SortKind->Shared->Prop,Q κ { s with heap:=h1 }->wpAny (model prog w) A (keyKind' vs.toArray) Q (λ _ _=>False) { s with heap:=h1 })
   (hlt:∀ h1,zhR a s.heap h1->∀ i j,i < vs.length->j < vs.length->i≠j->∀ Q:Bool->Shared->Prop,Q (lt i j) { s with heap:=h1 }->wpAny (model prog w) A (keyLt' κ (vs.getD i Value.none) (vs.getD j Value.none)) Q (λ _ _=>False) { s with heap:=h1 })
   (h:∀ p h' c',Arr vs.length p->Up lt p vs.length->zhR a s.heap h'->h'.get? a=some (seqObj "list" (picked vs p).toArray c')->P (.done (.ret .none)) { s with heap:=h' }) :
   wpAny (model prog w) A (Builtin.«list.sort» ⟨[.ref a], []⟩) P E s := by
 have big:∀ {k:Nat},k < 64->k<=sizeLine:=λ hk'=>by rw [sizeLine_eq]; omega
 rw [list_sort_plain]
 refine wpAny_bind (listItems_at ho rfl (wpAny_bind (listUpdate_at ho rfl ?_ (by rw [List.size_toArray]; exact big h64) (Nat.zero_le _))))
 have e1:=get?_update_seq ho λ _=>(#[]:Array Value)
 generalize (if ((λ _=>(#[]:Array Value)) vs.toArray).size == vs.toArray.size then c else c+1)=c1 at e1
 generalize hg1:s.heap.update a (Obj.mapSeq λ _=>(#[]:Array Value))=g1 at e1 ⊢
 have k1:zhR a s.heap g1:=λ b o hb q=>by rw [<-hg1,Heap.get?_update_other _ _ (Ne.symm hb)]; exact q
 refine wpAny_bind (seqEpoch_at e1 rfl (wpAny_bind (wpAny_newTuple ?_ (by show vs.toArray.toList.length<=_; exact big (by simpa using h64)))))
 refine wpAny_bind (wpAny_newList (wpAny_holding ?_) (Nat.zero_le _))
 dsimp only
 generalize hg2:(g1.push { cls:=.type "tuple",data:=.seq vs.toArray.toList.toArray }).push { cls:=.type "list",data:=.seq ([]:List Value).toArray }=g2
 have k2:∀ b o,g1.get? b=some o->g2.get? b=some o:=λ b o q=>by rw [<-hg2]; exact Heap.get?_push_of_some _ (Heap.get?_push_of_some _ q)
 have e2:g2.get? a=some (seqObj "list" #[] c1):=k2 _ _ e1
 have kk:zhR a s.heap g2:=λ b o hb q=>k2 b o (k1 b o hb q)
 have fin:∀ (p:Array Nat),Arr vs.length p->Up lt p vs.length->∀ (st:SortSt),(arrOf st).map (·.2)=(picked vs p).toArray->failedOf st=none ->
    wpAny (model prog w) A (do
     let touched:=(<-seqEpoch a) != c1
     Builtin.List.listUpdate (.ref a) λ _=>(arrOf st).map (·.2)
     if let some e:=failedOf st then rule "list.sort.comparison-raised"; throw e
     if touched then rule "list.sort.modified"; raiseError "ValueError" "list modified during sort"
     ret .none) P E { s with heap:=g2 }:=λ p hp hu st es hf=>by
   have lp:(picked vs p).length=vs.length:=by unfold picked; rw [List.length_map,Array.length_toList,hp.size]
   refine wpAny_bind (seqEpoch_at e2 rfl (wpAny_bind (listUpdate_at e2 rfl ?_ (Nat.zero_le _) (by rw [es,List.size_toArray,lp]; exact Nat.le_succ_of_le (big h64)))))
   rw [hf,es]
   simp only [bne_self_eq_false,Bool.false_eq_true,if_false]
   exact wpAny_pure (h p _ _ hp hu (λ b o hb q=>by rw [Heap.get?_update_other _ _ (Ne.symm hb)]; exact kk b o hb q) (get?_update_seq e2 λ _=>(picked vs p).toArray))
 by_cases h2:vs.toArray.size < 2
 . rw [if_pos h2,if_pos h2]
   refine wpAny_bind (wpAny_pure ?_)
   rw [StateT.run_pure]
   refine wpAny_bind (wpAny_pure ?_)
   have hl:vs.length < 2:=by simpa using h2
   refine fin (List.range vs.length).toArray (List.Perm.refl _) (λ i j hij hj=>by omega) (SortSt.mk' general' (vs.toArray.zip vs.toArray) #[] 7 none) ?_ rfl
   show (vs.toArray.zip vs.toArray).map (·.2)=_
   apply Array.toList_inj.mp
   unfold picked
   match vs,hl with
   | [],_=>simp
   | [v],_=>simp
 . rw [if_neg h2,if_neg h2]
   have hl:2<=vs.length:=by simpa using h2
   refine wpAny_bind (wpAny_mono (hk g2 kk hl (λ κ' s'=>κ'=κ/\s'={ s with heap:=g2 }) ⟨rfl,rfl⟩) (λ κ' s' hq=>?_) λ _ _ z=>z.elim)
   obtain ⟨rfl,rfl⟩:=hq
   have ask:(kas_sort vs.length).kasWp (kas_ask prog w A κ' vs) (λ p s'=>s'={ s with heap:=g2 }/\Arr vs.length p/\Up lt p vs.length) { s with heap:=g2 } :=
    wp_run (λ i j C hi hj hne hc=>hlt g2 kk i j hi hj hne C hc) _ _ (zm7 O (by omega)) ⟨rfl,(znZ O (by omega)).1,(znZ O (by omega)).2⟩
   refine wpAny_bind (wpAny_mono (kat_run (vs:=vs) (ks:=vs) (Q:=λ st' s'=>s'={ s with heap:=g2 }/\∃ p,Arr vs.length p/\Up lt p vs.length/\(arrOf st').map (·.2)=(picked vs p).toArray/\failedOf st'=none) rfl hl h64 (λ p st' s' hz har hf hg=>⟨hg.1,p,hg.2.1,hg.2.2,kat_snds rfl har,hf⟩) ask) ?_ λ _ _ z=>z)
   rintro ⟨⟨⟩,st'⟩ s' ⟨rfl,p,hp,hu,es,hf⟩
   exact fin p hp hu st' es hf
end
end S5
end
section
namespace L2
open PySem PySem.Spec PyProof.Rows PySem.W S5
theorem Inv.zrH {X:Cx} {pins:List (Addr×Obj)} {σ:St} {H:Hp} {s:Shared} {a:Addr} {o:HO} (I:Inv X pins σ H s) (f:FpOk X pins H a) (new:zbP X.prog X.w (upd H a o) s.heap a o):Inv X pins σ (upd H a o) s:=by
 obtain ⟨f0,f1,f2,f3,f4,f5⟩:=f
 have tr:∀ b u,H b=some u->b≠a:=λ b u e z=>by rw [z,f0] at e; cases e
 have J:=I.step (H':=upd H a o) (h':=s.heap) (g':=s.gens) (t':=s.toks) (d':=s.drawn) (ch:=[a]) (λ b hb=>by
  have e:b=a:=by simpa using hb
  subst e
  exact ⟨f3,f1,f4,f5⟩) (λ b u _ _ _ q _=>q) (λ b u _ _ _ q _=>⟨u.slots,q⟩) (λ b u hb q n=>by rw [zae (λ z=>hb (by simp [z]))]; exact n) (λ b u _ q=>⟨u,q⟩)
  (λ b xs q=>by rw [zae (tr b _ q)]; exact q) (λ b u xs q=>by rw [zae (tr b _ q)]; exact q) (λ b ps q=>⟨#[],by rw [zae (tr b _ q),q]; simp⟩) (λ m hm=>hm) (λ b u e=>by
   by_cases hb:b=a
   . subst hb; rw [zab] at e; cases e; exact new
   . rw [zae hb] at e
     exact (I.hok b u e).stay (λ _ _ _ q=>q) (λ c q=>by rw [zae (tr c _ q)]; exact q) λ c xs q=>by rw [zae (tr c _ q)]; exact q) I.bare
 exact J
def kLt:Key->Key->Bool
 | .inl a,.inl b=>decide (a < b)
 | .inr x,.inr y=>decide (x.cps.toList < y.cps.toList)
 | _,_=>false
def zcU (ks:List Key):Prop:=(∀ k∈ks,∃ i,k=Sum.inl i)\/∀ k∈ks,∃ x,k=Sum.inr x
theorem zoM:∀ k:Key,kLt k k=false
 | .inl a=>by show decide (a < a)=false; simp
 | .inr x=>by show decide (x.cps.toList < x.cps.toList)=false; simpa using List.lt_irrefl _
theorem zqx:∀ {a b c:Key},kLt a b=true->kLt b c=true->kLt a c=true
 | .inl a,.inl b,.inl c,h1,h2=>by
  have h1':decide (a < b)=true:=h1
  have h2':decide (b < c)=true:=h2
  show decide (a < c)=true
  simp only [decide_eq_true_eq] at *; omega
 | .inr a,.inr b,.inr c,h1,h2=>by
  have h1':decide (a.cps.toList < b.cps.toList)=true:=h1
  have h2':decide (b.cps.toList < c.cps.toList)=true:=h2
  show decide (a.cps.toList < c.cps.toList)=true
  simp only [decide_eq_true_eq] at *; exact List.lt_trans h1' h2'
 | .inl _,.inr _,_,h1,_=>by cases h1
 | .inr _,.inl _,_,h1,_=>by cases h1
 | .inl _,.inl _,.inr _,_,h2=>by cases h2
 | .inr _,.inr _,.inl _,_,h2=>by cases h2
theorem zqR {x y:Str} (h:x.cps.toList=y.cps.toList):x=y:=by
 obtain ⟨a⟩:=x
 obtain ⟨b⟩:=y
 have:a=b:=Array.toList_inj.mp h
 rw [this]
theorem zoL {ks:List Key} (one:zcU ks) {a b:Key} (ha:a∈ks) (hb:b∈ks) (hne:a≠b):kLt a b=true\/kLt b a=true:=by
 rcases one with h | h
 . obtain ⟨i,rfl⟩:=h a ha
   obtain ⟨j,rfl⟩:=h b hb
   have:i≠j:=λ e=>hne (by rw [e])
   show decide (i < j)=true\/decide (j < i)=true
   simp only [decide_eq_true_eq]; omega
 . obtain ⟨x,rfl⟩:=h a ha
   obtain ⟨y,rfl⟩:=h b hb
   show decide (x.cps.toList < y.cps.toList)=true\/decide (y.cps.toList < x.cps.toList)=true
   simp only [decide_eq_true_eq]
   by_cases h1:x.cps.toList < y.cps.toList
   . exact .inl h1
   . by_cases h2:y.cps.toList < x.cps.toList
     . exact .inr h2
     . exact absurd (zqR (List.le_antisymm (List.not_lt.mp h2) (List.not_lt.mp h1))) (λ e=>hne (by rw [e]))
abbrev atK (ks:List Key) (i:Nat):Key:=ks.getD i (Sum.inl 0)
theorem zjv {ks:List Key} {i:Nat} (h:i < ks.length):ks[i]?=some (atK ks i):=by
 unfold atK; rw [List.getD_eq_getElem?_getD,List.getElem?_eq_getElem h]; rfl
theorem zej {ks:List Key} {i:Nat} (h:i < ks.length):atK ks i∈ks:=List.mem_of_getElem? (zjv h)
theorem ordK {ks:List Key} (nd:ks.Nodup) (one:zcU ks):Ord (λ i j=>kLt (atK ks i) (atK ks j)) ks.length :=
 ⟨λ i=>zoM _,λ i j k h1 h2=>zqx h1 h2,λ i j hi hj hne=>zoL one (zej hi) (zej hj) λ e=>hne (by
  have e1:=zjv hi
  have e2:=zjv hj
  rw [e] at e1
  obtain ⟨_,q1⟩:=List.getElem?_eq_some_iff.mp e1
  obtain ⟨_,q2⟩:=List.getElem?_eq_some_iff.mp e2
  exact (List.getElem_inj (h₀:=hi) (h₁:=hj) nd).mp (q1.trans q2.symm))⟩
section
variable {prog:Program} {w:World} {A:Around} {E:Value->Shared->Prop} {s:Shared}
theorem zoD {k l:Key} {u v:Value} {Q:Bool->Shared->Prop} (one:zcU [k,l]) (hu:RelV (kV k) u) (hv:RelV (kV l) v) (h:Q (kLt k l) s):wpAny (model prog w) A (oneLt' true u v) Q E s:=by
 rcases one with o | o
 . obtain ⟨i,rfl⟩:=o k (by simp)
   obtain ⟨j,rfl⟩:=o l (by simp)
   obtain ⟨t,rfl⟩:=(show ∃ t,u=Value.int i t from hu)
   obtain ⟨t',rfl⟩:=(show ∃ t,v=Value.int j t from hv)
   exact oneLt_int h
 . obtain ⟨x,rfl⟩:=o k (by simp)
   obtain ⟨y,rfl⟩:=o l (by simp)
   obtain ⟨t,rfl⟩:=(show ∃ t,u=Value.str x t from hu)
   obtain ⟨t',rfl⟩:=(show ∃ t,v=Value.str y t from hv)
   exact oneLt_str h
def kTy:List Key->String
 | .inr _::_ => "str"
 | _ => "int"
theorem ty_keys {ks:List Key} (one:zcU ks) {k:Key} (hk:k∈ks) {u:Value} (hu:RelV (kV k) u) (M:Model) (h:Heap):Looks M h (typeOf u) (.type (kTy ks)):=by
 cases ks with
 | nil=>cases hk
 | cons k0 r =>
  rcases one with o | o
  . obtain ⟨i,rfl⟩:=o k hk
    obtain ⟨j,rfl⟩:=o k0 (by simp)
    obtain ⟨t,rfl⟩:=(show ∃ t,u=Value.int i t from hu)
    exact Looks.of_pure rfl
  . obtain ⟨x,rfl⟩:=o k hk
    obtain ⟨y,rfl⟩:=o k0 (by simp)
    obtain ⟨t,rfl⟩:=(show ∃ t,u=Value.str x t from hu)
    exact Looks.of_pure rfl
theorem zmC (ks:List Key):kTy ks = "str" \/ kTy ks = "int" := by
 unfold kTy
 split
 . exact .inl rfl
 . exact .inr rfl
def zjz (h h':Heap):Prop:=∀ b o,h.get? b=some o->h'.get? b=some o
theorem znY {a:Addr} {PC:List Value->Heap->Prop} {Q:Value->Shared->Prop}
  (hcol:∀ R:List Value->Shared->Prop,(∀ h' tk vs,zjz s.heap h'->PC vs h'->R vs { s with heap:=h',toks:=tk })->wpAny (model prog w) A.in1 (collect (.ref a)) R E s)
  (h64:∀ vs h',PC vs h'->vs.length < 64)
  (hsort : ∀ h' tk vs, zjz s.heap h' → PC vs h' → wpAny (model prog w) A.in1.in1 (Builtin.«list.sort» ⟨[.ref h'.objs.size], []⟩) (fun fin s' => fin = .done (.ret .none) ∧ Q (.ref h'.objs.size) s') E { s with heap := h'.push { cls := .type "list", data := .seq vs.toArray }, toks := tk }) :
  wpAny (model prog w) A (call (.builtin "sorted") [.ref a]) Q E s:=by
 refine Calls.call_function_entry kind_sorted plain_sorted entry_sorted (args_sorted1 _) ?_
 unfold Builtin.«sorted»
 refine wpAny_bind (m:=checkCount "sorted" 1 1 _) (wpAny_pure (wpAny_bind (hcol _ λ h' tk vs hk hp=>?_)))
 refine wpAny_bind (wpAny_newList ?_ (by have:=h64 vs h' hp; rw [sizeLine_eq]; omega))
 refine wpAny_bind (wpAny_holding (wpAny_call_entry slot_list_sort ⟨_,Heap.get?_push_size _ rfl,rfl⟩ entry_list_sort ?_ (args_list_sort _)))
 refine wpAny_mono (hsort h' tk vs hk hp) (λ fin s' hq=>?_) λ _ _ z=>z
 obtain ⟨rfl,hq⟩:=hq
 exact ⟨_,rfl,wpAny_pure ⟨_,rfl,hq⟩⟩
end
end L2
end
section
namespace L2
open PySem PySem.Spec PyProof.Rows PySem.W S5
theorem Inv.zsv {X:Cx} {pins:List (Addr×Obj)} {σ:St} {H:Hp} {s:Shared} {a:Addr} (I:Inv X pins σ H s) (hb:∀ b o,s.heap.get? b=some o->b < a):FpOk X pins H a:=by
 have nL:X.env.locals < a:=by
   obtain ⟨m,⟨o,_,_,e,_⟩,_⟩:=I.loc
   exact hb _ _ e
 refine ⟨?_,Nat.ne_of_gt nL,λ z=>?_,.inr (Nat.le_trans I.ok.above (Nat.le_of_lt nL)),λ x c e z=>?_,λ p hp z=>?_⟩
 . cases q:H a with
   | none=>rfl
   | some u =>
    obtain ⟨o,e⟩:=(I.hok a u q).there
    exact absurd (hb _ _ e) (Nat.lt_irrefl _)
 . obtain ⟨_,o,e,_⟩:=I.funs.mem z
   exact absurd (hb _ _ e) (Nat.lt_irrefl _)
 . obtain ⟨v,o,e,_⟩:=I.cell x c e
   subst z
   exact absurd (hb _ _ e) (Nat.lt_irrefl _)
 . have e:=(I.pin p hp).1
   rw [z] at e
   exact absurd (hb _ _ e) (Nat.lt_irrefl _)
theorem range_getD {α:Type} (xs:List α) (d:α):(List.range xs.length).map (λ i=>xs.getD i d)=xs:=by
 apply List.ext_getElem
 . simp
 . intro i h1 h2
   simp [h2]
def zg5 {α:Type} (xs:List α) (d:α) (p:Array Nat):List α:=p.toList.map λ i=>xs.getD i d
theorem zfh {α:Type} (xs:List α) (d:α) {p:Array Nat} (h:Arr xs.length p):(zg5 xs d p).Perm xs:=by
 have q:=List.Perm.map (λ i=>xs.getD i d) h
 rw [range_getD] at q
 exact q
theorem zj3 {α:Type} (xs:List α) (d:α) {lt:α->α->Bool} {p:Array Nat} (h:Arr xs.length p) (u:Up (λ i j=>lt (xs.getD i d) (xs.getD j d)) p xs.length):(zg5 xs d p).Pairwise (λ a b=>lt a b=true):=by
 unfold zg5
 rw [List.pairwise_map,List.pairwise_iff_getElem]
 intro i j hi hj hij
 have hs:=h.size
 have hj':j < xs.length:=by rw [Array.length_toList] at hj; omega
 have q:=u i j hij hj'
 have e:∀ k (hk:k < p.toList.length),p.getD k 0=p.toList[k]:=λ k hk=>by
  rw [Array.getD_eq_getD_getElem?,Array.getElem?_eq_getElem (by rw [Array.length_toList] at hk; exact hk)]; simp
 rw [e i hi,e j hj] at q
 exact q
theorem zjF {xs:List V} {vs:List Value} (r:Vals xs vs) {p:Array Nat} (h:Arr xs.length p):Vals (zg5 xs .non p) (picked vs p):=by
 have key:∀ l:List Nat,(∀ i∈l,i < xs.length)->Vals (l.map λ i=>xs.getD i .non) (l.map λ i=>vs.getD i Value.none):=λ l=>by
  induction l with
  | nil=>intro _; exact .nil
  | cons i t ih =>
   intro hl
   have hi:i < xs.length:=hl i (by simp)
   obtain ⟨u,e1,e2⟩:=r.get (List.getElem?_eq_getElem hi)
   refine .cons ?_ (ih λ j hj=>hl j (List.mem_cons_of_mem _ hj))
   show RelV (xs.getD i V.non) (vs.getD i Value.none)
   rw [List.getD_eq_getElem?_getD,List.getElem?_eq_getElem hi,List.getD_eq_getElem?_getD,e1]
   exact e2
 exact key p.toList λ i hi=>List.mem_range.mp (h.mem_iff.mp hi)
theorem zmr {α:Type} (f:α->V) (xs:List α) (d:α) {p:Array Nat} (h:Arr xs.length p):zg5 (xs.map f) .non p=(zg5 xs d p).map f:=by
 unfold zg5
 rw [List.map_map]
 refine List.map_congr_left λ i hi=>?_
 have hi':i < xs.length:=List.mem_range.mp (h.mem_iff.mp hi)
 show (xs.map f).getD i .non=f (xs.getD i d)
 rw [List.getD_eq_getElem?_getD,List.getD_eq_getElem?_getD,List.getElem?_map,List.getElem?_eq_getElem hi']
 rfl
def KSrc (K:Frag) (H:Hp) (p:Addr) (ks:List Key):Prop:=SqL K H p (ks.map kV)\/∃ kvs:List (Key×V),H p=some (.dK kvs)/\kvs.map (·.1)=ks
theorem zeu {ks:List Key} {vs:List Value} (r:Vals (ks.map kV) vs) {i:Nat} (hi:i < ks.length):RelV (kV (atK ks i)) (vs.getD i Value.none):=by
 have e:(ks.map kV)[i]?=some (kV (atK ks i)):=by rw [List.getElem?_map,zjv hi]; rfl
 obtain ⟨u,e1,e2⟩:=r.get e
 rw [List.getD_eq_getElem?_getD,e1]
 exact e2
theorem zor {ks:List Key} (one:zcU ks) {a b:Key} (ha:a∈ks) (hb:b∈ks):zcU [a,b]:=by
 rcases one with o | o
 . exact .inl λ k hk=>by
    rcases List.mem_cons.mp hk with z | z
    . rw [z]; exact o a ha
    . have:k=b:=by simpa using z
      rw [this]; exact o b hb
 . exact .inr λ k hk=>by
    rcases List.mem_cons.mp hk with z | z
    . rw [z]; exact o a ha
    . have:k=b:=by simpa using z
      rw [this]; exact o b hb
section
variable {X:Cx}
theorem zgy (hc:X.calm=true):zgH X (.builtin "sorted") (λ xs H Q=>∃ p ks,xs=[.ref p]/\KSrc X.K H p ks/\ks.Nodup/\zcU ks/\ks.length < 64 /\
   ∀ (ys:List Key) (l:Addr),ys.Perm ks->ys.Pairwise (λ a b=>kLt a b=true)->H l=none->Q (.ref l) (upd H l (.lst (ys.map kV)))):=by
 intro pins s σ H xs us Q I r h
 obtain ⟨p,ks,rfl,src,nd,one,h64,h⟩:=h
 obtain ⟨u,rfl,ru⟩:=Vals.one r
 cases ru
 refine znY (PC:=λ vs _=>Vals (ks.map kV) vs) (λ R hR=>?_) (λ vs _ hv=>by rw [<-hv.length,List.length_map]; exact h64) (λ h' tk vs hk hv=>?_)
 . rcases src with hq | ⟨kvs,hd,hks⟩
   . obtain ⟨its,rv,pl,hz⟩:=I.list hq
     refine collect_list pl.isList (hR _ s.toks its (λ b o e=>?_) rv) (by rw [<-rv.length]; exact hz)
     have hb:=Heap.lt_size e
     rw [Heap.get?_update_other _ _ (Nat.ne_of_gt hb)]
     exact Heap.get?_push_of_some _ e
   . obtain ⟨z,lo,vs,rel,dd⟩:=zkJ I.hok hd
     obtain ⟨ep,hat⟩:=dd.dictAt
     refine kdu_collect (A:=X.A.in1) (kdl_dict (knd:=zaE X.prog X.w) (kvs:=vs) (ep:=ep) lo) (I.ok.hd hc) hat (by rw [<-rel.length]; exact z) λ h' tk acc hk hacc=>hR h' tk acc.toList hk ?_
     have hl:acc.toList.length=ks.length:=by rw [Array.length_toList,hacc.1,<-rel.length,<-hks,List.length_map]
     have key:∀ (l1:List Key) (l2:List Value) (off:Nat),l2.length=l1.length->(∀ j v,l2[j]?=some v->∃ k,l1[j]?=some k/\RelV (kV k) v)->Vals (l1.map kV) l2:=λ l1=>by
       induction l1 with
       | nil=>intro l2 _ hl2 _; cases l2 with
         | nil=>exact .nil
         | cons _ _=>simp at hl2
       | cons k t ih =>
         intro l2 off hl2 hj
         cases l2 with
         | nil=>simp at hl2
         | cons v t2 =>
          obtain ⟨k',e1,e2⟩:=hj 0 v rfl
          have:k=k':=Option.some.inj e1
          subst this
          exact .cons e2 (ih t2 off (by simpa using hl2) λ j w hw=>hj (j+1) w (by simpa using hw))
     refine key ks acc.toList 0 hl λ j v hj=>?_
     obtain ⟨k,x,e1,e2⟩:=hacc.2 j v (by rw [<-Array.getElem?_toList]; exact hj)
     refine ⟨k,?_,?_⟩
     . rw [<-hks,KV.keys rel,List.getElem?_map,e1]; rfl
     . rcases zaT (show zh6 k v=true from e2) with ⟨i,t,rfl,rfl⟩ | ⟨x',t,rfl,rfl⟩
       . exact ⟨t,rfl⟩
       . exact ⟨t,rfl⟩
 . have hl:vs.length=ks.length:=by rw [<-hv.length,List.length_map]
   have O:=ordK nd one
   rw [<-hl] at O
   refine zn0 (s:={ s with heap:=h'.push { cls:=.type "list",data:=.seq vs.toArray },toks:=tk }) (κ:=oneType') (c:=0) (Heap.get?_push_size _ rfl) (by rw [hl]; exact h64) O (λ h1 _ h2 Qk hq=>?_) (λ h1 _ i j hi hj hne Qb hq=>?_) (λ q h3 c' hp hu hkb hg=>⟨rfl,?_⟩)
   . refine kas_kind (T:=.type (kTy ks)) h2 (λ v hvm=>?_) ?_ ?_ hq
     . obtain ⟨i,hi⟩:=List.mem_iff_getElem?.mp hvm
       have hi':i < ks.length:=by rw [<-hl]; exact (List.getElem?_eq_some_iff.mp hi).1
       have:=zeu hv hi'
       rw [List.getD_eq_getElem?_getD,hi] at this
       exact ty_keys one (zej hi') this _ _
     . rcases zmC ks with z | z <;> rw [z] <;> decide
     . rcases zmC ks with z | z <;> rw [z] <;> decide
   . rw [keyLt'_oneType]
     rw [hl] at hi hj
     exact zoD (zor one (zej hi) (zej hj)) (zeu hv hi) (zeu hv hj) hq
   . rw [hl] at hp hu
     have keepAll:∀ b o,s.heap.get? b=some o->h3.get? b=some o:=λ b o e=>hkb b o (Nat.ne_of_lt (Heap.lt_size (hk b o e))) (Heap.get?_push_of_some _ (hk b o e))
     have I1:Inv X pins σ H { s with heap:=h3,toks:=tk }:=I.kept keepAll
     have fp:=I.zsv (a:=h'.objs.size) λ b o e=>Heap.lt_size (hk b o e)
     have vp:=zjF hv (p:=q) (by rw [List.length_map]; exact hp)
     rw [zmr kV ks (Sum.inl 0) hp] at vp
     have lp:(zg5 ks (Sum.inl 0) q).length=ks.length:=(zfh ks (Sum.inl 0) hp).length_eq
     refine ⟨.ref h'.objs.size,upd H h'.objs.size (.lst ((zg5 ks (Sum.inl 0) q).map kV)),?_,rfl,h _ _ (zfh ks _ hp) (zj3 ks _ hp hu) fp.1⟩
     have f2:FpOk X pins H h'.objs.size:=fp
     exact I1.zrH f2 ⟨by rw [List.length_map,lp,sizeLine_eq]; omega,picked vs q,c',vp,hg⟩
end
end L2
end
section
namespace L2
open PySem PySem.Spec PySem.W PyProof.Rows S5
section
variable {X:Cx} {x:Str} {pos:Pos}
theorem zcH {y:Str} (hg:Gl X x) (hm:∃ t,X.mg x=some (.str y t)) (hd:(x == ("__debug__" : Str))=false:=by decide):PE X (.Name x pos) (tC (.str y)):=by
 obtain ⟨t,e⟩:=hm
 exact zoi hg e ⟨t,rfl⟩ hd
theorem zsZ {i:Int} (hg:Gl X x) (hm:∃ t,X.mg x=some (.int i t)) (hd:(x == ("__debug__" : Str))=false:=by decide):PE X (.Name x pos) (tC (.int i)):=by
 obtain ⟨t,e⟩:=hm
 exact zoi hg e ⟨t,rfl⟩ hd
end
mutual
inductive DV (H:Hp):V->Dat->Prop
 | non:DV H .non .none
 | int (i:Int):DV H (.int i) (.int i)
 | str (x:Str):DV H (.str x) (.str x)
 | tup {p:Addr} {vs:List V} {ds:List Dat}:H p=some (.tup vs)->DVs H vs ds->DV H (.ref p) (.tuple ds)
 | lst {p:Addr} {vs:List V} {ds:List Dat}:H p=some (.lst vs)->DVs H vs ds->DV H (.ref p) (.list ds)
inductive DVs (H:Hp):List V->List Dat->Prop
 | nil:DVs H [] []
 | cons {v:V} {vs:List V} {d:Dat} {ds:List Dat}:DV H v d->DVs H vs ds->DVs H (v::vs) (d::ds)
end
section
variable {P:Program} {w:World} {H:Hp} {h:Heap}
mutual
theorem DV.reads (hok:HOk P w H h):∀ {v:V} {d:Dat} {u:Value},DV H v d->RelV v u->∃ as,Reads h u (kqdP d) as
 | _,_,_,.non,r=>by cases r; exact ⟨_,.none⟩
 | _,_,_,.int i,r=>by obtain ⟨t,rfl⟩:=r; exact ⟨_,.int i t⟩
 | _,_,_,.str x,r=>by obtain ⟨t,rfl⟩:=r; exact ⟨_,.str x t⟩
 | _,_,_,.tup e q,r=>by
  cases r
  obtain ⟨_,its,rv,o,ho,hc,n,hd⟩:=hok _ _ e
  obtain ⟨as,ra⟩:=DVs.reads hok q rv
  rw [kqdP]
  exact ⟨_,.tuple ho hc hd (by simpa using ra)⟩
 | _,_,_,.lst e q,r=>by
  cases r
  obtain ⟨_,its,n,rv,ho⟩:=hok _ _ e
  obtain ⟨as,ra⟩:=DVs.reads hok q rv
  rw [kqdP]
  exact ⟨_,.list ho rfl rfl (by simpa using ra)⟩
theorem DVs.reads (hok:HOk P w H h):∀ {vs:List V} {ds:List Dat} {us:List Value},DVs H vs ds->Vals vs us->∃ as,ReadsAll h us (kqdPs ds) as
 | _,_,_,.nil,r=>by cases r; exact ⟨_,.nil⟩
 | _,_,_,.cons a b,r=>by
  cases r with
  | cons r1 r2 =>
   obtain ⟨as,q⟩:=DV.reads hok a r1
   obtain ⟨bs,q'⟩:=DVs.reads hok b r2
   rw [kqdPs]
   exact ⟨_,.cons q q'⟩
end
theorem DVs.length {H:Hp}:∀ {vs:List V} {ds:List Dat},DVs H vs ds->vs.length=ds.length
 | _,_,.nil=>rfl
 | _,_,.cons _ r=>congrArg (·+1) (DVs.length r)
end
abbrev znx (d:Dat):Prop:=kqdOk 8 d=true
open Classical in
theorem zru {d e:Dat} (hd:znx d) (he:znx e):PyData.eqv (kqdP d) (kqdP e)=decide (d=e):=by
 have q:=kqd_eqv 8 d e 8 hd he
 by_cases h:d=e
 . rw [decide_eq_true h]; exact q.mpr h
 . rw [decide_eq_false h]; exact Bool.eq_false_iff.mpr λ z=>h (q.mp z)
theorem ziC {d:Dat} (hd:znx d):SeqAt.shaped (kqdP d)=true:=by
 have l:=kqd_lay 8 d hd
 unfold SeqAt.shaped; rw [l.1,Bool.true_and]; exact decide_eq_true (Nat.le_trans l.2 (by decide))
section
variable {X:Cx}
open Classical in
open Classical in
noncomputable def rNeD:R2:=λ x y H Q=>∃ d e,DV H x d/\DV H y e/\znx d/\znx e/\Q (.bl (!decide (d=e))) H
theorem zsg (hu:X.A.units+64 < cLine):OpR X (compareOp .NotEq) rNeD:=by
 intro pins s σ H x y v u Q I rx ry h
 obtain ⟨d,e,hd,he,kd,ke,q⟩:=h
 obtain ⟨as,ra⟩:=hd.reads I.hok rx
 obtain ⟨bs,rb⟩:=he.reads I.hok ry
 exact ne_dataH ra rb (ziC kd) (ziC ke) hu (by rw [zru kd ke]; exact ⟨.bl _,H,I,rfl,q⟩)
theorem hu64 {A:Around} {k:Nat} (hr:Room k A):A.units+64 < cLine:=hr.units
end
end L2
end
section
namespace L2
open PySem PySem.Spec PySem.W PyProof.Rows S5
section
variable {X:Cx}
theorem zhG:zgH X (.builtin "isinstance") (λ xs H Q=>∃ x c t b,xs=[x,.ty c]/\TyOf X.K H x t/\kitOne X.K t (.type c)=some b/\Q (.bl b) H):=by
 intro pins s σ H xs us Q I r h
 obtain ⟨x,c,t,b,rfl,ty,e,q⟩:=h
 obtain ⟨u,v,rfl,ru,rv⟩:=Vals.two r
 cases rv
 exact zoO I ru ty e λ tk=>⟨.bl b,H,I.tok tk,rfl,q⟩
def zpF:V->List V->Hp->VK->Prop:=λ x vs H Q=>∃ l xs y,x=.ref l/\vs=[.int 0,y]/\H l=some (.lst xs)/\xs.length < sizeLine/\Q .non (upd H l (.lst (y::xs)))
theorem zoz:MtR X "list.insert" zpF:=by
 intro pins s σ H x vs v us Q I rx rv h
 obtain ⟨l,xs,y,rfl,rfl,hH,hz,q⟩:=h
 cases rx
 obtain ⟨u1,u,rfl,r1,ru⟩:=Vals.two rv
 obtain ⟨t,rfl⟩:=r1
 obtain ⟨z,its,n,r,hl,e⟩:=I.lstM hH
 refine call_meets F.slot_list_insert ⟨_,e,rfl⟩ F.entry_list_insert (F.args_list_insert_3 _ _ _) (AutoSeq1.list_insert_list_int_val_1 l its.toArray n 0 t u (by decide) (by rw [List.size_toArray]; omega)) ⟨e,?_⟩
 refine ⟨.non,_,I.lset (its':=u::its) hH e ?_ (.cons ru r) ?_,rfl,q⟩
 . simp
 . rw [List.length_cons]; omega
def zrC (ds:List Dat) (e:Dat) (j:Nat):Prop:=ds[j]?=some e/\∀ m < j,∀ d,ds[m]?=some d->d≠e
def zr8:V->List V->Hp->VK->Prop:=λ x vs H Q=>∃ l xs y ds e j,x=.ref l/\vs=[y]/\H l=some (.lst xs)/\DVs H xs ds/\DV H y e/\(∀ d∈ds,kqdOk 7 d=true)/\kqdOk 7 e=true/\zrC ds e j/\Q (.int j) H
theorem zo8 {H:Hp}:∀ {vs:List V} {ds:List Dat} {j:Nat} {d:Dat},DVs H vs ds->ds[j]?=some d->∃ v,vs[j]?=some v/\DV H v d
 | _,_,_,_,.nil,e=>by simp at e
 | _,_,0,_,.cons a _,e=>by simp at e; subst e; exact ⟨_,rfl,a⟩
 | _,_,j+1,_,.cons _ r,e=>by
  obtain ⟨v,h1,h2⟩:=zo8 (j:=j) r (by simpa using e)
  exact ⟨v,by simpa using h1,h2⟩
theorem zer {d:Dat} (h:kqdOk 7 d=true):kqdOk 8 d=true:=by
 have all:∀ n d,kqdOk n d=true->kqdOk (n+1) d=true:=λ n=>by
  induction n with
  | zero=>intro d h; cases d <;> simp_all [kqdOk]
  | succ n ih =>
   intro d h
   cases d with
   | tuple ds=>simp only [kqdOk,List.all_eq_true] at h ⊢; exact λ x hx=>ih x (h x hx)
   | list ds=>simp only [kqdOk,List.all_eq_true] at h ⊢; exact λ x hx=>ih x (h x hx)
   | _=>simp_all [kqdOk]
 exact all 7 d h
theorem zmz (hu:X.A.units+64 < cLine):MtR X "list.index" zr8:=by
 intro pins s σ H x vs v us Q I rx rv h
 obtain ⟨l,xs,y,ds,e,j,rfl,rfl,hH,hds,he,kds,ke,⟨hj,hno⟩,q⟩:=h
 cases rx
 obtain ⟨u,rfl,ru⟩:=Vals.one rv
 obtain ⟨z,its,n,r,hl,eo⟩:=I.lstM hH
 obtain ⟨as,ra⟩:=hds.reads I.hok r
 obtain ⟨bs,rb⟩:=he.reads I.hok ru
 have lay:=kqd_lay 8 (.list ds) (by simp only [kqdOk,List.all_eq_true]; exact kds)
 rw [kqdP] at lay
 have lays:PyData.canLayAll0 (kqdPs ds)=true:=by
   have:=lay.1
   simpa [PyData.canLay0] using this
 have dep:PyData.depthAll (kqdPs ds)<=8:=by
   have:=lay.2
   simp only [PyData.depth] at this
   omega
 have laye:=kqd_lay 8 e (zer ke)
 have jl:j < its.length:=by
   have:=(List.getElem?_eq_some_iff.mp hj).1
   have h2:=hds.length
   omega
 have eqs:∀ (y':Value) (hy:y'∈its.toArray) (A':Around),A'.units<=X.A.units+40->SeqAt.EqAt A'.in1 s y' u (PyData.eqv (SeqAt.readOf s.heap y') (kqdP e)):=λ y' hy A' hA =>
   SeqAt.items_eqAt (by simpa using ra) rb lays laye.1 (by have:=Nat.min_le_right (PyData.depthAll (kqdPs ds)) (kqdP e).depth; omega) y' hy
 have at_:∀ (m:Nat) (hm:m < its.length) (d:Dat),ds[m]?=some d->SeqAt.readOf s.heap its[m]=kqdP d:=λ m hm d hd=>by
   obtain ⟨vm,h1,h2⟩:=zo8 hds hd
   obtain ⟨um,h3,h4⟩:=r.get h1
   have:its[m]=um:=by
    rw [List.getElem?_eq_getElem hm] at h3
    exact Option.some.inj h3
   obtain ⟨cs,rc⟩:=h2.reads I.hok h4
   rw [this]
   exact SeqAt.readOf_eq (kqd_lay 8 d (zer (kds d (List.mem_of_getElem? hd)))).1 rc
 refine call_meets F.slot_list_index ⟨_,eo,rfl⟩ F.entry_list_index (F.args_list_index_2 _ _)
   (SeqAt.list_indexAt l its.toArray n none #[] u (λ y'=>PyData.eqv (SeqAt.readOf s.heap y') (kqdP e)) j (by simpa using jl) ?_ ?_ ?_) ⟨eo,λ y' hy=>eqs y' hy _ (by first | exact Nat.le_add_right _ _ | omega),⟨.int j,H,I.tok _,⟨_,rfl⟩,q⟩⟩
 . have:=z
   rw [hl,sizeLine_eq] at this
   omega
 . show PyData.eqv (SeqAt.readOf s.heap its[j]) (kqdP e)=true
   rw [at_ j jl e hj]
   exact (kqd_eqv 8 e e 8 (zer ke) (zer ke)).mpr rfl
 . intro m hm hmj
   have hm':m < its.length:=by simpa using hm
   have hmd:m < ds.length:=by have h2:=hds.length; omega
   show PyData.eqv (SeqAt.readOf s.heap its[m]) (kqdP e)=false
   rw [at_ m hm' ds[m] (List.getElem?_eq_getElem hmd)]
   refine Bool.eq_false_iff.mpr λ z=>hno m hmj ds[m] (List.getElem?_eq_getElem hmd) ((kqd_eqv 8 _ e 8 (zer (kds _ (List.getElem_mem hmd))) (zer ke)).mp z)
end
end L2
end
section
namespace L2
open PySem PySem.Spec PySem.W PyProof.Rows S5
def zrM (td ty tx:TE):TE:=λ σ H Q=>td σ H λ x H1=>∃ a,x=.ref a/\IsD H1 a/\ty σ H1 λ y H2=>tx σ H2 λ z H3=>∃ kvs k,H3 a=some (.dK kvs)/\y=kV k/\kvs.length < sizeLine /\
 (∀ v,valV kvs k=some v->Q v H3)/\(valV kvs k=none->Q z (upd H3 a (.dK (putK kvs k z))))
section
variable {X:Cx} {o e f:Expr} {apos cpos:Pos} {td ty tx:TE}
theorem zpJ (ho:PE X o td) (he:PE X e ty) (hf:PE X f tx) (m:M2 X o "setdefault" apos e f cpos):PE X (.Call (.Attribute o "setdefault" apos) [e,f] [] cpos) (zrM td ty tx):=by
 intro pins s σ H Q I h
 refine wpAny_Call_method m.base m.few m.line PySem.F.plainAttrs_dict PySem.F.slot_dict_setdefault PySem.F.type_dict_setdefault (thn (ho pins s σ H _ I h) λ u s1 ⟨x,H1,I1,rx,a,ex,d,q1⟩=>?_)
 subst ex
 obtain rfl:u=Value.ref a:=rx
 obtain ⟨t1,t2,_⟩:=zmF I1 d
 refine ⟨t1,t2,?_⟩
 rw [m.trees]
 refine Calls.callWith_builtin rfl (Calls.evalArgs_plain (Calls.spliced_cons (thn (he pins s1 σ H1 _ I1 q1) λ iv s2 ⟨y,H2,I2,ry,q2⟩ =>
   Calls.spliced_cons (thn (hf pins s2 σ H2 _ I2 q2) λ fv s3 ⟨z,H3,I3,rz,kvs,k,ea,ey,hl,q3,q4⟩=>Calls.spliced_nil ?_))))
 subst ey
 obtain ⟨hz,hd,vs,rel,dd⟩:=zkJ I3.hok ea
 refine call_meetsIn PySem.F.slot_dict_setdefault dd.typeIs PySem.F.entry_dict_setdefault (PySem.F.args_dict_setdefault_3 _ _ _) (kt_meets_setdefault (zaE X.prog X.w) a (zhu ry) hd fv) ⟨vs,dd,by rw [<-rel.length]; exact hz,λ v' hv=>?_,λ hn h' dd' hs=>?_⟩
 . cases l:valV kvs k with
   | none =>
    have:=RelO.none_of (o:=valueAt vs k) (by rw [<-l]; exact rel.val k)
    rw [this] at hv; cases hv
   | some v =>
    obtain ⟨w',hw,rw'⟩:=RelO.some_of (v:=v) (o:=valueAt vs k) (by rw [<-l]; exact rel.val k)
    rw [hw] at hv; cases hv
    exact ⟨v,H3,I3.tok _,rw',q3 v l⟩
 . have l:valV kvs k=none:=by
    cases l:valV kvs k with
    | none=>rfl
    | some v =>
     obtain ⟨w',hw,_⟩:=RelO.some_of (v:=v) (o:=valueAt vs k) (by rw [<-l]; exact rel.val k)
     rw [hw] at hn; cases hn
   have hl2:(putK kvs k z).length<=sizeLine:=by have:=ze1 kvs k z; omega
   have he2:∃ q,h'.get? a=some q:=let ⟨q,_,_,hq,_⟩:=dd'; ⟨q,hq⟩
   exact ⟨z,_,zhE I3 (by rw [ea]; exact True.intro) hs he2 (zmL hl2 hd (rel.put k rz) dd'),rz,q4 l⟩
end
section
variable {X:Cx}
def rJoin:V->List V->Hp->VK->Prop:=λ x vs H Q=>∃ sep l ys,x=.str sep/\vs=[.ref l]/\H l=some (.lst (ys.map V.str))/\(ys.map (·.length)).sum+ys.length * sep.length<=16777216/\Q (.str (Txt.join sep ys)) H
theorem zmj:∀ {ys:List Str} {us:List Value},Vals (ys.map V.str) us->StrsAre us ys
 | [],_,.nil=>.nil
 | y::r,_,.cons q t=>by obtain ⟨k,rfl⟩:=q; exact .cons y k (zmj t)
theorem zoy:MtR X "str.join" rJoin:=by
 intro pins s σ H x vs v us Q I rx rv h
 obtain ⟨sep,l,ys,rfl,rfl,hH,hok,q⟩:=h
 obtain ⟨t,rfl⟩:=rx
 obtain ⟨u,rfl,ru⟩:=Vals.one rv
 cases ru
 obtain ⟨z,its,n,r,hl,e⟩:=I.lstM hH
 exact join_list ⟨_,e,rfl,n,rfl⟩ (by simpa using zmj r) hok λ t' k=>⟨.str _,H,I.tok _,⟨_,rfl⟩,q⟩
end
section
variable {X:Cx} {pins:List (Addr×Obj)} {σ:St} {H:Hp} {s:Shared} {a:Addr} {kvs:List (Key×V)} {o:Obj}
theorem zqz {P:Program} {w:World} {H:Hp} {h:Heap} {a:Addr} {u v:HO} (ok:HOk P w H h) (e:H a=some v) (nt:∀ xs,v≠.tup xs) (no:∀ y,v≠.own y) (new:zbP P w (upd H a u) h a u):HOk P w (upd H a u) h:=λ b x q=>by
 by_cases hb:b=a
 . subst hb; rw [zab] at q; cases q; exact new
 . rw [zae hb] at q
   refine (ok b x q).stay (λ _ _ _ z=>z) (λ c z=>?_) λ c xs z=>?_
   . rw [zae λ k=>by rw [k,e] at z; cases z; exact no _ rfl]; exact z
   . rw [zae λ k=>by rw [k,e] at z; cases z; exact nt _ rfl]; exact z
theorem Inv.freeze (I:Inv X pins σ H s) (e:H a=some (.dK kvs)):∃ o,s.heap.get? a=some o/\Inv X pins σ (upd H a (.frz o (.dK kvs))) s:=by
 obtain ⟨hz,hd,vs,rel,ob,es,ep,ho,r⟩:=I.hok a _ e
 have ne:∀ b,H b=none->b≠a:=λ b z k=>by rw [k,e] at z; cases z
 refine ⟨ob,ho,I.ok,I.os,I.bare,⟨I.base.keep,I.base.slot,λ b o h1 h2 h3=>?_,I.base.there,λ b xs h1=>?_,λ b o u h1=>?_,λ b ps h1=>?_⟩,I.loc,I.cell,?_,λ x c h1=>?_,λ p hp=>?_,?_,I.len⟩
 . have z:=I.base.free b o h1 h2 h3
   rw [zae (ne b z)]; exact z
 . have z:=I.base.tups b xs h1
   rw [zae λ k=>by rw [k,e] at z; cases z]; exact z
 . have z:=I.base.frzs b o u h1
   rw [zae λ k=>by rw [k,e] at z; cases z]; exact z
 . obtain ⟨more,z⟩:=I.base.tbls b ps h1
   exact ⟨more,by rw [zae λ k=>by rw [k,e] at z; cases z]; exact z⟩
 . rw [zae (ne _ I.free)]; exact I.free
 . have z:=I.zdQ x c h1
   rw [zae (ne _ z)]; exact z
 . obtain ⟨h1,h2,h3⟩:=I.pin p hp
   exact ⟨h1,by rw [zae (ne _ h2)]; exact h2,h3⟩
 . exact zqz I.hok e (λ _ z=>nomatch z) (λ _ z=>nomatch z) ⟨ho,hz,hd,vs,rel,ob,es,ep,ho,r⟩
theorem Inv.thaw (I:Inv X pins σ H s) (e:H a=some (.frz o (.dK kvs))) (h0:∀ ob u,X.H₀ a≠some (.frz ob u)):Inv X pins σ (upd H a (.dK kvs)) s:=by
 obtain ⟨ho,dk⟩:=I.hok a _ e
 have ne:∀ b,H b=none->b≠a:=λ b z k=>by rw [k,e] at z; cases z
 refine ⟨I.ok,I.os,I.bare,⟨I.base.keep,I.base.slot,λ b o h1 h2 h3=>?_,I.base.there,λ b xs h1=>?_,λ b o u h1=>?_,λ b ps h1=>?_⟩,I.loc,I.cell,?_,λ x c h1=>?_,λ p hp=>?_,?_,I.len⟩
 . have z:=I.base.free b o h1 h2 h3
   rw [zae (ne b z)]; exact z
 . have z:=I.base.tups b xs h1
   rw [zae λ k=>by rw [k,e] at z; cases z]; exact z
 . have z:=I.base.frzs b o u h1
   rw [zae λ k=>by rw [k] at h1; exact h0 _ _ h1]; exact z
 . obtain ⟨more,z⟩:=I.base.tbls b ps h1
   exact ⟨more,by rw [zae λ k=>by rw [k,e] at z; cases z]; exact z⟩
 . rw [zae (ne _ I.free)]; exact I.free
 . have z:=I.zdQ x c h1
   rw [zae (ne _ z)]; exact z
 . obtain ⟨h1,h2,h3⟩:=I.pin p hp
   exact ⟨h1,by rw [zae (ne _ h2)]; exact h2,h3⟩
 . refine zqz I.hok e (λ _ z=>nomatch z) (λ _ z=>nomatch z) ?_
   obtain ⟨hz,hd,vs,rel,r⟩:=dk
   exact ⟨hz,hd,vs,rel,r⟩
theorem Inv.zsi (I:Inv X pins σ H s) (e:H a=some (.dK kvs)):∀ ob u,X.H₀ a≠some (.frz ob u):=λ ob u z=>by
 have:=I.base.frzs a ob u z
 rw [e] at this; cases this
end
def Itk (a:Addr) (o:Obj) (kvs:List (Key×V)):It :=
 ⟨λ i H=>i < kvs.length/\H a=some (.frz o (.dK kvs)),λ i H x H'=>H'=H/\∃ k v,kvs[i]?=some (k,v)/\x=kV k,λ i H=>kvs.length<=i/\H a=some (.frz o (.dK kvs))⟩
def epOf (o:Obj):Nat:=match o.data with | .dict _ ep=>ep | _=>0
theorem zlM {P:Program} {w:World} {H:Hp} {h:Heap} {a:Addr} {o:Obj} {kvs:List (Key×V)} (ok:HOk P w H h) (e:H a=some (.frz o (.dK kvs))):(a == sysModules)=false/\∃ vs,KV kvs vs/\h.DictAt (zaE P w) a vs (epOf o)/\vs.length=kvs.length:=by
 obtain ⟨ho,hz,hd,vs,rel,ob,es,ep,ho',hx,hdt,r⟩:=ok a _ e
 rw [ho] at ho'; cases ho'
 have:epOf o=ep:=by unfold epOf; rw [hdt]
 exact ⟨hd,vs,rel,⟨o,es,ho,hx,by rw [this]; exact hdt,r⟩,rel.length.symm⟩
theorem znP {P:Program} {w:World} {K:PySem.W.Frag} {tg:Expr} (a it:Addr) (o:Obj) (kvs:List (Key×V)):Turn P w K tg (Itk a o kvs) [it] it (λ i h=>h.IsKeyIter it a i kvs.length (epOf o)) where
 mem:=by simp
 obj:=λ i h st b hb=>by
  have e:b=it:=by simpa using hb
  subst e
  obtain ⟨ob,e,c,d⟩:=st
  exact ⟨ob,e,λ v z=>by rw [d] at z; cases z⟩
 keep:=λ i h h' st k=>st.at λ ob e=>k it (by simp) ob e
 item:=by
  intro X hP hw hK hc i pins s σ H E I hf st hg
  subst hP hw hK
  obtain ⟨hlt,hH⟩:=hg
  obtain ⟨lo,vs,rel,dat,hl⟩:=zlM I.hok hH
  obtain ⟨f0,f1,f2,f3,f4,f5⟩:=hf it (by simp)
  obtain ⟨⟨k,x⟩,hx⟩:∃ q,vs[i]?=some q:=⟨_,List.getElem?_eq_getElem (by omega)⟩
  rw [<-hl] at st
  refine wpAny_pyNext_dict_item st dat hx λ key h' hkey st' sb=>?_
  have I1:Inv X pins σ H { s with heap:=h' }:=I.turned (t':=s.toks) (λ b ob hb e=>(sb.2 b hb).trans e) f0 f1 f3 f4 f5
  obtain ⟨ob,e1,c1,d1⟩:=id st'
  obtain ⟨⟨k',v⟩,hkv⟩:∃ q,kvs[i]?=some q:=⟨_,List.getElem?_eq_getElem hlt⟩
  have hk:k'=k:=by
    have e2:=congrArg (λ l=>l[i]?) (KV.keys rel)
    simp only [List.getElem?_map,hkv,hx] at e2
    exact Option.some.inj e2
  subst hk
  rw [hl] at st'
  refine ⟨key,rfl,zp2 (s:={ s with heap:=h' }) e1 c1 d1 (by decide) ⟨kV k',H,I1,?_,⟨rfl,k',v,hkv,rfl⟩,st',λ b hb=>(hf b hb).1⟩⟩
  rcases zaT (show zh6 k' key=true from hkey) with ⟨n,t,rfl,rfl⟩ | ⟨y,t,rfl,rfl⟩
  . exact ⟨t,rfl⟩
  . exact ⟨t,rfl⟩
 done:=by
  intro X hP hw hK hc i pins s σ H E I hf st hg
  subst hP hw hK
  obtain ⟨hle,hH⟩:=hg
  obtain ⟨lo,vs,rel,dat,hl⟩:=zlM I.hok hH
  obtain ⟨f0,f1,f2,f3,f4,f5⟩:=hf it (by simp)
  rw [<-hl] at st
  exact wpAny_pyNext_dict_end (I.ok.hd hc) st dat (List.getElem?_eq_none_iff.mpr (by omega)) λ h' eb=>⟨rfl,I.turned (t':=s.toks) (λ b ob hb e=>eb b ob hb e) f0 f1 f3 f4 f5⟩
 self:=λ _ _ _ _ _ st h=>wpAny_pyIter_keyiter st h
def zs7 (tl:TE):TI:=λ σ H R=>tl σ H λ x H1=>∃ a kvs,x=.ref a/\H1 a=some (.dK kvs)/\∀ o,R (Itk a o kvs) (upd H1 a (.frz o (.dK kvs)))
section
variable {X:Cx} {tg l:Expr} {tl:TE}
theorem zq7 (hl:PE X l tl):PI X tg l (zs7 tl):=by
 intro pins s σ H R I h
 refine thn (hl pins s σ H _ I h) λ u s1 ⟨x,H1,I1,rx,a,kvs,ex,ea,q⟩=>?_
 subst ex
 obtain rfl:u=Value.ref a:=rx
 obtain ⟨o,ho,I2⟩:=I1.freeze ea
 obtain ⟨lo,vs,rel,dat,hlen⟩:=zlM I2.hok zab
 refine wpAny_pyIter_dict lo dat ?_
 have hf:=I2.fresh
 refine ⟨s1.heap.objs.size,[s1.heap.objs.size],_,Itk a o kvs,upd H1 a (.frz o (.dK kvs)),rfl,I2.kept (t':=s1.toks) (λ b ob e=>Heap.get?_push_of_some _ e),znP a _ o kvs,?_,λ b hb=>?_,q o⟩
 . show Heap.IsKeyIter _ s1.heap.objs.size a 0 kvs.length (epOf o)
   rw [<-hlen]
   exact ⟨_,Heap.get?_push_size _ rfl,rfl,rfl⟩
 . have e:b=s1.heap.objs.size:=by simpa using hb
   rw [e]
   exact I2.fpOk (Nat.le_refl _) hf
def zsX (t:TS):TS:=λ D σ H=>t { nx:=λ σ' H2=>∃ a o kvs,H a=some (.dK kvs)/\H2 a=some (.frz o (.dK kvs))/\D.nx σ' (upd H2 a (.dK kvs)),rt:=λ v H2=>∃ a o kvs,H a=some (.dK kvs)/\H2 a=some (.frz o (.dK kvs))/\D.rt v (upd H2 a (.dK kvs)) } σ H
theorem zq5 {st:Stmt} {t:TS} (h:PS X st t):PS X st (zsX t):=by
 intro pins s σ H D I hq
 refine thn (h pins s σ H _ I hq) λ fl s1 z=>?_
 cases fl with
 | next=>obtain ⟨σ',H2,I2,a,o,kvs,e0,e2,q⟩:=z; exact ⟨σ',_,I2.thaw e2 (I.zsi e0),q⟩
 | brk=>obtain ⟨σ',H2,I2,q⟩:=z; exact q.elim
 | cont=>obtain ⟨σ',H2,I2,q⟩:=z; exact q.elim
 | ret u=>obtain ⟨v,σ',H2,I2,r,a,o,kvs,e0,e2,q⟩:=z; exact ⟨v,σ',_,I2.thaw e2 (I.zsi e0),r,q⟩
end
end L2
end
section
namespace L2
open PySem PySem.Spec PySem.W PyProof.Rows S5
def SetX (P:Program) (w:World) (q:Addr) (ks:List Key):Heap->Prop:=λ h=>S6.SetP (zaE P w) h q ks
theorem zn2 {P:Program} {w:World} {H:Hp} {h:Heap} {q:Addr} {ks:List Key} (x:S6.SetP (zaE P w) h q ks):zbP P w H h q (.ext (SetX P w q ks)) :=
 ⟨x,let ⟨_,_,o,_,_,_,e,_⟩:=x; ⟨o,e⟩,λ h1 h2 y k=>S6.SetP.at y k⟩
abbrev zqg (ks:List Key):Prop:=zcU ks
theorem zoH {P:Program} {w:World} {k:Key} {u:Value} (r:RelV (kV k) u):S6.KVal (zaE P w) k u:=by
 cases k with
 | inl i =>
  obtain ⟨t,rfl⟩:=(show ∃ t,u=Value.int i t from r)
  exact ⟨zhj P w i t,rfl⟩
 | inr x =>
  obtain ⟨t,rfl⟩:=(show ∃ t,u=Value.str x t from r)
  exact ⟨zhi P w x t,rfl⟩
section
variable {X:Cx}
def SSrc (K:Frag) (H:Hp) (p:Addr) (ks:List Key):Prop:=SqL K H p (ks.map kV)\/∃ kvs:List (Key×V),H p=some (.dK kvs)/\kvs.map (·.1)=ks/\kvs.length<=4
theorem zmQ (hc:X.calm=true):zgH X (.type "set") (λ xs H Q=>∃ p ks,xs=[.ref p]/\SSrc X.K H p ks/\zqg ks/\ks.length < 4000/\∀ q,H q=none->Q (.ref q) (upd H q (.ext (SetX X.prog X.w q (S6.deds ks))))):=by
 intro pins s σ H xs us Q I r h
 obtain ⟨p,ks,rfl,src,tx,hl,h⟩:=h
 obtain ⟨u,rfl,ru⟩:=Vals.one r
 cases ru
 have hp:∃ o,s.heap.get? p=some o:=by
   rcases src with hq | ⟨kvs,hd,_⟩
   . obtain ⟨its,rv,⟨o,n,e,_⟩,hz⟩:=I.list hq
     exact ⟨o,e⟩
   . obtain ⟨z,lo,vs,rel,o,es,ep,e,_⟩:=zkJ I.hok hd
     exact ⟨o,e⟩
 refine S6.zqi (R:=λ h'=>S6.SetP (zaE X.prog X.w) h' s.heap.objs.size (S6.deds ks)/\∀ b o,s.heap.get? b=some o->h'.get? b=some o) hp ?_ λ h' tk ⟨hS,kp⟩=>?_
 . have e0:(s.heap.push (S6.set0 X.w)).get? s.heap.objs.size=some (S6.set0 X.w):=Heap.get?_push_size _ rfl
   have fin:∀ {s':Shared},(∃ h' tk,s'={ s with heap:=h',toks:=tk }/\S6.SetP (zaE X.prog X.w) h' s.heap.objs.size (S6.deds ks)/\∀ b o,b≠s.heap.objs.size->(s.heap.push (S6.set0 X.w)).get? b=some o->h'.get? b=some o) ->
       ∃ h' tk,s'={ s with heap:=h',toks:=tk }/\S6.SetP (zaE X.prog X.w) h' s.heap.objs.size (S6.deds ks)/\∀ b o,s.heap.get? b=some o->h'.get? b=some o:=λ ⟨h',tk,e,hS,kp⟩ =>
     ⟨h',tk,e,hS,λ b o q=>kp b o (Nat.ne_of_lt (Heap.lt_size q)) (Heap.get?_push_of_some _ q)⟩
   rcases src with hq | ⟨kvs,hd,hks,h4⟩
   . obtain ⟨its,rv,pl,hz⟩:=I.list hq
     have hlen:its.length=ks.length:=by rw [<-rv.length,List.length_map]
     refine wpAny_mono (S6.zo5 (s:={ s with heap:=s.heap.push (S6.set0 X.w) }) (knd:=zaE X.prog X.w) (ks:=ks) (items:=its.toArray) (I.ok.hd hc) (pl.isList.push _) (S6.zla e0) ?_ (by simpa using hlen) (by unfold scanBound; omega) λ i v hv=>?_) (λ _ s' q=>fin q) λ _ _ z=>z
     . obtain ⟨o,n,e,_⟩:=pl
       exact Nat.ne_of_gt (Heap.lt_size e)
     . have hv':its[i]?=some v:=by simpa using hv
       have hi:i < ks.length:=by rw [<-hlen]; exact (List.getElem?_eq_some_iff.mp hv').1
       have e1:(ks.map kV)[i]?=some (kV ks[i]):=by rw [List.getElem?_map,List.getElem?_eq_getElem hi]; rfl
       obtain ⟨u,e2,ru⟩:=rv.get e1
       rw [hv'] at e2; cases e2
       exact ⟨ks[i],List.getElem?_eq_getElem hi,zoH ru⟩
   . obtain ⟨z,lo,vs,rel,dd⟩:=zkJ I.hok hd
     have hkeys:vs.map (·.1)=ks:=by rw [<-KV.keys rel]; exact hks
     have:=S6.zo6 (A:=X.A.in1.in1) (E:=X.xe) (s:={ s with heap:=s.heap.push (S6.set0 X.w) }) (knd:=zaE X.prog X.w) lo (dd.push _) e0 (by rw [<-rel.length]; exact h4) λ q hq u hu=>by
       rcases zaT (show zh6 q.1 u=true from hu) with ⟨i,t,e,rfl⟩ | ⟨y,t,e,rfl⟩
       . rfl
       . rfl
     rw [hkeys] at this
     exact wpAny_mono this (λ _ s' q=>fin q) λ _ _ z=>z
 . refine ⟨.ref s.heap.objs.size,upd H s.heap.objs.size (.ext (SetX X.prog X.w s.heap.objs.size (S6.deds ks))),I.laid kp (Nat.le_refl _) (zn2 hS),rfl,h _ I.fresh⟩
end
section
variable {prog:Program} {w:World} {A:Around} {E:Value->Shared->Prop} {s:Shared}
theorem zm6 {a:Addr} {PC:List Value->Heap->Prop} {Q:Value->Shared->Prop}
  (hcol:∀ R:List Value->Shared->Prop,(∀ h' tk d vs,zjz s.heap h'->PC vs h'->R vs { s with heap:=h',toks:=tk,drawn:=d })->wpAny (model prog w) A.in1 (collect (.ref a)) R E s)
  (h64:∀ vs h',PC vs h'->vs.length < 64)
  (hsort : ∀ h' tk d vs, zjz s.heap h' → PC vs h' → wpAny (model prog w) A.in1.in1 (Builtin.«list.sort» ⟨[.ref h'.objs.size], []⟩) (fun fin s' => fin = .done (.ret .none) ∧ Q (.ref h'.objs.size) s') E { s with heap := h'.push { cls := .type "list", data := .seq vs.toArray }, toks := tk, drawn := d }) :
  wpAny (model prog w) A (call (.builtin "sorted") [.ref a]) Q E s:=by
 refine Calls.call_function_entry kind_sorted plain_sorted entry_sorted (args_sorted1 _) ?_
 unfold Builtin.«sorted»
 refine wpAny_bind (m:=checkCount "sorted" 1 1 _) (wpAny_pure (wpAny_bind (hcol _ λ h' tk d vs hk hp=>?_)))
 refine wpAny_bind (wpAny_newList ?_ (by have:=h64 vs h' hp; rw [sizeLine_eq]; omega))
 refine wpAny_bind (wpAny_holding (wpAny_call_entry slot_list_sort ⟨_,Heap.get?_push_size _ rfl,rfl⟩ entry_list_sort ?_ (args_list_sort _)))
 refine wpAny_mono (hsort h' tk d vs hk hp) (λ fin s' hq=>?_) λ _ _ z=>z
 obtain ⟨rfl,hq⟩:=hq
 exact ⟨_,rfl,wpAny_pure ⟨_,rfl,hq⟩⟩
end
section
variable {X:Cx}
theorem Inv.zs5 {pins:List (Addr×Obj)} {σ:St} {H:Hp} {s:Shared} {h':Heap} {t':Nat} {d':Drawn} (I:Inv X pins σ H s) (k:∀ b u,s.heap.get? b=some u->h'.get? b=some u):Inv X pins σ H { s with heap:=h',toks:=t',drawn:=d' }:=by
 have J:=I.kept (t':=t') k
 exact ⟨J.ok,J.os,J.bare,J.base,J.loc,J.cell,J.free,J.zdQ,J.pin,J.hok,J.len⟩
theorem zcS (hc:X.calm=true):zgH X (.builtin "sorted") (λ xs H Q=>∃ q ks,xs=[.ref q]/\H q=some (.ext (SetX X.prog X.w q ks))/\ks.Nodup/\zqg ks/\ks.length < 64 /\
   ∀ (ys:List Key) (l:Addr),ys.Perm ks->ys.Pairwise (λ a b=>kLt a b=true)->H l=none->Q (.ref l) (upd H l (.lst (ys.map kV)))):=by
 intro pins s σ H xs us Q I r h
 obtain ⟨p,ks0,rfl,hp,nd0,tx0,h640,h⟩:=h
 obtain ⟨u,rfl,ru⟩:=Vals.one r
 cases ru
 obtain ⟨hS,_,_⟩:=I.hok p _ hp
 have hS:S6.SetP (zaE X.prog X.w) s.heap p ks0:=hS
 refine zm6 (PC:=λ vs _=>∃ ks:List Key,ks.Perm ks0/\Vals (ks.map kV) vs) (λ R hR=>?_) (λ vs _ ⟨ks,pk,hv⟩=>by rw [<-hv.length,List.length_map,pk.length_eq]; exact h640) (λ h' tk d vs hk ⟨ks,pk,hv⟩=>?_)
 . refine S6.zk9 (A:=X.A.in1) (I.ok.hd hc) hS λ h' tk d vs ys py hy kp=>hR h' tk d vs kp ⟨ys,py,?_⟩
   clear hR
   clear py kp
   induction hy with
   | nil=>exact .nil
   | @cons v k vs ys r _ ih =>
     refine .cons ?_ ih
     rcases zaT (show zh6 k v=true from r) with ⟨i,t,rfl,rfl⟩ | ⟨y,t,rfl,rfl⟩
     . exact ⟨t,rfl⟩
     . exact ⟨t,rfl⟩
 . have nd:ks.Nodup:=pk.nodup_iff.mpr nd0
   have one:zcU ks:=tx0.imp (λ h k hk=>h k (pk.mem_iff.mp hk)) λ h k hk=>h k (pk.mem_iff.mp hk)
   have h64:ks.length < 64:=by rw [pk.length_eq]; exact h640
   have hl:vs.length=ks.length:=by rw [<-hv.length,List.length_map]
   have O:=ordK nd one
   rw [<-hl] at O
   refine zn0 (s:={ s with heap:=h'.push { cls:=.type "list",data:=.seq vs.toArray },toks:=tk,drawn:=d }) (κ:=oneType') (c:=0) (Heap.get?_push_size _ rfl) (by rw [hl]; exact h64) O (λ h1 _ h2 Qk hq=>?_) (λ h1 _ i j hi hj hne Qb hq=>?_) (λ q h3 c' hp hu hkb hg=>⟨rfl,?_⟩)
   . refine kas_kind (T:=.type (kTy ks)) h2 (λ v hvm=>?_) ?_ ?_ hq
     . obtain ⟨i,hi⟩:=List.mem_iff_getElem?.mp hvm
       have hi':i < ks.length:=by rw [<-hl]; exact (List.getElem?_eq_some_iff.mp hi).1
       have:=zeu hv hi'
       rw [List.getD_eq_getElem?_getD,hi] at this
       exact ty_keys one (zej hi') this _ _
     . rcases zmC ks with z | z <;> rw [z] <;> decide
     . rcases zmC ks with z | z <;> rw [z] <;> decide
   . rw [keyLt'_oneType]
     rw [hl] at hi hj
     exact zoD (zor one (zej hi) (zej hj)) (zeu hv hi) (zeu hv hj) hq
   . rw [hl] at hp hu
     have keepAll:∀ b o,s.heap.get? b=some o->h3.get? b=some o:=λ b o e=>hkb b o (Nat.ne_of_lt (Heap.lt_size (hk b o e))) (Heap.get?_push_of_some _ (hk b o e))
     have I1:Inv X pins σ H { s with heap:=h3,toks:=tk,drawn:=d }:=I.zs5 keepAll
     have fp:=I.zsv (a:=h'.objs.size) λ b o e=>Heap.lt_size (hk b o e)
     have vp:=zjF hv (p:=q) (by rw [List.length_map]; exact hp)
     rw [zmr kV ks (Sum.inl 0) hp] at vp
     have lp:(zg5 ks (Sum.inl 0) q).length=ks.length:=(zfh ks (Sum.inl 0) hp).length_eq
     refine ⟨.ref h'.objs.size,upd H h'.objs.size (.lst ((zg5 ks (Sum.inl 0) q).map kV)),?_,rfl,h _ _ ((zfh ks _ hp).trans pk) (zj3 ks _ hp hu) fp.1⟩
     have f2:FpOk X pins H h'.objs.size:=fp
     exact I1.zrH f2 ⟨by rw [List.length_map,lp,sizeLine_eq]; omega,picked vs q,c',vp,hg⟩
end
end L2
end
section
namespace L2
open PySem PySem.Spec PyProof.Rows
def Nx (n i:Nat) (p:Prop):Prop:=∃ m',m' < n - i/\m'=n - (i+1)/\i+1<=n/\p
theorem nx {n i:Nat} {p:Prop} (h:i < n) (hp:p):Nx n i p:=⟨n - (i+1),by omega,rfl,h,hp⟩
section
variable {K:PySem.W.Frag} {a:Addr} {xs:List V} {g:TG} {tt:TT} {te:TE} {σ₀:St} {H:Hp} {Fin:List V->Hp->Prop}
theorem zef (Pv:Nat->List V->St->Hp->Prop) (h0:Pv 0 [] σ₀ H) (hl:∀ i ys σ H,Pv i ys σ H->SqL K H a xs/\ys.length<=i) (hz:xs.length<=sizeLine)
   (hs:∀ i x ys σ H,i < xs.length->xs[i]?=some x->Pv i ys σ H->g x σ H λ σ2 H2=>tt σ2 H2 λ b H3=>if b=true then te σ2 H3 λ y H4=>Nx xs.length i (Pv (i+1) (ys++[y]) σ2 H4) else Nx xs.length i (Pv (i+1) ys σ2 H3))
   (hd:∀ ys σ H,Pv xs.length ys σ H->Fin ys H):zih (Itl K a) g tt te σ₀ H Fin:=by
 refine ⟨λ i m ys σ H=>m=xs.length - i/\i<=xs.length/\Pv i ys σ H,⟨xs.length,by simp,Nat.zero_le _,h0⟩,?_⟩
 rintro i m ys σ H ⟨rfl,hi,p⟩
 obtain ⟨q,hy⟩:=hl i ys σ H p
 by_cases hlt:i < xs.length
 . refine .inr ⟨⟨xs,xs[i],q,by simp [hlt]⟩,by omega,λ x H' y=>?_⟩
   obtain ⟨e,y⟩:=y
   subst e
   exact hs i x ys σ _ hlt (y xs q) p
 . have e:i=xs.length:=by omega
   subst e
   exact .inl ⟨⟨xs,q,Nat.le_refl _⟩,hd ys σ H p⟩
theorem zmO (Pv:Nat->List V->St->Hp->Prop) (h0:Pv 0 [] σ₀ H) (hl:∀ i ys σ H,Pv i ys σ H->SqT K H a xs/\ys.length<=i) (hz:xs.length<=sizeLine)
   (hs:∀ i x ys σ H,i < xs.length->xs[i]?=some x->Pv i ys σ H->g x σ H λ σ2 H2=>tt σ2 H2 λ b H3=>if b=true then te σ2 H3 λ y H4=>Nx xs.length i (Pv (i+1) (ys++[y]) σ2 H4) else Nx xs.length i (Pv (i+1) ys σ2 H3))
   (hd:∀ ys σ H,Pv xs.length ys σ H->Fin ys H):zih (Itt K a) g tt te σ₀ H Fin:=by
 refine ⟨λ i m ys σ H=>m=xs.length - i/\i<=xs.length/\Pv i ys σ H,⟨xs.length,by simp,Nat.zero_le _,h0⟩,?_⟩
 rintro i m ys σ H ⟨rfl,hi,p⟩
 obtain ⟨q,hy⟩:=hl i ys σ H p
 by_cases hlt:i < xs.length
 . refine .inr ⟨⟨xs,xs[i],q,by simp [hlt]⟩,by omega,λ x H' y=>?_⟩
   obtain ⟨e,y⟩:=y
   subst e
   exact hs i x ys σ _ hlt (y xs q) p
 . have e:i=xs.length:=by omega
   subst e
   exact .inl ⟨⟨xs,q,Nat.le_refl _⟩,hd ys σ H p⟩
theorem ziD {lo:Int} {n:Nat} (Pv:Nat->List V->St->Hp->Prop) (h0:Pv 0 [] σ₀ H) (hl:∀ i ys σ H,Pv i ys σ H->ys.length<=i) (hz:n<=sizeLine)
   (hs:∀ i ys σ H,i < n->Pv i ys σ H->g (.int (lo+i)) σ H λ σ2 H2=>tt σ2 H2 λ b H3=>if b=true then te σ2 H3 λ y H4=>Nx n i (Pv (i+1) (ys++[y]) σ2 H4) else Nx n i (Pv (i+1) ys σ2 H3))
   (hd:∀ ys σ H,Pv n ys σ H->Fin ys H):zih (Itr lo n) g tt te σ₀ H Fin:=by
 refine ⟨λ i m ys σ H=>m=n - i/\i<=n/\Pv i ys σ H,⟨n,by simp,Nat.zero_le _,h0⟩,?_⟩
 rintro i m ys σ H ⟨rfl,hi,p⟩
 have hy:=hl i ys σ H p
 by_cases hlt:i < n
 . refine .inr ⟨hlt,by omega,λ x H' y=>?_⟩
   obtain ⟨e,y⟩:=y
   subst e y
   exact hs i ys σ _ hlt p
 . have e:i=n:=by omega
   subst e
   exact .inl ⟨Nat.le_refl _,hd ys σ H p⟩
theorem zph {o:Obj} {kvs:List (Key×V)} (Pv:Nat->List V->St->Hp->Prop) (h0:Pv 0 [] σ₀ H) (hl:∀ i ys σ H,Pv i ys σ H->H a=some (.frz o (.dK kvs))/\ys.length<=i) (hz:kvs.length<=sizeLine)
   (hs:∀ i k v ys σ H,i < kvs.length->kvs[i]?=some (k,v)->Pv i ys σ H->g (kV k) σ H λ σ2 H2=>tt σ2 H2 λ b H3=>if b=true then te σ2 H3 λ y H4=>Nx kvs.length i (Pv (i+1) (ys++[y]) σ2 H4) else Nx kvs.length i (Pv (i+1) ys σ2 H3))
   (hd:∀ ys σ H,Pv kvs.length ys σ H->Fin ys H):zih (Itk a o kvs) g tt te σ₀ H Fin:=by
 refine ⟨λ i m ys σ H=>m=kvs.length - i/\i<=kvs.length/\Pv i ys σ H,⟨kvs.length,by simp,Nat.zero_le _,h0⟩,?_⟩
 rintro i m ys σ H ⟨rfl,hi,p⟩
 obtain ⟨q,hy⟩:=hl i ys σ H p
 by_cases hlt:i < kvs.length
 . refine .inr ⟨⟨hlt,q⟩,by omega,λ x H' y=>?_⟩
   obtain ⟨e,k,v,hk,ex⟩:=y
   subst e ex
   exact hs i k v ys σ _ hlt hk p
 . have e:i=kvs.length:=by omega
   subst e
   exact .inl ⟨⟨Nat.le_refl _,q⟩,hd ys σ H p⟩
end
end L2
end
section
namespace L2
open PySem
theorem Same.zaw {H:Hp} {p:Addr} {o:HO} (n:H p=none):Same H (upd H p o):=λ b u e=>by rw [zae (zaf e n)]; exact e
theorem Same.upd2 {H H':Hp} {p:Addr} {o:HO} (m:Same H H') (n:H' p=none):Same H (upd H' p o):=λ b u e=>by rw [zae (zaf (m b u e) n)]; exact m b u e
theorem zap {H:Hp} {p q:Addr} {o u:HO} (e:H q=some u) (n:H p=none):upd H p o q=some u:=by rw [zae (zaf e n)]; exact e
end L2
namespace TP
open PySem L2 TH
structure Ad where
 zdR:Addr
 zaB:Addr
 zb7:Addr
 zaX:Addr
 zhH:Addr
 zcT:Addr
structure AdOk (A:Ad):Prop where
 wr:A.zdR≠A.zaB
 wd:A.zdR≠A.zb7
 wh:A.zdR≠A.zaX
 rd:A.zaB≠A.zb7
 rh:A.zaB≠A.zaX
 dh:A.zb7≠A.zaX
def useS (w:Bool):Str:=if w then "writing" else "reading"
def stS:DS->Str
 | .zar => "going"
 | .waiting => "waiting"
 | .kept => "kept"
 | .dropped => "given up"
def actV (a:Act Str):List V:=[.str (if a.wr then "write" else "read"),.str a.key,.int a.val]
def rowV:Row Str->List V
 | .begin d=>[.str "begin",.int d]
 | .write d k b v=>[.str "write",.int d,.str k,.int b,.int v]
 | .keep d=>[.str "keep",.int d]
 | .drop d=>[.str "give up",.int d]
def zbY (p:Nat×Bool):List V:=[.int p.1,.str (useS p.2)]
def TupAt (H:Hp) (v:V) (xs:List V):Prop:=∃ p,v=.ref p/\H p=some (.tup xs)
abbrev zau (H:Hp) (vs:List V) (xss:List (List V)):Prop:=Paired (TupAt H) vs xss
def zqH (a:Act Str):List (Str×V):=[("use",.str (useS a.wr)),("key",.str a.key),("value",if a.wr then .int a.val else .non)]
def zcr (A:Ad) (H:Hp) (v:V):Option (Act Str)->Prop
 | none=>v=.non
 | some a=>∃ p dx,v=.ref p/\H p=some (.ins A.zdR dx (zqH a))
def wantOf (D:Deed Str):Option (Act Str):=if D.st=.waiting then D.wish else none
def bkV (l:List (Str×Int)):List (Key×V):=l.map λ p=>(Sum.inr p.1,.int p.2)
structure zbm (l:List (Str×Int)) (b:Book Str):Prop where
 nd:(l.map (·.1)).Nodup
 mem:∀ k v,(k,v)∈l↔b k=some v
theorem zpk:∀ {l:List (Str×Int)} {k:Str},(l.map (·.1)).Nodup->valV (bkV l) (Sum.inr k)=(l.find? λ p=>decide (p.1=k)).map λ p=>V.int p.2
 | [],_,_=>rfl
 | p::r,k,nd=>by
  obtain ⟨_,nd'⟩:=List.nodup_cons.mp nd
  have ih:=zpk (l:=r) (k:=k) nd'
  unfold valV bkV at ih ⊢
  rw [List.map_cons,List.find?_cons,List.find?_cons]
  by_cases h:p.1=k
  . simp [h]
  . have h2:¬ (Sum.inr p.1:Key)=Sum.inr k:=λ z=>h (Sum.inr.inj z)
    simp only [h,h2,decide_false]
    exact ih
theorem zbm.val {l:List (Str×Int)} {b:Book Str} (h:zbm l b) (k:Str):valV (bkV l) (Sum.inr k)=(b k).map V.int:=by
 rw [zpk h.nd]
 cases e:l.find? λ p=>decide (p.1=k) with
 | none =>
  cases e2:b k with
  | none=>rfl
  | some v =>
   have:=List.find?_eq_none.mp e _ ((h.mem k v).mpr e2)
   simp at this
 | some p =>
  have hm:=List.mem_of_find?_eq_some e
  have hk:p.1=k:=by simpa using List.find?_some e
  have:=(h.mem p.1 p.2).mp hm
  rw [hk] at this
  rw [this]; rfl
def zb4 (h:List (Nat×Bool)):List (Key×V):=h.map λ p=>(Sum.inl (p.1:Int),.str (useS p.2))
inductive Role where
 | hall | recs | zbJ | zcl | zdd | order | rows | other
 | rcd (i:Nat) | did (i:Nat) | desk (k:Str) | held (k:Str) | row (k:Str)
 deriving DecidableEq
def zlF (ad:Role->Addr):List (Str×V) :=
 [("records",.ref (ad .recs)),("desks",.ref (ad .zbJ)),("standing",.ref (ad .zcl)),("kept_values",.ref (ad .zdd)),("kept_deeds",.ref (ad .order)),("rows",.ref (ad .rows))]
def recF (st:DS) (did:Addr) (w:V):List (Str×V):=[("state",.str (stS st)),("did",.ref did),("want",w)]
def zh9 (held row:Addr):List (Str×V):=[("held",.ref held),("row",.ref row)]
def At (A:Ad) (ad:Role->Addr) (s:HS Str) (kv:Book Str) (H:Hp):Role->HO->Prop
 | .hall,o=>∃ dx,o=.ins A.zaX dx (zlF ad)
 | .recs,o=>o=.lst ((List.range s.n).map λ i=>.ref (ad (.rcd i)))
 | .zbJ,o=>o=.dK (s.seen.map λ k=>(Sum.inr k,.ref (ad (.desk k))))
 | .zcl,o=>∃ l,o=.dK (bkV l)/\zbm l s.book
 | .zdd,o=>∃ l,o=.dK (bkV l)/\zbm l kv
 | .order,o=>o=.lst (s.kept.map λ (d:Nat)=>V.int (d:Int))
 | .rows,o=>∃ vs,o=.lst vs/\zau H vs (s.log.map rowV)
 | .rcd i,o=>∃ dx w,o=.ins A.zaB dx (recF (s.deed i).st (ad (.did i)) w)/\zcr A H w (wantOf (s.deed i))
 | .did i,o=>∃ vs,o=.lst vs/\zau H vs ((s.deed i).done.map actV)
 | .desk k,o=>∃ dx,o=.ins A.zb7 dx (zh9 (ad (.held k)) (ad (.row k)))
 | .held k,o=>o=.dK (zb4 (s.held k))
 | .row k,o=>∃ vs,o=.lst vs/\zau H vs ((s.rows k).map zbY)
 | .other,_=>False
def live (s:HS Str):Role->Prop
 | .rcd i=>i < s.n
 | .did i=>i < s.n
 | .desk k=>k∈s.seen
 | .held k=>k∈s.seen
 | .row k=>k∈s.seen
 | .other=>False
 | _=>True
structure zai (A:Ad) (ρ:Addr->Role) (ad:Role->Addr) (s:HS Str) (kv:Book Str) (H:Hp):Prop where
 at_:∀ r,live s r->∃ o,H (ad r)=some o/\At A ad s kv H r o
 ro:∀ r,live s r->ρ (ad r)=r
 fr:∀ b,H b=none->ρ b=.other
structure Frame (ρ:Addr->Role) (H:Hp) (ρ':Addr->Role) (H':Hp):Prop where
 o:∀ b o,H b=some o->ρ b=.other->H' b=some o/\ρ' b=.other
 t:∀ b xs,H b=some (.tup xs)->H' b=some (.tup xs)
instance {ρ:Addr->Role} {H:Hp} {ρ':Addr->Role} {H':Hp}:CoeFun (Frame ρ H ρ' H') (λ _=>∀ b o,H b=some o->ρ b=.other->H' b=some o/\ρ' b=.other):=⟨Frame.o⟩
theorem Frame.refl {ρ:Addr->Role} {H:Hp}:Frame ρ H ρ H:=⟨λ _ _ h r=>⟨h,r⟩,λ _ _ h=>h⟩
theorem Frame.trans {ρ ρ1 ρ2:Addr->Role} {H H1 H2:Hp} (a:Frame ρ H ρ1 H1) (b:Frame ρ1 H1 ρ2 H2):Frame ρ H ρ2 H2:=⟨λ x o h r=>let ⟨h1,r1⟩:=a x o h r; b x o h1 r1,λ x xs h=>b.t x xs (a.t x xs h)⟩
structure Imm (A:Ad) (H H':Hp):Prop where
 tup:∀ p xs,H p=some (.tup xs)->H' p=some (.tup xs)
 want:∀ p dx fs,H p=some (.ins A.zdR dx fs)->H' p=some (.ins A.zdR dx fs)
theorem Imm.of_same {A:Ad} {H H':Hp} (h:Same H H'):Imm A H H':=⟨λ p xs e=>h p _ e,λ p dx fs e=>h p _ e⟩
theorem zau.mono {A:Ad} {H H':Hp} (m:Imm A H H'):∀ {vs:List V} {xss:List (List V)},zau H vs xss->zau H' vs xss
 | _,_,.nil=>.nil
 | _,_,.cons ⟨p,e,q⟩ t=>.cons ⟨p,e,m.tup p _ q⟩ (zau.mono m t)
theorem zcr.mono {A:Ad} {H H':Hp} (m:Imm A H H') {v:V}:∀ {o:Option (Act Str)},zcr A H v o->zcr A H' v o
 | none,h=>h
 | some a,⟨p,dx,e,q⟩=>⟨p,dx,e,m.want p dx _ q⟩
section
variable {A:Ad} {ad:Role->Addr} {s:HS Str} {kv:Book Str} {H H':Hp}
theorem At.mono (m:Imm A H H') {r:Role} {o:HO} (h:At A ad s kv H r o):At A ad s kv H' r o:=by
 cases r with
 | rows=>obtain ⟨vs,e,t⟩:=h; exact ⟨vs,e,zau.mono m t⟩
 | did i=>obtain ⟨vs,e,t⟩:=h; exact ⟨vs,e,zau.mono m t⟩
 | row k=>obtain ⟨vs,e,t⟩:=h; exact ⟨vs,e,zau.mono m t⟩
 | rcd i=>obtain ⟨dx,w,e,t⟩:=h; exact ⟨dx,w,e,t.mono m⟩
 | _=>exact h
theorem At.mut (ok:AdOk A) {r:Role} {o:HO} (h:At A ad s kv H r o):(∀ xs,o≠.tup xs)/\∀ dx fs,o≠.ins A.zdR dx fs:=by
 cases r with
 | hall=>obtain ⟨dx,rfl⟩:=h; exact ⟨λ xs z=>(by cases z),λ dx fs z=>(by injection z with z; exact ok.wh z.symm)⟩
 | recs=>cases h; exact ⟨λ xs z=>(by cases z),λ dx fs z=>(by cases z)⟩
 | zbJ=>cases h; exact ⟨λ xs z=>(by cases z),λ dx fs z=>(by cases z)⟩
 | zcl=>obtain ⟨l,rfl,_⟩:=h; exact ⟨λ xs z=>(by cases z),λ dx fs z=>(by cases z)⟩
 | zdd=>obtain ⟨l,rfl,_⟩:=h; exact ⟨λ xs z=>(by cases z),λ dx fs z=>(by cases z)⟩
 | order=>cases h; exact ⟨λ xs z=>(by cases z),λ dx fs z=>(by cases z)⟩
 | rows=>obtain ⟨l,rfl,_⟩:=h; exact ⟨λ xs z=>(by cases z),λ dx fs z=>(by cases z)⟩
 | rcd i=>obtain ⟨dx,w,rfl,_⟩:=h; exact ⟨λ xs z=>(by cases z),λ dx fs z=>(by injection z with z; exact ok.wr z.symm)⟩
 | did i=>obtain ⟨l,rfl,_⟩:=h; exact ⟨λ xs z=>(by cases z),λ dx fs z=>(by cases z)⟩
 | desk k=>obtain ⟨dx,rfl⟩:=h; exact ⟨λ xs z=>(by cases z),λ dx fs z=>(by injection z with z; exact ok.wd z.symm)⟩
 | held k=>cases h; exact ⟨λ xs z=>(by cases z),λ dx fs z=>(by cases z)⟩
 | row k=>obtain ⟨l,rfl,_⟩:=h; exact ⟨λ xs z=>(by cases z),λ dx fs z=>(by cases z)⟩
 | other=>exact h.elim
end
section
variable {A:Ad} {ρ:Addr->Role} {ad:Role->Addr} {s s':HS Str} {kv kv':Book Str} {H H':Hp}
theorem zai.ne (h:zai A ρ ad s kv H) {r r':Role} (a:live s r) (b:live s r') (n:r≠r'):ad r≠ad r':=λ e=>n (by rw [<-h.ro r a,<-h.ro r' b,e])
theorem zai.grow (h:zai A ρ ad s kv H) (m:Same H H'):zai A ρ ad s kv H' :=
 ⟨λ r l=>let ⟨o,e,a⟩:=h.at_ r l; ⟨o,m _ _ e,a.mono (.of_same m)⟩,h.ro,λ b e=>h.fr b (by
  cases q:H b with
  | none=>rfl
  | some o=>rw [m b o q] at e; cases e)⟩
theorem zoF {s:HS Str} {r:Role} (l:live s r):r≠.other:=by rintro rfl; exact l
theorem Frame.grow {ρ:Addr->Role} (m:Same H H'):Frame ρ H ρ H':=⟨λ b o e r=>⟨m b o e,r⟩,λ b xs e=>m b _ e⟩
end
end TP
end
section
namespace TP
open PySem L2 TH
def sLt (a b:Str):Bool:=kLt (Sum.inr a) (Sum.inr b)
theorem zle (a:Str):sLt a a=false:=zoM _
theorem zqk {a b c:Str} (h:sLt a b=true) (g:sLt b c=true):sLt a c=true:=zqx h g
theorem zq2 {a b:Str} (h:a≠b):sLt a b=true\/sLt b a=true :=
 zoL (ks:=[Sum.inr a,Sum.inr b]) (.inr λ k hk=>by
  rcases List.mem_cons.mp hk with z | z
  . exact ⟨a,z⟩
  . exact ⟨b,List.mem_singleton.mp z⟩) (by simp) (by simp) λ z=>h (Sum.inr.inj z)
abbrev zhQ (l:List Str):Prop:=l.Pairwise λ a b=>sLt a b=true
def ins (x:Str):List Str->List Str
 | []=>[x]
 | y::r=>if x=y then y::r else if sLt x y=true then x::y::r else y::ins x r
def ordS (l:List Str):List Str:=l.foldr ins []
theorem zls {x z:Str}:∀ {l:List Str},z∈ins x l↔z=x\/z∈l
 | []=>by simp [ins]
 | y::r=>by
  unfold ins
  split
  . rename_i h; subst h; simp
  . split
    . simp
    . rw [List.mem_cons,zls (l:=r),List.mem_cons]
      exact ⟨λ h=>h.elim (λ q=>.inr (.inl q)) (λ q=>q.elim .inl λ q=>.inr (.inr q)),λ h=>h.elim (λ q=>.inr (.inl q)) λ q=>q.elim .inl λ q=>.inr (.inr q)⟩
theorem ziy {x:Str}:∀ {l:List Str},zhQ l->zhQ (ins x l)
 | [],_=>by simp [ins,zhQ]
 | y::r,h=>by
  obtain ⟨h1,h2⟩:=List.pairwise_cons.mp h
  unfold ins
  split
  . exact h
  . rename_i hne
    split
    . rename_i hlt
      exact List.pairwise_cons.mpr ⟨λ z hz=>by
        rcases List.mem_cons.mp hz with q | q
        . rw [q]; exact hlt
        . exact zqk hlt (h1 z q),h⟩
    . rename_i hlt
      refine List.pairwise_cons.mpr ⟨λ z hz=>?_,ziy h2⟩
      rcases zls.mp hz with q | q
      . rw [q]; exact (zq2 hne).resolve_left hlt
      . exact h1 z q
theorem zbd {z:Str}:∀ {l:List Str},z∈ordS l↔z∈l
 | []=>by simp [ordS]
 | y::r=>by
  show z∈ins y (ordS r)↔_
  rw [zls,zbd (l:=r),List.mem_cons]
theorem zce:∀ l:List Str,zhQ (ordS l)
 | []=>List.Pairwise.nil
 | y::r=>ziy (zce r)
theorem zgi {l:List Str} (h:zhQ l):l.Nodup:=h.imp λ {a b} q z=>by subst z; rw [zle] at q; cases q
theorem zfO:∀ {a b:List Str},zhQ a->zhQ b->(∀ x,x∈a↔x∈b)->a=b
 | [],[],_,_,_=>rfl
 | [],y::r,_,_,h=>by have:=(h y).mpr List.mem_cons_self; cases this
 | x::r,[],_,_,h=>by have:=(h x).mp List.mem_cons_self; cases this
 | x::r,y::t,ha,hb,h=>by
  obtain ⟨a1,a2⟩:=List.pairwise_cons.mp ha
  obtain ⟨b1,b2⟩:=List.pairwise_cons.mp hb
  have e:x=y:=by
   rcases List.mem_cons.mp ((h x).mp List.mem_cons_self) with q | q
   . exact q
   . rcases List.mem_cons.mp ((h y).mpr List.mem_cons_self) with p | p
     . exact p.symm
     . have:=zqk (b1 x q) (a1 y p)
       rw [zle] at this; cases this
  subst e
  have nr:∀ {l:List Str},(∀ z∈l,sLt x z=true)->x∉l:=λ hl z=>by have:=hl x z; rw [zle] at this; cases this
  refine congrArg _ (zfO a2 b2 λ z=>?_)
  have hz:=h z
  rw [List.mem_cons,List.mem_cons] at hz
  exact ⟨λ q=>(hz.mp (.inr q)).resolve_left λ e=>nr a1 (e ▸ q),λ q=>(hz.mpr (.inr q)).resolve_left λ e=>nr b1 (e ▸ q)⟩
theorem zpM (l m:List Str) (h:∀ x∈m,x∈l):ordS m=(ordS l).filter λ k=>decide (k∈m) :=
 zfO (zce m) ((zce l).filter _) λ x=>by
  rw [zbd,List.mem_filter,zbd,decide_eq_true_eq]
  exact ⟨λ q=>⟨h x q,q⟩,λ q=>q.2⟩
theorem zpN (l:List Str) (m:List Str) (h:∀ x∈l,x∈m) (nd:m.Nodup):(ordS l).length<=m.length:=by
 have:∀ (a b:List Str),a.Nodup->(∀ x∈a,x∈b)->a.length<=b.length:=λ a=>by
  induction a with
  | nil=>intro b _ _; simp
  | cons x r ih =>
   intro b nd hs
   obtain ⟨n1,n2⟩:=List.nodup_cons.mp nd
   have hx:=hs x List.mem_cons_self
   have:=ih (b.erase x) n2 λ z hz=>(List.mem_erase_of_ne (show z≠x from λ e=>n1 (e ▸ hz))).mpr (hs z (List.mem_cons_of_mem _ hz))
   rw [List.length_erase_of_mem hx] at this
   have hpos:0 < b.length:=List.length_pos_of_mem hx
   simp only [List.length_cons]; omega
 exact this _ _ (zgi (zce l)) λ x hx=>h x (zbd.mp hx)
theorem zk6 {xs:List Str} {ys:List Key} (m:∀ k,k∈ys↔∃ x∈xs,k=Sum.inr x) (p:ys.Pairwise λ a b=>kLt a b=true):ys=(ordS xs).map Sum.inr:=by
 obtain ⟨zs,rfl⟩:∃ zs:List Str,ys=zs.map Sum.inr:=by
  clear p
  have:∀ l:List Key,(∀ k∈l,∃ x:Str,k=Sum.inr x)->∃ zs:List Str,l=zs.map Sum.inr:=λ l=>by
   induction l with
   | nil=>intro _; exact ⟨[],rfl⟩
   | cons k r ih =>
    intro h
    obtain ⟨x,rfl⟩:=h k List.mem_cons_self
    obtain ⟨zs,rfl⟩:=ih λ k hk=>h k (List.mem_cons_of_mem _ hk)
    exact ⟨x::zs,rfl⟩
  exact this ys λ k hk=>let ⟨x,_,e⟩:=(m k).mp hk; ⟨x,e⟩
 congr 1
 refine zfO (List.pairwise_map.mp p) (zce xs) λ x=>?_
 rw [zbd]
 have:=m (Sum.inr x)
 rw [List.mem_map] at this
 exact ⟨λ h=>by
  obtain ⟨y,hy,e⟩:=this.mp ⟨x,h,rfl⟩
  rw [Sum.inr.inj e]; exact hy,λ h=>by
  obtain ⟨y,hy,e⟩:=this.mpr ⟨x,h,rfl⟩
  rw [<-Sum.inr.inj e]; exact hy⟩
end TP
end
section
namespace L2
open PySem PySem.Spec PyProof.Rows
theorem Fun.okN {P:Program} {w:World} {K:PySem.W.Frag} {mg:Str->Option Value} {base:Heap} {x qual:Str} {st:Stmt} {f:Addr} {fd:FuncData} {N ps:List Str} {k:Nat} {sp:Sp} (F:Fun K x qual st f fd) (S:zaq N ps (zaj st)) (len:∀ vs H Q E,sp vs H Q E->vs.length=ps.length)
  (hbody:∀ (cdv:Value) (A:Around) (outer:List Env) (s:Shared) (H:Hp) (vs:List V) (Q:VK) (E:XK),Room k (A.deeper (envOfC qual (zaj st) s.heap.objs.size f cdv))->sp vs H Q E ->
   ∃ t,PSs (cxOf (CX1 P w) P w K mg base N qual (zaj st) f cdv A outer s H E).nox (zhC st) t/\t { nx:=λ _ H'=>Q .non H',rt:=Q } (start N vs) H):FnOk P w K mg base (CX1 P w) (k+1) f fd ps sp:=by
 refine F.okX S len λ cdv A outer s H vs Q E hr hsp=>?_
 obtain ⟨t,h,q⟩:=hbody cdv A outer s H vs Q E hr hsp
 exact ⟨t,h.nox,q⟩
section
variable {X:Cx} {K:PySem.W.Frag}
theorem zof (hK:X.K=K) {es:List Expr} {k:Nat} {t:TGs} {n:Nat} {pos:Pos} (hc:X.calm=true) (h:PGs X es t)
  (hn:(assignEach es X.env).length=n:=by rfl) (hst:(assignEach es X.env).findIdx? (·.1)=none:=by rfl):PG X (.Tuple es k pos) (gTup K n t):=by
 subst hK; exact zog hc h hn hst
theorem zq9 (hK:X.K=K) {e:Expr} {f:Str} {ta:TE} {pos:Pos} (he:PE X e ta) (hb:attributeBase e f X.env (eval e X.env)=eval e X.env):PE X (.Attribute e f pos) (tFld K ta f):=by
 subst hK; exact zam he hb
theorem zlD (hK:X.K=K):IxR X (rIxT K):=by subst hK; exact zb3
theorem zng (hK:X.K=K):OpR X (compareOp .In) (rIn K false):=by subst hK; exact zoq
end
theorem zsd {X:Cx} {x:Str} {pos:Pos} {n:String} (hg:Gl X x) (hm:X.mg x=none) (hv:bootBuiltins x=some (.type n)) (hn:x ≠ "__name__" := by decide) (hd:(x == ("__debug__" : Str))=false:=by decide):PE X (.Name x pos) (tC (.ty n)):=zra (v:=.ty n) hg hm hv rfl hn hd
end L2
namespace TP
open PySem L2 TH
theorem zpb (xs:List Str):(S6.deds (xs.map (Sum.inr:Str->Key))).Perm ((ordS xs).map Sum.inr):=by
 refine (List.perm_ext_iff_of_nodup (S6.zhD _) ?_).mpr λ k=>?_
 . exact (zgi (zce xs)).map _ λ a b h e=>h (Sum.inr.inj e)
 . rw [S6.zfn,List.mem_map,List.mem_map]
   exact ⟨λ ⟨x,h,e⟩=>⟨x,zbd.mpr h,e⟩,λ ⟨x,h,e⟩=>⟨x,zbd.mp h,e⟩⟩
theorem znR (xs:List Str):zqg (xs.map (Sum.inr:Str->Key)):=.inr λ k hk=>by
 obtain ⟨x,_,e⟩:=List.mem_map.mp hk
 exact ⟨x,e.symm⟩
theorem zmX (xs:List Str):zqg (S6.deds (xs.map (Sum.inr:Str->Key))):=.inr λ k hk=>by
 obtain ⟨x,_,e⟩:=List.mem_map.mp (S6.zfn.mp hk)
 exact ⟨x,e.symm⟩
theorem zqu (xs:List Str):(xs.map (Sum.inr:Str->Key)).map kV=xs.map V.str:=by rw [List.map_map]; rfl
def znW:Sp:=λ vs H Q _=>∃ i:Int,vs=[.int i]/\Q (.bl true) H
def zgh (K:PySem.W.Frag):Sp:=λ vs H Q _=>∃ (p:Addr) (xs:List Str),vs=[.ref p]/\SSrc K H p (xs.map Sum.inr)/\xs.length < 4000/\(ordS xs).length < 64 /\
 ∀ H' q,H q=none->Same H H'->H' q=some (.tup ((ordS xs).map V.str))->Q (.ref q) H'
def zjL:Sp:=λ vs H Q _=>∃ (p:Addr) (k:Str) (l:List (Str×Int)) (b:Book Str),vs=[.ref p,.str k]/\H p=some (.dK (bkV l))/\zbm l b/\Q (.int ((b k).getD 0)) H
def zcs (H:Hp) (p:Addr) (H':Hp):Prop:=∀ b o,H b=some o->b≠p->H' b=some o
def zm0 (A:Ad):Sp:=λ vs H Q _=>∃ (p dx:Addr) (w:Bool) (k:Str) (v:V),vs=[.ref p,.str (useS w),.str k,v]/\H p=some (.ins A.zdR dx []) /\
 ∀ H',H' p=some (.ins A.zdR dx [("use",.str (useS w)),("key",.str k),("value",v)])->zcs H p H'->Q .non H'
def zjM (A:Ad):Sp:=λ vs H Q _=>∃ (p dx:Addr),vs=[.ref p]/\H p=some (.ins A.zaB dx []) /\
 ∀ H' d,H d=none->H' p=some (.ins A.zaB dx (recF .zar d .non))->H' d=some (.lst [])->zcs H p H'->Q .non H'
def znX (A:Ad):Sp:=λ vs H Q _=>∃ (p dx d:Addr) (st:DS) (w:V),vs=[.ref p]/\H p=some (.ins A.zaB dx (recF st d w))/\Q (.bl (decide (st=.kept\/st=.dropped))) H
def zig (p:Str×Int):List V:=[.str p.1,.int p.2]
structure RecAt (A:Ad) (H:Hp) (p:Addr) (st:DS) (d:Addr) (w:V) (done:List (Act Str)):Prop where
 ob:∃ dx,H p=some (.ins A.zaB dx (recF st d w))
 did:∃ us,H d=some (.lst us)/\zau H us (done.map actV)
def znT (A:Ad):Sp:=λ vs H Q _=>∃ p st d w done,vs=[.ref p]/\RecAt A H p st d w done/\done.length < 3000 /\
 ∀ H' q us,Same H H'->H' q=some (.lst us)->zau H' us ((zas done).map zig)->Q (.ref q) H'
def zcX:Option (Act Str)->List Str
 | none=>[]
 | some a=>[a.key]
def znU (A:Ad):Sp:=λ vs H Q _=>∃ p st d w done o,vs=[.ref p]/\RecAt A H p st d w done/\zcr A H w o/\done.length < 3000/\(ordS (done.map (·.key)++zcX o)).length < 64 /\
 ∀ H' q,H q=none->Same H H'->H' q=some (.tup ((ordS (done.map (·.key)++zcX o)).map V.str))->Q (.ref q) H'
end TP
end
section
namespace TP
open PySem L2 TH
theorem zcQ {a b:Nat}:((Sum.inl (a:Int):Key)=Sum.inl (b:Int))↔a=b:=⟨λ h=>by have:=Sum.inl.inj h; omega,λ h=>by rw [h]⟩
theorem zfs (h:List (Nat×Bool)) (d:Nat):valV (zb4 h) (Sum.inl (d:Int))=(look h d).map λ w=>V.str (useS w):=by
 unfold zb4 look
 induction h with
 | nil=>rfl
 | cons p r ih =>
  rw [List.map_cons]
  by_cases e:p.1=d
  . rw [zel (zcQ.mpr e)]; simp [List.find?_cons,e]
  . rw [zem λ z=>e (zcQ.mp z),ih]; simp [List.find?_cons,e]
theorem zp1 (h:List (Nat×Bool)) (d:Nat):((zb4 h).any λ kv=>decide (kv.1=(Sum.inl (d:Int):Key)))=h.any λ p=>p.1 == d:=by
 unfold zb4
 rw [List.any_map]
 congr 1
 funext p
 show decide ((Sum.inl (p.1:Int):Key)=Sum.inl (d:Int))=(p.1 == d)
 rw [Bool.eq_iff_iff]
 simp only [decide_eq_true_eq,beq_iff_eq]
 exact zcQ
theorem zp0 (h:List (Nat×Bool)) (d:Nat) (w:Bool):putK (zb4 h) (Sum.inl (d:Int)) (V.str (useS w))=zb4 (zbf h d w):=by
 unfold putK zbf
 rw [zp1]
 split
 . unfold zb4
   rw [List.map_map,List.map_map]
   refine List.map_congr_left λ p hp=>?_
   show (if (Sum.inl (p.1:Int):Key)=Sum.inl (d:Int) then ((Sum.inl (p.1:Int):Key),V.str (useS w)) else ((Sum.inl (p.1:Int):Key),V.str (useS p.2)))=((Sum.inl (((if (p.1 == d)=true then (d,w) else p).1:Nat):Int):Key),V.str (useS (if (p.1 == d)=true then (d,w) else p).2))
   by_cases e:p.1=d
   . rw [if_pos (zcQ.mpr e),if_pos (by simpa using e)]; simp [e]
   . rw [if_neg λ z=>e (zcQ.mp z),if_neg (by simpa using e)]
 . unfold zb4; rw [List.map_append]; rfl
theorem zoT (h:List (Nat×Bool)) (d:Nat):zh8 (zb4 h) (Sum.inl (d:Int))=zb4 (less h d):=by
 unfold zh8 less zb4
 rw [List.filter_map]
 congr 1
 refine List.filter_congr λ p _=>?_
 show decide ((Sum.inl (p.1:Int):Key)≠Sum.inl (d:Int))=(p.1 != d)
 rw [Bool.eq_iff_iff]
 simp only [decide_eq_true_eq,bne_iff_ne]
 exact not_congr zcQ
theorem less_none {h:List (Nat×Bool)} {d:Nat} (e:look h d=none):less h d=h:=by
 unfold less
 refine List.filter_eq_self.mpr λ p hp=>?_
 unfold look at e
 rw [Option.map_eq_none_iff,List.find?_eq_none] at e
 simpa using e p hp
theorem zhw (h:List (Nat×Bool)):(zb4 h).length=h.length:=by unfold zb4; rw [List.length_map]
theorem zlR (l:List (Str×Int)):(bkV l).length=l.length:=by unfold bkV; rw [List.length_map]
def bput (l:List (Str×Int)) (k:Str) (v:Int):List (Str×Int):=if (l.any λ p=>decide (p.1=k))=true then l.map (λ p=>if p.1=k then (p.1,v) else p) else l++[(k,v)]
theorem zrx (l:List (Str×Int)) (k:Str):((bkV l).any λ kv=>decide (kv.1=(Sum.inr k:Key)))=l.any λ p=>decide (p.1=k):=by
 unfold bkV
 rw [List.any_map]
 congr 1
 funext p
 show decide ((Sum.inr p.1:Key)=Sum.inr k)=decide (p.1=k)
 exact zqw _ _
theorem zlQ (l:List (Str×Int)) (k:Str) (v:Int):putK (bkV l) (Sum.inr k) (V.int v)=bkV (bput l k v):=by
 unfold putK bput
 rw [zrx]
 split
 . unfold bkV
   rw [List.map_map,List.map_map]
   refine List.map_congr_left λ p hp=>?_
   show (if (Sum.inr p.1:Key)=Sum.inr k then ((Sum.inr p.1:Key),V.int v) else ((Sum.inr p.1:Key),V.int p.2))=((Sum.inr (if p.1=k then (p.1,v) else p).1:Key),V.int (if p.1=k then (p.1,v) else p).2)
   by_cases e:p.1=k
   . rw [if_pos (congrArg Sum.inr e),if_pos e]
   . rw [if_neg λ z=>e (Sum.inr.inj z),if_neg e]
 . unfold bkV; rw [List.map_append]; rfl
def zqd (l:List (Str×Int)) (k:Str):List (Str×Int):=l.filter λ p=>decide (p.1≠k)
theorem zqc (l:List (Str×Int)) (k:Str):zh8 (bkV l) (Sum.inr k)=bkV (zqd l k):=by
 unfold zh8 zqd bkV
 rw [List.filter_map]
 congr 1
 refine List.filter_congr λ p _=>?_
 show decide ((Sum.inr p.1:Key)≠Sum.inr k)=decide (p.1≠k)
 rw [Bool.eq_iff_iff]
 simp only [decide_eq_true_eq]
 exact not_congr ⟨λ z=>Sum.inr.inj z,λ z=>by rw [z]⟩
theorem zbm.has {l:List (Str×Int)} {b:Book Str} (h:zbm l b) (k:Str):(l.any λ p=>decide (p.1=k))=(b k).isSome:=by
 cases e:b k with
 | none =>
  refine List.any_eq_false.mpr λ p hp z=>?_
  have hk:p.1=k:=by simpa using z
  have:=(h.mem p.1 p.2).mp hp
  rw [hk,e] at this; cases this
 | some v=>exact List.any_eq_true.mpr ⟨(k,v),(h.mem k v).mpr e,by simp⟩
theorem zbm.put {l:List (Str×Int)} {b:Book Str} (h:zbm l b) (k:Str) (v:Int):zbm (bput l k v) (up b k (some v)):=by
 unfold bput
 rw [h.has k]
 cases e:b k with
 | none =>
  simp only [Option.isSome_none,Bool.false_eq_true,if_false]
  have hn:∀ p∈l,p.1≠k:=λ p hp z=>by
    have:=(h.mem p.1 p.2).mp hp
    rw [z,e] at this; cases this
  refine ⟨?_,λ k' v'=>?_⟩
  . rw [List.map_append]
    refine List.nodup_append.mpr ⟨h.nd,by simp,λ a ha c hc=>?_⟩
    obtain ⟨p,hp,rfl⟩:=List.mem_map.mp ha
    rw [List.mem_singleton.mp hc]; exact hn p hp
  . rw [List.mem_append,List.mem_singleton]
    by_cases hk:k'=k
    . subst hk
      rw [zag]
      exact ⟨λ z=>z.elim (λ q=>absurd rfl (hn _ q)) λ q=>by cases q; rfl,λ z=>.inr (by cases z; rfl)⟩
    . rw [zao hk,<-h.mem]
      exact ⟨λ z=>z.elim id λ q=>absurd (by cases q; rfl) hk,.inl⟩
 | some v0 =>
  simp only [Option.isSome_some,if_true]
  have hk1:(l.map λ p=>if p.1=k then (p.1,v) else p).map (·.1)=l.map (·.1):=by
    rw [List.map_map]
    refine List.map_congr_left λ p _=>?_
    show (if p.1=k then (p.1,v) else p).1=p.1
    split <;> rfl
  refine ⟨by rw [hk1]; exact h.nd,λ k' v'=>?_⟩
  rw [List.mem_map]
  by_cases hk:k'=k
  . subst hk
    rw [zag]
    refine ⟨λ ⟨p,hp,q⟩=>?_,λ z=>?_⟩
    . by_cases hpk:p.1=k'
      . rw [if_pos hpk] at q; cases q; rfl
      . rw [if_neg hpk] at q; subst q; exact absurd rfl hpk
    . cases z
      exact ⟨(k',v0),(h.mem _ _).mpr e,by simp⟩
  . rw [zao hk,<-h.mem]
    refine ⟨λ ⟨p,hp,q⟩=>?_,λ z=>⟨(k',v'),z,by rw [if_neg hk]⟩⟩
    by_cases hpk:p.1=k
    . rw [if_pos hpk] at q; cases q; exact absurd hpk hk
    . rw [if_neg hpk] at q; subst q; exact hp
theorem zbm.drop {l:List (Str×Int)} {b:Book Str} (h:zbm l b) (k:Str):zbm (zqd l k) (up b k none):=by
 unfold zqd
 refine ⟨?_,λ k' v'=>?_⟩
 . exact h.nd.sublist (List.filter_sublist.map _)
 . rw [List.mem_filter]
   by_cases hk:k'=k
   . subst hk; rw [zag]; simp
   . rw [zao hk,<-h.mem]; simp [hk]
theorem zbm.zo9 {l:List (Str×Int)} {b:Book Str} (h:zbm l b) {k:Str} (e:b k=none):zbm l (up b k none):=by
 have:up b k none=b:=by
  funext x; by_cases hx:x=k
  . subst hx; rw [zag,e]
  . rw [zao hx]
 rw [this]; exact h
theorem zbm.len {l:List (Str×Int)} {b:Book Str} (h:zbm l b) {ks:List Str} (nd:ks.Nodup) (hk:∀ k,b k≠none->k∈ks):l.length<=ks.length:=by
 have:∀ (a c:List Str),a.Nodup->(∀ x∈a,x∈c)->a.length<=c.length:=λ a=>by
  induction a with
  | nil=>intro c _ _; simp
  | cons x r ih =>
   intro c nd hs
   obtain ⟨n1,n2⟩:=List.nodup_cons.mp nd
   have hx:=hs x List.mem_cons_self
   have:=ih (c.erase x) n2 λ z hz=>(List.mem_erase_of_ne (show z≠x from λ e=>n1 (e ▸ hz))).mpr (hs z (List.mem_cons_of_mem _ hz))
   rw [List.length_erase_of_mem hx] at this
   have hpos:0 < c.length:=List.length_pos_of_mem hx
   simp only [List.length_cons]; omega
 have:=this (l.map (·.1)) ks h.nd λ x hx=>by
  obtain ⟨p,hp,rfl⟩:=List.mem_map.mp hx
  exact hk p.1 (by rw [(h.mem p.1 p.2).mp hp]; exact λ z=>nomatch z)
 rwa [List.length_map] at this
def zdJ (ad:Role->Addr) (seen:List Str):List (Key×V):=seen.map λ k=>(Sum.inr k,.ref (ad (.desk k)))
theorem zee (ad:Role->Addr) (k:Str):∀ seen:List Str,valV (zdJ ad seen) (Sum.inr k)=if k∈seen then some (.ref (ad (.desk k))) else none
 | []=>rfl
 | x::r=>by
  unfold zdJ
  rw [List.map_cons]
  by_cases e:x=k
  . subst e; rw [zel rfl]; simp
  . rw [zem λ z=>e (Sum.inr.inj z)]
    have:=zee ad k r
    unfold zdJ at this
    rw [this]
    have:(k∈x::r)↔k∈r:=by rw [List.mem_cons]; exact ⟨λ z=>z.resolve_left λ q=>e q.symm,.inr⟩
    by_cases hk:k∈r
    . rw [if_pos hk,if_pos (this.mpr hk)]
    . rw [if_neg hk,if_neg λ z=>hk (this.mp z)]
theorem zcY {H:Hp} {us:List V} {xss:List (List V)} (t:zau H us xss) {i:Nat} {x:V} (h:us[i]?=some x):∃ y,xss[i]?=some y/\TupAt H x y:=S6.zi1 t h
theorem zdU {H:Hp}:∀ {us:List V} {xss:List (List V)},zau H us xss->∀ {i:Nat} {y:List V},xss[i]?=some y->∃ x,us[i]?=some x/\TupAt H x y
 | _,_,.nil,_,_,h=>by simp at h
 | _,_,.cons r _,0,_,h=>by simp at h; subst h; exact ⟨_,rfl,r⟩
 | _,_,.cons _ t,i+1,_,h=>by
  obtain ⟨x,h1,h2⟩:=zdU t (i:=i) (by simpa using h)
  exact ⟨x,by simpa using h1,h2⟩
theorem zbK {H H':Hp} (m:Same H H') {us:List V} {xss:List (List V)} (t:zau H us xss):zau H' us xss:=by
 induction t with
 | nil=>exact .nil
 | cons r _ ih=>obtain ⟨p,e,q⟩:=r; exact .cons ⟨p,e,m p _ q⟩ ih
theorem zqI {H:Hp} {a q:Addr} {x o y:HO} (e:H a=some y) (hq:H q=none):upd (upd (upd H a x) q o) a y=upd H q o:=by
 funext b
 by_cases hb:b=a
 . subst hb; rw [zab,zae (zaf e hq)]; exact e.symm
 . rw [zae hb]
   by_cases hbq:b=q
   . subst hbq; rw [zab,zab]
   . rw [zae hbq,zae hb,zae hbq]
end TP
end
section
namespace TP
open PySem L2 TH
structure zdr (A:Ad) (H:Hp) (p hd rw:Addr) (h r:List (Nat×Bool)):Prop where
 ob:∃ dx,H p=some (.ins A.zb7 dx (zh9 hd rw))
 hd:H hd=some (.dK (zb4 h))
 rw:∃ us,H rw=some (.lst us)/\zau H us (r.map zbY)
def zm5 (A:Ad):Sp:=λ vs H Q _=>∃ (p dx:Addr),vs=[.ref p]/\H p=some (.ins A.zb7 dx []) /\
 ∀ H' hd rw,H hd=none->H rw=none->H' p=some (.ins A.zb7 dx (zh9 hd rw))->H' hd=some (.dK [])->H' rw=some (.lst [])->zcs H p H'->Q .non H'
def zal (l:List Nat):List V:=l.map λ (n:Nat)=>V.int (n:Int)
def zk4 (A:Ad):Sp:=λ vs H Q _=>∃ (p hd rw:Addr) (h r:List (Nat×Bool)) (d:Nat) (w:Bool),vs=[.ref p,.int d,.str (useS w)]/\zdr A H p hd rw h r/\h.length<=1000/\(h.map (·.1)).Nodup /\
 ∀ H' q,H q=none->Same H H'->H' q=some (.lst (zal (hind h d w)))->Q (.ref q) H'
def zmm (A:Ad):Sp:=λ vs H Q _=>∃ (p hd rw:Addr) (h r:List (Nat×Bool)) (d:Nat) (w:Bool),vs=[.ref p,.int d,.str (useS w)]/\zdr A H p hd rw h r/\h.length<=1000/\(h.map (·.1)).Nodup /\
 ∀ H',Same H H'->Q (.bl (lets h d w)) H'
def zjO (A:Ad):Sp:=λ vs H Q _=>∃ (p hd rw:Addr) (h r:List (Nat×Bool)) (d:Nat) (w:Bool),vs=[.ref p,.int d,.str (useS w)]/\zdr A H p hd rw h r/\h.length<=1000/\(h.map (·.1)).Nodup /\
 ∀ H',Same H H'->Q (.bl ((has h d || r.isEmpty) && lets h d w)) H'
def zoG (h:List (Nat×Bool)):List (Nat×Bool)->Bool
 | []=>false
 | (d,w)::_=>lets h d w
def zk3 (A:Ad):Sp:=λ vs H Q _=>∃ (p hd rw:Addr) (h r:List (Nat×Bool)),vs=[.ref p]/\zdr A H p hd rw h r/\h.length<=1000/\(h.map (·.1)).Nodup /\
 ∀ H',Same H H'->Q (.bl (zoG h r)) H'
def zrT (A:Ad):Sp:=λ vs H Q _=>∃ (p hd rw:Addr) (h r:List (Nat×Bool)) (d:Nat) (w:Bool),vs=[.ref p,.int d,.str (useS w)]/\zdr A H p hd rw h r/\h.length<=1000/\(h.map (·.1)).Nodup /\
 ∀ H',H' hd=some (.dK (zb4 (take1 h d w)))->zcs H hd H'->Q .non H'
def zpU (h r:List (Nat×Bool)) (d:Nat) (w:Bool):List (Nat×Bool):=if has h d then (d,w)::r else r++[(d,w)]
def zpx (A:Ad):Sp:=λ vs H Q _=>∃ (p hd rw:Addr) (h r:List (Nat×Bool)) (d:Nat) (w:Bool),vs=[.ref p,.int d,.str (useS w)]/\zdr A H p hd rw h r/\r.length<=1000 /\
 ∀ H' us,H' rw=some (.lst us)->zau H' us ((zpU h r d w).map zbY)->zcs H rw H'->Q .non H'
def zqV (A:Ad):Sp:=λ vs H Q _=>∃ (p hd rw dx:Addr) (h r:List (Nat×Bool)) (d:Nat),vs=[.ref p,.int d]/\zdr A H p hd rw h r/\H p=some (.ins A.zb7 dx (zh9 hd rw))/\r.length<=1000 /\
 ∀ H' rw' us,H rw'=none->H' p=some (.ins A.zb7 dx (zh9 hd rw'))->H' hd=some (.dK (zb4 (less h d)))->H' rw'=some (.lst us)->zau H' us ((less r d).map zbY)->(∀ b o,H b=some o->b≠p->b≠hd->H' b=some o)->Q .non H'
def zjN (A:Ad):Sp:=λ vs H Q _=>∃ (p hd rw:Addr) (h r:List (Nat×Bool)) (d:Nat) (w:Bool),vs=[.ref p,.int d,.str (useS w)]/\zdr A H p hd rw h r/\h.length<=1000/\(h.map (·.1)).Nodup/\r.length<=1000/\(d,w)∈r/\(r.map (·.1)).Nodup /\
 ∀ H' q,H q=none->Same H H'->H' q=some (.lst (zal (zi6 h r d w)))->Q (.ref q) H'
theorem zeb {c:Bool} {A B:Prop} (b:Bool) (h:c=b) (k:if b=true then A else B):if c=true then A else B:=by rw [h]; exact k
theorem zbB {c:Bool} {A B:Prop} (h:c=true) (k:A):if c=true then A else B:=by rw [if_pos h]; exact k
theorem zaZ {c:Bool} {A B:Prop} (h:c=false) (k:B):if c=true then A else B:=by rw [if_neg (by rw [h]; exact Bool.false_ne_true)]; exact k
theorem zo7 (a b:Nat):decide (V.int (a:Int)=V.int (b:Int))=(a == b):=by
 rw [Bool.eq_iff_iff,decide_eq_true_eq,beq_iff_eq]
 exact ⟨λ h=>by have:=V.int.inj h; omega,λ h=>by rw [h]⟩
theorem zqs (a b:Nat):(!decide (V.int (a:Int)=V.int (b:Int)))=(a != b):=by rw [zo7]; rfl
theorem zks (h:List (Nat×Bool)) (d:Nat):(look h d).isSome=has h d:=by
 unfold look has
 rw [Option.isSome_map]
 induction h with
 | nil=>rfl
 | cons p r ih =>
  rw [List.find?_cons,List.any_cons]
  cases e:(p.1 == d) with
  | true=>rfl
  | false=>rw [Bool.false_or]; exact ih
theorem zps {a b:Bool}:(V.str (useS a)=V.str (useS b))↔a=b:=by
 refine ⟨λ h=>?_,λ h=>by rw [h]⟩
 have e:=V.str.inj h
 cases a <;> cases b <;> first | rfl | exact absurd e (by decide +kernel)
theorem zgN (w:Bool):decide (V.str (useS w)=V.str "writing")=w:=by
 have:=zps (a:=w) (b:=true)
 cases w with
 | true=>exact decide_eq_true rfl
 | false=>exact decide_eq_false λ z=>by cases this.mp z
theorem zdr.same {A:Ad} {H H':Hp} {p hd rw:Addr} {h r:List (Nat×Bool)} (D:zdr A H p hd rw h r) (m:Same H H'):zdr A H' p hd rw h r:=by
 obtain ⟨⟨dx,e⟩,e2,us,e3,t⟩:=D
 exact ⟨⟨dx,m _ _ e⟩,m _ _ e2,us,m _ _ e3,zbK m t⟩
theorem zoR (h:List (Nat×Bool)) (d:Nat) (w:Bool):decide ((hind h d w).length=0)=lets h d w:=by
 unfold hind lets
 rw [List.length_map]
 rw [Bool.eq_iff_iff,decide_eq_true_eq,List.length_eq_zero_iff,List.filter_eq_nil_iff,List.all_eq_true]
 refine forall_congr' λ p=>forall_congr' λ _=>?_
 cases w <;> cases p.2 <;> simp
end TP
namespace TP
open PySem L2 TH
theorem ziZ {H:Hp}:∀ {us:List V} {r:List (Nat×Bool)},zau H us (r.map zbY)->DVs H us (r.map λ p=>PySem.W.Dat.tuple [.int p.1,.str (useS p.2)])
 | [],[],_=>.nil
 | _::_,_::_,.cons ⟨p,e,q⟩ t=>by subst e; exact .cons (.tup q (.cons (.int _) (.cons (.str _) .nil))) (ziZ t)
theorem zrD (w:Bool):PyData.strOk (useS w)=true:=by cases w <;> decide +kernel
theorem zi0 (i:Int) (w:Bool):PySem.W.kqdOk 7 (.tuple [.int i,.str (useS w)])=true:=by
 simp only [PySem.W.kqdOk,List.all_cons,List.all_nil,zrD,Bool.and_self]
end TP
end
section
namespace TP
open PySem L2 TH
section
variable {A:Ad} {ρ:Addr->Role} {ad:Role->Addr} {s s':HS Str} {kv kv':Book Str} {H H':Hp}
theorem zai.hall (h:zai A ρ ad s kv H):∃ dx,H (ad .hall)=some (.ins A.zaX dx (zlF ad)):=by
 obtain ⟨o,e,dx,rfl⟩:=h.at_ .hall trivial; exact ⟨dx,e⟩
theorem zai.recs (h:zai A ρ ad s kv H):H (ad .recs)=some (.lst ((List.range s.n).map λ i=>.ref (ad (.rcd i)))):=by
 obtain ⟨o,e,r⟩:=h.at_ .recs trivial; rw [e]; exact congrArg some r
theorem zai.zbJ (h:zai A ρ ad s kv H):H (ad .zbJ)=some (.dK (zdJ ad s.seen)):=by
 obtain ⟨o,e,r⟩:=h.at_ .zbJ trivial; rw [e]; exact congrArg some r
theorem zai.zcl (h:zai A ρ ad s kv H):∃ l,H (ad .zcl)=some (.dK (bkV l))/\zbm l s.book:=by
 obtain ⟨o,e,l,rfl,b⟩:=h.at_ .zcl trivial; exact ⟨l,e,b⟩
theorem zai.zdd (h:zai A ρ ad s kv H):∃ l,H (ad .zdd)=some (.dK (bkV l))/\zbm l kv:=by
 obtain ⟨o,e,l,rfl,b⟩:=h.at_ .zdd trivial; exact ⟨l,e,b⟩
theorem zai.order (h:zai A ρ ad s kv H):H (ad .order)=some (.lst (zal s.kept)):=by
 obtain ⟨o,e,r⟩:=h.at_ .order trivial; rw [e]; exact congrArg some r
theorem zai.rows (h:zai A ρ ad s kv H):∃ us,H (ad .rows)=some (.lst us)/\zau H us (s.log.map rowV):=by
 obtain ⟨o,e,us,rfl,t⟩:=h.at_ .rows trivial; exact ⟨us,e,t⟩
theorem zai.rcd (h:zai A ρ ad s kv H) {i:Nat} (hi:i < s.n):∃ dx w,H (ad (.rcd i))=some (.ins A.zaB dx (recF (s.deed i).st (ad (.did i)) w))/\zcr A H w (wantOf (s.deed i)):=by
 obtain ⟨o,e,dx,w,rfl,t⟩:=h.at_ (.rcd i) hi; exact ⟨dx,w,e,t⟩
theorem zai.did (h:zai A ρ ad s kv H) {i:Nat} (hi:i < s.n):∃ us,H (ad (.did i))=some (.lst us)/\zau H us ((s.deed i).done.map actV):=by
 obtain ⟨o,e,us,rfl,t⟩:=h.at_ (.did i) hi; exact ⟨us,e,t⟩
theorem zai.recAt (h:zai A ρ ad s kv H) {i:Nat} (hi:i < s.n):∃ w,RecAt A H (ad (.rcd i)) (s.deed i).st (ad (.did i)) w (s.deed i).done/\zcr A H w (wantOf (s.deed i)):=by
 obtain ⟨dx,w,e,t⟩:=h.rcd hi
 exact ⟨w,⟨⟨dx,e⟩,h.did hi⟩,t⟩
theorem zai.desk (h:zai A ρ ad s kv H) {k:Str} (hk:k∈s.seen):zdr A H (ad (.desk k)) (ad (.held k)) (ad (.row k)) (s.held k) (s.rows k):=by
 obtain ⟨o,e,dx,rfl⟩:=h.at_ (.desk k) hk
 obtain ⟨o2,e2,r2⟩:=h.at_ (.held k) hk
 obtain ⟨o3,e3,us,rfl,t⟩:=h.at_ (.row k) hk
 exact ⟨⟨dx,e⟩,by rw [e2]; exact congrArg some r2,us,e3,t⟩
theorem zai.zfe (h:zai A ρ ad s kv H) {i:Nat} (hi:i < s.n):((List.range s.n).map λ i=>V.ref (ad (.rcd i)))[i]?=some (V.ref (ad (.rcd i))):=by
 rw [List.getElem?_map,List.getElem?_range hi]; rfl
theorem zai.zev (h:zai A ρ ad s kv H) {k:Str} (hk:k∈s.seen):DGet H (ad .zbJ) (V.str k) (some (.ref (ad (.desk k)))):=by
 have:=DGet.k (k:=Sum.inr k) h.zbJ
 rw [zee,if_pos hk] at this; exact this
theorem Imm.zfX (ok:AdOk A) {r:Role} (h:zai A ρ ad s kv H) (l:live s r) (kp:zcs H (ad r) H'):Imm A H H':=by
 obtain ⟨o₀,e₀,a₀⟩:=h.at_ r l
 obtain ⟨m1,m2⟩:=a₀.mut ok
 exact ⟨λ p xs e=>kp p _ e (zbA e e₀ λ z=>m1 xs z.symm),λ p dx fs e=>kp p _ e (zbA e e₀ λ z=>m2 dx fs z.symm)⟩
theorem zai.put' (ok:AdOk A) (h:zai A ρ ad s kv H) {r:Role} {o:HO} (l:live s r) (e:H' (ad r)=some o) (kp:zcs H (ad r) H') (new:At A ad s' kv' H' r o) (lv:∀ r',r'≠r->live s' r'->live s r')
   (oth:∀ r' o',r'≠r->live s' r'->At A ad s kv H' r' o'->At A ad s' kv' H' r' o'):zai A ρ ad s' kv' H'/\Frame ρ H ρ H':=by
 have im:=Imm.zfX ok h l kp
 refine ⟨⟨λ r' l'=>?_,λ r' l'=>?_,λ b eb=>?_⟩,λ b u eb q=>?_,im.tup⟩
 . by_cases hr:r'=r
   . subst hr; exact ⟨o,e,new⟩
   . obtain ⟨o',e',a'⟩:=h.at_ r' (lv r' hr l')
     exact ⟨o',kp _ _ e' (h.ne (lv r' hr l') l hr),oth r' o' hr l' (a'.mono im)⟩
 . by_cases hr:r'=r
   . subst hr; exact h.ro r' l
   . exact h.ro r' (lv r' hr l')
 . refine h.fr b ?_
   cases q:H b with
   | none=>rfl
   | some u =>
     by_cases z:b=ad r
     . subst z; rw [e] at eb; cases eb
     . rw [kp b u q z] at eb; cases eb
 . have hb:b≠ad r:=λ z=>by rw [z,h.ro r l] at q; exact zoF l q
   exact ⟨kp b u eb hb,q⟩
theorem zdc {s s':HS Str} (h1:s'.n=s.n) (h2:s'.seen=s.seen) {r:Role} (l:live s' r):live s r:=by
 cases r <;> first | exact l | (show _ < s.n; rw [<-h1]; exact l) | (show _∈s.seen; rw [<-h2]; exact l)
theorem zai.zmS (ok:AdOk A) (h:zai A ρ ad s kv H) {row:Row Str} {us:List V} {v:V} (e0:H (ad .rows)=some (.lst us)) (e:H' (ad .rows)=some (.lst (us++[v]))) (kp:zcs H (ad .rows) H') (t:TupAt H' v (rowV row)) :
   zai A ρ ad { s with log:=s.log++[row] } kv H'/\Frame ρ H ρ H':=by
 obtain ⟨us',e1,tu⟩:=h.rows
 rw [e0] at e1; cases e1
 refine h.put' ok (r:=.rows) trivial e kp ⟨_,rfl,?_⟩ (λ r' _ l=>zdc (s:=s) rfl rfl l) λ r' o' hr l a=>?_
 . show zau H' _ ((s.log++[row]).map rowV)
   rw [List.map_append]
   exact S6.zcn (zau.mono (Imm.zfX ok h (r:=.rows) trivial kp) tu) t
 . cases r' <;> first | exact a | exact absurd rfl hr
theorem zai.zqe (ok:AdOk A) (h:zai A ρ ad s kv H) {d:Nat} (e:H' (ad .order)=some (.lst (zal s.kept++[V.int (d:Int)]))) (kp:zcs H (ad .order) H') :
   zai A ρ ad { s with kept:=s.kept++[d] } kv H'/\Frame ρ H ρ H':=by
 refine h.put' ok (r:=.order) trivial e kp ?_ (λ r' _ l=>zdc (s:=s) rfl rfl l) λ r' o' hr l a=>?_
 . show _=HO.lst ((s.kept++[d]).map _)
   rw [List.map_append]; rfl
 . cases r' <;> first | exact a | exact absurd rfl hr
theorem zai.zmo (ok:AdOk A) (h:zai A ρ ad s kv H) {l:List (Str×Int)} {b:Book Str} (e:H' (ad .zcl)=some (.dK (bkV l))) (kp:zcs H (ad .zcl) H') (hb:zbm l b) :
  zai A ρ ad { s with book:=b } kv H'/\Frame ρ H ρ H':=by
 refine h.put' ok (r:=.zcl) trivial e kp ⟨l,rfl,hb⟩ (λ r' _ l=>zdc (s:=s) rfl rfl l) λ r' o' hr l a=>?_
 cases r' <;> first | exact a | exact absurd rfl hr
theorem zai.zpB (ok:AdOk A) (h:zai A ρ ad s kv H) {l:List (Str×Int)} {b:Book Str} (e:H' (ad .zdd)=some (.dK (bkV l))) (kp:zcs H (ad .zdd) H') (hb:zbm l b) :
  zai A ρ ad s b H'/\Frame ρ H ρ H':=by
 refine h.put' ok (r:=.zdd) trivial e kp ⟨l,rfl,hb⟩ (λ r' _ l=>zdc (s:=s) rfl rfl l) λ r' o' hr l a=>?_
 cases r' <;> first | exact a | exact absurd rfl hr
theorem zai.zn6 (ok:AdOk A) (h:zai A ρ ad s kv H) {d:Nat} (hd:d < s.n) {D:Deed Str} {w:V} {dx:Addr} (e:H' (ad (.rcd d))=some (.ins A.zaB dx (recF D.st (ad (.did d)) w))) (kp:zcs H (ad (.rcd d)) H') (hw:zcr A H' w (wantOf D)) (hdn:D.done=(s.deed d).done) :
   zai A ρ ad { s with deed:=up s.deed d D } kv H'/\Frame ρ H ρ H':=by
 refine h.put' ok (r:=.rcd d) hd e kp ?_ (λ r' _ l=>zdc (s:=s) rfl rfl l) λ r' o' hr l a=>?_
 . refine ⟨dx,w,?_,?_⟩
   . show _=HO.ins A.zaB dx (recF (up s.deed d D d).st _ w)
     rw [zag]
   . show zcr A H' w (wantOf (up s.deed d D d))
     rw [zag]; exact hw
 . cases r' with
   | rcd i =>
     have hi:i≠d:=λ z=>hr (by rw [z])
     obtain ⟨dx',w',e',t⟩:=a
     refine ⟨dx',w',?_,?_⟩
     . show _=HO.ins A.zaB dx' (recF (up s.deed d D i).st _ w')
       rw [zao hi]; exact e'
     . show zcr A H' w' (wantOf (up s.deed d D i))
       rw [zao hi]; exact t
   | did i =>
     obtain ⟨us,e',t⟩:=a
     refine ⟨us,e',?_⟩
     show zau H' us ((up s.deed d D i).done.map actV)
     by_cases hi:i=d
     . subst hi; rw [zag,hdn]; exact t
     . rw [zao hi]; exact t
   | _=>exact a
theorem zai.zsF (ok:AdOk A) (h:zai A ρ ad s kv H) {d:Nat} (hd:d < s.n) {a:Act Str} {us:List V} {v:V} (e0:H (ad (.did d))=some (.lst us)) (e:H' (ad (.did d))=some (.lst (us++[v]))) (kp:zcs H (ad (.did d)) H') (t:TupAt H' v (actV a)) :
   zai A ρ ad { s with deed:=up s.deed d { s.deed d with done:=(s.deed d).done++[a] } } kv H'/\Frame ρ H ρ H':=by
 obtain ⟨us',e1,tu⟩:=h.did hd
 rw [e0] at e1; cases e1
 refine h.put' ok (r:=.did d) hd e kp ⟨_,rfl,?_⟩ (λ r' _ l=>zdc (s:=s) rfl rfl l) λ r' o' hr l b=>?_
 . show zau H' _ ((up s.deed d _ d).done.map actV)
   rw [zag]
   show zau H' _ (((s.deed d).done++[a]).map actV)
   rw [List.map_append]
   exact S6.zcn (zau.mono (Imm.zfX ok h (r:=.did d) hd kp) tu) t
 . cases r' with
   | rcd i =>
    obtain ⟨dx',w',e',t'⟩:=b
    refine ⟨dx',w',?_,?_⟩
    . show _=HO.ins A.zaB dx' (recF (up s.deed d _ i).st _ w')
      by_cases hi:i=d
      . subst hi; rw [zag]; exact e'
      . rw [zao hi]; exact e'
    . show zcr A H' w' (wantOf (up s.deed d _ i))
      by_cases hi:i=d
      . subst hi; rw [zag]; exact t'
      . rw [zao hi]; exact t'
   | did i =>
    have hi:i≠d:=λ z=>hr (by rw [z])
    obtain ⟨us',e',t'⟩:=b
    refine ⟨us',e',?_⟩
    show zau H' us' ((up s.deed d _ i).done.map actV)
    rw [zao hi]; exact t'
   | _=>exact b
theorem zai.zq1 (ok:AdOk A) (h:zai A ρ ad s kv H) {k:Str} (hk:k∈s.seen) {hs:List (Nat×Bool)} (e:H' (ad (.held k))=some (.dK (zb4 hs))) (kp:zcs H (ad (.held k)) H') :
   zai A ρ ad { s with held:=up s.held k hs } kv H'/\Frame ρ H ρ H':=by
 refine h.put' ok (r:=.held k) hk e kp ?_ (λ r' _ l=>zdc (s:=s) rfl rfl l) λ r' o' hr l b=>?_
 . show _=HO.dK (zb4 (up s.held k hs k))
   rw [zag]
 . cases r' with
   | held j =>
    have hj:j≠k:=λ z=>hr (by rw [z])
    show o'=HO.dK (zb4 (up s.held k hs j))
    rw [zao hj]; exact b
   | _=>exact b
theorem zai.zqj (ok:AdOk A) (h:zai A ρ ad s kv H) {k:Str} (hk:k∈s.seen) {r:List (Nat×Bool)} {us:List V} (e:H' (ad (.row k))=some (.lst us)) (kp:zcs H (ad (.row k)) H') (t:zau H' us (r.map zbY)) :
   zai A ρ ad { s with rows:=up s.rows k r } kv H'/\Frame ρ H ρ H':=by
 refine h.put' ok (r:=.row k) hk e kp ?_ (λ r' _ l=>zdc (s:=s) rfl rfl l) λ r' o' hr l b=>?_
 . refine ⟨us,rfl,?_⟩
   show zau H' us ((up s.rows k r k).map zbY)
   rw [zag]; exact t
 . cases r' with
   | row j =>
    have hj:j≠k:=λ z=>hr (by rw [z])
    obtain ⟨us',e',t'⟩:=b
    refine ⟨us',e',?_⟩
    show zau H' us' ((up s.rows k r j).map zbY)
    rw [zao hj]; exact t'
   | _=>exact b
theorem zai.leave (ok:AdOk A) (h:zai A ρ ad s kv H) {k:Str} {d:Nat} (hk:k∈s.seen) {dx p':Addr} {us:List V} (n:H p'=none) (e1:H' (ad (.desk k))=some (.ins A.zb7 dx (zh9 (ad (.held k)) p'))) (e2:H' (ad (.held k))=some (.dK (zb4 (less (s.held k) d)))) (e3:H' p'=some (.lst us)) (t:zau H' us ((less (s.rows k) d).map zbY))
   (kp:∀ b o,H b=some o->b≠ad (.desk k)->b≠ad (.held k)->H' b=some o):∃ ρ' ad',ad' .hall=ad .hall/\zai A ρ' ad' (zd8 s d k) kv H'/\Frame ρ H ρ' H':=by
 obtain ⟨dx0,d0⟩:=(h.desk hk).ob
 have d1:=(h.desk hk).hd
 have im:Imm A H H':=⟨λ p xs e=>kp p _ e (zbA e d0 λ z=>nomatch z) (zbA e d1 λ z=>nomatch z),λ p dx fs e=>kp p _ e (zbA e d0 λ z=>by injection z with z; exact ok.wd z) (zbA e d1 λ z=>nomatch z)⟩
 have adn:∀ r,live s r->ad r≠p':=λ r l z=>by
   obtain ⟨o,e,_⟩:=h.at_ r l
   rw [z,n] at e; cases e
 refine ⟨up ρ p' (.row k),up ad (.row k) p',zao (by intro z; cases z),⟨λ r l=>?_,λ r l=>?_,λ b eb=>?_⟩,λ b o eb q=>?_,im.tup⟩
 . have l0:live s r:=zdc (s:=s) rfl rfl l
   by_cases hr:r=.row k
   . subst hr
     refine ⟨.lst us,by rw [zag]; exact e3,us,rfl,?_⟩
     show zau H' us ((up s.rows k (less (s.rows k) d) k).map zbY)
     rw [zag]; exact t
   . have ea:up ad (.row k) p' r=ad r:=zao hr
     rw [ea]
     by_cases hr1:r=.desk k
     . subst hr1
       refine ⟨_,e1,dx,?_⟩
       show _=HO.ins A.zb7 dx (zh9 (up ad (.row k) p' (.held k)) (up ad (.row k) p' (.row k)))
       rw [zag,zao (by intro z; cases z)]
     . by_cases hr2:r=.held k
       . subst hr2
         refine ⟨_,e2,?_⟩
         show _=HO.dK (zb4 (up s.held k (less (s.held k) d) k))
         rw [zag]
       . obtain ⟨o,e,a⟩:=h.at_ r l0
         refine ⟨o,kp _ _ e (h.ne l0 hk hr1) (h.ne l0 hk hr2),?_⟩
         have a:=a.mono im
         cases r with
         | hall =>
          obtain ⟨dx',e'⟩:=a
          refine ⟨dx',?_⟩
          rw [e']
          show HO.ins A.zaX dx' (zlF ad)=HO.ins A.zaX dx' (zlF (up ad (.row k) p'))
          unfold zlF
          simp only [zao (show (Role.recs:Role)≠.row k by intro z; cases z),zao (show (Role.zbJ:Role)≠.row k by intro z; cases z),zao (show (Role.zcl:Role)≠.row k by intro z; cases z),zao (show (Role.zdd:Role)≠.row k by intro z; cases z),zao (show (Role.order:Role)≠.row k by intro z; cases z),zao (show (Role.rows:Role)≠.row k by intro z; cases z)]
         | recs =>
          show o=HO.lst ((List.range s.n).map λ i=>V.ref (up ad (.row k) p' (.rcd i)))
          have:(λ i=>V.ref (up ad (.row k) p' (.rcd i)))=λ i=>V.ref (ad (.rcd i)):=funext λ i=>by rw [zao (by intro z; cases z)]
          rw [this]; exact a
         | zbJ =>
          show o=HO.dK (s.seen.map λ j=>(Sum.inr j,V.ref (up ad (.row k) p' (.desk j))))
          have:(λ j:Str=>((Sum.inr j:Key),V.ref (up ad (.row k) p' (.desk j))))=λ j=>(Sum.inr j,V.ref (ad (.desk j))):=funext λ j=>by rw [zao (by intro z; cases z)]
          rw [this]; exact a
         | rcd i =>
          obtain ⟨dx',w',e',t'⟩:=a
          refine ⟨dx',w',?_,t'⟩
          rw [e',zao (show (Role.did i:Role)≠.row k by intro z; cases z)]
          rfl
         | desk j =>
          have hj:j≠k:=λ z=>hr1 (by rw [z])
          obtain ⟨dx',e'⟩:=a
          refine ⟨dx',?_⟩
          rw [e',zao (show (Role.held j:Role)≠.row k by intro z; cases z),zao (show (Role.row j:Role)≠.row k by intro z; injection z with z; exact hj z)]
         | held j =>
          have hj:j≠k:=λ z=>hr2 (by rw [z])
          show o=HO.dK (zb4 (up s.held k _ j))
          rw [zao hj]; exact a
         | row j =>
          have hj:j≠k:=λ z=>hr (by rw [z])
          obtain ⟨us',e',t'⟩:=a
          refine ⟨us',e',?_⟩
          show zau H' us' ((up s.rows k _ j).map zbY)
          rw [zao hj]; exact t'
         | _=>exact a
 . have l0:live s r:=zdc (s:=s) rfl rfl l
   by_cases hr:r=.row k
   . subst hr; rw [zag,zag]
   . rw [zao hr,zao (adn r l0)]; exact h.ro r l0
 . have hb:b≠p':=λ z=>by rw [z,e3] at eb; cases eb
   rw [zao hb]
   refine h.fr b ?_
   cases q:H b with
   | none=>rfl
   | some u =>
     by_cases z:b=ad (.desk k)
     . rw [z,e1] at eb; cases eb
     . by_cases z2:b=ad (.held k)
       . rw [z2,e2] at eb; cases eb
       . rw [kp b u q z z2] at eb; cases eb
 . have hb:b≠p':=zaf eb n
   refine ⟨kp b o eb (λ z=>?_) λ z=>?_,by rw [zao hb]; exact q⟩
   . rw [z,h.ro (.desk k) hk] at q; cases q
   . rw [z,h.ro (.held k) hk] at q; cases q
end
end TP
end
section
namespace TP
open PySem L2 TH
section
variable {A:Ad} {ρ:Addr->Role} {ad:Role->Addr} {s s':HS Str} {kv kv':Book Str} {H H':Hp}
theorem zai.more (ok:AdOk A) (h:zai A ρ ad s kv H) (r0:Role) (l0:live s r0) (N:Role->Prop) (ρ':Addr->Role) (ad':Role->Addr) (kp:zcs H (ad r0) H') (e0:∃ o,H' (ad r0)=some o)
   (lv:∀ r,live s' r->N r\/live s r) (same:∀ r,¬ N r->ad' r=ad r) (nr0:¬ N r0)
   (new:∀ r,live s' r->N r->H (ad' r)=none/\ρ' (ad' r)=r/\∃ o,H' (ad' r)=some o/\At A ad' s' kv' H' r o) (chg:∀ o,H' (ad r0)=some o->At A ad' s' kv' H' r0 o)
   (oth:∀ r o,r≠r0->¬ N r->live s' r->At A ad s kv H' r o->At A ad' s' kv' H' r o) (hρ:∀ b,(∃ o,H b=some o)->ρ' b=ρ b) (hρ2:∀ b,H' b=none->ρ' b=.other):zai A ρ' ad' s' kv' H'/\Frame ρ H ρ' H':=by
 have im:=Imm.zfX ok h l0 kp
 refine ⟨⟨λ r l=>?_,λ r l=>?_,hρ2⟩,λ b u eb q=>?_,im.tup⟩
 . by_cases hn:N r
   . obtain ⟨_,_,o,e,a⟩:=new r l hn; exact ⟨o,e,a⟩
   . rw [same r hn]
     have ls:=(lv r l).resolve_left hn
     by_cases hr:r=r0
     . subst hr
       obtain ⟨o,e⟩:=e0
       exact ⟨o,e,chg o e⟩
     . obtain ⟨o',e',a'⟩:=h.at_ r ls
       exact ⟨o',kp _ _ e' (h.ne ls l0 hr),oth r o' hr hn l (a'.mono im)⟩
 . by_cases hn:N r
   . exact (new r l hn).2.1
   . rw [same r hn]
     have ls:=(lv r l).resolve_left hn
     obtain ⟨o',e',_⟩:=h.at_ r ls
     rw [hρ _ ⟨o',e'⟩]; exact h.ro r ls
 . have hb:b≠ad r0:=λ z=>by rw [z,h.ro r0 l0] at q; exact zoF l0 q
   exact ⟨kp b u eb hb,by rw [hρ b ⟨u,eb⟩]; exact q⟩
theorem zai.addRec (ok:AdOk A) (h:zai A ρ ad s kv H) {p d dx:Addr} (np:H p=none) (nd:H d=none) (e0:H' (ad .recs)=some (.lst (((List.range s.n).map λ i=>V.ref (ad (.rcd i)))++[.ref p]))) (e1:H' p=some (.ins A.zaB dx (recF .zar d .non))) (e2:H' d=some (.lst [])) (kp:zcs H (ad .recs) H') :
   ∃ ρ' ad',ad' .hall=ad .hall/\zai A ρ' ad' { s with n:=s.n+1,deed:=up s.deed s.n ⟨.zar,[],none⟩ } kv H'/\Frame ρ H ρ' H':=by
 have hpd:p≠d:=zbA e1 e2 λ z=>nomatch z
 have a1:∀ r,r≠.rcd s.n->r≠.did s.n->up (up ad (.rcd s.n) p) (.did s.n) d r=ad r:=λ r h1 h2=>by rw [zao h2,zao h1]
 have ar:up (up ad (.rcd s.n) p) (.did s.n) d (.rcd s.n)=p:=by rw [zao (by intro z; cases z),zag]
 have adn:up (up ad (.rcd s.n) p) (.did s.n) d (.did s.n)=d:=zag
 have st:∀ (x:Addr),H x=none->x≠p->x≠d->up (up ρ p (.rcd s.n)) d (.did s.n) x=ρ x:=λ x _ h1 h2=>by rw [zao h2,zao h1]
 refine ⟨up (up ρ p (.rcd s.n)) d (.did s.n),up (up ad (.rcd s.n) p) (.did s.n) d,a1 _ (by intro z; cases z) (by intro z; cases z),?_⟩
 refine h.more ok .recs trivial (λ r=>r=.rcd s.n\/r=.did s.n) _ _ kp ⟨_,e0⟩ (λ r l=>?_) (λ r hn=>a1 r (λ z=>hn (.inl z)) λ z=>hn (.inr z)) (by rintro (z | z) <;> cases z) (λ r l hn=>?_) (λ o e=>?_) (λ r o hr hn l a=>?_) (λ b ⟨o,eb⟩=>?_) λ b eb=>?_
 . cases r with
   | rcd i =>
     have hi:i < s.n+1:=l
     rcases Nat.lt_or_ge i s.n with z | z
     . exact .inr z
     . exact .inl (.inl (by rw [show i=s.n by omega]))
   | did i =>
     have hi:i < s.n+1:=l
     rcases Nat.lt_or_ge i s.n with z | z
     . exact .inr z
     . exact .inl (.inr (by rw [show i=s.n by omega]))
   | _=>exact .inr l
 . rcases hn with z | z
   . subst z
     rw [ar]
     refine ⟨np,by rw [zao hpd,zag],_,e1,dx,.non,?_,?_⟩
     . show _=HO.ins A.zaB dx (recF (up s.deed s.n _ s.n).st (up (up ad (.rcd s.n) p) (.did s.n) d (.did s.n)) .non)
       rw [zag,zag]
     . show zcr A H' .non (wantOf (up s.deed s.n ⟨.zar,[],none⟩ s.n))
       rw [zag]; rfl
   . subst z
     rw [adn]
     refine ⟨nd,zag,_,e2,[],rfl,?_⟩
     show zau H' [] ((up s.deed s.n _ s.n).done.map actV)
     rw [zag]; exact .nil
 . rw [e0] at e
   have e:=Option.some.inj e
   show o=HO.lst ((List.range (s.n+1)).map λ i=>V.ref (up (up ad (.rcd s.n) p) (.did s.n) d (.rcd i)))
   rw [<-e,List.range_succ,List.map_append,List.map_cons,List.map_nil,ar]
   congr 2
   refine List.map_congr_left λ i hi=>?_
   have:i≠s.n:=Nat.ne_of_lt (List.mem_range.mp hi)
   rw [a1 _ (by intro z; injection z with z; exact this z) (by intro z; cases z)]
 . cases r with
   | rcd i =>
     have hi:i≠s.n:=λ z=>hn (.inl (by rw [z]))
     obtain ⟨dx',w',e',t'⟩:=a
     refine ⟨dx',w',?_,?_⟩
     . show _=HO.ins A.zaB dx' (recF (up s.deed s.n _ i).st (up (up ad (.rcd s.n) p) (.did s.n) d (.did i)) w')
       rw [zao hi,a1 _ (by intro z; cases z) (by intro z; injection z with z; exact hi z)]; exact e'
     . show zcr A H' w' (wantOf (up s.deed s.n _ i))
       rw [zao hi]; exact t'
   | did i =>
     have hi:i≠s.n:=λ z=>hn (.inr (by rw [z]))
     obtain ⟨us,e',t'⟩:=a
     refine ⟨us,e',?_⟩
     show zau H' us ((up s.deed s.n _ i).done.map actV)
     rw [zao hi]; exact t'
   | hall =>
     obtain ⟨dx',e'⟩:=a
     refine ⟨dx',?_⟩
     rw [e']
     unfold zlF
     simp only [a1 .recs (by intro z; cases z) (by intro z; cases z),a1 .zbJ (by intro z; cases z) (by intro z; cases z),a1 .zcl (by intro z; cases z) (by intro z; cases z),a1 .zdd (by intro z; cases z) (by intro z; cases z),a1 .order (by intro z; cases z) (by intro z; cases z),a1 .rows (by intro z; cases z) (by intro z; cases z)]
   | recs=>exact absurd rfl hr
   | zbJ =>
     show o=HO.dK (s.seen.map λ j=>(Sum.inr j,V.ref (up (up ad (.rcd s.n) p) (.did s.n) d (.desk j))))
     have:(λ j:Str=>((Sum.inr j:Key),V.ref (up (up ad (.rcd s.n) p) (.did s.n) d (.desk j))))=λ j=>(Sum.inr j,V.ref (ad (.desk j))):=funext λ j=>by rw [a1 _ (by intro z; cases z) (by intro z; cases z)]
     rw [this]; exact a
   | desk j =>
     obtain ⟨dx',e'⟩:=a
     refine ⟨dx',?_⟩
     rw [e',a1 (.held j) (by intro z; cases z) (by intro z; cases z),a1 (.row j) (by intro z; cases z) (by intro z; cases z)]
   | _=>exact a
 . rw [zao (zaf eb nd),zao (zaf eb np)]
 . have h1:b≠p:=λ z=>by rw [z,e1] at eb; cases eb
   have h2:b≠d:=λ z=>by rw [z,e2] at eb; cases eb
   rw [zao h2,zao h1]
   refine h.fr b ?_
   cases q:H b with
   | none=>rfl
   | some u =>
     by_cases z:b=ad .recs
     . rw [z,e0] at eb; cases eb
     . rw [kp b u q z] at eb; cases eb
theorem zai.zrz (ok:AdOk A) (h:zai A ρ ad s kv H) {k:Str} (hk:k∉s.seen) (h1:s.held k=[]) (h2:s.rows k=[]) {p hd rw dx:Addr} (np:H p=none) (nh:H hd=none) (nr:H rw=none)
   (e0:H' (ad .zbJ)=some (.dK (zdJ ad s.seen++[(Sum.inr k,.ref p)]))) (e1:H' p=some (.ins A.zb7 dx (zh9 hd rw))) (e2:H' hd=some (.dK [])) (e3:H' rw=some (.lst [])) (kp:zcs H (ad .zbJ) H') :
   ∃ ρ' ad',ad' .hall=ad .hall/\zai A ρ' ad' { s with seen:=s.seen++[k] } kv H'/\Frame ρ H ρ' H'/\ad' (.desk k)=p:=by
 have p1:p≠hd:=zbA e1 e2 λ z=>nomatch z
 have p2:p≠rw:=zbA e1 e3 λ z=>nomatch z
 have p3:hd≠rw:=zbA e2 e3 λ z=>nomatch z
 generalize hA:(up (up (up ad (.desk k) p) (.held k) hd) (.row k) rw)=ad'
 have a1:∀ r,r≠.desk k->r≠.held k->r≠.row k->ad' r=ad r:=λ r q1 q2 q3=>by rw [<-hA,zao q3,zao q2,zao q1]
 have ad1:ad' (.desk k)=p:=by rw [<-hA,zao (by intro z; cases z),zao (by intro z; cases z),zag]
 have ad2:ad' (.held k)=hd:=by rw [<-hA,zao (by intro z; cases z),zag]
 have ad3:ad' (.row k)=rw:=by rw [<-hA,zag]
 generalize hR:(up (up (up ρ p (.desk k)) hd (.held k)) rw (.row k))=ρ'
 have r1:∀ b,b≠p->b≠hd->b≠rw->ρ' b=ρ b:=λ b q1 q2 q3=>by rw [<-hR,zao q3,zao q2,zao q1]
 refine ⟨ρ',ad',a1 _ (by intro z; cases z) (by intro z; cases z) (by intro z; cases z),?_⟩
 have main:=h.more (s':={ s with seen:=s.seen++[k] }) (kv':=kv) ok .zbJ trivial (λ r=>r=.desk k\/r=.held k\/r=.row k) ρ' ad' kp ⟨_,e0⟩ (λ r l=>?_) (λ r hn=>a1 r (λ z=>hn (.inl z)) (λ z=>hn (.inr (.inl z))) λ z=>hn (.inr (.inr z))) (by rintro (z | z | z) <;> cases z) (λ r l hn=>?_) (λ o e=>?_) (λ r o hr hn l a=>?_) (λ b ⟨o,eb⟩=>?_) λ b eb=>?_
 . exact ⟨main.1,main.2,ad1⟩
 . have mm:∀ j,j∈s.seen++[k]->j=k\/j∈s.seen:=λ j hj=>by
     rcases List.mem_append.mp hj with z | z
     . exact .inr z
     . exact .inl (List.mem_singleton.mp z)
   cases r with
   | desk j=>exact (mm j l).elim (λ z=>.inl (.inl (by rw [z]))) .inr
   | held j=>exact (mm j l).elim (λ z=>.inl (.inr (.inl (by rw [z])))) .inr
   | row j=>exact (mm j l).elim (λ z=>.inl (.inr (.inr (by rw [z])))) .inr
   | _=>exact .inr l
 . rcases hn with z | z | z
   . subst z
     rw [ad1]
     refine ⟨np,by rw [<-hR,zao p2,zao p1,zag],_,e1,dx,?_⟩
     rw [ad2,ad3]
   . subst z
     rw [ad2]
     refine ⟨nh,by rw [<-hR,zao p3,zag],_,e2,?_⟩
     show _=HO.dK (zb4 (s.held k))
     rw [h1]; rfl
   . subst z
     rw [ad3]
     refine ⟨nr,by rw [<-hR,zag],_,e3,[],rfl,?_⟩
     show zau H' [] ((s.rows k).map zbY)
     rw [h2]; exact .nil
 . rw [e0] at e
   have e:=Option.some.inj e
   show o=HO.dK ((s.seen++[k]).map λ j=>(Sum.inr j,V.ref (ad' (.desk j))))
   rw [<-e,List.map_append,List.map_cons,List.map_nil,ad1]
   unfold zdJ
   congr 2
   refine List.map_congr_left λ j hj=>?_
   have:j≠k:=λ z=>hk (z ▸ hj)
   rw [a1 _ (by intro z; injection z with z; exact this z) (by intro z; cases z) (by intro z; cases z)]
 . cases r with
   | rcd i =>
     obtain ⟨dx',w',e',t'⟩:=a
     refine ⟨dx',w',?_,t'⟩
     rw [e',a1 (.did i) (by intro z; cases z) (by intro z; cases z) (by intro z; cases z)]
   | hall =>
     obtain ⟨dx',e'⟩:=a
     refine ⟨dx',?_⟩
     rw [e']
     unfold zlF
     simp only [a1 .recs (by intro z; cases z) (by intro z; cases z) (by intro z; cases z),a1 .zbJ (by intro z; cases z) (by intro z; cases z) (by intro z; cases z),a1 .zcl (by intro z; cases z) (by intro z; cases z) (by intro z; cases z),a1 .zdd (by intro z; cases z) (by intro z; cases z) (by intro z; cases z),a1 .order (by intro z; cases z) (by intro z; cases z) (by intro z; cases z),a1 .rows (by intro z; cases z) (by intro z; cases z) (by intro z; cases z)]
   | recs =>
     show o=HO.lst ((List.range s.n).map λ i=>V.ref (ad' (.rcd i)))
     have:(λ i=>V.ref (ad' (.rcd i)))=λ i=>V.ref (ad (.rcd i)):=funext λ i=>by rw [a1 _ (by intro z; cases z) (by intro z; cases z) (by intro z; cases z)]
     rw [this]; exact a
   | zbJ=>exact absurd rfl hr
   | desk j =>
     have hj:j≠k:=λ z=>hn (.inl (by rw [z]))
     obtain ⟨dx',e'⟩:=a
     refine ⟨dx',?_⟩
     rw [e',a1 (.held j) (by intro z; cases z) (by intro z; injection z with z; exact hj z) (by intro z; cases z),a1 (.row j) (by intro z; cases z) (by intro z; cases z) (by intro z; injection z with z; exact hj z)]
   | _=>exact a
 . exact r1 b (zaf eb np) (zaf eb nh) (zaf eb nr)
 . have q1:b≠p:=λ z=>by rw [z,e1] at eb; cases eb
   have q2:b≠hd:=λ z=>by rw [z,e2] at eb; cases eb
   have q3:b≠rw:=λ z=>by rw [z,e3] at eb; cases eb
   rw [r1 b q1 q2 q3]
   refine h.fr b ?_
   cases q:H b with
   | none=>rfl
   | some u =>
     by_cases z:b=ad .zbJ
     . rw [z,e0] at eb; cases eb
     . rw [kp b u q z] at eb; cases eb
theorem zai.fresh {a dx p1 p2 p3 p4 p5 p6:Addr} (na:H a=none) (n1:H p1=none) (n2:H p2=none) (n3:H p3=none) (n4:H p4=none) (n5:H p5=none) (n6:H p6=none)
   (e:H' a=some (.ins A.zaX dx [("records",.ref p1),("desks",.ref p2),("standing",.ref p3),("kept_values",.ref p4),("kept_deeds",.ref p5),("rows",.ref p6)]))
   (e1:H' p1=some (.lst [])) (e2:H' p2=some (.dK [])) (e3:H' p3=some (.dK [])) (e4:H' p4=some (.dK [])) (e5:H' p5=some (.lst [])) (e6:H' p6=some (.lst [])) (d1:p1≠p5) (d2:p1≠p6) (d3:p5≠p6) (d4:p2≠p3) (d5:p2≠p4) (d6:p3≠p4) (kp:Same H H') :
   ∃ ρ ad,ad .hall=a/\zai A ρ ad TH.empty (λ _=>none) H'/\∀ b o,H b=some o->ρ b=.other:=by
 let ad:Role->Addr:=λ r=>match r with
   | .hall=>a | .recs=>p1 | .zbJ=>p2 | .zcl=>p3 | .zdd=>p4 | .order=>p5 | .rows=>p6 | _=>a
 let ρ:Addr->Role:=λ b=>if b=a then .hall else if b=p1 then .recs else if b=p2 then .zbJ else if b=p3 then .zcl else if b=p4 then .zdd else if b=p5 then .order else if b=p6 then .rows else .other
 have k1:a≠p1:=zbA e e1 λ z=>nomatch z
 have k2:a≠p2:=zbA e e2 λ z=>nomatch z
 have k3:a≠p3:=zbA e e3 λ z=>nomatch z
 have k4:a≠p4:=zbA e e4 λ z=>nomatch z
 have k5:a≠p5:=zbA e e5 λ z=>nomatch z
 have k6:a≠p6:=zbA e e6 λ z=>nomatch z
 have l12:p1≠p2:=zbA e1 e2 λ z=>nomatch z
 have l13:p1≠p3:=zbA e1 e3 λ z=>nomatch z
 have l14:p1≠p4:=zbA e1 e4 λ z=>nomatch z
 have l52:p5≠p2:=zbA e5 e2 λ z=>nomatch z
 have l53:p5≠p3:=zbA e5 e3 λ z=>nomatch z
 have l54:p5≠p4:=zbA e5 e4 λ z=>nomatch z
 have l62:p6≠p2:=zbA e6 e2 λ z=>nomatch z
 have l63:p6≠p3:=zbA e6 e3 λ z=>nomatch z
 have l64:p6≠p4:=zbA e6 e4 λ z=>nomatch z
 have bk:zbm [] (λ _=>none:Book Str):=⟨List.nodup_nil,λ k v=>⟨(λ z=>nomatch z),(λ z=>nomatch z)⟩⟩
 have oth:∀ b,b≠a->b≠p1->b≠p2->b≠p3->b≠p4->b≠p5->b≠p6->ρ b=.other:=λ b q q1 q2 q3 q4 q5 q6=>by
   show (if b=a then Role.hall else _)=_
   rw [if_neg q,if_neg q1,if_neg q2,if_neg q3,if_neg q4,if_neg q5,if_neg q6]
 refine ⟨ρ,ad,rfl,⟨λ r l=>?_,λ r l=>?_,λ b eb=>?_⟩,λ b o eb=>?_⟩
 . cases r with
   | hall=>exact ⟨_,e,dx,rfl⟩
   | recs=>exact ⟨_,e1,rfl⟩
   | zbJ=>exact ⟨_,e2,rfl⟩
   | zcl=>exact ⟨_,e3,[],rfl,bk⟩
   | zdd=>exact ⟨_,e4,[],rfl,bk⟩
   | order=>exact ⟨_,e5,rfl⟩
   | rows=>exact ⟨_,e6,[],rfl,.nil⟩
   | other=>exact l.elim
   | rcd i=>exact absurd l (Nat.not_lt_zero _)
   | did i=>exact absurd l (Nat.not_lt_zero _)
   | desk k=>exact absurd l (List.not_mem_nil)
   | held k=>exact absurd l (List.not_mem_nil)
   | row k=>exact absurd l (List.not_mem_nil)
 . cases r with
   | hall=>exact if_pos rfl
   | recs=>show (if p1=a then _ else _)=_; rw [if_neg k1.symm,if_pos rfl]
   | zbJ=>show (if p2=a then _ else _)=_; rw [if_neg k2.symm,if_neg l12.symm,if_pos rfl]
   | zcl=>show (if p3=a then _ else _)=_; rw [if_neg k3.symm,if_neg l13.symm,if_neg d4.symm,if_pos rfl]
   | zdd=>show (if p4=a then _ else _)=_; rw [if_neg k4.symm,if_neg l14.symm,if_neg d5.symm,if_neg d6.symm,if_pos rfl]
   | order=>show (if p5=a then _ else _)=_; rw [if_neg k5.symm,if_neg d1.symm,if_neg l52,if_neg l53,if_neg l54,if_pos rfl]
   | rows=>show (if p6=a then _ else _)=_; rw [if_neg k6.symm,if_neg d2.symm,if_neg l62,if_neg l63,if_neg l64,if_neg d3.symm,if_pos rfl]
   | other=>exact l.elim
   | rcd i=>exact absurd l (Nat.not_lt_zero _)
   | did i=>exact absurd l (Nat.not_lt_zero _)
   | desk k=>exact absurd l (List.not_mem_nil)
   | held k=>exact absurd l (List.not_mem_nil)
   | row k=>exact absurd l (List.not_mem_nil)
 . exact oth b (λ z=>by rw [z,e] at eb; cases eb) (λ z=>by rw [z,e1] at eb; cases eb) (λ z=>by rw [z,e2] at eb; cases eb) (λ z=>by rw [z,e3] at eb; cases eb) (λ z=>by rw [z,e4] at eb; cases eb) (λ z=>by rw [z,e5] at eb; cases eb) (λ z=>by rw [z,e6] at eb; cases eb)
 . exact oth b (zaf eb na) (zaf eb n1) (zaf eb n2) (zaf eb n3) (zaf eb n4) (zaf eb n5) (zaf eb n6)
end
end TP
end
section
namespace TP
open PySem L2 TH
structure Sm (s:HS Str):Prop where
 n:s.n<=63
 seen:s.seen.length<=4
 snd:s.seen.Nodup
 dn:∀ d,(s.deed d).done.length<=2000
 lg:s.log.length<=3000
 kp:s.kept.length<=1000
 hl:∀ k,(s.held k).length<=1000
 hn:∀ k,((s.held k).map (·.1)).Nodup
 rl:∀ k,(s.rows k).length<=1000
 bs:∀ k,s.book k≠none->k∈s.seen
theorem zdB:∀ (n:Nat) (l:List Nat),l.Nodup->(∀ x∈l,x < n)->l.length<=n:=λ n l nd h=>by
 have:∀ (a b:List Nat),a.Nodup->(∀ x∈a,x∈b)->a.length<=b.length:=λ a=>by
  induction a with
  | nil=>intro b _ _; simp
  | cons x r ih =>
   intro b nd hs
   obtain ⟨n1,n2⟩:=List.nodup_cons.mp nd
   have hx:=hs x List.mem_cons_self
   have:=ih (b.erase x) n2 λ z hz=>(List.mem_erase_of_ne (show z≠x from λ e=>n1 (e ▸ hz))).mpr (hs z (List.mem_cons_of_mem _ hz))
   rw [List.length_erase_of_mem hx] at this
   have hpos:0 < b.length:=List.length_pos_of_mem hx
   simp only [List.length_cons]; omega
 have:=this l (List.range n) nd λ x hx=>List.mem_range.mpr (h x hx)
 rwa [List.length_range] at this
structure Lim (s:HS Str) (T:Nat):Prop where
 e:Ext s T
 t:T<=1000
 n:s.n<=63
 sn:s.seen.length<=4
theorem Lim.sm {s:HS Str} {T:Nat} {x:Option Nat} (L:Lim s T) (c:Core s x):Sm s where
 n:=L.n
 seen:=L.sn
 snd:=L.e.snd
 dn:=λ d=>by have:=L.e.dn d; have:=L.t; omega
 lg:=by have:=L.e.lg; have:=L.t; omega
 kp:=Nat.le_trans (zdB s.n s.kept c.zht λ d hd=>by
  by_cases z:d < s.n
  . exact z
  . have h1:=(c.out d (by omega)).1
    rw [(c.zdm d).mp hd] at h1; cases h1) (by have:=L.n; omega)
 hl:=λ k=>by
  have:=zdB s.n ((s.held k).map (·.1)) (c.hNd k) λ d hd=>by
    obtain ⟨p,hp,rfl⟩:=List.mem_map.mp hd
    exact c.lt (c.hAct k p hp)
  rw [List.length_map] at this
  have:=L.n; omega
 hn:=c.hNd
 rl:=λ k=>by
  have:=zdB s.n ((s.rows k).map (·.1)) (c.rNd k) λ d hd=>by
    obtain ⟨p,hp,rfl⟩:=List.mem_map.mp hd
    exact c.lt (.inr (c.rAct k p hp).1)
  rw [List.length_map] at this
  have:=L.n; omega
 bs:=L.e.zhI
def zm3 (A:Ad):Sp:=λ vs H Q _=>∃ (p dx:Addr),vs=[.ref p]/\H p=some (.ins A.zaX dx []) /\
 ∀ H' ρ ad,ad .hall=p->zai A ρ ad TH.empty (λ _=>none) H'->(∀ b o,H b=some o->b≠p->H' b=some o/\ρ b=.other)->Q .non H'
def zqY (A:Ad):Sp:=λ vs H Q _=>∃ ρ ad s kv,vs=[.ref (ad Role.hall)]/\zai A ρ ad s kv H/\Sm s/\s.n < 63 /\
 ∀ H' ρ' ad',ad' Role.hall=ad .hall->zai A ρ' ad' (za1 s) kv H'->Frame ρ H ρ' H'->Q (.int s.n) H'
def Out (A:Ad) (s:HS Str) (i:Int) (H:Hp) (E:XK):Prop:=(i < 0\/(s.n:Int)<=i)/\E (.ref A.zhH) none H
def zm1 (A:Ad):Sp:=λ vs H Q E=>∃ ρ ad s kv i,vs=[.ref (ad Role.hall),.int i]/\zai A ρ ad s kv H/\s.n<=1000 /\
 ((∃ d:Nat,i=d/\d < s.n/\Q (.ref (ad (.rcd d))) H)\/Out A s i H E)
def zpw (A:Ad):Sp:=λ vs H Q E=>∃ ρ ad s kv i,vs=[.ref (ad Role.hall),.int i]/\zai A ρ ad s kv H/\s.n<=1000 /\
 ((∃ d:Nat,i=d/\d < s.n/\((s.deed d).st=.zar/\Q .non H\/(s.deed d).st≠.zar/\E (.ref A.zcT) none H))\/Out A s i H E)
def zqX (A:Ad):Sp:=λ vs H Q _=>∃ ρ ad s kv d wv a,vs=[.ref (ad Role.hall),.int (d:Nat),wv]/\zai A ρ ad s kv H/\Sm s/\d < s.n/\a.key∈s.seen/\zcr A H wv (some a) /\
 ∀ H',zai A ρ ad (doIt (zjI s d a.key a.wr) d a) kv H'->Frame ρ H ρ H'->Q .non H'
end TP
namespace TP
open PySem L2 TH
theorem two {G:Hp} {p q:Addr} {x o o':HO} (gp:G p=some x) (nq:G q=none) :
  upd (upd G q o) p o' p=some o'/\upd (upd G q o) p o' q=some o/\(∀ b u,b≠p->G b=some u->upd (upd G q o) p o' b=some u)/\∀ b,upd (upd G q o) p o' b=none->G b=none/\b≠q/\b≠p:=by
 have hpq:p≠q:=zaf gp nq
 refine ⟨zab,by rw [zae hpq.symm,zab],λ b u hb e=>by rw [zae hb,zae (zaf e nq)]; exact e,λ b e=>?_⟩
 have h1:b≠p:=λ z=>by rw [z,zab] at e; cases e
 rw [zae h1] at e
 have h2:b≠q:=λ z=>by rw [z,zab] at e; cases e
 rw [zae h2] at e
 exact ⟨e,h2,h1⟩
end TP
namespace TP
open PySem L2 TH
theorem zrE {α β:Type} [DecidableEq α] (f:α->β) (a:α) (x y:β):up (up f a x) a y=up f a y:=by
 funext b; by_cases h:b=a
 . subst h; rw [zag,zag]
 . rw [zao h,zao h,zao h]
theorem zsx {K:Type} [DecidableEq K] (t:HS K) (d:Nat) (a:Act K) (h:a.wr=true):doIt t d a={ n:=t.n,deed:=up (up t.deed d { t.deed d with st:=.zar }) d { (up t.deed d { t.deed d with st:=.zar }) d with done:=((up t.deed d { t.deed d with st:=.zar }) d).done++[a] },held:=t.held,rows:=t.rows,book:=up t.book a.key (some a.val),seen:=t.seen,log:=t.log++[.write d a.key ((t.book a.key).getD 0) a.val],kept:=t.kept }:=by
 unfold doIt; rw [if_pos h,zrE,zag]
theorem zsy {K:Type} [DecidableEq K] (t:HS K) (d:Nat) (a:Act K) (h:a.wr=false):doIt t d a={ n:=t.n,deed:=up (up t.deed d { t.deed d with st:=.zar }) d { (up t.deed d { t.deed d with st:=.zar }) d with done:=((up t.deed d { t.deed d with st:=.zar }) d).done++[⟨false,a.key,(t.book a.key).getD 0⟩] },held:=t.held,rows:=t.rows,book:=t.book,seen:=t.seen,log:=t.log,kept:=t.kept }:=by
 unfold doIt; rw [if_neg (by rw [h]; exact Bool.false_ne_true),zrE,zag]
end TP
namespace TP
open PySem L2 TH
def zm2 (A:Ad):Sp:=λ vs H Q _=>∃ ρ ad s kv d,vs=[.ref (ad Role.hall),.int (d:Nat)]/\zai A ρ ad s kv H/\Core s none/\Sm s/\d < s.n /\
 ∀ H' q,H q=none->Same H H'->H' q=some (.lst (zal (nxt s d)))->Q (.ref q) H'
def zb9 (l:List Nat):List (Key×V):=l.map λ (x:Nat)=>(Sum.inl (x:Int),V.bl true)
def zpz (A:Ad):Sp:=λ vs H Q _=>∃ ρ ad s kv d,vs=[.ref (ad Role.hall),.int (d:Nat)]/\zai A ρ ad s kv H/\Core s none/\Sm s/\d < s.n /\
 ∀ H' q l,Same H H'->H' q=some (.dK (zb9 l))->l.Nodup->(∀ x,x∈l↔zc5 s d x)->Q (.ref q) H'
def gotV:Option Nat->V
 | none=>.non
 | some g=>.int (g:Int)
def zm4 (A:Ad):Sp:=λ vs H Q _=>∃ ρ ad s kv d,vs=[.ref (ad Role.hall),.int (d:Nat)]/\zai A ρ ad s kv H/\Core s none/\Head s/\Thru s d/\Sm s/\d < s.n /\
 ∀ H',Same H H'->Q (gotV (rings s).getLast?) H'
theorem zqq {s:HS Str} (c:Core s none) {d e:Nat} (h:e∈nxt s d):e < s.n:=c.lt (zgO c (zkk h))
theorem zfu (l:List Nat) (x:Nat):(valV (zb9 l) (Sum.inl (x:Int))).isSome=decide (x∈l):=by
 unfold zb9
 induction l with
 | nil=>rfl
 | cons y r ih =>
  rw [List.map_cons]
  by_cases e:y=x
  . rw [zel (zcQ.mpr e)]; simp [e]
  . rw [zem λ z=>e (zcQ.mp z),ih]
    simp [Ne.symm e]
theorem zo0 {l:List Nat} {x:Nat} (h:x∉l):putK (zb9 l) (Sum.inl (x:Int)) (V.bl true)=zb9 (l++[x]):=by
 have hn:valV (zb9 l) (Sum.inl (x:Int))=none:=by
  have:=zfu l x
  rw [decide_eq_false h] at this
  cases e:valV (zb9 l) (Sum.inl (x:Int)) with
  | none=>rfl
  | some v=>rw [e] at this; cases this
 rw [zmq _ hn]
 unfold zb9; rw [List.map_append]; rfl
end TP
end
section
namespace TP
open PySem L2 TH
def ub (kv b:Book Str) (ks:List Str):Book Str:=λ k=>if k∈ks then kv k else b k
theorem zqK (kv b:Book Str) (ks:List Str) (k:Str):up (ub kv b ks) k (kv k)=ub kv b (ks++[k]):=by
 funext j
 by_cases h:j=k
 . subst h; rw [zag]; unfold ub; rw [if_pos (by simp)]
 . rw [zao h]; unfold ub
   by_cases hj:j∈ks
   . rw [if_pos hj,if_pos (List.mem_append_left _ hj)]
   . rw [if_neg hj,if_neg (by simp [hj,h])]
theorem zfS {k:Str}:∀ {l:List (Act Str)},k∈(zas l).map (·.1)↔(zaL l k).isSome=true
 | []=>by simp [zas,zaL]
 | a::r=>by
  have ih:=zfS (k:=k) (l:=r)
  have e:zas (a::r)=(if a.wr then [(a.key,a.val)] else [])++zas r:=by
   unfold zas; rw [List.filterMap_cons]
   by_cases h:a.wr=true
   . rw [if_pos h,if_pos h]; rfl
   . rw [if_neg h,if_neg h]; rfl
  rw [e,List.map_append,List.mem_append,ih]
  have el:zaL (a::r) k=match zaL r k with | some v=>some v | none=>if a.wr=true/\a.key=k then some a.val else none:=rfl
  rw [el]
  cases hl:zaL r k with
  | some v=>simp
  | none =>
   by_cases h:a.wr=true
   . by_cases hk:a.key=k
     . simp [h,hk]
     . simp [h,hk,Ne.symm hk]
   . simp [h]
def znL (s:HS Str) (kv:Book Str) (d:Nat):Book Str:=λ k=>if (zaL (s.deed d).done k).isSome then kv k else s.book k
theorem znK (s:HS Str) (kv:Book Str) (d:Nat):ub kv s.book ((zas (s.deed d).done).map (·.1))=znL s kv d:=by
 funext k
 unfold ub znL
 by_cases h:(zaL (s.deed d).done k).isSome=true
 . rw [if_pos h,if_pos (zfS.mpr h)]
 . rw [if_neg h,if_neg λ z=>h (zfS.mp z)]
def zrS (A:Ad):Sp:=λ vs H Q _=>∃ ρ ad s kv d,vs=[.ref (ad Role.hall),.int (d:Nat)]/\zai A ρ ad s kv H/\Sm s/\d < s.n/\(∀ k,kv k≠none->k∈s.seen) /\
 ∀ H',zai A ρ ad { s with book:=znL s kv d } kv H'->Frame ρ H ρ H'->Q .non H'
theorem Ext.zbu {K:Type} [DecidableEq K] {k:K} {f:Nat} {s:HS K} {T:Nat} (E:Ext s T) (c:Core s none):Ext (TH.zbu f s k) T:=by
 refine zec (λ t=>Ext t T) (λ s d w r a c hr hl ha E=>?_) f s c E
 have hm:(d,w)∈s.rows k:=by rw [hr]; exact List.mem_cons_self
 obtain ⟨hst,a',ha',hk',hw'⟩:=c.rAct k _ hm
 rw [ha] at ha'; cases ha'
 refine E.does (a:=zjy s a) (d:=d) (by rw [zdI]; rfl) (by rw [zb6]; rfl) (c.lt (.inr hst)) (.inr hst) (by rw [zdp]; rfl) zjd (λ k=>zhJ) (λ k' e w' h=>?_) ?_ (Nat.le_refl _) (.inl hst)
 . rw [zcp] at h
   rcases zi9 h with h | ⟨h1,h2⟩
   . exact .inl h
   . exact .inr ⟨h1,by rw [zcq,hk']; exact h2⟩
 . rw [zcq,hk']; exact zb2 c hm
theorem znq {K:Type} [DecidableEq K] {k:K} {f:Nat} {s:HS K} (c:Core s none):(TH.zbu f s k).seen=s.seen/\(TH.zbu f s k).n=s.n :=
 zec (λ t=>t.seen=s.seen/\t.n=s.n) (λ s d w r a _ _ _ _ h=>⟨by rw [zb6]; exact h.1,by rw [zdI]; exact h.2⟩) f s c ⟨rfl,rfl⟩
def zqU (A:Ad):Sp:=λ vs H Q _=>∃ ρ ad s kv k T,vs=[.ref (ad Role.hall),.str k]/\zai A ρ ad s kv H/\Core s none/\Lim s T/\k∈s.seen /\
 ∀ H',zai A ρ ad (zbu (s.rows k).length s k) kv H'->Frame ρ H ρ H'->Q .non H'
def zsV (A:Ad):Sp:=λ vs H Q _=>∃ ρ ad s s0 kv d st T,vs=[.ref (ad Role.hall),.int (d:Nat),.str (stS st)]/\zai A ρ ad s kv H/\Core s0 none/\Lim s0 T/\Head s0 /\
 s.deed=s0.deed/\s.held=s0.held/\s.rows=s0.rows/\s.seen=s0.seen/\s.n=s0.n/\Core (letGo (zfa s d st) d) none/\Lim (letGo (zfa s d st) d) T/\st≠.waiting/\d < s.n /\
 ∀ H' ρ' ad',ad' Role.hall=ad .hall->zai A ρ' ad' (free ordS (zfa s d st) d) kv H'->Frame ρ H ρ' H'->Q .non H'
theorem zgs (s:HS Str) (d:Nat):(s.deed d).done.map (·.key)++zcX (wantOf (s.deed d))=touched s d:=by
 unfold touched wantOf
 congr 1
 by_cases h:(s.deed d).st=.waiting
 . rw [if_pos h,h]
   cases (s.deed d).wish with
   | none=>rfl
   | some a=>rfl
 . rw [if_neg h]
   split
   . contradiction
   . rfl
theorem ziz {K:Type} [DecidableEq K]:∀ (a b:List K) (s:HS K),zaK s (a++b)=zaK (zaK s a) b
 | [],_,_=>rfl
 | k::r,b,s=>ziz r b (zbu (s.rows k).length s k)
def zrY (A:Ad):Sp:=λ vs H Q _=>∃ ρ ad s d T,vs=[.ref (ad Role.hall),.int (d:Nat)]/\zai A ρ ad s (zav s) H/\Core s none/\Lim s T/\Head s/\(s.deed d).act /\
 ∀ H' ρ' ad',ad' Role.hall=ad .hall->zai A ρ' ad' (drop ordS s d) (zav s) H'->Frame ρ H ρ' H'->Q .non H'
def zrR (A:Ad):Sp:=λ vs H Q _=>∃ ρ ad s d a wv T,vs=[.ref (ad Role.hall),.int (d:Nat),wv]/\zai A ρ ad s (zav s) H/\a.key∈s.seen/\zcr A H wv (some a)/\d < s.n/\Sm s /\
 Core (wait s d a) none/\Head (wait s d a)/\Thru (wait s d a) d/\Lim (wait s d a) T /\
 ∀ H' ρ' ad',ad' Role.hall=ad .hall->zai A ρ' ad' (settle ordS s.n (wait s d a)) (zav s) H'->Frame ρ H ρ' H'->Q .non H'
end TP
end
section
namespace TH
section
variable {K:Type} [DecidableEq K]
theorem zgq {s:HS K} {ks:List K} (c:Core s none):zav (zaK s ks)=zav s:=by
 have:=zbG (λ t=>t.kept=s.kept/\∀ d∈s.kept,(t.deed d).done=(s.deed d).done) (λ t k d w r a ct hr hl ha h=>?_) ks s c ⟨rfl,λ _ _=>rfl⟩
 . exact zbT this.1 this.2
 . refine ⟨by rw [zed]; exact h.1,λ e he=>?_⟩
   have hne:e≠d:=λ z=>by
    have h1:=(ct.zdm e).mp (by rw [h.1]; exact he)
    have h2:=(ct.rAct k (d,w) (by rw [hr]; exact List.mem_cons_self)).1
    rw [z] at h1
    have h2:(t.deed d).st=.waiting:=h2
    rw [h1] at h2; cases h2
   rw [zcC _ _ _ hne]; exact h.2 e he
variable (ord:List K->List K)
theorem zfY {s:HS K} {d:Nat} (c:Core s none) (hd:(s.deed d).act):zav (drop ord s d)=zav s:=by
 unfold drop free
 rw [zgq (c.drops hd)]
 refine zbT rfl λ e he=>?_
 show (up s.deed d { s.deed d with st:=.dropped } e).done=_
 by_cases h:e=d
 . subst h; rw [zag]
 . rw [zao h]
theorem znl {s:HS K} {d:Nat} (c:Core s none) (hd:(s.deed d).act):zav (keep ord s d)=over (zav s) (s.deed d).done:=by
 unfold keep free
 rw [zgq (c.keeps hd)]
 show zea (up s.deed d { s.deed d with st:=.kept }) (s.kept++[d]) _=_
 rw [zbq (deed:=s.deed) λ e he=>?_,zfr]
 . rfl
 . by_cases h:e=d
   . subst h; rw [zag]
   . rw [zao h]
theorem zlA {s:HS K} (c:Core s none):zav (za1 s)=zav s:=by
 refine zbT rfl λ e he=>?_
 have:e≠s.n:=λ z=>by
  have h1:=(c.zdm e).mp he
  have h2:=(c.out e (by omega)).1
  rw [h1] at h2; cases h2
 show (up s.deed s.n _ e).done=_
 rw [zao this]
theorem ziw {s:HS K} {d:Nat} {a:Act K}:zav (wait s d a)=zav s:=by
 refine zbT rfl λ e he=>?_
 show (up s.deed d { s.deed d with st:=.waiting,wish:=some a } e).done=_
 by_cases h:e=d
 . subst h; rw [zag]
 . rw [zao h]
theorem zgp:∀ {f:Nat} {s:HS K},Core s none->zav (settle ord f s)=zav s
 | 0,_,_=>rfl
 | f+1,s,c=>by
  unfold settle
  split
  . rfl
  . rename_i d h
    have hd:(s.deed d).act:=by
     have:=(zbL (List.mem_of_getLast? h)).2
     exact .inr (zaN this)
    rw [zgp (c.drop ord hd),zfY ord c hd]
variable (hord:∀ l k,k∈ord l↔k∈l)
include hord
theorem zjx {s:HS K} {d:Nat} {a:Act K} (c:Core s none) (h:Head s) (ac:Acyc s) (hd:(s.deed d).st=.zar) (hf:((has ((see s a.key).held a.key) d || ((see s a.key).rows a.key).isEmpty) && lets ((see s a.key).held a.key) d a.wr)=false) :
   Core (wait (see s a.key) d a) none/\Head (wait (see s a.key) d a)/\Thru (wait (see s a.key) d a) d:=by
 have c1:Core (TH.see s a.key) none:=c.see
 have h':Head (TH.see s a.key):=h
 have ac':Acyc (TH.see s a.key):=ac.mono λ e x h=>h
 have h2:¬ (lets ((TH.see s a.key).held a.key) d a.wr=true/\(has ((TH.see s a.key).held a.key) d=true\/(TH.see s a.key).rows a.key=[])):=λ z=>by
   rw [z.1,Bool.and_true] at hf
   rcases z.2 with z | z
   . rw [z] at hf; cases hf
   . rw [z] at hf; simp at hf
 have hw:∀ w',(d,w')∈(TH.see s a.key).held a.key->w'=false/\a.wr=true:=λ w' z=>by
   have q:=zdb (c1.hNd _) z
   have hh:has ((TH.see s a.key).held a.key) d=true:=zjc q
   have hl:lets ((TH.see s a.key).held a.key) d a.wr=false:=by
     cases e:lets ((TH.see s a.key).held a.key) d a.wr with
     | false=>rfl
     | true=>exact absurd ⟨e,.inl hh⟩ h2
   have no:∃ p∈(TH.see s a.key).held a.key,p.1≠d/\(a.wr || p.2)=true:=by
     unfold lets at hl
     have:=List.all_eq_false.mp hl
     obtain ⟨p,hp,hq⟩:=this
     refine ⟨p,hp,?_⟩
     by_cases z:p.1=d
     . simp [z] at hq
     . refine ⟨z,?_⟩
       simp [z] at hq
       cases h1:a.wr <;> cases h2:p.2 <;> simp [h1,h2] at hq ⊢
   obtain ⟨p,hp,hne,hu⟩:=no
   cases hw':w' with
   | true=>subst hw'; exact absurd (c1.hEx a.key d z p hp) hne
   | false =>
     refine ⟨rfl,?_⟩
     cases ha:a.wr with
     | true=>rfl
     | false =>
       rw [ha] at hu
       have hp2:p.2=true:=by simpa using hu
       have hpm:(p.1,true)∈(TH.see s a.key).held a.key:=by rw [<-hp2]; exact hp
       exact absurd (c1.hEx a.key p.1 hpm _ z).symm hne
 refine ⟨c1.wait hd zcj hw,λ k e w r q=>?_,Thru.wait ac'⟩
 show lets ((TH.see s a.key).held k) e w=false
 by_cases hk:k=a.key
 . subst hk
   have q':(if has ((TH.see s a.key).held a.key) d then (d,a.wr)::(TH.see s a.key).rows a.key else (TH.see s a.key).rows a.key++[(d,a.wr)])=(e,w)::r:=by
     rw [<-q]; exact zag.symm
   cases hh:has ((TH.see s a.key).held a.key) d with
   | true =>
     rw [hh] at q'
     simp only [if_true] at q'
     injection q' with e1 e2
     have e3:d=e:=congrArg Prod.fst e1
     have e4:a.wr=w:=congrArg Prod.snd e1
     subst e3 e4
     cases hl:lets ((TH.see s a.key).held a.key) d a.wr with
     | false=>rfl
     | true=>exact absurd ⟨hl,.inl hh⟩ h2
   | false =>
     rw [hh] at q'
     simp only [Bool.false_eq_true,if_false] at q'
     cases hr:(TH.see s a.key).rows a.key with
     | nil =>
       rw [hr] at q'
       simp only [List.nil_append] at q'
       injection q' with e1 e2
       have e3:d=e:=congrArg Prod.fst e1
       have e4:a.wr=w:=congrArg Prod.snd e1
       subst e3 e4
       cases hl:lets ((TH.see s a.key).held a.key) d a.wr with
       | false=>rfl
       | true=>exact absurd ⟨hl,.inr hr⟩ h2
     | cons p t =>
       rw [hr] at q'
       simp only [List.cons_append] at q'
       injection q' with e1 e2
       subst e1
       exact h' a.key e w t hr
 . have q':(TH.see s a.key).rows k=(e,w)::r:=by rw [<-q]; exact (zao hk).symm
   exact h' k e w r q'
omit hord
def Did (d:Nat) (t:HS K):Prop:=(t.deed d).st=.zar\/(t.deed d).st=.kept->(t.deed d).done≠[]
theorem Did.doIt {t:HS K} {d e:Nat} {a:Act K} (h:Did d t):Did d (doIt t e a):=λ q=>by
 by_cases z:d=e
 . subst z; rw [zdp,zag]; simp
 . rw [zcC _ _ _ z] at q ⊢; exact h q
theorem Did.self {t:HS K} {d:Nat} {a:Act K}:Did d (TH.doIt t d a):=λ q=>by rw [zdp,zag]; simp
theorem Did.zaK {t:HS K} {d:Nat} {ks:List K} (c:Core t none) (h:Did d t):Did d (zaK t ks) :=
 zbG (Did d) (λ s k e w r a _ _ _ _ h=>Did.doIt (t:=take { s with rows:=up s.rows k r } e k w) h) ks t c h
theorem Did.drop {t:HS K} {d g:Nat} (c:Core t none) (hg:(t.deed g).act) (h:Did d t):Did d (drop ord t g):=by
 refine Did.zaK (c.drops hg) λ q=>?_
 have q':(up t.deed g { t.deed g with st:=.dropped } d).st=.zar\/(up t.deed g { t.deed g with st:=.dropped } d).st=.kept:=q
 show (up t.deed g { t.deed g with st:=.dropped } d).done≠[]
 by_cases z:d=g
 . subst z; rw [zag] at q'; rcases q' with q' | q' <;> cases q'
 . rw [zao z] at q' ⊢; exact h q'
theorem Did.settle {d:Nat}:∀ {f:Nat} {t:HS K},Core t none->Did d t->Did d (settle ord f t)
 | 0,_,_,h=>h
 | f+1,t,c,h=>by
  unfold TH.settle
  split
  . exact h
  . rename_i g hg
    have ha:(t.deed g).act:=.inr (zaN (zbL (List.mem_of_getLast? hg)).2)
    exact Did.settle (c.drop ord ha) (h.drop ord c ha)
theorem Did.wait {s:HS K} {d:Nat} {a:Act K}:Did d (wait s d a):=λ q=>by
 have q':(up s.deed d { s.deed d with st:=.waiting,wish:=some a } d).st=.zar\/(up s.deed d { s.deed d with st:=.waiting,wish:=some a } d).st=.kept:=q
 rw [zag] at q'; rcases q' with q' | q' <;> cases q'
end
end TH
namespace TP
open PySem L2 TH
theorem Lim.letGo {s:HS Str} {T d:Nat} (L:Lim s T) {t:HS Str} (E:Ext (TH.letGo t d) T) (hn:t.n=s.n) (hs:t.seen=s.seen):Lim (TH.letGo t d) T:=⟨E,L.t,by show t.n<=63; rw [hn]; exact L.n,by show t.seen.length<=4; rw [hs]; exact L.sn⟩
theorem zhA {s:HS Str} {d:Nat} (c:Core s none) (hd:(s.deed d).act):(drop ordS s d).seen=s.seen:=zdC _ _ (c.drops hd)
theorem Lim.drop {s:HS Str} {T d:Nat} (L:Lim s T) (c:Core s none) (hd:(s.deed d).act):Lim (TH.drop ordS s d) T:=⟨L.e.drop ordS c hd,L.t,by rw [zko ordS c hd]; exact L.n,by rw [zhA c hd]; exact L.sn⟩
theorem zkx {s:HS Str} {d:Nat} (c:Core s none) (hd:(s.deed d).act):(keep ordS s d).seen=s.seen:=zdC _ _ (c.keeps hd)
theorem Lim.keep {s:HS Str} {T d:Nat} (L:Lim s T) (c:Core s none) (hd:(s.deed d).act):Lim (TH.keep ordS s d) T:=⟨L.e.keep ordS c hd,L.t,by rw [zqt ordS c hd]; exact L.n,by rw [zkx c hd]; exact L.sn⟩
theorem Lim.drops {s:HS Str} {T d:Nat} (L:Lim s T) (c:Core s none) (hd:(s.deed d).act):Lim (TH.letGo (zrr s d) d) T :=
 L.letGo (L.e.ends (t:=.dropped) (bk:=λ k=>if (zaL (s.deed d).done k).isSome then zav s k else s.book k) (kp:=s.kept) (r:=.drop d) c hd (.inr rfl) (λ k h=>by
  split at h
  . exact L.e.zpX k h
  . exact L.e.zhI k h)) rfl rfl
theorem Lim.keeps {s:HS Str} {T d:Nat} (L:Lim s T) (c:Core s none) (hd:(s.deed d).act):Lim (TH.letGo (zrl s d) d) T :=
 L.letGo (L.e.ends (t:=.kept) (bk:=s.book) (kp:=s.kept++[d]) (r:=.keep d) c hd (.inl rfl) L.e.zhI) rfl rfl
def zlz (D:Deed Str):Int:=(D.done.getLast?.map (·.val)).getD 0
def ansV (D:Deed Str) (wr:Bool):List V:=match D.st with
 | .dropped=>[.str "given up"]
 | .waiting=>[.str "waits"]
 | _=>if wr then [.str "done"] else [.str "value",.int (zlz D)]
def zpA (A:Ad):Sp:=λ vs H Q _=>∃ ρ ad s kv d a wv,vs=[.ref (ad Role.hall),.int (d:Nat),wv]/\zai A ρ ad s kv H/\zcr A H wv (some a)/\d < s.n/\Did d s /\
 ∀ H' q,H q=none->Same H H'->H' q=some (.tup (ansV (s.deed d) a.wr))->Q (.ref q) H'
structure Ready (s:HS Str) (T:Nat):Prop where
 c:Core s none
 h:Head s
 a:Acyc s
 L:Lim s T
theorem Sm.see {s:HS Str} {T:Nat} (R:Ready s T) {k:Str} (h:(TH.see s k).seen.length<=4) (t:T+1<=1000):Sm (TH.see s k):=Lim.sm (T:=T+1) (x:=none) ⟨R.L.e.see,t,R.L.n,h⟩ R.c.see
theorem Lim.wish {s:HS Str} {T d:Nat} {a:Act Str} (R:Ready s T) (hd:(s.deed d).st=.zar) (h:(TH.see s a.key).seen.length<=4) (t:T+1<=1000) (hn:(TH.wish ordS s d a).n=s.n) (hs:(TH.wish ordS s d a).seen=(TH.see s a.key).seen):Lim (TH.wish ordS s d a) (T+1) :=
 ⟨R.L.e.wish ordS R.c hd,t,by rw [hn]; exact R.L.n,by rw [hs]; exact h⟩
theorem Lim.wait {s:HS Str} {T d:Nat} {a:Act Str} (R:Ready s T) (hd:(s.deed d).st=.zar) (h:(TH.see s a.key).seen.length<=4) (t:T+1<=1000):Lim (TH.wait (TH.see s a.key) d a) (T+1) :=
 ⟨Ext.wait (s:=TH.see s a.key) R.L.e.see hd (λ e=>by have:=R.L.e.dn e; exact Nat.succ_le_succ this) (by have:=R.L.e.lg; show s.log.length+zds s+actN s+2<=_; omega),t,R.L.n,h⟩
theorem zgS:∀ {f:Nat} {s:HS Str},Core s none->(settle ordS f s).seen=s.seen/\(settle ordS f s).n=s.n
 | 0,_,_=>⟨rfl,rfl⟩
 | f+1,s,c=>by
  unfold TH.settle
  split
  . exact ⟨rfl,rfl⟩
  . rename_i d h
    have hd:(s.deed d).act:=.inr (zaN (zbL (List.mem_of_getLast? h)).2)
    obtain ⟨h1,h2⟩:=zgS (f:=f) (c.drop ordS hd)
    exact ⟨by rw [h1,zhA c hd],by rw [h2,zko ordS c hd]⟩
theorem zcK {s:HS Str} {T d:Nat} {a:Act Str} (R:Ready s T) (hd:(s.deed d).st=.zar):(wish ordS s d a).n=s.n/\(wish ordS s d a).seen=(see s a.key).seen/\zav (wish ordS s d a)=zav s/\Did d (wish ordS s d a):=by
 rw [zgM ordS R.c]
 split
 . refine ⟨by rw [zdI]; rfl,by rw [zb6]; rfl,zbT (zed _ _ _) λ e he=>?_,Did.self⟩
   have hne:e≠d:=λ z=>by
    have h1:=(R.c.zdm e).mp he
    rw [z,hd] at h1; cases h1
   rw [zcC _ _ _ hne]; rfl
 . rename_i h
   obtain ⟨c1,_,_⟩:=zjx ordS (λ l k=>zbd) R.c R.h R.a hd (by simpa using h)
   obtain ⟨s1,s2⟩:=zgS (f:=s.n) c1
   exact ⟨by rw [s2]; rfl,by rw [s1]; rfl,by rw [zgp ordS c1,ziw]; rfl,Did.settle ordS c1 Did.wait⟩
theorem Ready.wish {s:HS Str} {T d:Nat} {a:Act Str} (R:Ready s T) (hd:(s.deed d).st=.zar) (h:(see s a.key).seen.length<=4) (t:T+1<=1000):Ready (TH.wish ordS s d a) (T+1) :=
 let F:=zcK (a:=a) R hd
 ⟨R.c.wish ordS hd,Head.wish ordS (λ l k=>zbd) R.c R.h hd,R.a.wish ordS R.c hd,Lim.wish R hd h t F.1 F.2.1⟩
theorem Ready.drop {s:HS Str} {T d:Nat} (R:Ready s T) (hd:(s.deed d).act):Ready (TH.drop ordS s d) T:=⟨R.c.drop ordS hd,Head.drop ordS (λ l k=>zbd) R.c hd,R.a.drop ordS R.c hd,R.L.drop R.c hd⟩
theorem Ready.keep {s:HS Str} {T d:Nat} (R:Ready s T) (hd:(s.deed d).act):Ready (TH.keep ordS s d) T:=⟨R.c.keep ordS hd,Head.keep ordS (λ l k=>zbd) R.c hd,R.a.keep ordS R.c hd,R.L.keep R.c hd⟩
theorem Ready.za1 {s:HS Str} {T:Nat} (R:Ready s T) (hn:s.n < 63) (t:T+1<=1000):Ready (TH.za1 s) (T+1):=⟨R.c.za1,R.h,R.a.za1 R.c,⟨R.L.e.za1 R.c,t,hn,R.L.sn⟩⟩
theorem Ready.empty:Ready (TH.empty:HS Str) 0:=⟨All.empty.c,All.empty.h,All.empty.a,Ext.empty,by decide,by decide,by decide⟩
end TP
end
section
namespace TP
open PySem L2 TH
def zr2 (A:Ad):Sp:=λ vs H Q _=>∃ ρ ad s d a pw dw T,vs=[.ref (ad Role.hall),.int (d:Nat),.ref pw]/\zai A ρ ad s (zav s) H/\Ready s T/\T+1<=1000/\(see s a.key).seen.length<=4/\(s.deed d).st=.zar/\H pw=some (.ins A.zdR dw (zqH a))/\ρ pw=.other /\
 ∀ H' ρ' ad' q,ad' Role.hall=ad .hall->zai A ρ' ad' (wish ordS s d a) (zav s) H'->Frame ρ H ρ' H'->H' q=some (.tup (ansV ((wish ordS s d a).deed d) a.wr))->ρ' q=.other->Q (.ref q) H'
def zl4 (A:Ad) (s:HS Str) (i:Int) (H:Hp) (E:XK) (G:Nat->Prop):Prop :=
 (∃ d:Nat,i=d/\d < s.n/\((s.deed d).st=.zar/\G d\/(s.deed d).st≠.zar/\E (.ref A.zcT) none H))\/Out A s i H E
def zrU (A:Ad):Sp:=λ vs H Q E=>∃ ρ ad s i k T,vs=[.ref (ad Role.hall),.int i,.str k]/\zai A ρ ad s (zav s) H/\Ready s T/\T+1<=1000/\(see s k).seen.length<=4 /\
 zl4 A s i H E λ d=>∀ H' ρ' ad' q,ad' Role.hall=ad .hall->zai A ρ' ad' (wish ordS s d ⟨false,k,0⟩) (zav s) H'->Frame ρ H ρ' H'->H' q=some (.tup (ansV ((wish ordS s d ⟨false,k,0⟩).deed d) false))->ρ' q=.other->Q (.ref q) H'
def zqS (A:Ad):Sp:=λ vs H Q E=>∃ ρ ad s i k v T,vs=[.ref (ad Role.hall),.int i,.str k,.int v]/\zai A ρ ad s (zav s) H/\Ready s T/\T+1<=1000/\(see s k).seen.length<=4 /\
 zl4 A s i H E λ d=>∀ H' ρ' ad' q,ad' Role.hall=ad .hall->zai A ρ' ad' (wish ordS s d ⟨true,k,v⟩) (zav s) H'->Frame ρ H ρ' H'->H' q=some (.tup (ansV ((wish ordS s d ⟨true,k,v⟩).deed d) true))->ρ' q=.other->Q (.ref q) H'
def zrX (A:Ad):Sp:=λ vs H Q E=>∃ ρ ad s i T,vs=[.ref (ad Role.hall),.int i]/\zai A ρ ad s (zav s) H/\Ready s T /\
 zl4 A s i H E λ d=>∀ H' ρ' ad',ad' Role.hall=ad .hall->zai A ρ' ad' (keep ordS s d) (zav (keep ordS s d)) H'->Frame ρ H ρ' H'->Q .non H'
def zpy (A:Ad):Sp:=λ vs H Q E=>∃ ρ ad s i T,vs=[.ref (ad Role.hall),.int i]/\zai A ρ ad s (zav s) H/\Ready s T /\
 ((∃ d:Nat,i=d/\d < s.n/\((s.deed d).act/\(∀ H' ρ' ad',ad' Role.hall=ad .hall->zai A ρ' ad' (drop ordS s d) (zav (drop ordS s d)) H'->Frame ρ H ρ' H'->Q .non H')\/¬ (s.deed d).act/\E (.ref A.zcT) none H))\/Out A s i H E)
def wb (b:Book Str) (l:List (Str×Int)):Book Str:=l.foldl (λ b p=>up b p.1 (some p.2)) b
theorem zqG (b:Book Str) (l:List (Str×Int)) (p:Str×Int):wb b (l++[p])=up (wb b l) p.1 (some p.2):=by unfold wb; rw [List.foldl_append]; rfl
theorem zk1:∀ (l:List (Act Str)) (b:Book Str),wb b (zas l)=over b l
 | [],b=>rfl
 | a::r,b=>by
  have e:zas (a::r)=(if a.wr then [(a.key,a.val)] else [])++zas r:=by
    unfold zas; rw [List.filterMap_cons]
    by_cases h:a.wr=true
    . rw [if_pos h,if_pos h]; rfl
    . rw [if_neg h,if_neg h]; rfl
  rw [e]
  by_cases h:a.wr=true
  . rw [if_pos h]; unfold over; rw [if_pos h]; exact zk1 r _
  . rw [if_neg h]; unfold over; rw [if_neg h]; exact zk1 r _
theorem znI:∀ {l:List (Str×Int)} {b:Book Str} {k:Str},wb b l k≠none->b k≠none\/k∈l.map (·.1)
 | [],_,_,h=>.inl h
 | p::r,b,k,h=>by
  rcases znI (l:=r) (b:=up b p.1 (some p.2)) h with h | h
  . by_cases z:k=p.1
    . exact .inr (by rw [z]; exact List.mem_cons_self)
    . rw [zao z] at h; exact .inl h
  . exact .inr (List.mem_cons_of_mem _ h)
theorem zk0 {s:HS Str} {T:Nat} (E:Ext s T) {d:Nat} {k:Str} (h:k∈(zas (s.deed d).done).map (·.1)):k∈s.seen:=by
 obtain ⟨p,hp,rfl⟩:=List.mem_map.mp h
 unfold zas at hp
 obtain ⟨a,ha,hq⟩:=List.mem_filterMap.mp hp
 by_cases z:a.wr=true
 . rw [if_pos z] at hq; cases hq; exact E.zgx d a ha
 . rw [if_neg z] at hq; cases hq
end TP
end
section
namespace TP
open PySem L2 TH
def za2 (ns:List Int) (k:Nat):Int:=ns.getD k 0
def mixF (c p m:Int):Int:=c * 48271 % p % m
theorem zir {c p m:Int} (h:0 < m):0<=mixF c p m/\mixF c p m < m:=⟨Int.emod_nonneg _ (by omega),Int.emod_lt_of_pos _ h⟩
theorem zlr {c p:Int} {m:Nat} (h:0 < m):∃ n:Nat,mixF c p m=n/\n < m:=by
 obtain ⟨h1,h2⟩:=zir (c:=c) (p:=p) (m:=(m:Int)) (by omega)
 exact ⟨(mixF c p m).toNat,by omega,by omega⟩
def pick (l:Str) (i:Nat):Str:=match l.cps.toList[i]? with
 | some c=>⟨#[c]⟩
 | none=>Str.empty
def abc:Str := "abcdefghijklmnopqrstuvwxyz"
def zdN (seed:Int):List Str:=(List.range (mixF seed 9967 4).toNat).map λ (j:Nat)=>pick abc (mixF (seed+5 * (j:Int)) 9973 26).toNat
def zh7 (ns:List Int) (k:Nat):Str:=pick "qrst" k++Txt.join "" (zdN (za2 ns 0+7 * (k:Int)))
open Classical in
noncomputable def keyF (ns:List Int) (k:Nat):Str:=if k=3/\za2 ns 0 % 2=0 then (if zh7 ns 0 = "q" then "qa" else "q") else zh7 ns k
theorem ziW {l:Str} {i:Nat} (h:i < l.cps.size):∃ c,atI l.cps.toList (i:Int)=some c/\pick l i=⟨#[c]⟩:=by
 have hl:i < l.cps.toList.length:=by simpa using h
 refine ⟨l.cps.toList[i],zbs (by rw [List.getElem?_eq_getElem hl]),?_⟩
 unfold pick; rw [List.getElem?_eq_getElem hl]
theorem zpH (l:Str) (i:Nat):(pick l i).length<=1:=by
 unfold pick; split
 . exact Nat.le_refl _
 . exact Nat.zero_le _
theorem zpt (seed:Int):(zdN seed).length<=3:=by
 unfold zdN; rw [List.length_map,List.length_range]
 have:=zir (c:=seed) (p:=9967) (m:=4) (by decide)
 omega
theorem zmD {l:List Str}:(l.map (·.length)).sum+l.length * ("" : Str).length=(l.map (·.length)).sum:=by
 have:("" : Str).length=0:=by decide +kernel
 rw [this]; omega
theorem zkA (l:List Str):(Txt.join "" l).length<=(l.map (·.length)).sum:=by
 have e0:("" : Str).cps.size=0:=by decide +kernel
 have main:∀ (r:List Str) (a:Array Nat),(r.foldl (λ acc p=>acc++("" : Str).cps++p.cps) a).size=a.size+(r.map (·.length)).sum:=λ r=>by
  induction r with
  | nil=>intro a; rfl
  | cons x r ih =>
   intro a
   rw [List.foldl_cons,ih,List.map_cons,List.sum_cons,Array.size_append,Array.size_append,e0]
   have:x.cps.size=x.length:=rfl
   omega
 cases l with
 | nil=>exact Nat.le_refl _
 | cons x r =>
  have:=main r x.cps
  rw [List.map_cons,List.sum_cons]
  exact Nat.le_of_eq this
theorem zgI (seed:Int):((zdN seed).map (·.length)).sum<=3:=by
 have h1:=zpt seed
 have h2:∀ l:List Str,(∀ x∈l,x.length<=1)->(l.map (·.length)).sum<=l.length:=λ l=>by
  induction l with
  | nil=>intro _; exact Nat.le_refl _
  | cons x r ih=>intro h; rw [List.map_cons,List.sum_cons,List.length_cons]; have:=h x List.mem_cons_self; have:=ih λ y hy=>h y (List.mem_cons_of_mem _ hy); omega
 have h3:=h2 (zdN seed) λ x hx=>by
  unfold zdN at hx
  obtain ⟨j,_,rfl⟩:=List.mem_map.mp hx
  exact zpH _ _
 omega
def zrZ (K:PySem.W.Frag):Sp:=λ vs H Q _=>∃ (a:Addr) (ns:List Int) (k:Nat),vs=[.ref a,.int k]/\SqL K H a (ns.map V.int)/\Q (.int (za2 ns k)) H
def zsS:Sp:=λ vs H Q _=>∃ c p m:Int,vs=[.int c,.int p,.int m]/\0 < p/\0 < m/\Q (.int (mixF c p m)) H
def spNo:Sp:=λ _ _ _ _=>False
def zrW (K:PySem.W.Frag):Sp:=λ vs H Q _=>∃ (a:Addr) (ns:List Int) (k:Nat),vs=[.ref a,.int k]/\SqL K H a (ns.map V.int)/\k < 3/\∀ H',Same H H'->Q (.str (zh7 ns k)) H'
def zsU (K:PySem.W.Frag):Sp:=λ vs H Q _=>∃ (a:Addr) (ns:List Int) (k:Nat),vs=[.ref a,.int k]/\SqL K H a (ns.map V.int)/\k < 4/\∀ H',Same H H'->Q (.str (keyF ns k)) H'
inductive LAct where
 | begin | read (d:Nat) (k:Str) | write (d:Nat) (k:Str) (v:Int) | keep (d:Nat) | drop (d:Nat)
def actD:LAct->List V
 | .begin=>[.str "begin"]
 | .read d k=>[.str "read",.int (d:Int),.str k]
 | .write d k v=>[.str "write",.int (d:Int),.str k,.int v]
 | .keep d=>[.str "keep",.int (d:Int)]
 | .drop d=>[.str "give up",.int (d:Int)]
def zl3 (ns:List Int) (k:Str):Prop:=∃ j,j < 4/\k=keyF ns j
def okA (ns:List Int) (b:Nat):LAct->Prop
 | .begin=>True
 | .read d k=>d < b/\zl3 ns k
 | .write d k _=>d < b/\zl3 ns k
 | .keep d=>d < b
 | .drop d=>d < b
def LAct.isB:LAct->Nat
 | .begin=>1
 | _=>0
def zdq (l:List LAct):Nat:=(l.map LAct.isB).sum
def Valid (ns:List Int) (l:List LAct):Prop:=∀ i a,l[i]?=some a->okA ns (zdq (l.take i)) a
theorem Valid.snoc {ns:List Int} {l:List LAct} {a:LAct} (v:Valid ns l) (h:okA ns (zdq l) a):Valid ns (l++[a]):=λ i b hb=>by
 by_cases hi:i < l.length
 . rw [List.getElem?_append_left hi] at hb
   have:=v i b hb
   rwa [List.take_append_of_le_length (by omega)]
 . rw [List.getElem?_append_right (by omega)] at hb
   have hi2:i - l.length=0:=by
    have:=(List.getElem?_eq_some_iff.mp hb).1
    simp at this; omega
   rw [hi2] at hb
   cases hb
   have:i=l.length:=by omega
   subst this
   rw [List.take_append_of_le_length (Nat.le_refl _),List.take_length]; exact h
theorem ze4 (l:List LAct) (a:LAct):zdq (l++[a])=zdq l+a.isB:=by unfold zdq; rw [List.map_append,List.sum_append]; simp
theorem zqy (a:LAct):a.isB<=1:=by cases a <;> first | exact Nat.le_refl 1 | exact Nat.zero_le 1
theorem zpl (l:List LAct):zdq l<=l.length:=by
 unfold zdq
 induction l with
 | nil=>exact Nat.zero_le _
 | cons a r ih=>rw [List.map_cons,List.sum_cons,List.length_cons]; have:=zqy a; omega
theorem zpm (a:LAct):∃ t,actD a=.str t::(actD a).tail/\(decide (V.str t=V.str "begin"))=decide (a.isB=1):=by
 cases a <;> refine ⟨_,rfl,?_⟩ <;> first | rfl | exact decide_eq_false λ z=>by have:=V.str.inj z; revert this; decide +kernel
def zsW (K:PySem.W.Frag):Sp:=λ vs H Q _=>∃ (a:Addr) (ns:List Int) (c:Int) (b:Nat),vs=[.ref a,.int c,.int b]/\SqL K H a (ns.map V.int)/\0 < b/\∀ H' q A,H q=none->Same H H'->H' q=some (.tup (actD A))->okA ns b A->Q (.ref q) H'
def zr3 (K:PySem.W.Frag):Sp:=λ vs H Q _=>∃ (a:Addr) (ns:List Int),vs=[.ref a]/\SqL K H a (ns.map V.int)/\∀ H' q us As,H q=none->Same H H'->H' q=some (.lst us)->zau H' us (As.map actD)->(∀ p,V.ref p∈us->H p=none)->Valid ns As->As.length<=63->Q (.ref q) H'
end TP
end
section
namespace TP
open PySem L2 TH
theorem zkm {α:Type} [DecidableEq α]:∀ (a b:List α),a.Nodup->(∀ x∈a,x∈b)->a.length<=b.length
 | [],b,_,_=>Nat.zero_le _
 | x::r,b,nd,hs=>by
  obtain ⟨n1,n2⟩:=List.nodup_cons.mp nd
  have hx:=hs x List.mem_cons_self
  have:=zkm r (b.erase x) n2 λ z hz=>(List.mem_erase_of_ne (show z≠x from λ e=>n1 (e ▸ hz))).mpr (hs z (List.mem_cons_of_mem _ hz))
  rw [List.length_erase_of_mem hx] at this
  have hpos:0 < b.length:=List.length_pos_of_mem hx
  simp only [List.length_cons]; omega
theorem zs4 {ns:List Int} {l:List Str} (nd:l.Nodup) (h:∀ k∈l,zl3 ns k):l.length<=4:=by
 have:=zkm l ((List.range 4).map (keyF ns)) nd λ k hk=>by
  obtain ⟨j,hj,rfl⟩:=h k hk
  exact List.mem_map.mpr ⟨j,List.mem_range.mpr hj,rfl⟩
 simpa using this
theorem zoC {s:HS Str} {k x:Str}:x∈(see s k).seen↔x=k\/x∈s.seen:=by
 show x∈(if k∈s.seen then s.seen else s.seen++[k])↔_
 split
 . rename_i h; exact ⟨.inr,λ q=>q.elim (λ z=>z ▸ h) id⟩
 . rw [List.mem_append,List.mem_singleton]; exact Or.comm
theorem see4 {ns:List Int} {s:HS Str} {T:Nat} {k:Str} (E:Ext s T) (h:∀ k∈s.seen,zl3 ns k) (hk:zl3 ns k):(see s k).seen.length<=4 :=
 zs4 (E.see (k:=k)).snd λ x hx=>(zoC.mp hx).elim (λ z=>z ▸ hk) (h x)
noncomputable def ze9 (s:HS Str):LAct->HS Str
 | .begin=>za1 s
 | .read d k=>if (s.deed d).st=.zar then wish ordS s d ⟨false,k,0⟩ else s
 | .write d k v=>if (s.deed d).st=.zar then wish ordS s d ⟨true,k,v⟩ else s
 | .keep d=>if (s.deed d).st=.zar then keep ordS s d else s
 | .drop d=>if (s.deed d).st=.zar\/(s.deed d).st=.waiting then drop ordS s d else s
theorem zgQ (s:HS Str) (d:Nat) (k:Str):ze9 s (.read d k)=if (s.deed d).st=.zar then wish ordS s d ⟨false,k,0⟩ else s:=rfl
theorem zfE (s:HS Str) (d:Nat) (k:Str) (v:Int):ze9 s (.write d k v)=if (s.deed d).st=.zar then wish ordS s d ⟨true,k,v⟩ else s:=rfl
theorem zgR (s:HS Str) (d:Nat):ze9 s (.keep d)=if (s.deed d).st=.zar then keep ordS s d else s:=rfl
theorem step_drop (s:HS Str) (d:Nat):ze9 s (.drop d)=if (s.deed d).st=.zar\/(s.deed d).st=.waiting then drop ordS s d else s:=rfl
theorem Ready.mono {s:HS Str} {T:Nat} (R:Ready s T) (h:T+1<=1000):Ready s (T+1):=⟨R.c,R.h,R.a,⟨R.L.e.mono (Nat.le_succ _),h,R.L.n,R.L.sn⟩⟩
structure Run (ns:List Int) (s:HS Str) (T:Nat):Prop where
 r:Ready s T
 k:∀ k∈s.seen,zl3 ns k
theorem Run.step {ns:List Int} {s:HS Str} {T:Nat} (R:Run ns s T) (ht:T+1<=1000) (hn:s.n < 63) {a:LAct} (ok:okA ns s.n a):Run ns (ze9 s a) (T+1)/\(ze9 s a).n=s.n+a.isB:=by
 have same:Run ns s (T+1)/\s.n=s.n:=⟨⟨R.r.mono ht,R.k⟩,rfl⟩
 have wi:∀ (d:Nat) (x:Act Str),(s.deed d).st=.zar->zl3 ns x.key->Run ns (wish ordS s d x) (T+1)/\(wish ordS s d x).n=s.n:=λ d x hd hk=>by
  have h4:=see4 R.r.L.e R.k hk
  obtain ⟨f1,f2,_,_⟩:=zcK (a:=x) R.r hd
  refine ⟨⟨R.r.wish hd h4 ht,λ k h=>?_⟩,f1⟩
  rw [f2] at h
  exact (zoC.mp h).elim (λ z=>z ▸ hk) (R.k k)
 cases a with
 | begin=>exact ⟨⟨R.r.za1 hn ht,R.k⟩,rfl⟩
 | read d k =>
  rw [zgQ]
  split
  . rename_i h; exact wi d _ h ok.2
  . exact same
 | write d k v =>
  rw [zfE]
  split
  . rename_i h; exact wi d _ h ok.2
  . exact same
 | keep d =>
  rw [zgR]
  split
  . rename_i h
    have ha:(s.deed d).act:=.inl h
    exact ⟨⟨(R.r.keep ha).mono ht,λ k h=>R.k k (by rw [zkx R.r.c ha] at h; exact h)⟩,zqt ordS R.r.c ha⟩
  . exact same
 | drop d =>
  rw [step_drop]
  split
  . rename_i h
    have ha:(s.deed d).act:=h
    exact ⟨⟨(R.r.drop ha).mono ht,λ k h=>R.k k (by rw [zhA R.r.c ha] at h; exact h)⟩,zko ordS R.r.c ha⟩
  . exact same
def zr0 (A:Ad):Sp:=λ vs H Q E=>∃ ρ ad s kq act T ns,vs=[.ref (ad Role.hall),.ref kq]/\zai A ρ ad s (zav s) H/\Run ns s T/\T+1<=1000/\s.n < 63/\okA ns s.n act/\H kq=some (.tup (actD act)) /\
 (∀ v H' ρ' ad',ad' Role.hall=ad .hall->zai A ρ' ad' (ze9 s act) (zav (ze9 s act)) H'->Frame ρ H ρ' H'->Q v H')/\(ze9 s act=s->E (.ref A.zcT) none H)
def spDo (A:Ad):Sp:=λ vs H Q _=>∃ ρ ad s kq act T ns,vs=[.ref (ad Role.hall),.ref kq]/\zai A ρ ad s (zav s) H/\Run ns s T/\T+1<=1000/\s.n < 63/\okA ns s.n act/\H kq=some (.tup (actD act)) /\
 ∀ v H' ρ' ad',ad' Role.hall=ad .hall->zai A ρ' ad' (ze9 s act) (zav (ze9 s act)) H'->Frame ρ H ρ' H'->Q v H'
def zrV (K:PySem.W.Frag):Sp:=λ vs H Q _=>∃ (a:Addr) (ns:List Int),vs=[.ref a]/\SqL K H a (ns.map V.int)/\∀ H',Q (.bl true) H'
end TP
end
section
namespace TP
open PySem L2 TH
def zsT (A:Ad):Sp:=λ vs H Q _=>∃ ρ ad s kv,vs=[.ref (ad Role.hall)]/\zai A ρ ad s kv H/\∀ H' q us,H q=none->Same H H'->H' q=some (.tup us)->zau H' us (s.log.map rowV)->Q (.ref q) H'
def znV (A:Ad):Sp:=λ vs H Q E=>∃ ρ ad s kv i,vs=[.ref (ad Role.hall),.int i]/\zai A ρ ad s kv H/\s.n<=1000/\((∃ d:Nat,i=d/\d < s.n/\Q (.str (stS (s.deed d).st)) H)\/Out A s i H E)
def zqW (A:Ad):Sp:=λ vs H Q _=>∃ ρ ad s kv,vs=[.ref (ad Role.hall)]/\zai A ρ ad s kv H/\s.log.length<=3000/\∀ H',Same H H'->Q (.int ((logB s.log).length:Int)) H'
end TP
end
section
namespace TP
open PySem L2 TH
def rowB:Row Str->Bool
 | .begin _=>true
 | _=>false
theorem zpC (r:Row Str):∃ t,rowV r=.str t::(rowV r).tail/\decide (V.str t=V.str "begin")=rowB r:=by
 cases r <;> refine ⟨_,rfl,?_⟩ <;> first | rfl | exact decide_eq_false λ z=>by have:=V.str.inj z; revert this; decide +kernel
theorem zmA (l:List (Row Str)) (r:Row Str):(logB (l++[r])).length=(logB l).length+if rowB r then 1 else 0:=by
 rw [zfp,List.length_append]
 cases r <;> rfl
end TP
namespace TH
section
variable {K:Type} [DecidableEq K] (ord:List K->List K)
end
end TH
end
section
namespace TP
open PySem L2 TH
section
variable {K:PySem.W.Frag} {ρ ρ':Addr->Role} {H H':Hp} {a:Addr} {xs:List V}
end
theorem zpS {ns:List Int} {s:HS Str} {T:Nat} (R:Run ns s T) (l:zaQ s) (a:LAct):zaQ (ze9 s a):=by
 cases a with
 | begin=>exact l.za1 R.r.c
 | read d k =>
  rw [zgQ]
  split
  . rename_i h; exact l.wish ordS R.r.c h
  . exact l
 | write d k v =>
  rw [zfE]
  split
  . rename_i h; exact l.wish ordS R.r.c h
  . exact l
 | keep d =>
  rw [zgR]
  split
  . rename_i h; exact l.keep ordS R.r.c (.inl h)
  . exact l
 | drop d =>
  rw [step_drop]
  split
  . rename_i h; exact l.drop ordS R.r.c h
  . exact l
theorem zsR (t:DS):inV (.str (stS t)) [.str "going",.str "waiting"]=decide (t=.zar\/t=.waiting):=by
 cases t <;> decide +kernel
theorem zrm (d:Nat) (l:List Nat):inV (.int (d:Int)) (zal l)=decide (d∈l):=by
 unfold zal inV
 rw [List.any_map,Bool.eq_iff_iff,List.any_eq_true,decide_eq_true_iff]
 constructor
 . rintro ⟨x,hx,e⟩
   have e:eqV (.int (x:Int)) (.int (d:Int))=true:=e
   have:(x:Int)=d:=by simpa [eqV] using e
   rw [show d=x by omega]; exact hx
 . intro h
   exact ⟨d,h,by show eqV (.int (d:Int)) (.int (d:Int))=true; simp [eqV]⟩
theorem zo4 (l:List Nat):(zal l).all zjn=true:=by
 unfold zal
 rw [List.all_map,List.all_eq_true]
 exact λ _ _=>rfl
theorem zlE {H:Hp}:∀ l:List Nat,DVs H (zal l) (l.map λ (n:Nat)=>PySem.W.Dat.int (n:Int))
 | []=>.nil
 | _::r=>.cons (.int _) (zlE r)
end TP
end
section
namespace TH
section
variable {K:Type} [DecidableEq K] (ord:List K->List K)
end
end TH
namespace TP
open PySem L2 TH
theorem zfD {ρ ρ':Addr->Role} {H H':Hp} (f:Frame ρ H ρ' H'):∀ {us:List V} {xss:List (List V)},(∀ p,V.ref p∈us->ρ p=.other)->zau H us xss->zau H' us xss/\∀ p,V.ref p∈us->ρ' p=.other
 | _,_,_,.nil=>⟨.nil,λ p h=>by cases h⟩
 | _::us,_,hr,.cons ⟨p,e,q⟩ t=>by
  obtain ⟨t',r'⟩:=zfD f (λ p hp=>hr p (List.mem_cons_of_mem _ hp)) t
  subst e
  have h1:=f _ _ q (hr p List.mem_cons_self)
  exact ⟨.cons ⟨p,rfl,h1.1⟩ t',λ x hx=>by
   rcases List.mem_cons.mp hx with z | z
   . cases z; exact h1.2
   . exact r' x z⟩
section
variable {l:List (Row Str)} {kvs:List (Key×V)} {ρ ρ':Addr->Role} {H H':Hp}
end
theorem zjH {H:Hp}:∀ (i:Nat) {us:List V} {xss:List (List V)},zau H us xss->zau H (us.take i) (xss.take i)
 | 0,_,_,_=>by rw [List.take_zero,List.take_zero]; exact .nil
 | _+1,_,_,.nil=>.nil
 | i+1,_,_,.cons a t=>.cons a (zjH i t)
end TP
end
section
namespace L2
open PySem PySem.Spec PySem.W PyProof.Rows
section
variable {X:Cx}
open Classical in
open Classical in
theorem zqb (hc:X.calm=true):zgH X (.builtin "all") (λ xs H Q=>∃ l,∃ bs:List Bool,xs=[.ref l]/\SqL X.K H l (bs.map V.bl)/\Q (.bl (bs.all id)) H):=by
 intro pins s σ H xs us Q I r h
 obtain ⟨l,bs,rfl,hl,q⟩:=h
 obtain ⟨u,rfl,ru⟩:=vals1 r
 cases ru
 obtain ⟨its,rv,pl,hz⟩:=I.list hl
 have hlen:its.length=bs.length:=by rw [<-rv.length,List.length_map]
 obtain ⟨ol,hol,_⟩:=id pl.isList
 refine call_all_walk (wpAny_pyIter_list pl.isList ⟨s.heap.objs.size,_,_,_,_,_,λ i=>bs.getD i true,rfl,Walks.list (show X.A.in1.handled=none from I.ok.hd hc) _ l (Nat.ne_of_lt (Heap.lt_size hol)) its.toArray,⟨⟨_,Heap.get?_push_size _ rfl,rfl,rfl⟩,pl.isList.at λ o e=>Heap.get?_push_of_some _ e⟩,λ i v s Q E hv hq=>?_,λ h' tk hk=>?_⟩)
 . have hv:its[i]?=some v:=by simpa using hv
   have hi:i < bs.length:=by rw [<-hlen]; exact (List.getElem?_eq_some_iff.mp hv).1
   obtain ⟨b,hb⟩:∃ b,bs[i]?=some b:=⟨_,List.getElem?_eq_getElem hi⟩
   obtain ⟨u,hu,ru⟩:=rv.get (show (bs.map V.bl)[i]?=some (V.bl b) by rw [List.getElem?_map,hb]; rfl)
   rw [hv] at hu
   cases hu
   cases ru
   have hq:Q (bs.getD i true) s:=hq
   rw [List.getD_eq_getElem?_getD,hb] at hq
   first | exact wpAny_pure hq | (unfold truthy; exact wpAny_pure hq) | (unfold truthy; simp; exact wpAny_pure hq)
 . have e:(List.range its.toArray.size).all (λ i=>bs.getD i true)=bs.all id:=by
    rw [List.size_toArray,hlen,Bool.eq_iff_iff,List.all_eq_true,List.all_eq_true]
    constructor
    . intro h b hb
      obtain ⟨i,hi⟩:=List.getElem?_of_mem hb
      have:=h i (List.mem_range.mpr (List.getElem?_eq_some_iff.mp hi).1)
      rw [List.getD_eq_getElem?_getD,hi] at this; exact this
    . intro h i hi
      have hi:=List.mem_range.mp hi
      rw [List.getD_eq_getElem?_getD,List.getElem?_eq_getElem hi]
      exact h _ (List.getElem_mem hi)
   rw [e]
   refine ⟨.bl _,H,I.kept (t':=tk) λ b o eb=>hk b o (λ z=>?_) (Heap.get?_push_of_some _ eb),rfl,q⟩
   have z:b=s.heap.objs.size:=by simpa using z
   exact absurd (Heap.lt_size eb) (by rw [z]; exact Nat.lt_irrefl _)
end
end L2
end
section
namespace TP
open PySem L2 TH
theorem zqv:∀ {a b:List Nat},a.Pairwise (· < ·)->b.Pairwise (· < ·)->(∀ x,x∈a↔x∈b)->a=b
 | [],[],_,_,_=>rfl
 | [],y::_,_,_,h=>absurd ((h y).mpr List.mem_cons_self) List.not_mem_nil
 | x::_,[],_,_,h=>absurd ((h x).mp List.mem_cons_self) List.not_mem_nil
 | x::a,y::b,ha,hb,h=>by
  obtain ⟨a1,a2⟩:=List.pairwise_cons.mp ha
  obtain ⟨b1,b2⟩:=List.pairwise_cons.mp hb
  have e:x=y:=by
    rcases List.mem_cons.mp ((h x).mp List.mem_cons_self) with z | z
    . exact z
    rcases List.mem_cons.mp ((h y).mpr List.mem_cons_self) with z' | z'
    . exact z'.symm
    have:=b1 x z
    have:=a1 y z'
    omega
  subst e
  refine congrArg _ (zqv a2 b2 λ z=>?_)
  constructor
  . intro hz
    rcases List.mem_cons.mp ((h z).mp (List.mem_cons_of_mem _ hz)) with e | e
    . subst e; exact absurd (a1 z hz) (Nat.lt_irrefl _)
    . exact e
  . intro hz
    rcases List.mem_cons.mp ((h z).mpr (List.mem_cons_of_mem _ hz)) with e | e
    . subst e; exact absurd (b1 z hz) (Nat.lt_irrefl _)
    . exact e
section
variable {s:HS Str} {k:Str} {L:List (Nat×Bool)}
end
end TP
end
section
namespace L2
open PySem PySem.Spec PySem.W PyProof.Rows S5
theorem zpi {X:Cx} (hc:X.calm=true):zgH X (.type "set") (λ xs H Q=>∃ p ks,xs=[.ref p]/\SqT X.K H p (ks.map kV)/\ks.length < 4000/\∀ q,H q=none->Q (.ref q) (upd H q (.ext (SetX X.prog X.w q (S6.deds ks))))):=by
 intro pins s σ H xs us Q I r h
 obtain ⟨p,ks,rfl,hq,hl,h⟩:=h
 obtain ⟨u,rfl,ru⟩:=Vals.one r
 cases ru
 obtain ⟨its,rv,pl,hz⟩:=I.tuple hq
 have hp:∃ o,s.heap.get? p=some o:=let ⟨o,e,_⟩:=pl; ⟨o,e⟩
 refine S6.zqi (R:=λ h'=>S6.SetP (zaE X.prog X.w) h' s.heap.objs.size (S6.deds ks)/\∀ b o,s.heap.get? b=some o->h'.get? b=some o) hp ?_ λ h' tk ⟨hS,kp⟩=>?_
 . have e0:(s.heap.push (S6.set0 X.w)).get? s.heap.objs.size=some (S6.set0 X.w):=Heap.get?_push_size _ rfl
   have hlen:its.length=ks.length:=by rw [<-rv.length,List.length_map]
   have pl':(s.heap.push (S6.set0 X.w)).IsTuple p its.toArray:=let ⟨o,e,r⟩:=pl; ⟨o,Heap.get?_push_of_some _ e,r⟩
   refine wpAny_mono (S6.zp7 (s:={ s with heap:=s.heap.push (S6.set0 X.w) }) (knd:=zaE X.prog X.w) (ks:=ks) (items:=its.toArray) (I.ok.hd hc) pl' (S6.zla e0) ?_ (by simpa using hlen) (by unfold scanBound; omega) λ i v hv=>?_) (λ _ s' q=>?_) λ _ _ z=>z
   . obtain ⟨o,e,_⟩:=pl
     exact Nat.ne_of_gt (Heap.lt_size e)
   . have hv':its[i]?=some v:=by simpa using hv
     have hi:i < ks.length:=by rw [<-hlen]; exact (List.getElem?_eq_some_iff.mp hv').1
     have e1:(ks.map kV)[i]?=some (kV ks[i]):=by rw [List.getElem?_map,List.getElem?_eq_getElem hi]; rfl
     obtain ⟨u,e2,ru⟩:=rv.get e1
     rw [hv'] at e2; cases e2
     exact ⟨ks[i],List.getElem?_eq_getElem hi,zoH ru⟩
   . obtain ⟨h',tk,e,hS,kp⟩:=q
     exact ⟨h',tk,e,hS,λ b o q=>kp b o (Nat.ne_of_lt (Heap.lt_size q)) (Heap.get?_push_of_some _ q)⟩
 . refine ⟨.ref s.heap.objs.size,upd H s.heap.objs.size (.ext (SetX X.prog X.w s.heap.objs.size (S6.deds ks))),I.laid kp (Nat.le_refl _) (zn2 hS),rfl,h _ I.fresh⟩
end L2
end
section
namespace TP
open PySem L2 TH
def ordN (l:List Nat):List Nat:=(List.range 64).filter λ d=>decide (d∈l)
abbrev kI (d:Nat):Key:=Sum.inl (d:Int)
theorem zep {l:List Nat} (h:∀ d∈l,d < 64) {d:Nat}:d∈ordN l↔d∈l:=by
 unfold ordN
 rw [List.mem_filter,List.mem_range]
 exact ⟨λ z=>of_decide_eq_true z.2,λ z=>⟨h d z,decide_eq_true z⟩⟩
theorem zha (l:List Nat):(ordN l).Pairwise (· < ·):=List.Pairwise.filter _ List.pairwise_lt_range
theorem zpO (l:List Nat):(ordN l).length<=64:=by
 have:=List.length_filter_le (λ d=>decide (d∈l)) (List.range 64)
 rw [List.length_range] at this; exact this
theorem zsp {a b:Nat} (h:kI a=kI b):a=b:=by have:=Sum.inl.inj h; omega
theorem zrc (l:List Nat):((ordN l).map kI).Nodup:=List.Pairwise.map _ (λ a b h e=>h (zsp e)) ((zha l).imp λ h=>Nat.ne_of_lt h)
theorem zkz {l:List Nat} {k:Key}:k∈l.map kI↔∃ d∈l,kI d=k:=List.mem_map
theorem zfy {l:List Nat} (h:∀ d∈l,d < 64):(S6.deds (l.map kI)).Perm ((ordN l).map kI):=by
 refine (List.perm_ext_iff_of_nodup (S6.zhD _) (zrc l)).mpr λ k=>?_
 rw [S6.zfn,zkz,zkz]
 exact ⟨λ ⟨x,hx,e⟩=>⟨x,(zep h).mpr hx,e⟩,λ ⟨x,hx,e⟩=>⟨x,(zep h).mp hx,e⟩⟩
theorem znf (l:List Nat):zcU (l.map kI):=.inl λ k hk=>by
 obtain ⟨d,_,e⟩:=zkz.mp hk
 exact ⟨_,e.symm⟩
theorem zg9 {l:List Nat} {ys:List Key} (pm:ys.Perm ((ordN l).map kI)) (so:ys.Pairwise λ a b=>kLt a b=true):ys=(ordN l).map kI:=by
 have so2:((ordN l).map kI).Pairwise λ a b=>kLt a b=true:=by
  rw [List.pairwise_map]
  refine (zha l).imp λ {a b} h=>?_
  have:(a:Int) < (b:Int):=by omega
  simpa [kLt] using this
 refine List.Perm.eq_of_pairwise (le:=λ a b=>kLt a b=true) (λ a b _ _ h1 h2=>?_) so so2 pm
 cases a with
 | inl i =>
  cases b with
  | inl j =>
   have h1:i < j:=by simpa [kLt] using h1
   have h2:j < i:=by simpa [kLt] using h2
   omega
  | inr y=>simp [kLt] at h1
 | inr x =>
  cases b with
  | inl j=>simp [kLt] at h1
  | inr y=>exact absurd (pm.mem_iff.mp (by assumption)) λ z=>by obtain ⟨_,_,e⟩:=zkz.mp z; cases e
theorem zjh (l:List Nat):(l.map kI).map kV=zal l:=by unfold zal; rw [List.map_map]; rfl
theorem ziu (l:List Nat):zcU (S6.deds (l.map kI)):=.inl λ k hk=>by
 obtain ⟨d,_,e⟩:=zkz.mp (S6.zfn.mp hk)
 exact ⟨_,e.symm⟩
theorem zlj {l:List Nat} (h:∀ d∈l,d < 63):(ordN l).length<=63 :=
 zdB 63 _ ((zha l).imp λ h=>Nat.ne_of_lt h) λ d hd=>h d ((zep λ e he=>Nat.lt_succ_of_lt (h e he)).mp hd)
theorem zoo {l:List Nat} {d:Nat} (h:d∈ordN l):d < 64:=List.mem_range.mp (List.mem_filter.mp h).1
theorem zj6 (l:List Nat):ordN (ordN l)=ordN l:=zqv (zha _) (zha _) λ x=>zep λ d hd=>zoo hd
theorem zmG (l:List Nat):znx (.list (l.map λ (n:Nat)=>PySem.W.Dat.int (n:Int))):=by
 show PySem.W.kqdOk 8 _=true
 simp [PySem.W.kqdOk]
def zpv (A:Ad):Sp:=λ vs H Q _=>∃ (p hd rw:Addr) (h r:List (Nat×Bool)) (d:Nat) (w:Bool),vs=[.ref p,.int d,.str (useS w)]/\zdr A H p hd rw h r/\h.length<=1000/\(h.map (·.1)).Nodup/\r.length<=1000/\(d,w)∈r/\(r.map (·.1)).Nodup /\
 (∀ e∈(ahead r d).map (·.1)++hind h d w,e < 63)/\∀ H' q,Same H H'->H' q=some (.tup (zal (ordN ((ahead r d).map (·.1)++hind h d w))))->Q (.ref q) H'
def zqT (A:Ad):Sp:=λ vs H Q E=>∃ ρ ad s kv i,vs=[.ref (ad Role.hall),.int i]/\zai A ρ ad s kv H/\Core s none/\Sm s/\s.n<=63 /\
 ((∃ d:Nat,i=d/\d < s.n/\∀ H' q,Same H H'->H' q=some (.tup (zal (ordN (zaC s d))))->Q (.ref q) H')\/Out A s i H E)
def zr1 (A:Ad):Sp:=λ vs H Q _=>∃ ρ ad s kv,∃ d:Nat,vs=[.ref (ad Role.hall),.int d]/\zai A ρ ad s kv H/\Core s none/\Acyc s/\Sm s/\s.n<=63/\d < s.n/\∀ H',Same H H'->Q (.bl false) H'
theorem ze8 {s:HS Str} (c:Core s none) (hn:s.n<=63) {d e:Nat} (h:e∈zaC s d):e < s.n:=c.lt (zgO c h)
theorem zii {s:HS Str} {d:Nat} (h:(s.deed d).st≠.waiting):zaC s d=[]:=by
 cases e:zaC s d with
 | nil=>rfl
 | cons x r=>exact absurd (zeE (d:=d) (e:=x) (by rw [e]; exact List.mem_cons_self)) h
end TP
end
section
namespace TP
open PySem PySem.W PyProof.Rows
def goT (thr ok:Thread->Bool) (stp:SharedT->Thread->Option (SharedT×Thread)):Nat->SharedT->Thread->Option SharedT
 | 0,_,_=>none
 | n+1,s,t=>match thr t with
  | true=>some s
  | false=>match ok t with
   | false=>none
   | true=>match stp s t with
    | some (s',t')=>goT thr ok stp n s' t'
    | none=>none
theorem zoW {tb:String->Option Builtin} {p:Program} {w:World} {m:Nat} {ann:Option Value}:∀ {n:Nat} {s s':SharedT} {t:Thread},goT through (stepOk m ann) (stepT (denote tb) p w) n s t=some s'->topRun tb p w m ann n s.abs t=some s'.abs
 | 0,_,_,_,h=>by cases h
 | n+1,s,s',t,h=>by
  unfold goT at h
  unfold topRun
  cases ht:through t with
  | true=>rw [ht] at h; cases h; rfl
  | false =>
   rw [ht] at h
   cases hk:stepOk m ann t with
   | false=>rw [hk] at h; cases h
   | true =>
    rw [hk] at h
    cases hs:stepT (denote tb) p w s t with
    | none=>rw [hs] at h; cases h
    | some r=>obtain ⟨a,b⟩:=r; rw [hs] at h; rw [stepT_spec hs]; exact zoW h
def ofL:List Obj->Nat->BT->BT
 | [],_,t=>t
 | o::l,i,t=>ofL l (i+1) (t.ins i o)
theorem zs3 {p q:Program} {loose:List Str} {Xt:Shared->Bool} {α:Type} {Yf:Shared->α} {Ya:World->α} {N m:Nat} {ann:Option Value} {life:Life}
  (op:∀ w:World,(fencedOpening treeTable p w N).map (λ s=>(s.heap,s.gens,s.drawn,s.toks))=some (boot_heap w.params,Array.mk [],boot_drawn,boot_toks))
  (size:∀ w:World,((boot_heap w.params).isNs mainGlobals && (Array.mk []:Array GenState).size == 0,(boot_heap w.params).objs.size,(boot_heap w.params).nsMap mainGlobals "__annotations__")=(true,m,ann))
  (hb:∀ w:World,absHeap (ofL (boot_heap w.params).objs.toList 0 .nil) m life=boot_heap w.params)
  (run:∀ (w:World) (os:OsState),(goT through (stepOk m ann) (stepT (denote treeTable) p w) N ⟨ofL (boot_heap w.params).objs.toList 0 .nil,m,life,Array.mk [],boot_drawn,boot_toks,os⟩ (topStub p)).map
   (λ s=>(staticsOk (importedModules p.main.body) (boot_heap w.params) s.abs.heap && namesBound p s.abs.heap && gensDone s.abs && laidKept (boot_heap w.params) s.abs.heap,openSeen q loose (importedModules p.main.body) Xt true s.abs,Yf s.abs))=some (true,openGood q loose,Ya w)) :
  LeftO p q loose Xt Yf Ya N:=λ w=>by
 obtain ⟨⟨h,gs,d,k,os⟩,e,e'⟩:=Option.map_eq_some_iff.mp (op w)
 obtain ⟨rfl,rfl,rfl,rfl⟩:h=boot_heap w.params/\gs=Array.mk []/\d=boot_drawn/\k=boot_toks:=by simpa using e'
 obtain ⟨z1,z2,z3⟩:_/\_/\_:=by simpa only [Prod.mk.injEq] using size w
 obtain ⟨s,es,ev⟩:=Option.map_eq_some_iff.mp (run w os)
 obtain ⟨l1,l2,l3⟩:_/\_/\_:=by simpa only [Prod.mk.injEq] using ev
 have r:=zoW es
 unfold SharedT.abs at r
 dsimp only at r
 rw [hb] at r
 have t:topFrom treeTable p w N ⟨boot_heap w.params,Array.mk [],boot_drawn,boot_toks,os⟩=some s.abs:=by
  unfold topFrom
  dsimp only
  rw [z1,z2,z3,r]
  show (match staticsOk (importedModules p.main.body) (boot_heap w.params) s.abs.heap && namesBound p s.abs.heap && gensDone s.abs && laidKept (boot_heap w.params) s.abs.heap with | true=>_ | false=>_)=_
  rw [l1]
  rfl
 unfold openEnds
 rw [e]
 show (topFrom treeTable p w N _).map _=_
 rw [t]
 show some (openSeen q loose (importedModules p.main.body) Xt true s.abs,Yf s.abs)=_
 rw [l2,l3]
end TP
end
section
namespace TP
open PySem L2 TH PyProof.Rows
abbrev FV:=Str×Str×Arguments×FuncBody×Scope×Addr×List (Str×Addr)×Value×Addr×Bool
def fV (K:PySem.W.Frag) (f:Addr):Option FV:=match K.lookup f with
 | some ⟨_,_,.func d,_⟩=>some (d.name,d.qualname,d.params,d.body,d.scope,d.globals,d.closure,d.defaults,d.builtins,PySem.W.codeIn K d.code d.qualname && PySem.W.isFn K (.ref f))
 | _=>none
def fE (x q:Str) (st:Stmt):Option FV:=some (x,q,zjo st,.stmts (zhC st),zaj st,mainGlobals,[],.none,builtinsNs,true)
def fdOf (K:PySem.W.Frag) (f:Addr):FuncData:=match K.lookup f with
 | some ⟨_,_,.func d,_⟩=>d
 | _=>default
def fi (K:PySem.W.Frag) (c:Addr) (x:Str):Option (Option Value):=PySem.W.findIn K (.ref c) x
def gl (K:PySem.W.Frag) (x:Str):Option (Option Value):=PySem.W.nsIn K mainGlobals x
def gs (K:PySem.W.Frag) (x v:Str):Bool:=match PySem.W.nsIn K mainGlobals x with
 | some (some (.str y _))=>y == v
 | _=>false
def gi (K:PySem.W.Frag) (x:Str) (v:Int):Bool:=match PySem.W.nsIn K mainGlobals x with
 | some (some (.int y _))=>y == v
 | _=>false
def dOf (st:Stmt):DefRec:=match st with
 | .FunctionDef n a b _ _ _ s _ _ p=>⟨n,a,b,s,p⟩
 | _=>⟨"",zjo st,[],zaj st,⟨0,0,0,0⟩⟩
def Kof (as:List Addr) (h:Heap):PySem.W.Frag:=as.filterMap λ a=>(h.get? a).map λ o=>(a,o)
theorem zsG {as:List Addr} {h:Heap}:(Kof as h).In h:=by
 unfold Kof
 intro a o e
 induction as with
 | nil=>cases e
 | cons b r ih =>
  rw [List.filterMap_cons] at e
  cases hb:h.get? b with
  | none=>rw [hb] at e; exact ih e
  | some x =>
   rw [hb] at e
   simp only [Option.map_some,List.lookup_cons] at e
   split at e
   . rename_i z
     rw [eq_of_beq z,hb]; exact e
   . exact ih e
section
variable {K:PySem.W.Frag}
theorem bt {L:List Bool} (h:L.all id=true) (i:Nat) {b:Bool} (e:L[i]?=some b):b=true:=List.all_eq_true.mp h b (List.mem_of_getElem? e)
theorem fu0 {x q:Str} {st:Stmt} {f:Addr} (h:fV K f=fE x q st):Fun K x q st f (fdOf K f)/\PySem.W.isFn K (.ref f)=true/\PySem.W.keepIn K (.ref f)=true:=by
 unfold fV fE at h
 unfold fdOf
 split at h
 . rename_i oc od d sl e
   obtain ⟨n,q',ps,bd,sc,g,cl,df,kw,dc,pm,an,cd,ct,bi⟩:=d
   simp only [Option.some.injEq,Prod.mk.injEq,Bool.and_eq_true] at h
   obtain ⟨rfl,rfl,rfl,rfl,rfl,rfl,rfl,rfl,rfl,h1,h2⟩:=h
   have kp:PySem.W.keepIn K (.ref f)=true:=by unfold PySem.W.keepIn; dsimp only; rw [e]
   exact ⟨⟨⟨oc,od,kw,dc,pm,an,cd,ct,sl,rfl,e,h1⟩,kp⟩,h2,kp⟩
 . cases h
theorem fuA {L:List Addr} {E:List (Option FV)} (h:L.map (fV K)=E) (i:Nat) {f:Addr} {x q:Str} {st:Stmt} (e1:L[i]?=some f) (e2:E[i]?=some (fE x q st)):fV K f=fE x q st:=by
 rw [<-h,List.getElem?_map,e1] at e2
 exact Option.some.inj e2
theorem fu {L:List Addr} {E:List (Option FV)} (h:L.map (fV K)=E) (i:Nat) {f:Addr} {x q:Str} {st:Stmt} (e1:L[i]?=some f) (e2:E[i]?=some (fE x q st)):Fun K x q st f (fdOf K f):=(fu0 (fuA h i e1 e2)).1
theorem fu2 {L:List Addr} {E:List (Option FV)} (h:L.map (fV K)=E) (i:Nat) {f:Addr} {x q:Str} {st:Stmt} (e1:L[i]?=some f) (e2:E[i]?=some (fE x q st)):PySem.W.isFn K (.ref f)=true:=(fu0 (fuA h i e1 e2)).2.1
theorem fu3 {L:List Addr} {E:List (Option FV)} (h:L.map (fV K)=E) (i:Nat) {f:Addr} {x q:Str} {st:Stmt} (e1:L[i]?=some f) (e2:E[i]?=some (fE x q st)):PySem.W.keepIn K (.ref f)=true:=(fu0 (fuA h i e1 e2)).2.2
variable {h:Heap} {mg:Str->Option Value}
theorem zhx (X:K.In h) (G:h.Ns mainGlobals mg) {x v:Str} (e:gs K x v=true):∃ t,mg x=some (.str v t):=by
 unfold gs at e
 split at e
 . rename_i y t q
   rw [eq_of_beq e] at q
   exact ⟨t,PySem.W.mg_of X G q⟩
 . cases e
theorem zs8 (X:K.In h) (G:h.Ns mainGlobals mg) {x:Str} {v:Int} (e:gi K x v=true):∃ t,mg x=some (.int v t):=by
 unfold gi at e
 split at e
 . rename_i y t q
   rw [eq_of_beq e] at q
   exact ⟨t,PySem.W.mg_of X G q⟩
 . cases e
end
theorem walk2 {l:PySem.W.OpenLaw} {n k:Nat} {q:Program} {loose:List Str} {XP:(Str->Option Value)->Heap->Prop} {OB:PySem.W.Frag->Prop} {d:DefRec} {CX:World->CXT} {sp:PySem.W.Frag->Sp} {x:Str}
  (hn:l.most=some n) (hn2:n<=sizeLine) (hdf:d.params.defaults=[]) (hr:Room k callerA)
  (F:∀ (w:World) (mg:Str->Option Value) (fa:Addr) (h:Heap) (K:PySem.W.Frag),OB K->K.In h->h.Ns mainGlobals mg->mg d.name=some (.ref fa) ->
   ∃ fd:FuncData,(∀ (s:Shared) (u:Value),BindsTo s fd ⟨[u],[]⟩ [(x,u)])/\∀ base:Heap,K.In base->base.Ns mainGlobals mg->FnOk l.prog w K mg base (CX w) k fa fd [x] (sp K))
  (hsp:∀ (K:PySem.W.Frag) (H:Hp) (a:Addr) (ns:List Int),ns.length<=n->Only H->SqL K H a (ns.map V.int)->sp K [.ref a] H (λ v _=>v=.bl true) λ _ _ _=>False)
  (hCX:∀ (w:World) (H:Hp) (s:Shared) (e:Value) (s':Shared),CX w [] H s (λ _ _ _=>False) e s'->False) :
  PySem.W.WalkO q loose XP (λ _ h=>∃ K,OB K/\K.In h) l.row.toRowW d [] (λ f vs=>PySem.call f vs):=by
 refine Att.zl1 hn hdf λ w s₀ s₁ mg mb fa o pm cd doc a vs ns G Y ho hd hcd hmg hobj hints hlen hg=>?_
 obtain ⟨K,ob,KX⟩:=Y
 obtain ⟨fd,hb,hF⟩:=F w mg fa _ K ob KX G.T.g hmg
 exact zpW KX G.T.g G.T.b G.T.builtins G.T.nolimit hg hobj hints (Nat.le_trans hlen hn2) hr hF hb (λ H hO hS=>hsp K H a ns hlen hO hS) λ H e s'=>hCX w H s₁ e s'
end TP
end
section
namespace TP
open PySem L2 TH
def top (i:Nat):Stmt:=PySem.Challenge.pw_turnhall_k05_whole_nobody_waits_all_roun.main.body.getD i (.Pass ⟨0,0,0,0⟩)
abbrev zeP:Stmt:=inClass (top 26) 0
abbrev zfI:Stmt:=top 29
abbrev zeH:Stmt:=top 28
abbrev zfJ:Stmt:=top 30
abbrev zfK:Stmt:=top 31
abbrev zeJ:Stmt:=top 32
abbrev zdv:Stmt:=inClass (top 16) 0
abbrev zd1:Stmt:=inClass (top 26) 1
abbrev zfH:Stmt:=top 3
abbrev zcv:Stmt:=inClass (top 26) 15
abbrev za6:Stmt:=inClass (top 26) 16
abbrev zeT:Stmt:=inClass (top 17) 0
abbrev zcy:Stmt:=inClass (top 17) 1
abbrev zeS:Stmt:=inClass (top 17) 2
abbrev zbS:Stmt:=inClass (top 17) 3
abbrev zeR:Stmt:=inClass (top 17) 5
abbrev zdt:Stmt:=top 5
abbrev zcx:Stmt:=inClass (top 26) 19
abbrev zc9:Stmt:=inClass (top 17) 6
abbrev zbv:Stmt:=inClass (top 17) 9
abbrev zcw:Stmt:=inClass (top 26) 23
abbrev zc8:Stmt:=inClass (top 26) 22
abbrev zbg:Stmt:=inClass (top 26) 21
abbrev zct:Stmt:=inClass (top 16) 2
abbrev zeM:Stmt:=inClass (top 26) 25
abbrev zdu:Stmt:=top 4
abbrev zbx:Stmt:=inClass (top 16) 3
abbrev zd2:Stmt:=inClass (top 17) 7
abbrev zcd:Stmt:=inClass (top 17) 4
abbrev zdw:Stmt:=inClass (top 26) 27
abbrev zfM:Stmt:=inClass (top 26) 26
abbrev zeQ:Stmt:=inClass (top 26) 24
abbrev zeL:Stmt:=inClass (top 26) 20
abbrev zdx:Stmt:=inClass (top 26) 18
abbrev zfN:Stmt:=inClass (top 26) 17
abbrev zeK:Stmt:=inClass (top 15) 0
abbrev zeN:Stmt:=inClass (top 26) 2
abbrev zd0:Stmt:=inClass (top 26) 3
abbrev zeO:Stmt:=inClass (top 26) 4
abbrev zb1:Stmt:=inClass (top 16) 1
abbrev zc7:Stmt:=inClass (top 26) 5
abbrev zeI:Stmt:=top 33
abbrev zgX:Stmt:=top 34
abbrev zfL:Stmt:=inClass (top 26) 14
abbrev zdZ:Stmt:=top 35
abbrev zcc:Stmt:=inClass (top 17) 8
abbrev zcu:Stmt:=inClass (top 26) 10
abbrev zcP:Stmt:=inClass (top 26) 6
abbrev zcb:Stmt:=top 36
abbrev zn8:Stmt:=top 37
structure Fs where
 f:Nat->Addr
 fd:Nat->FuncData
structure Txt (K:PySem.W.Frag) (mg:Str->Option Value) (A:Ad) (F:Fs):Prop where
 ok:AdOk A
 zaW:Cls K A.zdR
 zbh:zbX K A.zdR "use"
 zaY:zbX K A.zdR "key"
 zcI:zbX K A.zdR "value"
 zqA:mg "Want" = some (.ref A.zdR)
 zoA:Mk K A.zdR (F.f 35)
 zat:Cls K A.zaB
 zay:zbX K A.zaB "state"
 zbo:zbX K A.zaB "did"
 zaV:zbX K A.zaB "want"
 zp4:mg "Record" = some (.ref A.zaB)
 zoB:Mk K A.zaB (F.f 6)
 zaG:Cls K A.zb7
 zbl:zbX K A.zb7 "held"
 zaP:zbX K A.zb7 "row"
 zsu:mg "Desk" = some (.ref A.zb7)
 zri:Mk K A.zb7 (F.f 11)
 zak:Cls K A.zaX
 zaA:zbX K A.zaX "records"
 zbb:zbX K A.zaX "desks"
 zbt:zbX K A.zaX "standing"
 zbp:zbX K A.zaX "kept_values"
 zc1:zbX K A.zaX "kept_deeds"
 zbW:zbX K A.zaX "rows"
 zst:mg "Hall" = some (.ref A.zaX)
 zrh:Mk K A.zaX (F.f 0)
 zmd:Fun K "__init__" "Hall.__init__" zeP (F.f 0) (F.fd 0)
 zlY:Binds K (F.fd 0) ["self"] []
 znD:Fun K "_law_mix" "_law_mix" zfI (F.f 1) (F.fd 1)
 zbI:Binds K (F.fd 1) ["_law_cell_here","_law_prime","_law_many"] []
 zbH:mg "_law_mix" = some (.ref (F.f 1))
 zbF:PySem.W.keepIn K (.ref (F.f 1))=true
 zl5:Fun K "_law_cell" "_law_cell" zeH (F.f 2) (F.fd 2)
 zci:Binds K (F.fd 2) ["_law_script","_law_k"] []
 zch:mg "_law_cell" = some (.ref (F.f 2))
 zcg:PySem.W.keepIn K (.ref (F.f 2))=true
 zgc:Fun K "_law_key" "_law_key" zfJ (F.f 3) (F.fd 3)
 zf7:Binds K (F.fd 3) ["_law_script","_law_k"] []
 zf2:mg "_law_key" = some (.ref (F.f 3))
 zfZ:PySem.W.keepIn K (.ref (F.f 3))=true
 znE:Fun K "_law_act" "_law_act" zfK (F.f 4) (F.fd 4)
 znz:Binds K (F.fd 4) ["_law_script","_law_cell_here","_law_begun"] []
 znu:mg "_law_act" = some (.ref (F.f 4))
 znn:PySem.W.keepIn K (.ref (F.f 4))=true
 zl7:Fun K "_law_acts" "_law_acts" zeJ (F.f 5) (F.fd 5)
 zlT:Binds K (F.fd 5) ["_law_script"] []
 zlI:mg "_law_acts" = some (.ref (F.f 5))
 zlC:PySem.W.keepIn K (.ref (F.f 5))=true
 zjC:Fun K "__init__" "Record.__init__" zdv (F.f 6) (F.fd 6)
 zjs:Binds K (F.fd 6) ["self"] []
 zkY:Fun K "begin" "Hall.begin" zd1 (F.f 7) (F.fd 7)
 zkT:Binds K (F.fd 7) ["self"] []
 zkq:Meth K A.zaX "begin" (F.f 7)
 znC:Fun K "is_whole" "is_whole" zfH (F.f 8) (F.fd 8)
 zny:Binds K (F.fd 8) ["thing"] []
 znt:mg "is_whole" = some (.ref (F.f 8))
 znm:PySem.W.keepIn K (.ref (F.f 8))=true
 zgD:Fun K "record_of" "Hall.record_of" zcv (F.f 9) (F.fd 9)
 zbR:Binds K (F.fd 9) ["self","deed"] []
 zbQ:Meth K A.zaX "record_of" (F.f 9)
 zcW:Fun K "refuse_unless_going" "Hall.refuse_unless_going" za6 (F.f 10) (F.fd 10)
 za8:Binds K (F.fd 10) ["self","deed"] []
 za7:Meth K A.zaX "refuse_unless_going" (F.f 10)
 zmh:Fun K "__init__" "Desk.__init__" zeT (F.f 11) (F.fd 11)
 zl0:Binds K (F.fd 11) ["self"] []
 zgG:Fun K "hindering" "Desk.hindering" zcy (F.f 12) (F.fd 12)
 zcE:Binds K (F.fd 12) ["self","deed","use"] []
 zcB:Meth K A.zb7 "hindering" (F.f 12)
 zmg:Fun K "lets" "Desk.lets" zeS (F.f 13) (F.fd 13)
 zhM:Binds K (F.fd 13) ["self","deed","use"] []
 zhl:Meth K A.zb7 "lets" (F.f 13)
 ze6:Fun K "lets_at_once" "Desk.lets_at_once" zbS (F.f 14) (F.fd 14)
 ze5:Binds K (F.fd 14) ["self","deed","use"] []
 ze0:Meth K A.zb7 "lets_at_once" (F.f 14)
 zmf:Fun K "take" "Desk.take" zeR (F.f 15) (F.fd 15)
 zlZ:Binds K (F.fd 15) ["self","deed","use"] []
 zly:Meth K A.zb7 "take" (F.f 15)
 zjA:Fun K "value_under" "value_under" zdt (F.f 16) (F.fd 16)
 zjq:Binds K (F.fd 16) ["book","key"] []
 zjk:mg "value_under" = some (.ref (F.f 16))
 zjf:PySem.W.keepIn K (.ref (F.f 16))=true
 zgF:Fun K "carry_out" "Hall.carry_out" zcx (F.f 17) (F.fd 17)
 zdM:Binds K (F.fd 17) ["self","deed","want"] []
 zdH:Meth K A.zaX "carry_out" (F.f 17)
 zie:Fun K "line_up" "Desk.line_up" zc9 (F.f 18) (F.fd 18)
 zib:Binds K (F.fd 18) ["self","deed","use"] []
 zh5:Meth K A.zb7 "line_up" (F.f 18)
 zdT:Fun K "next_waited_for" "Desk.next_waited_for" zbv (F.f 19) (F.fd 19)
 zdS:Binds K (F.fd 19) ["self","deed","use"] []
 zdP:Meth K A.zb7 "next_waited_for" (F.f 19)
 zgE:Fun K "next_from" "Hall.next_from" zcw (F.f 20) (F.fd 20)
 zgz:Binds K (F.fd 20) ["self","deed"] []
 zgw:Meth K A.zaX "next_from" (F.f 20)
 zid:Fun K "come_to" "Hall.come_to" zc8 (F.f 21) (F.fd 21)
 zeC:Binds K (F.fd 21) ["self","deed"] []
 zeB:Meth K A.zaX "come_to" (F.f 21)
 zde:Fun K "greatest_all_round" "Hall.greatest_all_round" zbg (F.f 22) (F.fd 22)
 zbO:Binds K (F.fd 22) ["self","deed"] []
 zbN:Meth K A.zaX "greatest_all_round" (F.f 22)
 zgB:Fun K "written" "Record.written" zct (F.f 23) (F.fd 23)
 zdL:Binds K (F.fd 23) ["self"] []
 zdG:Meth K A.zaB "written" (F.f 23)
 zma:Fun K "undo" "Hall.undo" zeM (F.f 24) (F.fd 24)
 zlV:Binds K (F.fd 24) ["self","deed"] []
 zlv:Meth K A.zaX "undo" (F.f 24)
 zjB:Fun K "rising_keys" "rising_keys" zdu (F.f 25) (F.fd 25)
 zjr:Binds K (F.fd 25) ["given"] []
 zjl:mg "rising_keys" = some (.ref (F.f 25))
 zjg:PySem.W.keepIn K (.ref (F.f 25))=true
 zek:Fun K "touched_keys" "Record.touched_keys" zbx (F.f 26) (F.fd 26)
 zeh:Binds K (F.fd 26) ["self"] []
 zd6:Meth K A.zaB "touched_keys" (F.f 26)
 zkZ:Fun K "leave" "Desk.leave" zd2 (F.f 27) (F.fd 27)
 zkU:Binds K (F.fd 27) ["self","deed"] []
 zkr:Meth K A.zb7 "leave" (F.f 27)
 zgf:Fun K "lets_first" "Desk.lets_first" zcd (F.f 28) (F.fd 28)
 zga:Binds K (F.fd 28) ["self"] []
 zfV:Meth K A.zb7 "lets_first" (F.f 28)
 zjD:Fun K "let_on" "Hall.let_on" zdw (F.f 29) (F.fd 29)
 zjt:Binds K (F.fd 29) ["self","key"] []
 zja:Meth K A.zaX "let_on" (F.f 29)
 znG:Fun K "end" "Hall.end" zfM (F.f 30) (F.fd 30)
 ziI:Binds K (F.fd 30) ["self","deed","state"] []
 zis:Meth K A.zaX "end" (F.f 30)
 zme:Fun K "drop" "Hall.drop" zeQ (F.f 31) (F.fd 31)
 zhL:Binds K (F.fd 31) ["self","deed"] []
 zhk:Meth K A.zaX "drop" (F.f 31)
 zl9:Fun K "wait" "Hall.wait" zeL (F.f 32) (F.fd 32)
 zlU:Binds K (F.fd 32) ["self","deed","want"] []
 zlu:Meth K A.zaX "wait" (F.f 32)
 zjE:Fun K "answer" "Hall.answer" zdx (F.f 33) (F.fd 33)
 zju:Binds K (F.fd 33) ["self","deed","want"] []
 zjb:Meth K A.zaX "answer" (F.f 33)
 znH:Fun K "ask" "Hall.ask" zfN (F.f 34) (F.fd 34)
 ziJ:Binds K (F.fd 34) ["self","deed","want"] []
 zit:Meth K A.zaX "ask" (F.f 34)
 zl8:Fun K "__init__" "Want.__init__" zeK (F.f 35) (F.fd 35)
 zhK:Binds K (F.fd 35) ["self","use","key","value"] []
 zmb:Fun K "read" "Hall.read" zeN (F.f 36) (F.fd 36)
 zlW:Binds K (F.fd 36) ["self","deed","key"] []
 zlw:Meth K A.zaX "read" (F.f 36)
 zkX:Fun K "write" "Hall.write" zd0 (F.f 37) (F.fd 37)
 zkS:Binds K (F.fd 37) ["self","deed","key","value"] []
 zkp:Meth K A.zaX "write" (F.f 37)
 zmc:Fun K "keep" "Hall.keep" zeO (F.f 38) (F.fd 38)
 zlX:Binds K (F.fd 38) ["self","deed"] []
 zlx:Meth K A.zaX "keep" (F.f 38)
 zfC:Fun K "is_at_end" "Record.is_at_end" zb1 (F.f 39) (F.fd 39)
 zfB:Binds K (F.fd 39) ["self"] []
 zfo:Meth K A.zaB "is_at_end" (F.f 39)
 zic:Fun K "give_up" "Hall.give_up" zc7 (F.f 40) (F.fd 40)
 zia:Binds K (F.fd 40) ["self","deed"] []
 zh4:Meth K A.zaX "give_up" (F.f 40)
 zl6:Fun K "_law_call" "_law_call" zeI (F.f 41) (F.fd 41)
 zlS:Binds K (F.fd 41) ["_law_hall","_law_act_here"] []
 zlH:mg "_law_call" = some (.ref (F.f 41))
 zlB:PySem.W.keepIn K (.ref (F.f 41))=true
 zpq:Fun K "_law_do" "_law_do" zgX (F.f 42) (F.fd 42)
 zpn:Binds K (F.fd 42) ["_law_hall","_law_act_here"] []
 zoX:mg "_law_do" = some (.ref (F.f 42))
 zoK:PySem.W.keepIn K (.ref (F.f 42))=true
 znF:Fun K "log" "Hall.log" zfL (F.f 43) (F.fd 43)
 znA:Binds K (F.fd 43) ["self"] []
 znk:Meth K A.zaX "log" (F.f 43)
 zkW:Fun K "_law_count" "_law_count" zdZ (F.f 44) (F.fd 44)
 zkR:Binds K (F.fd 44) ["_law_hall"] []
 zkC:mg "_law_count" = some (.ref (F.f 44))
 zky:PySem.W.keepIn K (.ref (F.f 44))=true
 zge:Fun K "waited_for" "Desk.waited_for" zcc (F.f 45) (F.fd 45)
 zf9:Binds K (F.fd 45) ["self","deed","use"] []
 zfU:Meth K A.zb7 "waited_for" (F.f 45)
 zgC:Fun K "waits_for" "Hall.waits_for" zcu (F.f 46) (F.fd 46)
 zcD:Binds K (F.fd 46) ["self","deed"] []
 zcA:Meth K A.zaX "waits_for" (F.f 46)
 zhS:Fun K "state_of" "Hall.state_of" zcP (F.f 47) (F.fd 47)
 zei:Binds K (F.fd 47) ["self","deed"] []
 zd7:Meth K A.zaX "state_of" (F.f 47)
 zgd:Fun K "_law_comes_back" "_law_comes_back" zcb (F.f 48) (F.fd 48)
 zf8:Binds K (F.fd 48) ["_law_hall","_law_deed"] []
 zf3:mg "_law_comes_back" = some (.ref (F.f 48))
 zf0:PySem.W.keepIn K (.ref (F.f 48))=true
 zte:Fun K "law" "law" zn8 (F.f 49) (F.fd 49)
 b_law:Binds K (F.fd 49) ["_law_script"] []
 zs9:mg "law" = some (.ref (F.f 49))
 k_law:PySem.W.keepIn K (.ref (F.f 49))=true
 zro:∃ t,mg "BEGIN" = some (.str "begin" t)
 zjm:∃ t,mg "FIRST_VALUE" = some (.int 0 t)
 zf5:∃ t,mg "GIVEN_UP" = some (.str "given up" t)
 zoZ:∃ t,mg "GIVE_UP" = some (.str "give up" t)
 zlK:∃ t,mg "GOING" = some (.str "going" t)
 zss:∃ t,mg "KEEP" = some (.str "keep" t)
 zqB:∃ t,mg "KEPT" = some (.str "kept" t)
 zsr:∃ t,mg "READ" = some (.str "read" t)
 zoY:∃ t,mg "READING" = some (.str "reading" t)
 zkD:∃ t,mg "WAITING" = some (.str "waiting" t)
 zlJ:∃ t,mg "WRITE" = some (.str "write" t)
 zdo:∃ t,mg "WRITING" = some (.str "writing" t)
 zp5:mg "NoDeed" = some (.ref A.zhH)
 zpr:PySem.W.excIn K A.zhH [.type "ValueError",.type "Exception",.type "BaseException",.type "object"] "ValueError.__new__" = true
 zf4:mg "NotGoing" = some (.ref A.zcT)
 zif:PySem.W.excIn K A.zcT [.type "ValueError",.type "Exception",.type "BaseException",.type "object"] "ValueError.__new__" = true
 zmU:PySem.W.ktsIn K A.zcT "BaseException" = true
 zs2:mg "all" = none
 zsk:mg "bool" = none
 zow:mg "int" = none
 zgo:mg "isinstance" = none
 zi8:mg "len" = none
 zov:mg "list" = none
 zlq:mg "range" = none
 zrg:mg "set" = none
 zgK:mg "sorted" = none
 zlp:mg "tuple" = none
local macro_rules | `(tactic| trivial) => `(tactic| exact ⟨rfl, rfl, rfl, by decide +kernel, rfl, by decide +kernel, by decide +kernel⟩)
theorem zjW:zaq ["self"] ["self"] (zaj zeP):=by trivial
theorem zlc:zaq ["_law_cell_here","_law_prime","_law_many"] ["_law_cell_here","_law_prime","_law_many"] (zaj zfI):=by trivial
theorem zjS:zaq ["_law_script","_law_k"] ["_law_script","_law_k"] (zaj zeH):=by trivial
theorem zbn:zaq ["_law_script","_law_k","_law_letters","_law_seed","_law_tail"] ["_law_script","_law_k"] (zaj zfJ):=by trivial
theorem zcM:zaq ["_law_script","_law_cell_here","_law_begun","_law_deed","_law_key_here","_law_turn","_law_many"] ["_law_script","_law_cell_here","_law_begun"] (zaj zfK):=by trivial
theorem zbV:zaq ["_law_script","_law_found","_law_begun","_law_cell_here","_law_act_here"] ["_law_script"] (zaj zeJ):=by trivial
theorem zhX:zaq ["self"] ["self"] (zaj zdv):=by trivial
theorem zfc:zaq ["self","deed"] ["self"] (zaj zd1):=by trivial
theorem zlb:zaq ["thing"] ["thing"] (zaj zfH):=by trivial
theorem zfG:zaq ["self","deed"] ["self","deed"] (zaj zcv):=by trivial
theorem zcN:zaq ["self","deed"] ["self","deed"] (zaj za6):=by trivial
theorem zj0:zaq ["self"] ["self"] (zaj zeT):=by trivial
theorem zdh:zaq ["self","deed","use","others"] ["self","deed","use"] (zaj zcy):=by trivial
theorem zjZ:zaq ["self","deed","use"] ["self","deed","use"] (zaj zeS):=by trivial
theorem zew:zaq ["self","deed","use"] ["self","deed","use"] (zaj zbS):=by trivial
theorem zjY:zaq ["self","deed","use"] ["self","deed","use"] (zaj zeR):=by trivial
theorem zhV:zaq ["book","key"] ["book","key"] (zaj zdt):=by trivial
theorem zca:zaq ["self","deed","want","record","before"] ["self","deed","want"] (zaj zcx):=by trivial
theorem zgW:zaq ["self","deed","use"] ["self","deed","use"] (zaj zc9):=by trivial
theorem zb0:zaq ["self","deed","use","place"] ["self","deed","use"] (zaj zbv):=by trivial
theorem zdg:zaq ["self","deed","want"] ["self","deed"] (zaj zcw):=by trivial
theorem zbw:zaq ["self","deed","found","left","last","other"] ["self","deed"] (zaj zc8):=by trivial
theorem za5:zaq ["self","deed","found","rising"] ["self","deed"] (zaj zbg):=by trivial
theorem zfF:zaq ["self"] ["self"] (zaj zct):=by trivial
theorem zdX:zaq ["self","deed","key","value"] ["self","deed"] (zaj zeM):=by trivial
theorem zhW:zaq ["given"] ["given"] (zaj zdu):=by trivial
theorem zb8:zaq ["self","touched"] ["self"] (zaj zbx):=by trivial
theorem ziR:zaq ["self","deed"] ["self","deed"] (zaj zd2):=by trivial
theorem zfd:zaq ["self"] ["self"] (zaj zcd):=by trivial
theorem zc6:zaq ["self","key","desk","first"] ["self","key"] (zaj zdw):=by trivial
theorem zcO:zaq ["self","deed","state","record","touched","key"] ["self","deed","state"] (zaj zfM):=by trivial
theorem zjX:zaq ["self","deed"] ["self","deed"] (zaj zeQ):=by trivial
theorem zcZ:zaq ["self","deed","want","record","greatest"] ["self","deed","want"] (zaj zeL):=by trivial
theorem zez:zaq ["self","deed","want","record"] ["self","deed","want"] (zaj zdx):=by trivial
theorem zgV:zaq ["self","deed","want","desk"] ["self","deed","want"] (zaj zfN):=by trivial
theorem zjU:zaq ["self","use","key","value"] ["self","use","key","value"] (zaj zeK):=by trivial
theorem zjV:zaq ["self","deed","key"] ["self","deed","key"] (zaj zeN):=by trivial
theorem ziQ:zaq ["self","deed","key","value"] ["self","deed","key","value"] (zaj zd0):=by trivial
theorem zdY:zaq ["self","deed","key","value"] ["self","deed"] (zaj zeO):=by trivial
theorem zeG:zaq ["self"] ["self"] (zaj zb1):=by trivial
theorem zgU:zaq ["self","deed"] ["self","deed"] (zaj zc7):=by trivial
theorem zjT:zaq ["_law_hall","_law_act_here"] ["_law_hall","_law_act_here"] (zaj zeI):=by trivial
theorem zeo:zaq ["_law_hall","_law_act_here","_law_told"] ["_law_hall","_law_act_here"] (zaj zgX):=by trivial
theorem zld:zaq ["self"] ["self"] (zaj zfL):=by trivial
theorem ziP:zaq ["_law_hall"] ["_law_hall"] (zaj zdZ):=by trivial
theorem zbZ:zaq ["self","deed","use","place","ahead"] ["self","deed","use"] (zaj zcc):=by trivial
theorem zdf:zaq ["self","deed","want"] ["self","deed"] (zaj zcu):=by trivial
theorem zgu:zaq ["self","deed"] ["self","deed"] (zaj zcP):=by trivial
theorem za9:zaq ["_law_hall","_law_deed","_law_seen","_law_left","_law_one"] ["_law_hall","_law_deed"] (zaj zcb):=by trivial
theorem zjR:zaq ["_law_script","_law_hall","_law_act_here","_law_deed","_law_found"] ["_law_script"] (zaj zn8):=by trivial
end TP
end
section
namespace TP
open PySem L2 TH PyProof.Rows
theorem hmr {j k:Nat} {A:Around} (r:Room k A) (h:j<=k:=by decide):Room j A:=r.mono h
theorem sz1:1<=sizeLine:=by rw [sizeLine_eq]; decide
theorem sz2:2<=sizeLine:=by rw [sizeLine_eq]; decide
theorem sz3:3<=sizeLine:=by rw [sizeLine_eq]; decide
theorem sz4:4<=sizeLine:=by rw [sizeLine_eq]; decide
theorem sz5:5<=sizeLine:=by rw [sizeLine_eq]; decide
theorem sz6:6<=sizeLine:=by rw [sizeLine_eq]; decide
local macro_rules | `(tactic| walk_at "loc") => `(tactic| first | exact Or.inl rfl | exact Or.inr rfl)
local macro_rules | `(tactic| walk_at "blk") => `(tactic| (
 refine ⟨rfl,by decide +kernel,by decide +kernel,?_,by decide +kernel,rfl,?_⟩
 . (repeat' (first | exact List.forall_mem_nil _ | refine List.forall_mem_cons.mpr ⟨?_,?_⟩)) <;> (first | (intro h; exact absurd h (by decide)) | exact (λ _=>Or.inl rfl) | exact (λ _=>Or.inr rfl))
 . intro i j x h1 h2
   rcases i with _ | _ | _ | _ | i <;> (first | (simp at h2; done) | (cases h1; cases h2; exact ⟨rfl,rfl,by first | exact Or.inl rfl | exact Or.inr rfl⟩))))
section
variable {P:Program} {w:World} {K:PySem.W.Frag} {mg:Str->Option Value} {base:Heap} {A:Ad} {F:Fs}
theorem zll (T:Txt K mg A F):FnOk P w K mg base (CX1 P w) 1 (F.f 8) (F.fd 8) ["thing"] znW:=by
 refine T.znC.okN zlb (λ vs H Q E h=>?_) (λ cdv A' outer s H vs Q E hr h=>?_)
 . obtain ⟨i,rfl,_⟩:=h
   rfl
 . obtain ⟨i,rfl,k⟩:=h
   refine ⟨_,(zah (zaz (zok (zbi zhG (by rfl) T.zgo boot_isinstance (zaa (pv 0) (zaa (zsd rfl T.zow boot_int) zad))) (zj4 (zsc (zbi zhG (by rfl) T.zgo boot_isinstance (zaa (pv 0) (zaa (zsd rfl T.zsk boot_bool) zad)))))))),?_⟩
   refine ⟨_,rfl,_,_,_,_,rfl,.int i,rfl,_,rfl,?_⟩
   refine iteT ?_
   refine ⟨_,rfl,_,_,_,_,rfl,.int i,rfl,_,rfl,?_⟩
   exact k
theorem zhZ (T:Txt K mg A F):FnOk P w K mg base (CX1 P w) 1 (F.f 25) (F.fd 25) ["given"] (zgh K):=by
 refine T.zjB.okN zhW (λ vs H Q E h=>?_) (λ cdv A' outer s H vs Q E hr h=>?_)
 . obtain ⟨p,xs,rfl,_⟩:=h
   rfl
 . obtain ⟨p,xs,rfl,src,hl,h64,k⟩:=h
   refine ⟨_,(zah (zaz (zbj zdD (by rfl) T.zlp boot_tuple (zaa (zbi (zcS rfl) (by rfl) T.zgK boot_sorted (zaa (zbj (zmQ rfl) (by rfl) T.zrg boot_set (zaa (pv 0) zad)) zad)) zad)))),?_⟩
   refine ⟨_,rfl,p,_,rfl,src,znR xs,by rw [List.length_map]; exact hl,λ q hq=>?_⟩
   refine ⟨q,_,rfl,zab,S6.zhD _,zmX xs,by rw [(zpb xs).length_eq,List.length_map]; exact h64,λ ys l pm pw hl=>?_⟩
   refine ⟨l,_,rfl,.inl ⟨SqL.of zab,λ r hr=>?_⟩⟩
   have e:ys=(ordS xs).map Sum.inr:=zk6 (λ k=>by
    rw [pm.mem_iff,S6.zfn,List.mem_map]
    exact ⟨λ ⟨x,h,e⟩=>⟨x,h,e.symm⟩,λ ⟨x,h,e⟩=>⟨x,h,e.symm⟩⟩) pw
   subst e
   refine k _ r (((Same.zaw hq).upd2 hl).free hr) (((Same.zaw hq).upd2 hl).upd2 hr) ?_
   rw [zab,zqu]
theorem zhY (T:Txt K mg A F):FnOk P w K mg base (CX1 P w) 1 (F.f 16) (F.fd 16) ["book","key"] zjL:=by
 refine T.zjA.okN zhV (λ vs H Q E h=>?_) (λ cdv A' outer s H vs Q E hr h=>?_)
 . obtain ⟨p,k,l,b,rfl,_⟩:=h
   rfl
 . obtain ⟨p,k,l,b,rfl,hp,hb,q⟩:=h
   have hu:=zey hr
   refine ⟨_,(zah (zaz (zpK hu (pv 0) (pv 1) (zsZ rfl T.zjm) ⟨rfl,rfl,rfl,rfl⟩))),?_⟩
   refine ⟨_,rfl,p,rfl,.inl ⟨_,.of hp⟩,_,rfl,_,DGet.k (k:=Sum.inr k) hp,?_⟩
   rw [hb.val]
   cases e:b k with
   | none=>rw [e] at q; exact q
   | some v=>rw [e] at q; exact q
theorem zgl (T:Txt K mg A F):FnOk P w K mg base (CX1 P w) 1 (F.f 35) (F.fd 35) ["self","use","key","value"] (zm0 A):=by
 refine T.zl8.okN zjU (λ vs H Q E h=>?_) (λ cdv A' outer s H vs Q E hr h=>?_)
 . obtain ⟨p,dx,w,k,v,rfl,_⟩:=h
   rfl
 . obtain ⟨p,dx,w,k,v,rfl,hp,q⟩:=h
   refine ⟨_,(zac (zbM (pv 0) (pv 1) rfl)
    (zac (zbM (pv 0) (pv 2) rfl)
    (zah (zbM (pv 0) (pv 3) rfl)))),?_⟩
   refine ⟨_,rfl,_,rfl,p,_,dx,_,rfl,hp,T.zaW,T.zbh,Nat.le_of_ble_eq_true rfl,_,rfl,_,rfl,p,_,dx,_,rfl,zab,T.zaW,T.zaY,Nat.le_of_ble_eq_true rfl,_,rfl,_,rfl,p,_,dx,_,rfl,zab,T.zaW,T.zcI,Nat.le_of_ble_eq_true rfl,?_⟩
   refine q _ (by rw [zab]; rfl) λ b o e hb=>?_
   rw [zae hb,zae hb,zae hb]; exact e
theorem zh1 (T:Txt K mg A F):FnOk P w K mg base (CX1 P w) 1 (F.f 6) (F.fd 6) ["self"] (zjM A):=by
 refine T.zjC.okN zhX (λ vs H Q E h=>?_) (λ cdv A' outer s H vs Q E hr h=>?_)
 . obtain ⟨p,dx,rfl,_⟩:=h
   rfl
 . obtain ⟨p,dx,rfl,hp,q⟩:=h
   refine ⟨_,(zac (zbM (pv 0) (zcH rfl T.zlK) rfl)
     (zac (zbM (pv 0) (zc0 zad) rfl)
     (zah (zbM (pv 0) zgk rfl)))),?_⟩
   refine ⟨_,rfl,p,_,dx,_,rfl,hp,T.zat,T.zay,Nat.le_of_ble_eq_true rfl,Nat.le_of_ble_eq_true rfl,λ d hd=>⟨_,rfl,p,_,dx,_,rfl,zap zab hd,T.zat,T.zbo,Nat.le_of_ble_eq_true rfl,_,rfl,p,_,dx,_,rfl,zab,T.zat,T.zaV,Nat.le_of_ble_eq_true rfl,?_⟩⟩
   have hpd:p≠d:=zaf zab hd
   refine q _ d ?_ (by rw [zab]; rfl) ?_ λ b o e hb=>?_
   . rw [zae hpd.symm] at hd; exact hd
   . rw [zae hpd.symm,zae hpd.symm,zab]
   . have hbd:b≠d:=λ z=>by
      rw [zae hpd.symm] at hd
      rw [z,hd] at e; cases e
     rw [zae hb,zae hb,zae hbd,zae hb]; exact e
theorem zeZ (T:Txt K mg A F):FnOk P w K mg base (CX1 P w) 1 (F.f 39) (F.fd 39) ["self"] (znX A):=by
 refine T.zfC.okN zeG (λ vs H Q E h=>?_) (λ cdv A' outer s H vs Q E hr h=>?_)
 . obtain ⟨p,dx,d,st,w,rfl,_⟩:=h
   rfl
 . obtain ⟨p,dx,d,st,w,rfl,hp,q⟩:=h
   refine ⟨_,(zah (zaz (zsb (zcz zco (zam (pv 0) rfl) (zcH rfl T.zqB) (zaJ _)) (zj4 (zcz zco (zam (pv 0) rfl) (zcH rfl T.zf5) (zaJ _)))))),?_⟩
   refine ⟨_,rfl,p,_,dx,_,_,rfl,hp,T.zat,T.zay,rfl,rfl,_,rfl,?_⟩
   cases st with
   | kept=>exact q
   | dropped=>exact ⟨_,rfl,p,_,dx,_,_,rfl,hp,T.zat,T.zay,rfl,rfl,q⟩
   | zar=>exact ⟨_,rfl,p,_,dx,_,_,rfl,hp,T.zat,T.zay,rfl,rfl,q⟩
   | waiting=>exact ⟨_,rfl,p,_,dx,_,_,rfl,hp,T.zat,T.zay,rfl,rfl,q⟩
theorem zdi (T:Txt K mg A F):FnOk P w K mg base (CX1 P w) 1 (F.f 23) (F.fd 23) ["self"] (znT A):=by
 refine T.zgB.okN zfF (λ vs H Q E h=>?_) (λ cdv A' outer s H vs Q E hr h=>?_)
 . obtain ⟨p,st,d,w,done,rfl,_⟩:=h
   rfl
 . obtain ⟨p,st,d,w,done,rfl,⟨⟨dx,hp⟩,us,hd,tu⟩,hl,q⟩:=h
   refine ⟨_,(zah (zaz (zeW 3 [] ["act","key","value"] rfl (by walk_at "blk") (zda (zam (pv 0) rfl)) (λ C fp s H=>(zof (K:=K) (n:=3) rfl rfl (zck (za0 (i:=0) (show (["act","key","value"]:List Str).Nodup by decide +kernel) rfl (by walk_at "loc")) (zck (za0 (i:=1) (show (["act","key","value"]:List Str).Nodup by decide +kernel) rfl (by walk_at "loc")) (zck (za0 (i:=2) (show (["act","key","value"]:List Str).Nodup by decide +kernel) rfl (by walk_at "loc")) ziX))))) (λ C fp s H=>zg1 (zaF zco (pv 0) (zcH rfl T.zlJ) (zaJ _))) (λ C fp s H=>(zby (zaa (pv 1) (zaa (pv 2) zad))))))),?_⟩
   refine ⟨_,rfl,p,_,dx,_,_,rfl,hp,T.zat,T.zbo,rfl,d,rfl,⟨_,SqL.of hd⟩,?_⟩
   have hul:us.length=done.length:=by rw [tu.length,List.length_map]
   have hz:us.length<=sizeLine:=by rw [hul,sizeLine_eq]; omega
   refine zef (xs:=us) (λ i ys σ H2=>∃ v0 v1 v2,σ=[v0,v1,v2]/\Same H H2/\ys.length<=i/\zau H2 ys ((zas (done.take i)).map zig)) ⟨none,none,none,rfl,Same.refl H,Nat.le_refl _,.nil⟩ (λ i ys σ H2 ⟨_,_,_,_,s2,hy,_⟩=>⟨SqL.of (s2 _ _ hd),hy⟩) hz ?_ ?_
   . rintro i x ys σ H2 hlt hx ⟨v0,v1,v2,rfl,s2,hy,t⟩
     obtain ⟨y,hy1,r,rfl,hr1⟩:=zcY tu hx
     rw [List.getElem?_map] at hy1
     obtain ⟨a,ha,rfl⟩:=Option.map_eq_some_iff.mp hy1
     have e1:done.take (i+1)=done.take i++[a]:=by rw [List.take_add_one,ha]; rfl
     refine ⟨r,_,rfl,SqT.of (s2 _ _ hr1),rfl,_,_,rfl,_,_,rfl,_,_,rfl,rfl,_,rfl,rfl,_,rfl,?_⟩
     cases hw:a.wr with
     | true =>
      refine ⟨_,rfl,_,rfl,sz2,λ n hn=>nx hlt ⟨_,_,_,rfl,s2.upd2 hn,by rw [List.length_append,List.length_singleton]; omega,?_⟩⟩
      rw [e1,zcF,hw,List.map_append]
      exact S6.zcn (zbK (Same.zaw hn) t) ⟨n,rfl,zab⟩
     | false =>
      refine nx hlt ⟨_,_,_,rfl,s2,by omega,?_⟩
      rw [e1,zcF,hw]
      simp only [Bool.false_eq_true,if_false,List.append_nil]
      exact t
   . rintro ys σ H2 ⟨v0,v1,v2,rfl,s2,hy,t⟩
     rw [hul,List.take_length] at t
     intro n hn
     exact q _ n ys (s2.upd2 hn) zab (zbK (Same.zaw hn) t)
theorem zdO (T:Txt K mg A F):FnOk P w K mg base (CX1 P w) 2 (F.f 26) (F.fd 26) ["self"] (znU A):=by
 have G_rising_keys:=@zhZ P w K mg base A F T
 refine T.zek.okN zb8 (λ vs H Q E h=>?_) (λ cdv A' outer s H vs Q E hr h=>?_)
 . obtain ⟨p,st,d,w,done,o,rfl,_⟩:=h
   rfl
 . obtain ⟨p,st,d,w,done,o,rfl,⟨⟨dx,hp⟩,us,hd,tu⟩,hw,hl,h64,q⟩:=h
   refine ⟨_,(zac (zfQ (i:=1) 3 [] ["act","key","value"] zb8.nd rfl (by walk_at "loc") rfl (by walk_at "blk") (zda (zam (pv 0) rfl)) (λ C fp s H=>(zof (K:=K) (n:=3) rfl rfl (zck (za0 (i:=0) (show (["act","key","value"]:List Str).Nodup by decide +kernel) rfl (by walk_at "loc")) (zck (za0 (i:=1) (show (["act","key","value"]:List Str).Nodup by decide +kernel) rfl (by walk_at "loc")) (zck (za0 (i:=2) (show (["act","key","value"]:List Str).Nodup by decide +kernel) rfl (by walk_at "loc")) ziX))))) (λ C fp s H=>zg2) (λ C fp s H=>(pv 1)))
     (zac (zbD (zff (zol (zam (pv 0) rfl))) (zah (zaH (zdz PySem.F.plainAttrs_list PySem.F.slot_list_append PySem.F.type_list_append zbk (pv 1) (zaa (zam (zam (pv 0) rfl) rfl) zad)))) zaO)
     (zah (zaz (zaR G_rising_keys (hmr hr) rfl T.zjl T.zjg T.zjr .nil zaD (zaa (pv 1) zad)))))),?_⟩
   have hul:us.length=done.length:=by rw [tu.length,List.length_map]
   refine ⟨_,rfl,p,_,dx,_,_,rfl,hp,T.zat,T.zbo,rfl,d,rfl,⟨_,SqL.of hd⟩,?_⟩
   refine zef (xs:=us) (λ i ys σ H2=>∃ v0 v1 v2,σ=[v0,v1,v2]/\H2=H/\ys=(done.take i).map λ a=>V.str a.key) ⟨none,none,none,rfl,rfl,rfl⟩ (λ i ys σ H2 ⟨_,_,_,_,e,hy⟩=>⟨SqL.of (by rw [e]; exact hd),by rw [hy,List.length_map,List.length_take]; omega⟩) (by rw [hul,sizeLine_eq]; omega) ?_ ?_
   . rintro i x ys σ H2 hlt hx ⟨v0,v1,v2,rfl,rfl,rfl⟩
     obtain ⟨y,hy1,r,rfl,hr1⟩:=zcY tu hx
     rw [List.getElem?_map] at hy1
     obtain ⟨a,ha,rfl⟩:=Option.map_eq_some_iff.mp hy1
     have e1:done.take (i+1)=done.take i++[a]:=by rw [List.take_add_one,ha]; rfl
     refine ⟨r,_,rfl,SqT.of hr1,rfl,_,_,rfl,_,_,rfl,_,_,rfl,rfl,_,rfl,nx hlt ⟨_,_,_,rfl,rfl,?_⟩⟩
     rw [e1,List.map_append]; rfl
   . rintro ys σ H2 ⟨v0,v1,v2,rfl,rfl,rfl⟩
     rw [hul,List.take_length]
     intro n hn
     have hpn:upd H2 n (.lst (done.map λ a=>V.str a.key)) p=some (.ins A.zaB dx (recF st d w)):=zap hp hn
     refine ⟨_,rfl,p,_,dx,_,_,rfl,hpn,T.zat,T.zaV,rfl,_,rfl,?_⟩
     have fin:∀ (H3:Hp) (xs:List Str),Same H2 H3->H3 n=some (.lst (xs.map V.str))->xs=done.map (·.key)++zcX o->zgh K [V.ref n] H3 Q EF:=λ H3 xs s3 e3 ex=>by
      subst ex
      refine ⟨n,done.map (·.key)++zcX o,rfl,.inl (SqL.of (by rw [zqu]; exact e3)),?_,h64,λ H' q' nq m e=>q H' q' (s3.free nq) (s3.trans m) e⟩
      rw [List.length_append,List.length_map]
      cases o <;> simp only [zcX,List.length_nil,List.length_singleton] <;> omega
     cases o with
     | none =>
      have hw':w=.non:=hw
      subst hw'
      exact ⟨_,rfl,fin _ (done.map (·.key)) (Same.zaw hn) (by rw [zab,List.map_map]; rfl) (by simp [zcX])⟩
     | some a =>
      obtain ⟨pw,dw,rfl,hpw⟩:=hw
      have hpw':=zap (o:=HO.lst (done.map λ a=>V.str a.key)) hpw hn
      refine ⟨_,rfl,.inl ⟨rfl,_,SqL.of zab⟩,_,rfl,p,_,dx,_,_,rfl,hpn,T.zat,T.zaV,rfl,pw,_,dw,_,_,rfl,hpw',T.zaW,T.zaY,rfl,n,_,_,rfl,rfl,zab,by rw [List.length_map,sizeLine_eq]; omega,_,rfl,?_⟩
      refine fin _ (done.map (·.key)++[a.key]) ?_ ?_ rfl
      . rw [ziL]; exact Same.zaw hn
      . rw [zab,List.map_append,List.map_map]; rfl
theorem zkj (T:Txt K mg A F):FnOk P w K mg base (CX1 P w) 1 (F.f 11) (F.fd 11) ["self"] (zm5 A):=by
 refine T.zmh.okN zj0 (λ vs H Q E h=>?_) (λ cdv A' outer s H vs Q E hr h=>?_)
 . obtain ⟨p,dx,rfl,_⟩:=h
   rfl
 . obtain ⟨p,dx,rfl,hp,q⟩:=h
   refine ⟨_,(zac (zbM (pv 0) zfi rfl)
     (zah (zbM (pv 0) (zc0 zad) rfl))),?_⟩
   intro hd nh
   have hph:p≠hd:=zaf hp nh
   refine ⟨_,rfl,p,_,dx,_,rfl,zap hp nh,T.zaG,T.zbl,Nat.le_of_ble_eq_true rfl,Nat.le_of_ble_eq_true rfl,λ rw nr=>?_⟩
   have hpr:p≠rw:=zaf zab nr
   have nr1:upd H hd (.dK []) rw=none:=by rw [zae hpr.symm] at nr; exact nr
   have hhr:hd≠rw:=zaf zab nr1
   have nr2:H rw=none:=by rw [zae hhr.symm] at nr1; exact nr1
   refine ⟨_,rfl,p,_,dx,_,rfl,zap zab nr,T.zaG,T.zaP,Nat.le_of_ble_eq_true rfl,?_⟩
   refine q _ hd rw nh nr2 (by rw [zab]; rfl) ?_ ?_ λ b o e hb=>?_
   . rw [zae hph.symm,zae hhr,zae hph.symm,zab]
   . rw [zae hpr.symm,zab]
   . rw [zae hb,zae (zaf e nr2),zae hb,zae (zaf e nh)]; exact e
theorem zcf (T:Txt K mg A F):FnOk P w K mg base (CX1 P w) 1 (F.f 12) (F.fd 12) ["self","deed","use"] (zk4 A):=by
 refine T.zgG.okN zdh (λ vs H Q E h=>?_) (λ cdv A' outer s H vs Q E hr h=>?_)
 . obtain ⟨p,hd,rw,h,r,d,w,rfl,_⟩:=h
   rfl
 . obtain ⟨p,hd,rw,h,r,d,w,rfl,⟨⟨dx,hp⟩,hh,_⟩,hl,hnd,q⟩:=h
   have hu:=zey hr
   refine ⟨_,(zac (zq5 (zfQ (i:=3) 1 [1] ["other","deed"] zdh.nd rfl (by walk_at "loc") rfl (by walk_at "blk") (zq7 (zam (pv 0) rfl)) (λ C fp s H=>(za0 (i:=0) (show (["other","deed"]:List Str).Nodup by decide +kernel) rfl (by walk_at "loc"))) (λ C fp s H=>zg1 (zaF zop (pv 0) (pv 1) (zaJ _))) (λ C fp s H=>(pv 0))))
     (zac (zbD (zaF zco (pv 2) (zcH rfl T.zdo) (zaJ _)) (zah (zaz (pv 3))) zaO)
     (zah (zaz (zeW 1 [0] ["other","self"] rfl (by walk_at "blk") (zda (pv 3)) (λ C fp s H=>(za0 (i:=0) (show (["other","self"]:List Str).Nodup by decide +kernel) rfl (by walk_at "loc"))) (λ C fp s H=>zg1 (zaF zco (zd4 hu (zq9 (K:=K) rfl (pv 1) rfl) (pv 0) (λ _ _=>rfl)) (zcH rfl T.zdo) (zaJ _))) (λ C fp s H=>(pv 0))))))),?_⟩
   have hz:(zb4 h).length<=sizeLine:=by rw [zhw,sizeLine_eq]; omega
   refine ⟨_,rfl,p,_,dx,_,_,rfl,hp,T.zaG,T.zbl,rfl,hd,_,rfl,hh,λ o=>?_⟩
   refine zph (λ i ys σ H2=>∃ v0,σ=[v0,some (V.int d)]/\H2=upd H hd (.frz o (.dK (zb4 h)))/\ys=zal (((h.take i).filter λ p=>p.1 != d).map (·.1))) ⟨none,rfl,rfl,rfl⟩ (λ i ys σ H2 ⟨_,_,e,hy⟩=>⟨by rw [e,zab],?_⟩) hz ?_ ?_
   . rw [hy]; unfold zal; rw [List.length_map,List.length_map]
     exact Nat.le_trans (List.length_filter_le _ _) (by rw [List.length_take]; omega)
   . rintro i k v ys σ H2 hlt hk ⟨v0,rfl,rfl,rfl⟩
     unfold zb4 at hk
     rw [List.getElem?_map] at hk
     obtain ⟨⟨e,we⟩,he,hke⟩:=Option.map_eq_some_iff.mp hk
     cases hke
     have e1:h.take (i+1)=h.take i++[(e,we)]:=by rw [List.take_add_one,he]; rfl
     refine ⟨_,rfl,_,rfl,rfl,_,rfl,?_⟩
     refine zeb (e != d) (zqs e d) ?_
     by_cases hed:e=d
     . refine zaZ (by simp [hed]) (nx hlt ⟨_,rfl,rfl,?_⟩)
       rw [e1,List.filter_append]; simp [hed]
     . refine zbB (by simp [hed]) ⟨_,rfl,nx hlt ⟨_,rfl,rfl,?_⟩⟩
       rw [e1,List.filter_append]
       unfold zal
       simp [hed]
       rfl
   . rintro ys σ H2 ⟨v0,rfl,rfl,rfl⟩
     rw [zhw,List.take_length]
     intro n hn
     have hnh:H n=none:=by
       by_cases z:n=hd
       . rw [z,zab] at hn; cases hn
       . rw [zae z] at hn; exact hn
     refine ⟨hd,o,zb4 h,hh,zap zab hn,?_⟩
     rw [zqI hh hnh]
     have hpn:=zap (o:=HO.lst (zal ((h.filter λ p=>p.1 != d).map (·.1)))) hp hnh
     have hhn:=zap (o:=HO.lst (zal ((h.filter λ p=>p.1 != d).map (·.1)))) hh hnh
     refine ⟨_,rfl,rfl,_,rfl,?_⟩
     rw [zgN]
     cases w with
     | true =>
       refine ⟨_,rfl,q _ n hnh (Same.zaw hnh) ?_⟩
       rw [zab]; unfold hind; simp
     | false =>
       have hlen:(zal ((h.filter λ p=>p.1 != d).map (·.1))).length<=1000:=by
         unfold zal; rw [List.length_map,List.length_map]
         exact Nat.le_trans (List.length_filter_le _ _) hl
       refine ⟨_,rfl,n,rfl,⟨_,SqL.of zab⟩,?_⟩
       refine zef (xs:=zal ((h.filter λ p=>p.1 != d).map (·.1))) (λ i ys σ H2=>∃ v0,σ=[v0,some (V.ref p)]/\H2=upd H n (.lst (zal ((h.filter λ p=>p.1 != d).map (·.1))))/\ys=zal ((((h.filter λ p=>p.1 != d).take i).filter λ p=>p.2).map (·.1))) ⟨none,rfl,rfl,rfl⟩ (λ i ys σ H2 ⟨_,_,e,hy⟩=>⟨SqL.of (by rw [e,zab]),?_⟩) (by rw [sizeLine_eq]; omega) ?_ ?_
       . rw [hy]; unfold zal; rw [List.length_map,List.length_map]
         exact Nat.le_trans (List.length_filter_le _ _) (by rw [List.length_take]; omega)
       . rintro i x ys σ H2 hlt hx ⟨v0,rfl,rfl,rfl⟩
         unfold zal at hx
         rw [List.getElem?_map,List.getElem?_map] at hx
         obtain ⟨e,he,rfl⟩:=Option.map_eq_some_iff.mp hx
         obtain ⟨⟨e',we⟩,he',rfl⟩:=Option.map_eq_some_iff.mp he
         have e1:(h.filter λ p=>p.1 != d).take (i+1)=(h.filter λ p=>p.1 != d).take i++[(e',we)]:=by rw [List.take_add_one,he']; rfl
         have hm:(e',we)∈h:=(List.mem_filter.mp (List.mem_of_getElem? he')).1
         have dg:DGet (upd H n (.lst (zal ((h.filter λ p=>p.1 != d).map (·.1))))) hd (V.int (e':Int)) (some (V.str (useS we))):=by
          have:=DGet.k (k:=Sum.inl (e':Int)) hhn
          rw [zfs,zdb hnd hm] at this
          exact this
         refine ⟨_,rfl,p,_,dx,_,_,rfl,hpn,T.zaG,T.zbl,rfl,_,rfl,hd,_,rfl,dg,rfl,_,rfl,?_⟩
         refine zeb we (zgN we) ?_
         cases we with
         | true =>
          refine ⟨_,rfl,nx hlt ⟨_,rfl,rfl,?_⟩⟩
          rw [e1,List.filter_append]
          unfold zal
          simp
         | false =>
          refine nx hlt ⟨_,rfl,rfl,?_⟩
          rw [e1,List.filter_append]; simp
       . rintro ys σ H2 ⟨v0,rfl,rfl,rfl⟩
         have e2:(zal ((h.filter λ p=>p.1 != d).map (·.1))).length=(h.filter λ p=>p.1 != d).length:=by unfold zal; rw [List.length_map,List.length_map]
         rw [e2,List.take_length]
         intro m hm
         refine q _ m ((Same.zaw hnh).free hm) ((Same.zaw hnh).upd2 hm) ?_
         rw [zab,List.filter_filter]
         unfold hind
         congr 4
         exact List.filter_congr λ p _=>by simp [Bool.and_comm]
theorem zgn (T:Txt K mg A F):FnOk P w K mg base (CX1 P w) 2 (F.f 13) (F.fd 13) ["self","deed","use"] (zmm A):=by
 have G_Desk_hindering:=@zcf P w K mg base A F T
 refine T.zmg.okN zjZ (λ vs H Q E h=>?_) (λ cdv A' outer s H vs Q E hr h=>?_)
 . obtain ⟨p,hd,rw,h,r,d,w,rfl,_⟩:=h
   rfl
 . obtain ⟨p,hd,rw,h,r,d,w,rfl,D,hl,hnd,q⟩:=h
   obtain ⟨dx,hp⟩:=D.ob
   refine ⟨_,(zah (zaz (zcz zco (zbi zbe (by rfl) T.zi8 PySem.boot_len (zaa (zax (pv 0) T.zaG T.zcB G_Desk_hindering (hmr hr) T.zcE .nil zaD (zaa (pv 1) (zaa (pv 2) zad))) zad)) zan (zaJ _)))),?_⟩
   refine ⟨_,rfl,p,dx,_,rfl,hp,rfl,_,rfl,_,rfl,p,hd,rw,h,r,d,w,rfl,D,hl,hnd,λ H' n _ m e=>⟨n,_,rfl,.inl (SqL.of e),rfl,?_⟩⟩
   have:=q H' m
   rw [<-zoR] at this
   unfold zal
   rw [List.length_map]
   have e3:decide (V.int ((hind h d w).length:Int)=V.int 0)=decide ((hind h d w).length=0):=by
    have:=zo7 (hind h d w).length 0
    rw [show ((0:Nat):Int)=0 from rfl] at this
    rw [this]; rfl
   rw [e3]; exact this
theorem zex (T:Txt K mg A F):FnOk P w K mg base (CX1 P w) 3 (F.f 14) (F.fd 14) ["self","deed","use"] (zjO A):=by
 have G_Desk_lets:=@zgn P w K mg base A F T
 refine T.ze6.okN zew (λ vs H Q E h=>?_) (λ cdv A' outer s H vs Q E hr h=>?_)
 . obtain ⟨p,hd,rw,h,r,d,w,rfl,_⟩:=h
   rfl
 . obtain ⟨p,hd,rw,h,r,d,w,rfl,D,hl,hnd,q⟩:=h
   have hu:=zey hr
   obtain ⟨dx,hp⟩:=D.ob
   obtain ⟨us,hrw,tu⟩:=D.rw
   have hul:us.length=r.length:=by rw [tu.length,List.length_map]
   refine ⟨_,(zah (zaz (zok (zsb (zse (zom hu (pv 1) (zam (pv 0) rfl))) (zj4 (zcz zco (zbi zbe (by rfl) T.zi8 PySem.boot_len (zaa (zam (pv 0) rfl) zad)) zan (zaJ _)))) (zj4 (zax (pv 0) T.zaG T.zhl G_Desk_lets (hmr hr) T.zhM .nil zaD (zaa (pv 1) (zaa (pv 2) zad))))))),?_⟩
   have dg:=DGet.k (k:=Sum.inl (d:Int)) D.hd
   rw [zfs] at dg
   refine ⟨_,rfl,_,rfl,p,_,dx,_,_,rfl,hp,T.zaG,T.zbl,rfl,hd,_,rfl,dg,_,rfl,?_⟩
   have call:∀ b:Bool,b=(has h d || r.isEmpty)->(if b=true then zmm A [V.ref p,.int d,.str (useS w)] H Q EF else Q (.bl false) H):=λ b hb=>by
    cases b with
    | true =>
     refine iteT ⟨p,hd,rw,h,r,d,w,rfl,D,hl,hnd,λ H' m=>?_⟩
     have:=q H' m
     rw [<-hb] at this
     exact this
    | false =>
     refine iteF ?_
     have:=q H (Same.refl H)
     rw [<-hb] at this
     exact this
   have e0:((look h d).map λ w=>V.str (useS w)).isSome=has h d:=by
    rw [Option.isSome_map,zks]
   rw [e0]
   cases hh:has h d with
   | true =>
    refine iteT ⟨true,rfl,?_⟩
    have t:zmm A [V.ref p,.int d,.str (useS w)] H Q EF:=by simpa using call true (by rw [hh]; rfl)
    exact iteT ⟨_,rfl,p,dx,_,rfl,hp,rfl,_,rfl,_,rfl,t⟩
   | false =>
    refine iteF ⟨_,rfl,p,_,dx,_,_,rfl,hp,T.zaG,T.zaP,rfl,rw,_,rfl,.inl (SqL.of hrw),rfl,_,rfl,?_⟩
    have e1:decide (V.int (us.length:Int)=V.int 0)=r.isEmpty:=by
     have:=zo7 us.length 0
     rw [show ((0:Nat):Int)=0 from rfl] at this
     rw [this,hul]
     cases r <;> rfl
    rw [e1]
    have:=call r.isEmpty (by rw [hh]; rfl)
    cases hr0:r.isEmpty with
    | true =>
     rw [hr0] at this
     have t:zmm A [V.ref p,.int d,.str (useS w)] H Q EF:=by simpa using this
     exact iteT ⟨_,rfl,p,dx,_,rfl,hp,rfl,_,rfl,_,rfl,t⟩
    | false =>
     rw [hr0] at this
     exact iteF (by simpa using this)
theorem zfl (T:Txt K mg A F):FnOk P w K mg base (CX1 P w) 3 (F.f 28) (F.fd 28) ["self"] (zk3 A):=by
 have G_Desk_lets:=@zgn P w K mg base A F T
 refine T.zgf.okN zfd (λ vs H Q E h=>?_) (λ cdv A' outer s H vs Q E hr h=>?_)
 . obtain ⟨p,hd,rw,h,r,rfl,_⟩:=h
   rfl
 . obtain ⟨p,hd,rw,h,r,rfl,D,hl,hnd,q⟩:=h
   obtain ⟨dx,hp⟩:=D.ob
   obtain ⟨us,hrw,tu⟩:=D.rw
   have hul:us.length=r.length:=by rw [tu.length,List.length_map]
   refine ⟨_,(zah (zaz (zok (zcz zpP (zbi zbe (by rfl) T.zi8 PySem.boot_len (zaa (zam (pv 0) rfl) zad)) zan (zaJ _)) (zj4 (zax (pv 0) T.zaG T.zhl G_Desk_lets (hmr hr) T.zhM .nil zaD (zaa (zba zb3 (zba zbr (zam (pv 0) rfl) zan (λ _ _=>rfl)) zan (λ _ _=>rfl)) (zaa (zba zb3 (zba zbr (zam (pv 0) rfl) zan (λ _ _=>rfl)) zan (λ _ _=>rfl)) zad))))))),?_⟩
   refine ⟨_,rfl,p,_,dx,_,_,rfl,hp,T.zaG,T.zaP,rfl,rw,_,rfl,.inl (SqL.of hrw),_,_,rfl,rfl,_,rfl,?_⟩
   cases r with
   | nil =>
    have:us=[]:=List.length_eq_zero_iff.mp hul
    subst this
    exact q H (Same.refl H)
   | cons x t =>
    obtain ⟨d,w⟩:=x
    obtain ⟨v,hv,pv',rfl,hpv⟩:=zdU tu (i:=0) (y:=zbY (d,w)) rfl
    have hix:atI us 0=some (V.ref pv'):=zbs (j:=0) hv
    refine zbB (by rw [hul]; simp) ?_
    refine ⟨_,rfl,p,dx,_,rfl,hp,rfl,_,rfl,p,_,dx,_,_,rfl,hp,T.zaG,T.zaP,rfl,rw,_,_,_,rfl,rfl,SqL.of hrw,hix,pv',_,_,_,rfl,rfl,SqT.of hpv,rfl,
     _,rfl,p,_,dx,_,_,rfl,hp,T.zaG,T.zaP,rfl,rw,_,_,_,rfl,rfl,SqL.of hrw,hix,pv',_,_,_,rfl,rfl,SqT.of hpv,rfl,p,hd,rw,h,_,d,w,rfl,D,hl,hnd,q⟩
theorem zki (T:Txt K mg A F):FnOk P w K mg base (CX1 P w) 1 (F.f 15) (F.fd 15) ["self","deed","use"] (zrT A):=by
 refine T.zmf.okN zjY (λ vs H Q E h=>?_) (λ cdv A' outer s H vs Q E hr h=>?_)
 . obtain ⟨p,hd,rw,h,r,d,w,rfl,_⟩:=h
   rfl
 . obtain ⟨p,hd,rw,h,r,d,w,rfl,D,hl,hnd,q⟩:=h
   have hu:=zey hr
   obtain ⟨dx,hp⟩:=D.ob
   refine ⟨_,(zah (zbD (zaF zop (zpL hu (zam (pv 0) rfl) (pv 1) ⟨rfl,rfl,rfl,rfl⟩) (zcH rfl T.zdo) (zaJ _)) (zah (zg3 hu (zam (pv 0) rfl) (pv 1) (pv 2) rfl)) zaO)),?_⟩
   have dg:=DGet.k (k:=Sum.inl (d:Int)) D.hd
   rw [zfs] at dg
   refine ⟨_,rfl,p,_,dx,_,_,rfl,hp,T.zaG,T.zbl,rfl,hd,rfl,.inl ⟨_,.of D.hd⟩,_,rfl,_,dg,?_⟩
   have put:take1 h d w=zbf h d w->tSeq (zr5 (tFld K (tVar 0) "held") (tVar 1) (tVar 2)) zqN { nx:=λ _ H'=>Q .non H',rt:=Q } [some (V.ref p),some (V.int d),some (V.str (useS w))] H:=λ e=>by
    refine ⟨_,rfl,_,rfl,p,_,dx,_,_,rfl,hp,T.zaG,T.zbl,rfl,_,rfl,hd,_,rfl,DPut.k (k:=Sum.inl (d:Int)) D.hd (by rw [zhw,sizeLine_eq]; omega),?_⟩
    refine q _ ?_ λ b o e hb=>by rw [zae hb]; exact e
    rw [zab,zp0,e]
   cases hk:look h d with
   | none =>
    refine ⟨rfl,_,rfl,?_⟩
    exact put (by unfold take1; rw [hk]; simp)
   | some wh =>
    refine ⟨rfl,_,rfl,?_⟩
    cases wh with
    | true =>
     refine q H ?_ λ b o e _=>e
     unfold take1; rw [hk,if_pos rfl]; exact D.hd
    | false=>exact put (by unfold take1; rw [hk]; simp)
theorem zhg (T:Txt K mg A F):FnOk P w K mg base (CX1 P w) 1 (F.f 18) (F.fd 18) ["self","deed","use"] (zpx A):=by
 refine T.zie.okN zgW (λ vs H Q E h=>?_) (λ cdv A' outer s H vs Q E hr h=>?_)
 . obtain ⟨p,hd,rw,h,r,d,w,rfl,_⟩:=h
   rfl
 . obtain ⟨p,hd,rw,h,r,d,w,rfl,D,hl,q⟩:=h
   have hu:=zey hr
   obtain ⟨dx,hp⟩:=D.ob
   obtain ⟨us,hrw,tu⟩:=D.rw
   have hul:us.length=r.length:=by rw [tu.length,List.length_map]
   refine ⟨_,(zah (zbD (zff (zom hu (pv 1) (zam (pv 0) rfl))) (zah (zaH (zdz PySem.F.plainAttrs_list PySem.F.slot_list_insert PySem.F.type_list_insert zoz (zam (pv 0) rfl) (zaa zan (zaa (zby (zaa (pv 1) (zaa (pv 2) zad))) zad))))) (zah (zaH (zdz PySem.F.plainAttrs_list PySem.F.slot_list_append PySem.F.type_list_append zbk (zam (pv 0) rfl) (zaa (zby (zaa (pv 1) (zaa (pv 2) zad))) zad)))))),?_⟩
   have dg:=DGet.k (k:=Sum.inl (d:Int)) D.hd
   rw [zfs] at dg
   refine ⟨_,rfl,_,rfl,p,_,dx,_,_,rfl,hp,T.zaG,T.zbl,rfl,hd,_,rfl,dg,_,rfl,?_⟩
   rw [Option.isSome_map,zks]
   have z2:([V.int (d:Int),V.str (useS w)]:List V).length<=sizeLine:=sz2
   have fin:∀ (n:Addr) (us':List V),H n=none->zau (upd H n (.tup (zbY (d,w)))) us' ((zpU h r d w).map zbY)->Q .non (upd (upd H n (.tup (zbY (d,w)))) rw (.lst us')):=λ n us' hn t=>by
    have hrn:=zap (o:=HO.tup (zbY (d,w))) hrw hn
    refine q _ us' zab ?_ λ b o e hb=>?_
    . have:∀ {vs:List V} {xss:List (List V)},zau (upd H n (.tup (zbY (d,w)))) vs xss->zau (upd (upd H n (.tup (zbY (d,w)))) rw (.lst us')) vs xss:=λ t=>by
       induction t with
       | nil=>exact .nil
       | cons r0 _ ih =>
        obtain ⟨p0,e0,q0⟩:=r0
        exact .cons ⟨p0,e0,by rw [zae (zbA q0 hrn (λ z=>nomatch z))]; exact q0⟩ ih
      exact this t
    . rw [zae hb,zae (zaf e hn)]; exact e
   have tn:∀ n,H n=none->zau (upd H n (.tup (zbY (d,w)))) us (r.map zbY):=λ n hn=>zbK (Same.zaw hn) tu
   cases hh:has h d with
   | true =>
    refine iteT ⟨_,rfl,p,_,dx,_,_,rfl,hp,T.zaG,T.zaP,rfl,.inl ⟨rfl,_,SqL.of hrw⟩,_,rfl,_,rfl,z2,λ n hn=>⟨rw,us,_,rfl,rfl,zap hrw hn,by rw [hul,sizeLine_eq]; omega,?_⟩⟩
    refine fin n _ hn ?_
    unfold zpU; rw [hh]
    exact .cons ⟨n,rfl,zab⟩ (tn n hn)
   | false =>
    refine iteF ⟨_,rfl,p,_,dx,_,_,rfl,hp,T.zaG,T.zaP,rfl,.inl ⟨rfl,_,SqL.of hrw⟩,_,rfl,_,rfl,z2,λ n hn=>⟨rw,us,_,rfl,rfl,zap hrw hn,by rw [hul,sizeLine_eq]; omega,?_⟩⟩
    refine fin n _ hn ?_
    unfold zpU; rw [hh]
    simp only [Bool.false_eq_true,if_false,List.map_append]
    exact S6.zcn (tn n hn) ⟨n,rfl,zab⟩
theorem zi5 (T:Txt K mg A F):FnOk P w K mg base (CX1 P w) 1 (F.f 27) (F.fd 27) ["self","deed"] (zqV A):=by
 refine T.zkZ.okN ziR (λ vs H Q E h=>?_) (λ cdv A' outer s H vs Q E hr h=>?_)
 . obtain ⟨p,hd,rw,dx,h,r,d,rfl,_⟩:=h
   rfl
 . obtain ⟨p,hd,rw,dx,h,r,d,rfl,D,hp,hl,q⟩:=h
   obtain ⟨us,hrw,tu⟩:=D.rw
   have hul:us.length=r.length:=by rw [tu.length,List.length_map]
   refine ⟨_,(zac (zaH (zmu (zam (pv 0) rfl) (pv 1) zgk ⟨rfl,rfl,rfl,rfl⟩))
     (zah (zbM (pv 0) (zeW 1 [1] ["pair","deed"] rfl (by walk_at "blk") (zda (zam (pv 0) rfl)) (λ C fp s H=>(za0 (i:=0) (show (["pair","deed"]:List Str).Nodup by decide +kernel) rfl (by walk_at "loc"))) (λ C fp s H=>zg1 (zaF zop (zba (zlD (K:=K) rfl) (pv 0) zan (λ _ _=>rfl)) (pv 1) (zaJ _))) (λ C fp s H=>(pv 0))) rfl))),?_⟩
   have go:∀ H1:Hp,H1 hd=some (.dK (zb4 (less h d)))->(∀ b o,H b=some o->b≠hd->H1 b=some o)->(∀ b,H b=none->H1 b=none)->H1 p=some (.ins A.zb7 dx (zh9 hd rw))->H1 rw=some (.lst us)->zau H1 us (r.map zbY) ->
       sFld K (tVar 0) (zqP 1 [1] (zsq K (tFld K (tVar 0) "row")) (zp6 0) (zqL (tOp rNe (tOp (rIxT K) (tVar 0) (tC (.int 0))) (tVar 1))) (tVar 0)) "row" { nx:=λ _ H'=>Q .non H',rt:=Q } [some (V.ref p),some (V.int d)] H1:=λ H1 h1 k1 k0 hp1 hr1 t1=>by
     refine ⟨_,rfl,p,_,dx,_,_,rfl,hp1,T.zaG,T.zaP,rfl,rw,rfl,⟨_,SqL.of hr1⟩,?_⟩
     refine zef (xs:=us) (λ i ys σ H2=>∃ v0,σ=[v0,some (V.int d)]/\H2=H1/\ys.length<=i/\zau H1 ys ((less (r.take i) d).map zbY)) ⟨none,rfl,rfl,Nat.le_refl _,.nil⟩ (λ i ys σ H2 ⟨_,_,e,hy,_⟩=>⟨SqL.of (by rw [e]; exact hr1),hy⟩) (by rw [hul,sizeLine_eq]; omega) ?_ ?_
     . rintro i x ys σ H2 hlt hx ⟨v0,rfl,rfl,hy,t⟩
       obtain ⟨y,hy1,n,rfl,hn1⟩:=zcY t1 hx
       rw [List.getElem?_map] at hy1
       obtain ⟨⟨e,we⟩,he,rfl⟩:=Option.map_eq_some_iff.mp hy1
       have e1:r.take (i+1)=r.take i++[(e,we)]:=by rw [List.take_add_one,he]; rfl
       refine ⟨_,rfl,n,_,_,_,rfl,rfl,SqT.of hn1,rfl,_,rfl,rfl,_,rfl,?_⟩
       refine zeb (e != d) (zqs e d) ?_
       by_cases hed:e=d
       . refine zaZ (by simp [hed]) (nx hlt ⟨_,rfl,rfl,by omega,?_⟩)
         rw [e1]; unfold less; rw [List.filter_append]; simp [hed]; exact t
       . refine zbB (by simp [hed]) ⟨_,rfl,nx hlt ⟨_,rfl,rfl,by rw [List.length_append,List.length_singleton]; omega,?_⟩⟩
         rw [e1]; unfold less; rw [List.filter_append,List.map_append]
         have:([(e,we)]:List (Nat×Bool)).filter (λ p=>p.1 != d)=[(e,we)]:=by simp [hed]
         rw [this]
         exact S6.zcn t ⟨n,rfl,hn1⟩
     . rintro ys σ H2 ⟨v0,rfl,rfl,hy,t⟩
       rw [hul,List.take_length] at t
       intro n hn
       have hnp:p≠n:=zaf hp1 hn
       refine ⟨_,rfl,p,_,dx,_,rfl,zap hp1 hn,T.zaG,T.zaP,Nat.le_of_ble_eq_true rfl,?_⟩
       have hHn:H n=none:=by
         cases e:H n with
         | none=>rfl
         | some o =>
          by_cases z:n=hd
          . rw [z,h1] at hn; cases hn
          . rw [k1 n o e z] at hn; cases hn
       have hhp:hd≠p:=zbA h1 hp1 (λ z=>nomatch z)
       refine q _ n ys hHn (by rw [zab]; rfl) ?_ ?_ ?_ λ b o e hb hbh=>?_
       . rw [zae hhp,zae (zaf h1 hn)]; exact h1
       . rw [zae hnp.symm,zab]
       . have:∀ {vs:List V} {xss:List (List V)},zau H2 vs xss->zau (upd (upd H2 n (.lst ys)) p (.ins A.zb7 dx (zh9 hd n))) vs xss:=λ t=>by
          induction t with
          | nil=>exact .nil
          | cons r0 _ ih =>
            obtain ⟨p0,e0,q0⟩:=r0
            exact .cons ⟨p0,e0,by rw [zae (zbA q0 hp1 (λ z=>nomatch z)),zae (zaf q0 hn)]; exact q0⟩ ih
         exact this t
       . rw [zae hb,zae (zaf e hHn)]; exact k1 b o e hbh
   have tup1:∀ o,zau (upd H hd (.dK o)) us (r.map zbY):=λ o=>by
     have:∀ {vs:List V} {xss:List (List V)},zau H vs xss->zau (upd H hd (.dK o)) vs xss:=λ t=>by
       induction t with
       | nil=>exact .nil
       | cons r0 _ ih =>
         obtain ⟨p0,e0,q0⟩:=r0
         exact .cons ⟨p0,e0,by rw [zae (zbA q0 D.hd (λ z=>nomatch z))]; exact q0⟩ ih
     exact this tu
   refine ⟨_,rfl,p,_,dx,_,_,rfl,hp,T.zaG,T.zbl,rfl,hd,rfl,.inl ⟨_,.of D.hd⟩,_,rfl,_,Sum.inl (d:Int),D.hd,rfl,λ v hv=>?_,λ hv=>?_⟩
   . rw [zoT]
     refine go _ zab (λ b o e hb=>by rw [zae hb]; exact e) (λ b e=>by rw [zae λ z=>by rw [z,D.hd] at e; cases e]; exact e) ?_ ?_ (tup1 _)
     . rw [zae (zbA hp D.hd (λ z=>nomatch z))]; exact hp
     . rw [zae (zbA hrw D.hd (λ z=>nomatch z))]; exact hrw
   . rw [zfs] at hv
     have hn:look h d=none:=by simpa using hv
     exact go H (by rw [less_none hn]; exact D.hd) (λ b o e _=>e) (λ b e=>e) hp hrw tu
theorem zdA (T:Txt K mg A F):FnOk P w K mg base (CX1 P w) 2 (F.f 19) (F.fd 19) ["self","deed","use"] (zjN A):=by
 have G_Desk_hindering:=@zcf P w K mg base A F T
 refine T.zdT.okN zb0 (λ vs H Q E h=>?_) (λ cdv A' outer s H vs Q E hr h=>?_)
 . obtain ⟨p,hd,rw,h,r,d,w,rfl,_⟩:=h
   rfl
 . obtain ⟨p,hd,rw,h,r,d,w,rfl,D,hl,hnd,hlr,hm,hrn,q⟩:=h
   have hu64:=hu64 hr
   obtain ⟨dx,hp⟩:=D.ob
   obtain ⟨us,hrw,tu⟩:=D.rw
   have hul:us.length=r.length:=by rw [tu.length,List.length_map]
   refine ⟨_,(zac (zaI (i:=3) zb0.nd rfl (by walk_at "loc") (zdz PySem.F.plainAttrs_list PySem.F.slot_list_index PySem.F.type_list_index (zmz hu64) (zam (pv 0) rfl) (zaa (zby (zaa (pv 1) (zaa (pv 2) zad))) zad)))
     (zac (zbD (zaF zpP (pv 3) zan (zaJ _)) (zah (zaz (zc0 (zaa (zba zb3 (zba zbr (zam (pv 0) rfl) (zcG zqo (pv 3) zan) (λ _ _=>rfl)) zan (λ _ _=>rfl)) zad)))) zaO)
     (zah (zaz (zax (pv 0) T.zaG T.zcB G_Desk_hindering (hmr hr) T.zcE .nil zaD (zaa (pv 1) (zaa (pv 2) zad))))))),?_⟩
   obtain ⟨post,er,hall⟩:=zgJ hrn hm
   have z2:([V.int (d:Int),V.str (useS w)]:List V).length<=sizeLine:=sz2
   refine ⟨_,rfl,p,_,dx,_,_,rfl,hp,T.zaG,T.zaP,rfl,.inl ⟨rfl,_,SqL.of hrw⟩,_,rfl,_,rfl,z2,λ n hn=>?_⟩
   have dv:DVs (upd H n (.tup [V.int (d:Int),V.str (useS w)])) us (r.map λ p=>.tuple [.int p.1,.str (useS p.2)]):=ziZ (zbK (Same.zaw hn) tu)
   refine ⟨rw,us,_,_,_,(ahead r d).length,rfl,rfl,zap hrw hn,dv,.tup zab (.cons (.int _) (.cons (.str _) .nil)),λ e he=>?_,zi0 _ _,⟨?_,λ m hm' e he=>?_⟩,?_⟩
   . obtain ⟨x,_,rfl⟩:=List.mem_map.mp he
     exact zi0 _ _
   . have:r[(ahead r d).length]?=some (d,w):=by
      have e2:(ahead r d++(d,w)::post)[(ahead r d).length]?=some (d,w):=by rw [List.getElem?_append_right (Nat.le_refl _)]; simp
      rw [<-er] at e2; exact e2
     rw [List.getElem?_map,this]; rfl
   . rw [List.getElem?_map] at he
     obtain ⟨x,hx,rfl⟩:=Option.map_eq_some_iff.mp he
     have hx2:x∈ahead r d:=by
      have e2:(ahead r d++(d,w)::post)[m]?=(ahead r d)[m]?:=List.getElem?_append_left hm'
      rw [<-er,hx] at e2
      exact List.mem_of_getElem? e2.symm
     intro z
     injection z with z
     injection z with z1 _
     injection z1 with z1
     exact hall x hx2 (by omega)
   . have m0:Same H (upd H n (.tup [V.int (d:Int),V.str (useS w)])):=Same.zaw hn
     have D1:=D.same m0
     refine ⟨_,rfl,_,_,rfl,rfl,_,rfl,?_⟩
     cases hg:(ahead r d).getLast? with
     | none =>
      have h0:ahead r d=[]:=List.getLast?_eq_none_iff.mp hg
      refine zaZ (by rw [h0]; rfl) ?_
      refine ⟨_,rfl,p,dx,_,rfl,m0 _ _ hp,rfl,_,rfl,_,rfl,p,hd,rw,h,r,d,w,rfl,D1,hl,hnd,λ H' x nf m e=>q H' x (m0.free nf) (m0.trans m) ?_⟩
      unfold zi6; rw [hg]; exact e
     | some x =>
      have hne:ahead r d≠[]:=by intro z; rw [z] at hg; cases hg
      have hlen:0 < (ahead r d).length:=List.length_pos_iff.mpr hne
      have hix:r[(ahead r d).length - 1]?=some x:=by
       have e2:(ahead r d++(d,w)::post)[(ahead r d).length - 1]?=(ahead r d)[(ahead r d).length - 1]?:=List.getElem?_append_left (by omega)
       rw [<-er] at e2
       rw [e2,<-List.getLast?_eq_getElem?]; exact hg
      obtain ⟨v,hv,px,rfl,hpx⟩:=zdU (zbK m0 tu) (i:=(ahead r d).length - 1) (y:=zbY x) (by rw [List.getElem?_map,hix]; rfl)
      have hat:atI us (((ahead r d).length:Int) - 1)=some (V.ref px):=by
       have:=zbs hv
       rw [show (((ahead r d).length - 1:Nat):Int)=((ahead r d).length:Int) - 1 by omega] at this
       exact this
      refine zbB (by simpa using hlen) ?_
      refine ⟨_,rfl,p,_,dx,_,_,rfl,m0 _ _ hp,T.zaG,T.zaP,rfl,_,rfl,_,_,rfl,rfl,rw,_,_,_,rfl,rfl,SqL.of (m0 _ _ hrw),hat,px,_,_,_,rfl,rfl,SqT.of hpx,rfl,sz1,λ m hm=>?_⟩
      refine q _ m (m0.free hm) (m0.upd2 hm) ?_
      rw [zab]; unfold zi6; rw [hg]; rfl
theorem zkh (T:Txt K mg A F):FnOk P w K mg base (CX1 P w) 1 (F.f 0) (F.fd 0) ["self"] (zm3 A):=by
 refine T.zmd.okN zjW (λ vs H Q E h=>?_) (λ cdv A' outer s H vs Q E hr h=>?_)
 . obtain ⟨p,dx,rfl,_⟩:=h
   rfl
 . obtain ⟨p,dx,rfl,hp,q⟩:=h
   refine ⟨_,(zac (zbM (pv 0) (zc0 zad) rfl)
    (zac (zbM (pv 0) zfi rfl)
    (zac (zbM (pv 0) zfi rfl)
    (zac (zbM (pv 0) zfi rfl)
    (zac (zbM (pv 0) (zc0 zad) rfl)
    (zah (zbM (pv 0) (zc0 zad) rfl))))))),?_⟩
   refine ⟨Nat.le_of_ble_eq_true rfl,λ p1 n1=>⟨_,rfl,p,_,dx,_,rfl,zap hp n1,T.zak,T.zaA,Nat.le_of_ble_eq_true rfl,λ p2 n2=>⟨_,rfl,p,_,dx,_,rfl,zap zab n2,T.zak,T.zbb,Nat.le_of_ble_eq_true rfl,λ p3 n3=>⟨_,rfl,p,_,dx,_,rfl,zap zab n3,T.zak,T.zbt,Nat.le_of_ble_eq_true rfl,λ p4 n4=>⟨_,rfl,p,_,dx,_,rfl,zap zab n4,T.zak,T.zbp,Nat.le_of_ble_eq_true rfl,Nat.le_of_ble_eq_true rfl,λ p5 n5=>⟨_,rfl,p,_,dx,_,rfl,zap zab n5,T.zak,T.zc1,Nat.le_of_ble_eq_true rfl,Nat.le_of_ble_eq_true rfl,λ p6 n6=>⟨_,rfl,p,_,dx,_,rfl,zap zab n6,T.zak,T.zbW,Nat.le_of_ble_eq_true rfl,?_⟩⟩⟩⟩⟩⟩⟩
   obtain ⟨a1,b1,c1,d1⟩:=two (o:=.lst []) (o':=.ins A.zaX dx (putF "records" (.ref p1) [])) hp n1
   generalize upd (upd H p1 (.lst [])) p (.ins A.zaX dx (putF "records" (.ref p1) []))=H1 at *
   obtain ⟨a2,b2,c2,d2⟩:=two (o:=.dK []) (o':=.ins A.zaX dx (putF "desks" (.ref p2) (putF "records" (.ref p1) []))) a1 n2
   generalize upd (upd H1 p2 (.dK [])) p (.ins A.zaX dx (putF "desks" (.ref p2) (putF "records" (.ref p1) [])))=H2 at *
   obtain ⟨a3,b3,c3,d3⟩:=two (o:=.dK []) (o':=.ins A.zaX dx (putF "standing" (.ref p3) (putF "desks" (.ref p2) (putF "records" (.ref p1) [])))) a2 n3
   generalize upd (upd H2 p3 (.dK [])) p (.ins A.zaX dx (putF "standing" (.ref p3) (putF "desks" (.ref p2) (putF "records" (.ref p1) []))))=H3 at *
   obtain ⟨a4,b4,c4,d4⟩:=two (o:=.dK []) (o':=.ins A.zaX dx (putF "kept_values" (.ref p4) (putF "standing" (.ref p3) (putF "desks" (.ref p2) (putF "records" (.ref p1) []))))) a3 n4
   generalize upd (upd H3 p4 (.dK [])) p (.ins A.zaX dx (putF "kept_values" (.ref p4) (putF "standing" (.ref p3) (putF "desks" (.ref p2) (putF "records" (.ref p1) [])))))=H4 at *
   obtain ⟨a5,b5,c5,d5⟩:=two (o:=.lst []) (o':=.ins A.zaX dx (putF "kept_deeds" (.ref p5) (putF "kept_values" (.ref p4) (putF "standing" (.ref p3) (putF "desks" (.ref p2) (putF "records" (.ref p1) [])))))) a4 n5
   generalize upd (upd H4 p5 (.lst [])) p (.ins A.zaX dx (putF "kept_deeds" (.ref p5) (putF "kept_values" (.ref p4) (putF "standing" (.ref p3) (putF "desks" (.ref p2) (putF "records" (.ref p1) []))))))=H5 at *
   obtain ⟨a6,b6,c6,d6⟩:=two (o:=.lst []) (o':=.ins A.zaX dx (putF "rows" (.ref p6) (putF "kept_deeds" (.ref p5) (putF "kept_values" (.ref p4) (putF "standing" (.ref p3) (putF "desks" (.ref p2) (putF "records" (.ref p1) []))))))) a5 n6
   generalize upd (upd H5 p6 (.lst [])) p (.ins A.zaX dx (putF "rows" (.ref p6) (putF "kept_deeds" (.ref p5) (putF "kept_values" (.ref p4) (putF "standing" (.ref p3) (putF "desks" (.ref p2) (putF "records" (.ref p1) [])))))))=H6 at *
   have q1:p1≠p:=λ z=>by rw [z,hp] at n1; cases n1
   obtain ⟨m21,k21,q2⟩:=d1 p2 n2
   obtain ⟨m32,k32,q3⟩:=d2 p3 n3
   obtain ⟨m31,k31,_⟩:=d1 p3 m32
   obtain ⟨m43,k43,q4⟩:=d3 p4 n4
   obtain ⟨m42,k42,_⟩:=d2 p4 m43
   obtain ⟨m41,k41,_⟩:=d1 p4 m42
   obtain ⟨m54,k54,q5⟩:=d4 p5 n5
   obtain ⟨m53,k53,_⟩:=d3 p5 m54
   obtain ⟨m52,k52,_⟩:=d2 p5 m53
   obtain ⟨m51,k51,_⟩:=d1 p5 m52
   obtain ⟨m65,k65,q6⟩:=d5 p6 n6
   obtain ⟨m64,k64,_⟩:=d4 p6 m65
   obtain ⟨m63,k63,_⟩:=d3 p6 m64
   obtain ⟨m62,k62,_⟩:=d2 p6 m63
   obtain ⟨m61,k61,_⟩:=d1 p6 m62
   have e1:=c6 _ _ q1 (c5 _ _ q1 (c4 _ _ q1 (c3 _ _ q1 (c2 _ _ q1 b1))))
   have e2:=c6 _ _ q2 (c5 _ _ q2 (c4 _ _ q2 (c3 _ _ q2 b2)))
   have e3:=c6 _ _ q3 (c5 _ _ q3 (c4 _ _ q3 b3))
   have e4:=c6 _ _ q4 (c5 _ _ q4 b4)
   have e5:=c6 _ _ q5 b5
   have kp:∀ b o,H b=some o->b≠p->H6 b=some o:=λ b o e hb=>c6 _ _ hb (c5 _ _ hb (c4 _ _ hb (c3 _ _ hb (c2 _ _ hb (c1 _ _ hb e)))))
   have ne:∀ b,b≠p->H b=none->(λ b=>if b=p then none else H b) b=none:=λ b hb e=>by
    show (if b=p then none else H b)=none
    rw [if_neg hb]; exact e
   obtain ⟨ρ,ad,h1,h2,h3⟩:=zai.fresh (A:=A) (H:=λ b=>if b=p then none else H b) (H':=H6) (a:=p) (dx:=dx) (p1:=p1) (p2:=p2) (p3:=p3) (p4:=p4) (p5:=p5) (p6:=p6) (if_pos rfl) (ne _ q1 n1) (ne _ q2 m21) (ne _ q3 m31) (ne _ q4 m41) (ne _ q5 m51) (ne _ q6 m61) a6 e1 e2 e3 e4 e5 b6 (Ne.symm k51) (Ne.symm k61) (Ne.symm k65) (Ne.symm k32) (Ne.symm k42) (Ne.symm k43) (λ b o e=>by
    by_cases z:b=p
    . have e:(if b=p then none else H b)=some o:=e
      rw [if_pos z] at e; cases e
    . have e:(if b=p then none else H b)=some o:=e
      rw [if_neg z] at e; exact kp b o e z)
   exact q H6 ρ ad h1 h2 λ b o e hb=>⟨kp b o e hb,h3 b o (by show (if b=p then none else H b)=some o; rw [if_neg hb]; exact e)⟩
theorem zi4 (T:Txt K mg A F):FnOk P w K mg base (CX1 P w) 3 (F.f 7) (F.fd 7) ["self"] (zqY A):=by
 have G_Record_init:=@zh1 P w K mg base A F T
 refine T.zkY.okN zfc (λ vs H Q E h=>?_) (λ cdv A' outer s H vs Q E hr h=>?_)
 . obtain ⟨ρ,ad,s,kv,rfl,_⟩:=h
   rfl
 . obtain ⟨ρ,ad,s,kv,rfl,hh,sm,hn,q⟩:=h
   obtain ⟨dx,hp⟩:=hh.hall
   refine ⟨_,(zac (zaI (i:=1) zfc.nd rfl (by walk_at "loc") (zbi zbe (by rfl) T.zi8 PySem.boot_len (zaa (zam (pv 0) rfl) zad)))
    (zac (zaH (zdz PySem.F.plainAttrs_list PySem.F.slot_list_append PySem.F.type_list_append zbk (zam (pv 0) rfl) (zaa (ziY T.zoB G_Record_init (hmr hr) rfl T.zp4 T.zjs .nil zaD) zad)))
    (zac (zaH (zdz PySem.F.plainAttrs_list PySem.F.slot_list_append PySem.F.type_list_append zbk (zam (pv 0) rfl) (zaa (zby (zaa (zcH rfl T.zro) (zaa (pv 1) zad))) zad)))
    (zah (zaz (pv 1)))))),?_⟩
   have hl:((List.range s.n).map λ i=>V.ref (ad (.rcd i))).length=s.n:=by rw [List.length_map,List.length_range]
   refine ⟨_,rfl,_,_,dx,_,_,rfl,hp,T.zak,T.zaA,rfl,ad .recs,_,rfl,.inl (SqL.of hh.recs),?_⟩
   rw [hl]
   refine ⟨_,rfl,_,_,dx,_,_,rfl,hp,T.zak,T.zaA,rfl,.inl ⟨rfl,_,SqL.of hh.recs⟩,λ x dx2 nx ndx nex=>⟨x,dx2,rfl,zab,λ H1 d nd e1 e2 kp=>⟨rfl,?_⟩⟩⟩
   have s0:Same H (upd (upd H dx2 (.own x)) x (.ins A.zaB dx2 [])):=(Same.zaw ndx).upd2 (by rw [zae nex.symm]; exact nx)
   have s1:Same H H1:=λ b o e=>kp b o (s0 b o e) (zaf e nx)
   refine ⟨ad .recs,_,_,rfl,rfl,s1 _ _ hh.recs,by rw [hl,sizeLine_eq]; omega,?_⟩
   have hdx:x≠ad .recs:=(zaf hh.recs nx).symm
   have hdd:d≠ad .recs:=(zaf (s0 _ _ hh.recs) nd).symm
   obtain ⟨ρ',ad',ea,h2,f2⟩:=hh.addRec (H':=upd H1 (ad .recs) (.lst (((List.range s.n).map λ i=>V.ref (ad (.rcd i)))++[.ref x]))) T.ok (p:=x) (d:=d) (dx:=dx2) nx (by
     cases e:H d with
     | none=>rfl
     | some o=>rw [s0 d o e] at nd; cases nd) zab (by rw [zae hdx]; exact e1) (by rw [zae hdd]; exact e2) (λ b o e hb=>by rw [zae hb]; exact s1 b o e)
   obtain ⟨dx3,hp3⟩:=h2.hall
   obtain ⟨us,hus,tus⟩:=h2.rows
   have hul:us.length=s.log.length:=by rw [tus.length,List.length_map]
   rw [<-ea]
   refine ⟨_,rfl,_,_,dx3,_,_,rfl,hp3,T.zak,T.zbW,rfl,.inl ⟨rfl,_,SqL.of hus⟩,_,rfl,sz2,λ n nn=>⟨ad' .rows,_,_,rfl,rfl,zap hus nn,by have:=sm.lg; rw [hul,sizeLine_eq]; omega,_,rfl,?_⟩⟩
   have h3:=h2.grow (H':=upd _ n (.tup [V.str "begin",V.int (s.n:Int)])) (Same.zaw nn)
   obtain ⟨h4,f4⟩:=h3.zmS (H':=upd (upd _ n (.tup [V.str "begin",V.int (s.n:Int)])) (ad' .rows) (.lst (us++[.ref n]))) T.ok (row:=.begin s.n) (zap hus nn) zab (λ b o e hb=>by rw [zae hb]; exact e) ⟨n,rfl,by rw [zae (zaf hus nn).symm,zab]; rfl⟩
   exact q _ ρ' ad' ea h4 ((f2.trans (Frame.grow (Same.zaw nn))).trans f4)
theorem zbE (T:Txt K mg A F):FnOk P w K mg base (CX1 P w) 2 (F.f 9) (F.fd 9) ["self","deed"] (zm1 A):=by
 have G_is_whole:=@zll P w K mg base A F T
 refine T.zgD.okX zfG (λ vs H Q E h=>?_) (λ cdv A' outer s H vs Q E hr h=>?_)
 . obtain ⟨ρ,ad,s,kv,i,rfl,_⟩:=h
   rfl
 . obtain ⟨ρ,ad,s,kv,i,rfl,hh,hn,q⟩:=h
   obtain ⟨dx,hp⟩:=hh.hall
   refine ⟨_,(zac (zbD (PW.pt (zq4 (zqm (zil (zaR G_is_whole (hmr hr) rfl T.znt T.znm T.zny .nil zaD (zaa (pv 1) zad)))) (zq4 (zaF zlk (pv 1) zan (zaJ _)) (zql (zaF zs1 (pv 1) (zbi zbe (by rfl) T.zi8 PySem.boot_len (zaa (zam (pv 0) rfl) zad)) (zaJ _)))))) (zah (ziT zg0 rfl rfl T.zp5 T.zpr PySem.F.excBase_ValueError (zaa zaU zad))) zaO)
    (zah (zaz (zba zbr (zam (pv 0) rfl) (pv 1) (λ _ _=>rfl))))),?_⟩
   have hl:((List.range s.n).map λ i=>V.ref (ad (.rcd i))).length=s.n:=by rw [List.length_map,List.length_range]
   refine ⟨_,rfl,i,rfl,_,rfl,?_⟩
   refine ⟨_,rfl,_,_,rfl,rfl,_,rfl,?_⟩
   have bad:Out A s i H E->znS A.zhH E (zpu (tC (.str "there is no deed with this number")) tNil) { nx:=λ σ H'=>tRet (tOp (rIxL K) (tFld K (tVar 0) "records") (tVar 1)) { nx:=λ _ H'=>Q .non H',rt:=Q } σ H',rt:=Q } [some (.ref (ad .hall)),some (.int i)] H:=λ o=>⟨Nat.le_of_ble_eq_true rfl,o.2⟩
   have last:(if decide ((s.n:Int)<=i)=true then Out A s i H E else ∃ d:Nat,i=d/\d < s.n/\Q (.ref (ad (.rcd d))) H)->zqL (tOp (rI0 λ i j=>.bl (decide (j<=i))) (tVar 1) (tCB (λ xs H Q=>∃ p ys,xs=[.ref p]/\(SqL K H p ys\/SqT K H p ys)/\Q (.int ys.length) H) (zpu (tFld K (tVar 0) "records") tNil))) [some (.ref (ad .hall)),some (.int i)] H λ c H1=>if c=true then znS A.zhH E (zpu (tC (.str "there is no deed with this number")) tNil) { nx:=λ σ H'=>tRet (tOp (rIxL K) (tFld K (tVar 0) "records") (tVar 1)) { nx:=λ _ H'=>Q .non H',rt:=Q } σ H',rt:=Q } [some (.ref (ad .hall)),some (.int i)] H1 else zqN { nx:=λ σ H'=>tRet (tOp (rIxL K) (tFld K (tVar 0) "records") (tVar 1)) { nx:=λ _ H'=>Q .non H',rt:=Q } σ H',rt:=Q } [some (.ref (ad .hall)),some (.int i)] H1:=λ o=>by
    refine ⟨_,rfl,_,rfl,_,_,dx,_,_,rfl,hp,T.zak,T.zaA,rfl,ad .recs,_,rfl,.inl (SqL.of hh.recs),_,_,rfl,rfl,_,rfl,?_⟩
    rw [hl]
    cases hb:decide ((s.n:Int)<=i) with
    | true=>rw [hb] at o; exact iteT (bad (by simpa using o))
    | false =>
      rw [hb] at o
      obtain ⟨d,rfl,hd,z⟩:∃ d:Nat,i=d/\d < s.n/\Q (.ref (ad (.rcd d))) H:=by simpa using o
      exact iteF ⟨_,rfl,_,_,dx,_,_,rfl,hp,T.zak,T.zaA,rfl,_,rfl,ad .recs,_,_,_,rfl,rfl,SqL.of hh.recs,zbs (hh.zfe hd),z⟩
   cases hb:decide (i < 0) with
   | true =>
    refine iteT (bad ?_)
    rcases q with ⟨d,rfl,hd,z⟩ | o
    . simp at hb; omega
    . exact o
   | false =>
    refine iteF (last ?_)
    have hi:¬ i < 0:=by simpa using hb
    rcases q with ⟨d,rfl,hd,z⟩ | o
    . exact zaZ (decide_eq_false (by omega)) ⟨d,rfl,hd,z⟩
    . exact zbB (decide_eq_true (o.1.resolve_left hi)) o
theorem za3 (T:Txt K mg A F):FnOk P w K mg base (CX1 P w) 3 (F.f 10) (F.fd 10) ["self","deed"] (zpw A):=by
 have G_Hall_record_of:=@zbE P w K mg base A F T
 refine T.zcW.okX zcN (λ vs H Q E h=>?_) (λ cdv A' outer s H vs Q E hr h=>?_)
 . obtain ⟨ρ,ad,s,kv,i,rfl,_⟩:=h
   rfl
 . obtain ⟨ρ,ad,s,kv,i,rfl,hh,hn,q⟩:=h
   obtain ⟨dx,hp⟩:=hh.hall
   refine ⟨_,(zah (zbD (zaF zop (zam (zax (pv 0) T.zak T.zbQ G_Hall_record_of (hmr hr) T.zbR .nil zbz (zaa (pv 1) zad)) rfl) (zcH rfl T.zlK) (zaJ _)) (zah (ziT zg0 rfl rfl T.zf4 T.zif PySem.F.excBase_ValueError (zaa zaU zad))) zaO)),?_⟩
   refine ⟨_,rfl,_,dx,_,rfl,hp,rfl,_,rfl,ρ,ad,s,kv,i,rfl,hh,hn,?_⟩
   rcases q with ⟨d,rfl,hd,q⟩ | o
   . obtain ⟨dr,wv,hr1,_⟩:=hh.rcd hd
     refine .inl ⟨d,rfl,hd,_,_,dr,_,_,rfl,hr1,T.zat,T.zay,rfl,rfl,_,rfl,?_⟩
     rcases q with ⟨hs,q⟩ | ⟨hs,q⟩
     . refine zaZ ?_ q
       rw [hs]; rfl
     . refine zbB ?_ ⟨Nat.le_of_ble_eq_true rfl,q⟩
       cases hst:(s.deed d).st with
       | zar=>exact absurd hst hs
       | waiting=>rfl
       | kept=>rfl
       | dropped=>rfl
   . exact .inr o
theorem zdk (T:Txt K mg A F):FnOk P w K mg base (CX1 P w) 2 (F.f 17) (F.fd 17) ["self","deed","want"] (zqX A):=by
 have G_Desk_take:=@zki P w K mg base A F T
 have G_value_under:=@zhY P w K mg base A F T
 refine T.zgF.okN zca (λ vs H Q E h=>?_) (λ cdv A' outer s H vs Q E hr h=>?_)
 . obtain ⟨ρ,ad,s,kv,d,wv,a,rfl,_⟩:=h
   rfl
 . obtain ⟨ρ,ad,s,kv,d,wv,a,rfl,hh,sm,hd,hk,⟨pw,dw,rfl,hw⟩,q⟩:=h
   have hu:=zey hr
   obtain ⟨dx,hp⟩:=hh.hall
   have D:=hh.desk hk
   obtain ⟨dd,hdk⟩:=D.ob
   refine ⟨_,(zac (zaH (zax (zd4 hu (zam (pv 0) rfl) (zam (pv 2) rfl) (λ _ _=>rfl)) T.zaG T.zly G_Desk_take (hmr hr) T.zlZ .nil zaD (zaa (pv 1) (zaa (zam (pv 2) rfl) zad))))
    (zac (zaI (i:=3) zca.nd rfl (by walk_at "loc") (zba zbr (zam (pv 0) rfl) (pv 1) (λ _ _=>rfl)))
    (zac (zbM (pv 3) (zcH rfl T.zlK) rfl)
    (zac (zbM (pv 3) zgk rfl)
    (zac (zaI (i:=4) zca.nd rfl (by walk_at "loc") (zaR G_value_under (hmr hr) rfl T.zjk T.zjf T.zjq .nil zaD (zaa (zam (pv 0) rfl) (zaa (zam (pv 2) rfl) zad))))
    (zah (zbD (zaF zco (zam (pv 2) rfl) (zcH rfl T.zdo) (zaJ _)) (zac (zaH (zdz PySem.F.plainAttrs_list PySem.F.slot_list_append PySem.F.type_list_append zbk (zam (pv 0) rfl) (zaa (zby (zaa (zcH rfl T.zlJ) (zaa (pv 1) (zaa (zam (pv 2) rfl) (zaa (pv 4) (zaa (zam (pv 2) rfl) zad)))))) zad)))
    (zac (zg3 hu (zam (pv 0) rfl) (zam (pv 2) rfl) (zam (pv 2) rfl) rfl)
    (zah (zaH (zdz PySem.F.plainAttrs_list PySem.F.slot_list_append PySem.F.type_list_append zbk (zam (pv 3) rfl) (zaa (zby (zaa (zcH rfl T.zlJ) (zaa (zam (pv 2) rfl) (zaa (zam (pv 2) rfl) zad)))) zad)))))) (zah (zaH (zdz PySem.F.plainAttrs_list PySem.F.slot_list_append PySem.F.type_list_append zbk (zam (pv 3) rfl) (zaa (zby (zaa (zcH rfl T.zsr) (zaa (zam (pv 2) rfl) (zaa (pv 4) zad)))) zad))))))))))),?_⟩
   refine ⟨_,rfl,_,_,dx,_,_,rfl,hp,T.zak,T.zbb,rfl,_,rfl,pw,_,dw,_,_,rfl,hw,T.zaW,T.zaY,rfl,_,_,rfl,hh.zev hk,_,dd,_,rfl,hdk,rfl,_,rfl,_,rfl,pw,_,dw,_,_,rfl,hw,T.zaW,T.zbh,rfl,_,_,_,_,_,d,a.wr,rfl,D,sm.hl _,sm.hn _,λ H1 e1 kp1=>?_⟩
   obtain ⟨h1,f1⟩:=hh.zq1 T.ok hk e1 kp1
   have hw1:H1 pw=_:=(Imm.zfX T.ok hh (r:=.held a.key) hk kp1).want _ _ _ hw
   obtain ⟨dx1,hp1⟩:=h1.hall
   obtain ⟨dr,w0,hr1,_⟩:=h1.rcd hd
   refine ⟨_,rfl,_,_,dx1,_,_,rfl,hp1,T.zak,T.zaA,rfl,_,rfl,_,_,_,_,rfl,rfl,SqL.of h1.recs,zbs (h1.zfe hd),?_⟩
   refine ⟨_,rfl,_,_,dr,_,rfl,hr1,T.zat,T.zay,Nat.le_of_ble_eq_true rfl,_,rfl,_,_,dr,_,rfl,zab,T.zat,T.zaV,Nat.le_of_ble_eq_true rfl,?_⟩
   rw [ziL]
   have kp3:zcs H1 (ad (.rcd d)) (upd H1 (ad (.rcd d)) (.ins A.zaB dr (recF .zar (ad (.did d)) .non))):=λ b o e hb=>by rw [zae hb]; exact e
   obtain ⟨h3,f3⟩:=h1.zn6 (H':=upd H1 (ad (.rcd d)) (.ins A.zaB dr (recF .zar (ad (.did d)) .non))) T.ok hd (D:={ s.deed d with st:=.zar }) (w:=.non) zab kp3 rfl rfl
   have hw3:=(Imm.zfX T.ok h1 (r:=.rcd d) hd kp3).want _ _ _ hw1
   show tSeq _ _ _ _ (upd H1 (ad (.rcd d)) (.ins A.zaB dr (recF .zar (ad (.did d)) .non)))
   generalize upd H1 (ad (.rcd d)) (.ins A.zaB dr (recF .zar (ad (.did d)) .non))=H3 at *
   obtain ⟨dx3,hp3⟩:=h3.hall
   obtain ⟨l,hl,hb⟩:=h3.zcl
   have hb:zbm l s.book:=hb
   refine ⟨_,rfl,_,_,dx3,_,_,rfl,hp3,T.zak,T.zbt,rfl,_,rfl,pw,_,dw,_,_,rfl,hw3,T.zaW,T.zaY,rfl,_,a.key,l,_,rfl,hl,hb,?_⟩
   refine ⟨_,rfl,pw,_,dw,_,_,rfl,hw3,T.zaW,T.zbh,rfl,rfl,_,rfl,?_⟩
   refine zeb a.wr (zgN a.wr) ?_
   have hr3:∃ dr w,H3 (ad (.rcd d))=some (.ins A.zaB dr (recF .zar (ad (.did d)) w)):=by
    obtain ⟨dr,w,e,_⟩:=h3.rcd hd
    have e:H3 (ad (.rcd d))=some (.ins A.zaB dr (recF (up s.deed d { s.deed d with st:=.zar } d).st (ad (.did d)) w)):=e
    rw [zag] at e
    exact ⟨dr,w,e⟩
   have fin:∀ (t:HS Str) (H4:Hp) (b:Act Str),zai A ρ ad t kv H4->Frame ρ H ρ H4->t.n=s.n->(t.deed d).done.length<=2000->∀ us,H4 (ad (.did d))=some (.lst us)->∀ n,H4 n=none ->
     ∃ l xs y,V.ref (ad (.did d))=.ref l/\[V.ref n]=[y]/\upd H4 n (.tup (actV b)) l=some (.lst xs)/\xs.length < sizeLine/\(zai A ρ ad { t with deed:=up t.deed d { t.deed d with done:=(t.deed d).done++[b] } } kv (upd (upd H4 n (.tup (actV b))) l (.lst (xs++[y])))/\Frame ρ H ρ (upd (upd H4 n (.tup (actV b))) l (.lst (xs++[y])))):=λ t H4 b h4 f4 hn hl us hus n nn=>by
    have hdt:d < t.n:=by rw [hn]; exact hd
    have h5:=h4.grow (H':=upd H4 n (.tup (actV b))) (Same.zaw nn)
    obtain ⟨us',e',tu⟩:=h4.did hdt
    rw [hus] at e'; cases e'
    have hlen:us.length=(t.deed d).done.length:=by rw [tu.length,List.length_map]
    obtain ⟨h6,f6⟩:=h5.zsF (H':=upd (upd H4 n (.tup (actV b))) (ad (.did d)) (.lst (us++[.ref n]))) T.ok hdt (a:=b) (zap hus nn) zab (λ x o e hx=>by rw [zae hx]; exact e) ⟨n,rfl,by rw [zae (zaf hus nn).symm,zab]⟩
    exact ⟨ad (.did d),us,.ref n,rfl,rfl,zap hus nn,by rw [hlen,sizeLine_eq]; omega,h6,(f4.trans (Frame.grow (Same.zaw nn))).trans f6⟩
   have f03:Frame ρ H ρ H3:=f1.trans f3
   have dn3:(up s.deed d { s.deed d with st:=DS.zar } d).done.length<=2000:=by rw [zag]; exact sm.dn d
   cases hwr:a.wr with
   | true =>
    obtain ⟨us,hus,tus⟩:=h3.rows
    have hul:us.length=s.log.length:=by rw [tus.length,List.length_map]
    have hwv:List.lookup ("value" : Str) (zqH a)=some (.int a.val):=by
     show some (if a.wr then V.int a.val else .non)=_
     rw [hwr]; rfl
    refine ⟨_,rfl,_,_,dx3,_,_,rfl,hp3,T.zak,T.zbW,rfl,.inl ⟨rfl,_,SqL.of hus⟩,_,rfl,_,rfl,pw,_,dw,_,_,rfl,hw3,T.zaW,T.zaY,rfl,_,rfl,_,rfl,pw,_,dw,_,_,rfl,hw3,T.zaW,T.zcI,hwv,sz5,λ n nn=>⟨_,_,_,rfl,rfl,zap hus nn,by have:=sm.lg; rw [hul,sizeLine_eq]; omega,?_⟩⟩
    have g4:=h3.grow (H':=upd H3 n (.tup [V.str "write",.int (d:Int),.str a.key,.int ((s.book a.key).getD 0),.int a.val])) (Same.zaw nn)
    have kp4:zcs (upd H3 n (.tup [V.str "write",.int (d:Int),.str a.key,.int ((s.book a.key).getD 0),.int a.val])) (ad .rows) (upd (upd H3 n (.tup [V.str "write",.int (d:Int),.str a.key,.int ((s.book a.key).getD 0),.int a.val])) (ad .rows) (.lst (us++[.ref n]))):=λ b o e hb=>by rw [zae hb]; exact e
    obtain ⟨h4,f4⟩:=g4.zmS T.ok (row:=.write d a.key ((s.book a.key).getD 0) a.val) (zap hus nn) zab kp4 ⟨n,rfl,by rw [zae (zaf hus nn).symm,zab]; rfl⟩
    have hw4:=(Imm.zfX T.ok g4 (r:=.rows) trivial kp4).want _ _ _ (Same.zaw nn _ _ hw3)
    have f04:=(f03.trans (Frame.grow (Same.zaw nn))).trans f4
    have hl4:=kp4 _ _ (Same.zaw (o:=.tup [V.str "write",.int (d:Int),.str a.key,.int ((s.book a.key).getD 0),.int a.val]) nn _ _ hl) (g4.ne (r:=.zcl) (r':=.rows) trivial trivial (by intro z; cases z))
    generalize upd (upd H3 n (.tup [V.str "write",.int (d:Int),.str a.key,.int ((s.book a.key).getD 0),.int a.val])) (ad .rows) (.lst (us++[.ref n]))=H4 at *
    obtain ⟨dx4,hp4⟩:=h4.hall
    have hll:l.length<=4:=Nat.le_trans (hb.len sm.snd sm.bs) sm.seen
    refine ⟨_,rfl,pw,_,dw,_,_,rfl,hw4,T.zaW,T.zcI,hwv,_,rfl,_,_,dx4,_,_,rfl,hp4,T.zak,T.zbt,rfl,_,rfl,pw,_,dw,_,_,rfl,hw4,T.zaW,T.zaY,rfl,_,_,rfl,DPut.k (k:=Sum.inr a.key) hl4 (by rw [zlR,sizeLine_eq]; omega),?_⟩
    rw [zlQ]
    have kp5:zcs H4 (ad .zcl) (upd H4 (ad .zcl) (.dK (bkV (bput l a.key a.val)))):=λ b o e hb=>by rw [zae hb]; exact e
    obtain ⟨h5,f5⟩:=h4.zmo T.ok zab kp5 (hb.put a.key a.val)
    have hw5:=(Imm.zfX T.ok h4 (r:=.zcl) trivial kp5).want _ _ _ hw4
    generalize upd H4 (ad .zcl) (.dK (bkV (bput l a.key a.val)))=H5 at *
    obtain ⟨dr5,w5,hr5,_⟩:=h5.rcd hd
    obtain ⟨us5,hus5,_⟩:=h5.did hd
    refine ⟨_,rfl,_,_,dr5,_,_,rfl,hr5,T.zat,T.zbo,rfl,.inl ⟨rfl,_,SqL.of hus5⟩,_,rfl,pw,_,dw,_,_,rfl,hw5,T.zaW,T.zaY,rfl,_,rfl,pw,_,dw,_,_,rfl,hw5,T.zaW,T.zcI,hwv,sz3,λ n5 nn5=>?_⟩
    obtain ⟨l6,xs6,y6,g1,g2,g3,g4',g5,g6⟩:=fin _ H5 a h5 (f04.trans f5) rfl dn3 us5 hus5 n5 nn5
    have ea:actV a=[V.str "write",.str a.key,.int a.val]:=by unfold actV; rw [hwr]; rfl
    rw [ea] at g3 g5 g6
    refine ⟨l6,xs6,y6,g1,g2,g3,g4',q _ ?_ g6⟩
    rw [zsx _ _ _ hwr]
    exact g5
   | false =>
    obtain ⟨dr5,w5,hr5⟩:=hr3
    obtain ⟨us5,hus5,_⟩:=h3.did hd
    refine ⟨_,rfl,_,_,dr5,_,_,rfl,hr5,T.zat,T.zbo,rfl,.inl ⟨rfl,_,SqL.of hus5⟩,_,rfl,pw,_,dw,_,_,rfl,hw3,T.zaW,T.zaY,rfl,_,rfl,sz3,λ n5 nn5=>?_⟩
    obtain ⟨l6,xs6,y6,g1,g2,g3,g4',g5,g6⟩:=fin _ H3 ⟨false,a.key,(s.book a.key).getD 0⟩ h3 f03 rfl dn3 us5 hus5 n5 nn5
    refine ⟨l6,xs6,y6,g1,g2,g3,g4',q _ ?_ g6⟩
    rw [zsy _ _ _ hwr]
    exact g5
theorem zfR (T:Txt K mg A F):FnOk P w K mg base (CX1 P w) 3 (F.f 20) (F.fd 20) ["self","deed"] (zm2 A):=by
 have G_Desk_next_waited_for:=@zdA P w K mg base A F T
 refine T.zgE.okN zdg (λ vs H Q E h=>?_) (λ cdv A' outer s H vs Q E hr h=>?_)
 . obtain ⟨ρ,ad,s,kv,d,rfl,_⟩:=h
   rfl
 . obtain ⟨ρ,ad,s,kv,d,rfl,hh,c,sm,hd,q⟩:=h
   have hu:=zey hr
   obtain ⟨dx,hp⟩:=hh.hall
   obtain ⟨dr,wv,hr1,hw⟩:=hh.rcd hd
   refine ⟨_,(zac (zaI (i:=2) zdg.nd rfl (by walk_at "loc") (zam (zba zbr (zam (pv 0) rfl) (pv 1) (λ _ _=>rfl)) rfl))
     (zac (zbD (zff (zqn (pv 2))) (zah (zaz (zc0 zad))) zaO)
     (zah (zaz (zax (zd4 hu (zam (pv 0) rfl) (zam (pv 2) rfl) (λ _ _=>rfl)) T.zaG T.zdP G_Desk_next_waited_for (hmr hr) T.zdS .nil zaD (zaa (pv 1) (zaa (zam (pv 2) rfl) zad))))))),?_⟩
   refine ⟨_,rfl,_,_,dx,_,_,rfl,hp,T.zak,T.zaA,rfl,_,rfl,_,_,_,_,rfl,rfl,SqL.of hh.recs,zbs (hh.zfe hd),_,_,dr,_,_,rfl,hr1,T.zat,T.zaV,rfl,?_⟩
   refine ⟨_,rfl,_,rfl,?_⟩
   by_cases hst:(s.deed d).st=.waiting
   . obtain ⟨a,ha,hrow⟩:=c.wRow d (by simp) hst
     have hw0:wantOf (s.deed d)=some a:=by unfold wantOf; rw [if_pos hst,ha]
     rw [hw0] at hw
     obtain ⟨pw,dw,rfl,hpw⟩:=hw
     have hk:a.key∈s.seen:=zb2 c hrow
     have D:=hh.desk hk
     obtain ⟨dd,hdk⟩:=D.ob
     refine zaZ rfl ?_
     refine ⟨_,rfl,_,_,dx,_,_,rfl,hp,T.zak,T.zbb,rfl,_,rfl,pw,_,dw,_,_,rfl,hpw,T.zaW,T.zaY,rfl,_,_,rfl,hh.zev hk,_,dd,_,rfl,hdk,rfl,_,rfl,_,rfl,pw,_,dw,_,_,rfl,hpw,T.zaW,T.zbh,rfl,_,_,_,_,_,d,a.wr,rfl,D,sm.hl _,sm.hn _,sm.rl _,hrow,c.rNd _,λ H' n nf m e=>q H' n nf m ?_⟩
     rw [zkl hst ha]; exact e
   . have hw0:wantOf (s.deed d)=none:=by unfold wantOf; rw [if_neg hst]
     rw [hw0] at hw
     have hw:wv=.non:=hw
     subst hw
     refine zbB rfl ⟨Nat.le_of_ble_eq_true rfl,λ n hn=>q _ n hn (Same.zaw hn) ?_⟩
     rw [zab,zot hst]; rfl
theorem zhe (T:Txt K mg A F):FnOk P w K mg base (CX1 P w) 4 (F.f 21) (F.fd 21) ["self","deed"] (zpz A):=by
 have G_Hall_next_from:=@zfR P w K mg base A F T
 refine T.zid.okN zbw (λ vs H Q E h=>?_) (λ cdv A' outer s H vs Q E hr h=>?_)
 . obtain ⟨ρ,ad,s,kv,d,rfl,_⟩:=h
   rfl
 . obtain ⟨ρ,ad,s,kv,d,rfl,hh,c,sm,hd,q⟩:=h
   have hu:=zey hr
   refine ⟨_,(zac (zaI (i:=2) zbw.nd rfl (by walk_at "loc") zfi)
     (zac (zaI (i:=3) zbw.nd rfl (by walk_at "loc") (zc0 (zaa (pv 1) zad)))
     (zac (zfg PassesOwn.never (zaF zpP (zbi zbe (by rfl) T.zi8 PySem.boot_len (zaa (pv 3) zad)) zan (zaJ _)) (zac (zaI (i:=4) zbw.nd rfl (by walk_at "loc") (zoj PySem.F.plainAttrs_list PySem.F.slot_list_pop PySem.F.type_list_pop zox (pv 3)))
     (zah (zgj PassesOwn.never rfl (zda (zax (pv 0) T.zak T.zgw G_Hall_next_from (hmr hr) T.zgz .nil zaD (zaa (pv 4) zad))) (za0 (i:=5) zbw.nd rfl (by walk_at "loc")) (zah (zbD (zff (zg7 hu (pv 5) (pv 2))) (zac (zg3 hu (pv 2) (pv 5) zli rfl)
     (zah (zaH (zdz PySem.F.plainAttrs_list PySem.F.slot_list_append PySem.F.type_list_append zbk (pv 3) (zaa (pv 5) zad))))) zaO))))))
     (zah (zaz (pv 2)))))),?_⟩
   intro pf nf
   refine ⟨_,rfl,Nat.le_of_ble_eq_true rfl,λ pl nl=>?_⟩
   have hfl:pf≠pl:=zaf zab nl
   let Inv0:List Nat->List Nat->Hp->Prop:=λ fd lf H1=>Same H H1/\H1 pf=some (.dK (zb9 fd))/\H1 pl=some (.lst (zal lf))/\fd.Nodup/\(∀ x∈fd,zc5 s d x)/\(∀ x∈lf,x=d\/x∈fd)/\lf.length<=fd.length+1
   have fdlt:∀ fd:List Nat,(∀ x∈fd,zc5 s d x)->∀ x∈fd,x < s.n:=λ fd h x hx=>by
     obtain ⟨z,hz,_⟩:=(h x hx).last
     exact zqq c hz
   have fdlen:∀ fd:List Nat,fd.Nodup->(∀ x∈fd,zc5 s d x)->fd.length<=s.n:=λ fd nd h=>zdB _ _ nd (fdlt fd h)
   refine ⟨λ m σ H1=>∃ fd lf v4 v5,σ=[some (.ref (ad .hall)),some (.int d),some (.ref pf),some (.ref pl),v4,v5]/\Inv0 fd lf H1/\(∀ x,x=d\/x∈fd->x∈lf\/∀ y∈nxt s x,y∈fd)/\m=2 * (s.n - fd.length)+lf.length,⟨_,[],[d],none,none,rfl,⟨(Same.zaw nf).upd2 nl,?_,zab,List.nodup_nil,λ x hx=>(by cases hx),λ x hx=>.inl (List.mem_singleton.mp hx),by simp⟩,λ x hx=>.inl (by rcases hx with z | z; exact List.mem_singleton.mpr z; cases z),rfl⟩,?_⟩
   . rw [zae hfl,zab]; rfl
   rintro m σ H1 ⟨fd,lf,v4,v5,rfl,⟨s1,hf,hl,nd,hre,hlf,hll⟩,hcl,rfl⟩
   refine ⟨_,rfl,pl,_,rfl,.inl (SqL.of hl),_,_,rfl,rfl,_,rfl,?_⟩
   rcases List.eq_nil_or_concat lf with hlf0 | ⟨init,x,hix⟩
   . subst hlf0
     refine zaZ rfl ?_
     refine ⟨_,rfl,q H1 pf fd s1 hf nd λ x=>⟨hre x,λ hx=>?_⟩⟩
     have step:∀ z,(z=d\/z∈fd)->∀ y∈nxt s z,y∈fd:=λ z hz=>(hcl z hz).resolve_left (λ k=>nomatch k)
     have:∀ a b,Path (λ a b=>b∈nxt s a) a b->(a=d\/a∈fd)->b∈fd:=λ a b p=>by
       induction p with
       | one h=>exact λ ha=>step _ ha _ h
       | step h _ ih=>exact λ ha=>ih (.inr (step _ ha _ h))
     exact this d x hx (.inl rfl)
   . have hix:lf=init++[x]:=by rw [hix]; simp
     subst hix
     have hx:=hlf x (by simp)
     have hxn:x < s.n:=hx.elim (λ z=>z ▸ hd) λ z=>fdlt fd hre x z
     refine zbB ?_ ?_
     . unfold zal; simp
     refine ⟨λ σ' H'=>∃ fd' lf' v4 v5,σ'=[some (.ref (ad .hall)),some (.int d),some (.ref pf),some (.ref pl),v4,v5]/\Inv0 fd' lf' H'/\(∀ x,x=d\/x∈fd'->x∈lf'\/∀ y∈nxt s x,y∈fd')/\2 * (s.n - fd'.length)+lf'.length < 2 * (s.n - fd.length)+(init++[x]).length,λ σ' H' ⟨fd',lf',v4,v5,e,i,cl,lt⟩=>⟨_,lt,fd',lf',v4,v5,e,i,cl,rfl⟩,?_⟩
     have il:zal (init++[x])=zal init++[V.int (x:Int)]:=by unfold zal; rw [List.map_append]; rfl
     have hlast:(zal (init++[x]))[(zal (init++[x])).length - 1]?=some (V.int (x:Int)):=by
       rw [il]; simp
     refine ⟨_,rfl,.inl ⟨rfl,_,SqL.of hl⟩,pl,_,_,rfl,rfl,hl,hlast,?_⟩
     have hdrop:(zal (init++[x])).dropLast=zal init:=by rw [il,List.dropLast_concat]
     rw [hdrop]
     have fpl:∀ b o,H b=some o->b≠pl:=λ b o e=>zaf (Same.zaw nf b o e) nl
     have s2:Same H (upd H1 pl (.lst (zal init))):=λ b o e=>by rw [zae (fpl b o e)]; exact s1 b o e
     have hf2:upd H1 pl (.lst (zal init)) pf=some (.dK (zb9 fd)):=by rw [zae hfl]; exact hf
     obtain ⟨dx,hp⟩:=hh.hall
     refine ⟨_,rfl,_,dx,_,rfl,s2 _ _ hp,rfl,_,rfl,ρ,ad,s,kv,x,rfl,hh.grow s2,c,sm,hxn,λ H3 pn nf3 m3 hn=>⟨pn,rfl,⟨_,SqL.of hn⟩,?_⟩⟩
     have s3:Same H H3:=s2.trans m3
     have hf3:=m3 _ _ hf2
     have hl3:=m3 _ _ (zab (H:=H1) (a:=pl) (o:=.lst (zal init)))
     have hnf:pn≠pf:=λ z=>by rw [z,hf2] at nf3; cases nf3
     have hnpl:pn≠pl:=λ z=>by rw [z,zab] at nf3; cases nf3
     have hxr:∀ y∈nxt s x,zc5 s d y:=λ y hy=>hx.elim (λ z=>z ▸ .one hy) λ z=>(hre x z).trans (.one hy)
     have Hpn:∀ b o,H b=some o->b≠pn:=λ b o e=>zaf (s2 b o e) nf3
     have Hpf:∀ b o,H b=some o->b≠pf:=λ b o e=>zaf e nf
     refine zfv (xs:=zal (nxt s x)) (λ i σ' H'=>∃ new v5,σ'=[some (.ref (ad .hall)),some (.int d),some (.ref pf),some (.ref pl),some (V.int x),v5]/\Same H H'/\H' pn=some (.lst (zal (nxt s x)))/\H' pf=some (.dK (zb9 (fd++new)))/\H' pl=some (.lst (zal (init++new)))/\(fd++new).Nodup/\(∀ y∈new,y∈nxt s x)/\(∀ y∈(nxt s x).take i,y∈fd++new)) ⟨[],_,rfl,s3,hn,by rw [List.append_nil]; exact hf3,by rw [List.append_nil]; exact hl3,by rw [List.append_nil]; exact nd,(λ y hy=>by cases hy),(λ y hy=>by simp at hy)⟩ (λ i σ' H' _ ⟨_,_,_,_,e,_⟩=>SqL.of e) ?_ ?_
     . rintro i y σ' H' hy ⟨new,v5,rfl,s4,e1,e2,e3,e4,e5,e6⟩
       unfold zal at hy
       rw [List.getElem?_map] at hy
       obtain ⟨y,hyy,rfl⟩:=Option.map_eq_some_iff.mp hy
       replace hy:=hyy
       have hy1:=List.mem_of_getElem? hy
       have et:(nxt s x).take (i+1)=(nxt s x).take i++[y]:=by rw [List.take_add_one,hy]; rfl
       have dg:=DGet.k (k:=Sum.inl (y:Int)) e2
       have ln:(fd++new).length<=s.n:=fdlen _ e4 λ z hz=>(List.mem_append.mp hz).elim (hre z) λ h=>hxr z (e5 z h)
       refine ⟨_,rfl,_,rfl,_,_,rfl,dg,_,rfl,?_⟩
       refine zeb (!decide (y∈fd++new)) (by rw [zfu]) ?_
       by_cases hm:y∈fd++new
       . refine zaZ (by simp [hm]) ⟨new,_,rfl,s4,e1,e2,e3,e4,e5,?_⟩
         intro z hz
         rw [et] at hz
         rcases List.mem_append.mp hz with hz | hz
         . exact e6 z hz
         . rw [List.mem_singleton.mp hz]; exact hm
       . refine zbB (by simp [hm]) ?_
         refine ⟨_,rfl,_,rfl,_,_,rfl,DPut.k (k:=Sum.inl (y:Int)) e2 (by have:=sm.n; unfold zb9; rw [List.length_map,sizeLine_eq]; omega),?_⟩
         rw [zo0 hm]
         have e3':upd H' pf (.dK (zb9 (fd++new++[y]))) pl=some (.lst (zal (init++new))):=by rw [zae hfl.symm]; exact e3
         refine ⟨_,rfl,.inl ⟨rfl,_,SqL.of e3'⟩,_,rfl,_,_,_,rfl,rfl,e3',?_,?_⟩
         . have:=sm.n
           unfold zal; rw [List.length_map,sizeLine_eq]
           simp only [List.length_append,List.length_cons,List.length_nil] at hll ln ⊢
           omega
         . refine ⟨new++[y],_,rfl,?_,?_,?_,?_,?_,?_,?_⟩
           . intro b o e
             rw [zae (fpl b o e),zae (Hpf b o e)]; exact s4 b o e
           . rw [zae hnpl,zae hnf]; exact e1
           . rw [zae hfl,zab,List.append_assoc]
           . rw [zab]; unfold zal; simp
           . rw [<-List.append_assoc]
             exact List.nodup_append.mpr ⟨e4,by simp,λ a ha b hb=>by rw [List.mem_singleton.mp hb]; exact λ z=>hm (z ▸ ha)⟩
           . intro z hz
             rcases List.mem_append.mp hz with hz | hz
             . exact e5 z hz
             . rw [List.mem_singleton.mp hz]; exact hy1
           . intro z hz
             rw [<-List.append_assoc]
             rw [et] at hz
             rcases List.mem_append.mp hz with hz | hz
             . exact List.mem_append_left _ (e6 z hz)
             . exact List.mem_append_right _ hz
     . rintro σ' H' ⟨new,v5,rfl,s4,e1,e2,e3,e4,e5,e6⟩
       have e6:∀ y∈nxt s x,y∈fd++new:=by
         have:(zal (nxt s x)).length=(nxt s x).length:=by unfold zal; rw [List.length_map]
         rw [this,List.take_length] at e6; exact e6
       have re2:∀ z∈fd++new,zc5 s d z:=λ z hz=>(List.mem_append.mp hz).elim (hre z) λ h=>hxr z (e5 z h)
       have ln:(fd++new).length<=s.n:=fdlen _ e4 re2
       refine ⟨fd++new,init++new,_,_,rfl,⟨s4,e2,e3,e4,re2,λ z hz=>?_,?_⟩,λ z hz=>?_,?_⟩
       . rcases List.mem_append.mp hz with hz | hz
         . exact (hlf z (List.mem_append_left _ hz)).imp_right λ h=>List.mem_append_left _ h
         . exact .inr (List.mem_append_right _ hz)
       . simp only [List.length_append,List.length_cons,List.length_nil] at hll ⊢
         omega
       . have key:(z=d\/z∈fd)->z∈init++new\/∀ y∈nxt s z,y∈fd++new:=λ hz=>by
           rcases hcl z hz with h | h
           . rcases List.mem_append.mp h with h | h
             . exact .inl (List.mem_append_left _ h)
             . rw [List.mem_singleton.mp h]; exact .inr e6
           . exact .inr λ y hy=>List.mem_append_left _ (h y hy)
         rcases hz with hz | hz
         . exact key (.inl hz)
         . rcases List.mem_append.mp hz with hz | hz
           . exact key (.inr hz)
           . exact .inl (List.mem_append_right _ hz)
       . simp only [List.length_append,List.length_cons,List.length_nil] at ln ⊢
         omega
theorem zou {α β:Type} {f:α->β} (h:∀ a b,f a=f b->a=b) {l:List α} (nd:l.Nodup):(l.map f).Nodup:=by
 induction l with
 | nil=>simp
 | cons a r ih =>
  obtain ⟨n1,n2⟩:=List.nodup_cons.mp nd
  rw [List.map_cons]
  refine List.nodup_cons.mpr ⟨λ z=>?_,ih n2⟩
  obtain ⟨b,hb,e⟩:=List.mem_map.mp z
  exact n1 (h _ _ e ▸ hb)
theorem zk5 {l:List Nat} {ys:List Key} (pm:ys.Perm (l.map λ (n:Nat)=>Sum.inl (n:Int))) (so:ys.Pairwise λ a b=>kLt a b=true) :
   ∃ L:List Nat,ys=L.map (λ (n:Nat)=>Sum.inl (n:Int))/\(∀ x,x∈L↔x∈l)/\L.Pairwise (· < ·):=by
 obtain ⟨L,rfl⟩:∃ L:List Nat,ys=L.map (λ (n:Nat)=>Sum.inl (n:Int)):=by
   have:∀ y∈ys,∃ n:Nat,y=Sum.inl (n:Int):=λ y hy=>by
     obtain ⟨n,_,e⟩:=List.mem_map.mp (pm.mem_iff.mp hy)
     exact ⟨n,e.symm⟩
   clear so pm
   induction ys with
   | nil=>exact ⟨[],rfl⟩
   | cons y r ih =>
     obtain ⟨n,rfl⟩:=this _ List.mem_cons_self
     obtain ⟨L,rfl⟩:=ih λ y hy=>this y (List.mem_cons_of_mem _ hy)
     exact ⟨n::L,rfl⟩
 refine ⟨L,rfl,λ x=>?_,?_⟩
 . have:=pm.mem_iff (a:=Sum.inl (x:Int))
   rw [List.mem_map,List.mem_map] at this
   constructor
   . intro h
     obtain ⟨y,hy,e⟩:=this.mp ⟨x,h,rfl⟩
     rw [zcQ.mp e] at hy; exact hy
   . intro h
     obtain ⟨y,hy,e⟩:=this.mpr ⟨x,h,rfl⟩
     rw [zcQ.mp e] at hy; exact hy
 . rw [List.pairwise_map] at so
   exact so.imp λ {a b} h=>by
     have:decide ((a:Int) < (b:Int))=true:=h
     have:=of_decide_eq_true this
     omega
theorem zjw {xs:List V} {x:V}:atI (xs++[x]) (-1)=some x:=by
 have e:ixN (xs++[x]).length (-1)=some xs.length:=by
  unfold ixN
  rw [List.length_append,List.length_singleton,if_neg (by omega),if_pos (by omega)]
  congr 1; omega
 unfold atI
 rw [e]; simp
theorem zcV (T:Txt K mg A F):FnOk P w K mg base (CX1 P w) 5 (F.f 22) (F.fd 22) ["self","deed"] (zm4 A):=by
 have G_Hall_come_to:=@zhe P w K mg base A F T
 refine T.zde.okN za5 (λ vs H Q E h=>?_) (λ cdv A' outer s H vs Q E hr h=>?_)
 . obtain ⟨ρ,ad,s,kv,d,rfl,_⟩:=h
   rfl
 . obtain ⟨ρ,ad,s,kv,d,rfl,hh,c,hd0,th,sm,hd,q⟩:=h
   have hu:=zey hr
   obtain ⟨dx,hp⟩:=hh.hall
   have RG:=ziS c th
   refine ⟨_,(zac (zaI (i:=2) za5.nd rfl (by walk_at "loc") (zax (pv 0) T.zak T.zeB G_Hall_come_to (hmr hr) T.zeC .nil zaD (zaa (pv 1) zad)))
     (zac (zbD (zff (zg7 hu (pv 1) (pv 2))) (zah (zaz zgk)) zaO)
     (zac (zaI (i:=3) za5.nd rfl (by walk_at "loc") (zbi (zgy rfl) (by rfl) T.zgK boot_sorted (zaa (pv 2) zad)))
     (zac (zfg PassesOwn.never (zff (zg7 hu (pv 1) (zax (pv 0) T.zak T.zeB G_Hall_come_to (hmr hr) T.zeC .nil zaD (zaa (zba zbr (pv 3) (zq8 znN zan) (λ _ _=>rfl)) zad)))) (zah (zaH (zoj PySem.F.plainAttrs_list PySem.F.slot_list_pop PySem.F.type_list_pop zox (pv 3)))))
     (zah (zaz (zba zbr (pv 3) (zq8 znN zan) (λ _ _=>rfl)))))))),?_⟩
   refine ⟨_,rfl,_,dx,_,rfl,hp,rfl,_,rfl,ρ,ad,s,kv,d,rfl,hh,c,sm,hd,λ H1 pf fd m1 hf nd hre=>?_⟩
   have dg:=DGet.k (k:=Sum.inl (d:Int)) hf
   refine ⟨_,rfl,_,rfl,_,_,rfl,dg,_,rfl,?_⟩
   refine zeb (!decide (d∈fd)) (by rw [zfu]) ?_
   by_cases hm:d∈fd
   rotate_left
   . refine zbB (by simp [hm]) ?_
     have:=q H1 m1
     rw [RG.1 λ z=>hm ((hre d).mpr ((zdl c hd0).mpr z))] at this
     exact this
   refine zaZ (by simp [hm]) ?_
   have fl:∀ x∈fd,x < s.n:=λ x hx=>by
     obtain ⟨z,hz,_⟩:=((hre x).mp hx).last
     exact zqq c hz
   have len:fd.length<=s.n:=zdB _ _ nd fl
   refine ⟨_,rfl,pf,_,rfl,.inr ⟨_,hf,rfl⟩,?_,?_,?_,λ ys pr pm so nr=>?_⟩
   . rw [show (zb9 fd).map (·.1)=fd.map λ (n:Nat)=>Sum.inl (n:Int) by unfold zb9; rw [List.map_map]; rfl]
     exact zou (λ a b z=>zcQ.mp z) nd
   . refine .inl λ k hk=>?_
     obtain ⟨y,hk2,rfl⟩:=List.mem_map.mp hk
     obtain ⟨x,_,e⟩:=List.mem_map.mp hk2
     exact ⟨_,by rw [<-e]⟩
   . have:=sm.n
     unfold zb9; rw [List.length_map,List.length_map]; omega
   obtain ⟨L,rfl,hL,sL⟩:=zk5 (l:=fd) (by rw [show (zb9 fd).map (·.1)=fd.map λ (n:Nat)=>Sum.inl (n:Int) by unfold zb9; rw [List.map_map]; rfl] at pm; exact pm) so
   have eL:List.map kV (L.map λ (n:Nat)=>Sum.inl (n:Int))=zal L:=by unfold zal; rw [List.map_map]; rfl
   rw [eL]
   have hdd:zc5 s d d:=(hre d).mp hm
   have s1:Same H (upd H1 pr (.lst (zal L))):=m1.upd2 nr
   have frm:∀ b o,H b=some o->b≠pr:=λ b o e=>zaf (m1 b o e) nr
   refine ⟨λ m σ H2=>∃ pre rest,σ=[some (.ref (ad .hall)),some (.int d),some (.ref pf),some (.ref pr)]/\m=pre.length/\L=pre++rest/\d∈pre/\(∀ x∈rest,¬ zc5 s x d)/\Same H H2/\H2 pr=some (.lst (zal pre)),⟨_,L,[],rfl,rfl,by simp,(hL d).mpr hm,(λ x hx=>by cases hx),s1,zab⟩,?_⟩
   rintro m σ H2 ⟨pre,rest,rfl,rfl,eq,hdp,hrest,s2,hr2⟩
   have hne:pre≠[]:=λ z=>by rw [z] at hdp; cases hdp
   obtain ⟨init,g,rfl⟩:∃ init g,pre=init++[g]:=⟨pre.dropLast,pre.getLast hne,(List.dropLast_concat_getLast hne).symm⟩
   have il:zal (init++[g])=zal init++[V.int (g:Int)]:=by unfold zal; rw [List.map_append]; rfl
   have hat:atI (zal (init++[g])) (-1)=some (V.int (g:Int)):=by
     rw [il]; exact zjw
   have hgL:g∈L:=by rw [eq]; simp
   have hgn:g < s.n:=fl g ((hL g).mp hgL)
   refine ⟨_,rfl,_,rfl,_,dx,_,rfl,s2 _ _ hp,rfl,_,rfl,_,rfl,_,_,_,_,rfl,rfl,SqL.of hr2,hat,ρ,ad,s,kv,g,rfl,hh.grow s2,c,sm,hgn,λ H3 pg gd m3 hg ndg hreg=>?_⟩
   have dg3:=DGet.k (k:=Sum.inl (d:Int)) hg
   refine ⟨_,_,rfl,dg3,_,rfl,?_⟩
   refine zeb (!decide (d∈gd)) (by rw [zfu]) ?_
   have hr3:=m3 _ _ hr2
   have s3:=s2.trans m3
   by_cases hgd:d∈gd
   . refine zaZ (by simp [hgd]) ?_
     refine ⟨_,rfl,_,rfl,_,_,_,_,rfl,rfl,SqL.of hr3,hat,?_⟩
     have:=q H3 s3
     rw [RG.2 g ((zdl c hd0).mp ((hre g).mp ((hL g).mp hgL))) ((zdl c hd0).mp ((hreg d).mp hgd)) λ x h1 h2=>?_] at this
     . exact this
     . have hx:x∈L:=(hL x).mpr ((hre x).mpr ((zdl c hd0).mpr h1))
       rw [eq] at hx
       rcases List.mem_append.mp hx with hx | hx
       . rw [eq] at sL
         have sp:=(List.pairwise_append.mp sL).1
         rcases List.mem_append.mp hx with hx | hx
         . exact Nat.le_of_lt ((List.pairwise_append.mp sp).2.2 x hx g (by simp))
         . rw [List.mem_singleton.mp hx]; exact Nat.le_refl _
       . exact absurd ((zdl c hd0).mpr h2) (hrest x hx)
   . refine zbB (by simp [hgd]) ?_
     have hgd2:¬ zc5 s g d:=λ z=>hgd ((hreg d).mpr z)
     refine ⟨λ σ' H'=>∃ pre' rest',σ'=[some (.ref (ad .hall)),some (.int d),some (.ref pf),some (.ref pr)]/\pre'.length < (init++[g]).length/\L=pre'++rest'/\d∈pre'/\(∀ x∈rest',¬ zc5 s x d)/\Same H H'/\H' pr=some (.lst (zal pre')),λ σ' H' ⟨pre',rest',e,lt,a1,a2,a3,a4,a5⟩=>⟨_,lt,pre',rest',e,rfl,a1,a2,a3,a4,a5⟩,?_⟩
     have hlast:(zal (init++[g]))[(zal (init++[g])).length - 1]?=some (V.int (g:Int)):=by
       rw [il]; simp
     refine ⟨_,rfl,.inl ⟨rfl,_,SqL.of hr3⟩,pr,_,_,rfl,rfl,hr3,hlast,?_⟩
     have hdrop:(zal (init++[g])).dropLast=zal init:=by rw [il,List.dropLast_concat]
     rw [hdrop]
     refine ⟨init,g::rest,rfl,by simp,by rw [eq]; simp,?_,?_,λ b o e=>by rw [zae (frm b o e)]; exact s3 b o e,zab⟩
     . rcases List.mem_append.mp hdp with z | z
       . exact z
       . rw [<-List.mem_singleton.mp z] at hgd2; exact absurd hdd hgd2
     . intro x hx
       rcases List.mem_cons.mp hx with rfl | hx
       . exact hgd2
       . exact hrest x hx
theorem zke (T:Txt K mg A F):FnOk P w K mg base (CX1 P w) 2 (F.f 24) (F.fd 24) ["self","deed"] (zrS A):=by
 have G_Record_written:=@zdi P w K mg base A F T
 refine T.zma.okN zdX (λ vs H Q E h=>?_) (λ cdv A' outer s H vs Q E hr h=>?_)
 . obtain ⟨ρ,ad,s,kv,d,rfl,_⟩:=h
   rfl
 . obtain ⟨ρ,ad,s,kv,d,rfl,hh,sm,hd,hks,q⟩:=h
   have hu:=zey hr
   obtain ⟨dx,hp⟩:=hh.hall
   obtain ⟨wv,ra,_⟩:=hh.recAt hd
   obtain ⟨dr,hrc⟩:=ra.ob
   refine ⟨_,(zah (zgj PassesOwn.never rfl (zda (zdy (zba zbr (zam (pv 0) rfl) (pv 1) (λ _ _=>rfl)) T.zat T.zdG G_Record_written (hmr hr) T.zdL .nil zaD)) (zog (n:=2) rfl (zck (za0 (i:=2) zdX.nd rfl (by walk_at "loc")) (zck (za0 (i:=3) zdX.nd rfl (by walk_at "loc")) ziX))) (zah (zbD (zff (zom hu (pv 2) (zam (pv 0) rfl))) (zah (zg3 hu (zam (pv 0) rfl) (pv 2) (zd4 hu (zam (pv 0) rfl) (pv 2) (λ _ _=>rfl)) rfl)) (zah (zaH (zmu (zam (pv 0) rfl) (pv 2) zgk ⟨rfl,rfl,rfl,rfl⟩))))))),?_⟩
   refine ⟨_,rfl,_,_,dx,_,_,rfl,hp,T.zak,T.zaA,rfl,_,rfl,_,_,_,_,rfl,rfl,SqL.of hh.recs,zbs (hh.zfe hd),_,dr,_,rfl,hrc,rfl,_,_,_,_,_,rfl,ra,by have:=sm.dn d; omega,λ H1 ql us m1 hq tu=>⟨ql,rfl,⟨_,SqL.of hq⟩,?_⟩⟩
   have hul:us.length=(zas (s.deed d).done).length:=by rw [tu.length,List.length_map]
   refine zfv (xs:=us) (λ i σ H2=>∃ v2 v3,σ=[some (.ref (ad .hall)),some (.int d),v2,v3]/\zai A ρ ad { s with book:=ub kv s.book (((zas (s.deed d).done).take i).map (·.1)) } kv H2/\Frame ρ H ρ H2/\H2 ql=some (.lst us)/\zau H2 us ((zas (s.deed d).done).map zig)) ⟨_,_,rfl,hh.grow m1,Frame.grow m1,hq,tu⟩ (λ i σ H2 _ ⟨_,_,_,_,_,e,_⟩=>SqL.of e) ?_ ?_
   . rintro i x σ H2 hx ⟨v2,v3,rfl,h2,f2,hq2,t2⟩
     obtain ⟨y,hy1,r,rfl,hr1⟩:=zcY t2 hx
     rw [List.getElem?_map] at hy1
     obtain ⟨⟨k,v⟩,ha,rfl⟩:=Option.map_eq_some_iff.mp hy1
     have e1:(zas (s.deed d).done).take (i+1)=(zas (s.deed d).done).take i++[(k,v)]:=by rw [List.take_add_one,ha]; rfl
     obtain ⟨dx2,hp2⟩:=h2.hall
     obtain ⟨l,hl,hb⟩:=h2.zcl
     have hb:zbm l (ub kv s.book (((zas (s.deed d).done).take i).map (·.1))):=hb
     obtain ⟨lk,hlk,hbk⟩:=h2.zdd
     have dg:=DGet.k (k:=Sum.inr k) hlk
     rw [hbk.val] at dg
     have hll:l.length<=4:=Nat.le_trans (hb.len sm.snd λ j hj=>by
      unfold ub at hj
      by_cases z:j∈((zas (s.deed d).done).take i).map (·.1)
      . rw [if_pos z] at hj; exact hks j hj
      . rw [if_neg z] at hj; exact sm.bs j hj) sm.seen
     have step:∀ (H3:Hp) (l3:List (Str×Int)),H3 (ad .zcl)=some (.dK (bkV l3))->zcs H2 (ad .zcl) H3->zbm l3 (up (ub kv s.book (((zas (s.deed d).done).take i).map (·.1))) k (kv k))->∃ v2 v3,[some (.ref (ad .hall)),some (.int d),some (V.str k),some (V.int v)]=[some (.ref (ad .hall)),some (.int (d:Int)),v2,v3]/\zai A ρ ad { s with book:=ub kv s.book (((zas (s.deed d).done).take (i+1)).map (·.1)) } kv H3/\Frame ρ H ρ H3/\H3 ql=some (.lst us)/\zau H3 us ((zas (s.deed d).done).map zig):=λ H3 l3 e3 k3 b3=>by
      obtain ⟨h3,f3⟩:=h2.zmo T.ok e3 k3 b3
      refine ⟨_,_,rfl,?_,f2.trans f3,k3 _ _ hq2 (zbA hq2 hl (λ z=>nomatch z)),zau.mono (Imm.zfX T.ok h2 (r:=.zcl) trivial k3) t2⟩
      rw [e1,List.map_append]
      rw [zqK] at h3
      exact h3
     refine ⟨r,_,rfl,SqT.of hr1,rfl,_,_,rfl,_,_,rfl,rfl,?_⟩
     refine ⟨_,rfl,_,rfl,_,_,dx2,_,_,rfl,hp2,T.zak,T.zbp,rfl,_,_,rfl,dg,_,rfl,?_⟩
     cases hkv:kv k with
     | some u =>
      rw [hkv] at dg
      refine zbB rfl ?_
      refine ⟨_,rfl,_,_,dx2,_,_,rfl,hp2,T.zak,T.zbp,rfl,_,rfl,_,_,rfl,dg,_,rfl,_,_,dx2,_,_,rfl,hp2,T.zak,T.zbt,rfl,_,rfl,_,_,rfl,DPut.k (k:=Sum.inr k) hl (by rw [zlR,sizeLine_eq]; omega),?_⟩
      rw [zlQ]
      refine step _ _ zab (λ b o e hb=>by rw [zae hb]; exact e) ?_
      rw [hkv]
      exact hb.put k u
     | none =>
      refine zaZ rfl ?_
      refine ⟨_,rfl,_,_,dx2,_,_,rfl,hp2,T.zak,T.zbt,rfl,_,rfl,.inl ⟨_,.of hl⟩,_,rfl,_,Sum.inr k,hl,rfl,λ v hv=>?_,λ hv=>?_⟩
      . rw [zqc]
        refine step _ _ zab (λ b o e hb=>by rw [zae hb]; exact e) ?_
        rw [hkv]
        exact hb.drop k
      . refine step _ _ hl (λ b o e _=>e) ?_
        rw [hkv]
        refine hb.zo9 ?_
        rw [hb.val] at hv
        simpa using hv
   . rintro σ H2 ⟨v2,v3,rfl,h2,f2,_⟩
     rw [hul,List.take_length,znK] at h2
     exact q H2 h2 f2
theorem zh2 (T:Txt K mg A F):FnOk P w K mg base (CX1 P w) 4 (F.f 29) (F.fd 29) ["self","key"] (zqU A):=by
 have G_Desk_lets_first:=@zfl P w K mg base A F T
 have G_Hall_carry_out:=@zdk P w K mg base A F T
 refine T.zjD.okN zc6 (λ vs H Q E h=>?_) (λ cdv A' outer s H vs Q E hr h=>?_)
 . obtain ⟨ρ,ad,s,kv,k,T,rfl,_⟩:=h
   rfl
 . obtain ⟨ρ,ad,s,kv,k,T0,rfl,hh,c,L,hk,q⟩:=h
   have hu:=zey hr
   obtain ⟨dx,hp⟩:=hh.hall
   refine ⟨_,(zac (zaI (i:=2) zc6.nd rfl (by walk_at "loc") (zd4 hu (zam (pv 0) rfl) (pv 1) (λ _ _=>rfl)))
    (zah (zfg PassesOwn.never (zil (zdy (pv 2) T.zaG T.zfV G_Desk_lets_first (hmr hr) T.zga .nil zaD)) (zac (zaI (i:=3) zc6.nd rfl (by walk_at "loc") (zdz PySem.F.plainAttrs_list PySem.F.slot_list_pop PySem.F.type_list_pop zpQ (zam (pv 2) rfl) (zaa zan zad)))
    (zah (zaH (zax (pv 0) T.zak T.zdH G_Hall_carry_out (hmr hr) T.zdM .nil zaD (zaa (zba zb3 (pv 3) zan (λ _ _=>rfl)) (zaa (zam (zba zbr (zam (pv 0) rfl) (zba zb3 (pv 3) zan (λ _ _=>rfl)) (λ _ _=>rfl)) rfl) zad))))))))),?_⟩
   refine ⟨_,rfl,_,_,dx,_,_,rfl,hp,T.zak,T.zbb,rfl,_,rfl,_,_,rfl,hh.zev hk,?_⟩
   refine ⟨λ m σ H2=>∃ t v3,σ=[some (.ref (ad .hall)),some (.str k),some (.ref (ad (.desk k))),v3]/\m=(t.rows k).length/\zai A ρ ad t kv H2/\Frame ρ H ρ H2/\Core t none/\Lim t T0/\t.seen=s.seen/\zbu (s.rows k).length s k=zbu (t.rows k).length t k,⟨_,s,none,rfl,rfl,hh,.refl,c,L,rfl,rfl⟩,?_⟩
   rintro m σ H2 ⟨t,v3,rfl,rfl,h2,f2,c2,L2,es,eg⟩
   have hk2:k∈t.seen:=by rw [es]; exact hk
   have sm:=L2.sm c2
   have D:=h2.desk hk2
   obtain ⟨dd,hdk⟩:=D.ob
   refine ⟨_,rfl,_,dd,_,rfl,hdk,rfl,_,_,_,_,_,rfl,D,sm.hl k,sm.hn k,λ H3 m3=>?_⟩
   refine ⟨_,rfl,?_⟩
   cases hrw:t.rows k with
   | nil =>
    refine zaZ rfl (q H3 ?_ (f2.trans (Frame.grow m3)))
    rw [eg,zft hrw]; exact h2.grow m3
   | cons pr r =>
    obtain ⟨d,w'⟩:=pr
    cases hlt:lets (t.held k) d w' with
    | false =>
     refine zaZ hlt (q H3 ?_ (f2.trans (Frame.grow m3)))
     rw [eg,zes hrw hlt]; exact h2.grow m3
    | true =>
     refine zbB hlt ?_
     have h3:=h2.grow m3
     have D3:=h3.desk hk2
     obtain ⟨us,hus,tus⟩:=D3.rw
     obtain ⟨dd3,hdk3⟩:=D3.ob
     rw [hrw] at tus
     obtain ⟨u0,us',rfl,⟨pp,rfl,hpp⟩,tus'⟩:∃ u0 us',us=u0::us'/\TupAt H3 u0 (zbY (d,w'))/\zau H3 us' (r.map zbY):=by
       cases tus with
       | cons a b=>exact ⟨_,_,rfl,a,b⟩
     have kp4:zcs H3 (ad (.row k)) (upd H3 (ad (.row k)) (.lst us')):=λ b o e hb=>by rw [zae hb]; exact e
     have im4:=Imm.zfX T.ok h3 (r:=.row k) hk2 kp4
     obtain ⟨h4,f4⟩:=h3.zqj T.ok hk2 (r:=r) zab kp4 (zau.mono im4 tus')
     have hpp4:=im4.tup _ _ hpp
     refine ⟨λ σ' H'=>∃ t' v3,σ'=[some (.ref (ad .hall)),some (.str k),some (.ref (ad (.desk k))),v3]/\(t'.rows k).length < ((d,w')::r).length/\zai A ρ ad t' kv H'/\Frame ρ H ρ H'/\Core t' none/\Lim t' T0/\t'.seen=s.seen/\zbu (s.rows k).length s k=zbu (t'.rows k).length t' k,λ σ' H' ⟨t',v3,e,lt,a1,a2,a3,a4,a5,a6⟩=>⟨_,lt,t',v3,e,rfl,a1,a2,a3,a4,a5,a6⟩,?_⟩
     refine ⟨_,rfl,_,_,dd3,_,_,rfl,hdk3,T.zaG,T.zaP,rfl,.inl ⟨rfl,_,SqL.of hus⟩,ad (.row k),_,0,0,_,rfl,rfl,hus,by decide,by decide,(zoN (n:=(V.ref pp::us').length) (i:=0) (j:=0) (by unfold ixN; rw [if_pos (by decide),if_pos (by simp)]; rfl)).1,rfl,?_⟩
     show tSeq _ _ _ _ (upd H3 (ad (.row k)) (.lst us'))
     generalize upd H3 (ad (.row k)) (.lst us')=H4 at *
     have hm:(d,w')∈t.rows k:=by rw [hrw]; exact List.mem_cons_self
     obtain ⟨hst,a,ha,hak,haw⟩:=c2.rAct k _ hm
     have hdn:d < t.n:=c2.lt (.inr hst)
     obtain ⟨dr,wv,hr4,hw4⟩:=h4.rcd hdn
     obtain ⟨dx4,hp4⟩:=h4.hall
     have hwo:wantOf (t.deed d)=some a:=by
       have hst:(t.deed d).st=.waiting:=hst
       unfold wantOf; rw [if_pos hst]; exact ha
     have hw4:zcr A H4 wv (wantOf (t.deed d)):=hw4
     rw [hwo] at hw4
     have sm4:Sm { t with rows:=up t.rows k r }:=⟨sm.n,sm.seen,sm.snd,sm.dn,sm.lg,sm.kp,sm.hl,sm.hn,(λ j=>by
       show (up t.rows k r j).length<=1000
       by_cases z:j=k
       . subst z; rw [zag]; have:=sm.rl j; rw [hrw,List.length_cons] at this; omega
       . rw [zao z]; exact sm.rl j),sm.bs⟩
     refine ⟨_,rfl,_,dx4,_,rfl,hp4,rfl,_,rfl,pp,_,_,_,rfl,rfl,SqT.of hpp4,rfl,_,rfl,_,_,dx4,_,_,rfl,hp4,T.zak,T.zaA,rfl,_,rfl,pp,_,_,_,rfl,rfl,SqT.of hpp4,rfl,_,_,_,_,rfl,rfl,SqL.of h4.recs,zbs (h4.zfe hdn),_,_,dr,_,_,rfl,hr4,T.zat,T.zaV,rfl,ρ,ad,_,kv,d,wv,a,rfl,h4,sm4,hdn,by rw [hak]; exact hk2,hw4,λ H5 h5 f5=>?_⟩
     have hak:a.key=k:=hak
     have haw:a.wr=w':=haw
     rw [hak,haw,<-znr c2 hrw] at h5
     have e1:zbu 1 t k=doIt (take { t with rows:=up t.rows k r } d k w') d a:=by
       rw [zet hrw hlt ha]; rfl
     rw [<-e1] at h5
     have er:(zbu 1 t k).rows k=r:=by
       rw [e1,zcR]; exact zag
     obtain ⟨g1,g2⟩:=znq (k:=k) (f:=1) c2
     refine ⟨zbu 1 t k,_,rfl,?_,h5,((f2.trans (Frame.grow m3)).trans f4).trans f5,c2.zbu,⟨Ext.zbu L2.e c2,L2.t,by rw [g2]; exact L2.n,by rw [g1]; exact L2.sn⟩,by rw [g1]; exact es,?_⟩
     . rw [er,List.length_cons]; omega
     . rw [eg,er,e1,hrw,List.length_cons,zet hrw hlt ha]
theorem zhd (T:Txt K mg A F):FnOk P w K mg base (CX1 P w) 5 (F.f 30) (F.fd 30) ["self","deed","state"] (zsV A):=by
 have G_Record_touched_keys:=@zdO P w K mg base A F T
 have G_Desk_leave:=@zi5 P w K mg base A F T
 have G_Hall_let_on:=@zh2 P w K mg base A F T
 refine T.znG.okN zcO (λ vs H Q E h=>?_) (λ cdv A' outer s H vs Q E hr h=>?_)
 . obtain ⟨ρ,ad,s,s0,kv,d,st,T0,rfl,_⟩:=h
   rfl
 . obtain ⟨ρ,ad,s,s0,kv,d,st,T0,rfl,hh,c0,L0,hd0,e1,e2,e3,e4,e5,c1,L1,hst,hd,q⟩:=h
   have hu:=zey hr
   obtain ⟨dx,hp⟩:=hh.hall
   obtain ⟨wv,ra,hw⟩:=hh.recAt hd
   obtain ⟨dr,hrc⟩:=ra.ob
   have sm0:=L0.sm c0
   have ek:(s.deed d).done.map (·.key)++zcX (wantOf (s.deed d))=touched s0 d:=by rw [zgs]; unfold touched; rw [e1]
   have hts:∀ k∈touched s0 d,k∈s.seen:=λ k hk=>by rw [e4]; exact zdV c0 L0.e k hk
   have hlen:(ordS (touched s0 d)).length<=4:=Nat.le_trans (zpN _ s0.seen (zdV c0 L0.e) L0.e.snd) L0.sn
   refine ⟨_,(zac (zaI (i:=3) zcO.nd rfl (by walk_at "loc") (zba zbr (zam (pv 0) rfl) (pv 1) (λ _ _=>rfl)))
     (zac (zaI (i:=4) zcO.nd rfl (by walk_at "loc") (zdy (pv 3) T.zat T.zd6 G_Record_touched_keys (hmr hr) T.zeh .nil zaD))
     (zac (zbM (pv 3) (pv 2) rfl)
     (zac (zbM (pv 3) zgk rfl)
     (zac (zgj PassesOwn.never rfl (zms (pv 4)) (za0 (i:=5) zcO.nd rfl (by walk_at "loc")) (zah (zaH (zax (zd4 hu (zam (pv 0) rfl) (pv 5) (λ _ _=>rfl)) T.zaG T.zkr G_Desk_leave (hmr hr) T.zkU .nil zaD (zaa (pv 1) zad)))))
     (zah (zgj PassesOwn.never rfl (zms (pv 4)) (za0 (i:=5) zcO.nd rfl (by walk_at "loc")) (zah (zaH (zax (pv 0) T.zak T.zja G_Hall_let_on (hmr hr) T.zjt .nil zaD (zaa (pv 5) zad))))))))))),?_⟩
   refine ⟨_,rfl,_,_,dx,_,_,rfl,hp,T.zak,T.zaA,rfl,_,rfl,_,_,_,_,rfl,rfl,SqL.of hh.recs,zbs (hh.zfe hd),?_⟩
   refine ⟨_,rfl,_,dr,_,rfl,hrc,rfl,_,_,_,_,_,_,rfl,ra,hw,by have:=sm0.dn d; rw [e1]; omega,by rw [ek]; omega,λ H1 qt nq m1 hq=>?_⟩
   rw [ek] at hq
   have h1:=hh.grow m1
   refine ⟨_,rfl,_,rfl,_,_,dr,_,rfl,m1 _ _ hrc,T.zat,T.zay,Nat.le_of_ble_eq_true rfl,_,rfl,_,_,dr,_,rfl,zab,T.zat,T.zaV,Nat.le_of_ble_eq_true rfl,?_⟩
   rw [ziL]
   have kp2:zcs H1 (ad (.rcd d)) (upd H1 (ad (.rcd d)) (.ins A.zaB dr (recF st (ad (.did d)) .non))):=λ b o e hb=>by rw [zae hb]; exact e
   obtain ⟨h2,f2⟩:=h1.zn6 (H':=upd H1 (ad (.rcd d)) (.ins A.zaB dr (recF st (ad (.did d)) .non))) T.ok hd (D:={ s.deed d with st:=st }) (w:=.non) zab kp2 (by unfold wantOf; rw [if_neg hst]; rfl) rfl
   have hq2:=(Imm.zfX T.ok h1 (r:=.rcd d) hd kp2).tup _ _ hq
   have f02:=(Frame.grow (ρ:=ρ) m1).trans f2
   have ro0:ρ qt=.other:=hh.fr _ nq
   show tSeq _ _ _ _ (upd H1 (ad (.rcd d)) (.ins A.zaB dr (recF st (ad (.did d)) .non)))
   generalize upd H1 (ad (.rcd d)) (.ins A.zaB dr (recF st (ad (.did d)) .non))=H2 at *
   have h2:zai A ρ ad (zfa s d st) kv H2:=h2
   refine ⟨_,rfl,qt,rfl,⟨_,SqT.of hq2⟩,?_⟩
   refine zo1 (xs:=(ordS (touched s0 d)).map V.str) (λ i σ H'=>∃ ρ' ad' v5,σ=[some (.ref (ad .hall)),some (.int d),some (.str (stS st)),some (.ref (ad (.rcd d))),some (.ref qt),v5]/\ad' Role.hall=ad .hall/\zai A ρ' ad' (((ordS (touched s0 d)).take i).foldl (λ s k=>zd8 s d k) (zfa s d st)) kv H'/\Frame ρ H ρ' H'/\H' qt=some (.tup ((ordS (touched s0 d)).map V.str))/\ρ' qt=.other) ⟨ρ,ad,_,rfl,rfl,h2,f02,hq2,ro0⟩ (λ i σ H' _ ⟨_,_,_,_,_,_,_,e,_⟩=>SqT.of e) ?_ ?_
   . rintro i x σ H3 hx ⟨ρ3,ad3,v5,rfl,ea,h3,f3,hq3,ro3⟩
     rw [List.getElem?_map] at hx
     obtain ⟨k,hk,rfl⟩:=Option.map_eq_some_iff.mp hx
     have e6:(ordS (touched s0 d)).take (i+1)=(ordS (touched s0 d)).take i++[k]:=by rw [List.take_add_one,hk]; rfl
     have hks:k∈s.seen:=hts k (zbd.mp (List.mem_of_getElem? hk))
     have hks3:k∈(((ordS (touched s0 d)).take i).foldl (λ s k=>zd8 s d k) (zfa s d st)).seen:=by rw [ze2]; exact hks
     obtain ⟨dx3,hp3⟩:=h3.hall
     have D:=h3.desk hks3
     obtain ⟨dd,hdk⟩:=D.ob
     rw [<-ea]
     refine ⟨_,rfl,_,_,dx3,_,_,rfl,hp3,T.zak,T.zbb,rfl,_,rfl,_,_,rfl,h3.zev hks3,_,dd,_,rfl,hdk,rfl,_,rfl,_,_,_,dd,_,_,d,rfl,D,hdk,?_,λ H4 rw' us n0 a1 a2 a3 a4 a5=>?_⟩
     . rw [(zfq d _ _).2]
       show (if k∈(ordS (touched s0 d)).take i then less (s.rows k) d else s.rows k).length<=1000
       have:=sm0.rl k
       rw [e3]
       split
       . exact Nat.le_trans (List.length_filter_le _ _) this
       . exact this
     . obtain ⟨ρ4,ad4,ea4,h4,f4⟩:=h3.leave T.ok hks3 n0 a1 a2 a3 a4 a5
       refine ⟨ρ4,ad4,_,by rw [ea]; rfl,by rw [ea4],?_,f3.trans f4,(f4 _ _ hq3 ro3).1,(f4 _ _ hq3 ro3).2⟩
       rw [e6,List.foldl_append]; exact h4
   . rintro σ H3 ⟨ρ3,ad3,v5,rfl,ea,h3,f3,hq3,ro3⟩
     rw [List.length_map,List.take_length,zkw λ k hk=>?_] at h3
     rotate_left
     . have:=zhh (d:=d) (k:=k) c0 L0.e λ z=>hk (zbd.mpr z)
       show less (s.held k) d=s.held k/\less (s.rows k) d=s.rows k
       rw [e2,e3]; exact this
     have ef:free ordS (zfa s d st) d=zaK (letGo (zfa s d st) d) (ordS (touched s0 d)):=zkE ordS zpM c0 L0.e hd0 c1 e2 e3 e4
     refine ⟨_,rfl,qt,rfl,⟨_,SqT.of hq3⟩,?_⟩
     refine zo1 (xs:=(ordS (touched s0 d)).map V.str) (λ i σ H'=>∃ v5,σ=[some (.ref (ad .hall)),some (.int d),some (.str (stS st)),some (.ref (ad (.rcd d))),some (.ref qt),v5]/\zai A ρ3 ad3 (zaK (letGo (zfa s d st) d) ((ordS (touched s0 d)).take i)) kv H'/\Frame ρ H ρ3 H'/\H' qt=some (.tup ((ordS (touched s0 d)).map V.str))) ⟨_,rfl,h3,f3,hq3⟩ (λ i σ H' _ ⟨_,_,_,_,e⟩=>SqT.of e) ?_ ?_
     . rintro i x σ H4 hx ⟨v5,rfl,h4,f4,hq4⟩
       rw [List.getElem?_map] at hx
       obtain ⟨k,hk,rfl⟩:=Option.map_eq_some_iff.mp hx
       have e6:(ordS (touched s0 d)).take (i+1)=(ordS (touched s0 d)).take i++[k]:=by rw [List.take_add_one,hk]; rfl
       have hks:k∈s.seen:=hts k (zbd.mp (List.mem_of_getElem? hk))
       obtain ⟨dx4,hp4⟩:=h4.hall
       have c4:Core (zaK (letGo (zfa s d st) d) ((ordS (touched s0 d)).take i)) none:=Core.zaK c1
       have s4:=zdC ((ordS (touched s0 d)).take i) (letGo (zfa s d st) d) c1
       have n4:=zjj ((ordS (touched s0 d)).take i) (letGo (zfa s d st) d) c1
       rw [<-ea]
       refine ⟨_,rfl,_,dx4,_,rfl,hp4,rfl,_,rfl,ρ3,ad3,_,kv,k,T0,rfl,h4,c4,⟨L1.e.zaK c1,L1.t,by rw [n4]; exact L1.n,by rw [s4]; exact L1.sn⟩,by rw [s4]; exact hks,λ H5 h5 f5=>⟨_,by rw [ea]; rfl,?_,f4.trans f5,(f5 _ _ hq4 ro3).1⟩⟩
       rw [e6,ziz]; exact h5
     . rintro σ H4 ⟨v5,rfl,h4,f4,hq4⟩
       rw [List.length_map,List.take_length,<-ef] at h4
       exact q H4 ρ3 ad3 ea h4 f4
theorem zgm (T:Txt K mg A F):FnOk P w K mg base (CX1 P w) 6 (F.f 31) (F.fd 31) ["self","deed"] (zrY A):=by
 have G_Hall_undo:=@zke P w K mg base A F T
 have G_Hall_end:=@zhd P w K mg base A F T
 refine T.zme.okN zjX (λ vs H Q E h=>?_) (λ cdv A' outer s H vs Q E hr h=>?_)
 . obtain ⟨ρ,ad,s,d,T0,rfl,_⟩:=h
   rfl
 . obtain ⟨ρ,ad,s,d,T0,rfl,hh,c,L,hd0,hact,q⟩:=h
   have hd:=c.lt hact
   have sm:=L.sm c
   obtain ⟨dx,hp⟩:=hh.hall
   obtain ⟨us,hus,tus⟩:=hh.rows
   have hul:us.length=s.log.length:=by rw [tus.length,List.length_map]
   refine ⟨_,(zac (zaH (zdz PySem.F.plainAttrs_list PySem.F.slot_list_append PySem.F.type_list_append zbk (zam (pv 0) rfl) (zaa (zby (zaa (zcH rfl T.zoZ) (zaa (pv 1) zad))) zad)))
     (zac (zaH (zax (pv 0) T.zak T.zlv G_Hall_undo (hmr hr) T.zlV .nil zaD (zaa (pv 1) zad)))
     (zah (zaH (zax (pv 0) T.zak T.zis G_Hall_end (hmr hr) T.ziI .nil zaD (zaa (pv 1) (zaa (zcH rfl T.zf5) zad))))))),?_⟩
   refine ⟨_,rfl,_,_,dx,_,_,rfl,hp,T.zak,T.zbW,rfl,.inl ⟨rfl,_,SqL.of hus⟩,_,rfl,sz2,λ n nn=>⟨ad .rows,_,_,rfl,rfl,zap hus nn,by have:=sm.lg; rw [hul,sizeLine_eq]; omega,?_⟩⟩
   have h3:=hh.grow (H':=upd H n (.tup [V.str "give up",V.int (d:Int)])) (Same.zaw nn)
   obtain ⟨h4,f4⟩:=h3.zmS (H':=upd (upd H n (.tup [V.str "give up",V.int (d:Int)])) (ad .rows) (.lst (us++[.ref n]))) T.ok (row:=.drop d) (zap hus nn) zab (λ b o e hb=>by rw [zae hb]; exact e) ⟨n,rfl,by rw [zae (zaf hus nn).symm,zab]; rfl⟩
   have f04:=(Frame.grow (ρ:=ρ) (Same.zaw (o:=.tup [V.str "give up",V.int (d:Int)]) nn)).trans f4
   show tSeq _ _ _ _ (upd (upd H n (.tup [V.str "give up",V.int (d:Int)])) (ad .rows) (.lst (us++[.ref n])))
   generalize upd (upd H n (.tup [V.str "give up",V.int (d:Int)])) (ad .rows) (.lst (us++[.ref n]))=H4 at *
   obtain ⟨dx4,hp4⟩:=h4.hall
   refine ⟨_,rfl,_,dx4,_,rfl,hp4,rfl,_,rfl,ρ,ad,_,zav s,d,rfl,h4,⟨sm.n,sm.seen,sm.snd,sm.dn,?_,sm.kp,sm.hl,sm.hn,sm.rl,sm.bs⟩,hd,L.e.zpX,λ H5 h5 f5=>?_⟩
   . show (s.log++[_]).length<=3000
     have:=L.e.lg; have:=L.t
     rw [List.length_append,List.length_singleton]; omega
   . obtain ⟨dx5,hp5⟩:=h5.hall
     refine ⟨_,rfl,_,dx5,_,rfl,hp5,rfl,_,rfl,ρ,ad,_,s,zav s,d,.dropped,T0,rfl,h5,c,L,hd0,rfl,rfl,rfl,rfl,rfl,c.drops hact,L.drops c hact,by decide,hd,λ H6 ρ6 ad6 ea6 h6 f6=>q H6 ρ6 ad6 ea6 h6 ((f04.trans f5).trans f6)⟩
theorem zkd (T:Txt K mg A F):FnOk P w K mg base (CX1 P w) 7 (F.f 32) (F.fd 32) ["self","deed","want"] (zrR A):=by
 have G_Desk_line_up:=@zhg P w K mg base A F T
 have G_Hall_greatest_all_round:=@zcV P w K mg base A F T
 have G_Hall_drop:=@zgm P w K mg base A F T
 refine T.zl9.okN zcZ (λ vs H Q E h=>?_) (λ cdv A' outer s H vs Q E hr h=>?_)
 . obtain ⟨ρ,ad,s,d,a,wv,T0,rfl,_⟩:=h
   rfl
 . obtain ⟨ρ,ad,s,d,a,wv,T0,rfl,hh,hk,⟨pw,dw,rfl,hw⟩,hd,sm,c1,hh1,th1,L1,q⟩:=h
   have hu:=zey hr
   obtain ⟨dx,hp⟩:=hh.hall
   obtain ⟨dr,w0,hrc,_⟩:=hh.rcd hd
   refine ⟨_,(zac (zaI (i:=3) zcZ.nd rfl (by walk_at "loc") (zba zbr (zam (pv 0) rfl) (pv 1) (λ _ _=>rfl)))
    (zac (zbM (pv 3) (zcH rfl T.zkD) rfl)
    (zac (zbM (pv 3) (pv 2) rfl)
    (zac (zaH (zax (zd4 hu (zam (pv 0) rfl) (zam (pv 2) rfl) (λ _ _=>rfl)) T.zaG T.zh5 G_Desk_line_up (hmr hr) T.zib .nil zaD (zaa (pv 1) (zaa (zam (pv 2) rfl) zad))))
    (zac (zaI (i:=4) zcZ.nd rfl (by walk_at "loc") (zax (pv 0) T.zak T.zbN G_Hall_greatest_all_round (hmr hr) T.zbO .nil zaD (zaa (pv 1) zad)))
    (zah (zfg PassesOwn.never (zff (zol (pv 4))) (zac (zaH (zax (pv 0) T.zak T.zhk G_Hall_drop (hmr hr) T.zhL .nil zaD (zaa (pv 4) zad)))
    (zah (zaI (i:=4) zcZ.nd rfl (by walk_at "loc") (zax (pv 0) T.zak T.zbN G_Hall_greatest_all_round (hmr hr) T.zbO .nil zaD (zaa (pv 1) zad)))))))))))),?_⟩
   refine ⟨_,rfl,_,_,dx,_,_,rfl,hp,T.zak,T.zaA,rfl,_,rfl,_,_,_,_,rfl,rfl,SqL.of hh.recs,zbs (hh.zfe hd),?_⟩
   refine ⟨_,rfl,_,_,dr,_,rfl,hrc,T.zat,T.zay,Nat.le_of_ble_eq_true rfl,_,rfl,_,rfl,_,_,dr,_,rfl,zab,T.zat,T.zaV,Nat.le_of_ble_eq_true rfl,?_⟩
   rw [ziL]
   have kp2:zcs H (ad (.rcd d)) (upd H (ad (.rcd d)) (.ins A.zaB dr (recF .waiting (ad (.did d)) (.ref pw)))):=λ b o e hb=>by rw [zae hb]; exact e
   have im2:=Imm.zfX T.ok hh (r:=.rcd d) hd kp2
   have hw2:=im2.want _ _ _ hw
   obtain ⟨h2,f2⟩:=hh.zn6 (H':=upd H (ad (.rcd d)) (.ins A.zaB dr (recF .waiting (ad (.did d)) (.ref pw)))) T.ok hd (D:={ s.deed d with st:=.waiting,wish:=some a }) (w:=.ref pw) zab kp2 ⟨pw,dw,rfl,hw2⟩ rfl
   show tSeq _ _ _ _ (upd H (ad (.rcd d)) (.ins A.zaB dr (recF .waiting (ad (.did d)) (.ref pw))))
   generalize upd H (ad (.rcd d)) (.ins A.zaB dr (recF .waiting (ad (.did d)) (.ref pw)))=H2 at *
   obtain ⟨dx2,hp2⟩:=h2.hall
   have D:=h2.desk hk
   obtain ⟨dd,hdk⟩:=D.ob
   refine ⟨_,rfl,_,_,dx2,_,_,rfl,hp2,T.zak,T.zbb,rfl,_,rfl,pw,_,dw,_,_,rfl,hw2,T.zaW,T.zaY,rfl,_,_,rfl,h2.zev hk,_,dd,_,rfl,hdk,rfl,_,rfl,_,rfl,pw,_,dw,_,_,rfl,hw2,T.zaW,T.zbh,rfl,_,_,_,_,_,d,a.wr,rfl,D,sm.rl _,λ H3 us a1 a2 a3=>?_⟩
   obtain ⟨h3,f3⟩:=h2.zqj T.ok hk a1 a3 a2
   have h3:zai A ρ ad (wait s d a) (zav s) H3:=h3
   obtain ⟨dx3,hp3⟩:=h3.hall
   refine ⟨_,rfl,_,dx3,_,rfl,hp3,rfl,_,rfl,ρ,ad,_,zav s,d,rfl,h3,c1,hh1,th1,L1.sm c1,hd,λ H4 m4=>?_⟩
   refine ⟨λ m σ H'=>∃ t ρ' ad' f,σ=[some (.ref (ad .hall)),some (.int d),some (.ref pw),some (.ref (ad (.rcd d))),some (gotV (rings t).getLast?)]/\m=actN t/\ad' Role.hall=ad .hall/\zai A ρ' ad' t (zav s) H'/\Frame ρ H ρ' H'/\Core t none/\Head t/\Thru t d/\Lim t T0/\t.n=s.n/\zav t=zav s/\actN t<=f/\settle ordS s.n (wait s d a)=settle ordS f t,⟨_,wait s d a,ρ,ad,s.n,rfl,rfl,rfl,h3.grow m4,(f2.trans f3).trans (Frame.grow m4),c1,hh1,th1,L1,rfl,ziw,zpo _,rfl⟩,?_⟩
   rintro m σ H5 ⟨t,ρ5,ad5,f,rfl,rfl,ea,h5,f5,c5,hd5,th5,L5,en,ek,hf,es⟩
   refine ⟨_,rfl,_,rfl,?_⟩
   cases hg:(rings t).getLast? with
   | none =>
    refine zaZ rfl (q H5 ρ5 ad5 ea ?_ f5)
    rw [es,zk8 ordS hg]; exact h5
   | some g =>
    refine zbB rfl ?_
    have hga:(t.deed g).act:=.inr (zaN (zbL (List.mem_of_getLast? hg)).2)
    have lt:=zkV ordS c5 hga
    refine ⟨λ σ' H'=>∃ t' ρ' ad' f,σ'=[some (.ref (ad .hall)),some (.int d),some (.ref pw),some (.ref (ad (.rcd d))),some (gotV (rings t').getLast?)]/\actN t' < actN t/\ad' Role.hall=ad .hall/\zai A ρ' ad' t' (zav s) H'/\Frame ρ H ρ' H'/\Core t' none/\Head t'/\Thru t' d/\Lim t' T0/\t'.n=s.n/\zav t'=zav s/\actN t'<=f/\settle ordS s.n (wait s d a)=settle ordS f t',λ σ' H' ⟨t',ρ',ad',f,e,lt,r⟩=>⟨_,lt,t',ρ',ad',f,e,rfl,r⟩,?_⟩
    obtain ⟨dx5,hp5⟩:=h5.hall
    rw [<-ea]
    refine ⟨_,rfl,_,dx5,_,rfl,hp5,rfl,_,rfl,ρ5,ad5,t,g,T0,rfl,by rw [ek]; exact h5,c5,L5,hd5,hga,λ H6 ρ6 ad6 ea6 h6 f6=>?_⟩
    obtain ⟨dx6,hp6⟩:=h6.hall
    have c6:=c5.drop ordS hga
    have hd6:=Head.drop ordS (λ l k=>zbd) c5 hga
    have th6:=th5.mono (zmZ ordS c5 hga)
    have L6:=L5.drop c5 hga
    have n6:(drop ordS t g).n=s.n:=by rw [zko ordS c5 hga]; exact en
    rw [<-ea6]
    refine ⟨_,rfl,_,dx6,_,rfl,hp6,rfl,_,rfl,ρ6,ad6,_,zav t,d,rfl,h6,c6,hd6,th6,L6.sm c6,by rw [n6]; exact hd,λ H7 m7=>?_⟩
    obtain ⟨f',rfl⟩:∃ f',f=f'+1:=⟨f - 1,by omega⟩
    refine ⟨drop ordS t g,ρ6,ad6,f',by rw [ea6,ea]; rfl,lt,by rw [ea6,ea],by rw [<-ek]; exact h6.grow m7,(f5.trans f6).trans (Frame.grow m7),c6,hd6,th6,L6,n6,by rw [zfY ordS c5 hga]; exact ek,by omega,?_⟩
    rw [es,zk7 ordS hg]
theorem zh3 (T:Txt K mg A F):FnOk P w K mg base (CX1 P w) 1 (F.f 33) (F.fd 33) ["self","deed","want"] (zpA A):=by
 refine T.zjE.okN zez (λ vs H Q E h=>?_) (λ cdv A' outer s H vs Q E hr h=>?_)
 . obtain ⟨ρ,ad,s,kv,d,a,wv,rfl,_⟩:=h
   rfl
 . obtain ⟨ρ,ad,s,kv,d,a,wv,rfl,hh,⟨pw,dw,rfl,hw⟩,hd,did,q⟩:=h
   obtain ⟨dx,hp⟩:=hh.hall
   obtain ⟨dr,w0,hrc,_⟩:=hh.rcd hd
   obtain ⟨us,hus,tus⟩:=hh.did hd
   refine ⟨_,(zac (zaI (i:=3) zez.nd rfl (by walk_at "loc") (zba zbr (zam (pv 0) rfl) (pv 1) (λ _ _=>rfl)))
    (zac (zbD (zaF zco (zam (pv 3) rfl) (zcH rfl T.zf5) (zaJ _)) (zah (zaz (zby (zaa zaU zad)))) zaO)
    (zac (zbD (zaF zco (zam (pv 3) rfl) (zcH rfl T.zkD) (zaJ _)) (zah (zaz (zby (zaa zaU zad)))) zaO)
    (zac (zbD (zaF zco (zam (pv 2) rfl) (zcH rfl T.zdo) (zaJ _)) (zah (zaz (zby (zaa zaU zad)))) zaO)
    (zah (zaz (zby (zaa zaU (zaa (zba zb3 (zba zbr (zam (pv 3) rfl) (zq8 znN zan) (λ _ _=>rfl)) zan (λ _ _=>rfl)) zad))))))))),?_⟩
   refine ⟨_,rfl,_,_,dx,_,_,rfl,hp,T.zak,T.zaA,rfl,_,rfl,_,_,_,_,rfl,rfl,SqL.of hh.recs,zbs (hh.zfe hd),?_⟩
   refine ⟨_,rfl,_,_,dr,_,_,rfl,hrc,T.zat,T.zay,rfl,rfl,_,rfl,?_⟩
   have nst:∀ (a b:DS),stS a≠stS b->decide (V.str (stS a)=V.str (stS b))=false:=λ a b h=>decide_eq_false λ z=>h (V.str.inj z)
   cases hst:(s.deed d).st with
   | dropped =>
    refine zbB (decide_eq_true rfl) ⟨sz1,λ n nn=>q _ n nn (Same.zaw nn) ?_⟩
    rw [zab]; unfold ansV; rw [hst]
   | waiting =>
    refine zaZ (nst .waiting .dropped (by decide +kernel)) ⟨_,rfl,_,_,dr,_,_,rfl,hrc,T.zat,T.zay,rfl,rfl,_,rfl,?_⟩
    rw [hst]
    refine zbB (decide_eq_true rfl) ⟨sz1,λ n nn=>q _ n nn (Same.zaw nn) ?_⟩
    rw [zab]; unfold ansV; rw [hst]
   | zar =>
    refine zaZ (nst .zar .dropped (by decide +kernel)) ⟨_,rfl,_,_,dr,_,_,rfl,hrc,T.zat,T.zay,rfl,rfl,_,rfl,?_⟩
    rw [hst]
    refine zaZ (nst .zar .waiting (by decide +kernel)) ⟨_,rfl,pw,_,dw,_,_,rfl,hw,T.zaW,T.zbh,rfl,rfl,_,rfl,?_⟩
    refine zeb a.wr (zgN a.wr) ?_
    have ea:ansV (s.deed d) a.wr=if a.wr then [V.str "done"] else [V.str "value",.int (zlz (s.deed d))]:=by unfold ansV; rw [hst]
    rw [ea] at q
    cases hwr:a.wr with
    | true =>
     rw [hwr] at q
     exact iteT ⟨sz1,λ n nn=>q _ n nn (Same.zaw nn) zab⟩
    | false =>
     rw [hwr] at q
     obtain ⟨init,b,eb⟩:∃ init b,(s.deed d).done=init++[b]:=by
      have hne:=did (.inl hst)
      exact ⟨_,_,(List.dropLast_concat_getLast hne).symm⟩
     have hul:us.length=init.length+1:=by rw [tus.length,List.length_map,eb]; simp
     obtain ⟨v,hv,pb,rfl,hpb⟩:=zdU tus (i:=init.length) (y:=actV b) (by rw [eb]; simp)
     have hat:atI us (-1)=some (V.ref pb):=by
      obtain ⟨ys,y,rfl⟩:∃ ys y,us=ys++[y]:=⟨us.dropLast,us.getLast (by intro z; rw [z] at hul; simp at hul),(List.dropLast_concat_getLast _).symm⟩
      have hl:ys.length=init.length:=by simpa using hul
      rw [zjw]
      rw [<-hl] at hv
      simpa using hv
     have el:zlz (s.deed d)=b.val:=by unfold zlz; rw [eb]; simp
     refine iteF ⟨_,rfl,_,_,dr,_,_,rfl,hrc,T.zat,T.zbo,rfl,_,rfl,_,_,_,_,rfl,rfl,SqL.of hus,hat,pb,_,_,_,rfl,rfl,SqT.of hpb,rfl,sz2,λ n nn=>q _ n nn (Same.zaw nn) ?_⟩
     rw [zab,el]; rfl
   | kept =>
    refine zaZ (nst .kept .dropped (by decide +kernel)) ⟨_,rfl,_,_,dr,_,_,rfl,hrc,T.zat,T.zay,rfl,rfl,_,rfl,?_⟩
    rw [hst]
    refine zaZ (nst .kept .waiting (by decide +kernel)) ⟨_,rfl,pw,_,dw,_,_,rfl,hw,T.zaW,T.zbh,rfl,rfl,_,rfl,?_⟩
    refine zeb a.wr (zgN a.wr) ?_
    have ea:ansV (s.deed d) a.wr=if a.wr then [V.str "done"] else [V.str "value",.int (zlz (s.deed d))]:=by unfold ansV; rw [hst]
    rw [ea] at q
    cases hwr:a.wr with
    | true =>
     rw [hwr] at q
     exact iteT ⟨sz1,λ n nn=>q _ n nn (Same.zaw nn) zab⟩
    | false =>
     rw [hwr] at q
     obtain ⟨init,b,eb⟩:∃ init b,(s.deed d).done=init++[b]:=by
      have hne:=did (.inr hst)
      exact ⟨_,_,(List.dropLast_concat_getLast hne).symm⟩
     have hul:us.length=init.length+1:=by rw [tus.length,List.length_map,eb]; simp
     obtain ⟨v,hv,pb,rfl,hpb⟩:=zdU tus (i:=init.length) (y:=actV b) (by rw [eb]; simp)
     have hat:atI us (-1)=some (V.ref pb):=by
      obtain ⟨ys,y,rfl⟩:∃ ys y,us=ys++[y]:=⟨us.dropLast,us.getLast (by intro z; rw [z] at hul; simp at hul),(List.dropLast_concat_getLast _).symm⟩
      have hl:ys.length=init.length:=by simpa using hul
      rw [zjw]
      rw [<-hl] at hv
      simpa using hv
     have el:zlz (s.deed d)=b.val:=by unfold zlz; rw [eb]; simp
     refine iteF ⟨_,rfl,_,_,dr,_,_,rfl,hrc,T.zat,T.zbo,rfl,_,rfl,_,_,_,_,rfl,rfl,SqL.of hus,hat,pb,_,_,_,rfl,rfl,SqT.of hpb,rfl,sz2,λ n nn=>q _ n nn (Same.zaw nn) ?_⟩
     rw [zab,el]; rfl
theorem zhf (T:Txt K mg A F):FnOk P w K mg base (CX1 P w) 8 (F.f 34) (F.fd 34) ["self","deed","want"] (zr2 A):=by
 have G_Desk_init:=@zkj P w K mg base A F T
 have G_Desk_lets_at_once:=@zex P w K mg base A F T
 have G_Hall_carry_out:=@zdk P w K mg base A F T
 have G_Hall_wait:=@zkd P w K mg base A F T
 have G_Hall_answer:=@zh3 P w K mg base A F T
 refine T.znH.okN zgV (λ vs H Q E h=>?_) (λ cdv A' outer s H vs Q E hr h=>?_)
 . obtain ⟨ρ,ad,s,d,a,pw,dw,T0,rfl,_⟩:=h
   rfl
 . obtain ⟨ρ,ad,s,d,a,pw,dw,T0,rfl,hh,R,ht,h4,hst,hw,row,q⟩:=h
   have hu:=zey hr
   obtain ⟨dx,hp⟩:=hh.hall
   refine ⟨_,(zac (zaI (i:=3) zgV.nd rfl (by walk_at "loc") (zpJ (zam (pv 0) rfl) (zam (pv 2) rfl) (ziY T.zri G_Desk_init (hmr hr) rfl T.zsu T.zl0 .nil zaD) ⟨rfl,rfl,rfl,rfl⟩))
     (zac (zbD (zil (zax (pv 3) T.zaG T.ze0 G_Desk_lets_at_once (hmr hr) T.ze5 .nil zaD (zaa (pv 1) (zaa (zam (pv 2) rfl) zad)))) (zah (zaH (zax (pv 0) T.zak T.zdH G_Hall_carry_out (hmr hr) T.zdM .nil zaD (zaa (pv 1) (zaa (pv 2) zad))))) (zah (zaH (zax (pv 0) T.zak T.zlu G_Hall_wait (hmr hr) T.zlU .nil zaD (zaa (pv 1) (zaa (pv 2) zad))))))
     (zah (zaz (zax (pv 0) T.zak T.zjb G_Hall_answer (hmr hr) T.zju .nil zaD (zaa (pv 1) (zaa (pv 2) zad))))))),?_⟩
   refine ⟨_,rfl,_,_,dx,_,_,rfl,hp,T.zak,T.zbb,rfl,ad .zbJ,rfl,.inl ⟨_,.of hh.zbJ⟩,_,rfl,pw,_,dw,_,_,rfl,hw,T.zaW,T.zaY,rfl,λ x dx2 nx ndx nex=>⟨x,dx2,rfl,zab,λ H1 hd rw nhd nrw e1 e2 e3 kp=>⟨rfl,?_⟩⟩⟩
   have s0:Same H (upd (upd H dx2 (.own x)) x (.ins A.zb7 dx2 [])):=(Same.zaw ndx).upd2 (by rw [zae nex.symm]; exact nx)
   have s1:Same H H1:=λ b o e=>kp b o (s0 b o e) (zaf e nx)
   have hde:=s1 _ _ hh.zbJ
   have ln:(zdJ ad s.seen).length < sizeLine:=by have:=R.L.sn; unfold zdJ; rw [List.length_map,sizeLine_eq]; omega
   refine ⟨_,Sum.inr a.key,hde,rfl,ln,λ v hv=>?_,λ hn=>?_⟩
   . rw [zee] at hv
     have hk:a.key∈s.seen:=by
      by_cases z:a.key∈s.seen
      . exact z
      . rw [if_neg z] at hv; cases hv
     rw [if_pos hk] at hv
     cases hv
     have es:see s a.key=s:=by unfold see; rw [if_pos hk]
     obtain ⟨H3,ρ3,ad3,eH,eρ,ea⟩:∃ H3 ρ3 ad3,H3=H1/\ρ3=ρ/\ad3=ad:=⟨_,_,_,rfl,rfl,rfl⟩
     have h3:zai A ρ3 ad3 (see s a.key) (zav s) H3:=by rw [es,eH,eρ,ea]; exact hh.grow s1
     have f03:Frame ρ H ρ3 H3:=by rw [eH,eρ]; exact Frame.grow s1
     have ea3:ad3 Role.hall=ad .hall:=by rw [ea]
     have edk:ad (.desk a.key)=ad3 (.desk a.key):=by rw [ea]
     rw [edk,<-eH]
     have hd:d < s.n:=R.c.lt (.inl hst)
     have sms:Sm (see s a.key):=Sm.see R h4 ht
     have hks:a.key∈(see s a.key).seen:=zcj
     have hw3:H3 pw=_:=(f03 _ _ hw row).1
     have ro3:ρ3 pw=.other:=(f03 _ _ hw row).2
     have D:=h3.desk hks
     obtain ⟨dd,hdk⟩:=D.ob
     refine ⟨_,rfl,_,dd,_,rfl,hdk,rfl,_,rfl,_,rfl,pw,_,dw,_,_,rfl,hw3,T.zaW,T.zbh,rfl,_,_,_,_,_,d,a.wr,rfl,D,sms.hl _,sms.hn _,λ H4 m4=>⟨_,rfl,?_⟩⟩
     have h4':=h3.grow m4
     have f04:=f03.trans (Frame.grow m4)
     have hw4:=m4 _ _ hw3
     obtain ⟨dx4,hp4⟩:=h4'.hall
     have wf:=zcK (a:=a) R hst
     have wp:=zgM ordS (d:=d) (a:=a) R.c
     rw [<-ea3]
     cases hb:((has ((see s a.key).held a.key) d || ((see s a.key).rows a.key).isEmpty) && lets ((see s a.key).held a.key) d a.wr) with
     | true =>
      rw [hb,if_pos rfl] at wp
      rw [wp] at q wf
      refine iteT ⟨_,rfl,_,dx4,_,rfl,hp4,rfl,_,rfl,_,rfl,ρ3,ad3,_,zav s,d,.ref pw,a,rfl,h4',sms,hd,hks,⟨pw,dw,rfl,hw4⟩,λ H5 h5 f5=>?_⟩
      obtain ⟨dx5,hp5⟩:=h5.hall
      obtain ⟨hw5,ro5⟩:=f5 _ _ hw4 ro3
      refine ⟨_,rfl,_,dx5,_,rfl,hp5,rfl,_,rfl,_,rfl,ρ3,ad3,_,zav s,d,a,.ref pw,rfl,h5,⟨pw,dw,rfl,hw5⟩,by rw [wf.1]; exact hd,wf.2.2.2,λ H6 q6 n6 m6 e6=>q H6 ρ3 ad3 q6 ea3 (h5.grow m6) ((f04.trans f5).trans (Frame.grow m6)) e6 (h5.fr _ n6)⟩
     | false =>
      rw [hb,if_neg Bool.false_ne_true] at wp
      rw [wp] at q wf
      obtain ⟨c1,hh1,th1⟩:=zjx ordS (λ l k=>zbd) R.c R.h R.a hst hb
      refine iteF ⟨_,rfl,_,dx4,_,rfl,hp4,rfl,_,rfl,_,rfl,ρ3,ad3,see s a.key,d,a,.ref pw,T0+1,rfl,h4',hks,⟨pw,dw,rfl,hw4⟩,hd,sms,c1,hh1,th1,Lim.wait R hst h4 ht,λ H5 ρ5 ad5 ea5 h5 f5=>?_⟩
      obtain ⟨dx5,hp5⟩:=h5.hall
      obtain ⟨hw5,ro5⟩:=f5 _ _ hw4 ro3
      rw [<-ea5]
      refine ⟨_,rfl,_,dx5,_,rfl,hp5,rfl,_,rfl,_,rfl,ρ5,ad5,_,zav s,d,a,.ref pw,rfl,h5,⟨pw,dw,rfl,hw5⟩,?_,?_,λ H6 q6 n6 m6 e6=>q H6 ρ5 ad5 q6 (by rw [ea5,ea3]) (h5.grow m6) ((f04.trans f5).trans (Frame.grow m6)) e6 (h5.fr _ n6)⟩
      . have:=wf.1; show d < (settle ordS s.n (wait (see s a.key) d a)).n; rw [this]; exact hd
      . exact wf.2.2.2
   . rw [zee] at hn
     have hk:a.key∉s.seen:=λ z=>by rw [if_pos z] at hn; cases hn
     have es:see s a.key={ s with seen:=s.seen++[a.key] }:=by unfold see; rw [if_neg hk]
     have epk:putK (zdJ ad s.seen) (Sum.inr a.key) (V.ref x)=zdJ ad s.seen++[(Sum.inr a.key,V.ref x)]:=zmq _ (by rw [zee,if_neg hk])
     rw [epk]
     obtain ⟨g1,g2⟩:=R.c.zfb a.key hk
     have hxd:x≠ad .zbJ:=(zaf hh.zbJ nx).symm
     have hhd:hd≠ad .zbJ:=(zaf (s0 _ _ hh.zbJ) nhd).symm
     have hrd:rw≠ad .zbJ:=(zaf (s0 _ _ hh.zbJ) nrw).symm
     obtain ⟨ρ3,ad3,ea3,h3,f03,edk⟩:=hh.zrz (H':=upd H1 (ad .zbJ) (.dK (zdJ ad s.seen++[(Sum.inr a.key,V.ref x)]))) T.ok (k:=a.key) hk g1 g2 (p:=x) (hd:=hd) (rw:=rw) (dx:=dx2) nx (s0.free nhd) (s0.free nrw) zab (by rw [zae hxd]; exact e1) (by rw [zae hhd]; exact e2) (by rw [zae hrd]; exact e3) (λ b o e hb=>by rw [zae hb]; exact s1 b o e)
     rw [<-es] at h3
     generalize upd H1 (ad .zbJ) (.dK (zdJ ad s.seen++[(Sum.inr a.key,V.ref x)]))=H3 at *
     rw [<-edk]
     have hd:d < s.n:=R.c.lt (.inl hst)
     have sms:Sm (see s a.key):=Sm.see R h4 ht
     have hks:a.key∈(see s a.key).seen:=zcj
     have hw3:H3 pw=_:=(f03 _ _ hw row).1
     have ro3:ρ3 pw=.other:=(f03 _ _ hw row).2
     have D:=h3.desk hks
     obtain ⟨dd,hdk⟩:=D.ob
     refine ⟨_,rfl,_,dd,_,rfl,hdk,rfl,_,rfl,_,rfl,pw,_,dw,_,_,rfl,hw3,T.zaW,T.zbh,rfl,_,_,_,_,_,d,a.wr,rfl,D,sms.hl _,sms.hn _,λ H4 m4=>⟨_,rfl,?_⟩⟩
     have h4':=h3.grow m4
     have f04:=f03.trans (Frame.grow m4)
     have hw4:=m4 _ _ hw3
     obtain ⟨dx4,hp4⟩:=h4'.hall
     have wf:=zcK (a:=a) R hst
     have wp:=zgM ordS (d:=d) (a:=a) R.c
     rw [<-ea3]
     cases hb:((has ((see s a.key).held a.key) d || ((see s a.key).rows a.key).isEmpty) && lets ((see s a.key).held a.key) d a.wr) with
     | true =>
      rw [hb,if_pos rfl] at wp
      rw [wp] at q wf
      refine iteT ⟨_,rfl,_,dx4,_,rfl,hp4,rfl,_,rfl,_,rfl,ρ3,ad3,_,zav s,d,.ref pw,a,rfl,h4',sms,hd,hks,⟨pw,dw,rfl,hw4⟩,λ H5 h5 f5=>?_⟩
      obtain ⟨dx5,hp5⟩:=h5.hall
      obtain ⟨hw5,ro5⟩:=f5 _ _ hw4 ro3
      refine ⟨_,rfl,_,dx5,_,rfl,hp5,rfl,_,rfl,_,rfl,ρ3,ad3,_,zav s,d,a,.ref pw,rfl,h5,⟨pw,dw,rfl,hw5⟩,by rw [wf.1]; exact hd,wf.2.2.2,λ H6 q6 n6 m6 e6=>q H6 ρ3 ad3 q6 ea3 (h5.grow m6) ((f04.trans f5).trans (Frame.grow m6)) e6 (h5.fr _ n6)⟩
     | false =>
      rw [hb,if_neg Bool.false_ne_true] at wp
      rw [wp] at q wf
      obtain ⟨c1,hh1,th1⟩:=zjx ordS (λ l k=>zbd) R.c R.h R.a hst hb
      refine iteF ⟨_,rfl,_,dx4,_,rfl,hp4,rfl,_,rfl,_,rfl,ρ3,ad3,see s a.key,d,a,.ref pw,T0+1,rfl,h4',hks,⟨pw,dw,rfl,hw4⟩,hd,sms,c1,hh1,th1,Lim.wait R hst h4 ht,λ H5 ρ5 ad5 ea5 h5 f5=>?_⟩
      obtain ⟨dx5,hp5⟩:=h5.hall
      obtain ⟨hw5,ro5⟩:=f5 _ _ hw4 ro3
      rw [<-ea5]
      refine ⟨_,rfl,_,dx5,_,rfl,hp5,rfl,_,rfl,_,rfl,ρ5,ad5,_,zav s,d,a,.ref pw,rfl,h5,⟨pw,dw,rfl,hw5⟩,?_,?_,λ H6 q6 n6 m6 e6=>q H6 ρ5 ad5 q6 (by rw [ea5,ea3]) (h5.grow m6) ((f04.trans f5).trans (Frame.grow m6)) e6 (h5.fr _ n6)⟩
      . have:=wf.1; show d < (settle ordS s.n (wait (see s a.key) d a)).n; rw [this]; exact hd
      . exact wf.2.2.2
theorem zkf (T:Txt K mg A F):FnOk P w K mg base (CX1 P w) 9 (F.f 36) (F.fd 36) ["self","deed","key"] (zrU A):=by
 have G_Hall_refuse_unless_going:=@za3 P w K mg base A F T
 have G_Want_init:=@zgl P w K mg base A F T
 have G_Hall_ask:=@zhf P w K mg base A F T
 refine T.zmb.okX zjV (λ vs H Q E h=>?_) (λ cdv A' outer s H vs Q E hr h=>?_)
 . obtain ⟨ρ,ad,s,i,k,T0,rfl,_⟩:=h
   rfl
 . obtain ⟨ρ,ad,s,i,k,T0,rfl,hh,R,ht,h4,q⟩:=h
   obtain ⟨dx,hp⟩:=hh.hall
   have hn:s.n<=1000:=by have:=R.L.n; omega
   refine ⟨_,(zac (zaH (zax (pv 0) T.zak T.za7 G_Hall_refuse_unless_going (hmr hr) T.za8 .nil zbz (zaa (pv 1) zad)))
     (zah (zaz (zax (pv 0) T.zak T.zit G_Hall_ask (hmr hr) T.ziJ .nil zaD (zaa (pv 1) (zaa (zoh T.zoA G_Want_init (hmr hr) rfl T.zqA T.zhK .nil zaD (zaa (zcH rfl T.zoY) (zaa (pv 2) (zaa zgk zad)))) zad)))))),?_⟩
   refine ⟨_,rfl,_,dx,_,rfl,hp,rfl,_,rfl,ρ,ad,s,zav s,i,rfl,hh,hn,?_⟩
   rcases q with ⟨d,rfl,hd,⟨hg,q⟩ | ⟨hg,q⟩⟩ | q
   rotate_left
   . exact .inl ⟨d,rfl,hd,.inr ⟨hg,q⟩⟩
   . exact .inr q
   refine .inl ⟨d,rfl,hd,.inl ⟨hg,?_⟩⟩
   refine ⟨_,rfl,_,dx,_,rfl,hp,rfl,_,rfl,_,rfl,λ x dx2 nx ndx nex=>⟨x,dx2,false,k,.non,rfl,zab,λ H1 e1 kp=>⟨rfl,?_⟩⟩⟩
   have s0:Same H (upd (upd H dx2 (.own x)) x (.ins A.zdR dx2 [])):=(Same.zaw ndx).upd2 (by rw [zae nex.symm]; exact nx)
   have s1:Same H H1:=λ b o e=>kp b o (s0 b o e) (zaf e nx)
   exact ⟨ρ,ad,s,d,⟨false,k,0⟩,x,dx2,T0,rfl,hh.grow s1,R,ht,h4,hg,e1,hh.fr _ nx,λ H' ρ' ad' q' a1 a2 a3 a4 a5=>q H' ρ' ad' q' a1 a2 ((Frame.grow s1).trans a3) a4 a5⟩
theorem zi3 (T:Txt K mg A F):FnOk P w K mg base (CX1 P w) 9 (F.f 37) (F.fd 37) ["self","deed","key","value"] (zqS A):=by
 have G_Hall_refuse_unless_going:=@za3 P w K mg base A F T
 have G_Want_init:=@zgl P w K mg base A F T
 have G_Hall_ask:=@zhf P w K mg base A F T
 refine T.zkX.okX ziQ (λ vs H Q E h=>?_) (λ cdv A' outer s H vs Q E hr h=>?_)
 . obtain ⟨ρ,ad,s,i,k,v,T0,rfl,_⟩:=h
   rfl
 . obtain ⟨ρ,ad,s,i,k,v,T0,rfl,hh,R,ht,h4,q⟩:=h
   obtain ⟨dx,hp⟩:=hh.hall
   have hn:s.n<=1000:=by have:=R.L.n; omega
   refine ⟨_,(zac (zaH (zax (pv 0) T.zak T.za7 G_Hall_refuse_unless_going (hmr hr) T.za8 .nil zbz (zaa (pv 1) zad)))
     (zah (zaz (zax (pv 0) T.zak T.zit G_Hall_ask (hmr hr) T.ziJ .nil zaD (zaa (pv 1) (zaa (zoh T.zoA G_Want_init (hmr hr) rfl T.zqA T.zhK .nil zaD (zaa (zcH rfl T.zdo) (zaa (pv 2) (zaa (pv 3) zad)))) zad)))))),?_⟩
   refine ⟨_,rfl,_,dx,_,rfl,hp,rfl,_,rfl,ρ,ad,s,zav s,i,rfl,hh,hn,?_⟩
   rcases q with ⟨d,rfl,hd,⟨hg,q⟩ | ⟨hg,q⟩⟩ | q
   rotate_left
   . exact .inl ⟨d,rfl,hd,.inr ⟨hg,q⟩⟩
   . exact .inr q
   refine .inl ⟨d,rfl,hd,.inl ⟨hg,?_⟩⟩
   refine ⟨_,rfl,_,dx,_,rfl,hp,rfl,_,rfl,_,rfl,_,rfl,λ x dx2 nx ndx nex=>⟨x,dx2,true,k,.int v,rfl,zab,λ H1 e1 kp=>⟨rfl,?_⟩⟩⟩
   have s0:Same H (upd (upd H dx2 (.own x)) x (.ins A.zdR dx2 [])):=(Same.zaw ndx).upd2 (by rw [zae nex.symm]; exact nx)
   have s1:Same H H1:=λ b o e=>kp b o (s0 b o e) (zaf e nx)
   exact ⟨ρ,ad,s,d,⟨true,k,v⟩,x,dx2,T0,rfl,hh.grow s1,R,ht,h4,hg,e1,hh.fr _ nx,λ H' ρ' ad' q' a1 a2 a3 a4 a5=>q H' ρ' ad' q' a1 a2 ((Frame.grow s1).trans a3) a4 a5⟩
theorem zhc (T:Txt K mg A F):FnOk P w K mg base (CX1 P w) 7 (F.f 40) (F.fd 40) ["self","deed"] (zpy A):=by
 have G_Hall_record_of:=@zbE P w K mg base A F T
 have G_Record_is_at_end:=@zeZ P w K mg base A F T
 have G_Hall_drop:=@zgm P w K mg base A F T
 refine T.zic.okX zgU (λ vs H Q E h=>?_) (λ cdv A' outer s H vs Q E hr h=>?_)
 . obtain ⟨ρ,ad,s,i,T0,rfl,_⟩:=h
   rfl
 . obtain ⟨ρ,ad,s,i,T0,rfl,hh,R,q⟩:=h
   obtain ⟨dx,hp⟩:=hh.hall
   have hn:s.n<=1000:=by have:=R.L.n; omega
   refine ⟨_,(zac (zbD (zil (zdy (zax (pv 0) T.zak T.zbQ G_Hall_record_of (hmr hr) T.zbR .nil zbz (zaa (pv 1) zad)) T.zat T.zfo G_Record_is_at_end (hmr hr) T.zfB .nil zaD)) (zah (ziT zg0 rfl rfl T.zf4 T.zif PySem.F.excBase_ValueError (zaa zaU zad))) zaO)
     (zah (zaH (zax (pv 0) T.zak T.zhk G_Hall_drop (hmr hr) T.zhL .nil zaD (zaa (pv 1) zad))))),?_⟩
   refine ⟨_,rfl,_,dx,_,rfl,hp,rfl,_,rfl,ρ,ad,s,zav s,i,rfl,hh,hn,?_⟩
   rcases q with ⟨d,rfl,hd,q⟩ | q
   rotate_left
   . exact .inr q
   obtain ⟨dr,w0,hrc,_⟩:=hh.rcd hd
   refine .inl ⟨d,rfl,hd,_,dr,_,rfl,hrc,rfl,_,dr,_,_,_,rfl,hrc,_,rfl,?_⟩
   rcases q with ⟨ha,q⟩ | ⟨ha,q⟩
   . refine zaZ (decide_eq_false λ z=>?_) ⟨_,rfl,_,dx,_,rfl,hp,rfl,_,rfl,ρ,ad,s,d,T0,rfl,hh,R.c,R.L,R.h,ha,λ H' ρ' ad' a1 a2 a3=>q H' ρ' ad' a1 (by rw [zfY ordS R.c ha]; exact a2) a3⟩
     rcases ha with ha | ha <;> rw [ha] at z <;> rcases z with z | z <;> cases z
   . refine zbB (decide_eq_true ?_) ⟨Nat.le_of_ble_eq_true rfl,q⟩
     cases e:(s.deed d).st with
     | zar=>exact absurd (.inl e) ha
     | waiting=>exact absurd (.inr e) ha
     | kept=>exact .inl rfl
     | dropped=>exact .inr rfl
theorem zkg (T:Txt K mg A F):FnOk P w K mg base (CX1 P w) 6 (F.f 38) (F.fd 38) ["self","deed"] (zrX A):=by
 have G_Hall_refuse_unless_going:=@za3 P w K mg base A F T
 have G_Record_written:=@zdi P w K mg base A F T
 have G_Hall_end:=@zhd P w K mg base A F T
 refine T.zmc.okX zdY (λ vs H Q E h=>?_) (λ cdv A' outer s H vs Q E hr h=>?_)
 . obtain ⟨ρ,ad,s,i,T0,rfl,_⟩:=h
   rfl
 . obtain ⟨ρ,ad,s,i,T0,rfl,hh,R,q⟩:=h
   have hu:=zey hr
   obtain ⟨dx,hp⟩:=hh.hall
   have hn:s.n<=1000:=by have:=R.L.n; omega
   have sm:=R.L.sm R.c
   obtain ⟨us,hus,tus⟩:=hh.rows
   have hul:us.length=s.log.length:=by rw [tus.length,List.length_map]
   refine ⟨_,(zac (zaH (zax (pv 0) T.zak T.za7 G_Hall_refuse_unless_going (hmr hr) T.za8 .nil zbz (zaa (pv 1) zad)))
     (zac (zaH (zdz PySem.F.plainAttrs_list PySem.F.slot_list_append PySem.F.type_list_append zbk (zam (pv 0) rfl) (zaa (zby (zaa (zcH rfl T.zss) (zaa (pv 1) zad))) zad)))
     (zac (zaH (zdz PySem.F.plainAttrs_list PySem.F.slot_list_append PySem.F.type_list_append zbk (zam (pv 0) rfl) (zaa (pv 1) zad)))
     (zac (PS.nox (zgj PassesOwn.never rfl (zda (zdy (zba zbr (zam (pv 0) rfl) (pv 1) (λ _ _=>rfl)) T.zat T.zdG G_Record_written (hmr hr) T.zdL .nil zaD)) (zog (n:=2) rfl (zck (za0 (i:=2) zdY.nd rfl (by walk_at "loc")) (zck (za0 (i:=3) zdY.nd rfl (by walk_at "loc")) ziX))) (zah (zg3 hu (zam (pv 0) rfl) (pv 2) (pv 3) rfl))))
     (zah (zaH (zax (pv 0) T.zak T.zis G_Hall_end (hmr hr) T.ziI .nil zaD (zaa (pv 1) (zaa (zcH rfl T.zqB) zad))))))))),?_⟩
   refine ⟨_,rfl,_,dx,_,rfl,hp,rfl,_,rfl,ρ,ad,s,zav s,i,rfl,hh,hn,?_⟩
   rcases q with ⟨d,rfl,hd,⟨hg,q⟩ | ⟨hg,q⟩⟩ | q
   rotate_left
   . exact .inl ⟨d,rfl,hd,.inr ⟨hg,q⟩⟩
   . exact .inr q
   refine .inl ⟨d,rfl,hd,.inl ⟨hg,?_⟩⟩
   have hact:(s.deed d).act:=.inl hg
   refine ⟨_,rfl,_,_,dx,_,_,rfl,hp,T.zak,T.zbW,rfl,.inl ⟨rfl,_,SqL.of hus⟩,_,rfl,sz2,λ n nn=>⟨ad .rows,_,_,rfl,rfl,zap hus nn,by have:=sm.lg; rw [hul,sizeLine_eq]; omega,?_⟩⟩
   have h3:=hh.grow (H':=upd H n (.tup [V.str "keep",V.int (d:Int)])) (Same.zaw nn)
   obtain ⟨h4,f4⟩:=h3.zmS (H':=upd (upd H n (.tup [V.str "keep",V.int (d:Int)])) (ad .rows) (.lst (us++[.ref n]))) T.ok (row:=.keep d) (zap hus nn) zab (λ b o e hb=>by rw [zae hb]; exact e) ⟨n,rfl,by rw [zae (zaf hus nn).symm,zab]; rfl⟩
   have f04:=(Frame.grow (ρ:=ρ) (Same.zaw (o:=.tup [V.str "keep",V.int (d:Int)]) nn)).trans f4
   show tSeq _ _ _ _ (upd (upd H n (.tup [V.str "keep",V.int (d:Int)])) (ad .rows) (.lst (us++[.ref n])))
   generalize upd (upd H n (.tup [V.str "keep",V.int (d:Int)])) (ad .rows) (.lst (us++[.ref n]))=H4 at *
   obtain ⟨dx4,hp4⟩:=h4.hall
   have ho4:H4 (ad .order)=some (.lst (zal s.kept)):=h4.order
   have hlk:(zal s.kept).length<=1000:=by unfold zal; rw [List.length_map]; exact sm.kp
   refine ⟨_,rfl,_,_,dx4,_,_,rfl,hp4,T.zak,T.zc1,rfl,.inl ⟨rfl,_,SqL.of ho4⟩,_,rfl,ad .order,_,_,rfl,rfl,ho4,by rw [sizeLine_eq]; omega,?_⟩
   obtain ⟨h5,f5⟩:=h4.zqe (H':=upd H4 (ad .order) (.lst (zal s.kept++[V.int (d:Int)]))) T.ok (d:=d) zab (λ b o e hb=>by rw [zae hb]; exact e)
   have f05:=f04.trans f5
   show tSeq _ _ _ _ (upd H4 (ad .order) (.lst (zal s.kept++[V.int (d:Int)])))
   generalize upd H4 (ad .order) (.lst (zal s.kept++[V.int (d:Int)]))=H5 at *
   obtain ⟨dx5,hp5⟩:=h5.hall
   obtain ⟨wv,ra,_⟩:=h5.recAt hd
   obtain ⟨dr,hrc⟩:=ra.ob
   refine ⟨_,rfl,_,_,dx5,_,_,rfl,hp5,T.zak,T.zaA,rfl,_,rfl,_,_,_,_,rfl,rfl,SqL.of h5.recs,zbs (h5.zfe hd),_,dr,_,rfl,hrc,rfl,_,_,_,_,_,rfl,ra,by show (s.deed d).done.length < 3000; have:=sm.dn d; omega,λ H1 ql vs m1 hq tu=>⟨ql,rfl,⟨_,SqL.of hq⟩,?_⟩⟩
   have tu:zau H1 vs ((zas (s.deed d).done).map zig):=tu
   have hvl:vs.length=(zas (s.deed d).done).length:=by rw [tu.length,List.length_map]
   refine zfv (xs:=vs) (λ i σ H2=>∃ v2 v3,σ=[some (.ref (ad .hall)),some (.int d),v2,v3]/\zai A ρ ad { s with log:=s.log++[.keep d],kept:=s.kept++[d] } (wb (zav s) ((zas (s.deed d).done).take i)) H2/\Frame ρ H ρ H2/\H2 ql=some (.lst vs)/\zau H2 vs ((zas (s.deed d).done).map zig)) ⟨_,_,rfl,h5.grow m1,f05.trans (Frame.grow m1),hq,tu⟩ (λ i σ H2 _ ⟨_,_,_,_,_,e,_⟩=>SqL.of e) ?_ ?_
   . rintro i x σ H2 hx ⟨v2,v3,rfl,h2,f2,hq2,t2⟩
     obtain ⟨y,hy1,r,rfl,hr1⟩:=zcY t2 hx
     rw [List.getElem?_map] at hy1
     obtain ⟨⟨k,v⟩,ha,rfl⟩:=Option.map_eq_some_iff.mp hy1
     have e1:(zas (s.deed d).done).take (i+1)=(zas (s.deed d).done).take i++[(k,v)]:=by rw [List.take_add_one,ha]; rfl
     obtain ⟨dx2,hp2⟩:=h2.hall
     obtain ⟨lk,hlk,hbk⟩:=h2.zdd
     have hll:lk.length<=4:=Nat.le_trans (hbk.len sm.snd λ j hj=>by
      rcases znI hj with hj | hj
      . exact R.L.e.zpX j hj
      . refine zk0 R.L.e (d:=d) ?_
        obtain ⟨p,hp,rfl⟩:=List.mem_map.mp hj
        exact List.mem_map.mpr ⟨p,List.mem_of_mem_take hp,rfl⟩) sm.seen
     refine ⟨r,_,rfl,SqT.of hr1,rfl,_,_,rfl,_,_,rfl,rfl,?_⟩
     refine ⟨_,rfl,_,rfl,_,_,dx2,_,_,rfl,hp2,T.zak,T.zbp,rfl,_,rfl,_,_,rfl,DPut.k (k:=Sum.inr k) hlk (by rw [zlR,sizeLine_eq]; omega),?_⟩
     rw [zlQ]
     have kp3:zcs H2 (ad .zdd) (upd H2 (ad .zdd) (.dK (bkV (bput lk k v)))):=λ b o e hb=>by rw [zae hb]; exact e
     obtain ⟨h3,f3⟩:=h2.zpB T.ok zab kp3 (hbk.put k v)
     refine ⟨_,_,rfl,?_,f2.trans f3,kp3 _ _ hq2 (zbA hq2 hlk (λ z=>nomatch z)),zau.mono (Imm.zfX T.ok h2 (r:=.zdd) trivial kp3) t2⟩
     rw [e1,zqG]; exact h3
   . rintro σ H2 ⟨v2,v3,rfl,h2,f2,_⟩
     rw [hvl,List.take_length,zk1] at h2
     obtain ⟨dx2,hp2⟩:=h2.hall
     refine ⟨_,rfl,_,dx2,_,rfl,hp2,rfl,_,rfl,ρ,ad,_,s,_,d,.kept,T0,rfl,h2,R.c,R.L,R.h,rfl,rfl,rfl,rfl,rfl,R.c.keeps hact,R.L.keeps R.c hact,by decide,hd,λ H6 ρ6 ad6 ea6 h6 f6=>q H6 ρ6 ad6 ea6 ?_ (f2.trans f6)⟩
     rw [znl ordS R.c hact]; exact h6
theorem zeY (T:Txt K mg A F):FnOk P w K mg base (CX1 P w) 1 (F.f 1) (F.fd 1) ["_law_cell_here","_law_prime","_law_many"] zsS:=by
 refine T.znD.okN zlc (λ vs H Q E h=>?_) (λ cdv A' outer s H vs Q E hr h=>?_)
 . obtain ⟨c,p,m,rfl,_⟩:=h
   rfl
 . obtain ⟨c,p,m,rfl,hp,hm,q⟩:=h
   refine ⟨_,(zah (zaz (zcG zj9 (zcG zj9 (zcG zj8 (pv 0) zan) (pv 1)) (pv 2)))),?_⟩
   exact ⟨_,rfl,_,_,rfl,rfl,.inr ⟨by decide,by decide⟩,_,rfl,_,_,rfl,rfl,hp,_,rfl,_,_,rfl,rfl,hm,q⟩
theorem zd5 (T:Txt K mg A F):FnOk P w K mg base (CX1 P w) 1 (F.f 2) (F.fd 2) ["_law_script","_law_k"] (zrZ K):=by
 refine T.zl5.okN zjS (λ vs H Q E h=>?_) (λ cdv A' outer s H vs Q E hr h=>?_)
 . obtain ⟨a,ns,k,rfl,_⟩:=h
   rfl
 . obtain ⟨a,ns,k,rfl,hS,q⟩:=h
   refine ⟨_,(zac (zbD (zaF zlk (pv 1) (zbi zbe (by rfl) T.zi8 PySem.boot_len (zaa (pv 0) zad)) (zaJ _)) (zah (zaz (zba zbr (pv 0) (pv 1) (λ _ _=>rfl)))) zaO)
     (zah (zaz zan))),?_⟩
   refine ⟨_,rfl,_,rfl,a,_,rfl,.inl hS,_,_,rfl,rfl,_,rfl,?_⟩
   rw [List.length_map]
   by_cases h:k < ns.length
   . refine zbB (decide_eq_true (by omega)) ⟨_,rfl,_,rfl,a,_,_,_,rfl,rfl,hS,zbs (by rw [List.getElem?_map,List.getElem?_eq_getElem h]; rfl),?_⟩
     have:za2 ns k=ns[k]:=by unfold za2; rw [List.getD_eq_getElem?_getD,List.getElem?_eq_getElem h]; rfl
     rw [this] at q; exact q
   . refine zaZ (decide_eq_false (by omega)) ?_
     have:za2 ns k=0:=by unfold za2; rw [List.getD_eq_getElem?_getD,List.getElem?_eq_none (by omega)]; rfl
     rw [this] at q; exact q
theorem zh0 (T:Txt K mg A F):FnOk P w K mg base (CX1 P w) 2 (F.f 3) (F.fd 3) ["_law_script","_law_k"] spNo :=
 T.zgc.okN zbn (λ vs H Q E h=>h.elim) (λ cdv A' outer s H vs Q E hr h=>h.elim)
theorem zka (T:Txt K mg A F):FnOk P w K mg base (CX1 P w) 3 (F.f 3) (F.fd 3) ["_law_script","_law_k"] (zrW K):=by
 have G__law_mix:=@zeY P w K mg base A F T
 have G__law_cell:=@zd5 P w K mg base A F T
 have G__law_key:=@zh0 P w K mg base A F T
 refine T.zgc.okN zbn (λ vs H Q E h=>?_) (λ cdv A' outer s H vs Q E hr h=>?_)
 . obtain ⟨a,ns,k,rfl,_⟩:=h
   rfl
 . obtain ⟨a,ns,k,rfl,hS,hk,q⟩:=h
   refine ⟨_,(zac (zaI (i:=2) zbn.nd rfl (by walk_at "loc") zaU)
     (zac (zaI (i:=3) zbn.nd rfl (by walk_at "loc") (zcG zhb (zaR G__law_cell (hmr hr) rfl T.zch T.zcg T.zci .nil zaD (zaa (pv 0) (zaa zan zad))) (zcG zj8 zan (pv 1))))
     (zac (zaI (i:=4) zbn.nd rfl (by walk_at "loc") (zdz PySem.F.plainAttrs_str PySem.F.slot_str_join PySem.F.type_str_join zoy zaU (zaa (zeW 1 [2,3] ["_law_j","_law_letters","_law_seed"] rfl (by walk_at "blk") (zg6 rfl T.zlq (zaa (zaR G__law_mix (hmr hr) rfl T.zbH T.zbF T.zbI .nil zaD (zaa (pv 3) (zaa zan (zaa zan zad)))) zad)) (λ C fp s H=>(za0 (i:=0) (show (["_law_j","_law_letters","_law_seed"]:List Str).Nodup by decide +kernel) rfl (by walk_at "loc"))) (λ C fp s H=>zg2) (λ C fp s H=>(zba zmE (pv 1) (zaR G__law_mix (hmr hr) rfl T.zbH T.zbF T.zbI .nil zaD (zaa (zcG zhb (pv 2) (zcG zj8 zan (pv 0))) (zaa zan (zaa zan zad)))) (λ _ _=>rfl)))) zad)))
     (zac (zbD (PW.pt (zod (zaF zco (pv 1) zan (zaJ _)) (zlg (zaF zco (zcG zj9 (zaR G__law_cell (hmr hr) rfl T.zch T.zcg T.zci .nil zaD (zaa (pv 0) (zaa zan zad))) zan) zan (zaJ _))))) (zah (zaz (zba zbr (zc0 (zaa zaU (zaa zaU zad))) (zbj zfA (by rfl) T.zow boot_int (zaa (zcz zco (zaR G__law_key (hmr hr) rfl T.zf2 T.zfZ T.zf7 .nil zaD (zaa (pv 0) (zaa zan zad))) zaU (zaJ _)) zad)) (λ _ _=>rfl)))) zaO)
     (zah (zaz (zcG zin (zba zmE zaU (pv 1) (λ _ _=>rfl)) (pv 4)))))))),?_⟩
   refine ⟨_,rfl,a,ns,0,rfl,hS,_,rfl,_,_,rfl,rfl,.inl ⟨by decide,by decide⟩,_,_,rfl,rfl,?_⟩
   obtain ⟨t0,t1⟩:=zir (c:=za2 ns 0+7 * (k:Int)) (p:=9967) (m:=4) (by decide)
   refine ⟨rfl,_,rfl,_,_,_,rfl,by decide,by decide,_,rfl,by omega,by omega,?_⟩
   refine ziD (λ i ys σ H2=>∃ v0,σ=[v0,some (.str abc),some (.int (za2 ns 0+7 * (k:Int)))]/\H2=H/\ys=((List.range i).map λ (j:Nat)=>pick abc (mixF (za2 ns 0+7 * (k:Int)+5 * (j:Int)) 9973 26).toNat).map V.str) ⟨none,rfl,rfl,rfl⟩ (λ i ys σ H2 ⟨_,_,_,e⟩=>by rw [e,List.length_map,List.length_map,List.length_range]; exact Nat.le_refl _) (by rw [sizeLine_eq]; omega) ?_ ?_
   . rintro i ys σ H2 hlt ⟨v0,rfl,rfl,rfl⟩
     obtain ⟨u0,u1⟩:=zir (c:=za2 ns 0+7 * (k:Int)+5 * (0+(i:Int))) (p:=9973) (m:=26) (by decide)
     have hsz:abc.cps.size=26:=by decide +kernel
     obtain ⟨c,hc,hp⟩:=ziW (l:=abc) (i:=(mixF (za2 ns 0+7 * (k:Int)+5 * (0+(i:Int))) 9973 26).toNat) (by rw [hsz]; omega)
     rw [show (((mixF (za2 ns 0+7 * (k:Int)+5 * (0+(i:Int))) 9973 26).toNat:Nat):Int)=mixF (za2 ns 0+7 * (k:Int)+5 * (0+(i:Int))) 9973 26 by omega] at hc
     refine ⟨_,rfl,_,rfl,_,rfl,_,_,rfl,rfl,.inl ⟨by decide,by decide⟩,_,_,rfl,rfl,_,_,_,rfl,by decide,by decide,_,_,c,rfl,rfl,by show abc.cps.size<=sizeLine; rw [hsz,sizeLine_eq]; decide,hc,nx hlt ⟨_,rfl,rfl,?_⟩⟩
     rw [List.range_succ,List.map_append,List.map_append]
     rw [show (0+(i:Int))=(i:Int) by omega] at hp
     rw [<-hp]; rfl
   rintro ys σ H2 ⟨v0,rfl,rfl,rfl⟩
   intro pt nt
   refine ⟨_,pt,zdN (za2 ns 0+7 * (k:Int)),rfl,rfl,zab,?_,?_⟩
   . rw [zmD]
     have h3:=zgI (za2 ns 0+7 * (k:Int))
     omega
   have s1:Same H2 (upd H2 pt (.lst ((zdN (za2 ns 0+7 * (k:Int))).map V.str))):=Same.zaw nt
   show tSeq _ _ _ _ (upd H2 pt (.lst ((zdN (za2 ns 0+7 * (k:Int))).map V.str)))
   generalize upd H2 pt (.lst ((zdN (za2 ns 0+7 * (k:Int))).map V.str))=H3 at *
   have last:∀ kf:Str,kf=zh7 ns k->(∀ H',Same H2 H'->Q (.str kf) H')->tRet (tOp (λ x y H Q=>∃ i j,x=.str i/\y=.str j/\i.length+j.length<=sizeLine/\Q (.str (i++j)) H) (tOp rIxS (tC (.str "qrst")) (tVar 1)) (tVar 4)) { nx:=λ _ H'=>Q .non H',rt:=Q } [some (.ref a),some (.int k),some (.str "abcdefghijklmnopqrstuvwxyz"),some (.int (za2 ns 0+7 * (k:Int))),some (.str (Txt.join "" (zdN (za2 ns 0+7 * (k:Int)))))] H3:=λ kf ek q=>by
     have hsz:("qrst" : Str).cps.size=4:=by decide +kernel
     obtain ⟨c,hc,hp⟩:=ziW (l := "qrst") (i:=k) (by rw [hsz]; omega)
     refine ⟨_,rfl,_,_,c,rfl,rfl,by show ("qrst" : Str).cps.size<=sizeLine; rw [hsz,sizeLine_eq]; decide,hc,_,rfl,_,_,rfl,rfl,?_,?_⟩
     . have h3:=zgI (za2 ns 0+7 * (k:Int))
       have h4:=zkA (zdN (za2 ns 0+7 * (k:Int)))
       have h5:(⟨#[c]⟩:Str).length=1:=rfl
       rw [sizeLine_eq]; omega
     . have:=q H3 s1
       rw [ek] at this
       unfold zh7 at this
       rw [hp] at this
       exact this
   refine ⟨_,rfl,rfl,_,rfl,?_⟩
   refine zaZ (decide_eq_false λ z=>by have:=V.int.inj z; omega) (last _ rfl q)
theorem zlm (T:Txt K mg A F):FnOk P w K mg base (CX1 P w) 4 (F.f 3) (F.fd 3) ["_law_script","_law_k"] (zsU K):=by
 have G__law_mix:=@zeY P w K mg base A F T
 have G__law_cell:=@zd5 P w K mg base A F T
 have G__law_key:=@zka P w K mg base A F T
 refine T.zgc.okN zbn (λ vs H Q E h=>?_) (λ cdv A' outer s H vs Q E hr h=>?_)
 . obtain ⟨a,ns,k,rfl,_⟩:=h
   rfl
 . obtain ⟨a,ns,k,rfl,hS,hk,q⟩:=h
   refine ⟨_,(zac (zaI (i:=2) zbn.nd rfl (by walk_at "loc") zaU)
     (zac (zaI (i:=3) zbn.nd rfl (by walk_at "loc") (zcG zhb (zaR G__law_cell (hmr hr) rfl T.zch T.zcg T.zci .nil zaD (zaa (pv 0) (zaa zan zad))) (zcG zj8 zan (pv 1))))
     (zac (zaI (i:=4) zbn.nd rfl (by walk_at "loc") (zdz PySem.F.plainAttrs_str PySem.F.slot_str_join PySem.F.type_str_join zoy zaU (zaa (zeW 1 [2,3] ["_law_j","_law_letters","_law_seed"] rfl (by walk_at "blk") (zg6 rfl T.zlq (zaa (zaR G__law_mix (hmr hr) rfl T.zbH T.zbF T.zbI .nil zaD (zaa (pv 3) (zaa zan (zaa zan zad)))) zad)) (λ C fp s H=>(za0 (i:=0) (show (["_law_j","_law_letters","_law_seed"]:List Str).Nodup by decide +kernel) rfl (by walk_at "loc"))) (λ C fp s H=>zg2) (λ C fp s H=>(zba zmE (pv 1) (zaR G__law_mix (hmr hr) rfl T.zbH T.zbF T.zbI .nil zaD (zaa (zcG zhb (pv 2) (zcG zj8 zan (pv 0))) (zaa zan (zaa zan zad)))) (λ _ _=>rfl)))) zad)))
     (zac (zbD (PW.pt (zod (zaF zco (pv 1) zan (zaJ _)) (zlg (zaF zco (zcG zj9 (zaR G__law_cell (hmr hr) rfl T.zch T.zcg T.zci .nil zaD (zaa (pv 0) (zaa zan zad))) zan) zan (zaJ _))))) (zah (zaz (zba zbr (zc0 (zaa zaU (zaa zaU zad))) (zbj zfA (by rfl) T.zow boot_int (zaa (zcz zco (zaR G__law_key (hmr hr) rfl T.zf2 T.zfZ T.zf7 .nil zaD (zaa (pv 0) (zaa zan zad))) zaU (zaJ _)) zad)) (λ _ _=>rfl)))) zaO)
     (zah (zaz (zcG zin (zba zmE zaU (pv 1) (λ _ _=>rfl)) (pv 4)))))))),?_⟩
   refine ⟨_,rfl,a,ns,0,rfl,hS,_,rfl,_,_,rfl,rfl,.inl ⟨by decide,by decide⟩,_,_,rfl,rfl,?_⟩
   obtain ⟨t0,t1⟩:=zir (c:=za2 ns 0+7 * (k:Int)) (p:=9967) (m:=4) (by decide)
   refine ⟨rfl,_,rfl,_,_,_,rfl,by decide,by decide,_,rfl,by omega,by omega,?_⟩
   refine ziD (λ i ys σ H2=>∃ v0,σ=[v0,some (.str abc),some (.int (za2 ns 0+7 * (k:Int)))]/\H2=H/\ys=((List.range i).map λ (j:Nat)=>pick abc (mixF (za2 ns 0+7 * (k:Int)+5 * (j:Int)) 9973 26).toNat).map V.str) ⟨none,rfl,rfl,rfl⟩ (λ i ys σ H2 ⟨_,_,_,e⟩=>by rw [e,List.length_map,List.length_map,List.length_range]; exact Nat.le_refl _) (by rw [sizeLine_eq]; omega) ?_ ?_
   . rintro i ys σ H2 hlt ⟨v0,rfl,rfl,rfl⟩
     obtain ⟨u0,u1⟩:=zir (c:=za2 ns 0+7 * (k:Int)+5 * (0+(i:Int))) (p:=9973) (m:=26) (by decide)
     have hsz:abc.cps.size=26:=by decide +kernel
     obtain ⟨c,hc,hp⟩:=ziW (l:=abc) (i:=(mixF (za2 ns 0+7 * (k:Int)+5 * (0+(i:Int))) 9973 26).toNat) (by rw [hsz]; omega)
     rw [show (((mixF (za2 ns 0+7 * (k:Int)+5 * (0+(i:Int))) 9973 26).toNat:Nat):Int)=mixF (za2 ns 0+7 * (k:Int)+5 * (0+(i:Int))) 9973 26 by omega] at hc
     refine ⟨_,rfl,_,rfl,_,rfl,_,_,rfl,rfl,.inl ⟨by decide,by decide⟩,_,_,rfl,rfl,_,_,_,rfl,by decide,by decide,_,_,c,rfl,rfl,by show abc.cps.size<=sizeLine; rw [hsz,sizeLine_eq]; decide,hc,nx hlt ⟨_,rfl,rfl,?_⟩⟩
     rw [List.range_succ,List.map_append,List.map_append]
     rw [show (0+(i:Int))=(i:Int) by omega] at hp
     rw [<-hp]; rfl
   rintro ys σ H2 ⟨v0,rfl,rfl,rfl⟩
   intro pt nt
   refine ⟨_,pt,zdN (za2 ns 0+7 * (k:Int)),rfl,rfl,zab,?_,?_⟩
   . rw [zmD]
     have h3:=zgI (za2 ns 0+7 * (k:Int))
     omega
   have s1:Same H2 (upd H2 pt (.lst ((zdN (za2 ns 0+7 * (k:Int))).map V.str))):=Same.zaw nt
   show tSeq _ _ _ _ (upd H2 pt (.lst ((zdN (za2 ns 0+7 * (k:Int))).map V.str)))
   generalize upd H2 pt (.lst ((zdN (za2 ns 0+7 * (k:Int))).map V.str))=H3 at *
   have last:∀ kf:Str,kf=zh7 ns k->(∀ H',Same H2 H'->Q (.str kf) H')->tRet (tOp (λ x y H Q=>∃ i j,x=.str i/\y=.str j/\i.length+j.length<=sizeLine/\Q (.str (i++j)) H) (tOp rIxS (tC (.str "qrst")) (tVar 1)) (tVar 4)) { nx:=λ _ H'=>Q .non H',rt:=Q } [some (.ref a),some (.int k),some (.str "abcdefghijklmnopqrstuvwxyz"),some (.int (za2 ns 0+7 * (k:Int))),some (.str (Txt.join "" (zdN (za2 ns 0+7 * (k:Int)))))] H3:=λ kf ek q=>by
     have hsz:("qrst" : Str).cps.size=4:=by decide +kernel
     obtain ⟨c,hc,hp⟩:=ziW (l := "qrst") (i:=k) (by rw [hsz]; omega)
     refine ⟨_,rfl,_,_,c,rfl,rfl,by show ("qrst" : Str).cps.size<=sizeLine; rw [hsz,sizeLine_eq]; decide,hc,_,rfl,_,_,rfl,rfl,?_,?_⟩
     . have h3:=zgI (za2 ns 0+7 * (k:Int))
       have h4:=zkA (zdN (za2 ns 0+7 * (k:Int)))
       have h5:(⟨#[c]⟩:Str).length=1:=rfl
       rw [sizeLine_eq]; omega
     . have:=q H3 s1
       rw [ek] at this
       unfold zh7 at this
       rw [hp] at this
       exact this
   refine ⟨_,rfl,rfl,_,rfl,?_⟩
   by_cases h3:k=3
   rotate_left
   . refine zaZ (decide_eq_false λ z=>by have:=V.int.inj z; omega) (last _ ?_ q)
     unfold keyF; rw [if_neg λ z=>h3 z.1]
   refine zbB (decide_eq_true (by rw [h3]; rfl)) ?_
   refine ⟨_,rfl,a,ns,0,rfl,s1.seq hS,_,_,rfl,rfl,(by show (0:Int) < 2; decide),rfl,_,rfl,?_⟩
   by_cases h2:za2 ns 0 % 2=0
   rotate_left
   . refine zaZ (decide_eq_false λ z=>h2 (V.int.inj z)) (last _ ?_ q)
     unfold keyF; rw [if_neg λ z=>h2 z.2]
   refine zbB (decide_eq_true (show V.int (za2 ns 0 % 2)=V.int 0 by rw [h2])) ?_
   refine ⟨sz2,λ l hl=>?_⟩
   have s2:Same H2 (upd H3 l (.lst [V.str "q",V.str "qa"])):=s1.upd2 hl
   refine ⟨_,rfl,a,ns,0,rfl,s2.seq hS,by decide,λ H5 s5=>⟨rfl,.inr ⟨_,rfl,?_⟩⟩⟩
   have hl5:=s5 _ _ (zab (H:=H3) (a:=l) (o:=.lst [V.str "q",V.str "qa"]))
   have q5:=q H5 (s2.trans s5)
   unfold keyF at q5
   rw [if_pos ⟨h3,h2⟩] at q5
   by_cases hq:zh7 ns 0 = "q"
   . rw [if_pos hq] at q5
     rw [decide_eq_true (show V.str (zh7 ns 0)=V.str "q" by rw [hq])]
     exact ⟨l,_,_,_,rfl,rfl,SqL.of hl5,zbs (xs:=[V.str "q",V.str "qa"]) (j:=1) rfl,q5⟩
   . rw [if_neg hq] at q5
     rw [decide_eq_false (show ¬ V.str (zh7 ns 0)=V.str "q" from λ z=>hq (V.str.inj z))]
     exact ⟨l,_,_,_,rfl,rfl,SqL.of hl5,zbs (xs:=[V.str "q",V.str "qa"]) (j:=0) rfl,q5⟩
theorem zln (T:Txt K mg A F):FnOk P w K mg base (CX1 P w) 5 (F.f 4) (F.fd 4) ["_law_script","_law_cell_here","_law_begun"] (zsW K):=by
 have G__law_mix:=@zeY P w K mg base A F T
 have G__law_cell:=@zd5 P w K mg base A F T
 have G__law_key:=@zlm P w K mg base A F T
 refine T.znE.okN zcM (λ vs H Q E h=>?_) (λ cdv A' outer s H vs Q E hr h=>?_)
 . obtain ⟨a,ns,c,b,rfl,_⟩:=h
   rfl
 . obtain ⟨a,ns,c,b,rfl,hS,hb,q⟩:=h
   refine ⟨_,(zac (zaI (i:=3) zcM.nd rfl (by walk_at "loc") (zaR G__law_mix (hmr hr) rfl T.zbH T.zbF T.zbI .nil zaD (zaa (pv 1) (zaa zan (zaa (pv 2) zad)))))
     (zac (zaI (i:=4) zcM.nd rfl (by walk_at "loc") (zaR G__law_key (hmr hr) rfl T.zf2 T.zfZ T.zf7 .nil zaD (zaa (pv 0) (zaa (zaR G__law_mix (hmr hr) rfl T.zbH T.zbF T.zbI .nil zaD (zaa (pv 1) (zaa zan (zaa (zcG zhb zan (zaR G__law_mix (hmr hr) rfl T.zbH T.zbF T.zbI .nil zaD (zaa (zaR G__law_cell (hmr hr) rfl T.zch T.zcg T.zci .nil zaD (zaa (pv 0) (zaa zan zad))) (zaa zan (zaa zan zad))))) zad)))) zad))))
     (zac (zaI (i:=5) zcM.nd rfl (by walk_at "loc") (zaR G__law_mix (hmr hr) rfl T.zbH T.zbF T.zbI .nil zaD (zaa (pv 1) (zaa zan (zaa zan zad)))))
     (zac (zaI (i:=6) zcM.nd rfl (by walk_at "loc") (zba zbr (zc0 (zaa zan (zaa zan zad))) (zbj zfA (by rfl) T.zow boot_int (zaa (zcz zco (zcG zj9 (zaR G__law_cell (hmr hr) rfl T.zch T.zcg T.zci .nil zaD (zaa (pv 0) (zaa zan zad))) zan) zan (zaJ _)) zad)) (λ _ _=>rfl)))
     (zac (zbD (PW.pt (zod (zaF zlk (pv 5) (zcG zhb zan (zcG zrd (pv 6) zan)) (zaJ _)) (zlg (zaF zlk (pv 2) (pv 6) (zaJ _))))) (zah (zaz (zby (zaa zaU zad)))) zaO)
     (zac (zbD (zaF zlk (pv 5) zan (zaJ _)) (zah (zaz (zby (zaa zaU (zaa (pv 3) (zaa (pv 4) zad)))))) zaO)
     (zac (zbD (zaF zlk (pv 5) zan (zaJ _)) (zah (zaz (zby (zaa zaU (zaa (pv 3) (zaa (pv 4) (zaa (zcG zqo (zaR G__law_mix (hmr hr) rfl T.zbH T.zbF T.zbI .nil zaD (zaa (pv 1) (zaa zan (zaa zan zad)))) zan) zad))))))) zaO)
     (zac (zbD (zaF zlk (pv 5) zan (zaJ _)) (zah (zaz (zby (zaa zaU (zaa (pv 3) zad))))) zaO)
     (zah (zaz (zby (zaa zaU (zaa (pv 3) zad))))))))))))),?_⟩
   obtain ⟨d,ed,hd⟩:=zlr (c:=c) (p:=9949) hb
   obtain ⟨m,em,hm⟩:=zlr (c:=za2 ns 0) (p:=9931) (m:=4) (by decide)
   obtain ⟨j,ej,hj⟩:=zlr (c:=c) (p:=9941) (m:=1+m) (by omega)
   have em:mixF (za2 ns 0) 9931 4=m:=em
   refine ⟨_,rfl,_,rfl,_,_,_,rfl,by decide,by omega,?_⟩
   rw [ed]
   refine ⟨_,rfl,_,rfl,_,rfl,a,ns,0,rfl,hS,_,_,_,rfl,by decide,by decide,_,_,rfl,rfl,_,_,_,rfl,by decide,by rw [em]; omega,a,ns,j,?_,hS,by omega,λ H1 s1=>?_⟩
   . rw [em,show (1:Int)+(m:Int)=((1+m:Nat):Int) by omega,ej]; rfl
   refine ⟨_,rfl,_,_,_,rfl,by decide,by decide,?_⟩
   generalize mixF c 9929 17=tn
   refine ⟨sz2,λ l hl=>?_⟩
   have s2:Same H (upd H1 l (.lst [V.int 9,V.int 30])):=s1.upd2 hl
   refine ⟨_,rfl,a,ns,0,rfl,s2.seq hS,_,_,rfl,rfl,(by show (0:Int) < 16; decide),rfl,.inr ⟨_,rfl,l,_,_,V.int (if za2 ns 0 % 16=3 then 30 else 9),rfl,rfl,SqL.of zab,?_,?_⟩⟩
   . by_cases h:za2 ns 0 % 16=3
     . rw [if_pos h]
       show atI [V.int 9,V.int 30] (if decide (V.int (za2 ns 0 % 16)=V.int 3)=true then 1 else 0)=_
       rw [if_pos (decide_eq_true (by rw [h]))]; exact zbs (xs:=[V.int 9,V.int 30]) (j:=1) rfl
     . rw [if_neg h]
       show atI [V.int 9,V.int 30] (if decide (V.int (za2 ns 0 % 16)=V.int 3)=true then 1 else 0)=_
       rw [if_neg (by rw [decide_eq_false λ z=>h (V.int.inj z)]; exact Bool.false_ne_true)]; exact zbs (xs:=[V.int 9,V.int 30]) (j:=0) rfl
   generalize (if za2 ns 0 % 16=3 then (30:Int) else 9)=M
   show tSeq _ _ _ _ (upd H1 l (.lst [V.int 9,V.int 30]))
   generalize upd H1 l (.lst [V.int 9,V.int 30])=H2 at *
   refine ⟨_,rfl,_,rfl,_,_,rfl,rfl,⟨by decide,by decide⟩,_,_,rfl,rfl,_,_,rfl,rfl,_,rfl,?_⟩
   by_cases h1:tn < 2+M / 15
   . refine zbB (decide_eq_true h1) ⟨_,rfl,_,rfl,_,_,rfl,rfl,_,rfl,?_⟩
     by_cases h2:(b:Int) < M
     . exact zbB (decide_eq_true h2) ⟨sz1,λ n nn=>q _ n .begin (s2.free nn) (s2.upd2 nn) zab trivial⟩
     refine zaZ (decide_eq_false h2) ?_
     refine ⟨_,rfl,_,_,rfl,rfl,_,rfl,?_⟩
     by_cases h3:tn < 7
     . exact zbB (decide_eq_true h3) ⟨_,rfl,_,rfl,sz3,λ n nn=>q _ n (.read d (keyF ns j)) (s2.free nn) (s2.upd2 nn) zab ⟨hd,j,by omega,rfl⟩⟩
     refine zaZ (decide_eq_false h3) ⟨_,rfl,_,_,rfl,rfl,_,rfl,?_⟩
     by_cases h4:tn < 13
     . exact zbB (decide_eq_true h4) ⟨_,rfl,_,rfl,_,rfl,_,_,_,rfl,by decide,by decide,_,_,rfl,rfl,sz4,λ n nn=>q _ n (.write d (keyF ns j) _) (s2.free nn) (s2.upd2 nn) zab ⟨hd,j,by omega,rfl⟩⟩
     refine zaZ (decide_eq_false h4) ⟨_,rfl,_,_,rfl,rfl,_,rfl,?_⟩
     by_cases h5:tn < 16
     . exact zbB (decide_eq_true h5) ⟨_,rfl,sz2,λ n nn=>q _ n (.keep d) (s2.free nn) (s2.upd2 nn) zab hd⟩
     . exact zaZ (decide_eq_false h5) ⟨_,rfl,sz2,λ n nn=>q _ n (.drop d) (s2.free nn) (s2.upd2 nn) zab hd⟩
   . refine zaZ (decide_eq_false h1) ?_
     refine ⟨_,rfl,_,_,rfl,rfl,_,rfl,?_⟩
     by_cases h3:tn < 7
     . exact zbB (decide_eq_true h3) ⟨_,rfl,_,rfl,sz3,λ n nn=>q _ n (.read d (keyF ns j)) (s2.free nn) (s2.upd2 nn) zab ⟨hd,j,by omega,rfl⟩⟩
     refine zaZ (decide_eq_false h3) ⟨_,rfl,_,_,rfl,rfl,_,rfl,?_⟩
     by_cases h4:tn < 13
     . exact zbB (decide_eq_true h4) ⟨_,rfl,_,rfl,_,rfl,_,_,_,rfl,by decide,by decide,_,_,rfl,rfl,sz4,λ n nn=>q _ n (.write d (keyF ns j) _) (s2.free nn) (s2.upd2 nn) zab ⟨hd,j,by omega,rfl⟩⟩
     refine zaZ (decide_eq_false h4) ⟨_,rfl,_,_,rfl,rfl,_,rfl,?_⟩
     by_cases h5:tn < 16
     . exact zbB (decide_eq_true h5) ⟨_,rfl,sz2,λ n nn=>q _ n (.keep d) (s2.free nn) (s2.upd2 nn) zab hd⟩
     . exact zaZ (decide_eq_false h5) ⟨_,rfl,sz2,λ n nn=>q _ n (.drop d) (s2.free nn) (s2.upd2 nn) zab hd⟩
theorem zkc (T:Txt K mg A F):FnOk P w K mg base (CX1 P w) 6 (F.f 5) (F.fd 5) ["_law_script"] (zr3 K):=by
 have G__law_act:=@zln P w K mg base A F T
 refine T.zl7.okN zbV (λ vs H Q E h=>?_) (λ cdv A' outer s H vs Q E hr h=>?_)
 . obtain ⟨a,ns,rfl,_⟩:=h
   rfl
 . obtain ⟨a,ns,rfl,hS,q⟩:=h
   refine ⟨_,(zac (zaI (i:=1) zbV.nd rfl (by walk_at "loc") (zc0 (zaa (zby (zaa zaU zad)) (zaa (zby (zaa zaU zad)) zad))))
     (zac (zaI (i:=2) zbV.nd rfl (by walk_at "loc") zan)
     (zac (zgj PassesOwn.never rfl (zda (zmt zn1 (pv 0) (zlh zan) (zlh zan))) (za0 (i:=3) zbV.nd rfl (by walk_at "loc")) (zac (zaI (i:=4) zbV.nd rfl (by walk_at "loc") (zaR G__law_act (hmr hr) rfl T.znu T.znn T.znz .nil zaD (zaa (pv 0) (zaa (pv 3) (zaa (pv 2) zad)))))
     (zac (zaI (i:=2) zbV.nd rfl (by walk_at "loc") (zcG zhb (pv 2) (zbj zfA (by rfl) T.zow boot_int (zaa (zcz zco (zba zb3 (pv 4) zan (λ _ _=>rfl)) zaU (zaJ _)) zad))))
     (zah (zaH (zdz PySem.F.plainAttrs_list PySem.F.slot_list_append PySem.F.type_list_append zbk (pv 1) (zaa (pv 4) zad)))))))
     (zah (zaz (pv 1)))))),?_⟩
   refine ⟨sz1,λ p1 n1=>⟨sz1,λ p2 n2=>⟨sz2,λ l nl=>?_⟩⟩⟩
   have s1:Same H (upd H p1 (.tup [V.str "begin"])):=Same.zaw n1
   have s2:=s1.upd2 (o:=.tup [V.str "begin"]) n2
   have s3:=s2.upd2 (o:=.lst [V.ref p1,V.ref p2]) nl
   have e2:upd (upd H p1 (.tup [V.str "begin"])) p2 (.tup [V.str "begin"]) p2=some (.tup [V.str "begin"]):=zab
   have e1:upd (upd H p1 (.tup [V.str "begin"])) p2 (.tup [V.str "begin"]) p1=some (.tup [V.str "begin"]):=zap zab n2
   refine ⟨_,rfl,_,rfl,_,rfl,a,_,rfl,s3.seq hS,λ pc nc=>⟨pc,rfl,⟨_,SqL.of zab⟩,?_⟩⟩
   have ec:cutV (ns.map V.int) (some 1) (some 62)=((ns.take 62).drop 1).map V.int:=by
     have e0:cutV (ns.map V.int) (some 1) (some 62)=((ns.map V.int).drop (min 1 (ns.map V.int).length)).take (min 62 (ns.map V.int).length - min 1 (ns.map V.int).length):=rfl
     rw [e0,List.length_map,List.map_drop,List.map_take,List.drop_take]
     cases hns:ns with
     | nil=>rfl
     | cons x r =>
       rw [List.length_cons,Nat.min_eq_left (show 1<=r.length+1 by omega)]
       show ((r.map V.int).take _)=(r.map V.int).take 61
       by_cases h:62<=r.length+1
       . rw [Nat.min_eq_left h]
       . rw [List.take_of_length_le (by rw [List.length_map]; omega),List.take_of_length_le (by rw [List.length_map]; omega)]
   rw [ec]
   have hcl:((ns.take 62).drop 1).length<=61:=by rw [List.length_drop,List.length_take]; omega
   generalize hcs:(ns.take 62).drop 1=cs at *
   have nlc:l≠pc:=zaf zab nc
   have s4:=s3.upd2 (o:=.lst (cs.map V.int)) nc
   have nlH:H l=none:=s2.free nl
   have npH:H pc=none:=s3.free nc
   refine zfv (xs:=cs.map V.int) (λ i σ H2=>∃ us As v3 v4,σ=[some (.ref a),some (.ref l),some (.int ((zdq As:Nat):Int)),v3,v4]/\Same H H2/\H2 l=some (.lst us)/\H2 pc=some (.lst (cs.map V.int))/\zau H2 us (As.map actD)/\(∀ p,V.ref p∈us->H p=none)/\Valid ns As/\As.length=2+i/\2<=zdq As) ?_ (λ i σ H2 _ ⟨_,_,_,_,_,_,_,e,_⟩=>SqL.of e) ?_ ?_
   . refine ⟨[V.ref p1,V.ref p2],[.begin,.begin],none,none,rfl,s4,zap zab nc,zab,?_,?_,?_,rfl,Nat.le_refl _⟩
     . exact .cons ⟨p1,rfl,zap (zap e1 nl) nc⟩ (.cons ⟨p2,rfl,zap (zap e2 nl) nc⟩ .nil)
     . intro p hp
       rcases List.mem_cons.mp hp with h | h
       . cases h; exact n1
       . rcases List.mem_cons.mp h with h | h
         . cases h; exact s1.free n2
         . cases h
     . intro i x hx
       match i,hx with
       | 0,hx=>cases hx; trivial
       | 1,hx=>cases hx; trivial
       | i+2,hx=>cases hx
   . rintro i x σ H2 hx ⟨us,As,v3,v4,rfl,m2,hl2,hc2,t2,f2,vd,hlen,hb2⟩
     rw [List.getElem?_map] at hx
     obtain ⟨c,hc,rfl⟩:=Option.map_eq_some_iff.mp hx
     have hi:i < cs.length:=(List.getElem?_eq_some_iff.mp hc).1
     have hul:us.length=As.length:=by rw [t2.length,List.length_map]
     refine ⟨_,rfl,_,rfl,_,rfl,a,ns,c,zdq As,rfl,m2.seq hS,by omega,λ H3 q3 Ac n3 m3 e3 ok3=>?_⟩
     obtain ⟨tx,eA,db⟩:=zpm Ac
     have m03:=m2.trans m3
     refine ⟨_,rfl,_,rfl,q3,_,_,V.str tx,rfl,rfl,SqT.of e3,zbs (j:=0) (by rw [eA]; rfl),rfl,.inr ⟨_,rfl,_,_,rfl,rfl,?_⟩⟩
     have hl3:=m3 _ _ hl2
     refine ⟨_,rfl,.inl ⟨rfl,_,SqL.of hl3⟩,_,rfl,l,us,V.ref q3,rfl,rfl,hl3,by rw [hul,sizeLine_eq]; omega,?_⟩
     have eb:((zdq As:Nat):Int)+(if decide (V.str tx=V.str "begin")=true then 1 else 0)=((zdq (As++[Ac]):Nat):Int):=by
       rw [db,ze4]
       have:=zqy Ac
       by_cases h:Ac.isB=1
       . rw [decide_eq_true h,if_pos rfl,h]; rfl
       . rw [decide_eq_false h,if_neg Bool.false_ne_true]; have:Ac.isB=0:=by omega
         rw [this]; rfl
     refine ⟨us++[V.ref q3],As++[Ac],_,_,by rw [<-eb]; rfl,?_,zab,?_,?_,?_,vd.snoc ok3,by rw [List.length_append,List.length_singleton]; omega,by rw [ze4]; omega⟩
     . intro b o e
       rw [zae (zaf e nlH)]; exact m03 b o e
     . rw [zae nlc.symm]; exact m3 _ _ hc2
     . rw [List.map_append]
       have lift:∀ {vs:List V} {xss:List (List V)},zau H3 vs xss->zau (upd H3 l (.lst (us++[V.ref q3]))) vs xss:=λ {vs xss} t=>by
         induction t with
         | nil=>exact .nil
         | cons r0 _ ih =>
           obtain ⟨p0,e0,q0⟩:=r0
           exact .cons ⟨p0,e0,by rw [zae (zbA q0 hl3 (λ z=>nomatch z))]; exact q0⟩ ih
       exact lift (S6.zcn (zbK m3 t2) ⟨q3,rfl,e3⟩)
     . intro p hp
       rcases List.mem_append.mp hp with hp | hp
       . exact f2 p hp
       . have:=List.mem_singleton.mp hp
         cases this
         exact m2.free n3
   . rintro σ H2 ⟨us,As,v3,v4,rfl,m2,hl2,hc2,t2,f2,vd,hlen,hb2⟩
     rw [List.length_map] at hlen
     exact ⟨_,rfl,q H2 l us As nlH m2 hl2 t2 f2 vd (by omega)⟩
theorem zkb (T:Txt K mg A F):FnOk P w K mg base (CX1 P w) 10 (F.f 41) (F.fd 41) ["_law_hall","_law_act_here"] (zr0 A):=by
 have G_Hall_begin:=@zi4 P w K mg base A F T
 have G_Hall_read:=@zkf P w K mg base A F T
 have G_Hall_write:=@zi3 P w K mg base A F T
 have G_Hall_keep:=@zkg P w K mg base A F T
 have G_Hall_give_up:=@zhc P w K mg base A F T
 refine T.zl6.okX zjT (λ vs H Q E h=>?_) (λ cdv A' outer s H vs Q E hr h=>?_)
 . obtain ⟨ρ,ad,s,kq,act,T0,ns,rfl,_⟩:=h
   rfl
 . obtain ⟨ρ,ad,s,kq,act,T0,ns,rfl,hh,R,ht,hn,ok,hq,q,qe⟩:=h
   obtain ⟨dx,hp⟩:=hh.hall
   have nes:∀ a b:Str,a≠b->decide (V.str a=V.str b)=false:=λ a b h=>decide_eq_false λ z=>h (V.str.inj z)
   refine ⟨_,(zac (zbD (zaF zco (zba zb3 (pv 1) zan (λ _ _=>rfl)) zaU (zaJ _)) (zah (zaz (zdy (pv 0) T.zak T.zkq G_Hall_begin (hmr hr) T.zkT .nil zaD))) zaO)
    (zac (zbD (zaF zco (zba zb3 (pv 1) zan (λ _ _=>rfl)) zaU (zaJ _)) (zah (zaz (zax (pv 0) T.zak T.zlw G_Hall_read (hmr hr) T.zlW .nil zbz (zaa (zba zb3 (pv 1) zan (λ _ _=>rfl)) (zaa (zba zb3 (pv 1) zan (λ _ _=>rfl)) zad))))) zaO)
    (zac (zbD (zaF zco (zba zb3 (pv 1) zan (λ _ _=>rfl)) zaU (zaJ _)) (zah (zaz (zax (pv 0) T.zak T.zkp G_Hall_write (hmr hr) T.zkS .nil zbz (zaa (zba zb3 (pv 1) zan (λ _ _=>rfl)) (zaa (zba zb3 (pv 1) zan (λ _ _=>rfl)) (zaa (zba zb3 (pv 1) zan (λ _ _=>rfl)) zad)))))) zaO)
    (zac (zbD (zaF zco (zba zb3 (pv 1) zan (λ _ _=>rfl)) zaU (zaJ _)) (zah (zaz (zax (pv 0) T.zak T.zlx G_Hall_keep (hmr hr) T.zlX .nil zbz (zaa (zba zb3 (pv 1) zan (λ _ _=>rfl)) zad)))) zaO)
    (zah (zaz (zax (pv 0) T.zak T.zh4 G_Hall_give_up (hmr hr) T.zia .nil zbz (zaa (zba zb3 (pv 1) zan (λ _ _=>rfl)) zad)))))))),?_⟩
   cases act with
   | begin =>
    refine ⟨_,rfl,kq,_,_,_,rfl,rfl,SqT.of hq,rfl,rfl,_,rfl,?_⟩
    refine zbB (decide_eq_true rfl) ⟨_,rfl,_,dx,_,rfl,hp,rfl,ρ,ad,s,zav s,rfl,hh,R.r.L.sm R.r.c,hn,λ H' ρ' ad' a1 a2 a3=>q _ H' ρ' ad' a1 ?_ a3⟩
    show zai A ρ' ad' (za1 s) (zav (za1 s)) H'
    rw [zlA R.r.c]; exact a2
   | read d k =>
    refine ⟨_,rfl,kq,_,_,_,rfl,rfl,SqT.of hq,rfl,rfl,_,rfl,?_⟩
    refine zaZ (nes _ _ (by decide +kernel)) ?_
    refine ⟨_,rfl,kq,_,_,_,rfl,rfl,SqT.of hq,rfl,rfl,_,rfl,?_⟩
    refine zbB (decide_eq_true rfl) ?_
    have h4:=see4 R.r.L.e R.k ok.2
    refine ⟨_,rfl,_,dx,_,rfl,hp,rfl,_,rfl,kq,_,_,_,rfl,rfl,SqT.of hq,rfl,_,rfl,kq,_,_,_,rfl,rfl,SqT.of hq,rfl,ρ,ad,s,d,k,T0,rfl,hh,R.r,ht,h4,.inl ⟨d,rfl,ok.1,?_⟩⟩
    rw [zgQ] at q qe
    by_cases hg:(s.deed d).st=.zar
    . rw [if_pos hg] at q
      refine .inl ⟨hg,λ H' ρ' ad' q' a1 a2 a3 a4 a5=>q _ H' ρ' ad' a1 ?_ a3⟩
      rw [(zcK R.r hg).2.2.1]; exact a2
    . rw [if_neg hg] at qe
      exact .inr ⟨hg,qe rfl⟩
   | write d k v =>
    refine ⟨_,rfl,kq,_,_,_,rfl,rfl,SqT.of hq,rfl,rfl,_,rfl,?_⟩
    refine zaZ (nes _ _ (by decide +kernel)) ?_
    refine ⟨_,rfl,kq,_,_,_,rfl,rfl,SqT.of hq,rfl,rfl,_,rfl,?_⟩
    refine zaZ (nes _ _ (by decide +kernel)) ?_
    refine ⟨_,rfl,kq,_,_,_,rfl,rfl,SqT.of hq,rfl,rfl,_,rfl,?_⟩
    refine zbB (decide_eq_true rfl) ?_
    have h4:=see4 R.r.L.e R.k ok.2
    refine ⟨_,rfl,_,dx,_,rfl,hp,rfl,_,rfl,kq,_,_,_,rfl,rfl,SqT.of hq,rfl,_,rfl,kq,_,_,_,rfl,rfl,SqT.of hq,rfl,_,rfl,kq,_,_,_,rfl,rfl,SqT.of hq,rfl,ρ,ad,s,d,k,v,T0,rfl,hh,R.r,ht,h4,.inl ⟨d,rfl,ok.1,?_⟩⟩
    rw [zfE] at q qe
    by_cases hg:(s.deed d).st=.zar
    . rw [if_pos hg] at q
      refine .inl ⟨hg,λ H' ρ' ad' q' a1 a2 a3 a4 a5=>q _ H' ρ' ad' a1 ?_ a3⟩
      rw [(zcK R.r hg).2.2.1]; exact a2
    . rw [if_neg hg] at qe
      exact .inr ⟨hg,qe rfl⟩
   | keep d =>
    refine ⟨_,rfl,kq,_,_,_,rfl,rfl,SqT.of hq,rfl,rfl,_,rfl,?_⟩
    refine zaZ (nes _ _ (by decide +kernel)) ?_
    refine ⟨_,rfl,kq,_,_,_,rfl,rfl,SqT.of hq,rfl,rfl,_,rfl,?_⟩
    refine zaZ (nes _ _ (by decide +kernel)) ?_
    refine ⟨_,rfl,kq,_,_,_,rfl,rfl,SqT.of hq,rfl,rfl,_,rfl,?_⟩
    refine zaZ (nes _ _ (by decide +kernel)) ?_
    refine ⟨_,rfl,kq,_,_,_,rfl,rfl,SqT.of hq,rfl,rfl,_,rfl,?_⟩
    refine zbB (decide_eq_true rfl) ?_
    refine ⟨_,rfl,_,dx,_,rfl,hp,rfl,_,rfl,kq,_,_,_,rfl,rfl,SqT.of hq,rfl,ρ,ad,s,d,T0,rfl,hh,R.r,.inl ⟨d,rfl,ok,?_⟩⟩
    rw [zgR] at q qe
    by_cases hg:(s.deed d).st=.zar
    . rw [if_pos hg] at q
      exact .inl ⟨hg,λ H' ρ' ad' a1 a2 a3=>q _ H' ρ' ad' a1 a2 a3⟩
    . rw [if_neg hg] at qe
      exact .inr ⟨hg,qe rfl⟩
   | drop d =>
    refine ⟨_,rfl,kq,_,_,_,rfl,rfl,SqT.of hq,rfl,rfl,_,rfl,?_⟩
    refine zaZ (nes _ _ (by decide +kernel)) ?_
    refine ⟨_,rfl,kq,_,_,_,rfl,rfl,SqT.of hq,rfl,rfl,_,rfl,?_⟩
    refine zaZ (nes _ _ (by decide +kernel)) ?_
    refine ⟨_,rfl,kq,_,_,_,rfl,rfl,SqT.of hq,rfl,rfl,_,rfl,?_⟩
    refine zaZ (nes _ _ (by decide +kernel)) ?_
    refine ⟨_,rfl,kq,_,_,_,rfl,rfl,SqT.of hq,rfl,rfl,_,rfl,?_⟩
    refine zaZ (nes _ _ (by decide +kernel)) ?_
    refine ⟨_,rfl,_,dx,_,rfl,hp,rfl,_,rfl,kq,_,_,_,rfl,rfl,SqT.of hq,rfl,ρ,ad,s,d,T0,rfl,hh,R.r,.inl ⟨d,rfl,ok,?_⟩⟩
    rw [step_drop] at q qe
    by_cases hg:(s.deed d).st=.zar\/(s.deed d).st=.waiting
    . rw [if_pos hg] at q
      exact .inl ⟨hg,λ H' ρ' ad' a1 a2 a3=>q _ H' ρ' ad' a1 a2 a3⟩
    . rw [if_neg hg] at qe
      exact .inr ⟨hg,qe rfl⟩
theorem znh (T:Txt K mg A F):FnOk P w K mg base (CX1 P w) 11 (F.f 42) (F.fd 42) ["_law_hall","_law_act_here"] (spDo A):=by
 have G__law_call:=@zkb P w K mg base A F T
 refine T.zpq.okN zeo (λ vs H Q E h=>?_) (λ cdv A' outer s H vs Q E hr h=>?_)
 . obtain ⟨ρ,ad,s,kq,act,T0,ns,rfl,_⟩:=h
   rfl
 . obtain ⟨ρ,ad,s,kq,act,T0,ns,rfl,hh,R,ht,hn,ok,hq,q⟩:=h
   refine ⟨_,(zac (zaI (i:=2) zeo.nd rfl (by walk_at "loc") zgk)
    (zac (zr9 rfl rfl rfl rfl rfl T.zf4 T.zmU (λ E pn xe hp=>(zah (zaI (i:=2) zeo.nd rfl (by walk_at "loc") (zaR G__law_call (hmr hr) rfl T.zlH T.zlB T.zlS .nil hp (zaa (pv 0) (zaa (pv 1) zad)))))) (λ e=>(zah (zaI (i:=2) zeo.nd rfl (by walk_at "loc") zaU))))
    (zah (zaz (pv 2))))),?_⟩
   refine ⟨_,rfl,_,rfl,ρ,ad,s,kq,act,T0,ns,rfl,hh,R,ht,hn,ok,hq,λ v H' ρ' ad' a1 a2 a3=>⟨_,rfl,q _ H' ρ' ad' a1 a2 a3⟩,λ e=>⟨rfl,?_⟩⟩
   refine ⟨_,rfl,q _ H ρ ad rfl ?_ .refl⟩
   rw [e]; exact hh
theorem zlo (T:Txt K mg A F):FnOk P w K mg base (CX1 P w) 1 (F.f 43) (F.fd 43) ["self"] (zsT A):=by
 refine T.znF.okN zld (λ vs H Q E h=>?_) (λ cdv A' outer s H vs Q E hr h=>?_)
 . obtain ⟨ρ,ad,s,kv,rfl,_⟩:=h
   rfl
 . obtain ⟨ρ,ad,s,kv,rfl,hh,q⟩:=h
   obtain ⟨dx,hp⟩:=hh.hall
   obtain ⟨us,hus,tus⟩:=hh.rows
   refine ⟨_,(zah (zaz (zbj zdD (by rfl) T.zlp boot_tuple (zaa (zam (pv 0) rfl) zad)))),?_⟩
   exact ⟨_,rfl,_,_,dx,_,_,rfl,hp,T.zak,T.zbW,rfl,ad .rows,_,rfl,.inl ⟨SqL.of hus,λ n nn=>q _ n us nn (Same.zaw nn) zab (zbK (Same.zaw nn) tus)⟩⟩
theorem zgv (T:Txt K mg A F):FnOk P w K mg base (CX1 P w) 3 (F.f 47) (F.fd 47) ["self","deed"] (znV A):=by
 have G_Hall_record_of:=@zbE P w K mg base A F T
 refine T.zhS.okX zgu (λ vs H Q E h=>?_) (λ cdv A' outer s H vs Q E hr h=>?_)
 . obtain ⟨ρ,ad,s,kv,i,rfl,_⟩:=h
   rfl
 . obtain ⟨ρ,ad,s,kv,i,rfl,hh,hn,q⟩:=h
   obtain ⟨dx,hp⟩:=hh.hall
   refine ⟨_,(zah (zaz (zam (zax (pv 0) T.zak T.zbQ G_Hall_record_of (hmr hr) T.zbR .nil zbz (zaa (pv 1) zad)) rfl))),?_⟩
   refine ⟨_,rfl,_,dx,_,rfl,hp,rfl,_,rfl,ρ,ad,s,kv,i,rfl,hh,hn,?_⟩
   rcases q with ⟨d,rfl,hd,q⟩ | q
   rotate_left
   . exact .inr q
   obtain ⟨dr,w0,hrc,_⟩:=hh.rcd hd
   exact .inl ⟨d,rfl,hd,_,_,dr,_,_,rfl,hrc,T.zat,T.zay,rfl,q⟩
theorem zi2 (T:Txt K mg A F):FnOk P w K mg base (CX1 P w) 2 (F.f 44) (F.fd 44) ["_law_hall"] (zqW A):=by
 have G_Hall_log:=@zlo P w K mg base A F T
 refine T.zkW.okN ziP (λ vs H Q E h=>?_) (λ cdv A' outer s H vs Q E hr h=>?_)
 . obtain ⟨ρ,ad,s,kv,rfl,_⟩:=h
   rfl
 . obtain ⟨ρ,ad,s,kv,rfl,hh,hl,q⟩:=h
   obtain ⟨dx,hp⟩:=hh.hall
   refine ⟨_,(zah (zaz (zbi zbe (by rfl) T.zi8 PySem.boot_len (zaa (zeW 1 [] ["_law_row"] rfl (by walk_at "blk") (zms (zdy (pv 0) T.zak T.znk G_Hall_log (hmr hr) T.znA .nil zaD)) (λ C fp s H=>(za0 (i:=0) (show (["_law_row"]:List Str).Nodup by decide +kernel) rfl (by walk_at "loc"))) (λ C fp s H=>zg1 (zaF zco (zba (zlD (K:=K) rfl) (pv 0) zan (λ _ _=>rfl)) zaU (zaJ _))) (λ C fp s H=>(pv 0))) zad)))),?_⟩
   refine ⟨_,rfl,_,dx,_,rfl,hp,rfl,ρ,ad,s,kv,rfl,hh,λ H1 qt us nq m1 e1 t1=>⟨qt,rfl,⟨_,SqT.of e1⟩,?_⟩⟩
   have hul:us.length=s.log.length:=by rw [t1.length,List.length_map]
   refine zmO (xs:=us) (λ i ys σ H2=>∃ v0,σ=[v0]/\H2=H1/\ys.length=(logB (s.log.take i)).length/\ys.length<=i) ⟨none,rfl,rfl,rfl,Nat.le_refl _⟩ (λ i ys σ H2 ⟨_,_,e,_,hy⟩=>⟨SqT.of (by rw [e]; exact e1),hy⟩) (by rw [hul,sizeLine_eq]; omega) ?_ ?_
   . rintro i x ys σ H2 hlt hx ⟨v0,rfl,rfl,hy,hyi⟩
     obtain ⟨y,hy1,r,rfl,hr1⟩:=zcY t1 hx
     rw [List.getElem?_map] at hy1
     obtain ⟨row,hrow,rfl⟩:=Option.map_eq_some_iff.mp hy1
     have ei:s.log.take (i+1)=s.log.take i++[row]:=by rw [List.take_add_one,hrow]; rfl
     obtain ⟨t,et,db⟩:=zpC row
     refine ⟨_,rfl,r,_,_,V.str t,rfl,rfl,SqT.of hr1,zbs (j:=0) (by rw [et]; rfl),rfl,_,rfl,?_⟩
     refine zeb (rowB row) db ?_
     cases hb:rowB row with
     | true =>
      refine iteT ⟨_,rfl,nx hlt ⟨_,rfl,rfl,?_,?_⟩⟩
      . rw [ei,zmA,hb,List.length_append,hy]; rfl
      . rw [List.length_append,List.length_singleton]; omega
     | false =>
      refine iteF (nx hlt ⟨_,rfl,rfl,?_,by omega⟩)
      rw [ei,zmA,hb,hy]; rfl
   . rintro ys σ H2 ⟨v0,rfl,rfl,hy,hyi⟩
     rw [hul,List.take_length] at hy
     intro n hn
     refine ⟨n,_,rfl,.inl (SqL.of zab),?_⟩
     have:=q _ (m1.upd2 (o:=.lst ys) hn)
     rw [<-hy] at this; exact this
theorem zfk (T:Txt K mg A F):FnOk P w K mg base (CX1 P w) 2 (F.f 45) (F.fd 45) ["self","deed","use"] (zpv A):=by
 have G_Desk_hindering:=@zcf P w K mg base A F T
 refine T.zge.okN zbZ (λ vs H Q E h=>?_) (λ cdv A' outer s H vs Q E hr h=>?_)
 . obtain ⟨p,hd,rw,h,r,d,w,rfl,_⟩:=h
   rfl
 . obtain ⟨p,hd,rw,h,r,d,w,rfl,D,hl,hnd,hlr,hm,hrn,lt,q⟩:=h
   have hu64:=hu64 hr
   obtain ⟨dx,hp⟩:=D.ob
   obtain ⟨us,hrw,tu⟩:=D.rw
   have hul:us.length=r.length:=by rw [tu.length,List.length_map]
   refine ⟨_,(zac (zaI (i:=3) zbZ.nd rfl (by walk_at "loc") (zdz PySem.F.plainAttrs_list PySem.F.slot_list_index PySem.F.type_list_index (zmz hu64) (zam (pv 0) rfl) (zaa (zby (zaa (pv 1) (zaa (pv 2) zad))) zad)))
     (zac (zfQ (i:=4) 1 [] ["pair"] zbZ.nd rfl (by walk_at "loc") rfl (by walk_at "blk") (zda (zmt zn1 (zam (pv 0) rfl) zq6 (zlh (pv 3)))) (λ C fp s H=>(za0 (i:=0) (show (["pair"]:List Str).Nodup by decide +kernel) rfl (by walk_at "loc"))) (λ C fp s H=>zg2) (λ C fp s H=>(zba (zlD (K:=K) rfl) (pv 0) zan (λ _ _=>rfl))))
     (zah (zaz (zbj zdD (by rfl) T.zlp boot_tuple (zaa (zbi (zcS rfl) (by rfl) T.zgK boot_sorted (zaa (zbj (zmQ rfl) (by rfl) T.zrg boot_set (zaa (zcG zqp (pv 4) (zax (pv 0) T.zaG T.zcB G_Desk_hindering (hmr hr) T.zcE .nil zaD (zaa (pv 1) (zaa (pv 2) zad)))) zad)) zad)) zad)))))),?_⟩
   obtain ⟨post,er,hall⟩:=zgJ hrn hm
   have z2:([V.int (d:Int),V.str (useS w)]:List V).length<=sizeLine:=sz2
   refine ⟨_,rfl,p,_,dx,_,_,rfl,hp,T.zaG,T.zaP,rfl,.inl ⟨rfl,_,SqL.of hrw⟩,_,rfl,_,rfl,z2,λ n hn=>?_⟩
   have dv:DVs (upd H n (.tup [V.int (d:Int),V.str (useS w)])) us (r.map λ p=>.tuple [.int p.1,.str (useS p.2)]):=ziZ (zbK (Same.zaw hn) tu)
   refine ⟨rw,us,_,_,_,(ahead r d).length,rfl,rfl,zap hrw hn,dv,.tup zab (.cons (.int _) (.cons (.str _) .nil)),λ e he=>?_,zi0 _ _,⟨?_,λ m hm' e he=>?_⟩,?_⟩
   . obtain ⟨x,_,rfl⟩:=List.mem_map.mp he
     exact zi0 _ _
   . have:r[(ahead r d).length]?=some (d,w):=by
       have e2:(ahead r d++(d,w)::post)[(ahead r d).length]?=some (d,w):=by rw [List.getElem?_append_right (Nat.le_refl _)]; simp
       rw [<-er] at e2; exact e2
     rw [List.getElem?_map,this]; rfl
   . rw [List.getElem?_map] at he
     obtain ⟨x,hx,rfl⟩:=Option.map_eq_some_iff.mp he
     have hx2:x∈ahead r d:=by
       have e2:(ahead r d++(d,w)::post)[m]?=(ahead r d)[m]?:=List.getElem?_append_left hm'
       rw [<-er,hx] at e2
       exact List.mem_of_getElem? e2.symm
     intro z
     injection z with z
     injection z with z1 _
     injection z1 with z1
     exact hall x hx2 (by omega)
   . have m0:Same H (upd H n (.tup [V.int (d:Int),V.str (useS w)])):=Same.zaw hn
     have D1:=D.same m0
     have hla:(ahead r d).length<=r.length:=by have:=congrArg List.length er; simp at this; omega
     have ecut:cutV us none (some ((ahead r d).length:Int))=us.take (ahead r d).length:=by
       have e0:cutV us none (some ((ahead r d).length:Int))=(us.drop 0).take (min (ahead r d).length us.length - 0):=rfl
       rw [e0,Nat.min_eq_left (by omega)]; rfl
     have tu1:zau H (us.take (ahead r d).length) ((ahead r d).map zbY):=by
       have e1:(r.map zbY).take (ahead r d).length=(ahead r d).map zbY:=by rw [<-List.map_take]; congr 1; have:=congrArg (List.take (ahead r d).length) er; rw [this,List.take_left]
       rw [<-e1]
       exact zjH _ tu
     refine ⟨_,rfl,p,_,dx,_,_,rfl,m0 _ _ hp,T.zaG,T.zaP,rfl,_,rfl,_,rfl,rw,us,rfl,SqL.of (m0 _ _ hrw),λ pc nc=>⟨pc,rfl,⟨_,SqL.of zab⟩,?_⟩⟩
     rw [ecut]
     have m2:Same H (upd (upd H n (.tup [V.int (d:Int),V.str (useS w)])) pc (.lst (us.take (ahead r d).length))):=m0.upd2 nc
     have e2:upd (upd H n (.tup [V.int (d:Int),V.str (useS w)])) pc (.lst (us.take (ahead r d).length)) pc=some (.lst (us.take (ahead r d).length)):=zab
     generalize upd (upd H n (.tup [V.int (d:Int),V.str (useS w)])) pc (.lst (us.take (ahead r d).length))=H2 at *
     have hlt':(us.take (ahead r d).length).length=(ahead r d).length:=by rw [List.length_take]; omega
     refine zef (xs:=us.take (ahead r d).length) (λ i ys σ G=>∃ v0,σ=[v0]/\G=H2/\ys=zal (((ahead r d).take i).map (·.1))) ⟨none,rfl,rfl,rfl⟩ (λ i ys σ G ⟨_,_,e,hy⟩=>⟨SqL.of (by rw [e]; exact e2),?_⟩) (by rw [hlt',sizeLine_eq]; omega) ?_ ?_
     . rw [hy]; unfold zal; rw [List.length_map,List.length_map,List.length_take]; omega
     . rintro i x ys σ G hlt hx ⟨v0,rfl,rfl,rfl⟩
       obtain ⟨y,hy1,rr,rfl,hr1⟩:=zcY (zbK m2 tu1) hx
       rw [List.getElem?_map] at hy1
       obtain ⟨pr,hpr,rfl⟩:=Option.map_eq_some_iff.mp hy1
       have ei:(ahead r d).take (i+1)=(ahead r d).take i++[pr]:=by rw [List.take_add_one,hpr]; rfl
       refine ⟨_,rfl,rr,_,_,V.int pr.1,rfl,rfl,SqT.of hr1,rfl,nx hlt ⟨_,rfl,rfl,?_⟩⟩
       rw [ei]; unfold zal; simp
     . rintro ys σ G ⟨v0,rfl,rfl,rfl⟩
       rw [hlt',List.take_length]
       intro n3 hn3
       have m3:=m2.upd2 (o:=.lst (zal ((ahead r d).map (·.1)))) hn3
       refine ⟨_,rfl,_,rfl,p,dx,_,rfl,m3 _ _ hp,rfl,_,rfl,_,rfl,p,hd,rw,h,r,d,w,rfl,D.same m3,hl,hnd,λ H4 x nf m4 e4=>?_⟩
       have z0:(ahead r d).length+(hind h d w).length<=2000:=by
        have:(hind h d w).length<=h.length:=by unfold hind; rw [List.length_map]; exact List.length_filter_le _ _
        omega
       have zi:∀ l:List Nat,(zal l).length=l.length:=λ l=>by unfold zal; rw [List.length_map]
       refine ⟨n3,x,_,_,rfl,rfl,m4 _ _ zab,e4,by rw [zi,zi,List.length_map,sizeLine_eq]; omega,λ l nl=>?_⟩
       have lt':∀ e∈(ahead r d).map (·.1)++hind h d w,e < 64:=λ e he=>Nat.lt_succ_of_lt (lt e he)
       have ek:zal ((ahead r d).map (·.1))++zal (hind h d w)=(((ahead r d).map (·.1)++hind h d w).map kI).map kV:=by rw [zjh]; unfold zal; rw [List.map_append]
       have m5:=(m3.trans m4).upd2 (o:=.lst (zal ((ahead r d).map (·.1))++zal (hind h d w))) nl
       refine ⟨l,((ahead r d).map (·.1)++hind h d w).map kI,rfl,.inl (by rw [<-ek]; exact SqL.of zab),znf _,by rw [List.length_map,List.length_append,List.length_map]; omega,λ qs nqs=>?_⟩
       refine ⟨qs,_,rfl,zab,S6.zhD _,ziu _,by rw [(zfy lt').length_eq,List.length_map]; exact Nat.lt_of_le_of_lt (zlj lt) (by decide),λ ys ly pm so nly=>?_⟩
       have ey:=zg9 (pm.trans (zfy lt')) so
       subst ey
       rw [zjh]
       exact ⟨ly,_,rfl,.inl ⟨SqL.of zab,λ t nt=>q _ t (((m5.upd2 nqs).upd2 nly).upd2 nt) zab⟩⟩
theorem zdj (T:Txt K mg A F):FnOk P w K mg base (CX1 P w) 3 (F.f 46) (F.fd 46) ["self","deed"] (zqT A):=by
 have G_Hall_record_of:=@zbE P w K mg base A F T
 have G_Desk_waited_for:=@zfk P w K mg base A F T
 refine T.zgC.okX zdf (λ vs H Q E h=>?_) (λ cdv A' outer s H vs Q E hr h=>?_)
 . obtain ⟨ρ,ad,s,kv,i,rfl,_⟩:=h
   rfl
 . obtain ⟨ρ,ad,s,kv,i,rfl,hh,c,sm,hn,q⟩:=h
   have hu:=zey hr
   obtain ⟨dx,hp⟩:=hh.hall
   refine ⟨_,(zac (zaI (i:=2) zdf.nd rfl (by walk_at "loc") (zam (zax (pv 0) T.zak T.zbQ G_Hall_record_of (hmr hr) T.zbR .nil zbz (zaa (pv 1) zad)) rfl))
     (zac (zbD (zff (zqn (pv 2))) (zah (zaz (zby zad))) zaO)
     (zah (zaz (zax (zd4 hu (zam (pv 0) rfl) (zam (pv 2) rfl) (λ _ _=>rfl)) T.zaG T.zfU G_Desk_waited_for (hmr hr) T.zf9 .nil zaD (zaa (pv 1) (zaa (zam (pv 2) rfl) zad))))))),?_⟩
   refine ⟨_,rfl,_,dx,_,rfl,hp,rfl,_,rfl,ρ,ad,s,kv,i,rfl,hh,by omega,?_⟩
   rcases q with ⟨d,rfl,hd,q⟩ | q
   rotate_left
   . exact .inr q
   obtain ⟨dr,wv,hr1,hw⟩:=hh.rcd hd
   refine .inl ⟨d,rfl,hd,_,_,dr,_,_,rfl,hr1,T.zat,T.zaV,rfl,?_⟩
   refine ⟨_,rfl,_,rfl,?_⟩
   by_cases hst:(s.deed d).st=.waiting
   . obtain ⟨a,ha,hrow⟩:=c.wRow d (by simp) hst
     have hw0:wantOf (s.deed d)=some a:=by unfold wantOf; rw [if_pos hst,ha]
     rw [hw0] at hw
     obtain ⟨pw,dw,rfl,hpw⟩:=hw
     have hk:a.key∈s.seen:=zb2 c hrow
     have D:=hh.desk hk
     obtain ⟨dd,hdk⟩:=D.ob
     refine zaZ rfl ?_
     refine ⟨_,rfl,_,_,dx,_,_,rfl,hp,T.zak,T.zbb,rfl,_,rfl,pw,_,dw,_,_,rfl,hpw,T.zaW,T.zaY,rfl,_,_,rfl,hh.zev hk,_,dd,_,rfl,hdk,rfl,_,rfl,_,rfl,pw,_,dw,_,_,rfl,hpw,T.zaW,T.zbh,rfl,_,_,_,_,_,d,a.wr,rfl,D,sm.hl _,sm.hn _,sm.rl _,hrow,c.rNd _,λ e he=>?_,λ H' n m e=>q H' n m ?_⟩
     . rw [<-zen hst ha] at he
       exact Nat.lt_of_lt_of_le (ze8 c hn he) hn
     . rw [zen hst ha]; exact e
   . have hw0:wantOf (s.deed d)=none:=by unfold wantOf; rw [if_neg hst]
     rw [hw0] at hw
     have hw:wv=.non:=hw
     subst hw
     refine zbB rfl ⟨Nat.le_of_ble_eq_true rfl,λ n hn=>q _ n (Same.zaw hn) ?_⟩
     rw [zab,zii hst]; rfl
theorem zfj (T:Txt K mg A F):FnOk P w K mg base (CX1 P w) 4 (F.f 48) (F.fd 48) ["_law_hall","_law_deed"] (zr1 A):=by
 have G_Hall_waits_for:=@zdj P w K mg base A F T
 refine T.zgd.okN za9 (λ vs H Q E h=>?_) (λ cdv A' outer s H vs Q E hr h=>?_)
 . obtain ⟨ρ,ad,s,kv,d,rfl,_⟩:=h
   rfl
 . obtain ⟨ρ,ad,s,kv,d,rfl,hh,c,ac,sm,hn,hd,q⟩:=h
   obtain ⟨dx,hp⟩:=hh.hall
   have lt64:∀ e,∀ x∈zaC s e,x < 63:=λ e x hx=>Nat.lt_of_lt_of_le (ze8 c hn hx) hn
   have mo:∀ {e x:Nat},x∈ordN (zaC s e)->x∈zaC s e:=λ {e x} h=>(zep λ y hy=>Nat.lt_succ_of_lt (lt64 e y hy)).mp h
   refine ⟨_,(zac (zaI (i:=2) za9.nd rfl (by walk_at "loc") (zc0 zad))
     (zac (zaI (i:=3) za9.nd rfl (by walk_at "loc") (zbj zeg (by rfl) T.zov boot_list (zaa (zax (pv 0) T.zak T.zcA G_Hall_waits_for (hmr hr) T.zcD .nil zaD (zaa (pv 1) zad)) zad)))
     (zac (zfg PassesOwn.never (zpG (pv 3) (λ _=>rfl)) (zac (zaI (i:=4) za9.nd rfl (by walk_at "loc") (zoj PySem.F.plainAttrs_list PySem.F.slot_list_pop PySem.F.type_list_pop zox (pv 3)))
     (zac (zbD (zaF zco (pv 4) (pv 1) (zaJ _)) (zah (zaz zli)) zaO)
     (zah (zbD (zaF zj7 (pv 4) (pv 2) (by with_unfolding_all rfl)) (zac (zaH (zdz PySem.F.plainAttrs_list PySem.F.slot_list_append PySem.F.type_list_append zbk (pv 2) (zaa (pv 4) zad)))
     (zah (zaI (i:=3) za9.nd rfl (by walk_at "loc") (zcG zqp (pv 3) (zbj zeg (by rfl) T.zov boot_list (zaa (zax (pv 0) T.zak T.zcA G_Hall_waits_for (hmr hr) T.zcD .nil zaD (zaa (pv 4) zad)) zad)))))) zaO)))))
     (zah (zaz zli))))),?_⟩
   refine ⟨Nat.zero_le _,λ pS nS=>?_⟩
   have mS:Same H (upd H pS (.lst [])):=Same.zaw nS
   refine ⟨_,rfl,_,dx,_,rfl,mS _ _ hp,rfl,_,rfl,ρ,ad,s,kv,d,rfl,hh.grow mS,c,sm,hn,.inl ⟨d,rfl,hd,λ H1 qt m1 e1=>?_⟩⟩
   refine ⟨qt,_,rfl,.inr (SqT.of e1),λ l0 nl0=>?_⟩
   have zi:∀ l:List Nat,(zal l).length=l.length:=λ l=>by unfold zal; rw [List.length_map]
   have slen:∀ sn:List Nat,sn.Nodup->(∀ x∈sn,x < s.n)->sn.length<=s.n:=λ sn nd h=>zdB _ _ nd h
   have olen:∀ e,(ordN (zaC s e)).length<=63:=λ e=>zlj (lt64 e)
   have m0:=(mS.trans m1).upd2 (o:=.lst (zal (ordN (zaC s d)))) nl0
   have nl0H:H l0=none:=(mS.trans m1).free nl0
   have nSl:l0≠pS:=λ z=>by
     have:H1 pS=some (.lst []):=m1 _ _ zab
     rw [<-z,nl0] at this; cases this
   refine ⟨λ m σ H2=>∃ sn lf l v4,σ=[some (.ref (ad .hall)),some (.int d),some (.ref pS),some (.ref l),v4]/\Same H H2/\H l=none/\l≠pS/\H2 pS=some (.lst (zal sn))/\H2 l=some (.lst (zal lf))/\sn.Nodup/\(∀ x∈sn,x < s.n)/\(∀ x∈lf,Reach s d x/\x < s.n)/\lf.length<=63 * (sn.length+1)/\m=64 * (s.n - sn.length)+lf.length,
     ⟨_,[],ordN (zaC s d),l0,none,rfl,m0,nl0H,nSl,zap (m1 _ _ zab) nl0,zab,List.nodup_nil,λ x hx=>(by cases hx),λ x hx=>⟨.one (mo hx),ze8 c hn (mo hx)⟩,by have:=olen d; simpa using this,rfl⟩,?_⟩
   rintro m σ H2 ⟨sn,lf,l,v4,rfl,m2,nl,nlS,hS2,hl2,nd,hsn,hlf,hll,rfl⟩
   refine ⟨_,rfl,_,.inl ⟨_,SqL.of hl2,rfl⟩,?_⟩
   rcases List.eq_nil_or_concat lf with hlf0 | ⟨init,x,hix⟩
   . subst hlf0
     exact zaZ rfl (q H2 m2)
   . have hix:lf=init++[x]:=by rw [hix]; simp
     subst hix
     obtain ⟨hxr,hxn⟩:=hlf x (by simp)
     have hxd:x≠d:=λ z=>ac d (z ▸ hxr)
     have il:zal (init++[x])=zal init++[V.int (x:Int)]:=by unfold zal; rw [List.map_append]; rfl
     refine zbB (by rw [il]; simp) ?_
     refine ⟨λ σ' H'=>∃ sn' lf' l' v4,σ'=[some (.ref (ad .hall)),some (.int d),some (.ref pS),some (.ref l'),v4]/\Same H H'/\H l'=none/\l'≠pS/\H' pS=some (.lst (zal sn'))/\H' l'=some (.lst (zal lf'))/\sn'.Nodup/\(∀ x∈sn',x < s.n)/\(∀ x∈lf',Reach s d x/\x < s.n)/\lf'.length<=63 * (sn'.length+1)/\64 * (s.n - sn'.length)+lf'.length < 64 * (s.n - sn.length)+(init++[x]).length,λ σ' H' ⟨sn',lf',l',v4,e,a1,a2,a3,a4,a5,a6,a7,a8,a9,lt⟩=>⟨_,lt,sn',lf',l',v4,e,a1,a2,a3,a4,a5,a6,a7,a8,a9,rfl⟩,?_⟩
     have hlast:(zal (init++[x]))[(zal (init++[x])).length - 1]?=some (V.int (x:Int)):=by rw [il]; simp
     have hdrop:(zal (init++[x])).dropLast=zal init:=by rw [il,List.dropLast_concat]
     have hsl:=slen sn nd hsn
     have hll':init.length+1<=63 * (sn.length+1):=by simpa using hll
     refine ⟨_,rfl,.inl ⟨rfl,_,SqL.of hl2⟩,l,_,_,rfl,rfl,hl2,hlast,?_⟩
     rw [hdrop]
     have m3:Same H (upd H2 l (.lst (zal init))):=λ b o e=>by rw [zae (zaf e nl)]; exact m2 b o e
     have hS3:upd H2 l (.lst (zal init)) pS=some (.lst (zal sn)):=by rw [zae nlS.symm]; exact hS2
     have hl3:upd H2 l (.lst (zal init)) l=some (.lst (zal init)):=zab
     refine ⟨_,rfl,_,rfl,rfl,_,rfl,zaZ (decide_eq_false λ z=>hxd (by have:=V.int.inj z; omega)) ?_⟩
     refine ⟨_,rfl,_,rfl,pS,_,rfl,.inl (SqL.of hS3),rfl,zo4 _,_,rfl,?_⟩
     refine zeb (!decide (x∈sn)) (by rw [zrm]; rfl) ?_
     by_cases hm:x∈sn
     . refine zaZ (by simp [hm]) ⟨sn,init,l,_,rfl,m3,nl,nlS,hS3,hl3,nd,hsn,λ y hy=>hlf y (List.mem_append_left _ hy),by omega,by simp⟩
     . refine zbB (by simp [hm]) ?_
       refine ⟨_,rfl,.inl ⟨rfl,_,SqL.of hS3⟩,_,rfl,pS,_,_,rfl,rfl,hS3,by rw [zi,sizeLine_eq]; omega,?_⟩
       have is_:zal sn++[V.int (x:Int)]=zal (sn++[x]):=by unfold zal; rw [List.map_append]; rfl
       rw [is_]
       have m4:Same H (upd (upd H2 l (.lst (zal init))) pS (.lst (zal (sn++[x])))):=λ b o e=>by rw [zae (zaf e nS)]; exact m3 b o e
       have hl4:upd (upd H2 l (.lst (zal init))) pS (.lst (zal (sn++[x]))) l=some (.lst (zal init)):=by rw [zae nlS]; exact hl3
       have hS4:upd (upd H2 l (.lst (zal init))) pS (.lst (zal (sn++[x]))) pS=some (.lst (zal (sn++[x]))):=zab
       generalize upd (upd H2 l (.lst (zal init))) pS (.lst (zal (sn++[x])))=H4 at *
       refine ⟨_,rfl,_,rfl,_,dx,_,rfl,m4 _ _ hp,rfl,_,rfl,ρ,ad,s,kv,x,rfl,hh.grow m4,c,sm,hn,.inl ⟨x,rfl,hxn,λ H5 q5 m5 e5=>⟨q5,_,rfl,.inr (SqT.of e5),λ l5 nl5=>?_⟩⟩⟩
       have io:init.length<=63 * 64:=by omega
       refine ⟨l,l5,_,_,rfl,rfl,zap (m5 _ _ hl4) nl5,zab,by rw [zi,zi,sizeLine_eq]; have:=olen x; omega,λ l6 nl6=>?_⟩
       have m6:=((m4.trans m5).upd2 (o:=.lst (zal (ordN (zaC s x)))) nl5)
       have nl6H:H l6=none:=m6.free nl6
       have hS6:=zap (o:=.lst (zal (ordN (zaC s x)))) (m5 _ _ hS4) nl5
       have n6S:l6≠pS:=λ z=>by rw [z,hS6] at nl6; cases nl6
       have ia:zal init++zal (ordN (zaC s x))=zal (init++ordN (zaC s x)):=by unfold zal; rw [List.map_append]
       have nd':(sn++[x]).Nodup:=List.nodup_append.mpr ⟨nd,by simp,λ a ha b hb e=>hm (by rw [List.mem_singleton.mp hb] at e; exact e ▸ ha)⟩
       have hsn':∀ y∈sn++[x],y < s.n:=λ y hy=>(List.mem_append.mp hy).elim (hsn y) λ z=>by rw [List.mem_singleton.mp z]; exact hxn
       have hsl':=slen _ nd' hsn'
       refine ⟨sn++[x],init++ordN (zaC s x),l6,_,rfl,m6.upd2 nl6,nl6H,n6S,zap hS6 nl6,by rw [<-ia]; exact zab,nd',hsn',λ y hy=>?_,?_,?_⟩
       . rcases List.mem_append.mp hy with hy | hy
         . exact hlf y (List.mem_append_left _ hy)
         . exact ⟨hxr.trans (.one (mo hy)),ze8 c hn (mo hy)⟩
       . have:=olen x
         rw [List.length_append,List.length_append,List.length_singleton]; omega
       . have:=olen x
         rw [List.length_append,List.length_singleton] at hsl'
         rw [List.length_append,List.length_append,List.length_append,List.length_singleton]; omega
theorem zsh (T:Txt K mg A F):FnOk P w K mg base (CX1 P w) 12 (F.f 49) (F.fd 49) ["_law_script"] (zrV K):=by
 have G_Hall_init:=@zkh P w K mg base A F T
 have G__law_acts:=@zkc P w K mg base A F T
 have G__law_do:=@znh P w K mg base A F T
 have G__law_count:=@zi2 P w K mg base A F T
 have G_Hall_waits_for:=@zdj P w K mg base A F T
 have G_Hall_state_of:=@zgv P w K mg base A F T
 have G__law_comes_back:=@zfj P w K mg base A F T
 refine T.zte.okN zjR (λ vs H Q E h=>?_) (λ cdv A' outer s H vs Q E hr h=>?_)
 . obtain ⟨a,ns,rfl,_⟩:=h
   rfl
 . obtain ⟨a,ns,rfl,hS,q⟩:=h
   have hu64:=hu64 hr
   refine ⟨_,(zac (zaI (i:=1) zjR.nd rfl (by walk_at "loc") (ziY T.zrh G_Hall_init (hmr hr) rfl T.zst T.zlY .nil zaD))
     (zac (zgj PassesOwn.never rfl (zda (zaR G__law_acts (hmr hr) rfl T.zlI T.zlC T.zlT .nil zaD (zaa (pv 0) zad))) (za0 (i:=2) zjR.nd rfl (by walk_at "loc")) (zac (zaH (zaR G__law_do (hmr hr) rfl T.zoX T.zoK T.zpn .nil zaD (zaa (pv 1) (zaa (pv 2) zad))))
     (zah (zgj PassesOwn.never rfl (zg6 rfl T.zlq (zaa (zaR G__law_count (hmr hr) rfl T.zkC T.zky T.zkR .nil zaD (zaa (pv 1) zad)) zad)) (za0 (i:=3) zjR.nd rfl (by walk_at "loc")) (zac (zaI (i:=4) zjR.nd rfl (by walk_at "loc") (zax (pv 1) T.zak T.zcA G_Hall_waits_for (hmr hr) T.zcD .nil zaD (zaa (pv 3) zad)))
     (zac (zbD (PW.pt (zq4 (zaF (zsg hu64) (zbj zeg (by rfl) T.zov boot_list (zaa (pv 4) zad)) (zbi (zcS rfl) (by rfl) T.zgK boot_sorted (zaa (zbj (zpi rfl) (by rfl) T.zrg boot_set (zaa (pv 4) zad)) zad)) (zaJ _)) (zql (zaF zop (zcz zco (zax (pv 1) T.zak T.zd7 G_Hall_state_of (hmr hr) T.zei .nil zaD (zaa (pv 3) zad)) zaU (zaJ _)) (zcz zpP (zbi zbe (by rfl) T.zi8 PySem.boot_len (zaa (pv 4) zad)) zan (zaJ _)) (zaJ _))))) (zah (zaz zli)) zaO)
     (zac (zbD (zqm (zil (zbi (zqb rfl) (by rfl) T.zs2 boot_all (zaa (zeW 1 [1] ["_law_one","_law_hall"] rfl (by walk_at "blk") (zms (pv 4)) (λ C fp s H=>(za0 (i:=0) (show (["_law_one","_law_hall"]:List Str).Nodup by decide +kernel) rfl (by walk_at "loc"))) (λ C fp s H=>zg2) (λ C fp s H=>(zcz (zng (K:=K) rfl) (zax (pv 1) T.zak T.zd7 G_Hall_state_of (hmr hr) T.zei .nil zaD (zaa (pv 0) zad)) (zc0 (zaa zaU (zaa zaU zad))) (by with_unfolding_all rfl)))) zad)))) (zah (zaz zli)) zaO)
     (zah (zbD (zil (zaR G__law_comes_back (hmr hr) rfl T.zf3 T.zf0 T.zf8 .nil zaD (zaa (pv 1) (zaa (pv 3) zad)))) (zah (zaz zli)) zaO)))))))))
     (zah (zaz zli)))),?_⟩
   intro x dx nxx ndx nex
   refine ⟨x,dx,rfl,zab,λ H1 ρ ad ea hh kp=>⟨rfl,?_⟩⟩
   have s0:Same H (upd (upd H dx (.own x)) x (.ins A.zaX dx [])):=(Same.zaw ndx).upd2 (by rw [zae nex.symm]; exact nxx)
   have s1:Same H H1:=λ b o e=>(kp b o (s0 b o e) (zaf e nxx)).1
   have hh:zai A ρ ad TH.empty (zav (TH.empty:HS Str)) H1:=hh
   refine ⟨_,rfl,a,ns,rfl,s1.seq hS,λ H2 qa us As nq m2 hq tu fu vd hl=>⟨qa,rfl,⟨_,SqL.of hq⟩,?_⟩⟩
   have hul:us.length=As.length:=by rw [tu.length,List.length_map]
   refine zfv (xs:=us) (λ i σ H3=>∃ s ρ' ad' v2 v3 v4,σ=[some (.ref a),some (.ref x),v2,v3,v4]/\ad' Role.hall=x/\zai A ρ' ad' s (zav s) H3/\Run ns s i/\zaQ s/\s.n=zdq (As.take i)/\H3 qa=some (.lst us)/\ρ' qa=.other/\(∀ p,V.ref p∈us->ρ' p=.other)/\zau H3 us (As.map actD)) ⟨TH.empty,ρ,ad,none,none,none,rfl,ea,hh.grow m2,⟨Ready.empty,λ k h=>by cases h⟩,All.empty.l,rfl,hq,hh.fr _ nq,λ p h=>hh.fr _ (fu p h),tu⟩ (λ i σ H3 _ ⟨_,_,_,_,_,_,_,_,_,_,_,_,e,_⟩=>SqL.of e) ?_ ?_
   . rintro i y σ H3 hy ⟨s,ρ3,ad3,v2,v3,v4,rfl,ea3,h3,R3,l3,n3,hq3,ro3,rp3,t3⟩
     have hi:i < us.length:=(List.getElem?_eq_some_iff.mp hy).1
     obtain ⟨z,hz,kq,rfl,hkq⟩:=zcY t3 hy
     rw [List.getElem?_map] at hz
     obtain ⟨act,hact,rfl⟩:=Option.map_eq_some_iff.mp hz
     have ok3:=vd i act hact
     rw [<-n3] at ok3
     have hn3:s.n < 63:=by
       have:=zpl (As.take i)
       rw [List.length_take] at this
       omega
     have e5:As.take (i+1)=As.take i++[act]:=by rw [List.take_add_one,hact]; rfl
     obtain ⟨R4,n4⟩:=R3.step (by omega) hn3 ok3
     have l4:=zpS R3 l3 act
     subst ea3
     refine ⟨_,rfl,_,rfl,ρ3,ad3,s,kq,act,i,ns,rfl,h3,R3,by omega,hn3,ok3,hkq,λ v H4 ρ4 ad4 ea4 h4 f4=>?_⟩
     have n4':(ze9 s act).n<=63:=R4.r.L.n
     generalize hs':ze9 s act=s' at *
     obtain ⟨t4,r4⟩:=zfD f4 rp3 t3
     have hq4:=f4 _ _ hq3 ro3
     have sm:=R4.r.L.sm R4.r.c
     have c:=R4.r.c
     obtain ⟨dx4,hp4⟩:=h4.hall
     rw [<-ea4]
     refine ⟨_,rfl,ρ4,ad4,s',_,rfl,h4,sm.lg,λ H5 m5=>?_⟩
     rw [l4.b,List.length_range]
     refine ⟨_,rfl,by omega,by omega,?_⟩
     refine zo2 (n:=s'.n) (λ j σ G=>∃ v3 v4,σ=[some (.ref a),some (.ref (ad4 .hall)),some (.ref kq),v3,v4]/\Same H4 G) ⟨_,_,rfl,m5⟩ ?_ ?_
     . rintro d σ G hd ⟨v3,v4,rfl,mG⟩
       rw [Int.zero_add]
       have lt64:∀ x∈zaC s' d,x < 63:=λ x hx=>Nat.lt_of_lt_of_le (ze8 c n4' hx) n4'
       have mo:∀ {x:Nat},x∈ordN (zaC s' d)↔x∈zaC s' d:=λ {x}=>zep λ y hy=>Nat.lt_succ_of_lt (lt64 y hy)
       refine ⟨_,rfl,_,dx4,_,rfl,mG _ _ hp4,rfl,_,rfl,ρ4,ad4,s',_,d,rfl,h4.grow mG,c,sm,n4',.inl ⟨d,rfl,hd,λ G1 qt mt et=>?_⟩⟩
       have mG1:=mG.trans mt
       refine ⟨_,rfl,qt,_,rfl,.inr (SqT.of et),λ l1 nl1=>?_⟩
       refine ⟨_,rfl,qt,(ordN (zaC s' d)).map kI,rfl,by rw [zjh]; exact SqT.of (zap et nl1),by rw [List.length_map]; have:=zpO (zaC s' d); omega,λ qs nqs=>?_⟩
       have lo:∀ e∈ordN (zaC s' d),e < 64:=λ e he=>zoo he
       have l63:=zlj lt64
       refine ⟨qs,_,rfl,zab,S6.zhD _,ziu _,by rw [(zfy lo).length_eq,List.length_map,zj6]; omega,λ ys ly pm so nly=>?_⟩
       have ey:=zg9 (pm.trans (zfy lo)) so
       subst ey
       rw [zj6,zjh]
       have m6:=((mt.upd2 (o:=.lst (zal (ordN (zaC s' d)))) nl1).upd2 nqs).upd2 (o:=.lst (zal (ordN (zaC s' d)))) nly
       have e6:upd (upd (upd G1 l1 (.lst (zal (ordN (zaC s' d))))) qs (.ext (SetX _ _ qs (S6.deds ((ordN (zaC s' d)).map kI))))) ly (.lst (zal (ordN (zaC s' d)))) l1=some (.lst (zal (ordN (zaC s' d)))):=zap (zap zab nqs) nly
       refine ⟨_,_,.lst e6 (zlE _),.lst zab (zlE _),zmG _,zmG _,_,rfl,zaZ (by simp) ?_⟩
       have mG6:=mG.trans m6
       have et6:=(((Same.zaw (o:=.lst (zal (ordN (zaC s' d)))) nl1).upd2 nqs).upd2 (o:=.lst (zal (ordN (zaC s' d)))) nly) _ _ et
       refine ⟨_,rfl,_,dx4,_,rfl,mG6 _ _ hp4,rfl,_,rfl,ρ4,ad4,s',_,d,rfl,h4.grow mG6,by omega,.inl ⟨d,rfl,hd,?_⟩⟩
       refine ⟨rfl,_,rfl,qt,_,rfl,.inr (SqT.of et6),_,_,rfl,rfl,rfl,_,rfl,?_⟩
       refine zaZ ?_ ?_
       . have e1:decide (V.str (stS (s'.deed d).st)=V.str "waiting")=decide ((s'.deed d).st=.waiting):=by cases (s'.deed d).st <;> decide +kernel
         have e2:decide ((0:Int) < ((zal (ordN (zaC s' d))).length:Int))=decide ((s'.deed d).st=.waiting):=by
          have hl:(zal (ordN (zaC s' d))).length=(ordN (zaC s' d)).length:=by unfold zal; rw [List.length_map]
          rw [hl]
          by_cases hst:(s'.deed d).st=.waiting
          . obtain ⟨e,he⟩:=zmY c R4.r.h hst
            have:=List.length_pos_of_mem (mo.mpr he)
            rw [decide_eq_true hst,decide_eq_true (by omega)]
          . rw [zii hst,decide_eq_false hst]; decide +kernel
         show (!decide (V.bl (decide (V.str (stS (s'.deed d).st)=V.str "waiting"))=V.bl (decide ((0:Int) < ((zal (ordN (zaC s' d))).length:Int)))))=false
         rw [e1,e2]; simp
       have mk:∀ {G':Hp},Same G G'->Same H4 G':=λ m=>mG.trans m
       refine ⟨_,rfl,qt,rfl,⟨_,SqT.of et6⟩,?_⟩
       refine zmO (xs:=zal (ordN (zaC s' d))) (λ i ys σ H7=>∃ v0,σ=[v0,some (.ref (ad4 .hall))]/\Same G H7/\H7 qt=some (.tup (zal (ordN (zaC s' d))))/\ys=(List.replicate i true).map V.bl) ⟨none,rfl,m6,et6,rfl⟩ (λ i ys σ H7 ⟨_,_,_,e,hy⟩=>⟨SqT.of e,by rw [hy,List.length_map,List.length_replicate]; exact Nat.le_refl _⟩) (by unfold zal; rw [List.length_map,sizeLine_eq]; omega) ?_ ?_
       . rintro i x ys σ H7 hlt hx ⟨v0,rfl,m7,e7,rfl⟩
         unfold zal at hx
         rw [List.getElem?_map] at hx
         obtain ⟨e,he,rfl⟩:=Option.map_eq_some_iff.mp hx
         have hes:=mo.mp (List.mem_of_getElem? he)
         have hea:=zgO c hes
         refine ⟨_,rfl,_,dx4,_,rfl,mk m7 _ _ hp4,rfl,_,rfl,ρ4,ad4,s',_,e,rfl,h4.grow (mk m7),by omega,.inl ⟨e,rfl,c.lt hea,?_⟩⟩
         refine ⟨sz2,λ n nn=>⟨n,_,rfl,.inl (SqL.of zab),rfl,rfl,nx hlt ⟨_,rfl,m7.upd2 nn,zap e7 nn,?_⟩⟩⟩
         have:inV (V.str (stS (s'.deed e).st)) [V.str "going",V.str "waiting"]=true:=by rw [zsR]; exact decide_eq_true hea
         rw [this,List.replicate_succ',List.map_append]; rfl
       . rintro ys σ H7 ⟨v0,rfl,m7,e7,rfl⟩
         intro n hn
         refine ⟨n,List.replicate (zal (ordN (zaC s' d))).length true,rfl,SqL.of zab,?_⟩
         have:(List.replicate (zal (ordN (zaC s' d))).length true).all id=true:=by rw [List.all_eq_true]; intro b hb; rw [List.eq_of_mem_replicate hb]; rfl
         rw [this]
         have m8:=mk (m7.upd2 (o:=.lst ((List.replicate (zal (ordN (zaC s' d))).length true).map V.bl)) hn)
         refine ⟨_,rfl,zaZ rfl ?_⟩
         refine ⟨_,rfl,_,rfl,ρ4,ad4,s',_,d,rfl,h4.grow m8,c,R4.r.a,sm,n4',hd,λ H9 m9=>⟨_,rfl,zaZ rfl ?_⟩⟩
         exact ⟨_,_,rfl,m8.trans m9⟩
     . rintro σ G ⟨v3,v4,rfl,mG⟩
       have fG:Frame ρ4 H4 ρ4 G:=Frame.grow mG
       obtain ⟨t5,r5⟩:=zfD fG r4 t4
       exact ⟨s',ρ4,ad4,_,_,_,rfl,rfl,h4.grow mG,R4,l4,by rw [e5,ze4,n4,n3],mG _ _ hq4.1,hq4.2,r5,t5⟩
   . rintro σ H3 ⟨s,ρ3,ad3,v2,v3,v4,rfl,_⟩
     exact q H3
end
end TP
end
section
namespace TP
open PySem L2 TH PyProof.Rows
def AA:Ad:=⟨59,97,175,422,202,214⟩
def ff:List Addr:=[230,440,433,445,452,459,77,237,28,335,342,115,120,127,134,148,42,363,155,172,391,384,377,89,405,35,94,160,141,419,412,398,370,356,349,56,244,251,258,84,265,466,473,328,478,165,300,272,485,490]
def FF (K:PySem.W.Frag):Fs:=⟨λ i=>ff.getD i 0,λ i=>fdOf K (ff.getD i 0)⟩
def exps:List (Option FV):=[fE "__init__" "Hall.__init__" zeP,fE "_law_mix" "_law_mix" zfI,fE "_law_cell" "_law_cell" zeH,fE "_law_key" "_law_key" zfJ,fE "_law_act" "_law_act" zfK,fE "_law_acts" "_law_acts" zeJ,fE "__init__" "Record.__init__" zdv,fE "begin" "Hall.begin" zd1,fE "is_whole" "is_whole" zfH,fE "record_of" "Hall.record_of" zcv,fE "refuse_unless_going" "Hall.refuse_unless_going" za6,fE "__init__" "Desk.__init__" zeT,fE "hindering" "Desk.hindering" zcy,fE "lets" "Desk.lets" zeS,fE "lets_at_once" "Desk.lets_at_once" zbS,fE "take" "Desk.take" zeR,fE "value_under" "value_under" zdt,fE "carry_out" "Hall.carry_out" zcx,fE "line_up" "Desk.line_up" zc9,fE "next_waited_for" "Desk.next_waited_for" zbv,fE "next_from" "Hall.next_from" zcw,fE "come_to" "Hall.come_to" zc8,fE "greatest_all_round" "Hall.greatest_all_round" zbg,fE "written" "Record.written" zct,fE "undo" "Hall.undo" zeM,fE "rising_keys" "rising_keys" zdu,fE "touched_keys" "Record.touched_keys" zbx,fE "leave" "Desk.leave" zd2,fE "lets_first" "Desk.lets_first" zcd,fE "let_on" "Hall.let_on" zdw,fE "end" "Hall.end" zfM,fE "drop" "Hall.drop" zeQ,fE "wait" "Hall.wait" zeL,fE "answer" "Hall.answer" zdx,fE "ask" "Hall.ask" zfN,fE "__init__" "Want.__init__" zeK,fE "read" "Hall.read" zeN,fE "write" "Hall.write" zd0,fE "keep" "Hall.keep" zeO,fE "is_at_end" "Record.is_at_end" zb1,fE "give_up" "Hall.give_up" zc7,fE "_law_call" "_law_call" zeI,fE "_law_do" "_law_do" zgX,fE "log" "Hall.log" zfL,fE "_law_count" "_law_count" zdZ,fE "waited_for" "Desk.waited_for" zcc,fE "waits_for" "Hall.waits_for" zcu,fE "state_of" "Hall.state_of" zcP,fE "_law_comes_back" "_law_comes_back" zcb,fE "law" "law" zn8]
def bs (K:PySem.W.Frag):List Bool:=[PySem.W.plainGet K 59 Str.empty,PySem.W.hasDictIn K 59,PySem.W.plainOver K 59,fi K 59 "__setattr__" == some (some (.builtin "object.__setattr__")),fi K 59 "use" == some none,fi K 59 "key" == some none,fi K 59 "value" == some none,gl K "Want" == some (some (.ref 59)),PySem.W.makesIn K 59,fi K 59 "__init__" == some (some (.ref 56)),PySem.W.keepIn K (.ref 59),PySem.W.plainGet K 97 Str.empty,PySem.W.hasDictIn K 97,PySem.W.plainOver K 97,fi K 97 "__setattr__" == some (some (.builtin "object.__setattr__")),fi K 97 "state" == some none,fi K 97 "did" == some none,fi K 97 "want" == some none,gl K "Record" == some (some (.ref 97)),PySem.W.makesIn K 97,fi K 97 "__init__" == some (some (.ref 77)),PySem.W.keepIn K (.ref 97),PySem.W.plainGet K 175 Str.empty,PySem.W.hasDictIn K 175,PySem.W.plainOver K 175,fi K 175 "__setattr__" == some (some (.builtin "object.__setattr__")),fi K 175 "held" == some none,fi K 175 "row" == some none,gl K "Desk" == some (some (.ref 175)),PySem.W.makesIn K 175,fi K 175 "__init__" == some (some (.ref 115)),PySem.W.keepIn K (.ref 175),PySem.W.plainGet K 422 Str.empty,PySem.W.hasDictIn K 422,PySem.W.plainOver K 422,fi K 422 "__setattr__" == some (some (.builtin "object.__setattr__")),fi K 422 "records" == some none,fi K 422 "desks" == some none,fi K 422 "standing" == some none,fi K 422 "kept_values" == some none,fi K 422 "kept_deeds" == some none,fi K 422 "rows" == some none,gl K "Hall" == some (some (.ref 422)),PySem.W.makesIn K 422,fi K 422 "__init__" == some (some (.ref 230)),PySem.W.keepIn K (.ref 422),gl K "_law_mix" == some (some (.ref 440)),gl K "_law_cell" == some (some (.ref 433)),gl K "_law_key" == some (some (.ref 445)),gl K "_law_act" == some (some (.ref 452)),gl K "_law_acts" == some (some (.ref 459)),fi K 422 "begin" == some (some (.ref 237)),gl K "is_whole" == some (some (.ref 28)),fi K 422 "record_of" == some (some (.ref 335)),fi K 422 "refuse_unless_going" == some (some (.ref 342)),fi K 175 "hindering" == some (some (.ref 120)),fi K 175 "lets" == some (some (.ref 127)),fi K 175 "lets_at_once" == some (some (.ref 134)),fi K 175 "take" == some (some (.ref 148)),gl K "value_under" == some (some (.ref 42)),fi K 422 "carry_out" == some (some (.ref 363)),fi K 175 "line_up" == some (some (.ref 155)),fi K 175 "next_waited_for" == some (some (.ref 172)),fi K 422 "next_from" == some (some (.ref 391)),fi K 422 "come_to" == some (some (.ref 384)),fi K 422 "greatest_all_round" == some (some (.ref 377)),fi K 97 "written" == some (some (.ref 89)),fi K 422 "undo" == some (some (.ref 405)),gl K "rising_keys" == some (some (.ref 35)),fi K 97 "touched_keys" == some (some (.ref 94)),fi K 175 "leave" == some (some (.ref 160)),fi K 175 "lets_first" == some (some (.ref 141)),fi K 422 "let_on" == some (some (.ref 419)),fi K 422 "end" == some (some (.ref 412)),fi K 422 "drop" == some (some (.ref 398)),fi K 422 "wait" == some (some (.ref 370)),fi K 422 "answer" == some (some (.ref 356)),fi K 422 "ask" == some (some (.ref 349)),fi K 422 "read" == some (some (.ref 244)),fi K 422 "write" == some (some (.ref 251)),fi K 422 "keep" == some (some (.ref 258)),fi K 97 "is_at_end" == some (some (.ref 84)),fi K 422 "give_up" == some (some (.ref 265)),gl K "_law_call" == some (some (.ref 466)),gl K "_law_do" == some (some (.ref 473)),fi K 422 "log" == some (some (.ref 328)),gl K "_law_count" == some (some (.ref 478)),fi K 175 "waited_for" == some (some (.ref 165)),fi K 422 "waits_for" == some (some (.ref 300)),fi K 422 "state_of" == some (some (.ref 272)),gl K "_law_comes_back" == some (some (.ref 485)),gl K "law" == some (some (.ref 490)),gs K "BEGIN" "begin",gi K "FIRST_VALUE" 0,gs K "GIVEN_UP" "given up",gs K "GIVE_UP" "give up",gs K "GOING" "going",gs K "KEEP" "keep",gs K "KEPT" "kept",gs K "READ" "read",gs K "READING" "reading",gs K "WAITING" "waiting",gs K "WRITE" "write",gs K "WRITING" "writing",gl K "NoDeed" == some (some (.ref 202)),PySem.W.excIn K 202 [.type "ValueError",.type "Exception",.type "BaseException",.type "object"] "ValueError.__new__",gl K "NotGoing" == some (some (.ref 214)),PySem.W.excIn K 214 [.type "ValueError",.type "Exception",.type "BaseException",.type "object"] "ValueError.__new__",PySem.W.ktsIn K 214 "BaseException",gl K "all" == some none,gl K "bool" == some none,gl K "int" == some none,gl K "isinstance" == some none,gl K "len" == some none,gl K "list" == some none,gl K "range" == some none,gl K "set" == some none,gl K "sorted" == some none,gl K "tuple" == some none]
def qq:Program:={ PySem.Challenge.pw_turnhall_k05_whole_nobody_waits_all_roun with main:={ PySem.Challenge.pw_turnhall_k05_whole_nobody_waits_all_roun.main with body:=[zn8] } }
def lo:List Str:=(PySem.Challenge.pw_turnhall_k05_whole_nobody_waits_all_roun.main.scope.names.map (·.1)).filter λ x=>!(x == "law")
def kk (h:Heap):PySem.W.Frag:=Kof (3::List.range' 11 480) h
def OB (K:PySem.W.Frag):Prop:=ff.map (fV K)=exps/\(bs K).all id=true
theorem zrF {K:PySem.W.Frag} {h:Heap} {mg:Str->Option Value} (X:K.In h) (G:h.Ns mainGlobals mg) (o:OB K):Txt K mg AA (FF K):=by
 obtain ⟨h1,h2⟩:=o
 exact ⟨⟨by decide,by decide,by decide,by decide,by decide,by decide⟩,
  ⟨bt h2 0 rfl,bt h2 1 rfl,bt h2 2 rfl,eq_of_beq (bt h2 3 rfl)⟩,
  eq_of_beq (bt h2 4 rfl),
  eq_of_beq (bt h2 5 rfl),
  eq_of_beq (bt h2 6 rfl),
  PySem.W.mg_of X G (eq_of_beq (bt h2 7 rfl)),
  ⟨bt h2 8 rfl,eq_of_beq (bt h2 9 rfl),fu2 h1 35 rfl rfl,bt h2 10 rfl⟩,
  ⟨bt h2 11 rfl,bt h2 12 rfl,bt h2 13 rfl,eq_of_beq (bt h2 14 rfl)⟩,
  eq_of_beq (bt h2 15 rfl),
  eq_of_beq (bt h2 16 rfl),
  eq_of_beq (bt h2 17 rfl),
  PySem.W.mg_of X G (eq_of_beq (bt h2 18 rfl)),
  ⟨bt h2 19 rfl,eq_of_beq (bt h2 20 rfl),fu2 h1 6 rfl rfl,bt h2 21 rfl⟩,
  ⟨bt h2 22 rfl,bt h2 23 rfl,bt h2 24 rfl,eq_of_beq (bt h2 25 rfl)⟩,
  eq_of_beq (bt h2 26 rfl),
  eq_of_beq (bt h2 27 rfl),
  PySem.W.mg_of X G (eq_of_beq (bt h2 28 rfl)),
  ⟨bt h2 29 rfl,eq_of_beq (bt h2 30 rfl),fu2 h1 11 rfl rfl,bt h2 31 rfl⟩,
  ⟨bt h2 32 rfl,bt h2 33 rfl,bt h2 34 rfl,eq_of_beq (bt h2 35 rfl)⟩,
  eq_of_beq (bt h2 36 rfl),
  eq_of_beq (bt h2 37 rfl),
  eq_of_beq (bt h2 38 rfl),
  eq_of_beq (bt h2 39 rfl),
  eq_of_beq (bt h2 40 rfl),
  eq_of_beq (bt h2 41 rfl),
  PySem.W.mg_of X G (eq_of_beq (bt h2 42 rfl)),
  ⟨bt h2 43 rfl,eq_of_beq (bt h2 44 rfl),fu2 h1 0 rfl rfl,bt h2 45 rfl⟩,
  fu h1 0 rfl rfl,
  (fu h1 0 rfl rfl).binds λ _ _ _ _ _ _ us hl=>match us,hl with | [_],_=>rfl,
  fu h1 1 rfl rfl,
  (fu h1 1 rfl rfl).binds λ _ _ _ _ _ _ us hl=>match us,hl with | [_,_,_],_=>rfl,
  PySem.W.mg_of X G (eq_of_beq (bt h2 46 rfl)),
  fu3 h1 1 rfl rfl,
  fu h1 2 rfl rfl,
  (fu h1 2 rfl rfl).binds λ _ _ _ _ _ _ us hl=>match us,hl with | [_,_],_=>rfl,
  PySem.W.mg_of X G (eq_of_beq (bt h2 47 rfl)),
  fu3 h1 2 rfl rfl,
  fu h1 3 rfl rfl,
  (fu h1 3 rfl rfl).binds λ _ _ _ _ _ _ us hl=>match us,hl with | [_,_],_=>rfl,
  PySem.W.mg_of X G (eq_of_beq (bt h2 48 rfl)),
  fu3 h1 3 rfl rfl,
  fu h1 4 rfl rfl,
  (fu h1 4 rfl rfl).binds λ _ _ _ _ _ _ us hl=>match us,hl with | [_,_,_],_=>rfl,
  PySem.W.mg_of X G (eq_of_beq (bt h2 49 rfl)),
  fu3 h1 4 rfl rfl,
  fu h1 5 rfl rfl,
  (fu h1 5 rfl rfl).binds λ _ _ _ _ _ _ us hl=>match us,hl with | [_],_=>rfl,
  PySem.W.mg_of X G (eq_of_beq (bt h2 50 rfl)),
  fu3 h1 5 rfl rfl,
  fu h1 6 rfl rfl,
  (fu h1 6 rfl rfl).binds λ _ _ _ _ _ _ us hl=>match us,hl with | [_],_=>rfl,
  fu h1 7 rfl rfl,
  (fu h1 7 rfl rfl).binds λ _ _ _ _ _ _ us hl=>match us,hl with | [_],_=>rfl,
  ⟨eq_of_beq (bt h2 51 rfl),fu2 h1 7 rfl rfl,fu3 h1 7 rfl rfl⟩,
  fu h1 8 rfl rfl,
  (fu h1 8 rfl rfl).binds λ _ _ _ _ _ _ us hl=>match us,hl with | [_],_=>rfl,
  PySem.W.mg_of X G (eq_of_beq (bt h2 52 rfl)),
  fu3 h1 8 rfl rfl,
  fu h1 9 rfl rfl,
  (fu h1 9 rfl rfl).binds λ _ _ _ _ _ _ us hl=>match us,hl with | [_,_],_=>rfl,
  ⟨eq_of_beq (bt h2 53 rfl),fu2 h1 9 rfl rfl,fu3 h1 9 rfl rfl⟩,
  fu h1 10 rfl rfl,
  (fu h1 10 rfl rfl).binds λ _ _ _ _ _ _ us hl=>match us,hl with | [_,_],_=>rfl,
  ⟨eq_of_beq (bt h2 54 rfl),fu2 h1 10 rfl rfl,fu3 h1 10 rfl rfl⟩,
  fu h1 11 rfl rfl,
  (fu h1 11 rfl rfl).binds λ _ _ _ _ _ _ us hl=>match us,hl with | [_],_=>rfl,
  fu h1 12 rfl rfl,
  (fu h1 12 rfl rfl).binds λ _ _ _ _ _ _ us hl=>match us,hl with | [_,_,_],_=>rfl,
  ⟨eq_of_beq (bt h2 55 rfl),fu2 h1 12 rfl rfl,fu3 h1 12 rfl rfl⟩,
  fu h1 13 rfl rfl,
  (fu h1 13 rfl rfl).binds λ _ _ _ _ _ _ us hl=>match us,hl with | [_,_,_],_=>rfl,
  ⟨eq_of_beq (bt h2 56 rfl),fu2 h1 13 rfl rfl,fu3 h1 13 rfl rfl⟩,
  fu h1 14 rfl rfl,
  (fu h1 14 rfl rfl).binds λ _ _ _ _ _ _ us hl=>match us,hl with | [_,_,_],_=>rfl,
  ⟨eq_of_beq (bt h2 57 rfl),fu2 h1 14 rfl rfl,fu3 h1 14 rfl rfl⟩,
  fu h1 15 rfl rfl,
  (fu h1 15 rfl rfl).binds λ _ _ _ _ _ _ us hl=>match us,hl with | [_,_,_],_=>rfl,
  ⟨eq_of_beq (bt h2 58 rfl),fu2 h1 15 rfl rfl,fu3 h1 15 rfl rfl⟩,
  fu h1 16 rfl rfl,
  (fu h1 16 rfl rfl).binds λ _ _ _ _ _ _ us hl=>match us,hl with | [_,_],_=>rfl,
  PySem.W.mg_of X G (eq_of_beq (bt h2 59 rfl)),
  fu3 h1 16 rfl rfl,
  fu h1 17 rfl rfl,
  (fu h1 17 rfl rfl).binds λ _ _ _ _ _ _ us hl=>match us,hl with | [_,_,_],_=>rfl,
  ⟨eq_of_beq (bt h2 60 rfl),fu2 h1 17 rfl rfl,fu3 h1 17 rfl rfl⟩,
  fu h1 18 rfl rfl,
  (fu h1 18 rfl rfl).binds λ _ _ _ _ _ _ us hl=>match us,hl with | [_,_,_],_=>rfl,
  ⟨eq_of_beq (bt h2 61 rfl),fu2 h1 18 rfl rfl,fu3 h1 18 rfl rfl⟩,
  fu h1 19 rfl rfl,
  (fu h1 19 rfl rfl).binds λ _ _ _ _ _ _ us hl=>match us,hl with | [_,_,_],_=>rfl,
  ⟨eq_of_beq (bt h2 62 rfl),fu2 h1 19 rfl rfl,fu3 h1 19 rfl rfl⟩,
  fu h1 20 rfl rfl,
  (fu h1 20 rfl rfl).binds λ _ _ _ _ _ _ us hl=>match us,hl with | [_,_],_=>rfl,
  ⟨eq_of_beq (bt h2 63 rfl),fu2 h1 20 rfl rfl,fu3 h1 20 rfl rfl⟩,
  fu h1 21 rfl rfl,
  (fu h1 21 rfl rfl).binds λ _ _ _ _ _ _ us hl=>match us,hl with | [_,_],_=>rfl,
  ⟨eq_of_beq (bt h2 64 rfl),fu2 h1 21 rfl rfl,fu3 h1 21 rfl rfl⟩,
  fu h1 22 rfl rfl,
  (fu h1 22 rfl rfl).binds λ _ _ _ _ _ _ us hl=>match us,hl with | [_,_],_=>rfl,
  ⟨eq_of_beq (bt h2 65 rfl),fu2 h1 22 rfl rfl,fu3 h1 22 rfl rfl⟩,
  fu h1 23 rfl rfl,
  (fu h1 23 rfl rfl).binds λ _ _ _ _ _ _ us hl=>match us,hl with | [_],_=>rfl,
  ⟨eq_of_beq (bt h2 66 rfl),fu2 h1 23 rfl rfl,fu3 h1 23 rfl rfl⟩,
  fu h1 24 rfl rfl,
  (fu h1 24 rfl rfl).binds λ _ _ _ _ _ _ us hl=>match us,hl with | [_,_],_=>rfl,
  ⟨eq_of_beq (bt h2 67 rfl),fu2 h1 24 rfl rfl,fu3 h1 24 rfl rfl⟩,
  fu h1 25 rfl rfl,
  (fu h1 25 rfl rfl).binds λ _ _ _ _ _ _ us hl=>match us,hl with | [_],_=>rfl,
  PySem.W.mg_of X G (eq_of_beq (bt h2 68 rfl)),
  fu3 h1 25 rfl rfl,
  fu h1 26 rfl rfl,
  (fu h1 26 rfl rfl).binds λ _ _ _ _ _ _ us hl=>match us,hl with | [_],_=>rfl,
  ⟨eq_of_beq (bt h2 69 rfl),fu2 h1 26 rfl rfl,fu3 h1 26 rfl rfl⟩,
  fu h1 27 rfl rfl,
  (fu h1 27 rfl rfl).binds λ _ _ _ _ _ _ us hl=>match us,hl with | [_,_],_=>rfl,
  ⟨eq_of_beq (bt h2 70 rfl),fu2 h1 27 rfl rfl,fu3 h1 27 rfl rfl⟩,
  fu h1 28 rfl rfl,
  (fu h1 28 rfl rfl).binds λ _ _ _ _ _ _ us hl=>match us,hl with | [_],_=>rfl,
  ⟨eq_of_beq (bt h2 71 rfl),fu2 h1 28 rfl rfl,fu3 h1 28 rfl rfl⟩,
  fu h1 29 rfl rfl,
  (fu h1 29 rfl rfl).binds λ _ _ _ _ _ _ us hl=>match us,hl with | [_,_],_=>rfl,
  ⟨eq_of_beq (bt h2 72 rfl),fu2 h1 29 rfl rfl,fu3 h1 29 rfl rfl⟩,
  fu h1 30 rfl rfl,
  (fu h1 30 rfl rfl).binds λ _ _ _ _ _ _ us hl=>match us,hl with | [_,_,_],_=>rfl,
  ⟨eq_of_beq (bt h2 73 rfl),fu2 h1 30 rfl rfl,fu3 h1 30 rfl rfl⟩,
  fu h1 31 rfl rfl,
  (fu h1 31 rfl rfl).binds λ _ _ _ _ _ _ us hl=>match us,hl with | [_,_],_=>rfl,
  ⟨eq_of_beq (bt h2 74 rfl),fu2 h1 31 rfl rfl,fu3 h1 31 rfl rfl⟩,
  fu h1 32 rfl rfl,
  (fu h1 32 rfl rfl).binds λ _ _ _ _ _ _ us hl=>match us,hl with | [_,_,_],_=>rfl,
  ⟨eq_of_beq (bt h2 75 rfl),fu2 h1 32 rfl rfl,fu3 h1 32 rfl rfl⟩,
  fu h1 33 rfl rfl,
  (fu h1 33 rfl rfl).binds λ _ _ _ _ _ _ us hl=>match us,hl with | [_,_,_],_=>rfl,
  ⟨eq_of_beq (bt h2 76 rfl),fu2 h1 33 rfl rfl,fu3 h1 33 rfl rfl⟩,
  fu h1 34 rfl rfl,
  (fu h1 34 rfl rfl).binds λ _ _ _ _ _ _ us hl=>match us,hl with | [_,_,_],_=>rfl,
  ⟨eq_of_beq (bt h2 77 rfl),fu2 h1 34 rfl rfl,fu3 h1 34 rfl rfl⟩,
  fu h1 35 rfl rfl,
  (fu h1 35 rfl rfl).binds λ _ _ _ _ _ _ us hl=>match us,hl with | [_,_,_,_],_=>rfl,
  fu h1 36 rfl rfl,
  (fu h1 36 rfl rfl).binds λ _ _ _ _ _ _ us hl=>match us,hl with | [_,_,_],_=>rfl,
  ⟨eq_of_beq (bt h2 78 rfl),fu2 h1 36 rfl rfl,fu3 h1 36 rfl rfl⟩,
  fu h1 37 rfl rfl,
  (fu h1 37 rfl rfl).binds λ _ _ _ _ _ _ us hl=>match us,hl with | [_,_,_,_],_=>rfl,
  ⟨eq_of_beq (bt h2 79 rfl),fu2 h1 37 rfl rfl,fu3 h1 37 rfl rfl⟩,
  fu h1 38 rfl rfl,
  (fu h1 38 rfl rfl).binds λ _ _ _ _ _ _ us hl=>match us,hl with | [_,_],_=>rfl,
  ⟨eq_of_beq (bt h2 80 rfl),fu2 h1 38 rfl rfl,fu3 h1 38 rfl rfl⟩,
  fu h1 39 rfl rfl,
  (fu h1 39 rfl rfl).binds λ _ _ _ _ _ _ us hl=>match us,hl with | [_],_=>rfl,
  ⟨eq_of_beq (bt h2 81 rfl),fu2 h1 39 rfl rfl,fu3 h1 39 rfl rfl⟩,
  fu h1 40 rfl rfl,
  (fu h1 40 rfl rfl).binds λ _ _ _ _ _ _ us hl=>match us,hl with | [_,_],_=>rfl,
  ⟨eq_of_beq (bt h2 82 rfl),fu2 h1 40 rfl rfl,fu3 h1 40 rfl rfl⟩,
  fu h1 41 rfl rfl,
  (fu h1 41 rfl rfl).binds λ _ _ _ _ _ _ us hl=>match us,hl with | [_,_],_=>rfl,
  PySem.W.mg_of X G (eq_of_beq (bt h2 83 rfl)),
  fu3 h1 41 rfl rfl,
  fu h1 42 rfl rfl,
  (fu h1 42 rfl rfl).binds λ _ _ _ _ _ _ us hl=>match us,hl with | [_,_],_=>rfl,
  PySem.W.mg_of X G (eq_of_beq (bt h2 84 rfl)),
  fu3 h1 42 rfl rfl,
  fu h1 43 rfl rfl,
  (fu h1 43 rfl rfl).binds λ _ _ _ _ _ _ us hl=>match us,hl with | [_],_=>rfl,
  ⟨eq_of_beq (bt h2 85 rfl),fu2 h1 43 rfl rfl,fu3 h1 43 rfl rfl⟩,
  fu h1 44 rfl rfl,
  (fu h1 44 rfl rfl).binds λ _ _ _ _ _ _ us hl=>match us,hl with | [_],_=>rfl,
  PySem.W.mg_of X G (eq_of_beq (bt h2 86 rfl)),
  fu3 h1 44 rfl rfl,
  fu h1 45 rfl rfl,
  (fu h1 45 rfl rfl).binds λ _ _ _ _ _ _ us hl=>match us,hl with | [_,_,_],_=>rfl,
  ⟨eq_of_beq (bt h2 87 rfl),fu2 h1 45 rfl rfl,fu3 h1 45 rfl rfl⟩,
  fu h1 46 rfl rfl,
  (fu h1 46 rfl rfl).binds λ _ _ _ _ _ _ us hl=>match us,hl with | [_,_],_=>rfl,
  ⟨eq_of_beq (bt h2 88 rfl),fu2 h1 46 rfl rfl,fu3 h1 46 rfl rfl⟩,
  fu h1 47 rfl rfl,
  (fu h1 47 rfl rfl).binds λ _ _ _ _ _ _ us hl=>match us,hl with | [_,_],_=>rfl,
  ⟨eq_of_beq (bt h2 89 rfl),fu2 h1 47 rfl rfl,fu3 h1 47 rfl rfl⟩,
  fu h1 48 rfl rfl,
  (fu h1 48 rfl rfl).binds λ _ _ _ _ _ _ us hl=>match us,hl with | [_,_],_=>rfl,
  PySem.W.mg_of X G (eq_of_beq (bt h2 90 rfl)),
  fu3 h1 48 rfl rfl,
  fu h1 49 rfl rfl,
  (fu h1 49 rfl rfl).binds λ _ _ _ _ _ _ us hl=>match us,hl with | [_],_=>rfl,
  PySem.W.mg_of X G (eq_of_beq (bt h2 91 rfl)),
  fu3 h1 49 rfl rfl,
  zhx X G (bt h2 92 rfl),
  zs8 X G (bt h2 93 rfl),
  zhx X G (bt h2 94 rfl),
  zhx X G (bt h2 95 rfl),
  zhx X G (bt h2 96 rfl),
  zhx X G (bt h2 97 rfl),
  zhx X G (bt h2 98 rfl),
  zhx X G (bt h2 99 rfl),
  zhx X G (bt h2 100 rfl),
  zhx X G (bt h2 101 rfl),
  zhx X G (bt h2 102 rfl),
  zhx X G (bt h2 103 rfl),
  PySem.W.mg_of X G (eq_of_beq (bt h2 104 rfl)),
  bt h2 105 rfl,
  PySem.W.mg_of X G (eq_of_beq (bt h2 106 rfl)),
  bt h2 107 rfl,
  bt h2 108 rfl,
  PySem.W.mg_none_of X G (eq_of_beq (bt h2 109 rfl)),
  PySem.W.mg_none_of X G (eq_of_beq (bt h2 110 rfl)),
  PySem.W.mg_none_of X G (eq_of_beq (bt h2 111 rfl)),
  PySem.W.mg_none_of X G (eq_of_beq (bt h2 112 rfl)),
  PySem.W.mg_none_of X G (eq_of_beq (bt h2 113 rfl)),
  PySem.W.mg_none_of X G (eq_of_beq (bt h2 114 rfl)),
  PySem.W.mg_none_of X G (eq_of_beq (bt h2 115 rfl)),
  PySem.W.mg_none_of X G (eq_of_beq (bt h2 116 rfl)),
  PySem.W.mg_none_of X G (eq_of_beq (bt h2 117 rfl)),
  PySem.W.mg_none_of X G (eq_of_beq (bt h2 118 rfl))⟩
theorem walk {q:Program} {loose:List Str} {d:DefRec} (hdf:d.params.defaults=[]) (hnm:d.name = "law"):PySem.W.WalkO q loose (λ _ _=>True) (λ _ h=>∃ K,OB K/\K.In h) PySem.Challenge.rw_turnhall_k05_whole_nobody_waits_all_roun.row.toRowW d [] (λ f vs=>PySem.call f vs) :=
 walk2 (n:=63) (k:=12) (x := "_law_script") (CX:=λ w=>CX1 PySem.Challenge.rw_turnhall_k05_whole_nobody_waits_all_roun.prog w) (sp:=λ K=>zrV K) rfl (by decide) hdf ⟨rfl,by decide,by decide⟩
  (λ w mg fa h K o X G hfa=>by
   have T:=zrF X G o
   have F:=fu o.1 49 rfl rfl
   rw [hnm] at hfa
   have e:=(T.zs9).symm.trans hfa
   injection e with e
   injection e with e
   subst e
   obtain ⟨oc,od,kV,dc,pm,an,cd,ct,sl,e1,e2,e3⟩:=F.ex
   refine ⟨fdOf K (ff.getD 49 0),λ s v=>?_,λ base _ _=>zsh T⟩
   have:fdOf K (ff.getD 49 0)=_:=e1
   rw [this]
   exact .of_eq rfl)
  (λ _ _ a ns hl _ hS=>⟨a,ns,rfl,hS,λ _=>rfl⟩) λ _ _ _ _ _ z=>by
   obtain ⟨_,_,_,_,_,_,_,_,_,_,_,_,z⟩:=z
   exact z
end TP
end
open PySem PySem.W PyProof.Rows
theorem TP.left:LeftO PySem.Challenge.rw_turnhall_k05_whole_nobody_waits_all_roun.prog TP.qq TP.lo (λ _=>true) (λ s=>(TP.ff.map (TP.fV (TP.kk s.heap)),(TP.bs (TP.kk s.heap)).all id)) (λ _=>(TP.exps,true)) 6804 :=
 TP.zs3 (m:=11) (ann:=some (.ref 6)) (life:={}) (boot_open (by kernel_rfl) rfl λ s=>by kernel_rfl) (λ w=>by kernel_rfl) (λ w=>by kernel_rfl) λ w os=>by rw [PySem.W.Fast.te10156331382660048174,PySem.W.Fast.te11892475500146522536,PySem.W.Fast.te14364793385576792824,PySem.W.Fast.te4187177175401517315]; kernel_rfl
theorem PySem.Challenge.cw_turnhall_k05_whole_nobody_waits_all_roun_holds : PySem.Challenge.rw_turnhall_k05_whole_nobody_waits_all_roun.Holds := by
 refine holds_law (by rw [PySem.W.Fast.te9446332074065402090]; kernel_rfl) λ said=>holds_open (XP:=λ _ _=>True) (YP:=λ _ h=>∃ K,TP.OB K/\K.In h) (d:=TP.dOf TP.zn8) (kwd:=[]) TP.left (λ w s e=>⟨_,⟨congrArg Prod.fst e,congrArg Prod.snd e⟩,TP.zsG⟩) (λ _ h h2 ⟨K,o,x⟩ k=>⟨K,o,x.keeps k⟩) (λ _ _=>trivial) (λ _ _ _ _ _=>trivial) (by kernel_rfl) (by kernel_rfl) (by kernel_rfl) (λ s _=>recFacts_of (R:=[]) (s:=s) rfl) (by kernel_rfl) said (by kernel_rfl) ⟨rfl,rfl,rfl,rfl,rfl,by decide +kernel⟩ (by w_witness2) (TP.walk rfl rfl)
