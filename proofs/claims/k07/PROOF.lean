import PyProof.Rows.All
import Wide.All
import OpenK.AllK
import Wide.FinOn
import PyProof.EqAt
import PyProof.EqKinds
import PyProof.TupleCall
import PyProof.CollectWalk
import PyProof.Seq
import PyProof.SetRoads
import PyProof.DictWalks
import PyProof.DictValues
import PyProof.AttrMissHeap
import KE.KDictOf
import Lean
import PySem.Challenge.RW_turnhall_k07_who_holds_and_waits
set_option linter.all false
set_option maxRecDepth 100000
set_option maxHeartbeats 4000000
set_option Elab.async false
section
namespace TH
inductive DS where
 | zar | waiting | kept | dropped
 deriving DecidableEq
structure Act (K:Type) where
 wr:Bool
 key:K
 val:Int
structure Deed (K:Type) where
 st:DS
 done:List (Act K)
 wish:Option (Act K)
inductive Row (K:Type) where
 | begin (d:Nat) | write (d:Nat) (k:K) (before value:Int) | keep (d:Nat) | drop (d:Nat)
structure HS (K:Type) where
 n:Nat
 deed:Nat->Deed K
 held:K->List (Nat×Bool)
 rows:K->List (Nat×Bool)
 book:K->Option Int
 seen:List K
 log:List (Row K)
 kept:List Nat
def up {α β:Type} [DecidableEq α] (f:α->β) (a:α) (b:β):α->β:=λ x=>if x=a then b else f x
section
variable {α β:Type} [DecidableEq α] {f:α->β} {a x:α} {b:β}
theorem zah:up f a b a=b:=by unfold up; rw [if_pos rfl]
theorem zan (h:x≠a):up f a b x=f x:=by unfold up; rw [if_neg h]
end
def Deed.act {K:Type} (D:Deed K):Prop:=D.st=.zar\/D.st=.waiting
section
variable {K:Type} [DecidableEq K]
abbrev Book (K:Type):=K->Option Int
def over (b:Book K):List (Act K)->Book K
 | []=>b
 | a::r=>over (if a.wr then up b a.key (some a.val) else b) r
def zaO:List (Act K)->K->Option Int
 | [],_=>none
 | a::r,k=>match zaO r k with
  | some v=>some v
  | none=>if a.wr=true/\a.key=k then some a.val else none
def replay:List (Act K)->Book K->Option (Book K)
 | [],b=>some b
 | a::r,b=>if a.wr=true then replay r (up b a.key (some a.val)) else if (b a.key).getD 0=a.val then replay r b else none
def zdP (deed:Nat->Deed K):List Nat->Book K->Option (Book K)
 | [],b=>some b
 | d::r,b=>(replay (deed d).done b).bind (zdP deed r)
def zeu (deed:Nat->Deed K):List Nat->Book K->Book K
 | [],b=>b
 | d::r,b=>zeu deed r (over b (deed d).done)
def zav (s:HS K):Book K:=zeu s.deed s.kept λ _=>none
theorem zfh (k:K):∀ (l:List (Act K)) (b:Book K),over b l k=match zaO l k with | some v=>some v | none=>b k
 | [],b=>rfl
 | a::r,b=>by
  simp only [over,zaO]
  rw [zfh k r]
  cases h:zaO r k with
  | some v=>rfl
  | none =>
   by_cases hw:a.wr=true
   . by_cases hk:a.key=k
     . subst hk; simp [hw,zah]
     . simp [hw,hk,zan (Ne.symm hk)]
   . simp [hw]
theorem zeE (a:Act K) (k:K):∀ l:List (Act K),zaO (l++[a]) k=if a.wr=true/\a.key=k then some a.val else zaO l k
 | []=>by simp [zaO]
 | x::r=>by
  simp only [List.cons_append,zaO]
  rw [zeE a k r]
  by_cases h:a.wr=true/\a.key=k
  . simp [h]
  . simp [h]
theorem zet {k:K} {v:Int}:∀ {l:List (Act K)},zaO l k=some v->∃ a∈l,a.wr=true/\a.key=k
 | [],h=>by simp [zaO] at h
 | a::r,h=>by
  simp only [zaO] at h
  cases h':zaO r k with
  | some w =>
   obtain ⟨x,hx,q⟩:=zet h'
   exact ⟨x,List.mem_cons_of_mem _ hx,q⟩
  | none =>
   rw [h'] at h
   by_cases c:a.wr=true/\a.key=k
   . exact ⟨a,List.mem_cons_self,c⟩
   . simp [c] at h
theorem znN (l m:List (Act K)):∀ b,replay (l++m) b=(replay l b).bind (replay m):=by
 induction l with
 | nil=>intro b; rfl
 | cons a r ih =>
  intro b
  simp only [List.cons_append,replay]
  by_cases hw:a.wr=true
  . simp only [hw,if_true]; exact ih _
  . simp only [hw,if_false]
    by_cases hv:(b a.key).getD 0=a.val
    . simp only [hv,if_true]; exact ih _
    . simp only [hv,if_false]; rfl
theorem zfe:∀ {l:List (Act K)} {b c:Book K},replay l b=some c->c=over b l
 | [],b,c,h=>by simp only [replay,Option.some.injEq] at h; exact h.symm
 | a::r,b,c,h=>by
  simp only [replay] at h
  simp only [over]
  by_cases hw:a.wr=true
  . simp only [hw,if_true] at h ⊢; exact zfe h
  . simp only [hw] at h ⊢
    by_cases hv:(b a.key).getD 0=a.val
    . simp only [hv,if_true] at h; exact zfe h
    . simp [hv] at h
theorem zhm {l:List (Act K)} {b:Book K} (h:(replay l b).isSome=true):replay l b=some (over b l):=by
 cases e:replay l b with
 | none=>rw [e] at h; cases h
 | some c=>rw [zfe e]
theorem zej:∀ {l:List (Act K)} {b c:Book K},(∀ a∈l,b a.key=c a.key)->(replay l b).isSome=(replay l c).isSome
 | [],_,_,_=>rfl
 | a::r,b,c,h=>by
  simp only [replay]
  have hr:∀ x∈r,b x.key=c x.key:=λ x hx=>h x (List.mem_cons_of_mem _ hx)
  have ha:=h a List.mem_cons_self
  by_cases hw:a.wr=true
  . simp only [hw,if_true]
    refine zej λ x hx=>?_
    by_cases e:x.key=a.key
    . rw [e,zah,zah]
    . rw [zan e,zan e]; exact hr x hx
  . simp only [hw,ha]
    by_cases hv:(c a.key).getD 0=a.val
    . simp [hv,zej hr]
    . simp [hv]
theorem ziI (deed:Nat->Deed K) (m:List Nat):∀ (l:List Nat) (b:Book K),zdP deed (l++m) b=(zdP deed l b).bind (zdP deed m)
 | [],b=>rfl
 | d::r,b=>by
  simp only [List.cons_append,zdP]
  cases replay (deed d).done b with
  | none=>rfl
  | some c=>exact ziI deed m r c
theorem zcn {deed deed':Nat->Deed K}:∀ {l:List Nat} {b:Book K},(∀ d∈l,(deed' d).done=(deed d).done)->zdP deed' l b=zdP deed l b
 | [],_,_=>rfl
 | d::r,b,h=>by
  simp only [zdP]
  rw [h d List.mem_cons_self]
  cases replay (deed d).done b with
  | none=>rfl
  | some c=>exact zcn λ x hx=>h x (List.mem_cons_of_mem _ hx)
theorem zfK (deed:Nat->Deed K) (m:List Nat):∀ (l:List Nat) (b:Book K),zeu deed (l++m) b=zeu deed m (zeu deed l b)
 | [],b=>rfl
 | d::r,b=>by simp only [List.cons_append,zeu]; exact zfK deed m r _
theorem zbt {deed deed':Nat->Deed K}:∀ {l:List Nat} {b:Book K},(∀ d∈l,(deed' d).done=(deed d).done)->zeu deed' l b=zeu deed l b
 | [],_,_=>rfl
 | d::r,b,h=>by
  simp only [zeu]
  rw [h d List.mem_cons_self]
  exact zbt λ x hx=>h x (List.mem_cons_of_mem _ hx)
def lets (h:List (Nat×Bool)) (d:Nat) (w:Bool):Bool:=h.all λ p=>p.1 == d || !(w || p.2)
def zbi (h:List (Nat×Bool)) (d:Nat) (w:Bool):List (Nat×Bool) :=
 if h.any (λ p=>p.1 == d) then h.map (λ p=>if p.1 == d then (d,w) else p) else h++[(d,w)]
def less (h:List (Nat×Bool)) (d:Nat):List (Nat×Bool):=h.filter λ p=>p.1 != d
def doIt (s:HS K) (d:Nat) (a:Act K):HS K :=
  if a.wr then
    { s with deed:=up s.deed d { s.deed d with st:=.zar,done:=(s.deed d).done++[a] },
             log:=s.log++[.write d a.key ((s.book a.key).getD 0) a.val],
             book:=up s.book a.key (some a.val) }
  else { s with deed:=up s.deed d { s.deed d with st:=.zar,done:=(s.deed d).done++[⟨false,a.key,(s.book a.key).getD 0⟩] } }
def take (s:HS K) (d:Nat) (k:K) (w:Bool):HS K:={ s with held:=up s.held k (zbi (s.held k) d w) }
def zbz:Nat->HS K->K->HS K
 | 0,s,_=>s
 | f+1,s,k=>match s.rows k with
  | []=>s
  | (d,w)::r=>if lets (s.held k) d w then
    match (s.deed d).wish with
    | some a=>zbz f (doIt (take { s with rows:=up s.rows k r } d k w) d a) k
    | none=>s
   else s
def zaK (s:HS K):List K->HS K
 | []=>s
 | k::r=>zaK (zbz (s.rows k).length s k) r
def letGo (s:HS K) (d:Nat):HS K:={ s with held:=λ k=>less (s.held k) d,rows:=λ k=>less (s.rows k) d }
variable (ord:List K->List K)
def free (s:HS K) (d:Nat):HS K:=zaK (letGo s d) (ord s.seen)
def zfx (s:HS K) (d:Nat) (t:DS):HS K:={ s with deed:=up s.deed d { s.deed d with st:=t } }
def zrY (s:HS K) (d:Nat):HS K:={ zfx s d .kept with kept:=s.kept++[d],log:=s.log++[.keep d] }
def zr3 (s:HS K) (d:Nat):HS K :=
 { zfx s d .dropped with book:=λ k=>if (zaO (s.deed d).done k).isSome then zav s k else s.book k,log:=s.log++[.drop d] }
def keep (s:HS K) (d:Nat):HS K:=free ord (zrY s d) d
def drop (s:HS K) (d:Nat):HS K:=free ord (zr3 s d) d
def za4 (s:HS K):HS K:={ s with n:=s.n+1,deed:=up s.deed s.n ⟨.zar,[],none⟩,log:=s.log++[.begin s.n] }
def zbO (s:HS K) (d:Nat):List Nat:=match (s.deed d).st,(s.deed d).wish with
 | .waiting,some a=>((s.rows a.key).takeWhile λ p=>p.1 != d).map (·.1)++((s.held a.key).filter λ p=>p.1 != d && (a.wr || p.2)).map (·.1)
 | _,_=>[]
inductive Reach (s:HS K):Nat->Nat->Prop where
 | one {d e:Nat}:e∈zbO s d->Reach s d e
 | step {d e f:Nat}:e∈zbO s d->Reach s e f->Reach s d f
open Classical in
noncomputable def rings (s:HS K):List Nat:=(List.range s.n).filter λ d=>decide (Reach s d d)
noncomputable def settle:Nat->HS K->HS K
 | 0,s=>s
 | f+1,s=>match (rings s).getLast? with
  | none=>s
  | some d=>settle f (drop ord s d)
def has (h:List (Nat×Bool)) (d:Nat):Bool:=h.any λ p=>p.1 == d
def look (h:List (Nat×Bool)) (d:Nat):Option Bool:=(h.find? λ p=>p.1 == d).map (·.2)
def see (s:HS K) (k:K):HS K:={ s with seen:=if k∈s.seen then s.seen else s.seen++[k] }
def wait (s:HS K) (d:Nat) (a:Act K):HS K :=
  { s with deed:=up s.deed d { s.deed d with st:=.waiting,wish:=some a },
           rows:=up s.rows a.key (if has (s.held a.key) d then (d,a.wr)::s.rows a.key else s.rows a.key++[(d,a.wr)]) }
noncomputable def wish (s:HS K) (d:Nat) (a:Act K):HS K :=
 let s:=see s a.key
 if look (s.held a.key) d=some a.wr\/look (s.held a.key) d=some true then doIt s d a
 else if lets (s.held a.key) d a.wr=true/\(has (s.held a.key) d=true\/s.rows a.key=[]) then doIt (take s d a.key a.wr) d a
 else settle ord s.n (wait s d a)
end
end TH
end
section
namespace TH
section
variable {K:Type} [DecidableEq K]
structure Core (s:HS K) (x:Option Nat):Prop where
 out:∀ d,s.n<=d->(s.deed d).st=.dropped/\(s.deed d).done=[]
 hAct:∀ k p,p∈s.held k->(s.deed p.1).act
 hNd:∀ k,((s.held k).map (·.1)).Nodup
 hEx:∀ k d,(d,true)∈s.held k->∀ p∈s.held k,p.1=d
 rAct:∀ k p,p∈s.rows k->(s.deed p.1).st=.waiting/\∃ a,(s.deed p.1).wish=some a/\a.key=k/\a.wr=p.2
 rNd:∀ k,((s.rows k).map (·.1)).Nodup
 wRow:∀ d,some d≠x->(s.deed d).st=.waiting->∃ a,(s.deed d).wish=some a/\(d,a.wr)∈s.rows a.key
 zfB:∀ k d w w',(d,w)∈s.rows k->(d,w')∈s.held k->w'=false/\w=true
 zfq:∀ d,(s.deed d).act->∀ a∈(s.deed d).done,∃ w,(d,w)∈s.held a.key/\(a.wr=true->w=true)
 zdB:∀ k,k∉s.seen->s.held k=[]/\s.rows k=[]
 bOwn:∀ d,(s.deed d).act->∀ k v,zaO (s.deed d).done k=some v->s.book k=some v
 zgT:∀ k,(∀ d,(s.deed d).act->zaO (s.deed d).done k=none)->s.book k=zav s k
 ser:zdP s.deed s.kept (λ _=>none)=some (zav s)
 actR:∀ d,(s.deed d).act->(replay (s.deed d).done (zav s)).isSome=true
 zdu:∀ d,d∈s.kept↔(s.deed d).st=.kept
 zhO:s.kept.Nodup
theorem zdO {D:Deed K} (h:D.act):D.st≠.kept:=by
 rcases h with h | h <;> rw [h] <;> decide
theorem zeY {D:Deed K} (h:D.act):D.st≠.dropped:=by
 rcases h with h | h <;> rw [h] <;> decide
theorem Core.lt {s:HS K} {x:Option Nat} (c:Core s x) {d:Nat} (h:(s.deed d).act):d < s.n:=by
 by_cases e:d < s.n
 . exact e
 . exact absurd (c.out d (by omega)).1 (zeY h)
theorem Core.sole {s:HS K} {x:Option Nat} (c:Core s x) {d e:Nat} {k:K} {v:Int} {w:Bool} (hd:(s.deed d).act) (hw:zaO (s.deed d).done k=some v) (he:(e,w)∈s.held k):e=d:=by
 obtain ⟨a,ha,aw,ak⟩:=zet hw
 obtain ⟨w',hh,hw'⟩:=c.zfq d hd a ha
 rw [hw' aw,ak] at hh
 exact c.hEx k d hh (e,w) he
theorem zbW {s t:HS K} (h:t.kept=s.kept) (hd:∀ d∈s.kept,(t.deed d).done=(s.deed d).done):zav t=zav s:=by
 unfold zav; rw [h]; exact zbt hd
theorem Core.reads {s:HS K} {x:Option Nat} (c:Core s x) {d:Nat} {k:K} {w:Bool} (hd:(s.deed d).act) (hh:(d,w)∈s.held k):s.book k=over (zav s) (s.deed d).done k:=by
 rw [zfh]
 cases e:zaO (s.deed d).done k with
 | some v=>exact c.bOwn d hd k v e
 | none =>
  refine c.zgT k λ f hf=>?_
  cases e':zaO (s.deed f).done k with
  | none=>rfl
  | some v =>
   have q:=c.sole hf e' hh
   subst q
   rw [e] at e'; cases e'
theorem Core.doIt {s:HS K} {d:Nat} {a:Act K} {w:Bool} (c:Core s (some d)) (hd:(s.deed d).act) (hr:∀ k w,(d,w)∉s.rows k) (hh:(d,w)∈s.held a.key) (hw:a.wr=true->w=true):Core (doIt s d a) none:=by
 have hnk:(s.deed d).st≠.kept:=zdO hd
 have nk:∀ e∈s.kept,e≠d:=λ e he z=>by subst z; exact hnk ((c.zdu _).mp he)
 have main:∀ (a':Act K) (bk:Book K) (lg:List (Row K)),a'.key=a.key->a'.wr=a.wr->(a.wr=false->bk=s.book/\a'.val=(s.book a.key).getD 0)->(a.wr=true->bk=up s.book a.key (some a'.val)) ->
    Core { s with deed:=up s.deed d { s.deed d with st:=.zar,done:=(s.deed d).done++[a'] },log:=lg,book:=bk } none:=by
  intro a' bk lg ek ew hbr hbw
  have dd:∀ e,e≠d->up s.deed d { s.deed d with st:=.zar,done:=(s.deed d).done++[a'] } e=s.deed e:=λ e he=>zan he
  have ds:up s.deed d { s.deed d with st:=.zar,done:=(s.deed d).done++[a'] } d={ s.deed d with st:=.zar,done:=(s.deed d).done++[a'] }:=zah
  have actE:∀ e,(up s.deed d { s.deed d with st:=.zar,done:=(s.deed d).done++[a'] } e).act↔(s.deed e).act:=λ e=>by
    by_cases h:e=d
    . subst h; rw [ds]; exact ⟨λ _=>hd,λ _=>.inl rfl⟩
    . rw [dd e h]
  have kb:zav { s with deed:=up s.deed d { s.deed d with st:=.zar,done:=(s.deed d).done++[a'] },log:=lg,book:=bk }=zav s :=
    zbW rfl λ e he=>by show (up s.deed d _ e).done=_; rw [dd e (nk e he)]
  have lastE:∀ e k,zaO (up s.deed d { s.deed d with st:=.zar,done:=(s.deed d).done++[a'] } e).done k=if e=d/\a.wr=true/\a.key=k then some a'.val else zaO (s.deed e).done k:=λ e k=>by
    by_cases h:e=d
    . subst h; rw [ds]; show zaO ((s.deed e).done++[a']) k=_; rw [zeE,ek,ew]; simp
    . rw [dd e h]; simp [h]
  refine ⟨λ e he=>?_,λ k p hp=>?_,c.hNd,c.hEx,λ k p hp=>?_,c.rNd,λ e _ he=>?_,c.zfB,λ e he b hb=>?_,c.zdB,λ e he k v hv=>?_,λ k hk=>?_,?_,λ e he=>?_,λ e=>?_,c.zhO⟩
  . have:e≠d:=λ z=>by subst z; have:=c.lt hd; have he':s.n<=e:=he; omega
    rw [show ({ s with deed:=up s.deed d { s.deed d with st:=.zar,done:=(s.deed d).done++[a'] },log:=lg,book:=bk }:HS K).deed e=s.deed e from dd e this]
    exact c.out e he
  . exact (actE p.1).mpr (c.hAct k p hp)
  . have:p.1≠d:=λ z=>hr k p.2 (by rw [<-z]; exact hp)
    rw [show ({ s with deed:=up s.deed d { s.deed d with st:=.zar,done:=(s.deed d).done++[a'] },log:=lg,book:=bk }:HS K).deed p.1=s.deed p.1 from dd p.1 this]
    exact c.rAct k p hp
  . have hne:e≠d:=λ z=>by
      subst z
      have he':(up s.deed e { s.deed e with st:=.zar,done:=(s.deed e).done++[a'] } e).st=.waiting:=he
      rw [ds] at he'; cases he'
    have he':(up s.deed d { s.deed d with st:=.zar,done:=(s.deed d).done++[a'] } e).st=.waiting:=he
    rw [dd e hne] at he'
    obtain ⟨b,q1,q2⟩:=c.wRow e (λ z=>hne (Option.some.inj z)) he'
    exact ⟨b,by show (up s.deed d _ e).wish=_; rw [dd e hne]; exact q1,q2⟩
  . by_cases h:e=d
    . subst h
      have hb':b∈(up s.deed e { s.deed e with st:=.zar,done:=(s.deed e).done++[a'] } e).done:=hb
      rw [ds] at hb'
      rcases List.mem_append.mp hb' with q | q
      . exact c.zfq e hd b q
      . have q':b=a':=by simpa using q
        subst q'
        exact ⟨w,by rw [ek]; exact hh,λ z=>hw (by rw [<-ew]; exact z)⟩
    . have hb':b∈(up s.deed d { s.deed d with st:=.zar,done:=(s.deed d).done++[a'] } e).done:=hb
      rw [dd e h] at hb'
      exact c.zfq e ((actE e).mp he) b hb'
  . have hv':zaO (up s.deed d { s.deed d with st:=.zar,done:=(s.deed d).done++[a'] } e).done k=some v:=hv
    rw [lastE] at hv'
    have he':=(actE e).mp he
    show bk k=some v
    by_cases h:e=d/\a.wr=true/\a.key=k
    . rw [if_pos h] at hv'
      obtain ⟨h1,h2,h3⟩:=h
      rw [hbw h2,<-h3,zah]; exact hv'
    . rw [if_neg h] at hv'
      cases hwr:a.wr with
      | false=>rw [(hbr hwr).1]; exact c.bOwn e he' k v hv'
      | true =>
        have hne:k≠a.key:=λ z=>by
         subst z
         have q:=c.sole he' hv' hh
         exact h ⟨q.symm,hwr,rfl⟩
        rw [hbw hwr,zan hne]
        exact c.bOwn e he' k v hv'
  . show bk k=zav _ k
    rw [kb]
    have hk':∀ e,(s.deed e).act->¬ (e=d/\a.wr=true/\a.key=k)/\zaO (s.deed e).done k=none:=λ e he=>by
      have q:zaO (up s.deed d { s.deed d with st:=.zar,done:=(s.deed d).done++[a'] } e).done k=none:=hk e ((actE e).mpr he)
      rw [lastE] at q
      by_cases h:e=d/\a.wr=true/\a.key=k
      . rw [if_pos h] at q; cases q
      . rw [if_neg h] at q; exact ⟨h,q⟩
    cases hwr:a.wr with
    | false=>rw [(hbr hwr).1]; exact c.zgT k λ e he=>(hk' e he).2
    | true =>
      have hne:k≠a.key:=λ z=>(hk' d hd).1 ⟨rfl,hwr,z.symm⟩
      rw [hbw hwr,zan hne]
      exact c.zgT k λ e he=>(hk' e he).2
  . show zdP (up s.deed d _) s.kept _=_
    rw [kb,<-c.ser]
    exact zcn λ e he=>by rw [dd e (nk e he)]
  . rw [kb]
    show (replay (up s.deed d _ e).done (zav s)).isSome=true
    by_cases h:e=d
    . subst h
      rw [ds]
      show (replay ((s.deed e).done++[a']) (zav s)).isSome=true
      rw [znN,zhm (c.actR e hd)]
      show (replay [a'] (over (zav s) (s.deed e).done)).isSome=true
      unfold replay
      cases hwr:a.wr with
      | true=>rw [if_pos (by rw [ew,hwr])]; rfl
      | false =>
        rw [if_neg (by rw [ew,hwr]; decide),if_pos (by rw [ek,<-c.reads hd hh,(hbr hwr).2])]
        rfl
    . rw [dd e h]; exact c.actR e ((actE e).mp he)
  . show e∈s.kept↔(up s.deed d _ e).st=.kept
    by_cases h:e=d
    . subst h
      rw [ds,c.zdu e]
      exact ⟨λ z=>absurd z hnk,λ z=>by cases z⟩
    . rw [dd e h]; exact c.zdu e
 unfold TH.doIt
 cases hwr:a.wr with
 | true=>exact main a _ _ rfl rfl (λ z=>by rw [hwr] at z; cases z) λ _=>rfl
 | false=>exact main ⟨false,a.key,(s.book a.key).getD 0⟩ _ _ rfl hwr.symm (λ _=>⟨rfl,rfl⟩) λ z=>by rw [hwr] at z; cases z
end
end TH
end
section
namespace TH
section
variable {K:Type} [DecidableEq K]
theorem zcI {h:List (Nat×Bool)} {d:Nat} {p:Nat×Bool}:p∈less h d↔p∈h/\p.1≠d:=by
 unfold less; rw [List.mem_filter]; simp
theorem ziP {h:List (Nat×Bool)} {d:Nat} (n:(h.map (·.1)).Nodup):((less h d).map (·.1)).Nodup :=
 n.sublist (List.Sublist.map _ List.filter_sublist)
theorem zm7 {h:List (Nat×Bool)} {d:Nat} {w:Bool}:lets h d w=true↔∀ p∈h,p.1≠d->w=false/\p.2=false:=by
 unfold lets
 rw [List.all_eq_true]
 refine ⟨λ q p hp hn=>?_,λ q p hp=>?_⟩
 . have:=q p hp
   cases w <;> cases hb:p.2 <;> simp_all
 . by_cases hn:p.1=d
   . simp [hn]
   . obtain ⟨q1,q2⟩:=q p hp hn
     simp [q1,q2]
theorem zh9 {h:List (Nat×Bool)} {d:Nat}:(h.any λ p=>p.1 == d)=true↔∃ w,(d,w)∈h:=by
 rw [List.any_eq_true]
 refine ⟨λ ⟨p,hp,e⟩=>⟨p.2,?_⟩,λ ⟨w,hw⟩=>⟨(d,w),hw,by simp⟩⟩
 have e':p.1=d:=by simpa using e
 rw [<-e']; exact hp
theorem zaY {h:List (Nat×Bool)} {d:Nat} {w:Bool} {p:Nat×Bool}:p∈zbi h d w↔p=(d,w)\/(p∈h/\p.1≠d):=by
 unfold zbi
 by_cases c:(h.any λ p=>p.1 == d)=true
 . rw [if_pos c,List.mem_map]
   refine ⟨λ ⟨q,hq,e⟩=>?_,λ z=>?_⟩
   . by_cases hn:q.1=d
     . simp [hn] at e; exact .inl e.symm
     . simp [hn] at e; subst e; exact .inr ⟨hq,hn⟩
   . rcases z with z | ⟨z1,z2⟩
     . obtain ⟨w',hw'⟩:=zh9.mp c
       exact ⟨(d,w'),hw',by simp [z]⟩
     . exact ⟨p,z1,by simp [z2]⟩
 . rw [if_neg c,List.mem_append]
   refine ⟨λ z=>?_,λ z=>?_⟩
   . rcases z with z | z
     . refine .inr ⟨z,λ e=>c (zh9.mpr ⟨p.2,?_⟩)⟩
       rw [<-e]; exact z
     . exact .inl (by simpa using z)
   . rcases z with z | ⟨z1,_⟩
     . exact .inr (by simp [z])
     . exact .inl z1
theorem zlW {h:List (Nat×Bool)} {d:Nat} {w:Bool}:(zbi h d w).map (·.1)=if (h.any λ p=>p.1 == d)=true then h.map (·.1) else h.map (·.1)++[d]:=by
 unfold zbi
 by_cases c:(h.any λ p=>p.1 == d)=true
 . rw [if_pos c,if_pos c,List.map_map]
   refine List.map_congr_left λ p _=>?_
   by_cases hn:p.1=d
   . simp [hn]
   . simp [hn]
 . rw [if_neg c,if_neg c,List.map_append]; rfl
theorem zjz {h:List (Nat×Bool)} {d:Nat} {w:Bool} (n:(h.map (·.1)).Nodup):((zbi h d w).map (·.1)).Nodup:=by
 rw [zlW]
 by_cases c:(h.any λ p=>p.1 == d)=true
 . rw [if_pos c]; exact n
 . rw [if_neg c]
   refine List.nodup_append.mpr ⟨n,by simp,λ a ha b hb=>?_⟩
   have hb':b=d:=by simpa using hb
   subst hb'
   rintro rfl
   obtain ⟨p,hp,e⟩:=List.mem_map.mp ha
   exact c (zh9.mpr ⟨p.2,by rw [<-e]; exact hp⟩)
theorem Core.take {s:HS K} {x:Option Nat} {d:Nat} {k:K} {w:Bool} (c:Core s x) (hd:(s.deed d).act) (hl:lets (s.held k) d w=true) (hf:w=false->∀ w',(d,w')∉s.held k) (hr:∀ w',(d,w')∉s.rows k) (hk:k∈s.seen):Core (TH.take s d k w) x:=by
 have hh:∀ k',k'≠k->(TH.take s d k w).held k'=s.held k':=λ k' h=>zan h
 have hs:(TH.take s d k w).held k=zbi (s.held k) d w:=zah
 have hl':=zm7.mp hl
 have mem:∀ k' p,p∈(TH.take s d k w).held k'->p∈s.held k'\/(k'=k/\p=(d,w)):=λ k' p hp=>by
   by_cases h:k'=k
   . subst h
     rw [hs] at hp
     rcases zaY.mp hp with z | z
     . exact .inr ⟨rfl,z⟩
     . exact .inl z.1
   . rw [hh k' h] at hp; exact .inl hp
 refine ⟨c.out,λ k' p hp=>?_,λ k'=>?_,λ k' e he p hp=>?_,c.rAct,c.rNd,c.wRow,λ k' e v v' h1 h2=>?_,λ e he a ha=>?_,λ k' h'=>?_,c.bOwn,c.zgT,c.ser,c.actR,c.zdu,c.zhO⟩
 . rcases mem k' p hp with z | ⟨_,z⟩
   . exact c.hAct k' p z
   . subst z; exact hd
 . by_cases h:k'=k
   . subst h; rw [hs]; exact zjz (c.hNd k')
   . rw [hh k' h]; exact c.hNd k'
 . by_cases h:k'=k
   . subst h
     rw [hs] at he hp
     rcases zaY.mp he with z | ⟨z1,z2⟩
     . have z1:e=d:=congrArg Prod.fst z
       have z2:w=true:=(congrArg Prod.snd z).symm
       subst z1
       rcases zaY.mp hp with y | ⟨y1,y2⟩
       . rw [y]
       . have:=(hl' p y1 y2).1
         rw [z2] at this; cases this
     . have:=(hl' (e,true) z1 z2).2
       cases this
   . rw [hh k' h] at he hp; exact c.hEx k' e he p hp
 . by_cases h:k'=k
   . subst h
     rw [hs] at h2
     rcases zaY.mp h2 with z | ⟨z1,z2⟩
     . have z1:e=d:=congrArg Prod.fst z
       subst z1
       exact absurd h1 (hr v)
     . exact c.zfB k' e v v' h1 z1
   . rw [hh k' h] at h2; exact c.zfB k' e v v' h1 h2
 . obtain ⟨v,q1,q2⟩:=c.zfq e he a ha
   by_cases h:a.key=k
   . by_cases hed:e=d
     . subst hed
       refine ⟨w,by rw [h,hs]; exact zaY.mpr (.inl rfl),λ z=>?_⟩
       cases hw:w with
       | true=>rfl
       | false=>exact absurd (h ▸ q1) (hf hw v)
     . exact ⟨v,by rw [h,hs]; exact zaY.mpr (.inr ⟨h ▸ q1,hed⟩),q2⟩
   . exact ⟨v,by rw [hh _ h]; exact q1,q2⟩
 . have:k'≠k:=λ z=>h' (z ▸ hk)
   rw [hh k' this]; exact c.zdB k' h'
theorem Core.ends {s:HS K} {d:Nat} {t:DS} {bk:Book K} {kp:List Nat} {lg:List (Row K)} (c:Core s none) (hd:(s.deed d).act) (ht:t=.kept\/t=.dropped)
   (hk:∀ e,e∈kp↔(up s.deed d { s.deed d with st:=t } e).st=.kept) (hn:kp.Nodup)
   (hser:zdP s.deed kp (λ _=>none)=some (zeu s.deed kp λ _=>none))
   (hact:∀ e,e≠d->(s.deed e).act->(replay (s.deed e).done (zeu s.deed kp λ _=>none)).isSome=true)
   (hbo:∀ e,e≠d->(s.deed e).act->∀ k v,zaO (s.deed e).done k=some v->bk k=some v)
   (hbk:∀ k,(∀ e,e≠d->(s.deed e).act->zaO (s.deed e).done k=none)->bk k=zeu s.deed kp (λ _=>none) k) :
   Core (letGo { s with deed:=up s.deed d { s.deed d with st:=t },book:=bk,kept:=kp,log:=lg } d) none:=by
 have dd:∀ e,e≠d->up s.deed d { s.deed d with st:=t } e=s.deed e:=λ e he=>zan he
 have ds:up s.deed d { s.deed d with st:=t } d={ s.deed d with st:=t }:=zah
 have dn:∀ e,(up s.deed d { s.deed d with st:=t } e).done=(s.deed e).done:=λ e=>by
   by_cases h:e=d
   . subst h; rw [ds]
   . rw [dd e h]
 have actE:∀ e,(up s.deed d { s.deed d with st:=t } e).act->e≠d/\(s.deed e).act:=λ e he=>by
   by_cases h:e=d
   . subst h
     rw [ds] at he
     rcases he with he | he <;> rcases ht with z | z <;> (have he':t=_:=he; rw [z] at he'; cases he')
   . rw [dd e h] at he; exact ⟨h,he⟩
 have kb:zav (letGo { s with deed:=up s.deed d { s.deed d with st:=t },book:=bk,kept:=kp,log:=lg } d)=zeu s.deed kp λ _=>none:=zbt λ e _=>dn e
 refine ⟨λ e he=>?_,λ k p hp=>?_,λ k=>ziP (c.hNd k),λ k e he p hp=>?_,λ k p hp=>?_,λ k=>ziP (c.rNd k),λ e _ he=>?_,λ k e v v' h1 h2=>?_,λ e he a ha=>?_,λ k hk'=>?_,λ e he k v hv=>?_,λ k hk'=>?_,?_,λ e he=>?_,hk,hn⟩
 . have he':s.n<=e:=he
   have:e≠d:=λ z=>by subst z; have:=c.lt hd; omega
   show (up s.deed d _ e).st=_/\(up s.deed d _ e).done=_
   rw [dd e this]; exact c.out e he'
 . have hp':=zcI.mp hp
   show (up s.deed d _ p.1).act
   rw [dd _ hp'.2]; exact c.hAct k p hp'.1
 . exact c.hEx k e (zcI.mp he).1 p (zcI.mp hp).1
 . have hp':=zcI.mp hp
   show (up s.deed d _ p.1).st=_/\∃ a,(up s.deed d _ p.1).wish=some a/\_
   rw [dd _ hp'.2]; exact c.rAct k p hp'.1
 . have he':(up s.deed d { s.deed d with st:=t } e).st=.waiting:=he
   obtain ⟨h1,h2⟩:=actE e (.inr he')
   rw [dd e h1] at he'
   obtain ⟨a,q1,q2⟩:=c.wRow e (λ z=>by cases z) he'
   exact ⟨a,by show (up s.deed d _ e).wish=_; rw [dd e h1]; exact q1,zcI.mpr ⟨q2,h1⟩⟩
 . exact c.zfB k e v v' (zcI.mp h1).1 (zcI.mp h2).1
 . obtain ⟨h1,h2⟩:=actE e he
   have ha':a∈(up s.deed d { s.deed d with st:=t } e).done:=ha
   rw [dn e] at ha'
   obtain ⟨v,q1,q2⟩:=c.zfq e h2 a ha'
   exact ⟨v,zcI.mpr ⟨q1,h1⟩,q2⟩
 . obtain ⟨q1,q2⟩:=c.zdB k hk'
   show less (s.held k) d=[]/\less (s.rows k) d=[]
   rw [q1,q2]; exact ⟨rfl,rfl⟩
 . obtain ⟨h1,h2⟩:=actE e he
   have hv':zaO (up s.deed d { s.deed d with st:=t } e).done k=some v:=hv
   rw [dn e] at hv'
   exact hbo e h1 h2 k v hv'
 . rw [kb]
   refine hbk k λ e h1 h2=>?_
   have q:zaO (up s.deed d { s.deed d with st:=t } e).done k=none:=hk' e (by show (up s.deed d _ e).act; rw [dd e h1]; exact h2)
   rw [dn e] at q; exact q
 . rw [kb,<-hser]
   exact zcn λ e _=>dn e
 . obtain ⟨h1,h2⟩:=actE e he
   rw [kb]
   show (replay (up s.deed d _ e).done _).isSome=true
   rw [dn e]; exact hact e h1 h2
theorem Core.keeps {s:HS K} {d:Nat} (c:Core s none) (hd:(s.deed d).act):Core (letGo (zrY s d) d) none:=by
 have kd:d∉s.kept:=λ z=>zdO hd ((c.zdu d).mp z)
 have kf:zeu s.deed (s.kept++[d]) (λ _=>none)=over (zav s) (s.deed d).done:=by rw [zfK]; rfl
 refine Core.ends (t:=.kept) c hd (.inl rfl) (λ e=>?_) (List.nodup_append.mpr ⟨c.zhO,by simp,λ a ha b hb=>?_⟩) ?_ (λ e h1 h2=>?_) (λ e h1 h2 k v hv=>c.bOwn e h2 k v hv) λ k hk=>?_
 . rw [List.mem_append,c.zdu e]
   by_cases h:e=d
   . subst h; rw [zah]; simp
   . rw [zan h]; simp [h]
 . have hb':b=d:=by simpa using hb
   subst hb'
   rintro rfl
   exact kd ha
 . rw [ziI,c.ser,kf]
   show (replay (s.deed d).done (zav s)).bind (zdP s.deed [])=_
   rw [zhm (c.actR d hd)]; rfl
 . rw [kf,<-zej (b:=zav s) λ a ha=>?_]
   . exact c.actR e h2
   . rw [zfh]
     cases q:zaO (s.deed d).done a.key with
     | none=>rfl
     | some v =>
       obtain ⟨w,q1,_⟩:=c.zfq e h2 a ha
       exact absurd (c.sole hd q q1) h1
 . rw [kf,zfh]
   cases q:zaO (s.deed d).done k with
   | some v=>exact c.bOwn d hd k v q
   | none =>
     refine c.zgT k λ e he=>?_
     by_cases h:e=d
     . subst h; exact q
     . exact hk e h he
theorem Core.drops {s:HS K} {d:Nat} (c:Core s none) (hd:(s.deed d).act):Core (letGo (zr3 s d) d) none:=by
 refine Core.ends (t:=.dropped) c hd (.inr rfl) (λ e=>?_) c.zhO c.ser (λ e _ h2=>c.actR e h2) (λ e h1 h2 k v hv=>?_) λ k hk=>?_
 . show e∈s.kept↔_
   rw [c.zdu e]
   by_cases h:e=d
   . subst h; rw [zah]; exact ⟨λ z=>absurd z (zdO hd),λ z=>by cases z⟩
   . rw [zan h]
 . cases q:zaO (s.deed d).done k with
   | none=>simp [q]; exact c.bOwn e h2 k v hv
   | some u =>
     obtain ⟨a,ha,aw,ak⟩:=zet hv
     obtain ⟨w,q1,_⟩:=c.zfq e h2 a ha
     rw [ak] at q1
     exact absurd (c.sole hd q q1) h1
 . show (if (zaO (s.deed d).done k).isSome=true then zav s k else s.book k)=zav s k
   cases q:zaO (s.deed d).done k with
   | some u=>simp
   | none =>
     simp
     refine c.zgT k λ e he=>?_
     by_cases h:e=d
     . subst h; exact q
     . exact hk e h he
theorem Core.zpu {s:HS K} {k:K} {d:Nat} {w:Bool} {r:List (Nat×Bool)} {a:Act K} (c:Core s none) (hr:s.rows k=(d,w)::r) (hl:lets (s.held k) d w=true) (ha:(s.deed d).wish=some a) :
  Core (TH.doIt (TH.take { s with rows:=up s.rows k r } d k w) d a) none:=by
 have hm:(d,w)∈s.rows k:=by rw [hr]; exact List.mem_cons_self
 obtain ⟨hw,a',ea,ek,ew⟩:=c.rAct k (d,w) hm
 have ea':some a=some a':=ha.symm.trans ea
 cases ea'
 have nd:=c.rNd k
 rw [hr] at nd
 have ndr:∀ w',(d,w')∉r:=λ w' z=>(List.nodup_cons.mp nd).1 (List.mem_map.mpr ⟨_,z,rfl⟩)
 have rk:(up s.rows k r) k=r:=zah
 have rn:∀ k',k'≠k->(up s.rows k r) k'=s.rows k':=λ k' h=>zan h
 have sub:∀ k' p,p∈(up s.rows k r) k'->p∈s.rows k':=λ k' p hp=>by
  by_cases h:k'=k
  . subst h; rw [rk] at hp; rw [hr]; exact List.mem_cons_of_mem _ hp
  . rw [rn k' h] at hp; exact hp
 have nor:∀ k' w',(d,w')∉(up s.rows k r) k':=λ k' w' hp=>by
  by_cases h:k'=k
  . subst h; rw [rk] at hp; exact ndr w' hp
  . have:=(c.rAct k' _ (sub k' _ hp)).2
    obtain ⟨a'',q1,q2,_⟩:=this
    have q1':(s.deed d).wish=some a'':=q1
    rw [ha] at q1'; cases q1'
    exact h (q2.symm.trans ek)
 have c1:Core { s with rows:=up s.rows k r } (some d):=by
  refine ⟨c.out,c.hAct,c.hNd,c.hEx,λ k' p hp=>c.rAct k' p (sub k' p hp),λ k'=>?_,λ e he hwt=>?_,λ k' e v v' h1 h2=>c.zfB k' e v v' (sub k' _ h1) h2,c.zfq,λ k' h'=>?_,c.bOwn,c.zgT,c.ser,c.actR,c.zdu,c.zhO⟩
  . by_cases h:k'=k
    . subst h; show ((up s.rows k' r k').map _).Nodup; rw [rk]; exact (List.nodup_cons.mp nd).2
    . show ((up s.rows k r k').map _).Nodup; rw [rn k' h]; exact c.rNd k'
  . obtain ⟨b,q1,q2⟩:=c.wRow e (λ z=>by cases z) hwt
    refine ⟨b,q1,?_⟩
    show (e,b.wr)∈up s.rows k r b.key
    by_cases h:b.key=k
    . rw [h,rk]
      rw [h,hr] at q2
      rcases List.mem_cons.mp q2 with z | z
      . exact absurd (congrArg some (congrArg Prod.fst z)) he
      . exact z
    . rw [rn _ h]; exact q2
  . obtain ⟨q1,q2⟩:=c.zdB k' h'
    have:k'≠k:=λ z=>by subst z; rw [hr] at q2; cases q2
    exact ⟨q1,by show up s.rows k r k'=_; rw [rn k' this]; exact q2⟩
 have hks:k∈s.seen:=by
  by_cases z:k∈s.seen
  . exact z
  . have:=(c.zdB k z).2; rw [hr] at this; cases this
 have c2:Core (TH.take { s with rows:=up s.rows k r } d k w) (some d):=c1.take (.inr hw) hl (λ hwf w' z=>by
  obtain ⟨_,q⟩:=c.zfB k d w w' hm z
  rw [hwf] at q; cases q) (λ w' z=>nor k w' z) hks
 refine c2.doIt (w:=w) (.inr hw) nor ?_ λ z=>by have ew':a.wr=w:=ew; rw [<-ew']; exact z
 show (d,w)∈up s.held k (zbi (s.held k) d w) a.key
 rw [ek,zah]
 exact zaY.mpr (.inl rfl)
theorem Core.zbz {k:K}:∀ {f:Nat} {s:HS K},Core s none->Core (TH.zbz f s k) none
 | 0,s,c=>c
 | f+1,s,c=>by
  unfold TH.zbz
  split
  . exact c
  . rename_i d w r hr
    split
    . rename_i hl
      split
      . rename_i a ha
        exact Core.zbz (c.zpu hr hl ha)
      . exact c
    . exact c
theorem Core.zaK:∀ {ks:List K} {s:HS K},Core s none->Core (TH.zaK s ks) none
 | [],s,c=>c
 | k::r,s,c=>by unfold TH.zaK; exact Core.zaK c.zbz
variable (ord:List K->List K)
theorem Core.keep {s:HS K} {d:Nat} (c:Core s none) (hd:(s.deed d).act):Core (TH.keep ord s d) none:=Core.zaK (c.keeps hd)
theorem Core.drop {s:HS K} {d:Nat} (c:Core s none) (hd:(s.deed d).act):Core (TH.drop ord s d) none:=Core.zaK (c.drops hd)
theorem zg9 {s:HS K} {d e:Nat} (h:e∈zbO s d):(s.deed d).st=.waiting:=by
 unfold zbO at h
 split at h
 . rename_i q _; exact q
 . cases h
theorem zaQ {s:HS K} {d e:Nat} (h:Reach s d e):(s.deed d).st=.waiting:=by
 cases h with
 | one q=>exact zg9 q
 | step q _=>exact zg9 q
theorem zbP {s:HS K} {d:Nat} (h:d∈rings s):d < s.n/\Reach s d d:=by
 unfold rings at h
 rw [List.mem_filter] at h
 exact ⟨List.mem_range.mp h.1,@of_decide_eq_true _ (_) h.2⟩
theorem Core.settle:∀ {f:Nat} {s:HS K},Core s none->Core (TH.settle ord f s) none
 | 0,s,c=>c
 | f+1,s,c=>by
  unfold TH.settle
  split
  . exact c
  . rename_i d hd
    have:=zbP (List.mem_of_getLast? hd)
    exact Core.settle (c.drop ord (.inr (zaQ this.2)))
theorem Core.za4 {s:HS K} (c:Core s none):Core (TH.za4 s) none:=by
 have o:=c.out s.n (Nat.le_refl _)
 have dd:∀ e,e≠s.n->up s.deed s.n ⟨.zar,[],none⟩ e=s.deed e:=λ e he=>zan he
 have ds:up s.deed s.n (⟨.zar,[],none⟩:Deed K) s.n=⟨.zar,[],none⟩:=zah
 have nn:∀ {e},(s.deed e).act->e≠s.n:=λ h z=>by subst z; exact zeY h o.1
 have nk:∀ e∈s.kept,e≠s.n:=λ e he z=>by subst z; have:=(c.zdu _).mp he; rw [o.1] at this; cases this
 have dn:∀ e,(up s.deed s.n ⟨.zar,[],none⟩ e).done=(s.deed e).done:=λ e=>by
   by_cases h:e=s.n
   . subst h; rw [ds,o.2]
   . rw [dd e h]
 have kb:zav (TH.za4 s)=zav s:=zbt λ e _=>dn e
 refine ⟨λ e he=>?_,λ k p hp=>?_,c.hNd,c.hEx,λ k p hp=>?_,c.rNd,λ e _ he=>?_,c.zfB,λ e he a ha=>?_,c.zdB,λ e he k v hv=>?_,λ k hk=>?_,?_,λ e he=>?_,λ e=>?_,c.zhO⟩
 . have he':s.n+1<=e:=he
   show (up s.deed s.n _ e).st=_/\(up s.deed s.n _ e).done=_
   rw [dd e (by omega)]; exact c.out e (by omega)
 . have q:=c.hAct k p hp
   show (up s.deed s.n _ p.1).act
   rw [dd _ (nn q)]; exact q
 . have q:=c.rAct k p hp
   show (up s.deed s.n _ p.1).st=_/\∃ a,(up s.deed s.n _ p.1).wish=some a/\_
   rw [dd _ (nn (.inr q.1))]; exact q
 . have he':(up s.deed s.n ⟨.zar,[],none⟩ e).st=.waiting:=he
   have hne:e≠s.n:=λ z=>by subst z; rw [ds] at he'; cases he'
   rw [dd e hne] at he'
   obtain ⟨a,q1,q2⟩:=c.wRow e (λ z=>by cases z) he'
   exact ⟨a,by show (up s.deed s.n _ e).wish=_; rw [dd e hne]; exact q1,q2⟩
 . have ha':a∈(up s.deed s.n ⟨.zar,[],none⟩ e).done:=ha
   by_cases h:e=s.n
   . subst h; rw [ds] at ha'; cases ha'
   . rw [dd e h] at ha'
     have he':(up s.deed s.n ⟨.zar,[],none⟩ e).act:=he
     rw [dd e h] at he'
     exact c.zfq e he' a ha'
 . have hv':zaO (up s.deed s.n ⟨.zar,[],none⟩ e).done k=some v:=hv
   by_cases h:e=s.n
   . subst h; rw [ds] at hv'; cases hv'
   . have he':(up s.deed s.n ⟨.zar,[],none⟩ e).act:=he
     rw [dd e h] at he' hv'
     exact c.bOwn e he' k v hv'
 . rw [kb]
   refine c.zgT k λ e he=>?_
   have q:zaO (up s.deed s.n ⟨.zar,[],none⟩ e).done k=none:=hk e (by show (up s.deed s.n _ e).act; rw [dd e (nn he)]; exact he)
   rw [dn e] at q; exact q
 . rw [kb,<-c.ser]; exact zcn λ e _=>dn e
 . rw [kb]
   show (replay (up s.deed s.n _ e).done _).isSome=true
   by_cases h:e=s.n
   . subst h; rw [ds]; rfl
   . have he':(up s.deed s.n ⟨.zar,[],none⟩ e).act:=he
     rw [dd e h] at he' ⊢
     exact c.actR e he'
 . show e∈s.kept↔(up s.deed s.n _ e).st=.kept
   by_cases h:e=s.n
   . subst h; rw [ds]; exact ⟨λ z=>absurd rfl (nk _ z),λ z=>by cases z⟩
   . rw [dd e h]; exact c.zdu e
theorem Core.see {s:HS K} {x:Option Nat} {k:K} (c:Core s x):Core (TH.see s k) x :=
 ⟨c.out,c.hAct,c.hNd,c.hEx,c.rAct,c.rNd,c.wRow,c.zfB,c.zfq,λ k' h=>c.zdB k' λ z=>h (by
  show k'∈(if k∈s.seen then s.seen else s.seen++[k])
  split
  . exact z
  . exact List.mem_append_left _ z),c.bOwn,c.zgT,c.ser,c.actR,c.zdu,c.zhO⟩
theorem zcl {s:HS K} {k:K}:k∈(TH.see s k).seen:=by
 show k∈(if k∈s.seen then s.seen else s.seen++[k])
 split
 . assumption
 . simp
theorem zcJ {h:List (Nat×Bool)} {d:Nat} {w:Bool} (e:look h d=some w):(d,w)∈h:=by
 unfold look at e
 cases q:h.find? λ p=>p.1 == d with
 | none=>rw [q] at e; cases e
 | some p =>
  rw [q] at e
  have e2:p.2=w:=Option.some.inj e
  have e1:p.1=d:=by simpa using List.find?_some q
  have:=List.mem_of_find?_eq_some q
  rw [<-e1,<-e2]; exact this
theorem zcB {h:List (Nat×Bool)} {d:Nat} {w:Bool} (n:(h.map (·.1)).Nodup) (m:(d,w)∈h):look h d=some w:=by
 unfold look
 induction h with
 | nil=>cases m
 | cons p r ih =>
  rw [List.map_cons,List.nodup_cons] at n
  by_cases e:p.1=d
  . rcases List.mem_cons.mp m with z | z
    . rw [<-z]; simp
    . exact absurd (List.mem_map.mpr ⟨_,z,rfl⟩) (e ▸ n.1)
  . rcases List.mem_cons.mp m with z | z
    . exact absurd (by rw [<-z]) e
    . rw [List.find?_cons_of_neg (by simpa using e)]
      exact ih n.2 z
theorem Core.wait {s:HS K} {d:Nat} {a:Act K} (c:Core s none) (hd:(s.deed d).st=.zar) (hk:a.key∈s.seen) (h1:∀ w',(d,w')∈s.held a.key->w'=false/\a.wr=true):Core (TH.wait s d a) none:=by
 have dd:∀ e,e≠d->up s.deed d { s.deed d with st:=.waiting,wish:=some a } e=s.deed e:=λ e he=>zan he
 have ds:up s.deed d { s.deed d with st:=.waiting,wish:=some a } d={ s.deed d with st:=.waiting,wish:=some a }:=zah
 have dn:∀ e,(up s.deed d { s.deed d with st:=.waiting,wish:=some a } e).done=(s.deed e).done:=λ e=>by
   by_cases h:e=d
   . subst h; rw [ds]
   . rw [dd e h]
 have actE:∀ e,(up s.deed d { s.deed d with st:=.waiting,wish:=some a } e).act↔(s.deed e).act:=λ e=>by
   by_cases h:e=d
   . subst h; rw [ds]; exact ⟨λ _=>.inl hd,λ _=>.inr rfl⟩
   . rw [dd e h]
 have nk:∀ e∈s.kept,e≠d:=λ e he z=>by subst z; have:=(c.zdu _).mp he; rw [hd] at this; cases this
 have nor:∀ k w',(d,w')∉s.rows k:=λ k w' z=>by
   have:=(c.rAct k _ z).1
   have this':(s.deed d).st=.waiting:=this
   rw [hd] at this'; cases this'
 have kb:zav (TH.wait s d a)=zav s:=zbt λ e _=>dn e
 have rk:(TH.wait s d a).rows a.key=if has (s.held a.key) d then (d,a.wr)::s.rows a.key else s.rows a.key++[(d,a.wr)]:=zah
 have rn:∀ k,k≠a.key->(TH.wait s d a).rows k=s.rows k:=λ k h=>zan h
 have rm:∀ k p,p∈(TH.wait s d a).rows k↔p∈s.rows k\/(k=a.key/\p=(d,a.wr)):=λ k p=>by
   by_cases h:k=a.key
   . subst h
     rw [rk]
     split
     . rw [List.mem_cons]; exact ⟨λ z=>z.elim (λ y=>.inr ⟨rfl,y⟩) .inl,λ z=>z.elim .inr λ y=>.inl y.2⟩
     . rw [List.mem_append]; exact ⟨λ z=>z.elim .inl λ y=>.inr ⟨rfl,by simpa using y⟩,λ z=>z.elim .inl λ y=>.inr (by simp [y.2])⟩
   . rw [rn k h]; exact ⟨.inl,λ z=>z.elim id λ y=>absurd y.1 h⟩
 refine ⟨λ e he=>?_,λ k p hp=>?_,c.hNd,c.hEx,λ k p hp=>?_,λ k=>?_,λ e _ he=>?_,λ k e v v' q1 q2=>?_,λ e he b hb=>?_,λ k hk'=>?_,λ e he k v hv=>?_,λ k hk'=>?_,?_,λ e he=>?_,λ e=>?_,c.zhO⟩
 . have he':s.n<=e:=he
   have:e≠d:=λ z=>by subst z; have:=c.lt (d:=e) (.inl hd); omega
   show (up s.deed d _ e).st=_/\(up s.deed d _ e).done=_
   rw [dd e this]; exact c.out e he'
 . exact (actE p.1).mpr (c.hAct k p hp)
 . show (up s.deed d _ p.1).st=_/\∃ a',(up s.deed d _ p.1).wish=some a'/\_
   rcases (rm k p).mp hp with z | ⟨z1,z2⟩
   . have:p.1≠d:=λ y=>nor k p.2 (by rw [<-y]; exact z)
     rw [dd _ this]; exact c.rAct k p z
   . subst z2; rw [ds]; exact ⟨rfl,a,rfl,z1.symm,rfl⟩
 . by_cases h:k=a.key
   . subst h
     rw [rk]
     split
     . rw [List.map_cons,List.nodup_cons]
       exact ⟨λ z=>by obtain ⟨p,hp,e⟩:=List.mem_map.mp z; exact nor _ p.2 (by have e':p.1=d:=e; rw [<-e']; exact hp),c.rNd _⟩
     . rw [List.map_append]
       refine List.nodup_append.mpr ⟨c.rNd _,by simp,λ x hx y hy=>?_⟩
       have hy':y=d:=by simpa using hy
       subst hy'
       rintro rfl
       obtain ⟨p,hp,e⟩:=List.mem_map.mp hx
       exact nor _ p.2 (by have e':p.1=x:=e; rw [<-e']; exact hp)
   . rw [rn k h]; exact c.rNd k
 . have he':(up s.deed d { s.deed d with st:=.waiting,wish:=some a } e).st=.waiting:=he
   show ∃ b,(up s.deed d _ e).wish=some b/\_
   by_cases h:e=d
   . subst h; rw [ds]; exact ⟨a,rfl,(rm _ _).mpr (.inr ⟨rfl,rfl⟩)⟩
   . rw [dd e h] at he' ⊢
     obtain ⟨b,q1,q2⟩:=c.wRow e (λ z=>by cases z) he'
     exact ⟨b,q1,(rm _ _).mpr (.inl q2)⟩
 . rcases (rm k _).mp q1 with z | ⟨z1,z2⟩
   . exact c.zfB k e v v' z q2
   . have e1:e=d:=congrArg Prod.fst z2
     have e2:v=a.wr:=congrArg Prod.snd z2
     subst e1 e2 z1
     exact h1 v' q2
 . have hb':b∈(up s.deed d { s.deed d with st:=.waiting,wish:=some a } e).done:=hb
   rw [dn e] at hb'
   exact c.zfq e ((actE e).mp he) b hb'
 . have:k≠a.key:=λ z=>hk' (z ▸ hk)
   obtain ⟨q1,q2⟩:=c.zdB k hk'
   exact ⟨q1,by rw [rn k this]; exact q2⟩
 . have hv':zaO (up s.deed d { s.deed d with st:=.waiting,wish:=some a } e).done k=some v:=hv
   rw [dn e] at hv'
   exact c.bOwn e ((actE e).mp he) k v hv'
 . rw [kb]
   refine c.zgT k λ e he=>?_
   have q:zaO (up s.deed d { s.deed d with st:=.waiting,wish:=some a } e).done k=none:=hk' e ((actE e).mpr he)
   rw [dn e] at q; exact q
 . rw [kb,<-c.ser]; exact zcn λ e _=>dn e
 . rw [kb]
   show (replay (up s.deed d _ e).done _).isSome=true
   rw [dn e]; exact c.actR e ((actE e).mp he)
 . show e∈s.kept↔(up s.deed d _ e).st=.kept
   by_cases h:e=d
   . subst h; rw [ds]; exact ⟨λ z=>absurd rfl (nk _ z),λ z=>by cases z⟩
   . rw [dd e h]; exact c.zdu e
theorem Core.weaken {s:HS K} {x:Option Nat} (c:Core s none):Core s x :=
 ⟨c.out,c.hAct,c.hNd,c.hEx,c.rAct,c.rNd,λ d _=>c.wRow d (λ z=>by cases z),c.zfB,c.zfq,c.zdB,c.bOwn,c.zgT,c.ser,c.actR,c.zdu,c.zhO⟩
theorem Core.wish {s:HS K} {d:Nat} {a:Act K} (c:Core s none) (hd:(s.deed d).st=.zar):Core (TH.wish ord s d a) none:=by
 have c1:Core (TH.see s a.key) none:=c.see
 have nor:∀ k w',(d,w')∉(TH.see s a.key).rows k:=λ k w' z=>by
   have:=(c1.rAct k _ z).1
   have this':(s.deed d).st=.waiting:=this
   rw [hd] at this'; cases this'
 unfold TH.wish
 dsimp only
 by_cases h1:look ((TH.see s a.key).held a.key) d=some a.wr\/look ((TH.see s a.key).held a.key) d=some true
 . rw [if_pos h1]
   rcases h1 with h1 | h1
   . exact Core.doIt (w:=a.wr) c1.weaken (.inl hd) nor (zcJ h1) id
   . exact Core.doIt (w:=true) c1.weaken (.inl hd) nor (zcJ h1) λ _=>rfl
 . rw [if_neg h1]
   have hw:∀ w',(d,w')∈(TH.see s a.key).held a.key->w'=false/\a.wr=true:=λ w' z=>by
     have q:=zcB (c1.hNd _) z
     cases hw':w' with
     | true=>exact absurd (.inr (hw' ▸ q)) h1
     | false =>
       cases ha:a.wr with
       | true=>exact ⟨rfl,rfl⟩
       | false=>exact absurd (.inl (by rw [ha,q,hw'])) h1
   by_cases h2:lets ((TH.see s a.key).held a.key) d a.wr=true/\(has ((TH.see s a.key).held a.key) d=true\/(TH.see s a.key).rows a.key=[])
   . rw [if_pos h2]
     refine Core.doIt (w:=a.wr) (c1.weaken.take (.inl hd) h2.1 (λ hf w' z=>?_) (λ w'=>nor _ w') zcl) (.inl hd) nor ?_ id
     . have:=(hw w' z).2; rw [hf] at this; cases this
     . show (d,a.wr)∈up (TH.see s a.key).held a.key _ a.key
       rw [zah]; exact zaY.mpr (.inl rfl)
   . rw [if_neg h2]
     exact Core.settle ord (c1.wait hd zcl hw)
end
end TH
end
section
namespace TH
section
variable {K:Type} [DecidableEq K]
theorem zcq (s:HS K) (d:Nat) (a:Act K):(doIt s d a).held=s.held:=by unfold doIt; split <;> rfl
theorem zcX (s:HS K) (d:Nat) (a:Act K):(doIt s d a).rows=s.rows:=by unfold doIt; split <;> rfl
theorem zb7 (s:HS K) (d:Nat) (a:Act K):(doIt s d a).seen=s.seen:=by unfold doIt; split <;> rfl
theorem zdV (s:HS K) (d:Nat) (a:Act K):(doIt s d a).n=s.n:=by unfold doIt; split <;> rfl
theorem zew (s:HS K) (d:Nat) (a:Act K):(doIt s d a).kept=s.kept:=by unfold doIt; split <;> rfl
theorem zcC (s:HS K) (d:Nat) (a:Act K) {e:Nat} (h:e≠d):(doIt s d a).deed e=s.deed e:=by unfold doIt; split <;> exact zan h
theorem zhV (s:HS K) (d:Nat) (a:Act K):((doIt s d a).deed d).st=.zar:=by
 unfold doIt
 split
 . show (up s.deed d _ d).st=_; rw [zah]
 . show (up s.deed d _ d).st=_; rw [zah]
theorem zeI {s:HS K} {k:K} {d:Nat} {w:Bool} {r:List (Nat×Bool)} {a:Act K} {f:Nat} (hr:s.rows k=(d,w)::r) (hl:lets (s.held k) d w=true) (ha:(s.deed d).wish=some a) :
  zbz (f+1) s k=zbz f (doIt (take { s with rows:=up s.rows k r } d k w) d a) k:=by
 conv=>lhs; unfold zbz
 rw [hr]
 simp only [hl,if_true,ha]
theorem zeH {s:HS K} {k:K} {d:Nat} {w:Bool} {r:List (Nat×Bool)} {f:Nat} (hr:s.rows k=(d,w)::r) (hl:lets (s.held k) d w=false):zbz f s k=s:=by
 cases f with
 | zero=>rfl
 | succ f =>
  unfold zbz
  rw [hr]
  simp [hl]
theorem zfM {s:HS K} {k:K} {f:Nat} (hr:s.rows k=[]):zbz f s k=s:=by
 cases f with
 | zero=>rfl
 | succ f=>unfold zbz; rw [hr]
theorem zev {k:K} (P:HS K->Prop) (step:∀ s d w r a,Core s none->s.rows k=(d,w)::r->lets (s.held k) d w=true->(s.deed d).wish=some a->P s->P (doIt (take { s with rows:=up s.rows k r } d k w) d a)) :
  ∀ (f:Nat) (s:HS K),Core s none->P s->P (zbz f s k)
 | 0,s,c,h=>h
 | f+1,s,c,h=>by
  cases hr:s.rows k with
  | nil=>rw [zfM hr]; exact h
  | cons p r =>
   obtain ⟨d,w⟩:=p
   cases hl:lets (s.held k) d w with
   | false=>rw [zeH hr hl]; exact h
   | true =>
    obtain ⟨_,a,ha,_⟩:=c.rAct k (d,w) (by rw [hr]; exact List.mem_cons_self)
    rw [zeI hr hl ha]
    exact zev P step f _ (c.zpu hr hl ha) (step s d w r a c hr hl ha h)
theorem zbL (P:HS K->Prop) (step:∀ s k d w r a,Core s none->s.rows k=(d,w)::r->lets (s.held k) d w=true->(s.deed d).wish=some a->P s->P (doIt (take { s with rows:=up s.rows k r } d k w) d a)) :
  ∀ (ks:List K) (s:HS K),Core s none->P s->P (zaK s ks)
 | [],s,c,h=>h
 | k::r,s,c,h=>by
  unfold zaK
  exact zbL P step r _ c.zbz (zev P (λ s=>step s k) _ s c h)
def znr (s:HS K) (k:K):Prop:=∀ d w r,s.rows k=(d,w)::r->lets (s.held k) d w=false
def Head (s:HS K):Prop:=∀ k,znr s k
theorem zhT {k k':K} (h:k'≠k) (f:Nat) (s:HS K) (c:Core s none):(zbz f s k).rows k'=s.rows k'/\(zbz f s k).held k'=s.held k':=by
 refine zev (k:=k) (λ t=>t.rows k'=s.rows k'/\t.held k'=s.held k') (λ t d w r a _ _ _ _ q=>?_) f s c ⟨rfl,rfl⟩
 rw [zcX,zcq]
 exact ⟨(zan h).trans q.1,(zan h).trans q.2⟩
theorem zi1 {k:K}:∀ (f:Nat) (s:HS K),Core s none->(s.rows k).length<=f->znr (zbz f s k) k
 | 0,s,c,h=>λ d w r e=>by
  have:s.rows k=[]:=List.length_eq_zero_iff.mp (by omega)
  have e':s.rows k=(d,w)::r:=e
  rw [this] at e'; cases e'
 | f+1,s,c,h=>by
  cases hr:s.rows k with
  | nil=>rw [zfM hr]; intro d w r e; rw [hr] at e; cases e
  | cons p r =>
   obtain ⟨d,w⟩:=p
   cases hl:lets (s.held k) d w with
   | false=>rw [zeH hr hl]; intro d' w' r' e; rw [hr] at e; cases e; exact hl
   | true =>
    obtain ⟨_,a,ha,_⟩:=c.rAct k (d,w) (by rw [hr]; exact List.mem_cons_self)
    rw [zeI hr hl ha]
    refine zi1 f _ (c.zpu hr hl ha) ?_
    rw [zcX]
    show (up s.rows k r k).length<=f
    rw [zah]
    rw [hr] at h
    simpa using h
theorem zhS:∀ (ks:List K) (s:HS K),Core s none->∀ k,(k∈ks->znr (zaK s ks) k)/\(k∉ks->(zaK s ks).rows k=s.rows k/\(zaK s ks).held k=s.held k)
 | [],s,c,k=>⟨λ h=>(by cases h),λ _=>⟨rfl,rfl⟩⟩
 | k₀::r,s,c,k=>by
  unfold zaK
  obtain ⟨h1,h2⟩:=zhS r _ (c.zbz (k:=k₀) (f:=(s.rows k₀).length)) k
  refine ⟨λ hk=>?_,λ hk=>?_⟩
  . by_cases hr:k∈r
    . exact h1 hr
    . have e:k=k₀:=(List.mem_cons.mp hk).resolve_right hr
      subst e
      obtain ⟨q1,q2⟩:=h2 hr
      intro d w r' e
      rw [q1] at e
      rw [q2]
      exact zi1 _ s c (Nat.le_refl _) d w r' e
  . obtain ⟨q1,q2⟩:=h2 λ z=>hk (List.mem_cons_of_mem _ z)
    obtain ⟨p1,p2⟩:=zhT (k':=k) (λ z=>hk (by rw [z]; exact List.mem_cons_self)) (s.rows k₀).length s c
    exact ⟨q1.trans p1,q2.trans p2⟩
theorem zdM (ks:List K) (s:HS K) (c:Core s none):(zaK s ks).seen=s.seen :=
 zbL (λ t=>t.seen=s.seen) (λ t k d w r a _ _ _ _ q=>by rw [zb7]; exact q) ks s c rfl
theorem zjL (ks:List K) (s:HS K) (c:Core s none):(zaK s ks).n=s.n :=
 zbL (λ t=>t.n=s.n) (λ t k d w r a _ _ _ _ q=>by rw [zdV]; exact q) ks s c rfl
variable (ord:List K->List K) (hord:∀ l k,k∈ord l↔k∈l)
include hord
theorem zla {s:HS K} {d:Nat} (c:Core (letGo s d) none):Head (free ord s d):=by
 intro k
 by_cases hk:k∈s.seen
 . exact (zhS (ord s.seen) _ c k).1 ((hord _ _).mpr hk)
 . intro d' w r e
   have c':Core (free ord s d) none:=c.zaK
   have:=(c'.zdB k (by unfold free; rw [zdM _ _ c]; exact hk)).2
   rw [this] at e; cases e
theorem Head.keep {s:HS K} {d:Nat} (c:Core s none) (hd:(s.deed d).act):Head (TH.keep ord s d):=zla ord hord (c.keeps hd)
theorem Head.drop {s:HS K} {d:Nat} (c:Core s none) (hd:(s.deed d).act):Head (TH.drop ord s d):=zla ord hord (c.drops hd)
theorem Head.settle:∀ {f:Nat} {s:HS K},Core s none->Head s->Head (TH.settle ord f s)
 | 0,s,c,h=>h
 | f+1,s,c,h=>by
  unfold TH.settle
  split
  . exact h
  . rename_i d hd
    have q:=zbP (List.mem_of_getLast? hd)
    have ha:(s.deed d).act:=.inr (zaQ q.2)
    exact Head.settle (c.drop ord ha) (Head.drop ord hord c ha)
theorem zrZ {h:List (Nat×Bool)} {d:Nat}:has h d=true↔∃ w,(d,w)∈h:=zh9
theorem Head.wish {s:HS K} {d:Nat} {a:Act K} (c:Core s none) (h:Head s) (hd:(s.deed d).st=.zar):Head (TH.wish ord s d a):=by
 have c1:Core (TH.see s a.key) none:=c.see
 have h':Head (TH.see s a.key):=h
 have nor:∀ k w',(d,w')∉(TH.see s a.key).rows k:=λ k w' z=>by
   have:=(c1.rAct k _ z).1
   have this':(s.deed d).st=.waiting:=this
   rw [hd] at this'; cases this'
 unfold TH.wish
 dsimp only
 by_cases h1:look ((TH.see s a.key).held a.key) d=some a.wr\/look ((TH.see s a.key).held a.key) d=some true
 . rw [if_pos h1]
   intro k e w r q
   rw [zcX] at q; rw [zcq]
   exact h' k e w r q
 . rw [if_neg h1]
   have hw:∀ w',(d,w')∈(TH.see s a.key).held a.key->w'=false/\a.wr=true:=λ w' z=>by
     have q:=zcB (c1.hNd _) z
     cases hw':w' with
     | true=>exact absurd (.inr (hw' ▸ q)) h1
     | false =>
       cases ha:a.wr with
       | true=>exact ⟨rfl,rfl⟩
       | false=>exact absurd (.inl (by rw [ha,q,hw'])) h1
   by_cases h2:lets ((TH.see s a.key).held a.key) d a.wr=true/\(has ((TH.see s a.key).held a.key) d=true\/(TH.see s a.key).rows a.key=[])
   . rw [if_pos h2]
     intro k e w r q
     rw [zcX] at q; rw [zcq]
     have q':(TH.see s a.key).rows k=(e,w)::r:=q
     show lets (up (TH.see s a.key).held a.key _ k) e w=false
     by_cases hk:k=a.key
     . subst hk
       rw [zah]
       rcases h2.2 with z | z
       . obtain ⟨w',hw'⟩:=zrZ ord hord |>.mp z
         have aw:=(hw w' hw').2
         have hne:e≠d:=λ y=>nor a.key w (by rw [<-y,q']; exact List.mem_cons_self)
         cases hl:lets (zbi ((TH.see s a.key).held a.key) d a.wr) e w with
         | false=>rfl
         | true =>
          have:=(zm7.mp hl (d,a.wr) (zaY.mpr (.inl rfl)) (Ne.symm hne)).2
          have this':a.wr=false:=this
          rw [aw] at this'; cases this'
       . rw [z] at q'; cases q'
     . rw [zan hk]; exact h' k e w r q'
   . rw [if_neg h2]
     refine Head.settle ord hord (c1.wait hd zcl hw) λ k e w r q=>?_
     show lets ((TH.see s a.key).held k) e w=false
     by_cases hk:k=a.key
     . subst hk
       have q':(if has ((TH.see s a.key).held a.key) d then (d,a.wr)::(TH.see s a.key).rows a.key else (TH.see s a.key).rows a.key++[(d,a.wr)])=(e,w)::r:=by
         rw [<-q]; exact zah.symm
       cases hh:has ((TH.see s a.key).held a.key) d with
       | true =>
         rw [hh] at q'
         simp only [if_true] at q'
         injection q' with e1 e2
         have e3:d=e:=congrArg Prod.fst e1
         have e4:a.wr=w:=congrArg Prod.snd e1
         subst e3 e4
         cases hl:lets ((TH.see s a.key).held a.key) d a.wr with
         | false=>rfl
         | true=>exact absurd ⟨hl,.inl hh⟩ h2
       | false =>
         rw [hh] at q'
         simp only [Bool.false_eq_true,if_false] at q'
         cases hr:(TH.see s a.key).rows a.key with
         | nil =>
          rw [hr] at q'
          simp only [List.nil_append] at q'
          injection q' with e1 e2
          have e3:d=e:=congrArg Prod.fst e1
          have e4:a.wr=w:=congrArg Prod.snd e1
          subst e3 e4
          cases hl:lets ((TH.see s a.key).held a.key) d a.wr with
          | false=>rfl
          | true=>exact absurd ⟨hl,.inr hr⟩ h2
         | cons p t =>
          rw [hr] at q'
          simp only [List.cons_append] at q'
          injection q' with e1 e2
          subst e1
          exact h' a.key e w t hr
     . have q':(TH.see s a.key).rows k=(e,w)::r:=by rw [<-q]; exact (zan hk).symm
       exact h' k e w r q'
omit hord
def Acyc (s:HS K):Prop:=∀ d,¬ Reach s d d
theorem Reach.mono {s t:HS K} (h:∀ d e,e∈zbO t d->e∈zbO s d) {d e:Nat} (r:Reach t d e):Reach s d e:=by
 induction r with
 | one q=>exact .one (h _ _ q)
 | step q _ ih=>exact .step (h _ _ q) ih
theorem Acyc.mono {s t:HS K} (a:Acyc s) (h:∀ d e,e∈zbO t d->e∈zbO s d):Acyc t:=λ d r=>a d (r.mono h)
theorem Reach.trans {s:HS K} {d e f:Nat} (r:Reach s d e) (q:Reach s e f):Reach s d f:=by
 induction r with
 | one z=>exact .step z q
 | step z _ ih=>exact .step z (ih q)
theorem zby {s:HS K} {d e:Nat}:e∈zbO s d↔∃ a,(s.deed d).st=.waiting/\(s.deed d).wish=some a /\
   ((∃ w,(e,w)∈(s.rows a.key).takeWhile λ p=>p.1 != d)\/∃ w,(e,w)∈s.held a.key/\e≠d/\(a.wr=true\/w=true)):=by
 unfold zbO
 split
 . rename_i a h1 h2
   rw [List.mem_append,List.mem_map,List.mem_map]
   refine ⟨λ z=>⟨a,h1,h2,?_⟩,λ ⟨b,q1,q2,z⟩=>?_⟩
   . rcases z with ⟨p,hp,rfl⟩ | ⟨p,hp,rfl⟩
     . exact .inl ⟨p.2,hp⟩
     . rw [List.mem_filter] at hp
       obtain ⟨y1,y2⟩:=hp
       simp only [Bool.and_eq_true,bne_iff_ne,Bool.or_eq_true] at y2
       exact .inr ⟨p.2,y1,y2.1,y2.2⟩
   . rw [h2] at q2; cases q2
     rcases z with ⟨w,hw⟩ | ⟨w,hw,y1,y2⟩
     . exact .inl ⟨_,hw,rfl⟩
     . refine .inr ⟨(e,w),List.mem_filter.mpr ⟨hw,?_⟩,rfl⟩
       simp only [Bool.and_eq_true,bne_iff_ne,Bool.or_eq_true]
       exact ⟨y1,y2⟩
 . rename_i h
   refine ⟨λ z=>(by cases z),λ ⟨a,q1,q2,_⟩=>(h a q1 q2).elim⟩
theorem zie {l:List (Nat×Bool)} {d e:Nat} (hne:e≠d) {p:Nat×Bool}:p∈(less l d).takeWhile (λ p=>p.1 != e)->p∈l.takeWhile λ p=>p.1 != e:=by
 induction l with
 | nil=>exact id
 | cons x r ih =>
  intro hp
  by_cases hx:x.1=d
  . have e1:less (x::r) d=less r d:=by unfold less; rw [List.filter_cons_of_neg (by simp [hx])]
    rw [e1] at hp
    rw [List.takeWhile_cons_of_pos (by simp [hx]; exact Ne.symm hne)]
    exact List.mem_cons_of_mem _ (ih hp)
  . have e1:less (x::r) d=x::less r d:=by unfold less; rw [List.filter_cons_of_pos (by simp [hx])]
    rw [e1] at hp
    by_cases hy:x.1=e
    . rw [List.takeWhile_cons_of_neg (by simp [hy])] at hp; cases hp
    . rw [List.takeWhile_cons_of_pos (by simp [hy])] at hp ⊢
      rcases List.mem_cons.mp hp with z | z
      . exact List.mem_cons.mpr (.inl z)
      . exact List.mem_cons_of_mem _ (ih z)
theorem zeZ {s:HS K} {d:Nat} {t:DS} {bk:Book K} {kp:List Nat} {lg:List (Row K)} (ht:t≠.waiting):∀ e x,x∈zbO (letGo { s with deed:=up s.deed d { s.deed d with st:=t },book:=bk,kept:=kp,log:=lg } d) e->x∈zbO s e:=by
 intro e x hx
 obtain ⟨a,h1,h2,h3⟩:=zby.mp hx
 have hne:e≠d:=λ z=>by
   subst z
   have h1':(up s.deed e { s.deed e with st:=t } e).st=.waiting:=h1
   rw [zah] at h1'
   exact ht h1'
 have de:up s.deed d { s.deed d with st:=t } e=s.deed e:=zan hne
 have h1':(up s.deed d { s.deed d with st:=t } e).st=.waiting:=h1
 have h2':(up s.deed d { s.deed d with st:=t } e).wish=some a:=h2
 rw [de] at h1' h2'
 refine zby.mpr ⟨a,h1',h2',?_⟩
 rcases h3 with ⟨w,hw⟩ | ⟨w,hw,y1,y2⟩
 . exact .inl ⟨w,zie hne hw⟩
 . exact .inr ⟨w,(zcI.mp hw).1,y1,y2⟩
theorem zkf {s:HS K} {k:K} {d:Nat} {w:Bool} {r:List (Nat×Bool)} {a:Act K} (hr:s.rows k=(d,w)::r) :
   ∀ e x,x∈zbO (doIt (take { s with rows:=up s.rows k r } d k w) d a) e->x∈zbO s e:=by
 intro e x hx
 obtain ⟨b,h1,h2,h3⟩:=zby.mp hx
 have hne:e≠d:=λ z=>by
   subst z
   rw [zhV] at h1; cases h1
 rw [zcC _ _ _ hne] at h1 h2
 rw [zcX,zcq] at h3
 refine zby.mpr ⟨b,h1,h2,?_⟩
 by_cases hk:b.key=k
 . have e1:(take { s with rows:=up s.rows k r } d k w).rows b.key=r:=by show up s.rows k r b.key=r; rw [hk,zah]
   have e2:(take { s with rows:=up s.rows k r } d k w).held b.key=zbi (s.held k) d w:=by show up s.held k (zbi (s.held k) d w) b.key=_; rw [hk,zah]
   rw [e1,e2] at h3
   rw [hk,hr,List.takeWhile_cons_of_pos (by simp; exact Ne.symm hne)]
   rcases h3 with ⟨v,hv⟩ | ⟨v,hv,y1,y2⟩
   . exact .inl ⟨v,List.mem_cons_of_mem _ hv⟩
   . rcases zaY.mp hv with z | ⟨z1,z2⟩
     . exact .inl ⟨w,by have z':x=d:=congrArg Prod.fst z; rw [z']; exact List.mem_cons_self⟩
     . exact .inr ⟨v,z1,y1,y2⟩
 . have e1:(take { s with rows:=up s.rows k r } d k w).rows b.key=s.rows b.key:=zan hk
   have e2:(take { s with rows:=up s.rows k r } d k w).held b.key=s.held b.key:=zan hk
   rw [e1,e2] at h3
   exact h3
theorem zec {s:HS K} {ks:List K} (c:Core s none):∀ e x,x∈zbO (zaK s ks) e->x∈zbO s e :=
 zbL (λ t=>∀ e x,x∈zbO t e->x∈zbO s e) (λ t k d w r a _ hr _ _ q e x hx=>q e x (zkf hr e x hx)) ks s c λ _ _ h=>h
theorem Acyc.keep {s:HS K} {d:Nat} (c:Core s none) (hd:(s.deed d).act) (a:Acyc s):Acyc (TH.keep ord s d) :=
 a.mono λ e x hx=>zeZ (t:=.kept) (by decide) e x (zec (c.keeps hd) e x hx)
theorem Acyc.drop {s:HS K} {d:Nat} (c:Core s none) (hd:(s.deed d).act) (a:Acyc s):Acyc (TH.drop ord s d) :=
 a.mono λ e x hx=>zeZ (t:=.dropped) (by decide) e x (zec (c.drops hd) e x hx)
def actB (D:Deed K):Bool:=D.st == .zar || D.st == .waiting
theorem zaP {D:Deed K}:actB D=true↔D.act:=by unfold actB Deed.act; simp
def actN (s:HS K):Nat:=(List.range s.n).countP λ d=>actB (s.deed d)
theorem zfP {α:Type} {p q:α->Bool}:∀ {l:List α},(∀ x∈l,q x=true->p x=true)->(∃ x∈l,p x=true/\q x=false)->l.countP q < l.countP p
 | [],_,⟨_,h,_⟩=>by cases h
 | a::r,h,⟨x,hx,px,qx⟩=>by
  have hr:∀ y∈r,q y=true->p y=true:=λ y hy=>h y (List.mem_cons_of_mem _ hy)
  have le:r.countP q<=r.countP p:=List.countP_mono_left hr
  rcases List.mem_cons.mp hx with z | z
  . subst z
    rw [List.countP_cons_of_pos px,List.countP_cons_of_neg (by simp [qx])]
    omega
  . have lt:=zfP hr ⟨x,z,px,qx⟩
    by_cases hq:q a=true
    . rw [List.countP_cons_of_pos hq,List.countP_cons_of_pos (h a List.mem_cons_self hq)]; omega
    . rw [List.countP_cons_of_neg hq]
      by_cases hp:p a=true
      . rw [List.countP_cons_of_pos hp]; omega
      . rw [List.countP_cons_of_neg hp]; exact lt
theorem zod {s:HS K} {ks:List K} (c:Core s none):∀ e,((zaK s ks).deed e).act↔(s.deed e).act :=
 zbL (λ t=>∀ e,(t.deed e).act↔(s.deed e).act) (λ t k d w r a c' hr _ _ q e=>by
  by_cases h:e=d
  . subst h
    have hw:=(c'.rAct k (e,w) (by rw [hr]; exact List.mem_cons_self)).1
    exact ⟨λ _=>(q e).mp (.inr hw),λ _=>.inl (zhV _ _ _)⟩
  . rw [zcC _ _ _ h]; exact q e) ks s c λ _=>Iff.rfl
theorem zqP {s:HS K} {d:Nat} (c:Core s none) (hd:(s.deed d).act) (e:Nat):((TH.drop ord s d).deed e).act↔e≠d/\(s.deed e).act:=by
 refine (zod (c.drops hd) e).trans ?_
 show (up s.deed d { s.deed d with st:=.dropped } e).act↔_
 by_cases h:e=d
 . subst h; rw [zah]; exact ⟨λ z=>(by rcases z with z | z <;> cases z),λ z=>absurd rfl z.1⟩
 . rw [zan h]; exact ⟨λ z=>⟨h,z⟩,λ z=>z.2⟩
theorem zkU {s:HS K} {d:Nat} (c:Core s none) (hd:(s.deed d).act):(TH.drop ord s d).n=s.n:=zjL _ _ (c.drops hd)
theorem zqY {s:HS K} {d:Nat} (c:Core s none) (hd:(s.deed d).act):(TH.keep ord s d).n=s.n:=zjL _ _ (c.keeps hd)
theorem zsd {s t:HS K} {d:Nat} (hn:t.n=s.n) (h:∀ e,(t.deed e).act↔e≠d/\(s.deed e).act) (hd:(s.deed d).act) (hlt:d < s.n):actN t < actN s:=by
 unfold actN
 rw [hn]
 refine zfP (λ e _ q=>zaP.mpr ((h e).mp (zaP.mp q)).2) ⟨d,List.mem_range.mpr hlt,zaP.mpr hd,?_⟩
 cases q:actB (t.deed d) with
 | false=>rfl
 | true=>exact absurd rfl ((h d).mp (zaP.mp q)).1
theorem zlo {s:HS K} {d:Nat} (c:Core s none) (hd:(s.deed d).act):actN (TH.drop ord s d) < actN s:=zsd (zkU ord c hd) (zqP ord c hd) hd (c.lt hd)
theorem znM {s:HS K} (c:Core s none) (h:rings s=[]):Acyc s:=λ d r=>by
 have hd:=c.lt (d:=d) (.inr (zaQ r))
 have:d∈rings s:=by
  unfold rings
  rw [List.mem_filter]
  exact ⟨List.mem_range.mpr hd,@decide_eq_true _ (_) r⟩
 rw [h] at this; cases this
theorem zhe:∀ {f:Nat} {s:HS K},Core s none->actN s<=f->Acyc (TH.settle ord f s)
 | 0,s,c,h=>λ d r=>by
  have hd:(s.deed d).act:=.inr (zaQ r)
  have hlt:=c.lt hd
  have:0 < actN s:=by
    unfold actN
    exact List.countP_pos_iff.mpr ⟨d,List.mem_range.mpr hlt,zaP.mpr hd⟩
  omega
 | f+1,s,c,h=>by
  unfold TH.settle
  split
  . rename_i q
    exact znM c (List.getLast?_eq_none_iff.mp q)
  . rename_i d hd
    have q:=zbP (List.mem_of_getLast? hd)
    have ha:(s.deed d).act:=.inr (zaQ q.2)
    refine zhe (c.drop ord ha) ?_
    have:=zlo ord c ha
    omega
theorem zpW (s:HS K):actN s<=s.n:=by
 unfold actN
 have:=List.countP_le_length (p:=λ d=>actB (s.deed d)) (l:=List.range s.n)
 rwa [List.length_range] at this
theorem Acyc.za4 {s:HS K} (c:Core s none) (a:Acyc s):Acyc (TH.za4 s):=a.mono λ e x hx=>by
 obtain ⟨b,h1,h2,h3⟩:=zby.mp hx
 have h1':(up s.deed s.n ⟨.zar,[],none⟩ e).st=.waiting:=h1
 have h2':(up s.deed s.n ⟨.zar,[],none⟩ e).wish=some b:=h2
 have hne:e≠s.n:=λ z=>by subst z; rw [zah] at h1'; cases h1'
 rw [zan hne] at h1' h2'
 exact zby.mpr ⟨b,h1',h2',h3⟩
theorem Acyc.into {s t:HS K} {d:Nat} (a:Acyc s) (hd:(t.deed d).st≠.waiting) (h:∀ e x,x∈zbO t e->x=d\/x∈zbO s e):Acyc t:=by
 have key:∀ x y,Reach t x y->y=d\/Reach s x y:=λ x y r=>by
   induction r with
   | one q=>exact (h _ _ q).imp id .one
   | step q r ih =>
    rcases h _ _ q with z | z
    . subst z; exact absurd (zaQ r) hd
    . exact ih.imp id (.step z)
 intro x r
 rcases key x x r with z | z
 . subst z; exact hd (zaQ r)
 . exact a x z
theorem Acyc.wish {s:HS K} {d:Nat} {a:Act K} (c:Core s none) (ac:Acyc s) (hd:(s.deed d).st=.zar):Acyc (TH.wish ord s d a):=by
 have c1:Core (TH.see s a.key) none:=c.see
 have ac1:Acyc (TH.see s a.key):=ac.mono λ e x hx=>hx
 unfold TH.wish
 dsimp only
 have zar:∀ (t:HS K),t.deed=(TH.see s a.key).deed->∀ e x,x∈zbO (doIt t d a) e->e≠d/\∃ b,((TH.see s a.key).deed e).st=.waiting/\((TH.see s a.key).deed e).wish=some b /\
     ((∃ w,(x,w)∈(t.rows b.key).takeWhile λ p=>p.1 != e)\/∃ w,(x,w)∈t.held b.key/\x≠e/\(b.wr=true\/w=true)):=λ t ht e x hx=>by
   obtain ⟨b,h1,h2,h3⟩:=zby.mp hx
   have hne:e≠d:=λ z=>by subst z; rw [zhV] at h1; cases h1
   rw [zcC _ _ _ hne,ht] at h1 h2
   rw [zcX,zcq] at h3
   exact ⟨hne,b,h1,h2,h3⟩
 by_cases h1:look ((TH.see s a.key).held a.key) d=some a.wr\/look ((TH.see s a.key).held a.key) d=some true
 . rw [if_pos h1]
   refine ac1.mono λ e x hx=>?_
   obtain ⟨_,b,q1,q2,q3⟩:=zar _ rfl e x hx
   exact zby.mpr ⟨b,q1,q2,q3⟩
 . rw [if_neg h1]
   by_cases h2:lets ((TH.see s a.key).held a.key) d a.wr=true/\(has ((TH.see s a.key).held a.key) d=true\/(TH.see s a.key).rows a.key=[])
   . rw [if_pos h2]
     refine ac1.into (d:=d) (by rw [zhV]; decide) λ e x hx=>?_
     obtain ⟨_,b,q1,q2,q3⟩:=zar (take (TH.see s a.key) d a.key a.wr) rfl e x hx
     by_cases hxd:x=d
     . exact .inl hxd
     . refine .inr (zby.mpr ⟨b,q1,q2,q3.imp id λ ⟨w,hw,y⟩=>⟨w,?_,y⟩⟩)
       have hw':(x,w)∈up (TH.see s a.key).held a.key (zbi ((TH.see s a.key).held a.key) d a.wr) b.key:=hw
       by_cases hk:b.key=a.key
       . rw [hk,zah] at hw'
         rcases zaY.mp hw' with z | z
         . exact absurd (congrArg Prod.fst z) hxd
         . rw [hk]; exact z.1
       . rw [zan hk] at hw'; exact hw'
   . rw [if_neg h2]
     have hw:∀ w',(d,w')∈(TH.see s a.key).held a.key->w'=false/\a.wr=true:=λ w' z=>by
       have q:=zcB (c1.hNd _) z
       cases hw':w' with
       | true=>exact absurd (.inr (hw' ▸ q)) h1
       | false =>
         cases ha:a.wr with
         | true=>exact ⟨rfl,rfl⟩
         | false=>exact absurd (.inl (by rw [ha,q,hw'])) h1
     exact zhe ord (c1.wait hd zcl hw) (zpW _)
theorem zox {s:HS K} (c:Core s none) {d e:Nat} (h:e∈zbO s d):(s.deed e).act:=by
 obtain ⟨a,h1,h2,h3⟩:=zby.mp h
 rcases h3 with ⟨w,hw⟩ | ⟨w,hw,_⟩
 . exact .inr (c.rAct _ _ ((List.takeWhile_sublist _).mem hw)).1
 . exact c.hAct _ _ hw
open Classical in
end
end TH
end
section
namespace TH
section
variable {K:Type} [DecidableEq K]
def zas (l:List (Act K)):List (K×Int):=l.filterMap λ a=>if a.wr then some (a.key,a.val) else none
def logW (l:List (Row K)) (d:Nat):List (K×Int):=l.filterMap λ r=>match r with
 | .write e k _ v=>if e=d then some (k,v) else none
 | _=>none
def logK (l:List (Row K)):List Nat:=l.filterMap λ r=>match r with
 | .keep d=>some d
 | _=>none
def logB (l:List (Row K)):List Nat:=l.filterMap λ r=>match r with
 | .begin d=>some d
 | _=>none
def goes (g:List Nat):Row K->List Nat
 | .begin d=>g++[d]
 | .write _ _ _ _=>g
 | .keep d=>g.erase d
 | .drop d=>g.erase d
def logG (l:List (Row K)):List Nat:=l.foldl goes []
structure Scan (K:Type) where
 book:K->Int
 bef:Nat->List (K×Int)
def undo (l:List (K×Int)) (b:K->Int):K->Int:=l.foldr (λ p bk=>up bk p.1 p.2) b
def scan1 (S:Scan K):Row K->Scan K
 | .begin _=>S
 | .write d k b v=>⟨up S.book k v,up S.bef d (S.bef d++[(k,b)])⟩
 | .keep _=>S
 | .drop d=>⟨undo (S.bef d) S.book,S.bef⟩
def scan (l:List (Row K)):Scan K:=l.foldl scan1 ⟨λ _=>0,λ _=>[]⟩
def ztD (l:List (Row K)):Row K->Prop
 | .begin d=>d=(logB l).length
 | .write d k b _=>d∈logG l/\b=(scan l).book k
 | .keep d=>d∈logG l
 | .drop d=>d∈logG l
inductive Wf:List (Row K)->Prop where
 | nil:Wf []
 | snoc {l:List (Row K)} {r:Row K}:Wf l->ztD l r->Wf (l++[r])
def first (l:List (K×Int)) (k:K):Option Int:=(l.find? λ p=>decide (p.1=k)).map (·.2)
theorem zop (k:K) (b:K->Int):∀ l:List (K×Int),undo l b k=(first l k).getD (b k)
 | []=>rfl
 | p::r=>by
  show up (undo r b) p.1 p.2 k=_
  by_cases h:p.1=k
  . subst h; rw [zah]; unfold first; rw [List.find?_cons_of_pos (by simp)]; rfl
  . rw [zan (Ne.symm h),zop k b r]; unfold first; rw [List.find?_cons_of_neg (by simpa using h)]
theorem zn6 (l:List (K×Int)) (k k':K) (b:Int):first (l++[(k,b)]) k'=match first l k' with | some v=>some v | none=>if k=k' then some b else none:=by
 unfold first
 rw [List.find?_append]
 cases h:l.find? λ p=>decide (p.1=k') with
 | some p=>rfl
 | none =>
  by_cases e:k=k'
  . simp [e]
  . simp [e]
theorem zhH (l:List (Row K)) (r:Row K) (d:Nat):logW (l++[r]) d=logW l d++(match r with | .write e k _ v=>if e=d then [(k,v)] else [] | _=>[]):=by
 unfold logW
 rw [List.filterMap_append]
 cases r with
 | write e k b v=>by_cases h:e=d <;> simp [h]
 | begin _=>rfl
 | keep _=>rfl
 | drop _=>rfl
theorem zhI (l:List (Row K)) (r:Row K):logK (l++[r])=logK l++(match r with | .keep d=>[d] | _=>[]):=by
 unfold logK
 rw [List.filterMap_append]
 cases r <;> rfl
theorem zfI (l:List (Row K)) (r:Row K):logB (l++[r])=logB l++(match r with | .begin d=>[d] | _=>[]):=by
 unfold logB
 rw [List.filterMap_append]
 cases r <;> rfl
theorem zhJ (l:List (Row K)) (r:Row K):logG (l++[r])=goes (logG l) r:=by unfold logG; rw [List.foldl_append]; rfl
theorem scan_snoc (l:List (Row K)) (r:Row K):scan (l++[r])=scan1 (scan l) r:=by unfold scan; rw [List.foldl_append]; rfl
theorem zcD (l:List (Act K)) (a:Act K):zas (l++[a])=zas l++(if a.wr then [(a.key,a.val)] else []):=by
 unfold zas
 rw [List.filterMap_append]
 cases h:a.wr <;> simp [h]
structure zaW (s:HS K):Prop where
 w:∀ d,logW s.log d=zas (s.deed d).done
 k:logK s.log=s.kept
 b:logB s.log=List.range s.n
 g:logG s.log=(List.range s.n).filter λ d=>actB (s.deed d)
 bk:∀ k,(scan s.log).book k=(s.book k).getD 0
 bef:∀ d,(s.deed d).act->∀ k,first ((scan s.log).bef d) k=if (zaO (s.deed d).done k).isSome then some ((zav s k).getD 0) else none
 befN:∀ d,s.n<=d->(scan s.log).bef d=[]
 wf:Wf s.log
theorem zb6 {α:Type} {p q:α->Bool} {l:List α} (h:∀ x∈l,p x=q x):l.filter p=l.filter q:=List.filter_congr h
theorem zaW.znc {s:HS K} {x:Option Nat} (L:zaW s) (c:Core s x) {d:Nat} (hd:(s.deed d).act):d∈logG s.log:=by
 rw [L.g,List.mem_filter]; exact ⟨List.mem_range.mpr (c.lt hd),zaP.mpr hd⟩
theorem zaW.doIt {s:HS K} {d:Nat} {a:Act K} {w:Bool} (L:zaW s) (c:Core s (some d)) (hd:(s.deed d).act) (hh:(d,w)∈s.held a.key):zaW (doIt s d a):=by
 have actE:∀ e,actB ((TH.doIt s d a).deed e)=actB (s.deed e):=λ e=>by
  by_cases h:e=d
  . subst h
    rw [zaP.mpr hd,zaP.mpr (.inl (zhV s e a))]
  . rw [zcC s d a h]
 have nk:∀ e∈s.kept,e≠d:=λ e he z=>by subst z; exact zdO hd ((c.zdu _).mp he)
 have kb:zav (TH.doIt s d a)=zav s:=zbW (zew s d a) λ e he=>by rw [zcC s d a (nk e he)]
 cases hwr:a.wr with
 | false =>
  have e1:TH.doIt s d a={ s with deed:=up s.deed d { s.deed d with st:=.zar,done:=(s.deed d).done++[⟨false,a.key,(s.book a.key).getD 0⟩] } }:=by
    unfold TH.doIt; rw [if_neg (by rw [hwr]; decide)]
  have dn:∀ e,zas ((TH.doIt s d a).deed e).done=zas (s.deed e).done/\∀ k,zaO ((TH.doIt s d a).deed e).done k=zaO (s.deed e).done k:=λ e=>by
    by_cases h:e=d
    . subst h
      rw [e1]
      show zas (up s.deed e _ e).done=_/\∀ k,zaO (up s.deed e _ e).done k=_
      rw [zah]
      refine ⟨?_,λ k=>?_⟩
      . show zas ((s.deed e).done++[_])=_
        rw [zcD]; simp
      . show zaO ((s.deed e).done++[_]) k=_
        rw [zeE]; simp
    . rw [zcC s d a h]; exact ⟨rfl,λ _=>rfl⟩
  have el:(TH.doIt s d a).log=s.log:=by rw [e1]
  have eb:(TH.doIt s d a).book=s.book:=by rw [e1]
  refine ⟨λ e=>by rw [el,(dn e).1]; exact L.w e,by rw [el,zew]; exact L.k,by rw [el,zdV]; exact L.b,?_,λ k=>by rw [el,eb]; exact L.bk k,λ e he k=>?_,λ e he=>by rw [el]; exact L.befN e (by rw [zdV] at he; exact he),by rw [el]; exact L.wf⟩
  . rw [el,zdV,L.g]; exact zb6 λ x _=>(actE x).symm
  . rw [el,(dn e).2 k,kb]; exact L.bef e (zaP.mp ((actE e).symm.trans (zaP.mpr he))) k
 | true =>
  have e1:TH.doIt s d a={ s with deed:=up s.deed d { s.deed d with st:=.zar,done:=(s.deed d).done++[a] },log:=s.log++[.write d a.key ((s.book a.key).getD 0) a.val],book:=up s.book a.key (some a.val) }:=by
    unfold TH.doIt; rw [if_pos hwr]
  have el:(TH.doIt s d a).log=s.log++[.write d a.key ((s.book a.key).getD 0) a.val]:=by rw [e1]
  have eb:(TH.doIt s d a).book=up s.book a.key (some a.val):=by rw [e1]
  have edd:((TH.doIt s d a).deed d).done=(s.deed d).done++[a]:=by rw [e1]; show (up s.deed d _ d).done=_; rw [zah]
  refine ⟨λ e=>?_,by rw [el,zhI,zew]; simp; exact L.k,by rw [el,zfI,zdV]; simp; exact L.b,?_,λ k=>?_,λ e he k=>?_,λ e he=>?_,?_⟩
  . rw [el,zhH]
    by_cases h:e=d
    . subst h; rw [edd,zcD,L.w e]; simp [hwr]
    . rw [zcC s d a h,L.w e]; simp [Ne.symm h]
  . rw [el,zhJ,zdV]
    show logG s.log=_
    rw [L.g]; exact zb6 λ x _=>(actE x).symm
  . rw [el,scan_snoc,eb]
    show up (scan s.log).book a.key a.val k=(up s.book a.key (some a.val) k).getD 0
    by_cases h:k=a.key
    . subst h; rw [zah,zah]; rfl
    . rw [zan h,zan h]; exact L.bk k
  . rw [el,scan_snoc,kb]
    show first (up (scan s.log).bef d ((scan s.log).bef d++[(a.key,(s.book a.key).getD 0)]) e) k=_
    by_cases h:e=d
    . subst h
      rw [zah,zn6,edd,zeE,L.bef e hd k]
      cases hl:zaO (s.deed e).done k with
      | some v =>
        by_cases hk:a.wr=true/\a.key=k
        . simp [hk]
        . simp [hk,hl]
      | none =>
        by_cases hk:a.key=k
        . simp [hk,hwr]
          have q:=c.reads hd hh
          rw [zfh,hk,hl] at q
          rw [q]
        . simp [hk,hl]
    . rw [zan h,zcC s d a h]
      rw [zcC s d a h] at he
      exact L.bef e he k
  . rw [zdV] at he
    rw [el,scan_snoc]
    show up (scan s.log).bef d _ e=[]
    have:e≠d:=λ z=>by subst z; have:=c.lt hd; omega
    rw [zan this]; exact L.befN e he
  . rw [el]
    exact .snoc L.wf ⟨L.znc c hd,(L.bk a.key).symm⟩
theorem zaW.ends {s:HS K} {d:Nat} {t:DS} {bk:Book K} {kp:List Nat} {r:Row K} (L:zaW s) (c:Core s none) (hd:(s.deed d).act) (ht:t=.kept\/t=.dropped)
   (hr:(t=.kept/\r=.keep d/\kp=s.kept++[d]/\bk=s.book)\/(t=.dropped/\r=.drop d/\kp=s.kept/\bk=λ k=>if (zaO (s.deed d).done k).isSome then zav s k else s.book k)) :
   zaW (letGo { s with deed:=up s.deed d { s.deed d with st:=t },book:=bk,kept:=kp,log:=s.log++[r] } d):=by
 have dn:∀ e,(up s.deed d { s.deed d with st:=t } e).done=(s.deed e).done:=λ e=>by
   by_cases h:e=d
   . subst h; rw [zah]
   . rw [zan h]
 have actE:∀ e,(up s.deed d { s.deed d with st:=t } e).act↔e≠d/\(s.deed e).act:=λ e=>by
   by_cases h:e=d
   . subst h
     rw [zah]
     refine ⟨λ z=>?_,λ z=>absurd rfl z.1⟩
     rcases z with z | z <;> rcases ht with y | y <;> (have z':t=_:=z; rw [y] at z'; cases z')
   . rw [zan h]; exact ⟨λ z=>⟨h,z⟩,λ z=>z.2⟩
 have hg:(logG s.log).erase d=(List.range s.n).filter λ e=>actB (up s.deed d { s.deed d with st:=t } e):=by
   have nd:((List.range s.n).filter λ e=>actB (s.deed e)).Nodup:=List.nodup_range.sublist List.filter_sublist
   rw [L.g,nd.erase_eq_filter,List.filter_filter]
   refine zb6 λ x _=>?_
   cases q:actB (up s.deed d { s.deed d with st:=t } x) with
   | true =>
     obtain ⟨q1,q2⟩:=(actE x).mp (zaP.mp q)
     simp [q1,zaP.mpr q2]
   | false =>
     by_cases h1:x=d
     . simp [h1]
     . cases h2:actB (s.deed x) with
       | false=>simp
       | true =>
        rw [zaP.mpr ((actE x).mpr ⟨h1,zaP.mp h2⟩)] at q; cases q
 have kbe:∀ k,zav (letGo { s with deed:=up s.deed d { s.deed d with st:=t },book:=bk,kept:=kp,log:=s.log++[r] } d) k=if t=.kept then over (zav s) (s.deed d).done k else zav s k:=λ k=>by
   have e0:zav (letGo { s with deed:=up s.deed d { s.deed d with st:=t },book:=bk,kept:=kp,log:=s.log++[r] } d)=zeu s.deed kp λ _=>none:=zbt λ e _=>dn e
   rw [e0]
   rcases hr with ⟨h1,_,h3,_⟩ | ⟨h1,_,h3,_⟩
   . rw [if_pos h1,h3,zfK]; rfl
   . rw [if_neg (by rw [h1]; decide),h3]; rfl
 have sole:∀ e k,e≠d->(s.deed e).act->(zaO (s.deed e).done k).isSome=true->zaO (s.deed d).done k=none:=λ e k hne he hs=>by
   cases q:zaO (s.deed d).done k with
   | none=>rfl
   | some u =>
     cases q':zaO (s.deed e).done k with
     | none=>rw [q'] at hs; cases hs
     | some v =>
       obtain ⟨b,hb,bw,bkk⟩:=zet q'
       obtain ⟨w,z,_⟩:=c.zfq e he b hb
       rw [bkk] at z
       exact absurd (c.sole hd q z) hne
 have sc:(scan (s.log++[r])).bef=(scan s.log).bef:=by
   rw [scan_snoc]
   rcases hr with ⟨_,h2,_,_⟩ | ⟨_,h2,_,_⟩ <;> rw [h2] <;> rfl
 refine ⟨λ e=>?_,?_,?_,?_,λ k=>?_,λ e he k=>?_,λ e he=>?_,?_⟩
 . show logW (s.log++[r]) e=zas (up s.deed d _ e).done
   rw [zhH,dn e,L.w e]
   rcases hr with ⟨_,h2,_,_⟩ | ⟨_,h2,_,_⟩ <;> rw [h2] <;> simp
 . show logK (s.log++[r])=kp
   rw [zhI,L.k]
   rcases hr with ⟨_,h2,h3,_⟩ | ⟨_,h2,h3,_⟩ <;> rw [h2,h3] <;> simp
 . show logB (s.log++[r])=List.range s.n
   rw [zfI,L.b]
   rcases hr with ⟨_,h2,_,_⟩ | ⟨_,h2,_,_⟩ <;> rw [h2] <;> simp
 . show logG (s.log++[r])=(List.range s.n).filter λ e=>actB (up s.deed d _ e)
   rw [zhJ,<-hg]
   rcases hr with ⟨_,h2,_,_⟩ | ⟨_,h2,_,_⟩ <;> rw [h2] <;> rfl
 . show (scan (s.log++[r])).book k=(bk k).getD 0
   rw [scan_snoc]
   rcases hr with ⟨_,h2,_,h4⟩ | ⟨_,h2,_,h4⟩
   . rw [h2,h4]; exact L.bk k
   . rw [h2,h4]
     show undo ((scan s.log).bef d) (scan s.log).book k=_
     rw [zop,L.bef d hd k,L.bk k]
     cases q:zaO (s.deed d).done k with
     | none=>simp [q]
     | some v=>simp [q]
 . have he':(up s.deed d { s.deed d with st:=t } e).act:=he
   obtain ⟨h1,h2⟩:=(actE e).mp he'
   show first ((scan (s.log++[r])).bef e) k=if (zaO (up s.deed d _ e).done k).isSome then _ else _
   rw [sc,dn e,kbe k,L.bef e h2 k]
   cases hs:(zaO (s.deed e).done k).isSome with
   | false=>rfl
   | true =>
     simp
     by_cases ht':t=.kept
     . rw [if_pos ht',zfh,sole e k h1 h2 hs]
     . rw [if_neg ht']
 . show (scan (s.log++[r])).bef e=[]
   rw [sc]; exact L.befN e he
 . refine .snoc L.wf ?_
   have:=L.znc c hd
   rcases hr with ⟨_,h2,_,_⟩ | ⟨_,h2,_,_⟩ <;> rw [h2] <;> exact this
theorem zaW.zaK {ks:List K} {s:HS K} (L:zaW s) (c:Core s none):zaW (TH.zaK s ks):=by
 refine zbL (λ t=>zaW t) (λ t k d w r a c' hr hl ha q=>?_) ks s c L
 have hm:(d,w)∈t.rows k:=by rw [hr]; exact List.mem_cons_self
 obtain ⟨hw,a',ea,ek,ew⟩:=c'.rAct k (d,w) hm
 have ea':some a=some a':=ha.symm.trans ea
 cases ea'
 have c2:Core (take { t with rows:=up t.rows k r } d k w) (some d):=by
  have nd:=c'.rNd k
  rw [hr] at nd
  have sub:∀ k' p,p∈(up t.rows k r) k'->p∈t.rows k':=λ k' p hp=>by
    by_cases h:k'=k
    . subst h; rw [zah] at hp; rw [hr]; exact List.mem_cons_of_mem _ hp
    . rw [zan h] at hp; exact hp
  have c1:Core { t with rows:=up t.rows k r } (some d):=by
    refine ⟨c'.out,c'.hAct,c'.hNd,c'.hEx,λ k' p hp=>c'.rAct k' p (sub k' p hp),λ k'=>?_,λ e he hwt=>?_,λ k' e v v' h1 h2=>c'.zfB k' e v v' (sub k' _ h1) h2,c'.zfq,λ k' h'=>?_,c'.bOwn,c'.zgT,c'.ser,c'.actR,c'.zdu,c'.zhO⟩
    . by_cases h:k'=k
      . subst h; show ((up t.rows k' r k').map _).Nodup; rw [zah]; exact (List.nodup_cons.mp nd).2
      . show ((up t.rows k r k').map _).Nodup; rw [zan h]; exact c'.rNd k'
    . obtain ⟨b,q1,q2⟩:=c'.wRow e (λ z=>by cases z) hwt
      refine ⟨b,q1,?_⟩
      show (e,b.wr)∈up t.rows k r b.key
      by_cases h:b.key=k
      . rw [h,zah]
        rw [h,hr] at q2
        rcases List.mem_cons.mp q2 with z | z
        . exact absurd (congrArg some (congrArg Prod.fst z)) he
        . exact z
      . rw [zan h]; exact q2
    . obtain ⟨q1,q2⟩:=c'.zdB k' h'
      have:k'≠k:=λ z=>by subst z; rw [hr] at q2; cases q2
      exact ⟨q1,by show up t.rows k r k'=_; rw [zan this]; exact q2⟩
  refine c1.take (.inr hw) hl (λ hwf w' z=>?_) (λ w' z=>?_) ?_
  . obtain ⟨_,q⟩:=c'.zfB k d w w' hm z
    rw [hwf] at q; cases q
  . have z':(d,w')∈up t.rows k r k:=z
    rw [zah] at z'
    exact (List.nodup_cons.mp nd).1 (List.mem_map.mpr ⟨_,z',rfl⟩)
  . by_cases z:k∈t.seen
    . exact z
    . have:=(c'.zdB k z).2; rw [hr] at this; cases this
 have q':zaW (take { t with rows:=up t.rows k r } d k w):=⟨q.w,q.k,q.b,q.g,q.bk,q.bef,q.befN,q.wf⟩
 refine q'.doIt (w:=w) c2 (.inr hw) ?_
 show (d,w)∈up t.held k (zbi (t.held k) d w) a.key
 rw [ek,zah]
 exact zaY.mpr (.inl rfl)
variable (ord:List K->List K)
theorem zaW.keep {s:HS K} {d:Nat} (L:zaW s) (c:Core s none) (hd:(s.deed d).act):zaW (TH.keep ord s d) :=
 (zaW.ends (t:=.kept) L c hd (.inl rfl) (.inl ⟨rfl,rfl,rfl,rfl⟩)).zaK (c.keeps hd)
theorem zaW.drop {s:HS K} {d:Nat} (L:zaW s) (c:Core s none) (hd:(s.deed d).act):zaW (TH.drop ord s d) :=
 (zaW.ends (t:=.dropped) L c hd (.inr rfl) (.inr ⟨rfl,rfl,rfl,rfl⟩)).zaK (c.drops hd)
theorem zaW.settle:∀ {f:Nat} {s:HS K},zaW s->Core s none->zaW (TH.settle ord f s)
 | 0,s,L,c=>L
 | f+1,s,L,c=>by
  unfold TH.settle
  split
  . exact L
  . rename_i d hd
    have q:=zbP (List.mem_of_getLast? hd)
    have ha:(s.deed d).act:=.inr (zaQ q.2)
    exact zaW.settle (L.drop ord c ha) (c.drop ord ha)
theorem zaW.za4 {s:HS K} (L:zaW s) (c:Core s none):zaW (TH.za4 s):=by
 have o:=c.out s.n (Nat.le_refl _)
 have dn:∀ e,(up s.deed s.n ⟨.zar,[],none⟩ e).done=(s.deed e).done:=λ e=>by
   by_cases h:e=s.n
   . subst h; rw [zah,o.2]
   . rw [zan h]
 have kb:zav (TH.za4 s)=zav s:=zbt λ e _=>dn e
 have sc:scan (s.log++[.begin s.n])=scan s.log:=by rw [scan_snoc]; rfl
 refine ⟨λ e=>?_,?_,?_,?_,λ k=>?_,λ e he k=>?_,λ e he=>?_,?_⟩
 . show logW (s.log++[.begin s.n]) e=zas (up s.deed s.n _ e).done
   rw [zhH,dn e,L.w e]; simp
 . show logK (s.log++[.begin s.n])=s.kept
   rw [zhI,L.k]; simp
 . show logB (s.log++[.begin s.n])=List.range (s.n+1)
   rw [zfI,L.b,List.range_succ]
 . show logG (s.log++[.begin s.n])=(List.range (s.n+1)).filter λ e=>actB (up s.deed s.n _ e)
   rw [zhJ,List.range_succ,List.filter_append]
   show logG s.log++[s.n]=_
   rw [L.g]
   congr 1
   . refine zb6 λ x hx=>?_
     have:x≠s.n:=λ z=>by have:=List.mem_range.mp hx; omega
     rw [zan this]
   . rw [List.filter_cons_of_pos (by rw [zah]; rfl)]; rfl
 . show (scan (s.log++[.begin s.n])).book k=(s.book k).getD 0
   rw [sc]; exact L.bk k
 . show first ((scan (s.log++[.begin s.n])).bef e) k=if (zaO (up s.deed s.n _ e).done k).isSome then some ((zav (TH.za4 s) k).getD 0) else none
   rw [sc,dn e,kb]
   by_cases h:e=s.n
   . subst h
     rw [L.befN _ (Nat.le_refl _),o.2]; rfl
   . have he':(up s.deed s.n ⟨.zar,[],none⟩ e).act:=he
     rw [zan h] at he'
     exact L.bef e he' k
 . have he':s.n+1<=e:=he
   show (scan (s.log++[.begin s.n])).bef e=[]
   rw [sc]; exact L.befN e (by omega)
 . exact .snoc L.wf (by show s.n=(logB s.log).length; rw [L.b,List.length_range])
theorem zaW.wish {s:HS K} {d:Nat} {a:Act K} (L:zaW s) (c:Core s none) (hd:(s.deed d).st=.zar):zaW (TH.wish ord s d a):=by
 have c1:Core (TH.see s a.key) none:=c.see
 have L1:zaW (TH.see s a.key):=⟨L.w,L.k,L.b,L.g,L.bk,L.bef,L.befN,L.wf⟩
 have nor:∀ k w',(d,w')∉(TH.see s a.key).rows k:=λ k w' z=>by
   have:=(c1.rAct k _ z).1
   have this':(s.deed d).st=.waiting:=this
   rw [hd] at this'; cases this'
 unfold TH.wish
 dsimp only
 by_cases h1:look ((TH.see s a.key).held a.key) d=some a.wr\/look ((TH.see s a.key).held a.key) d=some true
 . rw [if_pos h1]
   rcases h1 with h1 | h1
   . exact L1.doIt c1.weaken (.inl hd) (zcJ h1)
   . exact L1.doIt c1.weaken (.inl hd) (zcJ h1)
 . rw [if_neg h1]
   have hw:∀ w',(d,w')∈(TH.see s a.key).held a.key->w'=false/\a.wr=true:=λ w' z=>by
     have q:=zcB (c1.hNd _) z
     cases hw':w' with
     | true=>exact absurd (.inr (hw' ▸ q)) h1
     | false =>
       cases ha:a.wr with
       | true=>exact ⟨rfl,rfl⟩
       | false=>exact absurd (.inl (by rw [ha,q,hw'])) h1
   by_cases h2:lets ((TH.see s a.key).held a.key) d a.wr=true/\(has ((TH.see s a.key).held a.key) d=true\/(TH.see s a.key).rows a.key=[])
   . rw [if_pos h2]
     have L2:zaW (take (TH.see s a.key) d a.key a.wr):=⟨L1.w,L1.k,L1.b,L1.g,L1.bk,L1.bef,L1.befN,L1.wf⟩
     refine L2.doIt (w:=a.wr) (c1.weaken.take (.inl hd) h2.1 (λ hf w' z=>?_) (λ w'=>nor _ w') zcl) (.inl hd) ?_
     . have:=(hw w' z).2; rw [hf] at this; cases this
     . show (d,a.wr)∈up (TH.see s a.key).held a.key _ a.key
       rw [zah]; exact zaY.mpr (.inl rfl)
   . rw [if_neg h2]
     refine zaW.settle ord ?_ (c1.wait hd zcl hw)
     have dn:∀ e,(up s.deed d { s.deed d with st:=.waiting,wish:=some a } e).done=(s.deed e).done:=λ e=>by
       by_cases h:e=d
       . subst h; rw [zah]
       . rw [zan h]
     have actE:∀ e,(up s.deed d { s.deed d with st:=.waiting,wish:=some a } e).act↔(s.deed e).act:=λ e=>by
       by_cases h:e=d
       . subst h; rw [zah]; exact ⟨λ _=>.inl hd,λ _=>.inr rfl⟩
       . rw [zan h]
     have kb:zav (TH.wait (TH.see s a.key) d a)=zav s:=zbt λ e _=>dn e
     refine ⟨λ e=>?_,L.k,L.b,?_,L.bk,λ e he k=>?_,L.befN,L.wf⟩
     . exact (L.w e).trans (congrArg zas (dn e)).symm
     . show logG s.log=(List.range s.n).filter λ e=>actB (up s.deed d _ e)
       rw [L.g]
       refine zb6 λ x _=>?_
       cases q:actB (s.deed x) with
       | true=>exact (zaP.mpr ((actE x).mpr (zaP.mp q))).symm
       | false =>
         cases q':actB (up s.deed d { s.deed d with st:=.waiting,wish:=some a } x) with
         | false=>exact q'.symm
         | true=>rw [zaP.mpr ((actE x).mp (zaP.mp q'))] at q; cases q
     . have q:=L.bef e ((actE e).mp he) k
       rw [kb]
       show first ((scan s.log).bef e) k=if (zaO (up s.deed d { s.deed d with st:=.waiting,wish:=some a } e).done k).isSome then some ((zav s k).getD 0) else none
       rw [dn e]; exact q
structure All (s:HS K):Prop where
 c:Core s none
 h:Head s
 a:Acyc s
 l:zaW s
def empty:HS K:=⟨0,λ _=>⟨.dropped,[],none⟩,λ _=>[],λ _=>[],λ _=>none,[],[],[]⟩
theorem All.empty:All (TH.empty (K:=K)):=by
 have na:∀ d,¬ ((TH.empty (K:=K)).deed d).act:=λ d z=>by rcases z with z | z <;> cases z
 refine ⟨⟨λ d _=>⟨rfl,rfl⟩,λ k p hp=>(by cases hp),λ k=>List.nodup_nil,λ k d h=>(by cases h),λ k p hp=>(by cases hp),λ k=>List.nodup_nil,λ d _ h=>(by cases h),λ k d w w' h=>(by cases h),λ d h=>absurd h (na d),λ k _=>⟨rfl,rfl⟩,λ d h=>absurd h (na d),λ k _=>rfl,rfl,λ d h=>absurd h (na d),λ d=>⟨λ h=>(by cases h),λ h=>(by cases h)⟩,List.nodup_nil⟩,λ k d w r e=>(by cases e),λ d r=>?_,⟨λ d=>rfl,rfl,rfl,rfl,λ k=>rfl,λ d h=>absurd h (na d),λ d _=>rfl,.nil⟩⟩
 exact absurd (Or.inr (zaQ r)) (na d)
variable (hord:∀ l k,k∈ord l↔k∈l)
include hord
end
end TH
end
section
namespace TH
section
variable {K:Type} [DecidableEq K]
def zj3 (s:HS K) (a:Act K):Act K:=if a.wr then a else ⟨false,a.key,(s.book a.key).getD 0⟩
theorem zcr (s:HS K) (a:Act K):(zj3 s a).key=a.key:=by unfold zj3; split <;> rfl
theorem zdx (s:HS K) (d:Nat) (a:Act K):(doIt s d a).deed=up s.deed d { s.deed d with st:=.zar,done:=(s.deed d).done++[zj3 s a] }:=by
 unfold doIt zj3; split <;> rfl
theorem zqK (s:HS K) (d:Nat) (a:Act K):(doIt s d a).log=s.log++(if a.wr then [.write d a.key ((s.book a.key).getD 0) a.val] else []):=by
 unfold doIt; split
 . rfl
 . simp
theorem zpH (s:HS K) (d:Nat) (a:Act K):(doIt s d a).book=if a.wr then up s.book a.key (some a.val) else s.book:=by
 unfold doIt; split <;> rfl
def zgK (D:Deed K):Bool:=decide (D.st=.waiting)
def zdA (s:HS K):Nat:=(List.range s.n).countP λ d=>zgK (s.deed d)
theorem zhY {p q:Nat->Bool} {d:Nat}:∀ {l:List Nat},l.Nodup->(∀ x∈l,q x=true->p x=true\/x=d)->l.countP q<=l.countP p+1
 | [],_,_=>by simp
 | x::r,nd,h=>by
  have hr:∀ y∈r,q y=true->p y=true\/y=d:=λ y hy=>h y (List.mem_cons_of_mem _ hy)
  have nd':=List.nodup_cons.mp nd
  rw [List.countP_cons,List.countP_cons]
  by_cases hx:x=d
  . have:r.countP q<=r.countP p:=List.countP_mono_left λ y hy hq=>(hr y hy hq).resolve_right λ z=>nd'.1 (by rw [hx,<-z]; exact hy)
    split <;> split <;> omega
  . have ih:=zhY nd'.2 hr
    cases hq:q x with
    | false=>simp; split <;> omega
    | true =>
     have:p x=true:=(h x List.mem_cons_self hq).resolve_right hx
     simp [this]; exact ih
structure Ext (s:HS K) (T:Nat):Prop where
 own:∀ k d w,(d,w)∈s.held k->∃ a∈(s.deed d).done,a.key=k
 dn:∀ d,(s.deed d).done.length+(if (s.deed d).st=.waiting then 1 else 0)<=T
 n:s.n<=T
 sn:s.seen.length<=T
 snd:s.seen.Nodup
 lg:s.log.length+zdA s+actN s<=2 * T
 zgP:∀ d,∀ a∈(s.deed d).done,a.key∈s.seen
 zh3:∀ k,s.book k≠none->k∈s.seen
theorem zo1:∀ {l:List (Act K)} {b:Book K} {k:K},over b l k≠none->b k≠none\/∃ a∈l,a.key=k:=λ {l b k} h=>by
 rw [zfh] at h
 cases e:zaO l k with
 | none=>rw [e] at h; exact .inl h
 | some v=>obtain ⟨a,ha,_,hk⟩:=zet e; exact .inr ⟨a,ha,hk⟩
theorem ziU {deed:Nat->Deed K} {k:K}:∀ {l:List Nat} {b:Book K},zeu deed l b k≠none->b k≠none\/∃ d∈l,∃ a∈(deed d).done,a.key=k
 | [],b,h=>.inl h
 | d::r,b,h=>by
  rcases ziU (l:=r) h with h | ⟨e,he,q⟩
  . rcases zo1 h with h | ⟨a,ha,hk⟩
    . exact .inl h
    . exact .inr ⟨d,List.mem_cons_self,a,ha,hk⟩
  . exact .inr ⟨e,List.mem_cons_of_mem _ he,q⟩
theorem Ext.zqx {s:HS K} {T:Nat} (E:Ext s T):∀ k,zav s k≠none->k∈s.seen:=λ k h=>by
 rcases ziU h with h | ⟨d,_,a,ha,hk⟩
 . exact absurd rfl h
 . rw [<-hk]; exact E.zgP d a ha
theorem Ext.mono {s:HS K} {T T':Nat} (E:Ext s T) (h:T<=T'):Ext s T' :=
 ⟨E.own,λ d=>Nat.le_trans (E.dn d) h,Nat.le_trans E.n h,Nat.le_trans E.sn h,E.snd,Nat.le_trans E.lg (by omega),E.zgP,E.zh3⟩
theorem Ext.empty:Ext (TH.empty (K:=K)) 0 :=
 ⟨λ k d w h=>(by cases h),λ d=>(by simp [TH.empty]),Nat.le_refl _,Nat.le_refl _,List.nodup_nil,by simp [TH.empty,zdA,actN],λ d a h=>(by cases h),λ k h=>absurd rfl h⟩
theorem Ext.does {s t:HS K} {T T':Nat} {d:Nat} {a:Act K} (E:Ext s T) (hn:t.n=s.n) (hs:t.seen=s.seen) (hdl:d < s.n) (hd:(s.deed d).act)
   (hdeed:t.deed=up s.deed d { s.deed d with st:=.zar,done:=(s.deed d).done++[a] })
   (hlog:t.log.length<=s.log.length+1) (hbook:∀ k,t.book k≠none->s.book k≠none\/k=a.key)
   (hheld:∀ k e w,(e,w)∈t.held k->(∃ w',(e,w')∈s.held k)\/(e=d/\k=a.key)) (hk:a.key∈s.seen) (hT:T<=T') (hw:(s.deed d).st=.waiting\/T+1<=T'):Ext t T':=by
 have ds:t.deed d={ s.deed d with st:=.zar,done:=(s.deed d).done++[a] }:=by rw [hdeed,zah]
 have dn:∀ e,e≠d->t.deed e=s.deed e:=λ e he=>by rw [hdeed,zan he]
 have sub:∀ e x,x∈(s.deed e).done->x∈(t.deed e).done:=λ e x hx=>by
   by_cases he:e=d
   . subst he; rw [ds]; exact List.mem_append_left _ hx
   . rw [dn e he]; exact hx
 refine ⟨λ k e w h=>?_,λ e=>?_,by rw [hn]; exact Nat.le_trans E.n hT,by rw [hs]; exact Nat.le_trans E.sn hT,by rw [hs]; exact E.snd,?_,λ e x hx=>?_,λ k h=>?_⟩
 . rcases hheld k e w h with ⟨w',h'⟩ | ⟨he,hk'⟩
   . obtain ⟨x,hx,q⟩:=E.own k e w' h'
     exact ⟨x,sub e x hx,q⟩
   . subst he
     refine ⟨a,?_,hk'.symm⟩
     rw [ds]; exact List.mem_append_right _ List.mem_cons_self
 . by_cases he:e=d
   . subst he
     have:=E.dn e
     rw [ds]
     simp only [List.length_append,List.length_cons,List.length_nil]
     rcases hw with hw | hw
     . rw [if_pos hw] at this; simp; omega
     . simp
       have:(s.deed e).done.length<=T:=by split at this <;> omega
       omega
   . rw [dn e he]; exact Nat.le_trans (E.dn e) hT
 . have ea:actN t=actN s:=by
     unfold actN; rw [hn]
     refine List.countP_congr λ x _=>?_
     by_cases hx:x=d
     . subst hx; rw [ds,zaP,zaP]; exact ⟨λ _=>hd,λ _=>.inl rfl⟩
     . rw [dn x hx]
   have:=E.lg
   rcases hw with hw | hw
   . have ew:zdA t < zdA s:=by
       unfold zdA; rw [hn]
       refine zfP (λ x _ hx=>?_) ⟨d,List.mem_range.mpr hdl,?_,?_⟩
       . by_cases hxd:x=d
         . subst hxd; unfold zgK; rw [hw]; rfl
         . rw [dn x hxd] at hx; exact hx
       . unfold zgK; rw [hw]; rfl
       . rw [ds]; rfl
     omega
   . have ew:zdA t<=zdA s:=by
       unfold zdA; rw [hn]
       refine List.countP_mono_left λ x _ hx=>?_
       by_cases hxd:x=d
       . subst hxd; rw [ds] at hx; cases hx
       . rw [dn x hxd] at hx; exact hx
     omega
 . rw [hs]
   by_cases he:e=d
   . subst he
     rw [ds] at hx
     rcases List.mem_append.mp hx with hx | hx
     . exact E.zgP e x hx
     . rw [List.mem_singleton.mp hx]; exact hk
   . rw [dn e he] at hx; exact E.zgP e x hx
 . rw [hs]
   rcases hbook k h with h | h
   . exact E.zh3 k h
   . rw [h]; exact hk
theorem zcH {s:HS K} {x:Option Nat} (c:Core s x) {k:K} {p:Nat×Bool} (h:p∈s.rows k):k∈s.seen:=by
 by_cases hk:k∈s.seen
 . exact hk
 . rw [(c.zdB k hk).2] at h; cases h
theorem zjC {s:HS K} {d e:Nat} {k k':K} {w w':Bool} (h:(e,w')∈(take s d k w).held k'):(∃ w'',(e,w'')∈s.held k')\/(e=d/\k'=k):=by
 by_cases hk:k'=k
 . subst hk
   have h':(e,w')∈up s.held k' (zbi (s.held k') d w) k':=h
   rw [zah] at h'
   unfold zbi at h'
   split at h'
   . obtain ⟨p,hp,q⟩:=List.mem_map.mp h'
     by_cases hpd:(p.1 == d)=true
     . rw [if_pos hpd] at q; cases q; exact .inr ⟨rfl,rfl⟩
     . rw [if_neg hpd] at q; subst q; exact .inl ⟨_,hp⟩
   . rcases List.mem_append.mp h' with h' | h'
     . exact .inl ⟨_,h'⟩
     . rw [List.mem_singleton] at h'; cases h'; exact .inr ⟨rfl,rfl⟩
 . have h':(e,w')∈up s.held k _ k':=h
   rw [zan hk] at h'; exact .inl ⟨_,h'⟩
theorem zh4 {s:HS K} {d:Nat} {a:Act K} {k:K} (h:(doIt s d a).book k≠none):s.book k≠none\/k=(zj3 s a).key:=by
 rw [zpH] at h
 rw [zcr]
 split at h
 . by_cases hk:k=a.key
   . exact .inr hk
   . rw [zan hk] at h; exact .inl h
 . exact .inl h
theorem zjH {s:HS K} {d:Nat} {a:Act K}:(doIt s d a).log.length<=s.log.length+1:=by
 rw [zqK,List.length_append]; split <;> simp
theorem Ext.zaK {ks:List K} {s:HS K} {T:Nat} (E:Ext s T) (c:Core s none):Ext (TH.zaK s ks) T:=by
 refine zbL (λ t=>Ext t T) (λ s k d w r a c hr hl ha E=>?_) ks s c E
 have hm:(d,w)∈s.rows k:=by rw [hr]; exact List.mem_cons_self
 obtain ⟨hst,a',ha',hk',hw'⟩:=c.rAct k _ hm
 rw [ha] at ha'; cases ha'
 refine E.does (a:=zj3 s a) (d:=d) (by rw [zdV]; rfl) (by rw [zb7]; rfl) (c.lt (.inr hst)) (.inr hst) (by rw [zdx]; rfl) zjH (λ k=>zh4) (λ k' e w' h=>?_) ?_ (Nat.le_refl _) (.inl hst)
 . rw [zcq] at h
   rcases zjC h with h | ⟨h1,h2⟩
   . exact .inl h
   . exact .inr ⟨h1,by rw [zcr,hk']; exact h2⟩
 . rw [zcr,hk']; exact zcH c hm
theorem zqv {l:List (Nat×Bool)} {d:Nat} {p:Nat×Bool} (h:p∈less l d):p∈l:=(List.mem_filter.mp h).1
theorem Ext.ends {s:HS K} {d:Nat} {t:DS} {bk:Book K} {kp:List Nat} {r:Row K} {T:Nat} (E:Ext s T) (c:Core s none) (hd:(s.deed d).act) (ht:t=.kept\/t=.dropped) (hb:∀ k,bk k≠none->k∈s.seen) :
   Ext (letGo { s with deed:=up s.deed d { s.deed d with st:=t },book:=bk,kept:=kp,log:=s.log++[r] } d) T:=by
 have dn:∀ e,(up s.deed d { s.deed d with st:=t } e).done=(s.deed e).done:=λ e=>by
   by_cases h:e=d
   . subst h; rw [zah]
   . rw [zan h]
 have tw:t≠.waiting/\t≠.zar:=by rcases ht with h | h <;> subst h <;> decide
 refine ⟨λ k e w h=>?_,λ e=>?_,E.n,E.sn,E.snd,?_,λ e x hx=>?_,λ k h=>hb k h⟩
 . obtain ⟨x,hx,q⟩:=E.own k e w (zqv h)
   exact ⟨x,by show x∈(up s.deed d _ e).done; rw [dn]; exact hx,q⟩
 . show (up s.deed d _ e).done.length+(if (up s.deed d _ e).st=.waiting then 1 else 0)<=T
   rw [dn]
   have:=E.dn e
   by_cases h:e=d
   . subst h; rw [zah,if_neg tw.1]; split at this <;> omega
   . rw [zan h]; exact this
 . show (s.log++[r]).length+(List.range s.n).countP (λ x=>zgK (up s.deed d _ x))+(List.range s.n).countP (λ x=>actB (up s.deed d _ x))<=2 * T
   have e1:(List.range s.n).countP (λ x=>actB (up s.deed d { s.deed d with st:=t } x)) < actN s:=by
     unfold actN
     refine zfP (λ x _ hx=>?_) ⟨d,List.mem_range.mpr (c.lt hd),zaP.mpr hd,?_⟩
     . by_cases h:x=d
       . subst h; exact zaP.mpr hd
       . rw [zan h] at hx; exact hx
     . rw [zah]; unfold actB; simp [tw.1,tw.2]
   have e2:(List.range s.n).countP (λ x=>zgK (up s.deed d { s.deed d with st:=t } x))<=zdA s:=by
     unfold zdA
     refine List.countP_mono_left λ x _ hx=>?_
     by_cases h:x=d
     . subst h; rw [zah] at hx; unfold zgK at hx; simp [tw.1] at hx
     . rw [zan h] at hx; exact hx
   have:=E.lg
   rw [List.length_append,List.length_singleton]
   dsimp only at e1 e2 ⊢
   omega
 . have hx':x∈(up s.deed d { s.deed d with st:=t } e).done:=hx
   rw [dn] at hx'; exact E.zgP e x hx'
variable (ord:List K->List K)
theorem Ext.keep {s:HS K} {d:Nat} {T:Nat} (E:Ext s T) (c:Core s none) (hd:(s.deed d).act):Ext (TH.keep ord s d) T:=by
 have:=Ext.zaK (ks:=ord s.seen) (E.ends (t:=.kept) (bk:=s.book) (kp:=s.kept++[d]) (r:=.keep d) c hd (.inl rfl) E.zh3) (c.keeps hd)
 exact this
theorem Ext.drop {s:HS K} {d:Nat} {T:Nat} (E:Ext s T) (c:Core s none) (hd:(s.deed d).act):Ext (TH.drop ord s d) T:=by
 have:=Ext.zaK (ks:=ord s.seen) (E.ends (t:=.dropped) (bk:=λ k=>if (zaO (s.deed d).done k).isSome then zav s k else s.book k) (kp:=s.kept) (r:=.drop d) c hd (.inr rfl) (λ k h=>by
  split at h
  . exact E.zqx k h
  . exact E.zh3 k h)) (c.drops hd)
 exact this
theorem Ext.za4 {s:HS K} {T:Nat} (E:Ext s T) (c:Core s none):Ext (TH.za4 s) (T+1):=by
 have dd:∀ e,e≠s.n->(TH.za4 s).deed e=s.deed e:=λ e he=>zan he
 have ds:(TH.za4 s).deed s.n=⟨.zar,[],none⟩:=zah
 have out:=c.out s.n (Nat.le_refl _)
 refine ⟨λ k d w h=>?_,λ d=>?_,Nat.succ_le_succ E.n,Nat.le_succ_of_le E.sn,E.snd,?_,λ d x hx=>?_,E.zh3⟩
 . obtain ⟨x,hx,q⟩:=E.own k d w h
   have hne:d≠s.n:=λ z=>by subst z; rw [out.2] at hx; cases hx
   exact ⟨x,by rw [dd d hne]; exact hx,q⟩
 . by_cases h:d=s.n
   . subst h; rw [ds]; simp
   . rw [dd d h]; exact Nat.le_succ_of_le (E.dn d)
 . show (s.log++[_]).length+(List.range (s.n+1)).countP (λ x=>zgK ((TH.za4 s).deed x))+(List.range (s.n+1)).countP (λ x=>actB ((TH.za4 s).deed x))<=_
   rw [List.range_succ,List.countP_append,List.countP_append,List.length_append]
   have e1:(List.range s.n).countP (λ x=>zgK ((TH.za4 s).deed x))=zdA s:=List.countP_congr λ x hx=>by rw [dd x (Nat.ne_of_lt (List.mem_range.mp hx))]
   have e2:(List.range s.n).countP (λ x=>actB ((TH.za4 s).deed x))=actN s:=List.countP_congr λ x hx=>by rw [dd x (Nat.ne_of_lt (List.mem_range.mp hx))]
   rw [e1,e2]
   have:=E.lg
   have h1:[s.n].countP (λ x=>zgK ((TH.za4 s).deed x))=0:=by simp [ds,zgK]
   have h2:[s.n].countP (λ x=>actB ((TH.za4 s).deed x))<=1:=by
     have:=List.countP_le_length (p:=λ x=>actB ((TH.za4 s).deed x)) (l:=[s.n]); simpa using this
   rw [h1]
   simp only [List.length_singleton]
   omega
 . by_cases h:d=s.n
   . subst h; rw [ds] at hx; cases hx
   . rw [dd d h] at hx; exact E.zgP d x hx
theorem Ext.see {s:HS K} {T:Nat} {k:K} (E:Ext s T):Ext (TH.see s k) (T+1):=by
 have sub:∀ x,x∈s.seen->x∈(TH.see s k).seen:=λ x hx=>by
   show x∈if k∈s.seen then s.seen else s.seen++[k]
   split
   . exact hx
   . exact List.mem_append_left _ hx
 refine ⟨E.own,λ d=>Nat.le_succ_of_le (E.dn d),Nat.le_succ_of_le E.n,?_,?_,Nat.le_trans E.lg (by omega),λ d x hx=>sub _ (E.zgP d x hx),λ k h=>sub _ (E.zh3 k h)⟩
 . show (if k∈s.seen then s.seen else s.seen++[k]).length<=_
   have:=E.sn
   split
   . omega
   . simp; omega
 . show (if k∈s.seen then s.seen else s.seen++[k]).Nodup
   split
   . exact E.snd
   . rename_i h
     exact List.nodup_append.mpr ⟨E.snd,by simp,λ a ha b hb=>by rw [List.mem_singleton.mp hb]; intro z; rw [z] at ha; exact h ha⟩
theorem Ext.settle:∀ {f:Nat} {s:HS K} {T:Nat},Ext s T->Core s none->Ext (TH.settle ord f s) T
 | 0,s,T,E,c=>E
 | f+1,s,T,E,c=>by
  unfold TH.settle
  cases h:(rings s).getLast? with
  | none=>exact E
  | some d =>
   have hd:(s.deed d).act:=.inr (zaQ (zbP (List.mem_of_getLast? h)).2)
   exact Ext.settle (E.drop ord c hd) (c.drop ord hd)
theorem Ext.wait {s:HS K} {d:Nat} {a:Act K} {T:Nat} (E:Ext s T) (hd:(s.deed d).st=.zar) (hT:∀ e,(s.deed e).done.length+(if (s.deed e).st=.waiting then 1 else 0)+1<=T) (hl:s.log.length+zdA s+actN s+2<=2 * T):Ext (TH.wait s d a) T:=by
 have dn:∀ e,(up s.deed d { s.deed d with st:=.waiting,wish:=some a } e).done=(s.deed e).done:=λ e=>by
   by_cases h:e=d
   . subst h; rw [zah]
   . rw [zan h]
 refine ⟨λ k e w h=>?_,λ e=>?_,E.n,E.sn,E.snd,?_,λ e x hx=>?_,E.zh3⟩
 . obtain ⟨x,hx,q⟩:=E.own k e w h
   exact ⟨x,by show x∈(up s.deed d _ e).done; rw [dn]; exact hx,q⟩
 . show (up s.deed d _ e).done.length+(if (up s.deed d _ e).st=.waiting then 1 else 0)<=T
   rw [dn]
   have:=hT e
   split at this <;> split <;> omega
 . show s.log.length+(List.range s.n).countP (λ x=>zgK (up s.deed d _ x))+(List.range s.n).countP (λ x=>actB (up s.deed d _ x))<=2 * T
   have e1:(List.range s.n).countP (λ x=>actB (up s.deed d { s.deed d with st:=.waiting,wish:=some a } x))<=actN s:=by
     unfold actN
     refine List.countP_mono_left λ x _ hx=>?_
     by_cases h:x=d
     . subst h; exact zaP.mpr (.inl hd)
     . rw [zan h] at hx; exact hx
   have e2:(List.range s.n).countP (λ x=>zgK (up s.deed d { s.deed d with st:=.waiting,wish:=some a } x))<=zdA s+1:=by
     unfold zdA
     refine zhY (d:=d) List.nodup_range λ x _ hx=>?_
     by_cases h:x=d
     . exact .inr h
     . rw [zan h] at hx; exact .inl hx
   dsimp only at e1 e2 ⊢
   omega
 . have hx':x∈(up s.deed d { s.deed d with st:=.waiting,wish:=some a } e).done:=hx
   rw [dn] at hx'; exact E.zgP e x hx'
theorem Ext.wish {s:HS K} {d:Nat} {a:Act K} {T:Nat} (E:Ext s T) (c:Core s none) (hd:(s.deed d).st=.zar):Ext (TH.wish ord s d a) (T+1):=by
 have c1:Core (TH.see s a.key) none:=c.see
 have E1:Ext (TH.see s a.key) (T+1):=E.see
 have es:∀ x,x∈(TH.see s a.key).seen↔x=a.key\/x∈s.seen:=λ x=>by
   show x∈(if a.key∈s.seen then s.seen else s.seen++[a.key])↔_
   split
   . rename_i h; exact ⟨.inr,λ q=>q.elim (λ z=>z ▸ h) id⟩
   . rw [List.mem_append,List.mem_singleton]; exact Or.comm
 have main:∀ t:HS K,t.n=s.n->t.seen=(TH.see s a.key).seen->t.deed=s.deed->t.log=s.log->t.book=s.book->(∀ k e w,(e,w)∈t.held k->(∃ w',(e,w')∈s.held k)\/(e=d/\k=a.key))->Ext (doIt t d a) (T+1):=by
   intro t hn hs hdd hlg hbk hh
   have q:Ext { s with seen:=(TH.see s a.key).seen } (T+1):=E1
   have D:∀ T',Ext { s with seen:=(TH.see s a.key).seen } T'->T<=T'->(∀ e,(s.deed e).done.length+(if (s.deed e).st=.waiting then 1 else 0)<=T)->Ext (doIt t d a) (T+1):=λ _ _ _ _=>by
     have ds:(doIt t d a).deed d={ s.deed d with st:=.zar,done:=(s.deed d).done++[zj3 t a] }:=by rw [zdx,hdd,zah]
     have dn:∀ e,e≠d->(doIt t d a).deed e=s.deed e:=λ e he=>by rw [zdx,hdd,zan he]
     have en:(doIt t d a).n=s.n:=by rw [zdV]; exact hn
     refine ⟨λ k e w h=>?_,λ e=>?_,by rw [en]; exact Nat.le_succ_of_le E.n,by rw [zb7,hs]; exact E1.sn,by rw [zb7,hs]; exact E1.snd,?_,λ e x hx=>?_,λ k h=>?_⟩
     . rw [zcq] at h
       have sub:∀ e x,x∈(s.deed e).done->x∈((doIt t d a).deed e).done:=λ e x hx=>by
         by_cases he:e=d
         . subst he; rw [ds]; exact List.mem_append_left _ hx
         . rw [dn e he]; exact hx
       rcases hh k e w h with ⟨w',h'⟩ | ⟨he,hk⟩
       . obtain ⟨x,hx,q⟩:=E.own k e w' h'
         exact ⟨x,sub e x hx,q⟩
       . subst he
         exact ⟨zj3 t a,by rw [ds]; exact List.mem_append_right _ List.mem_cons_self,by rw [zcr]; exact hk.symm⟩
     . by_cases he:e=d
       . subst he
         have:=E.dn e
         rw [ds]
         simp
         split at this <;> omega
       . rw [dn e he]; exact Nat.le_succ_of_le (E.dn e)
     . have e1:actN (doIt t d a)=actN s:=by
         unfold actN; rw [en]
         refine List.countP_congr λ x _=>?_
         by_cases hx:x=d
         . subst hx; rw [ds,zaP,zaP]; exact ⟨λ _=>.inl hd,λ _=>.inl rfl⟩
         . rw [dn x hx]
       have e2:zdA (doIt t d a)<=zdA s:=by
         unfold zdA; rw [en]
         refine List.countP_mono_left λ x _ hx=>?_
         by_cases hxd:x=d
         . subst hxd; rw [ds] at hx; cases hx
         . rw [dn x hxd] at hx; exact hx
       have e3:=zjH (s:=t) (d:=d) (a:=a)
       rw [hlg] at e3
       have:=E.lg
       omega
     . rw [zb7,hs]
       by_cases he:e=d
       . subst he
         rw [ds] at hx
         rcases List.mem_append.mp hx with hx | hx
         . exact (es _).mpr (.inr (E.zgP e x hx))
         . rw [List.mem_singleton.mp hx,zcr]; exact (es _).mpr (.inl rfl)
       . rw [dn e he] at hx; exact (es _).mpr (.inr (E.zgP e x hx))
     . rw [zb7,hs]
       rcases zh4 h with h | h
       . rw [hbk] at h; exact (es _).mpr (.inr (E.zh3 k h))
       . rw [h,zcr]; exact (es _).mpr (.inl rfl)
   exact D _ q (Nat.le_succ _) E.dn
 unfold TH.wish
 dsimp only
 by_cases h1:look ((TH.see s a.key).held a.key) d=some a.wr\/look ((TH.see s a.key).held a.key) d=some true
 . rw [if_pos h1]
   exact main _ rfl rfl rfl rfl rfl λ k e w h=>.inl ⟨w,h⟩
 . rw [if_neg h1]
   have hw:∀ w',(d,w')∈(TH.see s a.key).held a.key->w'=false/\a.wr=true:=λ w' z=>by
     have q:=zcB (c1.hNd _) z
     cases hw':w' with
     | true=>exact absurd (.inr (hw' ▸ q)) h1
     | false =>
       cases ha:a.wr with
       | true=>exact ⟨rfl,rfl⟩
       | false=>exact absurd (.inl (by rw [ha,q,hw'])) h1
   by_cases h2:lets ((TH.see s a.key).held a.key) d a.wr=true/\(has ((TH.see s a.key).held a.key) d=true\/(TH.see s a.key).rows a.key=[])
   . rw [if_pos h2]
     exact main _ rfl rfl rfl rfl rfl λ k e w h=>zjC (s:=TH.see s a.key) h
   . rw [if_neg h2]
     refine Ext.settle ord (Ext.wait E1 hd (λ e=>?_) ?_) (c1.wait hd zcl hw)
     . have:=E.dn e
       show (s.deed e).done.length+(if (s.deed e).st=.waiting then 1 else 0)+1<=T+1
       omega
     . show s.log.length+zdA s+actN s+2<=2 * (T+1)
       have:=E.lg; omega
end
end TH
end
section
namespace TH
section
variable {K:Type} [DecidableEq K]
theorem zlv {α:Type} {p:α->Bool}:∀ {l:List α},l.takeWhile p=l↔∀ x∈l,p x=true
 | []=>by simp
 | a::r=>by
  rw [List.takeWhile_cons]
  cases h:p a with
  | true=>simp [zlv (l:=r),h]
  | false=>simp [h]
def hind (h:List (Nat×Bool)) (d:Nat) (w:Bool):List Nat:=(h.filter λ p=>p.1 != d && (w || p.2)).map (·.1)
def ahead (r:List (Nat×Bool)) (d:Nat):List (Nat×Bool):=r.takeWhile λ p=>p.1 != d
def zjy (h r:List (Nat×Bool)) (d:Nat) (w:Bool):List Nat:=match (ahead r d).getLast? with
 | some p=>[p.1]
 | none=>hind h d w
def nxt (s:HS K) (d:Nat):List Nat:=match (s.deed d).st,(s.deed d).wish with
 | .waiting,some a=>zjy (s.held a.key) (s.rows a.key) d a.wr
 | _,_=>[]
theorem zg1 {s:HS K} {d:Nat} {a:Act K} (h:(s.deed d).st=.waiting) (w:(s.deed d).wish=some a):zbO s d=(ahead (s.rows a.key) d).map (·.1)++hind (s.held a.key) d a.wr:=by
 unfold zbO; rw [h,w]; rfl
theorem zkR {s:HS K} {d:Nat} {a:Act K} (h:(s.deed d).st=.waiting) (w:(s.deed d).wish=some a):nxt s d=zjy (s.held a.key) (s.rows a.key) d a.wr:=by
 unfold nxt; rw [h,w]
theorem zo4 {s:HS K} {d:Nat} (h:(s.deed d).st≠.waiting):nxt s d=[]:=by
 unfold nxt; split
 . contradiction
 . rfl
inductive Path (R:Nat->Nat->Prop):Nat->Nat->Prop where
 | one {d e:Nat}:R d e->Path R d e
 | step {d e f:Nat}:R d e->Path R e f->Path R d f
theorem Path.trans {R:Nat->Nat->Prop} {d e f:Nat} (p:Path R d e) (q:Path R e f):Path R d f:=by
 induction p with
 | one h=>exact .step h q
 | step h _ ih=>exact .step h (ih q)
theorem Path.mono {R S:Nat->Nat->Prop} (h:∀ a b,R a b->S a b) {d e:Nat} (p:Path R d e):Path S d e:=by
 induction p with
 | one q=>exact .one (h _ _ q)
 | step q _ ih=>exact .step (h _ _ q) ih
theorem Path.last {R:Nat->Nat->Prop} {d e:Nat} (p:Path R d e):∃ c,R c e/\(c=d\/Path R d c):=by
 induction p with
 | one h=>exact ⟨_,h,.inl rfl⟩
 | step h _ ih =>
  obtain ⟨c,q,z⟩:=ih
  refine ⟨c,q,.inr ?_⟩
  rcases z with z | z
  . subst z; exact .one h
  . exact .step h z
theorem zbI {s:HS K} {d e:Nat}:Reach s d e↔Path (λ a b=>b∈zbO s a) d e :=
 ⟨λ r=>by induction r with
  | one h=>exact .one h
  | step h _ ih=>exact .step h ih,λ r=>by induction r with
  | one h=>exact .one h
  | step h _ ih=>exact .step h ih⟩
abbrev zda (s:HS K):Nat->Nat->Prop:=Path λ a b=>b∈nxt s a
theorem zkQ {s:HS K} {d e:Nat} (h:e∈nxt s d):e∈zbO s d:=by
 by_cases hw:(s.deed d).st=.waiting
 . cases ha:(s.deed d).wish with
   | none=>unfold nxt at h; rw [hw,ha] at h; cases h
   | some a =>
    rw [zkR hw ha] at h
    rw [zg1 hw ha]
    unfold zjy at h
    cases hl:(ahead (s.rows a.key) d).getLast? with
    | none=>rw [hl] at h; exact List.mem_append_right _ h
    | some p =>
     rw [hl] at h
     rw [List.mem_singleton.mp h]
     exact List.mem_append_left _ (List.mem_map.mpr ⟨p,List.mem_of_getLast? hl,rfl⟩)
 . rw [zo4 hw] at h; cases h
theorem zc9 {pre post:List (Nat×Bool)} {d:Nat} {w:Bool} (h:∀ p∈pre,p.1≠d):ahead (pre++(d,w)::post) d=pre:=by
 unfold ahead
 rw [List.takeWhile_append_of_pos (by intro p hp; simpa using h p hp)]
 simp
theorem zjh {r:List (Nat×Bool)} {d:Nat} {w:Bool} (nd:(r.map (·.1)).Nodup) (h:(d,w)∈r):∃ post,r=ahead r d++(d,w)::post/\∀ p∈ahead r d,p.1≠d:=by
 obtain ⟨pre,post,rfl⟩:=List.append_of_mem h
 have hp:∀ p∈pre,p.1≠d:=λ p hp z=>by
  rw [List.map_append,List.nodup_append] at nd
  exact nd.2.2 p.1 (List.mem_map.mpr ⟨p,hp,rfl⟩) d (by simp) z
 exact ⟨post,by rw [zc9 hp],by rw [zc9 hp]; exact hp⟩
theorem zhl {s:HS K} (c:Core s none) {k:K}:∀ (m:Nat) (pre post:List (Nat×Bool)) (d:Nat) (w:Bool),pre.length=m->s.rows k=pre++(d,w)::post->∀ p∈pre,zda s d p.1
 | 0,pre,post,d,w,hm,e,p,hp=>by
  have:pre=[]:=List.length_eq_zero_iff.mp hm
  subst this; cases hp
 | m+1,pre,post,d,w,hm,e,p,hp=>by
  have hne:pre≠[]:=by intro z; subst z; cases hm
  obtain ⟨init,⟨f,wf⟩,rfl⟩:∃ init l,pre=init++[l]:=⟨pre.dropLast,pre.getLast hne,(List.dropLast_concat_getLast hne).symm⟩
  have nd:=c.rNd k
  have hm':(d,w)∈s.rows k:=by rw [e]; simp
  obtain ⟨hst,a,ha,hk,hw⟩:=c.rAct k _ hm'
  obtain ⟨post',e',hall⟩:=zjh nd hm'
  have hpre:∀ p∈init++[(f,wf)],p.1≠d:=λ p hp z=>by
    rw [e,List.map_append,List.nodup_append] at nd
    exact nd.2.2 p.1 (List.mem_map.mpr ⟨p,hp,rfl⟩) d (by simp) z
  have ea:ahead (s.rows k) d=init++[(f,wf)]:=by rw [e]; exact zc9 hpre
  have h1:f∈nxt s d:=by
    rw [zkR hst ha,hk]; unfold zjy; rw [ea]; simp
  rcases List.mem_append.mp hp with hp | hp
  . exact .step h1 (zhl c m init ((d,w)::post) f wf (by simpa using hm) (by rw [e]; simp) p hp)
  . rw [List.mem_singleton.mp hp]; exact .one h1
theorem zgw {s:HS K} (c:Core s none) (hh:Head s) {d e:Nat} (h:e∈zbO s d):zda s d e:=by
 obtain ⟨a,hst,ha,_⟩:=zby.mp h
 rw [zg1 hst ha] at h
 obtain ⟨a',ha',hrow⟩:=c.wRow d (by simp) hst
 rw [ha] at ha'; cases ha'
 have hr:(d,a.wr)∈s.rows a.key:=hrow
 have nd:=c.rNd a.key
 obtain ⟨post,e1,hall⟩:=zjh nd hr
 rcases List.mem_append.mp h with h | h
 . obtain ⟨p,hp,rfl⟩:=List.mem_map.mp h
   exact zhl c _ _ post d a.wr rfl e1 p hp
 . cases hl:ahead (s.rows a.key) d with
   | nil =>
    refine .one ?_
    rw [zkR hst ha]; unfold zjy; rw [hl]; exact h
   | cons p r =>
    obtain ⟨f,wf⟩:=p
    have hf:zda s d f:=zhl c _ _ post d a.wr rfl e1 (f,wf) (by rw [hl]; exact List.mem_cons_self)
    by_cases hef:e=f
    . rw [hef]; exact hf
    ·
      rw [hl] at e1
      have hd0:=hh a.key f wf _ (by rw [e1]; rfl)
      unfold hind at h
      obtain ⟨⟨e',we⟩,hm,rfl⟩:=List.mem_map.mp h
      obtain ⟨hm1,hm2⟩:=List.mem_filter.mp hm
      have hfr:(f,wf)∈s.rows a.key:=by rw [e1]; simp
      obtain ⟨fst,af,haf,hkf,hwf⟩:=c.rAct a.key _ hfr
      have hnf:nxt s f=hind (s.held a.key) f wf:=by
       have q:=zkR fst haf
       rw [hkf] at q
       rw [q]
       unfold zjy
       have:ahead (s.rows a.key) f=[]:=by rw [e1]; exact zc9 (pre:=[]) (by simp)
       rw [this]
       show hind (s.held a.key) f af.wr=_
       rw [hwf]
      refine hf.trans (.one ?_)
      rw [hnf]
      unfold hind
      refine List.mem_map.mpr ⟨(e',we),List.mem_filter.mpr ⟨hm1,?_⟩,rfl⟩
      have hne:((e' != f))=true:=by simpa using hef
      simp only [hne,Bool.true_and]
      cases hwf':wf with
      | true=>rfl
      | false =>
       rw [hwf'] at hd0
       have hx:∃ p∈s.held a.key,p.1≠f/\p.2=true:=by
        unfold lets at hd0
        obtain ⟨p,hp,q⟩:=List.all_eq_false.mp hd0
        refine ⟨p,hp,?_⟩
        cases hp2:p.2 with
        | false=>simp [hp2] at q
        | true=>simp [hp2] at q; exact ⟨q,rfl⟩
       obtain ⟨⟨x,wx⟩,hx1,_,hx2⟩:=hx
       have hx2':wx=true:=hx2
       subst hx2'
       have q:=c.hEx a.key x hx1 (e',we) hm1
       have q':e'=x:=q
       subst q'
       have n1:=zcB (c.hNd a.key) hm1
       have n2:=zcB (c.hNd a.key) hx1
       rw [n1] at n2; cases n2; rfl
theorem zdt {s:HS K} (c:Core s none) (hh:Head s) {d e:Nat}:zda s d e↔Reach s d e:=by
 rw [zbI]
 refine ⟨λ p=>p.mono λ a b h=>zkQ h,λ p=>?_⟩
 induction p with
 | one h=>exact zgw c hh h
 | step h _ ih=>exact (zgw c hh h).trans ih
def Thru (s:HS K) (d:Nat):Prop:=∀ x,¬ Path (λ a b=>b∈zbO s a/\a≠d/\b≠d) x x
theorem Thru.mono {s t:HS K} {d:Nat} (h:Thru s d) (m:∀ e x,x∈zbO t e->x∈zbO s e):Thru t d:=λ x p=>h x (p.mono λ a b q=>⟨m _ _ q.1,q.2⟩)
theorem zrM {R:Nat->Nat->Prop} {d x y:Nat} (p:Path R x y):(x=d\/y=d)\/(Path R x d/\Path R d y)\/Path (λ a b=>R a b/\a≠d/\b≠d) x y:=by
 induction p with
 | @one x y h =>
  by_cases h1:x=d
  . exact .inl (.inl h1)
  . by_cases h2:y=d
    . exact .inl (.inr h2)
    . exact .inr (.inr (.one ⟨h,h1,h2⟩))
 | @step x e y h q ih =>
  by_cases h1:x=d
  . exact .inl (.inl h1)
  . rcases ih with (z | z) | ⟨z1,z2⟩ | z
    . subst z; exact .inr (.inl ⟨.one h,q⟩)
    . exact .inl (.inr z)
    . exact .inr (.inl ⟨.step h z1,z2⟩)
    . by_cases h2:e=d
      . subst h2; exact .inr (.inl ⟨.one h,q⟩)
      . exact .inr (.inr (.step ⟨h,h1,h2⟩ z))
theorem Thru.ring {s:HS K} {d:Nat} (h:Thru s d) {x:Nat} (r:Reach s x x):Reach s x d/\Reach s d x:=by
 rw [zbI] at r
 rcases zrM (d:=d) r with (z | z) | ⟨z1,z2⟩ | z
 . subst z; exact ⟨zbI.mpr r,zbI.mpr r⟩
 . subst z; exact ⟨zbI.mpr r,zbI.mpr r⟩
 . exact ⟨zbI.mpr z1,zbI.mpr z2⟩
 . exact absurd z (h x)
theorem Thru.wait {s:HS K} {d:Nat} {a:Act K} (ac:Acyc s):Thru (TH.wait s d a) d:=by
 intro x p
 refine ac x (zbI.mpr (p.mono λ e y h=>?_))
 obtain ⟨h,he,hy⟩:=h
 obtain ⟨b,hst,hb,_⟩:=zby.mp h
 rw [zg1 hst hb] at h
 have de:(TH.wait s d a).deed e=s.deed e:=zan he
 rw [de] at hst hb
 rw [zg1 hst hb]
 rcases List.mem_append.mp h with h | h
 . refine List.mem_append_left _ ?_
   by_cases hk:b.key=a.key
   . have er:(TH.wait s d a).rows b.key=if has (s.held a.key) d then (d,a.wr)::s.rows a.key else s.rows a.key++[(d,a.wr)]:=by
       show up s.rows a.key _ b.key=_
       rw [hk,zah]
     rw [er] at h
     rw [hk]
     obtain ⟨q,hq,rfl⟩:=List.mem_map.mp h
     refine List.mem_map.mpr ⟨q,?_,rfl⟩
     unfold ahead at hq ⊢
     split at hq
     . rw [List.takeWhile_cons] at hq
       split at hq
       . rcases List.mem_cons.mp hq with z | z
         . subst z; exact absurd rfl hy
         . exact z
       . cases hq
     . by_cases hall:∀ q∈s.rows a.key,(q.1 != e)=true
       . rw [List.takeWhile_append_of_pos hall] at hq
         rw [zlv.mpr hall]
         rcases List.mem_append.mp hq with z | z
         . exact z
         . rw [List.takeWhile_cons] at z
           split at z
           . simp at z; subst z; exact absurd rfl hy
           . cases z
       . have:(s.rows a.key++[(d,a.wr)]).takeWhile (λ p=>p.1 != e)=(s.rows a.key).takeWhile λ p=>p.1 != e:=by
           rw [List.takeWhile_append]
           rw [if_neg]
           intro z
           apply hall
           have:(s.rows a.key).takeWhile (λ p=>p.1 != e)=s.rows a.key:=(List.takeWhile_sublist _).eq_of_length z
           exact zlv.mp this
         rw [this] at hq; exact hq
   . have er:(TH.wait s d a).rows b.key=s.rows b.key:=zan hk
     rw [er] at h; exact h
 . exact List.mem_append_right _ h
theorem znw (ord:List K->List K) {s:HS K} {g:Nat} (c:Core s none) (hg:(s.deed g).act):∀ e x,x∈zbO (TH.drop ord s g) e->x∈zbO s e:=λ e x h =>
 zeZ (t:=.dropped) (d:=g) (s:=s) (bk:=λ k=>if (zaO (s.deed g).done k).isSome then zav s k else s.book k) (kp:=s.kept) (lg:=s.log++[.drop g]) (by decide) e x (zec (c.drops hg) e x h)
theorem zjm {s:HS K} {d:Nat} (c:Core s none) (th:Thru s d) :
   ((¬ Reach s d d)->(rings s).getLast?=none)/\∀ g,Reach s d g->Reach s g d->(∀ x,Reach s d x->Reach s x d->x<=g)->(rings s).getLast?=some g:=by
 have mem:∀ x,x∈rings s↔Reach s x x:=λ x=>by
   refine ⟨λ h=>(zbP h).2,λ h=>?_⟩
   unfold rings
   refine List.mem_filter.mpr ⟨List.mem_range.mpr (c.lt (.inr (zaQ h))),by simpa using h⟩
 refine ⟨λ h=>?_,λ g h1 h2 h3=>?_⟩
 . cases e:(rings s).getLast? with
   | none=>rfl
   | some x =>
    have:=th.ring ((mem x).mp (List.mem_of_getLast? e))
    exact absurd (this.2.trans this.1) h
 . have hg:g∈rings s:=(mem g).mpr (h2.trans h1)
   cases e:(rings s).getLast? with
   | none=>rw [List.getLast?_eq_none_iff] at e; rw [e] at hg; cases hg
   | some x =>
    have hx:=(mem x).mp (List.mem_of_getLast? e)
    have hx2:=th.ring hx
    have le:=h3 x hx2.2 hx2.1
    have sorted:(rings s).Pairwise (· < ·):=List.Pairwise.filter _ List.pairwise_lt_range
    obtain ⟨init,hi⟩:∃ init,rings s=init++[x]:=by
      have hne:rings s≠[]:=by intro z; rw [z] at hg; cases hg
      refine ⟨(rings s).dropLast,?_⟩
      have:=List.dropLast_concat_getLast hne
      rw [List.getLast?_eq_some_getLast hne] at e
      cases e
      exact this.symm
    rw [hi] at hg sorted
    rcases List.mem_append.mp hg with q | q
    . have:=(List.pairwise_append.mp sorted).2.2 g q x (by simp)
      omega
    . rw [List.mem_singleton.mp q]
theorem zlF (ord:List K->List K) {s:HS K} {f:Nat} (h:(rings s).getLast?=none):TH.settle ord f s=s:=by
 cases f with
 | zero=>rfl
 | succ f=>unfold TH.settle; rw [h]
theorem zlE (ord:List K->List K) {s:HS K} {f g:Nat} (h:(rings s).getLast?=some g):TH.settle ord (f+1) s=TH.settle ord f (TH.drop ord s g):=by
 conv=>lhs; unfold TH.settle
 rw [h]
def touched (s:HS K) (d:Nat):List K:=(s.deed d).done.map (·.key)++(match (s.deed d).st,(s.deed d).wish with | .waiting,some a=>[a.key] | _,_=>[])
theorem zfp {M:List K}:∀ (ks:List K) (s:HS K),Core s none->(∀ k∈ks,k∉M->znr s k)->zaK s ks=zaK s (ks.filter λ k=>decide (k∈M))
 | [],s,c,h=>rfl
 | k::r,s,c,h=>by
  by_cases hk:k∈M
  . rw [List.filter_cons_of_pos (by simpa using hk)]
    unfold zaK
    refine zfp r _ c.zbz λ k' hk' hn=>?_
    have hne:k'≠k:=λ z=>hn (by rw [z]; exact hk)
    obtain ⟨e1,e2⟩:=zhT hne (s.rows k).length s c
    intro d w r' e
    rw [e1] at e; rw [e2]
    exact h k' (List.mem_cons_of_mem _ hk') hn d w r' e
  . rw [List.filter_cons_of_neg (by simpa using hk)]
    have:zbz (s.rows k).length s k=s:=by
     cases hr:s.rows k with
     | nil=>exact zfM hr
     | cons p r' =>
      obtain ⟨d,w⟩:=p
      exact zeH hr (h k List.mem_cons_self hk d w r' hr)
    show zaK (zbz (s.rows k).length s k) r=_
    rw [this]
    exact zfp r s c λ k' hk'=>h k' (List.mem_cons_of_mem _ hk')
theorem zhB {s:HS K} {T:Nat} {d:Nat} {k:K} (c:Core s none) (E:Ext s T) (h:k∉touched s d):less (s.held k) d=s.held k/\less (s.rows k) d=s.rows k:=by
 have hh:∀ p∈s.held k,p.1≠d:=λ p hp z=>by
  obtain ⟨e,w⟩:=p
  have z':e=d:=z
  subst z'
  obtain ⟨a,ha,hk⟩:=E.own k e w hp
  exact h (List.mem_append_left _ (List.mem_map.mpr ⟨a,ha,hk⟩))
 have hr:∀ p∈s.rows k,p.1≠d:=λ p hp z=>by
  obtain ⟨e,w⟩:=p
  have z':e=d:=z
  subst z'
  obtain ⟨hst,a,ha,hk,_⟩:=c.rAct k _ hp
  refine h (List.mem_append_right _ ?_)
  have hst':(s.deed e).st=.waiting:=hst
  have ha':(s.deed e).wish=some a:=ha
  rw [hst',ha']
  simpa using hk.symm
 unfold less
 exact ⟨List.filter_eq_self.mpr λ p hp=>by simpa using hh p hp,List.filter_eq_self.mpr λ p hp=>by simpa using hr p hp⟩
theorem zeb {s:HS K} {T:Nat} {d:Nat} (c:Core s none) (E:Ext s T):∀ k∈touched s d,k∈s.seen:=λ k h=>by
 rcases List.mem_append.mp h with h | h
 . obtain ⟨a,ha,rfl⟩:=List.mem_map.mp h
   exact E.zgP d a ha
 . split at h
   . rename_i a hst ha
     rw [List.mem_singleton.mp h]
     obtain ⟨a',ha',hr⟩:=c.wRow d (by simp) hst
     rw [ha] at ha'; cases ha'
     exact zcH c hr
   . cases h
variable (ord:List K->List K) (hord:∀ l k,k∈ord l↔k∈l) (hsub:∀ l m:List K,(∀ x∈m,x∈l)->ord m=(ord l).filter λ k=>decide (k∈m))
include hsub
theorem zk9 {s t:HS K} {T:Nat} {d:Nat} (c:Core s none) (E:Ext s T) (hh:Head s) (c1:Core (letGo t d) none) (h1:t.held=s.held) (h2:t.rows=s.rows) (h3:t.seen=s.seen) :
  free ord t d=zaK (letGo t d) (ord (touched s d)):=by
 unfold free
 rw [h3,hsub s.seen (touched s d) (zeb c E)]
 refine zfp _ _ c1 λ k hk hn=>?_
 obtain ⟨e1,e2⟩:=zhB c E hn
 intro e w r q
 have q':less (t.rows k) d=(e,w)::r:=q
 show lets (less (t.held k) d) e w=false
 rw [h2,e2] at q'
 rw [h1,e1]
 exact hh k e w r q'
omit hsub
def zes (s:HS K) (d:Nat) (k:K):HS K:={ s with held:=up s.held k (less (s.held k) d),rows:=up s.rows k (less (s.rows k) d) }
theorem zk0 (l:List (Nat×Bool)) (d:Nat):less (less l d) d=less l d:=by unfold less; rw [List.filter_filter]; simp
theorem zfJ (d:Nat):∀ (ks:List K) (s:HS K),(ks.foldl (λ s k=>zes s d k) s).held=(λ k=>if k∈ks then less (s.held k) d else s.held k)/\(ks.foldl (λ s k=>zes s d k) s).rows=(λ k=>if k∈ks then less (s.rows k) d else s.rows k)
 | [],s=>by simp
 | k::r,s=>by
  obtain ⟨h1,h2⟩:=zfJ d r (zes s d k)
  rw [List.foldl_cons,h1,h2]
  refine ⟨funext λ k'=>?_,funext λ k'=>?_⟩
  . show (if k'∈r then less (up s.held k _ k') d else up s.held k _ k')=_
    by_cases hk:k'=k
    . subst hk; rw [zah,zk0]; simp
    . rw [zan hk]; simp [hk]
  . show (if k'∈r then less (up s.rows k _ k') d else up s.rows k _ k')=_
    by_cases hk:k'=k
    . subst hk; rw [zah,zk0]; simp
    . rw [zan hk]; simp [hk]
theorem zfo (d:Nat):∀ (ks:List K) (s:HS K),(ks.foldl (λ s k=>zes s d k) s)={ s with held:=(ks.foldl (λ s k=>zes s d k) s).held,rows:=(ks.foldl (λ s k=>zes s d k) s).rows }
 | [],s=>rfl
 | k::r,s=>by rw [List.foldl_cons]; exact zfo d r (zes s d k)
theorem zk2 {s:HS K} {d:Nat} {ks:List K} (h:∀ k,k∉ks->less (s.held k) d=s.held k/\less (s.rows k) d=s.rows k):ks.foldl (λ s k=>zes s d k) s=letGo s d:=by
 rw [zfo,(zfJ d ks s).1,(zfJ d ks s).2]
 unfold letGo
 congr 1
 . funext k; split
   . rfl
   . rename_i hk; exact (h k hk).1.symm
 . funext k; split
   . rfl
   . rename_i hk; exact (h k hk).2.symm
def take1 (h:List (Nat×Bool)) (d:Nat) (w:Bool):List (Nat×Bool):=if look h d=some true then h else zbi h d w
def zkd (s:HS K) (d:Nat) (k:K) (w:Bool):HS K:={ s with held:=up s.held k (take1 (s.held k) d w) }
theorem zri {α β:Type} [DecidableEq α] (f:α->β) (a:α):up f a (f a)=f:=by
 funext x; by_cases h:x=a
 . subst h; exact zah
 . exact zan h
theorem zjG {h:List (Nat×Bool)} {d:Nat} {w:Bool} (e:look h d=some w):has h d=true:=zh9.mpr ⟨w,zcJ e⟩
theorem zko {h:List (Nat×Bool)} {d:Nat} {w:Bool} (nd:(h.map (·.1)).Nodup) (e:look h d=some w):zbi h d w=h:=by
 unfold zbi
 have hh:h.any (λ p=>p.1 == d)=true:=zjG e
 rw [if_pos hh]
 have:∀ p∈h,(if p.1 == d then (d,w) else p)=p:=λ p hp=>by
  obtain ⟨x,wx⟩:=p
  by_cases hx:x=d
  . subst hx
    have:=zcB nd hp
    rw [e] at this; cases this; simp
  . simp [hx]
 rw [List.map_congr_left this]; simp
theorem zg7 {s:HS K} {d:Nat} {a:Act K} (c:Core s none):wish ord s d a =
   if (has ((see s a.key).held a.key) d || ((see s a.key).rows a.key).isEmpty) && lets ((see s a.key).held a.key) d a.wr then doIt (zkd (see s a.key) d a.key a.wr) d a else settle ord s.n (wait (see s a.key) d a):=by
 have c1:Core (see s a.key) none:=c.see
 have nd:=c1.hNd a.key
 unfold wish
 dsimp only
 by_cases h1:look ((see s a.key).held a.key) d=some a.wr\/look ((see s a.key).held a.key) d=some true
 . rw [if_pos h1]
   have hl:lets ((see s a.key).held a.key) d a.wr=true:=by
     unfold lets
     rw [List.all_eq_true]
     intro p hp
     obtain ⟨x,wx⟩:=p
     by_cases hx:x=d
     . simp [hx]
     . have two:∀ y,(y,true)∈(see s a.key).held a.key->(∃ w,(d,w)∈(see s a.key).held a.key)->y=d:=λ y hy ⟨w,hw⟩=>(c1.hEx a.key y hy _ hw).symm
       rcases h1 with h1 | h1
       . have m:=zcJ h1
         cases hw:a.wr with
         | true=>rw [hw] at m; exact absurd (c1.hEx a.key d m _ hp) hx
         | false =>
          cases hwx:wx with
          | true=>subst hwx; exact absurd (two x hp ⟨_,m⟩) hx
          | false=>simp
       . have m:=zcJ h1
         exact absurd (c1.hEx a.key d m _ hp) hx
   have hhas:has ((see s a.key).held a.key) d=true:=by rcases h1 with h1 | h1 <;> exact zjG h1
   rw [hl,hhas]
   simp only [Bool.true_or,Bool.and_self,if_true]
   have:zkd (see s a.key) d a.key a.wr=see s a.key:=by
     unfold zkd
     have:take1 ((see s a.key).held a.key) d a.wr=(see s a.key).held a.key:=by
       unfold take1
       by_cases h2:look ((see s a.key).held a.key) d=some true
       . rw [if_pos h2]
       . rw [if_neg h2]
         exact zko nd (h1.resolve_right h2)
     rw [this,zri]
   rw [this]
 . rw [if_neg h1]
   have h2:look ((see s a.key).held a.key) d≠some true:=λ z=>h1 (.inr z)
   have et:zkd (see s a.key) d a.key a.wr=take (see s a.key) d a.key a.wr:=by
     unfold zkd take take1; rw [if_neg h2]
   rw [et]
   by_cases h3:lets ((see s a.key).held a.key) d a.wr=true/\(has ((see s a.key).held a.key) d=true\/(see s a.key).rows a.key=[])
   . rw [if_pos h3,if_pos]
     obtain ⟨h4,h5⟩:=h3
     rw [h4]
     rcases h5 with h5 | h5
     . rw [h5]; rfl
     . rw [h5]; simp
   . rw [if_neg h3,if_neg]
     . rfl
     . intro z
       apply h3
       rw [Bool.and_eq_true,Bool.or_eq_true] at z
       exact ⟨z.2,z.1.imp id λ q=>List.isEmpty_iff.mp q⟩
theorem zn1 {s:HS K} {k:K} {d:Nat} {w:Bool} {r:List (Nat×Bool)} (c:Core s none) (hr:s.rows k=(d,w)::r):take { s with rows:=up s.rows k r } d k w=zkd { s with rows:=up s.rows k r } d k w:=by
 unfold take zkd take1
 rw [if_neg]
 intro z
 have:=c.zfB k d w true (by rw [hr]; exact List.mem_cons_self) (zcJ z)
 cases this.1
end
end TH
end
section
namespace S6
open PySem
def Rise (xs:Array Nat):Prop:=xs.toList.Pairwise (· < ·)
theorem Rise.lt {xs:Array Nat} (h:Rise xs) {i j:Nat} (hij:i < j) (hj:j < xs.size):xs[i] < xs[j]:=by
 have:=List.pairwise_iff_getElem.mp h i j (by simpa using Nat.lt_trans hij hj) (by simpa using hj) hij
 simpa using this
theorem Rise.small {xs:Array Nat} (h:xs.size<=1):Rise xs:=by
 refine List.pairwise_iff_getElem.mpr λ i j hi hj hij=>?_
 have:xs.toList.length<=1:=by simpa using h
 omega
theorem zl9 {xs:Array Nat} (h:Rise xs) (j:Nat):∀ (fuel lo hi:Nat),hi - lo<=fuel->lo<=hi->hi<=xs.size->(∀ i (hx:i < xs.size),i < lo->xs[i] < j)->(∀ i (hx:i < xs.size),hi<=i->j<=xs[i]) ->
  SetTable.below.go xs j fuel lo hi<=xs.size/\(∀ i (hx:i < xs.size),i < SetTable.below.go xs j fuel lo hi->xs[i] < j)/\∀ i (hx:i < xs.size),SetTable.below.go xs j fuel lo hi<=i->j<=xs[i]
 | 0,lo,hi,hf,hl,hh,h1,h2=>by
  have:lo=hi:=by omega
  subst this
  unfold SetTable.below.go
  exact ⟨hh,h1,h2⟩
 | fuel+1,lo,hi,hf,hl,hh,h1,h2=>by
  unfold SetTable.below.go
  by_cases z:lo < hi
  . rw [if_pos z]
    dsimp only
    have hm:(lo+hi) / 2 < hi:=by omega
    have hm':lo<=(lo+hi) / 2:=by omega
    have hms:(lo+hi) / 2 < xs.size:=by omega
    have e:xs.getD ((lo+hi) / 2) j=xs[(lo+hi) / 2]:=by simp [Array.getD,hms]
    rw [e]
    by_cases y:xs[(lo+hi) / 2] < j
    . rw [if_pos y]
      refine zl9 h j fuel ((lo+hi) / 2+1) hi (by omega) (by omega) hh (λ i hi' hlt=>?_) h2
      rcases Nat.lt_or_ge i ((lo+hi) / 2) with q | q
      . exact Nat.lt_trans (h.lt q hms) y
      . have:i=(lo+hi) / 2:=by omega
        subst this; exact y
    . rw [if_neg y]
      refine zl9 h j fuel lo ((lo+hi) / 2) (by omega) hm' (by omega) h1 λ i hx hge=>?_
      rcases Nat.lt_or_ge ((lo+hi) / 2) i with q | q
      . exact Nat.le_trans (Nat.le_of_not_lt y) (Nat.le_of_lt (h.lt q hx))
      . have:i=(lo+hi) / 2:=by omega
        subst this; exact Nat.le_of_not_lt y
  . rw [if_neg z]
    have:lo=hi:=by omega
    subst this
    exact ⟨hh,h1,h2⟩
theorem zi8 {xs:Array Nat} (h:Rise xs) (j:Nat):SetTable.below xs j<=xs.size/\(∀ i (hi:i < xs.size),i < SetTable.below xs j->xs[i] < j)/\∀ i (hx:i < xs.size),SetTable.below xs j<=i->j<=xs[i] :=
 zl9 h j xs.size 0 xs.size (by omega) (Nat.zero_le _) (Nat.le_refl _) (λ i _ z=>absurd z (Nat.not_lt_zero _)) λ i hx z=>by omega
def slotAt (xs:Array Nat) (i:Nat):Nat:=if i=0 then 0 else xs.getD (i - 1) 0+1
theorem below_at {xs:Array Nat} (h:Rise xs) {i:Nat} (hi:i<=xs.size):SetTable.below xs (slotAt xs i)=i:=by
 obtain ⟨h0,h1,h2⟩:=zi8 h (slotAt xs i)
 generalize hr:SetTable.below xs (slotAt xs i)=r at *
 by_cases z:i=0
 . subst z
   rcases Nat.eq_zero_or_pos r with q | q
   . exact q
   . have:=h1 0 (by omega) q
     unfold slotAt at this
     simp at this
 . have e:slotAt xs i=xs[i - 1]'(by omega)+1:=by unfold slotAt; rw [if_neg z]; simp [Array.getD,show i - 1 < xs.size by omega]
   rw [e] at h1 h2
   rcases Nat.lt_trichotomy r i with q | q | q
   . have:=h2 (i - 1) (by omega) (by omega)
     omega
   . exact q
   . have:=h1 i (by omega) q
     have:=h.lt (i:=i - 1) (j:=i) (by omega) (by omega)
     omega
theorem zlL {xs:Array Nat} (h:Rise xs) {j:Nat} (hn:xs[SetTable.below xs j]?≠some j):Rise (SetTable.insertAt xs (SetTable.below xs j) j):=by
 obtain ⟨h0,h1,h2⟩:=zi8 h j
 unfold Rise SetTable.insertAt
 generalize SetTable.below xs j=r at *
 have e:((xs.extract 0 r).push j++xs.extract r xs.size).toList=xs.toList.take r++j::xs.toList.drop r:=by
   simp [List.extract_eq_take_drop]
   exact List.take_of_length_le (by simp)
 rw [e]
 have gt:∀ i (hx:i < xs.size),r<=i->j < xs[i]:=λ i hx hr=>by
   have hr':r < xs.size:=by omega
   have h3:=h2 r hr' (Nat.le_refl _)
   have h4:xs[r]≠j:=λ z=>hn (by rw [Array.getElem?_eq_getElem hr',z])
   rcases Nat.lt_or_ge r i with q | q
   . have:=h.lt q hx; omega
   . have:i=r:=by omega
     subst this; omega
 refine List.pairwise_append.mpr ⟨List.Pairwise.sublist (List.take_sublist _ _) h,List.pairwise_cons.mpr ⟨λ b hb=>?_,List.Pairwise.sublist (List.drop_sublist _ _) h⟩,λ a ha b hb=>?_⟩
 . obtain ⟨i,hi⟩:=List.getElem?_of_mem hb
   rw [List.getElem?_drop] at hi
   obtain ⟨hl,e1⟩:=List.getElem?_eq_some_iff.mp hi
   have:=gt (r+i) (by simpa using hl) (by omega)
   simp at e1
   omega
 . obtain ⟨i,hi⟩:=List.getElem?_of_mem ha
   have hir:i < r:=by
     have:=(List.getElem?_eq_some_iff.mp hi).1
     rw [List.length_take] at this
     omega
   rw [List.getElem?_take_of_lt hir] at hi
   obtain ⟨hl,e1⟩:=List.getElem?_eq_some_iff.mp hi
   have ha':a < j:=by
     have:=h1 i (by simpa using hl) hir
     simp at e1
     omega
   rcases List.mem_cons.mp hb with q | q
   . omega
   . obtain ⟨i2,hi2⟩:=List.getElem?_of_mem q
     rw [List.getElem?_drop] at hi2
     obtain ⟨hl2,e2⟩:=List.getElem?_eq_some_iff.mp hi2
     have:=gt (r+i2) (by simpa using hl2) (by omega)
     simp at e2
     omega
def zgs (t:SetTable) (j:Nat):Prop:=t.place[SetTable.below t.place j]?≠some j
theorem znI {t:SetTable} {j:Nat} (h:t.slot j=.empty):zgs t j:=λ z=>by
 unfold SetTable.slot at h
 simp only [z,beq_self_eq_true,if_true] at h
 cases h
theorem znJ {t:SetTable} {j:Nat} (h:t.slot j=.dummy):zgs t j:=λ z=>by
 unfold SetTable.slot at h
 simp only [z,beq_self_eq_true,if_true] at h
 cases h
theorem zjo {t:SetTable} {f:Nat->Int} {h:Int}:∀ (fuel:Nat) (p:SetTable.Probe) {j:Nat} {d:Option Nat},(∀ q,p.dummy=some q->zgs t q)->SetTable.probe.go t f h fuel p=some (.empty j d)->zgs t j/\∀ q,d=some q->zgs t q
 | 0,p,j,d,_,e=>by unfold SetTable.probe.go at e; cases e
 | fuel+1,p,j,d,hp,e=>by
  have adv:∀ p:SetTable.Probe,(t.advance p).dummy=p.dummy:=λ p=>by
    unfold SetTable.advance
    split <;> rfl
  unfold SetTable.probe.go at e
  split at e
  . rename_i hs
    cases e
    exact ⟨znI hs,hp⟩
  . rename_i hs
    refine zjo fuel _ (λ q hq=>?_) e
    rw [adv] at hq
    cases hq
    exact znJ hs
  . split at e
    . cases e
    . exact zjo fuel _ (λ q hq=>by rw [adv] at hq; exact hp q hq) e
theorem zr1 {t:SetTable} {h:Int} {j:Nat} {b:Bool} (e:t.freeSlot h=some (j,b)):zgs t j:=by
 unfold SetTable.freeSlot at e
 split at e
 . rename_i j' d hq
   obtain ⟨h1,h2⟩:=zjo _ _ (λ q hq=>by cases hq) hq
   cases e
   cases d with
   | none=>exact h1
   | some q=>exact h2 q rfl
 . cases e
def Ri (t:SetTable):Prop:=t.plain=true->Rise t.place
theorem ztF {t:SetTable} (n:Nat) (h:Ri t):Ri (t.orStandIn n):=by
 unfold SetTable.orStandIn
 split
 . exact h
 . intro z; cases z
theorem zs0 {t:SetTable} (es:Array (Int×Value)) (h:Int) (x:Value) (r:Ri t):Ri (layNew t es h x).2.1:=by
 unfold layNew
 split
 . rename_i slot wd e
   dsimp only
   refine ztF _ λ z=>?_
   exact zlL (r z) (zr1 e)
 . intro z; cases z
theorem zoP {t t':SetTable} {hs:Array Int} {n:Nat} {order:Array Nat} (e:t.relaid hs n=some (t',order)):Rise t'.place:=by
 unfold SetTable.relaid SetTable.laid at e
 cases hl:SetTable.layClean (SetTable.sizeAbove n - 1) hs with
 | none=>rw [hl] at e; cases e
 | some ow =>
  rw [hl] at e
  cases e
  show List.Pairwise _ _
  rw [List.toList_toArray,List.pairwise_map]
  refine List.Pairwise.filterMap (R:=(· < ·)) _ (λ a b hab x hx y hy=>?_) List.pairwise_lt_range
  obtain ⟨_,_,rfl⟩:=Option.map_eq_some_iff.mp hx
  obtain ⟨_,_,rfl⟩:=Option.map_eq_some_iff.mp hy
  exact hab
theorem zqd {t:SetTable} (es:Array (Int×Value)) (n:Nat):Ri (relayAll t es n).2.1:=by
 unfold relayAll
 split
 . rename_i t' order e
   dsimp only
   split
   . exact λ _=>zoP e
   . intro z; cases z
 . intro z; cases z
end S6
end
section
namespace S6
open PySem
section
variable {prog:Program} {w:World} {A:Around} {E:Value->Shared->Prop}
theorem zgn {α:Type}:∀ {l:List α} {k:Nat} (h:k < l.length),(l[k]::l.eraseIdx k).Perm l
 | a::r,0,h=>by simp
 | a::r,k+1,h=>by
  have:=zgn (l:=r) (k:=k) (by simpa using h)
  simp only [List.getElem_cons_succ,List.eraseIdx_cons_succ]
  exact (List.Perm.swap _ _ _).trans (this.cons a)
theorem zre {src:Source} {n:Nat} {Q:Nat->Shared->Prop} {s:Shared} (hn:n≠0) (h:∀ k d,k < n->Q k { s with drawn:=d }):wpAny (model prog w) A (choose src n) Q E s:=λ Γ p _ =>
 ⟨hn,h _ _ (Nat.mod_lt _ (Nat.pos_of_ne_zero hn))⟩
theorem zmM {α:Type}:∀ (n:Nat) (xs:List α) (s:Shared) (Q:List α->Shared->Prop),xs.length=n->(∀ ys d,ys.Perm xs->Q ys { s with drawn:=d })->wpAny (model prog w) A (drawOrder n xs) Q E s
 | 0,xs,s,Q,hl,h=>by
  have:xs=[]:=List.length_eq_zero_iff.mp hl
  subst this
  exact wpAny_pure (h [] s.drawn .nil)
 | n+1,[],s,Q,hl,h=>by cases hl
 | n+1,x::r,s,Q,hl,h=>by
  unfold drawOrder
  refine wpAny_bind (zre (by simp) λ k d hk=>?_)
  obtain ⟨y,hy⟩:∃ y,(x::r)[k]?=some y:=⟨_,List.getElem?_eq_getElem hk⟩
  rw [hy]
  dsimp only
  refine wpAny_bind (zmM n ((x::r).eraseIdx k) _ _ ?_ λ ys d' hp=>wpAny_pure ?_)
  . rw [List.length_eraseIdx,if_pos hk]; omega
  . refine h (y::ys) d' ?_
    obtain ⟨hk',rfl⟩:=List.getElem?_eq_some_iff.mp hy
    exact (hp.cons _).trans (zgn hk')
theorem ziL {α:Type} (next:Nat->Nat):∀ (n k:Nat) (l:List α) (out:Array α),l.length=n->(pickOrder.go next n k l out).toList.Perm (out.toList++l)
 | 0,k,l,out,hl=>by
  have:l=[]:=List.length_eq_zero_iff.mp hl
  subst this
  unfold pickOrder.go; simp
 | n+1,k,l,out,hl=>by
  unfold pickOrder.go
  have hk:next k % l.length < l.length:=Nat.mod_lt _ (by omega)
  rw [List.getElem?_eq_getElem hk]
  dsimp only
  refine (ziL next n (k+1) _ _ (by rw [List.length_eraseIdx,if_pos hk]; omega)).trans ?_
  rw [Array.toList_push,List.append_assoc]
  exact List.Perm.append_left _ (zgn hk)
theorem zqh {α:Type} (next:Nat->Nat) (xs:Array α):(pickOrder next xs).toList.Perm xs.toList:=by
 unfold pickOrder
 have:=ziL next xs.size 0 xs.toList #[] (by simp)
 simpa using this
theorem zhs {α β:Type} {F:α->β->Prop} {l l':List α} (p:l'.Perm l):∀ {m:List β},Paired F l m->∃ m',m'.Perm m/\Paired F l' m':=by
 induction p with
 | nil=>intro m h; exact ⟨m,.refl _,h⟩
 | cons x _ ih =>
  intro m h
  cases h with
  | cons r t =>
   obtain ⟨m',p',h'⟩:=ih t
   exact ⟨_::m',p'.cons _,.cons r h'⟩
 | swap x y l =>
  intro m h
  cases h with
  | cons r t=>cases t with
   | cons r' t'=>exact ⟨_,.swap _ _ _,.cons r' (.cons r t')⟩
 | trans _ _ ih1 ih2 =>
  intro m h
  obtain ⟨m1,p1,h1⟩:=ih2 h
  obtain ⟨m2,p2,h2⟩:=ih1 h1
  exact ⟨m2,p2.trans p1,h2⟩
theorem zco {α β:Type} {F:α->β->Prop}:∀ {l:List α} {m:List β} {a:α} {b:β},Paired F l m->F a b->Paired F (l++[a]) (m++[b])
 | _,_,_,_,.nil,h=>.cons h .nil
 | _,_,_,_,.cons r t,h=>.cons r (zco t h)
theorem zg3 {α β:Type} {F:α->β->Prop}:∀ {l:List α} {m:List β} {i:Nat} {a:α},Paired F l m->l[i]?=some a->∃ b,m[i]?=some b/\F a b
 | _,_,_,_,.nil,h=>by simp at h
 | _,_,0,_,.cons r _,h=>by simp at h; subst h; exact ⟨_,rfl,r⟩
 | _,_,i+1,_,.cons _ t,h=>by
  obtain ⟨b,h1,h2⟩:=zg3 (i:=i) t (by simpa using h)
  exact ⟨b,by simpa using h1,h2⟩
theorem zm2 {α β:Type} {F:α->β->Prop} {l:List α} {m:List β} (h:Paired F l m) {a:α} (ha:a∈l):∃ b∈m,F a b:=by
 obtain ⟨i,hi⟩:=List.mem_iff_getElem?.mp ha
 obtain ⟨b,h1,h2⟩:=zg3 h hi
 exact ⟨b,List.mem_of_getElem? h1,h2⟩
theorem zkC {α β:Type} {F:α->β->Prop}:∀ {l:List α} {m:List β},Paired F l m->∀ {b:β},b∈m->∃ a∈l,F a b
 | _,_,.nil,_,hb=>by cases hb
 | _,_,.cons r t,b,hb=>by
  rcases List.mem_cons.mp hb with z | z
  . subst z; exact ⟨_,List.mem_cons_self,r⟩
  . obtain ⟨a,h1,h2⟩:=zkC t z
    exact ⟨a,List.mem_cons_of_mem _ h1,h2⟩
theorem zsU (t:SetTable) (n:Nat):(t.orStandIn n).led=t.led:=by unfold SetTable.orStandIn; split <;> rfl
theorem zrW (t:SetTable) (es:Array (Int×Value)) (h:Int) (x:Value):(layNew t es h x).2.1.led=t.led:=by
 unfold layNew; split
 . dsimp only; rw [zsU]; rfl
 . rfl
theorem znO {t t':SetTable} {hs:Array Int} {n:Nat} {order:Array Nat} (e:t.relaid hs n=some (t',order)):t'.led=t.led/\t'.plain=t.plain:=by
 unfold SetTable.relaid SetTable.laid at e
 cases hl:SetTable.layClean (SetTable.sizeAbove n - 1) hs with
 | none=>rw [hl] at e; cases e
 | some ow=>rw [hl] at e; cases e; exact ⟨rfl,rfl⟩
theorem zoO (t:SetTable) (es:Array (Int×Value)) (n:Nat):(relayAll t es n).2.1.led=t.led/\(t.plain=false->(relayAll t es n).2.1.plain=false):=by
 unfold relayAll
 split
 . rename_i t' order e
   obtain ⟨h1,h2⟩:=znO e
   dsimp only
   split
   . exact ⟨h1,λ h=>h2.trans h⟩
   . exact ⟨rfl,λ _=>rfl⟩
 . exact ⟨rfl,λ _=>rfl⟩
variable {K:Type} [DecidableEq K]
abbrev El (knd:KeyKind prog w K) (e:Int×Value) (k:K):Prop:=(knd.is k e.2=true/\e.1=knd.hash k)/\e.2.scannable=true
structure SetT (w:World) (t:SetTable) (n:Nat):Prop where
 fits:t.fits n=true
 led:w.params.followText "set-order" = false->t.led=true
 rise:Ri t
def SetG (knd:KeyKind prog w K) (h:Heap) (a:Addr) (ks:List K):Prop :=
 ∃ o es ep t,h.get? a=some o/\o.ExactSet/\o.data=.set es ep t/\Paired (El knd) es.toList ks/\ks.Nodup/\ks.length < scanBound/\SetT w t es.size
def SetP (knd:KeyKind prog w K) (h:Heap) (a:Addr) (ks:List K):Prop:=∃ ks',ks'.Perm ks/\SetG knd h a ks'
variable {knd:KeyKind prog w K} {s:Shared}
theorem SetG.at {h h':Heap} {a:Addr} {ks:List K} (x:SetG knd h a ks) (e:∀ o,h.get? a=some o->h'.get? a=some o):SetG knd h' a ks :=
 let ⟨o,es,ep,t,ho,r⟩:=x; ⟨o,es,ep,t,e _ ho,r⟩
theorem SetP.at {h h':Heap} {a:Addr} {ks:List K} (x:SetP knd h a ks) (e:∀ o,h.get? a=some o->h'.get? a=some o):SetP knd h' a ks :=
 let ⟨ks',p,g⟩:=x; ⟨ks',p,g.at e⟩
theorem zqJ {l:List (Int×Value)} {ks:List K} (h:Paired (El knd) l ks):ElemsOf knd l:=λ e he=>by
 obtain ⟨k,_,⟨h1,h2⟩,h3⟩:=zm2 h he
 exact ⟨⟨k,h1,h2⟩,h3⟩
theorem ziH {h:Heap} {a:Addr} {o:Obj} {es:Array (Int×Value)} {ep:Nat} {t:SetTable} (ho:h.get? a=some o) (hx:o.ExactSet) (hd:o.data=.set es ep t)
  {es':Array (Int×Value)} {t':SetTable} {ks:List K} (he:Paired (El knd) es'.toList ks) (hn:ks.Nodup) (hb:ks.length < scanBound) (ht:SetT w t' es'.size) :
  ∃ o',(h.update a (Obj.putSet es' t')).get? a=some o'/\o'.ExactSet/\o'.data=.set es' (ep+1) t'/\SetG knd (h.update a (Obj.putSet es' t')) a ks:=by
 have g:=Heap.get?_update_self (Obj.putSet es' t') ho (by rw [putSet_of es' t' hd]; rfl)
 rw [putSet_of es' t' hd] at g
 exact ⟨_,g,hx,rfl,_,es',ep+1,t',g,hx,rfl,he,hn,hb,ht⟩
theorem zoG {a:Addr} {ks:List K} {k:K} {x:Value} {Q:Bool->Shared->Prop} (hkey:knd.is k x=true) (hsc:x.scannable=true) (hS:SetP knd s.heap a ks) (hroom:ks.length+1 < scanBound)
  (h:∀ b h',Heap.SameBut a s.heap h'->SetP knd h' a (if k∈ks then ks else ks++[k])->Q b { s with heap:=h' }) :
  wpAny (model prog w) A (setAddHashed a x (knd.hash k)) Q E s:=by
 obtain ⟨ks',pk,o,es,ep,t,ho,hx,hd,hel,hnd,hb,hT⟩:=hS
 have hl:es.size=ks'.length:=by rw [<-Array.length_toList]; exact hel.length
 have hpl:ks'.length=ks.length:=pk.length_eq
 have E0:=zqJ hel
 have hes:es.size < scanBound:=by omega
 unfold setAddHashed setAddHashedIn
 refine wpAny_holding (wpAny_bind (wpAny_setState_of ho hd hT.fits ?_))
 dsimp only
 rw [byScan_of hsc hes E0]
 simp only [↓reduceIte]
 unfold setAddByScan
 refine wpAny_bind (wpAny_bind (wpAny_rule (wpAny_bind (wpAny_setScan_of hkey ho hd hT.fits E0 ?_))))
 have memk:∀ q,(q∈ks↔∃ e∈es.toList,knd.is q e.2=true):=λ q=>by
  rw [<-pk.mem_iff]
  refine ⟨λ hq=>?_,λ ⟨e,he,hq⟩=>?_⟩
  . obtain ⟨e,he,z⟩:=zkC hel hq
    exact ⟨e,he,z.1.1⟩
  . obtain ⟨q',hq',z⟩:=zm2 hel he
    rw [knd.inj _ q q' hq z.1.1]; exact hq'
 cases hr:List.findIdx? (λ e=>knd.is k e.2) es.toList with
 | some j =>
  dsimp only
  obtain ⟨hj,hpj,_⟩:=List.findIdx?_eq_some_iff_getElem.mp hr
  have hk:k∈ks:=(memk k).mpr ⟨es.toList[j],List.getElem_mem hj,hpj⟩
  have q:=h false s.heap (Heap.SameBut.refl a s.heap)
  rw [if_pos hk] at q
  exact wpAny_pure (wpAny_pure (q ⟨ks',pk,o,es,ep,t,ho,hx,hd,hel,hnd,hb,hT⟩))
 | none =>
  dsimp only
  have hk:k∉ks:=λ z=>by
    obtain ⟨e,he,hq⟩:=(memk k).mp z
    have:=List.findIdx?_eq_none_iff.mp hr e he
    rw [hq] at this; cases this
  have gave:∀ (b:Bool) {s₁:Shared} {Q':Unit->Shared->Prop},Q' () s₁->wpAny (model prog w) A (match b with | true=>rule "set.scan.the-table-gave-way" | false=>pure ()) Q' E s₁ :=
    λ b s₁ Q' hq=>by cases b <;> first | exact wpAny_pure hq | exact wpAny_rule hq
  have lp:=layNew_perm t es (knd.hash k) x
  have lf:=layNew_fits t es (knd.hash k) x
  have ll:=zrW t es (knd.hash k) x
  have lpl:=zs0 es (knd.hash k) x hT.rise
  generalize layNew t es (knd.hash k) x=L at lp lf ll lpl ⊢
  obtain ⟨es1,t1,wasDummy,gv⟩:=L
  dsimp only at lp lf ll lpl ⊢
  rw [Array.toList_push] at lp
  obtain ⟨k1,pk1,hel1⟩:=zhs lp (zco hel (show El knd (knd.hash k,x) k from ⟨⟨hkey,rfl⟩,hsc⟩))
  have hk':k∉ks':=λ z=>hk (pk.mem_iff.mp z)
  have nd1:k1.Nodup:=pk1.nodup_iff.mpr (List.nodup_append.mpr ⟨hnd,by simp,λ u hu v hv=>by rw [List.mem_singleton.mp hv]; intro z; rw [z] at hu; exact hk' hu⟩)
  have ln1:k1.length=ks'.length+1:=by rw [pk1.length_eq]; simp
  have pk2:k1.Perm (ks++[k]):=pk1.trans (pk.append_right _)
  have hz1:es1.size=k1.length:=by rw [<-Array.length_toList]; exact hel1.length
  refine wpAny_bind (gave _ ?_)
  have tail:∀ t2:SetTable,t2.fits es1.size=true->t2.led=t1.led->Ri t2 ->
      wpAny (model prog w) A (do
       storeSet a es1 t2
       if (!wasDummy && t2.tooFull)=true then do
         (match (relayAll t2 es1 (SetTable.grown es1.size)).2.2 with | true=>rule "set.scan.the-table-gave-way" | false=>pure ())
         storeSet a (relayAll t2 es1 (SetTable.grown es1.size)).1 (relayAll t2 es1 (SetTable.grown es1.size)).2.1
         pure (some true)
        else pure (some true)) (λ r s'=>∃ b h',r=some b/\s'={ s with heap:=h' }/\Heap.SameBut a s.heap h'/\SetP knd h' a (ks++[k])) E s:=λ t2 f2 l2 p2=>by
    have hT2:SetT w t2 es1.size:=⟨f2,λ q=>by rw [l2,ll]; exact hT.led q,p2⟩
    refine wpAny_bind (wpAny_storeSet_of ho hd ?_ (by rw [hz1]; exact fits_of_scanBound (by omega)))
    obtain ⟨o1,ho1,hx1,hd1,G1⟩:=ziH (knd:=knd) ho hx hd hel1 nd1 (by omega) hT2
    have sb1:=Heap.SameBut.update s.heap a (Obj.putSet es1 t2)
    split
    . have rp:=relayAll_perm t2 es1 (SetTable.grown es1.size)
      have rf:=relayAll_fits t2 es1 (SetTable.grown es1.size)
      obtain ⟨rl,_⟩:=zoO t2 es1 (SetTable.grown es1.size)
      have rpl:=zqd (t:=t2) es1 (SetTable.grown es1.size)
      generalize relayAll t2 es1 (SetTable.grown es1.size)=R at rp rf rl rpl ⊢
      obtain ⟨es2,t3,g2⟩:=R
      dsimp only at rp rf rl rpl ⊢
      obtain ⟨k3,pk3,hel3⟩:=zhs rp hel1
      have hz3:es2.size=k3.length:=by rw [<-Array.length_toList]; exact hel3.length
      refine wpAny_bind (gave _ ?_)
      refine wpAny_bind (wpAny_storeSet_of ho1 hd1 ?_ (by rw [hz3,pk3.length_eq]; exact fits_of_scanBound (by omega)))
      obtain ⟨o3,ho3,hx3,hd3,G3⟩:=ziH (knd:=knd) ho1 hx1 hd1 hel3 (pk3.nodup_iff.mpr nd1) (by rw [pk3.length_eq]; omega) ⟨rf,λ q=>by rw [rl]; exact hT2.led q,rpl⟩
      exact wpAny_pure ⟨true,_,rfl,rfl,sb1.trans (Heap.SameBut.update _ a _),k3,pk3.trans pk2,G3⟩
    . exact wpAny_pure ⟨true,_,rfl,rfl,sb1,k1,pk2,G1⟩
  cases hp:t1.plain with
  | true =>
    simp only [↓reduceIte]
    rw [hashByValue_scannable 8 hsc]
    refine wpAny_bind (wpAny_pure ?_)
    cases hv:plainKind x with
    | true =>
      simp only [↓reduceIte]
      refine wpAny_mono (tail t1 lf rfl lpl) (λ r s' hq=>?_) λ _ _ z=>z
      obtain ⟨b,h',rfl,rfl,sb,G⟩:=hq
      have q:=h b h' sb
      rw [if_neg hk] at q
      exact wpAny_pure (q G)
    | false =>
      simp only [Bool.false_eq_true,↓reduceIte]
      refine wpAny_mono (tail { t1 with plain:=false } (SetTable.fits_plain_off lf) rfl (λ z=>by cases z)) (λ r s' hq=>?_) λ _ _ z=>z
      obtain ⟨b,h',rfl,rfl,sb,G⟩:=hq
      have q:=h b h' sb
      rw [if_neg hk] at q
      exact wpAny_pure (q G)
  | false =>
    simp only [Bool.false_eq_true,↓reduceIte]
    refine wpAny_bind (wpAny_pure ?_)
    simp only [↓reduceIte]
    refine wpAny_mono (tail t1 lf rfl lpl) (λ r s' hq=>?_) λ _ _ z=>z
    obtain ⟨b,h',rfl,rfl,sb,G⟩:=hq
    have q:=h b h' sb
    rw [if_neg hk] at q
    exact wpAny_pure (q G)
end
end S6
end
section
namespace S6
open PySem PyProof.Rows
abbrev set0 (w:World):Obj:={ cls:=.type "set",dict:=none,data:=.set #[] 0 (.fresh 0 0 (!w.params.followText "set-order")) }
section
variable {prog:Program} {w:World} {A:Around} {E:Value->Shared->Prop} {s:Shared}
theorem zrQ (a:Value) {Q₁:Value->Shared->Prop} (h:Q₁ (.ref s.heap.objs.size) { s with heap:=s.heap.push (set0 w) }) :
  codeAny (model prog w) A (.call (.builtin "set.__new__") ⟨[.type "set",a],[]⟩) (wants Q₁ E) s:=by
 refine codeAny_of_tree ?_
 show wpAny _ A.in1 (do
  checkBuiltinCall "set.__new__" ⟨[.type "set",a],[]⟩
  again (.builtin "set.__new__" ⟨[.type "set",a],[]⟩)) _ _ s
 refine wpAny_bind (wpAny_of_eq (F.newCall_set_1 a) (wpAny_pure ⟨plainId_quiet F.plain_set_new _,codeAny_builtin F.entry_set_new ?_⟩))
 rw [Around.under_plainId F.plain_set_new _]
 unfold Builtin.«set.__new__» Builtin.Frozenset.newClass
 have hsub:=sub_set_self
 obtain ⟨hp,g,d,tk,os⟩:=s
 dsimp only
 wp_walk
 refine wpAny_askSetting (wpAny_pure ?_)
 dsimp only
 simp only [newObj]
 exact wpAny_bind (wpAny_alloc (wpAny_pure (wpAny_pure h)))
variable {K:Type} [DecidableEq K] {knd:KeyKind prog w K}
theorem zoI {h:Heap} {a:Addr} (e:h.get? a=some (set0 w)):SetP knd h a [] :=
 ⟨[],.refl _,_,#[],0,_,e,⟨rfl,rfl,rfl⟩,rfl,.nil,List.nodup_nil,(by show (0:Nat) < scanBound; decide),⟨rfl,λ q=>by show (!_)=true; rw [q]; rfl,λ _=>List.Pairwise.nil⟩⟩
theorem zsG {l:Addr} {R:Heap->Prop} {Q:Value->Shared->Prop} (hl:∃ o,s.heap.get? l=some o)
  (hup:wpAny (model prog w) A.in1.in1 (Builtin.Frozenset.updateFrom "set.__init__" s.heap.objs.size (.ref l)) (λ _ s'=>∃ h' tk,s'={ s with heap:=h',toks:=tk }/\R h') E { s with heap:=s.heap.push (set0 w) })
  (h:∀ h' tk,R h'->Q (.ref s.heap.objs.size) { s with heap:=h',toks:=tk }) :
  wpAny (model prog w) A (call (.type "set") [.ref l]) Q E s:=by
 obtain ⟨c,tl,hmro⟩:=F.called_set.mro
 have hmade:=F.called_set.made
 have hsub:=F.called_set.sub
 refine wpAny_call (codeAny_of_tree ?_)
 show wpAny _ _ (callAny (.type "set") _) _ _ _
 refine wpAny_pure ⟨Code.quiet_builtin _ (by decide +kernel),codeAny_builtin F.entry_type_call ?_⟩
 rw [Around.under_plain (weight_type_call_type "set" [.ref l] []) rfl]
 have h1:=F.called_set.notType
 have h2:=F.called_set.canCreate
 have hct:=F.typeCall_set_1 (.ref l)
 repeat (any_goals (first | assumption | wp_step))
 refine codeAny_mono (zrQ (.ref l) (E:=E) (Q₁:=λ obj s₁=>obj=.ref s.heap.objs.size/\s₁={ s with heap:=s.heap.push (set0 w) }) ⟨rfl,rfl⟩) λ r s₁ hr=>?_
 cases r with
 | error e=>exact hr
 | ok fl =>
  cases fl with
  | ret obj =>
   obtain ⟨rfl,rfl⟩:=hr
   have hS:(s.heap.push (set0 w)).get? s.heap.objs.size=some (set0 w):=Heap.get?_push_size _ rfl
   have hT:Shared.TypeIs { s with heap:=s.heap.push (set0 w) } (.ref s.heap.objs.size) "set" := ⟨_,hS,rfl⟩
   have hli:=F.called_set.init.lookup
   have hbi:=F.called_set.init.bind (.ref s.heap.objs.size)
   repeat (any_goals (first | assumption | wp_step))
   refine codeAny_mono (codeAny_call_builtin (R:=wants (λ r s₂=>r=.none/\∃ h' tk,s₂={ s with heap:=h',toks:=tk }/\R h') E) F.called_set.init.plain F.entry_set_init (check_set_init_1 hT ?_)) λ r₂ s₂ hr₂=>?_
   · unfold Builtin.«set.__init__» noKeywords
     generalize hU:Builtin.Frozenset.updateFrom=U at hup ⊢
     wp_walk
     refine wpAny_mono hup (λ _ s' hq=>?_) λ _ _ z=>z
     obtain ⟨h',tk,rfl,hr⟩:=hq
     exact wpAny_pure ⟨rfl,h',tk,rfl,hr⟩
   . cases r₂ with
     | error e=>exact hr₂
     | ok fl₂ =>
      cases fl₂ with
      | ret r =>
       obtain ⟨rfl,h',tk,rfl,hS'⟩:=hr₂
       repeat (any_goals (first | assumption | wp_step))
       exact h _ _ hS'
      | _=>exact hr₂.elim
  | _=>exact hr.elim
def ded (acc:List K) (k:K):List K:=if k∈acc then acc else acc++[k]
def deds (ks:List K):List K:=ks.foldl ded []
theorem zld (ks:List K) (k:K):deds (ks++[k])=ded (deds ks) k:=by unfold deds; rw [List.foldl_append]; rfl
theorem zr5 (a:List K) (k:K):(ded a k).length<=a.length+1:=by
 unfold ded; split
 . omega
 . simp
theorem zrV {a:List K} {k x:K}:x∈ded a k↔x∈a\/x=k:=by
 unfold ded; split
 . rename_i h; exact ⟨.inl,λ z=>z.elim id λ e=>e ▸ h⟩
 . simp
theorem znd {x:K}:∀ {ks a:List K},x∈ks.foldl ded a↔x∈a\/x∈ks
 | [],a=>by simp
 | k::r,a=>by rw [List.foldl_cons,znd (ks:=r),zrV,List.mem_cons,or_assoc]
theorem zjD {ks:List K} {x:K}:x∈deds ks↔x∈ks:=by unfold deds; rw [znd]; simp
theorem ztc {a:List K} {k:K} (h:a.Nodup):(ded a k).Nodup:=by
 unfold ded; split
 . exact h
 . rename_i hk
   exact List.nodup_append.mpr ⟨h,by simp,λ u hu v hv=>by rw [List.mem_singleton.mp hv]; intro z; rw [z] at hu; exact hk hu⟩
theorem zpA:∀ {ks a:List K},a.Nodup->(ks.foldl ded a).Nodup
 | [],a,h=>h
 | k::r,a,h=>zpA (ks:=r) (ztc h)
theorem zpK (ks:List K):(deds ks).Nodup:=zpA List.nodup_nil
theorem zne:∀ {ks a:List K},(ks.foldl ded a).length<=a.length+ks.length
 | [],a=>by simp
 | k::r,a=>by
  have:=zne (ks:=r) (a:=ded a k)
  have:=zr5 a k
  simp only [List.foldl_cons,List.length_cons]; omega
theorem znj (ks:List K):(deds ks).length<=ks.length:=by have:=zne (ks:=ks) (a:=([]:List K)); unfold deds; simpa using this
variable {R:Result->Shared->Prop} {I:Addr} {fp wr:List Addr} {G:Array GenState->Array GenState->Prop} {P:Nat->Value->Prop} {St:Nat->Shared->Prop}
theorem zqa {ks:List K} (W:WalksS prog w A.in1 I fp wr G ks.length P St) (S:Addr) (hSf:S∉fp) (hP:∀ i v,P i v->∃ k,ks[i]?=some k/\knd.is k v=true/\v.scannable=true) (hb:ks.length+1 < scanBound) :
  ∀ (m i:Nat) (s:Shared),ks.length - i=m->i<=ks.length->St i s->SetP knd s.heap S (deds (ks.take i)) ->
    (∀ s',Moved (S::wr) G s s'->SetP knd s'.heap S (deds ks)->R (.ok (.ret .none)) s') ->
    codeAny (model prog w) A (.builtin "set.update.loop" ⟨[.ref S,.ref I],[]⟩) R s:=by
 have nw:S∉wr:=λ z=>hSf (W.sub _ z)
 have up:∀ b∈wr,b∈S::wr:=λ b z=>List.mem_cons_of_mem _ z
 intro m
 induction m with
 | zero =>
  intro i s hm hi st hS hR
  have ei:i=ks.length:=by omega
  subst ei
  refine codeAny_builtin F.entry_set_update_loop ?_
  rw [Around.under_plainId F.plain_set_update_loop _]
  refine wpAny_bind (m:=pyNext (.ref I)) (W.done s _ _ st λ s' mv=>wpAny_pure (hR s' (mv.mono up) ?_))
  rw [List.take_length] at hS
  exact hS.at λ o e=>mv.heap S o nw e
 | succ m ih =>
  intro i s hm hi st hS hR
  have hlt:i < ks.length:=by omega
  refine codeAny_builtin F.entry_set_update_loop ?_
  rw [Around.under_plainId F.plain_set_update_loop _]
  refine wpAny_bind (m:=pyNext (.ref I)) (W.item i s _ _ hlt st λ v s' pv st' mv=>?_)
  obtain ⟨k,hk,his,hsc⟩:=hP i v pv
  have hS1:SetP knd s'.heap S (deds (ks.take i)):=hS.at λ o e=>mv.heap S o nw e
  refine wpAny_bind (m:=holding [v] (setAdd S v)) (wpAny_holding ?_)
  unfold setAdd
  refine wpAny_holding (wpAny_bind (knd.pyHash his ?_))
  have hlen:(deds (ks.take i)).length<=i:=Nat.le_trans (znj _) (by rw [List.length_take]; omega)
  refine zoG (s:={ s' with toks:=s'.toks+1 }) his hsc hS1 (by omega) λ b h' sb hS2=>?_
  have e:ks.take (i+1)=ks.take i++[k]:=by rw [List.take_add_one,hk]; rfl
  have hS3:SetP knd h' S (deds (ks.take (i+1))):=by rw [e,zld]; exact hS2
  refine wpAny_pure ⟨plainId_quiet F.plain_set_update_loop _,ih (i+1) _ (by omega) hlt (W.frame _ s' _ _ st' (Nat.le_succ _) λ b hb o eo=>?_) hS3 λ s'' mv'' hS''=>?_⟩
  . rw [sb.2 b λ z=>hSf (z ▸ hb)]; exact eo
  . refine hR s'' (Moved.trans W.gtrans ((mv.mono up).then_heap (Nat.le_succ _) λ b o hb eo=>?_) mv'') hS''
    rw [sb.2 b λ z=>hb (z ▸ List.mem_cons_self)]; exact eo
end
end S6
end
section
namespace S6
open PySem PyProof.Rows
theorem sub_dict_set:isSubtype (.type "dict") (.type "set")=pure false:=by rw [isSubtype_type]; kernel_rfl
theorem zjf:isSubtype (.type "dict") (.type "frozenset")=pure false:=by rw [isSubtype_type]; kernel_rfl
section
variable {prog:Program} {w:World} {A:Around} {E:Value->Shared->Prop} {s:Shared} {K:Type} [DecidableEq K] {knd:KeyKind prog w K}
abbrev KVal (knd:KeyKind prog w K) (k:K) (v:Value):Prop:=knd.is k v=true/\v.scannable=true
theorem zq5 {T:String} {v:Value} {Q:Bool->Shared->Prop} (hT:s.TypeIs v T) (h1:isSubtype (.type T) (.type "set")=pure false) (h2:isSubtype (.type T) (.type "frozenset")=pure false) (h:Q false s) :
  wpAny (model prog w) A (Builtin.Frozenset.isAnySet v) Q E s:=by
 unfold Builtin.Frozenset.isAnySet
 refine wpAny_bind (wpAny_isInstance hT h1 ?_)
 exact wpAny_isInstance hT h2 h
theorem zpC {S l:Addr} {items:Array Value} {ks:List K} (hh:A.handled=none) (hl:s.heap.IsList l items) (hS:SetP knd s.heap S []) (hne:S≠l) (hlen:items.size=ks.length) (hb:ks.length+1 < scanBound)
   (hv:∀ (i:Nat) v,items[i]?=some v->∃ k,ks[i]?=some k/\KVal knd k v) :
   wpAny (model prog w) A (Builtin.Frozenset.updateFrom "set.__init__" S (.ref l)) (λ _ s'=>∃ h' tk,s'={ s with heap:=h',toks:=tk }/\SetP knd h' S (deds ks)/\∀ b o,b≠S->s.heap.get? b=some o->h'.get? b=some o) E s:=by
 unfold Builtin.Frozenset.updateFrom
 refine wpAny_bind (zq5 hl.typeIs F.sub_list_set F.sub_list_frozenset ?_)
 simp only [Bool.false_eq_true,if_false]
 refine wpAny_bind (wpAny_typeOf hl.typeIs ?_)
 rw [if_neg (by decide)]
 refine wpAny_bind (wpAny_pyIter_list hl ?_)
 refine wpAny_bind (wpAny_runValue ?_)
 obtain ⟨ol,hol,_⟩:=id hl
 have hSl:S < s.heap.objs.size:=by obtain ⟨_,_,o,_,_,_,e,_⟩:=hS; exact Heap.lt_size e
 have hSf:S∉[s.heap.objs.size,l]:=by
   intro z
   rcases List.mem_cons.mp z with z | z
   . exact absurd hSl (by rw [z]; exact Nat.lt_irrefl _)
   . exact hne (List.mem_singleton.mp z)
 have W:=(Walks.list (prog:=prog) (w:=w) (A:=A.in1) hh s.heap.objs.size l (Nat.ne_of_lt (Heap.lt_size hol)) items).toS
 rw [hlen] at W
 refine zqa W S hSf hv hb ks.length 0 _ (by omega) (Nat.zero_le _) ⟨⟨_,Heap.get?_push_size _ rfl,rfl,rfl⟩,hl.push _⟩ (hS.at λ o e=>Heap.get?_push_of_some _ e) λ s' mv hS'=>?_
 obtain ⟨h',g',d',tk',os'⟩:=s'
 have eg:g'=s.gens:=mv.gens
 have ed:d'=s.drawn:=mv.drawn
 have eo:os'=s.os:=mv.os
 subst eg ed eo
 refine wpAny_pure ⟨h',tk',rfl,hS',λ b o hb e=>mv.heap b o (λ z=>?_) (Heap.get?_push_of_some _ e)⟩
 rcases List.mem_cons.mp z with z | z
 . exact hb z
 . have:=List.mem_singleton.mp z
   exact absurd (Heap.lt_size e) (by rw [this]; exact Nat.lt_irrefl _)
theorem zpD {S d:Addr} {kvs:List (K×Value)} (lo:(d == sysModules)=false) (hd:s.heap.DictOf knd d kvs) (hS0:s.heap.get? S=some (set0 w)) (h4:kvs.length<=4)
   (hv:∀ p∈kvs,∀ u,knd.is p.1 u=true->u.scannable=true) :
   wpAny (model prog w) A (Builtin.Frozenset.updateFrom "set.__init__" S (.ref d)) (λ _ s'=>∃ h' tk,s'={ s with heap:=h',toks:=tk }/\SetP knd h' S (deds (kvs.map (·.1)))/\∀ b o,b≠S->s.heap.get? b=some o->h'.get? b=some o) E s:=by
 have hT:=hd.typeIs (s:=s)
 obtain ⟨o,es,ep,ho,hx,hod,hk,hp,hn⟩:=hd
 have hne:d≠S:=λ z=>by
   rw [z,hS0] at ho; cases ho; cases hod
 have hz:es.size=kvs.length:=by rw [<-hp.length]; simp
 unfold Builtin.Frozenset.updateFrom
 refine wpAny_bind (zq5 hT sub_dict_set zjf ?_)
 simp only [Bool.false_eq_true,if_false]
 refine wpAny_bind (wpAny_typeOf hT ?_)
 rw [if_pos (by decide)]
 refine wpAny_bind (wpAny_rule (wpAny_bind (m:=Builtin.Frozenset.addrOf (.ref d)) (wpAny_pure ?_)))
 rw [if_neg (by rw [lo]; exact Bool.false_ne_true)]
 refine wpAny_bind (wpAny_dictEpoch ho hod (wpAny_bind (wpAny_dictEntries ho hod (wpAny_bind ?_))))
 unfold setRoomFor
 refine wpAny_bind (wpAny_setState_of hS0 rfl rfl ?_)
 have hroom:(SetTable.fresh 0 0 (!w.params.followText "set-order")).roomFor es.size=none:=by
   unfold SetTable.roomFor
   rw [if_neg]
   show ¬ ((0+es.size) * 5 ≥ 7 * 3)
   omega
 dsimp only
 rw [hroom]
 refine wpAny_pure (wpAny_bind (wpAny_dictEntries ho hod (wpAny_bind ?_)))
 rw [Std.Legacy.Range.forIn_eq_forIn_range']
 simp only [Std.Legacy.Range.size,Nat.sub_zero,Nat.add_sub_cancel,Nat.div_one]
 have hlk:(kvs.map (·.1)).length=es.size:=by rw [List.length_map,hz]
 refine wpAny_forIn_list _ (λ rest _ s'=>∃ h' i,s'={ s with heap:=h' }/\rest=List.range' i (es.size - i)/\i<=es.size/\SetP knd h' S (deds ((kvs.map (·.1)).take i))/\Heap.SameBut S s.heap h') _ ?_ ?_ _ _
   ⟨s.heap,0,rfl,by simp,Nat.zero_le _,zoI hS0,Heap.SameBut.refl _ _⟩
 . rintro x rest b s' ⟨h',i,rfl,hr,hi,hS',sb⟩
   have hlt:i < es.size:=by
    rcases Nat.lt_or_ge i es.size with z | z
    . exact z
    . rw [Nat.sub_eq_zero_of_le z] at hr; cases hr
   obtain ⟨rfl,hrest⟩:x=i/\rest=List.range' (i+1) (es.size - (i+1)):=by
    rw [show es.size - i=(es.size - (i+1))+1 by omega,List.range'_succ] at hr
    injection hr with q1 q2
    exact ⟨q1,q2⟩
   have ho':h'.get? d=some o:=(sb.2 d hne).trans ho
   refine wpAny_bind (wpAny_dictEntries (s:={ s with heap:=h' }) ho' hod ?_)
   rw [Array.getElem?_eq_getElem hlt]
   obtain ⟨⟨k,v⟩,hkv⟩:∃ kv,kvs[x]?=some kv:=⟨kvs[x]'(by rw [<-hz]; exact hlt),List.getElem?_eq_getElem _⟩
   have his:=(hp.get? (e:=es[x]) (by simp [hlt]) hkv).1
   obtain ⟨k',his',hh'⟩:=hk es[x] (Array.getElem_mem hlt)
   obtain rfl:k'=k:=knd.inj _ _ _ his' his
   have hsc:=hv (k',v) (List.mem_of_getElem? hkv) _ his
   have hke:(kvs.map (·.1))[x]?=some k':=by rw [List.getElem?_map,hkv]; rfl
   have hlen:(deds ((kvs.map (·.1)).take x)).length<=x:=Nat.le_trans (znj _) (by rw [List.length_take]; omega)
   refine wpAny_bind (wpAny_holding ?_)
   rw [hh']
   refine zoG (s:={ s with heap:=h' }) his hsc hS' (by unfold scanBound; omega) λ b2 h2 sb2 hS2=>?_
   have ho2:h2.get? d=some o:=(sb2.2 d hne).trans ho'
   refine wpAny_bind (wpAny_dictEpoch (s:={ s with heap:=h2 }) ho2 hod ?_)
   rw [if_neg (by simp)]
   refine wpAny_pure ⟨h2,x+1,rfl,hrest,hlt,?_,sb.trans sb2⟩
   rw [List.take_add_one,hke]
   show SetP knd h2 S (deds ((kvs.map (·.1)).take x++[k']))
   rw [zld]; exact hS2
 . rintro b s' ⟨h',i,rfl,hr,hi,hS',sb⟩
   have ei:i=es.size:=by
    rcases Nat.lt_or_ge i es.size with z | z
    . rw [show es.size - i=(es.size - (i+1))+1 by omega,List.range'_succ] at hr; cases hr
    . omega
   rw [ei,<-hlk,List.take_length] at hS'
   exact wpAny_pure ⟨h',s.toks,rfl,hS',λ b o hb e=>(sb.2 b hb).trans e⟩
end
end S6
end
section
namespace S6
open PySem PyProof.Rows
theorem zbX:Slot "set_iterator" "__next__" "set_iterator.__next__" :=
 Slot.of (owner := "set_iterator") (n := "__next__")
  (by rw [typeLookup_type,builtinLookup_eq_fast]; kernel_rfl) (by decide +kernel)
  (by decide +kernel) (by decide +kernel)
  (by first | exact .inl (by decide +kernel) | exact .inr (by decide +kernel))
  (by rw [isSubtype_type]; kernel_rfl)
theorem zfO : entryFor table "set_iterator.__next__" = some Builtin.«set_iterator.__next__» :=
 entryFor_of_tree (by kernel_rfl)
theorem zgI (a:Value):argsOk "set_iterator.__next__" ⟨[a],[]⟩:=by
 unfold argsOk; kernel_rfl
theorem zlb : entryFor table "set.__iter__" = some Builtin.«frozenset.__iter__» :=
 entryFor_alias (id' := "frozenset.__iter__") (by kernel_rfl) rfl
  (by decide +kernel) (by kernel_rfl)
def byT (w:World):Bool:=w.params.followText "set-order"
def itO (first:Value) (i:Nat) (a:Addr) (n ep:Nat):Obj:={ cls:=.type "set_iterator",data:=.fields #[first,.int i 0,.ref a,.int n 0,.int ep 0] }
def Mode (w:World) (es:Array (Int×Value)) (ep:Nat) (t:SetTable) (vs:List Value) (a it p:Addr) (i:Nat) (h:Heap) (first:Value):Prop :=
 (byT w=true/\(∃ sl:Nat,first=.int sl 0)/\vs=(pickOrder (w.params.setOrder a ep) es).toList.map (·.2)) \/
 (byT w=false/\first=.ref p/\p≠it/\∃ ps:List Nat,h.get? p=some { cls:=.type "tuple",data:=.seq (ps.map λ (n:Nat)=>Value.int n 0).toArray }/\vs=ps.filterMap (λ j=>(es[j]?).map (·.2))/\ps.Perm (List.range es.size)) \/
 (byT w=false/\t.led=true/\(t.plain=true\/es.size<=1)/\Rise t.place/\first=.int (slotAt t.place i:Nat) 0/\vs=es.toList.map (·.2))
def SIt (w:World) (es:Array (Int×Value)) (ep:Nat) (t:SetTable) (vs:List Value) (a it p:Addr) (i:Nat) (h:Heap):Prop :=
 (∃ o,h.get? a=some o/\o.ExactSet/\o.data=.set es ep t)/\∃ first,h.get? it=some (itO first i a es.size ep)/\Mode w es ep t vs a it p i h first
section
variable {prog:Program} {w:World} {A:Around} {E:Value->Shared->Prop} {s:Shared}
theorem zol {a:Addr} {o:Obj} {es:Array (Int×Value)} {ep:Nat} {t:SetTable} {Q:Array (Int×Value)->Shared->Prop} (ho:s.heap.get? a=some o) (hd:o.data=.set es ep t) (hf:t.fits es.size=true) (hb:byT w=true)
  (h:Q (pickOrder (w.params.setOrder a ep) es) s):wpAny (model prog w) A (setWalk a) Q E s:=by
 unfold setWalk setsByText
 refine wpAny_bind (wpAny_setState_of ho hd hf ?_)
 dsimp only
 refine wpAny_bind (wpAny_bind (wpAny_askSetting (wpAny_pure ?_)))
 show wpAny _ _ (if byT w=true then _ else _) _ _ _
 rw [if_pos hb]
 exact wpAny_bind (wpAny_askSetting (wpAny_pure h))
theorem zkT {a:Addr} {o:Obj} {es:Array (Int×Value)} {ep slot i:Nat} {t:SetTable} {Q:Option (Value×Nat)->Shared->Prop} (ho:s.heap.get? a=some o) (hd:o.data=.set es ep t) (hf:t.fits es.size=true) (hb:byT w=true)
  (h:Q (((pickOrder (w.params.setOrder a ep) es)[i]?).map λ e=>(e.2,slot)) s):wpAny (model prog w) A (setNext a slot i ep) Q E s:=by
 unfold setNext setsByText
 refine wpAny_bind (wpAny_setState_of ho hd hf ?_)
 dsimp only
 refine wpAny_bind (wpAny_bind (wpAny_askSetting (wpAny_pure ?_)))
 show wpAny _ _ (if byT w=true then _ else _) _ _ _
 rw [if_pos hb,if_neg (by simp)]
 exact wpAny_bind (zol ho hd hf hb (wpAny_pure h))
theorem ziQ {a:Addr} {o:Obj} {es:Array (Int×Value)} {ep slot i:Nat} {t:SetTable} {Q:Option (Value×Nat)->Shared->Prop} (ho:s.heap.get? a=some o) (hd:o.data=.set es ep t) (hf:t.fits es.size=true) (hb:byT w=false) (hl:t.led=true) (hz:t.plain=true\/es.size<=1)
  (h:Q (match es[SetTable.below t.place slot]?,t.place[SetTable.below t.place slot]? with | some (_,x),some j=>some (x,j+1) | _,_=>none) s):wpAny (model prog w) A (setNext a slot i ep) Q E s:=by
 unfold setNext setsByText
 refine wpAny_bind (wpAny_setState_of ho hd hf ?_)
 dsimp only
 refine wpAny_bind (wpAny_bind (wpAny_askSetting (wpAny_pure ?_)))
 show wpAny _ _ (if byT w=true then _ else _) _ _ _
 rw [if_neg (by rw [hb]; exact Bool.false_ne_true)]
 show wpAny _ _ (if (!t.plain && decide (es.size > 1))=true then _ else _) _ _ _
 have hnd:¬ ((!t.plain && decide (es.size > 1))=true):=by
  rcases hz with z | z
  . simp [z]
  . simp; omega
 rw [if_neg hnd]
 refine wpAny_bind ?_
 show wpAny _ _ (if (!t.led && !es.isEmpty)=true then _ else _) _ _ _
 rw [if_neg (by simp [hl])]
 exact wpAny_pure (wpAny_pure h)
theorem zrz {es:Array (Int×Value)} {ep:Nat} {t:SetTable} {vs:List Value} {a it p:Addr} {i:Nat} {v:Value} {Q:Option Value->Shared->Prop} (hf:t.fits es.size=true) (st:SIt w es ep t vs a it p i s.heap) (hne:a≠it) (hv:vs[i]?=some v)
   (h:∀ h',SIt w es ep t vs a it p (i+1) h'->Heap.SameBut it s.heap h'->Q (some v) { s with heap:=h' }):wpAny (model prog w) A (pyNext (.ref it)) Q E s:=by
 obtain ⟨⟨o,ho,hx,hd⟩,first,hit,md⟩:=st
 have hT:s.TypeIs (.ref it) "set_iterator" := ⟨_,hit,rfl⟩
 unfold pyNext
 refine wpAny_bind (wpAny_attempt (wpAny_callSpecial?_slot (name:=Str.ofString "__next__") hT zbX (wpAny_call_entry zbX hT zfO ?_ (zgI _))))
 unfold Builtin.«set_iterator.__next__»
 refine wpAny_bind (m:=slotArgs "__next__" 0 _) (wpAny_pure ?_)
 refine wpAny_bind (wpAny_fieldsOf hit rfl ?_)
 dsimp only
 refine wpAny_bind (wpAny_setEntries_of ho hd hf ?_)
 rw [if_neg (by simp)]
 have upd1:∀ (h1:Heap) (f1:Value),h1.get? it=some (itO f1 i a es.size ep)->(h1.update it (Obj.mapFields (·.setIfInBounds 1 (rawInt ((i:Int)+1))))).get? it=some (itO f1 (i+1) a es.size ep):=λ h1 f1 e=>by
   rw [Heap.get?_update_self _ e rfl]; rfl
 have upd0:∀ (h1:Heap) (f1 f2:Value),h1.get? it=some (itO f1 i a es.size ep)->(h1.update it (Obj.mapFields (·.setIfInBounds 0 f2))).get? it=some (itO f2 i a es.size ep):=λ h1 f1 f2 e=>by
   rw [Heap.get?_update_self _ e rfl]; rfl
 have oth:∀ (h1:Heap) (f:Obj->Obj) (b:Addr),b≠it->(h1.update it f).get? b=h1.get? b:=λ h1 f b hb=>Heap.get?_update_other _ _ (Ne.symm hb)
 rcases md with ⟨hb,⟨sl,rfl⟩,hvs⟩ | ⟨hb,rfl,hpi,ps,hps,hvs,hperm⟩ | ⟨hb,hled,hz,hri,rfl,hvs⟩
 . dsimp only
   simp only [Int.toNat_natCast]
   refine wpAny_bind (zkT ho hd hf hb ?_)
   have e1:(pickOrder (w.params.setOrder a ep) es)[i]?.map (·.2)=some v:=by
    rw [hvs,List.getElem?_map,Array.getElem?_toList] at hv; exact hv
   cases e2:(pickOrder (w.params.setOrder a ep) es)[i]? with
   | none=>rw [e2] at e1; cases e1
   | some q =>
    rw [e2] at e1
    have e3:q.2=v:=Option.some.inj e1
    show wpAny _ _ (setField (.ref it) 0 _ >>= _) _ _ _
    refine wpAny_bind (wpAny_setField hit rfl (by simp) ?_)
    refine wpAny_bind (wpAny_setField (upd0 _ _ _ hit) rfl (by simp) ?_)
    refine wpAny_pure ⟨_,rfl,wpAny_pure ?_⟩
    rw [e3]
    refine h _ ⟨⟨o,by rw [oth _ _ _ hne,oth _ _ _ hne]; exact ho,hx,hd⟩,_,upd1 _ _ (upd0 _ _ _ hit),.inl ⟨hb,⟨_,rfl⟩,hvs⟩⟩ ((Heap.SameBut.update ..).trans (Heap.SameBut.update ..))
 . dsimp only
   refine wpAny_bind (wpAny_seqItems hps rfl ?_)
   dsimp only
   have all:∀ j∈ps,j < es.size:=λ j hj=>List.mem_range.mp (hperm.mem_iff.mp hj)
   have fm:∀ l:List Nat,(∀ j∈l,j < es.size)->l.filterMap (λ j=>(es[j]?).map (·.2))=l.map λ j=>(es[j]?.map (·.2)).getD .none:=λ l=>by
    induction l with
    | nil=>intro _; rfl
    | cons j r ih =>
     intro hl
     have hj:=hl j List.mem_cons_self
     rw [List.filterMap_cons,List.map_cons,ih λ x hx=>hl x (List.mem_cons_of_mem _ hx),Array.getElem?_eq_getElem hj]
     rfl
   rw [hvs,fm ps all,List.getElem?_map] at hv
   cases e2:ps[i]? with
   | none=>rw [e2] at hv; cases hv
   | some j =>
    rw [e2] at hv
    have hj:=all j (List.mem_of_getElem? e2)
    have e3:((ps.map λ (n:Nat)=>Value.int n 0).toArray)[((i:Nat):Int).toNat]?=some (Value.int (j:Int) 0):=by
     rw [List.getElem?_toArray,List.getElem?_map]
     show Option.map _ ps[i]?=_
     rw [e2]; rfl
    rw [e3]
    dsimp only
    have hv':es[j].2=v:=by
     have:=Option.some.inj hv
     dsimp only at this
     rw [Array.getElem?_eq_getElem hj] at this; exact this
    unfold setNextDrawn
    refine wpAny_bind (wpAny_bind (wpAny_setState_of ho hd hf ?_))
    dsimp only
    rw [if_neg (by simp),show es[((j:Nat):Int).toNat]?=some es[j] from Array.getElem?_eq_getElem hj]
    refine wpAny_pure ?_
    refine wpAny_bind (wpAny_setField hit rfl (by simp) ?_)
    refine wpAny_pure ⟨_,rfl,wpAny_pure ?_⟩
    show Q (some es[j].2) _
    rw [hv']
    exact h _ ⟨⟨o,by rw [oth _ _ _ hne]; exact ho,hx,hd⟩,_,upd1 _ _ hit,.inr (.inl ⟨hb,rfl,hpi,ps,by rw [oth _ _ _ hpi]; exact hps,hvs,hperm⟩)⟩ (Heap.SameBut.update ..)
 . dsimp only
   have hi:i < es.size:=by
    have:=(List.getElem?_eq_some_iff.mp hv).1
    rw [hvs,List.length_map,Array.length_toList] at this
    exact this
   have hps:t.place.size=es.size:=by
    have:=hf
    simp only [SetTable.fits,Bool.and_eq_true,beq_iff_eq] at this
    exact this.1
   have hip:i < t.place.size:=by omega
   refine wpAny_bind (ziQ ho hd hf hb hled hz ?_)
   have hv':es[i].2=v:=by
    rw [hvs,List.getElem?_map,Array.getElem?_toList,Array.getElem?_eq_getElem hi] at hv
    exact Option.some.inj hv
   rw [Int.toNat_natCast,below_at hri (by omega),Array.getElem?_eq_getElem hi,Array.getElem?_eq_getElem hip]
   show wpAny _ _ (setField (.ref it) 0 (rawInt ((t.place[i]+1:Nat):Int)) >>= _) _ _ _
   refine wpAny_bind (wpAny_setField hit rfl (by simp) ?_)
   refine wpAny_bind (wpAny_setField (upd0 _ _ _ hit) rfl (by simp) ?_)
   refine wpAny_pure ⟨_,rfl,wpAny_pure ?_⟩
   show Q (some es[i].2) _
   rw [hv']
   refine h _ ⟨⟨o,by rw [oth _ _ _ hne,oth _ _ _ hne]; exact ho,hx,hd⟩,_,upd1 _ _ (upd0 _ _ _ hit),.inr (.inr ⟨hb,hled,hz,hri,?_,hvs⟩)⟩ ((Heap.SameBut.update ..).trans (Heap.SameBut.update ..))
   unfold slotAt
   rw [if_neg (Nat.succ_ne_zero _),Nat.add_sub_cancel]
   simp [Array.getD,hip,rawInt]
theorem zsF {es:Array (Int×Value)} {ep:Nat} {t:SetTable} {vs:List Value} {a it p:Addr} {Q:Option Value->Shared->Prop} (hh:A.handled=none) (hf:t.fits es.size=true) (st:SIt w es ep t vs a it p vs.length s.heap) (hne:a≠it)
   (h:∀ h',Heap.ExtBut it s.heap h'->Q none { s with heap:=h' }):wpAny (model prog w) A (pyNext (.ref it)) Q E s:=by
 obtain ⟨⟨o,ho,hx,hd⟩,first,hit,md⟩:=st
 have hT:s.TypeIs (.ref it) "set_iterator" := ⟨_,hit,rfl⟩
 unfold pyNext
 refine wpAny_bind (wpAny_attempt (wpAny_callSpecial?_slot (name:=Str.ofString "__next__") hT zbX (wpAny_call_entry zbX hT zfO ?_ (zgI _))))
 unfold Builtin.«set_iterator.__next__»
 refine wpAny_bind (m:=slotArgs "__next__" 0 _) (wpAny_pure ?_)
 refine wpAny_bind (wpAny_fieldsOf hit rfl ?_)
 dsimp only
 refine wpAny_bind (wpAny_setEntries_of ho hd hf ?_)
 rw [if_neg (by simp)]
 have stop:∀ (h1:Heap) (f1:Value),Heap.ExtBut it s.heap h1->h1.get? it=some (itO f1 vs.length a es.size ep) ->
    wpAny (model prog w) A.in1 (do
     setField (.ref it) 2 Value.none
     let e <-newExc (.type "StopIteration") []
     raiseNew e:Sem Fin)
     (λ fin s'=>∃ v,fin=Fin.done (Flow.ret v)/\wpAny (model prog w) A (pure (some v)) Q E s')
     (λ e s'=>wpAny (model prog w) A (do
      let b <-isInstance e (Value.type "StopIteration")
      if b=true then pure none else throw e) Q E s') { s with heap:=h1 }:=λ h1 f1 x1 e1=>by
   refine wpAny_bind (wpAny_setField e1 rfl (by simp) (wpAny_bind ?_))
   simp only [newExc,newTuple]
   refine wpAny_bind (wpAny_newObj_type ?_ (by size_fits))
   refine wpAny_bind (m:=firstArgMember _ _) (wpAny_of_eq (a:=Value.none) (by first | rfl | (simp only [firstArgMember]; rfl)) ?_)
   refine wpAny_newObj_type ?_ (by size_fits)
   simp only [raiseNew]
   refine wpAny_bind (wpAny_handled ?_)
   rw [show A.in1.handled=none from hh]
   refine wpAny_bind (wpAny_pure (wpAny_throw ?_))
   refine wpAny_bind (wpAny_isInstance (T := "StopIteration") (b:=true) ⟨_,Heap.get?_push_size _ rfl,rfl⟩ isSubtype_stop ?_)
   refine wpAny_pure (h _ λ b ob hb q=>?_)
   exact Heap.get?_push_of_some _ (Heap.get?_push_of_some _ ((Heap.get?_update_other _ _ (Ne.symm hb)).trans (x1 b ob hb q)))
 have ext0:Heap.ExtBut it s.heap s.heap:=λ b ob _ q=>q
 rcases md with ⟨hb,⟨sl,rfl⟩,hvs⟩ | ⟨hb,rfl,hpi,ps,hps,hvs,hperm⟩ | ⟨hb,hled,hz,hri,rfl,hvs⟩
 . dsimp only
   simp only [Int.toNat_natCast]
   refine wpAny_bind (zkT ho hd hf hb ?_)
   have e1:(pickOrder (w.params.setOrder a ep) es)[vs.length]?=none:=by
    rw [Array.getElem?_eq_none_iff,hvs,List.length_map,Array.length_toList]
    exact Nat.le_refl _
   rw [e1]
   exact stop _ _ ext0 hit
 . dsimp only
   refine wpAny_bind (wpAny_seqItems hps rfl ?_)
   dsimp only
   have all:∀ j∈ps,j < es.size:=λ j hj=>List.mem_range.mp (hperm.mem_iff.mp hj)
   have fm:∀ l:List Nat,(∀ j∈l,j < es.size)->(l.filterMap (λ j=>(es[j]?).map (·.2))).length=l.length:=λ l=>by
    induction l with
    | nil=>intro _; rfl
    | cons j r ih =>
     intro hl
     have hj:=hl j List.mem_cons_self
     rw [List.filterMap_cons,Array.getElem?_eq_getElem hj]
     simp only [Option.map_some,List.length_cons]
     rw [ih λ x hx=>hl x (List.mem_cons_of_mem _ hx)]
   have e3:((ps.map λ (n:Nat)=>Value.int n 0).toArray)[((vs.length:Nat):Int).toNat]?=none:=by
    rw [List.getElem?_toArray,Int.toNat_natCast,List.getElem?_eq_none_iff,List.length_map,hvs,fm ps all]
    exact Nat.le_refl _
   rw [e3]
   dsimp only
   refine wpAny_bind (wpAny_setField hit rfl (by simp) ?_)
   refine stop _ (rawInt 0) (λ b ob hb q=>(Heap.get?_update_other _ _ (Ne.symm hb)).trans q) ?_
   rw [Heap.get?_update_self _ hit rfl]; rfl
 . dsimp only
   refine wpAny_bind (ziQ ho hd hf hb hled hz ?_)
   have hps:t.place.size=es.size:=by
    have:=hf
    simp only [SetTable.fits,Bool.and_eq_true,beq_iff_eq] at this
    exact this.1
   have hlen:vs.length=es.size:=by rw [hvs,List.length_map,Array.length_toList]
   have none1:es[SetTable.below t.place (slotAt t.place vs.length)]?=none:=by
    rw [below_at hri (by omega),hlen]
    simp
   rw [Int.toNat_natCast]
   rw [none1]
   exact stop _ _ ext0 hit
end
end S6
end
section
namespace S6
open PySem PyProof.Rows
def Kept (h h':Heap):Prop:=∀ b o,h.get? b=some o->h'.get? b=some o
section
variable {prog:Program} {w:World} {A:Around} {E:Value->Shared->Prop} {s:Shared}
theorem zoF {a:Addr} {o:Obj} {es:Array (Int×Value)} {ep:Nat} {t:SetTable} {Q:Bool->Shared->Prop} (ho:s.heap.get? a=some o) (hd:o.data=.set es ep t) (hf:t.fits es.size=true)
  (h:Q (!byT w && (!t.plain && decide (es.size > 1))) s):wpAny (model prog w) A (setDrawn a) Q E s:=by
 unfold setDrawn setsByText
 refine wpAny_bind (wpAny_setState_of ho hd hf ?_)
 dsimp only
 refine wpAny_bind (wpAny_bind (wpAny_askSetting (wpAny_pure ?_)))
 exact wpAny_pure h
theorem znL {a:Addr} {o:Obj} {es:Array (Int×Value)} {ep:Nat} {t:SetTable} {Q:Value->Shared->Prop} (ho:s.heap.get? a=some o) (hx:o.ExactSet) (hd:o.data=.set es ep t) (hT:SetT w t es.size) (hz:es.size<=sizeLine)
  (h:∀ (it p:Addr) (vs:List Value) h' d,SIt w es ep t vs a it p 0 h'->vs.Perm (es.toList.map (·.2))->Kept s.heap h'->s.heap.objs.size<=it->(p < it\/p=0)->(s.heap.objs.size<=p\/p=0)->Q (.ref it) { s with heap:=h',drawn:=d }) :
  wpAny (model prog w) A (pyIter (.ref a)) Q E s:=by
 have hTy:s.TypeIs (.ref a) "set" := ⟨o,ho,hx.1⟩
 refine wpAny_pyIter_slot hTy F.slot_set_iter (wpAny_call_entry F.slot_set_iter hTy zlb ?_ (F.args_set_iter_1 _))
 unfold Builtin.«frozenset.__iter__» Builtin.Frozenset.slot0 slotArgs
 simp only [List.isEmpty_nil,Bool.not_true,Bool.false_eq_true,↓reduceIte,bind_assoc,List.length_nil,bne_self_eq_false]
 unfold Builtin.Frozenset.addrOf Builtin.Frozenset.sizeOf
 refine wpAny_bind (wpAny_pure ?_)
 try dsimp only
 refine wpAny_bind (wpAny_pure ?_)
 refine wpAny_bind (wpAny_bind (wpAny_setEntries_of ho hd hT.fits (wpAny_pure ?_)))
 have made:∀ (first:Value) (h1:Heap) (d1:Drawn) (p:Addr) (vs:List Value),h1.get? a=some o->Mode w es ep t vs a h1.objs.size p 0 (h1.push (itO first 0 a es.size ep)) first->vs.Perm (es.toList.map (·.2))->Kept s.heap h1->s.heap.objs.size<=h1.objs.size->(p < h1.objs.size\/p=0)->(s.heap.objs.size<=p\/p=0) ->
    wpAny (model prog w) A.in1 (do
     let ep' <-setEpoch a
     let r <-newFields "set_iterator" [first,rawInt 0,Value.ref a,rawInt (es.size:Nat),rawInt (ep':Nat)]
     ret r) (λ fin s'=>∃ r,fin=.done (.ret r)/\∃ T' x,s'.TypeIs r T'/\typeLookup (.type T') "__next__" = pure (some x)/\Q r s') E { s with heap:=h1,drawn:=d1 }:=λ first h1 d1 p vs ha md pm kp hs h3 h4=>by
  refine wpAny_bind (wpAny_setEpoch_of ha hd hT.fits ?_)
  unfold newFields
  refine wpAny_bind (wpAny_newObj_type ?_ (by first | size_fits | exact trivial))
  refine wpAny_pure ⟨_,rfl,"set_iterator",_,⟨_,Heap.get?_push_size _ rfl,rfl⟩,zbX.lookup,?_⟩
  refine h h1.objs.size p vs _ d1 ⟨⟨o,Heap.get?_push_of_some _ ha,hx,hd⟩,first,Heap.get?_push_size _ rfl,md⟩ pm (λ b ob q=>Heap.get?_push_of_some _ (kp b ob q)) hs h3 h4
 refine wpAny_bind (zoF ho hd hT.fits ?_)
 cases hb:byT w with
 | true =>
  simp only [Bool.not_true,Bool.false_and,Bool.false_eq_true,if_false]
  refine wpAny_bind (wpAny_pure ?_)
  exact made (rawInt 0) s.heap s.drawn 0 _ ho (.inl ⟨hb,⟨0,rfl⟩,rfl⟩) ((zqh _ es).map _) (λ _ _ q=>q) (Nat.le_refl _) (.inr rfl) (.inr rfl)
 | false =>
  by_cases hsz:t.plain=false/\es.size > 1
  . obtain ⟨hp,hsz⟩:=hsz
    have:(!false && (!t.plain && decide (es.size > 1)))=true:=by rw [hp]; simp [hsz]
    rw [this]
    simp only [if_true]
    refine wpAny_bind (zmM es.size (List.range es.size) _ _ (by simp) λ ys d pm=>?_)
    refine wpAny_bind (wpAny_newTuple ?_ (by rw [List.length_map,pm.length_eq,List.length_range]; exact hz))
    have fm:∀ l:List Nat,(∀ j∈l,j < es.size)->l.filterMap (λ j=>(es[j]?).map (·.2))=l.map λ j=>(es[j]?.map (·.2)).getD .none:=λ l=>by
     induction l with
     | nil=>intro _; rfl
     | cons j r ih =>
       intro hl
       have hj:=hl j List.mem_cons_self
       rw [List.filterMap_cons,List.map_cons,ih λ x hx=>hl x (List.mem_cons_of_mem _ hx),Array.getElem?_eq_getElem hj]
       rfl
    have rng:(List.range es.size).filterMap (λ j=>(es[j]?).map (·.2))=es.toList.map (·.2):=by
     have e1:=filterMap_getElem?_range es
     rw [<-e1,List.map_filterMap]
    have ltS:s.heap.objs.size < (s.heap.push { cls:=.type "tuple",data:=.seq (ys.map λ (n:Nat)=>rawInt n).toArray }).objs.size:=by rw [Heap.size_push]; exact Nat.lt_succ_self _
    refine made (.ref s.heap.objs.size) _ d s.heap.objs.size (ys.filterMap λ j=>(es[j]?).map (·.2)) (Heap.get?_push_of_some _ ho) (.inr (.inl ⟨hb,rfl,Nat.ne_of_lt ltS,ys,Heap.get?_push_of_some _ (Heap.get?_push_size _ rfl),rfl,pm⟩)) ?_ (λ b ob q=>Heap.get?_push_of_some _ q) (Nat.le_of_lt ltS) (.inl ltS) (.inl (Nat.le_refl _))
    rw [<-rng]
    exact pm.filterMap _
  . have hz':t.plain=true\/es.size<=1:=by
     cases e:t.plain with
     | true=>exact .inl rfl
     | false=>exact .inr (Nat.le_of_not_lt λ z=>hsz ⟨e,z⟩)
    have hri:Rise t.place:=by
     rcases hz' with z | z
     . exact hT.rise z
     . refine Rise.small ?_
       have:=hT.fits
       simp only [SetTable.fits,Bool.and_eq_true,beq_iff_eq] at this
       rw [this.1]; exact z
    have:(!false && (!t.plain && decide (es.size > 1)))=false:=by
     rcases hz' with z | z
     . simp [z]
     . simp; omega
    rw [this]
    simp only [Bool.false_eq_true,if_false]
    refine wpAny_bind (wpAny_pure ?_)
    exact made (rawInt 0) s.heap s.drawn 0 _ ho (.inr (.inr ⟨hb,hT.led hb,hz',hri,rfl,rfl⟩)) (.refl _) (λ _ _ q=>q) (Nat.le_refl _) (.inr rfl) (.inr rfl)
theorem zoE {es:Array (Int×Value)} {ep:Nat} {t:SetTable} {vs:List Value} {a it p:Addr} (hh:A.handled=none) (hf:t.fits es.size=true) (hne:a≠it):Walks prog w A it [it,a,p] [it] vs.length (λ i v=>vs[i]?=some v) (λ i h=>SIt w es ep t vs a it p i h) where
 sub:=λ b hb=>by simp at hb; simp [hb]
 frame:=λ i h h' st hk=>by
  obtain ⟨⟨o,ho,hx,hd⟩,first,hit,md⟩:=st
  refine ⟨⟨o,hk a (by simp) o ho,hx,hd⟩,first,hk it (by simp) _ hit,?_⟩
  rcases md with md | ⟨hb,e,hpi,ps,hps,r⟩ | md
  . exact .inl md
  . exact .inr (.inl ⟨hb,e,hpi,ps,hk p (by simp) _ hps,r⟩)
  . exact .inr (.inr md)
 item:=λ i s Q E hi st hQ=>by
  obtain ⟨v,hv⟩:∃ v,vs[i]?=some v:=⟨_,List.getElem?_eq_getElem hi⟩
  exact zrz hf st hne hv λ h' st' sb=>hQ v h' s.toks hv st' λ b o hb e=>(sb.2 b (by simpa using hb)).trans e
 done:=λ s Q E st hQ=>zsF hh hf st hne λ h' x=>hQ h' s.toks λ b o hb e=>x b o (by simpa using hb) e
 self:=λ i s Q E st hQ=>by
  obtain ⟨_,first,hit,_⟩:=st
  have hT:s.TypeIs (.ref it) "set_iterator" := ⟨_,hit,rfl⟩
  have sl:Slot "set_iterator" "__iter__" "set_iterator.__iter__" :=
    Slot.of (owner := "set_iterator") (n := "__iter__")
     (by rw [typeLookup_type,builtinLookup_eq_fast]; kernel_rfl) (by decide +kernel)
     (by decide +kernel) (by decide +kernel)
     (by first | exact .inl (by decide +kernel) | exact .inr (by decide +kernel))
     (by rw [isSubtype_type]; kernel_rfl)
  have en : entryFor table "set_iterator.__iter__" = some Builtin.«dict_keyiterator.__iter__» :=
    entryFor_alias (id' := "dict_keyiterator.__iter__") (by kernel_rfl) rfl
     (by decide +kernel) (by kernel_rfl)
  have ar:∀ a:Value,argsOk "set_iterator.__iter__" ⟨[a],[]⟩:=λ a=>by unfold argsOk; kernel_rfl
  refine wpAny_pyIter_slot hT sl (wpAny_call_entry sl hT en ?_ (ar _))
  show wpAny _ _ (ret (.ref it)) _ _ s
  exact wpAny_pure ⟨_,rfl,"set_iterator",_,hT,zbX.lookup,hQ⟩
end
end S6
end
section
namespace S6
open PySem PyProof.Rows
section
variable {prog:Program} {w:World} {A:Around} {E:Value->Shared->Prop} {s:Shared}
theorem zqz {r:Addr} {Q:Bool->Shared->Prop} (hT:s.TypeIs (.ref r) "set") (h:Q false s):wpAny (model prog w) A (Builtin.List.listLengthHint (.ref r)) Q E s:=by
 unfold Builtin.List.listLengthHint
 refine wpAny_bind (wpAny_specialOf hT F.slot_set_len.lookup ?_)
 generalize hid:("set.__len__" : String)=id0
 wp_delta
 rw [show splitId id0=some ("set","__len__") from by subst hid; decide +kernel]
 subst hid
 refine wpAny_bind (wpAny_isInstance (T := "set") (b:=true) hT (by rw [isSubtype_type]; kernel_rfl) ?_)
 refine wpAny_ite_split (λ hab=>absurd hab (by decide)) (λ _=>?_)
 refine wpAny_ite_split (λ _=>?_) (λ hab=>absurd (by decide +kernel) hab)
 exact wpAny_bind (wpAny_typeOf hT (wpAny_pure h))
theorem znX {P:Nat->Value->Prop} {vs:List Value} {acc:Array Value} (hP:∀ i v,P i v->vs[i]?=some v) (h:ItemsOf P acc vs.length):acc.toList=vs:=by
 refine List.ext_getElem? λ i=>?_
 cases e:acc.toList[i]? with
 | none =>
  rw [List.getElem?_eq_none_iff,Array.length_toList,h.1] at e
  rw [List.getElem?_eq_none_iff.mpr e]
 | some v=>exact (hP i v (h.2 i v (by rw [<-Array.getElem?_toList]; exact e))).symm
variable {K:Type} [DecidableEq K] {knd:KeyKind prog w K}
theorem zlG {a:Addr} {ks:List K} {R:List Value->Shared->Prop} (hh:A.handled=none) (hS:SetP knd s.heap a ks)
   (h:∀ h' tk d (vs:List Value) (ys:List K),ys.Perm ks->Paired (λ v k=>knd.is k v=true) vs ys->Kept s.heap h'->R vs { s with heap:=h',toks:=tk,drawn:=d }):wpAny (model prog w) A (collect (.ref a)) R E s:=by
 obtain ⟨ks',pk,o,es,ep,t,ho,hx,hd,hel,hnd,hb,hT⟩:=hS
 have hl:es.size=ks'.length:=by rw [<-Array.length_toList]; exact hel.length
 have hz:es.size<=sizeLine:=by rw [hl]; exact fits_of_scanBound hb
 have pv:Paired (λ v k=>knd.is k v=true) (es.toList.map (·.2)) ks':=by
   clear hl hz hd hT
   generalize es.toList=l at hel
   clear hb hnd pk
   induction hel with
   | nil=>exact .nil
   | cons r _ ih=>exact .cons r.1.1 ih
 unfold collect
 refine wpAny_bind (wpAny_runValue (codeAny_builtin F.entry_proto_collect ?_))
 rw [Around.under_plainId F.plain_proto_collect _]
 show wpAny _ A.in1 (newList [] >>= λ l=>again (.builtin "list.__iadd__" ⟨[l,.ref a],[]⟩)) _ _ s
 refine wpAny_bind (wpAny_newObj_type ?_)
 refine wpAny_pure ⟨plainId_quiet F.plain_list_iadd _,codeAny_builtin F.entry_list_iadd ?_⟩
 rw [Around.under_plainId F.plain_list_iadd _]
 generalize hg0:s.heap.push { cls:=.type "list",data:=.seq ([]:List Value).toArray }=g0
 have k0:Kept s.heap g0:=λ b ob q=>by rw [<-hg0]; exact Heap.get?_push_of_some _ q
 have l0:g0.get? s.heap.objs.size=some { cls:=.type "list",data:=.seq #[] }:=by rw [<-hg0]; exact Heap.get?_push_size _ rfl
 have hsa:s.heap.objs.size≠a:=Nat.ne_of_gt (Heap.lt_size ho)
 show wpAny _ A.in1 (Builtin.List.listExtendWith (.ref s.heap.objs.size) (.ref a) (.ref s.heap.objs.size)) _ _ _
 have fin:∀ (vs:List Value),vs.Perm (es.toList.map (·.2))->∀ (h':Heap) (tk:Nat) (d:Drawn) (acc:Array Value) (c:Nat),Kept s.heap h'->h'.get? s.heap.objs.size=some { cls:=.type "list",dict:=none,data:=.seq acc c,slots:=#[] }->acc.toList=vs ->
     wpAny (model prog w) A (do
       match (<-load s.heap.objs.size).data with
       | .seq xs _=>pure xs.toList
       | _=>unsupported "internal:collect") R E { s with heap:=h',toks:=tk,drawn:=d }:=λ vs pm h' tk d acc c kp e ea=>by
   refine wpAny_bind (wpAny_load e (wpAny_pure ?_))
   obtain ⟨ys,py,hy⟩:=zhs (ea ▸ pm:acc.toList.Perm (es.toList.map (·.2))) pv
   exact h h' tk d _ ys (py.trans pk) hy kp
 unfold Builtin.List.listExtendWith
 have ho0:g0.get? a=some o:=k0 a o ho
 have hT0:Shared.TypeIs { s with heap:=g0 } (.ref a) "set" := ⟨o,ho0,hx.1⟩
 refine wpAny_bind (wpAny_typeOf hT0 ?_)
 have n1:Builtin.List.listSameRef (.ref s.heap.objs.size) (.ref a)=false:=by simp [Builtin.List.listSameRef,hsa]
 have n2:(Value.type "set" == Value.type "list")=false:=by decide
 have n3:(Value.type "set" == Value.type "tuple")=false:=by decide
 simp only [n1,n2,n3,Bool.or_false,Bool.false_eq_true,if_false]
 refine wpAny_bind (znL (s:={ s with heap:=g0 }) ho0 hx hd hT hz λ it p vs h1 d st pm k1 hit hp1 hp2=>?_)
 have sz0:s.heap.objs.size < g0.objs.size:=Heap.lt_size l0
 have hSf:s.heap.objs.size∉[it,a,p]:=by
   intro z
   rcases List.mem_cons.mp z with z | z
   . have:g0.objs.size<=it:=hit
     omega
   . rcases List.mem_cons.mp z with z | z
     . exact hsa z
     . have z':=List.mem_singleton.mp z
       rcases hp2 with q | q
       . have:g0.objs.size<=p:=q
         omega
       . have:=Heap.lt_size ho
         rw [z',q] at this
         exact absurd this (Nat.not_lt_zero _)
 have hne:a≠it:=Nat.ne_of_lt (Nat.lt_of_lt_of_le (Heap.lt_size ho0) hit)
 have l1:=k1 _ _ l0
 have W:=zoE (prog:=prog) (w:=w) (A:=A.in1) (es:=es) (ep:=ep) (t:=t) (vs:=vs) (a:=a) (it:=it) (p:=p) hh hT.fits hne
 have hvl:vs.length<=sizeLine:=by rw [pm.length_eq,List.length_map,Array.length_toList]; exact hz
 have key:∀ (h2:Heap) (c1:Nat),SIt w es ep t vs a it p 0 h2->(∀ b ob,b≠s.heap.objs.size->s.heap.get? b=some ob->h2.get? b=some ob)->h2.get? s.heap.objs.size=some { cls:=.type "list",data:=.seq #[] c1 } ->
     codeAny (model prog w) A (.builtin "list.extend.loop" ⟨[.ref s.heap.objs.size,.ref it,.ref s.heap.objs.size],[]⟩)
       (λ q s'=>∃ (h':Heap) (tk:Nat) (acc':Array Value) (c':Nat),q=.ok (.ret (.ref s.heap.objs.size))/\s'={ s with heap:=h',toks:=tk,drawn:=d }/\Kept s.heap h'/\h'.get? s.heap.objs.size=some { cls:=.type "list",dict:=none,data:=.seq acc' c',slots:=#[] }/\acc'.toList=vs)
       { s with heap:=h2,drawn:=d }:=λ h2 c1 st2 k2 l2=>by
   refine codeAny_extend_loopS W.toS hvl s.heap.objs.size hSf (.ref s.heap.objs.size) vs.length 0 _ #[] c1 (by omega) (Nat.zero_le _) st2 l2 (ItemsOf.nil _) λ s' acc' c' hm hS' hacc=>?_
   obtain ⟨h3,g3,d3,tk3,os3⟩:=s'
   have eg:g3=s.gens:=hm.gens
   have ed:d3=d:=hm.drawn
   have eo:os3=s.os:=hm.os
   subst eg ed eo
   refine ⟨h3,tk3,acc',c',rfl,rfl,λ b ob q=>?_,hS',znX (λ _ _ z=>z) hacc⟩
   have hb1:b≠s.heap.objs.size:=Nat.ne_of_lt (Heap.lt_size q)
   refine hm.heap b ob (λ z=>?_) (k2 b ob hb1 q)
   rcases List.mem_cons.mp z with z | z
   . exact hb1 z
   . exact absurd (List.mem_singleton.mp z) (Nat.ne_of_lt (Nat.lt_of_lt_of_le (Heap.lt_size (k0 b ob q)) hit))
 have run:∀ (h2:Heap) (c1:Nat),SIt w es ep t vs a it p 0 h2->(∀ b ob,b≠s.heap.objs.size->s.heap.get? b=some ob->h2.get? b=some ob)->h2.get? s.heap.objs.size=some { cls:=.type "list",data:=.seq #[] c1 }->∀ (Z:Result->Shared->Prop),
     (∀ (h':Heap) (tk:Nat) (acc':Array Value) (c':Nat),Kept s.heap h'->h'.get? s.heap.objs.size=some { cls:=.type "list",dict:=none,data:=.seq acc' c',slots:=#[] }->acc'.toList=vs->Z (.ok (.ret (.ref s.heap.objs.size))) { s with heap:=h',toks:=tk,drawn:=d }) ->
     codeAny (model prog w) A (.builtin "list.extend.loop" ⟨[.ref s.heap.objs.size,.ref it,.ref s.heap.objs.size],[]⟩) Z { s with heap:=h2,drawn:=d }:=λ h2 c1 st2 k2 l2 Z hZ =>
   codeAny_mono (key h2 c1 st2 k2 l2) λ q s' y=>by
     obtain ⟨h',tk,acc',c',rfl,rfl,kp,e,ea⟩:=y
     exact hZ h' tk acc' c' kp e ea
 refine wpAny_bind (wpAny_holding (zqz (s:={ s with heap:=h1,drawn:=d }) ⟨o,k1 a o ho0,hx.1⟩ ?_))
 have kk:∀ b ob,b≠s.heap.objs.size->s.heap.get? b=some ob->h1.get? b=some ob:=λ b ob _ q=>k1 b ob (k0 b ob q)
 refine wpAny_ite_split (λ _=>?_) (λ _=>wpAny_pure ⟨plainId_quiet F.plain_extend_loop _,run h1 0 st kk l1 _ λ h' tk acc' c' kp e ea=>fin vs pm h' tk d acc' c' kp e ea⟩)
 refine wpAny_bind (wpAny_rule (wpAny_bind ?_))
 show wpAny _ _ (updateSeq s.heap.objs.size (·.push .none) >>= λ _=>updateSeq s.heap.objs.size (·.pop)) _ _ _
 refine wpAny_bind (wpAny_updateSeq l1 rfl ?_)
 have l2:=Heap.get?_update_self (Obj.mapSeq (·.push Value.none)) l1 rfl
 refine wpAny_updateSeq (hz:=by seq_fits) l2 rfl ?_
 have l3:=Heap.get?_update_self (Obj.mapSeq (·.pop)) l2 rfl
 refine wpAny_pure ⟨plainId_quiet F.plain_extend_loop _,run _ _ (W.frame 0 _ _ st λ b hb ob q=>?_) (λ b ob hb q=>?_) l3 _ λ h' tk acc' c' kp e ea=>fin vs pm h' tk d acc' c' kp e ea⟩
 . have hbS:b≠s.heap.objs.size:=λ z=>hSf (z ▸ hb)
   exact (Heap.get?_update_other _ _ (Ne.symm hbS)).trans ((Heap.get?_update_other _ _ (Ne.symm hbS)).trans q)
 . exact (Heap.get?_update_other _ _ (Ne.symm hb)).trans ((Heap.get?_update_other _ _ (Ne.symm hb)).trans (kk b ob hb q))
end
end S6
end
section
namespace S6
open PySem
theorem znf : entryFor table "dict.update.loop" = some Builtin.«dict.update.loop» := entryFor_of_tree (by kernel_rfl)
theorem zg5:plainId "dict.update.loop" = true:=by decide +kernel
section
variable {prog:Program} {w:World} {A:Around} {E:Value->Shared->Prop} {s:Shared}
variable {K:Type} [DecidableEq K] {knd:KeyKind prog w K}
def zmw (knd:KeyKind prog w K) (h:Heap) (its:List Value) (vs:List (K×Value)):Prop :=
 its.length=vs.length/\∀ (i:Nat) (v:Value),its[i]?=some v->∃ (a:Addr) (k:K) (kv xv:Value) (o:Obj) (n:Nat),v=Value.ref a/\vs[i]?=some (k,xv)/\h.get? a=some o/\o.cls=.type "tuple" /\ o.data=.seq #[kv,xv] n/\knd.is k kv=true
theorem stored_new {kvs:List (K×Value)} {k:K} {v:Value} (h:k∉kvs.map (·.1)):stored kvs k v=kvs++[(k,v)]:=by
 unfold stored
 rw [if_neg]
 intro z
 obtain ⟨p,hp,e⟩:=List.any_eq_true.mp z
 exact h (List.mem_map.mpr ⟨p,hp,of_decide_eq_true e⟩)
theorem pair_items {a:Addr} {o:Obj} {xs:Array Value} {n:Nat} {Q:List Value->Shared->Prop} (ho:s.heap.get? a=some o) (hc:o.cls=.type "tuple") (hd:o.data=.seq xs n) (h:Q xs.toList s):wpAny (model prog w) A (Builtin.Dict.pairItems (.ref a)) Q E s:=by
 unfold Builtin.Dict.pairItems
 refine wpAny_bind (wpAny_typeOf (T := "tuple") ⟨o,ho,hc⟩ ?_)
 rw [if_pos (by decide)]
 unfold seqItems?
 refine wpAny_bind (wpAny_bind (wpAny_load ho ?_))
 rw [hd]
 exact wpAny_pure (wpAny_pure h)
theorem zpI {h0:Heap} {D it p:Addr} {its:List Value} {vs:List (K×Value)} (hA:A.in1.handled=none) (pr:zmw knd h0 its vs) (nd:(vs.map (·.1)).Nodup) (hz:vs.length<=sizeLine) (tup:h0.IsTuple p its.toArray)
  (hne:D≠it) (hD:h0.objs.size<=D) (hit:h0.objs.size<=it) {g:Array GenState} {dr:Drawn} {os:OsState} {R:Result->Shared->Prop} (hR:∀ h' tk,(∀ b o,h0.get? b=some o->h'.get? b=some o)->h'.DictOf knd D vs->R (.ok (.ret .none)) ⟨h',g,dr,tk,os⟩) :
  ∀ (m i:Nat) (u:Tok) (h:Heap) (tk:Nat),vs.length - i=m->i<=vs.length->(∀ b o,h0.get? b=some o->h.get? b=some o)->h.IsTupleIter it p i->h.DictOf knd D (vs.take i) ->
    codeAny (model prog w) A (.builtin "dict.update.loop" ⟨[.ref D,.ref it,.int (i:Nat) u,.none],[]⟩) R ⟨h,g,dr,tk,os⟩:=by
 intro m
 induction m with
 | zero =>
  intro i u h tk hm hi kp st hd
  have ei:i=vs.length:=by omega
  subst ei
  refine codeAny_builtin znf ?_
  rw [Around.under_plainId zg5 _]
  have tup':h.IsTuple p its.toArray:=let ⟨o,e,r⟩:=tup; ⟨o,kp _ _ e,r⟩
  refine wpAny_bind (m:=pyNext (.ref it)) (wpAny_pyNext_tuple_end (s:=⟨h,g,dr,tk,os⟩) hA st tup' (by simp [pr.1]) λ h' eb=>?_)
  rw [List.take_length] at hd
  refine wpAny_bind (wpAny_pure (wpAny_pure (hR h' tk (λ b o e=>eb b o (Nat.ne_of_lt (Nat.lt_of_lt_of_le (Heap.lt_size e) hit)) (kp b o e)) ?_)))
  obtain ⟨o,es,ep,e,r⟩:=hd
  exact ⟨o,es,ep,eb D o hne e,r⟩
 | succ m ih =>
  intro i u h tk hm hi kp st hd
  have hlt:i < vs.length:=by omega
  have hlt':i < its.length:=by rw [pr.1]; exact hlt
  obtain ⟨a,k,kv,xv,o,n,hv,hvs,ho,hc,hdat,his⟩:=pr.2 i its[i] (List.getElem?_eq_getElem hlt')
  refine codeAny_builtin znf ?_
  rw [Around.under_plainId zg5 _]
  have tup':h.IsTuple p its.toArray:=let ⟨o,e,r⟩:=tup; ⟨o,kp _ _ e,r⟩
  refine wpAny_bind (m:=pyNext (.ref it)) (wpAny_pyNext_tuple_item (s:=⟨h,g,dr,tk,os⟩) (x:=.ref a) st tup' (by rw [<-hv]; simp [hlt']) λ h1 st1 sb1=>?_)
  have kp1:∀ b o,h0.get? b=some o->h1.get? b=some o:=λ b o e=>(sb1.2 b (Nat.ne_of_lt (Nat.lt_of_lt_of_le (Heap.lt_size e) hit))).trans (kp b o e)
  have hd1:h1.DictOf knd D (vs.take i):=by
    obtain ⟨o,es,ep,e,r⟩:=hd
    exact ⟨o,es,ep,(sb1.2 D hne).trans e,r⟩
  have hnk:k∉(vs.take i).map (·.1):=λ z=>by
    rw [List.map_take] at z
    have nd':=nd
    rw [<-List.take_append_drop i (vs.map (·.1))] at nd'
    obtain ⟨_,_,dis⟩:=List.nodup_append.mp nd'
    refine dis k z k (List.mem_of_getElem? (i:=0) ?_) rfl
    rw [List.getElem?_drop,List.getElem?_map,Nat.add_zero,hvs]; rfl
  refine wpAny_bind (wpAny_holding (wpAny_bind (wpAny_tryCatch (pair_items (s:=⟨h1,g,dr,tk,os⟩) (kp1 _ _ ho) hc hdat ?_))))
  refine wpAny_holding (wpAny_dictSet_pairs (s:=⟨h1,g,dr,tk,os⟩) his hd1 (λ h2 hd2 sb2=>?_) (by rw [List.length_take]; omega))
  refine wpAny_pure ⟨plainId_quiet zg5 _,ih (i+1) 0 h2 (tk+1) (by omega) hlt (λ b o e=>(sb2.2 b (Nat.ne_of_lt (Nat.lt_of_lt_of_le (Heap.lt_size e) hD))).trans (kp1 b o e)) ?_ ?_⟩
  . obtain ⟨o,e,r⟩:=st1
    exact ⟨o,(sb2.2 it hne.symm).trans e,r⟩
  . rw [stored_new hnk] at hd2
    rw [List.take_add_one,hvs]; exact hd2
theorem znm : entryFor table "proto.contains_iter" = some Builtin.«proto.contains_iter» := entryFor_of_tree (by kernel_rfl)
theorem zjU:plainId "proto.contains_iter" = true:=by decide +kernel
theorem zc5:typeLookup (.type "dict_values") "__contains__" = pure none:=by rw [typeLookup_type,builtinLookup_eq_fast]; kernel_rfl
def zow (x:Str):Value->Bool
 | .str y _=>decide (y=x)
 | _=>false
theorem zr8 {h0:Heap} {d it:Addr} {ep:Nat} {kvs:List (K×Value)} {x:Str} {t:Tok} (hA:A.in1.handled=none) (all:∀ p∈kvs,∃ y u,p.2=Value.str y u) (hm:h0.DictAt knd d kvs ep) (hit:h0.objs.size<=it) {g:Array GenState} {dr:Drawn} {os:OsState} {tk:Nat} {R:Result->Shared->Prop}
  (hR:∀ h',(∀ b o,h0.get? b=some o->h'.get? b=some o)->R (.ok (.ret (.bool (kvs.any λ p=>zow x p.2)))) ⟨h',g,dr,tk,os⟩) :
  ∀ (m i:Nat) (h:Heap),kvs.length - i=m->i<=kvs.length->(∀ b o,h0.get? b=some o->h.get? b=some o)->h.IsValIter it d i kvs.length ep->((kvs.take i).any λ p=>zow x p.2)=false ->
    codeAny (model prog w) A (.builtin "proto.contains_iter" ⟨[.ref it,.str x t],[]⟩) R ⟨h,g,dr,tk,os⟩:=by
 intro m
 induction m with
 | zero =>
  intro i h hm' hi kp st no
  have ei:i=kvs.length:=by omega
  subst ei
  refine codeAny_builtin znm ?_
  rw [Around.under_plainId zjU _]
  have hm1:h.DictAt knd d kvs ep:=let ⟨o,es,e,r⟩:=hm; ⟨o,es,kp _ _ e,r⟩
  refine wpAny_bind (m:=pyNext (.ref it)) (wpAny_pyNext_values_end (s:=⟨h,g,dr,tk,os⟩) hA st hm1 (by simp) λ h' eb=>?_)
  refine wpAny_bind (wpAny_rule (wpAny_pure ?_))
  rw [List.take_length] at no
  have:=hR h' (λ b o e=>eb b o (Nat.ne_of_lt (Nat.lt_of_lt_of_le (Heap.lt_size e) hit)) (kp b o e))
  rw [no] at this
  exact this
 | succ m ih =>
  intro i h hm' hi kp st no
  have hlt:i < kvs.length:=by omega
  refine codeAny_builtin znm ?_
  rw [Around.under_plainId zjU _]
  have hm1:h.DictAt knd d kvs ep:=let ⟨o,es,e,r⟩:=hm; ⟨o,es,kp _ _ e,r⟩
  obtain ⟨y,u,e1⟩:=all kvs[i] (List.getElem_mem hlt)
  refine wpAny_bind (m:=pyNext (.ref it)) (wpAny_pyNext_values_item (s:=⟨h,g,dr,tk,os⟩) (k:=kvs[i].1) (v:=.str y u) st hm1 (by rw [List.getElem?_eq_getElem hlt,<-e1]) λ h1 st1 sb1=>?_)
  have kp1:∀ b o,h0.get? b=some o->h1.get? b=some o:=λ b o e=>(sb1.2 b (Nat.ne_of_lt (Nat.lt_of_lt_of_le (Heap.lt_size e) hit))).trans (kp b o e)
  have e2:kvs.take (i+1)=kvs.take i++[kvs[i]]:=by rw [List.take_add_one,List.getElem?_eq_getElem hlt]; rfl
  refine wpAny_bind (wpAny_eqBool_str ?_)
  by_cases z:y=x
  . rw [decide_eq_true z,if_pos rfl]
    refine wpAny_bind (wpAny_rule (wpAny_pure ?_))
    have:=hR h1 kp1
    rw [show (kvs.any λ p=>zow x p.2)=true from List.any_eq_true.mpr ⟨kvs[i],List.getElem_mem hlt,by rw [e1]; exact decide_eq_true z⟩] at this
    exact this
  . rw [decide_eq_false z,if_neg Bool.false_ne_true]
    refine wpAny_pure ⟨plainId_quiet zjU _,ih (i+1) h1 (by omega) hlt kp1 st1 ?_⟩
    rw [e2,List.any_append,no,List.any_cons,e1]
    show (false || (decide (y=x) || _))=false
    rw [decide_eq_false z]; rfl
theorem zrh {v d:Addr} {ep:Nat} {kvs:List (K×Value)} {x:Str} {t:Tok} {Q:Bool->Shared->Prop} (hA:A.handled=none) (all:∀ p∈kvs,∃ y u,p.2=Value.str y u) (hm:s.heap.DictAt knd d kvs ep) (hv:s.heap.IsValuesView v d)
  (h:∀ h',(∀ b o,s.heap.get? b=some o->h'.get? b=some o)->Q (kvs.any λ p=>zow x p.2) { s with heap:=h' }):wpAny (model prog w) A (contains (.ref v) (.str x t)) Q E s:=by
 obtain ⟨hp,g,dr,tk,os⟩:=s
 unfold contains
 refine wpAny_holding ?_
 rw [stdlibNamesSay?_of_typeIs hv.typeIs]
 refine wpAny_bind (wpAny_specialOf hv.typeIs zc5 ?_)
 rw [if_neg (by intro z; cases z)]
 unfold callSpecialUnlessNone?
 refine wpAny_bind (wpAny_bind (wpAny_specialOf hv.typeIs zc5 (wpAny_pure ?_)))
 dsimp only
 refine wpAny_bind (wpAny_rule (wpAny_bind (wpAny_tryCatch (wpAny_pyIter_values hv hm ?_))))
 have hlt:∀ b o,hp.get? b=some o->b < hp.objs.size:=λ b o e=>Heap.lt_size e
 have hm1:(hp.push { cls:=.type "dict_valueiterator",data:=.fields #[.ref d,.int 0 0,.int kvs.length 0,.int ep 0] }).IsValIter hp.objs.size d 0 kvs.length ep:=⟨_,Heap.get?_push_size _ rfl,rfl,rfl⟩
 refine wpAny_bind (wpAny_runValue (zr8 (h0:=hp) hA all hm (Nat.le_refl _) (λ h' kp=>?_) kvs.length 0 _ (by omega) (Nat.zero_le _) (λ b o e=>Heap.get?_push_of_some _ e) hm1 rfl))
 exact wpAny_pure (h h' kp)
end
end S6
end
section
namespace S6
open PySem
theorem zjA:typeLookup (.type "tuple") "keys" = pure none:=by rw [typeLookup_type,builtinLookup_eq_fast]; kernel_rfl
section
variable {prog:Program} {w:World} {A:Around} {E:Value->Shared->Prop} {s:Shared}
theorem zlw {a:Addr} {o:Obj} {xs:Array Value} {k:Nat} {Q:Option Value->Shared->Prop} (hx:s.heap.get? a=some o) (hc:o.cls=.type "tuple") (hdat:o.data=.seq xs k) (hd:o.dict=none) (hA:A.handled=none)
  (h:∀ h' tk,(∀ b u,s.heap.get? b=some u->h'.get? b=some u)->Q none { s with heap:=h',toks:=tk }):wpAny (model prog w) A (getAttr? (.ref a) "keys") Q E s:=by
 obtain ⟨c,dct,dat,sl⟩:=o
 simp only at hc hdat hd
 subst hc hdat hd
 obtain ⟨hp,g,d,tk,os⟩:=s
 have hT:∀ tk',(⟨hp,g,d,tk',os⟩:Shared).TypeIs (.ref a) "tuple" := λ _=>⟨_,hx,rfl⟩
 have f1:=sub_AttributeError
 have f3:=F.slot_tuple_getattribute.lookup
 have f4:=F.slot_tuple_getattribute.bind (.ref a)
 have f5:=am_tuple_getattr_none
 unfold getAttr? getAttrBy? getAttrBy
 repeat (any_goals (first | assumption | exact hT _ | ((with_reducible show wpAny _ _ (call (Value.builtin "tuple.__getattribute__") _ _) _ _ _); refine call_meets F.slot_tuple_getattribute (hT _) am_entry_tuple_getattribute (F.args_tuple_getattribute_2 _ _) (meets_getattribute_miss_tuple a xs k sl "keys" _ zjA (by decide +kernel)) ⟨hx,hA,λ h' tk' e hx'=>?_⟩) | wp_step))
 obtain ⟨t',u',he⟩:=hx'.there
 show wpAny _ _ (getattributeRaised _ _ _ _ _ _ _) _ _ _
 unfold getattributeRaised
 repeat (any_goals (first | assumption | wp_step))
 exact h h' tk' hx'.1
variable {K:Type} [DecidableEq K] {knd:KeyKind prog w K}
end
end S6
end
section
namespace S6
open PySem
section
variable {prog:Program} {w:World} {A:Around} {E:Value->Shared->Prop} {s:Shared}
variable {K:Type} [DecidableEq K] {knd:KeyKind prog w K}
theorem zn8 {p:Addr} {o:Obj} {n:Nat} {its:List Value} {vs:List (K×Value)} {Q:Value->Shared->Prop} (hA:A.handled=none) (hp:s.heap.get? p=some o) (hc:o.cls=.type "tuple") (hdat:o.data=.seq its.toArray n) (hdn:o.dict=none)
  (pr:zmw knd s.heap its vs) (nd:(vs.map (·.1)).Nodup) (hz:vs.length<=sizeLine)
  (h:∀ h' tk,(∀ b o,s.heap.get? b=some o->h'.get? b=some o)->h'.DictOf knd s.heap.objs.size vs->Q (.ref s.heap.objs.size) { s with heap:=h',toks:=tk }) :
  wpAny (model prog w) A (call (.type "dict") [.ref p]) Q E s:=by
 obtain ⟨hp0,g,dr,tk0,os⟩:=s
 refine callType_codes (Q₁:=λ obj s₁=>obj=.ref hp0.objs.size/\s₁=⟨hp0.push { cls:=.type "dict",data:=.dict #[] },g,dr,tk0,os⟩) F.kt_called_dict (F.kt_typeCall_dict_1 _) F.entry_dict_init (kt_code_dict_new _ ⟨rfl,rfl⟩) ?_
 rintro obj s₁ ⟨rfl,rfl⟩
 have hnew:(hp0.push { cls:=.type "dict",data:=.dict #[] }).DictOf knd hp0.objs.size []:=Heap.DictOf.new hp0
 have hp1:=Heap.get?_push_of_some { cls:=.type "dict",data:=.dict #[] } hp
 refine ⟨Heap.DictOf.typeIs (s:=⟨hp0.push { cls:=.type "dict",data:=.dict #[] },g,dr,tk0,os⟩) hnew,F.args_dict_init_2 _ _,?_⟩
 unfold Builtin.«dict.__init__»
 refine wpAny_bind ?_
 unfold Builtin.Dict.selfAndRest
 refine wpAny_bind (wpAny_notOrdered_dict (Heap.DictOf.typeIs (s:=⟨hp0.push { cls:=.type "dict",data:=.dict #[] },g,dr,tk0,os⟩) hnew) ?_)
 show wpAny _ _ (pure (hp0.objs.size,[Value.ref p])) _ _ _
 refine wpAny_pure ?_
 show wpAny _ _ (Builtin.Dict.updateFrom "dict.__init__" hp0.objs.size (.ref p) [] .none) _ _ _
 unfold Builtin.Dict.updateFrom
 refine wpAny_bind (wpAny_typeOf (T := "tuple") ⟨o,hp1,hc⟩ ?_)
 rw [if_pos (by decide)]
 refine wpAny_bind (zlw (A:=A.in1.in1) (s:=⟨hp0.push { cls:=.type "dict",data:=.dict #[] },g,dr,tk0,os⟩) hp1 hc hdat hdn hA λ h1 tk1 kp1=>?_)
 rw [if_pos (show (none:Option Value).isNone=true from rfl)]
 refine wpAny_bind (wpAny_rule ?_)
 have tup0:hp0.IsTuple p its.toArray:=⟨o,hp,hc,n,hdat⟩
 have tup1:h1.IsTuple p its.toArray:=⟨o,kp1 _ _ hp1,hc,n,hdat⟩
 refine wpAny_bind (wpAny_pyIter_tuple (s:=⟨h1,g,dr,tk1,os⟩) tup1 ?_)
 have kp0:∀ b o,hp0.get? b=some o->h1.get? b=some o:=λ b o e=>kp1 b o (Heap.get?_push_of_some _ e)
 obtain ⟨hd1,ltD⟩:h1.DictOf knd hp0.objs.size []/\hp0.objs.size < h1.objs.size:=by
  obtain ⟨o,es,ep,e,r⟩:=hnew
  exact ⟨⟨o,es,ep,kp1 _ _ e,r⟩,Heap.lt_size (kp1 _ _ e)⟩
 refine wpAny_pure ⟨plainId_quiet zg5 _,zpI (A:=A.in1) (R:=wants (λ r s₂=>r=Value.none/\Q (Value.ref hp0.objs.size) s₂) E) (g:=g) (dr:=dr) (os:=os) (h0:=hp0) (it:=h1.objs.size) hA pr nd hz tup0 (Nat.ne_of_lt ltD) (Nat.le_refl _) (Nat.le_of_lt ltD) (λ h' tk kp hd=>⟨rfl,h h' tk kp hd⟩) vs.length 0 0 (h1.push { cls:=.type "tuple_iterator",data:=.fields #[.ref p,.int 0 0] }) tk1 (by omega) (Nat.zero_le _) (λ b o e=>Heap.get?_push_of_some _ (kp0 b o e)) ⟨_,Heap.get?_push_size _ rfl,rfl,rfl⟩ ?_⟩
 obtain ⟨o,es,ep,e,r⟩:=hd1
 exact ⟨o,es,ep,Heap.get?_push_of_some _ e,r⟩
end
end S6
end
section
namespace L2
open PySem PySem.Spec PyProof.Rows
abbrev Key:=Sum Int Str
def zhN:Key->Value->Bool
 | .inl k,v=>Value.isInt k v
 | .inr x,v=>Value.isStrOf x v
def keyH (w:World):Key->Int
 | .inl k=>hashInt k
 | .inr x=>hashStr w x
theorem zaV:∀ {k:Key} {v:Value},zhN k v=true->(∃ i t,k=Sum.inl i/\v=Value.int i t)\/(∃ x t,k=Sum.inr x/\v=Value.str x t)
 | .inl i,v,h=>by
  obtain ⟨t,e⟩:=Value.isInt_shape (k:=i) (v:=v) h
  exact .inl ⟨i,t,rfl,e⟩
 | .inr x,v,h=>by
  obtain ⟨t,e⟩:=Value.isStrOf_shape (x:=x) (v:=v) h
  exact .inr ⟨x,t,rfl,e⟩
theorem zpi (i:Int) (t:Tok):zhN (.inl i) (.int i t)=true:=by simp [zhN,Value.isInt]
theorem zph (x:Str) (t:Tok):zhN (.inr x) (.str x t)=true:=by simp [zhN,Value.isStrOf]
theorem zs3 (a b:Int):decide ((Sum.inl a:Key)=Sum.inl b)=(a == b):=by
 by_cases e:a=b
 . subst e; simp
 . have h:¬ (Sum.inl a:Key)=Sum.inl b:=λ q=>e (Sum.inl.inj q)
   rw [decide_eq_false h]
   exact (beq_eq_false_iff_ne.mpr e).symm
theorem zq3 (a b:Str):decide ((Sum.inr a:Key)=Sum.inr b)=decide (a=b):=by
 by_cases e:a=b
 . subst e; simp
 . have h:¬ (Sum.inr a:Key)=Sum.inr b:=λ q=>e (Sum.inr.inj q)
   rw [decide_eq_false h,decide_eq_false e]
theorem zs2 (a:Int) (b:Str):decide ((Sum.inl a:Key)=Sum.inr b)=false:=decide_eq_false (λ q=>nomatch q)
theorem zs1 (a:Str) (b:Int):decide ((Sum.inr a:Key)=Sum.inl b)=false:=decide_eq_false (λ q=>nomatch q)
def zaC (prog:Program) (w:World):PySem.KeyKind prog w Key where
 is:=zhN
 hash:=keyH w
 inj:=λ v a b ha hb=>by
  rcases zaV ha with ⟨i,t,rfl,rfl⟩ | ⟨x,t,rfl,rfl⟩
  . rcases zaV hb with ⟨j,u,rfl,e⟩ | ⟨y,u,rfl,e⟩
    . injection e with e1 _; rw [e1]
    . exact nomatch e
  . rcases zaV hb with ⟨j,u,rfl,e⟩ | ⟨y,u,rfl,e⟩
    . exact nomatch e
    . injection e with e1 _; rw [e1]
 byValue:=λ k v h=>by
  rcases zaV h with ⟨i,t,rfl,rfl⟩ | ⟨x,t,rfl,rfl⟩ <;> rfl
 pyHash:=λ hv h=>by
  rcases zaV hv with ⟨i,t,rfl,rfl⟩ | ⟨x,t,rfl,rfl⟩
  . exact wpAny_pyHash_int h
  . exact wpAny_pyHash_str h
 eqBool:=λ hu hv h=>by
  rcases zaV hu with ⟨i,t,rfl,rfl⟩ | ⟨x,t,rfl,rfl⟩
  . rcases zaV hv with ⟨j,u,rfl,rfl⟩ | ⟨y,u,rfl,rfl⟩
    . rw [zs3] at h; exact wpAny_eqBool_int h
    . rw [zs2] at h; exact SeqAt.EqAt.int_str i t y u _ _ _ _ h
  . rcases zaV hv with ⟨j,u,rfl,rfl⟩ | ⟨y,u,rfl,rfl⟩
    . rw [zs1] at h; exact SeqAt.EqAt.str_int x t j u _ _ _ _ h
    . rw [zq3] at h; exact wpAny_eqBool_str h
 «strs» := fun k x t v h => by
  rcases zaV h with ⟨i,u,rfl,e⟩ | ⟨y,u,rfl,e⟩
  . exact nomatch e
  . injection e with e1 _
    subst e1
    cases v <;> rfl
theorem zfl (prog:Program) (w:World) (i:Int) (t:Tok):(zaC prog w).is (.inl i) (.int i t)=true:=zpi i t
theorem zfk (prog:Program) (w:World) (x:Str) (t:Tok):(zaC prog w).is (.inr x) (.str x t)=true:=zph x t
end L2
namespace L2
open PySem PySem.Spec PyProof.Rows
inductive V where
 | non | bl (b:Bool) | int (i:Int) | str (x:Str) | byt (b:Array UInt8) | flt (b:UInt64) | ref (a:Addr) | ty (n:String)
 deriving DecidableEq
def RelV:V->Value->Prop
 | .non,u=>u=Value.none
 | .bl b,u=>u=Value.bool b
 | .int i,u=>∃ t,u=Value.int i t
 | .str x,u=>∃ t,u=Value.str x t
 | .byt b,u=>∃ t,u=Value.bytes b t
 | .flt b,u=>∃ t,u=Value.float b t
 | .ref a,u=>u=Value.ref a
 | .ty n,u=>u=Value.type n
abbrev Vals:List V->List Value->Prop:=Paired RelV
theorem Vals.length {xs:List V} {us:List Value} (r:Vals xs us):xs.length=us.length:=Paired.length r
theorem Vals.get:∀ {xs:List V} {us:List Value} {i:Nat} {x:V},Vals xs us->xs[i]?=some x->∃ u,us[i]?=some u/\RelV x u
 | _,_,_,_,.nil,e=>by simp at e
 | _,_,0,_,.cons r _,e=>by simp at e; subst e; exact ⟨_,rfl,r⟩
 | _,_,i+1,x,.cons _ t,e=>by
  obtain ⟨u,h1,h2⟩:=Vals.get (i:=i) (x:=x) t (by simpa using e)
  exact ⟨u,by simpa using h1,h2⟩
theorem Vals.set {x:V} {u:Value} (r:RelV x u):∀ {xs:List V} {us:List Value} (i:Nat),Vals xs us->Vals (xs.set i x) (us.set i u)
 | _,_,_,.nil=>.nil
 | _,_,0,.cons _ t=>.cons r t
 | _,_,i+1,.cons q t=>.cons q (Vals.set r i t)
theorem Vals.append:∀ {xs ys:List V} {us ws:List Value},Vals xs us->Vals ys ws->Vals (xs++ys) (us++ws)
 | _,_,_,_,.nil,s=>s
 | _,_,_,_,.cons r t,s=>.cons r (Vals.append t s)
theorem Vals.take:∀ {xs:List V} {us:List Value} (n:Nat),Vals xs us->Vals (xs.take n) (us.take n)
 | _,_,0,_=>.nil
 | _,_,_+1,.nil=>.nil
 | _,_,n+1,.cons r t=>.cons r (Vals.take n t)
theorem Vals.drop:∀ {xs:List V} {us:List Value} (n:Nat),Vals xs us->Vals (xs.drop n) (us.drop n)
 | _,_,0,r=>r
 | _,_,_+1,.nil=>.nil
 | _,_,n+1,.cons _ t=>Vals.drop n t
def RelO:Option V->Option Value->Prop
 | some v,some u=>RelV v u
 | none,none=>True
 | _,_=>False
def KV {κ:Type}:List (κ×V)->List (κ×Value)->Prop:=Paired λ (p:κ×V) (q:κ×Value)=>p.1=q.1/\RelV p.2 q.2
def kV:Key->V
 | .inl i=>.int i
 | .inr x=>.str x
inductive HO where
 | lst (xs:List V)
 | tup (xs:List V)
 | dK (kvs:List (Key×V)) | dT (kvs:List (List Key×V))
 | set (S:Int->Bool) (n:Nat)
 | ins (C dx:Addr) (fs:List (Str×V))
 | own (x:Addr)
 | xd (fs:List (Str×V))
 | met (f x:Addr)
 | rng (lo hi:Int)
 | frz (o:Obj) (u:HO)
 | tbl (ps:Array Value)
 | ext (φ:Heap->Prop)
abbrev Hp:=Addr->Option HO
def upd (H:Hp) (a:Addr) (o:HO):Hp:=λ b=>if b=a then some o else H b
theorem zab {H:Hp} {a:Addr} {o:HO}:upd H a o a=some o:=by unfold upd; rw [if_pos rfl]
theorem zae {H:Hp} {a b:Addr} {o:HO} (h:b≠a):upd H a o b=H b:=by unfold upd; rw [if_neg h]
theorem zjd {H:Hp} {a:Addr} {o u:HO}:upd (upd H a o) a u=upd H a u:=by
 funext b; unfold upd; split <;> rfl
theorem zbF {H:Hp} {a b:Addr} {o u:HO} (h:H a=some o) (h':H b=some u) (d:o≠u):a≠b:=by
 intro e; subst e; rw [h] at h'; exact d (Option.some.inj h')
theorem zaf {H:Hp} {a b:Addr} {o:HO} (h:H a=some o) (h':H b=none):a≠b:=by
 intro e; subst e; rw [h] at h'; cases h'
section
variable (P:Program) (w:World)
def zbH (H:Hp) (h:Heap) (a:Addr):HO->Prop
 | .lst xs=>xs.length<=sizeLine/\∃ (its:List Value) (n:Nat),Vals xs its/\h.get? a=some { cls:=.type "list",data:=.seq its.toArray n }
 | .tup xs=>xs.length<=sizeLine/\∃ its:List Value,Vals xs its/\IsTup h a its.toArray
 | .dK kvs=>kvs.length<=sizeLine/\(a == sysModules)=false/\∃ vs,KV kvs vs/\h.DictOf (zaC P w) a vs
 | .dT kvs=>kvs.length<=sizeLine/\(a == sysModules)=false/\∃ xs:List (List Key×Addr×Value),
  Paired (λ (p:List Key×V) (q:List Key×Addr×Value)=>p.1=q.1/\H q.2.1=some (.tup (p.1.map kV))/\RelV p.2 q.2.2) kvs xs /\
  ∃ o es ep,h.get? a=some o/\o.ExactDict/\o.data=.dict es ep/\es.toList=xs.map (entryOfKey (tupleKind (zaC P w)))/\(xs.map (·.1)).Nodup
 | .set S n=>h.SetOf (intKind P w) a S n
 | .ins C dx fs=>H dx=some (.own a)/\fs.length<=1000/\dx≠a/\h.get? a=some (PySem.W.instObj C dx) /\
  ∃ mA,h.Ns1 dx mA/\(∀ f,RelO (fs.lookup f) (mA f))/\PySem.Within mA (fs.map (·.1))
 | .own _=>∃ o,h.get? a=some o
 | .xd fs=>∃ mA,h.Ns1 a mA/\∀ f,RelO (fs.lookup f) (mA f)
 | .rng lo hi=>∃ t u v,h.get? a=some { cls:=.type "range",data:=.fields #[.int lo t,.int hi u,.int 1 v] }
 | .frz o u=>h.get? a=some o/\zbH H h a u
 | .tbl ps=>h.get? a=some { cls:=.none,data:=.fields ps }
 | .met f x=>h.get? a=some (PySem.W.methodObj (.ref f) (.ref x))
 | .ext φ=>φ h/\(∃ o,h.get? a=some o)/\∀ h1 h2:Heap,φ h1->(∀ o,h1.get? a=some o->h2.get? a=some o)->φ h2
def HOk (H:Hp) (h:Heap):Prop:=∀ a o,H a=some o->zbH P w H h a o
end
section
variable {P:Program} {w:World} {H H':Hp} {h h':Heap} {a:Addr} {o:HO}
theorem zbH.lt (x:zbH P w H h a o):a < h.objs.size:=by
 cases o with
 | lst xs=>obtain ⟨_,_,_,_,e⟩:=x; exact Heap.lt_size e
 | tup xs=>obtain ⟨_,_,_,p⟩:=x; exact p.lt
 | dK kvs=>obtain ⟨_,_,_,_,o,_,_,e,_⟩:=x; exact Heap.lt_size e
 | dT kvs=>obtain ⟨_,_,_,_,o,_,_,e,_⟩:=x; exact Heap.lt_size e
 | set S n=>obtain ⟨o,_,_,_,e,_⟩:=x; exact Heap.lt_size e
 | ins C dx fs=>obtain ⟨_,_,_,e,_⟩:=x; exact Heap.lt_size e
 | own y=>obtain ⟨_,e⟩:=x; exact Heap.lt_size e
 | xd fs=>obtain ⟨_,⟨_,_,_,e,_⟩,_⟩:=x; exact Heap.lt_size e
 | rng lo hi=>obtain ⟨_,_,_,e⟩:=x; exact Heap.lt_size e
 | frz ob u=>obtain ⟨e,_⟩:=x; exact Heap.lt_size e
 | tbl ps=>exact Heap.lt_size (show h.get? a=some _ from x)
 | met f y=>exact Heap.lt_size (show h.get? a=some _ from x)
 | ext φ=>obtain ⟨_,⟨_,e⟩,_⟩:=x; exact Heap.lt_size e
theorem Paired.mapP {α β:Type} {F G:α->β->Prop}:∀ {l₁:List α} {l₂:List β},Paired F l₁ l₂->(∀ a b,F a b->G a b)->Paired G l₁ l₂
 | _,_,.nil,_=>.nil
 | _,_,.cons r t,f=>.cons (f _ _ r) (Paired.mapP t f)
theorem zbH.stay (x:zbH P w H h a o) (k:∀ b u,(b=a\/H b=some (.own a))->h.get? b=some u->h'.get? b=some u)
  (ho:∀ b,H b=some (.own a)->H' b=some (.own a)) (ht:∀ b xs,H b=some (.tup xs)->H' b=some (.tup xs)):zbH P w H' h' a o:=by
 induction o with
 | lst xs=>obtain ⟨z,its,n,r,e⟩:=x; exact ⟨z,its,n,r,k _ _ (.inl rfl) e⟩
 | tup xs=>obtain ⟨z,its,r,ob,e,c⟩:=x; exact ⟨z,its,r,ob,k _ _ (.inl rfl) e,c⟩
 | dK kvs=>obtain ⟨z,y,vs,r,ob,es,ep,e,c⟩:=x; exact ⟨z,y,vs,r,ob,es,ep,k _ _ (.inl rfl) e,c⟩
 | dT kvs =>
  obtain ⟨z,y,xs,r,ob,es,ep,e,c⟩:=x
  exact ⟨z,y,xs,Paired.mapP r λ p q z=>⟨z.1,ht _ _ z.2.1,z.2.2⟩,ob,es,ep,k _ _ (.inl rfl) e,c⟩
 | set S n=>obtain ⟨ob,es,ep,t,e,c⟩:=x; exact ⟨ob,es,ep,t,k _ _ (.inl rfl) e,c⟩
 | ins C dx fs =>
  obtain ⟨d,z,ne,e,mA,⟨od,es,ep,e2,c⟩,r⟩:=x
  exact ⟨ho _ d,z,ne,k _ _ (.inl rfl) e,mA,⟨od,es,ep,k _ _ (.inr d) e2,c⟩,r⟩
 | own y=>obtain ⟨ob,e⟩:=x; exact ⟨ob,k _ _ (.inl rfl) e⟩
 | xd fs=>obtain ⟨mA,⟨od,es,ep,e,c⟩,r⟩:=x; exact ⟨mA,⟨od,es,ep,k _ _ (.inl rfl) e,c⟩,r⟩
 | rng lo hi=>obtain ⟨t,u,v,e⟩:=x; exact ⟨t,u,v,k _ _ (.inl rfl) e⟩
 | frz ob u ih=>obtain ⟨e,q⟩:=x; exact ⟨k _ _ (.inl rfl) e,ih q⟩
 | tbl ps =>
  have e:h.get? a=some { cls:=.none,data:=.fields ps }:=x
  show h'.get? a=some { cls:=.none,data:=.fields ps }
  exact k a _ (.inl rfl) e
 | met f y =>
  have e:h.get? a=some (PySem.W.methodObj (.ref f) (.ref y)):=x
  show h'.get? a=some (PySem.W.methodObj (.ref f) (.ref y))
  exact k a _ (.inl rfl) e
 | ext φ=>obtain ⟨p,⟨o,e⟩,st⟩:=x; exact ⟨st _ _ p λ o q=>k _ _ (.inl rfl) q,⟨o,k _ _ (.inl rfl) e⟩,st⟩
theorem HOk.lt (x:HOk P w H h) (e:H a=some o):a < h.objs.size:=(x a o e).lt
theorem HOk.fresh (x:HOk P w H h) (e:h.objs.size<=a):H a=none:=by
 cases q:H a with
 | none=>rfl
 | some u=>exact absurd (Nat.lt_of_lt_of_le (x.lt q) e) (Nat.lt_irrefl _)
theorem HOk.kept (x:HOk P w H h) (k:∀ b u,h.get? b=some u->h'.get? b=some u):HOk P w H h':=λ a o e =>
 (x a o e).stay (λ b u _ q=>k b u q) (λ _ q=>q) λ _ _ q=>q
theorem HOk.laid (x:HOk P w H h) (k:∀ b u,h.get? b=some u->h'.get? b=some u) (hp:h.objs.size<=a) (new:zbH P w (upd H a o) h' a o):HOk P w (upd H a o) h':=λ b u e=>by
 have hn:=x.fresh hp
 by_cases hb:b=a
 . subst hb; rw [zab] at e; cases e; exact new
 . rw [zae hb] at e
   exact (x b u e).stay (λ c v _ q=>k c v q) (λ c q=>by rw [zae (zaf q hn)]; exact q) λ c xs q=>by rw [zae (zaf q hn)]; exact q
end
def Rd (H:Hp) (a:Addr) (u:HO):Prop:=H a=some u\/∃ o,H a=some (.frz o u)
theorem Rd.of {H:Hp} {a:Addr} {u:HO} (h:H a=some u):Rd H a u:=.inl h
theorem Rd.ok {P:Program} {w:World} {H:Hp} {h:Heap} {a:Addr} {u:HO} (r:Rd H a u) (x:HOk P w H h):zbH P w H h a u:=by
 rcases r with r | ⟨o,r⟩
 . exact x a u r
 . obtain ⟨_,q⟩:=x a _ r
   exact q
def Mut:Option HO->Prop
 | some (.lst _)=>True
 | some (.dK _)=>True
 | some (.dT _)=>True
 | some (.set _ _)=>True
 | some (.ins _ _ _)=>True
 | some (.ext _)=>True
 | _=>False
section
variable {P:Program} {w:World} {H:Hp} {h h':Heap} {x e:Addr} {o':HO}
theorem HOk.write (ok:HOk P w H h) (mu:Mut (H x)) (he:e=x\/H e=some (.own x)) (k:∀ b u,b≠e->h.get? b=some u->h'.get? b=some u) (heo:∃ u,h'.get? e=some u)
   (new:zbH P w (upd H x o') h' x o'):HOk P w (upd H x o') h':=λ b u q=>by
 have nown:∀ c y,H c=some (.own y)->c≠x:=λ c y r z=>by subst z; rw [r] at mu; exact mu
 have ntup:∀ c xs,H c=some (.tup xs)->c≠x:=λ c xs r z=>by subst z; rw [r] at mu; exact mu
 by_cases hb:b=x
 . subst hb; rw [zab] at q; cases q; exact new
 . rw [zae hb] at q
   by_cases hbe:b=e
   . have q':H b=some (.own x):=by
       rcases he with z | z
       . exact absurd (hbe.trans z) hb
       . rw [hbe]; exact z
     rw [q] at q'; cases q'
     obtain ⟨v,hv⟩:=heo
     exact ⟨v,by rw [hbe]; exact hv⟩
   . refine (ok b u q).stay (λ c v hc r=>k c v ?_ r) (λ c r=>by rw [zae (nown c b r)]; exact r) λ c xs r=>by rw [zae (ntup c xs r)]; exact r
     rcases hc with rfl | hc
     . exact hbe
     . rintro rfl
       rcases he with z | z
       . exact nown c b hc z
       . rw [hc] at z; cases z; exact hb rfl
end
structure Un (fs ex:List Addr) (H H':Hp) (h h':Heap):Prop where
 keep:∀ b o,h.get? b=some o->H b=none->b∉fs->b∉ex->h'.get? b=some o
 slot:∀ b o,h.get? b=some o->H b=none->b∈fs->b∉ex->∃ sl,h'.get? b=some { o with slots:=sl }
 free:∀ b o,h.get? b=some o->H b=none->b∉ex->H' b=none
 there:∀ b o,h.get? b=some o->b∉ex->∃ o',h'.get? b=some o'
 tups:∀ b xs,H b=some (.tup xs)->H' b=some (.tup xs)
 frzs:∀ b o u,H b=some (.frz o u)->H' b=some (.frz o u)
 tbls:∀ b ps,H b=some (.tbl ps)->∃ more,H' b=some (.tbl (ps++more))
section
variable {fs fs' ex ex':List Addr} {H H1 H2:Hp} {h h1 h2 h':Heap} {a x e:Addr} {o:HO}
theorem Un.any (u:Un fs ex H H1 h h1) {b:Addr} {ob:Obj} (q:h.get? b=some ob) (n:H b=none) (hx:b∉ex):∃ sl,h1.get? b=some { ob with slots:=sl }:=by
 by_cases hb:b∈fs
 . exact u.slot b ob q n hb hx
 . exact ⟨ob.slots,u.keep b ob q n hb hx⟩
theorem Un.kept (k:∀ b u,h.get? b=some u->h'.get? b=some u):Un fs ex H H h h' :=
 ⟨λ b ob q _ _ _=>k b ob q,λ b ob q _ _ _=>⟨ob.slots,k b ob q⟩,λ _ _ _ n _=>n,λ b ob q _=>⟨ob,k b ob q⟩,λ _ _ q=>q,λ _ _ _ q=>q,λ _ ps q=>⟨#[],by rw [q]; simp⟩⟩
theorem Un.refl:Un fs ex H H h h:=Un.kept λ _ _ q=>q
theorem Un.laid (k:∀ b u,h.get? b=some u->h'.get? b=some u) (hp:h.objs.size<=a) (hn:H a=none):Un fs ex H (upd H a o) h h' where
 keep:=λ b u q _ _ _=>k b u q
 slot:=λ b u q _ _ _=>⟨u.slots,k b u q⟩
 free:=λ b u q n _=>by rw [zae (Nat.ne_of_lt (Nat.lt_of_lt_of_le (Heap.lt_size q) hp))]; exact n
 there:=λ b u q _=>⟨u,k b u q⟩
 tups:=λ b xs q=>by rw [zae (zaf q hn)]; exact q
 frzs:=λ b u xs q=>by rw [zae (zaf q hn)]; exact q
 tbls:=λ b ps q=>⟨#[],by rw [zae (zaf q hn),q]; simp⟩
theorem Un.write (mu:Mut (H x)) (he:e=x\/H e=some (.own x)) (k:∀ b u,b≠e->h.get? b=some u->h'.get? b=some u) (heo:∃ u,h'.get? e=some u):Un fs ex H (upd H x o) h h':=by
 have hx:∀ b,H b=none->b≠x:=λ b n z=>by subst z; rw [n] at mu; exact mu
 have hb:∀ b,H b=none->b≠e:=λ b n z=>by
   subst z
   rcases he with r | r
   . exact hx b n r
   . rw [n] at r; cases r
 have hm:∀ b u,H b=some u->¬ Mut (some u)->b≠x:=λ b u q nm z=>by subst z; rw [q] at mu; exact nm mu
 refine ⟨λ b u q n _ _=>k b u (hb b n) q,λ b u q n _ _=>⟨u.slots,k b u (hb b n) q⟩,λ b u q n _=>by rw [zae (hx b n)]; exact n,λ b u q _=>?_,
   λ b xs q=>by rw [zae (hm b _ q λ z=>z)]; exact q,λ b u xs q=>by rw [zae (hm b _ q λ z=>z)]; exact q,λ b ps q=>⟨#[],by rw [zae (hm b _ q λ z=>z),q]; simp⟩⟩
 by_cases hbe:b=e
 . subst hbe; exact heo
 . exact ⟨u,k b u hbe q⟩
end
def trk (h:Heap) (H:Hp):List Addr:=(List.range h.objs.size).filter λ a=>(H a).isSome
def hidT (h:Heap) (H:Hp):Heap:=PySem.W.hideAll h (trk h H)
theorem zpr (h:Heap) (H:Hp):(hidT h H).objs.size=h.objs.size:=PySem.W.hideAll_size _ _
theorem zqA {h:Heap} {H:Hp} {b:Addr} {o:Obj} (e:h.get? b=some o) (n:H b=none):(hidT h H).get? b=some o :=
 PySem.W.hideAll_get _ e λ hm=>by
  have q:(H b).isSome=true:=(List.mem_filter.mp hm).2
  rw [n] at q; simp at q
theorem zrO {h:Heap} {H:Hp} {b:Addr} {o:Obj} (e:(hidT h H).get? b=some o):h.get? b=some o/\H b=none:=by
 have e':h.get? b=some o:=PySem.W.of_hideAll (trk h H) e
 refine ⟨e',?_⟩
 cases q:H b with
 | none=>rfl
 | some x =>
  have hm:b∈trk h H:=List.mem_filter.mpr ⟨List.mem_range.mpr (Heap.lt_size e'),by simp [q]⟩
  have z:(hidT h H).get? b=none:=PySem.W.hideAll_none (trk h H) hm
  rw [z] at e; cases e
end L2
namespace L2
open PySem PySem.Spec PyProof.Rows
structure Mod (K:PySem.W.Frag) (mg:Str->Option Value) (base:Heap):Prop where
 kin:K.In base
 glob:base.Ns mainGlobals mg
 blt:∃ mb,base.Ns builtinsNs mb/\∀ x:Str,x ≠ "__name__" -> mb x=bootBuiltins x
 nolimit:base.NoLimit
structure Cx where
 prog:Program
 w:World
 K:PySem.W.Frag
 mg:Str->Option Value
 base:Heap
 A:Around
 N:List Str
 s₀:Shared
 H₀:Hp
 env:Env
 outer:List Env
 stack:List Env
 ex:List Addr
 fn:Str->Bool
 calm:Bool
 pn:List (Addr×Obj)
 xe:Value->Shared->Prop
def frs (l:List Env):List Addr:=l.filterMap (·.frame)
abbrev Cx.fs (X:Cx):List Addr:=frs X.outer
def Vis (sc:Scope) (x:Str):Prop:=sc.names.lookup x=some .local\/sc.names.lookup x=some .cell\/sc.names.lookup x=some .free
def Loc (sc:Scope) (x:Str):Prop:=sc.names.lookup x=some .local\/sc.names.lookup x=some .cell
def Look (env:Env) (h:Heap) (m:Str->Option Value) (x:Str) (u:Value):Prop :=
 (env.kindOf x=some .local/\m x=some u)\/((env.kindOf x=some .cell\/env.kindOf x=some .free)/\∃ c,env.cells.lookup x=some c/\h.IsCell c (some u))
structure Cx.Ok (X:Cx):Prop where
 mod:Mod X.K X.mg X.base
 kind:X.env.scope.kind=.function
 glob:X.env.globals=mainGlobals
 blt:X.env.builtins=builtinsNs
 above:X.s₀.heap.objs.size<=X.env.locals
 inj:∀ x y c,X.env.cells.lookup x=some c->X.env.cells.lookup y=some c->x=y
 has:∀ x,(X.env.kindOf x=some .cell\/X.env.kindOf x=some .free)->∃ c,X.env.cells.lookup x=some c
 cab:∀ x c,X.fn x=true->X.env.cells.lookup x=some c->X.s₀.heap.objs.size<=c
 hd:X.calm=true->X.A.handled=none
 frames:X.A.frames=some X.stack
 stk:X.stack=X.outer\/(X.stack=X.env::X.outer/\X.env.frame=some X.env.locals)
 exf:∀ b∈X.ex,b≠X.env.locals/\∀ x c,X.env.cells.lookup x=some c->c≠b
 bs:∀ b o,X.base.get? b=some o->X.s₀.heap.get? b=some o/\X.H₀ b=none
 bsz:X.base.objs.size<=X.s₀.heap.objs.size
 noex:∀ b o,X.base.get? b=some o->b∉X.ex
 exfs:∀ b∈X.ex,b∉X.fs
 funs:X.s₀.heap.FunFrames X.base X.outer
 frf:∀ b∈X.fs,X.H₀ b=none
structure Inv (X:Cx) (pins:List (Addr×Obj)) (σ:List (Option V)) (H:Hp) (s:Shared):Prop where
 ok:X.Ok
 os:s.os=X.s₀.os
 bare:AllBare s.gens
 base:Un X.fs X.ex X.H₀ H X.s₀.heap s.heap
 loc:∃ m,s.heap.Ns X.env.locals m/\∀ (i:Nat) (x:Str) (v:V),X.N[i]?=some x->σ[i]?=some (some v)->Vis X.env.scope x->∃ u,RelV v u/\Look X.env s.heap m x u
 cell:∀ x c,X.env.cells.lookup x=some c->∃ v,s.heap.IsCell c v
 free:H X.env.locals=none
 zd6:∀ x c,X.env.cells.lookup x=some c->H c=none
 pin:∀ p∈X.pn++pins,s.heap.get? p.1=some p.2/\H p.1=none/\p.1≠X.env.locals/\p.1∉X.fs/\∀ v,p.2.data≠.cell v
 hok:HOk X.prog X.w H s.heap
 len:σ.length=X.N.length
section
variable {X:Cx} {pins:List (Addr×Obj)} {σ:List (Option V)} {H H':Hp} {s:Shared} {h':Heap}
theorem Cx.Ok.nofr (ok:X.Ok) {b:Addr} {o:Obj} (e:X.base.get? b=some o):b∉X.fs:=λ hb=>by
 have:=(ok.funs.mem hb).1
 rw [e] at this; cases this
theorem Inv.bs (I:Inv X pins σ H s):∀ b o,X.base.get? b=some o->s.heap.get? b=some o/\H b=none:=λ b o e =>
 ⟨I.base.keep b o (I.ok.bs b o e).1 (I.ok.bs b o e).2 (I.ok.nofr e) (I.ok.noex b o e),I.base.free b o (I.ok.bs b o e).1 (I.ok.bs b o e).2 (I.ok.noex b o e)⟩
theorem Inv.bk (I:Inv X pins σ H s):∀ b o,X.base.get? b=some o->s.heap.get? b=some o:=λ b o e=>(I.bs b o e).1
theorem Inv.mod (I:Inv X pins σ H s):Mod X.K X.mg X.base:=I.ok.mod
theorem Inv.kIn (I:Inv X pins σ H s):X.K.In s.heap:=I.ok.mod.kin.keeps I.bk
theorem Inv.fr (I:Inv X pins σ H s):∃ m,Fr X.base X.env.locals s.heap m :=
 let ⟨m,hn,_⟩:=I.loc
 ⟨m,hn,I.bk,Nat.le_trans I.ok.bsz I.ok.above⟩
theorem Inv.lt (I:Inv X pins σ H s):X.env.locals < s.heap.objs.size:=let ⟨_,hn,_⟩:=I.loc; hn.lt
theorem Inv.sz (I:Inv X pins σ H s):X.s₀.heap.objs.size<=s.heap.objs.size:=Nat.le_trans I.ok.above (Nat.le_of_lt I.lt)
theorem Inv.nofs (I:Inv X pins σ H s) {a:Addr} (h:s.heap.objs.size<=a):a∉X.fs:=λ hb=>by
 obtain ⟨_,o,ho,_⟩:=I.ok.funs.mem hb
 exact absurd (Nat.lt_of_lt_of_le (Heap.lt_size ho) (Nat.le_trans I.sz h)) (Nat.lt_irrefl _)
theorem Inv.cne (I:Inv X pins σ H s):∀ x c,X.env.cells.lookup x=some c->c≠X.env.locals:=λ x c e z=>by
 obtain ⟨v,o,ho,hd⟩:=I.cell x c e
 obtain ⟨m,⟨o',es,ep,ho',hd',_⟩,_⟩:=I.loc
 rw [z,ho'] at ho; cases ho; rw [hd'] at hd; cases hd
theorem Inv.funs (I:Inv X pins σ H s):s.heap.FunFrames X.base X.outer:=by
 have all:∀ (l:List Env),(∀ b∈frs l,b∈X.fs)->X.s₀.heap.FunFrames X.base l->s.heap.FunFrames X.base l:=by
  intro l
  induction l with
  | nil=>intro _ _; trivial
  | cons env r ih =>
   intro hs hl
   obtain ⟨hk,⟨L,o,hf,hn,ho,hd⟩,hr⟩:=hl
   have hL:L∈X.fs:=hs L (by unfold frs; rw [List.filterMap_cons,hf]; exact List.mem_cons_self)
   obtain ⟨sl,e⟩:=I.base.slot L o ho (I.ok.frf L hL) hL λ z=>I.ok.exfs L z hL
   exact ⟨hk,⟨L,_,hf,hn,e,hd⟩,ih (λ b hb=>hs b (by unfold frs; rw [List.filterMap_cons,hf]; exact List.mem_cons_of_mem _ hb)) hr⟩
 exact all X.outer (λ _ hb=>hb) I.ok.funs
theorem Inv.stack (I:Inv X pins σ H s):s.heap.FunFrames X.base X.stack:=by
 rcases I.ok.stk with e | ⟨e,hf⟩
 . rw [e]; exact I.funs
 . rw [e]
   obtain ⟨m,hn,_⟩:=I.loc
   refine .cons (by rw [I.ok.kind]; decide) hf hn ?_ I.funs
   exact Heap.get?_none_of_le (Nat.le_trans I.ok.bsz I.ok.above)
theorem Inv.zmQ (I:Inv X pins σ H s):∀ b∈frs X.stack,b∈X.env.locals::X.fs:=λ b hb=>by
 rcases I.ok.stk with e | ⟨e,hf⟩
 . rw [e] at hb; exact List.mem_cons_of_mem _ hb
 . rw [e] at hb
   unfold frs at hb
   rw [List.filterMap_cons,hf] at hb
   exact hb
theorem Inv.zha (I:Inv X pins σ H s):∀ b∈frs X.stack,H b=none:=λ b hb=>by
 rcases List.mem_cons.mp (I.zmQ b hb) with e | hb
 . rw [e]; exact I.free
 . obtain ⟨_,o,ho,_⟩:=I.ok.funs.mem hb
   exact I.base.free b o ho (I.ok.frf b hb) λ z=>I.ok.exfs b z hb
theorem Inv.step {g':Array GenState} {t':Nat} {d':Drawn} {ch:List Addr} (I:Inv X pins σ H s)
   (hch:∀ b∈ch,(b∈X.ex\/X.s₀.heap.objs.size<=b)/\b≠X.env.locals/\(∀ x c,X.env.cells.lookup x=some c->c≠b)/\∀ p∈X.pn++pins,p.1≠b)
   (keep:∀ b o,b≠X.env.locals->b∉X.fs->b∉ch->s.heap.get? b=some o->H b=none->h'.get? b=some o)
   (slot:∀ b o,b≠X.env.locals->b∈X.fs->b∉ch->s.heap.get? b=some o->H b=none->∃ sl,h'.get? b=some { o with slots:=sl }) (free:∀ b o,b∉ch->s.heap.get? b=some o->H b=none->H' b=none)
   (there:∀ b o,b∉ch->s.heap.get? b=some o->∃ o',h'.get? b=some o')
   (tups:∀ b xs,H b=some (.tup xs)->H' b=some (.tup xs)) (frzs:∀ b o u,H b=some (.frz o u)->H' b=some (.frz o u)) (tbls:∀ b ps,H b=some (.tbl ps)->∃ more,H' b=some (.tbl (ps++more)))
   (ns:∀ m,s.heap.Ns X.env.locals m->h'.Ns X.env.locals m) (hok:HOk X.prog X.w H' h') (hg:AllBare g') :
   Inv X pins σ H' { s with heap:=h',gens:=g',drawn:=d',toks:=t' }:=by
 have neL:∀ b o,X.s₀.heap.get? b=some o->b≠X.env.locals:=λ b o e=>Nat.ne_of_lt (Nat.lt_of_lt_of_le (Heap.lt_size e) I.ok.above)
 have neC:∀ b o,X.s₀.heap.get? b=some o->b∉X.ex->b∉ch:=λ b o e hx hb=>by
   rcases (hch b hb).1 with z | z
   . exact hx z
   . exact absurd (Nat.lt_of_lt_of_le (Heap.lt_size e) z) (Nat.lt_irrefl _)
 have cellK:∀ x c,X.env.cells.lookup x=some c->∀ v,s.heap.IsCell c v->h'.IsCell c v:=λ x c e v ⟨o,ho,hd⟩=>by
   have nch:c∉ch:=λ z=>(hch c z).2.2.1 x c e rfl
   by_cases hc:c∈X.fs
   . obtain ⟨sl,q⟩:=slot c o (I.cne x c e) hc nch ho (I.zd6 x c e)
     exact ⟨_,q,hd⟩
   . exact ⟨o,keep c o (I.cne x c e) hc nch ho (I.zd6 x c e),hd⟩
 refine ⟨I.ok,I.os,hg,⟨λ b o e n hb hx=>?_,λ b o e n hb hx=>?_,λ b o e n hx=>?_,λ b o e hx=>?_,λ b xs e=>tups b xs (I.base.tups b xs e),λ b o xs e=>frzs b o xs (I.base.frzs b o xs e),λ b ps e=>?_⟩,?_,λ x c e=>?_,?_,λ x c e=>?_,λ p hp=>?_,hok,I.len⟩
 . exact keep b o (neL b o e) hb (neC b o e hx) (I.base.keep b o e n hb hx) (I.base.free b o e n hx)
 . obtain ⟨sl,e1⟩:=I.base.slot b o e n hb hx
   obtain ⟨sl',e2⟩:=slot b _ (neL b o e) hb (neC b o e hx) e1 (I.base.free b o e n hx)
   exact ⟨sl',e2⟩
 . obtain ⟨o',e1⟩:=I.base.there b o e hx
   exact free b o' (neC b o e hx) e1 (I.base.free b o e n hx)
 . obtain ⟨o',e1⟩:=I.base.there b o e hx
   exact there b o' (neC b o e hx) e1
 . obtain ⟨m1,e1⟩:=I.base.tbls b ps e
   obtain ⟨m2,e2⟩:=tbls b _ e1
   exact ⟨m1++m2,by rw [e2,Array.append_assoc]⟩
 . obtain ⟨m,hn,hl⟩:=I.loc
   refine ⟨m,ns m hn,λ i x v e1 e2 e3=>?_⟩
   obtain ⟨u,r,l⟩:=hl i x v e1 e2 e3
   refine ⟨u,r,?_⟩
   rcases l with l | ⟨k,c,e,z⟩
   . exact .inl l
   . exact .inr ⟨k,c,e,cellK x c e _ z⟩
 . obtain ⟨v,z⟩:=I.cell x c e
   exact ⟨v,cellK x c e v z⟩
 . obtain ⟨m,⟨o,_,_,ho,_⟩,_⟩:=I.loc
   exact free _ o (λ z=>(hch _ z).2.1 rfl) ho I.free
 . obtain ⟨v,o,ho,hd⟩:=I.cell x c e
   exact free c o (λ z=>(hch c z).2.2.1 x c e rfl) ho (I.zd6 x c e)
 . obtain ⟨e,n,ne,nf,d⟩:=I.pin p hp
   have nch:p.1∉ch:=λ z=>(hch p.1 z).2.2.2 p hp rfl
   exact ⟨keep p.1 p.2 ne nf nch e n,free p.1 p.2 nch e n,ne,nf,d⟩
theorem Inv.un {t':Nat} (I:Inv X pins σ H s) (u:Un X.fs [] H H' s.heap h') (hok:HOk X.prog X.w H' h'):Inv X pins σ H' { s with heap:=h',toks:=t' }:=by
 obtain ⟨m,⟨o,es,ep,ho,r⟩,_⟩:=id I.loc
 obtain ⟨sl,hL⟩:=u.any ho I.free (by simp)
 exact I.step (g':=s.gens) (d':=s.drawn) (ch:=[]) (λ _ z=>nomatch z) (λ b o _ hb _ e n=>u.keep b o e n hb (by simp)) (λ b o _ hb _ e n=>u.slot b o e n hb (by simp)) (λ b o _ e n=>u.free b o e n (by simp)) (λ b o _ e=>u.there b o e (by simp)) u.tups u.frzs u.tbls (λ m' hm=>by
  obtain ⟨o',es',ep',ho',r'⟩:=hm
  rw [ho] at ho'; cases ho'
  exact ⟨_,es',ep',hL,r'⟩) hok I.bare
theorem Inv.call {g':Array GenState} {t':Nat} {d':Drawn} {ch:List Addr} (I:Inv X pins σ H s) (u:Un (frs X.stack) ch H H' s.heap h') (hok:HOk X.prog X.w H' h') (hg:AllBare g')
  (hch:∀ b∈ch,(b∈X.ex\/X.s₀.heap.objs.size<=b)/\b≠X.env.locals/\(∀ x c,X.env.cells.lookup x=some c->c≠b)/\∀ p∈X.pn++pins,p.1≠b) :
  Inv X pins σ H' { s with heap:=h',gens:=g',drawn:=d',toks:=t' }:=by
 obtain ⟨m,⟨o,es,ep,ho,r⟩,_⟩:=id I.loc
 obtain ⟨sl,hL⟩:=u.any ho I.free λ z=>(hch _ z).2.1 rfl
 exact I.step (ch:=ch) hch (λ b o hL hb hc e n=>u.keep b o e n (λ z=>(List.mem_cons.mp (I.zmQ b z)).elim hL hb) hc) (λ b o _ _ hc e n=>u.any e n hc) (λ b o hc e n=>u.free b o e n hc) (λ b o hc e=>u.there b o e hc) u.tups u.frzs u.tbls (λ m' hm=>by
  obtain ⟨o',es',ep',ho',r'⟩:=hm
  rw [ho] at ho'; cases ho'
  exact ⟨_,es',ep',hL,r'⟩) hok hg
theorem Inv.turned {t':Nat} {it:Addr} (I:Inv X pins σ H s) (k:∀ b o,b≠it->s.heap.get? b=some o->h'.get? b=some o) (hn:H it=none) (hL:it≠X.env.locals)
   (h1:it∈X.ex\/X.s₀.heap.objs.size<=it) (h2:∀ x c,X.env.cells.lookup x=some c->c≠it) (h3:∀ p∈X.pn++pins,p.1≠it):Inv X pins σ H { s with heap:=h',toks:=t' }:=by
 have nit:∀ b u,H b=some u->b≠it:=λ b u e z=>by rw [z,hn] at e; cases e
 refine I.step (g':=s.gens) (d':=s.drawn) (ch:=[it]) (λ b hb=>?_) (λ b o _ _ hc e _=>k b o (λ z=>hc (by simp [z])) e) (λ b o _ _ hc e _=>⟨o.slots,k b o (λ z=>hc (by simp [z])) e⟩) (λ _ _ _ _ n=>n)
   (λ b o hc e=>⟨o,k b o (λ z=>hc (by simp [z])) e⟩) (λ _ _ e=>e) (λ _ _ _ e=>e) (λ b ps e=>⟨#[],by rw [e]; simp⟩) (λ m hm=>?_) (λ b u e=>?_) I.bare
 . have e:b=it:=by simpa using hb
   subst e
   exact ⟨h1,hL,h2,h3⟩
 . obtain ⟨o,es,ep,ho,r⟩:=hm
   exact ⟨o,es,ep,k _ o (Ne.symm hL) ho,r⟩
 . refine (I.hok b u e).stay (λ c v hc q=>k c v ?_ q) (λ _ q=>q) λ _ _ q=>q
   rcases hc with z | z
   . rw [z]; exact nit b u e
   . exact nit c _ z
theorem Inv.tok (I:Inv X pins σ H s) (t:Nat):Inv X pins σ H { s with toks:=t }:=I.un (h':=s.heap) (t':=t) Un.refl I.hok
theorem Inv.kept {t':Nat} (I:Inv X pins σ H s) (k:∀ b u,s.heap.get? b=some u->h'.get? b=some u):Inv X pins σ H { s with heap:=h',toks:=t' }:=I.un (Un.kept k) (I.hok.kept k)
theorem Inv.laid {a:Addr} {o:HO} {t':Nat} (I:Inv X pins σ H s) (k:∀ b u,s.heap.get? b=some u->h'.get? b=some u) (hp:s.heap.objs.size<=a) (new:zbH X.prog X.w (upd H a o) h' a o) :
 Inv X pins σ (upd H a o) { s with heap:=h',toks:=t' }:=I.un (Un.laid k hp (I.hok.fresh hp)) (I.hok.laid k hp new)
theorem Inv.write {x e:Addr} {o:HO} {t':Nat} (I:Inv X pins σ H s) (mu:Mut (H x)) (he:e=x\/H e=some (.own x)) (k:∀ b u,b≠e->s.heap.get? b=some u->h'.get? b=some u) (heo:∃ u,h'.get? e=some u)
 (new:zbH X.prog X.w (upd H x o) h' x o):Inv X pins σ (upd H x o) { s with heap:=h',toks:=t' }:=I.un (Un.write mu he k heo) (I.hok.write mu he k heo new)
theorem Inv.weak {σ':List (Option V)} (I:Inv X pins σ H s) (hl:σ'.length=σ.length) (w:∀ (i:Nat) v,σ'[i]?=some (some v)->σ[i]?=some (some v)):Inv X pins σ' H s :=
 ⟨I.ok,I.os,I.bare,I.base,let ⟨m,hn,hl'⟩:=I.loc; ⟨m,hn,λ i x v e1 e2 e3=>hl' i x v e1 (w i v e2) e3⟩,I.cell,I.free,I.zd6,I.pin,I.hok,hl.trans I.len⟩
theorem Inv.zhp {pins':List (Addr×Obj)} (I:Inv X pins σ H s) (h:∀ p∈pins',s.heap.get? p.1=some p.2/\H p.1=none/\p.1≠X.env.locals/\p.1∉X.fs/\∀ v,p.2.data≠.cell v):Inv X pins' σ H s :=
 ⟨I.ok,I.os,I.bare,I.base,I.loc,I.cell,I.free,I.zd6,λ p hp=>(List.mem_append.mp hp).elim (λ z=>I.pin p (List.mem_append_left _ z)) (h p),I.hok,I.len⟩
theorem zm4 {N:List Str} (hN:N.Nodup) {i j:Nat} {x:Str} (a:N[i]?=some x) (b:N[j]?=some x):i=j:=by
 obtain ⟨h1,e1⟩:=List.getElem?_eq_some_iff.mp a
 obtain ⟨h2,e2⟩:=List.getElem?_eq_some_iff.mp b
 exact (List.getElem_inj hN).mp (e1.trans e2.symm)
theorem zke {M:Model} {A:Around} {E:Value->Shared->Prop} {i:Nat} {x:Str} {v:V} {u:Value} {Q:Unit->Shared->Prop} (I:Inv X pins σ H s) (hN:X.N.Nodup) (hi:X.N[i]?=some x) (hx:Loc X.env.scope x) (r:RelV v u)
   (h:∀ s',Inv X pins (σ.set i (some v)) H s'->(∃ a,Heap.SameBut a s.heap s'.heap/\(a=X.env.locals\/X.env.cells.lookup x=some a))->Q () s') (hf:X.fn x=true\/X.env.scope.names.lookup x=some .local:=by first | exact .inl rfl | exact .inr rfl | assumption):wpAny M A (storeName X.env x u) Q E s:=by
 obtain ⟨m,hn,hl⟩:=id I.loc
 have hcls:(X.env.scope.kind == .class || (X.env.scope.kind == .module && X.env.locals != X.env.globals))=false:=by rw [I.ok.kind]; rfl
 have hiσ:i < σ.length:=by rw [I.len]; exact (List.getElem?_eq_some_iff.mp hi).1
 have cne:=I.cne
 have tracked:∀ {a:Addr} {h':Heap},(∃ o,s.heap.get? a=some o/\H a=none)->Heap.SameBut a s.heap h'->HOk X.prog X.w H h':=λ {a h'} ha hs b ob e=>by
   obtain ⟨_,_,hfree⟩:=ha
   refine (I.hok b ob e).stay (λ c w' hc q=>(hs.2 c ?_).trans q) (λ _ q=>q) λ _ _ q=>q
   rintro rfl
   rcases hc with rfl | hc
   . rw [hfree] at e; cases e
   . rw [hfree] at hc; cases hc
 rcases hx with hk | hk
 . refine wpAny_storeName_local hk hn (λ h' hn' hs=>?_) hcls
   obtain ⟨oL,_,_,hoL,_⟩:=id hn
   refine h _ ⟨I.ok,I.os,I.bare,⟨λ b o e n hb hx=>?_,λ b o e n hb hx=>?_,I.base.free,λ b o e hx=>?_,I.base.tups,I.base.frzs,I.base.tbls⟩,⟨_,hn',λ j y v' e1 e2 e3=>?_⟩,λ y c e=>?_,I.free,I.zd6,λ p hp=>?_,tracked ⟨oL,hoL,I.free⟩ hs,by simpa using I.len⟩ ⟨_,hs,.inl rfl⟩
   . exact (hs.2 b (Nat.ne_of_lt (Nat.lt_of_lt_of_le (Heap.lt_size e) I.ok.above))).trans (I.base.keep b o e n hb hx)
   . obtain ⟨sl,e1⟩:=I.base.slot b o e n hb hx
     exact ⟨sl,(hs.2 b (Nat.ne_of_lt (Nat.lt_of_lt_of_le (Heap.lt_size e) I.ok.above))).trans e1⟩
   . obtain ⟨o',e1⟩:=I.base.there b o e hx
     exact ⟨o',(hs.2 b (Nat.ne_of_lt (Nat.lt_of_lt_of_le (Heap.lt_size e) I.ok.above))).trans e1⟩
   . by_cases hj:j=i
     . subst hj
       rw [hi] at e1; cases e1
       rw [List.getElem?_set_self hiσ] at e2
       cases e2
       exact ⟨u,r,.inl ⟨hk,by simp⟩⟩
     . rw [List.getElem?_set_ne (Ne.symm hj)] at e2
       obtain ⟨u',r',q⟩:=hl j y v' e1 e2 e3
       refine ⟨u',r',?_⟩
       rcases q with ⟨k,e⟩ | ⟨k,c,e,z⟩
       . refine .inl ⟨k,?_⟩
         have:y≠x:=λ e=>hj (zm4 hN e1 (e ▸ hi))
         simp [this,e]
       . exact .inr ⟨k,c,e,z.sameBut hs (cne y c e)⟩
   . obtain ⟨w',z⟩:=I.cell y c e
     exact ⟨w',z.sameBut hs (cne y c e)⟩
   . obtain ⟨e,n,ne,nf,d⟩:=I.pin p hp
     exact ⟨(hs.2 p.1 ne).trans e,n,ne,nf,d⟩
 . have hfn:X.fn x=true:=by
     rcases hf with z | z
     . exact z
     . rw [z] at hk; cases hk
   obtain ⟨c,hc⟩:=I.ok.has x (.inl hk)
   obtain ⟨w',z⟩:=I.cell x c hc
   refine wpAny_storeName_cell I.ok.kind hk hc z (λ h' hc' hs=>?_)
   obtain ⟨oc,hoc,hocd⟩:=id z
   refine h { s with heap:=h' } ⟨I.ok,I.os,I.bare,⟨λ b o e n hb hx=>?_,λ b o e n hb hx=>?_,I.base.free,λ b o e hx=>?_,I.base.tups,I.base.frzs,I.base.tbls⟩,⟨m,hn.sameBut hs (Ne.symm (cne x c hc)),λ j y v' e1 e2 e3=>?_⟩,λ y c' e=>?_,I.free,I.zd6,λ p hp=>?_,tracked ⟨oc,hoc,I.zd6 x c hc⟩ hs,by simpa using I.len⟩ ⟨c,hs,.inr hc⟩
   . exact (hs.2 b (Nat.ne_of_lt (Nat.lt_of_lt_of_le (Heap.lt_size e) (I.ok.cab x c hfn hc)))).trans (I.base.keep b o e n hb hx)
   . obtain ⟨sl,e1⟩:=I.base.slot b o e n hb hx
     exact ⟨sl,(hs.2 b (Nat.ne_of_lt (Nat.lt_of_lt_of_le (Heap.lt_size e) (I.ok.cab x c hfn hc)))).trans e1⟩
   . obtain ⟨o',e1⟩:=I.base.there b o e hx
     exact ⟨o',(hs.2 b (Nat.ne_of_lt (Nat.lt_of_lt_of_le (Heap.lt_size e) (I.ok.cab x c hfn hc)))).trans e1⟩
   . by_cases hj:j=i
     . subst hj
       rw [hi] at e1; cases e1
       rw [List.getElem?_set_self hiσ] at e2
       cases e2
       exact ⟨u,r,.inr ⟨.inl hk,c,hc,hc'⟩⟩
     . rw [List.getElem?_set_ne (Ne.symm hj)] at e2
       obtain ⟨u',r',q⟩:=hl j y v' e1 e2 e3
       refine ⟨u',r',?_⟩
       rcases q with q | ⟨k,c',e,z'⟩
       . exact .inl q
       . refine .inr ⟨k,c',e,z'.sameBut hs ?_⟩
         rintro rfl
         exact hj (zm4 hN e1 (I.ok.inj _ _ _ e hc ▸ hi))
   . by_cases hcc:c'=c
     . subst hcc; exact ⟨_,hc'⟩
     . obtain ⟨w2,z2⟩:=I.cell y c' e
       exact ⟨w2,z2.sameBut hs hcc⟩
   . obtain ⟨e,n,ne,nf,d⟩:=I.pin p hp
     refine ⟨(hs.2 p.1 ?_).trans e,n,ne,nf,d⟩
     intro q
     rw [q,hoc] at e
     have q':oc=p.2:=Option.some.inj e
     exact d w' (by rw [<-q']; exact hocd)
theorem zmP {M:Model} {A:Around} {E:Value->Shared->Prop} {i:Nat} {x:Str} {v:V} {u:Value} {Q:Unit->Shared->Prop} (I:Inv X pins σ H s) (hN:X.N.Nodup) (hi:X.N[i]?=some x) (hx:Loc X.env.scope x) (r:RelV v u)
  (h:∀ s',Inv X pins (σ.set i (some v)) H s'->Q () s') (hf:X.fn x=true\/X.env.scope.names.lookup x=some .local:=by first | exact .inl rfl | exact .inr rfl | assumption):wpAny M A (storeName X.env x u) Q E s :=
 zke I hN hi hx r (λ s' I' _=>h s' I') hf
theorem Inv.zr9 {s':Shared} {ch:List Addr} (I:Inv X pins σ H s) (ho:s'.os=s.os) (u:Un (frs X.stack) ch H H' s.heap s'.heap) (hok:HOk X.prog X.w H' s'.heap) (hg:AllBare s'.gens)
  (hch:∀ b∈ch,(b∈X.ex\/X.s₀.heap.objs.size<=b)/\b≠X.env.locals/\(∀ x c,X.env.cells.lookup x=some c->c≠b)/\∀ p∈X.pn++pins,p.1≠b):Inv X pins σ H' s':=by
 obtain ⟨h',g',d',t',o'⟩:=s'
 have e:o'=s.os:=ho
 subst e
 exact I.call (g':=g') (t':=t') (d':=d') u hok hg hch
end
abbrev XK:=Value->Option Addr->Hp->Prop
abbrev St:=List (Option V)
abbrev VK:=V->Hp->Prop
abbrev TE:=St->Hp->VK->Prop
abbrev TT:=St->Hp->(Bool->Hp->Prop)->Prop
abbrev TA:=St->Hp->(List V->Hp->Prop)->Prop
structure Ends where
 nx:St->Hp->Prop
 rt:VK
 bk:St->Hp->Prop:=λ _ _=>False
 ct:St->Hp->Prop:=λ _ _=>False
abbrev TS:=Ends->St->Hp->Prop
def EP (X:Cx) (pins:List (Addr×Obj)) (σ:St) (Q:VK) (u:Value) (s':Shared):Prop:=∃ v H',Inv X pins σ H' s'/\RelV v u/\Q v H'
def TP (X:Cx) (pins:List (Addr×Obj)) (σ:St) (Q:Bool->Hp->Prop) (b:Bool) (s':Shared):Prop:=∃ H',Inv X pins σ H' s'/\Q b H'
def AP (X:Cx) (pins:List (Addr×Obj)) (σ:St) (Q:List V->Hp->Prop) (us:List Value) (s':Shared):Prop:=∃ vs H',Inv X pins σ H' s'/\Vals vs us/\Q vs H'
def SP (X:Cx) (pins:List (Addr×Obj)) (D:Ends) (f:Flow) (s':Shared):Prop :=
 match f with
 | .next=>∃ σ' H',Inv X pins σ' H' s'/\D.nx σ' H'
 | .brk=>∃ σ' H',Inv X pins σ' H' s'/\D.bk σ' H'
 | .cont=>∃ σ' H',Inv X pins σ' H' s'/\D.ct σ' H'
 | .ret u=>∃ v σ' H',Inv X pins σ' H' s'/\RelV v u/\D.rt v H'
def PE (X:Cx) (e:Expr) (t:TE):Prop :=
 ∀ (pins:List (Addr×Obj)) (s:Shared) (σ:St) (H:Hp) (Q:VK),Inv X pins σ H s->t σ H Q->wpAny (model X.prog X.w) X.A (eval e X.env) (EP X pins σ Q) X.xe s
def PT (X:Cx) (e:Expr) (t:TT):Prop :=
 ∀ (pins:List (Addr×Obj)) (s:Shared) (σ:St) (H:Hp) (Q:Bool->Hp->Prop),Inv X pins σ H s->t σ H Q->wpAny (model X.prog X.w) X.A (isTrue e X.env (eval e X.env)) (TP X pins σ Q) X.xe s
def PW (X:Cx) (e:Expr) (t:TT):Prop :=
 ∀ (whole:Sem Value) (pins:List (Addr×Obj)) (s:Shared) (σ:St) (H:Hp) (Q:Bool->Hp->Prop),Inv X pins σ H s->t σ H Q->wpAny (model X.prog X.w) X.A (isTrue e X.env whole) (TP X pins σ Q) X.xe s
theorem PW.pt {X:Cx} {e:Expr} {t:TT} (h:PW X e t):PT X e t:=h _
def PA (X:Cx) (es:List Expr) (t:TA):Prop :=
 ∀ (pos:Pos) (pins:List (Addr×Obj)) (s:Shared) (σ:St) (H:Hp) (Q:List V->Hp->Prop),Inv X pins σ H s->t σ H Q->wpAny (model X.prog X.w) X.A (spliced (backTo pos (starEach es X.env))) (AP X pins σ Q) X.xe s
def PS (X:Cx) (st:Stmt) (t:TS):Prop :=
 ∀ (pins:List (Addr×Obj)) (s:Shared) (σ:St) (H:Hp) (D:Ends),Inv X pins σ H s->t D σ H->wpAny (model X.prog X.w) X.A (exec st X.env) (SP X pins D) X.xe s
def PSs (X:Cx) (st:List Stmt) (t:TS):Prop :=
 ∀ (pins:List (Addr×Obj)) (s:Shared) (σ:St) (H:Hp) (D:Ends),Inv X pins σ H s->t D σ H->wpAny (model X.prog X.w) X.A (execs st X.env) (SP X pins D) X.xe s
theorem thn {α:Type} {t:Sem α} {Q Q':α->Shared->Prop} {M:Model} {A:Around} {E:Value->Shared->Prop} {s:Shared} (h:wpAny M A t Q E s) (hQ:∀ a s,Q a s->Q' a s):wpAny M A t Q' E s:=wpAny_mono h hQ λ _ _ x=>x
end L2
namespace L2
open PySem PySem.Spec PyProof.Rows
section
variable {X:Cx}
theorem bin {a b:Expr} {ta tb:TE} (ha:PE X a ta) (hb:PE X b tb) {pins:List (Addr×Obj)} {s:Shared} {σ:St} {H:Hp} {R:V->V->Hp->Prop} (I:Inv X pins σ H s) (h:ta σ H λ x H1=>tb σ H1 λ y H2=>R x y H2)
  {α:Type} {Q:α->Shared->Prop} {f:Value->Value->Sem α}
  (hf:∀ v u s2 x y H2,Inv X pins σ H2 s2->RelV x v->RelV y u->R x y H2->wpAny (model X.prog X.w) X.A (f v u) Q X.xe s2) :
  wpAny (model X.prog X.w) X.A (eval a X.env) (λ v s₁=>wpAny (model X.prog X.w) X.A (eval b X.env) (λ u s₂=>wpAny (model X.prog X.w) X.A (f v u) Q X.xe s₂) X.xe s₁) X.xe s:=by
 refine thn (ha pins s σ H _ I h) λ v s1 ⟨x,H1,I1,r1,q1⟩=>?_
 refine thn (hb pins s1 σ H1 _ I1 q1) λ u s2 ⟨y,H2,I2,r2,q2⟩=>?_
 exact hf v u s2 x y H2 I2 r1 r2 q2
def tVar (i:Nat):TE:=λ σ H Q=>∃ v,σ[i]?=some (some v)/\Q v H
def tC (v:V):TE:=λ _ H Q=>Q v H
theorem zsP {i:Nat} {x:Str} {pos:Pos} (hN:X.N[i]?=some x) (hv:Vis X.env.scope x) (hd:(x == ("__debug__" : Str))=false:=by decide) (hcd:(x == ("__classdict__" : Str))=false:=by decide):PE X (.Name x pos) (tVar i):=by
 intro pins s σ H Q I h
 obtain ⟨v,e,h⟩:=h
 obtain ⟨m,hn,hl⟩:=I.loc
 obtain ⟨u,r,l⟩:=hl i x v hN e hv
 have fin:EP X pins σ Q u s:=⟨v,H,I,r,h⟩
 rcases l with ⟨hk,hm⟩ | ⟨hk,c,hc,hcell⟩
 . exact wpAny_Name (wpAny_loadName_local I.ok.kind hk hn hm fin) hd
 . rcases hk with hk | hk
   . exact wpAny_Name (wpAny_loadName_cell I.ok.kind hk hc hcell fin) hd
   . exact wpAny_Name (wpAny_loadName_free I.ok.kind hk hc hcell fin hcd) hd
theorem zam {i j pos}:PE X (.Constant (.int i) j pos) (tC (.int i)):=λ _ _ _ H _ I h=>wpAny_Constant_int ⟨.int i,H,I.tok _,⟨_,rfl⟩,h⟩
theorem zhr {b j pos}:PE X (.Constant (.bool b) j pos) (tC (.bl b)):=λ _ _ _ H _ I h=>Constant_bool ⟨.bl b,H,I,rfl,h⟩
theorem zgA {j pos}:PE X (.Constant .none j pos) (tC .non):=λ _ _ _ H _ I h=>Constant_none ⟨.non,H,I,rfl,h⟩
theorem zaJ {x j pos}:PE X (.Constant (.str x) j pos) (tC (.str x)):=λ _ _ _ H _ I h=>Calls.Constant_str ⟨.str x,H,I.tok _,⟨_,rfl⟩,h⟩
def Gl (X:Cx) (x:Str):Prop:=X.env.kindOf x=some .globalImplicit
theorem zge {E:Value->Shared->Prop} {pins:List (Addr×Obj)} {s:Shared} {σ:St} {H:Hp} {x:Str} {u:Value} {pos:Pos} {Q:Value->Shared->Prop} (I:Inv X pins σ H s) (hg:Gl X x) (hm:X.mg x=some u) (h:Q u s)
  (hd:(x == ("__debug__" : Str))=false:=by decide):wpAny (model X.prog X.w) X.A (eval (.Name x pos) X.env) Q E s :=
 Calls.Name_function_global I.ok.kind hg (Calls.loadGlobal_global (by rw [I.ok.glob]; exact I.mod.glob.keeps I.bk) hm h) hd
theorem zm8 {E:Value->Shared->Prop} {pins:List (Addr×Obj)} {s:Shared} {σ:St} {H:Hp} {x:Str} {u:Value} {pos:Pos} {Q:Value->Shared->Prop} (I:Inv X pins σ H s) (hg:Gl X x) (hm:X.mg x=none) (hv:bootBuiltins x=some u) (h:Q u s)
  (hn:x ≠ "__name__" := by decide) (hd:(x == ("__debug__" : Str))=false:=by decide):wpAny (model X.prog X.w) X.A (eval (.Name x pos) X.env) Q E s:=by
 obtain ⟨mb,h1,h2⟩:=I.mod.blt
 exact Calls.Name_function_global I.ok.kind hg (Calls.loadGlobal_builtin (by rw [I.ok.glob]; exact I.mod.glob.keeps I.bk) hm (by rw [I.ok.blt]; exact h1.keeps I.bk) ((h2 x hn).trans hv) h) hd
theorem zoV {x:Str} {v:V} {u:Value} {pos:Pos} (hg:Gl X x) (hm:X.mg x=some u) (r:RelV v u) (hd:(x == ("__debug__" : Str))=false:=by decide):PE X (.Name x pos) (tC v) :=
 λ _ _ _ H _ I h=>zge I hg hm ⟨v,H,I,r,h⟩ hd
theorem zrL {x:Str} {v:V} {u:Value} {pos:Pos} (hg:Gl X x) (hm:X.mg x=none) (hv:bootBuiltins x=some u) (r:RelV v u) (hn:x ≠ "__name__" := by decide) (hd:(x == ("__debug__" : Str))=false:=by decide):PE X (.Name x pos) (tC v) :=
 λ _ _ _ H _ I h=>zm8 I hg hm hv ⟨v,H,I,r,h⟩ hn hd
variable {a b:Expr} {ta tb:TE} {pos:Pos}
def PC (X:Cx) (op:CmpOp) (a b:Expr) (t:TE):Prop :=
 ∀ (pins:List (Addr×Obj)) (s:Shared) (σ:St) (H:Hp) (Q:VK),Inv X pins σ H s->t σ H Q ->
  wpAny (model X.prog X.w) X.A (eval a X.env) (λ v s₁=>wpAny (model X.prog X.w) X.A (eval b X.env) (λ u s₂=>wpAny (model X.prog X.w) X.A (compareOp op v u) (EP X pins σ Q) X.xe s₂) X.xe s₁) X.xe s
theorem zm5 (b:Expr) {op:CmpOp} (h:op≠.In) (h2:op≠.NotIn):behindInMarks op b=false:=by
 have e1:(op == CmpOp.In)=false:=by cases op <;> first | rfl | exact absurd rfl h
 have e2:(op == CmpOp.NotIn)=false:=by cases op <;> first | rfl | exact absurd rfl h2
 cases b <;> simp [behindInMarks,e1,e2]
def tIsN (ta:TE):TE:=λ σ H Q=>ta σ H λ x H1=>Q (.bl (decide (x=.non))) H1
def zts (ta:TE):TE:=λ σ H Q=>ta σ H λ x H1=>Q (.bl (!decide (x=.non))) H1
theorem RelV.zm3 {x:V} {v:Value} (r:RelV x v):(v == Value.none)=decide (x=.non):=by
 cases x with
 | non=>cases r; rfl
 | bl _=>cases r; rfl
 | int _=>obtain ⟨t,rfl⟩:=r; rfl
 | str _=>obtain ⟨t,rfl⟩:=r; rfl
 | byt _=>obtain ⟨t,rfl⟩:=r; rfl
 | flt _=>obtain ⟨t,rfl⟩:=r; rfl
 | ref _=>cases r; rfl
 | ty _=>cases r; rfl
theorem zqU {j pos'} (ha:PE X a ta):PC X .Is a (.Constant .none j pos') (tIsN ta):=by
 intro pins s σ H Q I h
 refine thn (ha pins s σ H _ I h) λ v s1 ⟨x,H1,I1,r1,q1⟩=>?_
 exact Constant_none (is_none_gen ⟨.bl _,H1,I1,by rw [r1.zm3]; rfl,q1⟩)
theorem zoX {j pos'} (ha:PE X a ta):PC X .IsNot a (.Constant .none j pos') (zts ta):=by
 intro pins s σ H Q I h
 refine thn (ha pins s σ H _ I h) λ v s1 ⟨x,H1,I1,r1,q1⟩=>?_
 exact Constant_none (isnot_none_gen ⟨.bl _,H1,I1,by rw [r1.zm3]; rfl,q1⟩)
def tB (t:TE):TT:=λ σ H Q=>t σ H λ x H1=>∃ c,x=.bl c/\Q c H1
theorem zsT {op:CmpOp} {t:TE} (h:PC X op a b t) (h1:behindInMarks op b=false:=by first | exact zm5 _ (by decide) (by decide) | rfl):PE X (.Compare a [op] [b] pos) t:=λ pins s σ H Q I hw=>wpAny_Compare1 (h pins s σ H Q I hw) h1
theorem zel {op:CmpOp} {t:TE} (h:PC X op a b t) (h1:behindInMarks op b=false:=by first | exact zm5 _ (by decide) (by decide) | rfl):PT X (.Compare a [op] [b] pos) (tB t):=by
 intro pins s σ H Q I hw
 refine wpAny_isTrue_Compare1 (thn (h pins s σ H _ I hw) λ v s1 h1=>thn h1 λ u s2 h2=>thn h2 λ c s3 ⟨x,H1,I1,r1,q1⟩=>?_) h1
 obtain ⟨d,rfl,q⟩:=q1
 cases r1
 exact wpAny_truthy_bool ⟨H1,I1,q⟩
theorem ziK {e:Expr} {t:TE} (h:PE X e t) (he:∀ whole,isTrue e X.env whole=(do let v <-whole; standAt e.pos; holding [v] (truthy v)):=by intro _; rfl):PT X e (tB t):=by
 intro pins s σ H Q I hw
 refine isTrue_plain (thn (h pins s σ H _ I hw) λ v s1 ⟨x,H1,I1,r1,q1⟩=>?_) (he _)
 obtain ⟨d,rfl,q⟩:=q1
 cases r1
 exact wpAny_truthy_bool ⟨H1,I1,q⟩
variable {tA tB':TT} {rest:List Expr}
def tAnd (t u:TT):TT:=λ σ H Q=>t σ H λ c H1=>if c=true then u σ H1 Q else Q false H1
def tOr (t u:TT):TT:=λ σ H Q=>t σ H λ c H1=>if c=true then Q true H1 else u σ H1 Q
def tNot (t:TT):TT:=λ σ H Q=>t σ H λ c H1=>Q (!c) H1
theorem zf8 (ha:PT X a tA):PW X (.BoolOp .And [a] pos) tA:=by
 intro wh pins s σ H Q I h
 refine isTrue_and (thn (ha pins s σ H Q I h) λ c s1 e=>?_)
 cases c with
 | true=>exact isTrue_and_nil e
 | false=>exact e
theorem zmV (ha:PT X a tA):PW X (.BoolOp .Or [a] pos) tA:=by
 intro wh pins s σ H Q I h
 refine isTrue_or (thn (ha pins s σ H Q I h) λ c s1 e=>?_)
 cases c with
 | false=>exact isTrue_or_nil e
 | true=>exact e
theorem ziJ (ha:PT X a tA) (hb:PW X (.BoolOp .And (b::rest) pos) tB'):PW X (.BoolOp .And (a::b::rest) pos) (tAnd tA tB'):=by
 intro wh pins s σ H Q I h
 refine isTrue_and (thn (ha pins s σ H _ I h) λ c s1 ⟨H1,I1,q1⟩=>?_)
 cases c with
 | true=>exact hb wh pins s1 σ H1 Q I1 q1
 | false=>exact ⟨H1,I1,q1⟩
theorem zoQ (ha:PT X a tA) (hb:PW X (.BoolOp .Or (b::rest) pos) tB'):PW X (.BoolOp .Or (a::b::rest) pos) (tOr tA tB'):=by
 intro wh pins s σ H Q I h
 refine isTrue_or (thn (ha pins s σ H _ I h) λ c s1 ⟨H1,I1,q1⟩=>?_)
 cases c with
 | true=>exact ⟨H1,I1,q1⟩
 | false=>exact hb wh pins s1 σ H1 Q I1 q1
theorem zmY (ha:PT X a tA):PT X (.UnaryOp .Not a pos) (tNot tA):=by
 intro pins s σ H Q I h
 exact isTrue_not (ha pins s σ H (λ c H1=>Q (!c) H1) I h)
def ztw (ta tb:TE):TE:=λ σ H Q=>ta σ H λ x H1=>∃ c,x=.bl c/\if c=true then tb σ H1 Q else Q (.bl false) H1
def tOrV (ta tb:TE):TE:=λ σ H Q=>ta σ H λ x H1=>∃ c,x=.bl c/\if c=true then Q (.bl true) H1 else tb σ H1 Q
def ztr (ta:TE):TE:=λ σ H Q=>ta σ H λ x H1=>∃ c,x=.bl c/\Q (.bl (!c)) H1
theorem zkA {op} {t:TE} (h:PE X a t):PE X (.BoolOp op [a] pos) t:=λ pins s σ H Q I hw=>BoolOp_one (h pins s σ H Q I hw)
theorem zoW (ha:PE X a ta) (hb:PE X (.BoolOp .And (b::rest) pos) tb):PE X (.BoolOp .And (a::b::rest) pos) (ztw ta tb):=by
 intro pins s σ H Q I h
 refine BoolOp_and (thn (ha pins s σ H _ I h) λ v s1 ⟨x,H1,I1,r1,q1⟩=>?_)
 obtain ⟨c,rfl,q1⟩:=q1
 cases r1
 refine wpAny_truthy_bool ?_
 cases c with
 | true=>exact hb pins s1 σ H1 Q I1 q1
 | false=>exact ⟨.bl false,H1,I1,rfl,q1⟩
theorem zsQ (ha:PE X a ta) (hb:PE X (.BoolOp .Or (b::rest) pos) tb):PE X (.BoolOp .Or (a::b::rest) pos) (tOrV ta tb):=by
 intro pins s σ H Q I h
 refine BoolOp_or (thn (ha pins s σ H _ I h) λ v s1 ⟨x,H1,I1,r1,q1⟩=>?_)
 obtain ⟨c,rfl,q1⟩:=q1
 cases r1
 refine wpAny_truthy_bool ?_
 cases c with
 | false=>exact hb pins s1 σ H1 Q I1 q1
 | true=>exact ⟨.bl true,H1,I1,rfl,q1⟩
theorem zsR (ha:PE X a ta):PE X (.UnaryOp .Not a pos) (ztr ta):=by
 intro pins s σ H Q I h
 refine UnaryOp_ (thn (ha pins s σ H _ I h) λ v s1 ⟨x,H1,I1,r1,q1⟩=>?_)
 obtain ⟨c,rfl,q1⟩:=q1
 cases r1
 exact not_of (wpAny_truthy_bool ⟨.bl (!c),H1,I1,rfl,q1⟩)
end
end L2
namespace L2
open PySem PySem.Spec PyProof.Rows
def SqL (K:PySem.W.Frag) (H:Hp) (a:Addr) (xs:List V):Prop :=
 Rd H a (.lst xs) \/
  ∃ (o:Obj) (its:Array Value) (n:Nat),K.lookup a=some o/\o.cls=.type "list" /\ o.dict=none/\o.data=.seq its n/\its.size<=sizeLine/\Vals xs its.toList
def SqT (K:PySem.W.Frag) (H:Hp) (a:Addr) (xs:List V):Prop :=
 Rd H a (.tup xs) \/
  ∃ (o:Obj) (its:Array Value) (n:Nat),K.lookup a=some o/\o.cls=.type "tuple" /\ o.data=.seq its n/\its.size<=sizeLine/\Vals xs its.toList
def absV:Value->Option V
 | .none=>some .non
 | .bool b=>some (.bl b)
 | .int i _=>some (.int i)
 | .str x _=>some (.str x)
 | .bytes b _=>some (.byt b)
 | .float b _=>some (.flt b)
 | .ref a=>some (.ref a)
 | .type n=>some (.ty n)
 | _=>none
theorem RelV.abs {x:V} {u:Value} (r:RelV x u):absV u=some x:=by
 cases x with
 | non=>cases r; rfl
 | bl _=>cases r; rfl
 | int _=>obtain ⟨t,rfl⟩:=r; rfl
 | str _=>obtain ⟨t,rfl⟩:=r; rfl
 | byt _=>obtain ⟨t,rfl⟩:=r; rfl
 | flt _=>obtain ⟨t,rfl⟩:=r; rfl
 | ref _=>cases r; rfl
 | ty _=>cases r; rfl
theorem RelV.inj {x y:V} {u:Value} (r:RelV x u) (q:RelV y u):x=y:=Option.some.inj (r.abs.symm.trans q.abs)
theorem Vals.inj:∀ {xs ys:List V} {us:List Value},Vals xs us->Vals ys us->xs=ys
 | _,_,_,.nil,.nil=>rfl
 | _,_,_,.cons r t,.cons r' t'=>by rw [r.inj r',Vals.inj t t']
section
variable {X:Cx} {pins:List (Addr×Obj)} {σ:St} {H:Hp} {s:Shared} {a:Addr} {xs ys:List V}
theorem SqL.of {K:PySem.W.Frag} (h:H a=some (.lst xs)):SqL K H a xs:=.inl (.inl h)
theorem SqT.of {K:PySem.W.Frag} (h:H a=some (.tup xs)):SqT K H a xs:=.inl (.inl h)
theorem Inv.list (I:Inv X pins σ H s) (h:SqL X.K H a xs):∃ its:List Value,Vals xs its/\PlainL s.heap a its.toArray/\xs.length<=sizeLine:=by
 rcases h with h | ⟨o,its,n,hk,hc,hd,hs,hz,r⟩
 . obtain ⟨z,its,n,r,e⟩:=h.ok I.hok
   exact ⟨its,r,⟨_,n,e,rfl,rfl,rfl⟩,z⟩
 . refine ⟨its.toList,r,⟨o,n,I.kIn a o hk,hc,hd,by simpa using hs⟩,?_⟩
   have e:=r.length
   simp only [Array.length_toList] at e
   omega
theorem Inv.tuple (I:Inv X pins σ H s) (h:SqT X.K H a xs):∃ its:List Value,Vals xs its/\IsTup s.heap a its.toArray/\xs.length<=sizeLine:=by
 rcases h with h | ⟨o,its,n,hk,hc,hs,hz,r⟩
 . obtain ⟨z,its,r,p⟩:=h.ok I.hok
   exact ⟨its,r,p,z⟩
 . refine ⟨its.toList,r,⟨o,I.kIn a o hk,hc,n,by simpa using hs⟩,?_⟩
   have e:=r.length
   simp only [Array.length_toList] at e
   omega
theorem Inv.zqt (I:Inv X pins σ H s) (h:SqL X.K H a xs) (h':SqL X.K H a ys):xs=ys:=by
 obtain ⟨its,r,⟨o,n,e,_,_,d⟩,_⟩:=I.list h
 obtain ⟨its',r',⟨o',n',e',_,_,d'⟩,_⟩:=I.list h'
 rw [e] at e'; cases e'
 rw [d] at d'
 injection d' with d1 _
 have:its=its':=by simpa using congrArg Array.toList d1
 subst this
 exact r.inj r'
theorem Inv.zot (I:Inv X pins σ H s) (h:SqT X.K H a xs) (h':SqT X.K H a ys):xs=ys:=by
 obtain ⟨its,r,⟨o,e,_,n,d⟩,_⟩:=I.tuple h
 obtain ⟨its',r',⟨o',e',_,n',d'⟩,_⟩:=I.tuple h'
 rw [e] at e'; cases e'
 rw [d] at d'
 injection d' with d1 _
 have:its=its':=by simpa using congrArg Array.toList d1
 subst this
 exact r.inj r'
end
abbrev Cx.wish (X:Cx) (E:Value->Shared->Prop):Cx:={ X with xe:=E }
abbrev Cx.nox (X:Cx):Cx:=X.wish λ _ _=>False
theorem Cx.Ok.wish {X:Cx} (ok:X.Ok) (E:Value->Shared->Prop):(X.wish E).Ok :=
 ⟨ok.mod,ok.kind,ok.glob,ok.blt,ok.above,ok.inj,ok.has,ok.cab,ok.hd,ok.frames,ok.stk,ok.exf,ok.bs,ok.bsz,ok.noex,ok.exfs,ok.funs,ok.frf⟩
theorem Cx.Ok.zfu {X:Cx} {E:Value->Shared->Prop} (ok:(X.wish E).Ok):X.Ok :=
 ⟨ok.mod,ok.kind,ok.glob,ok.blt,ok.above,ok.inj,ok.has,ok.cab,ok.hd,ok.frames,ok.stk,ok.exf,ok.bs,ok.bsz,ok.noex,ok.exfs,ok.funs,ok.frf⟩
section
variable {X:Cx} {pins:List (Addr×Obj)} {σ:St} {H:Hp} {s:Shared} {E:Value->Shared->Prop}
theorem Inv.wish (I:Inv X pins σ H s) (E:Value->Shared->Prop):Inv (X.wish E) pins σ H s:=⟨I.ok.wish E,I.os,I.bare,I.base,I.loc,I.cell,I.free,I.zd6,I.pin,I.hok,I.len⟩
theorem Inv.zfu (I:Inv (X.wish E) pins σ H s):Inv X pins σ H s:=⟨I.ok.zfu,I.os,I.bare,I.base,I.loc,I.cell,I.free,I.zd6,I.pin,I.hok,I.len⟩
theorem SP.zfu {D:Ends} {f:Flow} {s':Shared} (h:SP (X.wish E) pins D f s'):SP X pins D f s':=by
 cases f with
 | next=>obtain ⟨σ',H',I,q⟩:=h; exact ⟨σ',H',I.zfu,q⟩
 | brk=>obtain ⟨σ',H',I,q⟩:=h; exact ⟨σ',H',I.zfu,q⟩
 | cont=>obtain ⟨σ',H',I,q⟩:=h; exact ⟨σ',H',I.zfu,q⟩
 | ret u=>obtain ⟨v,σ',H',I,r,q⟩:=h; exact ⟨v,σ',H',I.zfu,r,q⟩
theorem PSs.nox {st:List Stmt} {t:TS} (h:PSs X.nox st t):PSs X st t:=λ pins s σ H D I hw =>
 wpAny_mono (h pins s σ H D (I.wish _) hw) (λ _ _ q=>q.zfu) λ _ _ z=>False.elim z
end
section
variable {X:Cx} {st:Stmt} {rest:List Stmt} {t u:TS} {e:Expr} {te:TE} {pos:Pos}
def zrl:TS:=λ D σ H=>D.nx σ H
def tSeq (t u:TS):TS:=λ D σ H=>t { D with nx:=u D } σ H
theorem zaH:PSs X [] zrl:=λ _ _ σ H _ I h=>wpAny_execs_nil ⟨σ,H,I,h⟩
theorem zac (h1:PS X st t) (h2:PSs X rest u):PSs X (st::rest) (tSeq t u):=by
 intro pins s σ H D I h
 refine wpAny_execs_cons (thn (h1 pins s σ H { D with nx:=u D } I h) λ f s1 q=>?_)
 cases f with
 | next =>
  obtain ⟨σ',H',I',q⟩:=q
  exact h2 pins s1 σ' H' D I' q
 | ret v=>exact q
 | brk=>exact q
 | cont=>exact q
theorem zag (h1:PS X st t):PSs X [st] t:=by
 intro pins s σ H D I h
 refine wpAny_execs_cons (thn (h1 pins s σ H D I h) λ f s1 q=>?_)
 cases f with
 | next=>exact wpAny_execs_nil q
 | ret v=>exact q
 | brk=>exact q
 | cont=>exact q
theorem Inv.quiet {pins:List (Addr×Obj)} {σ:St} {H:Hp} {s:Shared} (I:Inv X pins σ H s):interactive X.env=false:=by simp [interactive,I.ok.kind]
def ztt (te:TE):TS:=λ D σ H=>te σ H λ _ H1=>D.nx σ H1
theorem zaM (he:PE X e te) (hs:swapsWith e none pos.line X.env=pure false:=by rfl):PS X (.Expr e pos) (ztt te):=by
 intro pins s σ H D I h
 exact wpAny_Expr_any (thn (he pins s σ H _ I h) λ v s1 ⟨x,H1,I1,r1,q1⟩=>⟨σ,H1,I1,q1⟩) I.quiet hs
def tRet (te:TE):TS:=λ D σ H=>te σ H D.rt
theorem zaw (he:PE X e te):PS X (.Return (some e) pos) (tRet te):=by
 intro pins s σ H D I h
 exact wpAny_Return_some (thn (he pins s σ H _ I h) λ v s1 ⟨x,H1,I1,r1,q1⟩=>⟨x,σ,H1,I1,r1,q1⟩)
def tIfS (c:TT) (t u:TS):TS:=λ D σ H=>c σ H λ b H1=>if b=true then t D σ H1 else u D σ H1
theorem zbq {c:Expr} {a b:List Stmt} {tc:TT} (hc:PT X c tc) (ha:PSs X a t) (hb:PSs X b u):PS X (.If c a b pos) (tIfS tc t u):=by
 intro pins s σ H D I h
 refine wpAny_If (thn (hc pins s σ H _ I h) λ d s1 ⟨H1,I1,q1⟩=>?_)
 cases d with
 | true=>exact ha pins s1 σ H1 D I1 q1
 | false=>exact hb pins s1 σ H1 D I1 q1
end
abbrev TG:=V->St->Hp->(St->Hp->Prop)->Prop
abbrev TGs:=List V->St->Hp->(St->Hp->Prop)->Prop
def PG (X:Cx) (target:Expr) (t:TG):Prop :=
 ∀ (pins:List (Addr×Obj)) (s:Shared) (σ:St) (H:Hp) (v:V) (u:Value) (Q:St->Hp->Prop),Inv X pins σ H s->RelV v u->t v σ H Q ->
  wpAny (model X.prog X.w) X.A (assign target X.env u) (λ _ s'=>∃ σ' H',Inv X pins σ' H' s'/\Q σ' H') X.xe s
def PGs (X:Cx) (ts:List Expr) (t:TGs):Prop :=
 ∀ (pins:List (Addr×Obj)) (s:Shared) (σ:St) (H:Hp) (vs:List V) (us:List Value) (Q:St->Hp->Prop),Inv X pins σ H s->Vals vs us->t vs σ H Q ->
  wpAny (model X.prog X.w) X.A (assignInOrder ((assignEach ts X.env).map (·.2)) us) (λ _ s'=>∃ σ' H',Inv X pins σ' H' s'/\Q σ' H') X.xe s
section
variable {X:Cx} {pos:Pos}
def zn5 (i:Nat):TG:=λ v σ H Q=>Q (σ.set i (some v)) H
theorem zaE {i:Nat} {x:Str} (hN:X.N.Nodup) (hi:X.N[i]?=some x) (hx:Loc X.env.scope x) (hf:X.fn x=true\/X.env.scope.names.lookup x=some .local:=by first | exact .inl rfl | exact .inr rfl | assumption):PG X (.Name x pos) (zn5 i):=by
 intro pins s σ H v u Q I r h
 exact wpAny_assign_Name (zmP I hN hi hx r (λ s' I'=>⟨_,H,I',h⟩) hf)
def gNil:TGs:=λ vs σ H Q=>vs=[]/\Q σ H
def ztP (t:TG) (u:TGs):TGs:=λ vs σ H Q=>∃ v r,vs=v::r/\t v σ H λ σ' H'=>u r σ' H' Q
theorem zen:PGs X [] gNil:=by
 intro pins s σ H vs us Q I r h
 obtain ⟨e,h⟩:=h
 subst e
 cases r
 exact assignInOrder_nil ⟨σ,H,I,h⟩
theorem za1 {e:Expr} {es:List Expr} {t:TG} {u:TGs} (h1:PG X e t) (h2:PGs X es u)
  (hs:(assignEach (e::es) X.env).map (·.2)=assign e X.env::(assignEach es X.env).map (·.2):=by rfl):PGs X (e::es) (ztP t u):=by
 intro pins s σ H vs us Q I r h
 obtain ⟨v,vr,e1,h⟩:=h
 subst e1
 cases r with
 | cons r rr =>
  rw [hs]
  refine assignInOrder_cons (thn (h1 pins s σ H _ _ _ I r h) λ _ s1 ⟨σ1,H1,I1,q1⟩=>?_)
  exact h2 pins s1 σ1 H1 _ _ Q I1 rr q1
def gTup (K:PySem.W.Frag) (n:Nat) (t:TGs):TG:=λ v σ H Q=>∃ a xs,v=.ref a/\SqT K H a xs/\xs.length=n/\t xs σ H Q
theorem ziN {es:List Expr} {k:Nat} {t:TGs} {n:Nat} (hc:X.calm=true) (h:PGs X es t)
  (hn:(assignEach es X.env).length=n:=by rfl) (hst:(assignEach es X.env).findIdx? (·.1)=none:=by rfl):PG X (.Tuple es k pos) (gTup X.K n t):=by
 intro pins s σ H v u Q I r hw
 obtain ⟨a,xs,e1,hq,hl,hw⟩:=hw
 subst e1
 cases r
 obtain ⟨its,rv,ht,hz⟩:=I.tuple hq
 refine assign_Tuple_tuple (I.ok.hd hc) ht (by simp [hn,<-hl,rv.length]) hst λ h' hx=>?_
 have I1:Inv X pins σ H { s with heap:=h' }:=I.kept (t':=s.toks) λ b o e=>hx b o (Nat.ne_of_lt (Heap.lt_size e)) e
 exact h pins _ σ H xs _ Q I1 (by simpa using rv) hw
def tAsg (te:TE) (g:TG):TS:=λ D σ H=>te σ H λ x H1=>g x σ H1 D.nx
theorem zsN {tg e:Expr} {te:TE} {g:TG} (he:PE X e te) (hg:PG X tg g) (hs:swapsWithSole [tg] e pos.line X.env=pure false:=by rfl) (hw:swappedStores [tg] e X.env=pure none:=by rfl)
  (h1:(assignEach [tg] X.env).map (·.2)=[assign tg X.env]:=by rfl):PS X (.Assign [tg] e pos) (tAsg te g):=by
 intro pins s σ H D I h
 refine wpAny_Assign_stores (thn (he pins s σ H _ I h) λ v s1 ⟨x,H1,I1,r1,q1⟩=>?_) hs hw
 rw [h1]
 exact thn (hg pins s1 σ H1 x v _ I1 r1 q1) λ _ s2 q=>q
theorem zaL {i:Nat} {x:Str} {e:Expr} {te:TE} {pos':Pos} (hN:X.N.Nodup) (hi:X.N[i]?=some x) (hx:Loc X.env.scope x) (he:PE X e te) (hs:swapsWith e (some (.Name x pos')) pos.line X.env=pure false:=by rfl) (hf:X.fn x=true\/X.env.scope.names.lookup x=some .local:=by first | exact .inl rfl | exact .inr rfl | assumption) :
  PS X (.Assign [.Name x pos'] e pos) (tAsg te (zn5 i)):=by
 intro pins s σ H D I h
 refine wpAny_Assign_Name (thn (he pins s σ H _ I h) λ v s1 ⟨y,H1,I1,r1,q1⟩=>?_) hs
 exact zmP I1 hN hi hx r1 (λ s2 I2=>⟨_,H1,I2,q1⟩) hf
end
section
variable {X:Cx} {pos:Pos}
def zsk (c:TT) (tb:TS):TS:=λ D σ H=>∃ W:Nat->St->Hp->Prop,(∃ m,W m σ H)/\∀ m σ H,W m σ H ->
 c σ H λ b H1=>if b=true then ∃ N:St->Hp->Prop,(∀ σ' H',N σ' H'->∃ m',m' < m/\W m' σ' H')/\tb { D with nx:=N,ct:=N,bk:=D.nx } σ H1 else D.nx σ H1
theorem zg2 {c:Expr} {body:List Stmt} {tc:TT} {tb:TS} (hp:PassesOwn (model X.prog X.w) X.A X.env X.xe) (hc:PT X c tc) (hb:PSs X body tb):PS X (.While c body [] pos) (zsk tc tb):=by
 intro pins s σ H D I h
 obtain ⟨W,⟨m0,w0⟩,turn⟩:=h
 refine wpAny_While (codeAny_whileLoop (λ n s'=>∃ σ' H',Inv X pins σ' H' s'/\W n σ' H') ?_ m0 ⟨σ,H,I,w0⟩)
 rintro n s1 ⟨σ1,H1,I1,w1⟩
 refine wpAny_passesOwn hp (thn (hc pins s1 σ1 H1 _ I1 (turn n σ1 H1 w1)) λ b s2 ⟨H2,I2,q2⟩=>?_)
 cases b with
 | true =>
  obtain ⟨N,hN,q2⟩:=q2
  rw [if_pos rfl]
  refine wpAny_passesOwn hp (thn (hb pins s2 σ1 H2 _ I2 q2) λ f s3 q3=>?_)
  cases f with
  | next =>
   obtain ⟨σ3,H3,I3,n3⟩:=q3
   obtain ⟨m',hm,w3⟩:=hN σ3 H3 n3
   exact ⟨m',hm,σ3,H3,I3,w3⟩
  | cont =>
   obtain ⟨σ3,H3,I3,n3⟩:=q3
   obtain ⟨m',hm,w3⟩:=hN σ3 H3 n3
   exact ⟨m',hm,σ3,H3,I3,w3⟩
  | brk=>exact q3
  | ret v=>exact q3
 | false =>
  rw [if_neg Bool.false_ne_true]
  exact wpAny_execs_nil ⟨σ1,H2,I2,q2⟩
end
structure It where
 go:Nat->Hp->Prop
 yld:Nat->Hp->V->Hp->Prop
 stop:Nat->Hp->Prop
def FpOk (X:Cx) (pins:List (Addr×Obj)) (H:Hp) (b:Addr):Prop :=
 H b=none/\b≠X.env.locals/\b∉X.fs/\(b∈X.ex\/X.s₀.heap.objs.size<=b)/\(∀ x c,X.env.cells.lookup x=some c->c≠b)/\∀ p∈X.pn++pins,p.1≠b
theorem Inv.fpOk {X:Cx} {pins:List (Addr×Obj)} {σ:St} {H H':Hp} {s:Shared} {b:Addr} (I:Inv X pins σ H s) (hb:s.heap.objs.size<=b) (hn:H' b=none):FpOk X pins H' b:=by
 refine ⟨hn,Nat.ne_of_gt (Nat.lt_of_lt_of_le I.lt hb),I.nofs hb,.inr (Nat.le_trans I.sz hb),λ x c e z=>?_,λ p hp z=>?_⟩
 . obtain ⟨v,q⟩:=I.cell x c e
   exact absurd (Nat.lt_of_lt_of_le q.lt (by rw [z]; exact hb)) (Nat.lt_irrefl _)
 . exact absurd (Nat.lt_of_lt_of_le (Heap.lt_size (I.pin p hp).1) (by rw [z]; exact hb)) (Nat.lt_irrefl _)
structure Turn (P:Program) (w:World) (K:PySem.W.Frag) (tg:Expr) (J:It) (fp:List Addr) (it:Addr) (tn:Nat->Heap->Prop):Prop where
 mem:it∈fp
 obj:∀ i h,tn i h->∀ b∈fp,∃ o,h.get? b=some o/\∀ v,o.data≠.cell v
 keep:∀ i h h',tn i h->(∀ b∈fp,∀ o,h.get? b=some o->h'.get? b=some o)->tn i h'
 item:∀ (X:Cx),X.prog=P->X.w=w->X.K=K->X.calm=true->∀ (i:Nat) (pins:List (Addr×Obj)) (s:Shared) (σ:St) (H:Hp) (E:Value->Shared->Prop),Inv X pins σ H s->(∀ b∈fp,FpOk X pins H b)->tn i s.heap->J.go i H ->
  wpAny (model P w) X.A (pyNext (.ref it)) (λ r s1=>∃ u,r=some u /\
   wpAny (model P w) X.A (letOwnedTupleGo tg (.ref it) u) (λ _ s2=>∃ x H',Inv X pins σ H' s2/\RelV x u/\J.yld i H x H'/\tn (i+1) s2.heap/\∀ b∈fp,H' b=none) E s1) E s
 done:∀ (X:Cx),X.prog=P->X.w=w->X.K=K->X.calm=true->∀ (i:Nat) (pins:List (Addr×Obj)) (s:Shared) (σ:St) (H:Hp) (E:Value->Shared->Prop),Inv X pins σ H s->(∀ b∈fp,FpOk X pins H b)->tn i s.heap->J.stop i H ->
  wpAny (model P w) X.A (pyNext (.ref it)) (λ r s1=>r=none/\Inv X pins σ H s1) E s
 self:∀ (A:Around) (i:Nat) (s:Shared) (Q:Value->Shared->Prop) (E:Value->Shared->Prop),tn i s.heap->Q (.ref it) s->wpAny (model P w) A (pyIter (.ref it)) Q E s
abbrev TI:=St->Hp->(It->Hp->Prop)->Prop
def PIE (X:Cx) (pins:List (Addr×Obj)) (σ:St) (tg:Expr) (R:It->Hp->Prop) (itv:Value) (s2:Shared):Prop :=
 ∃ (it:Addr) (fp:List Addr) (tn:Nat->Heap->Prop) (J:It) (H':Hp),itv=.ref it/\Inv X pins σ H' s2/\Turn X.prog X.w X.K tg J fp it tn/\tn 0 s2.heap/\(∀ b∈fp,FpOk X pins H' b)/\R J H'
def PI (X:Cx) (tg iter:Expr) (wi:TI):Prop :=
 ∀ (pins:List (Addr×Obj)) (s:Shared) (σ:St) (H:Hp) (R:It->Hp->Prop),Inv X pins σ H s->wi σ H R ->
  wpAny (model X.prog X.w) X.A (eval iter X.env) (λ v s1=>wpAny (model X.prog X.w) X.A (pyIter v) (PIE X pins σ tg R) X.xe s1) X.xe s
theorem zqE {M:Model} {A:Around} {E:Value->Shared->Prop} {s:Shared} {tg:Expr} {it:Addr} {u:Value} {o:Obj} {n:String} {vs:Array Value} {Q:Unit->Shared->Prop} (ho:s.heap.get? it=some o) (hc:o.cls=.type n) (hd:o.data=.fields vs)
    (hn:["enumerate","zip","dict_itemiterator","dict_reverseitemiterator","odict_iterator","itertools.zip_longest","itertools.pairwise"].contains n=false) (hQ:Q () s):wpAny M A (letOwnedTupleGo tg (.ref it) u) Q E s:=by
  unfold letOwnedTupleGo
  cases tg <;> first
    | exact wpAny_pure hQ
    | (cases u <;> first
        | exact wpAny_pure hQ
        | (refine wpAny_bind (wpAny_load ho ?_)
           rw [hc,hd]
           show wpAny M A (if (["enumerate","zip","dict_itemiterator","dict_reverseitemiterator","odict_iterator","itertools.zip_longest","itertools.pairwise"].contains n && vs[0]? == some (rawInt _))=true then _ else _) Q E s
           rw [if_neg (by intro h; rw [hn,Bool.false_and] at h; cases h)]
           exact wpAny_pure hQ))
def Itl (K:PySem.W.Frag) (a:Addr):It :=
 ⟨λ i H=>∃ xs x,SqL K H a xs/\xs[i]?=some x,λ i H x H'=>H'=H/\∀ xs,SqL K H a xs->xs[i]?=some x,λ i H=>∃ xs,SqL K H a xs/\xs.length<=i⟩
def Itt (K:PySem.W.Frag) (a:Addr):It :=
 ⟨λ i H=>∃ xs x,SqT K H a xs/\xs[i]?=some x,λ i H x H'=>H'=H/\∀ xs,SqT K H a xs->xs[i]?=some x,λ i H=>∃ xs,SqT K H a xs/\xs.length<=i⟩
def Itr (lo:Int) (n:Nat):It:=⟨λ i _=>i < n,λ i H x H'=>H'=H/\x=.int (lo+i),λ i _=>n<=i⟩
theorem zor {P:Program} {w:World} {K:PySem.W.Frag} {tg:Expr} (a it:Addr):Turn P w K tg (Itl K a) [it] it (λ i h=>h.IsListIter it a i) where
 mem:=by simp
 obj:=λ i h st b hb=>by
  have e:b=it:=by simpa using hb
  subst e
  obtain ⟨o,e,c,d⟩:=st
  exact ⟨o,e,λ v z=>by rw [d] at z; cases z⟩
 keep:=λ i h h' st k=>st.at λ o e=>k it (by simp) o e
 item:=by
  intro X hP hw hK hc i pins s σ H E I hf st hg
  subst hP hw hK
  obtain ⟨xs,x,hq,hx⟩:=hg
  obtain ⟨its,rv,p,hz⟩:=I.list hq
  obtain ⟨u,hu,ru⟩:=rv.get hx
  obtain ⟨f0,f1,f2,f3,f4,f5⟩:=hf it (by simp)
  refine wpAny_pyNext_list_item st p.isList (x:=u) (by simpa using hu) λ h' st' sb=>?_
  have I1:Inv X pins σ H { s with heap:=h' }:=I.turned (t':=s.toks) (λ b o hb e=>(sb.2 b hb).trans e) f0 f1 f3 f4 f5
  obtain ⟨o,e,c,d⟩:=id st'
  exact ⟨u,rfl,zqE (s:={ s with heap:=h' }) e c d (by decide) ⟨x,H,I1,ru,⟨rfl,λ ys hy=>by rw [I.zqt hy hq]; exact hx⟩,st',λ b hb=>(hf b hb).1⟩⟩
 done:=by
  intro X hP hw hK hc i pins s σ H E I hf st hg
  subst hP hw hK
  obtain ⟨xs,hq,hx⟩:=hg
  obtain ⟨its,rv,p,hz⟩:=I.list hq
  obtain ⟨f0,f1,f2,f3,f4,f5⟩:=hf it (by simp)
  have hl:=rv.length
  exact wpAny_pyNext_list_end (I.ok.hd hc) st p.isList (by simp; omega) λ h' eb=>⟨rfl,I.turned (t':=s.toks) (λ b o hb e=>eb b o hb e) f0 f1 f3 f4 f5⟩
 self:=λ _ _ _ _ _ st h=>wpAny_pyIter_listiter st h
theorem znt {P:Program} {w:World} {K:PySem.W.Frag} {tg:Expr} (a it:Addr):Turn P w K tg (Itt K a) [it] it (λ i h=>h.IsTupleIter it a i) where
 mem:=by simp
 obj:=λ i h st b hb=>by
  have e:b=it:=by simpa using hb
  subst e
  obtain ⟨o,e,c,d⟩:=st
  exact ⟨o,e,λ v z=>by rw [d] at z; cases z⟩
 keep:=λ i h h' st k=>st.at λ o e=>k it (by simp) o e
 item:=by
  intro X hP hw hK hc i pins s σ H E I hf st hg
  subst hP hw hK
  obtain ⟨xs,x,hq,hx⟩:=hg
  obtain ⟨its,rv,p,hz⟩:=I.tuple hq
  obtain ⟨u,hu,ru⟩:=rv.get hx
  obtain ⟨f0,f1,f2,f3,f4,f5⟩:=hf it (by simp)
  refine wpAny_pyNext_tuple_item st (show s.heap.IsTuple a its.toArray from p) (x:=u) (by simpa using hu) λ h' st' sb=>?_
  have I1:Inv X pins σ H { s with heap:=h' }:=I.turned (t':=s.toks) (λ b o hb e=>(sb.2 b hb).trans e) f0 f1 f3 f4 f5
  obtain ⟨o,e,c,d⟩:=id st'
  exact ⟨u,rfl,zqE (s:={ s with heap:=h' }) e c d (by decide) ⟨x,H,I1,ru,⟨rfl,λ ys hy=>by rw [I.zot hy hq]; exact hx⟩,st',λ b hb=>(hf b hb).1⟩⟩
 done:=by
  intro X hP hw hK hc i pins s σ H E I hf st hg
  subst hP hw hK
  obtain ⟨xs,hq,hx⟩:=hg
  obtain ⟨its,rv,p,hz⟩:=I.tuple hq
  obtain ⟨f0,f1,f2,f3,f4,f5⟩:=hf it (by simp)
  have hl:=rv.length
  exact wpAny_pyNext_tuple_end (I.ok.hd hc) st (show s.heap.IsTuple a its.toArray from p) (by simp; omega) λ h' eb=>⟨rfl,I.turned (t':=s.toks) (λ b o hb e=>eb b o hb e) f0 f1 f3 f4 f5⟩
 self:=λ _ _ _ _ _ st h=>wpAny_pyIter_tupleiter st h
theorem znu {P:Program} {w:World} {K:PySem.W.Frag} {tg:Expr} (it:Addr) (lo:Int) (n:Nat):Turn P w K tg (Itr lo n) [it] it (λ i h=>IsRangeIter h it (lo+(i:Nat) * 1) ((n:Int) - (i:Nat)) 1) where
 mem:=by simp
 obj:=λ i h st b hb=>by
  have e:b=it:=by simpa using hb
  subst e
  exact ⟨_,st,λ v z=>by
   have z':Data.fields _=Data.cell v:=z
   cases z'⟩
 keep:=λ i h h' st k=>k it (by simp) _ st
 item:=by
  intro X hP hw hK hc i pins s σ H E I hf st hg
  subst hP hw hK
  obtain ⟨f0,f1,f2,f3,f4,f5⟩:=hf it (by simp)
  have W:=Walks.range (prog:=X.prog) (w:=X.w) (I.ok.hd hc) it lo 1 n
  refine W.item i s _ _ hg st λ v h' tk hv st' kk=>?_
  obtain ⟨t,rfl⟩:=hv
  have I1:Inv X pins σ H { s with heap:=h',toks:=tk }:=I.turned (λ b o hb e=>kk b o (by simpa using hb) e) f0 f1 f3 f4 f5
  refine ⟨_,rfl,zqE (s:={ s with heap:=h',toks:=tk }) (n := "range_iterator") st' rfl rfl (by decide) ⟨.int (lo+i),H,I1,⟨t,?_⟩,⟨rfl,rfl⟩,st',λ b hb=>(hf b hb).1⟩⟩
  rw [Int.mul_one]
 done:=by
  intro X hP hw hK hc i pins s σ H E I hf st hg
  subst hP hw hK
  obtain ⟨f0,f1,f2,f3,f4,f5⟩:=hf it (by simp)
  exact wpAny_pyNext_range_end (I.ok.hd hc) st (by have:n<=i:=hg; omega) λ h' eb=>⟨rfl,I.turned (t':=s.toks) (λ b o hb e=>eb b o hb e) f0 f1 f3 f4 f5⟩
 self:=λ _ _ _ _ _ st h=>wpAny_pyIter_rangeiter st h
end L2
namespace L2
open PySem PySem.Spec PyProof.Rows
section
variable {X:Cx} {tg:Expr}
def zs4 (K:PySem.W.Frag) (tl:TE):TI:=λ σ H R=>tl σ H λ x H1=>∃ a,x=.ref a/\(∃ xs,SqL K H1 a xs)/\R (Itl K a) H1
def iTup (K:PySem.W.Frag) (tl:TE):TI:=λ σ H R=>tl σ H λ x H1=>∃ a,x=.ref a/\(∃ xs,SqT K H1 a xs)/\R (Itt K a) H1
theorem zcS {l:Expr} {tl:TE} (hl:PE X l tl):PI X tg l (zs4 X.K tl):=by
 intro pins s σ H R I h
 refine thn (hl pins s σ H _ I h) λ v s1 ⟨x,H1,I1,r1,q1⟩=>?_
 obtain ⟨a,e,⟨xs,hq⟩,q⟩:=q1
 subst e
 cases r1
 obtain ⟨its,rv,p,hz⟩:=I1.list hq
 refine wpAny_pyIter_list p.isList ?_
 refine ⟨s1.heap.objs.size,[s1.heap.objs.size],_,_,H1,rfl,I1.kept (t':=s1.toks) λ b o e=>Heap.get?_push_of_some _ e,zor a _,⟨_,Heap.get?_push_size _ rfl,rfl,rfl⟩,λ b hb=>?_,q⟩
 have e:b=s1.heap.objs.size:=by simpa using hb
 subst e
 exact I1.fpOk (Nat.le_refl _) (I1.hok.fresh (Nat.le_refl _))
theorem ziM {l:Expr} {tl:TE} (hl:PE X l tl):PI X tg l (iTup X.K tl):=by
 intro pins s σ H R I h
 refine thn (hl pins s σ H _ I h) λ v s1 ⟨x,H1,I1,r1,q1⟩=>?_
 obtain ⟨a,e,⟨xs,hq⟩,q⟩:=q1
 subst e
 cases r1
 obtain ⟨its,rv,p,hz⟩:=I1.tuple hq
 refine wpAny_pyIter_tuple (show s1.heap.IsTuple a its.toArray from p) ?_
 refine ⟨s1.heap.objs.size,[s1.heap.objs.size],_,_,H1,rfl,I1.kept (t':=s1.toks) λ b o e=>Heap.get?_push_of_some _ e,znt a _,⟨_,Heap.get?_push_size _ rfl,rfl,rfl⟩,λ b hb=>?_,q⟩
 have e:b=s1.heap.objs.size:=by simpa using hb
 subst e
 exact I1.fpOk (Nat.le_refl _) (I1.hok.fresh (Nat.le_refl _))
theorem zqe {pins:List (Addr×Obj)} {σ:St} {H:Hp} {s:Shared} {R:It->Hp->Prop} {E:Value->Shared->Prop} {lo hi:Int} {t u v:Tok} {tk:Nat} (I:Inv X pins σ H s) (h1:-(2 ^ 62)<=lo) (h2:lo < 2 ^ 62) (h3:-(2 ^ 62)<=hi) (h4:hi < 2 ^ 62)
   (q:R (Itr lo (hi - lo).toNat) H):wpAny (model X.prog X.w) X.A (pyIter (.ref s.heap.objs.size)) (PIE X pins σ tg R) E { s with heap:=s.heap.push { cls:=.type "range",data:=.fields #[.int lo t,.int hi u,.int 1 v] },toks:=tk }:=by
 refine wpAny_pyIter_range (IsRange.new ..) (small_one h1 h2 h3 h4) ?_
 have I1:Inv X pins σ H { s with heap:=s.heap.push { cls:=.type "range",data:=.fields #[.int lo t,.int hi u,.int 1 v] },toks:=tk }:=I.kept λ b o e=>Heap.get?_push_of_some _ e
 refine ⟨(s.heap.push { cls:=.type "range",data:=.fields #[.int lo t,.int hi u,.int 1 v] }).objs.size,[(s.heap.push { cls:=.type "range",data:=.fields #[.int lo t,.int hi u,.int 1 v] }).objs.size],_,_,H,rfl,
   I1.kept (t':=tk) λ b o e=>Heap.get?_push_of_some _ e,znu _ lo (hi - lo).toNat,?_,λ b hb=>?_,q⟩
 . have e1:lo+((0:Nat):Int) * 1=lo:=by simp
   have e2:(((hi - lo).toNat:Nat):Int) - ((0:Nat):Int)=Builtin.Range.rangeSize lo hi 1:=by rw [rangeSize_one]; split <;> omega
   show IsRangeIter _ _ (lo+((0:Nat):Int) * 1) ((((hi - lo).toNat:Nat):Int) - ((0:Nat):Int)) 1
   rw [e1,e2]
   exact Heap.get?_push_size _ rfl
 . have e:b=(s.heap.push { cls:=.type "range",data:=.fields #[.int lo t,.int hi u,.int 1 v] }).objs.size:=by simpa using hb
   subst e
   exact I1.fpOk (Nat.le_refl _) (I1.hok.fresh (Nat.le_refl _))
def ztL (ta:TA):TI:=λ σ H R=>ta σ H λ vs H1=>∃ j:Int,vs=[.int j]/\-(2 ^ 62)<=j/\j < 2 ^ 62/\R (Itr 0 j.toNat) H1
theorem zem {a:Expr} {ta:TA} {p pos:Pos} (hg:Gl X "range") (hm:X.mg "range" = none) (ha:PA X [a] ta) (hs:starEach [a] X.env=[(false,eval a X.env)]:=by rfl):PI X tg (.Call (.Name "range" p) [a] [] pos) (ztL ta):=by
 intro pins s σ H R I h
 refine Call_ (zm8 I hg hm boot_range (PyProof.Rows.callWith_type1 (thn (ha pos pins s σ H _ I h) λ us s1 ⟨vs,H1,I1,r1,q1⟩=>?_) hs rfl))
 obtain ⟨j,e,q1,q2,q⟩:=q1
 subst e
 cases r1 with
 | cons r rr =>
  cases rr
  obtain ⟨t,rfl⟩:=r
  exact call_range_1 (zqe I1 (by omega) (by omega) q1 q2 (by simpa using q))
def tFor (wi:TI) (g:TG) (tb:TS):TS:=λ D σ H=>wi σ H λ J H1=>∃ W:Nat->Nat->St->Hp->Prop,(∃ m,W 0 m σ H1)/\∀ i m σ H,W i m σ H ->
 (J.stop i H/\D.nx σ H)\/(J.go i H/\∃ N:St->Hp->Prop,(∀ σ' H',N σ' H'->∃ m',m' < m/\W (i+1) m' σ' H')/\∀ x H',J.yld i H x H'->g x σ H' λ σ2 H2=>tb { D with nx:=N,ct:=N,bk:=D.nx } σ2 H2)
def zkz (fp:List Addr) (h:Heap):List (Addr×Obj):=fp.filterMap λ b=>(h.get? b).map λ o=>(b,o)
theorem zgc {fp:List Addr} {h:Heap} {b:Addr} {o:Obj} (hb:b∈fp) (e:h.get? b=some o):(b,o)∈zkz fp h:=List.mem_filterMap.mpr ⟨b,hb,by rw [e]; rfl⟩
theorem zo3 {fp:List Addr} {h:Heap} {p:Addr×Obj} (hp:p∈zkz fp h):p.1∈fp/\h.get? p.1=some p.2:=by
 obtain ⟨b,hb,e⟩:=List.mem_filterMap.mp hp
 cases q:h.get? b with
 | none=>rw [q] at e; cases e
 | some o =>
  rw [q] at e
  have e':(b,o)=p:=Option.some.inj e
  subst e'
  exact ⟨hb,q⟩
theorem Inv.pinned {pins:List (Addr×Obj)} {σ:St} {H:Hp} {s:Shared} {fp:List Addr} (I:Inv X pins σ H s) (hf:∀ b∈fp,FpOk X pins H b) (ho:∀ b∈fp,∃ o,s.heap.get? b=some o/\∀ v,o.data≠.cell v):Inv X (pins++zkz fp s.heap) σ H s :=
 I.zhp λ p hp=>(List.mem_append.mp hp).elim (λ z=>I.pin p (List.mem_append_right _ z)) λ z=>by
  obtain ⟨hb,e⟩:=zo3 z
  obtain ⟨f0,f1,f2,_⟩:=hf p.1 hb
  obtain ⟨o,e',d⟩:=ho p.1 hb
  rw [e] at e'; cases e'
  exact ⟨e,f0,f1,f2,d⟩
theorem Inv.zje {pins pl:List (Addr×Obj)} {σ:St} {H:Hp} {s:Shared} (I:Inv X (pins++pl) σ H s):Inv X pins σ H s:=I.zhp λ p hp=>I.pin p (List.mem_append_right _ (List.mem_append_left _ hp))
theorem zeS {iter:Expr} {body:List Stmt} {wi:TI} {g:TG} {tb:TS} {pos:Pos} (hp:PassesOwn (model X.prog X.w) X.A X.env X.xe) (hc:X.calm=true) (hi:PI X tg iter wi) (hg:PG X tg g) (hb:PSs X body tb)
   (hs:∀ x,foldedSetIterable iter X.env x=pure x:=by intro _; rfl):PS X (.For tg iter body [] pos) (tFor wi g tb):=by
 intro pins s σ H D I h
 refine wpAny_For (thn (hi pins s σ H _ I h) λ v s1 h1=>thn h1 λ itv s2 h2=>?_) hs
 obtain ⟨it,fp,tn,J,H2,e,I2,T,st2,f2,W,⟨m0,w0⟩,turn⟩:=h2
 subst e
 have stat:∀ {H':Hp},(∀ b∈fp,H' b=none)->∀ b∈fp,FpOk X pins H' b:=λ hn b hb=>⟨hn b hb,(f2 b hb).2⟩
 refine codeAny_forLoop_any (λ n s'=>∃ i σ' H',Inv X pins σ' H' s'/\tn i s'.heap/\(∀ b∈fp,H' b=none)/\W i n σ' H') ?_ m0 ⟨0,σ,H2,I2,st2,λ b hb=>(f2 b hb).1,w0⟩
 rintro n s3 ⟨i,σ3,H3,I3,st3,fr3,w3⟩
 rcases turn i n σ3 H3 w3 with ⟨stop,qn⟩ | ⟨go,N,hN,step⟩
 . refine wpAny_passesOwn hp (thn (T.done X rfl rfl rfl hc i pins s3 σ3 H3 X.xe I3 (stat fr3) st3 stop) λ r s4 ⟨hr,I4⟩=>?_)
   subst hr
   exact wpAny_execs_nil ⟨σ3,H3,I4,qn⟩
 . refine wpAny_passesOwn hp (thn (T.item X rfl rfl rfl hc i pins s3 σ3 H3 X.xe I3 (stat fr3) st3 go) λ r s4 ⟨u,hr,h4⟩=>?_)
   subst hr
   refine wpAny_passesOwn hp (thn h4 λ _ s5 ⟨x,H5,I5,r5,y5,st5,fr5⟩=>?_)
   have I5':=I5.pinned (stat fr5) (T.obj _ _ st5)
   refine wpAny_passesOwn hp (thn (hg _ s5 σ3 H5 x u _ I5' r5 (step x H5 y5)) λ _ s6 ⟨σ6,H6,I6,q6⟩=>?_)
   refine wpAny_passesOwn hp (thn (hb _ s6 σ6 H6 _ I6 q6) λ f s7 q7=>?_)
   have again:∀ {σ7:St} {H7:Hp},Inv X (pins++zkz fp s5.heap) σ7 H7 s7->N σ7 H7->∃ m,m < n/\∃ i σ' H',Inv X pins σ' H' s7/\tn i s7.heap/\(∀ b∈fp,H' b=none)/\W i m σ' H':=λ {σ7 H7} I7 n7=>by
    obtain ⟨m',hm,w7⟩:=hN σ7 H7 n7
    refine ⟨m',hm,i+1,σ7,H7,I7.zje,T.keep _ _ _ st5 λ b hb o e=>(I7.pin (b,o) (List.mem_append_right _ (List.mem_append_right _ (zgc hb e)))).1,λ b hb=>?_,w7⟩
    obtain ⟨o,e,d⟩:=T.obj _ _ st5 b hb
    exact (I7.pin (b,o) (List.mem_append_right _ (List.mem_append_right _ (zgc hb e)))).2.1
   cases f with
   | next=>obtain ⟨σ7,H7,I7,n7⟩:=q7; exact again I7 n7
   | cont=>obtain ⟨σ7,H7,I7,n7⟩:=q7; exact again I7 n7
   | brk=>obtain ⟨σ7,H7,I7,q7⟩:=q7; exact ⟨σ7,H7,I7.zje,q7⟩
   | ret v=>obtain ⟨x7,σ7,H7,I7,r7,q7⟩:=q7; exact ⟨x7,σ7,H7,I7.zje,r7,q7⟩
end
theorem zeL {K:PySem.W.Frag} {a:Addr} {xs:List V} {g:TG} {tb:TS} {D:Ends} {σ:St} {H:Hp} (Pv:Nat->St->Hp->Prop) (h0:Pv 0 σ H) (hl:∀ i σ H,i<=xs.length->Pv i σ H->SqL K H a xs)
   (hs:∀ i x σ H,xs[i]?=some x->Pv i σ H->g x σ H λ σ2 H2=>tb { D with nx:=Pv (i+1),ct:=Pv (i+1),bk:=D.nx } σ2 H2) (hd:∀ σ H,Pv xs.length σ H->D.nx σ H) :
   ∃ W:Nat->Nat->St->Hp->Prop,(∃ m,W 0 m σ H)/\∀ i m σ H,W i m σ H ->
    ((Itl K a).stop i H/\D.nx σ H)\/((Itl K a).go i H/\∃ N:St->Hp->Prop,(∀ σ' H',N σ' H'->∃ m',m' < m/\W (i+1) m' σ' H')/\∀ x H',(Itl K a).yld i H x H'->g x σ H' λ σ2 H2=>tb { D with nx:=N,ct:=N,bk:=D.nx } σ2 H2):=by
 refine ⟨λ i m σ H=>m=xs.length - i/\i<=xs.length/\Pv i σ H,⟨xs.length,by simp,Nat.zero_le _,h0⟩,?_⟩
 rintro i m σ H ⟨rfl,hi,p⟩
 have q:=hl i σ H hi p
 by_cases hlt:i < xs.length
 . refine .inr ⟨⟨xs,xs[i],q,by simp [hlt]⟩,Pv (i+1),λ σ' H' p'=>⟨xs.length - (i+1),by omega,rfl,hlt,p'⟩,λ x H' y=>?_⟩
   obtain ⟨e,y⟩:=y
   subst e
   exact hs i x σ _ (y xs q) p
 . have e:i=xs.length:=by omega
   subst e
   exact .inl ⟨⟨xs,q,Nat.le_refl _⟩,hd σ H p⟩
theorem zjP {K:PySem.W.Frag} {a:Addr} {xs:List V} {g:TG} {tb:TS} {D:Ends} {σ:St} {H:Hp} (Pv:Nat->St->Hp->Prop) (h0:Pv 0 σ H) (hl:∀ i σ H,i<=xs.length->Pv i σ H->SqT K H a xs)
   (hs:∀ i x σ H,xs[i]?=some x->Pv i σ H->g x σ H λ σ2 H2=>tb { D with nx:=Pv (i+1),ct:=Pv (i+1),bk:=D.nx } σ2 H2) (hd:∀ σ H,Pv xs.length σ H->D.nx σ H) :
   ∃ W:Nat->Nat->St->Hp->Prop,(∃ m,W 0 m σ H)/\∀ i m σ H,W i m σ H ->
    ((Itt K a).stop i H/\D.nx σ H)\/((Itt K a).go i H/\∃ N:St->Hp->Prop,(∀ σ' H',N σ' H'->∃ m',m' < m/\W (i+1) m' σ' H')/\∀ x H',(Itt K a).yld i H x H'->g x σ H' λ σ2 H2=>tb { D with nx:=N,ct:=N,bk:=D.nx } σ2 H2):=by
 refine ⟨λ i m σ H=>m=xs.length - i/\i<=xs.length/\Pv i σ H,⟨xs.length,by simp,Nat.zero_le _,h0⟩,?_⟩
 rintro i m σ H ⟨rfl,hi,p⟩
 have q:=hl i σ H hi p
 by_cases hlt:i < xs.length
 . refine .inr ⟨⟨xs,xs[i],q,by simp [hlt]⟩,Pv (i+1),λ σ' H' p'=>⟨xs.length - (i+1),by omega,rfl,hlt,p'⟩,λ x H' y=>?_⟩
   obtain ⟨e,y⟩:=y
   subst e
   exact hs i x σ _ (y xs q) p
 . have e:i=xs.length:=by omega
   subst e
   exact .inl ⟨⟨xs,q,Nat.le_refl _⟩,hd σ H p⟩
end L2
namespace L2
open PySem PySem.Spec PyProof.Rows
abbrev R2:=V->V->Hp->VK->Prop
def OpR (X:Cx) (f:Value->Value->Sem Value) (r:R2):Prop :=
 ∀ (pins:List (Addr×Obj)) (s:Shared) (σ:St) (H:Hp) (x y:V) (v u:Value) (Q:VK),Inv X pins σ H s->RelV x v->RelV y u->r x y H Q ->
  wpAny (model X.prog X.w) X.A (f v u) (EP X pins σ Q) X.xe s
def UnR (X:Cx) (f:Value->Sem Value) (r:V->Hp->VK->Prop):Prop :=
 ∀ (pins:List (Addr×Obj)) (s:Shared) (σ:St) (H:Hp) (x:V) (v:Value) (Q:VK),Inv X pins σ H s->RelV x v->r x H Q ->
  wpAny (model X.prog X.w) X.A (f v) (EP X pins σ Q) X.xe s
def zfU (X:Cx) (f:Value) (r:List V->Hp->VK->Prop):Prop :=
 ∀ (pins:List (Addr×Obj)) (s:Shared) (σ:St) (H:Hp) (xs:List V) (us:List Value) (Q:VK),Inv X pins σ H s->Vals xs us->r xs H Q ->
  wpAny (model X.prog X.w) X.A (call f us) (EP X pins σ Q) X.xe s
def TruR (X:Cx) (r:V->Hp->(Bool->Hp->Prop)->Prop):Prop :=
 ∀ (pins:List (Addr×Obj)) (s:Shared) (σ:St) (H:Hp) (x:V) (v:Value) (Q:Bool->Hp->Prop),Inv X pins σ H s->RelV x v->r x H Q ->
  wpAny (model X.prog X.w) X.A (truthy v) (TP X pins σ Q) X.xe s
def tOp (r:R2) (ta tb:TE):TE:=λ σ H Q=>ta σ H λ x H1=>tb σ H1 λ y H2=>r x y H2 Q
def tUn (r:V->Hp->VK->Prop) (ta:TE):TE:=λ σ H Q=>ta σ H λ x H1=>r x H1 Q
def rI (C:Int->Int->Prop) (g:Int->Int->V):R2:=λ x y H Q=>∃ i j,x=.int i/\y=.int j/\C i j/\Q (g i j) H
def rI0 (g:Int->Int->V):R2:=λ x y H Q=>∃ i j,x=.int i/\y=.int j/\Q (g i j) H
def rU (g:Int->V):V->Hp->VK->Prop:=λ x H Q=>∃ i,x=.int i/\Q (g i) H
section
variable {X:Cx} {a b c:Expr} {ta tb tc:TE} {pos:Pos}
theorem binT (ha:PE X a ta) (hb:PE X b tb) {pins:List (Addr×Obj)} {s:Shared} {σ:St} {H:Hp} {R:V->V->Hp->Prop} (I:Inv X pins σ H s)
  (h:ta σ H λ x H1=>tb σ H1 λ y H2=>R x y H2) {Q:Value->Shared->Prop} {f:Value->Value->Sem Value}
  (hf:∀ v u s2 x y H2,Inv X pins σ H2 s2->RelV x v->RelV y u->R x y H2->wpAny (model X.prog X.w) X.A (f v u) Q X.xe s2) :
  wpAny (model X.prog X.w) X.A (eval a X.env) (λ v s₁=>wpAny (model X.prog X.w) X.A (eval b X.env) (λ u s₂=>wpAny (model X.prog X.w) X.A (f v u) Q X.xe s₂) X.xe s₁) X.xe s:=by
 refine thn (ha pins s σ H _ I h) λ v s1 ⟨x,H1,I1,r1,q1⟩=>?_
 refine thn (hb pins s1 σ H1 _ I1 q1) λ u s2 ⟨y,H2,I2,r2,q2⟩=>?_
 exact hf v u s2 x y H2 I2 r1 r2 q2
theorem zcT {op:Operator} {r:R2} (ho:OpR X (binaryOp op) r) (ha:PE X a ta) (hb:PE X b tb):PE X (.BinOp a op b pos) (tOp r ta tb):=by
 intro pins s σ H Q I h
 exact wpAny_BinOp (binT ha hb I h λ v u s2 x y H2 I2 rx ry q=>ho pins s2 σ H2 x y v u Q I2 rx ry q)
theorem zrH {op:UnaryOp} {r:V->Hp->VK->Prop} (ho:UnR X (unaryOp op) r) (ha:PE X a ta):PE X (.UnaryOp op a pos) (tUn r ta):=by
 intro pins s σ H Q I h
 exact UnaryOp_ (thn (ha pins s σ H _ I h) λ v s1 ⟨x,H1,I1,r1,q1⟩=>ho pins s1 σ H1 x v Q I1 r1 q1)
theorem opI {f:Value->Value->Sem Value} {C:Int->Int->Prop} {g:Int->Int->Int}
  (rule:∀ (i j:Int) (t u:Tok) (s:Shared) (Q:Value->Shared->Prop) (E:Value->Shared->Prop),C i j->Q (.int (g i j) s.toks) { s with toks:=s.toks+1 }->wpAny (model X.prog X.w) X.A (f (.int i t) (.int j u)) Q E s) :
  OpR X f (rI C λ i j=>.int (g i j)):=by
 intro pins s σ H x y v u Q I rx ry h
 obtain ⟨i,j,rfl,rfl,hc,q⟩:=h
 obtain ⟨t,rfl⟩:=rx
 obtain ⟨t',rfl⟩:=ry
 exact rule i j t t' s _ _ hc ⟨.int (g i j),H,I.tok _,⟨_,rfl⟩,q⟩
theorem opI0 {f:Value->Value->Sem Value} {g:Int->Int->Int}
  (rule:∀ (i j:Int) (t u:Tok) (s:Shared) (Q:Value->Shared->Prop) (E:Value->Shared->Prop),Q (.int (g i j) s.toks) { s with toks:=s.toks+1 }->wpAny (model X.prog X.w) X.A (f (.int i t) (.int j u)) Q E s) :
  OpR X f (rI0 λ i j=>.int (g i j)):=by
 intro pins s σ H x y v u Q I rx ry h
 obtain ⟨i,j,rfl,rfl,q⟩:=h
 obtain ⟨t,rfl⟩:=rx
 obtain ⟨t',rfl⟩:=ry
 exact rule i j t t' s _ _ ⟨.int (g i j),H,I.tok _,⟨_,rfl⟩,q⟩
theorem opB0 {f:Value->Value->Sem Value} {g:Int->Int->Bool}
  (rule:∀ (i j:Int) (t u:Tok) (s:Shared) (Q:Value->Shared->Prop) (E:Value->Shared->Prop),Q (.bool (g i j)) s->wpAny (model X.prog X.w) X.A (f (.int i t) (.int j u)) Q E s) :
  OpR X f (rI0 λ i j=>.bl (g i j)):=by
 intro pins s σ H x y v u Q I rx ry h
 obtain ⟨i,j,rfl,rfl,q⟩:=h
 obtain ⟨t,rfl⟩:=rx
 obtain ⟨t',rfl⟩:=ry
 exact rule i j t t' s _ _ ⟨.bl (g i j),H,I,rfl,q⟩
def CDiv (i j:Int):Prop:=0 < j/\j < 1073741824
def CMul (i j:Int):Prop:=(-(2 ^ 64) < i/\i < 2 ^ 64)\/(-(2 ^ 64) < j/\j < 2 ^ 64)
theorem CMul.ok {i j:Int} (h:CMul i j):IntMulOk i j:=by
 rcases h with ⟨h1,h2⟩ | ⟨h1,h2⟩
 . exact .of_left (intBits_le_64 h1 h2)
 . exact .of_right (intBits_le_64 h1 h2)
theorem zht:OpR X (binaryOp .Add) (rI0 λ i j=>.int (i+j)):=opI0 λ _ _ _ _ _ _ _ q=>add_int q
theorem zqV:OpR X (binaryOp .Sub) (rI0 λ i j=>.int (i - j)):=opI0 λ _ _ _ _ _ _ _ q=>sub_int q
theorem zkD:OpR X (binaryOp .Mult) (rI CMul λ i j=>.int (i * j)):=opI λ _ _ _ _ _ _ _ hc q=>mul_int q hc.ok
theorem zrN:OpR X (binaryOp .FloorDiv) (rI CDiv λ i j=>.int (i / j)):=opI λ i j _ _ _ _ _ hc q=>by
 have h1:(0:Int) < j:=hc.1
 have h2:j < 1073741824:=hc.2
 exact floordiv_int (by omega) (by rw [Int.fdiv_eq_ediv_of_nonneg i (by omega)]; exact q) (.inl (PyProof.noPylong_small (by omega)))
theorem zkE:OpR X (binaryOp .Mod) (rI (λ _ j=>0 < j) λ i j=>.int (i % j)):=opI λ i j _ _ _ _ _ hc q=>by
 have h1:(0:Int) < j:=hc
 exact mod_int' (by omega) (by rw [Int.fmod_eq_emod_of_nonneg i (by omega)]; exact q)
theorem unI {f:Value->Sem Value} {g:Int->Int}
  (rule:∀ (i:Int) (t:Tok) (s:Shared) (Q:Value->Shared->Prop) (E:Value->Shared->Prop),Q (.int (g i) s.toks) { s with toks:=s.toks+1 }->wpAny (model X.prog X.w) X.A (f (.int i t)) Q E s) :
  UnR X f (rU λ i=>.int (g i)):=by
 intro pins s σ H x v Q I rx h
 obtain ⟨i,rfl,q⟩:=h
 obtain ⟨t,rfl⟩:=rx
 exact rule i t s _ _ ⟨.int (g i),H,I.tok _,⟨_,rfl⟩,q⟩
theorem zoq:UnR X (unaryOp .USub) (rU λ i=>.int (-i)):=unI λ _ _ _ _ _ q=>neg_int q
end
def scal:V->V->Bool
 | .non,.non=>true | .non,.int _=>true | .int _,.non=>true | .non,.bl _=>true | .bl _,.non=>true | .non,.str _=>true | .str _,.non=>true
 | .int _,.int _=>true | .bl _,.bl _=>true | .str _,.str _=>true | .byt _,.byt _=>true
 | .int _,.str _=>true | .str _,.int _=>true | .bl _,.str _=>true | .str _,.bl _=>true
 | _,_=>false
def rEq:R2:=λ x y H Q=>scal x y=true/\Q (.bl (decide (x=y))) H
def rNe:R2:=λ x y H Q=>scal x y=true/\Q (.bl (!decide (x=y))) H
theorem zpM {i j:Int}:decide (V.int i=V.int j)=(i == j):=by
 rw [Bool.eq_iff_iff]
 simp
theorem zrb {i j:Bool}:decide (V.bl i=V.bl j)=(i == j):=by
 rw [Bool.eq_iff_iff]
 simp
theorem zpL {i j:Str}:decide (V.str i=V.str j)=(i == j):=by
 rw [Bool.eq_iff_iff]
 simp
theorem zpN {i j:Array UInt8}:decide (V.byt i=V.byt j)=(i.toList == j.toList):=by
 rw [Bool.eq_iff_iff]
 cases i
 cases j
 simp
section
variable {X:Cx} {a b c:Expr} {ta tb tc:TE} {pos:Pos}
theorem za8 {pins:List (Addr×Obj)} {σ:St} {H:Hp} {s:Shared} {Q:VK} {k k':Bool} (I:Inv X pins σ H s) (q:Q (.bl k) H) (e:k=k'):EP X pins σ Q (.bool k') s:=by
 subst e
 exact ⟨.bl k,H,I,rfl,q⟩
theorem zcg:OpR X (compareOp .Eq) rEq:=by
 intro pins s σ H x y v u Q I rx ry h
 obtain ⟨hs,q⟩:=h
 cases x with
 | non =>
  cases rx
  cases y with
  | non=>cases ry; exact PySem.EqNone.eq_none_none (za8 I q (by simp))
  | bl j=>cases ry; exact PySem.EqNone.eq_none_bool (za8 I q (by simp))
  | int j=>obtain ⟨t',rfl⟩:=ry; exact PySem.EqNone.eq_none_int (za8 I q (by simp))
  | str j=>obtain ⟨t',rfl⟩:=ry; exact PySem.EqNone.eq_none_str (za8 I q (by simp))
  | _=>exact absurd (show false=true from hs) Bool.false_ne_true
 | bl i =>
  cases rx
  cases y with
  | non=>cases ry; exact PySem.EqNone.eq_bool_none (za8 I q (by simp))
  | bl j=>cases ry; exact eq_bool (za8 I q zrb)
  | str j=>obtain ⟨t',rfl⟩:=ry; exact PySem.EqMixed.eq_bool_str (za8 I q (by simp))
  | _=>exact absurd (show false=true from hs) Bool.false_ne_true
 | int i =>
  obtain ⟨t,rfl⟩:=rx
  cases y with
  | non=>cases ry; exact PySem.EqNone.eq_int_none (za8 I q (by simp))
  | int j=>obtain ⟨t',rfl⟩:=ry; exact eq_int (za8 I q zpM)
  | str j=>obtain ⟨t',rfl⟩:=ry; exact PySem.EqMixed.eq_int_str (za8 I q (by simp))
  | _=>exact absurd (show false=true from hs) Bool.false_ne_true
 | str i =>
  obtain ⟨t,rfl⟩:=rx
  cases y with
  | non=>cases ry; exact PySem.EqNone.eq_str_none (za8 I q (by simp))
  | bl j=>cases ry; exact PySem.EqMixed.eq_str_bool (za8 I q (by simp))
  | int j=>obtain ⟨t',rfl⟩:=ry; exact PySem.EqMixed.eq_str_int (za8 I q (by simp))
  | str j=>obtain ⟨t',rfl⟩:=ry; exact eq_str (za8 I q zpL)
  | _=>exact absurd (show false=true from hs) Bool.false_ne_true
 | byt i =>
  obtain ⟨t,rfl⟩:=rx
  cases y with
  | byt j=>obtain ⟨t',rfl⟩:=ry; exact PySem.W.eq_bytes (za8 I q zpN)
  | _=>exact absurd (show false=true from hs) Bool.false_ne_true
 | _=>cases y <;> exact absurd (show false=true from hs) Bool.false_ne_true
theorem zlO:OpR X (compareOp .NotEq) rNe:=by
 intro pins s σ H x y v u Q I rx ry h
 obtain ⟨hs,q⟩:=h
 cases x with
 | non =>
  cases rx
  cases y with
  | non=>cases ry; exact PySem.EqNone.ne_none_none (za8 I q (by simp))
  | bl j=>cases ry; exact PySem.EqNone.ne_none_bool (za8 I q (by simp))
  | int j=>obtain ⟨t',rfl⟩:=ry; exact PySem.EqNone.ne_none_int (za8 I q (by simp))
  | str j=>obtain ⟨t',rfl⟩:=ry; exact PySem.EqNone.ne_none_str (za8 I q (by simp))
  | _=>exact absurd (show false=true from hs) Bool.false_ne_true
 | bl i =>
  cases rx
  cases y with
  | non=>cases ry; exact PySem.EqNone.ne_bool_none (za8 I q (by simp))
  | bl j=>cases ry; exact ne_bool (za8 I q (congrArg not zrb))
  | str j=>obtain ⟨t',rfl⟩:=ry; exact PySem.EqMixed.ne_bool_str (za8 I q (by simp))
  | _=>exact absurd (show false=true from hs) Bool.false_ne_true
 | int i =>
  obtain ⟨t,rfl⟩:=rx
  cases y with
  | non=>cases ry; exact PySem.EqNone.ne_int_none (za8 I q (by simp))
  | int j=>obtain ⟨t',rfl⟩:=ry; exact ne_int (za8 I q (congrArg not zpM))
  | str j=>obtain ⟨t',rfl⟩:=ry; exact PySem.EqMixed.ne_int_str (za8 I q (by simp))
  | _=>exact absurd (show false=true from hs) Bool.false_ne_true
 | str i =>
  obtain ⟨t,rfl⟩:=rx
  cases y with
  | non=>cases ry; exact PySem.EqNone.ne_str_none (za8 I q (by simp))
  | bl j=>cases ry; exact PySem.EqMixed.ne_str_bool (za8 I q (by simp))
  | int j=>obtain ⟨t',rfl⟩:=ry; exact PySem.EqMixed.ne_str_int (za8 I q (by simp))
  | str j=>obtain ⟨t',rfl⟩:=ry; exact ne_str (za8 I q (congrArg not zpL))
  | _=>exact absurd (show false=true from hs) Bool.false_ne_true
 | byt i =>
  obtain ⟨t,rfl⟩:=rx
  cases y with
  | byt j=>obtain ⟨t',rfl⟩:=ry; exact PySem.W.ne_bytes (za8 I q (congrArg not zpN))
  | _=>exact absurd (show false=true from hs) Bool.false_ne_true
 | _=>cases y <;> exact absurd (show false=true from hs) Bool.false_ne_true
theorem zlP:OpR X (compareOp .Lt) (rI0 λ i j=>.bl (decide (i < j))):=opB0 λ _ _ _ _ _ _ _ q=>lt_int q
theorem zqn:OpR X (compareOp .Gt) (rI0 λ i j=>.bl (decide (j < i))):=opB0 λ _ _ _ _ _ _ _ q=>gt_int q
theorem ztG:OpR X (compareOp .GtE) (rI0 λ i j=>.bl (decide (j<=i))):=opB0 λ _ _ _ _ _ _ _ q=>ge_int q
theorem zaI (b:Expr) {op:CmpOp} (h:op≠.In:=by decide) (h2:op≠.NotIn:=by decide):behindInMarks op b=false:=by
 have e1:(op == CmpOp.In)=false:=by cases op <;> first | rfl | exact absurd rfl h
 have e2:(op == CmpOp.NotIn)=false:=by cases op <;> first | rfl | exact absurd rfl h2
 cases b <;> simp [behindInMarks,e1,e2]
theorem zdi {op:CmpOp} {r:R2} (ho:OpR X (compareOp op) r) (ha:PE X a ta) (hb:PE X b tb) (hm:behindInMarks op b=false):PE X (.Compare a [op] [b] pos) (tOp r ta tb):=by
 intro pins s σ H Q I h
 exact wpAny_Compare1 (binT ha hb I h λ v u s2 x y H2 I2 rx ry q=>ho pins s2 σ H2 x y v u Q I2 rx ry q) hm
def zrk (t:TE):TT:=λ σ H Q=>t σ H λ x H'=>∃ k,x=.bl k/\Q k H'
theorem zaz {op:CmpOp} {r:R2} (ho:OpR X (compareOp op) r) (ha:PE X a ta) (hb:PE X b tb) (hm:behindInMarks op b=false):PT X (.Compare a [op] [b] pos) (zrk (tOp r ta tb)):=by
 intro pins s σ H Q I h
 refine wpAny_isTrue_Compare1 (thn (ha pins s σ H _ I h) λ v s1 ⟨x,H1,I1,r1,q1⟩=>thn (hb pins s1 σ H1 _ I1 q1) λ u s2 ⟨y,H2,I2,r2,q2⟩ =>
  thn (ho pins s2 σ H2 x y v u _ I2 r1 r2 q2) λ c s3 ⟨z,H3,I3,r3,k,e,q3⟩=>?_) hm
 subst e
 cases r3
 exact wpAny_truthy_bool ⟨H3,I3,q3⟩
def TruV (K:PySem.W.Frag) (x:V) (H:Hp) (k:Bool):Prop :=
 match x with
 | .non=>k=false
 | .bl b=>k=b
 | .int i=>k=(i != 0)
 | .str y=>y.length<=sizeLine/\k=((y.length:Int) != 0)
 | .byt y=>y.size<=sizeLine/\k=((y.size:Int) != 0)
 | .ref p=>(∃ xs,SqL K H p xs/\k=!xs.isEmpty)\/(∃ xs,SqT K H p xs/\k=!xs.isEmpty)\/∃ kvs,H p=some (.dK kvs)/\k=!kvs.isEmpty
 | _=>False
theorem znY {κ:Type} {kvs:List (κ×V)} {vs:List (κ×Value)} (r:KV kvs vs):(!vs.isEmpty)=!kvs.isEmpty:=by
 cases r <;> rfl
theorem ziY {xs:List V} {its:List Value} (r:Vals xs its):(!its.toArray.isEmpty)=!xs.isEmpty:=by
 cases r <;> simp
theorem zkZ:(sizeLine:Nat) < 2 ^ 63:=by rw [sizeLine_eq]; decide
theorem zsj:TruR X (λ x H Q=>∃ k,TruV X.K x H k/\Q k H):=by
 intro pins s σ H x v Q I rx h
 obtain ⟨k,e,q⟩:=h
 have hl:=zkZ
 have hs:sizeLine=16777216:=sizeLine_eq
 cases x with
 | non =>
  cases rx
  have e':k=false:=e
  subst e'
  exact truthy_none ⟨H,I,q⟩
 | bl b =>
  cases rx
  have e':k=b:=e
  subst e'
  exact wpAny_truthy_bool ⟨H,I,q⟩
 | int i =>
  obtain ⟨t,rfl⟩:=rx
  have e':k=(i != 0):=e
  subst e'
  exact PySem.P.truthy_int ⟨H,I,q⟩
 | str y =>
  obtain ⟨t,rfl⟩:=rx
  obtain ⟨hy,e'⟩:y.length<=sizeLine/\k=((y.length:Int) != 0):=e
  subst e'
  exact PySem.P.truthy_str (by omega) ⟨H,I.tok _,q⟩
 | byt y =>
  obtain ⟨t,rfl⟩:=rx
  obtain ⟨hy,e'⟩:y.size<=sizeLine/\k=((y.size:Int) != 0):=e
  subst e'
  exact PySem.W.truthy_bytes (by omega) ⟨H,I.tok _,q⟩
 | ref p =>
  cases rx
  have e':(∃ xs,SqL X.K H p xs/\k=!xs.isEmpty)\/(∃ xs,SqT X.K H p xs/\k=!xs.isEmpty)\/∃ kvs,H p=some (.dK kvs)/\k=!kvs.isEmpty:=e
  rcases e' with ⟨xs,hx,e'⟩ | ⟨xs,hx,e'⟩ | ⟨kvs,hx,e'⟩
  . subst e'
    obtain ⟨its,r,pl,hz⟩:=I.list hx
    have hlen:=r.length
    exact wpAny_truthy_list pl.isList (by simp only [List.size_toArray]; omega) ⟨H,I.tok _,by rw [ziY r]; exact q⟩
  . subst e'
    obtain ⟨its,r,pl,hz⟩:=I.tuple hx
    have hlen:=r.length
    exact truthy_tuple pl (by simp only [List.size_toArray]; omega) ⟨H,I.tok _,by rw [ziY r]; exact q⟩
  . subst e'
    obtain ⟨hz,hS,vs,r,m⟩:kvs.length<=sizeLine/\(p == sysModules)=false/\∃ vs,KV kvs vs/\s.heap.DictOf (zaC X.prog X.w) p vs:=I.hok p _ hx
    have hlen:kvs.length=vs.length:=Paired.length r
    exact wpAny_truthy_dict hS m (by omega) ⟨H,I.tok _,by rw [znY r]; exact q⟩
 | _=>exact (show False from e).elim
theorem zmX (ha:PE X a ta) (he:∀ whole,isTrue a X.env whole=(do let v <-whole; standAt a.pos; holding [v] (truthy v))) :
  PT X a (λ σ H Q=>ta σ H λ x H'=>∃ k,TruV X.K x H' k/\Q k H'):=by
 intro pins s σ H Q I h
 exact isTrue_plain (thn (ha pins s σ H _ I h) λ v s1 ⟨x,H1,I1,r1,q1⟩=>zsj pins s1 σ H1 x v Q I1 r1 q1) (he _)
theorem ziO:OpR X (binaryOp .Add) (λ x y H Q=>∃ i j,x=.str i/\y=.str j/\i.length+j.length<=sizeLine/\Q (.str (i++j)) H):=by
 intro pins s σ H x y v u Q I rx ry h
 obtain ⟨i,j,rfl,rfl,hz,q⟩:=h
 obtain ⟨t,rfl⟩:=rx
 obtain ⟨t',rfl⟩:=ry
 exact add_str (λ t' tk=>⟨.str (i++j),H,I.tok _,⟨_,rfl⟩,q⟩) hz
theorem vals1 {x:V} {us:List Value} (r:Vals [x] us):∃ u,us=[u]/\RelV x u:=by
 cases r with
 | cons r1 r2=>cases r2; exact ⟨_,rfl,r1⟩
theorem zfQ:zfU X (.type "int") (λ xs H Q=>(∃ i,xs=[.int i]/\Q (.int i) H)\/∃ k,xs=[.bl k]/\Q (.int (if k then 1 else 0)) H):=by
 intro pins s σ H xs us Q I r h
 rcases h with ⟨i,rfl,q⟩ | ⟨k,rfl,q⟩
 . obtain ⟨u,rfl,t,rfl⟩:=vals1 r
   exact call_int_int ⟨.int i,H,I,⟨_,rfl⟩,q⟩
 . obtain ⟨u,rfl,r1⟩:=vals1 r
   cases r1
   exact call_int_bool ⟨.int (if k then 1 else 0),H,I.tok _,⟨_,rfl⟩,q⟩
end
end L2
namespace L2
open PySem PySem.Spec PyProof.Rows
structure ObjM (h:Heap) (x dx C:Addr) (mA:Str->Option Value):Prop where
 obj:h.get? x=some (PySem.W.instObj C dx)
 ns:h.Ns1 dx mA
 ne:dx≠x
theorem zpe {h:Heap} {dx:Addr} {mA:Str->Option Value} (n:h.Ns1 dx mA):∃ od,h.get? dx=some od/\∀ name,PySem.W.lookIn name od=some (mA name):=by
 obtain ⟨o,es,ep,ho,hd,hk,_,hm⟩:=n
 refine ⟨o,ho,λ name=>?_⟩
 have e:=hm name
 unfold nsFind findBy at e
 rw [<-Array.find?_toList] at e
 unfold PySem.W.lookIn
 rw [hd]
 dsimp only
 split
 . rename_i y q
   rw [q] at e
   exact congrArg some e
 . rename_i q
   rw [q] at e
   have a:es.toList.any (·.refKey)=false:=by
    rw [List.any_eq_false]
    intro y hy
    obtain ⟨z,t,hkey⟩:=hk y (Array.mem_toList_iff.mp hy)
    simp [DictEntry.refKey,hkey]
   have a':¬ es.toList.any (·.refKey)=true:=by rw [a]; exact Bool.false_ne_true
   rw [if_neg a']
   exact congrArg some e
theorem ObjM.look {h:Heap} {x dx C:Addr} {mA:Str->Option Value} (I:ObjM h x dx C mA):∃ od,PySem.W.InstAt h x (PySem.W.instObj C dx) C (some od)/\∀ name,PySem.W.lookIn name od=some (mA name) :=
 let ⟨od,ho,hl⟩:=zpe I.ns
 ⟨od,⟨I.obj,rfl,rfl,ho⟩,hl⟩
section
variable {prog:Program} {w:World} {A:Around} {E:Value->Shared->Prop} {s:Shared} {K:PySem.W.Frag} {x dx C f:Addr} {mA:Str->Option Value} {name:Str} {v:Value}
theorem get_map {expr:Bool} {Q:Value->Shared->Prop} (X:K.In s.heap) (I:ObjM s.heap x dx C mA) (hg:PySem.W.plainGet K C name=true) (hh:PySem.W.hasDictIn K C=true)
  (ha:PySem.W.findIn K (.ref C) name=some none) (hv:mA name=some v) (hv':PySem.W.handedIn v=true) (h:Q v { s with toks:=s.toks+1 }) :
  wpAny (model prog w) A (getAttr (.ref x) name expr) Q E s:=by
 obtain ⟨od,J,hl⟩:=I.look
 exact PySem.W.get_value X J (PySem.W.plainGet_of hg).1 (PySem.W.findObj_own hh ha rfl (by rw [hl,hv])) hv' h
theorem zqF {pl:Sem Bool} {Q:Value×List Value->Shared->Prop} (X:K.In s.heap) (I:ObjM s.heap x dx C mA) (hg:PySem.W.plainGet K C name=true)
  (hf:PySem.W.findIn K (.ref C) name=some (some (.ref f))) (ht:PySem.W.isFn K (.ref f)=true) (hv:mA name=none) (h:Q (.ref f,[.ref x]) s) :
  wpAny (model prog w) A (getMethod (.ref x) name pl) Q E s:=by
 obtain ⟨od,J,hl⟩:=I.look
 exact PySem.W.method_fn X J (PySem.W.plainGet_of hg).1 (PySem.W.plainGet_of hg).2 hf (beq_iff_eq.mp ht) (by show (PySem.W.lookIn name od).map (·.isSome)=some false; rw [hl,hv]; rfl) h
theorem zrB {ns:List Str} {Q:Unit->Shared->Prop} (X:K.In s.heap) (I:ObjM s.heap x dx C mA)
  (hs:PySem.W.findIn K (.ref C) "__setattr__" = some (some (.builtin "object.__setattr__"))) (hp:PySem.W.plainOver K C=true) (ht:PySem.W.takerIn K C name=some none) (hh:PySem.W.hasDictIn K C=true)
  (hw:PySem.Within mA ns) (hsz:ns.length<=sizeLine)
  (h:∀ h',ObjM h' x dx C (λ y=>if y=name then some v else mA y)->Heap.SameBut dx s.heap h'->Q () { s with heap:=h',toks:=s.toks+2 }) :
  wpAny (model prog w) A (setAttr (.ref x) name v) Q E s:=by
 obtain ⟨od,J,hl⟩:=I.look
 refine PySem.W.set_plain X J hs (PySem.W.osa_open (s:={ s with toks:=s.toks+1 }) (r:=none) X J hp ht λ b=>?_)
 obtain ⟨cd,hc,hd'⟩:=PySem.W.any_some hh
 have hx:s.heap.get? x=some ⟨.ref C,some dx,.plain,#[]⟩:=I.obj
 refine wpAny_bind (wpAny_pure (wpAny_bind (wpAny_bind (wpAny_loadPart hx (wpAny_bind (PySem.W.Looks.here (s:={ s with toks:=s.toks+1 }) (PySem.W.looks_clsIn X hc) ?_))))))
 rw [hd']
 refine wpAny_pure (a:=some dx) (wpAny_bind (wpAny_pure (wpAny_bind ?_)))
 refine wpAny_nsSet1 (s:={ s with toks:=s.toks+1 }) I.ns λ h' hn2 hs2=>?_
 obtain ⟨oD,esD,epD,hoD,hdD,hcD⟩:=hn2.count (PySem.Within.cons name v hw)
 refine wpAny_bind (wpAny_lookBehind hoD (by rw [hdD]; exact pastItsLine_dict (Nat.le_trans hcD (by rw [List.length_cons]; omega))) ?_)
 exact wpAny_pure (h _ ⟨(hs2.2 _ (Ne.symm I.ne)).trans I.obj,hn2,I.ne⟩ hs2)
theorem zqr {R:Result->Shared->Prop} {vs:List Value} {kw:List (Str×Value)} (X:K.In s.heap) (hm:PySem.W.makesIn K C=true)
  (hi:PySem.W.findIn K (.ref C) "__init__" = some (some (.ref f))) (hf:PySem.W.typeIn K (.ref f)=some (.type "function"))
  (h:codeAny (model prog w) (A.under (.builtin "type.__call__" ⟨.ref C::vs,kw⟩)) (.call (.ref f) ⟨.ref (s.heap.objs.size+1)::vs,kw⟩) (PySem.W.InitBack (s.heap.objs.size+1) R)
   { s with heap:=(s.heap.push PySem.W.emptyDict).push (PySem.W.instObj C s.heap.objs.size) }) :
  codeAny (model prog w) A (.call (.ref C) ⟨vs,kw⟩) R s:=by
 obtain ⟨hh,g,d,t,os⟩:=s
 exact PySem.W.make_core (PySem.W.makes_of X hm) (PySem.W.looks_findIn X hi) (λ self=>PySem.W.bind_fn X self hf) (.inl rfl) h
end
def putF (f:Str) (v:V):List (Str×V)->List (Str×V)
 | []=>[(f,v)]
 | (g,x)::r=>if g=f then (g,v)::r else (g,x)::putF f v r
theorem zhG (f g:Str) (v:V):∀ fs:List (Str×V),(putF f v fs).lookup g=if g=f then some v else fs.lookup g
 | []=>by
  show List.lookup g [(f,v)]=_
  by_cases h:g=f
  . have hb:(g == f)=true:=beq_iff_eq.mpr h
    simp only [List.lookup,hb,if_pos h]
  . have hb:(g == f)=false:=beq_eq_false_iff_ne.mpr h
    simp only [List.lookup,hb,if_neg h]
 | (k,x)::r=>by
  have ih:=zhG f g v r
  rw [show putF f v ((k,x)::r)=(if k=f then (k,v)::r else (k,x)::putF f v r) from rfl]
  by_cases hk:k=f
  . rw [if_pos hk]
    by_cases h:g=k
    . have hb:(g == k)=true:=beq_iff_eq.mpr h
      simp only [List.lookup,hb,if_pos (h.trans hk)]
    . have hb:(g == k)=false:=beq_eq_false_iff_ne.mpr h
      simp only [List.lookup,hb,if_neg (λ e:g=f=>h (e.trans hk.symm))]
  . rw [if_neg hk]
    by_cases h:g=k
    . have hb:(g == k)=true:=beq_iff_eq.mpr h
      simp only [List.lookup,hb,if_neg (λ e:g=f=>hk (h.symm.trans e))]
    . have hb:(g == k)=false:=beq_eq_false_iff_ne.mpr h
      simp only [List.lookup,hb]
      exact ih
theorem zhL (f:Str) (v:V):∀ fs:List (Str×V),f∈(putF f v fs).map (·.1)/\∀ g,g∈fs.map (·.1)->g∈(putF f v fs).map (·.1)
 | []=>⟨by simp [putF],λ g h=>by simp at h⟩
 | (k,x)::r=>by
  obtain ⟨i1,i2⟩:=zhL f v r
  rw [show putF f v ((k,x)::r)=(if k=f then (k,v)::r else (k,x)::putF f v r) from rfl]
  by_cases hk:k=f
  . rw [if_pos hk]
    subst hk
    exact ⟨by simp,λ g h=>by simpa using h⟩
  . rw [if_neg hk]
    refine ⟨?_,λ g h=>?_⟩
    . rw [List.map_cons]
      exact List.mem_cons_of_mem _ i1
    . rw [List.map_cons] at h ⊢
      rcases List.mem_cons.mp h with e | e
      . exact List.mem_cons.mpr (.inl e)
      . exact List.mem_cons_of_mem _ (i2 g e)
theorem zhK (f:Str) (v:V):∀ fs:List (Str×V),(putF f v fs).length<=fs.length+1
 | []=>by simp [putF]
 | (k,x)::r=>by
  have ih:=zhK f v r
  rw [show putF f v ((k,x)::r)=(if k=f then (k,v)::r else (k,x)::putF f v r) from rfl]
  by_cases hk:k=f
  . rw [if_pos hk,List.length_cons,List.length_cons]; omega
  . rw [if_neg hk,List.length_cons,List.length_cons]; omega
theorem RelO.some_of {v:V} {o:Option Value} (r:RelO (some v) o):∃ u,o=some u/\RelV v u:=by
 cases o with
 | none=>exact (show False from r).elim
 | some u=>exact ⟨u,rfl,r⟩
theorem RelO.none_of {o:Option Value} (r:RelO none o):o=none:=by
 cases o with
 | none=>rfl
 | some u=>exact (show False from r).elim
theorem zpt {v:V} {u:Value} (r:RelV v u):PySem.W.handedIn u=true:=by
 cases v with
 | non=>cases (show u=Value.none from r); rfl
 | bl b=>cases (show u=Value.bool b from r); rfl
 | int i=>obtain ⟨t,e⟩:=(show ∃ t,u=Value.int i t from r); cases e; rfl
 | str x=>obtain ⟨t,e⟩:=(show ∃ t,u=Value.str x t from r); cases e; rfl
 | byt b=>obtain ⟨t,e⟩:=(show ∃ t,u=Value.bytes b t from r); cases e; rfl
 | flt b=>obtain ⟨t,e⟩:=(show ∃ t,u=Value.float b t from r); cases e; rfl
 | ref a=>cases (show u=Value.ref a from r); rfl
 | ty n=>cases (show u=Value.type n from r); rfl
section
variable {P:Program} {w:World} {H H':Hp} {h h':Heap} {a C dx:Addr} {fs fs':List (Str×V)}
theorem zjK (hok:HOk P w H h) (e:H a=some (.ins C dx fs)):∃ mA,ObjM h a dx C mA/\(∀ f,RelO (fs.lookup f) (mA f))/\PySem.Within mA (fs.map (·.1))/\fs.length<=1000/\H dx=some (.own a):=by
 obtain ⟨d,z,ne,ob,mA,n,r,q⟩:=(show zbH P w H h a (.ins C dx fs) from hok a _ e)
 exact ⟨mA,⟨ob,n,ne⟩,r,q,z,d⟩
end
structure Cls (K:PySem.W.Frag) (C:Addr):Prop where
 pg:PySem.W.plainGet K C Str.empty=true
 hd:PySem.W.hasDictIn K C=true
 po:PySem.W.plainOver K C=true
 sa:PySem.W.findIn K (.ref C) "__setattr__" = some (some (.builtin "object.__setattr__"))
theorem Cls.get {K:PySem.W.Frag} {C:Addr} (c:Cls K C) (f:Str):PySem.W.plainGet K C f=true:=c.pg
def zb1 (K:PySem.W.Frag) (C:Addr) (f:Str):Prop:=PySem.W.findIn K (.ref C) f=some none
theorem zb1.ztn {K:PySem.W.Frag} {C:Addr} {f:Str} (n:zb1 K C f):PySem.W.takerIn K C f=some none:=by
 unfold PySem.W.takerIn
 rw [show PySem.W.findIn K (.ref C) f=some none from n]
 rfl
structure Meth (K:PySem.W.Frag) (C:Addr) (m:Str) (f:Addr):Prop where
 at_:PySem.W.findIn K (.ref C) m=some (some (.ref f))
 fn:PySem.W.isFn K (.ref f)=true
 kp:PySem.W.keepIn K (.ref f)=true
section
variable {X:Cx} {pins:List (Addr×Obj)} {σ:St} {H:Hp} {s:Shared} {a C dx:Addr} {fs:List (Str×V)} {f:Str} {v:V} {A:Around} {E:Value->Shared->Prop}
theorem zn2 {b:Bool} {Q:Value->Shared->Prop} (I:Inv X pins σ H s) (e:H a=some (.ins C dx fs)) (c:Cls X.K C) (n:zb1 X.K C f) (l:fs.lookup f=some v)
  (h:∀ u s',Inv X pins σ H s'->RelV v u->Q u s'):wpAny (model X.prog X.w) A (getAttr (.ref a) f b) Q E s:=by
 obtain ⟨mA,O,r,_,_,_⟩:=zjK I.hok e
 obtain ⟨u,hu,ru⟩:=RelO.some_of (v:=v) (o:=mA f) (by rw [<-l]; exact r f)
 exact get_map I.kIn O (c.get f) c.hd n hu (zpt ru) (h u _ (I.tok _) ru)
theorem zgj {m:Str} {g:Addr} {pl:Sem Bool} {Q:Value×List Value->Shared->Prop} (I:Inv X pins σ H s) (e:H a=some (.ins C dx fs)) (c:Cls X.K C) (k:Meth X.K C m g) (l:fs.lookup m=none)
  (h:Q (.ref g,[.ref a]) s):wpAny (model X.prog X.w) A (getMethod (.ref a) m pl) Q E s:=by
 obtain ⟨mA,O,r,_,_,_⟩:=zjK I.hok e
 have hn:mA m=none:=RelO.none_of (by rw [<-l]; exact r m)
 exact zqF I.kIn O (c.get m) k.at_ k.fn hn h
theorem znK {y:V} {u:Value} {Q:Unit->Shared->Prop} (I:Inv X pins σ H s) (e:H a=some (.ins C dx fs)) (c:Cls X.K C) (n:zb1 X.K C f) (hl:fs.length < 1000) (ry:RelV y u)
   (h:∀ s',Inv X pins σ (upd H a (.ins C dx (putF f y fs))) s'->Q () s'):wpAny (model X.prog X.w) A (setAttr (.ref a) f u) Q E s:=by
 obtain ⟨mA,O,r,wi,_,ho⟩:=zjK I.hok e
 have hz:(fs.map (·.1)).length<=sizeLine:=by rw [List.length_map,sizeLine_eq]; omega
 refine zrB I.kIn O c.sa c.po n.ztn c.hd wi hz λ h' O' sb=>h _ ?_
 have hd:∃ o,h'.get? dx=some o:=let ⟨o,_,_,e',_⟩:=O'.ns; ⟨o,e'⟩
 refine I.write (x:=a) (e:=dx) (by rw [e]; exact True.intro) (.inr ho) (λ b q hb z=>(sb.2 b hb).trans z) hd ?_
 refine ⟨by rw [zae O.ne]; exact ho,?_,O.ne,O'.obj,_,O'.ns,λ g=>?_,λ g hg=>?_⟩
 . have:=zhK f y fs; omega
 . show RelO ((putF f y fs).lookup g) (if g=f then some u else mA g)
   rw [zhG]
   by_cases q:g=f
   . rw [if_pos q,if_pos q]; exact ry
   . rw [if_neg q,if_neg q]; exact r g
 . by_cases q:g=f
   . rw [q]; exact (zhL f y fs).1
   . refine (zhL f y fs).2 g (wi g λ z=>hg ?_)
     show (if g=f then some u else mA g)=none
     rw [if_neg q]; exact z
theorem Inv.made (I:Inv X pins σ H s):Inv X pins σ (upd (upd H s.heap.objs.size (.own (s.heap.objs.size+1))) (s.heap.objs.size+1) (.ins C s.heap.objs.size []))
  { s with heap:=(s.heap.push PySem.W.emptyDict).push (PySem.W.instObj C s.heap.objs.size) }:=by
 have e1:(s.heap.push PySem.W.emptyDict).get? s.heap.objs.size=some PySem.W.emptyDict:=Heap.get?_push_size s.heap rfl
 have e2:((s.heap.push PySem.W.emptyDict).push (PySem.W.instObj C s.heap.objs.size)).get? (s.heap.objs.size+1)=some (PySem.W.instObj C s.heap.objs.size):=by
  have:=Heap.get?_push_size (s.heap.push PySem.W.emptyDict) (o:=PySem.W.instObj C s.heap.objs.size) rfl
  rwa [Heap.size_push] at this
 have e3:(s.heap.push PySem.W.emptyDict).Ns s.heap.objs.size (λ _=>none):=⟨PySem.W.emptyDict,#[],_,e1,rfl,(λ e he=>absurd he (by simp)),λ _=>rfl⟩
 have I1:=I.laid (a:=s.heap.objs.size) (o:=.own (s.heap.objs.size+1)) (h':=s.heap.push PySem.W.emptyDict) (t':=s.toks) (λ b u q=>Heap.get?_push_of_some _ q) (Nat.le_refl _) ⟨_,e1⟩
 refine I1.laid (a:=s.heap.objs.size+1) (o:=.ins C s.heap.objs.size []) (t':=s.toks) (λ b u q=>Heap.get?_push_of_some _ q) (Nat.le_of_eq (Heap.size_push _ _)) ?_
 have ne:s.heap.objs.size≠s.heap.objs.size+1:=Nat.ne_of_lt (Nat.lt_succ_self _)
 refine ⟨by rw [zae ne,zab],Nat.zero_le _,ne,e2,λ _=>none,(Heap.Ns1.of_empty e3).at λ o q=>Heap.get?_push_of_some _ q,λ _=>True.intro,λ y hy=>absurd rfl hy⟩
theorem zsb {prog:Program} {w:World} {env:Env} {e:Expr} {f:Str} {pos:Pos} {s:Shared} {Q:Value->Shared->Prop} (hb:attributeBase e f env (eval e env)=eval e env)
  (h:wpAny (model prog w) A (eval e env) (λ o s₁=>wpAny (model prog w) A (getAttr o f true) Q E s₁) E s):wpAny (model prog w) A (eval (.Attribute e f pos) env) Q E s :=
 Attribute_any_ h (by rw [arm_eval_Attribute,hb])
end
def tFld (K:PySem.W.Frag) (ta:TE) (f:Str):TE:=λ σ H Q=>ta σ H λ x H1=>∃ a C dx fs v,x=.ref a/\H1 a=some (.ins C dx fs)/\Cls K C/\zb1 K C f/\fs.lookup f=some v/\Q v H1
def sFld (K:PySem.W.Frag) (ta tv:TE) (f:Str):TS:=λ D σ H=>tv σ H λ y H1=>ta σ H1 λ x H2=>∃ a C dx fs,x=.ref a/\H2 a=some (.ins C dx fs)/\Cls K C/\zb1 K C f/\fs.length < 1000 /\
 D.nx σ (upd H2 a (.ins C dx (putF f y fs)))
section
variable {X:Cx} {o e value:Expr} {f:Str} {pos pos' tpos:Pos} {ta tv:TE}
theorem zal (he:PE X e ta) (hb:attributeBase e f X.env (eval e X.env)=eval e X.env):PE X (.Attribute e f pos) (tFld X.K ta f):=by
 intro pins s σ H Q I h
 refine zsb hb (thn (he pins s σ H _ I h) λ u s1 ⟨x,H1,I1,rx,a,C,dx,fs,v,ex,ea,c,n,l,q⟩=>?_)
 subst ex
 obtain rfl:u=Value.ref a:=rx
 exact zn2 I1 ea c n l λ u' s2 I2 ru=>⟨v,H1,I2,ru,q⟩
theorem zbQ (ha:PE X o ta) (hv:PE X value tv) (hs:swapsWith value (some (.Attribute o f pos')) pos.line X.env=pure false):PS X (.Assign [.Attribute o f pos'] value pos) (sFld X.K ta tv f):=by
 intro pins s σ H D I h
 refine plainObj_wpAny_Assign_Attribute (thn (hv pins s σ H _ I h) λ u s1 ⟨y,H1,I1,ry,q⟩=>thn (ha pins s1 σ H1 _ I1 q) λ ov s2 ⟨x,H2,I2,rx,a,C,dx,fs,ex,ea,c,n,l,q2⟩=>?_) hs
 subst ex
 obtain rfl:ov=Value.ref a:=rx
 exact znK I2 ea c n l ry λ s3 I3=>⟨σ,_,I3,q2⟩
theorem methcall_of {pl:Sem Bool} {m:Str} {apos:Pos} {args:List Expr} {pins:List (Addr×Obj)} {s:Shared} {σ:St} {H:Hp} {Q:Value->Shared->Prop} {te:TE} (he:PE X e te) (I:Inv X pins σ H s)
  (h:te σ H λ x H1=>∃ a C dx fs g,x=.ref a/\H1 a=some (.ins C dx fs)/\Cls X.K C/\Meth X.K C m g/\fs.lookup m=none /\
   ∀ s1,Inv X pins σ H1 s1->wpAny (model X.prog X.w) X.A (callWith pos (.ref g) [.ref a] (backTo pos (starEach args X.env)) (backToKw pos (keywordEach [] X.env))) Q X.xe s1)
  (ht:eval (.Call (.Attribute e m apos) args [] pos) X.env=(do
   let ov <-eval e X.env
   standAt apos.atName
   let (f,first) <-holding [ov] (getMethod ov m pl)
   callWith pos f first (backTo pos (starEach args X.env)) (backToKw pos (keywordEach [] X.env)))) :
  wpAny (model X.prog X.w) X.A (eval (.Call (.Attribute e m apos) args [] pos) X.env) Q X.xe s:=by
 refine PySem.W.methodCall_KW (pl:=pl) (thn (he pins s σ H _ I h) λ u s1 ⟨x,H1,I1,rx,a,C,dx,fs,g,ex,ea,c,k,l,q⟩=>?_) ht
 subst ex
 obtain rfl:u=Value.ref a:=rx
 exact zgj I1 ea c k l (q s1 I1)
end
section
variable {X:Cx} {pins:List (Addr×Obj)} {σ:St} {H:Hp} {s:Shared} {A:Around} {E:Value->Shared->Prop} {Q:Value->Shared->Prop} {c:Value} {b:Bool}
inductive TyOf (K:PySem.W.Frag) (H:Hp):V->Value->Prop where
 | non:TyOf K H .non (.type "NoneType")
 | bl (x:Bool):TyOf K H (.bl x) (.type "bool")
 | int (i:Int):TyOf K H (.int i) (.type "int")
 | str (x:Str):TyOf K H (.str x) (.type "str")
 | flt (x:UInt64):TyOf K H (.flt x) (.type "float")
 | lst {a:Addr} {xs:List V} (e:H a=some (.lst xs)):TyOf K H (.ref a) (.type "list")
 | frz {a:Addr} {o:Obj} {xs:List V} (e:H a=some (.frz o (.lst xs))):TyOf K H (.ref a) (.type "list")
 | tup {a:Addr} {xs:List V} (e:H a=some (.tup xs)):TyOf K H (.ref a) (.type "tuple")
 | dK {a:Addr} {kvs:List (Key×V)} (e:H a=some (.dK kvs)):TyOf K H (.ref a) (.type "dict")
 | dT {a:Addr} {kvs:List (List Key×V)} (e:H a=some (.dT kvs)):TyOf K H (.ref a) (.type "dict")
 | ins {a C dx:Addr} {fs:List (Str×V)} (e:H a=some (.ins C dx fs)) (cl:Cls K C) (ha:PySem.W.findIn K (.ref C) "__class__" = some (some (.builtin "object.__class__")))
  (hn:PySem.W.specialIn K (.builtin "object.__class__") "__get__" = some (some (.builtin "getset_descriptor.__get__"))) (htk:PySem.W.takesIn K (.builtin "object.__class__")=some true)
  (hm:PySem.W.mroIn K C (.type "object")=some true):TyOf K H (.ref a) (.ref C)
theorem zpo {x:V} {u t:Value} (I:Inv X pins σ H s) (rx:RelV x u) (ty:TyOf X.K H x t) (e:PySem.W.kitOne X.K t c=some b) (h:∀ tk,Q (.bool b) { s with toks:=tk }) :
  wpAny (model X.prog X.w) A (call (.builtin "isinstance") [u,c]) Q E s:=by
 cases ty with
 | non=>cases (show u=Value.none from rx); exact PySem.W.kia_one PySem.W.kitx_none I.kIn True.intro e (λ z=>nomatch z) h
 | bl y=>cases (show u=Value.bool y from rx); exact PySem.W.kia_one PySem.W.kitx_bool I.kIn True.intro e (λ z=>nomatch z) h
 | int i=>obtain ⟨t,q⟩:=(show ∃ t,u=Value.int i t from rx); cases q; exact PySem.W.kia_one PySem.W.kitx_int I.kIn True.intro e (λ z=>nomatch z) h
 | str y=>obtain ⟨t,q⟩:=(show ∃ t,u=Value.str y t from rx); cases q; exact PySem.W.kia_one PySem.W.kitx_str I.kIn True.intro e (λ z=>nomatch z) h
 | flt y=>obtain ⟨t,q⟩:=(show ∃ t,u=Value.float y t from rx); cases q; exact PySem.W.kia_one PySem.W.kitx_float I.kIn True.intro e (λ z=>nomatch z) h
 | @lst a xs ea =>
  cases (show u=Value.ref a from rx)
  obtain ⟨_,_,n,_,h1⟩:=(show zbH X.prog X.w H s.heap a (.lst xs) from I.hok a _ ea)
  exact PySem.W.kia_one PySem.W.kitx_list I.kIn ⟨_,h1,rfl⟩ e (λ z=>nomatch z) h
 | @frz a ob xs ea =>
  cases (show u=Value.ref a from rx)
  obtain ⟨_,_,_,n,_,h1⟩:=(show zbH X.prog X.w H s.heap a (.frz ob (.lst xs)) from I.hok a _ ea)
  exact PySem.W.kia_one PySem.W.kitx_list I.kIn ⟨_,h1,rfl⟩ e (λ z=>nomatch z) h
 | @tup a xs ea =>
  cases (show u=Value.ref a from rx)
  obtain ⟨_,_,_,p⟩:=(show zbH X.prog X.w H s.heap a (.tup xs) from I.hok a _ ea)
  obtain ⟨o,h1,h2,_⟩:=p
  exact PySem.W.kia_one PySem.W.kitx_tuple I.kIn ⟨o,h1,h2⟩ e (λ z=>nomatch z) h
 | @dK a kvs ea =>
  cases (show u=Value.ref a from rx)
  obtain ⟨_,_,vs,_,p⟩:=(show zbH X.prog X.w H s.heap a (.dK kvs) from I.hok a _ ea)
  obtain ⟨o,es,ep,h1,h2,_⟩:=p
  exact PySem.W.kia_one PySem.W.kitx_dict I.kIn ⟨o,h1,h2.1⟩ e (λ z=>nomatch z) h
 | @dT a kvs ea =>
  cases (show u=Value.ref a from rx)
  obtain ⟨_,_,xs,_,o,es,ep,h1,h2,_⟩:=(show zbH X.prog X.w H s.heap a (.dT kvs) from I.hok a _ ea)
  exact PySem.W.kia_one PySem.W.kitx_dict I.kIn ⟨o,h1,h2.1⟩ e (λ z=>nomatch z) h
 | @ins a C dx fs ea cl ha hn htk hm =>
  cases (show u=Value.ref a from rx)
  obtain ⟨mA,O,_⟩:=zjK I.hok ea
  obtain ⟨od,J,_⟩:=O.look
  exact PySem.W.kia_one (PySem.W.kitx_own (cl.get _) cl.hd ha hn htk hm) I.kIn J e (λ z=>nomatch z) h
end
end L2
namespace L2
open PySem PySem.Spec PyProof.Rows
structure Room (k:Nat) (A:Around):Prop where
 hd:A.handled=none
 dp:A.depth+3 * k+5 < recursionLimit
 un:A.units+16 * k+200 < cLine
theorem Room.mono {j k:Nat} {A:Around} (r:Room k A) (h:j<=k):Room j A:=⟨r.hd,by have:=r.dp; omega,by have:=r.un; omega⟩
theorem Room.deeper {k:Nat} {A:Around} (r:Room (k+1) A) (env:Env):Room k (A.deeper env) :=
 ⟨r.hd,by have:=r.dp; show A.depth+1+3 * k+5 < _; omega,by have:=r.un; show A.units+3+16 * k+200 < _; omega⟩
theorem znS {A:Around} {C:Addr} {us:List Value} {kw:List (Str×Value)}:(A.under (.builtin "type.__call__" ⟨.ref C::us,kw⟩)).depth=A.depth+1:=by
 first | rfl | simp [Around.under,Code.weight,Code.isCreation,Code.isGuard,Code.isCaller,Code.frames,Code.isFrame,guardIds]
theorem znR {A:Around} {C:Addr} {us:List Value} {kw:List (Str×Value)}:(A.under (.builtin "type.__call__" ⟨.ref C::us,kw⟩)).units=A.units+1:=by
 first | rfl | simp [Around.under,Code.cUnits,Code.frames,Code.isFrame]
theorem Room.make {k:Nat} {A:Around} (r:Room (k+1) A) (C:Addr) (us:List Value) (kw:List (Str×Value)):Room k (A.under (.builtin "type.__call__" ⟨.ref C::us,kw⟩)) :=
 ⟨r.hd,by have:=r.dp; rw [znS]; omega,by have:=r.un; rw [znR]; omega⟩
theorem Room.depth {k:Nat} {A:Around} (r:Room k A):A.depth < recursionLimit:=by have:=r.dp; omega
theorem Room.units {k:Nat} {A:Around} (r:Room k A):A.units+64 < cLine:=by have:=r.un; omega
def tNil:TA:=λ _ H Q=>Q [] H
def zp3 (ta:TE) (tr:TA):TA:=λ σ H Q=>ta σ H λ x H1=>tr σ H1 λ xs H2=>Q (x::xs) H2
section
variable {X:Cx} {e:Expr} {es:List Expr} {te:TE} {t:TA} {pos:Pos}
theorem zad:PA X [] tNil:=λ _ _ _ _ H Q I h=>Calls.spliced_nil ⟨[],H,I,.nil,h⟩
theorem zaa (ha:PE X e te) (hr:PA X es t) (hs:starEach (e::es) X.env=(false,eval e X.env)::starEach es X.env:=by rfl):PA X (e::es) (zp3 te t):=by
 intro pos pins s σ H Q I h
 rw [hs]
 show wpAny _ _ (spliced ((false,eval e X.env)::backTo pos (starEach es X.env))) _ _ s
 refine Calls.spliced_cons (thn (ha pins s σ H _ I h) λ u s1 ⟨x,H1,I1,r1,q1⟩=>?_)
 exact thn (hr pos pins s1 σ H1 _ I1 q1) λ us s2 ⟨xs,H2,I2,r2,q2⟩=>⟨x::xs,H2,I2,.cons r1 r2,q2⟩
def tTup (t:TA):TE:=λ σ H Q=>t σ H λ xs H1=>xs.length<=sizeLine/\∀ p,H1 p=none->Q (.ref p) (upd H1 p (.tup xs))
def tLst (t:TA):TE:=λ σ H Q=>t σ H λ xs H1=>xs.length<=sizeLine/\∀ p,H1 p=none->Q (.ref p) (upd H1 p (.lst xs))
theorem zbD {x1} (h:PA X es t):PE X (.Tuple es x1 pos) (tTup t):=by
 intro pins s σ H Q I hq
 refine wpAny_Tuple_spliced (thn (h pos pins s σ H _ I hq) λ us s1 ⟨xs,H1,I1,r,z,q⟩=>⟨by rw [<-r.length]; exact z,?_⟩)
 have hf:H1 s1.heap.objs.size=none:=I1.hok.fresh (Nat.le_refl _)
 refine ⟨.ref s1.heap.objs.size,upd H1 s1.heap.objs.size (.tup xs),I1.laid (t':=s1.toks) (λ b u e=>Heap.get?_push_of_some _ e) (Nat.le_refl _) ?_,rfl,q _ hf⟩
 exact ⟨z,us,r,⟨_,Heap.get?_push_size _ rfl,rfl,_,rfl⟩⟩
theorem zcU (h:PA X es t):PE X (.List es pos) (tLst t):=by
 intro pins s σ H Q I hq
 refine wpAny_List_spliced (thn (h pos pins s σ H _ I hq) λ us s1 ⟨xs,H1,I1,r,z,q⟩=>⟨by rw [<-r.length]; exact z,?_⟩)
 have hf:H1 s1.heap.objs.size=none:=I1.hok.fresh (Nat.le_refl _)
 refine ⟨.ref s1.heap.objs.size,upd H1 s1.heap.objs.size (.lst xs),I1.laid (t':=s1.toks) (λ b u e=>Heap.get?_push_of_some _ e) (Nat.le_refl _) ?_,rfl,q _ hf⟩
 exact ⟨z,us,0,r,Heap.get?_push_size _ rfl⟩
end
abbrev Sp:=List V->Hp->VK->XK->Prop
abbrev CXT:=List Env->Hp->Shared->XK->Value->Shared->Prop
structure Env0 (P:Program) (w:World) (K:PySem.W.Frag) (mg:Str->Option Value) (base:Heap) (A:Around) (outer:List Env) (s:Shared) (H:Hp):Prop where
 frames:A.frames=some outer
 mod:Mod K mg base
 bs:∀ b o,base.get? b=some o->s.heap.get? b=some o/\H b=none
 bsz:base.objs.size<=s.heap.objs.size
 funs:s.heap.FunFrames base outer
 frf:∀ b∈frs outer,H b=none
 hok:HOk P w H s.heap
 bare:AllBare s.gens
def CE (outer:List Env) (P:Program) (w:World) (H:Hp) (s:Shared) (Q:VK) (u:Value) (s':Shared):Prop :=
 ∃ v H',s'.os=s.os/\AllBare s'.gens/\Un (frs outer) [] H H' s.heap s'.heap/\HOk P w H' s'.heap/\RelV v u/\Q v H'
def CR (CX:CXT) (outer:List Env) (P:Program) (w:World) (H:Hp) (s:Shared) (Q:VK) (E:XK) (r:Result) (s':Shared):Prop :=
 match r with
 | .ok (.ret u)=>CE outer P w H s Q u s'
 | .ok _=>False
 | .error e=>CX outer H s E e s'
structure FnOk (P:Program) (w:World) (K:PySem.W.Frag) (mg:Str->Option Value) (base:Heap) (CX:CXT) (k:Nat) (f:Addr) (fd:FuncData) (ps:List Str) (sp:Sp):Prop where
 len:∀ vs H Q E,sp vs H Q E->vs.length=ps.length
 run:∀ (A:Around) (outer:List Env) (s:Shared) (H:Hp) (args:Args) (us:List Value) (vs:List V) (Q:VK) (E:XK),Room k A->Env0 P w K mg base A outer s H->BindsTo s fd args (ps.zip us)->Vals vs us->sp vs H Q E ->
  codeAny (model P w) A (.call (.ref f) args) (CR CX outer P w H s Q E) s
theorem Env0.make {P:Program} {w:World} {K:PySem.W.Frag} {mg:Str->Option Value} {base:Heap} {A:Around} {outer:List Env} {s:Shared} {H:Hp} (e:Env0 P w K mg base A outer s H) (C:Addr) (us:List Value) (kw:List (Str×Value)) :
 Env0 P w K mg base (A.under (.builtin "type.__call__" ⟨.ref C::us,kw⟩)) outer s H:=⟨by first | exact e.frames | (simpa [Around.under,Code.envs,Code.isFrame,pushEnvs] using e.frames),e.mod,e.bs,e.bsz,e.funs,e.frf,e.hok,e.bare⟩
section
variable {X:Cx} {pins:List (Addr×Obj)} {σ:St} {H:Hp} {s s':Shared}
theorem Inv.env0 (I:Inv X pins σ H s):Env0 X.prog X.w X.K X.mg X.base X.A X.stack s H :=
 ⟨I.ok.frames,I.ok.mod,I.bs,Nat.le_trans I.ok.bsz I.sz,I.stack,I.zha,I.hok,I.bare⟩
theorem Inv.after {Q:VK} {u:Value} (I:Inv X pins σ H s) (h:CE X.stack X.prog X.w H s Q u s'):EP X pins σ Q u s':=by
 obtain ⟨v,H',os,bare,un,hok,r,q⟩:=h
 obtain ⟨hh,g,d,t,os'⟩:=s'
 obtain rfl:os'=s.os:=os
 exact ⟨v,H',I.call (h':=hh) (g':=g) (d':=d) (t':=t) (ch:=[]) un hok bare (λ b z=>absurd z (by simp)),r,q⟩
end
def ztv (sp:Sp) (dvs:List V) (E:XK) (t:TA):TE:=λ σ H Q=>t σ H λ vs H1=>sp (vs++dvs) H1 Q E
def zsm (C:Addr) (m:Str) (sp:Sp) (dvs:List V) (E:XK) (ta:TE) (t:TA):TE:=λ σ H Q=>ta σ H λ x H1=>∃ a dx fs,x=.ref a/\H1 a=some (.ins C dx fs)/\fs.lookup m=none /\
 t σ H1 λ vs H2=>sp (x::(vs++dvs)) H2 Q E
def zsn (C:Addr) (sp:Sp) (dvs:List V) (E:XK) (t:TA):TE:=λ σ H Q=>t σ H λ vs H1=>∀ x dx,H1 x=none->H1 dx=none->dx≠x ->
 sp (.ref x::(vs++dvs)) (upd (upd H1 dx (.own x)) x (.ins C dx [])) (λ v H2=>v=.non/\Q (.ref x) H2) E
def Binds (K:PySem.W.Frag) (fd:FuncData) (ps:List Str) (ds:List Value):Prop :=
 ∀ (s:Shared) (us:List Value),K.In s.heap->(us++ds).length=ps.length->BindsTo s fd ⟨us,[]⟩ (ps.zip (us++ds))
theorem Binds.all {K:PySem.W.Frag} {fd:FuncData} {ps:List Str} (h:∀ us:List Value,us.length=ps.length->bindArgs fd ⟨us,[]⟩=pure (ps.zip us)):Binds K fd ps []:=λ s us _ hl=>by
 rw [List.append_nil] at hl ⊢
 exact .of_eq (h us hl)
def Passes (CX:CXT) (X:Cx) (E:XK):Prop:=∀ (pins:List (Addr×Obj)) (σ:St) (H:Hp) (s:Shared) (e:Value) (s':Shared),Inv X pins σ H s->CX X.stack H s E e s'->X.xe e s'
section
variable {X:Cx} {CX:CXT} {k:Nat} {f C:Addr} {fd:FuncData} {ps:List Str} {sp:Sp} {dvs:List V} {ds:List Value} {E:XK} {x m:Str} {p pos apos:Pos} {e o:Expr} {es:List Expr} {ta:TE} {t:TA}
theorem zoM {pins:List (Addr×Obj)} {σ:St} {H:Hp} {s:Shared} {Q:VK} {us:List Value} {vs:List V} (F:FnOk X.prog X.w X.K X.mg X.base CX k f fd ps sp) (hr:Room k X.A) (hb:Binds X.K fd ps ds) (hd:Vals dvs ds) (hx:Passes CX X E)
  (I:Inv X pins σ H s) (r:Vals vs us) (h:sp (vs++dvs) H Q E):wpAny (model X.prog X.w) X.A (call (.ref f) us) (EP X pins σ Q) X.xe s:=by
 have r2:Vals (vs++dvs) (us++ds):=r.append hd
 have hl:(us++ds).length=ps.length:=by rw [<-r2.length]; exact F.len _ _ _ _ h
 refine wpAny_call (codeAny_mono (F.run X.A X.stack s H ⟨us,[]⟩ (us++ds) (vs++dvs) Q E hr I.env0 (hb s us I.kIn hl) r2 h) λ r s' hq=>?_)
 cases r with
 | error e=>exact hx pins σ H s e s' I hq
 | ok fl =>
  cases fl with
  | ret u=>exact I.after hq
  | next=>exact False.elim hq
  | brk=>exact False.elim hq
  | cont=>exact False.elim hq
theorem zaT (F:FnOk X.prog X.w X.K X.mg X.base CX k f fd ps sp) (hr:Room k X.A) (hg:Gl X x) (hm:X.mg x=some (.ref f)) (hk:PySem.W.keepIn X.K (.ref f)=true) (hb:Binds X.K fd ps ds) (hd:Vals dvs ds) (hx:Passes CX X E)
  (ha:PA X (e::es) t) (hdb:(x == ("__debug__" : Str))=false:=by decide) (he:starEach (e::es) X.env=(false,eval e X.env)::starEach es X.env:=by rfl) (hpl:(backTo pos (starEach es X.env)).any (·.1)=false:=by rfl) :
  PE X (.Call (.Name x p) (e::es) [] pos) (ztv sp dvs E t):=by
 intro pins s σ H Q I h
 refine wpAny_Call_Name_kw (zge I hg hm ?_ hdb)
 refine PySem.W.callWith_K (h₀:=X.base) I.ok.mod.kin hk (thn (ha pos pins s σ H _ I h) λ us s1 ⟨vs,H1,I1,r,q⟩=>⟨I1.kIn,?_⟩) he hpl
 exact zoM F hr hb hd hx I1 r q
theorem zax {pl:Sem Bool} (he:PE X o ta) (c:Cls X.K C) (hm:Meth X.K C m f) (F:FnOk X.prog X.w X.K X.mg X.base CX k f fd ps sp) (hr:Room k X.A) (hb:Binds X.K fd ps ds) (hd:Vals dvs ds) (hx:Passes CX X E) (ha:PA X (e::es) t)
  (hst:starEach (e::es) X.env=(false,eval e X.env)::starEach es X.env:=by rfl) (hpl:(backTo pos (starEach es X.env)).any (·.1)=false:=by rfl)
  (ht:eval (.Call (.Attribute o m apos) (e::es) [] pos) X.env=(do
   let ov <-eval o X.env
   standAt apos.atName
   let (f,first) <-holding [ov] (getMethod ov m pl)
   callWith pos f first (backTo pos (starEach (e::es) X.env)) (backToKw pos (keywordEach [] X.env))):=by rfl) :
  PE X (.Call (.Attribute o m apos) (e::es) [] pos) (zsm C m sp dvs E ta t):=by
 intro pins s σ H Q I h
 refine PySem.W.methodCall_KW (pl:=pl) (thn (he pins s σ H _ I h) λ u s1 ⟨x,H1,I1,rx,a,dx,fs,ex,ea,l,q⟩=>?_) ht
 subst ex
 obtain rfl:u=Value.ref a:=rx
 refine zgj I1 ea c hm l ?_
 refine PySem.W.callWith_K (first:=[.ref a]) (h₀:=X.base) I.ok.mod.kin hm.kp (thn (ha pos pins s1 σ H1 _ I1 q) λ us s2 ⟨vs,H2,I2,r,q2⟩=>⟨I2.kIn,?_⟩) hst hpl
 exact zoM (us:=.ref a::us) (vs:=.ref a::vs) F hr hb hd hx I2 (.cons rfl r) q2
theorem zdI {pl:Sem Bool} (he:PE X o ta) (c:Cls X.K C) (hm:Meth X.K C m f) (F:FnOk X.prog X.w X.K X.mg X.base CX k f fd ps sp) (hr:Room k X.A) (hb:Binds X.K fd ps ds) (hd:Vals dvs ds) (hx:Passes CX X E)
  (ht:eval (.Call (.Attribute o m apos) [] [] pos) X.env=(do
   let ov <-eval o X.env
   standAt apos.atName
   let (f,first) <-holding [ov] (getMethod ov m pl)
   callWith pos f first (backTo pos (starEach [] X.env)) (backToKw pos (keywordEach [] X.env))):=by rfl) :
  PE X (.Call (.Attribute o m apos) [] [] pos) (zsm C m sp dvs E ta tNil):=by
 intro pins s σ H Q I h
 refine PySem.W.methodCall_KW (pl:=pl) (thn (he pins s σ H _ I h) λ u s1 ⟨x,H1,I1,rx,a,dx,fs,ex,ea,l,q⟩=>?_) ht
 subst ex
 obtain rfl:u=Value.ref a:=rx
 refine zgj I1 ea c hm l ?_
 exact PySem.W.callWith_K0 (first:=[.ref a]) I1.kIn hm.kp (zoM (us:=[.ref a]) (vs:=[.ref a]) F hr hb hd hx I1 (.cons rfl .nil) q)
structure Mk (K:PySem.W.Frag) (C f:Addr):Prop where
 makes:PySem.W.makesIn K C=true
 init:PySem.W.findIn K (.ref C) "__init__" = some (some (.ref f))
 fn:PySem.W.isFn K (.ref f)=true
 kp:PySem.W.keepIn K (.ref C)=true
theorem zmT {pins:List (Addr×Obj)} {σ:St} {H:Hp} {s:Shared} {Q:VK} {us:List Value} {vs:List V} (M:Mk X.K C f) (F:FnOk X.prog X.w X.K X.mg X.base CX k f fd ps sp) (hr:Room (k+1) X.A) (hb:Binds X.K fd ps ds) (hd:Vals dvs ds)
  (hx:Passes CX X E) (I:Inv X pins σ H s) (r:Vals vs us)
  (h:∀ x dx,H x=none->H dx=none->dx≠x->sp (.ref x::(vs++dvs)) (upd (upd H dx (.own x)) x (.ins C dx [])) (λ v H2=>v=.non/\Q (.ref x) H2) E) :
  wpAny (model X.prog X.w) X.A (call (.ref C) us) (EP X pins σ Q) X.xe s:=by
 have hq:=h (s.heap.objs.size+1) s.heap.objs.size (I.hok.fresh (Nat.le_succ _)) (I.hok.fresh (Nat.le_refl _)) (Nat.ne_of_lt (Nat.lt_succ_self _))
 have I2:=Inv.made (C:=C) I
 have r2:Vals (V.ref (s.heap.objs.size+1)::(vs++dvs)) (Value.ref (s.heap.objs.size+1)::(us++ds)):=.cons rfl (r.append hd)
 have hl:(Value.ref (s.heap.objs.size+1)::us++ds).length=ps.length:=by
  have e:=r2.length
  rw [F.len _ _ _ _ hq] at e
  exact e.symm
 refine wpAny_call (zqr (f:=f) I.kIn M.makes M.init (beq_iff_eq.mp M.fn) (codeAny_mono (F.run _ X.stack _ _ ⟨Value.ref (s.heap.objs.size+1)::us,[]⟩ (Value.ref (s.heap.objs.size+1)::(us++ds)) _ _ E (hr.make C us [])
  (I2.env0.make C us []) (hb _ (Value.ref (s.heap.objs.size+1)::us) I2.kIn hl) r2 hq) λ r s' hq'=>?_))
 cases r with
 | error e=>exact hx pins σ _ _ e s' I2 hq'
 | ok fl =>
  cases fl with
  | ret u =>
   obtain ⟨v,H',I3,rv,ev,q3⟩:=I2.after hq'
   subst ev
   exact ⟨rv,⟨V.ref (s.heap.objs.size+1),H',I3,rfl,q3⟩⟩
  | next=>exact False.elim hq'
  | brk=>exact False.elim hq'
  | cont=>exact False.elim hq'
theorem zoU (M:Mk X.K C f) (F:FnOk X.prog X.w X.K X.mg X.base CX k f fd ps sp) (hr:Room (k+1) X.A) (hg:Gl X x) (hm:X.mg x=some (.ref C)) (hb:Binds X.K fd ps ds) (hd:Vals dvs ds) (hx:Passes CX X E)
  (ha:PA X (e::es) t) (hdb:(x == ("__debug__" : Str))=false:=by decide) (he:starEach (e::es) X.env=(false,eval e X.env)::starEach es X.env:=by rfl) (hpl:(backTo pos (starEach es X.env)).any (·.1)=false:=by rfl) :
  PE X (.Call (.Name x p) (e::es) [] pos) (zsn C sp dvs E t):=by
 intro pins s σ H Q I h
 refine wpAny_Call_Name_kw (zge I hg hm ?_ hdb)
 refine PySem.W.callWith_K (h₀:=X.base) I.ok.mod.kin M.kp (thn (ha pos pins s σ H _ I h) λ us s1 ⟨vs,H1,I1,r,q⟩=>⟨I1.kIn,?_⟩) he hpl
 exact zmT M F hr hb hd hx I1 r q
theorem zjs (M:Mk X.K C f) (F:FnOk X.prog X.w X.K X.mg X.base CX k f fd ps sp) (hr:Room (k+1) X.A) (hg:Gl X x) (hm:X.mg x=some (.ref C)) (hb:Binds X.K fd ps ds) (hd:Vals dvs ds) (hx:Passes CX X E)
  (hdb:(x == ("__debug__" : Str))=false:=by decide):PE X (.Call (.Name x p) [] [] pos) (zsn C sp dvs E tNil):=by
 intro pins s σ H Q I h
 refine wpAny_Call_Name_kw (zge I hg hm ?_ hdb)
 exact PySem.W.callWith_K0 I.kIn M.kp (zmT (us:=[]) M F hr hb hd hx I .nil h)
end
section
variable {X:Cx} {CX:CXT} {k:Nat} {f C:Addr} {fd:FuncData} {ps ks:List Str} {sp:Sp} {E:XK} {x m:Str} {p pos apos kpos:Pos} {e o:Expr} {es:List Expr} {kws:List Keyword} {te ta:TE} {t tk:TA} {nm:Option Str}
variable {g:List Value->List Value->List Value} {gV:List V->List V->List V}
end
structure zap (N P:List Str) (sc:Scope):Prop where
 kind:sc.kind=.function
 co:sc.isCoroutine=false
 gen:sc.isGenerator=false
 nd:N.Nodup
 pre:N.take P.length=P
 par:∀ x∈P,sc.names.lookup x=some .local\/sc.names.lookup x=some .cell
 zsY:∀ y∈sc.names,y.2≠.free
theorem zlf {kindOf:Str->Option NameKind} {x:Str}:∀ {binds:List (Str×Value)} {m:Str->Option Value},(∀ v,(x,v)∉binds)->bindL kindOf binds m x=m x
 | [],_,_=>rfl
 | (n,v)::r,m,h=>by
  unfold bindL
  rw [zlf λ w hw=>h w (List.mem_cons_of_mem _ hw)]
  split
  . have:x≠n:=by rintro rfl; exact h v List.mem_cons_self
    simp [this]
  . rfl
theorem zlh {kindOf:Str->Option NameKind} {x:Str}:∀ {binds:List (Str×Value)} {m:Str->Option Value},(∀ v,(x,v)∉binds)->bindC kindOf binds m x=m x
 | [],_,_=>rfl
 | (n,v)::r,m,h=>by
  unfold bindC
  rw [zlh λ w hw=>h w (List.mem_cons_of_mem _ hw)]
  split
  . rfl
  . have:x≠n:=by rintro rfl; exact h v List.mem_cons_self
    simp [this]
theorem zlg {kindOf:Str->Option NameKind} {x:Str} {v:Value}:∀ {P:List Str} {vs:List Value} {i:Nat} {m:Str->Option Value},P.Nodup->P[i]?=some x->vs[i]?=some v->kindOf x=some .local ->
  bindL kindOf (P.zip vs) m x=some v
 | [],_,_,_,_,h,_,_=>by simp at h
 | _::_,[],_,_,_,_,h,_=>by simp at h
 | p::P,w::vs,0,m,nd,h1,h2,hk=>by
  simp at h1 h2; subst h1; subst h2
  show bindL kindOf ((p,w)::P.zip vs) m p=_
  unfold bindL
  rw [zlf λ v hv=>(List.nodup_cons.mp nd).1 (List.of_mem_zip hv).1,if_pos hk]
  simp
 | p::P,w::vs,i+1,m,nd,h1,h2,hk=>by
  show bindL kindOf ((p,w)::P.zip vs) m x=_
  unfold bindL
  exact zlg (i:=i) (List.nodup_cons.mp nd).2 (by simpa using h1) (by simpa using h2) hk
theorem zli {kindOf:Str->Option NameKind} {x:Str} {v:Value}:∀ {P:List Str} {vs:List Value} {i:Nat} {m:Str->Option Value},P.Nodup->P[i]?=some x->vs[i]?=some v->kindOf x≠some .local ->
  bindC kindOf (P.zip vs) m x=some v
 | [],_,_,_,_,h,_,_=>by simp at h
 | _::_,[],_,_,_,_,h,_=>by simp at h
 | p::P,w::vs,0,m,nd,h1,h2,hk=>by
  simp at h1 h2; subst h1; subst h2
  show bindC kindOf ((p,w)::P.zip vs) m p=_
  unfold bindC
  rw [zlh λ v hv=>(List.nodup_cons.mp nd).1 (List.of_mem_zip hv).1,if_neg hk]
  simp
 | p::P,w::vs,i+1,m,nd,h1,h2,hk=>by
  show bindC kindOf ((p,w)::P.zip vs) m x=_
  unfold bindC
  exact zli (i:=i) (List.nodup_cons.mp nd).2 (by simpa using h1) (by simpa using h2) hk
def start (N:List Str) (vs:List V):St:=vs.map some++List.replicate (N.length - vs.length) none
def cxOf (CX:CXT) (P:Program) (w:World) (K:PySem.W.Frag) (mg:Str->Option Value) (base:Heap) (N:List Str) (qual:Str) (scope:Scope) (f:Addr) (cd:Value) (A:Around) (outer:List Env) (s:Shared) (H:Hp) (E:XK):Cx where
 prog:=P
 w:=w
 K:=K
 mg:=mg
 base:=base
 A:=A.deeper (envOfC qual scope s.heap.objs.size f cd)
 N:=N
 s₀:=s
 H₀:=H
 env:=envOfC qual scope s.heap.objs.size f cd
 outer:=outer
 stack:=envOfC qual scope s.heap.objs.size f cd::outer
 ex:=[]
 calm:=true
 fn:=λ _=>true
 pn:=[]
 xe:=λ e s'=>wpAny (model P w) (A.deeper (envOfC qual scope s.heap.objs.size f cd)) (leaving (envOfC qual scope s.heap.objs.size f cd) e) (λ _ s''=>CX outer H s E e s'') (λ e' s''=>CX outer H s E e' s'') s'
theorem znn {sc:Scope} {n:Nat} {x:Str} (h:sc.names.lookup x=some .cell):∃ c,(cellsFrom n sc.names []).lookup x=some c:=by
 have q:=PySem.W.cellsFrom_some sc.names n [] (.inl h)
 exact Option.isSome_iff_exists.mp q
theorem zpp {CX:CXT} {P:Program} {w:World} {K:PySem.W.Frag} {mg:Str->Option Value} {base:Heap} {N ps:List Str} {qual:Str} {scope:Scope} {f:Addr} {cd:Value} {A:Around} {outer:List Env} {s s1:Shared} {H:Hp} {E:XK} {us:List Value} {vs:List V}
   (S:zap N ps scope) (hd:A.handled=none) (e0:Env0 P w K mg base A outer s H) (hl:vs.length=ps.length) (r:Vals vs us)
   (x:InCallC s s.heap.objs.size (bindL (envOfC qual scope s.heap.objs.size f cd).kindOf (ps.zip us) λ _=>none) (cellsFrom (s.heap.objs.size+1) scope.names []) (bindC (envOfC qual scope s.heap.objs.size f cd).kindOf (ps.zip us) λ _=>none) s1) :
   Inv (cxOf CX P w K mg base N qual scope f cd A outer s H E) [] (start N vs) H s1:=by
 have hpl:ps.length<=N.length:=by have:=congrArg List.length S.pre; rw [List.length_take] at this; omega
 obtain ⟨h1,tk,rfl,hk⟩:=x.done
 have noA:∀ b:Addr,b∉(cxOf CX P w K mg base N qual scope f cd A outer s H E).ex:=λ b z=>absurd (show b∈([]:List Addr) from z) (by simp)
 refine ⟨⟨e0.mod,S.kind,rfl,rfl,Nat.le_refl _,λ y z c h1 h2=>?_,λ y hy=>?_,λ y c _ h=>?_,λ _=>hd,Around.frames_deeper e0.frames,.inr ⟨rfl,rfl⟩,λ b z=>absurd z (noA b),e0.bs,e0.bsz,λ b _ _=>noA b,λ b z=>absurd z (noA b),e0.funs,e0.frf⟩,
   rfl,e0.bare,Un.kept hk,⟨_,x.toInCall.ns,λ i y v h1 h2 h3=>?_⟩,λ y c h=>⟨_,x.cell y c h⟩,e0.hok.fresh (Nat.le_refl _),λ y c h=>?_,λ p hp=>absurd (show p∈([]:List (Addr×Obj)) from hp) (by simp),e0.hok.kept hk,?_⟩
 . exact name_of_addr x.apart (PySem.mem_of_lookup h1) (PySem.mem_of_lookup h2)
 . have hy:scope.names.lookup y=some .cell\/scope.names.lookup y=some .free:=hy
   rcases hy with hy | hy
   . exact znn hy
   . exact absurd rfl (S.zsY _ (PySem.mem_of_lookup hy))
 . exact Nat.le_of_lt (x.above y c (PySem.mem_of_lookup h))
 . have hi:i < vs.length:=by
     unfold start at h2
     by_cases hi:i < vs.length
     . exact hi
     . rw [List.getElem?_append_right (by simpa using hi)] at h2
       rw [List.getElem?_replicate] at h2
       split at h2 <;> cases h2
   have ha:vs[i]?=some v:=by
     unfold start at h2
     rw [List.getElem?_append_left (by simpa using hi),List.getElem?_map] at h2
     cases e:vs[i]? with
     | none=>rw [e] at h2; cases h2
     | some a=>rw [e] at h2; cases h2; rfl
   obtain ⟨u,hu,rv⟩:=r.get ha
   have hp:ps[i]?=some y:=by
     rw [<-S.pre,List.getElem?_take_of_lt (by omega)]; exact h1
   have ndP:ps.Nodup:=by rw [<-S.pre]; exact S.nd.sublist (List.take_sublist _ _)
   refine ⟨u,rv,?_⟩
   rcases S.par y (List.mem_of_getElem? hp) with k | k
   . exact .inl ⟨k,zlg ndP hp hu k⟩
   . obtain ⟨c,e⟩:=znn (n:=s.heap.objs.size+1) k
     refine .inr ⟨.inl k,c,e,?_⟩
     have q:=x.cell y c e
     rw [zli ndP hp hu (by show scope.names.lookup y≠_; rw [k]; decide)] at q
     exact q
 . exact e0.hok.fresh (Nat.le_of_lt (x.above y c (PySem.mem_of_lookup h)))
 . unfold start
   show _=N.length
   rw [List.length_append,List.length_map,List.length_replicate]
   omega
theorem ztQ {CX:CXT} {P:Program} {w:World} {K:PySem.W.Frag} {mg:Str->Option Value} {base:Heap} {k:Nat} {f:Addr} {name qual:Str} {params:Arguments} {body:List Stmt} {scope:Scope} {dV kV doc pm cdv ct oc:Value} {an od:Option Addr}
  {osl:Array (Option Value)} {N ps:List Str} {sp:Sp} (lk:K.lookup f=some ⟨oc,od,.func (PySem.W.fnOf name qual params body scope dV kV doc pm an cdv ct),osl⟩) (hcd:PySem.W.codeIn K cdv qual=true) (S:zap N ps scope)
  (len:∀ vs H Q E,sp vs H Q E->vs.length=ps.length)
  (hbody:∀ (A:Around) (outer:List Env) (s:Shared) (H:Hp) (vs:List V) (Q:VK) (E:XK),Room k (A.deeper (envOfC qual scope s.heap.objs.size f cdv))->sp vs H Q E ->
    ∃ t,PSs (cxOf CX P w K mg base N qual scope f cdv A outer s H E) body t/\t { nx:=λ _ H'=>Q .non H',rt:=Q } (start N vs) H) :
  FnOk P w K mg base CX (k+1) f (PySem.W.fnOf name qual params body scope dV kV doc pm an cdv ct) ps sp:=by
 refine ⟨len,λ A outer s H args us vs Q E hr e0 hb r hsp=>?_⟩
 have hl:=len _ _ _ _ hsp
 have KX:K.In s.heap:=e0.mod.kin.keeps λ b o e=>(e0.bs b o e).1
 have lim:s.heap.NoLimit:=e0.mod.nolimit.keeps λ b o e=>(e0.bs b o e).1
 have hkind:∀ y∈ps.zip us,scope.names.lookup y.1=some .local\/(scope.names.lookup y.1=some .cell/\((cellsFrom (s.heap.objs.size+1) scope.names []).lookup y.1).isSome=true):=λ ⟨n,v⟩ hy=>by
  rcases S.par n (List.of_mem_zip hy).1 with q | q
  . exact .inl q
  . exact .inr ⟨q,PySem.W.cellsFrom_some _ _ _ (.inl q)⟩
 refine codeAny_call_function hr.depth (KX _ _ lk) rfl S.co S.gen rfl (PySem.W.codeRec_of KX hcd) (hb _ _ _ _ ?_)
 refine wpAny_newFunctionEnv_cells S.kind hkind λ env he s1 x=>?_
 subst he
 refine ⟨lim.keeps x.toInCall.keep,codeAny_func ?_⟩
 obtain ⟨t,ht,hq⟩:=hbody A outer s H vs Q E (hr.deeper _) hsp
 have I:Inv (cxOf CX P w K mg base N qual scope f cdv A outer s H E) [] (start N vs) H s1:=zpp S hr.hd e0 hl r x
 refine wpAny_mono (ht [] s1 (start N vs) H _ I hq) (λ fl s' hs=>?_) λ e s' hs=>hs
 have fin:∀ {σ':St} {H':Hp} {v:V} {u:Value},Inv (cxOf CX P w K mg base N qual scope f cdv A outer s H E) [] σ' H' s'->RelV v u->Q v H'->CE outer P w H s Q u s' :=
  λ {σ' H' v u} J rv q=>⟨v,H',J.os,J.bare,J.base,J.hok,rv,q⟩
 cases fl with
 | ret u =>
  obtain ⟨v,σ',H',J,rv,q⟩:=hs
  exact fin J rv q
 | next =>
  obtain ⟨σ',H',J,q⟩:=hs
  exact fin (v:=V.non) (u:=Value.none) J rfl q
 | brk =>
  obtain ⟨_,_,_,q⟩:=hs
  exact False.elim q
 | cont =>
  obtain ⟨_,_,_,q⟩:=hs
  exact False.elim q
end L2
namespace L2
open PySem PySem.Spec PyProof.Rows
section
variable {X:Cx} {x:Str} {p pos:Pos} {e:Expr} {es:List Expr} {t:TA} {id T:String} {r:List V->Hp->VK->Prop}
def tCB (r:List V->Hp->VK->Prop) (t:TA):TE:=λ σ H Q=>t σ H λ vs H1=>r vs H1 Q
theorem za7 (hc:zfU X (.builtin id) r) (hg:Gl X x) (hm:X.mg x=none) (hv:bootBuiltins x=some (.builtin id)) (ha:PA X (e::es) t) (hn:x ≠ "__name__" := by decide) (hdb:(x == ("__debug__" : Str))=false:=by decide)
  (he:starEach (e::es) X.env=(false,eval e X.env)::starEach es X.env:=by rfl) (hpl:(backTo pos (starEach es X.env)).any (·.1)=false:=by rfl):PE X (.Call (.Name x p) (e::es) [] pos) (tCB r t):=by
 intro pins s σ H Q I h
 refine wpAny_Call_Name_kw (zm8 I hg hm hv ?_ hn hdb)
 exact PyProof.Rows.callWith_builtin1 (thn (ha pos pins s σ H _ I h) λ us s1 ⟨vs,H1,I1,r1,q1⟩=>hc pins s1 σ H1 vs us Q I1 r1 q1) he hpl
theorem zbv (hc:zfU X (.type T) r) (hg:Gl X x) (hm:X.mg x=none) (hv:bootBuiltins x=some (.type T)) (ha:PA X (e::es) t) (hn:x ≠ "__name__" := by decide) (hdb:(x == ("__debug__" : Str))=false:=by decide)
  (he:starEach (e::es) X.env=(false,eval e X.env)::starEach es X.env:=by rfl) (hpl:(backTo pos (starEach es X.env)).any (·.1)=false:=by rfl):PE X (.Call (.Name x p) (e::es) [] pos) (tCB r t):=by
 intro pins s σ H Q I h
 refine wpAny_Call_Name_kw (zm8 I hg hm hv ?_ hn hdb)
 exact PyProof.Rows.callWith_type1 (thn (ha pos pins s σ H _ I h) λ us s1 ⟨vs,H1,I1,r1,q1⟩=>hc pins s1 σ H1 vs us Q I1 r1 q1) he hpl
end
end L2
namespace HT
open PySem PyProof.Rows
section
open PySem.SeqAt
open PySem.AutoSeq1 (wpAny_loadPart')
open PySem.MeetsSeq PySem.MeetsSeq2 PySem.MeetsSeq3
end
section
variable {prog:Program} {w:World} {A:Around} {E:Value->Shared->Prop} {s:Shared}
def sIx (n d:Nat):Option Int->Nat
 | none=>d
 | some v=>if v < 0 then (v+(n:Int)).toNat else min v.toNat n
end
end HT
namespace L2
open PySem PySem.Spec PyProof.Rows
abbrev TO:=St->Hp->(Option Int->Hp->Prop)->Prop
def PO (X:Cx) (e:Option Expr) (t:TO):Prop :=
 ∀ (pins:List (Addr×Obj)) (s:Shared) (σ:St) (H:Hp) (Q:Option Int->Hp->Prop),Inv X pins σ H s->t σ H Q ->
  wpAny (model X.prog X.w) X.A (evalPart e X.env) (λ u s'=>∃ o H',Inv X pins σ H' s'/\IsPart u o/\Q o H') X.xe s
def ztq (t:TE):TO:=λ σ H Q=>t σ H λ x H1=>∃ i,x=.int i/\Q (some i) H1
section
variable {X:Cx} {e:Expr} {te:TE} {lo hi:Option Expr} {tl th:TO} {pos p2:Pos}
theorem zoT (h:PE X e te):PO X (some e) (ztq te):=by
 intro pins s σ H Q I hw
 rw [evalPart_some]
 refine thn (h pins s σ H _ I hw) λ u s1 ⟨x,H1,I1,r1,q1⟩=>?_
 obtain ⟨i,rfl,q⟩:=q1
 obtain ⟨t,rfl⟩:=r1
 exact ⟨some i,H1,I1,.int i t,q⟩
def SlR (X:Cx) (r:V->Option Int->Option Int->Hp->VK->Prop):Prop :=
 ∀ (pins:List (Addr×Obj)) (s:Shared) (σ:St) (H:Hp) (x:V) (v vl vu:Value) (lo hi:Option Int) (sl:Addr) (Q:VK),Inv X pins σ H s->RelV x v->s.heap.IsSliceOf sl vl vu .none->IsPart vl lo->IsPart vu hi->r x lo hi H Q ->
  ∃ T id,typeLookup (.type T) "__getitem__" = pure (some (.builtin id))/\s.TypeIs v T/\wpAny (model X.prog X.w) X.A (getItem v (.ref sl)) (EP X pins σ Q) X.xe s
def tSl (r:V->Option Int->Option Int->Hp->VK->Prop) (te:TE) (tl th:TO):TE:=λ σ H Q=>te σ H λ x H1=>tl σ H1 λ l H2=>th σ H2 λ u H3=>r x l u H3 Q
theorem zqi {r:V->Option Int->Option Int->Hp->VK->Prop} (hr:SlR X r) (he:PE X e te) (hl:PO X lo tl) (hu:PO X hi th):PE X (.Subscript e (.Slice lo hi none p2) pos) (tSl r te tl th):=by
 intro pins s σ H Q I h
 refine Subscript_ (thn (he pins s σ H _ I h) λ v s1 ⟨x,H1,I1,r1,q1⟩=>?_)
 refine wpAny_Slice (thn (hl pins s1 σ H1 _ I1 q1) λ vl s2 ⟨l,H2,I2,pl,q2⟩=>thn (hu pins s2 σ H2 _ I2 q2) λ vu s3 ⟨u,H3,I3,pu,q3⟩=>?_)
 rw [evalPart_none]
 refine wpAny_pure ?_
 have I4:Inv X pins σ H3 { s3 with heap:=s3.heap.push { cls:=.type "slice",data:=.fields #[vl,vu,.none] } }:=I3.kept (t':=s3.toks) λ b ob q=>Heap.get?_push_of_some _ q
 obtain ⟨T,id,hT,ht,hg⟩:=hr pins { s3 with heap:=s3.heap.push { cls:=.type "slice",data:=.fields #[vl,vu,.none] } } σ H3 x v vl vu l u s3.heap.objs.size Q I4 r1 (Heap.IsSliceOf.new ..) pl pu q3
 show wpAny (model X.prog X.w) X.A (subscriptTail e (.Slice lo hi none p2) v (.ref s3.heap.objs.size)) (EP X pins σ Q) X.xe { s3 with heap:=s3.heap.push { cls:=.type "slice",data:=.fields #[vl,vu,.none] } }
 exact tail_any (ops:=[.ref s3.heap.objs.size,v]) ht hT hg (by with_unfolding_all rfl)
def cutV (xs:List V) (lo hi:Option Int):List V:=(xs.drop (HT.sIx xs.length 0 lo)).take (HT.sIx xs.length xs.length hi - HT.sIx xs.length 0 lo)
theorem zmh (xs:List V) (lo hi:Option Int):(cutV xs lo hi).length<=xs.length:=by
 unfold cutV
 rw [List.length_take,List.length_drop]
 omega
end
end L2
namespace L2
open PySem PySem.Spec PyProof.Rows
def ixN (n:Nat) (i:Int):Option Nat:=if 0<=i then (if i < n then some i.toNat else none) else if -(n:Int)<=i then some (i+n).toNat else none
def atI {α:Type} (xs:List α) (i:Int):Option α:=(ixN xs.length i).bind λ j=>xs[j]?
theorem zpn {n:Nat} {i:Int} {j:Nat} (h:ixN n i=some j):seqIndex? i n=some j/\j < n/\-(n:Int)<=i/\i < n:=by
 unfold ixN at h
 by_cases h0:0<=i
 . rw [if_pos h0] at h
   by_cases h1:i < n
   . rw [if_pos h1] at h
     have e:i.toNat=j:=Option.some.inj h
     exact ⟨by rw [seqIndex_of h0 h1,e],by omega,by omega,h1⟩
   . rw [if_neg h1] at h; cases h
 . rw [if_neg h0] at h
   by_cases h1:-(n:Int)<=i
   . rw [if_pos h1] at h
     have e:(i+n).toNat=j:=Option.some.inj h
     exact ⟨by rw [seqIndex_neg (by omega) h1,e],by omega,h1,by omega⟩
   . rw [if_neg h1] at h; cases h
theorem zmv {α:Type} {xs:List α} {i:Int} {v:α} (h:atI xs i=some v):∃ j,seqIndex? i xs.length=some j/\xs[j]?=some v/\j < xs.length/\-(xs.length:Int)<=i/\i < xs.length:=by
 unfold atI at h
 cases e:ixN xs.length i with
 | none=>rw [e] at h; cases h
 | some j =>
  rw [e] at h
  obtain ⟨h1,h2,h3,h4⟩:=zpn e
  exact ⟨j,h1,h,h2,h3,h4⟩
theorem zbm {α:Type} {xs:List α} {j:Nat} {v:α} (h:xs[j]?=some v):atI xs (j:Int)=some v:=by
 have hj:j < xs.length:=(List.getElem?_eq_some_iff.mp h).1
 have e:ixN xs.length (j:Int)=some j:=by
  unfold ixN
  rw [if_pos (by omega),if_pos (by omega)]; simp
 unfold atI; rw [e]; exact h
def zse (b:Expr):Prop:=∀ o i,subscripted b false o i=operate [o,i] (getItem o i)
def IxR (X:Cx) (r:R2):Prop :=
 ∀ (value slice:Expr) (pins:List (Addr×Obj)) (s:Shared) (σ:St) (H:Hp) (x y:V) (v u:Value) (Q:VK),Inv X pins σ H s->RelV x v->RelV y u->r x y H Q ->
  subscripted slice false v u=operate [v,u] (getItem v u)->wpAny (model X.prog X.w) X.A (subscriptTail value slice v u) (EP X pins σ Q) X.xe s
def MtR (X:Cx) (id:String) (r:V->List V->Hp->VK->Prop):Prop :=
 ∀ (pins:List (Addr×Obj)) (s:Shared) (σ:St) (H:Hp) (x:V) (xs:List V) (v:Value) (us:List Value) (Q:VK),Inv X pins σ H s->RelV x v->Vals xs us->r x xs H Q ->
  wpAny (model X.prog X.w) X.A (call (.builtin id) (v::us)) (EP X pins σ Q) X.xe s
section
variable {X:Cx} {a b:Expr} {ta tb:TE} {pos:Pos}
theorem zbe {r:R2} (hr:IxR X r) (ha:PE X a ta) (hb:PE X b tb) (hs:zse b):PE X (.Subscript a b pos) (tOp r ta tb):=by
 intro pins s σ H Q I h
 exact Subscript_ (binT ha hb I h λ v u s2 x y H2 I2 rx ry q=>hr a b pins s2 σ H2 x y v u Q I2 rx ry q (hs _ _))
def rIxL (K:PySem.W.Frag):R2:=λ x y H Q=>∃ p xs i v,x=.ref p/\y=.int i/\SqL K H p xs/\atI xs i=some v/\Q v H
def rIxT (K:PySem.W.Frag):R2:=λ x y H Q=>∃ p xs i v,x=.ref p/\y=.int i/\SqT K H p xs/\atI xs i=some v/\Q v H
def rIxS:R2:=λ x y H Q=>∃ z i c,x=.str z/\y=.int i/\z.length<=sizeLine/\atI z.cps.toList i=some c/\Q (.str ⟨#[c]⟩) H
theorem zbu:IxR X (rIxL X.K):=by
 intro value slice pins s σ H x y v u Q I rx ry h hs
 obtain ⟨p,xs,i,z,rfl,rfl,hq,he,q⟩:=h
 cases rx
 obtain ⟨t,rfl⟩:=ry
 obtain ⟨its,r,pl,hz⟩:=I.list hq
 obtain ⟨j,h1,h2,h3,h4,h5⟩:=zmv he
 obtain ⟨w,ew,rw'⟩:=r.get h2
 have hl:=r.length
 have hn:=zkZ
 have fin:EP X pins σ Q w s:=⟨z,H,I,rw',q⟩
 by_cases h0:0<=i
 . have hj:i.toNat=j:=by
    rw [seqIndex_of h0 h5] at h1
    exact Option.some.inj h1
   exact item_listR pl.isList h0 (by omega) (by rw [hj]; simpa using ew) fin hs
 . have hj:(i+(its.toArray.size:Int)).toNat=j:=by
    rw [seqIndex_neg (by omega) h4] at h1
    rw [List.size_toArray,<-hl]
    exact Option.some.inj h1
   exact subscriptTail_builtinR (x:=w) pl.isList.typeIs slot_list_getitem.lookup
    (wpAny_getItem_list_neg (Q:=λ r s'=>r=w/\EP X pins σ Q r s') pl.isList (by omega) (by rw [List.size_toArray] <;> omega) (by omega) (by rw [hj]; simpa using ew) ⟨rfl,fin⟩) hs
theorem zb0:IxR X (rIxT X.K):=by
 intro value slice pins s σ H x y v u Q I rx ry h hs
 obtain ⟨p,xs,i,z,rfl,rfl,hq,he,q⟩:=h
 cases rx
 obtain ⟨t,rfl⟩:=ry
 obtain ⟨its,r,pl,hz⟩:=I.tuple hq
 obtain ⟨j,h1,h2,h3,h4,h5⟩:=zmv he
 obtain ⟨w,ew,rw'⟩:=r.get h2
 have hl:=r.length
 have hn:=zkZ
 have fin:EP X pins σ Q w s:=⟨z,H,I,rw',q⟩
 exact subscriptTail_builtinR (x:=w) pl.typeIs slot_tuple_getitem.lookup
  (getItem_tuple (j:=j) (Q:=λ r s'=>r=w/\EP X pins σ Q r s') pl (by omega) (by omega) (by rw [List.size_toArray,<-hl]; exact h1) (by simpa using ew) ⟨rfl,fin⟩) hs
theorem zna:IxR X rIxS:=by
 intro value slice pins s σ H x y v u Q I rx ry h hs
 obtain ⟨z,i,c,rfl,rfl,hz,he,q⟩:=h
 obtain ⟨t,rfl⟩:=rx
 obtain ⟨t',rfl⟩:=ry
 obtain ⟨j,h1,h2,h3,h4,h5⟩:=zmv he
 have hl:z.cps.toList.length=z.length:=by simp [Str.length]
 rw [hl] at h1 h4 h5
 have hn:=zkZ
 exact tail_any (typeIs_str s z t) slot_str_getitem.lookup (getItem_str (c:=c) (by
  have e1:decide (i < -(2 ^ 63:Int))=false:=decide_eq_false (by omega)
  have e2:decide (i ≥ 2 ^ 63)=false:=decide_eq_false (by omega)
  rw [e1,e2,Bool.or_false]) (by rw [h1]; simpa using h2) ⟨.str ⟨#[c]⟩,H,I.tok _,⟨_,rfl⟩,q⟩) hs
theorem zkn (lo hi:Option Int) (n:Nat):(sliceBounds lo hi none n).1=((HT.sIx n 0 lo:Nat):Int)/\(sliceBounds lo hi none n).2.1=((HT.sIx n n hi:Nat):Int)/\(sliceBounds lo hi none n).2.2=1:=by
 refine ⟨?_,?_,rfl⟩
 . cases lo with
   | none=>simp [sliceBounds,HT.sIx]
   | some i =>
    simp only [sliceBounds,HT.sIx,Option.getD_none,show (1:Int) > 0 by decide,if_true]
    by_cases h:i < 0
    . simp only [h,if_true] <;> omega
    . simp only [h,if_false] <;> omega
 . cases hi with
   | none=>simp [sliceBounds,HT.sIx]
   | some i =>
    simp only [sliceBounds,HT.sIx,Option.getD_none,show (1:Int) > 0 by decide,if_true]
    by_cases h:i < 0
    . simp only [h,if_true] <;> omega
    . simp only [h,if_false] <;> omega
theorem zji (its:List Value) (lo hi:Option Int):slicePick its.toArray lo hi none=((its.drop (HT.sIx its.length 0 lo)).take (HT.sIx its.length its.length hi - HT.sIx its.length 0 lo)).toArray:=by
 obtain ⟨h1,h2,h3⟩:=zkn lo hi its.toArray.size
 unfold slicePick
 rw [h1,h2,h3]
 simp only [sliceRange_one,pick_run,List.size_toArray] <;> rfl
def rSlL (K:PySem.W.Frag):V->Option Int->Option Int->Hp->VK->Prop:=λ x lo hi H Q=>∃ a xs,x=.ref a/\SqL K H a xs/\∀ p,H p=none->Q (.ref p) (upd H p (.lst (cutV xs lo hi)))
theorem zry:SlR X (rSlL X.K):=by
 intro pins s σ H x v vl vu lo hi sl Q I rx hs pl pu h
 obtain ⟨a,xs,rfl,hx,q⟩:=h
 cases rx
 obtain ⟨its,r,ht,hz⟩:=I.list hx
 have hlen:=r.length
 refine ⟨"list",_,slot_list_getitem.lookup,ht.isList.typeIs,?_⟩
 refine wpAny_getItem_list_slice ht.isList hs pl pu .none (by simp) ?_ (by rw [List.size_toArray] <;> omega)
 rw [zji,<-hlen]
 refine ⟨.ref s.heap.objs.size,_,I.laid (t':=s.toks) (o:=.lst (cutV xs lo hi)) (λ b ob q=>Heap.get?_push_of_some _ q) (Nat.le_refl _) ?_,rfl,q _ (I.hok.fresh (Nat.le_refl _))⟩
 exact ⟨Nat.le_trans (zmh xs lo hi) hz,_,0,(r.drop (HT.sIx xs.length 0 lo)).take (HT.sIx xs.length xs.length hi - HT.sIx xs.length 0 lo),Heap.get?_push_size _ rfl⟩
def zjQ:V->Bool
 | .non=>true
 | .bl _=>true
 | .int _=>true
 | .str _=>true
 | _=>false
def eqV:V->V->Bool
 | .non,.non=>true
 | .bl a,.bl b=>a == b
 | .bl a,.int b=>(if a then 1 else 0) == b
 | .int a,.bl b=>a == (if b then 1 else 0)
 | .int a,.int b=>a == b
 | .str a,.str b=>a == b
 | _,_=>false
theorem zs9 {A:Around} {s:Shared} {y x:V} {u v:Value} (ry:RelV y u) (rx:RelV x v) (fy:zjQ y=true) (fx:zjQ x=true):SeqAt.EqAt A s u v (eqV y x):=by
 cases y with
 | non =>
  cases ry
  cases x with
  | non=>cases rx; exact SeqAt.EqAt.same _
  | bl b=>cases rx; exact SeqAt.EqAt.none_bool b
  | int b=>obtain ⟨t,rfl⟩:=rx; exact SeqAt.EqAt.none_int b t
  | str b=>obtain ⟨t,rfl⟩:=rx; exact SeqAt.EqAt.none_str b t
  | _=>exact absurd (show false=true from fx) Bool.false_ne_true
 | bl a =>
  cases ry
  cases x with
  | non=>cases rx; exact SeqAt.EqAt.bool_none a
  | bl b=>cases rx; exact SeqAt.EqAt.bool_bool a b
  | int b=>obtain ⟨t,rfl⟩:=rx; exact SeqAt.EqAt.bool_int a b t
  | str b=>obtain ⟨t,rfl⟩:=rx; exact SeqAt.EqAt.bool_str a b t
  | _=>exact absurd (show false=true from fx) Bool.false_ne_true
 | int a =>
  obtain ⟨t',rfl⟩:=ry
  cases x with
  | non=>cases rx; exact SeqAt.EqAt.int_none a t'
  | bl b=>cases rx; exact SeqAt.EqAt.int_bool a t' b
  | int b=>obtain ⟨t,rfl⟩:=rx; exact SeqAt.EqAt.int_int a t' b t
  | str b=>obtain ⟨t,rfl⟩:=rx; exact SeqAt.EqAt.int_str a t' b t
  | _=>exact absurd (show false=true from fx) Bool.false_ne_true
 | str a =>
  obtain ⟨t',rfl⟩:=ry
  cases x with
  | non=>cases rx; exact SeqAt.EqAt.str_none a t'
  | bl b=>cases rx; exact SeqAt.EqAt.str_bool a t' b
  | int b=>obtain ⟨t,rfl⟩:=rx; exact SeqAt.EqAt.str_int a t' b t
  | str b=>obtain ⟨t,rfl⟩:=rx; exact SeqAt.EqAt.str_str a t' b t
  | _=>exact absurd (show false=true from fx) Bool.false_ne_true
 | _=>exact absurd (show false=true from fy) Bool.false_ne_true
def eqU (x:V) (u:Value):Bool:=match u with
 | .none=>eqV .non x
 | .bool b=>eqV (.bl b) x
 | .int i _=>eqV (.int i) x
 | .str z _=>eqV (.str z) x
 | _=>false
theorem zra {x y:V} {u:Value} (r:RelV y u) (f:zjQ y=true):eqU x u=eqV y x:=by
 cases y with
 | non=>cases r; rfl
 | bl b=>cases r; rfl
 | int i=>obtain ⟨t,rfl⟩:=r; rfl
 | str z=>obtain ⟨t,rfl⟩:=r; rfl
 | _=>exact absurd (show false=true from f) Bool.false_ne_true
theorem zia {x:V}:∀ {xs:List V} {us:List Value},Vals xs us->xs.all zjQ=true->us.any (eqU x)=xs.any λ y=>eqV y x
 | _,_,.nil,_=>rfl
 | y::xs,u::us,.cons r t,f=>by
  rw [List.all_cons,Bool.and_eq_true] at f
  rw [List.any_cons,List.any_cons,zra r f.1,zia t f.2]
theorem zfF {A:Around} {s:Shared} {x:V} {v:Value} (rx:RelV x v) (fx:zjQ x=true):∀ {xs:List V} {us:List Value},Vals xs us->xs.all zjQ=true->∀ u∈us,SeqAt.EqAt A s u v (eqU x u)
 | _,_,.nil,_=>λ u hu=>by cases hu
 | y::xs,u::us,.cons r t,f=>λ u' hu=>by
  rw [List.all_cons,Bool.and_eq_true] at f
  rcases List.mem_cons.mp hu with rfl | hu
  . rw [zra r f.1]; exact zs9 r rx f.1 fx
  . exact zfF rx fx t f.2 u' hu
def inV (x:V) (xs:List V):Bool:=xs.any λ y=>eqV y x
def rIn (K:PySem.W.Frag) (neg:Bool):R2:=λ x y H Q=>∃ p xs,y=.ref p/\(SqL K H p xs\/SqT K H p xs)/\zjQ x=true/\xs.all zjQ=true/\Q (.bl (if neg then !inV x xs else inV x xs)) H
theorem zkF:OpR X (compareOp .In) (rIn X.K false):=by
 intro pins s σ H x y v u Q I rx ry h
 obtain ⟨p,xs,rfl,hq,fx,fs,q⟩:=h
 cases ry
 rcases hq with hq | hq
 . obtain ⟨its,r,pl,hz⟩:=I.list hq
   refine SeqAt.in_listAt (eqU x) pl.isList (λ w hw=>zfF rx fx r fs w (by simpa using hw)) ⟨.bl _,H,I,rfl,?_⟩
   rw [show its.toArray.any (eqU x)=its.any (eqU x) by simp,zia r fs]
   exact q
 . obtain ⟨its,r,pl,hz⟩:=I.tuple hq
   refine SeqAt.in_tupleAt (eqU x) pl (λ w hw=>zfF rx fx r fs w (by simpa using hw)) ⟨.bl _,H,I,rfl,?_⟩
   rw [show its.toArray.any (eqU x)=its.any (eqU x) by simp,zia r fs]
   exact q
theorem zgB:OpR X (compareOp .NotIn) (rIn X.K true):=by
 intro pins s σ H x y v u Q I rx ry h
 obtain ⟨p,xs,rfl,hq,fx,fs,q⟩:=h
 cases ry
 rcases hq with hq | hq
 . obtain ⟨its,r,pl,hz⟩:=I.list hq
   refine SeqAt.notIn_listAt (eqU x) pl.isList (λ w hw=>zfF rx fx r fs w (by simpa using hw)) ⟨.bl _,H,I,rfl,?_⟩
   rw [show its.toArray.any (eqU x)=its.any (eqU x) by simp,zia r fs]
   exact q
 . obtain ⟨its,r,pl,hz⟩:=I.tuple hq
   refine SeqAt.notIn_tupleAt (eqU x) pl (λ w hw=>zfF rx fx r fs w (by simpa using hw)) ⟨.bl _,H,I,rfl,?_⟩
   rw [show its.toArray.any (eqU x)=its.any (eqU x) by simp,zia r fs]
   exact q
theorem zbn:zfU X (.builtin "len") (λ xs H Q=>∃ p ys,xs=[.ref p]/\(SqL X.K H p ys\/SqT X.K H p ys)/\Q (.int ys.length) H):=by
 intro pins s σ H xs us Q I r h
 obtain ⟨p,ys,rfl,hq,q⟩:=h
 obtain ⟨u,rfl,rx⟩:=vals1 r
 cases rx
 have hn:=zkZ
 rcases hq with hq | hq
 . obtain ⟨its,r',pl,hz⟩:=I.list hq
   have hlen:=r'.length
   exact Calls.call_len_list pl.isList (by simp only [List.size_toArray] <;> omega) ⟨.int ys.length,H,I.tok _,⟨s.toks+1,by rw [List.size_toArray,hlen]⟩,q⟩
 . obtain ⟨its,r',pl,hz⟩:=I.tuple hq
   have hlen:=r'.length
   exact len_tuple pl (by simp only [List.size_toArray] <;> omega) ⟨.int ys.length,H,I.tok _,⟨s.toks+1,by rw [List.size_toArray,hlen]⟩,q⟩
theorem zcK:zfU X (.type "tuple") (λ xs H Q=>∃ p ys,xs=[.ref p]/\((SqL X.K H p ys/\∀ l,H l=none->Q (.ref l) (upd H l (.tup ys)))\/(SqT X.K H p ys/\Q (.ref p) H))):=by
 intro pins s σ H xs us Q I r h
 obtain ⟨p,ys,rfl,h⟩:=h
 obtain ⟨u,rfl,rx⟩:=vals1 r
 cases rx
 rcases h with ⟨hq,q⟩ | ⟨hq,q⟩
 . obtain ⟨its,r',pl,hz⟩:=I.list hq
   have hlen:=r'.length
   refine call_tuple_list pl.isList (λ h' kp=>?_) (by simp only [List.size_toArray] <;> omega)
   have I1:Inv X pins σ H { s with heap:=h' }:=I.kept (t':=s.toks) kp
   have I2:Inv X pins σ (upd H h'.objs.size (.tup ys)) { s with heap:=h'.push { cls:=.type "tuple",data:=.seq its.toArray } } :=
    I1.laid (t':=s.toks) (λ b o e=>Heap.get?_push_of_some _ e) (Nat.le_refl _) (show zbH X.prog X.w _ _ _ (.tup ys) from ⟨hz,its,r',IsTup.new _ _⟩)
   exact ⟨.ref h'.objs.size,_,I2,rfl,q _ (I1.hok.fresh (Nat.le_refl _))⟩
 . obtain ⟨its,r',pl,hz⟩:=I.tuple hq
   exact call_tuple_same pl ⟨.ref p,H,I,rfl,q⟩
def tyV (K:PySem.W.Frag) (T:String) (x:V) (H:Hp):Prop:=match x with
 | .str _=>T = "str"
 | .int _=>T = "int"
 | .ref p=>(T = "list" /\ ∃ xs,SqL K H p xs)\/(T = "tuple" /\ ∃ o,K.lookup p=some o/\o.cls=.type "tuple" /\ o.dict=none) \/
  (T = "dict" /\ ((∃ kvs,H p=some (.dK kvs))\/∃ kvs,H p=some (.dT kvs)))\/(T = "set" /\ ∃ S n,H p=some (.set S n))
 | _=>False
theorem zqR {pins:List (Addr×Obj)} {σ:St} {H:Hp} {s:Shared} {T:String} {x:V} {v:Value} (I:Inv X pins σ H s) (r:RelV x v) (ty:tyV X.K T x H) :
  s.TypeIs v T/\∀ a,v=.ref a->∃ ob,s.heap.get? a=some ob/\ob.dict=none:=by
 cases x with
 | str z =>
  obtain ⟨t,rfl⟩:=r
  cases (show T = "str" from ty)
  exact ⟨typeIs_str s z t,λ _ e=>nomatch e⟩
 | int i =>
  obtain ⟨t,rfl⟩:=r
  cases (show T = "int" from ty)
  exact ⟨typeIs_int s i t,λ _ e=>nomatch e⟩
 | ref p =>
  cases r
  rcases ty with ⟨rfl,xs,hq⟩ | ⟨rfl,o,hk,hc,hd⟩ | ⟨rfl,hk⟩ | ⟨rfl,S,n,hk⟩
  . obtain ⟨its,_,pl,_⟩:=I.list hq
    refine ⟨pl.isList.typeIs,λ a e=>?_⟩
    cases e
    obtain ⟨o,n,e,c,hd,_⟩:=pl
    exact ⟨o,e,hd⟩
  . refine ⟨⟨o,I.kIn p o hk,hc⟩,λ a e=>?_⟩
    cases e
    exact ⟨o,I.kIn _ o hk,hd⟩
  . have z:∃ o,s.heap.get? p=some o/\o.ExactDict:=by
     rcases hk with ⟨kvs,hk⟩ | ⟨kvs,hk⟩
     . obtain ⟨_,_,_,_,o,_,_,e,ex,_⟩:=I.hok p _ hk
       exact ⟨o,e,ex⟩
     . obtain ⟨_,_,_,_,o,_,_,e,ex,_⟩:=I.hok p _ hk
       exact ⟨o,e,ex⟩
    obtain ⟨o,e,ex⟩:=z
    refine ⟨⟨o,e,ex.1⟩,λ a e2=>?_⟩
    cases e2
    exact ⟨o,e,ex.2.1⟩
  . obtain ⟨o,_,_,_,e,ex,_⟩:=I.hok p _ hk
    refine ⟨⟨o,e,ex.1⟩,λ a e2=>?_⟩
    cases e2
    exact ⟨o,e,ex.2.1⟩
 | _=>exact False.elim ty
def tBM0 (K:PySem.W.Frag) (T:String) (r:V->List V->Hp->VK->Prop) (to:TE):TE:=λ σ H Q=>to σ H λ x H1=>tyV K T x H1/\r x [] H1 Q
def tBM (K:PySem.W.Frag) (T:String) (r:V->List V->Hp->VK->Prop) (to:TE) (t:TA):TE:=λ σ H Q=>to σ H λ x H1=>tyV K T x H1/\t σ H1 λ xs H2=>r x xs H2 Q
variable {o e:Expr} {es:List Expr} {to:TE} {t:TA} {name:Str} {apos cpos:Pos} {T id:String} {r:V->List V->Hp->VK->Prop}
theorem zm0 (pa:PlainAttrs T) (slot:Slot T name id) (hty:typeOf (.builtin id)=pure (.type "method_descriptor")) (hm:MtR X id r) (ho:PE X o to)
  (hbase:attributeBase o name X.env (eval o X.env)=eval o X.env:=by rfl) (hline:(apos.endLine == cpos.line)=true:=by rfl):PE X (.Call (.Attribute o name apos) [] [] cpos) (tBM0 X.K T r to):=by
 intro pins s σ H Q I h
 refine wpAny_Call_method0_late hbase hline (thn (ho pins s σ H _ I h) λ v s1 ⟨x,H1,I1,r1,ty,q1⟩=>?_)
 obtain ⟨h1,h2⟩:=zqR I1 r1 ty
 exact ⟨T,id,pa,slot,hty,h1,h2,Calls.callWith_builtin rfl (PySem.evalArgs_none (hm pins s1 σ H1 x [] v [] Q I1 r1 .nil q1))⟩
theorem zeo (pa:PlainAttrs T) (slot:Slot T name id) (hty:typeOf (.builtin id)=pure (.type "method_descriptor")) (hm:MtR X id r) (ho:PE X o to) (ha:PA X (e::es) t)
  (hbase:attributeBase o name X.env (eval o X.env)=eval o X.env:=by rfl)
  (hfew:((backTo cpos (starEach (e::es) X.env)).all (λ x=>!x.1) && (backToKw cpos (keywordEach [] X.env)).all (λ x=>x.1.isSome)
   && decide ((e::es).length+([]:List Keyword).length+(if ([]:List Keyword).isEmpty then 0 else 1) < 30))=true:=by rfl)
  (hline:(apos.endLine == cpos.line)=true:=by rfl) (hs:starEach (e::es) X.env=(false,eval e X.env)::starEach es X.env:=by rfl) (hplain:(backTo cpos (starEach es X.env)).any (·.1)=false:=by rfl) :
  PE X (.Call (.Attribute o name apos) (e::es) [] cpos) (tBM X.K T r to t):=by
 intro pins s σ H Q I h
 refine wpAny_Call_method_late hbase hfew hline rfl (thn (ho pins s σ H _ I h) λ v s1 ⟨x,H1,I1,r1,ty,q1⟩=>?_)
 obtain ⟨h1,h2⟩:=zqR I1 r1 ty
 refine ⟨T,id,pa,slot,hty,h1,h2,?_⟩
 have hA:=ha cpos pins s1 σ H1 _ I1 q1
 rw [hs] at hA ⊢
 refine Calls.callWith_builtin (by show (false || (backTo cpos (starEach es X.env)).any (·.1))=false; rw [hplain] <;> rfl) (Calls.evalArgs_plain ?_)
 exact thn hA λ us s2 ⟨vs,H2,I2,r2,q2⟩=>hm pins s2 σ H2 x vs v us Q I2 r1 r2 q2
end
end L2
namespace L2
open PySem PySem.Spec PyProof.Rows
def MtM (X:Cx) (id:String) (r:V->List V->Hp->VK->Prop):Prop :=
 ∀ (pins:List (Addr×Obj)) (s:Shared) (σ:St) (H:Hp) (x:V) (xs:List V) (v:Value) (us:List Value) (Q:VK),Inv X pins σ H s->RelV x v->Vals xs us->r x xs H Q ->
  wpAny (model X.prog X.w) X.A (call (.builtin id) (v::us)) (EP X pins σ Q) X.xe s
theorem Vals.one:∀ {x:V} {us:List Value},Vals [x] us->∃ u,us=[u]/\RelV x u
 | _,_,.cons r .nil=>⟨_,rfl,r⟩
theorem Vals.two:∀ {x y:V} {us:List Value},Vals [x,y] us->∃ u v,us=[u,v]/\RelV x u/\RelV y v
 | _,_,_,.cons r (.cons q .nil)=>⟨_,_,rfl,r,q⟩
theorem Vals.zero:∀ {us:List Value},Vals [] us->us=[]
 | _,.nil=>rfl
theorem Vals.dropLast {xs:List V} {us:List Value} (h:Vals xs us):Vals xs.dropLast us.dropLast:=by
 induction h with
 | nil=>exact .nil
 | cons r t ih =>
  cases t with
  | nil=>exact .nil
  | cons q t'=>exact .cons r ih
theorem Vals.eraseIdx:∀ {xs:List V} {us:List Value} (i:Nat),Vals xs us->Vals (xs.eraseIdx i) (us.eraseIdx i)
 | _,_,_,.nil=>.nil
 | _,_,0,.cons _ t=>t
 | _,_,i+1,.cons r t=>.cons r (Vals.eraseIdx i t)
theorem zn7 {α:Type} (l:List α):l.eraseIdx (l.length - 1)=l.dropLast:=by
 induction l with
 | nil=>rfl
 | cons a r ih =>
  cases r with
  | nil=>rfl
  | cons b r =>
   have e:(a::b::r).length - 1=((b::r).length - 1)+1:=by
    have h1:(a::b::r).length=r.length+2:=rfl
    have h2:(b::r).length=r.length+1:=rfl
    omega
   rw [e,List.eraseIdx_cons_succ,ih]
   all_goals rfl
theorem zk1 {α:Type}:∀ (l:List α) (i:Nat),(l.eraseIdx i).length<=l.length
 | [],_=>Nat.le_refl _
 | _::_,0=>Nat.le_succ _
 | _::r,i+1=>Nat.succ_le_succ (zk1 r i)
section
variable {X:Cx} {pins:List (Addr×Obj)} {σ:St} {H:Hp} {s:Shared} {l b:Addr} {xs ys zs:List V}
theorem Inv.lset {its its':List Value} {n:Nat} {f:Array Value->Array Value} {t':Nat} (I:Inv X pins σ H s) (hH:H l=some (.lst xs))
  (e:s.heap.get? l=some { cls:=.type "list",data:=.seq its.toArray n }) (hf:f its.toArray=its'.toArray) (hv:Vals ys its') (hz:ys.length<=sizeLine) :
  Inv X pins σ (upd H l (.lst ys)) { s with heap:=s.heap.update l (Obj.mapSeq f),toks:=t' }:=by
 have q:=PySem.IsL.update e f
 rw [hf] at q
 refine I.write (x:=l) (e:=l) (by rw [hH]; exact trivial) (.inl rfl) (λ b' u hb hu=>(Heap.get?_update_other s.heap (Obj.mapSeq f) (Ne.symm hb)).trans hu) ⟨_,q⟩ ?_
 exact ⟨hz,its',_,hv,q⟩
theorem Inv.lnew {its:List Value} {t':Nat} (I:Inv X pins σ H s) (hv:Vals ys its) (hz:ys.length<=sizeLine) :
  Inv X pins σ (upd H s.heap.objs.size (.lst ys)) { s with heap:=s.heap.push { cls:=.type "list",data:=.seq its.toArray },toks:=t' } :=
 I.laid (λ _ _ q=>Heap.get?_push_of_some _ q) (Nat.le_refl _) ⟨hz,its,0,hv,Heap.get?_push_size _ rfl⟩
theorem Inv.fresh (I:Inv X pins σ H s):H s.heap.objs.size=none:=I.hok.fresh (Nat.le_refl _)
theorem Inv.lstM (I:Inv X pins σ H s) (hH:H l=some (.lst xs)):xs.length<=sizeLine/\∃ (its:List Value) (n:Nat),Vals xs its/\xs.length=its.length/\s.heap.get? l=some { cls:=.type "list",data:=.seq its.toArray n }:=by
 obtain ⟨z,its,n,r,e⟩:=I.hok l _ hH
 exact ⟨z,its,n,r,r.length,e⟩
end
section
variable {X:Cx}
def zrG:V->List V->Hp->VK->Prop:=λ x vs H Q=>∃ l xs y,x=.ref l/\vs=[y]/\H l=some (.lst xs)/\xs.length < sizeLine/\Q .non (upd H l (.lst (xs++[y])))
theorem zbx:MtM X "list.append" zrG:=by
 intro pins s σ H x vs v us Q I rx rv h
 obtain ⟨l,xs,y,rfl,rfl,hH,hz,q⟩:=h
 cases rx
 obtain ⟨u,rfl,ru⟩:=rv.one
 obtain ⟨z,its,n,r,hl,e⟩:=I.lstM hH
 refine call_meets F.slot_list_append ⟨_,e,rfl⟩ F.entry_list_append (F.args_list_append_2 _ _) (PySem.list_append l its.toArray n u (by rw [List.size_toArray]; omega)) ⟨e,?_⟩
 refine ⟨.non,_,I.lset (its':=its++[u]) hH e (by simp) (r.append (.cons ru .nil)) ?_,rfl,q⟩
 rw [List.length_append,List.length_singleton]
 omega
def rPop:V->List V->Hp->VK->Prop:=λ x vs H Q=>∃ l xs y,x=.ref l/\vs=[]/\H l=some (.lst xs)/\xs[xs.length - 1]?=some y/\Q y (upd H l (.lst xs.dropLast))
theorem zq0:MtM X "list.pop" rPop:=by
 intro pins s σ H x vs v us Q I rx rv h
 obtain ⟨l,xs,y,rfl,rfl,hH,hy,q⟩:=h
 cases rx
 have hus:=rv.zero
 subst hus
 obtain ⟨z,its,n,r,hl,e⟩:=I.lstM hH
 obtain ⟨u,hu,ru⟩:=r.get hy
 have hy':its.toArray[its.toArray.size - 1]?=some u:=by
   show its.toArray[its.length - 1]?=some u
   rw [<-Array.getElem?_toList,<-hl]
   exact hu
 refine call_meets F.slot_list_pop ⟨_,e,rfl⟩ F.entry_list_pop (F.args_list_pop_1 _) (MeetsSeq.list_pop_last l its.toArray n u hy' (by rw [List.size_toArray]; omega)) ⟨e,?_⟩
 refine ⟨y,_,I.lset (its':=its.dropLast) hH e ?_ r.dropLast ?_,ru,q⟩
 . show its.toArray.eraseIdxIfInBounds (its.toArray.size - 1)=its.dropLast.toArray
   rw [List.size_toArray,List.eraseIdxIfInBounds_toArray,zn7]
 . rw [List.length_dropLast]
   omega
def zsJ:V->List V->Hp->VK->Prop:=λ x vs H Q=>∃ l xs i k y,x=.ref l/\vs=[.int i]/\H l=some (.lst xs)/\-(2 ^ 63)<=i/\i < 2 ^ 63/\seqIndex? i xs.length=some k/\xs[k]?=some y/\Q y (upd H l (.lst (xs.eraseIdx k)))
theorem zqo:MtM X "list.pop" zsJ:=by
 intro pins s σ H x vs v us Q I rx rv h
 obtain ⟨l,xs,i,k,y,rfl,rfl,hH,h1,h2,hk,hy,q⟩:=h
 cases rx
 obtain ⟨u,rfl,ru⟩:=rv.one
 obtain ⟨t,rfl⟩:=ru
 obtain ⟨z,its,n,r,hl,e⟩:=I.lstM hH
 obtain ⟨w,hw,rw'⟩:=r.get hy
 refine call_meets F.slot_list_pop ⟨_,e,rfl⟩ F.entry_list_pop (F.args_list_pop_2 _ _)
   (MeetsSeq.list_pop_at l its.toArray n i t k w (fitsIndex_both h1 h2) (by rw [List.size_toArray,<-hl]; exact hk) (by rw [<-Array.getElem?_toList]; exact hw) (by rw [List.size_toArray]; omega)) ⟨e,?_⟩
 refine ⟨y,_,I.lset (its':=its.eraseIdx k) hH e ?_ (r.eraseIdx k) ?_,rw',q⟩
 . show its.toArray.eraseIdxIfInBounds k=(its.eraseIdx k).toArray
   rw [List.eraseIdxIfInBounds_toArray]
 . have:=zk1 xs k
   omega
def rCat:R2:=λ x y H Q=>∃ l b xs zs,x=.ref l/\y=.ref b/\H l=some (.lst xs)/\H b=some (.lst zs)/\xs.length+zs.length<=sizeLine/\∀ p,H p=none->Q (.ref p) (upd H p (.lst (xs++zs)))
theorem zsW:OpR X (binaryOp .Add) rCat:=by
 intro pins s σ H x y v u Q I rx ry h
 obtain ⟨l,b,xs,zs,rfl,rfl,hH,hB,hz,q⟩:=h
 cases rx
 cases ry
 obtain ⟨z,its,n,r,hl,e⟩:=I.lstM hH
 obtain ⟨z2,its2,n2,r2,hl2,e2⟩:=I.lstM hB
 refine PySem.P.add_list e e2 ?_ (by rw [List.size_toArray,List.size_toArray]; omega)
 have ea:its.toArray++its2.toArray=(its++its2).toArray:=by simp
 rw [ea]
 exact ⟨.ref _,_,I.lnew (t':=s.toks) (r.append r2) (by rw [List.length_append]; omega),rfl,q _ I.fresh⟩
end
section
variable {prog:Program} {w:World} {A:Around} {E:Value->Shared->Prop} {s:Shared}
set_option maxRecDepth 100000 in
end
section
variable {X:Cx}
end
end L2
namespace L2
open PySem PySem.Spec PyProof.Rows
section
variable {κ:Type} [DecidableEq κ]
def valV (kvs:List (κ×V)) (k:κ):Option V:=(kvs.find? λ kv=>decide (kv.1=k)).map (·.2)
def putK (kvs:List (κ×V)) (k:κ) (v:V):List (κ×V) :=
 if (kvs.any λ kv=>decide (kv.1=k))=true then kvs.map (λ kv=>if kv.1=k then (kv.1,v) else kv) else kvs++[(k,v)]
def zit (kvs:List (κ×V)) (k:κ):List (κ×V):=kvs.filter λ kv=>decide (kv.1≠k)
theorem zeA {p:κ×V} {r:List (κ×V)} {k:κ} (e:p.1=k):valV (p::r) k=some p.2:=by simp [valV,List.find?_cons,e]
theorem zeB {p:κ×V} {r:List (κ×V)} {k:κ} (e:¬ p.1=k):valV (p::r) k=valV r k:=by simp [valV,List.find?_cons,e]
theorem zjc (k:κ):∀ kvs:List (κ×V),(kvs.any λ kv=>decide (kv.1=k))=(valV kvs k).isSome
 | []=>rfl
 | p::r=>by
  rw [List.any_cons]
  by_cases e:p.1=k
  . simp only [zeA e,decide_eq_true e,Bool.true_or,Option.isSome_some]
  . rw [zeB e,decide_eq_false e,Bool.false_or]; exact zjc k r
theorem zfn (kvs:List (κ×V)) (k:κ) (v:V):(putK kvs k v).length<=kvs.length+1:=by
 unfold putK
 split
 . rw [List.length_map]; omega
 . rw [List.length_append,List.length_cons,List.length_nil]; omega
theorem zmW {kvs:List (κ×V)} {k:κ} (v:V) (h:valV kvs k=none):putK kvs k v=kvs++[(k,v)]:=by
 unfold putK
 rw [zjc,h]
 exact if_neg (by decide)
theorem RelO.zdv {o:Option V} {u:Option Value} (r:RelO o u):o.isSome=u.isSome:=by
 cases o with
 | none=>cases u with
  | none=>rfl
  | some _=>exact (show False from r).elim
 | some _=>cases u with
  | none=>exact (show False from r).elim
  | some _=>rfl
theorem RelO.getD {o:Option V} {u:Option Value} {d:V} {d':Value} (r:RelO o u) (rd:RelV d d'):RelV (o.getD d) (u.getD d'):=by
 cases o with
 | none=>cases u with
  | none=>exact rd
  | some _=>exact (show False from r).elim
 | some _=>cases u with
  | none=>exact (show False from r).elim
  | some _=>exact r
theorem KV.val {kvs:List (κ×V)} {vs:List (κ×Value)} (r:KV kvs vs) (k:κ):RelO (valV kvs k) (valueAt vs k):=by
 unfold KV at r
 induction r with
 | nil=>exact True.intro
 | @cons p q ps qs h t ih =>
  obtain ⟨h1,h2⟩:=h
  by_cases e:p.1=k
  . have e':q.1=k:=h1.symm.trans e
    have b:valueAt (q::qs) k=some q.2:=by simp [valueAt,List.find?_cons,e']
    rw [zeA e,b]; exact h2
  . have e':¬ q.1=k:=λ z=>e (h1.trans z)
    have b:valueAt (q::qs) k=valueAt qs k:=by simp [valueAt,List.find?_cons,e']
    rw [zeB e,b]; exact ih
theorem KV.any {kvs:List (κ×V)} {vs:List (κ×Value)} (r:KV kvs vs) (k:κ):(kvs.any λ kv=>decide (kv.1=k))=vs.any λ kv=>decide (kv.1=k):=by
 unfold KV at r
 induction r with
 | nil=>rfl
 | cons h t ih=>rw [List.any_cons,List.any_cons,ih,h.1]
theorem KV.repl {kvs:List (κ×V)} {vs:List (κ×Value)} (r:KV kvs vs) (k:κ) {y:V} {u:Value} (ry:RelV y u) :
  KV (kvs.map λ kv=>if kv.1=k then (kv.1,y) else kv) (vs.map λ kv=>if kv.1=k then (kv.1,u) else kv):=by
 unfold KV at r ⊢
 induction r with
 | nil=>exact .nil
 | @cons p q ps qs h t ih =>
  rw [List.map_cons,List.map_cons]
  refine .cons ?_ ih
  obtain ⟨h1,h2⟩:=h
  by_cases e:p.1=k
  . rw [if_pos e,if_pos (h1.symm.trans e)]; exact ⟨h1,ry⟩
  . rw [if_neg e,if_neg (λ z=>e (h1.trans z))]; exact ⟨h1,h2⟩
theorem KV.put {kvs:List (κ×V)} {vs:List (κ×Value)} (r:KV kvs vs) (k:κ) {y:V} {u:Value} (ry:RelV y u):KV (putK kvs k y) (stored vs k u):=by
 unfold putK stored
 rw [r.any k]
 by_cases e:(vs.any λ kv=>decide (kv.1=k))=true
 . rw [if_pos e,if_pos e]; exact r.repl k ry
 . rw [if_neg e,if_neg e]; exact Paired.snoc r ⟨rfl,ry⟩
theorem KV.drop {kvs:List (κ×V)} {vs:List (κ×Value)} (r:KV kvs vs) (k:κ):KV (zit kvs k) (without vs k):=by
 unfold KV at r ⊢
 unfold zit without
 induction r with
 | nil=>exact .nil
 | @cons p q ps qs h t ih =>
  obtain ⟨h1,h2⟩:=h
  rw [List.filter_cons,List.filter_cons]
  by_cases e:p.1=k
  . have a:¬ decide (p.1≠k)=true:=by simp [e]
    have b:¬ decide (q.1≠k)=true:=by simp [h1.symm.trans e]
    rw [if_neg a,if_neg b]; exact ih
  . have e':¬ q.1=k:=λ z=>e (h1.trans z)
    have a:decide (p.1≠k)=true:=by simp [e]
    have b:decide (q.1≠k)=true:=by simp [e']
    rw [if_pos a,if_pos b]; exact .cons ⟨h1,h2⟩ ih
theorem KV.keys {kvs:List (κ×V)} {vs:List (κ×Value)} (r:KV kvs vs):kvs.map (·.1)=vs.map (·.1):=by
 unfold KV at r
 induction r with
 | nil=>rfl
 | cons h t ih=>rw [List.map_cons,List.map_cons,ih,h.1]
theorem KV.length {kvs:List (κ×V)} {vs:List (κ×Value)} (r:KV kvs vs):kvs.length=vs.length:=Paired.length r
theorem zng (kvs:List (κ×V)) (k:κ):(zit kvs k).length<=kvs.length:=List.length_filter_le _ _
end
theorem zgi {P:Program} {w:World} {k:Key} {u:Value} (r:RelV (kV k) u):(zaC P w).is k u=true:=by
 cases k with
 | inl i=>obtain ⟨t,e⟩:=(show ∃ t,u=Value.int i t from r); subst e; exact zfl P w i t
 | inr x=>obtain ⟨t,e⟩:=(show ∃ t,u=Value.str x t from r); subst e; exact zfk P w x t
theorem zk6 {P:Program} {w:World}:∀ {ks:List Key} {us:List Value},Vals (ks.map kV) us->ItemsAre (zaC P w) ks us
 | [],_,r=>by rw [List.map_nil] at r; cases r; exact .nil
 | k::ks,_,r=>by
  rw [List.map_cons] at r
  cases r with
  | cons h t=>exact .cons (zgi h) (zk6 t)
abbrev KT (H:Hp):List (List Key×V)->List (List Key×Addr×Value)->Prop:=Paired λ p q=>p.1=q.1/\H q.2.1=some (.tup (p.1.map kV))/\RelV p.2 q.2.2
theorem KT.val {H:Hp} {kvs:List (List Key×V)} {xs:List (List Key×Addr×Value)} (r:KT H kvs xs) (k:List Key):RelO (valV kvs k) ((atKey xs k).map (·.2)):=by
 induction r with
 | nil=>exact True.intro
 | @cons p q ps qs h t ih =>
  obtain ⟨h1,_,h2⟩:=h
  by_cases e:p.1=k
  . have e':q.1=k:=h1.symm.trans e
    have b:atKey (q::qs) k=some q.2:=by simp [atKey,List.find?_cons,e']
    rw [zeA e,b]; exact h2
  . have e':¬ q.1=k:=λ z=>e (h1.trans z)
    have b:atKey (q::qs) k=atKey qs k:=by simp [atKey,List.find?_cons,e']
    rw [zeB e,b]; exact ih
theorem KT.repl {H:Hp} {kvs:List (List Key×V)} {xs:List (List Key×Addr×Value)} (r:KT H kvs xs) (k:List Key) {y:V} {u:Value} (ry:RelV y u) :
  KT H (kvs.map λ kv=>if kv.1=k then (kv.1,y) else kv) (xs.map (putAt k u)):=by
 induction r with
 | nil=>exact .nil
 | @cons p q ps qs h t ih =>
  rw [List.map_cons,List.map_cons]
  refine .cons ?_ ih
  obtain ⟨h1,h2,h3⟩:=h
  unfold putAt
  by_cases e:p.1=k
  . rw [if_pos e,if_pos (h1.symm.trans e)]; exact ⟨h1,h2,ry⟩
  . rw [if_neg e,if_neg (λ z=>e (h1.trans z))]; exact ⟨h1,h2,h3⟩
theorem KT.put {H:Hp} {kvs:List (List Key×V)} {xs:List (List Key×Addr×Value)} (r:KT H kvs xs) (k:List Key) {b:Addr} {y:V} {u:Value} (hb:H b=some (.tup (k.map kV))) (ry:RelV y u) :
   KT H (putK kvs k y) (storedH xs k b u):=by
 have e:(kvs.any λ kv=>decide (kv.1=k))=(atKey xs k).isSome:=by
   rw [zjc,(r.val k).zdv,Option.isSome_map]
 unfold putK storedH
 rw [e]
 by_cases q:(atKey xs k).isSome=true
 . rw [if_pos q,if_pos q]; exact r.repl k ry
 . rw [if_neg q,if_neg q]; exact Paired.snoc r ⟨rfl,hb,ry⟩
theorem KT.keeps {H H':Hp} {kvs:List (List Key×V)} {xs:List (List Key×Addr×Value)} (r:KT H kvs xs) (ht:∀ b ys,H b=some (.tup ys)->H' b=some (.tup ys)):KT H' kvs xs :=
 Paired.mapP r λ _ _ z=>⟨z.1,ht _ _ z.2.1,z.2.2⟩
section
variable {P:Program} {w:World} {H:Hp} {h:Heap} {a:Addr}
theorem zsI {u:HO} (ok:HOk P w H h) (e:Rd H a u):zbH P w H h a u:=e.ok ok
theorem zjR {kvs:List (Key×V)} (ok:HOk P w H h) (e:Rd H a (.dK kvs)):kvs.length<=sizeLine/\(a == sysModules)=false/\∃ vs,KV kvs vs/\h.DictOf (zaC P w) a vs :=
 show zbH P w H h a (.dK kvs) from zsI ok e
theorem zgQ {kvs:List (Key×V)} (ok:HOk P w H h) (e:H a=some (.dK kvs)):kvs.length<=sizeLine/\(a == sysModules)=false/\∃ vs,KV kvs vs/\h.DictOf (zaC P w) a vs:=zjR ok (.inl e)
theorem zhM {ks:List Key} (ok:HOk P w H h) (e:H a=some (.tup (ks.map kV))):(tupleKind (zaC P w)).is h ks a:=by
 obtain ⟨_,its,r,o,h1,h2,n,h3⟩:=(show zbH P w H h a (.tup (ks.map kV)) from ok a _ e)
 exact ⟨o,its.toArray,n,h1,h2,h3,by simpa using zk6 r⟩
theorem zlc {kvs:List (List Key×V)} (ok:HOk P w H h) (e:Rd H a (.dT kvs)):kvs.length<=sizeLine/\(a == sysModules)=false /\
  ∃ xs,KT H kvs xs/\h.DictOfH (tupleKind (zaC P w)) a xs:=by
 obtain ⟨z,y,xs,r,o,es,ep,h1,h2,h3,h4,h5⟩:=(show zbH P w H h a (.dT kvs) from zsI ok e)
 refine ⟨z,y,xs,r,o,es,ep,h1,h2,h3,h4,λ x hx=>?_,h5⟩
 have all:∀ {l:List (List Key×V)} {m:List (List Key×Addr×Value)},KT H l m->∀ x∈m,(tupleKind (zaC P w)).is h x.1 x.2.1:=by
  intro l m q
  induction q with
  | nil=>intro x hx; exact nomatch hx
  | @cons p q ps qs hq t ih =>
   intro x hx
   rcases List.mem_cons.mp hx with e | hx
   . subst e
     exact zhM ok (by rw [<-hq.1]; exact hq.2.1)
   . exact ih x hx
 exact all r x hx
theorem ztR {kvs:List (List Key×V)} (ok:HOk P w H h) (e:H a=some (.dT kvs)):kvs.length<=sizeLine/\(a == sysModules)=false /\
 ∃ xs,KT H kvs xs/\h.DictOfH (tupleKind (zaC P w)) a xs:=zlc ok (.inl e)
end
def DGet (H:Hp) (a:Addr) (y:V) (r:Option V):Prop :=
 (∃ kvs k,Rd H a (.dK kvs)/\y=kV k/\r=valV kvs k)\/∃ kvs k b,Rd H a (.dT kvs)/\y=.ref b/\H b=some (.tup (k.map kV))/\r=valV kvs k
def DPut (H:Hp) (a:Addr) (y v:V) (H':Hp):Prop :=
 (∃ kvs k,H a=some (.dK kvs)/\y=kV k/\kvs.length < sizeLine/\H'=upd H a (.dK (putK kvs k v))) \/
 ∃ kvs k b,H a=some (.dT kvs)/\y=.ref b/\H b=some (.tup (k.map kV))/\kvs.length < sizeLine/\H'=upd H a (.dT (putK kvs k v))
theorem DGet.k {H:Hp} {a:Addr} {kvs:List (Key×V)} {k:Key} (e:H a=some (.dK kvs)):DGet H a (kV k) (valV kvs k):=.inl ⟨kvs,k,.inl e,rfl,rfl⟩
theorem DPut.k {H:Hp} {a:Addr} {kvs:List (Key×V)} {k:Key} {v:V} (e:H a=some (.dK kvs)) (hl:kvs.length < sizeLine):DPut H a (kV k) v (upd H a (.dK (putK kvs k v))):=.inl ⟨kvs,k,e,rfl,hl,rfl⟩
section
variable {X:Cx} {pins:List (Addr×Obj)} {σ:St} {H:Hp} {s:Shared} {a:Addr} {y v:V} {u r:Value} {o:Option V} {A:Around} {E:Value->Shared->Prop}
theorem Inv.big (I:Inv X pins σ H s):sysModules < s.heap.objs.size:=by
 have h:mainGlobals < s.heap.objs.size:=(I.mod.glob.keeps I.bk).lt
 exact Nat.lt_trans (by decide) h
theorem zpP {Q:Value->Shared->Prop} (hu:A.units+1 < cLine) (I:Inv X pins σ H s) (g:DGet H a y (some v)) (ry:RelV y u) (h:∀ w' s',Inv X pins σ H s'->RelV v w'->Q w' s') :
   wpAny (model X.prog X.w) A (getItem (.ref a) u) Q E s:=by
 rcases g with ⟨kvs,k,e,ey,l⟩ | ⟨kvs,k,b,e,ey,eb,l⟩
 . subst ey
   obtain ⟨z,hd,vs,rel,dd⟩:=zjR I.hok e
   obtain ⟨w',hw,rw'⟩:=RelO.some_of (v:=v) (o:=valueAt vs k) (by rw [l]; exact rel.val k)
   exact wpAny_getItem_of (zgi ry) dd.mapOf hw (h w' _ (I.tok _) rw')
 . subst ey
   cases (show u=Value.ref b from ry)
   obtain ⟨z,hd,xs,rel,dd⟩:=zlc I.hok e
   obtain ⟨w',hw,rw'⟩:=RelO.some_of (v:=v) (o:=(atKey xs k).map (·.2)) (by rw [l]; exact rel.val k)
   obtain ⟨p,hp,hp2⟩:=Option.map_eq_some_iff.mp hw
   refine wpAny_getItem_heap (tupleKind_room_in1 hu) (zhM I.hok eb) dd hp ?_
   rw [hp2]
   exact h w' _ (I.tok _) rw'
theorem d_in {Q:Value->Shared->Prop} (hu:A.units+1 < cLine) (I:Inv X pins σ H s) (g:DGet H a y o) (ry:RelV y u) (h:∀ s',Inv X pins σ H s'->Q (.bool o.isSome) s') :
   wpAny (model X.prog X.w) A (compareOp .In u (.ref a)) Q E s:=by
 rcases g with ⟨kvs,k,e,ey,l⟩ | ⟨kvs,k,b,e,ey,eb,l⟩
 . subst ey
   obtain ⟨z,hd,vs,rel,dd⟩:=zjR I.hok e
   refine wpAny_in_of (zgi ry) hd dd.mapOf ?_
   rw [<-(rel.val k).zdv,<-l]
   exact h _ (I.tok _)
 . subst ey
   cases (show u=Value.ref b from ry)
   obtain ⟨z,hd,xs,rel,dd⟩:=zlc I.hok e
   refine wpAny_in_heap (tupleKind_room_in1 hu) (zhM I.hok eb) hd dd ?_
   have q:=(rel.val k).zdv
   rw [Option.isSome_map] at q
   rw [<-q,<-l]
   exact h _ (I.tok _)
theorem zr7 {Q:Value->Shared->Prop} (hu:A.units+1 < cLine) (I:Inv X pins σ H s) (g:DGet H a y o) (ry:RelV y u) (h:∀ s',Inv X pins σ H s'->Q (.bool (!o.isSome)) s') :
   wpAny (model X.prog X.w) A (compareOp .NotIn u (.ref a)) Q E s:=by
 rcases g with ⟨kvs,k,e,ey,l⟩ | ⟨kvs,k,b,e,ey,eb,l⟩
 . subst ey
   obtain ⟨z,hd,vs,rel,dd⟩:=zjR I.hok e
   refine wpAny_notIn_of (zgi ry) hd dd.mapOf ?_
   rw [<-(rel.val k).zdv,<-l]
   exact h _ (I.tok _)
 . subst ey
   cases (show u=Value.ref b from ry)
   obtain ⟨z,hd,xs,rel,dd⟩:=zlc I.hok e
   refine wpAny_notIn_heap (tupleKind_room_in1 hu) (zhM I.hok eb) hd dd ?_
   have q:=(rel.val k).zdv
   rw [Option.isSome_map] at q
   rw [<-q,<-l]
   exact h _ (I.tok _)
theorem zhX {h':Heap} {t':Nat} {ob:HO} (I:Inv X pins σ H s) (mu:Mut (H a)) (hs:Heap.SameBut a s.heap h') (he:∃ q,h'.get? a=some q) (new:zbH X.prog X.w (upd H a ob) h' a ob) :
  Inv X pins σ (upd H a ob) { s with heap:=h',toks:=t' } :=
 I.write (x:=a) (e:=a) mu (.inl rfl) (λ b q hb z=>(hs.2 b hb).trans z) he new
theorem znh {P:Program} {w:World} {H':Hp} {h':Heap} {kvs:List (Key×V)} {vs:List (Key×Value)} (z:kvs.length<=sizeLine) (hd:(a == sysModules)=false) (rel:KV kvs vs) (dd:h'.DictOf (zaC P w) a vs) :
 zbH P w H' h' a (.dK kvs):=⟨z,hd,vs,rel,dd⟩
theorem zpO {H':Hp} {Q:Unit->Shared->Prop} (hu:A.units+1 < cLine) (I:Inv X pins σ H s) (g:DPut H a y v H') (ry:RelV y u) (rv:RelV v r) (h:∀ s',Inv X pins σ H' s'->Q () s') :
   wpAny (model X.prog X.w) A (setItem (.ref a) u r) Q E s:=by
 rcases g with ⟨kvs,k,e,ey,l,eH⟩ | ⟨kvs,k,b,e,ey,eb,l,eH⟩
 . subst ey eH
   obtain ⟨z,hd,vs,rel,dd⟩:=zgQ I.hok e
   have hz:vs.length<=sizeLine:=by rw [<-rel.length]; exact z
   have hl:(putK kvs k v).length<=sizeLine:=by have:=zfn kvs k v; omega
   refine wpAny_setItem_pairs (hsz:=hz) (zgi ry) dd λ h' dd' hs=>h _ ?_
   have he:∃ q,h'.get? a=some q:=let ⟨q,_,_,hq,_⟩:=dd'; ⟨q,hq⟩
   exact zhX I (by rw [e]; exact True.intro) hs he (znh hl hd (rel.put k rv) dd')
 . subst ey eH
   cases (show u=Value.ref b from ry)
   obtain ⟨z,hd,xs,rel,dd⟩:=ztR I.hok e
   have hz:xs.length<=sizeLine:=by rw [<-Paired.length rel]; exact z
   have hl:(putK kvs k v).length<=sizeLine:=by have:=zfn kvs k v; omega
   refine wpAny_setItem_heap (hsz:=hz) (tupleKind_room_in1 hu) (zhM I.hok eb) dd λ h' dd' hs=>h _ ?_
   obtain ⟨q,es,ep,hq,h2,h3,h4,_,h5⟩:=dd'
   refine zhX I (by rw [e]; exact True.intro) hs ⟨q,hq⟩ ⟨hl,hd,_,(rel.put k eb rv).keeps λ c ys ec=>?_,q,es,ep,hq,h2,h3,h4,h5⟩
   rw [zae (zbF ec e (λ z=>nomatch z))]
   exact ec
end
section
variable {X:Cx} {pins:List (Addr×Obj)} {σ:St} {H:Hp} {s:Shared} {a:Addr} {kvs:List (Key×V)} {k:Key} {u:Value} {A:Around} {E:Value->Shared->Prop}
theorem d_delItem {Q:Unit->Shared->Prop} (I:Inv X pins σ H s) (e:H a=some (.dK kvs)) (ry:RelV (kV k) u) (l:(valV kvs k).isSome=true) (h:∀ s',Inv X pins σ (upd H a (.dK (zit kvs k))) s'->Q () s') :
  wpAny (model X.prog X.w) A (delItem (.ref a) u) Q E s:=by
 obtain ⟨z,hd,vs,rel,dd⟩:=zgQ I.hok e
 refine wpAny_delItem_slot dd.typeIs (by decide) PySem.F.slot_dict_delitem
  (call_meetsIn PySem.F.slot_dict_delitem dd.typeIs PySem.F.entry_dict_delitem (PySem.F.args_dict_delitem_2 _ _) (meets_dict_delitem_pairs (zaC X.prog X.w) a (zgi ry)) ⟨vs,dd,by rw [<-rel.length]; exact z,by rw [<-(rel.val k).zdv]; exact l,λ h' dd' hs=>h _ ?_⟩)
 have he:∃ q,h'.get? a=some q:=let ⟨q,_,_,hq,_⟩:=dd'; ⟨q,hq⟩
 exact zhX I (by rw [e]; exact True.intro) hs he (znh (Nat.le_trans (zng kvs k) z) hd (rel.drop k) dd')
theorem ztS {v:V} {more:List Value} {Q:Value->Shared->Prop} (I:Inv X pins σ H s) (e:H a=some (.dK kvs)) (ry:RelV (kV k) u) (l:valV kvs k=some v) (hm:more=[]\/∃ x,more=[x])
  (h:∀ w' s',Inv X pins σ (upd H a (.dK (zit kvs k))) s'->RelV v w'->Q w' s'):wpAny (model X.prog X.w) A (call (.builtin "dict.pop") (.ref a::u::more)) Q E s:=by
 obtain ⟨z,hd,vs,rel,dd⟩:=zgQ I.hok e
 obtain ⟨w',hw,rw'⟩:=RelO.some_of (v:=v) (o:=valueAt vs k) (by rw [<-l]; exact rel.val k)
 have hp:(keyPart u).isSome=true:=by
  cases k with
  | inl i=>obtain ⟨t,q⟩:=(show ∃ t,u=Value.int i t from ry); subst q; rfl
  | inr x=>obtain ⟨t,q⟩:=(show ∃ t,u=Value.str x t from ry); subst q; rfl
 have ha:argsOk "dict.pop" ⟨.ref a::u::more,[]⟩:=by
  rcases hm with q | ⟨x,q⟩
  . subst q; exact PySem.F.args_dict_pop_2 _ _
  . subst q; exact PySem.F.args_dict_pop_3 _ _ _
 refine call_meetsIn PySem.F.slot_dict_pop dd.typeIs PySem.F.entry_dict_pop ha (meets_dict_pop_there (zaC X.prog X.w) a (zgi ry) more hm hp)
  ⟨vs,w',dd,by rw [<-rel.length]; exact z,hw,λ h' dd' hs=>h w' _ ?_ rw'⟩
 have he:∃ q,h'.get? a=some q:=let ⟨q,_,_,hq,_⟩:=dd'; ⟨q,hq⟩
 exact zhX I (by rw [e]; exact True.intro) hs he (znh (Nat.le_trans (zng kvs k) z) hd (rel.drop k) dd')
theorem ztd {r:Value} {Q:Value->Shared->Prop} (I:Inv X pins σ H s) (e:H a=some (.dK kvs)) (ry:RelV (kV k) u) (l:valV kvs k=none) (h:∀ s',Inv X pins σ H s'->Q r s') :
  wpAny (model X.prog X.w) A (call (.builtin "dict.pop") [.ref a,u,r]) Q E s:=by
 obtain ⟨z,hd,vs,rel,dd⟩:=zgQ I.hok e
 have hn:valueAt vs k=none:=RelO.none_of (by rw [<-l]; exact rel.val k)
 have hp:(keyPart u).isSome=true:=by
  cases k with
  | inl i=>obtain ⟨t,q⟩:=(show ∃ t,u=Value.int i t from ry); subst q; rfl
  | inr x=>obtain ⟨t,q⟩:=(show ∃ t,u=Value.str x t from ry); subst q; rfl
 exact call_meetsIn PySem.F.slot_dict_pop dd.typeIs PySem.F.entry_dict_pop (PySem.F.args_dict_pop_3 _ _ _) (meets_dict_pop_default (zaC X.prog X.w) a (zgi ry) hd hp r) ⟨vs,dd,hn,h _ (I.tok _)⟩
theorem ztT {Q:Value->Shared->Prop} (I:Inv X pins σ H s) (e:Rd H a (.dK kvs)) (h:∀ t s',Inv X pins σ H s'->Q (.int kvs.length t) s'):wpAny (model X.prog X.w) A (call (.builtin "len") [.ref a]) Q E s:=by
 obtain ⟨z,hd,vs,rel,dd⟩:=zjR I.hok e
 refine call_len_dict hd dd (by rw [<-rel.length]; rw [sizeLine_eq] at z; omega) ?_
 rw [<-rel.length]
 exact h _ _ (I.tok _)
end
def NoSl (i:Expr):Prop:=∀ ov iv,subscripted i false ov iv=operate [ov,iv] (getItem ov iv)
theorem zro {prog:Program} {w:World} {A:Around} {E:Value->Shared->Prop} {s:Shared} {env:Env} {value slice:Expr} {pos:Pos} {T id:String} {Q:Value->Shared->Prop}
  (hl:typeLookup (.type T) "__getitem__" = pure (some (.builtin id))) (hs:NoSl slice)
  (h:wpAny (model prog w) A (eval value env) (λ o s₁=>wpAny (model prog w) A (eval slice env) (λ i s₂=>s₂.TypeIs o T/\wpAny (model prog w) A (getItem o i) Q E s₂) E s₁) E s) :
  wpAny (model prog w) A (eval (.Subscript value slice pos) env) Q E s:=by
 refine Subscript_ (wpAny_mono h (λ o s₁ h₁=>wpAny_mono h₁ (λ i s₂ h₂=>?_) λ _ _ x=>x) λ _ _ x=>x)
 obtain ⟨hT,h₂⟩:=h₂
 unfold subscriptTail
 refine wpAny_bind ?_
 rw [getitemInPython_of_ne hT.not_modules]
 refine wpAny_bind (wpAny_specialOf hT hl ?_)
 have fin:wpAny (model prog w) A (subscripted slice false o i) (λ r s₃=>wpAny (model prog w) A (letTemporaryGo value o r >>= λ _=>pure r) Q E s₃) E s₂:=by
  rw [hs o i]
  exact wpAny_operating (wpAny_mono h₂ (λ r s₃ h₃=>wpAny_bind (wpAny_letTemporaryGo (wpAny_pure h₃))) λ _ _ x=>x)
 first
  | exact wpAny_pure (wpAny_bind fin)
  | exact wpAny_bind (wpAny_pure (wpAny_bind fin))
  | exact wpAny_bind fin
theorem zme {X:Cx} {pins:List (Addr×Obj)} {σ:St} {H:Hp} {s:Shared} {a:Addr} {y:V} {o:Option V} (I:Inv X pins σ H s) (g:DGet H a y o):s.TypeIs (.ref a) "dict" := by
 rcases g with ⟨kvs,k,e,_,_⟩ | ⟨kvs,k,b,e,_,_,_⟩
 . obtain ⟨_,_,vs,_,dd⟩:=zjR I.hok e
   exact dd.typeIs
 . obtain ⟨_,_,xs,_,dd⟩:=zlc I.hok e
   exact dd.typeIs
def ztu (td ty:TE):TE:=λ σ H Q=>td σ H λ x H1=>ty σ H1 λ y H2=>∃ a v,x=.ref a/\DGet H2 a y (some v)/\Q v H2
def tDIn (ty td:TE):TE:=λ σ H Q=>ty σ H λ y H1=>td σ H1 λ x H2=>∃ a o,x=.ref a/\DGet H2 a y o/\Q (.bl o.isSome) H2
def zrm (ty td:TE):TE:=λ σ H Q=>ty σ H λ y H1=>td σ H1 λ x H2=>∃ a o,x=.ref a/\DGet H2 a y o/\Q (.bl (!o.isSome)) H2
def zsH (td ty tv:TE):TS:=λ D σ H=>tv σ H λ v H1=>td σ H1 λ x H2=>ty σ H2 λ y H3=>∃ a H4,x=.ref a/\DPut H3 a y v H4/\D.nx σ H4
section
variable {X:Cx} {o i e value:Expr} {pos pos' tpos:Pos} {td ty tv:TE}
theorem zdh (hu:X.A.units+1 < cLine) (ho:PE X o td) (hi:PE X i ty) (hs:NoSl i):PE X (.Subscript o i pos) (ztu td ty):=by
 intro pins s σ H Q I h
 refine zro PySem.F.slot_dict_getitem.lookup hs (thn (ho pins s σ H _ I h) λ u s1 ⟨x,H1,I1,rx,q1⟩=>thn (hi pins s1 σ H1 _ I1 q1) λ iv s2 ⟨y,H2,I2,ry,a,v,ex,g,q2⟩=>?_)
 subst ex
 obtain rfl:u=Value.ref a:=rx
 exact ⟨zme I2 g,zpP hu I2 g ry λ w' s3 I3 rw'=>⟨v,H2,I3,rw',q2⟩⟩
theorem zoY (hu:X.A.units+1 < cLine) (hi:PE X i ty) (ho:PE X o td):PC X .In i o (tDIn ty td):=by
 intro pins s σ H Q I h
 refine thn (hi pins s σ H _ I h) λ iv s1 ⟨y,H1,I1,ry,q1⟩=>thn (ho pins s1 σ H1 _ I1 q1) λ u s2 ⟨x,H2,I2,rx,a,ov,ex,g,q2⟩=>?_
 subst ex
 obtain rfl:u=Value.ref a:=rx
 exact d_in hu I2 g ry λ s3 I3=>⟨.bl ov.isSome,H2,I3,rfl,q2⟩
theorem zep (hu:X.A.units+1 < cLine) (hi:PE X i ty) (ho:PE X o td):PC X .NotIn i o (zrm ty td):=by
 intro pins s σ H Q I h
 refine thn (hi pins s σ H _ I h) λ iv s1 ⟨y,H1,I1,ry,q1⟩=>thn (ho pins s1 σ H1 _ I1 q1) λ u s2 ⟨x,H2,I2,rx,a,ov,ex,g,q2⟩=>?_
 subst ex
 obtain rfl:u=Value.ref a:=rx
 exact zr7 hu I2 g ry λ s3 I3=>⟨.bl (!ov.isSome),H2,I3,rfl,q2⟩
theorem zho (hu:X.A.units+1 < cLine) (ho:PE X o td) (hi:PE X i ty) (hv:PE X value tv) (hs:swapsWith value (some (.Subscript o i pos')) pos.line X.env=pure false) :
  PS X (.Assign [.Subscript o i pos'] value pos) (zsH td ty tv):=by
 intro pins s σ H D I h
 refine wpAny_Assign_Subscript (thn (hv pins s σ H _ I h) λ r s1 ⟨v,H1,I1,rv,q1⟩=>thn (ho pins s1 σ H1 _ I1 q1) λ u s2 ⟨x,H2,I2,rx,q2⟩=>thn (hi pins s2 σ H2 _ I2 q2) λ iv s3 ⟨y,H3,I3,ry,a,H4,ex,g,q3⟩=>?_) hs
 subst ex
 obtain rfl:u=Value.ref a:=rx
 exact zpO hu I3 g ry rv λ s4 I4=>⟨σ,H4,I4,q3⟩
end
theorem zni {P:Program} {w:World} {H:Hp} (h:Heap) (hb:sysModules < h.objs.size):zbH P w H (h.push { cls:=.type "dict",data:=.dict #[] }) h.objs.size (.dK []) :=
 ⟨Nat.zero_le _,beq_eq_false_iff_ne.mpr (Ne.symm (Nat.ne_of_lt hb)),[],.nil,Heap.DictOf.new h⟩
def zsq:TE:=λ _ H Q=>∀ p,H p=none->Q (.ref p) (upd H p (.dK []))
section
variable {X:Cx} {pos:Pos}
theorem zfC:PE X (.Dict [] [] pos) zsq:=λ pins s σ H Q I h =>
 wpAny_Dict_empty ⟨.ref s.heap.objs.size,_,I.laid (a:=s.heap.objs.size) (o:=.dK []) (t':=s.toks) (λ _ _ q=>Heap.get?_push_of_some _ q) (Nat.le_refl _) (zni s.heap I.big),rfl,h _ (I.hok.fresh (Nat.le_refl _))⟩
end
structure M1 (X:Cx) (o:Expr) (m:Str) (apos:Pos) (e:Expr) (cpos:Pos):Prop where
 base:attributeBase o m X.env (eval o X.env)=eval o X.env
 few:((backTo cpos (starEach [e] X.env)).all (λ x=>!x.1) && (backToKw cpos (keywordEach [] X.env)).all (λ x=>x.1.isSome)
  && decide (([e]:List Expr).length+([]:List Keyword).length+(if ([]:List Keyword).isEmpty then 0 else 1) < 30))=true
 line:(apos.endLine == cpos.line)=true
 trees:backTo cpos (starEach [e] X.env)=[(false,eval e X.env)]
structure M2 (X:Cx) (o:Expr) (m:Str) (apos:Pos) (e f:Expr) (cpos:Pos):Prop where
 base:attributeBase o m X.env (eval o X.env)=eval o X.env
 few:((backTo cpos (starEach [e,f] X.env)).all (λ x=>!x.1) && (backToKw cpos (keywordEach [] X.env)).all (λ x=>x.1.isSome)
  && decide (([e,f]:List Expr).length+([]:List Keyword).length+(if ([]:List Keyword).isEmpty then 0 else 1) < 30))=true
 line:(apos.endLine == cpos.line)=true
 trees:backTo cpos (starEach [e,f] X.env)=[(false,eval e X.env),(false,eval f X.env)]
def IsD (H:Hp) (a:Addr):Prop:=(∃ kvs,Rd H a (.dK kvs))\/∃ kvs,Rd H a (.dT kvs)
theorem znb {X:Cx} {pins:List (Addr×Obj)} {σ:St} {H:Hp} {s:Shared} {a:Addr} (I:Inv X pins σ H s) (d:IsD H a) :
   s.TypeIs (.ref a) "dict" /\ (∀ b,Value.ref a=.ref b->∃ ob,s.heap.get? b=some ob/\ob.dict=none)/\(a == sysModules)=false:=by
 rcases d with ⟨kvs,e⟩ | ⟨kvs,e⟩
 . obtain ⟨_,hd,vs,_,dd⟩:=zjR I.hok e
   refine ⟨dd.typeIs,λ b q=>?_,hd⟩
   cases q
   obtain ⟨ob,_,_,h1,h2,_⟩:=dd
   exact ⟨ob,h1,h2.2.1⟩
 . obtain ⟨_,hd,xs,_,dd⟩:=zlc I.hok e
   refine ⟨dd.typeIs,λ b q=>?_,hd⟩
   cases q
   obtain ⟨ob,_,_,h1,h2,_⟩:=dd
   exact ⟨ob,h1,h2.2.1⟩
section
variable {X:Cx} {pins:List (Addr×Obj)} {σ:St} {H:Hp} {s:Shared} {a:Addr} {y d:V} {u r:Value} {o:Option V} {A:Around} {E:Value->Shared->Prop}
theorem ztf {Q:Value->Shared->Prop} (hu:A.units+1 < cLine) (I:Inv X pins σ H s) (g:DGet H a y o) (ry:RelV y u) (h:∀ w' s',Inv X pins σ H s'->RelV (o.getD .non) w'->Q w' s') :
   wpAny (model X.prog X.w) A (call (.builtin "dict.get") [.ref a,u]) Q E s:=by
 rcases g with ⟨kvs,k,e,ey,l⟩ | ⟨kvs,k,b,e,ey,eb,l⟩
 . subst ey
   obtain ⟨z,hd,vs,rel,dd⟩:=zjR I.hok e
   refine call_meetsIn PySem.F.slot_dict_get dd.typeIs PySem.F.entry_dict_get (PySem.F.args_dict_get_2 _ _) (meets_dict_get (zaC X.prog X.w) a (zgi ry) hd) ⟨_,dd.mapOf,h _ _ (I.tok _) ?_⟩
   rw [l]
   exact (rel.val k).getD rfl
 . subst ey
   cases (show u=Value.ref b from ry)
   obtain ⟨z,hd,xs,rel,dd⟩:=zlc I.hok e
   refine call_meetsIn PySem.F.slot_dict_get dd.typeIs PySem.F.entry_dict_get (PySem.F.args_dict_get_2 _ _) (meetsH_dict_get (tupleKind (zaC X.prog X.w)) a b hd) ⟨tupleKind_room_in1 hu,k,xs,zhM I.hok eb,dd,h _ _ (I.tok _) ?_⟩
   rw [l]
   exact (rel.val k).getD rfl
theorem zte {Q:Value->Shared->Prop} (hu:A.units+1 < cLine) (I:Inv X pins σ H s) (g:DGet H a y o) (ry:RelV y u) (rd:RelV d r) (h:∀ w' s',Inv X pins σ H s'->RelV (o.getD d) w'->Q w' s') :
   wpAny (model X.prog X.w) A (call (.builtin "dict.get") [.ref a,u,r]) Q E s:=by
 rcases g with ⟨kvs,k,e,ey,l⟩ | ⟨kvs,k,b,e,ey,eb,l⟩
 . subst ey
   obtain ⟨z,hd,vs,rel,dd⟩:=zjR I.hok e
   refine call_meetsIn PySem.F.slot_dict_get dd.typeIs PySem.F.entry_dict_get (PySem.F.args_dict_get_3 _ _ _) (meets_dict_get_default (zaC X.prog X.w) a (zgi ry) hd r) ⟨_,dd.mapOf,h _ _ (I.tok _) ?_⟩
   rw [l]
   exact (rel.val k).getD rd
 . subst ey
   cases (show u=Value.ref b from ry)
   obtain ⟨z,hd,xs,rel,dd⟩:=zlc I.hok e
   refine call_meetsIn PySem.F.slot_dict_get dd.typeIs PySem.F.entry_dict_get (PySem.F.args_dict_get_3 _ _ _) (meetsH_dict_get_default (tupleKind (zaC X.prog X.w)) a b hd r) ⟨tupleKind_room_in1 hu,k,xs,zhM I.hok eb,dd,h _ _ (I.tok _) ?_⟩
   rw [l]
   exact (rel.val k).getD rd
end
def zss (td ty:TE):TE:=λ σ H Q=>td σ H λ x H1=>∃ a,x=.ref a/\IsD H1 a/\ty σ H1 λ y H2=>∃ o,DGet H2 a y o/\Q (o.getD .non) H2
def zsr (td ty tx:TE):TE:=λ σ H Q=>td σ H λ x H1=>∃ a,x=.ref a/\IsD H1 a/\ty σ H1 λ y H2=>tx σ H2 λ z H3=>∃ o,DGet H3 a y o/\Q (o.getD z) H3
def zsp (td ty tx:TE):TE:=λ σ H Q=>td σ H λ x H1=>∃ a,x=.ref a/\IsD H1 a/\ty σ H1 λ y H2=>tx σ H2 λ z H3=>∃ kvs k,H3 a=some (.dK kvs)/\y=kV k /\
 (∀ v,valV kvs k=some v->Q v (upd H3 a (.dK (zit kvs k))))/\(valV kvs k=none->Q z H3)
section
variable {X:Cx} {o e f:Expr} {apos cpos:Pos} {td ty tx:TE}
theorem zjt (hu:X.A.units+1 < cLine) (ho:PE X o td) (he:PE X e ty) (m:M1 X o "get" apos e cpos):PE X (.Call (.Attribute o "get" apos) [e] [] cpos) (zss td ty):=by
 intro pins s σ H Q I h
 refine wpAny_Call_method m.base m.few m.line PySem.F.plainAttrs_dict PySem.F.slot_dict_get PySem.F.type_dict_get (thn (ho pins s σ H _ I h) λ u s1 ⟨x,H1,I1,rx,a,ex,d,q1⟩=>?_)
 subst ex
 obtain rfl:u=Value.ref a:=rx
 obtain ⟨t1,t2,_⟩:=znb I1 d
 refine ⟨t1,t2,?_⟩
 rw [m.trees]
 refine Calls.callWith_builtin rfl (Calls.evalArgs_plain (Calls.spliced_cons (thn (he pins s1 σ H1 _ I1 q1) λ iv s2 ⟨y,H2,I2,ry,ov,g,q2⟩=>Calls.spliced_nil ?_)))
 exact ztf hu I2 g ry λ w' s3 I3 rw'=>⟨_,H2,I3,rw',q2⟩
theorem zqk (hu:X.A.units+1 < cLine) (ho:PE X o td) (he:PE X e ty) (hf:PE X f tx) (m:M2 X o "get" apos e f cpos):PE X (.Call (.Attribute o "get" apos) [e,f] [] cpos) (zsr td ty tx):=by
 intro pins s σ H Q I h
 refine wpAny_Call_method m.base m.few m.line PySem.F.plainAttrs_dict PySem.F.slot_dict_get PySem.F.type_dict_get (thn (ho pins s σ H _ I h) λ u s1 ⟨x,H1,I1,rx,a,ex,d,q1⟩=>?_)
 subst ex
 obtain rfl:u=Value.ref a:=rx
 obtain ⟨t1,t2,_⟩:=znb I1 d
 refine ⟨t1,t2,?_⟩
 rw [m.trees]
 refine Calls.callWith_builtin rfl (Calls.evalArgs_plain (Calls.spliced_cons (thn (he pins s1 σ H1 _ I1 q1) λ iv s2 ⟨y,H2,I2,ry,q2⟩ =>
  Calls.spliced_cons (thn (hf pins s2 σ H2 _ I2 q2) λ fv s3 ⟨z,H3,I3,rz,ov,g,q3⟩=>Calls.spliced_nil ?_))))
 exact zte hu I3 g ry rz λ w' s4 I4 rw'=>⟨_,H3,I4,rw',q3⟩
theorem zmZ (ho:PE X o td) (he:PE X e ty) (hf:PE X f tx) (m:M2 X o "pop" apos e f cpos):PE X (.Call (.Attribute o "pop" apos) [e,f] [] cpos) (zsp td ty tx):=by
 intro pins s σ H Q I h
 refine wpAny_Call_method m.base m.few m.line PySem.F.plainAttrs_dict PySem.F.slot_dict_pop PySem.F.type_dict_pop (thn (ho pins s σ H _ I h) λ u s1 ⟨x,H1,I1,rx,a,ex,d,q1⟩=>?_)
 subst ex
 obtain rfl:u=Value.ref a:=rx
 obtain ⟨t1,t2,_⟩:=znb I1 d
 refine ⟨t1,t2,?_⟩
 rw [m.trees]
 refine Calls.callWith_builtin rfl (Calls.evalArgs_plain (Calls.spliced_cons (thn (he pins s1 σ H1 _ I1 q1) λ iv s2 ⟨y,H2,I2,ry,q2⟩ =>
  Calls.spliced_cons (thn (hf pins s2 σ H2 _ I2 q2) λ fv s3 ⟨z,H3,I3,rz,kvs,k,ea,ey,q3,q4⟩=>Calls.spliced_nil ?_))))
 subst ey
 cases l:valV kvs k with
 | some v=>exact ztS I3 ea ry l (.inr ⟨fv,rfl⟩) λ w' s4 I4 rw'=>⟨v,_,I4,rw',q3 v l⟩
 | none=>exact ztd I3 ea ry l λ s4 I4=>⟨z,H3,I4,rz,q4 l⟩
end
section
variable {X:Cx} {pins:List (Addr×Obj)} {σ:St} {H:Hp} {s:Shared} {a:Addr} {kvs:List (Key×V)} {A:Around} {E:Value->Shared->Prop}
end
section
variable {X:Cx} {pins:List (Addr×Obj)} {σ:St} {H:Hp} {s:Shared} {a:Addr} {y:V} {u:Value} {A:Around} {E:Value->Shared->Prop}
end
end L2
namespace Att
open PySem PySem.W PySem.Calls PyProof.Rows
theorem zhP {P:Params} {h:Heap}:∀ (ns:List Int) (vs:List Value),WellAll P h vs (ns.map WData.int)->IntsAre vs ns:=by
 intro ns
 induction ns with
 | nil =>
  intro vs w
  rw [List.map_nil] at w
  cases w
  exact .nil
 | cons n ns ih =>
  intro vs w
  rw [List.map_cons] at w
  cases w with
  | cons a b =>
   cases a
   exact .cons _ _ (ih _ b)
theorem zoK {l:OpenLaw} {n:Nat} (hn:l.most=some n) {P:Params} {h:Heap} {args:List WData} {vals:List Value}
  (hpre:l.row.toRowW.claim.pre args=true) (hwl:WellAll P h vals args) :
  ∃ a vs ns,vals=[Value.ref a]/\args=[WData.list (ns.map WData.int)]/\h.get? a=some { cls:=.type "list",data:=.seq vs.toArray }/\IntsAre vs ns/\ns.length<=n:=by
 have hsh:WShape.hasAll [] args [.list .int]=true:=(pre_splitW hpre).1
 have hc:l.pre.holds [] { args:=args }=true:=(pre_splitW hpre).2
 obtain ⟨d,r,rfl,h1,h2⟩:=hasAllW_cons hsh
 obtain rfl:=hasAllW_nil h2
 obtain ⟨xs,rfl,h3⟩:=hasW_list h1
 obtain ⟨ns,rfl⟩:=items_int h3
 have hlen:ns.length<=n:=by
  unfold OpenLaw.pre at hc
  have h4:(WTm.not (.lt (.lit (.int (n:Int))) (.len (.arg 0)))).holds [] { args:=[.list (ns.map .int)] }=true:=by
   have h4:=(holds_andW hc).1
   rw [hn] at h4
   exact h4
  have h5:=condW_of h4 (w_not (w_lt w_lit (w_len_list (w_arg rfl))))
  rw [List.length_map] at h5
  refine Nat.le_of_not_lt λ q=>?_
  have q':(n:Int) < ((ns.length:Nat):Int):=by omega
  first
   | (rw [decide_eq_true q'] at h5; exact absurd h5 (by decide))
   | (simp at h5; omega)
 cases hwl with
 | cons w1 w2 =>
  cases w2
  cases w1 with
  | list ho hall=>exact ⟨_,_,ns,rfl,rfl,ho,zhP ns _ hall,hlen⟩
theorem zoS (l:OpenLaw) (args:List WData):l.row.toRowW.claim.post args (.bool true) args=true :=
 postW_of (r:=l.row.toRowW) (X:=(true == true))
  (show WShape.has [] (.bool true) .bool=true by first | rfl | decide | simp [WShape.has,WShape.arms,WShape.armsAll])
  (show (WTm.eq .res (.lit (.bool true))).value [] { args:=args,res:=some (.bool true),after:=args }=some (.bool (true == true)) from w_eq_bool (w_res rfl) w_lit) rfl
theorem zmu {l:OpenLaw} {n:Nat} {q:Program} {loose:List Str} {XP:(Str->Option Value)->Heap->Prop} {YP:World->Heap->Prop} {d:DefRec}
  (hn:l.most=some n) (hdf:d.params.defaults=[])
  (call:∀ (w:World) (s₀ s₁:Shared) (mg mb:Str->Option Value) (fa:Addr) (o:Obj) (pm cd doc:Value) (a:Addr) (vs:List Value) (ns:List Int),
   Ground q loose [] XP w s₀ mg mb s₁.heap->YP w s₁.heap ->
   s₁.heap.get? fa=some o->o.data=.func (docDef d.name d.params d.body d.scope pm cd doc)->s₁.heap.CodeRec cd d.name->mg d.name=some (.ref fa) ->
   s₁.heap.get? a=some { cls:=.type "list",data:=.seq vs.toArray }->IntsAre vs ns->ns.length<=n->s₁.gens=#[] ->
   codeAny (model l.prog w) callerA (.call (.ref fa) ⟨[.ref a],[]⟩) (λ r s'=>r=.ok (.ret (.bool true))/\OldK s₁.heap s'.heap/\s'.os=s₁.os/\AllBare s'.gens) s₁) :
  WalkO q loose XP YP l.row.toRowW d [] (λ f vs=>PySem.call f vs):=by
 intro w s₀ s₁ mg mb G Y fa o pm cd doc dV kV ho hd hcd hD hmg hg args vals as hpre hlay hrd hwl hlo
 obtain rfl:dV=.none:=Dflts.none hD hdf
 obtain rfl:kV=.none:=Dflts.noKw hD
 obtain ⟨a,vs,ns,rfl,rfl,hobj,hints,hlen⟩:=zoK hn hpre hwl
 refine enter_call (codeAny_mono (call w s₀ s₁ mg mb fa o pm cd doc a vs ns G Y ho (fd_plain hd) hcd hmg hobj hints hlen hg) λ r s' hq=>?_)
 obtain ⟨rfl,h2,h3,h4⟩:=hq
 exact ⟨.inl ⟨.bool true,.bool true,[],rfl,λ _=>rfl,.bool true,zoS l _,λ _=>⟨List.Pairwise.nil,λ _ hm=>(nomatch hm)⟩⟩,h2,h3,h4⟩
section
variable {prog:Program} {w:World} {A:Around} {E:Value->Shared->Prop} {s:Shared} {K:Frag}
end
end Att
namespace L2
open PySem PySem.Spec PyProof.Rows
theorem zkb:∀ {vs:List Value} {ns:List Int},IntsAre vs ns->Vals (ns.map V.int) vs
 | _,_,.nil=>.nil
 | _,_,.cons n t h=>.cons ⟨t,rfl⟩ (zkb h)
def Only (H:Hp):Prop:=∀ b,H b=none\/∃ o xs,H b=some (.frz o (.lst xs))
theorem zqw {P:Program} {w:World} {K:PySem.W.Frag} {mg mb:Str->Option Value} {CX:CXT} {k:Nat} {fa a:Addr} {fd:FuncData} {x:Str} {sp:Sp} {s₁:Shared} {vs:List Value} {ns:List Int}
  (KX:K.In s₁.heap) (hns:s₁.heap.Ns mainGlobals mg) (hb:s₁.heap.Ns builtinsNs mb) (hbb:∀ x:Str,x ≠ "__name__" -> mb x=bootBuiltins x) (hlim:s₁.heap.NoLimit) (hg:s₁.gens=#[])
  (ha:s₁.heap.get? a=some { cls:=.type "list",data:=.seq vs.toArray }) (hi:IntsAre vs ns) (hl:ns.length<=sizeLine) (hr:Room k callerA)
  (F:∀ base:Heap,K.In base->base.Ns mainGlobals mg->FnOk P w K mg base CX k fa fd [x] sp) (hbind:∀ (s:Shared) (u:Value),BindsTo s fd ⟨[u],[]⟩ [(x,u)])
  (hsp:∀ H:Hp,Only H->SqL K H a (ns.map V.int)->sp [.ref a] H (λ v _=>v=.bl true) λ _ _ _=>False)
  (hCX:∀ H e s',CX [] H s₁ (λ _ _ _=>False) e s'->False) :
  codeAny (model P w) callerA (.call (.ref fa) ⟨[.ref a],[]⟩) (λ r s'=>r=.ok (.ret (.bool true))/\OldK s₁.heap s'.heap/\s'.os=s₁.os/\AllBare s'.gens) s₁:=by
 have rv:=zkb hi
 have lenV:=hi.length
 have core:∀ H:Hp,Only H->SqL K H a (ns.map V.int)->HOk P w H s₁.heap->(∀ b,H b≠none->b=a)->(H a≠none->K.lookup a=none) ->
    codeAny (model P w) callerA (.call (.ref fa) ⟨[.ref a],[]⟩) (λ r s'=>r=.ok (.ret (.bool true))/\OldK s₁.heap s'.heap/\s'.os=s₁.os/\AllBare s'.gens) s₁:=by
  intro H hO hS hok hA hK
  have base_of:∀ {b:Addr} {o:Obj},s₁.heap.get? b=some o->H b=none->(hidT s₁.heap H).get? b=some o:=λ e n=>zqA e n
  have noA:∀ {b:Addr} {o:Obj} {es:Array DictEntry} {ep:Nat},s₁.heap.get? b=some o->o.data=.dict es ep->H b=none:=λ {b o es ep} e d=>by
    cases q:H b with
    | none=>rfl
    | some u =>
      have e':b=a:=hA b (by rw [q]; simp)
      subst e'
      rw [ha] at e; cases e
      have d':Data.seq vs.toArray _=Data.dict es ep:=d
      cases d'
  have nsK:∀ {b:Addr} {m:Str->Option Value},s₁.heap.Ns b m->(hidT s₁.heap H).Ns b m:=λ {b m} ⟨o,es,ep,e,d,r⟩=>⟨o,es,ep,base_of e (noA e d),d,r⟩
  have hKb:K.In (hidT s₁.heap H):=λ b o e=>base_of (KX b o e) (by
    cases q:H b with
    | none=>rfl
    | some u =>
      have e':b=a:=hA b (by rw [q]; simp)
      subst e'
      rw [hK (by rw [q]; simp)] at e; cases e)
  have hM:Mod K mg (hidT s₁.heap H):=⟨hKb,nsK hns,⟨mb,nsK hb,hbb⟩,let ⟨mc,h1,h2⟩:=hlim; ⟨mc,nsK h1,h2⟩⟩
  have e0:Env0 P w K mg (hidT s₁.heap H) callerA [] s₁ H:=⟨rfl,hM,λ b o e=>zrO e,Nat.le_of_eq (zpr _ _),trivial,λ b hb=>absurd (show b∈([]:List Addr) from hb) (by simp),hok,.of_eq hg⟩
  refine codeAny_mono ((F _ hKb (nsK hns)).run callerA [] s₁ H ⟨[.ref a],[]⟩ [.ref a] [.ref a] _ _ hr e0 (hbind s₁ (.ref a)) (.cons rfl .nil) (hsp H hO hS)) λ r s' h=>?_
  cases r with
  | error e=>exact (hCX H e s' h).elim
  | ok fl =>
    cases fl with
    | next=>exact False.elim h
    | brk=>exact False.elim h
    | cont=>exact False.elim h
    | ret u =>
      obtain ⟨v,H',os,bare,un,hok',r',q⟩:=h
      have q':v=.bl true:=q
      subst q'
      obtain rfl:u=Value.bool true:=r'
      refine ⟨rfl,OldK.of_keep λ b o e=>?_,os,bare⟩
      cases q:H b with
      | none=>exact un.keep b o e q (by intro z; exact absurd (show b∈([]:List Addr) from z) (by simp)) (by simp)
      | some u =>
       rcases hO b with z | ⟨ob,xs,z⟩
       . rw [q] at z; cases z
       . have z2:=un.frzs b ob _ z
         obtain ⟨e1,_⟩:=hok b _ z
         obtain ⟨e2,_⟩:=hok' b _ z2
         rw [e] at e1; cases e1
         exact e2
 cases hk:K.lookup a with
 | some o =>
  have e:=KX a o hk
  rw [ha] at e
  cases e
  refine core (λ _=>none) (λ _=>.inl rfl) (.inr ⟨_,vs.toArray,_,hk,rfl,rfl,rfl,by rw [List.size_toArray,lenV]; exact hl,by simpa using rv⟩) (λ b u z=>by have z':(none:Option HO)=some u:=z; cases z') (λ b z=>absurd rfl z) λ z=>absurd rfl z
 | none =>
  refine core (λ b=>if b=a then some (.frz { cls:=.type "list",data:=.seq vs.toArray } (.lst (ns.map V.int))) else none) (λ b=>?_) (.inl (.inr ⟨{ cls:=.type "list",data:=.seq vs.toArray },if_pos rfl⟩)) (λ b u z=>?_) (λ b z=>?_) λ _=>hk
  . by_cases hb:b=a
    . exact .inr ⟨_,_,if_pos hb⟩
    . exact .inl (if_neg hb)
  . by_cases hb:b=a
    . have z':=(if_pos hb).symm.trans z
      cases z'
      subst hb
      exact ⟨ha,by rw [List.length_map]; exact hl,vs,_,rv,ha⟩
    . have z':=(if_neg hb).symm.trans z
      cases z'
  . by_cases hb:b=a
    . exact hb
    . exact absurd (if_neg hb) z
end L2
namespace L2
open PySem PySem.Spec PyProof.Rows
end L2
namespace L2
open PySem PySem.Spec PyProof.Rows
def inClass (s:Stmt) (j:Nat):Stmt:=match s with
 | .ClassDef _ _ _ body _ _ _ _ _ _ _=>body.getD j (.Pass ⟨0,0,0,0⟩)
 | _=>.Pass ⟨0,0,0,0⟩
def zjS (s:Stmt):Arguments:=match s with
 | .FunctionDef _ a _ _ _ _ _ _ _ _=>a
 | _=>{ posonlyargs:=[],args:=[],vararg:=none,kwonlyargs:=[],kw_defaults:=[],kwarg:=none,defaults:=[] }
def zhW (s:Stmt):List Stmt:=match s with
 | .FunctionDef _ _ b _ _ _ _ _ _ _=>b
 | _=>[]
def zak (s:Stmt):Scope:=match s with
 | .FunctionDef _ _ _ _ _ _ sc _ _ _=>sc
 | _=>{ kind:=.function,names:=[],isGenerator:=false,isCoroutine:=false }
structure Fun (K:PySem.W.Frag) (x qual:Str) (st:Stmt) (f:Addr) (fd:FuncData):Prop where
 ex:∃ (oc:Value) (od:Option Addr) (kV doc pm:Value) (an:Option Addr) (cdv ct:Value) (osl:Array (Option Value)),
  fd=PySem.W.fnOf x qual (zjS st) (zhW st) (zak st) .none kV doc pm an cdv ct/\K.lookup f=some ⟨oc,od,.func fd,osl⟩/\PySem.W.codeIn K cdv qual=true
 kp:PySem.W.keepIn K (.ref f)=true
section
variable {P:Program} {w:World} {K:PySem.W.Frag} {mg:Str->Option Value} {base:Heap}
theorem Fun.binds {x qual:Str} {st:Stmt} {f:Addr} {fd:FuncData} {ps:List Str} (F:Fun K x qual st f fd)
  (h:∀ (kV doc pm:Value) (an:Option Addr) (cdv ct:Value) (us:List Value),us.length=ps.length->bindArgs (PySem.W.fnOf x qual (zjS st) (zhW st) (zak st) .none kV doc pm an cdv ct) ⟨us,[]⟩=pure (ps.zip us)):Binds K fd ps []:=by
 obtain ⟨oc,od,kV,doc,pm,an,cdv,ct,osl,rfl,lk,hcd⟩:=F.ex
 exact .all (h kV doc pm an cdv ct)
end
theorem zdL {A:Around} {k:Nat} (hr:Room k A):A.units+1 < cLine:=Nat.lt_of_le_of_lt (Nat.add_le_add_left (by decide:1<=64) _) hr.units
section
variable {X:Cx}
theorem pv (i:Nat) {x:Str} {pos:Pos} (hN:X.N[i]?=some x:=by rfl) (hv:Vis X.env.scope x:=by first | exact Or.inl rfl | exact Or.inr (Or.inl rfl) | exact Or.inr (Or.inr rfl)) (hd:(x == ("__debug__" : Str))=false:=by decide)
 (hcd:(x == ("__classdict__" : Str))=false:=by decide):PE X (.Name x pos) (tVar i):=zsP hN hv hd hcd
theorem zpQ:zfU X (.builtin "len") (λ xs H Q=>∃ a kvs,xs=[V.ref a]/\H a=some (.dK kvs)/\Q (.int kvs.length) H):=by
 intro pins s σ H xs us Q I r h
 obtain ⟨a,kvs,rfl,ha,q⟩:=h
 obtain ⟨u,rfl,ru⟩:=vals1 r
 cases ru
 exact ztT I (.inl ha) λ t s' I'=>⟨.int kvs.length,H,I',⟨t,rfl⟩,q⟩
end
theorem iteF {A B:Prop} (h:B):if false=true then A else B:=by
 rw [if_neg Bool.false_ne_true]
 exact h
theorem iteT {A B:Prop} (h:A):if true=true then A else B:=by
 rw [if_pos rfl]
 exact h
def Same (H H':Hp):Prop:=∀ b o,H b=some o->H' b=some o
theorem Same.refl (H:Hp):Same H H:=λ _ _ h=>h
theorem Same.trans {H H1 H2:Hp} (a:Same H H1) (b:Same H1 H2):Same H H2:=λ c o h=>b c o (a c o h)
theorem Same.free {H H':Hp} (e:Same H H') {l:Addr} (h:H' l=Option.none):H l=Option.none:=by
 cases q:H l with
 | none=>rfl
 | some o =>
  rw [e l o q] at h
  cases h
theorem Same.seq {K:PySem.W.Frag} {H H':Hp} {a:Addr} {xs:List V} (e:Same H H') (h:SqL K H a xs):SqL K H' a xs:=by
 rcases h with (h | ⟨o,h⟩) | h
 . exact .inl (.inl (e _ _ h))
 . exact .inl (.inr ⟨o,e _ _ h⟩)
 . exact .inr h
section
variable {κ:Type} [DecidableEq κ]
end
end L2
end
section
namespace L2
open PySem PySem.Spec PyProof.Rows
abbrev NoX:Value->Shared->Prop:=λ _ _=>False
def zpX (M:Model) (A:Around) (ifs:List Expr) (env:Env) (tst:(Bool->Shared->Prop)->Shared->Prop):Prop :=
 (ifs=[]/\∀ Q s,tst Q s->Q true s)\/∃ c,ifs=[c]/\∀ Q s,tst Q s->wpAny M A (isTrue c env (eval c env)) Q NoX s
def ztk (M:Model) (A:Around) (target elt:Expr) (env:Env) (it acc v:Value) (tst:(Bool->Shared->Prop)->Shared->Prop) (Nx:Shared->Prop) (s1:Shared):Prop :=
 wpAny M A (letOwnedTupleGo target it v) (λ _ s2=>wpAny M A (assign target env v) (λ _ s3=>tst (λ ok s4 =>
  if ok=true then wpAny M A (eval elt env) (λ x s5=>wpAny M A (call (.builtin "list.append") [acc,x]) (λ _ s6=>Nx s6) NoX s5) NoX s4 else Nx s4) s3) NoX s2) NoX s1
theorem nox {α:Type} {M:Model} {A:Around} {t:Sem α} {Q Q':α->Shared->Prop} {E:Value->Shared->Prop} {s:Shared} (h:wpAny M A t Q NoX s) (k:∀ a s',Q a s'->Q' a s'):wpAny M A t Q' E s:=wpAny_mono h k λ _ _ z=>z.elim
theorem zle {prog:Program} {w:World} {A:Around} {R:Result->Shared->Prop} {s:Shared} {elt target iter:Expr} {ifs:List Expr} {scope:Scope} {pos:Pos} {it acc:Value} {env:Env} {tst:(Bool->Shared->Prop)->Shared->Prop}
   (ht:zpX (model prog w) A ifs env tst) (I:Nat->Shared->Prop)
   (go:∀ n s,I n s->wpAny (model prog w) A (pyNext it) (λ r s1=>(r=none/\R (.ok .next) s1)\/∃ v,r=some v/\ztk (model prog w) A target elt env it acc v tst (λ s2=>∃ m,m < n/\I m s2) s1) NoX s)
   (n:Nat) (h:I n s):codeAny (model prog w) A (.compLoop (.ListComp elt [⟨target,iter,ifs,0⟩] scope pos) 0 it acc env) R s:=by
 rcases ht with ⟨rfl,ht⟩ | ⟨c,rfl,ht⟩
 . refine PySem.W.kcp_loop I (λ m s' hI=>nox (go m s' hI) λ r s1 q=>?_) n h
   rcases q with ⟨rfl,q⟩ | ⟨v,rfl,q⟩
   . exact q
   . exact nox q λ _ s2 q2=>nox q2 λ _ s3 q3=>by
      have q4:=ht _ _ q3
      rw [if_pos rfl] at q4
      exact nox q4 λ x s5 q5=>nox q5 λ _ _ q6=>q6
 . refine PySem.W.kct_loop I (λ m s' hI=>nox (go m s' hI) λ r s1 q=>?_) n h
   rcases q with ⟨rfl,q⟩ | ⟨v,rfl,q⟩
   . exact q
   . exact nox q λ _ s2 q2=>nox q2 λ _ s3 q3=>nox (ht _ _ q3) λ ok s4 q4=>by
      cases ok with
      | false=>rw [if_neg Bool.false_ne_true] at q4 ⊢; exact q4
      | true=>rw [if_pos rfl] at q4 ⊢; exact nox q4 λ x s5 q5=>nox q5 λ _ _ q6=>q6
def zdX (cells:List (Str×Addr)) (cs:List (Str×Addr)) (y:Str×NameKind):List (Str×Addr) :=
 if y.2 == .free then match cells.lookup y.1 with | some a=>(y.1,a)::cs | none=>cs else cs
def clOf (scope:Scope) (cells:List (Str×Addr)):List (Str×Addr):=scope.names.foldl (zdX cells) []
theorem zi5 {env:Env}:∀ (l:List (Str×NameKind)) (cs:List (Str×Addr)),(∀ y∈l,y.2=.free->∃ a,env.cells.lookup y.1=some a) ->
  (forIn l cs (λ (y:Str×NameKind) (cs:List (Str×Addr))=>if (y.2 == NameKind.free)=true then do let a <-cellOf env y.1; pure (ForInStep.yield ((y.1,a)::cs)) else pure (ForInStep.yield cs)):Sem (List (Str×Addr)))=pure (l.foldl (zdX env.cells) cs)
 | [],cs,_=>rfl
 | y::r,cs,h=>by
  rw [List.forIn_cons]
  have ih:=λ cs'=>zi5 r cs' λ z hz=>h z (List.mem_cons_of_mem _ hz)
  by_cases hk:y.2=.free
  . obtain ⟨a,ha⟩:=h y List.mem_cons_self hk
    have e1:zdX env.cells cs y=(y.1,a)::cs:=by unfold zdX; rw [hk,ha]; rfl
    rw [List.foldl_cons,e1,<-ih]
    have e2:cellOf env y.1=pure a:=by unfold cellOf; rw [ha]
    simp only [hk,beq_self_eq_true,if_true,e2]
    rfl
  . have hb:(y.2 == NameKind.free)=false:=by simpa using hk
    have e1:zdX env.cells cs y=cs:=by unfold zdX; rw [hb]; rfl
    rw [List.foldl_cons,e1,<-ih]
    simp only [hb,Bool.false_eq_true,if_false]
    rfl
theorem zi6 {scope:Scope} {env:Env} (h:∀ y∈scope.names,y.2=.free->∃ a,env.cells.lookup y.1=some a):closureFor scope env=pure (clOf scope env.cells):=by
 have:=zi5 scope.names [] h
 unfold clOf
 rw [<-this]
 unfold closureFor
 first
  | rfl
  | simp only [bind_pure]
theorem zg6 {cells:List (Str×Addr)} {x:Str} {c:Addr}:∀ (l:List (Str×NameKind)) (cs:List (Str×Addr)),(∀ c,cs.lookup x=some c->cells.lookup x=some c)->(l.foldl (zdX cells) cs).lookup x=some c->cells.lookup x=some c
 | [],cs,h,q=>h c q
 | y::r,cs,h,q=>by
  rw [List.foldl_cons] at q
  refine zg6 r _ (λ c' q'=>?_) q
  unfold zdX at q'
  by_cases hk:(y.2 == NameKind.free)=true
  . rw [if_pos hk] at q'
    cases e:cells.lookup y.1 with
    | none=>rw [e] at q'; exact h c' q'
    | some a =>
     rw [e] at q'
     rw [List.lookup_cons] at q'
     by_cases hx:x == y.1
     . rw [hx] at q'
       have:x=y.1:=by simpa using hx
       rw [this,e]; exact q'
     . have hx':(x == y.1)=false:=by simpa using hx
       rw [hx'] at q'; exact h c' q'
  . rw [if_neg hk] at q'; exact h c' q'
theorem zjT {cells:List (Str×Addr)} {x:Str}:∀ (l:List (Str×NameKind)) (cs:List (Str×Addr)),((∃ c,cs.lookup x=some c)\/((x,NameKind.free)∈l/\∃ c,cells.lookup x=some c))->∃ c,(l.foldl (zdX cells) cs).lookup x=some c
 | [],cs,h=>by
  rcases h with h | ⟨h,_⟩
  . exact h
  . cases h
 | y::r,cs,h=>by
  rw [List.foldl_cons]
  refine zjT r _ ?_
  have mono:(∃ c,cs.lookup x=some c)->∃ c,(zdX cells cs y).lookup x=some c:=λ ⟨c,hc⟩=>by
    unfold zdX
    by_cases hk:(y.2 == NameKind.free)=true
    . rw [if_pos hk]
      cases e:cells.lookup y.1 with
      | none=>exact ⟨c,hc⟩
      | some a =>
       show ∃ c,List.lookup x ((y.1,a)::cs)=some c
       rw [List.lookup_cons]
       by_cases hx:(x == y.1)=true
       . rw [hx]; exact ⟨a,rfl⟩
       . have hx':(x == y.1)=false:=by simpa using hx
         rw [hx']; exact ⟨c,hc⟩
    . rw [if_neg hk]; exact ⟨c,hc⟩
  rcases h with h | ⟨h1,c,h2⟩
  . exact .inl (mono h)
  . rcases List.mem_cons.mp h1 with z | z
    . refine .inl ⟨c,?_⟩
      rw [<-z]
      unfold zdX
      show List.lookup x (if (NameKind.free == NameKind.free)=true then (match cells.lookup x with | some a=>(x,a)::cs | none=>cs) else cs)=some c
      rw [if_pos (show (NameKind.free == NameKind.free)=true from rfl),h2]
      show List.lookup x ((x,c)::cs)=some c
      rw [List.lookup_cons]; simp
    . exact .inr ⟨z,c,h2⟩
theorem zeR {scope:Scope} {env:Env} {x:Str} {k:NameKind} (h:(relabel scope env).names.lookup x=some k):scope.names.lookup x=some k\/(k=.cell/\scope.names.lookup x=some .free):=by
 unfold relabel at h
 dsimp only at h
 generalize scope.names=l at h ⊢
 induction l with
 | nil=>cases h
 | cons y r ih =>
  obtain ⟨n,kk⟩:=y
  rw [List.map_cons,List.lookup_cons] at h
  rw [List.lookup_cons]
  dsimp only at h
  by_cases hc:(kk == NameKind.free && env.scope.kind == .function && env.kindOf n == some .cell)=true
  . rw [if_pos hc] at h
    by_cases hx:(x == n)=true
    . dsimp only at h
      rw [hx] at h ⊢
      simp only [Bool.and_eq_true,beq_iff_eq] at hc
      exact .inr ⟨(Option.some.inj h).symm,by rw [hc.1.1]⟩
    . have hx':(x == n)=false:=by simpa using hx
      dsimp only at h
      rw [hx'] at h ⊢
      exact ih h
  . rw [if_neg hc] at h
    by_cases hx:(x == n)=true
    . dsimp only at h
      rw [hx] at h ⊢
      exact .inl h
    . have hx':(x == n)=false:=by simpa using hx
      dsimp only at h
      rw [hx'] at h ⊢
      exact ih h
theorem zky {scope:Scope} {env:Env} {x:Str} (h:scope.names.lookup x=some .free):(relabel scope env).names.lookup x=some .cell\/(relabel scope env).names.lookup x=some .free:=by
 unfold relabel
 dsimp only
 generalize scope.names=l at h ⊢
 induction l with
 | nil=>cases h
 | cons y r ih =>
  obtain ⟨n,kk⟩:=y
  rw [List.map_cons,List.lookup_cons]
  rw [List.lookup_cons] at h
  dsimp only
  by_cases hx:(x == n)=true
  . rw [hx] at h
    have hk:kk=.free:=Option.some.inj h
    by_cases hc:(kk == NameKind.free && env.scope.kind == .function && env.kindOf n == some .cell)=true
    . rw [if_pos hc]; dsimp only; rw [hx]; exact .inl rfl
    . rw [if_neg hc]; dsimp only; rw [hx,hk]; exact .inr rfl
  . have hx':(x == n)=false:=by simpa using hx
    rw [hx'] at h
    by_cases hc:(kk == NameKind.free && env.scope.kind == .function && env.kindOf n == some .cell)=true
    . rw [if_pos hc]; dsimp only; rw [hx']; exact ih h
    . rw [if_neg hc]; dsimp only; rw [hx']; exact ih h
def cxB (X:Cx) (Nc:List Str) (scope:Scope) (C:Addr) (fp:List Addr) (s:Shared) (H:Hp):Cx where
 prog:=X.prog
 w:=X.w
 K:=X.K
 mg:=X.mg
 base:=X.base
 A:=X.A
 N:=Nc
 s₀:=s
 H₀:=H
 env:=compEnvC scope (clOf scope X.env.cells) C X.env
 outer:=X.stack
 stack:=X.stack
 ex:=fp
 fn:=λ _=>false
 calm:=true
 pn:=[]
 xe:=λ _ _=>False
structure Blk (X:Cx) (scope:Scope) (own:Nat) (ix:List Nat) (Nc:List Str):Prop where
 kind:scope.kind=.function
 zqX:∀ y∈scope.names,y.2≠.cell
 names:∀ y∈scope.names,y.2=.local->scope.names.lookup y.1=some .local
 free:∀ y∈scope.names,y.2=.free->X.env.kindOf y.1=some .cell\/X.env.kindOf y.1=some .free
 nd:Nc.Nodup
 len:Nc.length=own+ix.length
 cap:∀ (i j:Nat) (x:Str),Nc[own+i]?=some x->ix[i]?=some j->X.N[j]?=some x/\scope.names.lookup x=some .free/\(X.env.kindOf x=some .cell\/X.env.kindOf x=some .free)
def zc8 (own:Nat) (ix:List Nat) (σ:St):St:=List.replicate own none++ix.map λ j=>(σ[j]?).join
section
variable {X:Cx} {pins:List (Addr×Obj)} {σ:St} {H H':Hp} {s:Shared} {scope:Scope} {own:Nat} {ix:List Nat} {Nc:List Str} {C D:Addr} {fp:List Addr}
theorem Inv.blk {h1:Heap} {t1:Nat} {m1:Str->Option Value} (I:Inv X pins σ H s) (hc:X.calm=true) (B:Blk X scope own ix Nc) (hf:∀ b∈fp,FpOk X pins H b) (hfo:∀ b∈fp,∃ o,s.heap.get? b=some o)
   (hn:h1.Ns C m1) (k:∀ b u,s.heap.get? b=some u->h1.get? b=some u) (hC:s.heap.objs.size<=C):Inv (cxB X Nc scope C fp s H) [] (zc8 own ix σ) H { s with heap:=h1,toks:=t1 }:=by
 have snd:∀ x c,(clOf scope X.env.cells).lookup x=some c->X.env.cells.lookup x=some c:=λ x c e=>zg6 scope.names [] (λ _ z=>by cases z) e
 have lt:∀ b∈fp,b < s.heap.objs.size:=λ b hb=>by obtain ⟨o,e⟩:=hfo b hb; exact Heap.lt_size e
 refine ⟨⟨I.ok.mod,B.kind,I.ok.glob,I.ok.blt,hC,λ x y c e1 e2=>I.ok.inj x y c (snd x c e1) (snd y c e2),λ x hx=>?_,λ x c e=>(by cases e),λ _=>I.ok.hd hc,I.ok.frames,.inl rfl,λ b hb=>⟨?_,λ x c e=>?_⟩,I.bs,Nat.le_trans I.ok.bsz I.sz,λ b o e hb=>?_,λ b hb hb2=>?_,I.stack,I.zha⟩,
   rfl,I.bare,Un.kept k,⟨m1,hn,λ i x v e1 e2 e3=>?_⟩,λ x c e=>?_,I.hok.fresh hC,λ x c e=>I.zd6 x c (snd x c e),λ p hp=>(by cases hp),I.hok.kept k,?_⟩
 . have hx':(relabel scope X.env).names.lookup x=some .cell\/(relabel scope X.env).names.lookup x=some .free:=hx
   have hfr:scope.names.lookup x=some .free:=by
     rcases hx' with z | z
     . rcases zeR z with q | ⟨_,q⟩
       . exact absurd rfl (B.zqX _ (PySem.mem_of_lookup q))
       . exact q
     . rcases zeR z with q | ⟨q,_⟩
       . exact q
       . cases q
   have hm:=PySem.mem_of_lookup hfr
   exact zjT scope.names [] (.inr ⟨hm,I.ok.has x (B.free _ hm rfl)⟩)
 . exact Nat.ne_of_lt (Nat.lt_of_lt_of_le (lt b hb) hC)
 . exact (hf b hb).2.2.2.2.1 x c (snd x c e)
 . rcases (hf b hb).2.2.2.1 with z | z
   . exact I.ok.noex b o e z
   . exact absurd (Nat.lt_of_lt_of_le (Heap.lt_size (I.ok.bs b o e).1) z) (Nat.lt_irrefl _)
 . obtain ⟨_,f1,f2,_⟩:=hf b hb
   rcases List.mem_cons.mp (I.zmQ b hb2) with z | z
   . exact f1 z
   . exact f2 z
 . have hlt:¬ i < own:=λ hi=>by
     have e2':(zc8 own ix σ)[i]?=some (some v):=e2
     unfold zc8 at e2'
     rw [List.getElem?_append_left (by simpa using hi),List.getElem?_replicate] at e2'
     rw [if_pos hi] at e2'
     cases e2'
   obtain ⟨j,rfl⟩:∃ j,i=own+j:=⟨i - own,by omega⟩
   have e2':(zc8 own ix σ)[own+j]?=some (some v):=e2
   unfold zc8 at e2'
   rw [List.getElem?_append_right (by simp),List.length_replicate,Nat.add_sub_cancel_left,List.getElem?_map] at e2'
   cases hj:ix[j]? with
   | none=>rw [hj] at e2'; cases e2'
   | some q =>
     rw [hj] at e2'
     have e4:(σ[q]?).join=some v:=Option.some.inj e2'
     have e5:σ[q]?=some (some v):=by
       cases hq:σ[q]? with
       | none=>rw [hq] at e4; cases e4
       | some o=>rw [hq] at e4; exact congrArg some e4
     obtain ⟨g1,g2,g3⟩:=B.cap j q x e1 hj
     obtain ⟨m,hm,hl⟩:=I.loc
     obtain ⟨u,ru,lk⟩:=hl q x v g1 e5 (g3.elim (λ z=>.inr (.inl z)) λ z=>.inr (.inr z))
     refine ⟨u,ru,.inr ⟨zky g2,?_⟩⟩
     rcases lk with ⟨z,_⟩ | ⟨_,c,ec,o,ho,hd⟩
     . rcases g3 with y | y <;> rw [z] at y <;> cases y
     . obtain ⟨c',ec'⟩:=zjT (cells:=X.env.cells) scope.names [] (.inr ⟨PySem.mem_of_lookup g2,c,ec⟩)
       have:c'=c:=Option.some.inj ((snd x c' ec').symm.trans ec)
       subst this
       exact ⟨c',ec',o,k _ _ ho,hd⟩
 . obtain ⟨v,o,ho,hd⟩:=I.cell x c (snd x c e)
   exact ⟨v,o,k _ _ ho,hd⟩
 . show (List.replicate own none++ix.map λ j=>(σ[j]?).join).length=Nc.length
   rw [List.length_append,List.length_replicate,List.length_map,B.len]
abbrev lstO (its:List Value):Obj:=LCg.lst its
theorem Inv.ztg {s':Shared} {pins':List (Addr×Obj)} {σ':St} {ys:List V} {its:List Value} (I:Inv X pins σ H s) (hf:∀ b∈fp,FpOk X pins H b)
   (J:Inv (cxB X Nc scope C fp s H) pins' σ' H' s') (hD:s.heap.objs.size<=D) (hDo:s'.heap.get? D=some (lstO its)) (hDn:H' D=none) (r:Vals ys its) (hz:ys.length<=sizeLine) :
   Inv X pins σ (upd H' D (.lst ys)) s':=by
 have old:∀ b o,s.heap.get? b=some o->b≠D:=λ b o e=>Nat.ne_of_lt (Nat.lt_of_lt_of_le (Heap.lt_size e) hD)
 have trd:∀ b u,H b=some u->b≠D:=λ b u e=>Nat.ne_of_lt (Nat.lt_of_lt_of_le (I.hok.lt e) hD)
 refine I.zr9 (ch:=fp) J.os ⟨λ b o q n hb hx=>J.base.keep b o q n hb hx,λ b o q n hb hx=>J.base.slot b o q n hb hx,λ b o q n hx=>?_,λ b o q hx=>J.base.there b o q hx,λ b xs q=>?_,λ b o u q=>?_,λ b ps q=>?_⟩ (λ b u e=>?_) J.bare λ b hb=>?_
 . rw [zae (old b o q)]; exact J.base.free b o q n hx
 . rw [zae (trd b _ q)]; exact J.base.tups b xs q
 . rw [zae (trd b _ q)]; exact J.base.frzs b o u q
 . obtain ⟨more,e⟩:=J.base.tbls b ps q
   exact ⟨more,by rw [zae (trd b _ q)]; exact e⟩
 . by_cases hb:b=D
   . subst hb
     rw [zab] at e
     cases e
     exact ⟨hz,its,its.length,r,hDo⟩
   . rw [zae hb] at e
     exact (J.hok b u e).stay (λ _ _ _ q=>q) (λ c q=>by rw [zae (zaf q hDn)]; exact q) λ c xs q=>by rw [zae (zaf q hDn)]; exact q
 . obtain ⟨_,f1,_,f3,f4,f5⟩:=hf b hb
   exact ⟨f3,f1,f4,f5⟩
end
def zsl:TT:=λ _ H Q=>Q true H
def PTs (X:Cx) (ifs:List Expr) (t:TT):Prop:=(ifs=[]/\t=zsl)\/∃ c,ifs=[c]/\PT X c t
theorem zek {X:Cx}:PTs X [] zsl:=.inl ⟨rfl,rfl⟩
theorem zff {X:Cx} {c:Expr} {t:TT} (h:PT X c t):PTs X [c] t:=.inr ⟨c,rfl,h⟩
def ztm (X:Cx) (t:TT) (Q:Bool->Shared->Prop) (s:Shared):Prop :=
 ∃ pins σ H Qa,Inv X pins σ H s/\t σ H Qa/\∀ b H' s',Inv X pins σ H' s'->Qa b H'->Q b s'
theorem PTs.by {X:Cx} {ifs:List Expr} {t:TT} (h:PTs X ifs t) (hx:X.xe=NoX):zpX (model X.prog X.w) X.A ifs X.env (ztm X t):=by
 rcases h with ⟨rfl,rfl⟩ | ⟨c,rfl,h⟩
 . exact .inl ⟨rfl,λ Q s ⟨pins,σ,H,Qa,I,q,k⟩=>k true H s I q⟩
 . refine .inr ⟨c,rfl,λ Q s ⟨pins,σ,H,Qa,I,q,k⟩=>?_⟩
   have:=h pins s σ H _ I q
   rw [hx] at this
   exact thn this λ b s' ⟨H',I',z⟩=>k b H' s' I' z
def ziG (J:It) (g:TG) (tt:TT) (te:TE) (σ₀:St) (H:Hp) (Fin:List V->Hp->Prop):Prop :=
 ∃ W:Nat->Nat->List V->St->Hp->Prop,(∃ m,W 0 m [] σ₀ H)/\∀ i m ys σ H,W i m ys σ H ->
  (J.stop i H/\Fin ys H)\/(J.go i H/\ys.length < sizeLine/\∀ x H',J.yld i H x H'->g x σ H' λ σ2 H2=>tt σ2 H2 λ b H3 =>
   if b=true then te σ2 H3 λ y H4=>∃ m',m' < m/\W (i+1) m' (ys++[y]) σ2 H4 else ∃ m',m' < m/\W (i+1) m' ys σ2 H3)
section
variable {X:Cx} {scope:Scope} {own:Nat} {ix:List Nat} {Nc:List Str} {target iter elt:Expr} {ifs:List Expr} {pos:Pos} {wi:TI} {g:TG} {tt:TT} {te:TE}
theorem zi4 {pins:List (Addr×Obj)} {σ:St} {H2:Hp} {s2:Shared} {it:Addr} {fp:List Addr} {tn:Nat->Heap->Prop} {J:It} {Fin:List V->Hp->Prop} {E:Value->Shared->Prop} {RR:Value->Addr->Result->Shared->Prop}
  (hc:X.calm=true) (B:Blk X scope own ix Nc) (I2:Inv X pins σ H2 s2) (T:Turn X.prog X.w X.K target J fp it tn) (st:tn 0 s2.heap) (hf:∀ b∈fp,FpOk X pins H2 b)
  (hg:∀ C,PG (cxB X Nc scope C fp s2 H2) target g) (ht:∀ C,PTs (cxB X Nc scope C fp s2 H2) ifs tt) (he:∀ C,PE (cxB X Nc scope C fp s2 H2) elt te)
  (hw:ziG J g tt te (zc8 own ix σ) H2 Fin)
  (hRR:∀ D C s' ys H' m',Inv X pins σ (upd H' D (.lst ys)) s'->H' D=none->Fin ys H'->s'.heap.Ns C m'->H' C=none->D≠C->s2.heap.objs.size<=C->RR (.ref D) C (.ok .next) s') :
  wpAny (model X.prog X.w) X.A (newList []) (λ acc s₃=>wpAny (model X.prog X.w) X.A (newFunctionEnv scope X.env.globals (clOf scope X.env.cells) [] X.env.qual none .none (some X.env)) (λ cenv s₄ =>
    codeAny (model X.prog X.w) X.A (.compStart (.ListComp elt [⟨target,iter,ifs,0⟩] scope pos) 0 (.ref it) acc { cenv with scope:=relabel scope X.env }) (RR acc cenv.locals) s₄) E s₃) E s2:=by
 refine wpAny_newObj_type (wpAny_newFunctionEnv B.zqX (by intro y hy; simp at hy) (λ h₁ hns₁ hsb₁=>?_) B.kind)
 dsimp only at hns₁ hsb₁ ⊢
 generalize hH2:s2.heap.push { cls:=.type "list",dict:=none,data:=.seq ([]:List Value).toArray }=G2 at hns₁ hsb₁ ⊢
 have hC:G2.objs.size=s2.heap.objs.size+1:=by rw [<-hH2,Heap.size_push]
 have hDC:s2.heap.objs.size≠G2.objs.size:=by rw [hC]; exact Nat.ne_of_lt (Nat.lt_succ_self _)
 have hCle:s2.heap.objs.size<=G2.objs.size:=by rw [hC]; exact Nat.le_succ _
 have below:∀ b,b < s2.heap.objs.size->b≠G2.objs.size/\b≠s2.heap.objs.size:=λ b hb=>⟨by rw [hC]; exact Nat.ne_of_lt (Nat.lt_succ_of_lt hb),Nat.ne_of_lt hb⟩
 have old:∀ b o,s2.heap.get? b=some o->h₁.get? b=some o:=λ b o e=>hsb₁.extBut b o (below b (Heap.lt_size e)).1 (Heap.get?_push_of_some _ (hH2 ▸ Heap.get?_push_of_some _ e))
 have hacc:h₁.get? s2.heap.objs.size=some (lstO []):=hsb₁.extBut _ _ hDC (Heap.get?_push_of_some _ (hH2 ▸ Heap.get?_push_size _ rfl))
 have hfo:∀ b∈fp,∃ o,s2.heap.get? b=some o:=λ b hb=>let ⟨o,e,_⟩:=T.obj 0 _ st b hb; ⟨o,e⟩
 have flt:∀ b∈fp,b < s2.heap.objs.size:=λ b hb=>let ⟨o,e⟩:=hfo b hb; Heap.lt_size e
 have I0:Inv (cxB X Nc scope G2.objs.size fp s2 H2) [] (zc8 own ix σ) H2 { s2 with heap:=h₁,toks:=s2.toks+([]:List (Str×Value)).length }:=I2.blk hc B hf hfo hns₁ old hCle
 have st1:tn 0 h₁:=T.keep 0 _ _ st λ b _ o e=>old b o e
 have hDfs:s2.heap.objs.size∉frs X.stack:=λ z=>by
  obtain ⟨_,o,ho,_⟩:=I2.stack.mem z
  exact absurd (Heap.lt_size ho) (Nat.lt_irrefl _)
 have ffs:∀ b∈fp,b∉frs X.stack:=λ b hb z=>by
  obtain ⟨_,f1,f2,_⟩:=hf b hb
  rcases List.mem_cons.mp (I2.zmQ b z) with y | y
  . exact f1 y
  . exact f2 y
 have fcl:∀ b∈fp,∀ x c,(clOf scope X.env.cells).lookup x=some c->c≠b:=λ b hb x c e=>(hf b hb).2.2.2.2.1 x c (zg6 scope.names [] (λ _ z=>by cases z) e)
 have dcl:∀ x c,(clOf scope X.env.cells).lookup x=some c->c≠s2.heap.objs.size:=λ x c e z=>by
  obtain ⟨v,q⟩:=I2.cell x c (zg6 scope.names [] (λ _ z=>by cases z) e)
  exact absurd q.lt (by rw [z]; exact Nat.lt_irrefl _)
 obtain ⟨W,⟨m0,w0⟩,turn⟩:=hw
 have loop:∀ s₃:Shared,s₃={ s2 with heap:=h₁,toks:=s2.toks+([]:List (Str×Value)).length } ->
    codeAny (model X.prog X.w) X.A (.compLoop (.ListComp elt [⟨target,iter,ifs,0⟩] scope pos) 0 (.ref it) (.ref s2.heap.objs.size) (compEnvC scope (clOf scope X.env.cells) G2.objs.size X.env))
     (RR (.ref s2.heap.objs.size) G2.objs.size) s₃:=by
  rintro s₃ rfl
  refine zle ((ht G2.objs.size).by rfl) (λ n s'=>∃ i ys its σ' H',Inv (cxB X Nc scope G2.objs.size fp s2 H2) [] σ' H' s'/\tn i s'.heap/\(∀ b∈fp,H' b=none)/\s'.heap.get? s2.heap.objs.size=some (lstO its)/\H' s2.heap.objs.size=none/\Vals ys its/\ys.length<=sizeLine/\W i n ys σ' H')
    ?_ m0 ⟨0,[],[],_,H2,I0,st1,λ b hb=>(hf b hb).1,hacc,I2.hok.fresh (Nat.le_refl _),.nil,Nat.zero_le _,w0⟩
  rintro n s3 ⟨i,ys,its,σ3,H3,I3,st3,fr3,hD3,nD3,r3,z3,w3⟩
  have Ip:Inv (cxB X Nc scope G2.objs.size fp s2 H2) [(s2.heap.objs.size,lstO its)] σ3 H3 s3:=I3.zhp λ p hp=>by
    have e:p=(s2.heap.objs.size,lstO its):=by simpa using hp
    subst e
    exact ⟨hD3,nD3,hDC,hDfs,λ v z=>by cases z⟩
  have fpk:∀ {H':Hp},(∀ b∈fp,H' b=none)->∀ b∈fp,FpOk (cxB X Nc scope G2.objs.size fp s2 H2) [(s2.heap.objs.size,lstO its)] H' b:=λ hn b hb =>
    ⟨hn b hb,(below b (flt b hb)).1,ffs b hb,.inl hb,fcl b hb,λ p hp=>by
     have hp':p∈([]:List (Addr×Obj))++[(s2.heap.objs.size,lstO its)]:=hp
     have e:p=(s2.heap.objs.size,lstO its):=by simpa using hp'
     subst e
     exact Ne.symm (below b (flt b hb)).2⟩
  rcases turn i n ys σ3 H3 w3 with ⟨stop,fin⟩ | ⟨go,hlen,step⟩
  . refine thn (T.done (cxB X Nc scope G2.objs.size fp s2 H2) rfl rfl rfl rfl i _ s3 σ3 H3 NoX Ip (fpk fr3) st3 stop) λ r s4 ⟨hr,I4⟩=>.inl ⟨hr,?_⟩
    obtain ⟨m4,n4,_⟩:=I4.loc
    have pD:=I4.pin (s2.heap.objs.size,lstO its) (by simp)
    exact hRR _ _ s4 ys H3 m4 (I2.ztg hf I4 (Nat.le_refl _) pD.1 nD3 r3 z3) nD3 fin n4 I4.free hDC hCle
  . refine thn (T.item (cxB X Nc scope G2.objs.size fp s2 H2) rfl rfl rfl rfl i _ s3 σ3 H3 NoX Ip (fpk fr3) st3 go) λ r s4 ⟨u,hr,h4⟩=>.inr ⟨u,hr,?_⟩
    refine thn h4 λ _ s5 ⟨x,H5,I5,r5,y5,st5,fr5⟩=>?_
    have I5':=I5.pinned (fpk fr5) (T.obj _ _ st5)
    have keepT:∀ {σ8:St} {H8:Hp} {s8:Shared},Inv (cxB X Nc scope G2.objs.size fp s2 H2) ([(s2.heap.objs.size,lstO its)]++zkz fp s5.heap) σ8 H8 s8->tn (i+1) s8.heap/\(∀ b∈fp,H8 b=none)/\s8.heap.get? s2.heap.objs.size=some (lstO its)/\H8 s2.heap.objs.size=none:=λ {σ8 H8 s8} I8=>by
     have pin8:∀ b∈fp,∀ o,s5.heap.get? b=some o->s8.heap.get? b=some o/\H8 b=none:=λ b hb o e=>by
      have:=I8.pin (b,o) (List.mem_append_right _ (List.mem_append_right _ (zgc hb e)))
      exact ⟨this.1,this.2.1⟩
     have pD:=I8.pin (s2.heap.objs.size,lstO its) (by simp)
     refine ⟨T.keep _ _ _ st5 λ b hb o e=>(pin8 b hb o e).1,λ b hb=>?_,pD.1,pD.2.1⟩
     obtain ⟨o,e,_⟩:=T.obj _ _ st5 b hb
     exact (pin8 b hb o e).2
    refine thn (hg _ _ s5 σ3 H5 x u _ I5' r5 (step x H5 y5)) λ _ s6 ⟨σ6,H6,I6,q6⟩=>⟨_,σ6,H6,_,I6,q6,λ b H7 s7 I7 q7=>?_⟩
    cases b with
    | false =>
     rw [if_neg Bool.false_ne_true] at q7 ⊢
     obtain ⟨m',hm,w7⟩:=q7
     obtain ⟨k1,k2,k3,k4⟩:=keepT I7
     exact ⟨m',hm,i+1,ys,its,σ6,H7,I7.zhp (λ p hp=>by cases hp),k1,k2,k3,k4,r3,z3,w7⟩
    | true =>
     rw [if_pos rfl] at q7 ⊢
     refine thn (he _ _ s7 σ6 H7 _ I7 q7) λ v s8 ⟨y,H8,I8,r8,m',hm,w8⟩=>?_
     obtain ⟨k1,k2,k3,k4⟩:=keepT I8
     have il:its.length=ys.length:=r3.length.symm
     refine append_at (hsz:=by show its.toArray.size<=sizeLine; rw [List.size_toArray,il]; exact z3) k3 λ h9 hs9 hD9=>?_
     have I9:Inv (cxB X Nc scope G2.objs.size fp s2 H2) [] σ6 H8 { s8 with heap:=h9 }:=Inv.turned (t':=s8.toks) (it:=s2.heap.objs.size) (I8.zhp (pins':=[]) λ p hp=>by cases hp) (λ b o hb e=>(hs9.2 b hb).trans e) k4 hDC (.inr (Nat.le_refl _)) dcl λ p hp=>by cases hp
     refine ⟨m',hm,i+1,ys++[y],its++[v],σ6,H8,I9,T.keep _ _ _ k1 λ b hb o e=>(hs9.2 b (below b (flt b hb)).2).trans e,k2,hD9.trans (congrArg some (LCg.lst_snoc its v)),k4,r3.append (.cons r8 .nil),?_,w8⟩
     rw [List.length_append,List.length_singleton]; exact hlen
 exact codeAny_compStart_list (loop _ rfl) (T.self X.A 0 _ _ _ st1 (loop _ rfl))
def zrn (own:Nat) (ix:List Nat) (wi:TI) (g:TG) (tt:TT) (te:TE):TE:=λ σ H Q=>wi σ H λ J H1=>ziG J g tt te (zc8 own ix σ) H1 λ ys H2=>∀ p,H2 p=none->Q (.ref p) (upd H2 p (.lst ys))
theorem zcV (own:Nat) (ix:List Nat) (Nc:List Str) (hc:X.calm=true) (B:Blk X scope own ix Nc) (hi:PI X target iter wi)
  (hg:∀ C fp s H,PG (cxB X Nc scope C fp s H) target g) (ht:∀ C fp s H,PTs (cxB X Nc scope C fp s H) ifs tt) (he:∀ C fp s H,PE (cxB X Nc scope C fp s H) elt te)
  (hs:∀ x,foldedSetIterable iter X.env x=pure x:=by intro _; rfl):PE X (.ListComp elt [⟨target,iter,ifs,0⟩] scope pos) (zrn own ix wi g tt te):=by
 intro pins s σ H Q I h
 rw [eval_ListComp]
 have hcl:closureFor scope X.env=pure (clOf scope X.env.cells):=zi6 λ y hy hk=>I.ok.has y.1 (B.free y hy hk)
 refine wpAny_comprehension_free (use:=none) rfl hs hcl B.kind B.names (thn (hi pins s σ H _ I h) λ xv s1 h1=>thn h1 λ itv s2 h2=>?_)
 obtain ⟨it,fp,tn,J,H2,e,I2,T,st2,f2,hw⟩:=h2
 subst e
 refine zi4 (RR:=λ acc C=>compPost (model X.prog X.w) X.A X.xe none (EP X pins σ Q) acc C) hc B I2 T st2 f2 (λ C=>hg C fp s2 H2) (λ C=>ht C fp s2 H2) (λ C=>he C fp s2 H2) hw ?_
 intro D C s' ys H' m' J' hD fin hn hC hDC hCle
 refine ⟨m',hn,λ h'' hs''=>⟨.ref D,upd H' D (.lst ys),?_,rfl,fin D hD⟩⟩
 have hCf:=I2.fpOk (H':=upd H' D (.lst ys)) hCle (by rw [zae (Ne.symm hDC)]; exact hC)
 obtain ⟨f0,f1,_,f3,f4,f5⟩:=hCf
 exact Inv.turned (t':=s'.toks) (it:=C) J' (λ b o hb e=>(hs''.2 b hb).trans e) f0 f1 f3 f4 f5
theorem zeD {i:Nat} {x:Str} {pos' spos:Pos} (own:Nat) (ix:List Nat) (Nc:List Str) (hN:X.N.Nodup) (hxi:X.N[i]?=some x) (hx:Loc X.env.scope x) (hc:X.calm=true) (B:Blk X scope own ix Nc) (hi:PI X target iter wi)
  (hg:∀ C fp s H,PG (cxB X Nc scope C fp s H) target g) (ht:∀ C fp s H,PTs (cxB X Nc scope C fp s H) ifs tt) (he:∀ C fp s H,PE (cxB X Nc scope C fp s H) elt te)
  (hsw:swapsWith (.ListComp elt [⟨target,iter,ifs,0⟩] scope pos) (some (.Name x pos')) spos.line X.env=pure true:=by rfl)
  (hs:∀ x,foldedSetIterable iter X.env x=pure x:=by intro _; rfl) (hf:X.fn x=true\/X.env.scope.names.lookup x=some .local:=by first | exact .inl rfl | exact .inr rfl | assumption) :
  PS X (.Assign [.Name x pos'] (.ListComp elt [⟨target,iter,ifs,0⟩] scope pos) spos) (tAsg (zrn own ix wi g tt te) (zn5 i)):=by
 intro pins s σ H DD I h
 rw [exec_Assign_Name_used _ _ _ _ hsw]
 refine wpAny_bind (wpAny_standAt (wpAny_bind ?_))
 show wpAny _ X.A (do let _ <-comprehension (.ListComp elt [⟨target,iter,ifs,0⟩] scope pos) scope X.env _ (newList []) false (eval iter X.env) (some (assign (.Name x pos') X.env))) _ _ s
 have hcl:closureFor scope X.env=pure (clOf scope X.env.cells):=zi6 λ y hy hk=>I.ok.has y.1 (B.free y hy hk)
 refine wpAny_bind (wpAny_mono (wpAny_comprehension_free (use:=some (assign (.Name x pos') X.env)) (Q:=λ _ s'=>SP X pins DD .next s') rfl hs hcl B.kind B.names
  (thn (hi pins s σ H _ I h) λ xv s1 h1=>thn h1 λ itv s2 h2=>?_)) (λ _ s' hq=>wpAny_pure (wpAny_pure hq)) λ _ _ e=>e)
 obtain ⟨it,fp,tn,J,H2,e,I2,T,st2,f2,hw⟩:=h2
 subst e
 refine zi4 (RR:=λ acc C=>compPost (model X.prog X.w) X.A X.xe (some (assign (.Name x pos') X.env)) (λ _ s'=>SP X pins DD .next s') acc C) hc B I2 T st2 f2 (λ C=>hg C fp s2 H2) (λ C=>ht C fp s2 H2) (λ C=>he C fp s2 H2) hw ?_
 intro D C s' ys H' m' J' hD fin hn hC hDC hCle
 have hCf:=I2.fpOk (H':=upd H' D (.lst ys)) hCle (by rw [zae (Ne.symm hDC)]; exact hC)
 obtain ⟨f0,f1,_,f3,f4,f5⟩:=hCf
 show wpAny _ X.A (assign (.Name x pos') X.env (.ref D)) _ _ s'
 refine wpAny_assign_Name (zke (v:=V.ref D) J' hN hxi hx rfl (λ s3 I3 ⟨a,sb,ha⟩=>?_) hf)
 have hCa:C≠a:=by
  rcases ha with z | z
  . rw [z]; exact f1
  . exact Ne.symm (f4 x a z)
 refine ⟨m',hn.sameBut sb hCa,λ h'' hs''=>⟨_,upd H' D (.lst ys),?_,fin D hD⟩⟩
 exact Inv.turned (t':=s3.toks) (it:=C) I3 (λ b o hb e=>(hs''.2 b hb).trans e) f0 f1 f3 f4 f5
end
end L2
end
section
namespace L2
open PySem PySem.Spec PyProof.Rows PySem.W
theorem zbH.there {P:Program} {w:World} {H:Hp} {h:Heap} {a:Addr} {o:HO} (x:zbH P w H h a o):∃ ob,h.get? a=some ob:=by
 cases o with
 | lst _=>obtain ⟨_,_,_,_,e⟩:=x; exact ⟨_,e⟩
 | tup _=>obtain ⟨_,_,_,ob,e,_⟩:=x; exact ⟨ob,e⟩
 | dK _=>obtain ⟨_,_,_,_,ob,_,_,e,_⟩:=x; exact ⟨ob,e⟩
 | dT _=>obtain ⟨_,_,_,_,ob,_,_,e,_⟩:=x; exact ⟨ob,e⟩
 | set _ _=>obtain ⟨ob,_,_,_,e,_⟩:=x; exact ⟨ob,e⟩
 | ins _ _ _=>obtain ⟨_,_,_,e,_⟩:=x; exact ⟨_,e⟩
 | own _=>exact x
 | xd _=>obtain ⟨_,⟨ob,_,_,e,_⟩,_⟩:=x; exact ⟨ob,e⟩
 | rng _ _=>obtain ⟨_,_,_,e⟩:=x; exact ⟨_,e⟩
 | frz ob _=>exact ⟨ob,x.1⟩
 | tbl _=>exact ⟨_,x⟩
 | met _ _=>exact ⟨_,x⟩
 | ext _=>exact x.2.1
theorem Un.fly {fs:List Addr} {H H':Hp} {h h1 h2 B:Heap} (u:Un fs [] H H' h h1)
  (hB:∀ b o,h1.get? b=some o->b∉fs->((∃ o',h.get? b=some o')\/∃ v,H' b=some v)->B.get? b=some o) (hs:B.StaysIn h2) (sl:h1.UpToSlots h2)
  (hfs:∀ b∈fs,∀ o,h1.get? b=some o->∀ vs,o.data≠.fields vs):Un fs [] H H' h h2 where
 keep:=λ b o q n hb hx=>hs b o (hB b o (u.keep b o q n hb hx) hb (.inl ⟨o,q⟩))
 slot:=λ b o q n hb hx=>by
  obtain ⟨s1,e1⟩:=u.slot b o q n hb hx
  obtain ⟨s2,e2⟩:=sl b _ e1 (hfs b hb _ e1)
  exact ⟨s2,e2⟩
 free:=u.free
 there:=λ b o q hx=>by
  obtain ⟨o1,e1⟩:=u.there b o q hx
  by_cases hb:b∈fs
  . obtain ⟨s2,e2⟩:=sl b _ e1 (hfs b hb _ e1)
    exact ⟨_,e2⟩
  . exact ⟨o1,hs b o1 (hB b o1 e1 hb (.inl ⟨o,q⟩))⟩
 tups:=u.tups
 frzs:=u.frzs
 tbls:=u.tbls
theorem HOk.fly {P:Program} {w:World} {fs:List Addr} {H':Hp} {h1 h2 B:Heap} (x:HOk P w H' h1) (hB:∀ b o,h1.get? b=some o->b∉fs->(∃ v,H' b=some v)->B.get? b=some o) (hs:B.StaysIn h2) (hf:∀ b∈fs,H' b=none):HOk P w H' h2:=λ a o e =>
 (x a o e).stay (λ b u hb q=>by
  have tr:∃ v,H' b=some v:=by
   rcases hb with rfl | hb
   . exact ⟨o,e⟩
   . exact ⟨_,hb⟩
  have nf:b∉fs:=λ z=>by
   obtain ⟨v,hv⟩:=tr
   rw [hf b z] at hv; cases hv
  exact hs b u (hB b u q nf tr)) (λ _ q=>q) λ _ _ q=>q
def CX1 (P:Program) (w:World):CXT:=λ outer H s E e s'=>∃ (ex C t:Addr) (B:Heap) (H':Hp),e=.ref ex/\s'.os=s.os/\AllBare s'.gens/\Un (frs outer) [] H H' s.heap s'.heap/\HOk P w H' s'.heap /\
 (∀ b o,s'.heap.get? b=some o->b∉frs outer->((∃ o',s.heap.get? b=some o')\/∃ v,H' b=some v)->B.get? b=some o)/\Heap.FlyingW B outer ex (.ref C) (.ref t) s'.heap/\E (.ref C) none H'
def Raises (X:Cx) (E:XK):Prop:=∀ (pins:List (Addr×Obj)) (σ:St) (H:Hp) (s:Shared) (e C:Addr) (h':Heap) (vs:List Value),Inv X pins σ H s->Heap.MadeExcOf s.heap h' e (.ref C) vs->E (.ref C) none H->X.xe (.ref e) { s with heap:=h' }
section
variable {P:Program} {w:World} {K:Frag} {mg:Str->Option Value} {base:Heap} {N:List Str} {qual:Str} {scope:Scope} {f:Addr} {cd:Value} {A:Around} {outer:List Env} {s₀:Shared} {H₀:Hp} {E:XK}
theorem zhn:Raises (cxOf (CX1 P w) P w K mg base N qual scope f cd A outer s₀ H₀ E) E:=by
 intro pins σ H s e C h' vs I hx hE
 have hmem:∀ env∈(envOfC qual scope s₀.heap.objs.size f cd::outer),∀ b,env.frame=some b->b∈frs (envOfC qual scope s₀.heap.objs.size f cd::outer):=λ env he b hb=>List.mem_filterMap.mpr ⟨env,he,hb⟩
 refine wpAny_leaves_madeW (base:=hideAll s.heap (frs (envOfC qual scope s₀.heap.objs.size f cd::outer))) (h:=s.heap) I.ok.frames rfl (λ b o q=>of_hideAll _ q) (funFrames_hide I.stack hmem) hx λ h2 t fly _ _ sl=>?_
 have keep:∀ b o,s.heap.get? b=some o->b∉frs (envOfC qual scope s₀.heap.objs.size f cd::outer)->h2.get? b=some o:=λ b o q nb=>fly.1 b o (hideAll_get _ q nb)
 have sub:∀ b,b∈frs (envOfC qual scope s₀.heap.objs.size f cd::outer)->b=s₀.heap.objs.size\/b∈frs outer:=λ b hb=>by
  rcases List.mem_cons.mp (show b∈s₀.heap.objs.size::frs outer from hb) with z | z
  . exact .inl z
  . exact .inr z
 have nb:∀ b,b∉frs outer->((∃ o',s₀.heap.get? b=some o')\/∃ v,H b=some v)->b∉frs (envOfC qual scope s₀.heap.objs.size f cd::outer):=λ b h1 h2 hb=>by
  rcases sub b hb with z | z
  . rcases h2 with ⟨o',q⟩ | ⟨v,q⟩
    . rw [z] at q; exact absurd (Heap.lt_size q) (Nat.lt_irrefl _)
    . have:=I.free
      have this':H s₀.heap.objs.size=none:=this
      rw [z,this'] at q; cases q
  . exact h1 z
 have hB:∀ b o,s.heap.get? b=some o->b∉frs outer->((∃ o',s₀.heap.get? b=some o')\/∃ v,H b=some v)->(hideAll s.heap (frs (envOfC qual scope s₀.heap.objs.size f cd::outer))).get? b=some o:=λ b o q h1 h2=>hideAll_get _ q (nb b h1 h2)
 have sl':s.heap.UpToSlots h2:=(Heap.UpToSlots.of_keeps hx.keeps).trans sl
 have hfs:∀ b∈frs outer,∀ o,s.heap.get? b=some o->∀ vs,o.data≠.fields vs:=λ b hb o q=>by
  have hb':b∈frs (envOfC qual scope s₀.heap.objs.size f cd::outer):=List.mem_cons_of_mem s₀.heap.objs.size hb
  obtain ⟨_,o',q',hd⟩:=I.stack.mem hb'
  rw [q] at q'; cases q'
  exact hd
 refine ⟨e,C,t,_,H,rfl,I.os,I.bare,(show Un (frs outer) [] H₀ H s₀.heap s.heap from I.base).fly hB fly.1 sl' hfs,HOk.fly (fs:=frs outer) I.hok (λ b o q h1 h2=>hB b o q h1 (.inr h2)) fly.1 (λ b hb=>I.zha b (List.mem_cons_of_mem s₀.heap.objs.size hb)),λ b o q h1 h2=>?_,fly,hE⟩
 have ⟨o1,e1⟩:∃ o1,s.heap.get? b=some o1:=by
  rcases h2 with ⟨o',q'⟩ | ⟨v,q'⟩
  . exact I.base.there b o' q' (by intro z; cases z)
  . exact (I.hok b v q').there
 have e2:=hB b o1 e1 h1 h2
 have e3:=fly.1 b o1 e2
 have:o=o1:=Option.some.inj (q.symm.trans e3)
 rw [this]; exact e2
theorem zbE:Passes (CX1 P w) (cxOf (CX1 P w) P w K mg base N qual scope f cd A outer s₀ H₀ E) E:=by
 intro pins σ H s e s' I hc
 obtain ⟨ex,C,t,B,H',rfl,os,bare,un,hok,hB,fly,hE⟩:=hc
 have J:Inv (cxOf (CX1 P w) P w K mg base N qual scope f cd A outer s₀ H₀ E) pins σ H' s':=I.zr9 (ch:=[]) os un hok bare λ b z=>by cases z
 refine wpAny_leaves_onW I.ok.frames rfl fly λ h2 fly2 sl=>?_
 have toStack:∀ b,b∈frs outer->b∈frs (envOfC qual scope s₀.heap.objs.size f cd::outer):=λ b hb=>List.mem_cons_of_mem s₀.heap.objs.size hb
 have hB':∀ b o,s'.heap.get? b=some o->b∉frs outer->((∃ o',s₀.heap.get? b=some o')\/∃ v,H' b=some v)->B.get? b=some o:=λ b o q h1 h2=>by
  refine hB b o q (λ hb=>?_) (h2.imp (λ ⟨o',q'⟩=>I.base.there b o' q' (λ z=>by cases z)) id)
  rcases List.mem_cons.mp (show b∈s₀.heap.objs.size::frs outer from hb) with z | z
  . rcases h2 with ⟨o',q'⟩ | ⟨v,q'⟩
    . rw [z] at q'; exact absurd (Heap.lt_size q') (Nat.lt_irrefl _)
    . have fr:H' s₀.heap.objs.size=none:=J.free
      rw [z,fr] at q'; cases q'
  . exact h1 z
 have hfs:∀ b∈frs outer,∀ o,s'.heap.get? b=some o->∀ vs,o.data≠.fields vs:=λ b hb o q=>by
  obtain ⟨_,o',q',hd⟩:=J.stack.mem (toStack b hb)
  rw [q] at q'; cases q'
  exact hd
 refine ⟨ex,C,t,B,H',rfl,J.os,J.bare,(show Un (frs outer) [] H₀ H' s₀.heap s'.heap from J.base).fly hB' fly2.1 sl hfs,HOk.fly (fs:=frs outer) J.hok (λ b o q h1 h2=>hB' b o q h1 (.inr h2)) fly2.1 (λ b hb=>J.zha b (toStack b hb)),λ b o q h1 h2=>?_,fly2,hE⟩
 obtain ⟨o1,e1⟩:∃ o1,s'.heap.get? b=some o1:=by
  rcases h2 with ⟨o',q'⟩ | ⟨v,q'⟩
  . exact J.base.there b o' q' (by intro z; cases z)
  . exact (J.hok b v q').there
 have e2:=hB' b o1 e1 h1 h2
 have:o=o1:=Option.some.inj (q.symm.trans (fly2.1 b o1 e2))
 rw [this]; exact e2
end
theorem zr2 {K:Frag} {h:Heap} {C:Addr} {bmB:List Value} {newId:String} (X:K.In h) (q:excIn K C bmB newId=true) :
  ∃ bm N nm qn bs hd sn sub ab col dd k0 k1 k2 k3 k5 mN,h.get? C=some (excClassObj nm qn C N bs bm hd sn sub ab col dd k0 k1 k2 k3 k5 newId)/\h.Ns N mN/\mN "__init__" = none/\OwnTail h bmB bm:=by
 unfold excIn at q
 split at q
 case h_2=>cases q
 case h_1 dd cd sl ho =>
  split at q
  case h_2=>cases q
  case h_1 C' bm k0 k1 k2 k3 n k5 hm hs =>
   simp only [Bool.and_eq_true,beq_iff_eq,Bool.not_eq_true'] at q
   obtain ⟨⟨⟨⟨⟨e1,e2⟩,hdel⟩,tl⟩,ok⟩,ni⟩:=q
   subst e1 e2
   obtain ⟨nm,bs,mro,ns,qn,hdc,sn,sub,ab,col,del⟩:=cd
   simp only at hm hdel ok ni
   subst hm hdel
   have es:sl=#[k0,k1,k2,k3,some (.builtin n),k5]:=by
    cases sl with
    | mk l=>simp only at hs; rw [hs]
   subst es
   exact ⟨bm,ns,nm,qn,bs,hdc,sn,sub,ab,col,dd,k0,k1,k2,k3,k5,_,X _ _ ho,.of_isNs (isNs_of_in X ok),nsMap_none_of_in X ok ni,tail_of_in X tl⟩
def zov (C:Addr) (E:XK) (t:TA):TS:=λ _ σ H=>t σ H λ vs H1=>vs.length<=sizeLine/\E (.ref C) none H1
section
variable {X:Cx} {E:XK} {x:Str} {C:Addr} {e₀:Expr} {rest:List Expr} {t:TA} {np cpos pos:Pos} {B newId initId:String} {bm:List Value}
theorem zjn (hr:Raises X E) (hc:X.calm=true) (hg:Gl X x) (hm:X.mg x=some (.ref C)) (q:excIn X.K C bm newId=true) (FB:ExcBaseFacts B newId initId bm) (ha:PA X (e₀::rest) t)
  (hd:(x == ("__debug__" : Str))=false:=by decide) (he:starEach (e₀::rest) X.env=(false,eval e₀ X.env)::starEach rest X.env:=by rfl) (hpl:(backTo cpos (starEach rest X.env)).any (·.1)=false:=by rfl) :
  PS X (.Raise (some (.Call (.Name x np) (e₀::rest) [] cpos)) none pos) (zov C E t):=by
 intro pins s σ H D I h
 obtain ⟨tl,N,nm,qn,bs,hdc,sn,sub,ab,col,dd,k0,k1,k2,k3,k5,mN,hC,hN,hni,T⟩:=zr2 I.ok.mod.kin q
 have hb:(backTo cpos (starEach (e₀::rest) X.env)).any (·.1)=false:=by
  rw [he]
  show (false || (backTo cpos (starEach rest X.env)).any (·.1))=false
  rw [hpl]; rfl
 refine wpAny_Raise_call_subT (C:=C) (nm:=nm) (q:=qn) (N:=N) (bs:=bs) (bm:=tl) (hdct:=hdc) (sn:=sn) (sub:=sub) (ab:=ab) (col:=col) (dd:=dd) (k0:=k0) (k1:=k1) (k2:=k2) (k3:=k3) (k5:=k5) FB (mN:=mN) (T.hasType FB.hasBase) (I.ok.hd hc) hb hni (zge I hg hm ⟨rfl,?_⟩ hd)
 have hp:=ha cpos pins s σ H _ I h
 rw [he] at hp ⊢
 refine Calls.evalArgs_plain (thn hp λ us s1 ⟨vs,H1,I1,r1,z,hE⟩=>?_)
 exact ⟨rfl,by rw [<-r1.length]; exact z,I1.bk _ _ hC,hN.keeps I1.bk,T.keeps I1.bk,λ h' e mk=>hr pins σ H1 s1 e C h' us I1 mk hE⟩
end
theorem PS.nox {X:Cx} {st:Stmt} {t:TS} (h:PS X.nox st t):PS X st t:=λ pins s σ H D I hw =>
 wpAny_mono (h pins s σ H D (I.wish _) hw) (λ _ _ q=>SP.zfu q) λ _ _ z=>z.elim
theorem Fun.okX {K:Frag} {P:Program} {w:World} {mg:Str->Option Value} {base:Heap} {x qual:Str} {st:Stmt} {f:Addr} {fd:FuncData} {N ps:List Str} {k:Nat} {sp:Sp} (F:Fun K x qual st f fd) (S:zap N ps (zak st))
  (len:∀ vs H Q E,sp vs H Q E->vs.length=ps.length)
  (hb:∀ (cdv:Value) (A:Around) (outer:List Env) (s:Shared) (H:Hp) (vs:List V) (Q:VK) (E:XK),Room k (A.deeper (envOfC qual (zak st) s.heap.objs.size f cdv))->sp vs H Q E ->
   ∃ t,PSs (cxOf (CX1 P w) P w K mg base N qual (zak st) f cdv A outer s H E) (zhW st) t/\t { nx:=λ _ H'=>Q .non H',rt:=Q } (start N vs) H) :
  FnOk P w K mg base (CX1 P w) (k+1) f fd ps sp:=by
 obtain ⟨oc,od,kV,doc,pm,an,cdv,ct,osl,rfl,lk,hcd⟩:=F.ex
 exact ztQ lk hcd S len (hb cdv)
abbrev EF:XK:=λ _ _ _=>False
theorem zaF {X:Cx}:Passes (CX1 X.prog X.w) X EF:=λ _ _ _ _ _ _ _ ⟨_,_,_,_,_,_,_,_,_,_,_,_,h⟩=>h.elim
def cxH (X:Cx) (e:Value):Cx:={ X with A:=X.A.mark (some e),calm:=false,xe:=NoX }
theorem Inv.toH {X:Cx} {pins:List (Addr×Obj)} {σ:St} {H:Hp} {s:Shared} {e:Value} (I:Inv X pins σ H s):Inv (cxH X e) pins σ H s :=
 ⟨⟨I.ok.mod,I.ok.kind,I.ok.glob,I.ok.blt,I.ok.above,I.ok.inj,I.ok.has,I.ok.cab,λ z=>(by cases z),I.ok.frames,I.ok.stk,I.ok.exf,I.ok.bs,I.ok.bsz,I.ok.noex,I.ok.exfs,I.ok.funs,I.ok.frf⟩,I.os,I.bare,I.base,I.loc,I.cell,I.free,I.zd6,I.pin,I.hok,I.len⟩
theorem Inv.ofH {X:Cx} {pins:List (Addr×Obj)} {σ:St} {H:Hp} {s:Shared} {e:Value} {pins0:List (Addr×Obj)} {σ0:St} {H0:Hp} {s0:Shared} (I0:Inv X pins0 σ0 H0 s0) (I:Inv (cxH X e) pins σ H s):Inv X pins σ H s :=
 ⟨I0.ok,I.os,I.bare,I.base,I.loc,I.cell,I.free,I.zd6,I.pin,I.hok,I.len⟩
def cxT (X:Cx) (pn:List (Addr×Obj)) (xe:Value->Shared->Prop):Cx:={ X with pn:=pn,xe:=xe }
theorem Inv.toT {X:Cx} {pins:List (Addr×Obj)} {σ:St} {H:Hp} {s:Shared} {xe:Value->Shared->Prop} (I:Inv X pins σ H s):Inv (cxT X (X.pn++pins) xe) [] σ H s :=
 ⟨⟨I.ok.mod,I.ok.kind,I.ok.glob,I.ok.blt,I.ok.above,I.ok.inj,I.ok.has,I.ok.cab,I.ok.hd,I.ok.frames,I.ok.stk,I.ok.exf,I.ok.bs,I.ok.bsz,I.ok.noex,I.ok.exfs,I.ok.funs,I.ok.frf⟩,I.os,I.bare,I.base,I.loc,I.cell,I.free,I.zd6,λ p hp=>I.pin p (by have hp':p∈(X.pn++pins)++[]:=hp; rwa [List.append_nil] at hp'),I.hok,I.len⟩
theorem Inv.ofT {X:Cx} {pins pins':List (Addr×Obj)} {σ:St} {H:Hp} {s:Shared} {xe:Value->Shared->Prop} (I:Inv (cxT X (X.pn++pins) xe) pins' σ H s):Inv X pins σ H s :=
 ⟨⟨I.ok.mod,I.ok.kind,I.ok.glob,I.ok.blt,I.ok.above,I.ok.inj,I.ok.has,I.ok.cab,I.ok.hd,I.ok.frames,I.ok.stk,I.ok.exf,I.ok.bs,I.ok.bsz,I.ok.noex,I.ok.exfs,I.ok.funs,I.ok.frf⟩,I.os,I.bare,I.base,I.loc,I.cell,I.free,I.zd6,λ p hp=>I.pin p (List.mem_append_left _ hp),I.hok,I.len⟩
def tTry (C:Addr) (tb:XK->TS) (ts:TS):TS:=λ D σ H=>tb (λ cls _ H'=>cls=.ref C/\ts D (σ.map λ _=>none) H') D σ H
section
variable {X:Cx} {C:Addr} {x:Str} {body suite:List Stmt} {b₀:Stmt} {np hpos pos:Pos} {tb:XK->TS} {ts:TS}
theorem zsM (hc:X.calm=true) (hk:X.stack=X.env::X.outer) (hfr:X.env.frame=some X.env.locals) (hex:X.ex=[]) (hg:Gl X x) (hm:X.mg x=some (.ref C)) (q:ktsIn X.K C "BaseException" = true)
   (hb:∀ E pn xe,Passes (CX1 X.prog X.w) (cxT X pn xe) E->PSs (cxT X pn xe) body (tb E)) (hs:∀ e,PSs (cxH X e) (b₀::suite) ts)
   (hd:(x == ("__debug__" : Str))=false:=by decide) :
   PS X (.Try body [.ExceptHandler (some (.Name x np)) none (b₀::suite) hpos] [] [] pos) (tTry C tb ts):=by
 intro pins s σ H D I h
 refine wpAny_Try_except (wpAny_mono ((hb _ (X.pn++pins) _ ?pass) [] s σ H D I.toT h) (λ fl s' hq=>?_) λ e s' hq=>hq)
 case pass =>
   intro pins' σ' H1 s1 e s' I' hcx
   obtain ⟨ex,C',t,B,H',rfl,os,bare,un,hok,hB,fly,hC',hE⟩:=hcx
   obtain rfl:C'=C:=Value.ref.inj hC'
   have I1:Inv X pins σ' H1 s1:=I'.ofT
   have frm:X.A.frames=some (X.env::X.outer):=by rw [<-hk]; exact I.ok.frames
   have fly':Heap.FlyingW B (X.env::X.outer) ex (.ref C') (.ref t) s'.heap:=by rw [<-hk]; exact fly
   refine wpAny_looks_onW frm hfr fly' λ h4 held sl4=>?_
   refine wpAny_landsW held λ h5 fly5 sl5=>?_
   have hfs:∀ b∈frs X.stack,∀ o,s'.heap.get? b=some o->∀ vs,o.data≠.fields vs:=λ b hb' o qo=>by
    obtain ⟨_,o',q',hd'⟩:=fly.2.2.1.mem hb'
    rw [qo] at q'; cases q'
    exact hd'
   have at_:∀ h6:Heap,B.StaysIn h6->s'.heap.UpToSlots h6->Inv X pins σ' H' { s' with heap:=h6 }:=λ h6 st6 sl6 =>
    I1.zr9 (ch:=[]) (s':={ s' with heap:=h6 }) os (un.fly hB st6 sl6 hfs) (HOk.fly (fs:=frs X.stack) hok (λ b o q1 n1 t1=>hB b o q1 n1 (.inr t1)) st6 λ b hb'=>by
     have u:=I1.zha b hb'
     obtain ⟨_,o',q',_⟩:=I1.stack.mem hb'
     exact un.free b o' q' u (by intro z; cases z)) bare λ b z=>by cases z
   have I5:=at_ h5 fly5.1 (sl4.trans sl5)
   obtain ⟨nm,qn,N,bs,bm,hdct,sn,sub,ab,col,dd,k0,k1,k2,k3,k5,newId,hC,hbase,_⟩:=kts_cls I5.kIn q
   obtain ⟨ob,hob,hobc⟩:=fly5.there
   refine wpAny_handleBy_cons (codeAny_handlers_test (zge (X:=cxH X (.ref ex)) I5.toH hg hm ?_ hd)) (by intro z; cases z)
   refine wpAny_excMatches_sub_self hC hob hobc hbase (codeAny_handlers_suite ?_)
   refine lands_againW fly5 λ h6 fly6 sl6=>?_
   have I6:=at_ h6 fly6.1 ((sl4.trans sl5).trans sl6)
   have I7:Inv X pins (σ.map λ _=>none) H' { s' with heap:=h6 }:=I6.weak (by rw [List.length_map,I.len,I6.len]) λ i v e1=>by
    rw [List.getElem?_map] at e1
    cases e2:σ[i]? with
    | none=>rw [e2] at e1; cases e1
    | some o=>rw [e2] at e1; cases e1
   refine wpAny_mono (hs (.ref ex) pins _ _ H' D I7.toH hE) (λ fl s8 hq=>?_) λ _ _ z=>z.elim
   have ret:SP X pins D fl s8:=by
    cases fl with
    | next=>obtain ⟨σ8,H8,I8,q8⟩:=hq; exact ⟨σ8,H8,I7.ofH I8,q8⟩
    | brk=>obtain ⟨σ8,H8,I8,q8⟩:=hq; exact ⟨σ8,H8,I7.ofH I8,q8⟩
    | cont=>obtain ⟨σ8,H8,I8,q8⟩:=hq; exact ⟨σ8,H8,I7.ofH I8,q8⟩
    | ret u=>obtain ⟨v8,σ8,H8,I8,r8,q8⟩:=hq; exact ⟨v8,σ8,H8,I7.ofH I8,r8,q8⟩
   exact ret
 . cases fl with
   | next=>obtain ⟨σ8,H8,I8,q8⟩:=hq; exact wpAny_execs_nil ⟨σ8,H8,I8.ofT,q8⟩
   | brk=>obtain ⟨σ8,H8,I8,q8⟩:=hq; exact ⟨σ8,H8,I8.ofT,q8⟩
   | cont=>obtain ⟨σ8,H8,I8,q8⟩:=hq; exact ⟨σ8,H8,I8.ofT,q8⟩
   | ret u=>obtain ⟨v8,σ8,H8,I8,r8,q8⟩:=hq; exact ⟨v8,σ8,H8,I8.ofT,r8,q8⟩
end
end L2
end
section
namespace S5
open PySem PySem.W PyProof.Rows
def run {α:Type} (a:Nat->Nat->Bool):KasT α->α
 | .ret x=>x
 | .ask i j k=>run a (k (a i j))
theorem run_bind {α β:Type} (a:Nat->Nat->Bool) (f:α->KasT β):∀ t:KasT α,run a (t.bind f)=run a (f (run a t))
 | .ret _=>rfl
 | .ask i j k=>run_bind a f (k (a i j))
def Below (a:Nat->Nat->Bool) (n:Nat) {α:Type}:KasT α->Prop
 | .ret _=>True
 | .ask i j k=>(i < n/\j < n/\i≠j)/\Below a n (k (a i j))
theorem zcM {α β:Type} {a:Nat->Nat->Bool} {n:Nat} {f:α->KasT β}:∀ {t:KasT α},Below a n t->Below a n (f (run a t))->Below a n (t.bind f)
 | .ret _,_,h=>h
 | .ask i j k,h,g=>⟨h.1,zcM (t:=k (a i j)) h.2 g⟩
theorem wp_run {α:Type} {cmp:Nat->Nat->(Bool->Shared->Prop)->Shared->Prop} {a:Nat->Nat->Bool} {n:Nat} {s:Shared} (hc:∀ i j C,i < n->j < n->i≠j->C (a i j) s->cmp i j C s) :
  ∀ (t:KasT α) (Q:α->Shared->Prop),Below a n t->Q (run a t) s->t.kasWp cmp Q s
 | .ret x,Q,_,h=>h
 | .ask i j k,Q,b,h=>hc i j _ b.1.1 b.1.2.1 b.1.2.2 (wp_run hc (k (a i j)) Q b.2 h)
structure Ord (a:Nat->Nat->Bool) (n:Nat):Prop where
 irr:∀ i,a i i=false
 tr:∀ i j k,a i j=true->a j k=true->a i k=true
 tot:∀ i j,i < n->j < n->i≠j->a i j=true\/a j i=true
section
variable {a:Nat->Nat->Bool} {n:Nat} (O:Ord a n)
include O
def Arr (n:Nat) (p:Array Nat):Prop:=p.toList.Perm (List.range n)
omit O in
theorem Arr.size {p:Array Nat} (h:Arr n p):p.size=n:=by
 have:=h.length_eq; rw [List.length_range,Array.length_toList] at this; exact this
omit O in
theorem Arr.lt {p:Array Nat} (h:Arr n p) {i:Nat} (hi:i < n):p.getD i 0 < n:=by
 have hs:=h.size
 have:p.getD i 0∈p.toList:=by
  rw [Array.getD_eq_getD_getElem?,Array.getElem?_eq_getElem (by omega)]; simp
 exact List.mem_range.mp (h.mem_iff.mp this)
omit O in
theorem Arr.inj {p:Array Nat} (h:Arr n p) {i j:Nat} (hi:i < n) (hj:j < n) (e:p.getD i 0=p.getD j 0):i=j:=by
 have hs:=h.size
 have nd:p.toList.Nodup:=(h.nodup_iff).mpr List.nodup_range
 have hi':i < p.toList.length:=by rw [Array.length_toList]; omega
 have hj':j < p.toList.length:=by rw [Array.length_toList]; omega
 refine (List.getElem_inj (h₀:=hi') (h₁:=hj') nd).mp ?_
 have e1:p.getD i 0=p.toList[i]:=by rw [Array.getD_eq_getD_getElem?,Array.getElem?_eq_getElem (by omega)]; simp
 have e2:p.getD j 0=p.toList[j]:=by rw [Array.getD_eq_getD_getElem?,Array.getElem?_eq_getElem (by omega)]; simp
 rw [<-e1,<-e2,e]
def Up (a:Nat->Nat->Bool) (p:Array Nat) (k:Nat):Prop:=∀ i j,i < j->j < k->a (p.getD i 0) (p.getD j 0)=true
def Dn (a:Nat->Nat->Bool) (p:Array Nat) (k:Nat):Prop:=∀ i j,i < j->j < k->a (p.getD j 0) (p.getD i 0)=true
theorem Ord.le {p:Array Nat} (h:Arr n p) {i j:Nat} (hi:i < n) (hj:j < n) (hne:i≠j) (q:a (p.getD i 0) (p.getD j 0)=false):a (p.getD j 0) (p.getD i 0)=true:=by
 rcases O.tot _ _ (h.lt hi) (h.lt hj) (λ e=>hne (h.inj hi hj e)) with z | z
 . rw [q] at z; cases z
 . exact z
omit O in
theorem Up.snoc {p:Array Nat} {k:Nat} (tr:∀ i j k,a i j=true->a j k=true->a i k=true) (u:Up a p k) (h:k=0\/a (p.getD (k - 1) 0) (p.getD k 0)=true):Up a p (k+1):=λ i j hij hj=>by
 by_cases e:j=k
 . subst e
   rcases h with z | z
   . omega
   . by_cases e2:i=j - 1
     . subst e2; exact z
     . exact tr _ _ _ (u i (j - 1) (by omega) (by omega)) z
 . exact u i j hij (by omega)
omit O in
theorem Dn.snoc {p:Array Nat} {k:Nat} (tr:∀ i j k,a i j=true->a j k=true->a i k=true) (u:Dn a p k) (h:k=0\/a (p.getD k 0) (p.getD (k - 1) 0)=true):Dn a p (k+1):=λ i j hij hj=>by
 by_cases e:j=k
 . subst e
   rcases h with z | z
   . omega
   . by_cases e2:i=j - 1
     . subst e2; exact z
     . exact tr _ _ _ z (u i (j - 1) (by omega) (by omega))
 . exact u i j hij (by omega)
omit O in
theorem zth (p:Array Nat) (f k:Nat):run a (kas_asc p (f+1) k)=if a (p.getD k 0) (p.getD (k - 1) 0)=true then k else run a (kas_asc p f (k+1)):=by
 show run a ((λ c=>if c=true then KasT.ret k else kas_asc p f (k+1)) (a (p.getD k 0) (p.getD (k - 1) 0)))=_
 cases a (p.getD k 0) (p.getD (k - 1) 0) <;> rfl
theorem zno {p:Array Nat} (h:Arr n p):∀ (f k:Nat),1<=k->k+f<=n->Up a p k->k<=run a (kas_asc p f k)/\run a (kas_asc p f k)<=k+f/\Up a p (run a (kas_asc p f k)) /\
  (run a (kas_asc p f k) < k+f->a (p.getD (run a (kas_asc p f k)) 0) (p.getD (run a (kas_asc p f k) - 1) 0)=true)
 | 0,k,_,_,u=>⟨Nat.le_refl _,Nat.le_refl _,u,λ z=>absurd z (Nat.lt_irrefl _)⟩
 | f+1,k,h1,hk,u=>by
  rw [zth]
  cases q:a (p.getD k 0) (p.getD (k - 1) 0) with
  | true=>rw [if_pos rfl]; exact ⟨Nat.le_refl _,by omega,u,λ _=>q⟩
  | false =>
   rw [if_neg Bool.false_ne_true]
   have nx:=O.le h (i:=k) (j:=k - 1) (by omega) (by omega) (by omega) q
   obtain ⟨g1,g2,g3,g4⟩:=zno h f (k+1) (by omega) (by omega) (u.snoc O.tr (.inr nx))
   exact ⟨by omega,by omega,g3,λ z=>g4 (by omega)⟩
omit O in
theorem zr4 (p:Array Nat) (f k:Nat):run a (kas_desc (f+1) p k 0)=if a (p.getD k 0) (p.getD (k - 1) 0)=true then run a (kas_desc f p (k+1) 0) else if a (p.getD (k - 1) 0) (p.getD k 0)=true then (p,k,0) else run a (kas_desc f p (k+1) 1):=by
 show run a ((λ c=>if c=true then (if 0 > 0 then kas_desc f (kas_rev p (k - (0+1)) k) (k+1) 0 else kas_desc f p (k+1) 0) else KasT.ask (p.getD (k - 1) 0) (p.getD k 0) λ d=>if d=true then KasT.ret (p,k,0) else kas_desc f p (k+1) (0+1)) (a (p.getD k 0) (p.getD (k - 1) 0)))=_
 cases a (p.getD k 0) (p.getD (k - 1) 0) with
 | true =>
  show run a (if 0 > 0 then kas_desc f (kas_rev p (k - (0+1)) k) (k+1) 0 else kas_desc f p (k+1) 0)=_
  rw [if_neg (by omega),if_pos rfl]
 | false =>
  show run a ((λ d=>if d=true then KasT.ret (p,k,0) else kas_desc f p (k+1) (0+1)) (a (p.getD (k - 1) 0) (p.getD k 0)))=_
  rw [if_neg Bool.false_ne_true]
  cases a (p.getD (k - 1) 0) (p.getD k 0) <;> rfl
theorem zmg {p:Array Nat} (h:Arr n p):∀ (f k:Nat),1<=k->k+f<=n->Dn a p k->∃ m,run a (kas_desc f p k 0)=(p,m,0)/\k<=m/\m<=k+f/\Dn a p m
 | 0,k,_,_,u=>⟨k,rfl,Nat.le_refl _,Nat.le_refl _,u⟩
 | f+1,k,h1,hk,u=>by
  rw [zr4]
  cases q:a (p.getD k 0) (p.getD (k - 1) 0) with
  | true =>
   rw [if_pos rfl]
   obtain ⟨m,e,g1,g2,g3⟩:=zmg h f (k+1) (by omega) (by omega) (u.snoc O.tr (.inr q))
   exact ⟨m,e,by omega,by omega,g3⟩
  | false =>
   rw [if_neg Bool.false_ne_true]
   have nx:=O.le h (i:=k) (j:=k - 1) (by omega) (by omega) (by omega) q
   rw [if_pos nx]
   exact ⟨k,rfl,Nat.le_refl _,by omega,u⟩
omit O in
theorem zoN {p:Array Nat} {i j:Nat} (hj:j<=p.size) (k:Nat):(kas_rev p i j).getD k 0=if i<=k/\k < j then p.getD (i+j - 1 - k) 0 else p.getD k 0:=by
 unfold kas_rev
 have e:=getElem?_mirror_all (i:=i) hj k
 rw [Array.getD_eq_getD_getElem?,e]
 split
 . rw [Array.getD_eq_getD_getElem?]
 . rw [Array.getD_eq_getD_getElem?]
omit O in
theorem Arr.rev {p:Array Nat} (h:Arr n p) (i j:Nat):Arr n (kas_rev p i j):=(Array.perm_iff_toList_perm.mp (mirror_perm p i j _)).trans h
omit O in
theorem Arr.bub {p:Array Nat} (h:Arr n p) (i j:Nat):Arr n (bubble p i j):=(Array.perm_iff_toList_perm.mp (bubble_perm p i j)).trans h
omit O in
theorem Dn.rev {p:Array Nat} {m:Nat} (hm:m<=p.size) (d:Dn a p m):Up a (kas_rev p 0 m) m:=λ i j hij hj=>by
 rw [zoN hm,zoN hm,if_pos ⟨Nat.zero_le _,by omega⟩,if_pos ⟨Nat.zero_le _,hj⟩]
 exact d (0+m - 1 - j) (0+m - 1 - i) (by omega) (by omega)
theorem znk {p:Array Nat} (h:Arr n p) (hn:1<=n):(run a (kas_count n p)).1<=n/\1<=(run a (kas_count n p)).1/\Arr n (run a (kas_count n p)).2/\Up a (run a (kas_count n p)).2 (run a (kas_count n p)).1:=by
 have u1:Up a p 1:=λ i j hij hj=>by omega
 obtain ⟨g1,g2,g3,g4⟩:=zno O h (n - 1) 1 (Nat.le_refl _) (by omega) u1
 unfold kas_count
 rw [run_bind]
 generalize run a (kas_asc p (n - 1) 1)=r at g1 g2 g3 g4 ⊢
 by_cases e:(r == n)=true
 . rw [if_pos e]; exact ⟨by show r<=n; omega,g1,h,g3⟩
 . rw [if_neg e]
   have ne:r≠n:=by simpa using e
   by_cases hr:r > 1
   . rw [if_pos hr]
     have q:a (p.getD 0 0) (p.getD (r - 1) 0)=true:=g3 0 (r - 1) (by omega) (by omega)
     simp only [run,q,if_true]
     exact ⟨by omega,g1,h,g3⟩
   . rw [if_neg hr]
     have hr1:r=1:=by omega
     subst hr1
     have q:=g4 (by omega)
     have d2:Dn a p 2:=(show Dn a p 1 from λ i j hij hj=>by omega).snoc O.tr (.inr q)
     obtain ⟨m,em,m1,m2,dm⟩:=zmg O h (n - (1+1)) 2 (by omega) (by omega) d2
     unfold kas_descPart
     rw [run_bind,em]
     dsimp only
     rw [if_neg (by omega)]
     unfold kas_tail3
     rw [run_bind]
     have hs:=h.size
     have ur:=Dn.rev (by omega) dm
     obtain ⟨g1',g2',g3',_⟩:=zno O (h.rev 0 m) (n - m) m (by omega) (by omega) ur
     simp only [run]
     exact ⟨by omega,by omega,h.rev 0 m,g3'⟩
omit O in
theorem zpR {p:Array Nat} {src d:Nat} (hs:src < p.size) (hd:d<=src) (k:Nat):(bubble p src d).getD k 0=if k=src - d then p.getD src 0 else if src - d < k/\k<=src then p.getD (k - 1) 0 else p.getD k 0:=by
 have e:=getElem?_bubble hs d hd k
 rw [Array.getD_eq_getD_getElem?,e]
 by_cases h1:k=src - d
 . rw [if_pos h1,if_pos h1,Array.getD_eq_getD_getElem?]
 . rw [if_neg h1,if_neg h1]
   by_cases h2:src - d < k/\k<=src
   . rw [if_pos h2,if_pos h2,Array.getD_eq_getD_getElem?]
   . rw [if_neg h2,if_neg h2,Array.getD_eq_getD_getElem?]
theorem zjp {p:Array Nat} (h:Arr n p) {k:Nat} (hk:k < n):∀ (f l r:Nat),l<=r->r<=k->r - l<=f->(∀ i,i < l->a (p.getD i 0) (p.getD k 0)=true)->(∀ i,r<=i->i < k->a (p.getD k 0) (p.getD i 0)=true)->Up a p k ->
  ∃ m,run a (kas_place p k f l r)=m/\m<=k/\(∀ i,i < m->a (p.getD i 0) (p.getD k 0)=true)/\∀ i,m<=i->i < k->a (p.getD k 0) (p.getD i 0)=true
 | 0,l,r,h1,h2,h3,g1,g2,u=>⟨l,rfl,by omega,g1,λ i hi hk=>g2 i (by omega) hk⟩
 | f+1,l,r,h1,h2,h3,g1,g2,u=>by
  unfold kas_place
  by_cases hlr:l ≥ r
  . rw [if_pos hlr]; exact ⟨l,rfl,by omega,g1,λ i hi hk=>g2 i (by omega) hk⟩
  . rw [if_neg hlr]
    simp only [run]
    have hm:(l+r) / 2 < r:=by omega
    have hm2:l<=(l+r) / 2:=by omega
    cases q:a (p.getD k 0) (p.getD ((l+r) / 2) 0) with
    | true =>
     simp only [if_true]
     refine zjp h hk f l ((l+r) / 2) hm2 (by omega) (by omega) g1 (λ i hi hik=>?_) u
     by_cases e:i=(l+r) / 2
     . subst e; exact q
     . exact O.tr _ _ _ q (u _ i (by omega) hik)
    | false =>
     simp only [Bool.false_eq_true,if_false]
     have nx:=O.le h (i:=k) (j:=(l+r) / 2) hk (by omega) (by omega) q
     refine zjp h hk f ((l+r) / 2+1) r (by omega) h2 (by omega) (λ i hi=>?_) g2 u
     by_cases e:i=(l+r) / 2
     . subst e; exact nx
     . exact O.tr _ _ _ (u i ((l+r) / 2) (by omega) (by omega)) nx
theorem zrd:∀ (f:Nat) (p:Array Nat) (k:Nat),Arr n p->k+f=n->Up a p k->Arr n (run a (kas_bin f p k))/\Up a (run a (kas_bin f p k)) n
 | 0,p,k,h,e,u=>⟨h,by rw [Nat.add_zero] at e; rw [<-e]; exact u⟩
 | f+1,p,k,h,e,u=>by
  have hk:k < n:=by omega
  have hs:=h.size
  unfold kas_bin
  rw [run_bind]
  obtain ⟨m,em,m1,g1,g2⟩:=zjp O h hk k 0 k (Nat.zero_le _) (Nat.le_refl _) (by omega) (λ i hi=>by omega) (λ i h1 h2=>by omega) u
  rw [em]
  refine zrd f _ (k+1) (h.bub k (k - m)) (by omega) λ i j hij hj=>?_
  rw [zpR (by omega) (by omega),zpR (by omega) (by omega),show k - (k - m)=m by omega]
  by_cases e1:i=m
  . rw [if_pos e1,if_neg (show ¬ j=m by omega),if_pos (show m < j/\j<=k by omega)]
    exact g2 (j - 1) (by omega) (by omega)
  . rw [if_neg e1]
    by_cases e2:m < i/\i<=k
    . rw [if_pos e2,if_neg (show ¬ j=m by omega),if_pos (show m < j/\j<=k by omega)]
      exact u (i - 1) (j - 1) (by omega) (by omega)
    . rw [if_neg e2]
      by_cases e3:j=m
      . rw [if_pos e3]; exact g1 i (by omega)
      . rw [if_neg e3]
        by_cases e4:m < j/\j<=k
        . rw [if_pos e4]
          by_cases e5:i=j - 1
          . omega
          . exact u i (j - 1) (by omega) (by omega)
        . rw [if_neg e4]; exact u i j hij (by omega)
omit O in
theorem Arr.two {p:Array Nat} (h:Arr n p) {i j:Nat} (hi:i < n) (hj:j < n) (hne:i≠j):p.getD i 0 < n/\p.getD j 0 < n/\p.getD i 0≠p.getD j 0:=⟨h.lt hi,h.lt hj,λ e=>hne (h.inj hi hj e)⟩
omit O in
theorem zh8 {p:Array Nat} (h:Arr n p):∀ (f k:Nat),1<=k->k+f<=n->Below a n (kas_asc p f k)
 | 0,_,_,_=>trivial
 | f+1,k,h1,hk=>by
  refine ⟨h.two (by omega) (by omega) (by omega),?_⟩
  cases a (p.getD k 0) (p.getD (k - 1) 0) with
  | true=>exact trivial
  | false=>exact zh8 h f (k+1) (by omega) (by omega)
theorem zi2 {p:Array Nat} (h:Arr n p):∀ (f k:Nat),1<=k->k+f<=n->Below a n (kas_desc f p k 0)
 | 0,_,_,_=>trivial
 | f+1,k,h1,hk=>by
  refine ⟨h.two (by omega) (by omega) (by omega),?_⟩
  cases q:a (p.getD k 0) (p.getD (k - 1) 0) with
  | true =>
   show Below a n (if 0 > 0 then kas_desc f (kas_rev p (k - (0+1)) k) (k+1) 0 else kas_desc f p (k+1) 0)
   rw [if_neg (by omega)]
   exact zi2 h f (k+1) (by omega) (by omega)
  | false =>
   have nx:=O.le h (i:=k) (j:=k - 1) (by omega) (by omega) (by omega) q
   refine ⟨h.two (by omega) (by omega) (by omega),?_⟩
   rw [nx]
   exact trivial
theorem zmi {p:Array Nat} (h:Arr n p) (hn:1<=n):Below a n (kas_count n p):=by
 have u1:Up a p 1:=λ i j hij hj=>by omega
 obtain ⟨g1,g2,g3,g4⟩:=zno O h (n - 1) 1 (Nat.le_refl _) (by omega) u1
 unfold kas_count
 refine zcM (zh8 h (n - 1) 1 (Nat.le_refl _) (by omega)) ?_
 generalize run a (kas_asc p (n - 1) 1)=r at g1 g2 g3 g4 ⊢
 by_cases e:(r == n)=true
 . rw [if_pos e]; exact trivial
 . rw [if_neg e]
   have ne:r≠n:=by simpa using e
   by_cases hr:r > 1
   . rw [if_pos hr]
     have q:a (p.getD 0 0) (p.getD (r - 1) 0)=true:=g3 0 (r - 1) (by omega) (by omega)
     refine ⟨h.two (by omega) (by omega) (by omega),?_⟩
     rw [q]; exact trivial
   . rw [if_neg hr]
     have hr1:r=1:=by omega
     subst hr1
     have q:=g4 (by omega)
     have d2:Dn a p 2:=(show Dn a p 1 from λ i j hij hj=>by omega).snoc O.tr (.inr q)
     obtain ⟨m,em,m1,m2,dm⟩:=zmg O h (n - (1+1)) 2 (by omega) (by omega) d2
     unfold kas_descPart
     refine zcM (zi2 O h (n - (1+1)) 2 (by omega) (by omega)) ?_
     rw [em]
     dsimp only
     rw [if_neg (by omega)]
     unfold kas_tail3
     exact zcM (zh8 (h.rev 0 m) (n - m) m (by omega) (by omega)) trivial
omit O in
theorem zfg {p:Array Nat} (h:Arr n p) {k:Nat} (hk:k < n):∀ (f l r:Nat),r<=k->Below a n (kas_place p k f l r)
 | 0,_,_,_=>trivial
 | f+1,l,r,hr=>by
  unfold kas_place
  by_cases hlr:l ≥ r
  . rw [if_pos hlr]; exact trivial
  . rw [if_neg hlr]
    refine ⟨h.two hk (by omega) (by omega),?_⟩
    cases a (p.getD k 0) (p.getD ((l+r) / 2) 0) with
    | true=>exact zfg h hk f l _ (by omega)
    | false=>exact zfg h hk f _ r hr
omit O in
theorem zlj:∀ (f:Nat) (p:Array Nat) (k:Nat),Arr n p->k+f=n->Below a n (kas_bin f p k)
 | 0,_,_,_,_=>trivial
 | f+1,p,k,h,e=>by
  unfold kas_bin
  exact zcM (zfg h (by omega) k 0 k (Nat.le_refl _)) (zlj f _ (k+1) (h.bub k _) (by omega))
theorem znH (hn:1<=n):Below a n (kas_sort n):=by
 have h0:Arr n (List.toArray (List.range n)):=List.Perm.refl _
 obtain ⟨c1,c2,c3,c4⟩:=znk O h0 hn
 unfold kas_sort
 refine zcM (zmi O h0 hn) ?_
 by_cases h:(run a (kas_count n (List.toArray (List.range n)))).1 < n
 . rw [if_pos h]
   exact zlj _ _ _ c3 (by omega)
 . rw [if_neg h]; exact trivial
theorem zoD (hn:1<=n):Arr n (run a (kas_sort n))/\Up a (run a (kas_sort n)) n:=by
 have h0:Arr n (List.toArray (List.range n)):=List.Perm.refl _
 obtain ⟨c1,c2,c3,c4⟩:=znk O h0 hn
 unfold kas_sort
 rw [run_bind]
 generalize run a (kas_count n (List.toArray (List.range n)))=r at c1 c2 c3 c4 ⊢
 obtain ⟨m,p⟩:=r
 dsimp only at c1 c2 c3 c4 ⊢
 by_cases h:m < n
 . rw [if_pos h,show max m 1=m by omega]
   exact zrd O (n - m) p m c3 (by omega) c4
 . rw [if_neg h]
   have:m=n:=by omega
   subst this
   exact ⟨c3,c4⟩
end
end S5
end
section
namespace S5
open PySem PySem.W PyProof.Rows
def zic (a:Addr) (h h':Heap):Prop:=∀ b o,b≠a->h.get? b=some o->h'.get? b=some o
def picked (vs:List Value) (p:Array Nat):List Value:=p.toList.map λ i=>vs.getD i Value.none
section
variable {prog:Program} {w:World} {A:Around} {E:Value->Shared->Prop} {s:Shared}
theorem zlD {a:Addr} {vs:List Value} {c:Nat} {κ:SortKind} {lt:Nat->Nat->Bool} {P:PySem.Fin->Shared->Prop} (ho:s.heap.get? a=some (seqObj "list" vs.toArray c)) (h64:vs.length < 64) (O:Ord lt vs.length)
   (hk:∀ h1,zic a s.heap h1->2<=vs.length->∀ Q:SortKind->Shared->Prop,Q κ { s with heap:=h1 }->wpAny (model prog w) A (keyKind' vs.toArray) Q (λ _ _=>False) { s with heap:=h1 })
   (hlt:∀ h1,zic a s.heap h1->∀ i j,i < vs.length->j < vs.length->i≠j->∀ Q:Bool->Shared->Prop,Q (lt i j) { s with heap:=h1 }->wpAny (model prog w) A (keyLt' κ (vs.getD i Value.none) (vs.getD j Value.none)) Q (λ _ _=>False) { s with heap:=h1 })
   (h:∀ p h' c',Arr vs.length p->Up lt p vs.length->zic a s.heap h'->h'.get? a=some (seqObj "list" (picked vs p).toArray c')->P (.done (.ret .none)) { s with heap:=h' }) :
   wpAny (model prog w) A (Builtin.«list.sort» ⟨[.ref a], []⟩) P E s := by
 have big:∀ {k:Nat},k < 64->k<=sizeLine:=λ hk'=>by rw [sizeLine_eq]; omega
 rw [list_sort_plain]
 refine wpAny_bind (listItems_at ho rfl (wpAny_bind (listUpdate_at ho rfl ?_ (by rw [List.size_toArray]; exact big h64) (Nat.zero_le _))))
 have e1:=get?_update_seq ho λ _=>(#[]:Array Value)
 generalize (if ((λ _=>(#[]:Array Value)) vs.toArray).size == vs.toArray.size then c else c+1)=c1 at e1
 generalize hg1:s.heap.update a (Obj.mapSeq λ _=>(#[]:Array Value))=g1 at e1 ⊢
 have k1:zic a s.heap g1:=λ b o hb q=>by rw [<-hg1,Heap.get?_update_other _ _ (Ne.symm hb)]; exact q
 refine wpAny_bind (seqEpoch_at e1 rfl (wpAny_bind (wpAny_newTuple ?_ (by show vs.toArray.toList.length<=_; exact big (by simpa using h64)))))
 refine wpAny_bind (wpAny_newList (wpAny_holding ?_) (Nat.zero_le _))
 dsimp only
 generalize hg2:(g1.push { cls:=.type "tuple",data:=.seq vs.toArray.toList.toArray }).push { cls:=.type "list",data:=.seq ([]:List Value).toArray }=g2
 have k2:∀ b o,g1.get? b=some o->g2.get? b=some o:=λ b o q=>by rw [<-hg2]; exact Heap.get?_push_of_some _ (Heap.get?_push_of_some _ q)
 have e2:g2.get? a=some (seqObj "list" #[] c1):=k2 _ _ e1
 have kk:zic a s.heap g2:=λ b o hb q=>k2 b o (k1 b o hb q)
 have fin:∀ (p:Array Nat),Arr vs.length p->Up lt p vs.length->∀ (st:SortSt),(arrOf st).map (·.2)=(picked vs p).toArray->failedOf st=none ->
    wpAny (model prog w) A (do
     let touched:=(<-seqEpoch a) != c1
     Builtin.List.listUpdate (.ref a) λ _=>(arrOf st).map (·.2)
     if let some e:=failedOf st then rule "list.sort.comparison-raised"; throw e
     if touched then rule "list.sort.modified"; raiseError "ValueError" "list modified during sort"
     ret .none) P E { s with heap:=g2 }:=λ p hp hu st es hf=>by
   have lp:(picked vs p).length=vs.length:=by unfold picked; rw [List.length_map,Array.length_toList,hp.size]
   refine wpAny_bind (seqEpoch_at e2 rfl (wpAny_bind (listUpdate_at e2 rfl ?_ (Nat.zero_le _) (by rw [es,List.size_toArray,lp]; exact Nat.le_succ_of_le (big h64)))))
   rw [hf,es]
   simp only [bne_self_eq_false,Bool.false_eq_true,if_false]
   exact wpAny_pure (h p _ _ hp hu (λ b o hb q=>by rw [Heap.get?_update_other _ _ (Ne.symm hb)]; exact kk b o hb q) (get?_update_seq e2 λ _=>(picked vs p).toArray))
 by_cases h2:vs.toArray.size < 2
 . rw [if_pos h2,if_pos h2]
   refine wpAny_bind (wpAny_pure ?_)
   rw [StateT.run_pure]
   refine wpAny_bind (wpAny_pure ?_)
   have hl:vs.length < 2:=by simpa using h2
   refine fin (List.range vs.length).toArray (List.Perm.refl _) (λ i j hij hj=>by omega) (SortSt.mk' general' (vs.toArray.zip vs.toArray) #[] 7 none) ?_ rfl
   show (vs.toArray.zip vs.toArray).map (·.2)=_
   apply Array.toList_inj.mp
   unfold picked
   match vs,hl with
   | [],_=>simp
   | [v],_=>simp
 . rw [if_neg h2,if_neg h2]
   have hl:2<=vs.length:=by simpa using h2
   refine wpAny_bind (wpAny_mono (hk g2 kk hl (λ κ' s'=>κ'=κ/\s'={ s with heap:=g2 }) ⟨rfl,rfl⟩) (λ κ' s' hq=>?_) λ _ _ z=>z.elim)
   obtain ⟨rfl,rfl⟩:=hq
   have ask:(kas_sort vs.length).kasWp (kas_ask prog w A κ' vs) (λ p s'=>s'={ s with heap:=g2 }/\Arr vs.length p/\Up lt p vs.length) { s with heap:=g2 } :=
    wp_run (λ i j C hi hj hne hc=>hlt g2 kk i j hi hj hne C hc) _ _ (znH O (by omega)) ⟨rfl,(zoD O (by omega)).1,(zoD O (by omega)).2⟩
   refine wpAny_bind (wpAny_mono (kat_run (vs:=vs) (ks:=vs) (Q:=λ st' s'=>s'={ s with heap:=g2 }/\∃ p,Arr vs.length p/\Up lt p vs.length/\(arrOf st').map (·.2)=(picked vs p).toArray/\failedOf st'=none) rfl hl h64 (λ p st' s' hz har hf hg=>⟨hg.1,p,hg.2.1,hg.2.2,kat_snds rfl har,hf⟩) ask) ?_ λ _ _ z=>z)
   rintro ⟨⟨⟩,st'⟩ s' ⟨rfl,p,hp,hu,es,hf⟩
   exact fin p hp hu st' es hf
end
end S5
end
section
namespace L2
open PySem PySem.Spec PyProof.Rows PySem.W S5
theorem Inv.zp1 {X:Cx} {pins:List (Addr×Obj)} {σ:St} {H:Hp} {s:Shared} {a:Addr} {o:HO} (I:Inv X pins σ H s) (f:FpOk X pins H a) (new:zbH X.prog X.w (upd H a o) s.heap a o):Inv X pins σ (upd H a o) s:=by
 obtain ⟨f0,f1,f2,f3,f4,f5⟩:=f
 have tr:∀ b u,H b=some u->b≠a:=λ b u e z=>by rw [z,f0] at e; cases e
 have J:=I.step (H':=upd H a o) (h':=s.heap) (g':=s.gens) (t':=s.toks) (d':=s.drawn) (ch:=[a]) (λ b hb=>by
  have e:b=a:=by simpa using hb
  subst e
  exact ⟨f3,f1,f4,f5⟩) (λ b u _ _ _ q _=>q) (λ b u _ _ _ q _=>⟨u.slots,q⟩) (λ b u hb q n=>by rw [zae (λ z=>hb (by simp [z]))]; exact n) (λ b u _ q=>⟨u,q⟩)
  (λ b xs q=>by rw [zae (tr b _ q)]; exact q) (λ b u xs q=>by rw [zae (tr b _ q)]; exact q) (λ b ps q=>⟨#[],by rw [zae (tr b _ q),q]; simp⟩) (λ m hm=>hm) (λ b u e=>by
   by_cases hb:b=a
   . subst hb; rw [zab] at e; cases e; exact new
   . rw [zae hb] at e
     exact (I.hok b u e).stay (λ _ _ _ q=>q) (λ c q=>by rw [zae (tr c _ q)]; exact q) λ c xs q=>by rw [zae (tr c _ q)]; exact q) I.bare
 exact J
def kLt:Key->Key->Bool
 | .inl a,.inl b=>decide (a < b)
 | .inr x,.inr y=>decide (x.cps.toList < y.cps.toList)
 | _,_=>false
def zdl (ks:List Key):Prop:=(∀ k∈ks,∃ i,k=Sum.inl i)\/∀ k∈ks,∃ x,k=Sum.inr x
theorem zpl:∀ k:Key,kLt k k=false
 | .inl a=>by show decide (a < a)=false; simp
 | .inr x=>by show decide (x.cps.toList < x.cps.toList)=false; simpa using List.lt_irrefl _
theorem zq4:∀ {a b c:Key},kLt a b=true->kLt b c=true->kLt a c=true
 | .inl a,.inl b,.inl c,h1,h2=>by
  have h1':decide (a < b)=true:=h1
  have h2':decide (b < c)=true:=h2
  show decide (a < c)=true
  simp only [decide_eq_true_eq] at *; omega
 | .inr a,.inr b,.inr c,h1,h2=>by
  have h1':decide (a.cps.toList < b.cps.toList)=true:=h1
  have h2':decide (b.cps.toList < c.cps.toList)=true:=h2
  show decide (a.cps.toList < c.cps.toList)=true
  simp only [decide_eq_true_eq] at *; exact List.lt_trans h1' h2'
 | .inl _,.inr _,_,h1,_=>by cases h1
 | .inr _,.inl _,_,h1,_=>by cases h1
 | .inl _,.inl _,.inr _,_,h2=>by cases h2
 | .inr _,.inr _,.inl _,_,h2=>by cases h2
theorem zrp {x y:Str} (h:x.cps.toList=y.cps.toList):x=y:=by
 obtain ⟨a⟩:=x
 obtain ⟨b⟩:=y
 have:a=b:=Array.toList_inj.mp h
 rw [this]
theorem zpk {ks:List Key} (one:zdl ks) {a b:Key} (ha:a∈ks) (hb:b∈ks) (hne:a≠b):kLt a b=true\/kLt b a=true:=by
 rcases one with h | h
 . obtain ⟨i,rfl⟩:=h a ha
   obtain ⟨j,rfl⟩:=h b hb
   have:i≠j:=λ e=>hne (by rw [e])
   show decide (i < j)=true\/decide (j < i)=true
   simp only [decide_eq_true_eq]; omega
 . obtain ⟨x,rfl⟩:=h a ha
   obtain ⟨y,rfl⟩:=h b hb
   show decide (x.cps.toList < y.cps.toList)=true\/decide (y.cps.toList < x.cps.toList)=true
   simp only [decide_eq_true_eq]
   by_cases h1:x.cps.toList < y.cps.toList
   . exact .inl h1
   . by_cases h2:y.cps.toList < x.cps.toList
     . exact .inr h2
     . exact absurd (zrp (List.le_antisymm (List.not_lt.mp h2) (List.not_lt.mp h1))) (λ e=>hne (by rw [e]))
abbrev atK (ks:List Key) (i:Nat):Key:=ks.getD i (Sum.inl 0)
theorem zgr {ks:List Key} {i:Nat} (h:i < ks.length):ks[i]?=some (atK ks i):=by
 unfold atK; rw [List.getD_eq_getElem?_getD,List.getElem?_eq_getElem h]; rfl
theorem zc0 {ks:List Key} {i:Nat} (h:i < ks.length):atK ks i∈ks:=List.mem_of_getElem? (zgr h)
theorem ordK {ks:List Key} (nd:ks.Nodup) (one:zdl ks):Ord (λ i j=>kLt (atK ks i) (atK ks j)) ks.length :=
 ⟨λ i=>zpl _,λ i j k h1 h2=>zq4 h1 h2,λ i j hi hj hne=>zpk one (zc0 hi) (zc0 hj) λ e=>hne (by
  have e1:=zgr hi
  have e2:=zgr hj
  rw [e] at e1
  obtain ⟨_,q1⟩:=List.getElem?_eq_some_iff.mp e1
  obtain ⟨_,q2⟩:=List.getElem?_eq_some_iff.mp e2
  exact (List.getElem_inj (h₀:=hi) (h₁:=hj) nd).mp (q1.trans q2.symm))⟩
section
variable {prog:Program} {w:World} {A:Around} {E:Value->Shared->Prop} {s:Shared}
theorem zl2 {k l:Key} {u v:Value} {Q:Bool->Shared->Prop} (one:zdl [k,l]) (hu:RelV (kV k) u) (hv:RelV (kV l) v) (h:Q (kLt k l) s):wpAny (model prog w) A (oneLt' true u v) Q E s:=by
 rcases one with o | o
 . obtain ⟨i,rfl⟩:=o k (by simp)
   obtain ⟨j,rfl⟩:=o l (by simp)
   obtain ⟨t,rfl⟩:=(show ∃ t,u=Value.int i t from hu)
   obtain ⟨t',rfl⟩:=(show ∃ t,v=Value.int j t from hv)
   exact oneLt_int h
 . obtain ⟨x,rfl⟩:=o k (by simp)
   obtain ⟨y,rfl⟩:=o l (by simp)
   obtain ⟨t,rfl⟩:=(show ∃ t,u=Value.str x t from hu)
   obtain ⟨t',rfl⟩:=(show ∃ t,v=Value.str y t from hv)
   exact oneLt_str h
theorem zrR {k l:Key} {u v:Value} {Q:Bool->Shared->Prop} (hne:k≠l) (hu:RelV (kV k) u) (hv:RelV (kV l) v) (h:Q false s):wpAny (model prog w) A (eqBool u v) Q E s:=by
 refine (zaC prog w).eqBool (a:=k) (b:=l) (zgi hu) (zgi hv) ?_
 rw [decide_eq_false hne]; exact h
def kTy:List Key->String
 | .inr _::_ => "str"
 | _ => "int"
theorem ty_keys {ks:List Key} (one:zdl ks) {k:Key} (hk:k∈ks) {u:Value} (hu:RelV (kV k) u) (M:Model) (h:Heap):Looks M h (typeOf u) (.type (kTy ks)):=by
 cases ks with
 | nil=>cases hk
 | cons k0 r =>
  rcases one with o | o
  . obtain ⟨i,rfl⟩:=o k hk
    obtain ⟨j,rfl⟩:=o k0 (by simp)
    obtain ⟨t,rfl⟩:=(show ∃ t,u=Value.int i t from hu)
    exact Looks.of_pure rfl
  . obtain ⟨x,rfl⟩:=o k hk
    obtain ⟨y,rfl⟩:=o k0 (by simp)
    obtain ⟨t,rfl⟩:=(show ∃ t,u=Value.str x t from hu)
    exact Looks.of_pure rfl
theorem ziX (ks:List Key):kTy ks = "str" \/ kTy ks = "int" := by
 unfold kTy
 split
 . exact .inl rfl
 . exact .inr rfl
def zj4 (h h':Heap):Prop:=∀ b o,h.get? b=some o->h'.get? b=some o
theorem zkm {a:Addr} {PC:List Value->Heap->Prop} {Q:Value->Shared->Prop}
  (hcol:∀ R:List Value->Shared->Prop,(∀ h' tk vs,zj4 s.heap h'->PC vs h'->R vs { s with heap:=h',toks:=tk })->wpAny (model prog w) A.in1 (collect (.ref a)) R E s)
  (h64:∀ vs h',PC vs h'->vs.length < 64)
  (hsort : ∀ h' tk vs, zj4 s.heap h' → PC vs h' → wpAny (model prog w) A.in1.in1 (Builtin.«list.sort» ⟨[.ref h'.objs.size], []⟩) (fun fin s' => fin = .done (.ret .none) ∧ Q (.ref h'.objs.size) s') E { s with heap := h'.push { cls := .type "list", data := .seq vs.toArray }, toks := tk }) :
  wpAny (model prog w) A (call (.builtin "sorted") [.ref a]) Q E s:=by
 refine Calls.call_function_entry kind_sorted plain_sorted entry_sorted (args_sorted1 _) ?_
 unfold Builtin.«sorted»
 refine wpAny_bind (m:=checkCount "sorted" 1 1 _) (wpAny_pure (wpAny_bind (hcol _ λ h' tk vs hk hp=>?_)))
 refine wpAny_bind (wpAny_newList ?_ (by have:=h64 vs h' hp; rw [sizeLine_eq]; omega))
 refine wpAny_bind (wpAny_holding (wpAny_call_entry slot_list_sort ⟨_,Heap.get?_push_size _ rfl,rfl⟩ entry_list_sort ?_ (args_list_sort _)))
 refine wpAny_mono (hsort h' tk vs hk hp) (λ fin s' hq=>?_) λ _ _ z=>z
 obtain ⟨rfl,hq⟩:=hq
 exact ⟨_,rfl,wpAny_pure ⟨_,rfl,hq⟩⟩
end
end L2
end
section
namespace L2
open PySem PySem.Spec PyProof.Rows PySem.W S5
theorem Inv.zqI {X:Cx} {pins:List (Addr×Obj)} {σ:St} {H:Hp} {s:Shared} {a:Addr} (I:Inv X pins σ H s) (hb:∀ b o,s.heap.get? b=some o->b < a):FpOk X pins H a:=by
 have nL:X.env.locals < a:=by
   obtain ⟨m,⟨o,_,_,e,_⟩,_⟩:=I.loc
   exact hb _ _ e
 refine ⟨?_,Nat.ne_of_gt nL,λ z=>?_,.inr (Nat.le_trans I.ok.above (Nat.le_of_lt nL)),λ x c e z=>?_,λ p hp z=>?_⟩
 . cases q:H a with
   | none=>rfl
   | some u =>
    obtain ⟨o,e⟩:=(I.hok a u q).there
    exact absurd (hb _ _ e) (Nat.lt_irrefl _)
 . obtain ⟨_,o,e,_⟩:=I.funs.mem z
   exact absurd (hb _ _ e) (Nat.lt_irrefl _)
 . obtain ⟨v,o,e,_⟩:=I.cell x c e
   subst z
   exact absurd (hb _ _ e) (Nat.lt_irrefl _)
 . have e:=(I.pin p hp).1
   rw [z] at e
   exact absurd (hb _ _ e) (Nat.lt_irrefl _)
theorem range_getD {α:Type} (xs:List α) (d:α):(List.range xs.length).map (λ i=>xs.getD i d)=xs:=by
 apply List.ext_getElem
 . simp
 . intro i h1 h2
   simp [h2]
def zeO {α:Type} (xs:List α) (d:α) (p:Array Nat):List α:=p.toList.map λ i=>xs.getD i d
theorem zcR {α:Type} (xs:List α) (d:α) {p:Array Nat} (h:Arr xs.length p):(zeO xs d p).Perm xs:=by
 have q:=List.Perm.map (λ i=>xs.getD i d) h
 rw [range_getD] at q
 exact q
theorem zhq {α:Type} (xs:List α) (d:α) {lt:α->α->Bool} {p:Array Nat} (h:Arr xs.length p) (u:Up (λ i j=>lt (xs.getD i d) (xs.getD j d)) p xs.length):(zeO xs d p).Pairwise (λ a b=>lt a b=true):=by
 unfold zeO
 rw [List.pairwise_map,List.pairwise_iff_getElem]
 intro i j hi hj hij
 have hs:=h.size
 have hj':j < xs.length:=by rw [Array.length_toList] at hj; omega
 have q:=u i j hij hj'
 have e:∀ k (hk:k < p.toList.length),p.getD k 0=p.toList[k]:=λ k hk=>by
  rw [Array.getD_eq_getD_getElem?,Array.getElem?_eq_getElem (by rw [Array.length_toList] at hk; exact hk)]; simp
 rw [e i hi,e j hj] at q
 exact q
theorem zg8 {xs:List V} {vs:List Value} (r:Vals xs vs) {p:Array Nat} (h:Arr xs.length p):Vals (zeO xs .non p) (picked vs p):=by
 have key:∀ l:List Nat,(∀ i∈l,i < xs.length)->Vals (l.map λ i=>xs.getD i .non) (l.map λ i=>vs.getD i Value.none):=λ l=>by
  induction l with
  | nil=>intro _; exact .nil
  | cons i t ih =>
   intro hl
   have hi:i < xs.length:=hl i (by simp)
   obtain ⟨u,e1,e2⟩:=r.get (List.getElem?_eq_getElem hi)
   refine .cons ?_ (ih λ j hj=>hl j (List.mem_cons_of_mem _ hj))
   show RelV (xs.getD i V.non) (vs.getD i Value.none)
   rw [List.getD_eq_getElem?_getD,List.getElem?_eq_getElem hi,List.getD_eq_getElem?_getD,e1]
   exact e2
 exact key p.toList λ i hi=>List.mem_range.mp (h.mem_iff.mp hi)
theorem zjq {α:Type} (f:α->V) (xs:List α) (d:α) {p:Array Nat} (h:Arr xs.length p):zeO (xs.map f) .non p=(zeO xs d p).map f:=by
 unfold zeO
 rw [List.map_map]
 refine List.map_congr_left λ i hi=>?_
 have hi':i < xs.length:=List.mem_range.mp (h.mem_iff.mp hi)
 show (xs.map f).getD i .non=f (xs.getD i d)
 rw [List.getD_eq_getElem?_getD,List.getD_eq_getElem?_getD,List.getElem?_map,List.getElem?_eq_getElem hi']
 rfl
def KSrc (K:Frag) (H:Hp) (p:Addr) (ks:List Key):Prop:=SqL K H p (ks.map kV)\/∃ kvs:List (Key×V),H p=some (.dK kvs)/\kvs.map (·.1)=ks
theorem zeJ {ks:List Key} {vs:List Value} (r:Vals (ks.map kV) vs) {i:Nat} (hi:i < ks.length):RelV (kV (atK ks i)) (vs.getD i Value.none):=by
 have e:(ks.map kV)[i]?=some (kV (atK ks i)):=by rw [List.getElem?_map,zgr hi]; rfl
 obtain ⟨u,e1,e2⟩:=r.get e
 rw [List.getD_eq_getElem?_getD,e1]
 exact e2
theorem zlQ {ks:List Key} (one:zdl ks) {a b:Key} (ha:a∈ks) (hb:b∈ks):zdl [a,b]:=by
 rcases one with o | o
 . exact .inl λ k hk=>by
    rcases List.mem_cons.mp hk with z | z
    . rw [z]; exact o a ha
    . have:k=b:=by simpa using z
      rw [this]; exact o b hb
 . exact .inr λ k hk=>by
    rcases List.mem_cons.mp hk with z | z
    . rw [z]; exact o a ha
    . have:k=b:=by simpa using z
      rw [this]; exact o b hb
section
variable {X:Cx}
theorem zdY (hc:X.calm=true):zfU X (.builtin "sorted") (λ xs H Q=>∃ p ks,xs=[.ref p]/\KSrc X.K H p ks/\ks.Nodup/\zdl ks/\ks.length < 64 /\
   ∀ (ys:List Key) (l:Addr),ys.Perm ks->ys.Pairwise (λ a b=>kLt a b=true)->H l=none->Q (.ref l) (upd H l (.lst (ys.map kV)))):=by
 intro pins s σ H xs us Q I r h
 obtain ⟨p,ks,rfl,src,nd,one,h64,h⟩:=h
 obtain ⟨u,rfl,ru⟩:=Vals.one r
 cases ru
 refine zkm (PC:=λ vs _=>Vals (ks.map kV) vs) (λ R hR=>?_) (λ vs _ hv=>by rw [<-hv.length,List.length_map]; exact h64) (λ h' tk vs hk hv=>?_)
 . rcases src with hq | ⟨kvs,hd,hks⟩
   . obtain ⟨its,rv,pl,hz⟩:=I.list hq
     refine collect_list pl.isList (hR _ s.toks its (λ b o e=>?_) rv) (by rw [<-rv.length]; exact hz)
     have hb:=Heap.lt_size e
     rw [Heap.get?_update_other _ _ (Nat.ne_of_gt hb)]
     exact Heap.get?_push_of_some _ e
   . obtain ⟨z,lo,vs,rel,dd⟩:=zgQ I.hok hd
     obtain ⟨ep,hat⟩:=dd.dictAt
     refine kdu_collect (A:=X.A.in1) (kdl_dict (knd:=zaC X.prog X.w) (kvs:=vs) (ep:=ep) lo) (I.ok.hd hc) hat (by rw [<-rel.length]; exact z) λ h' tk acc hk hacc=>hR h' tk acc.toList hk ?_
     have hl:acc.toList.length=ks.length:=by rw [Array.length_toList,hacc.1,<-rel.length,<-hks,List.length_map]
     have key:∀ (l1:List Key) (l2:List Value) (off:Nat),l2.length=l1.length->(∀ j v,l2[j]?=some v->∃ k,l1[j]?=some k/\RelV (kV k) v)->Vals (l1.map kV) l2:=λ l1=>by
       induction l1 with
       | nil=>intro l2 _ hl2 _; cases l2 with
         | nil=>exact .nil
         | cons _ _=>simp at hl2
       | cons k t ih =>
         intro l2 off hl2 hj
         cases l2 with
         | nil=>simp at hl2
         | cons v t2 =>
          obtain ⟨k',e1,e2⟩:=hj 0 v rfl
          have:k=k':=Option.some.inj e1
          subst this
          exact .cons e2 (ih t2 off (by simpa using hl2) λ j w hw=>hj (j+1) w (by simpa using hw))
     refine key ks acc.toList 0 hl λ j v hj=>?_
     obtain ⟨k,x,e1,e2⟩:=hacc.2 j v (by rw [<-Array.getElem?_toList]; exact hj)
     refine ⟨k,?_,?_⟩
     . rw [<-hks,KV.keys rel,List.getElem?_map,e1]; rfl
     . rcases zaV (show zhN k v=true from e2) with ⟨i,t,rfl,rfl⟩ | ⟨x',t,rfl,rfl⟩
       . exact ⟨t,rfl⟩
       . exact ⟨t,rfl⟩
 . have hl:vs.length=ks.length:=by rw [<-hv.length,List.length_map]
   have O:=ordK nd one
   rw [<-hl] at O
   refine zlD (s:={ s with heap:=h'.push { cls:=.type "list",data:=.seq vs.toArray },toks:=tk }) (κ:=oneType') (c:=0) (Heap.get?_push_size _ rfl) (by rw [hl]; exact h64) O (λ h1 _ h2 Qk hq=>?_) (λ h1 _ i j hi hj hne Qb hq=>?_) (λ q h3 c' hp hu hkb hg=>⟨rfl,?_⟩)
   . refine kas_kind (T:=.type (kTy ks)) h2 (λ v hvm=>?_) ?_ ?_ hq
     . obtain ⟨i,hi⟩:=List.mem_iff_getElem?.mp hvm
       have hi':i < ks.length:=by rw [<-hl]; exact (List.getElem?_eq_some_iff.mp hi).1
       have:=zeJ hv hi'
       rw [List.getD_eq_getElem?_getD,hi] at this
       exact ty_keys one (zc0 hi') this _ _
     . rcases ziX ks with z | z <;> rw [z] <;> decide
     . rcases ziX ks with z | z <;> rw [z] <;> decide
   . rw [keyLt'_oneType]
     rw [hl] at hi hj
     exact zl2 (zlQ one (zc0 hi) (zc0 hj)) (zeJ hv hi) (zeJ hv hj) hq
   . rw [hl] at hp hu
     have keepAll:∀ b o,s.heap.get? b=some o->h3.get? b=some o:=λ b o e=>hkb b o (Nat.ne_of_lt (Heap.lt_size (hk b o e))) (Heap.get?_push_of_some _ (hk b o e))
     have I1:Inv X pins σ H { s with heap:=h3,toks:=tk }:=I.kept keepAll
     have fp:=I.zqI (a:=h'.objs.size) λ b o e=>Heap.lt_size (hk b o e)
     have vp:=zg8 hv (p:=q) (by rw [List.length_map]; exact hp)
     rw [zjq kV ks (Sum.inl 0) hp] at vp
     have lp:(zeO ks (Sum.inl 0) q).length=ks.length:=(zcR ks (Sum.inl 0) hp).length_eq
     refine ⟨.ref h'.objs.size,upd H h'.objs.size (.lst ((zeO ks (Sum.inl 0) q).map kV)),?_,rfl,h _ _ (zcR ks _ hp) (zhq ks _ hp hu) fp.1⟩
     have f2:FpOk X pins H h'.objs.size:=fp
     exact I1.zp1 f2 ⟨by rw [List.length_map,lp,sizeLine_eq]; omega,picked vs q,c',vp,hg⟩
end
end L2
end
section
namespace L2
open PySem PySem.Spec PyProof.Rows PySem.W S5
def ItV (v d:Addr):Heap->Prop:=λ h=>h.IsItemsView v d
section
variable {X:Cx}
def zsK:V->List V->Hp->VK->Prop:=λ x xs H Q=>∃ (d:Addr) (kvs:List (Key×V)),x=.ref d/\xs=[]/\H d=some (.dK kvs)/\∀ v:Addr,H v=none->Q (.ref v) (upd H v (.ext (ItV v d)))
theorem zqp:MtR X "dict.items" zsK:=by
 intro pins s σ H x xs v us Q I r rs h
 obtain ⟨d,kvs,rfl,rfl,hd,h⟩:=h
 cases r
 cases rs
 obtain ⟨z,lo,vs,rel,dd⟩:=zgQ I.hok hd
 have hn:=I.hok.fresh (Nat.le_refl s.heap.objs.size)
 refine call_meetsIn PySem.F.slot_dict_items dd.typeIs PySem.F.entry_dict_items (PySem.F.args_dict_items_1 _) (meets_dict_items (zaC X.prog X.w) d lo) ⟨⟨vs,dd⟩,⟨.ref s.heap.objs.size,upd H s.heap.objs.size (.ext (ItV s.heap.objs.size d)),?_,rfl,h _ hn⟩⟩
 have vw:(s.heap.push { cls:=.type "dict_items",data:=.fields #[.ref d] }).IsItemsView s.heap.objs.size d:=⟨_,Heap.get?_push_size _ rfl,rfl,rfl⟩
 exact I.laid (t':=s.toks) (λ b u e=>Heap.get?_push_of_some _ e) (Nat.le_refl _) ⟨vw,⟨_,Heap.get?_push_size _ rfl⟩,λ h1 h2 ⟨o,e,c,dd⟩ k=>⟨o,k o e,c,dd⟩⟩
end
theorem Inv.zkc {X:Cx} {pins:List (Addr×Obj)} {σ:St} {s:Shared}:∀ (as:List Addr) (ts:List (List V)) {H:Hp},Inv X pins σ H s->as.length=ts.length->as.Nodup->(∀ a∈as,FpOk X pins H a) ->
  (∀ (j:Nat) (a:Addr) (t:List V),as[j]?=some a->ts[j]?=some t->zbH X.prog X.w H s.heap a (.tup t)) ->
  ∃ H',Inv X pins σ H' s/\Same H H'/\(∀ b,b∉as->H' b=H b)/\∀ (j:Nat) (a:Addr) (t:List V),as[j]?=some a->ts[j]?=some t->H' a=some (.tup t)
 | [],[],H,I,_,_,_,_=>⟨H,I,Same.refl H,λ _ _=>rfl,λ j a t e=>by cases e⟩
 | [],_::_,_,_,hl,_,_,_=>by simp at hl
 | _::_,[],_,_,hl,_,_,_=>by simp at hl
 | a::as,t::ts,H,I,hl,nd,hf,ho=>by
  obtain ⟨na,nd'⟩:=List.nodup_cons.mp nd
  have fa:=hf a (by simp)
  have I1:=I.zp1 (o:=.tup t) fa (ho 0 a t rfl rfl)
  obtain ⟨H',I',sm,ot,at_⟩:=Inv.zkc as ts I1 (by simpa using hl) nd' (λ b hb=>⟨by rw [zae (show b≠a from λ z=>na (by rw [<-z]; exact hb))]; exact (hf b (List.mem_cons_of_mem _ hb)).1,(hf b (List.mem_cons_of_mem _ hb)).2⟩) (λ j b t' e1 e2=>ho (j+1) b t' (by simpa using e1) (by simpa using e2))
  have ha:H' a=some (.tup t):=by rw [ot a na]; exact zab
  refine ⟨H',I',λ b o e=>sm b o (by rw [zae (zaf e fa.1)]; exact e),λ b hb=>?_,λ j b t' e1 e2=>?_⟩
  . rw [ot b λ z=>hb (List.mem_cons_of_mem _ z),zae λ z=>hb (by rw [z]; simp)]
  . cases j with
    | zero =>
     have q1:a=b:=Option.some.inj e1
     have q2:t=t':=Option.some.inj e2
     subst q1 q2
     exact ha
    | succ j=>exact at_ j b t' (by simpa using e1) (by simpa using e2)
theorem zmU:∀ as:List Addr,Vals (as.map V.ref) (as.map Value.ref)
 | []=>.nil
 | _::t=>.cons rfl (zmU t)
theorem zkB {α β:Type} {F:α->β->Prop}:∀ {l:List α} {m:List β},l.length=m.length->(∀ (j:Nat) (a:α) (b:β),l[j]?=some a->m[j]?=some b->F a b)->Paired F l m
 | [],[],_,_=>.nil
 | [],_::_,h,_=>by simp at h
 | _::_,[],h,_=>by simp at h
 | a::l,b::m,h,k=>.cons (k 0 a b rfl rfl) (zkB (by simpa using h) λ j x y e1 e2=>k (j+1) x y (by simpa using e1) (by simpa using e2))
theorem ziW {h:Heap}:∀ {as:List Addr} {fs:List Value},as.length=fs.length->(∀ (j:Nat) (a:Addr) (f:Value),as[j]?=some a->fs[j]?=some f->∃ x,h.get? a=some { cls:=.type "tuple",data:=.seq #[f,x] })->KatTups h (as.map Value.ref) fs
 | [],[],_,_=>.nil
 | [],_::_,hl,_=>by simp at hl
 | _::_,[],hl,_=>by simp at hl
 | a::as,f::fs,hl,k=>by
  obtain ⟨x,e⟩:=k 0 a f rfl rfl
  exact KatTups.cons e rfl rfl rfl (ziW (by simpa using hl) λ j a' f' e1 e2=>k (j+1) a' f' (by simpa using e1) (by simpa using e2))
def kvD:Key×V:=(Sum.inl 0,.non)
section
variable {X:Cx}
theorem zgo (hc:X.calm=true):zfU X (.builtin "sorted") (λ xs H Q=>∃ (v d:Addr) (kvs:List (Key×V)),xs=[.ref v]/\H v=some (.ext (ItV v d))/\H d=some (.dK kvs)/\zdl (kvs.map (·.1))/\kvs.length < 64 /\
   ∀ (ys:List (Key×V)) (l:Addr) (as:List Addr) (H':Hp),ys.Perm kvs->ys.Pairwise (λ a b=>kLt a.1 b.1=true)->Same H H'->H l=none->H' l=some (.lst (as.map V.ref))->Paired (λ a kv=>H a=none/\H' a=some (.tup [kV kv.1,kv.2])) as ys->Q (.ref l) H'):=by
 intro pins s σ H xs us Q I r h
 obtain ⟨v,d,kvs,rfl,hv,hd,one,h64,h⟩:=h
 obtain ⟨u,rfl,ru⟩:=Vals.one r
 cases ru
 obtain ⟨z,lo,ws,rel,dd⟩:=zgQ I.hok hd
 obtain ⟨ep,hat⟩:=dd.dictAt
 have vw:s.heap.IsItemsView v d:=(I.hok v _ hv).1
 have wl:ws.length=kvs.length:=rel.length.symm
 have nd:(kvs.map (·.1)).Nodup:=by rw [KV.keys rel]; exact hat.nodup
 refine zkm (PC:=λ vs h'=>∃ as,vs=as.map Value.ref/\as.length=kvs.length/\KdxG (zaC X.prog X.w) ws s.heap.objs.size h' as) (λ R hR=>?_) (λ vs _ ⟨as,e,hl,_⟩=>by rw [e,List.length_map,hl]; exact h64) (λ h' tk vs hk hp=>?_)
 . exact kdx_collect (A:=X.A.in1) (I.ok.hd hc) vw hat (by rw [wl]; exact z) λ h' tk as hk hl hG=>hR h' tk _ hk ⟨as,rfl,by rw [hl,wl],hG⟩
 . obtain ⟨as,rfl,hal,hG⟩:=hp
   have tup:∀ i,i < kvs.length->∃ a key x,as[i]?=some a/\h'.get? a=some { cls:=.type "tuple",data:=.seq #[key,x] }/\RelV (kV (atK (kvs.map (·.1)) i)) key/\RelV (kvs.getD i kvD).2 x:=λ i hi=>by
     have ia:i < as.length:=by rw [hal]; exact hi
     obtain ⟨key,k,x,e1,e2,e3⟩:=hG.pairs i as[i] (List.getElem?_eq_getElem ia)
     have ek:kvs[i]?=some kvs[i]:=List.getElem?_eq_getElem hi
     have rr:∀ {l:List (Key×V)} {m:List (Key×Value)} {j:Nat} {p:Key×V} {q:Key×Value},KV l m->l[j]?=some p->m[j]?=some q->p.1=q.1/\RelV p.2 q.2:=λ {l m j p q} rl=>by
       unfold KV at rl
       induction rl generalizing j with
       | nil=>intro e; cases e
       | cons hh tt ih =>
         intro e1 e2
         cases j with
         | zero=>cases e1; cases e2; exact hh
         | succ j=>exact ih (by simpa using e1) (by simpa using e2)
     obtain ⟨q1,q2⟩:=rr rel ek e1
     refine ⟨as[i],key,x,List.getElem?_eq_getElem ia,e3,?_,?_⟩
     . have:atK (kvs.map (·.1)) i=k:=by
         unfold atK
         rw [List.getD_eq_getElem?_getD,List.getElem?_map,ek]
         exact q1
       rw [this]
       rcases zaV (show zhN k key=true from e2) with ⟨n,t,rfl,rfl⟩ | ⟨y,t,rfl,rfl⟩
       . exact ⟨t,rfl⟩
       . exact ⟨t,rfl⟩
     . rw [List.getD_eq_getElem?_getD,ek]; exact q2
   have kl:(kvs.map (·.1)).length=kvs.length:=List.length_map ..
   have vl:(as.map Value.ref).length=kvs.length:=by rw [List.length_map,hal]
   have O:=ordK nd one
   rw [kl,<-vl] at O
   have asLt:∀ a∈as,a < h'.objs.size:=λ a ha=>hG.there ha
   have getV:∀ i a,as[i]?=some a->(as.map Value.ref).getD i Value.none=.ref a:=λ i a e=>by rw [List.getD_eq_getElem?_getD,List.getElem?_map,e]; rfl
   have T0:(Value.type (kTy (kvs.map (·.1))) != Value.type "tuple")=true:=by rcases ziX (kvs.map (·.1)) with z | z <;> rw [z] <;> decide
   refine zlD (s:={ s with heap:=h'.push { cls:=.type "list",data:=.seq (as.map Value.ref).toArray },toks:=tk }) (κ:=tuples' true) (c:=0) (lt:=λ i j=>kLt (atK (kvs.map (·.1)) i) (atK (kvs.map (·.1)) j)) (Heap.get?_push_size _ rfl) (by rw [vl]; exact h64) O (λ h1 k1 h2 Qk hq=>?_) (λ h1 k1 i j hi hj hne Qb hq=>?_) (λ q h3 c' hp hu hkb hg=>⟨rfl,?_⟩)
   . have there:∀ b o,h'.get? b=some o->h1.get? b=some o:=λ b o e=>k1 b o (Nat.ne_of_lt (Heap.lt_size e)) (Heap.get?_push_of_some _ e)
     have fsx:∃ fs:List Value,as.length=fs.length/\(∀ (j:Nat) (a:Addr) (f:Value),as[j]?=some a->fs[j]?=some f->∃ x,h1.get? a=some { cls:=.type "tuple",data:=.seq #[f,x] })/\∀ f∈fs,Looks (model X.prog X.w) h1 (typeOf f) (.type (kTy (kvs.map (·.1)))):=by
       let fs:=(List.range kvs.length).map λ i=>match as[i]? with
         | some a=>(match h'.get? a with
          | some o=>(match o.data with | .seq xs _=>xs.getD 0 Value.none | _=>Value.none)
          | none=>Value.none)
         | none=>Value.none
       have fget:∀ i,i < kvs.length->∃ a key x,as[i]?=some a/\fs[i]?=some key/\h'.get? a=some { cls:=.type "tuple",data:=.seq #[key,x] }/\RelV (kV (atK (kvs.map (·.1)) i)) key:=λ i hi=>by
         obtain ⟨a,key,x,e1,e2,e3,_⟩:=tup i hi
         refine ⟨a,key,x,e1,?_,e2,e3⟩
         show ((List.range kvs.length).map _)[i]?=some key
         rw [List.getElem?_map,List.getElem?_range hi]
         simp [e1,e2]
       refine ⟨fs,by simp [fs,hal],λ j a f e1 e2=>?_,λ f hf=>?_⟩
       . have hj:j < kvs.length:=by rw [<-hal]; exact (List.getElem?_eq_some_iff.mp e1).1
         obtain ⟨a',key,x,g1,g2,g3,_⟩:=fget j hj
         rw [e1] at g1; cases g1
         rw [e2] at g2; cases g2
         exact ⟨x,there _ _ g3⟩
       . obtain ⟨j,hj⟩:=List.mem_iff_getElem?.mp hf
         have hj':j < kvs.length:=by have:=(List.getElem?_eq_some_iff.mp hj).1; simpa [fs] using this
         obtain ⟨a',key,x,g1,g2,g3,g4⟩:=fget j hj'
         rw [hj] at g2; cases g2
         exact ty_keys one (zc0 (by rw [kl]; exact hj')) g4 _ _
     obtain ⟨fs,fl,fp,ft⟩:=fsx
     have hq':Qk (tuples' (Value.type (kTy (kvs.map (·.1))) != Value.type "tuple")) { s with heap:=h1,toks:=tk }:=by rw [T0]; exact hq
     exact kat_kind (ziW fl fp) (by rw [<-fl,hal]; rw [vl] at h2; omega) ft (by rcases ziX (kvs.map (·.1)) with z | z <;> rw [z] <;> decide) hq'
   . have there:∀ b o,h'.get? b=some o->h1.get? b=some o:=λ b o e=>k1 b o (Nat.ne_of_lt (Heap.lt_size e)) (Heap.get?_push_of_some _ e)
     rw [vl] at hi hj
     obtain ⟨a,key,x,e1,e2,e3,_⟩:=tup i hi
     obtain ⟨b,key',x',g1,g2,g3,_⟩:=tup j hj
     rw [getV i a e1,getV j b g1]
     have hik:i < (kvs.map (·.1)).length:=by rw [kl]; exact hi
     have hjk:j < (kvs.map (·.1)).length:=by rw [kl]; exact hj
     have ne:atK (kvs.map (·.1)) i≠atK (kvs.map (·.1)) j:=λ e=>hne (by
       have q1:=zgr hik
       have q2:=zgr hjk
       rw [e] at q1
       obtain ⟨_,w1⟩:=List.getElem?_eq_some_iff.mp q1
       obtain ⟨_,w2⟩:=List.getElem?_eq_some_iff.mp q2
       exact (List.getElem_inj (h₀:=hik) (h₁:=hjk) nd).mp (w1.trans w2.symm))
     refine kat_lt (there _ _ e2) rfl (there _ _ g2) rfl ?_
     refine kat_cons (zrR ne e3 g3 (kat_no ?_))
     exact zl2 (zlQ one (zc0 hik) (zc0 hjk)) e3 g3 hq
   . rw [vl] at hp hu
     have keepAll:∀ b o,s.heap.get? b=some o->h3.get? b=some o:=λ b o e=>hkb b o (Nat.ne_of_lt (Heap.lt_size (hk b o e))) (Heap.get?_push_of_some _ (hk b o e))
     have there:∀ b o,h'.get? b=some o->h3.get? b=some o:=λ b o e=>hkb b o (Nat.ne_of_lt (Heap.lt_size e)) (Heap.get?_push_of_some _ e)
     have I1:Inv X pins σ H { s with heap:=h3,toks:=tk }:=I.kept keepAll
     have and_:as.Nodup:=hG.rise.imp λ h=>Nat.ne_of_lt h
     have fa:∀ a∈as,FpOk X pins H a:=λ a ha=>I.zqI λ b o e=>Nat.lt_trans (Heap.lt_size e) (hG.above a ha)
     obtain ⟨H1,I2,sm,ot,at_⟩:=I1.zkc as (kvs.map λ kv=>[kV kv.1,kv.2]) (by rw [List.length_map,hal]) and_ fa (λ j a t e1 e2=>by
       have hj:j < kvs.length:=by rw [<-hal]; exact (List.getElem?_eq_some_iff.mp e1).1
       obtain ⟨a',key,x,g1,g2,g3,g4⟩:=tup j hj
       rw [e1] at g1; cases g1
       rw [List.getElem?_map,List.getElem?_eq_getElem hj] at e2
       have e2':[kV kvs[j].1,kvs[j].2]=t:=Option.some.inj e2
       subst e2'
       have q1:atK (kvs.map (·.1)) j=kvs[j].1:=by unfold atK; rw [List.getD_eq_getElem?_getD,List.getElem?_map,List.getElem?_eq_getElem hj]; rfl
       have q2:(kvs.getD j kvD).2=kvs[j].2:=by rw [List.getD_eq_getElem?_getD,List.getElem?_eq_getElem hj]; rfl
       rw [q1] at g3
       rw [q2] at g4
       exact ⟨by show 2<=sizeLine; rw [sizeLine_eq]; omega,[key,x],.cons g3 (.cons g4 .nil),_,there _ _ g2,rfl,_,rfl⟩)
     have fl0:=I.zqI (a:=h'.objs.size) λ b o e=>Heap.lt_size (hk b o e)
     have nl:h'.objs.size∉as:=λ z=>absurd (asLt _ z) (Nat.lt_irrefl _)
     have fl1:FpOk X pins H1 h'.objs.size:=⟨by rw [ot _ nl]; exact fl0.1,fl0.2⟩
     have hpk:Arr as.length q:=by rw [hal]; exact hp
     have vr:Vals (as.map V.ref) (as.map Value.ref):=by
       exact zmU as
     have vp:=zg8 vr (p:=q) (by rw [List.length_map]; exact hpk)
     rw [zjq V.ref as 0 hpk] at vp
     have lp:(zeO as 0 q).length=kvs.length:=by rw [(zcR as 0 hpk).length_eq,hal]
     have I3:=I2.zp1 (o:=.lst ((zeO as 0 q).map V.ref)) fl1 ⟨by rw [List.length_map,lp,sizeLine_eq]; omega,picked (as.map Value.ref) q,c',vp,hg⟩
     refine ⟨.ref h'.objs.size,_,I3,rfl,h (zeO kvs kvD q) h'.objs.size (zeO as 0 q) _ (zcR kvs kvD hp) ?_ (λ b o e=>by rw [zae (zaf e fl0.1)]; exact sm b o e) fl0.1 zab ?_⟩
     . refine zhq (lt:=λ a b=>kLt a.1 b.1) kvs kvD hp λ i j hij hj=>?_
       have q0:=hu i j hij hj
       have conv:∀ m,atK (kvs.map (·.1)) m=(kvs.getD m kvD).1:=λ m=>by
         unfold atK
         rw [List.getD_eq_getElem?_getD,List.getElem?_map,List.getD_eq_getElem?_getD]
         cases kvs[m]? with
         | none=>rfl
         | some _=>rfl
       show kLt (kvs.getD (q.getD i 0) kvD).1 (kvs.getD (q.getD j 0) kvD).1=true
       rw [<-conv,<-conv]; exact q0
     . refine zkB (by rw [lp,(zcR kvs kvD hp).length_eq]) λ j a kv e1 e2=>?_
       unfold zeO at e1 e2
       rw [List.getElem?_map] at e1 e2
       cases hj:q.toList[j]? with
       | none=>rw [hj] at e1; cases e1
       | some i =>
         rw [hj] at e1 e2
         have hi:i < kvs.length:=List.mem_range.mp (hp.mem_iff.mp (List.mem_of_getElem? hj))
         have ia:i < as.length:=by rw [hal]; exact hi
         have q1:as.getD i 0=a:=Option.some.inj e1
         have q2:kvs.getD i kvD=kv:=Option.some.inj e2
         rw [List.getD_eq_getElem?_getD,List.getElem?_eq_getElem ia] at q1
         rw [List.getD_eq_getElem?_getD,List.getElem?_eq_getElem hi] at q2
         have q1':as[i]=a:=q1
         have q2':kvs[i]=kv:=q2
         have mem:a∈as:=by rw [<-q1']; exact List.getElem_mem ia
         refine ⟨(fa a mem).1,?_⟩
         rw [zae (show a≠h'.objs.size from λ z=>nl (by rw [<-z]; exact mem))]
         exact at_ i a _ (by rw [List.getElem?_eq_getElem ia,q1']) (by rw [List.getElem?_map,List.getElem?_eq_getElem hi,q2']; rfl)
end
end L2
end
section
namespace L2
open PySem PySem.Spec PySem.W PyProof.Rows S5
section
variable {X:Cx} {x:Str} {pos:Pos}
theorem zcE {y:Str} (hg:Gl X x) (hm:∃ t,X.mg x=some (.str y t)) (hd:(x == ("__debug__" : Str))=false:=by decide):PE X (.Name x pos) (tC (.str y)):=by
 obtain ⟨t,e⟩:=hm
 exact zoV hg e ⟨t,rfl⟩ hd
theorem ztE {i:Int} (hg:Gl X x) (hm:∃ t,X.mg x=some (.int i t)) (hd:(x == ("__debug__" : Str))=false:=by decide):PE X (.Name x pos) (tC (.int i)):=by
 obtain ⟨t,e⟩:=hm
 exact zoV hg e ⟨t,rfl⟩ hd
end
mutual
inductive DV (H:Hp):V->Dat->Prop
 | non:DV H .non .none
 | int (i:Int):DV H (.int i) (.int i)
 | str (x:Str):DV H (.str x) (.str x)
 | tup {p:Addr} {vs:List V} {ds:List Dat}:H p=some (.tup vs)->DVs H vs ds->DV H (.ref p) (.tuple ds)
 | lst {p:Addr} {vs:List V} {ds:List Dat}:H p=some (.lst vs)->DVs H vs ds->DV H (.ref p) (.list ds)
inductive DVs (H:Hp):List V->List Dat->Prop
 | nil:DVs H [] []
 | cons {v:V} {vs:List V} {d:Dat} {ds:List Dat}:DV H v d->DVs H vs ds->DVs H (v::vs) (d::ds)
end
section
variable {P:Program} {w:World} {H:Hp} {h:Heap}
mutual
theorem DV.reads (hok:HOk P w H h):∀ {v:V} {d:Dat} {u:Value},DV H v d->RelV v u->∃ as,Reads h u (kqdP d) as
 | _,_,_,.non,r=>by cases r; exact ⟨_,.none⟩
 | _,_,_,.int i,r=>by obtain ⟨t,rfl⟩:=r; exact ⟨_,.int i t⟩
 | _,_,_,.str x,r=>by obtain ⟨t,rfl⟩:=r; exact ⟨_,.str x t⟩
 | _,_,_,.tup e q,r=>by
  cases r
  obtain ⟨_,its,rv,o,ho,hc,n,hd⟩:=hok _ _ e
  obtain ⟨as,ra⟩:=DVs.reads hok q rv
  rw [kqdP]
  exact ⟨_,.tuple ho hc hd (by simpa using ra)⟩
 | _,_,_,.lst e q,r=>by
  cases r
  obtain ⟨_,its,n,rv,ho⟩:=hok _ _ e
  obtain ⟨as,ra⟩:=DVs.reads hok q rv
  rw [kqdP]
  exact ⟨_,.list ho rfl rfl (by simpa using ra)⟩
theorem DVs.reads (hok:HOk P w H h):∀ {vs:List V} {ds:List Dat} {us:List Value},DVs H vs ds->Vals vs us->∃ as,ReadsAll h us (kqdPs ds) as
 | _,_,_,.nil,r=>by cases r; exact ⟨_,.nil⟩
 | _,_,_,.cons a b,r=>by
  cases r with
  | cons r1 r2 =>
   obtain ⟨as,q⟩:=DV.reads hok a r1
   obtain ⟨bs,q'⟩:=DVs.reads hok b r2
   rw [kqdPs]
   exact ⟨_,.cons q q'⟩
end
theorem DVs.length {H:Hp}:∀ {vs:List V} {ds:List Dat},DVs H vs ds->vs.length=ds.length
 | _,_,.nil=>rfl
 | _,_,.cons _ r=>congrArg (·+1) (DVs.length r)
end
abbrev zn9 (d:Dat):Prop:=kqdOk 8 d=true
open Classical in
theorem zr6 {d e:Dat} (hd:zn9 d) (he:zn9 e):PyData.eqv (kqdP d) (kqdP e)=decide (d=e):=by
 have q:=kqd_eqv 8 d e 8 hd he
 by_cases h:d=e
 . rw [decide_eq_true h]; exact q.mpr h
 . rw [decide_eq_false h]; exact Bool.eq_false_iff.mpr λ z=>h (q.mp z)
theorem zi3 {d:Dat} (hd:zn9 d):SeqAt.shaped (kqdP d)=true:=by
 have l:=kqd_lay 8 d hd
 unfold SeqAt.shaped; rw [l.1,Bool.true_and]; exact decide_eq_true (Nat.le_trans l.2 (by decide))
section
variable {X:Cx}
open Classical in
open Classical in
noncomputable def rNeD:R2:=λ x y H Q=>∃ d e,DV H x d/\DV H y e/\zn9 d/\zn9 e/\Q (.bl (!decide (d=e))) H
theorem zsV (hu:X.A.units+64 < cLine):OpR X (compareOp .NotEq) rNeD:=by
 intro pins s σ H x y v u Q I rx ry h
 obtain ⟨d,e,hd,he,kd,ke,q⟩:=h
 obtain ⟨as,ra⟩:=hd.reads I.hok rx
 obtain ⟨bs,rb⟩:=he.reads I.hok ry
 exact ne_dataH ra rb (zi3 kd) (zi3 ke) hu (by rw [zr6 kd ke]; exact ⟨.bl _,H,I,rfl,q⟩)
theorem hu64 {A:Around} {k:Nat} (hr:Room k A):A.units+64 < cLine:=hr.units
end
end L2
end
section
namespace L2
open PySem PySem.Spec PySem.W PyProof.Rows S5
section
variable {X:Cx}
theorem zh1:zfU X (.builtin "isinstance") (λ xs H Q=>∃ x c t b,xs=[x,.ty c]/\TyOf X.K H x t/\kitOne X.K t (.type c)=some b/\Q (.bl b) H):=by
 intro pins s σ H xs us Q I r h
 obtain ⟨x,c,t,b,rfl,ty,e,q⟩:=h
 obtain ⟨u,v,rfl,ru,rv⟩:=Vals.two r
 cases rv
 exact zpo I ru ty e λ tk=>⟨.bl b,H,I.tok tk,rfl,q⟩
def zqf:V->List V->Hp->VK->Prop:=λ x vs H Q=>∃ l xs y,x=.ref l/\vs=[.int 0,y]/\H l=some (.lst xs)/\xs.length < sizeLine/\Q .non (upd H l (.lst (y::xs)))
theorem zpa:MtR X "list.insert" zqf:=by
 intro pins s σ H x vs v us Q I rx rv h
 obtain ⟨l,xs,y,rfl,rfl,hH,hz,q⟩:=h
 cases rx
 obtain ⟨u1,u,rfl,r1,ru⟩:=Vals.two rv
 obtain ⟨t,rfl⟩:=r1
 obtain ⟨z,its,n,r,hl,e⟩:=I.lstM hH
 refine call_meets F.slot_list_insert ⟨_,e,rfl⟩ F.entry_list_insert (F.args_list_insert_3 _ _ _) (AutoSeq1.list_insert_list_int_val_1 l its.toArray n 0 t u (by decide) (by rw [List.size_toArray]; omega)) ⟨e,?_⟩
 refine ⟨.non,_,I.lset (its':=u::its) hH e ?_ (.cons ru r) ?_,rfl,q⟩
 . simp
 . rw [List.length_cons]; omega
def zsf (ds:List Dat) (e:Dat) (j:Nat):Prop:=ds[j]?=some e/\∀ m < j,∀ d,ds[m]?=some d->d≠e
def zsL:V->List V->Hp->VK->Prop:=λ x vs H Q=>∃ l xs y ds e j,x=.ref l/\vs=[y]/\H l=some (.lst xs)/\DVs H xs ds/\DV H y e/\(∀ d∈ds,kqdOk 7 d=true)/\kqdOk 7 e=true/\zsf ds e j/\Q (.int j) H
theorem zpF {H:Hp}:∀ {vs:List V} {ds:List Dat} {j:Nat} {d:Dat},DVs H vs ds->ds[j]?=some d->∃ v,vs[j]?=some v/\DV H v d
 | _,_,_,_,.nil,e=>by simp at e
 | _,_,0,_,.cons a _,e=>by simp at e; subst e; exact ⟨_,rfl,a⟩
 | _,_,j+1,_,.cons _ r,e=>by
  obtain ⟨v,h1,h2⟩:=zpF (j:=j) r (by simpa using e)
  exact ⟨v,by simpa using h1,h2⟩
theorem zeF {d:Dat} (h:kqdOk 7 d=true):kqdOk 8 d=true:=by
 have all:∀ n d,kqdOk n d=true->kqdOk (n+1) d=true:=λ n=>by
  induction n with
  | zero=>intro d h; cases d <;> simp_all [kqdOk]
  | succ n ih =>
   intro d h
   cases d with
   | tuple ds=>simp only [kqdOk,List.all_eq_true] at h ⊢; exact λ x hx=>ih x (h x hx)
   | list ds=>simp only [kqdOk,List.all_eq_true] at h ⊢; exact λ x hx=>ih x (h x hx)
   | _=>simp_all [kqdOk]
 exact all 7 d h
theorem zqq (hu:X.A.units+64 < cLine):MtR X "list.index" zsL:=by
 intro pins s σ H x vs v us Q I rx rv h
 obtain ⟨l,xs,y,ds,e,j,rfl,rfl,hH,hds,he,kds,ke,⟨hj,hno⟩,q⟩:=h
 cases rx
 obtain ⟨u,rfl,ru⟩:=Vals.one rv
 obtain ⟨z,its,n,r,hl,eo⟩:=I.lstM hH
 obtain ⟨as,ra⟩:=hds.reads I.hok r
 obtain ⟨bs,rb⟩:=he.reads I.hok ru
 have lay:=kqd_lay 8 (.list ds) (by simp only [kqdOk,List.all_eq_true]; exact kds)
 rw [kqdP] at lay
 have lays:PyData.canLayAll0 (kqdPs ds)=true:=by
   have:=lay.1
   simpa [PyData.canLay0] using this
 have dep:PyData.depthAll (kqdPs ds)<=8:=by
   have:=lay.2
   simp only [PyData.depth] at this
   omega
 have laye:=kqd_lay 8 e (zeF ke)
 have jl:j < its.length:=by
   have:=(List.getElem?_eq_some_iff.mp hj).1
   have h2:=hds.length
   omega
 have eqs:∀ (y':Value) (hy:y'∈its.toArray) (A':Around),A'.units<=X.A.units+40->SeqAt.EqAt A'.in1 s y' u (PyData.eqv (SeqAt.readOf s.heap y') (kqdP e)):=λ y' hy A' hA =>
   SeqAt.items_eqAt (by simpa using ra) rb lays laye.1 (by have:=Nat.min_le_right (PyData.depthAll (kqdPs ds)) (kqdP e).depth; omega) y' hy
 have at_:∀ (m:Nat) (hm:m < its.length) (d:Dat),ds[m]?=some d->SeqAt.readOf s.heap its[m]=kqdP d:=λ m hm d hd=>by
   obtain ⟨vm,h1,h2⟩:=zpF hds hd
   obtain ⟨um,h3,h4⟩:=r.get h1
   have:its[m]=um:=by
    rw [List.getElem?_eq_getElem hm] at h3
    exact Option.some.inj h3
   obtain ⟨cs,rc⟩:=h2.reads I.hok h4
   rw [this]
   exact SeqAt.readOf_eq (kqd_lay 8 d (zeF (kds d (List.mem_of_getElem? hd)))).1 rc
 refine call_meets F.slot_list_index ⟨_,eo,rfl⟩ F.entry_list_index (F.args_list_index_2 _ _)
   (SeqAt.list_indexAt l its.toArray n none #[] u (λ y'=>PyData.eqv (SeqAt.readOf s.heap y') (kqdP e)) j (by simpa using jl) ?_ ?_ ?_) ⟨eo,λ y' hy=>eqs y' hy _ (by first | exact Nat.le_add_right _ _ | omega),⟨.int j,H,I.tok _,⟨_,rfl⟩,q⟩⟩
 . have:=z
   rw [hl,sizeLine_eq] at this
   omega
 . show PyData.eqv (SeqAt.readOf s.heap its[j]) (kqdP e)=true
   rw [at_ j jl e hj]
   exact (kqd_eqv 8 e e 8 (zeF ke) (zeF ke)).mpr rfl
 . intro m hm hmj
   have hm':m < its.length:=by simpa using hm
   have hmd:m < ds.length:=by have h2:=hds.length; omega
   show PyData.eqv (SeqAt.readOf s.heap its[m]) (kqdP e)=false
   rw [at_ m hm' ds[m] (List.getElem?_eq_getElem hmd)]
   refine Bool.eq_false_iff.mpr λ z=>hno m hmj ds[m] (List.getElem?_eq_getElem hmd) ((kqd_eqv 8 _ e 8 (zeF (kds _ (List.getElem_mem hmd))) (zeF ke)).mp z)
end
end L2
end
section
namespace L2
open PySem PySem.Spec PySem.W PyProof.Rows S5
def zso (td ty tx:TE):TE:=λ σ H Q=>td σ H λ x H1=>∃ a,x=.ref a/\IsD H1 a/\ty σ H1 λ y H2=>tx σ H2 λ z H3=>∃ kvs k,H3 a=some (.dK kvs)/\y=kV k/\kvs.length < sizeLine /\
 (∀ v,valV kvs k=some v->Q v H3)/\(valV kvs k=none->Q z (upd H3 a (.dK (putK kvs k z))))
section
variable {X:Cx} {o e f:Expr} {apos cpos:Pos} {td ty tx:TE}
theorem zqj (ho:PE X o td) (he:PE X e ty) (hf:PE X f tx) (m:M2 X o "setdefault" apos e f cpos):PE X (.Call (.Attribute o "setdefault" apos) [e,f] [] cpos) (zso td ty tx):=by
 intro pins s σ H Q I h
 refine wpAny_Call_method m.base m.few m.line PySem.F.plainAttrs_dict PySem.F.slot_dict_setdefault PySem.F.type_dict_setdefault (thn (ho pins s σ H _ I h) λ u s1 ⟨x,H1,I1,rx,a,ex,d,q1⟩=>?_)
 subst ex
 obtain rfl:u=Value.ref a:=rx
 obtain ⟨t1,t2,_⟩:=znb I1 d
 refine ⟨t1,t2,?_⟩
 rw [m.trees]
 refine Calls.callWith_builtin rfl (Calls.evalArgs_plain (Calls.spliced_cons (thn (he pins s1 σ H1 _ I1 q1) λ iv s2 ⟨y,H2,I2,ry,q2⟩ =>
   Calls.spliced_cons (thn (hf pins s2 σ H2 _ I2 q2) λ fv s3 ⟨z,H3,I3,rz,kvs,k,ea,ey,hl,q3,q4⟩=>Calls.spliced_nil ?_))))
 subst ey
 obtain ⟨hz,hd,vs,rel,dd⟩:=zgQ I3.hok ea
 refine call_meetsIn PySem.F.slot_dict_setdefault dd.typeIs PySem.F.entry_dict_setdefault (PySem.F.args_dict_setdefault_3 _ _ _) (kt_meets_setdefault (zaC X.prog X.w) a (zgi ry) hd fv) ⟨vs,dd,by rw [<-rel.length]; exact hz,λ v' hv=>?_,λ hn h' dd' hs=>?_⟩
 . cases l:valV kvs k with
   | none =>
    have:=RelO.none_of (o:=valueAt vs k) (by rw [<-l]; exact rel.val k)
    rw [this] at hv; cases hv
   | some v =>
    obtain ⟨w',hw,rw'⟩:=RelO.some_of (v:=v) (o:=valueAt vs k) (by rw [<-l]; exact rel.val k)
    rw [hw] at hv; cases hv
    exact ⟨v,H3,I3.tok _,rw',q3 v l⟩
 . have l:valV kvs k=none:=by
    cases l:valV kvs k with
    | none=>rfl
    | some v =>
     obtain ⟨w',hw,_⟩:=RelO.some_of (v:=v) (o:=valueAt vs k) (by rw [<-l]; exact rel.val k)
     rw [hw] at hn; cases hn
   have hl2:(putK kvs k z).length<=sizeLine:=by have:=zfn kvs k z; omega
   have he2:∃ q,h'.get? a=some q:=let ⟨q,_,_,hq,_⟩:=dd'; ⟨q,hq⟩
   exact ⟨z,_,zhX I3 (by rw [ea]; exact True.intro) hs he2 (znh hl2 hd (rel.put k rz) dd'),rz,q4 l⟩
end
section
variable {X:Cx}
def rJoin:V->List V->Hp->VK->Prop:=λ x vs H Q=>∃ sep l ys,x=.str sep/\vs=[.ref l]/\H l=some (.lst (ys.map V.str))/\(ys.map (·.length)).sum+ys.length * sep.length<=16777216/\Q (.str (Txt.join sep ys)) H
theorem zmO:∀ {ys:List Str} {us:List Value},Vals (ys.map V.str) us->StrsAre us ys
 | [],_,.nil=>.nil
 | y::r,_,.cons q t=>by obtain ⟨k,rfl⟩:=q; exact .cons y k (zmO t)
theorem zo9:MtR X "str.join" rJoin:=by
 intro pins s σ H x vs v us Q I rx rv h
 obtain ⟨sep,l,ys,rfl,rfl,hH,hok,q⟩:=h
 obtain ⟨t,rfl⟩:=rx
 obtain ⟨u,rfl,ru⟩:=Vals.one rv
 cases ru
 obtain ⟨z,its,n,r,hl,e⟩:=I.lstM hH
 exact join_list ⟨_,e,rfl,n,rfl⟩ (by simpa using zmO r) hok λ t' k=>⟨.str _,H,I.tok _,⟨_,rfl⟩,q⟩
end
section
variable {X:Cx} {pins:List (Addr×Obj)} {σ:St} {H:Hp} {s:Shared} {a:Addr} {kvs:List (Key×V)} {o:Obj}
theorem zq7 {P:Program} {w:World} {H:Hp} {h:Heap} {a:Addr} {u v:HO} (ok:HOk P w H h) (e:H a=some v) (nt:∀ xs,v≠.tup xs) (no:∀ y,v≠.own y) (new:zbH P w (upd H a u) h a u):HOk P w (upd H a u) h:=λ b x q=>by
 by_cases hb:b=a
 . subst hb; rw [zab] at q; cases q; exact new
 . rw [zae hb] at q
   refine (ok b x q).stay (λ _ _ _ z=>z) (λ c z=>?_) λ c xs z=>?_
   . rw [zae λ k=>by rw [k,e] at z; cases z; exact no _ rfl]; exact z
   . rw [zae λ k=>by rw [k,e] at z; cases z; exact nt _ rfl]; exact z
theorem Inv.freeze (I:Inv X pins σ H s) (e:H a=some (.dK kvs)):∃ o,s.heap.get? a=some o/\Inv X pins σ (upd H a (.frz o (.dK kvs))) s:=by
 obtain ⟨hz,hd,vs,rel,ob,es,ep,ho,r⟩:=I.hok a _ e
 have ne:∀ b,H b=none->b≠a:=λ b z k=>by rw [k,e] at z; cases z
 refine ⟨ob,ho,I.ok,I.os,I.bare,⟨I.base.keep,I.base.slot,λ b o h1 h2 h3=>?_,I.base.there,λ b xs h1=>?_,λ b o u h1=>?_,λ b ps h1=>?_⟩,I.loc,I.cell,?_,λ x c h1=>?_,λ p hp=>?_,?_,I.len⟩
 . have z:=I.base.free b o h1 h2 h3
   rw [zae (ne b z)]; exact z
 . have z:=I.base.tups b xs h1
   rw [zae λ k=>by rw [k,e] at z; cases z]; exact z
 . have z:=I.base.frzs b o u h1
   rw [zae λ k=>by rw [k,e] at z; cases z]; exact z
 . obtain ⟨more,z⟩:=I.base.tbls b ps h1
   exact ⟨more,by rw [zae λ k=>by rw [k,e] at z; cases z]; exact z⟩
 . rw [zae (ne _ I.free)]; exact I.free
 . have z:=I.zd6 x c h1
   rw [zae (ne _ z)]; exact z
 . obtain ⟨h1,h2,h3⟩:=I.pin p hp
   exact ⟨h1,by rw [zae (ne _ h2)]; exact h2,h3⟩
 . exact zq7 I.hok e (λ _ z=>nomatch z) (λ _ z=>nomatch z) ⟨ho,hz,hd,vs,rel,ob,es,ep,ho,r⟩
theorem Inv.thaw (I:Inv X pins σ H s) (e:H a=some (.frz o (.dK kvs))) (h0:∀ ob u,X.H₀ a≠some (.frz ob u)):Inv X pins σ (upd H a (.dK kvs)) s:=by
 obtain ⟨ho,dk⟩:=I.hok a _ e
 have ne:∀ b,H b=none->b≠a:=λ b z k=>by rw [k,e] at z; cases z
 refine ⟨I.ok,I.os,I.bare,⟨I.base.keep,I.base.slot,λ b o h1 h2 h3=>?_,I.base.there,λ b xs h1=>?_,λ b o u h1=>?_,λ b ps h1=>?_⟩,I.loc,I.cell,?_,λ x c h1=>?_,λ p hp=>?_,?_,I.len⟩
 . have z:=I.base.free b o h1 h2 h3
   rw [zae (ne b z)]; exact z
 . have z:=I.base.tups b xs h1
   rw [zae λ k=>by rw [k,e] at z; cases z]; exact z
 . have z:=I.base.frzs b o u h1
   rw [zae λ k=>by rw [k] at h1; exact h0 _ _ h1]; exact z
 . obtain ⟨more,z⟩:=I.base.tbls b ps h1
   exact ⟨more,by rw [zae λ k=>by rw [k,e] at z; cases z]; exact z⟩
 . rw [zae (ne _ I.free)]; exact I.free
 . have z:=I.zd6 x c h1
   rw [zae (ne _ z)]; exact z
 . obtain ⟨h1,h2,h3⟩:=I.pin p hp
   exact ⟨h1,by rw [zae (ne _ h2)]; exact h2,h3⟩
 . refine zq7 I.hok e (λ _ z=>nomatch z) (λ _ z=>nomatch z) ?_
   obtain ⟨hz,hd,vs,rel,r⟩:=dk
   exact ⟨hz,hd,vs,rel,r⟩
theorem Inv.zrP (I:Inv X pins σ H s) (e:H a=some (.dK kvs)):∀ ob u,X.H₀ a≠some (.frz ob u):=λ ob u z=>by
 have:=I.base.frzs a ob u z
 rw [e] at this; cases this
end
def Itk (a:Addr) (o:Obj) (kvs:List (Key×V)):It :=
 ⟨λ i H=>i < kvs.length/\H a=some (.frz o (.dK kvs)),λ i H x H'=>H'=H/\∃ k v,kvs[i]?=some (k,v)/\x=kV k,λ i H=>kvs.length<=i/\H a=some (.frz o (.dK kvs))⟩
def epOf (o:Obj):Nat:=match o.data with | .dict _ ep=>ep | _=>0
theorem zmf {P:Program} {w:World} {H:Hp} {h:Heap} {a:Addr} {o:Obj} {kvs:List (Key×V)} (ok:HOk P w H h) (e:H a=some (.frz o (.dK kvs))):(a == sysModules)=false/\∃ vs,KV kvs vs/\h.DictAt (zaC P w) a vs (epOf o)/\vs.length=kvs.length:=by
 obtain ⟨ho,hz,hd,vs,rel,ob,es,ep,ho',hx,hdt,r⟩:=ok a _ e
 rw [ho] at ho'; cases ho'
 have:epOf o=ep:=by unfold epOf; rw [hdt]
 exact ⟨hd,vs,rel,⟨o,es,ho,hx,by rw [this]; exact hdt,r⟩,rel.length.symm⟩
theorem zos {P:Program} {w:World} {K:PySem.W.Frag} {tg:Expr} (a it:Addr) (o:Obj) (kvs:List (Key×V)):Turn P w K tg (Itk a o kvs) [it] it (λ i h=>h.IsKeyIter it a i kvs.length (epOf o)) where
 mem:=by simp
 obj:=λ i h st b hb=>by
  have e:b=it:=by simpa using hb
  subst e
  obtain ⟨ob,e,c,d⟩:=st
  exact ⟨ob,e,λ v z=>by rw [d] at z; cases z⟩
 keep:=λ i h h' st k=>st.at λ ob e=>k it (by simp) ob e
 item:=by
  intro X hP hw hK hc i pins s σ H E I hf st hg
  subst hP hw hK
  obtain ⟨hlt,hH⟩:=hg
  obtain ⟨lo,vs,rel,dat,hl⟩:=zmf I.hok hH
  obtain ⟨f0,f1,f2,f3,f4,f5⟩:=hf it (by simp)
  obtain ⟨⟨k,x⟩,hx⟩:∃ q,vs[i]?=some q:=⟨_,List.getElem?_eq_getElem (by omega)⟩
  rw [<-hl] at st
  refine wpAny_pyNext_dict_item st dat hx λ key h' hkey st' sb=>?_
  have I1:Inv X pins σ H { s with heap:=h' }:=I.turned (t':=s.toks) (λ b ob hb e=>(sb.2 b hb).trans e) f0 f1 f3 f4 f5
  obtain ⟨ob,e1,c1,d1⟩:=id st'
  obtain ⟨⟨k',v⟩,hkv⟩:∃ q,kvs[i]?=some q:=⟨_,List.getElem?_eq_getElem hlt⟩
  have hk:k'=k:=by
    have e2:=congrArg (λ l=>l[i]?) (KV.keys rel)
    simp only [List.getElem?_map,hkv,hx] at e2
    exact Option.some.inj e2
  subst hk
  rw [hl] at st'
  refine ⟨key,rfl,zqE (s:={ s with heap:=h' }) e1 c1 d1 (by decide) ⟨kV k',H,I1,?_,⟨rfl,k',v,hkv,rfl⟩,st',λ b hb=>(hf b hb).1⟩⟩
  rcases zaV (show zhN k' key=true from hkey) with ⟨n,t,rfl,rfl⟩ | ⟨y,t,rfl,rfl⟩
  . exact ⟨t,rfl⟩
  . exact ⟨t,rfl⟩
 done:=by
  intro X hP hw hK hc i pins s σ H E I hf st hg
  subst hP hw hK
  obtain ⟨hle,hH⟩:=hg
  obtain ⟨lo,vs,rel,dat,hl⟩:=zmf I.hok hH
  obtain ⟨f0,f1,f2,f3,f4,f5⟩:=hf it (by simp)
  rw [<-hl] at st
  exact wpAny_pyNext_dict_end (I.ok.hd hc) st dat (List.getElem?_eq_none_iff.mpr (by omega)) λ h' eb=>⟨rfl,I.turned (t':=s.toks) (λ b ob hb e=>eb b ob hb e) f0 f1 f3 f4 f5⟩
 self:=λ _ _ _ _ _ st h=>wpAny_pyIter_keyiter st h
def ztM (tl:TE):TI:=λ σ H R=>tl σ H λ x H1=>∃ a kvs,x=.ref a/\H1 a=some (.dK kvs)/\∀ o,R (Itk a o kvs) (upd H1 a (.frz o (.dK kvs)))
section
variable {X:Cx} {tg l:Expr} {tl:TE}
theorem zlM (hl:PE X l tl):PI X tg l (ztM tl):=by
 intro pins s σ H R I h
 refine thn (hl pins s σ H _ I h) λ u s1 ⟨x,H1,I1,rx,a,kvs,ex,ea,q⟩=>?_
 subst ex
 obtain rfl:u=Value.ref a:=rx
 obtain ⟨o,ho,I2⟩:=I1.freeze ea
 obtain ⟨lo,vs,rel,dat,hlen⟩:=zmf I2.hok zab
 refine wpAny_pyIter_dict lo dat ?_
 have hf:=I2.fresh
 refine ⟨s1.heap.objs.size,[s1.heap.objs.size],_,Itk a o kvs,upd H1 a (.frz o (.dK kvs)),rfl,I2.kept (t':=s1.toks) (λ b ob e=>Heap.get?_push_of_some _ e),zos a _ o kvs,?_,λ b hb=>?_,q o⟩
 . show Heap.IsKeyIter _ s1.heap.objs.size a 0 kvs.length (epOf o)
   rw [<-hlen]
   exact ⟨_,Heap.get?_push_size _ rfl,rfl,rfl⟩
 . have e:b=s1.heap.objs.size:=by simpa using hb
   rw [e]
   exact I2.fpOk (Nat.le_refl _) hf
def ztp (t:TE):TE:=λ σ H Q=>t σ H λ v H2=>∃ a o kvs,H a=some (.dK kvs)/\H2 a=some (.frz o (.dK kvs))/\Q v (upd H2 a (.dK kvs))
theorem zrJ {e:Expr} {t:TE} (h:PE X e t):PE X e (ztp t):=by
 intro pins s σ H Q I hq
 refine thn (h pins s σ H _ I hq) λ u s1 ⟨v,H2,I2,r,a,o,kvs,e0,e2,q⟩=>⟨v,_,I2.thaw e2 (I.zrP e0),r,q⟩
def ztC (t:TS):TS:=λ D σ H=>t { nx:=λ σ' H2=>∃ a o kvs,H a=some (.dK kvs)/\H2 a=some (.frz o (.dK kvs))/\D.nx σ' (upd H2 a (.dK kvs)),rt:=λ v H2=>∃ a o kvs,H a=some (.dK kvs)/\H2 a=some (.frz o (.dK kvs))/\D.rt v (upd H2 a (.dK kvs)) } σ H
theorem zoR {st:Stmt} {t:TS} (h:PS X st t):PS X st (ztC t):=by
 intro pins s σ H D I hq
 refine thn (h pins s σ H _ I hq) λ fl s1 z=>?_
 cases fl with
 | next=>obtain ⟨σ',H2,I2,a,o,kvs,e0,e2,q⟩:=z; exact ⟨σ',_,I2.thaw e2 (I.zrP e0),q⟩
 | brk=>obtain ⟨σ',H2,I2,q⟩:=z; exact q.elim
 | cont=>obtain ⟨σ',H2,I2,q⟩:=z; exact q.elim
 | ret u=>obtain ⟨v,σ',H2,I2,r,a,o,kvs,e0,e2,q⟩:=z; exact ⟨v,σ',_,I2.thaw e2 (I.zrP e0),r,q⟩
end
end L2
end
section
namespace L2
open PySem PySem.Spec PySem.W PyProof.Rows S5
def SetX (P:Program) (w:World) (q:Addr) (ks:List Key):Heap->Prop:=λ h=>S6.SetP (zaC P w) h q ks
theorem zrA {P:Program} {w:World} {H:Hp} {h:Heap} {q:Addr} {ks:List Key} (x:S6.SetP (zaC P w) h q ks):zbH P w H h q (.ext (SetX P w q ks)) :=
 ⟨x,let ⟨_,_,o,_,_,_,e,_⟩:=x; ⟨o,e⟩,λ h1 h2 y k=>S6.SetP.at y k⟩
abbrev zqQ (ks:List Key):Prop:=zdl ks
theorem zrX {P:Program} {w:World} {k:Key} {u:Value} (r:RelV (kV k) u):S6.KVal (zaC P w) k u:=by
 cases k with
 | inl i =>
  obtain ⟨t,rfl⟩:=(show ∃ t,u=Value.int i t from r)
  exact ⟨zfl P w i t,rfl⟩
 | inr x =>
  obtain ⟨t,rfl⟩:=(show ∃ t,u=Value.str x t from r)
  exact ⟨zfk P w x t,rfl⟩
section
variable {X:Cx}
def SSrc (K:Frag) (H:Hp) (p:Addr) (ks:List Key):Prop:=SqL K H p (ks.map kV)\/∃ kvs:List (Key×V),H p=some (.dK kvs)/\kvs.map (·.1)=ks/\kvs.length<=4
theorem zqL (hc:X.calm=true):zfU X (.type "set") (λ xs H Q=>∃ p ks,xs=[.ref p]/\SSrc X.K H p ks/\zqQ ks/\ks.length < 4000/\∀ q,H q=none->Q (.ref q) (upd H q (.ext (SetX X.prog X.w q (S6.deds ks))))):=by
 intro pins s σ H xs us Q I r h
 obtain ⟨p,ks,rfl,src,tx,hl,h⟩:=h
 obtain ⟨u,rfl,ru⟩:=Vals.one r
 cases ru
 have hp:∃ o,s.heap.get? p=some o:=by
   rcases src with hq | ⟨kvs,hd,_⟩
   . obtain ⟨its,rv,⟨o,n,e,_⟩,hz⟩:=I.list hq
     exact ⟨o,e⟩
   . obtain ⟨z,lo,vs,rel,o,es,ep,e,_⟩:=zgQ I.hok hd
     exact ⟨o,e⟩
 refine S6.zsG (R:=λ h'=>S6.SetP (zaC X.prog X.w) h' s.heap.objs.size (S6.deds ks)/\∀ b o,s.heap.get? b=some o->h'.get? b=some o) hp ?_ λ h' tk ⟨hS,kp⟩=>?_
 . have e0:(s.heap.push (S6.set0 X.w)).get? s.heap.objs.size=some (S6.set0 X.w):=Heap.get?_push_size _ rfl
   have fin:∀ {s':Shared},(∃ h' tk,s'={ s with heap:=h',toks:=tk }/\S6.SetP (zaC X.prog X.w) h' s.heap.objs.size (S6.deds ks)/\∀ b o,b≠s.heap.objs.size->(s.heap.push (S6.set0 X.w)).get? b=some o->h'.get? b=some o) ->
       ∃ h' tk,s'={ s with heap:=h',toks:=tk }/\S6.SetP (zaC X.prog X.w) h' s.heap.objs.size (S6.deds ks)/\∀ b o,s.heap.get? b=some o->h'.get? b=some o:=λ ⟨h',tk,e,hS,kp⟩ =>
     ⟨h',tk,e,hS,λ b o q=>kp b o (Nat.ne_of_lt (Heap.lt_size q)) (Heap.get?_push_of_some _ q)⟩
   rcases src with hq | ⟨kvs,hd,hks,h4⟩
   . obtain ⟨its,rv,pl,hz⟩:=I.list hq
     have hlen:its.length=ks.length:=by rw [<-rv.length,List.length_map]
     refine wpAny_mono (S6.zpC (s:={ s with heap:=s.heap.push (S6.set0 X.w) }) (knd:=zaC X.prog X.w) (ks:=ks) (items:=its.toArray) (I.ok.hd hc) (pl.isList.push _) (S6.zoI e0) ?_ (by simpa using hlen) (by unfold scanBound; omega) λ i v hv=>?_) (λ _ s' q=>fin q) λ _ _ z=>z
     . obtain ⟨o,n,e,_⟩:=pl
       exact Nat.ne_of_gt (Heap.lt_size e)
     . have hv':its[i]?=some v:=by simpa using hv
       have hi:i < ks.length:=by rw [<-hlen]; exact (List.getElem?_eq_some_iff.mp hv').1
       have e1:(ks.map kV)[i]?=some (kV ks[i]):=by rw [List.getElem?_map,List.getElem?_eq_getElem hi]; rfl
       obtain ⟨u,e2,ru⟩:=rv.get e1
       rw [hv'] at e2; cases e2
       exact ⟨ks[i],List.getElem?_eq_getElem hi,zrX ru⟩
   . obtain ⟨z,lo,vs,rel,dd⟩:=zgQ I.hok hd
     have hkeys:vs.map (·.1)=ks:=by rw [<-KV.keys rel]; exact hks
     have:=S6.zpD (A:=X.A.in1.in1) (E:=X.xe) (s:={ s with heap:=s.heap.push (S6.set0 X.w) }) (knd:=zaC X.prog X.w) lo (dd.push _) e0 (by rw [<-rel.length]; exact h4) λ q hq u hu=>by
       rcases zaV (show zhN q.1 u=true from hu) with ⟨i,t,e,rfl⟩ | ⟨y,t,e,rfl⟩
       . rfl
       . rfl
     rw [hkeys] at this
     exact wpAny_mono this (λ _ s' q=>fin q) λ _ _ z=>z
 . refine ⟨.ref s.heap.objs.size,upd H s.heap.objs.size (.ext (SetX X.prog X.w s.heap.objs.size (S6.deds ks))),I.laid kp (Nat.le_refl _) (zrA hS),rfl,h _ I.fresh⟩
end
section
variable {prog:Program} {w:World} {A:Around} {E:Value->Shared->Prop} {s:Shared}
theorem znG {a:Addr} {PC:List Value->Heap->Prop} {Q:Value->Shared->Prop}
  (hcol:∀ R:List Value->Shared->Prop,(∀ h' tk d vs,zj4 s.heap h'->PC vs h'->R vs { s with heap:=h',toks:=tk,drawn:=d })->wpAny (model prog w) A.in1 (collect (.ref a)) R E s)
  (h64:∀ vs h',PC vs h'->vs.length < 64)
  (hsort : ∀ h' tk d vs, zj4 s.heap h' → PC vs h' → wpAny (model prog w) A.in1.in1 (Builtin.«list.sort» ⟨[.ref h'.objs.size], []⟩) (fun fin s' => fin = .done (.ret .none) ∧ Q (.ref h'.objs.size) s') E { s with heap := h'.push { cls := .type "list", data := .seq vs.toArray }, toks := tk, drawn := d }) :
  wpAny (model prog w) A (call (.builtin "sorted") [.ref a]) Q E s:=by
 refine Calls.call_function_entry kind_sorted plain_sorted entry_sorted (args_sorted1 _) ?_
 unfold Builtin.«sorted»
 refine wpAny_bind (m:=checkCount "sorted" 1 1 _) (wpAny_pure (wpAny_bind (hcol _ λ h' tk d vs hk hp=>?_)))
 refine wpAny_bind (wpAny_newList ?_ (by have:=h64 vs h' hp; rw [sizeLine_eq]; omega))
 refine wpAny_bind (wpAny_holding (wpAny_call_entry slot_list_sort ⟨_,Heap.get?_push_size _ rfl,rfl⟩ entry_list_sort ?_ (args_list_sort _)))
 refine wpAny_mono (hsort h' tk d vs hk hp) (λ fin s' hq=>?_) λ _ _ z=>z
 obtain ⟨rfl,hq⟩:=hq
 exact ⟨_,rfl,wpAny_pure ⟨_,rfl,hq⟩⟩
end
section
variable {X:Cx}
theorem Inv.ztK {pins:List (Addr×Obj)} {σ:St} {H:Hp} {s:Shared} {h':Heap} {t':Nat} {d':Drawn} (I:Inv X pins σ H s) (k:∀ b u,s.heap.get? b=some u->h'.get? b=some u):Inv X pins σ H { s with heap:=h',toks:=t',drawn:=d' }:=by
 have J:=I.kept (t':=t') k
 exact ⟨J.ok,J.os,J.bare,J.base,J.loc,J.cell,J.free,J.zd6,J.pin,J.hok,J.len⟩
theorem zh0 (hc:X.calm=true):zfU X (.builtin "sorted") (λ xs H Q=>∃ q ks,xs=[.ref q]/\H q=some (.ext (SetX X.prog X.w q ks))/\ks.Nodup/\zqQ ks/\ks.length < 64 /\
   ∀ (ys:List Key) (l:Addr),ys.Perm ks->ys.Pairwise (λ a b=>kLt a b=true)->H l=none->Q (.ref l) (upd H l (.lst (ys.map kV)))):=by
 intro pins s σ H xs us Q I r h
 obtain ⟨p,ks0,rfl,hp,nd0,tx0,h640,h⟩:=h
 obtain ⟨u,rfl,ru⟩:=Vals.one r
 cases ru
 obtain ⟨hS,_,_⟩:=I.hok p _ hp
 have hS:S6.SetP (zaC X.prog X.w) s.heap p ks0:=hS
 refine znG (PC:=λ vs _=>∃ ks:List Key,ks.Perm ks0/\Vals (ks.map kV) vs) (λ R hR=>?_) (λ vs _ ⟨ks,pk,hv⟩=>by rw [<-hv.length,List.length_map,pk.length_eq]; exact h640) (λ h' tk d vs hk ⟨ks,pk,hv⟩=>?_)
 . refine S6.zlG (A:=X.A.in1) (I.ok.hd hc) hS λ h' tk d vs ys py hy kp=>hR h' tk d vs kp ⟨ys,py,?_⟩
   clear hR
   clear py kp
   induction hy with
   | nil=>exact .nil
   | @cons v k vs ys r _ ih =>
     refine .cons ?_ ih
     rcases zaV (show zhN k v=true from r) with ⟨i,t,rfl,rfl⟩ | ⟨y,t,rfl,rfl⟩
     . exact ⟨t,rfl⟩
     . exact ⟨t,rfl⟩
 . have nd:ks.Nodup:=pk.nodup_iff.mpr nd0
   have one:zdl ks:=tx0.imp (λ h k hk=>h k (pk.mem_iff.mp hk)) λ h k hk=>h k (pk.mem_iff.mp hk)
   have h64:ks.length < 64:=by rw [pk.length_eq]; exact h640
   have hl:vs.length=ks.length:=by rw [<-hv.length,List.length_map]
   have O:=ordK nd one
   rw [<-hl] at O
   refine zlD (s:={ s with heap:=h'.push { cls:=.type "list",data:=.seq vs.toArray },toks:=tk,drawn:=d }) (κ:=oneType') (c:=0) (Heap.get?_push_size _ rfl) (by rw [hl]; exact h64) O (λ h1 _ h2 Qk hq=>?_) (λ h1 _ i j hi hj hne Qb hq=>?_) (λ q h3 c' hp hu hkb hg=>⟨rfl,?_⟩)
   . refine kas_kind (T:=.type (kTy ks)) h2 (λ v hvm=>?_) ?_ ?_ hq
     . obtain ⟨i,hi⟩:=List.mem_iff_getElem?.mp hvm
       have hi':i < ks.length:=by rw [<-hl]; exact (List.getElem?_eq_some_iff.mp hi).1
       have:=zeJ hv hi'
       rw [List.getD_eq_getElem?_getD,hi] at this
       exact ty_keys one (zc0 hi') this _ _
     . rcases ziX ks with z | z <;> rw [z] <;> decide
     . rcases ziX ks with z | z <;> rw [z] <;> decide
   . rw [keyLt'_oneType]
     rw [hl] at hi hj
     exact zl2 (zlQ one (zc0 hi) (zc0 hj)) (zeJ hv hi) (zeJ hv hj) hq
   . rw [hl] at hp hu
     have keepAll:∀ b o,s.heap.get? b=some o->h3.get? b=some o:=λ b o e=>hkb b o (Nat.ne_of_lt (Heap.lt_size (hk b o e))) (Heap.get?_push_of_some _ (hk b o e))
     have I1:Inv X pins σ H { s with heap:=h3,toks:=tk,drawn:=d }:=I.ztK keepAll
     have fp:=I.zqI (a:=h'.objs.size) λ b o e=>Heap.lt_size (hk b o e)
     have vp:=zg8 hv (p:=q) (by rw [List.length_map]; exact hp)
     rw [zjq kV ks (Sum.inl 0) hp] at vp
     have lp:(zeO ks (Sum.inl 0) q).length=ks.length:=(zcR ks (Sum.inl 0) hp).length_eq
     refine ⟨.ref h'.objs.size,upd H h'.objs.size (.lst ((zeO ks (Sum.inl 0) q).map kV)),?_,rfl,h _ _ ((zcR ks _ hp).trans pk) (zhq ks _ hp hu) fp.1⟩
     have f2:FpOk X pins H h'.objs.size:=fp
     exact I1.zp1 f2 ⟨by rw [List.length_map,lp,sizeLine_eq]; omega,picked vs q,c',vp,hg⟩
end
end L2
end
section
namespace L2
open PySem PySem.Spec PyProof.Rows
def Nx (n i:Nat) (p:Prop):Prop:=∃ m',m' < n - i/\m'=n - (i+1)/\i+1<=n/\p
theorem nx {n i:Nat} {p:Prop} (h:i < n) (hp:p):Nx n i p:=⟨n - (i+1),by omega,rfl,h,hp⟩
section
variable {K:PySem.W.Frag} {a:Addr} {xs:List V} {g:TG} {tt:TT} {te:TE} {σ₀:St} {H:Hp} {Fin:List V->Hp->Prop}
theorem zex (Pv:Nat->List V->St->Hp->Prop) (h0:Pv 0 [] σ₀ H) (hl:∀ i ys σ H,Pv i ys σ H->SqL K H a xs/\ys.length<=i) (hz:xs.length<=sizeLine)
   (hs:∀ i x ys σ H,i < xs.length->xs[i]?=some x->Pv i ys σ H->g x σ H λ σ2 H2=>tt σ2 H2 λ b H3=>if b=true then te σ2 H3 λ y H4=>Nx xs.length i (Pv (i+1) (ys++[y]) σ2 H4) else Nx xs.length i (Pv (i+1) ys σ2 H3))
   (hd:∀ ys σ H,Pv xs.length ys σ H->Fin ys H):ziG (Itl K a) g tt te σ₀ H Fin:=by
 refine ⟨λ i m ys σ H=>m=xs.length - i/\i<=xs.length/\Pv i ys σ H,⟨xs.length,by simp,Nat.zero_le _,h0⟩,?_⟩
 rintro i m ys σ H ⟨rfl,hi,p⟩
 obtain ⟨q,hy⟩:=hl i ys σ H p
 by_cases hlt:i < xs.length
 . refine .inr ⟨⟨xs,xs[i],q,by simp [hlt]⟩,by omega,λ x H' y=>?_⟩
   obtain ⟨e,y⟩:=y
   subst e
   exact hs i x ys σ _ hlt (y xs q) p
 . have e:i=xs.length:=by omega
   subst e
   exact .inl ⟨⟨xs,q,Nat.le_refl _⟩,hd ys σ H p⟩
theorem znl (Pv:Nat->List V->St->Hp->Prop) (h0:Pv 0 [] σ₀ H) (hl:∀ i ys σ H,Pv i ys σ H->SqT K H a xs/\ys.length<=i) (hz:xs.length<=sizeLine)
   (hs:∀ i x ys σ H,i < xs.length->xs[i]?=some x->Pv i ys σ H->g x σ H λ σ2 H2=>tt σ2 H2 λ b H3=>if b=true then te σ2 H3 λ y H4=>Nx xs.length i (Pv (i+1) (ys++[y]) σ2 H4) else Nx xs.length i (Pv (i+1) ys σ2 H3))
   (hd:∀ ys σ H,Pv xs.length ys σ H->Fin ys H):ziG (Itt K a) g tt te σ₀ H Fin:=by
 refine ⟨λ i m ys σ H=>m=xs.length - i/\i<=xs.length/\Pv i ys σ H,⟨xs.length,by simp,Nat.zero_le _,h0⟩,?_⟩
 rintro i m ys σ H ⟨rfl,hi,p⟩
 obtain ⟨q,hy⟩:=hl i ys σ H p
 by_cases hlt:i < xs.length
 . refine .inr ⟨⟨xs,xs[i],q,by simp [hlt]⟩,by omega,λ x H' y=>?_⟩
   obtain ⟨e,y⟩:=y
   subst e
   exact hs i x ys σ _ hlt (y xs q) p
 . have e:i=xs.length:=by omega
   subst e
   exact .inl ⟨⟨xs,q,Nat.le_refl _⟩,hd ys σ H p⟩
theorem zdy {lo:Int} {n:Nat} (Pv:Nat->List V->St->Hp->Prop) (h0:Pv 0 [] σ₀ H) (hl:∀ i ys σ H,Pv i ys σ H->ys.length<=i) (hz:n<=sizeLine)
   (hs:∀ i ys σ H,i < n->Pv i ys σ H->g (.int (lo+i)) σ H λ σ2 H2=>tt σ2 H2 λ b H3=>if b=true then te σ2 H3 λ y H4=>Nx n i (Pv (i+1) (ys++[y]) σ2 H4) else Nx n i (Pv (i+1) ys σ2 H3))
   (hd:∀ ys σ H,Pv n ys σ H->Fin ys H):ziG (Itr lo n) g tt te σ₀ H Fin:=by
 refine ⟨λ i m ys σ H=>m=n - i/\i<=n/\Pv i ys σ H,⟨n,by simp,Nat.zero_le _,h0⟩,?_⟩
 rintro i m ys σ H ⟨rfl,hi,p⟩
 have hy:=hl i ys σ H p
 by_cases hlt:i < n
 . refine .inr ⟨hlt,by omega,λ x H' y=>?_⟩
   obtain ⟨e,y⟩:=y
   subst e y
   exact hs i ys σ _ hlt p
 . have e:i=n:=by omega
   subst e
   exact .inl ⟨Nat.le_refl _,hd ys σ H p⟩
theorem zhZ {o:Obj} {kvs:List (Key×V)} (Pv:Nat->List V->St->Hp->Prop) (h0:Pv 0 [] σ₀ H) (hl:∀ i ys σ H,Pv i ys σ H->H a=some (.frz o (.dK kvs))/\ys.length<=i) (hz:kvs.length<=sizeLine)
   (hs:∀ i k v ys σ H,i < kvs.length->kvs[i]?=some (k,v)->Pv i ys σ H->g (kV k) σ H λ σ2 H2=>tt σ2 H2 λ b H3=>if b=true then te σ2 H3 λ y H4=>Nx kvs.length i (Pv (i+1) (ys++[y]) σ2 H4) else Nx kvs.length i (Pv (i+1) ys σ2 H3))
   (hd:∀ ys σ H,Pv kvs.length ys σ H->Fin ys H):ziG (Itk a o kvs) g tt te σ₀ H Fin:=by
 refine ⟨λ i m ys σ H=>m=kvs.length - i/\i<=kvs.length/\Pv i ys σ H,⟨kvs.length,by simp,Nat.zero_le _,h0⟩,?_⟩
 rintro i m ys σ H ⟨rfl,hi,p⟩
 obtain ⟨q,hy⟩:=hl i ys σ H p
 by_cases hlt:i < kvs.length
 . refine .inr ⟨⟨hlt,q⟩,by omega,λ x H' y=>?_⟩
   obtain ⟨e,k,v,hk,ex⟩:=y
   subst e ex
   exact hs i k v ys σ _ hlt hk p
 . have e:i=kvs.length:=by omega
   subst e
   exact .inl ⟨⟨Nat.le_refl _,q⟩,hd ys σ H p⟩
end
end L2
end
section
namespace L2
open PySem
theorem Same.zaq {H:Hp} {p:Addr} {o:HO} (n:H p=none):Same H (upd H p o):=λ b u e=>by rw [zae (zaf e n)]; exact e
theorem Same.upd2 {H H':Hp} {p:Addr} {o:HO} (m:Same H H') (n:H' p=none):Same H (upd H' p o):=λ b u e=>by rw [zae (zaf (m b u e) n)]; exact m b u e
theorem zao {H:Hp} {p q:Addr} {o u:HO} (e:H q=some u) (n:H p=none):upd H p o q=some u:=by rw [zae (zaf e n)]; exact e
end L2
namespace TP
open PySem L2 TH
structure Ad where
 zd7:Addr
 zaB:Addr
 zb9:Addr
 zaZ:Addr
 zh2:Addr
 zcZ:Addr
structure AdOk (A:Ad):Prop where
 wr:A.zd7≠A.zaB
 wd:A.zd7≠A.zb9
 wh:A.zd7≠A.zaZ
 rd:A.zaB≠A.zb9
 rh:A.zaB≠A.zaZ
 dh:A.zb9≠A.zaZ
def useS (w:Bool):Str:=if w then "writing" else "reading"
def stS:DS->Str
 | .zar => "going"
 | .waiting => "waiting"
 | .kept => "kept"
 | .dropped => "given up"
def actV (a:Act Str):List V:=[.str (if a.wr then "write" else "read"),.str a.key,.int a.val]
def rowV:Row Str->List V
 | .begin d=>[.str "begin",.int d]
 | .write d k b v=>[.str "write",.int d,.str k,.int b,.int v]
 | .keep d=>[.str "keep",.int d]
 | .drop d=>[.str "give up",.int d]
def zb2 (p:Nat×Bool):List V:=[.int p.1,.str (useS p.2)]
def TupAt (H:Hp) (v:V) (xs:List V):Prop:=∃ p,v=.ref p/\H p=some (.tup xs)
abbrev zau (H:Hp) (vs:List V) (xss:List (List V)):Prop:=Paired (TupAt H) vs xss
def zrg (a:Act Str):List (Str×V):=[("use",.str (useS a.wr)),("key",.str a.key),("value",if a.wr then .int a.val else .non)]
def zcs (A:Ad) (H:Hp) (v:V):Option (Act Str)->Prop
 | none=>v=.non
 | some a=>∃ p dx,v=.ref p/\H p=some (.ins A.zd7 dx (zrg a))
def wantOf (D:Deed Str):Option (Act Str):=if D.st=.waiting then D.wish else none
def bkV (l:List (Str×Int)):List (Key×V):=l.map λ p=>(Sum.inr p.1,.int p.2)
structure zbo (l:List (Str×Int)) (b:Book Str):Prop where
 nd:(l.map (·.1)).Nodup
 mem:∀ k v,(k,v)∈l↔b k=some v
theorem zpS:∀ {l:List (Str×Int)} {k:Str},(l.map (·.1)).Nodup->valV (bkV l) (Sum.inr k)=(l.find? λ p=>decide (p.1=k)).map λ p=>V.int p.2
 | [],_,_=>rfl
 | p::r,k,nd=>by
  obtain ⟨_,nd'⟩:=List.nodup_cons.mp nd
  have ih:=zpS (l:=r) (k:=k) nd'
  unfold valV bkV at ih ⊢
  rw [List.map_cons,List.find?_cons,List.find?_cons]
  by_cases h:p.1=k
  . simp [h]
  . have h2:¬ (Sum.inr p.1:Key)=Sum.inr k:=λ z=>h (Sum.inr.inj z)
    simp only [h,h2,decide_false]
    exact ih
theorem zbo.val {l:List (Str×Int)} {b:Book Str} (h:zbo l b) (k:Str):valV (bkV l) (Sum.inr k)=(b k).map V.int:=by
 rw [zpS h.nd]
 cases e:l.find? λ p=>decide (p.1=k) with
 | none =>
  cases e2:b k with
  | none=>rfl
  | some v =>
   have:=List.find?_eq_none.mp e _ ((h.mem k v).mpr e2)
   simp at this
 | some p =>
  have hm:=List.mem_of_find?_eq_some e
  have hk:p.1=k:=by simpa using List.find?_some e
  have:=(h.mem p.1 p.2).mp hm
  rw [hk] at this
  rw [this]; rfl
def zaG (h:List (Nat×Bool)):List (Key×V):=h.map λ p=>(Sum.inl (p.1:Int),.str (useS p.2))
inductive Role where
 | hall | recs | zbG | zcm | zdk | order | rows | other
 | rcd (i:Nat) | did (i:Nat) | desk (k:Str) | held (k:Str) | row (k:Str)
 deriving DecidableEq
def zl8 (ad:Role->Addr):List (Str×V) :=
 [("records",.ref (ad .recs)),("desks",.ref (ad .zbG)),("standing",.ref (ad .zcm)),("kept_values",.ref (ad .zdk)),("kept_deeds",.ref (ad .order)),("rows",.ref (ad .rows))]
def recF (st:DS) (did:Addr) (w:V):List (Str×V):=[("state",.str (stS st)),("did",.ref did),("want",w)]
def ziu (held row:Addr):List (Str×V):=[("held",.ref held),("row",.ref row)]
def At (A:Ad) (ad:Role->Addr) (s:HS Str) (kv:Book Str) (H:Hp):Role->HO->Prop
 | .hall,o=>∃ dx,o=.ins A.zaZ dx (zl8 ad)
 | .recs,o=>o=.lst ((List.range s.n).map λ i=>.ref (ad (.rcd i)))
 | .zbG,o=>o=.dK (s.seen.map λ k=>(Sum.inr k,.ref (ad (.desk k))))
 | .zcm,o=>∃ l,o=.dK (bkV l)/\zbo l s.book
 | .zdk,o=>∃ l,o=.dK (bkV l)/\zbo l kv
 | .order,o=>o=.lst (s.kept.map λ (d:Nat)=>V.int (d:Int))
 | .rows,o=>∃ vs,o=.lst vs/\zau H vs (s.log.map rowV)
 | .rcd i,o=>∃ dx w,o=.ins A.zaB dx (recF (s.deed i).st (ad (.did i)) w)/\zcs A H w (wantOf (s.deed i))
 | .did i,o=>∃ vs,o=.lst vs/\zau H vs ((s.deed i).done.map actV)
 | .desk k,o=>∃ dx,o=.ins A.zb9 dx (ziu (ad (.held k)) (ad (.row k)))
 | .held k,o=>o=.dK (zaG (s.held k))
 | .row k,o=>∃ vs,o=.lst vs/\zau H vs ((s.rows k).map zb2)
 | .other,_=>False
def live (s:HS Str):Role->Prop
 | .rcd i=>i < s.n
 | .did i=>i < s.n
 | .desk k=>k∈s.seen
 | .held k=>k∈s.seen
 | .row k=>k∈s.seen
 | .other=>False
 | _=>True
structure zai (A:Ad) (ρ:Addr->Role) (ad:Role->Addr) (s:HS Str) (kv:Book Str) (H:Hp):Prop where
 at_:∀ r,live s r->∃ o,H (ad r)=some o/\At A ad s kv H r o
 ro:∀ r,live s r->ρ (ad r)=r
 fr:∀ b,H b=none->ρ b=.other
structure Frame (ρ:Addr->Role) (H:Hp) (ρ':Addr->Role) (H':Hp):Prop where
 o:∀ b o,H b=some o->ρ b=.other->H' b=some o/\ρ' b=.other
 t:∀ b xs,H b=some (.tup xs)->H' b=some (.tup xs)
instance {ρ:Addr->Role} {H:Hp} {ρ':Addr->Role} {H':Hp}:CoeFun (Frame ρ H ρ' H') (λ _=>∀ b o,H b=some o->ρ b=.other->H' b=some o/\ρ' b=.other):=⟨Frame.o⟩
theorem Frame.refl {ρ:Addr->Role} {H:Hp}:Frame ρ H ρ H:=⟨λ _ _ h r=>⟨h,r⟩,λ _ _ h=>h⟩
theorem Frame.trans {ρ ρ1 ρ2:Addr->Role} {H H1 H2:Hp} (a:Frame ρ H ρ1 H1) (b:Frame ρ1 H1 ρ2 H2):Frame ρ H ρ2 H2:=⟨λ x o h r=>let ⟨h1,r1⟩:=a x o h r; b x o h1 r1,λ x xs h=>b.t x xs (a.t x xs h)⟩
structure Imm (A:Ad) (H H':Hp):Prop where
 tup:∀ p xs,H p=some (.tup xs)->H' p=some (.tup xs)
 want:∀ p dx fs,H p=some (.ins A.zd7 dx fs)->H' p=some (.ins A.zd7 dx fs)
theorem Imm.of_same {A:Ad} {H H':Hp} (h:Same H H'):Imm A H H':=⟨λ p xs e=>h p _ e,λ p dx fs e=>h p _ e⟩
theorem zau.mono {A:Ad} {H H':Hp} (m:Imm A H H'):∀ {vs:List V} {xss:List (List V)},zau H vs xss->zau H' vs xss
 | _,_,.nil=>.nil
 | _,_,.cons ⟨p,e,q⟩ t=>.cons ⟨p,e,m.tup p _ q⟩ (zau.mono m t)
theorem zcs.mono {A:Ad} {H H':Hp} (m:Imm A H H') {v:V}:∀ {o:Option (Act Str)},zcs A H v o->zcs A H' v o
 | none,h=>h
 | some a,⟨p,dx,e,q⟩=>⟨p,dx,e,m.want p dx _ q⟩
section
variable {A:Ad} {ad:Role->Addr} {s:HS Str} {kv:Book Str} {H H':Hp}
theorem At.mono (m:Imm A H H') {r:Role} {o:HO} (h:At A ad s kv H r o):At A ad s kv H' r o:=by
 cases r with
 | rows=>obtain ⟨vs,e,t⟩:=h; exact ⟨vs,e,zau.mono m t⟩
 | did i=>obtain ⟨vs,e,t⟩:=h; exact ⟨vs,e,zau.mono m t⟩
 | row k=>obtain ⟨vs,e,t⟩:=h; exact ⟨vs,e,zau.mono m t⟩
 | rcd i=>obtain ⟨dx,w,e,t⟩:=h; exact ⟨dx,w,e,t.mono m⟩
 | _=>exact h
theorem At.mut (ok:AdOk A) {r:Role} {o:HO} (h:At A ad s kv H r o):(∀ xs,o≠.tup xs)/\∀ dx fs,o≠.ins A.zd7 dx fs:=by
 cases r with
 | hall=>obtain ⟨dx,rfl⟩:=h; exact ⟨λ xs z=>(by cases z),λ dx fs z=>(by injection z with z; exact ok.wh z.symm)⟩
 | recs=>cases h; exact ⟨λ xs z=>(by cases z),λ dx fs z=>(by cases z)⟩
 | zbG=>cases h; exact ⟨λ xs z=>(by cases z),λ dx fs z=>(by cases z)⟩
 | zcm=>obtain ⟨l,rfl,_⟩:=h; exact ⟨λ xs z=>(by cases z),λ dx fs z=>(by cases z)⟩
 | zdk=>obtain ⟨l,rfl,_⟩:=h; exact ⟨λ xs z=>(by cases z),λ dx fs z=>(by cases z)⟩
 | order=>cases h; exact ⟨λ xs z=>(by cases z),λ dx fs z=>(by cases z)⟩
 | rows=>obtain ⟨l,rfl,_⟩:=h; exact ⟨λ xs z=>(by cases z),λ dx fs z=>(by cases z)⟩
 | rcd i=>obtain ⟨dx,w,rfl,_⟩:=h; exact ⟨λ xs z=>(by cases z),λ dx fs z=>(by injection z with z; exact ok.wr z.symm)⟩
 | did i=>obtain ⟨l,rfl,_⟩:=h; exact ⟨λ xs z=>(by cases z),λ dx fs z=>(by cases z)⟩
 | desk k=>obtain ⟨dx,rfl⟩:=h; exact ⟨λ xs z=>(by cases z),λ dx fs z=>(by injection z with z; exact ok.wd z.symm)⟩
 | held k=>cases h; exact ⟨λ xs z=>(by cases z),λ dx fs z=>(by cases z)⟩
 | row k=>obtain ⟨l,rfl,_⟩:=h; exact ⟨λ xs z=>(by cases z),λ dx fs z=>(by cases z)⟩
 | other=>exact h.elim
end
section
variable {A:Ad} {ρ:Addr->Role} {ad:Role->Addr} {s s':HS Str} {kv kv':Book Str} {H H':Hp}
theorem zai.ne (h:zai A ρ ad s kv H) {r r':Role} (a:live s r) (b:live s r') (n:r≠r'):ad r≠ad r':=λ e=>n (by rw [<-h.ro r a,<-h.ro r' b,e])
theorem zai.grow (h:zai A ρ ad s kv H) (m:Same H H'):zai A ρ ad s kv H' :=
 ⟨λ r l=>let ⟨o,e,a⟩:=h.at_ r l; ⟨o,m _ _ e,a.mono (.of_same m)⟩,h.ro,λ b e=>h.fr b (by
  cases q:H b with
  | none=>rfl
  | some o=>rw [m b o q] at e; cases e)⟩
theorem zpf {s:HS Str} {r:Role} (l:live s r):r≠.other:=by rintro rfl; exact l
theorem Frame.grow {ρ:Addr->Role} (m:Same H H'):Frame ρ H ρ H':=⟨λ b o e r=>⟨m b o e,r⟩,λ b xs e=>m b _ e⟩
end
end TP
end
section
namespace TP
open PySem L2 TH
def sLt (a b:Str):Bool:=kLt (Sum.inr a) (Sum.inr b)
theorem zlK (a:Str):sLt a a=false:=zpl _
theorem zqT {a b c:Str} (h:sLt a b=true) (g:sLt b c=true):sLt a c=true:=zq4 h g
theorem zrD {a b:Str} (h:a≠b):sLt a b=true\/sLt b a=true :=
 zpk (ks:=[Sum.inr a,Sum.inr b]) (.inr λ k hk=>by
  rcases List.mem_cons.mp hk with z | z
  . exact ⟨a,z⟩
  . exact ⟨b,List.mem_singleton.mp z⟩) (by simp) (by simp) λ z=>h (Sum.inr.inj z)
abbrev zib (l:List Str):Prop:=l.Pairwise λ a b=>sLt a b=true
def ins (x:Str):List Str->List Str
 | []=>[x]
 | y::r=>if x=y then y::r else if sLt x y=true then x::y::r else y::ins x r
def ordS (l:List Str):List Str:=l.foldr ins []
theorem zlV {x z:Str}:∀ {l:List Str},z∈ins x l↔z=x\/z∈l
 | []=>by simp [ins]
 | y::r=>by
  unfold ins
  split
  . rename_i h; subst h; simp
  . split
    . simp
    . rw [List.mem_cons,zlV (l:=r),List.mem_cons]
      exact ⟨λ h=>h.elim (λ q=>.inr (.inl q)) (λ q=>q.elim .inl λ q=>.inr (.inr q)),λ h=>h.elim (λ q=>.inr (.inl q)) λ q=>q.elim .inl λ q=>.inr (.inr q)⟩
theorem ziZ {x:Str}:∀ {l:List Str},zib l->zib (ins x l)
 | [],_=>by simp [ins,zib]
 | y::r,h=>by
  obtain ⟨h1,h2⟩:=List.pairwise_cons.mp h
  unfold ins
  split
  . exact h
  . rename_i hne
    split
    . rename_i hlt
      exact List.pairwise_cons.mpr ⟨λ z hz=>by
        rcases List.mem_cons.mp hz with q | q
        . rw [q]; exact hlt
        . exact zqT hlt (h1 z q),h⟩
    . rename_i hlt
      refine List.pairwise_cons.mpr ⟨λ z hz=>?_,ziZ h2⟩
      rcases zlV.mp hz with q | q
      . rw [q]; exact (zrD hne).resolve_left hlt
      . exact h1 z q
theorem zbh {z:Str}:∀ {l:List Str},z∈ordS l↔z∈l
 | []=>by simp [ordS]
 | y::r=>by
  show z∈ins y (ordS r)↔_
  rw [zlV,zbh (l:=r),List.mem_cons]
theorem zcf:∀ l:List Str,zib (ordS l)
 | []=>List.Pairwise.nil
 | y::r=>ziZ (zcf r)
theorem zgz {l:List Str} (h:zib l):l.Nodup:=h.imp λ {a b} q z=>by subst z; rw [zlK] at q; cases q
theorem zf7:∀ {a b:List Str},zib a->zib b->(∀ x,x∈a↔x∈b)->a=b
 | [],[],_,_,_=>rfl
 | [],y::r,_,_,h=>by have:=(h y).mpr List.mem_cons_self; cases this
 | x::r,[],_,_,h=>by have:=(h x).mp List.mem_cons_self; cases this
 | x::r,y::t,ha,hb,h=>by
  obtain ⟨a1,a2⟩:=List.pairwise_cons.mp ha
  obtain ⟨b1,b2⟩:=List.pairwise_cons.mp hb
  have e:x=y:=by
   rcases List.mem_cons.mp ((h x).mp List.mem_cons_self) with q | q
   . exact q
   . rcases List.mem_cons.mp ((h y).mpr List.mem_cons_self) with p | p
     . exact p.symm
     . have:=zqT (b1 x q) (a1 y p)
       rw [zlK] at this; cases this
  subst e
  have nr:∀ {l:List Str},(∀ z∈l,sLt x z=true)->x∉l:=λ hl z=>by have:=hl x z; rw [zlK] at this; cases this
  refine congrArg _ (zf7 a2 b2 λ z=>?_)
  have hz:=h z
  rw [List.mem_cons,List.mem_cons] at hz
  exact ⟨λ q=>(hz.mp (.inr q)).resolve_left λ e=>nr a1 (e ▸ q),λ q=>(hz.mpr (.inr q)).resolve_left λ e=>nr b1 (e ▸ q)⟩
theorem zql (l m:List Str) (h:∀ x∈m,x∈l):ordS m=(ordS l).filter λ k=>decide (k∈m) :=
 zf7 (zcf m) ((zcf l).filter _) λ x=>by
  rw [zbh,List.mem_filter,zbh,decide_eq_true_eq]
  exact ⟨λ q=>⟨h x q,q⟩,λ q=>q.2⟩
theorem zqm (l:List Str) (m:List Str) (h:∀ x∈l,x∈m) (nd:m.Nodup):(ordS l).length<=m.length:=by
 have:∀ (a b:List Str),a.Nodup->(∀ x∈a,x∈b)->a.length<=b.length:=λ a=>by
  induction a with
  | nil=>intro b _ _; simp
  | cons x r ih =>
   intro b nd hs
   obtain ⟨n1,n2⟩:=List.nodup_cons.mp nd
   have hx:=hs x List.mem_cons_self
   have:=ih (b.erase x) n2 λ z hz=>(List.mem_erase_of_ne (show z≠x from λ e=>n1 (e ▸ hz))).mpr (hs z (List.mem_cons_of_mem _ hz))
   rw [List.length_erase_of_mem hx] at this
   have hpos:0 < b.length:=List.length_pos_of_mem hx
   simp only [List.length_cons]; omega
 exact this _ _ (zgz (zcf l)) λ x hx=>h x (zbh.mp hx)
theorem zlB {xs:List Str} {ys:List Key} (m:∀ k,k∈ys↔∃ x∈xs,k=Sum.inr x) (p:ys.Pairwise λ a b=>kLt a b=true):ys=(ordS xs).map Sum.inr:=by
 obtain ⟨zs,rfl⟩:∃ zs:List Str,ys=zs.map Sum.inr:=by
  clear p
  have:∀ l:List Key,(∀ k∈l,∃ x:Str,k=Sum.inr x)->∃ zs:List Str,l=zs.map Sum.inr:=λ l=>by
   induction l with
   | nil=>intro _; exact ⟨[],rfl⟩
   | cons k r ih =>
    intro h
    obtain ⟨x,rfl⟩:=h k List.mem_cons_self
    obtain ⟨zs,rfl⟩:=ih λ k hk=>h k (List.mem_cons_of_mem _ hk)
    exact ⟨x::zs,rfl⟩
  exact this ys λ k hk=>let ⟨x,_,e⟩:=(m k).mp hk; ⟨x,e⟩
 congr 1
 refine zf7 (List.pairwise_map.mp p) (zcf xs) λ x=>?_
 rw [zbh]
 have:=m (Sum.inr x)
 rw [List.mem_map] at this
 exact ⟨λ h=>by
  obtain ⟨y,hy,e⟩:=this.mp ⟨x,h,rfl⟩
  rw [Sum.inr.inj e]; exact hy,λ h=>by
  obtain ⟨y,hy,e⟩:=this.mpr ⟨x,h,rfl⟩
  rw [<-Sum.inr.inj e]; exact hy⟩
end TP
end
section
namespace L2
open PySem PySem.Spec PyProof.Rows
theorem Fun.okN {P:Program} {w:World} {K:PySem.W.Frag} {mg:Str->Option Value} {base:Heap} {x qual:Str} {st:Stmt} {f:Addr} {fd:FuncData} {N ps:List Str} {k:Nat} {sp:Sp} (F:Fun K x qual st f fd) (S:zap N ps (zak st)) (len:∀ vs H Q E,sp vs H Q E->vs.length=ps.length)
  (hbody:∀ (cdv:Value) (A:Around) (outer:List Env) (s:Shared) (H:Hp) (vs:List V) (Q:VK) (E:XK),Room k (A.deeper (envOfC qual (zak st) s.heap.objs.size f cdv))->sp vs H Q E ->
   ∃ t,PSs (cxOf (CX1 P w) P w K mg base N qual (zak st) f cdv A outer s H E).nox (zhW st) t/\t { nx:=λ _ H'=>Q .non H',rt:=Q } (start N vs) H):FnOk P w K mg base (CX1 P w) (k+1) f fd ps sp:=by
 refine F.okX S len λ cdv A outer s H vs Q E hr hsp=>?_
 obtain ⟨t,h,q⟩:=hbody cdv A outer s H vs Q E hr hsp
 exact ⟨t,h.nox,q⟩
section
variable {X:Cx} {K:PySem.W.Frag}
theorem zlN (hK:X.K=K) {es:List Expr} {k:Nat} {t:TGs} {n:Nat} {pos:Pos} (hc:X.calm=true) (h:PGs X es t)
  (hn:(assignEach es X.env).length=n:=by rfl) (hst:(assignEach es X.env).findIdx? (·.1)=none:=by rfl):PG X (.Tuple es k pos) (gTup K n t):=by
 subst hK; exact ziN hc h hn hst
theorem zrK (hK:X.K=K) {e:Expr} {f:Str} {ta:TE} {pos:Pos} (he:PE X e ta) (hb:attributeBase e f X.env (eval e X.env)=eval e X.env):PE X (.Attribute e f pos) (tFld K ta f):=by
 subst hK; exact zal he hb
theorem zpm (hK:X.K=K):IxR X (rIxT K):=by subst hK; exact zb0
theorem znP (hK:X.K=K):OpR X (compareOp .In) (rIn K false):=by subst hK; exact zkF
end
theorem zsS {X:Cx} {x:Str} {pos:Pos} {n:String} (hg:Gl X x) (hm:X.mg x=none) (hv:bootBuiltins x=some (.type n)) (hn:x ≠ "__name__" := by decide) (hd:(x == ("__debug__" : Str))=false:=by decide):PE X (.Name x pos) (tC (.ty n)):=zrL (v:=.ty n) hg hm hv rfl hn hd
end L2
namespace TP
open PySem L2 TH
theorem zpJ (xs:List Str):(S6.deds (xs.map (Sum.inr:Str->Key))).Perm ((ordS xs).map Sum.inr):=by
 refine (List.perm_ext_iff_of_nodup (S6.zpK _) ?_).mpr λ k=>?_
 . exact (zgz (zcf xs)).map _ λ a b h e=>h (Sum.inr.inj e)
 . rw [S6.zjD,List.mem_map,List.mem_map]
   exact ⟨λ ⟨x,h,e⟩=>⟨x,zbh.mpr h,e⟩,λ ⟨x,h,e⟩=>⟨x,zbh.mp h,e⟩⟩
theorem zou (xs:List Str):zqQ (xs.map (Sum.inr:Str->Key)):=.inr λ k hk=>by
 obtain ⟨x,_,e⟩:=List.mem_map.mp hk
 exact ⟨x,e.symm⟩
theorem znv (xs:List Str):zqQ (S6.deds (xs.map (Sum.inr:Str->Key))):=.inr λ k hk=>by
 obtain ⟨x,_,e⟩:=List.mem_map.mp (S6.zjD.mp hk)
 exact ⟨x,e.symm⟩
theorem zq1 (xs:List Str):(xs.map (Sum.inr:Str->Key)).map kV=xs.map V.str:=by rw [List.map_map]; rfl
def zoB:Sp:=λ vs H Q _=>∃ i:Int,vs=[.int i]/\Q (.bl true) H
def zgx (K:PySem.W.Frag):Sp:=λ vs H Q _=>∃ (p:Addr) (xs:List Str),vs=[.ref p]/\SSrc K H p (xs.map Sum.inr)/\xs.length < 4000/\(ordS xs).length < 64 /\
 ∀ H' q,H q=none->Same H H'->H' q=some (.tup ((ordS xs).map V.str))->Q (.ref q) H'
def zki:Sp:=λ vs H Q _=>∃ (p:Addr) (k:Str) (l:List (Str×Int)) (b:Book Str),vs=[.ref p,.str k]/\H p=some (.dK (bkV l))/\zbo l b/\Q (.int ((b k).getD 0)) H
def zct (H:Hp) (p:Addr) (H':Hp):Prop:=∀ b o,H b=some o->b≠p->H' b=some o
def zny (A:Ad):Sp:=λ vs H Q _=>∃ (p dx:Addr) (w:Bool) (k:Str) (v:V),vs=[.ref p,.str (useS w),.str k,v]/\H p=some (.ins A.zd7 dx []) /\
 ∀ H',H' p=some (.ins A.zd7 dx [("use",.str (useS w)),("key",.str k),("value",v)])->zct H p H'->Q .non H'
def zkj (A:Ad):Sp:=λ vs H Q _=>∃ (p dx:Addr),vs=[.ref p]/\H p=some (.ins A.zaB dx []) /\
 ∀ H' d,H d=none->H' p=some (.ins A.zaB dx (recF .zar d .non))->H' d=some (.lst [])->zct H p H'->Q .non H'
def zoC (A:Ad):Sp:=λ vs H Q _=>∃ (p dx d:Addr) (st:DS) (w:V),vs=[.ref p]/\H p=some (.ins A.zaB dx (recF st d w))/\Q (.bl (decide (st=.kept\/st=.dropped))) H
def ziF (p:Str×Int):List V:=[.str p.1,.int p.2]
structure RecAt (A:Ad) (H:Hp) (p:Addr) (st:DS) (d:Addr) (w:V) (done:List (Act Str)):Prop where
 ob:∃ dx,H p=some (.ins A.zaB dx (recF st d w))
 did:∃ us,H d=some (.lst us)/\zau H us (done.map actV)
def zoy (A:Ad):Sp:=λ vs H Q _=>∃ p st d w done,vs=[.ref p]/\RecAt A H p st d w done/\done.length < 3000 /\
 ∀ H' q us,Same H H'->H' q=some (.lst us)->zau H' us ((zas done).map ziF)->Q (.ref q) H'
def zc3:Option (Act Str)->List Str
 | none=>[]
 | some a=>[a.key]
def zoz (A:Ad):Sp:=λ vs H Q _=>∃ p st d w done o,vs=[.ref p]/\RecAt A H p st d w done/\zcs A H w o/\done.length < 3000/\(ordS (done.map (·.key)++zc3 o)).length < 64 /\
 ∀ H' q,H q=none->Same H H'->H' q=some (.tup ((ordS (done.map (·.key)++zc3 o)).map V.str))->Q (.ref q) H'
end TP
end
section
namespace TP
open PySem L2 TH
theorem zcW {a b:Nat}:((Sum.inl (a:Int):Key)=Sum.inl (b:Int))↔a=b:=⟨λ h=>by have:=Sum.inl.inj h; omega,λ h=>by rw [h]⟩
theorem zc7 (h:List (Nat×Bool)) (d:Nat):valV (zaG h) (Sum.inl (d:Int))=(look h d).map λ w=>V.str (useS w):=by
 unfold zaG look
 induction h with
 | nil=>rfl
 | cons p r ih =>
  rw [List.map_cons]
  by_cases e:p.1=d
  . rw [zeA (zcW.mpr e)]; simp [List.find?_cons,e]
  . rw [zeB λ z=>e (zcW.mp z),ih]; simp [List.find?_cons,e]
theorem zqD (h:List (Nat×Bool)) (d:Nat):((zaG h).any λ kv=>decide (kv.1=(Sum.inl (d:Int):Key)))=h.any λ p=>p.1 == d:=by
 unfold zaG
 rw [List.any_map]
 congr 1
 funext p
 show decide ((Sum.inl (p.1:Int):Key)=Sum.inl (d:Int))=(p.1 == d)
 rw [Bool.eq_iff_iff]
 simp only [decide_eq_true_eq,beq_iff_eq]
 exact zcW
theorem zqB (h:List (Nat×Bool)) (d:Nat) (w:Bool):putK (zaG h) (Sum.inl (d:Int)) (V.str (useS w))=zaG (zbi h d w):=by
 unfold putK zbi
 rw [zqD]
 split
 . unfold zaG
   rw [List.map_map,List.map_map]
   refine List.map_congr_left λ p hp=>?_
   show (if (Sum.inl (p.1:Int):Key)=Sum.inl (d:Int) then ((Sum.inl (p.1:Int):Key),V.str (useS w)) else ((Sum.inl (p.1:Int):Key),V.str (useS p.2)))=((Sum.inl (((if (p.1 == d)=true then (d,w) else p).1:Nat):Int):Key),V.str (useS (if (p.1 == d)=true then (d,w) else p).2))
   by_cases e:p.1=d
   . rw [if_pos (zcW.mpr e),if_pos (by simpa using e)]; simp [e]
   . rw [if_neg λ z=>e (zcW.mp z),if_neg (by simpa using e)]
 . unfold zaG; rw [List.map_append]; rfl
theorem zps (h:List (Nat×Bool)) (d:Nat):zit (zaG h) (Sum.inl (d:Int))=zaG (less h d):=by
 unfold zit less zaG
 rw [List.filter_map]
 congr 1
 refine List.filter_congr λ p _=>?_
 show decide ((Sum.inl (p.1:Int):Key)≠Sum.inl (d:Int))=(p.1 != d)
 rw [Bool.eq_iff_iff]
 simp only [decide_eq_true_eq,bne_iff_ne]
 exact not_congr zcW
theorem less_none {h:List (Nat×Bool)} {d:Nat} (e:look h d=none):less h d=h:=by
 unfold less
 refine List.filter_eq_self.mpr λ p hp=>?_
 unfold look at e
 rw [Option.map_eq_none_iff,List.find?_eq_none] at e
 simpa using e p hp
theorem zcp (h:List (Nat×Bool)):(zaG h).length=h.length:=by unfold zaG; rw [List.length_map]
theorem zmk (l:List (Str×Int)):(bkV l).length=l.length:=by unfold bkV; rw [List.length_map]
def bput (l:List (Str×Int)) (k:Str) (v:Int):List (Str×Int):=if (l.any λ p=>decide (p.1=k))=true then l.map (λ p=>if p.1=k then (p.1,v) else p) else l++[(k,v)]
theorem zsa (l:List (Str×Int)) (k:Str):((bkV l).any λ kv=>decide (kv.1=(Sum.inr k:Key)))=l.any λ p=>decide (p.1=k):=by
 unfold bkV
 rw [List.any_map]
 congr 1
 funext p
 show decide ((Sum.inr p.1:Key)=Sum.inr k)=decide (p.1=k)
 exact zq3 _ _
theorem zmj (l:List (Str×Int)) (k:Str) (v:Int):putK (bkV l) (Sum.inr k) (V.int v)=bkV (bput l k v):=by
 unfold putK bput
 rw [zsa]
 split
 . unfold bkV
   rw [List.map_map,List.map_map]
   refine List.map_congr_left λ p hp=>?_
   show (if (Sum.inr p.1:Key)=Sum.inr k then ((Sum.inr p.1:Key),V.int v) else ((Sum.inr p.1:Key),V.int p.2))=((Sum.inr (if p.1=k then (p.1,v) else p).1:Key),V.int (if p.1=k then (p.1,v) else p).2)
   by_cases e:p.1=k
   . rw [if_pos (congrArg Sum.inr e),if_pos e]
   . rw [if_neg λ z=>e (Sum.inr.inj z),if_neg e]
 . unfold bkV; rw [List.map_append]; rfl
def zqN (l:List (Str×Int)) (k:Str):List (Str×Int):=l.filter λ p=>decide (p.1≠k)
theorem zqM (l:List (Str×Int)) (k:Str):zit (bkV l) (Sum.inr k)=bkV (zqN l k):=by
 unfold zit zqN bkV
 rw [List.filter_map]
 congr 1
 refine List.filter_congr λ p _=>?_
 show decide ((Sum.inr p.1:Key)≠Sum.inr k)=decide (p.1≠k)
 rw [Bool.eq_iff_iff]
 simp only [decide_eq_true_eq]
 exact not_congr ⟨λ z=>Sum.inr.inj z,λ z=>by rw [z]⟩
theorem zbo.has {l:List (Str×Int)} {b:Book Str} (h:zbo l b) (k:Str):(l.any λ p=>decide (p.1=k))=(b k).isSome:=by
 cases e:b k with
 | none =>
  refine List.any_eq_false.mpr λ p hp z=>?_
  have hk:p.1=k:=by simpa using z
  have:=(h.mem p.1 p.2).mp hp
  rw [hk,e] at this; cases this
 | some v=>exact List.any_eq_true.mpr ⟨(k,v),(h.mem k v).mpr e,by simp⟩
theorem zbo.put {l:List (Str×Int)} {b:Book Str} (h:zbo l b) (k:Str) (v:Int):zbo (bput l k v) (up b k (some v)):=by
 unfold bput
 rw [h.has k]
 cases e:b k with
 | none =>
  simp only [Option.isSome_none,Bool.false_eq_true,if_false]
  have hn:∀ p∈l,p.1≠k:=λ p hp z=>by
    have:=(h.mem p.1 p.2).mp hp
    rw [z,e] at this; cases this
  refine ⟨?_,λ k' v'=>?_⟩
  . rw [List.map_append]
    refine List.nodup_append.mpr ⟨h.nd,by simp,λ a ha c hc=>?_⟩
    obtain ⟨p,hp,rfl⟩:=List.mem_map.mp ha
    rw [List.mem_singleton.mp hc]; exact hn p hp
  . rw [List.mem_append,List.mem_singleton]
    by_cases hk:k'=k
    . subst hk
      rw [zah]
      exact ⟨λ z=>z.elim (λ q=>absurd rfl (hn _ q)) λ q=>by cases q; rfl,λ z=>.inr (by cases z; rfl)⟩
    . rw [zan hk,<-h.mem]
      exact ⟨λ z=>z.elim id λ q=>absurd (by cases q; rfl) hk,.inl⟩
 | some v0 =>
  simp only [Option.isSome_some,if_true]
  have hk1:(l.map λ p=>if p.1=k then (p.1,v) else p).map (·.1)=l.map (·.1):=by
    rw [List.map_map]
    refine List.map_congr_left λ p _=>?_
    show (if p.1=k then (p.1,v) else p).1=p.1
    split <;> rfl
  refine ⟨by rw [hk1]; exact h.nd,λ k' v'=>?_⟩
  rw [List.mem_map]
  by_cases hk:k'=k
  . subst hk
    rw [zah]
    refine ⟨λ ⟨p,hp,q⟩=>?_,λ z=>?_⟩
    . by_cases hpk:p.1=k'
      . rw [if_pos hpk] at q; cases q; rfl
      . rw [if_neg hpk] at q; subst q; exact absurd rfl hpk
    . cases z
      exact ⟨(k',v0),(h.mem _ _).mpr e,by simp⟩
  . rw [zan hk,<-h.mem]
    refine ⟨λ ⟨p,hp,q⟩=>?_,λ z=>⟨(k',v'),z,by rw [if_neg hk]⟩⟩
    by_cases hpk:p.1=k
    . rw [if_pos hpk] at q; cases q; exact absurd hpk hk
    . rw [if_neg hpk] at q; subst q; exact hp
theorem zbo.drop {l:List (Str×Int)} {b:Book Str} (h:zbo l b) (k:Str):zbo (zqN l k) (up b k none):=by
 unfold zqN
 refine ⟨?_,λ k' v'=>?_⟩
 . exact h.nd.sublist (List.filter_sublist.map _)
 . rw [List.mem_filter]
   by_cases hk:k'=k
   . subst hk; rw [zah]; simp
   . rw [zan hk,<-h.mem]; simp [hk]
theorem zbo.zpG {l:List (Str×Int)} {b:Book Str} (h:zbo l b) {k:Str} (e:b k=none):zbo l (up b k none):=by
 have:up b k none=b:=by
  funext x; by_cases hx:x=k
  . subst hx; rw [zah,e]
  . rw [zan hx]
 rw [this]; exact h
theorem zbo.len {l:List (Str×Int)} {b:Book Str} (h:zbo l b) {ks:List Str} (nd:ks.Nodup) (hk:∀ k,b k≠none->k∈ks):l.length<=ks.length:=by
 have:∀ (a c:List Str),a.Nodup->(∀ x∈a,x∈c)->a.length<=c.length:=λ a=>by
  induction a with
  | nil=>intro c _ _; simp
  | cons x r ih =>
   intro c nd hs
   obtain ⟨n1,n2⟩:=List.nodup_cons.mp nd
   have hx:=hs x List.mem_cons_self
   have:=ih (c.erase x) n2 λ z hz=>(List.mem_erase_of_ne (show z≠x from λ e=>n1 (e ▸ hz))).mpr (hs z (List.mem_cons_of_mem _ hz))
   rw [List.length_erase_of_mem hx] at this
   have hpos:0 < c.length:=List.length_pos_of_mem hx
   simp only [List.length_cons]; omega
 have:=this (l.map (·.1)) ks h.nd λ x hx=>by
  obtain ⟨p,hp,rfl⟩:=List.mem_map.mp hx
  exact hk p.1 (by rw [(h.mem p.1 p.2).mp hp]; exact λ z=>nomatch z)
 rwa [List.length_map] at this
def zdW (ad:Role->Addr) (seen:List Str):List (Key×V):=seen.map λ k=>(Sum.inr k,.ref (ad (.desk k)))
theorem zcY (ad:Role->Addr) (k:Str):∀ seen:List Str,valV (zdW ad seen) (Sum.inr k)=if k∈seen then some (.ref (ad (.desk k))) else none
 | []=>rfl
 | x::r=>by
  unfold zdW
  rw [List.map_cons]
  by_cases e:x=k
  . subst e; rw [zeA rfl]; simp
  . rw [zeB λ z=>e (Sum.inr.inj z)]
    have:=zcY ad k r
    unfold zdW at this
    rw [this]
    have:(k∈x::r)↔k∈r:=by rw [List.mem_cons]; exact ⟨λ z=>z.resolve_left λ q=>e q.symm,.inr⟩
    by_cases hk:k∈r
    . rw [if_pos hk,if_pos (this.mpr hk)]
    . rw [if_neg hk,if_neg λ z=>hk (this.mp z)]
theorem zck {H:Hp} {us:List V} {xss:List (List V)} (t:zau H us xss) {i:Nat} {x:V} (h:us[i]?=some x):∃ y,xss[i]?=some y/\TupAt H x y:=S6.zg3 t h
theorem zea {H:Hp}:∀ {us:List V} {xss:List (List V)},zau H us xss->∀ {i:Nat} {y:List V},xss[i]?=some y->∃ x,us[i]?=some x/\TupAt H x y
 | _,_,.nil,_,_,h=>by simp at h
 | _,_,.cons r _,0,_,h=>by simp at h; subst h; exact ⟨_,rfl,r⟩
 | _,_,.cons _ t,i+1,_,h=>by
  obtain ⟨x,h1,h2⟩:=zea t (i:=i) (by simpa using h)
  exact ⟨x,by simpa using h1,h2⟩
theorem zbk {H H':Hp} (m:Same H H') {us:List V} {xss:List (List V)} (t:zau H us xss):zau H' us xss:=by
 induction t with
 | nil=>exact .nil
 | cons r _ ih=>obtain ⟨p,e,q⟩:=r; exact .cons ⟨p,e,m p _ q⟩ ih
theorem zom {H:Hp} {a q:Addr} {x o y:HO} (e:H a=some y) (hq:H q=none):upd (upd (upd H a x) q o) a y=upd H q o:=by
 funext b
 by_cases hb:b=a
 . subst hb; rw [zab,zae (zaf e hq)]; exact e.symm
 . rw [zae hb]
   by_cases hbq:b=q
   . subst hbq; rw [zab,zab]
   . rw [zae hbq,zae hb,zae hbq]
end TP
end
section
namespace TP
open PySem L2 TH
structure zd2 (A:Ad) (H:Hp) (p hd rw:Addr) (h r:List (Nat×Bool)):Prop where
 ob:∃ dx,H p=some (.ins A.zb9 dx (ziu hd rw))
 hd:H hd=some (.dK (zaG h))
 rw:∃ us,H rw=some (.lst us)/\zau H us (r.map zb2)
def znF (A:Ad):Sp:=λ vs H Q _=>∃ (p dx:Addr),vs=[.ref p]/\H p=some (.ins A.zb9 dx []) /\
 ∀ H' hd rw,H hd=none->H rw=none->H' p=some (.ins A.zb9 dx (ziu hd rw))->H' hd=some (.dK [])->H' rw=some (.lst [])->zct H p H'->Q .non H'
def zaD (l:List Nat):List V:=l.map λ (n:Nat)=>V.int (n:Int)
def zly (A:Ad):Sp:=λ vs H Q _=>∃ (p hd rw:Addr) (h r:List (Nat×Bool)) (d:Nat) (w:Bool),vs=[.ref p,.int d,.str (useS w)]/\zd2 A H p hd rw h r/\h.length<=1000/\(h.map (·.1)).Nodup /\
 ∀ H' q,H q=none->Same H H'->H' q=some (.lst (zaD (hind h d w)))->Q (.ref q) H'
def zmR (A:Ad):Sp:=λ vs H Q _=>∃ (p hd rw:Addr) (h r:List (Nat×Bool)) (d:Nat) (w:Bool),vs=[.ref p,.int d,.str (useS w)]/\zd2 A H p hd rw h r/\h.length<=1000/\(h.map (·.1)).Nodup /\
 ∀ H',Same H H'->Q (.bl (lets h d w)) H'
def zkl (A:Ad):Sp:=λ vs H Q _=>∃ (p hd rw:Addr) (h r:List (Nat×Bool)) (d:Nat) (w:Bool),vs=[.ref p,.int d,.str (useS w)]/\zd2 A H p hd rw h r/\h.length<=1000/\(h.map (·.1)).Nodup /\
 ∀ H',Same H H'->Q (.bl ((has h d || r.isEmpty) && lets h d w)) H'
def zpg (h:List (Nat×Bool)):List (Nat×Bool)->Bool
 | []=>false
 | (d,w)::_=>lets h d w
def zlx (A:Ad):Sp:=λ vs H Q _=>∃ (p hd rw:Addr) (h r:List (Nat×Bool)),vs=[.ref p]/\zd2 A H p hd rw h r/\h.length<=1000/\(h.map (·.1)).Nodup /\
 ∀ H',Same H H'->Q (.bl (zpg h r)) H'
def zsv (A:Ad):Sp:=λ vs H Q _=>∃ (p hd rw:Addr) (h r:List (Nat×Bool)) (d:Nat) (w:Bool),vs=[.ref p,.int d,.str (useS w)]/\zd2 A H p hd rw h r/\h.length<=1000/\(h.map (·.1)).Nodup /\
 ∀ H',H' hd=some (.dK (zaG (take1 h d w)))->zct H hd H'->Q .non H'
def zqu (h r:List (Nat×Bool)) (d:Nat) (w:Bool):List (Nat×Bool):=if has h d then (d,w)::r else r++[(d,w)]
def zp5 (A:Ad):Sp:=λ vs H Q _=>∃ (p hd rw:Addr) (h r:List (Nat×Bool)) (d:Nat) (w:Bool),vs=[.ref p,.int d,.str (useS w)]/\zd2 A H p hd rw h r/\r.length<=1000 /\
 ∀ H' us,H' rw=some (.lst us)->zau H' us ((zqu h r d w).map zb2)->zct H rw H'->Q .non H'
def zru (A:Ad):Sp:=λ vs H Q _=>∃ (p hd rw dx:Addr) (h r:List (Nat×Bool)) (d:Nat),vs=[.ref p,.int d]/\zd2 A H p hd rw h r/\H p=some (.ins A.zb9 dx (ziu hd rw))/\r.length<=1000 /\
 ∀ H' rw' us,H rw'=none->H' p=some (.ins A.zb9 dx (ziu hd rw'))->H' hd=some (.dK (zaG (less h d)))->H' rw'=some (.lst us)->zau H' us ((less r d).map zb2)->(∀ b o,H b=some o->b≠p->b≠hd->H' b=some o)->Q .non H'
def zkk (A:Ad):Sp:=λ vs H Q _=>∃ (p hd rw:Addr) (h r:List (Nat×Bool)) (d:Nat) (w:Bool),vs=[.ref p,.int d,.str (useS w)]/\zd2 A H p hd rw h r/\h.length<=1000/\(h.map (·.1)).Nodup/\r.length<=1000/\(d,w)∈r/\(r.map (·.1)).Nodup /\
 ∀ H' q,H q=none->Same H H'->H' q=some (.lst (zaD (zjy h r d w)))->Q (.ref q) H'
theorem zdU {c:Bool} {A B:Prop} (b:Bool) (h:c=b) (k:if b=true then A else B):if c=true then A else B:=by rw [h]; exact k
theorem zbl {c:Bool} {A B:Prop} (h:c=true) (k:A):if c=true then A else B:=by rw [if_pos h]; exact k
theorem zaS {c:Bool} {A B:Prop} (h:c=false) (k:B):if c=true then A else B:=by rw [if_neg (by rw [h]; exact Bool.false_ne_true)]; exact k
theorem zpE (a b:Nat):decide (V.int (a:Int)=V.int (b:Int))=(a == b):=by
 rw [Bool.eq_iff_iff,decide_eq_true_eq,beq_iff_eq]
 exact ⟨λ h=>by have:=V.int.inj h; omega,λ h=>by rw [h]⟩
theorem zo6 (a b:Nat):(!decide (V.int (a:Int)=V.int (b:Int)))=(a != b):=by rw [zpE]; rfl
theorem zkY (h:List (Nat×Bool)) (d:Nat):(look h d).isSome=has h d:=by
 unfold look has
 rw [Option.isSome_map]
 induction h with
 | nil=>rfl
 | cons p r ih =>
  rw [List.find?_cons,List.any_cons]
  cases e:(p.1 == d) with
  | true=>rfl
  | false=>rw [Bool.false_or]; exact ih
theorem zp0 {a b:Bool}:(V.str (useS a)=V.str (useS b))↔a=b:=by
 refine ⟨λ h=>?_,λ h=>by rw [h]⟩
 have e:=V.str.inj h
 cases a <;> cases b <;> first | rfl | exact absurd e (by decide +kernel)
theorem zfV (w:Bool):decide (V.str (useS w)=V.str "writing")=w:=by
 have:=zp0 (a:=w) (b:=true)
 cases w with
 | true=>exact decide_eq_true rfl
 | false=>exact decide_eq_false λ z=>by cases this.mp z
theorem zd2.same {A:Ad} {H H':Hp} {p hd rw:Addr} {h r:List (Nat×Bool)} (D:zd2 A H p hd rw h r) (m:Same H H'):zd2 A H' p hd rw h r:=by
 obtain ⟨⟨dx,e⟩,e2,us,e3,t⟩:=D
 exact ⟨⟨dx,m _ _ e⟩,m _ _ e2,us,m _ _ e3,zbk m t⟩
theorem zpq (h:List (Nat×Bool)) (d:Nat) (w:Bool):decide ((hind h d w).length=0)=lets h d w:=by
 unfold hind lets
 rw [List.length_map]
 rw [Bool.eq_iff_iff,decide_eq_true_eq,List.length_eq_zero_iff,List.filter_eq_nil_iff,List.all_eq_true]
 refine forall_congr' λ p=>forall_congr' λ _=>?_
 cases w <;> cases p.2 <;> simp
end TP
namespace TP
open PySem L2 TH
theorem zm1 {H:Hp}:∀ {us:List V} {r:List (Nat×Bool)},zau H us (r.map zb2)->DVs H us (r.map λ p=>PySem.W.Dat.tuple [.int p.1,.str (useS p.2)])
 | [],[],_=>.nil
 | _::_,_::_,.cons ⟨p,e,q⟩ t=>by subst e; exact .cons (.tup q (.cons (.int _) (.cons (.str _) .nil))) (zm1 t)
theorem zsg (w:Bool):PyData.strOk (useS w)=true:=by cases w <;> decide +kernel
theorem zo0 (i:Int) (w:Bool):PySem.W.kqdOk 7 (.tuple [.int i,.str (useS w)])=true:=by
 simp only [PySem.W.kqdOk,List.all_cons,List.all_nil,zsg,Bool.and_self]
end TP
end
section
namespace TP
open PySem L2 TH
section
variable {A:Ad} {ρ:Addr->Role} {ad:Role->Addr} {s s':HS Str} {kv kv':Book Str} {H H':Hp}
theorem zai.hall (h:zai A ρ ad s kv H):∃ dx,H (ad .hall)=some (.ins A.zaZ dx (zl8 ad)):=by
 obtain ⟨o,e,dx,rfl⟩:=h.at_ .hall trivial; exact ⟨dx,e⟩
theorem zai.recs (h:zai A ρ ad s kv H):H (ad .recs)=some (.lst ((List.range s.n).map λ i=>.ref (ad (.rcd i)))):=by
 obtain ⟨o,e,r⟩:=h.at_ .recs trivial; rw [e]; exact congrArg some r
theorem zai.zbG (h:zai A ρ ad s kv H):H (ad .zbG)=some (.dK (zdW ad s.seen)):=by
 obtain ⟨o,e,r⟩:=h.at_ .zbG trivial; rw [e]; exact congrArg some r
theorem zai.zcm (h:zai A ρ ad s kv H):∃ l,H (ad .zcm)=some (.dK (bkV l))/\zbo l s.book:=by
 obtain ⟨o,e,l,rfl,b⟩:=h.at_ .zcm trivial; exact ⟨l,e,b⟩
theorem zai.zdk (h:zai A ρ ad s kv H):∃ l,H (ad .zdk)=some (.dK (bkV l))/\zbo l kv:=by
 obtain ⟨o,e,l,rfl,b⟩:=h.at_ .zdk trivial; exact ⟨l,e,b⟩
theorem zai.order (h:zai A ρ ad s kv H):H (ad .order)=some (.lst (zaD s.kept)):=by
 obtain ⟨o,e,r⟩:=h.at_ .order trivial; rw [e]; exact congrArg some r
theorem zai.rows (h:zai A ρ ad s kv H):∃ us,H (ad .rows)=some (.lst us)/\zau H us (s.log.map rowV):=by
 obtain ⟨o,e,us,rfl,t⟩:=h.at_ .rows trivial; exact ⟨us,e,t⟩
theorem zai.rcd (h:zai A ρ ad s kv H) {i:Nat} (hi:i < s.n):∃ dx w,H (ad (.rcd i))=some (.ins A.zaB dx (recF (s.deed i).st (ad (.did i)) w))/\zcs A H w (wantOf (s.deed i)):=by
 obtain ⟨o,e,dx,w,rfl,t⟩:=h.at_ (.rcd i) hi; exact ⟨dx,w,e,t⟩
theorem zai.did (h:zai A ρ ad s kv H) {i:Nat} (hi:i < s.n):∃ us,H (ad (.did i))=some (.lst us)/\zau H us ((s.deed i).done.map actV):=by
 obtain ⟨o,e,us,rfl,t⟩:=h.at_ (.did i) hi; exact ⟨us,e,t⟩
theorem zai.recAt (h:zai A ρ ad s kv H) {i:Nat} (hi:i < s.n):∃ w,RecAt A H (ad (.rcd i)) (s.deed i).st (ad (.did i)) w (s.deed i).done/\zcs A H w (wantOf (s.deed i)):=by
 obtain ⟨dx,w,e,t⟩:=h.rcd hi
 exact ⟨w,⟨⟨dx,e⟩,h.did hi⟩,t⟩
theorem zai.desk (h:zai A ρ ad s kv H) {k:Str} (hk:k∈s.seen):zd2 A H (ad (.desk k)) (ad (.held k)) (ad (.row k)) (s.held k) (s.rows k):=by
 obtain ⟨o,e,dx,rfl⟩:=h.at_ (.desk k) hk
 obtain ⟨o2,e2,r2⟩:=h.at_ (.held k) hk
 obtain ⟨o3,e3,us,rfl,t⟩:=h.at_ (.row k) hk
 exact ⟨⟨dx,e⟩,by rw [e2]; exact congrArg some r2,us,e3,t⟩
theorem zai.zfA (h:zai A ρ ad s kv H) {i:Nat} (hi:i < s.n):((List.range s.n).map λ i=>V.ref (ad (.rcd i)))[i]?=some (V.ref (ad (.rcd i))):=by
 rw [List.getElem?_map,List.getElem?_range hi]; rfl
theorem zai.zdN (h:zai A ρ ad s kv H) {k:Str} (hk:k∈s.seen):DGet H (ad .zbG) (V.str k) (some (.ref (ad (.desk k)))):=by
 have:=DGet.k (k:=Sum.inr k) h.zbG
 rw [zcY,if_pos hk] at this; exact this
theorem Imm.zgf (ok:AdOk A) {r:Role} (h:zai A ρ ad s kv H) (l:live s r) (kp:zct H (ad r) H'):Imm A H H':=by
 obtain ⟨o₀,e₀,a₀⟩:=h.at_ r l
 obtain ⟨m1,m2⟩:=a₀.mut ok
 exact ⟨λ p xs e=>kp p _ e (zbF e e₀ λ z=>m1 xs z.symm),λ p dx fs e=>kp p _ e (zbF e e₀ λ z=>m2 dx fs z.symm)⟩
theorem zai.put' (ok:AdOk A) (h:zai A ρ ad s kv H) {r:Role} {o:HO} (l:live s r) (e:H' (ad r)=some o) (kp:zct H (ad r) H') (new:At A ad s' kv' H' r o) (lv:∀ r',r'≠r->live s' r'->live s r')
   (oth:∀ r' o',r'≠r->live s' r'->At A ad s kv H' r' o'->At A ad s' kv' H' r' o'):zai A ρ ad s' kv' H'/\Frame ρ H ρ H':=by
 have im:=Imm.zgf ok h l kp
 refine ⟨⟨λ r' l'=>?_,λ r' l'=>?_,λ b eb=>?_⟩,λ b u eb q=>?_,im.tup⟩
 . by_cases hr:r'=r
   . subst hr; exact ⟨o,e,new⟩
   . obtain ⟨o',e',a'⟩:=h.at_ r' (lv r' hr l')
     exact ⟨o',kp _ _ e' (h.ne (lv r' hr l') l hr),oth r' o' hr l' (a'.mono im)⟩
 . by_cases hr:r'=r
   . subst hr; exact h.ro r' l
   . exact h.ro r' (lv r' hr l')
 . refine h.fr b ?_
   cases q:H b with
   | none=>rfl
   | some u =>
     by_cases z:b=ad r
     . subst z; rw [e] at eb; cases eb
     . rw [kp b u q z] at eb; cases eb
 . have hb:b≠ad r:=λ z=>by rw [z,h.ro r l] at q; exact zpf l q
   exact ⟨kp b u eb hb,q⟩
theorem zdj {s s':HS Str} (h1:s'.n=s.n) (h2:s'.seen=s.seen) {r:Role} (l:live s' r):live s r:=by
 cases r <;> first | exact l | (show _ < s.n; rw [<-h1]; exact l) | (show _∈s.seen; rw [<-h2]; exact l)
theorem zai.znp (ok:AdOk A) (h:zai A ρ ad s kv H) {row:Row Str} {us:List V} {v:V} (e0:H (ad .rows)=some (.lst us)) (e:H' (ad .rows)=some (.lst (us++[v]))) (kp:zct H (ad .rows) H') (t:TupAt H' v (rowV row)) :
   zai A ρ ad { s with log:=s.log++[row] } kv H'/\Frame ρ H ρ H':=by
 obtain ⟨us',e1,tu⟩:=h.rows
 rw [e0] at e1; cases e1
 refine h.put' ok (r:=.rows) trivial e kp ⟨_,rfl,?_⟩ (λ r' _ l=>zdj (s:=s) rfl rfl l) λ r' o' hr l a=>?_
 . show zau H' _ ((s.log++[row]).map rowV)
   rw [List.map_append]
   exact S6.zco (zau.mono (Imm.zgf ok h (r:=.rows) trivial kp) tu) t
 . cases r' <;> first | exact a | exact absurd rfl hr
theorem zai.zqO (ok:AdOk A) (h:zai A ρ ad s kv H) {d:Nat} (e:H' (ad .order)=some (.lst (zaD s.kept++[V.int (d:Int)]))) (kp:zct H (ad .order) H') :
   zai A ρ ad { s with kept:=s.kept++[d] } kv H'/\Frame ρ H ρ H':=by
 refine h.put' ok (r:=.order) trivial e kp ?_ (λ r' _ l=>zdj (s:=s) rfl rfl l) λ r' o' hr l a=>?_
 . show _=HO.lst ((s.kept++[d]).map _)
   rw [List.map_append]; rfl
 . cases r' <;> first | exact a | exact absurd rfl hr
theorem zai.zmS (ok:AdOk A) (h:zai A ρ ad s kv H) {l:List (Str×Int)} {b:Book Str} (e:H' (ad .zcm)=some (.dK (bkV l))) (kp:zct H (ad .zcm) H') (hb:zbo l b) :
  zai A ρ ad { s with book:=b } kv H'/\Frame ρ H ρ H':=by
 refine h.put' ok (r:=.zcm) trivial e kp ⟨l,rfl,hb⟩ (λ r' _ l=>zdj (s:=s) rfl rfl l) λ r' o' hr l a=>?_
 cases r' <;> first | exact a | exact absurd rfl hr
theorem zai.zqb (ok:AdOk A) (h:zai A ρ ad s kv H) {l:List (Str×Int)} {b:Book Str} (e:H' (ad .zdk)=some (.dK (bkV l))) (kp:zct H (ad .zdk) H') (hb:zbo l b) :
  zai A ρ ad s b H'/\Frame ρ H ρ H':=by
 refine h.put' ok (r:=.zdk) trivial e kp ⟨l,rfl,hb⟩ (λ r' _ l=>zdj (s:=s) rfl rfl l) λ r' o' hr l a=>?_
 cases r' <;> first | exact a | exact absurd rfl hr
theorem zai.zoH (ok:AdOk A) (h:zai A ρ ad s kv H) {d:Nat} (hd:d < s.n) {D:Deed Str} {w:V} {dx:Addr} (e:H' (ad (.rcd d))=some (.ins A.zaB dx (recF D.st (ad (.did d)) w))) (kp:zct H (ad (.rcd d)) H') (hw:zcs A H' w (wantOf D)) (hdn:D.done=(s.deed d).done) :
   zai A ρ ad { s with deed:=up s.deed d D } kv H'/\Frame ρ H ρ H':=by
 refine h.put' ok (r:=.rcd d) hd e kp ?_ (λ r' _ l=>zdj (s:=s) rfl rfl l) λ r' o' hr l a=>?_
 . refine ⟨dx,w,?_,?_⟩
   . show _=HO.ins A.zaB dx (recF (up s.deed d D d).st _ w)
     rw [zah]
   . show zcs A H' w (wantOf (up s.deed d D d))
     rw [zah]; exact hw
 . cases r' with
   | rcd i =>
     have hi:i≠d:=λ z=>hr (by rw [z])
     obtain ⟨dx',w',e',t⟩:=a
     refine ⟨dx',w',?_,?_⟩
     . show _=HO.ins A.zaB dx' (recF (up s.deed d D i).st _ w')
       rw [zan hi]; exact e'
     . show zcs A H' w' (wantOf (up s.deed d D i))
       rw [zan hi]; exact t
   | did i =>
     obtain ⟨us,e',t⟩:=a
     refine ⟨us,e',?_⟩
     show zau H' us ((up s.deed d D i).done.map actV)
     by_cases hi:i=d
     . subst hi; rw [zah,hdn]; exact t
     . rw [zan hi]; exact t
   | _=>exact a
theorem zai.zti (ok:AdOk A) (h:zai A ρ ad s kv H) {d:Nat} (hd:d < s.n) {a:Act Str} {us:List V} {v:V} (e0:H (ad (.did d))=some (.lst us)) (e:H' (ad (.did d))=some (.lst (us++[v]))) (kp:zct H (ad (.did d)) H') (t:TupAt H' v (actV a)) :
   zai A ρ ad { s with deed:=up s.deed d { s.deed d with done:=(s.deed d).done++[a] } } kv H'/\Frame ρ H ρ H':=by
 obtain ⟨us',e1,tu⟩:=h.did hd
 rw [e0] at e1; cases e1
 refine h.put' ok (r:=.did d) hd e kp ⟨_,rfl,?_⟩ (λ r' _ l=>zdj (s:=s) rfl rfl l) λ r' o' hr l b=>?_
 . show zau H' _ ((up s.deed d _ d).done.map actV)
   rw [zah]
   show zau H' _ (((s.deed d).done++[a]).map actV)
   rw [List.map_append]
   exact S6.zco (zau.mono (Imm.zgf ok h (r:=.did d) hd kp) tu) t
 . cases r' with
   | rcd i =>
    obtain ⟨dx',w',e',t'⟩:=b
    refine ⟨dx',w',?_,?_⟩
    . show _=HO.ins A.zaB dx' (recF (up s.deed d _ i).st _ w')
      by_cases hi:i=d
      . subst hi; rw [zah]; exact e'
      . rw [zan hi]; exact e'
    . show zcs A H' w' (wantOf (up s.deed d _ i))
      by_cases hi:i=d
      . subst hi; rw [zah]; exact t'
      . rw [zan hi]; exact t'
   | did i =>
    have hi:i≠d:=λ z=>hr (by rw [z])
    obtain ⟨us',e',t'⟩:=b
    refine ⟨us',e',?_⟩
    show zau H' us' ((up s.deed d _ i).done.map actV)
    rw [zan hi]; exact t'
   | _=>exact b
theorem zai.zrC (ok:AdOk A) (h:zai A ρ ad s kv H) {k:Str} (hk:k∈s.seen) {hs:List (Nat×Bool)} (e:H' (ad (.held k))=some (.dK (zaG hs))) (kp:zct H (ad (.held k)) H') :
   zai A ρ ad { s with held:=up s.held k hs } kv H'/\Frame ρ H ρ H':=by
 refine h.put' ok (r:=.held k) hk e kp ?_ (λ r' _ l=>zdj (s:=s) rfl rfl l) λ r' o' hr l b=>?_
 . show _=HO.dK (zaG (up s.held k hs k))
   rw [zah]
 . cases r' with
   | held j =>
    have hj:j≠k:=λ z=>hr (by rw [z])
    show o'=HO.dK (zaG (up s.held k hs j))
    rw [zan hj]; exact b
   | _=>exact b
theorem zai.zqS (ok:AdOk A) (h:zai A ρ ad s kv H) {k:Str} (hk:k∈s.seen) {r:List (Nat×Bool)} {us:List V} (e:H' (ad (.row k))=some (.lst us)) (kp:zct H (ad (.row k)) H') (t:zau H' us (r.map zb2)) :
   zai A ρ ad { s with rows:=up s.rows k r } kv H'/\Frame ρ H ρ H':=by
 refine h.put' ok (r:=.row k) hk e kp ?_ (λ r' _ l=>zdj (s:=s) rfl rfl l) λ r' o' hr l b=>?_
 . refine ⟨us,rfl,?_⟩
   show zau H' us ((up s.rows k r k).map zb2)
   rw [zah]; exact t
 . cases r' with
   | row j =>
    have hj:j≠k:=λ z=>hr (by rw [z])
    obtain ⟨us',e',t'⟩:=b
    refine ⟨us',e',?_⟩
    show zau H' us' ((up s.rows k r j).map zb2)
    rw [zan hj]; exact t'
   | _=>exact b
theorem zai.leave (ok:AdOk A) (h:zai A ρ ad s kv H) {k:Str} {d:Nat} (hk:k∈s.seen) {dx p':Addr} {us:List V} (n:H p'=none) (e1:H' (ad (.desk k))=some (.ins A.zb9 dx (ziu (ad (.held k)) p'))) (e2:H' (ad (.held k))=some (.dK (zaG (less (s.held k) d)))) (e3:H' p'=some (.lst us)) (t:zau H' us ((less (s.rows k) d).map zb2))
   (kp:∀ b o,H b=some o->b≠ad (.desk k)->b≠ad (.held k)->H' b=some o):∃ ρ' ad',ad' .hall=ad .hall/\zai A ρ' ad' (zes s d k) kv H'/\Frame ρ H ρ' H':=by
 obtain ⟨dx0,d0⟩:=(h.desk hk).ob
 have d1:=(h.desk hk).hd
 have im:Imm A H H':=⟨λ p xs e=>kp p _ e (zbF e d0 λ z=>nomatch z) (zbF e d1 λ z=>nomatch z),λ p dx fs e=>kp p _ e (zbF e d0 λ z=>by injection z with z; exact ok.wd z) (zbF e d1 λ z=>nomatch z)⟩
 have adn:∀ r,live s r->ad r≠p':=λ r l z=>by
   obtain ⟨o,e,_⟩:=h.at_ r l
   rw [z,n] at e; cases e
 refine ⟨up ρ p' (.row k),up ad (.row k) p',zan (by intro z; cases z),⟨λ r l=>?_,λ r l=>?_,λ b eb=>?_⟩,λ b o eb q=>?_,im.tup⟩
 . have l0:live s r:=zdj (s:=s) rfl rfl l
   by_cases hr:r=.row k
   . subst hr
     refine ⟨.lst us,by rw [zah]; exact e3,us,rfl,?_⟩
     show zau H' us ((up s.rows k (less (s.rows k) d) k).map zb2)
     rw [zah]; exact t
   . have ea:up ad (.row k) p' r=ad r:=zan hr
     rw [ea]
     by_cases hr1:r=.desk k
     . subst hr1
       refine ⟨_,e1,dx,?_⟩
       show _=HO.ins A.zb9 dx (ziu (up ad (.row k) p' (.held k)) (up ad (.row k) p' (.row k)))
       rw [zah,zan (by intro z; cases z)]
     . by_cases hr2:r=.held k
       . subst hr2
         refine ⟨_,e2,?_⟩
         show _=HO.dK (zaG (up s.held k (less (s.held k) d) k))
         rw [zah]
       . obtain ⟨o,e,a⟩:=h.at_ r l0
         refine ⟨o,kp _ _ e (h.ne l0 hk hr1) (h.ne l0 hk hr2),?_⟩
         have a:=a.mono im
         cases r with
         | hall =>
          obtain ⟨dx',e'⟩:=a
          refine ⟨dx',?_⟩
          rw [e']
          show HO.ins A.zaZ dx' (zl8 ad)=HO.ins A.zaZ dx' (zl8 (up ad (.row k) p'))
          unfold zl8
          simp only [zan (show (Role.recs:Role)≠.row k by intro z; cases z),zan (show (Role.zbG:Role)≠.row k by intro z; cases z),zan (show (Role.zcm:Role)≠.row k by intro z; cases z),zan (show (Role.zdk:Role)≠.row k by intro z; cases z),zan (show (Role.order:Role)≠.row k by intro z; cases z),zan (show (Role.rows:Role)≠.row k by intro z; cases z)]
         | recs =>
          show o=HO.lst ((List.range s.n).map λ i=>V.ref (up ad (.row k) p' (.rcd i)))
          have:(λ i=>V.ref (up ad (.row k) p' (.rcd i)))=λ i=>V.ref (ad (.rcd i)):=funext λ i=>by rw [zan (by intro z; cases z)]
          rw [this]; exact a
         | zbG =>
          show o=HO.dK (s.seen.map λ j=>(Sum.inr j,V.ref (up ad (.row k) p' (.desk j))))
          have:(λ j:Str=>((Sum.inr j:Key),V.ref (up ad (.row k) p' (.desk j))))=λ j=>(Sum.inr j,V.ref (ad (.desk j))):=funext λ j=>by rw [zan (by intro z; cases z)]
          rw [this]; exact a
         | rcd i =>
          obtain ⟨dx',w',e',t'⟩:=a
          refine ⟨dx',w',?_,t'⟩
          rw [e',zan (show (Role.did i:Role)≠.row k by intro z; cases z)]
          rfl
         | desk j =>
          have hj:j≠k:=λ z=>hr1 (by rw [z])
          obtain ⟨dx',e'⟩:=a
          refine ⟨dx',?_⟩
          rw [e',zan (show (Role.held j:Role)≠.row k by intro z; cases z),zan (show (Role.row j:Role)≠.row k by intro z; injection z with z; exact hj z)]
         | held j =>
          have hj:j≠k:=λ z=>hr2 (by rw [z])
          show o=HO.dK (zaG (up s.held k _ j))
          rw [zan hj]; exact a
         | row j =>
          have hj:j≠k:=λ z=>hr (by rw [z])
          obtain ⟨us',e',t'⟩:=a
          refine ⟨us',e',?_⟩
          show zau H' us' ((up s.rows k _ j).map zb2)
          rw [zan hj]; exact t'
         | _=>exact a
 . have l0:live s r:=zdj (s:=s) rfl rfl l
   by_cases hr:r=.row k
   . subst hr; rw [zah,zah]
   . rw [zan hr,zan (adn r l0)]; exact h.ro r l0
 . have hb:b≠p':=λ z=>by rw [z,e3] at eb; cases eb
   rw [zan hb]
   refine h.fr b ?_
   cases q:H b with
   | none=>rfl
   | some u =>
     by_cases z:b=ad (.desk k)
     . rw [z,e1] at eb; cases eb
     . by_cases z2:b=ad (.held k)
       . rw [z2,e2] at eb; cases eb
       . rw [kp b u q z z2] at eb; cases eb
 . have hb:b≠p':=zaf eb n
   refine ⟨kp b o eb (λ z=>?_) λ z=>?_,by rw [zan hb]; exact q⟩
   . rw [z,h.ro (.desk k) hk] at q; cases q
   . rw [z,h.ro (.held k) hk] at q; cases q
end
end TP
end
section
namespace TP
open PySem L2 TH
section
variable {A:Ad} {ρ:Addr->Role} {ad:Role->Addr} {s s':HS Str} {kv kv':Book Str} {H H':Hp}
theorem zai.more (ok:AdOk A) (h:zai A ρ ad s kv H) (r0:Role) (l0:live s r0) (N:Role->Prop) (ρ':Addr->Role) (ad':Role->Addr) (kp:zct H (ad r0) H') (e0:∃ o,H' (ad r0)=some o)
   (lv:∀ r,live s' r->N r\/live s r) (same:∀ r,¬ N r->ad' r=ad r) (nr0:¬ N r0)
   (new:∀ r,live s' r->N r->H (ad' r)=none/\ρ' (ad' r)=r/\∃ o,H' (ad' r)=some o/\At A ad' s' kv' H' r o) (chg:∀ o,H' (ad r0)=some o->At A ad' s' kv' H' r0 o)
   (oth:∀ r o,r≠r0->¬ N r->live s' r->At A ad s kv H' r o->At A ad' s' kv' H' r o) (hρ:∀ b,(∃ o,H b=some o)->ρ' b=ρ b) (hρ2:∀ b,H' b=none->ρ' b=.other):zai A ρ' ad' s' kv' H'/\Frame ρ H ρ' H':=by
 have im:=Imm.zgf ok h l0 kp
 refine ⟨⟨λ r l=>?_,λ r l=>?_,hρ2⟩,λ b u eb q=>?_,im.tup⟩
 . by_cases hn:N r
   . obtain ⟨_,_,o,e,a⟩:=new r l hn; exact ⟨o,e,a⟩
   . rw [same r hn]
     have ls:=(lv r l).resolve_left hn
     by_cases hr:r=r0
     . subst hr
       obtain ⟨o,e⟩:=e0
       exact ⟨o,e,chg o e⟩
     . obtain ⟨o',e',a'⟩:=h.at_ r ls
       exact ⟨o',kp _ _ e' (h.ne ls l0 hr),oth r o' hr hn l (a'.mono im)⟩
 . by_cases hn:N r
   . exact (new r l hn).2.1
   . rw [same r hn]
     have ls:=(lv r l).resolve_left hn
     obtain ⟨o',e',_⟩:=h.at_ r ls
     rw [hρ _ ⟨o',e'⟩]; exact h.ro r ls
 . have hb:b≠ad r0:=λ z=>by rw [z,h.ro r0 l0] at q; exact zpf l0 q
   exact ⟨kp b u eb hb,by rw [hρ b ⟨u,eb⟩]; exact q⟩
theorem zai.addRec (ok:AdOk A) (h:zai A ρ ad s kv H) {p d dx:Addr} (np:H p=none) (nd:H d=none) (e0:H' (ad .recs)=some (.lst (((List.range s.n).map λ i=>V.ref (ad (.rcd i)))++[.ref p]))) (e1:H' p=some (.ins A.zaB dx (recF .zar d .non))) (e2:H' d=some (.lst [])) (kp:zct H (ad .recs) H') :
   ∃ ρ' ad',ad' .hall=ad .hall/\zai A ρ' ad' { s with n:=s.n+1,deed:=up s.deed s.n ⟨.zar,[],none⟩ } kv H'/\Frame ρ H ρ' H':=by
 have hpd:p≠d:=zbF e1 e2 λ z=>nomatch z
 have a1:∀ r,r≠.rcd s.n->r≠.did s.n->up (up ad (.rcd s.n) p) (.did s.n) d r=ad r:=λ r h1 h2=>by rw [zan h2,zan h1]
 have ar:up (up ad (.rcd s.n) p) (.did s.n) d (.rcd s.n)=p:=by rw [zan (by intro z; cases z),zah]
 have adn:up (up ad (.rcd s.n) p) (.did s.n) d (.did s.n)=d:=zah
 have st:∀ (x:Addr),H x=none->x≠p->x≠d->up (up ρ p (.rcd s.n)) d (.did s.n) x=ρ x:=λ x _ h1 h2=>by rw [zan h2,zan h1]
 refine ⟨up (up ρ p (.rcd s.n)) d (.did s.n),up (up ad (.rcd s.n) p) (.did s.n) d,a1 _ (by intro z; cases z) (by intro z; cases z),?_⟩
 refine h.more ok .recs trivial (λ r=>r=.rcd s.n\/r=.did s.n) _ _ kp ⟨_,e0⟩ (λ r l=>?_) (λ r hn=>a1 r (λ z=>hn (.inl z)) λ z=>hn (.inr z)) (by rintro (z | z) <;> cases z) (λ r l hn=>?_) (λ o e=>?_) (λ r o hr hn l a=>?_) (λ b ⟨o,eb⟩=>?_) λ b eb=>?_
 . cases r with
   | rcd i =>
     have hi:i < s.n+1:=l
     rcases Nat.lt_or_ge i s.n with z | z
     . exact .inr z
     . exact .inl (.inl (by rw [show i=s.n by omega]))
   | did i =>
     have hi:i < s.n+1:=l
     rcases Nat.lt_or_ge i s.n with z | z
     . exact .inr z
     . exact .inl (.inr (by rw [show i=s.n by omega]))
   | _=>exact .inr l
 . rcases hn with z | z
   . subst z
     rw [ar]
     refine ⟨np,by rw [zan hpd,zah],_,e1,dx,.non,?_,?_⟩
     . show _=HO.ins A.zaB dx (recF (up s.deed s.n _ s.n).st (up (up ad (.rcd s.n) p) (.did s.n) d (.did s.n)) .non)
       rw [zah,zah]
     . show zcs A H' .non (wantOf (up s.deed s.n ⟨.zar,[],none⟩ s.n))
       rw [zah]; rfl
   . subst z
     rw [adn]
     refine ⟨nd,zah,_,e2,[],rfl,?_⟩
     show zau H' [] ((up s.deed s.n _ s.n).done.map actV)
     rw [zah]; exact .nil
 . rw [e0] at e
   have e:=Option.some.inj e
   show o=HO.lst ((List.range (s.n+1)).map λ i=>V.ref (up (up ad (.rcd s.n) p) (.did s.n) d (.rcd i)))
   rw [<-e,List.range_succ,List.map_append,List.map_cons,List.map_nil,ar]
   congr 2
   refine List.map_congr_left λ i hi=>?_
   have:i≠s.n:=Nat.ne_of_lt (List.mem_range.mp hi)
   rw [a1 _ (by intro z; injection z with z; exact this z) (by intro z; cases z)]
 . cases r with
   | rcd i =>
     have hi:i≠s.n:=λ z=>hn (.inl (by rw [z]))
     obtain ⟨dx',w',e',t'⟩:=a
     refine ⟨dx',w',?_,?_⟩
     . show _=HO.ins A.zaB dx' (recF (up s.deed s.n _ i).st (up (up ad (.rcd s.n) p) (.did s.n) d (.did i)) w')
       rw [zan hi,a1 _ (by intro z; cases z) (by intro z; injection z with z; exact hi z)]; exact e'
     . show zcs A H' w' (wantOf (up s.deed s.n _ i))
       rw [zan hi]; exact t'
   | did i =>
     have hi:i≠s.n:=λ z=>hn (.inr (by rw [z]))
     obtain ⟨us,e',t'⟩:=a
     refine ⟨us,e',?_⟩
     show zau H' us ((up s.deed s.n _ i).done.map actV)
     rw [zan hi]; exact t'
   | hall =>
     obtain ⟨dx',e'⟩:=a
     refine ⟨dx',?_⟩
     rw [e']
     unfold zl8
     simp only [a1 .recs (by intro z; cases z) (by intro z; cases z),a1 .zbG (by intro z; cases z) (by intro z; cases z),a1 .zcm (by intro z; cases z) (by intro z; cases z),a1 .zdk (by intro z; cases z) (by intro z; cases z),a1 .order (by intro z; cases z) (by intro z; cases z),a1 .rows (by intro z; cases z) (by intro z; cases z)]
   | recs=>exact absurd rfl hr
   | zbG =>
     show o=HO.dK (s.seen.map λ j=>(Sum.inr j,V.ref (up (up ad (.rcd s.n) p) (.did s.n) d (.desk j))))
     have:(λ j:Str=>((Sum.inr j:Key),V.ref (up (up ad (.rcd s.n) p) (.did s.n) d (.desk j))))=λ j=>(Sum.inr j,V.ref (ad (.desk j))):=funext λ j=>by rw [a1 _ (by intro z; cases z) (by intro z; cases z)]
     rw [this]; exact a
   | desk j =>
     obtain ⟨dx',e'⟩:=a
     refine ⟨dx',?_⟩
     rw [e',a1 (.held j) (by intro z; cases z) (by intro z; cases z),a1 (.row j) (by intro z; cases z) (by intro z; cases z)]
   | _=>exact a
 . rw [zan (zaf eb nd),zan (zaf eb np)]
 . have h1:b≠p:=λ z=>by rw [z,e1] at eb; cases eb
   have h2:b≠d:=λ z=>by rw [z,e2] at eb; cases eb
   rw [zan h2,zan h1]
   refine h.fr b ?_
   cases q:H b with
   | none=>rfl
   | some u =>
     by_cases z:b=ad .recs
     . rw [z,e0] at eb; cases eb
     . rw [kp b u q z] at eb; cases eb
theorem zai.zsc (ok:AdOk A) (h:zai A ρ ad s kv H) {k:Str} (hk:k∉s.seen) (h1:s.held k=[]) (h2:s.rows k=[]) {p hd rw dx:Addr} (np:H p=none) (nh:H hd=none) (nr:H rw=none)
   (e0:H' (ad .zbG)=some (.dK (zdW ad s.seen++[(Sum.inr k,.ref p)]))) (e1:H' p=some (.ins A.zb9 dx (ziu hd rw))) (e2:H' hd=some (.dK [])) (e3:H' rw=some (.lst [])) (kp:zct H (ad .zbG) H') :
   ∃ ρ' ad',ad' .hall=ad .hall/\zai A ρ' ad' { s with seen:=s.seen++[k] } kv H'/\Frame ρ H ρ' H'/\ad' (.desk k)=p:=by
 have p1:p≠hd:=zbF e1 e2 λ z=>nomatch z
 have p2:p≠rw:=zbF e1 e3 λ z=>nomatch z
 have p3:hd≠rw:=zbF e2 e3 λ z=>nomatch z
 generalize hA:(up (up (up ad (.desk k) p) (.held k) hd) (.row k) rw)=ad'
 have a1:∀ r,r≠.desk k->r≠.held k->r≠.row k->ad' r=ad r:=λ r q1 q2 q3=>by rw [<-hA,zan q3,zan q2,zan q1]
 have ad1:ad' (.desk k)=p:=by rw [<-hA,zan (by intro z; cases z),zan (by intro z; cases z),zah]
 have ad2:ad' (.held k)=hd:=by rw [<-hA,zan (by intro z; cases z),zah]
 have ad3:ad' (.row k)=rw:=by rw [<-hA,zah]
 generalize hR:(up (up (up ρ p (.desk k)) hd (.held k)) rw (.row k))=ρ'
 have r1:∀ b,b≠p->b≠hd->b≠rw->ρ' b=ρ b:=λ b q1 q2 q3=>by rw [<-hR,zan q3,zan q2,zan q1]
 refine ⟨ρ',ad',a1 _ (by intro z; cases z) (by intro z; cases z) (by intro z; cases z),?_⟩
 have main:=h.more (s':={ s with seen:=s.seen++[k] }) (kv':=kv) ok .zbG trivial (λ r=>r=.desk k\/r=.held k\/r=.row k) ρ' ad' kp ⟨_,e0⟩ (λ r l=>?_) (λ r hn=>a1 r (λ z=>hn (.inl z)) (λ z=>hn (.inr (.inl z))) λ z=>hn (.inr (.inr z))) (by rintro (z | z | z) <;> cases z) (λ r l hn=>?_) (λ o e=>?_) (λ r o hr hn l a=>?_) (λ b ⟨o,eb⟩=>?_) λ b eb=>?_
 . exact ⟨main.1,main.2,ad1⟩
 . have mm:∀ j,j∈s.seen++[k]->j=k\/j∈s.seen:=λ j hj=>by
     rcases List.mem_append.mp hj with z | z
     . exact .inr z
     . exact .inl (List.mem_singleton.mp z)
   cases r with
   | desk j=>exact (mm j l).elim (λ z=>.inl (.inl (by rw [z]))) .inr
   | held j=>exact (mm j l).elim (λ z=>.inl (.inr (.inl (by rw [z])))) .inr
   | row j=>exact (mm j l).elim (λ z=>.inl (.inr (.inr (by rw [z])))) .inr
   | _=>exact .inr l
 . rcases hn with z | z | z
   . subst z
     rw [ad1]
     refine ⟨np,by rw [<-hR,zan p2,zan p1,zah],_,e1,dx,?_⟩
     rw [ad2,ad3]
   . subst z
     rw [ad2]
     refine ⟨nh,by rw [<-hR,zan p3,zah],_,e2,?_⟩
     show _=HO.dK (zaG (s.held k))
     rw [h1]; rfl
   . subst z
     rw [ad3]
     refine ⟨nr,by rw [<-hR,zah],_,e3,[],rfl,?_⟩
     show zau H' [] ((s.rows k).map zb2)
     rw [h2]; exact .nil
 . rw [e0] at e
   have e:=Option.some.inj e
   show o=HO.dK ((s.seen++[k]).map λ j=>(Sum.inr j,V.ref (ad' (.desk j))))
   rw [<-e,List.map_append,List.map_cons,List.map_nil,ad1]
   unfold zdW
   congr 2
   refine List.map_congr_left λ j hj=>?_
   have:j≠k:=λ z=>hk (z ▸ hj)
   rw [a1 _ (by intro z; injection z with z; exact this z) (by intro z; cases z) (by intro z; cases z)]
 . cases r with
   | rcd i =>
     obtain ⟨dx',w',e',t'⟩:=a
     refine ⟨dx',w',?_,t'⟩
     rw [e',a1 (.did i) (by intro z; cases z) (by intro z; cases z) (by intro z; cases z)]
   | hall =>
     obtain ⟨dx',e'⟩:=a
     refine ⟨dx',?_⟩
     rw [e']
     unfold zl8
     simp only [a1 .recs (by intro z; cases z) (by intro z; cases z) (by intro z; cases z),a1 .zbG (by intro z; cases z) (by intro z; cases z) (by intro z; cases z),a1 .zcm (by intro z; cases z) (by intro z; cases z) (by intro z; cases z),a1 .zdk (by intro z; cases z) (by intro z; cases z) (by intro z; cases z),a1 .order (by intro z; cases z) (by intro z; cases z) (by intro z; cases z),a1 .rows (by intro z; cases z) (by intro z; cases z) (by intro z; cases z)]
   | recs =>
     show o=HO.lst ((List.range s.n).map λ i=>V.ref (ad' (.rcd i)))
     have:(λ i=>V.ref (ad' (.rcd i)))=λ i=>V.ref (ad (.rcd i)):=funext λ i=>by rw [a1 _ (by intro z; cases z) (by intro z; cases z) (by intro z; cases z)]
     rw [this]; exact a
   | zbG=>exact absurd rfl hr
   | desk j =>
     have hj:j≠k:=λ z=>hn (.inl (by rw [z]))
     obtain ⟨dx',e'⟩:=a
     refine ⟨dx',?_⟩
     rw [e',a1 (.held j) (by intro z; cases z) (by intro z; injection z with z; exact hj z) (by intro z; cases z),a1 (.row j) (by intro z; cases z) (by intro z; cases z) (by intro z; injection z with z; exact hj z)]
   | _=>exact a
 . exact r1 b (zaf eb np) (zaf eb nh) (zaf eb nr)
 . have q1:b≠p:=λ z=>by rw [z,e1] at eb; cases eb
   have q2:b≠hd:=λ z=>by rw [z,e2] at eb; cases eb
   have q3:b≠rw:=λ z=>by rw [z,e3] at eb; cases eb
   rw [r1 b q1 q2 q3]
   refine h.fr b ?_
   cases q:H b with
   | none=>rfl
   | some u =>
     by_cases z:b=ad .zbG
     . rw [z,e0] at eb; cases eb
     . rw [kp b u q z] at eb; cases eb
theorem zai.fresh {a dx p1 p2 p3 p4 p5 p6:Addr} (na:H a=none) (n1:H p1=none) (n2:H p2=none) (n3:H p3=none) (n4:H p4=none) (n5:H p5=none) (n6:H p6=none)
   (e:H' a=some (.ins A.zaZ dx [("records",.ref p1),("desks",.ref p2),("standing",.ref p3),("kept_values",.ref p4),("kept_deeds",.ref p5),("rows",.ref p6)]))
   (e1:H' p1=some (.lst [])) (e2:H' p2=some (.dK [])) (e3:H' p3=some (.dK [])) (e4:H' p4=some (.dK [])) (e5:H' p5=some (.lst [])) (e6:H' p6=some (.lst [])) (d1:p1≠p5) (d2:p1≠p6) (d3:p5≠p6) (d4:p2≠p3) (d5:p2≠p4) (d6:p3≠p4) (kp:Same H H') :
   ∃ ρ ad,ad .hall=a/\zai A ρ ad TH.empty (λ _=>none) H'/\∀ b o,H b=some o->ρ b=.other:=by
 let ad:Role->Addr:=λ r=>match r with
   | .hall=>a | .recs=>p1 | .zbG=>p2 | .zcm=>p3 | .zdk=>p4 | .order=>p5 | .rows=>p6 | _=>a
 let ρ:Addr->Role:=λ b=>if b=a then .hall else if b=p1 then .recs else if b=p2 then .zbG else if b=p3 then .zcm else if b=p4 then .zdk else if b=p5 then .order else if b=p6 then .rows else .other
 have k1:a≠p1:=zbF e e1 λ z=>nomatch z
 have k2:a≠p2:=zbF e e2 λ z=>nomatch z
 have k3:a≠p3:=zbF e e3 λ z=>nomatch z
 have k4:a≠p4:=zbF e e4 λ z=>nomatch z
 have k5:a≠p5:=zbF e e5 λ z=>nomatch z
 have k6:a≠p6:=zbF e e6 λ z=>nomatch z
 have l12:p1≠p2:=zbF e1 e2 λ z=>nomatch z
 have l13:p1≠p3:=zbF e1 e3 λ z=>nomatch z
 have l14:p1≠p4:=zbF e1 e4 λ z=>nomatch z
 have l52:p5≠p2:=zbF e5 e2 λ z=>nomatch z
 have l53:p5≠p3:=zbF e5 e3 λ z=>nomatch z
 have l54:p5≠p4:=zbF e5 e4 λ z=>nomatch z
 have l62:p6≠p2:=zbF e6 e2 λ z=>nomatch z
 have l63:p6≠p3:=zbF e6 e3 λ z=>nomatch z
 have l64:p6≠p4:=zbF e6 e4 λ z=>nomatch z
 have bk:zbo [] (λ _=>none:Book Str):=⟨List.nodup_nil,λ k v=>⟨(λ z=>nomatch z),(λ z=>nomatch z)⟩⟩
 have oth:∀ b,b≠a->b≠p1->b≠p2->b≠p3->b≠p4->b≠p5->b≠p6->ρ b=.other:=λ b q q1 q2 q3 q4 q5 q6=>by
   show (if b=a then Role.hall else _)=_
   rw [if_neg q,if_neg q1,if_neg q2,if_neg q3,if_neg q4,if_neg q5,if_neg q6]
 refine ⟨ρ,ad,rfl,⟨λ r l=>?_,λ r l=>?_,λ b eb=>?_⟩,λ b o eb=>?_⟩
 . cases r with
   | hall=>exact ⟨_,e,dx,rfl⟩
   | recs=>exact ⟨_,e1,rfl⟩
   | zbG=>exact ⟨_,e2,rfl⟩
   | zcm=>exact ⟨_,e3,[],rfl,bk⟩
   | zdk=>exact ⟨_,e4,[],rfl,bk⟩
   | order=>exact ⟨_,e5,rfl⟩
   | rows=>exact ⟨_,e6,[],rfl,.nil⟩
   | other=>exact l.elim
   | rcd i=>exact absurd l (Nat.not_lt_zero _)
   | did i=>exact absurd l (Nat.not_lt_zero _)
   | desk k=>exact absurd l (List.not_mem_nil)
   | held k=>exact absurd l (List.not_mem_nil)
   | row k=>exact absurd l (List.not_mem_nil)
 . cases r with
   | hall=>exact if_pos rfl
   | recs=>show (if p1=a then _ else _)=_; rw [if_neg k1.symm,if_pos rfl]
   | zbG=>show (if p2=a then _ else _)=_; rw [if_neg k2.symm,if_neg l12.symm,if_pos rfl]
   | zcm=>show (if p3=a then _ else _)=_; rw [if_neg k3.symm,if_neg l13.symm,if_neg d4.symm,if_pos rfl]
   | zdk=>show (if p4=a then _ else _)=_; rw [if_neg k4.symm,if_neg l14.symm,if_neg d5.symm,if_neg d6.symm,if_pos rfl]
   | order=>show (if p5=a then _ else _)=_; rw [if_neg k5.symm,if_neg d1.symm,if_neg l52,if_neg l53,if_neg l54,if_pos rfl]
   | rows=>show (if p6=a then _ else _)=_; rw [if_neg k6.symm,if_neg d2.symm,if_neg l62,if_neg l63,if_neg l64,if_neg d3.symm,if_pos rfl]
   | other=>exact l.elim
   | rcd i=>exact absurd l (Nat.not_lt_zero _)
   | did i=>exact absurd l (Nat.not_lt_zero _)
   | desk k=>exact absurd l (List.not_mem_nil)
   | held k=>exact absurd l (List.not_mem_nil)
   | row k=>exact absurd l (List.not_mem_nil)
 . exact oth b (λ z=>by rw [z,e] at eb; cases eb) (λ z=>by rw [z,e1] at eb; cases eb) (λ z=>by rw [z,e2] at eb; cases eb) (λ z=>by rw [z,e3] at eb; cases eb) (λ z=>by rw [z,e4] at eb; cases eb) (λ z=>by rw [z,e5] at eb; cases eb) (λ z=>by rw [z,e6] at eb; cases eb)
 . exact oth b (zaf eb na) (zaf eb n1) (zaf eb n2) (zaf eb n3) (zaf eb n4) (zaf eb n5) (zaf eb n6)
end
end TP
end
section
namespace TP
open PySem L2 TH
structure Sm (s:HS Str):Prop where
 n:s.n<=63
 seen:s.seen.length<=4
 snd:s.seen.Nodup
 dn:∀ d,(s.deed d).done.length<=2000
 lg:s.log.length<=3000
 kp:s.kept.length<=1000
 hl:∀ k,(s.held k).length<=1000
 hn:∀ k,((s.held k).map (·.1)).Nodup
 rl:∀ k,(s.rows k).length<=1000
 bs:∀ k,s.book k≠none->k∈s.seen
theorem zcF:∀ (n:Nat) (l:List Nat),l.Nodup->(∀ x∈l,x < n)->l.length<=n:=λ n l nd h=>by
 have:∀ (a b:List Nat),a.Nodup->(∀ x∈a,x∈b)->a.length<=b.length:=λ a=>by
  induction a with
  | nil=>intro b _ _; simp
  | cons x r ih =>
   intro b nd hs
   obtain ⟨n1,n2⟩:=List.nodup_cons.mp nd
   have hx:=hs x List.mem_cons_self
   have:=ih (b.erase x) n2 λ z hz=>(List.mem_erase_of_ne (show z≠x from λ e=>n1 (e ▸ hz))).mpr (hs z (List.mem_cons_of_mem _ hz))
   rw [List.length_erase_of_mem hx] at this
   have hpos:0 < b.length:=List.length_pos_of_mem hx
   simp only [List.length_cons]; omega
 have:=this l (List.range n) nd λ x hx=>List.mem_range.mpr (h x hx)
 rwa [List.length_range] at this
structure Lim (s:HS Str) (T:Nat):Prop where
 e:Ext s T
 t:T<=1000
 n:s.n<=63
 sn:s.seen.length<=4
theorem Lim.sm {s:HS Str} {T:Nat} {x:Option Nat} (L:Lim s T) (c:Core s x):Sm s where
 n:=L.n
 seen:=L.sn
 snd:=L.e.snd
 dn:=λ d=>by have:=L.e.dn d; have:=L.t; omega
 lg:=by have:=L.e.lg; have:=L.t; omega
 kp:=Nat.le_trans (zcF s.n s.kept c.zhO λ d hd=>by
  by_cases z:d < s.n
  . exact z
  . have h1:=(c.out d (by omega)).1
    rw [(c.zdu d).mp hd] at h1; cases h1) (by have:=L.n; omega)
 hl:=λ k=>by
  have:=zcF s.n ((s.held k).map (·.1)) (c.hNd k) λ d hd=>by
    obtain ⟨p,hp,rfl⟩:=List.mem_map.mp hd
    exact c.lt (c.hAct k p hp)
  rw [List.length_map] at this
  have:=L.n; omega
 hn:=c.hNd
 rl:=λ k=>by
  have:=zcF s.n ((s.rows k).map (·.1)) (c.rNd k) λ d hd=>by
    obtain ⟨p,hp,rfl⟩:=List.mem_map.mp hd
    exact c.lt (.inr (c.rAct k p hp).1)
  rw [List.length_map] at this
  have:=L.n; omega
 bs:=L.e.zh3
def znD (A:Ad):Sp:=λ vs H Q _=>∃ (p dx:Addr),vs=[.ref p]/\H p=some (.ins A.zaZ dx []) /\
 ∀ H' ρ ad,ad .hall=p->zai A ρ ad TH.empty (λ _=>none) H'->(∀ b o,H b=some o->b≠p->H' b=some o/\ρ b=.other)->Q .non H'
def zrx (A:Ad):Sp:=λ vs H Q _=>∃ ρ ad s kv,vs=[.ref (ad Role.hall)]/\zai A ρ ad s kv H/\Sm s/\s.n < 63 /\
 ∀ H' ρ' ad',ad' Role.hall=ad .hall->zai A ρ' ad' (za4 s) kv H'->Frame ρ H ρ' H'->Q (.int s.n) H'
def Out (A:Ad) (s:HS Str) (i:Int) (H:Hp) (E:XK):Prop:=(i < 0\/(s.n:Int)<=i)/\E (.ref A.zh2) none H
def znz (A:Ad):Sp:=λ vs H Q E=>∃ ρ ad s kv i,vs=[.ref (ad Role.hall),.int i]/\zai A ρ ad s kv H/\s.n<=1000 /\
 ((∃ d:Nat,i=d/\d < s.n/\Q (.ref (ad (.rcd d))) H)\/Out A s i H E)
def zp4 (A:Ad):Sp:=λ vs H Q E=>∃ ρ ad s kv i,vs=[.ref (ad Role.hall),.int i]/\zai A ρ ad s kv H/\s.n<=1000 /\
 ((∃ d:Nat,i=d/\d < s.n/\((s.deed d).st=.zar/\Q .non H\/(s.deed d).st≠.zar/\E (.ref A.zcZ) none H))\/Out A s i H E)
def zrw (A:Ad):Sp:=λ vs H Q _=>∃ ρ ad s kv d wv a,vs=[.ref (ad Role.hall),.int (d:Nat),wv]/\zai A ρ ad s kv H/\Sm s/\d < s.n/\a.key∈s.seen/\zcs A H wv (some a) /\
 ∀ H',zai A ρ ad (doIt (zkd s d a.key a.wr) d a) kv H'->Frame ρ H ρ H'->Q .non H'
end TP
namespace TP
open PySem L2 TH
theorem two {G:Hp} {p q:Addr} {x o o':HO} (gp:G p=some x) (nq:G q=none) :
  upd (upd G q o) p o' p=some o'/\upd (upd G q o) p o' q=some o/\(∀ b u,b≠p->G b=some u->upd (upd G q o) p o' b=some u)/\∀ b,upd (upd G q o) p o' b=none->G b=none/\b≠q/\b≠p:=by
 have hpq:p≠q:=zaf gp nq
 refine ⟨zab,by rw [zae hpq.symm,zab],λ b u hb e=>by rw [zae hb,zae (zaf e nq)]; exact e,λ b e=>?_⟩
 have h1:b≠p:=λ z=>by rw [z,zab] at e; cases e
 rw [zae h1] at e
 have h2:b≠q:=λ z=>by rw [z,zab] at e; cases e
 rw [zae h2] at e
 exact ⟨e,h2,h1⟩
end TP
namespace TP
open PySem L2 TH
theorem zsh {α β:Type} [DecidableEq α] (f:α->β) (a:α) (x y:β):up (up f a x) a y=up f a y:=by
 funext b; by_cases h:b=a
 . subst h; rw [zah,zah]
 . rw [zan h,zan h,zan h]
theorem zta {K:Type} [DecidableEq K] (t:HS K) (d:Nat) (a:Act K) (h:a.wr=true):doIt t d a={ n:=t.n,deed:=up (up t.deed d { t.deed d with st:=.zar }) d { (up t.deed d { t.deed d with st:=.zar }) d with done:=((up t.deed d { t.deed d with st:=.zar }) d).done++[a] },held:=t.held,rows:=t.rows,book:=up t.book a.key (some a.val),seen:=t.seen,log:=t.log++[.write d a.key ((t.book a.key).getD 0) a.val],kept:=t.kept }:=by
 unfold doIt; rw [if_pos h,zsh,zah]
theorem ztb {K:Type} [DecidableEq K] (t:HS K) (d:Nat) (a:Act K) (h:a.wr=false):doIt t d a={ n:=t.n,deed:=up (up t.deed d { t.deed d with st:=.zar }) d { (up t.deed d { t.deed d with st:=.zar }) d with done:=((up t.deed d { t.deed d with st:=.zar }) d).done++[⟨false,a.key,(t.book a.key).getD 0⟩] },held:=t.held,rows:=t.rows,book:=t.book,seen:=t.seen,log:=t.log,kept:=t.kept }:=by
 unfold doIt; rw [if_neg (by rw [h]; exact Bool.false_ne_true),zsh,zah]
end TP
namespace TP
open PySem L2 TH
def znA (A:Ad):Sp:=λ vs H Q _=>∃ ρ ad s kv d,vs=[.ref (ad Role.hall),.int (d:Nat)]/\zai A ρ ad s kv H/\Core s none/\Sm s/\d < s.n /\
 ∀ H' q,H q=none->Same H H'->H' q=some (.lst (zaD (nxt s d)))->Q (.ref q) H'
def zcb (l:List Nat):List (Key×V):=l.map λ (x:Nat)=>(Sum.inl (x:Int),V.bl true)
def zp8 (A:Ad):Sp:=λ vs H Q _=>∃ ρ ad s kv d,vs=[.ref (ad Role.hall),.int (d:Nat)]/\zai A ρ ad s kv H/\Core s none/\Sm s/\d < s.n /\
 ∀ H' q l,Same H H'->H' q=some (.dK (zcb l))->l.Nodup->(∀ x,x∈l↔zda s d x)->Q (.ref q) H'
def gotV:Option Nat->V
 | none=>.non
 | some g=>.int (g:Int)
def znE (A:Ad):Sp:=λ vs H Q _=>∃ ρ ad s kv d,vs=[.ref (ad Role.hall),.int (d:Nat)]/\zai A ρ ad s kv H/\Core s none/\Head s/\Thru s d/\Sm s/\d < s.n /\
 ∀ H',Same H H'->Q (gotV (rings s).getLast?) H'
theorem zqW {s:HS Str} (c:Core s none) {d e:Nat} (h:e∈nxt s d):e < s.n:=c.lt (zox c (zkQ h))
theorem zfN (l:List Nat) (x:Nat):(valV (zcb l) (Sum.inl (x:Int))).isSome=decide (x∈l):=by
 unfold zcb
 induction l with
 | nil=>rfl
 | cons y r ih =>
  rw [List.map_cons]
  by_cases e:y=x
  . rw [zeA (zcW.mpr e)]; simp [e]
  . rw [zeB λ z=>e (zcW.mp z),ih]
    simp [Ne.symm e]
theorem zpz {l:List Nat} {x:Nat} (h:x∉l):putK (zcb l) (Sum.inl (x:Int)) (V.bl true)=zcb (l++[x]):=by
 have hn:valV (zcb l) (Sum.inl (x:Int))=none:=by
  have:=zfN l x
  rw [decide_eq_false h] at this
  cases e:valV (zcb l) (Sum.inl (x:Int)) with
  | none=>rfl
  | some v=>rw [e] at this; cases this
 rw [zmW _ hn]
 unfold zcb; rw [List.map_append]; rfl
end TP
end
section
namespace TP
open PySem L2 TH
def ub (kv b:Book Str) (ks:List Str):Book Str:=λ k=>if k∈ks then kv k else b k
theorem zrj (kv b:Book Str) (ks:List Str) (k:Str):up (ub kv b ks) k (kv k)=ub kv b (ks++[k]):=by
 funext j
 by_cases h:j=k
 . subst h; rw [zah]; unfold ub; rw [if_pos (by simp)]
 . rw [zan h]; unfold ub
   by_cases hj:j∈ks
   . rw [if_pos hj,if_pos (List.mem_append_left _ hj)]
   . rw [if_neg hj,if_neg (by simp [hj,h])]
theorem zgb {k:Str}:∀ {l:List (Act Str)},k∈(zas l).map (·.1)↔(zaO l k).isSome=true
 | []=>by simp [zas,zaO]
 | a::r=>by
  have ih:=zgb (k:=k) (l:=r)
  have e:zas (a::r)=(if a.wr then [(a.key,a.val)] else [])++zas r:=by
   unfold zas; rw [List.filterMap_cons]
   by_cases h:a.wr=true
   . rw [if_pos h,if_pos h]; rfl
   . rw [if_neg h,if_neg h]; rfl
  rw [e,List.map_append,List.mem_append,ih]
  have el:zaO (a::r) k=match zaO r k with | some v=>some v | none=>if a.wr=true/\a.key=k then some a.val else none:=rfl
  rw [el]
  cases hl:zaO r k with
  | some v=>simp
  | none =>
   by_cases h:a.wr=true
   . by_cases hk:a.key=k
     . simp [h,hk]
     . simp [h,hk,Ne.symm hk]
   . simp [h]
def zoo (s:HS Str) (kv:Book Str) (d:Nat):Book Str:=λ k=>if (zaO (s.deed d).done k).isSome then kv k else s.book k
theorem zon (s:HS Str) (kv:Book Str) (d:Nat):ub kv s.book ((zas (s.deed d).done).map (·.1))=zoo s kv d:=by
 funext k
 unfold ub zoo
 by_cases h:(zaO (s.deed d).done k).isSome=true
 . rw [if_pos h,if_pos (zgb.mpr h)]
 . rw [if_neg h,if_neg λ z=>h (zgb.mp z)]
def zsu (A:Ad):Sp:=λ vs H Q _=>∃ ρ ad s kv d,vs=[.ref (ad Role.hall),.int (d:Nat)]/\zai A ρ ad s kv H/\Sm s/\d < s.n/\(∀ k,kv k≠none->k∈s.seen) /\
 ∀ H',zai A ρ ad { s with book:=zoo s kv d } kv H'->Frame ρ H ρ H'->Q .non H'
theorem Ext.zbz {K:Type} [DecidableEq K] {k:K} {f:Nat} {s:HS K} {T:Nat} (E:Ext s T) (c:Core s none):Ext (TH.zbz f s k) T:=by
 refine zev (λ t=>Ext t T) (λ s d w r a c hr hl ha E=>?_) f s c E
 have hm:(d,w)∈s.rows k:=by rw [hr]; exact List.mem_cons_self
 obtain ⟨hst,a',ha',hk',hw'⟩:=c.rAct k _ hm
 rw [ha] at ha'; cases ha'
 refine E.does (a:=zj3 s a) (d:=d) (by rw [zdV]; rfl) (by rw [zb7]; rfl) (c.lt (.inr hst)) (.inr hst) (by rw [zdx]; rfl) zjH (λ k=>zh4) (λ k' e w' h=>?_) ?_ (Nat.le_refl _) (.inl hst)
 . rw [zcq] at h
   rcases zjC h with h | ⟨h1,h2⟩
   . exact .inl h
   . exact .inr ⟨h1,by rw [zcr,hk']; exact h2⟩
 . rw [zcr,hk']; exact zcH c hm
theorem zn0 {K:Type} [DecidableEq K] {k:K} {f:Nat} {s:HS K} (c:Core s none):(TH.zbz f s k).seen=s.seen/\(TH.zbz f s k).n=s.n :=
 zev (λ t=>t.seen=s.seen/\t.n=s.n) (λ s d w r a _ _ _ _ h=>⟨by rw [zb7]; exact h.1,by rw [zdV]; exact h.2⟩) f s c ⟨rfl,rfl⟩
def zrt (A:Ad):Sp:=λ vs H Q _=>∃ ρ ad s kv k T,vs=[.ref (ad Role.hall),.str k]/\zai A ρ ad s kv H/\Core s none/\Lim s T/\k∈s.seen /\
 ∀ H',zai A ρ ad (zbz (s.rows k).length s k) kv H'->Frame ρ H ρ H'->Q .non H'
def ztA (A:Ad):Sp:=λ vs H Q _=>∃ ρ ad s s0 kv d st T,vs=[.ref (ad Role.hall),.int (d:Nat),.str (stS st)]/\zai A ρ ad s kv H/\Core s0 none/\Lim s0 T/\Head s0 /\
 s.deed=s0.deed/\s.held=s0.held/\s.rows=s0.rows/\s.seen=s0.seen/\s.n=s0.n/\Core (letGo (zfx s d st) d) none/\Lim (letGo (zfx s d st) d) T/\st≠.waiting/\d < s.n /\
 ∀ H' ρ' ad',ad' Role.hall=ad .hall->zai A ρ' ad' (free ordS (zfx s d st) d) kv H'->Frame ρ H ρ' H'->Q .non H'
theorem zgJ (s:HS Str) (d:Nat):(s.deed d).done.map (·.key)++zc3 (wantOf (s.deed d))=touched s d:=by
 unfold touched wantOf
 congr 1
 by_cases h:(s.deed d).st=.waiting
 . rw [if_pos h,h]
   cases (s.deed d).wish with
   | none=>rfl
   | some a=>rfl
 . rw [if_neg h]
   split
   . contradiction
   . rfl
theorem zi0 {K:Type} [DecidableEq K]:∀ (a b:List K) (s:HS K),zaK s (a++b)=zaK (zaK s a) b
 | [],_,_=>rfl
 | k::r,b,s=>zi0 r b (zbz (s.rows k).length s k)
def zsA (A:Ad):Sp:=λ vs H Q _=>∃ ρ ad s d T,vs=[.ref (ad Role.hall),.int (d:Nat)]/\zai A ρ ad s (zav s) H/\Core s none/\Lim s T/\Head s/\(s.deed d).act /\
 ∀ H' ρ' ad',ad' Role.hall=ad .hall->zai A ρ' ad' (drop ordS s d) (zav s) H'->Frame ρ H ρ' H'->Q .non H'
def zst (A:Ad):Sp:=λ vs H Q _=>∃ ρ ad s d a wv T,vs=[.ref (ad Role.hall),.int (d:Nat),wv]/\zai A ρ ad s (zav s) H/\a.key∈s.seen/\zcs A H wv (some a)/\d < s.n/\Sm s /\
 Core (wait s d a) none/\Head (wait s d a)/\Thru (wait s d a) d/\Lim (wait s d a) T /\
 ∀ H' ρ' ad',ad' Role.hall=ad .hall->zai A ρ' ad' (settle ordS s.n (wait s d a)) (zav s) H'->Frame ρ H ρ' H'->Q .non H'
end TP
end
section
namespace TH
section
variable {K:Type} [DecidableEq K]
theorem zgH {s:HS K} {ks:List K} (c:Core s none):zav (zaK s ks)=zav s:=by
 have:=zbL (λ t=>t.kept=s.kept/\∀ d∈s.kept,(t.deed d).done=(s.deed d).done) (λ t k d w r a ct hr hl ha h=>?_) ks s c ⟨rfl,λ _ _=>rfl⟩
 . exact zbW this.1 this.2
 . refine ⟨by rw [zew]; exact h.1,λ e he=>?_⟩
   have hne:e≠d:=λ z=>by
    have h1:=(ct.zdu e).mp (by rw [h.1]; exact he)
    have h2:=(ct.rAct k (d,w) (by rw [hr]; exact List.mem_cons_self)).1
    rw [z] at h1
    have h2:(t.deed d).st=.waiting:=h2
    rw [h1] at h2; cases h2
   rw [zcC _ _ _ hne]; exact h.2 e he
variable (ord:List K->List K)
theorem zgg {s:HS K} {d:Nat} (c:Core s none) (hd:(s.deed d).act):zav (drop ord s d)=zav s:=by
 unfold drop free
 rw [zgH (c.drops hd)]
 refine zbW rfl λ e he=>?_
 show (up s.deed d { s.deed d with st:=.dropped } e).done=_
 by_cases h:e=d
 . subst h; rw [zah]
 . rw [zan h]
theorem znU {s:HS K} {d:Nat} (c:Core s none) (hd:(s.deed d).act):zav (keep ord s d)=over (zav s) (s.deed d).done:=by
 unfold keep free
 rw [zgH (c.keeps hd)]
 show zeu (up s.deed d { s.deed d with st:=.kept }) (s.kept++[d]) _=_
 rw [zbt (deed:=s.deed) λ e he=>?_,zfK]
 . rfl
 . by_cases h:e=d
   . subst h; rw [zah]
   . rw [zan h]
theorem zl4 {s:HS K} (c:Core s none):zav (za4 s)=zav s:=by
 refine zbW rfl λ e he=>?_
 have:e≠s.n:=λ z=>by
  have h1:=(c.zdu e).mp he
  have h2:=(c.out e (by omega)).1
  rw [h1] at h2; cases h2
 show (up s.deed s.n _ e).done=_
 rw [zan this]
theorem ziV {s:HS K} {d:Nat} {a:Act K}:zav (wait s d a)=zav s:=by
 refine zbW rfl λ e he=>?_
 show (up s.deed d { s.deed d with st:=.waiting,wish:=some a } e).done=_
 by_cases h:e=d
 . subst h; rw [zah]
 . rw [zan h]
theorem zgG:∀ {f:Nat} {s:HS K},Core s none->zav (settle ord f s)=zav s
 | 0,_,_=>rfl
 | f+1,s,c=>by
  unfold settle
  split
  . rfl
  . rename_i d h
    have hd:(s.deed d).act:=by
     have:=(zbP (List.mem_of_getLast? h)).2
     exact .inr (zaQ this)
    rw [zgG (c.drop ord hd),zgg ord c hd]
variable (hord:∀ l k,k∈ord l↔k∈l)
include hord
theorem zj2 {s:HS K} {d:Nat} {a:Act K} (c:Core s none) (h:Head s) (ac:Acyc s) (hd:(s.deed d).st=.zar) (hf:((has ((see s a.key).held a.key) d || ((see s a.key).rows a.key).isEmpty) && lets ((see s a.key).held a.key) d a.wr)=false) :
   Core (wait (see s a.key) d a) none/\Head (wait (see s a.key) d a)/\Thru (wait (see s a.key) d a) d:=by
 have c1:Core (TH.see s a.key) none:=c.see
 have h':Head (TH.see s a.key):=h
 have ac':Acyc (TH.see s a.key):=ac.mono λ e x h=>h
 have h2:¬ (lets ((TH.see s a.key).held a.key) d a.wr=true/\(has ((TH.see s a.key).held a.key) d=true\/(TH.see s a.key).rows a.key=[])):=λ z=>by
   rw [z.1,Bool.and_true] at hf
   rcases z.2 with z | z
   . rw [z] at hf; cases hf
   . rw [z] at hf; simp at hf
 have hw:∀ w',(d,w')∈(TH.see s a.key).held a.key->w'=false/\a.wr=true:=λ w' z=>by
   have q:=zcB (c1.hNd _) z
   have hh:has ((TH.see s a.key).held a.key) d=true:=zjG q
   have hl:lets ((TH.see s a.key).held a.key) d a.wr=false:=by
     cases e:lets ((TH.see s a.key).held a.key) d a.wr with
     | false=>rfl
     | true=>exact absurd ⟨e,.inl hh⟩ h2
   have no:∃ p∈(TH.see s a.key).held a.key,p.1≠d/\(a.wr || p.2)=true:=by
     unfold lets at hl
     have:=List.all_eq_false.mp hl
     obtain ⟨p,hp,hq⟩:=this
     refine ⟨p,hp,?_⟩
     by_cases z:p.1=d
     . simp [z] at hq
     . refine ⟨z,?_⟩
       simp [z] at hq
       cases h1:a.wr <;> cases h2:p.2 <;> simp [h1,h2] at hq ⊢
   obtain ⟨p,hp,hne,hu⟩:=no
   cases hw':w' with
   | true=>subst hw'; exact absurd (c1.hEx a.key d z p hp) hne
   | false =>
     refine ⟨rfl,?_⟩
     cases ha:a.wr with
     | true=>rfl
     | false =>
       rw [ha] at hu
       have hp2:p.2=true:=by simpa using hu
       have hpm:(p.1,true)∈(TH.see s a.key).held a.key:=by rw [<-hp2]; exact hp
       exact absurd (c1.hEx a.key p.1 hpm _ z).symm hne
 refine ⟨c1.wait hd zcl hw,λ k e w r q=>?_,Thru.wait ac'⟩
 show lets ((TH.see s a.key).held k) e w=false
 by_cases hk:k=a.key
 . subst hk
   have q':(if has ((TH.see s a.key).held a.key) d then (d,a.wr)::(TH.see s a.key).rows a.key else (TH.see s a.key).rows a.key++[(d,a.wr)])=(e,w)::r:=by
     rw [<-q]; exact zah.symm
   cases hh:has ((TH.see s a.key).held a.key) d with
   | true =>
     rw [hh] at q'
     simp only [if_true] at q'
     injection q' with e1 e2
     have e3:d=e:=congrArg Prod.fst e1
     have e4:a.wr=w:=congrArg Prod.snd e1
     subst e3 e4
     cases hl:lets ((TH.see s a.key).held a.key) d a.wr with
     | false=>rfl
     | true=>exact absurd ⟨hl,.inl hh⟩ h2
   | false =>
     rw [hh] at q'
     simp only [Bool.false_eq_true,if_false] at q'
     cases hr:(TH.see s a.key).rows a.key with
     | nil =>
       rw [hr] at q'
       simp only [List.nil_append] at q'
       injection q' with e1 e2
       have e3:d=e:=congrArg Prod.fst e1
       have e4:a.wr=w:=congrArg Prod.snd e1
       subst e3 e4
       cases hl:lets ((TH.see s a.key).held a.key) d a.wr with
       | false=>rfl
       | true=>exact absurd ⟨hl,.inr hr⟩ h2
     | cons p t =>
       rw [hr] at q'
       simp only [List.cons_append] at q'
       injection q' with e1 e2
       subst e1
       exact h' a.key e w t hr
 . have q':(TH.see s a.key).rows k=(e,w)::r:=by rw [<-q]; exact (zan hk).symm
   exact h' k e w r q'
omit hord
def Did (d:Nat) (t:HS K):Prop:=(t.deed d).st=.zar\/(t.deed d).st=.kept->(t.deed d).done≠[]
theorem Did.doIt {t:HS K} {d e:Nat} {a:Act K} (h:Did d t):Did d (doIt t e a):=λ q=>by
 by_cases z:d=e
 . subst z; rw [zdx,zah]; simp
 . rw [zcC _ _ _ z] at q ⊢; exact h q
theorem Did.self {t:HS K} {d:Nat} {a:Act K}:Did d (TH.doIt t d a):=λ q=>by rw [zdx,zah]; simp
theorem Did.zaK {t:HS K} {d:Nat} {ks:List K} (c:Core t none) (h:Did d t):Did d (zaK t ks) :=
 zbL (Did d) (λ s k e w r a _ _ _ _ h=>Did.doIt (t:=take { s with rows:=up s.rows k r } e k w) h) ks t c h
theorem Did.drop {t:HS K} {d g:Nat} (c:Core t none) (hg:(t.deed g).act) (h:Did d t):Did d (drop ord t g):=by
 refine Did.zaK (c.drops hg) λ q=>?_
 have q':(up t.deed g { t.deed g with st:=.dropped } d).st=.zar\/(up t.deed g { t.deed g with st:=.dropped } d).st=.kept:=q
 show (up t.deed g { t.deed g with st:=.dropped } d).done≠[]
 by_cases z:d=g
 . subst z; rw [zah] at q'; rcases q' with q' | q' <;> cases q'
 . rw [zan z] at q' ⊢; exact h q'
theorem Did.settle {d:Nat}:∀ {f:Nat} {t:HS K},Core t none->Did d t->Did d (settle ord f t)
 | 0,_,_,h=>h
 | f+1,t,c,h=>by
  unfold TH.settle
  split
  . exact h
  . rename_i g hg
    have ha:(t.deed g).act:=.inr (zaQ (zbP (List.mem_of_getLast? hg)).2)
    exact Did.settle (c.drop ord ha) (h.drop ord c ha)
theorem Did.wait {s:HS K} {d:Nat} {a:Act K}:Did d (wait s d a):=λ q=>by
 have q':(up s.deed d { s.deed d with st:=.waiting,wish:=some a } d).st=.zar\/(up s.deed d { s.deed d with st:=.waiting,wish:=some a } d).st=.kept:=q
 rw [zah] at q'; rcases q' with q' | q' <;> cases q'
end
end TH
namespace TP
open PySem L2 TH
theorem Lim.letGo {s:HS Str} {T d:Nat} (L:Lim s T) {t:HS Str} (E:Ext (TH.letGo t d) T) (hn:t.n=s.n) (hs:t.seen=s.seen):Lim (TH.letGo t d) T:=⟨E,L.t,by show t.n<=63; rw [hn]; exact L.n,by show t.seen.length<=4; rw [hs]; exact L.sn⟩
theorem zhU {s:HS Str} {d:Nat} (c:Core s none) (hd:(s.deed d).act):(drop ordS s d).seen=s.seen:=zdM _ _ (c.drops hd)
theorem Lim.drop {s:HS Str} {T d:Nat} (L:Lim s T) (c:Core s none) (hd:(s.deed d).act):Lim (TH.drop ordS s d) T:=⟨L.e.drop ordS c hd,L.t,by rw [zkU ordS c hd]; exact L.n,by rw [zhU c hd]; exact L.sn⟩
theorem zk3 {s:HS Str} {d:Nat} (c:Core s none) (hd:(s.deed d).act):(keep ordS s d).seen=s.seen:=zdM _ _ (c.keeps hd)
theorem Lim.keep {s:HS Str} {T d:Nat} (L:Lim s T) (c:Core s none) (hd:(s.deed d).act):Lim (TH.keep ordS s d) T:=⟨L.e.keep ordS c hd,L.t,by rw [zqY ordS c hd]; exact L.n,by rw [zk3 c hd]; exact L.sn⟩
theorem Lim.drops {s:HS Str} {T d:Nat} (L:Lim s T) (c:Core s none) (hd:(s.deed d).act):Lim (TH.letGo (zr3 s d) d) T :=
 L.letGo (L.e.ends (t:=.dropped) (bk:=λ k=>if (zaO (s.deed d).done k).isSome then zav s k else s.book k) (kp:=s.kept) (r:=.drop d) c hd (.inr rfl) (λ k h=>by
  split at h
  . exact L.e.zqx k h
  . exact L.e.zh3 k h)) rfl rfl
theorem Lim.keeps {s:HS Str} {T d:Nat} (L:Lim s T) (c:Core s none) (hd:(s.deed d).act):Lim (TH.letGo (zrY s d) d) T :=
 L.letGo (L.e.ends (t:=.kept) (bk:=s.book) (kp:=s.kept++[d]) (r:=.keep d) c hd (.inl rfl) L.e.zh3) rfl rfl
def zl3 (D:Deed Str):Int:=(D.done.getLast?.map (·.val)).getD 0
def ansV (D:Deed Str) (wr:Bool):List V:=match D.st with
 | .dropped=>[.str "given up"]
 | .waiting=>[.str "waits"]
 | _=>if wr then [.str "done"] else [.str "value",.int (zl3 D)]
def zp9 (A:Ad):Sp:=λ vs H Q _=>∃ ρ ad s kv d a wv,vs=[.ref (ad Role.hall),.int (d:Nat),wv]/\zai A ρ ad s kv H/\zcs A H wv (some a)/\d < s.n/\Did d s /\
 ∀ H' q,H q=none->Same H H'->H' q=some (.tup (ansV (s.deed d) a.wr))->Q (.ref q) H'
structure Ready (s:HS Str) (T:Nat):Prop where
 c:Core s none
 h:Head s
 a:Acyc s
 L:Lim s T
theorem Sm.see {s:HS Str} {T:Nat} (R:Ready s T) {k:Str} (h:(TH.see s k).seen.length<=4) (t:T+1<=1000):Sm (TH.see s k):=Lim.sm (T:=T+1) (x:=none) ⟨R.L.e.see,t,R.L.n,h⟩ R.c.see
theorem Lim.wish {s:HS Str} {T d:Nat} {a:Act Str} (R:Ready s T) (hd:(s.deed d).st=.zar) (h:(TH.see s a.key).seen.length<=4) (t:T+1<=1000) (hn:(TH.wish ordS s d a).n=s.n) (hs:(TH.wish ordS s d a).seen=(TH.see s a.key).seen):Lim (TH.wish ordS s d a) (T+1) :=
 ⟨R.L.e.wish ordS R.c hd,t,by rw [hn]; exact R.L.n,by rw [hs]; exact h⟩
theorem Lim.wait {s:HS Str} {T d:Nat} {a:Act Str} (R:Ready s T) (hd:(s.deed d).st=.zar) (h:(TH.see s a.key).seen.length<=4) (t:T+1<=1000):Lim (TH.wait (TH.see s a.key) d a) (T+1) :=
 ⟨Ext.wait (s:=TH.see s a.key) R.L.e.see hd (λ e=>by have:=R.L.e.dn e; exact Nat.succ_le_succ this) (by have:=R.L.e.lg; show s.log.length+zdA s+actN s+2<=_; omega),t,R.L.n,h⟩
theorem zhd:∀ {f:Nat} {s:HS Str},Core s none->(settle ordS f s).seen=s.seen/\(settle ordS f s).n=s.n
 | 0,_,_=>⟨rfl,rfl⟩
 | f+1,s,c=>by
  unfold TH.settle
  split
  . exact ⟨rfl,rfl⟩
  . rename_i d h
    have hd:(s.deed d).act:=.inr (zaQ (zbP (List.mem_of_getLast? h)).2)
    obtain ⟨h1,h2⟩:=zhd (f:=f) (c.drop ordS hd)
    exact ⟨by rw [h1,zhU c hd],by rw [h2,zkU ordS c hd]⟩
theorem zcL {s:HS Str} {T d:Nat} {a:Act Str} (R:Ready s T) (hd:(s.deed d).st=.zar):(wish ordS s d a).n=s.n/\(wish ordS s d a).seen=(see s a.key).seen/\zav (wish ordS s d a)=zav s/\Did d (wish ordS s d a):=by
 rw [zg7 ordS R.c]
 split
 . refine ⟨by rw [zdV]; rfl,by rw [zb7]; rfl,zbW (zew _ _ _) λ e he=>?_,Did.self⟩
   have hne:e≠d:=λ z=>by
    have h1:=(R.c.zdu e).mp he
    rw [z,hd] at h1; cases h1
   rw [zcC _ _ _ hne]; rfl
 . rename_i h
   obtain ⟨c1,_,_⟩:=zj2 ordS (λ l k=>zbh) R.c R.h R.a hd (by simpa using h)
   obtain ⟨s1,s2⟩:=zhd (f:=s.n) c1
   exact ⟨by rw [s2]; rfl,by rw [s1]; rfl,by rw [zgG ordS c1,ziV]; rfl,Did.settle ordS c1 Did.wait⟩
theorem Ready.wish {s:HS Str} {T d:Nat} {a:Act Str} (R:Ready s T) (hd:(s.deed d).st=.zar) (h:(see s a.key).seen.length<=4) (t:T+1<=1000):Ready (TH.wish ordS s d a) (T+1) :=
 let F:=zcL (a:=a) R hd
 ⟨R.c.wish ordS hd,Head.wish ordS (λ l k=>zbh) R.c R.h hd,R.a.wish ordS R.c hd,Lim.wish R hd h t F.1 F.2.1⟩
theorem Ready.drop {s:HS Str} {T d:Nat} (R:Ready s T) (hd:(s.deed d).act):Ready (TH.drop ordS s d) T:=⟨R.c.drop ordS hd,Head.drop ordS (λ l k=>zbh) R.c hd,R.a.drop ordS R.c hd,R.L.drop R.c hd⟩
theorem Ready.keep {s:HS Str} {T d:Nat} (R:Ready s T) (hd:(s.deed d).act):Ready (TH.keep ordS s d) T:=⟨R.c.keep ordS hd,Head.keep ordS (λ l k=>zbh) R.c hd,R.a.keep ordS R.c hd,R.L.keep R.c hd⟩
theorem Ready.za4 {s:HS Str} {T:Nat} (R:Ready s T) (hn:s.n < 63) (t:T+1<=1000):Ready (TH.za4 s) (T+1):=⟨R.c.za4,R.h,R.a.za4 R.c,⟨R.L.e.za4 R.c,t,hn,R.L.sn⟩⟩
theorem Ready.empty:Ready (TH.empty:HS Str) 0:=⟨All.empty.c,All.empty.h,All.empty.a,Ext.empty,by decide,by decide,by decide⟩
end TP
end
section
namespace TP
open PySem L2 TH
def zsD (A:Ad):Sp:=λ vs H Q _=>∃ ρ ad s d a pw dw T,vs=[.ref (ad Role.hall),.int (d:Nat),.ref pw]/\zai A ρ ad s (zav s) H/\Ready s T/\T+1<=1000/\(see s a.key).seen.length<=4/\(s.deed d).st=.zar/\H pw=some (.ins A.zd7 dw (zrg a))/\ρ pw=.other /\
 ∀ H' ρ' ad' q,ad' Role.hall=ad .hall->zai A ρ' ad' (wish ordS s d a) (zav s) H'->Frame ρ H ρ' H'->H' q=some (.tup (ansV ((wish ordS s d a).deed d) a.wr))->ρ' q=.other->Q (.ref q) H'
def zmy (A:Ad) (s:HS Str) (i:Int) (H:Hp) (E:XK) (G:Nat->Prop):Prop :=
 (∃ d:Nat,i=d/\d < s.n/\((s.deed d).st=.zar/\G d\/(s.deed d).st≠.zar/\E (.ref A.zcZ) none H))\/Out A s i H E
def zsw (A:Ad):Sp:=λ vs H Q E=>∃ ρ ad s i k T,vs=[.ref (ad Role.hall),.int i,.str k]/\zai A ρ ad s (zav s) H/\Ready s T/\T+1<=1000/\(see s k).seen.length<=4 /\
 zmy A s i H E λ d=>∀ H' ρ' ad' q,ad' Role.hall=ad .hall->zai A ρ' ad' (wish ordS s d ⟨false,k,0⟩) (zav s) H'->Frame ρ H ρ' H'->H' q=some (.tup (ansV ((wish ordS s d ⟨false,k,0⟩).deed d) false))->ρ' q=.other->Q (.ref q) H'
def zrr (A:Ad):Sp:=λ vs H Q E=>∃ ρ ad s i k v T,vs=[.ref (ad Role.hall),.int i,.str k,.int v]/\zai A ρ ad s (zav s) H/\Ready s T/\T+1<=1000/\(see s k).seen.length<=4 /\
 zmy A s i H E λ d=>∀ H' ρ' ad' q,ad' Role.hall=ad .hall->zai A ρ' ad' (wish ordS s d ⟨true,k,v⟩) (zav s) H'->Frame ρ H ρ' H'->H' q=some (.tup (ansV ((wish ordS s d ⟨true,k,v⟩).deed d) true))->ρ' q=.other->Q (.ref q) H'
def zsz (A:Ad):Sp:=λ vs H Q E=>∃ ρ ad s i T,vs=[.ref (ad Role.hall),.int i]/\zai A ρ ad s (zav s) H/\Ready s T /\
 zmy A s i H E λ d=>∀ H' ρ' ad',ad' Role.hall=ad .hall->zai A ρ' ad' (keep ordS s d) (zav (keep ordS s d)) H'->Frame ρ H ρ' H'->Q .non H'
def zp6 (A:Ad):Sp:=λ vs H Q E=>∃ ρ ad s i T,vs=[.ref (ad Role.hall),.int i]/\zai A ρ ad s (zav s) H/\Ready s T /\
 ((∃ d:Nat,i=d/\d < s.n/\((s.deed d).act/\(∀ H' ρ' ad',ad' Role.hall=ad .hall->zai A ρ' ad' (drop ordS s d) (zav (drop ordS s d)) H'->Frame ρ H ρ' H'->Q .non H')\/¬ (s.deed d).act/\E (.ref A.zcZ) none H))\/Out A s i H E)
def zp7 (A:Ad):Sp:=λ vs H Q E=>∃ ρ ad s kv i,vs=[.ref (ad Role.hall),.int i]/\zai A ρ ad s kv H/\s.n<=1000/\(∀ d,(s.deed d).done.length<=2000) /\
 ((∃ d:Nat,i=d/\d < s.n/\∀ H' q us,Same H H'->H' q=some (.tup us)->zau H' us ((s.deed d).done.map actV)->Q (.ref q) H')\/Out A s i H E)
def wb (b:Book Str) (l:List (Str×Int)):Book Str:=l.foldl (λ b p=>up b p.1 (some p.2)) b
theorem zrf (b:Book Str) (l:List (Str×Int)) (p:Str×Int):wb b (l++[p])=up (wb b l) p.1 (some p.2):=by unfold wb; rw [List.foldl_append]; rfl
theorem zlu:∀ (l:List (Act Str)) (b:Book Str),wb b (zas l)=over b l
 | [],b=>rfl
 | a::r,b=>by
  have e:zas (a::r)=(if a.wr then [(a.key,a.val)] else [])++zas r:=by
    unfold zas; rw [List.filterMap_cons]
    by_cases h:a.wr=true
    . rw [if_pos h,if_pos h]; rfl
    . rw [if_neg h,if_neg h]; rfl
  rw [e]
  by_cases h:a.wr=true
  . rw [if_pos h]; unfold over; rw [if_pos h]; exact zlu r _
  . rw [if_neg h]; unfold over; rw [if_neg h]; exact zlu r _
theorem zok:∀ {l:List (Str×Int)} {b:Book Str} {k:Str},wb b l k≠none->b k≠none\/k∈l.map (·.1)
 | [],_,_,h=>.inl h
 | p::r,b,k,h=>by
  rcases zok (l:=r) (b:=up b p.1 (some p.2)) h with h | h
  . by_cases z:k=p.1
    . exact .inr (by rw [z]; exact List.mem_cons_self)
    . rw [zan z] at h; exact .inl h
  . exact .inr (List.mem_cons_of_mem _ h)
theorem zlt {s:HS Str} {T:Nat} (E:Ext s T) {d:Nat} {k:Str} (h:k∈(zas (s.deed d).done).map (·.1)):k∈s.seen:=by
 obtain ⟨p,hp,rfl⟩:=List.mem_map.mp h
 unfold zas at hp
 obtain ⟨a,ha,hq⟩:=List.mem_filterMap.mp hp
 by_cases z:a.wr=true
 . rw [if_pos z] at hq; cases hq; exact E.zgP d a ha
 . rw [if_neg z] at hq; cases hq
end TP
end
section
namespace TP
open PySem L2 TH
def za0 (ns:List Int) (k:Nat):Int:=ns.getD k 0
def mixF (c p m:Int):Int:=c * 48271 % p % m
theorem ziR {c p m:Int} (h:0 < m):0<=mixF c p m/\mixF c p m < m:=⟨Int.emod_nonneg _ (by omega),Int.emod_lt_of_pos _ h⟩
theorem zlU {c p:Int} {m:Nat} (h:0 < m):∃ n:Nat,mixF c p m=n/\n < m:=by
 obtain ⟨h1,h2⟩:=ziR (c:=c) (p:=p) (m:=(m:Int)) (by omega)
 exact ⟨(mixF c p m).toNat,by omega,by omega⟩
def pick (l:Str) (i:Nat):Str:=match l.cps.toList[i]? with
 | some c=>⟨#[c]⟩
 | none=>Str.empty
def abc:Str := "abcdefghijklmnopqrstuvwxyz"
def zd3 (seed:Int):List Str:=(List.range (mixF seed 9967 4).toNat).map λ (j:Nat)=>pick abc (mixF (seed+5 * (j:Int)) 9973 26).toNat
def zdK (ns:List Int) (k:Nat):Str:=pick "qrst" k++Txt.join "" (zd3 (za0 ns 0+7 * (k:Int)))
open Classical in
noncomputable def keyF (ns:List Int) (k:Nat):Str:=if k=3/\za0 ns 0 % 2=0 then (if zdK ns 0 = "q" then "qa" else "q") else zdK ns k
theorem zjr {l:Str} {i:Nat} (h:i < l.cps.size):∃ c,atI l.cps.toList (i:Int)=some c/\pick l i=⟨#[c]⟩:=by
 have hl:i < l.cps.toList.length:=by simpa using h
 refine ⟨l.cps.toList[i],zbm (by rw [List.getElem?_eq_getElem hl]),?_⟩
 unfold pick; rw [List.getElem?_eq_getElem hl]
theorem zqg (l:Str) (i:Nat):(pick l i).length<=1:=by
 unfold pick; split
 . exact Nat.le_refl _
 . exact Nat.zero_le _
theorem zp2 (seed:Int):(zd3 seed).length<=3:=by
 unfold zd3; rw [List.length_map,List.length_range]
 have:=ziR (c:=seed) (p:=9967) (m:=4) (by decide)
 omega
theorem zm9 {l:List Str}:(l.map (·.length)).sum+l.length * ("" : Str).length=(l.map (·.length)).sum:=by
 have:("" : Str).length=0:=by decide +kernel
 rw [this]; omega
theorem zk5 (l:List Str):(Txt.join "" l).length<=(l.map (·.length)).sum:=by
 have e0:("" : Str).cps.size=0:=by decide +kernel
 have main:∀ (r:List Str) (a:Array Nat),(r.foldl (λ acc p=>acc++("" : Str).cps++p.cps) a).size=a.size+(r.map (·.length)).sum:=λ r=>by
  induction r with
  | nil=>intro a; rfl
  | cons x r ih =>
   intro a
   rw [List.foldl_cons,ih,List.map_cons,List.sum_cons,Array.size_append,Array.size_append,e0]
   have:x.cps.size=x.length:=rfl
   omega
 cases l with
 | nil=>exact Nat.le_refl _
 | cons x r =>
  have:=main r x.cps
  rw [List.map_cons,List.sum_cons]
  exact Nat.le_of_eq this
theorem zg0 (seed:Int):((zd3 seed).map (·.length)).sum<=3:=by
 have h1:=zp2 seed
 have h2:∀ l:List Str,(∀ x∈l,x.length<=1)->(l.map (·.length)).sum<=l.length:=λ l=>by
  induction l with
  | nil=>intro _; exact Nat.le_refl _
  | cons x r ih=>intro h; rw [List.map_cons,List.sum_cons,List.length_cons]; have:=h x List.mem_cons_self; have:=ih λ y hy=>h y (List.mem_cons_of_mem _ hy); omega
 have h3:=h2 (zd3 seed) λ x hx=>by
  unfold zd3 at hx
  obtain ⟨j,_,rfl⟩:=List.mem_map.mp hx
  exact zqg _ _
 omega
def zsB (K:PySem.W.Frag):Sp:=λ vs H Q _=>∃ (a:Addr) (ns:List Int) (k:Nat),vs=[.ref a,.int k]/\SqL K H a (ns.map V.int)/\Q (.int (za0 ns k)) H
def ztx:Sp:=λ vs H Q _=>∃ c p m:Int,vs=[.int c,.int p,.int m]/\0 < p/\0 < m/\Q (.int (mixF c p m)) H
def spNo:Sp:=λ _ _ _ _=>False
def zsy (K:PySem.W.Frag):Sp:=λ vs H Q _=>∃ (a:Addr) (ns:List Int) (k:Nat),vs=[.ref a,.int k]/\SqL K H a (ns.map V.int)/\k < 3/\∀ H',Same H H'->Q (.str (zdK ns k)) H'
def ztz (K:PySem.W.Frag):Sp:=λ vs H Q _=>∃ (a:Addr) (ns:List Int) (k:Nat),vs=[.ref a,.int k]/\SqL K H a (ns.map V.int)/\k < 4/\∀ H',Same H H'->Q (.str (keyF ns k)) H'
inductive LAct where
 | begin | read (d:Nat) (k:Str) | write (d:Nat) (k:Str) (v:Int) | keep (d:Nat) | drop (d:Nat)
def actD:LAct->List V
 | .begin=>[.str "begin"]
 | .read d k=>[.str "read",.int (d:Int),.str k]
 | .write d k v=>[.str "write",.int (d:Int),.str k,.int v]
 | .keep d=>[.str "keep",.int (d:Int)]
 | .drop d=>[.str "give up",.int (d:Int)]
def zmx (ns:List Int) (k:Str):Prop:=∃ j,j < 4/\k=keyF ns j
def okA (ns:List Int) (b:Nat):LAct->Prop
 | .begin=>True
 | .read d k=>d < b/\zmx ns k
 | .write d k _=>d < b/\zmx ns k
 | .keep d=>d < b
 | .drop d=>d < b
def LAct.isB:LAct->Nat
 | .begin=>1
 | _=>0
def zdz (l:List LAct):Nat:=(l.map LAct.isB).sum
def Valid (ns:List Int) (l:List LAct):Prop:=∀ i a,l[i]?=some a->okA ns (zdz (l.take i)) a
theorem Valid.snoc {ns:List Int} {l:List LAct} {a:LAct} (v:Valid ns l) (h:okA ns (zdz l) a):Valid ns (l++[a]):=λ i b hb=>by
 by_cases hi:i < l.length
 . rw [List.getElem?_append_left hi] at hb
   have:=v i b hb
   rwa [List.take_append_of_le_length (by omega)]
 . rw [List.getElem?_append_right (by omega)] at hb
   have hi2:i - l.length=0:=by
    have:=(List.getElem?_eq_some_iff.mp hb).1
    simp at this; omega
   rw [hi2] at hb
   cases hb
   have:i=l.length:=by omega
   subst this
   rw [List.take_append_of_le_length (Nat.le_refl _),List.take_length]; exact h
theorem zfr (l:List LAct) (a:LAct):zdz (l++[a])=zdz l+a.isB:=by unfold zdz; rw [List.map_append,List.sum_append]; simp
theorem zq6 (a:LAct):a.isB<=1:=by cases a <;> first | exact Nat.le_refl 1 | exact Nat.zero_le 1
theorem zpT (l:List LAct):zdz l<=l.length:=by
 unfold zdz
 induction l with
 | nil=>exact Nat.zero_le _
 | cons a r ih=>rw [List.map_cons,List.sum_cons,List.length_cons]; have:=zq6 a; omega
theorem zpU (a:LAct):∃ t,actD a=.str t::(actD a).tail/\(decide (V.str t=V.str "begin"))=decide (a.isB=1):=by
 cases a <;> refine ⟨_,rfl,?_⟩ <;> first | rfl | exact decide_eq_false λ z=>by have:=V.str.inj z; revert this; decide +kernel
def ztB (K:PySem.W.Frag):Sp:=λ vs H Q _=>∃ (a:Addr) (ns:List Int) (c:Int) (b:Nat),vs=[.ref a,.int c,.int b]/\SqL K H a (ns.map V.int)/\0 < b/\∀ H' q A,H q=none->Same H H'->H' q=some (.tup (actD A))->okA ns b A->Q (.ref q) H'
def zsE (K:PySem.W.Frag):Sp:=λ vs H Q _=>∃ (a:Addr) (ns:List Int),vs=[.ref a]/\SqL K H a (ns.map V.int)/\∀ H' q us As,H q=none->Same H H'->H' q=some (.lst us)->zau H' us (As.map actD)->(∀ p,V.ref p∈us->H p=none)->Valid ns As->As.length<=63->Q (.ref q) H'
end TP
end
section
namespace TP
open PySem L2 TH
theorem zkS {α:Type} [DecidableEq α]:∀ (a b:List α),a.Nodup->(∀ x∈a,x∈b)->a.length<=b.length
 | [],b,_,_=>Nat.zero_le _
 | x::r,b,nd,hs=>by
  obtain ⟨n1,n2⟩:=List.nodup_cons.mp nd
  have hx:=hs x List.mem_cons_self
  have:=zkS r (b.erase x) n2 λ z hz=>(List.mem_erase_of_ne (show z≠x from λ e=>n1 (e ▸ hz))).mpr (hs z (List.mem_cons_of_mem _ hz))
  rw [List.length_erase_of_mem hx] at this
  have hpos:0 < b.length:=List.length_pos_of_mem hx
  simp only [List.length_cons]; omega
theorem ztJ {ns:List Int} {l:List Str} (nd:l.Nodup) (h:∀ k∈l,zmx ns k):l.length<=4:=by
 have:=zkS l ((List.range 4).map (keyF ns)) nd λ k hk=>by
  obtain ⟨j,hj,rfl⟩:=h k hk
  exact List.mem_map.mpr ⟨j,List.mem_range.mpr hj,rfl⟩
 simpa using this
theorem zpd {s:HS Str} {k x:Str}:x∈(see s k).seen↔x=k\/x∈s.seen:=by
 show x∈(if k∈s.seen then s.seen else s.seen++[k])↔_
 split
 . rename_i h; exact ⟨.inr,λ q=>q.elim (λ z=>z ▸ h) id⟩
 . rw [List.mem_append,List.mem_singleton]; exact Or.comm
theorem see4 {ns:List Int} {s:HS Str} {T:Nat} {k:Str} (E:Ext s T) (h:∀ k∈s.seen,zmx ns k) (hk:zmx ns k):(see s k).seen.length<=4 :=
 ztJ (E.see (k:=k)).snd λ x hx=>(zpd.mp hx).elim (λ z=>z ▸ hk) (h x)
noncomputable def zfv (s:HS Str):LAct->HS Str
 | .begin=>za4 s
 | .read d k=>if (s.deed d).st=.zar then wish ordS s d ⟨false,k,0⟩ else s
 | .write d k v=>if (s.deed d).st=.zar then wish ordS s d ⟨true,k,v⟩ else s
 | .keep d=>if (s.deed d).st=.zar then keep ordS s d else s
 | .drop d=>if (s.deed d).st=.zar\/(s.deed d).st=.waiting then drop ordS s d else s
theorem zhb (s:HS Str) (d:Nat) (k:Str):zfv s (.read d k)=if (s.deed d).st=.zar then wish ordS s d ⟨false,k,0⟩ else s:=rfl
theorem zfX (s:HS Str) (d:Nat) (k:Str) (v:Int):zfv s (.write d k v)=if (s.deed d).st=.zar then wish ordS s d ⟨true,k,v⟩ else s:=rfl
theorem zhc (s:HS Str) (d:Nat):zfv s (.keep d)=if (s.deed d).st=.zar then keep ordS s d else s:=rfl
theorem step_drop (s:HS Str) (d:Nat):zfv s (.drop d)=if (s.deed d).st=.zar\/(s.deed d).st=.waiting then drop ordS s d else s:=rfl
theorem Ready.mono {s:HS Str} {T:Nat} (R:Ready s T) (h:T+1<=1000):Ready s (T+1):=⟨R.c,R.h,R.a,⟨R.L.e.mono (Nat.le_succ _),h,R.L.n,R.L.sn⟩⟩
structure Run (ns:List Int) (s:HS Str) (T:Nat):Prop where
 r:Ready s T
 k:∀ k∈s.seen,zmx ns k
theorem Run.step {ns:List Int} {s:HS Str} {T:Nat} (R:Run ns s T) (ht:T+1<=1000) (hn:s.n < 63) {a:LAct} (ok:okA ns s.n a):Run ns (zfv s a) (T+1)/\(zfv s a).n=s.n+a.isB:=by
 have same:Run ns s (T+1)/\s.n=s.n:=⟨⟨R.r.mono ht,R.k⟩,rfl⟩
 have wi:∀ (d:Nat) (x:Act Str),(s.deed d).st=.zar->zmx ns x.key->Run ns (wish ordS s d x) (T+1)/\(wish ordS s d x).n=s.n:=λ d x hd hk=>by
  have h4:=see4 R.r.L.e R.k hk
  obtain ⟨f1,f2,_,_⟩:=zcL (a:=x) R.r hd
  refine ⟨⟨R.r.wish hd h4 ht,λ k h=>?_⟩,f1⟩
  rw [f2] at h
  exact (zpd.mp h).elim (λ z=>z ▸ hk) (R.k k)
 cases a with
 | begin=>exact ⟨⟨R.r.za4 hn ht,R.k⟩,rfl⟩
 | read d k =>
  rw [zhb]
  split
  . rename_i h; exact wi d _ h ok.2
  . exact same
 | write d k v =>
  rw [zfX]
  split
  . rename_i h; exact wi d _ h ok.2
  . exact same
 | keep d =>
  rw [zhc]
  split
  . rename_i h
    have ha:(s.deed d).act:=.inl h
    exact ⟨⟨(R.r.keep ha).mono ht,λ k h=>R.k k (by rw [zk3 R.r.c ha] at h; exact h)⟩,zqY ordS R.r.c ha⟩
  . exact same
 | drop d =>
  rw [step_drop]
  split
  . rename_i h
    have ha:(s.deed d).act:=h
    exact ⟨⟨(R.r.drop ha).mono ht,λ k h=>R.k k (by rw [zhU R.r.c ha] at h; exact h)⟩,zkU ordS R.r.c ha⟩
  . exact same
def zsC (A:Ad):Sp:=λ vs H Q E=>∃ ρ ad s kq act T ns,vs=[.ref (ad Role.hall),.ref kq]/\zai A ρ ad s (zav s) H/\Run ns s T/\T+1<=1000/\s.n < 63/\okA ns s.n act/\H kq=some (.tup (actD act)) /\
 (∀ v H' ρ' ad',ad' Role.hall=ad .hall->zai A ρ' ad' (zfv s act) (zav (zfv s act)) H'->Frame ρ H ρ' H'->Q v H')/\(zfv s act=s->E (.ref A.zcZ) none H)
def spDo (A:Ad):Sp:=λ vs H Q _=>∃ ρ ad s kq act T ns,vs=[.ref (ad Role.hall),.ref kq]/\zai A ρ ad s (zav s) H/\Run ns s T/\T+1<=1000/\s.n < 63/\okA ns s.n act/\H kq=some (.tup (actD act)) /\
 ∀ v H' ρ' ad',ad' Role.hall=ad .hall->zai A ρ' ad' (zfv s act) (zav (zfv s act)) H'->Frame ρ H ρ' H'->Q v H'
def zsx (K:PySem.W.Frag):Sp:=λ vs H Q _=>∃ (a:Addr) (ns:List Int),vs=[.ref a]/\SqL K H a (ns.map V.int)/\∀ H',Q (.bl true) H'
end TP
end
section
namespace TP
open PySem L2 TH
def zty (A:Ad):Sp:=λ vs H Q _=>∃ ρ ad s kv,vs=[.ref (ad Role.hall)]/\zai A ρ ad s kv H/\∀ H' q us,H q=none->Same H H'->H' q=some (.tup us)->zau H' us (s.log.map rowV)->Q (.ref q) H'
def zoA (A:Ad):Sp:=λ vs H Q E=>∃ ρ ad s kv i,vs=[.ref (ad Role.hall),.int i]/\zai A ρ ad s kv H/\s.n<=1000/\((∃ d:Nat,i=d/\d < s.n/\Q (.str (stS (s.deed d).st)) H)\/Out A s i H E)
def zrs (A:Ad):Sp:=λ vs H Q _=>∃ ρ ad s kv k,vs=[.ref (ad Role.hall),.str k]/\zai A ρ ad s kv H/\(k∉s.seen->s.rows k=[]) /\
 ∀ H' q us,Same H H'->H' q=some (.tup us)->zau H' us ((s.rows k).map zb2)->Q (.ref q) H'
def zrv (A:Ad):Sp:=λ vs H Q _=>∃ ρ ad s kv,vs=[.ref (ad Role.hall)]/\zai A ρ ad s kv H/\s.log.length<=3000/\∀ H',Same H H'->Q (.int ((logB s.log).length:Int)) H'
theorem zlC {h:List (Nat×Bool)} {ys:List (Key×V)} (pm:ys.Perm (zaG h)) (so:ys.Pairwise λ a b=>kLt a.1 b.1=true) :
   ∃ L:List (Nat×Bool),ys=zaG L/\L.Perm h/\L.Pairwise λ a b=>a.1 < b.1:=by
 obtain ⟨L,rfl⟩:∃ L:List (Nat×Bool),ys=zaG L:=by
   have:∀ y∈ys,∃ p:Nat×Bool,y=(Sum.inl (p.1:Int),V.str (useS p.2)):=λ y hy=>by
    have:=pm.mem_iff.mp hy
    unfold zaG at this
    obtain ⟨p,_,e⟩:=List.mem_map.mp this
    exact ⟨p,e.symm⟩
   clear so pm
   induction ys with
   | nil=>exact ⟨[],rfl⟩
   | cons y r ih =>
    obtain ⟨p,rfl⟩:=this _ List.mem_cons_self
    obtain ⟨L,rfl⟩:=ih λ y hy=>this y (List.mem_cons_of_mem _ hy)
    exact ⟨p::L,rfl⟩
 refine ⟨L,rfl,?_,?_⟩
 . let back:Key×V->Nat×Bool:=λ y=>(match y.1 with | .inl i=>i.toNat | .inr _=>0,decide (y.2=V.str "writing"))
   have bk:∀ l:List (Nat×Bool),(zaG l).map back=l:=λ l=>by
    unfold zaG
    rw [List.map_map]
    have:∀ p∈l,(back∘λ p:Nat×Bool=>((Sum.inl (p.1:Int),V.str (useS p.2)):Key×V)) p=id p:=λ p _=>by
     show ((p.1:Int).toNat,decide (V.str (useS p.2)=V.str "writing"))=p
     rw [zfV]; rfl
    rw [List.map_congr_left this,List.map_id]
   have:=pm.map back
   rw [bk,bk] at this; exact this
 . unfold zaG at so
   rw [List.pairwise_map] at so
   exact so.imp λ {a b} q=>by
    have:decide ((a.1:Int) < (b.1:Int))=true:=q
    have:=of_decide_eq_true this
    omega
end TP
end
section
namespace TP
open PySem L2 TH
def rowB:Row Str->Bool
 | .begin _=>true
 | _=>false
theorem zqc (r:Row Str):∃ t,rowV r=.str t::(rowV r).tail/\decide (V.str t=V.str "begin")=rowB r:=by
 cases r <;> refine ⟨_,rfl,?_⟩ <;> first | rfl | exact decide_eq_false λ z=>by have:=V.str.inj z; revert this; decide +kernel
theorem zm6 (l:List (Row Str)) (r:Row Str):(logB (l++[r])).length=(logB l).length+if rowB r then 1 else 0:=by
 rw [zfI,List.length_append]
 cases r <;> rfl
end TP
namespace TH
section
variable {K:Type} [DecidableEq K] (ord:List K->List K)
end
end TH
end
section
namespace TP
open PySem L2 TH
def Apart (K:PySem.W.Frag) (ρ:Addr->Role) (H:Hp) (a:Addr) (xs:List V):Prop:=(∃ o,H a=some o/\ρ a=.other/\∀ H':Hp,H' a=some o->SqL K H' a xs)\/∀ H':Hp,SqL K H' a xs
section
variable {K:PySem.W.Frag} {ρ ρ':Addr->Role} {H H':Hp} {a:Addr} {xs:List V}
theorem Apart.of (h:SqL K H a xs) (hr:∀ o,H a=some o->ρ a=.other):Apart K ρ H a xs:=by
 rcases h with (h | ⟨o,h⟩) | h
 . exact .inl ⟨_,h,hr _ h,λ H' e=>.inl (.inl e)⟩
 . exact .inl ⟨_,h,hr _ h,λ H' e=>.inl (.inr ⟨o,e⟩)⟩
 . exact .inr λ _=>.inr h
theorem Apart.frame (S:Apart K ρ H a xs) (f:Frame ρ H ρ' H'):Apart K ρ' H' a xs:=by
 rcases S with ⟨o,h,r,k⟩ | k
 . exact .inl ⟨o,(f _ _ h r).1,(f _ _ h r).2,k⟩
 . exact .inr k
theorem Apart.sq (S:Apart K ρ H a xs):SqL K H a xs:=by
 rcases S with ⟨o,h,r,k⟩ | k
 . exact k _ h
 . exact k _
end
theorem zqs {ns:List Int} {s:HS Str} {T:Nat} (R:Run ns s T) (l:zaW s) (a:LAct):zaW (zfv s a):=by
 cases a with
 | begin=>exact l.za4 R.r.c
 | read d k =>
  rw [zhb]
  split
  . rename_i h; exact l.wish ordS R.r.c h
  . exact l
 | write d k v =>
  rw [zfX]
  split
  . rename_i h; exact l.wish ordS R.r.c h
  . exact l
 | keep d =>
  rw [zhc]
  split
  . rename_i h; exact l.keep ordS R.r.c (.inl h)
  . exact l
 | drop d =>
  rw [step_drop]
  split
  . rename_i h; exact l.drop ordS R.r.c h
  . exact l
theorem zrq (t:DS):inV (.str (stS t)) [.str "going",.str "waiting"]=decide (t=.zar\/t=.waiting):=by
 cases t <;> decide +kernel
theorem zl7 {H:Hp}:∀ l:List Nat,DVs H (zaD l) (l.map λ (n:Nat)=>PySem.W.Dat.int (n:Int))
 | []=>.nil
 | _::r=>.cons (.int _) (zl7 r)
theorem zoJ {t U:TS} {D:Ends} {σ:St} {H:Hp} (Pv:St->Hp->Prop) (hU:∀ σ' H',Pv σ' H'->U D σ' H') (ht:∀ V:TS,(∀ σ' H',Pv σ' H'->V D σ' H')->tSeq t V D σ H):tSeq t U D σ H:=ht U hU
end TP
end
section
namespace TH
section
variable {K:Type} [DecidableEq K] (ord:List K->List K)
end
end TH
namespace TP
open PySem L2 TH
theorem zfW {ρ ρ':Addr->Role} {H H':Hp} (f:Frame ρ H ρ' H'):∀ {us:List V} {xss:List (List V)},(∀ p,V.ref p∈us->ρ p=.other)->zau H us xss->zau H' us xss/\∀ p,V.ref p∈us->ρ' p=.other
 | _,_,_,.nil=>⟨.nil,λ p h=>by cases h⟩
 | _::us,_,hr,.cons ⟨p,e,q⟩ t=>by
  obtain ⟨t',r'⟩:=zfW f (λ p hp=>hr p (List.mem_cons_of_mem _ hp)) t
  subst e
  have h1:=f _ _ q (hr p List.mem_cons_self)
  exact ⟨.cons ⟨p,rfl,h1.1⟩ t',λ x hx=>by
   rcases List.mem_cons.mp hx with z | z
   . cases z; exact h1.2
   . exact r' x z⟩
section
variable {l:List (Row Str)} {kvs:List (Key×V)} {ρ ρ':Addr->Role} {H H':Hp}
end
end TP
end
section
namespace L2
open PySem PySem.Spec PySem.W PyProof.Rows
section
variable {X:Cx}
open Classical in
open Classical in
theorem zjV (hc:X.calm=true):zfU X (.builtin "all") (λ xs H Q=>∃ l,∃ bs:List Bool,xs=[.ref l]/\SqL X.K H l (bs.map V.bl)/\Q (.bl (bs.all id)) H):=by
 intro pins s σ H xs us Q I r h
 obtain ⟨l,bs,rfl,hl,q⟩:=h
 obtain ⟨u,rfl,ru⟩:=vals1 r
 cases ru
 obtain ⟨its,rv,pl,hz⟩:=I.list hl
 have hlen:its.length=bs.length:=by rw [<-rv.length,List.length_map]
 obtain ⟨ol,hol,_⟩:=id pl.isList
 refine call_all_walk (wpAny_pyIter_list pl.isList ⟨s.heap.objs.size,_,_,_,_,_,λ i=>bs.getD i true,rfl,Walks.list (show X.A.in1.handled=none from I.ok.hd hc) _ l (Nat.ne_of_lt (Heap.lt_size hol)) its.toArray,⟨⟨_,Heap.get?_push_size _ rfl,rfl,rfl⟩,pl.isList.at λ o e=>Heap.get?_push_of_some _ e⟩,λ i v s Q E hv hq=>?_,λ h' tk hk=>?_⟩)
 . have hv:its[i]?=some v:=by simpa using hv
   have hi:i < bs.length:=by rw [<-hlen]; exact (List.getElem?_eq_some_iff.mp hv).1
   obtain ⟨b,hb⟩:∃ b,bs[i]?=some b:=⟨_,List.getElem?_eq_getElem hi⟩
   obtain ⟨u,hu,ru⟩:=rv.get (show (bs.map V.bl)[i]?=some (V.bl b) by rw [List.getElem?_map,hb]; rfl)
   rw [hv] at hu
   cases hu
   cases ru
   have hq:Q (bs.getD i true) s:=hq
   rw [List.getD_eq_getElem?_getD,hb] at hq
   first | exact wpAny_pure hq | (unfold truthy; exact wpAny_pure hq) | (unfold truthy; simp; exact wpAny_pure hq)
 . have e:(List.range its.toArray.size).all (λ i=>bs.getD i true)=bs.all id:=by
    rw [List.size_toArray,hlen,Bool.eq_iff_iff,List.all_eq_true,List.all_eq_true]
    constructor
    . intro h b hb
      obtain ⟨i,hi⟩:=List.getElem?_of_mem hb
      have:=h i (List.mem_range.mpr (List.getElem?_eq_some_iff.mp hi).1)
      rw [List.getD_eq_getElem?_getD,hi] at this; exact this
    . intro h i hi
      have hi:=List.mem_range.mp hi
      rw [List.getD_eq_getElem?_getD,List.getElem?_eq_getElem hi]
      exact h _ (List.getElem_mem hi)
   rw [e]
   refine ⟨.bl _,H,I.kept (t':=tk) λ b o eb=>hk b o (λ z=>?_) (Heap.get?_push_of_some _ eb),rfl,q⟩
   have z:b=s.heap.objs.size:=by simpa using z
   exact absurd (Heap.lt_size eb) (by rw [z]; exact Nat.lt_irrefl _)
end
end L2
end
section
namespace L2
open PySem PySem.Spec PySem.W PyProof.Rows
section
variable {X:Cx} {es:List Expr} {t:TA} {pos:Pos}
def zto (t:TA):TE:=λ σ H Q=>t σ H λ xs H1=>xs.length<=sizeLine/\∀ p o,H1 p=none->o.dict=none->Q (.ref p) (upd H1 p (.frz o (.tup xs)))
theorem zrI {x1} (h:PA X es t):PE X (.Tuple es x1 pos) (zto t):=by
 intro pins s σ H Q I hq
 refine wpAny_Tuple_spliced (thn (h pos pins s σ H _ I hq) λ us s1 ⟨xs,H1,I1,r,z,q⟩=>⟨by rw [<-r.length]; exact z,?_⟩)
 have hf:H1 s1.heap.objs.size=none:=I1.hok.fresh (Nat.le_refl _)
 refine ⟨.ref s1.heap.objs.size,upd H1 s1.heap.objs.size (.frz { cls:=.type "tuple",data:=.seq us.toArray } (.tup xs)),I1.laid (t':=s1.toks) (λ b u e=>Heap.get?_push_of_some _ e) (Nat.le_refl _) ?_,rfl,q _ _ hf rfl⟩
 exact ⟨Heap.get?_push_size _ rfl,z,us,r,⟨_,Heap.get?_push_size _ rfl,rfl,_,rfl⟩⟩
theorem ziv:zfU X (.type "tuple") (λ xs H Q=>∃ p ys,xs=[.ref p]/\SqL X.K H p ys/\∀ l o,H l=none->o.dict=none->Q (.ref l) (upd H l (.frz o (.tup ys)))):=by
 intro pins s σ H xs us Q I r h
 obtain ⟨p,ys,rfl,hq,q⟩:=h
 obtain ⟨u,rfl,rx⟩:=vals1 r
 cases rx
 obtain ⟨its,r',pl,hz⟩:=I.list hq
 have hlen:=r'.length
 refine call_tuple_list pl.isList (λ h' kp=>?_) (by simp only [List.size_toArray] <;> omega)
 have I1:Inv X pins σ H { s with heap:=h' }:=I.kept (t':=s.toks) kp
 have I2:Inv X pins σ (upd H h'.objs.size (.frz { cls:=.type "tuple",data:=.seq its.toArray } (.tup ys))) { s with heap:=h'.push { cls:=.type "tuple",data:=.seq its.toArray } } :=
  I1.laid (t':=s.toks) (λ b o e=>Heap.get?_push_of_some _ e) (Nat.le_refl _) ⟨Heap.get?_push_size _ rfl,hz,its,r',IsTup.new _ _⟩
 exact ⟨.ref h'.objs.size,_,I2,rfl,q _ _ (I1.hok.fresh (Nat.le_refl _)) rfl⟩
end
def znq (H:Hp) (v:V) (kv:Key×V):Prop:=∃ a,v=V.ref a/\H a=some (.tup [kV kv.1,kv.2])
def ztU (P:Program) (w:World) (h:Heap) (v:Value) (q:Key×Value):Prop:=∃ (a:Addr) (kv:Value) (o:Obj) (n:Nat),v=Value.ref a/\h.get? a=some o/\o.cls=.type "tuple" /\ o.data=.seq #[kv,q.2] n/\(zaC P w).is q.1 kv=true
theorem key_is {P:Program} {w:World} {k:Key} {u:Value} (r:RelV (kV k) u):(zaC P w).is k u=true:=by
 cases k with
 | inl i =>
  obtain ⟨t,rfl⟩:=(show ∃ t,u=Value.int i t from r)
  exact zfl P w i t
 | inr x =>
  obtain ⟨t,rfl⟩:=(show ∃ t,u=Value.str x t from r)
  exact zfk P w x t
theorem zoZ {P:Program} {w:World} {H:Hp} {h:Heap} (hok:HOk P w H h):∀ {us:List V} {kvs:List (Key×V)},Paired (znq H) us kvs->∀ {its:List Value},Vals us its->∃ vs:List (Key×Value),KV kvs vs/\Paired (ztU P w h) its vs
 | _,_,.nil,_,.nil=>⟨[],.nil,.nil⟩
 | _,_,.cons ⟨a,e,ha⟩ t,_,.cons r rs=>by
  subst e
  cases r
  obtain ⟨vs,k1,p1⟩:=zoZ hok t rs
  obtain ⟨_,its,rv,o,ho,hc,n,hd⟩:=hok _ _ ha
  obtain ⟨u1,u2,rfl,r1,r2⟩:=Vals.two rv
  exact ⟨(_,u2)::vs,.cons ⟨rfl,r2⟩ k1,.cons ⟨a,u1,o,n,rfl,ho,hc,hd,key_is r1⟩ p1⟩
section
variable {X:Cx}
theorem zi7 (hc:X.calm=true):zfU X (.type "dict") (λ xs H Q=>∃ p o us kvs,xs=[.ref p]/\H p=some (.frz o (.tup us))/\o.dict=none/\Paired (znq H) us kvs/\(kvs.map (·.1)).Nodup/\∀ d,H d=none->Q (.ref d) (upd H d (.dK kvs))):=by
 intro pins s σ H xs us' Q I r h
 obtain ⟨p,o,us,kvs,rfl,hp,od,pr,nd,q⟩:=h
 obtain ⟨u,rfl,ru⟩:=vals1 r
 cases ru
 obtain ⟨ho,hz,its,rv,o',ho',hcl,n,hdat⟩:=(show zbH X.prog X.w H s.heap p (.frz o (.tup us)) from I.hok p _ hp)
 rw [ho] at ho'
 cases ho'
 obtain ⟨vs,kv,pc⟩:=zoZ I.hok pr rv
 have hl:vs.length=us.length:=by rw [<-kv.length,<-pr.length]
 have nd':(vs.map (·.1)).Nodup:=by rw [<-kv.keys]; exact nd
 have pi:S6.zmw (zaC X.prog X.w) s.heap its vs:=⟨pc.length,λ i v hv=>by
  obtain ⟨q,hq,a,kv,o,n,e,ho,hc,hd,hk⟩:=S6.zg3 pc hv
  exact ⟨a,q.1,kv,q.2,o,n,e,hq,ho,hc,hd,hk⟩⟩
 have big:=(show zbH X.prog X.w (upd H s.heap.objs.size (.dK [])) (s.heap.push { cls:=.type "dict",data:=.dict #[] }) s.heap.objs.size (.dK []) from zni s.heap I.big).2.1
 refine S6.zn8 (I.ok.hd hc) ho hcl hdat od pi nd' (by rw [hl]; exact hz) λ h' tk kp hd=>?_
 exact ⟨.ref s.heap.objs.size,upd H s.heap.objs.size (.dK kvs),I.laid kp (Nat.le_refl _) ⟨by rw [kv.length,hl]; exact hz,big,vs,kv,hd⟩,rfl,q _ (I.hok.fresh (Nat.le_refl _))⟩
def VlV (v d:Addr):Heap->Prop:=λ h=>h.IsValuesView v d
def zrE:V->List V->Hp->VK->Prop:=λ x xs H Q=>∃ (d:Addr) (kvs:List (Key×V)),x=.ref d/\xs=[]/\H d=some (.dK kvs)/\∀ v:Addr,H v=none->Q (.ref v) (upd H v (.ext (VlV v d)))
theorem zo8:MtR X "dict.values" zrE:=by
 intro pins s σ H x xs v us Q I r rs h
 obtain ⟨d,kvs,rfl,rfl,hd,h⟩:=h
 cases r
 cases rs
 obtain ⟨z,lo,vs,rel,dd⟩:=zgQ I.hok hd
 have hn:=I.hok.fresh (Nat.le_refl s.heap.objs.size)
 refine call_meetsIn PySem.F.slot_dict_values dd.typeIs PySem.F.entry_dict_values (PySem.F.args_dict_values_1 _) (meets_dict_values (zaC X.prog X.w) d lo) ⟨⟨vs,dd⟩,⟨.ref s.heap.objs.size,upd H s.heap.objs.size (.ext (VlV s.heap.objs.size d)),?_,rfl,h _ hn⟩⟩
 have vw:(s.heap.push { cls:=.type "dict_values",data:=.fields #[.ref d] }).IsValuesView s.heap.objs.size d:=⟨_,Heap.get?_push_size _ rfl,rfl,rfl⟩
 exact I.laid (t':=s.toks) (λ b u e=>Heap.get?_push_of_some _ e) (Nat.le_refl _) ⟨vw,⟨_,Heap.get?_push_size _ rfl⟩,λ h1 h2 ⟨o,e,c,dd⟩ k=>⟨o,k o e,c,dd⟩⟩
def zrF:R2:=λ x y H Q=>∃ (z:Str) (v d:Addr) (kvs:List (Key×V)),x=.str z/\y=.ref v/\H v=some (.ext (VlV v d))/\H d=some (.dK kvs)/\(∀ p∈kvs,∃ y,p.2=V.str y)/\Q (.bl (kvs.any λ p=>decide (p.2=V.str z))) H
theorem zmN {z:Str}:∀ {kvs:List (Key×V)} {vs:List (Key×Value)},KV kvs vs->(∀ p∈kvs,∃ y,p.2=V.str y)->(∀ p∈vs,∃ y u,p.2=Value.str y u)/\(vs.any λ p=>S6.zow z p.2)=kvs.any λ p=>decide (p.2=V.str z)
 | _,_,.nil,_=>⟨λ p h=>(by cases h),rfl⟩
 | (k,x)::_,(k',u)::_,.cons r t,h=>by
  obtain ⟨h1,h2⟩:=zmN t λ p hp=>h p (List.mem_cons_of_mem _ hp)
  obtain ⟨y,e⟩:=h (k,x) List.mem_cons_self
  have e:x=V.str y:=e
  subst e
  obtain ⟨tk,e⟩:=(show ∃ t,u=Value.str y t from r.2)
  subst e
  refine ⟨λ p hp=>?_,?_⟩
  . rcases List.mem_cons.mp hp with q | q
    . exact ⟨y,tk,by rw [q]⟩
    . exact h1 p q
  . rw [List.any_cons,List.any_cons,h2]
    congr 1
    show decide (y=z)=decide (V.str y=V.str z)
    by_cases e:y=z
    . rw [decide_eq_true e,decide_eq_true (by rw [e])]
    . rw [decide_eq_false e,decide_eq_false λ q=>e (V.str.inj q)]
theorem zo2 (hc:X.calm=true):OpR X (compareOp .In) zrF:=by
 intro pins s σ H x y v u Q I rx ry h
 obtain ⟨z,w,d,kvs,rfl,rfl,hw,hd,all,q⟩:=h
 obtain ⟨t,rfl⟩:=(show ∃ t,v=Value.str z t from rx)
 cases ry
 obtain ⟨_,lo,vs,rel,dd⟩:=zgQ I.hok hd
 obtain ⟨ep,hat⟩:=dd.dictAt
 obtain ⟨vw,_⟩:=(show zbH X.prog X.w H s.heap w (.ext (VlV w d)) from I.hok w _ hw)
 obtain ⟨all',ean⟩:=zmN (z:=z) rel all
 refine wpAny_bind (m:=contains (.ref w) (.str z t)) (S6.zrh (I.ok.hd hc) all' hat vw λ h' kp=>wpAny_pure ⟨.bl _,H,I.kept (t':=s.toks) kp,rfl,?_⟩)
 rw [ean]; exact q
end
end L2
end
section
namespace TP
open PySem L2 TH
theorem zrc:bootBuiltins "dict" = some (.type "dict"):=by decide +kernel
def znC (A:Ad):Sp:=λ vs H Q _=>∃ ρ ad s kv k,vs=[.ref (ad Role.hall),.str k]/\zai A ρ ad s kv H/\(k∉s.seen->s.held k=[])/\((s.held k).map (·.1)).Nodup/\(s.held k).length < 64 /\
 ∀ H' q o us (L:List (Nat×Bool)),Same H H'->H' q=some (.frz o (.tup us))->o.dict=none->L.Perm (s.held k)->L.Pairwise (λ a b=>a.1 < b.1)->Paired (znq H') us (zaG L)->Q (.ref q) H'
theorem pairs_at {H0 H H':Hp} (m:Same H H'):∀ {as:List Addr} {ys:List (Key×V)},Paired (λ a kv=>H0 a=none/\H a=some (.tup [kV kv.1,kv.2])) as ys->Paired (znq H') (as.map V.ref) ys
 | _,_,.nil=>.nil
 | a::_,_,.cons r t=>.cons ⟨a,rfl,m _ _ r.2⟩ (pairs_at m t)
theorem zsO {k:Nat} (hk:k < 4):(pick "qrst" k).cps=#[113+k]:=by
 obtain rfl | rfl | rfl | rfl:k=0\/k=1\/k=2\/k=3:=by omega
 all_goals decide +kernel
theorem zhQ (ns:List Int) {k:Nat} (hk:k < 4):(zdK ns k).cps[0]?=some (113+k):=by
 unfold zdK
 show ((pick "qrst" k).cps++_)[0]?=_
 rw [zsO hk,Array.getElem?_append_left (by simp)]
 rfl
theorem zqy {ns:List Int} {i j:Nat} (hi:i < 4) (hj:j < 4) (h:keyF ns i=keyF ns j):i=j:=by
 have hq:(("q" : Str).cps[0]?=some 113):=by decide +kernel
 have hqa:(("qa" : Str).cps[0]?=some 113):=by decide +kernel
 have plain:∀ {a b:Nat},a < 4->b < 4->zdK ns a=zdK ns b->a=b:=λ ha hb e=>by
   have h1:=zhQ ns ha
   rw [e,zhQ ns hb] at h1
   have:=Option.some.inj h1
   omega
 have spec:∀ {b:Nat},b < 3->(if zdK ns 0 = "q" then ("qa" : Str) else "q")=zdK ns b->False:=λ {b} hb e=>by
   have h1:=zhQ ns (k:=b) (by omega)
   rw [<-e] at h1
   by_cases z:zdK ns 0 = "q"
   . rw [if_pos z] at e h1
     rw [hqa] at h1
     have:b=0:=by have:=Option.some.inj h1; omega
     subst this
     rw [z] at e
     exact absurd e (by decide +kernel)
   . rw [if_neg z] at e h1
     rw [hq] at h1
     have:b=0:=by have:=Option.some.inj h1; omega
     subst this
     exact z e.symm
 have kn:∀ {a:Nat},¬ (a=3/\za0 ns 0 % 2=0)->keyF ns a=zdK ns a:=λ {a} z=>by unfold keyF; rw [if_neg z]
 have k3:za0 ns 0 % 2=0->keyF ns 3=if zdK ns 0 = "q" then ("qa" : Str) else "q" := λ z=>by unfold keyF; rw [if_pos ⟨rfl,z⟩]
 by_cases e0:za0 ns 0 % 2=0
 . by_cases e1:i=3
   . by_cases e2:j=3
     . omega
     . subst e1
       rw [k3 e0,kn (a:=j) λ z=>e2 z.1] at h
       exact (spec (b:=j) (by omega) h).elim
   . by_cases e2:j=3
     . subst e2
       rw [k3 e0,kn (a:=i) λ z=>e1 z.1] at h
       exact (spec (b:=i) (by omega) h.symm).elim
     . rw [kn (a:=i) λ z=>e1 z.1,kn (a:=j) λ z=>e2 z.1] at h
       exact plain hi hj h
 . rw [kn (a:=i) λ z=>e0 z.2,kn (a:=j) λ z=>e0 z.2] at h
   exact plain hi hj h
noncomputable def zdn (ns:List Int) (s:HS Str):Nat->List Nat
 | 0=>[]
 | j+1=>zdn ns s j++(s.rows (keyF ns j)).map (·.1)
theorem zfw {ns:List Int} {s:HS Str} {d:Nat}:∀ {m:Nat},d∈zdn ns s m↔∃ j,j < m/\∃ w,(d,w)∈s.rows (keyF ns j)
 | 0=>⟨λ h=>(by cases h),λ ⟨j,h,_⟩=>by omega⟩
 | m+1=>by
  unfold zdn
  rw [List.mem_append,zfw (m:=m)]
  constructor
  . rintro (⟨j,hj,w,h⟩ | h)
    . exact ⟨j,by omega,w,h⟩
    . obtain ⟨p,hp,rfl⟩:=List.mem_map.mp h
      exact ⟨m,by omega,p.2,hp⟩
  . rintro ⟨j,hj,w,h⟩
    by_cases e:j=m
    . subst e; exact .inr (List.mem_map.mpr ⟨_,h,rfl⟩)
    . exact .inl ⟨j,by omega,w,h⟩
theorem zjg {ns:List Int} {s:HS Str} (c:Core s none):∀ {m:Nat},m<=4->(zdn ns s m).Nodup
 | 0,_=>List.nodup_nil
 | m+1,hm=>by
  unfold zdn
  refine List.nodup_append.mpr ⟨zjg c (by omega),c.rNd _,λ a ha b hb e=>?_⟩
  subst e
  obtain ⟨j,hj,w,h⟩:=zfw.mp ha
  obtain ⟨p,hp,rfl⟩:=List.mem_map.mp hb
  obtain ⟨_,x,hx,kx,_⟩:=c.rAct _ _ h
  obtain ⟨_,y,hy,ky,_⟩:=c.rAct _ _ hp
  have hx:(s.deed p.1).wish=some x:=hx
  rw [hx] at hy
  cases hy
  have:=zqy (ns:=ns) (i:=j) (j:=m) (by omega) (by omega) (kx.symm.trans ky)
  omega
theorem znx {ns:List Int} {s:HS Str} {T:Nat} (R:Run ns s T) {d:Nat}:d∈zdn ns s 4↔(s.deed d).st=.waiting:=by
 rw [zfw]
 constructor
 . rintro ⟨j,_,w,h⟩
   exact (R.r.c.rAct _ _ h).1
 . intro h
   obtain ⟨a,_,hr⟩:=R.r.c.wRow d (by intro z; cases z) h
   have hs:a.key∈s.seen:=Classical.byContradiction λ z=>by
    rw [(R.r.c.zdB _ z).2] at hr; cases hr
   obtain ⟨j,hj,e⟩:=R.k _ hs
   exact ⟨j,hj,a.wr,by rw [<-e]; exact hr⟩
theorem zkh {ns:List Int} {s:HS Str} {T:Nat} (R:Run ns s T) {m:Nat} (hm:m<=4):(zdn ns s m).length<=s.n:=by
 refine zcF s.n _ (zjg (ns:=ns) R.r.c hm) λ d hd=>?_
 obtain ⟨j,_,w,h⟩:=zfw.mp hd
 exact R.r.c.lt (.inr (R.r.c.rAct _ _ h).1)
def zjb (s:HS Str) (n:Nat):List Nat:=(List.range n).filter λ d=>decide ((s.deed d).st=.waiting)
theorem zq2:∀ {a b:List Nat},a.Pairwise (· < ·)->b.Pairwise (· < ·)->(∀ x,x∈a↔x∈b)->a=b
 | [],[],_,_,_=>rfl
 | [],y::_,_,_,h=>absurd ((h y).mpr List.mem_cons_self) List.not_mem_nil
 | x::_,[],_,_,h=>absurd ((h x).mp List.mem_cons_self) List.not_mem_nil
 | x::a,y::b,ha,hb,h=>by
  obtain ⟨a1,a2⟩:=List.pairwise_cons.mp ha
  obtain ⟨b1,b2⟩:=List.pairwise_cons.mp hb
  have e:x=y:=by
    rcases List.mem_cons.mp ((h x).mp List.mem_cons_self) with z | z
    . exact z
    rcases List.mem_cons.mp ((h y).mpr List.mem_cons_self) with z' | z'
    . exact z'.symm
    have:=b1 x z
    have:=a1 y z'
    omega
  subst e
  refine congrArg _ (zq2 a2 b2 λ z=>?_)
  constructor
  . intro hz
    rcases List.mem_cons.mp ((h z).mp (List.mem_cons_of_mem _ hz)) with e | e
    . subst e; exact absurd (a1 z hz) (Nat.lt_irrefl _)
    . exact e
  . intro hz
    rcases List.mem_cons.mp ((h z).mpr (List.mem_cons_of_mem _ hz)) with e | e
    . subst e; exact absurd (b1 z hz) (Nat.lt_irrefl _)
    . exact e
theorem zkg {ns:List Int} {s:HS Str} {T:Nat} (R:Run ns s T) {ys:List Key} (pm:ys.Perm ((zdn ns s 4).map λ (d:Nat)=>(Sum.inl (d:Int):Key))) (so:ys.Pairwise λ a b=>kLt a b=true):ys=(zjb s s.n).map λ (d:Nat)=>(Sum.inl (d:Int):Key):=by
 obtain ⟨zs,rfl,hz⟩:∃ zs:List Nat,ys=zs.map (λ (d:Nat)=>(Sum.inl (d:Int):Key))/\∀ x,x∈zs↔x∈zdn ns s 4:=by
   have all:∀ (ys:List Key),(∀ y∈ys,∃ d:Nat,y=Sum.inl (d:Int))->∃ zs:List Nat,ys=zs.map (λ (d:Nat)=>(Sum.inl (d:Int):Key)):=λ ys=>by
    induction ys with
    | nil=>intro _; exact ⟨[],rfl⟩
    | cons y r ih =>
     intro h
     obtain ⟨d,e⟩:=h y List.mem_cons_self
     obtain ⟨zs,ez⟩:=ih λ y hy=>h y (List.mem_cons_of_mem _ hy)
     exact ⟨d::zs,by rw [e,ez]; rfl⟩
   obtain ⟨zs,ez⟩:=all ys λ y hy=>by
    obtain ⟨d,_,e⟩:=List.mem_map.mp (pm.mem_iff.mp hy)
    exact ⟨d,e.symm⟩
   refine ⟨zs,ez,λ x=>?_⟩
   have inj:∀ {l:List Nat} {x:Nat},(Sum.inl (x:Int):Key)∈l.map (λ (d:Nat)=>(Sum.inl (d:Int):Key))↔x∈l:=λ {l x}=>by
    rw [List.mem_map]
    refine ⟨λ ⟨y,hy,e⟩=>?_,λ h=>⟨x,h,rfl⟩⟩
    have e1:=Sum.inl.inj e
    have e2:y=x:=by omega
    subst e2
    exact hy
   rw [<-inj,<-ez,pm.mem_iff,inj]
 refine congrArg _ (zq2 ?_ ?_ λ x=>?_)
 . rw [List.pairwise_map] at so
   refine so.imp λ {a b} h=>?_
   have:(a:Int) < (b:Int):=by simpa [kLt] using h
   omega
 . exact List.Pairwise.filter _ List.pairwise_lt_range
 . rw [hz,znx R]
   unfold zjb
   rw [List.mem_filter,List.mem_range]
   exact ⟨λ h=>⟨R.r.c.lt (.inr h),decide_eq_true h⟩,λ h=>of_decide_eq_true h.2⟩
theorem zpB (l:List (Nat×Bool)):(l.map λ p=>V.str (useS p.2)).all zjQ=true:=by
 rw [List.all_map,List.all_eq_true]
 intro p _
 rfl
def znB (A:Ad):Sp:=λ vs H Q _=>∃ ρ ad s kv k T,vs=[.ref (ad Role.hall),.str k]/\zai A ρ ad s kv H/\Core s none/\Head s/\Lim s T/\∀ H',Same H H'->Q (.bl true) H'
def zlz (A:Ad):Sp:=λ vs H Q _=>∃ ρ ad s kv,∃ d:Nat,∃ T,vs=[.ref (ad Role.hall),.int d]/\zai A ρ ad s kv H/\Core s none/\Lim s T/\d < s.n/\∀ H',Same H H'->Q (.bl true) H'
theorem ztl {b:Bool}:useS b = "writing" ↔ b=true:=by cases b <;> decide +kernel
section
variable {s:HS Str} {k:Str} {L:List (Nat×Bool)}
theorem zqC (c:Core s none) (p:L.Perm (s.held k)) {d:Nat} (h:(d,true)∈L):L.length<=1:=by
 have all:∀ x∈L.map (·.1),x=d:=λ x hx=>by
  obtain ⟨q,hq,rfl⟩:=List.mem_map.mp hx
  exact c.hEx k d (p.mem_iff.mp h) q (p.mem_iff.mp hq)
 have nd:(L.map (·.1)).Nodup:=(p.map _).nodup_iff.mpr (c.hNd k)
 cases L with
 | nil=>exact Nat.zero_le _
 | cons a r =>
  cases r with
  | nil=>exact Nat.le_refl _
  | cons b r =>
   have h1:=all a.1 (by simp)
   have h2:=all b.1 (by simp)
   simp [h1,h2] at nd
theorem znZ (hd:Head s) (p:L.Perm (s.held k)) {d:Nat} {w:Bool} {r:List (Nat×Bool)} (hr:s.rows k=(d,w)::r):∃ e∈L,e.1≠d/\(w=true\/e.2=true):=by
 have h:=hd k d w r hr
 unfold lets at h
 obtain ⟨e,he,hn⟩:=List.all_eq_false.mp h
 refine ⟨e,p.mem_iff.mpr he,?_⟩
 simp at hn
 obtain ⟨h1,h2⟩:=hn
 refine ⟨h1,?_⟩
 cases w with
 | true=>exact .inl rfl
 | false=>exact .inr (by simpa using h2)
theorem zfL (nd:(L.map (·.1)).Nodup):((zaG L).map (·.1)).Nodup:=by
 unfold zaG
 rw [List.map_map]
 have:L.map ((λ x:Key×V=>x.1)∘λ r:Nat×Bool=>((Sum.inl (r.1:Int):Key),V.str (useS r.2)))=(L.map (·.1)).map λ (d:Nat)=>(Sum.inl (d:Int):Key):=by rw [List.map_map]; rfl
 exact this ▸ (List.Pairwise.map _ (λ a b h e=>h (by have:=Sum.inl.inj e; omega)) nd)
end
end TP
end
section
namespace TP
open PySem PySem.W PyProof.Rows
def goT (thr ok:Thread->Bool) (stp:SharedT->Thread->Option (SharedT×Thread)):Nat->SharedT->Thread->Option SharedT
 | 0,_,_=>none
 | n+1,s,t=>match thr t with
  | true=>some s
  | false=>match ok t with
   | false=>none
   | true=>match stp s t with
    | some (s',t')=>goT thr ok stp n s' t'
    | none=>none
theorem zpv {tb:String->Option Builtin} {p:Program} {w:World} {m:Nat} {ann:Option Value}:∀ {n:Nat} {s s':SharedT} {t:Thread},goT through (stepOk m ann) (stepT (denote tb) p w) n s t=some s'->topRun tb p w m ann n s.abs t=some s'.abs
 | 0,_,_,_,h=>by cases h
 | n+1,s,s',t,h=>by
  unfold goT at h
  unfold topRun
  cases ht:through t with
  | true=>rw [ht] at h; cases h; rfl
  | false =>
   rw [ht] at h
   cases hk:stepOk m ann t with
   | false=>rw [hk] at h; cases h
   | true =>
    rw [hk] at h
    cases hs:stepT (denote tb) p w s t with
    | none=>rw [hs] at h; cases h
    | some r=>obtain ⟨a,b⟩:=r; rw [hs] at h; rw [stepT_spec hs]; exact zpv h
def ofL:List Obj->Nat->BT->BT
 | [],_,t=>t
 | o::l,i,t=>ofL l (i+1) (t.ins i o)
theorem ztI {p q:Program} {loose:List Str} {Xt:Shared->Bool} {α:Type} {Yf:Shared->α} {Ya:World->α} {N m:Nat} {ann:Option Value} {life:Life}
  (op:∀ w:World,(fencedOpening treeTable p w N).map (λ s=>(s.heap,s.gens,s.drawn,s.toks))=some (boot_heap w.params,Array.mk [],boot_drawn,boot_toks))
  (size:∀ w:World,((boot_heap w.params).isNs mainGlobals && (Array.mk []:Array GenState).size == 0,(boot_heap w.params).objs.size,(boot_heap w.params).nsMap mainGlobals "__annotations__")=(true,m,ann))
  (hb:∀ w:World,absHeap (ofL (boot_heap w.params).objs.toList 0 .nil) m life=boot_heap w.params)
  (run:∀ (w:World) (os:OsState),(goT through (stepOk m ann) (stepT (denote treeTable) p w) N ⟨ofL (boot_heap w.params).objs.toList 0 .nil,m,life,Array.mk [],boot_drawn,boot_toks,os⟩ (topStub p)).map
   (λ s=>(staticsOk (importedModules p.main.body) (boot_heap w.params) s.abs.heap && namesBound p s.abs.heap && gensDone s.abs && laidKept (boot_heap w.params) s.abs.heap,openSeen q loose (importedModules p.main.body) Xt true s.abs,Yf s.abs))=some (true,openGood q loose,Ya w)) :
  LeftO p q loose Xt Yf Ya N:=λ w=>by
 obtain ⟨⟨h,gs,d,k,os⟩,e,e'⟩:=Option.map_eq_some_iff.mp (op w)
 obtain ⟨rfl,rfl,rfl,rfl⟩:h=boot_heap w.params/\gs=Array.mk []/\d=boot_drawn/\k=boot_toks:=by simpa using e'
 obtain ⟨z1,z2,z3⟩:_/\_/\_:=by simpa only [Prod.mk.injEq] using size w
 obtain ⟨s,es,ev⟩:=Option.map_eq_some_iff.mp (run w os)
 obtain ⟨l1,l2,l3⟩:_/\_/\_:=by simpa only [Prod.mk.injEq] using ev
 have r:=zpv es
 unfold SharedT.abs at r
 dsimp only at r
 rw [hb] at r
 have t:topFrom treeTable p w N ⟨boot_heap w.params,Array.mk [],boot_drawn,boot_toks,os⟩=some s.abs:=by
  unfold topFrom
  dsimp only
  rw [z1,z2,z3,r]
  show (match staticsOk (importedModules p.main.body) (boot_heap w.params) s.abs.heap && namesBound p s.abs.heap && gensDone s.abs && laidKept (boot_heap w.params) s.abs.heap with | true=>_ | false=>_)=_
  rw [l1]
  rfl
 unfold openEnds
 rw [e]
 show (topFrom treeTable p w N _).map _=_
 rw [t]
 show some (openSeen q loose (importedModules p.main.body) Xt true s.abs,Yf s.abs)=_
 rw [l2,l3]
end TP
end
section
namespace TP
open PySem L2 TH PyProof.Rows
abbrev FV:=Str×Str×Arguments×FuncBody×Scope×Addr×List (Str×Addr)×Value×Addr×Bool
def fV (K:PySem.W.Frag) (f:Addr):Option FV:=match K.lookup f with
 | some ⟨_,_,.func d,_⟩=>some (d.name,d.qualname,d.params,d.body,d.scope,d.globals,d.closure,d.defaults,d.builtins,PySem.W.codeIn K d.code d.qualname && PySem.W.isFn K (.ref f))
 | _=>none
def fE (x q:Str) (st:Stmt):Option FV:=some (x,q,zjS st,.stmts (zhW st),zak st,mainGlobals,[],.none,builtinsNs,true)
def fdOf (K:PySem.W.Frag) (f:Addr):FuncData:=match K.lookup f with
 | some ⟨_,_,.func d,_⟩=>d
 | _=>default
def fi (K:PySem.W.Frag) (c:Addr) (x:Str):Option (Option Value):=PySem.W.findIn K (.ref c) x
def gl (K:PySem.W.Frag) (x:Str):Option (Option Value):=PySem.W.nsIn K mainGlobals x
def gs (K:PySem.W.Frag) (x v:Str):Bool:=match PySem.W.nsIn K mainGlobals x with
 | some (some (.str y _))=>y == v
 | _=>false
def gi (K:PySem.W.Frag) (x:Str) (v:Int):Bool:=match PySem.W.nsIn K mainGlobals x with
 | some (some (.int y _))=>y == v
 | _=>false
def dOf (st:Stmt):DefRec:=match st with
 | .FunctionDef n a b _ _ _ s _ _ p=>⟨n,a,b,s,p⟩
 | _=>⟨"",zjS st,[],zak st,⟨0,0,0,0⟩⟩
def Kof (as:List Addr) (h:Heap):PySem.W.Frag:=as.filterMap λ a=>(h.get? a).map λ o=>(a,o)
theorem ztj {as:List Addr} {h:Heap}:(Kof as h).In h:=by
 unfold Kof
 intro a o e
 induction as with
 | nil=>cases e
 | cons b r ih =>
  rw [List.filterMap_cons] at e
  cases hb:h.get? b with
  | none=>rw [hb] at e; exact ih e
  | some x =>
   rw [hb] at e
   simp only [Option.map_some,List.lookup_cons] at e
   split at e
   . rename_i z
     rw [eq_of_beq z,hb]; exact e
   . exact ih e
section
variable {K:PySem.W.Frag}
theorem bt {L:List Bool} (h:L.all id=true) (i:Nat) {b:Bool} (e:L[i]?=some b):b=true:=List.all_eq_true.mp h b (List.mem_of_getElem? e)
theorem fu0 {x q:Str} {st:Stmt} {f:Addr} (h:fV K f=fE x q st):Fun K x q st f (fdOf K f)/\PySem.W.isFn K (.ref f)=true/\PySem.W.keepIn K (.ref f)=true:=by
 unfold fV fE at h
 unfold fdOf
 split at h
 . rename_i oc od d sl e
   obtain ⟨n,q',ps,bd,sc,g,cl,df,kw,dc,pm,an,cd,ct,bi⟩:=d
   simp only [Option.some.injEq,Prod.mk.injEq,Bool.and_eq_true] at h
   obtain ⟨rfl,rfl,rfl,rfl,rfl,rfl,rfl,rfl,rfl,h1,h2⟩:=h
   have kp:PySem.W.keepIn K (.ref f)=true:=by unfold PySem.W.keepIn; dsimp only; rw [e]
   exact ⟨⟨⟨oc,od,kw,dc,pm,an,cd,ct,sl,rfl,e,h1⟩,kp⟩,h2,kp⟩
 . cases h
theorem fuA {L:List Addr} {E:List (Option FV)} (h:L.map (fV K)=E) (i:Nat) {f:Addr} {x q:Str} {st:Stmt} (e1:L[i]?=some f) (e2:E[i]?=some (fE x q st)):fV K f=fE x q st:=by
 rw [<-h,List.getElem?_map,e1] at e2
 exact Option.some.inj e2
theorem fu {L:List Addr} {E:List (Option FV)} (h:L.map (fV K)=E) (i:Nat) {f:Addr} {x q:Str} {st:Stmt} (e1:L[i]?=some f) (e2:E[i]?=some (fE x q st)):Fun K x q st f (fdOf K f):=(fu0 (fuA h i e1 e2)).1
theorem fu2 {L:List Addr} {E:List (Option FV)} (h:L.map (fV K)=E) (i:Nat) {f:Addr} {x q:Str} {st:Stmt} (e1:L[i]?=some f) (e2:E[i]?=some (fE x q st)):PySem.W.isFn K (.ref f)=true:=(fu0 (fuA h i e1 e2)).2.1
theorem fu3 {L:List Addr} {E:List (Option FV)} (h:L.map (fV K)=E) (i:Nat) {f:Addr} {x q:Str} {st:Stmt} (e1:L[i]?=some f) (e2:E[i]?=some (fE x q st)):PySem.W.keepIn K (.ref f)=true:=(fu0 (fuA h i e1 e2)).2.2
variable {h:Heap} {mg:Str->Option Value}
theorem zhR (X:K.In h) (G:h.Ns mainGlobals mg) {x v:Str} (e:gs K x v=true):∃ t,mg x=some (.str v t):=by
 unfold gs at e
 split at e
 . rename_i y t q
   rw [eq_of_beq e] at q
   exact ⟨t,PySem.W.mg_of X G q⟩
 . cases e
theorem ztN (X:K.In h) (G:h.Ns mainGlobals mg) {x:Str} {v:Int} (e:gi K x v=true):∃ t,mg x=some (.int v t):=by
 unfold gi at e
 split at e
 . rename_i y t q
   rw [eq_of_beq e] at q
   exact ⟨t,PySem.W.mg_of X G q⟩
 . cases e
end
theorem walk2 {l:PySem.W.OpenLaw} {n k:Nat} {q:Program} {loose:List Str} {XP:(Str->Option Value)->Heap->Prop} {OB:PySem.W.Frag->Prop} {d:DefRec} {CX:World->CXT} {sp:PySem.W.Frag->Sp} {x:Str}
  (hn:l.most=some n) (hn2:n<=sizeLine) (hdf:d.params.defaults=[]) (hr:Room k callerA)
  (F:∀ (w:World) (mg:Str->Option Value) (fa:Addr) (h:Heap) (K:PySem.W.Frag),OB K->K.In h->h.Ns mainGlobals mg->mg d.name=some (.ref fa) ->
   ∃ fd:FuncData,(∀ (s:Shared) (u:Value),BindsTo s fd ⟨[u],[]⟩ [(x,u)])/\∀ base:Heap,K.In base->base.Ns mainGlobals mg->FnOk l.prog w K mg base (CX w) k fa fd [x] (sp K))
  (hsp:∀ (K:PySem.W.Frag) (H:Hp) (a:Addr) (ns:List Int),ns.length<=n->Only H->SqL K H a (ns.map V.int)->sp K [.ref a] H (λ v _=>v=.bl true) λ _ _ _=>False)
  (hCX:∀ (w:World) (H:Hp) (s:Shared) (e:Value) (s':Shared),CX w [] H s (λ _ _ _=>False) e s'->False) :
  PySem.W.WalkO q loose XP (λ _ h=>∃ K,OB K/\K.In h) l.row.toRowW d [] (λ f vs=>PySem.call f vs):=by
 refine Att.zmu hn hdf λ w s₀ s₁ mg mb fa o pm cd doc a vs ns G Y ho hd hcd hmg hobj hints hlen hg=>?_
 obtain ⟨K,ob,KX⟩:=Y
 obtain ⟨fd,hb,hF⟩:=F w mg fa _ K ob KX G.T.g hmg
 exact zqw KX G.T.g G.T.b G.T.builtins G.T.nolimit hg hobj hints (Nat.le_trans hlen hn2) hr hF hb (λ H hO hS=>hsp K H a ns hlen hO hS) λ H e s'=>hCX w H s₁ e s'
end TP
end
section
namespace TP
open PySem L2 TH
def top (i:Nat):Stmt:=PySem.Challenge.pw_turnhall_k07_who_holds_and_waits.main.body.getD i (.Pass ⟨0,0,0,0⟩)
abbrev ze9:Stmt:=inClass (top 26) 0
abbrev zf1:Stmt:=top 29
abbrev ze1:Stmt:=top 28
abbrev zf2:Stmt:=top 30
abbrev zf3:Stmt:=top 31
abbrev ze3:Stmt:=top 32
abbrev zdE:Stmt:=inClass (top 16) 0
abbrev zeh:Stmt:=inClass (top 26) 1
abbrev zf0:Stmt:=top 3
abbrev zcw:Stmt:=inClass (top 26) 15
abbrev zba:Stmt:=inClass (top 26) 16
abbrev zfd:Stmt:=inClass (top 17) 0
abbrev zcz:Stmt:=inClass (top 17) 1
abbrev zfc:Stmt:=inClass (top 17) 2
abbrev zbV:Stmt:=inClass (top 17) 3
abbrev zfb:Stmt:=inClass (top 17) 5
abbrev zdC:Stmt:=top 5
abbrev zcy:Stmt:=inClass (top 26) 19
abbrev zdg:Stmt:=inClass (top 17) 6
abbrev zbA:Stmt:=inClass (top 17) 9
abbrev zcx:Stmt:=inClass (top 26) 23
abbrev zdf:Stmt:=inClass (top 26) 22
abbrev zbj:Stmt:=inClass (top 26) 21
abbrev zcv:Stmt:=inClass (top 16) 2
abbrev ze6:Stmt:=inClass (top 26) 25
abbrev zdD:Stmt:=top 4
abbrev zbC:Stmt:=inClass (top 16) 3
abbrev zei:Stmt:=inClass (top 17) 7
abbrev zce:Stmt:=inClass (top 17) 4
abbrev zdG:Stmt:=inClass (top 26) 27
abbrev zf5:Stmt:=inClass (top 26) 26
abbrev zfa:Stmt:=inClass (top 26) 24
abbrev ze5:Stmt:=inClass (top 26) 20
abbrev zdH:Stmt:=inClass (top 26) 18
abbrev zf6:Stmt:=inClass (top 26) 17
abbrev ze4:Stmt:=inClass (top 15) 0
abbrev ze7:Stmt:=inClass (top 26) 2
abbrev zeg:Stmt:=inClass (top 26) 3
abbrev ze8:Stmt:=inClass (top 26) 4
abbrev zb4:Stmt:=inClass (top 16) 1
abbrev zdd:Stmt:=inClass (top 26) 5
abbrev ze2:Stmt:=top 33
abbrev zhk:Stmt:=top 34
abbrev zdc:Stmt:=inClass (top 26) 8
abbrev zdF:Stmt:=inClass (top 26) 9
abbrev zcQ:Stmt:=inClass (top 26) 6
abbrev zcu:Stmt:=top 36
abbrev zf4:Stmt:=inClass (top 26) 14
abbrev zef:Stmt:=top 35
abbrev zde:Stmt:=inClass (top 26) 7
abbrev zcd:Stmt:=top 37
abbrev zoL:Stmt:=top 38
structure Fs where
 f:Nat->Addr
 fd:Nat->FuncData
structure Txt (K:PySem.W.Frag) (mg:Str->Option Value) (A:Ad) (F:Fs):Prop where
 ok:AdOk A
 za2:Cls K A.zd7
 zbr:zb1 K A.zd7 "use"
 za6:zb1 K A.zd7 "key"
 zcG:zb1 K A.zd7 "value"
 zq8:mg "Want" = some (.ref A.zd7)
 zpb:Mk K A.zd7 (F.f 35)
 zat:Cls K A.zaB
 zay:zb1 K A.zaB "state"
 zbf:zb1 K A.zaB "did"
 za3:zb1 K A.zaB "want"
 zqG:mg "Record" = some (.ref A.zaB)
 zpc:Mk K A.zaB (F.f 6)
 zaN:Cls K A.zb9
 zbg:zb1 K A.zb9 "held"
 zaX:zb1 K A.zb9 "row"
 zs8:mg "Desk" = some (.ref A.zb9)
 zrU:Mk K A.zb9 (F.f 11)
 zaj:Cls K A.zaZ
 zaA:zb1 K A.zaZ "records"
 zaU:zb1 K A.zaZ "desks"
 zbw:zb1 K A.zaZ "standing"
 zbs:zb1 K A.zaZ "kept_values"
 zc6:zb1 K A.zaZ "kept_deeds"
 zbZ:zb1 K A.zaZ "rows"
 zs7:mg "Hall" = some (.ref A.zaZ)
 zrT:Mk K A.zaZ (F.f 0)
 zmH:Fun K "__init__" "Hall.__init__" ze9 (F.f 0) (F.fd 0)
 zmr:Binds K (F.fd 0) ["self"] []
 zof:Fun K "_law_mix" "_law_mix" zf1 (F.f 1) (F.fd 1)
 zbN:Binds K (F.fd 1) ["_law_cell_here","_law_prime","_law_many"] []
 zbM:mg "_law_mix" = some (.ref (F.f 1))
 zbK:PySem.W.keepIn K (.ref (F.f 1))=true
 zmz:Fun K "_law_cell" "_law_cell" ze1 (F.f 2) (F.fd 2)
 zcj:Binds K (F.fd 2) ["_law_script","_law_k"] []
 zci:mg "_law_cell" = some (.ref (F.f 2))
 zch:PySem.W.keepIn K (.ref (F.f 2))=true
 zgt:Fun K "_law_key" "_law_key" zf2 (F.f 3) (F.fd 3)
 zeM:Binds K (F.fd 3) ["_law_script","_law_k"] []
 zeK:mg "_law_key" = some (.ref (F.f 3))
 zeG:PySem.W.keepIn K (.ref (F.f 3))=true
 zog:Fun K "_law_act" "_law_act" zf3 (F.f 4) (F.fd 4)
 zob:Binds K (F.fd 4) ["_law_script","_law_cell_here","_law_begun"] []
 zn4:mg "_law_act" = some (.ref (F.f 4))
 znW:PySem.W.keepIn K (.ref (F.f 4))=true
 zmB:Fun K "_law_acts" "_law_acts" ze3 (F.f 5) (F.fd 5)
 zmm:Binds K (F.fd 5) ["_law_script"] []
 zmb:mg "_law_acts" = some (.ref (F.f 5))
 zl6:PySem.W.keepIn K (.ref (F.f 5))=true
 zj7:Fun K "__init__" "Record.__init__" zdE (F.f 6) (F.fd 6)
 zjY:Binds K (F.fd 6) ["self"] []
 zlr:Fun K "begin" "Hall.begin" zeh (F.f 7) (F.fd 7)
 zlm:Binds K (F.fd 7) ["self"] []
 zkW:Meth K A.zaZ "begin" (F.f 7)
 zoe:Fun K "is_whole" "is_whole" zf0 (F.f 8) (F.fd 8)
 zoa:Binds K (F.fd 8) ["thing"] []
 zn3:mg "is_whole" = some (.ref (F.f 8))
 znV:PySem.W.keepIn K (.ref (F.f 8))=true
 zgW:Fun K "record_of" "Hall.record_of" zcw (F.f 9) (F.fd 9)
 zbU:Binds K (F.fd 9) ["self","deed"] []
 zbT:Meth K A.zaZ "record_of" (F.f 9)
 zc2:Fun K "refuse_unless_going" "Hall.refuse_unless_going" zba (F.f 10) (F.fd 10)
 zbc:Binds K (F.fd 10) ["self","deed"] []
 zbb:Meth K A.zaZ "refuse_unless_going" (F.f 10)
 zmL:Fun K "__init__" "Desk.__init__" zfd (F.f 11) (F.fd 11)
 zmt:Binds K (F.fd 11) ["self"] []
 zgZ:Fun K "hindering" "Desk.hindering" zcz (F.f 12) (F.fd 12)
 zd1:Binds K (F.fd 12) ["self","deed","use"] []
 zdT:Meth K A.zb9 "hindering" (F.f 12)
 zmK:Fun K "lets" "Desk.lets" zfc (F.f 13) (F.fd 13)
 zh7:Binds K (F.fd 13) ["self","deed","use"] []
 zhF:Meth K A.zb9 "lets" (F.f 13)
 zft:Fun K "lets_at_once" "Desk.lets_at_once" zbV (F.f 14) (F.fd 14)
 zfs:Binds K (F.fd 14) ["self","deed","use"] []
 zfm:Meth K A.zb9 "lets_at_once" (F.f 14)
 zmJ:Fun K "take" "Desk.take" zfb (F.f 15) (F.fd 15)
 zms:Binds K (F.fd 15) ["self","deed","use"] []
 zl1:Meth K A.zb9 "take" (F.f 15)
 zj5:Fun K "value_under" "value_under" zdC (F.f 16) (F.fd 16)
 zjW:Binds K (F.fd 16) ["book","key"] []
 zjM:mg "value_under" = some (.ref (F.f 16))
 zjI:PySem.W.keepIn K (.ref (F.f 16))=true
 zgY:Fun K "carry_out" "Hall.carry_out" zcy (F.f 17) (F.fd 17)
 zd0:Binds K (F.fd 17) ["self","deed","want"] []
 zdS:Meth K A.zaZ "carry_out" (F.f 17)
 ziD:Fun K "line_up" "Desk.line_up" zdg (F.f 18) (F.fd 18)
 ziy:Binds K (F.fd 18) ["self","deed","use"] []
 zis:Meth K A.zb9 "line_up" (F.f 18)
 zd9:Fun K "next_waited_for" "Desk.next_waited_for" zbA (F.f 19) (F.fd 19)
 zd8:Binds K (F.fd 19) ["self","deed","use"] []
 zd5:Meth K A.zb9 "next_waited_for" (F.f 19)
 zgX:Fun K "next_from" "Hall.next_from" zcx (F.f 20) (F.fd 20)
 zgS:Binds K (F.fd 20) ["self","deed"] []
 zgM:Meth K A.zaZ "next_from" (F.f 20)
 ziC:Fun K "come_to" "Hall.come_to" zdf (F.f 21) (F.fd 21)
 zeX:Binds K (F.fd 21) ["self","deed"] []
 zeV:Meth K A.zaZ "come_to" (F.f 21)
 zdm:Fun K "greatest_all_round" "Hall.greatest_all_round" zbj (F.f 22) (F.fd 22)
 zbS:Binds K (F.fd 22) ["self","deed"] []
 zbR:Meth K A.zaZ "greatest_all_round" (F.f 22)
 zgV:Fun K "written" "Record.written" zcv (F.f 23) (F.fd 23)
 zdZ:Binds K (F.fd 23) ["self"] []
 zdR:Meth K A.zaB "written" (F.f 23)
 zmE:Fun K "undo" "Hall.undo" ze6 (F.f 24) (F.fd 24)
 zmo:Binds K (F.fd 24) ["self","deed"] []
 zlY:Meth K A.zaZ "undo" (F.f 24)
 zj6:Fun K "rising_keys" "rising_keys" zdD (F.f 25) (F.fd 25)
 zjX:Binds K (F.fd 25) ["given"] []
 zjN:mg "rising_keys" = some (.ref (F.f 25))
 zjJ:PySem.W.keepIn K (.ref (F.f 25))=true
 zez:Fun K "touched_keys" "Record.touched_keys" zbC (F.f 26) (F.fd 26)
 zey:Binds K (F.fd 26) ["self"] []
 zer:Meth K A.zaB "touched_keys" (F.f 26)
 zls:Fun K "leave" "Desk.leave" zei (F.f 27) (F.fd 27)
 zln:Binds K (F.fd 27) ["self","deed"] []
 zkX:Meth K A.zb9 "leave" (F.f 27)
 zgv:Fun K "lets_first" "Desk.lets_first" zce (F.f 28) (F.fd 28)
 zgq:Binds K (F.fd 28) ["self"] []
 zgd:Meth K A.zb9 "lets_first" (F.f 28)
 zj9:Fun K "let_on" "Hall.let_on" zdG (F.f 29) (F.fd 29)
 zjZ:Binds K (F.fd 29) ["self","key"] []
 zjE:Meth K A.zaZ "let_on" (F.f 29)
 zoi:Fun K "end" "Hall.end" zf5 (F.f 30) (F.fd 30)
 zi9:Binds K (F.fd 30) ["self","deed","state"] []
 ziS:Meth K A.zaZ "end" (F.f 30)
 zmI:Fun K "drop" "Hall.drop" zfa (F.f 31) (F.fd 31)
 zh6:Binds K (F.fd 31) ["self","deed"] []
 zhE:Meth K A.zaZ "drop" (F.f 31)
 zmD:Fun K "wait" "Hall.wait" ze5 (F.f 32) (F.fd 32)
 zmn:Binds K (F.fd 32) ["self","deed","want"] []
 zlX:Meth K A.zaZ "wait" (F.f 32)
 zka:Fun K "answer" "Hall.answer" zdH (F.f 33) (F.fd 33)
 zj0:Binds K (F.fd 33) ["self","deed","want"] []
 zjF:Meth K A.zaZ "answer" (F.f 33)
 zoj:Fun K "ask" "Hall.ask" zf6 (F.f 34) (F.fd 34)
 zja:Binds K (F.fd 34) ["self","deed","want"] []
 ziT:Meth K A.zaZ "ask" (F.f 34)
 zmC:Fun K "__init__" "Want.__init__" ze4 (F.f 35) (F.fd 35)
 zh5:Binds K (F.fd 35) ["self","use","key","value"] []
 zmF:Fun K "read" "Hall.read" ze7 (F.f 36) (F.fd 36)
 zmp:Binds K (F.fd 36) ["self","deed","key"] []
 zlZ:Meth K A.zaZ "read" (F.f 36)
 zlq:Fun K "write" "Hall.write" zeg (F.f 37) (F.fd 37)
 zll:Binds K (F.fd 37) ["self","deed","key","value"] []
 zkV:Meth K A.zaZ "write" (F.f 37)
 zmG:Fun K "keep" "Hall.keep" ze8 (F.f 38) (F.fd 38)
 zmq:Binds K (F.fd 38) ["self","deed"] []
 zl0:Meth K A.zaZ "keep" (F.f 38)
 zfT:Fun K "is_at_end" "Record.is_at_end" zb4 (F.f 39) (F.fd 39)
 zfR:Binds K (F.fd 39) ["self"] []
 zfG:Meth K A.zaB "is_at_end" (F.f 39)
 ziA:Fun K "give_up" "Hall.give_up" zdd (F.f 40) (F.fd 40)
 ziw:Binds K (F.fd 40) ["self","deed"] []
 ziq:Meth K A.zaZ "give_up" (F.f 40)
 zmA:Fun K "_law_call" "_law_call" ze2 (F.f 41) (F.fd 41)
 zml:Binds K (F.fd 41) ["_law_hall","_law_act_here"] []
 zma:mg "_law_call" = some (.ref (F.f 41))
 zl5:PySem.W.keepIn K (.ref (F.f 41))=true
 zpY:Fun K "_law_do" "_law_do" zhk (F.f 42) (F.fd 42)
 zpV:Binds K (F.fd 42) ["_law_hall","_law_act_here"] []
 zpw:mg "_law_do" = some (.ref (F.f 42))
 zpj:PySem.W.keepIn K (.ref (F.f 42))=true
 ziz:Fun K "holders" "Hall.holders" zdc (F.f 43) (F.fd 43)
 zeW:Binds K (F.fd 43) ["self","key"] []
 zeU:Meth K A.zaZ "holders" (F.f 43)
 zj8:Fun K "row_of" "Hall.row_of" zdF (F.f 44) (F.fd 44)
 zfS:Binds K (F.fd 44) ["self","key"] []
 zfH:Meth K A.zaZ "row_of" (F.f 44)
 zid:Fun K "state_of" "Hall.state_of" zcQ (F.f 45) (F.fd 45)
 zb8:Binds K (F.fd 45) ["self","deed"] []
 zb5:Meth K A.zaZ "state_of" (F.f 45)
 zgU:Fun K "_law_key_right" "_law_key_right" zcu (F.f 46) (F.fd 46)
 zgR:Binds K (F.fd 46) ["_law_hall","_law_key_here"] []
 zgO:mg "_law_key_right" = some (.ref (F.f 46))
 zgN:PySem.W.keepIn K (.ref (F.f 46))=true
 zoh:Fun K "log" "Hall.log" zf4 (F.f 47) (F.fd 47)
 zoc:Binds K (F.fd 47) ["self"] []
 znT:Meth K A.zaZ "log" (F.f 47)
 zlp:Fun K "_law_count" "_law_count" zef (F.f 48) (F.fd 48)
 zlk:Binds K (F.fd 48) ["_law_hall"] []
 zk7:mg "_law_count" = some (.ref (F.f 48))
 zk4:PySem.W.keepIn K (.ref (F.f 48))=true
 ziB:Fun K "done_by" "Hall.done_by" zde (F.f 49) (F.fd 49)
 zix:Binds K (F.fd 49) ["self","deed"] []
 zir:Meth K A.zaZ "done_by" (F.f 49)
 zgu:Fun K "_law_deed_right" "_law_deed_right" zcd (F.f 50) (F.fd 50)
 zgp:Binds K (F.fd 50) ["_law_hall","_law_deed"] []
 zgk:mg "_law_deed_right" = some (.ref (F.f 50))
 zgh:PySem.W.keepIn K (.ref (F.f 50))=true
 ztV:Fun K "law" "law" zoL (F.f 51) (F.fd 51)
 b_law:Binds K (F.fd 51) ["_law_script"] []
 ztO:mg "law" = some (.ref (F.f 51))
 k_law:PySem.W.keepIn K (.ref (F.f 51))=true
 zr0:∃ t,mg "BEGIN" = some (.str "begin" t)
 zjO:∃ t,mg "FIRST_VALUE" = some (.int 0 t)
 zgm:∃ t,mg "GIVEN_UP" = some (.str "given up" t)
 zpy:∃ t,mg "GIVE_UP" = some (.str "give up" t)
 zmd:∃ t,mg "GOING" = some (.str "going" t)
 zs6:∃ t,mg "KEEP" = some (.str "keep" t)
 zq9:∃ t,mg "KEPT" = some (.str "kept" t)
 zs5:∃ t,mg "READ" = some (.str "read" t)
 zpx:∃ t,mg "READING" = some (.str "reading" t)
 zk8:∃ t,mg "WAITING" = some (.str "waiting" t)
 zmc:∃ t,mg "WRITE" = some (.str "write" t)
 zdw:∃ t,mg "WRITING" = some (.str "writing" t)
 zqH:mg "NoDeed" = some (.ref A.zh2)
 zpZ:PySem.W.excIn K A.zh2 [.type "ValueError",.type "Exception",.type "BaseException",.type "object"] "ValueError.__new__" = true
 zgl:mg "NotGoing" = some (.ref A.zcZ)
 ziE:PySem.W.excIn K A.zcZ [.type "ValueError",.type "Exception",.type "BaseException",.type "object"] "ValueError.__new__" = true
 zns:PySem.W.ktsIn K A.zcZ "BaseException" = true
 zrS:mg "all" = none
 zsZ:mg "bool" = none
 zqZ:mg "dict" = none
 zo7:mg "int" = none
 zgF:mg "isinstance" = none
 zjB:mg "len" = none
 zhD:mg "range" = none
 ztH:mg "set" = none
 zg4:mg "sorted" = none
 zhC:mg "tuple" = none
local macro_rules | `(tactic| trivial) => `(tactic| exact ⟨rfl, rfl, rfl, by decide +kernel, rfl, by decide +kernel, by decide +kernel⟩)
theorem zkt:zap ["self"] ["self"] (zak ze9):=by trivial
theorem zlI:zap ["_law_cell_here","_law_prime","_law_many"] ["_law_cell_here","_law_prime","_law_many"] (zak zf1):=by trivial
theorem zkp:zap ["_law_script","_law_k"] ["_law_script","_law_k"] (zak ze1):=by trivial
theorem zbp:zap ["_law_script","_law_k","_law_letters","_law_seed","_law_tail"] ["_law_script","_law_k"] (zak zf2):=by trivial
theorem zcN:zap ["_law_script","_law_cell_here","_law_begun","_law_deed","_law_key_here","_law_turn","_law_many"] ["_law_script","_law_cell_here","_law_begun"] (zak zf3):=by trivial
theorem zbY:zap ["_law_script","_law_found","_law_begun","_law_cell_here","_law_act_here"] ["_law_script"] (zak ze3):=by trivial
theorem zih:zap ["self"] ["self"] (zak zdE):=by trivial
theorem zfy:zap ["self","deed"] ["self"] (zak zeh):=by trivial
theorem zlH:zap ["thing"] ["thing"] (zak zf0):=by trivial
theorem zfZ:zap ["self","deed"] ["self","deed"] (zak zcw):=by trivial
theorem zcO:zap ["self","deed"] ["self","deed"] (zak zba):=by trivial
theorem zkx:zap ["self"] ["self"] (zak zfd):=by trivial
theorem zdp:zap ["self","deed","use","others"] ["self","deed","use"] (zak zcz):=by trivial
theorem zkw:zap ["self","deed","use"] ["self","deed","use"] (zak zfc):=by trivial
theorem zeN:zap ["self","deed","use"] ["self","deed","use"] (zak zbV):=by trivial
theorem zkv:zap ["self","deed","use"] ["self","deed","use"] (zak zfb):=by trivial
theorem zif:zap ["book","key"] ["book","key"] (zak zdC):=by trivial
theorem zcc:zap ["self","deed","want","record","before"] ["self","deed","want"] (zak zcy):=by trivial
theorem zhj:zap ["self","deed","use"] ["self","deed","use"] (zak zdg):=by trivial
theorem zb3:zap ["self","deed","use","place"] ["self","deed","use"] (zak zbA):=by trivial
theorem zdo:zap ["self","deed","want"] ["self","deed"] (zak zcx):=by trivial
theorem zbB:zap ["self","deed","found","left","last","other"] ["self","deed"] (zak zdf):=by trivial
theorem za9:zap ["self","deed","found","rising"] ["self","deed"] (zak zbj):=by trivial
theorem zfY:zap ["self"] ["self"] (zak zcv):=by trivial
theorem zed:zap ["self","deed","key","value"] ["self","deed"] (zak ze6):=by trivial
theorem zig:zap ["given"] ["given"] (zak zdD):=by trivial
theorem zca:zap ["self","touched"] ["self"] (zak zbC):=by trivial
theorem zjl:zap ["self","deed"] ["self","deed"] (zak zei):=by trivial
theorem zfz:zap ["self"] ["self"] (zak zce):=by trivial
theorem zdb:zap ["self","key","desk","first"] ["self","key"] (zak zdG):=by trivial
theorem zcP:zap ["self","deed","state","record","touched","key"] ["self","deed","state"] (zak zf5):=by trivial
theorem zku:zap ["self","deed"] ["self","deed"] (zak zfa):=by trivial
theorem zc4:zap ["self","deed","want","record","greatest"] ["self","deed","want"] (zak ze5):=by trivial
theorem zeQ:zap ["self","deed","want","record"] ["self","deed","want"] (zak zdH):=by trivial
theorem zhi:zap ["self","deed","want","desk"] ["self","deed","want"] (zak zf6):=by trivial
theorem zkr:zap ["self","use","key","value"] ["self","use","key","value"] (zak ze4):=by trivial
theorem zks:zap ["self","deed","key"] ["self","deed","key"] (zak ze7):=by trivial
theorem zjk:zap ["self","deed","key","value"] ["self","deed","key","value"] (zak zeg):=by trivial
theorem zee:zap ["self","deed","key","value"] ["self","deed"] (zak ze8):=by trivial
theorem ze0:zap ["self"] ["self"] (zak zb4):=by trivial
theorem zhg:zap ["self","deed"] ["self","deed"] (zak zdd):=by trivial
theorem zkq:zap ["_law_hall","_law_act_here"] ["_law_hall","_law_act_here"] (zak ze2):=by trivial
theorem zeC:zap ["_law_hall","_law_act_here","_law_told"] ["_law_hall","_law_act_here"] (zak zhk):=by trivial
theorem zhf:zap ["self","key"] ["self","key"] (zak zdc):=by trivial
theorem zii:zap ["self","key"] ["self","key"] (zak zdF):=by trivial
theorem zgL:zap ["self","deed"] ["self","deed"] (zak zcQ):=by trivial
theorem zaR:zap ["_law_hall","_law_key_here","_law_held","_law_row","_law_deed","_law_way","_law_others"] ["_law_hall","_law_key_here"] (zak zcu):=by trivial
theorem zlJ:zap ["self"] ["self"] (zak zf4):=by trivial
theorem zjj:zap ["_law_hall"] ["_law_hall"] (zak zef):=by trivial
theorem zhh:zap ["self","deed"] ["self","deed"] (zak zde):=by trivial
theorem zbd:zap ["_law_hall","_law_deed","_law_kind","_law_key_here","_law_value","_law_held"] ["_law_hall","_law_deed"] (zak zcd):=by trivial
theorem zgy:zap ["_law_script","_law_hall","_law_act_here","_law_keys","_law_stand","_law_key_here","_law_many"] ["_law_script"] (zak zoL):=by trivial
end TP
end
section
namespace TP
open PySem L2 TH PyProof.Rows
theorem hmr {j k:Nat} {A:Around} (r:Room k A) (h:j<=k:=by decide):Room j A:=r.mono h
theorem sz1:1<=sizeLine:=by rw [sizeLine_eq]; decide
theorem sz2:2<=sizeLine:=by rw [sizeLine_eq]; decide
theorem sz3:3<=sizeLine:=by rw [sizeLine_eq]; decide
theorem sz4:4<=sizeLine:=by rw [sizeLine_eq]; decide
theorem sz5:5<=sizeLine:=by rw [sizeLine_eq]; decide
theorem sz6:6<=sizeLine:=by rw [sizeLine_eq]; decide
local macro_rules | `(tactic| walk_at "loc") => `(tactic| first | exact Or.inl rfl | exact Or.inr rfl)
local macro_rules | `(tactic| walk_at "blk") => `(tactic| (
 refine ⟨rfl,by decide +kernel,by decide +kernel,?_,by decide +kernel,rfl,?_⟩
 . (repeat' (first | exact List.forall_mem_nil _ | refine List.forall_mem_cons.mpr ⟨?_,?_⟩)) <;> (first | (intro h; exact absurd h (by decide)) | exact (λ _=>Or.inl rfl) | exact (λ _=>Or.inr rfl))
 . intro i j x h1 h2
   rcases i with _ | _ | _ | _ | i <;> (first | (simp at h2; done) | (cases h1; cases h2; exact ⟨rfl,rfl,by first | exact Or.inl rfl | exact Or.inr rfl⟩))))
section
variable {P:Program} {w:World} {K:PySem.W.Frag} {mg:Str->Option Value} {base:Heap} {A:Ad} {F:Fs}
theorem zlR (T:Txt K mg A F):FnOk P w K mg base (CX1 P w) 1 (F.f 8) (F.fd 8) ["thing"] zoB:=by
 refine T.zoe.okN zlH (λ vs H Q E h=>?_) (λ cdv A' outer s H vs Q E hr h=>?_)
 . obtain ⟨i,rfl,_⟩:=h
   rfl
 . obtain ⟨i,rfl,k⟩:=h
   refine ⟨_,(zag (zaw (zoW (za7 zh1 (by rfl) T.zgF boot_isinstance (zaa (pv 0) (zaa (zsS rfl T.zo7 boot_int) zad))) (zkA (zsR (za7 zh1 (by rfl) T.zgF boot_isinstance (zaa (pv 0) (zaa (zsS rfl T.zsZ boot_bool) zad)))))))),?_⟩
   refine ⟨_,rfl,_,_,_,_,rfl,.int i,rfl,_,rfl,?_⟩
   refine iteT ?_
   refine ⟨_,rfl,_,_,_,_,rfl,.int i,rfl,_,rfl,?_⟩
   exact k
theorem zik (T:Txt K mg A F):FnOk P w K mg base (CX1 P w) 1 (F.f 25) (F.fd 25) ["given"] (zgx K):=by
 refine T.zj6.okN zig (λ vs H Q E h=>?_) (λ cdv A' outer s H vs Q E hr h=>?_)
 . obtain ⟨p,xs,rfl,_⟩:=h
   rfl
 . obtain ⟨p,xs,rfl,src,hl,h64,k⟩:=h
   refine ⟨_,(zag (zaw (zbv zcK (by rfl) T.zhC boot_tuple (zaa (za7 (zh0 rfl) (by rfl) T.zg4 boot_sorted (zaa (zbv (zqL rfl) (by rfl) T.ztH boot_set (zaa (pv 0) zad)) zad)) zad)))),?_⟩
   refine ⟨_,rfl,p,_,rfl,src,zou xs,by rw [List.length_map]; exact hl,λ q hq=>?_⟩
   refine ⟨q,_,rfl,zab,S6.zpK _,znv xs,by rw [(zpJ xs).length_eq,List.length_map]; exact h64,λ ys l pm pw hl=>?_⟩
   refine ⟨l,_,rfl,.inl ⟨SqL.of zab,λ r hr=>?_⟩⟩
   have e:ys=(ordS xs).map Sum.inr:=zlB (λ k=>by
    rw [pm.mem_iff,S6.zjD,List.mem_map]
    exact ⟨λ ⟨x,h,e⟩=>⟨x,h,e.symm⟩,λ ⟨x,h,e⟩=>⟨x,h,e.symm⟩⟩) pw
   subst e
   refine k _ r (((Same.zaq hq).upd2 hl).free hr) (((Same.zaq hq).upd2 hl).upd2 hr) ?_
   rw [zab,zq1]
theorem zij (T:Txt K mg A F):FnOk P w K mg base (CX1 P w) 1 (F.f 16) (F.fd 16) ["book","key"] zki:=by
 refine T.zj5.okN zif (λ vs H Q E h=>?_) (λ cdv A' outer s H vs Q E hr h=>?_)
 . obtain ⟨p,k,l,b,rfl,_⟩:=h
   rfl
 . obtain ⟨p,k,l,b,rfl,hp,hb,q⟩:=h
   have hu:=zdL hr
   refine ⟨_,(zag (zaw (zqk hu (pv 0) (pv 1) (ztE rfl T.zjO) ⟨rfl,rfl,rfl,rfl⟩))),?_⟩
   refine ⟨_,rfl,p,rfl,.inl ⟨_,.of hp⟩,_,rfl,_,DGet.k (k:=Sum.inr k) hp,?_⟩
   rw [hb.val]
   cases e:b k with
   | none=>rw [e] at q; exact q
   | some v=>rw [e] at q; exact q
theorem zgC (T:Txt K mg A F):FnOk P w K mg base (CX1 P w) 1 (F.f 35) (F.fd 35) ["self","use","key","value"] (zny A):=by
 refine T.zmC.okN zkr (λ vs H Q E h=>?_) (λ cdv A' outer s H vs Q E hr h=>?_)
 . obtain ⟨p,dx,w,k,v,rfl,_⟩:=h
   rfl
 . obtain ⟨p,dx,w,k,v,rfl,hp,q⟩:=h
   refine ⟨_,(zac (zbQ (pv 0) (pv 1) rfl)
    (zac (zbQ (pv 0) (pv 2) rfl)
    (zag (zbQ (pv 0) (pv 3) rfl)))),?_⟩
   refine ⟨_,rfl,_,rfl,p,_,dx,_,rfl,hp,T.za2,T.zbr,Nat.le_of_ble_eq_true rfl,_,rfl,_,rfl,p,_,dx,_,rfl,zab,T.za2,T.za6,Nat.le_of_ble_eq_true rfl,_,rfl,_,rfl,p,_,dx,_,rfl,zab,T.za2,T.zcG,Nat.le_of_ble_eq_true rfl,?_⟩
   refine q _ (by rw [zab]; rfl) λ b o e hb=>?_
   rw [zae hb,zae hb,zae hb]; exact e
theorem zim (T:Txt K mg A F):FnOk P w K mg base (CX1 P w) 1 (F.f 6) (F.fd 6) ["self"] (zkj A):=by
 refine T.zj7.okN zih (λ vs H Q E h=>?_) (λ cdv A' outer s H vs Q E hr h=>?_)
 . obtain ⟨p,dx,rfl,_⟩:=h
   rfl
 . obtain ⟨p,dx,rfl,hp,q⟩:=h
   refine ⟨_,(zac (zbQ (pv 0) (zcE rfl T.zmd) rfl)
     (zac (zbQ (pv 0) (zcU zad) rfl)
     (zag (zbQ (pv 0) zgA rfl)))),?_⟩
   refine ⟨_,rfl,p,_,dx,_,rfl,hp,T.zat,T.zay,Nat.le_of_ble_eq_true rfl,Nat.le_of_ble_eq_true rfl,λ d hd=>⟨_,rfl,p,_,dx,_,rfl,zao zab hd,T.zat,T.zbf,Nat.le_of_ble_eq_true rfl,_,rfl,p,_,dx,_,rfl,zab,T.zat,T.za3,Nat.le_of_ble_eq_true rfl,?_⟩⟩
   have hpd:p≠d:=zaf zab hd
   refine q _ d ?_ (by rw [zab]; rfl) ?_ λ b o e hb=>?_
   . rw [zae hpd.symm] at hd; exact hd
   . rw [zae hpd.symm,zae hpd.symm,zab]
   . have hbd:b≠d:=λ z=>by
      rw [zae hpd.symm] at hd
      rw [z,hd] at e; cases e
     rw [zae hb,zae hb,zae hbd,zae hb]; exact e
theorem zfj (T:Txt K mg A F):FnOk P w K mg base (CX1 P w) 1 (F.f 39) (F.fd 39) ["self"] (zoC A):=by
 refine T.zfT.okN ze0 (λ vs H Q E h=>?_) (λ cdv A' outer s H vs Q E hr h=>?_)
 . obtain ⟨p,dx,d,st,w,rfl,_⟩:=h
   rfl
 . obtain ⟨p,dx,d,st,w,rfl,hp,q⟩:=h
   refine ⟨_,(zag (zaw (zsQ (zdi zcg (zal (pv 0) rfl) (zcE rfl T.zq9) (zaI _)) (zkA (zdi zcg (zal (pv 0) rfl) (zcE rfl T.zgm) (zaI _)))))),?_⟩
   refine ⟨_,rfl,p,_,dx,_,_,rfl,hp,T.zat,T.zay,rfl,rfl,_,rfl,?_⟩
   cases st with
   | kept=>exact q
   | dropped=>exact ⟨_,rfl,p,_,dx,_,_,rfl,hp,T.zat,T.zay,rfl,rfl,q⟩
   | zar=>exact ⟨_,rfl,p,_,dx,_,_,rfl,hp,T.zat,T.zay,rfl,rfl,q⟩
   | waiting=>exact ⟨_,rfl,p,_,dx,_,_,rfl,hp,T.zat,T.zay,rfl,rfl,q⟩
theorem zdq (T:Txt K mg A F):FnOk P w K mg base (CX1 P w) 1 (F.f 23) (F.fd 23) ["self"] (zoy A):=by
 refine T.zgV.okN zfY (λ vs H Q E h=>?_) (λ cdv A' outer s H vs Q E hr h=>?_)
 . obtain ⟨p,st,d,w,done,rfl,_⟩:=h
   rfl
 . obtain ⟨p,st,d,w,done,rfl,⟨⟨dx,hp⟩,us,hd,tu⟩,hl,q⟩:=h
   refine ⟨_,(zag (zaw (zcV 3 [] ["act","key","value"] rfl (by walk_at "blk") (zcS (zal (pv 0) rfl)) (λ C fp s H=>(zlN (K:=K) (n:=3) rfl rfl (za1 (zaE (i:=0) (show (["act","key","value"]:List Str).Nodup by decide +kernel) rfl (by walk_at "loc")) (za1 (zaE (i:=1) (show (["act","key","value"]:List Str).Nodup by decide +kernel) rfl (by walk_at "loc")) (za1 (zaE (i:=2) (show (["act","key","value"]:List Str).Nodup by decide +kernel) rfl (by walk_at "loc")) zen))))) (λ C fp s H=>zff (zaz zcg (pv 0) (zcE rfl T.zmc) (zaI _))) (λ C fp s H=>(zbD (zaa (pv 1) (zaa (pv 2) zad))))))),?_⟩
   refine ⟨_,rfl,p,_,dx,_,_,rfl,hp,T.zat,T.zbf,rfl,d,rfl,⟨_,SqL.of hd⟩,?_⟩
   have hul:us.length=done.length:=by rw [tu.length,List.length_map]
   have hz:us.length<=sizeLine:=by rw [hul,sizeLine_eq]; omega
   refine zex (xs:=us) (λ i ys σ H2=>∃ v0 v1 v2,σ=[v0,v1,v2]/\Same H H2/\ys.length<=i/\zau H2 ys ((zas (done.take i)).map ziF)) ⟨none,none,none,rfl,Same.refl H,Nat.le_refl _,.nil⟩ (λ i ys σ H2 ⟨_,_,_,_,s2,hy,_⟩=>⟨SqL.of (s2 _ _ hd),hy⟩) hz ?_ ?_
   . rintro i x ys σ H2 hlt hx ⟨v0,v1,v2,rfl,s2,hy,t⟩
     obtain ⟨y,hy1,r,rfl,hr1⟩:=zck tu hx
     rw [List.getElem?_map] at hy1
     obtain ⟨a,ha,rfl⟩:=Option.map_eq_some_iff.mp hy1
     have e1:done.take (i+1)=done.take i++[a]:=by rw [List.take_add_one,ha]; rfl
     refine ⟨r,_,rfl,SqT.of (s2 _ _ hr1),rfl,_,_,rfl,_,_,rfl,_,_,rfl,rfl,_,rfl,rfl,_,rfl,?_⟩
     cases hw:a.wr with
     | true =>
      refine ⟨_,rfl,_,rfl,sz2,λ n hn=>nx hlt ⟨_,_,_,rfl,s2.upd2 hn,by rw [List.length_append,List.length_singleton]; omega,?_⟩⟩
      rw [e1,zcD,hw,List.map_append]
      exact S6.zco (zbk (Same.zaq hn) t) ⟨n,rfl,zab⟩
     | false =>
      refine nx hlt ⟨_,_,_,rfl,s2,by omega,?_⟩
      rw [e1,zcD,hw]
      simp only [Bool.false_eq_true,if_false,List.append_nil]
      exact t
   . rintro ys σ H2 ⟨v0,v1,v2,rfl,s2,hy,t⟩
     rw [hul,List.take_length] at t
     intro n hn
     exact q _ n ys (s2.upd2 hn) zab (zbk (Same.zaq hn) t)
theorem zd4 (T:Txt K mg A F):FnOk P w K mg base (CX1 P w) 2 (F.f 26) (F.fd 26) ["self"] (zoz A):=by
 have G_rising_keys:=@zik P w K mg base A F T
 refine T.zez.okN zca (λ vs H Q E h=>?_) (λ cdv A' outer s H vs Q E hr h=>?_)
 . obtain ⟨p,st,d,w,done,o,rfl,_⟩:=h
   rfl
 . obtain ⟨p,st,d,w,done,o,rfl,⟨⟨dx,hp⟩,us,hd,tu⟩,hw,hl,h64,q⟩:=h
   refine ⟨_,(zac (zeD (i:=1) 3 [] ["act","key","value"] zca.nd rfl (by walk_at "loc") rfl (by walk_at "blk") (zcS (zal (pv 0) rfl)) (λ C fp s H=>(zlN (K:=K) (n:=3) rfl rfl (za1 (zaE (i:=0) (show (["act","key","value"]:List Str).Nodup by decide +kernel) rfl (by walk_at "loc")) (za1 (zaE (i:=1) (show (["act","key","value"]:List Str).Nodup by decide +kernel) rfl (by walk_at "loc")) (za1 (zaE (i:=2) (show (["act","key","value"]:List Str).Nodup by decide +kernel) rfl (by walk_at "loc")) zen))))) (λ C fp s H=>zek) (λ C fp s H=>(pv 1)))
     (zac (zbq (zel (zoX (zal (pv 0) rfl))) (zag (zaM (zeo PySem.F.plainAttrs_list PySem.F.slot_list_append PySem.F.type_list_append zbx (pv 1) (zaa (zal (zal (pv 0) rfl) rfl) zad)))) zaH)
     (zag (zaw (zaT G_rising_keys (hmr hr) rfl T.zjN T.zjJ T.zjX .nil zaF (zaa (pv 1) zad)))))),?_⟩
   have hul:us.length=done.length:=by rw [tu.length,List.length_map]
   refine ⟨_,rfl,p,_,dx,_,_,rfl,hp,T.zat,T.zbf,rfl,d,rfl,⟨_,SqL.of hd⟩,?_⟩
   refine zex (xs:=us) (λ i ys σ H2=>∃ v0 v1 v2,σ=[v0,v1,v2]/\H2=H/\ys=(done.take i).map λ a=>V.str a.key) ⟨none,none,none,rfl,rfl,rfl⟩ (λ i ys σ H2 ⟨_,_,_,_,e,hy⟩=>⟨SqL.of (by rw [e]; exact hd),by rw [hy,List.length_map,List.length_take]; omega⟩) (by rw [hul,sizeLine_eq]; omega) ?_ ?_
   . rintro i x ys σ H2 hlt hx ⟨v0,v1,v2,rfl,rfl,rfl⟩
     obtain ⟨y,hy1,r,rfl,hr1⟩:=zck tu hx
     rw [List.getElem?_map] at hy1
     obtain ⟨a,ha,rfl⟩:=Option.map_eq_some_iff.mp hy1
     have e1:done.take (i+1)=done.take i++[a]:=by rw [List.take_add_one,ha]; rfl
     refine ⟨r,_,rfl,SqT.of hr1,rfl,_,_,rfl,_,_,rfl,_,_,rfl,rfl,_,rfl,nx hlt ⟨_,_,_,rfl,rfl,?_⟩⟩
     rw [e1,List.map_append]; rfl
   . rintro ys σ H2 ⟨v0,v1,v2,rfl,rfl,rfl⟩
     rw [hul,List.take_length]
     intro n hn
     have hpn:upd H2 n (.lst (done.map λ a=>V.str a.key)) p=some (.ins A.zaB dx (recF st d w)):=zao hp hn
     refine ⟨_,rfl,p,_,dx,_,_,rfl,hpn,T.zat,T.za3,rfl,_,rfl,?_⟩
     have fin:∀ (H3:Hp) (xs:List Str),Same H2 H3->H3 n=some (.lst (xs.map V.str))->xs=done.map (·.key)++zc3 o->zgx K [V.ref n] H3 Q EF:=λ H3 xs s3 e3 ex=>by
      subst ex
      refine ⟨n,done.map (·.key)++zc3 o,rfl,.inl (SqL.of (by rw [zq1]; exact e3)),?_,h64,λ H' q' nq m e=>q H' q' (s3.free nq) (s3.trans m) e⟩
      rw [List.length_append,List.length_map]
      cases o <;> simp only [zc3,List.length_nil,List.length_singleton] <;> omega
     cases o with
     | none =>
      have hw':w=.non:=hw
      subst hw'
      exact ⟨_,rfl,fin _ (done.map (·.key)) (Same.zaq hn) (by rw [zab,List.map_map]; rfl) (by simp [zc3])⟩
     | some a =>
      obtain ⟨pw,dw,rfl,hpw⟩:=hw
      have hpw':=zao (o:=HO.lst (done.map λ a=>V.str a.key)) hpw hn
      refine ⟨_,rfl,.inl ⟨rfl,_,SqL.of zab⟩,_,rfl,p,_,dx,_,_,rfl,hpn,T.zat,T.za3,rfl,pw,_,dw,_,_,rfl,hpw',T.za2,T.za6,rfl,n,_,_,rfl,rfl,zab,by rw [List.length_map,sizeLine_eq]; omega,_,rfl,?_⟩
      refine fin _ (done.map (·.key)++[a.key]) ?_ ?_ rfl
      . rw [zjd]; exact Same.zaq hn
      . rw [zab,List.map_append,List.map_map]; rfl
theorem zkP (T:Txt K mg A F):FnOk P w K mg base (CX1 P w) 1 (F.f 11) (F.fd 11) ["self"] (znF A):=by
 refine T.zmL.okN zkx (λ vs H Q E h=>?_) (λ cdv A' outer s H vs Q E hr h=>?_)
 . obtain ⟨p,dx,rfl,_⟩:=h
   rfl
 . obtain ⟨p,dx,rfl,hp,q⟩:=h
   refine ⟨_,(zac (zbQ (pv 0) zfC rfl)
     (zag (zbQ (pv 0) (zcU zad) rfl))),?_⟩
   intro hd nh
   have hph:p≠hd:=zaf hp nh
   refine ⟨_,rfl,p,_,dx,_,rfl,zao hp nh,T.zaN,T.zbg,Nat.le_of_ble_eq_true rfl,Nat.le_of_ble_eq_true rfl,λ rw nr=>?_⟩
   have hpr:p≠rw:=zaf zab nr
   have nr1:upd H hd (.dK []) rw=none:=by rw [zae hpr.symm] at nr; exact nr
   have hhr:hd≠rw:=zaf zab nr1
   have nr2:H rw=none:=by rw [zae hhr.symm] at nr1; exact nr1
   refine ⟨_,rfl,p,_,dx,_,rfl,zao zab nr,T.zaN,T.zaX,Nat.le_of_ble_eq_true rfl,?_⟩
   refine q _ hd rw nh nr2 (by rw [zab]; rfl) ?_ ?_ λ b o e hb=>?_
   . rw [zae hph.symm,zae hhr,zae hph.symm,zab]
   . rw [zae hpr.symm,zab]
   . rw [zae hb,zae (zaf e nr2),zae hb,zae (zaf e nh)]; exact e
theorem zds (T:Txt K mg A F):FnOk P w K mg base (CX1 P w) 1 (F.f 12) (F.fd 12) ["self","deed","use"] (zly A):=by
 refine T.zgZ.okN zdp (λ vs H Q E h=>?_) (λ cdv A' outer s H vs Q E hr h=>?_)
 . obtain ⟨p,hd,rw,h,r,d,w,rfl,_⟩:=h
   rfl
 . obtain ⟨p,hd,rw,h,r,d,w,rfl,⟨⟨dx,hp⟩,hh,_⟩,hl,hnd,q⟩:=h
   have hu:=zdL hr
   refine ⟨_,(zac (zoR (zeD (i:=3) 1 [1] ["other","deed"] zdp.nd rfl (by walk_at "loc") rfl (by walk_at "blk") (zlM (zal (pv 0) rfl)) (λ C fp s H=>(zaE (i:=0) (show (["other","deed"]:List Str).Nodup by decide +kernel) rfl (by walk_at "loc"))) (λ C fp s H=>zff (zaz zlO (pv 0) (pv 1) (zaI _))) (λ C fp s H=>(pv 0))))
     (zac (zbq (zaz zcg (pv 2) (zcE rfl T.zdw) (zaI _)) (zag (zaw (pv 3))) zaH)
     (zag (zaw (zcV 1 [0] ["other","self"] rfl (by walk_at "blk") (zcS (pv 3)) (λ C fp s H=>(zaE (i:=0) (show (["other","self"]:List Str).Nodup by decide +kernel) rfl (by walk_at "loc"))) (λ C fp s H=>zff (zaz zcg (zdh hu (zrK (K:=K) rfl (pv 1) rfl) (pv 0) (λ _ _=>rfl)) (zcE rfl T.zdw) (zaI _))) (λ C fp s H=>(pv 0))))))),?_⟩
   have hz:(zaG h).length<=sizeLine:=by rw [zcp,sizeLine_eq]; omega
   refine ⟨_,rfl,p,_,dx,_,_,rfl,hp,T.zaN,T.zbg,rfl,hd,_,rfl,hh,λ o=>?_⟩
   refine zhZ (λ i ys σ H2=>∃ v0,σ=[v0,some (V.int d)]/\H2=upd H hd (.frz o (.dK (zaG h)))/\ys=zaD (((h.take i).filter λ p=>p.1 != d).map (·.1))) ⟨none,rfl,rfl,rfl⟩ (λ i ys σ H2 ⟨_,_,e,hy⟩=>⟨by rw [e,zab],?_⟩) hz ?_ ?_
   . rw [hy]; unfold zaD; rw [List.length_map,List.length_map]
     exact Nat.le_trans (List.length_filter_le _ _) (by rw [List.length_take]; omega)
   . rintro i k v ys σ H2 hlt hk ⟨v0,rfl,rfl,rfl⟩
     unfold zaG at hk
     rw [List.getElem?_map] at hk
     obtain ⟨⟨e,we⟩,he,hke⟩:=Option.map_eq_some_iff.mp hk
     cases hke
     have e1:h.take (i+1)=h.take i++[(e,we)]:=by rw [List.take_add_one,he]; rfl
     refine ⟨_,rfl,_,rfl,rfl,_,rfl,?_⟩
     refine zdU (e != d) (zo6 e d) ?_
     by_cases hed:e=d
     . refine zaS (by simp [hed]) (nx hlt ⟨_,rfl,rfl,?_⟩)
       rw [e1,List.filter_append]; simp [hed]
     . refine zbl (by simp [hed]) ⟨_,rfl,nx hlt ⟨_,rfl,rfl,?_⟩⟩
       rw [e1,List.filter_append]
       unfold zaD
       simp [hed]
       rfl
   . rintro ys σ H2 ⟨v0,rfl,rfl,rfl⟩
     rw [zcp,List.take_length]
     intro n hn
     have hnh:H n=none:=by
       by_cases z:n=hd
       . rw [z,zab] at hn; cases hn
       . rw [zae z] at hn; exact hn
     refine ⟨hd,o,zaG h,hh,zao zab hn,?_⟩
     rw [zom hh hnh]
     have hpn:=zao (o:=HO.lst (zaD ((h.filter λ p=>p.1 != d).map (·.1)))) hp hnh
     have hhn:=zao (o:=HO.lst (zaD ((h.filter λ p=>p.1 != d).map (·.1)))) hh hnh
     refine ⟨_,rfl,rfl,_,rfl,?_⟩
     rw [zfV]
     cases w with
     | true =>
       refine ⟨_,rfl,q _ n hnh (Same.zaq hnh) ?_⟩
       rw [zab]; unfold hind; simp
     | false =>
       have hlen:(zaD ((h.filter λ p=>p.1 != d).map (·.1))).length<=1000:=by
         unfold zaD; rw [List.length_map,List.length_map]
         exact Nat.le_trans (List.length_filter_le _ _) hl
       refine ⟨_,rfl,n,rfl,⟨_,SqL.of zab⟩,?_⟩
       refine zex (xs:=zaD ((h.filter λ p=>p.1 != d).map (·.1))) (λ i ys σ H2=>∃ v0,σ=[v0,some (V.ref p)]/\H2=upd H n (.lst (zaD ((h.filter λ p=>p.1 != d).map (·.1))))/\ys=zaD ((((h.filter λ p=>p.1 != d).take i).filter λ p=>p.2).map (·.1))) ⟨none,rfl,rfl,rfl⟩ (λ i ys σ H2 ⟨_,_,e,hy⟩=>⟨SqL.of (by rw [e,zab]),?_⟩) (by rw [sizeLine_eq]; omega) ?_ ?_
       . rw [hy]; unfold zaD; rw [List.length_map,List.length_map]
         exact Nat.le_trans (List.length_filter_le _ _) (by rw [List.length_take]; omega)
       . rintro i x ys σ H2 hlt hx ⟨v0,rfl,rfl,rfl⟩
         unfold zaD at hx
         rw [List.getElem?_map,List.getElem?_map] at hx
         obtain ⟨e,he,rfl⟩:=Option.map_eq_some_iff.mp hx
         obtain ⟨⟨e',we⟩,he',rfl⟩:=Option.map_eq_some_iff.mp he
         have e1:(h.filter λ p=>p.1 != d).take (i+1)=(h.filter λ p=>p.1 != d).take i++[(e',we)]:=by rw [List.take_add_one,he']; rfl
         have hm:(e',we)∈h:=(List.mem_filter.mp (List.mem_of_getElem? he')).1
         have dg:DGet (upd H n (.lst (zaD ((h.filter λ p=>p.1 != d).map (·.1))))) hd (V.int (e':Int)) (some (V.str (useS we))):=by
          have:=DGet.k (k:=Sum.inl (e':Int)) hhn
          rw [zc7,zcB hnd hm] at this
          exact this
         refine ⟨_,rfl,p,_,dx,_,_,rfl,hpn,T.zaN,T.zbg,rfl,_,rfl,hd,_,rfl,dg,rfl,_,rfl,?_⟩
         refine zdU we (zfV we) ?_
         cases we with
         | true =>
          refine ⟨_,rfl,nx hlt ⟨_,rfl,rfl,?_⟩⟩
          rw [e1,List.filter_append]
          unfold zaD
          simp
         | false =>
          refine nx hlt ⟨_,rfl,rfl,?_⟩
          rw [e1,List.filter_append]; simp
       . rintro ys σ H2 ⟨v0,rfl,rfl,rfl⟩
         have e2:(zaD ((h.filter λ p=>p.1 != d).map (·.1))).length=(h.filter λ p=>p.1 != d).length:=by unfold zaD; rw [List.length_map,List.length_map]
         rw [e2,List.take_length]
         intro m hm
         refine q _ m ((Same.zaq hnh).free hm) ((Same.zaq hnh).upd2 hm) ?_
         rw [zab,List.filter_filter]
         unfold hind
         congr 4
         exact List.filter_congr λ p _=>by simp [Bool.and_comm]
theorem zgE (T:Txt K mg A F):FnOk P w K mg base (CX1 P w) 2 (F.f 13) (F.fd 13) ["self","deed","use"] (zmR A):=by
 have G_Desk_hindering:=@zds P w K mg base A F T
 refine T.zmK.okN zkw (λ vs H Q E h=>?_) (λ cdv A' outer s H vs Q E hr h=>?_)
 . obtain ⟨p,hd,rw,h,r,d,w,rfl,_⟩:=h
   rfl
 . obtain ⟨p,hd,rw,h,r,d,w,rfl,D,hl,hnd,q⟩:=h
   obtain ⟨dx,hp⟩:=D.ob
   refine ⟨_,(zag (zaw (zdi zcg (za7 zbn (by rfl) T.zjB PySem.boot_len (zaa (zax (pv 0) T.zaN T.zdT G_Desk_hindering (hmr hr) T.zd1 .nil zaF (zaa (pv 1) (zaa (pv 2) zad))) zad)) zam (zaI _)))),?_⟩
   refine ⟨_,rfl,p,dx,_,rfl,hp,rfl,_,rfl,_,rfl,p,hd,rw,h,r,d,w,rfl,D,hl,hnd,λ H' n _ m e=>⟨n,_,rfl,.inl (SqL.of e),rfl,?_⟩⟩
   have:=q H' m
   rw [<-zpq] at this
   unfold zaD
   rw [List.length_map]
   have e3:decide (V.int ((hind h d w).length:Int)=V.int 0)=decide ((hind h d w).length=0):=by
    have:=zpE (hind h d w).length 0
    rw [show ((0:Nat):Int)=0 from rfl] at this
    rw [this]; rfl
   rw [e3]; exact this
theorem zeP (T:Txt K mg A F):FnOk P w K mg base (CX1 P w) 3 (F.f 14) (F.fd 14) ["self","deed","use"] (zkl A):=by
 have G_Desk_lets:=@zgE P w K mg base A F T
 refine T.zft.okN zeN (λ vs H Q E h=>?_) (λ cdv A' outer s H vs Q E hr h=>?_)
 . obtain ⟨p,hd,rw,h,r,d,w,rfl,_⟩:=h
   rfl
 . obtain ⟨p,hd,rw,h,r,d,w,rfl,D,hl,hnd,q⟩:=h
   have hu:=zdL hr
   obtain ⟨dx,hp⟩:=D.ob
   obtain ⟨us,hrw,tu⟩:=D.rw
   have hul:us.length=r.length:=by rw [tu.length,List.length_map]
   refine ⟨_,(zag (zaw (zoW (zsQ (zsT (zoY hu (pv 1) (zal (pv 0) rfl))) (zkA (zdi zcg (za7 zbn (by rfl) T.zjB PySem.boot_len (zaa (zal (pv 0) rfl) zad)) zam (zaI _)))) (zkA (zax (pv 0) T.zaN T.zhF G_Desk_lets (hmr hr) T.zh7 .nil zaF (zaa (pv 1) (zaa (pv 2) zad))))))),?_⟩
   have dg:=DGet.k (k:=Sum.inl (d:Int)) D.hd
   rw [zc7] at dg
   refine ⟨_,rfl,_,rfl,p,_,dx,_,_,rfl,hp,T.zaN,T.zbg,rfl,hd,_,rfl,dg,_,rfl,?_⟩
   have call:∀ b:Bool,b=(has h d || r.isEmpty)->(if b=true then zmR A [V.ref p,.int d,.str (useS w)] H Q EF else Q (.bl false) H):=λ b hb=>by
    cases b with
    | true =>
     refine iteT ⟨p,hd,rw,h,r,d,w,rfl,D,hl,hnd,λ H' m=>?_⟩
     have:=q H' m
     rw [<-hb] at this
     exact this
    | false =>
     refine iteF ?_
     have:=q H (Same.refl H)
     rw [<-hb] at this
     exact this
   have e0:((look h d).map λ w=>V.str (useS w)).isSome=has h d:=by
    rw [Option.isSome_map,zkY]
   rw [e0]
   cases hh:has h d with
   | true =>
    refine iteT ⟨true,rfl,?_⟩
    have t:zmR A [V.ref p,.int d,.str (useS w)] H Q EF:=by simpa using call true (by rw [hh]; rfl)
    exact iteT ⟨_,rfl,p,dx,_,rfl,hp,rfl,_,rfl,_,rfl,t⟩
   | false =>
    refine iteF ⟨_,rfl,p,_,dx,_,_,rfl,hp,T.zaN,T.zaX,rfl,rw,_,rfl,.inl (SqL.of hrw),rfl,_,rfl,?_⟩
    have e1:decide (V.int (us.length:Int)=V.int 0)=r.isEmpty:=by
     have:=zpE us.length 0
     rw [show ((0:Nat):Int)=0 from rfl] at this
     rw [this,hul]
     cases r <;> rfl
    rw [e1]
    have:=call r.isEmpty (by rw [hh]; rfl)
    cases hr0:r.isEmpty with
    | true =>
     rw [hr0] at this
     have t:zmR A [V.ref p,.int d,.str (useS w)] H Q EF:=by simpa using this
     exact iteT ⟨_,rfl,p,dx,_,rfl,hp,rfl,_,rfl,_,rfl,t⟩
    | false =>
     rw [hr0] at this
     exact iteF (by simpa using this)
theorem zfE (T:Txt K mg A F):FnOk P w K mg base (CX1 P w) 3 (F.f 28) (F.fd 28) ["self"] (zlx A):=by
 have G_Desk_lets:=@zgE P w K mg base A F T
 refine T.zgv.okN zfz (λ vs H Q E h=>?_) (λ cdv A' outer s H vs Q E hr h=>?_)
 . obtain ⟨p,hd,rw,h,r,rfl,_⟩:=h
   rfl
 . obtain ⟨p,hd,rw,h,r,rfl,D,hl,hnd,q⟩:=h
   obtain ⟨dx,hp⟩:=D.ob
   obtain ⟨us,hrw,tu⟩:=D.rw
   have hul:us.length=r.length:=by rw [tu.length,List.length_map]
   refine ⟨_,(zag (zaw (zoW (zdi zqn (za7 zbn (by rfl) T.zjB PySem.boot_len (zaa (zal (pv 0) rfl) zad)) zam (zaI _)) (zkA (zax (pv 0) T.zaN T.zhF G_Desk_lets (hmr hr) T.zh7 .nil zaF (zaa (zbe zb0 (zbe zbu (zal (pv 0) rfl) zam (λ _ _=>rfl)) zam (λ _ _=>rfl)) (zaa (zbe zb0 (zbe zbu (zal (pv 0) rfl) zam (λ _ _=>rfl)) zam (λ _ _=>rfl)) zad))))))),?_⟩
   refine ⟨_,rfl,p,_,dx,_,_,rfl,hp,T.zaN,T.zaX,rfl,rw,_,rfl,.inl (SqL.of hrw),_,_,rfl,rfl,_,rfl,?_⟩
   cases r with
   | nil =>
    have:us=[]:=List.length_eq_zero_iff.mp hul
    subst this
    exact q H (Same.refl H)
   | cons x t =>
    obtain ⟨d,w⟩:=x
    obtain ⟨v,hv,pv',rfl,hpv⟩:=zea tu (i:=0) (y:=zb2 (d,w)) rfl
    have hix:atI us 0=some (V.ref pv'):=zbm (j:=0) hv
    refine zbl (by rw [hul]; simp) ?_
    refine ⟨_,rfl,p,dx,_,rfl,hp,rfl,_,rfl,p,_,dx,_,_,rfl,hp,T.zaN,T.zaX,rfl,rw,_,_,_,rfl,rfl,SqL.of hrw,hix,pv',_,_,_,rfl,rfl,SqT.of hpv,rfl,
     _,rfl,p,_,dx,_,_,rfl,hp,T.zaN,T.zaX,rfl,rw,_,_,_,rfl,rfl,SqL.of hrw,hix,pv',_,_,_,rfl,rfl,SqT.of hpv,rfl,p,hd,rw,h,_,d,w,rfl,D,hl,hnd,q⟩
theorem zkO (T:Txt K mg A F):FnOk P w K mg base (CX1 P w) 1 (F.f 15) (F.fd 15) ["self","deed","use"] (zsv A):=by
 refine T.zmJ.okN zkv (λ vs H Q E h=>?_) (λ cdv A' outer s H vs Q E hr h=>?_)
 . obtain ⟨p,hd,rw,h,r,d,w,rfl,_⟩:=h
   rfl
 . obtain ⟨p,hd,rw,h,r,d,w,rfl,D,hl,hnd,q⟩:=h
   have hu:=zdL hr
   obtain ⟨dx,hp⟩:=D.ob
   refine ⟨_,(zag (zbq (zaz zlO (zjt hu (zal (pv 0) rfl) (pv 1) ⟨rfl,rfl,rfl,rfl⟩) (zcE rfl T.zdw) (zaI _)) (zag (zho hu (zal (pv 0) rfl) (pv 1) (pv 2) rfl)) zaH)),?_⟩
   have dg:=DGet.k (k:=Sum.inl (d:Int)) D.hd
   rw [zc7] at dg
   refine ⟨_,rfl,p,_,dx,_,_,rfl,hp,T.zaN,T.zbg,rfl,hd,rfl,.inl ⟨_,.of D.hd⟩,_,rfl,_,dg,?_⟩
   have put:take1 h d w=zbi h d w->tSeq (zsH (tFld K (tVar 0) "held") (tVar 1) (tVar 2)) zrl { nx:=λ _ H'=>Q .non H',rt:=Q } [some (V.ref p),some (V.int d),some (V.str (useS w))] H:=λ e=>by
    refine ⟨_,rfl,_,rfl,p,_,dx,_,_,rfl,hp,T.zaN,T.zbg,rfl,_,rfl,hd,_,rfl,DPut.k (k:=Sum.inl (d:Int)) D.hd (by rw [zcp,sizeLine_eq]; omega),?_⟩
    refine q _ ?_ λ b o e hb=>by rw [zae hb]; exact e
    rw [zab,zqB,e]
   cases hk:look h d with
   | none =>
    refine ⟨rfl,_,rfl,?_⟩
    exact put (by unfold take1; rw [hk]; simp)
   | some wh =>
    refine ⟨rfl,_,rfl,?_⟩
    cases wh with
    | true =>
     refine q H ?_ λ b o e _=>e
     unfold take1; rw [hk,if_pos rfl]; exact D.hd
    | false=>exact put (by unfold take1; rw [hk]; simp)
theorem zhA (T:Txt K mg A F):FnOk P w K mg base (CX1 P w) 1 (F.f 18) (F.fd 18) ["self","deed","use"] (zp5 A):=by
 refine T.ziD.okN zhj (λ vs H Q E h=>?_) (λ cdv A' outer s H vs Q E hr h=>?_)
 . obtain ⟨p,hd,rw,h,r,d,w,rfl,_⟩:=h
   rfl
 . obtain ⟨p,hd,rw,h,r,d,w,rfl,D,hl,q⟩:=h
   have hu:=zdL hr
   obtain ⟨dx,hp⟩:=D.ob
   obtain ⟨us,hrw,tu⟩:=D.rw
   have hul:us.length=r.length:=by rw [tu.length,List.length_map]
   refine ⟨_,(zag (zbq (zel (zoY hu (pv 1) (zal (pv 0) rfl))) (zag (zaM (zeo PySem.F.plainAttrs_list PySem.F.slot_list_insert PySem.F.type_list_insert zpa (zal (pv 0) rfl) (zaa zam (zaa (zbD (zaa (pv 1) (zaa (pv 2) zad))) zad))))) (zag (zaM (zeo PySem.F.plainAttrs_list PySem.F.slot_list_append PySem.F.type_list_append zbx (zal (pv 0) rfl) (zaa (zbD (zaa (pv 1) (zaa (pv 2) zad))) zad)))))),?_⟩
   have dg:=DGet.k (k:=Sum.inl (d:Int)) D.hd
   rw [zc7] at dg
   refine ⟨_,rfl,_,rfl,p,_,dx,_,_,rfl,hp,T.zaN,T.zbg,rfl,hd,_,rfl,dg,_,rfl,?_⟩
   rw [Option.isSome_map,zkY]
   have z2:([V.int (d:Int),V.str (useS w)]:List V).length<=sizeLine:=sz2
   have fin:∀ (n:Addr) (us':List V),H n=none->zau (upd H n (.tup (zb2 (d,w)))) us' ((zqu h r d w).map zb2)->Q .non (upd (upd H n (.tup (zb2 (d,w)))) rw (.lst us')):=λ n us' hn t=>by
    have hrn:=zao (o:=HO.tup (zb2 (d,w))) hrw hn
    refine q _ us' zab ?_ λ b o e hb=>?_
    . have:∀ {vs:List V} {xss:List (List V)},zau (upd H n (.tup (zb2 (d,w)))) vs xss->zau (upd (upd H n (.tup (zb2 (d,w)))) rw (.lst us')) vs xss:=λ t=>by
       induction t with
       | nil=>exact .nil
       | cons r0 _ ih =>
        obtain ⟨p0,e0,q0⟩:=r0
        exact .cons ⟨p0,e0,by rw [zae (zbF q0 hrn (λ z=>nomatch z))]; exact q0⟩ ih
      exact this t
    . rw [zae hb,zae (zaf e hn)]; exact e
   have tn:∀ n,H n=none->zau (upd H n (.tup (zb2 (d,w)))) us (r.map zb2):=λ n hn=>zbk (Same.zaq hn) tu
   cases hh:has h d with
   | true =>
    refine iteT ⟨_,rfl,p,_,dx,_,_,rfl,hp,T.zaN,T.zaX,rfl,.inl ⟨rfl,_,SqL.of hrw⟩,_,rfl,_,rfl,z2,λ n hn=>⟨rw,us,_,rfl,rfl,zao hrw hn,by rw [hul,sizeLine_eq]; omega,?_⟩⟩
    refine fin n _ hn ?_
    unfold zqu; rw [hh]
    exact .cons ⟨n,rfl,zab⟩ (tn n hn)
   | false =>
    refine iteF ⟨_,rfl,p,_,dx,_,_,rfl,hp,T.zaN,T.zaX,rfl,.inl ⟨rfl,_,SqL.of hrw⟩,_,rfl,_,rfl,z2,λ n hn=>⟨rw,us,_,rfl,rfl,zao hrw hn,by rw [hul,sizeLine_eq]; omega,?_⟩⟩
    refine fin n _ hn ?_
    unfold zqu; rw [hh]
    simp only [Bool.false_eq_true,if_false,List.map_append]
    exact S6.zco (tn n hn) ⟨n,rfl,zab⟩
theorem zjx (T:Txt K mg A F):FnOk P w K mg base (CX1 P w) 1 (F.f 27) (F.fd 27) ["self","deed"] (zru A):=by
 refine T.zls.okN zjl (λ vs H Q E h=>?_) (λ cdv A' outer s H vs Q E hr h=>?_)
 . obtain ⟨p,hd,rw,dx,h,r,d,rfl,_⟩:=h
   rfl
 . obtain ⟨p,hd,rw,dx,h,r,d,rfl,D,hp,hl,q⟩:=h
   obtain ⟨us,hrw,tu⟩:=D.rw
   have hul:us.length=r.length:=by rw [tu.length,List.length_map]
   refine ⟨_,(zac (zaM (zmZ (zal (pv 0) rfl) (pv 1) zgA ⟨rfl,rfl,rfl,rfl⟩))
     (zag (zbQ (pv 0) (zcV 1 [1] ["pair","deed"] rfl (by walk_at "blk") (zcS (zal (pv 0) rfl)) (λ C fp s H=>(zaE (i:=0) (show (["pair","deed"]:List Str).Nodup by decide +kernel) rfl (by walk_at "loc"))) (λ C fp s H=>zff (zaz zlO (zbe (zpm (K:=K) rfl) (pv 0) zam (λ _ _=>rfl)) (pv 1) (zaI _))) (λ C fp s H=>(pv 0))) rfl))),?_⟩
   have go:∀ H1:Hp,H1 hd=some (.dK (zaG (less h d)))->(∀ b o,H b=some o->b≠hd->H1 b=some o)->(∀ b,H b=none->H1 b=none)->H1 p=some (.ins A.zb9 dx (ziu hd rw))->H1 rw=some (.lst us)->zau H1 us (r.map zb2) ->
       sFld K (tVar 0) (zrn 1 [1] (zs4 K (tFld K (tVar 0) "row")) (zn5 0) (zrk (tOp rNe (tOp (rIxT K) (tVar 0) (tC (.int 0))) (tVar 1))) (tVar 0)) "row" { nx:=λ _ H'=>Q .non H',rt:=Q } [some (V.ref p),some (V.int d)] H1:=λ H1 h1 k1 k0 hp1 hr1 t1=>by
     refine ⟨_,rfl,p,_,dx,_,_,rfl,hp1,T.zaN,T.zaX,rfl,rw,rfl,⟨_,SqL.of hr1⟩,?_⟩
     refine zex (xs:=us) (λ i ys σ H2=>∃ v0,σ=[v0,some (V.int d)]/\H2=H1/\ys.length<=i/\zau H1 ys ((less (r.take i) d).map zb2)) ⟨none,rfl,rfl,Nat.le_refl _,.nil⟩ (λ i ys σ H2 ⟨_,_,e,hy,_⟩=>⟨SqL.of (by rw [e]; exact hr1),hy⟩) (by rw [hul,sizeLine_eq]; omega) ?_ ?_
     . rintro i x ys σ H2 hlt hx ⟨v0,rfl,rfl,hy,t⟩
       obtain ⟨y,hy1,n,rfl,hn1⟩:=zck t1 hx
       rw [List.getElem?_map] at hy1
       obtain ⟨⟨e,we⟩,he,rfl⟩:=Option.map_eq_some_iff.mp hy1
       have e1:r.take (i+1)=r.take i++[(e,we)]:=by rw [List.take_add_one,he]; rfl
       refine ⟨_,rfl,n,_,_,_,rfl,rfl,SqT.of hn1,rfl,_,rfl,rfl,_,rfl,?_⟩
       refine zdU (e != d) (zo6 e d) ?_
       by_cases hed:e=d
       . refine zaS (by simp [hed]) (nx hlt ⟨_,rfl,rfl,by omega,?_⟩)
         rw [e1]; unfold less; rw [List.filter_append]; simp [hed]; exact t
       . refine zbl (by simp [hed]) ⟨_,rfl,nx hlt ⟨_,rfl,rfl,by rw [List.length_append,List.length_singleton]; omega,?_⟩⟩
         rw [e1]; unfold less; rw [List.filter_append,List.map_append]
         have:([(e,we)]:List (Nat×Bool)).filter (λ p=>p.1 != d)=[(e,we)]:=by simp [hed]
         rw [this]
         exact S6.zco t ⟨n,rfl,hn1⟩
     . rintro ys σ H2 ⟨v0,rfl,rfl,hy,t⟩
       rw [hul,List.take_length] at t
       intro n hn
       have hnp:p≠n:=zaf hp1 hn
       refine ⟨_,rfl,p,_,dx,_,rfl,zao hp1 hn,T.zaN,T.zaX,Nat.le_of_ble_eq_true rfl,?_⟩
       have hHn:H n=none:=by
         cases e:H n with
         | none=>rfl
         | some o =>
          by_cases z:n=hd
          . rw [z,h1] at hn; cases hn
          . rw [k1 n o e z] at hn; cases hn
       have hhp:hd≠p:=zbF h1 hp1 (λ z=>nomatch z)
       refine q _ n ys hHn (by rw [zab]; rfl) ?_ ?_ ?_ λ b o e hb hbh=>?_
       . rw [zae hhp,zae (zaf h1 hn)]; exact h1
       . rw [zae hnp.symm,zab]
       . have:∀ {vs:List V} {xss:List (List V)},zau H2 vs xss->zau (upd (upd H2 n (.lst ys)) p (.ins A.zb9 dx (ziu hd n))) vs xss:=λ t=>by
          induction t with
          | nil=>exact .nil
          | cons r0 _ ih =>
            obtain ⟨p0,e0,q0⟩:=r0
            exact .cons ⟨p0,e0,by rw [zae (zbF q0 hp1 (λ z=>nomatch z)),zae (zaf q0 hn)]; exact q0⟩ ih
         exact this t
       . rw [zae hb,zae (zaf e hHn)]; exact k1 b o e hbh
   have tup1:∀ o,zau (upd H hd (.dK o)) us (r.map zb2):=λ o=>by
     have:∀ {vs:List V} {xss:List (List V)},zau H vs xss->zau (upd H hd (.dK o)) vs xss:=λ t=>by
       induction t with
       | nil=>exact .nil
       | cons r0 _ ih =>
         obtain ⟨p0,e0,q0⟩:=r0
         exact .cons ⟨p0,e0,by rw [zae (zbF q0 D.hd (λ z=>nomatch z))]; exact q0⟩ ih
     exact this tu
   refine ⟨_,rfl,p,_,dx,_,_,rfl,hp,T.zaN,T.zbg,rfl,hd,rfl,.inl ⟨_,.of D.hd⟩,_,rfl,_,Sum.inl (d:Int),D.hd,rfl,λ v hv=>?_,λ hv=>?_⟩
   . rw [zps]
     refine go _ zab (λ b o e hb=>by rw [zae hb]; exact e) (λ b e=>by rw [zae λ z=>by rw [z,D.hd] at e; cases e]; exact e) ?_ ?_ (tup1 _)
     . rw [zae (zbF hp D.hd (λ z=>nomatch z))]; exact hp
     . rw [zae (zbF hrw D.hd (λ z=>nomatch z))]; exact hrw
   . rw [zc7] at hv
     have hn:look h d=none:=by simpa using hv
     exact go H (by rw [less_none hn]; exact D.hd) (λ b o e _=>e) (λ b e=>e) hp hrw tu
theorem zdJ (T:Txt K mg A F):FnOk P w K mg base (CX1 P w) 2 (F.f 19) (F.fd 19) ["self","deed","use"] (zkk A):=by
 have G_Desk_hindering:=@zds P w K mg base A F T
 refine T.zd9.okN zb3 (λ vs H Q E h=>?_) (λ cdv A' outer s H vs Q E hr h=>?_)
 . obtain ⟨p,hd,rw,h,r,d,w,rfl,_⟩:=h
   rfl
 . obtain ⟨p,hd,rw,h,r,d,w,rfl,D,hl,hnd,hlr,hm,hrn,q⟩:=h
   have hu64:=hu64 hr
   obtain ⟨dx,hp⟩:=D.ob
   obtain ⟨us,hrw,tu⟩:=D.rw
   have hul:us.length=r.length:=by rw [tu.length,List.length_map]
   refine ⟨_,(zac (zaL (i:=3) zb3.nd rfl (by walk_at "loc") (zeo PySem.F.plainAttrs_list PySem.F.slot_list_index PySem.F.type_list_index (zqq hu64) (zal (pv 0) rfl) (zaa (zbD (zaa (pv 1) (zaa (pv 2) zad))) zad)))
     (zac (zbq (zaz zqn (pv 3) zam (zaI _)) (zag (zaw (zcU (zaa (zbe zb0 (zbe zbu (zal (pv 0) rfl) (zcT zqV (pv 3) zam) (λ _ _=>rfl)) zam (λ _ _=>rfl)) zad)))) zaH)
     (zag (zaw (zax (pv 0) T.zaN T.zdT G_Desk_hindering (hmr hr) T.zd1 .nil zaF (zaa (pv 1) (zaa (pv 2) zad))))))),?_⟩
   obtain ⟨post,er,hall⟩:=zjh hrn hm
   have z2:([V.int (d:Int),V.str (useS w)]:List V).length<=sizeLine:=sz2
   refine ⟨_,rfl,p,_,dx,_,_,rfl,hp,T.zaN,T.zaX,rfl,.inl ⟨rfl,_,SqL.of hrw⟩,_,rfl,_,rfl,z2,λ n hn=>?_⟩
   have dv:DVs (upd H n (.tup [V.int (d:Int),V.str (useS w)])) us (r.map λ p=>.tuple [.int p.1,.str (useS p.2)]):=zm1 (zbk (Same.zaq hn) tu)
   refine ⟨rw,us,_,_,_,(ahead r d).length,rfl,rfl,zao hrw hn,dv,.tup zab (.cons (.int _) (.cons (.str _) .nil)),λ e he=>?_,zo0 _ _,⟨?_,λ m hm' e he=>?_⟩,?_⟩
   . obtain ⟨x,_,rfl⟩:=List.mem_map.mp he
     exact zo0 _ _
   . have:r[(ahead r d).length]?=some (d,w):=by
      have e2:(ahead r d++(d,w)::post)[(ahead r d).length]?=some (d,w):=by rw [List.getElem?_append_right (Nat.le_refl _)]; simp
      rw [<-er] at e2; exact e2
     rw [List.getElem?_map,this]; rfl
   . rw [List.getElem?_map] at he
     obtain ⟨x,hx,rfl⟩:=Option.map_eq_some_iff.mp he
     have hx2:x∈ahead r d:=by
      have e2:(ahead r d++(d,w)::post)[m]?=(ahead r d)[m]?:=List.getElem?_append_left hm'
      rw [<-er,hx] at e2
      exact List.mem_of_getElem? e2.symm
     intro z
     injection z with z
     injection z with z1 _
     injection z1 with z1
     exact hall x hx2 (by omega)
   . have m0:Same H (upd H n (.tup [V.int (d:Int),V.str (useS w)])):=Same.zaq hn
     have D1:=D.same m0
     refine ⟨_,rfl,_,_,rfl,rfl,_,rfl,?_⟩
     cases hg:(ahead r d).getLast? with
     | none =>
      have h0:ahead r d=[]:=List.getLast?_eq_none_iff.mp hg
      refine zaS (by rw [h0]; rfl) ?_
      refine ⟨_,rfl,p,dx,_,rfl,m0 _ _ hp,rfl,_,rfl,_,rfl,p,hd,rw,h,r,d,w,rfl,D1,hl,hnd,λ H' x nf m e=>q H' x (m0.free nf) (m0.trans m) ?_⟩
      unfold zjy; rw [hg]; exact e
     | some x =>
      have hne:ahead r d≠[]:=by intro z; rw [z] at hg; cases hg
      have hlen:0 < (ahead r d).length:=List.length_pos_iff.mpr hne
      have hix:r[(ahead r d).length - 1]?=some x:=by
       have e2:(ahead r d++(d,w)::post)[(ahead r d).length - 1]?=(ahead r d)[(ahead r d).length - 1]?:=List.getElem?_append_left (by omega)
       rw [<-er] at e2
       rw [e2,<-List.getLast?_eq_getElem?]; exact hg
      obtain ⟨v,hv,px,rfl,hpx⟩:=zea (zbk m0 tu) (i:=(ahead r d).length - 1) (y:=zb2 x) (by rw [List.getElem?_map,hix]; rfl)
      have hat:atI us (((ahead r d).length:Int) - 1)=some (V.ref px):=by
       have:=zbm hv
       rw [show (((ahead r d).length - 1:Nat):Int)=((ahead r d).length:Int) - 1 by omega] at this
       exact this
      refine zbl (by simpa using hlen) ?_
      refine ⟨_,rfl,p,_,dx,_,_,rfl,m0 _ _ hp,T.zaN,T.zaX,rfl,_,rfl,_,_,rfl,rfl,rw,_,_,_,rfl,rfl,SqL.of (m0 _ _ hrw),hat,px,_,_,_,rfl,rfl,SqT.of hpx,rfl,sz1,λ m hm=>?_⟩
      refine q _ m (m0.free hm) (m0.upd2 hm) ?_
      rw [zab]; unfold zjy; rw [hg]; rfl
theorem zkN (T:Txt K mg A F):FnOk P w K mg base (CX1 P w) 1 (F.f 0) (F.fd 0) ["self"] (znD A):=by
 refine T.zmH.okN zkt (λ vs H Q E h=>?_) (λ cdv A' outer s H vs Q E hr h=>?_)
 . obtain ⟨p,dx,rfl,_⟩:=h
   rfl
 . obtain ⟨p,dx,rfl,hp,q⟩:=h
   refine ⟨_,(zac (zbQ (pv 0) (zcU zad) rfl)
    (zac (zbQ (pv 0) zfC rfl)
    (zac (zbQ (pv 0) zfC rfl)
    (zac (zbQ (pv 0) zfC rfl)
    (zac (zbQ (pv 0) (zcU zad) rfl)
    (zag (zbQ (pv 0) (zcU zad) rfl))))))),?_⟩
   refine ⟨Nat.le_of_ble_eq_true rfl,λ p1 n1=>⟨_,rfl,p,_,dx,_,rfl,zao hp n1,T.zaj,T.zaA,Nat.le_of_ble_eq_true rfl,λ p2 n2=>⟨_,rfl,p,_,dx,_,rfl,zao zab n2,T.zaj,T.zaU,Nat.le_of_ble_eq_true rfl,λ p3 n3=>⟨_,rfl,p,_,dx,_,rfl,zao zab n3,T.zaj,T.zbw,Nat.le_of_ble_eq_true rfl,λ p4 n4=>⟨_,rfl,p,_,dx,_,rfl,zao zab n4,T.zaj,T.zbs,Nat.le_of_ble_eq_true rfl,Nat.le_of_ble_eq_true rfl,λ p5 n5=>⟨_,rfl,p,_,dx,_,rfl,zao zab n5,T.zaj,T.zc6,Nat.le_of_ble_eq_true rfl,Nat.le_of_ble_eq_true rfl,λ p6 n6=>⟨_,rfl,p,_,dx,_,rfl,zao zab n6,T.zaj,T.zbZ,Nat.le_of_ble_eq_true rfl,?_⟩⟩⟩⟩⟩⟩⟩
   obtain ⟨a1,b1,c1,d1⟩:=two (o:=.lst []) (o':=.ins A.zaZ dx (putF "records" (.ref p1) [])) hp n1
   generalize upd (upd H p1 (.lst [])) p (.ins A.zaZ dx (putF "records" (.ref p1) []))=H1 at *
   obtain ⟨a2,b2,c2,d2⟩:=two (o:=.dK []) (o':=.ins A.zaZ dx (putF "desks" (.ref p2) (putF "records" (.ref p1) []))) a1 n2
   generalize upd (upd H1 p2 (.dK [])) p (.ins A.zaZ dx (putF "desks" (.ref p2) (putF "records" (.ref p1) [])))=H2 at *
   obtain ⟨a3,b3,c3,d3⟩:=two (o:=.dK []) (o':=.ins A.zaZ dx (putF "standing" (.ref p3) (putF "desks" (.ref p2) (putF "records" (.ref p1) [])))) a2 n3
   generalize upd (upd H2 p3 (.dK [])) p (.ins A.zaZ dx (putF "standing" (.ref p3) (putF "desks" (.ref p2) (putF "records" (.ref p1) []))))=H3 at *
   obtain ⟨a4,b4,c4,d4⟩:=two (o:=.dK []) (o':=.ins A.zaZ dx (putF "kept_values" (.ref p4) (putF "standing" (.ref p3) (putF "desks" (.ref p2) (putF "records" (.ref p1) []))))) a3 n4
   generalize upd (upd H3 p4 (.dK [])) p (.ins A.zaZ dx (putF "kept_values" (.ref p4) (putF "standing" (.ref p3) (putF "desks" (.ref p2) (putF "records" (.ref p1) [])))))=H4 at *
   obtain ⟨a5,b5,c5,d5⟩:=two (o:=.lst []) (o':=.ins A.zaZ dx (putF "kept_deeds" (.ref p5) (putF "kept_values" (.ref p4) (putF "standing" (.ref p3) (putF "desks" (.ref p2) (putF "records" (.ref p1) [])))))) a4 n5
   generalize upd (upd H4 p5 (.lst [])) p (.ins A.zaZ dx (putF "kept_deeds" (.ref p5) (putF "kept_values" (.ref p4) (putF "standing" (.ref p3) (putF "desks" (.ref p2) (putF "records" (.ref p1) []))))))=H5 at *
   obtain ⟨a6,b6,c6,d6⟩:=two (o:=.lst []) (o':=.ins A.zaZ dx (putF "rows" (.ref p6) (putF "kept_deeds" (.ref p5) (putF "kept_values" (.ref p4) (putF "standing" (.ref p3) (putF "desks" (.ref p2) (putF "records" (.ref p1) []))))))) a5 n6
   generalize upd (upd H5 p6 (.lst [])) p (.ins A.zaZ dx (putF "rows" (.ref p6) (putF "kept_deeds" (.ref p5) (putF "kept_values" (.ref p4) (putF "standing" (.ref p3) (putF "desks" (.ref p2) (putF "records" (.ref p1) [])))))))=H6 at *
   have q1:p1≠p:=λ z=>by rw [z,hp] at n1; cases n1
   obtain ⟨m21,k21,q2⟩:=d1 p2 n2
   obtain ⟨m32,k32,q3⟩:=d2 p3 n3
   obtain ⟨m31,k31,_⟩:=d1 p3 m32
   obtain ⟨m43,k43,q4⟩:=d3 p4 n4
   obtain ⟨m42,k42,_⟩:=d2 p4 m43
   obtain ⟨m41,k41,_⟩:=d1 p4 m42
   obtain ⟨m54,k54,q5⟩:=d4 p5 n5
   obtain ⟨m53,k53,_⟩:=d3 p5 m54
   obtain ⟨m52,k52,_⟩:=d2 p5 m53
   obtain ⟨m51,k51,_⟩:=d1 p5 m52
   obtain ⟨m65,k65,q6⟩:=d5 p6 n6
   obtain ⟨m64,k64,_⟩:=d4 p6 m65
   obtain ⟨m63,k63,_⟩:=d3 p6 m64
   obtain ⟨m62,k62,_⟩:=d2 p6 m63
   obtain ⟨m61,k61,_⟩:=d1 p6 m62
   have e1:=c6 _ _ q1 (c5 _ _ q1 (c4 _ _ q1 (c3 _ _ q1 (c2 _ _ q1 b1))))
   have e2:=c6 _ _ q2 (c5 _ _ q2 (c4 _ _ q2 (c3 _ _ q2 b2)))
   have e3:=c6 _ _ q3 (c5 _ _ q3 (c4 _ _ q3 b3))
   have e4:=c6 _ _ q4 (c5 _ _ q4 b4)
   have e5:=c6 _ _ q5 b5
   have kp:∀ b o,H b=some o->b≠p->H6 b=some o:=λ b o e hb=>c6 _ _ hb (c5 _ _ hb (c4 _ _ hb (c3 _ _ hb (c2 _ _ hb (c1 _ _ hb e)))))
   have ne:∀ b,b≠p->H b=none->(λ b=>if b=p then none else H b) b=none:=λ b hb e=>by
    show (if b=p then none else H b)=none
    rw [if_neg hb]; exact e
   obtain ⟨ρ,ad,h1,h2,h3⟩:=zai.fresh (A:=A) (H:=λ b=>if b=p then none else H b) (H':=H6) (a:=p) (dx:=dx) (p1:=p1) (p2:=p2) (p3:=p3) (p4:=p4) (p5:=p5) (p6:=p6) (if_pos rfl) (ne _ q1 n1) (ne _ q2 m21) (ne _ q3 m31) (ne _ q4 m41) (ne _ q5 m51) (ne _ q6 m61) a6 e1 e2 e3 e4 e5 b6 (Ne.symm k51) (Ne.symm k61) (Ne.symm k65) (Ne.symm k32) (Ne.symm k42) (Ne.symm k43) (λ b o e=>by
    by_cases z:b=p
    . have e:(if b=p then none else H b)=some o:=e
      rw [if_pos z] at e; cases e
    . have e:(if b=p then none else H b)=some o:=e
      rw [if_neg z] at e; exact kp b o e z)
   exact q H6 ρ ad h1 h2 λ b o e hb=>⟨kp b o e hb,h3 b o (by show (if b=p then none else H b)=some o; rw [if_neg hb]; exact e)⟩
theorem zjw (T:Txt K mg A F):FnOk P w K mg base (CX1 P w) 3 (F.f 7) (F.fd 7) ["self"] (zrx A):=by
 have G_Record_init:=@zim P w K mg base A F T
 refine T.zlr.okN zfy (λ vs H Q E h=>?_) (λ cdv A' outer s H vs Q E hr h=>?_)
 . obtain ⟨ρ,ad,s,kv,rfl,_⟩:=h
   rfl
 . obtain ⟨ρ,ad,s,kv,rfl,hh,sm,hn,q⟩:=h
   obtain ⟨dx,hp⟩:=hh.hall
   refine ⟨_,(zac (zaL (i:=1) zfy.nd rfl (by walk_at "loc") (za7 zbn (by rfl) T.zjB PySem.boot_len (zaa (zal (pv 0) rfl) zad)))
    (zac (zaM (zeo PySem.F.plainAttrs_list PySem.F.slot_list_append PySem.F.type_list_append zbx (zal (pv 0) rfl) (zaa (zjs T.zpc G_Record_init (hmr hr) rfl T.zqG T.zjY .nil zaF) zad)))
    (zac (zaM (zeo PySem.F.plainAttrs_list PySem.F.slot_list_append PySem.F.type_list_append zbx (zal (pv 0) rfl) (zaa (zbD (zaa (zcE rfl T.zr0) (zaa (pv 1) zad))) zad)))
    (zag (zaw (pv 1)))))),?_⟩
   have hl:((List.range s.n).map λ i=>V.ref (ad (.rcd i))).length=s.n:=by rw [List.length_map,List.length_range]
   refine ⟨_,rfl,_,_,dx,_,_,rfl,hp,T.zaj,T.zaA,rfl,ad .recs,_,rfl,.inl (SqL.of hh.recs),?_⟩
   rw [hl]
   refine ⟨_,rfl,_,_,dx,_,_,rfl,hp,T.zaj,T.zaA,rfl,.inl ⟨rfl,_,SqL.of hh.recs⟩,λ x dx2 nx ndx nex=>⟨x,dx2,rfl,zab,λ H1 d nd e1 e2 kp=>⟨rfl,?_⟩⟩⟩
   have s0:Same H (upd (upd H dx2 (.own x)) x (.ins A.zaB dx2 [])):=(Same.zaq ndx).upd2 (by rw [zae nex.symm]; exact nx)
   have s1:Same H H1:=λ b o e=>kp b o (s0 b o e) (zaf e nx)
   refine ⟨ad .recs,_,_,rfl,rfl,s1 _ _ hh.recs,by rw [hl,sizeLine_eq]; omega,?_⟩
   have hdx:x≠ad .recs:=(zaf hh.recs nx).symm
   have hdd:d≠ad .recs:=(zaf (s0 _ _ hh.recs) nd).symm
   obtain ⟨ρ',ad',ea,h2,f2⟩:=hh.addRec (H':=upd H1 (ad .recs) (.lst (((List.range s.n).map λ i=>V.ref (ad (.rcd i)))++[.ref x]))) T.ok (p:=x) (d:=d) (dx:=dx2) nx (by
     cases e:H d with
     | none=>rfl
     | some o=>rw [s0 d o e] at nd; cases nd) zab (by rw [zae hdx]; exact e1) (by rw [zae hdd]; exact e2) (λ b o e hb=>by rw [zae hb]; exact s1 b o e)
   obtain ⟨dx3,hp3⟩:=h2.hall
   obtain ⟨us,hus,tus⟩:=h2.rows
   have hul:us.length=s.log.length:=by rw [tus.length,List.length_map]
   rw [<-ea]
   refine ⟨_,rfl,_,_,dx3,_,_,rfl,hp3,T.zaj,T.zbZ,rfl,.inl ⟨rfl,_,SqL.of hus⟩,_,rfl,sz2,λ n nn=>⟨ad' .rows,_,_,rfl,rfl,zao hus nn,by have:=sm.lg; rw [hul,sizeLine_eq]; omega,_,rfl,?_⟩⟩
   have h3:=h2.grow (H':=upd _ n (.tup [V.str "begin",V.int (s.n:Int)])) (Same.zaq nn)
   obtain ⟨h4,f4⟩:=h3.znp (H':=upd (upd _ n (.tup [V.str "begin",V.int (s.n:Int)])) (ad' .rows) (.lst (us++[.ref n]))) T.ok (row:=.begin s.n) (zao hus nn) zab (λ b o e hb=>by rw [zae hb]; exact e) ⟨n,rfl,by rw [zae (zaf hus nn).symm,zab]; rfl⟩
   exact q _ ρ' ad' ea h4 ((f2.trans (Frame.grow (Same.zaq nn))).trans f4)
theorem zbJ (T:Txt K mg A F):FnOk P w K mg base (CX1 P w) 2 (F.f 9) (F.fd 9) ["self","deed"] (znz A):=by
 have G_is_whole:=@zlR P w K mg base A F T
 refine T.zgW.okX zfZ (λ vs H Q E h=>?_) (λ cdv A' outer s H vs Q E hr h=>?_)
 . obtain ⟨ρ,ad,s,kv,i,rfl,_⟩:=h
   rfl
 . obtain ⟨ρ,ad,s,kv,i,rfl,hh,hn,q⟩:=h
   obtain ⟨dx,hp⟩:=hh.hall
   refine ⟨_,(zac (zbq (PW.pt (zoQ (zmY (ziK (zaT G_is_whole (hmr hr) rfl T.zn3 T.znV T.zoa .nil zaF (zaa (pv 1) zad)))) (zoQ (zaz zlP (pv 1) zam (zaI _)) (zmV (zaz ztG (pv 1) (za7 zbn (by rfl) T.zjB PySem.boot_len (zaa (zal (pv 0) rfl) zad)) (zaI _)))))) (zag (zjn zhn rfl rfl T.zqH T.zpZ PySem.F.excBase_ValueError (zaa zaJ zad))) zaH)
    (zag (zaw (zbe zbu (zal (pv 0) rfl) (pv 1) (λ _ _=>rfl))))),?_⟩
   have hl:((List.range s.n).map λ i=>V.ref (ad (.rcd i))).length=s.n:=by rw [List.length_map,List.length_range]
   refine ⟨_,rfl,i,rfl,_,rfl,?_⟩
   refine ⟨_,rfl,_,_,rfl,rfl,_,rfl,?_⟩
   have bad:Out A s i H E->zov A.zh2 E (zp3 (tC (.str "there is no deed with this number")) tNil) { nx:=λ σ H'=>tRet (tOp (rIxL K) (tFld K (tVar 0) "records") (tVar 1)) { nx:=λ _ H'=>Q .non H',rt:=Q } σ H',rt:=Q } [some (.ref (ad .hall)),some (.int i)] H:=λ o=>⟨Nat.le_of_ble_eq_true rfl,o.2⟩
   have last:(if decide ((s.n:Int)<=i)=true then Out A s i H E else ∃ d:Nat,i=d/\d < s.n/\Q (.ref (ad (.rcd d))) H)->zrk (tOp (rI0 λ i j=>.bl (decide (j<=i))) (tVar 1) (tCB (λ xs H Q=>∃ p ys,xs=[.ref p]/\(SqL K H p ys\/SqT K H p ys)/\Q (.int ys.length) H) (zp3 (tFld K (tVar 0) "records") tNil))) [some (.ref (ad .hall)),some (.int i)] H λ c H1=>if c=true then zov A.zh2 E (zp3 (tC (.str "there is no deed with this number")) tNil) { nx:=λ σ H'=>tRet (tOp (rIxL K) (tFld K (tVar 0) "records") (tVar 1)) { nx:=λ _ H'=>Q .non H',rt:=Q } σ H',rt:=Q } [some (.ref (ad .hall)),some (.int i)] H1 else zrl { nx:=λ σ H'=>tRet (tOp (rIxL K) (tFld K (tVar 0) "records") (tVar 1)) { nx:=λ _ H'=>Q .non H',rt:=Q } σ H',rt:=Q } [some (.ref (ad .hall)),some (.int i)] H1:=λ o=>by
    refine ⟨_,rfl,_,rfl,_,_,dx,_,_,rfl,hp,T.zaj,T.zaA,rfl,ad .recs,_,rfl,.inl (SqL.of hh.recs),_,_,rfl,rfl,_,rfl,?_⟩
    rw [hl]
    cases hb:decide ((s.n:Int)<=i) with
    | true=>rw [hb] at o; exact iteT (bad (by simpa using o))
    | false =>
      rw [hb] at o
      obtain ⟨d,rfl,hd,z⟩:∃ d:Nat,i=d/\d < s.n/\Q (.ref (ad (.rcd d))) H:=by simpa using o
      exact iteF ⟨_,rfl,_,_,dx,_,_,rfl,hp,T.zaj,T.zaA,rfl,_,rfl,ad .recs,_,_,_,rfl,rfl,SqL.of hh.recs,zbm (hh.zfA hd),z⟩
   cases hb:decide (i < 0) with
   | true =>
    refine iteT (bad ?_)
    rcases q with ⟨d,rfl,hd,z⟩ | o
    . simp at hb; omega
    . exact o
   | false =>
    refine iteF (last ?_)
    have hi:¬ i < 0:=by simpa using hb
    rcases q with ⟨d,rfl,hd,z⟩ | o
    . exact zaS (decide_eq_false (by omega)) ⟨d,rfl,hd,z⟩
    . exact zbl (decide_eq_true (o.1.resolve_left hi)) o
theorem za5 (T:Txt K mg A F):FnOk P w K mg base (CX1 P w) 3 (F.f 10) (F.fd 10) ["self","deed"] (zp4 A):=by
 have G_Hall_record_of:=@zbJ P w K mg base A F T
 refine T.zc2.okX zcO (λ vs H Q E h=>?_) (λ cdv A' outer s H vs Q E hr h=>?_)
 . obtain ⟨ρ,ad,s,kv,i,rfl,_⟩:=h
   rfl
 . obtain ⟨ρ,ad,s,kv,i,rfl,hh,hn,q⟩:=h
   obtain ⟨dx,hp⟩:=hh.hall
   refine ⟨_,(zag (zbq (zaz zlO (zal (zax (pv 0) T.zaj T.zbT G_Hall_record_of (hmr hr) T.zbU .nil zbE (zaa (pv 1) zad)) rfl) (zcE rfl T.zmd) (zaI _)) (zag (zjn zhn rfl rfl T.zgl T.ziE PySem.F.excBase_ValueError (zaa zaJ zad))) zaH)),?_⟩
   refine ⟨_,rfl,_,dx,_,rfl,hp,rfl,_,rfl,ρ,ad,s,kv,i,rfl,hh,hn,?_⟩
   rcases q with ⟨d,rfl,hd,q⟩ | o
   . obtain ⟨dr,wv,hr1,_⟩:=hh.rcd hd
     refine .inl ⟨d,rfl,hd,_,_,dr,_,_,rfl,hr1,T.zat,T.zay,rfl,rfl,_,rfl,?_⟩
     rcases q with ⟨hs,q⟩ | ⟨hs,q⟩
     . refine zaS ?_ q
       rw [hs]; rfl
     . refine zbl ?_ ⟨Nat.le_of_ble_eq_true rfl,q⟩
       cases hst:(s.deed d).st with
       | zar=>exact absurd hst hs
       | waiting=>rfl
       | kept=>rfl
       | dropped=>rfl
   . exact .inr o
theorem zdr (T:Txt K mg A F):FnOk P w K mg base (CX1 P w) 2 (F.f 17) (F.fd 17) ["self","deed","want"] (zrw A):=by
 have G_Desk_take:=@zkO P w K mg base A F T
 have G_value_under:=@zij P w K mg base A F T
 refine T.zgY.okN zcc (λ vs H Q E h=>?_) (λ cdv A' outer s H vs Q E hr h=>?_)
 . obtain ⟨ρ,ad,s,kv,d,wv,a,rfl,_⟩:=h
   rfl
 . obtain ⟨ρ,ad,s,kv,d,wv,a,rfl,hh,sm,hd,hk,⟨pw,dw,rfl,hw⟩,q⟩:=h
   have hu:=zdL hr
   obtain ⟨dx,hp⟩:=hh.hall
   have D:=hh.desk hk
   obtain ⟨dd,hdk⟩:=D.ob
   refine ⟨_,(zac (zaM (zax (zdh hu (zal (pv 0) rfl) (zal (pv 2) rfl) (λ _ _=>rfl)) T.zaN T.zl1 G_Desk_take (hmr hr) T.zms .nil zaF (zaa (pv 1) (zaa (zal (pv 2) rfl) zad))))
    (zac (zaL (i:=3) zcc.nd rfl (by walk_at "loc") (zbe zbu (zal (pv 0) rfl) (pv 1) (λ _ _=>rfl)))
    (zac (zbQ (pv 3) (zcE rfl T.zmd) rfl)
    (zac (zbQ (pv 3) zgA rfl)
    (zac (zaL (i:=4) zcc.nd rfl (by walk_at "loc") (zaT G_value_under (hmr hr) rfl T.zjM T.zjI T.zjW .nil zaF (zaa (zal (pv 0) rfl) (zaa (zal (pv 2) rfl) zad))))
    (zag (zbq (zaz zcg (zal (pv 2) rfl) (zcE rfl T.zdw) (zaI _)) (zac (zaM (zeo PySem.F.plainAttrs_list PySem.F.slot_list_append PySem.F.type_list_append zbx (zal (pv 0) rfl) (zaa (zbD (zaa (zcE rfl T.zmc) (zaa (pv 1) (zaa (zal (pv 2) rfl) (zaa (pv 4) (zaa (zal (pv 2) rfl) zad)))))) zad)))
    (zac (zho hu (zal (pv 0) rfl) (zal (pv 2) rfl) (zal (pv 2) rfl) rfl)
    (zag (zaM (zeo PySem.F.plainAttrs_list PySem.F.slot_list_append PySem.F.type_list_append zbx (zal (pv 3) rfl) (zaa (zbD (zaa (zcE rfl T.zmc) (zaa (zal (pv 2) rfl) (zaa (zal (pv 2) rfl) zad)))) zad)))))) (zag (zaM (zeo PySem.F.plainAttrs_list PySem.F.slot_list_append PySem.F.type_list_append zbx (zal (pv 3) rfl) (zaa (zbD (zaa (zcE rfl T.zs5) (zaa (zal (pv 2) rfl) (zaa (pv 4) zad)))) zad))))))))))),?_⟩
   refine ⟨_,rfl,_,_,dx,_,_,rfl,hp,T.zaj,T.zaU,rfl,_,rfl,pw,_,dw,_,_,rfl,hw,T.za2,T.za6,rfl,_,_,rfl,hh.zdN hk,_,dd,_,rfl,hdk,rfl,_,rfl,_,rfl,pw,_,dw,_,_,rfl,hw,T.za2,T.zbr,rfl,_,_,_,_,_,d,a.wr,rfl,D,sm.hl _,sm.hn _,λ H1 e1 kp1=>?_⟩
   obtain ⟨h1,f1⟩:=hh.zrC T.ok hk e1 kp1
   have hw1:H1 pw=_:=(Imm.zgf T.ok hh (r:=.held a.key) hk kp1).want _ _ _ hw
   obtain ⟨dx1,hp1⟩:=h1.hall
   obtain ⟨dr,w0,hr1,_⟩:=h1.rcd hd
   refine ⟨_,rfl,_,_,dx1,_,_,rfl,hp1,T.zaj,T.zaA,rfl,_,rfl,_,_,_,_,rfl,rfl,SqL.of h1.recs,zbm (h1.zfA hd),?_⟩
   refine ⟨_,rfl,_,_,dr,_,rfl,hr1,T.zat,T.zay,Nat.le_of_ble_eq_true rfl,_,rfl,_,_,dr,_,rfl,zab,T.zat,T.za3,Nat.le_of_ble_eq_true rfl,?_⟩
   rw [zjd]
   have kp3:zct H1 (ad (.rcd d)) (upd H1 (ad (.rcd d)) (.ins A.zaB dr (recF .zar (ad (.did d)) .non))):=λ b o e hb=>by rw [zae hb]; exact e
   obtain ⟨h3,f3⟩:=h1.zoH (H':=upd H1 (ad (.rcd d)) (.ins A.zaB dr (recF .zar (ad (.did d)) .non))) T.ok hd (D:={ s.deed d with st:=.zar }) (w:=.non) zab kp3 rfl rfl
   have hw3:=(Imm.zgf T.ok h1 (r:=.rcd d) hd kp3).want _ _ _ hw1
   show tSeq _ _ _ _ (upd H1 (ad (.rcd d)) (.ins A.zaB dr (recF .zar (ad (.did d)) .non)))
   generalize upd H1 (ad (.rcd d)) (.ins A.zaB dr (recF .zar (ad (.did d)) .non))=H3 at *
   obtain ⟨dx3,hp3⟩:=h3.hall
   obtain ⟨l,hl,hb⟩:=h3.zcm
   have hb:zbo l s.book:=hb
   refine ⟨_,rfl,_,_,dx3,_,_,rfl,hp3,T.zaj,T.zbw,rfl,_,rfl,pw,_,dw,_,_,rfl,hw3,T.za2,T.za6,rfl,_,a.key,l,_,rfl,hl,hb,?_⟩
   refine ⟨_,rfl,pw,_,dw,_,_,rfl,hw3,T.za2,T.zbr,rfl,rfl,_,rfl,?_⟩
   refine zdU a.wr (zfV a.wr) ?_
   have hr3:∃ dr w,H3 (ad (.rcd d))=some (.ins A.zaB dr (recF .zar (ad (.did d)) w)):=by
    obtain ⟨dr,w,e,_⟩:=h3.rcd hd
    have e:H3 (ad (.rcd d))=some (.ins A.zaB dr (recF (up s.deed d { s.deed d with st:=.zar } d).st (ad (.did d)) w)):=e
    rw [zah] at e
    exact ⟨dr,w,e⟩
   have fin:∀ (t:HS Str) (H4:Hp) (b:Act Str),zai A ρ ad t kv H4->Frame ρ H ρ H4->t.n=s.n->(t.deed d).done.length<=2000->∀ us,H4 (ad (.did d))=some (.lst us)->∀ n,H4 n=none ->
     ∃ l xs y,V.ref (ad (.did d))=.ref l/\[V.ref n]=[y]/\upd H4 n (.tup (actV b)) l=some (.lst xs)/\xs.length < sizeLine/\(zai A ρ ad { t with deed:=up t.deed d { t.deed d with done:=(t.deed d).done++[b] } } kv (upd (upd H4 n (.tup (actV b))) l (.lst (xs++[y])))/\Frame ρ H ρ (upd (upd H4 n (.tup (actV b))) l (.lst (xs++[y])))):=λ t H4 b h4 f4 hn hl us hus n nn=>by
    have hdt:d < t.n:=by rw [hn]; exact hd
    have h5:=h4.grow (H':=upd H4 n (.tup (actV b))) (Same.zaq nn)
    obtain ⟨us',e',tu⟩:=h4.did hdt
    rw [hus] at e'; cases e'
    have hlen:us.length=(t.deed d).done.length:=by rw [tu.length,List.length_map]
    obtain ⟨h6,f6⟩:=h5.zti (H':=upd (upd H4 n (.tup (actV b))) (ad (.did d)) (.lst (us++[.ref n]))) T.ok hdt (a:=b) (zao hus nn) zab (λ x o e hx=>by rw [zae hx]; exact e) ⟨n,rfl,by rw [zae (zaf hus nn).symm,zab]⟩
    exact ⟨ad (.did d),us,.ref n,rfl,rfl,zao hus nn,by rw [hlen,sizeLine_eq]; omega,h6,(f4.trans (Frame.grow (Same.zaq nn))).trans f6⟩
   have f03:Frame ρ H ρ H3:=f1.trans f3
   have dn3:(up s.deed d { s.deed d with st:=DS.zar } d).done.length<=2000:=by rw [zah]; exact sm.dn d
   cases hwr:a.wr with
   | true =>
    obtain ⟨us,hus,tus⟩:=h3.rows
    have hul:us.length=s.log.length:=by rw [tus.length,List.length_map]
    have hwv:List.lookup ("value" : Str) (zrg a)=some (.int a.val):=by
     show some (if a.wr then V.int a.val else .non)=_
     rw [hwr]; rfl
    refine ⟨_,rfl,_,_,dx3,_,_,rfl,hp3,T.zaj,T.zbZ,rfl,.inl ⟨rfl,_,SqL.of hus⟩,_,rfl,_,rfl,pw,_,dw,_,_,rfl,hw3,T.za2,T.za6,rfl,_,rfl,_,rfl,pw,_,dw,_,_,rfl,hw3,T.za2,T.zcG,hwv,sz5,λ n nn=>⟨_,_,_,rfl,rfl,zao hus nn,by have:=sm.lg; rw [hul,sizeLine_eq]; omega,?_⟩⟩
    have g4:=h3.grow (H':=upd H3 n (.tup [V.str "write",.int (d:Int),.str a.key,.int ((s.book a.key).getD 0),.int a.val])) (Same.zaq nn)
    have kp4:zct (upd H3 n (.tup [V.str "write",.int (d:Int),.str a.key,.int ((s.book a.key).getD 0),.int a.val])) (ad .rows) (upd (upd H3 n (.tup [V.str "write",.int (d:Int),.str a.key,.int ((s.book a.key).getD 0),.int a.val])) (ad .rows) (.lst (us++[.ref n]))):=λ b o e hb=>by rw [zae hb]; exact e
    obtain ⟨h4,f4⟩:=g4.znp T.ok (row:=.write d a.key ((s.book a.key).getD 0) a.val) (zao hus nn) zab kp4 ⟨n,rfl,by rw [zae (zaf hus nn).symm,zab]; rfl⟩
    have hw4:=(Imm.zgf T.ok g4 (r:=.rows) trivial kp4).want _ _ _ (Same.zaq nn _ _ hw3)
    have f04:=(f03.trans (Frame.grow (Same.zaq nn))).trans f4
    have hl4:=kp4 _ _ (Same.zaq (o:=.tup [V.str "write",.int (d:Int),.str a.key,.int ((s.book a.key).getD 0),.int a.val]) nn _ _ hl) (g4.ne (r:=.zcm) (r':=.rows) trivial trivial (by intro z; cases z))
    generalize upd (upd H3 n (.tup [V.str "write",.int (d:Int),.str a.key,.int ((s.book a.key).getD 0),.int a.val])) (ad .rows) (.lst (us++[.ref n]))=H4 at *
    obtain ⟨dx4,hp4⟩:=h4.hall
    have hll:l.length<=4:=Nat.le_trans (hb.len sm.snd sm.bs) sm.seen
    refine ⟨_,rfl,pw,_,dw,_,_,rfl,hw4,T.za2,T.zcG,hwv,_,rfl,_,_,dx4,_,_,rfl,hp4,T.zaj,T.zbw,rfl,_,rfl,pw,_,dw,_,_,rfl,hw4,T.za2,T.za6,rfl,_,_,rfl,DPut.k (k:=Sum.inr a.key) hl4 (by rw [zmk,sizeLine_eq]; omega),?_⟩
    rw [zmj]
    have kp5:zct H4 (ad .zcm) (upd H4 (ad .zcm) (.dK (bkV (bput l a.key a.val)))):=λ b o e hb=>by rw [zae hb]; exact e
    obtain ⟨h5,f5⟩:=h4.zmS T.ok zab kp5 (hb.put a.key a.val)
    have hw5:=(Imm.zgf T.ok h4 (r:=.zcm) trivial kp5).want _ _ _ hw4
    generalize upd H4 (ad .zcm) (.dK (bkV (bput l a.key a.val)))=H5 at *
    obtain ⟨dr5,w5,hr5,_⟩:=h5.rcd hd
    obtain ⟨us5,hus5,_⟩:=h5.did hd
    refine ⟨_,rfl,_,_,dr5,_,_,rfl,hr5,T.zat,T.zbf,rfl,.inl ⟨rfl,_,SqL.of hus5⟩,_,rfl,pw,_,dw,_,_,rfl,hw5,T.za2,T.za6,rfl,_,rfl,pw,_,dw,_,_,rfl,hw5,T.za2,T.zcG,hwv,sz3,λ n5 nn5=>?_⟩
    obtain ⟨l6,xs6,y6,g1,g2,g3,g4',g5,g6⟩:=fin _ H5 a h5 (f04.trans f5) rfl dn3 us5 hus5 n5 nn5
    have ea:actV a=[V.str "write",.str a.key,.int a.val]:=by unfold actV; rw [hwr]; rfl
    rw [ea] at g3 g5 g6
    refine ⟨l6,xs6,y6,g1,g2,g3,g4',q _ ?_ g6⟩
    rw [zta _ _ _ hwr]
    exact g5
   | false =>
    obtain ⟨dr5,w5,hr5⟩:=hr3
    obtain ⟨us5,hus5,_⟩:=h3.did hd
    refine ⟨_,rfl,_,_,dr5,_,_,rfl,hr5,T.zat,T.zbf,rfl,.inl ⟨rfl,_,SqL.of hus5⟩,_,rfl,pw,_,dw,_,_,rfl,hw3,T.za2,T.za6,rfl,_,rfl,sz3,λ n5 nn5=>?_⟩
    obtain ⟨l6,xs6,y6,g1,g2,g3,g4',g5,g6⟩:=fin _ H3 ⟨false,a.key,(s.book a.key).getD 0⟩ h3 f03 rfl dn3 us5 hus5 n5 nn5
    refine ⟨l6,xs6,y6,g1,g2,g3,g4',q _ ?_ g6⟩
    rw [ztb _ _ _ hwr]
    exact g5
theorem zga (T:Txt K mg A F):FnOk P w K mg base (CX1 P w) 3 (F.f 20) (F.fd 20) ["self","deed"] (znA A):=by
 have G_Desk_next_waited_for:=@zdJ P w K mg base A F T
 refine T.zgX.okN zdo (λ vs H Q E h=>?_) (λ cdv A' outer s H vs Q E hr h=>?_)
 . obtain ⟨ρ,ad,s,kv,d,rfl,_⟩:=h
   rfl
 . obtain ⟨ρ,ad,s,kv,d,rfl,hh,c,sm,hd,q⟩:=h
   have hu:=zdL hr
   obtain ⟨dx,hp⟩:=hh.hall
   obtain ⟨dr,wv,hr1,hw⟩:=hh.rcd hd
   refine ⟨_,(zac (zaL (i:=2) zdo.nd rfl (by walk_at "loc") (zal (zbe zbu (zal (pv 0) rfl) (pv 1) (λ _ _=>rfl)) rfl))
     (zac (zbq (zel (zqU (pv 2))) (zag (zaw (zcU zad))) zaH)
     (zag (zaw (zax (zdh hu (zal (pv 0) rfl) (zal (pv 2) rfl) (λ _ _=>rfl)) T.zaN T.zd5 G_Desk_next_waited_for (hmr hr) T.zd8 .nil zaF (zaa (pv 1) (zaa (zal (pv 2) rfl) zad))))))),?_⟩
   refine ⟨_,rfl,_,_,dx,_,_,rfl,hp,T.zaj,T.zaA,rfl,_,rfl,_,_,_,_,rfl,rfl,SqL.of hh.recs,zbm (hh.zfA hd),_,_,dr,_,_,rfl,hr1,T.zat,T.za3,rfl,?_⟩
   refine ⟨_,rfl,_,rfl,?_⟩
   by_cases hst:(s.deed d).st=.waiting
   . obtain ⟨a,ha,hrow⟩:=c.wRow d (by simp) hst
     have hw0:wantOf (s.deed d)=some a:=by unfold wantOf; rw [if_pos hst,ha]
     rw [hw0] at hw
     obtain ⟨pw,dw,rfl,hpw⟩:=hw
     have hk:a.key∈s.seen:=zcH c hrow
     have D:=hh.desk hk
     obtain ⟨dd,hdk⟩:=D.ob
     refine zaS rfl ?_
     refine ⟨_,rfl,_,_,dx,_,_,rfl,hp,T.zaj,T.zaU,rfl,_,rfl,pw,_,dw,_,_,rfl,hpw,T.za2,T.za6,rfl,_,_,rfl,hh.zdN hk,_,dd,_,rfl,hdk,rfl,_,rfl,_,rfl,pw,_,dw,_,_,rfl,hpw,T.za2,T.zbr,rfl,_,_,_,_,_,d,a.wr,rfl,D,sm.hl _,sm.hn _,sm.rl _,hrow,c.rNd _,λ H' n nf m e=>q H' n nf m ?_⟩
     rw [zkR hst ha]; exact e
   . have hw0:wantOf (s.deed d)=none:=by unfold wantOf; rw [if_neg hst]
     rw [hw0] at hw
     have hw:wv=.non:=hw
     subst hw
     refine zbl rfl ⟨Nat.le_of_ble_eq_true rfl,λ n hn=>q _ n hn (Same.zaq hn) ?_⟩
     rw [zab,zo4 hst]; rfl
theorem zhy (T:Txt K mg A F):FnOk P w K mg base (CX1 P w) 4 (F.f 21) (F.fd 21) ["self","deed"] (zp8 A):=by
 have G_Hall_next_from:=@zga P w K mg base A F T
 refine T.ziC.okN zbB (λ vs H Q E h=>?_) (λ cdv A' outer s H vs Q E hr h=>?_)
 . obtain ⟨ρ,ad,s,kv,d,rfl,_⟩:=h
   rfl
 . obtain ⟨ρ,ad,s,kv,d,rfl,hh,c,sm,hd,q⟩:=h
   have hu:=zdL hr
   refine ⟨_,(zac (zaL (i:=2) zbB.nd rfl (by walk_at "loc") zfC)
     (zac (zaL (i:=3) zbB.nd rfl (by walk_at "loc") (zcU (zaa (pv 1) zad)))
     (zac (zg2 PassesOwn.never (zaz zqn (za7 zbn (by rfl) T.zjB PySem.boot_len (zaa (pv 3) zad)) zam (zaI _)) (zac (zaL (i:=4) zbB.nd rfl (by walk_at "loc") (zm0 PySem.F.plainAttrs_list PySem.F.slot_list_pop PySem.F.type_list_pop zq0 (pv 3)))
     (zag (zeS PassesOwn.never rfl (zcS (zax (pv 0) T.zaj T.zgM G_Hall_next_from (hmr hr) T.zgS .nil zaF (zaa (pv 4) zad))) (zaE (i:=5) zbB.nd rfl (by walk_at "loc")) (zag (zbq (zel (zep hu (pv 5) (pv 2))) (zac (zho hu (pv 2) (pv 5) zhr rfl)
     (zag (zaM (zeo PySem.F.plainAttrs_list PySem.F.slot_list_append PySem.F.type_list_append zbx (pv 3) (zaa (pv 5) zad))))) zaH))))))
     (zag (zaw (pv 2)))))),?_⟩
   intro pf nf
   refine ⟨_,rfl,Nat.le_of_ble_eq_true rfl,λ pl nl=>?_⟩
   have hfl:pf≠pl:=zaf zab nl
   let Inv0:List Nat->List Nat->Hp->Prop:=λ fd lf H1=>Same H H1/\H1 pf=some (.dK (zcb fd))/\H1 pl=some (.lst (zaD lf))/\fd.Nodup/\(∀ x∈fd,zda s d x)/\(∀ x∈lf,x=d\/x∈fd)/\lf.length<=fd.length+1
   have fdlt:∀ fd:List Nat,(∀ x∈fd,zda s d x)->∀ x∈fd,x < s.n:=λ fd h x hx=>by
     obtain ⟨z,hz,_⟩:=(h x hx).last
     exact zqW c hz
   have fdlen:∀ fd:List Nat,fd.Nodup->(∀ x∈fd,zda s d x)->fd.length<=s.n:=λ fd nd h=>zcF _ _ nd (fdlt fd h)
   refine ⟨λ m σ H1=>∃ fd lf v4 v5,σ=[some (.ref (ad .hall)),some (.int d),some (.ref pf),some (.ref pl),v4,v5]/\Inv0 fd lf H1/\(∀ x,x=d\/x∈fd->x∈lf\/∀ y∈nxt s x,y∈fd)/\m=2 * (s.n - fd.length)+lf.length,⟨_,[],[d],none,none,rfl,⟨(Same.zaq nf).upd2 nl,?_,zab,List.nodup_nil,λ x hx=>(by cases hx),λ x hx=>.inl (List.mem_singleton.mp hx),by simp⟩,λ x hx=>.inl (by rcases hx with z | z; exact List.mem_singleton.mpr z; cases z),rfl⟩,?_⟩
   . rw [zae hfl,zab]; rfl
   rintro m σ H1 ⟨fd,lf,v4,v5,rfl,⟨s1,hf,hl,nd,hre,hlf,hll⟩,hcl,rfl⟩
   refine ⟨_,rfl,pl,_,rfl,.inl (SqL.of hl),_,_,rfl,rfl,_,rfl,?_⟩
   rcases List.eq_nil_or_concat lf with hlf0 | ⟨init,x,hix⟩
   . subst hlf0
     refine zaS rfl ?_
     refine ⟨_,rfl,q H1 pf fd s1 hf nd λ x=>⟨hre x,λ hx=>?_⟩⟩
     have step:∀ z,(z=d\/z∈fd)->∀ y∈nxt s z,y∈fd:=λ z hz=>(hcl z hz).resolve_left (λ k=>nomatch k)
     have:∀ a b,Path (λ a b=>b∈nxt s a) a b->(a=d\/a∈fd)->b∈fd:=λ a b p=>by
       induction p with
       | one h=>exact λ ha=>step _ ha _ h
       | step h _ ih=>exact λ ha=>ih (.inr (step _ ha _ h))
     exact this d x hx (.inl rfl)
   . have hix:lf=init++[x]:=by rw [hix]; simp
     subst hix
     have hx:=hlf x (by simp)
     have hxn:x < s.n:=hx.elim (λ z=>z ▸ hd) λ z=>fdlt fd hre x z
     refine zbl ?_ ?_
     . unfold zaD; simp
     refine ⟨λ σ' H'=>∃ fd' lf' v4 v5,σ'=[some (.ref (ad .hall)),some (.int d),some (.ref pf),some (.ref pl),v4,v5]/\Inv0 fd' lf' H'/\(∀ x,x=d\/x∈fd'->x∈lf'\/∀ y∈nxt s x,y∈fd')/\2 * (s.n - fd'.length)+lf'.length < 2 * (s.n - fd.length)+(init++[x]).length,λ σ' H' ⟨fd',lf',v4,v5,e,i,cl,lt⟩=>⟨_,lt,fd',lf',v4,v5,e,i,cl,rfl⟩,?_⟩
     have il:zaD (init++[x])=zaD init++[V.int (x:Int)]:=by unfold zaD; rw [List.map_append]; rfl
     have hlast:(zaD (init++[x]))[(zaD (init++[x])).length - 1]?=some (V.int (x:Int)):=by
       rw [il]; simp
     refine ⟨_,rfl,.inl ⟨rfl,_,SqL.of hl⟩,pl,_,_,rfl,rfl,hl,hlast,?_⟩
     have hdrop:(zaD (init++[x])).dropLast=zaD init:=by rw [il,List.dropLast_concat]
     rw [hdrop]
     have fpl:∀ b o,H b=some o->b≠pl:=λ b o e=>zaf (Same.zaq nf b o e) nl
     have s2:Same H (upd H1 pl (.lst (zaD init))):=λ b o e=>by rw [zae (fpl b o e)]; exact s1 b o e
     have hf2:upd H1 pl (.lst (zaD init)) pf=some (.dK (zcb fd)):=by rw [zae hfl]; exact hf
     obtain ⟨dx,hp⟩:=hh.hall
     refine ⟨_,rfl,_,dx,_,rfl,s2 _ _ hp,rfl,_,rfl,ρ,ad,s,kv,x,rfl,hh.grow s2,c,sm,hxn,λ H3 pn nf3 m3 hn=>⟨pn,rfl,⟨_,SqL.of hn⟩,?_⟩⟩
     have s3:Same H H3:=s2.trans m3
     have hf3:=m3 _ _ hf2
     have hl3:=m3 _ _ (zab (H:=H1) (a:=pl) (o:=.lst (zaD init)))
     have hnf:pn≠pf:=λ z=>by rw [z,hf2] at nf3; cases nf3
     have hnpl:pn≠pl:=λ z=>by rw [z,zab] at nf3; cases nf3
     have hxr:∀ y∈nxt s x,zda s d y:=λ y hy=>hx.elim (λ z=>z ▸ .one hy) λ z=>(hre x z).trans (.one hy)
     have Hpn:∀ b o,H b=some o->b≠pn:=λ b o e=>zaf (s2 b o e) nf3
     have Hpf:∀ b o,H b=some o->b≠pf:=λ b o e=>zaf e nf
     refine zeL (xs:=zaD (nxt s x)) (λ i σ' H'=>∃ new v5,σ'=[some (.ref (ad .hall)),some (.int d),some (.ref pf),some (.ref pl),some (V.int x),v5]/\Same H H'/\H' pn=some (.lst (zaD (nxt s x)))/\H' pf=some (.dK (zcb (fd++new)))/\H' pl=some (.lst (zaD (init++new)))/\(fd++new).Nodup/\(∀ y∈new,y∈nxt s x)/\(∀ y∈(nxt s x).take i,y∈fd++new)) ⟨[],_,rfl,s3,hn,by rw [List.append_nil]; exact hf3,by rw [List.append_nil]; exact hl3,by rw [List.append_nil]; exact nd,(λ y hy=>by cases hy),(λ y hy=>by simp at hy)⟩ (λ i σ' H' _ ⟨_,_,_,_,e,_⟩=>SqL.of e) ?_ ?_
     . rintro i y σ' H' hy ⟨new,v5,rfl,s4,e1,e2,e3,e4,e5,e6⟩
       unfold zaD at hy
       rw [List.getElem?_map] at hy
       obtain ⟨y,hyy,rfl⟩:=Option.map_eq_some_iff.mp hy
       replace hy:=hyy
       have hy1:=List.mem_of_getElem? hy
       have et:(nxt s x).take (i+1)=(nxt s x).take i++[y]:=by rw [List.take_add_one,hy]; rfl
       have dg:=DGet.k (k:=Sum.inl (y:Int)) e2
       have ln:(fd++new).length<=s.n:=fdlen _ e4 λ z hz=>(List.mem_append.mp hz).elim (hre z) λ h=>hxr z (e5 z h)
       refine ⟨_,rfl,_,rfl,_,_,rfl,dg,_,rfl,?_⟩
       refine zdU (!decide (y∈fd++new)) (by rw [zfN]) ?_
       by_cases hm:y∈fd++new
       . refine zaS (by simp [hm]) ⟨new,_,rfl,s4,e1,e2,e3,e4,e5,?_⟩
         intro z hz
         rw [et] at hz
         rcases List.mem_append.mp hz with hz | hz
         . exact e6 z hz
         . rw [List.mem_singleton.mp hz]; exact hm
       . refine zbl (by simp [hm]) ?_
         refine ⟨_,rfl,_,rfl,_,_,rfl,DPut.k (k:=Sum.inl (y:Int)) e2 (by have:=sm.n; unfold zcb; rw [List.length_map,sizeLine_eq]; omega),?_⟩
         rw [zpz hm]
         have e3':upd H' pf (.dK (zcb (fd++new++[y]))) pl=some (.lst (zaD (init++new))):=by rw [zae hfl.symm]; exact e3
         refine ⟨_,rfl,.inl ⟨rfl,_,SqL.of e3'⟩,_,rfl,_,_,_,rfl,rfl,e3',?_,?_⟩
         . have:=sm.n
           unfold zaD; rw [List.length_map,sizeLine_eq]
           simp only [List.length_append,List.length_cons,List.length_nil] at hll ln ⊢
           omega
         . refine ⟨new++[y],_,rfl,?_,?_,?_,?_,?_,?_,?_⟩
           . intro b o e
             rw [zae (fpl b o e),zae (Hpf b o e)]; exact s4 b o e
           . rw [zae hnpl,zae hnf]; exact e1
           . rw [zae hfl,zab,List.append_assoc]
           . rw [zab]; unfold zaD; simp
           . rw [<-List.append_assoc]
             exact List.nodup_append.mpr ⟨e4,by simp,λ a ha b hb=>by rw [List.mem_singleton.mp hb]; exact λ z=>hm (z ▸ ha)⟩
           . intro z hz
             rcases List.mem_append.mp hz with hz | hz
             . exact e5 z hz
             . rw [List.mem_singleton.mp hz]; exact hy1
           . intro z hz
             rw [<-List.append_assoc]
             rw [et] at hz
             rcases List.mem_append.mp hz with hz | hz
             . exact List.mem_append_left _ (e6 z hz)
             . exact List.mem_append_right _ hz
     . rintro σ' H' ⟨new,v5,rfl,s4,e1,e2,e3,e4,e5,e6⟩
       have e6:∀ y∈nxt s x,y∈fd++new:=by
         have:(zaD (nxt s x)).length=(nxt s x).length:=by unfold zaD; rw [List.length_map]
         rw [this,List.take_length] at e6; exact e6
       have re2:∀ z∈fd++new,zda s d z:=λ z hz=>(List.mem_append.mp hz).elim (hre z) λ h=>hxr z (e5 z h)
       have ln:(fd++new).length<=s.n:=fdlen _ e4 re2
       refine ⟨fd++new,init++new,_,_,rfl,⟨s4,e2,e3,e4,re2,λ z hz=>?_,?_⟩,λ z hz=>?_,?_⟩
       . rcases List.mem_append.mp hz with hz | hz
         . exact (hlf z (List.mem_append_left _ hz)).imp_right λ h=>List.mem_append_left _ h
         . exact .inr (List.mem_append_right _ hz)
       . simp only [List.length_append,List.length_cons,List.length_nil] at hll ⊢
         omega
       . have key:(z=d\/z∈fd)->z∈init++new\/∀ y∈nxt s z,y∈fd++new:=λ hz=>by
           rcases hcl z hz with h | h
           . rcases List.mem_append.mp h with h | h
             . exact .inl (List.mem_append_left _ h)
             . rw [List.mem_singleton.mp h]; exact .inr e6
           . exact .inr λ y hy=>List.mem_append_left _ (h y hy)
         rcases hz with hz | hz
         . exact key (.inl hz)
         . rcases List.mem_append.mp hz with hz | hz
           . exact key (.inr hz)
           . exact .inl (List.mem_append_right _ hz)
       . simp only [List.length_append,List.length_cons,List.length_nil] at ln ⊢
         omega
theorem zo5 {α β:Type} {f:α->β} (h:∀ a b,f a=f b->a=b) {l:List α} (nd:l.Nodup):(l.map f).Nodup:=by
 induction l with
 | nil=>simp
 | cons a r ih =>
  obtain ⟨n1,n2⟩:=List.nodup_cons.mp nd
  rw [List.map_cons]
  refine List.nodup_cons.mpr ⟨λ z=>?_,ih n2⟩
  obtain ⟨b,hb,e⟩:=List.mem_map.mp z
  exact n1 (h _ _ e ▸ hb)
theorem zlA {l:List Nat} {ys:List Key} (pm:ys.Perm (l.map λ (n:Nat)=>Sum.inl (n:Int))) (so:ys.Pairwise λ a b=>kLt a b=true) :
   ∃ L:List Nat,ys=L.map (λ (n:Nat)=>Sum.inl (n:Int))/\(∀ x,x∈L↔x∈l)/\L.Pairwise (· < ·):=by
 obtain ⟨L,rfl⟩:∃ L:List Nat,ys=L.map (λ (n:Nat)=>Sum.inl (n:Int)):=by
   have:∀ y∈ys,∃ n:Nat,y=Sum.inl (n:Int):=λ y hy=>by
     obtain ⟨n,_,e⟩:=List.mem_map.mp (pm.mem_iff.mp hy)
     exact ⟨n,e.symm⟩
   clear so pm
   induction ys with
   | nil=>exact ⟨[],rfl⟩
   | cons y r ih =>
     obtain ⟨n,rfl⟩:=this _ List.mem_cons_self
     obtain ⟨L,rfl⟩:=ih λ y hy=>this y (List.mem_cons_of_mem _ hy)
     exact ⟨n::L,rfl⟩
 refine ⟨L,rfl,λ x=>?_,?_⟩
 . have:=pm.mem_iff (a:=Sum.inl (x:Int))
   rw [List.mem_map,List.mem_map] at this
   constructor
   . intro h
     obtain ⟨y,hy,e⟩:=this.mp ⟨x,h,rfl⟩
     rw [zcW.mp e] at hy; exact hy
   . intro h
     obtain ⟨y,hy,e⟩:=this.mpr ⟨x,h,rfl⟩
     rw [zcW.mp e] at hy; exact hy
 . rw [List.pairwise_map] at so
   exact so.imp λ {a b} h=>by
     have:decide ((a:Int) < (b:Int))=true:=h
     have:=of_decide_eq_true this
     omega
theorem zj1 {xs:List V} {x:V}:atI (xs++[x]) (-1)=some x:=by
 have e:ixN (xs++[x]).length (-1)=some xs.length:=by
  unfold ixN
  rw [List.length_append,List.length_singleton,if_neg (by omega),if_pos (by omega)]
  congr 1; omega
 unfold atI
 rw [e]; simp
theorem zc1 (T:Txt K mg A F):FnOk P w K mg base (CX1 P w) 5 (F.f 22) (F.fd 22) ["self","deed"] (znE A):=by
 have G_Hall_come_to:=@zhy P w K mg base A F T
 refine T.zdm.okN za9 (λ vs H Q E h=>?_) (λ cdv A' outer s H vs Q E hr h=>?_)
 . obtain ⟨ρ,ad,s,kv,d,rfl,_⟩:=h
   rfl
 . obtain ⟨ρ,ad,s,kv,d,rfl,hh,c,hd0,th,sm,hd,q⟩:=h
   have hu:=zdL hr
   obtain ⟨dx,hp⟩:=hh.hall
   have RG:=zjm c th
   refine ⟨_,(zac (zaL (i:=2) za9.nd rfl (by walk_at "loc") (zax (pv 0) T.zaj T.zeV G_Hall_come_to (hmr hr) T.zeX .nil zaF (zaa (pv 1) zad)))
     (zac (zbq (zel (zep hu (pv 1) (pv 2))) (zag (zaw zgA)) zaH)
     (zac (zaL (i:=3) za9.nd rfl (by walk_at "loc") (za7 (zdY rfl) (by rfl) T.zg4 boot_sorted (zaa (pv 2) zad)))
     (zac (zg2 PassesOwn.never (zel (zep hu (pv 1) (zax (pv 0) T.zaj T.zeV G_Hall_come_to (hmr hr) T.zeX .nil zaF (zaa (zbe zbu (pv 3) (zrH zoq zam) (λ _ _=>rfl)) zad)))) (zag (zaM (zm0 PySem.F.plainAttrs_list PySem.F.slot_list_pop PySem.F.type_list_pop zq0 (pv 3)))))
     (zag (zaw (zbe zbu (pv 3) (zrH zoq zam) (λ _ _=>rfl)))))))),?_⟩
   refine ⟨_,rfl,_,dx,_,rfl,hp,rfl,_,rfl,ρ,ad,s,kv,d,rfl,hh,c,sm,hd,λ H1 pf fd m1 hf nd hre=>?_⟩
   have dg:=DGet.k (k:=Sum.inl (d:Int)) hf
   refine ⟨_,rfl,_,rfl,_,_,rfl,dg,_,rfl,?_⟩
   refine zdU (!decide (d∈fd)) (by rw [zfN]) ?_
   by_cases hm:d∈fd
   rotate_left
   . refine zbl (by simp [hm]) ?_
     have:=q H1 m1
     rw [RG.1 λ z=>hm ((hre d).mpr ((zdt c hd0).mpr z))] at this
     exact this
   refine zaS (by simp [hm]) ?_
   have fl:∀ x∈fd,x < s.n:=λ x hx=>by
     obtain ⟨z,hz,_⟩:=((hre x).mp hx).last
     exact zqW c hz
   have len:fd.length<=s.n:=zcF _ _ nd fl
   refine ⟨_,rfl,pf,_,rfl,.inr ⟨_,hf,rfl⟩,?_,?_,?_,λ ys pr pm so nr=>?_⟩
   . rw [show (zcb fd).map (·.1)=fd.map λ (n:Nat)=>Sum.inl (n:Int) by unfold zcb; rw [List.map_map]; rfl]
     exact zo5 (λ a b z=>zcW.mp z) nd
   . refine .inl λ k hk=>?_
     obtain ⟨y,hk2,rfl⟩:=List.mem_map.mp hk
     obtain ⟨x,_,e⟩:=List.mem_map.mp hk2
     exact ⟨_,by rw [<-e]⟩
   . have:=sm.n
     unfold zcb; rw [List.length_map,List.length_map]; omega
   obtain ⟨L,rfl,hL,sL⟩:=zlA (l:=fd) (by rw [show (zcb fd).map (·.1)=fd.map λ (n:Nat)=>Sum.inl (n:Int) by unfold zcb; rw [List.map_map]; rfl] at pm; exact pm) so
   have eL:List.map kV (L.map λ (n:Nat)=>Sum.inl (n:Int))=zaD L:=by unfold zaD; rw [List.map_map]; rfl
   rw [eL]
   have hdd:zda s d d:=(hre d).mp hm
   have s1:Same H (upd H1 pr (.lst (zaD L))):=m1.upd2 nr
   have frm:∀ b o,H b=some o->b≠pr:=λ b o e=>zaf (m1 b o e) nr
   refine ⟨λ m σ H2=>∃ pre rest,σ=[some (.ref (ad .hall)),some (.int d),some (.ref pf),some (.ref pr)]/\m=pre.length/\L=pre++rest/\d∈pre/\(∀ x∈rest,¬ zda s x d)/\Same H H2/\H2 pr=some (.lst (zaD pre)),⟨_,L,[],rfl,rfl,by simp,(hL d).mpr hm,(λ x hx=>by cases hx),s1,zab⟩,?_⟩
   rintro m σ H2 ⟨pre,rest,rfl,rfl,eq,hdp,hrest,s2,hr2⟩
   have hne:pre≠[]:=λ z=>by rw [z] at hdp; cases hdp
   obtain ⟨init,g,rfl⟩:∃ init g,pre=init++[g]:=⟨pre.dropLast,pre.getLast hne,(List.dropLast_concat_getLast hne).symm⟩
   have il:zaD (init++[g])=zaD init++[V.int (g:Int)]:=by unfold zaD; rw [List.map_append]; rfl
   have hat:atI (zaD (init++[g])) (-1)=some (V.int (g:Int)):=by
     rw [il]; exact zj1
   have hgL:g∈L:=by rw [eq]; simp
   have hgn:g < s.n:=fl g ((hL g).mp hgL)
   refine ⟨_,rfl,_,rfl,_,dx,_,rfl,s2 _ _ hp,rfl,_,rfl,_,rfl,_,_,_,_,rfl,rfl,SqL.of hr2,hat,ρ,ad,s,kv,g,rfl,hh.grow s2,c,sm,hgn,λ H3 pg gd m3 hg ndg hreg=>?_⟩
   have dg3:=DGet.k (k:=Sum.inl (d:Int)) hg
   refine ⟨_,_,rfl,dg3,_,rfl,?_⟩
   refine zdU (!decide (d∈gd)) (by rw [zfN]) ?_
   have hr3:=m3 _ _ hr2
   have s3:=s2.trans m3
   by_cases hgd:d∈gd
   . refine zaS (by simp [hgd]) ?_
     refine ⟨_,rfl,_,rfl,_,_,_,_,rfl,rfl,SqL.of hr3,hat,?_⟩
     have:=q H3 s3
     rw [RG.2 g ((zdt c hd0).mp ((hre g).mp ((hL g).mp hgL))) ((zdt c hd0).mp ((hreg d).mp hgd)) λ x h1 h2=>?_] at this
     . exact this
     . have hx:x∈L:=(hL x).mpr ((hre x).mpr ((zdt c hd0).mpr h1))
       rw [eq] at hx
       rcases List.mem_append.mp hx with hx | hx
       . rw [eq] at sL
         have sp:=(List.pairwise_append.mp sL).1
         rcases List.mem_append.mp hx with hx | hx
         . exact Nat.le_of_lt ((List.pairwise_append.mp sp).2.2 x hx g (by simp))
         . rw [List.mem_singleton.mp hx]; exact Nat.le_refl _
       . exact absurd ((zdt c hd0).mpr h2) (hrest x hx)
   . refine zbl (by simp [hgd]) ?_
     have hgd2:¬ zda s g d:=λ z=>hgd ((hreg d).mpr z)
     refine ⟨λ σ' H'=>∃ pre' rest',σ'=[some (.ref (ad .hall)),some (.int d),some (.ref pf),some (.ref pr)]/\pre'.length < (init++[g]).length/\L=pre'++rest'/\d∈pre'/\(∀ x∈rest',¬ zda s x d)/\Same H H'/\H' pr=some (.lst (zaD pre')),λ σ' H' ⟨pre',rest',e,lt,a1,a2,a3,a4,a5⟩=>⟨_,lt,pre',rest',e,rfl,a1,a2,a3,a4,a5⟩,?_⟩
     have hlast:(zaD (init++[g]))[(zaD (init++[g])).length - 1]?=some (V.int (g:Int)):=by
       rw [il]; simp
     refine ⟨_,rfl,.inl ⟨rfl,_,SqL.of hr3⟩,pr,_,_,rfl,rfl,hr3,hlast,?_⟩
     have hdrop:(zaD (init++[g])).dropLast=zaD init:=by rw [il,List.dropLast_concat]
     rw [hdrop]
     refine ⟨init,g::rest,rfl,by simp,by rw [eq]; simp,?_,?_,λ b o e=>by rw [zae (frm b o e)]; exact s3 b o e,zab⟩
     . rcases List.mem_append.mp hdp with z | z
       . exact z
       . rw [<-List.mem_singleton.mp z] at hgd2; exact absurd hdd hgd2
     . intro x hx
       rcases List.mem_cons.mp hx with rfl | hx
       . exact hgd2
       . exact hrest x hx
theorem zkK (T:Txt K mg A F):FnOk P w K mg base (CX1 P w) 2 (F.f 24) (F.fd 24) ["self","deed"] (zsu A):=by
 have G_Record_written:=@zdq P w K mg base A F T
 refine T.zmE.okN zed (λ vs H Q E h=>?_) (λ cdv A' outer s H vs Q E hr h=>?_)
 . obtain ⟨ρ,ad,s,kv,d,rfl,_⟩:=h
   rfl
 . obtain ⟨ρ,ad,s,kv,d,rfl,hh,sm,hd,hks,q⟩:=h
   have hu:=zdL hr
   obtain ⟨dx,hp⟩:=hh.hall
   obtain ⟨wv,ra,_⟩:=hh.recAt hd
   obtain ⟨dr,hrc⟩:=ra.ob
   refine ⟨_,(zag (zeS PassesOwn.never rfl (zcS (zdI (zbe zbu (zal (pv 0) rfl) (pv 1) (λ _ _=>rfl)) T.zat T.zdR G_Record_written (hmr hr) T.zdZ .nil zaF)) (ziN (n:=2) rfl (za1 (zaE (i:=2) zed.nd rfl (by walk_at "loc")) (za1 (zaE (i:=3) zed.nd rfl (by walk_at "loc")) zen))) (zag (zbq (zel (zoY hu (pv 2) (zal (pv 0) rfl))) (zag (zho hu (zal (pv 0) rfl) (pv 2) (zdh hu (zal (pv 0) rfl) (pv 2) (λ _ _=>rfl)) rfl)) (zag (zaM (zmZ (zal (pv 0) rfl) (pv 2) zgA ⟨rfl,rfl,rfl,rfl⟩))))))),?_⟩
   refine ⟨_,rfl,_,_,dx,_,_,rfl,hp,T.zaj,T.zaA,rfl,_,rfl,_,_,_,_,rfl,rfl,SqL.of hh.recs,zbm (hh.zfA hd),_,dr,_,rfl,hrc,rfl,_,_,_,_,_,rfl,ra,by have:=sm.dn d; omega,λ H1 ql us m1 hq tu=>⟨ql,rfl,⟨_,SqL.of hq⟩,?_⟩⟩
   have hul:us.length=(zas (s.deed d).done).length:=by rw [tu.length,List.length_map]
   refine zeL (xs:=us) (λ i σ H2=>∃ v2 v3,σ=[some (.ref (ad .hall)),some (.int d),v2,v3]/\zai A ρ ad { s with book:=ub kv s.book (((zas (s.deed d).done).take i).map (·.1)) } kv H2/\Frame ρ H ρ H2/\H2 ql=some (.lst us)/\zau H2 us ((zas (s.deed d).done).map ziF)) ⟨_,_,rfl,hh.grow m1,Frame.grow m1,hq,tu⟩ (λ i σ H2 _ ⟨_,_,_,_,_,e,_⟩=>SqL.of e) ?_ ?_
   . rintro i x σ H2 hx ⟨v2,v3,rfl,h2,f2,hq2,t2⟩
     obtain ⟨y,hy1,r,rfl,hr1⟩:=zck t2 hx
     rw [List.getElem?_map] at hy1
     obtain ⟨⟨k,v⟩,ha,rfl⟩:=Option.map_eq_some_iff.mp hy1
     have e1:(zas (s.deed d).done).take (i+1)=(zas (s.deed d).done).take i++[(k,v)]:=by rw [List.take_add_one,ha]; rfl
     obtain ⟨dx2,hp2⟩:=h2.hall
     obtain ⟨l,hl,hb⟩:=h2.zcm
     have hb:zbo l (ub kv s.book (((zas (s.deed d).done).take i).map (·.1))):=hb
     obtain ⟨lk,hlk,hbk⟩:=h2.zdk
     have dg:=DGet.k (k:=Sum.inr k) hlk
     rw [hbk.val] at dg
     have hll:l.length<=4:=Nat.le_trans (hb.len sm.snd λ j hj=>by
      unfold ub at hj
      by_cases z:j∈((zas (s.deed d).done).take i).map (·.1)
      . rw [if_pos z] at hj; exact hks j hj
      . rw [if_neg z] at hj; exact sm.bs j hj) sm.seen
     have step:∀ (H3:Hp) (l3:List (Str×Int)),H3 (ad .zcm)=some (.dK (bkV l3))->zct H2 (ad .zcm) H3->zbo l3 (up (ub kv s.book (((zas (s.deed d).done).take i).map (·.1))) k (kv k))->∃ v2 v3,[some (.ref (ad .hall)),some (.int d),some (V.str k),some (V.int v)]=[some (.ref (ad .hall)),some (.int (d:Int)),v2,v3]/\zai A ρ ad { s with book:=ub kv s.book (((zas (s.deed d).done).take (i+1)).map (·.1)) } kv H3/\Frame ρ H ρ H3/\H3 ql=some (.lst us)/\zau H3 us ((zas (s.deed d).done).map ziF):=λ H3 l3 e3 k3 b3=>by
      obtain ⟨h3,f3⟩:=h2.zmS T.ok e3 k3 b3
      refine ⟨_,_,rfl,?_,f2.trans f3,k3 _ _ hq2 (zbF hq2 hl (λ z=>nomatch z)),zau.mono (Imm.zgf T.ok h2 (r:=.zcm) trivial k3) t2⟩
      rw [e1,List.map_append]
      rw [zrj] at h3
      exact h3
     refine ⟨r,_,rfl,SqT.of hr1,rfl,_,_,rfl,_,_,rfl,rfl,?_⟩
     refine ⟨_,rfl,_,rfl,_,_,dx2,_,_,rfl,hp2,T.zaj,T.zbs,rfl,_,_,rfl,dg,_,rfl,?_⟩
     cases hkv:kv k with
     | some u =>
      rw [hkv] at dg
      refine zbl rfl ?_
      refine ⟨_,rfl,_,_,dx2,_,_,rfl,hp2,T.zaj,T.zbs,rfl,_,rfl,_,_,rfl,dg,_,rfl,_,_,dx2,_,_,rfl,hp2,T.zaj,T.zbw,rfl,_,rfl,_,_,rfl,DPut.k (k:=Sum.inr k) hl (by rw [zmk,sizeLine_eq]; omega),?_⟩
      rw [zmj]
      refine step _ _ zab (λ b o e hb=>by rw [zae hb]; exact e) ?_
      rw [hkv]
      exact hb.put k u
     | none =>
      refine zaS rfl ?_
      refine ⟨_,rfl,_,_,dx2,_,_,rfl,hp2,T.zaj,T.zbw,rfl,_,rfl,.inl ⟨_,.of hl⟩,_,rfl,_,Sum.inr k,hl,rfl,λ v hv=>?_,λ hv=>?_⟩
      . rw [zqM]
        refine step _ _ zab (λ b o e hb=>by rw [zae hb]; exact e) ?_
        rw [hkv]
        exact hb.drop k
      . refine step _ _ hl (λ b o e _=>e) ?_
        rw [hkv]
        refine hb.zpG ?_
        rw [hb.val] at hv
        simpa using hv
   . rintro σ H2 ⟨v2,v3,rfl,h2,f2,_⟩
     rw [hul,List.take_length,zon] at h2
     exact q H2 h2 f2
theorem zin (T:Txt K mg A F):FnOk P w K mg base (CX1 P w) 4 (F.f 29) (F.fd 29) ["self","key"] (zrt A):=by
 have G_Desk_lets_first:=@zfE P w K mg base A F T
 have G_Hall_carry_out:=@zdr P w K mg base A F T
 refine T.zj9.okN zdb (λ vs H Q E h=>?_) (λ cdv A' outer s H vs Q E hr h=>?_)
 . obtain ⟨ρ,ad,s,kv,k,T,rfl,_⟩:=h
   rfl
 . obtain ⟨ρ,ad,s,kv,k,T0,rfl,hh,c,L,hk,q⟩:=h
   have hu:=zdL hr
   obtain ⟨dx,hp⟩:=hh.hall
   refine ⟨_,(zac (zaL (i:=2) zdb.nd rfl (by walk_at "loc") (zdh hu (zal (pv 0) rfl) (pv 1) (λ _ _=>rfl)))
    (zag (zg2 PassesOwn.never (ziK (zdI (pv 2) T.zaN T.zgd G_Desk_lets_first (hmr hr) T.zgq .nil zaF)) (zac (zaL (i:=3) zdb.nd rfl (by walk_at "loc") (zeo PySem.F.plainAttrs_list PySem.F.slot_list_pop PySem.F.type_list_pop zqo (zal (pv 2) rfl) (zaa zam zad)))
    (zag (zaM (zax (pv 0) T.zaj T.zdS G_Hall_carry_out (hmr hr) T.zd0 .nil zaF (zaa (zbe zb0 (pv 3) zam (λ _ _=>rfl)) (zaa (zal (zbe zbu (zal (pv 0) rfl) (zbe zb0 (pv 3) zam (λ _ _=>rfl)) (λ _ _=>rfl)) rfl) zad))))))))),?_⟩
   refine ⟨_,rfl,_,_,dx,_,_,rfl,hp,T.zaj,T.zaU,rfl,_,rfl,_,_,rfl,hh.zdN hk,?_⟩
   refine ⟨λ m σ H2=>∃ t v3,σ=[some (.ref (ad .hall)),some (.str k),some (.ref (ad (.desk k))),v3]/\m=(t.rows k).length/\zai A ρ ad t kv H2/\Frame ρ H ρ H2/\Core t none/\Lim t T0/\t.seen=s.seen/\zbz (s.rows k).length s k=zbz (t.rows k).length t k,⟨_,s,none,rfl,rfl,hh,.refl,c,L,rfl,rfl⟩,?_⟩
   rintro m σ H2 ⟨t,v3,rfl,rfl,h2,f2,c2,L2,es,eg⟩
   have hk2:k∈t.seen:=by rw [es]; exact hk
   have sm:=L2.sm c2
   have D:=h2.desk hk2
   obtain ⟨dd,hdk⟩:=D.ob
   refine ⟨_,rfl,_,dd,_,rfl,hdk,rfl,_,_,_,_,_,rfl,D,sm.hl k,sm.hn k,λ H3 m3=>?_⟩
   refine ⟨_,rfl,?_⟩
   cases hrw:t.rows k with
   | nil =>
    refine zaS rfl (q H3 ?_ (f2.trans (Frame.grow m3)))
    rw [eg,zfM hrw]; exact h2.grow m3
   | cons pr r =>
    obtain ⟨d,w'⟩:=pr
    cases hlt:lets (t.held k) d w' with
    | false =>
     refine zaS hlt (q H3 ?_ (f2.trans (Frame.grow m3)))
     rw [eg,zeH hrw hlt]; exact h2.grow m3
    | true =>
     refine zbl hlt ?_
     have h3:=h2.grow m3
     have D3:=h3.desk hk2
     obtain ⟨us,hus,tus⟩:=D3.rw
     obtain ⟨dd3,hdk3⟩:=D3.ob
     rw [hrw] at tus
     obtain ⟨u0,us',rfl,⟨pp,rfl,hpp⟩,tus'⟩:∃ u0 us',us=u0::us'/\TupAt H3 u0 (zb2 (d,w'))/\zau H3 us' (r.map zb2):=by
       cases tus with
       | cons a b=>exact ⟨_,_,rfl,a,b⟩
     have kp4:zct H3 (ad (.row k)) (upd H3 (ad (.row k)) (.lst us')):=λ b o e hb=>by rw [zae hb]; exact e
     have im4:=Imm.zgf T.ok h3 (r:=.row k) hk2 kp4
     obtain ⟨h4,f4⟩:=h3.zqS T.ok hk2 (r:=r) zab kp4 (zau.mono im4 tus')
     have hpp4:=im4.tup _ _ hpp
     refine ⟨λ σ' H'=>∃ t' v3,σ'=[some (.ref (ad .hall)),some (.str k),some (.ref (ad (.desk k))),v3]/\(t'.rows k).length < ((d,w')::r).length/\zai A ρ ad t' kv H'/\Frame ρ H ρ H'/\Core t' none/\Lim t' T0/\t'.seen=s.seen/\zbz (s.rows k).length s k=zbz (t'.rows k).length t' k,λ σ' H' ⟨t',v3,e,lt,a1,a2,a3,a4,a5,a6⟩=>⟨_,lt,t',v3,e,rfl,a1,a2,a3,a4,a5,a6⟩,?_⟩
     refine ⟨_,rfl,_,_,dd3,_,_,rfl,hdk3,T.zaN,T.zaX,rfl,.inl ⟨rfl,_,SqL.of hus⟩,ad (.row k),_,0,0,_,rfl,rfl,hus,by decide,by decide,(zpn (n:=(V.ref pp::us').length) (i:=0) (j:=0) (by unfold ixN; rw [if_pos (by decide),if_pos (by simp)]; rfl)).1,rfl,?_⟩
     show tSeq _ _ _ _ (upd H3 (ad (.row k)) (.lst us'))
     generalize upd H3 (ad (.row k)) (.lst us')=H4 at *
     have hm:(d,w')∈t.rows k:=by rw [hrw]; exact List.mem_cons_self
     obtain ⟨hst,a,ha,hak,haw⟩:=c2.rAct k _ hm
     have hdn:d < t.n:=c2.lt (.inr hst)
     obtain ⟨dr,wv,hr4,hw4⟩:=h4.rcd hdn
     obtain ⟨dx4,hp4⟩:=h4.hall
     have hwo:wantOf (t.deed d)=some a:=by
       have hst:(t.deed d).st=.waiting:=hst
       unfold wantOf; rw [if_pos hst]; exact ha
     have hw4:zcs A H4 wv (wantOf (t.deed d)):=hw4
     rw [hwo] at hw4
     have sm4:Sm { t with rows:=up t.rows k r }:=⟨sm.n,sm.seen,sm.snd,sm.dn,sm.lg,sm.kp,sm.hl,sm.hn,(λ j=>by
       show (up t.rows k r j).length<=1000
       by_cases z:j=k
       . subst z; rw [zah]; have:=sm.rl j; rw [hrw,List.length_cons] at this; omega
       . rw [zan z]; exact sm.rl j),sm.bs⟩
     refine ⟨_,rfl,_,dx4,_,rfl,hp4,rfl,_,rfl,pp,_,_,_,rfl,rfl,SqT.of hpp4,rfl,_,rfl,_,_,dx4,_,_,rfl,hp4,T.zaj,T.zaA,rfl,_,rfl,pp,_,_,_,rfl,rfl,SqT.of hpp4,rfl,_,_,_,_,rfl,rfl,SqL.of h4.recs,zbm (h4.zfA hdn),_,_,dr,_,_,rfl,hr4,T.zat,T.za3,rfl,ρ,ad,_,kv,d,wv,a,rfl,h4,sm4,hdn,by rw [hak]; exact hk2,hw4,λ H5 h5 f5=>?_⟩
     have hak:a.key=k:=hak
     have haw:a.wr=w':=haw
     rw [hak,haw,<-zn1 c2 hrw] at h5
     have e1:zbz 1 t k=doIt (take { t with rows:=up t.rows k r } d k w') d a:=by
       rw [zeI hrw hlt ha]; rfl
     rw [<-e1] at h5
     have er:(zbz 1 t k).rows k=r:=by
       rw [e1,zcX]; exact zah
     obtain ⟨g1,g2⟩:=zn0 (k:=k) (f:=1) c2
     refine ⟨zbz 1 t k,_,rfl,?_,h5,((f2.trans (Frame.grow m3)).trans f4).trans f5,c2.zbz,⟨Ext.zbz L2.e c2,L2.t,by rw [g2]; exact L2.n,by rw [g1]; exact L2.sn⟩,by rw [g1]; exact es,?_⟩
     . rw [er,List.length_cons]; omega
     . rw [eg,er,e1,hrw,List.length_cons,zeI hrw hlt ha]
theorem zhw (T:Txt K mg A F):FnOk P w K mg base (CX1 P w) 5 (F.f 30) (F.fd 30) ["self","deed","state"] (ztA A):=by
 have G_Record_touched_keys:=@zd4 P w K mg base A F T
 have G_Desk_leave:=@zjx P w K mg base A F T
 have G_Hall_let_on:=@zin P w K mg base A F T
 refine T.zoi.okN zcP (λ vs H Q E h=>?_) (λ cdv A' outer s H vs Q E hr h=>?_)
 . obtain ⟨ρ,ad,s,s0,kv,d,st,T0,rfl,_⟩:=h
   rfl
 . obtain ⟨ρ,ad,s,s0,kv,d,st,T0,rfl,hh,c0,L0,hd0,e1,e2,e3,e4,e5,c1,L1,hst,hd,q⟩:=h
   have hu:=zdL hr
   obtain ⟨dx,hp⟩:=hh.hall
   obtain ⟨wv,ra,hw⟩:=hh.recAt hd
   obtain ⟨dr,hrc⟩:=ra.ob
   have sm0:=L0.sm c0
   have ek:(s.deed d).done.map (·.key)++zc3 (wantOf (s.deed d))=touched s0 d:=by rw [zgJ]; unfold touched; rw [e1]
   have hts:∀ k∈touched s0 d,k∈s.seen:=λ k hk=>by rw [e4]; exact zeb c0 L0.e k hk
   have hlen:(ordS (touched s0 d)).length<=4:=Nat.le_trans (zqm _ s0.seen (zeb c0 L0.e) L0.e.snd) L0.sn
   refine ⟨_,(zac (zaL (i:=3) zcP.nd rfl (by walk_at "loc") (zbe zbu (zal (pv 0) rfl) (pv 1) (λ _ _=>rfl)))
     (zac (zaL (i:=4) zcP.nd rfl (by walk_at "loc") (zdI (pv 3) T.zat T.zer G_Record_touched_keys (hmr hr) T.zey .nil zaF))
     (zac (zbQ (pv 3) (pv 2) rfl)
     (zac (zbQ (pv 3) zgA rfl)
     (zac (zeS PassesOwn.never rfl (ziM (pv 4)) (zaE (i:=5) zcP.nd rfl (by walk_at "loc")) (zag (zaM (zax (zdh hu (zal (pv 0) rfl) (pv 5) (λ _ _=>rfl)) T.zaN T.zkX G_Desk_leave (hmr hr) T.zln .nil zaF (zaa (pv 1) zad)))))
     (zag (zeS PassesOwn.never rfl (ziM (pv 4)) (zaE (i:=5) zcP.nd rfl (by walk_at "loc")) (zag (zaM (zax (pv 0) T.zaj T.zjE G_Hall_let_on (hmr hr) T.zjZ .nil zaF (zaa (pv 5) zad))))))))))),?_⟩
   refine ⟨_,rfl,_,_,dx,_,_,rfl,hp,T.zaj,T.zaA,rfl,_,rfl,_,_,_,_,rfl,rfl,SqL.of hh.recs,zbm (hh.zfA hd),?_⟩
   refine ⟨_,rfl,_,dr,_,rfl,hrc,rfl,_,_,_,_,_,_,rfl,ra,hw,by have:=sm0.dn d; rw [e1]; omega,by rw [ek]; omega,λ H1 qt nq m1 hq=>?_⟩
   rw [ek] at hq
   have h1:=hh.grow m1
   refine ⟨_,rfl,_,rfl,_,_,dr,_,rfl,m1 _ _ hrc,T.zat,T.zay,Nat.le_of_ble_eq_true rfl,_,rfl,_,_,dr,_,rfl,zab,T.zat,T.za3,Nat.le_of_ble_eq_true rfl,?_⟩
   rw [zjd]
   have kp2:zct H1 (ad (.rcd d)) (upd H1 (ad (.rcd d)) (.ins A.zaB dr (recF st (ad (.did d)) .non))):=λ b o e hb=>by rw [zae hb]; exact e
   obtain ⟨h2,f2⟩:=h1.zoH (H':=upd H1 (ad (.rcd d)) (.ins A.zaB dr (recF st (ad (.did d)) .non))) T.ok hd (D:={ s.deed d with st:=st }) (w:=.non) zab kp2 (by unfold wantOf; rw [if_neg hst]; rfl) rfl
   have hq2:=(Imm.zgf T.ok h1 (r:=.rcd d) hd kp2).tup _ _ hq
   have f02:=(Frame.grow (ρ:=ρ) m1).trans f2
   have ro0:ρ qt=.other:=hh.fr _ nq
   show tSeq _ _ _ _ (upd H1 (ad (.rcd d)) (.ins A.zaB dr (recF st (ad (.did d)) .non)))
   generalize upd H1 (ad (.rcd d)) (.ins A.zaB dr (recF st (ad (.did d)) .non))=H2 at *
   have h2:zai A ρ ad (zfx s d st) kv H2:=h2
   refine ⟨_,rfl,qt,rfl,⟨_,SqT.of hq2⟩,?_⟩
   refine zjP (xs:=(ordS (touched s0 d)).map V.str) (λ i σ H'=>∃ ρ' ad' v5,σ=[some (.ref (ad .hall)),some (.int d),some (.str (stS st)),some (.ref (ad (.rcd d))),some (.ref qt),v5]/\ad' Role.hall=ad .hall/\zai A ρ' ad' (((ordS (touched s0 d)).take i).foldl (λ s k=>zes s d k) (zfx s d st)) kv H'/\Frame ρ H ρ' H'/\H' qt=some (.tup ((ordS (touched s0 d)).map V.str))/\ρ' qt=.other) ⟨ρ,ad,_,rfl,rfl,h2,f02,hq2,ro0⟩ (λ i σ H' _ ⟨_,_,_,_,_,_,_,e,_⟩=>SqT.of e) ?_ ?_
   . rintro i x σ H3 hx ⟨ρ3,ad3,v5,rfl,ea,h3,f3,hq3,ro3⟩
     rw [List.getElem?_map] at hx
     obtain ⟨k,hk,rfl⟩:=Option.map_eq_some_iff.mp hx
     have e6:(ordS (touched s0 d)).take (i+1)=(ordS (touched s0 d)).take i++[k]:=by rw [List.take_add_one,hk]; rfl
     have hks:k∈s.seen:=hts k (zbh.mp (List.mem_of_getElem? hk))
     have hks3:k∈(((ordS (touched s0 d)).take i).foldl (λ s k=>zes s d k) (zfx s d st)).seen:=by rw [zfo]; exact hks
     obtain ⟨dx3,hp3⟩:=h3.hall
     have D:=h3.desk hks3
     obtain ⟨dd,hdk⟩:=D.ob
     rw [<-ea]
     refine ⟨_,rfl,_,_,dx3,_,_,rfl,hp3,T.zaj,T.zaU,rfl,_,rfl,_,_,rfl,h3.zdN hks3,_,dd,_,rfl,hdk,rfl,_,rfl,_,_,_,dd,_,_,d,rfl,D,hdk,?_,λ H4 rw' us n0 a1 a2 a3 a4 a5=>?_⟩
     . rw [(zfJ d _ _).2]
       show (if k∈(ordS (touched s0 d)).take i then less (s.rows k) d else s.rows k).length<=1000
       have:=sm0.rl k
       rw [e3]
       split
       . exact Nat.le_trans (List.length_filter_le _ _) this
       . exact this
     . obtain ⟨ρ4,ad4,ea4,h4,f4⟩:=h3.leave T.ok hks3 n0 a1 a2 a3 a4 a5
       refine ⟨ρ4,ad4,_,by rw [ea]; rfl,by rw [ea4],?_,f3.trans f4,(f4 _ _ hq3 ro3).1,(f4 _ _ hq3 ro3).2⟩
       rw [e6,List.foldl_append]; exact h4
   . rintro σ H3 ⟨ρ3,ad3,v5,rfl,ea,h3,f3,hq3,ro3⟩
     rw [List.length_map,List.take_length,zk2 λ k hk=>?_] at h3
     rotate_left
     . have:=zhB (d:=d) (k:=k) c0 L0.e λ z=>hk (zbh.mpr z)
       show less (s.held k) d=s.held k/\less (s.rows k) d=s.rows k
       rw [e2,e3]; exact this
     have ef:free ordS (zfx s d st) d=zaK (letGo (zfx s d st) d) (ordS (touched s0 d)):=zk9 ordS zql c0 L0.e hd0 c1 e2 e3 e4
     refine ⟨_,rfl,qt,rfl,⟨_,SqT.of hq3⟩,?_⟩
     refine zjP (xs:=(ordS (touched s0 d)).map V.str) (λ i σ H'=>∃ v5,σ=[some (.ref (ad .hall)),some (.int d),some (.str (stS st)),some (.ref (ad (.rcd d))),some (.ref qt),v5]/\zai A ρ3 ad3 (zaK (letGo (zfx s d st) d) ((ordS (touched s0 d)).take i)) kv H'/\Frame ρ H ρ3 H'/\H' qt=some (.tup ((ordS (touched s0 d)).map V.str))) ⟨_,rfl,h3,f3,hq3⟩ (λ i σ H' _ ⟨_,_,_,_,e⟩=>SqT.of e) ?_ ?_
     . rintro i x σ H4 hx ⟨v5,rfl,h4,f4,hq4⟩
       rw [List.getElem?_map] at hx
       obtain ⟨k,hk,rfl⟩:=Option.map_eq_some_iff.mp hx
       have e6:(ordS (touched s0 d)).take (i+1)=(ordS (touched s0 d)).take i++[k]:=by rw [List.take_add_one,hk]; rfl
       have hks:k∈s.seen:=hts k (zbh.mp (List.mem_of_getElem? hk))
       obtain ⟨dx4,hp4⟩:=h4.hall
       have c4:Core (zaK (letGo (zfx s d st) d) ((ordS (touched s0 d)).take i)) none:=Core.zaK c1
       have s4:=zdM ((ordS (touched s0 d)).take i) (letGo (zfx s d st) d) c1
       have n4:=zjL ((ordS (touched s0 d)).take i) (letGo (zfx s d st) d) c1
       rw [<-ea]
       refine ⟨_,rfl,_,dx4,_,rfl,hp4,rfl,_,rfl,ρ3,ad3,_,kv,k,T0,rfl,h4,c4,⟨L1.e.zaK c1,L1.t,by rw [n4]; exact L1.n,by rw [s4]; exact L1.sn⟩,by rw [s4]; exact hks,λ H5 h5 f5=>⟨_,by rw [ea]; rfl,?_,f4.trans f5,(f5 _ _ hq4 ro3).1⟩⟩
       rw [e6,zi0]; exact h5
     . rintro σ H4 ⟨v5,rfl,h4,f4,hq4⟩
       rw [List.length_map,List.take_length,<-ef] at h4
       exact q H4 ρ3 ad3 ea h4 f4
theorem zgD (T:Txt K mg A F):FnOk P w K mg base (CX1 P w) 6 (F.f 31) (F.fd 31) ["self","deed"] (zsA A):=by
 have G_Hall_undo:=@zkK P w K mg base A F T
 have G_Hall_end:=@zhw P w K mg base A F T
 refine T.zmI.okN zku (λ vs H Q E h=>?_) (λ cdv A' outer s H vs Q E hr h=>?_)
 . obtain ⟨ρ,ad,s,d,T0,rfl,_⟩:=h
   rfl
 . obtain ⟨ρ,ad,s,d,T0,rfl,hh,c,L,hd0,hact,q⟩:=h
   have hd:=c.lt hact
   have sm:=L.sm c
   obtain ⟨dx,hp⟩:=hh.hall
   obtain ⟨us,hus,tus⟩:=hh.rows
   have hul:us.length=s.log.length:=by rw [tus.length,List.length_map]
   refine ⟨_,(zac (zaM (zeo PySem.F.plainAttrs_list PySem.F.slot_list_append PySem.F.type_list_append zbx (zal (pv 0) rfl) (zaa (zbD (zaa (zcE rfl T.zpy) (zaa (pv 1) zad))) zad)))
     (zac (zaM (zax (pv 0) T.zaj T.zlY G_Hall_undo (hmr hr) T.zmo .nil zaF (zaa (pv 1) zad)))
     (zag (zaM (zax (pv 0) T.zaj T.ziS G_Hall_end (hmr hr) T.zi9 .nil zaF (zaa (pv 1) (zaa (zcE rfl T.zgm) zad))))))),?_⟩
   refine ⟨_,rfl,_,_,dx,_,_,rfl,hp,T.zaj,T.zbZ,rfl,.inl ⟨rfl,_,SqL.of hus⟩,_,rfl,sz2,λ n nn=>⟨ad .rows,_,_,rfl,rfl,zao hus nn,by have:=sm.lg; rw [hul,sizeLine_eq]; omega,?_⟩⟩
   have h3:=hh.grow (H':=upd H n (.tup [V.str "give up",V.int (d:Int)])) (Same.zaq nn)
   obtain ⟨h4,f4⟩:=h3.znp (H':=upd (upd H n (.tup [V.str "give up",V.int (d:Int)])) (ad .rows) (.lst (us++[.ref n]))) T.ok (row:=.drop d) (zao hus nn) zab (λ b o e hb=>by rw [zae hb]; exact e) ⟨n,rfl,by rw [zae (zaf hus nn).symm,zab]; rfl⟩
   have f04:=(Frame.grow (ρ:=ρ) (Same.zaq (o:=.tup [V.str "give up",V.int (d:Int)]) nn)).trans f4
   show tSeq _ _ _ _ (upd (upd H n (.tup [V.str "give up",V.int (d:Int)])) (ad .rows) (.lst (us++[.ref n])))
   generalize upd (upd H n (.tup [V.str "give up",V.int (d:Int)])) (ad .rows) (.lst (us++[.ref n]))=H4 at *
   obtain ⟨dx4,hp4⟩:=h4.hall
   refine ⟨_,rfl,_,dx4,_,rfl,hp4,rfl,_,rfl,ρ,ad,_,zav s,d,rfl,h4,⟨sm.n,sm.seen,sm.snd,sm.dn,?_,sm.kp,sm.hl,sm.hn,sm.rl,sm.bs⟩,hd,L.e.zqx,λ H5 h5 f5=>?_⟩
   . show (s.log++[_]).length<=3000
     have:=L.e.lg; have:=L.t
     rw [List.length_append,List.length_singleton]; omega
   . obtain ⟨dx5,hp5⟩:=h5.hall
     refine ⟨_,rfl,_,dx5,_,rfl,hp5,rfl,_,rfl,ρ,ad,_,s,zav s,d,.dropped,T0,rfl,h5,c,L,hd0,rfl,rfl,rfl,rfl,rfl,c.drops hact,L.drops c hact,by decide,hd,λ H6 ρ6 ad6 ea6 h6 f6=>q H6 ρ6 ad6 ea6 h6 ((f04.trans f5).trans f6)⟩
theorem zkJ (T:Txt K mg A F):FnOk P w K mg base (CX1 P w) 7 (F.f 32) (F.fd 32) ["self","deed","want"] (zst A):=by
 have G_Desk_line_up:=@zhA P w K mg base A F T
 have G_Hall_greatest_all_round:=@zc1 P w K mg base A F T
 have G_Hall_drop:=@zgD P w K mg base A F T
 refine T.zmD.okN zc4 (λ vs H Q E h=>?_) (λ cdv A' outer s H vs Q E hr h=>?_)
 . obtain ⟨ρ,ad,s,d,a,wv,T0,rfl,_⟩:=h
   rfl
 . obtain ⟨ρ,ad,s,d,a,wv,T0,rfl,hh,hk,⟨pw,dw,rfl,hw⟩,hd,sm,c1,hh1,th1,L1,q⟩:=h
   have hu:=zdL hr
   obtain ⟨dx,hp⟩:=hh.hall
   obtain ⟨dr,w0,hrc,_⟩:=hh.rcd hd
   refine ⟨_,(zac (zaL (i:=3) zc4.nd rfl (by walk_at "loc") (zbe zbu (zal (pv 0) rfl) (pv 1) (λ _ _=>rfl)))
    (zac (zbQ (pv 3) (zcE rfl T.zk8) rfl)
    (zac (zbQ (pv 3) (pv 2) rfl)
    (zac (zaM (zax (zdh hu (zal (pv 0) rfl) (zal (pv 2) rfl) (λ _ _=>rfl)) T.zaN T.zis G_Desk_line_up (hmr hr) T.ziy .nil zaF (zaa (pv 1) (zaa (zal (pv 2) rfl) zad))))
    (zac (zaL (i:=4) zc4.nd rfl (by walk_at "loc") (zax (pv 0) T.zaj T.zbR G_Hall_greatest_all_round (hmr hr) T.zbS .nil zaF (zaa (pv 1) zad)))
    (zag (zg2 PassesOwn.never (zel (zoX (pv 4))) (zac (zaM (zax (pv 0) T.zaj T.zhE G_Hall_drop (hmr hr) T.zh6 .nil zaF (zaa (pv 4) zad)))
    (zag (zaL (i:=4) zc4.nd rfl (by walk_at "loc") (zax (pv 0) T.zaj T.zbR G_Hall_greatest_all_round (hmr hr) T.zbS .nil zaF (zaa (pv 1) zad)))))))))))),?_⟩
   refine ⟨_,rfl,_,_,dx,_,_,rfl,hp,T.zaj,T.zaA,rfl,_,rfl,_,_,_,_,rfl,rfl,SqL.of hh.recs,zbm (hh.zfA hd),?_⟩
   refine ⟨_,rfl,_,_,dr,_,rfl,hrc,T.zat,T.zay,Nat.le_of_ble_eq_true rfl,_,rfl,_,rfl,_,_,dr,_,rfl,zab,T.zat,T.za3,Nat.le_of_ble_eq_true rfl,?_⟩
   rw [zjd]
   have kp2:zct H (ad (.rcd d)) (upd H (ad (.rcd d)) (.ins A.zaB dr (recF .waiting (ad (.did d)) (.ref pw)))):=λ b o e hb=>by rw [zae hb]; exact e
   have im2:=Imm.zgf T.ok hh (r:=.rcd d) hd kp2
   have hw2:=im2.want _ _ _ hw
   obtain ⟨h2,f2⟩:=hh.zoH (H':=upd H (ad (.rcd d)) (.ins A.zaB dr (recF .waiting (ad (.did d)) (.ref pw)))) T.ok hd (D:={ s.deed d with st:=.waiting,wish:=some a }) (w:=.ref pw) zab kp2 ⟨pw,dw,rfl,hw2⟩ rfl
   show tSeq _ _ _ _ (upd H (ad (.rcd d)) (.ins A.zaB dr (recF .waiting (ad (.did d)) (.ref pw))))
   generalize upd H (ad (.rcd d)) (.ins A.zaB dr (recF .waiting (ad (.did d)) (.ref pw)))=H2 at *
   obtain ⟨dx2,hp2⟩:=h2.hall
   have D:=h2.desk hk
   obtain ⟨dd,hdk⟩:=D.ob
   refine ⟨_,rfl,_,_,dx2,_,_,rfl,hp2,T.zaj,T.zaU,rfl,_,rfl,pw,_,dw,_,_,rfl,hw2,T.za2,T.za6,rfl,_,_,rfl,h2.zdN hk,_,dd,_,rfl,hdk,rfl,_,rfl,_,rfl,pw,_,dw,_,_,rfl,hw2,T.za2,T.zbr,rfl,_,_,_,_,_,d,a.wr,rfl,D,sm.rl _,λ H3 us a1 a2 a3=>?_⟩
   obtain ⟨h3,f3⟩:=h2.zqS T.ok hk a1 a3 a2
   have h3:zai A ρ ad (wait s d a) (zav s) H3:=h3
   obtain ⟨dx3,hp3⟩:=h3.hall
   refine ⟨_,rfl,_,dx3,_,rfl,hp3,rfl,_,rfl,ρ,ad,_,zav s,d,rfl,h3,c1,hh1,th1,L1.sm c1,hd,λ H4 m4=>?_⟩
   refine ⟨λ m σ H'=>∃ t ρ' ad' f,σ=[some (.ref (ad .hall)),some (.int d),some (.ref pw),some (.ref (ad (.rcd d))),some (gotV (rings t).getLast?)]/\m=actN t/\ad' Role.hall=ad .hall/\zai A ρ' ad' t (zav s) H'/\Frame ρ H ρ' H'/\Core t none/\Head t/\Thru t d/\Lim t T0/\t.n=s.n/\zav t=zav s/\actN t<=f/\settle ordS s.n (wait s d a)=settle ordS f t,⟨_,wait s d a,ρ,ad,s.n,rfl,rfl,rfl,h3.grow m4,(f2.trans f3).trans (Frame.grow m4),c1,hh1,th1,L1,rfl,ziV,zpW _,rfl⟩,?_⟩
   rintro m σ H5 ⟨t,ρ5,ad5,f,rfl,rfl,ea,h5,f5,c5,hd5,th5,L5,en,ek,hf,es⟩
   refine ⟨_,rfl,_,rfl,?_⟩
   cases hg:(rings t).getLast? with
   | none =>
    refine zaS rfl (q H5 ρ5 ad5 ea ?_ f5)
    rw [es,zlF ordS hg]; exact h5
   | some g =>
    refine zbl rfl ?_
    have hga:(t.deed g).act:=.inr (zaQ (zbP (List.mem_of_getLast? hg)).2)
    have lt:=zlo ordS c5 hga
    refine ⟨λ σ' H'=>∃ t' ρ' ad' f,σ'=[some (.ref (ad .hall)),some (.int d),some (.ref pw),some (.ref (ad (.rcd d))),some (gotV (rings t').getLast?)]/\actN t' < actN t/\ad' Role.hall=ad .hall/\zai A ρ' ad' t' (zav s) H'/\Frame ρ H ρ' H'/\Core t' none/\Head t'/\Thru t' d/\Lim t' T0/\t'.n=s.n/\zav t'=zav s/\actN t'<=f/\settle ordS s.n (wait s d a)=settle ordS f t',λ σ' H' ⟨t',ρ',ad',f,e,lt,r⟩=>⟨_,lt,t',ρ',ad',f,e,rfl,r⟩,?_⟩
    obtain ⟨dx5,hp5⟩:=h5.hall
    rw [<-ea]
    refine ⟨_,rfl,_,dx5,_,rfl,hp5,rfl,_,rfl,ρ5,ad5,t,g,T0,rfl,by rw [ek]; exact h5,c5,L5,hd5,hga,λ H6 ρ6 ad6 ea6 h6 f6=>?_⟩
    obtain ⟨dx6,hp6⟩:=h6.hall
    have c6:=c5.drop ordS hga
    have hd6:=Head.drop ordS (λ l k=>zbh) c5 hga
    have th6:=th5.mono (znw ordS c5 hga)
    have L6:=L5.drop c5 hga
    have n6:(drop ordS t g).n=s.n:=by rw [zkU ordS c5 hga]; exact en
    rw [<-ea6]
    refine ⟨_,rfl,_,dx6,_,rfl,hp6,rfl,_,rfl,ρ6,ad6,_,zav t,d,rfl,h6,c6,hd6,th6,L6.sm c6,by rw [n6]; exact hd,λ H7 m7=>?_⟩
    obtain ⟨f',rfl⟩:∃ f',f=f'+1:=⟨f - 1,by omega⟩
    refine ⟨drop ordS t g,ρ6,ad6,f',by rw [ea6,ea]; rfl,lt,by rw [ea6,ea],by rw [<-ek]; exact h6.grow m7,(f5.trans f6).trans (Frame.grow m7),c6,hd6,th6,L6,n6,by rw [zgg ordS c5 hga]; exact ek,by omega,?_⟩
    rw [es,zlE ordS hg]
theorem zio (T:Txt K mg A F):FnOk P w K mg base (CX1 P w) 1 (F.f 33) (F.fd 33) ["self","deed","want"] (zp9 A):=by
 refine T.zka.okN zeQ (λ vs H Q E h=>?_) (λ cdv A' outer s H vs Q E hr h=>?_)
 . obtain ⟨ρ,ad,s,kv,d,a,wv,rfl,_⟩:=h
   rfl
 . obtain ⟨ρ,ad,s,kv,d,a,wv,rfl,hh,⟨pw,dw,rfl,hw⟩,hd,did,q⟩:=h
   obtain ⟨dx,hp⟩:=hh.hall
   obtain ⟨dr,w0,hrc,_⟩:=hh.rcd hd
   obtain ⟨us,hus,tus⟩:=hh.did hd
   refine ⟨_,(zac (zaL (i:=3) zeQ.nd rfl (by walk_at "loc") (zbe zbu (zal (pv 0) rfl) (pv 1) (λ _ _=>rfl)))
    (zac (zbq (zaz zcg (zal (pv 3) rfl) (zcE rfl T.zgm) (zaI _)) (zag (zaw (zbD (zaa zaJ zad)))) zaH)
    (zac (zbq (zaz zcg (zal (pv 3) rfl) (zcE rfl T.zk8) (zaI _)) (zag (zaw (zbD (zaa zaJ zad)))) zaH)
    (zac (zbq (zaz zcg (zal (pv 2) rfl) (zcE rfl T.zdw) (zaI _)) (zag (zaw (zbD (zaa zaJ zad)))) zaH)
    (zag (zaw (zbD (zaa zaJ (zaa (zbe zb0 (zbe zbu (zal (pv 3) rfl) (zrH zoq zam) (λ _ _=>rfl)) zam (λ _ _=>rfl)) zad))))))))),?_⟩
   refine ⟨_,rfl,_,_,dx,_,_,rfl,hp,T.zaj,T.zaA,rfl,_,rfl,_,_,_,_,rfl,rfl,SqL.of hh.recs,zbm (hh.zfA hd),?_⟩
   refine ⟨_,rfl,_,_,dr,_,_,rfl,hrc,T.zat,T.zay,rfl,rfl,_,rfl,?_⟩
   have nst:∀ (a b:DS),stS a≠stS b->decide (V.str (stS a)=V.str (stS b))=false:=λ a b h=>decide_eq_false λ z=>h (V.str.inj z)
   cases hst:(s.deed d).st with
   | dropped =>
    refine zbl (decide_eq_true rfl) ⟨sz1,λ n nn=>q _ n nn (Same.zaq nn) ?_⟩
    rw [zab]; unfold ansV; rw [hst]
   | waiting =>
    refine zaS (nst .waiting .dropped (by decide +kernel)) ⟨_,rfl,_,_,dr,_,_,rfl,hrc,T.zat,T.zay,rfl,rfl,_,rfl,?_⟩
    rw [hst]
    refine zbl (decide_eq_true rfl) ⟨sz1,λ n nn=>q _ n nn (Same.zaq nn) ?_⟩
    rw [zab]; unfold ansV; rw [hst]
   | zar =>
    refine zaS (nst .zar .dropped (by decide +kernel)) ⟨_,rfl,_,_,dr,_,_,rfl,hrc,T.zat,T.zay,rfl,rfl,_,rfl,?_⟩
    rw [hst]
    refine zaS (nst .zar .waiting (by decide +kernel)) ⟨_,rfl,pw,_,dw,_,_,rfl,hw,T.za2,T.zbr,rfl,rfl,_,rfl,?_⟩
    refine zdU a.wr (zfV a.wr) ?_
    have ea:ansV (s.deed d) a.wr=if a.wr then [V.str "done"] else [V.str "value",.int (zl3 (s.deed d))]:=by unfold ansV; rw [hst]
    rw [ea] at q
    cases hwr:a.wr with
    | true =>
     rw [hwr] at q
     exact iteT ⟨sz1,λ n nn=>q _ n nn (Same.zaq nn) zab⟩
    | false =>
     rw [hwr] at q
     obtain ⟨init,b,eb⟩:∃ init b,(s.deed d).done=init++[b]:=by
      have hne:=did (.inl hst)
      exact ⟨_,_,(List.dropLast_concat_getLast hne).symm⟩
     have hul:us.length=init.length+1:=by rw [tus.length,List.length_map,eb]; simp
     obtain ⟨v,hv,pb,rfl,hpb⟩:=zea tus (i:=init.length) (y:=actV b) (by rw [eb]; simp)
     have hat:atI us (-1)=some (V.ref pb):=by
      obtain ⟨ys,y,rfl⟩:∃ ys y,us=ys++[y]:=⟨us.dropLast,us.getLast (by intro z; rw [z] at hul; simp at hul),(List.dropLast_concat_getLast _).symm⟩
      have hl:ys.length=init.length:=by simpa using hul
      rw [zj1]
      rw [<-hl] at hv
      simpa using hv
     have el:zl3 (s.deed d)=b.val:=by unfold zl3; rw [eb]; simp
     refine iteF ⟨_,rfl,_,_,dr,_,_,rfl,hrc,T.zat,T.zbf,rfl,_,rfl,_,_,_,_,rfl,rfl,SqL.of hus,hat,pb,_,_,_,rfl,rfl,SqT.of hpb,rfl,sz2,λ n nn=>q _ n nn (Same.zaq nn) ?_⟩
     rw [zab,el]; rfl
   | kept =>
    refine zaS (nst .kept .dropped (by decide +kernel)) ⟨_,rfl,_,_,dr,_,_,rfl,hrc,T.zat,T.zay,rfl,rfl,_,rfl,?_⟩
    rw [hst]
    refine zaS (nst .kept .waiting (by decide +kernel)) ⟨_,rfl,pw,_,dw,_,_,rfl,hw,T.za2,T.zbr,rfl,rfl,_,rfl,?_⟩
    refine zdU a.wr (zfV a.wr) ?_
    have ea:ansV (s.deed d) a.wr=if a.wr then [V.str "done"] else [V.str "value",.int (zl3 (s.deed d))]:=by unfold ansV; rw [hst]
    rw [ea] at q
    cases hwr:a.wr with
    | true =>
     rw [hwr] at q
     exact iteT ⟨sz1,λ n nn=>q _ n nn (Same.zaq nn) zab⟩
    | false =>
     rw [hwr] at q
     obtain ⟨init,b,eb⟩:∃ init b,(s.deed d).done=init++[b]:=by
      have hne:=did (.inr hst)
      exact ⟨_,_,(List.dropLast_concat_getLast hne).symm⟩
     have hul:us.length=init.length+1:=by rw [tus.length,List.length_map,eb]; simp
     obtain ⟨v,hv,pb,rfl,hpb⟩:=zea tus (i:=init.length) (y:=actV b) (by rw [eb]; simp)
     have hat:atI us (-1)=some (V.ref pb):=by
      obtain ⟨ys,y,rfl⟩:∃ ys y,us=ys++[y]:=⟨us.dropLast,us.getLast (by intro z; rw [z] at hul; simp at hul),(List.dropLast_concat_getLast _).symm⟩
      have hl:ys.length=init.length:=by simpa using hul
      rw [zj1]
      rw [<-hl] at hv
      simpa using hv
     have el:zl3 (s.deed d)=b.val:=by unfold zl3; rw [eb]; simp
     refine iteF ⟨_,rfl,_,_,dr,_,_,rfl,hrc,T.zat,T.zbf,rfl,_,rfl,_,_,_,_,rfl,rfl,SqL.of hus,hat,pb,_,_,_,rfl,rfl,SqT.of hpb,rfl,sz2,λ n nn=>q _ n nn (Same.zaq nn) ?_⟩
     rw [zab,el]; rfl
theorem zhz (T:Txt K mg A F):FnOk P w K mg base (CX1 P w) 8 (F.f 34) (F.fd 34) ["self","deed","want"] (zsD A):=by
 have G_Desk_init:=@zkP P w K mg base A F T
 have G_Desk_lets_at_once:=@zeP P w K mg base A F T
 have G_Hall_carry_out:=@zdr P w K mg base A F T
 have G_Hall_wait:=@zkJ P w K mg base A F T
 have G_Hall_answer:=@zio P w K mg base A F T
 refine T.zoj.okN zhi (λ vs H Q E h=>?_) (λ cdv A' outer s H vs Q E hr h=>?_)
 . obtain ⟨ρ,ad,s,d,a,pw,dw,T0,rfl,_⟩:=h
   rfl
 . obtain ⟨ρ,ad,s,d,a,pw,dw,T0,rfl,hh,R,ht,h4,hst,hw,row,q⟩:=h
   have hu:=zdL hr
   obtain ⟨dx,hp⟩:=hh.hall
   refine ⟨_,(zac (zaL (i:=3) zhi.nd rfl (by walk_at "loc") (zqj (zal (pv 0) rfl) (zal (pv 2) rfl) (zjs T.zrU G_Desk_init (hmr hr) rfl T.zs8 T.zmt .nil zaF) ⟨rfl,rfl,rfl,rfl⟩))
     (zac (zbq (ziK (zax (pv 3) T.zaN T.zfm G_Desk_lets_at_once (hmr hr) T.zfs .nil zaF (zaa (pv 1) (zaa (zal (pv 2) rfl) zad)))) (zag (zaM (zax (pv 0) T.zaj T.zdS G_Hall_carry_out (hmr hr) T.zd0 .nil zaF (zaa (pv 1) (zaa (pv 2) zad))))) (zag (zaM (zax (pv 0) T.zaj T.zlX G_Hall_wait (hmr hr) T.zmn .nil zaF (zaa (pv 1) (zaa (pv 2) zad))))))
     (zag (zaw (zax (pv 0) T.zaj T.zjF G_Hall_answer (hmr hr) T.zj0 .nil zaF (zaa (pv 1) (zaa (pv 2) zad))))))),?_⟩
   refine ⟨_,rfl,_,_,dx,_,_,rfl,hp,T.zaj,T.zaU,rfl,ad .zbG,rfl,.inl ⟨_,.of hh.zbG⟩,_,rfl,pw,_,dw,_,_,rfl,hw,T.za2,T.za6,rfl,λ x dx2 nx ndx nex=>⟨x,dx2,rfl,zab,λ H1 hd rw nhd nrw e1 e2 e3 kp=>⟨rfl,?_⟩⟩⟩
   have s0:Same H (upd (upd H dx2 (.own x)) x (.ins A.zb9 dx2 [])):=(Same.zaq ndx).upd2 (by rw [zae nex.symm]; exact nx)
   have s1:Same H H1:=λ b o e=>kp b o (s0 b o e) (zaf e nx)
   have hde:=s1 _ _ hh.zbG
   have ln:(zdW ad s.seen).length < sizeLine:=by have:=R.L.sn; unfold zdW; rw [List.length_map,sizeLine_eq]; omega
   refine ⟨_,Sum.inr a.key,hde,rfl,ln,λ v hv=>?_,λ hn=>?_⟩
   . rw [zcY] at hv
     have hk:a.key∈s.seen:=by
      by_cases z:a.key∈s.seen
      . exact z
      . rw [if_neg z] at hv; cases hv
     rw [if_pos hk] at hv
     cases hv
     have es:see s a.key=s:=by unfold see; rw [if_pos hk]
     obtain ⟨H3,ρ3,ad3,eH,eρ,ea⟩:∃ H3 ρ3 ad3,H3=H1/\ρ3=ρ/\ad3=ad:=⟨_,_,_,rfl,rfl,rfl⟩
     have h3:zai A ρ3 ad3 (see s a.key) (zav s) H3:=by rw [es,eH,eρ,ea]; exact hh.grow s1
     have f03:Frame ρ H ρ3 H3:=by rw [eH,eρ]; exact Frame.grow s1
     have ea3:ad3 Role.hall=ad .hall:=by rw [ea]
     have edk:ad (.desk a.key)=ad3 (.desk a.key):=by rw [ea]
     rw [edk,<-eH]
     have hd:d < s.n:=R.c.lt (.inl hst)
     have sms:Sm (see s a.key):=Sm.see R h4 ht
     have hks:a.key∈(see s a.key).seen:=zcl
     have hw3:H3 pw=_:=(f03 _ _ hw row).1
     have ro3:ρ3 pw=.other:=(f03 _ _ hw row).2
     have D:=h3.desk hks
     obtain ⟨dd,hdk⟩:=D.ob
     refine ⟨_,rfl,_,dd,_,rfl,hdk,rfl,_,rfl,_,rfl,pw,_,dw,_,_,rfl,hw3,T.za2,T.zbr,rfl,_,_,_,_,_,d,a.wr,rfl,D,sms.hl _,sms.hn _,λ H4 m4=>⟨_,rfl,?_⟩⟩
     have h4':=h3.grow m4
     have f04:=f03.trans (Frame.grow m4)
     have hw4:=m4 _ _ hw3
     obtain ⟨dx4,hp4⟩:=h4'.hall
     have wf:=zcL (a:=a) R hst
     have wp:=zg7 ordS (d:=d) (a:=a) R.c
     rw [<-ea3]
     cases hb:((has ((see s a.key).held a.key) d || ((see s a.key).rows a.key).isEmpty) && lets ((see s a.key).held a.key) d a.wr) with
     | true =>
      rw [hb,if_pos rfl] at wp
      rw [wp] at q wf
      refine iteT ⟨_,rfl,_,dx4,_,rfl,hp4,rfl,_,rfl,_,rfl,ρ3,ad3,_,zav s,d,.ref pw,a,rfl,h4',sms,hd,hks,⟨pw,dw,rfl,hw4⟩,λ H5 h5 f5=>?_⟩
      obtain ⟨dx5,hp5⟩:=h5.hall
      obtain ⟨hw5,ro5⟩:=f5 _ _ hw4 ro3
      refine ⟨_,rfl,_,dx5,_,rfl,hp5,rfl,_,rfl,_,rfl,ρ3,ad3,_,zav s,d,a,.ref pw,rfl,h5,⟨pw,dw,rfl,hw5⟩,by rw [wf.1]; exact hd,wf.2.2.2,λ H6 q6 n6 m6 e6=>q H6 ρ3 ad3 q6 ea3 (h5.grow m6) ((f04.trans f5).trans (Frame.grow m6)) e6 (h5.fr _ n6)⟩
     | false =>
      rw [hb,if_neg Bool.false_ne_true] at wp
      rw [wp] at q wf
      obtain ⟨c1,hh1,th1⟩:=zj2 ordS (λ l k=>zbh) R.c R.h R.a hst hb
      refine iteF ⟨_,rfl,_,dx4,_,rfl,hp4,rfl,_,rfl,_,rfl,ρ3,ad3,see s a.key,d,a,.ref pw,T0+1,rfl,h4',hks,⟨pw,dw,rfl,hw4⟩,hd,sms,c1,hh1,th1,Lim.wait R hst h4 ht,λ H5 ρ5 ad5 ea5 h5 f5=>?_⟩
      obtain ⟨dx5,hp5⟩:=h5.hall
      obtain ⟨hw5,ro5⟩:=f5 _ _ hw4 ro3
      rw [<-ea5]
      refine ⟨_,rfl,_,dx5,_,rfl,hp5,rfl,_,rfl,_,rfl,ρ5,ad5,_,zav s,d,a,.ref pw,rfl,h5,⟨pw,dw,rfl,hw5⟩,?_,?_,λ H6 q6 n6 m6 e6=>q H6 ρ5 ad5 q6 (by rw [ea5,ea3]) (h5.grow m6) ((f04.trans f5).trans (Frame.grow m6)) e6 (h5.fr _ n6)⟩
      . have:=wf.1; show d < (settle ordS s.n (wait (see s a.key) d a)).n; rw [this]; exact hd
      . exact wf.2.2.2
   . rw [zcY] at hn
     have hk:a.key∉s.seen:=λ z=>by rw [if_pos z] at hn; cases hn
     have es:see s a.key={ s with seen:=s.seen++[a.key] }:=by unfold see; rw [if_neg hk]
     have epk:putK (zdW ad s.seen) (Sum.inr a.key) (V.ref x)=zdW ad s.seen++[(Sum.inr a.key,V.ref x)]:=zmW _ (by rw [zcY,if_neg hk])
     rw [epk]
     obtain ⟨g1,g2⟩:=R.c.zdB a.key hk
     have hxd:x≠ad .zbG:=(zaf hh.zbG nx).symm
     have hhd:hd≠ad .zbG:=(zaf (s0 _ _ hh.zbG) nhd).symm
     have hrd:rw≠ad .zbG:=(zaf (s0 _ _ hh.zbG) nrw).symm
     obtain ⟨ρ3,ad3,ea3,h3,f03,edk⟩:=hh.zsc (H':=upd H1 (ad .zbG) (.dK (zdW ad s.seen++[(Sum.inr a.key,V.ref x)]))) T.ok (k:=a.key) hk g1 g2 (p:=x) (hd:=hd) (rw:=rw) (dx:=dx2) nx (s0.free nhd) (s0.free nrw) zab (by rw [zae hxd]; exact e1) (by rw [zae hhd]; exact e2) (by rw [zae hrd]; exact e3) (λ b o e hb=>by rw [zae hb]; exact s1 b o e)
     rw [<-es] at h3
     generalize upd H1 (ad .zbG) (.dK (zdW ad s.seen++[(Sum.inr a.key,V.ref x)]))=H3 at *
     rw [<-edk]
     have hd:d < s.n:=R.c.lt (.inl hst)
     have sms:Sm (see s a.key):=Sm.see R h4 ht
     have hks:a.key∈(see s a.key).seen:=zcl
     have hw3:H3 pw=_:=(f03 _ _ hw row).1
     have ro3:ρ3 pw=.other:=(f03 _ _ hw row).2
     have D:=h3.desk hks
     obtain ⟨dd,hdk⟩:=D.ob
     refine ⟨_,rfl,_,dd,_,rfl,hdk,rfl,_,rfl,_,rfl,pw,_,dw,_,_,rfl,hw3,T.za2,T.zbr,rfl,_,_,_,_,_,d,a.wr,rfl,D,sms.hl _,sms.hn _,λ H4 m4=>⟨_,rfl,?_⟩⟩
     have h4':=h3.grow m4
     have f04:=f03.trans (Frame.grow m4)
     have hw4:=m4 _ _ hw3
     obtain ⟨dx4,hp4⟩:=h4'.hall
     have wf:=zcL (a:=a) R hst
     have wp:=zg7 ordS (d:=d) (a:=a) R.c
     rw [<-ea3]
     cases hb:((has ((see s a.key).held a.key) d || ((see s a.key).rows a.key).isEmpty) && lets ((see s a.key).held a.key) d a.wr) with
     | true =>
      rw [hb,if_pos rfl] at wp
      rw [wp] at q wf
      refine iteT ⟨_,rfl,_,dx4,_,rfl,hp4,rfl,_,rfl,_,rfl,ρ3,ad3,_,zav s,d,.ref pw,a,rfl,h4',sms,hd,hks,⟨pw,dw,rfl,hw4⟩,λ H5 h5 f5=>?_⟩
      obtain ⟨dx5,hp5⟩:=h5.hall
      obtain ⟨hw5,ro5⟩:=f5 _ _ hw4 ro3
      refine ⟨_,rfl,_,dx5,_,rfl,hp5,rfl,_,rfl,_,rfl,ρ3,ad3,_,zav s,d,a,.ref pw,rfl,h5,⟨pw,dw,rfl,hw5⟩,by rw [wf.1]; exact hd,wf.2.2.2,λ H6 q6 n6 m6 e6=>q H6 ρ3 ad3 q6 ea3 (h5.grow m6) ((f04.trans f5).trans (Frame.grow m6)) e6 (h5.fr _ n6)⟩
     | false =>
      rw [hb,if_neg Bool.false_ne_true] at wp
      rw [wp] at q wf
      obtain ⟨c1,hh1,th1⟩:=zj2 ordS (λ l k=>zbh) R.c R.h R.a hst hb
      refine iteF ⟨_,rfl,_,dx4,_,rfl,hp4,rfl,_,rfl,_,rfl,ρ3,ad3,see s a.key,d,a,.ref pw,T0+1,rfl,h4',hks,⟨pw,dw,rfl,hw4⟩,hd,sms,c1,hh1,th1,Lim.wait R hst h4 ht,λ H5 ρ5 ad5 ea5 h5 f5=>?_⟩
      obtain ⟨dx5,hp5⟩:=h5.hall
      obtain ⟨hw5,ro5⟩:=f5 _ _ hw4 ro3
      rw [<-ea5]
      refine ⟨_,rfl,_,dx5,_,rfl,hp5,rfl,_,rfl,_,rfl,ρ5,ad5,_,zav s,d,a,.ref pw,rfl,h5,⟨pw,dw,rfl,hw5⟩,?_,?_,λ H6 q6 n6 m6 e6=>q H6 ρ5 ad5 q6 (by rw [ea5,ea3]) (h5.grow m6) ((f04.trans f5).trans (Frame.grow m6)) e6 (h5.fr _ n6)⟩
      . have:=wf.1; show d < (settle ordS s.n (wait (see s a.key) d a)).n; rw [this]; exact hd
      . exact wf.2.2.2
theorem zkL (T:Txt K mg A F):FnOk P w K mg base (CX1 P w) 9 (F.f 36) (F.fd 36) ["self","deed","key"] (zsw A):=by
 have G_Hall_refuse_unless_going:=@za5 P w K mg base A F T
 have G_Want_init:=@zgC P w K mg base A F T
 have G_Hall_ask:=@zhz P w K mg base A F T
 refine T.zmF.okX zks (λ vs H Q E h=>?_) (λ cdv A' outer s H vs Q E hr h=>?_)
 . obtain ⟨ρ,ad,s,i,k,T0,rfl,_⟩:=h
   rfl
 . obtain ⟨ρ,ad,s,i,k,T0,rfl,hh,R,ht,h4,q⟩:=h
   obtain ⟨dx,hp⟩:=hh.hall
   have hn:s.n<=1000:=by have:=R.L.n; omega
   refine ⟨_,(zac (zaM (zax (pv 0) T.zaj T.zbb G_Hall_refuse_unless_going (hmr hr) T.zbc .nil zbE (zaa (pv 1) zad)))
     (zag (zaw (zax (pv 0) T.zaj T.ziT G_Hall_ask (hmr hr) T.zja .nil zaF (zaa (pv 1) (zaa (zoU T.zpb G_Want_init (hmr hr) rfl T.zq8 T.zh5 .nil zaF (zaa (zcE rfl T.zpx) (zaa (pv 2) (zaa zgA zad)))) zad)))))),?_⟩
   refine ⟨_,rfl,_,dx,_,rfl,hp,rfl,_,rfl,ρ,ad,s,zav s,i,rfl,hh,hn,?_⟩
   rcases q with ⟨d,rfl,hd,⟨hg,q⟩ | ⟨hg,q⟩⟩ | q
   rotate_left
   . exact .inl ⟨d,rfl,hd,.inr ⟨hg,q⟩⟩
   . exact .inr q
   refine .inl ⟨d,rfl,hd,.inl ⟨hg,?_⟩⟩
   refine ⟨_,rfl,_,dx,_,rfl,hp,rfl,_,rfl,_,rfl,λ x dx2 nx ndx nex=>⟨x,dx2,false,k,.non,rfl,zab,λ H1 e1 kp=>⟨rfl,?_⟩⟩⟩
   have s0:Same H (upd (upd H dx2 (.own x)) x (.ins A.zd7 dx2 [])):=(Same.zaq ndx).upd2 (by rw [zae nex.symm]; exact nx)
   have s1:Same H H1:=λ b o e=>kp b o (s0 b o e) (zaf e nx)
   exact ⟨ρ,ad,s,d,⟨false,k,0⟩,x,dx2,T0,rfl,hh.grow s1,R,ht,h4,hg,e1,hh.fr _ nx,λ H' ρ' ad' q' a1 a2 a3 a4 a5=>q H' ρ' ad' q' a1 a2 ((Frame.grow s1).trans a3) a4 a5⟩
theorem zjv (T:Txt K mg A F):FnOk P w K mg base (CX1 P w) 9 (F.f 37) (F.fd 37) ["self","deed","key","value"] (zrr A):=by
 have G_Hall_refuse_unless_going:=@za5 P w K mg base A F T
 have G_Want_init:=@zgC P w K mg base A F T
 have G_Hall_ask:=@zhz P w K mg base A F T
 refine T.zlq.okX zjk (λ vs H Q E h=>?_) (λ cdv A' outer s H vs Q E hr h=>?_)
 . obtain ⟨ρ,ad,s,i,k,v,T0,rfl,_⟩:=h
   rfl
 . obtain ⟨ρ,ad,s,i,k,v,T0,rfl,hh,R,ht,h4,q⟩:=h
   obtain ⟨dx,hp⟩:=hh.hall
   have hn:s.n<=1000:=by have:=R.L.n; omega
   refine ⟨_,(zac (zaM (zax (pv 0) T.zaj T.zbb G_Hall_refuse_unless_going (hmr hr) T.zbc .nil zbE (zaa (pv 1) zad)))
     (zag (zaw (zax (pv 0) T.zaj T.ziT G_Hall_ask (hmr hr) T.zja .nil zaF (zaa (pv 1) (zaa (zoU T.zpb G_Want_init (hmr hr) rfl T.zq8 T.zh5 .nil zaF (zaa (zcE rfl T.zdw) (zaa (pv 2) (zaa (pv 3) zad)))) zad)))))),?_⟩
   refine ⟨_,rfl,_,dx,_,rfl,hp,rfl,_,rfl,ρ,ad,s,zav s,i,rfl,hh,hn,?_⟩
   rcases q with ⟨d,rfl,hd,⟨hg,q⟩ | ⟨hg,q⟩⟩ | q
   rotate_left
   . exact .inl ⟨d,rfl,hd,.inr ⟨hg,q⟩⟩
   . exact .inr q
   refine .inl ⟨d,rfl,hd,.inl ⟨hg,?_⟩⟩
   refine ⟨_,rfl,_,dx,_,rfl,hp,rfl,_,rfl,_,rfl,_,rfl,λ x dx2 nx ndx nex=>⟨x,dx2,true,k,.int v,rfl,zab,λ H1 e1 kp=>⟨rfl,?_⟩⟩⟩
   have s0:Same H (upd (upd H dx2 (.own x)) x (.ins A.zd7 dx2 [])):=(Same.zaq ndx).upd2 (by rw [zae nex.symm]; exact nx)
   have s1:Same H H1:=λ b o e=>kp b o (s0 b o e) (zaf e nx)
   exact ⟨ρ,ad,s,d,⟨true,k,v⟩,x,dx2,T0,rfl,hh.grow s1,R,ht,h4,hg,e1,hh.fr _ nx,λ H' ρ' ad' q' a1 a2 a3 a4 a5=>q H' ρ' ad' q' a1 a2 ((Frame.grow s1).trans a3) a4 a5⟩
theorem zhv (T:Txt K mg A F):FnOk P w K mg base (CX1 P w) 7 (F.f 40) (F.fd 40) ["self","deed"] (zp6 A):=by
 have G_Hall_record_of:=@zbJ P w K mg base A F T
 have G_Record_is_at_end:=@zfj P w K mg base A F T
 have G_Hall_drop:=@zgD P w K mg base A F T
 refine T.ziA.okX zhg (λ vs H Q E h=>?_) (λ cdv A' outer s H vs Q E hr h=>?_)
 . obtain ⟨ρ,ad,s,i,T0,rfl,_⟩:=h
   rfl
 . obtain ⟨ρ,ad,s,i,T0,rfl,hh,R,q⟩:=h
   obtain ⟨dx,hp⟩:=hh.hall
   have hn:s.n<=1000:=by have:=R.L.n; omega
   refine ⟨_,(zac (zbq (ziK (zdI (zax (pv 0) T.zaj T.zbT G_Hall_record_of (hmr hr) T.zbU .nil zbE (zaa (pv 1) zad)) T.zat T.zfG G_Record_is_at_end (hmr hr) T.zfR .nil zaF)) (zag (zjn zhn rfl rfl T.zgl T.ziE PySem.F.excBase_ValueError (zaa zaJ zad))) zaH)
     (zag (zaM (zax (pv 0) T.zaj T.zhE G_Hall_drop (hmr hr) T.zh6 .nil zaF (zaa (pv 1) zad))))),?_⟩
   refine ⟨_,rfl,_,dx,_,rfl,hp,rfl,_,rfl,ρ,ad,s,zav s,i,rfl,hh,hn,?_⟩
   rcases q with ⟨d,rfl,hd,q⟩ | q
   rotate_left
   . exact .inr q
   obtain ⟨dr,w0,hrc,_⟩:=hh.rcd hd
   refine .inl ⟨d,rfl,hd,_,dr,_,rfl,hrc,rfl,_,dr,_,_,_,rfl,hrc,_,rfl,?_⟩
   rcases q with ⟨ha,q⟩ | ⟨ha,q⟩
   . refine zaS (decide_eq_false λ z=>?_) ⟨_,rfl,_,dx,_,rfl,hp,rfl,_,rfl,ρ,ad,s,d,T0,rfl,hh,R.c,R.L,R.h,ha,λ H' ρ' ad' a1 a2 a3=>q H' ρ' ad' a1 (by rw [zgg ordS R.c ha]; exact a2) a3⟩
     rcases ha with ha | ha <;> rw [ha] at z <;> rcases z with z | z <;> cases z
   . refine zbl (decide_eq_true ?_) ⟨Nat.le_of_ble_eq_true rfl,q⟩
     cases e:(s.deed d).st with
     | zar=>exact absurd (.inl e) ha
     | waiting=>exact absurd (.inr e) ha
     | kept=>exact .inl rfl
     | dropped=>exact .inr rfl
theorem zhx (T:Txt K mg A F):FnOk P w K mg base (CX1 P w) 3 (F.f 49) (F.fd 49) ["self","deed"] (zp7 A):=by
 have G_Hall_record_of:=@zbJ P w K mg base A F T
 refine T.ziB.okX zhh (λ vs H Q E h=>?_) (λ cdv A' outer s H vs Q E hr h=>?_)
 . obtain ⟨ρ,ad,s,kv,i,rfl,_⟩:=h
   rfl
 . obtain ⟨ρ,ad,s,kv,i,rfl,hh,hn,hl,q⟩:=h
   obtain ⟨dx,hp⟩:=hh.hall
   refine ⟨_,(zag (zaw (zbv zcK (by rfl) T.zhC boot_tuple (zaa (zal (zax (pv 0) T.zaj T.zbT G_Hall_record_of (hmr hr) T.zbU .nil zbE (zaa (pv 1) zad)) rfl) zad)))),?_⟩
   refine ⟨_,rfl,_,dx,_,rfl,hp,rfl,_,rfl,ρ,ad,s,kv,i,rfl,hh,hn,?_⟩
   rcases q with ⟨d,rfl,hd,q⟩ | q
   rotate_left
   . exact .inr q
   obtain ⟨dr,w0,hrc,_⟩:=hh.rcd hd
   obtain ⟨us,hus,tus⟩:=hh.did hd
   exact .inl ⟨d,rfl,hd,_,_,dr,_,_,rfl,hrc,T.zat,T.zbf,rfl,ad (.did d),_,rfl,.inl ⟨SqL.of hus,λ n nn=>q _ n us (Same.zaq nn) zab (zbk (Same.zaq nn) tus)⟩⟩
theorem zkM (T:Txt K mg A F):FnOk P w K mg base (CX1 P w) 6 (F.f 38) (F.fd 38) ["self","deed"] (zsz A):=by
 have G_Hall_refuse_unless_going:=@za5 P w K mg base A F T
 have G_Record_written:=@zdq P w K mg base A F T
 have G_Hall_end:=@zhw P w K mg base A F T
 refine T.zmG.okX zee (λ vs H Q E h=>?_) (λ cdv A' outer s H vs Q E hr h=>?_)
 . obtain ⟨ρ,ad,s,i,T0,rfl,_⟩:=h
   rfl
 . obtain ⟨ρ,ad,s,i,T0,rfl,hh,R,q⟩:=h
   have hu:=zdL hr
   obtain ⟨dx,hp⟩:=hh.hall
   have hn:s.n<=1000:=by have:=R.L.n; omega
   have sm:=R.L.sm R.c
   obtain ⟨us,hus,tus⟩:=hh.rows
   have hul:us.length=s.log.length:=by rw [tus.length,List.length_map]
   refine ⟨_,(zac (zaM (zax (pv 0) T.zaj T.zbb G_Hall_refuse_unless_going (hmr hr) T.zbc .nil zbE (zaa (pv 1) zad)))
     (zac (zaM (zeo PySem.F.plainAttrs_list PySem.F.slot_list_append PySem.F.type_list_append zbx (zal (pv 0) rfl) (zaa (zbD (zaa (zcE rfl T.zs6) (zaa (pv 1) zad))) zad)))
     (zac (zaM (zeo PySem.F.plainAttrs_list PySem.F.slot_list_append PySem.F.type_list_append zbx (zal (pv 0) rfl) (zaa (pv 1) zad)))
     (zac (PS.nox (zeS PassesOwn.never rfl (zcS (zdI (zbe zbu (zal (pv 0) rfl) (pv 1) (λ _ _=>rfl)) T.zat T.zdR G_Record_written (hmr hr) T.zdZ .nil zaF)) (ziN (n:=2) rfl (za1 (zaE (i:=2) zee.nd rfl (by walk_at "loc")) (za1 (zaE (i:=3) zee.nd rfl (by walk_at "loc")) zen))) (zag (zho hu (zal (pv 0) rfl) (pv 2) (pv 3) rfl))))
     (zag (zaM (zax (pv 0) T.zaj T.ziS G_Hall_end (hmr hr) T.zi9 .nil zaF (zaa (pv 1) (zaa (zcE rfl T.zq9) zad))))))))),?_⟩
   refine ⟨_,rfl,_,dx,_,rfl,hp,rfl,_,rfl,ρ,ad,s,zav s,i,rfl,hh,hn,?_⟩
   rcases q with ⟨d,rfl,hd,⟨hg,q⟩ | ⟨hg,q⟩⟩ | q
   rotate_left
   . exact .inl ⟨d,rfl,hd,.inr ⟨hg,q⟩⟩
   . exact .inr q
   refine .inl ⟨d,rfl,hd,.inl ⟨hg,?_⟩⟩
   have hact:(s.deed d).act:=.inl hg
   refine ⟨_,rfl,_,_,dx,_,_,rfl,hp,T.zaj,T.zbZ,rfl,.inl ⟨rfl,_,SqL.of hus⟩,_,rfl,sz2,λ n nn=>⟨ad .rows,_,_,rfl,rfl,zao hus nn,by have:=sm.lg; rw [hul,sizeLine_eq]; omega,?_⟩⟩
   have h3:=hh.grow (H':=upd H n (.tup [V.str "keep",V.int (d:Int)])) (Same.zaq nn)
   obtain ⟨h4,f4⟩:=h3.znp (H':=upd (upd H n (.tup [V.str "keep",V.int (d:Int)])) (ad .rows) (.lst (us++[.ref n]))) T.ok (row:=.keep d) (zao hus nn) zab (λ b o e hb=>by rw [zae hb]; exact e) ⟨n,rfl,by rw [zae (zaf hus nn).symm,zab]; rfl⟩
   have f04:=(Frame.grow (ρ:=ρ) (Same.zaq (o:=.tup [V.str "keep",V.int (d:Int)]) nn)).trans f4
   show tSeq _ _ _ _ (upd (upd H n (.tup [V.str "keep",V.int (d:Int)])) (ad .rows) (.lst (us++[.ref n])))
   generalize upd (upd H n (.tup [V.str "keep",V.int (d:Int)])) (ad .rows) (.lst (us++[.ref n]))=H4 at *
   obtain ⟨dx4,hp4⟩:=h4.hall
   have ho4:H4 (ad .order)=some (.lst (zaD s.kept)):=h4.order
   have hlk:(zaD s.kept).length<=1000:=by unfold zaD; rw [List.length_map]; exact sm.kp
   refine ⟨_,rfl,_,_,dx4,_,_,rfl,hp4,T.zaj,T.zc6,rfl,.inl ⟨rfl,_,SqL.of ho4⟩,_,rfl,ad .order,_,_,rfl,rfl,ho4,by rw [sizeLine_eq]; omega,?_⟩
   obtain ⟨h5,f5⟩:=h4.zqO (H':=upd H4 (ad .order) (.lst (zaD s.kept++[V.int (d:Int)]))) T.ok (d:=d) zab (λ b o e hb=>by rw [zae hb]; exact e)
   have f05:=f04.trans f5
   show tSeq _ _ _ _ (upd H4 (ad .order) (.lst (zaD s.kept++[V.int (d:Int)])))
   generalize upd H4 (ad .order) (.lst (zaD s.kept++[V.int (d:Int)]))=H5 at *
   obtain ⟨dx5,hp5⟩:=h5.hall
   obtain ⟨wv,ra,_⟩:=h5.recAt hd
   obtain ⟨dr,hrc⟩:=ra.ob
   refine ⟨_,rfl,_,_,dx5,_,_,rfl,hp5,T.zaj,T.zaA,rfl,_,rfl,_,_,_,_,rfl,rfl,SqL.of h5.recs,zbm (h5.zfA hd),_,dr,_,rfl,hrc,rfl,_,_,_,_,_,rfl,ra,by show (s.deed d).done.length < 3000; have:=sm.dn d; omega,λ H1 ql vs m1 hq tu=>⟨ql,rfl,⟨_,SqL.of hq⟩,?_⟩⟩
   have tu:zau H1 vs ((zas (s.deed d).done).map ziF):=tu
   have hvl:vs.length=(zas (s.deed d).done).length:=by rw [tu.length,List.length_map]
   refine zeL (xs:=vs) (λ i σ H2=>∃ v2 v3,σ=[some (.ref (ad .hall)),some (.int d),v2,v3]/\zai A ρ ad { s with log:=s.log++[.keep d],kept:=s.kept++[d] } (wb (zav s) ((zas (s.deed d).done).take i)) H2/\Frame ρ H ρ H2/\H2 ql=some (.lst vs)/\zau H2 vs ((zas (s.deed d).done).map ziF)) ⟨_,_,rfl,h5.grow m1,f05.trans (Frame.grow m1),hq,tu⟩ (λ i σ H2 _ ⟨_,_,_,_,_,e,_⟩=>SqL.of e) ?_ ?_
   . rintro i x σ H2 hx ⟨v2,v3,rfl,h2,f2,hq2,t2⟩
     obtain ⟨y,hy1,r,rfl,hr1⟩:=zck t2 hx
     rw [List.getElem?_map] at hy1
     obtain ⟨⟨k,v⟩,ha,rfl⟩:=Option.map_eq_some_iff.mp hy1
     have e1:(zas (s.deed d).done).take (i+1)=(zas (s.deed d).done).take i++[(k,v)]:=by rw [List.take_add_one,ha]; rfl
     obtain ⟨dx2,hp2⟩:=h2.hall
     obtain ⟨lk,hlk,hbk⟩:=h2.zdk
     have hll:lk.length<=4:=Nat.le_trans (hbk.len sm.snd λ j hj=>by
      rcases zok hj with hj | hj
      . exact R.L.e.zqx j hj
      . refine zlt R.L.e (d:=d) ?_
        obtain ⟨p,hp,rfl⟩:=List.mem_map.mp hj
        exact List.mem_map.mpr ⟨p,List.mem_of_mem_take hp,rfl⟩) sm.seen
     refine ⟨r,_,rfl,SqT.of hr1,rfl,_,_,rfl,_,_,rfl,rfl,?_⟩
     refine ⟨_,rfl,_,rfl,_,_,dx2,_,_,rfl,hp2,T.zaj,T.zbs,rfl,_,rfl,_,_,rfl,DPut.k (k:=Sum.inr k) hlk (by rw [zmk,sizeLine_eq]; omega),?_⟩
     rw [zmj]
     have kp3:zct H2 (ad .zdk) (upd H2 (ad .zdk) (.dK (bkV (bput lk k v)))):=λ b o e hb=>by rw [zae hb]; exact e
     obtain ⟨h3,f3⟩:=h2.zqb T.ok zab kp3 (hbk.put k v)
     refine ⟨_,_,rfl,?_,f2.trans f3,kp3 _ _ hq2 (zbF hq2 hlk (λ z=>nomatch z)),zau.mono (Imm.zgf T.ok h2 (r:=.zdk) trivial kp3) t2⟩
     rw [e1,zrf]; exact h3
   . rintro σ H2 ⟨v2,v3,rfl,h2,f2,_⟩
     rw [hvl,List.take_length,zlu] at h2
     obtain ⟨dx2,hp2⟩:=h2.hall
     refine ⟨_,rfl,_,dx2,_,rfl,hp2,rfl,_,rfl,ρ,ad,_,s,_,d,.kept,T0,rfl,h2,R.c,R.L,R.h,rfl,rfl,rfl,rfl,rfl,R.c.keeps hact,R.L.keeps R.c hact,by decide,hd,λ H6 ρ6 ad6 ea6 h6 f6=>q H6 ρ6 ad6 ea6 ?_ (f2.trans f6)⟩
     rw [znU ordS R.c hact]; exact h6
theorem zfi (T:Txt K mg A F):FnOk P w K mg base (CX1 P w) 1 (F.f 1) (F.fd 1) ["_law_cell_here","_law_prime","_law_many"] ztx:=by
 refine T.zof.okN zlI (λ vs H Q E h=>?_) (λ cdv A' outer s H vs Q E hr h=>?_)
 . obtain ⟨c,p,m,rfl,_⟩:=h
   rfl
 . obtain ⟨c,p,m,rfl,hp,hm,q⟩:=h
   refine ⟨_,(zag (zaw (zcT zkE (zcT zkE (zcT zkD (pv 0) zam) (pv 1)) (pv 2)))),?_⟩
   exact ⟨_,rfl,_,_,rfl,rfl,.inr ⟨by decide,by decide⟩,_,rfl,_,_,rfl,rfl,hp,_,rfl,_,_,rfl,rfl,hm,q⟩
theorem zeq (T:Txt K mg A F):FnOk P w K mg base (CX1 P w) 1 (F.f 2) (F.fd 2) ["_law_script","_law_k"] (zsB K):=by
 refine T.zmz.okN zkp (λ vs H Q E h=>?_) (λ cdv A' outer s H vs Q E hr h=>?_)
 . obtain ⟨a,ns,k,rfl,_⟩:=h
   rfl
 . obtain ⟨a,ns,k,rfl,hS,q⟩:=h
   refine ⟨_,(zac (zbq (zaz zlP (pv 1) (za7 zbn (by rfl) T.zjB PySem.boot_len (zaa (pv 0) zad)) (zaI _)) (zag (zaw (zbe zbu (pv 0) (pv 1) (λ _ _=>rfl)))) zaH)
     (zag (zaw zam))),?_⟩
   refine ⟨_,rfl,_,rfl,a,_,rfl,.inl hS,_,_,rfl,rfl,_,rfl,?_⟩
   rw [List.length_map]
   by_cases h:k < ns.length
   . refine zbl (decide_eq_true (by omega)) ⟨_,rfl,_,rfl,a,_,_,_,rfl,rfl,hS,zbm (by rw [List.getElem?_map,List.getElem?_eq_getElem h]; rfl),?_⟩
     have:za0 ns k=ns[k]:=by unfold za0; rw [List.getD_eq_getElem?_getD,List.getElem?_eq_getElem h]; rfl
     rw [this] at q; exact q
   . refine zaS (decide_eq_false (by omega)) ?_
     have:za0 ns k=0:=by unfold za0; rw [List.getD_eq_getElem?_getD,List.getElem?_eq_none (by omega)]; rfl
     rw [this] at q; exact q
theorem zil (T:Txt K mg A F):FnOk P w K mg base (CX1 P w) 2 (F.f 3) (F.fd 3) ["_law_script","_law_k"] spNo :=
 T.zgt.okN zbp (λ vs H Q E h=>h.elim) (λ cdv A' outer s H vs Q E hr h=>h.elim)
theorem zkG (T:Txt K mg A F):FnOk P w K mg base (CX1 P w) 3 (F.f 3) (F.fd 3) ["_law_script","_law_k"] (zsy K):=by
 have G__law_mix:=@zfi P w K mg base A F T
 have G__law_cell:=@zeq P w K mg base A F T
 have G__law_key:=@zil P w K mg base A F T
 refine T.zgt.okN zbp (λ vs H Q E h=>?_) (λ cdv A' outer s H vs Q E hr h=>?_)
 . obtain ⟨a,ns,k,rfl,_⟩:=h
   rfl
 . obtain ⟨a,ns,k,rfl,hS,hk,q⟩:=h
   refine ⟨_,(zac (zaL (i:=2) zbp.nd rfl (by walk_at "loc") zaJ)
     (zac (zaL (i:=3) zbp.nd rfl (by walk_at "loc") (zcT zht (zaT G__law_cell (hmr hr) rfl T.zci T.zch T.zcj .nil zaF (zaa (pv 0) (zaa zam zad))) (zcT zkD zam (pv 1))))
     (zac (zaL (i:=4) zbp.nd rfl (by walk_at "loc") (zeo PySem.F.plainAttrs_str PySem.F.slot_str_join PySem.F.type_str_join zo9 zaJ (zaa (zcV 1 [2,3] ["_law_j","_law_letters","_law_seed"] rfl (by walk_at "blk") (zem rfl T.zhD (zaa (zaT G__law_mix (hmr hr) rfl T.zbM T.zbK T.zbN .nil zaF (zaa (pv 3) (zaa zam (zaa zam zad)))) zad)) (λ C fp s H=>(zaE (i:=0) (show (["_law_j","_law_letters","_law_seed"]:List Str).Nodup by decide +kernel) rfl (by walk_at "loc"))) (λ C fp s H=>zek) (λ C fp s H=>(zbe zna (pv 1) (zaT G__law_mix (hmr hr) rfl T.zbM T.zbK T.zbN .nil zaF (zaa (zcT zht (pv 2) (zcT zkD zam (pv 0))) (zaa zam (zaa zam zad)))) (λ _ _=>rfl)))) zad)))
     (zac (zbq (PW.pt (ziJ (zaz zcg (pv 1) zam (zaI _)) (zf8 (zaz zcg (zcT zkE (zaT G__law_cell (hmr hr) rfl T.zci T.zch T.zcj .nil zaF (zaa (pv 0) (zaa zam zad))) zam) zam (zaI _))))) (zag (zaw (zbe zbu (zcU (zaa zaJ (zaa zaJ zad))) (zbv zfQ (by rfl) T.zo7 boot_int (zaa (zdi zcg (zaT G__law_key (hmr hr) rfl T.zeK T.zeG T.zeM .nil zaF (zaa (pv 0) (zaa zam zad))) zaJ (zaI _)) zad)) (λ _ _=>rfl)))) zaH)
     (zag (zaw (zcT ziO (zbe zna zaJ (pv 1) (λ _ _=>rfl)) (pv 4)))))))),?_⟩
   refine ⟨_,rfl,a,ns,0,rfl,hS,_,rfl,_,_,rfl,rfl,.inl ⟨by decide,by decide⟩,_,_,rfl,rfl,?_⟩
   obtain ⟨t0,t1⟩:=ziR (c:=za0 ns 0+7 * (k:Int)) (p:=9967) (m:=4) (by decide)
   refine ⟨rfl,_,rfl,_,_,_,rfl,by decide,by decide,_,rfl,by omega,by omega,?_⟩
   refine zdy (λ i ys σ H2=>∃ v0,σ=[v0,some (.str abc),some (.int (za0 ns 0+7 * (k:Int)))]/\H2=H/\ys=((List.range i).map λ (j:Nat)=>pick abc (mixF (za0 ns 0+7 * (k:Int)+5 * (j:Int)) 9973 26).toNat).map V.str) ⟨none,rfl,rfl,rfl⟩ (λ i ys σ H2 ⟨_,_,_,e⟩=>by rw [e,List.length_map,List.length_map,List.length_range]; exact Nat.le_refl _) (by rw [sizeLine_eq]; omega) ?_ ?_
   . rintro i ys σ H2 hlt ⟨v0,rfl,rfl,rfl⟩
     obtain ⟨u0,u1⟩:=ziR (c:=za0 ns 0+7 * (k:Int)+5 * (0+(i:Int))) (p:=9973) (m:=26) (by decide)
     have hsz:abc.cps.size=26:=by decide +kernel
     obtain ⟨c,hc,hp⟩:=zjr (l:=abc) (i:=(mixF (za0 ns 0+7 * (k:Int)+5 * (0+(i:Int))) 9973 26).toNat) (by rw [hsz]; omega)
     rw [show (((mixF (za0 ns 0+7 * (k:Int)+5 * (0+(i:Int))) 9973 26).toNat:Nat):Int)=mixF (za0 ns 0+7 * (k:Int)+5 * (0+(i:Int))) 9973 26 by omega] at hc
     refine ⟨_,rfl,_,rfl,_,rfl,_,_,rfl,rfl,.inl ⟨by decide,by decide⟩,_,_,rfl,rfl,_,_,_,rfl,by decide,by decide,_,_,c,rfl,rfl,by show abc.cps.size<=sizeLine; rw [hsz,sizeLine_eq]; decide,hc,nx hlt ⟨_,rfl,rfl,?_⟩⟩
     rw [List.range_succ,List.map_append,List.map_append]
     rw [show (0+(i:Int))=(i:Int) by omega] at hp
     rw [<-hp]; rfl
   rintro ys σ H2 ⟨v0,rfl,rfl,rfl⟩
   intro pt nt
   refine ⟨_,pt,zd3 (za0 ns 0+7 * (k:Int)),rfl,rfl,zab,?_,?_⟩
   . rw [zm9]
     have h3:=zg0 (za0 ns 0+7 * (k:Int))
     omega
   have s1:Same H2 (upd H2 pt (.lst ((zd3 (za0 ns 0+7 * (k:Int))).map V.str))):=Same.zaq nt
   show tSeq _ _ _ _ (upd H2 pt (.lst ((zd3 (za0 ns 0+7 * (k:Int))).map V.str)))
   generalize upd H2 pt (.lst ((zd3 (za0 ns 0+7 * (k:Int))).map V.str))=H3 at *
   have last:∀ kf:Str,kf=zdK ns k->(∀ H',Same H2 H'->Q (.str kf) H')->tRet (tOp (λ x y H Q=>∃ i j,x=.str i/\y=.str j/\i.length+j.length<=sizeLine/\Q (.str (i++j)) H) (tOp rIxS (tC (.str "qrst")) (tVar 1)) (tVar 4)) { nx:=λ _ H'=>Q .non H',rt:=Q } [some (.ref a),some (.int k),some (.str "abcdefghijklmnopqrstuvwxyz"),some (.int (za0 ns 0+7 * (k:Int))),some (.str (Txt.join "" (zd3 (za0 ns 0+7 * (k:Int)))))] H3:=λ kf ek q=>by
     have hsz:("qrst" : Str).cps.size=4:=by decide +kernel
     obtain ⟨c,hc,hp⟩:=zjr (l := "qrst") (i:=k) (by rw [hsz]; omega)
     refine ⟨_,rfl,_,_,c,rfl,rfl,by show ("qrst" : Str).cps.size<=sizeLine; rw [hsz,sizeLine_eq]; decide,hc,_,rfl,_,_,rfl,rfl,?_,?_⟩
     . have h3:=zg0 (za0 ns 0+7 * (k:Int))
       have h4:=zk5 (zd3 (za0 ns 0+7 * (k:Int)))
       have h5:(⟨#[c]⟩:Str).length=1:=rfl
       rw [sizeLine_eq]; omega
     . have:=q H3 s1
       rw [ek] at this
       unfold zdK at this
       rw [hp] at this
       exact this
   refine ⟨_,rfl,rfl,_,rfl,?_⟩
   refine zaS (decide_eq_false λ z=>by have:=V.int.inj z; omega) (last _ rfl q)
theorem zhu (T:Txt K mg A F):FnOk P w K mg base (CX1 P w) 4 (F.f 3) (F.fd 3) ["_law_script","_law_k"] (ztz K):=by
 have G__law_mix:=@zfi P w K mg base A F T
 have G__law_cell:=@zeq P w K mg base A F T
 have G__law_key:=@zkG P w K mg base A F T
 refine T.zgt.okN zbp (λ vs H Q E h=>?_) (λ cdv A' outer s H vs Q E hr h=>?_)
 . obtain ⟨a,ns,k,rfl,_⟩:=h
   rfl
 . obtain ⟨a,ns,k,rfl,hS,hk,q⟩:=h
   refine ⟨_,(zac (zaL (i:=2) zbp.nd rfl (by walk_at "loc") zaJ)
     (zac (zaL (i:=3) zbp.nd rfl (by walk_at "loc") (zcT zht (zaT G__law_cell (hmr hr) rfl T.zci T.zch T.zcj .nil zaF (zaa (pv 0) (zaa zam zad))) (zcT zkD zam (pv 1))))
     (zac (zaL (i:=4) zbp.nd rfl (by walk_at "loc") (zeo PySem.F.plainAttrs_str PySem.F.slot_str_join PySem.F.type_str_join zo9 zaJ (zaa (zcV 1 [2,3] ["_law_j","_law_letters","_law_seed"] rfl (by walk_at "blk") (zem rfl T.zhD (zaa (zaT G__law_mix (hmr hr) rfl T.zbM T.zbK T.zbN .nil zaF (zaa (pv 3) (zaa zam (zaa zam zad)))) zad)) (λ C fp s H=>(zaE (i:=0) (show (["_law_j","_law_letters","_law_seed"]:List Str).Nodup by decide +kernel) rfl (by walk_at "loc"))) (λ C fp s H=>zek) (λ C fp s H=>(zbe zna (pv 1) (zaT G__law_mix (hmr hr) rfl T.zbM T.zbK T.zbN .nil zaF (zaa (zcT zht (pv 2) (zcT zkD zam (pv 0))) (zaa zam (zaa zam zad)))) (λ _ _=>rfl)))) zad)))
     (zac (zbq (PW.pt (ziJ (zaz zcg (pv 1) zam (zaI _)) (zf8 (zaz zcg (zcT zkE (zaT G__law_cell (hmr hr) rfl T.zci T.zch T.zcj .nil zaF (zaa (pv 0) (zaa zam zad))) zam) zam (zaI _))))) (zag (zaw (zbe zbu (zcU (zaa zaJ (zaa zaJ zad))) (zbv zfQ (by rfl) T.zo7 boot_int (zaa (zdi zcg (zaT G__law_key (hmr hr) rfl T.zeK T.zeG T.zeM .nil zaF (zaa (pv 0) (zaa zam zad))) zaJ (zaI _)) zad)) (λ _ _=>rfl)))) zaH)
     (zag (zaw (zcT ziO (zbe zna zaJ (pv 1) (λ _ _=>rfl)) (pv 4)))))))),?_⟩
   refine ⟨_,rfl,a,ns,0,rfl,hS,_,rfl,_,_,rfl,rfl,.inl ⟨by decide,by decide⟩,_,_,rfl,rfl,?_⟩
   obtain ⟨t0,t1⟩:=ziR (c:=za0 ns 0+7 * (k:Int)) (p:=9967) (m:=4) (by decide)
   refine ⟨rfl,_,rfl,_,_,_,rfl,by decide,by decide,_,rfl,by omega,by omega,?_⟩
   refine zdy (λ i ys σ H2=>∃ v0,σ=[v0,some (.str abc),some (.int (za0 ns 0+7 * (k:Int)))]/\H2=H/\ys=((List.range i).map λ (j:Nat)=>pick abc (mixF (za0 ns 0+7 * (k:Int)+5 * (j:Int)) 9973 26).toNat).map V.str) ⟨none,rfl,rfl,rfl⟩ (λ i ys σ H2 ⟨_,_,_,e⟩=>by rw [e,List.length_map,List.length_map,List.length_range]; exact Nat.le_refl _) (by rw [sizeLine_eq]; omega) ?_ ?_
   . rintro i ys σ H2 hlt ⟨v0,rfl,rfl,rfl⟩
     obtain ⟨u0,u1⟩:=ziR (c:=za0 ns 0+7 * (k:Int)+5 * (0+(i:Int))) (p:=9973) (m:=26) (by decide)
     have hsz:abc.cps.size=26:=by decide +kernel
     obtain ⟨c,hc,hp⟩:=zjr (l:=abc) (i:=(mixF (za0 ns 0+7 * (k:Int)+5 * (0+(i:Int))) 9973 26).toNat) (by rw [hsz]; omega)
     rw [show (((mixF (za0 ns 0+7 * (k:Int)+5 * (0+(i:Int))) 9973 26).toNat:Nat):Int)=mixF (za0 ns 0+7 * (k:Int)+5 * (0+(i:Int))) 9973 26 by omega] at hc
     refine ⟨_,rfl,_,rfl,_,rfl,_,_,rfl,rfl,.inl ⟨by decide,by decide⟩,_,_,rfl,rfl,_,_,_,rfl,by decide,by decide,_,_,c,rfl,rfl,by show abc.cps.size<=sizeLine; rw [hsz,sizeLine_eq]; decide,hc,nx hlt ⟨_,rfl,rfl,?_⟩⟩
     rw [List.range_succ,List.map_append,List.map_append]
     rw [show (0+(i:Int))=(i:Int) by omega] at hp
     rw [<-hp]; rfl
   rintro ys σ H2 ⟨v0,rfl,rfl,rfl⟩
   intro pt nt
   refine ⟨_,pt,zd3 (za0 ns 0+7 * (k:Int)),rfl,rfl,zab,?_,?_⟩
   . rw [zm9]
     have h3:=zg0 (za0 ns 0+7 * (k:Int))
     omega
   have s1:Same H2 (upd H2 pt (.lst ((zd3 (za0 ns 0+7 * (k:Int))).map V.str))):=Same.zaq nt
   show tSeq _ _ _ _ (upd H2 pt (.lst ((zd3 (za0 ns 0+7 * (k:Int))).map V.str)))
   generalize upd H2 pt (.lst ((zd3 (za0 ns 0+7 * (k:Int))).map V.str))=H3 at *
   have last:∀ kf:Str,kf=zdK ns k->(∀ H',Same H2 H'->Q (.str kf) H')->tRet (tOp (λ x y H Q=>∃ i j,x=.str i/\y=.str j/\i.length+j.length<=sizeLine/\Q (.str (i++j)) H) (tOp rIxS (tC (.str "qrst")) (tVar 1)) (tVar 4)) { nx:=λ _ H'=>Q .non H',rt:=Q } [some (.ref a),some (.int k),some (.str "abcdefghijklmnopqrstuvwxyz"),some (.int (za0 ns 0+7 * (k:Int))),some (.str (Txt.join "" (zd3 (za0 ns 0+7 * (k:Int)))))] H3:=λ kf ek q=>by
     have hsz:("qrst" : Str).cps.size=4:=by decide +kernel
     obtain ⟨c,hc,hp⟩:=zjr (l := "qrst") (i:=k) (by rw [hsz]; omega)
     refine ⟨_,rfl,_,_,c,rfl,rfl,by show ("qrst" : Str).cps.size<=sizeLine; rw [hsz,sizeLine_eq]; decide,hc,_,rfl,_,_,rfl,rfl,?_,?_⟩
     . have h3:=zg0 (za0 ns 0+7 * (k:Int))
       have h4:=zk5 (zd3 (za0 ns 0+7 * (k:Int)))
       have h5:(⟨#[c]⟩:Str).length=1:=rfl
       rw [sizeLine_eq]; omega
     . have:=q H3 s1
       rw [ek] at this
       unfold zdK at this
       rw [hp] at this
       exact this
   refine ⟨_,rfl,rfl,_,rfl,?_⟩
   by_cases h3:k=3
   rotate_left
   . refine zaS (decide_eq_false λ z=>by have:=V.int.inj z; omega) (last _ ?_ q)
     unfold keyF; rw [if_neg λ z=>h3 z.1]
   refine zbl (decide_eq_true (by rw [h3]; rfl)) ?_
   refine ⟨_,rfl,a,ns,0,rfl,s1.seq hS,_,_,rfl,rfl,(by show (0:Int) < 2; decide),rfl,_,rfl,?_⟩
   by_cases h2:za0 ns 0 % 2=0
   rotate_left
   . refine zaS (decide_eq_false λ z=>h2 (V.int.inj z)) (last _ ?_ q)
     unfold keyF; rw [if_neg λ z=>h2 z.2]
   refine zbl (decide_eq_true (show V.int (za0 ns 0 % 2)=V.int 0 by rw [h2])) ?_
   refine ⟨sz2,λ l hl=>?_⟩
   have s2:Same H2 (upd H3 l (.lst [V.str "q",V.str "qa"])):=s1.upd2 hl
   refine ⟨_,rfl,a,ns,0,rfl,s2.seq hS,by decide,λ H5 s5=>⟨rfl,.inr ⟨_,rfl,?_⟩⟩⟩
   have hl5:=s5 _ _ (zab (H:=H3) (a:=l) (o:=.lst [V.str "q",V.str "qa"]))
   have q5:=q H5 (s2.trans s5)
   unfold keyF at q5
   rw [if_pos ⟨h3,h2⟩] at q5
   by_cases hq:zdK ns 0 = "q"
   . rw [if_pos hq] at q5
     rw [decide_eq_true (show V.str (zdK ns 0)=V.str "q" by rw [hq])]
     exact ⟨l,_,_,_,rfl,rfl,SqL.of hl5,zbm (xs:=[V.str "q",V.str "qa"]) (j:=1) rfl,q5⟩
   . rw [if_neg hq] at q5
     rw [decide_eq_false (show ¬ V.str (zdK ns 0)=V.str "q" from λ z=>hq (V.str.inj z))]
     exact ⟨l,_,_,_,rfl,rfl,SqL.of hl5,zbm (xs:=[V.str "q",V.str "qa"]) (j:=0) rfl,q5⟩
theorem zlS (T:Txt K mg A F):FnOk P w K mg base (CX1 P w) 5 (F.f 4) (F.fd 4) ["_law_script","_law_cell_here","_law_begun"] (ztB K):=by
 have G__law_mix:=@zfi P w K mg base A F T
 have G__law_cell:=@zeq P w K mg base A F T
 have G__law_key:=@zhu P w K mg base A F T
 refine T.zog.okN zcN (λ vs H Q E h=>?_) (λ cdv A' outer s H vs Q E hr h=>?_)
 . obtain ⟨a,ns,c,b,rfl,_⟩:=h
   rfl
 . obtain ⟨a,ns,c,b,rfl,hS,hb,q⟩:=h
   refine ⟨_,(zac (zaL (i:=3) zcN.nd rfl (by walk_at "loc") (zaT G__law_mix (hmr hr) rfl T.zbM T.zbK T.zbN .nil zaF (zaa (pv 1) (zaa zam (zaa (pv 2) zad)))))
     (zac (zaL (i:=4) zcN.nd rfl (by walk_at "loc") (zaT G__law_key (hmr hr) rfl T.zeK T.zeG T.zeM .nil zaF (zaa (pv 0) (zaa (zaT G__law_mix (hmr hr) rfl T.zbM T.zbK T.zbN .nil zaF (zaa (pv 1) (zaa zam (zaa (zcT zht zam (zaT G__law_mix (hmr hr) rfl T.zbM T.zbK T.zbN .nil zaF (zaa (zaT G__law_cell (hmr hr) rfl T.zci T.zch T.zcj .nil zaF (zaa (pv 0) (zaa zam zad))) (zaa zam (zaa zam zad))))) zad)))) zad))))
     (zac (zaL (i:=5) zcN.nd rfl (by walk_at "loc") (zaT G__law_mix (hmr hr) rfl T.zbM T.zbK T.zbN .nil zaF (zaa (pv 1) (zaa zam (zaa zam zad)))))
     (zac (zaL (i:=6) zcN.nd rfl (by walk_at "loc") (zbe zbu (zcU (zaa zam (zaa zam zad))) (zbv zfQ (by rfl) T.zo7 boot_int (zaa (zdi zcg (zcT zkE (zaT G__law_cell (hmr hr) rfl T.zci T.zch T.zcj .nil zaF (zaa (pv 0) (zaa zam zad))) zam) zam (zaI _)) zad)) (λ _ _=>rfl)))
     (zac (zbq (PW.pt (ziJ (zaz zlP (pv 5) (zcT zht zam (zcT zrN (pv 6) zam)) (zaI _)) (zf8 (zaz zlP (pv 2) (pv 6) (zaI _))))) (zag (zaw (zbD (zaa zaJ zad)))) zaH)
     (zac (zbq (zaz zlP (pv 5) zam (zaI _)) (zag (zaw (zbD (zaa zaJ (zaa (pv 3) (zaa (pv 4) zad)))))) zaH)
     (zac (zbq (zaz zlP (pv 5) zam (zaI _)) (zag (zaw (zbD (zaa zaJ (zaa (pv 3) (zaa (pv 4) (zaa (zcT zqV (zaT G__law_mix (hmr hr) rfl T.zbM T.zbK T.zbN .nil zaF (zaa (pv 1) (zaa zam (zaa zam zad)))) zam) zad))))))) zaH)
     (zac (zbq (zaz zlP (pv 5) zam (zaI _)) (zag (zaw (zbD (zaa zaJ (zaa (pv 3) zad))))) zaH)
     (zag (zaw (zbD (zaa zaJ (zaa (pv 3) zad))))))))))))),?_⟩
   obtain ⟨d,ed,hd⟩:=zlU (c:=c) (p:=9949) hb
   obtain ⟨m,em,hm⟩:=zlU (c:=za0 ns 0) (p:=9931) (m:=4) (by decide)
   obtain ⟨j,ej,hj⟩:=zlU (c:=c) (p:=9941) (m:=1+m) (by omega)
   have em:mixF (za0 ns 0) 9931 4=m:=em
   refine ⟨_,rfl,_,rfl,_,_,_,rfl,by decide,by omega,?_⟩
   rw [ed]
   refine ⟨_,rfl,_,rfl,_,rfl,a,ns,0,rfl,hS,_,_,_,rfl,by decide,by decide,_,_,rfl,rfl,_,_,_,rfl,by decide,by rw [em]; omega,a,ns,j,?_,hS,by omega,λ H1 s1=>?_⟩
   . rw [em,show (1:Int)+(m:Int)=((1+m:Nat):Int) by omega,ej]; rfl
   refine ⟨_,rfl,_,_,_,rfl,by decide,by decide,?_⟩
   generalize mixF c 9929 17=tn
   refine ⟨sz2,λ l hl=>?_⟩
   have s2:Same H (upd H1 l (.lst [V.int 9,V.int 30])):=s1.upd2 hl
   refine ⟨_,rfl,a,ns,0,rfl,s2.seq hS,_,_,rfl,rfl,(by show (0:Int) < 16; decide),rfl,.inr ⟨_,rfl,l,_,_,V.int (if za0 ns 0 % 16=3 then 30 else 9),rfl,rfl,SqL.of zab,?_,?_⟩⟩
   . by_cases h:za0 ns 0 % 16=3
     . rw [if_pos h]
       show atI [V.int 9,V.int 30] (if decide (V.int (za0 ns 0 % 16)=V.int 3)=true then 1 else 0)=_
       rw [if_pos (decide_eq_true (by rw [h]))]; exact zbm (xs:=[V.int 9,V.int 30]) (j:=1) rfl
     . rw [if_neg h]
       show atI [V.int 9,V.int 30] (if decide (V.int (za0 ns 0 % 16)=V.int 3)=true then 1 else 0)=_
       rw [if_neg (by rw [decide_eq_false λ z=>h (V.int.inj z)]; exact Bool.false_ne_true)]; exact zbm (xs:=[V.int 9,V.int 30]) (j:=0) rfl
   generalize (if za0 ns 0 % 16=3 then (30:Int) else 9)=M
   show tSeq _ _ _ _ (upd H1 l (.lst [V.int 9,V.int 30]))
   generalize upd H1 l (.lst [V.int 9,V.int 30])=H2 at *
   refine ⟨_,rfl,_,rfl,_,_,rfl,rfl,⟨by decide,by decide⟩,_,_,rfl,rfl,_,_,rfl,rfl,_,rfl,?_⟩
   by_cases h1:tn < 2+M / 15
   . refine zbl (decide_eq_true h1) ⟨_,rfl,_,rfl,_,_,rfl,rfl,_,rfl,?_⟩
     by_cases h2:(b:Int) < M
     . exact zbl (decide_eq_true h2) ⟨sz1,λ n nn=>q _ n .begin (s2.free nn) (s2.upd2 nn) zab trivial⟩
     refine zaS (decide_eq_false h2) ?_
     refine ⟨_,rfl,_,_,rfl,rfl,_,rfl,?_⟩
     by_cases h3:tn < 7
     . exact zbl (decide_eq_true h3) ⟨_,rfl,_,rfl,sz3,λ n nn=>q _ n (.read d (keyF ns j)) (s2.free nn) (s2.upd2 nn) zab ⟨hd,j,by omega,rfl⟩⟩
     refine zaS (decide_eq_false h3) ⟨_,rfl,_,_,rfl,rfl,_,rfl,?_⟩
     by_cases h4:tn < 13
     . exact zbl (decide_eq_true h4) ⟨_,rfl,_,rfl,_,rfl,_,_,_,rfl,by decide,by decide,_,_,rfl,rfl,sz4,λ n nn=>q _ n (.write d (keyF ns j) _) (s2.free nn) (s2.upd2 nn) zab ⟨hd,j,by omega,rfl⟩⟩
     refine zaS (decide_eq_false h4) ⟨_,rfl,_,_,rfl,rfl,_,rfl,?_⟩
     by_cases h5:tn < 16
     . exact zbl (decide_eq_true h5) ⟨_,rfl,sz2,λ n nn=>q _ n (.keep d) (s2.free nn) (s2.upd2 nn) zab hd⟩
     . exact zaS (decide_eq_false h5) ⟨_,rfl,sz2,λ n nn=>q _ n (.drop d) (s2.free nn) (s2.upd2 nn) zab hd⟩
   . refine zaS (decide_eq_false h1) ?_
     refine ⟨_,rfl,_,_,rfl,rfl,_,rfl,?_⟩
     by_cases h3:tn < 7
     . exact zbl (decide_eq_true h3) ⟨_,rfl,_,rfl,sz3,λ n nn=>q _ n (.read d (keyF ns j)) (s2.free nn) (s2.upd2 nn) zab ⟨hd,j,by omega,rfl⟩⟩
     refine zaS (decide_eq_false h3) ⟨_,rfl,_,_,rfl,rfl,_,rfl,?_⟩
     by_cases h4:tn < 13
     . exact zbl (decide_eq_true h4) ⟨_,rfl,_,rfl,_,rfl,_,_,_,rfl,by decide,by decide,_,_,rfl,rfl,sz4,λ n nn=>q _ n (.write d (keyF ns j) _) (s2.free nn) (s2.upd2 nn) zab ⟨hd,j,by omega,rfl⟩⟩
     refine zaS (decide_eq_false h4) ⟨_,rfl,_,_,rfl,rfl,_,rfl,?_⟩
     by_cases h5:tn < 16
     . exact zbl (decide_eq_true h5) ⟨_,rfl,sz2,λ n nn=>q _ n (.keep d) (s2.free nn) (s2.upd2 nn) zab hd⟩
     . exact zaS (decide_eq_false h5) ⟨_,rfl,sz2,λ n nn=>q _ n (.drop d) (s2.free nn) (s2.upd2 nn) zab hd⟩
theorem zkI (T:Txt K mg A F):FnOk P w K mg base (CX1 P w) 6 (F.f 5) (F.fd 5) ["_law_script"] (zsE K):=by
 have G__law_act:=@zlS P w K mg base A F T
 refine T.zmB.okN zbY (λ vs H Q E h=>?_) (λ cdv A' outer s H vs Q E hr h=>?_)
 . obtain ⟨a,ns,rfl,_⟩:=h
   rfl
 . obtain ⟨a,ns,rfl,hS,q⟩:=h
   refine ⟨_,(zac (zaL (i:=1) zbY.nd rfl (by walk_at "loc") (zcU (zaa (zbD (zaa zaJ zad)) (zaa (zbD (zaa zaJ zad)) zad))))
     (zac (zaL (i:=2) zbY.nd rfl (by walk_at "loc") zam)
     (zac (zeS PassesOwn.never rfl (zcS (zqi zry (pv 0) (zoT zam) (zoT zam))) (zaE (i:=3) zbY.nd rfl (by walk_at "loc")) (zac (zaL (i:=4) zbY.nd rfl (by walk_at "loc") (zaT G__law_act (hmr hr) rfl T.zn4 T.znW T.zob .nil zaF (zaa (pv 0) (zaa (pv 3) (zaa (pv 2) zad)))))
     (zac (zaL (i:=2) zbY.nd rfl (by walk_at "loc") (zcT zht (pv 2) (zbv zfQ (by rfl) T.zo7 boot_int (zaa (zdi zcg (zbe zb0 (pv 4) zam (λ _ _=>rfl)) zaJ (zaI _)) zad))))
     (zag (zaM (zeo PySem.F.plainAttrs_list PySem.F.slot_list_append PySem.F.type_list_append zbx (pv 1) (zaa (pv 4) zad)))))))
     (zag (zaw (pv 1)))))),?_⟩
   refine ⟨sz1,λ p1 n1=>⟨sz1,λ p2 n2=>⟨sz2,λ l nl=>?_⟩⟩⟩
   have s1:Same H (upd H p1 (.tup [V.str "begin"])):=Same.zaq n1
   have s2:=s1.upd2 (o:=.tup [V.str "begin"]) n2
   have s3:=s2.upd2 (o:=.lst [V.ref p1,V.ref p2]) nl
   have e2:upd (upd H p1 (.tup [V.str "begin"])) p2 (.tup [V.str "begin"]) p2=some (.tup [V.str "begin"]):=zab
   have e1:upd (upd H p1 (.tup [V.str "begin"])) p2 (.tup [V.str "begin"]) p1=some (.tup [V.str "begin"]):=zao zab n2
   refine ⟨_,rfl,_,rfl,_,rfl,a,_,rfl,s3.seq hS,λ pc nc=>⟨pc,rfl,⟨_,SqL.of zab⟩,?_⟩⟩
   have ec:cutV (ns.map V.int) (some 1) (some 62)=((ns.take 62).drop 1).map V.int:=by
     have e0:cutV (ns.map V.int) (some 1) (some 62)=((ns.map V.int).drop (min 1 (ns.map V.int).length)).take (min 62 (ns.map V.int).length - min 1 (ns.map V.int).length):=rfl
     rw [e0,List.length_map,List.map_drop,List.map_take,List.drop_take]
     cases hns:ns with
     | nil=>rfl
     | cons x r =>
       rw [List.length_cons,Nat.min_eq_left (show 1<=r.length+1 by omega)]
       show ((r.map V.int).take _)=(r.map V.int).take 61
       by_cases h:62<=r.length+1
       . rw [Nat.min_eq_left h]
       . rw [List.take_of_length_le (by rw [List.length_map]; omega),List.take_of_length_le (by rw [List.length_map]; omega)]
   rw [ec]
   have hcl:((ns.take 62).drop 1).length<=61:=by rw [List.length_drop,List.length_take]; omega
   generalize hcs:(ns.take 62).drop 1=cs at *
   have nlc:l≠pc:=zaf zab nc
   have s4:=s3.upd2 (o:=.lst (cs.map V.int)) nc
   have nlH:H l=none:=s2.free nl
   have npH:H pc=none:=s3.free nc
   refine zeL (xs:=cs.map V.int) (λ i σ H2=>∃ us As v3 v4,σ=[some (.ref a),some (.ref l),some (.int ((zdz As:Nat):Int)),v3,v4]/\Same H H2/\H2 l=some (.lst us)/\H2 pc=some (.lst (cs.map V.int))/\zau H2 us (As.map actD)/\(∀ p,V.ref p∈us->H p=none)/\Valid ns As/\As.length=2+i/\2<=zdz As) ?_ (λ i σ H2 _ ⟨_,_,_,_,_,_,_,e,_⟩=>SqL.of e) ?_ ?_
   . refine ⟨[V.ref p1,V.ref p2],[.begin,.begin],none,none,rfl,s4,zao zab nc,zab,?_,?_,?_,rfl,Nat.le_refl _⟩
     . exact .cons ⟨p1,rfl,zao (zao e1 nl) nc⟩ (.cons ⟨p2,rfl,zao (zao e2 nl) nc⟩ .nil)
     . intro p hp
       rcases List.mem_cons.mp hp with h | h
       . cases h; exact n1
       . rcases List.mem_cons.mp h with h | h
         . cases h; exact s1.free n2
         . cases h
     . intro i x hx
       match i,hx with
       | 0,hx=>cases hx; trivial
       | 1,hx=>cases hx; trivial
       | i+2,hx=>cases hx
   . rintro i x σ H2 hx ⟨us,As,v3,v4,rfl,m2,hl2,hc2,t2,f2,vd,hlen,hb2⟩
     rw [List.getElem?_map] at hx
     obtain ⟨c,hc,rfl⟩:=Option.map_eq_some_iff.mp hx
     have hi:i < cs.length:=(List.getElem?_eq_some_iff.mp hc).1
     have hul:us.length=As.length:=by rw [t2.length,List.length_map]
     refine ⟨_,rfl,_,rfl,_,rfl,a,ns,c,zdz As,rfl,m2.seq hS,by omega,λ H3 q3 Ac n3 m3 e3 ok3=>?_⟩
     obtain ⟨tx,eA,db⟩:=zpU Ac
     have m03:=m2.trans m3
     refine ⟨_,rfl,_,rfl,q3,_,_,V.str tx,rfl,rfl,SqT.of e3,zbm (j:=0) (by rw [eA]; rfl),rfl,.inr ⟨_,rfl,_,_,rfl,rfl,?_⟩⟩
     have hl3:=m3 _ _ hl2
     refine ⟨_,rfl,.inl ⟨rfl,_,SqL.of hl3⟩,_,rfl,l,us,V.ref q3,rfl,rfl,hl3,by rw [hul,sizeLine_eq]; omega,?_⟩
     have eb:((zdz As:Nat):Int)+(if decide (V.str tx=V.str "begin")=true then 1 else 0)=((zdz (As++[Ac]):Nat):Int):=by
       rw [db,zfr]
       have:=zq6 Ac
       by_cases h:Ac.isB=1
       . rw [decide_eq_true h,if_pos rfl,h]; rfl
       . rw [decide_eq_false h,if_neg Bool.false_ne_true]; have:Ac.isB=0:=by omega
         rw [this]; rfl
     refine ⟨us++[V.ref q3],As++[Ac],_,_,by rw [<-eb]; rfl,?_,zab,?_,?_,?_,vd.snoc ok3,by rw [List.length_append,List.length_singleton]; omega,by rw [zfr]; omega⟩
     . intro b o e
       rw [zae (zaf e nlH)]; exact m03 b o e
     . rw [zae nlc.symm]; exact m3 _ _ hc2
     . rw [List.map_append]
       have lift:∀ {vs:List V} {xss:List (List V)},zau H3 vs xss->zau (upd H3 l (.lst (us++[V.ref q3]))) vs xss:=λ {vs xss} t=>by
         induction t with
         | nil=>exact .nil
         | cons r0 _ ih =>
           obtain ⟨p0,e0,q0⟩:=r0
           exact .cons ⟨p0,e0,by rw [zae (zbF q0 hl3 (λ z=>nomatch z))]; exact q0⟩ ih
       exact lift (S6.zco (zbk m3 t2) ⟨q3,rfl,e3⟩)
     . intro p hp
       rcases List.mem_append.mp hp with hp | hp
       . exact f2 p hp
       . have:=List.mem_singleton.mp hp
         cases this
         exact m2.free n3
   . rintro σ H2 ⟨us,As,v3,v4,rfl,m2,hl2,hc2,t2,f2,vd,hlen,hb2⟩
     rw [List.length_map] at hlen
     exact ⟨_,rfl,q H2 l us As nlH m2 hl2 t2 f2 vd (by omega)⟩
theorem zkH (T:Txt K mg A F):FnOk P w K mg base (CX1 P w) 10 (F.f 41) (F.fd 41) ["_law_hall","_law_act_here"] (zsC A):=by
 have G_Hall_begin:=@zjw P w K mg base A F T
 have G_Hall_read:=@zkL P w K mg base A F T
 have G_Hall_write:=@zjv P w K mg base A F T
 have G_Hall_keep:=@zkM P w K mg base A F T
 have G_Hall_give_up:=@zhv P w K mg base A F T
 refine T.zmA.okX zkq (λ vs H Q E h=>?_) (λ cdv A' outer s H vs Q E hr h=>?_)
 . obtain ⟨ρ,ad,s,kq,act,T0,ns,rfl,_⟩:=h
   rfl
 . obtain ⟨ρ,ad,s,kq,act,T0,ns,rfl,hh,R,ht,hn,ok,hq,q,qe⟩:=h
   obtain ⟨dx,hp⟩:=hh.hall
   have nes:∀ a b:Str,a≠b->decide (V.str a=V.str b)=false:=λ a b h=>decide_eq_false λ z=>h (V.str.inj z)
   refine ⟨_,(zac (zbq (zaz zcg (zbe zb0 (pv 1) zam (λ _ _=>rfl)) zaJ (zaI _)) (zag (zaw (zdI (pv 0) T.zaj T.zkW G_Hall_begin (hmr hr) T.zlm .nil zaF))) zaH)
    (zac (zbq (zaz zcg (zbe zb0 (pv 1) zam (λ _ _=>rfl)) zaJ (zaI _)) (zag (zaw (zax (pv 0) T.zaj T.zlZ G_Hall_read (hmr hr) T.zmp .nil zbE (zaa (zbe zb0 (pv 1) zam (λ _ _=>rfl)) (zaa (zbe zb0 (pv 1) zam (λ _ _=>rfl)) zad))))) zaH)
    (zac (zbq (zaz zcg (zbe zb0 (pv 1) zam (λ _ _=>rfl)) zaJ (zaI _)) (zag (zaw (zax (pv 0) T.zaj T.zkV G_Hall_write (hmr hr) T.zll .nil zbE (zaa (zbe zb0 (pv 1) zam (λ _ _=>rfl)) (zaa (zbe zb0 (pv 1) zam (λ _ _=>rfl)) (zaa (zbe zb0 (pv 1) zam (λ _ _=>rfl)) zad)))))) zaH)
    (zac (zbq (zaz zcg (zbe zb0 (pv 1) zam (λ _ _=>rfl)) zaJ (zaI _)) (zag (zaw (zax (pv 0) T.zaj T.zl0 G_Hall_keep (hmr hr) T.zmq .nil zbE (zaa (zbe zb0 (pv 1) zam (λ _ _=>rfl)) zad)))) zaH)
    (zag (zaw (zax (pv 0) T.zaj T.ziq G_Hall_give_up (hmr hr) T.ziw .nil zbE (zaa (zbe zb0 (pv 1) zam (λ _ _=>rfl)) zad)))))))),?_⟩
   cases act with
   | begin =>
    refine ⟨_,rfl,kq,_,_,_,rfl,rfl,SqT.of hq,rfl,rfl,_,rfl,?_⟩
    refine zbl (decide_eq_true rfl) ⟨_,rfl,_,dx,_,rfl,hp,rfl,ρ,ad,s,zav s,rfl,hh,R.r.L.sm R.r.c,hn,λ H' ρ' ad' a1 a2 a3=>q _ H' ρ' ad' a1 ?_ a3⟩
    show zai A ρ' ad' (za4 s) (zav (za4 s)) H'
    rw [zl4 R.r.c]; exact a2
   | read d k =>
    refine ⟨_,rfl,kq,_,_,_,rfl,rfl,SqT.of hq,rfl,rfl,_,rfl,?_⟩
    refine zaS (nes _ _ (by decide +kernel)) ?_
    refine ⟨_,rfl,kq,_,_,_,rfl,rfl,SqT.of hq,rfl,rfl,_,rfl,?_⟩
    refine zbl (decide_eq_true rfl) ?_
    have h4:=see4 R.r.L.e R.k ok.2
    refine ⟨_,rfl,_,dx,_,rfl,hp,rfl,_,rfl,kq,_,_,_,rfl,rfl,SqT.of hq,rfl,_,rfl,kq,_,_,_,rfl,rfl,SqT.of hq,rfl,ρ,ad,s,d,k,T0,rfl,hh,R.r,ht,h4,.inl ⟨d,rfl,ok.1,?_⟩⟩
    rw [zhb] at q qe
    by_cases hg:(s.deed d).st=.zar
    . rw [if_pos hg] at q
      refine .inl ⟨hg,λ H' ρ' ad' q' a1 a2 a3 a4 a5=>q _ H' ρ' ad' a1 ?_ a3⟩
      rw [(zcL R.r hg).2.2.1]; exact a2
    . rw [if_neg hg] at qe
      exact .inr ⟨hg,qe rfl⟩
   | write d k v =>
    refine ⟨_,rfl,kq,_,_,_,rfl,rfl,SqT.of hq,rfl,rfl,_,rfl,?_⟩
    refine zaS (nes _ _ (by decide +kernel)) ?_
    refine ⟨_,rfl,kq,_,_,_,rfl,rfl,SqT.of hq,rfl,rfl,_,rfl,?_⟩
    refine zaS (nes _ _ (by decide +kernel)) ?_
    refine ⟨_,rfl,kq,_,_,_,rfl,rfl,SqT.of hq,rfl,rfl,_,rfl,?_⟩
    refine zbl (decide_eq_true rfl) ?_
    have h4:=see4 R.r.L.e R.k ok.2
    refine ⟨_,rfl,_,dx,_,rfl,hp,rfl,_,rfl,kq,_,_,_,rfl,rfl,SqT.of hq,rfl,_,rfl,kq,_,_,_,rfl,rfl,SqT.of hq,rfl,_,rfl,kq,_,_,_,rfl,rfl,SqT.of hq,rfl,ρ,ad,s,d,k,v,T0,rfl,hh,R.r,ht,h4,.inl ⟨d,rfl,ok.1,?_⟩⟩
    rw [zfX] at q qe
    by_cases hg:(s.deed d).st=.zar
    . rw [if_pos hg] at q
      refine .inl ⟨hg,λ H' ρ' ad' q' a1 a2 a3 a4 a5=>q _ H' ρ' ad' a1 ?_ a3⟩
      rw [(zcL R.r hg).2.2.1]; exact a2
    . rw [if_neg hg] at qe
      exact .inr ⟨hg,qe rfl⟩
   | keep d =>
    refine ⟨_,rfl,kq,_,_,_,rfl,rfl,SqT.of hq,rfl,rfl,_,rfl,?_⟩
    refine zaS (nes _ _ (by decide +kernel)) ?_
    refine ⟨_,rfl,kq,_,_,_,rfl,rfl,SqT.of hq,rfl,rfl,_,rfl,?_⟩
    refine zaS (nes _ _ (by decide +kernel)) ?_
    refine ⟨_,rfl,kq,_,_,_,rfl,rfl,SqT.of hq,rfl,rfl,_,rfl,?_⟩
    refine zaS (nes _ _ (by decide +kernel)) ?_
    refine ⟨_,rfl,kq,_,_,_,rfl,rfl,SqT.of hq,rfl,rfl,_,rfl,?_⟩
    refine zbl (decide_eq_true rfl) ?_
    refine ⟨_,rfl,_,dx,_,rfl,hp,rfl,_,rfl,kq,_,_,_,rfl,rfl,SqT.of hq,rfl,ρ,ad,s,d,T0,rfl,hh,R.r,.inl ⟨d,rfl,ok,?_⟩⟩
    rw [zhc] at q qe
    by_cases hg:(s.deed d).st=.zar
    . rw [if_pos hg] at q
      exact .inl ⟨hg,λ H' ρ' ad' a1 a2 a3=>q _ H' ρ' ad' a1 a2 a3⟩
    . rw [if_neg hg] at qe
      exact .inr ⟨hg,qe rfl⟩
   | drop d =>
    refine ⟨_,rfl,kq,_,_,_,rfl,rfl,SqT.of hq,rfl,rfl,_,rfl,?_⟩
    refine zaS (nes _ _ (by decide +kernel)) ?_
    refine ⟨_,rfl,kq,_,_,_,rfl,rfl,SqT.of hq,rfl,rfl,_,rfl,?_⟩
    refine zaS (nes _ _ (by decide +kernel)) ?_
    refine ⟨_,rfl,kq,_,_,_,rfl,rfl,SqT.of hq,rfl,rfl,_,rfl,?_⟩
    refine zaS (nes _ _ (by decide +kernel)) ?_
    refine ⟨_,rfl,kq,_,_,_,rfl,rfl,SqT.of hq,rfl,rfl,_,rfl,?_⟩
    refine zaS (nes _ _ (by decide +kernel)) ?_
    refine ⟨_,rfl,_,dx,_,rfl,hp,rfl,_,rfl,kq,_,_,_,rfl,rfl,SqT.of hq,rfl,ρ,ad,s,d,T0,rfl,hh,R.r,.inl ⟨d,rfl,ok,?_⟩⟩
    rw [step_drop] at q qe
    by_cases hg:(s.deed d).st=.zar\/(s.deed d).st=.waiting
    . rw [if_pos hg] at q
      exact .inl ⟨hg,λ H' ρ' ad' a1 a2 a3=>q _ H' ρ' ad' a1 a2 a3⟩
    . rw [if_neg hg] at qe
      exact .inr ⟨hg,qe rfl⟩
theorem znQ (T:Txt K mg A F):FnOk P w K mg base (CX1 P w) 11 (F.f 42) (F.fd 42) ["_law_hall","_law_act_here"] (spDo A):=by
 have G__law_call:=@zkH P w K mg base A F T
 refine T.zpY.okN zeC (λ vs H Q E h=>?_) (λ cdv A' outer s H vs Q E hr h=>?_)
 . obtain ⟨ρ,ad,s,kq,act,T0,ns,rfl,_⟩:=h
   rfl
 . obtain ⟨ρ,ad,s,kq,act,T0,ns,rfl,hh,R,ht,hn,ok,hq,q⟩:=h
   refine ⟨_,(zac (zaL (i:=2) zeC.nd rfl (by walk_at "loc") zgA)
    (zac (zsM rfl rfl rfl rfl rfl T.zgl T.zns (λ E pn xe hp=>(zag (zaL (i:=2) zeC.nd rfl (by walk_at "loc") (zaT G__law_call (hmr hr) rfl T.zma T.zl5 T.zml .nil hp (zaa (pv 0) (zaa (pv 1) zad)))))) (λ e=>(zag (zaL (i:=2) zeC.nd rfl (by walk_at "loc") zaJ))))
    (zag (zaw (pv 2))))),?_⟩
   refine ⟨_,rfl,_,rfl,ρ,ad,s,kq,act,T0,ns,rfl,hh,R,ht,hn,ok,hq,λ v H' ρ' ad' a1 a2 a3=>⟨_,rfl,q _ H' ρ' ad' a1 a2 a3⟩,λ e=>⟨rfl,?_⟩⟩
   refine ⟨_,rfl,q _ H ρ ad rfl ?_ .refl⟩
   rw [e]; exact hh
theorem zlT (T:Txt K mg A F):FnOk P w K mg base (CX1 P w) 1 (F.f 47) (F.fd 47) ["self"] (zty A):=by
 refine T.zoh.okN zlJ (λ vs H Q E h=>?_) (λ cdv A' outer s H vs Q E hr h=>?_)
 . obtain ⟨ρ,ad,s,kv,rfl,_⟩:=h
   rfl
 . obtain ⟨ρ,ad,s,kv,rfl,hh,q⟩:=h
   obtain ⟨dx,hp⟩:=hh.hall
   obtain ⟨us,hus,tus⟩:=hh.rows
   refine ⟨_,(zag (zaw (zbv zcK (by rfl) T.zhC boot_tuple (zaa (zal (pv 0) rfl) zad)))),?_⟩
   exact ⟨_,rfl,_,_,dx,_,_,rfl,hp,T.zaj,T.zbZ,rfl,ad .rows,_,rfl,.inl ⟨SqL.of hus,λ n nn=>q _ n us nn (Same.zaq nn) zab (zbk (Same.zaq nn) tus)⟩⟩
theorem zcA (T:Txt K mg A F):FnOk P w K mg base (CX1 P w) 3 (F.f 45) (F.fd 45) ["self","deed"] (zoA A):=by
 have G_Hall_record_of:=@zbJ P w K mg base A F T
 refine T.zid.okX zgL (λ vs H Q E h=>?_) (λ cdv A' outer s H vs Q E hr h=>?_)
 . obtain ⟨ρ,ad,s,kv,i,rfl,_⟩:=h
   rfl
 . obtain ⟨ρ,ad,s,kv,i,rfl,hh,hn,q⟩:=h
   obtain ⟨dx,hp⟩:=hh.hall
   refine ⟨_,(zag (zaw (zal (zax (pv 0) T.zaj T.zbT G_Hall_record_of (hmr hr) T.zbU .nil zbE (zaa (pv 1) zad)) rfl))),?_⟩
   refine ⟨_,rfl,_,dx,_,rfl,hp,rfl,_,rfl,ρ,ad,s,kv,i,rfl,hh,hn,?_⟩
   rcases q with ⟨d,rfl,hd,q⟩ | q
   rotate_left
   . exact .inr q
   obtain ⟨dr,w0,hrc,_⟩:=hh.rcd hd
   exact .inl ⟨d,rfl,hd,_,_,dr,_,_,rfl,hrc,T.zat,T.zay,rfl,q⟩
theorem zeT (T:Txt K mg A F):FnOk P w K mg base (CX1 P w) 1 (F.f 44) (F.fd 44) ["self","key"] (zrs A):=by
 refine T.zj8.okN zii (λ vs H Q E h=>?_) (λ cdv A' outer s H vs Q E hr h=>?_)
 . obtain ⟨ρ,ad,s,kv,k,rfl,_⟩:=h
   rfl
 . obtain ⟨ρ,ad,s,kv,k,rfl,hh,h0,q⟩:=h
   have hu:=zdL hr
   obtain ⟨dx,hp⟩:=hh.hall
   refine ⟨_,(zac (zbq (zel (zep hu (pv 1) (zal (pv 0) rfl))) (zag (zaw (zbD zad))) zaH)
     (zag (zaw (zbv zcK (by rfl) T.zhC boot_tuple (zaa (zal (zdh hu (zal (pv 0) rfl) (pv 1) (λ _ _=>rfl)) rfl) zad))))),?_⟩
   have dg:=DGet.k (k:=Sum.inr k) hh.zbG
   rw [zcY] at dg
   refine ⟨_,rfl,_,rfl,_,_,dx,_,_,rfl,hp,T.zaj,T.zaU,rfl,_,_,rfl,dg,_,rfl,?_⟩
   by_cases hk:k∈s.seen
   . refine zaS (by rw [if_pos hk]; rfl) ?_
     have D:=hh.desk hk
     obtain ⟨dd,hdk⟩:=D.ob
     obtain ⟨us,hus,tus⟩:=D.rw
     exact ⟨_,rfl,_,_,dx,_,_,rfl,hp,T.zaj,T.zaU,rfl,_,rfl,_,_,rfl,hh.zdN hk,_,_,dd,_,_,rfl,hdk,T.zaN,T.zaX,rfl,ad (.row k),_,rfl,.inl ⟨SqL.of hus,λ n nn=>q _ n us (Same.zaq nn) zab (zbk (Same.zaq nn) tus)⟩⟩
   . refine zbl (by rw [if_neg hk]; rfl) ⟨Nat.zero_le _,λ n nn=>q _ n [] (Same.zaq nn) zab ?_⟩
     rw [h0 hk]; exact .nil
theorem zju (T:Txt K mg A F):FnOk P w K mg base (CX1 P w) 2 (F.f 48) (F.fd 48) ["_law_hall"] (zrv A):=by
 have G_Hall_log:=@zlT P w K mg base A F T
 refine T.zlp.okN zjj (λ vs H Q E h=>?_) (λ cdv A' outer s H vs Q E hr h=>?_)
 . obtain ⟨ρ,ad,s,kv,rfl,_⟩:=h
   rfl
 . obtain ⟨ρ,ad,s,kv,rfl,hh,hl,q⟩:=h
   obtain ⟨dx,hp⟩:=hh.hall
   refine ⟨_,(zag (zaw (za7 zbn (by rfl) T.zjB PySem.boot_len (zaa (zcV 1 [] ["_law_row"] rfl (by walk_at "blk") (ziM (zdI (pv 0) T.zaj T.znT G_Hall_log (hmr hr) T.zoc .nil zaF)) (λ C fp s H=>(zaE (i:=0) (show (["_law_row"]:List Str).Nodup by decide +kernel) rfl (by walk_at "loc"))) (λ C fp s H=>zff (zaz zcg (zbe (zpm (K:=K) rfl) (pv 0) zam (λ _ _=>rfl)) zaJ (zaI _))) (λ C fp s H=>(pv 0))) zad)))),?_⟩
   refine ⟨_,rfl,_,dx,_,rfl,hp,rfl,ρ,ad,s,kv,rfl,hh,λ H1 qt us nq m1 e1 t1=>⟨qt,rfl,⟨_,SqT.of e1⟩,?_⟩⟩
   have hul:us.length=s.log.length:=by rw [t1.length,List.length_map]
   refine znl (xs:=us) (λ i ys σ H2=>∃ v0,σ=[v0]/\H2=H1/\ys.length=(logB (s.log.take i)).length/\ys.length<=i) ⟨none,rfl,rfl,rfl,Nat.le_refl _⟩ (λ i ys σ H2 ⟨_,_,e,_,hy⟩=>⟨SqT.of (by rw [e]; exact e1),hy⟩) (by rw [hul,sizeLine_eq]; omega) ?_ ?_
   . rintro i x ys σ H2 hlt hx ⟨v0,rfl,rfl,hy,hyi⟩
     obtain ⟨y,hy1,r,rfl,hr1⟩:=zck t1 hx
     rw [List.getElem?_map] at hy1
     obtain ⟨row,hrow,rfl⟩:=Option.map_eq_some_iff.mp hy1
     have ei:s.log.take (i+1)=s.log.take i++[row]:=by rw [List.take_add_one,hrow]; rfl
     obtain ⟨t,et,db⟩:=zqc row
     refine ⟨_,rfl,r,_,_,V.str t,rfl,rfl,SqT.of hr1,zbm (j:=0) (by rw [et]; rfl),rfl,_,rfl,?_⟩
     refine zdU (rowB row) db ?_
     cases hb:rowB row with
     | true =>
      refine iteT ⟨_,rfl,nx hlt ⟨_,rfl,rfl,?_,?_⟩⟩
      . rw [ei,zm6,hb,List.length_append,hy]; rfl
      . rw [List.length_append,List.length_singleton]; omega
     | false =>
      refine iteF (nx hlt ⟨_,rfl,rfl,?_,by omega⟩)
      rw [ei,zm6,hb,hy]; rfl
   . rintro ys σ H2 ⟨v0,rfl,rfl,hy,hyi⟩
     rw [hul,List.take_length] at hy
     intro n hn
     refine ⟨n,_,rfl,.inl (SqL.of zab),?_⟩
     have:=q _ (m1.upd2 (o:=.lst ys) hn)
     rw [<-hy] at this; exact this
theorem zdQ (T:Txt K mg A F):FnOk P w K mg base (CX1 P w) 1 (F.f 43) (F.fd 43) ["self","key"] (znC A):=by
 refine T.ziz.okN zhf (λ vs H Q E h=>?_) (λ cdv A' outer s H vs Q E hr h=>?_)
 . obtain ⟨ρ,ad,s,kv,k,rfl,_⟩:=h
   rfl
 . obtain ⟨ρ,ad,s,kv,k,rfl,hh,h0,hnd,hl,q⟩:=h
   have hu:=zdL hr
   obtain ⟨dx,hp⟩:=hh.hall
   refine ⟨_,(zac (zbq (zel (zep hu (pv 1) (zal (pv 0) rfl))) (zag (zaw (zrI zad))) zaH)
     (zag (zaw (zbv ziv (by rfl) T.zhC boot_tuple (zaa (za7 (zgo rfl) (by rfl) T.zg4 boot_sorted (zaa (zm0 PySem.F.plainAttrs_dict PySem.F.slot_dict_items PySem.F.type_dict_items zqp (zal (zdh hu (zal (pv 0) rfl) (pv 1) (λ _ _=>rfl)) rfl)) zad)) zad))))),?_⟩
   have dg:=DGet.k (k:=Sum.inr k) hh.zbG
   rw [zcY] at dg
   refine ⟨_,rfl,_,rfl,_,_,dx,_,_,rfl,hp,T.zaj,T.zaU,rfl,_,_,rfl,dg,_,rfl,?_⟩
   by_cases hk:k∈s.seen
   . refine zaS (by rw [if_pos hk]; rfl) ?_
     have D:=hh.desk hk
     obtain ⟨dd,hdk⟩:=D.ob
     refine ⟨_,rfl,_,_,dx,_,_,rfl,hp,T.zaj,T.zaU,rfl,_,rfl,_,_,rfl,hh.zdN hk,_,_,dd,_,_,rfl,hdk,T.zaN,T.zbg,rfl,.inr (.inr (.inl ⟨rfl,.inl ⟨_,D.hd⟩⟩)),ad (.held k),_,rfl,rfl,D.hd,λ v nv=>?_⟩
     refine ⟨v,ad (.held k),_,rfl,zab,zao D.hd nv,?_,by rw [zcp]; exact hl,λ ys lq as H' pm so m' nl e' pr=>?_⟩
     . refine .inl λ k hk=>?_
       obtain ⟨p,hp,rfl⟩:=List.mem_map.mp hk
       unfold zaG at hp
       obtain ⟨r,_,rfl⟩:=List.mem_map.mp hp
       exact ⟨_,rfl⟩
     obtain ⟨L,rfl,pL,sL⟩:=zlC pm so
     refine ⟨lq,_,rfl,SqL.of e',λ r o nr od=>q _ r o _ L (((Same.zaq nv).trans m').upd2 nr) zab od pL sL (pairs_at (Same.zaq nr) pr)⟩
   . refine zbl (by rw [if_neg hk]; rfl) ⟨Nat.zero_le _,λ n o nn od=>q _ n o [] [] (Same.zaq nn) zab od (by rw [h0 hk]) .nil .nil⟩
theorem zf9 (T:Txt K mg A F):FnOk P w K mg base (CX1 P w) 4 (F.f 46) (F.fd 46) ["_law_hall","_law_key_here"] (znB A):=by
 have G_Hall_holders:=@zdQ P w K mg base A F T
 have G_Hall_row_of:=@zeT P w K mg base A F T
 have G_Hall_state_of:=@zcA P w K mg base A F T
 refine T.zgU.okN zaR (λ vs H Q E h=>?_) (λ cdv A' outer s H vs Q E hr h=>?_)
 . obtain ⟨ρ,ad,s,kv,k,T0,rfl,_⟩:=h
   rfl
 . obtain ⟨ρ,ad,s,kv,k,T0,rfl,hh,c,hd,L0,q⟩:=h
   have hu:=zdL hr
   obtain ⟨dx,hp⟩:=hh.hall
   have sm:=L0.sm c
   have hn:=L0.n
   have hhl:(s.held k).length < 64:=by
     have:=zcF s.n _ (c.hNd k) λ d hd=>by
       obtain ⟨p,hp,rfl⟩:=List.mem_map.mp hd
       exact c.lt (c.hAct k p hp)
     rw [List.length_map] at this
     omega
   refine ⟨_,(zac (zaL (i:=2) zaR.nd rfl (by walk_at "loc") (zbv (zi7 rfl) (by rfl) T.zqZ zrc (zaa (zax (pv 0) T.zaj T.zeU G_Hall_holders (hmr hr) T.zeW .nil zaF (zaa (pv 1) zad)) zad)))
     (zac (zbq (PW.pt (ziJ (zaz (zo2 rfl) zaJ (zm0 PySem.F.plainAttrs_dict PySem.F.slot_dict_values PySem.F.type_dict_values zo8 (pv 2)) (by with_unfolding_all rfl)) (zf8 (zaz zqn (za7 zpQ (by rfl) T.zjB PySem.boot_len (zaa (pv 2) zad)) zam (zaI _))))) (zag (zaw zhr)) zaH)
     (zac (zaL (i:=3) zaR.nd rfl (by walk_at "loc") (zax (pv 0) T.zaj T.zfH G_Hall_row_of (hmr hr) T.zfS .nil zaF (zaa (pv 1) zad)))
     (zac (zbq (zmX (pv 3) (λ _=>rfl)) (zac (zsN (zbe zb0 (pv 3) zam (λ _ _=>rfl)) (ziN (n:=2) rfl (za1 (zaE (i:=4) zaR.nd rfl (by walk_at "loc")) (za1 (zaE (i:=5) zaR.nd rfl (by walk_at "loc")) zen))))
     (zac (zoR (zeD (i:=6) 1 [2,4] ["_law_one","_law_held","_law_deed"] zaR.nd rfl (by walk_at "loc") rfl (by walk_at "blk") (zlM (pv 2)) (λ C fp s H=>(zaE (i:=0) (show (["_law_one","_law_held","_law_deed"]:List Str).Nodup by decide +kernel) rfl (by walk_at "loc"))) (λ C fp s H=>zff (zaz zlO (pv 0) (pv 2) (zaI _))) (λ C fp s H=>(zdh hu (pv 1) (pv 0) (λ _ _=>rfl)))))
     (zag (zbq (PW.pt (zoQ (zmY (zmX (pv 6) (λ _=>rfl))) (zmV (PW.pt (ziJ (zaz zcg (pv 5) zaJ (zaI _)) (zf8 (zaz zgB zaJ (pv 6) (by with_unfolding_all rfl)))))))) (zag (zaw zhr)) zaH)))) zaH)
     (zac (zeS PassesOwn.never rfl (ziM (pv 3)) (ziN (n:=2) rfl (za1 (zaE (i:=4) zaR.nd rfl (by walk_at "loc")) (za1 (zaE (i:=5) zaR.nd rfl (by walk_at "loc")) zen))) (zag (zbq (PW.pt (zoQ (zaz zlO (zax (pv 0) T.zaj T.zb5 G_Hall_state_of (hmr hr) T.zb8 .nil zaF (zaa (pv 4) zad)) zaJ (zaI _)) (zmV (zaz zkF (zjt hu (pv 2) (pv 4) ⟨rfl,rfl,rfl,rfl⟩) (zbD (zaa (pv 5) (zaa zaJ zad))) (by with_unfolding_all rfl))))) (zag (zaw zhr)) zaH)))
     (zag (zaw (za7 (zjV rfl) (by rfl) T.zrS boot_all (zaa (zrJ (zcV 1 [0] ["_law_deed","_law_hall"] rfl (by walk_at "blk") (zlM (pv 2)) (λ C fp s H=>(zaE (i:=0) (show (["_law_deed","_law_hall"]:List Str).Nodup by decide +kernel) rfl (by walk_at "loc"))) (λ C fp s H=>zek) (λ C fp s H=>(zdi (znP (K:=K) rfl) (zax (pv 1) T.zaj T.zb5 G_Hall_state_of (hmr hr) T.zb8 .nil zaF (zaa (pv 0) zad)) (zcU (zaa zaJ (zaa zaJ zad))) (by with_unfolding_all rfl))))) zad))))))))),?_⟩
   refine ⟨_,rfl,_,dx,_,rfl,hp,rfl,_,rfl,ρ,ad,s,kv,k,rfl,hh,λ hk=>(c.zdB k hk).1,c.hNd k,hhl,λ H1 qh o us L m1 e1 od pL sL pr=>?_⟩
   have nL:(L.map (·.1)).Nodup:=(pL.map _).nodup_iff.mpr (c.hNd k)
   refine ⟨qh,o,us,zaG L,rfl,e1,od,pr,zfL nL,λ nd hnd=>?_⟩
   have m2:Same H (upd H1 nd (.dK (zaG L))):=m1.upd2 hnd
   have e2:upd H1 nd (.dK (zaG L)) nd=some (.dK (zaG L)):=zab
   have H1n:H nd=none:=m1.free hnd
   generalize upd H1 nd (.dK (zaG L))=H2 at *
   have all2:∀ p∈zaG L,∃ y,p.2=V.str y:=λ p hp=>by
     unfold zaG at hp
     obtain ⟨r,_,rfl⟩:=List.mem_map.mp hp
     exact ⟨_,rfl⟩
   have lL:L.length=(s.held k).length:=pL.length_eq
   dsimp only [zn5]
   show tSeq (tIfS _ _ _) _ _ _ H2
   refine zoJ (λ σ' H'=>σ'=[some (.ref (ad .hall)),some (.str k),some (.ref nd),none,none,none,none]/\Same H H'/\H' nd=some (.dK (zaG L))) ?_ λ W1 hV=>?_
   rotate_left
   . refine ⟨_,rfl,.inr (.inr (.inl ⟨rfl,.inl ⟨_,e2⟩⟩)),nd,_,rfl,rfl,e2,λ v nv=>⟨_,v,nd,_,rfl,rfl,zab,zao e2 nv,all2,_,rfl,?_⟩⟩
     have m3:=m2.upd2 (o:=.ext (VlV v nd)) nv
     have e3:=zao (o:=.ext (VlV v nd)) e2 nv
     by_cases hw:∃ d,(d,true)∈L
     . obtain ⟨d,hw⟩:=hw
       have h1:=zqC c pL hw
       refine zbl ?_ ?_
       . refine List.any_eq_true.mpr ⟨(Sum.inl (d:Int),V.str (useS true)),?_,decide_eq_true rfl⟩
         unfold zaG
         exact List.mem_map.mpr ⟨_,hw,rfl⟩
       . refine ⟨_,rfl,nd,_,rfl,e3,_,_,rfl,rfl,_,rfl,zaS ?_ (hV _ _ ⟨rfl,m3,e3⟩)⟩
         have:(zaG L).length=L.length:=zcp _
         exact decide_eq_false (by rw [this]; omega)
     . refine zaS ?_ (hV _ _ ⟨rfl,m3,e3⟩)
       rw [List.any_eq_false]
       intro p hp z
       unfold zaG at hp
       obtain ⟨r,hr1,rfl⟩:=List.mem_map.mp hp
       have z:=of_decide_eq_true z
       have:r.2=true:=ztl.mp (V.str.inj z)
       exact hw ⟨r.1,by rw [<-this]; exact hr1⟩
   . rintro σ' H3 ⟨rfl,m3,e3⟩
     refine ⟨_,rfl,_,dx,_,rfl,m3 _ _ hp,rfl,_,rfl,ρ,ad,s,kv,k,rfl,hh.grow m3,λ hk=>(c.zdB k hk).2,λ H4 qr usr m4 er tr=>?_⟩
     have m34:=m3.trans m4
     have e4:=m4 _ _ e3
     dsimp only [zn5]
     show tSeq (tIfS _ _ _) _ _ _ H4
     refine zoJ (λ σ' H'=>∃ v4 v5 v6,σ'=[some (.ref (ad .hall)),some (.str k),some (.ref nd),some (.ref qr),v4,v5,v6]/\Same H H'/\H' nd=some (.dK (zaG L))/\H' qr=some (.tup usr)/\zau H' usr ((s.rows k).map zb2)) ?_ λ W2 hV2=>?_
     rotate_left
     . refine ⟨_,rfl,_,.inr (.inl ⟨_,SqT.of er,rfl⟩),?_⟩
       cases hrw:s.rows k with
       | nil =>
         have hu0:usr=[]:=by rw [hrw] at tr; cases tr; rfl
         subst hu0
         exact zaS rfl (hV2 _ _ ⟨_,_,_,rfl,m34,e4,er,by rw [hrw]; exact .nil⟩)
       | cons dw r =>
         obtain ⟨d,w⟩:=dw
         have tr':=tr
         rw [hrw] at tr'
         obtain ⟨u0,ur,rfl⟩:∃ u0 ur,usr=u0::ur:=by cases tr'; exact ⟨_,_,rfl⟩
         obtain ⟨r0,rfl,hr0⟩:TupAt H4 u0 (zb2 (d,w)):=by cases tr'; assumption
         refine zbl rfl ?_
         refine ⟨_,rfl,qr,_,_,V.ref r0,rfl,rfl,SqT.of er,zbm (j:=0) rfl,r0,_,rfl,SqT.of hr0,rfl,_,_,rfl,_,_,rfl,rfl,?_⟩
         refine ⟨_,rfl,nd,_,rfl,e4,λ o2=>?_⟩
         have hz:(zaG L).length<=sizeLine:=by rw [zcp,sizeLine_eq]; omega
         have f4:upd H4 nd (.frz o2 (.dK (zaG L))) nd=some (.frz o2 (.dK (zaG L))):=zab
         refine zhZ (λ i ys σ H5=>∃ v0,σ=[v0,some (.ref nd),some (V.int d)]/\H5=upd H4 nd (.frz o2 (.dK (zaG L)))/\ys=((L.take i).filter λ p=>p.1 != d).map λ p=>V.str (useS p.2)) ⟨none,rfl,rfl,rfl⟩ (λ i ys σ H5 ⟨_,_,e,hy⟩=>⟨by rw [e,zab],?_⟩) hz ?_ ?_
         . rw [hy,List.length_map]
           exact Nat.le_trans (List.length_filter_le _ _) (by rw [List.length_take]; omega)
         . rintro i k' v ys σ H5 hlt hk ⟨v0,rfl,rfl,rfl⟩
           unfold zaG at hk
           rw [List.getElem?_map] at hk
           obtain ⟨⟨e,we⟩,he,hke⟩:=Option.map_eq_some_iff.mp hk
           cases hke
           have e1:L.take (i+1)=L.take i++[(e,we)]:=by rw [List.take_add_one,he]; rfl
           refine ⟨_,rfl,_,rfl,rfl,_,rfl,?_⟩
           refine zdU (e != d) (zo6 e d) ?_
           by_cases hed:e=d
           . refine zaS (by simp [hed]) (nx hlt ⟨_,rfl,rfl,?_⟩)
             rw [e1,List.filter_append]; simp [hed]
           . refine zbl (by simp [hed]) ?_
             have dg:DGet (upd H4 nd (.frz o2 (.dK (zaG L)))) nd (.int (e:Int)) (some (V.str (useS we))):=by
               refine .inl ⟨zaG L,Sum.inl (e:Int),.inr ⟨o2,zab⟩,rfl,?_⟩
               rw [zc7,zcB nL (List.mem_of_getElem? he)]; rfl
             refine ⟨_,rfl,_,rfl,nd,_,rfl,dg,nx hlt ⟨_,rfl,rfl,?_⟩⟩
             rw [e1,List.filter_append]
             simp [hed]
         . rintro ys σ H5 ⟨v0,rfl,rfl,rfl⟩
           rw [zcp,List.take_length]
           intro n hn
           have hnh:H4 n=none:=by
             by_cases z:n=nd
             . rw [z,zab] at hn; cases hn
             . rw [zae z] at hn; exact hn
           refine ⟨nd,o2,zaG L,e4,zao zab hn,?_⟩
           rw [zom e4 hnh]
           have m5:=m34.upd2 (o:=.lst ((L.filter λ p=>p.1 != d).map λ p=>V.str (useS p.2))) hnh
           obtain ⟨x,hx,hxd,hxw⟩:=znZ hd pL hrw
           have hxf:x∈L.filter λ p=>p.1 != d:=List.mem_filter.mpr ⟨hx,by simpa using hxd⟩
           have hne:(((L.filter λ p=>p.1 != d).map λ p=>V.str (useS p.2)).isEmpty)=false:=by
             cases hf:(L.filter λ p=>p.1 != d) with
             | nil=>rw [hf] at hxf; cases hxf
             | cons _ _=>rfl
           have fin:=hV2 _ _ ⟨some (V.int d),some (V.str (useS w)),some (.ref n),rfl,m5,zao e4 hnh,zao er hnh,zbk (Same.zaq hnh) tr⟩
           refine ⟨_,rfl,_,.inl ⟨_,SqL.of zab,rfl⟩,?_⟩
           refine zaS (by rw [hne]; rfl) ?_
           cases w with
           | true=>exact ⟨_,rfl,rfl,_,rfl,zaS (decide_eq_false λ z=>absurd (V.str.inj z) (show useS true ≠ "reading" by decide +kernel)) fin⟩
           | false =>
             refine ⟨_,rfl,rfl,_,rfl,zbl (decide_eq_true rfl) ?_⟩
             have hxw:x.2=true:=hxw.resolve_left Bool.false_ne_true
             refine ⟨_,rfl,n,_,rfl,.inl (SqL.of zab),rfl,zpB _,_,rfl,zaS ?_ fin⟩
             have:inV (V.str "writing") ((L.filter λ p=>p.1 != d).map λ p=>V.str (useS p.2))=true:=by
               unfold inV
               exact List.any_eq_true.mpr ⟨V.str (useS x.2),List.mem_map.mpr ⟨x,hxf,rfl⟩,by rw [hxw]; decide +kernel⟩
             rw [this]; rfl
     . rintro σ' H5 ⟨v4,v5,v6,rfl,m5,e5,er5,tr5⟩
       refine ⟨_,rfl,qr,rfl,⟨_,SqT.of er5⟩,?_⟩
       refine zjP (xs:=usr) (λ i σ H6=>∃ v4 v5,σ=[some (.ref (ad .hall)),some (.str k),some (.ref nd),some (.ref qr),v4,v5,v6]/\Same H5 H6) ⟨_,_,rfl,λ _ _ e=>e⟩ (λ i σ H6 _ ⟨_,_,_,e⟩=>SqT.of (e _ _ er5)) ?_ ?_
       . rintro i x σ H6 hx ⟨v4,v5,rfl,m6⟩
         obtain ⟨y,hy1,r,rfl,hr1⟩:=zck (zbk m6 tr5) hx
         rw [List.getElem?_map] at hy1
         obtain ⟨⟨d,w⟩,hdw,rfl⟩:=Option.map_eq_some_iff.mp hy1
         have hmem:=List.mem_of_getElem? hdw
         obtain ⟨hst,_⟩:=c.rAct k _ hmem
         have hst:(s.deed d).st=.waiting:=hst
         have m56:=m5.trans m6
         have hdn:d < s.n:=c.lt (.inr hst)
         refine ⟨r,_,rfl,SqT.of hr1,rfl,_,_,rfl,_,_,rfl,rfl,?_⟩
         refine ⟨_,rfl,_,dx,_,rfl,m56 _ _ hp,rfl,_,rfl,ρ,ad,s,kv,d,rfl,hh.grow m56,by omega,.inl ⟨d,rfl,hdn,rfl,_,rfl,zaS (by rw [hst]; rfl) ?_⟩⟩
         have dg:=DGet.k (k:=Sum.inl (d:Int)) (m6 _ _ e5)
         rw [zc7] at dg
         refine ⟨_,rfl,nd,rfl,.inl ⟨_,.inl (m6 _ _ e5)⟩,_,rfl,_,dg,?_⟩
         refine ⟨_,rfl,sz2,λ n nn=>?_⟩
         refine ⟨n,_,rfl,.inr (SqT.of zab),?_,rfl,_,rfl,zaS ?_ ⟨_,_,rfl,m6.upd2 nn⟩⟩
         . cases look L d <;> rfl
         . cases hlk:look L d with
           | none=>exact (show inV V.non [V.str (useS w),V.str "writing"]=false from rfl)
           | some w' =>
             obtain ⟨h1,h2⟩:=c.zfB k d w w' hmem (pL.mem_iff.mp (zcJ hlk))
             subst h1 h2
             exact (show inV (V.str (useS false)) [V.str (useS true),V.str "writing"]=false by decide +kernel)
       . rintro σ H6 ⟨v4,v5,rfl,m6⟩
         have m56:=m5.trans m6
         have e6:=m6 _ _ e5
         refine ⟨_,rfl,nd,_,rfl,e6,λ o2=>?_⟩
         have hz:(zaG L).length<=sizeLine:=by rw [zcp,sizeLine_eq]; omega
         have mf:Same H (upd H6 nd (.frz o2 (.dK (zaG L)))):=λ b o e=>by rw [zae (zaf e H1n)]; exact m56 b o e
         refine zhZ (λ i ys σ H7=>∃ v0,σ=[v0,some (.ref (ad .hall))]/\Same (upd H6 nd (.frz o2 (.dK (zaG L)))) H7/\ys=(List.replicate i true).map V.bl) ⟨none,rfl,λ _ _ e=>e,rfl⟩ (λ i ys σ H7 ⟨_,_,e,hy⟩=>⟨e _ _ zab,by rw [hy,List.length_map,List.length_replicate]; exact Nat.le_refl _⟩) hz ?_ ?_
         . rintro i k' v ys σ H7 hlt hk ⟨v0,rfl,m7,rfl⟩
           unfold zaG at hk
           rw [List.getElem?_map] at hk
           obtain ⟨⟨e,we⟩,he,hke⟩:=Option.map_eq_some_iff.mp hk
           cases hke
           have hea:=c.hAct k _ (pL.mem_iff.mp (List.mem_of_getElem? he))
           have hea:(s.deed e).act:=hea
           have mf7:=mf.trans m7
           refine ⟨_,rfl,_,dx,_,rfl,mf7 _ _ hp,rfl,_,rfl,ρ,ad,s,kv,e,rfl,hh.grow mf7,by omega,.inl ⟨e,rfl,c.lt hea,?_⟩⟩
           refine ⟨sz2,λ n nn=>⟨n,_,rfl,.inl (SqL.of zab),rfl,rfl,nx hlt ⟨_,rfl,m7.upd2 nn,?_⟩⟩⟩
           have:inV (V.str (stS (s.deed e).st)) [V.str "going",V.str "waiting"]=true:=by rw [zrq]; exact decide_eq_true hea
           rw [this,List.replicate_succ',List.map_append]; rfl
         . rintro ys σ H7 ⟨v0,rfl,m7,rfl⟩
           intro n hn
           have e7:H7 nd=some (.frz o2 (.dK (zaG L))):=m7 _ _ zab
           have nnd:n≠nd:=λ z=>by rw [z,e7] at hn; cases hn
           refine ⟨nd,o2,zaG L,e6,zao e7 hn,?_⟩
           have mz:Same H (upd (upd H7 n (.lst ((List.replicate (zaG L).length true).map V.bl))) nd (.dK (zaG L))):=λ b o e=>by
             rw [zae (zaf e H1n)]
             exact zao ((mf.trans m7) b o e) hn
           refine ⟨n,List.replicate (zaG L).length true,rfl,SqL.of (by rw [zae nnd,zab]),?_⟩
           have:(List.replicate (zaG L).length true).all id=true:=by rw [List.all_eq_true]; intro b hb; rw [List.eq_of_mem_replicate hb]; rfl
           rw [this]
           exact q _ mz
theorem zfD (T:Txt K mg A F):FnOk P w K mg base (CX1 P w) 4 (F.f 50) (F.fd 50) ["_law_hall","_law_deed"] (zlz A):=by
 have G_Hall_holders:=@zdQ P w K mg base A F T
 have G_Hall_done_by:=@zhx P w K mg base A F T
 have G_Hall_state_of:=@zcA P w K mg base A F T
 refine T.zgu.okN zbd (λ vs H Q E h=>?_) (λ cdv A' outer s H vs Q E hr h=>?_)
 . obtain ⟨ρ,ad,s,kv,d,T0,rfl,_⟩:=h
   rfl
 . obtain ⟨ρ,ad,s,kv,d,T0,rfl,hh,c,L0,hdn,q⟩:=h
   have hu:=zdL hr
   obtain ⟨dx,hp⟩:=hh.hall
   have sm:=L0.sm c
   have hn:=L0.n
   have hhl:∀ k,(s.held k).length < 64:=λ k=>by
     have:=zcF s.n _ (c.hNd k) λ d hd=>by
       obtain ⟨p,hp,rfl⟩:=List.mem_map.mp hd
       exact c.lt (c.hAct k p hp)
     rw [List.length_map] at this
     omega
   refine ⟨_,(zac (zbq (zaz zgB (zax (pv 0) T.zaj T.zb5 G_Hall_state_of (hmr hr) T.zb8 .nil zaF (zaa (pv 1) zad)) (zcU (zaa zaJ (zaa zaJ zad))) (by with_unfolding_all rfl)) (zag (zaw zhr)) zaH)
     (zac (zeS PassesOwn.never rfl (ziM (zax (pv 0) T.zaj T.zir G_Hall_done_by (hmr hr) T.zix .nil zaF (zaa (pv 1) zad))) (ziN (n:=3) rfl (za1 (zaE (i:=2) zbd.nd rfl (by walk_at "loc")) (za1 (zaE (i:=3) zbd.nd rfl (by walk_at "loc")) (za1 (zaE (i:=4) zbd.nd rfl (by walk_at "loc")) zen)))) (zac (zaL (i:=5) zbd.nd rfl (by walk_at "loc") (zjt hu (zbv (zi7 rfl) (by rfl) T.zqZ zrc (zaa (zax (pv 0) T.zaj T.zeU G_Hall_holders (hmr hr) T.zeW .nil zaF (zaa (pv 3) zad)) zad)) (pv 1) ⟨rfl,rfl,rfl,rfl⟩))
     (zag (zbq (PW.pt (zoQ (zel (zqU (pv 5))) (zmV (PW.pt (ziJ (zaz zcg (pv 2) zaJ (zaI _)) (zf8 (zaz zlO (pv 5) zaJ (zaI _)))))))) (zag (zaw zhr)) zaH))))
     (zag (zaw zhr)))),?_⟩
   refine ⟨_,rfl,_,dx,_,rfl,hp,rfl,_,rfl,ρ,ad,s,kv,d,rfl,hh,by omega,.inl ⟨d,rfl,hdn,?_⟩⟩
   refine ⟨sz2,λ n nn=>⟨n,_,rfl,.inl (SqL.of zab),rfl,rfl,_,rfl,?_⟩⟩
   have m1:Same H (upd H n (.lst [V.str "going",V.str "waiting"])):=Same.zaq nn
   by_cases ha:(s.deed d).act
   rotate_left
   . have:inV (V.str (stS (s.deed d).st)) [V.str "going",V.str "waiting"]=false:=by rw [zrq]; exact decide_eq_false ha
     exact zbl (by rw [this]; rfl) (q _ m1)
   . have:inV (V.str (stS (s.deed d).st)) [V.str "going",V.str "waiting"]=true:=by rw [zrq]; exact decide_eq_true ha
     refine zaS (by rw [this]; rfl) ?_
     refine ⟨_,rfl,_,dx,_,rfl,m1 _ _ hp,rfl,_,rfl,ρ,ad,s,kv,d,rfl,hh.grow m1,by omega,sm.dn,.inl ⟨d,rfl,hdn,λ H2 qt us m2 e2 t2=>⟨qt,rfl,⟨_,SqT.of e2⟩,?_⟩⟩⟩
     have m12:=m1.trans m2
     refine zjP (xs:=us) (λ i σ G=>∃ v2 v3 v4 v5,σ=[some (.ref (ad .hall)),some (.int d),v2,v3,v4,v5]/\Same H2 G) ⟨_,_,_,_,rfl,λ _ _ e=>e⟩ (λ i σ G _ ⟨_,_,_,_,_,e⟩=>SqT.of (e _ _ e2)) ?_ ?_
     . rintro i x σ G hx ⟨v2,v3,v4,v5,rfl,mG⟩
       obtain ⟨y,hy1,r,rfl,hr1⟩:=zck (zbk mG t2) hx
       rw [List.getElem?_map] at hy1
       obtain ⟨b,hb,rfl⟩:=Option.map_eq_some_iff.mp hy1
       obtain ⟨wh,hhd,hwh⟩:=c.zfq d ha b (List.mem_of_getElem? hb)
       have mG2:=m12.trans mG
       obtain ⟨vl,hav⟩:∃ vl,actV b=[V.str (if b.wr then "write" else "read"),V.str b.key,vl]:=by
        unfold actV
        cases b.wr <;> exact ⟨_,rfl⟩
       rw [hav] at hr1
       refine ⟨r,_,rfl,SqT.of hr1,rfl,_,_,rfl,_,_,rfl,_,_,rfl,rfl,?_⟩
       refine ⟨_,rfl,_,dx,_,rfl,mG2 _ _ hp,rfl,_,rfl,ρ,ad,s,kv,b.key,rfl,hh.grow mG2,λ hk=>(c.zdB _ hk).1,c.hNd _,hhl _,λ H3 qh o us3 L m3 e3 od pL sL pr=>?_⟩
       have nL:(L.map (·.1)).Nodup:=(pL.map _).nodup_iff.mpr (c.hNd _)
       refine ⟨qh,o,us3,zaG L,rfl,e3,od,pr,zfL nL,λ nd hnd=>?_⟩
       have m4:=(mG.trans m3).upd2 (o:=.dK (zaG L)) hnd
       have dg:=DGet.k (k:=Sum.inl (d:Int)) (zab (H:=H3) (a:=nd) (o:=.dK (zaG L)))
       rw [zc7,zcB nL (pL.mem_iff.mpr hhd)] at dg
       refine ⟨nd,rfl,.inl ⟨_,.inl zab⟩,_,rfl,_,dg,?_⟩
       refine ⟨_,rfl,_,rfl,zaS rfl ?_⟩
       cases hbw:b.wr with
       | true =>
        have hwt:=hwh hbw
        subst hwt
        exact ⟨_,rfl,rfl,_,rfl,zbl (decide_eq_true rfl) ⟨_,rfl,rfl,_,rfl,zaS (by decide +kernel) ⟨_,_,_,_,rfl,m4⟩⟩⟩
       | false=>exact ⟨_,rfl,rfl,_,rfl,zaS (by decide +kernel) ⟨_,_,_,_,rfl,m4⟩⟩
     . rintro σ G ⟨v2,v3,v4,v5,rfl,mG⟩
       exact q _ (m12.trans mG)
theorem zsX (T:Txt K mg A F):FnOk P w K mg base (CX1 P w) 12 (F.f 51) (F.fd 51) ["_law_script"] (zsx K):=by
 have G_Hall_init:=@zkN P w K mg base A F T
 have G__law_acts:=@zkI P w K mg base A F T
 have G__law_do:=@znQ P w K mg base A F T
 have G__law_count:=@zju P w K mg base A F T
 have G__law_key:=@zhu P w K mg base A F T
 have G_Hall_state_of:=@zcA P w K mg base A F T
 have G_Hall_row_of:=@zeT P w K mg base A F T
 have G__law_key_right:=@zf9 P w K mg base A F T
 have G__law_deed_right:=@zfD P w K mg base A F T
 refine T.ztV.okN zgy (λ vs H Q E h=>?_) (λ cdv A' outer s H vs Q E hr h=>?_)
 . obtain ⟨a,ns,rfl,_⟩:=h
   rfl
 . obtain ⟨a,ns,rfl,hS,q⟩:=h
   have hu64:=hu64 hr
   refine ⟨_,(zac (zaL (i:=1) zgy.nd rfl (by walk_at "loc") (zjs T.zrT G_Hall_init (hmr hr) rfl T.zs7 T.zmr .nil zaF))
     (zac (zeS PassesOwn.never rfl (zcS (zaT G__law_acts (hmr hr) rfl T.zmb T.zl6 T.zmm .nil zaF (zaa (pv 0) zad))) (zaE (i:=2) zgy.nd rfl (by walk_at "loc")) (zac (zaM (zaT G__law_do (hmr hr) rfl T.zpw T.zpj T.zpV .nil zaF (zaa (pv 1) (zaa (pv 2) zad))))
     (zac (zeD (i:=3) 1 [0] ["_law_k","_law_script"] zgy.nd rfl (by walk_at "loc") rfl (by walk_at "blk") (zem rfl T.zhD (zaa zam zad)) (λ C fp s H=>(zaE (i:=0) (show (["_law_k","_law_script"]:List Str).Nodup by decide +kernel) rfl (by walk_at "loc"))) (λ C fp s H=>zek) (λ C fp s H=>(zaT G__law_key (hmr hr) rfl T.zeK T.zeG T.zeM .nil zaF (zaa (pv 1) (zaa (pv 0) zad)))))
     (zac (zbq (zmY (ziK (za7 (zjV rfl) (by rfl) T.zrS boot_all (zaa (zcV 1 [1] ["_law_key_here","_law_hall"] rfl (by walk_at "blk") (zcS (pv 3)) (λ C fp s H=>(zaE (i:=0) (show (["_law_key_here","_law_hall"]:List Str).Nodup by decide +kernel) rfl (by walk_at "loc"))) (λ C fp s H=>zek) (λ C fp s H=>(zaT G__law_key_right (hmr hr) rfl T.zgO T.zgN T.zgR .nil zaF (zaa (pv 1) (zaa (pv 0) zad))))) zad)))) (zag (zaw zhr)) zaH)
     (zac (zaL (i:=4) zgy.nd rfl (by walk_at "loc") (zcU zad))
     (zac (zeS PassesOwn.never rfl (zcS (pv 3)) (zaE (i:=5) zgy.nd rfl (by walk_at "loc")) (zag (zaL (i:=4) zgy.nd rfl (by walk_at "loc") (zcT zsW (pv 4) (zcV 2 [] ["_law_deed","_law_way"] rfl (by walk_at "blk") (ziM (zax (pv 1) T.zaj T.zfH G_Hall_row_of (hmr hr) T.zfS .nil zaF (zaa (pv 5) zad))) (λ C fp s H=>(zlN (K:=K) (n:=2) rfl rfl (za1 (zaE (i:=0) (show (["_law_deed","_law_way"]:List Str).Nodup by decide +kernel) rfl (by walk_at "loc")) (za1 (zaE (i:=1) (show (["_law_deed","_law_way"]:List Str).Nodup by decide +kernel) rfl (by walk_at "loc")) zen)))) (λ C fp s H=>zek) (λ C fp s H=>(pv 0)))))))
     (zac (zaL (i:=6) zgy.nd rfl (by walk_at "loc") (zaT G__law_count (hmr hr) rfl T.zk7 T.zk4 T.zlk .nil zaF (zaa (pv 1) zad)))
     (zac (zbq (zaz (zsV hu64) (za7 (zdY rfl) (by rfl) T.zg4 boot_sorted (zaa (pv 4) zad)) (zcV 1 [1] ["_law_deed","_law_hall"] rfl (by walk_at "blk") (zem rfl T.zhD (zaa (pv 6) zad)) (λ C fp s H=>(zaE (i:=0) (show (["_law_deed","_law_hall"]:List Str).Nodup by decide +kernel) rfl (by walk_at "loc"))) (λ C fp s H=>zff (zaz zcg (zax (pv 1) T.zaj T.zb5 G_Hall_state_of (hmr hr) T.zb8 .nil zaF (zaa (pv 0) zad)) zaJ (zaI _))) (λ C fp s H=>(pv 0))) (zaI _)) (zag (zaw zhr)) zaH)
     (zag (zbq (zmY (ziK (za7 (zjV rfl) (by rfl) T.zrS boot_all (zaa (zcV 1 [1] ["_law_deed","_law_hall"] rfl (by walk_at "blk") (zem rfl T.zhD (zaa (pv 6) zad)) (λ C fp s H=>(zaE (i:=0) (show (["_law_deed","_law_hall"]:List Str).Nodup by decide +kernel) rfl (by walk_at "loc"))) (λ C fp s H=>zek) (λ C fp s H=>(zaT G__law_deed_right (hmr hr) rfl T.zgk T.zgh T.zgp .nil zaF (zaa (pv 1) (zaa (pv 0) zad))))) zad)))) (zag (zaw zhr)) zaH))))))))))
     (zag (zaw zhr)))),?_⟩
   intro x dx nxx ndx nex
   refine ⟨x,dx,rfl,zab,λ H1 ρ ad ea hh kp=>⟨rfl,?_⟩⟩
   have s0:Same H (upd (upd H dx (.own x)) x (.ins A.zaZ dx [])):=(Same.zaq ndx).upd2 (by rw [zae nex.symm]; exact nxx)
   have s1:Same H H1:=λ b o e=>(kp b o (s0 b o e) (zaf e nxx)).1
   have hh:zai A ρ ad TH.empty (zav (TH.empty:HS Str)) H1:=hh
   have ap:Apart K ρ H1 a (ns.map V.int):=by
     rcases Apart.of (ρ:=λ _=>Role.other) hS (λ _ _=>rfl) with ⟨o,e,_,k⟩ | k
     . exact .inl ⟨o,s1 _ _ e,(kp a o (s0 a o e) (zaf e nxx)).2,k⟩
     . exact .inr k
   refine ⟨_,rfl,a,ns,rfl,s1.seq hS,λ H2 qa us As nq m2 hq tu fu vd hl=>⟨qa,rfl,⟨_,SqL.of hq⟩,?_⟩⟩
   have hul:us.length=As.length:=by rw [tu.length,List.length_map]
   refine zeL (xs:=us) (λ i σ H3=>∃ s ρ' ad' v2 v3 v4 v5 v6,σ=[some (.ref a),some (.ref x),v2,v3,v4,v5,v6]/\ad' Role.hall=x/\zai A ρ' ad' s (zav s) H3/\Run ns s i/\zaW s/\s.n=zdz (As.take i)/\H3 qa=some (.lst us)/\ρ' qa=.other/\(∀ p,V.ref p∈us->ρ' p=.other)/\zau H3 us (As.map actD)/\Apart K ρ' H3 a (ns.map V.int)) ⟨TH.empty,ρ,ad,none,none,none,none,none,rfl,ea,hh.grow m2,⟨Ready.empty,λ k h=>by cases h⟩,All.empty.l,rfl,hq,hh.fr _ nq,λ p h=>hh.fr _ (fu p h),tu,ap.frame (Frame.grow m2)⟩ (λ i σ H3 _ ⟨_,_,_,_,_,_,_,_,_,_,_,_,_,_,e,_⟩=>SqL.of e) ?_ ?_
   . rintro i y σ H3 hy ⟨s,ρ3,ad3,v2,v3,v4,v5,v6,rfl,ea3,h3,R3,l3,n3,hq3,ro3,rp3,t3,ap3⟩
     have hi:i < us.length:=(List.getElem?_eq_some_iff.mp hy).1
     obtain ⟨z,hz,kq,rfl,hkq⟩:=zck t3 hy
     rw [List.getElem?_map] at hz
     obtain ⟨act,hact,rfl⟩:=Option.map_eq_some_iff.mp hz
     have ok3:=vd i act hact
     rw [<-n3] at ok3
     have hn3:s.n < 63:=by
       have:=zpT (As.take i)
       rw [List.length_take] at this
       omega
     have e5:As.take (i+1)=As.take i++[act]:=by rw [List.take_add_one,hact]; rfl
     obtain ⟨R4,n4⟩:=R3.step (by omega) hn3 ok3
     have l4:=zqs R3 l3 act
     subst ea3
     refine ⟨_,rfl,_,rfl,ρ3,ad3,s,kq,act,i,ns,rfl,h3,R3,by omega,hn3,ok3,hkq,λ v H4 ρ4 ad4 ea4 h4 f4=>?_⟩
     have n4':(zfv s act).n<=63:=R4.r.L.n
     generalize hs':zfv s act=s' at *
     obtain ⟨t4,r4⟩:=zfW f4 rp3 t3
     have hq4:=f4 _ _ hq3 ro3
     have ap4:=ap3.frame f4
     have sm:=R4.r.L.sm R4.r.c
     have c:=R4.r.c
     obtain ⟨dx4,hp4⟩:=h4.hall
     rw [<-ea4]
     refine ⟨4,rfl,by decide,by decide,?_⟩
     refine zdy (n:=4) (λ i ys σ G=>∃ v0,σ=[v0,some (.ref a)]/\Same H4 G/\ys=((List.range i).map (keyF ns)).map V.str) ⟨none,rfl,λ _ _ e=>e,rfl⟩ (λ i ys σ G ⟨_,_,_,hy⟩=>by rw [hy,List.length_map,List.length_map,List.length_range]; exact Nat.le_refl _) (by rw [sizeLine_eq]; decide) ?_ ?_
     . rintro j ys σ G hj ⟨v0,rfl,mG,rfl⟩
       rw [Int.zero_add]
       refine ⟨_,rfl,_,rfl,a,ns,j,rfl,(ap4.frame (Frame.grow (ρ:=ρ4) mG)).sq,hj,λ G2 mG2=>nx hj ⟨_,rfl,mG.trans mG2,?_⟩⟩
       rw [List.range_succ,List.map_append,List.map_append]; rfl
     rintro ys σ G ⟨v0,rfl,mG,rfl⟩
     intro lk hlk
     let ks:List V:=((List.range 4).map (keyF ns)).map V.str
     have kl:ks.length=4:=by show (((List.range 4).map (keyF ns)).map V.str).length=4; rw [List.length_map,List.length_map,List.length_range]
     have kat:∀ {i:Nat} {x:V},ks[i]?=some x->i < 4/\x=V.str (keyF ns i):=λ {i x} hx=>by
       have h4:i < 4:=by have:=(List.getElem?_eq_some_iff.mp hx).1; omega
       refine ⟨h4,?_⟩
       have hx:(((List.range 4).map (keyF ns)).map V.str)[i]?=some x:=hx
       rw [List.getElem?_map,List.getElem?_map,List.getElem?_range h4] at hx
       exact (Option.some.inj hx).symm
     let G1:Hp:=upd G lk (.lst ks)
     have m1:Same H4 G1:=mG.upd2 hlk
     have ek:G1 lk=some (.lst ks):=zab
     refine ⟨_,rfl,lk,rfl,⟨_,SqL.of ek⟩,?_⟩
     refine zex (xs:=ks) (λ i ys σ G2=>∃ v0,σ=[v0,some (.ref (ad4 .hall))]/\Same G1 G2/\ys=(List.replicate i true).map V.bl) ⟨none,rfl,λ _ _ e=>e,rfl⟩ (λ i ys σ G2 ⟨_,_,e,hy⟩=>⟨SqL.of (e _ _ ek),by rw [hy,List.length_map,List.length_replicate]; exact Nat.le_refl _⟩) (by rw [kl,sizeLine_eq]; decide) ?_ ?_
     . rintro j x ys σ G2 hlt hx ⟨v0,rfl,m2,rfl⟩
       obtain ⟨hj,rfl⟩:=kat hx
       refine ⟨_,rfl,_,rfl,ρ4,ad4,s',_,keyF ns j,_,rfl,h4.grow (m1.trans m2),c,R4.r.h,R4.r.L,λ G3 m3=>nx hlt ⟨_,rfl,m2.trans m3,?_⟩⟩
       rw [List.replicate_succ',List.map_append]; rfl
     rintro ys σ G2 ⟨v0,rfl,m2,rfl⟩
     intro n2 hn2
     refine ⟨n2,List.replicate ks.length true,rfl,SqL.of zab,?_⟩
     have allr:∀ m:Nat,(List.replicate m true).all id=true:=λ m=>by rw [List.all_eq_true]; intro b hb; rw [List.eq_of_mem_replicate hb]; rfl
     rw [allr]
     refine ⟨_,rfl,zaS rfl ?_⟩
     have m3:Same G1 (upd G2 n2 (.lst ((List.replicate ks.length true).map V.bl))):=m2.upd2 hn2
     refine ⟨Nat.zero_le _,λ ls nls=>?_⟩
     have m4:=m3.upd2 (o:=.lst []) nls
     refine ⟨_,rfl,lk,rfl,⟨_,SqL.of (m4 _ _ ek)⟩,?_⟩
     refine zeL (xs:=ks) (λ i σ G=>∃ ls v5,σ=[some (.ref a),some (.ref (ad4 .hall)),some (.ref kq),some (.ref lk),some (.ref ls),v5,v6]/\Same G1 G/\G ls=some (.lst (zaD (zdn ns s' i)))) ⟨ls,_,rfl,m4,zab⟩ (λ i σ G _ ⟨_,_,_,e,_⟩=>SqL.of (e _ _ ek)) ?_ ?_
     . rintro j y σ G5 hy ⟨ls,v5,rfl,m5,e5'⟩
       obtain ⟨hj,rfl⟩:=kat hy
       have m15:=m1.trans m5
       refine ⟨_,rfl,_,rfl,_,dx4,_,rfl,m15 _ _ hp4,rfl,_,rfl,ρ4,ad4,s',_,keyF ns j,rfl,h4.grow m15,λ hk=>(c.zdB _ hk).2,λ G6 qr usr m6 er tr=>⟨qr,rfl,⟨_,SqT.of er⟩,?_⟩⟩
       have hur:usr.length=(s'.rows (keyF ns j)).length:=by rw [tr.length,List.length_map]
       have hrl:(s'.rows (keyF ns j)).length<=63:=by
         have:=zcF s'.n _ (c.rNd (keyF ns j)) λ d hd=>by
          obtain ⟨p,hp,rfl⟩:=List.mem_map.mp hd
          exact c.lt (.inr (c.rAct _ p hp).1)
         rw [List.length_map] at this
         omega
       refine znl (xs:=usr) (λ i ys σ G7=>∃ v0 v1,σ=[v0,v1]/\G7=G6/\ys=zaD (((s'.rows (keyF ns j)).take i).map (·.1))) ⟨none,none,rfl,rfl,rfl⟩ (λ i ys σ G7 ⟨_,_,_,e,hy⟩=>⟨SqT.of (by rw [e]; exact er),by rw [hy]; unfold zaD; rw [List.length_map,List.length_map,List.length_take]; omega⟩) (by rw [hur,sizeLine_eq]; omega) ?_ ?_
       . rintro i x ys σ G7 hlt hx ⟨v0,v1,rfl,rfl,rfl⟩
         obtain ⟨y,hy1,r,rfl,hr1⟩:=zck tr hx
         rw [List.getElem?_map] at hy1
         obtain ⟨⟨d,w⟩,hdw,rfl⟩:=Option.map_eq_some_iff.mp hy1
         have ei:(s'.rows (keyF ns j)).take (i+1)=(s'.rows (keyF ns j)).take i++[(d,w)]:=by rw [List.take_add_one,hdw]; rfl
         refine ⟨r,_,rfl,SqT.of hr1,rfl,_,_,rfl,_,_,rfl,rfl,_,rfl,nx hlt ⟨_,_,rfl,rfl,?_⟩⟩
         rw [ei]; unfold zaD; simp
       . rintro ys σ G7 ⟨v0,v1,rfl,rfl,rfl⟩
         rw [hur,List.take_length]
         intro n hn
         have hsl:=zkh R4 (m:=j) (by omega)
         refine ⟨ls,n,_,_,rfl,rfl,zao (m6 _ _ e5') hn,zab,by unfold zaD; rw [List.length_map,List.length_map,List.length_map,sizeLine_eq]; omega,λ l' nl'=>⟨l',_,rfl,((m5.trans m6).upd2 hn).upd2 nl',?_⟩⟩
         rw [zab]
         show some (HO.lst (zaD (zdn ns s' j)++zaD ((s'.rows (keyF ns j)).map (·.1))))=some (.lst (zaD (zdn ns s' (j+1))))
         unfold zaD
         rw [<-List.map_append]; rfl
     rintro σ G5 ⟨ls,v5,rfl,m5,e5'⟩
     rw [kl] at e5'
     have m15:=m1.trans m5
     refine ⟨_,rfl,ρ4,ad4,s',_,rfl,h4.grow m15,sm.lg,λ G6 m6=>?_⟩
     rw [l4.b,List.length_range]
     have m16:=m15.trans m6
     have zi:∀ l:List Nat,(zaD l).length=l.length:=λ l=>by unfold zaD; rw [List.length_map]
     have kint:∀ l:List Nat,(l.map λ (d:Nat)=>(Sum.inl (d:Int):Key)).map kV=zaD l:=λ l=>by unfold zaD; rw [List.map_map]; rfl
     refine ⟨_,rfl,ls,(zdn ns s' 4).map (λ (d:Nat)=>(Sum.inl (d:Int):Key)),rfl,.inl (by rw [kint]; exact SqL.of (m6 _ _ e5')),List.Pairwise.map _ (λ a b h e=>h (by have:=Sum.inl.inj e; omega)) (zjg c (Nat.le_refl _)),.inl (λ k hk=>by obtain ⟨d,_,e⟩:=List.mem_map.mp hk; exact ⟨_,e.symm⟩),by rw [List.length_map]; have:=zkh R4 (m:=4) (Nat.le_refl _); omega,λ yk ly pm so nly=>?_⟩
     have eyk:=zkg R4 pm so
     subst eyk
     rw [kint]
     have m7:=m16.upd2 (o:=.lst (zaD (zjb s' s'.n))) nly
     have okl:∀ l:List Nat,zn9 (.list (l.map λ (n:Nat)=>PySem.W.Dat.int (n:Int))):=λ l=>by
       show PySem.W.kqdOk 8 _=true
       simp [PySem.W.kqdOk]
     have st_wt:∀ x:DS,decide (V.str (stS x)=V.str "waiting")=decide (x=.waiting):=λ x=>by cases x <;> decide +kernel
     refine ⟨_,rfl,_,rfl,by omega,by omega,?_⟩
     refine zdy (n:=s'.n) (λ i ys σ G8=>∃ v0,σ=[v0,some (.ref (ad4 .hall))]/\G8=upd G6 ly (.lst (zaD (zjb s' s'.n)))/\ys=zaD (zjb s' i)) ⟨none,rfl,rfl,rfl⟩ (λ i ys σ G8 ⟨_,_,_,e⟩=>by rw [e,zi]; unfold zjb; exact Nat.le_trans (List.length_filter_le _ _) (by rw [List.length_range]; exact Nat.le_refl _)) (by rw [sizeLine_eq]; omega) ?_ ?_
     . rintro d ys σ G8 hd ⟨v0,rfl,rfl,rfl⟩
       rw [Int.zero_add]
       refine ⟨_,rfl,_,dx4,_,rfl,m7 _ _ hp4,rfl,_,rfl,ρ4,ad4,s',_,d,rfl,h4.grow m7,by omega,.inl ⟨d,rfl,hd,rfl,_,rfl,?_⟩⟩
       refine zdU (decide ((s'.deed d).st=.waiting)) (st_wt _) ?_
       by_cases hw:(s'.deed d).st=.waiting
       . refine zbl (decide_eq_true hw) ⟨_,rfl,nx hd ⟨_,rfl,rfl,?_⟩⟩
         unfold zjb
         rw [List.range_succ,List.filter_append]; unfold zaD; rw [List.map_append]; simp [hw]
       . refine zaS (decide_eq_false hw) (nx hd ⟨_,rfl,rfl,?_⟩)
         unfold zjb
         rw [List.range_succ,List.filter_append]; simp [hw]
     rintro ys σ G8 ⟨v0,rfl,rfl,rfl⟩
     intro nz hnz
     refine ⟨_,_,.lst (zao zab hnz) (zl7 _),.lst zab (zl7 _),okl _,okl _,_,rfl,zaS (by simp) ?_⟩
     have m8:=m7.upd2 (o:=.lst (zaD (zjb s' s'.n))) hnz
     refine ⟨_,rfl,_,rfl,by omega,by omega,?_⟩
     refine zdy (n:=s'.n) (λ i ys σ G9=>∃ v0,σ=[v0,some (.ref (ad4 .hall))]/\Same H4 G9/\ys=(List.replicate i true).map V.bl) ⟨none,rfl,m8,rfl⟩ (λ i ys σ G9 ⟨_,_,_,e⟩=>by rw [e,List.length_map,List.length_replicate]; exact Nat.le_refl _) (by rw [sizeLine_eq]; omega) ?_ ?_
     . rintro d ys σ G9 hd ⟨v0,rfl,m9,rfl⟩
       rw [Int.zero_add]
       refine ⟨_,rfl,_,rfl,ρ4,ad4,s',_,d,_,rfl,h4.grow m9,c,R4.r.L,hd,λ G10 m10=>nx hd ⟨_,rfl,m9.trans m10,?_⟩⟩
       rw [List.replicate_succ',List.map_append]; rfl
     rintro ys σ G9 ⟨v0,rfl,m9,rfl⟩
     intro ny hny
     refine ⟨ny,List.replicate s'.n true,rfl,SqL.of zab,?_⟩
     rw [allr]
     have m10:=m9.upd2 (o:=.lst ((List.replicate s'.n true).map V.bl)) hny
     have fG:Frame ρ4 H4 ρ4 _:=Frame.grow m10
     obtain ⟨t5,r5⟩:=zfW fG r4 t4
     refine ⟨_,rfl,zaS rfl ?_⟩
     exact ⟨s',ρ4,ad4,_,_,_,_,_,rfl,rfl,h4.grow m10,R4,l4,by rw [e5,zfr,n4,n3],m10 _ _ hq4.1,hq4.2,r5,t5,ap4.frame fG⟩
   . rintro σ H3 ⟨s,ρ3,ad3,v2,v3,v4,v5,v6,rfl,_⟩
     exact q H3
end
end TP
end
section
namespace TP
open PySem L2 TH PyProof.Rows
def AA:Ad:=⟨59,97,177,424,204,216⟩
def ff:List Addr:=[232,442,435,447,454,461,77,239,28,337,344,115,120,127,134,148,42,365,155,174,393,386,379,89,407,35,94,160,141,421,414,400,372,358,351,56,246,253,260,84,267,468,475,288,295,274,485,330,480,281,492,497]
def FF (K:PySem.W.Frag):Fs:=⟨λ i=>ff.getD i 0,λ i=>fdOf K (ff.getD i 0)⟩
def exps:List (Option FV):=[fE "__init__" "Hall.__init__" ze9,fE "_law_mix" "_law_mix" zf1,fE "_law_cell" "_law_cell" ze1,fE "_law_key" "_law_key" zf2,fE "_law_act" "_law_act" zf3,fE "_law_acts" "_law_acts" ze3,fE "__init__" "Record.__init__" zdE,fE "begin" "Hall.begin" zeh,fE "is_whole" "is_whole" zf0,fE "record_of" "Hall.record_of" zcw,fE "refuse_unless_going" "Hall.refuse_unless_going" zba,fE "__init__" "Desk.__init__" zfd,fE "hindering" "Desk.hindering" zcz,fE "lets" "Desk.lets" zfc,fE "lets_at_once" "Desk.lets_at_once" zbV,fE "take" "Desk.take" zfb,fE "value_under" "value_under" zdC,fE "carry_out" "Hall.carry_out" zcy,fE "line_up" "Desk.line_up" zdg,fE "next_waited_for" "Desk.next_waited_for" zbA,fE "next_from" "Hall.next_from" zcx,fE "come_to" "Hall.come_to" zdf,fE "greatest_all_round" "Hall.greatest_all_round" zbj,fE "written" "Record.written" zcv,fE "undo" "Hall.undo" ze6,fE "rising_keys" "rising_keys" zdD,fE "touched_keys" "Record.touched_keys" zbC,fE "leave" "Desk.leave" zei,fE "lets_first" "Desk.lets_first" zce,fE "let_on" "Hall.let_on" zdG,fE "end" "Hall.end" zf5,fE "drop" "Hall.drop" zfa,fE "wait" "Hall.wait" ze5,fE "answer" "Hall.answer" zdH,fE "ask" "Hall.ask" zf6,fE "__init__" "Want.__init__" ze4,fE "read" "Hall.read" ze7,fE "write" "Hall.write" zeg,fE "keep" "Hall.keep" ze8,fE "is_at_end" "Record.is_at_end" zb4,fE "give_up" "Hall.give_up" zdd,fE "_law_call" "_law_call" ze2,fE "_law_do" "_law_do" zhk,fE "holders" "Hall.holders" zdc,fE "row_of" "Hall.row_of" zdF,fE "state_of" "Hall.state_of" zcQ,fE "_law_key_right" "_law_key_right" zcu,fE "log" "Hall.log" zf4,fE "_law_count" "_law_count" zef,fE "done_by" "Hall.done_by" zde,fE "_law_deed_right" "_law_deed_right" zcd,fE "law" "law" zoL]
def bs (K:PySem.W.Frag):List Bool:=[PySem.W.plainGet K 59 Str.empty,PySem.W.hasDictIn K 59,PySem.W.plainOver K 59,fi K 59 "__setattr__" == some (some (.builtin "object.__setattr__")),fi K 59 "use" == some none,fi K 59 "key" == some none,fi K 59 "value" == some none,gl K "Want" == some (some (.ref 59)),PySem.W.makesIn K 59,fi K 59 "__init__" == some (some (.ref 56)),PySem.W.keepIn K (.ref 59),PySem.W.plainGet K 97 Str.empty,PySem.W.hasDictIn K 97,PySem.W.plainOver K 97,fi K 97 "__setattr__" == some (some (.builtin "object.__setattr__")),fi K 97 "state" == some none,fi K 97 "did" == some none,fi K 97 "want" == some none,gl K "Record" == some (some (.ref 97)),PySem.W.makesIn K 97,fi K 97 "__init__" == some (some (.ref 77)),PySem.W.keepIn K (.ref 97),PySem.W.plainGet K 177 Str.empty,PySem.W.hasDictIn K 177,PySem.W.plainOver K 177,fi K 177 "__setattr__" == some (some (.builtin "object.__setattr__")),fi K 177 "held" == some none,fi K 177 "row" == some none,gl K "Desk" == some (some (.ref 177)),PySem.W.makesIn K 177,fi K 177 "__init__" == some (some (.ref 115)),PySem.W.keepIn K (.ref 177),PySem.W.plainGet K 424 Str.empty,PySem.W.hasDictIn K 424,PySem.W.plainOver K 424,fi K 424 "__setattr__" == some (some (.builtin "object.__setattr__")),fi K 424 "records" == some none,fi K 424 "desks" == some none,fi K 424 "standing" == some none,fi K 424 "kept_values" == some none,fi K 424 "kept_deeds" == some none,fi K 424 "rows" == some none,gl K "Hall" == some (some (.ref 424)),PySem.W.makesIn K 424,fi K 424 "__init__" == some (some (.ref 232)),PySem.W.keepIn K (.ref 424),gl K "_law_mix" == some (some (.ref 442)),gl K "_law_cell" == some (some (.ref 435)),gl K "_law_key" == some (some (.ref 447)),gl K "_law_act" == some (some (.ref 454)),gl K "_law_acts" == some (some (.ref 461)),fi K 424 "begin" == some (some (.ref 239)),gl K "is_whole" == some (some (.ref 28)),fi K 424 "record_of" == some (some (.ref 337)),fi K 424 "refuse_unless_going" == some (some (.ref 344)),fi K 177 "hindering" == some (some (.ref 120)),fi K 177 "lets" == some (some (.ref 127)),fi K 177 "lets_at_once" == some (some (.ref 134)),fi K 177 "take" == some (some (.ref 148)),gl K "value_under" == some (some (.ref 42)),fi K 424 "carry_out" == some (some (.ref 365)),fi K 177 "line_up" == some (some (.ref 155)),fi K 177 "next_waited_for" == some (some (.ref 174)),fi K 424 "next_from" == some (some (.ref 393)),fi K 424 "come_to" == some (some (.ref 386)),fi K 424 "greatest_all_round" == some (some (.ref 379)),fi K 97 "written" == some (some (.ref 89)),fi K 424 "undo" == some (some (.ref 407)),gl K "rising_keys" == some (some (.ref 35)),fi K 97 "touched_keys" == some (some (.ref 94)),fi K 177 "leave" == some (some (.ref 160)),fi K 177 "lets_first" == some (some (.ref 141)),fi K 424 "let_on" == some (some (.ref 421)),fi K 424 "end" == some (some (.ref 414)),fi K 424 "drop" == some (some (.ref 400)),fi K 424 "wait" == some (some (.ref 372)),fi K 424 "answer" == some (some (.ref 358)),fi K 424 "ask" == some (some (.ref 351)),fi K 424 "read" == some (some (.ref 246)),fi K 424 "write" == some (some (.ref 253)),fi K 424 "keep" == some (some (.ref 260)),fi K 97 "is_at_end" == some (some (.ref 84)),fi K 424 "give_up" == some (some (.ref 267)),gl K "_law_call" == some (some (.ref 468)),gl K "_law_do" == some (some (.ref 475)),fi K 424 "holders" == some (some (.ref 288)),fi K 424 "row_of" == some (some (.ref 295)),fi K 424 "state_of" == some (some (.ref 274)),gl K "_law_key_right" == some (some (.ref 485)),fi K 424 "log" == some (some (.ref 330)),gl K "_law_count" == some (some (.ref 480)),fi K 424 "done_by" == some (some (.ref 281)),gl K "_law_deed_right" == some (some (.ref 492)),gl K "law" == some (some (.ref 497)),gs K "BEGIN" "begin",gi K "FIRST_VALUE" 0,gs K "GIVEN_UP" "given up",gs K "GIVE_UP" "give up",gs K "GOING" "going",gs K "KEEP" "keep",gs K "KEPT" "kept",gs K "READ" "read",gs K "READING" "reading",gs K "WAITING" "waiting",gs K "WRITE" "write",gs K "WRITING" "writing",gl K "NoDeed" == some (some (.ref 204)),PySem.W.excIn K 204 [.type "ValueError",.type "Exception",.type "BaseException",.type "object"] "ValueError.__new__",gl K "NotGoing" == some (some (.ref 216)),PySem.W.excIn K 216 [.type "ValueError",.type "Exception",.type "BaseException",.type "object"] "ValueError.__new__",PySem.W.ktsIn K 216 "BaseException",gl K "all" == some none,gl K "bool" == some none,gl K "dict" == some none,gl K "int" == some none,gl K "isinstance" == some none,gl K "len" == some none,gl K "range" == some none,gl K "set" == some none,gl K "sorted" == some none,gl K "tuple" == some none]
def qq:Program:={ PySem.Challenge.pw_turnhall_k07_who_holds_and_waits with main:={ PySem.Challenge.pw_turnhall_k07_who_holds_and_waits.main with body:=[zoL] } }
def lo:List Str:=(PySem.Challenge.pw_turnhall_k07_who_holds_and_waits.main.scope.names.map (·.1)).filter λ x=>!(x == "law")
def kk (h:Heap):PySem.W.Frag:=Kof (3::List.range' 11 487) h
def OB (K:PySem.W.Frag):Prop:=ff.map (fV K)=exps/\(bs K).all id=true
theorem zsi {K:PySem.W.Frag} {h:Heap} {mg:Str->Option Value} (X:K.In h) (G:h.Ns mainGlobals mg) (o:OB K):Txt K mg AA (FF K):=by
 obtain ⟨h1,h2⟩:=o
 exact ⟨⟨by decide,by decide,by decide,by decide,by decide,by decide⟩,
  ⟨bt h2 0 rfl,bt h2 1 rfl,bt h2 2 rfl,eq_of_beq (bt h2 3 rfl)⟩,
  eq_of_beq (bt h2 4 rfl),
  eq_of_beq (bt h2 5 rfl),
  eq_of_beq (bt h2 6 rfl),
  PySem.W.mg_of X G (eq_of_beq (bt h2 7 rfl)),
  ⟨bt h2 8 rfl,eq_of_beq (bt h2 9 rfl),fu2 h1 35 rfl rfl,bt h2 10 rfl⟩,
  ⟨bt h2 11 rfl,bt h2 12 rfl,bt h2 13 rfl,eq_of_beq (bt h2 14 rfl)⟩,
  eq_of_beq (bt h2 15 rfl),
  eq_of_beq (bt h2 16 rfl),
  eq_of_beq (bt h2 17 rfl),
  PySem.W.mg_of X G (eq_of_beq (bt h2 18 rfl)),
  ⟨bt h2 19 rfl,eq_of_beq (bt h2 20 rfl),fu2 h1 6 rfl rfl,bt h2 21 rfl⟩,
  ⟨bt h2 22 rfl,bt h2 23 rfl,bt h2 24 rfl,eq_of_beq (bt h2 25 rfl)⟩,
  eq_of_beq (bt h2 26 rfl),
  eq_of_beq (bt h2 27 rfl),
  PySem.W.mg_of X G (eq_of_beq (bt h2 28 rfl)),
  ⟨bt h2 29 rfl,eq_of_beq (bt h2 30 rfl),fu2 h1 11 rfl rfl,bt h2 31 rfl⟩,
  ⟨bt h2 32 rfl,bt h2 33 rfl,bt h2 34 rfl,eq_of_beq (bt h2 35 rfl)⟩,
  eq_of_beq (bt h2 36 rfl),
  eq_of_beq (bt h2 37 rfl),
  eq_of_beq (bt h2 38 rfl),
  eq_of_beq (bt h2 39 rfl),
  eq_of_beq (bt h2 40 rfl),
  eq_of_beq (bt h2 41 rfl),
  PySem.W.mg_of X G (eq_of_beq (bt h2 42 rfl)),
  ⟨bt h2 43 rfl,eq_of_beq (bt h2 44 rfl),fu2 h1 0 rfl rfl,bt h2 45 rfl⟩,
  fu h1 0 rfl rfl,
  (fu h1 0 rfl rfl).binds λ _ _ _ _ _ _ us hl=>match us,hl with | [_],_=>rfl,
  fu h1 1 rfl rfl,
  (fu h1 1 rfl rfl).binds λ _ _ _ _ _ _ us hl=>match us,hl with | [_,_,_],_=>rfl,
  PySem.W.mg_of X G (eq_of_beq (bt h2 46 rfl)),
  fu3 h1 1 rfl rfl,
  fu h1 2 rfl rfl,
  (fu h1 2 rfl rfl).binds λ _ _ _ _ _ _ us hl=>match us,hl with | [_,_],_=>rfl,
  PySem.W.mg_of X G (eq_of_beq (bt h2 47 rfl)),
  fu3 h1 2 rfl rfl,
  fu h1 3 rfl rfl,
  (fu h1 3 rfl rfl).binds λ _ _ _ _ _ _ us hl=>match us,hl with | [_,_],_=>rfl,
  PySem.W.mg_of X G (eq_of_beq (bt h2 48 rfl)),
  fu3 h1 3 rfl rfl,
  fu h1 4 rfl rfl,
  (fu h1 4 rfl rfl).binds λ _ _ _ _ _ _ us hl=>match us,hl with | [_,_,_],_=>rfl,
  PySem.W.mg_of X G (eq_of_beq (bt h2 49 rfl)),
  fu3 h1 4 rfl rfl,
  fu h1 5 rfl rfl,
  (fu h1 5 rfl rfl).binds λ _ _ _ _ _ _ us hl=>match us,hl with | [_],_=>rfl,
  PySem.W.mg_of X G (eq_of_beq (bt h2 50 rfl)),
  fu3 h1 5 rfl rfl,
  fu h1 6 rfl rfl,
  (fu h1 6 rfl rfl).binds λ _ _ _ _ _ _ us hl=>match us,hl with | [_],_=>rfl,
  fu h1 7 rfl rfl,
  (fu h1 7 rfl rfl).binds λ _ _ _ _ _ _ us hl=>match us,hl with | [_],_=>rfl,
  ⟨eq_of_beq (bt h2 51 rfl),fu2 h1 7 rfl rfl,fu3 h1 7 rfl rfl⟩,
  fu h1 8 rfl rfl,
  (fu h1 8 rfl rfl).binds λ _ _ _ _ _ _ us hl=>match us,hl with | [_],_=>rfl,
  PySem.W.mg_of X G (eq_of_beq (bt h2 52 rfl)),
  fu3 h1 8 rfl rfl,
  fu h1 9 rfl rfl,
  (fu h1 9 rfl rfl).binds λ _ _ _ _ _ _ us hl=>match us,hl with | [_,_],_=>rfl,
  ⟨eq_of_beq (bt h2 53 rfl),fu2 h1 9 rfl rfl,fu3 h1 9 rfl rfl⟩,
  fu h1 10 rfl rfl,
  (fu h1 10 rfl rfl).binds λ _ _ _ _ _ _ us hl=>match us,hl with | [_,_],_=>rfl,
  ⟨eq_of_beq (bt h2 54 rfl),fu2 h1 10 rfl rfl,fu3 h1 10 rfl rfl⟩,
  fu h1 11 rfl rfl,
  (fu h1 11 rfl rfl).binds λ _ _ _ _ _ _ us hl=>match us,hl with | [_],_=>rfl,
  fu h1 12 rfl rfl,
  (fu h1 12 rfl rfl).binds λ _ _ _ _ _ _ us hl=>match us,hl with | [_,_,_],_=>rfl,
  ⟨eq_of_beq (bt h2 55 rfl),fu2 h1 12 rfl rfl,fu3 h1 12 rfl rfl⟩,
  fu h1 13 rfl rfl,
  (fu h1 13 rfl rfl).binds λ _ _ _ _ _ _ us hl=>match us,hl with | [_,_,_],_=>rfl,
  ⟨eq_of_beq (bt h2 56 rfl),fu2 h1 13 rfl rfl,fu3 h1 13 rfl rfl⟩,
  fu h1 14 rfl rfl,
  (fu h1 14 rfl rfl).binds λ _ _ _ _ _ _ us hl=>match us,hl with | [_,_,_],_=>rfl,
  ⟨eq_of_beq (bt h2 57 rfl),fu2 h1 14 rfl rfl,fu3 h1 14 rfl rfl⟩,
  fu h1 15 rfl rfl,
  (fu h1 15 rfl rfl).binds λ _ _ _ _ _ _ us hl=>match us,hl with | [_,_,_],_=>rfl,
  ⟨eq_of_beq (bt h2 58 rfl),fu2 h1 15 rfl rfl,fu3 h1 15 rfl rfl⟩,
  fu h1 16 rfl rfl,
  (fu h1 16 rfl rfl).binds λ _ _ _ _ _ _ us hl=>match us,hl with | [_,_],_=>rfl,
  PySem.W.mg_of X G (eq_of_beq (bt h2 59 rfl)),
  fu3 h1 16 rfl rfl,
  fu h1 17 rfl rfl,
  (fu h1 17 rfl rfl).binds λ _ _ _ _ _ _ us hl=>match us,hl with | [_,_,_],_=>rfl,
  ⟨eq_of_beq (bt h2 60 rfl),fu2 h1 17 rfl rfl,fu3 h1 17 rfl rfl⟩,
  fu h1 18 rfl rfl,
  (fu h1 18 rfl rfl).binds λ _ _ _ _ _ _ us hl=>match us,hl with | [_,_,_],_=>rfl,
  ⟨eq_of_beq (bt h2 61 rfl),fu2 h1 18 rfl rfl,fu3 h1 18 rfl rfl⟩,
  fu h1 19 rfl rfl,
  (fu h1 19 rfl rfl).binds λ _ _ _ _ _ _ us hl=>match us,hl with | [_,_,_],_=>rfl,
  ⟨eq_of_beq (bt h2 62 rfl),fu2 h1 19 rfl rfl,fu3 h1 19 rfl rfl⟩,
  fu h1 20 rfl rfl,
  (fu h1 20 rfl rfl).binds λ _ _ _ _ _ _ us hl=>match us,hl with | [_,_],_=>rfl,
  ⟨eq_of_beq (bt h2 63 rfl),fu2 h1 20 rfl rfl,fu3 h1 20 rfl rfl⟩,
  fu h1 21 rfl rfl,
  (fu h1 21 rfl rfl).binds λ _ _ _ _ _ _ us hl=>match us,hl with | [_,_],_=>rfl,
  ⟨eq_of_beq (bt h2 64 rfl),fu2 h1 21 rfl rfl,fu3 h1 21 rfl rfl⟩,
  fu h1 22 rfl rfl,
  (fu h1 22 rfl rfl).binds λ _ _ _ _ _ _ us hl=>match us,hl with | [_,_],_=>rfl,
  ⟨eq_of_beq (bt h2 65 rfl),fu2 h1 22 rfl rfl,fu3 h1 22 rfl rfl⟩,
  fu h1 23 rfl rfl,
  (fu h1 23 rfl rfl).binds λ _ _ _ _ _ _ us hl=>match us,hl with | [_],_=>rfl,
  ⟨eq_of_beq (bt h2 66 rfl),fu2 h1 23 rfl rfl,fu3 h1 23 rfl rfl⟩,
  fu h1 24 rfl rfl,
  (fu h1 24 rfl rfl).binds λ _ _ _ _ _ _ us hl=>match us,hl with | [_,_],_=>rfl,
  ⟨eq_of_beq (bt h2 67 rfl),fu2 h1 24 rfl rfl,fu3 h1 24 rfl rfl⟩,
  fu h1 25 rfl rfl,
  (fu h1 25 rfl rfl).binds λ _ _ _ _ _ _ us hl=>match us,hl with | [_],_=>rfl,
  PySem.W.mg_of X G (eq_of_beq (bt h2 68 rfl)),
  fu3 h1 25 rfl rfl,
  fu h1 26 rfl rfl,
  (fu h1 26 rfl rfl).binds λ _ _ _ _ _ _ us hl=>match us,hl with | [_],_=>rfl,
  ⟨eq_of_beq (bt h2 69 rfl),fu2 h1 26 rfl rfl,fu3 h1 26 rfl rfl⟩,
  fu h1 27 rfl rfl,
  (fu h1 27 rfl rfl).binds λ _ _ _ _ _ _ us hl=>match us,hl with | [_,_],_=>rfl,
  ⟨eq_of_beq (bt h2 70 rfl),fu2 h1 27 rfl rfl,fu3 h1 27 rfl rfl⟩,
  fu h1 28 rfl rfl,
  (fu h1 28 rfl rfl).binds λ _ _ _ _ _ _ us hl=>match us,hl with | [_],_=>rfl,
  ⟨eq_of_beq (bt h2 71 rfl),fu2 h1 28 rfl rfl,fu3 h1 28 rfl rfl⟩,
  fu h1 29 rfl rfl,
  (fu h1 29 rfl rfl).binds λ _ _ _ _ _ _ us hl=>match us,hl with | [_,_],_=>rfl,
  ⟨eq_of_beq (bt h2 72 rfl),fu2 h1 29 rfl rfl,fu3 h1 29 rfl rfl⟩,
  fu h1 30 rfl rfl,
  (fu h1 30 rfl rfl).binds λ _ _ _ _ _ _ us hl=>match us,hl with | [_,_,_],_=>rfl,
  ⟨eq_of_beq (bt h2 73 rfl),fu2 h1 30 rfl rfl,fu3 h1 30 rfl rfl⟩,
  fu h1 31 rfl rfl,
  (fu h1 31 rfl rfl).binds λ _ _ _ _ _ _ us hl=>match us,hl with | [_,_],_=>rfl,
  ⟨eq_of_beq (bt h2 74 rfl),fu2 h1 31 rfl rfl,fu3 h1 31 rfl rfl⟩,
  fu h1 32 rfl rfl,
  (fu h1 32 rfl rfl).binds λ _ _ _ _ _ _ us hl=>match us,hl with | [_,_,_],_=>rfl,
  ⟨eq_of_beq (bt h2 75 rfl),fu2 h1 32 rfl rfl,fu3 h1 32 rfl rfl⟩,
  fu h1 33 rfl rfl,
  (fu h1 33 rfl rfl).binds λ _ _ _ _ _ _ us hl=>match us,hl with | [_,_,_],_=>rfl,
  ⟨eq_of_beq (bt h2 76 rfl),fu2 h1 33 rfl rfl,fu3 h1 33 rfl rfl⟩,
  fu h1 34 rfl rfl,
  (fu h1 34 rfl rfl).binds λ _ _ _ _ _ _ us hl=>match us,hl with | [_,_,_],_=>rfl,
  ⟨eq_of_beq (bt h2 77 rfl),fu2 h1 34 rfl rfl,fu3 h1 34 rfl rfl⟩,
  fu h1 35 rfl rfl,
  (fu h1 35 rfl rfl).binds λ _ _ _ _ _ _ us hl=>match us,hl with | [_,_,_,_],_=>rfl,
  fu h1 36 rfl rfl,
  (fu h1 36 rfl rfl).binds λ _ _ _ _ _ _ us hl=>match us,hl with | [_,_,_],_=>rfl,
  ⟨eq_of_beq (bt h2 78 rfl),fu2 h1 36 rfl rfl,fu3 h1 36 rfl rfl⟩,
  fu h1 37 rfl rfl,
  (fu h1 37 rfl rfl).binds λ _ _ _ _ _ _ us hl=>match us,hl with | [_,_,_,_],_=>rfl,
  ⟨eq_of_beq (bt h2 79 rfl),fu2 h1 37 rfl rfl,fu3 h1 37 rfl rfl⟩,
  fu h1 38 rfl rfl,
  (fu h1 38 rfl rfl).binds λ _ _ _ _ _ _ us hl=>match us,hl with | [_,_],_=>rfl,
  ⟨eq_of_beq (bt h2 80 rfl),fu2 h1 38 rfl rfl,fu3 h1 38 rfl rfl⟩,
  fu h1 39 rfl rfl,
  (fu h1 39 rfl rfl).binds λ _ _ _ _ _ _ us hl=>match us,hl with | [_],_=>rfl,
  ⟨eq_of_beq (bt h2 81 rfl),fu2 h1 39 rfl rfl,fu3 h1 39 rfl rfl⟩,
  fu h1 40 rfl rfl,
  (fu h1 40 rfl rfl).binds λ _ _ _ _ _ _ us hl=>match us,hl with | [_,_],_=>rfl,
  ⟨eq_of_beq (bt h2 82 rfl),fu2 h1 40 rfl rfl,fu3 h1 40 rfl rfl⟩,
  fu h1 41 rfl rfl,
  (fu h1 41 rfl rfl).binds λ _ _ _ _ _ _ us hl=>match us,hl with | [_,_],_=>rfl,
  PySem.W.mg_of X G (eq_of_beq (bt h2 83 rfl)),
  fu3 h1 41 rfl rfl,
  fu h1 42 rfl rfl,
  (fu h1 42 rfl rfl).binds λ _ _ _ _ _ _ us hl=>match us,hl with | [_,_],_=>rfl,
  PySem.W.mg_of X G (eq_of_beq (bt h2 84 rfl)),
  fu3 h1 42 rfl rfl,
  fu h1 43 rfl rfl,
  (fu h1 43 rfl rfl).binds λ _ _ _ _ _ _ us hl=>match us,hl with | [_,_],_=>rfl,
  ⟨eq_of_beq (bt h2 85 rfl),fu2 h1 43 rfl rfl,fu3 h1 43 rfl rfl⟩,
  fu h1 44 rfl rfl,
  (fu h1 44 rfl rfl).binds λ _ _ _ _ _ _ us hl=>match us,hl with | [_,_],_=>rfl,
  ⟨eq_of_beq (bt h2 86 rfl),fu2 h1 44 rfl rfl,fu3 h1 44 rfl rfl⟩,
  fu h1 45 rfl rfl,
  (fu h1 45 rfl rfl).binds λ _ _ _ _ _ _ us hl=>match us,hl with | [_,_],_=>rfl,
  ⟨eq_of_beq (bt h2 87 rfl),fu2 h1 45 rfl rfl,fu3 h1 45 rfl rfl⟩,
  fu h1 46 rfl rfl,
  (fu h1 46 rfl rfl).binds λ _ _ _ _ _ _ us hl=>match us,hl with | [_,_],_=>rfl,
  PySem.W.mg_of X G (eq_of_beq (bt h2 88 rfl)),
  fu3 h1 46 rfl rfl,
  fu h1 47 rfl rfl,
  (fu h1 47 rfl rfl).binds λ _ _ _ _ _ _ us hl=>match us,hl with | [_],_=>rfl,
  ⟨eq_of_beq (bt h2 89 rfl),fu2 h1 47 rfl rfl,fu3 h1 47 rfl rfl⟩,
  fu h1 48 rfl rfl,
  (fu h1 48 rfl rfl).binds λ _ _ _ _ _ _ us hl=>match us,hl with | [_],_=>rfl,
  PySem.W.mg_of X G (eq_of_beq (bt h2 90 rfl)),
  fu3 h1 48 rfl rfl,
  fu h1 49 rfl rfl,
  (fu h1 49 rfl rfl).binds λ _ _ _ _ _ _ us hl=>match us,hl with | [_,_],_=>rfl,
  ⟨eq_of_beq (bt h2 91 rfl),fu2 h1 49 rfl rfl,fu3 h1 49 rfl rfl⟩,
  fu h1 50 rfl rfl,
  (fu h1 50 rfl rfl).binds λ _ _ _ _ _ _ us hl=>match us,hl with | [_,_],_=>rfl,
  PySem.W.mg_of X G (eq_of_beq (bt h2 92 rfl)),
  fu3 h1 50 rfl rfl,
  fu h1 51 rfl rfl,
  (fu h1 51 rfl rfl).binds λ _ _ _ _ _ _ us hl=>match us,hl with | [_],_=>rfl,
  PySem.W.mg_of X G (eq_of_beq (bt h2 93 rfl)),
  fu3 h1 51 rfl rfl,
  zhR X G (bt h2 94 rfl),
  ztN X G (bt h2 95 rfl),
  zhR X G (bt h2 96 rfl),
  zhR X G (bt h2 97 rfl),
  zhR X G (bt h2 98 rfl),
  zhR X G (bt h2 99 rfl),
  zhR X G (bt h2 100 rfl),
  zhR X G (bt h2 101 rfl),
  zhR X G (bt h2 102 rfl),
  zhR X G (bt h2 103 rfl),
  zhR X G (bt h2 104 rfl),
  zhR X G (bt h2 105 rfl),
  PySem.W.mg_of X G (eq_of_beq (bt h2 106 rfl)),
  bt h2 107 rfl,
  PySem.W.mg_of X G (eq_of_beq (bt h2 108 rfl)),
  bt h2 109 rfl,
  bt h2 110 rfl,
  PySem.W.mg_none_of X G (eq_of_beq (bt h2 111 rfl)),
  PySem.W.mg_none_of X G (eq_of_beq (bt h2 112 rfl)),
  PySem.W.mg_none_of X G (eq_of_beq (bt h2 113 rfl)),
  PySem.W.mg_none_of X G (eq_of_beq (bt h2 114 rfl)),
  PySem.W.mg_none_of X G (eq_of_beq (bt h2 115 rfl)),
  PySem.W.mg_none_of X G (eq_of_beq (bt h2 116 rfl)),
  PySem.W.mg_none_of X G (eq_of_beq (bt h2 117 rfl)),
  PySem.W.mg_none_of X G (eq_of_beq (bt h2 118 rfl)),
  PySem.W.mg_none_of X G (eq_of_beq (bt h2 119 rfl)),
  PySem.W.mg_none_of X G (eq_of_beq (bt h2 120 rfl))⟩
theorem walk {q:Program} {loose:List Str} {d:DefRec} (hdf:d.params.defaults=[]) (hnm:d.name = "law"):PySem.W.WalkO q loose (λ _ _=>True) (λ _ h=>∃ K,OB K/\K.In h) PySem.Challenge.rw_turnhall_k07_who_holds_and_waits.row.toRowW d [] (λ f vs=>PySem.call f vs) :=
 walk2 (n:=63) (k:=12) (x := "_law_script") (CX:=λ w=>CX1 PySem.Challenge.rw_turnhall_k07_who_holds_and_waits.prog w) (sp:=λ K=>zsx K) rfl (by decide) hdf ⟨rfl,by decide,by decide⟩
  (λ w mg fa h K o X G hfa=>by
   have T:=zsi X G o
   have F:=fu o.1 51 rfl rfl
   rw [hnm] at hfa
   have e:=(T.ztO).symm.trans hfa
   injection e with e
   injection e with e
   subst e
   obtain ⟨oc,od,kV,dc,pm,an,cd,ct,sl,e1,e2,e3⟩:=F.ex
   refine ⟨fdOf K (ff.getD 51 0),λ s v=>?_,λ base _ _=>zsX T⟩
   have:fdOf K (ff.getD 51 0)=_:=e1
   rw [this]
   exact .of_eq rfl)
  (λ _ _ a ns hl _ hS=>⟨a,ns,rfl,hS,λ _=>rfl⟩) λ _ _ _ _ _ z=>by
   obtain ⟨_,_,_,_,_,_,_,_,_,_,_,_,z⟩:=z
   exact z
end TP
end
open PySem PySem.W PyProof.Rows
theorem TP.left:LeftO PySem.Challenge.rw_turnhall_k07_who_holds_and_waits.prog TP.qq TP.lo (λ _=>true) (λ s=>(TP.ff.map (TP.fV (TP.kk s.heap)),(TP.bs (TP.kk s.heap)).all id)) (λ _=>(TP.exps,true)) 6866 :=
 TP.ztI (m:=11) (ann:=some (.ref 6)) (life:={}) (boot_open (by kernel_rfl) rfl λ s=>by kernel_rfl) (λ w=>by kernel_rfl) (λ w=>by kernel_rfl) λ w os=>by rw [PySem.W.Fast.te10156331382660048174,PySem.W.Fast.te11892475500146522536,PySem.W.Fast.te14364793385576792824,PySem.W.Fast.te4187177175401517315]; kernel_rfl
theorem PySem.Challenge.cw_turnhall_k07_who_holds_and_waits_holds : PySem.Challenge.rw_turnhall_k07_who_holds_and_waits.Holds := by
 refine holds_law (by rw [PySem.W.Fast.te9446332074065402090]; kernel_rfl) λ said=>holds_open (XP:=λ _ _=>True) (YP:=λ _ h=>∃ K,TP.OB K/\K.In h) (d:=TP.dOf TP.zoL) (kwd:=[]) TP.left (λ w s e=>⟨_,⟨congrArg Prod.fst e,congrArg Prod.snd e⟩,TP.ztj⟩) (λ _ h h2 ⟨K,o,x⟩ k=>⟨K,o,x.keeps k⟩) (λ _ _=>trivial) (λ _ _ _ _ _=>trivial) (by kernel_rfl) (by kernel_rfl) (by kernel_rfl) (λ s _=>recFacts_of (R:=[]) (s:=s) rfl) (by kernel_rfl) said (by kernel_rfl) ⟨rfl,rfl,rfl,rfl,rfl,by decide +kernel⟩ (by w_witness2) (TP.walk rfl rfl)
