import PyProof.Rows.All
import Wide.All
import OpenK.AllK
import Wide.FinOn
import PyProof.EqAt
import PyProof.EqKinds
import PyProof.TupleCall
import PyProof.CollectWalk
import PyProof.Seq
import PyProof.SetRoads
import PyProof.DictWalks
import Lean
import PySem.Challenge.RW_turnhall_k10_what_is_written_down
set_option linter.all false
set_option maxRecDepth 100000
set_option maxHeartbeats 4000000
set_option Elab.async false
section
namespace TH
inductive DS where
 | zas | waiting | kept | dropped
 deriving DecidableEq
structure Act (K:Type) where
 wr:Bool
 key:K
 val:Int
structure Deed (K:Type) where
 st:DS
 done:List (Act K)
 wish:Option (Act K)
inductive Row (K:Type) where
 | begin (d:Nat) | write (d:Nat) (k:K) (before value:Int) | keep (d:Nat) | drop (d:Nat)
structure HS (K:Type) where
 n:Nat
 deed:Nat->Deed K
 held:K->List (Nat×Bool)
 rows:K->List (Nat×Bool)
 book:K->Option Int
 seen:List K
 log:List (Row K)
 kept:List Nat
def up {α β:Type} [DecidableEq α] (f:α->β) (a:α) (b:β):α->β:=λ x=>if x=a then b else f x
section
variable {α β:Type} [DecidableEq α] {f:α->β} {a x:α} {b:β}
theorem zag:up f a b a=b:=by unfold up; rw [if_pos rfl]
theorem zan (h:x≠a):up f a b x=f x:=by unfold up; rw [if_neg h]
end
def Deed.act {K:Type} (D:Deed K):Prop:=D.st=.zas\/D.st=.waiting
section
variable {K:Type} [DecidableEq K]
abbrev Book (K:Type):=K->Option Int
def over (b:Book K):List (Act K)->Book K
 | []=>b
 | a::r=>over (if a.wr then up b a.key (some a.val) else b) r
def zaN:List (Act K)->K->Option Int
 | [],_=>none
 | a::r,k=>match zaN r k with
  | some v=>some v
  | none=>if a.wr=true/\a.key=k then some a.val else none
def replay:List (Act K)->Book K->Option (Book K)
 | [],b=>some b
 | a::r,b=>if a.wr=true then replay r (up b a.key (some a.val)) else if (b a.key).getD 0=a.val then replay r b else none
def zdG (deed:Nat->Deed K):List Nat->Book K->Option (Book K)
 | [],b=>some b
 | d::r,b=>(replay (deed d).done b).bind (zdG deed r)
def zee (deed:Nat->Deed K):List Nat->Book K->Book K
 | [],b=>b
 | d::r,b=>zee deed r (over b (deed d).done)
def zau (s:HS K):Book K:=zee s.deed s.kept λ _=>none
theorem zeZ (k:K):∀ (l:List (Act K)) (b:Book K),over b l k=match zaN l k with | some v=>some v | none=>b k
 | [],b=>rfl
 | a::r,b=>by
  simp only [over,zaN]
  rw [zeZ k r]
  cases h:zaN r k with
  | some v=>rfl
  | none =>
   by_cases hw:a.wr=true
   . by_cases hk:a.key=k
     . subst hk; simp [hw,zag]
     . simp [hw,hk,zan (Ne.symm hk)]
   . simp [hw]
theorem zeq (a:Act K) (k:K):∀ l:List (Act K),zaN (l++[a]) k=if a.wr=true/\a.key=k then some a.val else zaN l k
 | []=>by simp [zaN]
 | x::r=>by
  simp only [List.cons_append,zaN]
  rw [zeq a k r]
  by_cases h:a.wr=true/\a.key=k
  . simp [h]
  . simp [h]
theorem zed {k:K} {v:Int}:∀ {l:List (Act K)},zaN l k=some v->∃ a∈l,a.wr=true/\a.key=k
 | [],h=>by simp [zaN] at h
 | a::r,h=>by
  simp only [zaN] at h
  cases h':zaN r k with
  | some w =>
   obtain ⟨x,hx,q⟩:=zed h'
   exact ⟨x,List.mem_cons_of_mem _ hx,q⟩
  | none =>
   rw [h'] at h
   by_cases c:a.wr=true/\a.key=k
   . exact ⟨a,List.mem_cons_self,c⟩
   . simp [c] at h
theorem znj (l m:List (Act K)):∀ b,replay (l++m) b=(replay l b).bind (replay m):=by
 induction l with
 | nil=>intro b; rfl
 | cons a r ih =>
  intro b
  simp only [List.cons_append,replay]
  by_cases hw:a.wr=true
  . simp only [hw,if_true]; exact ih _
  . simp only [hw,if_false]
    by_cases hv:(b a.key).getD 0=a.val
    . simp only [hv,if_true]; exact ih _
    . simp only [hv,if_false]; rfl
theorem zeV:∀ {l:List (Act K)} {b c:Book K},replay l b=some c->c=over b l
 | [],b,c,h=>by simp only [replay,Option.some.injEq] at h; exact h.symm
 | a::r,b,c,h=>by
  simp only [replay] at h
  simp only [over]
  by_cases hw:a.wr=true
  . simp only [hw,if_true] at h ⊢; exact zeV h
  . simp only [hw] at h ⊢
    by_cases hv:(b a.key).getD 0=a.val
    . simp only [hv,if_true] at h; exact zeV h
    . simp [hv] at h
theorem zgX {l:List (Act K)} {b:Book K} (h:(replay l b).isSome=true):replay l b=some (over b l):=by
 cases e:replay l b with
 | none=>rw [e] at h; cases h
 | some c=>rw [zeV e]
theorem zd7:∀ {l:List (Act K)} {b c:Book K},(∀ a∈l,b a.key=c a.key)->(replay l b).isSome=(replay l c).isSome
 | [],_,_,_=>rfl
 | a::r,b,c,h=>by
  simp only [replay]
  have hr:∀ x∈r,b x.key=c x.key:=λ x hx=>h x (List.mem_cons_of_mem _ hx)
  have ha:=h a List.mem_cons_self
  by_cases hw:a.wr=true
  . simp only [hw,if_true]
    refine zd7 λ x hx=>?_
    by_cases e:x.key=a.key
    . rw [e,zag,zag]
    . rw [zan e,zan e]; exact hr x hx
  . simp only [hw,ha]
    by_cases hv:(c a.key).getD 0=a.val
    . simp [hv,zd7 hr]
    . simp [hv]
theorem zik (deed:Nat->Deed K) (m:List Nat):∀ (l:List Nat) (b:Book K),zdG deed (l++m) b=(zdG deed l b).bind (zdG deed m)
 | [],b=>rfl
 | d::r,b=>by
  simp only [List.cons_append,zdG]
  cases replay (deed d).done b with
  | none=>rfl
  | some c=>exact zik deed m r c
theorem zcp {deed deed':Nat->Deed K}:∀ {l:List Nat} {b:Book K},(∀ d∈l,(deed' d).done=(deed d).done)->zdG deed' l b=zdG deed l b
 | [],_,_=>rfl
 | d::r,b,h=>by
  simp only [zdG]
  rw [h d List.mem_cons_self]
  cases replay (deed d).done b with
  | none=>rfl
  | some c=>exact zcp λ x hx=>h x (List.mem_cons_of_mem _ hx)
theorem zfp (deed:Nat->Deed K) (m:List Nat):∀ (l:List Nat) (b:Book K),zee deed (l++m) b=zee deed m (zee deed l b)
 | [],b=>rfl
 | d::r,b=>by simp only [List.cons_append,zee]; exact zfp deed m r _
theorem zbt {deed deed':Nat->Deed K}:∀ {l:List Nat} {b:Book K},(∀ d∈l,(deed' d).done=(deed d).done)->zee deed' l b=zee deed l b
 | [],_,_=>rfl
 | d::r,b,h=>by
  simp only [zee]
  rw [h d List.mem_cons_self]
  exact zbt λ x hx=>h x (List.mem_cons_of_mem _ hx)
def lets (h:List (Nat×Bool)) (d:Nat) (w:Bool):Bool:=h.all λ p=>p.1 == d || !(w || p.2)
def zbi (h:List (Nat×Bool)) (d:Nat) (w:Bool):List (Nat×Bool) :=
 if h.any (λ p=>p.1 == d) then h.map (λ p=>if p.1 == d then (d,w) else p) else h++[(d,w)]
def less (h:List (Nat×Bool)) (d:Nat):List (Nat×Bool):=h.filter λ p=>p.1 != d
def doIt (s:HS K) (d:Nat) (a:Act K):HS K :=
  if a.wr then
    { s with deed:=up s.deed d { s.deed d with st:=.zas,done:=(s.deed d).done++[a] },
             log:=s.log++[.write d a.key ((s.book a.key).getD 0) a.val],
             book:=up s.book a.key (some a.val) }
  else { s with deed:=up s.deed d { s.deed d with st:=.zas,done:=(s.deed d).done++[⟨false,a.key,(s.book a.key).getD 0⟩] } }
def take (s:HS K) (d:Nat) (k:K) (w:Bool):HS K:={ s with held:=up s.held k (zbi (s.held k) d w) }
def zbz:Nat->HS K->K->HS K
 | 0,s,_=>s
 | f+1,s,k=>match s.rows k with
  | []=>s
  | (d,w)::r=>if lets (s.held k) d w then
    match (s.deed d).wish with
    | some a=>zbz f (doIt (take { s with rows:=up s.rows k r } d k w) d a) k
    | none=>s
   else s
def zaF (s:HS K):List K->HS K
 | []=>s
 | k::r=>zaF (zbz (s.rows k).length s k) r
def letGo (s:HS K) (d:Nat):HS K:={ s with held:=λ k=>less (s.held k) d,rows:=λ k=>less (s.rows k) d }
variable (ord:List K->List K)
def free (s:HS K) (d:Nat):HS K:=zaF (letGo s d) (ord s.seen)
def zfd (s:HS K) (d:Nat) (t:DS):HS K:={ s with deed:=up s.deed d { s.deed d with st:=t } }
def zp5 (s:HS K) (d:Nat):HS K:={ zfd s d .kept with kept:=s.kept++[d],log:=s.log++[.keep d] }
def zqf (s:HS K) (d:Nat):HS K :=
 { zfd s d .dropped with book:=λ k=>if (zaN (s.deed d).done k).isSome then zau s k else s.book k,log:=s.log++[.drop d] }
def keep (s:HS K) (d:Nat):HS K:=free ord (zp5 s d) d
def drop (s:HS K) (d:Nat):HS K:=free ord (zqf s d) d
def za6 (s:HS K):HS K:={ s with n:=s.n+1,deed:=up s.deed s.n ⟨.zas,[],none⟩,log:=s.log++[.begin s.n] }
def zbP (s:HS K) (d:Nat):List Nat:=match (s.deed d).st,(s.deed d).wish with
 | .waiting,some a=>((s.rows a.key).takeWhile λ p=>p.1 != d).map (·.1)++((s.held a.key).filter λ p=>p.1 != d && (a.wr || p.2)).map (·.1)
 | _,_=>[]
inductive Reach (s:HS K):Nat->Nat->Prop where
 | one {d e:Nat}:e∈zbP s d->Reach s d e
 | step {d e f:Nat}:e∈zbP s d->Reach s e f->Reach s d f
open Classical in
noncomputable def rings (s:HS K):List Nat:=(List.range s.n).filter λ d=>decide (Reach s d d)
noncomputable def settle:Nat->HS K->HS K
 | 0,s=>s
 | f+1,s=>match (rings s).getLast? with
  | none=>s
  | some d=>settle f (drop ord s d)
def has (h:List (Nat×Bool)) (d:Nat):Bool:=h.any λ p=>p.1 == d
def look (h:List (Nat×Bool)) (d:Nat):Option Bool:=(h.find? λ p=>p.1 == d).map (·.2)
def see (s:HS K) (k:K):HS K:={ s with seen:=if k∈s.seen then s.seen else s.seen++[k] }
def wait (s:HS K) (d:Nat) (a:Act K):HS K :=
  { s with deed:=up s.deed d { s.deed d with st:=.waiting,wish:=some a },
           rows:=up s.rows a.key (if has (s.held a.key) d then (d,a.wr)::s.rows a.key else s.rows a.key++[(d,a.wr)]) }
noncomputable def wish (s:HS K) (d:Nat) (a:Act K):HS K :=
 let s:=see s a.key
 if look (s.held a.key) d=some a.wr\/look (s.held a.key) d=some true then doIt s d a
 else if lets (s.held a.key) d a.wr=true/\(has (s.held a.key) d=true\/s.rows a.key=[]) then doIt (take s d a.key a.wr) d a
 else settle ord s.n (wait s d a)
end
end TH
end
section
namespace TH
section
variable {K:Type} [DecidableEq K]
structure Core (s:HS K) (x:Option Nat):Prop where
 out:∀ d,s.n<=d->(s.deed d).st=.dropped/\(s.deed d).done=[]
 hAct:∀ k p,p∈s.held k->(s.deed p.1).act
 hNd:∀ k,((s.held k).map (·.1)).Nodup
 hEx:∀ k d,(d,true)∈s.held k->∀ p∈s.held k,p.1=d
 rAct:∀ k p,p∈s.rows k->(s.deed p.1).st=.waiting/\∃ a,(s.deed p.1).wish=some a/\a.key=k/\a.wr=p.2
 rNd:∀ k,((s.rows k).map (·.1)).Nodup
 wRow:∀ d,some d≠x->(s.deed d).st=.waiting->∃ a,(s.deed d).wish=some a/\(d,a.wr)∈s.rows a.key
 zfN:∀ k d w w',(d,w)∈s.rows k->(d,w')∈s.held k->w'=false/\w=true
 zfv:∀ d,(s.deed d).act->∀ a∈(s.deed d).done,∃ w,(d,w)∈s.held a.key/\(a.wr=true->w=true)
 zfe:∀ k,k∉s.seen->s.held k=[]/\s.rows k=[]
 bOwn:∀ d,(s.deed d).act->∀ k v,zaN (s.deed d).done k=some v->s.book k=some v
 zgv:∀ k,(∀ d,(s.deed d).act->zaN (s.deed d).done k=none)->s.book k=zau s k
 ser:zdG s.deed s.kept (λ _=>none)=some (zau s)
 actR:∀ d,(s.deed d).act->(replay (s.deed d).done (zau s)).isSome=true
 zdj:∀ d,d∈s.kept↔(s.deed d).st=.kept
 zhn:s.kept.Nodup
theorem zdE {D:Deed K} (h:D.act):D.st≠.kept:=by
 rcases h with h | h <;> rw [h] <;> decide
theorem zeE {D:Deed K} (h:D.act):D.st≠.dropped:=by
 rcases h with h | h <;> rw [h] <;> decide
theorem Core.lt {s:HS K} {x:Option Nat} (c:Core s x) {d:Nat} (h:(s.deed d).act):d < s.n:=by
 by_cases e:d < s.n
 . exact e
 . exact absurd (c.out d (by omega)).1 (zeE h)
theorem Core.sole {s:HS K} {x:Option Nat} (c:Core s x) {d e:Nat} {k:K} {v:Int} {w:Bool} (hd:(s.deed d).act) (hw:zaN (s.deed d).done k=some v) (he:(e,w)∈s.held k):e=d:=by
 obtain ⟨a,ha,aw,ak⟩:=zed hw
 obtain ⟨w',hh,hw'⟩:=c.zfv d hd a ha
 rw [hw' aw,ak] at hh
 exact c.hEx k d hh (e,w) he
theorem zbY {s t:HS K} (h:t.kept=s.kept) (hd:∀ d∈s.kept,(t.deed d).done=(s.deed d).done):zau t=zau s:=by
 unfold zau; rw [h]; exact zbt hd
theorem Core.reads {s:HS K} {x:Option Nat} (c:Core s x) {d:Nat} {k:K} {w:Bool} (hd:(s.deed d).act) (hh:(d,w)∈s.held k):s.book k=over (zau s) (s.deed d).done k:=by
 rw [zeZ]
 cases e:zaN (s.deed d).done k with
 | some v=>exact c.bOwn d hd k v e
 | none =>
  refine c.zgv k λ f hf=>?_
  cases e':zaN (s.deed f).done k with
  | none=>rfl
  | some v =>
   have q:=c.sole hf e' hh
   subst q
   rw [e] at e'; cases e'
theorem Core.doIt {s:HS K} {d:Nat} {a:Act K} {w:Bool} (c:Core s (some d)) (hd:(s.deed d).act) (hr:∀ k w,(d,w)∉s.rows k) (hh:(d,w)∈s.held a.key) (hw:a.wr=true->w=true):Core (doIt s d a) none:=by
 have hnk:(s.deed d).st≠.kept:=zdE hd
 have nk:∀ e∈s.kept,e≠d:=λ e he z=>by subst z; exact hnk ((c.zdj _).mp he)
 have main:∀ (a':Act K) (bk:Book K) (lg:List (Row K)),a'.key=a.key->a'.wr=a.wr->(a.wr=false->bk=s.book/\a'.val=(s.book a.key).getD 0)->(a.wr=true->bk=up s.book a.key (some a'.val)) ->
    Core { s with deed:=up s.deed d { s.deed d with st:=.zas,done:=(s.deed d).done++[a'] },log:=lg,book:=bk } none:=by
  intro a' bk lg ek ew hbr hbw
  have dd:∀ e,e≠d->up s.deed d { s.deed d with st:=.zas,done:=(s.deed d).done++[a'] } e=s.deed e:=λ e he=>zan he
  have ds:up s.deed d { s.deed d with st:=.zas,done:=(s.deed d).done++[a'] } d={ s.deed d with st:=.zas,done:=(s.deed d).done++[a'] }:=zag
  have actE:∀ e,(up s.deed d { s.deed d with st:=.zas,done:=(s.deed d).done++[a'] } e).act↔(s.deed e).act:=λ e=>by
    by_cases h:e=d
    . subst h; rw [ds]; exact ⟨λ _=>hd,λ _=>.inl rfl⟩
    . rw [dd e h]
  have kb:zau { s with deed:=up s.deed d { s.deed d with st:=.zas,done:=(s.deed d).done++[a'] },log:=lg,book:=bk }=zau s :=
    zbY rfl λ e he=>by show (up s.deed d _ e).done=_; rw [dd e (nk e he)]
  have lastE:∀ e k,zaN (up s.deed d { s.deed d with st:=.zas,done:=(s.deed d).done++[a'] } e).done k=if e=d/\a.wr=true/\a.key=k then some a'.val else zaN (s.deed e).done k:=λ e k=>by
    by_cases h:e=d
    . subst h; rw [ds]; show zaN ((s.deed e).done++[a']) k=_; rw [zeq,ek,ew]; simp
    . rw [dd e h]; simp [h]
  refine ⟨λ e he=>?_,λ k p hp=>?_,c.hNd,c.hEx,λ k p hp=>?_,c.rNd,λ e _ he=>?_,c.zfN,λ e he b hb=>?_,c.zfe,λ e he k v hv=>?_,λ k hk=>?_,?_,λ e he=>?_,λ e=>?_,c.zhn⟩
  . have:e≠d:=λ z=>by subst z; have:=c.lt hd; have he':s.n<=e:=he; omega
    rw [show ({ s with deed:=up s.deed d { s.deed d with st:=.zas,done:=(s.deed d).done++[a'] },log:=lg,book:=bk }:HS K).deed e=s.deed e from dd e this]
    exact c.out e he
  . exact (actE p.1).mpr (c.hAct k p hp)
  . have:p.1≠d:=λ z=>hr k p.2 (by rw [<-z]; exact hp)
    rw [show ({ s with deed:=up s.deed d { s.deed d with st:=.zas,done:=(s.deed d).done++[a'] },log:=lg,book:=bk }:HS K).deed p.1=s.deed p.1 from dd p.1 this]
    exact c.rAct k p hp
  . have hne:e≠d:=λ z=>by
      subst z
      have he':(up s.deed e { s.deed e with st:=.zas,done:=(s.deed e).done++[a'] } e).st=.waiting:=he
      rw [ds] at he'; cases he'
    have he':(up s.deed d { s.deed d with st:=.zas,done:=(s.deed d).done++[a'] } e).st=.waiting:=he
    rw [dd e hne] at he'
    obtain ⟨b,q1,q2⟩:=c.wRow e (λ z=>hne (Option.some.inj z)) he'
    exact ⟨b,by show (up s.deed d _ e).wish=_; rw [dd e hne]; exact q1,q2⟩
  . by_cases h:e=d
    . subst h
      have hb':b∈(up s.deed e { s.deed e with st:=.zas,done:=(s.deed e).done++[a'] } e).done:=hb
      rw [ds] at hb'
      rcases List.mem_append.mp hb' with q | q
      . exact c.zfv e hd b q
      . have q':b=a':=by simpa using q
        subst q'
        exact ⟨w,by rw [ek]; exact hh,λ z=>hw (by rw [<-ew]; exact z)⟩
    . have hb':b∈(up s.deed d { s.deed d with st:=.zas,done:=(s.deed d).done++[a'] } e).done:=hb
      rw [dd e h] at hb'
      exact c.zfv e ((actE e).mp he) b hb'
  . have hv':zaN (up s.deed d { s.deed d with st:=.zas,done:=(s.deed d).done++[a'] } e).done k=some v:=hv
    rw [lastE] at hv'
    have he':=(actE e).mp he
    show bk k=some v
    by_cases h:e=d/\a.wr=true/\a.key=k
    . rw [if_pos h] at hv'
      obtain ⟨h1,h2,h3⟩:=h
      rw [hbw h2,<-h3,zag]; exact hv'
    . rw [if_neg h] at hv'
      cases hwr:a.wr with
      | false=>rw [(hbr hwr).1]; exact c.bOwn e he' k v hv'
      | true =>
        have hne:k≠a.key:=λ z=>by
         subst z
         have q:=c.sole he' hv' hh
         exact h ⟨q.symm,hwr,rfl⟩
        rw [hbw hwr,zan hne]
        exact c.bOwn e he' k v hv'
  . show bk k=zau _ k
    rw [kb]
    have hk':∀ e,(s.deed e).act->¬ (e=d/\a.wr=true/\a.key=k)/\zaN (s.deed e).done k=none:=λ e he=>by
      have q:zaN (up s.deed d { s.deed d with st:=.zas,done:=(s.deed d).done++[a'] } e).done k=none:=hk e ((actE e).mpr he)
      rw [lastE] at q
      by_cases h:e=d/\a.wr=true/\a.key=k
      . rw [if_pos h] at q; cases q
      . rw [if_neg h] at q; exact ⟨h,q⟩
    cases hwr:a.wr with
    | false=>rw [(hbr hwr).1]; exact c.zgv k λ e he=>(hk' e he).2
    | true =>
      have hne:k≠a.key:=λ z=>(hk' d hd).1 ⟨rfl,hwr,z.symm⟩
      rw [hbw hwr,zan hne]
      exact c.zgv k λ e he=>(hk' e he).2
  . show zdG (up s.deed d _) s.kept _=_
    rw [kb,<-c.ser]
    exact zcp λ e he=>by rw [dd e (nk e he)]
  . rw [kb]
    show (replay (up s.deed d _ e).done (zau s)).isSome=true
    by_cases h:e=d
    . subst h
      rw [ds]
      show (replay ((s.deed e).done++[a']) (zau s)).isSome=true
      rw [znj,zgX (c.actR e hd)]
      show (replay [a'] (over (zau s) (s.deed e).done)).isSome=true
      unfold replay
      cases hwr:a.wr with
      | true=>rw [if_pos (by rw [ew,hwr])]; rfl
      | false =>
        rw [if_neg (by rw [ew,hwr]; decide),if_pos (by rw [ek,<-c.reads hd hh,(hbr hwr).2])]
        rfl
    . rw [dd e h]; exact c.actR e ((actE e).mp he)
  . show e∈s.kept↔(up s.deed d _ e).st=.kept
    by_cases h:e=d
    . subst h
      rw [ds,c.zdj e]
      exact ⟨λ z=>absurd z hnk,λ z=>by cases z⟩
    . rw [dd e h]; exact c.zdj e
 unfold TH.doIt
 cases hwr:a.wr with
 | true=>exact main a _ _ rfl rfl (λ z=>by rw [hwr] at z; cases z) λ _=>rfl
 | false=>exact main ⟨false,a.key,(s.book a.key).getD 0⟩ _ _ rfl hwr.symm (λ _=>⟨rfl,rfl⟩) λ z=>by rw [hwr] at z; cases z
end
end TH
end
section
namespace TH
section
variable {K:Type} [DecidableEq K]
theorem zcI {h:List (Nat×Bool)} {d:Nat} {p:Nat×Bool}:p∈less h d↔p∈h/\p.1≠d:=by
 unfold less; rw [List.mem_filter]; simp
theorem zio {h:List (Nat×Bool)} {d:Nat} (n:(h.map (·.1)).Nodup):((less h d).map (·.1)).Nodup :=
 n.sublist (List.Sublist.map _ List.filter_sublist)
theorem zmJ {h:List (Nat×Bool)} {d:Nat} {w:Bool}:lets h d w=true↔∀ p∈h,p.1≠d->w=false/\p.2=false:=by
 unfold lets
 rw [List.all_eq_true]
 refine ⟨λ q p hp hn=>?_,λ q p hp=>?_⟩
 . have:=q p hp
   cases w <;> cases hb:p.2 <;> simp_all
 . by_cases hn:p.1=d
   . simp [hn]
   . obtain ⟨q1,q2⟩:=q p hp hn
     simp [q1,q2]
theorem zhM {h:List (Nat×Bool)} {d:Nat}:(h.any λ p=>p.1 == d)=true↔∃ w,(d,w)∈h:=by
 rw [List.any_eq_true]
 refine ⟨λ ⟨p,hp,e⟩=>⟨p.2,?_⟩,λ ⟨w,hw⟩=>⟨(d,w),hw,by simp⟩⟩
 have e':p.1=d:=by simpa using e
 rw [<-e']; exact hp
theorem zaX {h:List (Nat×Bool)} {d:Nat} {w:Bool} {p:Nat×Bool}:p∈zbi h d w↔p=(d,w)\/(p∈h/\p.1≠d):=by
 unfold zbi
 by_cases c:(h.any λ p=>p.1 == d)=true
 . rw [if_pos c,List.mem_map]
   refine ⟨λ ⟨q,hq,e⟩=>?_,λ z=>?_⟩
   . by_cases hn:q.1=d
     . simp [hn] at e; exact .inl e.symm
     . simp [hn] at e; subst e; exact .inr ⟨hq,hn⟩
   . rcases z with z | ⟨z1,z2⟩
     . obtain ⟨w',hw'⟩:=zhM.mp c
       exact ⟨(d,w'),hw',by simp [z]⟩
     . exact ⟨p,z1,by simp [z2]⟩
 . rw [if_neg c,List.mem_append]
   refine ⟨λ z=>?_,λ z=>?_⟩
   . rcases z with z | z
     . refine .inr ⟨z,λ e=>c (zhM.mpr ⟨p.2,?_⟩)⟩
       rw [<-e]; exact z
     . exact .inl (by simpa using z)
   . rcases z with z | ⟨z1,_⟩
     . exact .inr (by simp [z])
     . exact .inl z1
theorem zlu {h:List (Nat×Bool)} {d:Nat} {w:Bool}:(zbi h d w).map (·.1)=if (h.any λ p=>p.1 == d)=true then h.map (·.1) else h.map (·.1)++[d]:=by
 unfold zbi
 by_cases c:(h.any λ p=>p.1 == d)=true
 . rw [if_pos c,if_pos c,List.map_map]
   refine List.map_congr_left λ p _=>?_
   by_cases hn:p.1=d
   . simp [hn]
   . simp [hn]
 . rw [if_neg c,if_neg c,List.map_append]; rfl
theorem zi8 {h:List (Nat×Bool)} {d:Nat} {w:Bool} (n:(h.map (·.1)).Nodup):((zbi h d w).map (·.1)).Nodup:=by
 rw [zlu]
 by_cases c:(h.any λ p=>p.1 == d)=true
 . rw [if_pos c]; exact n
 . rw [if_neg c]
   refine List.nodup_append.mpr ⟨n,by simp,λ a ha b hb=>?_⟩
   have hb':b=d:=by simpa using hb
   subst hb'
   rintro rfl
   obtain ⟨p,hp,e⟩:=List.mem_map.mp ha
   exact c (zhM.mpr ⟨p.2,by rw [<-e]; exact hp⟩)
theorem Core.take {s:HS K} {x:Option Nat} {d:Nat} {k:K} {w:Bool} (c:Core s x) (hd:(s.deed d).act) (hl:lets (s.held k) d w=true) (hf:w=false->∀ w',(d,w')∉s.held k) (hr:∀ w',(d,w')∉s.rows k) (hk:k∈s.seen):Core (TH.take s d k w) x:=by
 have hh:∀ k',k'≠k->(TH.take s d k w).held k'=s.held k':=λ k' h=>zan h
 have hs:(TH.take s d k w).held k=zbi (s.held k) d w:=zag
 have hl':=zmJ.mp hl
 have mem:∀ k' p,p∈(TH.take s d k w).held k'->p∈s.held k'\/(k'=k/\p=(d,w)):=λ k' p hp=>by
   by_cases h:k'=k
   . subst h
     rw [hs] at hp
     rcases zaX.mp hp with z | z
     . exact .inr ⟨rfl,z⟩
     . exact .inl z.1
   . rw [hh k' h] at hp; exact .inl hp
 refine ⟨c.out,λ k' p hp=>?_,λ k'=>?_,λ k' e he p hp=>?_,c.rAct,c.rNd,c.wRow,λ k' e v v' h1 h2=>?_,λ e he a ha=>?_,λ k' h'=>?_,c.bOwn,c.zgv,c.ser,c.actR,c.zdj,c.zhn⟩
 . rcases mem k' p hp with z | ⟨_,z⟩
   . exact c.hAct k' p z
   . subst z; exact hd
 . by_cases h:k'=k
   . subst h; rw [hs]; exact zi8 (c.hNd k')
   . rw [hh k' h]; exact c.hNd k'
 . by_cases h:k'=k
   . subst h
     rw [hs] at he hp
     rcases zaX.mp he with z | ⟨z1,z2⟩
     . have z1:e=d:=congrArg Prod.fst z
       have z2:w=true:=(congrArg Prod.snd z).symm
       subst z1
       rcases zaX.mp hp with y | ⟨y1,y2⟩
       . rw [y]
       . have:=(hl' p y1 y2).1
         rw [z2] at this; cases this
     . have:=(hl' (e,true) z1 z2).2
       cases this
   . rw [hh k' h] at he hp; exact c.hEx k' e he p hp
 . by_cases h:k'=k
   . subst h
     rw [hs] at h2
     rcases zaX.mp h2 with z | ⟨z1,z2⟩
     . have z1:e=d:=congrArg Prod.fst z
       subst z1
       exact absurd h1 (hr v)
     . exact c.zfN k' e v v' h1 z1
   . rw [hh k' h] at h2; exact c.zfN k' e v v' h1 h2
 . obtain ⟨v,q1,q2⟩:=c.zfv e he a ha
   by_cases h:a.key=k
   . by_cases hed:e=d
     . subst hed
       refine ⟨w,by rw [h,hs]; exact zaX.mpr (.inl rfl),λ z=>?_⟩
       cases hw:w with
       | true=>rfl
       | false=>exact absurd (h ▸ q1) (hf hw v)
     . exact ⟨v,by rw [h,hs]; exact zaX.mpr (.inr ⟨h ▸ q1,hed⟩),q2⟩
   . exact ⟨v,by rw [hh _ h]; exact q1,q2⟩
 . have:k'≠k:=λ z=>h' (z ▸ hk)
   rw [hh k' this]; exact c.zfe k' h'
theorem Core.ends {s:HS K} {d:Nat} {t:DS} {bk:Book K} {kp:List Nat} {lg:List (Row K)} (c:Core s none) (hd:(s.deed d).act) (ht:t=.kept\/t=.dropped)
   (hk:∀ e,e∈kp↔(up s.deed d { s.deed d with st:=t } e).st=.kept) (hn:kp.Nodup)
   (hser:zdG s.deed kp (λ _=>none)=some (zee s.deed kp λ _=>none))
   (hact:∀ e,e≠d->(s.deed e).act->(replay (s.deed e).done (zee s.deed kp λ _=>none)).isSome=true)
   (hbo:∀ e,e≠d->(s.deed e).act->∀ k v,zaN (s.deed e).done k=some v->bk k=some v)
   (hbk:∀ k,(∀ e,e≠d->(s.deed e).act->zaN (s.deed e).done k=none)->bk k=zee s.deed kp (λ _=>none) k) :
   Core (letGo { s with deed:=up s.deed d { s.deed d with st:=t },book:=bk,kept:=kp,log:=lg } d) none:=by
 have dd:∀ e,e≠d->up s.deed d { s.deed d with st:=t } e=s.deed e:=λ e he=>zan he
 have ds:up s.deed d { s.deed d with st:=t } d={ s.deed d with st:=t }:=zag
 have dn:∀ e,(up s.deed d { s.deed d with st:=t } e).done=(s.deed e).done:=λ e=>by
   by_cases h:e=d
   . subst h; rw [ds]
   . rw [dd e h]
 have actE:∀ e,(up s.deed d { s.deed d with st:=t } e).act->e≠d/\(s.deed e).act:=λ e he=>by
   by_cases h:e=d
   . subst h
     rw [ds] at he
     rcases he with he | he <;> rcases ht with z | z <;> (have he':t=_:=he; rw [z] at he'; cases he')
   . rw [dd e h] at he; exact ⟨h,he⟩
 have kb:zau (letGo { s with deed:=up s.deed d { s.deed d with st:=t },book:=bk,kept:=kp,log:=lg } d)=zee s.deed kp λ _=>none:=zbt λ e _=>dn e
 refine ⟨λ e he=>?_,λ k p hp=>?_,λ k=>zio (c.hNd k),λ k e he p hp=>?_,λ k p hp=>?_,λ k=>zio (c.rNd k),λ e _ he=>?_,λ k e v v' h1 h2=>?_,λ e he a ha=>?_,λ k hk'=>?_,λ e he k v hv=>?_,λ k hk'=>?_,?_,λ e he=>?_,hk,hn⟩
 . have he':s.n<=e:=he
   have:e≠d:=λ z=>by subst z; have:=c.lt hd; omega
   show (up s.deed d _ e).st=_/\(up s.deed d _ e).done=_
   rw [dd e this]; exact c.out e he'
 . have hp':=zcI.mp hp
   show (up s.deed d _ p.1).act
   rw [dd _ hp'.2]; exact c.hAct k p hp'.1
 . exact c.hEx k e (zcI.mp he).1 p (zcI.mp hp).1
 . have hp':=zcI.mp hp
   show (up s.deed d _ p.1).st=_/\∃ a,(up s.deed d _ p.1).wish=some a/\_
   rw [dd _ hp'.2]; exact c.rAct k p hp'.1
 . have he':(up s.deed d { s.deed d with st:=t } e).st=.waiting:=he
   obtain ⟨h1,h2⟩:=actE e (.inr he')
   rw [dd e h1] at he'
   obtain ⟨a,q1,q2⟩:=c.wRow e (λ z=>by cases z) he'
   exact ⟨a,by show (up s.deed d _ e).wish=_; rw [dd e h1]; exact q1,zcI.mpr ⟨q2,h1⟩⟩
 . exact c.zfN k e v v' (zcI.mp h1).1 (zcI.mp h2).1
 . obtain ⟨h1,h2⟩:=actE e he
   have ha':a∈(up s.deed d { s.deed d with st:=t } e).done:=ha
   rw [dn e] at ha'
   obtain ⟨v,q1,q2⟩:=c.zfv e h2 a ha'
   exact ⟨v,zcI.mpr ⟨q1,h1⟩,q2⟩
 . obtain ⟨q1,q2⟩:=c.zfe k hk'
   show less (s.held k) d=[]/\less (s.rows k) d=[]
   rw [q1,q2]; exact ⟨rfl,rfl⟩
 . obtain ⟨h1,h2⟩:=actE e he
   have hv':zaN (up s.deed d { s.deed d with st:=t } e).done k=some v:=hv
   rw [dn e] at hv'
   exact hbo e h1 h2 k v hv'
 . rw [kb]
   refine hbk k λ e h1 h2=>?_
   have q:zaN (up s.deed d { s.deed d with st:=t } e).done k=none:=hk' e (by show (up s.deed d _ e).act; rw [dd e h1]; exact h2)
   rw [dn e] at q; exact q
 . rw [kb,<-hser]
   exact zcp λ e _=>dn e
 . obtain ⟨h1,h2⟩:=actE e he
   rw [kb]
   show (replay (up s.deed d _ e).done _).isSome=true
   rw [dn e]; exact hact e h1 h2
theorem Core.keeps {s:HS K} {d:Nat} (c:Core s none) (hd:(s.deed d).act):Core (letGo (zp5 s d) d) none:=by
 have kd:d∉s.kept:=λ z=>zdE hd ((c.zdj d).mp z)
 have kf:zee s.deed (s.kept++[d]) (λ _=>none)=over (zau s) (s.deed d).done:=by rw [zfp]; rfl
 refine Core.ends (t:=.kept) c hd (.inl rfl) (λ e=>?_) (List.nodup_append.mpr ⟨c.zhn,by simp,λ a ha b hb=>?_⟩) ?_ (λ e h1 h2=>?_) (λ e h1 h2 k v hv=>c.bOwn e h2 k v hv) λ k hk=>?_
 . rw [List.mem_append,c.zdj e]
   by_cases h:e=d
   . subst h; rw [zag]; simp
   . rw [zan h]; simp [h]
 . have hb':b=d:=by simpa using hb
   subst hb'
   rintro rfl
   exact kd ha
 . rw [zik,c.ser,kf]
   show (replay (s.deed d).done (zau s)).bind (zdG s.deed [])=_
   rw [zgX (c.actR d hd)]; rfl
 . rw [kf,<-zd7 (b:=zau s) λ a ha=>?_]
   . exact c.actR e h2
   . rw [zeZ]
     cases q:zaN (s.deed d).done a.key with
     | none=>rfl
     | some v =>
       obtain ⟨w,q1,_⟩:=c.zfv e h2 a ha
       exact absurd (c.sole hd q q1) h1
 . rw [kf,zeZ]
   cases q:zaN (s.deed d).done k with
   | some v=>exact c.bOwn d hd k v q
   | none =>
     refine c.zgv k λ e he=>?_
     by_cases h:e=d
     . subst h; exact q
     . exact hk e h he
theorem Core.drops {s:HS K} {d:Nat} (c:Core s none) (hd:(s.deed d).act):Core (letGo (zqf s d) d) none:=by
 refine Core.ends (t:=.dropped) c hd (.inr rfl) (λ e=>?_) c.zhn c.ser (λ e _ h2=>c.actR e h2) (λ e h1 h2 k v hv=>?_) λ k hk=>?_
 . show e∈s.kept↔_
   rw [c.zdj e]
   by_cases h:e=d
   . subst h; rw [zag]; exact ⟨λ z=>absurd z (zdE hd),λ z=>by cases z⟩
   . rw [zan h]
 . cases q:zaN (s.deed d).done k with
   | none=>simp [q]; exact c.bOwn e h2 k v hv
   | some u =>
     obtain ⟨a,ha,aw,ak⟩:=zed hv
     obtain ⟨w,q1,_⟩:=c.zfv e h2 a ha
     rw [ak] at q1
     exact absurd (c.sole hd q q1) h1
 . show (if (zaN (s.deed d).done k).isSome=true then zau s k else s.book k)=zau s k
   cases q:zaN (s.deed d).done k with
   | some u=>simp
   | none =>
     simp
     refine c.zgv k λ e he=>?_
     by_cases h:e=d
     . subst h; exact q
     . exact hk e h he
theorem Core.zoV {s:HS K} {k:K} {d:Nat} {w:Bool} {r:List (Nat×Bool)} {a:Act K} (c:Core s none) (hr:s.rows k=(d,w)::r) (hl:lets (s.held k) d w=true) (ha:(s.deed d).wish=some a) :
  Core (TH.doIt (TH.take { s with rows:=up s.rows k r } d k w) d a) none:=by
 have hm:(d,w)∈s.rows k:=by rw [hr]; exact List.mem_cons_self
 obtain ⟨hw,a',ea,ek,ew⟩:=c.rAct k (d,w) hm
 have ea':some a=some a':=ha.symm.trans ea
 cases ea'
 have nd:=c.rNd k
 rw [hr] at nd
 have ndr:∀ w',(d,w')∉r:=λ w' z=>(List.nodup_cons.mp nd).1 (List.mem_map.mpr ⟨_,z,rfl⟩)
 have rk:(up s.rows k r) k=r:=zag
 have rn:∀ k',k'≠k->(up s.rows k r) k'=s.rows k':=λ k' h=>zan h
 have sub:∀ k' p,p∈(up s.rows k r) k'->p∈s.rows k':=λ k' p hp=>by
  by_cases h:k'=k
  . subst h; rw [rk] at hp; rw [hr]; exact List.mem_cons_of_mem _ hp
  . rw [rn k' h] at hp; exact hp
 have nor:∀ k' w',(d,w')∉(up s.rows k r) k':=λ k' w' hp=>by
  by_cases h:k'=k
  . subst h; rw [rk] at hp; exact ndr w' hp
  . have:=(c.rAct k' _ (sub k' _ hp)).2
    obtain ⟨a'',q1,q2,_⟩:=this
    have q1':(s.deed d).wish=some a'':=q1
    rw [ha] at q1'; cases q1'
    exact h (q2.symm.trans ek)
 have c1:Core { s with rows:=up s.rows k r } (some d):=by
  refine ⟨c.out,c.hAct,c.hNd,c.hEx,λ k' p hp=>c.rAct k' p (sub k' p hp),λ k'=>?_,λ e he hwt=>?_,λ k' e v v' h1 h2=>c.zfN k' e v v' (sub k' _ h1) h2,c.zfv,λ k' h'=>?_,c.bOwn,c.zgv,c.ser,c.actR,c.zdj,c.zhn⟩
  . by_cases h:k'=k
    . subst h; show ((up s.rows k' r k').map _).Nodup; rw [rk]; exact (List.nodup_cons.mp nd).2
    . show ((up s.rows k r k').map _).Nodup; rw [rn k' h]; exact c.rNd k'
  . obtain ⟨b,q1,q2⟩:=c.wRow e (λ z=>by cases z) hwt
    refine ⟨b,q1,?_⟩
    show (e,b.wr)∈up s.rows k r b.key
    by_cases h:b.key=k
    . rw [h,rk]
      rw [h,hr] at q2
      rcases List.mem_cons.mp q2 with z | z
      . exact absurd (congrArg some (congrArg Prod.fst z)) he
      . exact z
    . rw [rn _ h]; exact q2
  . obtain ⟨q1,q2⟩:=c.zfe k' h'
    have:k'≠k:=λ z=>by subst z; rw [hr] at q2; cases q2
    exact ⟨q1,by show up s.rows k r k'=_; rw [rn k' this]; exact q2⟩
 have hks:k∈s.seen:=by
  by_cases z:k∈s.seen
  . exact z
  . have:=(c.zfe k z).2; rw [hr] at this; cases this
 have c2:Core (TH.take { s with rows:=up s.rows k r } d k w) (some d):=c1.take (.inr hw) hl (λ hwf w' z=>by
  obtain ⟨_,q⟩:=c.zfN k d w w' hm z
  rw [hwf] at q; cases q) (λ w' z=>nor k w' z) hks
 refine c2.doIt (w:=w) (.inr hw) nor ?_ λ z=>by have ew':a.wr=w:=ew; rw [<-ew']; exact z
 show (d,w)∈up s.held k (zbi (s.held k) d w) a.key
 rw [ek,zag]
 exact zaX.mpr (.inl rfl)
theorem Core.zbz {k:K}:∀ {f:Nat} {s:HS K},Core s none->Core (TH.zbz f s k) none
 | 0,s,c=>c
 | f+1,s,c=>by
  unfold TH.zbz
  split
  . exact c
  . rename_i d w r hr
    split
    . rename_i hl
      split
      . rename_i a ha
        exact Core.zbz (c.zoV hr hl ha)
      . exact c
    . exact c
theorem Core.zaF:∀ {ks:List K} {s:HS K},Core s none->Core (TH.zaF s ks) none
 | [],s,c=>c
 | k::r,s,c=>by unfold TH.zaF; exact Core.zaF c.zbz
variable (ord:List K->List K)
theorem Core.keep {s:HS K} {d:Nat} (c:Core s none) (hd:(s.deed d).act):Core (TH.keep ord s d) none:=Core.zaF (c.keeps hd)
theorem Core.drop {s:HS K} {d:Nat} (c:Core s none) (hd:(s.deed d).act):Core (TH.drop ord s d) none:=Core.zaF (c.drops hd)
theorem zgM {s:HS K} {d e:Nat} (h:e∈zbP s d):(s.deed d).st=.waiting:=by
 unfold zbP at h
 split at h
 . rename_i q _; exact q
 . cases h
theorem zaJ {s:HS K} {d e:Nat} (h:Reach s d e):(s.deed d).st=.waiting:=by
 cases h with
 | one q=>exact zgM q
 | step q _=>exact zgM q
theorem zbH {s:HS K} {d:Nat} (h:d∈rings s):d < s.n/\Reach s d d:=by
 unfold rings at h
 rw [List.mem_filter] at h
 exact ⟨List.mem_range.mp h.1,@of_decide_eq_true _ (_) h.2⟩
theorem Core.settle:∀ {f:Nat} {s:HS K},Core s none->Core (TH.settle ord f s) none
 | 0,s,c=>c
 | f+1,s,c=>by
  unfold TH.settle
  split
  . exact c
  . rename_i d hd
    have:=zbH (List.mem_of_getLast? hd)
    exact Core.settle (c.drop ord (.inr (zaJ this.2)))
theorem Core.za6 {s:HS K} (c:Core s none):Core (TH.za6 s) none:=by
 have o:=c.out s.n (Nat.le_refl _)
 have dd:∀ e,e≠s.n->up s.deed s.n ⟨.zas,[],none⟩ e=s.deed e:=λ e he=>zan he
 have ds:up s.deed s.n (⟨.zas,[],none⟩:Deed K) s.n=⟨.zas,[],none⟩:=zag
 have nn:∀ {e},(s.deed e).act->e≠s.n:=λ h z=>by subst z; exact zeE h o.1
 have nk:∀ e∈s.kept,e≠s.n:=λ e he z=>by subst z; have:=(c.zdj _).mp he; rw [o.1] at this; cases this
 have dn:∀ e,(up s.deed s.n ⟨.zas,[],none⟩ e).done=(s.deed e).done:=λ e=>by
   by_cases h:e=s.n
   . subst h; rw [ds,o.2]
   . rw [dd e h]
 have kb:zau (TH.za6 s)=zau s:=zbt λ e _=>dn e
 refine ⟨λ e he=>?_,λ k p hp=>?_,c.hNd,c.hEx,λ k p hp=>?_,c.rNd,λ e _ he=>?_,c.zfN,λ e he a ha=>?_,c.zfe,λ e he k v hv=>?_,λ k hk=>?_,?_,λ e he=>?_,λ e=>?_,c.zhn⟩
 . have he':s.n+1<=e:=he
   show (up s.deed s.n _ e).st=_/\(up s.deed s.n _ e).done=_
   rw [dd e (by omega)]; exact c.out e (by omega)
 . have q:=c.hAct k p hp
   show (up s.deed s.n _ p.1).act
   rw [dd _ (nn q)]; exact q
 . have q:=c.rAct k p hp
   show (up s.deed s.n _ p.1).st=_/\∃ a,(up s.deed s.n _ p.1).wish=some a/\_
   rw [dd _ (nn (.inr q.1))]; exact q
 . have he':(up s.deed s.n ⟨.zas,[],none⟩ e).st=.waiting:=he
   have hne:e≠s.n:=λ z=>by subst z; rw [ds] at he'; cases he'
   rw [dd e hne] at he'
   obtain ⟨a,q1,q2⟩:=c.wRow e (λ z=>by cases z) he'
   exact ⟨a,by show (up s.deed s.n _ e).wish=_; rw [dd e hne]; exact q1,q2⟩
 . have ha':a∈(up s.deed s.n ⟨.zas,[],none⟩ e).done:=ha
   by_cases h:e=s.n
   . subst h; rw [ds] at ha'; cases ha'
   . rw [dd e h] at ha'
     have he':(up s.deed s.n ⟨.zas,[],none⟩ e).act:=he
     rw [dd e h] at he'
     exact c.zfv e he' a ha'
 . have hv':zaN (up s.deed s.n ⟨.zas,[],none⟩ e).done k=some v:=hv
   by_cases h:e=s.n
   . subst h; rw [ds] at hv'; cases hv'
   . have he':(up s.deed s.n ⟨.zas,[],none⟩ e).act:=he
     rw [dd e h] at he' hv'
     exact c.bOwn e he' k v hv'
 . rw [kb]
   refine c.zgv k λ e he=>?_
   have q:zaN (up s.deed s.n ⟨.zas,[],none⟩ e).done k=none:=hk e (by show (up s.deed s.n _ e).act; rw [dd e (nn he)]; exact he)
   rw [dn e] at q; exact q
 . rw [kb,<-c.ser]; exact zcp λ e _=>dn e
 . rw [kb]
   show (replay (up s.deed s.n _ e).done _).isSome=true
   by_cases h:e=s.n
   . subst h; rw [ds]; rfl
   . have he':(up s.deed s.n ⟨.zas,[],none⟩ e).act:=he
     rw [dd e h] at he' ⊢
     exact c.actR e he'
 . show e∈s.kept↔(up s.deed s.n _ e).st=.kept
   by_cases h:e=s.n
   . subst h; rw [ds]; exact ⟨λ z=>absurd rfl (nk _ z),λ z=>by cases z⟩
   . rw [dd e h]; exact c.zdj e
theorem Core.see {s:HS K} {x:Option Nat} {k:K} (c:Core s x):Core (TH.see s k) x :=
 ⟨c.out,c.hAct,c.hNd,c.hEx,c.rAct,c.rNd,c.wRow,c.zfN,c.zfv,λ k' h=>c.zfe k' λ z=>h (by
  show k'∈(if k∈s.seen then s.seen else s.seen++[k])
  split
  . exact z
  . exact List.mem_append_left _ z),c.bOwn,c.zgv,c.ser,c.actR,c.zdj,c.zhn⟩
theorem zb5 {s:HS K} {k:K}:k∈(TH.see s k).seen:=by
 show k∈(if k∈s.seen then s.seen else s.seen++[k])
 split
 . assumption
 . simp
theorem zc0 {h:List (Nat×Bool)} {d:Nat} {w:Bool} (e:look h d=some w):(d,w)∈h:=by
 unfold look at e
 cases q:h.find? λ p=>p.1 == d with
 | none=>rw [q] at e; cases e
 | some p =>
  rw [q] at e
  have e2:p.2=w:=Option.some.inj e
  have e1:p.1=d:=by simpa using List.find?_some q
  have:=List.mem_of_find?_eq_some q
  rw [<-e1,<-e2]; exact this
theorem zcO {h:List (Nat×Bool)} {d:Nat} {w:Bool} (n:(h.map (·.1)).Nodup) (m:(d,w)∈h):look h d=some w:=by
 unfold look
 induction h with
 | nil=>cases m
 | cons p r ih =>
  rw [List.map_cons,List.nodup_cons] at n
  by_cases e:p.1=d
  . rcases List.mem_cons.mp m with z | z
    . rw [<-z]; simp
    . exact absurd (List.mem_map.mpr ⟨_,z,rfl⟩) (e ▸ n.1)
  . rcases List.mem_cons.mp m with z | z
    . exact absurd (by rw [<-z]) e
    . rw [List.find?_cons_of_neg (by simpa using e)]
      exact ih n.2 z
theorem Core.wait {s:HS K} {d:Nat} {a:Act K} (c:Core s none) (hd:(s.deed d).st=.zas) (hk:a.key∈s.seen) (h1:∀ w',(d,w')∈s.held a.key->w'=false/\a.wr=true):Core (TH.wait s d a) none:=by
 have dd:∀ e,e≠d->up s.deed d { s.deed d with st:=.waiting,wish:=some a } e=s.deed e:=λ e he=>zan he
 have ds:up s.deed d { s.deed d with st:=.waiting,wish:=some a } d={ s.deed d with st:=.waiting,wish:=some a }:=zag
 have dn:∀ e,(up s.deed d { s.deed d with st:=.waiting,wish:=some a } e).done=(s.deed e).done:=λ e=>by
   by_cases h:e=d
   . subst h; rw [ds]
   . rw [dd e h]
 have actE:∀ e,(up s.deed d { s.deed d with st:=.waiting,wish:=some a } e).act↔(s.deed e).act:=λ e=>by
   by_cases h:e=d
   . subst h; rw [ds]; exact ⟨λ _=>.inl hd,λ _=>.inr rfl⟩
   . rw [dd e h]
 have nk:∀ e∈s.kept,e≠d:=λ e he z=>by subst z; have:=(c.zdj _).mp he; rw [hd] at this; cases this
 have nor:∀ k w',(d,w')∉s.rows k:=λ k w' z=>by
   have:=(c.rAct k _ z).1
   have this':(s.deed d).st=.waiting:=this
   rw [hd] at this'; cases this'
 have kb:zau (TH.wait s d a)=zau s:=zbt λ e _=>dn e
 have rk:(TH.wait s d a).rows a.key=if has (s.held a.key) d then (d,a.wr)::s.rows a.key else s.rows a.key++[(d,a.wr)]:=zag
 have rn:∀ k,k≠a.key->(TH.wait s d a).rows k=s.rows k:=λ k h=>zan h
 have rm:∀ k p,p∈(TH.wait s d a).rows k↔p∈s.rows k\/(k=a.key/\p=(d,a.wr)):=λ k p=>by
   by_cases h:k=a.key
   . subst h
     rw [rk]
     split
     . rw [List.mem_cons]; exact ⟨λ z=>z.elim (λ y=>.inr ⟨rfl,y⟩) .inl,λ z=>z.elim .inr λ y=>.inl y.2⟩
     . rw [List.mem_append]; exact ⟨λ z=>z.elim .inl λ y=>.inr ⟨rfl,by simpa using y⟩,λ z=>z.elim .inl λ y=>.inr (by simp [y.2])⟩
   . rw [rn k h]; exact ⟨.inl,λ z=>z.elim id λ y=>absurd y.1 h⟩
 refine ⟨λ e he=>?_,λ k p hp=>?_,c.hNd,c.hEx,λ k p hp=>?_,λ k=>?_,λ e _ he=>?_,λ k e v v' q1 q2=>?_,λ e he b hb=>?_,λ k hk'=>?_,λ e he k v hv=>?_,λ k hk'=>?_,?_,λ e he=>?_,λ e=>?_,c.zhn⟩
 . have he':s.n<=e:=he
   have:e≠d:=λ z=>by subst z; have:=c.lt (d:=e) (.inl hd); omega
   show (up s.deed d _ e).st=_/\(up s.deed d _ e).done=_
   rw [dd e this]; exact c.out e he'
 . exact (actE p.1).mpr (c.hAct k p hp)
 . show (up s.deed d _ p.1).st=_/\∃ a',(up s.deed d _ p.1).wish=some a'/\_
   rcases (rm k p).mp hp with z | ⟨z1,z2⟩
   . have:p.1≠d:=λ y=>nor k p.2 (by rw [<-y]; exact z)
     rw [dd _ this]; exact c.rAct k p z
   . subst z2; rw [ds]; exact ⟨rfl,a,rfl,z1.symm,rfl⟩
 . by_cases h:k=a.key
   . subst h
     rw [rk]
     split
     . rw [List.map_cons,List.nodup_cons]
       exact ⟨λ z=>by obtain ⟨p,hp,e⟩:=List.mem_map.mp z; exact nor _ p.2 (by have e':p.1=d:=e; rw [<-e']; exact hp),c.rNd _⟩
     . rw [List.map_append]
       refine List.nodup_append.mpr ⟨c.rNd _,by simp,λ x hx y hy=>?_⟩
       have hy':y=d:=by simpa using hy
       subst hy'
       rintro rfl
       obtain ⟨p,hp,e⟩:=List.mem_map.mp hx
       exact nor _ p.2 (by have e':p.1=x:=e; rw [<-e']; exact hp)
   . rw [rn k h]; exact c.rNd k
 . have he':(up s.deed d { s.deed d with st:=.waiting,wish:=some a } e).st=.waiting:=he
   show ∃ b,(up s.deed d _ e).wish=some b/\_
   by_cases h:e=d
   . subst h; rw [ds]; exact ⟨a,rfl,(rm _ _).mpr (.inr ⟨rfl,rfl⟩)⟩
   . rw [dd e h] at he' ⊢
     obtain ⟨b,q1,q2⟩:=c.wRow e (λ z=>by cases z) he'
     exact ⟨b,q1,(rm _ _).mpr (.inl q2)⟩
 . rcases (rm k _).mp q1 with z | ⟨z1,z2⟩
   . exact c.zfN k e v v' z q2
   . have e1:e=d:=congrArg Prod.fst z2
     have e2:v=a.wr:=congrArg Prod.snd z2
     subst e1 e2 z1
     exact h1 v' q2
 . have hb':b∈(up s.deed d { s.deed d with st:=.waiting,wish:=some a } e).done:=hb
   rw [dn e] at hb'
   exact c.zfv e ((actE e).mp he) b hb'
 . have:k≠a.key:=λ z=>hk' (z ▸ hk)
   obtain ⟨q1,q2⟩:=c.zfe k hk'
   exact ⟨q1,by rw [rn k this]; exact q2⟩
 . have hv':zaN (up s.deed d { s.deed d with st:=.waiting,wish:=some a } e).done k=some v:=hv
   rw [dn e] at hv'
   exact c.bOwn e ((actE e).mp he) k v hv'
 . rw [kb]
   refine c.zgv k λ e he=>?_
   have q:zaN (up s.deed d { s.deed d with st:=.waiting,wish:=some a } e).done k=none:=hk' e ((actE e).mpr he)
   rw [dn e] at q; exact q
 . rw [kb,<-c.ser]; exact zcp λ e _=>dn e
 . rw [kb]
   show (replay (up s.deed d _ e).done _).isSome=true
   rw [dn e]; exact c.actR e ((actE e).mp he)
 . show e∈s.kept↔(up s.deed d _ e).st=.kept
   by_cases h:e=d
   . subst h; rw [ds]; exact ⟨λ z=>absurd rfl (nk _ z),λ z=>by cases z⟩
   . rw [dd e h]; exact c.zdj e
theorem Core.weaken {s:HS K} {x:Option Nat} (c:Core s none):Core s x :=
 ⟨c.out,c.hAct,c.hNd,c.hEx,c.rAct,c.rNd,λ d _=>c.wRow d (λ z=>by cases z),c.zfN,c.zfv,c.zfe,c.bOwn,c.zgv,c.ser,c.actR,c.zdj,c.zhn⟩
theorem Core.wish {s:HS K} {d:Nat} {a:Act K} (c:Core s none) (hd:(s.deed d).st=.zas):Core (TH.wish ord s d a) none:=by
 have c1:Core (TH.see s a.key) none:=c.see
 have nor:∀ k w',(d,w')∉(TH.see s a.key).rows k:=λ k w' z=>by
   have:=(c1.rAct k _ z).1
   have this':(s.deed d).st=.waiting:=this
   rw [hd] at this'; cases this'
 unfold TH.wish
 dsimp only
 by_cases h1:look ((TH.see s a.key).held a.key) d=some a.wr\/look ((TH.see s a.key).held a.key) d=some true
 . rw [if_pos h1]
   rcases h1 with h1 | h1
   . exact Core.doIt (w:=a.wr) c1.weaken (.inl hd) nor (zc0 h1) id
   . exact Core.doIt (w:=true) c1.weaken (.inl hd) nor (zc0 h1) λ _=>rfl
 . rw [if_neg h1]
   have hw:∀ w',(d,w')∈(TH.see s a.key).held a.key->w'=false/\a.wr=true:=λ w' z=>by
     have q:=zcO (c1.hNd _) z
     cases hw':w' with
     | true=>exact absurd (.inr (hw' ▸ q)) h1
     | false =>
       cases ha:a.wr with
       | true=>exact ⟨rfl,rfl⟩
       | false=>exact absurd (.inl (by rw [ha,q,hw'])) h1
   by_cases h2:lets ((TH.see s a.key).held a.key) d a.wr=true/\(has ((TH.see s a.key).held a.key) d=true\/(TH.see s a.key).rows a.key=[])
   . rw [if_pos h2]
     refine Core.doIt (w:=a.wr) (c1.weaken.take (.inl hd) h2.1 (λ hf w' z=>?_) (λ w'=>nor _ w') zb5) (.inl hd) nor ?_ id
     . have:=(hw w' z).2; rw [hf] at this; cases this
     . show (d,a.wr)∈up (TH.see s a.key).held a.key _ a.key
       rw [zag]; exact zaX.mpr (.inl rfl)
   . rw [if_neg h2]
     exact Core.settle ord (c1.wait hd zb5 hw)
end
end TH
end
section
namespace TH
section
variable {K:Type} [DecidableEq K]
theorem zcs (s:HS K) (d:Nat) (a:Act K):(doIt s d a).held=s.held:=by unfold doIt; split <;> rfl
theorem zcR (s:HS K) (d:Nat) (a:Act K):(doIt s d a).rows=s.rows:=by unfold doIt; split <;> rfl
theorem zca (s:HS K) (d:Nat) (a:Act K):(doIt s d a).seen=s.seen:=by unfold doIt; split <;> rfl
theorem zdK (s:HS K) (d:Nat) (a:Act K):(doIt s d a).n=s.n:=by unfold doIt; split <;> rfl
theorem zei (s:HS K) (d:Nat) (a:Act K):(doIt s d a).kept=s.kept:=by unfold doIt; split <;> rfl
theorem zcC (s:HS K) (d:Nat) (a:Act K) {e:Nat} (h:e≠d):(doIt s d a).deed e=s.deed e:=by unfold doIt; split <;> exact zan h
theorem zhw (s:HS K) (d:Nat) (a:Act K):((doIt s d a).deed d).st=.zas:=by
 unfold doIt
 split
 . show (up s.deed d _ d).st=_; rw [zag]
 . show (up s.deed d _ d).st=_; rw [zag]
theorem zes {s:HS K} {k:K} {d:Nat} {w:Bool} {r:List (Nat×Bool)} {a:Act K} {f:Nat} (hr:s.rows k=(d,w)::r) (hl:lets (s.held k) d w=true) (ha:(s.deed d).wish=some a) :
  zbz (f+1) s k=zbz f (doIt (take { s with rows:=up s.rows k r } d k w) d a) k:=by
 conv=>lhs; unfold zbz
 rw [hr]
 simp only [hl,if_true,ha]
theorem zer {s:HS K} {k:K} {d:Nat} {w:Bool} {r:List (Nat×Bool)} {f:Nat} (hr:s.rows k=(d,w)::r) (hl:lets (s.held k) d w=false):zbz f s k=s:=by
 cases f with
 | zero=>rfl
 | succ f =>
  unfold zbz
  rw [hr]
  simp [hl]
theorem zfr {s:HS K} {k:K} {f:Nat} (hr:s.rows k=[]):zbz f s k=s:=by
 cases f with
 | zero=>rfl
 | succ f=>unfold zbz; rw [hr]
theorem zeh {k:K} (P:HS K->Prop) (step:∀ s d w r a,Core s none->s.rows k=(d,w)::r->lets (s.held k) d w=true->(s.deed d).wish=some a->P s->P (doIt (take { s with rows:=up s.rows k r } d k w) d a)) :
  ∀ (f:Nat) (s:HS K),Core s none->P s->P (zbz f s k)
 | 0,s,c,h=>h
 | f+1,s,c,h=>by
  cases hr:s.rows k with
  | nil=>rw [zfr hr]; exact h
  | cons p r =>
   obtain ⟨d,w⟩:=p
   cases hl:lets (s.held k) d w with
   | false=>rw [zer hr hl]; exact h
   | true =>
    obtain ⟨_,a,ha,_⟩:=c.rAct k (d,w) (by rw [hr]; exact List.mem_cons_self)
    rw [zes hr hl ha]
    exact zeh P step f _ (c.zoV hr hl ha) (step s d w r a c hr hl ha h)
theorem zbA (P:HS K->Prop) (step:∀ s k d w r a,Core s none->s.rows k=(d,w)::r->lets (s.held k) d w=true->(s.deed d).wish=some a->P s->P (doIt (take { s with rows:=up s.rows k r } d k w) d a)) :
  ∀ (ks:List K) (s:HS K),Core s none->P s->P (zaF s ks)
 | [],s,c,h=>h
 | k::r,s,c,h=>by
  unfold zaF
  exact zbA P step r _ c.zbz (zeh P (λ s=>step s k) _ s c h)
def zm3 (s:HS K) (k:K):Prop:=∀ d w r,s.rows k=(d,w)::r->lets (s.held k) d w=false
def Head (s:HS K):Prop:=∀ k,zm3 s k
theorem zht {k k':K} (h:k'≠k) (f:Nat) (s:HS K) (c:Core s none):(zbz f s k).rows k'=s.rows k'/\(zbz f s k).held k'=s.held k':=by
 refine zeh (k:=k) (λ t=>t.rows k'=s.rows k'/\t.held k'=s.held k') (λ t d w r a _ _ _ _ q=>?_) f s c ⟨rfl,rfl⟩
 rw [zcR,zcs]
 exact ⟨(zan h).trans q.1,(zan h).trans q.2⟩
theorem ziA {k:K}:∀ (f:Nat) (s:HS K),Core s none->(s.rows k).length<=f->zm3 (zbz f s k) k
 | 0,s,c,h=>λ d w r e=>by
  have:s.rows k=[]:=List.length_eq_zero_iff.mp (by omega)
  have e':s.rows k=(d,w)::r:=e
  rw [this] at e'; cases e'
 | f+1,s,c,h=>by
  cases hr:s.rows k with
  | nil=>rw [zfr hr]; intro d w r e; rw [hr] at e; cases e
  | cons p r =>
   obtain ⟨d,w⟩:=p
   cases hl:lets (s.held k) d w with
   | false=>rw [zer hr hl]; intro d' w' r' e; rw [hr] at e; cases e; exact hl
   | true =>
    obtain ⟨_,a,ha,_⟩:=c.rAct k (d,w) (by rw [hr]; exact List.mem_cons_self)
    rw [zes hr hl ha]
    refine ziA f _ (c.zoV hr hl ha) ?_
    rw [zcR]
    show (up s.rows k r k).length<=f
    rw [zag]
    rw [hr] at h
    simpa using h
theorem zhs:∀ (ks:List K) (s:HS K),Core s none->∀ k,(k∈ks->zm3 (zaF s ks) k)/\(k∉ks->(zaF s ks).rows k=s.rows k/\(zaF s ks).held k=s.held k)
 | [],s,c,k=>⟨λ h=>(by cases h),λ _=>⟨rfl,rfl⟩⟩
 | k₀::r,s,c,k=>by
  unfold zaF
  obtain ⟨h1,h2⟩:=zhs r _ (c.zbz (k:=k₀) (f:=(s.rows k₀).length)) k
  refine ⟨λ hk=>?_,λ hk=>?_⟩
  . by_cases hr:k∈r
    . exact h1 hr
    . have e:k=k₀:=(List.mem_cons.mp hk).resolve_right hr
      subst e
      obtain ⟨q1,q2⟩:=h2 hr
      intro d w r' e
      rw [q1] at e
      rw [q2]
      exact ziA _ s c (Nat.le_refl _) d w r' e
  . obtain ⟨q1,q2⟩:=h2 λ z=>hk (List.mem_cons_of_mem _ z)
    obtain ⟨p1,p2⟩:=zht (k':=k) (λ z=>hk (by rw [z]; exact List.mem_cons_self)) (s.rows k₀).length s c
    exact ⟨q1.trans p1,q2.trans p2⟩
theorem zdA (ks:List K) (s:HS K) (c:Core s none):(zaF s ks).seen=s.seen :=
 zbA (λ t=>t.seen=s.seen) (λ t k d w r a _ _ _ _ q=>by rw [zca]; exact q) ks s c rfl
theorem zjj (ks:List K) (s:HS K) (c:Core s none):(zaF s ks).n=s.n :=
 zbA (λ t=>t.n=s.n) (λ t k d w r a _ _ _ _ q=>by rw [zdK]; exact q) ks s c rfl
variable (ord:List K->List K) (hord:∀ l k,k∈ord l↔k∈l)
include hord
theorem zkH {s:HS K} {d:Nat} (c:Core (letGo s d) none):Head (free ord s d):=by
 intro k
 by_cases hk:k∈s.seen
 . exact (zhs (ord s.seen) _ c k).1 ((hord _ _).mpr hk)
 . intro d' w r e
   have c':Core (free ord s d) none:=c.zaF
   have:=(c'.zfe k (by unfold free; rw [zdA _ _ c]; exact hk)).2
   rw [this] at e; cases e
theorem Head.keep {s:HS K} {d:Nat} (c:Core s none) (hd:(s.deed d).act):Head (TH.keep ord s d):=zkH ord hord (c.keeps hd)
theorem Head.drop {s:HS K} {d:Nat} (c:Core s none) (hd:(s.deed d).act):Head (TH.drop ord s d):=zkH ord hord (c.drops hd)
theorem Head.settle:∀ {f:Nat} {s:HS K},Core s none->Head s->Head (TH.settle ord f s)
 | 0,s,c,h=>h
 | f+1,s,c,h=>by
  unfold TH.settle
  split
  . exact h
  . rename_i d hd
    have q:=zbH (List.mem_of_getLast? hd)
    have ha:(s.deed d).act:=.inr (zaJ q.2)
    exact Head.settle (c.drop ord ha) (Head.drop ord hord c ha)
theorem zrz {h:List (Nat×Bool)} {d:Nat}:has h d=true↔∃ w,(d,w)∈h:=zhM
theorem Head.wish {s:HS K} {d:Nat} {a:Act K} (c:Core s none) (h:Head s) (hd:(s.deed d).st=.zas):Head (TH.wish ord s d a):=by
 have c1:Core (TH.see s a.key) none:=c.see
 have h':Head (TH.see s a.key):=h
 have nor:∀ k w',(d,w')∉(TH.see s a.key).rows k:=λ k w' z=>by
   have:=(c1.rAct k _ z).1
   have this':(s.deed d).st=.waiting:=this
   rw [hd] at this'; cases this'
 unfold TH.wish
 dsimp only
 by_cases h1:look ((TH.see s a.key).held a.key) d=some a.wr\/look ((TH.see s a.key).held a.key) d=some true
 . rw [if_pos h1]
   intro k e w r q
   rw [zcR] at q; rw [zcs]
   exact h' k e w r q
 . rw [if_neg h1]
   have hw:∀ w',(d,w')∈(TH.see s a.key).held a.key->w'=false/\a.wr=true:=λ w' z=>by
     have q:=zcO (c1.hNd _) z
     cases hw':w' with
     | true=>exact absurd (.inr (hw' ▸ q)) h1
     | false =>
       cases ha:a.wr with
       | true=>exact ⟨rfl,rfl⟩
       | false=>exact absurd (.inl (by rw [ha,q,hw'])) h1
   by_cases h2:lets ((TH.see s a.key).held a.key) d a.wr=true/\(has ((TH.see s a.key).held a.key) d=true\/(TH.see s a.key).rows a.key=[])
   . rw [if_pos h2]
     intro k e w r q
     rw [zcR] at q; rw [zcs]
     have q':(TH.see s a.key).rows k=(e,w)::r:=q
     show lets (up (TH.see s a.key).held a.key _ k) e w=false
     by_cases hk:k=a.key
     . subst hk
       rw [zag]
       rcases h2.2 with z | z
       . obtain ⟨w',hw'⟩:=zrz ord hord |>.mp z
         have aw:=(hw w' hw').2
         have hne:e≠d:=λ y=>nor a.key w (by rw [<-y,q']; exact List.mem_cons_self)
         cases hl:lets (zbi ((TH.see s a.key).held a.key) d a.wr) e w with
         | false=>rfl
         | true =>
          have:=(zmJ.mp hl (d,a.wr) (zaX.mpr (.inl rfl)) (Ne.symm hne)).2
          have this':a.wr=false:=this
          rw [aw] at this'; cases this'
       . rw [z] at q'; cases q'
     . rw [zan hk]; exact h' k e w r q'
   . rw [if_neg h2]
     refine Head.settle ord hord (c1.wait hd zb5 hw) λ k e w r q=>?_
     show lets ((TH.see s a.key).held k) e w=false
     by_cases hk:k=a.key
     . subst hk
       have q':(if has ((TH.see s a.key).held a.key) d then (d,a.wr)::(TH.see s a.key).rows a.key else (TH.see s a.key).rows a.key++[(d,a.wr)])=(e,w)::r:=by
         rw [<-q]; exact zag.symm
       cases hh:has ((TH.see s a.key).held a.key) d with
       | true =>
         rw [hh] at q'
         simp only [if_true] at q'
         injection q' with e1 e2
         have e3:d=e:=congrArg Prod.fst e1
         have e4:a.wr=w:=congrArg Prod.snd e1
         subst e3 e4
         cases hl:lets ((TH.see s a.key).held a.key) d a.wr with
         | false=>rfl
         | true=>exact absurd ⟨hl,.inl hh⟩ h2
       | false =>
         rw [hh] at q'
         simp only [Bool.false_eq_true,if_false] at q'
         cases hr:(TH.see s a.key).rows a.key with
         | nil =>
          rw [hr] at q'
          simp only [List.nil_append] at q'
          injection q' with e1 e2
          have e3:d=e:=congrArg Prod.fst e1
          have e4:a.wr=w:=congrArg Prod.snd e1
          subst e3 e4
          cases hl:lets ((TH.see s a.key).held a.key) d a.wr with
          | false=>rfl
          | true=>exact absurd ⟨hl,.inr hr⟩ h2
         | cons p t =>
          rw [hr] at q'
          simp only [List.cons_append] at q'
          injection q' with e1 e2
          subst e1
          exact h' a.key e w t hr
     . have q':(TH.see s a.key).rows k=(e,w)::r:=by rw [<-q]; exact (zan hk).symm
       exact h' k e w r q'
omit hord
def Acyc (s:HS K):Prop:=∀ d,¬ Reach s d d
theorem Reach.mono {s t:HS K} (h:∀ d e,e∈zbP t d->e∈zbP s d) {d e:Nat} (r:Reach t d e):Reach s d e:=by
 induction r with
 | one q=>exact .one (h _ _ q)
 | step q _ ih=>exact .step (h _ _ q) ih
theorem Acyc.mono {s t:HS K} (a:Acyc s) (h:∀ d e,e∈zbP t d->e∈zbP s d):Acyc t:=λ d r=>a d (r.mono h)
theorem Reach.trans {s:HS K} {d e f:Nat} (r:Reach s d e) (q:Reach s e f):Reach s d f:=by
 induction r with
 | one z=>exact .step z q
 | step z _ ih=>exact .step z (ih q)
theorem zbw {s:HS K} {d e:Nat}:e∈zbP s d↔∃ a,(s.deed d).st=.waiting/\(s.deed d).wish=some a /\
   ((∃ w,(e,w)∈(s.rows a.key).takeWhile λ p=>p.1 != d)\/∃ w,(e,w)∈s.held a.key/\e≠d/\(a.wr=true\/w=true)):=by
 unfold zbP
 split
 . rename_i a h1 h2
   rw [List.mem_append,List.mem_map,List.mem_map]
   refine ⟨λ z=>⟨a,h1,h2,?_⟩,λ ⟨b,q1,q2,z⟩=>?_⟩
   . rcases z with ⟨p,hp,rfl⟩ | ⟨p,hp,rfl⟩
     . exact .inl ⟨p.2,hp⟩
     . rw [List.mem_filter] at hp
       obtain ⟨y1,y2⟩:=hp
       simp only [Bool.and_eq_true,bne_iff_ne,Bool.or_eq_true] at y2
       exact .inr ⟨p.2,y1,y2.1,y2.2⟩
   . rw [h2] at q2; cases q2
     rcases z with ⟨w,hw⟩ | ⟨w,hw,y1,y2⟩
     . exact .inl ⟨_,hw,rfl⟩
     . refine .inr ⟨(e,w),List.mem_filter.mpr ⟨hw,?_⟩,rfl⟩
       simp only [Bool.and_eq_true,bne_iff_ne,Bool.or_eq_true]
       exact ⟨y1,y2⟩
 . rename_i h
   refine ⟨λ z=>(by cases z),λ ⟨a,q1,q2,_⟩=>(h a q1 q2).elim⟩
theorem zhP {l:List (Nat×Bool)} {d e:Nat} (hne:e≠d) {p:Nat×Bool}:p∈(less l d).takeWhile (λ p=>p.1 != e)->p∈l.takeWhile λ p=>p.1 != e:=by
 induction l with
 | nil=>exact id
 | cons x r ih =>
  intro hp
  by_cases hx:x.1=d
  . have e1:less (x::r) d=less r d:=by unfold less; rw [List.filter_cons_of_neg (by simp [hx])]
    rw [e1] at hp
    rw [List.takeWhile_cons_of_pos (by simp [hx]; exact Ne.symm hne)]
    exact List.mem_cons_of_mem _ (ih hp)
  . have e1:less (x::r) d=x::less r d:=by unfold less; rw [List.filter_cons_of_pos (by simp [hx])]
    rw [e1] at hp
    by_cases hy:x.1=e
    . rw [List.takeWhile_cons_of_neg (by simp [hy])] at hp; cases hp
    . rw [List.takeWhile_cons_of_pos (by simp [hy])] at hp ⊢
      rcases List.mem_cons.mp hp with z | z
      . exact List.mem_cons.mpr (.inl z)
      . exact List.mem_cons_of_mem _ (ih z)
theorem zeF {s:HS K} {d:Nat} {t:DS} {bk:Book K} {kp:List Nat} {lg:List (Row K)} (ht:t≠.waiting):∀ e x,x∈zbP (letGo { s with deed:=up s.deed d { s.deed d with st:=t },book:=bk,kept:=kp,log:=lg } d) e->x∈zbP s e:=by
 intro e x hx
 obtain ⟨a,h1,h2,h3⟩:=zbw.mp hx
 have hne:e≠d:=λ z=>by
   subst z
   have h1':(up s.deed e { s.deed e with st:=t } e).st=.waiting:=h1
   rw [zag] at h1'
   exact ht h1'
 have de:up s.deed d { s.deed d with st:=t } e=s.deed e:=zan hne
 have h1':(up s.deed d { s.deed d with st:=t } e).st=.waiting:=h1
 have h2':(up s.deed d { s.deed d with st:=t } e).wish=some a:=h2
 rw [de] at h1' h2'
 refine zbw.mpr ⟨a,h1',h2',?_⟩
 rcases h3 with ⟨w,hw⟩ | ⟨w,hw,y1,y2⟩
 . exact .inl ⟨w,zhP hne hw⟩
 . exact .inr ⟨w,(zcI.mp hw).1,y1,y2⟩
theorem zjM {s:HS K} {k:K} {d:Nat} {w:Bool} {r:List (Nat×Bool)} {a:Act K} (hr:s.rows k=(d,w)::r) :
   ∀ e x,x∈zbP (doIt (take { s with rows:=up s.rows k r } d k w) d a) e->x∈zbP s e:=by
 intro e x hx
 obtain ⟨b,h1,h2,h3⟩:=zbw.mp hx
 have hne:e≠d:=λ z=>by
   subst z
   rw [zhw] at h1; cases h1
 rw [zcC _ _ _ hne] at h1 h2
 rw [zcR,zcs] at h3
 refine zbw.mpr ⟨b,h1,h2,?_⟩
 by_cases hk:b.key=k
 . have e1:(take { s with rows:=up s.rows k r } d k w).rows b.key=r:=by show up s.rows k r b.key=r; rw [hk,zag]
   have e2:(take { s with rows:=up s.rows k r } d k w).held b.key=zbi (s.held k) d w:=by show up s.held k (zbi (s.held k) d w) b.key=_; rw [hk,zag]
   rw [e1,e2] at h3
   rw [hk,hr,List.takeWhile_cons_of_pos (by simp; exact Ne.symm hne)]
   rcases h3 with ⟨v,hv⟩ | ⟨v,hv,y1,y2⟩
   . exact .inl ⟨v,List.mem_cons_of_mem _ hv⟩
   . rcases zaX.mp hv with z | ⟨z1,z2⟩
     . exact .inl ⟨w,by have z':x=d:=congrArg Prod.fst z; rw [z']; exact List.mem_cons_self⟩
     . exact .inr ⟨v,z1,y1,y2⟩
 . have e1:(take { s with rows:=up s.rows k r } d k w).rows b.key=s.rows b.key:=zan hk
   have e2:(take { s with rows:=up s.rows k r } d k w).held b.key=s.held b.key:=zan hk
   rw [e1,e2] at h3
   exact h3
theorem zdZ {s:HS K} {ks:List K} (c:Core s none):∀ e x,x∈zbP (zaF s ks) e->x∈zbP s e :=
 zbA (λ t=>∀ e x,x∈zbP t e->x∈zbP s e) (λ t k d w r a _ hr _ _ q e x hx=>q e x (zjM hr e x hx)) ks s c λ _ _ h=>h
theorem Acyc.keep {s:HS K} {d:Nat} (c:Core s none) (hd:(s.deed d).act) (a:Acyc s):Acyc (TH.keep ord s d) :=
 a.mono λ e x hx=>zeF (t:=.kept) (by decide) e x (zdZ (c.keeps hd) e x hx)
theorem Acyc.drop {s:HS K} {d:Nat} (c:Core s none) (hd:(s.deed d).act) (a:Acyc s):Acyc (TH.drop ord s d) :=
 a.mono λ e x hx=>zeF (t:=.dropped) (by decide) e x (zdZ (c.drops hd) e x hx)
def actB (D:Deed K):Bool:=D.st == .zas || D.st == .waiting
theorem zaP {D:Deed K}:actB D=true↔D.act:=by unfold actB Deed.act; simp
def actN (s:HS K):Nat:=(List.range s.n).countP λ d=>actB (s.deed d)
theorem zfx {α:Type} {p q:α->Bool}:∀ {l:List α},(∀ x∈l,q x=true->p x=true)->(∃ x∈l,p x=true/\q x=false)->l.countP q < l.countP p
 | [],_,⟨_,h,_⟩=>by cases h
 | a::r,h,⟨x,hx,px,qx⟩=>by
  have hr:∀ y∈r,q y=true->p y=true:=λ y hy=>h y (List.mem_cons_of_mem _ hy)
  have le:r.countP q<=r.countP p:=List.countP_mono_left hr
  rcases List.mem_cons.mp hx with z | z
  . subst z
    rw [List.countP_cons_of_pos px,List.countP_cons_of_neg (by simp [qx])]
    omega
  . have lt:=zfx hr ⟨x,z,px,qx⟩
    by_cases hq:q a=true
    . rw [List.countP_cons_of_pos hq,List.countP_cons_of_pos (h a List.mem_cons_self hq)]; omega
    . rw [List.countP_cons_of_neg hq]
      by_cases hp:p a=true
      . rw [List.countP_cons_of_pos hp]; omega
      . rw [List.countP_cons_of_neg hp]; exact lt
theorem znG {s:HS K} {ks:List K} (c:Core s none):∀ e,((zaF s ks).deed e).act↔(s.deed e).act :=
 zbA (λ t=>∀ e,(t.deed e).act↔(s.deed e).act) (λ t k d w r a c' hr _ _ q e=>by
  by_cases h:e=d
  . subst h
    have hw:=(c'.rAct k (e,w) (by rw [hr]; exact List.mem_cons_self)).1
    exact ⟨λ _=>(q e).mp (.inr hw),λ _=>.inl (zhw _ _ _)⟩
  . rw [zcC _ _ _ h]; exact q e) ks s c λ _=>Iff.rfl
theorem zqm {s:HS K} {d:Nat} (c:Core s none) (hd:(s.deed d).act) (e:Nat):((TH.drop ord s d).deed e).act↔e≠d/\(s.deed e).act:=by
 refine (znG (c.drops hd) e).trans ?_
 show (up s.deed d { s.deed d with st:=.dropped } e).act↔_
 by_cases h:e=d
 . subst h; rw [zag]; exact ⟨λ z=>(by rcases z with z | z <;> cases z),λ z=>absurd rfl z.1⟩
 . rw [zan h]; exact ⟨λ z=>⟨h,z⟩,λ z=>z.2⟩
theorem zko {s:HS K} {d:Nat} (c:Core s none) (hd:(s.deed d).act):(TH.drop ord s d).n=s.n:=zjj _ _ (c.drops hd)
theorem zqy {s:HS K} {d:Nat} (c:Core s none) (hd:(s.deed d).act):(TH.keep ord s d).n=s.n:=zjj _ _ (c.keeps hd)
theorem zrL {s t:HS K} {d:Nat} (hn:t.n=s.n) (h:∀ e,(t.deed e).act↔e≠d/\(s.deed e).act) (hd:(s.deed d).act) (hlt:d < s.n):actN t < actN s:=by
 unfold actN
 rw [hn]
 refine zfx (λ e _ q=>zaP.mpr ((h e).mp (zaP.mp q)).2) ⟨d,List.mem_range.mpr hlt,zaP.mpr hd,?_⟩
 cases q:actB (t.deed d) with
 | false=>rfl
 | true=>exact absurd rfl ((h d).mp (zaP.mp q)).1
theorem zkZ {s:HS K} {d:Nat} (c:Core s none) (hd:(s.deed d).act):actN (TH.drop ord s d) < actN s:=zrL (zko ord c hd) (zqm ord c hd) hd (c.lt hd)
theorem zni {s:HS K} (c:Core s none) (h:rings s=[]):Acyc s:=λ d r=>by
 have hd:=c.lt (d:=d) (.inr (zaJ r))
 have:d∈rings s:=by
  unfold rings
  rw [List.mem_filter]
  exact ⟨List.mem_range.mpr hd,@decide_eq_true _ (_) r⟩
 rw [h] at this; cases this
theorem zgP:∀ {f:Nat} {s:HS K},Core s none->actN s<=f->Acyc (TH.settle ord f s)
 | 0,s,c,h=>λ d r=>by
  have hd:(s.deed d).act:=.inr (zaJ r)
  have hlt:=c.lt hd
  have:0 < actN s:=by
    unfold actN
    exact List.countP_pos_iff.mpr ⟨d,List.mem_range.mpr hlt,zaP.mpr hd⟩
  omega
 | f+1,s,c,h=>by
  unfold TH.settle
  split
  . rename_i q
    exact zni c (List.getLast?_eq_none_iff.mp q)
  . rename_i d hd
    have q:=zbH (List.mem_of_getLast? hd)
    have ha:(s.deed d).act:=.inr (zaJ q.2)
    refine zgP (c.drop ord ha) ?_
    have:=zkZ ord c ha
    omega
theorem zpp (s:HS K):actN s<=s.n:=by
 unfold actN
 have:=List.countP_le_length (p:=λ d=>actB (s.deed d)) (l:=List.range s.n)
 rwa [List.length_range] at this
theorem Acyc.za6 {s:HS K} (c:Core s none) (a:Acyc s):Acyc (TH.za6 s):=a.mono λ e x hx=>by
 obtain ⟨b,h1,h2,h3⟩:=zbw.mp hx
 have h1':(up s.deed s.n ⟨.zas,[],none⟩ e).st=.waiting:=h1
 have h2':(up s.deed s.n ⟨.zas,[],none⟩ e).wish=some b:=h2
 have hne:e≠s.n:=λ z=>by subst z; rw [zag] at h1'; cases h1'
 rw [zan hne] at h1' h2'
 exact zbw.mpr ⟨b,h1',h2',h3⟩
theorem Acyc.into {s t:HS K} {d:Nat} (a:Acyc s) (hd:(t.deed d).st≠.waiting) (h:∀ e x,x∈zbP t e->x=d\/x∈zbP s e):Acyc t:=by
 have key:∀ x y,Reach t x y->y=d\/Reach s x y:=λ x y r=>by
   induction r with
   | one q=>exact (h _ _ q).imp id .one
   | step q r ih =>
    rcases h _ _ q with z | z
    . subst z; exact absurd (zaJ r) hd
    . exact ih.imp id (.step z)
 intro x r
 rcases key x x r with z | z
 . subst z; exact hd (zaJ r)
 . exact a x z
theorem Acyc.wish {s:HS K} {d:Nat} {a:Act K} (c:Core s none) (ac:Acyc s) (hd:(s.deed d).st=.zas):Acyc (TH.wish ord s d a):=by
 have c1:Core (TH.see s a.key) none:=c.see
 have ac1:Acyc (TH.see s a.key):=ac.mono λ e x hx=>hx
 unfold TH.wish
 dsimp only
 have zas:∀ (t:HS K),t.deed=(TH.see s a.key).deed->∀ e x,x∈zbP (doIt t d a) e->e≠d/\∃ b,((TH.see s a.key).deed e).st=.waiting/\((TH.see s a.key).deed e).wish=some b /\
     ((∃ w,(x,w)∈(t.rows b.key).takeWhile λ p=>p.1 != e)\/∃ w,(x,w)∈t.held b.key/\x≠e/\(b.wr=true\/w=true)):=λ t ht e x hx=>by
   obtain ⟨b,h1,h2,h3⟩:=zbw.mp hx
   have hne:e≠d:=λ z=>by subst z; rw [zhw] at h1; cases h1
   rw [zcC _ _ _ hne,ht] at h1 h2
   rw [zcR,zcs] at h3
   exact ⟨hne,b,h1,h2,h3⟩
 by_cases h1:look ((TH.see s a.key).held a.key) d=some a.wr\/look ((TH.see s a.key).held a.key) d=some true
 . rw [if_pos h1]
   refine ac1.mono λ e x hx=>?_
   obtain ⟨_,b,q1,q2,q3⟩:=zas _ rfl e x hx
   exact zbw.mpr ⟨b,q1,q2,q3⟩
 . rw [if_neg h1]
   by_cases h2:lets ((TH.see s a.key).held a.key) d a.wr=true/\(has ((TH.see s a.key).held a.key) d=true\/(TH.see s a.key).rows a.key=[])
   . rw [if_pos h2]
     refine ac1.into (d:=d) (by rw [zhw]; decide) λ e x hx=>?_
     obtain ⟨_,b,q1,q2,q3⟩:=zas (take (TH.see s a.key) d a.key a.wr) rfl e x hx
     by_cases hxd:x=d
     . exact .inl hxd
     . refine .inr (zbw.mpr ⟨b,q1,q2,q3.imp id λ ⟨w,hw,y⟩=>⟨w,?_,y⟩⟩)
       have hw':(x,w)∈up (TH.see s a.key).held a.key (zbi ((TH.see s a.key).held a.key) d a.wr) b.key:=hw
       by_cases hk:b.key=a.key
       . rw [hk,zag] at hw'
         rcases zaX.mp hw' with z | z
         . exact absurd (congrArg Prod.fst z) hxd
         . rw [hk]; exact z.1
       . rw [zan hk] at hw'; exact hw'
   . rw [if_neg h2]
     have hw:∀ w',(d,w')∈(TH.see s a.key).held a.key->w'=false/\a.wr=true:=λ w' z=>by
       have q:=zcO (c1.hNd _) z
       cases hw':w' with
       | true=>exact absurd (.inr (hw' ▸ q)) h1
       | false =>
         cases ha:a.wr with
         | true=>exact ⟨rfl,rfl⟩
         | false=>exact absurd (.inl (by rw [ha,q,hw'])) h1
     exact zgP ord (c1.wait hd zb5 hw) (zpp _)
theorem znY {s:HS K} (c:Core s none) {d e:Nat} (h:e∈zbP s d):(s.deed e).act:=by
 obtain ⟨a,h1,h2,h3⟩:=zbw.mp h
 rcases h3 with ⟨w,hw⟩ | ⟨w,hw,_⟩
 . exact .inr (c.rAct _ _ ((List.takeWhile_sublist _).mem hw)).1
 . exact c.hAct _ _ hw
open Classical in
end
end TH
end
section
namespace TH
section
variable {K:Type} [DecidableEq K]
def zar (l:List (Act K)):List (K×Int):=l.filterMap λ a=>if a.wr then some (a.key,a.val) else none
def logW (l:List (Row K)) (d:Nat):List (K×Int):=l.filterMap λ r=>match r with
 | .write e k _ v=>if e=d then some (k,v) else none
 | _=>none
def logK (l:List (Row K)):List Nat:=l.filterMap λ r=>match r with
 | .keep d=>some d
 | _=>none
def logB (l:List (Row K)):List Nat:=l.filterMap λ r=>match r with
 | .begin d=>some d
 | _=>none
def goes (g:List Nat):Row K->List Nat
 | .begin d=>g++[d]
 | .write _ _ _ _=>g
 | .keep d=>g.erase d
 | .drop d=>g.erase d
def logG (l:List (Row K)):List Nat:=l.foldl goes []
structure Scan (K:Type) where
 book:K->Int
 bef:Nat->List (K×Int)
def undo (l:List (K×Int)) (b:K->Int):K->Int:=l.foldr (λ p bk=>up bk p.1 p.2) b
def scan1 (S:Scan K):Row K->Scan K
 | .begin _=>S
 | .write d k b v=>⟨up S.book k v,up S.bef d (S.bef d++[(k,b)])⟩
 | .keep _=>S
 | .drop d=>⟨undo (S.bef d) S.book,S.bef⟩
def scan (l:List (Row K)):Scan K:=l.foldl scan1 ⟨λ _=>0,λ _=>[]⟩
def zsi (l:List (Row K)):Row K->Prop
 | .begin d=>d=(logB l).length
 | .write d k b _=>d∈logG l/\b=(scan l).book k
 | .keep d=>d∈logG l
 | .drop d=>d∈logG l
inductive Wf:List (Row K)->Prop where
 | nil:Wf []
 | snoc {l:List (Row K)} {r:Row K}:Wf l->zsi l r->Wf (l++[r])
def first (l:List (K×Int)) (k:K):Option Int:=(l.find? λ p=>decide (p.1=k)).map (·.2)
theorem znR (k:K) (b:K->Int):∀ l:List (K×Int),undo l b k=(first l k).getD (b k)
 | []=>rfl
 | p::r=>by
  show up (undo r b) p.1 p.2 k=_
  by_cases h:p.1=k
  . subst h; rw [zag]; unfold first; rw [List.find?_cons_of_pos (by simp)]; rfl
  . rw [zan (Ne.symm h),znR k b r]; unfold first; rw [List.find?_cons_of_neg (by simpa using h)]
theorem znB (l:List (K×Int)) (k k':K) (b:Int):first (l++[(k,b)]) k'=match first l k' with | some v=>some v | none=>if k=k' then some b else none:=by
 unfold first
 rw [List.find?_append]
 cases h:l.find? λ p=>decide (p.1=k') with
 | some p=>rfl
 | none =>
  by_cases e:k=k'
  . simp [e]
  . simp [e]
theorem zfn (l:List (Row K)) (r:Row K) (d:Nat):logW (l++[r]) d=logW l d++(match r with | .write e k _ v=>if e=d then [(k,v)] else [] | _=>[]):=by
 unfold logW
 rw [List.filterMap_append]
 cases r with
 | write e k b v=>by_cases h:e=d <;> simp [h]
 | begin _=>rfl
 | keep _=>rfl
 | drop _=>rfl
theorem zcP (l:List (Row K)) (r:Row K):logK (l++[r])=logK l++(match r with | .keep d=>[d] | _=>[]):=by
 unfold logK
 rw [List.filterMap_append]
 cases r <;> rfl
theorem zbx (l:List (Row K)) (r:Row K):logB (l++[r])=logB l++(match r with | .begin d=>[d] | _=>[]):=by
 unfold logB
 rw [List.filterMap_append]
 cases r <;> rfl
theorem zbI (l:List (Row K)) (r:Row K):logG (l++[r])=goes (logG l) r:=by unfold logG; rw [List.foldl_append]; rfl
theorem scan_snoc (l:List (Row K)) (r:Row K):scan (l++[r])=scan1 (scan l) r:=by unfold scan; rw [List.foldl_append]; rfl
theorem zbJ (l:List (Act K)) (a:Act K):zar (l++[a])=zar l++(if a.wr then [(a.key,a.val)] else []):=by
 unfold zar
 rw [List.filterMap_append]
 cases h:a.wr <;> simp [h]
structure zaT (s:HS K):Prop where
 w:∀ d,logW s.log d=zar (s.deed d).done
 k:logK s.log=s.kept
 b:logB s.log=List.range s.n
 g:logG s.log=(List.range s.n).filter λ d=>actB (s.deed d)
 bk:∀ k,(scan s.log).book k=(s.book k).getD 0
 bef:∀ d,(s.deed d).act->∀ k,first ((scan s.log).bef d) k=if (zaN (s.deed d).done k).isSome then some ((zau s k).getD 0) else none
 befN:∀ d,s.n<=d->(scan s.log).bef d=[]
 wf:Wf s.log
theorem zb9 {α:Type} {p q:α->Bool} {l:List α} (h:∀ x∈l,p x=q x):l.filter p=l.filter q:=List.filter_congr h
theorem zaT.zmO {s:HS K} {x:Option Nat} (L:zaT s) (c:Core s x) {d:Nat} (hd:(s.deed d).act):d∈logG s.log:=by
 rw [L.g,List.mem_filter]; exact ⟨List.mem_range.mpr (c.lt hd),zaP.mpr hd⟩
theorem zaT.doIt {s:HS K} {d:Nat} {a:Act K} {w:Bool} (L:zaT s) (c:Core s (some d)) (hd:(s.deed d).act) (hh:(d,w)∈s.held a.key):zaT (doIt s d a):=by
 have actE:∀ e,actB ((TH.doIt s d a).deed e)=actB (s.deed e):=λ e=>by
  by_cases h:e=d
  . subst h
    rw [zaP.mpr hd,zaP.mpr (.inl (zhw s e a))]
  . rw [zcC s d a h]
 have nk:∀ e∈s.kept,e≠d:=λ e he z=>by subst z; exact zdE hd ((c.zdj _).mp he)
 have kb:zau (TH.doIt s d a)=zau s:=zbY (zei s d a) λ e he=>by rw [zcC s d a (nk e he)]
 cases hwr:a.wr with
 | false =>
  have e1:TH.doIt s d a={ s with deed:=up s.deed d { s.deed d with st:=.zas,done:=(s.deed d).done++[⟨false,a.key,(s.book a.key).getD 0⟩] } }:=by
    unfold TH.doIt; rw [if_neg (by rw [hwr]; decide)]
  have dn:∀ e,zar ((TH.doIt s d a).deed e).done=zar (s.deed e).done/\∀ k,zaN ((TH.doIt s d a).deed e).done k=zaN (s.deed e).done k:=λ e=>by
    by_cases h:e=d
    . subst h
      rw [e1]
      show zar (up s.deed e _ e).done=_/\∀ k,zaN (up s.deed e _ e).done k=_
      rw [zag]
      refine ⟨?_,λ k=>?_⟩
      . show zar ((s.deed e).done++[_])=_
        rw [zbJ]; simp
      . show zaN ((s.deed e).done++[_]) k=_
        rw [zeq]; simp
    . rw [zcC s d a h]; exact ⟨rfl,λ _=>rfl⟩
  have el:(TH.doIt s d a).log=s.log:=by rw [e1]
  have eb:(TH.doIt s d a).book=s.book:=by rw [e1]
  refine ⟨λ e=>by rw [el,(dn e).1]; exact L.w e,by rw [el,zei]; exact L.k,by rw [el,zdK]; exact L.b,?_,λ k=>by rw [el,eb]; exact L.bk k,λ e he k=>?_,λ e he=>by rw [el]; exact L.befN e (by rw [zdK] at he; exact he),by rw [el]; exact L.wf⟩
  . rw [el,zdK,L.g]; exact zb9 λ x _=>(actE x).symm
  . rw [el,(dn e).2 k,kb]; exact L.bef e (zaP.mp ((actE e).symm.trans (zaP.mpr he))) k
 | true =>
  have e1:TH.doIt s d a={ s with deed:=up s.deed d { s.deed d with st:=.zas,done:=(s.deed d).done++[a] },log:=s.log++[.write d a.key ((s.book a.key).getD 0) a.val],book:=up s.book a.key (some a.val) }:=by
    unfold TH.doIt; rw [if_pos hwr]
  have el:(TH.doIt s d a).log=s.log++[.write d a.key ((s.book a.key).getD 0) a.val]:=by rw [e1]
  have eb:(TH.doIt s d a).book=up s.book a.key (some a.val):=by rw [e1]
  have edd:((TH.doIt s d a).deed d).done=(s.deed d).done++[a]:=by rw [e1]; show (up s.deed d _ d).done=_; rw [zag]
  refine ⟨λ e=>?_,by rw [el,zcP,zei]; simp; exact L.k,by rw [el,zbx,zdK]; simp; exact L.b,?_,λ k=>?_,λ e he k=>?_,λ e he=>?_,?_⟩
  . rw [el,zfn]
    by_cases h:e=d
    . subst h; rw [edd,zbJ,L.w e]; simp [hwr]
    . rw [zcC s d a h,L.w e]; simp [Ne.symm h]
  . rw [el,zbI,zdK]
    show logG s.log=_
    rw [L.g]; exact zb9 λ x _=>(actE x).symm
  . rw [el,scan_snoc,eb]
    show up (scan s.log).book a.key a.val k=(up s.book a.key (some a.val) k).getD 0
    by_cases h:k=a.key
    . subst h; rw [zag,zag]; rfl
    . rw [zan h,zan h]; exact L.bk k
  . rw [el,scan_snoc,kb]
    show first (up (scan s.log).bef d ((scan s.log).bef d++[(a.key,(s.book a.key).getD 0)]) e) k=_
    by_cases h:e=d
    . subst h
      rw [zag,znB,edd,zeq,L.bef e hd k]
      cases hl:zaN (s.deed e).done k with
      | some v =>
        by_cases hk:a.wr=true/\a.key=k
        . simp [hk]
        . simp [hk,hl]
      | none =>
        by_cases hk:a.key=k
        . simp [hk,hwr]
          have q:=c.reads hd hh
          rw [zeZ,hk,hl] at q
          rw [q]
        . simp [hk,hl]
    . rw [zan h,zcC s d a h]
      rw [zcC s d a h] at he
      exact L.bef e he k
  . rw [zdK] at he
    rw [el,scan_snoc]
    show up (scan s.log).bef d _ e=[]
    have:e≠d:=λ z=>by subst z; have:=c.lt hd; omega
    rw [zan this]; exact L.befN e he
  . rw [el]
    exact .snoc L.wf ⟨L.zmO c hd,(L.bk a.key).symm⟩
theorem zaT.ends {s:HS K} {d:Nat} {t:DS} {bk:Book K} {kp:List Nat} {r:Row K} (L:zaT s) (c:Core s none) (hd:(s.deed d).act) (ht:t=.kept\/t=.dropped)
   (hr:(t=.kept/\r=.keep d/\kp=s.kept++[d]/\bk=s.book)\/(t=.dropped/\r=.drop d/\kp=s.kept/\bk=λ k=>if (zaN (s.deed d).done k).isSome then zau s k else s.book k)) :
   zaT (letGo { s with deed:=up s.deed d { s.deed d with st:=t },book:=bk,kept:=kp,log:=s.log++[r] } d):=by
 have dn:∀ e,(up s.deed d { s.deed d with st:=t } e).done=(s.deed e).done:=λ e=>by
   by_cases h:e=d
   . subst h; rw [zag]
   . rw [zan h]
 have actE:∀ e,(up s.deed d { s.deed d with st:=t } e).act↔e≠d/\(s.deed e).act:=λ e=>by
   by_cases h:e=d
   . subst h
     rw [zag]
     refine ⟨λ z=>?_,λ z=>absurd rfl z.1⟩
     rcases z with z | z <;> rcases ht with y | y <;> (have z':t=_:=z; rw [y] at z'; cases z')
   . rw [zan h]; exact ⟨λ z=>⟨h,z⟩,λ z=>z.2⟩
 have hg:(logG s.log).erase d=(List.range s.n).filter λ e=>actB (up s.deed d { s.deed d with st:=t } e):=by
   have nd:((List.range s.n).filter λ e=>actB (s.deed e)).Nodup:=List.nodup_range.sublist List.filter_sublist
   rw [L.g,nd.erase_eq_filter,List.filter_filter]
   refine zb9 λ x _=>?_
   cases q:actB (up s.deed d { s.deed d with st:=t } x) with
   | true =>
     obtain ⟨q1,q2⟩:=(actE x).mp (zaP.mp q)
     simp [q1,zaP.mpr q2]
   | false =>
     by_cases h1:x=d
     . simp [h1]
     . cases h2:actB (s.deed x) with
       | false=>simp
       | true =>
        rw [zaP.mpr ((actE x).mpr ⟨h1,zaP.mp h2⟩)] at q; cases q
 have kbe:∀ k,zau (letGo { s with deed:=up s.deed d { s.deed d with st:=t },book:=bk,kept:=kp,log:=s.log++[r] } d) k=if t=.kept then over (zau s) (s.deed d).done k else zau s k:=λ k=>by
   have e0:zau (letGo { s with deed:=up s.deed d { s.deed d with st:=t },book:=bk,kept:=kp,log:=s.log++[r] } d)=zee s.deed kp λ _=>none:=zbt λ e _=>dn e
   rw [e0]
   rcases hr with ⟨h1,_,h3,_⟩ | ⟨h1,_,h3,_⟩
   . rw [if_pos h1,h3,zfp]; rfl
   . rw [if_neg (by rw [h1]; decide),h3]; rfl
 have sole:∀ e k,e≠d->(s.deed e).act->(zaN (s.deed e).done k).isSome=true->zaN (s.deed d).done k=none:=λ e k hne he hs=>by
   cases q:zaN (s.deed d).done k with
   | none=>rfl
   | some u =>
     cases q':zaN (s.deed e).done k with
     | none=>rw [q'] at hs; cases hs
     | some v =>
       obtain ⟨b,hb,bw,bkk⟩:=zed q'
       obtain ⟨w,z,_⟩:=c.zfv e he b hb
       rw [bkk] at z
       exact absurd (c.sole hd q z) hne
 have sc:(scan (s.log++[r])).bef=(scan s.log).bef:=by
   rw [scan_snoc]
   rcases hr with ⟨_,h2,_,_⟩ | ⟨_,h2,_,_⟩ <;> rw [h2] <;> rfl
 refine ⟨λ e=>?_,?_,?_,?_,λ k=>?_,λ e he k=>?_,λ e he=>?_,?_⟩
 . show logW (s.log++[r]) e=zar (up s.deed d _ e).done
   rw [zfn,dn e,L.w e]
   rcases hr with ⟨_,h2,_,_⟩ | ⟨_,h2,_,_⟩ <;> rw [h2] <;> simp
 . show logK (s.log++[r])=kp
   rw [zcP,L.k]
   rcases hr with ⟨_,h2,h3,_⟩ | ⟨_,h2,h3,_⟩ <;> rw [h2,h3] <;> simp
 . show logB (s.log++[r])=List.range s.n
   rw [zbx,L.b]
   rcases hr with ⟨_,h2,_,_⟩ | ⟨_,h2,_,_⟩ <;> rw [h2] <;> simp
 . show logG (s.log++[r])=(List.range s.n).filter λ e=>actB (up s.deed d _ e)
   rw [zbI,<-hg]
   rcases hr with ⟨_,h2,_,_⟩ | ⟨_,h2,_,_⟩ <;> rw [h2] <;> rfl
 . show (scan (s.log++[r])).book k=(bk k).getD 0
   rw [scan_snoc]
   rcases hr with ⟨_,h2,_,h4⟩ | ⟨_,h2,_,h4⟩
   . rw [h2,h4]; exact L.bk k
   . rw [h2,h4]
     show undo ((scan s.log).bef d) (scan s.log).book k=_
     rw [znR,L.bef d hd k,L.bk k]
     cases q:zaN (s.deed d).done k with
     | none=>simp [q]
     | some v=>simp [q]
 . have he':(up s.deed d { s.deed d with st:=t } e).act:=he
   obtain ⟨h1,h2⟩:=(actE e).mp he'
   show first ((scan (s.log++[r])).bef e) k=if (zaN (up s.deed d _ e).done k).isSome then _ else _
   rw [sc,dn e,kbe k,L.bef e h2 k]
   cases hs:(zaN (s.deed e).done k).isSome with
   | false=>rfl
   | true =>
     simp
     by_cases ht':t=.kept
     . rw [if_pos ht',zeZ,sole e k h1 h2 hs]
     . rw [if_neg ht']
 . show (scan (s.log++[r])).bef e=[]
   rw [sc]; exact L.befN e he
 . refine .snoc L.wf ?_
   have:=L.zmO c hd
   rcases hr with ⟨_,h2,_,_⟩ | ⟨_,h2,_,_⟩ <;> rw [h2] <;> exact this
theorem zaT.zaF {ks:List K} {s:HS K} (L:zaT s) (c:Core s none):zaT (TH.zaF s ks):=by
 refine zbA (λ t=>zaT t) (λ t k d w r a c' hr hl ha q=>?_) ks s c L
 have hm:(d,w)∈t.rows k:=by rw [hr]; exact List.mem_cons_self
 obtain ⟨hw,a',ea,ek,ew⟩:=c'.rAct k (d,w) hm
 have ea':some a=some a':=ha.symm.trans ea
 cases ea'
 have c2:Core (take { t with rows:=up t.rows k r } d k w) (some d):=by
  have nd:=c'.rNd k
  rw [hr] at nd
  have sub:∀ k' p,p∈(up t.rows k r) k'->p∈t.rows k':=λ k' p hp=>by
    by_cases h:k'=k
    . subst h; rw [zag] at hp; rw [hr]; exact List.mem_cons_of_mem _ hp
    . rw [zan h] at hp; exact hp
  have c1:Core { t with rows:=up t.rows k r } (some d):=by
    refine ⟨c'.out,c'.hAct,c'.hNd,c'.hEx,λ k' p hp=>c'.rAct k' p (sub k' p hp),λ k'=>?_,λ e he hwt=>?_,λ k' e v v' h1 h2=>c'.zfN k' e v v' (sub k' _ h1) h2,c'.zfv,λ k' h'=>?_,c'.bOwn,c'.zgv,c'.ser,c'.actR,c'.zdj,c'.zhn⟩
    . by_cases h:k'=k
      . subst h; show ((up t.rows k' r k').map _).Nodup; rw [zag]; exact (List.nodup_cons.mp nd).2
      . show ((up t.rows k r k').map _).Nodup; rw [zan h]; exact c'.rNd k'
    . obtain ⟨b,q1,q2⟩:=c'.wRow e (λ z=>by cases z) hwt
      refine ⟨b,q1,?_⟩
      show (e,b.wr)∈up t.rows k r b.key
      by_cases h:b.key=k
      . rw [h,zag]
        rw [h,hr] at q2
        rcases List.mem_cons.mp q2 with z | z
        . exact absurd (congrArg some (congrArg Prod.fst z)) he
        . exact z
      . rw [zan h]; exact q2
    . obtain ⟨q1,q2⟩:=c'.zfe k' h'
      have:k'≠k:=λ z=>by subst z; rw [hr] at q2; cases q2
      exact ⟨q1,by show up t.rows k r k'=_; rw [zan this]; exact q2⟩
  refine c1.take (.inr hw) hl (λ hwf w' z=>?_) (λ w' z=>?_) ?_
  . obtain ⟨_,q⟩:=c'.zfN k d w w' hm z
    rw [hwf] at q; cases q
  . have z':(d,w')∈up t.rows k r k:=z
    rw [zag] at z'
    exact (List.nodup_cons.mp nd).1 (List.mem_map.mpr ⟨_,z',rfl⟩)
  . by_cases z:k∈t.seen
    . exact z
    . have:=(c'.zfe k z).2; rw [hr] at this; cases this
 have q':zaT (take { t with rows:=up t.rows k r } d k w):=⟨q.w,q.k,q.b,q.g,q.bk,q.bef,q.befN,q.wf⟩
 refine q'.doIt (w:=w) c2 (.inr hw) ?_
 show (d,w)∈up t.held k (zbi (t.held k) d w) a.key
 rw [ek,zag]
 exact zaX.mpr (.inl rfl)
variable (ord:List K->List K)
theorem zaT.keep {s:HS K} {d:Nat} (L:zaT s) (c:Core s none) (hd:(s.deed d).act):zaT (TH.keep ord s d) :=
 (zaT.ends (t:=.kept) L c hd (.inl rfl) (.inl ⟨rfl,rfl,rfl,rfl⟩)).zaF (c.keeps hd)
theorem zaT.drop {s:HS K} {d:Nat} (L:zaT s) (c:Core s none) (hd:(s.deed d).act):zaT (TH.drop ord s d) :=
 (zaT.ends (t:=.dropped) L c hd (.inr rfl) (.inr ⟨rfl,rfl,rfl,rfl⟩)).zaF (c.drops hd)
theorem zaT.settle:∀ {f:Nat} {s:HS K},zaT s->Core s none->zaT (TH.settle ord f s)
 | 0,s,L,c=>L
 | f+1,s,L,c=>by
  unfold TH.settle
  split
  . exact L
  . rename_i d hd
    have q:=zbH (List.mem_of_getLast? hd)
    have ha:(s.deed d).act:=.inr (zaJ q.2)
    exact zaT.settle (L.drop ord c ha) (c.drop ord ha)
theorem zaT.za6 {s:HS K} (L:zaT s) (c:Core s none):zaT (TH.za6 s):=by
 have o:=c.out s.n (Nat.le_refl _)
 have dn:∀ e,(up s.deed s.n ⟨.zas,[],none⟩ e).done=(s.deed e).done:=λ e=>by
   by_cases h:e=s.n
   . subst h; rw [zag,o.2]
   . rw [zan h]
 have kb:zau (TH.za6 s)=zau s:=zbt λ e _=>dn e
 have sc:scan (s.log++[.begin s.n])=scan s.log:=by rw [scan_snoc]; rfl
 refine ⟨λ e=>?_,?_,?_,?_,λ k=>?_,λ e he k=>?_,λ e he=>?_,?_⟩
 . show logW (s.log++[.begin s.n]) e=zar (up s.deed s.n _ e).done
   rw [zfn,dn e,L.w e]; simp
 . show logK (s.log++[.begin s.n])=s.kept
   rw [zcP,L.k]; simp
 . show logB (s.log++[.begin s.n])=List.range (s.n+1)
   rw [zbx,L.b,List.range_succ]
 . show logG (s.log++[.begin s.n])=(List.range (s.n+1)).filter λ e=>actB (up s.deed s.n _ e)
   rw [zbI,List.range_succ,List.filter_append]
   show logG s.log++[s.n]=_
   rw [L.g]
   congr 1
   . refine zb9 λ x hx=>?_
     have:x≠s.n:=λ z=>by have:=List.mem_range.mp hx; omega
     rw [zan this]
   . rw [List.filter_cons_of_pos (by rw [zag]; rfl)]; rfl
 . show (scan (s.log++[.begin s.n])).book k=(s.book k).getD 0
   rw [sc]; exact L.bk k
 . show first ((scan (s.log++[.begin s.n])).bef e) k=if (zaN (up s.deed s.n _ e).done k).isSome then some ((zau (TH.za6 s) k).getD 0) else none
   rw [sc,dn e,kb]
   by_cases h:e=s.n
   . subst h
     rw [L.befN _ (Nat.le_refl _),o.2]; rfl
   . have he':(up s.deed s.n ⟨.zas,[],none⟩ e).act:=he
     rw [zan h] at he'
     exact L.bef e he' k
 . have he':s.n+1<=e:=he
   show (scan (s.log++[.begin s.n])).bef e=[]
   rw [sc]; exact L.befN e (by omega)
 . exact .snoc L.wf (by show s.n=(logB s.log).length; rw [L.b,List.length_range])
theorem zaT.wish {s:HS K} {d:Nat} {a:Act K} (L:zaT s) (c:Core s none) (hd:(s.deed d).st=.zas):zaT (TH.wish ord s d a):=by
 have c1:Core (TH.see s a.key) none:=c.see
 have L1:zaT (TH.see s a.key):=⟨L.w,L.k,L.b,L.g,L.bk,L.bef,L.befN,L.wf⟩
 have nor:∀ k w',(d,w')∉(TH.see s a.key).rows k:=λ k w' z=>by
   have:=(c1.rAct k _ z).1
   have this':(s.deed d).st=.waiting:=this
   rw [hd] at this'; cases this'
 unfold TH.wish
 dsimp only
 by_cases h1:look ((TH.see s a.key).held a.key) d=some a.wr\/look ((TH.see s a.key).held a.key) d=some true
 . rw [if_pos h1]
   rcases h1 with h1 | h1
   . exact L1.doIt c1.weaken (.inl hd) (zc0 h1)
   . exact L1.doIt c1.weaken (.inl hd) (zc0 h1)
 . rw [if_neg h1]
   have hw:∀ w',(d,w')∈(TH.see s a.key).held a.key->w'=false/\a.wr=true:=λ w' z=>by
     have q:=zcO (c1.hNd _) z
     cases hw':w' with
     | true=>exact absurd (.inr (hw' ▸ q)) h1
     | false =>
       cases ha:a.wr with
       | true=>exact ⟨rfl,rfl⟩
       | false=>exact absurd (.inl (by rw [ha,q,hw'])) h1
   by_cases h2:lets ((TH.see s a.key).held a.key) d a.wr=true/\(has ((TH.see s a.key).held a.key) d=true\/(TH.see s a.key).rows a.key=[])
   . rw [if_pos h2]
     have L2:zaT (take (TH.see s a.key) d a.key a.wr):=⟨L1.w,L1.k,L1.b,L1.g,L1.bk,L1.bef,L1.befN,L1.wf⟩
     refine L2.doIt (w:=a.wr) (c1.weaken.take (.inl hd) h2.1 (λ hf w' z=>?_) (λ w'=>nor _ w') zb5) (.inl hd) ?_
     . have:=(hw w' z).2; rw [hf] at this; cases this
     . show (d,a.wr)∈up (TH.see s a.key).held a.key _ a.key
       rw [zag]; exact zaX.mpr (.inl rfl)
   . rw [if_neg h2]
     refine zaT.settle ord ?_ (c1.wait hd zb5 hw)
     have dn:∀ e,(up s.deed d { s.deed d with st:=.waiting,wish:=some a } e).done=(s.deed e).done:=λ e=>by
       by_cases h:e=d
       . subst h; rw [zag]
       . rw [zan h]
     have actE:∀ e,(up s.deed d { s.deed d with st:=.waiting,wish:=some a } e).act↔(s.deed e).act:=λ e=>by
       by_cases h:e=d
       . subst h; rw [zag]; exact ⟨λ _=>.inl hd,λ _=>.inr rfl⟩
       . rw [zan h]
     have kb:zau (TH.wait (TH.see s a.key) d a)=zau s:=zbt λ e _=>dn e
     refine ⟨λ e=>?_,L.k,L.b,?_,L.bk,λ e he k=>?_,L.befN,L.wf⟩
     . exact (L.w e).trans (congrArg zar (dn e)).symm
     . show logG s.log=(List.range s.n).filter λ e=>actB (up s.deed d _ e)
       rw [L.g]
       refine zb9 λ x _=>?_
       cases q:actB (s.deed x) with
       | true=>exact (zaP.mpr ((actE x).mpr (zaP.mp q))).symm
       | false =>
         cases q':actB (up s.deed d { s.deed d with st:=.waiting,wish:=some a } x) with
         | false=>exact q'.symm
         | true=>rw [zaP.mpr ((actE x).mp (zaP.mp q'))] at q; cases q
     . have q:=L.bef e ((actE e).mp he) k
       rw [kb]
       show first ((scan s.log).bef e) k=if (zaN (up s.deed d { s.deed d with st:=.waiting,wish:=some a } e).done k).isSome then some ((zau s k).getD 0) else none
       rw [dn e]; exact q
structure All (s:HS K):Prop where
 c:Core s none
 h:Head s
 a:Acyc s
 l:zaT s
def empty:HS K:=⟨0,λ _=>⟨.dropped,[],none⟩,λ _=>[],λ _=>[],λ _=>none,[],[],[]⟩
theorem All.empty:All (TH.empty (K:=K)):=by
 have na:∀ d,¬ ((TH.empty (K:=K)).deed d).act:=λ d z=>by rcases z with z | z <;> cases z
 refine ⟨⟨λ d _=>⟨rfl,rfl⟩,λ k p hp=>(by cases hp),λ k=>List.nodup_nil,λ k d h=>(by cases h),λ k p hp=>(by cases hp),λ k=>List.nodup_nil,λ d _ h=>(by cases h),λ k d w w' h=>(by cases h),λ d h=>absurd h (na d),λ k _=>⟨rfl,rfl⟩,λ d h=>absurd h (na d),λ k _=>rfl,rfl,λ d h=>absurd h (na d),λ d=>⟨λ h=>(by cases h),λ h=>(by cases h)⟩,List.nodup_nil⟩,λ k d w r e=>(by cases e),λ d r=>?_,⟨λ d=>rfl,rfl,rfl,rfl,λ k=>rfl,λ d h=>absurd h (na d),λ d _=>rfl,.nil⟩⟩
 exact absurd (Or.inr (zaJ r)) (na d)
variable (hord:∀ l k,k∈ord l↔k∈l)
include hord
end
end TH
end
section
namespace TH
section
variable {K:Type} [DecidableEq K]
def zjy (s:HS K) (a:Act K):Act K:=if a.wr then a else ⟨false,a.key,(s.book a.key).getD 0⟩
theorem zct (s:HS K) (a:Act K):(zjy s a).key=a.key:=by unfold zjy; split <;> rfl
theorem zdm (s:HS K) (d:Nat) (a:Act K):(doIt s d a).deed=up s.deed d { s.deed d with st:=.zas,done:=(s.deed d).done++[zjy s a] }:=by
 unfold doIt zjy; split <;> rfl
theorem zmU (s:HS K) (d:Nat) (a:Act K):(doIt s d a).log=s.log++(if a.wr then [.write d a.key ((s.book a.key).getD 0) a.val] else []):=by
 unfold doIt; split
 . rfl
 . simp
theorem zo9 (s:HS K) (d:Nat) (a:Act K):(doIt s d a).book=if a.wr then up s.book a.key (some a.val) else s.book:=by
 unfold doIt; split <;> rfl
def zgp (D:Deed K):Bool:=decide (D.st=.waiting)
def zdo (s:HS K):Nat:=(List.range s.n).countP λ d=>zgp (s.deed d)
theorem zhA {p q:Nat->Bool} {d:Nat}:∀ {l:List Nat},l.Nodup->(∀ x∈l,q x=true->p x=true\/x=d)->l.countP q<=l.countP p+1
 | [],_,_=>by simp
 | x::r,nd,h=>by
  have hr:∀ y∈r,q y=true->p y=true\/y=d:=λ y hy=>h y (List.mem_cons_of_mem _ hy)
  have nd':=List.nodup_cons.mp nd
  rw [List.countP_cons,List.countP_cons]
  by_cases hx:x=d
  . have:r.countP q<=r.countP p:=List.countP_mono_left λ y hy hq=>(hr y hy hq).resolve_right λ z=>nd'.1 (by rw [hx,<-z]; exact hy)
    split <;> split <;> omega
  . have ih:=zhA nd'.2 hr
    cases hq:q x with
    | false=>simp; split <;> omega
    | true =>
     have:p x=true:=(h x List.mem_cons_self hq).resolve_right hx
     simp [this]; exact ih
structure Ext (s:HS K) (T:Nat):Prop where
 own:∀ k d w,(d,w)∈s.held k->∃ a∈(s.deed d).done,a.key=k
 dn:∀ d,(s.deed d).done.length+(if (s.deed d).st=.waiting then 1 else 0)<=T
 n:s.n<=T
 sn:s.seen.length<=T
 snd:s.seen.Nodup
 lg:s.log.length+zdo s+actN s<=2 * T
 zgr:∀ d,∀ a∈(s.deed d).done,a.key∈s.seen
 zhD:∀ k,s.book k≠none->k∈s.seen
theorem zop:∀ {l:List (Act K)} {b:Book K} {k:K},over b l k≠none->b k≠none\/∃ a∈l,a.key=k:=λ {l b k} h=>by
 rw [zeZ] at h
 cases e:zaN l k with
 | none=>rw [e] at h; exact .inl h
 | some v=>obtain ⟨a,ha,_,hk⟩:=zed e; exact .inr ⟨a,ha,hk⟩
theorem ziv {deed:Nat->Deed K} {k:K}:∀ {l:List Nat} {b:Book K},zee deed l b k≠none->b k≠none\/∃ d∈l,∃ a∈(deed d).done,a.key=k
 | [],b,h=>.inl h
 | d::r,b,h=>by
  rcases ziv (l:=r) h with h | ⟨e,he,q⟩
  . rcases zop h with h | ⟨a,ha,hk⟩
    . exact .inl h
    . exact .inr ⟨d,List.mem_cons_self,a,ha,hk⟩
  . exact .inr ⟨e,List.mem_cons_of_mem _ he,q⟩
theorem Ext.zp4 {s:HS K} {T:Nat} (E:Ext s T):∀ k,zau s k≠none->k∈s.seen:=λ k h=>by
 rcases ziv h with h | ⟨d,_,a,ha,hk⟩
 . exact absurd rfl h
 . rw [<-hk]; exact E.zgr d a ha
theorem Ext.mono {s:HS K} {T T':Nat} (E:Ext s T) (h:T<=T'):Ext s T' :=
 ⟨E.own,λ d=>Nat.le_trans (E.dn d) h,Nat.le_trans E.n h,Nat.le_trans E.sn h,E.snd,Nat.le_trans E.lg (by omega),E.zgr,E.zhD⟩
theorem Ext.empty:Ext (TH.empty (K:=K)) 0 :=
 ⟨λ k d w h=>(by cases h),λ d=>(by simp [TH.empty]),Nat.le_refl _,Nat.le_refl _,List.nodup_nil,by simp [TH.empty,zdo,actN],λ d a h=>(by cases h),λ k h=>absurd rfl h⟩
theorem Ext.does {s t:HS K} {T T':Nat} {d:Nat} {a:Act K} (E:Ext s T) (hn:t.n=s.n) (hs:t.seen=s.seen) (hdl:d < s.n) (hd:(s.deed d).act)
   (hdeed:t.deed=up s.deed d { s.deed d with st:=.zas,done:=(s.deed d).done++[a] })
   (hlog:t.log.length<=s.log.length+1) (hbook:∀ k,t.book k≠none->s.book k≠none\/k=a.key)
   (hheld:∀ k e w,(e,w)∈t.held k->(∃ w',(e,w')∈s.held k)\/(e=d/\k=a.key)) (hk:a.key∈s.seen) (hT:T<=T') (hw:(s.deed d).st=.waiting\/T+1<=T'):Ext t T':=by
 have ds:t.deed d={ s.deed d with st:=.zas,done:=(s.deed d).done++[a] }:=by rw [hdeed,zag]
 have dn:∀ e,e≠d->t.deed e=s.deed e:=λ e he=>by rw [hdeed,zan he]
 have sub:∀ e x,x∈(s.deed e).done->x∈(t.deed e).done:=λ e x hx=>by
   by_cases he:e=d
   . subst he; rw [ds]; exact List.mem_append_left _ hx
   . rw [dn e he]; exact hx
 refine ⟨λ k e w h=>?_,λ e=>?_,by rw [hn]; exact Nat.le_trans E.n hT,by rw [hs]; exact Nat.le_trans E.sn hT,by rw [hs]; exact E.snd,?_,λ e x hx=>?_,λ k h=>?_⟩
 . rcases hheld k e w h with ⟨w',h'⟩ | ⟨he,hk'⟩
   . obtain ⟨x,hx,q⟩:=E.own k e w' h'
     exact ⟨x,sub e x hx,q⟩
   . subst he
     refine ⟨a,?_,hk'.symm⟩
     rw [ds]; exact List.mem_append_right _ List.mem_cons_self
 . by_cases he:e=d
   . subst he
     have:=E.dn e
     rw [ds]
     simp only [List.length_append,List.length_cons,List.length_nil]
     rcases hw with hw | hw
     . rw [if_pos hw] at this; simp; omega
     . simp
       have:(s.deed e).done.length<=T:=by split at this <;> omega
       omega
   . rw [dn e he]; exact Nat.le_trans (E.dn e) hT
 . have ea:actN t=actN s:=by
     unfold actN; rw [hn]
     refine List.countP_congr λ x _=>?_
     by_cases hx:x=d
     . subst hx; rw [ds,zaP,zaP]; exact ⟨λ _=>hd,λ _=>.inl rfl⟩
     . rw [dn x hx]
   have:=E.lg
   rcases hw with hw | hw
   . have ew:zdo t < zdo s:=by
       unfold zdo; rw [hn]
       refine zfx (λ x _ hx=>?_) ⟨d,List.mem_range.mpr hdl,?_,?_⟩
       . by_cases hxd:x=d
         . subst hxd; unfold zgp; rw [hw]; rfl
         . rw [dn x hxd] at hx; exact hx
       . unfold zgp; rw [hw]; rfl
       . rw [ds]; rfl
     omega
   . have ew:zdo t<=zdo s:=by
       unfold zdo; rw [hn]
       refine List.countP_mono_left λ x _ hx=>?_
       by_cases hxd:x=d
       . subst hxd; rw [ds] at hx; cases hx
       . rw [dn x hxd] at hx; exact hx
     omega
 . rw [hs]
   by_cases he:e=d
   . subst he
     rw [ds] at hx
     rcases List.mem_append.mp hx with hx | hx
     . exact E.zgr e x hx
     . rw [List.mem_singleton.mp hx]; exact hk
   . rw [dn e he] at hx; exact E.zgr e x hx
 . rw [hs]
   rcases hbook k h with h | h
   . exact E.zhD k h
   . rw [h]; exact hk
theorem zcH {s:HS K} {x:Option Nat} (c:Core s x) {k:K} {p:Nat×Bool} (h:p∈s.rows k):k∈s.seen:=by
 by_cases hk:k∈s.seen
 . exact hk
 . rw [(c.zfe k hk).2] at h; cases h
theorem zi9 {s:HS K} {d e:Nat} {k k':K} {w w':Bool} (h:(e,w')∈(take s d k w).held k'):(∃ w'',(e,w'')∈s.held k')\/(e=d/\k'=k):=by
 by_cases hk:k'=k
 . subst hk
   have h':(e,w')∈up s.held k' (zbi (s.held k') d w) k':=h
   rw [zag] at h'
   unfold zbi at h'
   split at h'
   . obtain ⟨p,hp,q⟩:=List.mem_map.mp h'
     by_cases hpd:(p.1 == d)=true
     . rw [if_pos hpd] at q; cases q; exact .inr ⟨rfl,rfl⟩
     . rw [if_neg hpd] at q; subst q; exact .inl ⟨_,hp⟩
   . rcases List.mem_append.mp h' with h' | h'
     . exact .inl ⟨_,h'⟩
     . rw [List.mem_singleton] at h'; cases h'; exact .inr ⟨rfl,rfl⟩
 . have h':(e,w')∈up s.held k _ k':=h
   rw [zan hk] at h'; exact .inl ⟨_,h'⟩
theorem zhE {s:HS K} {d:Nat} {a:Act K} {k:K} (h:(doIt s d a).book k≠none):s.book k≠none\/k=(zjy s a).key:=by
 rw [zo9] at h
 rw [zct]
 split at h
 . by_cases hk:k=a.key
   . exact .inr hk
   . rw [zan hk] at h; exact .inl h
 . exact .inl h
theorem zjf {s:HS K} {d:Nat} {a:Act K}:(doIt s d a).log.length<=s.log.length+1:=by
 rw [zmU,List.length_append]; split <;> simp
theorem Ext.zaF {ks:List K} {s:HS K} {T:Nat} (E:Ext s T) (c:Core s none):Ext (TH.zaF s ks) T:=by
 refine zbA (λ t=>Ext t T) (λ s k d w r a c hr hl ha E=>?_) ks s c E
 have hm:(d,w)∈s.rows k:=by rw [hr]; exact List.mem_cons_self
 obtain ⟨hst,a',ha',hk',hw'⟩:=c.rAct k _ hm
 rw [ha] at ha'; cases ha'
 refine E.does (a:=zjy s a) (d:=d) (by rw [zdK]; rfl) (by rw [zca]; rfl) (c.lt (.inr hst)) (.inr hst) (by rw [zdm]; rfl) zjf (λ k=>zhE) (λ k' e w' h=>?_) ?_ (Nat.le_refl _) (.inl hst)
 . rw [zcs] at h
   rcases zi9 h with h | ⟨h1,h2⟩
   . exact .inl h
   . exact .inr ⟨h1,by rw [zct,hk']; exact h2⟩
 . rw [zct,hk']; exact zcH c hm
theorem zp2 {l:List (Nat×Bool)} {d:Nat} {p:Nat×Bool} (h:p∈less l d):p∈l:=(List.mem_filter.mp h).1
theorem Ext.ends {s:HS K} {d:Nat} {t:DS} {bk:Book K} {kp:List Nat} {r:Row K} {T:Nat} (E:Ext s T) (c:Core s none) (hd:(s.deed d).act) (ht:t=.kept\/t=.dropped) (hb:∀ k,bk k≠none->k∈s.seen) :
   Ext (letGo { s with deed:=up s.deed d { s.deed d with st:=t },book:=bk,kept:=kp,log:=s.log++[r] } d) T:=by
 have dn:∀ e,(up s.deed d { s.deed d with st:=t } e).done=(s.deed e).done:=λ e=>by
   by_cases h:e=d
   . subst h; rw [zag]
   . rw [zan h]
 have tw:t≠.waiting/\t≠.zas:=by rcases ht with h | h <;> subst h <;> decide
 refine ⟨λ k e w h=>?_,λ e=>?_,E.n,E.sn,E.snd,?_,λ e x hx=>?_,λ k h=>hb k h⟩
 . obtain ⟨x,hx,q⟩:=E.own k e w (zp2 h)
   exact ⟨x,by show x∈(up s.deed d _ e).done; rw [dn]; exact hx,q⟩
 . show (up s.deed d _ e).done.length+(if (up s.deed d _ e).st=.waiting then 1 else 0)<=T
   rw [dn]
   have:=E.dn e
   by_cases h:e=d
   . subst h; rw [zag,if_neg tw.1]; split at this <;> omega
   . rw [zan h]; exact this
 . show (s.log++[r]).length+(List.range s.n).countP (λ x=>zgp (up s.deed d _ x))+(List.range s.n).countP (λ x=>actB (up s.deed d _ x))<=2 * T
   have e1:(List.range s.n).countP (λ x=>actB (up s.deed d { s.deed d with st:=t } x)) < actN s:=by
     unfold actN
     refine zfx (λ x _ hx=>?_) ⟨d,List.mem_range.mpr (c.lt hd),zaP.mpr hd,?_⟩
     . by_cases h:x=d
       . subst h; exact zaP.mpr hd
       . rw [zan h] at hx; exact hx
     . rw [zag]; unfold actB; simp [tw.1,tw.2]
   have e2:(List.range s.n).countP (λ x=>zgp (up s.deed d { s.deed d with st:=t } x))<=zdo s:=by
     unfold zdo
     refine List.countP_mono_left λ x _ hx=>?_
     by_cases h:x=d
     . subst h; rw [zag] at hx; unfold zgp at hx; simp [tw.1] at hx
     . rw [zan h] at hx; exact hx
   have:=E.lg
   rw [List.length_append,List.length_singleton]
   dsimp only at e1 e2 ⊢
   omega
 . have hx':x∈(up s.deed d { s.deed d with st:=t } e).done:=hx
   rw [dn] at hx'; exact E.zgr e x hx'
variable (ord:List K->List K)
theorem Ext.keep {s:HS K} {d:Nat} {T:Nat} (E:Ext s T) (c:Core s none) (hd:(s.deed d).act):Ext (TH.keep ord s d) T:=by
 have:=Ext.zaF (ks:=ord s.seen) (E.ends (t:=.kept) (bk:=s.book) (kp:=s.kept++[d]) (r:=.keep d) c hd (.inl rfl) E.zhD) (c.keeps hd)
 exact this
theorem Ext.drop {s:HS K} {d:Nat} {T:Nat} (E:Ext s T) (c:Core s none) (hd:(s.deed d).act):Ext (TH.drop ord s d) T:=by
 have:=Ext.zaF (ks:=ord s.seen) (E.ends (t:=.dropped) (bk:=λ k=>if (zaN (s.deed d).done k).isSome then zau s k else s.book k) (kp:=s.kept) (r:=.drop d) c hd (.inr rfl) (λ k h=>by
  split at h
  . exact E.zp4 k h
  . exact E.zhD k h)) (c.drops hd)
 exact this
theorem Ext.za6 {s:HS K} {T:Nat} (E:Ext s T) (c:Core s none):Ext (TH.za6 s) (T+1):=by
 have dd:∀ e,e≠s.n->(TH.za6 s).deed e=s.deed e:=λ e he=>zan he
 have ds:(TH.za6 s).deed s.n=⟨.zas,[],none⟩:=zag
 have out:=c.out s.n (Nat.le_refl _)
 refine ⟨λ k d w h=>?_,λ d=>?_,Nat.succ_le_succ E.n,Nat.le_succ_of_le E.sn,E.snd,?_,λ d x hx=>?_,E.zhD⟩
 . obtain ⟨x,hx,q⟩:=E.own k d w h
   have hne:d≠s.n:=λ z=>by subst z; rw [out.2] at hx; cases hx
   exact ⟨x,by rw [dd d hne]; exact hx,q⟩
 . by_cases h:d=s.n
   . subst h; rw [ds]; simp
   . rw [dd d h]; exact Nat.le_succ_of_le (E.dn d)
 . show (s.log++[_]).length+(List.range (s.n+1)).countP (λ x=>zgp ((TH.za6 s).deed x))+(List.range (s.n+1)).countP (λ x=>actB ((TH.za6 s).deed x))<=_
   rw [List.range_succ,List.countP_append,List.countP_append,List.length_append]
   have e1:(List.range s.n).countP (λ x=>zgp ((TH.za6 s).deed x))=zdo s:=List.countP_congr λ x hx=>by rw [dd x (Nat.ne_of_lt (List.mem_range.mp hx))]
   have e2:(List.range s.n).countP (λ x=>actB ((TH.za6 s).deed x))=actN s:=List.countP_congr λ x hx=>by rw [dd x (Nat.ne_of_lt (List.mem_range.mp hx))]
   rw [e1,e2]
   have:=E.lg
   have h1:[s.n].countP (λ x=>zgp ((TH.za6 s).deed x))=0:=by simp [ds,zgp]
   have h2:[s.n].countP (λ x=>actB ((TH.za6 s).deed x))<=1:=by
     have:=List.countP_le_length (p:=λ x=>actB ((TH.za6 s).deed x)) (l:=[s.n]); simpa using this
   rw [h1]
   simp only [List.length_singleton]
   omega
 . by_cases h:d=s.n
   . subst h; rw [ds] at hx; cases hx
   . rw [dd d h] at hx; exact E.zgr d x hx
theorem Ext.see {s:HS K} {T:Nat} {k:K} (E:Ext s T):Ext (TH.see s k) (T+1):=by
 have sub:∀ x,x∈s.seen->x∈(TH.see s k).seen:=λ x hx=>by
   show x∈if k∈s.seen then s.seen else s.seen++[k]
   split
   . exact hx
   . exact List.mem_append_left _ hx
 refine ⟨E.own,λ d=>Nat.le_succ_of_le (E.dn d),Nat.le_succ_of_le E.n,?_,?_,Nat.le_trans E.lg (by omega),λ d x hx=>sub _ (E.zgr d x hx),λ k h=>sub _ (E.zhD k h)⟩
 . show (if k∈s.seen then s.seen else s.seen++[k]).length<=_
   have:=E.sn
   split
   . omega
   . simp; omega
 . show (if k∈s.seen then s.seen else s.seen++[k]).Nodup
   split
   . exact E.snd
   . rename_i h
     exact List.nodup_append.mpr ⟨E.snd,by simp,λ a ha b hb=>by rw [List.mem_singleton.mp hb]; intro z; rw [z] at ha; exact h ha⟩
theorem Ext.settle:∀ {f:Nat} {s:HS K} {T:Nat},Ext s T->Core s none->Ext (TH.settle ord f s) T
 | 0,s,T,E,c=>E
 | f+1,s,T,E,c=>by
  unfold TH.settle
  cases h:(rings s).getLast? with
  | none=>exact E
  | some d =>
   have hd:(s.deed d).act:=.inr (zaJ (zbH (List.mem_of_getLast? h)).2)
   exact Ext.settle (E.drop ord c hd) (c.drop ord hd)
theorem Ext.wait {s:HS K} {d:Nat} {a:Act K} {T:Nat} (E:Ext s T) (hd:(s.deed d).st=.zas) (hT:∀ e,(s.deed e).done.length+(if (s.deed e).st=.waiting then 1 else 0)+1<=T) (hl:s.log.length+zdo s+actN s+2<=2 * T):Ext (TH.wait s d a) T:=by
 have dn:∀ e,(up s.deed d { s.deed d with st:=.waiting,wish:=some a } e).done=(s.deed e).done:=λ e=>by
   by_cases h:e=d
   . subst h; rw [zag]
   . rw [zan h]
 refine ⟨λ k e w h=>?_,λ e=>?_,E.n,E.sn,E.snd,?_,λ e x hx=>?_,E.zhD⟩
 . obtain ⟨x,hx,q⟩:=E.own k e w h
   exact ⟨x,by show x∈(up s.deed d _ e).done; rw [dn]; exact hx,q⟩
 . show (up s.deed d _ e).done.length+(if (up s.deed d _ e).st=.waiting then 1 else 0)<=T
   rw [dn]
   have:=hT e
   split at this <;> split <;> omega
 . show s.log.length+(List.range s.n).countP (λ x=>zgp (up s.deed d _ x))+(List.range s.n).countP (λ x=>actB (up s.deed d _ x))<=2 * T
   have e1:(List.range s.n).countP (λ x=>actB (up s.deed d { s.deed d with st:=.waiting,wish:=some a } x))<=actN s:=by
     unfold actN
     refine List.countP_mono_left λ x _ hx=>?_
     by_cases h:x=d
     . subst h; exact zaP.mpr (.inl hd)
     . rw [zan h] at hx; exact hx
   have e2:(List.range s.n).countP (λ x=>zgp (up s.deed d { s.deed d with st:=.waiting,wish:=some a } x))<=zdo s+1:=by
     unfold zdo
     refine zhA (d:=d) List.nodup_range λ x _ hx=>?_
     by_cases h:x=d
     . exact .inr h
     . rw [zan h] at hx; exact .inl hx
   dsimp only at e1 e2 ⊢
   omega
 . have hx':x∈(up s.deed d { s.deed d with st:=.waiting,wish:=some a } e).done:=hx
   rw [dn] at hx'; exact E.zgr e x hx'
theorem Ext.wish {s:HS K} {d:Nat} {a:Act K} {T:Nat} (E:Ext s T) (c:Core s none) (hd:(s.deed d).st=.zas):Ext (TH.wish ord s d a) (T+1):=by
 have c1:Core (TH.see s a.key) none:=c.see
 have E1:Ext (TH.see s a.key) (T+1):=E.see
 have es:∀ x,x∈(TH.see s a.key).seen↔x=a.key\/x∈s.seen:=λ x=>by
   show x∈(if a.key∈s.seen then s.seen else s.seen++[a.key])↔_
   split
   . rename_i h; exact ⟨.inr,λ q=>q.elim (λ z=>z ▸ h) id⟩
   . rw [List.mem_append,List.mem_singleton]; exact Or.comm
 have main:∀ t:HS K,t.n=s.n->t.seen=(TH.see s a.key).seen->t.deed=s.deed->t.log=s.log->t.book=s.book->(∀ k e w,(e,w)∈t.held k->(∃ w',(e,w')∈s.held k)\/(e=d/\k=a.key))->Ext (doIt t d a) (T+1):=by
   intro t hn hs hdd hlg hbk hh
   have q:Ext { s with seen:=(TH.see s a.key).seen } (T+1):=E1
   have D:∀ T',Ext { s with seen:=(TH.see s a.key).seen } T'->T<=T'->(∀ e,(s.deed e).done.length+(if (s.deed e).st=.waiting then 1 else 0)<=T)->Ext (doIt t d a) (T+1):=λ _ _ _ _=>by
     have ds:(doIt t d a).deed d={ s.deed d with st:=.zas,done:=(s.deed d).done++[zjy t a] }:=by rw [zdm,hdd,zag]
     have dn:∀ e,e≠d->(doIt t d a).deed e=s.deed e:=λ e he=>by rw [zdm,hdd,zan he]
     have en:(doIt t d a).n=s.n:=by rw [zdK]; exact hn
     refine ⟨λ k e w h=>?_,λ e=>?_,by rw [en]; exact Nat.le_succ_of_le E.n,by rw [zca,hs]; exact E1.sn,by rw [zca,hs]; exact E1.snd,?_,λ e x hx=>?_,λ k h=>?_⟩
     . rw [zcs] at h
       have sub:∀ e x,x∈(s.deed e).done->x∈((doIt t d a).deed e).done:=λ e x hx=>by
         by_cases he:e=d
         . subst he; rw [ds]; exact List.mem_append_left _ hx
         . rw [dn e he]; exact hx
       rcases hh k e w h with ⟨w',h'⟩ | ⟨he,hk⟩
       . obtain ⟨x,hx,q⟩:=E.own k e w' h'
         exact ⟨x,sub e x hx,q⟩
       . subst he
         exact ⟨zjy t a,by rw [ds]; exact List.mem_append_right _ List.mem_cons_self,by rw [zct]; exact hk.symm⟩
     . by_cases he:e=d
       . subst he
         have:=E.dn e
         rw [ds]
         simp
         split at this <;> omega
       . rw [dn e he]; exact Nat.le_succ_of_le (E.dn e)
     . have e1:actN (doIt t d a)=actN s:=by
         unfold actN; rw [en]
         refine List.countP_congr λ x _=>?_
         by_cases hx:x=d
         . subst hx; rw [ds,zaP,zaP]; exact ⟨λ _=>.inl hd,λ _=>.inl rfl⟩
         . rw [dn x hx]
       have e2:zdo (doIt t d a)<=zdo s:=by
         unfold zdo; rw [en]
         refine List.countP_mono_left λ x _ hx=>?_
         by_cases hxd:x=d
         . subst hxd; rw [ds] at hx; cases hx
         . rw [dn x hxd] at hx; exact hx
       have e3:=zjf (s:=t) (d:=d) (a:=a)
       rw [hlg] at e3
       have:=E.lg
       omega
     . rw [zca,hs]
       by_cases he:e=d
       . subst he
         rw [ds] at hx
         rcases List.mem_append.mp hx with hx | hx
         . exact (es _).mpr (.inr (E.zgr e x hx))
         . rw [List.mem_singleton.mp hx,zct]; exact (es _).mpr (.inl rfl)
       . rw [dn e he] at hx; exact (es _).mpr (.inr (E.zgr e x hx))
     . rw [zca,hs]
       rcases zhE h with h | h
       . rw [hbk] at h; exact (es _).mpr (.inr (E.zhD k h))
       . rw [h,zct]; exact (es _).mpr (.inl rfl)
   exact D _ q (Nat.le_succ _) E.dn
 unfold TH.wish
 dsimp only
 by_cases h1:look ((TH.see s a.key).held a.key) d=some a.wr\/look ((TH.see s a.key).held a.key) d=some true
 . rw [if_pos h1]
   exact main _ rfl rfl rfl rfl rfl λ k e w h=>.inl ⟨w,h⟩
 . rw [if_neg h1]
   have hw:∀ w',(d,w')∈(TH.see s a.key).held a.key->w'=false/\a.wr=true:=λ w' z=>by
     have q:=zcO (c1.hNd _) z
     cases hw':w' with
     | true=>exact absurd (.inr (hw' ▸ q)) h1
     | false =>
       cases ha:a.wr with
       | true=>exact ⟨rfl,rfl⟩
       | false=>exact absurd (.inl (by rw [ha,q,hw'])) h1
   by_cases h2:lets ((TH.see s a.key).held a.key) d a.wr=true/\(has ((TH.see s a.key).held a.key) d=true\/(TH.see s a.key).rows a.key=[])
   . rw [if_pos h2]
     exact main _ rfl rfl rfl rfl rfl λ k e w h=>zi9 (s:=TH.see s a.key) h
   . rw [if_neg h2]
     refine Ext.settle ord (Ext.wait E1 hd (λ e=>?_) ?_) (c1.wait hd zb5 hw)
     . have:=E.dn e
       show (s.deed e).done.length+(if (s.deed e).st=.waiting then 1 else 0)+1<=T+1
       omega
     . show s.log.length+zdo s+actN s+2<=2 * (T+1)
       have:=E.lg; omega
end
end TH
end
section
namespace TH
section
variable {K:Type} [DecidableEq K]
theorem zk6 {α:Type} {p:α->Bool}:∀ {l:List α},l.takeWhile p=l↔∀ x∈l,p x=true
 | []=>by simp
 | a::r=>by
  rw [List.takeWhile_cons]
  cases h:p a with
  | true=>simp [zk6 (l:=r),h]
  | false=>simp [h]
def hind (h:List (Nat×Bool)) (d:Nat) (w:Bool):List Nat:=(h.filter λ p=>p.1 != d && (w || p.2)).map (·.1)
def ahead (r:List (Nat×Bool)) (d:Nat):List (Nat×Bool):=r.takeWhile λ p=>p.1 != d
def zi7 (h r:List (Nat×Bool)) (d:Nat) (w:Bool):List Nat:=match (ahead r d).getLast? with
 | some p=>[p.1]
 | none=>hind h d w
def nxt (s:HS K) (d:Nat):List Nat:=match (s.deed d).st,(s.deed d).wish with
 | .waiting,some a=>zi7 (s.held a.key) (s.rows a.key) d a.wr
 | _,_=>[]
theorem zgC {s:HS K} {d:Nat} {a:Act K} (h:(s.deed d).st=.waiting) (w:(s.deed d).wish=some a):zbP s d=(ahead (s.rows a.key) d).map (·.1)++hind (s.held a.key) d a.wr:=by
 unfold zbP; rw [h,w]; rfl
theorem zkm {s:HS K} {d:Nat} {a:Act K} (h:(s.deed d).st=.waiting) (w:(s.deed d).wish=some a):nxt s d=zi7 (s.held a.key) (s.rows a.key) d a.wr:=by
 unfold nxt; rw [h,w]
theorem zow {s:HS K} {d:Nat} (h:(s.deed d).st≠.waiting):nxt s d=[]:=by
 unfold nxt; split
 . contradiction
 . rfl
inductive Path (R:Nat->Nat->Prop):Nat->Nat->Prop where
 | one {d e:Nat}:R d e->Path R d e
 | step {d e f:Nat}:R d e->Path R e f->Path R d f
theorem Path.trans {R:Nat->Nat->Prop} {d e f:Nat} (p:Path R d e) (q:Path R e f):Path R d f:=by
 induction p with
 | one h=>exact .step h q
 | step h _ ih=>exact .step h (ih q)
theorem Path.mono {R S:Nat->Nat->Prop} (h:∀ a b,R a b->S a b) {d e:Nat} (p:Path R d e):Path S d e:=by
 induction p with
 | one q=>exact .one (h _ _ q)
 | step q _ ih=>exact .step (h _ _ q) ih
theorem Path.last {R:Nat->Nat->Prop} {d e:Nat} (p:Path R d e):∃ c,R c e/\(c=d\/Path R d c):=by
 induction p with
 | one h=>exact ⟨_,h,.inl rfl⟩
 | step h _ ih =>
  obtain ⟨c,q,z⟩:=ih
  refine ⟨c,q,.inr ?_⟩
  rcases z with z | z
  . subst z; exact .one h
  . exact .step h z
theorem zbK {s:HS K} {d e:Nat}:Reach s d e↔Path (λ a b=>b∈zbP s a) d e :=
 ⟨λ r=>by induction r with
  | one h=>exact .one h
  | step h _ ih=>exact .step h ih,λ r=>by induction r with
  | one h=>exact .one h
  | step h _ ih=>exact .step h ih⟩
abbrev zc4 (s:HS K):Nat->Nat->Prop:=Path λ a b=>b∈nxt s a
theorem zkl {s:HS K} {d e:Nat} (h:e∈nxt s d):e∈zbP s d:=by
 by_cases hw:(s.deed d).st=.waiting
 . cases ha:(s.deed d).wish with
   | none=>unfold nxt at h; rw [hw,ha] at h; cases h
   | some a =>
    rw [zkm hw ha] at h
    rw [zgC hw ha]
    unfold zi7 at h
    cases hl:(ahead (s.rows a.key) d).getLast? with
    | none=>rw [hl] at h; exact List.mem_append_right _ h
    | some p =>
     rw [hl] at h
     rw [List.mem_singleton.mp h]
     exact List.mem_append_left _ (List.mem_map.mpr ⟨p,List.mem_of_getLast? hl,rfl⟩)
 . rw [zow hw] at h; cases h
theorem zc3 {pre post:List (Nat×Bool)} {d:Nat} {w:Bool} (h:∀ p∈pre,p.1≠d):ahead (pre++(d,w)::post) d=pre:=by
 unfold ahead
 rw [List.takeWhile_append_of_pos (by intro p hp; simpa using h p hp)]
 simp
theorem ziO {r:List (Nat×Bool)} {d:Nat} {w:Bool} (nd:(r.map (·.1)).Nodup) (h:(d,w)∈r):∃ post,r=ahead r d++(d,w)::post/\∀ p∈ahead r d,p.1≠d:=by
 obtain ⟨pre,post,rfl⟩:=List.append_of_mem h
 have hp:∀ p∈pre,p.1≠d:=λ p hp z=>by
  rw [List.map_append,List.nodup_append] at nd
  exact nd.2.2 p.1 (List.mem_map.mpr ⟨p,hp,rfl⟩) d (by simp) z
 exact ⟨post,by rw [zc3 hp],by rw [zc3 hp]; exact hp⟩
theorem zgW {s:HS K} (c:Core s none) {k:K}:∀ (m:Nat) (pre post:List (Nat×Bool)) (d:Nat) (w:Bool),pre.length=m->s.rows k=pre++(d,w)::post->∀ p∈pre,zc4 s d p.1
 | 0,pre,post,d,w,hm,e,p,hp=>by
  have:pre=[]:=List.length_eq_zero_iff.mp hm
  subst this; cases hp
 | m+1,pre,post,d,w,hm,e,p,hp=>by
  have hne:pre≠[]:=by intro z; subst z; cases hm
  obtain ⟨init,⟨f,wf⟩,rfl⟩:∃ init l,pre=init++[l]:=⟨pre.dropLast,pre.getLast hne,(List.dropLast_concat_getLast hne).symm⟩
  have nd:=c.rNd k
  have hm':(d,w)∈s.rows k:=by rw [e]; simp
  obtain ⟨hst,a,ha,hk,hw⟩:=c.rAct k _ hm'
  obtain ⟨post',e',hall⟩:=ziO nd hm'
  have hpre:∀ p∈init++[(f,wf)],p.1≠d:=λ p hp z=>by
    rw [e,List.map_append,List.nodup_append] at nd
    exact nd.2.2 p.1 (List.mem_map.mpr ⟨p,hp,rfl⟩) d (by simp) z
  have ea:ahead (s.rows k) d=init++[(f,wf)]:=by rw [e]; exact zc3 hpre
  have h1:f∈nxt s d:=by
    rw [zkm hst ha,hk]; unfold zi7; rw [ea]; simp
  rcases List.mem_append.mp hp with hp | hp
  . exact .step h1 (zgW c m init ((d,w)::post) f wf (by simpa using hm) (by rw [e]; simp) p hp)
  . rw [List.mem_singleton.mp hp]; exact .one h1
theorem zgb {s:HS K} (c:Core s none) (hh:Head s) {d e:Nat} (h:e∈zbP s d):zc4 s d e:=by
 obtain ⟨a,hst,ha,_⟩:=zbw.mp h
 rw [zgC hst ha] at h
 obtain ⟨a',ha',hrow⟩:=c.wRow d (by simp) hst
 rw [ha] at ha'; cases ha'
 have hr:(d,a.wr)∈s.rows a.key:=hrow
 have nd:=c.rNd a.key
 obtain ⟨post,e1,hall⟩:=ziO nd hr
 rcases List.mem_append.mp h with h | h
 . obtain ⟨p,hp,rfl⟩:=List.mem_map.mp h
   exact zgW c _ _ post d a.wr rfl e1 p hp
 . cases hl:ahead (s.rows a.key) d with
   | nil =>
    refine .one ?_
    rw [zkm hst ha]; unfold zi7; rw [hl]; exact h
   | cons p r =>
    obtain ⟨f,wf⟩:=p
    have hf:zc4 s d f:=zgW c _ _ post d a.wr rfl e1 (f,wf) (by rw [hl]; exact List.mem_cons_self)
    by_cases hef:e=f
    . rw [hef]; exact hf
    ·
      rw [hl] at e1
      have hd0:=hh a.key f wf _ (by rw [e1]; rfl)
      unfold hind at h
      obtain ⟨⟨e',we⟩,hm,rfl⟩:=List.mem_map.mp h
      obtain ⟨hm1,hm2⟩:=List.mem_filter.mp hm
      have hfr:(f,wf)∈s.rows a.key:=by rw [e1]; simp
      obtain ⟨fst,af,haf,hkf,hwf⟩:=c.rAct a.key _ hfr
      have hnf:nxt s f=hind (s.held a.key) f wf:=by
       have q:=zkm fst haf
       rw [hkf] at q
       rw [q]
       unfold zi7
       have:ahead (s.rows a.key) f=[]:=by rw [e1]; exact zc3 (pre:=[]) (by simp)
       rw [this]
       show hind (s.held a.key) f af.wr=_
       rw [hwf]
      refine hf.trans (.one ?_)
      rw [hnf]
      unfold hind
      refine List.mem_map.mpr ⟨(e',we),List.mem_filter.mpr ⟨hm1,?_⟩,rfl⟩
      have hne:((e' != f))=true:=by simpa using hef
      simp only [hne,Bool.true_and]
      cases hwf':wf with
      | true=>rfl
      | false =>
       rw [hwf'] at hd0
       have hx:∃ p∈s.held a.key,p.1≠f/\p.2=true:=by
        unfold lets at hd0
        obtain ⟨p,hp,q⟩:=List.all_eq_false.mp hd0
        refine ⟨p,hp,?_⟩
        cases hp2:p.2 with
        | false=>simp [hp2] at q
        | true=>simp [hp2] at q; exact ⟨q,rfl⟩
       obtain ⟨⟨x,wx⟩,hx1,_,hx2⟩:=hx
       have hx2':wx=true:=hx2
       subst hx2'
       have q:=c.hEx a.key x hx1 (e',we) hm1
       have q':e'=x:=q
       subst q'
       have n1:=zcO (c.hNd a.key) hm1
       have n2:=zcO (c.hNd a.key) hx1
       rw [n1] at n2; cases n2; rfl
theorem zdi {s:HS K} (c:Core s none) (hh:Head s) {d e:Nat}:zc4 s d e↔Reach s d e:=by
 rw [zbK]
 refine ⟨λ p=>p.mono λ a b h=>zkl h,λ p=>?_⟩
 induction p with
 | one h=>exact zgb c hh h
 | step h _ ih=>exact (zgb c hh h).trans ih
def Thru (s:HS K) (d:Nat):Prop:=∀ x,¬ Path (λ a b=>b∈zbP s a/\a≠d/\b≠d) x x
theorem Thru.mono {s t:HS K} {d:Nat} (h:Thru s d) (m:∀ e x,x∈zbP t e->x∈zbP s e):Thru t d:=λ x p=>h x (p.mono λ a b q=>⟨m _ _ q.1,q.2⟩)
theorem zro {R:Nat->Nat->Prop} {d x y:Nat} (p:Path R x y):(x=d\/y=d)\/(Path R x d/\Path R d y)\/Path (λ a b=>R a b/\a≠d/\b≠d) x y:=by
 induction p with
 | @one x y h =>
  by_cases h1:x=d
  . exact .inl (.inl h1)
  . by_cases h2:y=d
    . exact .inl (.inr h2)
    . exact .inr (.inr (.one ⟨h,h1,h2⟩))
 | @step x e y h q ih =>
  by_cases h1:x=d
  . exact .inl (.inl h1)
  . rcases ih with (z | z) | ⟨z1,z2⟩ | z
    . subst z; exact .inr (.inl ⟨.one h,q⟩)
    . exact .inl (.inr z)
    . exact .inr (.inl ⟨.step h z1,z2⟩)
    . by_cases h2:e=d
      . subst h2; exact .inr (.inl ⟨.one h,q⟩)
      . exact .inr (.inr (.step ⟨h,h1,h2⟩ z))
theorem Thru.ring {s:HS K} {d:Nat} (h:Thru s d) {x:Nat} (r:Reach s x x):Reach s x d/\Reach s d x:=by
 rw [zbK] at r
 rcases zro (d:=d) r with (z | z) | ⟨z1,z2⟩ | z
 . subst z; exact ⟨zbK.mpr r,zbK.mpr r⟩
 . subst z; exact ⟨zbK.mpr r,zbK.mpr r⟩
 . exact ⟨zbK.mpr z1,zbK.mpr z2⟩
 . exact absurd z (h x)
theorem Thru.wait {s:HS K} {d:Nat} {a:Act K} (ac:Acyc s):Thru (TH.wait s d a) d:=by
 intro x p
 refine ac x (zbK.mpr (p.mono λ e y h=>?_))
 obtain ⟨h,he,hy⟩:=h
 obtain ⟨b,hst,hb,_⟩:=zbw.mp h
 rw [zgC hst hb] at h
 have de:(TH.wait s d a).deed e=s.deed e:=zan he
 rw [de] at hst hb
 rw [zgC hst hb]
 rcases List.mem_append.mp h with h | h
 . refine List.mem_append_left _ ?_
   by_cases hk:b.key=a.key
   . have er:(TH.wait s d a).rows b.key=if has (s.held a.key) d then (d,a.wr)::s.rows a.key else s.rows a.key++[(d,a.wr)]:=by
       show up s.rows a.key _ b.key=_
       rw [hk,zag]
     rw [er] at h
     rw [hk]
     obtain ⟨q,hq,rfl⟩:=List.mem_map.mp h
     refine List.mem_map.mpr ⟨q,?_,rfl⟩
     unfold ahead at hq ⊢
     split at hq
     . rw [List.takeWhile_cons] at hq
       split at hq
       . rcases List.mem_cons.mp hq with z | z
         . subst z; exact absurd rfl hy
         . exact z
       . cases hq
     . by_cases hall:∀ q∈s.rows a.key,(q.1 != e)=true
       . rw [List.takeWhile_append_of_pos hall] at hq
         rw [zk6.mpr hall]
         rcases List.mem_append.mp hq with z | z
         . exact z
         . rw [List.takeWhile_cons] at z
           split at z
           . simp at z; subst z; exact absurd rfl hy
           . cases z
       . have:(s.rows a.key++[(d,a.wr)]).takeWhile (λ p=>p.1 != e)=(s.rows a.key).takeWhile λ p=>p.1 != e:=by
           rw [List.takeWhile_append]
           rw [if_neg]
           intro z
           apply hall
           have:(s.rows a.key).takeWhile (λ p=>p.1 != e)=s.rows a.key:=(List.takeWhile_sublist _).eq_of_length z
           exact zk6.mp this
         rw [this] at hq; exact hq
   . have er:(TH.wait s d a).rows b.key=s.rows b.key:=zan hk
     rw [er] at h; exact h
 . exact List.mem_append_right _ h
theorem zm7 (ord:List K->List K) {s:HS K} {g:Nat} (c:Core s none) (hg:(s.deed g).act):∀ e x,x∈zbP (TH.drop ord s g) e->x∈zbP s e:=λ e x h =>
 zeF (t:=.dropped) (d:=g) (s:=s) (bk:=λ k=>if (zaN (s.deed g).done k).isSome then zau s k else s.book k) (kp:=s.kept) (lg:=s.log++[.drop g]) (by decide) e x (zdZ (c.drops hg) e x h)
theorem ziU {s:HS K} {d:Nat} (c:Core s none) (th:Thru s d) :
   ((¬ Reach s d d)->(rings s).getLast?=none)/\∀ g,Reach s d g->Reach s g d->(∀ x,Reach s d x->Reach s x d->x<=g)->(rings s).getLast?=some g:=by
 have mem:∀ x,x∈rings s↔Reach s x x:=λ x=>by
   refine ⟨λ h=>(zbH h).2,λ h=>?_⟩
   unfold rings
   refine List.mem_filter.mpr ⟨List.mem_range.mpr (c.lt (.inr (zaJ h))),by simpa using h⟩
 refine ⟨λ h=>?_,λ g h1 h2 h3=>?_⟩
 . cases e:(rings s).getLast? with
   | none=>rfl
   | some x =>
    have:=th.ring ((mem x).mp (List.mem_of_getLast? e))
    exact absurd (this.2.trans this.1) h
 . have hg:g∈rings s:=(mem g).mpr (h2.trans h1)
   cases e:(rings s).getLast? with
   | none=>rw [List.getLast?_eq_none_iff] at e; rw [e] at hg; cases hg
   | some x =>
    have hx:=(mem x).mp (List.mem_of_getLast? e)
    have hx2:=th.ring hx
    have le:=h3 x hx2.2 hx2.1
    have sorted:(rings s).Pairwise (· < ·):=List.Pairwise.filter _ List.pairwise_lt_range
    obtain ⟨init,hi⟩:∃ init,rings s=init++[x]:=by
      have hne:rings s≠[]:=by intro z; rw [z] at hg; cases hg
      refine ⟨(rings s).dropLast,?_⟩
      have:=List.dropLast_concat_getLast hne
      rw [List.getLast?_eq_some_getLast hne] at e
      cases e
      exact this.symm
    rw [hi] at hg sorted
    rcases List.mem_append.mp hg with q | q
    . have:=(List.pairwise_append.mp sorted).2.2 g q x (by simp)
      omega
    . rw [List.mem_singleton.mp q]
theorem zld (ord:List K->List K) {s:HS K} {f:Nat} (h:(rings s).getLast?=none):TH.settle ord f s=s:=by
 cases f with
 | zero=>rfl
 | succ f=>unfold TH.settle; rw [h]
theorem zlc (ord:List K->List K) {s:HS K} {f g:Nat} (h:(rings s).getLast?=some g):TH.settle ord (f+1) s=TH.settle ord f (TH.drop ord s g):=by
 conv=>lhs; unfold TH.settle
 rw [h]
def touched (s:HS K) (d:Nat):List K:=(s.deed d).done.map (·.key)++(match (s.deed d).st,(s.deed d).wish with | .waiting,some a=>[a.key] | _,_=>[])
theorem ze5 {M:List K}:∀ (ks:List K) (s:HS K),Core s none->(∀ k∈ks,k∉M->zm3 s k)->zaF s ks=zaF s (ks.filter λ k=>decide (k∈M))
 | [],s,c,h=>rfl
 | k::r,s,c,h=>by
  by_cases hk:k∈M
  . rw [List.filter_cons_of_pos (by simpa using hk)]
    unfold zaF
    refine ze5 r _ c.zbz λ k' hk' hn=>?_
    have hne:k'≠k:=λ z=>hn (by rw [z]; exact hk)
    obtain ⟨e1,e2⟩:=zht hne (s.rows k).length s c
    intro d w r' e
    rw [e1] at e; rw [e2]
    exact h k' (List.mem_cons_of_mem _ hk') hn d w r' e
  . rw [List.filter_cons_of_neg (by simpa using hk)]
    have:zbz (s.rows k).length s k=s:=by
     cases hr:s.rows k with
     | nil=>exact zfr hr
     | cons p r' =>
      obtain ⟨d,w⟩:=p
      exact zer hr (h k List.mem_cons_self hk d w r' hr)
    show zaF (zbz (s.rows k).length s k) r=_
    rw [this]
    exact ze5 r s c λ k' hk'=>h k' (List.mem_cons_of_mem _ hk')
theorem zhd {s:HS K} {T:Nat} {d:Nat} {k:K} (c:Core s none) (E:Ext s T) (h:k∉touched s d):less (s.held k) d=s.held k/\less (s.rows k) d=s.rows k:=by
 have hh:∀ p∈s.held k,p.1≠d:=λ p hp z=>by
  obtain ⟨e,w⟩:=p
  have z':e=d:=z
  subst z'
  obtain ⟨a,ha,hk⟩:=E.own k e w hp
  exact h (List.mem_append_left _ (List.mem_map.mpr ⟨a,ha,hk⟩))
 have hr:∀ p∈s.rows k,p.1≠d:=λ p hp z=>by
  obtain ⟨e,w⟩:=p
  have z':e=d:=z
  subst z'
  obtain ⟨hst,a,ha,hk,_⟩:=c.rAct k _ hp
  refine h (List.mem_append_right _ ?_)
  have hst':(s.deed e).st=.waiting:=hst
  have ha':(s.deed e).wish=some a:=ha
  rw [hst',ha']
  simpa using hk.symm
 unfold less
 exact ⟨List.filter_eq_self.mpr λ p hp=>by simpa using hh p hp,List.filter_eq_self.mpr λ p hp=>by simpa using hr p hp⟩
theorem zdY {s:HS K} {T:Nat} {d:Nat} (c:Core s none) (E:Ext s T):∀ k∈touched s d,k∈s.seen:=λ k h=>by
 rcases List.mem_append.mp h with h | h
 . obtain ⟨a,ha,rfl⟩:=List.mem_map.mp h
   exact E.zgr d a ha
 . split at h
   . rename_i a hst ha
     rw [List.mem_singleton.mp h]
     obtain ⟨a',ha',hr⟩:=c.wRow d (by simp) hst
     rw [ha] at ha'; cases ha'
     exact zcH c hr
   . cases h
variable (ord:List K->List K) (hord:∀ l k,k∈ord l↔k∈l) (hsub:∀ l m:List K,(∀ x∈m,x∈l)->ord m=(ord l).filter λ k=>decide (k∈m))
include hsub
theorem zkG {s t:HS K} {T:Nat} {d:Nat} (c:Core s none) (E:Ext s T) (hh:Head s) (c1:Core (letGo t d) none) (h1:t.held=s.held) (h2:t.rows=s.rows) (h3:t.seen=s.seen) :
  free ord t d=zaF (letGo t d) (ord (touched s d)):=by
 unfold free
 rw [h3,hsub s.seen (touched s d) (zdY c E)]
 refine ze5 _ _ c1 λ k hk hn=>?_
 obtain ⟨e1,e2⟩:=zhd c E hn
 intro e w r q
 have q':less (t.rows k) d=(e,w)::r:=q
 show lets (less (t.held k) d) e w=false
 rw [h2,e2] at q'
 rw [h1,e1]
 exact hh k e w r q'
omit hsub
def zec (s:HS K) (d:Nat) (k:K):HS K:={ s with held:=up s.held k (less (s.held k) d),rows:=up s.rows k (less (s.rows k) d) }
theorem zku (l:List (Nat×Bool)) (d:Nat):less (less l d) d=less l d:=by unfold less; rw [List.filter_filter]; simp
theorem zfo (d:Nat):∀ (ks:List K) (s:HS K),(ks.foldl (λ s k=>zec s d k) s).held=(λ k=>if k∈ks then less (s.held k) d else s.held k)/\(ks.foldl (λ s k=>zec s d k) s).rows=(λ k=>if k∈ks then less (s.rows k) d else s.rows k)
 | [],s=>by simp
 | k::r,s=>by
  obtain ⟨h1,h2⟩:=zfo d r (zec s d k)
  rw [List.foldl_cons,h1,h2]
  refine ⟨funext λ k'=>?_,funext λ k'=>?_⟩
  . show (if k'∈r then less (up s.held k _ k') d else up s.held k _ k')=_
    by_cases hk:k'=k
    . subst hk; rw [zag,zku]; simp
    . rw [zan hk]; simp [hk]
  . show (if k'∈r then less (up s.rows k _ k') d else up s.rows k _ k')=_
    by_cases hk:k'=k
    . subst hk; rw [zag,zku]; simp
    . rw [zan hk]; simp [hk]
theorem ze4 (d:Nat):∀ (ks:List K) (s:HS K),(ks.foldl (λ s k=>zec s d k) s)={ s with held:=(ks.foldl (λ s k=>zec s d k) s).held,rows:=(ks.foldl (λ s k=>zec s d k) s).rows }
 | [],s=>rfl
 | k::r,s=>by rw [List.foldl_cons]; exact ze4 d r (zec s d k)
theorem zkw {s:HS K} {d:Nat} {ks:List K} (h:∀ k,k∉ks->less (s.held k) d=s.held k/\less (s.rows k) d=s.rows k):ks.foldl (λ s k=>zec s d k) s=letGo s d:=by
 rw [ze4,(zfo d ks s).1,(zfo d ks s).2]
 unfold letGo
 congr 1
 . funext k; split
   . rfl
   . rename_i hk; exact (h k hk).1.symm
 . funext k; split
   . rfl
   . rename_i hk; exact (h k hk).2.symm
def take1 (h:List (Nat×Bool)) (d:Nat) (w:Bool):List (Nat×Bool):=if look h d=some true then h else zbi h d w
def zjK (s:HS K) (d:Nat) (k:K) (w:Bool):HS K:={ s with held:=up s.held k (take1 (s.held k) d w) }
theorem zqR {α β:Type} [DecidableEq α] (f:α->β) (a:α):up f a (f a)=f:=by
 funext x; by_cases h:x=a
 . subst h; exact zag
 . exact zan h
theorem zje {h:List (Nat×Bool)} {d:Nat} {w:Bool} (e:look h d=some w):has h d=true:=zhM.mpr ⟨w,zc0 e⟩
theorem zjS {h:List (Nat×Bool)} {d:Nat} {w:Bool} (nd:(h.map (·.1)).Nodup) (e:look h d=some w):zbi h d w=h:=by
 unfold zbi
 have hh:h.any (λ p=>p.1 == d)=true:=zje e
 rw [if_pos hh]
 have:∀ p∈h,(if p.1 == d then (d,w) else p)=p:=λ p hp=>by
  obtain ⟨x,wx⟩:=p
  by_cases hx:x=d
  . subst hx
    have:=zcO nd hp
    rw [e] at this; cases this; simp
  . simp [hx]
 rw [List.map_congr_left this]; simp
theorem zgJ {s:HS K} {d:Nat} {a:Act K} (c:Core s none):wish ord s d a =
   if (has ((see s a.key).held a.key) d || ((see s a.key).rows a.key).isEmpty) && lets ((see s a.key).held a.key) d a.wr then doIt (zjK (see s a.key) d a.key a.wr) d a else settle ord s.n (wait (see s a.key) d a):=by
 have c1:Core (see s a.key) none:=c.see
 have nd:=c1.hNd a.key
 unfold wish
 dsimp only
 by_cases h1:look ((see s a.key).held a.key) d=some a.wr\/look ((see s a.key).held a.key) d=some true
 . rw [if_pos h1]
   have hl:lets ((see s a.key).held a.key) d a.wr=true:=by
     unfold lets
     rw [List.all_eq_true]
     intro p hp
     obtain ⟨x,wx⟩:=p
     by_cases hx:x=d
     . simp [hx]
     . have two:∀ y,(y,true)∈(see s a.key).held a.key->(∃ w,(d,w)∈(see s a.key).held a.key)->y=d:=λ y hy ⟨w,hw⟩=>(c1.hEx a.key y hy _ hw).symm
       rcases h1 with h1 | h1
       . have m:=zc0 h1
         cases hw:a.wr with
         | true=>rw [hw] at m; exact absurd (c1.hEx a.key d m _ hp) hx
         | false =>
          cases hwx:wx with
          | true=>subst hwx; exact absurd (two x hp ⟨_,m⟩) hx
          | false=>simp
       . have m:=zc0 h1
         exact absurd (c1.hEx a.key d m _ hp) hx
   have hhas:has ((see s a.key).held a.key) d=true:=by rcases h1 with h1 | h1 <;> exact zje h1
   rw [hl,hhas]
   simp only [Bool.true_or,Bool.and_self,if_true]
   have:zjK (see s a.key) d a.key a.wr=see s a.key:=by
     unfold zjK
     have:take1 ((see s a.key).held a.key) d a.wr=(see s a.key).held a.key:=by
       unfold take1
       by_cases h2:look ((see s a.key).held a.key) d=some true
       . rw [if_pos h2]
       . rw [if_neg h2]
         exact zjS nd (h1.resolve_right h2)
     rw [this,zqR]
   rw [this]
 . rw [if_neg h1]
   have h2:look ((see s a.key).held a.key) d≠some true:=λ z=>h1 (.inr z)
   have et:zjK (see s a.key) d a.key a.wr=take (see s a.key) d a.key a.wr:=by
     unfold zjK take take1; rw [if_neg h2]
   rw [et]
   by_cases h3:lets ((see s a.key).held a.key) d a.wr=true/\(has ((see s a.key).held a.key) d=true\/(see s a.key).rows a.key=[])
   . rw [if_pos h3,if_pos]
     obtain ⟨h4,h5⟩:=h3
     rw [h4]
     rcases h5 with h5 | h5
     . rw [h5]; rfl
     . rw [h5]; simp
   . rw [if_neg h3,if_neg]
     . rfl
     . intro z
       apply h3
       rw [Bool.and_eq_true,Bool.or_eq_true] at z
       exact ⟨z.2,z.1.imp id λ q=>List.isEmpty_iff.mp q⟩
theorem znx {s:HS K} {k:K} {d:Nat} {w:Bool} {r:List (Nat×Bool)} (c:Core s none) (hr:s.rows k=(d,w)::r):take { s with rows:=up s.rows k r } d k w=zjK { s with rows:=up s.rows k r } d k w:=by
 unfold take zjK take1
 rw [if_neg]
 intro z
 have:=c.zfN k d w true (by rw [hr]; exact List.mem_cons_self) (zc0 z)
 cases this.1
end
end TH
end
section
namespace S6
open PySem
section
variable {prog:Program} {w:World} {A:Around} {E:Value->Shared->Prop}
theorem zf4 {α:Type}:∀ {l:List α} {k:Nat} (h:k < l.length),(l[k]::l.eraseIdx k).Perm l
 | a::r,0,h=>by simp
 | a::r,k+1,h=>by
  have:=zf4 (l:=r) (k:=k) (by simpa using h)
  simp only [List.getElem_cons_succ,List.eraseIdx_cons_succ]
  exact (List.Perm.swap _ _ _).trans (this.cons a)
theorem zqN {src:Source} {n:Nat} {Q:Nat->Shared->Prop} {s:Shared} (hn:n≠0) (h:∀ k d,k < n->Q k { s with drawn:=d }):wpAny (model prog w) A (choose src n) Q E s:=λ Γ p _ =>
 ⟨hn,h _ _ (Nat.mod_lt _ (Nat.pos_of_ne_zero hn))⟩
theorem zmg {α:Type}:∀ (n:Nat) (xs:List α) (s:Shared) (Q:List α->Shared->Prop),xs.length=n->(∀ ys d,ys.Perm xs->Q ys { s with drawn:=d })->wpAny (model prog w) A (drawOrder n xs) Q E s
 | 0,xs,s,Q,hl,h=>by
  have:xs=[]:=List.length_eq_zero_iff.mp hl
  subst this
  exact wpAny_pure (h [] s.drawn .nil)
 | n+1,[],s,Q,hl,h=>by cases hl
 | n+1,x::r,s,Q,hl,h=>by
  unfold drawOrder
  refine wpAny_bind (zqN (by simp) λ k d hk=>?_)
  obtain ⟨y,hy⟩:∃ y,(x::r)[k]?=some y:=⟨_,List.getElem?_eq_getElem hk⟩
  rw [hy]
  dsimp only
  refine wpAny_bind (zmg n ((x::r).eraseIdx k) _ _ ?_ λ ys d' hp=>wpAny_pure ?_)
  . rw [List.length_eraseIdx,if_pos hk]; omega
  . refine h (y::ys) d' ?_
    obtain ⟨hk',rfl⟩:=List.getElem?_eq_some_iff.mp hy
    exact (hp.cons _).trans (zf4 hk')
theorem zil {α:Type} (next:Nat->Nat):∀ (n k:Nat) (l:List α) (out:Array α),l.length=n->(pickOrder.go next n k l out).toList.Perm (out.toList++l)
 | 0,k,l,out,hl=>by
  have:l=[]:=List.length_eq_zero_iff.mp hl
  subst this
  unfold pickOrder.go; simp
 | n+1,k,l,out,hl=>by
  unfold pickOrder.go
  have hk:next k % l.length < l.length:=Nat.mod_lt _ (by omega)
  rw [List.getElem?_eq_getElem hk]
  dsimp only
  refine (zil next n (k+1) _ _ (by rw [List.length_eraseIdx,if_pos hk]; omega)).trans ?_
  rw [Array.toList_push,List.append_assoc]
  exact List.Perm.append_left _ (zf4 hk)
theorem zpN {α:Type} (next:Nat->Nat) (xs:Array α):(pickOrder next xs).toList.Perm xs.toList:=by
 unfold pickOrder
 have:=zil next xs.size 0 xs.toList #[] (by simp)
 simpa using this
theorem zg5 {α β:Type} {F:α->β->Prop} {l l':List α} (p:l'.Perm l):∀ {m:List β},Paired F l m->∃ m',m'.Perm m/\Paired F l' m':=by
 induction p with
 | nil=>intro m h; exact ⟨m,.refl _,h⟩
 | cons x _ ih =>
  intro m h
  cases h with
  | cons r t =>
   obtain ⟨m',p',h'⟩:=ih t
   exact ⟨_::m',p'.cons _,.cons r h'⟩
 | swap x y l =>
  intro m h
  cases h with
  | cons r t=>cases t with
   | cons r' t'=>exact ⟨_,.swap _ _ _,.cons r' (.cons r t')⟩
 | trans _ _ ih1 ih2 =>
  intro m h
  obtain ⟨m1,p1,h1⟩:=ih2 h
  obtain ⟨m2,p2,h2⟩:=ih1 h1
  exact ⟨m2,p2.trans p1,h2⟩
theorem zbS {α β:Type} {F:α->β->Prop}:∀ {l:List α} {m:List β} {a:α} {b:β},Paired F l m->F a b->Paired F (l++[a]) (m++[b])
 | _,_,_,_,.nil,h=>.cons h .nil
 | _,_,_,_,.cons r t,h=>.cons r (zbS t h)
theorem zi1 {α β:Type} {F:α->β->Prop}:∀ {l:List α} {m:List β} {i:Nat} {a:α},Paired F l m->l[i]?=some a->∃ b,m[i]?=some b/\F a b
 | _,_,_,_,.nil,h=>by simp at h
 | _,_,0,_,.cons r _,h=>by simp at h; subst h; exact ⟨_,rfl,r⟩
 | _,_,i+1,_,.cons _ t,h=>by
  obtain ⟨b,h1,h2⟩:=zi1 (i:=i) t (by simpa using h)
  exact ⟨b,by simpa using h1,h2⟩
theorem zmA {α β:Type} {F:α->β->Prop} {l:List α} {m:List β} (h:Paired F l m) {a:α} (ha:a∈l):∃ b∈m,F a b:=by
 obtain ⟨i,hi⟩:=List.mem_iff_getElem?.mp ha
 obtain ⟨b,h1,h2⟩:=zi1 h hi
 exact ⟨b,List.mem_of_getElem? h1,h2⟩
theorem zj7 {α β:Type} {F:α->β->Prop}:∀ {l:List α} {m:List β},Paired F l m->∀ {b:β},b∈m->∃ a∈l,F a b
 | _,_,.nil,_,hb=>by cases hb
 | _,_,.cons r t,b,hb=>by
  rcases List.mem_cons.mp hb with z | z
  . subst z; exact ⟨_,List.mem_cons_self,r⟩
  . obtain ⟨a,h1,h2⟩:=zj7 t z
    exact ⟨a,List.mem_cons_of_mem _ h1,h2⟩
theorem zst (t:SetTable) (n:Nat):(t.orStandIn n).led=t.led:=by unfold SetTable.orStandIn; split <;> rfl
theorem zpT (t:SetTable) (n:Nat) (h:t.plain=false):(t.orStandIn n).plain=false:=by
 unfold SetTable.orStandIn; split
 . exact h
 . rfl
theorem zrx (t:SetTable) (es:Array (Int×Value)) (h:Int) (x:Value):(layNew t es h x).2.1.led=t.led:=by
 unfold layNew; split
 . dsimp only; rw [zst]; rfl
 . rfl
theorem zoI (t:SetTable) (es:Array (Int×Value)) (h:Int) (x:Value) (hp:t.plain=false):(layNew t es h x).2.1.plain=false:=by
 unfold layNew; split
 . exact zpT _ _ hp
 . rfl
theorem znk {t t':SetTable} {hs:Array Int} {n:Nat} {order:Array Nat} (e:t.relaid hs n=some (t',order)):t'.led=t.led/\t'.plain=t.plain:=by
 unfold SetTable.relaid SetTable.laid at e
 cases hl:SetTable.layClean (SetTable.sizeAbove n - 1) hs with
 | none=>rw [hl] at e; cases e
 | some ow=>rw [hl] at e; cases e; exact ⟨rfl,rfl⟩
theorem zog (t:SetTable) (es:Array (Int×Value)) (n:Nat):(relayAll t es n).2.1.led=t.led/\(t.plain=false->(relayAll t es n).2.1.plain=false):=by
 unfold relayAll
 split
 . rename_i t' order e
   obtain ⟨h1,h2⟩:=znk e
   dsimp only
   split
   . exact ⟨h1,λ h=>h2.trans h⟩
   . exact ⟨rfl,λ _=>rfl⟩
 . exact ⟨rfl,λ _=>rfl⟩
variable {K:Type} [DecidableEq K]
abbrev El (knd:KeyKind prog w K) (e:Int×Value) (k:K):Prop:=(knd.is k e.2=true/\e.1=knd.hash k)/\e.2.scannable=true
structure SetT (w:World) (t:SetTable) (n:Nat) (ne:Prop):Prop where
 fits:t.fits n=true
 led:w.params.followText "set-order" = false->t.led=true
 plain:ne->t.plain=false
def SetG (knd:KeyKind prog w K) (h:Heap) (a:Addr) (ks:List K):Prop :=
 ∃ o es ep t,h.get? a=some o/\o.ExactSet/\o.data=.set es ep t/\Paired (El knd) es.toList ks/\ks.Nodup/\ks.length < scanBound/\SetT w t es.size (ks≠[])
def SetP (knd:KeyKind prog w K) (h:Heap) (a:Addr) (ks:List K):Prop:=∃ ks',ks'.Perm ks/\SetG knd h a ks'
variable {knd:KeyKind prog w K} {s:Shared}
theorem SetG.at {h h':Heap} {a:Addr} {ks:List K} (x:SetG knd h a ks) (e:∀ o,h.get? a=some o->h'.get? a=some o):SetG knd h' a ks :=
 let ⟨o,es,ep,t,ho,r⟩:=x; ⟨o,es,ep,t,e _ ho,r⟩
theorem SetP.at {h h':Heap} {a:Addr} {ks:List K} (x:SetP knd h a ks) (e:∀ o,h.get? a=some o->h'.get? a=some o):SetP knd h' a ks :=
 let ⟨ks',p,g⟩:=x; ⟨ks',p,g.at e⟩
theorem zqe {l:List (Int×Value)} {ks:List K} (h:Paired (El knd) l ks):ElemsOf knd l:=λ e he=>by
 obtain ⟨k,_,⟨h1,h2⟩,h3⟩:=zmA h he
 exact ⟨⟨k,h1,h2⟩,h3⟩
theorem zij {h:Heap} {a:Addr} {o:Obj} {es:Array (Int×Value)} {ep:Nat} {t:SetTable} (ho:h.get? a=some o) (hx:o.ExactSet) (hd:o.data=.set es ep t)
  {es':Array (Int×Value)} {t':SetTable} {ks:List K} (he:Paired (El knd) es'.toList ks) (hn:ks.Nodup) (hb:ks.length < scanBound) (ht:SetT w t' es'.size (ks≠[])) :
  ∃ o',(h.update a (Obj.putSet es' t')).get? a=some o'/\o'.ExactSet/\o'.data=.set es' (ep+1) t'/\SetG knd (h.update a (Obj.putSet es' t')) a ks:=by
 have g:=Heap.get?_update_self (Obj.putSet es' t') ho (by rw [putSet_of es' t' hd]; rfl)
 rw [putSet_of es' t' hd] at g
 exact ⟨_,g,hx,rfl,_,es',ep+1,t',g,hx,rfl,he,hn,hb,ht⟩
theorem zpU {x:Value} (hx:x.scannable=true) (hp:plainKind x=false):hashByValue 8 x=pure false:=by rw [hashByValue_scannable 8 hx,hp]
theorem zn8 {a:Addr} {ks:List K} {k:K} {x:Value} {Q:Bool->Shared->Prop} (hkey:knd.is k x=true) (hsc:x.scannable=true) (hnp:plainKind x=false) (hS:SetP knd s.heap a ks) (hroom:ks.length+1 < scanBound)
  (h:∀ b h',Heap.SameBut a s.heap h'->SetP knd h' a (if k∈ks then ks else ks++[k])->Q b { s with heap:=h' }) :
  wpAny (model prog w) A (setAddHashed a x (knd.hash k)) Q E s:=by
 obtain ⟨ks',pk,o,es,ep,t,ho,hx,hd,hel,hnd,hb,hT⟩:=hS
 have hl:es.size=ks'.length:=by rw [<-Array.length_toList]; exact hel.length
 have hpl:ks'.length=ks.length:=pk.length_eq
 have E0:=zqe hel
 have hes:es.size < scanBound:=by omega
 unfold setAddHashed setAddHashedIn
 refine wpAny_holding (wpAny_bind (wpAny_setState_of ho hd hT.fits ?_))
 dsimp only
 rw [byScan_of hsc hes E0]
 simp only [↓reduceIte]
 unfold setAddByScan
 refine wpAny_bind (wpAny_bind (wpAny_rule (wpAny_bind (wpAny_setScan_of hkey ho hd hT.fits E0 ?_))))
 have memk:∀ q,(q∈ks↔∃ e∈es.toList,knd.is q e.2=true):=λ q=>by
  rw [<-pk.mem_iff]
  refine ⟨λ hq=>?_,λ ⟨e,he,hq⟩=>?_⟩
  . obtain ⟨e,he,z⟩:=zj7 hel hq
    exact ⟨e,he,z.1.1⟩
  . obtain ⟨q',hq',z⟩:=zmA hel he
    rw [knd.inj _ q q' hq z.1.1]; exact hq'
 cases hr:List.findIdx? (λ e=>knd.is k e.2) es.toList with
 | some j =>
  dsimp only
  obtain ⟨hj,hpj,_⟩:=List.findIdx?_eq_some_iff_getElem.mp hr
  have hk:k∈ks:=(memk k).mpr ⟨es.toList[j],List.getElem_mem hj,hpj⟩
  have q:=h false s.heap (Heap.SameBut.refl a s.heap)
  rw [if_pos hk] at q
  exact wpAny_pure (wpAny_pure (q ⟨ks',pk,o,es,ep,t,ho,hx,hd,hel,hnd,hb,hT⟩))
 | none =>
  dsimp only
  have hk:k∉ks:=λ z=>by
    obtain ⟨e,he,hq⟩:=(memk k).mp z
    have:=List.findIdx?_eq_none_iff.mp hr e he
    rw [hq] at this; cases this
  have gave:∀ (b:Bool) {s₁:Shared} {Q':Unit->Shared->Prop},Q' () s₁->wpAny (model prog w) A (match b with | true=>rule "set.scan.the-table-gave-way" | false=>pure ()) Q' E s₁ :=
    λ b s₁ Q' hq=>by cases b <;> first | exact wpAny_pure hq | exact wpAny_rule hq
  have lp:=layNew_perm t es (knd.hash k) x
  have lf:=layNew_fits t es (knd.hash k) x
  have ll:=zrx t es (knd.hash k) x
  have lpl:=zoI t es (knd.hash k) x
  generalize layNew t es (knd.hash k) x=L at lp lf ll lpl ⊢
  obtain ⟨es1,t1,wasDummy,gv⟩:=L
  dsimp only at lp lf ll lpl ⊢
  rw [Array.toList_push] at lp
  obtain ⟨k1,pk1,hel1⟩:=zg5 lp (zbS hel (show El knd (knd.hash k,x) k from ⟨⟨hkey,rfl⟩,hsc⟩))
  have hk':k∉ks':=λ z=>hk (pk.mem_iff.mp z)
  have nd1:k1.Nodup:=pk1.nodup_iff.mpr (List.nodup_append.mpr ⟨hnd,by simp,λ u hu v hv=>by rw [List.mem_singleton.mp hv]; intro z; rw [z] at hu; exact hk' hu⟩)
  have ln1:k1.length=ks'.length+1:=by rw [pk1.length_eq]; simp
  have pk2:k1.Perm (ks++[k]):=pk1.trans (pk.append_right _)
  have hz1:es1.size=k1.length:=by rw [<-Array.length_toList]; exact hel1.length
  refine wpAny_bind (gave _ ?_)
  have tail:∀ t2:SetTable,t2.fits es1.size=true->t2.led=t1.led->t2.plain=false ->
      wpAny (model prog w) A (do
       storeSet a es1 t2
       if (!wasDummy && t2.tooFull)=true then do
         (match (relayAll t2 es1 (SetTable.grown es1.size)).2.2 with | true=>rule "set.scan.the-table-gave-way" | false=>pure ())
         storeSet a (relayAll t2 es1 (SetTable.grown es1.size)).1 (relayAll t2 es1 (SetTable.grown es1.size)).2.1
         pure (some true)
        else pure (some true)) (λ r s'=>∃ b h',r=some b/\s'={ s with heap:=h' }/\Heap.SameBut a s.heap h'/\SetP knd h' a (ks++[k])) E s:=λ t2 f2 l2 p2=>by
    have hT2:SetT w t2 es1.size (k1≠[]):=⟨f2,λ q=>by rw [l2,ll]; exact hT.led q,λ _=>p2⟩
    refine wpAny_bind (wpAny_storeSet_of ho hd ?_ (by rw [hz1]; exact fits_of_scanBound (by omega)))
    obtain ⟨o1,ho1,hx1,hd1,G1⟩:=zij (knd:=knd) ho hx hd hel1 nd1 (by omega) hT2
    have sb1:=Heap.SameBut.update s.heap a (Obj.putSet es1 t2)
    split
    . have rp:=relayAll_perm t2 es1 (SetTable.grown es1.size)
      have rf:=relayAll_fits t2 es1 (SetTable.grown es1.size)
      obtain ⟨rl,rpl⟩:=zog t2 es1 (SetTable.grown es1.size)
      generalize relayAll t2 es1 (SetTable.grown es1.size)=R at rp rf rl rpl ⊢
      obtain ⟨es2,t3,g2⟩:=R
      dsimp only at rp rf rl rpl ⊢
      obtain ⟨k3,pk3,hel3⟩:=zg5 rp hel1
      have hz3:es2.size=k3.length:=by rw [<-Array.length_toList]; exact hel3.length
      refine wpAny_bind (gave _ ?_)
      refine wpAny_bind (wpAny_storeSet_of ho1 hd1 ?_ (by rw [hz3,pk3.length_eq]; exact fits_of_scanBound (by omega)))
      obtain ⟨o3,ho3,hx3,hd3,G3⟩:=zij (knd:=knd) ho1 hx1 hd1 hel3 (pk3.nodup_iff.mpr nd1) (by rw [pk3.length_eq]; omega) ⟨rf,λ q=>by rw [rl]; exact hT2.led q,λ _=>rpl p2⟩
      exact wpAny_pure ⟨true,_,rfl,rfl,sb1.trans (Heap.SameBut.update _ a _),k3,pk3.trans pk2,G3⟩
    . exact wpAny_pure ⟨true,_,rfl,rfl,sb1,k1,pk2,G1⟩
  cases hp:t1.plain with
  | true =>
    simp only [↓reduceIte]
    rw [zpU hsc hnp]
    refine wpAny_bind (wpAny_pure ?_)
    simp only [Bool.false_eq_true,↓reduceIte]
    refine wpAny_mono (tail { t1 with plain:=false } (SetTable.fits_plain_off lf) rfl rfl) (λ r s' hq=>?_) λ _ _ z=>z
    obtain ⟨b,h',rfl,rfl,sb,G⟩:=hq
    have q:=h b h' sb
    rw [if_neg hk] at q
    exact wpAny_pure (q G)
  | false =>
    simp only [Bool.false_eq_true,↓reduceIte]
    refine wpAny_bind (wpAny_pure ?_)
    simp only [↓reduceIte]
    refine wpAny_mono (tail t1 lf rfl hp) (λ r s' hq=>?_) λ _ _ z=>z
    obtain ⟨b,h',rfl,rfl,sb,G⟩:=hq
    have q:=h b h' sb
    rw [if_neg hk] at q
    exact wpAny_pure (q G)
end
end S6
end
section
namespace S6
open PySem PyProof.Rows
abbrev set0 (w:World):Obj:={ cls:=.type "set",dict:=none,data:=.set #[] 0 (.fresh 0 0 (!w.params.followText "set-order")) }
section
variable {prog:Program} {w:World} {A:Around} {E:Value->Shared->Prop} {s:Shared}
theorem zrt (a:Value) {Q₁:Value->Shared->Prop} (h:Q₁ (.ref s.heap.objs.size) { s with heap:=s.heap.push (set0 w) }) :
  codeAny (model prog w) A (.call (.builtin "set.__new__") ⟨[.type "set",a],[]⟩) (wants Q₁ E) s:=by
 refine codeAny_of_tree ?_
 show wpAny _ A.in1 (do
  checkBuiltinCall "set.__new__" ⟨[.type "set",a],[]⟩
  again (.builtin "set.__new__" ⟨[.type "set",a],[]⟩)) _ _ s
 refine wpAny_bind (wpAny_of_eq (F.newCall_set_1 a) (wpAny_pure ⟨plainId_quiet F.plain_set_new _,codeAny_builtin F.entry_set_new ?_⟩))
 rw [Around.under_plainId F.plain_set_new _]
 unfold Builtin.«set.__new__» Builtin.Frozenset.newClass
 have hsub:=sub_set_self
 obtain ⟨hp,g,d,tk,os⟩:=s
 dsimp only
 wp_walk
 refine wpAny_askSetting (wpAny_pure ?_)
 dsimp only
 simp only [newObj]
 exact wpAny_bind (wpAny_alloc (wpAny_pure (wpAny_pure h)))
variable {K:Type} [DecidableEq K] {knd:KeyKind prog w K}
theorem zoa {h:Heap} {a:Addr} (e:h.get? a=some (set0 w)):SetP knd h a [] :=
 ⟨[],.refl _,_,#[],0,_,e,⟨rfl,rfl,rfl⟩,rfl,.nil,List.nodup_nil,(by show (0:Nat) < scanBound; decide),⟨rfl,λ q=>by show (!_)=true; rw [q]; rfl,λ z=>absurd rfl z⟩⟩
theorem zsf {l:Addr} {R:Heap->Prop} {Q:Value->Shared->Prop} (hl:∃ o,s.heap.get? l=some o)
  (hup:wpAny (model prog w) A.in1.in1 (Builtin.Frozenset.updateFrom "set.__init__" s.heap.objs.size (.ref l)) (λ _ s'=>∃ h' tk,s'={ s with heap:=h',toks:=tk }/\R h') E { s with heap:=s.heap.push (set0 w) })
  (h:∀ h' tk,R h'->Q (.ref s.heap.objs.size) { s with heap:=h',toks:=tk }) :
  wpAny (model prog w) A (call (.type "set") [.ref l]) Q E s:=by
 obtain ⟨c,tl,hmro⟩:=F.called_set.mro
 have hmade:=F.called_set.made
 have hsub:=F.called_set.sub
 refine wpAny_call (codeAny_of_tree ?_)
 show wpAny _ _ (callAny (.type "set") _) _ _ _
 refine wpAny_pure ⟨Code.quiet_builtin _ (by decide +kernel),codeAny_builtin F.entry_type_call ?_⟩
 rw [Around.under_plain (weight_type_call_type "set" [.ref l] []) rfl]
 have h1:=F.called_set.notType
 have h2:=F.called_set.canCreate
 have hct:=F.typeCall_set_1 (.ref l)
 repeat (any_goals (first | assumption | wp_step))
 refine codeAny_mono (zrt (.ref l) (E:=E) (Q₁:=λ obj s₁=>obj=.ref s.heap.objs.size/\s₁={ s with heap:=s.heap.push (set0 w) }) ⟨rfl,rfl⟩) λ r s₁ hr=>?_
 cases r with
 | error e=>exact hr
 | ok fl =>
  cases fl with
  | ret obj =>
   obtain ⟨rfl,rfl⟩:=hr
   have hS:(s.heap.push (set0 w)).get? s.heap.objs.size=some (set0 w):=Heap.get?_push_size _ rfl
   have hT:Shared.TypeIs { s with heap:=s.heap.push (set0 w) } (.ref s.heap.objs.size) "set" := ⟨_,hS,rfl⟩
   have hli:=F.called_set.init.lookup
   have hbi:=F.called_set.init.bind (.ref s.heap.objs.size)
   repeat (any_goals (first | assumption | wp_step))
   refine codeAny_mono (codeAny_call_builtin (R:=wants (λ r s₂=>r=.none/\∃ h' tk,s₂={ s with heap:=h',toks:=tk }/\R h') E) F.called_set.init.plain F.entry_set_init (check_set_init_1 hT ?_)) λ r₂ s₂ hr₂=>?_
   · unfold Builtin.«set.__init__» noKeywords
     generalize hU:Builtin.Frozenset.updateFrom=U at hup ⊢
     wp_walk
     refine wpAny_mono hup (λ _ s' hq=>?_) λ _ _ z=>z
     obtain ⟨h',tk,rfl,hr⟩:=hq
     exact wpAny_pure ⟨rfl,h',tk,rfl,hr⟩
   . cases r₂ with
     | error e=>exact hr₂
     | ok fl₂ =>
      cases fl₂ with
      | ret r =>
       obtain ⟨rfl,h',tk,rfl,hS'⟩:=hr₂
       repeat (any_goals (first | assumption | wp_step))
       exact h _ _ hS'
      | _=>exact hr₂.elim
  | _=>exact hr.elim
def ded (acc:List K) (k:K):List K:=if k∈acc then acc else acc++[k]
def deds (ks:List K):List K:=ks.foldl ded []
theorem zkM (ks:List K) (k:K):deds (ks++[k])=ded (deds ks) k:=by unfold deds; rw [List.foldl_append]; rfl
theorem zrE (a:List K) (k:K):(ded a k).length<=a.length+1:=by
 unfold ded; split
 . omega
 . simp
theorem zrw {a:List K} {k x:K}:x∈ded a k↔x∈a\/x=k:=by
 unfold ded; split
 . rename_i h; exact ⟨.inl,λ z=>z.elim id λ e=>e ▸ h⟩
 . simp
theorem zmQ {x:K}:∀ {ks a:List K},x∈ks.foldl ded a↔x∈a\/x∈ks
 | [],a=>by simp
 | k::r,a=>by rw [List.foldl_cons,zmQ (ks:=r),zrw,List.mem_cons,or_assoc]
theorem zjb {ks:List K} {x:K}:x∈deds ks↔x∈ks:=by unfold deds; rw [zmQ]; simp
theorem zsL {a:List K} {k:K} (h:a.Nodup):(ded a k).Nodup:=by
 unfold ded; split
 . exact h
 . rename_i hk
   exact List.nodup_append.mpr ⟨h,by simp,λ u hu v hv=>by rw [List.mem_singleton.mp hv]; intro z; rw [z] at hu; exact hk hu⟩
theorem zo3:∀ {ks a:List K},a.Nodup->(ks.foldl ded a).Nodup
 | [],a,h=>h
 | k::r,a,h=>zo3 (ks:=r) (zsL h)
theorem zpb (ks:List K):(deds ks).Nodup:=zo3 List.nodup_nil
theorem zmR:∀ {ks a:List K},(ks.foldl ded a).length<=a.length+ks.length
 | [],a=>by simp
 | k::r,a=>by
  have:=zmR (ks:=r) (a:=ded a k)
  have:=zrE a k
  simp only [List.foldl_cons,List.length_cons]; omega
theorem zmW (ks:List K):(deds ks).length<=ks.length:=by have:=zmR (ks:=ks) (a:=([]:List K)); unfold deds; simpa using this
variable {R:Result->Shared->Prop} {I:Addr} {fp wr:List Addr} {G:Array GenState->Array GenState->Prop} {P:Nat->Value->Prop} {St:Nat->Shared->Prop}
theorem zpE {ks:List K} (W:WalksS prog w A.in1 I fp wr G ks.length P St) (S:Addr) (hSf:S∉fp) (hP:∀ i v,P i v->∃ k,ks[i]?=some k/\knd.is k v=true/\v.scannable=true/\plainKind v=false) (hb:ks.length+1 < scanBound) :
  ∀ (m i:Nat) (s:Shared),ks.length - i=m->i<=ks.length->St i s->SetP knd s.heap S (deds (ks.take i)) ->
    (∀ s',Moved (S::wr) G s s'->SetP knd s'.heap S (deds ks)->R (.ok (.ret .none)) s') ->
    codeAny (model prog w) A (.builtin "set.update.loop" ⟨[.ref S,.ref I],[]⟩) R s:=by
 have nw:S∉wr:=λ z=>hSf (W.sub _ z)
 have up:∀ b∈wr,b∈S::wr:=λ b z=>List.mem_cons_of_mem _ z
 intro m
 induction m with
 | zero =>
  intro i s hm hi st hS hR
  have ei:i=ks.length:=by omega
  subst ei
  refine codeAny_builtin F.entry_set_update_loop ?_
  rw [Around.under_plainId F.plain_set_update_loop _]
  refine wpAny_bind (m:=pyNext (.ref I)) (W.done s _ _ st λ s' mv=>wpAny_pure (hR s' (mv.mono up) ?_))
  rw [List.take_length] at hS
  exact hS.at λ o e=>mv.heap S o nw e
 | succ m ih =>
  intro i s hm hi st hS hR
  have hlt:i < ks.length:=by omega
  refine codeAny_builtin F.entry_set_update_loop ?_
  rw [Around.under_plainId F.plain_set_update_loop _]
  refine wpAny_bind (m:=pyNext (.ref I)) (W.item i s _ _ hlt st λ v s' pv st' mv=>?_)
  obtain ⟨k,hk,his,hsc,hnp⟩:=hP i v pv
  have hS1:SetP knd s'.heap S (deds (ks.take i)):=hS.at λ o e=>mv.heap S o nw e
  refine wpAny_bind (m:=holding [v] (setAdd S v)) (wpAny_holding ?_)
  unfold setAdd
  refine wpAny_holding (wpAny_bind (knd.pyHash his ?_))
  have hlen:(deds (ks.take i)).length<=i:=Nat.le_trans (zmW _) (by rw [List.length_take]; omega)
  refine zn8 (s:={ s' with toks:=s'.toks+1 }) his hsc hnp hS1 (by omega) λ b h' sb hS2=>?_
  have e:ks.take (i+1)=ks.take i++[k]:=by rw [List.take_add_one,hk]; rfl
  have hS3:SetP knd h' S (deds (ks.take (i+1))):=by rw [e,zkM]; exact hS2
  refine wpAny_pure ⟨plainId_quiet F.plain_set_update_loop _,ih (i+1) _ (by omega) hlt (W.frame _ s' _ _ st' (Nat.le_succ _) λ b hb o eo=>?_) hS3 λ s'' mv'' hS''=>?_⟩
  . rw [sb.2 b λ z=>hSf (z ▸ hb)]; exact eo
  . refine hR s'' (Moved.trans W.gtrans ((mv.mono up).then_heap (Nat.le_succ _) λ b o hb eo=>?_) mv'') hS''
    rw [sb.2 b λ z=>hb (z ▸ List.mem_cons_self)]; exact eo
end
end S6
end
section
namespace S6
open PySem PyProof.Rows
theorem sub_dict_set:isSubtype (.type "dict") (.type "set")=pure false:=by rw [isSubtype_type]; kernel_rfl
theorem ziN:isSubtype (.type "dict") (.type "frozenset")=pure false:=by rw [isSubtype_type]; kernel_rfl
section
variable {prog:Program} {w:World} {A:Around} {E:Value->Shared->Prop} {s:Shared} {K:Type} [DecidableEq K] {knd:KeyKind prog w K}
abbrev KVal (knd:KeyKind prog w K) (k:K) (v:Value):Prop:=knd.is k v=true/\v.scannable=true/\plainKind v=false
theorem zqF {T:String} {v:Value} {Q:Bool->Shared->Prop} (hT:s.TypeIs v T) (h1:isSubtype (.type T) (.type "set")=pure false) (h2:isSubtype (.type T) (.type "frozenset")=pure false) (h:Q false s) :
  wpAny (model prog w) A (Builtin.Frozenset.isAnySet v) Q E s:=by
 unfold Builtin.Frozenset.isAnySet
 refine wpAny_bind (wpAny_isInstance hT h1 ?_)
 exact wpAny_isInstance hT h2 h
theorem zo4 {S l:Addr} {items:Array Value} {ks:List K} (hh:A.handled=none) (hl:s.heap.IsList l items) (hS:SetP knd s.heap S []) (hne:S≠l) (hlen:items.size=ks.length) (hb:ks.length+1 < scanBound)
   (hv:∀ (i:Nat) v,items[i]?=some v->∃ k,ks[i]?=some k/\KVal knd k v) :
   wpAny (model prog w) A (Builtin.Frozenset.updateFrom "set.__init__" S (.ref l)) (λ _ s'=>∃ h' tk,s'={ s with heap:=h',toks:=tk }/\SetP knd h' S (deds ks)/\∀ b o,b≠S->s.heap.get? b=some o->h'.get? b=some o) E s:=by
 unfold Builtin.Frozenset.updateFrom
 refine wpAny_bind (zqF hl.typeIs F.sub_list_set F.sub_list_frozenset ?_)
 simp only [Bool.false_eq_true,if_false]
 refine wpAny_bind (wpAny_typeOf hl.typeIs ?_)
 rw [if_neg (by decide)]
 refine wpAny_bind (wpAny_pyIter_list hl ?_)
 refine wpAny_bind (wpAny_runValue ?_)
 obtain ⟨ol,hol,_⟩:=id hl
 have hSl:S < s.heap.objs.size:=by obtain ⟨_,_,o,_,_,_,e,_⟩:=hS; exact Heap.lt_size e
 have hSf:S∉[s.heap.objs.size,l]:=by
   intro z
   rcases List.mem_cons.mp z with z | z
   . exact absurd hSl (by rw [z]; exact Nat.lt_irrefl _)
   . exact hne (List.mem_singleton.mp z)
 have W:=(Walks.list (prog:=prog) (w:=w) (A:=A.in1) hh s.heap.objs.size l (Nat.ne_of_lt (Heap.lt_size hol)) items).toS
 rw [hlen] at W
 refine zpE W S hSf hv hb ks.length 0 _ (by omega) (Nat.zero_le _) ⟨⟨_,Heap.get?_push_size _ rfl,rfl,rfl⟩,hl.push _⟩ (hS.at λ o e=>Heap.get?_push_of_some _ e) λ s' mv hS'=>?_
 obtain ⟨h',g',d',tk',os'⟩:=s'
 have eg:g'=s.gens:=mv.gens
 have ed:d'=s.drawn:=mv.drawn
 have eo:os'=s.os:=mv.os
 subst eg ed eo
 refine wpAny_pure ⟨h',tk',rfl,hS',λ b o hb e=>mv.heap b o (λ z=>?_) (Heap.get?_push_of_some _ e)⟩
 rcases List.mem_cons.mp z with z | z
 . exact hb z
 . have:=List.mem_singleton.mp z
   exact absurd (Heap.lt_size e) (by rw [this]; exact Nat.lt_irrefl _)
theorem zo5 {S d:Addr} {kvs:List (K×Value)} (lo:(d == sysModules)=false) (hd:s.heap.DictOf knd d kvs) (hS0:s.heap.get? S=some (set0 w)) (h4:kvs.length<=4)
   (hv:∀ p∈kvs,∀ u,knd.is p.1 u=true->u.scannable=true/\plainKind u=false) :
   wpAny (model prog w) A (Builtin.Frozenset.updateFrom "set.__init__" S (.ref d)) (λ _ s'=>∃ h' tk,s'={ s with heap:=h',toks:=tk }/\SetP knd h' S (deds (kvs.map (·.1)))/\∀ b o,b≠S->s.heap.get? b=some o->h'.get? b=some o) E s:=by
 have hT:=hd.typeIs (s:=s)
 obtain ⟨o,es,ep,ho,hx,hod,hk,hp,hn⟩:=hd
 have hne:d≠S:=λ z=>by
   rw [z,hS0] at ho; cases ho; cases hod
 have hz:es.size=kvs.length:=by rw [<-hp.length]; simp
 unfold Builtin.Frozenset.updateFrom
 refine wpAny_bind (zqF hT sub_dict_set ziN ?_)
 simp only [Bool.false_eq_true,if_false]
 refine wpAny_bind (wpAny_typeOf hT ?_)
 rw [if_pos (by decide)]
 refine wpAny_bind (wpAny_rule (wpAny_bind (m:=Builtin.Frozenset.addrOf (.ref d)) (wpAny_pure ?_)))
 rw [if_neg (by rw [lo]; exact Bool.false_ne_true)]
 refine wpAny_bind (wpAny_dictEpoch ho hod (wpAny_bind (wpAny_dictEntries ho hod (wpAny_bind ?_))))
 unfold setRoomFor
 refine wpAny_bind (wpAny_setState_of hS0 rfl rfl ?_)
 have hroom:(SetTable.fresh 0 0 (!w.params.followText "set-order")).roomFor es.size=none:=by
   unfold SetTable.roomFor
   rw [if_neg]
   show ¬ ((0+es.size) * 5 ≥ 7 * 3)
   omega
 dsimp only
 rw [hroom]
 refine wpAny_pure (wpAny_bind (wpAny_dictEntries ho hod (wpAny_bind ?_)))
 rw [Std.Legacy.Range.forIn_eq_forIn_range']
 simp only [Std.Legacy.Range.size,Nat.sub_zero,Nat.add_sub_cancel,Nat.div_one]
 have hlk:(kvs.map (·.1)).length=es.size:=by rw [List.length_map,hz]
 refine wpAny_forIn_list _ (λ rest _ s'=>∃ h' i,s'={ s with heap:=h' }/\rest=List.range' i (es.size - i)/\i<=es.size/\SetP knd h' S (deds ((kvs.map (·.1)).take i))/\Heap.SameBut S s.heap h') _ ?_ ?_ _ _
   ⟨s.heap,0,rfl,by simp,Nat.zero_le _,zoa hS0,Heap.SameBut.refl _ _⟩
 . rintro x rest b s' ⟨h',i,rfl,hr,hi,hS',sb⟩
   have hlt:i < es.size:=by
    rcases Nat.lt_or_ge i es.size with z | z
    . exact z
    . rw [Nat.sub_eq_zero_of_le z] at hr; cases hr
   obtain ⟨rfl,hrest⟩:x=i/\rest=List.range' (i+1) (es.size - (i+1)):=by
    rw [show es.size - i=(es.size - (i+1))+1 by omega,List.range'_succ] at hr
    injection hr with q1 q2
    exact ⟨q1,q2⟩
   have ho':h'.get? d=some o:=(sb.2 d hne).trans ho
   refine wpAny_bind (wpAny_dictEntries (s:={ s with heap:=h' }) ho' hod ?_)
   rw [Array.getElem?_eq_getElem hlt]
   obtain ⟨⟨k,v⟩,hkv⟩:∃ kv,kvs[x]?=some kv:=⟨kvs[x]'(by rw [<-hz]; exact hlt),List.getElem?_eq_getElem _⟩
   have his:=(hp.get? (e:=es[x]) (by simp [hlt]) hkv).1
   obtain ⟨k',his',hh'⟩:=hk es[x] (Array.getElem_mem hlt)
   obtain rfl:k'=k:=knd.inj _ _ _ his' his
   obtain ⟨hsc,hnp⟩:=hv (k',v) (List.mem_of_getElem? hkv) _ his
   have hke:(kvs.map (·.1))[x]?=some k':=by rw [List.getElem?_map,hkv]; rfl
   have hlen:(deds ((kvs.map (·.1)).take x)).length<=x:=Nat.le_trans (zmW _) (by rw [List.length_take]; omega)
   refine wpAny_bind (wpAny_holding ?_)
   rw [hh']
   refine zn8 (s:={ s with heap:=h' }) his hsc hnp hS' (by unfold scanBound; omega) λ b2 h2 sb2 hS2=>?_
   have ho2:h2.get? d=some o:=(sb2.2 d hne).trans ho'
   refine wpAny_bind (wpAny_dictEpoch (s:={ s with heap:=h2 }) ho2 hod ?_)
   rw [if_neg (by simp)]
   refine wpAny_pure ⟨h2,x+1,rfl,hrest,hlt,?_,sb.trans sb2⟩
   rw [List.take_add_one,hke]
   show SetP knd h2 S (deds ((kvs.map (·.1)).take x++[k']))
   rw [zkM]; exact hS2
 . rintro b s' ⟨h',i,rfl,hr,hi,hS',sb⟩
   have ei:i=es.size:=by
    rcases Nat.lt_or_ge i es.size with z | z
    . rw [show es.size - i=(es.size - (i+1))+1 by omega,List.range'_succ] at hr; cases hr
    . omega
   rw [ei,<-hlk,List.take_length] at hS'
   exact wpAny_pure ⟨h',s.toks,rfl,hS',λ b o hb e=>(sb.2 b hb).trans e⟩
end
end S6
end
section
namespace S6
open PySem PyProof.Rows
theorem zb0:Slot "set_iterator" "__next__" "set_iterator.__next__" :=
 Slot.of (owner := "set_iterator") (n := "__next__")
  (by rw [typeLookup_type,builtinLookup_eq_fast]; kernel_rfl) (by decide +kernel)
  (by decide +kernel) (by decide +kernel)
  (by first | exact .inl (by decide +kernel) | exact .inr (by decide +kernel))
  (by rw [isSubtype_type]; kernel_rfl)
theorem zfu : entryFor table "set_iterator.__next__" = some Builtin.«set_iterator.__next__» :=
 entryFor_of_tree (by kernel_rfl)
theorem zgn (a:Value):argsOk "set_iterator.__next__" ⟨[a],[]⟩:=by
 unfold argsOk; kernel_rfl
theorem zkI : entryFor table "set.__iter__" = some Builtin.«frozenset.__iter__» :=
 entryFor_alias (id' := "frozenset.__iter__") (by kernel_rfl) rfl
  (by decide +kernel) (by kernel_rfl)
def byT (w:World):Bool:=w.params.followText "set-order"
def itO (first:Value) (i:Nat) (a:Addr) (n ep:Nat):Obj:={ cls:=.type "set_iterator",data:=.fields #[first,.int i 0,.ref a,.int n 0,.int ep 0] }
def Mode (w:World) (es:Array (Int×Value)) (ep:Nat) (t:SetTable) (vs:List Value) (a it p:Addr) (i:Nat) (h:Heap) (first:Value):Prop :=
 (byT w=true/\(∃ sl:Nat,first=.int sl 0)/\vs=(pickOrder (w.params.setOrder a ep) es).toList.map (·.2)) \/
 (byT w=false/\first=.ref p/\p≠it/\∃ ps:List Nat,h.get? p=some { cls:=.type "tuple",data:=.seq (ps.map λ (n:Nat)=>Value.int n 0).toArray }/\vs=ps.filterMap (λ j=>(es[j]?).map (·.2))/\ps.Perm (List.range es.size)) \/
 (byT w=false/\t.led=true/\es.size<=1/\first=.int (if i=0 then 0 else ((t.place.getD 0 0:Nat):Int)+1) 0/\vs=es.toList.map (·.2))
def SIt (w:World) (es:Array (Int×Value)) (ep:Nat) (t:SetTable) (vs:List Value) (a it p:Addr) (i:Nat) (h:Heap):Prop :=
 (∃ o,h.get? a=some o/\o.ExactSet/\o.data=.set es ep t)/\∃ first,h.get? it=some (itO first i a es.size ep)/\Mode w es ep t vs a it p i h first
section
variable {prog:Program} {w:World} {A:Around} {E:Value->Shared->Prop} {s:Shared}
theorem znO {a:Addr} {o:Obj} {es:Array (Int×Value)} {ep:Nat} {t:SetTable} {Q:Array (Int×Value)->Shared->Prop} (ho:s.heap.get? a=some o) (hd:o.data=.set es ep t) (hf:t.fits es.size=true) (hb:byT w=true)
  (h:Q (pickOrder (w.params.setOrder a ep) es) s):wpAny (model prog w) A (setWalk a) Q E s:=by
 unfold setWalk setsByText
 refine wpAny_bind (wpAny_setState_of ho hd hf ?_)
 dsimp only
 refine wpAny_bind (wpAny_bind (wpAny_askSetting (wpAny_pure ?_)))
 show wpAny _ _ (if byT w=true then _ else _) _ _ _
 rw [if_pos hb]
 exact wpAny_bind (wpAny_askSetting (wpAny_pure h))
theorem zkn {a:Addr} {o:Obj} {es:Array (Int×Value)} {ep slot i:Nat} {t:SetTable} {Q:Option (Value×Nat)->Shared->Prop} (ho:s.heap.get? a=some o) (hd:o.data=.set es ep t) (hf:t.fits es.size=true) (hb:byT w=true)
  (h:Q (((pickOrder (w.params.setOrder a ep) es)[i]?).map λ e=>(e.2,slot)) s):wpAny (model prog w) A (setNext a slot i ep) Q E s:=by
 unfold setNext setsByText
 refine wpAny_bind (wpAny_setState_of ho hd hf ?_)
 dsimp only
 refine wpAny_bind (wpAny_bind (wpAny_askSetting (wpAny_pure ?_)))
 show wpAny _ _ (if byT w=true then _ else _) _ _ _
 rw [if_pos hb,if_neg (by simp)]
 exact wpAny_bind (znO ho hd hf hb (wpAny_pure h))
theorem ziq {a:Addr} {o:Obj} {es:Array (Int×Value)} {ep slot i:Nat} {t:SetTable} {Q:Option (Value×Nat)->Shared->Prop} (ho:s.heap.get? a=some o) (hd:o.data=.set es ep t) (hf:t.fits es.size=true) (hb:byT w=false) (hl:t.led=true) (hz:es.size<=1)
  (h:Q (match es[SetTable.below t.place slot]?,t.place[SetTable.below t.place slot]? with | some (_,x),some j=>some (x,j+1) | _,_=>none) s):wpAny (model prog w) A (setNext a slot i ep) Q E s:=by
 unfold setNext setsByText
 refine wpAny_bind (wpAny_setState_of ho hd hf ?_)
 dsimp only
 refine wpAny_bind (wpAny_bind (wpAny_askSetting (wpAny_pure ?_)))
 show wpAny _ _ (if byT w=true then _ else _) _ _ _
 rw [if_neg (by rw [hb]; exact Bool.false_ne_true)]
 show wpAny _ _ (if (!t.plain && decide (es.size > 1))=true then _ else _) _ _ _
 rw [if_neg (by simp; omega)]
 refine wpAny_bind ?_
 show wpAny _ _ (if (!t.led && !es.isEmpty)=true then _ else _) _ _ _
 rw [if_neg (by simp [hl])]
 exact wpAny_pure (wpAny_pure h)
theorem zkT {x j:Nat}:SetTable.below #[x] j=if x < j then 1 else 0:=by
 unfold SetTable.below SetTable.below.go
 simp
 by_cases h:x < j
 . simp [h,SetTable.below.go]
 . simp [h,SetTable.below.go]
theorem zq9 {es:Array (Int×Value)} {ep:Nat} {t:SetTable} {vs:List Value} {a it p:Addr} {i:Nat} {v:Value} {Q:Option Value->Shared->Prop} (hf:t.fits es.size=true) (st:SIt w es ep t vs a it p i s.heap) (hne:a≠it) (hv:vs[i]?=some v)
   (h:∀ h',SIt w es ep t vs a it p (i+1) h'->Heap.SameBut it s.heap h'->Q (some v) { s with heap:=h' }):wpAny (model prog w) A (pyNext (.ref it)) Q E s:=by
 obtain ⟨⟨o,ho,hx,hd⟩,first,hit,md⟩:=st
 have hT:s.TypeIs (.ref it) "set_iterator" := ⟨_,hit,rfl⟩
 unfold pyNext
 refine wpAny_bind (wpAny_attempt (wpAny_callSpecial?_slot (name:=Str.ofString "__next__") hT zb0 (wpAny_call_entry zb0 hT zfu ?_ (zgn _))))
 unfold Builtin.«set_iterator.__next__»
 refine wpAny_bind (m:=slotArgs "__next__" 0 _) (wpAny_pure ?_)
 refine wpAny_bind (wpAny_fieldsOf hit rfl ?_)
 dsimp only
 refine wpAny_bind (wpAny_setEntries_of ho hd hf ?_)
 rw [if_neg (by simp)]
 have upd1:∀ (h1:Heap) (f1:Value),h1.get? it=some (itO f1 i a es.size ep)->(h1.update it (Obj.mapFields (·.setIfInBounds 1 (rawInt ((i:Int)+1))))).get? it=some (itO f1 (i+1) a es.size ep):=λ h1 f1 e=>by
   rw [Heap.get?_update_self _ e rfl]; rfl
 have upd0:∀ (h1:Heap) (f1 f2:Value),h1.get? it=some (itO f1 i a es.size ep)->(h1.update it (Obj.mapFields (·.setIfInBounds 0 f2))).get? it=some (itO f2 i a es.size ep):=λ h1 f1 f2 e=>by
   rw [Heap.get?_update_self _ e rfl]; rfl
 have oth:∀ (h1:Heap) (f:Obj->Obj) (b:Addr),b≠it->(h1.update it f).get? b=h1.get? b:=λ h1 f b hb=>Heap.get?_update_other _ _ (Ne.symm hb)
 rcases md with ⟨hb,⟨sl,rfl⟩,hvs⟩ | ⟨hb,rfl,hpi,ps,hps,hvs,hperm⟩ | ⟨hb,hled,hz,rfl,hvs⟩
 . dsimp only
   simp only [Int.toNat_natCast]
   refine wpAny_bind (zkn ho hd hf hb ?_)
   have e1:(pickOrder (w.params.setOrder a ep) es)[i]?.map (·.2)=some v:=by
    rw [hvs,List.getElem?_map,Array.getElem?_toList] at hv; exact hv
   cases e2:(pickOrder (w.params.setOrder a ep) es)[i]? with
   | none=>rw [e2] at e1; cases e1
   | some q =>
    rw [e2] at e1
    have e3:q.2=v:=Option.some.inj e1
    show wpAny _ _ (setField (.ref it) 0 _ >>= _) _ _ _
    refine wpAny_bind (wpAny_setField hit rfl (by simp) ?_)
    refine wpAny_bind (wpAny_setField (upd0 _ _ _ hit) rfl (by simp) ?_)
    refine wpAny_pure ⟨_,rfl,wpAny_pure ?_⟩
    rw [e3]
    refine h _ ⟨⟨o,by rw [oth _ _ _ hne,oth _ _ _ hne]; exact ho,hx,hd⟩,_,upd1 _ _ (upd0 _ _ _ hit),.inl ⟨hb,⟨_,rfl⟩,hvs⟩⟩ ((Heap.SameBut.update ..).trans (Heap.SameBut.update ..))
 . dsimp only
   refine wpAny_bind (wpAny_seqItems hps rfl ?_)
   dsimp only
   have all:∀ j∈ps,j < es.size:=λ j hj=>List.mem_range.mp (hperm.mem_iff.mp hj)
   have fm:∀ l:List Nat,(∀ j∈l,j < es.size)->l.filterMap (λ j=>(es[j]?).map (·.2))=l.map λ j=>(es[j]?.map (·.2)).getD .none:=λ l=>by
    induction l with
    | nil=>intro _; rfl
    | cons j r ih =>
     intro hl
     have hj:=hl j List.mem_cons_self
     rw [List.filterMap_cons,List.map_cons,ih λ x hx=>hl x (List.mem_cons_of_mem _ hx),Array.getElem?_eq_getElem hj]
     rfl
   rw [hvs,fm ps all,List.getElem?_map] at hv
   cases e2:ps[i]? with
   | none=>rw [e2] at hv; cases hv
   | some j =>
    rw [e2] at hv
    have hj:=all j (List.mem_of_getElem? e2)
    have e3:((ps.map λ (n:Nat)=>Value.int n 0).toArray)[((i:Nat):Int).toNat]?=some (Value.int (j:Int) 0):=by
     rw [List.getElem?_toArray,List.getElem?_map]
     show Option.map _ ps[i]?=_
     rw [e2]; rfl
    rw [e3]
    dsimp only
    have hv':es[j].2=v:=by
     have:=Option.some.inj hv
     dsimp only at this
     rw [Array.getElem?_eq_getElem hj] at this; exact this
    unfold setNextDrawn
    refine wpAny_bind (wpAny_bind (wpAny_setState_of ho hd hf ?_))
    dsimp only
    rw [if_neg (by simp),show es[((j:Nat):Int).toNat]?=some es[j] from Array.getElem?_eq_getElem hj]
    refine wpAny_pure ?_
    refine wpAny_bind (wpAny_setField hit rfl (by simp) ?_)
    refine wpAny_pure ⟨_,rfl,wpAny_pure ?_⟩
    show Q (some es[j].2) _
    rw [hv']
    exact h _ ⟨⟨o,by rw [oth _ _ _ hne]; exact ho,hx,hd⟩,_,upd1 _ _ hit,.inr (.inl ⟨hb,rfl,hpi,ps,by rw [oth _ _ _ hpi]; exact hps,hvs,hperm⟩)⟩ (Heap.SameBut.update ..)
 . dsimp only
   have hi0:i=0:=by
    have:=(List.getElem?_eq_some_iff.mp hv).1
    rw [hvs,List.length_map,Array.length_toList] at this
    omega
   subst hi0
   have hz1:es.size=1:=by
    have:=(List.getElem?_eq_some_iff.mp hv).1
    rw [hvs,List.length_map,Array.length_toList] at this
    omega
   have hps:t.place.size=1:=by
    have:=hf
    simp only [SetTable.fits,Bool.and_eq_true,beq_iff_eq] at this
    rw [this.1,hz1]
   obtain ⟨x,hx1⟩:∃ x,t.place=#[x]:=by
    obtain ⟨q,hq⟩:=List.length_eq_one_iff.mp (show t.place.toList.length=1 by rw [Array.length_toList]; exact hps)
    exact ⟨q,by rw [<-Array.toArray_toList (xs:=t.place),hq]⟩
   obtain ⟨q,hq⟩:∃ q,es=#[q]:=by
    obtain ⟨q,hq⟩:=List.length_eq_one_iff.mp (show es.toList.length=1 by rw [Array.length_toList]; exact hz1)
    exact ⟨q,by rw [<-Array.toArray_toList (xs:=es),hq]⟩
   refine wpAny_bind (ziq ho hd hf hb hled hz ?_)
   have hv':q.2=v:=by rw [hvs,hq] at hv; simpa using hv
   rw [hx1,hq]
   simp only [if_true,Int.toNat_zero,zkT,Nat.not_lt_zero,if_false]
   show wpAny _ _ (setField (.ref it) 0 (rawInt ((x+1:Nat):Int)) >>= _) _ _ _
   refine wpAny_bind (wpAny_setField hit rfl (by simp) ?_)
   refine wpAny_bind (wpAny_setField (upd0 _ _ _ hit) rfl (by simp) ?_)
   refine wpAny_pure ⟨_,rfl,wpAny_pure ?_⟩
   rw [hv']
   refine h _ ⟨⟨o,by rw [oth _ _ _ hne,oth _ _ _ hne]; exact ho,hx,hd⟩,_,upd1 _ _ (upd0 _ _ _ hit),.inr (.inr ⟨hb,hled,hz,?_,hvs⟩)⟩ ((Heap.SameBut.update ..).trans (Heap.SameBut.update ..))
   rw [hx1]; rfl
theorem zse {es:Array (Int×Value)} {ep:Nat} {t:SetTable} {vs:List Value} {a it p:Addr} {Q:Option Value->Shared->Prop} (hh:A.handled=none) (hf:t.fits es.size=true) (st:SIt w es ep t vs a it p vs.length s.heap) (hne:a≠it)
   (h:∀ h',Heap.ExtBut it s.heap h'->Q none { s with heap:=h' }):wpAny (model prog w) A (pyNext (.ref it)) Q E s:=by
 obtain ⟨⟨o,ho,hx,hd⟩,first,hit,md⟩:=st
 have hT:s.TypeIs (.ref it) "set_iterator" := ⟨_,hit,rfl⟩
 unfold pyNext
 refine wpAny_bind (wpAny_attempt (wpAny_callSpecial?_slot (name:=Str.ofString "__next__") hT zb0 (wpAny_call_entry zb0 hT zfu ?_ (zgn _))))
 unfold Builtin.«set_iterator.__next__»
 refine wpAny_bind (m:=slotArgs "__next__" 0 _) (wpAny_pure ?_)
 refine wpAny_bind (wpAny_fieldsOf hit rfl ?_)
 dsimp only
 refine wpAny_bind (wpAny_setEntries_of ho hd hf ?_)
 rw [if_neg (by simp)]
 have stop:∀ (h1:Heap) (f1:Value),Heap.ExtBut it s.heap h1->h1.get? it=some (itO f1 vs.length a es.size ep) ->
    wpAny (model prog w) A.in1 (do
      setField (.ref it) 2 Value.none
      let e <-newExc (.type "StopIteration") []
      raiseNew e:Sem Fin)
      (λ fin s'=>∃ v,fin=Fin.done (Flow.ret v)/\wpAny (model prog w) A (pure (some v)) Q E s')
      (λ e s'=>wpAny (model prog w) A (do
       let b <-isInstance e (Value.type "StopIteration")
       if b=true then pure none else throw e) Q E s') { s with heap:=h1 }:=λ h1 f1 x1 e1=>by
   refine wpAny_bind (wpAny_setField e1 rfl (by simp) (wpAny_bind ?_))
   simp only [newExc,newTuple]
   refine wpAny_bind (wpAny_newObj_type ?_ (by size_fits))
   refine wpAny_bind (m:=firstArgMember _ _) (wpAny_of_eq (a:=Value.none) (by first | rfl | (simp only [firstArgMember]; rfl)) ?_)
   refine wpAny_newObj_type ?_ (by size_fits)
   simp only [raiseNew]
   refine wpAny_bind (wpAny_handled ?_)
   rw [show A.in1.handled=none from hh]
   refine wpAny_bind (wpAny_pure (wpAny_throw ?_))
   refine wpAny_bind (wpAny_isInstance (T := "StopIteration") (b:=true) ⟨_,Heap.get?_push_size _ rfl,rfl⟩ isSubtype_stop ?_)
   refine wpAny_pure (h _ λ b ob hb q=>?_)
   exact Heap.get?_push_of_some _ (Heap.get?_push_of_some _ ((Heap.get?_update_other _ _ (Ne.symm hb)).trans (x1 b ob hb q)))
 have ext0:Heap.ExtBut it s.heap s.heap:=λ b ob _ q=>q
 rcases md with ⟨hb,⟨sl,rfl⟩,hvs⟩ | ⟨hb,rfl,hpi,ps,hps,hvs,hperm⟩ | ⟨hb,hled,hz,rfl,hvs⟩
 . dsimp only
   simp only [Int.toNat_natCast]
   refine wpAny_bind (zkn ho hd hf hb ?_)
   have e1:(pickOrder (w.params.setOrder a ep) es)[vs.length]?=none:=by
    rw [Array.getElem?_eq_none_iff,hvs,List.length_map,Array.length_toList]
    exact Nat.le_refl _
   rw [e1]
   exact stop _ _ ext0 hit
 . dsimp only
   refine wpAny_bind (wpAny_seqItems hps rfl ?_)
   dsimp only
   have all:∀ j∈ps,j < es.size:=λ j hj=>List.mem_range.mp (hperm.mem_iff.mp hj)
   have fm:∀ l:List Nat,(∀ j∈l,j < es.size)->(l.filterMap (λ j=>(es[j]?).map (·.2))).length=l.length:=λ l=>by
    induction l with
    | nil=>intro _; rfl
    | cons j r ih =>
      intro hl
      have hj:=hl j List.mem_cons_self
      rw [List.filterMap_cons,Array.getElem?_eq_getElem hj]
      simp only [Option.map_some,List.length_cons]
      rw [ih λ x hx=>hl x (List.mem_cons_of_mem _ hx)]
   have e3:((ps.map λ (n:Nat)=>Value.int n 0).toArray)[((vs.length:Nat):Int).toNat]?=none:=by
    rw [List.getElem?_toArray,Int.toNat_natCast,List.getElem?_eq_none_iff,List.length_map,hvs,fm ps all]
    exact Nat.le_refl _
   rw [e3]
   dsimp only
   refine wpAny_bind (wpAny_setField hit rfl (by simp) ?_)
   refine stop _ (rawInt 0) (λ b ob hb q=>(Heap.get?_update_other _ _ (Ne.symm hb)).trans q) ?_
   rw [Heap.get?_update_self _ hit rfl]; rfl
 . dsimp only
   refine wpAny_bind (ziq ho hd hf hb hled hz ?_)
   have hps:t.place.size=es.size:=by
    have:=hf
    simp only [SetTable.fits,Bool.and_eq_true,beq_iff_eq] at this
    exact this.1
   have hlen:vs.length=es.size:=by rw [hvs,List.length_map,Array.length_toList]
   have none1:es[SetTable.below t.place (if vs.length=0 then (0:Int) else ((t.place.getD 0 0:Nat):Int)+1).toNat]?=none:=by
    rw [Array.getElem?_eq_none_iff]
    rcases Nat.lt_or_ge es.size 1 with z | z
    . omega
    . have hz1:es.size=1:=by omega
      obtain ⟨x,hx1⟩:∃ x,t.place=#[x]:=by
       obtain ⟨q,hq⟩:=List.length_eq_one_iff.mp (show t.place.toList.length=1 by rw [Array.length_toList,hps]; exact hz1)
       exact ⟨q,by rw [<-Array.toArray_toList (xs:=t.place),hq]⟩
      rw [if_neg (by omega),hx1,zkT]
      have:((x:Int)+1).toNat=x+1:=by omega
      show es.size<=if x < ((x:Int)+1).toNat then 1 else 0
      rw [this,if_pos (Nat.lt_succ_self _)]; omega
   rw [none1]
   exact stop _ _ ext0 hit
end
end S6
end
section
namespace S6
open PySem PyProof.Rows
def Kept (h h':Heap):Prop:=∀ b o,h.get? b=some o->h'.get? b=some o
section
variable {prog:Program} {w:World} {A:Around} {E:Value->Shared->Prop} {s:Shared}
theorem zn7 {a:Addr} {o:Obj} {es:Array (Int×Value)} {ep:Nat} {t:SetTable} {Q:Bool->Shared->Prop} (ho:s.heap.get? a=some o) (hd:o.data=.set es ep t) (hf:t.fits es.size=true)
  (h:Q (!byT w && (!t.plain && decide (es.size > 1))) s):wpAny (model prog w) A (setDrawn a) Q E s:=by
 unfold setDrawn setsByText
 refine wpAny_bind (wpAny_setState_of ho hd hf ?_)
 dsimp only
 refine wpAny_bind (wpAny_bind (wpAny_askSetting (wpAny_pure ?_)))
 exact wpAny_pure h
theorem znh {a:Addr} {o:Obj} {es:Array (Int×Value)} {ep:Nat} {t:SetTable} {ne:Prop} {Q:Value->Shared->Prop} (ho:s.heap.get? a=some o) (hx:o.ExactSet) (hd:o.data=.set es ep t) (hT:SetT w t es.size ne) (hne:1 < es.size->ne) (hz:es.size<=sizeLine)
  (h:∀ (it p:Addr) (vs:List Value) h' d,SIt w es ep t vs a it p 0 h'->vs.Perm (es.toList.map (·.2))->Kept s.heap h'->s.heap.objs.size<=it->(p < it\/p=0)->(s.heap.objs.size<=p\/p=0)->Q (.ref it) { s with heap:=h',drawn:=d }) :
  wpAny (model prog w) A (pyIter (.ref a)) Q E s:=by
 have hTy:s.TypeIs (.ref a) "set" := ⟨o,ho,hx.1⟩
 refine wpAny_pyIter_slot hTy F.slot_set_iter (wpAny_call_entry F.slot_set_iter hTy zkI ?_ (F.args_set_iter_1 _))
 unfold Builtin.«frozenset.__iter__» Builtin.Frozenset.slot0 slotArgs
 simp only [List.isEmpty_nil,Bool.not_true,Bool.false_eq_true,↓reduceIte,bind_assoc,List.length_nil,bne_self_eq_false]
 unfold Builtin.Frozenset.addrOf Builtin.Frozenset.sizeOf
 refine wpAny_bind (wpAny_pure ?_)
 try dsimp only
 refine wpAny_bind (wpAny_pure ?_)
 refine wpAny_bind (wpAny_bind (wpAny_setEntries_of ho hd hT.fits (wpAny_pure ?_)))
 have made:∀ (first:Value) (h1:Heap) (d1:Drawn) (p:Addr) (vs:List Value),h1.get? a=some o->Mode w es ep t vs a h1.objs.size p 0 (h1.push (itO first 0 a es.size ep)) first->vs.Perm (es.toList.map (·.2))->Kept s.heap h1->s.heap.objs.size<=h1.objs.size->(p < h1.objs.size\/p=0)->(s.heap.objs.size<=p\/p=0) ->
    wpAny (model prog w) A.in1 (do
     let ep' <-setEpoch a
     let r <-newFields "set_iterator" [first,rawInt 0,Value.ref a,rawInt (es.size:Nat),rawInt (ep':Nat)]
     ret r) (λ fin s'=>∃ r,fin=.done (.ret r)/\∃ T' x,s'.TypeIs r T'/\typeLookup (.type T') "__next__" = pure (some x)/\Q r s') E { s with heap:=h1,drawn:=d1 }:=λ first h1 d1 p vs ha md pm kp hs h3 h4=>by
  refine wpAny_bind (wpAny_setEpoch_of ha hd hT.fits ?_)
  unfold newFields
  refine wpAny_bind (wpAny_newObj_type ?_ (by first | size_fits | exact trivial))
  refine wpAny_pure ⟨_,rfl,"set_iterator",_,⟨_,Heap.get?_push_size _ rfl,rfl⟩,zb0.lookup,?_⟩
  refine h h1.objs.size p vs _ d1 ⟨⟨o,Heap.get?_push_of_some _ ha,hx,hd⟩,first,Heap.get?_push_size _ rfl,md⟩ pm (λ b ob q=>Heap.get?_push_of_some _ (kp b ob q)) hs h3 h4
 refine wpAny_bind (zn7 ho hd hT.fits ?_)
 cases hb:byT w with
 | true =>
  simp only [Bool.not_true,Bool.false_and,Bool.false_eq_true,if_false]
  refine wpAny_bind (wpAny_pure ?_)
  exact made (rawInt 0) s.heap s.drawn 0 _ ho (.inl ⟨hb,⟨0,rfl⟩,rfl⟩) ((zpN _ es).map _) (λ _ _ q=>q) (Nat.le_refl _) (.inr rfl) (.inr rfl)
 | false =>
  by_cases hsz:es.size > 1
  . have hp:t.plain=false:=hT.plain (hne hsz)
    have:(!false && (!t.plain && decide (es.size > 1)))=true:=by rw [hp]; simp [hsz]
    rw [this]
    simp only [if_true]
    refine wpAny_bind (zmg es.size (List.range es.size) _ _ (by simp) λ ys d pm=>?_)
    refine wpAny_bind (wpAny_newTuple ?_ (by rw [List.length_map,pm.length_eq,List.length_range]; exact hz))
    have fm:∀ l:List Nat,(∀ j∈l,j < es.size)->l.filterMap (λ j=>(es[j]?).map (·.2))=l.map λ j=>(es[j]?.map (·.2)).getD .none:=λ l=>by
     induction l with
     | nil=>intro _; rfl
     | cons j r ih =>
      intro hl
      have hj:=hl j List.mem_cons_self
      rw [List.filterMap_cons,List.map_cons,ih λ x hx=>hl x (List.mem_cons_of_mem _ hx),Array.getElem?_eq_getElem hj]
      rfl
    have rng:(List.range es.size).filterMap (λ j=>(es[j]?).map (·.2))=es.toList.map (·.2):=by
     have e1:=filterMap_getElem?_range es
     rw [<-e1,List.map_filterMap]
    have ltS:s.heap.objs.size < (s.heap.push { cls:=.type "tuple",data:=.seq (ys.map λ (n:Nat)=>rawInt n).toArray }).objs.size:=by rw [Heap.size_push]; exact Nat.lt_succ_self _
    refine made (.ref s.heap.objs.size) _ d s.heap.objs.size (ys.filterMap λ j=>(es[j]?).map (·.2)) (Heap.get?_push_of_some _ ho) (.inr (.inl ⟨hb,rfl,Nat.ne_of_lt ltS,ys,Heap.get?_push_of_some _ (Heap.get?_push_size _ rfl),rfl,pm⟩)) ?_ (λ b ob q=>Heap.get?_push_of_some _ q) (Nat.le_of_lt ltS) (.inl ltS) (.inl (Nat.le_refl _))
    rw [<-rng]
    exact pm.filterMap _
  . have:(!false && (!t.plain && decide (es.size > 1)))=false:=by simp [hsz]
    rw [this]
    simp only [Bool.false_eq_true,if_false]
    refine wpAny_bind (wpAny_pure ?_)
    exact made (rawInt 0) s.heap s.drawn 0 _ ho (.inr (.inr ⟨hb,hT.led hb,by omega,rfl,rfl⟩)) (.refl _) (λ _ _ q=>q) (Nat.le_refl _) (.inr rfl) (.inr rfl)
theorem zn6 {es:Array (Int×Value)} {ep:Nat} {t:SetTable} {vs:List Value} {a it p:Addr} (hh:A.handled=none) (hf:t.fits es.size=true) (hne:a≠it):Walks prog w A it [it,a,p] [it] vs.length (λ i v=>vs[i]?=some v) (λ i h=>SIt w es ep t vs a it p i h) where
 sub:=λ b hb=>by simp at hb; simp [hb]
 frame:=λ i h h' st hk=>by
  obtain ⟨⟨o,ho,hx,hd⟩,first,hit,md⟩:=st
  refine ⟨⟨o,hk a (by simp) o ho,hx,hd⟩,first,hk it (by simp) _ hit,?_⟩
  rcases md with md | ⟨hb,e,hpi,ps,hps,r⟩ | md
  . exact .inl md
  . exact .inr (.inl ⟨hb,e,hpi,ps,hk p (by simp) _ hps,r⟩)
  . exact .inr (.inr md)
 item:=λ i s Q E hi st hQ=>by
  obtain ⟨v,hv⟩:∃ v,vs[i]?=some v:=⟨_,List.getElem?_eq_getElem hi⟩
  exact zq9 hf st hne hv λ h' st' sb=>hQ v h' s.toks hv st' λ b o hb e=>(sb.2 b (by simpa using hb)).trans e
 done:=λ s Q E st hQ=>zse hh hf st hne λ h' x=>hQ h' s.toks λ b o hb e=>x b o (by simpa using hb) e
 self:=λ i s Q E st hQ=>by
  obtain ⟨_,first,hit,_⟩:=st
  have hT:s.TypeIs (.ref it) "set_iterator" := ⟨_,hit,rfl⟩
  have sl:Slot "set_iterator" "__iter__" "set_iterator.__iter__" :=
    Slot.of (owner := "set_iterator") (n := "__iter__")
     (by rw [typeLookup_type,builtinLookup_eq_fast]; kernel_rfl) (by decide +kernel)
     (by decide +kernel) (by decide +kernel)
     (by first | exact .inl (by decide +kernel) | exact .inr (by decide +kernel))
     (by rw [isSubtype_type]; kernel_rfl)
  have en : entryFor table "set_iterator.__iter__" = some Builtin.«dict_keyiterator.__iter__» :=
    entryFor_alias (id' := "dict_keyiterator.__iter__") (by kernel_rfl) rfl
     (by decide +kernel) (by kernel_rfl)
  have ar:∀ a:Value,argsOk "set_iterator.__iter__" ⟨[a],[]⟩:=λ a=>by unfold argsOk; kernel_rfl
  refine wpAny_pyIter_slot hT sl (wpAny_call_entry sl hT en ?_ (ar _))
  show wpAny _ _ (ret (.ref it)) _ _ s
  exact wpAny_pure ⟨_,rfl,"set_iterator",_,hT,zb0.lookup,hQ⟩
end
end S6
end
section
namespace S6
open PySem PyProof.Rows
section
variable {prog:Program} {w:World} {A:Around} {E:Value->Shared->Prop} {s:Shared}
theorem zp6 {r:Addr} {Q:Bool->Shared->Prop} (hT:s.TypeIs (.ref r) "set") (h:Q false s):wpAny (model prog w) A (Builtin.List.listLengthHint (.ref r)) Q E s:=by
 unfold Builtin.List.listLengthHint
 refine wpAny_bind (wpAny_specialOf hT F.slot_set_len.lookup ?_)
 generalize hid:("set.__len__" : String)=id0
 wp_delta
 rw [show splitId id0=some ("set","__len__") from by subst hid; decide +kernel]
 subst hid
 refine wpAny_bind (wpAny_isInstance (T := "set") (b:=true) hT (by rw [isSubtype_type]; kernel_rfl) ?_)
 refine wpAny_ite_split (λ hab=>absurd hab (by decide)) (λ _=>?_)
 refine wpAny_ite_split (λ _=>?_) (λ hab=>absurd (by decide +kernel) hab)
 exact wpAny_bind (wpAny_typeOf hT (wpAny_pure h))
theorem znv {P:Nat->Value->Prop} {vs:List Value} {acc:Array Value} (hP:∀ i v,P i v->vs[i]?=some v) (h:ItemsOf P acc vs.length):acc.toList=vs:=by
 refine List.ext_getElem? λ i=>?_
 cases e:acc.toList[i]? with
 | none =>
  rw [List.getElem?_eq_none_iff,Array.length_toList,h.1] at e
  rw [List.getElem?_eq_none_iff.mpr e]
 | some v=>exact (hP i v (h.2 i v (by rw [<-Array.getElem?_toList]; exact e))).symm
variable {K:Type} [DecidableEq K] {knd:KeyKind prog w K}
theorem zle {a:Addr} {ks:List K} {R:List Value->Shared->Prop} (hh:A.handled=none) (hS:SetP knd s.heap a ks)
   (h:∀ h' tk d (vs:List Value) (ys:List K),ys.Perm ks->Paired (λ v k=>knd.is k v=true) vs ys->Kept s.heap h'->R vs { s with heap:=h',toks:=tk,drawn:=d }):wpAny (model prog w) A (collect (.ref a)) R E s:=by
 obtain ⟨ks',pk,o,es,ep,t,ho,hx,hd,hel,hnd,hb,hT⟩:=hS
 have hl:es.size=ks'.length:=by rw [<-Array.length_toList]; exact hel.length
 have hz:es.size<=sizeLine:=by rw [hl]; exact fits_of_scanBound hb
 have pv:Paired (λ v k=>knd.is k v=true) (es.toList.map (·.2)) ks':=by
   clear hl hz hd hT
   generalize es.toList=l at hel
   clear hb hnd pk
   induction hel with
   | nil=>exact .nil
   | cons r _ ih=>exact .cons r.1.1 ih
 unfold collect
 refine wpAny_bind (wpAny_runValue (codeAny_builtin F.entry_proto_collect ?_))
 rw [Around.under_plainId F.plain_proto_collect _]
 show wpAny _ A.in1 (newList [] >>= λ l=>again (.builtin "list.__iadd__" ⟨[l,.ref a],[]⟩)) _ _ s
 refine wpAny_bind (wpAny_newObj_type ?_)
 refine wpAny_pure ⟨plainId_quiet F.plain_list_iadd _,codeAny_builtin F.entry_list_iadd ?_⟩
 rw [Around.under_plainId F.plain_list_iadd _]
 generalize hg0:s.heap.push { cls:=.type "list",data:=.seq ([]:List Value).toArray }=g0
 have k0:Kept s.heap g0:=λ b ob q=>by rw [<-hg0]; exact Heap.get?_push_of_some _ q
 have l0:g0.get? s.heap.objs.size=some { cls:=.type "list",data:=.seq #[] }:=by rw [<-hg0]; exact Heap.get?_push_size _ rfl
 have hsa:s.heap.objs.size≠a:=Nat.ne_of_gt (Heap.lt_size ho)
 show wpAny _ A.in1 (Builtin.List.listExtendWith (.ref s.heap.objs.size) (.ref a) (.ref s.heap.objs.size)) _ _ _
 have fin:∀ (vs:List Value),vs.Perm (es.toList.map (·.2))->∀ (h':Heap) (tk:Nat) (d:Drawn) (acc:Array Value) (c:Nat),Kept s.heap h'->h'.get? s.heap.objs.size=some { cls:=.type "list",dict:=none,data:=.seq acc c,slots:=#[] }->acc.toList=vs ->
     wpAny (model prog w) A (do
       match (<-load s.heap.objs.size).data with
       | .seq xs _=>pure xs.toList
       | _=>unsupported "internal:collect") R E { s with heap:=h',toks:=tk,drawn:=d }:=λ vs pm h' tk d acc c kp e ea=>by
   refine wpAny_bind (wpAny_load e (wpAny_pure ?_))
   obtain ⟨ys,py,hy⟩:=zg5 (ea ▸ pm:acc.toList.Perm (es.toList.map (·.2))) pv
   exact h h' tk d _ ys (py.trans pk) hy kp
 unfold Builtin.List.listExtendWith
 have ho0:g0.get? a=some o:=k0 a o ho
 have hT0:Shared.TypeIs { s with heap:=g0 } (.ref a) "set" := ⟨o,ho0,hx.1⟩
 refine wpAny_bind (wpAny_typeOf hT0 ?_)
 have n1:Builtin.List.listSameRef (.ref s.heap.objs.size) (.ref a)=false:=by simp [Builtin.List.listSameRef,hsa]
 have n2:(Value.type "set" == Value.type "list")=false:=by decide
 have n3:(Value.type "set" == Value.type "tuple")=false:=by decide
 simp only [n1,n2,n3,Bool.or_false,Bool.false_eq_true,if_false]
 refine wpAny_bind (znh (s:={ s with heap:=g0 }) ho0 hx hd hT (λ z=>by intro e; rw [hl,e] at z; exact absurd z (by simp)) hz λ it p vs h1 d st pm k1 hit hp1 hp2=>?_)
 have sz0:s.heap.objs.size < g0.objs.size:=Heap.lt_size l0
 have hSf:s.heap.objs.size∉[it,a,p]:=by
   intro z
   rcases List.mem_cons.mp z with z | z
   . have:g0.objs.size<=it:=hit
     omega
   . rcases List.mem_cons.mp z with z | z
     . exact hsa z
     . have z':=List.mem_singleton.mp z
       rcases hp2 with q | q
       . have:g0.objs.size<=p:=q
         omega
       . have:=Heap.lt_size ho
         rw [z',q] at this
         exact absurd this (Nat.not_lt_zero _)
 have hne:a≠it:=Nat.ne_of_lt (Nat.lt_of_lt_of_le (Heap.lt_size ho0) hit)
 have l1:=k1 _ _ l0
 have W:=zn6 (prog:=prog) (w:=w) (A:=A.in1) (es:=es) (ep:=ep) (t:=t) (vs:=vs) (a:=a) (it:=it) (p:=p) hh hT.fits hne
 have hvl:vs.length<=sizeLine:=by rw [pm.length_eq,List.length_map,Array.length_toList]; exact hz
 have key:∀ (h2:Heap) (c1:Nat),SIt w es ep t vs a it p 0 h2->(∀ b ob,b≠s.heap.objs.size->s.heap.get? b=some ob->h2.get? b=some ob)->h2.get? s.heap.objs.size=some { cls:=.type "list",data:=.seq #[] c1 } ->
     codeAny (model prog w) A (.builtin "list.extend.loop" ⟨[.ref s.heap.objs.size,.ref it,.ref s.heap.objs.size],[]⟩)
       (λ q s'=>∃ (h':Heap) (tk:Nat) (acc':Array Value) (c':Nat),q=.ok (.ret (.ref s.heap.objs.size))/\s'={ s with heap:=h',toks:=tk,drawn:=d }/\Kept s.heap h'/\h'.get? s.heap.objs.size=some { cls:=.type "list",dict:=none,data:=.seq acc' c',slots:=#[] }/\acc'.toList=vs)
       { s with heap:=h2,drawn:=d }:=λ h2 c1 st2 k2 l2=>by
   refine codeAny_extend_loopS W.toS hvl s.heap.objs.size hSf (.ref s.heap.objs.size) vs.length 0 _ #[] c1 (by omega) (Nat.zero_le _) st2 l2 (ItemsOf.nil _) λ s' acc' c' hm hS' hacc=>?_
   obtain ⟨h3,g3,d3,tk3,os3⟩:=s'
   have eg:g3=s.gens:=hm.gens
   have ed:d3=d:=hm.drawn
   have eo:os3=s.os:=hm.os
   subst eg ed eo
   refine ⟨h3,tk3,acc',c',rfl,rfl,λ b ob q=>?_,hS',znv (λ _ _ z=>z) hacc⟩
   have hb1:b≠s.heap.objs.size:=Nat.ne_of_lt (Heap.lt_size q)
   refine hm.heap b ob (λ z=>?_) (k2 b ob hb1 q)
   rcases List.mem_cons.mp z with z | z
   . exact hb1 z
   . exact absurd (List.mem_singleton.mp z) (Nat.ne_of_lt (Nat.lt_of_lt_of_le (Heap.lt_size (k0 b ob q)) hit))
 have run:∀ (h2:Heap) (c1:Nat),SIt w es ep t vs a it p 0 h2->(∀ b ob,b≠s.heap.objs.size->s.heap.get? b=some ob->h2.get? b=some ob)->h2.get? s.heap.objs.size=some { cls:=.type "list",data:=.seq #[] c1 }->∀ (Z:Result->Shared->Prop),
     (∀ (h':Heap) (tk:Nat) (acc':Array Value) (c':Nat),Kept s.heap h'->h'.get? s.heap.objs.size=some { cls:=.type "list",dict:=none,data:=.seq acc' c',slots:=#[] }->acc'.toList=vs->Z (.ok (.ret (.ref s.heap.objs.size))) { s with heap:=h',toks:=tk,drawn:=d }) ->
     codeAny (model prog w) A (.builtin "list.extend.loop" ⟨[.ref s.heap.objs.size,.ref it,.ref s.heap.objs.size],[]⟩) Z { s with heap:=h2,drawn:=d }:=λ h2 c1 st2 k2 l2 Z hZ =>
   codeAny_mono (key h2 c1 st2 k2 l2) λ q s' y=>by
     obtain ⟨h',tk,acc',c',rfl,rfl,kp,e,ea⟩:=y
     exact hZ h' tk acc' c' kp e ea
 refine wpAny_bind (wpAny_holding (zp6 (s:={ s with heap:=h1,drawn:=d }) ⟨o,k1 a o ho0,hx.1⟩ ?_))
 have kk:∀ b ob,b≠s.heap.objs.size->s.heap.get? b=some ob->h1.get? b=some ob:=λ b ob _ q=>k1 b ob (k0 b ob q)
 refine wpAny_ite_split (λ _=>?_) (λ _=>wpAny_pure ⟨plainId_quiet F.plain_extend_loop _,run h1 0 st kk l1 _ λ h' tk acc' c' kp e ea=>fin vs pm h' tk d acc' c' kp e ea⟩)
 refine wpAny_bind (wpAny_rule (wpAny_bind ?_))
 show wpAny _ _ (updateSeq s.heap.objs.size (·.push .none) >>= λ _=>updateSeq s.heap.objs.size (·.pop)) _ _ _
 refine wpAny_bind (wpAny_updateSeq l1 rfl ?_)
 have l2:=Heap.get?_update_self (Obj.mapSeq (·.push Value.none)) l1 rfl
 refine wpAny_updateSeq (hz:=by seq_fits) l2 rfl ?_
 have l3:=Heap.get?_update_self (Obj.mapSeq (·.pop)) l2 rfl
 refine wpAny_pure ⟨plainId_quiet F.plain_extend_loop _,run _ _ (W.frame 0 _ _ st λ b hb ob q=>?_) (λ b ob hb q=>?_) l3 _ λ h' tk acc' c' kp e ea=>fin vs pm h' tk d acc' c' kp e ea⟩
 . have hbS:b≠s.heap.objs.size:=λ z=>hSf (z ▸ hb)
   exact (Heap.get?_update_other _ _ (Ne.symm hbS)).trans ((Heap.get?_update_other _ _ (Ne.symm hbS)).trans q)
 . exact (Heap.get?_update_other _ _ (Ne.symm hb)).trans ((Heap.get?_update_other _ _ (Ne.symm hb)).trans (kk b ob hb q))
end
end S6
end
section
namespace L2
open PySem PySem.Spec PyProof.Rows
abbrev Key:=Sum Int Str
def zh3:Key->Value->Bool
 | .inl k,v=>Value.isInt k v
 | .inr x,v=>Value.isStrOf x v
def keyH (w:World):Key->Int
 | .inl k=>hashInt k
 | .inr x=>hashStr w x
theorem zaY:∀ {k:Key} {v:Value},zh3 k v=true->(∃ i t,k=Sum.inl i/\v=Value.int i t)\/(∃ x t,k=Sum.inr x/\v=Value.str x t)
 | .inl i,v,h=>by
  obtain ⟨t,e⟩:=Value.isInt_shape (k:=i) (v:=v) h
  exact .inl ⟨i,t,rfl,e⟩
 | .inr x,v,h=>by
  obtain ⟨t,e⟩:=Value.isStrOf_shape (x:=x) (v:=v) h
  exact .inr ⟨x,t,rfl,e⟩
theorem zoK (i:Int) (t:Tok):zh3 (.inl i) (.int i t)=true:=by simp [zh3,Value.isInt]
theorem zoJ (x:Str) (t:Tok):zh3 (.inr x) (.str x t)=true:=by simp [zh3,Value.isStrOf]
theorem zsA (a b:Int):decide ((Sum.inl a:Key)=Sum.inl b)=(a == b):=by
 by_cases e:a=b
 . subst e; simp
 . have h:¬ (Sum.inl a:Key)=Sum.inl b:=λ q=>e (Sum.inl.inj q)
   rw [decide_eq_false h]
   exact (beq_eq_false_iff_ne.mpr e).symm
theorem zqC (a b:Str):decide ((Sum.inr a:Key)=Sum.inr b)=decide (a=b):=by
 by_cases e:a=b
 . subst e; simp
 . have h:¬ (Sum.inr a:Key)=Sum.inr b:=λ q=>e (Sum.inr.inj q)
   rw [decide_eq_false h,decide_eq_false e]
theorem zsz (a:Int) (b:Str):decide ((Sum.inl a:Key)=Sum.inr b)=false:=decide_eq_false (λ q=>nomatch q)
theorem zsy (a:Str) (b:Int):decide ((Sum.inr a:Key)=Sum.inl b)=false:=decide_eq_false (λ q=>nomatch q)
def zaM (prog:Program) (w:World):PySem.KeyKind prog w Key where
 is:=zh3
 hash:=keyH w
 inj:=λ v a b ha hb=>by
  rcases zaY ha with ⟨i,t,rfl,rfl⟩ | ⟨x,t,rfl,rfl⟩
  . rcases zaY hb with ⟨j,u,rfl,e⟩ | ⟨y,u,rfl,e⟩
    . injection e with e1 _; rw [e1]
    . exact nomatch e
  . rcases zaY hb with ⟨j,u,rfl,e⟩ | ⟨y,u,rfl,e⟩
    . exact nomatch e
    . injection e with e1 _; rw [e1]
 byValue:=λ k v h=>by
  rcases zaY h with ⟨i,t,rfl,rfl⟩ | ⟨x,t,rfl,rfl⟩ <;> rfl
 pyHash:=λ hv h=>by
  rcases zaY hv with ⟨i,t,rfl,rfl⟩ | ⟨x,t,rfl,rfl⟩
  . exact wpAny_pyHash_int h
  . exact wpAny_pyHash_str h
 eqBool:=λ hu hv h=>by
  rcases zaY hu with ⟨i,t,rfl,rfl⟩ | ⟨x,t,rfl,rfl⟩
  . rcases zaY hv with ⟨j,u,rfl,rfl⟩ | ⟨y,u,rfl,rfl⟩
    . rw [zsA] at h; exact wpAny_eqBool_int h
    . rw [zsz] at h; exact SeqAt.EqAt.int_str i t y u _ _ _ _ h
  . rcases zaY hv with ⟨j,u,rfl,rfl⟩ | ⟨y,u,rfl,rfl⟩
    . rw [zsy] at h; exact SeqAt.EqAt.str_int x t j u _ _ _ _ h
    . rw [zqC] at h; exact wpAny_eqBool_str h
 «strs» := fun k x t v h => by
  rcases zaY h with ⟨i,u,rfl,e⟩ | ⟨y,u,rfl,e⟩
  . exact nomatch e
  . injection e with e1 _
    subst e1
    cases v <;> rfl
theorem zls (prog:Program) (w:World) (i:Int) (t:Tok):(zaM prog w).is (.inl i) (.int i t)=true:=zoK i t
theorem zhf (prog:Program) (w:World) (x:Str) (t:Tok):(zaM prog w).is (.inr x) (.str x t)=true:=zoJ x t
end L2
namespace L2
open PySem PySem.Spec PyProof.Rows
inductive V where
 | non | bl (b:Bool) | int (i:Int) | str (x:Str) | byt (b:Array UInt8) | flt (b:UInt64) | ref (a:Addr) | ty (n:String)
 deriving DecidableEq
def RelV:V->Value->Prop
 | .non,u=>u=Value.none
 | .bl b,u=>u=Value.bool b
 | .int i,u=>∃ t,u=Value.int i t
 | .str x,u=>∃ t,u=Value.str x t
 | .byt b,u=>∃ t,u=Value.bytes b t
 | .flt b,u=>∃ t,u=Value.float b t
 | .ref a,u=>u=Value.ref a
 | .ty n,u=>u=Value.type n
abbrev Vals:List V->List Value->Prop:=Paired RelV
theorem Vals.length {xs:List V} {us:List Value} (r:Vals xs us):xs.length=us.length:=Paired.length r
theorem Vals.get:∀ {xs:List V} {us:List Value} {i:Nat} {x:V},Vals xs us->xs[i]?=some x->∃ u,us[i]?=some u/\RelV x u
 | _,_,_,_,.nil,e=>by simp at e
 | _,_,0,_,.cons r _,e=>by simp at e; subst e; exact ⟨_,rfl,r⟩
 | _,_,i+1,x,.cons _ t,e=>by
  obtain ⟨u,h1,h2⟩:=Vals.get (i:=i) (x:=x) t (by simpa using e)
  exact ⟨u,by simpa using h1,h2⟩
theorem Vals.set {x:V} {u:Value} (r:RelV x u):∀ {xs:List V} {us:List Value} (i:Nat),Vals xs us->Vals (xs.set i x) (us.set i u)
 | _,_,_,.nil=>.nil
 | _,_,0,.cons _ t=>.cons r t
 | _,_,i+1,.cons q t=>.cons q (Vals.set r i t)
theorem Vals.append:∀ {xs ys:List V} {us ws:List Value},Vals xs us->Vals ys ws->Vals (xs++ys) (us++ws)
 | _,_,_,_,.nil,s=>s
 | _,_,_,_,.cons r t,s=>.cons r (Vals.append t s)
theorem Vals.take:∀ {xs:List V} {us:List Value} (n:Nat),Vals xs us->Vals (xs.take n) (us.take n)
 | _,_,0,_=>.nil
 | _,_,_+1,.nil=>.nil
 | _,_,n+1,.cons r t=>.cons r (Vals.take n t)
theorem Vals.drop:∀ {xs:List V} {us:List Value} (n:Nat),Vals xs us->Vals (xs.drop n) (us.drop n)
 | _,_,0,r=>r
 | _,_,_+1,.nil=>.nil
 | _,_,n+1,.cons _ t=>Vals.drop n t
def RelO:Option V->Option Value->Prop
 | some v,some u=>RelV v u
 | none,none=>True
 | _,_=>False
def KV {κ:Type}:List (κ×V)->List (κ×Value)->Prop:=Paired λ (p:κ×V) (q:κ×Value)=>p.1=q.1/\RelV p.2 q.2
def kV:Key->V
 | .inl i=>.int i
 | .inr x=>.str x
inductive HO where
 | lst (xs:List V)
 | tup (xs:List V)
 | dK (kvs:List (Key×V)) | dT (kvs:List (List Key×V))
 | set (S:Int->Bool) (n:Nat)
 | ins (C dx:Addr) (fs:List (Str×V))
 | own (x:Addr)
 | xd (fs:List (Str×V))
 | met (f x:Addr)
 | rng (lo hi:Int)
 | frz (o:Obj) (u:HO)
 | tbl (ps:Array Value)
 | ext (φ:Heap->Prop)
abbrev Hp:=Addr->Option HO
def upd (H:Hp) (a:Addr) (o:HO):Hp:=λ b=>if b=a then some o else H b
theorem zab {H:Hp} {a:Addr} {o:HO}:upd H a o a=some o:=by unfold upd; rw [if_pos rfl]
theorem zae {H:Hp} {a b:Addr} {o:HO} (h:b≠a):upd H a o b=H b:=by unfold upd; rw [if_neg h]
theorem ziK {H:Hp} {a:Addr} {o u:HO}:upd (upd H a o) a u=upd H a u:=by
 funext b; unfold upd; split <;> rfl
theorem za2 {H:Hp} {a b:Addr} {o u:HO} (h:H a=some o) (h':H b=some u) (d:o≠u):a≠b:=by
 intro e; subst e; rw [h] at h'; exact d (Option.some.inj h')
theorem zaf {H:Hp} {a b:Addr} {o:HO} (h:H a=some o) (h':H b=none):a≠b:=by
 intro e; subst e; rw [h] at h'; cases h'
section
variable (P:Program) (w:World)
def zbZ (H:Hp) (h:Heap) (a:Addr):HO->Prop
 | .lst xs=>xs.length<=sizeLine/\∃ (its:List Value) (n:Nat),Vals xs its/\h.get? a=some { cls:=.type "list",data:=.seq its.toArray n }
 | .tup xs=>xs.length<=sizeLine/\∃ its:List Value,Vals xs its/\IsTup h a its.toArray
 | .dK kvs=>kvs.length<=sizeLine/\(a == sysModules)=false/\∃ vs,KV kvs vs/\h.DictOf (zaM P w) a vs
 | .dT kvs=>kvs.length<=sizeLine/\(a == sysModules)=false/\∃ xs:List (List Key×Addr×Value),
  Paired (λ (p:List Key×V) (q:List Key×Addr×Value)=>p.1=q.1/\H q.2.1=some (.tup (p.1.map kV))/\RelV p.2 q.2.2) kvs xs /\
  ∃ o es ep,h.get? a=some o/\o.ExactDict/\o.data=.dict es ep/\es.toList=xs.map (entryOfKey (tupleKind (zaM P w)))/\(xs.map (·.1)).Nodup
 | .set S n=>h.SetOf (intKind P w) a S n
 | .ins C dx fs=>H dx=some (.own a)/\fs.length<=1000/\dx≠a/\h.get? a=some (PySem.W.instObj C dx) /\
  ∃ mA,h.Ns1 dx mA/\(∀ f,RelO (fs.lookup f) (mA f))/\PySem.Within mA (fs.map (·.1))
 | .own _=>∃ o,h.get? a=some o
 | .xd fs=>∃ mA,h.Ns1 a mA/\∀ f,RelO (fs.lookup f) (mA f)
 | .rng lo hi=>∃ t u v,h.get? a=some { cls:=.type "range",data:=.fields #[.int lo t,.int hi u,.int 1 v] }
 | .frz o u=>h.get? a=some o/\zbZ H h a u
 | .tbl ps=>h.get? a=some { cls:=.none,data:=.fields ps }
 | .met f x=>h.get? a=some (PySem.W.methodObj (.ref f) (.ref x))
 | .ext φ=>φ h/\(∃ o,h.get? a=some o)/\∀ h1 h2:Heap,φ h1->(∀ o,h1.get? a=some o->h2.get? a=some o)->φ h2
def HOk (H:Hp) (h:Heap):Prop:=∀ a o,H a=some o->zbZ P w H h a o
end
section
variable {P:Program} {w:World} {H H':Hp} {h h':Heap} {a:Addr} {o:HO}
theorem zbZ.lt (x:zbZ P w H h a o):a < h.objs.size:=by
 cases o with
 | lst xs=>obtain ⟨_,_,_,_,e⟩:=x; exact Heap.lt_size e
 | tup xs=>obtain ⟨_,_,_,p⟩:=x; exact p.lt
 | dK kvs=>obtain ⟨_,_,_,_,o,_,_,e,_⟩:=x; exact Heap.lt_size e
 | dT kvs=>obtain ⟨_,_,_,_,o,_,_,e,_⟩:=x; exact Heap.lt_size e
 | set S n=>obtain ⟨o,_,_,_,e,_⟩:=x; exact Heap.lt_size e
 | ins C dx fs=>obtain ⟨_,_,_,e,_⟩:=x; exact Heap.lt_size e
 | own y=>obtain ⟨_,e⟩:=x; exact Heap.lt_size e
 | xd fs=>obtain ⟨_,⟨_,_,_,e,_⟩,_⟩:=x; exact Heap.lt_size e
 | rng lo hi=>obtain ⟨_,_,_,e⟩:=x; exact Heap.lt_size e
 | frz ob u=>obtain ⟨e,_⟩:=x; exact Heap.lt_size e
 | tbl ps=>exact Heap.lt_size (show h.get? a=some _ from x)
 | met f y=>exact Heap.lt_size (show h.get? a=some _ from x)
 | ext φ=>obtain ⟨_,⟨_,e⟩,_⟩:=x; exact Heap.lt_size e
theorem Paired.mapP {α β:Type} {F G:α->β->Prop}:∀ {l₁:List α} {l₂:List β},Paired F l₁ l₂->(∀ a b,F a b->G a b)->Paired G l₁ l₂
 | _,_,.nil,_=>.nil
 | _,_,.cons r t,f=>.cons (f _ _ r) (Paired.mapP t f)
theorem zbZ.stay (x:zbZ P w H h a o) (k:∀ b u,(b=a\/H b=some (.own a))->h.get? b=some u->h'.get? b=some u)
  (ho:∀ b,H b=some (.own a)->H' b=some (.own a)) (ht:∀ b xs,H b=some (.tup xs)->H' b=some (.tup xs)):zbZ P w H' h' a o:=by
 induction o with
 | lst xs=>obtain ⟨z,its,n,r,e⟩:=x; exact ⟨z,its,n,r,k _ _ (.inl rfl) e⟩
 | tup xs=>obtain ⟨z,its,r,ob,e,c⟩:=x; exact ⟨z,its,r,ob,k _ _ (.inl rfl) e,c⟩
 | dK kvs=>obtain ⟨z,y,vs,r,ob,es,ep,e,c⟩:=x; exact ⟨z,y,vs,r,ob,es,ep,k _ _ (.inl rfl) e,c⟩
 | dT kvs =>
  obtain ⟨z,y,xs,r,ob,es,ep,e,c⟩:=x
  exact ⟨z,y,xs,Paired.mapP r λ p q z=>⟨z.1,ht _ _ z.2.1,z.2.2⟩,ob,es,ep,k _ _ (.inl rfl) e,c⟩
 | set S n=>obtain ⟨ob,es,ep,t,e,c⟩:=x; exact ⟨ob,es,ep,t,k _ _ (.inl rfl) e,c⟩
 | ins C dx fs =>
  obtain ⟨d,z,ne,e,mA,⟨od,es,ep,e2,c⟩,r⟩:=x
  exact ⟨ho _ d,z,ne,k _ _ (.inl rfl) e,mA,⟨od,es,ep,k _ _ (.inr d) e2,c⟩,r⟩
 | own y=>obtain ⟨ob,e⟩:=x; exact ⟨ob,k _ _ (.inl rfl) e⟩
 | xd fs=>obtain ⟨mA,⟨od,es,ep,e,c⟩,r⟩:=x; exact ⟨mA,⟨od,es,ep,k _ _ (.inl rfl) e,c⟩,r⟩
 | rng lo hi=>obtain ⟨t,u,v,e⟩:=x; exact ⟨t,u,v,k _ _ (.inl rfl) e⟩
 | frz ob u ih=>obtain ⟨e,q⟩:=x; exact ⟨k _ _ (.inl rfl) e,ih q⟩
 | tbl ps =>
  have e:h.get? a=some { cls:=.none,data:=.fields ps }:=x
  show h'.get? a=some { cls:=.none,data:=.fields ps }
  exact k a _ (.inl rfl) e
 | met f y =>
  have e:h.get? a=some (PySem.W.methodObj (.ref f) (.ref y)):=x
  show h'.get? a=some (PySem.W.methodObj (.ref f) (.ref y))
  exact k a _ (.inl rfl) e
 | ext φ=>obtain ⟨p,⟨o,e⟩,st⟩:=x; exact ⟨st _ _ p λ o q=>k _ _ (.inl rfl) q,⟨o,k _ _ (.inl rfl) e⟩,st⟩
theorem HOk.lt (x:HOk P w H h) (e:H a=some o):a < h.objs.size:=(x a o e).lt
theorem HOk.fresh (x:HOk P w H h) (e:h.objs.size<=a):H a=none:=by
 cases q:H a with
 | none=>rfl
 | some u=>exact absurd (Nat.lt_of_lt_of_le (x.lt q) e) (Nat.lt_irrefl _)
theorem HOk.kept (x:HOk P w H h) (k:∀ b u,h.get? b=some u->h'.get? b=some u):HOk P w H h':=λ a o e =>
 (x a o e).stay (λ b u _ q=>k b u q) (λ _ q=>q) λ _ _ q=>q
theorem HOk.laid (x:HOk P w H h) (k:∀ b u,h.get? b=some u->h'.get? b=some u) (hp:h.objs.size<=a) (new:zbZ P w (upd H a o) h' a o):HOk P w (upd H a o) h':=λ b u e=>by
 have hn:=x.fresh hp
 by_cases hb:b=a
 . subst hb; rw [zab] at e; cases e; exact new
 . rw [zae hb] at e
   exact (x b u e).stay (λ c v _ q=>k c v q) (λ c q=>by rw [zae (zaf q hn)]; exact q) λ c xs q=>by rw [zae (zaf q hn)]; exact q
end
def Rd (H:Hp) (a:Addr) (u:HO):Prop:=H a=some u\/∃ o,H a=some (.frz o u)
theorem Rd.of {H:Hp} {a:Addr} {u:HO} (h:H a=some u):Rd H a u:=.inl h
theorem Rd.ok {P:Program} {w:World} {H:Hp} {h:Heap} {a:Addr} {u:HO} (r:Rd H a u) (x:HOk P w H h):zbZ P w H h a u:=by
 rcases r with r | ⟨o,r⟩
 . exact x a u r
 . obtain ⟨_,q⟩:=x a _ r
   exact q
def Mut:Option HO->Prop
 | some (.lst _)=>True
 | some (.dK _)=>True
 | some (.dT _)=>True
 | some (.set _ _)=>True
 | some (.ins _ _ _)=>True
 | some (.ext _)=>True
 | _=>False
section
variable {P:Program} {w:World} {H:Hp} {h h':Heap} {x e:Addr} {o':HO}
theorem HOk.write (ok:HOk P w H h) (mu:Mut (H x)) (he:e=x\/H e=some (.own x)) (k:∀ b u,b≠e->h.get? b=some u->h'.get? b=some u) (heo:∃ u,h'.get? e=some u)
   (new:zbZ P w (upd H x o') h' x o'):HOk P w (upd H x o') h':=λ b u q=>by
 have nown:∀ c y,H c=some (.own y)->c≠x:=λ c y r z=>by subst z; rw [r] at mu; exact mu
 have ntup:∀ c xs,H c=some (.tup xs)->c≠x:=λ c xs r z=>by subst z; rw [r] at mu; exact mu
 by_cases hb:b=x
 . subst hb; rw [zab] at q; cases q; exact new
 . rw [zae hb] at q
   by_cases hbe:b=e
   . have q':H b=some (.own x):=by
       rcases he with z | z
       . exact absurd (hbe.trans z) hb
       . rw [hbe]; exact z
     rw [q] at q'; cases q'
     obtain ⟨v,hv⟩:=heo
     exact ⟨v,by rw [hbe]; exact hv⟩
   . refine (ok b u q).stay (λ c v hc r=>k c v ?_ r) (λ c r=>by rw [zae (nown c b r)]; exact r) λ c xs r=>by rw [zae (ntup c xs r)]; exact r
     rcases hc with rfl | hc
     . exact hbe
     . rintro rfl
       rcases he with z | z
       . exact nown c b hc z
       . rw [hc] at z; cases z; exact hb rfl
end
structure Un (fs ex:List Addr) (H H':Hp) (h h':Heap):Prop where
 keep:∀ b o,h.get? b=some o->H b=none->b∉fs->b∉ex->h'.get? b=some o
 slot:∀ b o,h.get? b=some o->H b=none->b∈fs->b∉ex->∃ sl,h'.get? b=some { o with slots:=sl }
 free:∀ b o,h.get? b=some o->H b=none->b∉ex->H' b=none
 there:∀ b o,h.get? b=some o->b∉ex->∃ o',h'.get? b=some o'
 tups:∀ b xs,H b=some (.tup xs)->H' b=some (.tup xs)
 frzs:∀ b o u,H b=some (.frz o u)->H' b=some (.frz o u)
 tbls:∀ b ps,H b=some (.tbl ps)->∃ more,H' b=some (.tbl (ps++more))
section
variable {fs fs' ex ex':List Addr} {H H1 H2:Hp} {h h1 h2 h':Heap} {a x e:Addr} {o:HO}
theorem Un.any (u:Un fs ex H H1 h h1) {b:Addr} {ob:Obj} (q:h.get? b=some ob) (n:H b=none) (hx:b∉ex):∃ sl,h1.get? b=some { ob with slots:=sl }:=by
 by_cases hb:b∈fs
 . exact u.slot b ob q n hb hx
 . exact ⟨ob.slots,u.keep b ob q n hb hx⟩
theorem Un.kept (k:∀ b u,h.get? b=some u->h'.get? b=some u):Un fs ex H H h h' :=
 ⟨λ b ob q _ _ _=>k b ob q,λ b ob q _ _ _=>⟨ob.slots,k b ob q⟩,λ _ _ _ n _=>n,λ b ob q _=>⟨ob,k b ob q⟩,λ _ _ q=>q,λ _ _ _ q=>q,λ _ ps q=>⟨#[],by rw [q]; simp⟩⟩
theorem Un.refl:Un fs ex H H h h:=Un.kept λ _ _ q=>q
theorem Un.laid (k:∀ b u,h.get? b=some u->h'.get? b=some u) (hp:h.objs.size<=a) (hn:H a=none):Un fs ex H (upd H a o) h h' where
 keep:=λ b u q _ _ _=>k b u q
 slot:=λ b u q _ _ _=>⟨u.slots,k b u q⟩
 free:=λ b u q n _=>by rw [zae (Nat.ne_of_lt (Nat.lt_of_lt_of_le (Heap.lt_size q) hp))]; exact n
 there:=λ b u q _=>⟨u,k b u q⟩
 tups:=λ b xs q=>by rw [zae (zaf q hn)]; exact q
 frzs:=λ b u xs q=>by rw [zae (zaf q hn)]; exact q
 tbls:=λ b ps q=>⟨#[],by rw [zae (zaf q hn),q]; simp⟩
theorem Un.write (mu:Mut (H x)) (he:e=x\/H e=some (.own x)) (k:∀ b u,b≠e->h.get? b=some u->h'.get? b=some u) (heo:∃ u,h'.get? e=some u):Un fs ex H (upd H x o) h h':=by
 have hx:∀ b,H b=none->b≠x:=λ b n z=>by subst z; rw [n] at mu; exact mu
 have hb:∀ b,H b=none->b≠e:=λ b n z=>by
   subst z
   rcases he with r | r
   . exact hx b n r
   . rw [n] at r; cases r
 have hm:∀ b u,H b=some u->¬ Mut (some u)->b≠x:=λ b u q nm z=>by subst z; rw [q] at mu; exact nm mu
 refine ⟨λ b u q n _ _=>k b u (hb b n) q,λ b u q n _ _=>⟨u.slots,k b u (hb b n) q⟩,λ b u q n _=>by rw [zae (hx b n)]; exact n,λ b u q _=>?_,
   λ b xs q=>by rw [zae (hm b _ q λ z=>z)]; exact q,λ b u xs q=>by rw [zae (hm b _ q λ z=>z)]; exact q,λ b ps q=>⟨#[],by rw [zae (hm b _ q λ z=>z),q]; simp⟩⟩
 by_cases hbe:b=e
 . subst hbe; exact heo
 . exact ⟨u,k b u hbe q⟩
end
def trk (h:Heap) (H:Hp):List Addr:=(List.range h.objs.size).filter λ a=>(H a).isSome
def hidT (h:Heap) (H:Hp):Heap:=PySem.W.hideAll h (trk h H)
theorem zoS (h:Heap) (H:Hp):(hidT h H).objs.size=h.objs.size:=PySem.W.hideAll_size _ _
theorem zp7 {h:Heap} {H:Hp} {b:Addr} {o:Obj} (e:h.get? b=some o) (n:H b=none):(hidT h H).get? b=some o :=
 PySem.W.hideAll_get _ e λ hm=>by
  have q:(H b).isSome=true:=(List.mem_filter.mp hm).2
  rw [n] at q; simp at q
theorem zrs {h:Heap} {H:Hp} {b:Addr} {o:Obj} (e:(hidT h H).get? b=some o):h.get? b=some o/\H b=none:=by
 have e':h.get? b=some o:=PySem.W.of_hideAll (trk h H) e
 refine ⟨e',?_⟩
 cases q:H b with
 | none=>rfl
 | some x =>
  have hm:b∈trk h H:=List.mem_filter.mpr ⟨List.mem_range.mpr (Heap.lt_size e'),by simp [q]⟩
  have z:(hidT h H).get? b=none:=PySem.W.hideAll_none (trk h H) hm
  rw [z] at e; cases e
end L2
namespace L2
open PySem PySem.Spec PyProof.Rows
structure Mod (K:PySem.W.Frag) (mg:Str->Option Value) (base:Heap):Prop where
 kin:K.In base
 glob:base.Ns mainGlobals mg
 blt:∃ mb,base.Ns builtinsNs mb/\∀ x:Str,x ≠ "__name__" -> mb x=bootBuiltins x
 nolimit:base.NoLimit
structure Cx where
 prog:Program
 w:World
 K:PySem.W.Frag
 mg:Str->Option Value
 base:Heap
 A:Around
 N:List Str
 s₀:Shared
 H₀:Hp
 env:Env
 outer:List Env
 stack:List Env
 ex:List Addr
 fn:Str->Bool
 calm:Bool
 pn:List (Addr×Obj)
 xe:Value->Shared->Prop
def frs (l:List Env):List Addr:=l.filterMap (·.frame)
abbrev Cx.fs (X:Cx):List Addr:=frs X.outer
def Vis (sc:Scope) (x:Str):Prop:=sc.names.lookup x=some .local\/sc.names.lookup x=some .cell\/sc.names.lookup x=some .free
def Loc (sc:Scope) (x:Str):Prop:=sc.names.lookup x=some .local\/sc.names.lookup x=some .cell
def Look (env:Env) (h:Heap) (m:Str->Option Value) (x:Str) (u:Value):Prop :=
 (env.kindOf x=some .local/\m x=some u)\/((env.kindOf x=some .cell\/env.kindOf x=some .free)/\∃ c,env.cells.lookup x=some c/\h.IsCell c (some u))
structure Cx.Ok (X:Cx):Prop where
 mod:Mod X.K X.mg X.base
 kind:X.env.scope.kind=.function
 glob:X.env.globals=mainGlobals
 blt:X.env.builtins=builtinsNs
 above:X.s₀.heap.objs.size<=X.env.locals
 inj:∀ x y c,X.env.cells.lookup x=some c->X.env.cells.lookup y=some c->x=y
 has:∀ x,(X.env.kindOf x=some .cell\/X.env.kindOf x=some .free)->∃ c,X.env.cells.lookup x=some c
 cab:∀ x c,X.fn x=true->X.env.cells.lookup x=some c->X.s₀.heap.objs.size<=c
 hd:X.calm=true->X.A.handled=none
 frames:X.A.frames=some X.stack
 stk:X.stack=X.outer\/(X.stack=X.env::X.outer/\X.env.frame=some X.env.locals)
 exf:∀ b∈X.ex,b≠X.env.locals/\∀ x c,X.env.cells.lookup x=some c->c≠b
 bs:∀ b o,X.base.get? b=some o->X.s₀.heap.get? b=some o/\X.H₀ b=none
 bsz:X.base.objs.size<=X.s₀.heap.objs.size
 noex:∀ b o,X.base.get? b=some o->b∉X.ex
 exfs:∀ b∈X.ex,b∉X.fs
 funs:X.s₀.heap.FunFrames X.base X.outer
 frf:∀ b∈X.fs,X.H₀ b=none
structure Inv (X:Cx) (pins:List (Addr×Obj)) (σ:List (Option V)) (H:Hp) (s:Shared):Prop where
 ok:X.Ok
 os:s.os=X.s₀.os
 bare:AllBare s.gens
 base:Un X.fs X.ex X.H₀ H X.s₀.heap s.heap
 loc:∃ m,s.heap.Ns X.env.locals m/\∀ (i:Nat) (x:Str) (v:V),X.N[i]?=some x->σ[i]?=some (some v)->Vis X.env.scope x->∃ u,RelV v u/\Look X.env s.heap m x u
 cell:∀ x c,X.env.cells.lookup x=some c->∃ v,s.heap.IsCell c v
 free:H X.env.locals=none
 zdT:∀ x c,X.env.cells.lookup x=some c->H c=none
 pin:∀ p∈X.pn++pins,s.heap.get? p.1=some p.2/\H p.1=none/\p.1≠X.env.locals/\p.1∉X.fs/\∀ v,p.2.data≠.cell v
 hok:HOk X.prog X.w H s.heap
 len:σ.length=X.N.length
section
variable {X:Cx} {pins:List (Addr×Obj)} {σ:List (Option V)} {H H':Hp} {s:Shared} {h':Heap}
theorem Cx.Ok.nofr (ok:X.Ok) {b:Addr} {o:Obj} (e:X.base.get? b=some o):b∉X.fs:=λ hb=>by
 have:=(ok.funs.mem hb).1
 rw [e] at this; cases this
theorem Inv.bs (I:Inv X pins σ H s):∀ b o,X.base.get? b=some o->s.heap.get? b=some o/\H b=none:=λ b o e =>
 ⟨I.base.keep b o (I.ok.bs b o e).1 (I.ok.bs b o e).2 (I.ok.nofr e) (I.ok.noex b o e),I.base.free b o (I.ok.bs b o e).1 (I.ok.bs b o e).2 (I.ok.noex b o e)⟩
theorem Inv.bk (I:Inv X pins σ H s):∀ b o,X.base.get? b=some o->s.heap.get? b=some o:=λ b o e=>(I.bs b o e).1
theorem Inv.mod (I:Inv X pins σ H s):Mod X.K X.mg X.base:=I.ok.mod
theorem Inv.kIn (I:Inv X pins σ H s):X.K.In s.heap:=I.ok.mod.kin.keeps I.bk
theorem Inv.fr (I:Inv X pins σ H s):∃ m,Fr X.base X.env.locals s.heap m :=
 let ⟨m,hn,_⟩:=I.loc
 ⟨m,hn,I.bk,Nat.le_trans I.ok.bsz I.ok.above⟩
theorem Inv.lt (I:Inv X pins σ H s):X.env.locals < s.heap.objs.size:=let ⟨_,hn,_⟩:=I.loc; hn.lt
theorem Inv.sz (I:Inv X pins σ H s):X.s₀.heap.objs.size<=s.heap.objs.size:=Nat.le_trans I.ok.above (Nat.le_of_lt I.lt)
theorem Inv.nofs (I:Inv X pins σ H s) {a:Addr} (h:s.heap.objs.size<=a):a∉X.fs:=λ hb=>by
 obtain ⟨_,o,ho,_⟩:=I.ok.funs.mem hb
 exact absurd (Nat.lt_of_lt_of_le (Heap.lt_size ho) (Nat.le_trans I.sz h)) (Nat.lt_irrefl _)
theorem Inv.cne (I:Inv X pins σ H s):∀ x c,X.env.cells.lookup x=some c->c≠X.env.locals:=λ x c e z=>by
 obtain ⟨v,o,ho,hd⟩:=I.cell x c e
 obtain ⟨m,⟨o',es,ep,ho',hd',_⟩,_⟩:=I.loc
 rw [z,ho'] at ho; cases ho; rw [hd'] at hd; cases hd
theorem Inv.funs (I:Inv X pins σ H s):s.heap.FunFrames X.base X.outer:=by
 have all:∀ (l:List Env),(∀ b∈frs l,b∈X.fs)->X.s₀.heap.FunFrames X.base l->s.heap.FunFrames X.base l:=by
  intro l
  induction l with
  | nil=>intro _ _; trivial
  | cons env r ih =>
   intro hs hl
   obtain ⟨hk,⟨L,o,hf,hn,ho,hd⟩,hr⟩:=hl
   have hL:L∈X.fs:=hs L (by unfold frs; rw [List.filterMap_cons,hf]; exact List.mem_cons_self)
   obtain ⟨sl,e⟩:=I.base.slot L o ho (I.ok.frf L hL) hL λ z=>I.ok.exfs L z hL
   exact ⟨hk,⟨L,_,hf,hn,e,hd⟩,ih (λ b hb=>hs b (by unfold frs; rw [List.filterMap_cons,hf]; exact List.mem_cons_of_mem _ hb)) hr⟩
 exact all X.outer (λ _ hb=>hb) I.ok.funs
theorem Inv.stack (I:Inv X pins σ H s):s.heap.FunFrames X.base X.stack:=by
 rcases I.ok.stk with e | ⟨e,hf⟩
 . rw [e]; exact I.funs
 . rw [e]
   obtain ⟨m,hn,_⟩:=I.loc
   refine .cons (by rw [I.ok.kind]; decide) hf hn ?_ I.funs
   exact Heap.get?_none_of_le (Nat.le_trans I.ok.bsz I.ok.above)
theorem Inv.zmn (I:Inv X pins σ H s):∀ b∈frs X.stack,b∈X.env.locals::X.fs:=λ b hb=>by
 rcases I.ok.stk with e | ⟨e,hf⟩
 . rw [e] at hb; exact List.mem_cons_of_mem _ hb
 . rw [e] at hb
   unfold frs at hb
   rw [List.filterMap_cons,hf] at hb
   exact hb
theorem Inv.zgN (I:Inv X pins σ H s):∀ b∈frs X.stack,H b=none:=λ b hb=>by
 rcases List.mem_cons.mp (I.zmn b hb) with e | hb
 . rw [e]; exact I.free
 . obtain ⟨_,o,ho,_⟩:=I.ok.funs.mem hb
   exact I.base.free b o ho (I.ok.frf b hb) λ z=>I.ok.exfs b z hb
theorem Inv.step {g':Array GenState} {t':Nat} {d':Drawn} {ch:List Addr} (I:Inv X pins σ H s)
   (hch:∀ b∈ch,(b∈X.ex\/X.s₀.heap.objs.size<=b)/\b≠X.env.locals/\(∀ x c,X.env.cells.lookup x=some c->c≠b)/\∀ p∈X.pn++pins,p.1≠b)
   (keep:∀ b o,b≠X.env.locals->b∉X.fs->b∉ch->s.heap.get? b=some o->H b=none->h'.get? b=some o)
   (slot:∀ b o,b≠X.env.locals->b∈X.fs->b∉ch->s.heap.get? b=some o->H b=none->∃ sl,h'.get? b=some { o with slots:=sl }) (free:∀ b o,b∉ch->s.heap.get? b=some o->H b=none->H' b=none)
   (there:∀ b o,b∉ch->s.heap.get? b=some o->∃ o',h'.get? b=some o')
   (tups:∀ b xs,H b=some (.tup xs)->H' b=some (.tup xs)) (frzs:∀ b o u,H b=some (.frz o u)->H' b=some (.frz o u)) (tbls:∀ b ps,H b=some (.tbl ps)->∃ more,H' b=some (.tbl (ps++more)))
   (ns:∀ m,s.heap.Ns X.env.locals m->h'.Ns X.env.locals m) (hok:HOk X.prog X.w H' h') (hg:AllBare g') :
   Inv X pins σ H' { s with heap:=h',gens:=g',drawn:=d',toks:=t' }:=by
 have neL:∀ b o,X.s₀.heap.get? b=some o->b≠X.env.locals:=λ b o e=>Nat.ne_of_lt (Nat.lt_of_lt_of_le (Heap.lt_size e) I.ok.above)
 have neC:∀ b o,X.s₀.heap.get? b=some o->b∉X.ex->b∉ch:=λ b o e hx hb=>by
   rcases (hch b hb).1 with z | z
   . exact hx z
   . exact absurd (Nat.lt_of_lt_of_le (Heap.lt_size e) z) (Nat.lt_irrefl _)
 have cellK:∀ x c,X.env.cells.lookup x=some c->∀ v,s.heap.IsCell c v->h'.IsCell c v:=λ x c e v ⟨o,ho,hd⟩=>by
   have nch:c∉ch:=λ z=>(hch c z).2.2.1 x c e rfl
   by_cases hc:c∈X.fs
   . obtain ⟨sl,q⟩:=slot c o (I.cne x c e) hc nch ho (I.zdT x c e)
     exact ⟨_,q,hd⟩
   . exact ⟨o,keep c o (I.cne x c e) hc nch ho (I.zdT x c e),hd⟩
 refine ⟨I.ok,I.os,hg,⟨λ b o e n hb hx=>?_,λ b o e n hb hx=>?_,λ b o e n hx=>?_,λ b o e hx=>?_,λ b xs e=>tups b xs (I.base.tups b xs e),λ b o xs e=>frzs b o xs (I.base.frzs b o xs e),λ b ps e=>?_⟩,?_,λ x c e=>?_,?_,λ x c e=>?_,λ p hp=>?_,hok,I.len⟩
 . exact keep b o (neL b o e) hb (neC b o e hx) (I.base.keep b o e n hb hx) (I.base.free b o e n hx)
 . obtain ⟨sl,e1⟩:=I.base.slot b o e n hb hx
   obtain ⟨sl',e2⟩:=slot b _ (neL b o e) hb (neC b o e hx) e1 (I.base.free b o e n hx)
   exact ⟨sl',e2⟩
 . obtain ⟨o',e1⟩:=I.base.there b o e hx
   exact free b o' (neC b o e hx) e1 (I.base.free b o e n hx)
 . obtain ⟨o',e1⟩:=I.base.there b o e hx
   exact there b o' (neC b o e hx) e1
 . obtain ⟨m1,e1⟩:=I.base.tbls b ps e
   obtain ⟨m2,e2⟩:=tbls b _ e1
   exact ⟨m1++m2,by rw [e2,Array.append_assoc]⟩
 . obtain ⟨m,hn,hl⟩:=I.loc
   refine ⟨m,ns m hn,λ i x v e1 e2 e3=>?_⟩
   obtain ⟨u,r,l⟩:=hl i x v e1 e2 e3
   refine ⟨u,r,?_⟩
   rcases l with l | ⟨k,c,e,z⟩
   . exact .inl l
   . exact .inr ⟨k,c,e,cellK x c e _ z⟩
 . obtain ⟨v,z⟩:=I.cell x c e
   exact ⟨v,cellK x c e v z⟩
 . obtain ⟨m,⟨o,_,_,ho,_⟩,_⟩:=I.loc
   exact free _ o (λ z=>(hch _ z).2.1 rfl) ho I.free
 . obtain ⟨v,o,ho,hd⟩:=I.cell x c e
   exact free c o (λ z=>(hch c z).2.2.1 x c e rfl) ho (I.zdT x c e)
 . obtain ⟨e,n,ne,nf,d⟩:=I.pin p hp
   have nch:p.1∉ch:=λ z=>(hch p.1 z).2.2.2 p hp rfl
   exact ⟨keep p.1 p.2 ne nf nch e n,free p.1 p.2 nch e n,ne,nf,d⟩
theorem Inv.un {t':Nat} (I:Inv X pins σ H s) (u:Un X.fs [] H H' s.heap h') (hok:HOk X.prog X.w H' h'):Inv X pins σ H' { s with heap:=h',toks:=t' }:=by
 obtain ⟨m,⟨o,es,ep,ho,r⟩,_⟩:=id I.loc
 obtain ⟨sl,hL⟩:=u.any ho I.free (by simp)
 exact I.step (g':=s.gens) (d':=s.drawn) (ch:=[]) (λ _ z=>nomatch z) (λ b o _ hb _ e n=>u.keep b o e n hb (by simp)) (λ b o _ hb _ e n=>u.slot b o e n hb (by simp)) (λ b o _ e n=>u.free b o e n (by simp)) (λ b o _ e=>u.there b o e (by simp)) u.tups u.frzs u.tbls (λ m' hm=>by
  obtain ⟨o',es',ep',ho',r'⟩:=hm
  rw [ho] at ho'; cases ho'
  exact ⟨_,es',ep',hL,r'⟩) hok I.bare
theorem Inv.call {g':Array GenState} {t':Nat} {d':Drawn} {ch:List Addr} (I:Inv X pins σ H s) (u:Un (frs X.stack) ch H H' s.heap h') (hok:HOk X.prog X.w H' h') (hg:AllBare g')
  (hch:∀ b∈ch,(b∈X.ex\/X.s₀.heap.objs.size<=b)/\b≠X.env.locals/\(∀ x c,X.env.cells.lookup x=some c->c≠b)/\∀ p∈X.pn++pins,p.1≠b) :
  Inv X pins σ H' { s with heap:=h',gens:=g',drawn:=d',toks:=t' }:=by
 obtain ⟨m,⟨o,es,ep,ho,r⟩,_⟩:=id I.loc
 obtain ⟨sl,hL⟩:=u.any ho I.free λ z=>(hch _ z).2.1 rfl
 exact I.step (ch:=ch) hch (λ b o hL hb hc e n=>u.keep b o e n (λ z=>(List.mem_cons.mp (I.zmn b z)).elim hL hb) hc) (λ b o _ _ hc e n=>u.any e n hc) (λ b o hc e n=>u.free b o e n hc) (λ b o hc e=>u.there b o e hc) u.tups u.frzs u.tbls (λ m' hm=>by
  obtain ⟨o',es',ep',ho',r'⟩:=hm
  rw [ho] at ho'; cases ho'
  exact ⟨_,es',ep',hL,r'⟩) hok hg
theorem Inv.turned {t':Nat} {it:Addr} (I:Inv X pins σ H s) (k:∀ b o,b≠it->s.heap.get? b=some o->h'.get? b=some o) (hn:H it=none) (hL:it≠X.env.locals)
   (h1:it∈X.ex\/X.s₀.heap.objs.size<=it) (h2:∀ x c,X.env.cells.lookup x=some c->c≠it) (h3:∀ p∈X.pn++pins,p.1≠it):Inv X pins σ H { s with heap:=h',toks:=t' }:=by
 have nit:∀ b u,H b=some u->b≠it:=λ b u e z=>by rw [z,hn] at e; cases e
 refine I.step (g':=s.gens) (d':=s.drawn) (ch:=[it]) (λ b hb=>?_) (λ b o _ _ hc e _=>k b o (λ z=>hc (by simp [z])) e) (λ b o _ _ hc e _=>⟨o.slots,k b o (λ z=>hc (by simp [z])) e⟩) (λ _ _ _ _ n=>n)
   (λ b o hc e=>⟨o,k b o (λ z=>hc (by simp [z])) e⟩) (λ _ _ e=>e) (λ _ _ _ e=>e) (λ b ps e=>⟨#[],by rw [e]; simp⟩) (λ m hm=>?_) (λ b u e=>?_) I.bare
 . have e:b=it:=by simpa using hb
   subst e
   exact ⟨h1,hL,h2,h3⟩
 . obtain ⟨o,es,ep,ho,r⟩:=hm
   exact ⟨o,es,ep,k _ o (Ne.symm hL) ho,r⟩
 . refine (I.hok b u e).stay (λ c v hc q=>k c v ?_ q) (λ _ q=>q) λ _ _ q=>q
   rcases hc with z | z
   . rw [z]; exact nit b u e
   . exact nit c _ z
theorem Inv.tok (I:Inv X pins σ H s) (t:Nat):Inv X pins σ H { s with toks:=t }:=I.un (h':=s.heap) (t':=t) Un.refl I.hok
theorem Inv.kept {t':Nat} (I:Inv X pins σ H s) (k:∀ b u,s.heap.get? b=some u->h'.get? b=some u):Inv X pins σ H { s with heap:=h',toks:=t' }:=I.un (Un.kept k) (I.hok.kept k)
theorem Inv.laid {a:Addr} {o:HO} {t':Nat} (I:Inv X pins σ H s) (k:∀ b u,s.heap.get? b=some u->h'.get? b=some u) (hp:s.heap.objs.size<=a) (new:zbZ X.prog X.w (upd H a o) h' a o) :
 Inv X pins σ (upd H a o) { s with heap:=h',toks:=t' }:=I.un (Un.laid k hp (I.hok.fresh hp)) (I.hok.laid k hp new)
theorem Inv.write {x e:Addr} {o:HO} {t':Nat} (I:Inv X pins σ H s) (mu:Mut (H x)) (he:e=x\/H e=some (.own x)) (k:∀ b u,b≠e->s.heap.get? b=some u->h'.get? b=some u) (heo:∃ u,h'.get? e=some u)
 (new:zbZ X.prog X.w (upd H x o) h' x o):Inv X pins σ (upd H x o) { s with heap:=h',toks:=t' }:=I.un (Un.write mu he k heo) (I.hok.write mu he k heo new)
theorem Inv.weak {σ':List (Option V)} (I:Inv X pins σ H s) (hl:σ'.length=σ.length) (w:∀ (i:Nat) v,σ'[i]?=some (some v)->σ[i]?=some (some v)):Inv X pins σ' H s :=
 ⟨I.ok,I.os,I.bare,I.base,let ⟨m,hn,hl'⟩:=I.loc; ⟨m,hn,λ i x v e1 e2 e3=>hl' i x v e1 (w i v e2) e3⟩,I.cell,I.free,I.zdT,I.pin,I.hok,hl.trans I.len⟩
theorem Inv.zgZ {pins':List (Addr×Obj)} (I:Inv X pins σ H s) (h:∀ p∈pins',s.heap.get? p.1=some p.2/\H p.1=none/\p.1≠X.env.locals/\p.1∉X.fs/\∀ v,p.2.data≠.cell v):Inv X pins' σ H s :=
 ⟨I.ok,I.os,I.bare,I.base,I.loc,I.cell,I.free,I.zdT,λ p hp=>(List.mem_append.mp hp).elim (λ z=>I.pin p (List.mem_append_left _ z)) (h p),I.hok,I.len⟩
theorem zmC {N:List Str} (hN:N.Nodup) {i j:Nat} {x:Str} (a:N[i]?=some x) (b:N[j]?=some x):i=j:=by
 obtain ⟨h1,e1⟩:=List.getElem?_eq_some_iff.mp a
 obtain ⟨h2,e2⟩:=List.getElem?_eq_some_iff.mp b
 exact (List.getElem_inj hN).mp (e1.trans e2.symm)
theorem zjL {M:Model} {A:Around} {E:Value->Shared->Prop} {i:Nat} {x:Str} {v:V} {u:Value} {Q:Unit->Shared->Prop} (I:Inv X pins σ H s) (hN:X.N.Nodup) (hi:X.N[i]?=some x) (hx:Loc X.env.scope x) (r:RelV v u)
   (h:∀ s',Inv X pins (σ.set i (some v)) H s'->(∃ a,Heap.SameBut a s.heap s'.heap/\(a=X.env.locals\/X.env.cells.lookup x=some a))->Q () s') (hf:X.fn x=true\/X.env.scope.names.lookup x=some .local:=by first | exact .inl rfl | exact .inr rfl | assumption):wpAny M A (storeName X.env x u) Q E s:=by
 obtain ⟨m,hn,hl⟩:=id I.loc
 have hcls:(X.env.scope.kind == .class || (X.env.scope.kind == .module && X.env.locals != X.env.globals))=false:=by rw [I.ok.kind]; rfl
 have hiσ:i < σ.length:=by rw [I.len]; exact (List.getElem?_eq_some_iff.mp hi).1
 have cne:=I.cne
 have tracked:∀ {a:Addr} {h':Heap},(∃ o,s.heap.get? a=some o/\H a=none)->Heap.SameBut a s.heap h'->HOk X.prog X.w H h':=λ {a h'} ha hs b ob e=>by
   obtain ⟨_,_,hfree⟩:=ha
   refine (I.hok b ob e).stay (λ c w' hc q=>(hs.2 c ?_).trans q) (λ _ q=>q) λ _ _ q=>q
   rintro rfl
   rcases hc with rfl | hc
   . rw [hfree] at e; cases e
   . rw [hfree] at hc; cases hc
 rcases hx with hk | hk
 . refine wpAny_storeName_local hk hn (λ h' hn' hs=>?_) hcls
   obtain ⟨oL,_,_,hoL,_⟩:=id hn
   refine h _ ⟨I.ok,I.os,I.bare,⟨λ b o e n hb hx=>?_,λ b o e n hb hx=>?_,I.base.free,λ b o e hx=>?_,I.base.tups,I.base.frzs,I.base.tbls⟩,⟨_,hn',λ j y v' e1 e2 e3=>?_⟩,λ y c e=>?_,I.free,I.zdT,λ p hp=>?_,tracked ⟨oL,hoL,I.free⟩ hs,by simpa using I.len⟩ ⟨_,hs,.inl rfl⟩
   . exact (hs.2 b (Nat.ne_of_lt (Nat.lt_of_lt_of_le (Heap.lt_size e) I.ok.above))).trans (I.base.keep b o e n hb hx)
   . obtain ⟨sl,e1⟩:=I.base.slot b o e n hb hx
     exact ⟨sl,(hs.2 b (Nat.ne_of_lt (Nat.lt_of_lt_of_le (Heap.lt_size e) I.ok.above))).trans e1⟩
   . obtain ⟨o',e1⟩:=I.base.there b o e hx
     exact ⟨o',(hs.2 b (Nat.ne_of_lt (Nat.lt_of_lt_of_le (Heap.lt_size e) I.ok.above))).trans e1⟩
   . by_cases hj:j=i
     . subst hj
       rw [hi] at e1; cases e1
       rw [List.getElem?_set_self hiσ] at e2
       cases e2
       exact ⟨u,r,.inl ⟨hk,by simp⟩⟩
     . rw [List.getElem?_set_ne (Ne.symm hj)] at e2
       obtain ⟨u',r',q⟩:=hl j y v' e1 e2 e3
       refine ⟨u',r',?_⟩
       rcases q with ⟨k,e⟩ | ⟨k,c,e,z⟩
       . refine .inl ⟨k,?_⟩
         have:y≠x:=λ e=>hj (zmC hN e1 (e ▸ hi))
         simp [this,e]
       . exact .inr ⟨k,c,e,z.sameBut hs (cne y c e)⟩
   . obtain ⟨w',z⟩:=I.cell y c e
     exact ⟨w',z.sameBut hs (cne y c e)⟩
   . obtain ⟨e,n,ne,nf,d⟩:=I.pin p hp
     exact ⟨(hs.2 p.1 ne).trans e,n,ne,nf,d⟩
 . have hfn:X.fn x=true:=by
     rcases hf with z | z
     . exact z
     . rw [z] at hk; cases hk
   obtain ⟨c,hc⟩:=I.ok.has x (.inl hk)
   obtain ⟨w',z⟩:=I.cell x c hc
   refine wpAny_storeName_cell I.ok.kind hk hc z (λ h' hc' hs=>?_)
   obtain ⟨oc,hoc,hocd⟩:=id z
   refine h { s with heap:=h' } ⟨I.ok,I.os,I.bare,⟨λ b o e n hb hx=>?_,λ b o e n hb hx=>?_,I.base.free,λ b o e hx=>?_,I.base.tups,I.base.frzs,I.base.tbls⟩,⟨m,hn.sameBut hs (Ne.symm (cne x c hc)),λ j y v' e1 e2 e3=>?_⟩,λ y c' e=>?_,I.free,I.zdT,λ p hp=>?_,tracked ⟨oc,hoc,I.zdT x c hc⟩ hs,by simpa using I.len⟩ ⟨c,hs,.inr hc⟩
   . exact (hs.2 b (Nat.ne_of_lt (Nat.lt_of_lt_of_le (Heap.lt_size e) (I.ok.cab x c hfn hc)))).trans (I.base.keep b o e n hb hx)
   . obtain ⟨sl,e1⟩:=I.base.slot b o e n hb hx
     exact ⟨sl,(hs.2 b (Nat.ne_of_lt (Nat.lt_of_lt_of_le (Heap.lt_size e) (I.ok.cab x c hfn hc)))).trans e1⟩
   . obtain ⟨o',e1⟩:=I.base.there b o e hx
     exact ⟨o',(hs.2 b (Nat.ne_of_lt (Nat.lt_of_lt_of_le (Heap.lt_size e) (I.ok.cab x c hfn hc)))).trans e1⟩
   . by_cases hj:j=i
     . subst hj
       rw [hi] at e1; cases e1
       rw [List.getElem?_set_self hiσ] at e2
       cases e2
       exact ⟨u,r,.inr ⟨.inl hk,c,hc,hc'⟩⟩
     . rw [List.getElem?_set_ne (Ne.symm hj)] at e2
       obtain ⟨u',r',q⟩:=hl j y v' e1 e2 e3
       refine ⟨u',r',?_⟩
       rcases q with q | ⟨k,c',e,z'⟩
       . exact .inl q
       . refine .inr ⟨k,c',e,z'.sameBut hs ?_⟩
         rintro rfl
         exact hj (zmC hN e1 (I.ok.inj _ _ _ e hc ▸ hi))
   . by_cases hcc:c'=c
     . subst hcc; exact ⟨_,hc'⟩
     . obtain ⟨w2,z2⟩:=I.cell y c' e
       exact ⟨w2,z2.sameBut hs hcc⟩
   . obtain ⟨e,n,ne,nf,d⟩:=I.pin p hp
     refine ⟨(hs.2 p.1 ?_).trans e,n,ne,nf,d⟩
     intro q
     rw [q,hoc] at e
     have q':oc=p.2:=Option.some.inj e
     exact d w' (by rw [<-q']; exact hocd)
theorem zmm {M:Model} {A:Around} {E:Value->Shared->Prop} {i:Nat} {x:Str} {v:V} {u:Value} {Q:Unit->Shared->Prop} (I:Inv X pins σ H s) (hN:X.N.Nodup) (hi:X.N[i]?=some x) (hx:Loc X.env.scope x) (r:RelV v u)
  (h:∀ s',Inv X pins (σ.set i (some v)) H s'->Q () s') (hf:X.fn x=true\/X.env.scope.names.lookup x=some .local:=by first | exact .inl rfl | exact .inr rfl | assumption):wpAny M A (storeName X.env x u) Q E s :=
 zjL I hN hi hx r (λ s' I' _=>h s' I') hf
theorem Inv.zrG {s':Shared} {ch:List Addr} (I:Inv X pins σ H s) (ho:s'.os=s.os) (u:Un (frs X.stack) ch H H' s.heap s'.heap) (hok:HOk X.prog X.w H' s'.heap) (hg:AllBare s'.gens)
  (hch:∀ b∈ch,(b∈X.ex\/X.s₀.heap.objs.size<=b)/\b≠X.env.locals/\(∀ x c,X.env.cells.lookup x=some c->c≠b)/\∀ p∈X.pn++pins,p.1≠b):Inv X pins σ H' s':=by
 obtain ⟨h',g',d',t',o'⟩:=s'
 have e:o'=s.os:=ho
 subst e
 exact I.call (g':=g') (t':=t') (d':=d') u hok hg hch
end
abbrev XK:=Value->Option Addr->Hp->Prop
abbrev St:=List (Option V)
abbrev VK:=V->Hp->Prop
abbrev TE:=St->Hp->VK->Prop
abbrev TT:=St->Hp->(Bool->Hp->Prop)->Prop
abbrev TA:=St->Hp->(List V->Hp->Prop)->Prop
structure Ends where
 nx:St->Hp->Prop
 rt:VK
 bk:St->Hp->Prop:=λ _ _=>False
 ct:St->Hp->Prop:=λ _ _=>False
abbrev TS:=Ends->St->Hp->Prop
def EP (X:Cx) (pins:List (Addr×Obj)) (σ:St) (Q:VK) (u:Value) (s':Shared):Prop:=∃ v H',Inv X pins σ H' s'/\RelV v u/\Q v H'
def TP (X:Cx) (pins:List (Addr×Obj)) (σ:St) (Q:Bool->Hp->Prop) (b:Bool) (s':Shared):Prop:=∃ H',Inv X pins σ H' s'/\Q b H'
def AP (X:Cx) (pins:List (Addr×Obj)) (σ:St) (Q:List V->Hp->Prop) (us:List Value) (s':Shared):Prop:=∃ vs H',Inv X pins σ H' s'/\Vals vs us/\Q vs H'
def SP (X:Cx) (pins:List (Addr×Obj)) (D:Ends) (f:Flow) (s':Shared):Prop :=
 match f with
 | .next=>∃ σ' H',Inv X pins σ' H' s'/\D.nx σ' H'
 | .brk=>∃ σ' H',Inv X pins σ' H' s'/\D.bk σ' H'
 | .cont=>∃ σ' H',Inv X pins σ' H' s'/\D.ct σ' H'
 | .ret u=>∃ v σ' H',Inv X pins σ' H' s'/\RelV v u/\D.rt v H'
def PE (X:Cx) (e:Expr) (t:TE):Prop :=
 ∀ (pins:List (Addr×Obj)) (s:Shared) (σ:St) (H:Hp) (Q:VK),Inv X pins σ H s->t σ H Q->wpAny (model X.prog X.w) X.A (eval e X.env) (EP X pins σ Q) X.xe s
def PT (X:Cx) (e:Expr) (t:TT):Prop :=
 ∀ (pins:List (Addr×Obj)) (s:Shared) (σ:St) (H:Hp) (Q:Bool->Hp->Prop),Inv X pins σ H s->t σ H Q->wpAny (model X.prog X.w) X.A (isTrue e X.env (eval e X.env)) (TP X pins σ Q) X.xe s
def PW (X:Cx) (e:Expr) (t:TT):Prop :=
 ∀ (whole:Sem Value) (pins:List (Addr×Obj)) (s:Shared) (σ:St) (H:Hp) (Q:Bool->Hp->Prop),Inv X pins σ H s->t σ H Q->wpAny (model X.prog X.w) X.A (isTrue e X.env whole) (TP X pins σ Q) X.xe s
theorem PW.pt {X:Cx} {e:Expr} {t:TT} (h:PW X e t):PT X e t:=h _
def PA (X:Cx) (es:List Expr) (t:TA):Prop :=
 ∀ (pos:Pos) (pins:List (Addr×Obj)) (s:Shared) (σ:St) (H:Hp) (Q:List V->Hp->Prop),Inv X pins σ H s->t σ H Q->wpAny (model X.prog X.w) X.A (spliced (backTo pos (starEach es X.env))) (AP X pins σ Q) X.xe s
def PS (X:Cx) (st:Stmt) (t:TS):Prop :=
 ∀ (pins:List (Addr×Obj)) (s:Shared) (σ:St) (H:Hp) (D:Ends),Inv X pins σ H s->t D σ H->wpAny (model X.prog X.w) X.A (exec st X.env) (SP X pins D) X.xe s
def PSs (X:Cx) (st:List Stmt) (t:TS):Prop :=
 ∀ (pins:List (Addr×Obj)) (s:Shared) (σ:St) (H:Hp) (D:Ends),Inv X pins σ H s->t D σ H->wpAny (model X.prog X.w) X.A (execs st X.env) (SP X pins D) X.xe s
theorem thn {α:Type} {t:Sem α} {Q Q':α->Shared->Prop} {M:Model} {A:Around} {E:Value->Shared->Prop} {s:Shared} (h:wpAny M A t Q E s) (hQ:∀ a s,Q a s->Q' a s):wpAny M A t Q' E s:=wpAny_mono h hQ λ _ _ x=>x
end L2
namespace L2
open PySem PySem.Spec PyProof.Rows
section
variable {X:Cx}
theorem bin {a b:Expr} {ta tb:TE} (ha:PE X a ta) (hb:PE X b tb) {pins:List (Addr×Obj)} {s:Shared} {σ:St} {H:Hp} {R:V->V->Hp->Prop} (I:Inv X pins σ H s) (h:ta σ H λ x H1=>tb σ H1 λ y H2=>R x y H2)
  {α:Type} {Q:α->Shared->Prop} {f:Value->Value->Sem α}
  (hf:∀ v u s2 x y H2,Inv X pins σ H2 s2->RelV x v->RelV y u->R x y H2->wpAny (model X.prog X.w) X.A (f v u) Q X.xe s2) :
  wpAny (model X.prog X.w) X.A (eval a X.env) (λ v s₁=>wpAny (model X.prog X.w) X.A (eval b X.env) (λ u s₂=>wpAny (model X.prog X.w) X.A (f v u) Q X.xe s₂) X.xe s₁) X.xe s:=by
 refine thn (ha pins s σ H _ I h) λ v s1 ⟨x,H1,I1,r1,q1⟩=>?_
 refine thn (hb pins s1 σ H1 _ I1 q1) λ u s2 ⟨y,H2,I2,r2,q2⟩=>?_
 exact hf v u s2 x y H2 I2 r1 r2 q2
def tVar (i:Nat):TE:=λ σ H Q=>∃ v,σ[i]?=some (some v)/\Q v H
def tC (v:V):TE:=λ _ H Q=>Q v H
theorem zsp {i:Nat} {x:Str} {pos:Pos} (hN:X.N[i]?=some x) (hv:Vis X.env.scope x) (hd:(x == ("__debug__" : Str))=false:=by decide) (hcd:(x == ("__classdict__" : Str))=false:=by decide):PE X (.Name x pos) (tVar i):=by
 intro pins s σ H Q I h
 obtain ⟨v,e,h⟩:=h
 obtain ⟨m,hn,hl⟩:=I.loc
 obtain ⟨u,r,l⟩:=hl i x v hN e hv
 have fin:EP X pins σ Q u s:=⟨v,H,I,r,h⟩
 rcases l with ⟨hk,hm⟩ | ⟨hk,c,hc,hcell⟩
 . exact wpAny_Name (wpAny_loadName_local I.ok.kind hk hn hm fin) hd
 . rcases hk with hk | hk
   . exact wpAny_Name (wpAny_loadName_cell I.ok.kind hk hc hcell fin) hd
   . exact wpAny_Name (wpAny_loadName_free I.ok.kind hk hc hcell fin hcd) hd
theorem zak {i j pos}:PE X (.Constant (.int i) j pos) (tC (.int i)):=λ _ _ _ H _ I h=>wpAny_Constant_int ⟨.int i,H,I.tok _,⟨_,rfl⟩,h⟩
theorem zj6 {b j pos}:PE X (.Constant (.bool b) j pos) (tC (.bl b)):=λ _ _ _ H _ I h=>Constant_bool ⟨.bl b,H,I,rfl,h⟩
theorem zgg {j pos}:PE X (.Constant .none j pos) (tC .non):=λ _ _ _ H _ I h=>Constant_none ⟨.non,H,I,rfl,h⟩
theorem zaQ {x j pos}:PE X (.Constant (.str x) j pos) (tC (.str x)):=λ _ _ _ H _ I h=>Calls.Constant_str ⟨.str x,H,I.tok _,⟨_,rfl⟩,h⟩
def Gl (X:Cx) (x:Str):Prop:=X.env.kindOf x=some .globalImplicit
theorem zfT {E:Value->Shared->Prop} {pins:List (Addr×Obj)} {s:Shared} {σ:St} {H:Hp} {x:Str} {u:Value} {pos:Pos} {Q:Value->Shared->Prop} (I:Inv X pins σ H s) (hg:Gl X x) (hm:X.mg x=some u) (h:Q u s)
  (hd:(x == ("__debug__" : Str))=false:=by decide):wpAny (model X.prog X.w) X.A (eval (.Name x pos) X.env) Q E s :=
 Calls.Name_function_global I.ok.kind hg (Calls.loadGlobal_global (by rw [I.ok.glob]; exact I.mod.glob.keeps I.bk) hm h) hd
theorem zkx {E:Value->Shared->Prop} {pins:List (Addr×Obj)} {s:Shared} {σ:St} {H:Hp} {x:Str} {u:Value} {pos:Pos} {Q:Value->Shared->Prop} (I:Inv X pins σ H s) (hg:Gl X x) (hm:X.mg x=none) (hv:bootBuiltins x=some u) (h:Q u s)
  (hn:x ≠ "__name__" := by decide) (hd:(x == ("__debug__" : Str))=false:=by decide):wpAny (model X.prog X.w) X.A (eval (.Name x pos) X.env) Q E s:=by
 obtain ⟨mb,h1,h2⟩:=I.mod.blt
 exact Calls.Name_function_global I.ok.kind hg (Calls.loadGlobal_builtin (by rw [I.ok.glob]; exact I.mod.glob.keeps I.bk) hm (by rw [I.ok.blt]; exact h1.keeps I.bk) ((h2 x hn).trans hv) h) hd
theorem zol {x:Str} {v:V} {u:Value} {pos:Pos} (hg:Gl X x) (hm:X.mg x=some u) (r:RelV v u) (hd:(x == ("__debug__" : Str))=false:=by decide):PE X (.Name x pos) (tC v) :=
 λ _ _ _ H _ I h=>zfT I hg hm ⟨v,H,I,r,h⟩ hd
theorem zrn {x:Str} {v:V} {u:Value} {pos:Pos} (hg:Gl X x) (hm:X.mg x=none) (hv:bootBuiltins x=some u) (r:RelV v u) (hn:x ≠ "__name__" := by decide) (hd:(x == ("__debug__" : Str))=false:=by decide):PE X (.Name x pos) (tC v) :=
 λ _ _ _ H _ I h=>zkx I hg hm hv ⟨v,H,I,r,h⟩ hn hd
variable {a b:Expr} {ta tb:TE} {pos:Pos}
def PC (X:Cx) (op:CmpOp) (a b:Expr) (t:TE):Prop :=
 ∀ (pins:List (Addr×Obj)) (s:Shared) (σ:St) (H:Hp) (Q:VK),Inv X pins σ H s->t σ H Q ->
  wpAny (model X.prog X.w) X.A (eval a X.env) (λ v s₁=>wpAny (model X.prog X.w) X.A (eval b X.env) (λ u s₂=>wpAny (model X.prog X.w) X.A (compareOp op v u) (EP X pins σ Q) X.xe s₂) X.xe s₁) X.xe s
theorem zmD (b:Expr) {op:CmpOp} (h:op≠.In) (h2:op≠.NotIn):behindInMarks op b=false:=by
 have e1:(op == CmpOp.In)=false:=by cases op <;> first | rfl | exact absurd rfl h
 have e2:(op == CmpOp.NotIn)=false:=by cases op <;> first | rfl | exact absurd rfl h2
 cases b <;> simp [behindInMarks,e1,e2]
def tIsN (ta:TE):TE:=λ σ H Q=>ta σ H λ x H1=>Q (.bl (decide (x=.non))) H1
def zs0 (ta:TE):TE:=λ σ H Q=>ta σ H λ x H1=>Q (.bl (!decide (x=.non))) H1
theorem RelV.zmB {x:V} {v:Value} (r:RelV x v):(v == Value.none)=decide (x=.non):=by
 cases x with
 | non=>cases r; rfl
 | bl _=>cases r; rfl
 | int _=>obtain ⟨t,rfl⟩:=r; rfl
 | str _=>obtain ⟨t,rfl⟩:=r; rfl
 | byt _=>obtain ⟨t,rfl⟩:=r; rfl
 | flt _=>obtain ⟨t,rfl⟩:=r; rfl
 | ref _=>cases r; rfl
 | ty _=>cases r; rfl
theorem zss {j pos'} (ha:PE X a ta):PC X .Is a (.Constant .none j pos') (tIsN ta):=by
 intro pins s σ H Q I h
 refine thn (ha pins s σ H _ I h) λ v s1 ⟨x,H1,I1,r1,q1⟩=>?_
 exact Constant_none (is_none_gen ⟨.bl _,H1,I1,by rw [r1.zmB]; rfl,q1⟩)
theorem zom {j pos'} (ha:PE X a ta):PC X .IsNot a (.Constant .none j pos') (zs0 ta):=by
 intro pins s σ H Q I h
 refine thn (ha pins s σ H _ I h) λ v s1 ⟨x,H1,I1,r1,q1⟩=>?_
 exact Constant_none (isnot_none_gen ⟨.bl _,H1,I1,by rw [r1.zmB]; rfl,q1⟩)
def tB (t:TE):TT:=λ σ H Q=>t σ H λ x H1=>∃ c,x=.bl c/\Q c H1
theorem zsr {op:CmpOp} {t:TE} (h:PC X op a b t) (h1:behindInMarks op b=false:=by first | exact zmD _ (by decide) (by decide) | rfl):PE X (.Compare a [op] [b] pos) t:=λ pins s σ H Q I hw=>wpAny_Compare1 (h pins s σ H Q I hw) h1
theorem zgf {op:CmpOp} {t:TE} (h:PC X op a b t) (h1:behindInMarks op b=false:=by first | exact zmD _ (by decide) (by decide) | rfl):PT X (.Compare a [op] [b] pos) (tB t):=by
 intro pins s σ H Q I hw
 refine wpAny_isTrue_Compare1 (thn (h pins s σ H _ I hw) λ v s1 h1=>thn h1 λ u s2 h2=>thn h2 λ c s3 ⟨x,H1,I1,r1,q1⟩=>?_) h1
 obtain ⟨d,rfl,q⟩:=q1
 cases r1
 exact wpAny_truthy_bool ⟨H1,I1,q⟩
theorem zj3 {e:Expr} {t:TE} (h:PE X e t) (he:∀ whole,isTrue e X.env whole=(do let v <-whole; standAt e.pos; holding [v] (truthy v)):=by intro _; rfl):PT X e (tB t):=by
 intro pins s σ H Q I hw
 refine isTrue_plain (thn (h pins s σ H _ I hw) λ v s1 ⟨x,H1,I1,r1,q1⟩=>?_) (he _)
 obtain ⟨d,rfl,q⟩:=q1
 cases r1
 exact wpAny_truthy_bool ⟨H1,I1,q⟩
variable {tA tB':TT} {rest:List Expr}
def tAnd (t u:TT):TT:=λ σ H Q=>t σ H λ c H1=>if c=true then u σ H1 Q else Q false H1
def tOr (t u:TT):TT:=λ σ H Q=>t σ H λ c H1=>if c=true then Q true H1 else u σ H1 Q
def tNot (t:TT):TT:=λ σ H Q=>t σ H λ c H1=>Q (!c) H1
theorem ziV (ha:PT X a tA):PW X (.BoolOp .And [a] pos) tA:=by
 intro wh pins s σ H Q I h
 refine isTrue_and (thn (ha pins s σ H Q I h) λ c s1 e=>?_)
 cases c with
 | true=>exact isTrue_and_nil e
 | false=>exact e
theorem zoh (ha:PT X a tA):PW X (.BoolOp .Or [a] pos) tA:=by
 intro wh pins s σ H Q I h
 refine isTrue_or (thn (ha pins s σ H Q I h) λ c s1 e=>?_)
 cases c with
 | false=>exact isTrue_or_nil e
 | true=>exact e
theorem zms (ha:PT X a tA) (hb:PW X (.BoolOp .And (b::rest) pos) tB'):PW X (.BoolOp .And (a::b::rest) pos) (tAnd tA tB'):=by
 intro wh pins s σ H Q I h
 refine isTrue_and (thn (ha pins s σ H _ I h) λ c s1 ⟨H1,I1,q1⟩=>?_)
 cases c with
 | true=>exact hb wh pins s1 σ H1 Q I1 q1
 | false=>exact ⟨H1,I1,q1⟩
theorem zpJ (ha:PT X a tA) (hb:PW X (.BoolOp .Or (b::rest) pos) tB'):PW X (.BoolOp .Or (a::b::rest) pos) (tOr tA tB'):=by
 intro wh pins s σ H Q I h
 refine isTrue_or (thn (ha pins s σ H _ I h) λ c s1 ⟨H1,I1,q1⟩=>?_)
 cases c with
 | true=>exact ⟨H1,I1,q1⟩
 | false=>exact hb wh pins s1 σ H1 Q I1 q1
theorem zqr (ha:PT X a tA):PT X (.UnaryOp .Not a pos) (tNot tA):=by
 intro pins s σ H Q I h
 exact isTrue_not (ha pins s σ H (λ c H1=>Q (!c) H1) I h)
def zs4 (ta tb:TE):TE:=λ σ H Q=>ta σ H λ x H1=>∃ c,x=.bl c/\if c=true then tb σ H1 Q else Q (.bl false) H1
def tOrV (ta tb:TE):TE:=λ σ H Q=>ta σ H λ x H1=>∃ c,x=.bl c/\if c=true then Q (.bl true) H1 else tb σ H1 Q
def zsZ (ta:TE):TE:=λ σ H Q=>ta σ H λ x H1=>∃ c,x=.bl c/\Q (.bl (!c)) H1
theorem zim {op} {t:TE} (h:PE X a t):PE X (.BoolOp op [a] pos) t:=λ pins s σ H Q I hw=>BoolOp_one (h pins s σ H Q I hw)
theorem zmy (ha:PE X a ta) (hb:PE X (.BoolOp .And (b::rest) pos) tb):PE X (.BoolOp .And (a::b::rest) pos) (zs4 ta tb):=by
 intro pins s σ H Q I h
 refine BoolOp_and (thn (ha pins s σ H _ I h) λ v s1 ⟨x,H1,I1,r1,q1⟩=>?_)
 obtain ⟨c,rfl,q1⟩:=q1
 cases r1
 refine wpAny_truthy_bool ?_
 cases c with
 | true=>exact hb pins s1 σ H1 Q I1 q1
 | false=>exact ⟨.bl false,H1,I1,rfl,q1⟩
theorem zsq (ha:PE X a ta) (hb:PE X (.BoolOp .Or (b::rest) pos) tb):PE X (.BoolOp .Or (a::b::rest) pos) (tOrV ta tb):=by
 intro pins s σ H Q I h
 refine BoolOp_or (thn (ha pins s σ H _ I h) λ v s1 ⟨x,H1,I1,r1,q1⟩=>?_)
 obtain ⟨c,rfl,q1⟩:=q1
 cases r1
 refine wpAny_truthy_bool ?_
 cases c with
 | false=>exact hb pins s1 σ H1 Q I1 q1
 | true=>exact ⟨.bl true,H1,I1,rfl,q1⟩
theorem zqs (ha:PE X a ta):PE X (.UnaryOp .Not a pos) (zsZ ta):=by
 intro pins s σ H Q I h
 refine UnaryOp_ (thn (ha pins s σ H _ I h) λ v s1 ⟨x,H1,I1,r1,q1⟩=>?_)
 obtain ⟨c,rfl,q1⟩:=q1
 cases r1
 exact not_of (wpAny_truthy_bool ⟨.bl (!c),H1,I1,rfl,q1⟩)
end
end L2
namespace L2
open PySem PySem.Spec PyProof.Rows
def SqL (K:PySem.W.Frag) (H:Hp) (a:Addr) (xs:List V):Prop :=
 Rd H a (.lst xs) \/
  ∃ (o:Obj) (its:Array Value) (n:Nat),K.lookup a=some o/\o.cls=.type "list" /\ o.dict=none/\o.data=.seq its n/\its.size<=sizeLine/\Vals xs its.toList
def SqT (K:PySem.W.Frag) (H:Hp) (a:Addr) (xs:List V):Prop :=
 Rd H a (.tup xs) \/
  ∃ (o:Obj) (its:Array Value) (n:Nat),K.lookup a=some o/\o.cls=.type "tuple" /\ o.data=.seq its n/\its.size<=sizeLine/\Vals xs its.toList
def absV:Value->Option V
 | .none=>some .non
 | .bool b=>some (.bl b)
 | .int i _=>some (.int i)
 | .str x _=>some (.str x)
 | .bytes b _=>some (.byt b)
 | .float b _=>some (.flt b)
 | .ref a=>some (.ref a)
 | .type n=>some (.ty n)
 | _=>none
theorem RelV.abs {x:V} {u:Value} (r:RelV x u):absV u=some x:=by
 cases x with
 | non=>cases r; rfl
 | bl _=>cases r; rfl
 | int _=>obtain ⟨t,rfl⟩:=r; rfl
 | str _=>obtain ⟨t,rfl⟩:=r; rfl
 | byt _=>obtain ⟨t,rfl⟩:=r; rfl
 | flt _=>obtain ⟨t,rfl⟩:=r; rfl
 | ref _=>cases r; rfl
 | ty _=>cases r; rfl
theorem RelV.inj {x y:V} {u:Value} (r:RelV x u) (q:RelV y u):x=y:=Option.some.inj (r.abs.symm.trans q.abs)
theorem Vals.inj:∀ {xs ys:List V} {us:List Value},Vals xs us->Vals ys us->xs=ys
 | _,_,_,.nil,.nil=>rfl
 | _,_,_,.cons r t,.cons r' t'=>by rw [r.inj r',Vals.inj t t']
section
variable {X:Cx} {pins:List (Addr×Obj)} {σ:St} {H:Hp} {s:Shared} {a:Addr} {xs ys:List V}
theorem SqL.of {K:PySem.W.Frag} (h:H a=some (.lst xs)):SqL K H a xs:=.inl (.inl h)
theorem SqT.of {K:PySem.W.Frag} (h:H a=some (.tup xs)):SqT K H a xs:=.inl (.inl h)
theorem Inv.list (I:Inv X pins σ H s) (h:SqL X.K H a xs):∃ its:List Value,Vals xs its/\PlainL s.heap a its.toArray/\xs.length<=sizeLine:=by
 rcases h with h | ⟨o,its,n,hk,hc,hd,hs,hz,r⟩
 . obtain ⟨z,its,n,r,e⟩:=h.ok I.hok
   exact ⟨its,r,⟨_,n,e,rfl,rfl,rfl⟩,z⟩
 . refine ⟨its.toList,r,⟨o,n,I.kIn a o hk,hc,hd,by simpa using hs⟩,?_⟩
   have e:=r.length
   simp only [Array.length_toList] at e
   omega
theorem Inv.tuple (I:Inv X pins σ H s) (h:SqT X.K H a xs):∃ its:List Value,Vals xs its/\IsTup s.heap a its.toArray/\xs.length<=sizeLine:=by
 rcases h with h | ⟨o,its,n,hk,hc,hs,hz,r⟩
 . obtain ⟨z,its,r,p⟩:=h.ok I.hok
   exact ⟨its,r,p,z⟩
 . refine ⟨its.toList,r,⟨o,I.kIn a o hk,hc,n,by simpa using hs⟩,?_⟩
   have e:=r.length
   simp only [Array.length_toList] at e
   omega
theorem Inv.zmH (I:Inv X pins σ H s) (h:SqL X.K H a xs) (h':SqL X.K H a ys):xs=ys:=by
 obtain ⟨its,r,⟨o,n,e,_,_,d⟩,_⟩:=I.list h
 obtain ⟨its',r',⟨o',n',e',_,_,d'⟩,_⟩:=I.list h'
 rw [e] at e'; cases e'
 rw [d] at d'
 injection d' with d1 _
 have:its=its':=by simpa using congrArg Array.toList d1
 subst this
 exact r.inj r'
theorem Inv.znV (I:Inv X pins σ H s) (h:SqT X.K H a xs) (h':SqT X.K H a ys):xs=ys:=by
 obtain ⟨its,r,⟨o,e,_,n,d⟩,_⟩:=I.tuple h
 obtain ⟨its',r',⟨o',e',_,n',d'⟩,_⟩:=I.tuple h'
 rw [e] at e'; cases e'
 rw [d] at d'
 injection d' with d1 _
 have:its=its':=by simpa using congrArg Array.toList d1
 subst this
 exact r.inj r'
end
abbrev Cx.wish (X:Cx) (E:Value->Shared->Prop):Cx:={ X with xe:=E }
abbrev Cx.nox (X:Cx):Cx:=X.wish λ _ _=>False
theorem Cx.Ok.wish {X:Cx} (ok:X.Ok) (E:Value->Shared->Prop):(X.wish E).Ok :=
 ⟨ok.mod,ok.kind,ok.glob,ok.blt,ok.above,ok.inj,ok.has,ok.cab,ok.hd,ok.frames,ok.stk,ok.exf,ok.bs,ok.bsz,ok.noex,ok.exfs,ok.funs,ok.frf⟩
theorem Cx.Ok.zfa {X:Cx} {E:Value->Shared->Prop} (ok:(X.wish E).Ok):X.Ok :=
 ⟨ok.mod,ok.kind,ok.glob,ok.blt,ok.above,ok.inj,ok.has,ok.cab,ok.hd,ok.frames,ok.stk,ok.exf,ok.bs,ok.bsz,ok.noex,ok.exfs,ok.funs,ok.frf⟩
section
variable {X:Cx} {pins:List (Addr×Obj)} {σ:St} {H:Hp} {s:Shared} {E:Value->Shared->Prop}
theorem Inv.wish (I:Inv X pins σ H s) (E:Value->Shared->Prop):Inv (X.wish E) pins σ H s:=⟨I.ok.wish E,I.os,I.bare,I.base,I.loc,I.cell,I.free,I.zdT,I.pin,I.hok,I.len⟩
theorem Inv.zfa (I:Inv (X.wish E) pins σ H s):Inv X pins σ H s:=⟨I.ok.zfa,I.os,I.bare,I.base,I.loc,I.cell,I.free,I.zdT,I.pin,I.hok,I.len⟩
theorem SP.zfa {D:Ends} {f:Flow} {s':Shared} (h:SP (X.wish E) pins D f s'):SP X pins D f s':=by
 cases f with
 | next=>obtain ⟨σ',H',I,q⟩:=h; exact ⟨σ',H',I.zfa,q⟩
 | brk=>obtain ⟨σ',H',I,q⟩:=h; exact ⟨σ',H',I.zfa,q⟩
 | cont=>obtain ⟨σ',H',I,q⟩:=h; exact ⟨σ',H',I.zfa,q⟩
 | ret u=>obtain ⟨v,σ',H',I,r,q⟩:=h; exact ⟨v,σ',H',I.zfa,r,q⟩
theorem PSs.nox {st:List Stmt} {t:TS} (h:PSs X.nox st t):PSs X st t:=λ pins s σ H D I hw =>
 wpAny_mono (h pins s σ H D (I.wish _) hw) (λ _ _ q=>q.zfa) λ _ _ z=>False.elim z
end
section
variable {X:Cx} {st:Stmt} {rest:List Stmt} {t u:TS} {e:Expr} {te:TE} {pos:Pos}
def zqV:TS:=λ D σ H=>D.nx σ H
def tSeq (t u:TS):TS:=λ D σ H=>t { D with nx:=u D } σ H
theorem zaR:PSs X [] zqV:=λ _ _ σ H _ I h=>wpAny_execs_nil ⟨σ,H,I,h⟩
theorem zac (h1:PS X st t) (h2:PSs X rest u):PSs X (st::rest) (tSeq t u):=by
 intro pins s σ H D I h
 refine wpAny_execs_cons (thn (h1 pins s σ H { D with nx:=u D } I h) λ f s1 q=>?_)
 cases f with
 | next =>
  obtain ⟨σ',H',I',q⟩:=q
  exact h2 pins s1 σ' H' D I' q
 | ret v=>exact q
 | brk=>exact q
 | cont=>exact q
theorem zah (h1:PS X st t):PSs X [st] t:=by
 intro pins s σ H D I h
 refine wpAny_execs_cons (thn (h1 pins s σ H D I h) λ f s1 q=>?_)
 cases f with
 | next=>exact wpAny_execs_nil q
 | ret v=>exact q
 | brk=>exact q
 | cont=>exact q
theorem Inv.quiet {pins:List (Addr×Obj)} {σ:St} {H:Hp} {s:Shared} (I:Inv X pins σ H s):interactive X.env=false:=by simp [interactive,I.ok.kind]
def zs1 (te:TE):TS:=λ D σ H=>te σ H λ _ H1=>D.nx σ H1
theorem zaG (he:PE X e te) (hs:swapsWith e none pos.line X.env=pure false:=by rfl):PS X (.Expr e pos) (zs1 te):=by
 intro pins s σ H D I h
 exact wpAny_Expr_any (thn (he pins s σ H _ I h) λ v s1 ⟨x,H1,I1,r1,q1⟩=>⟨σ,H1,I1,q1⟩) I.quiet hs
def tRet (te:TE):TS:=λ D σ H=>te σ H D.rt
theorem zaw (he:PE X e te):PS X (.Return (some e) pos) (tRet te):=by
 intro pins s σ H D I h
 exact wpAny_Return_some (thn (he pins s σ H _ I h) λ v s1 ⟨x,H1,I1,r1,q1⟩=>⟨x,σ,H1,I1,r1,q1⟩)
def tIfS (c:TT) (t u:TS):TS:=λ D σ H=>c σ H λ b H1=>if b=true then t D σ H1 else u D σ H1
theorem zbC {c:Expr} {a b:List Stmt} {tc:TT} (hc:PT X c tc) (ha:PSs X a t) (hb:PSs X b u):PS X (.If c a b pos) (tIfS tc t u):=by
 intro pins s σ H D I h
 refine wpAny_If (thn (hc pins s σ H _ I h) λ d s1 ⟨H1,I1,q1⟩=>?_)
 cases d with
 | true=>exact ha pins s1 σ H1 D I1 q1
 | false=>exact hb pins s1 σ H1 D I1 q1
end
abbrev TG:=V->St->Hp->(St->Hp->Prop)->Prop
abbrev TGs:=List V->St->Hp->(St->Hp->Prop)->Prop
def PG (X:Cx) (target:Expr) (t:TG):Prop :=
 ∀ (pins:List (Addr×Obj)) (s:Shared) (σ:St) (H:Hp) (v:V) (u:Value) (Q:St->Hp->Prop),Inv X pins σ H s->RelV v u->t v σ H Q ->
  wpAny (model X.prog X.w) X.A (assign target X.env u) (λ _ s'=>∃ σ' H',Inv X pins σ' H' s'/\Q σ' H') X.xe s
def PGs (X:Cx) (ts:List Expr) (t:TGs):Prop :=
 ∀ (pins:List (Addr×Obj)) (s:Shared) (σ:St) (H:Hp) (vs:List V) (us:List Value) (Q:St->Hp->Prop),Inv X pins σ H s->Vals vs us->t vs σ H Q ->
  wpAny (model X.prog X.w) X.A (assignInOrder ((assignEach ts X.env).map (·.2)) us) (λ _ s'=>∃ σ' H',Inv X pins σ' H' s'/\Q σ' H') X.xe s
section
variable {X:Cx} {pos:Pos}
def zqd (i:Nat):TG:=λ v σ H Q=>Q (σ.set i (some v)) H
theorem zaU {i:Nat} {x:Str} (hN:X.N.Nodup) (hi:X.N[i]?=some x) (hx:Loc X.env.scope x) (hf:X.fn x=true\/X.env.scope.names.lookup x=some .local:=by first | exact .inl rfl | exact .inr rfl | assumption):PG X (.Name x pos) (zqd i):=by
 intro pins s σ H v u Q I r h
 exact wpAny_assign_Name (zmm I hN hi hx r (λ s' I'=>⟨_,H,I',h⟩) hf)
def gNil:TGs:=λ vs σ H Q=>vs=[]/\Q σ H
def ztm (t:TG) (u:TGs):TGs:=λ vs σ H Q=>∃ v r,vs=v::r/\t v σ H λ σ' H'=>u r σ' H' Q
theorem zg3:PGs X [] gNil:=by
 intro pins s σ H vs us Q I r h
 obtain ⟨e,h⟩:=h
 subst e
 cases r
 exact assignInOrder_nil ⟨σ,H,I,h⟩
theorem zbW {e:Expr} {es:List Expr} {t:TG} {u:TGs} (h1:PG X e t) (h2:PGs X es u)
  (hs:(assignEach (e::es) X.env).map (·.2)=assign e X.env::(assignEach es X.env).map (·.2):=by rfl):PGs X (e::es) (ztm t u):=by
 intro pins s σ H vs us Q I r h
 obtain ⟨v,vr,e1,h⟩:=h
 subst e1
 cases r with
 | cons r rr =>
  rw [hs]
  refine assignInOrder_cons (thn (h1 pins s σ H _ _ _ I r h) λ _ s1 ⟨σ1,H1,I1,q1⟩=>?_)
  exact h2 pins s1 σ1 H1 _ _ Q I1 rr q1
def gTup (K:PySem.W.Frag) (n:Nat) (t:TGs):TG:=λ v σ H Q=>∃ a xs,v=.ref a/\SqT K H a xs/\xs.length=n/\t xs σ H Q
theorem zmv {es:List Expr} {k:Nat} {t:TGs} {n:Nat} (hc:X.calm=true) (h:PGs X es t)
  (hn:(assignEach es X.env).length=n:=by rfl) (hst:(assignEach es X.env).findIdx? (·.1)=none:=by rfl):PG X (.Tuple es k pos) (gTup X.K n t):=by
 intro pins s σ H v u Q I r hw
 obtain ⟨a,xs,e1,hq,hl,hw⟩:=hw
 subst e1
 cases r
 obtain ⟨its,rv,ht,hz⟩:=I.tuple hq
 refine assign_Tuple_tuple (I.ok.hd hc) ht (by simp [hn,<-hl,rv.length]) hst λ h' hx=>?_
 have I1:Inv X pins σ H { s with heap:=h' }:=I.kept (t':=s.toks) λ b o e=>hx b o (Nat.ne_of_lt (Heap.lt_size e)) e
 exact h pins _ σ H xs _ Q I1 (by simpa using rv) hw
def tAsg (te:TE) (g:TG):TS:=λ D σ H=>te σ H λ x H1=>g x σ H1 D.nx
theorem zaI {i:Nat} {x:Str} {e:Expr} {te:TE} {pos':Pos} (hN:X.N.Nodup) (hi:X.N[i]?=some x) (hx:Loc X.env.scope x) (he:PE X e te) (hs:swapsWith e (some (.Name x pos')) pos.line X.env=pure false:=by rfl) (hf:X.fn x=true\/X.env.scope.names.lookup x=some .local:=by first | exact .inl rfl | exact .inr rfl | assumption) :
  PS X (.Assign [.Name x pos'] e pos) (tAsg te (zqd i)):=by
 intro pins s σ H D I h
 refine wpAny_Assign_Name (thn (he pins s σ H _ I h) λ v s1 ⟨y,H1,I1,r1,q1⟩=>?_) hs
 exact zmm I1 hN hi hx r1 (λ s2 I2=>⟨_,H1,I2,q1⟩) hf
end
section
variable {X:Cx} {pos:Pos}
def zrS (c:TT) (tb:TS):TS:=λ D σ H=>∃ W:Nat->St->Hp->Prop,(∃ m,W m σ H)/\∀ m σ H,W m σ H ->
 c σ H λ b H1=>if b=true then ∃ N:St->Hp->Prop,(∀ σ' H',N σ' H'->∃ m',m' < m/\W m' σ' H')/\tb { D with nx:=N,ct:=N,bk:=D.nx } σ H1 else D.nx σ H1
theorem zgD {c:Expr} {body:List Stmt} {tc:TT} {tb:TS} (hp:PassesOwn (model X.prog X.w) X.A X.env X.xe) (hc:PT X c tc) (hb:PSs X body tb):PS X (.While c body [] pos) (zrS tc tb):=by
 intro pins s σ H D I h
 obtain ⟨W,⟨m0,w0⟩,turn⟩:=h
 refine wpAny_While (codeAny_whileLoop (λ n s'=>∃ σ' H',Inv X pins σ' H' s'/\W n σ' H') ?_ m0 ⟨σ,H,I,w0⟩)
 rintro n s1 ⟨σ1,H1,I1,w1⟩
 refine wpAny_passesOwn hp (thn (hc pins s1 σ1 H1 _ I1 (turn n σ1 H1 w1)) λ b s2 ⟨H2,I2,q2⟩=>?_)
 cases b with
 | true =>
  obtain ⟨N,hN,q2⟩:=q2
  rw [if_pos rfl]
  refine wpAny_passesOwn hp (thn (hb pins s2 σ1 H2 _ I2 q2) λ f s3 q3=>?_)
  cases f with
  | next =>
   obtain ⟨σ3,H3,I3,n3⟩:=q3
   obtain ⟨m',hm,w3⟩:=hN σ3 H3 n3
   exact ⟨m',hm,σ3,H3,I3,w3⟩
  | cont =>
   obtain ⟨σ3,H3,I3,n3⟩:=q3
   obtain ⟨m',hm,w3⟩:=hN σ3 H3 n3
   exact ⟨m',hm,σ3,H3,I3,w3⟩
  | brk=>exact q3
  | ret v=>exact q3
 | false =>
  rw [if_neg Bool.false_ne_true]
  exact wpAny_execs_nil ⟨σ1,H2,I2,q2⟩
end
structure It where
 go:Nat->Hp->Prop
 yld:Nat->Hp->V->Hp->Prop
 stop:Nat->Hp->Prop
def FpOk (X:Cx) (pins:List (Addr×Obj)) (H:Hp) (b:Addr):Prop :=
 H b=none/\b≠X.env.locals/\b∉X.fs/\(b∈X.ex\/X.s₀.heap.objs.size<=b)/\(∀ x c,X.env.cells.lookup x=some c->c≠b)/\∀ p∈X.pn++pins,p.1≠b
theorem Inv.fpOk {X:Cx} {pins:List (Addr×Obj)} {σ:St} {H H':Hp} {s:Shared} {b:Addr} (I:Inv X pins σ H s) (hb:s.heap.objs.size<=b) (hn:H' b=none):FpOk X pins H' b:=by
 refine ⟨hn,Nat.ne_of_gt (Nat.lt_of_lt_of_le I.lt hb),I.nofs hb,.inr (Nat.le_trans I.sz hb),λ x c e z=>?_,λ p hp z=>?_⟩
 . obtain ⟨v,q⟩:=I.cell x c e
   exact absurd (Nat.lt_of_lt_of_le q.lt (by rw [z]; exact hb)) (Nat.lt_irrefl _)
 . exact absurd (Nat.lt_of_lt_of_le (Heap.lt_size (I.pin p hp).1) (by rw [z]; exact hb)) (Nat.lt_irrefl _)
structure Turn (P:Program) (w:World) (K:PySem.W.Frag) (tg:Expr) (J:It) (fp:List Addr) (it:Addr) (tn:Nat->Heap->Prop):Prop where
 mem:it∈fp
 obj:∀ i h,tn i h->∀ b∈fp,∃ o,h.get? b=some o/\∀ v,o.data≠.cell v
 keep:∀ i h h',tn i h->(∀ b∈fp,∀ o,h.get? b=some o->h'.get? b=some o)->tn i h'
 item:∀ (X:Cx),X.prog=P->X.w=w->X.K=K->X.calm=true->∀ (i:Nat) (pins:List (Addr×Obj)) (s:Shared) (σ:St) (H:Hp) (E:Value->Shared->Prop),Inv X pins σ H s->(∀ b∈fp,FpOk X pins H b)->tn i s.heap->J.go i H ->
  wpAny (model P w) X.A (pyNext (.ref it)) (λ r s1=>∃ u,r=some u /\
   wpAny (model P w) X.A (letOwnedTupleGo tg (.ref it) u) (λ _ s2=>∃ x H',Inv X pins σ H' s2/\RelV x u/\J.yld i H x H'/\tn (i+1) s2.heap/\∀ b∈fp,H' b=none) E s1) E s
 done:∀ (X:Cx),X.prog=P->X.w=w->X.K=K->X.calm=true->∀ (i:Nat) (pins:List (Addr×Obj)) (s:Shared) (σ:St) (H:Hp) (E:Value->Shared->Prop),Inv X pins σ H s->(∀ b∈fp,FpOk X pins H b)->tn i s.heap->J.stop i H ->
  wpAny (model P w) X.A (pyNext (.ref it)) (λ r s1=>r=none/\Inv X pins σ H s1) E s
 self:∀ (A:Around) (i:Nat) (s:Shared) (Q:Value->Shared->Prop) (E:Value->Shared->Prop),tn i s.heap->Q (.ref it) s->wpAny (model P w) A (pyIter (.ref it)) Q E s
abbrev TI:=St->Hp->(It->Hp->Prop)->Prop
def PIE (X:Cx) (pins:List (Addr×Obj)) (σ:St) (tg:Expr) (R:It->Hp->Prop) (itv:Value) (s2:Shared):Prop :=
 ∃ (it:Addr) (fp:List Addr) (tn:Nat->Heap->Prop) (J:It) (H':Hp),itv=.ref it/\Inv X pins σ H' s2/\Turn X.prog X.w X.K tg J fp it tn/\tn 0 s2.heap/\(∀ b∈fp,FpOk X pins H' b)/\R J H'
def PI (X:Cx) (tg iter:Expr) (wi:TI):Prop :=
 ∀ (pins:List (Addr×Obj)) (s:Shared) (σ:St) (H:Hp) (R:It->Hp->Prop),Inv X pins σ H s->wi σ H R ->
  wpAny (model X.prog X.w) X.A (eval iter X.env) (λ v s1=>wpAny (model X.prog X.w) X.A (pyIter v) (PIE X pins σ tg R) X.xe s1) X.xe s
theorem zoW {M:Model} {A:Around} {E:Value->Shared->Prop} {s:Shared} {tg:Expr} {it:Addr} {u:Value} {o:Obj} {n:String} {vs:Array Value} {Q:Unit->Shared->Prop} (ho:s.heap.get? it=some o) (hc:o.cls=.type n) (hd:o.data=.fields vs)
    (hn:["enumerate","zip","dict_itemiterator","dict_reverseitemiterator","odict_iterator","itertools.zip_longest","itertools.pairwise"].contains n=false) (hQ:Q () s):wpAny M A (letOwnedTupleGo tg (.ref it) u) Q E s:=by
  unfold letOwnedTupleGo
  cases tg <;> first
    | exact wpAny_pure hQ
    | (cases u <;> first
        | exact wpAny_pure hQ
        | (refine wpAny_bind (wpAny_load ho ?_)
           rw [hc,hd]
           show wpAny M A (if (["enumerate","zip","dict_itemiterator","dict_reverseitemiterator","odict_iterator","itertools.zip_longest","itertools.pairwise"].contains n && vs[0]? == some (rawInt _))=true then _ else _) Q E s
           rw [if_neg (by intro h; rw [hn,Bool.false_and] at h; cases h)]
           exact wpAny_pure hQ))
def Itl (K:PySem.W.Frag) (a:Addr):It :=
 ⟨λ i H=>∃ xs x,SqL K H a xs/\xs[i]?=some x,λ i H x H'=>H'=H/\∀ xs,SqL K H a xs->xs[i]?=some x,λ i H=>∃ xs,SqL K H a xs/\xs.length<=i⟩
def Itt (K:PySem.W.Frag) (a:Addr):It :=
 ⟨λ i H=>∃ xs x,SqT K H a xs/\xs[i]?=some x,λ i H x H'=>H'=H/\∀ xs,SqT K H a xs->xs[i]?=some x,λ i H=>∃ xs,SqT K H a xs/\xs.length<=i⟩
def Itr (lo:Int) (n:Nat):It:=⟨λ i _=>i < n,λ i H x H'=>H'=H/\x=.int (lo+i),λ i _=>n<=i⟩
theorem znT {P:Program} {w:World} {K:PySem.W.Frag} {tg:Expr} (a it:Addr):Turn P w K tg (Itl K a) [it] it (λ i h=>h.IsListIter it a i) where
 mem:=by simp
 obj:=λ i h st b hb=>by
  have e:b=it:=by simpa using hb
  subst e
  obtain ⟨o,e,c,d⟩:=st
  exact ⟨o,e,λ v z=>by rw [d] at z; cases z⟩
 keep:=λ i h h' st k=>st.at λ o e=>k it (by simp) o e
 item:=by
  intro X hP hw hK hc i pins s σ H E I hf st hg
  subst hP hw hK
  obtain ⟨xs,x,hq,hx⟩:=hg
  obtain ⟨its,rv,p,hz⟩:=I.list hq
  obtain ⟨u,hu,ru⟩:=rv.get hx
  obtain ⟨f0,f1,f2,f3,f4,f5⟩:=hf it (by simp)
  refine wpAny_pyNext_list_item st p.isList (x:=u) (by simpa using hu) λ h' st' sb=>?_
  have I1:Inv X pins σ H { s with heap:=h' }:=I.turned (t':=s.toks) (λ b o hb e=>(sb.2 b hb).trans e) f0 f1 f3 f4 f5
  obtain ⟨o,e,c,d⟩:=id st'
  exact ⟨u,rfl,zoW (s:={ s with heap:=h' }) e c d (by decide) ⟨x,H,I1,ru,⟨rfl,λ ys hy=>by rw [I.zmH hy hq]; exact hx⟩,st',λ b hb=>(hf b hb).1⟩⟩
 done:=by
  intro X hP hw hK hc i pins s σ H E I hf st hg
  subst hP hw hK
  obtain ⟨xs,hq,hx⟩:=hg
  obtain ⟨its,rv,p,hz⟩:=I.list hq
  obtain ⟨f0,f1,f2,f3,f4,f5⟩:=hf it (by simp)
  have hl:=rv.length
  exact wpAny_pyNext_list_end (I.ok.hd hc) st p.isList (by simp; omega) λ h' eb=>⟨rfl,I.turned (t':=s.toks) (λ b o hb e=>eb b o hb e) f0 f1 f3 f4 f5⟩
 self:=λ _ _ _ _ _ st h=>wpAny_pyIter_listiter st h
theorem zm5 {P:Program} {w:World} {K:PySem.W.Frag} {tg:Expr} (a it:Addr):Turn P w K tg (Itt K a) [it] it (λ i h=>h.IsTupleIter it a i) where
 mem:=by simp
 obj:=λ i h st b hb=>by
  have e:b=it:=by simpa using hb
  subst e
  obtain ⟨o,e,c,d⟩:=st
  exact ⟨o,e,λ v z=>by rw [d] at z; cases z⟩
 keep:=λ i h h' st k=>st.at λ o e=>k it (by simp) o e
 item:=by
  intro X hP hw hK hc i pins s σ H E I hf st hg
  subst hP hw hK
  obtain ⟨xs,x,hq,hx⟩:=hg
  obtain ⟨its,rv,p,hz⟩:=I.tuple hq
  obtain ⟨u,hu,ru⟩:=rv.get hx
  obtain ⟨f0,f1,f2,f3,f4,f5⟩:=hf it (by simp)
  refine wpAny_pyNext_tuple_item st (show s.heap.IsTuple a its.toArray from p) (x:=u) (by simpa using hu) λ h' st' sb=>?_
  have I1:Inv X pins σ H { s with heap:=h' }:=I.turned (t':=s.toks) (λ b o hb e=>(sb.2 b hb).trans e) f0 f1 f3 f4 f5
  obtain ⟨o,e,c,d⟩:=id st'
  exact ⟨u,rfl,zoW (s:={ s with heap:=h' }) e c d (by decide) ⟨x,H,I1,ru,⟨rfl,λ ys hy=>by rw [I.znV hy hq]; exact hx⟩,st',λ b hb=>(hf b hb).1⟩⟩
 done:=by
  intro X hP hw hK hc i pins s σ H E I hf st hg
  subst hP hw hK
  obtain ⟨xs,hq,hx⟩:=hg
  obtain ⟨its,rv,p,hz⟩:=I.tuple hq
  obtain ⟨f0,f1,f2,f3,f4,f5⟩:=hf it (by simp)
  have hl:=rv.length
  exact wpAny_pyNext_tuple_end (I.ok.hd hc) st (show s.heap.IsTuple a its.toArray from p) (by simp; omega) λ h' eb=>⟨rfl,I.turned (t':=s.toks) (λ b o hb e=>eb b o hb e) f0 f1 f3 f4 f5⟩
 self:=λ _ _ _ _ _ st h=>wpAny_pyIter_tupleiter st h
theorem zm6 {P:Program} {w:World} {K:PySem.W.Frag} {tg:Expr} (it:Addr) (lo:Int) (n:Nat):Turn P w K tg (Itr lo n) [it] it (λ i h=>IsRangeIter h it (lo+(i:Nat) * 1) ((n:Int) - (i:Nat)) 1) where
 mem:=by simp
 obj:=λ i h st b hb=>by
  have e:b=it:=by simpa using hb
  subst e
  exact ⟨_,st,λ v z=>by
   have z':Data.fields _=Data.cell v:=z
   cases z'⟩
 keep:=λ i h h' st k=>k it (by simp) _ st
 item:=by
  intro X hP hw hK hc i pins s σ H E I hf st hg
  subst hP hw hK
  obtain ⟨f0,f1,f2,f3,f4,f5⟩:=hf it (by simp)
  have W:=Walks.range (prog:=X.prog) (w:=X.w) (I.ok.hd hc) it lo 1 n
  refine W.item i s _ _ hg st λ v h' tk hv st' kk=>?_
  obtain ⟨t,rfl⟩:=hv
  have I1:Inv X pins σ H { s with heap:=h',toks:=tk }:=I.turned (λ b o hb e=>kk b o (by simpa using hb) e) f0 f1 f3 f4 f5
  refine ⟨_,rfl,zoW (s:={ s with heap:=h',toks:=tk }) (n := "range_iterator") st' rfl rfl (by decide) ⟨.int (lo+i),H,I1,⟨t,?_⟩,⟨rfl,rfl⟩,st',λ b hb=>(hf b hb).1⟩⟩
  rw [Int.mul_one]
 done:=by
  intro X hP hw hK hc i pins s σ H E I hf st hg
  subst hP hw hK
  obtain ⟨f0,f1,f2,f3,f4,f5⟩:=hf it (by simp)
  exact wpAny_pyNext_range_end (I.ok.hd hc) st (by have:n<=i:=hg; omega) λ h' eb=>⟨rfl,I.turned (t':=s.toks) (λ b o hb e=>eb b o hb e) f0 f1 f3 f4 f5⟩
 self:=λ _ _ _ _ _ st h=>wpAny_pyIter_rangeiter st h
end L2
namespace L2
open PySem PySem.Spec PyProof.Rows
section
variable {X:Cx} {tg:Expr}
def zsC (K:PySem.W.Frag) (tl:TE):TI:=λ σ H R=>tl σ H λ x H1=>∃ a,x=.ref a/\(∃ xs,SqL K H1 a xs)/\R (Itl K a) H1
def iTup (K:PySem.W.Frag) (tl:TE):TI:=λ σ H R=>tl σ H λ x H1=>∃ a,x=.ref a/\(∃ xs,SqT K H1 a xs)/\R (Itt K a) H1
theorem zdv {l:Expr} {tl:TE} (hl:PE X l tl):PI X tg l (zsC X.K tl):=by
 intro pins s σ H R I h
 refine thn (hl pins s σ H _ I h) λ v s1 ⟨x,H1,I1,r1,q1⟩=>?_
 obtain ⟨a,e,⟨xs,hq⟩,q⟩:=q1
 subst e
 cases r1
 obtain ⟨its,rv,p,hz⟩:=I1.list hq
 refine wpAny_pyIter_list p.isList ?_
 refine ⟨s1.heap.objs.size,[s1.heap.objs.size],_,_,H1,rfl,I1.kept (t':=s1.toks) λ b o e=>Heap.get?_push_of_some _ e,znT a _,⟨_,Heap.get?_push_size _ rfl,rfl,rfl⟩,λ b hb=>?_,q⟩
 have e:b=s1.heap.objs.size:=by simpa using hb
 subst e
 exact I1.fpOk (Nat.le_refl _) (I1.hok.fresh (Nat.le_refl _))
theorem zg1 {l:Expr} {tl:TE} (hl:PE X l tl):PI X tg l (iTup X.K tl):=by
 intro pins s σ H R I h
 refine thn (hl pins s σ H _ I h) λ v s1 ⟨x,H1,I1,r1,q1⟩=>?_
 obtain ⟨a,e,⟨xs,hq⟩,q⟩:=q1
 subst e
 cases r1
 obtain ⟨its,rv,p,hz⟩:=I1.tuple hq
 refine wpAny_pyIter_tuple (show s1.heap.IsTuple a its.toArray from p) ?_
 refine ⟨s1.heap.objs.size,[s1.heap.objs.size],_,_,H1,rfl,I1.kept (t':=s1.toks) λ b o e=>Heap.get?_push_of_some _ e,zm5 a _,⟨_,Heap.get?_push_size _ rfl,rfl,rfl⟩,λ b hb=>?_,q⟩
 have e:b=s1.heap.objs.size:=by simpa using hb
 subst e
 exact I1.fpOk (Nat.le_refl _) (I1.hok.fresh (Nat.le_refl _))
theorem zpH {pins:List (Addr×Obj)} {σ:St} {H:Hp} {s:Shared} {R:It->Hp->Prop} {E:Value->Shared->Prop} {lo hi:Int} {t u v:Tok} {tk:Nat} (I:Inv X pins σ H s) (h1:-(2 ^ 62)<=lo) (h2:lo < 2 ^ 62) (h3:-(2 ^ 62)<=hi) (h4:hi < 2 ^ 62)
   (q:R (Itr lo (hi - lo).toNat) H):wpAny (model X.prog X.w) X.A (pyIter (.ref s.heap.objs.size)) (PIE X pins σ tg R) E { s with heap:=s.heap.push { cls:=.type "range",data:=.fields #[.int lo t,.int hi u,.int 1 v] },toks:=tk }:=by
 refine wpAny_pyIter_range (IsRange.new ..) (small_one h1 h2 h3 h4) ?_
 have I1:Inv X pins σ H { s with heap:=s.heap.push { cls:=.type "range",data:=.fields #[.int lo t,.int hi u,.int 1 v] },toks:=tk }:=I.kept λ b o e=>Heap.get?_push_of_some _ e
 refine ⟨(s.heap.push { cls:=.type "range",data:=.fields #[.int lo t,.int hi u,.int 1 v] }).objs.size,[(s.heap.push { cls:=.type "range",data:=.fields #[.int lo t,.int hi u,.int 1 v] }).objs.size],_,_,H,rfl,
   I1.kept (t':=tk) λ b o e=>Heap.get?_push_of_some _ e,zm6 _ lo (hi - lo).toNat,?_,λ b hb=>?_,q⟩
 . have e1:lo+((0:Nat):Int) * 1=lo:=by simp
   have e2:(((hi - lo).toNat:Nat):Int) - ((0:Nat):Int)=Builtin.Range.rangeSize lo hi 1:=by rw [rangeSize_one]; split <;> omega
   show IsRangeIter _ _ (lo+((0:Nat):Int) * 1) ((((hi - lo).toNat:Nat):Int) - ((0:Nat):Int)) 1
   rw [e1,e2]
   exact Heap.get?_push_size _ rfl
 . have e:b=(s.heap.push { cls:=.type "range",data:=.fields #[.int lo t,.int hi u,.int 1 v] }).objs.size:=by simpa using hb
   subst e
   exact I1.fpOk (Nat.le_refl _) (I1.hok.fresh (Nat.le_refl _))
def zti (ta:TA):TI:=λ σ H R=>ta σ H λ vs H1=>∃ j:Int,vs=[.int j]/\-(2 ^ 62)<=j/\j < 2 ^ 62/\R (Itr 0 j.toNat) H1
theorem zg2 {a:Expr} {ta:TA} {p pos:Pos} (hg:Gl X "range") (hm:X.mg "range" = none) (ha:PA X [a] ta) (hs:starEach [a] X.env=[(false,eval a X.env)]:=by rfl):PI X tg (.Call (.Name "range" p) [a] [] pos) (zti ta):=by
 intro pins s σ H R I h
 refine Call_ (zkx I hg hm boot_range (PyProof.Rows.callWith_type1 (thn (ha pos pins s σ H _ I h) λ us s1 ⟨vs,H1,I1,r1,q1⟩=>?_) hs rfl))
 obtain ⟨j,e,q1,q2,q⟩:=q1
 subst e
 cases r1 with
 | cons r rr =>
  cases rr
  obtain ⟨t,rfl⟩:=r
  exact call_range_1 (zpH I1 (by omega) (by omega) q1 q2 (by simpa using q))
def tFor (wi:TI) (g:TG) (tb:TS):TS:=λ D σ H=>wi σ H λ J H1=>∃ W:Nat->Nat->St->Hp->Prop,(∃ m,W 0 m σ H1)/\∀ i m σ H,W i m σ H ->
 (J.stop i H/\D.nx σ H)\/(J.go i H/\∃ N:St->Hp->Prop,(∀ σ' H',N σ' H'->∃ m',m' < m/\W (i+1) m' σ' H')/\∀ x H',J.yld i H x H'->g x σ H' λ σ2 H2=>tb { D with nx:=N,ct:=N,bk:=D.nx } σ2 H2)
def zj4 (fp:List Addr) (h:Heap):List (Addr×Obj):=fp.filterMap λ b=>(h.get? b).map λ o=>(b,o)
theorem zfR {fp:List Addr} {h:Heap} {b:Addr} {o:Obj} (hb:b∈fp) (e:h.get? b=some o):(b,o)∈zj4 fp h:=List.mem_filterMap.mpr ⟨b,hb,by rw [e]; rfl⟩
theorem zov {fp:List Addr} {h:Heap} {p:Addr×Obj} (hp:p∈zj4 fp h):p.1∈fp/\h.get? p.1=some p.2:=by
 obtain ⟨b,hb,e⟩:=List.mem_filterMap.mp hp
 cases q:h.get? b with
 | none=>rw [q] at e; cases e
 | some o =>
  rw [q] at e
  have e':(b,o)=p:=Option.some.inj e
  subst e'
  exact ⟨hb,q⟩
theorem Inv.pinned {pins:List (Addr×Obj)} {σ:St} {H:Hp} {s:Shared} {fp:List Addr} (I:Inv X pins σ H s) (hf:∀ b∈fp,FpOk X pins H b) (ho:∀ b∈fp,∃ o,s.heap.get? b=some o/\∀ v,o.data≠.cell v):Inv X (pins++zj4 fp s.heap) σ H s :=
 I.zgZ λ p hp=>(List.mem_append.mp hp).elim (λ z=>I.pin p (List.mem_append_right _ z)) λ z=>by
  obtain ⟨hb,e⟩:=zov z
  obtain ⟨f0,f1,f2,_⟩:=hf p.1 hb
  obtain ⟨o,e',d⟩:=ho p.1 hb
  rw [e] at e'; cases e'
  exact ⟨e,f0,f1,f2,d⟩
theorem Inv.ziL {pins pl:List (Addr×Obj)} {σ:St} {H:Hp} {s:Shared} (I:Inv X (pins++pl) σ H s):Inv X pins σ H s:=I.zgZ λ p hp=>I.pin p (List.mem_append_right _ (List.mem_append_left _ hp))
theorem zeA {iter:Expr} {body:List Stmt} {wi:TI} {g:TG} {tb:TS} {pos:Pos} (hp:PassesOwn (model X.prog X.w) X.A X.env X.xe) (hc:X.calm=true) (hi:PI X tg iter wi) (hg:PG X tg g) (hb:PSs X body tb)
   (hs:∀ x,foldedSetIterable iter X.env x=pure x:=by intro _; rfl):PS X (.For tg iter body [] pos) (tFor wi g tb):=by
 intro pins s σ H D I h
 refine wpAny_For (thn (hi pins s σ H _ I h) λ v s1 h1=>thn h1 λ itv s2 h2=>?_) hs
 obtain ⟨it,fp,tn,J,H2,e,I2,T,st2,f2,W,⟨m0,w0⟩,turn⟩:=h2
 subst e
 have stat:∀ {H':Hp},(∀ b∈fp,H' b=none)->∀ b∈fp,FpOk X pins H' b:=λ hn b hb=>⟨hn b hb,(f2 b hb).2⟩
 refine codeAny_forLoop_any (λ n s'=>∃ i σ' H',Inv X pins σ' H' s'/\tn i s'.heap/\(∀ b∈fp,H' b=none)/\W i n σ' H') ?_ m0 ⟨0,σ,H2,I2,st2,λ b hb=>(f2 b hb).1,w0⟩
 rintro n s3 ⟨i,σ3,H3,I3,st3,fr3,w3⟩
 rcases turn i n σ3 H3 w3 with ⟨stop,qn⟩ | ⟨go,N,hN,step⟩
 . refine wpAny_passesOwn hp (thn (T.done X rfl rfl rfl hc i pins s3 σ3 H3 X.xe I3 (stat fr3) st3 stop) λ r s4 ⟨hr,I4⟩=>?_)
   subst hr
   exact wpAny_execs_nil ⟨σ3,H3,I4,qn⟩
 . refine wpAny_passesOwn hp (thn (T.item X rfl rfl rfl hc i pins s3 σ3 H3 X.xe I3 (stat fr3) st3 go) λ r s4 ⟨u,hr,h4⟩=>?_)
   subst hr
   refine wpAny_passesOwn hp (thn h4 λ _ s5 ⟨x,H5,I5,r5,y5,st5,fr5⟩=>?_)
   have I5':=I5.pinned (stat fr5) (T.obj _ _ st5)
   refine wpAny_passesOwn hp (thn (hg _ s5 σ3 H5 x u _ I5' r5 (step x H5 y5)) λ _ s6 ⟨σ6,H6,I6,q6⟩=>?_)
   refine wpAny_passesOwn hp (thn (hb _ s6 σ6 H6 _ I6 q6) λ f s7 q7=>?_)
   have again:∀ {σ7:St} {H7:Hp},Inv X (pins++zj4 fp s5.heap) σ7 H7 s7->N σ7 H7->∃ m,m < n/\∃ i σ' H',Inv X pins σ' H' s7/\tn i s7.heap/\(∀ b∈fp,H' b=none)/\W i m σ' H':=λ {σ7 H7} I7 n7=>by
    obtain ⟨m',hm,w7⟩:=hN σ7 H7 n7
    refine ⟨m',hm,i+1,σ7,H7,I7.ziL,T.keep _ _ _ st5 λ b hb o e=>(I7.pin (b,o) (List.mem_append_right _ (List.mem_append_right _ (zfR hb e)))).1,λ b hb=>?_,w7⟩
    obtain ⟨o,e,d⟩:=T.obj _ _ st5 b hb
    exact (I7.pin (b,o) (List.mem_append_right _ (List.mem_append_right _ (zfR hb e)))).2.1
   cases f with
   | next=>obtain ⟨σ7,H7,I7,n7⟩:=q7; exact again I7 n7
   | cont=>obtain ⟨σ7,H7,I7,n7⟩:=q7; exact again I7 n7
   | brk=>obtain ⟨σ7,H7,I7,q7⟩:=q7; exact ⟨σ7,H7,I7.ziL,q7⟩
   | ret v=>obtain ⟨x7,σ7,H7,I7,r7,q7⟩:=q7; exact ⟨x7,σ7,H7,I7.ziL,r7,q7⟩
end
theorem zft {K:PySem.W.Frag} {a:Addr} {xs:List V} {g:TG} {tb:TS} {D:Ends} {σ:St} {H:Hp} (Pv:Nat->St->Hp->Prop) (h0:Pv 0 σ H) (hl:∀ i σ H,i<=xs.length->Pv i σ H->SqL K H a xs)
   (hs:∀ i x σ H,xs[i]?=some x->Pv i σ H->g x σ H λ σ2 H2=>tb { D with nx:=Pv (i+1),ct:=Pv (i+1),bk:=D.nx } σ2 H2) (hd:∀ σ H,Pv xs.length σ H->D.nx σ H) :
   ∃ W:Nat->Nat->St->Hp->Prop,(∃ m,W 0 m σ H)/\∀ i m σ H,W i m σ H ->
    ((Itl K a).stop i H/\D.nx σ H)\/((Itl K a).go i H/\∃ N:St->Hp->Prop,(∀ σ' H',N σ' H'->∃ m',m' < m/\W (i+1) m' σ' H')/\∀ x H',(Itl K a).yld i H x H'->g x σ H' λ σ2 H2=>tb { D with nx:=N,ct:=N,bk:=D.nx } σ2 H2):=by
 refine ⟨λ i m σ H=>m=xs.length - i/\i<=xs.length/\Pv i σ H,⟨xs.length,by simp,Nat.zero_le _,h0⟩,?_⟩
 rintro i m σ H ⟨rfl,hi,p⟩
 have q:=hl i σ H hi p
 by_cases hlt:i < xs.length
 . refine .inr ⟨⟨xs,xs[i],q,by simp [hlt]⟩,Pv (i+1),λ σ' H' p'=>⟨xs.length - (i+1),by omega,rfl,hlt,p'⟩,λ x H' y=>?_⟩
   obtain ⟨e,y⟩:=y
   subst e
   exact hs i x σ _ (y xs q) p
 . have e:i=xs.length:=by omega
   subst e
   exact .inl ⟨⟨xs,q,Nat.le_refl _⟩,hd σ H p⟩
theorem zlK {K:PySem.W.Frag} {a:Addr} {xs:List V} {g:TG} {tb:TS} {D:Ends} {σ:St} {H:Hp} (Pv:Nat->St->Hp->Prop) (h0:Pv 0 σ H) (hl:∀ i σ H,i<=xs.length->Pv i σ H->SqT K H a xs)
   (hs:∀ i x σ H,xs[i]?=some x->Pv i σ H->g x σ H λ σ2 H2=>tb { D with nx:=Pv (i+1),ct:=Pv (i+1),bk:=D.nx } σ2 H2) (hd:∀ σ H,Pv xs.length σ H->D.nx σ H) :
   ∃ W:Nat->Nat->St->Hp->Prop,(∃ m,W 0 m σ H)/\∀ i m σ H,W i m σ H ->
    ((Itt K a).stop i H/\D.nx σ H)\/((Itt K a).go i H/\∃ N:St->Hp->Prop,(∀ σ' H',N σ' H'->∃ m',m' < m/\W (i+1) m' σ' H')/\∀ x H',(Itt K a).yld i H x H'->g x σ H' λ σ2 H2=>tb { D with nx:=N,ct:=N,bk:=D.nx } σ2 H2):=by
 refine ⟨λ i m σ H=>m=xs.length - i/\i<=xs.length/\Pv i σ H,⟨xs.length,by simp,Nat.zero_le _,h0⟩,?_⟩
 rintro i m σ H ⟨rfl,hi,p⟩
 have q:=hl i σ H hi p
 by_cases hlt:i < xs.length
 . refine .inr ⟨⟨xs,xs[i],q,by simp [hlt]⟩,Pv (i+1),λ σ' H' p'=>⟨xs.length - (i+1),by omega,rfl,hlt,p'⟩,λ x H' y=>?_⟩
   obtain ⟨e,y⟩:=y
   subst e
   exact hs i x σ _ (y xs q) p
 . have e:i=xs.length:=by omega
   subst e
   exact .inl ⟨⟨xs,q,Nat.le_refl _⟩,hd σ H p⟩
theorem zo2 {lo:Int} {n:Nat} {g:TG} {tb:TS} {D:Ends} {σ:St} {H:Hp} (Pv:Nat->St->Hp->Prop) (h0:Pv 0 σ H)
   (hs:∀ i σ H,i < n->Pv i σ H->g (.int (lo+i)) σ H λ σ2 H2=>tb { D with nx:=Pv (i+1),ct:=Pv (i+1),bk:=D.nx } σ2 H2) (hd:∀ σ H,Pv n σ H->D.nx σ H) :
   ∃ W:Nat->Nat->St->Hp->Prop,(∃ m,W 0 m σ H)/\∀ i m σ H,W i m σ H ->
    ((Itr lo n).stop i H/\D.nx σ H)\/((Itr lo n).go i H/\∃ N:St->Hp->Prop,(∀ σ' H',N σ' H'->∃ m',m' < m/\W (i+1) m' σ' H')/\∀ x H',(Itr lo n).yld i H x H'->g x σ H' λ σ2 H2=>tb { D with nx:=N,ct:=N,bk:=D.nx } σ2 H2):=by
 refine ⟨λ i m σ H=>m=n - i/\i<=n/\Pv i σ H,⟨n,by simp,Nat.zero_le _,h0⟩,?_⟩
 rintro i m σ H ⟨rfl,hi,p⟩
 by_cases hlt:i < n
 . refine .inr ⟨hlt,Pv (i+1),λ σ' H' p'=>⟨n - (i+1),by omega,rfl,hlt,p'⟩,λ x H' y=>?_⟩
   obtain ⟨e,y⟩:=y
   subst e y
   exact hs i σ _ hlt p
 . have e:i=n:=by omega
   subst e
   exact .inl ⟨Nat.le_refl _,hd σ H p⟩
end L2
namespace L2
open PySem PySem.Spec PyProof.Rows
abbrev R2:=V->V->Hp->VK->Prop
def OpR (X:Cx) (f:Value->Value->Sem Value) (r:R2):Prop :=
 ∀ (pins:List (Addr×Obj)) (s:Shared) (σ:St) (H:Hp) (x y:V) (v u:Value) (Q:VK),Inv X pins σ H s->RelV x v->RelV y u->r x y H Q ->
  wpAny (model X.prog X.w) X.A (f v u) (EP X pins σ Q) X.xe s
def UnR (X:Cx) (f:Value->Sem Value) (r:V->Hp->VK->Prop):Prop :=
 ∀ (pins:List (Addr×Obj)) (s:Shared) (σ:St) (H:Hp) (x:V) (v:Value) (Q:VK),Inv X pins σ H s->RelV x v->r x H Q ->
  wpAny (model X.prog X.w) X.A (f v) (EP X pins σ Q) X.xe s
def zid (X:Cx) (f:Value) (r:List V->Hp->VK->Prop):Prop :=
 ∀ (pins:List (Addr×Obj)) (s:Shared) (σ:St) (H:Hp) (xs:List V) (us:List Value) (Q:VK),Inv X pins σ H s->Vals xs us->r xs H Q ->
  wpAny (model X.prog X.w) X.A (call f us) (EP X pins σ Q) X.xe s
def tOp (r:R2) (ta tb:TE):TE:=λ σ H Q=>ta σ H λ x H1=>tb σ H1 λ y H2=>r x y H2 Q
def tUn (r:V->Hp->VK->Prop) (ta:TE):TE:=λ σ H Q=>ta σ H λ x H1=>r x H1 Q
def rI (C:Int->Int->Prop) (g:Int->Int->V):R2:=λ x y H Q=>∃ i j,x=.int i/\y=.int j/\C i j/\Q (g i j) H
def rI0 (g:Int->Int->V):R2:=λ x y H Q=>∃ i j,x=.int i/\y=.int j/\Q (g i j) H
def rU (g:Int->V):V->Hp->VK->Prop:=λ x H Q=>∃ i,x=.int i/\Q (g i) H
section
variable {X:Cx} {a b c:Expr} {ta tb tc:TE} {pos:Pos}
theorem binT (ha:PE X a ta) (hb:PE X b tb) {pins:List (Addr×Obj)} {s:Shared} {σ:St} {H:Hp} {R:V->V->Hp->Prop} (I:Inv X pins σ H s)
  (h:ta σ H λ x H1=>tb σ H1 λ y H2=>R x y H2) {Q:Value->Shared->Prop} {f:Value->Value->Sem Value}
  (hf:∀ v u s2 x y H2,Inv X pins σ H2 s2->RelV x v->RelV y u->R x y H2->wpAny (model X.prog X.w) X.A (f v u) Q X.xe s2) :
  wpAny (model X.prog X.w) X.A (eval a X.env) (λ v s₁=>wpAny (model X.prog X.w) X.A (eval b X.env) (λ u s₂=>wpAny (model X.prog X.w) X.A (f v u) Q X.xe s₂) X.xe s₁) X.xe s:=by
 refine thn (ha pins s σ H _ I h) λ v s1 ⟨x,H1,I1,r1,q1⟩=>?_
 refine thn (hb pins s1 σ H1 _ I1 q1) λ u s2 ⟨y,H2,I2,r2,q2⟩=>?_
 exact hf v u s2 x y H2 I2 r1 r2 q2
theorem zcE {op:Operator} {r:R2} (ho:OpR X (binaryOp op) r) (ha:PE X a ta) (hb:PE X b tb):PE X (.BinOp a op b pos) (tOp r ta tb):=by
 intro pins s σ H Q I h
 exact wpAny_BinOp (binT ha hb I h λ v u s2 x y H2 I2 rx ry q=>ho pins s2 σ H2 x y v u Q I2 rx ry q)
theorem zrl {op:UnaryOp} {r:V->Hp->VK->Prop} (ho:UnR X (unaryOp op) r) (ha:PE X a ta):PE X (.UnaryOp op a pos) (tUn r ta):=by
 intro pins s σ H Q I h
 exact UnaryOp_ (thn (ha pins s σ H _ I h) λ v s1 ⟨x,H1,I1,r1,q1⟩=>ho pins s1 σ H1 x v Q I1 r1 q1)
theorem opI {f:Value->Value->Sem Value} {C:Int->Int->Prop} {g:Int->Int->Int}
  (rule:∀ (i j:Int) (t u:Tok) (s:Shared) (Q:Value->Shared->Prop) (E:Value->Shared->Prop),C i j->Q (.int (g i j) s.toks) { s with toks:=s.toks+1 }->wpAny (model X.prog X.w) X.A (f (.int i t) (.int j u)) Q E s) :
  OpR X f (rI C λ i j=>.int (g i j)):=by
 intro pins s σ H x y v u Q I rx ry h
 obtain ⟨i,j,rfl,rfl,hc,q⟩:=h
 obtain ⟨t,rfl⟩:=rx
 obtain ⟨t',rfl⟩:=ry
 exact rule i j t t' s _ _ hc ⟨.int (g i j),H,I.tok _,⟨_,rfl⟩,q⟩
theorem opI0 {f:Value->Value->Sem Value} {g:Int->Int->Int}
  (rule:∀ (i j:Int) (t u:Tok) (s:Shared) (Q:Value->Shared->Prop) (E:Value->Shared->Prop),Q (.int (g i j) s.toks) { s with toks:=s.toks+1 }->wpAny (model X.prog X.w) X.A (f (.int i t) (.int j u)) Q E s) :
  OpR X f (rI0 λ i j=>.int (g i j)):=by
 intro pins s σ H x y v u Q I rx ry h
 obtain ⟨i,j,rfl,rfl,q⟩:=h
 obtain ⟨t,rfl⟩:=rx
 obtain ⟨t',rfl⟩:=ry
 exact rule i j t t' s _ _ ⟨.int (g i j),H,I.tok _,⟨_,rfl⟩,q⟩
theorem opB0 {f:Value->Value->Sem Value} {g:Int->Int->Bool}
  (rule:∀ (i j:Int) (t u:Tok) (s:Shared) (Q:Value->Shared->Prop) (E:Value->Shared->Prop),Q (.bool (g i j)) s->wpAny (model X.prog X.w) X.A (f (.int i t) (.int j u)) Q E s) :
  OpR X f (rI0 λ i j=>.bl (g i j)):=by
 intro pins s σ H x y v u Q I rx ry h
 obtain ⟨i,j,rfl,rfl,q⟩:=h
 obtain ⟨t,rfl⟩:=rx
 obtain ⟨t',rfl⟩:=ry
 exact rule i j t t' s _ _ ⟨.bl (g i j),H,I,rfl,q⟩
def CDiv (i j:Int):Prop:=0 < j/\j < 1073741824
def CMul (i j:Int):Prop:=(-(2 ^ 64) < i/\i < 2 ^ 64)\/(-(2 ^ 64) < j/\j < 2 ^ 64)
theorem CMul.ok {i j:Int} (h:CMul i j):IntMulOk i j:=by
 rcases h with ⟨h1,h2⟩ | ⟨h1,h2⟩
 . exact .of_left (intBits_le_64 h1 h2)
 . exact .of_right (intBits_le_64 h1 h2)
theorem zgh:OpR X (binaryOp .Add) (rI0 λ i j=>.int (i+j)):=opI0 λ _ _ _ _ _ _ _ q=>add_int q
theorem zqu:OpR X (binaryOp .Sub) (rI0 λ i j=>.int (i - j)):=opI0 λ _ _ _ _ _ _ _ q=>sub_int q
theorem zj9:OpR X (binaryOp .Mult) (rI CMul λ i j=>.int (i * j)):=opI λ _ _ _ _ _ _ _ hc q=>mul_int q hc.ok
theorem zrq:OpR X (binaryOp .FloorDiv) (rI CDiv λ i j=>.int (i / j)):=opI λ i j _ _ _ _ _ hc q=>by
 have h1:(0:Int) < j:=hc.1
 have h2:j < 1073741824:=hc.2
 exact floordiv_int (by omega) (by rw [Int.fdiv_eq_ediv_of_nonneg i (by omega)]; exact q) (.inl (PyProof.noPylong_small (by omega)))
theorem zka:OpR X (binaryOp .Mod) (rI (λ _ j=>0 < j) λ i j=>.int (i % j)):=opI λ i j _ _ _ _ _ hc q=>by
 have h1:(0:Int) < j:=hc
 exact mod_int' (by omega) (by rw [Int.fmod_eq_emod_of_nonneg i (by omega)]; exact q)
theorem unI {f:Value->Sem Value} {g:Int->Int}
  (rule:∀ (i:Int) (t:Tok) (s:Shared) (Q:Value->Shared->Prop) (E:Value->Shared->Prop),Q (.int (g i) s.toks) { s with toks:=s.toks+1 }->wpAny (model X.prog X.w) X.A (f (.int i t)) Q E s) :
  UnR X f (rU λ i=>.int (g i)):=by
 intro pins s σ H x v Q I rx h
 obtain ⟨i,rfl,q⟩:=h
 obtain ⟨t,rfl⟩:=rx
 exact rule i t s _ _ ⟨.int (g i),H,I.tok _,⟨_,rfl⟩,q⟩
theorem znS:UnR X (unaryOp .USub) (rU λ i=>.int (-i)):=unI λ _ _ _ _ _ q=>neg_int q
end
def scal:V->V->Bool
 | .non,.non=>true | .non,.int _=>true | .int _,.non=>true | .non,.bl _=>true | .bl _,.non=>true | .non,.str _=>true | .str _,.non=>true
 | .int _,.int _=>true | .bl _,.bl _=>true | .str _,.str _=>true | .byt _,.byt _=>true
 | .int _,.str _=>true | .str _,.int _=>true | .bl _,.str _=>true | .str _,.bl _=>true
 | _,_=>false
def rEq:R2:=λ x y H Q=>scal x y=true/\Q (.bl (decide (x=y))) H
def rNe:R2:=λ x y H Q=>scal x y=true/\Q (.bl (!decide (x=y))) H
theorem zpd {i j:Int}:decide (V.int i=V.int j)=(i == j):=by
 rw [Bool.eq_iff_iff]
 simp
theorem zqL {i j:Bool}:decide (V.bl i=V.bl j)=(i == j):=by
 rw [Bool.eq_iff_iff]
 simp
theorem zpc {i j:Str}:decide (V.str i=V.str j)=(i == j):=by
 rw [Bool.eq_iff_iff]
 simp
theorem zpe {i j:Array UInt8}:decide (V.byt i=V.byt j)=(i.toList == j.toList):=by
 rw [Bool.eq_iff_iff]
 cases i
 cases j
 simp
section
variable {X:Cx} {a b c:Expr} {ta tb tc:TE} {pos:Pos}
theorem zba {pins:List (Addr×Obj)} {σ:St} {H:Hp} {s:Shared} {Q:VK} {k k':Bool} (I:Inv X pins σ H s) (q:Q (.bl k) H) (e:k=k'):EP X pins σ Q (.bool k') s:=by
 subst e
 exact ⟨.bl k,H,I,rfl,q⟩
theorem zb4:OpR X (compareOp .Eq) rEq:=by
 intro pins s σ H x y v u Q I rx ry h
 obtain ⟨hs,q⟩:=h
 cases x with
 | non =>
  cases rx
  cases y with
  | non=>cases ry; exact PySem.EqNone.eq_none_none (zba I q (by simp))
  | bl j=>cases ry; exact PySem.EqNone.eq_none_bool (zba I q (by simp))
  | int j=>obtain ⟨t',rfl⟩:=ry; exact PySem.EqNone.eq_none_int (zba I q (by simp))
  | str j=>obtain ⟨t',rfl⟩:=ry; exact PySem.EqNone.eq_none_str (zba I q (by simp))
  | _=>exact absurd (show false=true from hs) Bool.false_ne_true
 | bl i =>
  cases rx
  cases y with
  | non=>cases ry; exact PySem.EqNone.eq_bool_none (zba I q (by simp))
  | bl j=>cases ry; exact eq_bool (zba I q zqL)
  | str j=>obtain ⟨t',rfl⟩:=ry; exact PySem.EqMixed.eq_bool_str (zba I q (by simp))
  | _=>exact absurd (show false=true from hs) Bool.false_ne_true
 | int i =>
  obtain ⟨t,rfl⟩:=rx
  cases y with
  | non=>cases ry; exact PySem.EqNone.eq_int_none (zba I q (by simp))
  | int j=>obtain ⟨t',rfl⟩:=ry; exact eq_int (zba I q zpd)
  | str j=>obtain ⟨t',rfl⟩:=ry; exact PySem.EqMixed.eq_int_str (zba I q (by simp))
  | _=>exact absurd (show false=true from hs) Bool.false_ne_true
 | str i =>
  obtain ⟨t,rfl⟩:=rx
  cases y with
  | non=>cases ry; exact PySem.EqNone.eq_str_none (zba I q (by simp))
  | bl j=>cases ry; exact PySem.EqMixed.eq_str_bool (zba I q (by simp))
  | int j=>obtain ⟨t',rfl⟩:=ry; exact PySem.EqMixed.eq_str_int (zba I q (by simp))
  | str j=>obtain ⟨t',rfl⟩:=ry; exact eq_str (zba I q zpc)
  | _=>exact absurd (show false=true from hs) Bool.false_ne_true
 | byt i =>
  obtain ⟨t,rfl⟩:=rx
  cases y with
  | byt j=>obtain ⟨t',rfl⟩:=ry; exact PySem.W.eq_bytes (zba I q zpe)
  | _=>exact absurd (show false=true from hs) Bool.false_ne_true
 | _=>cases y <;> exact absurd (show false=true from hs) Bool.false_ne_true
theorem znm:OpR X (compareOp .NotEq) rNe:=by
 intro pins s σ H x y v u Q I rx ry h
 obtain ⟨hs,q⟩:=h
 cases x with
 | non =>
  cases rx
  cases y with
  | non=>cases ry; exact PySem.EqNone.ne_none_none (zba I q (by simp))
  | bl j=>cases ry; exact PySem.EqNone.ne_none_bool (zba I q (by simp))
  | int j=>obtain ⟨t',rfl⟩:=ry; exact PySem.EqNone.ne_none_int (zba I q (by simp))
  | str j=>obtain ⟨t',rfl⟩:=ry; exact PySem.EqNone.ne_none_str (zba I q (by simp))
  | _=>exact absurd (show false=true from hs) Bool.false_ne_true
 | bl i =>
  cases rx
  cases y with
  | non=>cases ry; exact PySem.EqNone.ne_bool_none (zba I q (by simp))
  | bl j=>cases ry; exact ne_bool (zba I q (congrArg not zqL))
  | str j=>obtain ⟨t',rfl⟩:=ry; exact PySem.EqMixed.ne_bool_str (zba I q (by simp))
  | _=>exact absurd (show false=true from hs) Bool.false_ne_true
 | int i =>
  obtain ⟨t,rfl⟩:=rx
  cases y with
  | non=>cases ry; exact PySem.EqNone.ne_int_none (zba I q (by simp))
  | int j=>obtain ⟨t',rfl⟩:=ry; exact ne_int (zba I q (congrArg not zpd))
  | str j=>obtain ⟨t',rfl⟩:=ry; exact PySem.EqMixed.ne_int_str (zba I q (by simp))
  | _=>exact absurd (show false=true from hs) Bool.false_ne_true
 | str i =>
  obtain ⟨t,rfl⟩:=rx
  cases y with
  | non=>cases ry; exact PySem.EqNone.ne_str_none (zba I q (by simp))
  | bl j=>cases ry; exact PySem.EqMixed.ne_str_bool (zba I q (by simp))
  | int j=>obtain ⟨t',rfl⟩:=ry; exact PySem.EqMixed.ne_str_int (zba I q (by simp))
  | str j=>obtain ⟨t',rfl⟩:=ry; exact ne_str (zba I q (congrArg not zpc))
  | _=>exact absurd (show false=true from hs) Bool.false_ne_true
 | byt i =>
  obtain ⟨t,rfl⟩:=rx
  cases y with
  | byt j=>obtain ⟨t',rfl⟩:=ry; exact PySem.W.ne_bytes (zba I q (congrArg not zpe))
  | _=>exact absurd (show false=true from hs) Bool.false_ne_true
 | _=>cases y <;> exact absurd (show false=true from hs) Bool.false_ne_true
theorem zll:OpR X (compareOp .Lt) (rI0 λ i j=>.bl (decide (i < j))):=opB0 λ _ _ _ _ _ _ _ q=>lt_int q
theorem zrp:OpR X (compareOp .Gt) (rI0 λ i j=>.bl (decide (j < i))):=opB0 λ _ _ _ _ _ _ _ q=>gt_int q
theorem ztc:OpR X (compareOp .GtE) (rI0 λ i j=>.bl (decide (j<=i))):=opB0 λ _ _ _ _ _ _ _ q=>ge_int q
theorem zaC (b:Expr) {op:CmpOp} (h:op≠.In:=by decide) (h2:op≠.NotIn:=by decide):behindInMarks op b=false:=by
 have e1:(op == CmpOp.In)=false:=by cases op <;> first | rfl | exact absurd rfl h
 have e2:(op == CmpOp.NotIn)=false:=by cases op <;> first | rfl | exact absurd rfl h2
 cases b <;> simp [behindInMarks,e1,e2]
theorem zdx {op:CmpOp} {r:R2} (ho:OpR X (compareOp op) r) (ha:PE X a ta) (hb:PE X b tb) (hm:behindInMarks op b=false):PE X (.Compare a [op] [b] pos) (tOp r ta tb):=by
 intro pins s σ H Q I h
 exact wpAny_Compare1 (binT ha hb I h λ v u s2 x y H2 I2 rx ry q=>ho pins s2 σ H2 x y v u Q I2 rx ry q) hm
def zqT (t:TE):TT:=λ σ H Q=>t σ H λ x H'=>∃ k,x=.bl k/\Q k H'
theorem zax {op:CmpOp} {r:R2} (ho:OpR X (compareOp op) r) (ha:PE X a ta) (hb:PE X b tb) (hm:behindInMarks op b=false):PT X (.Compare a [op] [b] pos) (zqT (tOp r ta tb)):=by
 intro pins s σ H Q I h
 refine wpAny_isTrue_Compare1 (thn (ha pins s σ H _ I h) λ v s1 ⟨x,H1,I1,r1,q1⟩=>thn (hb pins s1 σ H1 _ I1 q1) λ u s2 ⟨y,H2,I2,r2,q2⟩ =>
  thn (ho pins s2 σ H2 x y v u _ I2 r1 r2 q2) λ c s3 ⟨z,H3,I3,r3,k,e,q3⟩=>?_) hm
 subst e
 cases r3
 exact wpAny_truthy_bool ⟨H3,I3,q3⟩
theorem zmI:(sizeLine:Nat) < 2 ^ 63:=by rw [sizeLine_eq]; decide
theorem zin:OpR X (binaryOp .Add) (λ x y H Q=>∃ i j,x=.str i/\y=.str j/\i.length+j.length<=sizeLine/\Q (.str (i++j)) H):=by
 intro pins s σ H x y v u Q I rx ry h
 obtain ⟨i,j,rfl,rfl,hz,q⟩:=h
 obtain ⟨t,rfl⟩:=rx
 obtain ⟨t',rfl⟩:=ry
 exact add_str (λ t' tk=>⟨.str (i++j),H,I.tok _,⟨_,rfl⟩,q⟩) hz
theorem vals1 {x:V} {us:List Value} (r:Vals [x] us):∃ u,us=[u]/\RelV x u:=by
 cases r with
 | cons r1 r2=>cases r2; exact ⟨_,rfl,r1⟩
theorem zfz:zid X (.type "int") (λ xs H Q=>(∃ i,xs=[.int i]/\Q (.int i) H)\/∃ k,xs=[.bl k]/\Q (.int (if k then 1 else 0)) H):=by
 intro pins s σ H xs us Q I r h
 rcases h with ⟨i,rfl,q⟩ | ⟨k,rfl,q⟩
 . obtain ⟨u,rfl,t,rfl⟩:=vals1 r
   exact call_int_int ⟨.int i,H,I,⟨_,rfl⟩,q⟩
 . obtain ⟨u,rfl,r1⟩:=vals1 r
   cases r1
   exact call_int_bool ⟨.int (if k then 1 else 0),H,I.tok _,⟨_,rfl⟩,q⟩
end
end L2
namespace L2
open PySem PySem.Spec PyProof.Rows
structure ObjM (h:Heap) (x dx C:Addr) (mA:Str->Option Value):Prop where
 obj:h.get? x=some (PySem.W.instObj C dx)
 ns:h.Ns1 dx mA
 ne:dx≠x
theorem zoF {h:Heap} {dx:Addr} {mA:Str->Option Value} (n:h.Ns1 dx mA):∃ od,h.get? dx=some od/\∀ name,PySem.W.lookIn name od=some (mA name):=by
 obtain ⟨o,es,ep,ho,hd,hk,_,hm⟩:=n
 refine ⟨o,ho,λ name=>?_⟩
 have e:=hm name
 unfold nsFind findBy at e
 rw [<-Array.find?_toList] at e
 unfold PySem.W.lookIn
 rw [hd]
 dsimp only
 split
 . rename_i y q
   rw [q] at e
   exact congrArg some e
 . rename_i q
   rw [q] at e
   have a:es.toList.any (·.refKey)=false:=by
    rw [List.any_eq_false]
    intro y hy
    obtain ⟨z,t,hkey⟩:=hk y (Array.mem_toList_iff.mp hy)
    simp [DictEntry.refKey,hkey]
   have a':¬ es.toList.any (·.refKey)=true:=by rw [a]; exact Bool.false_ne_true
   rw [if_neg a']
   exact congrArg some e
theorem ObjM.look {h:Heap} {x dx C:Addr} {mA:Str->Option Value} (I:ObjM h x dx C mA):∃ od,PySem.W.InstAt h x (PySem.W.instObj C dx) C (some od)/\∀ name,PySem.W.lookIn name od=some (mA name) :=
 let ⟨od,ho,hl⟩:=zoF I.ns
 ⟨od,⟨I.obj,rfl,rfl,ho⟩,hl⟩
section
variable {prog:Program} {w:World} {A:Around} {E:Value->Shared->Prop} {s:Shared} {K:PySem.W.Frag} {x dx C f:Addr} {mA:Str->Option Value} {name:Str} {v:Value}
theorem get_map {expr:Bool} {Q:Value->Shared->Prop} (X:K.In s.heap) (I:ObjM s.heap x dx C mA) (hg:PySem.W.plainGet K C name=true) (hh:PySem.W.hasDictIn K C=true)
  (ha:PySem.W.findIn K (.ref C) name=some none) (hv:mA name=some v) (hv':PySem.W.handedIn v=true) (h:Q v { s with toks:=s.toks+1 }) :
  wpAny (model prog w) A (getAttr (.ref x) name expr) Q E s:=by
 obtain ⟨od,J,hl⟩:=I.look
 exact PySem.W.get_value X J (PySem.W.plainGet_of hg).1 (PySem.W.findObj_own hh ha rfl (by rw [hl,hv])) hv' h
theorem zqa {pl:Sem Bool} {Q:Value×List Value->Shared->Prop} (X:K.In s.heap) (I:ObjM s.heap x dx C mA) (hg:PySem.W.plainGet K C name=true)
  (hf:PySem.W.findIn K (.ref C) name=some (some (.ref f))) (ht:PySem.W.isFn K (.ref f)=true) (hv:mA name=none) (h:Q (.ref f,[.ref x]) s) :
  wpAny (model prog w) A (getMethod (.ref x) name pl) Q E s:=by
 obtain ⟨od,J,hl⟩:=I.look
 exact PySem.W.method_fn X J (PySem.W.plainGet_of hg).1 (PySem.W.plainGet_of hg).2 hf (beq_iff_eq.mp ht) (by show (PySem.W.lookIn name od).map (·.isSome)=some false; rw [hl,hv]; rfl) h
theorem zrb {ns:List Str} {Q:Unit->Shared->Prop} (X:K.In s.heap) (I:ObjM s.heap x dx C mA)
  (hs:PySem.W.findIn K (.ref C) "__setattr__" = some (some (.builtin "object.__setattr__"))) (hp:PySem.W.plainOver K C=true) (ht:PySem.W.takerIn K C name=some none) (hh:PySem.W.hasDictIn K C=true)
  (hw:PySem.Within mA ns) (hsz:ns.length<=sizeLine)
  (h:∀ h',ObjM h' x dx C (λ y=>if y=name then some v else mA y)->Heap.SameBut dx s.heap h'->Q () { s with heap:=h',toks:=s.toks+2 }) :
  wpAny (model prog w) A (setAttr (.ref x) name v) Q E s:=by
 obtain ⟨od,J,hl⟩:=I.look
 refine PySem.W.set_plain X J hs (PySem.W.osa_open (s:={ s with toks:=s.toks+1 }) (r:=none) X J hp ht λ b=>?_)
 obtain ⟨cd,hc,hd'⟩:=PySem.W.any_some hh
 have hx:s.heap.get? x=some ⟨.ref C,some dx,.plain,#[]⟩:=I.obj
 refine wpAny_bind (wpAny_pure (wpAny_bind (wpAny_bind (wpAny_loadPart hx (wpAny_bind (PySem.W.Looks.here (s:={ s with toks:=s.toks+1 }) (PySem.W.looks_clsIn X hc) ?_))))))
 rw [hd']
 refine wpAny_pure (a:=some dx) (wpAny_bind (wpAny_pure (wpAny_bind ?_)))
 refine wpAny_nsSet1 (s:={ s with toks:=s.toks+1 }) I.ns λ h' hn2 hs2=>?_
 obtain ⟨oD,esD,epD,hoD,hdD,hcD⟩:=hn2.count (PySem.Within.cons name v hw)
 refine wpAny_bind (wpAny_lookBehind hoD (by rw [hdD]; exact pastItsLine_dict (Nat.le_trans hcD (by rw [List.length_cons]; omega))) ?_)
 exact wpAny_pure (h _ ⟨(hs2.2 _ (Ne.symm I.ne)).trans I.obj,hn2,I.ne⟩ hs2)
theorem zpX {R:Result->Shared->Prop} {vs:List Value} {kw:List (Str×Value)} (X:K.In s.heap) (hm:PySem.W.makesIn K C=true)
  (hi:PySem.W.findIn K (.ref C) "__init__" = some (some (.ref f))) (hf:PySem.W.typeIn K (.ref f)=some (.type "function"))
  (h:codeAny (model prog w) (A.under (.builtin "type.__call__" ⟨.ref C::vs,kw⟩)) (.call (.ref f) ⟨.ref (s.heap.objs.size+1)::vs,kw⟩) (PySem.W.InitBack (s.heap.objs.size+1) R)
   { s with heap:=(s.heap.push PySem.W.emptyDict).push (PySem.W.instObj C s.heap.objs.size) }) :
  codeAny (model prog w) A (.call (.ref C) ⟨vs,kw⟩) R s:=by
 obtain ⟨hh,g,d,t,os⟩:=s
 exact PySem.W.make_core (PySem.W.makes_of X hm) (PySem.W.looks_findIn X hi) (λ self=>PySem.W.bind_fn X self hf) (.inl rfl) h
end
def putF (f:Str) (v:V):List (Str×V)->List (Str×V)
 | []=>[(f,v)]
 | (g,x)::r=>if g=f then (g,v)::r else (g,x)::putF f v r
theorem zhi (f g:Str) (v:V):∀ fs:List (Str×V),(putF f v fs).lookup g=if g=f then some v else fs.lookup g
 | []=>by
  show List.lookup g [(f,v)]=_
  by_cases h:g=f
  . have hb:(g == f)=true:=beq_iff_eq.mpr h
    simp only [List.lookup,hb,if_pos h]
  . have hb:(g == f)=false:=beq_eq_false_iff_ne.mpr h
    simp only [List.lookup,hb,if_neg h]
 | (k,x)::r=>by
  have ih:=zhi f g v r
  rw [show putF f v ((k,x)::r)=(if k=f then (k,v)::r else (k,x)::putF f v r) from rfl]
  by_cases hk:k=f
  . rw [if_pos hk]
    by_cases h:g=k
    . have hb:(g == k)=true:=beq_iff_eq.mpr h
      simp only [List.lookup,hb,if_pos (h.trans hk)]
    . have hb:(g == k)=false:=beq_eq_false_iff_ne.mpr h
      simp only [List.lookup,hb,if_neg (λ e:g=f=>h (e.trans hk.symm))]
  . rw [if_neg hk]
    by_cases h:g=k
    . have hb:(g == k)=true:=beq_iff_eq.mpr h
      simp only [List.lookup,hb,if_neg (λ e:g=f=>hk (h.symm.trans e))]
    . have hb:(g == k)=false:=beq_eq_false_iff_ne.mpr h
      simp only [List.lookup,hb]
      exact ih
theorem zhk (f:Str) (v:V):∀ fs:List (Str×V),f∈(putF f v fs).map (·.1)/\∀ g,g∈fs.map (·.1)->g∈(putF f v fs).map (·.1)
 | []=>⟨by simp [putF],λ g h=>by simp at h⟩
 | (k,x)::r=>by
  obtain ⟨i1,i2⟩:=zhk f v r
  rw [show putF f v ((k,x)::r)=(if k=f then (k,v)::r else (k,x)::putF f v r) from rfl]
  by_cases hk:k=f
  . rw [if_pos hk]
    subst hk
    exact ⟨by simp,λ g h=>by simpa using h⟩
  . rw [if_neg hk]
    refine ⟨?_,λ g h=>?_⟩
    . rw [List.map_cons]
      exact List.mem_cons_of_mem _ i1
    . rw [List.map_cons] at h ⊢
      rcases List.mem_cons.mp h with e | e
      . exact List.mem_cons.mpr (.inl e)
      . exact List.mem_cons_of_mem _ (i2 g e)
theorem zhj (f:Str) (v:V):∀ fs:List (Str×V),(putF f v fs).length<=fs.length+1
 | []=>by simp [putF]
 | (k,x)::r=>by
  have ih:=zhj f v r
  rw [show putF f v ((k,x)::r)=(if k=f then (k,v)::r else (k,x)::putF f v r) from rfl]
  by_cases hk:k=f
  . rw [if_pos hk,List.length_cons,List.length_cons]; omega
  . rw [if_neg hk,List.length_cons,List.length_cons]; omega
theorem RelO.some_of {v:V} {o:Option Value} (r:RelO (some v) o):∃ u,o=some u/\RelV v u:=by
 cases o with
 | none=>exact (show False from r).elim
 | some u=>exact ⟨u,rfl,r⟩
theorem RelO.none_of {o:Option Value} (r:RelO none o):o=none:=by
 cases o with
 | none=>rfl
 | some u=>exact (show False from r).elim
theorem zoU {v:V} {u:Value} (r:RelV v u):PySem.W.handedIn u=true:=by
 cases v with
 | non=>cases (show u=Value.none from r); rfl
 | bl b=>cases (show u=Value.bool b from r); rfl
 | int i=>obtain ⟨t,e⟩:=(show ∃ t,u=Value.int i t from r); cases e; rfl
 | str x=>obtain ⟨t,e⟩:=(show ∃ t,u=Value.str x t from r); cases e; rfl
 | byt b=>obtain ⟨t,e⟩:=(show ∃ t,u=Value.bytes b t from r); cases e; rfl
 | flt b=>obtain ⟨t,e⟩:=(show ∃ t,u=Value.float b t from r); cases e; rfl
 | ref a=>cases (show u=Value.ref a from r); rfl
 | ty n=>cases (show u=Value.type n from r); rfl
section
variable {P:Program} {w:World} {H H':Hp} {h h':Heap} {a C dx:Addr} {fs fs':List (Str×V)}
theorem zji (hok:HOk P w H h) (e:H a=some (.ins C dx fs)):∃ mA,ObjM h a dx C mA/\(∀ f,RelO (fs.lookup f) (mA f))/\PySem.Within mA (fs.map (·.1))/\fs.length<=1000/\H dx=some (.own a):=by
 obtain ⟨d,z,ne,ob,mA,n,r,q⟩:=(show zbZ P w H h a (.ins C dx fs) from hok a _ e)
 exact ⟨mA,⟨ob,n,ne⟩,r,q,z,d⟩
end
structure Cls (K:PySem.W.Frag) (C:Addr):Prop where
 pg:PySem.W.plainGet K C Str.empty=true
 hd:PySem.W.hasDictIn K C=true
 po:PySem.W.plainOver K C=true
 sa:PySem.W.findIn K (.ref C) "__setattr__" = some (some (.builtin "object.__setattr__"))
theorem Cls.get {K:PySem.W.Frag} {C:Addr} (c:Cls K C) (f:Str):PySem.W.plainGet K C f=true:=c.pg
def zb3 (K:PySem.W.Frag) (C:Addr) (f:Str):Prop:=PySem.W.findIn K (.ref C) f=some none
theorem zb3.zsX {K:PySem.W.Frag} {C:Addr} {f:Str} (n:zb3 K C f):PySem.W.takerIn K C f=some none:=by
 unfold PySem.W.takerIn
 rw [show PySem.W.findIn K (.ref C) f=some none from n]
 rfl
structure Meth (K:PySem.W.Frag) (C:Addr) (m:Str) (f:Addr):Prop where
 at_:PySem.W.findIn K (.ref C) m=some (some (.ref f))
 fn:PySem.W.isFn K (.ref f)=true
 kp:PySem.W.keepIn K (.ref f)=true
section
variable {X:Cx} {pins:List (Addr×Obj)} {σ:St} {H:Hp} {s:Shared} {a C dx:Addr} {fs:List (Str×V)} {f:Str} {v:V} {A:Around} {E:Value->Shared->Prop}
theorem zny {b:Bool} {Q:Value->Shared->Prop} (I:Inv X pins σ H s) (e:H a=some (.ins C dx fs)) (c:Cls X.K C) (n:zb3 X.K C f) (l:fs.lookup f=some v)
  (h:∀ u s',Inv X pins σ H s'->RelV v u->Q u s'):wpAny (model X.prog X.w) A (getAttr (.ref a) f b) Q E s:=by
 obtain ⟨mA,O,r,_,_,_⟩:=zji I.hok e
 obtain ⟨u,hu,ru⟩:=RelO.some_of (v:=v) (o:=mA f) (by rw [<-l]; exact r f)
 exact get_map I.kIn O (c.get f) c.hd n hu (zoU ru) (h u _ (I.tok _) ru)
theorem zfY {m:Str} {g:Addr} {pl:Sem Bool} {Q:Value×List Value->Shared->Prop} (I:Inv X pins σ H s) (e:H a=some (.ins C dx fs)) (c:Cls X.K C) (k:Meth X.K C m g) (l:fs.lookup m=none)
  (h:Q (.ref g,[.ref a]) s):wpAny (model X.prog X.w) A (getMethod (.ref a) m pl) Q E s:=by
 obtain ⟨mA,O,r,_,_,_⟩:=zji I.hok e
 have hn:mA m=none:=RelO.none_of (by rw [<-l]; exact r m)
 exact zqa I.kIn O (c.get m) k.at_ k.fn hn h
theorem zng {y:V} {u:Value} {Q:Unit->Shared->Prop} (I:Inv X pins σ H s) (e:H a=some (.ins C dx fs)) (c:Cls X.K C) (n:zb3 X.K C f) (hl:fs.length < 1000) (ry:RelV y u)
   (h:∀ s',Inv X pins σ (upd H a (.ins C dx (putF f y fs))) s'->Q () s'):wpAny (model X.prog X.w) A (setAttr (.ref a) f u) Q E s:=by
 obtain ⟨mA,O,r,wi,_,ho⟩:=zji I.hok e
 have hz:(fs.map (·.1)).length<=sizeLine:=by rw [List.length_map,sizeLine_eq]; omega
 refine zrb I.kIn O c.sa c.po n.zsX c.hd wi hz λ h' O' sb=>h _ ?_
 have hd:∃ o,h'.get? dx=some o:=let ⟨o,_,_,e',_⟩:=O'.ns; ⟨o,e'⟩
 refine I.write (x:=a) (e:=dx) (by rw [e]; exact True.intro) (.inr ho) (λ b q hb z=>(sb.2 b hb).trans z) hd ?_
 refine ⟨by rw [zae O.ne]; exact ho,?_,O.ne,O'.obj,_,O'.ns,λ g=>?_,λ g hg=>?_⟩
 . have:=zhj f y fs; omega
 . show RelO ((putF f y fs).lookup g) (if g=f then some u else mA g)
   rw [zhi]
   by_cases q:g=f
   . rw [if_pos q,if_pos q]; exact ry
   . rw [if_neg q,if_neg q]; exact r g
 . by_cases q:g=f
   . rw [q]; exact (zhk f y fs).1
   . refine (zhk f y fs).2 g (wi g λ z=>hg ?_)
     show (if g=f then some u else mA g)=none
     rw [if_neg q]; exact z
theorem Inv.made (I:Inv X pins σ H s):Inv X pins σ (upd (upd H s.heap.objs.size (.own (s.heap.objs.size+1))) (s.heap.objs.size+1) (.ins C s.heap.objs.size []))
  { s with heap:=(s.heap.push PySem.W.emptyDict).push (PySem.W.instObj C s.heap.objs.size) }:=by
 have e1:(s.heap.push PySem.W.emptyDict).get? s.heap.objs.size=some PySem.W.emptyDict:=Heap.get?_push_size s.heap rfl
 have e2:((s.heap.push PySem.W.emptyDict).push (PySem.W.instObj C s.heap.objs.size)).get? (s.heap.objs.size+1)=some (PySem.W.instObj C s.heap.objs.size):=by
  have:=Heap.get?_push_size (s.heap.push PySem.W.emptyDict) (o:=PySem.W.instObj C s.heap.objs.size) rfl
  rwa [Heap.size_push] at this
 have e3:(s.heap.push PySem.W.emptyDict).Ns s.heap.objs.size (λ _=>none):=⟨PySem.W.emptyDict,#[],_,e1,rfl,(λ e he=>absurd he (by simp)),λ _=>rfl⟩
 have I1:=I.laid (a:=s.heap.objs.size) (o:=.own (s.heap.objs.size+1)) (h':=s.heap.push PySem.W.emptyDict) (t':=s.toks) (λ b u q=>Heap.get?_push_of_some _ q) (Nat.le_refl _) ⟨_,e1⟩
 refine I1.laid (a:=s.heap.objs.size+1) (o:=.ins C s.heap.objs.size []) (t':=s.toks) (λ b u q=>Heap.get?_push_of_some _ q) (Nat.le_of_eq (Heap.size_push _ _)) ?_
 have ne:s.heap.objs.size≠s.heap.objs.size+1:=Nat.ne_of_lt (Nat.lt_succ_self _)
 refine ⟨by rw [zae ne,zab],Nat.zero_le _,ne,e2,λ _=>none,(Heap.Ns1.of_empty e3).at λ o q=>Heap.get?_push_of_some _ q,λ _=>True.intro,λ y hy=>absurd rfl hy⟩
theorem zrJ {prog:Program} {w:World} {env:Env} {e:Expr} {f:Str} {pos:Pos} {s:Shared} {Q:Value->Shared->Prop} (hb:attributeBase e f env (eval e env)=eval e env)
  (h:wpAny (model prog w) A (eval e env) (λ o s₁=>wpAny (model prog w) A (getAttr o f true) Q E s₁) E s):wpAny (model prog w) A (eval (.Attribute e f pos) env) Q E s :=
 Attribute_any_ h (by rw [arm_eval_Attribute,hb])
end
def tFld (K:PySem.W.Frag) (ta:TE) (f:Str):TE:=λ σ H Q=>ta σ H λ x H1=>∃ a C dx fs v,x=.ref a/\H1 a=some (.ins C dx fs)/\Cls K C/\zb3 K C f/\fs.lookup f=some v/\Q v H1
def sFld (K:PySem.W.Frag) (ta tv:TE) (f:Str):TS:=λ D σ H=>tv σ H λ y H1=>ta σ H1 λ x H2=>∃ a C dx fs,x=.ref a/\H2 a=some (.ins C dx fs)/\Cls K C/\zb3 K C f/\fs.length < 1000 /\
 D.nx σ (upd H2 a (.ins C dx (putF f y fs)))
section
variable {X:Cx} {o e value:Expr} {f:Str} {pos pos' tpos:Pos} {ta tv:TE}
theorem zap (he:PE X e ta) (hb:attributeBase e f X.env (eval e X.env)=eval e X.env):PE X (.Attribute e f pos) (tFld X.K ta f):=by
 intro pins s σ H Q I h
 refine zrJ hb (thn (he pins s σ H _ I h) λ u s1 ⟨x,H1,I1,rx,a,C,dx,fs,v,ex,ea,c,n,l,q⟩=>?_)
 subst ex
 obtain rfl:u=Value.ref a:=rx
 exact zny I1 ea c n l λ u' s2 I2 ru=>⟨v,H1,I2,ru,q⟩
theorem zbQ (ha:PE X o ta) (hv:PE X value tv) (hs:swapsWith value (some (.Attribute o f pos')) pos.line X.env=pure false):PS X (.Assign [.Attribute o f pos'] value pos) (sFld X.K ta tv f):=by
 intro pins s σ H D I h
 refine plainObj_wpAny_Assign_Attribute (thn (hv pins s σ H _ I h) λ u s1 ⟨y,H1,I1,ry,q⟩=>thn (ha pins s1 σ H1 _ I1 q) λ ov s2 ⟨x,H2,I2,rx,a,C,dx,fs,ex,ea,c,n,l,q2⟩=>?_) hs
 subst ex
 obtain rfl:ov=Value.ref a:=rx
 exact zng I2 ea c n l ry λ s3 I3=>⟨σ,_,I3,q2⟩
theorem methcall_of {pl:Sem Bool} {m:Str} {apos:Pos} {args:List Expr} {pins:List (Addr×Obj)} {s:Shared} {σ:St} {H:Hp} {Q:Value->Shared->Prop} {te:TE} (he:PE X e te) (I:Inv X pins σ H s)
  (h:te σ H λ x H1=>∃ a C dx fs g,x=.ref a/\H1 a=some (.ins C dx fs)/\Cls X.K C/\Meth X.K C m g/\fs.lookup m=none /\
   ∀ s1,Inv X pins σ H1 s1->wpAny (model X.prog X.w) X.A (callWith pos (.ref g) [.ref a] (backTo pos (starEach args X.env)) (backToKw pos (keywordEach [] X.env))) Q X.xe s1)
  (ht:eval (.Call (.Attribute e m apos) args [] pos) X.env=(do
   let ov <-eval e X.env
   standAt apos.atName
   let (f,first) <-holding [ov] (getMethod ov m pl)
   callWith pos f first (backTo pos (starEach args X.env)) (backToKw pos (keywordEach [] X.env)))) :
  wpAny (model X.prog X.w) X.A (eval (.Call (.Attribute e m apos) args [] pos) X.env) Q X.xe s:=by
 refine PySem.W.methodCall_KW (pl:=pl) (thn (he pins s σ H _ I h) λ u s1 ⟨x,H1,I1,rx,a,C,dx,fs,g,ex,ea,c,k,l,q⟩=>?_) ht
 subst ex
 obtain rfl:u=Value.ref a:=rx
 exact zfY I1 ea c k l (q s1 I1)
end
section
variable {X:Cx} {pins:List (Addr×Obj)} {σ:St} {H:Hp} {s:Shared} {A:Around} {E:Value->Shared->Prop} {Q:Value->Shared->Prop} {c:Value} {b:Bool}
inductive TyOf (K:PySem.W.Frag) (H:Hp):V->Value->Prop where
 | non:TyOf K H .non (.type "NoneType")
 | bl (x:Bool):TyOf K H (.bl x) (.type "bool")
 | int (i:Int):TyOf K H (.int i) (.type "int")
 | str (x:Str):TyOf K H (.str x) (.type "str")
 | flt (x:UInt64):TyOf K H (.flt x) (.type "float")
 | lst {a:Addr} {xs:List V} (e:H a=some (.lst xs)):TyOf K H (.ref a) (.type "list")
 | frz {a:Addr} {o:Obj} {xs:List V} (e:H a=some (.frz o (.lst xs))):TyOf K H (.ref a) (.type "list")
 | tup {a:Addr} {xs:List V} (e:H a=some (.tup xs)):TyOf K H (.ref a) (.type "tuple")
 | dK {a:Addr} {kvs:List (Key×V)} (e:H a=some (.dK kvs)):TyOf K H (.ref a) (.type "dict")
 | dT {a:Addr} {kvs:List (List Key×V)} (e:H a=some (.dT kvs)):TyOf K H (.ref a) (.type "dict")
 | ins {a C dx:Addr} {fs:List (Str×V)} (e:H a=some (.ins C dx fs)) (cl:Cls K C) (ha:PySem.W.findIn K (.ref C) "__class__" = some (some (.builtin "object.__class__")))
  (hn:PySem.W.specialIn K (.builtin "object.__class__") "__get__" = some (some (.builtin "getset_descriptor.__get__"))) (htk:PySem.W.takesIn K (.builtin "object.__class__")=some true)
  (hm:PySem.W.mroIn K C (.type "object")=some true):TyOf K H (.ref a) (.ref C)
theorem zoP {x:V} {u t:Value} (I:Inv X pins σ H s) (rx:RelV x u) (ty:TyOf X.K H x t) (e:PySem.W.kitOne X.K t c=some b) (h:∀ tk,Q (.bool b) { s with toks:=tk }) :
  wpAny (model X.prog X.w) A (call (.builtin "isinstance") [u,c]) Q E s:=by
 cases ty with
 | non=>cases (show u=Value.none from rx); exact PySem.W.kia_one PySem.W.kitx_none I.kIn True.intro e (λ z=>nomatch z) h
 | bl y=>cases (show u=Value.bool y from rx); exact PySem.W.kia_one PySem.W.kitx_bool I.kIn True.intro e (λ z=>nomatch z) h
 | int i=>obtain ⟨t,q⟩:=(show ∃ t,u=Value.int i t from rx); cases q; exact PySem.W.kia_one PySem.W.kitx_int I.kIn True.intro e (λ z=>nomatch z) h
 | str y=>obtain ⟨t,q⟩:=(show ∃ t,u=Value.str y t from rx); cases q; exact PySem.W.kia_one PySem.W.kitx_str I.kIn True.intro e (λ z=>nomatch z) h
 | flt y=>obtain ⟨t,q⟩:=(show ∃ t,u=Value.float y t from rx); cases q; exact PySem.W.kia_one PySem.W.kitx_float I.kIn True.intro e (λ z=>nomatch z) h
 | @lst a xs ea =>
  cases (show u=Value.ref a from rx)
  obtain ⟨_,_,n,_,h1⟩:=(show zbZ X.prog X.w H s.heap a (.lst xs) from I.hok a _ ea)
  exact PySem.W.kia_one PySem.W.kitx_list I.kIn ⟨_,h1,rfl⟩ e (λ z=>nomatch z) h
 | @frz a ob xs ea =>
  cases (show u=Value.ref a from rx)
  obtain ⟨_,_,_,n,_,h1⟩:=(show zbZ X.prog X.w H s.heap a (.frz ob (.lst xs)) from I.hok a _ ea)
  exact PySem.W.kia_one PySem.W.kitx_list I.kIn ⟨_,h1,rfl⟩ e (λ z=>nomatch z) h
 | @tup a xs ea =>
  cases (show u=Value.ref a from rx)
  obtain ⟨_,_,_,p⟩:=(show zbZ X.prog X.w H s.heap a (.tup xs) from I.hok a _ ea)
  obtain ⟨o,h1,h2,_⟩:=p
  exact PySem.W.kia_one PySem.W.kitx_tuple I.kIn ⟨o,h1,h2⟩ e (λ z=>nomatch z) h
 | @dK a kvs ea =>
  cases (show u=Value.ref a from rx)
  obtain ⟨_,_,vs,_,p⟩:=(show zbZ X.prog X.w H s.heap a (.dK kvs) from I.hok a _ ea)
  obtain ⟨o,es,ep,h1,h2,_⟩:=p
  exact PySem.W.kia_one PySem.W.kitx_dict I.kIn ⟨o,h1,h2.1⟩ e (λ z=>nomatch z) h
 | @dT a kvs ea =>
  cases (show u=Value.ref a from rx)
  obtain ⟨_,_,xs,_,o,es,ep,h1,h2,_⟩:=(show zbZ X.prog X.w H s.heap a (.dT kvs) from I.hok a _ ea)
  exact PySem.W.kia_one PySem.W.kitx_dict I.kIn ⟨o,h1,h2.1⟩ e (λ z=>nomatch z) h
 | @ins a C dx fs ea cl ha hn htk hm =>
  cases (show u=Value.ref a from rx)
  obtain ⟨mA,O,_⟩:=zji I.hok ea
  obtain ⟨od,J,_⟩:=O.look
  exact PySem.W.kia_one (PySem.W.kitx_own (cl.get _) cl.hd ha hn htk hm) I.kIn J e (λ z=>nomatch z) h
end
end L2
namespace L2
open PySem PySem.Spec PyProof.Rows
structure Room (k:Nat) (A:Around):Prop where
 hd:A.handled=none
 dp:A.depth+3 * k+5 < recursionLimit
 un:A.units+16 * k+200 < cLine
theorem Room.mono {j k:Nat} {A:Around} (r:Room k A) (h:j<=k):Room j A:=⟨r.hd,by have:=r.dp; omega,by have:=r.un; omega⟩
theorem Room.deeper {k:Nat} {A:Around} (r:Room (k+1) A) (env:Env):Room k (A.deeper env) :=
 ⟨r.hd,by have:=r.dp; show A.depth+1+3 * k+5 < _; omega,by have:=r.un; show A.units+3+16 * k+200 < _; omega⟩
theorem znr {A:Around} {C:Addr} {us:List Value} {kw:List (Str×Value)}:(A.under (.builtin "type.__call__" ⟨.ref C::us,kw⟩)).depth=A.depth+1:=by
 first | rfl | simp [Around.under,Code.weight,Code.isCreation,Code.isGuard,Code.isCaller,Code.frames,Code.isFrame,guardIds]
theorem znq {A:Around} {C:Addr} {us:List Value} {kw:List (Str×Value)}:(A.under (.builtin "type.__call__" ⟨.ref C::us,kw⟩)).units=A.units+1:=by
 first | rfl | simp [Around.under,Code.cUnits,Code.frames,Code.isFrame]
theorem Room.make {k:Nat} {A:Around} (r:Room (k+1) A) (C:Addr) (us:List Value) (kw:List (Str×Value)):Room k (A.under (.builtin "type.__call__" ⟨.ref C::us,kw⟩)) :=
 ⟨r.hd,by have:=r.dp; rw [znr]; omega,by have:=r.un; rw [znq]; omega⟩
theorem Room.depth {k:Nat} {A:Around} (r:Room k A):A.depth < recursionLimit:=by have:=r.dp; omega
theorem Room.units {k:Nat} {A:Around} (r:Room k A):A.units+64 < cLine:=by have:=r.un; omega
def tNil:TA:=λ _ H Q=>Q [] H
def zpx (ta:TE) (tr:TA):TA:=λ σ H Q=>ta σ H λ x H1=>tr σ H1 λ xs H2=>Q (x::xs) H2
section
variable {X:Cx} {e:Expr} {es:List Expr} {te:TE} {t:TA} {pos:Pos}
theorem zad:PA X [] tNil:=λ _ _ _ _ H Q I h=>Calls.spliced_nil ⟨[],H,I,.nil,h⟩
theorem zaa (ha:PE X e te) (hr:PA X es t) (hs:starEach (e::es) X.env=(false,eval e X.env)::starEach es X.env:=by rfl):PA X (e::es) (zpx te t):=by
 intro pos pins s σ H Q I h
 rw [hs]
 show wpAny _ _ (spliced ((false,eval e X.env)::backTo pos (starEach es X.env))) _ _ s
 refine Calls.spliced_cons (thn (ha pins s σ H _ I h) λ u s1 ⟨x,H1,I1,r1,q1⟩=>?_)
 exact thn (hr pos pins s1 σ H1 _ I1 q1) λ us s2 ⟨xs,H2,I2,r2,q2⟩=>⟨x::xs,H2,I2,.cons r1 r2,q2⟩
def tTup (t:TA):TE:=λ σ H Q=>t σ H λ xs H1=>xs.length<=sizeLine/\∀ p,H1 p=none->Q (.ref p) (upd H1 p (.tup xs))
def tLst (t:TA):TE:=λ σ H Q=>t σ H λ xs H1=>xs.length<=sizeLine/\∀ p,H1 p=none->Q (.ref p) (upd H1 p (.lst xs))
theorem zbk {x1} (h:PA X es t):PE X (.Tuple es x1 pos) (tTup t):=by
 intro pins s σ H Q I hq
 refine wpAny_Tuple_spliced (thn (h pos pins s σ H _ I hq) λ us s1 ⟨xs,H1,I1,r,z,q⟩=>⟨by rw [<-r.length]; exact z,?_⟩)
 have hf:H1 s1.heap.objs.size=none:=I1.hok.fresh (Nat.le_refl _)
 refine ⟨.ref s1.heap.objs.size,upd H1 s1.heap.objs.size (.tup xs),I1.laid (t':=s1.toks) (λ b u e=>Heap.get?_push_of_some _ e) (Nat.le_refl _) ?_,rfl,q _ hf⟩
 exact ⟨z,us,r,⟨_,Heap.get?_push_size _ rfl,rfl,_,rfl⟩⟩
theorem zcq (h:PA X es t):PE X (.List es pos) (tLst t):=by
 intro pins s σ H Q I hq
 refine wpAny_List_spliced (thn (h pos pins s σ H _ I hq) λ us s1 ⟨xs,H1,I1,r,z,q⟩=>⟨by rw [<-r.length]; exact z,?_⟩)
 have hf:H1 s1.heap.objs.size=none:=I1.hok.fresh (Nat.le_refl _)
 refine ⟨.ref s1.heap.objs.size,upd H1 s1.heap.objs.size (.lst xs),I1.laid (t':=s1.toks) (λ b u e=>Heap.get?_push_of_some _ e) (Nat.le_refl _) ?_,rfl,q _ hf⟩
 exact ⟨z,us,0,r,Heap.get?_push_size _ rfl⟩
end
abbrev Sp:=List V->Hp->VK->XK->Prop
abbrev CXT:=List Env->Hp->Shared->XK->Value->Shared->Prop
structure Env0 (P:Program) (w:World) (K:PySem.W.Frag) (mg:Str->Option Value) (base:Heap) (A:Around) (outer:List Env) (s:Shared) (H:Hp):Prop where
 frames:A.frames=some outer
 mod:Mod K mg base
 bs:∀ b o,base.get? b=some o->s.heap.get? b=some o/\H b=none
 bsz:base.objs.size<=s.heap.objs.size
 funs:s.heap.FunFrames base outer
 frf:∀ b∈frs outer,H b=none
 hok:HOk P w H s.heap
 bare:AllBare s.gens
def CE (outer:List Env) (P:Program) (w:World) (H:Hp) (s:Shared) (Q:VK) (u:Value) (s':Shared):Prop :=
 ∃ v H',s'.os=s.os/\AllBare s'.gens/\Un (frs outer) [] H H' s.heap s'.heap/\HOk P w H' s'.heap/\RelV v u/\Q v H'
def CR (CX:CXT) (outer:List Env) (P:Program) (w:World) (H:Hp) (s:Shared) (Q:VK) (E:XK) (r:Result) (s':Shared):Prop :=
 match r with
 | .ok (.ret u)=>CE outer P w H s Q u s'
 | .ok _=>False
 | .error e=>CX outer H s E e s'
structure FnOk (P:Program) (w:World) (K:PySem.W.Frag) (mg:Str->Option Value) (base:Heap) (CX:CXT) (k:Nat) (f:Addr) (fd:FuncData) (ps:List Str) (sp:Sp):Prop where
 len:∀ vs H Q E,sp vs H Q E->vs.length=ps.length
 run:∀ (A:Around) (outer:List Env) (s:Shared) (H:Hp) (args:Args) (us:List Value) (vs:List V) (Q:VK) (E:XK),Room k A->Env0 P w K mg base A outer s H->BindsTo s fd args (ps.zip us)->Vals vs us->sp vs H Q E ->
  codeAny (model P w) A (.call (.ref f) args) (CR CX outer P w H s Q E) s
theorem Env0.make {P:Program} {w:World} {K:PySem.W.Frag} {mg:Str->Option Value} {base:Heap} {A:Around} {outer:List Env} {s:Shared} {H:Hp} (e:Env0 P w K mg base A outer s H) (C:Addr) (us:List Value) (kw:List (Str×Value)) :
 Env0 P w K mg base (A.under (.builtin "type.__call__" ⟨.ref C::us,kw⟩)) outer s H:=⟨by first | exact e.frames | (simpa [Around.under,Code.envs,Code.isFrame,pushEnvs] using e.frames),e.mod,e.bs,e.bsz,e.funs,e.frf,e.hok,e.bare⟩
section
variable {X:Cx} {pins:List (Addr×Obj)} {σ:St} {H:Hp} {s s':Shared}
theorem Inv.env0 (I:Inv X pins σ H s):Env0 X.prog X.w X.K X.mg X.base X.A X.stack s H :=
 ⟨I.ok.frames,I.ok.mod,I.bs,Nat.le_trans I.ok.bsz I.sz,I.stack,I.zgN,I.hok,I.bare⟩
theorem Inv.after {Q:VK} {u:Value} (I:Inv X pins σ H s) (h:CE X.stack X.prog X.w H s Q u s'):EP X pins σ Q u s':=by
 obtain ⟨v,H',os,bare,un,hok,r,q⟩:=h
 obtain ⟨hh,g,d,t,os'⟩:=s'
 obtain rfl:os'=s.os:=os
 exact ⟨v,H',I.call (h':=hh) (g':=g) (d':=d) (t':=t) (ch:=[]) un hok bare (λ b z=>absurd z (by simp)),r,q⟩
end
def zs3 (sp:Sp) (dvs:List V) (E:XK) (t:TA):TE:=λ σ H Q=>t σ H λ vs H1=>sp (vs++dvs) H1 Q E
def zrU (C:Addr) (m:Str) (sp:Sp) (dvs:List V) (E:XK) (ta:TE) (t:TA):TE:=λ σ H Q=>ta σ H λ x H1=>∃ a dx fs,x=.ref a/\H1 a=some (.ins C dx fs)/\fs.lookup m=none /\
 t σ H1 λ vs H2=>sp (x::(vs++dvs)) H2 Q E
def zrV (C:Addr) (sp:Sp) (dvs:List V) (E:XK) (t:TA):TE:=λ σ H Q=>t σ H λ vs H1=>∀ x dx,H1 x=none->H1 dx=none->dx≠x ->
 sp (.ref x::(vs++dvs)) (upd (upd H1 dx (.own x)) x (.ins C dx [])) (λ v H2=>v=.non/\Q (.ref x) H2) E
def Binds (K:PySem.W.Frag) (fd:FuncData) (ps:List Str) (ds:List Value):Prop :=
 ∀ (s:Shared) (us:List Value),K.In s.heap->(us++ds).length=ps.length->BindsTo s fd ⟨us,[]⟩ (ps.zip (us++ds))
theorem Binds.all {K:PySem.W.Frag} {fd:FuncData} {ps:List Str} (h:∀ us:List Value,us.length=ps.length->bindArgs fd ⟨us,[]⟩=pure (ps.zip us)):Binds K fd ps []:=λ s us _ hl=>by
 rw [List.append_nil] at hl ⊢
 exact .of_eq (h us hl)
def Passes (CX:CXT) (X:Cx) (E:XK):Prop:=∀ (pins:List (Addr×Obj)) (σ:St) (H:Hp) (s:Shared) (e:Value) (s':Shared),Inv X pins σ H s->CX X.stack H s E e s'->X.xe e s'
section
variable {X:Cx} {CX:CXT} {k:Nat} {f C:Addr} {fd:FuncData} {ps:List Str} {sp:Sp} {dvs:List V} {ds:List Value} {E:XK} {x m:Str} {p pos apos:Pos} {e o:Expr} {es:List Expr} {ta:TE} {t:TA}
theorem zod {pins:List (Addr×Obj)} {σ:St} {H:Hp} {s:Shared} {Q:VK} {us:List Value} {vs:List V} (F:FnOk X.prog X.w X.K X.mg X.base CX k f fd ps sp) (hr:Room k X.A) (hb:Binds X.K fd ps ds) (hd:Vals dvs ds) (hx:Passes CX X E)
  (I:Inv X pins σ H s) (r:Vals vs us) (h:sp (vs++dvs) H Q E):wpAny (model X.prog X.w) X.A (call (.ref f) us) (EP X pins σ Q) X.xe s:=by
 have r2:Vals (vs++dvs) (us++ds):=r.append hd
 have hl:(us++ds).length=ps.length:=by rw [<-r2.length]; exact F.len _ _ _ _ h
 refine wpAny_call (codeAny_mono (F.run X.A X.stack s H ⟨us,[]⟩ (us++ds) (vs++dvs) Q E hr I.env0 (hb s us I.kIn hl) r2 h) λ r s' hq=>?_)
 cases r with
 | error e=>exact hx pins σ H s e s' I hq
 | ok fl =>
  cases fl with
  | ret u=>exact I.after hq
  | next=>exact False.elim hq
  | brk=>exact False.elim hq
  | cont=>exact False.elim hq
theorem zaV (F:FnOk X.prog X.w X.K X.mg X.base CX k f fd ps sp) (hr:Room k X.A) (hg:Gl X x) (hm:X.mg x=some (.ref f)) (hk:PySem.W.keepIn X.K (.ref f)=true) (hb:Binds X.K fd ps ds) (hd:Vals dvs ds) (hx:Passes CX X E)
  (ha:PA X (e::es) t) (hdb:(x == ("__debug__" : Str))=false:=by decide) (he:starEach (e::es) X.env=(false,eval e X.env)::starEach es X.env:=by rfl) (hpl:(backTo pos (starEach es X.env)).any (·.1)=false:=by rfl) :
  PE X (.Call (.Name x p) (e::es) [] pos) (zs3 sp dvs E t):=by
 intro pins s σ H Q I h
 refine wpAny_Call_Name_kw (zfT I hg hm ?_ hdb)
 refine PySem.W.callWith_K (h₀:=X.base) I.ok.mod.kin hk (thn (ha pos pins s σ H _ I h) λ us s1 ⟨vs,H1,I1,r,q⟩=>⟨I1.kIn,?_⟩) he hpl
 exact zod F hr hb hd hx I1 r q
theorem zaD {pl:Sem Bool} (he:PE X o ta) (c:Cls X.K C) (hm:Meth X.K C m f) (F:FnOk X.prog X.w X.K X.mg X.base CX k f fd ps sp) (hr:Room k X.A) (hb:Binds X.K fd ps ds) (hd:Vals dvs ds) (hx:Passes CX X E) (ha:PA X (e::es) t)
  (hst:starEach (e::es) X.env=(false,eval e X.env)::starEach es X.env:=by rfl) (hpl:(backTo pos (starEach es X.env)).any (·.1)=false:=by rfl)
  (ht:eval (.Call (.Attribute o m apos) (e::es) [] pos) X.env=(do
   let ov <-eval o X.env
   standAt apos.atName
   let (f,first) <-holding [ov] (getMethod ov m pl)
   callWith pos f first (backTo pos (starEach (e::es) X.env)) (backToKw pos (keywordEach [] X.env))):=by rfl) :
  PE X (.Call (.Attribute o m apos) (e::es) [] pos) (zrU C m sp dvs E ta t):=by
 intro pins s σ H Q I h
 refine PySem.W.methodCall_KW (pl:=pl) (thn (he pins s σ H _ I h) λ u s1 ⟨x,H1,I1,rx,a,dx,fs,ex,ea,l,q⟩=>?_) ht
 subst ex
 obtain rfl:u=Value.ref a:=rx
 refine zfY I1 ea c hm l ?_
 refine PySem.W.callWith_K (first:=[.ref a]) (h₀:=X.base) I.ok.mod.kin hm.kp (thn (ha pos pins s1 σ H1 _ I1 q) λ us s2 ⟨vs,H2,I2,r,q2⟩=>⟨I2.kIn,?_⟩) hst hpl
 exact zod (us:=.ref a::us) (vs:=.ref a::vs) F hr hb hd hx I2 (.cons rfl r) q2
theorem zcX {pl:Sem Bool} (he:PE X o ta) (c:Cls X.K C) (hm:Meth X.K C m f) (F:FnOk X.prog X.w X.K X.mg X.base CX k f fd ps sp) (hr:Room k X.A) (hb:Binds X.K fd ps ds) (hd:Vals dvs ds) (hx:Passes CX X E)
  (ht:eval (.Call (.Attribute o m apos) [] [] pos) X.env=(do
   let ov <-eval o X.env
   standAt apos.atName
   let (f,first) <-holding [ov] (getMethod ov m pl)
   callWith pos f first (backTo pos (starEach [] X.env)) (backToKw pos (keywordEach [] X.env))):=by rfl) :
  PE X (.Call (.Attribute o m apos) [] [] pos) (zrU C m sp dvs E ta tNil):=by
 intro pins s σ H Q I h
 refine PySem.W.methodCall_KW (pl:=pl) (thn (he pins s σ H _ I h) λ u s1 ⟨x,H1,I1,rx,a,dx,fs,ex,ea,l,q⟩=>?_) ht
 subst ex
 obtain rfl:u=Value.ref a:=rx
 refine zfY I1 ea c hm l ?_
 exact PySem.W.callWith_K0 (first:=[.ref a]) I1.kIn hm.kp (zod (us:=[.ref a]) (vs:=[.ref a]) F hr hb hd hx I1 (.cons rfl .nil) q)
structure Mk (K:PySem.W.Frag) (C f:Addr):Prop where
 makes:PySem.W.makesIn K C=true
 init:PySem.W.findIn K (.ref C) "__init__" = some (some (.ref f))
 fn:PySem.W.isFn K (.ref f)=true
 kp:PySem.W.keepIn K (.ref C)=true
theorem zmq {pins:List (Addr×Obj)} {σ:St} {H:Hp} {s:Shared} {Q:VK} {us:List Value} {vs:List V} (M:Mk X.K C f) (F:FnOk X.prog X.w X.K X.mg X.base CX k f fd ps sp) (hr:Room (k+1) X.A) (hb:Binds X.K fd ps ds) (hd:Vals dvs ds)
  (hx:Passes CX X E) (I:Inv X pins σ H s) (r:Vals vs us)
  (h:∀ x dx,H x=none->H dx=none->dx≠x->sp (.ref x::(vs++dvs)) (upd (upd H dx (.own x)) x (.ins C dx [])) (λ v H2=>v=.non/\Q (.ref x) H2) E) :
  wpAny (model X.prog X.w) X.A (call (.ref C) us) (EP X pins σ Q) X.xe s:=by
 have hq:=h (s.heap.objs.size+1) s.heap.objs.size (I.hok.fresh (Nat.le_succ _)) (I.hok.fresh (Nat.le_refl _)) (Nat.ne_of_lt (Nat.lt_succ_self _))
 have I2:=Inv.made (C:=C) I
 have r2:Vals (V.ref (s.heap.objs.size+1)::(vs++dvs)) (Value.ref (s.heap.objs.size+1)::(us++ds)):=.cons rfl (r.append hd)
 have hl:(Value.ref (s.heap.objs.size+1)::us++ds).length=ps.length:=by
  have e:=r2.length
  rw [F.len _ _ _ _ hq] at e
  exact e.symm
 refine wpAny_call (zpX (f:=f) I.kIn M.makes M.init (beq_iff_eq.mp M.fn) (codeAny_mono (F.run _ X.stack _ _ ⟨Value.ref (s.heap.objs.size+1)::us,[]⟩ (Value.ref (s.heap.objs.size+1)::(us++ds)) _ _ E (hr.make C us [])
  (I2.env0.make C us []) (hb _ (Value.ref (s.heap.objs.size+1)::us) I2.kIn hl) r2 hq) λ r s' hq'=>?_))
 cases r with
 | error e=>exact hx pins σ _ _ e s' I2 hq'
 | ok fl =>
  cases fl with
  | ret u =>
   obtain ⟨v,H',I3,rv,ev,q3⟩:=I2.after hq'
   subst ev
   exact ⟨rv,⟨V.ref (s.heap.objs.size+1),H',I3,rfl,q3⟩⟩
  | next=>exact False.elim hq'
  | brk=>exact False.elim hq'
  | cont=>exact False.elim hq'
theorem zok (M:Mk X.K C f) (F:FnOk X.prog X.w X.K X.mg X.base CX k f fd ps sp) (hr:Room (k+1) X.A) (hg:Gl X x) (hm:X.mg x=some (.ref C)) (hb:Binds X.K fd ps ds) (hd:Vals dvs ds) (hx:Passes CX X E)
  (ha:PA X (e::es) t) (hdb:(x == ("__debug__" : Str))=false:=by decide) (he:starEach (e::es) X.env=(false,eval e X.env)::starEach es X.env:=by rfl) (hpl:(backTo pos (starEach es X.env)).any (·.1)=false:=by rfl) :
  PE X (.Call (.Name x p) (e::es) [] pos) (zrV C sp dvs E t):=by
 intro pins s σ H Q I h
 refine wpAny_Call_Name_kw (zfT I hg hm ?_ hdb)
 refine PySem.W.callWith_K (h₀:=X.base) I.ok.mod.kin M.kp (thn (ha pos pins s σ H _ I h) λ us s1 ⟨vs,H1,I1,r,q⟩=>⟨I1.kIn,?_⟩) he hpl
 exact zmq M F hr hb hd hx I1 r q
theorem zi0 (M:Mk X.K C f) (F:FnOk X.prog X.w X.K X.mg X.base CX k f fd ps sp) (hr:Room (k+1) X.A) (hg:Gl X x) (hm:X.mg x=some (.ref C)) (hb:Binds X.K fd ps ds) (hd:Vals dvs ds) (hx:Passes CX X E)
  (hdb:(x == ("__debug__" : Str))=false:=by decide):PE X (.Call (.Name x p) [] [] pos) (zrV C sp dvs E tNil):=by
 intro pins s σ H Q I h
 refine wpAny_Call_Name_kw (zfT I hg hm ?_ hdb)
 exact PySem.W.callWith_K0 I.kIn M.kp (zmq (us:=[]) M F hr hb hd hx I .nil h)
end
section
variable {X:Cx} {CX:CXT} {k:Nat} {f C:Addr} {fd:FuncData} {ps ks:List Str} {sp:Sp} {E:XK} {x m:Str} {p pos apos kpos:Pos} {e o:Expr} {es:List Expr} {kws:List Keyword} {te ta:TE} {t tk:TA} {nm:Option Str}
variable {g:List Value->List Value->List Value} {gV:List V->List V->List V}
end
structure zat (N P:List Str) (sc:Scope):Prop where
 kind:sc.kind=.function
 co:sc.isCoroutine=false
 gen:sc.isGenerator=false
 nd:N.Nodup
 pre:N.take P.length=P
 par:∀ x∈P,sc.names.lookup x=some .local\/sc.names.lookup x=some .cell
 zsx:∀ y∈sc.names,y.2≠.free
theorem zkO {kindOf:Str->Option NameKind} {x:Str}:∀ {binds:List (Str×Value)} {m:Str->Option Value},(∀ v,(x,v)∉binds)->bindL kindOf binds m x=m x
 | [],_,_=>rfl
 | (n,v)::r,m,h=>by
  unfold bindL
  rw [zkO λ w hw=>h w (List.mem_cons_of_mem _ hw)]
  split
  . have:x≠n:=by rintro rfl; exact h v List.mem_cons_self
    simp [this]
  . rfl
theorem zkQ {kindOf:Str->Option NameKind} {x:Str}:∀ {binds:List (Str×Value)} {m:Str->Option Value},(∀ v,(x,v)∉binds)->bindC kindOf binds m x=m x
 | [],_,_=>rfl
 | (n,v)::r,m,h=>by
  unfold bindC
  rw [zkQ λ w hw=>h w (List.mem_cons_of_mem _ hw)]
  split
  . rfl
  . have:x≠n:=by rintro rfl; exact h v List.mem_cons_self
    simp [this]
theorem zkP {kindOf:Str->Option NameKind} {x:Str} {v:Value}:∀ {P:List Str} {vs:List Value} {i:Nat} {m:Str->Option Value},P.Nodup->P[i]?=some x->vs[i]?=some v->kindOf x=some .local ->
  bindL kindOf (P.zip vs) m x=some v
 | [],_,_,_,_,h,_,_=>by simp at h
 | _::_,[],_,_,_,_,h,_=>by simp at h
 | p::P,w::vs,0,m,nd,h1,h2,hk=>by
  simp at h1 h2; subst h1; subst h2
  show bindL kindOf ((p,w)::P.zip vs) m p=_
  unfold bindL
  rw [zkO λ v hv=>(List.nodup_cons.mp nd).1 (List.of_mem_zip hv).1,if_pos hk]
  simp
 | p::P,w::vs,i+1,m,nd,h1,h2,hk=>by
  show bindL kindOf ((p,w)::P.zip vs) m x=_
  unfold bindL
  exact zkP (i:=i) (List.nodup_cons.mp nd).2 (by simpa using h1) (by simpa using h2) hk
theorem zkR {kindOf:Str->Option NameKind} {x:Str} {v:Value}:∀ {P:List Str} {vs:List Value} {i:Nat} {m:Str->Option Value},P.Nodup->P[i]?=some x->vs[i]?=some v->kindOf x≠some .local ->
  bindC kindOf (P.zip vs) m x=some v
 | [],_,_,_,_,h,_,_=>by simp at h
 | _::_,[],_,_,_,_,h,_=>by simp at h
 | p::P,w::vs,0,m,nd,h1,h2,hk=>by
  simp at h1 h2; subst h1; subst h2
  show bindC kindOf ((p,w)::P.zip vs) m p=_
  unfold bindC
  rw [zkQ λ v hv=>(List.nodup_cons.mp nd).1 (List.of_mem_zip hv).1,if_neg hk]
  simp
 | p::P,w::vs,i+1,m,nd,h1,h2,hk=>by
  show bindC kindOf ((p,w)::P.zip vs) m x=_
  unfold bindC
  exact zkR (i:=i) (List.nodup_cons.mp nd).2 (by simpa using h1) (by simpa using h2) hk
def start (N:List Str) (vs:List V):St:=vs.map some++List.replicate (N.length - vs.length) none
def cxOf (CX:CXT) (P:Program) (w:World) (K:PySem.W.Frag) (mg:Str->Option Value) (base:Heap) (N:List Str) (qual:Str) (scope:Scope) (f:Addr) (cd:Value) (A:Around) (outer:List Env) (s:Shared) (H:Hp) (E:XK):Cx where
 prog:=P
 w:=w
 K:=K
 mg:=mg
 base:=base
 A:=A.deeper (envOfC qual scope s.heap.objs.size f cd)
 N:=N
 s₀:=s
 H₀:=H
 env:=envOfC qual scope s.heap.objs.size f cd
 outer:=outer
 stack:=envOfC qual scope s.heap.objs.size f cd::outer
 ex:=[]
 calm:=true
 fn:=λ _=>true
 pn:=[]
 xe:=λ e s'=>wpAny (model P w) (A.deeper (envOfC qual scope s.heap.objs.size f cd)) (leaving (envOfC qual scope s.heap.objs.size f cd) e) (λ _ s''=>CX outer H s E e s'') (λ e' s''=>CX outer H s E e' s'') s'
theorem zmY {sc:Scope} {n:Nat} {x:Str} (h:sc.names.lookup x=some .cell):∃ c,(cellsFrom n sc.names []).lookup x=some c:=by
 have q:=PySem.W.cellsFrom_some sc.names n [] (.inl h)
 exact Option.isSome_iff_exists.mp q
theorem zoQ {CX:CXT} {P:Program} {w:World} {K:PySem.W.Frag} {mg:Str->Option Value} {base:Heap} {N ps:List Str} {qual:Str} {scope:Scope} {f:Addr} {cd:Value} {A:Around} {outer:List Env} {s s1:Shared} {H:Hp} {E:XK} {us:List Value} {vs:List V}
   (S:zat N ps scope) (hd:A.handled=none) (e0:Env0 P w K mg base A outer s H) (hl:vs.length=ps.length) (r:Vals vs us)
   (x:InCallC s s.heap.objs.size (bindL (envOfC qual scope s.heap.objs.size f cd).kindOf (ps.zip us) λ _=>none) (cellsFrom (s.heap.objs.size+1) scope.names []) (bindC (envOfC qual scope s.heap.objs.size f cd).kindOf (ps.zip us) λ _=>none) s1) :
   Inv (cxOf CX P w K mg base N qual scope f cd A outer s H E) [] (start N vs) H s1:=by
 have hpl:ps.length<=N.length:=by have:=congrArg List.length S.pre; rw [List.length_take] at this; omega
 obtain ⟨h1,tk,rfl,hk⟩:=x.done
 have noA:∀ b:Addr,b∉(cxOf CX P w K mg base N qual scope f cd A outer s H E).ex:=λ b z=>absurd (show b∈([]:List Addr) from z) (by simp)
 refine ⟨⟨e0.mod,S.kind,rfl,rfl,Nat.le_refl _,λ y z c h1 h2=>?_,λ y hy=>?_,λ y c _ h=>?_,λ _=>hd,Around.frames_deeper e0.frames,.inr ⟨rfl,rfl⟩,λ b z=>absurd z (noA b),e0.bs,e0.bsz,λ b _ _=>noA b,λ b z=>absurd z (noA b),e0.funs,e0.frf⟩,
   rfl,e0.bare,Un.kept hk,⟨_,x.toInCall.ns,λ i y v h1 h2 h3=>?_⟩,λ y c h=>⟨_,x.cell y c h⟩,e0.hok.fresh (Nat.le_refl _),λ y c h=>?_,λ p hp=>absurd (show p∈([]:List (Addr×Obj)) from hp) (by simp),e0.hok.kept hk,?_⟩
 . exact name_of_addr x.apart (PySem.mem_of_lookup h1) (PySem.mem_of_lookup h2)
 . have hy:scope.names.lookup y=some .cell\/scope.names.lookup y=some .free:=hy
   rcases hy with hy | hy
   . exact zmY hy
   . exact absurd rfl (S.zsx _ (PySem.mem_of_lookup hy))
 . exact Nat.le_of_lt (x.above y c (PySem.mem_of_lookup h))
 . have hi:i < vs.length:=by
     unfold start at h2
     by_cases hi:i < vs.length
     . exact hi
     . rw [List.getElem?_append_right (by simpa using hi)] at h2
       rw [List.getElem?_replicate] at h2
       split at h2 <;> cases h2
   have ha:vs[i]?=some v:=by
     unfold start at h2
     rw [List.getElem?_append_left (by simpa using hi),List.getElem?_map] at h2
     cases e:vs[i]? with
     | none=>rw [e] at h2; cases h2
     | some a=>rw [e] at h2; cases h2; rfl
   obtain ⟨u,hu,rv⟩:=r.get ha
   have hp:ps[i]?=some y:=by
     rw [<-S.pre,List.getElem?_take_of_lt (by omega)]; exact h1
   have ndP:ps.Nodup:=by rw [<-S.pre]; exact S.nd.sublist (List.take_sublist _ _)
   refine ⟨u,rv,?_⟩
   rcases S.par y (List.mem_of_getElem? hp) with k | k
   . exact .inl ⟨k,zkP ndP hp hu k⟩
   . obtain ⟨c,e⟩:=zmY (n:=s.heap.objs.size+1) k
     refine .inr ⟨.inl k,c,e,?_⟩
     have q:=x.cell y c e
     rw [zkR ndP hp hu (by show scope.names.lookup y≠_; rw [k]; decide)] at q
     exact q
 . exact e0.hok.fresh (Nat.le_of_lt (x.above y c (PySem.mem_of_lookup h)))
 . unfold start
   show _=N.length
   rw [List.length_append,List.length_map,List.length_replicate]
   omega
theorem ztn {CX:CXT} {P:Program} {w:World} {K:PySem.W.Frag} {mg:Str->Option Value} {base:Heap} {k:Nat} {f:Addr} {name qual:Str} {params:Arguments} {body:List Stmt} {scope:Scope} {dV kV doc pm cdv ct oc:Value} {an od:Option Addr}
  {osl:Array (Option Value)} {N ps:List Str} {sp:Sp} (lk:K.lookup f=some ⟨oc,od,.func (PySem.W.fnOf name qual params body scope dV kV doc pm an cdv ct),osl⟩) (hcd:PySem.W.codeIn K cdv qual=true) (S:zat N ps scope)
  (len:∀ vs H Q E,sp vs H Q E->vs.length=ps.length)
  (hbody:∀ (A:Around) (outer:List Env) (s:Shared) (H:Hp) (vs:List V) (Q:VK) (E:XK),Room k (A.deeper (envOfC qual scope s.heap.objs.size f cdv))->sp vs H Q E ->
    ∃ t,PSs (cxOf CX P w K mg base N qual scope f cdv A outer s H E) body t/\t { nx:=λ _ H'=>Q .non H',rt:=Q } (start N vs) H) :
  FnOk P w K mg base CX (k+1) f (PySem.W.fnOf name qual params body scope dV kV doc pm an cdv ct) ps sp:=by
 refine ⟨len,λ A outer s H args us vs Q E hr e0 hb r hsp=>?_⟩
 have hl:=len _ _ _ _ hsp
 have KX:K.In s.heap:=e0.mod.kin.keeps λ b o e=>(e0.bs b o e).1
 have lim:s.heap.NoLimit:=e0.mod.nolimit.keeps λ b o e=>(e0.bs b o e).1
 have hkind:∀ y∈ps.zip us,scope.names.lookup y.1=some .local\/(scope.names.lookup y.1=some .cell/\((cellsFrom (s.heap.objs.size+1) scope.names []).lookup y.1).isSome=true):=λ ⟨n,v⟩ hy=>by
  rcases S.par n (List.of_mem_zip hy).1 with q | q
  . exact .inl q
  . exact .inr ⟨q,PySem.W.cellsFrom_some _ _ _ (.inl q)⟩
 refine codeAny_call_function hr.depth (KX _ _ lk) rfl S.co S.gen rfl (PySem.W.codeRec_of KX hcd) (hb _ _ _ _ ?_)
 refine wpAny_newFunctionEnv_cells S.kind hkind λ env he s1 x=>?_
 subst he
 refine ⟨lim.keeps x.toInCall.keep,codeAny_func ?_⟩
 obtain ⟨t,ht,hq⟩:=hbody A outer s H vs Q E (hr.deeper _) hsp
 have I:Inv (cxOf CX P w K mg base N qual scope f cdv A outer s H E) [] (start N vs) H s1:=zoQ S hr.hd e0 hl r x
 refine wpAny_mono (ht [] s1 (start N vs) H _ I hq) (λ fl s' hs=>?_) λ e s' hs=>hs
 have fin:∀ {σ':St} {H':Hp} {v:V} {u:Value},Inv (cxOf CX P w K mg base N qual scope f cdv A outer s H E) [] σ' H' s'->RelV v u->Q v H'->CE outer P w H s Q u s' :=
  λ {σ' H' v u} J rv q=>⟨v,H',J.os,J.bare,J.base,J.hok,rv,q⟩
 cases fl with
 | ret u =>
  obtain ⟨v,σ',H',J,rv,q⟩:=hs
  exact fin J rv q
 | next =>
  obtain ⟨σ',H',J,q⟩:=hs
  exact fin (v:=V.non) (u:=Value.none) J rfl q
 | brk =>
  obtain ⟨_,_,_,q⟩:=hs
  exact False.elim q
 | cont =>
  obtain ⟨_,_,_,q⟩:=hs
  exact False.elim q
end L2
namespace L2
open PySem PySem.Spec PyProof.Rows
section
variable {X:Cx} {x:Str} {p pos:Pos} {e:Expr} {es:List Expr} {t:TA} {id T:String} {r:List V->Hp->VK->Prop}
def tCB (r:List V->Hp->VK->Prop) (t:TA):TE:=λ σ H Q=>t σ H λ vs H1=>r vs H1 Q
theorem zbf (hc:zid X (.builtin id) r) (hg:Gl X x) (hm:X.mg x=none) (hv:bootBuiltins x=some (.builtin id)) (ha:PA X (e::es) t) (hn:x ≠ "__name__" := by decide) (hdb:(x == ("__debug__" : Str))=false:=by decide)
  (he:starEach (e::es) X.env=(false,eval e X.env)::starEach es X.env:=by rfl) (hpl:(backTo pos (starEach es X.env)).any (·.1)=false:=by rfl):PE X (.Call (.Name x p) (e::es) [] pos) (tCB r t):=by
 intro pins s σ H Q I h
 refine wpAny_Call_Name_kw (zkx I hg hm hv ?_ hn hdb)
 exact PyProof.Rows.callWith_builtin1 (thn (ha pos pins s σ H _ I h) λ us s1 ⟨vs,H1,I1,r1,q1⟩=>hc pins s1 σ H1 vs us Q I1 r1 q1) he hpl
theorem zcr (hc:zid X (.type T) r) (hg:Gl X x) (hm:X.mg x=none) (hv:bootBuiltins x=some (.type T)) (ha:PA X (e::es) t) (hn:x ≠ "__name__" := by decide) (hdb:(x == ("__debug__" : Str))=false:=by decide)
  (he:starEach (e::es) X.env=(false,eval e X.env)::starEach es X.env:=by rfl) (hpl:(backTo pos (starEach es X.env)).any (·.1)=false:=by rfl):PE X (.Call (.Name x p) (e::es) [] pos) (tCB r t):=by
 intro pins s σ H Q I h
 refine wpAny_Call_Name_kw (zkx I hg hm hv ?_ hn hdb)
 exact PyProof.Rows.callWith_type1 (thn (ha pos pins s σ H _ I h) λ us s1 ⟨vs,H1,I1,r1,q1⟩=>hc pins s1 σ H1 vs us Q I1 r1 q1) he hpl
end
end L2
namespace HT
open PySem PyProof.Rows
section
open PySem.SeqAt
open PySem.AutoSeq1 (wpAny_loadPart')
open PySem.MeetsSeq PySem.MeetsSeq2 PySem.MeetsSeq3
end
section
variable {prog:Program} {w:World} {A:Around} {E:Value->Shared->Prop} {s:Shared}
def sIx (n d:Nat):Option Int->Nat
 | none=>d
 | some v=>if v < 0 then (v+(n:Int)).toNat else min v.toNat n
theorem zgV (n d k:Nat):sIx n d (some (k:Int))=min k n:=by
 show (if (k:Int) < 0 then ((k:Int)+(n:Int)).toNat else min (k:Int).toNat n)=min k n
 rw [if_neg (by omega),Int.toNat_natCast]
theorem zsg (n d:Nat) (hd:d<=n) (o:Option Int):sIx n d o<=n:=by
 cases o with
 | none=>exact hd
 | some v =>
  show (if v < 0 then (v+(n:Int)).toNat else min v.toNat n)<=n
  by_cases hv:v < 0
  . rw [if_pos hv]; omega
  . rw [if_neg hv]; exact Nat.min_le_right _ _
theorem zpj (v:Int) (n d:Nat):(if v < 0 then max (v+(n:Int)) 0 else min v (n:Int))=((sIx n d (some v):Nat):Int):=by
 show (if v < 0 then max (v+(n:Int)) 0 else min v (n:Int))=(((if v < 0 then (v+(n:Int)).toNat else min v.toNat n):Nat):Int)
 by_cases hv:v < 0
 . simp only [if_pos hv]; omega
 . simp only [if_neg hv]; omega
theorem znF (lo hi:Option Int) (n:Nat):Builtin.Slice.sliceAdjust lo hi 1 (n:Int)=(((sIx n 0 lo:Nat):Int),((sIx n n hi:Nat):Int)):=by
 have h1:¬ ((1:Int) < 0):=by omega
 unfold Builtin.Slice.sliceAdjust
 simp only [h1,if_false]
 refine Prod.ext ?_ ?_
 . cases lo with
   | none=>rfl
   | some v=>exact zpj v n 0
 . cases hi with
   | none=>rfl
   | some v=>exact zpj v n n
theorem znl (i j:Nat):Builtin.Slice.slicePlaces (i:Int) (j:Int) 1=j - i:=by
 unfold Builtin.Slice.slicePlaces
 have h1:(1:Int) > 0:=by omega
 simp only [h1,if_true,Int.ediv_one]
 split <;> omega
theorem zii {v:Value} {o:Option Int} {Q:Option Int->Shared->Prop} (p:IsPart v o) (h:Q o s):wpAny (model prog w) A (Builtin.Slice.slicePartIndex v) Q E s:=by
 cases p with
 | none=>exact slicePart_none h
 | int i t=>exact slicePart_int h
theorem zdF {sl:Addr} {vl vu:Value} {lo hi:Option Int} {n:Nat} {Q:Int×Int×Nat->Shared->Prop} (hs:s.heap.IsSliceOf sl vl vu .none) (pl:IsPart vl lo) (pu:IsPart vu hi)
  (h:Q (((sIx n 0 lo:Nat):Int),1,sIx n n hi - sIx n 0 lo) s):wpAny (model prog w) A (Builtin.Slice.sliceApplied (.ref sl) (pure (n:Int))) Q E s:=by
 obtain ⟨os,hos,hcs,hds⟩:=id hs
 unfold Builtin.Slice.sliceApplied Builtin.Slice.sliceFields
 refine wpAny_bind (wpAny_bind (wpAny_field hos hds (x:=vl) rfl (wpAny_bind (wpAny_field hos hds (x:=vu) rfl (wpAny_bind (wpAny_field hos hds (x:=.none) rfl (wpAny_pure ?_)))))))
 refine wpAny_bind (slicePart_none ?_)
 show wpAny _ _ (if ((1:Int) == 0)=true then _ else _) _ _ s
 rw [if_neg (by decide)]
 refine wpAny_bind (zii pl (wpAny_bind (zii pu (wpAny_bind (wpAny_pure ?_)))))
 show wpAny _ _ (match Builtin.Slice.sliceAdjust lo hi 1 (n:Int) with | (lo,hi)=>pure (lo,(1:Int),Builtin.Slice.slicePlaces lo hi 1)) _ _ s
 rw [znF lo hi n]
 show wpAny _ _ (pure (((sIx n 0 lo:Nat):Int),(1:Int),Builtin.Slice.slicePlaces ((sIx n 0 lo:Nat):Int) ((sIx n n hi:Nat):Int) 1)) _ _ s
 rw [znl]
 exact wpAny_pure h
theorem zpM (xs:Array Value) (i k:Nat):((List.range k).filterMap λ (m:Nat)=>xs[((i:Int)+(m:Int) * 1).toNat]?).toArray=((xs.toList.drop i).take k).toArray:=by
 have e:(λ (m:Nat)=>xs[((i:Int)+(m:Int) * 1).toNat]?)=λ m=>xs[i+m]?:=by
  funext m
  have:((i:Int)+(m:Int) * 1).toNat=i+m:=by omega
  rw [this]
 rw [e]
 have:=pick_run xs i k
 rw [List.filterMap_map] at this
 have e2:((λ x=>xs[x]?)∘λ x=>i+x)=λ m=>xs[i+m]?:=rfl
 rw [e2] at this
 rw [this]
theorem zfZ {t sl:Addr} {items:Array Value} {vl vu:Value} {lo hi:Option Int} {Q:Value->Shared->Prop} (ht:IsTup s.heap t items) (hs:s.heap.IsSliceOf sl vl vu .none) (pl:IsPart vl lo) (pu:IsPart vu hi)
  (hw:¬ (sIx items.size 0 lo=0/\sIx items.size items.size hi=items.size))
  (h:Q (.ref s.heap.objs.size) { s with heap:=s.heap.push { cls:=.type "tuple",data:=.seq ((items.toList.drop (sIx items.size 0 lo)).take (sIx items.size items.size hi - sIx items.size 0 lo)).toArray } })
  (hsz:items.size<=sizeLine):wpAny (model prog w) A (getItem (.ref t) (.ref sl)) Q E s:=by
 have htake:sizeOk (.seq ((items.toList.drop (sIx items.size 0 lo)).take (sIx items.size items.size hi - sIx items.size 0 lo)).toArray):=by
  show ((items.toList.drop (sIx items.size 0 lo)).take (sIx items.size items.size hi - sIx items.size 0 lo)).toArray.size<=sizeLine
  rw [List.size_toArray,List.length_take,List.length_drop,Array.length_toList]
  omega
 have hj:sIx items.size items.size hi<=items.size:=zsg _ _ (Nat.le_refl _) hi
 obtain ⟨os,hos,hcs,hds⟩:=id hs
 have hTs:s.TypeIs (.ref sl) "slice" := ⟨os,hos,hcs⟩
 unfold getItem
 try with_reducible refine wpAny_holding ?_
 first | refine wpAny_bind (wpAny_pure ?_) | skip
 refine wpAny_bind (wpAny_sequenceKey ht.typeIs (by decide) ?_)
 refine wpAny_bind (wpAny_callSpecial?_slot (name:=Str.ofString "__getitem__") ht.typeIs PyProof.Rows.slot_tuple_getitem
  (wpAny_call_entry PyProof.Rows.slot_tuple_getitem ht.typeIs entry_tuple_getitem ?_ (args_tuple_getitem _ _)))
 show wpAny _ _ (Builtin.Tuple.tupleItemsOf (.ref t) >>= _) _ _ s
 refine wpAny_bind (tupleItemsOf_ ht ?_)
 refine wpAny_bind (wpAny_typeOf hTs ?_)
 rw [if_pos (by decide)]
 refine wpAny_bind (zdF hs pl pu ?_)
 have hno:¬ ((((sIx items.size 0 lo:Nat):Int) == 0 && (1:Int) == 1 && (sIx items.size items.size hi - sIx items.size 0 lo) == items.size)=true):=by
  intro q
  rw [Bool.and_eq_true,Bool.and_eq_true] at q
  have q1:((sIx items.size 0 lo:Nat):Int)=0:=eq_of_beq q.1.1
  have q2:sIx items.size items.size hi - sIx items.size 0 lo=items.size:=eq_of_beq q.2
  exact hw ⟨by omega,by omega⟩
 show wpAny _ _ (if (((sIx items.size 0 lo:Nat):Int) == 0 && (1:Int) == 1 && (sIx items.size items.size hi - sIx items.size 0 lo) == items.size)=true then _ else _) _ _ s
 rw [if_neg hno,zpM]
 first
  | exact wpAny_bind (m:=Builtin.Tuple.tupleExact _) (wpAny_newObj_type (wpAny_pure ⟨_,rfl,wpAny_pure h⟩) htake)
  | exact wpAny_bind (m:=Builtin.Tuple.tupleExact _) (wpAny_newObj_type (wpAny_bind (wpAny_pure (wpAny_pure ⟨_,rfl,wpAny_pure h⟩))) htake)
  | exact wpAny_bind (wpAny_bind (m:=Builtin.Tuple.tupleExact _) (wpAny_newObj_type (wpAny_pure (wpAny_pure ⟨_,rfl,wpAny_pure h⟩)) htake))
  | exact wpAny_bind (wpAny_bind (m:=Builtin.Tuple.tupleExact _) (wpAny_newObj_type (wpAny_pure ⟨_,rfl,wpAny_pure h⟩) htake))
end
end HT
namespace L2
open PySem PySem.Spec PyProof.Rows
abbrev TO:=St->Hp->(Option Int->Hp->Prop)->Prop
def PO (X:Cx) (e:Option Expr) (t:TO):Prop :=
 ∀ (pins:List (Addr×Obj)) (s:Shared) (σ:St) (H:Hp) (Q:Option Int->Hp->Prop),Inv X pins σ H s->t σ H Q ->
  wpAny (model X.prog X.w) X.A (evalPart e X.env) (λ u s'=>∃ o H',Inv X pins σ H' s'/\IsPart u o/\Q o H') X.xe s
def zqU:TO:=λ _ H Q=>Q none H
def zsY (t:TE):TO:=λ σ H Q=>t σ H λ x H1=>∃ i,x=.int i/\Q (some i) H1
section
variable {X:Cx} {e:Expr} {te:TE} {lo hi:Option Expr} {tl th:TO} {pos p2:Pos}
theorem zrj:PO X none zqU:=by
 intro pins s σ H Q I h
 rw [evalPart_none]
 exact wpAny_pure ⟨none,H,I,.none,h⟩
theorem zlk (h:PE X e te):PO X (some e) (zsY te):=by
 intro pins s σ H Q I hw
 rw [evalPart_some]
 refine thn (h pins s σ H _ I hw) λ u s1 ⟨x,H1,I1,r1,q1⟩=>?_
 obtain ⟨i,rfl,q⟩:=q1
 obtain ⟨t,rfl⟩:=r1
 exact ⟨some i,H1,I1,.int i t,q⟩
def SlR (X:Cx) (r:V->Option Int->Option Int->Hp->VK->Prop):Prop :=
 ∀ (pins:List (Addr×Obj)) (s:Shared) (σ:St) (H:Hp) (x:V) (v vl vu:Value) (lo hi:Option Int) (sl:Addr) (Q:VK),Inv X pins σ H s->RelV x v->s.heap.IsSliceOf sl vl vu .none->IsPart vl lo->IsPart vu hi->r x lo hi H Q ->
  ∃ T id,typeLookup (.type T) "__getitem__" = pure (some (.builtin id))/\s.TypeIs v T/\wpAny (model X.prog X.w) X.A (getItem v (.ref sl)) (EP X pins σ Q) X.xe s
def tSl (r:V->Option Int->Option Int->Hp->VK->Prop) (te:TE) (tl th:TO):TE:=λ σ H Q=>te σ H λ x H1=>tl σ H1 λ l H2=>th σ H2 λ u H3=>r x l u H3 Q
theorem zmw {r:V->Option Int->Option Int->Hp->VK->Prop} (hr:SlR X r) (he:PE X e te) (hl:PO X lo tl) (hu:PO X hi th):PE X (.Subscript e (.Slice lo hi none p2) pos) (tSl r te tl th):=by
 intro pins s σ H Q I h
 refine Subscript_ (thn (he pins s σ H _ I h) λ v s1 ⟨x,H1,I1,r1,q1⟩=>?_)
 refine wpAny_Slice (thn (hl pins s1 σ H1 _ I1 q1) λ vl s2 ⟨l,H2,I2,pl,q2⟩=>thn (hu pins s2 σ H2 _ I2 q2) λ vu s3 ⟨u,H3,I3,pu,q3⟩=>?_)
 rw [evalPart_none]
 refine wpAny_pure ?_
 have I4:Inv X pins σ H3 { s3 with heap:=s3.heap.push { cls:=.type "slice",data:=.fields #[vl,vu,.none] } }:=I3.kept (t':=s3.toks) λ b ob q=>Heap.get?_push_of_some _ q
 obtain ⟨T,id,hT,ht,hg⟩:=hr pins { s3 with heap:=s3.heap.push { cls:=.type "slice",data:=.fields #[vl,vu,.none] } } σ H3 x v vl vu l u s3.heap.objs.size Q I4 r1 (Heap.IsSliceOf.new ..) pl pu q3
 show wpAny (model X.prog X.w) X.A (subscriptTail e (.Slice lo hi none p2) v (.ref s3.heap.objs.size)) (EP X pins σ Q) X.xe { s3 with heap:=s3.heap.push { cls:=.type "slice",data:=.fields #[vl,vu,.none] } }
 exact tail_any (ops:=[.ref s3.heap.objs.size,v]) ht hT hg (by with_unfolding_all rfl)
def cutV (xs:List V) (lo hi:Option Int):List V:=(xs.drop (HT.sIx xs.length 0 lo)).take (HT.sIx xs.length xs.length hi - HT.sIx xs.length 0 lo)
theorem zhz (xs:List V) (lo hi:Option Int):(cutV xs lo hi).length<=xs.length:=by
 unfold cutV
 rw [List.length_take,List.length_drop]
 omega
def rSlT (K:PySem.W.Frag):V->Option Int->Option Int->Hp->VK->Prop:=λ x lo hi H Q=>∃ a xs,x=.ref a/\SqT K H a xs /\
 ¬ (HT.sIx xs.length 0 lo=0/\HT.sIx xs.length xs.length hi=xs.length)/\∀ p,H p=none->Q (.ref p) (upd H p (.tup (cutV xs lo hi)))
theorem zsd:SlR X (rSlT X.K):=by
 intro pins s σ H x v vl vu lo hi sl Q I rx hs pl pu h
 obtain ⟨a,xs,rfl,hx,hw,q⟩:=h
 cases rx
 obtain ⟨its,r,ht,hz⟩:=I.tuple hx
 have hlen:its.toArray.size=xs.length:=by rw [List.size_toArray]; exact r.length.symm
 refine ⟨"tuple",_,PyProof.Rows.slot_tuple_getitem.lookup,ht.typeIs,?_⟩
 refine HT.zfZ ht hs pl pu (by rw [hlen]; exact hw) ?_ (by rw [hlen]; exact hz)
 rw [hlen]
 refine ⟨.ref s.heap.objs.size,_,I.laid (t':=s.toks) (o:=.tup (cutV xs lo hi)) (λ b ob q=>Heap.get?_push_of_some _ q) (Nat.le_refl _) ?_,rfl,q _ (I.hok.fresh (Nat.le_refl _))⟩
 exact ⟨Nat.le_trans (zhz xs lo hi) hz,_,(r.drop (HT.sIx xs.length 0 lo)).take (HT.sIx xs.length xs.length hi - HT.sIx xs.length 0 lo),IsTup.new _ _⟩
end
end L2
namespace L2
open PySem PySem.Spec PyProof.Rows
def ixN (n:Nat) (i:Int):Option Nat:=if 0<=i then (if i < n then some i.toNat else none) else if -(n:Int)<=i then some (i+n).toNat else none
def atI {α:Type} (xs:List α) (i:Int):Option α:=(ixN xs.length i).bind λ j=>xs[j]?
theorem zoO {n:Nat} {i:Int} {j:Nat} (h:ixN n i=some j):seqIndex? i n=some j/\j < n/\-(n:Int)<=i/\i < n:=by
 unfold ixN at h
 by_cases h0:0<=i
 . rw [if_pos h0] at h
   by_cases h1:i < n
   . rw [if_pos h1] at h
     have e:i.toNat=j:=Option.some.inj h
     exact ⟨by rw [seqIndex_of h0 h1,e],by omega,by omega,h1⟩
   . rw [if_neg h1] at h; cases h
 . rw [if_neg h0] at h
   by_cases h1:-(n:Int)<=i
   . rw [if_pos h1] at h
     have e:(i+n).toNat=j:=Option.some.inj h
     exact ⟨by rw [seqIndex_neg (by omega) h1,e],by omega,h1,by omega⟩
   . rw [if_neg h1] at h; cases h
theorem zlZ {α:Type} {xs:List α} {i:Int} {v:α} (h:atI xs i=some v):∃ j,seqIndex? i xs.length=some j/\xs[j]?=some v/\j < xs.length/\-(xs.length:Int)<=i/\i < xs.length:=by
 unfold atI at h
 cases e:ixN xs.length i with
 | none=>rw [e] at h; cases h
 | some j =>
  rw [e] at h
  obtain ⟨h1,h2,h3,h4⟩:=zoO e
  exact ⟨j,h1,h,h2,h3,h4⟩
theorem zbm {α:Type} {xs:List α} {j:Nat} {v:α} (h:xs[j]?=some v):atI xs (j:Int)=some v:=by
 have hj:j < xs.length:=(List.getElem?_eq_some_iff.mp h).1
 have e:ixN xs.length (j:Int)=some j:=by
  unfold ixN
  rw [if_pos (by omega),if_pos (by omega)]; simp
 unfold atI; rw [e]; exact h
def zrM (b:Expr):Prop:=∀ o i,subscripted b false o i=operate [o,i] (getItem o i)
def IxR (X:Cx) (r:R2):Prop :=
 ∀ (value slice:Expr) (pins:List (Addr×Obj)) (s:Shared) (σ:St) (H:Hp) (x y:V) (v u:Value) (Q:VK),Inv X pins σ H s->RelV x v->RelV y u->r x y H Q ->
  subscripted slice false v u=operate [v,u] (getItem v u)->wpAny (model X.prog X.w) X.A (subscriptTail value slice v u) (EP X pins σ Q) X.xe s
def MtR (X:Cx) (id:String) (r:V->List V->Hp->VK->Prop):Prop :=
 ∀ (pins:List (Addr×Obj)) (s:Shared) (σ:St) (H:Hp) (x:V) (xs:List V) (v:Value) (us:List Value) (Q:VK),Inv X pins σ H s->RelV x v->Vals xs us->r x xs H Q ->
  wpAny (model X.prog X.w) X.A (call (.builtin id) (v::us)) (EP X pins σ Q) X.xe s
section
variable {X:Cx} {a b:Expr} {ta tb:TE} {pos:Pos}
theorem zaL {r:R2} (hr:IxR X r) (ha:PE X a ta) (hb:PE X b tb) (hs:zrM b):PE X (.Subscript a b pos) (tOp r ta tb):=by
 intro pins s σ H Q I h
 exact Subscript_ (binT ha hb I h λ v u s2 x y H2 I2 rx ry q=>hr a b pins s2 σ H2 x y v u Q I2 rx ry q (hs _ _))
def rIxL (K:PySem.W.Frag):R2:=λ x y H Q=>∃ p xs i v,x=.ref p/\y=.int i/\SqL K H p xs/\atI xs i=some v/\Q v H
def rIxT (K:PySem.W.Frag):R2:=λ x y H Q=>∃ p xs i v,x=.ref p/\y=.int i/\SqT K H p xs/\atI xs i=some v/\Q v H
def rIxS:R2:=λ x y H Q=>∃ z i c,x=.str z/\y=.int i/\z.length<=sizeLine/\atI z.cps.toList i=some c/\Q (.str ⟨#[c]⟩) H
theorem zbu:IxR X (rIxL X.K):=by
 intro value slice pins s σ H x y v u Q I rx ry h hs
 obtain ⟨p,xs,i,z,rfl,rfl,hq,he,q⟩:=h
 cases rx
 obtain ⟨t,rfl⟩:=ry
 obtain ⟨its,r,pl,hz⟩:=I.list hq
 obtain ⟨j,h1,h2,h3,h4,h5⟩:=zlZ he
 obtain ⟨w,ew,rw'⟩:=r.get h2
 have hl:=r.length
 have hn:=zmI
 have fin:EP X pins σ Q w s:=⟨z,H,I,rw',q⟩
 by_cases h0:0<=i
 . have hj:i.toNat=j:=by
    rw [seqIndex_of h0 h5] at h1
    exact Option.some.inj h1
   exact item_listR pl.isList h0 (by omega) (by rw [hj]; simpa using ew) fin hs
 . have hj:(i+(its.toArray.size:Int)).toNat=j:=by
    rw [seqIndex_neg (by omega) h4] at h1
    rw [List.size_toArray,<-hl]
    exact Option.some.inj h1
   exact subscriptTail_builtinR (x:=w) pl.isList.typeIs slot_list_getitem.lookup
    (wpAny_getItem_list_neg (Q:=λ r s'=>r=w/\EP X pins σ Q r s') pl.isList (by omega) (by rw [List.size_toArray] <;> omega) (by omega) (by rw [hj]; simpa using ew) ⟨rfl,fin⟩) hs
theorem zaZ:IxR X (rIxT X.K):=by
 intro value slice pins s σ H x y v u Q I rx ry h hs
 obtain ⟨p,xs,i,z,rfl,rfl,hq,he,q⟩:=h
 cases rx
 obtain ⟨t,rfl⟩:=ry
 obtain ⟨its,r,pl,hz⟩:=I.tuple hq
 obtain ⟨j,h1,h2,h3,h4,h5⟩:=zlZ he
 obtain ⟨w,ew,rw'⟩:=r.get h2
 have hl:=r.length
 have hn:=zmI
 have fin:EP X pins σ Q w s:=⟨z,H,I,rw',q⟩
 exact subscriptTail_builtinR (x:=w) pl.typeIs slot_tuple_getitem.lookup
  (getItem_tuple (j:=j) (Q:=λ r s'=>r=w/\EP X pins σ Q r s') pl (by omega) (by omega) (by rw [List.size_toArray,<-hl]; exact h1) (by simpa using ew) ⟨rfl,fin⟩) hs
theorem zmM:IxR X rIxS:=by
 intro value slice pins s σ H x y v u Q I rx ry h hs
 obtain ⟨z,i,c,rfl,rfl,hz,he,q⟩:=h
 obtain ⟨t,rfl⟩:=rx
 obtain ⟨t',rfl⟩:=ry
 obtain ⟨j,h1,h2,h3,h4,h5⟩:=zlZ he
 have hl:z.cps.toList.length=z.length:=by simp [Str.length]
 rw [hl] at h1 h4 h5
 have hn:=zmI
 exact tail_any (typeIs_str s z t) slot_str_getitem.lookup (getItem_str (c:=c) (by
  have e1:decide (i < -(2 ^ 63:Int))=false:=decide_eq_false (by omega)
  have e2:decide (i ≥ 2 ^ 63)=false:=decide_eq_false (by omega)
  rw [e1,e2,Bool.or_false]) (by rw [h1]; simpa using h2) ⟨.str ⟨#[c]⟩,H,I.tok _,⟨_,rfl⟩,q⟩) hs
theorem zjR (lo hi:Option Int) (n:Nat):(sliceBounds lo hi none n).1=((HT.sIx n 0 lo:Nat):Int)/\(sliceBounds lo hi none n).2.1=((HT.sIx n n hi:Nat):Int)/\(sliceBounds lo hi none n).2.2=1:=by
 refine ⟨?_,?_,rfl⟩
 . cases lo with
   | none=>simp [sliceBounds,HT.sIx]
   | some i =>
    simp only [sliceBounds,HT.sIx,Option.getD_none,show (1:Int) > 0 by decide,if_true]
    by_cases h:i < 0
    . simp only [h,if_true] <;> omega
    . simp only [h,if_false] <;> omega
 . cases hi with
   | none=>simp [sliceBounds,HT.sIx]
   | some i =>
    simp only [sliceBounds,HT.sIx,Option.getD_none,show (1:Int) > 0 by decide,if_true]
    by_cases h:i < 0
    . simp only [h,if_true] <;> omega
    . simp only [h,if_false] <;> omega
theorem ziP (its:List Value) (lo hi:Option Int):slicePick its.toArray lo hi none=((its.drop (HT.sIx its.length 0 lo)).take (HT.sIx its.length its.length hi - HT.sIx its.length 0 lo)).toArray:=by
 obtain ⟨h1,h2,h3⟩:=zjR lo hi its.toArray.size
 unfold slicePick
 rw [h1,h2,h3]
 simp only [sliceRange_one,pick_run,List.size_toArray] <;> rfl
def rSlL (K:PySem.W.Frag):V->Option Int->Option Int->Hp->VK->Prop:=λ x lo hi H Q=>∃ a xs,x=.ref a/\SqL K H a xs/\∀ p,H p=none->Q (.ref p) (upd H p (.lst (cutV xs lo hi)))
theorem zq8:SlR X (rSlL X.K):=by
 intro pins s σ H x v vl vu lo hi sl Q I rx hs pl pu h
 obtain ⟨a,xs,rfl,hx,q⟩:=h
 cases rx
 obtain ⟨its,r,ht,hz⟩:=I.list hx
 have hlen:=r.length
 refine ⟨"list",_,slot_list_getitem.lookup,ht.isList.typeIs,?_⟩
 refine wpAny_getItem_list_slice ht.isList hs pl pu .none (by simp) ?_ (by rw [List.size_toArray] <;> omega)
 rw [ziP,<-hlen]
 refine ⟨.ref s.heap.objs.size,_,I.laid (t':=s.toks) (o:=.lst (cutV xs lo hi)) (λ b ob q=>Heap.get?_push_of_some _ q) (Nat.le_refl _) ?_,rfl,q _ (I.hok.fresh (Nat.le_refl _))⟩
 exact ⟨Nat.le_trans (zhz xs lo hi) hz,_,0,(r.drop (HT.sIx xs.length 0 lo)).take (HT.sIx xs.length xs.length hi - HT.sIx xs.length 0 lo),Heap.get?_push_size _ rfl⟩
def zjn:V->Bool
 | .non=>true
 | .bl _=>true
 | .int _=>true
 | .str _=>true
 | _=>false
def eqV:V->V->Bool
 | .non,.non=>true
 | .bl a,.bl b=>a == b
 | .bl a,.int b=>(if a then 1 else 0) == b
 | .int a,.bl b=>a == (if b then 1 else 0)
 | .int a,.int b=>a == b
 | .str a,.str b=>a == b
 | _,_=>false
theorem zsI {A:Around} {s:Shared} {y x:V} {u v:Value} (ry:RelV y u) (rx:RelV x v) (fy:zjn y=true) (fx:zjn x=true):SeqAt.EqAt A s u v (eqV y x):=by
 cases y with
 | non =>
  cases ry
  cases x with
  | non=>cases rx; exact SeqAt.EqAt.same _
  | bl b=>cases rx; exact SeqAt.EqAt.none_bool b
  | int b=>obtain ⟨t,rfl⟩:=rx; exact SeqAt.EqAt.none_int b t
  | str b=>obtain ⟨t,rfl⟩:=rx; exact SeqAt.EqAt.none_str b t
  | _=>exact absurd (show false=true from fx) Bool.false_ne_true
 | bl a =>
  cases ry
  cases x with
  | non=>cases rx; exact SeqAt.EqAt.bool_none a
  | bl b=>cases rx; exact SeqAt.EqAt.bool_bool a b
  | int b=>obtain ⟨t,rfl⟩:=rx; exact SeqAt.EqAt.bool_int a b t
  | str b=>obtain ⟨t,rfl⟩:=rx; exact SeqAt.EqAt.bool_str a b t
  | _=>exact absurd (show false=true from fx) Bool.false_ne_true
 | int a =>
  obtain ⟨t',rfl⟩:=ry
  cases x with
  | non=>cases rx; exact SeqAt.EqAt.int_none a t'
  | bl b=>cases rx; exact SeqAt.EqAt.int_bool a t' b
  | int b=>obtain ⟨t,rfl⟩:=rx; exact SeqAt.EqAt.int_int a t' b t
  | str b=>obtain ⟨t,rfl⟩:=rx; exact SeqAt.EqAt.int_str a t' b t
  | _=>exact absurd (show false=true from fx) Bool.false_ne_true
 | str a =>
  obtain ⟨t',rfl⟩:=ry
  cases x with
  | non=>cases rx; exact SeqAt.EqAt.str_none a t'
  | bl b=>cases rx; exact SeqAt.EqAt.str_bool a t' b
  | int b=>obtain ⟨t,rfl⟩:=rx; exact SeqAt.EqAt.str_int a t' b t
  | str b=>obtain ⟨t,rfl⟩:=rx; exact SeqAt.EqAt.str_str a t' b t
  | _=>exact absurd (show false=true from fx) Bool.false_ne_true
 | _=>exact absurd (show false=true from fy) Bool.false_ne_true
def eqU (x:V) (u:Value):Bool:=match u with
 | .none=>eqV .non x
 | .bool b=>eqV (.bl b) x
 | .int i _=>eqV (.int i) x
 | .str z _=>eqV (.str z) x
 | _=>false
theorem zqK {x y:V} {u:Value} (r:RelV y u) (f:zjn y=true):eqU x u=eqV y x:=by
 cases y with
 | non=>cases r; rfl
 | bl b=>cases r; rfl
 | int i=>obtain ⟨t,rfl⟩:=r; rfl
 | str z=>obtain ⟨t,rfl⟩:=r; rfl
 | _=>exact absurd (show false=true from f) Bool.false_ne_true
theorem zl0 {x:V}:∀ {xs:List V} {us:List Value},Vals xs us->xs.all zjn=true->us.any (eqU x)=xs.any λ y=>eqV y x
 | _,_,.nil,_=>rfl
 | y::xs,u::us,.cons r t,f=>by
  rw [List.all_cons,Bool.and_eq_true] at f
  rw [List.any_cons,List.any_cons,zqK r f.1,zl0 t f.2]
theorem zja {A:Around} {s:Shared} {x:V} {v:Value} (rx:RelV x v) (fx:zjn x=true):∀ {xs:List V} {us:List Value},Vals xs us->xs.all zjn=true->∀ u∈us,SeqAt.EqAt A s u v (eqU x u)
 | _,_,.nil,_=>λ u hu=>by cases hu
 | y::xs,u::us,.cons r t,f=>λ u' hu=>by
  rw [List.all_cons,Bool.and_eq_true] at f
  rcases List.mem_cons.mp hu with rfl | hu
  . rw [zqK r f.1]; exact zsI r rx f.1 fx
  . exact zja rx fx t f.2 u' hu
def inV (x:V) (xs:List V):Bool:=xs.any λ y=>eqV y x
def rIn (K:PySem.W.Frag) (neg:Bool):R2:=λ x y H Q=>∃ p xs,y=.ref p/\(SqL K H p xs\/SqT K H p xs)/\zjn x=true/\xs.all zjn=true/\Q (.bl (if neg then !inV x xs else inV x xs)) H
theorem zj8:OpR X (compareOp .NotIn) (rIn X.K true):=by
 intro pins s σ H x y v u Q I rx ry h
 obtain ⟨p,xs,rfl,hq,fx,fs,q⟩:=h
 cases ry
 rcases hq with hq | hq
 . obtain ⟨its,r,pl,hz⟩:=I.list hq
   refine SeqAt.notIn_listAt (eqU x) pl.isList (λ w hw=>zja rx fx r fs w (by simpa using hw)) ⟨.bl _,H,I,rfl,?_⟩
   rw [show its.toArray.any (eqU x)=its.any (eqU x) by simp,zl0 r fs]
   exact q
 . obtain ⟨its,r,pl,hz⟩:=I.tuple hq
   refine SeqAt.notIn_tupleAt (eqU x) pl (λ w hw=>zja rx fx r fs w (by simpa using hw)) ⟨.bl _,H,I,rfl,?_⟩
   rw [show its.toArray.any (eqU x)=its.any (eqU x) by simp,zl0 r fs]
   exact q
theorem za5:zid X (.builtin "len") (λ xs H Q=>∃ p ys,xs=[.ref p]/\(SqL X.K H p ys\/SqT X.K H p ys)/\Q (.int ys.length) H):=by
 intro pins s σ H xs us Q I r h
 obtain ⟨p,ys,rfl,hq,q⟩:=h
 obtain ⟨u,rfl,rx⟩:=vals1 r
 cases rx
 have hn:=zmI
 rcases hq with hq | hq
 . obtain ⟨its,r',pl,hz⟩:=I.list hq
   have hlen:=r'.length
   exact Calls.call_len_list pl.isList (by simp only [List.size_toArray] <;> omega) ⟨.int ys.length,H,I.tok _,⟨s.toks+1,by rw [List.size_toArray,hlen]⟩,q⟩
 . obtain ⟨its,r',pl,hz⟩:=I.tuple hq
   have hlen:=r'.length
   exact len_tuple pl (by simp only [List.size_toArray] <;> omega) ⟨.int ys.length,H,I.tok _,⟨s.toks+1,by rw [List.size_toArray,hlen]⟩,q⟩
theorem zdB:zid X (.type "tuple") (λ xs H Q=>∃ p ys,xs=[.ref p]/\((SqL X.K H p ys/\∀ l,H l=none->Q (.ref l) (upd H l (.tup ys)))\/(SqT X.K H p ys/\Q (.ref p) H))):=by
 intro pins s σ H xs us Q I r h
 obtain ⟨p,ys,rfl,h⟩:=h
 obtain ⟨u,rfl,rx⟩:=vals1 r
 cases rx
 rcases h with ⟨hq,q⟩ | ⟨hq,q⟩
 . obtain ⟨its,r',pl,hz⟩:=I.list hq
   have hlen:=r'.length
   refine call_tuple_list pl.isList (λ h' kp=>?_) (by simp only [List.size_toArray] <;> omega)
   have I1:Inv X pins σ H { s with heap:=h' }:=I.kept (t':=s.toks) kp
   have I2:Inv X pins σ (upd H h'.objs.size (.tup ys)) { s with heap:=h'.push { cls:=.type "tuple",data:=.seq its.toArray } } :=
    I1.laid (t':=s.toks) (λ b o e=>Heap.get?_push_of_some _ e) (Nat.le_refl _) (show zbZ X.prog X.w _ _ _ (.tup ys) from ⟨hz,its,r',IsTup.new _ _⟩)
   exact ⟨.ref h'.objs.size,_,I2,rfl,q _ (I1.hok.fresh (Nat.le_refl _))⟩
 . obtain ⟨its,r',pl,hz⟩:=I.tuple hq
   exact call_tuple_same pl ⟨.ref p,H,I,rfl,q⟩
def tyV (K:PySem.W.Frag) (T:String) (x:V) (H:Hp):Prop:=match x with
 | .str _=>T = "str"
 | .int _=>T = "int"
 | .ref p=>(T = "list" /\ ∃ xs,SqL K H p xs)\/(T = "tuple" /\ ∃ o,K.lookup p=some o/\o.cls=.type "tuple" /\ o.dict=none) \/
  (T = "dict" /\ ((∃ kvs,H p=some (.dK kvs))\/∃ kvs,H p=some (.dT kvs)))\/(T = "set" /\ ∃ S n,H p=some (.set S n))
 | _=>False
theorem zqo {pins:List (Addr×Obj)} {σ:St} {H:Hp} {s:Shared} {T:String} {x:V} {v:Value} (I:Inv X pins σ H s) (r:RelV x v) (ty:tyV X.K T x H) :
  s.TypeIs v T/\∀ a,v=.ref a->∃ ob,s.heap.get? a=some ob/\ob.dict=none:=by
 cases x with
 | str z =>
  obtain ⟨t,rfl⟩:=r
  cases (show T = "str" from ty)
  exact ⟨typeIs_str s z t,λ _ e=>nomatch e⟩
 | int i =>
  obtain ⟨t,rfl⟩:=r
  cases (show T = "int" from ty)
  exact ⟨typeIs_int s i t,λ _ e=>nomatch e⟩
 | ref p =>
  cases r
  rcases ty with ⟨rfl,xs,hq⟩ | ⟨rfl,o,hk,hc,hd⟩ | ⟨rfl,hk⟩ | ⟨rfl,S,n,hk⟩
  . obtain ⟨its,_,pl,_⟩:=I.list hq
    refine ⟨pl.isList.typeIs,λ a e=>?_⟩
    cases e
    obtain ⟨o,n,e,c,hd,_⟩:=pl
    exact ⟨o,e,hd⟩
  . refine ⟨⟨o,I.kIn p o hk,hc⟩,λ a e=>?_⟩
    cases e
    exact ⟨o,I.kIn _ o hk,hd⟩
  . have z:∃ o,s.heap.get? p=some o/\o.ExactDict:=by
     rcases hk with ⟨kvs,hk⟩ | ⟨kvs,hk⟩
     . obtain ⟨_,_,_,_,o,_,_,e,ex,_⟩:=I.hok p _ hk
       exact ⟨o,e,ex⟩
     . obtain ⟨_,_,_,_,o,_,_,e,ex,_⟩:=I.hok p _ hk
       exact ⟨o,e,ex⟩
    obtain ⟨o,e,ex⟩:=z
    refine ⟨⟨o,e,ex.1⟩,λ a e2=>?_⟩
    cases e2
    exact ⟨o,e,ex.2.1⟩
  . obtain ⟨o,_,_,_,e,ex,_⟩:=I.hok p _ hk
    refine ⟨⟨o,e,ex.1⟩,λ a e2=>?_⟩
    cases e2
    exact ⟨o,e,ex.2.1⟩
 | _=>exact False.elim ty
def tBM0 (K:PySem.W.Frag) (T:String) (r:V->List V->Hp->VK->Prop) (to:TE):TE:=λ σ H Q=>to σ H λ x H1=>tyV K T x H1/\r x [] H1 Q
def tBM (K:PySem.W.Frag) (T:String) (r:V->List V->Hp->VK->Prop) (to:TE) (t:TA):TE:=λ σ H Q=>to σ H λ x H1=>tyV K T x H1/\t σ H1 λ xs H2=>r x xs H2 Q
variable {o e:Expr} {es:List Expr} {to:TE} {t:TA} {name:Str} {apos cpos:Pos} {T id:String} {r:V->List V->Hp->VK->Prop}
theorem zqt (pa:PlainAttrs T) (slot:Slot T name id) (hty:typeOf (.builtin id)=pure (.type "method_descriptor")) (hm:MtR X id r) (ho:PE X o to)
  (hbase:attributeBase o name X.env (eval o X.env)=eval o X.env:=by rfl) (hline:(apos.endLine == cpos.line)=true:=by rfl):PE X (.Call (.Attribute o name apos) [] [] cpos) (tBM0 X.K T r to):=by
 intro pins s σ H Q I h
 refine wpAny_Call_method0_late hbase hline (thn (ho pins s σ H _ I h) λ v s1 ⟨x,H1,I1,r1,ty,q1⟩=>?_)
 obtain ⟨h1,h2⟩:=zqo I1 r1 ty
 exact ⟨T,id,pa,slot,hty,h1,h2,Calls.callWith_builtin rfl (PySem.evalArgs_none (hm pins s1 σ H1 x [] v [] Q I1 r1 .nil q1))⟩
theorem zdy (pa:PlainAttrs T) (slot:Slot T name id) (hty:typeOf (.builtin id)=pure (.type "method_descriptor")) (hm:MtR X id r) (ho:PE X o to) (ha:PA X (e::es) t)
  (hbase:attributeBase o name X.env (eval o X.env)=eval o X.env:=by rfl)
  (hfew:((backTo cpos (starEach (e::es) X.env)).all (λ x=>!x.1) && (backToKw cpos (keywordEach [] X.env)).all (λ x=>x.1.isSome)
   && decide ((e::es).length+([]:List Keyword).length+(if ([]:List Keyword).isEmpty then 0 else 1) < 30))=true:=by rfl)
  (hline:(apos.endLine == cpos.line)=true:=by rfl) (hs:starEach (e::es) X.env=(false,eval e X.env)::starEach es X.env:=by rfl) (hplain:(backTo cpos (starEach es X.env)).any (·.1)=false:=by rfl) :
  PE X (.Call (.Attribute o name apos) (e::es) [] cpos) (tBM X.K T r to t):=by
 intro pins s σ H Q I h
 refine wpAny_Call_method_late hbase hfew hline rfl (thn (ho pins s σ H _ I h) λ v s1 ⟨x,H1,I1,r1,ty,q1⟩=>?_)
 obtain ⟨h1,h2⟩:=zqo I1 r1 ty
 refine ⟨T,id,pa,slot,hty,h1,h2,?_⟩
 have hA:=ha cpos pins s1 σ H1 _ I1 q1
 rw [hs] at hA ⊢
 refine Calls.callWith_builtin (by show (false || (backTo cpos (starEach es X.env)).any (·.1))=false; rw [hplain] <;> rfl) (Calls.evalArgs_plain ?_)
 exact thn hA λ us s2 ⟨vs,H2,I2,r2,q2⟩=>hm pins s2 σ H2 x vs v us Q I2 r1 r2 q2
end
end L2
namespace L2
open PySem PySem.Spec PyProof.Rows
def MtM (X:Cx) (id:String) (r:V->List V->Hp->VK->Prop):Prop :=
 ∀ (pins:List (Addr×Obj)) (s:Shared) (σ:St) (H:Hp) (x:V) (xs:List V) (v:Value) (us:List Value) (Q:VK),Inv X pins σ H s->RelV x v->Vals xs us->r x xs H Q ->
  wpAny (model X.prog X.w) X.A (call (.builtin id) (v::us)) (EP X pins σ Q) X.xe s
theorem Vals.one:∀ {x:V} {us:List Value},Vals [x] us->∃ u,us=[u]/\RelV x u
 | _,_,.cons r .nil=>⟨_,rfl,r⟩
theorem Vals.two:∀ {x y:V} {us:List Value},Vals [x,y] us->∃ u v,us=[u,v]/\RelV x u/\RelV y v
 | _,_,_,.cons r (.cons q .nil)=>⟨_,_,rfl,r,q⟩
theorem Vals.zero:∀ {us:List Value},Vals [] us->us=[]
 | _,.nil=>rfl
theorem Vals.dropLast {xs:List V} {us:List Value} (h:Vals xs us):Vals xs.dropLast us.dropLast:=by
 induction h with
 | nil=>exact .nil
 | cons r t ih =>
  cases t with
  | nil=>exact .nil
  | cons q t'=>exact .cons r ih
theorem Vals.eraseIdx:∀ {xs:List V} {us:List Value} (i:Nat),Vals xs us->Vals (xs.eraseIdx i) (us.eraseIdx i)
 | _,_,_,.nil=>.nil
 | _,_,0,.cons _ t=>t
 | _,_,i+1,.cons r t=>.cons r (Vals.eraseIdx i t)
theorem znC {α:Type} (l:List α):l.eraseIdx (l.length - 1)=l.dropLast:=by
 induction l with
 | nil=>rfl
 | cons a r ih =>
  cases r with
  | nil=>rfl
  | cons b r =>
   have e:(a::b::r).length - 1=((b::r).length - 1)+1:=by
    have h1:(a::b::r).length=r.length+2:=rfl
    have h2:(b::r).length=r.length+1:=rfl
    omega
   rw [e,List.eraseIdx_cons_succ,ih]
   all_goals rfl
theorem zkv {α:Type}:∀ (l:List α) (i:Nat),(l.eraseIdx i).length<=l.length
 | [],_=>Nat.le_refl _
 | _::_,0=>Nat.le_succ _
 | _::r,i+1=>Nat.succ_le_succ (zkv r i)
section
variable {X:Cx} {pins:List (Addr×Obj)} {σ:St} {H:Hp} {s:Shared} {l b:Addr} {xs ys zs:List V}
theorem Inv.lset {its its':List Value} {n:Nat} {f:Array Value->Array Value} {t':Nat} (I:Inv X pins σ H s) (hH:H l=some (.lst xs))
  (e:s.heap.get? l=some { cls:=.type "list",data:=.seq its.toArray n }) (hf:f its.toArray=its'.toArray) (hv:Vals ys its') (hz:ys.length<=sizeLine) :
  Inv X pins σ (upd H l (.lst ys)) { s with heap:=s.heap.update l (Obj.mapSeq f),toks:=t' }:=by
 have q:=PySem.IsL.update e f
 rw [hf] at q
 refine I.write (x:=l) (e:=l) (by rw [hH]; exact trivial) (.inl rfl) (λ b' u hb hu=>(Heap.get?_update_other s.heap (Obj.mapSeq f) (Ne.symm hb)).trans hu) ⟨_,q⟩ ?_
 exact ⟨hz,its',_,hv,q⟩
theorem Inv.lnew {its:List Value} {t':Nat} (I:Inv X pins σ H s) (hv:Vals ys its) (hz:ys.length<=sizeLine) :
  Inv X pins σ (upd H s.heap.objs.size (.lst ys)) { s with heap:=s.heap.push { cls:=.type "list",data:=.seq its.toArray },toks:=t' } :=
 I.laid (λ _ _ q=>Heap.get?_push_of_some _ q) (Nat.le_refl _) ⟨hz,its,0,hv,Heap.get?_push_size _ rfl⟩
theorem Inv.fresh (I:Inv X pins σ H s):H s.heap.objs.size=none:=I.hok.fresh (Nat.le_refl _)
theorem Inv.lstM (I:Inv X pins σ H s) (hH:H l=some (.lst xs)):xs.length<=sizeLine/\∃ (its:List Value) (n:Nat),Vals xs its/\xs.length=its.length/\s.heap.get? l=some { cls:=.type "list",data:=.seq its.toArray n }:=by
 obtain ⟨z,its,n,r,e⟩:=I.hok l _ hH
 exact ⟨z,its,n,r,r.length,e⟩
end
section
variable {X:Cx}
def zrh:V->List V->Hp->VK->Prop:=λ x vs H Q=>∃ l xs y,x=.ref l/\vs=[y]/\H l=some (.lst xs)/\xs.length < sizeLine/\Q .non (upd H l (.lst (xs++[y])))
theorem zbl:MtM X "list.append" zrh:=by
 intro pins s σ H x vs v us Q I rx rv h
 obtain ⟨l,xs,y,rfl,rfl,hH,hz,q⟩:=h
 cases rx
 obtain ⟨u,rfl,ru⟩:=rv.one
 obtain ⟨z,its,n,r,hl,e⟩:=I.lstM hH
 refine call_meets F.slot_list_append ⟨_,e,rfl⟩ F.entry_list_append (F.args_list_append_2 _ _) (PySem.list_append l its.toArray n u (by rw [List.size_toArray]; omega)) ⟨e,?_⟩
 refine ⟨.non,_,I.lset (its':=its++[u]) hH e (by simp) (r.append (.cons ru .nil)) ?_,rfl,q⟩
 rw [List.length_append,List.length_singleton]
 omega
def rPop:V->List V->Hp->VK->Prop:=λ x vs H Q=>∃ l xs y,x=.ref l/\vs=[]/\H l=some (.lst xs)/\xs[xs.length - 1]?=some y/\Q y (upd H l (.lst xs.dropLast))
theorem zqA:MtM X "list.pop" rPop:=by
 intro pins s σ H x vs v us Q I rx rv h
 obtain ⟨l,xs,y,rfl,rfl,hH,hy,q⟩:=h
 cases rx
 have hus:=rv.zero
 subst hus
 obtain ⟨z,its,n,r,hl,e⟩:=I.lstM hH
 obtain ⟨u,hu,ru⟩:=r.get hy
 have hy':its.toArray[its.toArray.size - 1]?=some u:=by
   show its.toArray[its.length - 1]?=some u
   rw [<-Array.getElem?_toList,<-hl]
   exact hu
 refine call_meets F.slot_list_pop ⟨_,e,rfl⟩ F.entry_list_pop (F.args_list_pop_1 _) (MeetsSeq.list_pop_last l its.toArray n u hy' (by rw [List.size_toArray]; omega)) ⟨e,?_⟩
 refine ⟨y,_,I.lset (its':=its.dropLast) hH e ?_ r.dropLast ?_,ru,q⟩
 . show its.toArray.eraseIdxIfInBounds (its.toArray.size - 1)=its.dropLast.toArray
   rw [List.size_toArray,List.eraseIdxIfInBounds_toArray,znC]
 . rw [List.length_dropLast]
   omega
def zsl:V->List V->Hp->VK->Prop:=λ x vs H Q=>∃ l xs i k y,x=.ref l/\vs=[.int i]/\H l=some (.lst xs)/\-(2 ^ 63)<=i/\i < 2 ^ 63/\seqIndex? i xs.length=some k/\xs[k]?=some y/\Q y (upd H l (.lst (xs.eraseIdx k)))
theorem zpV:MtM X "list.pop" zsl:=by
 intro pins s σ H x vs v us Q I rx rv h
 obtain ⟨l,xs,i,k,y,rfl,rfl,hH,h1,h2,hk,hy,q⟩:=h
 cases rx
 obtain ⟨u,rfl,ru⟩:=rv.one
 obtain ⟨t,rfl⟩:=ru
 obtain ⟨z,its,n,r,hl,e⟩:=I.lstM hH
 obtain ⟨w,hw,rw'⟩:=r.get hy
 refine call_meets F.slot_list_pop ⟨_,e,rfl⟩ F.entry_list_pop (F.args_list_pop_2 _ _)
   (MeetsSeq.list_pop_at l its.toArray n i t k w (fitsIndex_both h1 h2) (by rw [List.size_toArray,<-hl]; exact hk) (by rw [<-Array.getElem?_toList]; exact hw) (by rw [List.size_toArray]; omega)) ⟨e,?_⟩
 refine ⟨y,_,I.lset (its':=its.eraseIdx k) hH e ?_ (r.eraseIdx k) ?_,rw',q⟩
 . show its.toArray.eraseIdxIfInBounds k=(its.eraseIdx k).toArray
   rw [List.eraseIdxIfInBounds_toArray]
 . have:=zkv xs k
   omega
def rCat:R2:=λ x y H Q=>∃ l b xs zs,x=.ref l/\y=.ref b/\H l=some (.lst xs)/\H b=some (.lst zs)/\xs.length+zs.length<=sizeLine/\∀ p,H p=none->Q (.ref p) (upd H p (.lst (xs++zs)))
theorem zsu:OpR X (binaryOp .Add) rCat:=by
 intro pins s σ H x y v u Q I rx ry h
 obtain ⟨l,b,xs,zs,rfl,rfl,hH,hB,hz,q⟩:=h
 cases rx
 cases ry
 obtain ⟨z,its,n,r,hl,e⟩:=I.lstM hH
 obtain ⟨z2,its2,n2,r2,hl2,e2⟩:=I.lstM hB
 refine PySem.P.add_list e e2 ?_ (by rw [List.size_toArray,List.size_toArray]; omega)
 have ea:its.toArray++its2.toArray=(its++its2).toArray:=by simp
 rw [ea]
 exact ⟨.ref _,_,I.lnew (t':=s.toks) (r.append r2) (by rw [List.length_append]; omega),rfl,q _ I.fresh⟩
end
section
variable {prog:Program} {w:World} {A:Around} {E:Value->Shared->Prop} {s:Shared}
set_option maxRecDepth 100000 in
end
section
variable {X:Cx}
end
end L2
namespace L2
open PySem PySem.Spec PyProof.Rows
section
variable {κ:Type} [DecidableEq κ]
def valV (kvs:List (κ×V)) (k:κ):Option V:=(kvs.find? λ kv=>decide (kv.1=k)).map (·.2)
def putK (kvs:List (κ×V)) (k:κ) (v:V):List (κ×V) :=
 if (kvs.any λ kv=>decide (kv.1=k))=true then kvs.map (λ kv=>if kv.1=k then (kv.1,v) else kv) else kvs++[(k,v)]
def zh4 (kvs:List (κ×V)) (k:κ):List (κ×V):=kvs.filter λ kv=>decide (kv.1≠k)
theorem zbD {p:κ×V} {r:List (κ×V)} {k:κ} (e:p.1=k):valV (p::r) k=some p.2:=by simp [valV,List.find?_cons,e]
theorem zbE {p:κ×V} {r:List (κ×V)} {k:κ} (e:¬ p.1=k):valV (p::r) k=valV r k:=by simp [valV,List.find?_cons,e]
theorem ze9 (k:κ):∀ kvs:List (κ×V),(kvs.any λ kv=>decide (kv.1=k))=(valV kvs k).isSome
 | []=>rfl
 | p::r=>by
  rw [List.any_cons]
  by_cases e:p.1=k
  . simp only [zbD e,decide_eq_true e,Bool.true_or,Option.isSome_some]
  . rw [zbE e,decide_eq_false e,Bool.false_or]; exact ze9 k r
theorem zmj (k j:κ) (y:V):∀ kvs:List (κ×V),valV (kvs.map λ kv=>if kv.1=k then (kv.1,y) else kv) j=(valV kvs j).map λ x=>if j=k then y else x
 | []=>rfl
 | p::r=>by
  have ih:=zmj k j y r
  rw [List.map_cons]
  by_cases h:p.1=k
  . rw [if_pos h]
    by_cases e:p.1=j
    . rw [zbD (p:=(p.1,y)) e,zbD e,Option.map_some,if_pos (e.symm.trans h)]
    . rw [zbE (p:=(p.1,y)) e,zbE e,ih]
  . rw [if_neg h]
    by_cases e:p.1=j
    . rw [zbD (p:=p) e,zbD e,Option.map_some,if_neg (λ z=>h (e.trans z))]
    . rw [zbE (p:=p) e,zbE e,ih]
theorem zjH (k j:κ) (y:V):∀ kvs:List (κ×V),valV kvs k=none->valV (kvs++[(k,y)]) j=if j=k then some y else valV kvs j
 | [],_=>by
  by_cases e:k=j
  . rw [if_pos e.symm]; exact zbD (p:=(k,y)) e
  . rw [if_neg (λ z=>e z.symm)]; exact zbE (p:=(k,y)) e
 | p::r,hn=>by
  rw [List.cons_append]
  have hk:¬ p.1=k:=λ z=>by rw [zbD z] at hn; cases hn
  rw [zbE hk] at hn
  have ih:=zjH k j y r hn
  by_cases e:p.1=j
  . rw [zbD e,zbD e,if_neg (λ z=>hk (e.trans z))]
  . rw [zbE e,zbE e,ih]
theorem zmi (kvs:List (κ×V)) (k j:κ) (y:V):valV (putK kvs k y) j=if j=k then some y else valV kvs j:=by
 unfold putK
 by_cases a:(kvs.any λ kv=>decide (kv.1=k))=true
 . rw [if_pos a,zmj]
   rw [ze9] at a
   by_cases e:j=k
   . obtain ⟨x,hx⟩:=Option.isSome_iff_exists.mp a
     rw [if_pos e,e,hx,Option.map_some,if_pos rfl]
   . rw [if_neg e]
     cases valV kvs j with
     | none=>rfl
     | some x=>rw [Option.map_some,if_neg e]
 . rw [if_neg a]
   refine zjH k j y kvs ?_
   rw [ze9] at a
   cases q:valV kvs k with
   | none=>rfl
   | some x=>rw [q] at a; exact (a rfl).elim
theorem ze3 (kvs:List (κ×V)) (k:κ) (v:V):(putK kvs k v).length<=kvs.length+1:=by
 unfold putK
 split
 . rw [List.length_map]; omega
 . rw [List.length_append,List.length_cons,List.length_nil]; omega
theorem zmt {kvs:List (κ×V)} {k:κ} (v:V) (h:valV kvs k=none):putK kvs k v=kvs++[(k,v)]:=by
 unfold putK
 rw [ze9,h]
 exact if_neg (by decide)
theorem RelO.zdk {o:Option V} {u:Option Value} (r:RelO o u):o.isSome=u.isSome:=by
 cases o with
 | none=>cases u with
  | none=>rfl
  | some _=>exact (show False from r).elim
 | some _=>cases u with
  | none=>exact (show False from r).elim
  | some _=>rfl
theorem RelO.getD {o:Option V} {u:Option Value} {d:V} {d':Value} (r:RelO o u) (rd:RelV d d'):RelV (o.getD d) (u.getD d'):=by
 cases o with
 | none=>cases u with
  | none=>exact rd
  | some _=>exact (show False from r).elim
 | some _=>cases u with
  | none=>exact (show False from r).elim
  | some _=>exact r
theorem KV.val {kvs:List (κ×V)} {vs:List (κ×Value)} (r:KV kvs vs) (k:κ):RelO (valV kvs k) (valueAt vs k):=by
 unfold KV at r
 induction r with
 | nil=>exact True.intro
 | @cons p q ps qs h t ih =>
  obtain ⟨h1,h2⟩:=h
  by_cases e:p.1=k
  . have e':q.1=k:=h1.symm.trans e
    have b:valueAt (q::qs) k=some q.2:=by simp [valueAt,List.find?_cons,e']
    rw [zbD e,b]; exact h2
  . have e':¬ q.1=k:=λ z=>e (h1.trans z)
    have b:valueAt (q::qs) k=valueAt qs k:=by simp [valueAt,List.find?_cons,e']
    rw [zbE e,b]; exact ih
theorem KV.any {kvs:List (κ×V)} {vs:List (κ×Value)} (r:KV kvs vs) (k:κ):(kvs.any λ kv=>decide (kv.1=k))=vs.any λ kv=>decide (kv.1=k):=by
 unfold KV at r
 induction r with
 | nil=>rfl
 | cons h t ih=>rw [List.any_cons,List.any_cons,ih,h.1]
theorem KV.repl {kvs:List (κ×V)} {vs:List (κ×Value)} (r:KV kvs vs) (k:κ) {y:V} {u:Value} (ry:RelV y u) :
  KV (kvs.map λ kv=>if kv.1=k then (kv.1,y) else kv) (vs.map λ kv=>if kv.1=k then (kv.1,u) else kv):=by
 unfold KV at r ⊢
 induction r with
 | nil=>exact .nil
 | @cons p q ps qs h t ih =>
  rw [List.map_cons,List.map_cons]
  refine .cons ?_ ih
  obtain ⟨h1,h2⟩:=h
  by_cases e:p.1=k
  . rw [if_pos e,if_pos (h1.symm.trans e)]; exact ⟨h1,ry⟩
  . rw [if_neg e,if_neg (λ z=>e (h1.trans z))]; exact ⟨h1,h2⟩
theorem KV.put {kvs:List (κ×V)} {vs:List (κ×Value)} (r:KV kvs vs) (k:κ) {y:V} {u:Value} (ry:RelV y u):KV (putK kvs k y) (stored vs k u):=by
 unfold putK stored
 rw [r.any k]
 by_cases e:(vs.any λ kv=>decide (kv.1=k))=true
 . rw [if_pos e,if_pos e]; exact r.repl k ry
 . rw [if_neg e,if_neg e]; exact Paired.snoc r ⟨rfl,ry⟩
theorem KV.drop {kvs:List (κ×V)} {vs:List (κ×Value)} (r:KV kvs vs) (k:κ):KV (zh4 kvs k) (without vs k):=by
 unfold KV at r ⊢
 unfold zh4 without
 induction r with
 | nil=>exact .nil
 | @cons p q ps qs h t ih =>
  obtain ⟨h1,h2⟩:=h
  rw [List.filter_cons,List.filter_cons]
  by_cases e:p.1=k
  . have a:¬ decide (p.1≠k)=true:=by simp [e]
    have b:¬ decide (q.1≠k)=true:=by simp [h1.symm.trans e]
    rw [if_neg a,if_neg b]; exact ih
  . have e':¬ q.1=k:=λ z=>e (h1.trans z)
    have a:decide (p.1≠k)=true:=by simp [e]
    have b:decide (q.1≠k)=true:=by simp [e']
    rw [if_pos a,if_pos b]; exact .cons ⟨h1,h2⟩ ih
theorem KV.keys {kvs:List (κ×V)} {vs:List (κ×Value)} (r:KV kvs vs):kvs.map (·.1)=vs.map (·.1):=by
 unfold KV at r
 induction r with
 | nil=>rfl
 | cons h t ih=>rw [List.map_cons,List.map_cons,ih,h.1]
theorem KV.length {kvs:List (κ×V)} {vs:List (κ×Value)} (r:KV kvs vs):kvs.length=vs.length:=Paired.length r
theorem zmT (kvs:List (κ×V)) (k:κ):(zh4 kvs k).length<=kvs.length:=List.length_filter_le _ _
end
theorem zho {P:Program} {w:World} {k:Key} {u:Value} (r:RelV (kV k) u):(zaM P w).is k u=true:=by
 cases k with
 | inl i=>obtain ⟨t,e⟩:=(show ∃ t,u=Value.int i t from r); subst e; exact zls P w i t
 | inr x=>obtain ⟨t,e⟩:=(show ∃ t,u=Value.str x t from r); subst e; exact zhf P w x t
theorem zkC {P:Program} {w:World}:∀ {ks:List Key} {us:List Value},Vals (ks.map kV) us->ItemsAre (zaM P w) ks us
 | [],_,r=>by rw [List.map_nil] at r; cases r; exact .nil
 | k::ks,_,r=>by
  rw [List.map_cons] at r
  cases r with
  | cons h t=>exact .cons (zho h) (zkC t)
abbrev KT (H:Hp):List (List Key×V)->List (List Key×Addr×Value)->Prop:=Paired λ p q=>p.1=q.1/\H q.2.1=some (.tup (p.1.map kV))/\RelV p.2 q.2.2
theorem KT.val {H:Hp} {kvs:List (List Key×V)} {xs:List (List Key×Addr×Value)} (r:KT H kvs xs) (k:List Key):RelO (valV kvs k) ((atKey xs k).map (·.2)):=by
 induction r with
 | nil=>exact True.intro
 | @cons p q ps qs h t ih =>
  obtain ⟨h1,_,h2⟩:=h
  by_cases e:p.1=k
  . have e':q.1=k:=h1.symm.trans e
    have b:atKey (q::qs) k=some q.2:=by simp [atKey,List.find?_cons,e']
    rw [zbD e,b]; exact h2
  . have e':¬ q.1=k:=λ z=>e (h1.trans z)
    have b:atKey (q::qs) k=atKey qs k:=by simp [atKey,List.find?_cons,e']
    rw [zbE e,b]; exact ih
theorem KT.repl {H:Hp} {kvs:List (List Key×V)} {xs:List (List Key×Addr×Value)} (r:KT H kvs xs) (k:List Key) {y:V} {u:Value} (ry:RelV y u) :
  KT H (kvs.map λ kv=>if kv.1=k then (kv.1,y) else kv) (xs.map (putAt k u)):=by
 induction r with
 | nil=>exact .nil
 | @cons p q ps qs h t ih =>
  rw [List.map_cons,List.map_cons]
  refine .cons ?_ ih
  obtain ⟨h1,h2,h3⟩:=h
  unfold putAt
  by_cases e:p.1=k
  . rw [if_pos e,if_pos (h1.symm.trans e)]; exact ⟨h1,h2,ry⟩
  . rw [if_neg e,if_neg (λ z=>e (h1.trans z))]; exact ⟨h1,h2,h3⟩
theorem KT.put {H:Hp} {kvs:List (List Key×V)} {xs:List (List Key×Addr×Value)} (r:KT H kvs xs) (k:List Key) {b:Addr} {y:V} {u:Value} (hb:H b=some (.tup (k.map kV))) (ry:RelV y u) :
   KT H (putK kvs k y) (storedH xs k b u):=by
 have e:(kvs.any λ kv=>decide (kv.1=k))=(atKey xs k).isSome:=by
   rw [ze9,(r.val k).zdk,Option.isSome_map]
 unfold putK storedH
 rw [e]
 by_cases q:(atKey xs k).isSome=true
 . rw [if_pos q,if_pos q]; exact r.repl k ry
 . rw [if_neg q,if_neg q]; exact Paired.snoc r ⟨rfl,hb,ry⟩
theorem KT.keeps {H H':Hp} {kvs:List (List Key×V)} {xs:List (List Key×Addr×Value)} (r:KT H kvs xs) (ht:∀ b ys,H b=some (.tup ys)->H' b=some (.tup ys)):KT H' kvs xs :=
 Paired.mapP r λ _ _ z=>⟨z.1,ht _ _ z.2.1,z.2.2⟩
section
variable {P:Program} {w:World} {H:Hp} {h:Heap} {a:Addr}
theorem zsj {u:HO} (ok:HOk P w H h) (e:Rd H a u):zbZ P w H h a u:=e.ok ok
theorem zkK {kvs:List (Key×V)} (ok:HOk P w H h) (e:Rd H a (.dK kvs)):kvs.length<=sizeLine/\(a == sysModules)=false/\∃ vs,KV kvs vs/\h.DictOf (zaM P w) a vs :=
 show zbZ P w H h a (.dK kvs) from zsj ok e
theorem zkL {kvs:List (Key×V)} (ok:HOk P w H h) (e:H a=some (.dK kvs)):kvs.length<=sizeLine/\(a == sysModules)=false/\∃ vs,KV kvs vs/\h.DictOf (zaM P w) a vs:=zkK ok (.inl e)
theorem zhl {ks:List Key} (ok:HOk P w H h) (e:H a=some (.tup (ks.map kV))):(tupleKind (zaM P w)).is h ks a:=by
 obtain ⟨_,its,r,o,h1,h2,n,h3⟩:=(show zbZ P w H h a (.tup (ks.map kV)) from ok a _ e)
 exact ⟨o,its.toArray,n,h1,h2,h3,by simpa using zkC r⟩
theorem zkJ {kvs:List (List Key×V)} (ok:HOk P w H h) (e:Rd H a (.dT kvs)):kvs.length<=sizeLine/\(a == sysModules)=false /\
  ∃ xs,KT H kvs xs/\h.DictOfH (tupleKind (zaM P w)) a xs:=by
 obtain ⟨z,y,xs,r,o,es,ep,h1,h2,h3,h4,h5⟩:=(show zbZ P w H h a (.dT kvs) from zsj ok e)
 refine ⟨z,y,xs,r,o,es,ep,h1,h2,h3,h4,λ x hx=>?_,h5⟩
 have all:∀ {l:List (List Key×V)} {m:List (List Key×Addr×Value)},KT H l m->∀ x∈m,(tupleKind (zaM P w)).is h x.1 x.2.1:=by
  intro l m q
  induction q with
  | nil=>intro x hx; exact nomatch hx
  | @cons p q ps qs hq t ih =>
   intro x hx
   rcases List.mem_cons.mp hx with e | hx
   . subst e
     exact zhl ok (by rw [<-hq.1]; exact hq.2.1)
   . exact ih x hx
 exact all r x hx
theorem zto {kvs:List (List Key×V)} (ok:HOk P w H h) (e:H a=some (.dT kvs)):kvs.length<=sizeLine/\(a == sysModules)=false /\
 ∃ xs,KT H kvs xs/\h.DictOfH (tupleKind (zaM P w)) a xs:=zkJ ok (.inl e)
end
def DGet (H:Hp) (a:Addr) (y:V) (r:Option V):Prop :=
 (∃ kvs k,Rd H a (.dK kvs)/\y=kV k/\r=valV kvs k)\/∃ kvs k b,Rd H a (.dT kvs)/\y=.ref b/\H b=some (.tup (k.map kV))/\r=valV kvs k
def DPut (H:Hp) (a:Addr) (y v:V) (H':Hp):Prop :=
 (∃ kvs k,H a=some (.dK kvs)/\y=kV k/\kvs.length < sizeLine/\H'=upd H a (.dK (putK kvs k v))) \/
 ∃ kvs k b,H a=some (.dT kvs)/\y=.ref b/\H b=some (.tup (k.map kV))/\kvs.length < sizeLine/\H'=upd H a (.dT (putK kvs k v))
theorem DGet.k {H:Hp} {a:Addr} {kvs:List (Key×V)} {k:Key} (e:H a=some (.dK kvs)):DGet H a (kV k) (valV kvs k):=.inl ⟨kvs,k,.inl e,rfl,rfl⟩
theorem DPut.k {H:Hp} {a:Addr} {kvs:List (Key×V)} {k:Key} {v:V} (e:H a=some (.dK kvs)) (hl:kvs.length < sizeLine):DPut H a (kV k) v (upd H a (.dK (putK kvs k v))):=.inl ⟨kvs,k,e,rfl,hl,rfl⟩
section
variable {X:Cx} {pins:List (Addr×Obj)} {σ:St} {H:Hp} {s:Shared} {a:Addr} {y v:V} {u r:Value} {o:Option V} {A:Around} {E:Value->Shared->Prop}
theorem Inv.big (I:Inv X pins σ H s):sysModules < s.heap.objs.size:=by
 have h:mainGlobals < s.heap.objs.size:=(I.mod.glob.keeps I.bk).lt
 exact Nat.lt_trans (by decide) h
theorem zph {Q:Value->Shared->Prop} (hu:A.units+1 < cLine) (I:Inv X pins σ H s) (g:DGet H a y (some v)) (ry:RelV y u) (h:∀ w' s',Inv X pins σ H s'->RelV v w'->Q w' s') :
   wpAny (model X.prog X.w) A (getItem (.ref a) u) Q E s:=by
 rcases g with ⟨kvs,k,e,ey,l⟩ | ⟨kvs,k,b,e,ey,eb,l⟩
 . subst ey
   obtain ⟨z,hd,vs,rel,dd⟩:=zkK I.hok e
   obtain ⟨w',hw,rw'⟩:=RelO.some_of (v:=v) (o:=valueAt vs k) (by rw [l]; exact rel.val k)
   exact wpAny_getItem_of (zho ry) dd.mapOf hw (h w' _ (I.tok _) rw')
 . subst ey
   cases (show u=Value.ref b from ry)
   obtain ⟨z,hd,xs,rel,dd⟩:=zkJ I.hok e
   obtain ⟨w',hw,rw'⟩:=RelO.some_of (v:=v) (o:=(atKey xs k).map (·.2)) (by rw [l]; exact rel.val k)
   obtain ⟨p,hp,hp2⟩:=Option.map_eq_some_iff.mp hw
   refine wpAny_getItem_heap (tupleKind_room_in1 hu) (zhl I.hok eb) dd hp ?_
   rw [hp2]
   exact h w' _ (I.tok _) rw'
theorem d_in {Q:Value->Shared->Prop} (hu:A.units+1 < cLine) (I:Inv X pins σ H s) (g:DGet H a y o) (ry:RelV y u) (h:∀ s',Inv X pins σ H s'->Q (.bool o.isSome) s') :
   wpAny (model X.prog X.w) A (compareOp .In u (.ref a)) Q E s:=by
 rcases g with ⟨kvs,k,e,ey,l⟩ | ⟨kvs,k,b,e,ey,eb,l⟩
 . subst ey
   obtain ⟨z,hd,vs,rel,dd⟩:=zkK I.hok e
   refine wpAny_in_of (zho ry) hd dd.mapOf ?_
   rw [<-(rel.val k).zdk,<-l]
   exact h _ (I.tok _)
 . subst ey
   cases (show u=Value.ref b from ry)
   obtain ⟨z,hd,xs,rel,dd⟩:=zkJ I.hok e
   refine wpAny_in_heap (tupleKind_room_in1 hu) (zhl I.hok eb) hd dd ?_
   have q:=(rel.val k).zdk
   rw [Option.isSome_map] at q
   rw [<-q,<-l]
   exact h _ (I.tok _)
theorem zrF {Q:Value->Shared->Prop} (hu:A.units+1 < cLine) (I:Inv X pins σ H s) (g:DGet H a y o) (ry:RelV y u) (h:∀ s',Inv X pins σ H s'->Q (.bool (!o.isSome)) s') :
   wpAny (model X.prog X.w) A (compareOp .NotIn u (.ref a)) Q E s:=by
 rcases g with ⟨kvs,k,e,ey,l⟩ | ⟨kvs,k,b,e,ey,eb,l⟩
 . subst ey
   obtain ⟨z,hd,vs,rel,dd⟩:=zkK I.hok e
   refine wpAny_notIn_of (zho ry) hd dd.mapOf ?_
   rw [<-(rel.val k).zdk,<-l]
   exact h _ (I.tok _)
 . subst ey
   cases (show u=Value.ref b from ry)
   obtain ⟨z,hd,xs,rel,dd⟩:=zkJ I.hok e
   refine wpAny_notIn_heap (tupleKind_room_in1 hu) (zhl I.hok eb) hd dd ?_
   have q:=(rel.val k).zdk
   rw [Option.isSome_map] at q
   rw [<-q,<-l]
   exact h _ (I.tok _)
theorem zhy {h':Heap} {t':Nat} {ob:HO} (I:Inv X pins σ H s) (mu:Mut (H a)) (hs:Heap.SameBut a s.heap h') (he:∃ q,h'.get? a=some q) (new:zbZ X.prog X.w (upd H a ob) h' a ob) :
  Inv X pins σ (upd H a ob) { s with heap:=h',toks:=t' } :=
 I.write (x:=a) (e:=a) mu (.inl rfl) (λ b q hb z=>(hs.2 b hb).trans z) he new
theorem zmV {P:Program} {w:World} {H':Hp} {h':Heap} {kvs:List (Key×V)} {vs:List (Key×Value)} (z:kvs.length<=sizeLine) (hd:(a == sysModules)=false) (rel:KV kvs vs) (dd:h'.DictOf (zaM P w) a vs) :
 zbZ P w H' h' a (.dK kvs):=⟨z,hd,vs,rel,dd⟩
theorem zpg {H':Hp} {Q:Unit->Shared->Prop} (hu:A.units+1 < cLine) (I:Inv X pins σ H s) (g:DPut H a y v H') (ry:RelV y u) (rv:RelV v r) (h:∀ s',Inv X pins σ H' s'->Q () s') :
   wpAny (model X.prog X.w) A (setItem (.ref a) u r) Q E s:=by
 rcases g with ⟨kvs,k,e,ey,l,eH⟩ | ⟨kvs,k,b,e,ey,eb,l,eH⟩
 . subst ey eH
   obtain ⟨z,hd,vs,rel,dd⟩:=zkL I.hok e
   have hz:vs.length<=sizeLine:=by rw [<-rel.length]; exact z
   have hl:(putK kvs k v).length<=sizeLine:=by have:=ze3 kvs k v; omega
   refine wpAny_setItem_pairs (hsz:=hz) (zho ry) dd λ h' dd' hs=>h _ ?_
   have he:∃ q,h'.get? a=some q:=let ⟨q,_,_,hq,_⟩:=dd'; ⟨q,hq⟩
   exact zhy I (by rw [e]; exact True.intro) hs he (zmV hl hd (rel.put k rv) dd')
 . subst ey eH
   cases (show u=Value.ref b from ry)
   obtain ⟨z,hd,xs,rel,dd⟩:=zto I.hok e
   have hz:xs.length<=sizeLine:=by rw [<-Paired.length rel]; exact z
   have hl:(putK kvs k v).length<=sizeLine:=by have:=ze3 kvs k v; omega
   refine wpAny_setItem_heap (hsz:=hz) (tupleKind_room_in1 hu) (zhl I.hok eb) dd λ h' dd' hs=>h _ ?_
   obtain ⟨q,es,ep,hq,h2,h3,h4,_,h5⟩:=dd'
   refine zhy I (by rw [e]; exact True.intro) hs ⟨q,hq⟩ ⟨hl,hd,_,(rel.put k eb rv).keeps λ c ys ec=>?_,q,es,ep,hq,h2,h3,h4,h5⟩
   rw [zae (za2 ec e (λ z=>nomatch z))]
   exact ec
end
section
variable {X:Cx} {pins:List (Addr×Obj)} {σ:St} {H:Hp} {s:Shared} {a:Addr} {kvs:List (Key×V)} {k:Key} {u:Value} {A:Around} {E:Value->Shared->Prop}
theorem d_delItem {Q:Unit->Shared->Prop} (I:Inv X pins σ H s) (e:H a=some (.dK kvs)) (ry:RelV (kV k) u) (l:(valV kvs k).isSome=true) (h:∀ s',Inv X pins σ (upd H a (.dK (zh4 kvs k))) s'->Q () s') :
  wpAny (model X.prog X.w) A (delItem (.ref a) u) Q E s:=by
 obtain ⟨z,hd,vs,rel,dd⟩:=zkL I.hok e
 refine wpAny_delItem_slot dd.typeIs (by decide) PySem.F.slot_dict_delitem
  (call_meetsIn PySem.F.slot_dict_delitem dd.typeIs PySem.F.entry_dict_delitem (PySem.F.args_dict_delitem_2 _ _) (meets_dict_delitem_pairs (zaM X.prog X.w) a (zho ry)) ⟨vs,dd,by rw [<-rel.length]; exact z,by rw [<-(rel.val k).zdk]; exact l,λ h' dd' hs=>h _ ?_⟩)
 have he:∃ q,h'.get? a=some q:=let ⟨q,_,_,hq,_⟩:=dd'; ⟨q,hq⟩
 exact zhy I (by rw [e]; exact True.intro) hs he (zmV (Nat.le_trans (zmT kvs k) z) hd (rel.drop k) dd')
theorem ztp {v:V} {more:List Value} {Q:Value->Shared->Prop} (I:Inv X pins σ H s) (e:H a=some (.dK kvs)) (ry:RelV (kV k) u) (l:valV kvs k=some v) (hm:more=[]\/∃ x,more=[x])
  (h:∀ w' s',Inv X pins σ (upd H a (.dK (zh4 kvs k))) s'->RelV v w'->Q w' s'):wpAny (model X.prog X.w) A (call (.builtin "dict.pop") (.ref a::u::more)) Q E s:=by
 obtain ⟨z,hd,vs,rel,dd⟩:=zkL I.hok e
 obtain ⟨w',hw,rw'⟩:=RelO.some_of (v:=v) (o:=valueAt vs k) (by rw [<-l]; exact rel.val k)
 have hp:(keyPart u).isSome=true:=by
  cases k with
  | inl i=>obtain ⟨t,q⟩:=(show ∃ t,u=Value.int i t from ry); subst q; rfl
  | inr x=>obtain ⟨t,q⟩:=(show ∃ t,u=Value.str x t from ry); subst q; rfl
 have ha:argsOk "dict.pop" ⟨.ref a::u::more,[]⟩:=by
  rcases hm with q | ⟨x,q⟩
  . subst q; exact PySem.F.args_dict_pop_2 _ _
  . subst q; exact PySem.F.args_dict_pop_3 _ _ _
 refine call_meetsIn PySem.F.slot_dict_pop dd.typeIs PySem.F.entry_dict_pop ha (meets_dict_pop_there (zaM X.prog X.w) a (zho ry) more hm hp)
  ⟨vs,w',dd,by rw [<-rel.length]; exact z,hw,λ h' dd' hs=>h w' _ ?_ rw'⟩
 have he:∃ q,h'.get? a=some q:=let ⟨q,_,_,hq,_⟩:=dd'; ⟨q,hq⟩
 exact zhy I (by rw [e]; exact True.intro) hs he (zmV (Nat.le_trans (zmT kvs k) z) hd (rel.drop k) dd')
theorem zsM {r:Value} {Q:Value->Shared->Prop} (I:Inv X pins σ H s) (e:H a=some (.dK kvs)) (ry:RelV (kV k) u) (l:valV kvs k=none) (h:∀ s',Inv X pins σ H s'->Q r s') :
  wpAny (model X.prog X.w) A (call (.builtin "dict.pop") [.ref a,u,r]) Q E s:=by
 obtain ⟨z,hd,vs,rel,dd⟩:=zkL I.hok e
 have hn:valueAt vs k=none:=RelO.none_of (by rw [<-l]; exact rel.val k)
 have hp:(keyPart u).isSome=true:=by
  cases k with
  | inl i=>obtain ⟨t,q⟩:=(show ∃ t,u=Value.int i t from ry); subst q; rfl
  | inr x=>obtain ⟨t,q⟩:=(show ∃ t,u=Value.str x t from ry); subst q; rfl
 exact call_meetsIn PySem.F.slot_dict_pop dd.typeIs PySem.F.entry_dict_pop (PySem.F.args_dict_pop_3 _ _ _) (meets_dict_pop_default (zaM X.prog X.w) a (zho ry) hd hp r) ⟨vs,dd,hn,h _ (I.tok _)⟩
end
def NoSl (i:Expr):Prop:=∀ ov iv,subscripted i false ov iv=operate [ov,iv] (getItem ov iv)
theorem zqY {prog:Program} {w:World} {A:Around} {E:Value->Shared->Prop} {s:Shared} {env:Env} {value slice:Expr} {pos:Pos} {T id:String} {Q:Value->Shared->Prop}
  (hl:typeLookup (.type T) "__getitem__" = pure (some (.builtin id))) (hs:NoSl slice)
  (h:wpAny (model prog w) A (eval value env) (λ o s₁=>wpAny (model prog w) A (eval slice env) (λ i s₂=>s₂.TypeIs o T/\wpAny (model prog w) A (getItem o i) Q E s₂) E s₁) E s) :
  wpAny (model prog w) A (eval (.Subscript value slice pos) env) Q E s:=by
 refine Subscript_ (wpAny_mono h (λ o s₁ h₁=>wpAny_mono h₁ (λ i s₂ h₂=>?_) λ _ _ x=>x) λ _ _ x=>x)
 obtain ⟨hT,h₂⟩:=h₂
 unfold subscriptTail
 refine wpAny_bind ?_
 rw [getitemInPython_of_ne hT.not_modules]
 refine wpAny_bind (wpAny_specialOf hT hl ?_)
 have fin:wpAny (model prog w) A (subscripted slice false o i) (λ r s₃=>wpAny (model prog w) A (letTemporaryGo value o r >>= λ _=>pure r) Q E s₃) E s₂:=by
  rw [hs o i]
  exact wpAny_operating (wpAny_mono h₂ (λ r s₃ h₃=>wpAny_bind (wpAny_letTemporaryGo (wpAny_pure h₃))) λ _ _ x=>x)
 first
  | exact wpAny_pure (wpAny_bind fin)
  | exact wpAny_bind (wpAny_pure (wpAny_bind fin))
  | exact wpAny_bind fin
theorem zlL {X:Cx} {pins:List (Addr×Obj)} {σ:St} {H:Hp} {s:Shared} {a:Addr} {y:V} {o:Option V} (I:Inv X pins σ H s) (g:DGet H a y o):s.TypeIs (.ref a) "dict" := by
 rcases g with ⟨kvs,k,e,_,_⟩ | ⟨kvs,k,b,e,_,_,_⟩
 . obtain ⟨_,_,vs,_,dd⟩:=zkK I.hok e
   exact dd.typeIs
 . obtain ⟨_,_,xs,_,dd⟩:=zkJ I.hok e
   exact dd.typeIs
def zs2 (td ty:TE):TE:=λ σ H Q=>td σ H λ x H1=>ty σ H1 λ y H2=>∃ a v,x=.ref a/\DGet H2 a y (some v)/\Q v H2
def tDIn (ty td:TE):TE:=λ σ H Q=>ty σ H λ y H1=>td σ H1 λ x H2=>∃ a o,x=.ref a/\DGet H2 a y o/\Q (.bl o.isSome) H2
def zqW (ty td:TE):TE:=λ σ H Q=>ty σ H λ y H1=>td σ H1 λ x H2=>∃ a o,x=.ref a/\DGet H2 a y o/\Q (.bl (!o.isSome)) H2
def zsh (td ty tv:TE):TS:=λ D σ H=>tv σ H λ v H1=>td σ H1 λ x H2=>ty σ H2 λ y H3=>∃ a H4,x=.ref a/\DPut H3 a y v H4/\D.nx σ H4
section
variable {X:Cx} {o i e value:Expr} {pos pos' tpos:Pos} {td ty tv:TE}
theorem zeY (hu:X.A.units+1 < cLine) (ho:PE X o td) (hi:PE X i ty) (hs:NoSl i):PE X (.Subscript o i pos) (zs2 td ty):=by
 intro pins s σ H Q I h
 refine zqY PySem.F.slot_dict_getitem.lookup hs (thn (ho pins s σ H _ I h) λ u s1 ⟨x,H1,I1,rx,q1⟩=>thn (hi pins s1 σ H1 _ I1 q1) λ iv s2 ⟨y,H2,I2,ry,a,v,ex,g,q2⟩=>?_)
 subst ex
 obtain rfl:u=Value.ref a:=rx
 exact ⟨zlL I2 g,zph hu I2 g ry λ w' s3 I3 rw'=>⟨v,H2,I3,rw',q2⟩⟩
theorem zon (hu:X.A.units+1 < cLine) (hi:PE X i ty) (ho:PE X o td):PC X .In i o (tDIn ty td):=by
 intro pins s σ H Q I h
 refine thn (hi pins s σ H _ I h) λ iv s1 ⟨y,H1,I1,ry,q1⟩=>thn (ho pins s1 σ H1 _ I1 q1) λ u s2 ⟨x,H2,I2,rx,a,ov,ex,g,q2⟩=>?_
 subst ex
 obtain rfl:u=Value.ref a:=rx
 exact d_in hu I2 g ry λ s3 I3=>⟨.bl ov.isSome,H2,I3,rfl,q2⟩
theorem zg4 (hu:X.A.units+1 < cLine) (hi:PE X i ty) (ho:PE X o td):PC X .NotIn i o (zqW ty td):=by
 intro pins s σ H Q I h
 refine thn (hi pins s σ H _ I h) λ iv s1 ⟨y,H1,I1,ry,q1⟩=>thn (ho pins s1 σ H1 _ I1 q1) λ u s2 ⟨x,H2,I2,rx,a,ov,ex,g,q2⟩=>?_
 subst ex
 obtain rfl:u=Value.ref a:=rx
 exact zrF hu I2 g ry λ s3 I3=>⟨.bl (!ov.isSome),H2,I3,rfl,q2⟩
theorem zd8 (hu:X.A.units+1 < cLine) (ho:PE X o td) (hi:PE X i ty) (hv:PE X value tv) (hs:swapsWith value (some (.Subscript o i pos')) pos.line X.env=pure false) :
  PS X (.Assign [.Subscript o i pos'] value pos) (zsh td ty tv):=by
 intro pins s σ H D I h
 refine wpAny_Assign_Subscript (thn (hv pins s σ H _ I h) λ r s1 ⟨v,H1,I1,rv,q1⟩=>thn (ho pins s1 σ H1 _ I1 q1) λ u s2 ⟨x,H2,I2,rx,q2⟩=>thn (hi pins s2 σ H2 _ I2 q2) λ iv s3 ⟨y,H3,I3,ry,a,H4,ex,g,q3⟩=>?_) hs
 subst ex
 obtain rfl:u=Value.ref a:=rx
 exact zpg hu I3 g ry rv λ s4 I4=>⟨σ,H4,I4,q3⟩
end
theorem zqg {P:Program} {w:World} {H:Hp} (h:Heap) (hb:sysModules < h.objs.size):zbZ P w H (h.push { cls:=.type "dict",data:=.dict #[] }) h.objs.size (.dK []) :=
 ⟨Nat.zero_le _,beq_eq_false_iff_ne.mpr (Ne.symm (Nat.ne_of_lt hb)),[],.nil,Heap.DictOf.new h⟩
def zrY:TE:=λ _ H Q=>∀ p,H p=none->Q (.ref p) (upd H p (.dK []))
section
variable {X:Cx} {pos:Pos}
theorem zdw:PE X (.Dict [] [] pos) zrY:=λ pins s σ H Q I h =>
 wpAny_Dict_empty ⟨.ref s.heap.objs.size,_,I.laid (a:=s.heap.objs.size) (o:=.dK []) (t':=s.toks) (λ _ _ q=>Heap.get?_push_of_some _ q) (Nat.le_refl _) (zqg s.heap I.big),rfl,h _ (I.hok.fresh (Nat.le_refl _))⟩
end
structure M1 (X:Cx) (o:Expr) (m:Str) (apos:Pos) (e:Expr) (cpos:Pos):Prop where
 base:attributeBase o m X.env (eval o X.env)=eval o X.env
 few:((backTo cpos (starEach [e] X.env)).all (λ x=>!x.1) && (backToKw cpos (keywordEach [] X.env)).all (λ x=>x.1.isSome)
  && decide (([e]:List Expr).length+([]:List Keyword).length+(if ([]:List Keyword).isEmpty then 0 else 1) < 30))=true
 line:(apos.endLine == cpos.line)=true
 trees:backTo cpos (starEach [e] X.env)=[(false,eval e X.env)]
structure M2 (X:Cx) (o:Expr) (m:Str) (apos:Pos) (e f:Expr) (cpos:Pos):Prop where
 base:attributeBase o m X.env (eval o X.env)=eval o X.env
 few:((backTo cpos (starEach [e,f] X.env)).all (λ x=>!x.1) && (backToKw cpos (keywordEach [] X.env)).all (λ x=>x.1.isSome)
  && decide (([e,f]:List Expr).length+([]:List Keyword).length+(if ([]:List Keyword).isEmpty then 0 else 1) < 30))=true
 line:(apos.endLine == cpos.line)=true
 trees:backTo cpos (starEach [e,f] X.env)=[(false,eval e X.env),(false,eval f X.env)]
def IsD (H:Hp) (a:Addr):Prop:=(∃ kvs,Rd H a (.dK kvs))\/∃ kvs,Rd H a (.dT kvs)
theorem zmN {X:Cx} {pins:List (Addr×Obj)} {σ:St} {H:Hp} {s:Shared} {a:Addr} (I:Inv X pins σ H s) (d:IsD H a) :
   s.TypeIs (.ref a) "dict" /\ (∀ b,Value.ref a=.ref b->∃ ob,s.heap.get? b=some ob/\ob.dict=none)/\(a == sysModules)=false:=by
 rcases d with ⟨kvs,e⟩ | ⟨kvs,e⟩
 . obtain ⟨_,hd,vs,_,dd⟩:=zkK I.hok e
   refine ⟨dd.typeIs,λ b q=>?_,hd⟩
   cases q
   obtain ⟨ob,_,_,h1,h2,_⟩:=dd
   exact ⟨ob,h1,h2.2.1⟩
 . obtain ⟨_,hd,xs,_,dd⟩:=zkJ I.hok e
   refine ⟨dd.typeIs,λ b q=>?_,hd⟩
   cases q
   obtain ⟨ob,_,_,h1,h2,_⟩:=dd
   exact ⟨ob,h1,h2.2.1⟩
section
variable {X:Cx} {pins:List (Addr×Obj)} {σ:St} {H:Hp} {s:Shared} {a:Addr} {y d:V} {u r:Value} {o:Option V} {A:Around} {E:Value->Shared->Prop}
theorem zsO {Q:Value->Shared->Prop} (hu:A.units+1 < cLine) (I:Inv X pins σ H s) (g:DGet H a y o) (ry:RelV y u) (h:∀ w' s',Inv X pins σ H s'->RelV (o.getD .non) w'->Q w' s') :
   wpAny (model X.prog X.w) A (call (.builtin "dict.get") [.ref a,u]) Q E s:=by
 rcases g with ⟨kvs,k,e,ey,l⟩ | ⟨kvs,k,b,e,ey,eb,l⟩
 . subst ey
   obtain ⟨z,hd,vs,rel,dd⟩:=zkK I.hok e
   refine call_meetsIn PySem.F.slot_dict_get dd.typeIs PySem.F.entry_dict_get (PySem.F.args_dict_get_2 _ _) (meets_dict_get (zaM X.prog X.w) a (zho ry) hd) ⟨_,dd.mapOf,h _ _ (I.tok _) ?_⟩
   rw [l]
   exact (rel.val k).getD rfl
 . subst ey
   cases (show u=Value.ref b from ry)
   obtain ⟨z,hd,xs,rel,dd⟩:=zkJ I.hok e
   refine call_meetsIn PySem.F.slot_dict_get dd.typeIs PySem.F.entry_dict_get (PySem.F.args_dict_get_2 _ _) (meetsH_dict_get (tupleKind (zaM X.prog X.w)) a b hd) ⟨tupleKind_room_in1 hu,k,xs,zhl I.hok eb,dd,h _ _ (I.tok _) ?_⟩
   rw [l]
   exact (rel.val k).getD rfl
theorem zsN {Q:Value->Shared->Prop} (hu:A.units+1 < cLine) (I:Inv X pins σ H s) (g:DGet H a y o) (ry:RelV y u) (rd:RelV d r) (h:∀ w' s',Inv X pins σ H s'->RelV (o.getD d) w'->Q w' s') :
   wpAny (model X.prog X.w) A (call (.builtin "dict.get") [.ref a,u,r]) Q E s:=by
 rcases g with ⟨kvs,k,e,ey,l⟩ | ⟨kvs,k,b,e,ey,eb,l⟩
 . subst ey
   obtain ⟨z,hd,vs,rel,dd⟩:=zkK I.hok e
   refine call_meetsIn PySem.F.slot_dict_get dd.typeIs PySem.F.entry_dict_get (PySem.F.args_dict_get_3 _ _ _) (meets_dict_get_default (zaM X.prog X.w) a (zho ry) hd r) ⟨_,dd.mapOf,h _ _ (I.tok _) ?_⟩
   rw [l]
   exact (rel.val k).getD rd
 . subst ey
   cases (show u=Value.ref b from ry)
   obtain ⟨z,hd,xs,rel,dd⟩:=zkJ I.hok e
   refine call_meetsIn PySem.F.slot_dict_get dd.typeIs PySem.F.entry_dict_get (PySem.F.args_dict_get_3 _ _ _) (meetsH_dict_get_default (tupleKind (zaM X.prog X.w)) a b hd r) ⟨tupleKind_room_in1 hu,k,xs,zhl I.hok eb,dd,h _ _ (I.tok _) ?_⟩
   rw [l]
   exact (rel.val k).getD rd
end
def zr0 (td ty:TE):TE:=λ σ H Q=>td σ H λ x H1=>∃ a,x=.ref a/\IsD H1 a/\ty σ H1 λ y H2=>∃ o,DGet H2 a y o/\Q (o.getD .non) H2
def zrZ (td ty tx:TE):TE:=λ σ H Q=>td σ H λ x H1=>∃ a,x=.ref a/\IsD H1 a/\ty σ H1 λ y H2=>tx σ H2 λ z H3=>∃ o,DGet H3 a y o/\Q (o.getD z) H3
def zrX (td ty tx:TE):TE:=λ σ H Q=>td σ H λ x H1=>∃ a,x=.ref a/\IsD H1 a/\ty σ H1 λ y H2=>tx σ H2 λ z H3=>∃ kvs k,H3 a=some (.dK kvs)/\y=kV k /\
 (∀ v,valV kvs k=some v->Q v (upd H3 a (.dK (zh4 kvs k))))/\(valV kvs k=none->Q z H3)
section
variable {X:Cx} {o e f:Expr} {apos cpos:Pos} {td ty tx:TE}
theorem zpQ (hu:X.A.units+1 < cLine) (ho:PE X o td) (he:PE X e ty) (m:M1 X o "get" apos e cpos):PE X (.Call (.Attribute o "get" apos) [e] [] cpos) (zr0 td ty):=by
 intro pins s σ H Q I h
 refine wpAny_Call_method m.base m.few m.line PySem.F.plainAttrs_dict PySem.F.slot_dict_get PySem.F.type_dict_get (thn (ho pins s σ H _ I h) λ u s1 ⟨x,H1,I1,rx,a,ex,d,q1⟩=>?_)
 subst ex
 obtain rfl:u=Value.ref a:=rx
 obtain ⟨t1,t2,_⟩:=zmN I1 d
 refine ⟨t1,t2,?_⟩
 rw [m.trees]
 refine Calls.callWith_builtin rfl (Calls.evalArgs_plain (Calls.spliced_cons (thn (he pins s1 σ H1 _ I1 q1) λ iv s2 ⟨y,H2,I2,ry,ov,g,q2⟩=>Calls.spliced_nil ?_)))
 exact zsO hu I2 g ry λ w' s3 I3 rw'=>⟨_,H2,I3,rw',q2⟩
theorem zgE (hu:X.A.units+1 < cLine) (ho:PE X o td) (he:PE X e ty) (hf:PE X f tx) (m:M2 X o "get" apos e f cpos):PE X (.Call (.Attribute o "get" apos) [e,f] [] cpos) (zrZ td ty tx):=by
 intro pins s σ H Q I h
 refine wpAny_Call_method m.base m.few m.line PySem.F.plainAttrs_dict PySem.F.slot_dict_get PySem.F.type_dict_get (thn (ho pins s σ H _ I h) λ u s1 ⟨x,H1,I1,rx,a,ex,d,q1⟩=>?_)
 subst ex
 obtain rfl:u=Value.ref a:=rx
 obtain ⟨t1,t2,_⟩:=zmN I1 d
 refine ⟨t1,t2,?_⟩
 rw [m.trees]
 refine Calls.callWith_builtin rfl (Calls.evalArgs_plain (Calls.spliced_cons (thn (he pins s1 σ H1 _ I1 q1) λ iv s2 ⟨y,H2,I2,ry,q2⟩ =>
  Calls.spliced_cons (thn (hf pins s2 σ H2 _ I2 q2) λ fv s3 ⟨z,H3,I3,rz,ov,g,q3⟩=>Calls.spliced_nil ?_))))
 exact zsN hu I3 g ry rz λ w' s4 I4 rw'=>⟨_,H3,I4,rw',q3⟩
theorem zmx (ho:PE X o td) (he:PE X e ty) (hf:PE X f tx) (m:M2 X o "pop" apos e f cpos):PE X (.Call (.Attribute o "pop" apos) [e,f] [] cpos) (zrX td ty tx):=by
 intro pins s σ H Q I h
 refine wpAny_Call_method m.base m.few m.line PySem.F.plainAttrs_dict PySem.F.slot_dict_pop PySem.F.type_dict_pop (thn (ho pins s σ H _ I h) λ u s1 ⟨x,H1,I1,rx,a,ex,d,q1⟩=>?_)
 subst ex
 obtain rfl:u=Value.ref a:=rx
 obtain ⟨t1,t2,_⟩:=zmN I1 d
 refine ⟨t1,t2,?_⟩
 rw [m.trees]
 refine Calls.callWith_builtin rfl (Calls.evalArgs_plain (Calls.spliced_cons (thn (he pins s1 σ H1 _ I1 q1) λ iv s2 ⟨y,H2,I2,ry,q2⟩ =>
  Calls.spliced_cons (thn (hf pins s2 σ H2 _ I2 q2) λ fv s3 ⟨z,H3,I3,rz,kvs,k,ea,ey,q3,q4⟩=>Calls.spliced_nil ?_))))
 subst ey
 cases l:valV kvs k with
 | some v=>exact ztp I3 ea ry l (.inr ⟨fv,rfl⟩) λ w' s4 I4 rw'=>⟨v,_,I4,rw',q3 v l⟩
 | none=>exact zsM I3 ea ry l λ s4 I4=>⟨z,H3,I4,rz,q4 l⟩
end
section
variable {X:Cx} {pins:List (Addr×Obj)} {σ:St} {H:Hp} {s:Shared} {a:Addr} {kvs:List (Key×V)} {A:Around} {E:Value->Shared->Prop}
end
section
variable {X:Cx} {pins:List (Addr×Obj)} {σ:St} {H:Hp} {s:Shared} {a:Addr} {y:V} {u:Value} {A:Around} {E:Value->Shared->Prop}
end
end L2
namespace Att
open PySem PySem.W PySem.Calls PyProof.Rows
theorem zhp {P:Params} {h:Heap}:∀ (ns:List Int) (vs:List Value),WellAll P h vs (ns.map WData.int)->IntsAre vs ns:=by
 intro ns
 induction ns with
 | nil =>
  intro vs w
  rw [List.map_nil] at w
  cases w
  exact .nil
 | cons n ns ih =>
  intro vs w
  rw [List.map_cons] at w
  cases w with
  | cons a b =>
   cases a
   exact .cons _ _ (ih _ b)
theorem zob {l:OpenLaw} {n:Nat} (hn:l.most=some n) {P:Params} {h:Heap} {args:List WData} {vals:List Value}
  (hpre:l.row.toRowW.claim.pre args=true) (hwl:WellAll P h vals args) :
  ∃ a vs ns,vals=[Value.ref a]/\args=[WData.list (ns.map WData.int)]/\h.get? a=some { cls:=.type "list",data:=.seq vs.toArray }/\IntsAre vs ns/\ns.length<=n:=by
 have hsh:WShape.hasAll [] args [.list .int]=true:=(pre_splitW hpre).1
 have hc:l.pre.holds [] { args:=args }=true:=(pre_splitW hpre).2
 obtain ⟨d,r,rfl,h1,h2⟩:=hasAllW_cons hsh
 obtain rfl:=hasAllW_nil h2
 obtain ⟨xs,rfl,h3⟩:=hasW_list h1
 obtain ⟨ns,rfl⟩:=items_int h3
 have hlen:ns.length<=n:=by
  unfold OpenLaw.pre at hc
  have h4:(WTm.not (.lt (.lit (.int (n:Int))) (.len (.arg 0)))).holds [] { args:=[.list (ns.map .int)] }=true:=by
   have h4:=(holds_andW hc).1
   rw [hn] at h4
   exact h4
  have h5:=condW_of h4 (w_not (w_lt w_lit (w_len_list (w_arg rfl))))
  rw [List.length_map] at h5
  refine Nat.le_of_not_lt λ q=>?_
  have q':(n:Int) < ((ns.length:Nat):Int):=by omega
  first
   | (rw [decide_eq_true q'] at h5; exact absurd h5 (by decide))
   | (simp at h5; omega)
 cases hwl with
 | cons w1 w2 =>
  cases w2
  cases w1 with
  | list ho hall=>exact ⟨_,_,ns,rfl,rfl,ho,zhp ns _ hall,hlen⟩
theorem zoi (l:OpenLaw) (args:List WData):l.row.toRowW.claim.post args (.bool true) args=true :=
 postW_of (r:=l.row.toRowW) (X:=(true == true))
  (show WShape.has [] (.bool true) .bool=true by first | rfl | decide | simp [WShape.has,WShape.arms,WShape.armsAll])
  (show (WTm.eq .res (.lit (.bool true))).value [] { args:=args,res:=some (.bool true),after:=args }=some (.bool (true == true)) from w_eq_bool (w_res rfl) w_lit) rfl
theorem zlY {l:OpenLaw} {n:Nat} {q:Program} {loose:List Str} {XP:(Str->Option Value)->Heap->Prop} {YP:World->Heap->Prop} {d:DefRec}
  (hn:l.most=some n) (hdf:d.params.defaults=[])
  (call:∀ (w:World) (s₀ s₁:Shared) (mg mb:Str->Option Value) (fa:Addr) (o:Obj) (pm cd doc:Value) (a:Addr) (vs:List Value) (ns:List Int),
   Ground q loose [] XP w s₀ mg mb s₁.heap->YP w s₁.heap ->
   s₁.heap.get? fa=some o->o.data=.func (docDef d.name d.params d.body d.scope pm cd doc)->s₁.heap.CodeRec cd d.name->mg d.name=some (.ref fa) ->
   s₁.heap.get? a=some { cls:=.type "list",data:=.seq vs.toArray }->IntsAre vs ns->ns.length<=n->s₁.gens=#[] ->
   codeAny (model l.prog w) callerA (.call (.ref fa) ⟨[.ref a],[]⟩) (λ r s'=>r=.ok (.ret (.bool true))/\OldK s₁.heap s'.heap/\s'.os=s₁.os/\AllBare s'.gens) s₁) :
  WalkO q loose XP YP l.row.toRowW d [] (λ f vs=>PySem.call f vs):=by
 intro w s₀ s₁ mg mb G Y fa o pm cd doc dV kV ho hd hcd hD hmg hg args vals as hpre hlay hrd hwl hlo
 obtain rfl:dV=.none:=Dflts.none hD hdf
 obtain rfl:kV=.none:=Dflts.noKw hD
 obtain ⟨a,vs,ns,rfl,rfl,hobj,hints,hlen⟩:=zob hn hpre hwl
 refine enter_call (codeAny_mono (call w s₀ s₁ mg mb fa o pm cd doc a vs ns G Y ho (fd_plain hd) hcd hmg hobj hints hlen hg) λ r s' hq=>?_)
 obtain ⟨rfl,h2,h3,h4⟩:=hq
 exact ⟨.inl ⟨.bool true,.bool true,[],rfl,λ _=>rfl,.bool true,zoi l _,λ _=>⟨List.Pairwise.nil,λ _ hm=>(nomatch hm)⟩⟩,h2,h3,h4⟩
section
variable {prog:Program} {w:World} {A:Around} {E:Value->Shared->Prop} {s:Shared} {K:Frag}
end
end Att
namespace L2
open PySem PySem.Spec PyProof.Rows
theorem zjG:∀ {vs:List Value} {ns:List Int},IntsAre vs ns->Vals (ns.map V.int) vs
 | _,_,.nil=>.nil
 | _,_,.cons n t h=>.cons ⟨t,rfl⟩ (zjG h)
def Only (H:Hp):Prop:=∀ b,H b=none\/∃ o xs,H b=some (.frz o (.lst xs))
theorem zp3 {P:Program} {w:World} {K:PySem.W.Frag} {mg mb:Str->Option Value} {CX:CXT} {k:Nat} {fa a:Addr} {fd:FuncData} {x:Str} {sp:Sp} {s₁:Shared} {vs:List Value} {ns:List Int}
  (KX:K.In s₁.heap) (hns:s₁.heap.Ns mainGlobals mg) (hb:s₁.heap.Ns builtinsNs mb) (hbb:∀ x:Str,x ≠ "__name__" -> mb x=bootBuiltins x) (hlim:s₁.heap.NoLimit) (hg:s₁.gens=#[])
  (ha:s₁.heap.get? a=some { cls:=.type "list",data:=.seq vs.toArray }) (hi:IntsAre vs ns) (hl:ns.length<=sizeLine) (hr:Room k callerA)
  (F:∀ base:Heap,K.In base->base.Ns mainGlobals mg->FnOk P w K mg base CX k fa fd [x] sp) (hbind:∀ (s:Shared) (u:Value),BindsTo s fd ⟨[u],[]⟩ [(x,u)])
  (hsp:∀ H:Hp,Only H->SqL K H a (ns.map V.int)->sp [.ref a] H (λ v _=>v=.bl true) λ _ _ _=>False)
  (hCX:∀ H e s',CX [] H s₁ (λ _ _ _=>False) e s'->False) :
  codeAny (model P w) callerA (.call (.ref fa) ⟨[.ref a],[]⟩) (λ r s'=>r=.ok (.ret (.bool true))/\OldK s₁.heap s'.heap/\s'.os=s₁.os/\AllBare s'.gens) s₁:=by
 have rv:=zjG hi
 have lenV:=hi.length
 have core:∀ H:Hp,Only H->SqL K H a (ns.map V.int)->HOk P w H s₁.heap->(∀ b,H b≠none->b=a)->(H a≠none->K.lookup a=none) ->
    codeAny (model P w) callerA (.call (.ref fa) ⟨[.ref a],[]⟩) (λ r s'=>r=.ok (.ret (.bool true))/\OldK s₁.heap s'.heap/\s'.os=s₁.os/\AllBare s'.gens) s₁:=by
  intro H hO hS hok hA hK
  have base_of:∀ {b:Addr} {o:Obj},s₁.heap.get? b=some o->H b=none->(hidT s₁.heap H).get? b=some o:=λ e n=>zp7 e n
  have noA:∀ {b:Addr} {o:Obj} {es:Array DictEntry} {ep:Nat},s₁.heap.get? b=some o->o.data=.dict es ep->H b=none:=λ {b o es ep} e d=>by
    cases q:H b with
    | none=>rfl
    | some u =>
      have e':b=a:=hA b (by rw [q]; simp)
      subst e'
      rw [ha] at e; cases e
      have d':Data.seq vs.toArray _=Data.dict es ep:=d
      cases d'
  have nsK:∀ {b:Addr} {m:Str->Option Value},s₁.heap.Ns b m->(hidT s₁.heap H).Ns b m:=λ {b m} ⟨o,es,ep,e,d,r⟩=>⟨o,es,ep,base_of e (noA e d),d,r⟩
  have hKb:K.In (hidT s₁.heap H):=λ b o e=>base_of (KX b o e) (by
    cases q:H b with
    | none=>rfl
    | some u =>
      have e':b=a:=hA b (by rw [q]; simp)
      subst e'
      rw [hK (by rw [q]; simp)] at e; cases e)
  have hM:Mod K mg (hidT s₁.heap H):=⟨hKb,nsK hns,⟨mb,nsK hb,hbb⟩,let ⟨mc,h1,h2⟩:=hlim; ⟨mc,nsK h1,h2⟩⟩
  have e0:Env0 P w K mg (hidT s₁.heap H) callerA [] s₁ H:=⟨rfl,hM,λ b o e=>zrs e,Nat.le_of_eq (zoS _ _),trivial,λ b hb=>absurd (show b∈([]:List Addr) from hb) (by simp),hok,.of_eq hg⟩
  refine codeAny_mono ((F _ hKb (nsK hns)).run callerA [] s₁ H ⟨[.ref a],[]⟩ [.ref a] [.ref a] _ _ hr e0 (hbind s₁ (.ref a)) (.cons rfl .nil) (hsp H hO hS)) λ r s' h=>?_
  cases r with
  | error e=>exact (hCX H e s' h).elim
  | ok fl =>
    cases fl with
    | next=>exact False.elim h
    | brk=>exact False.elim h
    | cont=>exact False.elim h
    | ret u =>
      obtain ⟨v,H',os,bare,un,hok',r',q⟩:=h
      have q':v=.bl true:=q
      subst q'
      obtain rfl:u=Value.bool true:=r'
      refine ⟨rfl,OldK.of_keep λ b o e=>?_,os,bare⟩
      cases q:H b with
      | none=>exact un.keep b o e q (by intro z; exact absurd (show b∈([]:List Addr) from z) (by simp)) (by simp)
      | some u =>
       rcases hO b with z | ⟨ob,xs,z⟩
       . rw [q] at z; cases z
       . have z2:=un.frzs b ob _ z
         obtain ⟨e1,_⟩:=hok b _ z
         obtain ⟨e2,_⟩:=hok' b _ z2
         rw [e] at e1; cases e1
         exact e2
 cases hk:K.lookup a with
 | some o =>
  have e:=KX a o hk
  rw [ha] at e
  cases e
  refine core (λ _=>none) (λ _=>.inl rfl) (.inr ⟨_,vs.toArray,_,hk,rfl,rfl,rfl,by rw [List.size_toArray,lenV]; exact hl,by simpa using rv⟩) (λ b u z=>by have z':(none:Option HO)=some u:=z; cases z') (λ b z=>absurd rfl z) λ z=>absurd rfl z
 | none =>
  refine core (λ b=>if b=a then some (.frz { cls:=.type "list",data:=.seq vs.toArray } (.lst (ns.map V.int))) else none) (λ b=>?_) (.inl (.inr ⟨{ cls:=.type "list",data:=.seq vs.toArray },if_pos rfl⟩)) (λ b u z=>?_) (λ b z=>?_) λ _=>hk
  . by_cases hb:b=a
    . exact .inr ⟨_,_,if_pos hb⟩
    . exact .inl (if_neg hb)
  . by_cases hb:b=a
    . have z':=(if_pos hb).symm.trans z
      cases z'
      subst hb
      exact ⟨ha,by rw [List.length_map]; exact hl,vs,_,rv,ha⟩
    . have z':=(if_neg hb).symm.trans z
      cases z'
  . by_cases hb:b=a
    . exact hb
    . exact absurd (if_neg hb) z
end L2
namespace L2
open PySem PySem.Spec PyProof.Rows
end L2
namespace L2
open PySem PySem.Spec PyProof.Rows
def inClass (s:Stmt) (j:Nat):Stmt:=match s with
 | .ClassDef _ _ _ body _ _ _ _ _ _ _=>body.getD j (.Pass ⟨0,0,0,0⟩)
 | _=>.Pass ⟨0,0,0,0⟩
def zjo (s:Stmt):Arguments:=match s with
 | .FunctionDef _ a _ _ _ _ _ _ _ _=>a
 | _=>{ posonlyargs:=[],args:=[],vararg:=none,kwonlyargs:=[],kw_defaults:=[],kwarg:=none,defaults:=[] }
def zhx (s:Stmt):List Stmt:=match s with
 | .FunctionDef _ _ b _ _ _ _ _ _ _=>b
 | _=>[]
def zal (s:Stmt):Scope:=match s with
 | .FunctionDef _ _ _ _ _ _ sc _ _ _=>sc
 | _=>{ kind:=.function,names:=[],isGenerator:=false,isCoroutine:=false }
structure Fun (K:PySem.W.Frag) (x qual:Str) (st:Stmt) (f:Addr) (fd:FuncData):Prop where
 ex:∃ (oc:Value) (od:Option Addr) (kV doc pm:Value) (an:Option Addr) (cdv ct:Value) (osl:Array (Option Value)),
  fd=PySem.W.fnOf x qual (zjo st) (zhx st) (zal st) .none kV doc pm an cdv ct/\K.lookup f=some ⟨oc,od,.func fd,osl⟩/\PySem.W.codeIn K cdv qual=true
 kp:PySem.W.keepIn K (.ref f)=true
section
variable {P:Program} {w:World} {K:PySem.W.Frag} {mg:Str->Option Value} {base:Heap}
theorem Fun.binds {x qual:Str} {st:Stmt} {f:Addr} {fd:FuncData} {ps:List Str} (F:Fun K x qual st f fd)
  (h:∀ (kV doc pm:Value) (an:Option Addr) (cdv ct:Value) (us:List Value),us.length=ps.length->bindArgs (PySem.W.fnOf x qual (zjo st) (zhx st) (zal st) .none kV doc pm an cdv ct) ⟨us,[]⟩=pure (ps.zip us)):Binds K fd ps []:=by
 obtain ⟨oc,od,kV,doc,pm,an,cdv,ct,osl,rfl,lk,hcd⟩:=F.ex
 exact .all (h kV doc pm an cdv ct)
end
theorem zeg {A:Around} {k:Nat} (hr:Room k A):A.units+1 < cLine:=Nat.lt_of_le_of_lt (Nat.add_le_add_left (by decide:1<=64) _) hr.units
section
variable {X:Cx}
theorem pv (i:Nat) {x:Str} {pos:Pos} (hN:X.N[i]?=some x:=by rfl) (hv:Vis X.env.scope x:=by first | exact Or.inl rfl | exact Or.inr (Or.inl rfl) | exact Or.inr (Or.inr rfl)) (hd:(x == ("__debug__" : Str))=false:=by decide)
 (hcd:(x == ("__classdict__" : Str))=false:=by decide):PE X (.Name x pos) (tVar i):=zsp hN hv hd hcd
end
theorem iteF {A B:Prop} (h:B):if false=true then A else B:=by
 rw [if_neg Bool.false_ne_true]
 exact h
theorem iteT {A B:Prop} (h:A):if true=true then A else B:=by
 rw [if_pos rfl]
 exact h
def Same (H H':Hp):Prop:=∀ b o,H b=some o->H' b=some o
theorem Same.refl (H:Hp):Same H H:=λ _ _ h=>h
theorem Same.trans {H H1 H2:Hp} (a:Same H H1) (b:Same H1 H2):Same H H2:=λ c o h=>b c o (a c o h)
theorem Same.free {H H':Hp} (e:Same H H') {l:Addr} (h:H' l=Option.none):H l=Option.none:=by
 cases q:H l with
 | none=>rfl
 | some o =>
  rw [e l o q] at h
  cases h
theorem Same.seq {K:PySem.W.Frag} {H H':Hp} {a:Addr} {xs:List V} (e:Same H H') (h:SqL K H a xs):SqL K H' a xs:=by
 rcases h with (h | ⟨o,h⟩) | h
 . exact .inl (.inl (e _ _ h))
 . exact .inl (.inr ⟨o,e _ _ h⟩)
 . exact .inr h
section
variable {κ:Type} [DecidableEq κ]
end
end L2
end
section
namespace L2
open PySem PySem.Spec PyProof.Rows
abbrev NoX:Value->Shared->Prop:=λ _ _=>False
def zpq (M:Model) (A:Around) (ifs:List Expr) (env:Env) (tst:(Bool->Shared->Prop)->Shared->Prop):Prop :=
 (ifs=[]/\∀ Q s,tst Q s->Q true s)\/∃ c,ifs=[c]/\∀ Q s,tst Q s->wpAny M A (isTrue c env (eval c env)) Q NoX s
def zsV (M:Model) (A:Around) (target elt:Expr) (env:Env) (it acc v:Value) (tst:(Bool->Shared->Prop)->Shared->Prop) (Nx:Shared->Prop) (s1:Shared):Prop :=
 wpAny M A (letOwnedTupleGo target it v) (λ _ s2=>wpAny M A (assign target env v) (λ _ s3=>tst (λ ok s4 =>
  if ok=true then wpAny M A (eval elt env) (λ x s5=>wpAny M A (call (.builtin "list.append") [acc,x]) (λ _ s6=>Nx s6) NoX s5) NoX s4 else Nx s4) s3) NoX s2) NoX s1
theorem nox {α:Type} {M:Model} {A:Around} {t:Sem α} {Q Q':α->Shared->Prop} {E:Value->Shared->Prop} {s:Shared} (h:wpAny M A t Q NoX s) (k:∀ a s',Q a s'->Q' a s'):wpAny M A t Q' E s:=wpAny_mono h k λ _ _ z=>z.elim
theorem zkN {prog:Program} {w:World} {A:Around} {R:Result->Shared->Prop} {s:Shared} {elt target iter:Expr} {ifs:List Expr} {scope:Scope} {pos:Pos} {it acc:Value} {env:Env} {tst:(Bool->Shared->Prop)->Shared->Prop}
   (ht:zpq (model prog w) A ifs env tst) (I:Nat->Shared->Prop)
   (go:∀ n s,I n s->wpAny (model prog w) A (pyNext it) (λ r s1=>(r=none/\R (.ok .next) s1)\/∃ v,r=some v/\zsV (model prog w) A target elt env it acc v tst (λ s2=>∃ m,m < n/\I m s2) s1) NoX s)
   (n:Nat) (h:I n s):codeAny (model prog w) A (.compLoop (.ListComp elt [⟨target,iter,ifs,0⟩] scope pos) 0 it acc env) R s:=by
 rcases ht with ⟨rfl,ht⟩ | ⟨c,rfl,ht⟩
 . refine PySem.W.kcp_loop I (λ m s' hI=>nox (go m s' hI) λ r s1 q=>?_) n h
   rcases q with ⟨rfl,q⟩ | ⟨v,rfl,q⟩
   . exact q
   . exact nox q λ _ s2 q2=>nox q2 λ _ s3 q3=>by
      have q4:=ht _ _ q3
      rw [if_pos rfl] at q4
      exact nox q4 λ x s5 q5=>nox q5 λ _ _ q6=>q6
 . refine PySem.W.kct_loop I (λ m s' hI=>nox (go m s' hI) λ r s1 q=>?_) n h
   rcases q with ⟨rfl,q⟩ | ⟨v,rfl,q⟩
   . exact q
   . exact nox q λ _ s2 q2=>nox q2 λ _ s3 q3=>nox (ht _ _ q3) λ ok s4 q4=>by
      cases ok with
      | false=>rw [if_neg Bool.false_ne_true] at q4 ⊢; exact q4
      | true=>rw [if_pos rfl] at q4 ⊢; exact nox q4 λ x s5 q5=>nox q5 λ _ _ q6=>q6
def zdM (cells:List (Str×Addr)) (cs:List (Str×Addr)) (y:Str×NameKind):List (Str×Addr) :=
 if y.2 == .free then match cells.lookup y.1 with | some a=>(y.1,a)::cs | none=>cs else cs
def clOf (scope:Scope) (cells:List (Str×Addr)):List (Str×Addr):=scope.names.foldl (zdM cells) []
theorem ziF {env:Env}:∀ (l:List (Str×NameKind)) (cs:List (Str×Addr)),(∀ y∈l,y.2=.free->∃ a,env.cells.lookup y.1=some a) ->
  (forIn l cs (λ (y:Str×NameKind) (cs:List (Str×Addr))=>if (y.2 == NameKind.free)=true then do let a <-cellOf env y.1; pure (ForInStep.yield ((y.1,a)::cs)) else pure (ForInStep.yield cs)):Sem (List (Str×Addr)))=pure (l.foldl (zdM env.cells) cs)
 | [],cs,_=>rfl
 | y::r,cs,h=>by
  rw [List.forIn_cons]
  have ih:=λ cs'=>ziF r cs' λ z hz=>h z (List.mem_cons_of_mem _ hz)
  by_cases hk:y.2=.free
  . obtain ⟨a,ha⟩:=h y List.mem_cons_self hk
    have e1:zdM env.cells cs y=(y.1,a)::cs:=by unfold zdM; rw [hk,ha]; rfl
    rw [List.foldl_cons,e1,<-ih]
    have e2:cellOf env y.1=pure a:=by unfold cellOf; rw [ha]
    simp only [hk,beq_self_eq_true,if_true,e2]
    rfl
  . have hb:(y.2 == NameKind.free)=false:=by simpa using hk
    have e1:zdM env.cells cs y=cs:=by unfold zdM; rw [hb]; rfl
    rw [List.foldl_cons,e1,<-ih]
    simp only [hb,Bool.false_eq_true,if_false]
    rfl
theorem ziG {scope:Scope} {env:Env} (h:∀ y∈scope.names,y.2=.free->∃ a,env.cells.lookup y.1=some a):closureFor scope env=pure (clOf scope env.cells):=by
 have:=ziF scope.names [] h
 unfold clOf
 rw [<-this]
 unfold closureFor
 first
  | rfl
  | simp only [bind_pure]
theorem zgH {cells:List (Str×Addr)} {x:Str} {c:Addr}:∀ (l:List (Str×NameKind)) (cs:List (Str×Addr)),(∀ c,cs.lookup x=some c->cells.lookup x=some c)->(l.foldl (zdM cells) cs).lookup x=some c->cells.lookup x=some c
 | [],cs,h,q=>h c q
 | y::r,cs,h,q=>by
  rw [List.foldl_cons] at q
  refine zgH r _ (λ c' q'=>?_) q
  unfold zdM at q'
  by_cases hk:(y.2 == NameKind.free)=true
  . rw [if_pos hk] at q'
    cases e:cells.lookup y.1 with
    | none=>rw [e] at q'; exact h c' q'
    | some a =>
     rw [e] at q'
     rw [List.lookup_cons] at q'
     by_cases hx:x == y.1
     . rw [hx] at q'
       have:x=y.1:=by simpa using hx
       rw [this,e]; exact q'
     . have hx':(x == y.1)=false:=by simpa using hx
       rw [hx'] at q'; exact h c' q'
  . rw [if_neg hk] at q'; exact h c' q'
theorem zjp {cells:List (Str×Addr)} {x:Str}:∀ (l:List (Str×NameKind)) (cs:List (Str×Addr)),((∃ c,cs.lookup x=some c)\/((x,NameKind.free)∈l/\∃ c,cells.lookup x=some c))->∃ c,(l.foldl (zdM cells) cs).lookup x=some c
 | [],cs,h=>by
  rcases h with h | ⟨h,_⟩
  . exact h
  . cases h
 | y::r,cs,h=>by
  rw [List.foldl_cons]
  refine zjp r _ ?_
  have mono:(∃ c,cs.lookup x=some c)->∃ c,(zdM cells cs y).lookup x=some c:=λ ⟨c,hc⟩=>by
    unfold zdM
    by_cases hk:(y.2 == NameKind.free)=true
    . rw [if_pos hk]
      cases e:cells.lookup y.1 with
      | none=>exact ⟨c,hc⟩
      | some a =>
       show ∃ c,List.lookup x ((y.1,a)::cs)=some c
       rw [List.lookup_cons]
       by_cases hx:(x == y.1)=true
       . rw [hx]; exact ⟨a,rfl⟩
       . have hx':(x == y.1)=false:=by simpa using hx
         rw [hx']; exact ⟨c,hc⟩
    . rw [if_neg hk]; exact ⟨c,hc⟩
  rcases h with h | ⟨h1,c,h2⟩
  . exact .inl (mono h)
  . rcases List.mem_cons.mp h1 with z | z
    . refine .inl ⟨c,?_⟩
      rw [<-z]
      unfold zdM
      show List.lookup x (if (NameKind.free == NameKind.free)=true then (match cells.lookup x with | some a=>(x,a)::cs | none=>cs) else cs)=some c
      rw [if_pos (show (NameKind.free == NameKind.free)=true from rfl),h2]
      show List.lookup x ((x,c)::cs)=some c
      rw [List.lookup_cons]; simp
    . exact .inr ⟨z,c,h2⟩
theorem zez {scope:Scope} {env:Env} {x:Str} {k:NameKind} (h:(relabel scope env).names.lookup x=some k):scope.names.lookup x=some k\/(k=.cell/\scope.names.lookup x=some .free):=by
 unfold relabel at h
 dsimp only at h
 generalize scope.names=l at h ⊢
 induction l with
 | nil=>cases h
 | cons y r ih =>
  obtain ⟨n,kk⟩:=y
  rw [List.map_cons,List.lookup_cons] at h
  rw [List.lookup_cons]
  dsimp only at h
  by_cases hc:(kk == NameKind.free && env.scope.kind == .function && env.kindOf n == some .cell)=true
  . rw [if_pos hc] at h
    by_cases hx:(x == n)=true
    . dsimp only at h
      rw [hx] at h ⊢
      simp only [Bool.and_eq_true,beq_iff_eq] at hc
      exact .inr ⟨(Option.some.inj h).symm,by rw [hc.1.1]⟩
    . have hx':(x == n)=false:=by simpa using hx
      dsimp only at h
      rw [hx'] at h ⊢
      exact ih h
  . rw [if_neg hc] at h
    by_cases hx:(x == n)=true
    . dsimp only at h
      rw [hx] at h ⊢
      exact .inl h
    . have hx':(x == n)=false:=by simpa using hx
      dsimp only at h
      rw [hx'] at h ⊢
      exact ih h
theorem zj2 {scope:Scope} {env:Env} {x:Str} (h:scope.names.lookup x=some .free):(relabel scope env).names.lookup x=some .cell\/(relabel scope env).names.lookup x=some .free:=by
 unfold relabel
 dsimp only
 generalize scope.names=l at h ⊢
 induction l with
 | nil=>cases h
 | cons y r ih =>
  obtain ⟨n,kk⟩:=y
  rw [List.map_cons,List.lookup_cons]
  rw [List.lookup_cons] at h
  dsimp only
  by_cases hx:(x == n)=true
  . rw [hx] at h
    have hk:kk=.free:=Option.some.inj h
    by_cases hc:(kk == NameKind.free && env.scope.kind == .function && env.kindOf n == some .cell)=true
    . rw [if_pos hc]; dsimp only; rw [hx]; exact .inl rfl
    . rw [if_neg hc]; dsimp only; rw [hx,hk]; exact .inr rfl
  . have hx':(x == n)=false:=by simpa using hx
    rw [hx'] at h
    by_cases hc:(kk == NameKind.free && env.scope.kind == .function && env.kindOf n == some .cell)=true
    . rw [if_pos hc]; dsimp only; rw [hx']; exact ih h
    . rw [if_neg hc]; dsimp only; rw [hx']; exact ih h
def cxB (X:Cx) (Nc:List Str) (scope:Scope) (C:Addr) (fp:List Addr) (s:Shared) (H:Hp):Cx where
 prog:=X.prog
 w:=X.w
 K:=X.K
 mg:=X.mg
 base:=X.base
 A:=X.A
 N:=Nc
 s₀:=s
 H₀:=H
 env:=compEnvC scope (clOf scope X.env.cells) C X.env
 outer:=X.stack
 stack:=X.stack
 ex:=fp
 fn:=λ _=>false
 calm:=true
 pn:=[]
 xe:=λ _ _=>False
structure Blk (X:Cx) (scope:Scope) (own:Nat) (ix:List Nat) (Nc:List Str):Prop where
 kind:scope.kind=.function
 zqw:∀ y∈scope.names,y.2≠.cell
 names:∀ y∈scope.names,y.2=.local->scope.names.lookup y.1=some .local
 free:∀ y∈scope.names,y.2=.free->X.env.kindOf y.1=some .cell\/X.env.kindOf y.1=some .free
 nd:Nc.Nodup
 len:Nc.length=own+ix.length
 cap:∀ (i j:Nat) (x:Str),Nc[own+i]?=some x->ix[i]?=some j->X.N[j]?=some x/\scope.names.lookup x=some .free/\(X.env.kindOf x=some .cell\/X.env.kindOf x=some .free)
def zc2 (own:Nat) (ix:List Nat) (σ:St):St:=List.replicate own none++ix.map λ j=>(σ[j]?).join
section
variable {X:Cx} {pins:List (Addr×Obj)} {σ:St} {H H':Hp} {s:Shared} {scope:Scope} {own:Nat} {ix:List Nat} {Nc:List Str} {C D:Addr} {fp:List Addr}
theorem Inv.blk {h1:Heap} {t1:Nat} {m1:Str->Option Value} (I:Inv X pins σ H s) (hc:X.calm=true) (B:Blk X scope own ix Nc) (hf:∀ b∈fp,FpOk X pins H b) (hfo:∀ b∈fp,∃ o,s.heap.get? b=some o)
   (hn:h1.Ns C m1) (k:∀ b u,s.heap.get? b=some u->h1.get? b=some u) (hC:s.heap.objs.size<=C):Inv (cxB X Nc scope C fp s H) [] (zc2 own ix σ) H { s with heap:=h1,toks:=t1 }:=by
 have snd:∀ x c,(clOf scope X.env.cells).lookup x=some c->X.env.cells.lookup x=some c:=λ x c e=>zgH scope.names [] (λ _ z=>by cases z) e
 have lt:∀ b∈fp,b < s.heap.objs.size:=λ b hb=>by obtain ⟨o,e⟩:=hfo b hb; exact Heap.lt_size e
 refine ⟨⟨I.ok.mod,B.kind,I.ok.glob,I.ok.blt,hC,λ x y c e1 e2=>I.ok.inj x y c (snd x c e1) (snd y c e2),λ x hx=>?_,λ x c e=>(by cases e),λ _=>I.ok.hd hc,I.ok.frames,.inl rfl,λ b hb=>⟨?_,λ x c e=>?_⟩,I.bs,Nat.le_trans I.ok.bsz I.sz,λ b o e hb=>?_,λ b hb hb2=>?_,I.stack,I.zgN⟩,
   rfl,I.bare,Un.kept k,⟨m1,hn,λ i x v e1 e2 e3=>?_⟩,λ x c e=>?_,I.hok.fresh hC,λ x c e=>I.zdT x c (snd x c e),λ p hp=>(by cases hp),I.hok.kept k,?_⟩
 . have hx':(relabel scope X.env).names.lookup x=some .cell\/(relabel scope X.env).names.lookup x=some .free:=hx
   have hfr:scope.names.lookup x=some .free:=by
     rcases hx' with z | z
     . rcases zez z with q | ⟨_,q⟩
       . exact absurd rfl (B.zqw _ (PySem.mem_of_lookup q))
       . exact q
     . rcases zez z with q | ⟨q,_⟩
       . exact q
       . cases q
   have hm:=PySem.mem_of_lookup hfr
   exact zjp scope.names [] (.inr ⟨hm,I.ok.has x (B.free _ hm rfl)⟩)
 . exact Nat.ne_of_lt (Nat.lt_of_lt_of_le (lt b hb) hC)
 . exact (hf b hb).2.2.2.2.1 x c (snd x c e)
 . rcases (hf b hb).2.2.2.1 with z | z
   . exact I.ok.noex b o e z
   . exact absurd (Nat.lt_of_lt_of_le (Heap.lt_size (I.ok.bs b o e).1) z) (Nat.lt_irrefl _)
 . obtain ⟨_,f1,f2,_⟩:=hf b hb
   rcases List.mem_cons.mp (I.zmn b hb2) with z | z
   . exact f1 z
   . exact f2 z
 . have hlt:¬ i < own:=λ hi=>by
     have e2':(zc2 own ix σ)[i]?=some (some v):=e2
     unfold zc2 at e2'
     rw [List.getElem?_append_left (by simpa using hi),List.getElem?_replicate] at e2'
     rw [if_pos hi] at e2'
     cases e2'
   obtain ⟨j,rfl⟩:∃ j,i=own+j:=⟨i - own,by omega⟩
   have e2':(zc2 own ix σ)[own+j]?=some (some v):=e2
   unfold zc2 at e2'
   rw [List.getElem?_append_right (by simp),List.length_replicate,Nat.add_sub_cancel_left,List.getElem?_map] at e2'
   cases hj:ix[j]? with
   | none=>rw [hj] at e2'; cases e2'
   | some q =>
     rw [hj] at e2'
     have e4:(σ[q]?).join=some v:=Option.some.inj e2'
     have e5:σ[q]?=some (some v):=by
       cases hq:σ[q]? with
       | none=>rw [hq] at e4; cases e4
       | some o=>rw [hq] at e4; exact congrArg some e4
     obtain ⟨g1,g2,g3⟩:=B.cap j q x e1 hj
     obtain ⟨m,hm,hl⟩:=I.loc
     obtain ⟨u,ru,lk⟩:=hl q x v g1 e5 (g3.elim (λ z=>.inr (.inl z)) λ z=>.inr (.inr z))
     refine ⟨u,ru,.inr ⟨zj2 g2,?_⟩⟩
     rcases lk with ⟨z,_⟩ | ⟨_,c,ec,o,ho,hd⟩
     . rcases g3 with y | y <;> rw [z] at y <;> cases y
     . obtain ⟨c',ec'⟩:=zjp (cells:=X.env.cells) scope.names [] (.inr ⟨PySem.mem_of_lookup g2,c,ec⟩)
       have:c'=c:=Option.some.inj ((snd x c' ec').symm.trans ec)
       subst this
       exact ⟨c',ec',o,k _ _ ho,hd⟩
 . obtain ⟨v,o,ho,hd⟩:=I.cell x c (snd x c e)
   exact ⟨v,o,k _ _ ho,hd⟩
 . show (List.replicate own none++ix.map λ j=>(σ[j]?).join).length=Nc.length
   rw [List.length_append,List.length_replicate,List.length_map,B.len]
abbrev lstO (its:List Value):Obj:=LCg.lst its
theorem Inv.zsP {s':Shared} {pins':List (Addr×Obj)} {σ':St} {ys:List V} {its:List Value} (I:Inv X pins σ H s) (hf:∀ b∈fp,FpOk X pins H b)
   (J:Inv (cxB X Nc scope C fp s H) pins' σ' H' s') (hD:s.heap.objs.size<=D) (hDo:s'.heap.get? D=some (lstO its)) (hDn:H' D=none) (r:Vals ys its) (hz:ys.length<=sizeLine) :
   Inv X pins σ (upd H' D (.lst ys)) s':=by
 have old:∀ b o,s.heap.get? b=some o->b≠D:=λ b o e=>Nat.ne_of_lt (Nat.lt_of_lt_of_le (Heap.lt_size e) hD)
 have trd:∀ b u,H b=some u->b≠D:=λ b u e=>Nat.ne_of_lt (Nat.lt_of_lt_of_le (I.hok.lt e) hD)
 refine I.zrG (ch:=fp) J.os ⟨λ b o q n hb hx=>J.base.keep b o q n hb hx,λ b o q n hb hx=>J.base.slot b o q n hb hx,λ b o q n hx=>?_,λ b o q hx=>J.base.there b o q hx,λ b xs q=>?_,λ b o u q=>?_,λ b ps q=>?_⟩ (λ b u e=>?_) J.bare λ b hb=>?_
 . rw [zae (old b o q)]; exact J.base.free b o q n hx
 . rw [zae (trd b _ q)]; exact J.base.tups b xs q
 . rw [zae (trd b _ q)]; exact J.base.frzs b o u q
 . obtain ⟨more,e⟩:=J.base.tbls b ps q
   exact ⟨more,by rw [zae (trd b _ q)]; exact e⟩
 . by_cases hb:b=D
   . subst hb
     rw [zab] at e
     cases e
     exact ⟨hz,its,its.length,r,hDo⟩
   . rw [zae hb] at e
     exact (J.hok b u e).stay (λ _ _ _ q=>q) (λ c q=>by rw [zae (zaf q hDn)]; exact q) λ c xs q=>by rw [zae (zaf q hDn)]; exact q
 . obtain ⟨_,f1,_,f3,f4,f5⟩:=hf b hb
   exact ⟨f3,f1,f4,f5⟩
end
def zrT:TT:=λ _ H Q=>Q true H
def PTs (X:Cx) (ifs:List Expr) (t:TT):Prop:=(ifs=[]/\t=zrT)\/∃ c,ifs=[c]/\PT X c t
theorem ziW {X:Cx}:PTs X [] zrT:=.inl ⟨rfl,rfl⟩
theorem zeW {X:Cx} {c:Expr} {t:TT} (h:PT X c t):PTs X [c] t:=.inr ⟨c,rfl,h⟩
def zsW (X:Cx) (t:TT) (Q:Bool->Shared->Prop) (s:Shared):Prop :=
 ∃ pins σ H Qa,Inv X pins σ H s/\t σ H Qa/\∀ b H' s',Inv X pins σ H' s'->Qa b H'->Q b s'
theorem PTs.by {X:Cx} {ifs:List Expr} {t:TT} (h:PTs X ifs t) (hx:X.xe=NoX):zpq (model X.prog X.w) X.A ifs X.env (zsW X t):=by
 rcases h with ⟨rfl,rfl⟩ | ⟨c,rfl,h⟩
 . exact .inl ⟨rfl,λ Q s ⟨pins,σ,H,Qa,I,q,k⟩=>k true H s I q⟩
 . refine .inr ⟨c,rfl,λ Q s ⟨pins,σ,H,Qa,I,q,k⟩=>?_⟩
   have:=h pins s σ H _ I q
   rw [hx] at this
   exact thn this λ b s' ⟨H',I',z⟩=>k b H' s' I' z
def zih (J:It) (g:TG) (tt:TT) (te:TE) (σ₀:St) (H:Hp) (Fin:List V->Hp->Prop):Prop :=
 ∃ W:Nat->Nat->List V->St->Hp->Prop,(∃ m,W 0 m [] σ₀ H)/\∀ i m ys σ H,W i m ys σ H ->
  (J.stop i H/\Fin ys H)\/(J.go i H/\ys.length < sizeLine/\∀ x H',J.yld i H x H'->g x σ H' λ σ2 H2=>tt σ2 H2 λ b H3 =>
   if b=true then te σ2 H3 λ y H4=>∃ m',m' < m/\W (i+1) m' (ys++[y]) σ2 H4 else ∃ m',m' < m/\W (i+1) m' ys σ2 H3)
section
variable {X:Cx} {scope:Scope} {own:Nat} {ix:List Nat} {Nc:List Str} {target iter elt:Expr} {ifs:List Expr} {pos:Pos} {wi:TI} {g:TG} {tt:TT} {te:TE}
theorem ziE {pins:List (Addr×Obj)} {σ:St} {H2:Hp} {s2:Shared} {it:Addr} {fp:List Addr} {tn:Nat->Heap->Prop} {J:It} {Fin:List V->Hp->Prop} {E:Value->Shared->Prop} {RR:Value->Addr->Result->Shared->Prop}
  (hc:X.calm=true) (B:Blk X scope own ix Nc) (I2:Inv X pins σ H2 s2) (T:Turn X.prog X.w X.K target J fp it tn) (st:tn 0 s2.heap) (hf:∀ b∈fp,FpOk X pins H2 b)
  (hg:∀ C,PG (cxB X Nc scope C fp s2 H2) target g) (ht:∀ C,PTs (cxB X Nc scope C fp s2 H2) ifs tt) (he:∀ C,PE (cxB X Nc scope C fp s2 H2) elt te)
  (hw:zih J g tt te (zc2 own ix σ) H2 Fin)
  (hRR:∀ D C s' ys H' m',Inv X pins σ (upd H' D (.lst ys)) s'->H' D=none->Fin ys H'->s'.heap.Ns C m'->H' C=none->D≠C->s2.heap.objs.size<=C->RR (.ref D) C (.ok .next) s') :
  wpAny (model X.prog X.w) X.A (newList []) (λ acc s₃=>wpAny (model X.prog X.w) X.A (newFunctionEnv scope X.env.globals (clOf scope X.env.cells) [] X.env.qual none .none (some X.env)) (λ cenv s₄ =>
    codeAny (model X.prog X.w) X.A (.compStart (.ListComp elt [⟨target,iter,ifs,0⟩] scope pos) 0 (.ref it) acc { cenv with scope:=relabel scope X.env }) (RR acc cenv.locals) s₄) E s₃) E s2:=by
 refine wpAny_newObj_type (wpAny_newFunctionEnv B.zqw (by intro y hy; simp at hy) (λ h₁ hns₁ hsb₁=>?_) B.kind)
 dsimp only at hns₁ hsb₁ ⊢
 generalize hH2:s2.heap.push { cls:=.type "list",dict:=none,data:=.seq ([]:List Value).toArray }=G2 at hns₁ hsb₁ ⊢
 have hC:G2.objs.size=s2.heap.objs.size+1:=by rw [<-hH2,Heap.size_push]
 have hDC:s2.heap.objs.size≠G2.objs.size:=by rw [hC]; exact Nat.ne_of_lt (Nat.lt_succ_self _)
 have hCle:s2.heap.objs.size<=G2.objs.size:=by rw [hC]; exact Nat.le_succ _
 have below:∀ b,b < s2.heap.objs.size->b≠G2.objs.size/\b≠s2.heap.objs.size:=λ b hb=>⟨by rw [hC]; exact Nat.ne_of_lt (Nat.lt_succ_of_lt hb),Nat.ne_of_lt hb⟩
 have old:∀ b o,s2.heap.get? b=some o->h₁.get? b=some o:=λ b o e=>hsb₁.extBut b o (below b (Heap.lt_size e)).1 (Heap.get?_push_of_some _ (hH2 ▸ Heap.get?_push_of_some _ e))
 have hacc:h₁.get? s2.heap.objs.size=some (lstO []):=hsb₁.extBut _ _ hDC (Heap.get?_push_of_some _ (hH2 ▸ Heap.get?_push_size _ rfl))
 have hfo:∀ b∈fp,∃ o,s2.heap.get? b=some o:=λ b hb=>let ⟨o,e,_⟩:=T.obj 0 _ st b hb; ⟨o,e⟩
 have flt:∀ b∈fp,b < s2.heap.objs.size:=λ b hb=>let ⟨o,e⟩:=hfo b hb; Heap.lt_size e
 have I0:Inv (cxB X Nc scope G2.objs.size fp s2 H2) [] (zc2 own ix σ) H2 { s2 with heap:=h₁,toks:=s2.toks+([]:List (Str×Value)).length }:=I2.blk hc B hf hfo hns₁ old hCle
 have st1:tn 0 h₁:=T.keep 0 _ _ st λ b _ o e=>old b o e
 have hDfs:s2.heap.objs.size∉frs X.stack:=λ z=>by
  obtain ⟨_,o,ho,_⟩:=I2.stack.mem z
  exact absurd (Heap.lt_size ho) (Nat.lt_irrefl _)
 have ffs:∀ b∈fp,b∉frs X.stack:=λ b hb z=>by
  obtain ⟨_,f1,f2,_⟩:=hf b hb
  rcases List.mem_cons.mp (I2.zmn b z) with y | y
  . exact f1 y
  . exact f2 y
 have fcl:∀ b∈fp,∀ x c,(clOf scope X.env.cells).lookup x=some c->c≠b:=λ b hb x c e=>(hf b hb).2.2.2.2.1 x c (zgH scope.names [] (λ _ z=>by cases z) e)
 have dcl:∀ x c,(clOf scope X.env.cells).lookup x=some c->c≠s2.heap.objs.size:=λ x c e z=>by
  obtain ⟨v,q⟩:=I2.cell x c (zgH scope.names [] (λ _ z=>by cases z) e)
  exact absurd q.lt (by rw [z]; exact Nat.lt_irrefl _)
 obtain ⟨W,⟨m0,w0⟩,turn⟩:=hw
 have loop:∀ s₃:Shared,s₃={ s2 with heap:=h₁,toks:=s2.toks+([]:List (Str×Value)).length } ->
    codeAny (model X.prog X.w) X.A (.compLoop (.ListComp elt [⟨target,iter,ifs,0⟩] scope pos) 0 (.ref it) (.ref s2.heap.objs.size) (compEnvC scope (clOf scope X.env.cells) G2.objs.size X.env))
     (RR (.ref s2.heap.objs.size) G2.objs.size) s₃:=by
  rintro s₃ rfl
  refine zkN ((ht G2.objs.size).by rfl) (λ n s'=>∃ i ys its σ' H',Inv (cxB X Nc scope G2.objs.size fp s2 H2) [] σ' H' s'/\tn i s'.heap/\(∀ b∈fp,H' b=none)/\s'.heap.get? s2.heap.objs.size=some (lstO its)/\H' s2.heap.objs.size=none/\Vals ys its/\ys.length<=sizeLine/\W i n ys σ' H')
    ?_ m0 ⟨0,[],[],_,H2,I0,st1,λ b hb=>(hf b hb).1,hacc,I2.hok.fresh (Nat.le_refl _),.nil,Nat.zero_le _,w0⟩
  rintro n s3 ⟨i,ys,its,σ3,H3,I3,st3,fr3,hD3,nD3,r3,z3,w3⟩
  have Ip:Inv (cxB X Nc scope G2.objs.size fp s2 H2) [(s2.heap.objs.size,lstO its)] σ3 H3 s3:=I3.zgZ λ p hp=>by
    have e:p=(s2.heap.objs.size,lstO its):=by simpa using hp
    subst e
    exact ⟨hD3,nD3,hDC,hDfs,λ v z=>by cases z⟩
  have fpk:∀ {H':Hp},(∀ b∈fp,H' b=none)->∀ b∈fp,FpOk (cxB X Nc scope G2.objs.size fp s2 H2) [(s2.heap.objs.size,lstO its)] H' b:=λ hn b hb =>
    ⟨hn b hb,(below b (flt b hb)).1,ffs b hb,.inl hb,fcl b hb,λ p hp=>by
     have hp':p∈([]:List (Addr×Obj))++[(s2.heap.objs.size,lstO its)]:=hp
     have e:p=(s2.heap.objs.size,lstO its):=by simpa using hp'
     subst e
     exact Ne.symm (below b (flt b hb)).2⟩
  rcases turn i n ys σ3 H3 w3 with ⟨stop,fin⟩ | ⟨go,hlen,step⟩
  . refine thn (T.done (cxB X Nc scope G2.objs.size fp s2 H2) rfl rfl rfl rfl i _ s3 σ3 H3 NoX Ip (fpk fr3) st3 stop) λ r s4 ⟨hr,I4⟩=>.inl ⟨hr,?_⟩
    obtain ⟨m4,n4,_⟩:=I4.loc
    have pD:=I4.pin (s2.heap.objs.size,lstO its) (by simp)
    exact hRR _ _ s4 ys H3 m4 (I2.zsP hf I4 (Nat.le_refl _) pD.1 nD3 r3 z3) nD3 fin n4 I4.free hDC hCle
  . refine thn (T.item (cxB X Nc scope G2.objs.size fp s2 H2) rfl rfl rfl rfl i _ s3 σ3 H3 NoX Ip (fpk fr3) st3 go) λ r s4 ⟨u,hr,h4⟩=>.inr ⟨u,hr,?_⟩
    refine thn h4 λ _ s5 ⟨x,H5,I5,r5,y5,st5,fr5⟩=>?_
    have I5':=I5.pinned (fpk fr5) (T.obj _ _ st5)
    have keepT:∀ {σ8:St} {H8:Hp} {s8:Shared},Inv (cxB X Nc scope G2.objs.size fp s2 H2) ([(s2.heap.objs.size,lstO its)]++zj4 fp s5.heap) σ8 H8 s8->tn (i+1) s8.heap/\(∀ b∈fp,H8 b=none)/\s8.heap.get? s2.heap.objs.size=some (lstO its)/\H8 s2.heap.objs.size=none:=λ {σ8 H8 s8} I8=>by
     have pin8:∀ b∈fp,∀ o,s5.heap.get? b=some o->s8.heap.get? b=some o/\H8 b=none:=λ b hb o e=>by
      have:=I8.pin (b,o) (List.mem_append_right _ (List.mem_append_right _ (zfR hb e)))
      exact ⟨this.1,this.2.1⟩
     have pD:=I8.pin (s2.heap.objs.size,lstO its) (by simp)
     refine ⟨T.keep _ _ _ st5 λ b hb o e=>(pin8 b hb o e).1,λ b hb=>?_,pD.1,pD.2.1⟩
     obtain ⟨o,e,_⟩:=T.obj _ _ st5 b hb
     exact (pin8 b hb o e).2
    refine thn (hg _ _ s5 σ3 H5 x u _ I5' r5 (step x H5 y5)) λ _ s6 ⟨σ6,H6,I6,q6⟩=>⟨_,σ6,H6,_,I6,q6,λ b H7 s7 I7 q7=>?_⟩
    cases b with
    | false =>
     rw [if_neg Bool.false_ne_true] at q7 ⊢
     obtain ⟨m',hm,w7⟩:=q7
     obtain ⟨k1,k2,k3,k4⟩:=keepT I7
     exact ⟨m',hm,i+1,ys,its,σ6,H7,I7.zgZ (λ p hp=>by cases hp),k1,k2,k3,k4,r3,z3,w7⟩
    | true =>
     rw [if_pos rfl] at q7 ⊢
     refine thn (he _ _ s7 σ6 H7 _ I7 q7) λ v s8 ⟨y,H8,I8,r8,m',hm,w8⟩=>?_
     obtain ⟨k1,k2,k3,k4⟩:=keepT I8
     have il:its.length=ys.length:=r3.length.symm
     refine append_at (hsz:=by show its.toArray.size<=sizeLine; rw [List.size_toArray,il]; exact z3) k3 λ h9 hs9 hD9=>?_
     have I9:Inv (cxB X Nc scope G2.objs.size fp s2 H2) [] σ6 H8 { s8 with heap:=h9 }:=Inv.turned (t':=s8.toks) (it:=s2.heap.objs.size) (I8.zgZ (pins':=[]) λ p hp=>by cases hp) (λ b o hb e=>(hs9.2 b hb).trans e) k4 hDC (.inr (Nat.le_refl _)) dcl λ p hp=>by cases hp
     refine ⟨m',hm,i+1,ys++[y],its++[v],σ6,H8,I9,T.keep _ _ _ k1 λ b hb o e=>(hs9.2 b (below b (flt b hb)).2).trans e,k2,hD9.trans (congrArg some (LCg.lst_snoc its v)),k4,r3.append (.cons r8 .nil),?_,w8⟩
     rw [List.length_append,List.length_singleton]; exact hlen
 exact codeAny_compStart_list (loop _ rfl) (T.self X.A 0 _ _ _ st1 (loop _ rfl))
def zqX (own:Nat) (ix:List Nat) (wi:TI) (g:TG) (tt:TT) (te:TE):TE:=λ σ H Q=>wi σ H λ J H1=>zih J g tt te (zc2 own ix σ) H1 λ ys H2=>∀ p,H2 p=none->Q (.ref p) (upd H2 p (.lst ys))
theorem zd9 (own:Nat) (ix:List Nat) (Nc:List Str) (hc:X.calm=true) (B:Blk X scope own ix Nc) (hi:PI X target iter wi)
  (hg:∀ C fp s H,PG (cxB X Nc scope C fp s H) target g) (ht:∀ C fp s H,PTs (cxB X Nc scope C fp s H) ifs tt) (he:∀ C fp s H,PE (cxB X Nc scope C fp s H) elt te)
  (hs:∀ x,foldedSetIterable iter X.env x=pure x:=by intro _; rfl):PE X (.ListComp elt [⟨target,iter,ifs,0⟩] scope pos) (zqX own ix wi g tt te):=by
 intro pins s σ H Q I h
 rw [eval_ListComp]
 have hcl:closureFor scope X.env=pure (clOf scope X.env.cells):=ziG λ y hy hk=>I.ok.has y.1 (B.free y hy hk)
 refine wpAny_comprehension_free (use:=none) rfl hs hcl B.kind B.names (thn (hi pins s σ H _ I h) λ xv s1 h1=>thn h1 λ itv s2 h2=>?_)
 obtain ⟨it,fp,tn,J,H2,e,I2,T,st2,f2,hw⟩:=h2
 subst e
 refine ziE (RR:=λ acc C=>compPost (model X.prog X.w) X.A X.xe none (EP X pins σ Q) acc C) hc B I2 T st2 f2 (λ C=>hg C fp s2 H2) (λ C=>ht C fp s2 H2) (λ C=>he C fp s2 H2) hw ?_
 intro D C s' ys H' m' J' hD fin hn hC hDC hCle
 refine ⟨m',hn,λ h'' hs''=>⟨.ref D,upd H' D (.lst ys),?_,rfl,fin D hD⟩⟩
 have hCf:=I2.fpOk (H':=upd H' D (.lst ys)) hCle (by rw [zae (Ne.symm hDC)]; exact hC)
 obtain ⟨f0,f1,_,f3,f4,f5⟩:=hCf
 exact Inv.turned (t':=s'.toks) (it:=C) J' (λ b o hb e=>(hs''.2 b hb).trans e) f0 f1 f3 f4 f5
theorem zfO {i:Nat} {x:Str} {pos' spos:Pos} (own:Nat) (ix:List Nat) (Nc:List Str) (hN:X.N.Nodup) (hxi:X.N[i]?=some x) (hx:Loc X.env.scope x) (hc:X.calm=true) (B:Blk X scope own ix Nc) (hi:PI X target iter wi)
  (hg:∀ C fp s H,PG (cxB X Nc scope C fp s H) target g) (ht:∀ C fp s H,PTs (cxB X Nc scope C fp s H) ifs tt) (he:∀ C fp s H,PE (cxB X Nc scope C fp s H) elt te)
  (hsw:swapsWith (.ListComp elt [⟨target,iter,ifs,0⟩] scope pos) (some (.Name x pos')) spos.line X.env=pure true:=by rfl)
  (hs:∀ x,foldedSetIterable iter X.env x=pure x:=by intro _; rfl) (hf:X.fn x=true\/X.env.scope.names.lookup x=some .local:=by first | exact .inl rfl | exact .inr rfl | assumption) :
  PS X (.Assign [.Name x pos'] (.ListComp elt [⟨target,iter,ifs,0⟩] scope pos) spos) (tAsg (zqX own ix wi g tt te) (zqd i)):=by
 intro pins s σ H DD I h
 rw [exec_Assign_Name_used _ _ _ _ hsw]
 refine wpAny_bind (wpAny_standAt (wpAny_bind ?_))
 show wpAny _ X.A (do let _ <-comprehension (.ListComp elt [⟨target,iter,ifs,0⟩] scope pos) scope X.env _ (newList []) false (eval iter X.env) (some (assign (.Name x pos') X.env))) _ _ s
 have hcl:closureFor scope X.env=pure (clOf scope X.env.cells):=ziG λ y hy hk=>I.ok.has y.1 (B.free y hy hk)
 refine wpAny_bind (wpAny_mono (wpAny_comprehension_free (use:=some (assign (.Name x pos') X.env)) (Q:=λ _ s'=>SP X pins DD .next s') rfl hs hcl B.kind B.names
  (thn (hi pins s σ H _ I h) λ xv s1 h1=>thn h1 λ itv s2 h2=>?_)) (λ _ s' hq=>wpAny_pure (wpAny_pure hq)) λ _ _ e=>e)
 obtain ⟨it,fp,tn,J,H2,e,I2,T,st2,f2,hw⟩:=h2
 subst e
 refine ziE (RR:=λ acc C=>compPost (model X.prog X.w) X.A X.xe (some (assign (.Name x pos') X.env)) (λ _ s'=>SP X pins DD .next s') acc C) hc B I2 T st2 f2 (λ C=>hg C fp s2 H2) (λ C=>ht C fp s2 H2) (λ C=>he C fp s2 H2) hw ?_
 intro D C s' ys H' m' J' hD fin hn hC hDC hCle
 have hCf:=I2.fpOk (H':=upd H' D (.lst ys)) hCle (by rw [zae (Ne.symm hDC)]; exact hC)
 obtain ⟨f0,f1,_,f3,f4,f5⟩:=hCf
 show wpAny _ X.A (assign (.Name x pos') X.env (.ref D)) _ _ s'
 refine wpAny_assign_Name (zjL (v:=V.ref D) J' hN hxi hx rfl (λ s3 I3 ⟨a,sb,ha⟩=>?_) hf)
 have hCa:C≠a:=by
  rcases ha with z | z
  . rw [z]; exact f1
  . exact Ne.symm (f4 x a z)
 refine ⟨m',hn.sameBut sb hCa,λ h'' hs''=>⟨_,upd H' D (.lst ys),?_,fin D hD⟩⟩
 exact Inv.turned (t':=s3.toks) (it:=C) I3 (λ b o hb e=>(hs''.2 b hb).trans e) f0 f1 f3 f4 f5
end
end L2
end
section
namespace L2
open PySem PySem.Spec PyProof.Rows PySem.W
theorem zbZ.there {P:Program} {w:World} {H:Hp} {h:Heap} {a:Addr} {o:HO} (x:zbZ P w H h a o):∃ ob,h.get? a=some ob:=by
 cases o with
 | lst _=>obtain ⟨_,_,_,_,e⟩:=x; exact ⟨_,e⟩
 | tup _=>obtain ⟨_,_,_,ob,e,_⟩:=x; exact ⟨ob,e⟩
 | dK _=>obtain ⟨_,_,_,_,ob,_,_,e,_⟩:=x; exact ⟨ob,e⟩
 | dT _=>obtain ⟨_,_,_,_,ob,_,_,e,_⟩:=x; exact ⟨ob,e⟩
 | set _ _=>obtain ⟨ob,_,_,_,e,_⟩:=x; exact ⟨ob,e⟩
 | ins _ _ _=>obtain ⟨_,_,_,e,_⟩:=x; exact ⟨_,e⟩
 | own _=>exact x
 | xd _=>obtain ⟨_,⟨ob,_,_,e,_⟩,_⟩:=x; exact ⟨ob,e⟩
 | rng _ _=>obtain ⟨_,_,_,e⟩:=x; exact ⟨_,e⟩
 | frz ob _=>exact ⟨ob,x.1⟩
 | tbl _=>exact ⟨_,x⟩
 | met _ _=>exact ⟨_,x⟩
 | ext _=>exact x.2.1
theorem Un.fly {fs:List Addr} {H H':Hp} {h h1 h2 B:Heap} (u:Un fs [] H H' h h1)
  (hB:∀ b o,h1.get? b=some o->b∉fs->((∃ o',h.get? b=some o')\/∃ v,H' b=some v)->B.get? b=some o) (hs:B.StaysIn h2) (sl:h1.UpToSlots h2)
  (hfs:∀ b∈fs,∀ o,h1.get? b=some o->∀ vs,o.data≠.fields vs):Un fs [] H H' h h2 where
 keep:=λ b o q n hb hx=>hs b o (hB b o (u.keep b o q n hb hx) hb (.inl ⟨o,q⟩))
 slot:=λ b o q n hb hx=>by
  obtain ⟨s1,e1⟩:=u.slot b o q n hb hx
  obtain ⟨s2,e2⟩:=sl b _ e1 (hfs b hb _ e1)
  exact ⟨s2,e2⟩
 free:=u.free
 there:=λ b o q hx=>by
  obtain ⟨o1,e1⟩:=u.there b o q hx
  by_cases hb:b∈fs
  . obtain ⟨s2,e2⟩:=sl b _ e1 (hfs b hb _ e1)
    exact ⟨_,e2⟩
  . exact ⟨o1,hs b o1 (hB b o1 e1 hb (.inl ⟨o,q⟩))⟩
 tups:=u.tups
 frzs:=u.frzs
 tbls:=u.tbls
theorem HOk.fly {P:Program} {w:World} {fs:List Addr} {H':Hp} {h1 h2 B:Heap} (x:HOk P w H' h1) (hB:∀ b o,h1.get? b=some o->b∉fs->(∃ v,H' b=some v)->B.get? b=some o) (hs:B.StaysIn h2) (hf:∀ b∈fs,H' b=none):HOk P w H' h2:=λ a o e =>
 (x a o e).stay (λ b u hb q=>by
  have tr:∃ v,H' b=some v:=by
   rcases hb with rfl | hb
   . exact ⟨o,e⟩
   . exact ⟨_,hb⟩
  have nf:b∉fs:=λ z=>by
   obtain ⟨v,hv⟩:=tr
   rw [hf b z] at hv; cases hv
  exact hs b u (hB b u q nf tr)) (λ _ q=>q) λ _ _ q=>q
def CX1 (P:Program) (w:World):CXT:=λ outer H s E e s'=>∃ (ex C t:Addr) (B:Heap) (H':Hp),e=.ref ex/\s'.os=s.os/\AllBare s'.gens/\Un (frs outer) [] H H' s.heap s'.heap/\HOk P w H' s'.heap /\
 (∀ b o,s'.heap.get? b=some o->b∉frs outer->((∃ o',s.heap.get? b=some o')\/∃ v,H' b=some v)->B.get? b=some o)/\Heap.FlyingW B outer ex (.ref C) (.ref t) s'.heap/\E (.ref C) none H'
def Raises (X:Cx) (E:XK):Prop:=∀ (pins:List (Addr×Obj)) (σ:St) (H:Hp) (s:Shared) (e C:Addr) (h':Heap) (vs:List Value),Inv X pins σ H s->Heap.MadeExcOf s.heap h' e (.ref C) vs->E (.ref C) none H->X.xe (.ref e) { s with heap:=h' }
section
variable {P:Program} {w:World} {K:Frag} {mg:Str->Option Value} {base:Heap} {N:List Str} {qual:Str} {scope:Scope} {f:Addr} {cd:Value} {A:Around} {outer:List Env} {s₀:Shared} {H₀:Hp} {E:XK}
theorem zgY:Raises (cxOf (CX1 P w) P w K mg base N qual scope f cd A outer s₀ H₀ E) E:=by
 intro pins σ H s e C h' vs I hx hE
 have hmem:∀ env∈(envOfC qual scope s₀.heap.objs.size f cd::outer),∀ b,env.frame=some b->b∈frs (envOfC qual scope s₀.heap.objs.size f cd::outer):=λ env he b hb=>List.mem_filterMap.mpr ⟨env,he,hb⟩
 refine wpAny_leaves_madeW (base:=hideAll s.heap (frs (envOfC qual scope s₀.heap.objs.size f cd::outer))) (h:=s.heap) I.ok.frames rfl (λ b o q=>of_hideAll _ q) (funFrames_hide I.stack hmem) hx λ h2 t fly _ _ sl=>?_
 have keep:∀ b o,s.heap.get? b=some o->b∉frs (envOfC qual scope s₀.heap.objs.size f cd::outer)->h2.get? b=some o:=λ b o q nb=>fly.1 b o (hideAll_get _ q nb)
 have sub:∀ b,b∈frs (envOfC qual scope s₀.heap.objs.size f cd::outer)->b=s₀.heap.objs.size\/b∈frs outer:=λ b hb=>by
  rcases List.mem_cons.mp (show b∈s₀.heap.objs.size::frs outer from hb) with z | z
  . exact .inl z
  . exact .inr z
 have nb:∀ b,b∉frs outer->((∃ o',s₀.heap.get? b=some o')\/∃ v,H b=some v)->b∉frs (envOfC qual scope s₀.heap.objs.size f cd::outer):=λ b h1 h2 hb=>by
  rcases sub b hb with z | z
  . rcases h2 with ⟨o',q⟩ | ⟨v,q⟩
    . rw [z] at q; exact absurd (Heap.lt_size q) (Nat.lt_irrefl _)
    . have:=I.free
      have this':H s₀.heap.objs.size=none:=this
      rw [z,this'] at q; cases q
  . exact h1 z
 have hB:∀ b o,s.heap.get? b=some o->b∉frs outer->((∃ o',s₀.heap.get? b=some o')\/∃ v,H b=some v)->(hideAll s.heap (frs (envOfC qual scope s₀.heap.objs.size f cd::outer))).get? b=some o:=λ b o q h1 h2=>hideAll_get _ q (nb b h1 h2)
 have sl':s.heap.UpToSlots h2:=(Heap.UpToSlots.of_keeps hx.keeps).trans sl
 have hfs:∀ b∈frs outer,∀ o,s.heap.get? b=some o->∀ vs,o.data≠.fields vs:=λ b hb o q=>by
  have hb':b∈frs (envOfC qual scope s₀.heap.objs.size f cd::outer):=List.mem_cons_of_mem s₀.heap.objs.size hb
  obtain ⟨_,o',q',hd⟩:=I.stack.mem hb'
  rw [q] at q'; cases q'
  exact hd
 refine ⟨e,C,t,_,H,rfl,I.os,I.bare,(show Un (frs outer) [] H₀ H s₀.heap s.heap from I.base).fly hB fly.1 sl' hfs,HOk.fly (fs:=frs outer) I.hok (λ b o q h1 h2=>hB b o q h1 (.inr h2)) fly.1 (λ b hb=>I.zgN b (List.mem_cons_of_mem s₀.heap.objs.size hb)),λ b o q h1 h2=>?_,fly,hE⟩
 have ⟨o1,e1⟩:∃ o1,s.heap.get? b=some o1:=by
  rcases h2 with ⟨o',q'⟩ | ⟨v,q'⟩
  . exact I.base.there b o' q' (by intro z; cases z)
  . exact (I.hok b v q').there
 have e2:=hB b o1 e1 h1 h2
 have e3:=fly.1 b o1 e2
 have:o=o1:=Option.some.inj (q.symm.trans e3)
 rw [this]; exact e2
theorem zbR:Passes (CX1 P w) (cxOf (CX1 P w) P w K mg base N qual scope f cd A outer s₀ H₀ E) E:=by
 intro pins σ H s e s' I hc
 obtain ⟨ex,C,t,B,H',rfl,os,bare,un,hok,hB,fly,hE⟩:=hc
 have J:Inv (cxOf (CX1 P w) P w K mg base N qual scope f cd A outer s₀ H₀ E) pins σ H' s':=I.zrG (ch:=[]) os un hok bare λ b z=>by cases z
 refine wpAny_leaves_onW I.ok.frames rfl fly λ h2 fly2 sl=>?_
 have toStack:∀ b,b∈frs outer->b∈frs (envOfC qual scope s₀.heap.objs.size f cd::outer):=λ b hb=>List.mem_cons_of_mem s₀.heap.objs.size hb
 have hB':∀ b o,s'.heap.get? b=some o->b∉frs outer->((∃ o',s₀.heap.get? b=some o')\/∃ v,H' b=some v)->B.get? b=some o:=λ b o q h1 h2=>by
  refine hB b o q (λ hb=>?_) (h2.imp (λ ⟨o',q'⟩=>I.base.there b o' q' (λ z=>by cases z)) id)
  rcases List.mem_cons.mp (show b∈s₀.heap.objs.size::frs outer from hb) with z | z
  . rcases h2 with ⟨o',q'⟩ | ⟨v,q'⟩
    . rw [z] at q'; exact absurd (Heap.lt_size q') (Nat.lt_irrefl _)
    . have fr:H' s₀.heap.objs.size=none:=J.free
      rw [z,fr] at q'; cases q'
  . exact h1 z
 have hfs:∀ b∈frs outer,∀ o,s'.heap.get? b=some o->∀ vs,o.data≠.fields vs:=λ b hb o q=>by
  obtain ⟨_,o',q',hd⟩:=J.stack.mem (toStack b hb)
  rw [q] at q'; cases q'
  exact hd
 refine ⟨ex,C,t,B,H',rfl,J.os,J.bare,(show Un (frs outer) [] H₀ H' s₀.heap s'.heap from J.base).fly hB' fly2.1 sl hfs,HOk.fly (fs:=frs outer) J.hok (λ b o q h1 h2=>hB' b o q h1 (.inr h2)) fly2.1 (λ b hb=>J.zgN b (toStack b hb)),λ b o q h1 h2=>?_,fly2,hE⟩
 obtain ⟨o1,e1⟩:∃ o1,s'.heap.get? b=some o1:=by
  rcases h2 with ⟨o',q'⟩ | ⟨v,q'⟩
  . exact J.base.there b o' q' (by intro z; cases z)
  . exact (J.hok b v q').there
 have e2:=hB' b o1 e1 h1 h2
 have:o=o1:=Option.some.inj (q.symm.trans (fly2.1 b o1 e2))
 rw [this]; exact e2
end
theorem zrC {K:Frag} {h:Heap} {C:Addr} {bmB:List Value} {newId:String} (X:K.In h) (q:excIn K C bmB newId=true) :
  ∃ bm N nm qn bs hd sn sub ab col dd k0 k1 k2 k3 k5 mN,h.get? C=some (excClassObj nm qn C N bs bm hd sn sub ab col dd k0 k1 k2 k3 k5 newId)/\h.Ns N mN/\mN "__init__" = none/\OwnTail h bmB bm:=by
 unfold excIn at q
 split at q
 case h_2=>cases q
 case h_1 dd cd sl ho =>
  split at q
  case h_2=>cases q
  case h_1 C' bm k0 k1 k2 k3 n k5 hm hs =>
   simp only [Bool.and_eq_true,beq_iff_eq,Bool.not_eq_true'] at q
   obtain ⟨⟨⟨⟨⟨e1,e2⟩,hdel⟩,tl⟩,ok⟩,ni⟩:=q
   subst e1 e2
   obtain ⟨nm,bs,mro,ns,qn,hdc,sn,sub,ab,col,del⟩:=cd
   simp only at hm hdel ok ni
   subst hm hdel
   have es:sl=#[k0,k1,k2,k3,some (.builtin n),k5]:=by
    cases sl with
    | mk l=>simp only at hs; rw [hs]
   subst es
   exact ⟨bm,ns,nm,qn,bs,hdc,sn,sub,ab,col,dd,k0,k1,k2,k3,k5,_,X _ _ ho,.of_isNs (isNs_of_in X ok),nsMap_none_of_in X ok ni,tail_of_in X tl⟩
def znX (C:Addr) (E:XK) (t:TA):TS:=λ _ σ H=>t σ H λ vs H1=>vs.length<=sizeLine/\E (.ref C) none H1
section
variable {X:Cx} {E:XK} {x:Str} {C:Addr} {e₀:Expr} {rest:List Expr} {t:TA} {np cpos pos:Pos} {B newId initId:String} {bm:List Value}
theorem ziX (hr:Raises X E) (hc:X.calm=true) (hg:Gl X x) (hm:X.mg x=some (.ref C)) (q:excIn X.K C bm newId=true) (FB:ExcBaseFacts B newId initId bm) (ha:PA X (e₀::rest) t)
  (hd:(x == ("__debug__" : Str))=false:=by decide) (he:starEach (e₀::rest) X.env=(false,eval e₀ X.env)::starEach rest X.env:=by rfl) (hpl:(backTo cpos (starEach rest X.env)).any (·.1)=false:=by rfl) :
  PS X (.Raise (some (.Call (.Name x np) (e₀::rest) [] cpos)) none pos) (znX C E t):=by
 intro pins s σ H D I h
 obtain ⟨tl,N,nm,qn,bs,hdc,sn,sub,ab,col,dd,k0,k1,k2,k3,k5,mN,hC,hN,hni,T⟩:=zrC I.ok.mod.kin q
 have hb:(backTo cpos (starEach (e₀::rest) X.env)).any (·.1)=false:=by
  rw [he]
  show (false || (backTo cpos (starEach rest X.env)).any (·.1))=false
  rw [hpl]; rfl
 refine wpAny_Raise_call_subT (C:=C) (nm:=nm) (q:=qn) (N:=N) (bs:=bs) (bm:=tl) (hdct:=hdc) (sn:=sn) (sub:=sub) (ab:=ab) (col:=col) (dd:=dd) (k0:=k0) (k1:=k1) (k2:=k2) (k3:=k3) (k5:=k5) FB (mN:=mN) (T.hasType FB.hasBase) (I.ok.hd hc) hb hni (zfT I hg hm ⟨rfl,?_⟩ hd)
 have hp:=ha cpos pins s σ H _ I h
 rw [he] at hp ⊢
 refine Calls.evalArgs_plain (thn hp λ us s1 ⟨vs,H1,I1,r1,z,hE⟩=>?_)
 exact ⟨rfl,by rw [<-r1.length]; exact z,I1.bk _ _ hC,hN.keeps I1.bk,T.keeps I1.bk,λ h' e mk=>hr pins σ H1 s1 e C h' us I1 mk hE⟩
end
theorem PS.nox {X:Cx} {st:Stmt} {t:TS} (h:PS X.nox st t):PS X st t:=λ pins s σ H D I hw =>
 wpAny_mono (h pins s σ H D (I.wish _) hw) (λ _ _ q=>SP.zfa q) λ _ _ z=>z.elim
theorem Fun.okX {K:Frag} {P:Program} {w:World} {mg:Str->Option Value} {base:Heap} {x qual:Str} {st:Stmt} {f:Addr} {fd:FuncData} {N ps:List Str} {k:Nat} {sp:Sp} (F:Fun K x qual st f fd) (S:zat N ps (zal st))
  (len:∀ vs H Q E,sp vs H Q E->vs.length=ps.length)
  (hb:∀ (cdv:Value) (A:Around) (outer:List Env) (s:Shared) (H:Hp) (vs:List V) (Q:VK) (E:XK),Room k (A.deeper (envOfC qual (zal st) s.heap.objs.size f cdv))->sp vs H Q E ->
   ∃ t,PSs (cxOf (CX1 P w) P w K mg base N qual (zal st) f cdv A outer s H E) (zhx st) t/\t { nx:=λ _ H'=>Q .non H',rt:=Q } (start N vs) H) :
  FnOk P w K mg base (CX1 P w) (k+1) f fd ps sp:=by
 obtain ⟨oc,od,kV,doc,pm,an,cdv,ct,osl,rfl,lk,hcd⟩:=F.ex
 exact ztn lk hcd S len (hb cdv)
abbrev EF:XK:=λ _ _ _=>False
theorem zaK {X:Cx}:Passes (CX1 X.prog X.w) X EF:=λ _ _ _ _ _ _ _ ⟨_,_,_,_,_,_,_,_,_,_,_,_,h⟩=>h.elim
def cxH (X:Cx) (e:Value):Cx:={ X with A:=X.A.mark (some e),calm:=false,xe:=NoX }
theorem Inv.toH {X:Cx} {pins:List (Addr×Obj)} {σ:St} {H:Hp} {s:Shared} {e:Value} (I:Inv X pins σ H s):Inv (cxH X e) pins σ H s :=
 ⟨⟨I.ok.mod,I.ok.kind,I.ok.glob,I.ok.blt,I.ok.above,I.ok.inj,I.ok.has,I.ok.cab,λ z=>(by cases z),I.ok.frames,I.ok.stk,I.ok.exf,I.ok.bs,I.ok.bsz,I.ok.noex,I.ok.exfs,I.ok.funs,I.ok.frf⟩,I.os,I.bare,I.base,I.loc,I.cell,I.free,I.zdT,I.pin,I.hok,I.len⟩
theorem Inv.ofH {X:Cx} {pins:List (Addr×Obj)} {σ:St} {H:Hp} {s:Shared} {e:Value} {pins0:List (Addr×Obj)} {σ0:St} {H0:Hp} {s0:Shared} (I0:Inv X pins0 σ0 H0 s0) (I:Inv (cxH X e) pins σ H s):Inv X pins σ H s :=
 ⟨I0.ok,I.os,I.bare,I.base,I.loc,I.cell,I.free,I.zdT,I.pin,I.hok,I.len⟩
def cxT (X:Cx) (pn:List (Addr×Obj)) (xe:Value->Shared->Prop):Cx:={ X with pn:=pn,xe:=xe }
theorem Inv.toT {X:Cx} {pins:List (Addr×Obj)} {σ:St} {H:Hp} {s:Shared} {xe:Value->Shared->Prop} (I:Inv X pins σ H s):Inv (cxT X (X.pn++pins) xe) [] σ H s :=
 ⟨⟨I.ok.mod,I.ok.kind,I.ok.glob,I.ok.blt,I.ok.above,I.ok.inj,I.ok.has,I.ok.cab,I.ok.hd,I.ok.frames,I.ok.stk,I.ok.exf,I.ok.bs,I.ok.bsz,I.ok.noex,I.ok.exfs,I.ok.funs,I.ok.frf⟩,I.os,I.bare,I.base,I.loc,I.cell,I.free,I.zdT,λ p hp=>I.pin p (by have hp':p∈(X.pn++pins)++[]:=hp; rwa [List.append_nil] at hp'),I.hok,I.len⟩
theorem Inv.ofT {X:Cx} {pins pins':List (Addr×Obj)} {σ:St} {H:Hp} {s:Shared} {xe:Value->Shared->Prop} (I:Inv (cxT X (X.pn++pins) xe) pins' σ H s):Inv X pins σ H s :=
 ⟨⟨I.ok.mod,I.ok.kind,I.ok.glob,I.ok.blt,I.ok.above,I.ok.inj,I.ok.has,I.ok.cab,I.ok.hd,I.ok.frames,I.ok.stk,I.ok.exf,I.ok.bs,I.ok.bsz,I.ok.noex,I.ok.exfs,I.ok.funs,I.ok.frf⟩,I.os,I.bare,I.base,I.loc,I.cell,I.free,I.zdT,λ p hp=>I.pin p (List.mem_append_left _ hp),I.hok,I.len⟩
def tTry (C:Addr) (tb:XK->TS) (ts:TS):TS:=λ D σ H=>tb (λ cls _ H'=>cls=.ref C/\ts D (σ.map λ _=>none) H') D σ H
section
variable {X:Cx} {C:Addr} {x:Str} {body suite:List Stmt} {b₀:Stmt} {np hpos pos:Pos} {tb:XK->TS} {ts:TS}
theorem zsn (hc:X.calm=true) (hk:X.stack=X.env::X.outer) (hfr:X.env.frame=some X.env.locals) (hex:X.ex=[]) (hg:Gl X x) (hm:X.mg x=some (.ref C)) (q:ktsIn X.K C "BaseException" = true)
   (hb:∀ E pn xe,Passes (CX1 X.prog X.w) (cxT X pn xe) E->PSs (cxT X pn xe) body (tb E)) (hs:∀ e,PSs (cxH X e) (b₀::suite) ts)
   (hd:(x == ("__debug__" : Str))=false:=by decide) :
   PS X (.Try body [.ExceptHandler (some (.Name x np)) none (b₀::suite) hpos] [] [] pos) (tTry C tb ts):=by
 intro pins s σ H D I h
 refine wpAny_Try_except (wpAny_mono ((hb _ (X.pn++pins) _ ?pass) [] s σ H D I.toT h) (λ fl s' hq=>?_) λ e s' hq=>hq)
 case pass =>
   intro pins' σ' H1 s1 e s' I' hcx
   obtain ⟨ex,C',t,B,H',rfl,os,bare,un,hok,hB,fly,hC',hE⟩:=hcx
   obtain rfl:C'=C:=Value.ref.inj hC'
   have I1:Inv X pins σ' H1 s1:=I'.ofT
   have frm:X.A.frames=some (X.env::X.outer):=by rw [<-hk]; exact I.ok.frames
   have fly':Heap.FlyingW B (X.env::X.outer) ex (.ref C') (.ref t) s'.heap:=by rw [<-hk]; exact fly
   refine wpAny_looks_onW frm hfr fly' λ h4 held sl4=>?_
   refine wpAny_landsW held λ h5 fly5 sl5=>?_
   have hfs:∀ b∈frs X.stack,∀ o,s'.heap.get? b=some o->∀ vs,o.data≠.fields vs:=λ b hb' o qo=>by
    obtain ⟨_,o',q',hd'⟩:=fly.2.2.1.mem hb'
    rw [qo] at q'; cases q'
    exact hd'
   have at_:∀ h6:Heap,B.StaysIn h6->s'.heap.UpToSlots h6->Inv X pins σ' H' { s' with heap:=h6 }:=λ h6 st6 sl6 =>
    I1.zrG (ch:=[]) (s':={ s' with heap:=h6 }) os (un.fly hB st6 sl6 hfs) (HOk.fly (fs:=frs X.stack) hok (λ b o q1 n1 t1=>hB b o q1 n1 (.inr t1)) st6 λ b hb'=>by
     have u:=I1.zgN b hb'
     obtain ⟨_,o',q',_⟩:=I1.stack.mem hb'
     exact un.free b o' q' u (by intro z; cases z)) bare λ b z=>by cases z
   have I5:=at_ h5 fly5.1 (sl4.trans sl5)
   obtain ⟨nm,qn,N,bs,bm,hdct,sn,sub,ab,col,dd,k0,k1,k2,k3,k5,newId,hC,hbase,_⟩:=kts_cls I5.kIn q
   obtain ⟨ob,hob,hobc⟩:=fly5.there
   refine wpAny_handleBy_cons (codeAny_handlers_test (zfT (X:=cxH X (.ref ex)) I5.toH hg hm ?_ hd)) (by intro z; cases z)
   refine wpAny_excMatches_sub_self hC hob hobc hbase (codeAny_handlers_suite ?_)
   refine lands_againW fly5 λ h6 fly6 sl6=>?_
   have I6:=at_ h6 fly6.1 ((sl4.trans sl5).trans sl6)
   have I7:Inv X pins (σ.map λ _=>none) H' { s' with heap:=h6 }:=I6.weak (by rw [List.length_map,I.len,I6.len]) λ i v e1=>by
    rw [List.getElem?_map] at e1
    cases e2:σ[i]? with
    | none=>rw [e2] at e1; cases e1
    | some o=>rw [e2] at e1; cases e1
   refine wpAny_mono (hs (.ref ex) pins _ _ H' D I7.toH hE) (λ fl s8 hq=>?_) λ _ _ z=>z.elim
   have ret:SP X pins D fl s8:=by
    cases fl with
    | next=>obtain ⟨σ8,H8,I8,q8⟩:=hq; exact ⟨σ8,H8,I7.ofH I8,q8⟩
    | brk=>obtain ⟨σ8,H8,I8,q8⟩:=hq; exact ⟨σ8,H8,I7.ofH I8,q8⟩
    | cont=>obtain ⟨σ8,H8,I8,q8⟩:=hq; exact ⟨σ8,H8,I7.ofH I8,q8⟩
    | ret u=>obtain ⟨v8,σ8,H8,I8,r8,q8⟩:=hq; exact ⟨v8,σ8,H8,I7.ofH I8,r8,q8⟩
   exact ret
 . cases fl with
   | next=>obtain ⟨σ8,H8,I8,q8⟩:=hq; exact wpAny_execs_nil ⟨σ8,H8,I8.ofT,q8⟩
   | brk=>obtain ⟨σ8,H8,I8,q8⟩:=hq; exact ⟨σ8,H8,I8.ofT,q8⟩
   | cont=>obtain ⟨σ8,H8,I8,q8⟩:=hq; exact ⟨σ8,H8,I8.ofT,q8⟩
   | ret u=>obtain ⟨v8,σ8,H8,I8,r8,q8⟩:=hq; exact ⟨v8,σ8,H8,I8.ofT,r8,q8⟩
end
end L2
end
section
namespace S5
open PySem PySem.W PyProof.Rows
def run {α:Type} (a:Nat->Nat->Bool):KasT α->α
 | .ret x=>x
 | .ask i j k=>run a (k (a i j))
theorem run_bind {α β:Type} (a:Nat->Nat->Bool) (f:α->KasT β):∀ t:KasT α,run a (t.bind f)=run a (f (run a t))
 | .ret _=>rfl
 | .ask i j k=>run_bind a f (k (a i j))
def Below (a:Nat->Nat->Bool) (n:Nat) {α:Type}:KasT α->Prop
 | .ret _=>True
 | .ask i j k=>(i < n/\j < n/\i≠j)/\Below a n (k (a i j))
theorem zcK {α β:Type} {a:Nat->Nat->Bool} {n:Nat} {f:α->KasT β}:∀ {t:KasT α},Below a n t->Below a n (f (run a t))->Below a n (t.bind f)
 | .ret _,_,h=>h
 | .ask i j k,h,g=>⟨h.1,zcK (t:=k (a i j)) h.2 g⟩
theorem wp_run {α:Type} {cmp:Nat->Nat->(Bool->Shared->Prop)->Shared->Prop} {a:Nat->Nat->Bool} {n:Nat} {s:Shared} (hc:∀ i j C,i < n->j < n->i≠j->C (a i j) s->cmp i j C s) :
  ∀ (t:KasT α) (Q:α->Shared->Prop),Below a n t->Q (run a t) s->t.kasWp cmp Q s
 | .ret x,Q,_,h=>h
 | .ask i j k,Q,b,h=>hc i j _ b.1.1 b.1.2.1 b.1.2.2 (wp_run hc (k (a i j)) Q b.2 h)
structure Ord (a:Nat->Nat->Bool) (n:Nat):Prop where
 irr:∀ i,a i i=false
 tr:∀ i j k,a i j=true->a j k=true->a i k=true
 tot:∀ i j,i < n->j < n->i≠j->a i j=true\/a j i=true
section
variable {a:Nat->Nat->Bool} {n:Nat} (O:Ord a n)
include O
def Arr (n:Nat) (p:Array Nat):Prop:=p.toList.Perm (List.range n)
omit O in
theorem Arr.size {p:Array Nat} (h:Arr n p):p.size=n:=by
 have:=h.length_eq; rw [List.length_range,Array.length_toList] at this; exact this
omit O in
theorem Arr.lt {p:Array Nat} (h:Arr n p) {i:Nat} (hi:i < n):p.getD i 0 < n:=by
 have hs:=h.size
 have:p.getD i 0∈p.toList:=by
  rw [Array.getD_eq_getD_getElem?,Array.getElem?_eq_getElem (by omega)]; simp
 exact List.mem_range.mp (h.mem_iff.mp this)
omit O in
theorem Arr.inj {p:Array Nat} (h:Arr n p) {i j:Nat} (hi:i < n) (hj:j < n) (e:p.getD i 0=p.getD j 0):i=j:=by
 have hs:=h.size
 have nd:p.toList.Nodup:=(h.nodup_iff).mpr List.nodup_range
 have hi':i < p.toList.length:=by rw [Array.length_toList]; omega
 have hj':j < p.toList.length:=by rw [Array.length_toList]; omega
 refine (List.getElem_inj (h₀:=hi') (h₁:=hj') nd).mp ?_
 have e1:p.getD i 0=p.toList[i]:=by rw [Array.getD_eq_getD_getElem?,Array.getElem?_eq_getElem (by omega)]; simp
 have e2:p.getD j 0=p.toList[j]:=by rw [Array.getD_eq_getD_getElem?,Array.getElem?_eq_getElem (by omega)]; simp
 rw [<-e1,<-e2,e]
def Up (a:Nat->Nat->Bool) (p:Array Nat) (k:Nat):Prop:=∀ i j,i < j->j < k->a (p.getD i 0) (p.getD j 0)=true
def Dn (a:Nat->Nat->Bool) (p:Array Nat) (k:Nat):Prop:=∀ i j,i < j->j < k->a (p.getD j 0) (p.getD i 0)=true
theorem Ord.le {p:Array Nat} (h:Arr n p) {i j:Nat} (hi:i < n) (hj:j < n) (hne:i≠j) (q:a (p.getD i 0) (p.getD j 0)=false):a (p.getD j 0) (p.getD i 0)=true:=by
 rcases O.tot _ _ (h.lt hi) (h.lt hj) (λ e=>hne (h.inj hi hj e)) with z | z
 . rw [q] at z; cases z
 . exact z
omit O in
theorem Up.snoc {p:Array Nat} {k:Nat} (tr:∀ i j k,a i j=true->a j k=true->a i k=true) (u:Up a p k) (h:k=0\/a (p.getD (k - 1) 0) (p.getD k 0)=true):Up a p (k+1):=λ i j hij hj=>by
 by_cases e:j=k
 . subst e
   rcases h with z | z
   . omega
   . by_cases e2:i=j - 1
     . subst e2; exact z
     . exact tr _ _ _ (u i (j - 1) (by omega) (by omega)) z
 . exact u i j hij (by omega)
omit O in
theorem Dn.snoc {p:Array Nat} {k:Nat} (tr:∀ i j k,a i j=true->a j k=true->a i k=true) (u:Dn a p k) (h:k=0\/a (p.getD k 0) (p.getD (k - 1) 0)=true):Dn a p (k+1):=λ i j hij hj=>by
 by_cases e:j=k
 . subst e
   rcases h with z | z
   . omega
   . by_cases e2:i=j - 1
     . subst e2; exact z
     . exact tr _ _ _ z (u i (j - 1) (by omega) (by omega))
 . exact u i j hij (by omega)
omit O in
theorem zsR (p:Array Nat) (f k:Nat):run a (kas_asc p (f+1) k)=if a (p.getD k 0) (p.getD (k - 1) 0)=true then k else run a (kas_asc p f (k+1)):=by
 show run a ((λ c=>if c=true then KasT.ret k else kas_asc p f (k+1)) (a (p.getD k 0) (p.getD (k - 1) 0)))=_
 cases a (p.getD k 0) (p.getD (k - 1) 0) <;> rfl
theorem zm0 {p:Array Nat} (h:Arr n p):∀ (f k:Nat),1<=k->k+f<=n->Up a p k->k<=run a (kas_asc p f k)/\run a (kas_asc p f k)<=k+f/\Up a p (run a (kas_asc p f k)) /\
  (run a (kas_asc p f k) < k+f->a (p.getD (run a (kas_asc p f k)) 0) (p.getD (run a (kas_asc p f k) - 1) 0)=true)
 | 0,k,_,_,u=>⟨Nat.le_refl _,Nat.le_refl _,u,λ z=>absurd z (Nat.lt_irrefl _)⟩
 | f+1,k,h1,hk,u=>by
  rw [zsR]
  cases q:a (p.getD k 0) (p.getD (k - 1) 0) with
  | true=>rw [if_pos rfl]; exact ⟨Nat.le_refl _,by omega,u,λ _=>q⟩
  | false =>
   rw [if_neg Bool.false_ne_true]
   have nx:=O.le h (i:=k) (j:=k - 1) (by omega) (by omega) (by omega) q
   obtain ⟨g1,g2,g3,g4⟩:=zm0 h f (k+1) (by omega) (by omega) (u.snoc O.tr (.inr nx))
   exact ⟨by omega,by omega,g3,λ z=>g4 (by omega)⟩
omit O in
theorem zrD (p:Array Nat) (f k:Nat):run a (kas_desc (f+1) p k 0)=if a (p.getD k 0) (p.getD (k - 1) 0)=true then run a (kas_desc f p (k+1) 0) else if a (p.getD (k - 1) 0) (p.getD k 0)=true then (p,k,0) else run a (kas_desc f p (k+1) 1):=by
 show run a ((λ c=>if c=true then (if 0 > 0 then kas_desc f (kas_rev p (k - (0+1)) k) (k+1) 0 else kas_desc f p (k+1) 0) else KasT.ask (p.getD (k - 1) 0) (p.getD k 0) λ d=>if d=true then KasT.ret (p,k,0) else kas_desc f p (k+1) (0+1)) (a (p.getD k 0) (p.getD (k - 1) 0)))=_
 cases a (p.getD k 0) (p.getD (k - 1) 0) with
 | true =>
  show run a (if 0 > 0 then kas_desc f (kas_rev p (k - (0+1)) k) (k+1) 0 else kas_desc f p (k+1) 0)=_
  rw [if_neg (by omega),if_pos rfl]
 | false =>
  show run a ((λ d=>if d=true then KasT.ret (p,k,0) else kas_desc f p (k+1) (0+1)) (a (p.getD (k - 1) 0) (p.getD k 0)))=_
  rw [if_neg Bool.false_ne_true]
  cases a (p.getD (k - 1) 0) (p.getD k 0) <;> rfl
theorem zlN {p:Array Nat} (h:Arr n p):∀ (f k:Nat),1<=k->k+f<=n->Dn a p k->∃ m,run a (kas_desc f p k 0)=(p,m,0)/\k<=m/\m<=k+f/\Dn a p m
 | 0,k,_,_,u=>⟨k,rfl,Nat.le_refl _,Nat.le_refl _,u⟩
 | f+1,k,h1,hk,u=>by
  rw [zrD]
  cases q:a (p.getD k 0) (p.getD (k - 1) 0) with
  | true =>
   rw [if_pos rfl]
   obtain ⟨m,e,g1,g2,g3⟩:=zlN h f (k+1) (by omega) (by omega) (u.snoc O.tr (.inr q))
   exact ⟨m,e,by omega,by omega,g3⟩
  | false =>
   rw [if_neg Bool.false_ne_true]
   have nx:=O.le h (i:=k) (j:=k - 1) (by omega) (by omega) (by omega) q
   rw [if_pos nx]
   exact ⟨k,rfl,Nat.le_refl _,by omega,u⟩
omit O in
theorem zof {p:Array Nat} {i j:Nat} (hj:j<=p.size) (k:Nat):(kas_rev p i j).getD k 0=if i<=k/\k < j then p.getD (i+j - 1 - k) 0 else p.getD k 0:=by
 unfold kas_rev
 have e:=getElem?_mirror_all (i:=i) hj k
 rw [Array.getD_eq_getD_getElem?,e]
 split
 . rw [Array.getD_eq_getD_getElem?]
 . rw [Array.getD_eq_getD_getElem?]
omit O in
theorem Arr.rev {p:Array Nat} (h:Arr n p) (i j:Nat):Arr n (kas_rev p i j):=(Array.perm_iff_toList_perm.mp (mirror_perm p i j _)).trans h
omit O in
theorem Arr.bub {p:Array Nat} (h:Arr n p) (i j:Nat):Arr n (bubble p i j):=(Array.perm_iff_toList_perm.mp (bubble_perm p i j)).trans h
omit O in
theorem Dn.rev {p:Array Nat} {m:Nat} (hm:m<=p.size) (d:Dn a p m):Up a (kas_rev p 0 m) m:=λ i j hij hj=>by
 rw [zof hm,zof hm,if_pos ⟨Nat.zero_le _,by omega⟩,if_pos ⟨Nat.zero_le _,hj⟩]
 exact d (0+m - 1 - j) (0+m - 1 - i) (by omega) (by omega)
theorem zmX {p:Array Nat} (h:Arr n p) (hn:1<=n):(run a (kas_count n p)).1<=n/\1<=(run a (kas_count n p)).1/\Arr n (run a (kas_count n p)).2/\Up a (run a (kas_count n p)).2 (run a (kas_count n p)).1:=by
 have u1:Up a p 1:=λ i j hij hj=>by omega
 obtain ⟨g1,g2,g3,g4⟩:=zm0 O h (n - 1) 1 (Nat.le_refl _) (by omega) u1
 unfold kas_count
 rw [run_bind]
 generalize run a (kas_asc p (n - 1) 1)=r at g1 g2 g3 g4 ⊢
 by_cases e:(r == n)=true
 . rw [if_pos e]; exact ⟨by show r<=n; omega,g1,h,g3⟩
 . rw [if_neg e]
   have ne:r≠n:=by simpa using e
   by_cases hr:r > 1
   . rw [if_pos hr]
     have q:a (p.getD 0 0) (p.getD (r - 1) 0)=true:=g3 0 (r - 1) (by omega) (by omega)
     simp only [run,q,if_true]
     exact ⟨by omega,g1,h,g3⟩
   . rw [if_neg hr]
     have hr1:r=1:=by omega
     subst hr1
     have q:=g4 (by omega)
     have d2:Dn a p 2:=(show Dn a p 1 from λ i j hij hj=>by omega).snoc O.tr (.inr q)
     obtain ⟨m,em,m1,m2,dm⟩:=zlN O h (n - (1+1)) 2 (by omega) (by omega) d2
     unfold kas_descPart
     rw [run_bind,em]
     dsimp only
     rw [if_neg (by omega)]
     unfold kas_tail3
     rw [run_bind]
     have hs:=h.size
     have ur:=Dn.rev (by omega) dm
     obtain ⟨g1',g2',g3',_⟩:=zm0 O (h.rev 0 m) (n - m) m (by omega) (by omega) ur
     simp only [run]
     exact ⟨by omega,by omega,h.rev 0 m,g3'⟩
omit O in
theorem zpk {p:Array Nat} {src d:Nat} (hs:src < p.size) (hd:d<=src) (k:Nat):(bubble p src d).getD k 0=if k=src - d then p.getD src 0 else if src - d < k/\k<=src then p.getD (k - 1) 0 else p.getD k 0:=by
 have e:=getElem?_bubble hs d hd k
 rw [Array.getD_eq_getD_getElem?,e]
 by_cases h1:k=src - d
 . rw [if_pos h1,if_pos h1,Array.getD_eq_getD_getElem?]
 . rw [if_neg h1,if_neg h1]
   by_cases h2:src - d < k/\k<=src
   . rw [if_pos h2,if_pos h2,Array.getD_eq_getD_getElem?]
   . rw [if_neg h2,if_neg h2,Array.getD_eq_getD_getElem?]
theorem ziY {p:Array Nat} (h:Arr n p) {k:Nat} (hk:k < n):∀ (f l r:Nat),l<=r->r<=k->r - l<=f->(∀ i,i < l->a (p.getD i 0) (p.getD k 0)=true)->(∀ i,r<=i->i < k->a (p.getD k 0) (p.getD i 0)=true)->Up a p k ->
  ∃ m,run a (kas_place p k f l r)=m/\m<=k/\(∀ i,i < m->a (p.getD i 0) (p.getD k 0)=true)/\∀ i,m<=i->i < k->a (p.getD k 0) (p.getD i 0)=true
 | 0,l,r,h1,h2,h3,g1,g2,u=>⟨l,rfl,by omega,g1,λ i hi hk=>g2 i (by omega) hk⟩
 | f+1,l,r,h1,h2,h3,g1,g2,u=>by
  unfold kas_place
  by_cases hlr:l ≥ r
  . rw [if_pos hlr]; exact ⟨l,rfl,by omega,g1,λ i hi hk=>g2 i (by omega) hk⟩
  . rw [if_neg hlr]
    simp only [run]
    have hm:(l+r) / 2 < r:=by omega
    have hm2:l<=(l+r) / 2:=by omega
    cases q:a (p.getD k 0) (p.getD ((l+r) / 2) 0) with
    | true =>
     simp only [if_true]
     refine ziY h hk f l ((l+r) / 2) hm2 (by omega) (by omega) g1 (λ i hi hik=>?_) u
     by_cases e:i=(l+r) / 2
     . subst e; exact q
     . exact O.tr _ _ _ q (u _ i (by omega) hik)
    | false =>
     simp only [Bool.false_eq_true,if_false]
     have nx:=O.le h (i:=k) (j:=(l+r) / 2) hk (by omega) (by omega) q
     refine ziY h hk f ((l+r) / 2+1) r (by omega) h2 (by omega) (λ i hi=>?_) g2 u
     by_cases e:i=(l+r) / 2
     . subst e; exact nx
     . exact O.tr _ _ _ (u i ((l+r) / 2) (by omega) (by omega)) nx
theorem zqM:∀ (f:Nat) (p:Array Nat) (k:Nat),Arr n p->k+f=n->Up a p k->Arr n (run a (kas_bin f p k))/\Up a (run a (kas_bin f p k)) n
 | 0,p,k,h,e,u=>⟨h,by rw [Nat.add_zero] at e; rw [<-e]; exact u⟩
 | f+1,p,k,h,e,u=>by
  have hk:k < n:=by omega
  have hs:=h.size
  unfold kas_bin
  rw [run_bind]
  obtain ⟨m,em,m1,g1,g2⟩:=ziY O h hk k 0 k (Nat.zero_le _) (Nat.le_refl _) (by omega) (λ i hi=>by omega) (λ i h1 h2=>by omega) u
  rw [em]
  refine zqM f _ (k+1) (h.bub k (k - m)) (by omega) λ i j hij hj=>?_
  rw [zpk (by omega) (by omega),zpk (by omega) (by omega),show k - (k - m)=m by omega]
  by_cases e1:i=m
  . rw [if_pos e1,if_neg (show ¬ j=m by omega),if_pos (show m < j/\j<=k by omega)]
    exact g2 (j - 1) (by omega) (by omega)
  . rw [if_neg e1]
    by_cases e2:m < i/\i<=k
    . rw [if_pos e2,if_neg (show ¬ j=m by omega),if_pos (show m < j/\j<=k by omega)]
      exact u (i - 1) (j - 1) (by omega) (by omega)
    . rw [if_neg e2]
      by_cases e3:j=m
      . rw [if_pos e3]; exact g1 i (by omega)
      . rw [if_neg e3]
        by_cases e4:m < j/\j<=k
        . rw [if_pos e4]
          by_cases e5:i=j - 1
          . omega
          . exact u i (j - 1) (by omega) (by omega)
        . rw [if_neg e4]; exact u i j hij (by omega)
omit O in
theorem Arr.two {p:Array Nat} (h:Arr n p) {i j:Nat} (hi:i < n) (hj:j < n) (hne:i≠j):p.getD i 0 < n/\p.getD j 0 < n/\p.getD i 0≠p.getD j 0:=⟨h.lt hi,h.lt hj,λ e=>hne (h.inj hi hj e)⟩
omit O in
theorem zhL {p:Array Nat} (h:Arr n p):∀ (f k:Nat),1<=k->k+f<=n->Below a n (kas_asc p f k)
 | 0,_,_,_=>trivial
 | f+1,k,h1,hk=>by
  refine ⟨h.two (by omega) (by omega) (by omega),?_⟩
  cases a (p.getD k 0) (p.getD (k - 1) 0) with
  | true=>exact trivial
  | false=>exact zhL h f (k+1) (by omega) (by omega)
theorem ziB {p:Array Nat} (h:Arr n p):∀ (f k:Nat),1<=k->k+f<=n->Below a n (kas_desc f p k 0)
 | 0,_,_,_=>trivial
 | f+1,k,h1,hk=>by
  refine ⟨h.two (by omega) (by omega) (by omega),?_⟩
  cases q:a (p.getD k 0) (p.getD (k - 1) 0) with
  | true =>
   show Below a n (if 0 > 0 then kas_desc f (kas_rev p (k - (0+1)) k) (k+1) 0 else kas_desc f p (k+1) 0)
   rw [if_neg (by omega)]
   exact ziB h f (k+1) (by omega) (by omega)
  | false =>
   have nx:=O.le h (i:=k) (j:=k - 1) (by omega) (by omega) (by omega) q
   refine ⟨h.two (by omega) (by omega) (by omega),?_⟩
   rw [nx]
   exact trivial
theorem zlO {p:Array Nat} (h:Arr n p) (hn:1<=n):Below a n (kas_count n p):=by
 have u1:Up a p 1:=λ i j hij hj=>by omega
 obtain ⟨g1,g2,g3,g4⟩:=zm0 O h (n - 1) 1 (Nat.le_refl _) (by omega) u1
 unfold kas_count
 refine zcK (zhL h (n - 1) 1 (Nat.le_refl _) (by omega)) ?_
 generalize run a (kas_asc p (n - 1) 1)=r at g1 g2 g3 g4 ⊢
 by_cases e:(r == n)=true
 . rw [if_pos e]; exact trivial
 . rw [if_neg e]
   have ne:r≠n:=by simpa using e
   by_cases hr:r > 1
   . rw [if_pos hr]
     have q:a (p.getD 0 0) (p.getD (r - 1) 0)=true:=g3 0 (r - 1) (by omega) (by omega)
     refine ⟨h.two (by omega) (by omega) (by omega),?_⟩
     rw [q]; exact trivial
   . rw [if_neg hr]
     have hr1:r=1:=by omega
     subst hr1
     have q:=g4 (by omega)
     have d2:Dn a p 2:=(show Dn a p 1 from λ i j hij hj=>by omega).snoc O.tr (.inr q)
     obtain ⟨m,em,m1,m2,dm⟩:=zlN O h (n - (1+1)) 2 (by omega) (by omega) d2
     unfold kas_descPart
     refine zcK (ziB O h (n - (1+1)) 2 (by omega) (by omega)) ?_
     rw [em]
     dsimp only
     rw [if_neg (by omega)]
     unfold kas_tail3
     exact zcK (zhL (h.rev 0 m) (n - m) m (by omega) (by omega)) trivial
omit O in
theorem zeX {p:Array Nat} (h:Arr n p) {k:Nat} (hk:k < n):∀ (f l r:Nat),r<=k->Below a n (kas_place p k f l r)
 | 0,_,_,_=>trivial
 | f+1,l,r,hr=>by
  unfold kas_place
  by_cases hlr:l ≥ r
  . rw [if_pos hlr]; exact trivial
  . rw [if_neg hlr]
    refine ⟨h.two hk (by omega) (by omega),?_⟩
    cases a (p.getD k 0) (p.getD ((l+r) / 2) 0) with
    | true=>exact zeX h hk f l _ (by omega)
    | false=>exact zeX h hk f _ r hr
omit O in
theorem zkS:∀ (f:Nat) (p:Array Nat) (k:Nat),Arr n p->k+f=n->Below a n (kas_bin f p k)
 | 0,_,_,_,_=>trivial
 | f+1,p,k,h,e=>by
  unfold kas_bin
  exact zcK (zeX h (by omega) k 0 k (Nat.le_refl _)) (zkS f _ (k+1) (h.bub k _) (by omega))
theorem znf (hn:1<=n):Below a n (kas_sort n):=by
 have h0:Arr n (List.toArray (List.range n)):=List.Perm.refl _
 obtain ⟨c1,c2,c3,c4⟩:=zmX O h0 hn
 unfold kas_sort
 refine zcK (zlO O h0 hn) ?_
 by_cases h:(run a (kas_count n (List.toArray (List.range n)))).1 < n
 . rw [if_pos h]
   exact zkS _ _ _ c3 (by omega)
 . rw [if_neg h]; exact trivial
theorem zn4 (hn:1<=n):Arr n (run a (kas_sort n))/\Up a (run a (kas_sort n)) n:=by
 have h0:Arr n (List.toArray (List.range n)):=List.Perm.refl _
 obtain ⟨c1,c2,c3,c4⟩:=zmX O h0 hn
 unfold kas_sort
 rw [run_bind]
 generalize run a (kas_count n (List.toArray (List.range n)))=r at c1 c2 c3 c4 ⊢
 obtain ⟨m,p⟩:=r
 dsimp only at c1 c2 c3 c4 ⊢
 by_cases h:m < n
 . rw [if_pos h,show max m 1=m by omega]
   exact zqM O (n - m) p m c3 (by omega) c4
 . rw [if_neg h]
   have:m=n:=by omega
   subst this
   exact ⟨c3,c4⟩
end
end S5
end
section
namespace S5
open PySem PySem.W PyProof.Rows
def zhO (a:Addr) (h h':Heap):Prop:=∀ b o,b≠a->h.get? b=some o->h'.get? b=some o
def picked (vs:List Value) (p:Array Nat):List Value:=p.toList.map λ i=>vs.getD i Value.none
section
variable {prog:Program} {w:World} {A:Around} {E:Value->Shared->Prop} {s:Shared}
theorem zn5 {a:Addr} {vs:List Value} {c:Nat} {κ:SortKind} {lt:Nat->Nat->Bool} {P:PySem.Fin->Shared->Prop} (ho:s.heap.get? a=some (seqObj "list" vs.toArray c)) (h64:vs.length < 64) (O:Ord lt vs.length)
   (hk:∀ h1,zhO a s.heap h1->2<=vs.length->∀ Q:SortKind->Shared->Prop,Q κ { s with heap:=h1 }->wpAny (model prog w) A (keyKind' vs.toArray) Q (λ _ _=>False) { s with heap:=h1 })
   (hlt:∀ h1,zhO a s.heap h1->∀ i j,i < vs.length->j < vs.length->i≠j->∀ Q:Bool->Shared->Prop,Q (lt i j) { s with heap:=h1 }->wpAny (model prog w) A (keyLt' κ (vs.getD i Value.none) (vs.getD j Value.none)) Q (λ _ _=>False) { s with heap:=h1 })
   (h:∀ p h' c',Arr vs.length p->Up lt p vs.length->zhO a s.heap h'->h'.get? a=some (seqObj "list" (picked vs p).toArray c')->P (.done (.ret .none)) { s with heap:=h' }) :
   wpAny (model prog w) A (Builtin.«list.sort» ⟨[.ref a], []⟩) P E s := by
 have big:∀ {k:Nat},k < 64->k<=sizeLine:=λ hk'=>by rw [sizeLine_eq]; omega
 rw [list_sort_plain]
 refine wpAny_bind (listItems_at ho rfl (wpAny_bind (listUpdate_at ho rfl ?_ (by rw [List.size_toArray]; exact big h64) (Nat.zero_le _))))
 have e1:=get?_update_seq ho λ _=>(#[]:Array Value)
 generalize (if ((λ _=>(#[]:Array Value)) vs.toArray).size == vs.toArray.size then c else c+1)=c1 at e1
 generalize hg1:s.heap.update a (Obj.mapSeq λ _=>(#[]:Array Value))=g1 at e1 ⊢
 have k1:zhO a s.heap g1:=λ b o hb q=>by rw [<-hg1,Heap.get?_update_other _ _ (Ne.symm hb)]; exact q
 refine wpAny_bind (seqEpoch_at e1 rfl (wpAny_bind (wpAny_newTuple ?_ (by show vs.toArray.toList.length<=_; exact big (by simpa using h64)))))
 refine wpAny_bind (wpAny_newList (wpAny_holding ?_) (Nat.zero_le _))
 dsimp only
 generalize hg2:(g1.push { cls:=.type "tuple",data:=.seq vs.toArray.toList.toArray }).push { cls:=.type "list",data:=.seq ([]:List Value).toArray }=g2
 have k2:∀ b o,g1.get? b=some o->g2.get? b=some o:=λ b o q=>by rw [<-hg2]; exact Heap.get?_push_of_some _ (Heap.get?_push_of_some _ q)
 have e2:g2.get? a=some (seqObj "list" #[] c1):=k2 _ _ e1
 have kk:zhO a s.heap g2:=λ b o hb q=>k2 b o (k1 b o hb q)
 have fin:∀ (p:Array Nat),Arr vs.length p->Up lt p vs.length->∀ (st:SortSt),(arrOf st).map (·.2)=(picked vs p).toArray->failedOf st=none ->
    wpAny (model prog w) A (do
     let touched:=(<-seqEpoch a) != c1
     Builtin.List.listUpdate (.ref a) λ _=>(arrOf st).map (·.2)
     if let some e:=failedOf st then rule "list.sort.comparison-raised"; throw e
     if touched then rule "list.sort.modified"; raiseError "ValueError" "list modified during sort"
     ret .none) P E { s with heap:=g2 }:=λ p hp hu st es hf=>by
   have lp:(picked vs p).length=vs.length:=by unfold picked; rw [List.length_map,Array.length_toList,hp.size]
   refine wpAny_bind (seqEpoch_at e2 rfl (wpAny_bind (listUpdate_at e2 rfl ?_ (Nat.zero_le _) (by rw [es,List.size_toArray,lp]; exact Nat.le_succ_of_le (big h64)))))
   rw [hf,es]
   simp only [bne_self_eq_false,Bool.false_eq_true,if_false]
   exact wpAny_pure (h p _ _ hp hu (λ b o hb q=>by rw [Heap.get?_update_other _ _ (Ne.symm hb)]; exact kk b o hb q) (get?_update_seq e2 λ _=>(picked vs p).toArray))
 by_cases h2:vs.toArray.size < 2
 . rw [if_pos h2,if_pos h2]
   refine wpAny_bind (wpAny_pure ?_)
   rw [StateT.run_pure]
   refine wpAny_bind (wpAny_pure ?_)
   have hl:vs.length < 2:=by simpa using h2
   refine fin (List.range vs.length).toArray (List.Perm.refl _) (λ i j hij hj=>by omega) (SortSt.mk' general' (vs.toArray.zip vs.toArray) #[] 7 none) ?_ rfl
   show (vs.toArray.zip vs.toArray).map (·.2)=_
   apply Array.toList_inj.mp
   unfold picked
   match vs,hl with
   | [],_=>simp
   | [v],_=>simp
 . rw [if_neg h2,if_neg h2]
   have hl:2<=vs.length:=by simpa using h2
   refine wpAny_bind (wpAny_mono (hk g2 kk hl (λ κ' s'=>κ'=κ/\s'={ s with heap:=g2 }) ⟨rfl,rfl⟩) (λ κ' s' hq=>?_) λ _ _ z=>z.elim)
   obtain ⟨rfl,rfl⟩:=hq
   have ask:(kas_sort vs.length).kasWp (kas_ask prog w A κ' vs) (λ p s'=>s'={ s with heap:=g2 }/\Arr vs.length p/\Up lt p vs.length) { s with heap:=g2 } :=
    wp_run (λ i j C hi hj hne hc=>hlt g2 kk i j hi hj hne C hc) _ _ (znf O (by omega)) ⟨rfl,(zn4 O (by omega)).1,(zn4 O (by omega)).2⟩
   refine wpAny_bind (wpAny_mono (kat_run (vs:=vs) (ks:=vs) (Q:=λ st' s'=>s'={ s with heap:=g2 }/\∃ p,Arr vs.length p/\Up lt p vs.length/\(arrOf st').map (·.2)=(picked vs p).toArray/\failedOf st'=none) rfl hl h64 (λ p st' s' hz har hf hg=>⟨hg.1,p,hg.2.1,hg.2.2,kat_snds rfl har,hf⟩) ask) ?_ λ _ _ z=>z)
   rintro ⟨⟨⟩,st'⟩ s' ⟨rfl,p,hp,hu,es,hf⟩
   exact fin p hp hu st' es hf
end
end S5
end
section
namespace L2
open PySem PySem.Spec PyProof.Rows PySem.W S5
theorem Inv.zrR {X:Cx} {pins:List (Addr×Obj)} {σ:St} {H:Hp} {s:Shared} {a:Addr} {o:HO} (I:Inv X pins σ H s) (f:FpOk X pins H a) (new:zbZ X.prog X.w (upd H a o) s.heap a o):Inv X pins σ (upd H a o) s:=by
 obtain ⟨f0,f1,f2,f3,f4,f5⟩:=f
 have tr:∀ b u,H b=some u->b≠a:=λ b u e z=>by rw [z,f0] at e; cases e
 have J:=I.step (H':=upd H a o) (h':=s.heap) (g':=s.gens) (t':=s.toks) (d':=s.drawn) (ch:=[a]) (λ b hb=>by
  have e:b=a:=by simpa using hb
  subst e
  exact ⟨f3,f1,f4,f5⟩) (λ b u _ _ _ q _=>q) (λ b u _ _ _ q _=>⟨u.slots,q⟩) (λ b u hb q n=>by rw [zae (λ z=>hb (by simp [z]))]; exact n) (λ b u _ q=>⟨u,q⟩)
  (λ b xs q=>by rw [zae (tr b _ q)]; exact q) (λ b u xs q=>by rw [zae (tr b _ q)]; exact q) (λ b ps q=>⟨#[],by rw [zae (tr b _ q),q]; simp⟩) (λ m hm=>hm) (λ b u e=>by
   by_cases hb:b=a
   . subst hb; rw [zab] at e; cases e; exact new
   . rw [zae hb] at e
     exact (I.hok b u e).stay (λ _ _ _ q=>q) (λ c q=>by rw [zae (tr c _ q)]; exact q) λ c xs q=>by rw [zae (tr c _ q)]; exact q) I.bare
 exact J
def kLt:Key->Key->Bool
 | .inl a,.inl b=>decide (a < b)
 | .inr x,.inr y=>decide (x.cps.toList < y.cps.toList)
 | _,_=>false
def zem (ks:List Key):Prop:=(∀ k∈ks,∃ i,k=Sum.inl i)\/∀ k∈ks,∃ x,k=Sum.inr x
theorem zoN:∀ k:Key,kLt k k=false
 | .inl a=>by show decide (a < a)=false; simp
 | .inr x=>by show decide (x.cps.toList < x.cps.toList)=false; simpa using List.lt_irrefl _
theorem zqE:∀ {a b c:Key},kLt a b=true->kLt b c=true->kLt a c=true
 | .inl a,.inl b,.inl c,h1,h2=>by
  have h1':decide (a < b)=true:=h1
  have h2':decide (b < c)=true:=h2
  show decide (a < c)=true
  simp only [decide_eq_true_eq] at *; omega
 | .inr a,.inr b,.inr c,h1,h2=>by
  have h1':decide (a.cps.toList < b.cps.toList)=true:=h1
  have h2':decide (b.cps.toList < c.cps.toList)=true:=h2
  show decide (a.cps.toList < c.cps.toList)=true
  simp only [decide_eq_true_eq] at *; exact List.lt_trans h1' h2'
 | .inl _,.inr _,_,h1,_=>by cases h1
 | .inr _,.inl _,_,h1,_=>by cases h1
 | .inl _,.inl _,.inr _,_,h2=>by cases h2
 | .inr _,.inr _,.inl _,_,h2=>by cases h2
theorem zqZ {x y:Str} (h:x.cps.toList=y.cps.toList):x=y:=by
 obtain ⟨a⟩:=x
 obtain ⟨b⟩:=y
 have:a=b:=Array.toList_inj.mp h
 rw [this]
theorem zoM {ks:List Key} (one:zem ks) {a b:Key} (ha:a∈ks) (hb:b∈ks) (hne:a≠b):kLt a b=true\/kLt b a=true:=by
 rcases one with h | h
 . obtain ⟨i,rfl⟩:=h a ha
   obtain ⟨j,rfl⟩:=h b hb
   have:i≠j:=λ e=>hne (by rw [e])
   show decide (i < j)=true\/decide (j < i)=true
   simp only [decide_eq_true_eq]; omega
 . obtain ⟨x,rfl⟩:=h a ha
   obtain ⟨y,rfl⟩:=h b hb
   show decide (x.cps.toList < y.cps.toList)=true\/decide (y.cps.toList < x.cps.toList)=true
   simp only [decide_eq_true_eq]
   by_cases h1:x.cps.toList < y.cps.toList
   . exact .inl h1
   . by_cases h2:y.cps.toList < x.cps.toList
     . exact .inr h2
     . exact absurd (zqZ (List.le_antisymm (List.not_lt.mp h2) (List.not_lt.mp h1))) (λ e=>hne (by rw [e]))
abbrev atK (ks:List Key) (i:Nat):Key:=ks.getD i (Sum.inl 0)
theorem zjv {ks:List Key} {i:Nat} (h:i < ks.length):ks[i]?=some (atK ks i):=by
 unfold atK; rw [List.getD_eq_getElem?_getD,List.getElem?_eq_getElem h]; rfl
theorem zel {ks:List Key} {i:Nat} (h:i < ks.length):atK ks i∈ks:=List.mem_of_getElem? (zjv h)
theorem ordK {ks:List Key} (nd:ks.Nodup) (one:zem ks):Ord (λ i j=>kLt (atK ks i) (atK ks j)) ks.length :=
 ⟨λ i=>zoN _,λ i j k h1 h2=>zqE h1 h2,λ i j hi hj hne=>zoM one (zel hi) (zel hj) λ e=>hne (by
  have e1:=zjv hi
  have e2:=zjv hj
  rw [e] at e1
  obtain ⟨_,q1⟩:=List.getElem?_eq_some_iff.mp e1
  obtain ⟨_,q2⟩:=List.getElem?_eq_some_iff.mp e2
  exact (List.getElem_inj (h₀:=hi) (h₁:=hj) nd).mp (q1.trans q2.symm))⟩
section
variable {prog:Program} {w:World} {A:Around} {E:Value->Shared->Prop} {s:Shared}
theorem zoE {k l:Key} {u v:Value} {Q:Bool->Shared->Prop} (one:zem [k,l]) (hu:RelV (kV k) u) (hv:RelV (kV l) v) (h:Q (kLt k l) s):wpAny (model prog w) A (oneLt' true u v) Q E s:=by
 rcases one with o | o
 . obtain ⟨i,rfl⟩:=o k (by simp)
   obtain ⟨j,rfl⟩:=o l (by simp)
   obtain ⟨t,rfl⟩:=(show ∃ t,u=Value.int i t from hu)
   obtain ⟨t',rfl⟩:=(show ∃ t,v=Value.int j t from hv)
   exact oneLt_int h
 . obtain ⟨x,rfl⟩:=o k (by simp)
   obtain ⟨y,rfl⟩:=o l (by simp)
   obtain ⟨t,rfl⟩:=(show ∃ t,u=Value.str x t from hu)
   obtain ⟨t',rfl⟩:=(show ∃ t,v=Value.str y t from hv)
   exact oneLt_str h
def kTy:List Key->String
 | .inr _::_ => "str"
 | _ => "int"
theorem ty_keys {ks:List Key} (one:zem ks) {k:Key} (hk:k∈ks) {u:Value} (hu:RelV (kV k) u) (M:Model) (h:Heap):Looks M h (typeOf u) (.type (kTy ks)):=by
 cases ks with
 | nil=>cases hk
 | cons k0 r =>
  rcases one with o | o
  . obtain ⟨i,rfl⟩:=o k hk
    obtain ⟨j,rfl⟩:=o k0 (by simp)
    obtain ⟨t,rfl⟩:=(show ∃ t,u=Value.int i t from hu)
    exact Looks.of_pure rfl
  . obtain ⟨x,rfl⟩:=o k hk
    obtain ⟨y,rfl⟩:=o k0 (by simp)
    obtain ⟨t,rfl⟩:=(show ∃ t,u=Value.str x t from hu)
    exact Looks.of_pure rfl
theorem zmK (ks:List Key):kTy ks = "str" \/ kTy ks = "int" := by
 unfold kTy
 split
 . exact .inl rfl
 . exact .inr rfl
def zjz (h h':Heap):Prop:=∀ b o,h.get? b=some o->h'.get? b=some o
theorem zn3 {a:Addr} {PC:List Value->Heap->Prop} {Q:Value->Shared->Prop}
  (hcol:∀ R:List Value->Shared->Prop,(∀ h' tk vs,zjz s.heap h'->PC vs h'->R vs { s with heap:=h',toks:=tk })->wpAny (model prog w) A.in1 (collect (.ref a)) R E s)
  (h64:∀ vs h',PC vs h'->vs.length < 64)
  (hsort : ∀ h' tk vs, zjz s.heap h' → PC vs h' → wpAny (model prog w) A.in1.in1 (Builtin.«list.sort» ⟨[.ref h'.objs.size], []⟩) (fun fin s' => fin = .done (.ret .none) ∧ Q (.ref h'.objs.size) s') E { s with heap := h'.push { cls := .type "list", data := .seq vs.toArray }, toks := tk }) :
  wpAny (model prog w) A (call (.builtin "sorted") [.ref a]) Q E s:=by
 refine Calls.call_function_entry kind_sorted plain_sorted entry_sorted (args_sorted1 _) ?_
 unfold Builtin.«sorted»
 refine wpAny_bind (m:=checkCount "sorted" 1 1 _) (wpAny_pure (wpAny_bind (hcol _ λ h' tk vs hk hp=>?_)))
 refine wpAny_bind (wpAny_newList ?_ (by have:=h64 vs h' hp; rw [sizeLine_eq]; omega))
 refine wpAny_bind (wpAny_holding (wpAny_call_entry slot_list_sort ⟨_,Heap.get?_push_size _ rfl,rfl⟩ entry_list_sort ?_ (args_list_sort _)))
 refine wpAny_mono (hsort h' tk vs hk hp) (λ fin s' hq=>?_) λ _ _ z=>z
 obtain ⟨rfl,hq⟩:=hq
 exact ⟨_,rfl,wpAny_pure ⟨_,rfl,hq⟩⟩
end
end L2
end
section
namespace L2
open PySem PySem.Spec PyProof.Rows PySem.W S5
theorem Inv.zsH {X:Cx} {pins:List (Addr×Obj)} {σ:St} {H:Hp} {s:Shared} {a:Addr} (I:Inv X pins σ H s) (hb:∀ b o,s.heap.get? b=some o->b < a):FpOk X pins H a:=by
 have nL:X.env.locals < a:=by
   obtain ⟨m,⟨o,_,_,e,_⟩,_⟩:=I.loc
   exact hb _ _ e
 refine ⟨?_,Nat.ne_of_gt nL,λ z=>?_,.inr (Nat.le_trans I.ok.above (Nat.le_of_lt nL)),λ x c e z=>?_,λ p hp z=>?_⟩
 . cases q:H a with
   | none=>rfl
   | some u =>
    obtain ⟨o,e⟩:=(I.hok a u q).there
    exact absurd (hb _ _ e) (Nat.lt_irrefl _)
 . obtain ⟨_,o,e,_⟩:=I.funs.mem z
   exact absurd (hb _ _ e) (Nat.lt_irrefl _)
 . obtain ⟨v,o,e,_⟩:=I.cell x c e
   subst z
   exact absurd (hb _ _ e) (Nat.lt_irrefl _)
 . have e:=(I.pin p hp).1
   rw [z] at e
   exact absurd (hb _ _ e) (Nat.lt_irrefl _)
theorem range_getD {α:Type} (xs:List α) (d:α):(List.range xs.length).map (λ i=>xs.getD i d)=xs:=by
 apply List.ext_getElem
 . simp
 . intro i h1 h2
   simp [h2]
def zg0 {α:Type} (xs:List α) (d:α) (p:Array Nat):List α:=p.toList.map λ i=>xs.getD i d
theorem zfi {α:Type} (xs:List α) (d:α) {p:Array Nat} (h:Arr xs.length p):(zg0 xs d p).Perm xs:=by
 have q:=List.Perm.map (λ i=>xs.getD i d) h
 rw [range_getD] at q
 exact q
theorem zj5 {α:Type} (xs:List α) (d:α) {lt:α->α->Bool} {p:Array Nat} (h:Arr xs.length p) (u:Up (λ i j=>lt (xs.getD i d) (xs.getD j d)) p xs.length):(zg0 xs d p).Pairwise (λ a b=>lt a b=true):=by
 unfold zg0
 rw [List.pairwise_map,List.pairwise_iff_getElem]
 intro i j hi hj hij
 have hs:=h.size
 have hj':j < xs.length:=by rw [Array.length_toList] at hj; omega
 have q:=u i j hij hj'
 have e:∀ k (hk:k < p.toList.length),p.getD k 0=p.toList[k]:=λ k hk=>by
  rw [Array.getD_eq_getD_getElem?,Array.getElem?_eq_getElem (by rw [Array.length_toList] at hk; exact hk)]; simp
 rw [e i hi,e j hj] at q
 exact q
theorem zjF {xs:List V} {vs:List Value} (r:Vals xs vs) {p:Array Nat} (h:Arr xs.length p):Vals (zg0 xs .non p) (picked vs p):=by
 have key:∀ l:List Nat,(∀ i∈l,i < xs.length)->Vals (l.map λ i=>xs.getD i .non) (l.map λ i=>vs.getD i Value.none):=λ l=>by
  induction l with
  | nil=>intro _; exact .nil
  | cons i t ih =>
   intro hl
   have hi:i < xs.length:=hl i (by simp)
   obtain ⟨u,e1,e2⟩:=r.get (List.getElem?_eq_getElem hi)
   refine .cons ?_ (ih λ j hj=>hl j (List.mem_cons_of_mem _ hj))
   show RelV (xs.getD i V.non) (vs.getD i Value.none)
   rw [List.getD_eq_getElem?_getD,List.getElem?_eq_getElem hi,List.getD_eq_getElem?_getD,e1]
   exact e2
 exact key p.toList λ i hi=>List.mem_range.mp (h.mem_iff.mp hi)
theorem zmu {α:Type} (f:α->V) (xs:List α) (d:α) {p:Array Nat} (h:Arr xs.length p):zg0 (xs.map f) .non p=(zg0 xs d p).map f:=by
 unfold zg0
 rw [List.map_map]
 refine List.map_congr_left λ i hi=>?_
 have hi':i < xs.length:=List.mem_range.mp (h.mem_iff.mp hi)
 show (xs.map f).getD i .non=f (xs.getD i d)
 rw [List.getD_eq_getElem?_getD,List.getD_eq_getElem?_getD,List.getElem?_map,List.getElem?_eq_getElem hi']
 rfl
def KSrc (K:Frag) (H:Hp) (p:Addr) (ks:List Key):Prop:=SqL K H p (ks.map kV)\/∃ kvs:List (Key×V),H p=some (.dK kvs)/\kvs.map (·.1)=ks
theorem zet {ks:List Key} {vs:List Value} (r:Vals (ks.map kV) vs) {i:Nat} (hi:i < ks.length):RelV (kV (atK ks i)) (vs.getD i Value.none):=by
 have e:(ks.map kV)[i]?=some (kV (atK ks i)):=by rw [List.getElem?_map,zjv hi]; rfl
 obtain ⟨u,e1,e2⟩:=r.get e
 rw [List.getD_eq_getElem?_getD,e1]
 exact e2
theorem zos {ks:List Key} (one:zem ks) {a b:Key} (ha:a∈ks) (hb:b∈ks):zem [a,b]:=by
 rcases one with o | o
 . exact .inl λ k hk=>by
    rcases List.mem_cons.mp hk with z | z
    . rw [z]; exact o a ha
    . have:k=b:=by simpa using z
      rw [this]; exact o b hb
 . exact .inr λ k hk=>by
    rcases List.mem_cons.mp hk with z | z
    . rw [z]; exact o a ha
    . have:k=b:=by simpa using z
      rw [this]; exact o b hb
section
variable {X:Cx}
theorem zgt (hc:X.calm=true):zid X (.builtin "sorted") (λ xs H Q=>∃ p ks,xs=[.ref p]/\KSrc X.K H p ks/\ks.Nodup/\zem ks/\ks.length < 64 /\
   ∀ (ys:List Key) (l:Addr),ys.Perm ks->ys.Pairwise (λ a b=>kLt a b=true)->H l=none->Q (.ref l) (upd H l (.lst (ys.map kV)))):=by
 intro pins s σ H xs us Q I r h
 obtain ⟨p,ks,rfl,src,nd,one,h64,h⟩:=h
 obtain ⟨u,rfl,ru⟩:=Vals.one r
 cases ru
 refine zn3 (PC:=λ vs _=>Vals (ks.map kV) vs) (λ R hR=>?_) (λ vs _ hv=>by rw [<-hv.length,List.length_map]; exact h64) (λ h' tk vs hk hv=>?_)
 . rcases src with hq | ⟨kvs,hd,hks⟩
   . obtain ⟨its,rv,pl,hz⟩:=I.list hq
     refine collect_list pl.isList (hR _ s.toks its (λ b o e=>?_) rv) (by rw [<-rv.length]; exact hz)
     have hb:=Heap.lt_size e
     rw [Heap.get?_update_other _ _ (Nat.ne_of_gt hb)]
     exact Heap.get?_push_of_some _ e
   . obtain ⟨z,lo,vs,rel,dd⟩:=zkL I.hok hd
     obtain ⟨ep,hat⟩:=dd.dictAt
     refine kdu_collect (A:=X.A.in1) (kdl_dict (knd:=zaM X.prog X.w) (kvs:=vs) (ep:=ep) lo) (I.ok.hd hc) hat (by rw [<-rel.length]; exact z) λ h' tk acc hk hacc=>hR h' tk acc.toList hk ?_
     have hl:acc.toList.length=ks.length:=by rw [Array.length_toList,hacc.1,<-rel.length,<-hks,List.length_map]
     have key:∀ (l1:List Key) (l2:List Value) (off:Nat),l2.length=l1.length->(∀ j v,l2[j]?=some v->∃ k,l1[j]?=some k/\RelV (kV k) v)->Vals (l1.map kV) l2:=λ l1=>by
       induction l1 with
       | nil=>intro l2 _ hl2 _; cases l2 with
         | nil=>exact .nil
         | cons _ _=>simp at hl2
       | cons k t ih =>
         intro l2 off hl2 hj
         cases l2 with
         | nil=>simp at hl2
         | cons v t2 =>
          obtain ⟨k',e1,e2⟩:=hj 0 v rfl
          have:k=k':=Option.some.inj e1
          subst this
          exact .cons e2 (ih t2 off (by simpa using hl2) λ j w hw=>hj (j+1) w (by simpa using hw))
     refine key ks acc.toList 0 hl λ j v hj=>?_
     obtain ⟨k,x,e1,e2⟩:=hacc.2 j v (by rw [<-Array.getElem?_toList]; exact hj)
     refine ⟨k,?_,?_⟩
     . rw [<-hks,KV.keys rel,List.getElem?_map,e1]; rfl
     . rcases zaY (show zh3 k v=true from e2) with ⟨i,t,rfl,rfl⟩ | ⟨x',t,rfl,rfl⟩
       . exact ⟨t,rfl⟩
       . exact ⟨t,rfl⟩
 . have hl:vs.length=ks.length:=by rw [<-hv.length,List.length_map]
   have O:=ordK nd one
   rw [<-hl] at O
   refine zn5 (s:={ s with heap:=h'.push { cls:=.type "list",data:=.seq vs.toArray },toks:=tk }) (κ:=oneType') (c:=0) (Heap.get?_push_size _ rfl) (by rw [hl]; exact h64) O (λ h1 _ h2 Qk hq=>?_) (λ h1 _ i j hi hj hne Qb hq=>?_) (λ q h3 c' hp hu hkb hg=>⟨rfl,?_⟩)
   . refine kas_kind (T:=.type (kTy ks)) h2 (λ v hvm=>?_) ?_ ?_ hq
     . obtain ⟨i,hi⟩:=List.mem_iff_getElem?.mp hvm
       have hi':i < ks.length:=by rw [<-hl]; exact (List.getElem?_eq_some_iff.mp hi).1
       have:=zet hv hi'
       rw [List.getD_eq_getElem?_getD,hi] at this
       exact ty_keys one (zel hi') this _ _
     . rcases zmK ks with z | z <;> rw [z] <;> decide
     . rcases zmK ks with z | z <;> rw [z] <;> decide
   . rw [keyLt'_oneType]
     rw [hl] at hi hj
     exact zoE (zos one (zel hi) (zel hj)) (zet hv hi) (zet hv hj) hq
   . rw [hl] at hp hu
     have keepAll:∀ b o,s.heap.get? b=some o->h3.get? b=some o:=λ b o e=>hkb b o (Nat.ne_of_lt (Heap.lt_size (hk b o e))) (Heap.get?_push_of_some _ (hk b o e))
     have I1:Inv X pins σ H { s with heap:=h3,toks:=tk }:=I.kept keepAll
     have fp:=I.zsH (a:=h'.objs.size) λ b o e=>Heap.lt_size (hk b o e)
     have vp:=zjF hv (p:=q) (by rw [List.length_map]; exact hp)
     rw [zmu kV ks (Sum.inl 0) hp] at vp
     have lp:(zg0 ks (Sum.inl 0) q).length=ks.length:=(zfi ks (Sum.inl 0) hp).length_eq
     refine ⟨.ref h'.objs.size,upd H h'.objs.size (.lst ((zg0 ks (Sum.inl 0) q).map kV)),?_,rfl,h _ _ (zfi ks _ hp) (zj5 ks _ hp hu) fp.1⟩
     have f2:FpOk X pins H h'.objs.size:=fp
     exact I1.zrR f2 ⟨by rw [List.length_map,lp,sizeLine_eq]; omega,picked vs q,c',vp,hg⟩
end
end L2
end
section
namespace L2
open PySem PySem.Spec PySem.W PyProof.Rows S5
section
variable {X:Cx} {x:Str} {pos:Pos}
theorem zcF {y:Str} (hg:Gl X x) (hm:∃ t,X.mg x=some (.str y t)) (hd:(x == ("__debug__" : Str))=false:=by decide):PE X (.Name x pos) (tC (.str y)):=by
 obtain ⟨t,e⟩:=hm
 exact zol hg e ⟨t,rfl⟩ hd
theorem ztb {i:Int} (hg:Gl X x) (hm:∃ t,X.mg x=some (.int i t)) (hd:(x == ("__debug__" : Str))=false:=by decide):PE X (.Name x pos) (tC (.int i)):=by
 obtain ⟨t,e⟩:=hm
 exact zol hg e ⟨t,rfl⟩ hd
end
mutual
inductive DV (H:Hp):V->Dat->Prop
 | non:DV H .non .none
 | int (i:Int):DV H (.int i) (.int i)
 | str (x:Str):DV H (.str x) (.str x)
 | tup {p:Addr} {vs:List V} {ds:List Dat}:H p=some (.tup vs)->DVs H vs ds->DV H (.ref p) (.tuple ds)
 | lst {p:Addr} {vs:List V} {ds:List Dat}:H p=some (.lst vs)->DVs H vs ds->DV H (.ref p) (.list ds)
inductive DVs (H:Hp):List V->List Dat->Prop
 | nil:DVs H [] []
 | cons {v:V} {vs:List V} {d:Dat} {ds:List Dat}:DV H v d->DVs H vs ds->DVs H (v::vs) (d::ds)
end
section
variable {P:Program} {w:World} {H:Hp} {h:Heap}
mutual
theorem DV.reads (hok:HOk P w H h):∀ {v:V} {d:Dat} {u:Value},DV H v d->RelV v u->∃ as,Reads h u (kqdP d) as
 | _,_,_,.non,r=>by cases r; exact ⟨_,.none⟩
 | _,_,_,.int i,r=>by obtain ⟨t,rfl⟩:=r; exact ⟨_,.int i t⟩
 | _,_,_,.str x,r=>by obtain ⟨t,rfl⟩:=r; exact ⟨_,.str x t⟩
 | _,_,_,.tup e q,r=>by
  cases r
  obtain ⟨_,its,rv,o,ho,hc,n,hd⟩:=hok _ _ e
  obtain ⟨as,ra⟩:=DVs.reads hok q rv
  rw [kqdP]
  exact ⟨_,.tuple ho hc hd (by simpa using ra)⟩
 | _,_,_,.lst e q,r=>by
  cases r
  obtain ⟨_,its,n,rv,ho⟩:=hok _ _ e
  obtain ⟨as,ra⟩:=DVs.reads hok q rv
  rw [kqdP]
  exact ⟨_,.list ho rfl rfl (by simpa using ra)⟩
theorem DVs.reads (hok:HOk P w H h):∀ {vs:List V} {ds:List Dat} {us:List Value},DVs H vs ds->Vals vs us->∃ as,ReadsAll h us (kqdPs ds) as
 | _,_,_,.nil,r=>by cases r; exact ⟨_,.nil⟩
 | _,_,_,.cons a b,r=>by
  cases r with
  | cons r1 r2 =>
   obtain ⟨as,q⟩:=DV.reads hok a r1
   obtain ⟨bs,q'⟩:=DVs.reads hok b r2
   rw [kqdPs]
   exact ⟨_,.cons q q'⟩
end
theorem DVs.length {H:Hp}:∀ {vs:List V} {ds:List Dat},DVs H vs ds->vs.length=ds.length
 | _,_,.nil=>rfl
 | _,_,.cons _ r=>congrArg (·+1) (DVs.length r)
end
abbrev zgs (d:Dat):Prop:=kqdOk 8 d=true
open Classical in
theorem zpf {d e:Dat} (hd:zgs d) (he:zgs e):PyData.eqv (kqdP d) (kqdP e)=decide (d=e):=by
 have q:=kqd_eqv 8 d e 8 hd he
 by_cases h:d=e
 . rw [decide_eq_true h]; exact q.mpr h
 . rw [decide_eq_false h]; exact Bool.eq_false_iff.mpr λ z=>h (q.mp z)
theorem ziC {d:Dat} (hd:zgs d):SeqAt.shaped (kqdP d)=true:=by
 have l:=kqd_lay 8 d hd
 unfold SeqAt.shaped; rw [l.1,Bool.true_and]; exact decide_eq_true (Nat.le_trans l.2 (by decide))
section
variable {X:Cx}
open Classical in
open Classical in
noncomputable def rNeD:R2:=λ x y H Q=>∃ d e,DV H x d/\DV H y e/\zgs d/\zgs e/\Q (.bl (!decide (d=e))) H
theorem zor (hu:X.A.units+64 < cLine):OpR X (compareOp .NotEq) rNeD:=by
 intro pins s σ H x y v u Q I rx ry h
 obtain ⟨d,e,hd,he,kd,ke,q⟩:=h
 obtain ⟨as,ra⟩:=hd.reads I.hok rx
 obtain ⟨bs,rb⟩:=he.reads I.hok ry
 exact ne_dataH ra rb (ziC kd) (ziC ke) hu (by rw [zpf kd ke]; exact ⟨.bl _,H,I,rfl,q⟩)
theorem hu64 {A:Around} {k:Nat} (hr:Room k A):A.units+64 < cLine:=hr.units
end
end L2
end
section
namespace L2
open PySem PySem.Spec PySem.W PyProof.Rows S5
section
variable {X:Cx}
theorem zdC:zid X (.builtin "isinstance") (λ xs H Q=>∃ x c t b,xs=[x,.ty c]/\TyOf X.K H x t/\kitOne X.K t (.type c)=some b/\Q (.bl b) H):=by
 intro pins s σ H xs us Q I r h
 obtain ⟨x,c,t,b,rfl,ty,e,q⟩:=h
 obtain ⟨u,v,rfl,ru,rv⟩:=Vals.two r
 cases rv
 exact zoP I ru ty e λ tk=>⟨.bl b,H,I.tok tk,rfl,q⟩
def zpI:V->List V->Hp->VK->Prop:=λ x vs H Q=>∃ l xs y,x=.ref l/\vs=[.int 0,y]/\H l=some (.lst xs)/\xs.length < sizeLine/\Q .non (upd H l (.lst (y::xs)))
theorem zoA:MtR X "list.insert" zpI:=by
 intro pins s σ H x vs v us Q I rx rv h
 obtain ⟨l,xs,y,rfl,rfl,hH,hz,q⟩:=h
 cases rx
 obtain ⟨u1,u,rfl,r1,ru⟩:=Vals.two rv
 obtain ⟨t,rfl⟩:=r1
 obtain ⟨z,its,n,r,hl,e⟩:=I.lstM hH
 refine call_meets F.slot_list_insert ⟨_,e,rfl⟩ F.entry_list_insert (F.args_list_insert_3 _ _ _) (AutoSeq1.list_insert_list_int_val_1 l its.toArray n 0 t u (by decide) (by rw [List.size_toArray]; omega)) ⟨e,?_⟩
 refine ⟨.non,_,I.lset (its':=u::its) hH e ?_ (.cons ru r) ?_,rfl,q⟩
 . simp
 . rw [List.length_cons]; omega
def zrN (ds:List Dat) (e:Dat) (j:Nat):Prop:=ds[j]?=some e/\∀ m < j,∀ d,ds[m]?=some d->d≠e
def zsm:V->List V->Hp->VK->Prop:=λ x vs H Q=>∃ l xs y ds e j,x=.ref l/\vs=[y]/\H l=some (.lst xs)/\DVs H xs ds/\DV H y e/\(∀ d∈ds,kqdOk 7 d=true)/\kqdOk 7 e=true/\zrN ds e j/\Q (.int j) H
theorem zo7 {H:Hp}:∀ {vs:List V} {ds:List Dat} {j:Nat} {d:Dat},DVs H vs ds->ds[j]?=some d->∃ v,vs[j]?=some v/\DV H v d
 | _,_,_,_,.nil,e=>by simp at e
 | _,_,0,_,.cons a _,e=>by simp at e; subst e; exact ⟨_,rfl,a⟩
 | _,_,j+1,_,.cons _ r,e=>by
  obtain ⟨v,h1,h2⟩:=zo7 (j:=j) r (by simpa using e)
  exact ⟨v,by simpa using h1,h2⟩
theorem zc1 {d:Dat} (h:kqdOk 7 d=true):kqdOk 8 d=true:=by
 have all:∀ n d,kqdOk n d=true->kqdOk (n+1) d=true:=λ n=>by
  induction n with
  | zero=>intro d h; cases d <;> simp_all [kqdOk]
  | succ n ih =>
   intro d h
   cases d with
   | tuple ds=>simp only [kqdOk,List.all_eq_true] at h ⊢; exact λ x hx=>ih x (h x hx)
   | list ds=>simp only [kqdOk,List.all_eq_true] at h ⊢; exact λ x hx=>ih x (h x hx)
   | _=>simp_all [kqdOk]
 exact all 7 d h
theorem zpW (hu:X.A.units+64 < cLine):MtR X "list.index" zsm:=by
 intro pins s σ H x vs v us Q I rx rv h
 obtain ⟨l,xs,y,ds,e,j,rfl,rfl,hH,hds,he,kds,ke,⟨hj,hno⟩,q⟩:=h
 cases rx
 obtain ⟨u,rfl,ru⟩:=Vals.one rv
 obtain ⟨z,its,n,r,hl,eo⟩:=I.lstM hH
 obtain ⟨as,ra⟩:=hds.reads I.hok r
 obtain ⟨bs,rb⟩:=he.reads I.hok ru
 have lay:=kqd_lay 8 (.list ds) (by simp only [kqdOk,List.all_eq_true]; exact kds)
 rw [kqdP] at lay
 have lays:PyData.canLayAll0 (kqdPs ds)=true:=by
   have:=lay.1
   simpa [PyData.canLay0] using this
 have dep:PyData.depthAll (kqdPs ds)<=8:=by
   have:=lay.2
   simp only [PyData.depth] at this
   omega
 have laye:=kqd_lay 8 e (zc1 ke)
 have jl:j < its.length:=by
   have:=(List.getElem?_eq_some_iff.mp hj).1
   have h2:=hds.length
   omega
 have eqs:∀ (y':Value) (hy:y'∈its.toArray) (A':Around),A'.units<=X.A.units+40->SeqAt.EqAt A'.in1 s y' u (PyData.eqv (SeqAt.readOf s.heap y') (kqdP e)):=λ y' hy A' hA =>
   SeqAt.items_eqAt (by simpa using ra) rb lays laye.1 (by have:=Nat.min_le_right (PyData.depthAll (kqdPs ds)) (kqdP e).depth; omega) y' hy
 have at_:∀ (m:Nat) (hm:m < its.length) (d:Dat),ds[m]?=some d->SeqAt.readOf s.heap its[m]=kqdP d:=λ m hm d hd=>by
   obtain ⟨vm,h1,h2⟩:=zo7 hds hd
   obtain ⟨um,h3,h4⟩:=r.get h1
   have:its[m]=um:=by
    rw [List.getElem?_eq_getElem hm] at h3
    exact Option.some.inj h3
   obtain ⟨cs,rc⟩:=h2.reads I.hok h4
   rw [this]
   exact SeqAt.readOf_eq (kqd_lay 8 d (zc1 (kds d (List.mem_of_getElem? hd)))).1 rc
 refine call_meets F.slot_list_index ⟨_,eo,rfl⟩ F.entry_list_index (F.args_list_index_2 _ _)
   (SeqAt.list_indexAt l its.toArray n none #[] u (λ y'=>PyData.eqv (SeqAt.readOf s.heap y') (kqdP e)) j (by simpa using jl) ?_ ?_ ?_) ⟨eo,λ y' hy=>eqs y' hy _ (by first | exact Nat.le_add_right _ _ | omega),⟨.int j,H,I.tok _,⟨_,rfl⟩,q⟩⟩
 . have:=z
   rw [hl,sizeLine_eq] at this
   omega
 . show PyData.eqv (SeqAt.readOf s.heap its[j]) (kqdP e)=true
   rw [at_ j jl e hj]
   exact (kqd_eqv 8 e e 8 (zc1 ke) (zc1 ke)).mpr rfl
 . intro m hm hmj
   have hm':m < its.length:=by simpa using hm
   have hmd:m < ds.length:=by have h2:=hds.length; omega
   show PyData.eqv (SeqAt.readOf s.heap its[m]) (kqdP e)=false
   rw [at_ m hm' ds[m] (List.getElem?_eq_getElem hmd)]
   refine Bool.eq_false_iff.mpr λ z=>hno m hmj ds[m] (List.getElem?_eq_getElem hmd) ((kqd_eqv 8 _ e 8 (zc1 (kds _ (List.getElem_mem hmd))) (zc1 ke)).mp z)
end
end L2
end
section
namespace L2
open PySem PySem.Spec PySem.W PyProof.Rows S5
def zrW (td ty tx:TE):TE:=λ σ H Q=>td σ H λ x H1=>∃ a,x=.ref a/\IsD H1 a/\ty σ H1 λ y H2=>tx σ H2 λ z H3=>∃ kvs k,H3 a=some (.dK kvs)/\y=kV k/\kvs.length < sizeLine /\
 (∀ v,valV kvs k=some v->Q v H3)/\(valV kvs k=none->Q z (upd H3 a (.dK (putK kvs k z))))
section
variable {X:Cx} {o e f:Expr} {apos cpos:Pos} {td ty tx:TE}
theorem zpP (ho:PE X o td) (he:PE X e ty) (hf:PE X f tx) (m:M2 X o "setdefault" apos e f cpos):PE X (.Call (.Attribute o "setdefault" apos) [e,f] [] cpos) (zrW td ty tx):=by
 intro pins s σ H Q I h
 refine wpAny_Call_method m.base m.few m.line PySem.F.plainAttrs_dict PySem.F.slot_dict_setdefault PySem.F.type_dict_setdefault (thn (ho pins s σ H _ I h) λ u s1 ⟨x,H1,I1,rx,a,ex,d,q1⟩=>?_)
 subst ex
 obtain rfl:u=Value.ref a:=rx
 obtain ⟨t1,t2,_⟩:=zmN I1 d
 refine ⟨t1,t2,?_⟩
 rw [m.trees]
 refine Calls.callWith_builtin rfl (Calls.evalArgs_plain (Calls.spliced_cons (thn (he pins s1 σ H1 _ I1 q1) λ iv s2 ⟨y,H2,I2,ry,q2⟩ =>
   Calls.spliced_cons (thn (hf pins s2 σ H2 _ I2 q2) λ fv s3 ⟨z,H3,I3,rz,kvs,k,ea,ey,hl,q3,q4⟩=>Calls.spliced_nil ?_))))
 subst ey
 obtain ⟨hz,hd,vs,rel,dd⟩:=zkL I3.hok ea
 refine call_meetsIn PySem.F.slot_dict_setdefault dd.typeIs PySem.F.entry_dict_setdefault (PySem.F.args_dict_setdefault_3 _ _ _) (kt_meets_setdefault (zaM X.prog X.w) a (zho ry) hd fv) ⟨vs,dd,by rw [<-rel.length]; exact hz,λ v' hv=>?_,λ hn h' dd' hs=>?_⟩
 . cases l:valV kvs k with
   | none =>
    have:=RelO.none_of (o:=valueAt vs k) (by rw [<-l]; exact rel.val k)
    rw [this] at hv; cases hv
   | some v =>
    obtain ⟨w',hw,rw'⟩:=RelO.some_of (v:=v) (o:=valueAt vs k) (by rw [<-l]; exact rel.val k)
    rw [hw] at hv; cases hv
    exact ⟨v,H3,I3.tok _,rw',q3 v l⟩
 . have l:valV kvs k=none:=by
    cases l:valV kvs k with
    | none=>rfl
    | some v =>
     obtain ⟨w',hw,_⟩:=RelO.some_of (v:=v) (o:=valueAt vs k) (by rw [<-l]; exact rel.val k)
     rw [hw] at hn; cases hn
   have hl2:(putK kvs k z).length<=sizeLine:=by have:=ze3 kvs k z; omega
   have he2:∃ q,h'.get? a=some q:=let ⟨q,_,_,hq,_⟩:=dd'; ⟨q,hq⟩
   exact ⟨z,_,zhy I3 (by rw [ea]; exact True.intro) hs he2 (zmV hl2 hd (rel.put k rz) dd'),rz,q4 l⟩
end
section
variable {X:Cx}
def rJoin:V->List V->Hp->VK->Prop:=λ x vs H Q=>∃ sep l ys,x=.str sep/\vs=[.ref l]/\H l=some (.lst (ys.map V.str))/\(ys.map (·.length)).sum+ys.length * sep.length<=16777216/\Q (.str (Txt.join sep ys)) H
theorem zml:∀ {ys:List Str} {us:List Value},Vals (ys.map V.str) us->StrsAre us ys
 | [],_,.nil=>.nil
 | y::r,_,.cons q t=>by obtain ⟨k,rfl⟩:=q; exact .cons y k (zml t)
theorem zoz:MtR X "str.join" rJoin:=by
 intro pins s σ H x vs v us Q I rx rv h
 obtain ⟨sep,l,ys,rfl,rfl,hH,hok,q⟩:=h
 obtain ⟨t,rfl⟩:=rx
 obtain ⟨u,rfl,ru⟩:=Vals.one rv
 cases ru
 obtain ⟨z,its,n,r,hl,e⟩:=I.lstM hH
 exact join_list ⟨_,e,rfl,n,rfl⟩ (by simpa using zml r) hok λ t' k=>⟨.str _,H,I.tok _,⟨_,rfl⟩,q⟩
end
section
variable {X:Cx} {pins:List (Addr×Obj)} {σ:St} {H:Hp} {s:Shared} {a:Addr} {kvs:List (Key×V)} {o:Obj}
theorem zqH {P:Program} {w:World} {H:Hp} {h:Heap} {a:Addr} {u v:HO} (ok:HOk P w H h) (e:H a=some v) (nt:∀ xs,v≠.tup xs) (no:∀ y,v≠.own y) (new:zbZ P w (upd H a u) h a u):HOk P w (upd H a u) h:=λ b x q=>by
 by_cases hb:b=a
 . subst hb; rw [zab] at q; cases q; exact new
 . rw [zae hb] at q
   refine (ok b x q).stay (λ _ _ _ z=>z) (λ c z=>?_) λ c xs z=>?_
   . rw [zae λ k=>by rw [k,e] at z; cases z; exact no _ rfl]; exact z
   . rw [zae λ k=>by rw [k,e] at z; cases z; exact nt _ rfl]; exact z
theorem Inv.freeze (I:Inv X pins σ H s) (e:H a=some (.dK kvs)):∃ o,s.heap.get? a=some o/\Inv X pins σ (upd H a (.frz o (.dK kvs))) s:=by
 obtain ⟨hz,hd,vs,rel,ob,es,ep,ho,r⟩:=I.hok a _ e
 have ne:∀ b,H b=none->b≠a:=λ b z k=>by rw [k,e] at z; cases z
 refine ⟨ob,ho,I.ok,I.os,I.bare,⟨I.base.keep,I.base.slot,λ b o h1 h2 h3=>?_,I.base.there,λ b xs h1=>?_,λ b o u h1=>?_,λ b ps h1=>?_⟩,I.loc,I.cell,?_,λ x c h1=>?_,λ p hp=>?_,?_,I.len⟩
 . have z:=I.base.free b o h1 h2 h3
   rw [zae (ne b z)]; exact z
 . have z:=I.base.tups b xs h1
   rw [zae λ k=>by rw [k,e] at z; cases z]; exact z
 . have z:=I.base.frzs b o u h1
   rw [zae λ k=>by rw [k,e] at z; cases z]; exact z
 . obtain ⟨more,z⟩:=I.base.tbls b ps h1
   exact ⟨more,by rw [zae λ k=>by rw [k,e] at z; cases z]; exact z⟩
 . rw [zae (ne _ I.free)]; exact I.free
 . have z:=I.zdT x c h1
   rw [zae (ne _ z)]; exact z
 . obtain ⟨h1,h2,h3⟩:=I.pin p hp
   exact ⟨h1,by rw [zae (ne _ h2)]; exact h2,h3⟩
 . exact zqH I.hok e (λ _ z=>nomatch z) (λ _ z=>nomatch z) ⟨ho,hz,hd,vs,rel,ob,es,ep,ho,r⟩
theorem Inv.thaw (I:Inv X pins σ H s) (e:H a=some (.frz o (.dK kvs))) (h0:∀ ob u,X.H₀ a≠some (.frz ob u)):Inv X pins σ (upd H a (.dK kvs)) s:=by
 obtain ⟨ho,dk⟩:=I.hok a _ e
 have ne:∀ b,H b=none->b≠a:=λ b z k=>by rw [k,e] at z; cases z
 refine ⟨I.ok,I.os,I.bare,⟨I.base.keep,I.base.slot,λ b o h1 h2 h3=>?_,I.base.there,λ b xs h1=>?_,λ b o u h1=>?_,λ b ps h1=>?_⟩,I.loc,I.cell,?_,λ x c h1=>?_,λ p hp=>?_,?_,I.len⟩
 . have z:=I.base.free b o h1 h2 h3
   rw [zae (ne b z)]; exact z
 . have z:=I.base.tups b xs h1
   rw [zae λ k=>by rw [k,e] at z; cases z]; exact z
 . have z:=I.base.frzs b o u h1
   rw [zae λ k=>by rw [k] at h1; exact h0 _ _ h1]; exact z
 . obtain ⟨more,z⟩:=I.base.tbls b ps h1
   exact ⟨more,by rw [zae λ k=>by rw [k,e] at z; cases z]; exact z⟩
 . rw [zae (ne _ I.free)]; exact I.free
 . have z:=I.zdT x c h1
   rw [zae (ne _ z)]; exact z
 . obtain ⟨h1,h2,h3⟩:=I.pin p hp
   exact ⟨h1,by rw [zae (ne _ h2)]; exact h2,h3⟩
 . refine zqH I.hok e (λ _ z=>nomatch z) (λ _ z=>nomatch z) ?_
   obtain ⟨hz,hd,vs,rel,r⟩:=dk
   exact ⟨hz,hd,vs,rel,r⟩
theorem Inv.zsw (I:Inv X pins σ H s) (e:H a=some (.dK kvs)):∀ ob u,X.H₀ a≠some (.frz ob u):=λ ob u z=>by
 have:=I.base.frzs a ob u z
 rw [e] at this; cases this
end
def Itk (a:Addr) (o:Obj) (kvs:List (Key×V)):It :=
 ⟨λ i H=>i < kvs.length/\H a=some (.frz o (.dK kvs)),λ i H x H'=>H'=H/\∃ k v,kvs[i]?=some (k,v)/\x=kV k,λ i H=>kvs.length<=i/\H a=some (.frz o (.dK kvs))⟩
def epOf (o:Obj):Nat:=match o.data with | .dict _ ep=>ep | _=>0
theorem zlM {P:Program} {w:World} {H:Hp} {h:Heap} {a:Addr} {o:Obj} {kvs:List (Key×V)} (ok:HOk P w H h) (e:H a=some (.frz o (.dK kvs))):(a == sysModules)=false/\∃ vs,KV kvs vs/\h.DictAt (zaM P w) a vs (epOf o)/\vs.length=kvs.length:=by
 obtain ⟨ho,hz,hd,vs,rel,ob,es,ep,ho',hx,hdt,r⟩:=ok a _ e
 rw [ho] at ho'; cases ho'
 have:epOf o=ep:=by unfold epOf; rw [hdt]
 exact ⟨hd,vs,rel,⟨o,es,ho,hx,by rw [this]; exact hdt,r⟩,rel.length.symm⟩
theorem znU {P:Program} {w:World} {K:PySem.W.Frag} {tg:Expr} (a it:Addr) (o:Obj) (kvs:List (Key×V)):Turn P w K tg (Itk a o kvs) [it] it (λ i h=>h.IsKeyIter it a i kvs.length (epOf o)) where
 mem:=by simp
 obj:=λ i h st b hb=>by
  have e:b=it:=by simpa using hb
  subst e
  obtain ⟨ob,e,c,d⟩:=st
  exact ⟨ob,e,λ v z=>by rw [d] at z; cases z⟩
 keep:=λ i h h' st k=>st.at λ ob e=>k it (by simp) ob e
 item:=by
  intro X hP hw hK hc i pins s σ H E I hf st hg
  subst hP hw hK
  obtain ⟨hlt,hH⟩:=hg
  obtain ⟨lo,vs,rel,dat,hl⟩:=zlM I.hok hH
  obtain ⟨f0,f1,f2,f3,f4,f5⟩:=hf it (by simp)
  obtain ⟨⟨k,x⟩,hx⟩:∃ q,vs[i]?=some q:=⟨_,List.getElem?_eq_getElem (by omega)⟩
  rw [<-hl] at st
  refine wpAny_pyNext_dict_item st dat hx λ key h' hkey st' sb=>?_
  have I1:Inv X pins σ H { s with heap:=h' }:=I.turned (t':=s.toks) (λ b ob hb e=>(sb.2 b hb).trans e) f0 f1 f3 f4 f5
  obtain ⟨ob,e1,c1,d1⟩:=id st'
  obtain ⟨⟨k',v⟩,hkv⟩:∃ q,kvs[i]?=some q:=⟨_,List.getElem?_eq_getElem hlt⟩
  have hk:k'=k:=by
    have e2:=congrArg (λ l=>l[i]?) (KV.keys rel)
    simp only [List.getElem?_map,hkv,hx] at e2
    exact Option.some.inj e2
  subst hk
  rw [hl] at st'
  refine ⟨key,rfl,zoW (s:={ s with heap:=h' }) e1 c1 d1 (by decide) ⟨kV k',H,I1,?_,⟨rfl,k',v,hkv,rfl⟩,st',λ b hb=>(hf b hb).1⟩⟩
  rcases zaY (show zh3 k' key=true from hkey) with ⟨n,t,rfl,rfl⟩ | ⟨y,t,rfl,rfl⟩
  . exact ⟨t,rfl⟩
  . exact ⟨t,rfl⟩
 done:=by
  intro X hP hw hK hc i pins s σ H E I hf st hg
  subst hP hw hK
  obtain ⟨hle,hH⟩:=hg
  obtain ⟨lo,vs,rel,dat,hl⟩:=zlM I.hok hH
  obtain ⟨f0,f1,f2,f3,f4,f5⟩:=hf it (by simp)
  rw [<-hl] at st
  exact wpAny_pyNext_dict_end (I.ok.hd hc) st dat (List.getElem?_eq_none_iff.mpr (by omega)) λ h' eb=>⟨rfl,I.turned (t':=s.toks) (λ b ob hb e=>eb b ob hb e) f0 f1 f3 f4 f5⟩
 self:=λ _ _ _ _ _ st h=>wpAny_pyIter_keyiter st h
def ztj (tl:TE):TI:=λ σ H R=>tl σ H λ x H1=>∃ a kvs,x=.ref a/\H1 a=some (.dK kvs)/\∀ o,R (Itk a o kvs) (upd H1 a (.frz o (.dK kvs)))
section
variable {X:Cx} {tg l:Expr} {tl:TE}
theorem zrk (hl:PE X l tl):PI X tg l (ztj tl):=by
 intro pins s σ H R I h
 refine thn (hl pins s σ H _ I h) λ u s1 ⟨x,H1,I1,rx,a,kvs,ex,ea,q⟩=>?_
 subst ex
 obtain rfl:u=Value.ref a:=rx
 obtain ⟨o,ho,I2⟩:=I1.freeze ea
 obtain ⟨lo,vs,rel,dat,hlen⟩:=zlM I2.hok zab
 refine wpAny_pyIter_dict lo dat ?_
 have hf:=I2.fresh
 refine ⟨s1.heap.objs.size,[s1.heap.objs.size],_,Itk a o kvs,upd H1 a (.frz o (.dK kvs)),rfl,I2.kept (t':=s1.toks) (λ b ob e=>Heap.get?_push_of_some _ e),znU a _ o kvs,?_,λ b hb=>?_,q o⟩
 . show Heap.IsKeyIter _ s1.heap.objs.size a 0 kvs.length (epOf o)
   rw [<-hlen]
   exact ⟨_,Heap.get?_push_size _ rfl,rfl,rfl⟩
 . have e:b=s1.heap.objs.size:=by simpa using hb
   rw [e]
   exact I2.fpOk (Nat.le_refl _) hf
def zta (t:TS):TS:=λ D σ H=>t { nx:=λ σ' H2=>∃ a o kvs,H a=some (.dK kvs)/\H2 a=some (.frz o (.dK kvs))/\D.nx σ' (upd H2 a (.dK kvs)),rt:=λ v H2=>∃ a o kvs,H a=some (.dK kvs)/\H2 a=some (.frz o (.dK kvs))/\D.rt v (upd H2 a (.dK kvs)) } σ H
theorem zri {st:Stmt} {t:TS} (h:PS X st t):PS X st (zta t):=by
 intro pins s σ H D I hq
 refine thn (h pins s σ H _ I hq) λ fl s1 z=>?_
 cases fl with
 | next=>obtain ⟨σ',H2,I2,a,o,kvs,e0,e2,q⟩:=z; exact ⟨σ',_,I2.thaw e2 (I.zsw e0),q⟩
 | brk=>obtain ⟨σ',H2,I2,q⟩:=z; exact q.elim
 | cont=>obtain ⟨σ',H2,I2,q⟩:=z; exact q.elim
 | ret u=>obtain ⟨v,σ',H2,I2,r,a,o,kvs,e0,e2,q⟩:=z; exact ⟨v,σ',_,I2.thaw e2 (I.zsw e0),r,q⟩
end
end L2
end
section
namespace L2
open PySem PySem.Spec PySem.W PyProof.Rows S5
def SetX (P:Program) (w:World) (q:Addr) (ks:List Key):Heap->Prop:=λ h=>S6.SetP (zaM P w) h q ks
theorem zra {P:Program} {w:World} {H:Hp} {h:Heap} {q:Addr} {ks:List Key} (x:S6.SetP (zaM P w) h q ks):zbZ P w H h q (.ext (SetX P w q ks)) :=
 ⟨x,let ⟨_,_,o,_,_,_,e,_⟩:=x; ⟨o,e⟩,λ h1 h2 y k=>S6.SetP.at y k⟩
abbrev zqn (ks:List Key):Prop:=∀ k∈ks,∃ x:Str,k=Sum.inr x
theorem zry {P:Program} {w:World} {k:Key} {u:Value} (h:∃ x:Str,k=Sum.inr x) (r:RelV (kV k) u):S6.KVal (zaM P w) k u:=by
 obtain ⟨x,rfl⟩:=h
 obtain ⟨t,rfl⟩:=(show ∃ t,u=Value.str x t from r)
 exact ⟨zhf P w x t,rfl,rfl⟩
section
variable {X:Cx}
def SSrc (K:Frag) (H:Hp) (p:Addr) (ks:List Key):Prop:=SqL K H p (ks.map kV)\/∃ kvs:List (Key×V),H p=some (.dK kvs)/\kvs.map (·.1)=ks/\kvs.length<=4
theorem zqh (hc:X.calm=true):zid X (.type "set") (λ xs H Q=>∃ p ks,xs=[.ref p]/\SSrc X.K H p ks/\zqn ks/\ks.length < 4000/\∀ q,H q=none->Q (.ref q) (upd H q (.ext (SetX X.prog X.w q (S6.deds ks))))):=by
 intro pins s σ H xs us Q I r h
 obtain ⟨p,ks,rfl,src,tx,hl,h⟩:=h
 obtain ⟨u,rfl,ru⟩:=Vals.one r
 cases ru
 have hp:∃ o,s.heap.get? p=some o:=by
   rcases src with hq | ⟨kvs,hd,_⟩
   . obtain ⟨its,rv,⟨o,n,e,_⟩,hz⟩:=I.list hq
     exact ⟨o,e⟩
   . obtain ⟨z,lo,vs,rel,o,es,ep,e,_⟩:=zkL I.hok hd
     exact ⟨o,e⟩
 refine S6.zsf (R:=λ h'=>S6.SetP (zaM X.prog X.w) h' s.heap.objs.size (S6.deds ks)/\∀ b o,s.heap.get? b=some o->h'.get? b=some o) hp ?_ λ h' tk ⟨hS,kp⟩=>?_
 . have e0:(s.heap.push (S6.set0 X.w)).get? s.heap.objs.size=some (S6.set0 X.w):=Heap.get?_push_size _ rfl
   have fin:∀ {s':Shared},(∃ h' tk,s'={ s with heap:=h',toks:=tk }/\S6.SetP (zaM X.prog X.w) h' s.heap.objs.size (S6.deds ks)/\∀ b o,b≠s.heap.objs.size->(s.heap.push (S6.set0 X.w)).get? b=some o->h'.get? b=some o) ->
       ∃ h' tk,s'={ s with heap:=h',toks:=tk }/\S6.SetP (zaM X.prog X.w) h' s.heap.objs.size (S6.deds ks)/\∀ b o,s.heap.get? b=some o->h'.get? b=some o:=λ ⟨h',tk,e,hS,kp⟩ =>
     ⟨h',tk,e,hS,λ b o q=>kp b o (Nat.ne_of_lt (Heap.lt_size q)) (Heap.get?_push_of_some _ q)⟩
   rcases src with hq | ⟨kvs,hd,hks,h4⟩
   . obtain ⟨its,rv,pl,hz⟩:=I.list hq
     have hlen:its.length=ks.length:=by rw [<-rv.length,List.length_map]
     refine wpAny_mono (S6.zo4 (s:={ s with heap:=s.heap.push (S6.set0 X.w) }) (knd:=zaM X.prog X.w) (ks:=ks) (items:=its.toArray) (I.ok.hd hc) (pl.isList.push _) (S6.zoa e0) ?_ (by simpa using hlen) (by unfold scanBound; omega) λ i v hv=>?_) (λ _ s' q=>fin q) λ _ _ z=>z
     . obtain ⟨o,n,e,_⟩:=pl
       exact Nat.ne_of_gt (Heap.lt_size e)
     . have hv':its[i]?=some v:=by simpa using hv
       have hi:i < ks.length:=by rw [<-hlen]; exact (List.getElem?_eq_some_iff.mp hv').1
       have e1:(ks.map kV)[i]?=some (kV ks[i]):=by rw [List.getElem?_map,List.getElem?_eq_getElem hi]; rfl
       obtain ⟨u,e2,ru⟩:=rv.get e1
       rw [hv'] at e2; cases e2
       exact ⟨ks[i],List.getElem?_eq_getElem hi,zry (tx _ (List.getElem_mem hi)) ru⟩
   . obtain ⟨z,lo,vs,rel,dd⟩:=zkL I.hok hd
     have hkeys:vs.map (·.1)=ks:=by rw [<-KV.keys rel]; exact hks
     have:=S6.zo5 (A:=X.A.in1.in1) (E:=X.xe) (s:={ s with heap:=s.heap.push (S6.set0 X.w) }) (knd:=zaM X.prog X.w) lo (dd.push _) e0 (by rw [<-rel.length]; exact h4) λ q hq u hu=>by
       have hm:q.1∈ks:=by rw [<-hkeys]; exact List.mem_map.mpr ⟨q,hq,rfl⟩
       obtain ⟨x,hx⟩:=tx _ hm
       rw [hx] at hu
       rcases zaY (show zh3 (Sum.inr x) u=true from hu) with ⟨i,t,e,_⟩ | ⟨y,t,e,rfl⟩
       . cases e
       . exact ⟨rfl,rfl⟩
     rw [hkeys] at this
     exact wpAny_mono this (λ _ s' q=>fin q) λ _ _ z=>z
 . refine ⟨.ref s.heap.objs.size,upd H s.heap.objs.size (.ext (SetX X.prog X.w s.heap.objs.size (S6.deds ks))),I.laid kp (Nat.le_refl _) (zra hS),rfl,h _ I.fresh⟩
end
section
variable {prog:Program} {w:World} {A:Around} {E:Value->Shared->Prop} {s:Shared}
theorem zne {a:Addr} {PC:List Value->Heap->Prop} {Q:Value->Shared->Prop}
  (hcol:∀ R:List Value->Shared->Prop,(∀ h' tk d vs,zjz s.heap h'->PC vs h'->R vs { s with heap:=h',toks:=tk,drawn:=d })->wpAny (model prog w) A.in1 (collect (.ref a)) R E s)
  (h64:∀ vs h',PC vs h'->vs.length < 64)
  (hsort : ∀ h' tk d vs, zjz s.heap h' → PC vs h' → wpAny (model prog w) A.in1.in1 (Builtin.«list.sort» ⟨[.ref h'.objs.size], []⟩) (fun fin s' => fin = .done (.ret .none) ∧ Q (.ref h'.objs.size) s') E { s with heap := h'.push { cls := .type "list", data := .seq vs.toArray }, toks := tk, drawn := d }) :
  wpAny (model prog w) A (call (.builtin "sorted") [.ref a]) Q E s:=by
 refine Calls.call_function_entry kind_sorted plain_sorted entry_sorted (args_sorted1 _) ?_
 unfold Builtin.«sorted»
 refine wpAny_bind (m:=checkCount "sorted" 1 1 _) (wpAny_pure (wpAny_bind (hcol _ λ h' tk d vs hk hp=>?_)))
 refine wpAny_bind (wpAny_newList ?_ (by have:=h64 vs h' hp; rw [sizeLine_eq]; omega))
 refine wpAny_bind (wpAny_holding (wpAny_call_entry slot_list_sort ⟨_,Heap.get?_push_size _ rfl,rfl⟩ entry_list_sort ?_ (args_list_sort _)))
 refine wpAny_mono (hsort h' tk d vs hk hp) (λ fin s' hq=>?_) λ _ _ z=>z
 obtain ⟨rfl,hq⟩:=hq
 exact ⟨_,rfl,wpAny_pure ⟨_,rfl,hq⟩⟩
end
section
variable {X:Cx}
theorem Inv.zth {pins:List (Addr×Obj)} {σ:St} {H:Hp} {s:Shared} {h':Heap} {t':Nat} {d':Drawn} (I:Inv X pins σ H s) (k:∀ b u,s.heap.get? b=some u->h'.get? b=some u):Inv X pins σ H { s with heap:=h',toks:=t',drawn:=d' }:=by
 have J:=I.kept (t':=t') k
 exact ⟨J.ok,J.os,J.bare,J.base,J.loc,J.cell,J.free,J.zdT,J.pin,J.hok,J.len⟩
theorem zhB (hc:X.calm=true):zid X (.builtin "sorted") (λ xs H Q=>∃ q ks,xs=[.ref q]/\H q=some (.ext (SetX X.prog X.w q ks))/\ks.Nodup/\zqn ks/\ks.length < 64 /\
   ∀ (ys:List Key) (l:Addr),ys.Perm ks->ys.Pairwise (λ a b=>kLt a b=true)->H l=none->Q (.ref l) (upd H l (.lst (ys.map kV)))):=by
 intro pins s σ H xs us Q I r h
 obtain ⟨p,ks0,rfl,hp,nd0,tx0,h640,h⟩:=h
 obtain ⟨u,rfl,ru⟩:=Vals.one r
 cases ru
 obtain ⟨hS,_,_⟩:=I.hok p _ hp
 have hS:S6.SetP (zaM X.prog X.w) s.heap p ks0:=hS
 refine zne (PC:=λ vs _=>∃ ks:List Key,ks.Perm ks0/\Vals (ks.map kV) vs) (λ R hR=>?_) (λ vs _ ⟨ks,pk,hv⟩=>by rw [<-hv.length,List.length_map,pk.length_eq]; exact h640) (λ h' tk d vs hk ⟨ks,pk,hv⟩=>?_)
 . refine S6.zle (A:=X.A.in1) (I.ok.hd hc) hS λ h' tk d vs ys py hy kp=>hR h' tk d vs kp ⟨ys,py,?_⟩
   clear hR
   have tx:zqn ys:=λ k hk=>tx0 k (py.mem_iff.mp hk)
   clear py kp
   induction hy with
   | nil=>exact .nil
   | @cons v k vs ys r _ ih =>
     refine .cons ?_ (ih λ k' hk'=>tx k' (List.mem_cons_of_mem _ hk'))
     rcases zaY (show zh3 k v=true from r) with ⟨i,t,rfl,rfl⟩ | ⟨y,t,rfl,rfl⟩
     . exact ⟨t,rfl⟩
     . exact ⟨t,rfl⟩
 . have nd:ks.Nodup:=pk.nodup_iff.mpr nd0
   have one:zem ks:=.inr λ k hk=>tx0 k (pk.mem_iff.mp hk)
   have h64:ks.length < 64:=by rw [pk.length_eq]; exact h640
   have hl:vs.length=ks.length:=by rw [<-hv.length,List.length_map]
   have O:=ordK nd one
   rw [<-hl] at O
   refine zn5 (s:={ s with heap:=h'.push { cls:=.type "list",data:=.seq vs.toArray },toks:=tk,drawn:=d }) (κ:=oneType') (c:=0) (Heap.get?_push_size _ rfl) (by rw [hl]; exact h64) O (λ h1 _ h2 Qk hq=>?_) (λ h1 _ i j hi hj hne Qb hq=>?_) (λ q h3 c' hp hu hkb hg=>⟨rfl,?_⟩)
   . refine kas_kind (T:=.type (kTy ks)) h2 (λ v hvm=>?_) ?_ ?_ hq
     . obtain ⟨i,hi⟩:=List.mem_iff_getElem?.mp hvm
       have hi':i < ks.length:=by rw [<-hl]; exact (List.getElem?_eq_some_iff.mp hi).1
       have:=zet hv hi'
       rw [List.getD_eq_getElem?_getD,hi] at this
       exact ty_keys one (zel hi') this _ _
     . rcases zmK ks with z | z <;> rw [z] <;> decide
     . rcases zmK ks with z | z <;> rw [z] <;> decide
   . rw [keyLt'_oneType]
     rw [hl] at hi hj
     exact zoE (zos one (zel hi) (zel hj)) (zet hv hi) (zet hv hj) hq
   . rw [hl] at hp hu
     have keepAll:∀ b o,s.heap.get? b=some o->h3.get? b=some o:=λ b o e=>hkb b o (Nat.ne_of_lt (Heap.lt_size (hk b o e))) (Heap.get?_push_of_some _ (hk b o e))
     have I1:Inv X pins σ H { s with heap:=h3,toks:=tk,drawn:=d }:=I.zth keepAll
     have fp:=I.zsH (a:=h'.objs.size) λ b o e=>Heap.lt_size (hk b o e)
     have vp:=zjF hv (p:=q) (by rw [List.length_map]; exact hp)
     rw [zmu kV ks (Sum.inl 0) hp] at vp
     have lp:(zg0 ks (Sum.inl 0) q).length=ks.length:=(zfi ks (Sum.inl 0) hp).length_eq
     refine ⟨.ref h'.objs.size,upd H h'.objs.size (.lst ((zg0 ks (Sum.inl 0) q).map kV)),?_,rfl,h _ _ ((zfi ks _ hp).trans pk) (zj5 ks _ hp hu) fp.1⟩
     have f2:FpOk X pins H h'.objs.size:=fp
     exact I1.zrR f2 ⟨by rw [List.length_map,lp,sizeLine_eq]; omega,picked vs q,c',vp,hg⟩
end
end L2
end
section
namespace L2
open PySem PySem.Spec PyProof.Rows
def Nx (n i:Nat) (p:Prop):Prop:=∃ m',m' < n - i/\m'=n - (i+1)/\i+1<=n/\p
theorem nx {n i:Nat} {p:Prop} (h:i < n) (hp:p):Nx n i p:=⟨n - (i+1),by omega,rfl,h,hp⟩
section
variable {K:PySem.W.Frag} {a:Addr} {xs:List V} {g:TG} {tt:TT} {te:TE} {σ₀:St} {H:Hp} {Fin:List V->Hp->Prop}
theorem zfy (Pv:Nat->List V->St->Hp->Prop) (h0:Pv 0 [] σ₀ H) (hl:∀ i ys σ H,Pv i ys σ H->SqL K H a xs/\ys.length<=i) (hz:xs.length<=sizeLine)
   (hs:∀ i x ys σ H,i < xs.length->xs[i]?=some x->Pv i ys σ H->g x σ H λ σ2 H2=>tt σ2 H2 λ b H3=>if b=true then te σ2 H3 λ y H4=>Nx xs.length i (Pv (i+1) (ys++[y]) σ2 H4) else Nx xs.length i (Pv (i+1) ys σ2 H3))
   (hd:∀ ys σ H,Pv xs.length ys σ H->Fin ys H):zih (Itl K a) g tt te σ₀ H Fin:=by
 refine ⟨λ i m ys σ H=>m=xs.length - i/\i<=xs.length/\Pv i ys σ H,⟨xs.length,by simp,Nat.zero_le _,h0⟩,?_⟩
 rintro i m ys σ H ⟨rfl,hi,p⟩
 obtain ⟨q,hy⟩:=hl i ys σ H p
 by_cases hlt:i < xs.length
 . refine .inr ⟨⟨xs,xs[i],q,by simp [hlt]⟩,by omega,λ x H' y=>?_⟩
   obtain ⟨e,y⟩:=y
   subst e
   exact hs i x ys σ _ hlt (y xs q) p
 . have e:i=xs.length:=by omega
   subst e
   exact .inl ⟨⟨xs,q,Nat.le_refl _⟩,hd ys σ H p⟩
theorem zgG (Pv:Nat->List V->St->Hp->Prop) (h0:Pv 0 [] σ₀ H) (hl:∀ i ys σ H,Pv i ys σ H->SqT K H a xs/\ys.length<=i) (hz:xs.length<=sizeLine)
   (hs:∀ i x ys σ H,i < xs.length->xs[i]?=some x->Pv i ys σ H->g x σ H λ σ2 H2=>tt σ2 H2 λ b H3=>if b=true then te σ2 H3 λ y H4=>Nx xs.length i (Pv (i+1) (ys++[y]) σ2 H4) else Nx xs.length i (Pv (i+1) ys σ2 H3))
   (hd:∀ ys σ H,Pv xs.length ys σ H->Fin ys H):zih (Itt K a) g tt te σ₀ H Fin:=by
 refine ⟨λ i m ys σ H=>m=xs.length - i/\i<=xs.length/\Pv i ys σ H,⟨xs.length,by simp,Nat.zero_le _,h0⟩,?_⟩
 rintro i m ys σ H ⟨rfl,hi,p⟩
 obtain ⟨q,hy⟩:=hl i ys σ H p
 by_cases hlt:i < xs.length
 . refine .inr ⟨⟨xs,xs[i],q,by simp [hlt]⟩,by omega,λ x H' y=>?_⟩
   obtain ⟨e,y⟩:=y
   subst e
   exact hs i x ys σ _ hlt (y xs q) p
 . have e:i=xs.length:=by omega
   subst e
   exact .inl ⟨⟨xs,q,Nat.le_refl _⟩,hd ys σ H p⟩
theorem ziD {lo:Int} {n:Nat} (Pv:Nat->List V->St->Hp->Prop) (h0:Pv 0 [] σ₀ H) (hl:∀ i ys σ H,Pv i ys σ H->ys.length<=i) (hz:n<=sizeLine)
   (hs:∀ i ys σ H,i < n->Pv i ys σ H->g (.int (lo+i)) σ H λ σ2 H2=>tt σ2 H2 λ b H3=>if b=true then te σ2 H3 λ y H4=>Nx n i (Pv (i+1) (ys++[y]) σ2 H4) else Nx n i (Pv (i+1) ys σ2 H3))
   (hd:∀ ys σ H,Pv n ys σ H->Fin ys H):zih (Itr lo n) g tt te σ₀ H Fin:=by
 refine ⟨λ i m ys σ H=>m=n - i/\i<=n/\Pv i ys σ H,⟨n,by simp,Nat.zero_le _,h0⟩,?_⟩
 rintro i m ys σ H ⟨rfl,hi,p⟩
 have hy:=hl i ys σ H p
 by_cases hlt:i < n
 . refine .inr ⟨hlt,by omega,λ x H' y=>?_⟩
   obtain ⟨e,y⟩:=y
   subst e y
   exact hs i ys σ _ hlt p
 . have e:i=n:=by omega
   subst e
   exact .inl ⟨Nat.le_refl _,hd ys σ H p⟩
theorem zpi {o:Obj} {kvs:List (Key×V)} (Pv:Nat->List V->St->Hp->Prop) (h0:Pv 0 [] σ₀ H) (hl:∀ i ys σ H,Pv i ys σ H->H a=some (.frz o (.dK kvs))/\ys.length<=i) (hz:kvs.length<=sizeLine)
   (hs:∀ i k v ys σ H,i < kvs.length->kvs[i]?=some (k,v)->Pv i ys σ H->g (kV k) σ H λ σ2 H2=>tt σ2 H2 λ b H3=>if b=true then te σ2 H3 λ y H4=>Nx kvs.length i (Pv (i+1) (ys++[y]) σ2 H4) else Nx kvs.length i (Pv (i+1) ys σ2 H3))
   (hd:∀ ys σ H,Pv kvs.length ys σ H->Fin ys H):zih (Itk a o kvs) g tt te σ₀ H Fin:=by
 refine ⟨λ i m ys σ H=>m=kvs.length - i/\i<=kvs.length/\Pv i ys σ H,⟨kvs.length,by simp,Nat.zero_le _,h0⟩,?_⟩
 rintro i m ys σ H ⟨rfl,hi,p⟩
 obtain ⟨q,hy⟩:=hl i ys σ H p
 by_cases hlt:i < kvs.length
 . refine .inr ⟨⟨hlt,q⟩,by omega,λ x H' y=>?_⟩
   obtain ⟨e,k,v,hk,ex⟩:=y
   subst e ex
   exact hs i k v ys σ _ hlt hk p
 . have e:i=kvs.length:=by omega
   subst e
   exact .inl ⟨⟨Nat.le_refl _,q⟩,hd ys σ H p⟩
end
end L2
end
section
namespace L2
open PySem
theorem Same.zaq {H:Hp} {p:Addr} {o:HO} (n:H p=none):Same H (upd H p o):=λ b u e=>by rw [zae (zaf e n)]; exact e
theorem Same.upd2 {H H':Hp} {p:Addr} {o:HO} (m:Same H H') (n:H' p=none):Same H (upd H' p o):=λ b u e=>by rw [zae (zaf (m b u e) n)]; exact m b u e
theorem zaj {H:Hp} {p q:Addr} {o u:HO} (e:H q=some u) (n:H p=none):upd H p o q=some u:=by rw [zae (zaf e n)]; exact e
end L2
namespace TP
open PySem L2 TH
structure Ad where
 zdU:Addr
 zaB:Addr
 zcb:Addr
 za1:Addr
 zhC:Addr
 zcS:Addr
structure AdOk (A:Ad):Prop where
 wr:A.zdU≠A.zaB
 wd:A.zdU≠A.zcb
 wh:A.zdU≠A.za1
 rd:A.zaB≠A.zcb
 rh:A.zaB≠A.za1
 dh:A.zcb≠A.za1
def useS (w:Bool):Str:=if w then "writing" else "reading"
def stS:DS->Str
 | .zas => "going"
 | .waiting => "waiting"
 | .kept => "kept"
 | .dropped => "given up"
def actV (a:Act Str):List V:=[.str (if a.wr then "write" else "read"),.str a.key,.int a.val]
def rowV:Row Str->List V
 | .begin d=>[.str "begin",.int d]
 | .write d k b v=>[.str "write",.int d,.str k,.int b,.int v]
 | .keep d=>[.str "keep",.int d]
 | .drop d=>[.str "give up",.int d]
def zch (p:Nat×Bool):List V:=[.int p.1,.str (useS p.2)]
def TupAt (H:Hp) (v:V) (xs:List V):Prop:=∃ p,v=.ref p/\H p=some (.tup xs)
abbrev zao (H:Hp) (vs:List V) (xss:List (List V)):Prop:=Paired (TupAt H) vs xss
def zqP (a:Act Str):List (Str×V):=[("use",.str (useS a.wr)),("key",.str a.key),("value",if a.wr then .int a.val else .non)]
def zcu (A:Ad) (H:Hp) (v:V):Option (Act Str)->Prop
 | none=>v=.non
 | some a=>∃ p dx,v=.ref p/\H p=some (.ins A.zdU dx (zqP a))
def wantOf (D:Deed Str):Option (Act Str):=if D.st=.waiting then D.wish else none
def bkV (l:List (Str×Int)):List (Key×V):=l.map λ p=>(Sum.inr p.1,.int p.2)
structure zbn (l:List (Str×Int)) (b:Book Str):Prop where
 nd:(l.map (·.1)).Nodup
 mem:∀ k v,(k,v)∈l↔b k=some v
theorem zpl:∀ {l:List (Str×Int)} {k:Str},(l.map (·.1)).Nodup->valV (bkV l) (Sum.inr k)=(l.find? λ p=>decide (p.1=k)).map λ p=>V.int p.2
 | [],_,_=>rfl
 | p::r,k,nd=>by
  obtain ⟨_,nd'⟩:=List.nodup_cons.mp nd
  have ih:=zpl (l:=r) (k:=k) nd'
  unfold valV bkV at ih ⊢
  rw [List.map_cons,List.find?_cons,List.find?_cons]
  by_cases h:p.1=k
  . simp [h]
  . have h2:¬ (Sum.inr p.1:Key)=Sum.inr k:=λ z=>h (Sum.inr.inj z)
    simp only [h,h2,decide_false]
    exact ih
theorem zbn.val {l:List (Str×Int)} {b:Book Str} (h:zbn l b) (k:Str):valV (bkV l) (Sum.inr k)=(b k).map V.int:=by
 rw [zpl h.nd]
 cases e:l.find? λ p=>decide (p.1=k) with
 | none =>
  cases e2:b k with
  | none=>rfl
  | some v =>
   have:=List.find?_eq_none.mp e _ ((h.mem k v).mpr e2)
   simp at this
 | some p =>
  have hm:=List.mem_of_find?_eq_some e
  have hk:p.1=k:=by simpa using List.find?_some e
  have:=(h.mem p.1 p.2).mp hm
  rw [hk] at this
  rw [this]; rfl
def zb8 (h:List (Nat×Bool)):List (Key×V):=h.map λ p=>(Sum.inl (p.1:Int),.str (useS p.2))
inductive Role where
 | hall | recs | zbO | zco | zdb | order | rows | other
 | rcd (i:Nat) | did (i:Nat) | desk (k:Str) | held (k:Str) | row (k:Str)
 deriving DecidableEq
def zlF (ad:Role->Addr):List (Str×V) :=
 [("records",.ref (ad .recs)),("desks",.ref (ad .zbO)),("standing",.ref (ad .zco)),("kept_values",.ref (ad .zdb)),("kept_deeds",.ref (ad .order)),("rows",.ref (ad .rows))]
def recF (st:DS) (did:Addr) (w:V):List (Str×V):=[("state",.str (stS st)),("did",.ref did),("want",w)]
def zh5 (held row:Addr):List (Str×V):=[("held",.ref held),("row",.ref row)]
def At (A:Ad) (ad:Role->Addr) (s:HS Str) (kv:Book Str) (H:Hp):Role->HO->Prop
 | .hall,o=>∃ dx,o=.ins A.za1 dx (zlF ad)
 | .recs,o=>o=.lst ((List.range s.n).map λ i=>.ref (ad (.rcd i)))
 | .zbO,o=>o=.dK (s.seen.map λ k=>(Sum.inr k,.ref (ad (.desk k))))
 | .zco,o=>∃ l,o=.dK (bkV l)/\zbn l s.book
 | .zdb,o=>∃ l,o=.dK (bkV l)/\zbn l kv
 | .order,o=>o=.lst (s.kept.map λ (d:Nat)=>V.int (d:Int))
 | .rows,o=>∃ vs,o=.lst vs/\zao H vs (s.log.map rowV)
 | .rcd i,o=>∃ dx w,o=.ins A.zaB dx (recF (s.deed i).st (ad (.did i)) w)/\zcu A H w (wantOf (s.deed i))
 | .did i,o=>∃ vs,o=.lst vs/\zao H vs ((s.deed i).done.map actV)
 | .desk k,o=>∃ dx,o=.ins A.zcb dx (zh5 (ad (.held k)) (ad (.row k)))
 | .held k,o=>o=.dK (zb8 (s.held k))
 | .row k,o=>∃ vs,o=.lst vs/\zao H vs ((s.rows k).map zch)
 | .other,_=>False
def live (s:HS Str):Role->Prop
 | .rcd i=>i < s.n
 | .did i=>i < s.n
 | .desk k=>k∈s.seen
 | .held k=>k∈s.seen
 | .row k=>k∈s.seen
 | .other=>False
 | _=>True
structure zai (A:Ad) (ρ:Addr->Role) (ad:Role->Addr) (s:HS Str) (kv:Book Str) (H:Hp):Prop where
 at_:∀ r,live s r->∃ o,H (ad r)=some o/\At A ad s kv H r o
 ro:∀ r,live s r->ρ (ad r)=r
 fr:∀ b,H b=none->ρ b=.other
structure Frame (ρ:Addr->Role) (H:Hp) (ρ':Addr->Role) (H':Hp):Prop where
 o:∀ b o,H b=some o->ρ b=.other->H' b=some o/\ρ' b=.other
 t:∀ b xs,H b=some (.tup xs)->H' b=some (.tup xs)
instance {ρ:Addr->Role} {H:Hp} {ρ':Addr->Role} {H':Hp}:CoeFun (Frame ρ H ρ' H') (λ _=>∀ b o,H b=some o->ρ b=.other->H' b=some o/\ρ' b=.other):=⟨Frame.o⟩
theorem Frame.refl {ρ:Addr->Role} {H:Hp}:Frame ρ H ρ H:=⟨λ _ _ h r=>⟨h,r⟩,λ _ _ h=>h⟩
theorem Frame.trans {ρ ρ1 ρ2:Addr->Role} {H H1 H2:Hp} (a:Frame ρ H ρ1 H1) (b:Frame ρ1 H1 ρ2 H2):Frame ρ H ρ2 H2:=⟨λ x o h r=>let ⟨h1,r1⟩:=a x o h r; b x o h1 r1,λ x xs h=>b.t x xs (a.t x xs h)⟩
structure Imm (A:Ad) (H H':Hp):Prop where
 tup:∀ p xs,H p=some (.tup xs)->H' p=some (.tup xs)
 want:∀ p dx fs,H p=some (.ins A.zdU dx fs)->H' p=some (.ins A.zdU dx fs)
theorem Imm.of_same {A:Ad} {H H':Hp} (h:Same H H'):Imm A H H':=⟨λ p xs e=>h p _ e,λ p dx fs e=>h p _ e⟩
theorem zao.mono {A:Ad} {H H':Hp} (m:Imm A H H'):∀ {vs:List V} {xss:List (List V)},zao H vs xss->zao H' vs xss
 | _,_,.nil=>.nil
 | _,_,.cons ⟨p,e,q⟩ t=>.cons ⟨p,e,m.tup p _ q⟩ (zao.mono m t)
theorem zcu.mono {A:Ad} {H H':Hp} (m:Imm A H H') {v:V}:∀ {o:Option (Act Str)},zcu A H v o->zcu A H' v o
 | none,h=>h
 | some a,⟨p,dx,e,q⟩=>⟨p,dx,e,m.want p dx _ q⟩
section
variable {A:Ad} {ad:Role->Addr} {s:HS Str} {kv:Book Str} {H H':Hp}
theorem At.mono (m:Imm A H H') {r:Role} {o:HO} (h:At A ad s kv H r o):At A ad s kv H' r o:=by
 cases r with
 | rows=>obtain ⟨vs,e,t⟩:=h; exact ⟨vs,e,zao.mono m t⟩
 | did i=>obtain ⟨vs,e,t⟩:=h; exact ⟨vs,e,zao.mono m t⟩
 | row k=>obtain ⟨vs,e,t⟩:=h; exact ⟨vs,e,zao.mono m t⟩
 | rcd i=>obtain ⟨dx,w,e,t⟩:=h; exact ⟨dx,w,e,t.mono m⟩
 | _=>exact h
theorem At.mut (ok:AdOk A) {r:Role} {o:HO} (h:At A ad s kv H r o):(∀ xs,o≠.tup xs)/\∀ dx fs,o≠.ins A.zdU dx fs:=by
 cases r with
 | hall=>obtain ⟨dx,rfl⟩:=h; exact ⟨λ xs z=>(by cases z),λ dx fs z=>(by injection z with z; exact ok.wh z.symm)⟩
 | recs=>cases h; exact ⟨λ xs z=>(by cases z),λ dx fs z=>(by cases z)⟩
 | zbO=>cases h; exact ⟨λ xs z=>(by cases z),λ dx fs z=>(by cases z)⟩
 | zco=>obtain ⟨l,rfl,_⟩:=h; exact ⟨λ xs z=>(by cases z),λ dx fs z=>(by cases z)⟩
 | zdb=>obtain ⟨l,rfl,_⟩:=h; exact ⟨λ xs z=>(by cases z),λ dx fs z=>(by cases z)⟩
 | order=>cases h; exact ⟨λ xs z=>(by cases z),λ dx fs z=>(by cases z)⟩
 | rows=>obtain ⟨l,rfl,_⟩:=h; exact ⟨λ xs z=>(by cases z),λ dx fs z=>(by cases z)⟩
 | rcd i=>obtain ⟨dx,w,rfl,_⟩:=h; exact ⟨λ xs z=>(by cases z),λ dx fs z=>(by injection z with z; exact ok.wr z.symm)⟩
 | did i=>obtain ⟨l,rfl,_⟩:=h; exact ⟨λ xs z=>(by cases z),λ dx fs z=>(by cases z)⟩
 | desk k=>obtain ⟨dx,rfl⟩:=h; exact ⟨λ xs z=>(by cases z),λ dx fs z=>(by injection z with z; exact ok.wd z.symm)⟩
 | held k=>cases h; exact ⟨λ xs z=>(by cases z),λ dx fs z=>(by cases z)⟩
 | row k=>obtain ⟨l,rfl,_⟩:=h; exact ⟨λ xs z=>(by cases z),λ dx fs z=>(by cases z)⟩
 | other=>exact h.elim
end
section
variable {A:Ad} {ρ:Addr->Role} {ad:Role->Addr} {s s':HS Str} {kv kv':Book Str} {H H':Hp}
theorem zai.ne (h:zai A ρ ad s kv H) {r r':Role} (a:live s r) (b:live s r') (n:r≠r'):ad r≠ad r':=λ e=>n (by rw [<-h.ro r a,<-h.ro r' b,e])
theorem zai.grow (h:zai A ρ ad s kv H) (m:Same H H'):zai A ρ ad s kv H' :=
 ⟨λ r l=>let ⟨o,e,a⟩:=h.at_ r l; ⟨o,m _ _ e,a.mono (.of_same m)⟩,h.ro,λ b e=>h.fr b (by
  cases q:H b with
  | none=>rfl
  | some o=>rw [m b o q] at e; cases e)⟩
theorem zoG {s:HS Str} {r:Role} (l:live s r):r≠.other:=by rintro rfl; exact l
theorem Frame.grow {ρ:Addr->Role} (m:Same H H'):Frame ρ H ρ H':=⟨λ b o e r=>⟨m b o e,r⟩,λ b xs e=>m b _ e⟩
end
end TP
end
section
namespace TP
open PySem L2 TH
def sLt (a b:Str):Bool:=kLt (Sum.inr a) (Sum.inr b)
theorem zli (a:Str):sLt a a=false:=zoN _
theorem zqq {a b c:Str} (h:sLt a b=true) (g:sLt b c=true):sLt a c=true:=zqE h g
theorem zrd {a b:Str} (h:a≠b):sLt a b=true\/sLt b a=true :=
 zoM (ks:=[Sum.inr a,Sum.inr b]) (.inr λ k hk=>by
  rcases List.mem_cons.mp hk with z | z
  . exact ⟨a,z⟩
  . exact ⟨b,List.mem_singleton.mp z⟩) (by simp) (by simp) λ z=>h (Sum.inr.inj z)
abbrev zhN (l:List Str):Prop:=l.Pairwise λ a b=>sLt a b=true
def ins (x:Str):List Str->List Str
 | []=>[x]
 | y::r=>if x=y then y::r else if sLt x y=true then x::y::r else y::ins x r
def ordS (l:List Str):List Str:=l.foldr ins []
theorem zlt {x z:Str}:∀ {l:List Str},z∈ins x l↔z=x\/z∈l
 | []=>by simp [ins]
 | y::r=>by
  unfold ins
  split
  . rename_i h; subst h; simp
  . split
    . simp
    . rw [List.mem_cons,zlt (l:=r),List.mem_cons]
      exact ⟨λ h=>h.elim (λ q=>.inr (.inl q)) (λ q=>q.elim .inl λ q=>.inr (.inr q)),λ h=>h.elim (λ q=>.inr (.inl q)) λ q=>q.elim .inl λ q=>.inr (.inr q)⟩
theorem ziy {x:Str}:∀ {l:List Str},zhN l->zhN (ins x l)
 | [],_=>by simp [ins,zhN]
 | y::r,h=>by
  obtain ⟨h1,h2⟩:=List.pairwise_cons.mp h
  unfold ins
  split
  . exact h
  . rename_i hne
    split
    . rename_i hlt
      exact List.pairwise_cons.mpr ⟨λ z hz=>by
        rcases List.mem_cons.mp hz with q | q
        . rw [q]; exact hlt
        . exact zqq hlt (h1 z q),h⟩
    . rename_i hlt
      refine List.pairwise_cons.mpr ⟨λ z hz=>?_,ziy h2⟩
      rcases zlt.mp hz with q | q
      . rw [q]; exact (zrd hne).resolve_left hlt
      . exact h1 z q
theorem zbh {z:Str}:∀ {l:List Str},z∈ordS l↔z∈l
 | []=>by simp [ordS]
 | y::r=>by
  show z∈ins y (ordS r)↔_
  rw [zlt,zbh (l:=r),List.mem_cons]
theorem zci:∀ l:List Str,zhN (ordS l)
 | []=>List.Pairwise.nil
 | y::r=>ziy (zci r)
theorem zge {l:List Str} (h:zhN l):l.Nodup:=h.imp λ {a b} q z=>by subst z; rw [zli] at q; cases q
theorem zfM:∀ {a b:List Str},zhN a->zhN b->(∀ x,x∈a↔x∈b)->a=b
 | [],[],_,_,_=>rfl
 | [],y::r,_,_,h=>by have:=(h y).mpr List.mem_cons_self; cases this
 | x::r,[],_,_,h=>by have:=(h x).mp List.mem_cons_self; cases this
 | x::r,y::t,ha,hb,h=>by
  obtain ⟨a1,a2⟩:=List.pairwise_cons.mp ha
  obtain ⟨b1,b2⟩:=List.pairwise_cons.mp hb
  have e:x=y:=by
   rcases List.mem_cons.mp ((h x).mp List.mem_cons_self) with q | q
   . exact q
   . rcases List.mem_cons.mp ((h y).mpr List.mem_cons_self) with p | p
     . exact p.symm
     . have:=zqq (b1 x q) (a1 y p)
       rw [zli] at this; cases this
  subst e
  have nr:∀ {l:List Str},(∀ z∈l,sLt x z=true)->x∉l:=λ hl z=>by have:=hl x z; rw [zli] at this; cases this
  refine congrArg _ (zfM a2 b2 λ z=>?_)
  have hz:=h z
  rw [List.mem_cons,List.mem_cons] at hz
  exact ⟨λ q=>(hz.mp (.inr q)).resolve_left λ e=>nr a1 (e ▸ q),λ q=>(hz.mpr (.inr q)).resolve_left λ e=>nr b1 (e ▸ q)⟩
theorem zpR (l m:List Str) (h:∀ x∈m,x∈l):ordS m=(ordS l).filter λ k=>decide (k∈m) :=
 zfM (zci m) ((zci l).filter _) λ x=>by
  rw [zbh,List.mem_filter,zbh,decide_eq_true_eq]
  exact ⟨λ q=>⟨h x q,q⟩,λ q=>q.2⟩
theorem zpS (l:List Str) (m:List Str) (h:∀ x∈l,x∈m) (nd:m.Nodup):(ordS l).length<=m.length:=by
 have:∀ (a b:List Str),a.Nodup->(∀ x∈a,x∈b)->a.length<=b.length:=λ a=>by
  induction a with
  | nil=>intro b _ _; simp
  | cons x r ih =>
   intro b nd hs
   obtain ⟨n1,n2⟩:=List.nodup_cons.mp nd
   have hx:=hs x List.mem_cons_self
   have:=ih (b.erase x) n2 λ z hz=>(List.mem_erase_of_ne (show z≠x from λ e=>n1 (e ▸ hz))).mpr (hs z (List.mem_cons_of_mem _ hz))
   rw [List.length_erase_of_mem hx] at this
   have hpos:0 < b.length:=List.length_pos_of_mem hx
   simp only [List.length_cons]; omega
 exact this _ _ (zge (zci l)) λ x hx=>h x (zbh.mp hx)
theorem zlb {xs:List Str} {ys:List Key} (m:∀ k,k∈ys↔∃ x∈xs,k=Sum.inr x) (p:ys.Pairwise λ a b=>kLt a b=true):ys=(ordS xs).map Sum.inr:=by
 obtain ⟨zs,rfl⟩:∃ zs:List Str,ys=zs.map Sum.inr:=by
  clear p
  have:∀ l:List Key,(∀ k∈l,∃ x:Str,k=Sum.inr x)->∃ zs:List Str,l=zs.map Sum.inr:=λ l=>by
   induction l with
   | nil=>intro _; exact ⟨[],rfl⟩
   | cons k r ih =>
    intro h
    obtain ⟨x,rfl⟩:=h k List.mem_cons_self
    obtain ⟨zs,rfl⟩:=ih λ k hk=>h k (List.mem_cons_of_mem _ hk)
    exact ⟨x::zs,rfl⟩
  exact this ys λ k hk=>let ⟨x,_,e⟩:=(m k).mp hk; ⟨x,e⟩
 congr 1
 refine zfM (List.pairwise_map.mp p) (zci xs) λ x=>?_
 rw [zbh]
 have:=m (Sum.inr x)
 rw [List.mem_map] at this
 exact ⟨λ h=>by
  obtain ⟨y,hy,e⟩:=this.mp ⟨x,h,rfl⟩
  rw [Sum.inr.inj e]; exact hy,λ h=>by
  obtain ⟨y,hy,e⟩:=this.mpr ⟨x,h,rfl⟩
  rw [<-Sum.inr.inj e]; exact hy⟩
end TP
end
section
namespace L2
open PySem PySem.Spec PyProof.Rows
theorem Fun.okN {P:Program} {w:World} {K:PySem.W.Frag} {mg:Str->Option Value} {base:Heap} {x qual:Str} {st:Stmt} {f:Addr} {fd:FuncData} {N ps:List Str} {k:Nat} {sp:Sp} (F:Fun K x qual st f fd) (S:zat N ps (zal st)) (len:∀ vs H Q E,sp vs H Q E->vs.length=ps.length)
  (hbody:∀ (cdv:Value) (A:Around) (outer:List Env) (s:Shared) (H:Hp) (vs:List V) (Q:VK) (E:XK),Room k (A.deeper (envOfC qual (zal st) s.heap.objs.size f cdv))->sp vs H Q E ->
   ∃ t,PSs (cxOf (CX1 P w) P w K mg base N qual (zal st) f cdv A outer s H E).nox (zhx st) t/\t { nx:=λ _ H'=>Q .non H',rt:=Q } (start N vs) H):FnOk P w K mg base (CX1 P w) (k+1) f fd ps sp:=by
 refine F.okX S len λ cdv A outer s H vs Q E hr hsp=>?_
 obtain ⟨t,h,q⟩:=hbody cdv A outer s H vs Q E hr hsp
 exact ⟨t,h.nox,q⟩
section
variable {X:Cx} {K:PySem.W.Frag}
theorem zoj (hK:X.K=K) {es:List Expr} {k:Nat} {t:TGs} {n:Nat} {pos:Pos} (hc:X.calm=true) (h:PGs X es t)
  (hn:(assignEach es X.env).length=n:=by rfl) (hst:(assignEach es X.env).findIdx? (·.1)=none:=by rfl):PG X (.Tuple es k pos) (gTup K n t):=by
 subst hK; exact zmv hc h hn hst
theorem zrm (hK:X.K=K) {e:Expr} {f:Str} {ta:TE} {pos:Pos} (he:PE X e ta) (hb:attributeBase e f X.env (eval e X.env)=eval e X.env):PE X (.Attribute e f pos) (tFld K ta f):=by
 subst hK; exact zap he hb
theorem zef (hK:X.K=K):IxR X (rIxT K):=by subst hK; exact zaZ
end
theorem zpO {X:Cx} {x:Str} {pos:Pos} {n:String} (hg:Gl X x) (hm:X.mg x=none) (hv:bootBuiltins x=some (.type n)) (hn:x ≠ "__name__" := by decide) (hd:(x == ("__debug__" : Str))=false:=by decide):PE X (.Name x pos) (tC (.ty n)):=zrn (v:=.ty n) hg hm hv rfl hn hd
end L2
namespace TP
open PySem L2 TH
theorem zpa (xs:List Str):(S6.deds (xs.map (Sum.inr:Str->Key))).Perm ((ordS xs).map Sum.inr):=by
 refine (List.perm_ext_iff_of_nodup (S6.zpb _) ?_).mpr λ k=>?_
 . exact (zge (zci xs)).map _ λ a b h e=>h (Sum.inr.inj e)
 . rw [S6.zjb,List.mem_map,List.mem_map]
   exact ⟨λ ⟨x,h,e⟩=>⟨x,zbh.mpr h,e⟩,λ ⟨x,h,e⟩=>⟨x,zbh.mp h,e⟩⟩
theorem zjJ (xs:List Str):zqn (xs.map (Sum.inr:Str->Key)):=λ k hk=>by
 obtain ⟨x,_,e⟩:=List.mem_map.mp hk
 exact ⟨x,e.symm⟩
theorem zqB (xs:List Str):(xs.map (Sum.inr:Str->Key)).map kV=xs.map V.str:=by rw [List.map_map]; rfl
def zn1:Sp:=λ vs H Q _=>∃ i:Int,vs=[.int i]/\Q (.bl true) H
def zgc (K:PySem.W.Frag):Sp:=λ vs H Q _=>∃ (p:Addr) (xs:List Str),vs=[.ref p]/\SSrc K H p (xs.map Sum.inr)/\xs.length < 4000/\(ordS xs).length < 64 /\
 ∀ H' q,H q=none->Same H H'->H' q=some (.tup ((ordS xs).map V.str))->Q (.ref q) H'
def zjN:Sp:=λ vs H Q _=>∃ (p:Addr) (k:Str) (l:List (Str×Int)) (b:Book Str),vs=[.ref p,.str k]/\H p=some (.dK (bkV l))/\zbn l b/\Q (.int ((b k).getD 0)) H
def zcv (H:Hp) (p:Addr) (H':Hp):Prop:=∀ b o,H b=some o->b≠p->H' b=some o
def zm8 (A:Ad):Sp:=λ vs H Q _=>∃ (p dx:Addr) (w:Bool) (k:Str) (v:V),vs=[.ref p,.str (useS w),.str k,v]/\H p=some (.ins A.zdU dx []) /\
 ∀ H',H' p=some (.ins A.zdU dx [("use",.str (useS w)),("key",.str k),("value",v)])->zcv H p H'->Q .non H'
def zjO (A:Ad):Sp:=λ vs H Q _=>∃ (p dx:Addr),vs=[.ref p]/\H p=some (.ins A.zaB dx []) /\
 ∀ H' d,H d=none->H' p=some (.ins A.zaB dx (recF .zas d .non))->H' d=some (.lst [])->zcv H p H'->Q .non H'
def zn2 (A:Ad):Sp:=λ vs H Q _=>∃ (p dx d:Addr) (st:DS) (w:V),vs=[.ref p]/\H p=some (.ins A.zaB dx (recF st d w))/\Q (.bl (decide (st=.kept\/st=.dropped))) H
def zew (p:Str×Int):List V:=[.str p.1,.int p.2]
structure RecAt (A:Ad) (H:Hp) (p:Addr) (st:DS) (d:Addr) (w:V) (done:List (Act Str)):Prop where
 ob:∃ dx,H p=some (.ins A.zaB dx (recF st d w))
 did:∃ us,H d=some (.lst us)/\zao H us (done.map actV)
def znZ (A:Ad):Sp:=λ vs H Q _=>∃ p st d w done,vs=[.ref p]/\RecAt A H p st d w done/\done.length < 3000 /\
 ∀ H' q us,Same H H'->H' q=some (.lst us)->zao H' us ((zar done).map zew)->Q (.ref q) H'
def zcV:Option (Act Str)->List Str
 | none=>[]
 | some a=>[a.key]
def zn0 (A:Ad):Sp:=λ vs H Q _=>∃ p st d w done o,vs=[.ref p]/\RecAt A H p st d w done/\zcu A H w o/\done.length < 3000/\(ordS (done.map (·.key)++zcV o)).length < 64 /\
 ∀ H' q,H q=none->Same H H'->H' q=some (.tup ((ordS (done.map (·.key)++zcV o)).map V.str))->Q (.ref q) H'
end TP
end
section
namespace TP
open PySem L2 TH
theorem zcQ {a b:Nat}:((Sum.inl (a:Int):Key)=Sum.inl (b:Int))↔a=b:=⟨λ h=>by have:=Sum.inl.inj h; omega,λ h=>by rw [h]⟩
theorem zfq (h:List (Nat×Bool)) (d:Nat):valV (zb8 h) (Sum.inl (d:Int))=(look h d).map λ w=>V.str (useS w):=by
 unfold zb8 look
 induction h with
 | nil=>rfl
 | cons p r ih =>
  rw [List.map_cons]
  by_cases e:p.1=d
  . rw [zbD (zcQ.mpr e)]; simp [List.find?_cons,e]
  . rw [zbE λ z=>e (zcQ.mp z),ih]; simp [List.find?_cons,e]
theorem zp9 (h:List (Nat×Bool)) (d:Nat):((zb8 h).any λ kv=>decide (kv.1=(Sum.inl (d:Int):Key)))=h.any λ p=>p.1 == d:=by
 unfold zb8
 rw [List.any_map]
 congr 1
 funext p
 show decide ((Sum.inl (p.1:Int):Key)=Sum.inl (d:Int))=(p.1 == d)
 rw [Bool.eq_iff_iff]
 simp only [decide_eq_true_eq,beq_iff_eq]
 exact zcQ
theorem zp8 (h:List (Nat×Bool)) (d:Nat) (w:Bool):putK (zb8 h) (Sum.inl (d:Int)) (V.str (useS w))=zb8 (zbi h d w):=by
 unfold putK zbi
 rw [zp9]
 split
 . unfold zb8
   rw [List.map_map,List.map_map]
   refine List.map_congr_left λ p hp=>?_
   show (if (Sum.inl (p.1:Int):Key)=Sum.inl (d:Int) then ((Sum.inl (p.1:Int):Key),V.str (useS w)) else ((Sum.inl (p.1:Int):Key),V.str (useS p.2)))=((Sum.inl (((if (p.1 == d)=true then (d,w) else p).1:Nat):Int):Key),V.str (useS (if (p.1 == d)=true then (d,w) else p).2))
   by_cases e:p.1=d
   . rw [if_pos (zcQ.mpr e),if_pos (by simpa using e)]; simp [e]
   . rw [if_neg λ z=>e (zcQ.mp z),if_neg (by simpa using e)]
 . unfold zb8; rw [List.map_append]; rfl
theorem zoT (h:List (Nat×Bool)) (d:Nat):zh4 (zb8 h) (Sum.inl (d:Int))=zb8 (less h d):=by
 unfold zh4 less zb8
 rw [List.filter_map]
 congr 1
 refine List.filter_congr λ p _=>?_
 show decide ((Sum.inl (p.1:Int):Key)≠Sum.inl (d:Int))=(p.1 != d)
 rw [Bool.eq_iff_iff]
 simp only [decide_eq_true_eq,bne_iff_ne]
 exact not_congr zcQ
theorem less_none {h:List (Nat×Bool)} {d:Nat} (e:look h d=none):less h d=h:=by
 unfold less
 refine List.filter_eq_self.mpr λ p hp=>?_
 unfold look at e
 rw [Option.map_eq_none_iff,List.find?_eq_none] at e
 simpa using e p hp
theorem zhq (h:List (Nat×Bool)):(zb8 h).length=h.length:=by unfold zb8; rw [List.length_map]
theorem zhG (l:List (Str×Int)):(bkV l).length=l.length:=by unfold bkV; rw [List.length_map]
def bput (l:List (Str×Int)) (k:Str) (v:Int):List (Str×Int):=if (l.any λ p=>decide (p.1=k))=true then l.map (λ p=>if p.1=k then (p.1,v) else p) else l++[(k,v)]
theorem zrH (l:List (Str×Int)) (k:Str):((bkV l).any λ kv=>decide (kv.1=(Sum.inr k:Key)))=l.any λ p=>decide (p.1=k):=by
 unfold bkV
 rw [List.any_map]
 congr 1
 funext p
 show decide ((Sum.inr p.1:Key)=Sum.inr k)=decide (p.1=k)
 exact zqC _ _
theorem zhF (l:List (Str×Int)) (k:Str) (v:Int):putK (bkV l) (Sum.inr k) (V.int v)=bkV (bput l k v):=by
 unfold putK bput
 rw [zrH]
 split
 . unfold bkV
   rw [List.map_map,List.map_map]
   refine List.map_congr_left λ p hp=>?_
   show (if (Sum.inr p.1:Key)=Sum.inr k then ((Sum.inr p.1:Key),V.int v) else ((Sum.inr p.1:Key),V.int p.2))=((Sum.inr (if p.1=k then (p.1,v) else p).1:Key),V.int (if p.1=k then (p.1,v) else p).2)
   by_cases e:p.1=k
   . rw [if_pos (congrArg Sum.inr e),if_pos e]
   . rw [if_neg λ z=>e (Sum.inr.inj z),if_neg e]
 . unfold bkV; rw [List.map_append]; rfl
def zqk (l:List (Str×Int)) (k:Str):List (Str×Int):=l.filter λ p=>decide (p.1≠k)
theorem zqj (l:List (Str×Int)) (k:Str):zh4 (bkV l) (Sum.inr k)=bkV (zqk l k):=by
 unfold zh4 zqk bkV
 rw [List.filter_map]
 congr 1
 refine List.filter_congr λ p _=>?_
 show decide ((Sum.inr p.1:Key)≠Sum.inr k)=decide (p.1≠k)
 rw [Bool.eq_iff_iff]
 simp only [decide_eq_true_eq]
 exact not_congr ⟨λ z=>Sum.inr.inj z,λ z=>by rw [z]⟩
theorem zbn.has {l:List (Str×Int)} {b:Book Str} (h:zbn l b) (k:Str):(l.any λ p=>decide (p.1=k))=(b k).isSome:=by
 cases e:b k with
 | none =>
  refine List.any_eq_false.mpr λ p hp z=>?_
  have hk:p.1=k:=by simpa using z
  have:=(h.mem p.1 p.2).mp hp
  rw [hk,e] at this; cases this
 | some v=>exact List.any_eq_true.mpr ⟨(k,v),(h.mem k v).mpr e,by simp⟩
theorem zbn.put {l:List (Str×Int)} {b:Book Str} (h:zbn l b) (k:Str) (v:Int):zbn (bput l k v) (up b k (some v)):=by
 unfold bput
 rw [h.has k]
 cases e:b k with
 | none =>
  simp only [Option.isSome_none,Bool.false_eq_true,if_false]
  have hn:∀ p∈l,p.1≠k:=λ p hp z=>by
    have:=(h.mem p.1 p.2).mp hp
    rw [z,e] at this; cases this
  refine ⟨?_,λ k' v'=>?_⟩
  . rw [List.map_append]
    refine List.nodup_append.mpr ⟨h.nd,by simp,λ a ha c hc=>?_⟩
    obtain ⟨p,hp,rfl⟩:=List.mem_map.mp ha
    rw [List.mem_singleton.mp hc]; exact hn p hp
  . rw [List.mem_append,List.mem_singleton]
    by_cases hk:k'=k
    . subst hk
      rw [zag]
      exact ⟨λ z=>z.elim (λ q=>absurd rfl (hn _ q)) λ q=>by cases q; rfl,λ z=>.inr (by cases z; rfl)⟩
    . rw [zan hk,<-h.mem]
      exact ⟨λ z=>z.elim id λ q=>absurd (by cases q; rfl) hk,.inl⟩
 | some v0 =>
  simp only [Option.isSome_some,if_true]
  have hk1:(l.map λ p=>if p.1=k then (p.1,v) else p).map (·.1)=l.map (·.1):=by
    rw [List.map_map]
    refine List.map_congr_left λ p _=>?_
    show (if p.1=k then (p.1,v) else p).1=p.1
    split <;> rfl
  refine ⟨by rw [hk1]; exact h.nd,λ k' v'=>?_⟩
  rw [List.mem_map]
  by_cases hk:k'=k
  . subst hk
    rw [zag]
    refine ⟨λ ⟨p,hp,q⟩=>?_,λ z=>?_⟩
    . by_cases hpk:p.1=k'
      . rw [if_pos hpk] at q; cases q; rfl
      . rw [if_neg hpk] at q; subst q; exact absurd rfl hpk
    . cases z
      exact ⟨(k',v0),(h.mem _ _).mpr e,by simp⟩
  . rw [zan hk,<-h.mem]
    refine ⟨λ ⟨p,hp,q⟩=>?_,λ z=>⟨(k',v'),z,by rw [if_neg hk]⟩⟩
    by_cases hpk:p.1=k
    . rw [if_pos hpk] at q; cases q; exact absurd hpk hk
    . rw [if_neg hpk] at q; subst q; exact hp
theorem zbn.drop {l:List (Str×Int)} {b:Book Str} (h:zbn l b) (k:Str):zbn (zqk l k) (up b k none):=by
 unfold zqk
 refine ⟨?_,λ k' v'=>?_⟩
 . exact h.nd.sublist (List.filter_sublist.map _)
 . rw [List.mem_filter]
   by_cases hk:k'=k
   . subst hk; rw [zag]; simp
   . rw [zan hk,<-h.mem]; simp [hk]
theorem zbn.zo8 {l:List (Str×Int)} {b:Book Str} (h:zbn l b) {k:Str} (e:b k=none):zbn l (up b k none):=by
 have:up b k none=b:=by
  funext x; by_cases hx:x=k
  . subst hx; rw [zag,e]
  . rw [zan hx]
 rw [this]; exact h
theorem zbn.len {l:List (Str×Int)} {b:Book Str} (h:zbn l b) {ks:List Str} (nd:ks.Nodup) (hk:∀ k,b k≠none->k∈ks):l.length<=ks.length:=by
 have:∀ (a c:List Str),a.Nodup->(∀ x∈a,x∈c)->a.length<=c.length:=λ a=>by
  induction a with
  | nil=>intro c _ _; simp
  | cons x r ih =>
   intro c nd hs
   obtain ⟨n1,n2⟩:=List.nodup_cons.mp nd
   have hx:=hs x List.mem_cons_self
   have:=ih (c.erase x) n2 λ z hz=>(List.mem_erase_of_ne (show z≠x from λ e=>n1 (e ▸ hz))).mpr (hs z (List.mem_cons_of_mem _ hz))
   rw [List.length_erase_of_mem hx] at this
   have hpos:0 < c.length:=List.length_pos_of_mem hx
   simp only [List.length_cons]; omega
 have:=this (l.map (·.1)) ks h.nd λ x hx=>by
  obtain ⟨p,hp,rfl⟩:=List.mem_map.mp hx
  exact hk p.1 (by rw [(h.mem p.1 p.2).mp hp]; exact λ z=>nomatch z)
 rwa [List.length_map] at this
def zdL (ad:Role->Addr) (seen:List Str):List (Key×V):=seen.map λ k=>(Sum.inr k,.ref (ad (.desk k)))
theorem zej (ad:Role->Addr) (k:Str):∀ seen:List Str,valV (zdL ad seen) (Sum.inr k)=if k∈seen then some (.ref (ad (.desk k))) else none
 | []=>rfl
 | x::r=>by
  unfold zdL
  rw [List.map_cons]
  by_cases e:x=k
  . subst e; rw [zbD rfl]; simp
  . rw [zbE λ z=>e (Sum.inr.inj z)]
    have:=zej ad k r
    unfold zdL at this
    rw [this]
    have:(k∈x::r)↔k∈r:=by rw [List.mem_cons]; exact ⟨λ z=>z.resolve_left λ q=>e q.symm,.inr⟩
    by_cases hk:k∈r
    . rw [if_pos hk,if_pos (this.mpr hk)]
    . rw [if_neg hk,if_neg λ z=>hk (this.mp z)]
theorem zbV {H:Hp} {us:List V} {xss:List (List V)} (t:zao H us xss) {i:Nat} {x:V} (h:us[i]?=some x):∃ y,xss[i]?=some y/\TupAt H x y:=S6.zi1 t h
theorem zdX {H:Hp}:∀ {us:List V} {xss:List (List V)},zao H us xss->∀ {i:Nat} {y:List V},xss[i]?=some y->∃ x,us[i]?=some x/\TupAt H x y
 | _,_,.nil,_,_,h=>by simp at h
 | _,_,.cons r _,0,_,h=>by simp at h; subst h; exact ⟨_,rfl,r⟩
 | _,_,.cons _ t,i+1,_,h=>by
  obtain ⟨x,h1,h2⟩:=zdX t (i:=i) (by simpa using h)
  exact ⟨x,by simpa using h1,h2⟩
theorem zaH {H H':Hp} (m:Same H H') {us:List V} {xss:List (List V)} (t:zao H us xss):zao H' us xss:=by
 induction t with
 | nil=>exact .nil
 | cons r _ ih=>obtain ⟨p,e,q⟩:=r; exact .cons ⟨p,e,m p _ q⟩ ih
theorem zqQ {H:Hp} {a q:Addr} {x o y:HO} (e:H a=some y) (hq:H q=none):upd (upd (upd H a x) q o) a y=upd H q o:=by
 funext b
 by_cases hb:b=a
 . subst hb; rw [zab,zae (zaf e hq)]; exact e.symm
 . rw [zae hb]
   by_cases hbq:b=q
   . subst hbq; rw [zab,zab]
   . rw [zae hbq,zae hb,zae hbq]
end TP
end
section
namespace TP
open PySem L2 TH
structure zdQ (A:Ad) (H:Hp) (p hd rw:Addr) (h r:List (Nat×Bool)):Prop where
 ob:∃ dx,H p=some (.ins A.zcb dx (zh5 hd rw))
 hd:H hd=some (.dK (zb8 h))
 rw:∃ us,H rw=some (.lst us)/\zao H us (r.map zch)
def znd (A:Ad):Sp:=λ vs H Q _=>∃ (p dx:Addr),vs=[.ref p]/\H p=some (.ins A.zcb dx []) /\
 ∀ H' hd rw,H hd=none->H rw=none->H' p=some (.ins A.zcb dx (zh5 hd rw))->H' hd=some (.dK [])->H' rw=some (.lst [])->zcv H p H'->Q .non H'
def zay (l:List Nat):List V:=l.map λ (n:Nat)=>V.int (n:Int)
def zk9 (A:Ad):Sp:=λ vs H Q _=>∃ (p hd rw:Addr) (h r:List (Nat×Bool)) (d:Nat) (w:Bool),vs=[.ref p,.int d,.str (useS w)]/\zdQ A H p hd rw h r/\h.length<=1000/\(h.map (·.1)).Nodup /\
 ∀ H' q,H q=none->Same H H'->H' q=some (.lst (zay (hind h d w)))->Q (.ref q) H'
def zmo (A:Ad):Sp:=λ vs H Q _=>∃ (p hd rw:Addr) (h r:List (Nat×Bool)) (d:Nat) (w:Bool),vs=[.ref p,.int d,.str (useS w)]/\zdQ A H p hd rw h r/\h.length<=1000/\(h.map (·.1)).Nodup /\
 ∀ H',Same H H'->Q (.bl (lets h d w)) H'
def zjQ (A:Ad):Sp:=λ vs H Q _=>∃ (p hd rw:Addr) (h r:List (Nat×Bool)) (d:Nat) (w:Bool),vs=[.ref p,.int d,.str (useS w)]/\zdQ A H p hd rw h r/\h.length<=1000/\(h.map (·.1)).Nodup /\
 ∀ H',Same H H'->Q (.bl ((has h d || r.isEmpty) && lets h d w)) H'
def zoH (h:List (Nat×Bool)):List (Nat×Bool)->Bool
 | []=>false
 | (d,w)::_=>lets h d w
def zk8 (A:Ad):Sp:=λ vs H Q _=>∃ (p hd rw:Addr) (h r:List (Nat×Bool)),vs=[.ref p]/\zdQ A H p hd rw h r/\h.length<=1000/\(h.map (·.1)).Nodup /\
 ∀ H',Same H H'->Q (.bl (zoH h r)) H'
def zr3 (A:Ad):Sp:=λ vs H Q _=>∃ (p hd rw:Addr) (h r:List (Nat×Bool)) (d:Nat) (w:Bool),vs=[.ref p,.int d,.str (useS w)]/\zdQ A H p hd rw h r/\h.length<=1000/\(h.map (·.1)).Nodup /\
 ∀ H',H' hd=some (.dK (zb8 (take1 h d w)))->zcv H hd H'->Q .non H'
def zp1 (h r:List (Nat×Bool)) (d:Nat) (w:Bool):List (Nat×Bool):=if has h d then (d,w)::r else r++[(d,w)]
def zpz (A:Ad):Sp:=λ vs H Q _=>∃ (p hd rw:Addr) (h r:List (Nat×Bool)) (d:Nat) (w:Bool),vs=[.ref p,.int d,.str (useS w)]/\zdQ A H p hd rw h r/\r.length<=1000 /\
 ∀ H' us,H' rw=some (.lst us)->zao H' us ((zp1 h r d w).map zch)->zcv H rw H'->Q .non H'
def zq3 (A:Ad):Sp:=λ vs H Q _=>∃ (p hd rw dx:Addr) (h r:List (Nat×Bool)) (d:Nat),vs=[.ref p,.int d]/\zdQ A H p hd rw h r/\H p=some (.ins A.zcb dx (zh5 hd rw))/\r.length<=1000 /\
 ∀ H' rw' us,H rw'=none->H' p=some (.ins A.zcb dx (zh5 hd rw'))->H' hd=some (.dK (zb8 (less h d)))->H' rw'=some (.lst us)->zao H' us ((less r d).map zch)->(∀ b o,H b=some o->b≠p->b≠hd->H' b=some o)->Q .non H'
def zjP (A:Ad):Sp:=λ vs H Q _=>∃ (p hd rw:Addr) (h r:List (Nat×Bool)) (d:Nat) (w:Bool),vs=[.ref p,.int d,.str (useS w)]/\zdQ A H p hd rw h r/\h.length<=1000/\(h.map (·.1)).Nodup/\r.length<=1000/\(d,w)∈r/\(r.map (·.1)).Nodup /\
 ∀ H' q,H q=none->Same H H'->H' q=some (.lst (zay (zi7 h r d w)))->Q (.ref q) H'
theorem zeC {c:Bool} {A B:Prop} (b:Bool) (h:c=b) (k:if b=true then A else B):if c=true then A else B:=by rw [h]; exact k
theorem zby {c:Bool} {A B:Prop} (h:c=true) (k:A):if c=true then A else B:=by rw [if_pos h]; exact k
theorem zaO {c:Bool} {A B:Prop} (h:c=false) (k:B):if c=true then A else B:=by rw [if_neg (by rw [h]; exact Bool.false_ne_true)]; exact k
theorem zo6 (a b:Nat):decide (V.int (a:Int)=V.int (b:Int))=(a == b):=by
 rw [Bool.eq_iff_iff,decide_eq_true_eq,beq_iff_eq]
 exact ⟨λ h=>by have:=V.int.inj h; omega,λ h=>by rw [h]⟩
theorem zqx (a b:Nat):(!decide (V.int (a:Int)=V.int (b:Int)))=(a != b):=by rw [zo6]; rfl
theorem zkt (h:List (Nat×Bool)) (d:Nat):(look h d).isSome=has h d:=by
 unfold look has
 rw [Option.isSome_map]
 induction h with
 | nil=>rfl
 | cons p r ih =>
  rw [List.find?_cons,List.any_cons]
  cases e:(p.1 == d) with
  | true=>rfl
  | false=>rw [Bool.false_or]; exact ih
theorem zpt {a b:Bool}:(V.str (useS a)=V.str (useS b))↔a=b:=by
 refine ⟨λ h=>?_,λ h=>by rw [h]⟩
 have e:=V.str.inj h
 cases a <;> cases b <;> first | rfl | exact absurd e (by decide +kernel)
theorem zgK (w:Bool):decide (V.str (useS w)=V.str "writing")=w:=by
 have:=zpt (a:=w) (b:=true)
 cases w with
 | true=>exact decide_eq_true rfl
 | false=>exact decide_eq_false λ z=>by cases this.mp z
theorem zdQ.same {A:Ad} {H H':Hp} {p hd rw:Addr} {h r:List (Nat×Bool)} (D:zdQ A H p hd rw h r) (m:Same H H'):zdQ A H' p hd rw h r:=by
 obtain ⟨⟨dx,e⟩,e2,us,e3,t⟩:=D
 exact ⟨⟨dx,m _ _ e⟩,m _ _ e2,us,m _ _ e3,zaH m t⟩
theorem zoR (h:List (Nat×Bool)) (d:Nat) (w:Bool):decide ((hind h d w).length=0)=lets h d w:=by
 unfold hind lets
 rw [List.length_map]
 rw [Bool.eq_iff_iff,decide_eq_true_eq,List.length_eq_zero_iff,List.filter_eq_nil_iff,List.all_eq_true]
 refine forall_congr' λ p=>forall_congr' λ _=>?_
 cases w <;> cases p.2 <;> simp
end TP
namespace TP
open PySem L2 TH
theorem zmz {H:Hp}:∀ {us:List V} {r:List (Nat×Bool)},zao H us (r.map zch)->DVs H us (r.map λ p=>PySem.W.Dat.tuple [.int p.1,.str (useS p.2)])
 | [],[],_=>.nil
 | _::_,_::_,.cons ⟨p,e,q⟩ t=>by subst e; exact .cons (.tup q (.cons (.int _) (.cons (.str _) .nil))) (zmz t)
theorem zrO (w:Bool):PyData.strOk (useS w)=true:=by cases w <;> decide +kernel
theorem zoo (i:Int) (w:Bool):PySem.W.kqdOk 7 (.tuple [.int i,.str (useS w)])=true:=by
 simp only [PySem.W.kqdOk,List.all_cons,List.all_nil,zrO,Bool.and_self]
end TP
end
section
namespace TP
open PySem L2 TH
section
variable {A:Ad} {ρ:Addr->Role} {ad:Role->Addr} {s s':HS Str} {kv kv':Book Str} {H H':Hp}
theorem zai.hall (h:zai A ρ ad s kv H):∃ dx,H (ad .hall)=some (.ins A.za1 dx (zlF ad)):=by
 obtain ⟨o,e,dx,rfl⟩:=h.at_ .hall trivial; exact ⟨dx,e⟩
theorem zai.recs (h:zai A ρ ad s kv H):H (ad .recs)=some (.lst ((List.range s.n).map λ i=>.ref (ad (.rcd i)))):=by
 obtain ⟨o,e,r⟩:=h.at_ .recs trivial; rw [e]; exact congrArg some r
theorem zai.zbO (h:zai A ρ ad s kv H):H (ad .zbO)=some (.dK (zdL ad s.seen)):=by
 obtain ⟨o,e,r⟩:=h.at_ .zbO trivial; rw [e]; exact congrArg some r
theorem zai.zco (h:zai A ρ ad s kv H):∃ l,H (ad .zco)=some (.dK (bkV l))/\zbn l s.book:=by
 obtain ⟨o,e,l,rfl,b⟩:=h.at_ .zco trivial; exact ⟨l,e,b⟩
theorem zai.zdb (h:zai A ρ ad s kv H):∃ l,H (ad .zdb)=some (.dK (bkV l))/\zbn l kv:=by
 obtain ⟨o,e,l,rfl,b⟩:=h.at_ .zdb trivial; exact ⟨l,e,b⟩
theorem zai.order (h:zai A ρ ad s kv H):H (ad .order)=some (.lst (zay s.kept)):=by
 obtain ⟨o,e,r⟩:=h.at_ .order trivial; rw [e]; exact congrArg some r
theorem zai.rows (h:zai A ρ ad s kv H):∃ us,H (ad .rows)=some (.lst us)/\zao H us (s.log.map rowV):=by
 obtain ⟨o,e,us,rfl,t⟩:=h.at_ .rows trivial; exact ⟨us,e,t⟩
theorem zai.rcd (h:zai A ρ ad s kv H) {i:Nat} (hi:i < s.n):∃ dx w,H (ad (.rcd i))=some (.ins A.zaB dx (recF (s.deed i).st (ad (.did i)) w))/\zcu A H w (wantOf (s.deed i)):=by
 obtain ⟨o,e,dx,w,rfl,t⟩:=h.at_ (.rcd i) hi; exact ⟨dx,w,e,t⟩
theorem zai.did (h:zai A ρ ad s kv H) {i:Nat} (hi:i < s.n):∃ us,H (ad (.did i))=some (.lst us)/\zao H us ((s.deed i).done.map actV):=by
 obtain ⟨o,e,us,rfl,t⟩:=h.at_ (.did i) hi; exact ⟨us,e,t⟩
theorem zai.recAt (h:zai A ρ ad s kv H) {i:Nat} (hi:i < s.n):∃ w,RecAt A H (ad (.rcd i)) (s.deed i).st (ad (.did i)) w (s.deed i).done/\zcu A H w (wantOf (s.deed i)):=by
 obtain ⟨dx,w,e,t⟩:=h.rcd hi
 exact ⟨w,⟨⟨dx,e⟩,h.did hi⟩,t⟩
theorem zai.desk (h:zai A ρ ad s kv H) {k:Str} (hk:k∈s.seen):zdQ A H (ad (.desk k)) (ad (.held k)) (ad (.row k)) (s.held k) (s.rows k):=by
 obtain ⟨o,e,dx,rfl⟩:=h.at_ (.desk k) hk
 obtain ⟨o2,e2,r2⟩:=h.at_ (.held k) hk
 obtain ⟨o3,e3,us,rfl,t⟩:=h.at_ (.row k) hk
 exact ⟨⟨dx,e⟩,by rw [e2]; exact congrArg some r2,us,e3,t⟩
theorem zai.zfh (h:zai A ρ ad s kv H) {i:Nat} (hi:i < s.n):((List.range s.n).map λ i=>V.ref (ad (.rcd i)))[i]?=some (V.ref (ad (.rcd i))):=by
 rw [List.getElem?_map,List.getElem?_range hi]; rfl
theorem zai.zfw (h:zai A ρ ad s kv H) {k:Str} (hk:k∈s.seen):DGet H (ad .zbO) (V.str k) (some (.ref (ad (.desk k)))):=by
 have:=DGet.k (k:=Sum.inr k) h.zbO
 rw [zej,if_pos hk] at this; exact this
theorem Imm.zfU (ok:AdOk A) {r:Role} (h:zai A ρ ad s kv H) (l:live s r) (kp:zcv H (ad r) H'):Imm A H H':=by
 obtain ⟨o₀,e₀,a₀⟩:=h.at_ r l
 obtain ⟨m1,m2⟩:=a₀.mut ok
 exact ⟨λ p xs e=>kp p _ e (za2 e e₀ λ z=>m1 xs z.symm),λ p dx fs e=>kp p _ e (za2 e e₀ λ z=>m2 dx fs z.symm)⟩
theorem zai.put' (ok:AdOk A) (h:zai A ρ ad s kv H) {r:Role} {o:HO} (l:live s r) (e:H' (ad r)=some o) (kp:zcv H (ad r) H') (new:At A ad s' kv' H' r o) (lv:∀ r',r'≠r->live s' r'->live s r')
   (oth:∀ r' o',r'≠r->live s' r'->At A ad s kv H' r' o'->At A ad s' kv' H' r' o'):zai A ρ ad s' kv' H'/\Frame ρ H ρ H':=by
 have im:=Imm.zfU ok h l kp
 refine ⟨⟨λ r' l'=>?_,λ r' l'=>?_,λ b eb=>?_⟩,λ b u eb q=>?_,im.tup⟩
 . by_cases hr:r'=r
   . subst hr; exact ⟨o,e,new⟩
   . obtain ⟨o',e',a'⟩:=h.at_ r' (lv r' hr l')
     exact ⟨o',kp _ _ e' (h.ne (lv r' hr l') l hr),oth r' o' hr l' (a'.mono im)⟩
 . by_cases hr:r'=r
   . subst hr; exact h.ro r' l
   . exact h.ro r' (lv r' hr l')
 . refine h.fr b ?_
   cases q:H b with
   | none=>rfl
   | some u =>
     by_cases z:b=ad r
     . subst z; rw [e] at eb; cases eb
     . rw [kp b u q z] at eb; cases eb
 . have hb:b≠ad r:=λ z=>by rw [z,h.ro r l] at q; exact zoG l q
   exact ⟨kp b u eb hb,q⟩
theorem zda {s s':HS Str} (h1:s'.n=s.n) (h2:s'.seen=s.seen) {r:Role} (l:live s' r):live s r:=by
 cases r <;> first | exact l | (show _ < s.n; rw [<-h1]; exact l) | (show _∈s.seen; rw [<-h2]; exact l)
theorem zai.zm1 (ok:AdOk A) (h:zai A ρ ad s kv H) {row:Row Str} {us:List V} {v:V} (e0:H (ad .rows)=some (.lst us)) (e:H' (ad .rows)=some (.lst (us++[v]))) (kp:zcv H (ad .rows) H') (t:TupAt H' v (rowV row)) :
   zai A ρ ad { s with log:=s.log++[row] } kv H'/\Frame ρ H ρ H':=by
 obtain ⟨us',e1,tu⟩:=h.rows
 rw [e0] at e1; cases e1
 refine h.put' ok (r:=.rows) trivial e kp ⟨_,rfl,?_⟩ (λ r' _ l=>zda (s:=s) rfl rfl l) λ r' o' hr l a=>?_
 . show zao H' _ ((s.log++[row]).map rowV)
   rw [List.map_append]
   exact S6.zbS (zao.mono (Imm.zfU ok h (r:=.rows) trivial kp) tu) t
 . cases r' <;> first | exact a | exact absurd rfl hr
theorem zai.zql (ok:AdOk A) (h:zai A ρ ad s kv H) {d:Nat} (e:H' (ad .order)=some (.lst (zay s.kept++[V.int (d:Int)]))) (kp:zcv H (ad .order) H') :
   zai A ρ ad { s with kept:=s.kept++[d] } kv H'/\Frame ρ H ρ H':=by
 refine h.put' ok (r:=.order) trivial e kp ?_ (λ r' _ l=>zda (s:=s) rfl rfl l) λ r' o' hr l a=>?_
 . show _=HO.lst ((s.kept++[d]).map _)
   rw [List.map_append]; rfl
 . cases r' <;> first | exact a | exact absurd rfl hr
theorem zai.zmp (ok:AdOk A) (h:zai A ρ ad s kv H) {l:List (Str×Int)} {b:Book Str} (e:H' (ad .zco)=some (.dK (bkV l))) (kp:zcv H (ad .zco) H') (hb:zbn l b) :
  zai A ρ ad { s with book:=b } kv H'/\Frame ρ H ρ H':=by
 refine h.put' ok (r:=.zco) trivial e kp ⟨l,rfl,hb⟩ (λ r' _ l=>zda (s:=s) rfl rfl l) λ r' o' hr l a=>?_
 cases r' <;> first | exact a | exact absurd rfl hr
theorem zai.zpF (ok:AdOk A) (h:zai A ρ ad s kv H) {l:List (Str×Int)} {b:Book Str} (e:H' (ad .zdb)=some (.dK (bkV l))) (kp:zcv H (ad .zdb) H') (hb:zbn l b) :
  zai A ρ ad s b H'/\Frame ρ H ρ H':=by
 refine h.put' ok (r:=.zdb) trivial e kp ⟨l,rfl,hb⟩ (λ r' _ l=>zda (s:=s) rfl rfl l) λ r' o' hr l a=>?_
 cases r' <;> first | exact a | exact absurd rfl hr
theorem zai.zn9 (ok:AdOk A) (h:zai A ρ ad s kv H) {d:Nat} (hd:d < s.n) {D:Deed Str} {w:V} {dx:Addr} (e:H' (ad (.rcd d))=some (.ins A.zaB dx (recF D.st (ad (.did d)) w))) (kp:zcv H (ad (.rcd d)) H') (hw:zcu A H' w (wantOf D)) (hdn:D.done=(s.deed d).done) :
   zai A ρ ad { s with deed:=up s.deed d D } kv H'/\Frame ρ H ρ H':=by
 refine h.put' ok (r:=.rcd d) hd e kp ?_ (λ r' _ l=>zda (s:=s) rfl rfl l) λ r' o' hr l a=>?_
 . refine ⟨dx,w,?_,?_⟩
   . show _=HO.ins A.zaB dx (recF (up s.deed d D d).st _ w)
     rw [zag]
   . show zcu A H' w (wantOf (up s.deed d D d))
     rw [zag]; exact hw
 . cases r' with
   | rcd i =>
     have hi:i≠d:=λ z=>hr (by rw [z])
     obtain ⟨dx',w',e',t⟩:=a
     refine ⟨dx',w',?_,?_⟩
     . show _=HO.ins A.zaB dx' (recF (up s.deed d D i).st _ w')
       rw [zan hi]; exact e'
     . show zcu A H' w' (wantOf (up s.deed d D i))
       rw [zan hi]; exact t
   | did i =>
     obtain ⟨us,e',t⟩:=a
     refine ⟨us,e',?_⟩
     show zao H' us ((up s.deed d D i).done.map actV)
     by_cases hi:i=d
     . subst hi; rw [zag,hdn]; exact t
     . rw [zan hi]; exact t
   | _=>exact a
theorem zai.zsS (ok:AdOk A) (h:zai A ρ ad s kv H) {d:Nat} (hd:d < s.n) {a:Act Str} {us:List V} {v:V} (e0:H (ad (.did d))=some (.lst us)) (e:H' (ad (.did d))=some (.lst (us++[v]))) (kp:zcv H (ad (.did d)) H') (t:TupAt H' v (actV a)) :
   zai A ρ ad { s with deed:=up s.deed d { s.deed d with done:=(s.deed d).done++[a] } } kv H'/\Frame ρ H ρ H':=by
 obtain ⟨us',e1,tu⟩:=h.did hd
 rw [e0] at e1; cases e1
 refine h.put' ok (r:=.did d) hd e kp ⟨_,rfl,?_⟩ (λ r' _ l=>zda (s:=s) rfl rfl l) λ r' o' hr l b=>?_
 . show zao H' _ ((up s.deed d _ d).done.map actV)
   rw [zag]
   show zao H' _ (((s.deed d).done++[a]).map actV)
   rw [List.map_append]
   exact S6.zbS (zao.mono (Imm.zfU ok h (r:=.did d) hd kp) tu) t
 . cases r' with
   | rcd i =>
    obtain ⟨dx',w',e',t'⟩:=b
    refine ⟨dx',w',?_,?_⟩
    . show _=HO.ins A.zaB dx' (recF (up s.deed d _ i).st _ w')
      by_cases hi:i=d
      . subst hi; rw [zag]; exact e'
      . rw [zan hi]; exact e'
    . show zcu A H' w' (wantOf (up s.deed d _ i))
      by_cases hi:i=d
      . subst hi; rw [zag]; exact t'
      . rw [zan hi]; exact t'
   | did i =>
    have hi:i≠d:=λ z=>hr (by rw [z])
    obtain ⟨us',e',t'⟩:=b
    refine ⟨us',e',?_⟩
    show zao H' us' ((up s.deed d _ i).done.map actV)
    rw [zan hi]; exact t'
   | _=>exact b
theorem zai.zrc (ok:AdOk A) (h:zai A ρ ad s kv H) {k:Str} (hk:k∈s.seen) {hs:List (Nat×Bool)} (e:H' (ad (.held k))=some (.dK (zb8 hs))) (kp:zcv H (ad (.held k)) H') :
   zai A ρ ad { s with held:=up s.held k hs } kv H'/\Frame ρ H ρ H':=by
 refine h.put' ok (r:=.held k) hk e kp ?_ (λ r' _ l=>zda (s:=s) rfl rfl l) λ r' o' hr l b=>?_
 . show _=HO.dK (zb8 (up s.held k hs k))
   rw [zag]
 . cases r' with
   | held j =>
    have hj:j≠k:=λ z=>hr (by rw [z])
    show o'=HO.dK (zb8 (up s.held k hs j))
    rw [zan hj]; exact b
   | _=>exact b
theorem zai.zqp (ok:AdOk A) (h:zai A ρ ad s kv H) {k:Str} (hk:k∈s.seen) {r:List (Nat×Bool)} {us:List V} (e:H' (ad (.row k))=some (.lst us)) (kp:zcv H (ad (.row k)) H') (t:zao H' us (r.map zch)) :
   zai A ρ ad { s with rows:=up s.rows k r } kv H'/\Frame ρ H ρ H':=by
 refine h.put' ok (r:=.row k) hk e kp ?_ (λ r' _ l=>zda (s:=s) rfl rfl l) λ r' o' hr l b=>?_
 . refine ⟨us,rfl,?_⟩
   show zao H' us ((up s.rows k r k).map zch)
   rw [zag]; exact t
 . cases r' with
   | row j =>
    have hj:j≠k:=λ z=>hr (by rw [z])
    obtain ⟨us',e',t'⟩:=b
    refine ⟨us',e',?_⟩
    show zao H' us' ((up s.rows k r j).map zch)
    rw [zan hj]; exact t'
   | _=>exact b
theorem zai.leave (ok:AdOk A) (h:zai A ρ ad s kv H) {k:Str} {d:Nat} (hk:k∈s.seen) {dx p':Addr} {us:List V} (n:H p'=none) (e1:H' (ad (.desk k))=some (.ins A.zcb dx (zh5 (ad (.held k)) p'))) (e2:H' (ad (.held k))=some (.dK (zb8 (less (s.held k) d)))) (e3:H' p'=some (.lst us)) (t:zao H' us ((less (s.rows k) d).map zch))
   (kp:∀ b o,H b=some o->b≠ad (.desk k)->b≠ad (.held k)->H' b=some o):∃ ρ' ad',ad' .hall=ad .hall/\zai A ρ' ad' (zec s d k) kv H'/\Frame ρ H ρ' H':=by
 obtain ⟨dx0,d0⟩:=(h.desk hk).ob
 have d1:=(h.desk hk).hd
 have im:Imm A H H':=⟨λ p xs e=>kp p _ e (za2 e d0 λ z=>nomatch z) (za2 e d1 λ z=>nomatch z),λ p dx fs e=>kp p _ e (za2 e d0 λ z=>by injection z with z; exact ok.wd z) (za2 e d1 λ z=>nomatch z)⟩
 have adn:∀ r,live s r->ad r≠p':=λ r l z=>by
   obtain ⟨o,e,_⟩:=h.at_ r l
   rw [z,n] at e; cases e
 refine ⟨up ρ p' (.row k),up ad (.row k) p',zan (by intro z; cases z),⟨λ r l=>?_,λ r l=>?_,λ b eb=>?_⟩,λ b o eb q=>?_,im.tup⟩
 . have l0:live s r:=zda (s:=s) rfl rfl l
   by_cases hr:r=.row k
   . subst hr
     refine ⟨.lst us,by rw [zag]; exact e3,us,rfl,?_⟩
     show zao H' us ((up s.rows k (less (s.rows k) d) k).map zch)
     rw [zag]; exact t
   . have ea:up ad (.row k) p' r=ad r:=zan hr
     rw [ea]
     by_cases hr1:r=.desk k
     . subst hr1
       refine ⟨_,e1,dx,?_⟩
       show _=HO.ins A.zcb dx (zh5 (up ad (.row k) p' (.held k)) (up ad (.row k) p' (.row k)))
       rw [zag,zan (by intro z; cases z)]
     . by_cases hr2:r=.held k
       . subst hr2
         refine ⟨_,e2,?_⟩
         show _=HO.dK (zb8 (up s.held k (less (s.held k) d) k))
         rw [zag]
       . obtain ⟨o,e,a⟩:=h.at_ r l0
         refine ⟨o,kp _ _ e (h.ne l0 hk hr1) (h.ne l0 hk hr2),?_⟩
         have a:=a.mono im
         cases r with
         | hall =>
          obtain ⟨dx',e'⟩:=a
          refine ⟨dx',?_⟩
          rw [e']
          show HO.ins A.za1 dx' (zlF ad)=HO.ins A.za1 dx' (zlF (up ad (.row k) p'))
          unfold zlF
          simp only [zan (show (Role.recs:Role)≠.row k by intro z; cases z),zan (show (Role.zbO:Role)≠.row k by intro z; cases z),zan (show (Role.zco:Role)≠.row k by intro z; cases z),zan (show (Role.zdb:Role)≠.row k by intro z; cases z),zan (show (Role.order:Role)≠.row k by intro z; cases z),zan (show (Role.rows:Role)≠.row k by intro z; cases z)]
         | recs =>
          show o=HO.lst ((List.range s.n).map λ i=>V.ref (up ad (.row k) p' (.rcd i)))
          have:(λ i=>V.ref (up ad (.row k) p' (.rcd i)))=λ i=>V.ref (ad (.rcd i)):=funext λ i=>by rw [zan (by intro z; cases z)]
          rw [this]; exact a
         | zbO =>
          show o=HO.dK (s.seen.map λ j=>(Sum.inr j,V.ref (up ad (.row k) p' (.desk j))))
          have:(λ j:Str=>((Sum.inr j:Key),V.ref (up ad (.row k) p' (.desk j))))=λ j=>(Sum.inr j,V.ref (ad (.desk j))):=funext λ j=>by rw [zan (by intro z; cases z)]
          rw [this]; exact a
         | rcd i =>
          obtain ⟨dx',w',e',t'⟩:=a
          refine ⟨dx',w',?_,t'⟩
          rw [e',zan (show (Role.did i:Role)≠.row k by intro z; cases z)]
          rfl
         | desk j =>
          have hj:j≠k:=λ z=>hr1 (by rw [z])
          obtain ⟨dx',e'⟩:=a
          refine ⟨dx',?_⟩
          rw [e',zan (show (Role.held j:Role)≠.row k by intro z; cases z),zan (show (Role.row j:Role)≠.row k by intro z; injection z with z; exact hj z)]
         | held j =>
          have hj:j≠k:=λ z=>hr2 (by rw [z])
          show o=HO.dK (zb8 (up s.held k _ j))
          rw [zan hj]; exact a
         | row j =>
          have hj:j≠k:=λ z=>hr (by rw [z])
          obtain ⟨us',e',t'⟩:=a
          refine ⟨us',e',?_⟩
          show zao H' us' ((up s.rows k _ j).map zch)
          rw [zan hj]; exact t'
         | _=>exact a
 . have l0:live s r:=zda (s:=s) rfl rfl l
   by_cases hr:r=.row k
   . subst hr; rw [zag,zag]
   . rw [zan hr,zan (adn r l0)]; exact h.ro r l0
 . have hb:b≠p':=λ z=>by rw [z,e3] at eb; cases eb
   rw [zan hb]
   refine h.fr b ?_
   cases q:H b with
   | none=>rfl
   | some u =>
     by_cases z:b=ad (.desk k)
     . rw [z,e1] at eb; cases eb
     . by_cases z2:b=ad (.held k)
       . rw [z2,e2] at eb; cases eb
       . rw [kp b u q z z2] at eb; cases eb
 . have hb:b≠p':=zaf eb n
   refine ⟨kp b o eb (λ z=>?_) λ z=>?_,by rw [zan hb]; exact q⟩
   . rw [z,h.ro (.desk k) hk] at q; cases q
   . rw [z,h.ro (.held k) hk] at q; cases q
end
end TP
end
section
namespace TP
open PySem L2 TH
section
variable {A:Ad} {ρ:Addr->Role} {ad:Role->Addr} {s s':HS Str} {kv kv':Book Str} {H H':Hp}
theorem zai.more (ok:AdOk A) (h:zai A ρ ad s kv H) (r0:Role) (l0:live s r0) (N:Role->Prop) (ρ':Addr->Role) (ad':Role->Addr) (kp:zcv H (ad r0) H') (e0:∃ o,H' (ad r0)=some o)
   (lv:∀ r,live s' r->N r\/live s r) (same:∀ r,¬ N r->ad' r=ad r) (nr0:¬ N r0)
   (new:∀ r,live s' r->N r->H (ad' r)=none/\ρ' (ad' r)=r/\∃ o,H' (ad' r)=some o/\At A ad' s' kv' H' r o) (chg:∀ o,H' (ad r0)=some o->At A ad' s' kv' H' r0 o)
   (oth:∀ r o,r≠r0->¬ N r->live s' r->At A ad s kv H' r o->At A ad' s' kv' H' r o) (hρ:∀ b,(∃ o,H b=some o)->ρ' b=ρ b) (hρ2:∀ b,H' b=none->ρ' b=.other):zai A ρ' ad' s' kv' H'/\Frame ρ H ρ' H':=by
 have im:=Imm.zfU ok h l0 kp
 refine ⟨⟨λ r l=>?_,λ r l=>?_,hρ2⟩,λ b u eb q=>?_,im.tup⟩
 . by_cases hn:N r
   . obtain ⟨_,_,o,e,a⟩:=new r l hn; exact ⟨o,e,a⟩
   . rw [same r hn]
     have ls:=(lv r l).resolve_left hn
     by_cases hr:r=r0
     . subst hr
       obtain ⟨o,e⟩:=e0
       exact ⟨o,e,chg o e⟩
     . obtain ⟨o',e',a'⟩:=h.at_ r ls
       exact ⟨o',kp _ _ e' (h.ne ls l0 hr),oth r o' hr hn l (a'.mono im)⟩
 . by_cases hn:N r
   . exact (new r l hn).2.1
   . rw [same r hn]
     have ls:=(lv r l).resolve_left hn
     obtain ⟨o',e',_⟩:=h.at_ r ls
     rw [hρ _ ⟨o',e'⟩]; exact h.ro r ls
 . have hb:b≠ad r0:=λ z=>by rw [z,h.ro r0 l0] at q; exact zoG l0 q
   exact ⟨kp b u eb hb,by rw [hρ b ⟨u,eb⟩]; exact q⟩
theorem zai.addRec (ok:AdOk A) (h:zai A ρ ad s kv H) {p d dx:Addr} (np:H p=none) (nd:H d=none) (e0:H' (ad .recs)=some (.lst (((List.range s.n).map λ i=>V.ref (ad (.rcd i)))++[.ref p]))) (e1:H' p=some (.ins A.zaB dx (recF .zas d .non))) (e2:H' d=some (.lst [])) (kp:zcv H (ad .recs) H') :
   ∃ ρ' ad',ad' .hall=ad .hall/\zai A ρ' ad' { s with n:=s.n+1,deed:=up s.deed s.n ⟨.zas,[],none⟩ } kv H'/\Frame ρ H ρ' H':=by
 have hpd:p≠d:=za2 e1 e2 λ z=>nomatch z
 have a1:∀ r,r≠.rcd s.n->r≠.did s.n->up (up ad (.rcd s.n) p) (.did s.n) d r=ad r:=λ r h1 h2=>by rw [zan h2,zan h1]
 have ar:up (up ad (.rcd s.n) p) (.did s.n) d (.rcd s.n)=p:=by rw [zan (by intro z; cases z),zag]
 have adn:up (up ad (.rcd s.n) p) (.did s.n) d (.did s.n)=d:=zag
 have st:∀ (x:Addr),H x=none->x≠p->x≠d->up (up ρ p (.rcd s.n)) d (.did s.n) x=ρ x:=λ x _ h1 h2=>by rw [zan h2,zan h1]
 refine ⟨up (up ρ p (.rcd s.n)) d (.did s.n),up (up ad (.rcd s.n) p) (.did s.n) d,a1 _ (by intro z; cases z) (by intro z; cases z),?_⟩
 refine h.more ok .recs trivial (λ r=>r=.rcd s.n\/r=.did s.n) _ _ kp ⟨_,e0⟩ (λ r l=>?_) (λ r hn=>a1 r (λ z=>hn (.inl z)) λ z=>hn (.inr z)) (by rintro (z | z) <;> cases z) (λ r l hn=>?_) (λ o e=>?_) (λ r o hr hn l a=>?_) (λ b ⟨o,eb⟩=>?_) λ b eb=>?_
 . cases r with
   | rcd i =>
     have hi:i < s.n+1:=l
     rcases Nat.lt_or_ge i s.n with z | z
     . exact .inr z
     . exact .inl (.inl (by rw [show i=s.n by omega]))
   | did i =>
     have hi:i < s.n+1:=l
     rcases Nat.lt_or_ge i s.n with z | z
     . exact .inr z
     . exact .inl (.inr (by rw [show i=s.n by omega]))
   | _=>exact .inr l
 . rcases hn with z | z
   . subst z
     rw [ar]
     refine ⟨np,by rw [zan hpd,zag],_,e1,dx,.non,?_,?_⟩
     . show _=HO.ins A.zaB dx (recF (up s.deed s.n _ s.n).st (up (up ad (.rcd s.n) p) (.did s.n) d (.did s.n)) .non)
       rw [zag,zag]
     . show zcu A H' .non (wantOf (up s.deed s.n ⟨.zas,[],none⟩ s.n))
       rw [zag]; rfl
   . subst z
     rw [adn]
     refine ⟨nd,zag,_,e2,[],rfl,?_⟩
     show zao H' [] ((up s.deed s.n _ s.n).done.map actV)
     rw [zag]; exact .nil
 . rw [e0] at e
   have e:=Option.some.inj e
   show o=HO.lst ((List.range (s.n+1)).map λ i=>V.ref (up (up ad (.rcd s.n) p) (.did s.n) d (.rcd i)))
   rw [<-e,List.range_succ,List.map_append,List.map_cons,List.map_nil,ar]
   congr 2
   refine List.map_congr_left λ i hi=>?_
   have:i≠s.n:=Nat.ne_of_lt (List.mem_range.mp hi)
   rw [a1 _ (by intro z; injection z with z; exact this z) (by intro z; cases z)]
 . cases r with
   | rcd i =>
     have hi:i≠s.n:=λ z=>hn (.inl (by rw [z]))
     obtain ⟨dx',w',e',t'⟩:=a
     refine ⟨dx',w',?_,?_⟩
     . show _=HO.ins A.zaB dx' (recF (up s.deed s.n _ i).st (up (up ad (.rcd s.n) p) (.did s.n) d (.did i)) w')
       rw [zan hi,a1 _ (by intro z; cases z) (by intro z; injection z with z; exact hi z)]; exact e'
     . show zcu A H' w' (wantOf (up s.deed s.n _ i))
       rw [zan hi]; exact t'
   | did i =>
     have hi:i≠s.n:=λ z=>hn (.inr (by rw [z]))
     obtain ⟨us,e',t'⟩:=a
     refine ⟨us,e',?_⟩
     show zao H' us ((up s.deed s.n _ i).done.map actV)
     rw [zan hi]; exact t'
   | hall =>
     obtain ⟨dx',e'⟩:=a
     refine ⟨dx',?_⟩
     rw [e']
     unfold zlF
     simp only [a1 .recs (by intro z; cases z) (by intro z; cases z),a1 .zbO (by intro z; cases z) (by intro z; cases z),a1 .zco (by intro z; cases z) (by intro z; cases z),a1 .zdb (by intro z; cases z) (by intro z; cases z),a1 .order (by intro z; cases z) (by intro z; cases z),a1 .rows (by intro z; cases z) (by intro z; cases z)]
   | recs=>exact absurd rfl hr
   | zbO =>
     show o=HO.dK (s.seen.map λ j=>(Sum.inr j,V.ref (up (up ad (.rcd s.n) p) (.did s.n) d (.desk j))))
     have:(λ j:Str=>((Sum.inr j:Key),V.ref (up (up ad (.rcd s.n) p) (.did s.n) d (.desk j))))=λ j=>(Sum.inr j,V.ref (ad (.desk j))):=funext λ j=>by rw [a1 _ (by intro z; cases z) (by intro z; cases z)]
     rw [this]; exact a
   | desk j =>
     obtain ⟨dx',e'⟩:=a
     refine ⟨dx',?_⟩
     rw [e',a1 (.held j) (by intro z; cases z) (by intro z; cases z),a1 (.row j) (by intro z; cases z) (by intro z; cases z)]
   | _=>exact a
 . rw [zan (zaf eb nd),zan (zaf eb np)]
 . have h1:b≠p:=λ z=>by rw [z,e1] at eb; cases eb
   have h2:b≠d:=λ z=>by rw [z,e2] at eb; cases eb
   rw [zan h2,zan h1]
   refine h.fr b ?_
   cases q:H b with
   | none=>rfl
   | some u =>
     by_cases z:b=ad .recs
     . rw [z,e0] at eb; cases eb
     . rw [kp b u q z] at eb; cases eb
theorem zai.zrK (ok:AdOk A) (h:zai A ρ ad s kv H) {k:Str} (hk:k∉s.seen) (h1:s.held k=[]) (h2:s.rows k=[]) {p hd rw dx:Addr} (np:H p=none) (nh:H hd=none) (nr:H rw=none)
   (e0:H' (ad .zbO)=some (.dK (zdL ad s.seen++[(Sum.inr k,.ref p)]))) (e1:H' p=some (.ins A.zcb dx (zh5 hd rw))) (e2:H' hd=some (.dK [])) (e3:H' rw=some (.lst [])) (kp:zcv H (ad .zbO) H') :
   ∃ ρ' ad',ad' .hall=ad .hall/\zai A ρ' ad' { s with seen:=s.seen++[k] } kv H'/\Frame ρ H ρ' H'/\ad' (.desk k)=p:=by
 have p1:p≠hd:=za2 e1 e2 λ z=>nomatch z
 have p2:p≠rw:=za2 e1 e3 λ z=>nomatch z
 have p3:hd≠rw:=za2 e2 e3 λ z=>nomatch z
 generalize hA:(up (up (up ad (.desk k) p) (.held k) hd) (.row k) rw)=ad'
 have a1:∀ r,r≠.desk k->r≠.held k->r≠.row k->ad' r=ad r:=λ r q1 q2 q3=>by rw [<-hA,zan q3,zan q2,zan q1]
 have ad1:ad' (.desk k)=p:=by rw [<-hA,zan (by intro z; cases z),zan (by intro z; cases z),zag]
 have ad2:ad' (.held k)=hd:=by rw [<-hA,zan (by intro z; cases z),zag]
 have ad3:ad' (.row k)=rw:=by rw [<-hA,zag]
 generalize hR:(up (up (up ρ p (.desk k)) hd (.held k)) rw (.row k))=ρ'
 have r1:∀ b,b≠p->b≠hd->b≠rw->ρ' b=ρ b:=λ b q1 q2 q3=>by rw [<-hR,zan q3,zan q2,zan q1]
 refine ⟨ρ',ad',a1 _ (by intro z; cases z) (by intro z; cases z) (by intro z; cases z),?_⟩
 have main:=h.more (s':={ s with seen:=s.seen++[k] }) (kv':=kv) ok .zbO trivial (λ r=>r=.desk k\/r=.held k\/r=.row k) ρ' ad' kp ⟨_,e0⟩ (λ r l=>?_) (λ r hn=>a1 r (λ z=>hn (.inl z)) (λ z=>hn (.inr (.inl z))) λ z=>hn (.inr (.inr z))) (by rintro (z | z | z) <;> cases z) (λ r l hn=>?_) (λ o e=>?_) (λ r o hr hn l a=>?_) (λ b ⟨o,eb⟩=>?_) λ b eb=>?_
 . exact ⟨main.1,main.2,ad1⟩
 . have mm:∀ j,j∈s.seen++[k]->j=k\/j∈s.seen:=λ j hj=>by
     rcases List.mem_append.mp hj with z | z
     . exact .inr z
     . exact .inl (List.mem_singleton.mp z)
   cases r with
   | desk j=>exact (mm j l).elim (λ z=>.inl (.inl (by rw [z]))) .inr
   | held j=>exact (mm j l).elim (λ z=>.inl (.inr (.inl (by rw [z])))) .inr
   | row j=>exact (mm j l).elim (λ z=>.inl (.inr (.inr (by rw [z])))) .inr
   | _=>exact .inr l
 . rcases hn with z | z | z
   . subst z
     rw [ad1]
     refine ⟨np,by rw [<-hR,zan p2,zan p1,zag],_,e1,dx,?_⟩
     rw [ad2,ad3]
   . subst z
     rw [ad2]
     refine ⟨nh,by rw [<-hR,zan p3,zag],_,e2,?_⟩
     show _=HO.dK (zb8 (s.held k))
     rw [h1]; rfl
   . subst z
     rw [ad3]
     refine ⟨nr,by rw [<-hR,zag],_,e3,[],rfl,?_⟩
     show zao H' [] ((s.rows k).map zch)
     rw [h2]; exact .nil
 . rw [e0] at e
   have e:=Option.some.inj e
   show o=HO.dK ((s.seen++[k]).map λ j=>(Sum.inr j,V.ref (ad' (.desk j))))
   rw [<-e,List.map_append,List.map_cons,List.map_nil,ad1]
   unfold zdL
   congr 2
   refine List.map_congr_left λ j hj=>?_
   have:j≠k:=λ z=>hk (z ▸ hj)
   rw [a1 _ (by intro z; injection z with z; exact this z) (by intro z; cases z) (by intro z; cases z)]
 . cases r with
   | rcd i =>
     obtain ⟨dx',w',e',t'⟩:=a
     refine ⟨dx',w',?_,t'⟩
     rw [e',a1 (.did i) (by intro z; cases z) (by intro z; cases z) (by intro z; cases z)]
   | hall =>
     obtain ⟨dx',e'⟩:=a
     refine ⟨dx',?_⟩
     rw [e']
     unfold zlF
     simp only [a1 .recs (by intro z; cases z) (by intro z; cases z) (by intro z; cases z),a1 .zbO (by intro z; cases z) (by intro z; cases z) (by intro z; cases z),a1 .zco (by intro z; cases z) (by intro z; cases z) (by intro z; cases z),a1 .zdb (by intro z; cases z) (by intro z; cases z) (by intro z; cases z),a1 .order (by intro z; cases z) (by intro z; cases z) (by intro z; cases z),a1 .rows (by intro z; cases z) (by intro z; cases z) (by intro z; cases z)]
   | recs =>
     show o=HO.lst ((List.range s.n).map λ i=>V.ref (ad' (.rcd i)))
     have:(λ i=>V.ref (ad' (.rcd i)))=λ i=>V.ref (ad (.rcd i)):=funext λ i=>by rw [a1 _ (by intro z; cases z) (by intro z; cases z) (by intro z; cases z)]
     rw [this]; exact a
   | zbO=>exact absurd rfl hr
   | desk j =>
     have hj:j≠k:=λ z=>hn (.inl (by rw [z]))
     obtain ⟨dx',e'⟩:=a
     refine ⟨dx',?_⟩
     rw [e',a1 (.held j) (by intro z; cases z) (by intro z; injection z with z; exact hj z) (by intro z; cases z),a1 (.row j) (by intro z; cases z) (by intro z; cases z) (by intro z; injection z with z; exact hj z)]
   | _=>exact a
 . exact r1 b (zaf eb np) (zaf eb nh) (zaf eb nr)
 . have q1:b≠p:=λ z=>by rw [z,e1] at eb; cases eb
   have q2:b≠hd:=λ z=>by rw [z,e2] at eb; cases eb
   have q3:b≠rw:=λ z=>by rw [z,e3] at eb; cases eb
   rw [r1 b q1 q2 q3]
   refine h.fr b ?_
   cases q:H b with
   | none=>rfl
   | some u =>
     by_cases z:b=ad .zbO
     . rw [z,e0] at eb; cases eb
     . rw [kp b u q z] at eb; cases eb
theorem zai.fresh {a dx p1 p2 p3 p4 p5 p6:Addr} (na:H a=none) (n1:H p1=none) (n2:H p2=none) (n3:H p3=none) (n4:H p4=none) (n5:H p5=none) (n6:H p6=none)
   (e:H' a=some (.ins A.za1 dx [("records",.ref p1),("desks",.ref p2),("standing",.ref p3),("kept_values",.ref p4),("kept_deeds",.ref p5),("rows",.ref p6)]))
   (e1:H' p1=some (.lst [])) (e2:H' p2=some (.dK [])) (e3:H' p3=some (.dK [])) (e4:H' p4=some (.dK [])) (e5:H' p5=some (.lst [])) (e6:H' p6=some (.lst [])) (d1:p1≠p5) (d2:p1≠p6) (d3:p5≠p6) (d4:p2≠p3) (d5:p2≠p4) (d6:p3≠p4) (kp:Same H H') :
   ∃ ρ ad,ad .hall=a/\zai A ρ ad TH.empty (λ _=>none) H'/\∀ b o,H b=some o->ρ b=.other:=by
 let ad:Role->Addr:=λ r=>match r with
   | .hall=>a | .recs=>p1 | .zbO=>p2 | .zco=>p3 | .zdb=>p4 | .order=>p5 | .rows=>p6 | _=>a
 let ρ:Addr->Role:=λ b=>if b=a then .hall else if b=p1 then .recs else if b=p2 then .zbO else if b=p3 then .zco else if b=p4 then .zdb else if b=p5 then .order else if b=p6 then .rows else .other
 have k1:a≠p1:=za2 e e1 λ z=>nomatch z
 have k2:a≠p2:=za2 e e2 λ z=>nomatch z
 have k3:a≠p3:=za2 e e3 λ z=>nomatch z
 have k4:a≠p4:=za2 e e4 λ z=>nomatch z
 have k5:a≠p5:=za2 e e5 λ z=>nomatch z
 have k6:a≠p6:=za2 e e6 λ z=>nomatch z
 have l12:p1≠p2:=za2 e1 e2 λ z=>nomatch z
 have l13:p1≠p3:=za2 e1 e3 λ z=>nomatch z
 have l14:p1≠p4:=za2 e1 e4 λ z=>nomatch z
 have l52:p5≠p2:=za2 e5 e2 λ z=>nomatch z
 have l53:p5≠p3:=za2 e5 e3 λ z=>nomatch z
 have l54:p5≠p4:=za2 e5 e4 λ z=>nomatch z
 have l62:p6≠p2:=za2 e6 e2 λ z=>nomatch z
 have l63:p6≠p3:=za2 e6 e3 λ z=>nomatch z
 have l64:p6≠p4:=za2 e6 e4 λ z=>nomatch z
 have bk:zbn [] (λ _=>none:Book Str):=⟨List.nodup_nil,λ k v=>⟨(λ z=>nomatch z),(λ z=>nomatch z)⟩⟩
 have oth:∀ b,b≠a->b≠p1->b≠p2->b≠p3->b≠p4->b≠p5->b≠p6->ρ b=.other:=λ b q q1 q2 q3 q4 q5 q6=>by
   show (if b=a then Role.hall else _)=_
   rw [if_neg q,if_neg q1,if_neg q2,if_neg q3,if_neg q4,if_neg q5,if_neg q6]
 refine ⟨ρ,ad,rfl,⟨λ r l=>?_,λ r l=>?_,λ b eb=>?_⟩,λ b o eb=>?_⟩
 . cases r with
   | hall=>exact ⟨_,e,dx,rfl⟩
   | recs=>exact ⟨_,e1,rfl⟩
   | zbO=>exact ⟨_,e2,rfl⟩
   | zco=>exact ⟨_,e3,[],rfl,bk⟩
   | zdb=>exact ⟨_,e4,[],rfl,bk⟩
   | order=>exact ⟨_,e5,rfl⟩
   | rows=>exact ⟨_,e6,[],rfl,.nil⟩
   | other=>exact l.elim
   | rcd i=>exact absurd l (Nat.not_lt_zero _)
   | did i=>exact absurd l (Nat.not_lt_zero _)
   | desk k=>exact absurd l (List.not_mem_nil)
   | held k=>exact absurd l (List.not_mem_nil)
   | row k=>exact absurd l (List.not_mem_nil)
 . cases r with
   | hall=>exact if_pos rfl
   | recs=>show (if p1=a then _ else _)=_; rw [if_neg k1.symm,if_pos rfl]
   | zbO=>show (if p2=a then _ else _)=_; rw [if_neg k2.symm,if_neg l12.symm,if_pos rfl]
   | zco=>show (if p3=a then _ else _)=_; rw [if_neg k3.symm,if_neg l13.symm,if_neg d4.symm,if_pos rfl]
   | zdb=>show (if p4=a then _ else _)=_; rw [if_neg k4.symm,if_neg l14.symm,if_neg d5.symm,if_neg d6.symm,if_pos rfl]
   | order=>show (if p5=a then _ else _)=_; rw [if_neg k5.symm,if_neg d1.symm,if_neg l52,if_neg l53,if_neg l54,if_pos rfl]
   | rows=>show (if p6=a then _ else _)=_; rw [if_neg k6.symm,if_neg d2.symm,if_neg l62,if_neg l63,if_neg l64,if_neg d3.symm,if_pos rfl]
   | other=>exact l.elim
   | rcd i=>exact absurd l (Nat.not_lt_zero _)
   | did i=>exact absurd l (Nat.not_lt_zero _)
   | desk k=>exact absurd l (List.not_mem_nil)
   | held k=>exact absurd l (List.not_mem_nil)
   | row k=>exact absurd l (List.not_mem_nil)
 . exact oth b (λ z=>by rw [z,e] at eb; cases eb) (λ z=>by rw [z,e1] at eb; cases eb) (λ z=>by rw [z,e2] at eb; cases eb) (λ z=>by rw [z,e3] at eb; cases eb) (λ z=>by rw [z,e4] at eb; cases eb) (λ z=>by rw [z,e5] at eb; cases eb) (λ z=>by rw [z,e6] at eb; cases eb)
 . exact oth b (zaf eb na) (zaf eb n1) (zaf eb n2) (zaf eb n3) (zaf eb n4) (zaf eb n5) (zaf eb n6)
end
end TP
end
section
namespace TP
open PySem L2 TH
structure Sm (s:HS Str):Prop where
 n:s.n<=63
 seen:s.seen.length<=4
 snd:s.seen.Nodup
 dn:∀ d,(s.deed d).done.length<=2000
 lg:s.log.length<=3000
 kp:s.kept.length<=1000
 hl:∀ k,(s.held k).length<=1000
 hn:∀ k,((s.held k).map (·.1)).Nodup
 rl:∀ k,(s.rows k).length<=1000
 bs:∀ k,s.book k≠none->k∈s.seen
theorem zfl:∀ (n:Nat) (l:List Nat),l.Nodup->(∀ x∈l,x < n)->l.length<=n:=λ n l nd h=>by
 have:∀ (a b:List Nat),a.Nodup->(∀ x∈a,x∈b)->a.length<=b.length:=λ a=>by
  induction a with
  | nil=>intro b _ _; simp
  | cons x r ih =>
   intro b nd hs
   obtain ⟨n1,n2⟩:=List.nodup_cons.mp nd
   have hx:=hs x List.mem_cons_self
   have:=ih (b.erase x) n2 λ z hz=>(List.mem_erase_of_ne (show z≠x from λ e=>n1 (e ▸ hz))).mpr (hs z (List.mem_cons_of_mem _ hz))
   rw [List.length_erase_of_mem hx] at this
   have hpos:0 < b.length:=List.length_pos_of_mem hx
   simp only [List.length_cons]; omega
 have:=this l (List.range n) nd λ x hx=>List.mem_range.mpr (h x hx)
 rwa [List.length_range] at this
structure Lim (s:HS Str) (T:Nat):Prop where
 e:Ext s T
 t:T<=1000
 n:s.n<=63
 sn:s.seen.length<=4
theorem Lim.sm {s:HS Str} {T:Nat} {x:Option Nat} (L:Lim s T) (c:Core s x):Sm s where
 n:=L.n
 seen:=L.sn
 snd:=L.e.snd
 dn:=λ d=>by have:=L.e.dn d; have:=L.t; omega
 lg:=by have:=L.e.lg; have:=L.t; omega
 kp:=Nat.le_trans (zfl s.n s.kept c.zhn λ d hd=>by
  by_cases z:d < s.n
  . exact z
  . have h1:=(c.out d (by omega)).1
    rw [(c.zdj d).mp hd] at h1; cases h1) (by have:=L.n; omega)
 hl:=λ k=>by
  have:=zfl s.n ((s.held k).map (·.1)) (c.hNd k) λ d hd=>by
    obtain ⟨p,hp,rfl⟩:=List.mem_map.mp hd
    exact c.lt (c.hAct k p hp)
  rw [List.length_map] at this
  have:=L.n; omega
 hn:=c.hNd
 rl:=λ k=>by
  have:=zfl s.n ((s.rows k).map (·.1)) (c.rNd k) λ d hd=>by
    obtain ⟨p,hp,rfl⟩:=List.mem_map.mp hd
    exact c.lt (.inr (c.rAct k p hp).1)
  rw [List.length_map] at this
  have:=L.n; omega
 bs:=L.e.zhD
def znb (A:Ad):Sp:=λ vs H Q _=>∃ (p dx:Addr),vs=[.ref p]/\H p=some (.ins A.za1 dx []) /\
 ∀ H' ρ ad,ad .hall=p->zai A ρ ad TH.empty (λ _=>none) H'->(∀ b o,H b=some o->b≠p->H' b=some o/\ρ b=.other)->Q .non H'
def zq6 (A:Ad):Sp:=λ vs H Q _=>∃ ρ ad s kv,vs=[.ref (ad Role.hall)]/\zai A ρ ad s kv H/\Sm s/\s.n < 63 /\
 ∀ H' ρ' ad',ad' Role.hall=ad .hall->zai A ρ' ad' (za6 s) kv H'->Frame ρ H ρ' H'->Q (.int s.n) H'
def Out (A:Ad) (s:HS Str) (i:Int) (H:Hp) (E:XK):Prop:=(i < 0\/(s.n:Int)<=i)/\E (.ref A.zhC) none H
def zm9 (A:Ad):Sp:=λ vs H Q E=>∃ ρ ad s kv i,vs=[.ref (ad Role.hall),.int i]/\zai A ρ ad s kv H/\s.n<=1000 /\
 ((∃ d:Nat,i=d/\d < s.n/\Q (.ref (ad (.rcd d))) H)\/Out A s i H E)
def zpy (A:Ad):Sp:=λ vs H Q E=>∃ ρ ad s kv i,vs=[.ref (ad Role.hall),.int i]/\zai A ρ ad s kv H/\s.n<=1000 /\
 ((∃ d:Nat,i=d/\d < s.n/\((s.deed d).st=.zas/\Q .non H\/(s.deed d).st≠.zas/\E (.ref A.zcS) none H))\/Out A s i H E)
def zq5 (A:Ad):Sp:=λ vs H Q _=>∃ ρ ad s kv d wv a,vs=[.ref (ad Role.hall),.int (d:Nat),wv]/\zai A ρ ad s kv H/\Sm s/\d < s.n/\a.key∈s.seen/\zcu A H wv (some a) /\
 ∀ H',zai A ρ ad (doIt (zjK s d a.key a.wr) d a) kv H'->Frame ρ H ρ H'->Q .non H'
end TP
namespace TP
open PySem L2 TH
theorem two {G:Hp} {p q:Addr} {x o o':HO} (gp:G p=some x) (nq:G q=none) :
  upd (upd G q o) p o' p=some o'/\upd (upd G q o) p o' q=some o/\(∀ b u,b≠p->G b=some u->upd (upd G q o) p o' b=some u)/\∀ b,upd (upd G q o) p o' b=none->G b=none/\b≠q/\b≠p:=by
 have hpq:p≠q:=zaf gp nq
 refine ⟨zab,by rw [zae hpq.symm,zab],λ b u hb e=>by rw [zae hb,zae (zaf e nq)]; exact e,λ b e=>?_⟩
 have h1:b≠p:=λ z=>by rw [z,zab] at e; cases e
 rw [zae h1] at e
 have h2:b≠q:=λ z=>by rw [z,zab] at e; cases e
 rw [zae h2] at e
 exact ⟨e,h2,h1⟩
end TP
namespace TP
open PySem L2 TH
theorem zrP {α β:Type} [DecidableEq α] (f:α->β) (a:α) (x y:β):up (up f a x) a y=up f a y:=by
 funext b; by_cases h:b=a
 . subst h; rw [zag,zag]
 . rw [zan h,zan h,zan h]
theorem zsJ {K:Type} [DecidableEq K] (t:HS K) (d:Nat) (a:Act K) (h:a.wr=true):doIt t d a={ n:=t.n,deed:=up (up t.deed d { t.deed d with st:=.zas }) d { (up t.deed d { t.deed d with st:=.zas }) d with done:=((up t.deed d { t.deed d with st:=.zas }) d).done++[a] },held:=t.held,rows:=t.rows,book:=up t.book a.key (some a.val),seen:=t.seen,log:=t.log++[.write d a.key ((t.book a.key).getD 0) a.val],kept:=t.kept }:=by
 unfold doIt; rw [if_pos h,zrP,zag]
theorem zsK {K:Type} [DecidableEq K] (t:HS K) (d:Nat) (a:Act K) (h:a.wr=false):doIt t d a={ n:=t.n,deed:=up (up t.deed d { t.deed d with st:=.zas }) d { (up t.deed d { t.deed d with st:=.zas }) d with done:=((up t.deed d { t.deed d with st:=.zas }) d).done++[⟨false,a.key,(t.book a.key).getD 0⟩] },held:=t.held,rows:=t.rows,book:=t.book,seen:=t.seen,log:=t.log,kept:=t.kept }:=by
 unfold doIt; rw [if_neg (by rw [h]; exact Bool.false_ne_true),zrP,zag]
end TP
namespace TP
open PySem L2 TH
def zna (A:Ad):Sp:=λ vs H Q _=>∃ ρ ad s kv d,vs=[.ref (ad Role.hall),.int (d:Nat)]/\zai A ρ ad s kv H/\Core s none/\Sm s/\d < s.n /\
 ∀ H' q,H q=none->Same H H'->H' q=some (.lst (zay (nxt s d)))->Q (.ref q) H'
def zcd (l:List Nat):List (Key×V):=l.map λ (x:Nat)=>(Sum.inl (x:Int),V.bl true)
def zpC (A:Ad):Sp:=λ vs H Q _=>∃ ρ ad s kv d,vs=[.ref (ad Role.hall),.int (d:Nat)]/\zai A ρ ad s kv H/\Core s none/\Sm s/\d < s.n /\
 ∀ H' q l,Same H H'->H' q=some (.dK (zcd l))->l.Nodup->(∀ x,x∈l↔zc4 s d x)->Q (.ref q) H'
def gotV:Option Nat->V
 | none=>.non
 | some g=>.int (g:Int)
def znc (A:Ad):Sp:=λ vs H Q _=>∃ ρ ad s kv d,vs=[.ref (ad Role.hall),.int (d:Nat)]/\zai A ρ ad s kv H/\Core s none/\Head s/\Thru s d/\Sm s/\d < s.n /\
 ∀ H',Same H H'->Q (gotV (rings s).getLast?) H'
theorem zqv {s:HS Str} (c:Core s none) {d e:Nat} (h:e∈nxt s d):e < s.n:=c.lt (znY c (zkl h))
theorem zfs (l:List Nat) (x:Nat):(valV (zcd l) (Sum.inl (x:Int))).isSome=decide (x∈l):=by
 unfold zcd
 induction l with
 | nil=>rfl
 | cons y r ih =>
  rw [List.map_cons]
  by_cases e:y=x
  . rw [zbD (zcQ.mpr e)]; simp [e]
  . rw [zbE λ z=>e (zcQ.mp z),ih]
    simp [Ne.symm e]
theorem zo1 {l:List Nat} {x:Nat} (h:x∉l):putK (zcd l) (Sum.inl (x:Int)) (V.bl true)=zcd (l++[x]):=by
 have hn:valV (zcd l) (Sum.inl (x:Int))=none:=by
  have:=zfs l x
  rw [decide_eq_false h] at this
  cases e:valV (zcd l) (Sum.inl (x:Int)) with
  | none=>rfl
  | some v=>rw [e] at this; cases this
 rw [zmt _ hn]
 unfold zcd; rw [List.map_append]; rfl
end TP
end
section
namespace TP
open PySem L2 TH
def ub (kv b:Book Str) (ks:List Str):Book Str:=λ k=>if k∈ks then kv k else b k
theorem zqS (kv b:Book Str) (ks:List Str) (k:Str):up (ub kv b ks) k (kv k)=ub kv b (ks++[k]):=by
 funext j
 by_cases h:j=k
 . subst h; rw [zag]; unfold ub; rw [if_pos (by simp)]
 . rw [zan h]; unfold ub
   by_cases hj:j∈ks
   . rw [if_pos hj,if_pos (List.mem_append_left _ hj)]
   . rw [if_neg hj,if_neg (by simp [hj,h])]
theorem zfQ {k:Str}:∀ {l:List (Act Str)},k∈(zar l).map (·.1)↔(zaN l k).isSome=true
 | []=>by simp [zar,zaN]
 | a::r=>by
  have ih:=zfQ (k:=k) (l:=r)
  have e:zar (a::r)=(if a.wr then [(a.key,a.val)] else [])++zar r:=by
   unfold zar; rw [List.filterMap_cons]
   by_cases h:a.wr=true
   . rw [if_pos h,if_pos h]; rfl
   . rw [if_neg h,if_neg h]; rfl
  rw [e,List.map_append,List.mem_append,ih]
  have el:zaN (a::r) k=match zaN r k with | some v=>some v | none=>if a.wr=true/\a.key=k then some a.val else none:=rfl
  rw [el]
  cases hl:zaN r k with
  | some v=>simp
  | none =>
   by_cases h:a.wr=true
   . by_cases hk:a.key=k
     . simp [h,hk]
     . simp [h,hk,Ne.symm hk]
   . simp [h]
def znQ (s:HS Str) (kv:Book Str) (d:Nat):Book Str:=λ k=>if (zaN (s.deed d).done k).isSome then kv k else s.book k
theorem znP (s:HS Str) (kv:Book Str) (d:Nat):ub kv s.book ((zar (s.deed d).done).map (·.1))=znQ s kv d:=by
 funext k
 unfold ub znQ
 by_cases h:(zaN (s.deed d).done k).isSome=true
 . rw [if_pos h,if_pos (zfQ.mpr h)]
 . rw [if_neg h,if_neg λ z=>h (zfQ.mp z)]
def zr2 (A:Ad):Sp:=λ vs H Q _=>∃ ρ ad s kv d,vs=[.ref (ad Role.hall),.int (d:Nat)]/\zai A ρ ad s kv H/\Sm s/\d < s.n/\(∀ k,kv k≠none->k∈s.seen) /\
 ∀ H',zai A ρ ad { s with book:=znQ s kv d } kv H'->Frame ρ H ρ H'->Q .non H'
theorem Ext.zbz {K:Type} [DecidableEq K] {k:K} {f:Nat} {s:HS K} {T:Nat} (E:Ext s T) (c:Core s none):Ext (TH.zbz f s k) T:=by
 refine zeh (λ t=>Ext t T) (λ s d w r a c hr hl ha E=>?_) f s c E
 have hm:(d,w)∈s.rows k:=by rw [hr]; exact List.mem_cons_self
 obtain ⟨hst,a',ha',hk',hw'⟩:=c.rAct k _ hm
 rw [ha] at ha'; cases ha'
 refine E.does (a:=zjy s a) (d:=d) (by rw [zdK]; rfl) (by rw [zca]; rfl) (c.lt (.inr hst)) (.inr hst) (by rw [zdm]; rfl) zjf (λ k=>zhE) (λ k' e w' h=>?_) ?_ (Nat.le_refl _) (.inl hst)
 . rw [zcs] at h
   rcases zi9 h with h | ⟨h1,h2⟩
   . exact .inl h
   . exact .inr ⟨h1,by rw [zct,hk']; exact h2⟩
 . rw [zct,hk']; exact zcH c hm
theorem znw {K:Type} [DecidableEq K] {k:K} {f:Nat} {s:HS K} (c:Core s none):(TH.zbz f s k).seen=s.seen/\(TH.zbz f s k).n=s.n :=
 zeh (λ t=>t.seen=s.seen/\t.n=s.n) (λ s d w r a _ _ _ _ h=>⟨by rw [zca]; exact h.1,by rw [zdK]; exact h.2⟩) f s c ⟨rfl,rfl⟩
def zq2 (A:Ad):Sp:=λ vs H Q _=>∃ ρ ad s kv k T,vs=[.ref (ad Role.hall),.str k]/\zai A ρ ad s kv H/\Core s none/\Lim s T/\k∈s.seen /\
 ∀ H',zai A ρ ad (zbz (s.rows k).length s k) kv H'->Frame ρ H ρ H'->Q .non H'
def zs8 (A:Ad):Sp:=λ vs H Q _=>∃ ρ ad s s0 kv d st T,vs=[.ref (ad Role.hall),.int (d:Nat),.str (stS st)]/\zai A ρ ad s kv H/\Core s0 none/\Lim s0 T/\Head s0 /\
 s.deed=s0.deed/\s.held=s0.held/\s.rows=s0.rows/\s.seen=s0.seen/\s.n=s0.n/\Core (letGo (zfd s d st) d) none/\Lim (letGo (zfd s d st) d) T/\st≠.waiting/\d < s.n /\
 ∀ H' ρ' ad',ad' Role.hall=ad .hall->zai A ρ' ad' (free ordS (zfd s d st) d) kv H'->Frame ρ H ρ' H'->Q .non H'
theorem zgo (s:HS Str) (d:Nat):(s.deed d).done.map (·.key)++zcV (wantOf (s.deed d))=touched s d:=by
 unfold touched wantOf
 congr 1
 by_cases h:(s.deed d).st=.waiting
 . rw [if_pos h,h]
   cases (s.deed d).wish with
   | none=>rfl
   | some a=>rfl
 . rw [if_neg h]
   split
   . contradiction
   . rfl
theorem ziz {K:Type} [DecidableEq K]:∀ (a b:List K) (s:HS K),zaF s (a++b)=zaF (zaF s a) b
 | [],_,_=>rfl
 | k::r,b,s=>ziz r b (zbz (s.rows k).length s k)
def zr8 (A:Ad):Sp:=λ vs H Q _=>∃ ρ ad s d T,vs=[.ref (ad Role.hall),.int (d:Nat)]/\zai A ρ ad s (zau s) H/\Core s none/\Lim s T/\Head s/\(s.deed d).act /\
 ∀ H' ρ' ad',ad' Role.hall=ad .hall->zai A ρ' ad' (drop ordS s d) (zau s) H'->Frame ρ H ρ' H'->Q .non H'
def zr1 (A:Ad):Sp:=λ vs H Q _=>∃ ρ ad s d a wv T,vs=[.ref (ad Role.hall),.int (d:Nat),wv]/\zai A ρ ad s (zau s) H/\a.key∈s.seen/\zcu A H wv (some a)/\d < s.n/\Sm s /\
 Core (wait s d a) none/\Head (wait s d a)/\Thru (wait s d a) d/\Lim (wait s d a) T /\
 ∀ H' ρ' ad',ad' Role.hall=ad .hall->zai A ρ' ad' (settle ordS s.n (wait s d a)) (zau s) H'->Frame ρ H ρ' H'->Q .non H'
end TP
end
section
namespace TH
section
variable {K:Type} [DecidableEq K]
theorem zgm {s:HS K} {ks:List K} (c:Core s none):zau (zaF s ks)=zau s:=by
 have:=zbA (λ t=>t.kept=s.kept/\∀ d∈s.kept,(t.deed d).done=(s.deed d).done) (λ t k d w r a ct hr hl ha h=>?_) ks s c ⟨rfl,λ _ _=>rfl⟩
 . exact zbY this.1 this.2
 . refine ⟨by rw [zei]; exact h.1,λ e he=>?_⟩
   have hne:e≠d:=λ z=>by
    have h1:=(ct.zdj e).mp (by rw [h.1]; exact he)
    have h2:=(ct.rAct k (d,w) (by rw [hr]; exact List.mem_cons_self)).1
    rw [z] at h1
    have h2:(t.deed d).st=.waiting:=h2
    rw [h1] at h2; cases h2
   rw [zcC _ _ _ hne]; exact h.2 e he
variable (ord:List K->List K)
theorem zfV {s:HS K} {d:Nat} (c:Core s none) (hd:(s.deed d).act):zau (drop ord s d)=zau s:=by
 unfold drop free
 rw [zgm (c.drops hd)]
 refine zbY rfl λ e he=>?_
 show (up s.deed d { s.deed d with st:=.dropped } e).done=_
 by_cases h:e=d
 . subst h; rw [zag]
 . rw [zan h]
theorem zns {s:HS K} {d:Nat} (c:Core s none) (hd:(s.deed d).act):zau (keep ord s d)=over (zau s) (s.deed d).done:=by
 unfold keep free
 rw [zgm (c.keeps hd)]
 show zee (up s.deed d { s.deed d with st:=.kept }) (s.kept++[d]) _=_
 rw [zbt (deed:=s.deed) λ e he=>?_,zfp]
 . rfl
 . by_cases h:e=d
   . subst h; rw [zag]
   . rw [zan h]
theorem zlB {s:HS K} (c:Core s none):zau (za6 s)=zau s:=by
 refine zbY rfl λ e he=>?_
 have:e≠s.n:=λ z=>by
  have h1:=(c.zdj e).mp he
  have h2:=(c.out e (by omega)).1
  rw [h1] at h2; cases h2
 show (up s.deed s.n _ e).done=_
 rw [zan this]
theorem ziw {s:HS K} {d:Nat} {a:Act K}:zau (wait s d a)=zau s:=by
 refine zbY rfl λ e he=>?_
 show (up s.deed d { s.deed d with st:=.waiting,wish:=some a } e).done=_
 by_cases h:e=d
 . subst h; rw [zag]
 . rw [zan h]
theorem zgl:∀ {f:Nat} {s:HS K},Core s none->zau (settle ord f s)=zau s
 | 0,_,_=>rfl
 | f+1,s,c=>by
  unfold settle
  split
  . rfl
  . rename_i d h
    have hd:(s.deed d).act:=by
     have:=(zbH (List.mem_of_getLast? h)).2
     exact .inr (zaJ this)
    rw [zgl (c.drop ord hd),zfV ord c hd]
variable (hord:∀ l k,k∈ord l↔k∈l)
include hord
theorem zjx {s:HS K} {d:Nat} {a:Act K} (c:Core s none) (h:Head s) (ac:Acyc s) (hd:(s.deed d).st=.zas) (hf:((has ((see s a.key).held a.key) d || ((see s a.key).rows a.key).isEmpty) && lets ((see s a.key).held a.key) d a.wr)=false) :
   Core (wait (see s a.key) d a) none/\Head (wait (see s a.key) d a)/\Thru (wait (see s a.key) d a) d:=by
 have c1:Core (TH.see s a.key) none:=c.see
 have h':Head (TH.see s a.key):=h
 have ac':Acyc (TH.see s a.key):=ac.mono λ e x h=>h
 have h2:¬ (lets ((TH.see s a.key).held a.key) d a.wr=true/\(has ((TH.see s a.key).held a.key) d=true\/(TH.see s a.key).rows a.key=[])):=λ z=>by
   rw [z.1,Bool.and_true] at hf
   rcases z.2 with z | z
   . rw [z] at hf; cases hf
   . rw [z] at hf; simp at hf
 have hw:∀ w',(d,w')∈(TH.see s a.key).held a.key->w'=false/\a.wr=true:=λ w' z=>by
   have q:=zcO (c1.hNd _) z
   have hh:has ((TH.see s a.key).held a.key) d=true:=zje q
   have hl:lets ((TH.see s a.key).held a.key) d a.wr=false:=by
     cases e:lets ((TH.see s a.key).held a.key) d a.wr with
     | false=>rfl
     | true=>exact absurd ⟨e,.inl hh⟩ h2
   have no:∃ p∈(TH.see s a.key).held a.key,p.1≠d/\(a.wr || p.2)=true:=by
     unfold lets at hl
     have:=List.all_eq_false.mp hl
     obtain ⟨p,hp,hq⟩:=this
     refine ⟨p,hp,?_⟩
     by_cases z:p.1=d
     . simp [z] at hq
     . refine ⟨z,?_⟩
       simp [z] at hq
       cases h1:a.wr <;> cases h2:p.2 <;> simp [h1,h2] at hq ⊢
   obtain ⟨p,hp,hne,hu⟩:=no
   cases hw':w' with
   | true=>subst hw'; exact absurd (c1.hEx a.key d z p hp) hne
   | false =>
     refine ⟨rfl,?_⟩
     cases ha:a.wr with
     | true=>rfl
     | false =>
       rw [ha] at hu
       have hp2:p.2=true:=by simpa using hu
       have hpm:(p.1,true)∈(TH.see s a.key).held a.key:=by rw [<-hp2]; exact hp
       exact absurd (c1.hEx a.key p.1 hpm _ z).symm hne
 refine ⟨c1.wait hd zb5 hw,λ k e w r q=>?_,Thru.wait ac'⟩
 show lets ((TH.see s a.key).held k) e w=false
 by_cases hk:k=a.key
 . subst hk
   have q':(if has ((TH.see s a.key).held a.key) d then (d,a.wr)::(TH.see s a.key).rows a.key else (TH.see s a.key).rows a.key++[(d,a.wr)])=(e,w)::r:=by
     rw [<-q]; exact zag.symm
   cases hh:has ((TH.see s a.key).held a.key) d with
   | true =>
     rw [hh] at q'
     simp only [if_true] at q'
     injection q' with e1 e2
     have e3:d=e:=congrArg Prod.fst e1
     have e4:a.wr=w:=congrArg Prod.snd e1
     subst e3 e4
     cases hl:lets ((TH.see s a.key).held a.key) d a.wr with
     | false=>rfl
     | true=>exact absurd ⟨hl,.inl hh⟩ h2
   | false =>
     rw [hh] at q'
     simp only [Bool.false_eq_true,if_false] at q'
     cases hr:(TH.see s a.key).rows a.key with
     | nil =>
       rw [hr] at q'
       simp only [List.nil_append] at q'
       injection q' with e1 e2
       have e3:d=e:=congrArg Prod.fst e1
       have e4:a.wr=w:=congrArg Prod.snd e1
       subst e3 e4
       cases hl:lets ((TH.see s a.key).held a.key) d a.wr with
       | false=>rfl
       | true=>exact absurd ⟨hl,.inr hr⟩ h2
     | cons p t =>
       rw [hr] at q'
       simp only [List.cons_append] at q'
       injection q' with e1 e2
       subst e1
       exact h' a.key e w t hr
 . have q':(TH.see s a.key).rows k=(e,w)::r:=by rw [<-q]; exact (zan hk).symm
   exact h' k e w r q'
omit hord
def Did (d:Nat) (t:HS K):Prop:=(t.deed d).st=.zas\/(t.deed d).st=.kept->(t.deed d).done≠[]
theorem Did.doIt {t:HS K} {d e:Nat} {a:Act K} (h:Did d t):Did d (doIt t e a):=λ q=>by
 by_cases z:d=e
 . subst z; rw [zdm,zag]; simp
 . rw [zcC _ _ _ z] at q ⊢; exact h q
theorem Did.self {t:HS K} {d:Nat} {a:Act K}:Did d (TH.doIt t d a):=λ q=>by rw [zdm,zag]; simp
theorem Did.zaF {t:HS K} {d:Nat} {ks:List K} (c:Core t none) (h:Did d t):Did d (zaF t ks) :=
 zbA (Did d) (λ s k e w r a _ _ _ _ h=>Did.doIt (t:=take { s with rows:=up s.rows k r } e k w) h) ks t c h
theorem Did.drop {t:HS K} {d g:Nat} (c:Core t none) (hg:(t.deed g).act) (h:Did d t):Did d (drop ord t g):=by
 refine Did.zaF (c.drops hg) λ q=>?_
 have q':(up t.deed g { t.deed g with st:=.dropped } d).st=.zas\/(up t.deed g { t.deed g with st:=.dropped } d).st=.kept:=q
 show (up t.deed g { t.deed g with st:=.dropped } d).done≠[]
 by_cases z:d=g
 . subst z; rw [zag] at q'; rcases q' with q' | q' <;> cases q'
 . rw [zan z] at q' ⊢; exact h q'
theorem Did.settle {d:Nat}:∀ {f:Nat} {t:HS K},Core t none->Did d t->Did d (settle ord f t)
 | 0,_,_,h=>h
 | f+1,t,c,h=>by
  unfold TH.settle
  split
  . exact h
  . rename_i g hg
    have ha:(t.deed g).act:=.inr (zaJ (zbH (List.mem_of_getLast? hg)).2)
    exact Did.settle (c.drop ord ha) (h.drop ord c ha)
theorem Did.wait {s:HS K} {d:Nat} {a:Act K}:Did d (wait s d a):=λ q=>by
 have q':(up s.deed d { s.deed d with st:=.waiting,wish:=some a } d).st=.zas\/(up s.deed d { s.deed d with st:=.waiting,wish:=some a } d).st=.kept:=q
 rw [zag] at q'; rcases q' with q' | q' <;> cases q'
end
end TH
namespace TP
open PySem L2 TH
theorem Lim.letGo {s:HS Str} {T d:Nat} (L:Lim s T) {t:HS Str} (E:Ext (TH.letGo t d) T) (hn:t.n=s.n) (hs:t.seen=s.seen):Lim (TH.letGo t d) T:=⟨E,L.t,by show t.n<=63; rw [hn]; exact L.n,by show t.seen.length<=4; rw [hs]; exact L.sn⟩
theorem zhv {s:HS Str} {d:Nat} (c:Core s none) (hd:(s.deed d).act):(drop ordS s d).seen=s.seen:=zdA _ _ (c.drops hd)
theorem Lim.drop {s:HS Str} {T d:Nat} (L:Lim s T) (c:Core s none) (hd:(s.deed d).act):Lim (TH.drop ordS s d) T:=⟨L.e.drop ordS c hd,L.t,by rw [zko ordS c hd]; exact L.n,by rw [zhv c hd]; exact L.sn⟩
theorem zky {s:HS Str} {d:Nat} (c:Core s none) (hd:(s.deed d).act):(keep ordS s d).seen=s.seen:=zdA _ _ (c.keeps hd)
theorem Lim.keep {s:HS Str} {T d:Nat} (L:Lim s T) (c:Core s none) (hd:(s.deed d).act):Lim (TH.keep ordS s d) T:=⟨L.e.keep ordS c hd,L.t,by rw [zqy ordS c hd]; exact L.n,by rw [zky c hd]; exact L.sn⟩
theorem Lim.drops {s:HS Str} {T d:Nat} (L:Lim s T) (c:Core s none) (hd:(s.deed d).act):Lim (TH.letGo (zqf s d) d) T :=
 L.letGo (L.e.ends (t:=.dropped) (bk:=λ k=>if (zaN (s.deed d).done k).isSome then zau s k else s.book k) (kp:=s.kept) (r:=.drop d) c hd (.inr rfl) (λ k h=>by
  split at h
  . exact L.e.zp4 k h
  . exact L.e.zhD k h)) rfl rfl
theorem Lim.keeps {s:HS Str} {T d:Nat} (L:Lim s T) (c:Core s none) (hd:(s.deed d).act):Lim (TH.letGo (zp5 s d) d) T :=
 L.letGo (L.e.ends (t:=.kept) (bk:=s.book) (kp:=s.kept++[d]) (r:=.keep d) c hd (.inl rfl) L.e.zhD) rfl rfl
def zlA (D:Deed Str):Int:=(D.done.getLast?.map (·.val)).getD 0
def ansV (D:Deed Str) (wr:Bool):List V:=match D.st with
 | .dropped=>[.str "given up"]
 | .waiting=>[.str "waits"]
 | _=>if wr then [.str "done"] else [.str "value",.int (zlA D)]
def zpD (A:Ad):Sp:=λ vs H Q _=>∃ ρ ad s kv d a wv,vs=[.ref (ad Role.hall),.int (d:Nat),wv]/\zai A ρ ad s kv H/\zcu A H wv (some a)/\d < s.n/\Did d s /\
 ∀ H' q,H q=none->Same H H'->H' q=some (.tup (ansV (s.deed d) a.wr))->Q (.ref q) H'
structure Ready (s:HS Str) (T:Nat):Prop where
 c:Core s none
 h:Head s
 a:Acyc s
 L:Lim s T
theorem Sm.see {s:HS Str} {T:Nat} (R:Ready s T) {k:Str} (h:(TH.see s k).seen.length<=4) (t:T+1<=1000):Sm (TH.see s k):=Lim.sm (T:=T+1) (x:=none) ⟨R.L.e.see,t,R.L.n,h⟩ R.c.see
theorem Lim.wish {s:HS Str} {T d:Nat} {a:Act Str} (R:Ready s T) (hd:(s.deed d).st=.zas) (h:(TH.see s a.key).seen.length<=4) (t:T+1<=1000) (hn:(TH.wish ordS s d a).n=s.n) (hs:(TH.wish ordS s d a).seen=(TH.see s a.key).seen):Lim (TH.wish ordS s d a) (T+1) :=
 ⟨R.L.e.wish ordS R.c hd,t,by rw [hn]; exact R.L.n,by rw [hs]; exact h⟩
theorem Lim.wait {s:HS Str} {T d:Nat} {a:Act Str} (R:Ready s T) (hd:(s.deed d).st=.zas) (h:(TH.see s a.key).seen.length<=4) (t:T+1<=1000):Lim (TH.wait (TH.see s a.key) d a) (T+1) :=
 ⟨Ext.wait (s:=TH.see s a.key) R.L.e.see hd (λ e=>by have:=R.L.e.dn e; exact Nat.succ_le_succ this) (by have:=R.L.e.lg; show s.log.length+zdo s+actN s+2<=_; omega),t,R.L.n,h⟩
theorem zgO:∀ {f:Nat} {s:HS Str},Core s none->(settle ordS f s).seen=s.seen/\(settle ordS f s).n=s.n
 | 0,_,_=>⟨rfl,rfl⟩
 | f+1,s,c=>by
  unfold TH.settle
  split
  . exact ⟨rfl,rfl⟩
  . rename_i d h
    have hd:(s.deed d).act:=.inr (zaJ (zbH (List.mem_of_getLast? h)).2)
    obtain ⟨h1,h2⟩:=zgO (f:=f) (c.drop ordS hd)
    exact ⟨by rw [h1,zhv c hd],by rw [h2,zko ordS c hd]⟩
theorem zcJ {s:HS Str} {T d:Nat} {a:Act Str} (R:Ready s T) (hd:(s.deed d).st=.zas):(wish ordS s d a).n=s.n/\(wish ordS s d a).seen=(see s a.key).seen/\zau (wish ordS s d a)=zau s/\Did d (wish ordS s d a):=by
 rw [zgJ ordS R.c]
 split
 . refine ⟨by rw [zdK]; rfl,by rw [zca]; rfl,zbY (zei _ _ _) λ e he=>?_,Did.self⟩
   have hne:e≠d:=λ z=>by
    have h1:=(R.c.zdj e).mp he
    rw [z,hd] at h1; cases h1
   rw [zcC _ _ _ hne]; rfl
 . rename_i h
   obtain ⟨c1,_,_⟩:=zjx ordS (λ l k=>zbh) R.c R.h R.a hd (by simpa using h)
   obtain ⟨s1,s2⟩:=zgO (f:=s.n) c1
   exact ⟨by rw [s2]; rfl,by rw [s1]; rfl,by rw [zgl ordS c1,ziw]; rfl,Did.settle ordS c1 Did.wait⟩
theorem Ready.wish {s:HS Str} {T d:Nat} {a:Act Str} (R:Ready s T) (hd:(s.deed d).st=.zas) (h:(see s a.key).seen.length<=4) (t:T+1<=1000):Ready (TH.wish ordS s d a) (T+1) :=
 let F:=zcJ (a:=a) R hd
 ⟨R.c.wish ordS hd,Head.wish ordS (λ l k=>zbh) R.c R.h hd,R.a.wish ordS R.c hd,Lim.wish R hd h t F.1 F.2.1⟩
theorem Ready.drop {s:HS Str} {T d:Nat} (R:Ready s T) (hd:(s.deed d).act):Ready (TH.drop ordS s d) T:=⟨R.c.drop ordS hd,Head.drop ordS (λ l k=>zbh) R.c hd,R.a.drop ordS R.c hd,R.L.drop R.c hd⟩
theorem Ready.keep {s:HS Str} {T d:Nat} (R:Ready s T) (hd:(s.deed d).act):Ready (TH.keep ordS s d) T:=⟨R.c.keep ordS hd,Head.keep ordS (λ l k=>zbh) R.c hd,R.a.keep ordS R.c hd,R.L.keep R.c hd⟩
theorem Ready.za6 {s:HS Str} {T:Nat} (R:Ready s T) (hn:s.n < 63) (t:T+1<=1000):Ready (TH.za6 s) (T+1):=⟨R.c.za6,R.h,R.a.za6 R.c,⟨R.L.e.za6 R.c,t,hn,R.L.sn⟩⟩
theorem Ready.empty:Ready (TH.empty:HS Str) 0:=⟨All.empty.c,All.empty.h,All.empty.a,Ext.empty,by decide,by decide,by decide⟩
end TP
end
section
namespace TP
open PySem L2 TH
def zsb (A:Ad):Sp:=λ vs H Q _=>∃ ρ ad s d a pw dw T,vs=[.ref (ad Role.hall),.int (d:Nat),.ref pw]/\zai A ρ ad s (zau s) H/\Ready s T/\T+1<=1000/\(see s a.key).seen.length<=4/\(s.deed d).st=.zas/\H pw=some (.ins A.zdU dw (zqP a))/\ρ pw=.other /\
 ∀ H' ρ' ad' q,ad' Role.hall=ad .hall->zai A ρ' ad' (wish ordS s d a) (zau s) H'->Frame ρ H ρ' H'->H' q=some (.tup (ansV ((wish ordS s d a).deed d) a.wr))->ρ' q=.other->Q (.ref q) H'
def zl2 (A:Ad) (s:HS Str) (i:Int) (H:Hp) (E:XK) (G:Nat->Prop):Prop :=
 (∃ d:Nat,i=d/\d < s.n/\((s.deed d).st=.zas/\G d\/(s.deed d).st≠.zas/\E (.ref A.zcS) none H))\/Out A s i H E
def zr4 (A:Ad):Sp:=λ vs H Q E=>∃ ρ ad s i k T,vs=[.ref (ad Role.hall),.int i,.str k]/\zai A ρ ad s (zau s) H/\Ready s T/\T+1<=1000/\(see s k).seen.length<=4 /\
 zl2 A s i H E λ d=>∀ H' ρ' ad' q,ad' Role.hall=ad .hall->zai A ρ' ad' (wish ordS s d ⟨false,k,0⟩) (zau s) H'->Frame ρ H ρ' H'->H' q=some (.tup (ansV ((wish ordS s d ⟨false,k,0⟩).deed d) false))->ρ' q=.other->Q (.ref q) H'
def zq0 (A:Ad):Sp:=λ vs H Q E=>∃ ρ ad s i k v T,vs=[.ref (ad Role.hall),.int i,.str k,.int v]/\zai A ρ ad s (zau s) H/\Ready s T/\T+1<=1000/\(see s k).seen.length<=4 /\
 zl2 A s i H E λ d=>∀ H' ρ' ad' q,ad' Role.hall=ad .hall->zai A ρ' ad' (wish ordS s d ⟨true,k,v⟩) (zau s) H'->Frame ρ H ρ' H'->H' q=some (.tup (ansV ((wish ordS s d ⟨true,k,v⟩).deed d) true))->ρ' q=.other->Q (.ref q) H'
def zr7 (A:Ad):Sp:=λ vs H Q E=>∃ ρ ad s i T,vs=[.ref (ad Role.hall),.int i]/\zai A ρ ad s (zau s) H/\Ready s T /\
 zl2 A s i H E λ d=>∀ H' ρ' ad',ad' Role.hall=ad .hall->zai A ρ' ad' (keep ordS s d) (zau (keep ordS s d)) H'->Frame ρ H ρ' H'->Q .non H'
def zpA (A:Ad):Sp:=λ vs H Q E=>∃ ρ ad s i T,vs=[.ref (ad Role.hall),.int i]/\zai A ρ ad s (zau s) H/\Ready s T /\
 ((∃ d:Nat,i=d/\d < s.n/\((s.deed d).act/\(∀ H' ρ' ad',ad' Role.hall=ad .hall->zai A ρ' ad' (drop ordS s d) (zau (drop ordS s d)) H'->Frame ρ H ρ' H'->Q .non H')\/¬ (s.deed d).act/\E (.ref A.zcS) none H))\/Out A s i H E)
def zpB (A:Ad):Sp:=λ vs H Q E=>∃ ρ ad s kv i,vs=[.ref (ad Role.hall),.int i]/\zai A ρ ad s kv H/\s.n<=1000/\(∀ d,(s.deed d).done.length<=2000) /\
 ((∃ d:Nat,i=d/\d < s.n/\∀ H' q us,Same H H'->H' q=some (.tup us)->zao H' us ((s.deed d).done.map actV)->Q (.ref q) H')\/Out A s i H E)
def wb (b:Book Str) (l:List (Str×Int)):Book Str:=l.foldl (λ b p=>up b p.1 (some p.2)) b
theorem zqO (b:Book Str) (l:List (Str×Int)) (p:Str×Int):wb b (l++[p])=up (wb b l) p.1 (some p.2):=by unfold wb; rw [List.foldl_append]; rfl
theorem zk5:∀ (l:List (Act Str)) (b:Book Str),wb b (zar l)=over b l
 | [],b=>rfl
 | a::r,b=>by
  have e:zar (a::r)=(if a.wr then [(a.key,a.val)] else [])++zar r:=by
    unfold zar; rw [List.filterMap_cons]
    by_cases h:a.wr=true
    . rw [if_pos h,if_pos h]; rfl
    . rw [if_neg h,if_neg h]; rfl
  rw [e]
  by_cases h:a.wr=true
  . rw [if_pos h]; unfold over; rw [if_pos h]; exact zk5 r _
  . rw [if_neg h]; unfold over; rw [if_neg h]; exact zk5 r _
theorem znN:∀ {l:List (Str×Int)} {b:Book Str} {k:Str},wb b l k≠none->b k≠none\/k∈l.map (·.1)
 | [],_,_,h=>.inl h
 | p::r,b,k,h=>by
  rcases znN (l:=r) (b:=up b p.1 (some p.2)) h with h | h
  . by_cases z:k=p.1
    . exact .inr (by rw [z]; exact List.mem_cons_self)
    . rw [zan z] at h; exact .inl h
  . exact .inr (List.mem_cons_of_mem _ h)
theorem zgI {s:HS Str} {T:Nat} (E:Ext s T) {d:Nat} {k:Str} (h:k∈(zar (s.deed d).done).map (·.1)):k∈s.seen:=by
 obtain ⟨p,hp,rfl⟩:=List.mem_map.mp h
 unfold zar at hp
 obtain ⟨a,ha,hq⟩:=List.mem_filterMap.mp hp
 by_cases z:a.wr=true
 . rw [if_pos z] at hq; cases hq; exact E.zgr d a ha
 . rw [if_neg z] at hq; cases hq
end TP
end
section
namespace TP
open PySem L2 TH
def za7 (ns:List Int) (k:Nat):Int:=ns.getD k 0
def mixF (c p m:Int):Int:=c * 48271 % p % m
theorem zir {c p m:Int} (h:0 < m):0<=mixF c p m/\mixF c p m < m:=⟨Int.emod_nonneg _ (by omega),Int.emod_lt_of_pos _ h⟩
theorem zlr {c p:Int} {m:Nat} (h:0 < m):∃ n:Nat,mixF c p m=n/\n < m:=by
 obtain ⟨h1,h2⟩:=zir (c:=c) (p:=p) (m:=(m:Int)) (by omega)
 exact ⟨(mixF c p m).toNat,by omega,by omega⟩
def pick (l:Str) (i:Nat):Str:=match l.cps.toList[i]? with
 | some c=>⟨#[c]⟩
 | none=>Str.empty
def abc:Str := "abcdefghijklmnopqrstuvwxyz"
def zdp (seed:Int):List Str:=(List.range (mixF seed 9967 4).toNat).map λ (j:Nat)=>pick abc (mixF (seed+5 * (j:Int)) 9973 26).toNat
def zhm (ns:List Int) (k:Nat):Str:=pick "qrst" k++Txt.join "" (zdp (za7 ns 0+7 * (k:Int)))
open Classical in
noncomputable def keyF (ns:List Int) (k:Nat):Str:=if k=3/\za7 ns 0 % 2=0 then (if zhm ns 0 = "q" then "qa" else "q") else zhm ns k
theorem ziZ {l:Str} {i:Nat} (h:i < l.cps.size):∃ c,atI l.cps.toList (i:Int)=some c/\pick l i=⟨#[c]⟩:=by
 have hl:i < l.cps.toList.length:=by simpa using h
 refine ⟨l.cps.toList[i],zbm (by rw [List.getElem?_eq_getElem hl]),?_⟩
 unfold pick; rw [List.getElem?_eq_getElem hl]
theorem zpL (l:Str) (i:Nat):(pick l i).length<=1:=by
 unfold pick; split
 . exact Nat.le_refl _
 . exact Nat.zero_le _
theorem zpw (seed:Int):(zdp seed).length<=3:=by
 unfold zdp; rw [List.length_map,List.length_range]
 have:=zir (c:=seed) (p:=9967) (m:=4) (by decide)
 omega
theorem zou {a b:Str} (h:PyData.strOk a=true) (g:PyData.strOk b=true):PyData.strOk (a++b)=true:=by
 unfold PyData.strOk at *
 show (a.cps++b.cps).all _=true
 simp [h,g]
theorem zot {l:Str} (h:PyData.strOk l=true) (i:Nat):PyData.strOk (pick l i)=true:=by
 unfold pick
 split
 . rename_i c hc
   unfold PyData.strOk at h ⊢
   rw [Array.all_eq_true_iff_forall_mem] at h
   have:=h c (by have:=List.mem_of_getElem? hc; simpa using this)
   simpa using this
 . decide +kernel
theorem zrr:∀ {l:List Str},(∀ x∈l,PyData.strOk x=true)->PyData.strOk (Txt.join "" l)=true:=λ {l} h=>by
 have main:∀ (r:List Str) (a:Array Nat),(∀ x∈r,PyData.strOk x=true)->PyData.strOk ⟨a⟩=true->PyData.strOk ⟨r.foldl (λ acc p=>acc++("" : Str).cps++p.cps) a⟩=true:=λ r=>by
  induction r with
  | nil=>intro a _ h; exact h
  | cons x r ih =>
   intro a hx ha
   refine ih _ (λ y hy=>hx y (List.mem_cons_of_mem _ hy)) ?_
   have h1:=zou (a:=⟨a⟩) (b := "") ha (by decide +kernel)
   exact zou (a:=⟨a++("" : Str).cps⟩) (b:=x) h1 (hx x List.mem_cons_self)
 refine main (l.drop 1) _ (λ x hx=>h x (List.mem_of_mem_drop hx)) ?_
 cases l with
 | nil=>decide +kernel
 | cons x r=>exact h x List.mem_cons_self
theorem zqD (ns:List Int) (k:Nat):PyData.strOk (keyF ns k)=true:=by
 have h0:∀ k,PyData.strOk (zhm ns k)=true:=λ k=>zou (zot (by decide +kernel) k) (zrr λ x hx=>by
   unfold zdp at hx
   obtain ⟨j,_,rfl⟩:=List.mem_map.mp hx
   exact zot (by decide +kernel) _)
 unfold keyF
 split
 . split <;> decide +kernel
 . exact h0 k
theorem zmL {l:List Str}:(l.map (·.length)).sum+l.length * ("" : Str).length=(l.map (·.length)).sum:=by
 have:("" : Str).length=0:=by decide +kernel
 rw [this]; omega
theorem zkB (l:List Str):(Txt.join "" l).length<=(l.map (·.length)).sum:=by
 have e0:("" : Str).cps.size=0:=by decide +kernel
 have main:∀ (r:List Str) (a:Array Nat),(r.foldl (λ acc p=>acc++("" : Str).cps++p.cps) a).size=a.size+(r.map (·.length)).sum:=λ r=>by
  induction r with
  | nil=>intro a; rfl
  | cons x r ih =>
   intro a
   rw [List.foldl_cons,ih,List.map_cons,List.sum_cons,Array.size_append,Array.size_append,e0]
   have:x.cps.size=x.length:=rfl
   omega
 cases l with
 | nil=>exact Nat.le_refl _
 | cons x r =>
  have:=main r x.cps
  rw [List.map_cons,List.sum_cons]
  exact Nat.le_of_eq this
theorem zgB (seed:Int):((zdp seed).map (·.length)).sum<=3:=by
 have h1:=zpw seed
 have h2:∀ l:List Str,(∀ x∈l,x.length<=1)->(l.map (·.length)).sum<=l.length:=λ l=>by
  induction l with
  | nil=>intro _; exact Nat.le_refl _
  | cons x r ih=>intro h; rw [List.map_cons,List.sum_cons,List.length_cons]; have:=h x List.mem_cons_self; have:=ih λ y hy=>h y (List.mem_cons_of_mem _ hy); omega
 have h3:=h2 (zdp seed) λ x hx=>by
  unfold zdp at hx
  obtain ⟨j,_,rfl⟩:=List.mem_map.mp hx
  exact zpL _ _
 omega
def zr9 (K:PySem.W.Frag):Sp:=λ vs H Q _=>∃ (a:Addr) (ns:List Int) (k:Nat),vs=[.ref a,.int k]/\SqL K H a (ns.map V.int)/\Q (.int (za7 ns k)) H
def zs5:Sp:=λ vs H Q _=>∃ c p m:Int,vs=[.int c,.int p,.int m]/\0 < p/\0 < m/\Q (.int (mixF c p m)) H
def spNo:Sp:=λ _ _ _ _=>False
def zr6 (K:PySem.W.Frag):Sp:=λ vs H Q _=>∃ (a:Addr) (ns:List Int) (k:Nat),vs=[.ref a,.int k]/\SqL K H a (ns.map V.int)/\k < 3/\∀ H',Same H H'->Q (.str (zhm ns k)) H'
def zs7 (K:PySem.W.Frag):Sp:=λ vs H Q _=>∃ (a:Addr) (ns:List Int) (k:Nat),vs=[.ref a,.int k]/\SqL K H a (ns.map V.int)/\k < 4/\∀ H',Same H H'->Q (.str (keyF ns k)) H'
inductive LAct where
 | begin | read (d:Nat) (k:Str) | write (d:Nat) (k:Str) (v:Int) | keep (d:Nat) | drop (d:Nat)
def actD:LAct->List V
 | .begin=>[.str "begin"]
 | .read d k=>[.str "read",.int (d:Int),.str k]
 | .write d k v=>[.str "write",.int (d:Int),.str k,.int v]
 | .keep d=>[.str "keep",.int (d:Int)]
 | .drop d=>[.str "give up",.int (d:Int)]
def zl1 (ns:List Int) (k:Str):Prop:=∃ j,j < 4/\k=keyF ns j
def okA (ns:List Int) (b:Nat):LAct->Prop
 | .begin=>True
 | .read d k=>d < b/\zl1 ns k
 | .write d k _=>d < b/\zl1 ns k
 | .keep d=>d < b
 | .drop d=>d < b
def LAct.isB:LAct->Nat
 | .begin=>1
 | _=>0
def zdn (l:List LAct):Nat:=(l.map LAct.isB).sum
def Valid (ns:List Int) (l:List LAct):Prop:=∀ i a,l[i]?=some a->okA ns (zdn (l.take i)) a
theorem Valid.snoc {ns:List Int} {l:List LAct} {a:LAct} (v:Valid ns l) (h:okA ns (zdn l) a):Valid ns (l++[a]):=λ i b hb=>by
 by_cases hi:i < l.length
 . rw [List.getElem?_append_left hi] at hb
   have:=v i b hb
   rwa [List.take_append_of_le_length (by omega)]
 . rw [List.getElem?_append_right (by omega)] at hb
   have hi2:i - l.length=0:=by
    have:=(List.getElem?_eq_some_iff.mp hb).1
    simp at this; omega
   rw [hi2] at hb
   cases hb
   have:i=l.length:=by omega
   subst this
   rw [List.take_append_of_le_length (Nat.le_refl _),List.take_length]; exact h
theorem zdD (l:List LAct) (a:LAct):zdn (l++[a])=zdn l+a.isB:=by unfold zdn; rw [List.map_append,List.sum_append]; simp
theorem zqG (a:LAct):a.isB<=1:=by cases a <;> first | exact Nat.le_refl 1 | exact Nat.zero_le 1
theorem zhH (l:List LAct):zdn l<=l.length:=by
 unfold zdn
 induction l with
 | nil=>exact Nat.zero_le _
 | cons a r ih=>rw [List.map_cons,List.sum_cons,List.length_cons]; have:=zqG a; omega
theorem zpm (a:LAct):∃ t,actD a=.str t::(actD a).tail/\(decide (V.str t=V.str "begin"))=decide (a.isB=1):=by
 cases a <;> refine ⟨_,rfl,?_⟩ <;> first | rfl | exact decide_eq_false λ z=>by have:=V.str.inj z; revert this; decide +kernel
def zs9 (K:PySem.W.Frag):Sp:=λ vs H Q _=>∃ (a:Addr) (ns:List Int) (c:Int) (b:Nat),vs=[.ref a,.int c,.int b]/\SqL K H a (ns.map V.int)/\0 < b/\∀ H' q A,H q=none->Same H H'->H' q=some (.tup (actD A))->okA ns b A->Q (.ref q) H'
def zsc (K:PySem.W.Frag):Sp:=λ vs H Q _=>∃ (a:Addr) (ns:List Int),vs=[.ref a]/\SqL K H a (ns.map V.int)/\∀ H' q us As,H q=none->Same H H'->H' q=some (.lst us)->zao H' us (As.map actD)->(∀ p,V.ref p∈us->H p=none)->Valid ns As->As.length<=63->Q (.ref q) H'
end TP
end
section
namespace TP
open PySem L2 TH
theorem zhe {α:Type} [DecidableEq α]:∀ (a b:List α),a.Nodup->(∀ x∈a,x∈b)->a.length<=b.length
 | [],b,_,_=>Nat.zero_le _
 | x::r,b,nd,hs=>by
  obtain ⟨n1,n2⟩:=List.nodup_cons.mp nd
  have hx:=hs x List.mem_cons_self
  have:=zhe r (b.erase x) n2 λ z hz=>(List.mem_erase_of_ne (show z≠x from λ e=>n1 (e ▸ hz))).mpr (hs z (List.mem_cons_of_mem _ hz))
  rw [List.length_erase_of_mem hx] at this
  have hpos:0 < b.length:=List.length_pos_of_mem hx
  simp only [List.length_cons]; omega
theorem ztg {ns:List Int} {l:List Str} (nd:l.Nodup) (h:∀ k∈l,zl1 ns k):l.length<=4:=by
 have:=zhe l ((List.range 4).map (keyF ns)) nd λ k hk=>by
  obtain ⟨j,hj,rfl⟩:=h k hk
  exact List.mem_map.mpr ⟨j,List.mem_range.mpr hj,rfl⟩
 simpa using this
theorem zoD {s:HS Str} {k x:Str}:x∈(see s k).seen↔x=k\/x∈s.seen:=by
 show x∈(if k∈s.seen then s.seen else s.seen++[k])↔_
 split
 . rename_i h; exact ⟨.inr,λ q=>q.elim (λ z=>z ▸ h) id⟩
 . rw [List.mem_append,List.mem_singleton]; exact Or.comm
theorem see4 {ns:List Int} {s:HS Str} {T:Nat} {k:Str} (E:Ext s T) (h:∀ k∈s.seen,zl1 ns k) (hk:zl1 ns k):(see s k).seen.length<=4 :=
 ztg (E.see (k:=k)).snd λ x hx=>(zoD.mp hx).elim (λ z=>z ▸ hk) (h x)
noncomputable def zeG (s:HS Str):LAct->HS Str
 | .begin=>za6 s
 | .read d k=>if (s.deed d).st=.zas then wish ordS s d ⟨false,k,0⟩ else s
 | .write d k v=>if (s.deed d).st=.zas then wish ordS s d ⟨true,k,v⟩ else s
 | .keep d=>if (s.deed d).st=.zas then keep ordS s d else s
 | .drop d=>if (s.deed d).st=.zas\/(s.deed d).st=.waiting then drop ordS s d else s
theorem zfb (s:HS Str) (d:Nat) (k:Str):zeG s (.read d k)=if (s.deed d).st=.zas then wish ordS s d ⟨false,k,0⟩ else s:=rfl
theorem zeo (s:HS Str) (d:Nat) (k:Str) (v:Int):zeG s (.write d k v)=if (s.deed d).st=.zas then wish ordS s d ⟨true,k,v⟩ else s:=rfl
theorem zfc (s:HS Str) (d:Nat):zeG s (.keep d)=if (s.deed d).st=.zas then keep ordS s d else s:=rfl
theorem step_drop (s:HS Str) (d:Nat):zeG s (.drop d)=if (s.deed d).st=.zas\/(s.deed d).st=.waiting then drop ordS s d else s:=rfl
theorem Ready.mono {s:HS Str} {T:Nat} (R:Ready s T) (h:T+1<=1000):Ready s (T+1):=⟨R.c,R.h,R.a,⟨R.L.e.mono (Nat.le_succ _),h,R.L.n,R.L.sn⟩⟩
structure Run (ns:List Int) (s:HS Str) (T:Nat):Prop where
 r:Ready s T
 k:∀ k∈s.seen,zl1 ns k
theorem Run.step {ns:List Int} {s:HS Str} {T:Nat} (R:Run ns s T) (ht:T+1<=1000) (hn:s.n < 63) {a:LAct} (ok:okA ns s.n a):Run ns (zeG s a) (T+1)/\(zeG s a).n=s.n+a.isB:=by
 have same:Run ns s (T+1)/\s.n=s.n:=⟨⟨R.r.mono ht,R.k⟩,rfl⟩
 have wi:∀ (d:Nat) (x:Act Str),(s.deed d).st=.zas->zl1 ns x.key->Run ns (wish ordS s d x) (T+1)/\(wish ordS s d x).n=s.n:=λ d x hd hk=>by
  have h4:=see4 R.r.L.e R.k hk
  obtain ⟨f1,f2,_,_⟩:=zcJ (a:=x) R.r hd
  refine ⟨⟨R.r.wish hd h4 ht,λ k h=>?_⟩,f1⟩
  rw [f2] at h
  exact (zoD.mp h).elim (λ z=>z ▸ hk) (R.k k)
 cases a with
 | begin=>exact ⟨⟨R.r.za6 hn ht,R.k⟩,rfl⟩
 | read d k =>
  rw [zfb]
  split
  . rename_i h; exact wi d _ h ok.2
  . exact same
 | write d k v =>
  rw [zeo]
  split
  . rename_i h; exact wi d _ h ok.2
  . exact same
 | keep d =>
  rw [zfc]
  split
  . rename_i h
    have ha:(s.deed d).act:=.inl h
    exact ⟨⟨(R.r.keep ha).mono ht,λ k h=>R.k k (by rw [zky R.r.c ha] at h; exact h)⟩,zqy ordS R.r.c ha⟩
  . exact same
 | drop d =>
  rw [step_drop]
  split
  . rename_i h
    have ha:(s.deed d).act:=h
    exact ⟨⟨(R.r.drop ha).mono ht,λ k h=>R.k k (by rw [zhv R.r.c ha] at h; exact h)⟩,zko ordS R.r.c ha⟩
  . exact same
def zsa (A:Ad):Sp:=λ vs H Q E=>∃ ρ ad s kq act T ns,vs=[.ref (ad Role.hall),.ref kq]/\zai A ρ ad s (zau s) H/\Run ns s T/\T+1<=1000/\s.n < 63/\okA ns s.n act/\H kq=some (.tup (actD act)) /\
 (∀ v H' ρ' ad',ad' Role.hall=ad .hall->zai A ρ' ad' (zeG s act) (zau (zeG s act)) H'->Frame ρ H ρ' H'->Q v H')/\(zeG s act=s->E (.ref A.zcS) none H)
def spDo (A:Ad):Sp:=λ vs H Q _=>∃ ρ ad s kq act T ns,vs=[.ref (ad Role.hall),.ref kq]/\zai A ρ ad s (zau s) H/\Run ns s T/\T+1<=1000/\s.n < 63/\okA ns s.n act/\H kq=some (.tup (actD act)) /\
 ∀ v H' ρ' ad',ad' Role.hall=ad .hall->zai A ρ' ad' (zeG s act) (zau (zeG s act)) H'->Frame ρ H ρ' H'->Q v H'
def zr5 (K:PySem.W.Frag):Sp:=λ vs H Q _=>∃ (a:Addr) (ns:List Int),vs=[.ref a]/\SqL K H a (ns.map V.int)/\∀ H',Q (.bl true) H'
end TP
end
section
namespace TP
open PySem L2 TH
def zs6 (A:Ad):Sp:=λ vs H Q _=>∃ ρ ad s kv,vs=[.ref (ad Role.hall)]/\zai A ρ ad s kv H/\∀ H' q us,H q=none->Same H H'->H' q=some (.tup us)->zao H' us (s.log.map rowV)->Q (.ref q) H'
def zq4 (A:Ad):Sp:=λ vs H Q _=>∃ ρ ad s kv,vs=[.ref (ad Role.hall)]/\zai A ρ ad s kv H/\s.log.length<=3000/\∀ H',Same H H'->Q (.int ((logB s.log).length:Int)) H'
end TP
end
section
namespace TP
open PySem L2 TH
def rowB:Row Str->Bool
 | .begin _=>true
 | _=>false
theorem zpG (r:Row Str):∃ t,rowV r=.str t::(rowV r).tail/\decide (V.str t=V.str "begin")=rowB r:=by
 cases r <;> refine ⟨_,rfl,?_⟩ <;> first | rfl | exact decide_eq_false λ z=>by have:=V.str.inj z; revert this; decide +kernel
theorem zmG (l:List (Row Str)) (r:Row Str):(logB (l++[r])).length=(logB l).length+if rowB r then 1 else 0:=by
 rw [zbx,List.length_append]
 cases r <;> rfl
end TP
namespace TH
section
variable {K:Type} [DecidableEq K] (ord:List K->List K)
end
end TH
end
section
namespace HT
open PySem PyProof.Rows
section
variable {prog:Program} {w:World} {A:Around} {E:Value->Shared->Prop} {s:Shared}
theorem ze6 {t sl:Addr} {items:Array Value} {vl vu:Value} {lo hi:Option Int} {Q:Value->Shared->Prop} (ht:IsTup s.heap t items) (hs:s.heap.IsSliceOf sl vl vu .none) (pl:IsPart vl lo) (pu:IsPart vu hi)
  (h1:sIx items.size 0 lo=0) (h2:sIx items.size items.size hi=items.size) (h:Q (.ref t) s):wpAny (model prog w) A (getItem (.ref t) (.ref sl)) Q E s:=by
 obtain ⟨os,hos,hcs,hds⟩:=id hs
 have hTs:s.TypeIs (.ref sl) "slice" := ⟨os,hos,hcs⟩
 unfold getItem
 try with_reducible refine wpAny_holding ?_
 first | refine wpAny_bind (wpAny_pure ?_) | skip
 refine wpAny_bind (wpAny_sequenceKey ht.typeIs (by decide) ?_)
 refine wpAny_bind (wpAny_callSpecial?_slot (name:=Str.ofString "__getitem__") ht.typeIs PyProof.Rows.slot_tuple_getitem
  (wpAny_call_entry PyProof.Rows.slot_tuple_getitem ht.typeIs entry_tuple_getitem ?_ (args_tuple_getitem _ _)))
 show wpAny _ _ (Builtin.Tuple.tupleItemsOf (.ref t) >>= _) _ _ s
 refine wpAny_bind (tupleItemsOf_ ht ?_)
 refine wpAny_bind (wpAny_typeOf hTs ?_)
 rw [if_pos (by decide)]
 refine wpAny_bind (zdF hs pl pu ?_)
 have hno:((((sIx items.size 0 lo:Nat):Int) == 0 && (1:Int) == 1 && (sIx items.size items.size hi - sIx items.size 0 lo) == items.size)=true):=by
  rw [h1,h2]; simp
 show wpAny _ _ (if (((sIx items.size 0 lo:Nat):Int) == 0 && (1:Int) == 1 && (sIx items.size items.size hi - sIx items.size 0 lo) == items.size)=true then _ else _) _ _ s
 rw [if_pos hno]
 unfold Builtin.Tuple.tupleIsExact
 refine wpAny_bind (wpAny_bind (wpAny_typeOf ht.typeIs (wpAny_pure ?_)))
 rw [if_pos (by decide)]
 exact wpAny_bind (wpAny_rule (wpAny_pure ⟨_,rfl,wpAny_pure h⟩))
end
end HT
namespace L2
open PySem PySem.Spec PySem.W PyProof.Rows
section
variable {X:Cx}
def zsk (K:PySem.W.Frag):V->Option Int->Option Int->Hp->VK->Prop:=λ x lo hi H Q=>∃ a xs,∃ n:Nat,x=.ref a/\lo=none/\hi=some (n:Int)/\SqT K H a xs/\n<=xs.length /\
 (n=xs.length->Q (.ref a) H)/\(n < xs.length->∀ p,H p=none->Q (.ref p) (upd H p (.tup (xs.take n))))
theorem zgV {m n:Nat} (h:n<=m):HT.sIx m m (some (n:Int))=n:=by
 rw [HT.zgV]; omega
theorem zq7:SlR X (zsk X.K):=by
 intro pins s σ H x v vl vu lo hi sl Q I rx hs pl pu h
 obtain ⟨a,xs,n,rfl,rfl,rfl,hx,hn,q1,q2⟩:=h
 by_cases hw:n=xs.length
 . cases rx
   obtain ⟨its,r,ht,hz⟩:=I.tuple hx
   have hlen:its.toArray.size=xs.length:=by rw [List.size_toArray]; exact r.length.symm
   refine ⟨"tuple",_,PyProof.Rows.slot_tuple_getitem.lookup,ht.typeIs,?_⟩
   exact HT.ze6 ht hs pl pu rfl (by rw [hlen,zgV hn]; exact hw) ⟨.ref a,H,I,rfl,q1 hw⟩
 . refine zsd pins s σ H (.ref a) v vl vu none (some (n:Int)) sl Q I rx hs pl pu ⟨a,xs,rfl,hx,λ z=>hw (by rw [<-zgV hn]; exact z.2),λ p hp=>?_⟩
   have e:cutV xs none (some (n:Int))=xs.take n:=by
    unfold cutV
    rw [zgV hn]
    show (xs.drop 0).take (n - 0)=_
    rw [List.drop_zero,Nat.sub_zero]
   rw [e]
   exact q2 (by omega) p hp
def zrf:V->List V->Hp->VK->Prop:=λ x vs H Q=>∃ l,∃ ns:List Int,∃ k,x=.ref l/\vs=[.int k]/\H l=some (.lst (ns.map V.int))/\k∈ns/\Q .non (upd H l (.lst ((ns.erase k).map V.int)))
theorem zmS {k:Int}:∀ {ns:List Int},k∈ns->∃ j,ns[j]?=some k/\(∀ m,m < j->ns[m]?≠some k)/\ns.erase k=ns.eraseIdx j
 | n::r,h=>by
  by_cases z:n=k
  . subst z
    exact ⟨0,rfl,λ m hm=>absurd hm (Nat.not_lt_zero _),by rw [List.erase_cons_head]; rfl⟩
  . obtain ⟨j,h1,h2,h3⟩:=zmS (ns:=r) ((List.mem_cons.mp h).resolve_left λ e=>z e.symm)
    refine ⟨j+1,h1,λ m hm=>?_,?_⟩
    . cases m with
      | zero=>exact λ e=>z (Option.some.inj e)
      | succ m=>exact h2 m (by omega)
    . rw [List.erase_cons_tail (by simpa using z),h3]; rfl
theorem zif:∀ {xs:List V} {us:List Value} (j:Nat),Vals xs us->Vals (xs.eraseIdx j) (us.eraseIdx j)
 | _,_,_,.nil=>.nil
 | _,_,0,.cons _ r=>r
 | _,_,j+1,.cons a r=>.cons a (zif j r)
theorem zkp {α β:Type} (f:α->β):∀ (l:List α) (j:Nat),(l.eraseIdx j).map f=(l.map f).eraseIdx j
 | [],_=>rfl
 | _::_,0=>rfl
 | a::r,j+1=>by show f a::(r.eraseIdx j).map f=f a::(r.map f).eraseIdx j; rw [zkp f r j]
theorem zmh:∀ {ns:List Int} {us:List Value} {j:Nat} {u:Value},Vals (ns.map V.int) us->us[j]?=some u->∃ i t,ns[j]?=some i/\u=.int i t
 | _::_,_::_,0,_,.cons ⟨t,e⟩ _,h=>⟨_,t,rfl,by cases h; exact e⟩
 | _::ns,_::us,j+1,u,.cons _ r,h=>zmh (ns:=ns) (us:=us) (j:=j) r (by simpa using h)
 | [],_,_,_,.nil,h=>by simp at h
theorem zoy:MtR X "list.remove" zrf:=by
 intro pins s σ H x vs v us Q I rx rv h
 obtain ⟨l,ns,k,rfl,rfl,hH,hk,q⟩:=h
 cases rx
 obtain ⟨u,rfl,ru⟩:=Vals.one rv
 obtain ⟨t,rfl⟩:=ru
 obtain ⟨z,its,n,r,hl,e⟩:=I.lstM hH
 obtain ⟨j,h1,h2,h3⟩:=zmS hk
 have hlen:its.length=ns.length:=by rw [<-r.length,List.length_map]
 have hj:j < its.toArray.size:=by rw [List.size_toArray,hlen]; exact (List.getElem?_eq_some_iff.mp h1).1
 have at_:∀ m (hm:m < its.toArray.size),∃ i t,ns[m]?=some i/\its.toArray[m]=.int i t:=λ m hm=>zmh r (by rw [List.size_toArray] at hm; rw [List.getElem?_eq_getElem hm]; simp)
 have ig:∀ m (hm:m < its.toArray.size) i,ns[m]?=some i->Value.isInt k its.toArray[m]=decide (i=k):=λ m hm i hi=>by
   obtain ⟨i',t',e1,e2⟩:=at_ m hm
   rw [hi] at e1
   cases e1
   rw [e2]
   by_cases z:i=k
   . subst z; simp [Value.isInt]
   . simp [Value.isInt,z]
 refine call_meets F.slot_list_remove ⟨_,e,rfl⟩ F.entry_list_remove (F.args_list_remove_2 _ _) (MeetsSeq.list_remove l its.toArray n (.int k t) (Value.isInt k) (λ y hy=>?_) j hj ?_ (λ m hm hlt=>?_) (by rw [List.size_toArray,<-r.length]; exact z)) ⟨e,?_⟩
 . obtain ⟨m,hm,rfl⟩:=Array.getElem_of_mem hy
   obtain ⟨i,t',e1,e2⟩:=at_ m hm
   have:=ig m hm i e1
   rw [e2] at this ⊢
   rw [this]
   have:=MeetsSeq.EqGives.int i k t' t
   rwa [show (i == k)=decide (i=k) from rfl] at this
 . rw [ig j hj k h1]; simp
 . obtain ⟨i,t',e1,_⟩:=at_ m hm
   rw [ig m hm i e1]
   exact decide_eq_false λ z=>h2 m hlt (by rw [e1,z])
 . refine ⟨.non,_,I.lset (its':=its.eraseIdx j) hH e (by simp) ?_ ?_,rfl,q⟩
   . rw [h3,zkp]; exact zif j r
   . rw [List.length_map] at z ⊢
     exact Nat.le_trans (by rw [h3]; exact List.length_eraseIdx_le _ _) z
end
end L2
end
section
namespace TP
open PySem L2 TH
section
variable {K:PySem.W.Frag} {ρ ρ':Addr->Role} {H H':Hp} {a:Addr} {xs:List V}
end
theorem zpY {ns:List Int} {s:HS Str} {T:Nat} (R:Run ns s T) (l:zaT s) (a:LAct):zaT (zeG s a):=by
 cases a with
 | begin=>exact l.za6 R.r.c
 | read d k =>
  rw [zfb]
  split
  . rename_i h; exact l.wish ordS R.r.c h
  . exact l
 | write d k v =>
  rw [zeo]
  split
  . rename_i h; exact l.wish ordS R.r.c h
  . exact l
 | keep d =>
  rw [zfc]
  split
  . rename_i h; exact l.keep ordS R.r.c (.inl h)
  . exact l
 | drop d =>
  rw [step_drop]
  split
  . rename_i h; exact l.drop ordS R.r.c h
  . exact l
theorem zlE (d:Nat) (l:List Nat):inV (.int (d:Int)) (zay l)=decide (d∈l):=by
 unfold zay inV
 rw [List.any_map,Bool.eq_iff_iff,List.any_eq_true,decide_eq_true_iff]
 constructor
 . rintro ⟨x,hx,e⟩
   have e:eqV (.int (x:Int)) (.int (d:Int))=true:=e
   have:(x:Int)=d:=by simpa [eqV] using e
   rw [show d=x by omega]; exact hx
 . intro h
   exact ⟨d,h,by show eqV (.int (d:Int)) (.int (d:Int))=true; simp [eqV]⟩
theorem zhu (l:List Nat):(zay l).all zjn=true:=by
 unfold zay
 rw [List.all_map,List.all_eq_true]
 exact λ _ _=>rfl
end TP
end
section
namespace TH
section
variable {K:Type} [DecidableEq K] (ord:List K->List K)
end
end TH
namespace TP
open PySem L2 TH
theorem zpK (kvs:List (Key×V)) (k:Key) (v:V):(putK kvs k v).length<=kvs.length+1:=by
 unfold putK
 split <;> simp
end TP
end
section
namespace TP
open PySem L2 TH
structure ztq (l:List (Row Str)):Prop where
 g:∀ d∈logG l,d < (logB l).length/\d∉logK l
 k:∀ d∈logK l,d < (logB l).length
 up:(logG l).Pairwise (· < ·)
theorem zmP {g:List Nat} {d e:Nat} (h:e∈g.erase d):e∈g:=List.mem_of_mem_erase h
theorem Wf.zas:∀ {l:List (Row Str)},Wf l->ztq l:=λ {l} w=>by
 induction w with
 | nil=>exact ⟨λ d h=>(by cases h),λ d h=>(by cases h),List.Pairwise.nil⟩
 | @snoc l r w ok ih =>
  have nd:(logG l).Nodup:=ih.up.imp λ h=>Nat.ne_of_lt h
  cases r with
  | begin d =>
   have ok:d=(logB l).length:=ok
   have eb:(logB (l++[.begin d])).length=(logB l).length+1:=by rw [zbx,List.length_append]; rfl
   have ek:logK (l++[.begin d])=logK l:=by rw [zcP]; simp
   have eg:logG (l++[.begin d])=logG l++[d]:=by rw [zbI]; rfl
   refine ⟨λ e he=>?_,λ e he=>?_,?_⟩
   . rw [eg] at he
     rw [eb,ek]
     rcases List.mem_append.mp he with he | he
     . have:=ih.g e he; exact ⟨by omega,this.2⟩
     . rw [List.mem_singleton.mp he]
       exact ⟨by omega,λ z=>by have:=ih.k d z; omega⟩
   . rw [ek] at he; rw [eb]; have:=ih.k e he; omega
   . rw [eg]
     refine List.pairwise_append.mpr ⟨ih.up,List.pairwise_singleton _ _,λ a ha b hb=>?_⟩
     rw [List.mem_singleton.mp hb]; have:=(ih.g a ha).1; omega
  | write d k b v =>
   have eb:logB (l++[.write d k b v])=logB l:=by rw [zbx]; simp
   have ek:logK (l++[.write d k b v])=logK l:=by rw [zcP]; simp
   have eg:logG (l++[.write d k b v])=logG l:=by rw [zbI]; rfl
   exact ⟨by rw [eb,ek,eg]; exact ih.g,by rw [eb,ek]; exact ih.k,by rw [eg]; exact ih.up⟩
  | keep d =>
   have ok:d∈logG l:=ok
   have eb:logB (l++[.keep d])=logB l:=by rw [zbx]; simp
   have ek:logK (l++[.keep d])=logK l++[d]:=by rw [zcP]
   have eg:logG (l++[.keep d])=(logG l).erase d:=by rw [zbI]; rfl
   refine ⟨λ e he=>?_,λ e he=>?_,by rw [eg]; exact ih.up.sublist List.erase_sublist⟩
   . rw [eg] at he
     rw [eb,ek]
     have h1:=ih.g e (zmP he)
     refine ⟨h1.1,λ z=>?_⟩
     rcases List.mem_append.mp z with z | z
     . exact h1.2 z
     . rw [List.mem_singleton.mp z] at he; exact List.Nodup.not_mem_erase nd he
   . rw [ek] at he; rw [eb]
     rcases List.mem_append.mp he with z | z
     . exact ih.k e z
     . rw [List.mem_singleton.mp z]; exact (ih.g d ok).1
  | drop d =>
   have eb:logB (l++[.drop d])=logB l:=by rw [zbx]; simp
   have ek:logK (l++[.drop d])=logK l:=by rw [zcP]; simp
   have eg:logG (l++[.drop d])=(logG l).erase d:=by rw [zbI]; rfl
   exact ⟨λ e he=>by rw [eg] at he; rw [eb,ek]; exact ih.g e (zmP he),by rw [eb,ek]; exact ih.k,by rw [eg]; exact ih.up.sublist List.erase_sublist⟩
theorem Wf.pre {l:List (Row Str)} (w:Wf l):∀ i,Wf (l.take i):=by
 induction w with
 | nil=>intro i; rw [List.take_nil]; exact .nil
 | @snoc l r w ok ih =>
  intro i
  by_cases h:i<=l.length
  . rw [List.take_append_of_le_length h]; exact ih i
  . rw [List.take_of_length_le (by rw [List.length_append,List.length_singleton]; omega)]; exact .snoc w ok
end TP
end
section
namespace TP
open PySem L2 TH
theorem zgL {H H':Hp} (it:∀ b xs,H b=some (.tup xs)->H' b=some (.tup xs)):∀ {us:List V} {xss:List (List V)},zao H us xss->zao H' us xss
 | _,_,.nil=>.nil
 | _,_,.cons ⟨p,e,q⟩ t=>.cons ⟨p,e,it _ _ q⟩ (zgL it t)
theorem ziM {H:Hp}:∀ {us vs:List V} {xss yss:List (List V)},zao H us xss->zao H vs yss->zao H (us++vs) (xss++yss)
 | _,_,_,_,.nil,t=>t
 | _,_,_,_,.cons a r,t=>.cons a (ziM r t)
section
variable {H0 H H':Hp} {kvs:List (Key×V)} {l:List (Row Str)}
theorem zsB {d e:Nat} (h:e≠d):(Sum.inl (e:Int):Key)≠Sum.inl (d:Int):=λ z=>h (by have:=Sum.inl.inj z; omega)
end
def KeysIn (SN:List Str) (l:List (Row Str)):Prop:=∀ d,∀ p∈logW l d,p.1∈SN
theorem zmr {P:List (Row Str)->Prop} (h0:P []) (h1:∀ l r,P l->P (l++[r])) (l:List (Row Str)):P l:=by
 have:∀ i,P (l.take i):=λ i=>by
  induction i with
  | zero=>exact h0
  | succ i ih =>
   by_cases h:i < l.length
   . rw [List.take_add_one,List.getElem?_eq_getElem h]; exact h1 _ _ ih
   . rw [List.take_of_length_le (by omega)]; rw [List.take_of_length_le (by omega)] at ih; exact ih
 have q:=this l.length
 rwa [List.take_length] at q
def zm2 (H:Hp) (q:Addr) (l:List (Row Str)):Prop:=∃ us,H q=some (.tup us)/\zao H us (l.map rowV)
theorem zix (g:List Nat) (d:Nat):(g.map λ (n:Nat)=>(n:Int)).erase (d:Int)=(g.erase d).map λ (n:Nat)=>(n:Int):=by
 induction g with
 | nil=>rfl
 | cons x r ih =>
  rw [List.map_cons,List.erase_cons,List.erase_cons]
  by_cases z:x=d
  . subst z; simp
  . have:¬ (x:Int)=d:=by omega
    simp [z,this,ih]
theorem zpZ {l:List (Row Str)} (w:Wf l):(logG l).length<=(logB l).length:=by
 have:=zhe (logG l) (List.range (logB l).length) ((Wf.zas w).up.imp λ h=>Nat.ne_of_lt h) λ d hd=>List.mem_range.mpr ((Wf.zas w).g d hd).1
 rwa [List.length_range] at this
theorem zp0 (l:List (Row Str)) (i:Nat):(logB (l.take i)).length<=(logB l).length:=by
 have:logB l=logB (l.take i)++logB (l.drop i):=by
  unfold logB; rw [<-List.filterMap_append,List.take_append_drop]
 rw [this,List.length_append]; omega
theorem Wf.last {l:List (Row Str)} (w:Wf l) {i:Nat} {r:Row Str} (h:l[i]?=some r):zsi (l.take i) r:=by
 have w':=Wf.pre w (i+1)
 rw [List.take_add_one,h] at w'
 generalize e:l.take i++(some r).toList=m at w'
 cases w' with
 | nil=>simp at e
 | @snoc l' r' w2 ok =>
  have:l.take i++[r]=l'++[r']:=e
  have:=List.append_inj' this rfl
  rw [this.1]; cases this.2; exact ok
end TP
end
section
namespace TH
section
variable {K:Type} [DecidableEq K] (ord:List K->List K)
def zaW (s t:HS K):Prop:=∃ m,t.log=s.log++m
theorem zaW.refl (s:HS K):zaW s s:=⟨[],by simp⟩
theorem zaW.trans {s t u:HS K} (a:zaW s t) (b:zaW t u):zaW s u:=by
 obtain ⟨m,e⟩:=a; obtain ⟨n,f⟩:=b
 exact ⟨m++n,by rw [f,e,List.append_assoc]⟩
theorem zaW.doIt (s:HS K) (d:Nat) (a:Act K):zaW s (doIt s d a):=⟨_,zmU s d a⟩
theorem zaW.zaF {s:HS K} {ks:List K} (c:Core s none):zaW s (TH.zaF s ks) :=
 zbA (λ t=>zaW s t) (λ t k d w r a _ _ _ _ h=>h.trans (zaW.doIt _ d a)) ks s c (.refl s)
theorem zaW.keep {s:HS K} {d:Nat} (c:Core s none) (hd:(s.deed d).act):zaW s (TH.keep ord s d):=zaW.trans (t:=letGo (zp5 s d) d) ⟨[.keep d],rfl⟩ (zaW.zaF (c.keeps hd))
theorem zaW.drop {s:HS K} {d:Nat} (c:Core s none) (hd:(s.deed d).act):zaW s (TH.drop ord s d):=zaW.trans (t:=letGo (zqf s d) d) ⟨[.drop d],rfl⟩ (zaW.zaF (c.drops hd))
theorem zaW.settle:∀ {f:Nat} {s:HS K},Core s none->zaW s (TH.settle ord f s)
 | 0,s,_=>.refl s
 | f+1,s,c=>by
  unfold TH.settle
  split
  . exact .refl s
  . rename_i d hd
    have hw:(s.deed d).act:=.inr (zaJ (zbH (List.mem_of_getLast? hd)).2)
    exact (zaW.drop ord c hw).trans (zaW.settle (c.drop ord hw))
theorem zaW.wish {s:HS K} {d:Nat} {a:Act K} (c:Core s none) (hd:(s.deed d).st=.zas):zaW s (TH.wish ord s d a):=by
 have c1:Core (TH.see s a.key) none:=c.see
 unfold TH.wish
 dsimp only
 by_cases h1:look ((TH.see s a.key).held a.key) d=some a.wr\/look ((TH.see s a.key).held a.key) d=some true
 . rw [if_pos h1]; exact zaW.doIt (TH.see s a.key) d a
 . rw [if_neg h1]
   by_cases h2:lets ((TH.see s a.key).held a.key) d a.wr=true/\(has ((TH.see s a.key).held a.key) d=true\/(TH.see s a.key).rows a.key=[])
   . rw [if_pos h2]; exact zaW.doIt (take (TH.see s a.key) d a.key a.wr) d a
   . rw [if_neg h2]
     have hw:∀ w',(d,w')∈(TH.see s a.key).held a.key->w'=false/\a.wr=true:=λ w' z=>by
      have q:=zcO (c1.hNd _) z
      cases hw':w' with
      | true=>exact absurd (.inr (hw' ▸ q)) h1
      | false =>
       cases ha:a.wr with
       | true=>exact ⟨rfl,rfl⟩
       | false=>exact absurd (.inl (by rw [ha,q,hw'])) h1
     exact zaW.trans (t:=TH.wait (TH.see s a.key) d a) ⟨[],by show s.log=_; simp⟩ (zaW.settle ord (c1.wait hd zb5 hw))
end
end TH
namespace TP
open PySem L2 TH
theorem zaW.step {ns:List Int} {s:HS Str} {T:Nat} (R:Run ns s T) (act:LAct):zaW s (zeG s act):=by
 cases act with
 | begin=>exact ⟨[.begin s.n],rfl⟩
 | read d k =>
  rw [zfb]; split
  . rename_i h; exact zaW.wish ordS R.r.c h
  . exact .refl s
 | write d k v =>
  rw [zeo]; split
  . rename_i h; exact zaW.wish ordS R.r.c h
  . exact .refl s
 | keep d =>
  rw [zfc]; split
  . rename_i h; exact zaW.keep ordS R.r.c (.inl h)
  . exact .refl s
 | drop d =>
  rw [step_drop]; split
  . rename_i h; exact zaW.drop ordS R.r.c h
  . exact .refl s
theorem zig {ρ ρ':Addr->Role} {H H':Hp} (f:Frame ρ H ρ' H'):∀ {us:List V} {xss:List (List V)},(∀ p,V.ref p∈us->ρ p=.other)->zao H us xss->zao H' us xss/\∀ p,V.ref p∈us->ρ' p=.other
 | _,_,_,.nil=>⟨.nil,λ p h=>by cases h⟩
 | _::us,_,hr,.cons ⟨p,e,q⟩ t=>by
  obtain ⟨t',r'⟩:=zig f (λ p hp=>hr p (List.mem_cons_of_mem _ hp)) t
  subst e
  have h1:=f _ _ q (hr p List.mem_cons_self)
  exact ⟨.cons ⟨p,rfl,h1.1⟩ t',λ x hx=>by
   rcases List.mem_cons.mp hx with z | z
   . cases z; exact h1.2
   . exact r' x z⟩
section
variable {l:List (Row Str)} {kvs:List (Key×V)} {ρ ρ':Addr->Role} {H H':Hp}
end
theorem zjI {H:Hp}:∀ (i:Nat) {us:List V} {xss:List (List V)},zao H us xss->zao H (us.take i) (xss.take i)
 | 0,_,_,_=>by rw [List.take_zero,List.take_zero]; exact .nil
 | _+1,_,_,.nil=>.nil
 | i+1,_,_,.cons a t=>.cons a (zjI i t)
theorem znW {K:PySem.W.Frag} {H:Hp} {q:Addr} {l:List (Row Str)} {i:Nat} {Q:VK} (r:zm2 H q l) (hi:i<=l.length) (k:∀ q' H',Same H H'->zm2 H' q' (l.take i)->Q (.ref q') H'):zsk K (.ref q) none (some (i:Int)) H Q:=by
 obtain ⟨us,hq,tu⟩:=r
 have hl:us.length=l.length:=by rw [tu.length,List.length_map]
 refine ⟨q,us,i,rfl,rfl,rfl,SqT.of hq,by omega,λ e=>k q H (λ _ _ e=>e) ⟨us,hq,?_⟩,λ e p np=>k p _ (Same.zaq np) ⟨_,zab,?_⟩⟩
 . rw [List.take_of_length_le (by omega)]; exact tu
 . rw [List.map_take]
   exact zaH (Same.zaq np) (zjI i tu)
theorem zmF {s:HS Str} {T:Nat} (E:Ext s T) (L:zaT s):KeysIn s.seen s.log:=λ d p hp=>by
 rw [L.w] at hp
 exact zgI E (List.mem_map.mpr ⟨p,hp,rfl⟩)
end TP
end
section
namespace L2
open PySem PySem.Spec PySem.W PyProof.Rows
section
variable {X:Cx}
open Classical in
noncomputable def zrg:R2:=λ x y H Q=>∃ d ds,DV H x d/\DV H y (.list ds)/\(∀ e∈ds,kqdOk 7 e=true)/\zgs d/\Q (.bl (!decide (d∈ds))) H
open Classical in
theorem zpo {d:Dat} (hd:zgs d):∀ {ds:List Dat},(∀ e∈ds,kqdOk 7 e=true)->(kqdPs ds).any (λ y=>PyData.eqv y (kqdP d))=decide (d∈ds)
 | [],_=>by rw [kqdPs]; simp
 | e::r,h=>by
  rw [kqdPs,List.any_cons,zpo hd λ x hx=>h x (List.mem_cons_of_mem _ hx),zpf (zc1 (h e List.mem_cons_self)) hd]
  by_cases z:e=d
  . subst z; simp
  . rw [decide_eq_false z,Bool.false_or]
    by_cases q:d∈r
    . rw [decide_eq_true q,decide_eq_true (List.mem_cons_of_mem _ q)]
    . rw [decide_eq_false q,decide_eq_false λ y=>(List.mem_cons.mp y).elim (λ y=>z y.symm) q]
theorem zoq (hu:X.A.units+64 < cLine):OpR X (compareOp .NotIn) zrg:=by
 intro pins s σ H x y v u Q I rx ry h
 obtain ⟨d,ds,hd,he,kds,kd,q⟩:=h
 obtain ⟨as,ra⟩:=hd.reads I.hok rx
 obtain ⟨bs,rb⟩:=he.reads I.hok ry
 rw [kqdP] at rb
 have lay:=kqd_lay 8 (.list ds) (by simp only [kqdOk,List.all_eq_true]; exact kds)
 rw [kqdP] at lay
 have lays:PyData.canLayAll0 (kqdPs ds)=true:=by
  have:=lay.1
  simpa [PyData.canLay0] using this
 have dep:PyData.depthAll (kqdPs ds)<=8:=by
  have:=lay.2
  simp only [PyData.depth] at this
  omega
 have layd:=kqd_lay 8 d kd
 exact SeqAt.notIn_list_reads rb ra lays layd.1 (by have:=Nat.min_le_left (PyData.depthAll (kqdPs ds)) (kqdP d).depth; omega) (by rw [zpo kd kds]; exact ⟨.bl _,H,I,rfl,q⟩)
def Itv (K:PySem.W.Frag) (a:Addr) (n:Nat):It :=
 ⟨λ i H=>i < n/\∃ xs x,SqL K H a xs/\xs.length=n/\xs[n - 1 - i]?=some x,λ i H x H'=>H'=H/\∀ xs,SqL K H a xs->xs[n - 1 - i]?=some x,λ i _=>n<=i⟩
theorem zpv {P:Program} {w:World} {K:PySem.W.Frag} {tg:Expr} (a it:Addr) (n:Nat):Turn P w K tg (Itv K a n) [it] it (λ i h=>i<=n/\h.IsRevIter it a ((n:Int) - 1 - (i:Int))) where
 mem:=by simp
 obj:=λ i h st b hb=>by
  have e:b=it:=by simpa using hb
  subst e
  obtain ⟨_,o,e,c,d⟩:=st
  exact ⟨o,e,λ v z=>by rw [d] at z; cases z⟩
 keep:=λ i h h' st k=>⟨st.1,st.2.at λ o e=>k it (by simp) o e⟩
 item:=by
  intro X hP hw hK hc i pins s σ H E I hf st hg
  subst hP hw hK
  obtain ⟨hi,xs,x,hq,hl,hx⟩:=hg
  obtain ⟨its,rv,p,hz⟩:=I.list hq
  obtain ⟨u,hu,ru⟩:=rv.get hx
  obtain ⟨f0,f1,f2,f3,f4,f5⟩:=hf it (by simp)
  have e:(n:Int) - 1 - (i:Int)=((n - 1 - i:Nat):Int):=by omega
  have st2:=st.2
  rw [e] at st2
  refine wpAny_pyNext_rev_item st2 p.isList (x:=u) (by simpa using hu) λ h' st' sb=>?_
  have e2:((n - 1 - i:Nat):Int) - 1=(n:Int) - 1 - ((i+1:Nat):Int):=by omega
  rw [e2] at st'
  have I1:Inv X pins σ H { s with heap:=h' }:=I.turned (t':=s.toks) (λ b o hb e=>(sb.2 b hb).trans e) f0 f1 f3 f4 f5
  obtain ⟨o,e,c,d⟩:=id st'
  exact ⟨u,rfl,zoW (s:={ s with heap:=h' }) e c d (by decide) ⟨x,H,I1,ru,⟨rfl,λ ys hy=>by rw [I.zmH hy hq]; exact hx⟩,⟨hi,st'⟩,λ b hb=>(hf b hb).1⟩⟩
 done:=by
  intro X hP hw hK hc i pins s σ H E I hf st hg
  subst hP hw hK
  obtain ⟨f0,f1,f2,f3,f4,f5⟩:=hf it (by simp)
  have st2:=st.2
  rw [show (n:Int) - 1 - (i:Int)=-1 by have:=st.1; have:n<=i:=hg; omega] at st2
  exact wpAny_pyNext_rev_end (I.ok.hd hc) st2 λ h' eb=>⟨rfl,I.turned (t':=s.toks) (λ b o hb e=>eb b o hb e) f0 f1 f3 f4 f5⟩
 self:=λ _ _ _ _ _ st h=>wpAny_pyIter_revIter st.2 h
def iRev (K:PySem.W.Frag) (ta:TA):TI:=λ σ H R=>ta σ H λ vs H1=>∃ a xs,vs=[.ref a]/\SqL K H1 a xs/\R (Itv K a xs.length) H1
theorem zso {tg a:Expr} {ta:TA} {p pos:Pos} (hg:Gl X "reversed") (hm:X.mg "reversed" = none) (hb:bootBuiltins "reversed" = some (.type "reversed")) (ha:PA X [a] ta) (hs:starEach [a] X.env=[(false,eval a X.env)]:=by rfl):PI X tg (.Call (.Name "reversed" p) [a] [] pos) (iRev X.K ta):=by
 intro pins s σ H R I h
 refine Call_ (zkx I hg hm hb (PyProof.Rows.callWith_type1 (thn (ha pos pins s σ H _ I h) λ us s1 ⟨vs,H1,I1,r1,q1⟩=>?_) hs rfl))
 obtain ⟨l,xs,rfl,hq,q⟩:=q1
 obtain ⟨u,rfl,rx⟩:=vals1 r1
 cases rx
 obtain ⟨its,rv,pl,hz⟩:=I1.list hq
 refine PySem.call_reversed_list pl.isList ?_
 have hsz:its.toArray.size=xs.length:=by rw [List.size_toArray]; exact rv.length.symm
 have hit:(s1.heap.push (revObj l ((its.toArray.size:Int) - 1))).IsRevIter s1.heap.objs.size l ((xs.length:Int) - 1 - ((0:Nat):Int)):=⟨_,Heap.get?_push_size _ rfl,rfl,by rw [hsz]; simp [revObj]⟩
 refine wpAny_pyIter_revIter hit ?_
 refine ⟨s1.heap.objs.size,[s1.heap.objs.size],_,_,H1,rfl,I1.kept (t':=s1.toks) λ b o e=>Heap.get?_push_of_some _ e,zpv l _ xs.length,⟨Nat.zero_le _,hit⟩,λ b hb=>?_,q⟩
 have e:b=s1.heap.objs.size:=by simpa using hb
 subst e
 exact I1.fpOk (Nat.le_refl _) (I1.hok.fresh (Nat.le_refl _))
theorem zrB {K:PySem.W.Frag} {a:Addr} {xs:List V} {g:TG} {tb:TS} {D:Ends} {σ:St} {H:Hp} (Pv:Nat->St->Hp->Prop) (h0:Pv 0 σ H) (hl:∀ i σ H,i<=xs.length->Pv i σ H->SqL K H a xs)
   (hs:∀ i x σ H,xs.reverse[i]?=some x->Pv i σ H->g x σ H λ σ2 H2=>tb { D with nx:=Pv (i+1),ct:=Pv (i+1),bk:=D.nx } σ2 H2) (hd:∀ σ H,Pv xs.length σ H->D.nx σ H) :
   ∃ W:Nat->Nat->St->Hp->Prop,(∃ m,W 0 m σ H)/\∀ i m σ H,W i m σ H ->
    ((Itv K a xs.length).stop i H/\D.nx σ H)\/((Itv K a xs.length).go i H/\∃ N:St->Hp->Prop,(∀ σ' H',N σ' H'->∃ m',m' < m/\W (i+1) m' σ' H')/\∀ x H',(Itv K a xs.length).yld i H x H'->g x σ H' λ σ2 H2=>tb { D with nx:=N,ct:=N,bk:=D.nx } σ2 H2):=by
 refine ⟨λ i m σ H=>m=xs.length - i/\i<=xs.length/\Pv i σ H,⟨xs.length,by simp,Nat.zero_le _,h0⟩,?_⟩
 rintro i m σ H ⟨rfl,hi,p⟩
 have q:=hl i σ H hi p
 by_cases hlt:i < xs.length
 . refine .inr ⟨⟨hlt,xs,xs[xs.length - 1 - i]'(by omega),q,rfl,by rw [List.getElem?_eq_getElem]⟩,Pv (i+1),λ σ' H' p'=>⟨xs.length - (i+1),by omega,rfl,hlt,p'⟩,λ x H' y=>?_⟩
   obtain ⟨e,y⟩:=y
   subst e
   exact hs i x σ _ (by rw [List.getElem?_reverse hlt]; exact y xs q) p
 . have e:i=xs.length:=by omega
   subst e
   exact .inl ⟨Nat.le_refl _,hd σ H p⟩
theorem zqi (hc:X.calm=true):zid X (.builtin "all") (λ xs H Q=>∃ l,∃ bs:List Bool,xs=[.ref l]/\SqL X.K H l (bs.map V.bl)/\Q (.bl (bs.all id)) H):=by
 intro pins s σ H xs us Q I r h
 obtain ⟨l,bs,rfl,hl,q⟩:=h
 obtain ⟨u,rfl,ru⟩:=vals1 r
 cases ru
 obtain ⟨its,rv,pl,hz⟩:=I.list hl
 have hlen:its.length=bs.length:=by rw [<-rv.length,List.length_map]
 obtain ⟨ol,hol,_⟩:=id pl.isList
 refine call_all_walk (wpAny_pyIter_list pl.isList ⟨s.heap.objs.size,_,_,_,_,_,λ i=>bs.getD i true,rfl,Walks.list (show X.A.in1.handled=none from I.ok.hd hc) _ l (Nat.ne_of_lt (Heap.lt_size hol)) its.toArray,⟨⟨_,Heap.get?_push_size _ rfl,rfl,rfl⟩,pl.isList.at λ o e=>Heap.get?_push_of_some _ e⟩,λ i v s Q E hv hq=>?_,λ h' tk hk=>?_⟩)
 . have hv:its[i]?=some v:=by simpa using hv
   have hi:i < bs.length:=by rw [<-hlen]; exact (List.getElem?_eq_some_iff.mp hv).1
   obtain ⟨b,hb⟩:∃ b,bs[i]?=some b:=⟨_,List.getElem?_eq_getElem hi⟩
   obtain ⟨u,hu,ru⟩:=rv.get (show (bs.map V.bl)[i]?=some (V.bl b) by rw [List.getElem?_map,hb]; rfl)
   rw [hv] at hu
   cases hu
   cases ru
   have hq:Q (bs.getD i true) s:=hq
   rw [List.getD_eq_getElem?_getD,hb] at hq
   first | exact wpAny_pure hq | (unfold truthy; exact wpAny_pure hq) | (unfold truthy; simp; exact wpAny_pure hq)
 . have e:(List.range its.toArray.size).all (λ i=>bs.getD i true)=bs.all id:=by
    rw [List.size_toArray,hlen,Bool.eq_iff_iff,List.all_eq_true,List.all_eq_true]
    constructor
    . intro h b hb
      obtain ⟨i,hi⟩:=List.getElem?_of_mem hb
      have:=h i (List.mem_range.mpr (List.getElem?_eq_some_iff.mp hi).1)
      rw [List.getD_eq_getElem?_getD,hi] at this; exact this
    . intro h i hi
      have hi:=List.mem_range.mp hi
      rw [List.getD_eq_getElem?_getD,List.getElem?_eq_getElem hi]
      exact h _ (List.getElem_mem hi)
   rw [e]
   refine ⟨.bl _,H,I.kept (t':=tk) λ b o eb=>hk b o (λ z=>?_) (Heap.get?_push_of_some _ eb),rfl,q⟩
   have z:b=s.heap.objs.size:=by simpa using z
   exact absurd (Heap.lt_size eb) (by rw [z]; exact Nat.lt_irrefl _)
end
end L2
end
section
namespace TP
open PySem L2 TH
structure DlAt (H:Hp) (kvs:List (Key×V)) (f:Nat->List (Str×Int)) (n:Nat):Prop where
 at_:∀ d:Nat,(valV kvs (Sum.inl (d:Int))=none/\f d=[])\/∃ li us,valV kvs (Sum.inl (d:Int))=some (.ref li)/\H li=some (.lst us)/\zao H us ((f d).map zew)
 len:kvs.length<=n
section
variable {H H':Hp} {kvs:List (Key×V)} {f:Nat->List (Str×Int)} {n:Nat}
theorem DlAt.nil:DlAt H [] (λ _=>[]) 0:=⟨λ d=>.inl ⟨rfl,rfl⟩,Nat.le_refl _⟩
theorem DlAt.carry (w:DlAt H kvs f n) (il:∀ b xs,H b=some (.lst xs)->H' b=some (.lst xs)) (it:∀ b xs,H b=some (.tup xs)->H' b=some (.tup xs)):DlAt H' kvs f n :=
 ⟨λ d=>(w.at_ d).imp id λ ⟨li,us,a,b,c⟩=>⟨li,us,a,il _ _ b,zgL it c⟩,w.len⟩
theorem DlAt.set (w:DlAt H kvs f n) {d:Nat} {x:Str×Int} {p:Addr} {us:List V} (hn:H' p=some (.lst us)) (t:zao H' us ((f d++[x]).map zew))
   (il:∀ b xs,H b=some (.lst xs)->H' b=some (.lst xs)) (it:∀ b xs,H b=some (.tup xs)->H' b=some (.tup xs)):DlAt H' (putK kvs (Sum.inl (d:Int)) (.ref p)) (up f d (f d++[x])) (n+1):=by
 refine ⟨λ e=>?_,Nat.le_trans (zpK _ _ _) (by have:=w.len; omega)⟩
 rw [zmi]
 by_cases z:e=d
 . subst z
   rw [if_pos rfl,zag]
   exact .inr ⟨p,us,rfl,hn,t⟩
 . rw [if_neg (zsB z),zan z]
   exact (w.carry il it).at_ e
end
def BkIs (SN:List Str) (lb:List (Str×Int)) (B:Str->Int):Prop:=∃ b,zbn lb b/\(∀ k,(b k).getD 0=B k)/\∀ k,b k≠none->k∈SN
theorem BkIs.nil {SN:List Str}:BkIs SN [] (λ _=>0):=⟨λ _=>none,⟨List.nodup_nil,λ k v=>⟨λ h=>(by cases h),λ h=>(by cases h)⟩⟩,λ _=>rfl,λ k h=>absurd rfl h⟩
theorem BkIs.put {SN:List Str} {lb:List (Str×Int)} {B:Str->Int} (h:BkIs SN lb B) {k:Str} (hk:k∈SN) (v:Int):BkIs SN (bput lb k v) (up B k v):=by
 obtain ⟨b,h1,h2,h3⟩:=h
 refine ⟨up b k (some v),h1.put k v,λ x=>?_,λ x hx=>?_⟩
 . by_cases z:x=k
   . subst z; rw [zag,zag]; rfl
   . rw [zan z,zan z]; exact h2 x
 . by_cases z:x=k
   . rw [z]; exact hk
   . rw [zan z] at hx; exact h3 x hx
theorem BkIs.len {SN:List Str} {lb:List (Str×Int)} {B:Str->Int} (h:BkIs SN lb B) (nd:SN.Nodup):lb.length<=SN.length:=by
 obtain ⟨b,h1,_,h3⟩:=h
 exact h1.len nd h3
theorem BkIs.val {SN:List Str} {lb:List (Str×Int)} {B:Str->Int} (h:BkIs SN lb B) (k:Str):(valV (bkV lb) (Sum.inr k)).getD (V.int 0)=V.int (B k):=by
 obtain ⟨b,h1,h2,_⟩:=h
 rw [h1.val,<-h2]
 cases b k <;> rfl
def rowD:Row Str->List PySem.W.Dat
 | .begin d=>[.str "begin",.int d]
 | .write d k b v=>[.str "write",.int d,.str k,.int b,.int v]
 | .keep d=>[.str "keep",.int d]
 | .drop d=>[.str "give up",.int d]
theorem zey {H:Hp} (r:Row Str):DVs H (rowV r) (rowD r):=by
 cases r <;> first | exact .cons (.str _) (.cons (.int _) .nil) | exact .cons (.str _) (.cons (.int _) (.cons (.str _) (.cons (.int _) (.cons (.int _) .nil))))
theorem zfL {r:Row Str} (h:∀ d k b v,r=.write d k b v->PyData.strOk k=true):PySem.W.kqdOk 7 (.tuple (rowD r))=true:=by
 cases r with
 | write d k b v=>simp [rowD,PySem.W.kqdOk,h d k b v rfl]; decide +kernel
 | begin d=>simp [rowD,PySem.W.kqdOk]; decide +kernel
 | keep d=>simp [rowD,PySem.W.kqdOk]; decide +kernel
 | drop d=>simp [rowD,PySem.W.kqdOk]; decide +kernel
theorem zlj {H:Hp}:∀ {l:List (Row Str)} {us:List V},zao H us (l.map rowV)->DVs H us (l.map λ r=>.tuple (rowD r))
 | [],[],.nil=>.nil
 | r::_,_::_,.cons ⟨p,e,q⟩ t=>by subst e; exact .cons (.tup q (zey r)) (zlj t)
def zcn (SN:List Str) (l:List (Row Str)):Prop:=∀ d k b v,Row.write d k b v∈l->k∈SN
theorem KeysIn.rows {SN:List Str} {l:List (Row Str)} (h:KeysIn SN l):zcn SN l:=λ d k b v m=>h d (k,v) (by
 unfold logW
 exact List.mem_filterMap.mpr ⟨_,m,by simp⟩)
theorem zoe {SN:List Str} {l:List (Row Str)} (h:zcn SN l) (ok:∀ k∈SN,PyData.strOk k=true):zgs (.tuple (l.map λ r=>.tuple (rowD r))):=by
 show PySem.W.kqdOk 8 _=true
 rw [PySem.W.kqdOk,List.all_map,List.all_eq_true]
 exact λ r hr=>zfL λ d k b v e=>ok k (h d k b v (e ▸ hr))
def zq1:Sp:=λ vs H Q _=>∃ i,vs=[.int i]/\Q (.bl true) H
def zk7:Sp:=λ vs H Q _=>∃ q l SN,vs=[.ref q]/\zm2 H q l/\l.length<=3000/\Wf l/\(logB l).length<=63/\zcn SN l/\SN.Nodup/\SN.length<=4/\(∀ k∈SN,PyData.strOk k=true)/\∀ H',Same H H'->Q (.bl true) H'
theorem zpu (l:List (Str×Int)) (B:Str->Int):undo l B=l.reverse.foldl (λ bk p=>up bk p.1 p.2) B:=by
 unfold undo
 rw [List.foldl_reverse]
theorem zcn.init {SN:List Str} {l:List (Row Str)} {r:Row Str} (h:zcn SN (l++[r])):zcn SN l:=λ d k b v m=>h d k b v (List.mem_append_left _ m)
theorem zcn.pre {SN:List Str} {l:List (Row Str)} (h:zcn SN l) (i:Nat):zcn SN (l.take i):=λ d k b v m=>h d k b v (List.mem_of_mem_take m)
theorem zsQ {SN:List Str} (l:List (Row Str)):zcn SN l->∀ d,∀ p∈(scan l).bef d,p.1∈SN:=by
 refine zmr (P:=λ l=>zcn SN l->∀ d,∀ p∈(scan l).bef d,p.1∈SN) (λ _ d p h=>by cases h) (λ l r ih h d p hp=>?_) l
 rw [scan_snoc] at hp
 cases r with
 | write e k b v =>
  have hp:p∈up (scan l).bef e ((scan l).bef e++[(k,b)]) d:=hp
  by_cases z:d=e
  . subst z
    rw [zag] at hp
    rcases List.mem_append.mp hp with q | q
    . exact ih h.init d p q
    . rw [List.mem_singleton.mp q]; exact h d k b v (List.mem_append_right _ List.mem_cons_self)
  . rw [zan z] at hp; exact ih h.init d p hp
 | begin e=>exact ih h.init d p hp
 | keep e=>exact ih h.init d p hp
 | drop e=>exact ih h.init d p hp
theorem zrI (l:List (Row Str)) (d:Nat):((scan l).bef d).length<=l.length:=by
 refine zmr (P:=λ l=>((scan l).bef d).length<=l.length) (Nat.le_refl _) (λ l r ih=>?_) l
 rw [scan_snoc,List.length_append,List.length_singleton]
 cases r with
 | write e k b v =>
  show (up (scan l).bef e ((scan l).bef e++[(k,b)]) d).length<=_
  by_cases z:d=e
  . subst z; rw [zag,List.length_append,List.length_singleton]; omega
  . rw [zan z]; omega
 | begin e=>exact Nat.le_succ_of_le ih
 | keep e=>exact Nat.le_succ_of_le ih
 | drop e=>exact Nat.le_succ_of_le ih
theorem zmk {H:Hp}:∀ {us:List V} {xss:List (List V)},zao H us xss->zao H us.reverse xss.reverse
 | _,_,.nil=>.nil
 | _,_,.cons a r=>by rw [List.reverse_cons,List.reverse_cons]; exact ziM (zmk r) (.cons a .nil)
theorem zre (r:Row Str) (h:∀ d k b v,r=.write d k b v->PyData.strOk k=true):zgs (.tuple (rowD r)):=zc1 (zfL h)
theorem DlAt.zmZ {H H':Hp} {kvs:List (Key×V)} {f:Nat->List (Str×Int)} {n m:Nat} (w:DlAt H kvs f n) (h:n<=m) (il:∀ (d:Nat) li xs,valV kvs (Sum.inl (d:Int))=some (.ref li)->H li=some (.lst xs)->H' li=some (.lst xs)) (it:∀ b xs,H b=some (.tup xs)->H' b=some (.tup xs)):DlAt H' kvs f m :=
 ⟨λ d=>(w.at_ d).imp id λ ⟨li,us,a,b,c⟩=>⟨li,us,a,il d li _ a b,zgL it c⟩,Nat.le_trans w.len h⟩
theorem zgF (g:List Nat):zay g=(g.map λ (n:Nat)=>(n:Int)).map V.int:=by unfold zay; rw [List.map_map]; rfl
def wV (p:Str×Int):List V:=[.str "write",.str p.1,.int p.2]
def wD (p:Str×Int):PySem.W.Dat:=.tuple [.str "write",.str p.1,.int p.2]
theorem w_dv {H:Hp}:∀ {l:List (Str×Int)} {us:List V},zao H us (l.map wV)->DVs H us (l.map wD)
 | [],[],.nil=>.nil
 | r::_,_::_,.cons ⟨p,e,q⟩ t=>by subst e; exact .cons (.tup q (.cons (.str _) (.cons (.str _) (.cons (.int _) .nil)))) (w_dv t)
theorem w_ok {l:List (Str×Int)} (h:∀ p∈l,PyData.strOk p.1=true):zgs (.list (l.map wD)):=by
 show PySem.W.kqdOk 8 _=true
 rw [PySem.W.kqdOk,List.all_map,List.all_eq_true]
 intro p hp
 simp [wD,PySem.W.kqdOk,h p hp]; decide +kernel
theorem zsT {a:Act Str} (h:a.wr=true):actV a=wV (a.key,a.val):=by unfold actV wV; rw [if_pos h]
end TP
end
section
namespace TP
open PySem PySem.W PyProof.Rows
def goT (thr ok:Thread->Bool) (stp:SharedT->Thread->Option (SharedT×Thread)):Nat->SharedT->Thread->Option SharedT
 | 0,_,_=>none
 | n+1,s,t=>match thr t with
  | true=>some s
  | false=>match ok t with
   | false=>none
   | true=>match stp s t with
    | some (s',t')=>goT thr ok stp n s' t'
    | none=>none
theorem zoX {tb:String->Option Builtin} {p:Program} {w:World} {m:Nat} {ann:Option Value}:∀ {n:Nat} {s s':SharedT} {t:Thread},goT through (stepOk m ann) (stepT (denote tb) p w) n s t=some s'->topRun tb p w m ann n s.abs t=some s'.abs
 | 0,_,_,_,h=>by cases h
 | n+1,s,s',t,h=>by
  unfold goT at h
  unfold topRun
  cases ht:through t with
  | true=>rw [ht] at h; cases h; rfl
  | false =>
   rw [ht] at h
   cases hk:stepOk m ann t with
   | false=>rw [hk] at h; cases h
   | true =>
    rw [hk] at h
    cases hs:stepT (denote tb) p w s t with
    | none=>rw [hs] at h; cases h
    | some r=>obtain ⟨a,b⟩:=r; rw [hs] at h; rw [stepT_spec hs]; exact zoX h
def ofL:List Obj->Nat->BT->BT
 | [],_,t=>t
 | o::l,i,t=>ofL l (i+1) (t.ins i o)
theorem ztf {p q:Program} {loose:List Str} {Xt:Shared->Bool} {α:Type} {Yf:Shared->α} {Ya:World->α} {N m:Nat} {ann:Option Value} {life:Life}
  (op:∀ w:World,(fencedOpening treeTable p w N).map (λ s=>(s.heap,s.gens,s.drawn,s.toks))=some (boot_heap w.params,Array.mk [],boot_drawn,boot_toks))
  (size:∀ w:World,((boot_heap w.params).isNs mainGlobals && (Array.mk []:Array GenState).size == 0,(boot_heap w.params).objs.size,(boot_heap w.params).nsMap mainGlobals "__annotations__")=(true,m,ann))
  (hb:∀ w:World,absHeap (ofL (boot_heap w.params).objs.toList 0 .nil) m life=boot_heap w.params)
  (run:∀ (w:World) (os:OsState),(goT through (stepOk m ann) (stepT (denote treeTable) p w) N ⟨ofL (boot_heap w.params).objs.toList 0 .nil,m,life,Array.mk [],boot_drawn,boot_toks,os⟩ (topStub p)).map
   (λ s=>(staticsOk (importedModules p.main.body) (boot_heap w.params) s.abs.heap && namesBound p s.abs.heap && gensDone s.abs && laidKept (boot_heap w.params) s.abs.heap,openSeen q loose (importedModules p.main.body) Xt true s.abs,Yf s.abs))=some (true,openGood q loose,Ya w)) :
  LeftO p q loose Xt Yf Ya N:=λ w=>by
 obtain ⟨⟨h,gs,d,k,os⟩,e,e'⟩:=Option.map_eq_some_iff.mp (op w)
 obtain ⟨rfl,rfl,rfl,rfl⟩:h=boot_heap w.params/\gs=Array.mk []/\d=boot_drawn/\k=boot_toks:=by simpa using e'
 obtain ⟨z1,z2,z3⟩:_/\_/\_:=by simpa only [Prod.mk.injEq] using size w
 obtain ⟨s,es,ev⟩:=Option.map_eq_some_iff.mp (run w os)
 obtain ⟨l1,l2,l3⟩:_/\_/\_:=by simpa only [Prod.mk.injEq] using ev
 have r:=zoX es
 unfold SharedT.abs at r
 dsimp only at r
 rw [hb] at r
 have t:topFrom treeTable p w N ⟨boot_heap w.params,Array.mk [],boot_drawn,boot_toks,os⟩=some s.abs:=by
  unfold topFrom
  dsimp only
  rw [z1,z2,z3,r]
  show (match staticsOk (importedModules p.main.body) (boot_heap w.params) s.abs.heap && namesBound p s.abs.heap && gensDone s.abs && laidKept (boot_heap w.params) s.abs.heap with | true=>_ | false=>_)=_
  rw [l1]
  rfl
 unfold openEnds
 rw [e]
 show (topFrom treeTable p w N _).map _=_
 rw [t]
 show some (openSeen q loose (importedModules p.main.body) Xt true s.abs,Yf s.abs)=_
 rw [l2,l3]
end TP
end
section
namespace TP
open PySem L2 TH PyProof.Rows
abbrev FV:=Str×Str×Arguments×FuncBody×Scope×Addr×List (Str×Addr)×Value×Addr×Bool
def fV (K:PySem.W.Frag) (f:Addr):Option FV:=match K.lookup f with
 | some ⟨_,_,.func d,_⟩=>some (d.name,d.qualname,d.params,d.body,d.scope,d.globals,d.closure,d.defaults,d.builtins,PySem.W.codeIn K d.code d.qualname && PySem.W.isFn K (.ref f))
 | _=>none
def fE (x q:Str) (st:Stmt):Option FV:=some (x,q,zjo st,.stmts (zhx st),zal st,mainGlobals,[],.none,builtinsNs,true)
def fdOf (K:PySem.W.Frag) (f:Addr):FuncData:=match K.lookup f with
 | some ⟨_,_,.func d,_⟩=>d
 | _=>default
def fi (K:PySem.W.Frag) (c:Addr) (x:Str):Option (Option Value):=PySem.W.findIn K (.ref c) x
def gl (K:PySem.W.Frag) (x:Str):Option (Option Value):=PySem.W.nsIn K mainGlobals x
def gs (K:PySem.W.Frag) (x v:Str):Bool:=match PySem.W.nsIn K mainGlobals x with
 | some (some (.str y _))=>y == v
 | _=>false
def gi (K:PySem.W.Frag) (x:Str) (v:Int):Bool:=match PySem.W.nsIn K mainGlobals x with
 | some (some (.int y _))=>y == v
 | _=>false
def dOf (st:Stmt):DefRec:=match st with
 | .FunctionDef n a b _ _ _ s _ _ p=>⟨n,a,b,s,p⟩
 | _=>⟨"",zjo st,[],zal st,⟨0,0,0,0⟩⟩
def Kof (as:List Addr) (h:Heap):PySem.W.Frag:=as.filterMap λ a=>(h.get? a).map λ o=>(a,o)
theorem zsU {as:List Addr} {h:Heap}:(Kof as h).In h:=by
 unfold Kof
 intro a o e
 induction as with
 | nil=>cases e
 | cons b r ih =>
  rw [List.filterMap_cons] at e
  cases hb:h.get? b with
  | none=>rw [hb] at e; exact ih e
  | some x =>
   rw [hb] at e
   simp only [Option.map_some,List.lookup_cons] at e
   split at e
   . rename_i z
     rw [eq_of_beq z,hb]; exact e
   . exact ih e
section
variable {K:PySem.W.Frag}
theorem bt {L:List Bool} (h:L.all id=true) (i:Nat) {b:Bool} (e:L[i]?=some b):b=true:=List.all_eq_true.mp h b (List.mem_of_getElem? e)
theorem fu0 {x q:Str} {st:Stmt} {f:Addr} (h:fV K f=fE x q st):Fun K x q st f (fdOf K f)/\PySem.W.isFn K (.ref f)=true/\PySem.W.keepIn K (.ref f)=true:=by
 unfold fV fE at h
 unfold fdOf
 split at h
 . rename_i oc od d sl e
   obtain ⟨n,q',ps,bd,sc,g,cl,df,kw,dc,pm,an,cd,ct,bi⟩:=d
   simp only [Option.some.injEq,Prod.mk.injEq,Bool.and_eq_true] at h
   obtain ⟨rfl,rfl,rfl,rfl,rfl,rfl,rfl,rfl,rfl,h1,h2⟩:=h
   have kp:PySem.W.keepIn K (.ref f)=true:=by unfold PySem.W.keepIn; dsimp only; rw [e]
   exact ⟨⟨⟨oc,od,kw,dc,pm,an,cd,ct,sl,rfl,e,h1⟩,kp⟩,h2,kp⟩
 . cases h
theorem fuA {L:List Addr} {E:List (Option FV)} (h:L.map (fV K)=E) (i:Nat) {f:Addr} {x q:Str} {st:Stmt} (e1:L[i]?=some f) (e2:E[i]?=some (fE x q st)):fV K f=fE x q st:=by
 rw [<-h,List.getElem?_map,e1] at e2
 exact Option.some.inj e2
theorem fu {L:List Addr} {E:List (Option FV)} (h:L.map (fV K)=E) (i:Nat) {f:Addr} {x q:Str} {st:Stmt} (e1:L[i]?=some f) (e2:E[i]?=some (fE x q st)):Fun K x q st f (fdOf K f):=(fu0 (fuA h i e1 e2)).1
theorem fu2 {L:List Addr} {E:List (Option FV)} (h:L.map (fV K)=E) (i:Nat) {f:Addr} {x q:Str} {st:Stmt} (e1:L[i]?=some f) (e2:E[i]?=some (fE x q st)):PySem.W.isFn K (.ref f)=true:=(fu0 (fuA h i e1 e2)).2.1
theorem fu3 {L:List Addr} {E:List (Option FV)} (h:L.map (fV K)=E) (i:Nat) {f:Addr} {x q:Str} {st:Stmt} (e1:L[i]?=some f) (e2:E[i]?=some (fE x q st)):PySem.W.keepIn K (.ref f)=true:=(fu0 (fuA h i e1 e2)).2.2
variable {h:Heap} {mg:Str->Option Value}
theorem zhr (X:K.In h) (G:h.Ns mainGlobals mg) {x v:Str} (e:gs K x v=true):∃ t,mg x=some (.str v t):=by
 unfold gs at e
 split at e
 . rename_i y t q
   rw [eq_of_beq e] at q
   exact ⟨t,PySem.W.mg_of X G q⟩
 . cases e
theorem ztk (X:K.In h) (G:h.Ns mainGlobals mg) {x:Str} {v:Int} (e:gi K x v=true):∃ t,mg x=some (.int v t):=by
 unfold gi at e
 split at e
 . rename_i y t q
   rw [eq_of_beq e] at q
   exact ⟨t,PySem.W.mg_of X G q⟩
 . cases e
end
theorem walk2 {l:PySem.W.OpenLaw} {n k:Nat} {q:Program} {loose:List Str} {XP:(Str->Option Value)->Heap->Prop} {OB:PySem.W.Frag->Prop} {d:DefRec} {CX:World->CXT} {sp:PySem.W.Frag->Sp} {x:Str}
  (hn:l.most=some n) (hn2:n<=sizeLine) (hdf:d.params.defaults=[]) (hr:Room k callerA)
  (F:∀ (w:World) (mg:Str->Option Value) (fa:Addr) (h:Heap) (K:PySem.W.Frag),OB K->K.In h->h.Ns mainGlobals mg->mg d.name=some (.ref fa) ->
   ∃ fd:FuncData,(∀ (s:Shared) (u:Value),BindsTo s fd ⟨[u],[]⟩ [(x,u)])/\∀ base:Heap,K.In base->base.Ns mainGlobals mg->FnOk l.prog w K mg base (CX w) k fa fd [x] (sp K))
  (hsp:∀ (K:PySem.W.Frag) (H:Hp) (a:Addr) (ns:List Int),ns.length<=n->Only H->SqL K H a (ns.map V.int)->sp K [.ref a] H (λ v _=>v=.bl true) λ _ _ _=>False)
  (hCX:∀ (w:World) (H:Hp) (s:Shared) (e:Value) (s':Shared),CX w [] H s (λ _ _ _=>False) e s'->False) :
  PySem.W.WalkO q loose XP (λ _ h=>∃ K,OB K/\K.In h) l.row.toRowW d [] (λ f vs=>PySem.call f vs):=by
 refine Att.zlY hn hdf λ w s₀ s₁ mg mb fa o pm cd doc a vs ns G Y ho hd hcd hmg hobj hints hlen hg=>?_
 obtain ⟨K,ob,KX⟩:=Y
 obtain ⟨fd,hb,hF⟩:=F w mg fa _ K ob KX G.T.g hmg
 exact zp3 KX G.T.g G.T.b G.T.builtins G.T.nolimit hg hobj hints (Nat.le_trans hlen hn2) hr hF hb (λ H hO hS=>hsp K H a ns hlen hO hS) λ H e s'=>hCX w H s₁ e s'
end TP
end
section
namespace TP
open PySem L2 TH
def top (i:Nat):Stmt:=PySem.Challenge.pw_turnhall_k10_what_is_written_down.main.body.getD i (.Pass ⟨0,0,0,0⟩)
abbrev zeQ:Stmt:=inClass (top 26) 0
abbrev zfF:Stmt:=top 29
abbrev zeI:Stmt:=top 28
abbrev zfG:Stmt:=top 31
abbrev zfH:Stmt:=top 32
abbrev zeK:Stmt:=top 33
abbrev zds:Stmt:=inClass (top 16) 0
abbrev zd5:Stmt:=inClass (top 26) 1
abbrev zfE:Stmt:=top 3
abbrev zcx:Stmt:=inClass (top 26) 15
abbrev zbc:Stmt:=inClass (top 26) 16
abbrev zeU:Stmt:=inClass (top 17) 0
abbrev zcA:Stmt:=inClass (top 17) 1
abbrev zeT:Stmt:=inClass (top 17) 2
abbrev zbX:Stmt:=inClass (top 17) 3
abbrev zeS:Stmt:=inClass (top 17) 5
abbrev zdq:Stmt:=top 5
abbrev zcz:Stmt:=inClass (top 26) 19
abbrev zc9:Stmt:=inClass (top 17) 6
abbrev zbB:Stmt:=inClass (top 17) 9
abbrev zcy:Stmt:=inClass (top 26) 23
abbrev zc8:Stmt:=inClass (top 26) 22
abbrev zbj:Stmt:=inClass (top 26) 21
abbrev zcw:Stmt:=inClass (top 16) 2
abbrev zeN:Stmt:=inClass (top 26) 25
abbrev zdr:Stmt:=top 4
abbrev zbG:Stmt:=inClass (top 16) 3
abbrev zd6:Stmt:=inClass (top 17) 7
abbrev zcg:Stmt:=inClass (top 17) 4
abbrev zdt:Stmt:=inClass (top 26) 27
abbrev zfJ:Stmt:=inClass (top 26) 26
abbrev zeR:Stmt:=inClass (top 26) 24
abbrev zeM:Stmt:=inClass (top 26) 20
abbrev zdu:Stmt:=inClass (top 26) 18
abbrev zfK:Stmt:=inClass (top 26) 17
abbrev zeL:Stmt:=inClass (top 15) 0
abbrev zeO:Stmt:=inClass (top 26) 2
abbrev zd4:Stmt:=inClass (top 26) 3
abbrev zeP:Stmt:=inClass (top 26) 4
abbrev zb7:Stmt:=inClass (top 16) 1
abbrev zc6:Stmt:=inClass (top 26) 5
abbrev zeJ:Stmt:=top 34
abbrev zgU:Stmt:=top 35
abbrev zfI:Stmt:=inClass (top 26) 14
abbrev zcf:Stmt:=top 37
abbrev zd3:Stmt:=top 36
abbrev zc7:Stmt:=inClass (top 26) 7
abbrev zd2:Stmt:=top 30
abbrev zoc:Stmt:=top 38
structure Fs where
 f:Nat->Addr
 fd:Nat->FuncData
structure Txt (K:PySem.W.Frag) (mg:Str->Option Value) (A:Ad) (F:Fs):Prop where
 ok:AdOk A
 za3:Cls K A.zdU
 zbq:zb3 K A.zdU "use"
 za9:zb3 K A.zdU "key"
 zcG:zb3 K A.zdU "value"
 zqI:mg "Want" = some (.ref A.zdU)
 zoB:Mk K A.zdU (F.f 35)
 zav:Cls K A.zaB
 zaz:zb3 K A.zaB "state"
 zbg:zb3 K A.zaB "did"
 za4:zb3 K A.zaB "want"
 zqb:mg "Record" = some (.ref A.zaB)
 zoC:Mk K A.zaB (F.f 6)
 zaS:Cls K A.zcb
 zbo:zb3 K A.zcb "held"
 za0:zb3 K A.zcb "row"
 zsG:mg "Desk" = some (.ref A.zcb)
 zrv:Mk K A.zcb (F.f 11)
 zam:Cls K A.za1
 zaA:zb3 K A.za1 "records"
 zbs:zb3 K A.za1 "desks"
 zbv:zb3 K A.za1 "standing"
 zbr:zb3 K A.za1 "kept_values"
 zcY:zb3 K A.za1 "kept_deeds"
 zb2:zb3 K A.za1 "rows"
 zsF:mg "Hall" = some (.ref A.za1)
 zru:Mk K A.za1 (F.f 0)
 zmb:Fun K "__init__" "Hall.__init__" zeQ (F.f 0) (F.fd 0)
 zlV:Binds K (F.fd 0) ["self"] []
 znI:Fun K "_law_mix" "_law_mix" zfF (F.f 1) (F.fd 1)
 zbN:Binds K (F.fd 1) ["_law_cell_here","_law_prime","_law_many"] []
 zbM:mg "_law_mix" = some (.ref (F.f 1))
 zbL:PySem.W.keepIn K (.ref (F.f 1))=true
 zl3:Fun K "_law_cell" "_law_cell" zeI (F.f 2) (F.fd 2)
 zcm:Binds K (F.fd 2) ["_law_script","_law_k"] []
 zcl:mg "_law_cell" = some (.ref (F.f 2))
 zck:PySem.W.keepIn K (.ref (F.f 2))=true
 zf9:Fun K "_law_key" "_law_key" zfG (F.f 3) (F.fd 3)
 zf6:Binds K (F.fd 3) ["_law_script","_law_k"] []
 zf1:mg "_law_key" = some (.ref (F.f 3))
 zfX:PySem.W.keepIn K (.ref (F.f 3))=true
 znJ:Fun K "_law_act" "_law_act" zfH (F.f 4) (F.fd 4)
 znE:Binds K (F.fd 4) ["_law_script","_law_cell_here","_law_begun"] []
 znA:mg "_law_act" = some (.ref (F.f 4))
 znu:PySem.W.keepIn K (.ref (F.f 4))=true
 zl5:Fun K "_law_acts" "_law_acts" zeK (F.f 5) (F.fd 5)
 zlQ:Binds K (F.fd 5) ["_law_script"] []
 zlH:mg "_law_acts" = some (.ref (F.f 5))
 zlD:PySem.W.keepIn K (.ref (F.f 5))=true
 zjC:Fun K "__init__" "Record.__init__" zds (F.f 6) (F.fd 6)
 zjs:Binds K (F.fd 6) ["self"] []
 zk3:Fun K "begin" "Hall.begin" zd5 (F.f 7) (F.fd 7)
 zkX:Binds K (F.fd 7) ["self"] []
 zkr:Meth K A.za1 "begin" (F.f 7)
 znH:Fun K "is_whole" "is_whole" zfE (F.f 8) (F.fd 8)
 znD:Binds K (F.fd 8) ["thing"] []
 znz:mg "is_whole" = some (.ref (F.f 8))
 znt:PySem.W.keepIn K (.ref (F.f 8))=true
 zgx:Fun K "record_of" "Hall.record_of" zcx (F.f 9) (F.fd 9)
 zcD:Binds K (F.fd 9) ["self","deed"] []
 zcB:Meth K A.za1 "record_of" (F.f 9)
 zcU:Fun K "refuse_unless_going" "Hall.refuse_unless_going" zbc (F.f 10) (F.fd 10)
 zbe:Binds K (F.fd 10) ["self","deed"] []
 zbd:Meth K A.za1 "refuse_unless_going" (F.f 10)
 zmf:Fun K "__init__" "Desk.__init__" zeU (F.f 11) (F.fd 11)
 zlX:Binds K (F.fd 11) ["self"] []
 zgA:Fun K "hindering" "Desk.hindering" zcA (F.f 12) (F.fd 12)
 zdP:Binds K (F.fd 12) ["self","deed","use"] []
 zdJ:Meth K A.zcb "hindering" (F.f 12)
 zme:Fun K "lets" "Desk.lets" zeT (F.f 13) (F.fd 13)
 zhK:Binds K (F.fd 13) ["self","deed","use"] []
 zhh:Meth K A.zcb "lets" (F.f 13)
 ze8:Fun K "lets_at_once" "Desk.lets_at_once" zbX (F.f 14) (F.fd 14)
 ze7:Binds K (F.fd 14) ["self","deed","use"] []
 ze2:Meth K A.zcb "lets_at_once" (F.f 14)
 zmd:Fun K "take" "Desk.take" zeS (F.f 15) (F.fd 15)
 zlW:Binds K (F.fd 15) ["self","deed","use"] []
 zlz:Meth K A.zcb "take" (F.f 15)
 zjA:Fun K "value_under" "value_under" zdq (F.f 16) (F.fd 16)
 zjq:Binds K (F.fd 16) ["book","key"] []
 zjk:mg "value_under" = some (.ref (F.f 16))
 zjg:PySem.W.keepIn K (.ref (F.f 16))=true
 zgz:Fun K "carry_out" "Hall.carry_out" zcz (F.f 17) (F.fd 17)
 zdO:Binds K (F.fd 17) ["self","deed","want"] []
 zdI:Meth K A.za1 "carry_out" (F.f 17)
 zic:Fun K "line_up" "Desk.line_up" zc9 (F.f 18) (F.fd 18)
 zh8:Binds K (F.fd 18) ["self","deed","use"] []
 zh2:Meth K A.zcb "line_up" (F.f 18)
 zdW:Fun K "next_waited_for" "Desk.next_waited_for" zbB (F.f 19) (F.fd 19)
 zdV:Binds K (F.fd 19) ["self","deed","use"] []
 zdS:Meth K A.zcb "next_waited_for" (F.f 19)
 zgy:Fun K "next_from" "Hall.next_from" zcy (F.f 20) (F.fd 20)
 zgu:Binds K (F.fd 20) ["self","deed"] []
 zgq:Meth K A.za1 "next_from" (F.f 20)
 zib:Fun K "come_to" "Hall.come_to" zc8 (F.f 21) (F.fd 21)
 zeD:Binds K (F.fd 21) ["self","deed"] []
 zeB:Meth K A.za1 "come_to" (F.f 21)
 zdc:Fun K "greatest_all_round" "Hall.greatest_all_round" zbj (F.f 22) (F.fd 22)
 zbU:Binds K (F.fd 22) ["self","deed"] []
 zbT:Meth K A.za1 "greatest_all_round" (F.f 22)
 zgw:Fun K "written" "Record.written" zcw (F.f 23) (F.fd 23)
 zdN:Binds K (F.fd 23) ["self"] []
 zdH:Meth K A.zaB "written" (F.f 23)
 zl8:Fun K "undo" "Hall.undo" zeN (F.f 24) (F.fd 24)
 zlS:Binds K (F.fd 24) ["self","deed"] []
 zlw:Meth K A.za1 "undo" (F.f 24)
 zjB:Fun K "rising_keys" "rising_keys" zdr (F.f 25) (F.fd 25)
 zjr:Binds K (F.fd 25) ["given"] []
 zjl:mg "rising_keys" = some (.ref (F.f 25))
 zjh:PySem.W.keepIn K (.ref (F.f 25))=true
 zen:Fun K "touched_keys" "Record.touched_keys" zbG (F.f 26) (F.fd 26)
 zek:Binds K (F.fd 26) ["self"] []
 zeb:Meth K A.zaB "touched_keys" (F.f 26)
 zk4:Fun K "leave" "Desk.leave" zd6 (F.f 27) (F.fd 27)
 zkY:Binds K (F.fd 27) ["self","deed"] []
 zks:Meth K A.zcb "leave" (F.f 27)
 zga:Fun K "lets_first" "Desk.lets_first" zcg (F.f 28) (F.fd 28)
 zf7:Binds K (F.fd 28) ["self"] []
 zfS:Meth K A.zcb "lets_first" (F.f 28)
 zjD:Fun K "let_on" "Hall.let_on" zdt (F.f 29) (F.fd 29)
 zjt:Binds K (F.fd 29) ["self","key"] []
 zjc:Meth K A.za1 "let_on" (F.f 29)
 znL:Fun K "end" "Hall.end" zfJ (F.f 30) (F.fd 30)
 ziI:Binds K (F.fd 30) ["self","deed","state"] []
 zit:Meth K A.za1 "end" (F.f 30)
 zmc:Fun K "drop" "Hall.drop" zeR (F.f 31) (F.fd 31)
 zhJ:Binds K (F.fd 31) ["self","deed"] []
 zhg:Meth K A.za1 "drop" (F.f 31)
 zl7:Fun K "wait" "Hall.wait" zeM (F.f 32) (F.fd 32)
 zlR:Binds K (F.fd 32) ["self","deed","want"] []
 zlv:Meth K A.za1 "wait" (F.f 32)
 zjE:Fun K "answer" "Hall.answer" zdu (F.f 33) (F.fd 33)
 zju:Binds K (F.fd 33) ["self","deed","want"] []
 zjd:Meth K A.za1 "answer" (F.f 33)
 znM:Fun K "ask" "Hall.ask" zfK (F.f 34) (F.fd 34)
 ziJ:Binds K (F.fd 34) ["self","deed","want"] []
 ziu:Meth K A.za1 "ask" (F.f 34)
 zl6:Fun K "__init__" "Want.__init__" zeL (F.f 35) (F.fd 35)
 zhI:Binds K (F.fd 35) ["self","use","key","value"] []
 zl9:Fun K "read" "Hall.read" zeO (F.f 36) (F.fd 36)
 zlT:Binds K (F.fd 36) ["self","deed","key"] []
 zlx:Meth K A.za1 "read" (F.f 36)
 zk2:Fun K "write" "Hall.write" zd4 (F.f 37) (F.fd 37)
 zkW:Binds K (F.fd 37) ["self","deed","key","value"] []
 zkq:Meth K A.za1 "write" (F.f 37)
 zma:Fun K "keep" "Hall.keep" zeP (F.f 38) (F.fd 38)
 zlU:Binds K (F.fd 38) ["self","deed"] []
 zly:Meth K A.za1 "keep" (F.f 38)
 zfB:Fun K "is_at_end" "Record.is_at_end" zb7 (F.f 39) (F.fd 39)
 zfA:Binds K (F.fd 39) ["self"] []
 zfm:Meth K A.zaB "is_at_end" (F.f 39)
 zh9:Fun K "give_up" "Hall.give_up" zc6 (F.f 40) (F.fd 40)
 zh6:Binds K (F.fd 40) ["self","deed"] []
 zh0:Meth K A.za1 "give_up" (F.f 40)
 zl4:Fun K "_law_call" "_law_call" zeJ (F.f 41) (F.fd 41)
 zlP:Binds K (F.fd 41) ["_law_hall","_law_act_here"] []
 zlG:mg "_law_call" = some (.ref (F.f 41))
 zlC:PySem.W.keepIn K (.ref (F.f 41))=true
 zpr:Fun K "_law_do" "_law_do" zgU (F.f 42) (F.fd 42)
 zpn:Binds K (F.fd 42) ["_law_hall","_law_act_here"] []
 zoY:mg "_law_do" = some (.ref (F.f 42))
 zoL:PySem.W.keepIn K (.ref (F.f 42))=true
 znK:Fun K "log" "Hall.log" zfI (F.f 43) (F.fd 43)
 ziH:Binds K (F.fd 43) ["self"] []
 zis:Meth K A.za1 "log" (F.f 43)
 zf8:Fun K "_law_rows_right" "_law_rows_right" zcf (F.f 44) (F.fd 44)
 zf5:Binds K (F.fd 44) ["_law_log"] []
 zf0:mg "_law_rows_right" = some (.ref (F.f 44))
 zfW:PySem.W.keepIn K (.ref (F.f 44))=true
 zk1:Fun K "_law_count" "_law_count" zd3 (F.f 45) (F.fd 45)
 zkV:Binds K (F.fd 45) ["_law_hall"] []
 zkE:mg "_law_count" = some (.ref (F.f 45))
 zkA:PySem.W.keepIn K (.ref (F.f 45))=true
 zia:Fun K "done_by" "Hall.done_by" zc7 (F.f 46) (F.fd 46)
 zh7:Binds K (F.fd 46) ["self","deed"] []
 zh1:Meth K A.za1 "done_by" (F.f 46)
 zk0:Fun K "_law_whole" "_law_whole" zd2 (F.f 47) (F.fd 47)
 zkU:Binds K (F.fd 47) ["_law_found"] []
 zkD:mg "_law_whole" = some (.ref (F.f 47))
 zkz:PySem.W.keepIn K (.ref (F.f 47))=true
 ztr:Fun K "law" "law" zoc (F.f 48) (F.fd 48)
 b_law:Binds K (F.fd 48) ["_law_script"] []
 ztl:mg "law" = some (.ref (F.f 48))
 k_law:PySem.W.keepIn K (.ref (F.f 48))=true
 zrA:∃ t,mg "BEGIN" = some (.str "begin" t)
 zjm:∃ t,mg "FIRST_VALUE" = some (.int 0 t)
 zf3:∃ t,mg "GIVEN_UP" = some (.str "given up" t)
 zo0:∃ t,mg "GIVE_UP" = some (.str "give up" t)
 zlJ:∃ t,mg "GOING" = some (.str "going" t)
 zsE:∃ t,mg "KEEP" = some (.str "keep" t)
 zqJ:∃ t,mg "KEPT" = some (.str "kept" t)
 zsD:∃ t,mg "READ" = some (.str "read" t)
 zoZ:∃ t,mg "READING" = some (.str "reading" t)
 zkF:∃ t,mg "WAITING" = some (.str "waiting" t)
 zlI:∃ t,mg "WRITE" = some (.str "write" t)
 zdl:∃ t,mg "WRITING" = some (.str "writing" t)
 zqc:mg "NoDeed" = some (.ref A.zhC)
 zps:PySem.W.excIn K A.zhC [.type "ValueError",.type "Exception",.type "BaseException",.type "object"] "ValueError.__new__" = true
 zf2:mg "NotGoing" = some (.ref A.zcS)
 zie:PySem.W.excIn K A.zcS [.type "ValueError",.type "Exception",.type "BaseException",.type "object"] "ValueError.__new__" = true
 zm4:PySem.W.ktsIn K A.zcS "BaseException" = true
 zte:mg "all" = none
 zqz:mg "bool" = none
 znp:mg "int" = none
 zcZ:mg "isinstance" = none
 zhZ:mg "len" = none
 zlq:mg "range" = none
 zno:mg "reversed" = none
 ztd:mg "set" = none
 zmE:mg "sorted" = none
 zlp:mg "tuple" = none
local macro_rules | `(tactic| trivial) => `(tactic| exact ⟨rfl, rfl, rfl, by decide +kernel, rfl, by decide +kernel, by decide +kernel⟩)
theorem zjX:zat ["self"] ["self"] (zal zeQ):=by trivial
theorem zlg:zat ["_law_cell_here","_law_prime","_law_many"] ["_law_cell_here","_law_prime","_law_many"] (zal zfF):=by trivial
theorem zjT:zat ["_law_script","_law_k"] ["_law_script","_law_k"] (zal zeI):=by trivial
theorem zbp:zat ["_law_script","_law_k","_law_letters","_law_seed","_law_tail"] ["_law_script","_law_k"] (zal zfG):=by trivial
theorem zcL:zat ["_law_script","_law_cell_here","_law_begun","_law_deed","_law_key_here","_law_turn","_law_many"] ["_law_script","_law_cell_here","_law_begun"] (zal zfH):=by trivial
theorem zb1:zat ["_law_script","_law_found","_law_begun","_law_cell_here","_law_act_here"] ["_law_script"] (zal zeK):=by trivial
theorem zhS:zat ["self"] ["self"] (zal zds):=by trivial
theorem zff:zat ["self","deed"] ["self"] (zal zd5):=by trivial
theorem zlf:zat ["thing"] ["thing"] (zal zfE):=by trivial
theorem zfD:zat ["self","deed"] ["self","deed"] (zal zcx):=by trivial
theorem zcM:zat ["self","deed"] ["self","deed"] (zal zbc):=by trivial
theorem zj1:zat ["self"] ["self"] (zal zeU):=by trivial
theorem zde:zat ["self","deed","use","others"] ["self","deed","use"] (zal zcA):=by trivial
theorem zj0:zat ["self","deed","use"] ["self","deed","use"] (zal zeT):=by trivial
theorem zeu:zat ["self","deed","use"] ["self","deed","use"] (zal zbX):=by trivial
theorem zjZ:zat ["self","deed","use"] ["self","deed","use"] (zal zeS):=by trivial
theorem zhQ:zat ["book","key"] ["book","key"] (zal zdq):=by trivial
theorem zce:zat ["self","deed","want","record","before"] ["self","deed","want"] (zal zcz):=by trivial
theorem zgT:zat ["self","deed","use"] ["self","deed","use"] (zal zc9):=by trivial
theorem zb6:zat ["self","deed","use","place"] ["self","deed","use"] (zal zbB):=by trivial
theorem zdd:zat ["self","deed","want"] ["self","deed"] (zal zcy):=by trivial
theorem zbF:zat ["self","deed","found","left","last","other"] ["self","deed"] (zal zc8):=by trivial
theorem zbb:zat ["self","deed","found","rising"] ["self","deed"] (zal zbj):=by trivial
theorem zfC:zat ["self"] ["self"] (zal zcw):=by trivial
theorem zd0:zat ["self","deed","key","value"] ["self","deed"] (zal zeN):=by trivial
theorem zhR:zat ["given"] ["given"] (zal zdr):=by trivial
theorem zcc:zat ["self","touched"] ["self"] (zal zbG):=by trivial
theorem ziT:zat ["self","deed"] ["self","deed"] (zal zd6):=by trivial
theorem zfg:zat ["self"] ["self"] (zal zcg):=by trivial
theorem zc5:zat ["self","key","desk","first"] ["self","key"] (zal zdt):=by trivial
theorem zcN:zat ["self","deed","state","record","touched","key"] ["self","deed","state"] (zal zfJ):=by trivial
theorem zjY:zat ["self","deed"] ["self","deed"] (zal zeR):=by trivial
theorem zcW:zat ["self","deed","want","record","greatest"] ["self","deed","want"] (zal zeM):=by trivial
theorem zex:zat ["self","deed","want","record"] ["self","deed","want"] (zal zdu):=by trivial
theorem zgS:zat ["self","deed","want","desk"] ["self","deed","want"] (zal zfK):=by trivial
theorem zjV:zat ["self","use","key","value"] ["self","use","key","value"] (zal zeL):=by trivial
theorem zjW:zat ["self","deed","key"] ["self","deed","key"] (zal zeO):=by trivial
theorem ziS:zat ["self","deed","key","value"] ["self","deed","key","value"] (zal zd4):=by trivial
theorem zd1:zat ["self","deed","key","value"] ["self","deed"] (zal zeP):=by trivial
theorem zeH:zat ["self"] ["self"] (zal zb7):=by trivial
theorem zgQ:zat ["self","deed"] ["self","deed"] (zal zc6):=by trivial
theorem zjU:zat ["_law_hall","_law_act_here"] ["_law_hall","_law_act_here"] (zal zeJ):=by trivial
theorem zep:zat ["_law_hall","_law_act_here","_law_told"] ["_law_hall","_law_act_here"] (zal zgU):=by trivial
theorem zlh:zat ["self"] ["self"] (zal zfI):=by trivial
theorem zaE:zat ["_law_log","_law_going","_law_begun","_law_book","_law_befores","_law_row","_law_key_here","_law_before"] ["_law_log"] (zal zcf):=by trivial
theorem ziR:zat ["_law_hall"] ["_law_hall"] (zal zd3):=by trivial
theorem zgR:zat ["self","deed"] ["self","deed"] (zal zc7):=by trivial
theorem ziQ:zat ["_law_found"] ["_law_found"] (zal zd2):=by trivial
theorem zgd:zat ["_law_script","_law_hall","_law_before","_law_act_here","_law_log","_law_deed","_law_writes"] ["_law_script"] (zal zoc):=by trivial
end TP
end
section
namespace TP
open PySem L2 TH PyProof.Rows
theorem hmr {j k:Nat} {A:Around} (r:Room k A) (h:j<=k:=by decide):Room j A:=r.mono h
theorem sz1:1<=sizeLine:=by rw [sizeLine_eq]; decide
theorem sz2:2<=sizeLine:=by rw [sizeLine_eq]; decide
theorem sz3:3<=sizeLine:=by rw [sizeLine_eq]; decide
theorem sz4:4<=sizeLine:=by rw [sizeLine_eq]; decide
theorem sz5:5<=sizeLine:=by rw [sizeLine_eq]; decide
theorem sz6:6<=sizeLine:=by rw [sizeLine_eq]; decide
local macro_rules | `(tactic| walk_at "loc") => `(tactic| first | exact Or.inl rfl | exact Or.inr rfl)
local macro_rules | `(tactic| walk_at "blk") => `(tactic| (
 refine ⟨rfl,by decide +kernel,by decide +kernel,?_,by decide +kernel,rfl,?_⟩
 . (repeat' (first | exact List.forall_mem_nil _ | refine List.forall_mem_cons.mpr ⟨?_,?_⟩)) <;> (first | (intro h; exact absurd h (by decide)) | exact (λ _=>Or.inl rfl) | exact (λ _=>Or.inr rfl))
 . intro i j x h1 h2
   rcases i with _ | _ | _ | _ | i <;> (first | (simp at h2; done) | (cases h1; cases h2; exact ⟨rfl,rfl,by first | exact Or.inl rfl | exact Or.inr rfl⟩))))
section
variable {P:Program} {w:World} {K:PySem.W.Frag} {mg:Str->Option Value} {base:Heap} {A:Ad} {F:Fs}
theorem zlm (T:Txt K mg A F):FnOk P w K mg base (CX1 P w) 1 (F.f 8) (F.fd 8) ["thing"] zn1:=by
 refine T.znH.okN zlf (λ vs H Q E h=>?_) (λ cdv A' outer s H vs Q E hr h=>?_)
 . obtain ⟨i,rfl,_⟩:=h
   rfl
 . obtain ⟨i,rfl,k⟩:=h
   refine ⟨_,(zah (zaw (zmy (zbf zdC (by rfl) T.zcZ boot_isinstance (zaa (pv 0) (zaa (zpO rfl T.znp boot_int) zad))) (zim (zqs (zbf zdC (by rfl) T.zcZ boot_isinstance (zaa (pv 0) (zaa (zpO rfl T.zqz boot_bool) zad)))))))),?_⟩
   refine ⟨_,rfl,_,_,_,_,rfl,.int i,rfl,_,rfl,?_⟩
   refine iteT ?_
   refine ⟨_,rfl,_,_,_,_,rfl,.int i,rfl,_,rfl,?_⟩
   exact k
theorem zhU (T:Txt K mg A F):FnOk P w K mg base (CX1 P w) 1 (F.f 25) (F.fd 25) ["given"] (zgc K):=by
 refine T.zjB.okN zhR (λ vs H Q E h=>?_) (λ cdv A' outer s H vs Q E hr h=>?_)
 . obtain ⟨p,xs,rfl,_⟩:=h
   rfl
 . obtain ⟨p,xs,rfl,src,hl,h64,k⟩:=h
   refine ⟨_,(zah (zaw (zcr zdB (by rfl) T.zlp boot_tuple (zaa (zbf (zhB rfl) (by rfl) T.zmE boot_sorted (zaa (zcr (zqh rfl) (by rfl) T.ztd boot_set (zaa (pv 0) zad)) zad)) zad)))),?_⟩
   refine ⟨_,rfl,p,_,rfl,src,zjJ xs,by rw [List.length_map]; exact hl,λ q hq=>?_⟩
   refine ⟨q,_,rfl,zab,S6.zpb _,λ k hk=>zjJ xs k (S6.zjb.mp hk),by rw [(zpa xs).length_eq,List.length_map]; exact h64,λ ys l pm pw hl=>?_⟩
   refine ⟨l,_,rfl,.inl ⟨SqL.of zab,λ r hr=>?_⟩⟩
   have e:ys=(ordS xs).map Sum.inr:=zlb (λ k=>by
    rw [pm.mem_iff,S6.zjb,List.mem_map]
    exact ⟨λ ⟨x,h,e⟩=>⟨x,h,e.symm⟩,λ ⟨x,h,e⟩=>⟨x,h,e.symm⟩⟩) pw
   subst e
   refine k _ r (((Same.zaq hq).upd2 hl).free hr) (((Same.zaq hq).upd2 hl).upd2 hr) ?_
   rw [zab,zqB]
theorem zhT (T:Txt K mg A F):FnOk P w K mg base (CX1 P w) 1 (F.f 16) (F.fd 16) ["book","key"] zjN:=by
 refine T.zjA.okN zhQ (λ vs H Q E h=>?_) (λ cdv A' outer s H vs Q E hr h=>?_)
 . obtain ⟨p,k,l,b,rfl,_⟩:=h
   rfl
 . obtain ⟨p,k,l,b,rfl,hp,hb,q⟩:=h
   have hu:=zeg hr
   refine ⟨_,(zah (zaw (zgE hu (pv 0) (pv 1) (ztb rfl T.zjm) ⟨rfl,rfl,rfl,rfl⟩))),?_⟩
   refine ⟨_,rfl,p,rfl,.inl ⟨_,.of hp⟩,_,rfl,_,DGet.k (k:=Sum.inr k) hp,?_⟩
   rw [hb.val]
   cases e:b k with
   | none=>rw [e] at q; exact q
   | some v=>rw [e] at q; exact q
theorem zgi (T:Txt K mg A F):FnOk P w K mg base (CX1 P w) 1 (F.f 35) (F.fd 35) ["self","use","key","value"] (zm8 A):=by
 refine T.zl6.okN zjV (λ vs H Q E h=>?_) (λ cdv A' outer s H vs Q E hr h=>?_)
 . obtain ⟨p,dx,w,k,v,rfl,_⟩:=h
   rfl
 . obtain ⟨p,dx,w,k,v,rfl,hp,q⟩:=h
   refine ⟨_,(zac (zbQ (pv 0) (pv 1) rfl)
    (zac (zbQ (pv 0) (pv 2) rfl)
    (zah (zbQ (pv 0) (pv 3) rfl)))),?_⟩
   refine ⟨_,rfl,_,rfl,p,_,dx,_,rfl,hp,T.za3,T.zbq,Nat.le_of_ble_eq_true rfl,_,rfl,_,rfl,p,_,dx,_,rfl,zab,T.za3,T.za9,Nat.le_of_ble_eq_true rfl,_,rfl,_,rfl,p,_,dx,_,rfl,zab,T.za3,T.zcG,Nat.le_of_ble_eq_true rfl,?_⟩
   refine q _ (by rw [zab]; rfl) λ b o e hb=>?_
   rw [zae hb,zae hb,zae hb]; exact e
theorem zhW (T:Txt K mg A F):FnOk P w K mg base (CX1 P w) 1 (F.f 6) (F.fd 6) ["self"] (zjO A):=by
 refine T.zjC.okN zhS (λ vs H Q E h=>?_) (λ cdv A' outer s H vs Q E hr h=>?_)
 . obtain ⟨p,dx,rfl,_⟩:=h
   rfl
 . obtain ⟨p,dx,rfl,hp,q⟩:=h
   refine ⟨_,(zac (zbQ (pv 0) (zcF rfl T.zlJ) rfl)
     (zac (zbQ (pv 0) (zcq zad) rfl)
     (zah (zbQ (pv 0) zgg rfl)))),?_⟩
   refine ⟨_,rfl,p,_,dx,_,rfl,hp,T.zav,T.zaz,Nat.le_of_ble_eq_true rfl,Nat.le_of_ble_eq_true rfl,λ d hd=>⟨_,rfl,p,_,dx,_,rfl,zaj zab hd,T.zav,T.zbg,Nat.le_of_ble_eq_true rfl,_,rfl,p,_,dx,_,rfl,zab,T.zav,T.za4,Nat.le_of_ble_eq_true rfl,?_⟩⟩
   have hpd:p≠d:=zaf zab hd
   refine q _ d ?_ (by rw [zab]; rfl) ?_ λ b o e hb=>?_
   . rw [zae hpd.symm] at hd; exact hd
   . rw [zae hpd.symm,zae hpd.symm,zab]
   . have hbd:b≠d:=λ z=>by
      rw [zae hpd.symm] at hd
      rw [z,hd] at e; cases e
     rw [zae hb,zae hb,zae hbd,zae hb]; exact e
theorem ze1 (T:Txt K mg A F):FnOk P w K mg base (CX1 P w) 1 (F.f 39) (F.fd 39) ["self"] (zn2 A):=by
 refine T.zfB.okN zeH (λ vs H Q E h=>?_) (λ cdv A' outer s H vs Q E hr h=>?_)
 . obtain ⟨p,dx,d,st,w,rfl,_⟩:=h
   rfl
 . obtain ⟨p,dx,d,st,w,rfl,hp,q⟩:=h
   refine ⟨_,(zah (zaw (zsq (zdx zb4 (zap (pv 0) rfl) (zcF rfl T.zqJ) (zaC _)) (zim (zdx zb4 (zap (pv 0) rfl) (zcF rfl T.zf3) (zaC _)))))),?_⟩
   refine ⟨_,rfl,p,_,dx,_,_,rfl,hp,T.zav,T.zaz,rfl,rfl,_,rfl,?_⟩
   cases st with
   | kept=>exact q
   | dropped=>exact ⟨_,rfl,p,_,dx,_,_,rfl,hp,T.zav,T.zaz,rfl,rfl,q⟩
   | zas=>exact ⟨_,rfl,p,_,dx,_,_,rfl,hp,T.zav,T.zaz,rfl,rfl,q⟩
   | waiting=>exact ⟨_,rfl,p,_,dx,_,_,rfl,hp,T.zav,T.zaz,rfl,rfl,q⟩
theorem zdf (T:Txt K mg A F):FnOk P w K mg base (CX1 P w) 1 (F.f 23) (F.fd 23) ["self"] (znZ A):=by
 refine T.zgw.okN zfC (λ vs H Q E h=>?_) (λ cdv A' outer s H vs Q E hr h=>?_)
 . obtain ⟨p,st,d,w,done,rfl,_⟩:=h
   rfl
 . obtain ⟨p,st,d,w,done,rfl,⟨⟨dx,hp⟩,us,hd,tu⟩,hl,q⟩:=h
   refine ⟨_,(zah (zaw (zd9 3 [] ["act","key","value"] rfl (by walk_at "blk") (zdv (zap (pv 0) rfl)) (λ C fp s H=>(zoj (K:=K) (n:=3) rfl rfl (zbW (zaU (i:=0) (show (["act","key","value"]:List Str).Nodup by decide +kernel) rfl (by walk_at "loc")) (zbW (zaU (i:=1) (show (["act","key","value"]:List Str).Nodup by decide +kernel) rfl (by walk_at "loc")) (zbW (zaU (i:=2) (show (["act","key","value"]:List Str).Nodup by decide +kernel) rfl (by walk_at "loc")) zg3))))) (λ C fp s H=>zeW (zax zb4 (pv 0) (zcF rfl T.zlI) (zaC _))) (λ C fp s H=>(zbk (zaa (pv 1) (zaa (pv 2) zad))))))),?_⟩
   refine ⟨_,rfl,p,_,dx,_,_,rfl,hp,T.zav,T.zbg,rfl,d,rfl,⟨_,SqL.of hd⟩,?_⟩
   have hul:us.length=done.length:=by rw [tu.length,List.length_map]
   have hz:us.length<=sizeLine:=by rw [hul,sizeLine_eq]; omega
   refine zfy (xs:=us) (λ i ys σ H2=>∃ v0 v1 v2,σ=[v0,v1,v2]/\Same H H2/\ys.length<=i/\zao H2 ys ((zar (done.take i)).map zew)) ⟨none,none,none,rfl,Same.refl H,Nat.le_refl _,.nil⟩ (λ i ys σ H2 ⟨_,_,_,_,s2,hy,_⟩=>⟨SqL.of (s2 _ _ hd),hy⟩) hz ?_ ?_
   . rintro i x ys σ H2 hlt hx ⟨v0,v1,v2,rfl,s2,hy,t⟩
     obtain ⟨y,hy1,r,rfl,hr1⟩:=zbV tu hx
     rw [List.getElem?_map] at hy1
     obtain ⟨a,ha,rfl⟩:=Option.map_eq_some_iff.mp hy1
     have e1:done.take (i+1)=done.take i++[a]:=by rw [List.take_add_one,ha]; rfl
     refine ⟨r,_,rfl,SqT.of (s2 _ _ hr1),rfl,_,_,rfl,_,_,rfl,_,_,rfl,rfl,_,rfl,rfl,_,rfl,?_⟩
     cases hw:a.wr with
     | true =>
      refine ⟨_,rfl,_,rfl,sz2,λ n hn=>nx hlt ⟨_,_,_,rfl,s2.upd2 hn,by rw [List.length_append,List.length_singleton]; omega,?_⟩⟩
      rw [e1,zbJ,hw,List.map_append]
      exact S6.zbS (zaH (Same.zaq hn) t) ⟨n,rfl,zab⟩
     | false =>
      refine nx hlt ⟨_,_,_,rfl,s2,by omega,?_⟩
      rw [e1,zbJ,hw]
      simp only [Bool.false_eq_true,if_false,List.append_nil]
      exact t
   . rintro ys σ H2 ⟨v0,v1,v2,rfl,s2,hy,t⟩
     rw [hul,List.take_length] at t
     intro n hn
     exact q _ n ys (s2.upd2 hn) zab (zaH (Same.zaq hn) t)
theorem zdR (T:Txt K mg A F):FnOk P w K mg base (CX1 P w) 2 (F.f 26) (F.fd 26) ["self"] (zn0 A):=by
 have G_rising_keys:=@zhU P w K mg base A F T
 refine T.zen.okN zcc (λ vs H Q E h=>?_) (λ cdv A' outer s H vs Q E hr h=>?_)
 . obtain ⟨p,st,d,w,done,o,rfl,_⟩:=h
   rfl
 . obtain ⟨p,st,d,w,done,o,rfl,⟨⟨dx,hp⟩,us,hd,tu⟩,hw,hl,h64,q⟩:=h
   refine ⟨_,(zac (zfO (i:=1) 3 [] ["act","key","value"] zcc.nd rfl (by walk_at "loc") rfl (by walk_at "blk") (zdv (zap (pv 0) rfl)) (λ C fp s H=>(zoj (K:=K) (n:=3) rfl rfl (zbW (zaU (i:=0) (show (["act","key","value"]:List Str).Nodup by decide +kernel) rfl (by walk_at "loc")) (zbW (zaU (i:=1) (show (["act","key","value"]:List Str).Nodup by decide +kernel) rfl (by walk_at "loc")) (zbW (zaU (i:=2) (show (["act","key","value"]:List Str).Nodup by decide +kernel) rfl (by walk_at "loc")) zg3))))) (λ C fp s H=>ziW) (λ C fp s H=>(pv 1)))
     (zac (zbC (zgf (zom (zap (pv 0) rfl))) (zah (zaG (zdy PySem.F.plainAttrs_list PySem.F.slot_list_append PySem.F.type_list_append zbl (pv 1) (zaa (zap (zap (pv 0) rfl) rfl) zad)))) zaR)
     (zah (zaw (zaV G_rising_keys (hmr hr) rfl T.zjl T.zjh T.zjr .nil zaK (zaa (pv 1) zad)))))),?_⟩
   have hul:us.length=done.length:=by rw [tu.length,List.length_map]
   refine ⟨_,rfl,p,_,dx,_,_,rfl,hp,T.zav,T.zbg,rfl,d,rfl,⟨_,SqL.of hd⟩,?_⟩
   refine zfy (xs:=us) (λ i ys σ H2=>∃ v0 v1 v2,σ=[v0,v1,v2]/\H2=H/\ys=(done.take i).map λ a=>V.str a.key) ⟨none,none,none,rfl,rfl,rfl⟩ (λ i ys σ H2 ⟨_,_,_,_,e,hy⟩=>⟨SqL.of (by rw [e]; exact hd),by rw [hy,List.length_map,List.length_take]; omega⟩) (by rw [hul,sizeLine_eq]; omega) ?_ ?_
   . rintro i x ys σ H2 hlt hx ⟨v0,v1,v2,rfl,rfl,rfl⟩
     obtain ⟨y,hy1,r,rfl,hr1⟩:=zbV tu hx
     rw [List.getElem?_map] at hy1
     obtain ⟨a,ha,rfl⟩:=Option.map_eq_some_iff.mp hy1
     have e1:done.take (i+1)=done.take i++[a]:=by rw [List.take_add_one,ha]; rfl
     refine ⟨r,_,rfl,SqT.of hr1,rfl,_,_,rfl,_,_,rfl,_,_,rfl,rfl,_,rfl,nx hlt ⟨_,_,_,rfl,rfl,?_⟩⟩
     rw [e1,List.map_append]; rfl
   . rintro ys σ H2 ⟨v0,v1,v2,rfl,rfl,rfl⟩
     rw [hul,List.take_length]
     intro n hn
     have hpn:upd H2 n (.lst (done.map λ a=>V.str a.key)) p=some (.ins A.zaB dx (recF st d w)):=zaj hp hn
     refine ⟨_,rfl,p,_,dx,_,_,rfl,hpn,T.zav,T.za4,rfl,_,rfl,?_⟩
     have fin:∀ (H3:Hp) (xs:List Str),Same H2 H3->H3 n=some (.lst (xs.map V.str))->xs=done.map (·.key)++zcV o->zgc K [V.ref n] H3 Q EF:=λ H3 xs s3 e3 ex=>by
      subst ex
      refine ⟨n,done.map (·.key)++zcV o,rfl,.inl (SqL.of (by rw [zqB]; exact e3)),?_,h64,λ H' q' nq m e=>q H' q' (s3.free nq) (s3.trans m) e⟩
      rw [List.length_append,List.length_map]
      cases o <;> simp only [zcV,List.length_nil,List.length_singleton] <;> omega
     cases o with
     | none =>
      have hw':w=.non:=hw
      subst hw'
      exact ⟨_,rfl,fin _ (done.map (·.key)) (Same.zaq hn) (by rw [zab,List.map_map]; rfl) (by simp [zcV])⟩
     | some a =>
      obtain ⟨pw,dw,rfl,hpw⟩:=hw
      have hpw':=zaj (o:=HO.lst (done.map λ a=>V.str a.key)) hpw hn
      refine ⟨_,rfl,.inl ⟨rfl,_,SqL.of zab⟩,_,rfl,p,_,dx,_,_,rfl,hpn,T.zav,T.za4,rfl,pw,_,dw,_,_,rfl,hpw',T.za3,T.za9,rfl,n,_,_,rfl,rfl,zab,by rw [List.length_map,sizeLine_eq]; omega,_,rfl,?_⟩
      refine fin _ (done.map (·.key)++[a.key]) ?_ ?_ rfl
      . rw [ziK]; exact Same.zaq hn
      . rw [zab,List.map_append,List.map_map]; rfl
theorem zkk (T:Txt K mg A F):FnOk P w K mg base (CX1 P w) 1 (F.f 11) (F.fd 11) ["self"] (znd A):=by
 refine T.zmf.okN zj1 (λ vs H Q E h=>?_) (λ cdv A' outer s H vs Q E hr h=>?_)
 . obtain ⟨p,dx,rfl,_⟩:=h
   rfl
 . obtain ⟨p,dx,rfl,hp,q⟩:=h
   refine ⟨_,(zac (zbQ (pv 0) zdw rfl)
     (zah (zbQ (pv 0) (zcq zad) rfl))),?_⟩
   intro hd nh
   have hph:p≠hd:=zaf hp nh
   refine ⟨_,rfl,p,_,dx,_,rfl,zaj hp nh,T.zaS,T.zbo,Nat.le_of_ble_eq_true rfl,Nat.le_of_ble_eq_true rfl,λ rw nr=>?_⟩
   have hpr:p≠rw:=zaf zab nr
   have nr1:upd H hd (.dK []) rw=none:=by rw [zae hpr.symm] at nr; exact nr
   have hhr:hd≠rw:=zaf zab nr1
   have nr2:H rw=none:=by rw [zae hhr.symm] at nr1; exact nr1
   refine ⟨_,rfl,p,_,dx,_,rfl,zaj zab nr,T.zaS,T.za0,Nat.le_of_ble_eq_true rfl,?_⟩
   refine q _ hd rw nh nr2 (by rw [zab]; rfl) ?_ ?_ λ b o e hb=>?_
   . rw [zae hph.symm,zae hhr,zae hph.symm,zab]
   . rw [zae hpr.symm,zab]
   . rw [zae hb,zae (zaf e nr2),zae hb,zae (zaf e nh)]; exact e
theorem zdh (T:Txt K mg A F):FnOk P w K mg base (CX1 P w) 1 (F.f 12) (F.fd 12) ["self","deed","use"] (zk9 A):=by
 refine T.zgA.okN zde (λ vs H Q E h=>?_) (λ cdv A' outer s H vs Q E hr h=>?_)
 . obtain ⟨p,hd,rw,h,r,d,w,rfl,_⟩:=h
   rfl
 . obtain ⟨p,hd,rw,h,r,d,w,rfl,⟨⟨dx,hp⟩,hh,_⟩,hl,hnd,q⟩:=h
   have hu:=zeg hr
   refine ⟨_,(zac (zri (zfO (i:=3) 1 [1] ["other","deed"] zde.nd rfl (by walk_at "loc") rfl (by walk_at "blk") (zrk (zap (pv 0) rfl)) (λ C fp s H=>(zaU (i:=0) (show (["other","deed"]:List Str).Nodup by decide +kernel) rfl (by walk_at "loc"))) (λ C fp s H=>zeW (zax znm (pv 0) (pv 1) (zaC _))) (λ C fp s H=>(pv 0))))
     (zac (zbC (zax zb4 (pv 2) (zcF rfl T.zdl) (zaC _)) (zah (zaw (pv 3))) zaR)
     (zah (zaw (zd9 1 [0] ["other","self"] rfl (by walk_at "blk") (zdv (pv 3)) (λ C fp s H=>(zaU (i:=0) (show (["other","self"]:List Str).Nodup by decide +kernel) rfl (by walk_at "loc"))) (λ C fp s H=>zeW (zax zb4 (zeY hu (zrm (K:=K) rfl (pv 1) rfl) (pv 0) (λ _ _=>rfl)) (zcF rfl T.zdl) (zaC _))) (λ C fp s H=>(pv 0))))))),?_⟩
   have hz:(zb8 h).length<=sizeLine:=by rw [zhq,sizeLine_eq]; omega
   refine ⟨_,rfl,p,_,dx,_,_,rfl,hp,T.zaS,T.zbo,rfl,hd,_,rfl,hh,λ o=>?_⟩
   refine zpi (λ i ys σ H2=>∃ v0,σ=[v0,some (V.int d)]/\H2=upd H hd (.frz o (.dK (zb8 h)))/\ys=zay (((h.take i).filter λ p=>p.1 != d).map (·.1))) ⟨none,rfl,rfl,rfl⟩ (λ i ys σ H2 ⟨_,_,e,hy⟩=>⟨by rw [e,zab],?_⟩) hz ?_ ?_
   . rw [hy]; unfold zay; rw [List.length_map,List.length_map]
     exact Nat.le_trans (List.length_filter_le _ _) (by rw [List.length_take]; omega)
   . rintro i k v ys σ H2 hlt hk ⟨v0,rfl,rfl,rfl⟩
     unfold zb8 at hk
     rw [List.getElem?_map] at hk
     obtain ⟨⟨e,we⟩,he,hke⟩:=Option.map_eq_some_iff.mp hk
     cases hke
     have e1:h.take (i+1)=h.take i++[(e,we)]:=by rw [List.take_add_one,he]; rfl
     refine ⟨_,rfl,_,rfl,rfl,_,rfl,?_⟩
     refine zeC (e != d) (zqx e d) ?_
     by_cases hed:e=d
     . refine zaO (by simp [hed]) (nx hlt ⟨_,rfl,rfl,?_⟩)
       rw [e1,List.filter_append]; simp [hed]
     . refine zby (by simp [hed]) ⟨_,rfl,nx hlt ⟨_,rfl,rfl,?_⟩⟩
       rw [e1,List.filter_append]
       unfold zay
       simp [hed]
       rfl
   . rintro ys σ H2 ⟨v0,rfl,rfl,rfl⟩
     rw [zhq,List.take_length]
     intro n hn
     have hnh:H n=none:=by
       by_cases z:n=hd
       . rw [z,zab] at hn; cases hn
       . rw [zae z] at hn; exact hn
     refine ⟨hd,o,zb8 h,hh,zaj zab hn,?_⟩
     rw [zqQ hh hnh]
     have hpn:=zaj (o:=HO.lst (zay ((h.filter λ p=>p.1 != d).map (·.1)))) hp hnh
     have hhn:=zaj (o:=HO.lst (zay ((h.filter λ p=>p.1 != d).map (·.1)))) hh hnh
     refine ⟨_,rfl,rfl,_,rfl,?_⟩
     rw [zgK]
     cases w with
     | true =>
       refine ⟨_,rfl,q _ n hnh (Same.zaq hnh) ?_⟩
       rw [zab]; unfold hind; simp
     | false =>
       have hlen:(zay ((h.filter λ p=>p.1 != d).map (·.1))).length<=1000:=by
         unfold zay; rw [List.length_map,List.length_map]
         exact Nat.le_trans (List.length_filter_le _ _) hl
       refine ⟨_,rfl,n,rfl,⟨_,SqL.of zab⟩,?_⟩
       refine zfy (xs:=zay ((h.filter λ p=>p.1 != d).map (·.1))) (λ i ys σ H2=>∃ v0,σ=[v0,some (V.ref p)]/\H2=upd H n (.lst (zay ((h.filter λ p=>p.1 != d).map (·.1))))/\ys=zay ((((h.filter λ p=>p.1 != d).take i).filter λ p=>p.2).map (·.1))) ⟨none,rfl,rfl,rfl⟩ (λ i ys σ H2 ⟨_,_,e,hy⟩=>⟨SqL.of (by rw [e,zab]),?_⟩) (by rw [sizeLine_eq]; omega) ?_ ?_
       . rw [hy]; unfold zay; rw [List.length_map,List.length_map]
         exact Nat.le_trans (List.length_filter_le _ _) (by rw [List.length_take]; omega)
       . rintro i x ys σ H2 hlt hx ⟨v0,rfl,rfl,rfl⟩
         unfold zay at hx
         rw [List.getElem?_map,List.getElem?_map] at hx
         obtain ⟨e,he,rfl⟩:=Option.map_eq_some_iff.mp hx
         obtain ⟨⟨e',we⟩,he',rfl⟩:=Option.map_eq_some_iff.mp he
         have e1:(h.filter λ p=>p.1 != d).take (i+1)=(h.filter λ p=>p.1 != d).take i++[(e',we)]:=by rw [List.take_add_one,he']; rfl
         have hm:(e',we)∈h:=(List.mem_filter.mp (List.mem_of_getElem? he')).1
         have dg:DGet (upd H n (.lst (zay ((h.filter λ p=>p.1 != d).map (·.1))))) hd (V.int (e':Int)) (some (V.str (useS we))):=by
          have:=DGet.k (k:=Sum.inl (e':Int)) hhn
          rw [zfq,zcO hnd hm] at this
          exact this
         refine ⟨_,rfl,p,_,dx,_,_,rfl,hpn,T.zaS,T.zbo,rfl,_,rfl,hd,_,rfl,dg,rfl,_,rfl,?_⟩
         refine zeC we (zgK we) ?_
         cases we with
         | true =>
          refine ⟨_,rfl,nx hlt ⟨_,rfl,rfl,?_⟩⟩
          rw [e1,List.filter_append]
          unfold zay
          simp
         | false =>
          refine nx hlt ⟨_,rfl,rfl,?_⟩
          rw [e1,List.filter_append]; simp
       . rintro ys σ H2 ⟨v0,rfl,rfl,rfl⟩
         have e2:(zay ((h.filter λ p=>p.1 != d).map (·.1))).length=(h.filter λ p=>p.1 != d).length:=by unfold zay; rw [List.length_map,List.length_map]
         rw [e2,List.take_length]
         intro m hm
         refine q _ m ((Same.zaq hnh).free hm) ((Same.zaq hnh).upd2 hm) ?_
         rw [zab,List.filter_filter]
         unfold hind
         congr 4
         exact List.filter_congr λ p _=>by simp [Bool.and_comm]
theorem zgk (T:Txt K mg A F):FnOk P w K mg base (CX1 P w) 2 (F.f 13) (F.fd 13) ["self","deed","use"] (zmo A):=by
 have G_Desk_hindering:=@zdh P w K mg base A F T
 refine T.zme.okN zj0 (λ vs H Q E h=>?_) (λ cdv A' outer s H vs Q E hr h=>?_)
 . obtain ⟨p,hd,rw,h,r,d,w,rfl,_⟩:=h
   rfl
 . obtain ⟨p,hd,rw,h,r,d,w,rfl,D,hl,hnd,q⟩:=h
   obtain ⟨dx,hp⟩:=D.ob
   refine ⟨_,(zah (zaw (zdx zb4 (zbf za5 (by rfl) T.zhZ PySem.boot_len (zaa (zaD (pv 0) T.zaS T.zdJ G_Desk_hindering (hmr hr) T.zdP .nil zaK (zaa (pv 1) (zaa (pv 2) zad))) zad)) zak (zaC _)))),?_⟩
   refine ⟨_,rfl,p,dx,_,rfl,hp,rfl,_,rfl,_,rfl,p,hd,rw,h,r,d,w,rfl,D,hl,hnd,λ H' n _ m e=>⟨n,_,rfl,.inl (SqL.of e),rfl,?_⟩⟩
   have:=q H' m
   rw [<-zoR] at this
   unfold zay
   rw [List.length_map]
   have e3:decide (V.int ((hind h d w).length:Int)=V.int 0)=decide ((hind h d w).length=0):=by
    have:=zo6 (hind h d w).length 0
    rw [show ((0:Nat):Int)=0 from rfl] at this
    rw [this]; rfl
   rw [e3]; exact this
theorem zev (T:Txt K mg A F):FnOk P w K mg base (CX1 P w) 3 (F.f 14) (F.fd 14) ["self","deed","use"] (zjQ A):=by
 have G_Desk_lets:=@zgk P w K mg base A F T
 refine T.ze8.okN zeu (λ vs H Q E h=>?_) (λ cdv A' outer s H vs Q E hr h=>?_)
 . obtain ⟨p,hd,rw,h,r,d,w,rfl,_⟩:=h
   rfl
 . obtain ⟨p,hd,rw,h,r,d,w,rfl,D,hl,hnd,q⟩:=h
   have hu:=zeg hr
   obtain ⟨dx,hp⟩:=D.ob
   obtain ⟨us,hrw,tu⟩:=D.rw
   have hul:us.length=r.length:=by rw [tu.length,List.length_map]
   refine ⟨_,(zah (zaw (zmy (zsq (zsr (zon hu (pv 1) (zap (pv 0) rfl))) (zim (zdx zb4 (zbf za5 (by rfl) T.zhZ PySem.boot_len (zaa (zap (pv 0) rfl) zad)) zak (zaC _)))) (zim (zaD (pv 0) T.zaS T.zhh G_Desk_lets (hmr hr) T.zhK .nil zaK (zaa (pv 1) (zaa (pv 2) zad))))))),?_⟩
   have dg:=DGet.k (k:=Sum.inl (d:Int)) D.hd
   rw [zfq] at dg
   refine ⟨_,rfl,_,rfl,p,_,dx,_,_,rfl,hp,T.zaS,T.zbo,rfl,hd,_,rfl,dg,_,rfl,?_⟩
   have call:∀ b:Bool,b=(has h d || r.isEmpty)->(if b=true then zmo A [V.ref p,.int d,.str (useS w)] H Q EF else Q (.bl false) H):=λ b hb=>by
    cases b with
    | true =>
     refine iteT ⟨p,hd,rw,h,r,d,w,rfl,D,hl,hnd,λ H' m=>?_⟩
     have:=q H' m
     rw [<-hb] at this
     exact this
    | false =>
     refine iteF ?_
     have:=q H (Same.refl H)
     rw [<-hb] at this
     exact this
   have e0:((look h d).map λ w=>V.str (useS w)).isSome=has h d:=by
    rw [Option.isSome_map,zkt]
   rw [e0]
   cases hh:has h d with
   | true =>
    refine iteT ⟨true,rfl,?_⟩
    have t:zmo A [V.ref p,.int d,.str (useS w)] H Q EF:=by simpa using call true (by rw [hh]; rfl)
    exact iteT ⟨_,rfl,p,dx,_,rfl,hp,rfl,_,rfl,_,rfl,t⟩
   | false =>
    refine iteF ⟨_,rfl,p,_,dx,_,_,rfl,hp,T.zaS,T.za0,rfl,rw,_,rfl,.inl (SqL.of hrw),rfl,_,rfl,?_⟩
    have e1:decide (V.int (us.length:Int)=V.int 0)=r.isEmpty:=by
     have:=zo6 us.length 0
     rw [show ((0:Nat):Int)=0 from rfl] at this
     rw [this,hul]
     cases r <;> rfl
    rw [e1]
    have:=call r.isEmpty (by rw [hh]; rfl)
    cases hr0:r.isEmpty with
    | true =>
     rw [hr0] at this
     have t:zmo A [V.ref p,.int d,.str (useS w)] H Q EF:=by simpa using this
     exact iteT ⟨_,rfl,p,dx,_,rfl,hp,rfl,_,rfl,_,rfl,t⟩
    | false =>
     rw [hr0] at this
     exact iteF (by simpa using this)
theorem zfk (T:Txt K mg A F):FnOk P w K mg base (CX1 P w) 3 (F.f 28) (F.fd 28) ["self"] (zk8 A):=by
 have G_Desk_lets:=@zgk P w K mg base A F T
 refine T.zga.okN zfg (λ vs H Q E h=>?_) (λ cdv A' outer s H vs Q E hr h=>?_)
 . obtain ⟨p,hd,rw,h,r,rfl,_⟩:=h
   rfl
 . obtain ⟨p,hd,rw,h,r,rfl,D,hl,hnd,q⟩:=h
   obtain ⟨dx,hp⟩:=D.ob
   obtain ⟨us,hrw,tu⟩:=D.rw
   have hul:us.length=r.length:=by rw [tu.length,List.length_map]
   refine ⟨_,(zah (zaw (zmy (zdx zrp (zbf za5 (by rfl) T.zhZ PySem.boot_len (zaa (zap (pv 0) rfl) zad)) zak (zaC _)) (zim (zaD (pv 0) T.zaS T.zhh G_Desk_lets (hmr hr) T.zhK .nil zaK (zaa (zaL zaZ (zaL zbu (zap (pv 0) rfl) zak (λ _ _=>rfl)) zak (λ _ _=>rfl)) (zaa (zaL zaZ (zaL zbu (zap (pv 0) rfl) zak (λ _ _=>rfl)) zak (λ _ _=>rfl)) zad))))))),?_⟩
   refine ⟨_,rfl,p,_,dx,_,_,rfl,hp,T.zaS,T.za0,rfl,rw,_,rfl,.inl (SqL.of hrw),_,_,rfl,rfl,_,rfl,?_⟩
   cases r with
   | nil =>
    have:us=[]:=List.length_eq_zero_iff.mp hul
    subst this
    exact q H (Same.refl H)
   | cons x t =>
    obtain ⟨d,w⟩:=x
    obtain ⟨v,hv,pv',rfl,hpv⟩:=zdX tu (i:=0) (y:=zch (d,w)) rfl
    have hix:atI us 0=some (V.ref pv'):=zbm (j:=0) hv
    refine zby (by rw [hul]; simp) ?_
    refine ⟨_,rfl,p,dx,_,rfl,hp,rfl,_,rfl,p,_,dx,_,_,rfl,hp,T.zaS,T.za0,rfl,rw,_,_,_,rfl,rfl,SqL.of hrw,hix,pv',_,_,_,rfl,rfl,SqT.of hpv,rfl,
     _,rfl,p,_,dx,_,_,rfl,hp,T.zaS,T.za0,rfl,rw,_,_,_,rfl,rfl,SqL.of hrw,hix,pv',_,_,_,rfl,rfl,SqT.of hpv,rfl,p,hd,rw,h,_,d,w,rfl,D,hl,hnd,q⟩
theorem zkj (T:Txt K mg A F):FnOk P w K mg base (CX1 P w) 1 (F.f 15) (F.fd 15) ["self","deed","use"] (zr3 A):=by
 refine T.zmd.okN zjZ (λ vs H Q E h=>?_) (λ cdv A' outer s H vs Q E hr h=>?_)
 . obtain ⟨p,hd,rw,h,r,d,w,rfl,_⟩:=h
   rfl
 . obtain ⟨p,hd,rw,h,r,d,w,rfl,D,hl,hnd,q⟩:=h
   have hu:=zeg hr
   obtain ⟨dx,hp⟩:=D.ob
   refine ⟨_,(zah (zbC (zax znm (zpQ hu (zap (pv 0) rfl) (pv 1) ⟨rfl,rfl,rfl,rfl⟩) (zcF rfl T.zdl) (zaC _)) (zah (zd8 hu (zap (pv 0) rfl) (pv 1) (pv 2) rfl)) zaR)),?_⟩
   have dg:=DGet.k (k:=Sum.inl (d:Int)) D.hd
   rw [zfq] at dg
   refine ⟨_,rfl,p,_,dx,_,_,rfl,hp,T.zaS,T.zbo,rfl,hd,rfl,.inl ⟨_,.of D.hd⟩,_,rfl,_,dg,?_⟩
   have put:take1 h d w=zbi h d w->tSeq (zsh (tFld K (tVar 0) "held") (tVar 1) (tVar 2)) zqV { nx:=λ _ H'=>Q .non H',rt:=Q } [some (V.ref p),some (V.int d),some (V.str (useS w))] H:=λ e=>by
    refine ⟨_,rfl,_,rfl,p,_,dx,_,_,rfl,hp,T.zaS,T.zbo,rfl,_,rfl,hd,_,rfl,DPut.k (k:=Sum.inl (d:Int)) D.hd (by rw [zhq,sizeLine_eq]; omega),?_⟩
    refine q _ ?_ λ b o e hb=>by rw [zae hb]; exact e
    rw [zab,zp8,e]
   cases hk:look h d with
   | none =>
    refine ⟨rfl,_,rfl,?_⟩
    exact put (by unfold take1; rw [hk]; simp)
   | some wh =>
    refine ⟨rfl,_,rfl,?_⟩
    cases wh with
    | true =>
     refine q H ?_ λ b o e _=>e
     unfold take1; rw [hk,if_pos rfl]; exact D.hd
    | false=>exact put (by unfold take1; rw [hk]; simp)
theorem zhc (T:Txt K mg A F):FnOk P w K mg base (CX1 P w) 1 (F.f 18) (F.fd 18) ["self","deed","use"] (zpz A):=by
 refine T.zic.okN zgT (λ vs H Q E h=>?_) (λ cdv A' outer s H vs Q E hr h=>?_)
 . obtain ⟨p,hd,rw,h,r,d,w,rfl,_⟩:=h
   rfl
 . obtain ⟨p,hd,rw,h,r,d,w,rfl,D,hl,q⟩:=h
   have hu:=zeg hr
   obtain ⟨dx,hp⟩:=D.ob
   obtain ⟨us,hrw,tu⟩:=D.rw
   have hul:us.length=r.length:=by rw [tu.length,List.length_map]
   refine ⟨_,(zah (zbC (zgf (zon hu (pv 1) (zap (pv 0) rfl))) (zah (zaG (zdy PySem.F.plainAttrs_list PySem.F.slot_list_insert PySem.F.type_list_insert zoA (zap (pv 0) rfl) (zaa zak (zaa (zbk (zaa (pv 1) (zaa (pv 2) zad))) zad))))) (zah (zaG (zdy PySem.F.plainAttrs_list PySem.F.slot_list_append PySem.F.type_list_append zbl (zap (pv 0) rfl) (zaa (zbk (zaa (pv 1) (zaa (pv 2) zad))) zad)))))),?_⟩
   have dg:=DGet.k (k:=Sum.inl (d:Int)) D.hd
   rw [zfq] at dg
   refine ⟨_,rfl,_,rfl,p,_,dx,_,_,rfl,hp,T.zaS,T.zbo,rfl,hd,_,rfl,dg,_,rfl,?_⟩
   rw [Option.isSome_map,zkt]
   have z2:([V.int (d:Int),V.str (useS w)]:List V).length<=sizeLine:=sz2
   have fin:∀ (n:Addr) (us':List V),H n=none->zao (upd H n (.tup (zch (d,w)))) us' ((zp1 h r d w).map zch)->Q .non (upd (upd H n (.tup (zch (d,w)))) rw (.lst us')):=λ n us' hn t=>by
    have hrn:=zaj (o:=HO.tup (zch (d,w))) hrw hn
    refine q _ us' zab ?_ λ b o e hb=>?_
    . have:∀ {vs:List V} {xss:List (List V)},zao (upd H n (.tup (zch (d,w)))) vs xss->zao (upd (upd H n (.tup (zch (d,w)))) rw (.lst us')) vs xss:=λ t=>by
       induction t with
       | nil=>exact .nil
       | cons r0 _ ih =>
        obtain ⟨p0,e0,q0⟩:=r0
        exact .cons ⟨p0,e0,by rw [zae (za2 q0 hrn (λ z=>nomatch z))]; exact q0⟩ ih
      exact this t
    . rw [zae hb,zae (zaf e hn)]; exact e
   have tn:∀ n,H n=none->zao (upd H n (.tup (zch (d,w)))) us (r.map zch):=λ n hn=>zaH (Same.zaq hn) tu
   cases hh:has h d with
   | true =>
    refine iteT ⟨_,rfl,p,_,dx,_,_,rfl,hp,T.zaS,T.za0,rfl,.inl ⟨rfl,_,SqL.of hrw⟩,_,rfl,_,rfl,z2,λ n hn=>⟨rw,us,_,rfl,rfl,zaj hrw hn,by rw [hul,sizeLine_eq]; omega,?_⟩⟩
    refine fin n _ hn ?_
    unfold zp1; rw [hh]
    exact .cons ⟨n,rfl,zab⟩ (tn n hn)
   | false =>
    refine iteF ⟨_,rfl,p,_,dx,_,_,rfl,hp,T.zaS,T.za0,rfl,.inl ⟨rfl,_,SqL.of hrw⟩,_,rfl,_,rfl,z2,λ n hn=>⟨rw,us,_,rfl,rfl,zaj hrw hn,by rw [hul,sizeLine_eq]; omega,?_⟩⟩
    refine fin n _ hn ?_
    unfold zp1; rw [hh]
    simp only [Bool.false_eq_true,if_false,List.map_append]
    exact S6.zbS (tn n hn) ⟨n,rfl,zab⟩
theorem zi6 (T:Txt K mg A F):FnOk P w K mg base (CX1 P w) 1 (F.f 27) (F.fd 27) ["self","deed"] (zq3 A):=by
 refine T.zk4.okN ziT (λ vs H Q E h=>?_) (λ cdv A' outer s H vs Q E hr h=>?_)
 . obtain ⟨p,hd,rw,dx,h,r,d,rfl,_⟩:=h
   rfl
 . obtain ⟨p,hd,rw,dx,h,r,d,rfl,D,hp,hl,q⟩:=h
   obtain ⟨us,hrw,tu⟩:=D.rw
   have hul:us.length=r.length:=by rw [tu.length,List.length_map]
   refine ⟨_,(zac (zaG (zmx (zap (pv 0) rfl) (pv 1) zgg ⟨rfl,rfl,rfl,rfl⟩))
     (zah (zbQ (pv 0) (zd9 1 [1] ["pair","deed"] rfl (by walk_at "blk") (zdv (zap (pv 0) rfl)) (λ C fp s H=>(zaU (i:=0) (show (["pair","deed"]:List Str).Nodup by decide +kernel) rfl (by walk_at "loc"))) (λ C fp s H=>zeW (zax znm (zaL (zef (K:=K) rfl) (pv 0) zak (λ _ _=>rfl)) (pv 1) (zaC _))) (λ C fp s H=>(pv 0))) rfl))),?_⟩
   have go:∀ H1:Hp,H1 hd=some (.dK (zb8 (less h d)))->(∀ b o,H b=some o->b≠hd->H1 b=some o)->(∀ b,H b=none->H1 b=none)->H1 p=some (.ins A.zcb dx (zh5 hd rw))->H1 rw=some (.lst us)->zao H1 us (r.map zch) ->
       sFld K (tVar 0) (zqX 1 [1] (zsC K (tFld K (tVar 0) "row")) (zqd 0) (zqT (tOp rNe (tOp (rIxT K) (tVar 0) (tC (.int 0))) (tVar 1))) (tVar 0)) "row" { nx:=λ _ H'=>Q .non H',rt:=Q } [some (V.ref p),some (V.int d)] H1:=λ H1 h1 k1 k0 hp1 hr1 t1=>by
     refine ⟨_,rfl,p,_,dx,_,_,rfl,hp1,T.zaS,T.za0,rfl,rw,rfl,⟨_,SqL.of hr1⟩,?_⟩
     refine zfy (xs:=us) (λ i ys σ H2=>∃ v0,σ=[v0,some (V.int d)]/\H2=H1/\ys.length<=i/\zao H1 ys ((less (r.take i) d).map zch)) ⟨none,rfl,rfl,Nat.le_refl _,.nil⟩ (λ i ys σ H2 ⟨_,_,e,hy,_⟩=>⟨SqL.of (by rw [e]; exact hr1),hy⟩) (by rw [hul,sizeLine_eq]; omega) ?_ ?_
     . rintro i x ys σ H2 hlt hx ⟨v0,rfl,rfl,hy,t⟩
       obtain ⟨y,hy1,n,rfl,hn1⟩:=zbV t1 hx
       rw [List.getElem?_map] at hy1
       obtain ⟨⟨e,we⟩,he,rfl⟩:=Option.map_eq_some_iff.mp hy1
       have e1:r.take (i+1)=r.take i++[(e,we)]:=by rw [List.take_add_one,he]; rfl
       refine ⟨_,rfl,n,_,_,_,rfl,rfl,SqT.of hn1,rfl,_,rfl,rfl,_,rfl,?_⟩
       refine zeC (e != d) (zqx e d) ?_
       by_cases hed:e=d
       . refine zaO (by simp [hed]) (nx hlt ⟨_,rfl,rfl,by omega,?_⟩)
         rw [e1]; unfold less; rw [List.filter_append]; simp [hed]; exact t
       . refine zby (by simp [hed]) ⟨_,rfl,nx hlt ⟨_,rfl,rfl,by rw [List.length_append,List.length_singleton]; omega,?_⟩⟩
         rw [e1]; unfold less; rw [List.filter_append,List.map_append]
         have:([(e,we)]:List (Nat×Bool)).filter (λ p=>p.1 != d)=[(e,we)]:=by simp [hed]
         rw [this]
         exact S6.zbS t ⟨n,rfl,hn1⟩
     . rintro ys σ H2 ⟨v0,rfl,rfl,hy,t⟩
       rw [hul,List.take_length] at t
       intro n hn
       have hnp:p≠n:=zaf hp1 hn
       refine ⟨_,rfl,p,_,dx,_,rfl,zaj hp1 hn,T.zaS,T.za0,Nat.le_of_ble_eq_true rfl,?_⟩
       have hHn:H n=none:=by
         cases e:H n with
         | none=>rfl
         | some o =>
          by_cases z:n=hd
          . rw [z,h1] at hn; cases hn
          . rw [k1 n o e z] at hn; cases hn
       have hhp:hd≠p:=za2 h1 hp1 (λ z=>nomatch z)
       refine q _ n ys hHn (by rw [zab]; rfl) ?_ ?_ ?_ λ b o e hb hbh=>?_
       . rw [zae hhp,zae (zaf h1 hn)]; exact h1
       . rw [zae hnp.symm,zab]
       . have:∀ {vs:List V} {xss:List (List V)},zao H2 vs xss->zao (upd (upd H2 n (.lst ys)) p (.ins A.zcb dx (zh5 hd n))) vs xss:=λ t=>by
          induction t with
          | nil=>exact .nil
          | cons r0 _ ih =>
            obtain ⟨p0,e0,q0⟩:=r0
            exact .cons ⟨p0,e0,by rw [zae (za2 q0 hp1 (λ z=>nomatch z)),zae (zaf q0 hn)]; exact q0⟩ ih
         exact this t
       . rw [zae hb,zae (zaf e hHn)]; exact k1 b o e hbh
   have tup1:∀ o,zao (upd H hd (.dK o)) us (r.map zch):=λ o=>by
     have:∀ {vs:List V} {xss:List (List V)},zao H vs xss->zao (upd H hd (.dK o)) vs xss:=λ t=>by
       induction t with
       | nil=>exact .nil
       | cons r0 _ ih =>
         obtain ⟨p0,e0,q0⟩:=r0
         exact .cons ⟨p0,e0,by rw [zae (za2 q0 D.hd (λ z=>nomatch z))]; exact q0⟩ ih
     exact this tu
   refine ⟨_,rfl,p,_,dx,_,_,rfl,hp,T.zaS,T.zbo,rfl,hd,rfl,.inl ⟨_,.of D.hd⟩,_,rfl,_,Sum.inl (d:Int),D.hd,rfl,λ v hv=>?_,λ hv=>?_⟩
   . rw [zoT]
     refine go _ zab (λ b o e hb=>by rw [zae hb]; exact e) (λ b e=>by rw [zae λ z=>by rw [z,D.hd] at e; cases e]; exact e) ?_ ?_ (tup1 _)
     . rw [zae (za2 hp D.hd (λ z=>nomatch z))]; exact hp
     . rw [zae (za2 hrw D.hd (λ z=>nomatch z))]; exact hrw
   . rw [zfq] at hv
     have hn:look h d=none:=by simpa using hv
     exact go H (by rw [less_none hn]; exact D.hd) (λ b o e _=>e) (λ b e=>e) hp hrw tu
theorem zdz (T:Txt K mg A F):FnOk P w K mg base (CX1 P w) 2 (F.f 19) (F.fd 19) ["self","deed","use"] (zjP A):=by
 have G_Desk_hindering:=@zdh P w K mg base A F T
 refine T.zdW.okN zb6 (λ vs H Q E h=>?_) (λ cdv A' outer s H vs Q E hr h=>?_)
 . obtain ⟨p,hd,rw,h,r,d,w,rfl,_⟩:=h
   rfl
 . obtain ⟨p,hd,rw,h,r,d,w,rfl,D,hl,hnd,hlr,hm,hrn,q⟩:=h
   have hu64:=hu64 hr
   obtain ⟨dx,hp⟩:=D.ob
   obtain ⟨us,hrw,tu⟩:=D.rw
   have hul:us.length=r.length:=by rw [tu.length,List.length_map]
   refine ⟨_,(zac (zaI (i:=3) zb6.nd rfl (by walk_at "loc") (zdy PySem.F.plainAttrs_list PySem.F.slot_list_index PySem.F.type_list_index (zpW hu64) (zap (pv 0) rfl) (zaa (zbk (zaa (pv 1) (zaa (pv 2) zad))) zad)))
     (zac (zbC (zax zrp (pv 3) zak (zaC _)) (zah (zaw (zcq (zaa (zaL zaZ (zaL zbu (zap (pv 0) rfl) (zcE zqu (pv 3) zak) (λ _ _=>rfl)) zak (λ _ _=>rfl)) zad)))) zaR)
     (zah (zaw (zaD (pv 0) T.zaS T.zdJ G_Desk_hindering (hmr hr) T.zdP .nil zaK (zaa (pv 1) (zaa (pv 2) zad))))))),?_⟩
   obtain ⟨post,er,hall⟩:=ziO hrn hm
   have z2:([V.int (d:Int),V.str (useS w)]:List V).length<=sizeLine:=sz2
   refine ⟨_,rfl,p,_,dx,_,_,rfl,hp,T.zaS,T.za0,rfl,.inl ⟨rfl,_,SqL.of hrw⟩,_,rfl,_,rfl,z2,λ n hn=>?_⟩
   have dv:DVs (upd H n (.tup [V.int (d:Int),V.str (useS w)])) us (r.map λ p=>.tuple [.int p.1,.str (useS p.2)]):=zmz (zaH (Same.zaq hn) tu)
   refine ⟨rw,us,_,_,_,(ahead r d).length,rfl,rfl,zaj hrw hn,dv,.tup zab (.cons (.int _) (.cons (.str _) .nil)),λ e he=>?_,zoo _ _,⟨?_,λ m hm' e he=>?_⟩,?_⟩
   . obtain ⟨x,_,rfl⟩:=List.mem_map.mp he
     exact zoo _ _
   . have:r[(ahead r d).length]?=some (d,w):=by
      have e2:(ahead r d++(d,w)::post)[(ahead r d).length]?=some (d,w):=by rw [List.getElem?_append_right (Nat.le_refl _)]; simp
      rw [<-er] at e2; exact e2
     rw [List.getElem?_map,this]; rfl
   . rw [List.getElem?_map] at he
     obtain ⟨x,hx,rfl⟩:=Option.map_eq_some_iff.mp he
     have hx2:x∈ahead r d:=by
      have e2:(ahead r d++(d,w)::post)[m]?=(ahead r d)[m]?:=List.getElem?_append_left hm'
      rw [<-er,hx] at e2
      exact List.mem_of_getElem? e2.symm
     intro z
     injection z with z
     injection z with z1 _
     injection z1 with z1
     exact hall x hx2 (by omega)
   . have m0:Same H (upd H n (.tup [V.int (d:Int),V.str (useS w)])):=Same.zaq hn
     have D1:=D.same m0
     refine ⟨_,rfl,_,_,rfl,rfl,_,rfl,?_⟩
     cases hg:(ahead r d).getLast? with
     | none =>
      have h0:ahead r d=[]:=List.getLast?_eq_none_iff.mp hg
      refine zaO (by rw [h0]; rfl) ?_
      refine ⟨_,rfl,p,dx,_,rfl,m0 _ _ hp,rfl,_,rfl,_,rfl,p,hd,rw,h,r,d,w,rfl,D1,hl,hnd,λ H' x nf m e=>q H' x (m0.free nf) (m0.trans m) ?_⟩
      unfold zi7; rw [hg]; exact e
     | some x =>
      have hne:ahead r d≠[]:=by intro z; rw [z] at hg; cases hg
      have hlen:0 < (ahead r d).length:=List.length_pos_iff.mpr hne
      have hix:r[(ahead r d).length - 1]?=some x:=by
       have e2:(ahead r d++(d,w)::post)[(ahead r d).length - 1]?=(ahead r d)[(ahead r d).length - 1]?:=List.getElem?_append_left (by omega)
       rw [<-er] at e2
       rw [e2,<-List.getLast?_eq_getElem?]; exact hg
      obtain ⟨v,hv,px,rfl,hpx⟩:=zdX (zaH m0 tu) (i:=(ahead r d).length - 1) (y:=zch x) (by rw [List.getElem?_map,hix]; rfl)
      have hat:atI us (((ahead r d).length:Int) - 1)=some (V.ref px):=by
       have:=zbm hv
       rw [show (((ahead r d).length - 1:Nat):Int)=((ahead r d).length:Int) - 1 by omega] at this
       exact this
      refine zby (by simpa using hlen) ?_
      refine ⟨_,rfl,p,_,dx,_,_,rfl,m0 _ _ hp,T.zaS,T.za0,rfl,_,rfl,_,_,rfl,rfl,rw,_,_,_,rfl,rfl,SqL.of (m0 _ _ hrw),hat,px,_,_,_,rfl,rfl,SqT.of hpx,rfl,sz1,λ m hm=>?_⟩
      refine q _ m (m0.free hm) (m0.upd2 hm) ?_
      rw [zab]; unfold zi7; rw [hg]; rfl
theorem zki (T:Txt K mg A F):FnOk P w K mg base (CX1 P w) 1 (F.f 0) (F.fd 0) ["self"] (znb A):=by
 refine T.zmb.okN zjX (λ vs H Q E h=>?_) (λ cdv A' outer s H vs Q E hr h=>?_)
 . obtain ⟨p,dx,rfl,_⟩:=h
   rfl
 . obtain ⟨p,dx,rfl,hp,q⟩:=h
   refine ⟨_,(zac (zbQ (pv 0) (zcq zad) rfl)
    (zac (zbQ (pv 0) zdw rfl)
    (zac (zbQ (pv 0) zdw rfl)
    (zac (zbQ (pv 0) zdw rfl)
    (zac (zbQ (pv 0) (zcq zad) rfl)
    (zah (zbQ (pv 0) (zcq zad) rfl))))))),?_⟩
   refine ⟨Nat.le_of_ble_eq_true rfl,λ p1 n1=>⟨_,rfl,p,_,dx,_,rfl,zaj hp n1,T.zam,T.zaA,Nat.le_of_ble_eq_true rfl,λ p2 n2=>⟨_,rfl,p,_,dx,_,rfl,zaj zab n2,T.zam,T.zbs,Nat.le_of_ble_eq_true rfl,λ p3 n3=>⟨_,rfl,p,_,dx,_,rfl,zaj zab n3,T.zam,T.zbv,Nat.le_of_ble_eq_true rfl,λ p4 n4=>⟨_,rfl,p,_,dx,_,rfl,zaj zab n4,T.zam,T.zbr,Nat.le_of_ble_eq_true rfl,Nat.le_of_ble_eq_true rfl,λ p5 n5=>⟨_,rfl,p,_,dx,_,rfl,zaj zab n5,T.zam,T.zcY,Nat.le_of_ble_eq_true rfl,Nat.le_of_ble_eq_true rfl,λ p6 n6=>⟨_,rfl,p,_,dx,_,rfl,zaj zab n6,T.zam,T.zb2,Nat.le_of_ble_eq_true rfl,?_⟩⟩⟩⟩⟩⟩⟩
   obtain ⟨a1,b1,c1,d1⟩:=two (o:=.lst []) (o':=.ins A.za1 dx (putF "records" (.ref p1) [])) hp n1
   generalize upd (upd H p1 (.lst [])) p (.ins A.za1 dx (putF "records" (.ref p1) []))=H1 at *
   obtain ⟨a2,b2,c2,d2⟩:=two (o:=.dK []) (o':=.ins A.za1 dx (putF "desks" (.ref p2) (putF "records" (.ref p1) []))) a1 n2
   generalize upd (upd H1 p2 (.dK [])) p (.ins A.za1 dx (putF "desks" (.ref p2) (putF "records" (.ref p1) [])))=H2 at *
   obtain ⟨a3,b3,c3,d3⟩:=two (o:=.dK []) (o':=.ins A.za1 dx (putF "standing" (.ref p3) (putF "desks" (.ref p2) (putF "records" (.ref p1) [])))) a2 n3
   generalize upd (upd H2 p3 (.dK [])) p (.ins A.za1 dx (putF "standing" (.ref p3) (putF "desks" (.ref p2) (putF "records" (.ref p1) []))))=H3 at *
   obtain ⟨a4,b4,c4,d4⟩:=two (o:=.dK []) (o':=.ins A.za1 dx (putF "kept_values" (.ref p4) (putF "standing" (.ref p3) (putF "desks" (.ref p2) (putF "records" (.ref p1) []))))) a3 n4
   generalize upd (upd H3 p4 (.dK [])) p (.ins A.za1 dx (putF "kept_values" (.ref p4) (putF "standing" (.ref p3) (putF "desks" (.ref p2) (putF "records" (.ref p1) [])))))=H4 at *
   obtain ⟨a5,b5,c5,d5⟩:=two (o:=.lst []) (o':=.ins A.za1 dx (putF "kept_deeds" (.ref p5) (putF "kept_values" (.ref p4) (putF "standing" (.ref p3) (putF "desks" (.ref p2) (putF "records" (.ref p1) [])))))) a4 n5
   generalize upd (upd H4 p5 (.lst [])) p (.ins A.za1 dx (putF "kept_deeds" (.ref p5) (putF "kept_values" (.ref p4) (putF "standing" (.ref p3) (putF "desks" (.ref p2) (putF "records" (.ref p1) []))))))=H5 at *
   obtain ⟨a6,b6,c6,d6⟩:=two (o:=.lst []) (o':=.ins A.za1 dx (putF "rows" (.ref p6) (putF "kept_deeds" (.ref p5) (putF "kept_values" (.ref p4) (putF "standing" (.ref p3) (putF "desks" (.ref p2) (putF "records" (.ref p1) []))))))) a5 n6
   generalize upd (upd H5 p6 (.lst [])) p (.ins A.za1 dx (putF "rows" (.ref p6) (putF "kept_deeds" (.ref p5) (putF "kept_values" (.ref p4) (putF "standing" (.ref p3) (putF "desks" (.ref p2) (putF "records" (.ref p1) [])))))))=H6 at *
   have q1:p1≠p:=λ z=>by rw [z,hp] at n1; cases n1
   obtain ⟨m21,k21,q2⟩:=d1 p2 n2
   obtain ⟨m32,k32,q3⟩:=d2 p3 n3
   obtain ⟨m31,k31,_⟩:=d1 p3 m32
   obtain ⟨m43,k43,q4⟩:=d3 p4 n4
   obtain ⟨m42,k42,_⟩:=d2 p4 m43
   obtain ⟨m41,k41,_⟩:=d1 p4 m42
   obtain ⟨m54,k54,q5⟩:=d4 p5 n5
   obtain ⟨m53,k53,_⟩:=d3 p5 m54
   obtain ⟨m52,k52,_⟩:=d2 p5 m53
   obtain ⟨m51,k51,_⟩:=d1 p5 m52
   obtain ⟨m65,k65,q6⟩:=d5 p6 n6
   obtain ⟨m64,k64,_⟩:=d4 p6 m65
   obtain ⟨m63,k63,_⟩:=d3 p6 m64
   obtain ⟨m62,k62,_⟩:=d2 p6 m63
   obtain ⟨m61,k61,_⟩:=d1 p6 m62
   have e1:=c6 _ _ q1 (c5 _ _ q1 (c4 _ _ q1 (c3 _ _ q1 (c2 _ _ q1 b1))))
   have e2:=c6 _ _ q2 (c5 _ _ q2 (c4 _ _ q2 (c3 _ _ q2 b2)))
   have e3:=c6 _ _ q3 (c5 _ _ q3 (c4 _ _ q3 b3))
   have e4:=c6 _ _ q4 (c5 _ _ q4 b4)
   have e5:=c6 _ _ q5 b5
   have kp:∀ b o,H b=some o->b≠p->H6 b=some o:=λ b o e hb=>c6 _ _ hb (c5 _ _ hb (c4 _ _ hb (c3 _ _ hb (c2 _ _ hb (c1 _ _ hb e)))))
   have ne:∀ b,b≠p->H b=none->(λ b=>if b=p then none else H b) b=none:=λ b hb e=>by
    show (if b=p then none else H b)=none
    rw [if_neg hb]; exact e
   obtain ⟨ρ,ad,h1,h2,h3⟩:=zai.fresh (A:=A) (H:=λ b=>if b=p then none else H b) (H':=H6) (a:=p) (dx:=dx) (p1:=p1) (p2:=p2) (p3:=p3) (p4:=p4) (p5:=p5) (p6:=p6) (if_pos rfl) (ne _ q1 n1) (ne _ q2 m21) (ne _ q3 m31) (ne _ q4 m41) (ne _ q5 m51) (ne _ q6 m61) a6 e1 e2 e3 e4 e5 b6 (Ne.symm k51) (Ne.symm k61) (Ne.symm k65) (Ne.symm k32) (Ne.symm k42) (Ne.symm k43) (λ b o e=>by
    by_cases z:b=p
    . have e:(if b=p then none else H b)=some o:=e
      rw [if_pos z] at e; cases e
    . have e:(if b=p then none else H b)=some o:=e
      rw [if_neg z] at e; exact kp b o e z)
   exact q H6 ρ ad h1 h2 λ b o e hb=>⟨kp b o e hb,h3 b o (by show (if b=p then none else H b)=some o; rw [if_neg hb]; exact e)⟩
theorem zi5 (T:Txt K mg A F):FnOk P w K mg base (CX1 P w) 3 (F.f 7) (F.fd 7) ["self"] (zq6 A):=by
 have G_Record_init:=@zhW P w K mg base A F T
 refine T.zk3.okN zff (λ vs H Q E h=>?_) (λ cdv A' outer s H vs Q E hr h=>?_)
 . obtain ⟨ρ,ad,s,kv,rfl,_⟩:=h
   rfl
 . obtain ⟨ρ,ad,s,kv,rfl,hh,sm,hn,q⟩:=h
   obtain ⟨dx,hp⟩:=hh.hall
   refine ⟨_,(zac (zaI (i:=1) zff.nd rfl (by walk_at "loc") (zbf za5 (by rfl) T.zhZ PySem.boot_len (zaa (zap (pv 0) rfl) zad)))
    (zac (zaG (zdy PySem.F.plainAttrs_list PySem.F.slot_list_append PySem.F.type_list_append zbl (zap (pv 0) rfl) (zaa (zi0 T.zoC G_Record_init (hmr hr) rfl T.zqb T.zjs .nil zaK) zad)))
    (zac (zaG (zdy PySem.F.plainAttrs_list PySem.F.slot_list_append PySem.F.type_list_append zbl (zap (pv 0) rfl) (zaa (zbk (zaa (zcF rfl T.zrA) (zaa (pv 1) zad))) zad)))
    (zah (zaw (pv 1)))))),?_⟩
   have hl:((List.range s.n).map λ i=>V.ref (ad (.rcd i))).length=s.n:=by rw [List.length_map,List.length_range]
   refine ⟨_,rfl,_,_,dx,_,_,rfl,hp,T.zam,T.zaA,rfl,ad .recs,_,rfl,.inl (SqL.of hh.recs),?_⟩
   rw [hl]
   refine ⟨_,rfl,_,_,dx,_,_,rfl,hp,T.zam,T.zaA,rfl,.inl ⟨rfl,_,SqL.of hh.recs⟩,λ x dx2 nx ndx nex=>⟨x,dx2,rfl,zab,λ H1 d nd e1 e2 kp=>⟨rfl,?_⟩⟩⟩
   have s0:Same H (upd (upd H dx2 (.own x)) x (.ins A.zaB dx2 [])):=(Same.zaq ndx).upd2 (by rw [zae nex.symm]; exact nx)
   have s1:Same H H1:=λ b o e=>kp b o (s0 b o e) (zaf e nx)
   refine ⟨ad .recs,_,_,rfl,rfl,s1 _ _ hh.recs,by rw [hl,sizeLine_eq]; omega,?_⟩
   have hdx:x≠ad .recs:=(zaf hh.recs nx).symm
   have hdd:d≠ad .recs:=(zaf (s0 _ _ hh.recs) nd).symm
   obtain ⟨ρ',ad',ea,h2,f2⟩:=hh.addRec (H':=upd H1 (ad .recs) (.lst (((List.range s.n).map λ i=>V.ref (ad (.rcd i)))++[.ref x]))) T.ok (p:=x) (d:=d) (dx:=dx2) nx (by
     cases e:H d with
     | none=>rfl
     | some o=>rw [s0 d o e] at nd; cases nd) zab (by rw [zae hdx]; exact e1) (by rw [zae hdd]; exact e2) (λ b o e hb=>by rw [zae hb]; exact s1 b o e)
   obtain ⟨dx3,hp3⟩:=h2.hall
   obtain ⟨us,hus,tus⟩:=h2.rows
   have hul:us.length=s.log.length:=by rw [tus.length,List.length_map]
   rw [<-ea]
   refine ⟨_,rfl,_,_,dx3,_,_,rfl,hp3,T.zam,T.zb2,rfl,.inl ⟨rfl,_,SqL.of hus⟩,_,rfl,sz2,λ n nn=>⟨ad' .rows,_,_,rfl,rfl,zaj hus nn,by have:=sm.lg; rw [hul,sizeLine_eq]; omega,_,rfl,?_⟩⟩
   have h3:=h2.grow (H':=upd _ n (.tup [V.str "begin",V.int (s.n:Int)])) (Same.zaq nn)
   obtain ⟨h4,f4⟩:=h3.zm1 (H':=upd (upd _ n (.tup [V.str "begin",V.int (s.n:Int)])) (ad' .rows) (.lst (us++[.ref n]))) T.ok (row:=.begin s.n) (zaj hus nn) zab (λ b o e hb=>by rw [zae hb]; exact e) ⟨n,rfl,by rw [zae (zaf hus nn).symm,zab]; rfl⟩
   exact q _ ρ' ad' ea h4 ((f2.trans (Frame.grow (Same.zaq nn))).trans f4)
theorem zcj (T:Txt K mg A F):FnOk P w K mg base (CX1 P w) 2 (F.f 9) (F.fd 9) ["self","deed"] (zm9 A):=by
 have G_is_whole:=@zlm P w K mg base A F T
 refine T.zgx.okX zfD (λ vs H Q E h=>?_) (λ cdv A' outer s H vs Q E hr h=>?_)
 . obtain ⟨ρ,ad,s,kv,i,rfl,_⟩:=h
   rfl
 . obtain ⟨ρ,ad,s,kv,i,rfl,hh,hn,q⟩:=h
   obtain ⟨dx,hp⟩:=hh.hall
   refine ⟨_,(zac (zbC (PW.pt (zpJ (zqr (zj3 (zaV G_is_whole (hmr hr) rfl T.znz T.znt T.znD .nil zaK (zaa (pv 1) zad)))) (zpJ (zax zll (pv 1) zak (zaC _)) (zoh (zax ztc (pv 1) (zbf za5 (by rfl) T.zhZ PySem.boot_len (zaa (zap (pv 0) rfl) zad)) (zaC _)))))) (zah (ziX zgY rfl rfl T.zqc T.zps PySem.F.excBase_ValueError (zaa zaQ zad))) zaR)
    (zah (zaw (zaL zbu (zap (pv 0) rfl) (pv 1) (λ _ _=>rfl))))),?_⟩
   have hl:((List.range s.n).map λ i=>V.ref (ad (.rcd i))).length=s.n:=by rw [List.length_map,List.length_range]
   refine ⟨_,rfl,i,rfl,_,rfl,?_⟩
   refine ⟨_,rfl,_,_,rfl,rfl,_,rfl,?_⟩
   have bad:Out A s i H E->znX A.zhC E (zpx (tC (.str "there is no deed with this number")) tNil) { nx:=λ σ H'=>tRet (tOp (rIxL K) (tFld K (tVar 0) "records") (tVar 1)) { nx:=λ _ H'=>Q .non H',rt:=Q } σ H',rt:=Q } [some (.ref (ad .hall)),some (.int i)] H:=λ o=>⟨Nat.le_of_ble_eq_true rfl,o.2⟩
   have last:(if decide ((s.n:Int)<=i)=true then Out A s i H E else ∃ d:Nat,i=d/\d < s.n/\Q (.ref (ad (.rcd d))) H)->zqT (tOp (rI0 λ i j=>.bl (decide (j<=i))) (tVar 1) (tCB (λ xs H Q=>∃ p ys,xs=[.ref p]/\(SqL K H p ys\/SqT K H p ys)/\Q (.int ys.length) H) (zpx (tFld K (tVar 0) "records") tNil))) [some (.ref (ad .hall)),some (.int i)] H λ c H1=>if c=true then znX A.zhC E (zpx (tC (.str "there is no deed with this number")) tNil) { nx:=λ σ H'=>tRet (tOp (rIxL K) (tFld K (tVar 0) "records") (tVar 1)) { nx:=λ _ H'=>Q .non H',rt:=Q } σ H',rt:=Q } [some (.ref (ad .hall)),some (.int i)] H1 else zqV { nx:=λ σ H'=>tRet (tOp (rIxL K) (tFld K (tVar 0) "records") (tVar 1)) { nx:=λ _ H'=>Q .non H',rt:=Q } σ H',rt:=Q } [some (.ref (ad .hall)),some (.int i)] H1:=λ o=>by
    refine ⟨_,rfl,_,rfl,_,_,dx,_,_,rfl,hp,T.zam,T.zaA,rfl,ad .recs,_,rfl,.inl (SqL.of hh.recs),_,_,rfl,rfl,_,rfl,?_⟩
    rw [hl]
    cases hb:decide ((s.n:Int)<=i) with
    | true=>rw [hb] at o; exact iteT (bad (by simpa using o))
    | false =>
      rw [hb] at o
      obtain ⟨d,rfl,hd,z⟩:∃ d:Nat,i=d/\d < s.n/\Q (.ref (ad (.rcd d))) H:=by simpa using o
      exact iteF ⟨_,rfl,_,_,dx,_,_,rfl,hp,T.zam,T.zaA,rfl,_,rfl,ad .recs,_,_,_,rfl,rfl,SqL.of hh.recs,zbm (hh.zfh hd),z⟩
   cases hb:decide (i < 0) with
   | true =>
    refine iteT (bad ?_)
    rcases q with ⟨d,rfl,hd,z⟩ | o
    . simp at hb; omega
    . exact o
   | false =>
    refine iteF (last ?_)
    have hi:¬ i < 0:=by simpa using hb
    rcases q with ⟨d,rfl,hd,z⟩ | o
    . exact zaO (decide_eq_false (by omega)) ⟨d,rfl,hd,z⟩
    . exact zby (decide_eq_true (o.1.resolve_left hi)) o
theorem za8 (T:Txt K mg A F):FnOk P w K mg base (CX1 P w) 3 (F.f 10) (F.fd 10) ["self","deed"] (zpy A):=by
 have G_Hall_record_of:=@zcj P w K mg base A F T
 refine T.zcU.okX zcM (λ vs H Q E h=>?_) (λ cdv A' outer s H vs Q E hr h=>?_)
 . obtain ⟨ρ,ad,s,kv,i,rfl,_⟩:=h
   rfl
 . obtain ⟨ρ,ad,s,kv,i,rfl,hh,hn,q⟩:=h
   obtain ⟨dx,hp⟩:=hh.hall
   refine ⟨_,(zah (zbC (zax znm (zap (zaD (pv 0) T.zam T.zcB G_Hall_record_of (hmr hr) T.zcD .nil zbR (zaa (pv 1) zad)) rfl) (zcF rfl T.zlJ) (zaC _)) (zah (ziX zgY rfl rfl T.zf2 T.zie PySem.F.excBase_ValueError (zaa zaQ zad))) zaR)),?_⟩
   refine ⟨_,rfl,_,dx,_,rfl,hp,rfl,_,rfl,ρ,ad,s,kv,i,rfl,hh,hn,?_⟩
   rcases q with ⟨d,rfl,hd,q⟩ | o
   . obtain ⟨dr,wv,hr1,_⟩:=hh.rcd hd
     refine .inl ⟨d,rfl,hd,_,_,dr,_,_,rfl,hr1,T.zav,T.zaz,rfl,rfl,_,rfl,?_⟩
     rcases q with ⟨hs,q⟩ | ⟨hs,q⟩
     . refine zaO ?_ q
       rw [hs]; rfl
     . refine zby ?_ ⟨Nat.le_of_ble_eq_true rfl,q⟩
       cases hst:(s.deed d).st with
       | zas=>exact absurd hst hs
       | waiting=>rfl
       | kept=>rfl
       | dropped=>rfl
   . exact .inr o
theorem zdg (T:Txt K mg A F):FnOk P w K mg base (CX1 P w) 2 (F.f 17) (F.fd 17) ["self","deed","want"] (zq5 A):=by
 have G_Desk_take:=@zkj P w K mg base A F T
 have G_value_under:=@zhT P w K mg base A F T
 refine T.zgz.okN zce (λ vs H Q E h=>?_) (λ cdv A' outer s H vs Q E hr h=>?_)
 . obtain ⟨ρ,ad,s,kv,d,wv,a,rfl,_⟩:=h
   rfl
 . obtain ⟨ρ,ad,s,kv,d,wv,a,rfl,hh,sm,hd,hk,⟨pw,dw,rfl,hw⟩,q⟩:=h
   have hu:=zeg hr
   obtain ⟨dx,hp⟩:=hh.hall
   have D:=hh.desk hk
   obtain ⟨dd,hdk⟩:=D.ob
   refine ⟨_,(zac (zaG (zaD (zeY hu (zap (pv 0) rfl) (zap (pv 2) rfl) (λ _ _=>rfl)) T.zaS T.zlz G_Desk_take (hmr hr) T.zlW .nil zaK (zaa (pv 1) (zaa (zap (pv 2) rfl) zad))))
    (zac (zaI (i:=3) zce.nd rfl (by walk_at "loc") (zaL zbu (zap (pv 0) rfl) (pv 1) (λ _ _=>rfl)))
    (zac (zbQ (pv 3) (zcF rfl T.zlJ) rfl)
    (zac (zbQ (pv 3) zgg rfl)
    (zac (zaI (i:=4) zce.nd rfl (by walk_at "loc") (zaV G_value_under (hmr hr) rfl T.zjk T.zjg T.zjq .nil zaK (zaa (zap (pv 0) rfl) (zaa (zap (pv 2) rfl) zad))))
    (zah (zbC (zax zb4 (zap (pv 2) rfl) (zcF rfl T.zdl) (zaC _)) (zac (zaG (zdy PySem.F.plainAttrs_list PySem.F.slot_list_append PySem.F.type_list_append zbl (zap (pv 0) rfl) (zaa (zbk (zaa (zcF rfl T.zlI) (zaa (pv 1) (zaa (zap (pv 2) rfl) (zaa (pv 4) (zaa (zap (pv 2) rfl) zad)))))) zad)))
    (zac (zd8 hu (zap (pv 0) rfl) (zap (pv 2) rfl) (zap (pv 2) rfl) rfl)
    (zah (zaG (zdy PySem.F.plainAttrs_list PySem.F.slot_list_append PySem.F.type_list_append zbl (zap (pv 3) rfl) (zaa (zbk (zaa (zcF rfl T.zlI) (zaa (zap (pv 2) rfl) (zaa (zap (pv 2) rfl) zad)))) zad)))))) (zah (zaG (zdy PySem.F.plainAttrs_list PySem.F.slot_list_append PySem.F.type_list_append zbl (zap (pv 3) rfl) (zaa (zbk (zaa (zcF rfl T.zsD) (zaa (zap (pv 2) rfl) (zaa (pv 4) zad)))) zad))))))))))),?_⟩
   refine ⟨_,rfl,_,_,dx,_,_,rfl,hp,T.zam,T.zbs,rfl,_,rfl,pw,_,dw,_,_,rfl,hw,T.za3,T.za9,rfl,_,_,rfl,hh.zfw hk,_,dd,_,rfl,hdk,rfl,_,rfl,_,rfl,pw,_,dw,_,_,rfl,hw,T.za3,T.zbq,rfl,_,_,_,_,_,d,a.wr,rfl,D,sm.hl _,sm.hn _,λ H1 e1 kp1=>?_⟩
   obtain ⟨h1,f1⟩:=hh.zrc T.ok hk e1 kp1
   have hw1:H1 pw=_:=(Imm.zfU T.ok hh (r:=.held a.key) hk kp1).want _ _ _ hw
   obtain ⟨dx1,hp1⟩:=h1.hall
   obtain ⟨dr,w0,hr1,_⟩:=h1.rcd hd
   refine ⟨_,rfl,_,_,dx1,_,_,rfl,hp1,T.zam,T.zaA,rfl,_,rfl,_,_,_,_,rfl,rfl,SqL.of h1.recs,zbm (h1.zfh hd),?_⟩
   refine ⟨_,rfl,_,_,dr,_,rfl,hr1,T.zav,T.zaz,Nat.le_of_ble_eq_true rfl,_,rfl,_,_,dr,_,rfl,zab,T.zav,T.za4,Nat.le_of_ble_eq_true rfl,?_⟩
   rw [ziK]
   have kp3:zcv H1 (ad (.rcd d)) (upd H1 (ad (.rcd d)) (.ins A.zaB dr (recF .zas (ad (.did d)) .non))):=λ b o e hb=>by rw [zae hb]; exact e
   obtain ⟨h3,f3⟩:=h1.zn9 (H':=upd H1 (ad (.rcd d)) (.ins A.zaB dr (recF .zas (ad (.did d)) .non))) T.ok hd (D:={ s.deed d with st:=.zas }) (w:=.non) zab kp3 rfl rfl
   have hw3:=(Imm.zfU T.ok h1 (r:=.rcd d) hd kp3).want _ _ _ hw1
   show tSeq _ _ _ _ (upd H1 (ad (.rcd d)) (.ins A.zaB dr (recF .zas (ad (.did d)) .non)))
   generalize upd H1 (ad (.rcd d)) (.ins A.zaB dr (recF .zas (ad (.did d)) .non))=H3 at *
   obtain ⟨dx3,hp3⟩:=h3.hall
   obtain ⟨l,hl,hb⟩:=h3.zco
   have hb:zbn l s.book:=hb
   refine ⟨_,rfl,_,_,dx3,_,_,rfl,hp3,T.zam,T.zbv,rfl,_,rfl,pw,_,dw,_,_,rfl,hw3,T.za3,T.za9,rfl,_,a.key,l,_,rfl,hl,hb,?_⟩
   refine ⟨_,rfl,pw,_,dw,_,_,rfl,hw3,T.za3,T.zbq,rfl,rfl,_,rfl,?_⟩
   refine zeC a.wr (zgK a.wr) ?_
   have hr3:∃ dr w,H3 (ad (.rcd d))=some (.ins A.zaB dr (recF .zas (ad (.did d)) w)):=by
    obtain ⟨dr,w,e,_⟩:=h3.rcd hd
    have e:H3 (ad (.rcd d))=some (.ins A.zaB dr (recF (up s.deed d { s.deed d with st:=.zas } d).st (ad (.did d)) w)):=e
    rw [zag] at e
    exact ⟨dr,w,e⟩
   have fin:∀ (t:HS Str) (H4:Hp) (b:Act Str),zai A ρ ad t kv H4->Frame ρ H ρ H4->t.n=s.n->(t.deed d).done.length<=2000->∀ us,H4 (ad (.did d))=some (.lst us)->∀ n,H4 n=none ->
     ∃ l xs y,V.ref (ad (.did d))=.ref l/\[V.ref n]=[y]/\upd H4 n (.tup (actV b)) l=some (.lst xs)/\xs.length < sizeLine/\(zai A ρ ad { t with deed:=up t.deed d { t.deed d with done:=(t.deed d).done++[b] } } kv (upd (upd H4 n (.tup (actV b))) l (.lst (xs++[y])))/\Frame ρ H ρ (upd (upd H4 n (.tup (actV b))) l (.lst (xs++[y])))):=λ t H4 b h4 f4 hn hl us hus n nn=>by
    have hdt:d < t.n:=by rw [hn]; exact hd
    have h5:=h4.grow (H':=upd H4 n (.tup (actV b))) (Same.zaq nn)
    obtain ⟨us',e',tu⟩:=h4.did hdt
    rw [hus] at e'; cases e'
    have hlen:us.length=(t.deed d).done.length:=by rw [tu.length,List.length_map]
    obtain ⟨h6,f6⟩:=h5.zsS (H':=upd (upd H4 n (.tup (actV b))) (ad (.did d)) (.lst (us++[.ref n]))) T.ok hdt (a:=b) (zaj hus nn) zab (λ x o e hx=>by rw [zae hx]; exact e) ⟨n,rfl,by rw [zae (zaf hus nn).symm,zab]⟩
    exact ⟨ad (.did d),us,.ref n,rfl,rfl,zaj hus nn,by rw [hlen,sizeLine_eq]; omega,h6,(f4.trans (Frame.grow (Same.zaq nn))).trans f6⟩
   have f03:Frame ρ H ρ H3:=f1.trans f3
   have dn3:(up s.deed d { s.deed d with st:=DS.zas } d).done.length<=2000:=by rw [zag]; exact sm.dn d
   cases hwr:a.wr with
   | true =>
    obtain ⟨us,hus,tus⟩:=h3.rows
    have hul:us.length=s.log.length:=by rw [tus.length,List.length_map]
    have hwv:List.lookup ("value" : Str) (zqP a)=some (.int a.val):=by
     show some (if a.wr then V.int a.val else .non)=_
     rw [hwr]; rfl
    refine ⟨_,rfl,_,_,dx3,_,_,rfl,hp3,T.zam,T.zb2,rfl,.inl ⟨rfl,_,SqL.of hus⟩,_,rfl,_,rfl,pw,_,dw,_,_,rfl,hw3,T.za3,T.za9,rfl,_,rfl,_,rfl,pw,_,dw,_,_,rfl,hw3,T.za3,T.zcG,hwv,sz5,λ n nn=>⟨_,_,_,rfl,rfl,zaj hus nn,by have:=sm.lg; rw [hul,sizeLine_eq]; omega,?_⟩⟩
    have g4:=h3.grow (H':=upd H3 n (.tup [V.str "write",.int (d:Int),.str a.key,.int ((s.book a.key).getD 0),.int a.val])) (Same.zaq nn)
    have kp4:zcv (upd H3 n (.tup [V.str "write",.int (d:Int),.str a.key,.int ((s.book a.key).getD 0),.int a.val])) (ad .rows) (upd (upd H3 n (.tup [V.str "write",.int (d:Int),.str a.key,.int ((s.book a.key).getD 0),.int a.val])) (ad .rows) (.lst (us++[.ref n]))):=λ b o e hb=>by rw [zae hb]; exact e
    obtain ⟨h4,f4⟩:=g4.zm1 T.ok (row:=.write d a.key ((s.book a.key).getD 0) a.val) (zaj hus nn) zab kp4 ⟨n,rfl,by rw [zae (zaf hus nn).symm,zab]; rfl⟩
    have hw4:=(Imm.zfU T.ok g4 (r:=.rows) trivial kp4).want _ _ _ (Same.zaq nn _ _ hw3)
    have f04:=(f03.trans (Frame.grow (Same.zaq nn))).trans f4
    have hl4:=kp4 _ _ (Same.zaq (o:=.tup [V.str "write",.int (d:Int),.str a.key,.int ((s.book a.key).getD 0),.int a.val]) nn _ _ hl) (g4.ne (r:=.zco) (r':=.rows) trivial trivial (by intro z; cases z))
    generalize upd (upd H3 n (.tup [V.str "write",.int (d:Int),.str a.key,.int ((s.book a.key).getD 0),.int a.val])) (ad .rows) (.lst (us++[.ref n]))=H4 at *
    obtain ⟨dx4,hp4⟩:=h4.hall
    have hll:l.length<=4:=Nat.le_trans (hb.len sm.snd sm.bs) sm.seen
    refine ⟨_,rfl,pw,_,dw,_,_,rfl,hw4,T.za3,T.zcG,hwv,_,rfl,_,_,dx4,_,_,rfl,hp4,T.zam,T.zbv,rfl,_,rfl,pw,_,dw,_,_,rfl,hw4,T.za3,T.za9,rfl,_,_,rfl,DPut.k (k:=Sum.inr a.key) hl4 (by rw [zhG,sizeLine_eq]; omega),?_⟩
    rw [zhF]
    have kp5:zcv H4 (ad .zco) (upd H4 (ad .zco) (.dK (bkV (bput l a.key a.val)))):=λ b o e hb=>by rw [zae hb]; exact e
    obtain ⟨h5,f5⟩:=h4.zmp T.ok zab kp5 (hb.put a.key a.val)
    have hw5:=(Imm.zfU T.ok h4 (r:=.zco) trivial kp5).want _ _ _ hw4
    generalize upd H4 (ad .zco) (.dK (bkV (bput l a.key a.val)))=H5 at *
    obtain ⟨dr5,w5,hr5,_⟩:=h5.rcd hd
    obtain ⟨us5,hus5,_⟩:=h5.did hd
    refine ⟨_,rfl,_,_,dr5,_,_,rfl,hr5,T.zav,T.zbg,rfl,.inl ⟨rfl,_,SqL.of hus5⟩,_,rfl,pw,_,dw,_,_,rfl,hw5,T.za3,T.za9,rfl,_,rfl,pw,_,dw,_,_,rfl,hw5,T.za3,T.zcG,hwv,sz3,λ n5 nn5=>?_⟩
    obtain ⟨l6,xs6,y6,g1,g2,g3,g4',g5,g6⟩:=fin _ H5 a h5 (f04.trans f5) rfl dn3 us5 hus5 n5 nn5
    have ea:actV a=[V.str "write",.str a.key,.int a.val]:=by unfold actV; rw [hwr]; rfl
    rw [ea] at g3 g5 g6
    refine ⟨l6,xs6,y6,g1,g2,g3,g4',q _ ?_ g6⟩
    rw [zsJ _ _ _ hwr]
    exact g5
   | false =>
    obtain ⟨dr5,w5,hr5⟩:=hr3
    obtain ⟨us5,hus5,_⟩:=h3.did hd
    refine ⟨_,rfl,_,_,dr5,_,_,rfl,hr5,T.zav,T.zbg,rfl,.inl ⟨rfl,_,SqL.of hus5⟩,_,rfl,pw,_,dw,_,_,rfl,hw3,T.za3,T.za9,rfl,_,rfl,sz3,λ n5 nn5=>?_⟩
    obtain ⟨l6,xs6,y6,g1,g2,g3,g4',g5,g6⟩:=fin _ H3 ⟨false,a.key,(s.book a.key).getD 0⟩ h3 f03 rfl dn3 us5 hus5 n5 nn5
    refine ⟨l6,xs6,y6,g1,g2,g3,g4',q _ ?_ g6⟩
    rw [zsK _ _ _ hwr]
    exact g5
theorem zfP (T:Txt K mg A F):FnOk P w K mg base (CX1 P w) 3 (F.f 20) (F.fd 20) ["self","deed"] (zna A):=by
 have G_Desk_next_waited_for:=@zdz P w K mg base A F T
 refine T.zgy.okN zdd (λ vs H Q E h=>?_) (λ cdv A' outer s H vs Q E hr h=>?_)
 . obtain ⟨ρ,ad,s,kv,d,rfl,_⟩:=h
   rfl
 . obtain ⟨ρ,ad,s,kv,d,rfl,hh,c,sm,hd,q⟩:=h
   have hu:=zeg hr
   obtain ⟨dx,hp⟩:=hh.hall
   obtain ⟨dr,wv,hr1,hw⟩:=hh.rcd hd
   refine ⟨_,(zac (zaI (i:=2) zdd.nd rfl (by walk_at "loc") (zap (zaL zbu (zap (pv 0) rfl) (pv 1) (λ _ _=>rfl)) rfl))
     (zac (zbC (zgf (zss (pv 2))) (zah (zaw (zcq zad))) zaR)
     (zah (zaw (zaD (zeY hu (zap (pv 0) rfl) (zap (pv 2) rfl) (λ _ _=>rfl)) T.zaS T.zdS G_Desk_next_waited_for (hmr hr) T.zdV .nil zaK (zaa (pv 1) (zaa (zap (pv 2) rfl) zad))))))),?_⟩
   refine ⟨_,rfl,_,_,dx,_,_,rfl,hp,T.zam,T.zaA,rfl,_,rfl,_,_,_,_,rfl,rfl,SqL.of hh.recs,zbm (hh.zfh hd),_,_,dr,_,_,rfl,hr1,T.zav,T.za4,rfl,?_⟩
   refine ⟨_,rfl,_,rfl,?_⟩
   by_cases hst:(s.deed d).st=.waiting
   . obtain ⟨a,ha,hrow⟩:=c.wRow d (by simp) hst
     have hw0:wantOf (s.deed d)=some a:=by unfold wantOf; rw [if_pos hst,ha]
     rw [hw0] at hw
     obtain ⟨pw,dw,rfl,hpw⟩:=hw
     have hk:a.key∈s.seen:=zcH c hrow
     have D:=hh.desk hk
     obtain ⟨dd,hdk⟩:=D.ob
     refine zaO rfl ?_
     refine ⟨_,rfl,_,_,dx,_,_,rfl,hp,T.zam,T.zbs,rfl,_,rfl,pw,_,dw,_,_,rfl,hpw,T.za3,T.za9,rfl,_,_,rfl,hh.zfw hk,_,dd,_,rfl,hdk,rfl,_,rfl,_,rfl,pw,_,dw,_,_,rfl,hpw,T.za3,T.zbq,rfl,_,_,_,_,_,d,a.wr,rfl,D,sm.hl _,sm.hn _,sm.rl _,hrow,c.rNd _,λ H' n nf m e=>q H' n nf m ?_⟩
     rw [zkm hst ha]; exact e
   . have hw0:wantOf (s.deed d)=none:=by unfold wantOf; rw [if_neg hst]
     rw [hw0] at hw
     have hw:wv=.non:=hw
     subst hw
     refine zby rfl ⟨Nat.le_of_ble_eq_true rfl,λ n hn=>q _ n hn (Same.zaq hn) ?_⟩
     rw [zab,zow hst]; rfl
theorem zha (T:Txt K mg A F):FnOk P w K mg base (CX1 P w) 4 (F.f 21) (F.fd 21) ["self","deed"] (zpC A):=by
 have G_Hall_next_from:=@zfP P w K mg base A F T
 refine T.zib.okN zbF (λ vs H Q E h=>?_) (λ cdv A' outer s H vs Q E hr h=>?_)
 . obtain ⟨ρ,ad,s,kv,d,rfl,_⟩:=h
   rfl
 . obtain ⟨ρ,ad,s,kv,d,rfl,hh,c,sm,hd,q⟩:=h
   have hu:=zeg hr
   refine ⟨_,(zac (zaI (i:=2) zbF.nd rfl (by walk_at "loc") zdw)
     (zac (zaI (i:=3) zbF.nd rfl (by walk_at "loc") (zcq (zaa (pv 1) zad)))
     (zac (zgD PassesOwn.never (zax zrp (zbf za5 (by rfl) T.zhZ PySem.boot_len (zaa (pv 3) zad)) zak (zaC _)) (zac (zaI (i:=4) zbF.nd rfl (by walk_at "loc") (zqt PySem.F.plainAttrs_list PySem.F.slot_list_pop PySem.F.type_list_pop zqA (pv 3)))
     (zah (zeA PassesOwn.never rfl (zdv (zaD (pv 0) T.zam T.zgq G_Hall_next_from (hmr hr) T.zgu .nil zaK (zaa (pv 4) zad))) (zaU (i:=5) zbF.nd rfl (by walk_at "loc")) (zah (zbC (zgf (zg4 hu (pv 5) (pv 2))) (zac (zd8 hu (pv 2) (pv 5) zj6 rfl)
     (zah (zaG (zdy PySem.F.plainAttrs_list PySem.F.slot_list_append PySem.F.type_list_append zbl (pv 3) (zaa (pv 5) zad))))) zaR))))))
     (zah (zaw (pv 2)))))),?_⟩
   intro pf nf
   refine ⟨_,rfl,Nat.le_of_ble_eq_true rfl,λ pl nl=>?_⟩
   have hfl:pf≠pl:=zaf zab nl
   let Inv0:List Nat->List Nat->Hp->Prop:=λ fd lf H1=>Same H H1/\H1 pf=some (.dK (zcd fd))/\H1 pl=some (.lst (zay lf))/\fd.Nodup/\(∀ x∈fd,zc4 s d x)/\(∀ x∈lf,x=d\/x∈fd)/\lf.length<=fd.length+1
   have fdlt:∀ fd:List Nat,(∀ x∈fd,zc4 s d x)->∀ x∈fd,x < s.n:=λ fd h x hx=>by
     obtain ⟨z,hz,_⟩:=(h x hx).last
     exact zqv c hz
   have fdlen:∀ fd:List Nat,fd.Nodup->(∀ x∈fd,zc4 s d x)->fd.length<=s.n:=λ fd nd h=>zfl _ _ nd (fdlt fd h)
   refine ⟨λ m σ H1=>∃ fd lf v4 v5,σ=[some (.ref (ad .hall)),some (.int d),some (.ref pf),some (.ref pl),v4,v5]/\Inv0 fd lf H1/\(∀ x,x=d\/x∈fd->x∈lf\/∀ y∈nxt s x,y∈fd)/\m=2 * (s.n - fd.length)+lf.length,⟨_,[],[d],none,none,rfl,⟨(Same.zaq nf).upd2 nl,?_,zab,List.nodup_nil,λ x hx=>(by cases hx),λ x hx=>.inl (List.mem_singleton.mp hx),by simp⟩,λ x hx=>.inl (by rcases hx with z | z; exact List.mem_singleton.mpr z; cases z),rfl⟩,?_⟩
   . rw [zae hfl,zab]; rfl
   rintro m σ H1 ⟨fd,lf,v4,v5,rfl,⟨s1,hf,hl,nd,hre,hlf,hll⟩,hcl,rfl⟩
   refine ⟨_,rfl,pl,_,rfl,.inl (SqL.of hl),_,_,rfl,rfl,_,rfl,?_⟩
   rcases List.eq_nil_or_concat lf with hlf0 | ⟨init,x,hix⟩
   . subst hlf0
     refine zaO rfl ?_
     refine ⟨_,rfl,q H1 pf fd s1 hf nd λ x=>⟨hre x,λ hx=>?_⟩⟩
     have step:∀ z,(z=d\/z∈fd)->∀ y∈nxt s z,y∈fd:=λ z hz=>(hcl z hz).resolve_left (λ k=>nomatch k)
     have:∀ a b,Path (λ a b=>b∈nxt s a) a b->(a=d\/a∈fd)->b∈fd:=λ a b p=>by
       induction p with
       | one h=>exact λ ha=>step _ ha _ h
       | step h _ ih=>exact λ ha=>ih (.inr (step _ ha _ h))
     exact this d x hx (.inl rfl)
   . have hix:lf=init++[x]:=by rw [hix]; simp
     subst hix
     have hx:=hlf x (by simp)
     have hxn:x < s.n:=hx.elim (λ z=>z ▸ hd) λ z=>fdlt fd hre x z
     refine zby ?_ ?_
     . unfold zay; simp
     refine ⟨λ σ' H'=>∃ fd' lf' v4 v5,σ'=[some (.ref (ad .hall)),some (.int d),some (.ref pf),some (.ref pl),v4,v5]/\Inv0 fd' lf' H'/\(∀ x,x=d\/x∈fd'->x∈lf'\/∀ y∈nxt s x,y∈fd')/\2 * (s.n - fd'.length)+lf'.length < 2 * (s.n - fd.length)+(init++[x]).length,λ σ' H' ⟨fd',lf',v4,v5,e,i,cl,lt⟩=>⟨_,lt,fd',lf',v4,v5,e,i,cl,rfl⟩,?_⟩
     have il:zay (init++[x])=zay init++[V.int (x:Int)]:=by unfold zay; rw [List.map_append]; rfl
     have hlast:(zay (init++[x]))[(zay (init++[x])).length - 1]?=some (V.int (x:Int)):=by
       rw [il]; simp
     refine ⟨_,rfl,.inl ⟨rfl,_,SqL.of hl⟩,pl,_,_,rfl,rfl,hl,hlast,?_⟩
     have hdrop:(zay (init++[x])).dropLast=zay init:=by rw [il,List.dropLast_concat]
     rw [hdrop]
     have fpl:∀ b o,H b=some o->b≠pl:=λ b o e=>zaf (Same.zaq nf b o e) nl
     have s2:Same H (upd H1 pl (.lst (zay init))):=λ b o e=>by rw [zae (fpl b o e)]; exact s1 b o e
     have hf2:upd H1 pl (.lst (zay init)) pf=some (.dK (zcd fd)):=by rw [zae hfl]; exact hf
     obtain ⟨dx,hp⟩:=hh.hall
     refine ⟨_,rfl,_,dx,_,rfl,s2 _ _ hp,rfl,_,rfl,ρ,ad,s,kv,x,rfl,hh.grow s2,c,sm,hxn,λ H3 pn nf3 m3 hn=>⟨pn,rfl,⟨_,SqL.of hn⟩,?_⟩⟩
     have s3:Same H H3:=s2.trans m3
     have hf3:=m3 _ _ hf2
     have hl3:=m3 _ _ (zab (H:=H1) (a:=pl) (o:=.lst (zay init)))
     have hnf:pn≠pf:=λ z=>by rw [z,hf2] at nf3; cases nf3
     have hnpl:pn≠pl:=λ z=>by rw [z,zab] at nf3; cases nf3
     have hxr:∀ y∈nxt s x,zc4 s d y:=λ y hy=>hx.elim (λ z=>z ▸ .one hy) λ z=>(hre x z).trans (.one hy)
     have Hpn:∀ b o,H b=some o->b≠pn:=λ b o e=>zaf (s2 b o e) nf3
     have Hpf:∀ b o,H b=some o->b≠pf:=λ b o e=>zaf e nf
     refine zft (xs:=zay (nxt s x)) (λ i σ' H'=>∃ new v5,σ'=[some (.ref (ad .hall)),some (.int d),some (.ref pf),some (.ref pl),some (V.int x),v5]/\Same H H'/\H' pn=some (.lst (zay (nxt s x)))/\H' pf=some (.dK (zcd (fd++new)))/\H' pl=some (.lst (zay (init++new)))/\(fd++new).Nodup/\(∀ y∈new,y∈nxt s x)/\(∀ y∈(nxt s x).take i,y∈fd++new)) ⟨[],_,rfl,s3,hn,by rw [List.append_nil]; exact hf3,by rw [List.append_nil]; exact hl3,by rw [List.append_nil]; exact nd,(λ y hy=>by cases hy),(λ y hy=>by simp at hy)⟩ (λ i σ' H' _ ⟨_,_,_,_,e,_⟩=>SqL.of e) ?_ ?_
     . rintro i y σ' H' hy ⟨new,v5,rfl,s4,e1,e2,e3,e4,e5,e6⟩
       unfold zay at hy
       rw [List.getElem?_map] at hy
       obtain ⟨y,hyy,rfl⟩:=Option.map_eq_some_iff.mp hy
       replace hy:=hyy
       have hy1:=List.mem_of_getElem? hy
       have et:(nxt s x).take (i+1)=(nxt s x).take i++[y]:=by rw [List.take_add_one,hy]; rfl
       have dg:=DGet.k (k:=Sum.inl (y:Int)) e2
       have ln:(fd++new).length<=s.n:=fdlen _ e4 λ z hz=>(List.mem_append.mp hz).elim (hre z) λ h=>hxr z (e5 z h)
       refine ⟨_,rfl,_,rfl,_,_,rfl,dg,_,rfl,?_⟩
       refine zeC (!decide (y∈fd++new)) (by rw [zfs]) ?_
       by_cases hm:y∈fd++new
       . refine zaO (by simp [hm]) ⟨new,_,rfl,s4,e1,e2,e3,e4,e5,?_⟩
         intro z hz
         rw [et] at hz
         rcases List.mem_append.mp hz with hz | hz
         . exact e6 z hz
         . rw [List.mem_singleton.mp hz]; exact hm
       . refine zby (by simp [hm]) ?_
         refine ⟨_,rfl,_,rfl,_,_,rfl,DPut.k (k:=Sum.inl (y:Int)) e2 (by have:=sm.n; unfold zcd; rw [List.length_map,sizeLine_eq]; omega),?_⟩
         rw [zo1 hm]
         have e3':upd H' pf (.dK (zcd (fd++new++[y]))) pl=some (.lst (zay (init++new))):=by rw [zae hfl.symm]; exact e3
         refine ⟨_,rfl,.inl ⟨rfl,_,SqL.of e3'⟩,_,rfl,_,_,_,rfl,rfl,e3',?_,?_⟩
         . have:=sm.n
           unfold zay; rw [List.length_map,sizeLine_eq]
           simp only [List.length_append,List.length_cons,List.length_nil] at hll ln ⊢
           omega
         . refine ⟨new++[y],_,rfl,?_,?_,?_,?_,?_,?_,?_⟩
           . intro b o e
             rw [zae (fpl b o e),zae (Hpf b o e)]; exact s4 b o e
           . rw [zae hnpl,zae hnf]; exact e1
           . rw [zae hfl,zab,List.append_assoc]
           . rw [zab]; unfold zay; simp
           . rw [<-List.append_assoc]
             exact List.nodup_append.mpr ⟨e4,by simp,λ a ha b hb=>by rw [List.mem_singleton.mp hb]; exact λ z=>hm (z ▸ ha)⟩
           . intro z hz
             rcases List.mem_append.mp hz with hz | hz
             . exact e5 z hz
             . rw [List.mem_singleton.mp hz]; exact hy1
           . intro z hz
             rw [<-List.append_assoc]
             rw [et] at hz
             rcases List.mem_append.mp hz with hz | hz
             . exact List.mem_append_left _ (e6 z hz)
             . exact List.mem_append_right _ hz
     . rintro σ' H' ⟨new,v5,rfl,s4,e1,e2,e3,e4,e5,e6⟩
       have e6:∀ y∈nxt s x,y∈fd++new:=by
         have:(zay (nxt s x)).length=(nxt s x).length:=by unfold zay; rw [List.length_map]
         rw [this,List.take_length] at e6; exact e6
       have re2:∀ z∈fd++new,zc4 s d z:=λ z hz=>(List.mem_append.mp hz).elim (hre z) λ h=>hxr z (e5 z h)
       have ln:(fd++new).length<=s.n:=fdlen _ e4 re2
       refine ⟨fd++new,init++new,_,_,rfl,⟨s4,e2,e3,e4,re2,λ z hz=>?_,?_⟩,λ z hz=>?_,?_⟩
       . rcases List.mem_append.mp hz with hz | hz
         . exact (hlf z (List.mem_append_left _ hz)).imp_right λ h=>List.mem_append_left _ h
         . exact .inr (List.mem_append_right _ hz)
       . simp only [List.length_append,List.length_cons,List.length_nil] at hll ⊢
         omega
       . have key:(z=d\/z∈fd)->z∈init++new\/∀ y∈nxt s z,y∈fd++new:=λ hz=>by
           rcases hcl z hz with h | h
           . rcases List.mem_append.mp h with h | h
             . exact .inl (List.mem_append_left _ h)
             . rw [List.mem_singleton.mp h]; exact .inr e6
           . exact .inr λ y hy=>List.mem_append_left _ (h y hy)
         rcases hz with hz | hz
         . exact key (.inl hz)
         . rcases List.mem_append.mp hz with hz | hz
           . exact key (.inr hz)
           . exact .inl (List.mem_append_right _ hz)
       . simp only [List.length_append,List.length_cons,List.length_nil] at ln ⊢
         omega
theorem zox {α β:Type} {f:α->β} (h:∀ a b,f a=f b->a=b) {l:List α} (nd:l.Nodup):(l.map f).Nodup:=by
 induction l with
 | nil=>simp
 | cons a r ih =>
  obtain ⟨n1,n2⟩:=List.nodup_cons.mp nd
  rw [List.map_cons]
  refine List.nodup_cons.mpr ⟨λ z=>?_,ih n2⟩
  obtain ⟨b,hb,e⟩:=List.mem_map.mp z
  exact n1 (h _ _ e ▸ hb)
theorem zla {l:List Nat} {ys:List Key} (pm:ys.Perm (l.map λ (n:Nat)=>Sum.inl (n:Int))) (so:ys.Pairwise λ a b=>kLt a b=true) :
   ∃ L:List Nat,ys=L.map (λ (n:Nat)=>Sum.inl (n:Int))/\(∀ x,x∈L↔x∈l)/\L.Pairwise (· < ·):=by
 obtain ⟨L,rfl⟩:∃ L:List Nat,ys=L.map (λ (n:Nat)=>Sum.inl (n:Int)):=by
   have:∀ y∈ys,∃ n:Nat,y=Sum.inl (n:Int):=λ y hy=>by
     obtain ⟨n,_,e⟩:=List.mem_map.mp (pm.mem_iff.mp hy)
     exact ⟨n,e.symm⟩
   clear so pm
   induction ys with
   | nil=>exact ⟨[],rfl⟩
   | cons y r ih =>
     obtain ⟨n,rfl⟩:=this _ List.mem_cons_self
     obtain ⟨L,rfl⟩:=ih λ y hy=>this y (List.mem_cons_of_mem _ hy)
     exact ⟨n::L,rfl⟩
 refine ⟨L,rfl,λ x=>?_,?_⟩
 . have:=pm.mem_iff (a:=Sum.inl (x:Int))
   rw [List.mem_map,List.mem_map] at this
   constructor
   . intro h
     obtain ⟨y,hy,e⟩:=this.mp ⟨x,h,rfl⟩
     rw [zcQ.mp e] at hy; exact hy
   . intro h
     obtain ⟨y,hy,e⟩:=this.mpr ⟨x,h,rfl⟩
     rw [zcQ.mp e] at hy; exact hy
 . rw [List.pairwise_map] at so
   exact so.imp λ {a b} h=>by
     have:decide ((a:Int) < (b:Int))=true:=h
     have:=of_decide_eq_true this
     omega
theorem zjw {xs:List V} {x:V}:atI (xs++[x]) (-1)=some x:=by
 have e:ixN (xs++[x]).length (-1)=some xs.length:=by
  unfold ixN
  rw [List.length_append,List.length_singleton,if_neg (by omega),if_pos (by omega)]
  congr 1; omega
 unfold atI
 rw [e]; simp
theorem zcT (T:Txt K mg A F):FnOk P w K mg base (CX1 P w) 5 (F.f 22) (F.fd 22) ["self","deed"] (znc A):=by
 have G_Hall_come_to:=@zha P w K mg base A F T
 refine T.zdc.okN zbb (λ vs H Q E h=>?_) (λ cdv A' outer s H vs Q E hr h=>?_)
 . obtain ⟨ρ,ad,s,kv,d,rfl,_⟩:=h
   rfl
 . obtain ⟨ρ,ad,s,kv,d,rfl,hh,c,hd0,th,sm,hd,q⟩:=h
   have hu:=zeg hr
   obtain ⟨dx,hp⟩:=hh.hall
   have RG:=ziU c th
   refine ⟨_,(zac (zaI (i:=2) zbb.nd rfl (by walk_at "loc") (zaD (pv 0) T.zam T.zeB G_Hall_come_to (hmr hr) T.zeD .nil zaK (zaa (pv 1) zad)))
     (zac (zbC (zgf (zg4 hu (pv 1) (pv 2))) (zah (zaw zgg)) zaR)
     (zac (zaI (i:=3) zbb.nd rfl (by walk_at "loc") (zbf (zgt rfl) (by rfl) T.zmE boot_sorted (zaa (pv 2) zad)))
     (zac (zgD PassesOwn.never (zgf (zg4 hu (pv 1) (zaD (pv 0) T.zam T.zeB G_Hall_come_to (hmr hr) T.zeD .nil zaK (zaa (zaL zbu (pv 3) (zrl znS zak) (λ _ _=>rfl)) zad)))) (zah (zaG (zqt PySem.F.plainAttrs_list PySem.F.slot_list_pop PySem.F.type_list_pop zqA (pv 3)))))
     (zah (zaw (zaL zbu (pv 3) (zrl znS zak) (λ _ _=>rfl)))))))),?_⟩
   refine ⟨_,rfl,_,dx,_,rfl,hp,rfl,_,rfl,ρ,ad,s,kv,d,rfl,hh,c,sm,hd,λ H1 pf fd m1 hf nd hre=>?_⟩
   have dg:=DGet.k (k:=Sum.inl (d:Int)) hf
   refine ⟨_,rfl,_,rfl,_,_,rfl,dg,_,rfl,?_⟩
   refine zeC (!decide (d∈fd)) (by rw [zfs]) ?_
   by_cases hm:d∈fd
   rotate_left
   . refine zby (by simp [hm]) ?_
     have:=q H1 m1
     rw [RG.1 λ z=>hm ((hre d).mpr ((zdi c hd0).mpr z))] at this
     exact this
   refine zaO (by simp [hm]) ?_
   have fl:∀ x∈fd,x < s.n:=λ x hx=>by
     obtain ⟨z,hz,_⟩:=((hre x).mp hx).last
     exact zqv c hz
   have len:fd.length<=s.n:=zfl _ _ nd fl
   refine ⟨_,rfl,pf,_,rfl,.inr ⟨_,hf,rfl⟩,?_,?_,?_,λ ys pr pm so nr=>?_⟩
   . rw [show (zcd fd).map (·.1)=fd.map λ (n:Nat)=>Sum.inl (n:Int) by unfold zcd; rw [List.map_map]; rfl]
     exact zox (λ a b z=>zcQ.mp z) nd
   . refine .inl λ k hk=>?_
     obtain ⟨y,hk2,rfl⟩:=List.mem_map.mp hk
     obtain ⟨x,_,e⟩:=List.mem_map.mp hk2
     exact ⟨_,by rw [<-e]⟩
   . have:=sm.n
     unfold zcd; rw [List.length_map,List.length_map]; omega
   obtain ⟨L,rfl,hL,sL⟩:=zla (l:=fd) (by rw [show (zcd fd).map (·.1)=fd.map λ (n:Nat)=>Sum.inl (n:Int) by unfold zcd; rw [List.map_map]; rfl] at pm; exact pm) so
   have eL:List.map kV (L.map λ (n:Nat)=>Sum.inl (n:Int))=zay L:=by unfold zay; rw [List.map_map]; rfl
   rw [eL]
   have hdd:zc4 s d d:=(hre d).mp hm
   have s1:Same H (upd H1 pr (.lst (zay L))):=m1.upd2 nr
   have frm:∀ b o,H b=some o->b≠pr:=λ b o e=>zaf (m1 b o e) nr
   refine ⟨λ m σ H2=>∃ pre rest,σ=[some (.ref (ad .hall)),some (.int d),some (.ref pf),some (.ref pr)]/\m=pre.length/\L=pre++rest/\d∈pre/\(∀ x∈rest,¬ zc4 s x d)/\Same H H2/\H2 pr=some (.lst (zay pre)),⟨_,L,[],rfl,rfl,by simp,(hL d).mpr hm,(λ x hx=>by cases hx),s1,zab⟩,?_⟩
   rintro m σ H2 ⟨pre,rest,rfl,rfl,eq,hdp,hrest,s2,hr2⟩
   have hne:pre≠[]:=λ z=>by rw [z] at hdp; cases hdp
   obtain ⟨init,g,rfl⟩:∃ init g,pre=init++[g]:=⟨pre.dropLast,pre.getLast hne,(List.dropLast_concat_getLast hne).symm⟩
   have il:zay (init++[g])=zay init++[V.int (g:Int)]:=by unfold zay; rw [List.map_append]; rfl
   have hat:atI (zay (init++[g])) (-1)=some (V.int (g:Int)):=by
     rw [il]; exact zjw
   have hgL:g∈L:=by rw [eq]; simp
   have hgn:g < s.n:=fl g ((hL g).mp hgL)
   refine ⟨_,rfl,_,rfl,_,dx,_,rfl,s2 _ _ hp,rfl,_,rfl,_,rfl,_,_,_,_,rfl,rfl,SqL.of hr2,hat,ρ,ad,s,kv,g,rfl,hh.grow s2,c,sm,hgn,λ H3 pg gd m3 hg ndg hreg=>?_⟩
   have dg3:=DGet.k (k:=Sum.inl (d:Int)) hg
   refine ⟨_,_,rfl,dg3,_,rfl,?_⟩
   refine zeC (!decide (d∈gd)) (by rw [zfs]) ?_
   have hr3:=m3 _ _ hr2
   have s3:=s2.trans m3
   by_cases hgd:d∈gd
   . refine zaO (by simp [hgd]) ?_
     refine ⟨_,rfl,_,rfl,_,_,_,_,rfl,rfl,SqL.of hr3,hat,?_⟩
     have:=q H3 s3
     rw [RG.2 g ((zdi c hd0).mp ((hre g).mp ((hL g).mp hgL))) ((zdi c hd0).mp ((hreg d).mp hgd)) λ x h1 h2=>?_] at this
     . exact this
     . have hx:x∈L:=(hL x).mpr ((hre x).mpr ((zdi c hd0).mpr h1))
       rw [eq] at hx
       rcases List.mem_append.mp hx with hx | hx
       . rw [eq] at sL
         have sp:=(List.pairwise_append.mp sL).1
         rcases List.mem_append.mp hx with hx | hx
         . exact Nat.le_of_lt ((List.pairwise_append.mp sp).2.2 x hx g (by simp))
         . rw [List.mem_singleton.mp hx]; exact Nat.le_refl _
       . exact absurd ((zdi c hd0).mpr h2) (hrest x hx)
   . refine zby (by simp [hgd]) ?_
     have hgd2:¬ zc4 s g d:=λ z=>hgd ((hreg d).mpr z)
     refine ⟨λ σ' H'=>∃ pre' rest',σ'=[some (.ref (ad .hall)),some (.int d),some (.ref pf),some (.ref pr)]/\pre'.length < (init++[g]).length/\L=pre'++rest'/\d∈pre'/\(∀ x∈rest',¬ zc4 s x d)/\Same H H'/\H' pr=some (.lst (zay pre')),λ σ' H' ⟨pre',rest',e,lt,a1,a2,a3,a4,a5⟩=>⟨_,lt,pre',rest',e,rfl,a1,a2,a3,a4,a5⟩,?_⟩
     have hlast:(zay (init++[g]))[(zay (init++[g])).length - 1]?=some (V.int (g:Int)):=by
       rw [il]; simp
     refine ⟨_,rfl,.inl ⟨rfl,_,SqL.of hr3⟩,pr,_,_,rfl,rfl,hr3,hlast,?_⟩
     have hdrop:(zay (init++[g])).dropLast=zay init:=by rw [il,List.dropLast_concat]
     rw [hdrop]
     refine ⟨init,g::rest,rfl,by simp,by rw [eq]; simp,?_,?_,λ b o e=>by rw [zae (frm b o e)]; exact s3 b o e,zab⟩
     . rcases List.mem_append.mp hdp with z | z
       . exact z
       . rw [<-List.mem_singleton.mp z] at hgd2; exact absurd hdd hgd2
     . intro x hx
       rcases List.mem_cons.mp hx with rfl | hx
       . exact hgd2
       . exact hrest x hx
theorem zkf (T:Txt K mg A F):FnOk P w K mg base (CX1 P w) 2 (F.f 24) (F.fd 24) ["self","deed"] (zr2 A):=by
 have G_Record_written:=@zdf P w K mg base A F T
 refine T.zl8.okN zd0 (λ vs H Q E h=>?_) (λ cdv A' outer s H vs Q E hr h=>?_)
 . obtain ⟨ρ,ad,s,kv,d,rfl,_⟩:=h
   rfl
 . obtain ⟨ρ,ad,s,kv,d,rfl,hh,sm,hd,hks,q⟩:=h
   have hu:=zeg hr
   obtain ⟨dx,hp⟩:=hh.hall
   obtain ⟨wv,ra,_⟩:=hh.recAt hd
   obtain ⟨dr,hrc⟩:=ra.ob
   refine ⟨_,(zah (zeA PassesOwn.never rfl (zdv (zcX (zaL zbu (zap (pv 0) rfl) (pv 1) (λ _ _=>rfl)) T.zav T.zdH G_Record_written (hmr hr) T.zdN .nil zaK)) (zmv (n:=2) rfl (zbW (zaU (i:=2) zd0.nd rfl (by walk_at "loc")) (zbW (zaU (i:=3) zd0.nd rfl (by walk_at "loc")) zg3))) (zah (zbC (zgf (zon hu (pv 2) (zap (pv 0) rfl))) (zah (zd8 hu (zap (pv 0) rfl) (pv 2) (zeY hu (zap (pv 0) rfl) (pv 2) (λ _ _=>rfl)) rfl)) (zah (zaG (zmx (zap (pv 0) rfl) (pv 2) zgg ⟨rfl,rfl,rfl,rfl⟩))))))),?_⟩
   refine ⟨_,rfl,_,_,dx,_,_,rfl,hp,T.zam,T.zaA,rfl,_,rfl,_,_,_,_,rfl,rfl,SqL.of hh.recs,zbm (hh.zfh hd),_,dr,_,rfl,hrc,rfl,_,_,_,_,_,rfl,ra,by have:=sm.dn d; omega,λ H1 ql us m1 hq tu=>⟨ql,rfl,⟨_,SqL.of hq⟩,?_⟩⟩
   have hul:us.length=(zar (s.deed d).done).length:=by rw [tu.length,List.length_map]
   refine zft (xs:=us) (λ i σ H2=>∃ v2 v3,σ=[some (.ref (ad .hall)),some (.int d),v2,v3]/\zai A ρ ad { s with book:=ub kv s.book (((zar (s.deed d).done).take i).map (·.1)) } kv H2/\Frame ρ H ρ H2/\H2 ql=some (.lst us)/\zao H2 us ((zar (s.deed d).done).map zew)) ⟨_,_,rfl,hh.grow m1,Frame.grow m1,hq,tu⟩ (λ i σ H2 _ ⟨_,_,_,_,_,e,_⟩=>SqL.of e) ?_ ?_
   . rintro i x σ H2 hx ⟨v2,v3,rfl,h2,f2,hq2,t2⟩
     obtain ⟨y,hy1,r,rfl,hr1⟩:=zbV t2 hx
     rw [List.getElem?_map] at hy1
     obtain ⟨⟨k,v⟩,ha,rfl⟩:=Option.map_eq_some_iff.mp hy1
     have e1:(zar (s.deed d).done).take (i+1)=(zar (s.deed d).done).take i++[(k,v)]:=by rw [List.take_add_one,ha]; rfl
     obtain ⟨dx2,hp2⟩:=h2.hall
     obtain ⟨l,hl,hb⟩:=h2.zco
     have hb:zbn l (ub kv s.book (((zar (s.deed d).done).take i).map (·.1))):=hb
     obtain ⟨lk,hlk,hbk⟩:=h2.zdb
     have dg:=DGet.k (k:=Sum.inr k) hlk
     rw [hbk.val] at dg
     have hll:l.length<=4:=Nat.le_trans (hb.len sm.snd λ j hj=>by
      unfold ub at hj
      by_cases z:j∈((zar (s.deed d).done).take i).map (·.1)
      . rw [if_pos z] at hj; exact hks j hj
      . rw [if_neg z] at hj; exact sm.bs j hj) sm.seen
     have step:∀ (H3:Hp) (l3:List (Str×Int)),H3 (ad .zco)=some (.dK (bkV l3))->zcv H2 (ad .zco) H3->zbn l3 (up (ub kv s.book (((zar (s.deed d).done).take i).map (·.1))) k (kv k))->∃ v2 v3,[some (.ref (ad .hall)),some (.int d),some (V.str k),some (V.int v)]=[some (.ref (ad .hall)),some (.int (d:Int)),v2,v3]/\zai A ρ ad { s with book:=ub kv s.book (((zar (s.deed d).done).take (i+1)).map (·.1)) } kv H3/\Frame ρ H ρ H3/\H3 ql=some (.lst us)/\zao H3 us ((zar (s.deed d).done).map zew):=λ H3 l3 e3 k3 b3=>by
      obtain ⟨h3,f3⟩:=h2.zmp T.ok e3 k3 b3
      refine ⟨_,_,rfl,?_,f2.trans f3,k3 _ _ hq2 (za2 hq2 hl (λ z=>nomatch z)),zao.mono (Imm.zfU T.ok h2 (r:=.zco) trivial k3) t2⟩
      rw [e1,List.map_append]
      rw [zqS] at h3
      exact h3
     refine ⟨r,_,rfl,SqT.of hr1,rfl,_,_,rfl,_,_,rfl,rfl,?_⟩
     refine ⟨_,rfl,_,rfl,_,_,dx2,_,_,rfl,hp2,T.zam,T.zbr,rfl,_,_,rfl,dg,_,rfl,?_⟩
     cases hkv:kv k with
     | some u =>
      rw [hkv] at dg
      refine zby rfl ?_
      refine ⟨_,rfl,_,_,dx2,_,_,rfl,hp2,T.zam,T.zbr,rfl,_,rfl,_,_,rfl,dg,_,rfl,_,_,dx2,_,_,rfl,hp2,T.zam,T.zbv,rfl,_,rfl,_,_,rfl,DPut.k (k:=Sum.inr k) hl (by rw [zhG,sizeLine_eq]; omega),?_⟩
      rw [zhF]
      refine step _ _ zab (λ b o e hb=>by rw [zae hb]; exact e) ?_
      rw [hkv]
      exact hb.put k u
     | none =>
      refine zaO rfl ?_
      refine ⟨_,rfl,_,_,dx2,_,_,rfl,hp2,T.zam,T.zbv,rfl,_,rfl,.inl ⟨_,.of hl⟩,_,rfl,_,Sum.inr k,hl,rfl,λ v hv=>?_,λ hv=>?_⟩
      . rw [zqj]
        refine step _ _ zab (λ b o e hb=>by rw [zae hb]; exact e) ?_
        rw [hkv]
        exact hb.drop k
      . refine step _ _ hl (λ b o e _=>e) ?_
        rw [hkv]
        refine hb.zo8 ?_
        rw [hb.val] at hv
        simpa using hv
   . rintro σ H2 ⟨v2,v3,rfl,h2,f2,_⟩
     rw [hul,List.take_length,znP] at h2
     exact q H2 h2 f2
theorem zhX (T:Txt K mg A F):FnOk P w K mg base (CX1 P w) 4 (F.f 29) (F.fd 29) ["self","key"] (zq2 A):=by
 have G_Desk_lets_first:=@zfk P w K mg base A F T
 have G_Hall_carry_out:=@zdg P w K mg base A F T
 refine T.zjD.okN zc5 (λ vs H Q E h=>?_) (λ cdv A' outer s H vs Q E hr h=>?_)
 . obtain ⟨ρ,ad,s,kv,k,T,rfl,_⟩:=h
   rfl
 . obtain ⟨ρ,ad,s,kv,k,T0,rfl,hh,c,L,hk,q⟩:=h
   have hu:=zeg hr
   obtain ⟨dx,hp⟩:=hh.hall
   refine ⟨_,(zac (zaI (i:=2) zc5.nd rfl (by walk_at "loc") (zeY hu (zap (pv 0) rfl) (pv 1) (λ _ _=>rfl)))
    (zah (zgD PassesOwn.never (zj3 (zcX (pv 2) T.zaS T.zfS G_Desk_lets_first (hmr hr) T.zf7 .nil zaK)) (zac (zaI (i:=3) zc5.nd rfl (by walk_at "loc") (zdy PySem.F.plainAttrs_list PySem.F.slot_list_pop PySem.F.type_list_pop zpV (zap (pv 2) rfl) (zaa zak zad)))
    (zah (zaG (zaD (pv 0) T.zam T.zdI G_Hall_carry_out (hmr hr) T.zdO .nil zaK (zaa (zaL zaZ (pv 3) zak (λ _ _=>rfl)) (zaa (zap (zaL zbu (zap (pv 0) rfl) (zaL zaZ (pv 3) zak (λ _ _=>rfl)) (λ _ _=>rfl)) rfl) zad))))))))),?_⟩
   refine ⟨_,rfl,_,_,dx,_,_,rfl,hp,T.zam,T.zbs,rfl,_,rfl,_,_,rfl,hh.zfw hk,?_⟩
   refine ⟨λ m σ H2=>∃ t v3,σ=[some (.ref (ad .hall)),some (.str k),some (.ref (ad (.desk k))),v3]/\m=(t.rows k).length/\zai A ρ ad t kv H2/\Frame ρ H ρ H2/\Core t none/\Lim t T0/\t.seen=s.seen/\zbz (s.rows k).length s k=zbz (t.rows k).length t k,⟨_,s,none,rfl,rfl,hh,.refl,c,L,rfl,rfl⟩,?_⟩
   rintro m σ H2 ⟨t,v3,rfl,rfl,h2,f2,c2,L2,es,eg⟩
   have hk2:k∈t.seen:=by rw [es]; exact hk
   have sm:=L2.sm c2
   have D:=h2.desk hk2
   obtain ⟨dd,hdk⟩:=D.ob
   refine ⟨_,rfl,_,dd,_,rfl,hdk,rfl,_,_,_,_,_,rfl,D,sm.hl k,sm.hn k,λ H3 m3=>?_⟩
   refine ⟨_,rfl,?_⟩
   cases hrw:t.rows k with
   | nil =>
    refine zaO rfl (q H3 ?_ (f2.trans (Frame.grow m3)))
    rw [eg,zfr hrw]; exact h2.grow m3
   | cons pr r =>
    obtain ⟨d,w'⟩:=pr
    cases hlt:lets (t.held k) d w' with
    | false =>
     refine zaO hlt (q H3 ?_ (f2.trans (Frame.grow m3)))
     rw [eg,zer hrw hlt]; exact h2.grow m3
    | true =>
     refine zby hlt ?_
     have h3:=h2.grow m3
     have D3:=h3.desk hk2
     obtain ⟨us,hus,tus⟩:=D3.rw
     obtain ⟨dd3,hdk3⟩:=D3.ob
     rw [hrw] at tus
     obtain ⟨u0,us',rfl,⟨pp,rfl,hpp⟩,tus'⟩:∃ u0 us',us=u0::us'/\TupAt H3 u0 (zch (d,w'))/\zao H3 us' (r.map zch):=by
       cases tus with
       | cons a b=>exact ⟨_,_,rfl,a,b⟩
     have kp4:zcv H3 (ad (.row k)) (upd H3 (ad (.row k)) (.lst us')):=λ b o e hb=>by rw [zae hb]; exact e
     have im4:=Imm.zfU T.ok h3 (r:=.row k) hk2 kp4
     obtain ⟨h4,f4⟩:=h3.zqp T.ok hk2 (r:=r) zab kp4 (zao.mono im4 tus')
     have hpp4:=im4.tup _ _ hpp
     refine ⟨λ σ' H'=>∃ t' v3,σ'=[some (.ref (ad .hall)),some (.str k),some (.ref (ad (.desk k))),v3]/\(t'.rows k).length < ((d,w')::r).length/\zai A ρ ad t' kv H'/\Frame ρ H ρ H'/\Core t' none/\Lim t' T0/\t'.seen=s.seen/\zbz (s.rows k).length s k=zbz (t'.rows k).length t' k,λ σ' H' ⟨t',v3,e,lt,a1,a2,a3,a4,a5,a6⟩=>⟨_,lt,t',v3,e,rfl,a1,a2,a3,a4,a5,a6⟩,?_⟩
     refine ⟨_,rfl,_,_,dd3,_,_,rfl,hdk3,T.zaS,T.za0,rfl,.inl ⟨rfl,_,SqL.of hus⟩,ad (.row k),_,0,0,_,rfl,rfl,hus,by decide,by decide,(zoO (n:=(V.ref pp::us').length) (i:=0) (j:=0) (by unfold ixN; rw [if_pos (by decide),if_pos (by simp)]; rfl)).1,rfl,?_⟩
     show tSeq _ _ _ _ (upd H3 (ad (.row k)) (.lst us'))
     generalize upd H3 (ad (.row k)) (.lst us')=H4 at *
     have hm:(d,w')∈t.rows k:=by rw [hrw]; exact List.mem_cons_self
     obtain ⟨hst,a,ha,hak,haw⟩:=c2.rAct k _ hm
     have hdn:d < t.n:=c2.lt (.inr hst)
     obtain ⟨dr,wv,hr4,hw4⟩:=h4.rcd hdn
     obtain ⟨dx4,hp4⟩:=h4.hall
     have hwo:wantOf (t.deed d)=some a:=by
       have hst:(t.deed d).st=.waiting:=hst
       unfold wantOf; rw [if_pos hst]; exact ha
     have hw4:zcu A H4 wv (wantOf (t.deed d)):=hw4
     rw [hwo] at hw4
     have sm4:Sm { t with rows:=up t.rows k r }:=⟨sm.n,sm.seen,sm.snd,sm.dn,sm.lg,sm.kp,sm.hl,sm.hn,(λ j=>by
       show (up t.rows k r j).length<=1000
       by_cases z:j=k
       . subst z; rw [zag]; have:=sm.rl j; rw [hrw,List.length_cons] at this; omega
       . rw [zan z]; exact sm.rl j),sm.bs⟩
     refine ⟨_,rfl,_,dx4,_,rfl,hp4,rfl,_,rfl,pp,_,_,_,rfl,rfl,SqT.of hpp4,rfl,_,rfl,_,_,dx4,_,_,rfl,hp4,T.zam,T.zaA,rfl,_,rfl,pp,_,_,_,rfl,rfl,SqT.of hpp4,rfl,_,_,_,_,rfl,rfl,SqL.of h4.recs,zbm (h4.zfh hdn),_,_,dr,_,_,rfl,hr4,T.zav,T.za4,rfl,ρ,ad,_,kv,d,wv,a,rfl,h4,sm4,hdn,by rw [hak]; exact hk2,hw4,λ H5 h5 f5=>?_⟩
     have hak:a.key=k:=hak
     have haw:a.wr=w':=haw
     rw [hak,haw,<-znx c2 hrw] at h5
     have e1:zbz 1 t k=doIt (take { t with rows:=up t.rows k r } d k w') d a:=by
       rw [zes hrw hlt ha]; rfl
     rw [<-e1] at h5
     have er:(zbz 1 t k).rows k=r:=by
       rw [e1,zcR]; exact zag
     obtain ⟨g1,g2⟩:=znw (k:=k) (f:=1) c2
     refine ⟨zbz 1 t k,_,rfl,?_,h5,((f2.trans (Frame.grow m3)).trans f4).trans f5,c2.zbz,⟨Ext.zbz L2.e c2,L2.t,by rw [g2]; exact L2.n,by rw [g1]; exact L2.sn⟩,by rw [g1]; exact es,?_⟩
     . rw [er,List.length_cons]; omega
     . rw [eg,er,e1,hrw,List.length_cons,zes hrw hlt ha]
theorem zg8 (T:Txt K mg A F):FnOk P w K mg base (CX1 P w) 5 (F.f 30) (F.fd 30) ["self","deed","state"] (zs8 A):=by
 have G_Record_touched_keys:=@zdR P w K mg base A F T
 have G_Desk_leave:=@zi6 P w K mg base A F T
 have G_Hall_let_on:=@zhX P w K mg base A F T
 refine T.znL.okN zcN (λ vs H Q E h=>?_) (λ cdv A' outer s H vs Q E hr h=>?_)
 . obtain ⟨ρ,ad,s,s0,kv,d,st,T0,rfl,_⟩:=h
   rfl
 . obtain ⟨ρ,ad,s,s0,kv,d,st,T0,rfl,hh,c0,L0,hd0,e1,e2,e3,e4,e5,c1,L1,hst,hd,q⟩:=h
   have hu:=zeg hr
   obtain ⟨dx,hp⟩:=hh.hall
   obtain ⟨wv,ra,hw⟩:=hh.recAt hd
   obtain ⟨dr,hrc⟩:=ra.ob
   have sm0:=L0.sm c0
   have ek:(s.deed d).done.map (·.key)++zcV (wantOf (s.deed d))=touched s0 d:=by rw [zgo]; unfold touched; rw [e1]
   have hts:∀ k∈touched s0 d,k∈s.seen:=λ k hk=>by rw [e4]; exact zdY c0 L0.e k hk
   have hlen:(ordS (touched s0 d)).length<=4:=Nat.le_trans (zpS _ s0.seen (zdY c0 L0.e) L0.e.snd) L0.sn
   refine ⟨_,(zac (zaI (i:=3) zcN.nd rfl (by walk_at "loc") (zaL zbu (zap (pv 0) rfl) (pv 1) (λ _ _=>rfl)))
     (zac (zaI (i:=4) zcN.nd rfl (by walk_at "loc") (zcX (pv 3) T.zav T.zeb G_Record_touched_keys (hmr hr) T.zek .nil zaK))
     (zac (zbQ (pv 3) (pv 2) rfl)
     (zac (zbQ (pv 3) zgg rfl)
     (zac (zeA PassesOwn.never rfl (zg1 (pv 4)) (zaU (i:=5) zcN.nd rfl (by walk_at "loc")) (zah (zaG (zaD (zeY hu (zap (pv 0) rfl) (pv 5) (λ _ _=>rfl)) T.zaS T.zks G_Desk_leave (hmr hr) T.zkY .nil zaK (zaa (pv 1) zad)))))
     (zah (zeA PassesOwn.never rfl (zg1 (pv 4)) (zaU (i:=5) zcN.nd rfl (by walk_at "loc")) (zah (zaG (zaD (pv 0) T.zam T.zjc G_Hall_let_on (hmr hr) T.zjt .nil zaK (zaa (pv 5) zad))))))))))),?_⟩
   refine ⟨_,rfl,_,_,dx,_,_,rfl,hp,T.zam,T.zaA,rfl,_,rfl,_,_,_,_,rfl,rfl,SqL.of hh.recs,zbm (hh.zfh hd),?_⟩
   refine ⟨_,rfl,_,dr,_,rfl,hrc,rfl,_,_,_,_,_,_,rfl,ra,hw,by have:=sm0.dn d; rw [e1]; omega,by rw [ek]; omega,λ H1 qt nq m1 hq=>?_⟩
   rw [ek] at hq
   have h1:=hh.grow m1
   refine ⟨_,rfl,_,rfl,_,_,dr,_,rfl,m1 _ _ hrc,T.zav,T.zaz,Nat.le_of_ble_eq_true rfl,_,rfl,_,_,dr,_,rfl,zab,T.zav,T.za4,Nat.le_of_ble_eq_true rfl,?_⟩
   rw [ziK]
   have kp2:zcv H1 (ad (.rcd d)) (upd H1 (ad (.rcd d)) (.ins A.zaB dr (recF st (ad (.did d)) .non))):=λ b o e hb=>by rw [zae hb]; exact e
   obtain ⟨h2,f2⟩:=h1.zn9 (H':=upd H1 (ad (.rcd d)) (.ins A.zaB dr (recF st (ad (.did d)) .non))) T.ok hd (D:={ s.deed d with st:=st }) (w:=.non) zab kp2 (by unfold wantOf; rw [if_neg hst]; rfl) rfl
   have hq2:=(Imm.zfU T.ok h1 (r:=.rcd d) hd kp2).tup _ _ hq
   have f02:=(Frame.grow (ρ:=ρ) m1).trans f2
   have ro0:ρ qt=.other:=hh.fr _ nq
   show tSeq _ _ _ _ (upd H1 (ad (.rcd d)) (.ins A.zaB dr (recF st (ad (.did d)) .non)))
   generalize upd H1 (ad (.rcd d)) (.ins A.zaB dr (recF st (ad (.did d)) .non))=H2 at *
   have h2:zai A ρ ad (zfd s d st) kv H2:=h2
   refine ⟨_,rfl,qt,rfl,⟨_,SqT.of hq2⟩,?_⟩
   refine zlK (xs:=(ordS (touched s0 d)).map V.str) (λ i σ H'=>∃ ρ' ad' v5,σ=[some (.ref (ad .hall)),some (.int d),some (.str (stS st)),some (.ref (ad (.rcd d))),some (.ref qt),v5]/\ad' Role.hall=ad .hall/\zai A ρ' ad' (((ordS (touched s0 d)).take i).foldl (λ s k=>zec s d k) (zfd s d st)) kv H'/\Frame ρ H ρ' H'/\H' qt=some (.tup ((ordS (touched s0 d)).map V.str))/\ρ' qt=.other) ⟨ρ,ad,_,rfl,rfl,h2,f02,hq2,ro0⟩ (λ i σ H' _ ⟨_,_,_,_,_,_,_,e,_⟩=>SqT.of e) ?_ ?_
   . rintro i x σ H3 hx ⟨ρ3,ad3,v5,rfl,ea,h3,f3,hq3,ro3⟩
     rw [List.getElem?_map] at hx
     obtain ⟨k,hk,rfl⟩:=Option.map_eq_some_iff.mp hx
     have e6:(ordS (touched s0 d)).take (i+1)=(ordS (touched s0 d)).take i++[k]:=by rw [List.take_add_one,hk]; rfl
     have hks:k∈s.seen:=hts k (zbh.mp (List.mem_of_getElem? hk))
     have hks3:k∈(((ordS (touched s0 d)).take i).foldl (λ s k=>zec s d k) (zfd s d st)).seen:=by rw [ze4]; exact hks
     obtain ⟨dx3,hp3⟩:=h3.hall
     have D:=h3.desk hks3
     obtain ⟨dd,hdk⟩:=D.ob
     rw [<-ea]
     refine ⟨_,rfl,_,_,dx3,_,_,rfl,hp3,T.zam,T.zbs,rfl,_,rfl,_,_,rfl,h3.zfw hks3,_,dd,_,rfl,hdk,rfl,_,rfl,_,_,_,dd,_,_,d,rfl,D,hdk,?_,λ H4 rw' us n0 a1 a2 a3 a4 a5=>?_⟩
     . rw [(zfo d _ _).2]
       show (if k∈(ordS (touched s0 d)).take i then less (s.rows k) d else s.rows k).length<=1000
       have:=sm0.rl k
       rw [e3]
       split
       . exact Nat.le_trans (List.length_filter_le _ _) this
       . exact this
     . obtain ⟨ρ4,ad4,ea4,h4,f4⟩:=h3.leave T.ok hks3 n0 a1 a2 a3 a4 a5
       refine ⟨ρ4,ad4,_,by rw [ea]; rfl,by rw [ea4],?_,f3.trans f4,(f4 _ _ hq3 ro3).1,(f4 _ _ hq3 ro3).2⟩
       rw [e6,List.foldl_append]; exact h4
   . rintro σ H3 ⟨ρ3,ad3,v5,rfl,ea,h3,f3,hq3,ro3⟩
     rw [List.length_map,List.take_length,zkw λ k hk=>?_] at h3
     rotate_left
     . have:=zhd (d:=d) (k:=k) c0 L0.e λ z=>hk (zbh.mpr z)
       show less (s.held k) d=s.held k/\less (s.rows k) d=s.rows k
       rw [e2,e3]; exact this
     have ef:free ordS (zfd s d st) d=zaF (letGo (zfd s d st) d) (ordS (touched s0 d)):=zkG ordS zpR c0 L0.e hd0 c1 e2 e3 e4
     refine ⟨_,rfl,qt,rfl,⟨_,SqT.of hq3⟩,?_⟩
     refine zlK (xs:=(ordS (touched s0 d)).map V.str) (λ i σ H'=>∃ v5,σ=[some (.ref (ad .hall)),some (.int d),some (.str (stS st)),some (.ref (ad (.rcd d))),some (.ref qt),v5]/\zai A ρ3 ad3 (zaF (letGo (zfd s d st) d) ((ordS (touched s0 d)).take i)) kv H'/\Frame ρ H ρ3 H'/\H' qt=some (.tup ((ordS (touched s0 d)).map V.str))) ⟨_,rfl,h3,f3,hq3⟩ (λ i σ H' _ ⟨_,_,_,_,e⟩=>SqT.of e) ?_ ?_
     . rintro i x σ H4 hx ⟨v5,rfl,h4,f4,hq4⟩
       rw [List.getElem?_map] at hx
       obtain ⟨k,hk,rfl⟩:=Option.map_eq_some_iff.mp hx
       have e6:(ordS (touched s0 d)).take (i+1)=(ordS (touched s0 d)).take i++[k]:=by rw [List.take_add_one,hk]; rfl
       have hks:k∈s.seen:=hts k (zbh.mp (List.mem_of_getElem? hk))
       obtain ⟨dx4,hp4⟩:=h4.hall
       have c4:Core (zaF (letGo (zfd s d st) d) ((ordS (touched s0 d)).take i)) none:=Core.zaF c1
       have s4:=zdA ((ordS (touched s0 d)).take i) (letGo (zfd s d st) d) c1
       have n4:=zjj ((ordS (touched s0 d)).take i) (letGo (zfd s d st) d) c1
       rw [<-ea]
       refine ⟨_,rfl,_,dx4,_,rfl,hp4,rfl,_,rfl,ρ3,ad3,_,kv,k,T0,rfl,h4,c4,⟨L1.e.zaF c1,L1.t,by rw [n4]; exact L1.n,by rw [s4]; exact L1.sn⟩,by rw [s4]; exact hks,λ H5 h5 f5=>⟨_,by rw [ea]; rfl,?_,f4.trans f5,(f5 _ _ hq4 ro3).1⟩⟩
       rw [e6,ziz]; exact h5
     . rintro σ H4 ⟨v5,rfl,h4,f4,hq4⟩
       rw [List.length_map,List.take_length,<-ef] at h4
       exact q H4 ρ3 ad3 ea h4 f4
theorem zgj (T:Txt K mg A F):FnOk P w K mg base (CX1 P w) 6 (F.f 31) (F.fd 31) ["self","deed"] (zr8 A):=by
 have G_Hall_undo:=@zkf P w K mg base A F T
 have G_Hall_end:=@zg8 P w K mg base A F T
 refine T.zmc.okN zjY (λ vs H Q E h=>?_) (λ cdv A' outer s H vs Q E hr h=>?_)
 . obtain ⟨ρ,ad,s,d,T0,rfl,_⟩:=h
   rfl
 . obtain ⟨ρ,ad,s,d,T0,rfl,hh,c,L,hd0,hact,q⟩:=h
   have hd:=c.lt hact
   have sm:=L.sm c
   obtain ⟨dx,hp⟩:=hh.hall
   obtain ⟨us,hus,tus⟩:=hh.rows
   have hul:us.length=s.log.length:=by rw [tus.length,List.length_map]
   refine ⟨_,(zac (zaG (zdy PySem.F.plainAttrs_list PySem.F.slot_list_append PySem.F.type_list_append zbl (zap (pv 0) rfl) (zaa (zbk (zaa (zcF rfl T.zo0) (zaa (pv 1) zad))) zad)))
     (zac (zaG (zaD (pv 0) T.zam T.zlw G_Hall_undo (hmr hr) T.zlS .nil zaK (zaa (pv 1) zad)))
     (zah (zaG (zaD (pv 0) T.zam T.zit G_Hall_end (hmr hr) T.ziI .nil zaK (zaa (pv 1) (zaa (zcF rfl T.zf3) zad))))))),?_⟩
   refine ⟨_,rfl,_,_,dx,_,_,rfl,hp,T.zam,T.zb2,rfl,.inl ⟨rfl,_,SqL.of hus⟩,_,rfl,sz2,λ n nn=>⟨ad .rows,_,_,rfl,rfl,zaj hus nn,by have:=sm.lg; rw [hul,sizeLine_eq]; omega,?_⟩⟩
   have h3:=hh.grow (H':=upd H n (.tup [V.str "give up",V.int (d:Int)])) (Same.zaq nn)
   obtain ⟨h4,f4⟩:=h3.zm1 (H':=upd (upd H n (.tup [V.str "give up",V.int (d:Int)])) (ad .rows) (.lst (us++[.ref n]))) T.ok (row:=.drop d) (zaj hus nn) zab (λ b o e hb=>by rw [zae hb]; exact e) ⟨n,rfl,by rw [zae (zaf hus nn).symm,zab]; rfl⟩
   have f04:=(Frame.grow (ρ:=ρ) (Same.zaq (o:=.tup [V.str "give up",V.int (d:Int)]) nn)).trans f4
   show tSeq _ _ _ _ (upd (upd H n (.tup [V.str "give up",V.int (d:Int)])) (ad .rows) (.lst (us++[.ref n])))
   generalize upd (upd H n (.tup [V.str "give up",V.int (d:Int)])) (ad .rows) (.lst (us++[.ref n]))=H4 at *
   obtain ⟨dx4,hp4⟩:=h4.hall
   refine ⟨_,rfl,_,dx4,_,rfl,hp4,rfl,_,rfl,ρ,ad,_,zau s,d,rfl,h4,⟨sm.n,sm.seen,sm.snd,sm.dn,?_,sm.kp,sm.hl,sm.hn,sm.rl,sm.bs⟩,hd,L.e.zp4,λ H5 h5 f5=>?_⟩
   . show (s.log++[_]).length<=3000
     have:=L.e.lg; have:=L.t
     rw [List.length_append,List.length_singleton]; omega
   . obtain ⟨dx5,hp5⟩:=h5.hall
     refine ⟨_,rfl,_,dx5,_,rfl,hp5,rfl,_,rfl,ρ,ad,_,s,zau s,d,.dropped,T0,rfl,h5,c,L,hd0,rfl,rfl,rfl,rfl,rfl,c.drops hact,L.drops c hact,by decide,hd,λ H6 ρ6 ad6 ea6 h6 f6=>q H6 ρ6 ad6 ea6 h6 ((f04.trans f5).trans f6)⟩
theorem zke (T:Txt K mg A F):FnOk P w K mg base (CX1 P w) 7 (F.f 32) (F.fd 32) ["self","deed","want"] (zr1 A):=by
 have G_Desk_line_up:=@zhc P w K mg base A F T
 have G_Hall_greatest_all_round:=@zcT P w K mg base A F T
 have G_Hall_drop:=@zgj P w K mg base A F T
 refine T.zl7.okN zcW (λ vs H Q E h=>?_) (λ cdv A' outer s H vs Q E hr h=>?_)
 . obtain ⟨ρ,ad,s,d,a,wv,T0,rfl,_⟩:=h
   rfl
 . obtain ⟨ρ,ad,s,d,a,wv,T0,rfl,hh,hk,⟨pw,dw,rfl,hw⟩,hd,sm,c1,hh1,th1,L1,q⟩:=h
   have hu:=zeg hr
   obtain ⟨dx,hp⟩:=hh.hall
   obtain ⟨dr,w0,hrc,_⟩:=hh.rcd hd
   refine ⟨_,(zac (zaI (i:=3) zcW.nd rfl (by walk_at "loc") (zaL zbu (zap (pv 0) rfl) (pv 1) (λ _ _=>rfl)))
    (zac (zbQ (pv 3) (zcF rfl T.zkF) rfl)
    (zac (zbQ (pv 3) (pv 2) rfl)
    (zac (zaG (zaD (zeY hu (zap (pv 0) rfl) (zap (pv 2) rfl) (λ _ _=>rfl)) T.zaS T.zh2 G_Desk_line_up (hmr hr) T.zh8 .nil zaK (zaa (pv 1) (zaa (zap (pv 2) rfl) zad))))
    (zac (zaI (i:=4) zcW.nd rfl (by walk_at "loc") (zaD (pv 0) T.zam T.zbT G_Hall_greatest_all_round (hmr hr) T.zbU .nil zaK (zaa (pv 1) zad)))
    (zah (zgD PassesOwn.never (zgf (zom (pv 4))) (zac (zaG (zaD (pv 0) T.zam T.zhg G_Hall_drop (hmr hr) T.zhJ .nil zaK (zaa (pv 4) zad)))
    (zah (zaI (i:=4) zcW.nd rfl (by walk_at "loc") (zaD (pv 0) T.zam T.zbT G_Hall_greatest_all_round (hmr hr) T.zbU .nil zaK (zaa (pv 1) zad)))))))))))),?_⟩
   refine ⟨_,rfl,_,_,dx,_,_,rfl,hp,T.zam,T.zaA,rfl,_,rfl,_,_,_,_,rfl,rfl,SqL.of hh.recs,zbm (hh.zfh hd),?_⟩
   refine ⟨_,rfl,_,_,dr,_,rfl,hrc,T.zav,T.zaz,Nat.le_of_ble_eq_true rfl,_,rfl,_,rfl,_,_,dr,_,rfl,zab,T.zav,T.za4,Nat.le_of_ble_eq_true rfl,?_⟩
   rw [ziK]
   have kp2:zcv H (ad (.rcd d)) (upd H (ad (.rcd d)) (.ins A.zaB dr (recF .waiting (ad (.did d)) (.ref pw)))):=λ b o e hb=>by rw [zae hb]; exact e
   have im2:=Imm.zfU T.ok hh (r:=.rcd d) hd kp2
   have hw2:=im2.want _ _ _ hw
   obtain ⟨h2,f2⟩:=hh.zn9 (H':=upd H (ad (.rcd d)) (.ins A.zaB dr (recF .waiting (ad (.did d)) (.ref pw)))) T.ok hd (D:={ s.deed d with st:=.waiting,wish:=some a }) (w:=.ref pw) zab kp2 ⟨pw,dw,rfl,hw2⟩ rfl
   show tSeq _ _ _ _ (upd H (ad (.rcd d)) (.ins A.zaB dr (recF .waiting (ad (.did d)) (.ref pw))))
   generalize upd H (ad (.rcd d)) (.ins A.zaB dr (recF .waiting (ad (.did d)) (.ref pw)))=H2 at *
   obtain ⟨dx2,hp2⟩:=h2.hall
   have D:=h2.desk hk
   obtain ⟨dd,hdk⟩:=D.ob
   refine ⟨_,rfl,_,_,dx2,_,_,rfl,hp2,T.zam,T.zbs,rfl,_,rfl,pw,_,dw,_,_,rfl,hw2,T.za3,T.za9,rfl,_,_,rfl,h2.zfw hk,_,dd,_,rfl,hdk,rfl,_,rfl,_,rfl,pw,_,dw,_,_,rfl,hw2,T.za3,T.zbq,rfl,_,_,_,_,_,d,a.wr,rfl,D,sm.rl _,λ H3 us a1 a2 a3=>?_⟩
   obtain ⟨h3,f3⟩:=h2.zqp T.ok hk a1 a3 a2
   have h3:zai A ρ ad (wait s d a) (zau s) H3:=h3
   obtain ⟨dx3,hp3⟩:=h3.hall
   refine ⟨_,rfl,_,dx3,_,rfl,hp3,rfl,_,rfl,ρ,ad,_,zau s,d,rfl,h3,c1,hh1,th1,L1.sm c1,hd,λ H4 m4=>?_⟩
   refine ⟨λ m σ H'=>∃ t ρ' ad' f,σ=[some (.ref (ad .hall)),some (.int d),some (.ref pw),some (.ref (ad (.rcd d))),some (gotV (rings t).getLast?)]/\m=actN t/\ad' Role.hall=ad .hall/\zai A ρ' ad' t (zau s) H'/\Frame ρ H ρ' H'/\Core t none/\Head t/\Thru t d/\Lim t T0/\t.n=s.n/\zau t=zau s/\actN t<=f/\settle ordS s.n (wait s d a)=settle ordS f t,⟨_,wait s d a,ρ,ad,s.n,rfl,rfl,rfl,h3.grow m4,(f2.trans f3).trans (Frame.grow m4),c1,hh1,th1,L1,rfl,ziw,zpp _,rfl⟩,?_⟩
   rintro m σ H5 ⟨t,ρ5,ad5,f,rfl,rfl,ea,h5,f5,c5,hd5,th5,L5,en,ek,hf,es⟩
   refine ⟨_,rfl,_,rfl,?_⟩
   cases hg:(rings t).getLast? with
   | none =>
    refine zaO rfl (q H5 ρ5 ad5 ea ?_ f5)
    rw [es,zld ordS hg]; exact h5
   | some g =>
    refine zby rfl ?_
    have hga:(t.deed g).act:=.inr (zaJ (zbH (List.mem_of_getLast? hg)).2)
    have lt:=zkZ ordS c5 hga
    refine ⟨λ σ' H'=>∃ t' ρ' ad' f,σ'=[some (.ref (ad .hall)),some (.int d),some (.ref pw),some (.ref (ad (.rcd d))),some (gotV (rings t').getLast?)]/\actN t' < actN t/\ad' Role.hall=ad .hall/\zai A ρ' ad' t' (zau s) H'/\Frame ρ H ρ' H'/\Core t' none/\Head t'/\Thru t' d/\Lim t' T0/\t'.n=s.n/\zau t'=zau s/\actN t'<=f/\settle ordS s.n (wait s d a)=settle ordS f t',λ σ' H' ⟨t',ρ',ad',f,e,lt,r⟩=>⟨_,lt,t',ρ',ad',f,e,rfl,r⟩,?_⟩
    obtain ⟨dx5,hp5⟩:=h5.hall
    rw [<-ea]
    refine ⟨_,rfl,_,dx5,_,rfl,hp5,rfl,_,rfl,ρ5,ad5,t,g,T0,rfl,by rw [ek]; exact h5,c5,L5,hd5,hga,λ H6 ρ6 ad6 ea6 h6 f6=>?_⟩
    obtain ⟨dx6,hp6⟩:=h6.hall
    have c6:=c5.drop ordS hga
    have hd6:=Head.drop ordS (λ l k=>zbh) c5 hga
    have th6:=th5.mono (zm7 ordS c5 hga)
    have L6:=L5.drop c5 hga
    have n6:(drop ordS t g).n=s.n:=by rw [zko ordS c5 hga]; exact en
    rw [<-ea6]
    refine ⟨_,rfl,_,dx6,_,rfl,hp6,rfl,_,rfl,ρ6,ad6,_,zau t,d,rfl,h6,c6,hd6,th6,L6.sm c6,by rw [n6]; exact hd,λ H7 m7=>?_⟩
    obtain ⟨f',rfl⟩:∃ f',f=f'+1:=⟨f - 1,by omega⟩
    refine ⟨drop ordS t g,ρ6,ad6,f',by rw [ea6,ea]; rfl,lt,by rw [ea6,ea],by rw [<-ek]; exact h6.grow m7,(f5.trans f6).trans (Frame.grow m7),c6,hd6,th6,L6,n6,by rw [zfV ordS c5 hga]; exact ek,by omega,?_⟩
    rw [es,zlc ordS hg]
theorem zhY (T:Txt K mg A F):FnOk P w K mg base (CX1 P w) 1 (F.f 33) (F.fd 33) ["self","deed","want"] (zpD A):=by
 refine T.zjE.okN zex (λ vs H Q E h=>?_) (λ cdv A' outer s H vs Q E hr h=>?_)
 . obtain ⟨ρ,ad,s,kv,d,a,wv,rfl,_⟩:=h
   rfl
 . obtain ⟨ρ,ad,s,kv,d,a,wv,rfl,hh,⟨pw,dw,rfl,hw⟩,hd,did,q⟩:=h
   obtain ⟨dx,hp⟩:=hh.hall
   obtain ⟨dr,w0,hrc,_⟩:=hh.rcd hd
   obtain ⟨us,hus,tus⟩:=hh.did hd
   refine ⟨_,(zac (zaI (i:=3) zex.nd rfl (by walk_at "loc") (zaL zbu (zap (pv 0) rfl) (pv 1) (λ _ _=>rfl)))
    (zac (zbC (zax zb4 (zap (pv 3) rfl) (zcF rfl T.zf3) (zaC _)) (zah (zaw (zbk (zaa zaQ zad)))) zaR)
    (zac (zbC (zax zb4 (zap (pv 3) rfl) (zcF rfl T.zkF) (zaC _)) (zah (zaw (zbk (zaa zaQ zad)))) zaR)
    (zac (zbC (zax zb4 (zap (pv 2) rfl) (zcF rfl T.zdl) (zaC _)) (zah (zaw (zbk (zaa zaQ zad)))) zaR)
    (zah (zaw (zbk (zaa zaQ (zaa (zaL zaZ (zaL zbu (zap (pv 3) rfl) (zrl znS zak) (λ _ _=>rfl)) zak (λ _ _=>rfl)) zad))))))))),?_⟩
   refine ⟨_,rfl,_,_,dx,_,_,rfl,hp,T.zam,T.zaA,rfl,_,rfl,_,_,_,_,rfl,rfl,SqL.of hh.recs,zbm (hh.zfh hd),?_⟩
   refine ⟨_,rfl,_,_,dr,_,_,rfl,hrc,T.zav,T.zaz,rfl,rfl,_,rfl,?_⟩
   have nst:∀ (a b:DS),stS a≠stS b->decide (V.str (stS a)=V.str (stS b))=false:=λ a b h=>decide_eq_false λ z=>h (V.str.inj z)
   cases hst:(s.deed d).st with
   | dropped =>
    refine zby (decide_eq_true rfl) ⟨sz1,λ n nn=>q _ n nn (Same.zaq nn) ?_⟩
    rw [zab]; unfold ansV; rw [hst]
   | waiting =>
    refine zaO (nst .waiting .dropped (by decide +kernel)) ⟨_,rfl,_,_,dr,_,_,rfl,hrc,T.zav,T.zaz,rfl,rfl,_,rfl,?_⟩
    rw [hst]
    refine zby (decide_eq_true rfl) ⟨sz1,λ n nn=>q _ n nn (Same.zaq nn) ?_⟩
    rw [zab]; unfold ansV; rw [hst]
   | zas =>
    refine zaO (nst .zas .dropped (by decide +kernel)) ⟨_,rfl,_,_,dr,_,_,rfl,hrc,T.zav,T.zaz,rfl,rfl,_,rfl,?_⟩
    rw [hst]
    refine zaO (nst .zas .waiting (by decide +kernel)) ⟨_,rfl,pw,_,dw,_,_,rfl,hw,T.za3,T.zbq,rfl,rfl,_,rfl,?_⟩
    refine zeC a.wr (zgK a.wr) ?_
    have ea:ansV (s.deed d) a.wr=if a.wr then [V.str "done"] else [V.str "value",.int (zlA (s.deed d))]:=by unfold ansV; rw [hst]
    rw [ea] at q
    cases hwr:a.wr with
    | true =>
     rw [hwr] at q
     exact iteT ⟨sz1,λ n nn=>q _ n nn (Same.zaq nn) zab⟩
    | false =>
     rw [hwr] at q
     obtain ⟨init,b,eb⟩:∃ init b,(s.deed d).done=init++[b]:=by
      have hne:=did (.inl hst)
      exact ⟨_,_,(List.dropLast_concat_getLast hne).symm⟩
     have hul:us.length=init.length+1:=by rw [tus.length,List.length_map,eb]; simp
     obtain ⟨v,hv,pb,rfl,hpb⟩:=zdX tus (i:=init.length) (y:=actV b) (by rw [eb]; simp)
     have hat:atI us (-1)=some (V.ref pb):=by
      obtain ⟨ys,y,rfl⟩:∃ ys y,us=ys++[y]:=⟨us.dropLast,us.getLast (by intro z; rw [z] at hul; simp at hul),(List.dropLast_concat_getLast _).symm⟩
      have hl:ys.length=init.length:=by simpa using hul
      rw [zjw]
      rw [<-hl] at hv
      simpa using hv
     have el:zlA (s.deed d)=b.val:=by unfold zlA; rw [eb]; simp
     refine iteF ⟨_,rfl,_,_,dr,_,_,rfl,hrc,T.zav,T.zbg,rfl,_,rfl,_,_,_,_,rfl,rfl,SqL.of hus,hat,pb,_,_,_,rfl,rfl,SqT.of hpb,rfl,sz2,λ n nn=>q _ n nn (Same.zaq nn) ?_⟩
     rw [zab,el]; rfl
   | kept =>
    refine zaO (nst .kept .dropped (by decide +kernel)) ⟨_,rfl,_,_,dr,_,_,rfl,hrc,T.zav,T.zaz,rfl,rfl,_,rfl,?_⟩
    rw [hst]
    refine zaO (nst .kept .waiting (by decide +kernel)) ⟨_,rfl,pw,_,dw,_,_,rfl,hw,T.za3,T.zbq,rfl,rfl,_,rfl,?_⟩
    refine zeC a.wr (zgK a.wr) ?_
    have ea:ansV (s.deed d) a.wr=if a.wr then [V.str "done"] else [V.str "value",.int (zlA (s.deed d))]:=by unfold ansV; rw [hst]
    rw [ea] at q
    cases hwr:a.wr with
    | true =>
     rw [hwr] at q
     exact iteT ⟨sz1,λ n nn=>q _ n nn (Same.zaq nn) zab⟩
    | false =>
     rw [hwr] at q
     obtain ⟨init,b,eb⟩:∃ init b,(s.deed d).done=init++[b]:=by
      have hne:=did (.inr hst)
      exact ⟨_,_,(List.dropLast_concat_getLast hne).symm⟩
     have hul:us.length=init.length+1:=by rw [tus.length,List.length_map,eb]; simp
     obtain ⟨v,hv,pb,rfl,hpb⟩:=zdX tus (i:=init.length) (y:=actV b) (by rw [eb]; simp)
     have hat:atI us (-1)=some (V.ref pb):=by
      obtain ⟨ys,y,rfl⟩:∃ ys y,us=ys++[y]:=⟨us.dropLast,us.getLast (by intro z; rw [z] at hul; simp at hul),(List.dropLast_concat_getLast _).symm⟩
      have hl:ys.length=init.length:=by simpa using hul
      rw [zjw]
      rw [<-hl] at hv
      simpa using hv
     have el:zlA (s.deed d)=b.val:=by unfold zlA; rw [eb]; simp
     refine iteF ⟨_,rfl,_,_,dr,_,_,rfl,hrc,T.zav,T.zbg,rfl,_,rfl,_,_,_,_,rfl,rfl,SqL.of hus,hat,pb,_,_,_,rfl,rfl,SqT.of hpb,rfl,sz2,λ n nn=>q _ n nn (Same.zaq nn) ?_⟩
     rw [zab,el]; rfl
theorem zhb (T:Txt K mg A F):FnOk P w K mg base (CX1 P w) 8 (F.f 34) (F.fd 34) ["self","deed","want"] (zsb A):=by
 have G_Desk_init:=@zkk P w K mg base A F T
 have G_Desk_lets_at_once:=@zev P w K mg base A F T
 have G_Hall_carry_out:=@zdg P w K mg base A F T
 have G_Hall_wait:=@zke P w K mg base A F T
 have G_Hall_answer:=@zhY P w K mg base A F T
 refine T.znM.okN zgS (λ vs H Q E h=>?_) (λ cdv A' outer s H vs Q E hr h=>?_)
 . obtain ⟨ρ,ad,s,d,a,pw,dw,T0,rfl,_⟩:=h
   rfl
 . obtain ⟨ρ,ad,s,d,a,pw,dw,T0,rfl,hh,R,ht,h4,hst,hw,row,q⟩:=h
   have hu:=zeg hr
   obtain ⟨dx,hp⟩:=hh.hall
   refine ⟨_,(zac (zaI (i:=3) zgS.nd rfl (by walk_at "loc") (zpP (zap (pv 0) rfl) (zap (pv 2) rfl) (zi0 T.zrv G_Desk_init (hmr hr) rfl T.zsG T.zlX .nil zaK) ⟨rfl,rfl,rfl,rfl⟩))
     (zac (zbC (zj3 (zaD (pv 3) T.zaS T.ze2 G_Desk_lets_at_once (hmr hr) T.ze7 .nil zaK (zaa (pv 1) (zaa (zap (pv 2) rfl) zad)))) (zah (zaG (zaD (pv 0) T.zam T.zdI G_Hall_carry_out (hmr hr) T.zdO .nil zaK (zaa (pv 1) (zaa (pv 2) zad))))) (zah (zaG (zaD (pv 0) T.zam T.zlv G_Hall_wait (hmr hr) T.zlR .nil zaK (zaa (pv 1) (zaa (pv 2) zad))))))
     (zah (zaw (zaD (pv 0) T.zam T.zjd G_Hall_answer (hmr hr) T.zju .nil zaK (zaa (pv 1) (zaa (pv 2) zad))))))),?_⟩
   refine ⟨_,rfl,_,_,dx,_,_,rfl,hp,T.zam,T.zbs,rfl,ad .zbO,rfl,.inl ⟨_,.of hh.zbO⟩,_,rfl,pw,_,dw,_,_,rfl,hw,T.za3,T.za9,rfl,λ x dx2 nx ndx nex=>⟨x,dx2,rfl,zab,λ H1 hd rw nhd nrw e1 e2 e3 kp=>⟨rfl,?_⟩⟩⟩
   have s0:Same H (upd (upd H dx2 (.own x)) x (.ins A.zcb dx2 [])):=(Same.zaq ndx).upd2 (by rw [zae nex.symm]; exact nx)
   have s1:Same H H1:=λ b o e=>kp b o (s0 b o e) (zaf e nx)
   have hde:=s1 _ _ hh.zbO
   have ln:(zdL ad s.seen).length < sizeLine:=by have:=R.L.sn; unfold zdL; rw [List.length_map,sizeLine_eq]; omega
   refine ⟨_,Sum.inr a.key,hde,rfl,ln,λ v hv=>?_,λ hn=>?_⟩
   . rw [zej] at hv
     have hk:a.key∈s.seen:=by
      by_cases z:a.key∈s.seen
      . exact z
      . rw [if_neg z] at hv; cases hv
     rw [if_pos hk] at hv
     cases hv
     have es:see s a.key=s:=by unfold see; rw [if_pos hk]
     obtain ⟨H3,ρ3,ad3,eH,eρ,ea⟩:∃ H3 ρ3 ad3,H3=H1/\ρ3=ρ/\ad3=ad:=⟨_,_,_,rfl,rfl,rfl⟩
     have h3:zai A ρ3 ad3 (see s a.key) (zau s) H3:=by rw [es,eH,eρ,ea]; exact hh.grow s1
     have f03:Frame ρ H ρ3 H3:=by rw [eH,eρ]; exact Frame.grow s1
     have ea3:ad3 Role.hall=ad .hall:=by rw [ea]
     have edk:ad (.desk a.key)=ad3 (.desk a.key):=by rw [ea]
     rw [edk,<-eH]
     have hd:d < s.n:=R.c.lt (.inl hst)
     have sms:Sm (see s a.key):=Sm.see R h4 ht
     have hks:a.key∈(see s a.key).seen:=zb5
     have hw3:H3 pw=_:=(f03 _ _ hw row).1
     have ro3:ρ3 pw=.other:=(f03 _ _ hw row).2
     have D:=h3.desk hks
     obtain ⟨dd,hdk⟩:=D.ob
     refine ⟨_,rfl,_,dd,_,rfl,hdk,rfl,_,rfl,_,rfl,pw,_,dw,_,_,rfl,hw3,T.za3,T.zbq,rfl,_,_,_,_,_,d,a.wr,rfl,D,sms.hl _,sms.hn _,λ H4 m4=>⟨_,rfl,?_⟩⟩
     have h4':=h3.grow m4
     have f04:=f03.trans (Frame.grow m4)
     have hw4:=m4 _ _ hw3
     obtain ⟨dx4,hp4⟩:=h4'.hall
     have wf:=zcJ (a:=a) R hst
     have wp:=zgJ ordS (d:=d) (a:=a) R.c
     rw [<-ea3]
     cases hb:((has ((see s a.key).held a.key) d || ((see s a.key).rows a.key).isEmpty) && lets ((see s a.key).held a.key) d a.wr) with
     | true =>
      rw [hb,if_pos rfl] at wp
      rw [wp] at q wf
      refine iteT ⟨_,rfl,_,dx4,_,rfl,hp4,rfl,_,rfl,_,rfl,ρ3,ad3,_,zau s,d,.ref pw,a,rfl,h4',sms,hd,hks,⟨pw,dw,rfl,hw4⟩,λ H5 h5 f5=>?_⟩
      obtain ⟨dx5,hp5⟩:=h5.hall
      obtain ⟨hw5,ro5⟩:=f5 _ _ hw4 ro3
      refine ⟨_,rfl,_,dx5,_,rfl,hp5,rfl,_,rfl,_,rfl,ρ3,ad3,_,zau s,d,a,.ref pw,rfl,h5,⟨pw,dw,rfl,hw5⟩,by rw [wf.1]; exact hd,wf.2.2.2,λ H6 q6 n6 m6 e6=>q H6 ρ3 ad3 q6 ea3 (h5.grow m6) ((f04.trans f5).trans (Frame.grow m6)) e6 (h5.fr _ n6)⟩
     | false =>
      rw [hb,if_neg Bool.false_ne_true] at wp
      rw [wp] at q wf
      obtain ⟨c1,hh1,th1⟩:=zjx ordS (λ l k=>zbh) R.c R.h R.a hst hb
      refine iteF ⟨_,rfl,_,dx4,_,rfl,hp4,rfl,_,rfl,_,rfl,ρ3,ad3,see s a.key,d,a,.ref pw,T0+1,rfl,h4',hks,⟨pw,dw,rfl,hw4⟩,hd,sms,c1,hh1,th1,Lim.wait R hst h4 ht,λ H5 ρ5 ad5 ea5 h5 f5=>?_⟩
      obtain ⟨dx5,hp5⟩:=h5.hall
      obtain ⟨hw5,ro5⟩:=f5 _ _ hw4 ro3
      rw [<-ea5]
      refine ⟨_,rfl,_,dx5,_,rfl,hp5,rfl,_,rfl,_,rfl,ρ5,ad5,_,zau s,d,a,.ref pw,rfl,h5,⟨pw,dw,rfl,hw5⟩,?_,?_,λ H6 q6 n6 m6 e6=>q H6 ρ5 ad5 q6 (by rw [ea5,ea3]) (h5.grow m6) ((f04.trans f5).trans (Frame.grow m6)) e6 (h5.fr _ n6)⟩
      . have:=wf.1; show d < (settle ordS s.n (wait (see s a.key) d a)).n; rw [this]; exact hd
      . exact wf.2.2.2
   . rw [zej] at hn
     have hk:a.key∉s.seen:=λ z=>by rw [if_pos z] at hn; cases hn
     have es:see s a.key={ s with seen:=s.seen++[a.key] }:=by unfold see; rw [if_neg hk]
     have epk:putK (zdL ad s.seen) (Sum.inr a.key) (V.ref x)=zdL ad s.seen++[(Sum.inr a.key,V.ref x)]:=zmt _ (by rw [zej,if_neg hk])
     rw [epk]
     obtain ⟨g1,g2⟩:=R.c.zfe a.key hk
     have hxd:x≠ad .zbO:=(zaf hh.zbO nx).symm
     have hhd:hd≠ad .zbO:=(zaf (s0 _ _ hh.zbO) nhd).symm
     have hrd:rw≠ad .zbO:=(zaf (s0 _ _ hh.zbO) nrw).symm
     obtain ⟨ρ3,ad3,ea3,h3,f03,edk⟩:=hh.zrK (H':=upd H1 (ad .zbO) (.dK (zdL ad s.seen++[(Sum.inr a.key,V.ref x)]))) T.ok (k:=a.key) hk g1 g2 (p:=x) (hd:=hd) (rw:=rw) (dx:=dx2) nx (s0.free nhd) (s0.free nrw) zab (by rw [zae hxd]; exact e1) (by rw [zae hhd]; exact e2) (by rw [zae hrd]; exact e3) (λ b o e hb=>by rw [zae hb]; exact s1 b o e)
     rw [<-es] at h3
     generalize upd H1 (ad .zbO) (.dK (zdL ad s.seen++[(Sum.inr a.key,V.ref x)]))=H3 at *
     rw [<-edk]
     have hd:d < s.n:=R.c.lt (.inl hst)
     have sms:Sm (see s a.key):=Sm.see R h4 ht
     have hks:a.key∈(see s a.key).seen:=zb5
     have hw3:H3 pw=_:=(f03 _ _ hw row).1
     have ro3:ρ3 pw=.other:=(f03 _ _ hw row).2
     have D:=h3.desk hks
     obtain ⟨dd,hdk⟩:=D.ob
     refine ⟨_,rfl,_,dd,_,rfl,hdk,rfl,_,rfl,_,rfl,pw,_,dw,_,_,rfl,hw3,T.za3,T.zbq,rfl,_,_,_,_,_,d,a.wr,rfl,D,sms.hl _,sms.hn _,λ H4 m4=>⟨_,rfl,?_⟩⟩
     have h4':=h3.grow m4
     have f04:=f03.trans (Frame.grow m4)
     have hw4:=m4 _ _ hw3
     obtain ⟨dx4,hp4⟩:=h4'.hall
     have wf:=zcJ (a:=a) R hst
     have wp:=zgJ ordS (d:=d) (a:=a) R.c
     rw [<-ea3]
     cases hb:((has ((see s a.key).held a.key) d || ((see s a.key).rows a.key).isEmpty) && lets ((see s a.key).held a.key) d a.wr) with
     | true =>
      rw [hb,if_pos rfl] at wp
      rw [wp] at q wf
      refine iteT ⟨_,rfl,_,dx4,_,rfl,hp4,rfl,_,rfl,_,rfl,ρ3,ad3,_,zau s,d,.ref pw,a,rfl,h4',sms,hd,hks,⟨pw,dw,rfl,hw4⟩,λ H5 h5 f5=>?_⟩
      obtain ⟨dx5,hp5⟩:=h5.hall
      obtain ⟨hw5,ro5⟩:=f5 _ _ hw4 ro3
      refine ⟨_,rfl,_,dx5,_,rfl,hp5,rfl,_,rfl,_,rfl,ρ3,ad3,_,zau s,d,a,.ref pw,rfl,h5,⟨pw,dw,rfl,hw5⟩,by rw [wf.1]; exact hd,wf.2.2.2,λ H6 q6 n6 m6 e6=>q H6 ρ3 ad3 q6 ea3 (h5.grow m6) ((f04.trans f5).trans (Frame.grow m6)) e6 (h5.fr _ n6)⟩
     | false =>
      rw [hb,if_neg Bool.false_ne_true] at wp
      rw [wp] at q wf
      obtain ⟨c1,hh1,th1⟩:=zjx ordS (λ l k=>zbh) R.c R.h R.a hst hb
      refine iteF ⟨_,rfl,_,dx4,_,rfl,hp4,rfl,_,rfl,_,rfl,ρ3,ad3,see s a.key,d,a,.ref pw,T0+1,rfl,h4',hks,⟨pw,dw,rfl,hw4⟩,hd,sms,c1,hh1,th1,Lim.wait R hst h4 ht,λ H5 ρ5 ad5 ea5 h5 f5=>?_⟩
      obtain ⟨dx5,hp5⟩:=h5.hall
      obtain ⟨hw5,ro5⟩:=f5 _ _ hw4 ro3
      rw [<-ea5]
      refine ⟨_,rfl,_,dx5,_,rfl,hp5,rfl,_,rfl,_,rfl,ρ5,ad5,_,zau s,d,a,.ref pw,rfl,h5,⟨pw,dw,rfl,hw5⟩,?_,?_,λ H6 q6 n6 m6 e6=>q H6 ρ5 ad5 q6 (by rw [ea5,ea3]) (h5.grow m6) ((f04.trans f5).trans (Frame.grow m6)) e6 (h5.fr _ n6)⟩
      . have:=wf.1; show d < (settle ordS s.n (wait (see s a.key) d a)).n; rw [this]; exact hd
      . exact wf.2.2.2
theorem zkg (T:Txt K mg A F):FnOk P w K mg base (CX1 P w) 9 (F.f 36) (F.fd 36) ["self","deed","key"] (zr4 A):=by
 have G_Hall_refuse_unless_going:=@za8 P w K mg base A F T
 have G_Want_init:=@zgi P w K mg base A F T
 have G_Hall_ask:=@zhb P w K mg base A F T
 refine T.zl9.okX zjW (λ vs H Q E h=>?_) (λ cdv A' outer s H vs Q E hr h=>?_)
 . obtain ⟨ρ,ad,s,i,k,T0,rfl,_⟩:=h
   rfl
 . obtain ⟨ρ,ad,s,i,k,T0,rfl,hh,R,ht,h4,q⟩:=h
   obtain ⟨dx,hp⟩:=hh.hall
   have hn:s.n<=1000:=by have:=R.L.n; omega
   refine ⟨_,(zac (zaG (zaD (pv 0) T.zam T.zbd G_Hall_refuse_unless_going (hmr hr) T.zbe .nil zbR (zaa (pv 1) zad)))
     (zah (zaw (zaD (pv 0) T.zam T.ziu G_Hall_ask (hmr hr) T.ziJ .nil zaK (zaa (pv 1) (zaa (zok T.zoB G_Want_init (hmr hr) rfl T.zqI T.zhI .nil zaK (zaa (zcF rfl T.zoZ) (zaa (pv 2) (zaa zgg zad)))) zad)))))),?_⟩
   refine ⟨_,rfl,_,dx,_,rfl,hp,rfl,_,rfl,ρ,ad,s,zau s,i,rfl,hh,hn,?_⟩
   rcases q with ⟨d,rfl,hd,⟨hg,q⟩ | ⟨hg,q⟩⟩ | q
   rotate_left
   . exact .inl ⟨d,rfl,hd,.inr ⟨hg,q⟩⟩
   . exact .inr q
   refine .inl ⟨d,rfl,hd,.inl ⟨hg,?_⟩⟩
   refine ⟨_,rfl,_,dx,_,rfl,hp,rfl,_,rfl,_,rfl,λ x dx2 nx ndx nex=>⟨x,dx2,false,k,.non,rfl,zab,λ H1 e1 kp=>⟨rfl,?_⟩⟩⟩
   have s0:Same H (upd (upd H dx2 (.own x)) x (.ins A.zdU dx2 [])):=(Same.zaq ndx).upd2 (by rw [zae nex.symm]; exact nx)
   have s1:Same H H1:=λ b o e=>kp b o (s0 b o e) (zaf e nx)
   exact ⟨ρ,ad,s,d,⟨false,k,0⟩,x,dx2,T0,rfl,hh.grow s1,R,ht,h4,hg,e1,hh.fr _ nx,λ H' ρ' ad' q' a1 a2 a3 a4 a5=>q H' ρ' ad' q' a1 a2 ((Frame.grow s1).trans a3) a4 a5⟩
theorem zi4 (T:Txt K mg A F):FnOk P w K mg base (CX1 P w) 9 (F.f 37) (F.fd 37) ["self","deed","key","value"] (zq0 A):=by
 have G_Hall_refuse_unless_going:=@za8 P w K mg base A F T
 have G_Want_init:=@zgi P w K mg base A F T
 have G_Hall_ask:=@zhb P w K mg base A F T
 refine T.zk2.okX ziS (λ vs H Q E h=>?_) (λ cdv A' outer s H vs Q E hr h=>?_)
 . obtain ⟨ρ,ad,s,i,k,v,T0,rfl,_⟩:=h
   rfl
 . obtain ⟨ρ,ad,s,i,k,v,T0,rfl,hh,R,ht,h4,q⟩:=h
   obtain ⟨dx,hp⟩:=hh.hall
   have hn:s.n<=1000:=by have:=R.L.n; omega
   refine ⟨_,(zac (zaG (zaD (pv 0) T.zam T.zbd G_Hall_refuse_unless_going (hmr hr) T.zbe .nil zbR (zaa (pv 1) zad)))
     (zah (zaw (zaD (pv 0) T.zam T.ziu G_Hall_ask (hmr hr) T.ziJ .nil zaK (zaa (pv 1) (zaa (zok T.zoB G_Want_init (hmr hr) rfl T.zqI T.zhI .nil zaK (zaa (zcF rfl T.zdl) (zaa (pv 2) (zaa (pv 3) zad)))) zad)))))),?_⟩
   refine ⟨_,rfl,_,dx,_,rfl,hp,rfl,_,rfl,ρ,ad,s,zau s,i,rfl,hh,hn,?_⟩
   rcases q with ⟨d,rfl,hd,⟨hg,q⟩ | ⟨hg,q⟩⟩ | q
   rotate_left
   . exact .inl ⟨d,rfl,hd,.inr ⟨hg,q⟩⟩
   . exact .inr q
   refine .inl ⟨d,rfl,hd,.inl ⟨hg,?_⟩⟩
   refine ⟨_,rfl,_,dx,_,rfl,hp,rfl,_,rfl,_,rfl,_,rfl,λ x dx2 nx ndx nex=>⟨x,dx2,true,k,.int v,rfl,zab,λ H1 e1 kp=>⟨rfl,?_⟩⟩⟩
   have s0:Same H (upd (upd H dx2 (.own x)) x (.ins A.zdU dx2 [])):=(Same.zaq ndx).upd2 (by rw [zae nex.symm]; exact nx)
   have s1:Same H H1:=λ b o e=>kp b o (s0 b o e) (zaf e nx)
   exact ⟨ρ,ad,s,d,⟨true,k,v⟩,x,dx2,T0,rfl,hh.grow s1,R,ht,h4,hg,e1,hh.fr _ nx,λ H' ρ' ad' q' a1 a2 a3 a4 a5=>q H' ρ' ad' q' a1 a2 ((Frame.grow s1).trans a3) a4 a5⟩
theorem zg7 (T:Txt K mg A F):FnOk P w K mg base (CX1 P w) 7 (F.f 40) (F.fd 40) ["self","deed"] (zpA A):=by
 have G_Hall_record_of:=@zcj P w K mg base A F T
 have G_Record_is_at_end:=@ze1 P w K mg base A F T
 have G_Hall_drop:=@zgj P w K mg base A F T
 refine T.zh9.okX zgQ (λ vs H Q E h=>?_) (λ cdv A' outer s H vs Q E hr h=>?_)
 . obtain ⟨ρ,ad,s,i,T0,rfl,_⟩:=h
   rfl
 . obtain ⟨ρ,ad,s,i,T0,rfl,hh,R,q⟩:=h
   obtain ⟨dx,hp⟩:=hh.hall
   have hn:s.n<=1000:=by have:=R.L.n; omega
   refine ⟨_,(zac (zbC (zj3 (zcX (zaD (pv 0) T.zam T.zcB G_Hall_record_of (hmr hr) T.zcD .nil zbR (zaa (pv 1) zad)) T.zav T.zfm G_Record_is_at_end (hmr hr) T.zfA .nil zaK)) (zah (ziX zgY rfl rfl T.zf2 T.zie PySem.F.excBase_ValueError (zaa zaQ zad))) zaR)
     (zah (zaG (zaD (pv 0) T.zam T.zhg G_Hall_drop (hmr hr) T.zhJ .nil zaK (zaa (pv 1) zad))))),?_⟩
   refine ⟨_,rfl,_,dx,_,rfl,hp,rfl,_,rfl,ρ,ad,s,zau s,i,rfl,hh,hn,?_⟩
   rcases q with ⟨d,rfl,hd,q⟩ | q
   rotate_left
   . exact .inr q
   obtain ⟨dr,w0,hrc,_⟩:=hh.rcd hd
   refine .inl ⟨d,rfl,hd,_,dr,_,rfl,hrc,rfl,_,dr,_,_,_,rfl,hrc,_,rfl,?_⟩
   rcases q with ⟨ha,q⟩ | ⟨ha,q⟩
   . refine zaO (decide_eq_false λ z=>?_) ⟨_,rfl,_,dx,_,rfl,hp,rfl,_,rfl,ρ,ad,s,d,T0,rfl,hh,R.c,R.L,R.h,ha,λ H' ρ' ad' a1 a2 a3=>q H' ρ' ad' a1 (by rw [zfV ordS R.c ha]; exact a2) a3⟩
     rcases ha with ha | ha <;> rw [ha] at z <;> rcases z with z | z <;> cases z
   . refine zby (decide_eq_true ?_) ⟨Nat.le_of_ble_eq_true rfl,q⟩
     cases e:(s.deed d).st with
     | zas=>exact absurd (.inl e) ha
     | waiting=>exact absurd (.inr e) ha
     | kept=>exact .inl rfl
     | dropped=>exact .inr rfl
theorem zg9 (T:Txt K mg A F):FnOk P w K mg base (CX1 P w) 3 (F.f 46) (F.fd 46) ["self","deed"] (zpB A):=by
 have G_Hall_record_of:=@zcj P w K mg base A F T
 refine T.zia.okX zgR (λ vs H Q E h=>?_) (λ cdv A' outer s H vs Q E hr h=>?_)
 . obtain ⟨ρ,ad,s,kv,i,rfl,_⟩:=h
   rfl
 . obtain ⟨ρ,ad,s,kv,i,rfl,hh,hn,hl,q⟩:=h
   obtain ⟨dx,hp⟩:=hh.hall
   refine ⟨_,(zah (zaw (zcr zdB (by rfl) T.zlp boot_tuple (zaa (zap (zaD (pv 0) T.zam T.zcB G_Hall_record_of (hmr hr) T.zcD .nil zbR (zaa (pv 1) zad)) rfl) zad)))),?_⟩
   refine ⟨_,rfl,_,dx,_,rfl,hp,rfl,_,rfl,ρ,ad,s,kv,i,rfl,hh,hn,?_⟩
   rcases q with ⟨d,rfl,hd,q⟩ | q
   rotate_left
   . exact .inr q
   obtain ⟨dr,w0,hrc,_⟩:=hh.rcd hd
   obtain ⟨us,hus,tus⟩:=hh.did hd
   exact .inl ⟨d,rfl,hd,_,_,dr,_,_,rfl,hrc,T.zav,T.zbg,rfl,ad (.did d),_,rfl,.inl ⟨SqL.of hus,λ n nn=>q _ n us (Same.zaq nn) zab (zaH (Same.zaq nn) tus)⟩⟩
theorem zkh (T:Txt K mg A F):FnOk P w K mg base (CX1 P w) 6 (F.f 38) (F.fd 38) ["self","deed"] (zr7 A):=by
 have G_Hall_refuse_unless_going:=@za8 P w K mg base A F T
 have G_Record_written:=@zdf P w K mg base A F T
 have G_Hall_end:=@zg8 P w K mg base A F T
 refine T.zma.okX zd1 (λ vs H Q E h=>?_) (λ cdv A' outer s H vs Q E hr h=>?_)
 . obtain ⟨ρ,ad,s,i,T0,rfl,_⟩:=h
   rfl
 . obtain ⟨ρ,ad,s,i,T0,rfl,hh,R,q⟩:=h
   have hu:=zeg hr
   obtain ⟨dx,hp⟩:=hh.hall
   have hn:s.n<=1000:=by have:=R.L.n; omega
   have sm:=R.L.sm R.c
   obtain ⟨us,hus,tus⟩:=hh.rows
   have hul:us.length=s.log.length:=by rw [tus.length,List.length_map]
   refine ⟨_,(zac (zaG (zaD (pv 0) T.zam T.zbd G_Hall_refuse_unless_going (hmr hr) T.zbe .nil zbR (zaa (pv 1) zad)))
     (zac (zaG (zdy PySem.F.plainAttrs_list PySem.F.slot_list_append PySem.F.type_list_append zbl (zap (pv 0) rfl) (zaa (zbk (zaa (zcF rfl T.zsE) (zaa (pv 1) zad))) zad)))
     (zac (zaG (zdy PySem.F.plainAttrs_list PySem.F.slot_list_append PySem.F.type_list_append zbl (zap (pv 0) rfl) (zaa (pv 1) zad)))
     (zac (PS.nox (zeA PassesOwn.never rfl (zdv (zcX (zaL zbu (zap (pv 0) rfl) (pv 1) (λ _ _=>rfl)) T.zav T.zdH G_Record_written (hmr hr) T.zdN .nil zaK)) (zmv (n:=2) rfl (zbW (zaU (i:=2) zd1.nd rfl (by walk_at "loc")) (zbW (zaU (i:=3) zd1.nd rfl (by walk_at "loc")) zg3))) (zah (zd8 hu (zap (pv 0) rfl) (pv 2) (pv 3) rfl))))
     (zah (zaG (zaD (pv 0) T.zam T.zit G_Hall_end (hmr hr) T.ziI .nil zaK (zaa (pv 1) (zaa (zcF rfl T.zqJ) zad))))))))),?_⟩
   refine ⟨_,rfl,_,dx,_,rfl,hp,rfl,_,rfl,ρ,ad,s,zau s,i,rfl,hh,hn,?_⟩
   rcases q with ⟨d,rfl,hd,⟨hg,q⟩ | ⟨hg,q⟩⟩ | q
   rotate_left
   . exact .inl ⟨d,rfl,hd,.inr ⟨hg,q⟩⟩
   . exact .inr q
   refine .inl ⟨d,rfl,hd,.inl ⟨hg,?_⟩⟩
   have hact:(s.deed d).act:=.inl hg
   refine ⟨_,rfl,_,_,dx,_,_,rfl,hp,T.zam,T.zb2,rfl,.inl ⟨rfl,_,SqL.of hus⟩,_,rfl,sz2,λ n nn=>⟨ad .rows,_,_,rfl,rfl,zaj hus nn,by have:=sm.lg; rw [hul,sizeLine_eq]; omega,?_⟩⟩
   have h3:=hh.grow (H':=upd H n (.tup [V.str "keep",V.int (d:Int)])) (Same.zaq nn)
   obtain ⟨h4,f4⟩:=h3.zm1 (H':=upd (upd H n (.tup [V.str "keep",V.int (d:Int)])) (ad .rows) (.lst (us++[.ref n]))) T.ok (row:=.keep d) (zaj hus nn) zab (λ b o e hb=>by rw [zae hb]; exact e) ⟨n,rfl,by rw [zae (zaf hus nn).symm,zab]; rfl⟩
   have f04:=(Frame.grow (ρ:=ρ) (Same.zaq (o:=.tup [V.str "keep",V.int (d:Int)]) nn)).trans f4
   show tSeq _ _ _ _ (upd (upd H n (.tup [V.str "keep",V.int (d:Int)])) (ad .rows) (.lst (us++[.ref n])))
   generalize upd (upd H n (.tup [V.str "keep",V.int (d:Int)])) (ad .rows) (.lst (us++[.ref n]))=H4 at *
   obtain ⟨dx4,hp4⟩:=h4.hall
   have ho4:H4 (ad .order)=some (.lst (zay s.kept)):=h4.order
   have hlk:(zay s.kept).length<=1000:=by unfold zay; rw [List.length_map]; exact sm.kp
   refine ⟨_,rfl,_,_,dx4,_,_,rfl,hp4,T.zam,T.zcY,rfl,.inl ⟨rfl,_,SqL.of ho4⟩,_,rfl,ad .order,_,_,rfl,rfl,ho4,by rw [sizeLine_eq]; omega,?_⟩
   obtain ⟨h5,f5⟩:=h4.zql (H':=upd H4 (ad .order) (.lst (zay s.kept++[V.int (d:Int)]))) T.ok (d:=d) zab (λ b o e hb=>by rw [zae hb]; exact e)
   have f05:=f04.trans f5
   show tSeq _ _ _ _ (upd H4 (ad .order) (.lst (zay s.kept++[V.int (d:Int)])))
   generalize upd H4 (ad .order) (.lst (zay s.kept++[V.int (d:Int)]))=H5 at *
   obtain ⟨dx5,hp5⟩:=h5.hall
   obtain ⟨wv,ra,_⟩:=h5.recAt hd
   obtain ⟨dr,hrc⟩:=ra.ob
   refine ⟨_,rfl,_,_,dx5,_,_,rfl,hp5,T.zam,T.zaA,rfl,_,rfl,_,_,_,_,rfl,rfl,SqL.of h5.recs,zbm (h5.zfh hd),_,dr,_,rfl,hrc,rfl,_,_,_,_,_,rfl,ra,by show (s.deed d).done.length < 3000; have:=sm.dn d; omega,λ H1 ql vs m1 hq tu=>⟨ql,rfl,⟨_,SqL.of hq⟩,?_⟩⟩
   have tu:zao H1 vs ((zar (s.deed d).done).map zew):=tu
   have hvl:vs.length=(zar (s.deed d).done).length:=by rw [tu.length,List.length_map]
   refine zft (xs:=vs) (λ i σ H2=>∃ v2 v3,σ=[some (.ref (ad .hall)),some (.int d),v2,v3]/\zai A ρ ad { s with log:=s.log++[.keep d],kept:=s.kept++[d] } (wb (zau s) ((zar (s.deed d).done).take i)) H2/\Frame ρ H ρ H2/\H2 ql=some (.lst vs)/\zao H2 vs ((zar (s.deed d).done).map zew)) ⟨_,_,rfl,h5.grow m1,f05.trans (Frame.grow m1),hq,tu⟩ (λ i σ H2 _ ⟨_,_,_,_,_,e,_⟩=>SqL.of e) ?_ ?_
   . rintro i x σ H2 hx ⟨v2,v3,rfl,h2,f2,hq2,t2⟩
     obtain ⟨y,hy1,r,rfl,hr1⟩:=zbV t2 hx
     rw [List.getElem?_map] at hy1
     obtain ⟨⟨k,v⟩,ha,rfl⟩:=Option.map_eq_some_iff.mp hy1
     have e1:(zar (s.deed d).done).take (i+1)=(zar (s.deed d).done).take i++[(k,v)]:=by rw [List.take_add_one,ha]; rfl
     obtain ⟨dx2,hp2⟩:=h2.hall
     obtain ⟨lk,hlk,hbk⟩:=h2.zdb
     have hll:lk.length<=4:=Nat.le_trans (hbk.len sm.snd λ j hj=>by
      rcases znN hj with hj | hj
      . exact R.L.e.zp4 j hj
      . refine zgI R.L.e (d:=d) ?_
        obtain ⟨p,hp,rfl⟩:=List.mem_map.mp hj
        exact List.mem_map.mpr ⟨p,List.mem_of_mem_take hp,rfl⟩) sm.seen
     refine ⟨r,_,rfl,SqT.of hr1,rfl,_,_,rfl,_,_,rfl,rfl,?_⟩
     refine ⟨_,rfl,_,rfl,_,_,dx2,_,_,rfl,hp2,T.zam,T.zbr,rfl,_,rfl,_,_,rfl,DPut.k (k:=Sum.inr k) hlk (by rw [zhG,sizeLine_eq]; omega),?_⟩
     rw [zhF]
     have kp3:zcv H2 (ad .zdb) (upd H2 (ad .zdb) (.dK (bkV (bput lk k v)))):=λ b o e hb=>by rw [zae hb]; exact e
     obtain ⟨h3,f3⟩:=h2.zpF T.ok zab kp3 (hbk.put k v)
     refine ⟨_,_,rfl,?_,f2.trans f3,kp3 _ _ hq2 (za2 hq2 hlk (λ z=>nomatch z)),zao.mono (Imm.zfU T.ok h2 (r:=.zdb) trivial kp3) t2⟩
     rw [e1,zqO]; exact h3
   . rintro σ H2 ⟨v2,v3,rfl,h2,f2,_⟩
     rw [hvl,List.take_length,zk5] at h2
     obtain ⟨dx2,hp2⟩:=h2.hall
     refine ⟨_,rfl,_,dx2,_,rfl,hp2,rfl,_,rfl,ρ,ad,_,s,_,d,.kept,T0,rfl,h2,R.c,R.L,R.h,rfl,rfl,rfl,rfl,rfl,R.c.keeps hact,R.L.keeps R.c hact,by decide,hd,λ H6 ρ6 ad6 ea6 h6 f6=>q H6 ρ6 ad6 ea6 ?_ (f2.trans f6)⟩
     rw [zns ordS R.c hact]; exact h6
theorem ze0 (T:Txt K mg A F):FnOk P w K mg base (CX1 P w) 1 (F.f 1) (F.fd 1) ["_law_cell_here","_law_prime","_law_many"] zs5:=by
 refine T.znI.okN zlg (λ vs H Q E h=>?_) (λ cdv A' outer s H vs Q E hr h=>?_)
 . obtain ⟨c,p,m,rfl,_⟩:=h
   rfl
 . obtain ⟨c,p,m,rfl,hp,hm,q⟩:=h
   refine ⟨_,(zah (zaw (zcE zka (zcE zka (zcE zj9 (pv 0) zak) (pv 1)) (pv 2)))),?_⟩
   exact ⟨_,rfl,_,_,rfl,rfl,.inr ⟨by decide,by decide⟩,_,rfl,_,_,rfl,rfl,hp,_,rfl,_,_,rfl,rfl,hm,q⟩
theorem zea (T:Txt K mg A F):FnOk P w K mg base (CX1 P w) 1 (F.f 2) (F.fd 2) ["_law_script","_law_k"] (zr9 K):=by
 refine T.zl3.okN zjT (λ vs H Q E h=>?_) (λ cdv A' outer s H vs Q E hr h=>?_)
 . obtain ⟨a,ns,k,rfl,_⟩:=h
   rfl
 . obtain ⟨a,ns,k,rfl,hS,q⟩:=h
   refine ⟨_,(zac (zbC (zax zll (pv 1) (zbf za5 (by rfl) T.zhZ PySem.boot_len (zaa (pv 0) zad)) (zaC _)) (zah (zaw (zaL zbu (pv 0) (pv 1) (λ _ _=>rfl)))) zaR)
     (zah (zaw zak))),?_⟩
   refine ⟨_,rfl,_,rfl,a,_,rfl,.inl hS,_,_,rfl,rfl,_,rfl,?_⟩
   rw [List.length_map]
   by_cases h:k < ns.length
   . refine zby (decide_eq_true (by omega)) ⟨_,rfl,_,rfl,a,_,_,_,rfl,rfl,hS,zbm (by rw [List.getElem?_map,List.getElem?_eq_getElem h]; rfl),?_⟩
     have:za7 ns k=ns[k]:=by unfold za7; rw [List.getD_eq_getElem?_getD,List.getElem?_eq_getElem h]; rfl
     rw [this] at q; exact q
   . refine zaO (decide_eq_false (by omega)) ?_
     have:za7 ns k=0:=by unfold za7; rw [List.getD_eq_getElem?_getD,List.getElem?_eq_none (by omega)]; rfl
     rw [this] at q; exact q
theorem zhV (T:Txt K mg A F):FnOk P w K mg base (CX1 P w) 2 (F.f 3) (F.fd 3) ["_law_script","_law_k"] spNo :=
 T.zf9.okN zbp (λ vs H Q E h=>h.elim) (λ cdv A' outer s H vs Q E hr h=>h.elim)
theorem zkb (T:Txt K mg A F):FnOk P w K mg base (CX1 P w) 3 (F.f 3) (F.fd 3) ["_law_script","_law_k"] (zr6 K):=by
 have G__law_mix:=@ze0 P w K mg base A F T
 have G__law_cell:=@zea P w K mg base A F T
 have G__law_key:=@zhV P w K mg base A F T
 refine T.zf9.okN zbp (λ vs H Q E h=>?_) (λ cdv A' outer s H vs Q E hr h=>?_)
 . obtain ⟨a,ns,k,rfl,_⟩:=h
   rfl
 . obtain ⟨a,ns,k,rfl,hS,hk,q⟩:=h
   refine ⟨_,(zac (zaI (i:=2) zbp.nd rfl (by walk_at "loc") zaQ)
     (zac (zaI (i:=3) zbp.nd rfl (by walk_at "loc") (zcE zgh (zaV G__law_cell (hmr hr) rfl T.zcl T.zck T.zcm .nil zaK (zaa (pv 0) (zaa zak zad))) (zcE zj9 zak (pv 1))))
     (zac (zaI (i:=4) zbp.nd rfl (by walk_at "loc") (zdy PySem.F.plainAttrs_str PySem.F.slot_str_join PySem.F.type_str_join zoz zaQ (zaa (zd9 1 [2,3] ["_law_j","_law_letters","_law_seed"] rfl (by walk_at "blk") (zg2 rfl T.zlq (zaa (zaV G__law_mix (hmr hr) rfl T.zbM T.zbL T.zbN .nil zaK (zaa (pv 3) (zaa zak (zaa zak zad)))) zad)) (λ C fp s H=>(zaU (i:=0) (show (["_law_j","_law_letters","_law_seed"]:List Str).Nodup by decide +kernel) rfl (by walk_at "loc"))) (λ C fp s H=>ziW) (λ C fp s H=>(zaL zmM (pv 1) (zaV G__law_mix (hmr hr) rfl T.zbM T.zbL T.zbN .nil zaK (zaa (zcE zgh (pv 2) (zcE zj9 zak (pv 0))) (zaa zak (zaa zak zad)))) (λ _ _=>rfl)))) zad)))
     (zac (zbC (PW.pt (zms (zax zb4 (pv 1) zak (zaC _)) (ziV (zax zb4 (zcE zka (zaV G__law_cell (hmr hr) rfl T.zcl T.zck T.zcm .nil zaK (zaa (pv 0) (zaa zak zad))) zak) zak (zaC _))))) (zah (zaw (zaL zbu (zcq (zaa zaQ (zaa zaQ zad))) (zcr zfz (by rfl) T.znp boot_int (zaa (zdx zb4 (zaV G__law_key (hmr hr) rfl T.zf1 T.zfX T.zf6 .nil zaK (zaa (pv 0) (zaa zak zad))) zaQ (zaC _)) zad)) (λ _ _=>rfl)))) zaR)
     (zah (zaw (zcE zin (zaL zmM zaQ (pv 1) (λ _ _=>rfl)) (pv 4)))))))),?_⟩
   refine ⟨_,rfl,a,ns,0,rfl,hS,_,rfl,_,_,rfl,rfl,.inl ⟨by decide,by decide⟩,_,_,rfl,rfl,?_⟩
   obtain ⟨t0,t1⟩:=zir (c:=za7 ns 0+7 * (k:Int)) (p:=9967) (m:=4) (by decide)
   refine ⟨rfl,_,rfl,_,_,_,rfl,by decide,by decide,_,rfl,by omega,by omega,?_⟩
   refine ziD (λ i ys σ H2=>∃ v0,σ=[v0,some (.str abc),some (.int (za7 ns 0+7 * (k:Int)))]/\H2=H/\ys=((List.range i).map λ (j:Nat)=>pick abc (mixF (za7 ns 0+7 * (k:Int)+5 * (j:Int)) 9973 26).toNat).map V.str) ⟨none,rfl,rfl,rfl⟩ (λ i ys σ H2 ⟨_,_,_,e⟩=>by rw [e,List.length_map,List.length_map,List.length_range]; exact Nat.le_refl _) (by rw [sizeLine_eq]; omega) ?_ ?_
   . rintro i ys σ H2 hlt ⟨v0,rfl,rfl,rfl⟩
     obtain ⟨u0,u1⟩:=zir (c:=za7 ns 0+7 * (k:Int)+5 * (0+(i:Int))) (p:=9973) (m:=26) (by decide)
     have hsz:abc.cps.size=26:=by decide +kernel
     obtain ⟨c,hc,hp⟩:=ziZ (l:=abc) (i:=(mixF (za7 ns 0+7 * (k:Int)+5 * (0+(i:Int))) 9973 26).toNat) (by rw [hsz]; omega)
     rw [show (((mixF (za7 ns 0+7 * (k:Int)+5 * (0+(i:Int))) 9973 26).toNat:Nat):Int)=mixF (za7 ns 0+7 * (k:Int)+5 * (0+(i:Int))) 9973 26 by omega] at hc
     refine ⟨_,rfl,_,rfl,_,rfl,_,_,rfl,rfl,.inl ⟨by decide,by decide⟩,_,_,rfl,rfl,_,_,_,rfl,by decide,by decide,_,_,c,rfl,rfl,by show abc.cps.size<=sizeLine; rw [hsz,sizeLine_eq]; decide,hc,nx hlt ⟨_,rfl,rfl,?_⟩⟩
     rw [List.range_succ,List.map_append,List.map_append]
     rw [show (0+(i:Int))=(i:Int) by omega] at hp
     rw [<-hp]; rfl
   rintro ys σ H2 ⟨v0,rfl,rfl,rfl⟩
   intro pt nt
   refine ⟨_,pt,zdp (za7 ns 0+7 * (k:Int)),rfl,rfl,zab,?_,?_⟩
   . rw [zmL]
     have h3:=zgB (za7 ns 0+7 * (k:Int))
     omega
   have s1:Same H2 (upd H2 pt (.lst ((zdp (za7 ns 0+7 * (k:Int))).map V.str))):=Same.zaq nt
   show tSeq _ _ _ _ (upd H2 pt (.lst ((zdp (za7 ns 0+7 * (k:Int))).map V.str)))
   generalize upd H2 pt (.lst ((zdp (za7 ns 0+7 * (k:Int))).map V.str))=H3 at *
   have last:∀ kf:Str,kf=zhm ns k->(∀ H',Same H2 H'->Q (.str kf) H')->tRet (tOp (λ x y H Q=>∃ i j,x=.str i/\y=.str j/\i.length+j.length<=sizeLine/\Q (.str (i++j)) H) (tOp rIxS (tC (.str "qrst")) (tVar 1)) (tVar 4)) { nx:=λ _ H'=>Q .non H',rt:=Q } [some (.ref a),some (.int k),some (.str "abcdefghijklmnopqrstuvwxyz"),some (.int (za7 ns 0+7 * (k:Int))),some (.str (Txt.join "" (zdp (za7 ns 0+7 * (k:Int)))))] H3:=λ kf ek q=>by
     have hsz:("qrst" : Str).cps.size=4:=by decide +kernel
     obtain ⟨c,hc,hp⟩:=ziZ (l := "qrst") (i:=k) (by rw [hsz]; omega)
     refine ⟨_,rfl,_,_,c,rfl,rfl,by show ("qrst" : Str).cps.size<=sizeLine; rw [hsz,sizeLine_eq]; decide,hc,_,rfl,_,_,rfl,rfl,?_,?_⟩
     . have h3:=zgB (za7 ns 0+7 * (k:Int))
       have h4:=zkB (zdp (za7 ns 0+7 * (k:Int)))
       have h5:(⟨#[c]⟩:Str).length=1:=rfl
       rw [sizeLine_eq]; omega
     . have:=q H3 s1
       rw [ek] at this
       unfold zhm at this
       rw [hp] at this
       exact this
   refine ⟨_,rfl,rfl,_,rfl,?_⟩
   refine zaO (decide_eq_false λ z=>by have:=V.int.inj z; omega) (last _ rfl q)
theorem zln (T:Txt K mg A F):FnOk P w K mg base (CX1 P w) 4 (F.f 3) (F.fd 3) ["_law_script","_law_k"] (zs7 K):=by
 have G__law_mix:=@ze0 P w K mg base A F T
 have G__law_cell:=@zea P w K mg base A F T
 have G__law_key:=@zkb P w K mg base A F T
 refine T.zf9.okN zbp (λ vs H Q E h=>?_) (λ cdv A' outer s H vs Q E hr h=>?_)
 . obtain ⟨a,ns,k,rfl,_⟩:=h
   rfl
 . obtain ⟨a,ns,k,rfl,hS,hk,q⟩:=h
   refine ⟨_,(zac (zaI (i:=2) zbp.nd rfl (by walk_at "loc") zaQ)
     (zac (zaI (i:=3) zbp.nd rfl (by walk_at "loc") (zcE zgh (zaV G__law_cell (hmr hr) rfl T.zcl T.zck T.zcm .nil zaK (zaa (pv 0) (zaa zak zad))) (zcE zj9 zak (pv 1))))
     (zac (zaI (i:=4) zbp.nd rfl (by walk_at "loc") (zdy PySem.F.plainAttrs_str PySem.F.slot_str_join PySem.F.type_str_join zoz zaQ (zaa (zd9 1 [2,3] ["_law_j","_law_letters","_law_seed"] rfl (by walk_at "blk") (zg2 rfl T.zlq (zaa (zaV G__law_mix (hmr hr) rfl T.zbM T.zbL T.zbN .nil zaK (zaa (pv 3) (zaa zak (zaa zak zad)))) zad)) (λ C fp s H=>(zaU (i:=0) (show (["_law_j","_law_letters","_law_seed"]:List Str).Nodup by decide +kernel) rfl (by walk_at "loc"))) (λ C fp s H=>ziW) (λ C fp s H=>(zaL zmM (pv 1) (zaV G__law_mix (hmr hr) rfl T.zbM T.zbL T.zbN .nil zaK (zaa (zcE zgh (pv 2) (zcE zj9 zak (pv 0))) (zaa zak (zaa zak zad)))) (λ _ _=>rfl)))) zad)))
     (zac (zbC (PW.pt (zms (zax zb4 (pv 1) zak (zaC _)) (ziV (zax zb4 (zcE zka (zaV G__law_cell (hmr hr) rfl T.zcl T.zck T.zcm .nil zaK (zaa (pv 0) (zaa zak zad))) zak) zak (zaC _))))) (zah (zaw (zaL zbu (zcq (zaa zaQ (zaa zaQ zad))) (zcr zfz (by rfl) T.znp boot_int (zaa (zdx zb4 (zaV G__law_key (hmr hr) rfl T.zf1 T.zfX T.zf6 .nil zaK (zaa (pv 0) (zaa zak zad))) zaQ (zaC _)) zad)) (λ _ _=>rfl)))) zaR)
     (zah (zaw (zcE zin (zaL zmM zaQ (pv 1) (λ _ _=>rfl)) (pv 4)))))))),?_⟩
   refine ⟨_,rfl,a,ns,0,rfl,hS,_,rfl,_,_,rfl,rfl,.inl ⟨by decide,by decide⟩,_,_,rfl,rfl,?_⟩
   obtain ⟨t0,t1⟩:=zir (c:=za7 ns 0+7 * (k:Int)) (p:=9967) (m:=4) (by decide)
   refine ⟨rfl,_,rfl,_,_,_,rfl,by decide,by decide,_,rfl,by omega,by omega,?_⟩
   refine ziD (λ i ys σ H2=>∃ v0,σ=[v0,some (.str abc),some (.int (za7 ns 0+7 * (k:Int)))]/\H2=H/\ys=((List.range i).map λ (j:Nat)=>pick abc (mixF (za7 ns 0+7 * (k:Int)+5 * (j:Int)) 9973 26).toNat).map V.str) ⟨none,rfl,rfl,rfl⟩ (λ i ys σ H2 ⟨_,_,_,e⟩=>by rw [e,List.length_map,List.length_map,List.length_range]; exact Nat.le_refl _) (by rw [sizeLine_eq]; omega) ?_ ?_
   . rintro i ys σ H2 hlt ⟨v0,rfl,rfl,rfl⟩
     obtain ⟨u0,u1⟩:=zir (c:=za7 ns 0+7 * (k:Int)+5 * (0+(i:Int))) (p:=9973) (m:=26) (by decide)
     have hsz:abc.cps.size=26:=by decide +kernel
     obtain ⟨c,hc,hp⟩:=ziZ (l:=abc) (i:=(mixF (za7 ns 0+7 * (k:Int)+5 * (0+(i:Int))) 9973 26).toNat) (by rw [hsz]; omega)
     rw [show (((mixF (za7 ns 0+7 * (k:Int)+5 * (0+(i:Int))) 9973 26).toNat:Nat):Int)=mixF (za7 ns 0+7 * (k:Int)+5 * (0+(i:Int))) 9973 26 by omega] at hc
     refine ⟨_,rfl,_,rfl,_,rfl,_,_,rfl,rfl,.inl ⟨by decide,by decide⟩,_,_,rfl,rfl,_,_,_,rfl,by decide,by decide,_,_,c,rfl,rfl,by show abc.cps.size<=sizeLine; rw [hsz,sizeLine_eq]; decide,hc,nx hlt ⟨_,rfl,rfl,?_⟩⟩
     rw [List.range_succ,List.map_append,List.map_append]
     rw [show (0+(i:Int))=(i:Int) by omega] at hp
     rw [<-hp]; rfl
   rintro ys σ H2 ⟨v0,rfl,rfl,rfl⟩
   intro pt nt
   refine ⟨_,pt,zdp (za7 ns 0+7 * (k:Int)),rfl,rfl,zab,?_,?_⟩
   . rw [zmL]
     have h3:=zgB (za7 ns 0+7 * (k:Int))
     omega
   have s1:Same H2 (upd H2 pt (.lst ((zdp (za7 ns 0+7 * (k:Int))).map V.str))):=Same.zaq nt
   show tSeq _ _ _ _ (upd H2 pt (.lst ((zdp (za7 ns 0+7 * (k:Int))).map V.str)))
   generalize upd H2 pt (.lst ((zdp (za7 ns 0+7 * (k:Int))).map V.str))=H3 at *
   have last:∀ kf:Str,kf=zhm ns k->(∀ H',Same H2 H'->Q (.str kf) H')->tRet (tOp (λ x y H Q=>∃ i j,x=.str i/\y=.str j/\i.length+j.length<=sizeLine/\Q (.str (i++j)) H) (tOp rIxS (tC (.str "qrst")) (tVar 1)) (tVar 4)) { nx:=λ _ H'=>Q .non H',rt:=Q } [some (.ref a),some (.int k),some (.str "abcdefghijklmnopqrstuvwxyz"),some (.int (za7 ns 0+7 * (k:Int))),some (.str (Txt.join "" (zdp (za7 ns 0+7 * (k:Int)))))] H3:=λ kf ek q=>by
     have hsz:("qrst" : Str).cps.size=4:=by decide +kernel
     obtain ⟨c,hc,hp⟩:=ziZ (l := "qrst") (i:=k) (by rw [hsz]; omega)
     refine ⟨_,rfl,_,_,c,rfl,rfl,by show ("qrst" : Str).cps.size<=sizeLine; rw [hsz,sizeLine_eq]; decide,hc,_,rfl,_,_,rfl,rfl,?_,?_⟩
     . have h3:=zgB (za7 ns 0+7 * (k:Int))
       have h4:=zkB (zdp (za7 ns 0+7 * (k:Int)))
       have h5:(⟨#[c]⟩:Str).length=1:=rfl
       rw [sizeLine_eq]; omega
     . have:=q H3 s1
       rw [ek] at this
       unfold zhm at this
       rw [hp] at this
       exact this
   refine ⟨_,rfl,rfl,_,rfl,?_⟩
   by_cases h3:k=3
   rotate_left
   . refine zaO (decide_eq_false λ z=>by have:=V.int.inj z; omega) (last _ ?_ q)
     unfold keyF; rw [if_neg λ z=>h3 z.1]
   refine zby (decide_eq_true (by rw [h3]; rfl)) ?_
   refine ⟨_,rfl,a,ns,0,rfl,s1.seq hS,_,_,rfl,rfl,(by show (0:Int) < 2; decide),rfl,_,rfl,?_⟩
   by_cases h2:za7 ns 0 % 2=0
   rotate_left
   . refine zaO (decide_eq_false λ z=>h2 (V.int.inj z)) (last _ ?_ q)
     unfold keyF; rw [if_neg λ z=>h2 z.2]
   refine zby (decide_eq_true (show V.int (za7 ns 0 % 2)=V.int 0 by rw [h2])) ?_
   refine ⟨sz2,λ l hl=>?_⟩
   have s2:Same H2 (upd H3 l (.lst [V.str "q",V.str "qa"])):=s1.upd2 hl
   refine ⟨_,rfl,a,ns,0,rfl,s2.seq hS,by decide,λ H5 s5=>⟨rfl,.inr ⟨_,rfl,?_⟩⟩⟩
   have hl5:=s5 _ _ (zab (H:=H3) (a:=l) (o:=.lst [V.str "q",V.str "qa"]))
   have q5:=q H5 (s2.trans s5)
   unfold keyF at q5
   rw [if_pos ⟨h3,h2⟩] at q5
   by_cases hq:zhm ns 0 = "q"
   . rw [if_pos hq] at q5
     rw [decide_eq_true (show V.str (zhm ns 0)=V.str "q" by rw [hq])]
     exact ⟨l,_,_,_,rfl,rfl,SqL.of hl5,zbm (xs:=[V.str "q",V.str "qa"]) (j:=1) rfl,q5⟩
   . rw [if_neg hq] at q5
     rw [decide_eq_false (show ¬ V.str (zhm ns 0)=V.str "q" from λ z=>hq (V.str.inj z))]
     exact ⟨l,_,_,_,rfl,rfl,SqL.of hl5,zbm (xs:=[V.str "q",V.str "qa"]) (j:=0) rfl,q5⟩
theorem zlo (T:Txt K mg A F):FnOk P w K mg base (CX1 P w) 5 (F.f 4) (F.fd 4) ["_law_script","_law_cell_here","_law_begun"] (zs9 K):=by
 have G__law_mix:=@ze0 P w K mg base A F T
 have G__law_cell:=@zea P w K mg base A F T
 have G__law_key:=@zln P w K mg base A F T
 refine T.znJ.okN zcL (λ vs H Q E h=>?_) (λ cdv A' outer s H vs Q E hr h=>?_)
 . obtain ⟨a,ns,c,b,rfl,_⟩:=h
   rfl
 . obtain ⟨a,ns,c,b,rfl,hS,hb,q⟩:=h
   refine ⟨_,(zac (zaI (i:=3) zcL.nd rfl (by walk_at "loc") (zaV G__law_mix (hmr hr) rfl T.zbM T.zbL T.zbN .nil zaK (zaa (pv 1) (zaa zak (zaa (pv 2) zad)))))
     (zac (zaI (i:=4) zcL.nd rfl (by walk_at "loc") (zaV G__law_key (hmr hr) rfl T.zf1 T.zfX T.zf6 .nil zaK (zaa (pv 0) (zaa (zaV G__law_mix (hmr hr) rfl T.zbM T.zbL T.zbN .nil zaK (zaa (pv 1) (zaa zak (zaa (zcE zgh zak (zaV G__law_mix (hmr hr) rfl T.zbM T.zbL T.zbN .nil zaK (zaa (zaV G__law_cell (hmr hr) rfl T.zcl T.zck T.zcm .nil zaK (zaa (pv 0) (zaa zak zad))) (zaa zak (zaa zak zad))))) zad)))) zad))))
     (zac (zaI (i:=5) zcL.nd rfl (by walk_at "loc") (zaV G__law_mix (hmr hr) rfl T.zbM T.zbL T.zbN .nil zaK (zaa (pv 1) (zaa zak (zaa zak zad)))))
     (zac (zaI (i:=6) zcL.nd rfl (by walk_at "loc") (zaL zbu (zcq (zaa zak (zaa zak zad))) (zcr zfz (by rfl) T.znp boot_int (zaa (zdx zb4 (zcE zka (zaV G__law_cell (hmr hr) rfl T.zcl T.zck T.zcm .nil zaK (zaa (pv 0) (zaa zak zad))) zak) zak (zaC _)) zad)) (λ _ _=>rfl)))
     (zac (zbC (PW.pt (zms (zax zll (pv 5) (zcE zgh zak (zcE zrq (pv 6) zak)) (zaC _)) (ziV (zax zll (pv 2) (pv 6) (zaC _))))) (zah (zaw (zbk (zaa zaQ zad)))) zaR)
     (zac (zbC (zax zll (pv 5) zak (zaC _)) (zah (zaw (zbk (zaa zaQ (zaa (pv 3) (zaa (pv 4) zad)))))) zaR)
     (zac (zbC (zax zll (pv 5) zak (zaC _)) (zah (zaw (zbk (zaa zaQ (zaa (pv 3) (zaa (pv 4) (zaa (zcE zqu (zaV G__law_mix (hmr hr) rfl T.zbM T.zbL T.zbN .nil zaK (zaa (pv 1) (zaa zak (zaa zak zad)))) zak) zad))))))) zaR)
     (zac (zbC (zax zll (pv 5) zak (zaC _)) (zah (zaw (zbk (zaa zaQ (zaa (pv 3) zad))))) zaR)
     (zah (zaw (zbk (zaa zaQ (zaa (pv 3) zad))))))))))))),?_⟩
   obtain ⟨d,ed,hd⟩:=zlr (c:=c) (p:=9949) hb
   obtain ⟨m,em,hm⟩:=zlr (c:=za7 ns 0) (p:=9931) (m:=4) (by decide)
   obtain ⟨j,ej,hj⟩:=zlr (c:=c) (p:=9941) (m:=1+m) (by omega)
   have em:mixF (za7 ns 0) 9931 4=m:=em
   refine ⟨_,rfl,_,rfl,_,_,_,rfl,by decide,by omega,?_⟩
   rw [ed]
   refine ⟨_,rfl,_,rfl,_,rfl,a,ns,0,rfl,hS,_,_,_,rfl,by decide,by decide,_,_,rfl,rfl,_,_,_,rfl,by decide,by rw [em]; omega,a,ns,j,?_,hS,by omega,λ H1 s1=>?_⟩
   . rw [em,show (1:Int)+(m:Int)=((1+m:Nat):Int) by omega,ej]; rfl
   refine ⟨_,rfl,_,_,_,rfl,by decide,by decide,?_⟩
   generalize mixF c 9929 17=tn
   refine ⟨sz2,λ l hl=>?_⟩
   have s2:Same H (upd H1 l (.lst [V.int 9,V.int 30])):=s1.upd2 hl
   refine ⟨_,rfl,a,ns,0,rfl,s2.seq hS,_,_,rfl,rfl,(by show (0:Int) < 16; decide),rfl,.inr ⟨_,rfl,l,_,_,V.int (if za7 ns 0 % 16=3 then 30 else 9),rfl,rfl,SqL.of zab,?_,?_⟩⟩
   . by_cases h:za7 ns 0 % 16=3
     . rw [if_pos h]
       show atI [V.int 9,V.int 30] (if decide (V.int (za7 ns 0 % 16)=V.int 3)=true then 1 else 0)=_
       rw [if_pos (decide_eq_true (by rw [h]))]; exact zbm (xs:=[V.int 9,V.int 30]) (j:=1) rfl
     . rw [if_neg h]
       show atI [V.int 9,V.int 30] (if decide (V.int (za7 ns 0 % 16)=V.int 3)=true then 1 else 0)=_
       rw [if_neg (by rw [decide_eq_false λ z=>h (V.int.inj z)]; exact Bool.false_ne_true)]; exact zbm (xs:=[V.int 9,V.int 30]) (j:=0) rfl
   generalize (if za7 ns 0 % 16=3 then (30:Int) else 9)=M
   show tSeq _ _ _ _ (upd H1 l (.lst [V.int 9,V.int 30]))
   generalize upd H1 l (.lst [V.int 9,V.int 30])=H2 at *
   refine ⟨_,rfl,_,rfl,_,_,rfl,rfl,⟨by decide,by decide⟩,_,_,rfl,rfl,_,_,rfl,rfl,_,rfl,?_⟩
   by_cases h1:tn < 2+M / 15
   . refine zby (decide_eq_true h1) ⟨_,rfl,_,rfl,_,_,rfl,rfl,_,rfl,?_⟩
     by_cases h2:(b:Int) < M
     . exact zby (decide_eq_true h2) ⟨sz1,λ n nn=>q _ n .begin (s2.free nn) (s2.upd2 nn) zab trivial⟩
     refine zaO (decide_eq_false h2) ?_
     refine ⟨_,rfl,_,_,rfl,rfl,_,rfl,?_⟩
     by_cases h3:tn < 7
     . exact zby (decide_eq_true h3) ⟨_,rfl,_,rfl,sz3,λ n nn=>q _ n (.read d (keyF ns j)) (s2.free nn) (s2.upd2 nn) zab ⟨hd,j,by omega,rfl⟩⟩
     refine zaO (decide_eq_false h3) ⟨_,rfl,_,_,rfl,rfl,_,rfl,?_⟩
     by_cases h4:tn < 13
     . exact zby (decide_eq_true h4) ⟨_,rfl,_,rfl,_,rfl,_,_,_,rfl,by decide,by decide,_,_,rfl,rfl,sz4,λ n nn=>q _ n (.write d (keyF ns j) _) (s2.free nn) (s2.upd2 nn) zab ⟨hd,j,by omega,rfl⟩⟩
     refine zaO (decide_eq_false h4) ⟨_,rfl,_,_,rfl,rfl,_,rfl,?_⟩
     by_cases h5:tn < 16
     . exact zby (decide_eq_true h5) ⟨_,rfl,sz2,λ n nn=>q _ n (.keep d) (s2.free nn) (s2.upd2 nn) zab hd⟩
     . exact zaO (decide_eq_false h5) ⟨_,rfl,sz2,λ n nn=>q _ n (.drop d) (s2.free nn) (s2.upd2 nn) zab hd⟩
   . refine zaO (decide_eq_false h1) ?_
     refine ⟨_,rfl,_,_,rfl,rfl,_,rfl,?_⟩
     by_cases h3:tn < 7
     . exact zby (decide_eq_true h3) ⟨_,rfl,_,rfl,sz3,λ n nn=>q _ n (.read d (keyF ns j)) (s2.free nn) (s2.upd2 nn) zab ⟨hd,j,by omega,rfl⟩⟩
     refine zaO (decide_eq_false h3) ⟨_,rfl,_,_,rfl,rfl,_,rfl,?_⟩
     by_cases h4:tn < 13
     . exact zby (decide_eq_true h4) ⟨_,rfl,_,rfl,_,rfl,_,_,_,rfl,by decide,by decide,_,_,rfl,rfl,sz4,λ n nn=>q _ n (.write d (keyF ns j) _) (s2.free nn) (s2.upd2 nn) zab ⟨hd,j,by omega,rfl⟩⟩
     refine zaO (decide_eq_false h4) ⟨_,rfl,_,_,rfl,rfl,_,rfl,?_⟩
     by_cases h5:tn < 16
     . exact zby (decide_eq_true h5) ⟨_,rfl,sz2,λ n nn=>q _ n (.keep d) (s2.free nn) (s2.upd2 nn) zab hd⟩
     . exact zaO (decide_eq_false h5) ⟨_,rfl,sz2,λ n nn=>q _ n (.drop d) (s2.free nn) (s2.upd2 nn) zab hd⟩
theorem zkd (T:Txt K mg A F):FnOk P w K mg base (CX1 P w) 6 (F.f 5) (F.fd 5) ["_law_script"] (zsc K):=by
 have G__law_act:=@zlo P w K mg base A F T
 refine T.zl5.okN zb1 (λ vs H Q E h=>?_) (λ cdv A' outer s H vs Q E hr h=>?_)
 . obtain ⟨a,ns,rfl,_⟩:=h
   rfl
 . obtain ⟨a,ns,rfl,hS,q⟩:=h
   refine ⟨_,(zac (zaI (i:=1) zb1.nd rfl (by walk_at "loc") (zcq (zaa (zbk (zaa zaQ zad)) (zaa (zbk (zaa zaQ zad)) zad))))
     (zac (zaI (i:=2) zb1.nd rfl (by walk_at "loc") zak)
     (zac (zeA PassesOwn.never rfl (zdv (zmw zq8 (pv 0) (zlk zak) (zlk zak))) (zaU (i:=3) zb1.nd rfl (by walk_at "loc")) (zac (zaI (i:=4) zb1.nd rfl (by walk_at "loc") (zaV G__law_act (hmr hr) rfl T.znA T.znu T.znE .nil zaK (zaa (pv 0) (zaa (pv 3) (zaa (pv 2) zad)))))
     (zac (zaI (i:=2) zb1.nd rfl (by walk_at "loc") (zcE zgh (pv 2) (zcr zfz (by rfl) T.znp boot_int (zaa (zdx zb4 (zaL zaZ (pv 4) zak (λ _ _=>rfl)) zaQ (zaC _)) zad))))
     (zah (zaG (zdy PySem.F.plainAttrs_list PySem.F.slot_list_append PySem.F.type_list_append zbl (pv 1) (zaa (pv 4) zad)))))))
     (zah (zaw (pv 1)))))),?_⟩
   refine ⟨sz1,λ p1 n1=>⟨sz1,λ p2 n2=>⟨sz2,λ l nl=>?_⟩⟩⟩
   have s1:Same H (upd H p1 (.tup [V.str "begin"])):=Same.zaq n1
   have s2:=s1.upd2 (o:=.tup [V.str "begin"]) n2
   have s3:=s2.upd2 (o:=.lst [V.ref p1,V.ref p2]) nl
   have e2:upd (upd H p1 (.tup [V.str "begin"])) p2 (.tup [V.str "begin"]) p2=some (.tup [V.str "begin"]):=zab
   have e1:upd (upd H p1 (.tup [V.str "begin"])) p2 (.tup [V.str "begin"]) p1=some (.tup [V.str "begin"]):=zaj zab n2
   refine ⟨_,rfl,_,rfl,_,rfl,a,_,rfl,s3.seq hS,λ pc nc=>⟨pc,rfl,⟨_,SqL.of zab⟩,?_⟩⟩
   have ec:cutV (ns.map V.int) (some 1) (some 62)=((ns.take 62).drop 1).map V.int:=by
     have e0:cutV (ns.map V.int) (some 1) (some 62)=((ns.map V.int).drop (min 1 (ns.map V.int).length)).take (min 62 (ns.map V.int).length - min 1 (ns.map V.int).length):=rfl
     rw [e0,List.length_map,List.map_drop,List.map_take,List.drop_take]
     cases hns:ns with
     | nil=>rfl
     | cons x r =>
       rw [List.length_cons,Nat.min_eq_left (show 1<=r.length+1 by omega)]
       show ((r.map V.int).take _)=(r.map V.int).take 61
       by_cases h:62<=r.length+1
       . rw [Nat.min_eq_left h]
       . rw [List.take_of_length_le (by rw [List.length_map]; omega),List.take_of_length_le (by rw [List.length_map]; omega)]
   rw [ec]
   have hcl:((ns.take 62).drop 1).length<=61:=by rw [List.length_drop,List.length_take]; omega
   generalize hcs:(ns.take 62).drop 1=cs at *
   have nlc:l≠pc:=zaf zab nc
   have s4:=s3.upd2 (o:=.lst (cs.map V.int)) nc
   have nlH:H l=none:=s2.free nl
   have npH:H pc=none:=s3.free nc
   refine zft (xs:=cs.map V.int) (λ i σ H2=>∃ us As v3 v4,σ=[some (.ref a),some (.ref l),some (.int ((zdn As:Nat):Int)),v3,v4]/\Same H H2/\H2 l=some (.lst us)/\H2 pc=some (.lst (cs.map V.int))/\zao H2 us (As.map actD)/\(∀ p,V.ref p∈us->H p=none)/\Valid ns As/\As.length=2+i/\2<=zdn As) ?_ (λ i σ H2 _ ⟨_,_,_,_,_,_,_,e,_⟩=>SqL.of e) ?_ ?_
   . refine ⟨[V.ref p1,V.ref p2],[.begin,.begin],none,none,rfl,s4,zaj zab nc,zab,?_,?_,?_,rfl,Nat.le_refl _⟩
     . exact .cons ⟨p1,rfl,zaj (zaj e1 nl) nc⟩ (.cons ⟨p2,rfl,zaj (zaj e2 nl) nc⟩ .nil)
     . intro p hp
       rcases List.mem_cons.mp hp with h | h
       . cases h; exact n1
       . rcases List.mem_cons.mp h with h | h
         . cases h; exact s1.free n2
         . cases h
     . intro i x hx
       match i,hx with
       | 0,hx=>cases hx; trivial
       | 1,hx=>cases hx; trivial
       | i+2,hx=>cases hx
   . rintro i x σ H2 hx ⟨us,As,v3,v4,rfl,m2,hl2,hc2,t2,f2,vd,hlen,hb2⟩
     rw [List.getElem?_map] at hx
     obtain ⟨c,hc,rfl⟩:=Option.map_eq_some_iff.mp hx
     have hi:i < cs.length:=(List.getElem?_eq_some_iff.mp hc).1
     have hul:us.length=As.length:=by rw [t2.length,List.length_map]
     refine ⟨_,rfl,_,rfl,_,rfl,a,ns,c,zdn As,rfl,m2.seq hS,by omega,λ H3 q3 Ac n3 m3 e3 ok3=>?_⟩
     obtain ⟨tx,eA,db⟩:=zpm Ac
     have m03:=m2.trans m3
     refine ⟨_,rfl,_,rfl,q3,_,_,V.str tx,rfl,rfl,SqT.of e3,zbm (j:=0) (by rw [eA]; rfl),rfl,.inr ⟨_,rfl,_,_,rfl,rfl,?_⟩⟩
     have hl3:=m3 _ _ hl2
     refine ⟨_,rfl,.inl ⟨rfl,_,SqL.of hl3⟩,_,rfl,l,us,V.ref q3,rfl,rfl,hl3,by rw [hul,sizeLine_eq]; omega,?_⟩
     have eb:((zdn As:Nat):Int)+(if decide (V.str tx=V.str "begin")=true then 1 else 0)=((zdn (As++[Ac]):Nat):Int):=by
       rw [db,zdD]
       have:=zqG Ac
       by_cases h:Ac.isB=1
       . rw [decide_eq_true h,if_pos rfl,h]; rfl
       . rw [decide_eq_false h,if_neg Bool.false_ne_true]; have:Ac.isB=0:=by omega
         rw [this]; rfl
     refine ⟨us++[V.ref q3],As++[Ac],_,_,by rw [<-eb]; rfl,?_,zab,?_,?_,?_,vd.snoc ok3,by rw [List.length_append,List.length_singleton]; omega,by rw [zdD]; omega⟩
     . intro b o e
       rw [zae (zaf e nlH)]; exact m03 b o e
     . rw [zae nlc.symm]; exact m3 _ _ hc2
     . rw [List.map_append]
       have lift:∀ {vs:List V} {xss:List (List V)},zao H3 vs xss->zao (upd H3 l (.lst (us++[V.ref q3]))) vs xss:=λ {vs xss} t=>by
         induction t with
         | nil=>exact .nil
         | cons r0 _ ih =>
           obtain ⟨p0,e0,q0⟩:=r0
           exact .cons ⟨p0,e0,by rw [zae (za2 q0 hl3 (λ z=>nomatch z))]; exact q0⟩ ih
       exact lift (S6.zbS (zaH m3 t2) ⟨q3,rfl,e3⟩)
     . intro p hp
       rcases List.mem_append.mp hp with hp | hp
       . exact f2 p hp
       . have:=List.mem_singleton.mp hp
         cases this
         exact m2.free n3
   . rintro σ H2 ⟨us,As,v3,v4,rfl,m2,hl2,hc2,t2,f2,vd,hlen,hb2⟩
     rw [List.length_map] at hlen
     exact ⟨_,rfl,q H2 l us As nlH m2 hl2 t2 f2 vd (by omega)⟩
theorem zkc (T:Txt K mg A F):FnOk P w K mg base (CX1 P w) 10 (F.f 41) (F.fd 41) ["_law_hall","_law_act_here"] (zsa A):=by
 have G_Hall_begin:=@zi5 P w K mg base A F T
 have G_Hall_read:=@zkg P w K mg base A F T
 have G_Hall_write:=@zi4 P w K mg base A F T
 have G_Hall_keep:=@zkh P w K mg base A F T
 have G_Hall_give_up:=@zg7 P w K mg base A F T
 refine T.zl4.okX zjU (λ vs H Q E h=>?_) (λ cdv A' outer s H vs Q E hr h=>?_)
 . obtain ⟨ρ,ad,s,kq,act,T0,ns,rfl,_⟩:=h
   rfl
 . obtain ⟨ρ,ad,s,kq,act,T0,ns,rfl,hh,R,ht,hn,ok,hq,q,qe⟩:=h
   obtain ⟨dx,hp⟩:=hh.hall
   have nes:∀ a b:Str,a≠b->decide (V.str a=V.str b)=false:=λ a b h=>decide_eq_false λ z=>h (V.str.inj z)
   refine ⟨_,(zac (zbC (zax zb4 (zaL zaZ (pv 1) zak (λ _ _=>rfl)) zaQ (zaC _)) (zah (zaw (zcX (pv 0) T.zam T.zkr G_Hall_begin (hmr hr) T.zkX .nil zaK))) zaR)
    (zac (zbC (zax zb4 (zaL zaZ (pv 1) zak (λ _ _=>rfl)) zaQ (zaC _)) (zah (zaw (zaD (pv 0) T.zam T.zlx G_Hall_read (hmr hr) T.zlT .nil zbR (zaa (zaL zaZ (pv 1) zak (λ _ _=>rfl)) (zaa (zaL zaZ (pv 1) zak (λ _ _=>rfl)) zad))))) zaR)
    (zac (zbC (zax zb4 (zaL zaZ (pv 1) zak (λ _ _=>rfl)) zaQ (zaC _)) (zah (zaw (zaD (pv 0) T.zam T.zkq G_Hall_write (hmr hr) T.zkW .nil zbR (zaa (zaL zaZ (pv 1) zak (λ _ _=>rfl)) (zaa (zaL zaZ (pv 1) zak (λ _ _=>rfl)) (zaa (zaL zaZ (pv 1) zak (λ _ _=>rfl)) zad)))))) zaR)
    (zac (zbC (zax zb4 (zaL zaZ (pv 1) zak (λ _ _=>rfl)) zaQ (zaC _)) (zah (zaw (zaD (pv 0) T.zam T.zly G_Hall_keep (hmr hr) T.zlU .nil zbR (zaa (zaL zaZ (pv 1) zak (λ _ _=>rfl)) zad)))) zaR)
    (zah (zaw (zaD (pv 0) T.zam T.zh0 G_Hall_give_up (hmr hr) T.zh6 .nil zbR (zaa (zaL zaZ (pv 1) zak (λ _ _=>rfl)) zad)))))))),?_⟩
   cases act with
   | begin =>
    refine ⟨_,rfl,kq,_,_,_,rfl,rfl,SqT.of hq,rfl,rfl,_,rfl,?_⟩
    refine zby (decide_eq_true rfl) ⟨_,rfl,_,dx,_,rfl,hp,rfl,ρ,ad,s,zau s,rfl,hh,R.r.L.sm R.r.c,hn,λ H' ρ' ad' a1 a2 a3=>q _ H' ρ' ad' a1 ?_ a3⟩
    show zai A ρ' ad' (za6 s) (zau (za6 s)) H'
    rw [zlB R.r.c]; exact a2
   | read d k =>
    refine ⟨_,rfl,kq,_,_,_,rfl,rfl,SqT.of hq,rfl,rfl,_,rfl,?_⟩
    refine zaO (nes _ _ (by decide +kernel)) ?_
    refine ⟨_,rfl,kq,_,_,_,rfl,rfl,SqT.of hq,rfl,rfl,_,rfl,?_⟩
    refine zby (decide_eq_true rfl) ?_
    have h4:=see4 R.r.L.e R.k ok.2
    refine ⟨_,rfl,_,dx,_,rfl,hp,rfl,_,rfl,kq,_,_,_,rfl,rfl,SqT.of hq,rfl,_,rfl,kq,_,_,_,rfl,rfl,SqT.of hq,rfl,ρ,ad,s,d,k,T0,rfl,hh,R.r,ht,h4,.inl ⟨d,rfl,ok.1,?_⟩⟩
    rw [zfb] at q qe
    by_cases hg:(s.deed d).st=.zas
    . rw [if_pos hg] at q
      refine .inl ⟨hg,λ H' ρ' ad' q' a1 a2 a3 a4 a5=>q _ H' ρ' ad' a1 ?_ a3⟩
      rw [(zcJ R.r hg).2.2.1]; exact a2
    . rw [if_neg hg] at qe
      exact .inr ⟨hg,qe rfl⟩
   | write d k v =>
    refine ⟨_,rfl,kq,_,_,_,rfl,rfl,SqT.of hq,rfl,rfl,_,rfl,?_⟩
    refine zaO (nes _ _ (by decide +kernel)) ?_
    refine ⟨_,rfl,kq,_,_,_,rfl,rfl,SqT.of hq,rfl,rfl,_,rfl,?_⟩
    refine zaO (nes _ _ (by decide +kernel)) ?_
    refine ⟨_,rfl,kq,_,_,_,rfl,rfl,SqT.of hq,rfl,rfl,_,rfl,?_⟩
    refine zby (decide_eq_true rfl) ?_
    have h4:=see4 R.r.L.e R.k ok.2
    refine ⟨_,rfl,_,dx,_,rfl,hp,rfl,_,rfl,kq,_,_,_,rfl,rfl,SqT.of hq,rfl,_,rfl,kq,_,_,_,rfl,rfl,SqT.of hq,rfl,_,rfl,kq,_,_,_,rfl,rfl,SqT.of hq,rfl,ρ,ad,s,d,k,v,T0,rfl,hh,R.r,ht,h4,.inl ⟨d,rfl,ok.1,?_⟩⟩
    rw [zeo] at q qe
    by_cases hg:(s.deed d).st=.zas
    . rw [if_pos hg] at q
      refine .inl ⟨hg,λ H' ρ' ad' q' a1 a2 a3 a4 a5=>q _ H' ρ' ad' a1 ?_ a3⟩
      rw [(zcJ R.r hg).2.2.1]; exact a2
    . rw [if_neg hg] at qe
      exact .inr ⟨hg,qe rfl⟩
   | keep d =>
    refine ⟨_,rfl,kq,_,_,_,rfl,rfl,SqT.of hq,rfl,rfl,_,rfl,?_⟩
    refine zaO (nes _ _ (by decide +kernel)) ?_
    refine ⟨_,rfl,kq,_,_,_,rfl,rfl,SqT.of hq,rfl,rfl,_,rfl,?_⟩
    refine zaO (nes _ _ (by decide +kernel)) ?_
    refine ⟨_,rfl,kq,_,_,_,rfl,rfl,SqT.of hq,rfl,rfl,_,rfl,?_⟩
    refine zaO (nes _ _ (by decide +kernel)) ?_
    refine ⟨_,rfl,kq,_,_,_,rfl,rfl,SqT.of hq,rfl,rfl,_,rfl,?_⟩
    refine zby (decide_eq_true rfl) ?_
    refine ⟨_,rfl,_,dx,_,rfl,hp,rfl,_,rfl,kq,_,_,_,rfl,rfl,SqT.of hq,rfl,ρ,ad,s,d,T0,rfl,hh,R.r,.inl ⟨d,rfl,ok,?_⟩⟩
    rw [zfc] at q qe
    by_cases hg:(s.deed d).st=.zas
    . rw [if_pos hg] at q
      exact .inl ⟨hg,λ H' ρ' ad' a1 a2 a3=>q _ H' ρ' ad' a1 a2 a3⟩
    . rw [if_neg hg] at qe
      exact .inr ⟨hg,qe rfl⟩
   | drop d =>
    refine ⟨_,rfl,kq,_,_,_,rfl,rfl,SqT.of hq,rfl,rfl,_,rfl,?_⟩
    refine zaO (nes _ _ (by decide +kernel)) ?_
    refine ⟨_,rfl,kq,_,_,_,rfl,rfl,SqT.of hq,rfl,rfl,_,rfl,?_⟩
    refine zaO (nes _ _ (by decide +kernel)) ?_
    refine ⟨_,rfl,kq,_,_,_,rfl,rfl,SqT.of hq,rfl,rfl,_,rfl,?_⟩
    refine zaO (nes _ _ (by decide +kernel)) ?_
    refine ⟨_,rfl,kq,_,_,_,rfl,rfl,SqT.of hq,rfl,rfl,_,rfl,?_⟩
    refine zaO (nes _ _ (by decide +kernel)) ?_
    refine ⟨_,rfl,_,dx,_,rfl,hp,rfl,_,rfl,kq,_,_,_,rfl,rfl,SqT.of hq,rfl,ρ,ad,s,d,T0,rfl,hh,R.r,.inl ⟨d,rfl,ok,?_⟩⟩
    rw [step_drop] at q qe
    by_cases hg:(s.deed d).st=.zas\/(s.deed d).st=.waiting
    . rw [if_pos hg] at q
      exact .inl ⟨hg,λ H' ρ' ad' a1 a2 a3=>q _ H' ρ' ad' a1 a2 a3⟩
    . rw [if_neg hg] at qe
      exact .inr ⟨hg,qe rfl⟩
theorem znn (T:Txt K mg A F):FnOk P w K mg base (CX1 P w) 11 (F.f 42) (F.fd 42) ["_law_hall","_law_act_here"] (spDo A):=by
 have G__law_call:=@zkc P w K mg base A F T
 refine T.zpr.okN zep (λ vs H Q E h=>?_) (λ cdv A' outer s H vs Q E hr h=>?_)
 . obtain ⟨ρ,ad,s,kq,act,T0,ns,rfl,_⟩:=h
   rfl
 . obtain ⟨ρ,ad,s,kq,act,T0,ns,rfl,hh,R,ht,hn,ok,hq,q⟩:=h
   refine ⟨_,(zac (zaI (i:=2) zep.nd rfl (by walk_at "loc") zgg)
    (zac (zsn rfl rfl rfl rfl rfl T.zf2 T.zm4 (λ E pn xe hp=>(zah (zaI (i:=2) zep.nd rfl (by walk_at "loc") (zaV G__law_call (hmr hr) rfl T.zlG T.zlC T.zlP .nil hp (zaa (pv 0) (zaa (pv 1) zad)))))) (λ e=>(zah (zaI (i:=2) zep.nd rfl (by walk_at "loc") zaQ))))
    (zah (zaw (pv 2))))),?_⟩
   refine ⟨_,rfl,_,rfl,ρ,ad,s,kq,act,T0,ns,rfl,hh,R,ht,hn,ok,hq,λ v H' ρ' ad' a1 a2 a3=>⟨_,rfl,q _ H' ρ' ad' a1 a2 a3⟩,λ e=>⟨rfl,?_⟩⟩
   refine ⟨_,rfl,q _ H ρ ad rfl ?_ .refl⟩
   rw [e]; exact hh
theorem zg6 (T:Txt K mg A F):FnOk P w K mg base (CX1 P w) 1 (F.f 43) (F.fd 43) ["self"] (zs6 A):=by
 refine T.znK.okN zlh (λ vs H Q E h=>?_) (λ cdv A' outer s H vs Q E hr h=>?_)
 . obtain ⟨ρ,ad,s,kv,rfl,_⟩:=h
   rfl
 . obtain ⟨ρ,ad,s,kv,rfl,hh,q⟩:=h
   obtain ⟨dx,hp⟩:=hh.hall
   obtain ⟨us,hus,tus⟩:=hh.rows
   refine ⟨_,(zah (zaw (zcr zdB (by rfl) T.zlp boot_tuple (zaa (zap (pv 0) rfl) zad)))),?_⟩
   exact ⟨_,rfl,_,_,dx,_,_,rfl,hp,T.zam,T.zb2,rfl,ad .rows,_,rfl,.inl ⟨SqL.of hus,λ n nn=>q _ n us nn (Same.zaq nn) zab (zaH (Same.zaq nn) tus)⟩⟩
theorem zi3 (T:Txt K mg A F):FnOk P w K mg base (CX1 P w) 2 (F.f 45) (F.fd 45) ["_law_hall"] (zq4 A):=by
 have G_Hall_log:=@zg6 P w K mg base A F T
 refine T.zk1.okN ziR (λ vs H Q E h=>?_) (λ cdv A' outer s H vs Q E hr h=>?_)
 . obtain ⟨ρ,ad,s,kv,rfl,_⟩:=h
   rfl
 . obtain ⟨ρ,ad,s,kv,rfl,hh,hl,q⟩:=h
   obtain ⟨dx,hp⟩:=hh.hall
   refine ⟨_,(zah (zaw (zbf za5 (by rfl) T.zhZ PySem.boot_len (zaa (zd9 1 [] ["_law_row"] rfl (by walk_at "blk") (zg1 (zcX (pv 0) T.zam T.zis G_Hall_log (hmr hr) T.ziH .nil zaK)) (λ C fp s H=>(zaU (i:=0) (show (["_law_row"]:List Str).Nodup by decide +kernel) rfl (by walk_at "loc"))) (λ C fp s H=>zeW (zax zb4 (zaL (zef (K:=K) rfl) (pv 0) zak (λ _ _=>rfl)) zaQ (zaC _))) (λ C fp s H=>(pv 0))) zad)))),?_⟩
   refine ⟨_,rfl,_,dx,_,rfl,hp,rfl,ρ,ad,s,kv,rfl,hh,λ H1 qt us nq m1 e1 t1=>⟨qt,rfl,⟨_,SqT.of e1⟩,?_⟩⟩
   have hul:us.length=s.log.length:=by rw [t1.length,List.length_map]
   refine zgG (xs:=us) (λ i ys σ H2=>∃ v0,σ=[v0]/\H2=H1/\ys.length=(logB (s.log.take i)).length/\ys.length<=i) ⟨none,rfl,rfl,rfl,Nat.le_refl _⟩ (λ i ys σ H2 ⟨_,_,e,_,hy⟩=>⟨SqT.of (by rw [e]; exact e1),hy⟩) (by rw [hul,sizeLine_eq]; omega) ?_ ?_
   . rintro i x ys σ H2 hlt hx ⟨v0,rfl,rfl,hy,hyi⟩
     obtain ⟨y,hy1,r,rfl,hr1⟩:=zbV t1 hx
     rw [List.getElem?_map] at hy1
     obtain ⟨row,hrow,rfl⟩:=Option.map_eq_some_iff.mp hy1
     have ei:s.log.take (i+1)=s.log.take i++[row]:=by rw [List.take_add_one,hrow]; rfl
     obtain ⟨t,et,db⟩:=zpG row
     refine ⟨_,rfl,r,_,_,V.str t,rfl,rfl,SqT.of hr1,zbm (j:=0) (by rw [et]; rfl),rfl,_,rfl,?_⟩
     refine zeC (rowB row) db ?_
     cases hb:rowB row with
     | true =>
      refine iteT ⟨_,rfl,nx hlt ⟨_,rfl,rfl,?_,?_⟩⟩
      . rw [ei,zmG,hb,List.length_append,hy]; rfl
      . rw [List.length_append,List.length_singleton]; omega
     | false =>
      refine iteF (nx hlt ⟨_,rfl,rfl,?_,by omega⟩)
      rw [ei,zmG,hb,hy]; rfl
   . rintro ys σ H2 ⟨v0,rfl,rfl,hy,hyi⟩
     rw [hul,List.take_length] at hy
     intro n hn
     refine ⟨n,_,rfl,.inl (SqL.of zab),?_⟩
     have:=q _ (m1.upd2 (o:=.lst ys) hn)
     rw [<-hy] at this; exact this
theorem zi2 (T:Txt K mg A F):FnOk P w K mg base (CX1 P w) 1 (F.f 47) (F.fd 47) ["_law_found"] zq1:=by
 refine T.zk0.okN ziQ (λ vs H Q E h=>?_) (λ cdv A' outer s H vs Q E hr h=>?_)
 . obtain ⟨i,rfl,_⟩:=h
   rfl
 . obtain ⟨i,rfl,k⟩:=h
   refine ⟨_,(zah (zaw (zmy (zbf zdC (by rfl) T.zcZ boot_isinstance (zaa (pv 0) (zaa (zpO rfl T.znp boot_int) zad))) (zim (zqs (zbf zdC (by rfl) T.zcZ boot_isinstance (zaa (pv 0) (zaa (zpO rfl T.zqz boot_bool) zad)))))))),?_⟩
   refine ⟨_,rfl,_,_,_,_,rfl,.int i,rfl,_,rfl,?_⟩
   refine iteT ?_
   refine ⟨_,rfl,_,_,_,_,rfl,.int i,rfl,_,rfl,?_⟩
   exact k
theorem zfj (T:Txt K mg A F):FnOk P w K mg base (CX1 P w) 1 (F.f 44) (F.fd 44) ["_law_log"] zk7:=by
 refine T.zf8.okN zaE (λ vs H Q E h=>?_) (λ cdv A' outer s H vs Q E hr h=>?_)
 . obtain ⟨q,l,SN,rfl,_⟩:=h
   rfl
 . obtain ⟨q,l,SN,rfl,⟨us,hq,tu⟩,hl,wf,hB,ki,nd,h4,hok,k⟩:=h
   have hu:=zeg hr
   have hu64:=hu64 hr
   have hul:us.length=l.length:=by rw [tu.length,List.length_map]
   have nes:∀ a b:Str,a≠b->decide (V.str a=V.str b)=false:=λ a b h=>decide_eq_false λ z=>h (V.str.inj z)
   have gl:∀ i,(logG (l.take i)).length<=63:=λ i=>Nat.le_trans (zpZ (Wf.pre wf i)) (Nat.le_trans (zp0 l i) hB)
   have okr:∀ i row,l[i]?=some row->zgs (.tuple (rowD row)):=λ i row h=>zre row λ d k b v e=>hok k (ki d k b v (e ▸ List.mem_of_getElem? h))
   refine ⟨_,(zac (zaI (i:=1) zaE.nd rfl (by walk_at "loc") (zcq zad))
     (zac (zaI (i:=2) zaE.nd rfl (by walk_at "loc") zak)
     (zac (zaI (i:=3) zaE.nd rfl (by walk_at "loc") zdw)
     (zac (zaI (i:=4) zaE.nd rfl (by walk_at "loc") zdw)
     (zac (zeA PassesOwn.never rfl (zg1 (pv 0)) (zaU (i:=5) zaE.nd rfl (by walk_at "loc")) (zah (zbC (zax zb4 (zaL zaZ (pv 5) zak (λ _ _=>rfl)) zaQ (zaC _)) (zac (zbC (zax (zor hu64) (pv 5) (zbk (zaa zaQ (zaa (pv 2) zad))) (zaC _)) (zah (zaw zj6)) zaR)
     (zac (zaG (zdy PySem.F.plainAttrs_list PySem.F.slot_list_append PySem.F.type_list_append zbl (pv 1) (zaa (pv 2) zad)))
     (zah (zaI (i:=2) zaE.nd rfl (by walk_at "loc") (zcE zgh (pv 2) zak))))) (zah (zbC (zax zj8 (zaL zaZ (pv 5) zak (λ _ _=>rfl)) (pv 1) (by with_unfolding_all rfl)) (zah (zaw zj6)) (zah (zbC (zax zb4 (zaL zaZ (pv 5) zak (λ _ _=>rfl)) zaQ (zaC _)) (zac (zbC (PW.pt (zpJ (zax znm (zbf za5 (by rfl) T.zhZ PySem.boot_len (zaa (pv 5) zad)) zak (zaC _)) (zoh (zax znm (zaL zaZ (pv 5) zak (λ _ _=>rfl)) (zgE hu (pv 3) (zaL zaZ (pv 5) zak (λ _ _=>rfl)) zak ⟨rfl,rfl,rfl,rfl⟩) (zaC _))))) (zah (zaw zj6)) zaR)
     (zac (zd8 hu (pv 4) (zaL zaZ (pv 5) zak (λ _ _=>rfl)) (zcE zsu (zgE hu (pv 4) (zaL zaZ (pv 5) zak (λ _ _=>rfl)) (zcq zad) ⟨rfl,rfl,rfl,rfl⟩) (zcq (zaa (zbk (zaa (zaL zaZ (pv 5) zak (λ _ _=>rfl)) (zaa (zaL zaZ (pv 5) zak (λ _ _=>rfl)) zad))) zad))) rfl)
     (zah (zd8 hu (pv 3) (zaL zaZ (pv 5) zak (λ _ _=>rfl)) (zaL zaZ (pv 5) zak (λ _ _=>rfl)) rfl)))) (zac (zbC (zax (zoq hu64) (pv 5) (zcq (zaa (zbk (zaa zaQ (zaa (zaL zaZ (pv 5) zak (λ _ _=>rfl)) zad))) (zaa (zbk (zaa zaQ (zaa (zaL zaZ (pv 5) zak (λ _ _=>rfl)) zad))) zad))) (by with_unfolding_all rfl)) (zah (zaw zj6)) zaR)
     (zac (zaG (zdy PySem.F.plainAttrs_list PySem.F.slot_list_remove PySem.F.type_list_remove zoy (pv 1) (zaa (zaL zaZ (pv 5) zak (λ _ _=>rfl)) zad)))
     (zah (zbC (zax zb4 (zaL zaZ (pv 5) zak (λ _ _=>rfl)) zaQ (zaC _)) (zah (zeA PassesOwn.never rfl (zso rfl T.zno boot_reversed (zaa (zgE hu (pv 4) (zaL zaZ (pv 5) zak (λ _ _=>rfl)) (zcq zad) ⟨rfl,rfl,rfl,rfl⟩) zad)) (zmv (n:=2) rfl (zbW (zaU (i:=6) zaE.nd rfl (by walk_at "loc")) (zbW (zaU (i:=7) zaE.nd rfl (by walk_at "loc")) zg3))) (zah (zd8 hu (pv 3) (pv 6) (pv 7) rfl)))) zaR)))))))))))
     (zah (zaw zj6))))))),?_⟩
   refine ⟨Nat.zero_le _,λ pg ng=>?_⟩
   intro pb nb pf nf
   have s1:Same H (upd H pg (.lst [])):=Same.zaq ng
   have s2:=s1.upd2 (o:=.dK []) nb
   have s3:=s2.upd2 (o:=.dK []) nf
   have nb0:H pb=none:=s1.free nb
   have nf0:H pf=none:=s2.free nf
   have gb:pg≠pb:=λ z=>by rw [z,zab] at nb; cases nb
   have gf:pg≠pf:=λ z=>by rw [<-z,zaj zab nb] at nf; cases nf
   have bf:pb≠pf:=λ z=>by rw [z,zab] at nf; cases nf
   refine ⟨_,rfl,q,rfl,⟨_,SqT.of (s3 _ _ hq)⟩,?_⟩
   refine zlK (xs:=us) (λ i σ H2=>∃ kvs lb v5 v6 v7,σ=[some (.ref q),some (.ref pg),some (.int ((logB (l.take i)).length:Int)),some (.ref pb),some (.ref pf),v5,v6,v7]/\Same H H2/\H2 pg=some (.lst (zay (logG (l.take i))))/\H2 pb=some (.dK (bkV lb))/\H2 pf=some (.dK kvs)/\DlAt H2 kvs (scan (l.take i)).bef i/\BkIs SN lb (scan (l.take i)).book/\∀ (d:Nat) li,valV kvs (Sum.inl (d:Int))=some (.ref li)->li≠pg) ⟨[],[],none,none,none,rfl,s3,by rw [zae gf,zae gb,zab]; rfl,by rw [zae bf,zab]; rfl,zab,DlAt.nil,BkIs.nil,λ d li h=>by cases h⟩ (λ i σ H2 _ ⟨_,_,_,_,_,_,m,_⟩=>SqT.of (m _ _ hq)) ?_ ?_
   . rintro i x σ H2 hx ⟨kvs,lb,v5,v6,v7,rfl,m2,hg2,hb2,hf2,dl,bk,nli⟩
     have hi:i < l.length:=by rw [<-hul]; exact (List.getElem?_eq_some_iff.mp hx).1
     obtain ⟨y,hy,r,rfl,hr1⟩:=zbV tu hx
     rw [List.getElem?_map] at hy
     obtain ⟨row,hrow,rfl⟩:=Option.map_eq_some_iff.mp hy
     have ei:l.take (i+1)=l.take i++[row]:=by rw [List.take_add_one,hrow]; rfl
     have ok:=Wf.last wf hrow
     have okd:=okr i row hrow
     have dr:DV H2 (.ref r) (.tuple (rowD row)):=.tup (m2 _ _ hr1) (zey row)
     have hr2:=m2 _ _ hr1
     cases row with
     | begin d =>
      have ok:d=(logB (l.take i)).length:=ok
      subst ok
      refine ⟨_,rfl,r,_,_,V.str "begin",rfl,rfl,SqT.of hr2,rfl,rfl,_,rfl,zby (decide_eq_true rfl) ?_⟩
      refine ⟨_,rfl,_,rfl,sz2,λ t nt=>⟨_,_,.tup (zaj hr2 nt) (zey _),.tup zab (zey (.begin (logB (l.take i)).length)),okd,okd,_,rfl,zaO (by simp) ?_⟩⟩
      have hg3:=zaj (o:=.tup (rowV (.begin (logB (l.take i)).length))) hg2 nt
      have hlen:(zay (logG (l.take i))).length<=63:=by unfold zay; rw [List.length_map]; exact gl i
      refine ⟨_,rfl,.inl ⟨rfl,_,SqL.of hg3⟩,_,rfl,pg,_,_,rfl,rfl,hg3,by rw [sizeLine_eq]; omega,?_⟩
      refine ⟨_,rfl,_,_,rfl,rfl,?_⟩
      have g0:∀ b o,H2 b=some o->b≠pg->upd (upd H2 t (.tup (rowV (.begin (logB (l.take i)).length)))) pg (.lst (zay (logG (l.take i))++[V.int ((logB (l.take i)).length:Int)])) b=some o:=λ b o e hb=>by rw [zae hb]; exact zaj e nt
      have gg:upd (upd H2 t (.tup (rowV (.begin (logB (l.take i)).length)))) pg (.lst (zay (logG (l.take i))++[V.int ((logB (l.take i)).length:Int)])) pg=some (.lst (zay (logG (l.take (i+1))))):=by
        rw [zab,ei,zbI]; show _=some (HO.lst (zay (logG (l.take i)++[_]))); unfold zay; rw [List.map_append]; rfl
      refine ⟨kvs,lb,some (.ref r),v6,v7,?_,λ b o e=>g0 b o (m2 b o e) (zaf e ng),gg,g0 _ _ hb2 gb.symm,g0 _ _ hf2 gf.symm,?_,?_,nli⟩
      . rw [ei,zbx,List.length_append]; rfl
      . rw [ei,scan_snoc]
        exact dl.zmZ (Nat.le_succ _) (λ d li xs hv e=>g0 li _ e (nli d li hv)) λ b xs e=>g0 b _ e (za2 e hg2 λ z=>nomatch z)
      . rw [ei,scan_snoc]; exact bk
     | write d k0 b0 v0 =>
      have ok:d∈logG (l.take i)/\b0=(scan (l.take i)).book k0:=ok
      have hk0:k0∈SN:=ki d k0 b0 v0 (List.mem_of_getElem? hrow)
      refine ⟨_,rfl,r,_,_,V.str "write",rfl,rfl,SqT.of hr2,rfl,rfl,_,rfl,zaO (nes _ _ (by decide +kernel)) ?_⟩
      refine ⟨_,rfl,r,_,_,V.int d,rfl,rfl,SqT.of hr2,rfl,_,rfl,pg,_,rfl,.inl (SqL.of hg2),rfl,zhu _,_,rfl,zaO (by rw [if_pos rfl,zlE,decide_eq_true ok.1]; rfl) ?_⟩
      refine ⟨_,rfl,r,_,_,V.str "write",rfl,rfl,SqT.of hr2,rfl,rfl,_,rfl,zby (decide_eq_true rfl) ?_⟩
      refine ⟨_,rfl,r,_,rfl,.inr (SqT.of hr2),rfl,_,rfl,zaO rfl ?_⟩
      refine ⟨_,rfl,r,_,_,V.int b0,rfl,rfl,SqT.of hr2,rfl,_,rfl,pb,rfl,.inl ⟨_,.of hb2⟩,_,rfl,r,_,_,V.str k0,rfl,rfl,SqT.of hr2,rfl,_,DGet.k (k:=Sum.inr k0) hb2,?_⟩
      rw [bk.val,<-ok.2]
      refine ⟨rfl,_,rfl,zaO (by rw [decide_eq_true rfl]; rfl) ?_⟩
      refine ⟨_,rfl,pf,rfl,.inl ⟨_,.of hf2⟩,_,rfl,r,_,_,V.int d,rfl,rfl,SqT.of hr2,rfl,Nat.zero_le _,λ n nn=>⟨_,DGet.k (k:=Sum.inl (d:Int)) (zaj hf2 nn),?_⟩⟩
      have g3:Same H2 (upd H2 n (.lst [])):=Same.zaq nn
      obtain ⟨a0,us0,ea0,ha0,ta0⟩:∃ a0 us0,(valV kvs (Sum.inl (d:Int))).getD (.ref n)=.ref a0/\upd H2 n (.lst []) a0=some (.lst us0)/\zao (upd H2 n (.lst [])) us0 (((scan (l.take i)).bef d).map zew):=by
        rcases dl.at_ d with ⟨q1,q2⟩ | ⟨li,us,q1,q2,q3⟩
        . rw [q1,q2]; exact ⟨n,[],rfl,zab,.nil⟩
        . rw [q1]; exact ⟨li,us,rfl,g3 _ _ q2,zaH g3 q3⟩
      rw [ea0]
      generalize upd H2 n (.lst [])=H3 at *
      have hl0:us0.length<=3000:=by
        rw [ta0.length,List.length_map]
        exact Nat.le_trans (zrI _ _) (by rw [List.length_take]; omega)
      have hr3:=g3 _ _ hr2
      refine ⟨_,rfl,r,_,_,V.str k0,rfl,rfl,SqT.of hr3,rfl,_,rfl,r,_,_,V.int b0,rfl,rfl,SqT.of hr3,rfl,sz2,λ t nt=>⟨sz1,λ n2 nn2=>⟨a0,n2,us0,[V.ref t],rfl,rfl,zaj (zaj ha0 nt) nn2,zab,by rw [sizeLine_eq]; show us0.length+1<=_; omega,λ p np=>?_⟩⟩⟩
      have g6:Same H3 (upd (upd (upd H3 t (.tup [V.str k0,V.int b0])) n2 (.lst [V.ref t])) p (.lst (us0++[V.ref t]))):=((Same.zaq nt).upd2 nn2).upd2 np
      have et:upd (upd (upd H3 t (.tup [V.str k0,V.int b0])) n2 (.lst [V.ref t])) p (.lst (us0++[V.ref t])) t=some (.tup [V.str k0,V.int b0]):=zaj (zaj zab nn2) np
      have ep:upd (upd (upd H3 t (.tup [V.str k0,V.int b0])) n2 (.lst [V.ref t])) p (.lst (us0++[V.ref t])) p=some (.lst (us0++[V.ref t])):=zab
      have np2:H2 p=none:=(g3.trans ((Same.zaq nt).upd2 nn2)).free np
      generalize upd (upd (upd H3 t (.tup [V.str k0,V.int b0])) n2 (.lst [V.ref t])) p (.lst (us0++[V.ref t]))=H6 at *
      have g26:=g3.trans g6
      have hf6:=g26 _ _ hf2
      have hb6:=g26 _ _ hb2
      have hr6:=g26 _ _ hr2
      refine ⟨_,rfl,_,rfl,r,_,_,V.int d,rfl,rfl,SqT.of hr6,rfl,pf,_,rfl,DPut.k (k:=Sum.inl (d:Int)) hf6 (by rw [sizeLine_eq]; have:=dl.len; omega),?_⟩
      have npf:p≠pf:=λ z=>by rw [z,hf2] at np2; cases np2
      have npg:p≠pg:=λ z=>by rw [z,hg2] at np2; cases np2
      have npb:p≠pb:=λ z=>by rw [z,hb2] at np2; cases np2
      have hr7:upd H6 pf (.dK (putK kvs (Sum.inl (d:Int)) (.ref p))) r=some (.tup (rowV (.write d k0 b0 v0))):=by rw [zae (za2 hr6 hf6 λ z=>nomatch z)]; exact hr6
      refine ⟨_,rfl,r,_,_,V.int v0,rfl,rfl,SqT.of hr7,rfl,_,rfl,_,rfl,r,_,_,V.str k0,rfl,rfl,SqT.of hr7,rfl,pb,_,rfl,DPut.k (k:=Sum.inr k0) (by rw [zae bf]; exact hb6) (by rw [zhG,sizeLine_eq]; have:=bk.len nd; omega),?_⟩
      rw [zhF]
      have g0:∀ b o,H6 b=some o->b≠pf->b≠pb->upd (upd H6 pf (.dK (putK kvs (Sum.inl (d:Int)) (.ref p)))) pb (.dK (bkV (bput lb k0 v0))) b=some o:=λ b o e h1 h2=>by rw [zae h2,zae h1]; exact e
      have it:∀ b xs,H6 b=some (.tup xs)->upd (upd H6 pf (.dK (putK kvs (Sum.inl (d:Int)) (.ref p)))) pb (.dK (bkV (bput lb k0 v0))) b=some (.tup xs):=λ b xs e=>g0 b _ e (za2 e hf6 λ z=>nomatch z) (za2 e hb6 λ z=>nomatch z)
      refine ⟨putK kvs (Sum.inl (d:Int)) (.ref p),_,_,_,_,by rw [ei,zbx,List.append_nil]; rfl,λ b o e=>g0 b o (g26 b o (m2 b o e)) (zaf e nf0) (zaf e nb0),?_,zab,by rw [zae bf.symm]; exact zab,?_,?_,?_⟩
      . rw [ei,zbI]; exact g0 _ _ (g26 _ _ hg2) gf gb
      . rw [ei,scan_snoc]
        refine dl.set (g0 _ _ ep npf npb) ?_ (λ b xs e=>g0 b _ (g26 _ _ e) (za2 e hf2 λ z=>nomatch z) (za2 e hb2 λ z=>nomatch z)) λ b xs e=>it b _ (g26 _ _ e)
        rw [List.map_append]
        exact ziM (zgL it (zaH g6 ta0)) (.cons ⟨t,rfl,it _ _ et⟩ .nil)
      . rw [ei,scan_snoc]; exact bk.put hk0 v0
      . intro e li hv
        rw [zmi] at hv
        by_cases z:(Sum.inl (e:Int):Key)=Sum.inl (d:Int)
        . rw [if_pos z] at hv; cases hv; exact npg
        . rw [if_neg z] at hv; exact nli e li hv
     | keep d =>
      have ok:d∈logG (l.take i):=ok
      refine ⟨_,rfl,r,_,_,V.str "keep",rfl,rfl,SqT.of hr2,rfl,rfl,_,rfl,zaO (nes _ _ (by decide +kernel)) ?_⟩
      refine ⟨_,rfl,r,_,_,V.int d,rfl,rfl,SqT.of hr2,rfl,_,rfl,pg,_,rfl,.inl (SqL.of hg2),rfl,zhu _,_,rfl,zaO (by rw [if_pos rfl,zlE,decide_eq_true ok]; rfl) ?_⟩
      refine ⟨_,rfl,r,_,_,V.str "keep",rfl,rfl,SqT.of hr2,rfl,rfl,_,rfl,zaO (nes _ _ (by decide +kernel)) ?_⟩
      refine ⟨_,rfl,_,rfl,r,_,_,V.int d,rfl,rfl,SqT.of hr2,rfl,sz2,λ t1 n1=>?_⟩
      have hr3:=zaj (o:=.tup [V.str "keep",V.int d]) hr2 n1
      refine ⟨_,rfl,r,_,_,V.int d,rfl,rfl,SqT.of hr3,rfl,sz2,λ t2 n2=>⟨sz2,λ ll nl=>?_⟩⟩
      refine ⟨.tuple (rowD (.keep d)),[.tuple (rowD (.keep d)),.tuple (rowD (.drop d))],.tup (zaj (zaj hr3 n2) nl) (zey _),.lst zab (.cons (.tup (zaj (zaj zab n2) nl) (zey (.keep d))) (.cons (.tup (zaj zab nl) (zey (.drop d))) .nil)),?_,okd,_,rfl,zaO (by simp) ?_⟩
      . intro e he
        rcases List.mem_cons.mp he with z | z
        . rw [z]; exact zfL λ d k b v e=>nomatch e
        . rw [List.mem_singleton.mp z]; exact zfL λ d k b v e=>nomatch e
      have hg3:=zaj (o:=.lst [V.ref t1,V.ref t2]) (zaj (o:=.tup [V.str "give up",V.int d]) (zaj (o:=.tup [V.str "keep",V.int d]) hg2 n1) n2) nl
      have hr5:=zaj (o:=.lst [V.ref t1,V.ref t2]) (zaj (o:=.tup [V.str "give up",V.int d]) hr3 n2) nl
      have m5:Same H2 (upd (upd (upd H2 t1 (.tup [V.str "keep",V.int d])) t2 (.tup [V.str "give up",V.int d])) ll (.lst [V.ref t1,V.ref t2])):=((Same.zaq n1).upd2 n2).upd2 nl
      rw [zgF] at hg3
      refine ⟨_,rfl,.inl ⟨rfl,_,SqL.of hg3⟩,_,rfl,r,_,_,V.int d,rfl,rfl,SqT.of hr5,rfl,pg,_,(d:Int),rfl,rfl,hg3,List.mem_map.mpr ⟨d,ok,rfl⟩,?_⟩
      rw [zix,<-zgF]
      have g0:∀ b o,H2 b=some o->b≠pg->upd (upd (upd (upd H2 t1 (.tup [V.str "keep",V.int d])) t2 (.tup [V.str "give up",V.int d])) ll (.lst [V.ref t1,V.ref t2])) pg (.lst (zay ((logG (l.take i)).erase d))) b=some o:=λ b o e hb=>by rw [zae hb]; exact m5 b o e
      have gg:upd (upd (upd (upd H2 t1 (.tup [V.str "keep",V.int d])) t2 (.tup [V.str "give up",V.int d])) ll (.lst [V.ref t1,V.ref t2])) pg (.lst (zay ((logG (l.take i)).erase d))) pg=some (.lst (zay (logG (l.take (i+1))))):=by rw [zab,ei,zbI]; rfl
      dsimp only
      show tIfS _ _ _ _ _ (upd (upd (upd (upd H2 t1 (.tup [V.str "keep",V.int d])) t2 (.tup [V.str "give up",V.int d])) ll (.lst [V.ref t1,V.ref t2])) pg (.lst (zay ((logG (l.take i)).erase d))))
      generalize upd (upd (upd (upd H2 t1 (.tup [V.str "keep",V.int d])) t2 (.tup [V.str "give up",V.int d])) ll (.lst [V.ref t1,V.ref t2])) pg (.lst (zay ((logG (l.take i)).erase d)))=G at *
      have hrG:=g0 _ _ hr2 (za2 hr2 hg2 λ z=>nomatch z)
      have hbG:=g0 _ _ hb2 gb.symm
      have hfG:=g0 _ _ hf2 gf.symm
      have dlG:=dl.zmZ (H':=G) (Nat.le_succ _) (λ d li xs hv e=>g0 li _ e (nli d li hv)) λ b xs e=>g0 b _ e (za2 e hg2 λ z=>nomatch z)
      have mG:Same H G:=λ b o e=>g0 b o (m2 b o e) (zaf e ng)
      have eB:(logB (l.take (i+1))).length=(logB (l.take i)).length:=by rw [ei,zbx,List.append_nil]
      refine ⟨_,rfl,r,_,_,V.str "keep",rfl,rfl,SqT.of hrG,rfl,rfl,_,rfl,zaO (nes _ _ (by decide +kernel)) ?_⟩
      refine ⟨kvs,lb,_,_,_,by rw [eB]; rfl,mG,gg,hbG,hfG,?_,?_,nli⟩
      . rw [ei,scan_snoc]; exact dlG
      . rw [ei,scan_snoc]; exact bk
     | drop d =>
      have ok:d∈logG (l.take i):=ok
      refine ⟨_,rfl,r,_,_,V.str "give up",rfl,rfl,SqT.of hr2,rfl,rfl,_,rfl,zaO (nes _ _ (by decide +kernel)) ?_⟩
      refine ⟨_,rfl,r,_,_,V.int d,rfl,rfl,SqT.of hr2,rfl,_,rfl,pg,_,rfl,.inl (SqL.of hg2),rfl,zhu _,_,rfl,zaO (by rw [if_pos rfl,zlE,decide_eq_true ok]; rfl) ?_⟩
      refine ⟨_,rfl,r,_,_,V.str "give up",rfl,rfl,SqT.of hr2,rfl,rfl,_,rfl,zaO (nes _ _ (by decide +kernel)) ?_⟩
      refine ⟨_,rfl,_,rfl,r,_,_,V.int d,rfl,rfl,SqT.of hr2,rfl,sz2,λ t1 n1=>?_⟩
      have hr3:=zaj (o:=.tup [V.str "keep",V.int d]) hr2 n1
      refine ⟨_,rfl,r,_,_,V.int d,rfl,rfl,SqT.of hr3,rfl,sz2,λ t2 n2=>⟨sz2,λ ll nl=>?_⟩⟩
      refine ⟨.tuple (rowD (.drop d)),[.tuple (rowD (.keep d)),.tuple (rowD (.drop d))],.tup (zaj (zaj hr3 n2) nl) (zey _),.lst zab (.cons (.tup (zaj (zaj zab n2) nl) (zey (.keep d))) (.cons (.tup (zaj zab nl) (zey (.drop d))) .nil)),?_,okd,_,rfl,zaO (by simp) ?_⟩
      . intro e he
        rcases List.mem_cons.mp he with z | z
        . rw [z]; exact zfL λ d k b v e=>nomatch e
        . rw [List.mem_singleton.mp z]; exact zfL λ d k b v e=>nomatch e
      have hg3:=zaj (o:=.lst [V.ref t1,V.ref t2]) (zaj (o:=.tup [V.str "give up",V.int d]) (zaj (o:=.tup [V.str "keep",V.int d]) hg2 n1) n2) nl
      have hr5:=zaj (o:=.lst [V.ref t1,V.ref t2]) (zaj (o:=.tup [V.str "give up",V.int d]) hr3 n2) nl
      have m5:Same H2 (upd (upd (upd H2 t1 (.tup [V.str "keep",V.int d])) t2 (.tup [V.str "give up",V.int d])) ll (.lst [V.ref t1,V.ref t2])):=((Same.zaq n1).upd2 n2).upd2 nl
      rw [zgF] at hg3
      refine ⟨_,rfl,.inl ⟨rfl,_,SqL.of hg3⟩,_,rfl,r,_,_,V.int d,rfl,rfl,SqT.of hr5,rfl,pg,_,(d:Int),rfl,rfl,hg3,List.mem_map.mpr ⟨d,ok,rfl⟩,?_⟩
      rw [zix,<-zgF]
      have g0:∀ b o,H2 b=some o->b≠pg->upd (upd (upd (upd H2 t1 (.tup [V.str "keep",V.int d])) t2 (.tup [V.str "give up",V.int d])) ll (.lst [V.ref t1,V.ref t2])) pg (.lst (zay ((logG (l.take i)).erase d))) b=some o:=λ b o e hb=>by rw [zae hb]; exact m5 b o e
      have gg:upd (upd (upd (upd H2 t1 (.tup [V.str "keep",V.int d])) t2 (.tup [V.str "give up",V.int d])) ll (.lst [V.ref t1,V.ref t2])) pg (.lst (zay ((logG (l.take i)).erase d))) pg=some (.lst (zay (logG (l.take (i+1))))):=by rw [zab,ei,zbI]; rfl
      dsimp only
      show tIfS _ _ _ _ _ (upd (upd (upd (upd H2 t1 (.tup [V.str "keep",V.int d])) t2 (.tup [V.str "give up",V.int d])) ll (.lst [V.ref t1,V.ref t2])) pg (.lst (zay ((logG (l.take i)).erase d))))
      generalize upd (upd (upd (upd H2 t1 (.tup [V.str "keep",V.int d])) t2 (.tup [V.str "give up",V.int d])) ll (.lst [V.ref t1,V.ref t2])) pg (.lst (zay ((logG (l.take i)).erase d)))=G at *
      have hrG:=g0 _ _ hr2 (za2 hr2 hg2 λ z=>nomatch z)
      have hbG:=g0 _ _ hb2 gb.symm
      have hfG:=g0 _ _ hf2 gf.symm
      have dlG:=dl.zmZ (H':=G) (Nat.le_succ _) (λ d li xs hv e=>g0 li _ e (nli d li hv)) λ b xs e=>g0 b _ e (za2 e hg2 λ z=>nomatch z)
      have mG:Same H G:=λ b o e=>g0 b o (m2 b o e) (zaf e ng)
      have eB:(logB (l.take (i+1))).length=(logB (l.take i)).length:=by rw [ei,zbx,List.append_nil]
      refine ⟨_,rfl,r,_,_,V.str "give up",rfl,rfl,SqT.of hrG,rfl,rfl,_,rfl,zby (decide_eq_true rfl) ?_⟩
      refine ⟨_,rfl,pf,rfl,.inl ⟨_,.of hfG⟩,_,rfl,r,_,_,V.int d,rfl,rfl,SqT.of hrG,rfl,Nat.zero_le _,λ n nn=>⟨_,DGet.k (k:=Sum.inl (d:Int)) (zaj hfG nn),?_⟩⟩
      have g3:Same G (upd G n (.lst [])):=Same.zaq nn
      obtain ⟨a0,us0,ea0,ha0,ta0⟩:∃ a0 us0,(valV kvs (Sum.inl (d:Int))).getD (.ref n)=.ref a0/\upd G n (.lst []) a0=some (.lst us0)/\zao (upd G n (.lst [])) us0 (((scan (l.take i)).bef d).map zew):=by
        rcases dlG.at_ d with ⟨q1,q2⟩ | ⟨li,us,q1,q2,q3⟩
        . rw [q1,q2]; exact ⟨n,[],rfl,zab,.nil⟩
        . rw [q1]; exact ⟨li,us,rfl,g3 _ _ q2,zaH g3 q3⟩
      rw [ea0]
      generalize upd G n (.lst [])=H3 at *
      have hb3:=g3 _ _ hbG
      refine ⟨a0,_,rfl,SqL.of ha0,?_⟩
      have hul0:us0.length=((scan (l.take i)).bef d).length:=by rw [ta0.length,List.length_map]
      have tr:=zmk ta0
      rw [<-List.map_reverse] at tr
      refine zrB (xs:=us0) (λ j σ H4=>∃ lb' v6 v7,σ=[some (.ref q),some (.ref pg),some (.int ((logB (l.take i)).length:Int)),some (.ref pb),some (.ref pf),some (.ref r),v6,v7]/\(∀ b o,H3 b=some o->b≠pb->H4 b=some o)/\H4 pb=some (.dK (bkV lb'))/\BkIs SN lb' ((((scan (l.take i)).bef d).reverse.take j).foldl (λ bk p=>up bk p.1 p.2) (scan (l.take i)).book)) ⟨lb,v6,v7,rfl,λ _ _ e _=>e,hb3,bk⟩ (λ j σ H4 _ ⟨_,_,_,_,kp,_⟩=>SqL.of (kp _ _ ha0 (za2 ha0 hb3 λ z=>nomatch z))) ?_ ?_
      . rintro j y σ H4 hy ⟨lb',v6,v7,rfl,kp,hb4,bk4⟩
        obtain ⟨z,hz,t,rfl,ht⟩:=zbV tr hy
        rw [List.getElem?_map] at hz
        obtain ⟨p,hp,rfl⟩:=Option.map_eq_some_iff.mp hz
        have ej:((scan (l.take i)).bef d).reverse.take (j+1)=((scan (l.take i)).bef d).reverse.take j++[p]:=by rw [List.take_add_one,hp]; rfl
        have hpk:p.1∈SN:=zsQ _ (ki.pre i) d p (List.mem_reverse.mp (List.mem_of_getElem? hp))
        refine ⟨t,_,rfl,SqT.of (kp _ _ ht (za2 ht hb3 λ z=>nomatch z)),rfl,_,_,rfl,_,_,rfl,rfl,_,rfl,_,rfl,_,rfl,pb,_,rfl,DPut.k (k:=Sum.inr p.1) hb4 (by rw [zhG,sizeLine_eq]; have:=bk4.len nd; omega),?_⟩
        rw [zhF]
        refine ⟨_,_,_,rfl,λ b o e hb=>by rw [zae hb]; exact kp b o e hb,zab,?_⟩
        rw [ej,List.foldl_append]
        exact bk4.put hpk p.2
      . rintro σ H4 ⟨lb',v6,v7,rfl,kp,hb4,bk4⟩
        rw [hul0,<-List.length_reverse,List.take_length,<-zpu] at bk4
        refine ⟨kvs,lb',_,_,_,by rw [eB],λ b o e=>kp b o (g3 b o (mG b o e)) (zaf e nb0),kp _ _ (g3 _ _ gg) gb,hb4,kp _ _ (g3 _ _ hfG) bf.symm,?_,?_,nli⟩
        . rw [ei,scan_snoc]
          exact dlG.zmZ (Nat.le_refl _) (λ d li xs hv e=>kp li _ (g3 _ _ e) (za2 (g3 _ _ e) hb3 λ z=>nomatch z)) λ b xs e=>kp b _ (g3 _ _ e) (za2 (g3 _ _ e) hb3 λ z=>nomatch z)
        . rw [ei,scan_snoc]; exact bk4
   . rintro σ H2 ⟨kvs,lb,v5,v6,v7,rfl,m2,_⟩
     exact k _ m2
theorem zsv (T:Txt K mg A F):FnOk P w K mg base (CX1 P w) 12 (F.f 48) (F.fd 48) ["_law_script"] (zr5 K):=by
 have G_Hall_init:=@zki P w K mg base A F T
 have G__law_acts:=@zkd P w K mg base A F T
 have G__law_do:=@znn P w K mg base A F T
 have G__law_count:=@zi3 P w K mg base A F T
 have G_Hall_log:=@zg6 P w K mg base A F T
 have G_Hall_done_by:=@zg9 P w K mg base A F T
 have G__law_rows_right:=@zfj P w K mg base A F T
 have G__law_whole:=@zi2 P w K mg base A F T
 refine T.ztr.okN zgd (λ vs H Q E h=>?_) (λ cdv A' outer s H vs Q E hr h=>?_)
 . obtain ⟨a,ns,rfl,_⟩:=h
   rfl
 . obtain ⟨a,ns,rfl,hS,q⟩:=h
   have hu:=zeg hr
   have hu64:=hu64 hr
   have nes:∀ a b:Str,a≠b->decide (V.str a=V.str b)=false:=λ a b h=>decide_eq_false λ z=>h (V.str.inj z)
   refine ⟨_,(zac (zaI (i:=1) zgd.nd rfl (by walk_at "loc") (zi0 T.zru G_Hall_init (hmr hr) rfl T.zsF T.zlV .nil zaK))
     (zac (zaI (i:=2) zgd.nd rfl (by walk_at "loc") (zbk zad))
     (zac (zeA PassesOwn.never rfl (zdv (zaV G__law_acts (hmr hr) rfl T.zlH T.zlD T.zlQ .nil zaK (zaa (pv 0) zad))) (zaU (i:=3) zgd.nd rfl (by walk_at "loc")) (zac (zaG (zaV G__law_do (hmr hr) rfl T.zoY T.zoL T.zpn .nil zaK (zaa (pv 1) (zaa (pv 3) zad))))
     (zac (zaI (i:=4) zgd.nd rfl (by walk_at "loc") (zcX (pv 1) T.zam T.zis G_Hall_log (hmr hr) T.ziH .nil zaK))
     (zac (zbC (PW.pt (zpJ (zax (zor hu64) (zmw zq7 (pv 4) zrj (zlk (zbf za5 (by rfl) T.zhZ PySem.boot_len (zaa (pv 2) zad)))) (pv 2) (zaC _)) (zoh (zqr (zj3 (zaV G__law_rows_right (hmr hr) rfl T.zf0 T.zfW T.zf5 .nil zaK (zaa (pv 4) zad))))))) (zah (zaw zj6)) zaR)
     (zah (zaI (i:=2) zgd.nd rfl (by walk_at "loc") (pv 4)))))))
     (zac (zeA PassesOwn.never rfl (zg2 rfl T.zlq (zaa (zaV G__law_count (hmr hr) rfl T.zkE T.zkA T.zkV .nil zaK (zaa (pv 1) zad)) zad)) (zaU (i:=5) zgd.nd rfl (by walk_at "loc")) (zac (zfO (i:=6) 1 [5] ["_law_row","_law_deed"] zgd.nd rfl (by walk_at "loc") rfl (by walk_at "blk") (zg1 (pv 2)) (λ C fp s H=>(zaU (i:=0) (show (["_law_row","_law_deed"]:List Str).Nodup by decide +kernel) rfl (by walk_at "loc"))) (λ C fp s H=>zeW (PW.pt (zms (zax zb4 (zaL (zef (K:=K) rfl) (pv 0) zak (λ _ _=>rfl)) zaQ (zaC _)) (ziV (zax zb4 (zaL (zef (K:=K) rfl) (pv 0) zak (λ _ _=>rfl)) (pv 1) (zaC _)))))) (λ C fp s H=>(zbk (zaa zaQ (zaa (zaL (zef (K:=K) rfl) (pv 0) zak (λ _ _=>rfl)) (zaa (zaL (zef (K:=K) rfl) (pv 0) zak (λ _ _=>rfl)) zad))))))
     (zah (zbC (zax (zor hu64) (zd9 1 [] ["_law_one"] rfl (by walk_at "blk") (zg1 (zaD (pv 1) T.zam T.zh1 G_Hall_done_by (hmr hr) T.zh7 .nil zaK (zaa (pv 5) zad))) (λ C fp s H=>(zaU (i:=0) (show (["_law_one"]:List Str).Nodup by decide +kernel) rfl (by walk_at "loc"))) (λ C fp s H=>zeW (zax zb4 (zaL (zef (K:=K) rfl) (pv 0) zak (λ _ _=>rfl)) zaQ (zaC _))) (λ C fp s H=>(pv 0))) (pv 6) (zaC _)) (zah (zaw zj6)) zaR))))
     (zah (zaw (zbf (zqi rfl) (by rfl) T.zte boot_all (zaa (zd9 1 [] ["_law_row"] rfl (by walk_at "blk") (zg1 (pv 2)) (λ C fp s H=>(zaU (i:=0) (show (["_law_row"]:List Str).Nodup by decide +kernel) rfl (by walk_at "loc"))) (λ C fp s H=>ziW) (λ C fp s H=>(zaV G__law_whole (hmr hr) rfl T.zkD T.zkz T.zkU .nil zaK (zaa (zaL (zef (K:=K) rfl) (pv 0) zak (λ _ _=>rfl)) zad)))) zad)))))))),?_⟩
   intro x dx nxx ndx nex
   refine ⟨x,dx,rfl,zab,λ H1 ρ ad ea hh kp=>⟨rfl,?_⟩⟩
   have s0:Same H (upd (upd H dx (.own x)) x (.ins A.za1 dx [])):=(Same.zaq ndx).upd2 (by rw [zae nex.symm]; exact nxx)
   have s1:Same H H1:=λ b o e=>(kp b o (s0 b o e) (zaf e nxx)).1
   have hh:zai A ρ ad TH.empty (zau (TH.empty:HS Str)) H1:=hh
   refine ⟨Nat.zero_le _,λ pt npt=>?_⟩
   have sp1:Same H1 (upd H1 pt (.tup [])):=Same.zaq npt
   refine ⟨_,rfl,a,ns,rfl,sp1.seq (s1.seq hS),λ H2 qa us As nq m2 hq tu fu vd hl=>⟨qa,rfl,⟨_,SqL.of hq⟩,?_⟩⟩
   have hul:us.length=As.length:=by rw [tu.length,List.length_map]
   refine zft (xs:=us) (λ i σ H3=>∃ s ρ' ad' v3 v4 pt,σ=[some (.ref a),some (.ref x),some (.ref pt),v3,v4,none,none]/\ad' Role.hall=x/\zai A ρ' ad' s (zau s) H3/\Run ns s i/\zaT s/\s.n=zdn (As.take i)/\H3 qa=some (.lst us)/\ρ' qa=.other/\(∀ p,V.ref p∈us->ρ' p=.other)/\zao H3 us (As.map actD)/\zm2 H3 pt s.log) ⟨TH.empty,ρ,ad,none,none,pt,rfl,ea,(hh.grow sp1).grow m2,⟨Ready.empty,λ k h=>by cases h⟩,All.empty.l,rfl,hq,(hh.grow sp1).fr _ nq,λ p h=>(hh.grow sp1).fr _ (fu p h),tu,[],m2 _ _ zab,.nil⟩ (λ i σ H3 _ ⟨_,_,_,_,_,_,_,_,_,_,_,_,e,_⟩=>SqL.of e) ?_ ?_
   . rintro i y σ H3 hy ⟨s,ρ3,ad3,v3,v4,pt,rfl,ea3,h3,R3,l3,n3,hq3,ro3,rp3,t3,ub,hb3,tb3⟩
     have hi:i < us.length:=(List.getElem?_eq_some_iff.mp hy).1
     obtain ⟨z,hz,kq,rfl,hkq⟩:=zbV t3 hy
     rw [List.getElem?_map] at hz
     obtain ⟨act,hact,rfl⟩:=Option.map_eq_some_iff.mp hz
     have ok3:=vd i act hact
     rw [<-n3] at ok3
     have hn3:s.n < 63:=by
       have:=zhH (As.take i)
       rw [List.length_take] at this
       omega
     have e5:As.take (i+1)=As.take i++[act]:=by rw [List.take_add_one,hact]; rfl
     obtain ⟨R4,n4⟩:=R3.step (by omega) hn3 ok3
     have l4:=zpY R3 l3 act
     obtain ⟨more,hmore⟩:=zaW.step R3 act
     have n4':(zeG s act).n<=63:=by
       have:=zhH (As.take (i+1))
       rw [List.length_take] at this
       rw [e5,zdD] at this
       omega
     subst ea3
     refine ⟨_,rfl,_,rfl,ρ3,ad3,s,kq,act,i,ns,rfl,h3,R3,by omega,hn3,ok3,hkq,λ v H4 ρ4 ad4 ea4 h4 f4=>?_⟩
     generalize hs':zeG s act=s' at *
     obtain ⟨dx4,hp4⟩:=h4.hall
     rw [<-ea4]
     refine ⟨_,rfl,_,dx4,_,rfl,hp4,rfl,ρ4,ad4,s',_,rfl,h4,λ H5 q5 us5 nq5 m5 e5' t5=>?_⟩
     have f5:Frame ρ3 H3 ρ4 H5:=f4.trans (Frame.grow m5)
     have hb5:=f5.t _ _ hb3
     have tb5:=zgL f5.t tb3
     have lb5:ub.length=s.log.length:=by rw [tb3.length,List.length_map]
     have rk:zcn s'.seen s'.log:=(zmF R4.r.L.e l4).rows
     have okk:∀ k∈s'.seen,PyData.strOk k=true:=λ k hk=>by
       obtain ⟨j,_,rfl⟩:=R4.k k hk
       exact zqD ns j
     have rk0:zcn s'.seen s.log:=λ d k b v m=>rk d k b v (by rw [hmore]; exact List.mem_append_left _ m)
     refine ⟨_,rfl,_,rfl,pt,_,rfl,.inr (SqT.of hb5),?_⟩
     rw [lb5]
     refine ⟨_,rfl,znW (l:=s'.log) (i:=s.log.length) ⟨us5,e5',t5⟩ (by rw [hmore,List.length_append]; omega) λ q6 H6 m6 r6=>?_⟩
     rw [hmore,List.take_left] at r6
     obtain ⟨us6,e6,t6⟩:=r6
     refine ⟨_,rfl,_,_,.tup e6 (zlj t6),.tup (m6 _ _ hb5) (zlj (zaH m6 tb5)),zoe rk0 okk,zoe rk0 okk,_,rfl,zaO (by simp) ?_⟩
     refine ⟨_,rfl,q5,s'.log,s'.seen,rfl,⟨us5,m6 _ _ e5',zaH m6 t5⟩,(R4.r.L.sm R4.r.c).lg,l4.wf,by rw [l4.b,List.length_range]; exact n4',rk,R4.r.L.e.snd,R4.r.L.sn,okk,λ H7 m7=>?_⟩
     have m57:=m6.trans m7
     have f7:Frame ρ3 H3 ρ4 H7:=f5.trans (Frame.grow m57)
     obtain ⟨t7,r7⟩:=zig f7 rp3 t3
     refine ⟨_,rfl,zaO rfl ?_⟩
     exact ⟨_,rfl,s',ρ4,ad4,_,_,q5,rfl,rfl,((h4.grow m5).grow m57),R4,l4,by rw [e5,zdD,n4,n3],(f7 _ _ hq3 ro3).1,(f7 _ _ hq3 ro3).2,r7,t7,us5,m57 _ _ e5',zaH m57 t5⟩
   . rintro σ H3 ⟨s,ρ3,ad3,v3,v4,pt,rfl,ea3,h3,R3,l3,n3,_,_,_,_,ub,hb3,tb3⟩
     have hn3:s.n<=63:=by
       rw [hul,List.take_length] at n3
       have:=zhH As
       omega
     have sm:=R3.r.L.sm R3.r.c
     have hlog:=sm.lg
     have ki:=zmF R3.r.L.e l3
     have okk:∀ k∈s.seen,PyData.strOk k=true:=λ k hk=>by
       obtain ⟨j,_,rfl⟩:=R3.k k hk
       exact zqD ns j
     have lb3:ub.length=s.log.length:=by rw [tb3.length,List.length_map]
     subst ea3
     obtain ⟨dx3,hp3⟩:=h3.hall
     refine ⟨_,rfl,ρ3,ad3,s,_,rfl,h3,hlog,λ H4 m4=>?_⟩
     rw [l3.b,List.length_range]
     refine ⟨_,rfl,by omega,by omega,?_⟩
     refine zo2 (n:=s.n) (λ i σ G=>∃ v5 v6,σ=[some (.ref a),some (.ref (ad3 .hall)),some (.ref pt),v3,v4,v5,v6]/\Same H3 G) ⟨_,_,rfl,m4⟩ ?_ ?_
     . rintro d σ G hd ⟨v5,v6,rfl,mG⟩
       rw [Int.zero_add]
       have hbG:=mG _ _ hb3
       have tbG:=zaH mG tb3
       refine ⟨_,rfl,pt,rfl,⟨_,SqT.of hbG⟩,?_⟩
       have none_:∀ (row:Row Str) (d:Nat),(∀ k b v,row≠Row.write d k b v)->logW [row] d=[]:=λ row d h=>by
         cases row with
         | write e k b v =>
          unfold logW
          by_cases z:e=d
          . subst z; exact absurd rfl (h k b v)
          . simp [z]
         | _=>rfl
       refine zgG (xs:=ub) (λ i ys σ H5=>∃ v0,σ=[v0,some (.int (d:Int))]/\Same G H5/\ys.length<=i/\zao H5 ys ((logW (s.log.take i) d).map wV)) ⟨none,rfl,Same.refl G,Nat.le_refl _,.nil⟩ (λ i ys σ H5 ⟨_,_,e,hy,_⟩=>⟨SqT.of (e _ _ hbG),hy⟩) (by rw [lb3,sizeLine_eq]; omega) ?_ ?_
       . rintro i x ys σ H5 hlt hx ⟨v0,rfl,m5,hy,t5⟩
         obtain ⟨y,hy1,r,rfl,hr1⟩:=zbV tbG hx
         rw [List.getElem?_map] at hy1
         obtain ⟨row,hrow,rfl⟩:=Option.map_eq_some_iff.mp hy1
         have ei:s.log.take (i+1)=s.log.take i++[row]:=by rw [List.take_add_one,hrow]; rfl
         have hr5:=m5 _ _ hr1
         have idle:(∀ k b v,row≠.write d k b v)->Nx ub.length i (∃ v0',[some (V.ref r),some (V.int (d:Int))]=[v0',some (V.int (d:Int))]/\Same G H5/\ys.length<=i+1/\zao H5 ys ((logW (s.log.take (i+1)) d).map wV)):=λ hn=>nx hlt ⟨_,rfl,m5,by omega,by
          have:logW (s.log.take (i+1)) d=logW (s.log.take i) d:=by rw [ei]; unfold logW; rw [List.filterMap_append]; exact (congrArg _ (none_ row d hn)).trans (List.append_nil _)
          rw [this]; exact t5⟩
         cases row with
         | begin e=>exact ⟨_,rfl,r,_,_,V.str "begin",rfl,rfl,SqT.of hr5,rfl,rfl,_,rfl,zaO (nes _ _ (by decide +kernel)) (iteF (idle λ _ _ _=>nofun))⟩
         | keep e=>exact ⟨_,rfl,r,_,_,V.str "keep",rfl,rfl,SqT.of hr5,rfl,rfl,_,rfl,zaO (nes _ _ (by decide +kernel)) (iteF (idle λ _ _ _=>nofun))⟩
         | drop e=>exact ⟨_,rfl,r,_,_,V.str "give up",rfl,rfl,SqT.of hr5,rfl,rfl,_,rfl,zaO (nes _ _ (by decide +kernel)) (iteF (idle λ _ _ _=>nofun))⟩
         | write e k0 b0 v0' =>
          refine ⟨_,rfl,r,_,_,V.str "write",rfl,rfl,SqT.of hr5,rfl,rfl,_,rfl,zby (decide_eq_true rfl) ?_⟩
          refine ⟨_,rfl,r,_,_,V.int e,rfl,rfl,SqT.of hr5,rfl,_,rfl,rfl,_,rfl,?_⟩
          by_cases z:e=d
          . subst z
            refine zby (decide_eq_true rfl) ⟨_,rfl,r,_,_,V.str k0,rfl,rfl,SqT.of hr5,rfl,_,rfl,r,_,_,V.int v0',rfl,rfl,SqT.of hr5,rfl,sz3,λ n hn=>nx hlt ⟨_,rfl,m5.upd2 hn,by rw [List.length_append,List.length_singleton]; omega,?_⟩⟩
            rw [ei,zfn]
            show zao _ _ ((logW (s.log.take i) e++if e=e then [(k0,v0')] else []).map wV)
            rw [if_pos rfl,List.map_append]
            exact S6.zbS (zaH (Same.zaq hn) t5) ⟨n,rfl,zab⟩
          . exact zaO (decide_eq_false λ y=>z (by have:=V.int.inj y; omega)) (idle λ _ _ _ y=>z (by cases y; rfl))
       rintro ys σ H5 ⟨v0,rfl,m5,hy,t5⟩
       rw [lb3,List.take_length,l3.w d] at t5
       intro n hn
       have m6:Same G (upd H5 n (.lst ys)):=m5.upd2 hn
       have e6:upd H5 n (.lst ys) n=some (.lst ys):=zab
       have t6:=zaH (Same.zaq (o:=.lst ys) hn) t5
       generalize upd H5 n (.lst ys)=H6 at *
       have m36:=mG.trans m6
       refine ⟨_,rfl,_,dx3,_,rfl,m36 _ _ hp3,rfl,_,rfl,ρ3,ad3,s,_,(d:Int),rfl,h3.grow m36,by omega,sm.dn,.inl ⟨d,rfl,hd,λ H7 q7 us7 m7 e7 t7=>⟨q7,rfl,⟨_,SqT.of e7⟩,?_⟩⟩⟩
       have l7:us7.length=(s.deed d).done.length:=by rw [t7.length,List.length_map]
       refine zgG (xs:=us7) (λ i ys σ H8=>∃ v0,σ=[v0]/\H8=H7/\ys.length<=i/\zao H7 ys ((zar ((s.deed d).done.take i)).map wV)) ⟨none,rfl,rfl,Nat.le_refl _,.nil⟩ (λ i ys σ H8 ⟨_,_,e,hy,_⟩=>⟨SqT.of (by rw [e]; exact e7),hy⟩) (by rw [l7,sizeLine_eq]; have:=sm.dn d; omega) ?_ ?_
       . rintro i x ys σ H8 hlt hx ⟨v0,rfl,rfl,hy,t8⟩
         obtain ⟨y,hy1,r,rfl,hr1⟩:=zbV t7 hx
         rw [List.getElem?_map] at hy1
         obtain ⟨b,hb,rfl⟩:=Option.map_eq_some_iff.mp hy1
         have ei:(s.deed d).done.take (i+1)=(s.deed d).done.take i++[b]:=by rw [List.take_add_one,hb]; rfl
         refine ⟨_,rfl,r,_,_,_,rfl,rfl,SqT.of hr1,rfl,rfl,_,rfl,?_⟩
         cases hw:b.wr with
         | true =>
          refine zby (by simp) ⟨_,rfl,nx hlt ⟨_,rfl,rfl,by rw [List.length_append,List.length_singleton]; omega,?_⟩⟩
          rw [ei,zbJ,hw,if_pos rfl,List.map_append]
          exact S6.zbS t8 ⟨r,rfl,by rw [zsT hw] at hr1; exact hr1⟩
         | false =>
          refine zaO (nes _ _ (by decide +kernel)) (nx hlt ⟨_,rfl,rfl,by omega,?_⟩)
          rw [ei,zbJ,hw,if_neg Bool.false_ne_true,List.append_nil]; exact t8
       . rintro ys' σ H8 ⟨v0,rfl,rfl,hy',t8⟩
         rw [l7,List.take_length] at t8
         have okw:zgs (.list ((zar (s.deed d).done).map wD)):=w_ok λ p hp=>okk _ (ki d p (by rw [l3.w d]; exact hp))
         intro n2 hn2
         refine ⟨_,rfl,_,_,.lst zab (w_dv (zaH (Same.zaq hn2) t8)),.lst (zaj (m7 _ _ e6) hn2) (w_dv (zaH (m7.upd2 hn2) t6)),okw,okw,_,rfl,zaO (by simp) ⟨_,_,rfl,m36.trans (m7.upd2 hn2)⟩⟩
     . rintro σ G ⟨v5,v6,rfl,mG⟩
       have hbG:=mG _ _ hb3
       have tbG:=zaH mG tb3
       refine ⟨_,rfl,pt,rfl,⟨_,SqT.of hbG⟩,?_⟩
       refine zgG (xs:=ub) (λ i ys σ H5=>∃ v0,σ=[v0]/\H5=G/\ys=(List.replicate i true).map V.bl) ⟨none,rfl,rfl,rfl⟩ (λ i ys σ H5 ⟨_,_,e,hy⟩=>⟨SqT.of (by rw [e]; exact hbG),by rw [hy,List.length_map,List.length_replicate]; exact Nat.le_refl _⟩) (by rw [lb3,sizeLine_eq]; omega) ?_ ?_
       . rintro i x ys σ H5 hlt hx ⟨v0,rfl,rfl,rfl⟩
         obtain ⟨y,hy1,r,rfl,hr1⟩:=zbV tbG hx
         rw [List.getElem?_map] at hy1
         obtain ⟨row,hrow,rfl⟩:=Option.map_eq_some_iff.mp hy1
         have h1:∃ d:Int,(rowV row)[1]?=some (V.int d):=by cases row <;> exact ⟨_,rfl⟩
         obtain ⟨d,hd⟩:=h1
         refine ⟨_,rfl,r,_,_,V.int d,rfl,rfl,SqT.of hr1,zbm (j:=1) hd,d,rfl,nx hlt ⟨_,rfl,rfl,?_⟩⟩
         rw [List.replicate_succ',List.map_append]; rfl
       . rintro ys σ H5 ⟨v0,rfl,rfl,rfl⟩
         intro n hn
         refine ⟨n,List.replicate ub.length true,rfl,SqL.of zab,?_⟩
         have:(List.replicate ub.length true).all id=true:=by rw [List.all_eq_true]; intro b hb; rw [List.eq_of_mem_replicate hb]; rfl
         rw [this]; exact q _
end
end TP
end
section
namespace TP
open PySem L2 TH PyProof.Rows
def AA:Ad:=⟨59,97,177,424,204,216⟩
def ff:List Addr:=[232,442,435,454,461,468,77,239,28,337,344,115,120,127,134,148,42,365,155,174,393,386,379,89,407,35,94,160,141,421,414,400,372,358,351,56,246,253,260,84,267,475,482,330,494,487,281,449,499]
def FF (K:PySem.W.Frag):Fs:=⟨λ i=>ff.getD i 0,λ i=>fdOf K (ff.getD i 0)⟩
def exps:List (Option FV):=[fE "__init__" "Hall.__init__" zeQ,fE "_law_mix" "_law_mix" zfF,fE "_law_cell" "_law_cell" zeI,fE "_law_key" "_law_key" zfG,fE "_law_act" "_law_act" zfH,fE "_law_acts" "_law_acts" zeK,fE "__init__" "Record.__init__" zds,fE "begin" "Hall.begin" zd5,fE "is_whole" "is_whole" zfE,fE "record_of" "Hall.record_of" zcx,fE "refuse_unless_going" "Hall.refuse_unless_going" zbc,fE "__init__" "Desk.__init__" zeU,fE "hindering" "Desk.hindering" zcA,fE "lets" "Desk.lets" zeT,fE "lets_at_once" "Desk.lets_at_once" zbX,fE "take" "Desk.take" zeS,fE "value_under" "value_under" zdq,fE "carry_out" "Hall.carry_out" zcz,fE "line_up" "Desk.line_up" zc9,fE "next_waited_for" "Desk.next_waited_for" zbB,fE "next_from" "Hall.next_from" zcy,fE "come_to" "Hall.come_to" zc8,fE "greatest_all_round" "Hall.greatest_all_round" zbj,fE "written" "Record.written" zcw,fE "undo" "Hall.undo" zeN,fE "rising_keys" "rising_keys" zdr,fE "touched_keys" "Record.touched_keys" zbG,fE "leave" "Desk.leave" zd6,fE "lets_first" "Desk.lets_first" zcg,fE "let_on" "Hall.let_on" zdt,fE "end" "Hall.end" zfJ,fE "drop" "Hall.drop" zeR,fE "wait" "Hall.wait" zeM,fE "answer" "Hall.answer" zdu,fE "ask" "Hall.ask" zfK,fE "__init__" "Want.__init__" zeL,fE "read" "Hall.read" zeO,fE "write" "Hall.write" zd4,fE "keep" "Hall.keep" zeP,fE "is_at_end" "Record.is_at_end" zb7,fE "give_up" "Hall.give_up" zc6,fE "_law_call" "_law_call" zeJ,fE "_law_do" "_law_do" zgU,fE "log" "Hall.log" zfI,fE "_law_rows_right" "_law_rows_right" zcf,fE "_law_count" "_law_count" zd3,fE "done_by" "Hall.done_by" zc7,fE "_law_whole" "_law_whole" zd2,fE "law" "law" zoc]
def bs (K:PySem.W.Frag):List Bool:=[PySem.W.plainGet K 59 Str.empty,PySem.W.hasDictIn K 59,PySem.W.plainOver K 59,fi K 59 "__setattr__" == some (some (.builtin "object.__setattr__")),fi K 59 "use" == some none,fi K 59 "key" == some none,fi K 59 "value" == some none,gl K "Want" == some (some (.ref 59)),PySem.W.makesIn K 59,fi K 59 "__init__" == some (some (.ref 56)),PySem.W.keepIn K (.ref 59),PySem.W.plainGet K 97 Str.empty,PySem.W.hasDictIn K 97,PySem.W.plainOver K 97,fi K 97 "__setattr__" == some (some (.builtin "object.__setattr__")),fi K 97 "state" == some none,fi K 97 "did" == some none,fi K 97 "want" == some none,gl K "Record" == some (some (.ref 97)),PySem.W.makesIn K 97,fi K 97 "__init__" == some (some (.ref 77)),PySem.W.keepIn K (.ref 97),PySem.W.plainGet K 177 Str.empty,PySem.W.hasDictIn K 177,PySem.W.plainOver K 177,fi K 177 "__setattr__" == some (some (.builtin "object.__setattr__")),fi K 177 "held" == some none,fi K 177 "row" == some none,gl K "Desk" == some (some (.ref 177)),PySem.W.makesIn K 177,fi K 177 "__init__" == some (some (.ref 115)),PySem.W.keepIn K (.ref 177),PySem.W.plainGet K 424 Str.empty,PySem.W.hasDictIn K 424,PySem.W.plainOver K 424,fi K 424 "__setattr__" == some (some (.builtin "object.__setattr__")),fi K 424 "records" == some none,fi K 424 "desks" == some none,fi K 424 "standing" == some none,fi K 424 "kept_values" == some none,fi K 424 "kept_deeds" == some none,fi K 424 "rows" == some none,gl K "Hall" == some (some (.ref 424)),PySem.W.makesIn K 424,fi K 424 "__init__" == some (some (.ref 232)),PySem.W.keepIn K (.ref 424),gl K "_law_mix" == some (some (.ref 442)),gl K "_law_cell" == some (some (.ref 435)),gl K "_law_key" == some (some (.ref 454)),gl K "_law_act" == some (some (.ref 461)),gl K "_law_acts" == some (some (.ref 468)),fi K 424 "begin" == some (some (.ref 239)),gl K "is_whole" == some (some (.ref 28)),fi K 424 "record_of" == some (some (.ref 337)),fi K 424 "refuse_unless_going" == some (some (.ref 344)),fi K 177 "hindering" == some (some (.ref 120)),fi K 177 "lets" == some (some (.ref 127)),fi K 177 "lets_at_once" == some (some (.ref 134)),fi K 177 "take" == some (some (.ref 148)),gl K "value_under" == some (some (.ref 42)),fi K 424 "carry_out" == some (some (.ref 365)),fi K 177 "line_up" == some (some (.ref 155)),fi K 177 "next_waited_for" == some (some (.ref 174)),fi K 424 "next_from" == some (some (.ref 393)),fi K 424 "come_to" == some (some (.ref 386)),fi K 424 "greatest_all_round" == some (some (.ref 379)),fi K 97 "written" == some (some (.ref 89)),fi K 424 "undo" == some (some (.ref 407)),gl K "rising_keys" == some (some (.ref 35)),fi K 97 "touched_keys" == some (some (.ref 94)),fi K 177 "leave" == some (some (.ref 160)),fi K 177 "lets_first" == some (some (.ref 141)),fi K 424 "let_on" == some (some (.ref 421)),fi K 424 "end" == some (some (.ref 414)),fi K 424 "drop" == some (some (.ref 400)),fi K 424 "wait" == some (some (.ref 372)),fi K 424 "answer" == some (some (.ref 358)),fi K 424 "ask" == some (some (.ref 351)),fi K 424 "read" == some (some (.ref 246)),fi K 424 "write" == some (some (.ref 253)),fi K 424 "keep" == some (some (.ref 260)),fi K 97 "is_at_end" == some (some (.ref 84)),fi K 424 "give_up" == some (some (.ref 267)),gl K "_law_call" == some (some (.ref 475)),gl K "_law_do" == some (some (.ref 482)),fi K 424 "log" == some (some (.ref 330)),gl K "_law_rows_right" == some (some (.ref 494)),gl K "_law_count" == some (some (.ref 487)),fi K 424 "done_by" == some (some (.ref 281)),gl K "_law_whole" == some (some (.ref 449)),gl K "law" == some (some (.ref 499)),gs K "BEGIN" "begin",gi K "FIRST_VALUE" 0,gs K "GIVEN_UP" "given up",gs K "GIVE_UP" "give up",gs K "GOING" "going",gs K "KEEP" "keep",gs K "KEPT" "kept",gs K "READ" "read",gs K "READING" "reading",gs K "WAITING" "waiting",gs K "WRITE" "write",gs K "WRITING" "writing",gl K "NoDeed" == some (some (.ref 204)),PySem.W.excIn K 204 [.type "ValueError",.type "Exception",.type "BaseException",.type "object"] "ValueError.__new__",gl K "NotGoing" == some (some (.ref 216)),PySem.W.excIn K 216 [.type "ValueError",.type "Exception",.type "BaseException",.type "object"] "ValueError.__new__",PySem.W.ktsIn K 216 "BaseException",gl K "all" == some none,gl K "bool" == some none,gl K "int" == some none,gl K "isinstance" == some none,gl K "len" == some none,gl K "range" == some none,gl K "reversed" == some none,gl K "set" == some none,gl K "sorted" == some none,gl K "tuple" == some none]
def qq:Program:={ PySem.Challenge.pw_turnhall_k10_what_is_written_down with main:={ PySem.Challenge.pw_turnhall_k10_what_is_written_down.main with body:=[zoc] } }
def lo:List Str:=(PySem.Challenge.pw_turnhall_k10_what_is_written_down.main.scope.names.map (·.1)).filter λ x=>!(x == "law")
def kk (h:Heap):PySem.W.Frag:=Kof (3::List.range' 11 489) h
def OB (K:PySem.W.Frag):Prop:=ff.map (fV K)=exps/\(bs K).all id=true
theorem zrQ {K:PySem.W.Frag} {h:Heap} {mg:Str->Option Value} (X:K.In h) (G:h.Ns mainGlobals mg) (o:OB K):Txt K mg AA (FF K):=by
 obtain ⟨h1,h2⟩:=o
 exact ⟨⟨by decide,by decide,by decide,by decide,by decide,by decide⟩,
  ⟨bt h2 0 rfl,bt h2 1 rfl,bt h2 2 rfl,eq_of_beq (bt h2 3 rfl)⟩,
  eq_of_beq (bt h2 4 rfl),
  eq_of_beq (bt h2 5 rfl),
  eq_of_beq (bt h2 6 rfl),
  PySem.W.mg_of X G (eq_of_beq (bt h2 7 rfl)),
  ⟨bt h2 8 rfl,eq_of_beq (bt h2 9 rfl),fu2 h1 35 rfl rfl,bt h2 10 rfl⟩,
  ⟨bt h2 11 rfl,bt h2 12 rfl,bt h2 13 rfl,eq_of_beq (bt h2 14 rfl)⟩,
  eq_of_beq (bt h2 15 rfl),
  eq_of_beq (bt h2 16 rfl),
  eq_of_beq (bt h2 17 rfl),
  PySem.W.mg_of X G (eq_of_beq (bt h2 18 rfl)),
  ⟨bt h2 19 rfl,eq_of_beq (bt h2 20 rfl),fu2 h1 6 rfl rfl,bt h2 21 rfl⟩,
  ⟨bt h2 22 rfl,bt h2 23 rfl,bt h2 24 rfl,eq_of_beq (bt h2 25 rfl)⟩,
  eq_of_beq (bt h2 26 rfl),
  eq_of_beq (bt h2 27 rfl),
  PySem.W.mg_of X G (eq_of_beq (bt h2 28 rfl)),
  ⟨bt h2 29 rfl,eq_of_beq (bt h2 30 rfl),fu2 h1 11 rfl rfl,bt h2 31 rfl⟩,
  ⟨bt h2 32 rfl,bt h2 33 rfl,bt h2 34 rfl,eq_of_beq (bt h2 35 rfl)⟩,
  eq_of_beq (bt h2 36 rfl),
  eq_of_beq (bt h2 37 rfl),
  eq_of_beq (bt h2 38 rfl),
  eq_of_beq (bt h2 39 rfl),
  eq_of_beq (bt h2 40 rfl),
  eq_of_beq (bt h2 41 rfl),
  PySem.W.mg_of X G (eq_of_beq (bt h2 42 rfl)),
  ⟨bt h2 43 rfl,eq_of_beq (bt h2 44 rfl),fu2 h1 0 rfl rfl,bt h2 45 rfl⟩,
  fu h1 0 rfl rfl,
  (fu h1 0 rfl rfl).binds λ _ _ _ _ _ _ us hl=>match us,hl with | [_],_=>rfl,
  fu h1 1 rfl rfl,
  (fu h1 1 rfl rfl).binds λ _ _ _ _ _ _ us hl=>match us,hl with | [_,_,_],_=>rfl,
  PySem.W.mg_of X G (eq_of_beq (bt h2 46 rfl)),
  fu3 h1 1 rfl rfl,
  fu h1 2 rfl rfl,
  (fu h1 2 rfl rfl).binds λ _ _ _ _ _ _ us hl=>match us,hl with | [_,_],_=>rfl,
  PySem.W.mg_of X G (eq_of_beq (bt h2 47 rfl)),
  fu3 h1 2 rfl rfl,
  fu h1 3 rfl rfl,
  (fu h1 3 rfl rfl).binds λ _ _ _ _ _ _ us hl=>match us,hl with | [_,_],_=>rfl,
  PySem.W.mg_of X G (eq_of_beq (bt h2 48 rfl)),
  fu3 h1 3 rfl rfl,
  fu h1 4 rfl rfl,
  (fu h1 4 rfl rfl).binds λ _ _ _ _ _ _ us hl=>match us,hl with | [_,_,_],_=>rfl,
  PySem.W.mg_of X G (eq_of_beq (bt h2 49 rfl)),
  fu3 h1 4 rfl rfl,
  fu h1 5 rfl rfl,
  (fu h1 5 rfl rfl).binds λ _ _ _ _ _ _ us hl=>match us,hl with | [_],_=>rfl,
  PySem.W.mg_of X G (eq_of_beq (bt h2 50 rfl)),
  fu3 h1 5 rfl rfl,
  fu h1 6 rfl rfl,
  (fu h1 6 rfl rfl).binds λ _ _ _ _ _ _ us hl=>match us,hl with | [_],_=>rfl,
  fu h1 7 rfl rfl,
  (fu h1 7 rfl rfl).binds λ _ _ _ _ _ _ us hl=>match us,hl with | [_],_=>rfl,
  ⟨eq_of_beq (bt h2 51 rfl),fu2 h1 7 rfl rfl,fu3 h1 7 rfl rfl⟩,
  fu h1 8 rfl rfl,
  (fu h1 8 rfl rfl).binds λ _ _ _ _ _ _ us hl=>match us,hl with | [_],_=>rfl,
  PySem.W.mg_of X G (eq_of_beq (bt h2 52 rfl)),
  fu3 h1 8 rfl rfl,
  fu h1 9 rfl rfl,
  (fu h1 9 rfl rfl).binds λ _ _ _ _ _ _ us hl=>match us,hl with | [_,_],_=>rfl,
  ⟨eq_of_beq (bt h2 53 rfl),fu2 h1 9 rfl rfl,fu3 h1 9 rfl rfl⟩,
  fu h1 10 rfl rfl,
  (fu h1 10 rfl rfl).binds λ _ _ _ _ _ _ us hl=>match us,hl with | [_,_],_=>rfl,
  ⟨eq_of_beq (bt h2 54 rfl),fu2 h1 10 rfl rfl,fu3 h1 10 rfl rfl⟩,
  fu h1 11 rfl rfl,
  (fu h1 11 rfl rfl).binds λ _ _ _ _ _ _ us hl=>match us,hl with | [_],_=>rfl,
  fu h1 12 rfl rfl,
  (fu h1 12 rfl rfl).binds λ _ _ _ _ _ _ us hl=>match us,hl with | [_,_,_],_=>rfl,
  ⟨eq_of_beq (bt h2 55 rfl),fu2 h1 12 rfl rfl,fu3 h1 12 rfl rfl⟩,
  fu h1 13 rfl rfl,
  (fu h1 13 rfl rfl).binds λ _ _ _ _ _ _ us hl=>match us,hl with | [_,_,_],_=>rfl,
  ⟨eq_of_beq (bt h2 56 rfl),fu2 h1 13 rfl rfl,fu3 h1 13 rfl rfl⟩,
  fu h1 14 rfl rfl,
  (fu h1 14 rfl rfl).binds λ _ _ _ _ _ _ us hl=>match us,hl with | [_,_,_],_=>rfl,
  ⟨eq_of_beq (bt h2 57 rfl),fu2 h1 14 rfl rfl,fu3 h1 14 rfl rfl⟩,
  fu h1 15 rfl rfl,
  (fu h1 15 rfl rfl).binds λ _ _ _ _ _ _ us hl=>match us,hl with | [_,_,_],_=>rfl,
  ⟨eq_of_beq (bt h2 58 rfl),fu2 h1 15 rfl rfl,fu3 h1 15 rfl rfl⟩,
  fu h1 16 rfl rfl,
  (fu h1 16 rfl rfl).binds λ _ _ _ _ _ _ us hl=>match us,hl with | [_,_],_=>rfl,
  PySem.W.mg_of X G (eq_of_beq (bt h2 59 rfl)),
  fu3 h1 16 rfl rfl,
  fu h1 17 rfl rfl,
  (fu h1 17 rfl rfl).binds λ _ _ _ _ _ _ us hl=>match us,hl with | [_,_,_],_=>rfl,
  ⟨eq_of_beq (bt h2 60 rfl),fu2 h1 17 rfl rfl,fu3 h1 17 rfl rfl⟩,
  fu h1 18 rfl rfl,
  (fu h1 18 rfl rfl).binds λ _ _ _ _ _ _ us hl=>match us,hl with | [_,_,_],_=>rfl,
  ⟨eq_of_beq (bt h2 61 rfl),fu2 h1 18 rfl rfl,fu3 h1 18 rfl rfl⟩,
  fu h1 19 rfl rfl,
  (fu h1 19 rfl rfl).binds λ _ _ _ _ _ _ us hl=>match us,hl with | [_,_,_],_=>rfl,
  ⟨eq_of_beq (bt h2 62 rfl),fu2 h1 19 rfl rfl,fu3 h1 19 rfl rfl⟩,
  fu h1 20 rfl rfl,
  (fu h1 20 rfl rfl).binds λ _ _ _ _ _ _ us hl=>match us,hl with | [_,_],_=>rfl,
  ⟨eq_of_beq (bt h2 63 rfl),fu2 h1 20 rfl rfl,fu3 h1 20 rfl rfl⟩,
  fu h1 21 rfl rfl,
  (fu h1 21 rfl rfl).binds λ _ _ _ _ _ _ us hl=>match us,hl with | [_,_],_=>rfl,
  ⟨eq_of_beq (bt h2 64 rfl),fu2 h1 21 rfl rfl,fu3 h1 21 rfl rfl⟩,
  fu h1 22 rfl rfl,
  (fu h1 22 rfl rfl).binds λ _ _ _ _ _ _ us hl=>match us,hl with | [_,_],_=>rfl,
  ⟨eq_of_beq (bt h2 65 rfl),fu2 h1 22 rfl rfl,fu3 h1 22 rfl rfl⟩,
  fu h1 23 rfl rfl,
  (fu h1 23 rfl rfl).binds λ _ _ _ _ _ _ us hl=>match us,hl with | [_],_=>rfl,
  ⟨eq_of_beq (bt h2 66 rfl),fu2 h1 23 rfl rfl,fu3 h1 23 rfl rfl⟩,
  fu h1 24 rfl rfl,
  (fu h1 24 rfl rfl).binds λ _ _ _ _ _ _ us hl=>match us,hl with | [_,_],_=>rfl,
  ⟨eq_of_beq (bt h2 67 rfl),fu2 h1 24 rfl rfl,fu3 h1 24 rfl rfl⟩,
  fu h1 25 rfl rfl,
  (fu h1 25 rfl rfl).binds λ _ _ _ _ _ _ us hl=>match us,hl with | [_],_=>rfl,
  PySem.W.mg_of X G (eq_of_beq (bt h2 68 rfl)),
  fu3 h1 25 rfl rfl,
  fu h1 26 rfl rfl,
  (fu h1 26 rfl rfl).binds λ _ _ _ _ _ _ us hl=>match us,hl with | [_],_=>rfl,
  ⟨eq_of_beq (bt h2 69 rfl),fu2 h1 26 rfl rfl,fu3 h1 26 rfl rfl⟩,
  fu h1 27 rfl rfl,
  (fu h1 27 rfl rfl).binds λ _ _ _ _ _ _ us hl=>match us,hl with | [_,_],_=>rfl,
  ⟨eq_of_beq (bt h2 70 rfl),fu2 h1 27 rfl rfl,fu3 h1 27 rfl rfl⟩,
  fu h1 28 rfl rfl,
  (fu h1 28 rfl rfl).binds λ _ _ _ _ _ _ us hl=>match us,hl with | [_],_=>rfl,
  ⟨eq_of_beq (bt h2 71 rfl),fu2 h1 28 rfl rfl,fu3 h1 28 rfl rfl⟩,
  fu h1 29 rfl rfl,
  (fu h1 29 rfl rfl).binds λ _ _ _ _ _ _ us hl=>match us,hl with | [_,_],_=>rfl,
  ⟨eq_of_beq (bt h2 72 rfl),fu2 h1 29 rfl rfl,fu3 h1 29 rfl rfl⟩,
  fu h1 30 rfl rfl,
  (fu h1 30 rfl rfl).binds λ _ _ _ _ _ _ us hl=>match us,hl with | [_,_,_],_=>rfl,
  ⟨eq_of_beq (bt h2 73 rfl),fu2 h1 30 rfl rfl,fu3 h1 30 rfl rfl⟩,
  fu h1 31 rfl rfl,
  (fu h1 31 rfl rfl).binds λ _ _ _ _ _ _ us hl=>match us,hl with | [_,_],_=>rfl,
  ⟨eq_of_beq (bt h2 74 rfl),fu2 h1 31 rfl rfl,fu3 h1 31 rfl rfl⟩,
  fu h1 32 rfl rfl,
  (fu h1 32 rfl rfl).binds λ _ _ _ _ _ _ us hl=>match us,hl with | [_,_,_],_=>rfl,
  ⟨eq_of_beq (bt h2 75 rfl),fu2 h1 32 rfl rfl,fu3 h1 32 rfl rfl⟩,
  fu h1 33 rfl rfl,
  (fu h1 33 rfl rfl).binds λ _ _ _ _ _ _ us hl=>match us,hl with | [_,_,_],_=>rfl,
  ⟨eq_of_beq (bt h2 76 rfl),fu2 h1 33 rfl rfl,fu3 h1 33 rfl rfl⟩,
  fu h1 34 rfl rfl,
  (fu h1 34 rfl rfl).binds λ _ _ _ _ _ _ us hl=>match us,hl with | [_,_,_],_=>rfl,
  ⟨eq_of_beq (bt h2 77 rfl),fu2 h1 34 rfl rfl,fu3 h1 34 rfl rfl⟩,
  fu h1 35 rfl rfl,
  (fu h1 35 rfl rfl).binds λ _ _ _ _ _ _ us hl=>match us,hl with | [_,_,_,_],_=>rfl,
  fu h1 36 rfl rfl,
  (fu h1 36 rfl rfl).binds λ _ _ _ _ _ _ us hl=>match us,hl with | [_,_,_],_=>rfl,
  ⟨eq_of_beq (bt h2 78 rfl),fu2 h1 36 rfl rfl,fu3 h1 36 rfl rfl⟩,
  fu h1 37 rfl rfl,
  (fu h1 37 rfl rfl).binds λ _ _ _ _ _ _ us hl=>match us,hl with | [_,_,_,_],_=>rfl,
  ⟨eq_of_beq (bt h2 79 rfl),fu2 h1 37 rfl rfl,fu3 h1 37 rfl rfl⟩,
  fu h1 38 rfl rfl,
  (fu h1 38 rfl rfl).binds λ _ _ _ _ _ _ us hl=>match us,hl with | [_,_],_=>rfl,
  ⟨eq_of_beq (bt h2 80 rfl),fu2 h1 38 rfl rfl,fu3 h1 38 rfl rfl⟩,
  fu h1 39 rfl rfl,
  (fu h1 39 rfl rfl).binds λ _ _ _ _ _ _ us hl=>match us,hl with | [_],_=>rfl,
  ⟨eq_of_beq (bt h2 81 rfl),fu2 h1 39 rfl rfl,fu3 h1 39 rfl rfl⟩,
  fu h1 40 rfl rfl,
  (fu h1 40 rfl rfl).binds λ _ _ _ _ _ _ us hl=>match us,hl with | [_,_],_=>rfl,
  ⟨eq_of_beq (bt h2 82 rfl),fu2 h1 40 rfl rfl,fu3 h1 40 rfl rfl⟩,
  fu h1 41 rfl rfl,
  (fu h1 41 rfl rfl).binds λ _ _ _ _ _ _ us hl=>match us,hl with | [_,_],_=>rfl,
  PySem.W.mg_of X G (eq_of_beq (bt h2 83 rfl)),
  fu3 h1 41 rfl rfl,
  fu h1 42 rfl rfl,
  (fu h1 42 rfl rfl).binds λ _ _ _ _ _ _ us hl=>match us,hl with | [_,_],_=>rfl,
  PySem.W.mg_of X G (eq_of_beq (bt h2 84 rfl)),
  fu3 h1 42 rfl rfl,
  fu h1 43 rfl rfl,
  (fu h1 43 rfl rfl).binds λ _ _ _ _ _ _ us hl=>match us,hl with | [_],_=>rfl,
  ⟨eq_of_beq (bt h2 85 rfl),fu2 h1 43 rfl rfl,fu3 h1 43 rfl rfl⟩,
  fu h1 44 rfl rfl,
  (fu h1 44 rfl rfl).binds λ _ _ _ _ _ _ us hl=>match us,hl with | [_],_=>rfl,
  PySem.W.mg_of X G (eq_of_beq (bt h2 86 rfl)),
  fu3 h1 44 rfl rfl,
  fu h1 45 rfl rfl,
  (fu h1 45 rfl rfl).binds λ _ _ _ _ _ _ us hl=>match us,hl with | [_],_=>rfl,
  PySem.W.mg_of X G (eq_of_beq (bt h2 87 rfl)),
  fu3 h1 45 rfl rfl,
  fu h1 46 rfl rfl,
  (fu h1 46 rfl rfl).binds λ _ _ _ _ _ _ us hl=>match us,hl with | [_,_],_=>rfl,
  ⟨eq_of_beq (bt h2 88 rfl),fu2 h1 46 rfl rfl,fu3 h1 46 rfl rfl⟩,
  fu h1 47 rfl rfl,
  (fu h1 47 rfl rfl).binds λ _ _ _ _ _ _ us hl=>match us,hl with | [_],_=>rfl,
  PySem.W.mg_of X G (eq_of_beq (bt h2 89 rfl)),
  fu3 h1 47 rfl rfl,
  fu h1 48 rfl rfl,
  (fu h1 48 rfl rfl).binds λ _ _ _ _ _ _ us hl=>match us,hl with | [_],_=>rfl,
  PySem.W.mg_of X G (eq_of_beq (bt h2 90 rfl)),
  fu3 h1 48 rfl rfl,
  zhr X G (bt h2 91 rfl),
  ztk X G (bt h2 92 rfl),
  zhr X G (bt h2 93 rfl),
  zhr X G (bt h2 94 rfl),
  zhr X G (bt h2 95 rfl),
  zhr X G (bt h2 96 rfl),
  zhr X G (bt h2 97 rfl),
  zhr X G (bt h2 98 rfl),
  zhr X G (bt h2 99 rfl),
  zhr X G (bt h2 100 rfl),
  zhr X G (bt h2 101 rfl),
  zhr X G (bt h2 102 rfl),
  PySem.W.mg_of X G (eq_of_beq (bt h2 103 rfl)),
  bt h2 104 rfl,
  PySem.W.mg_of X G (eq_of_beq (bt h2 105 rfl)),
  bt h2 106 rfl,
  bt h2 107 rfl,
  PySem.W.mg_none_of X G (eq_of_beq (bt h2 108 rfl)),
  PySem.W.mg_none_of X G (eq_of_beq (bt h2 109 rfl)),
  PySem.W.mg_none_of X G (eq_of_beq (bt h2 110 rfl)),
  PySem.W.mg_none_of X G (eq_of_beq (bt h2 111 rfl)),
  PySem.W.mg_none_of X G (eq_of_beq (bt h2 112 rfl)),
  PySem.W.mg_none_of X G (eq_of_beq (bt h2 113 rfl)),
  PySem.W.mg_none_of X G (eq_of_beq (bt h2 114 rfl)),
  PySem.W.mg_none_of X G (eq_of_beq (bt h2 115 rfl)),
  PySem.W.mg_none_of X G (eq_of_beq (bt h2 116 rfl)),
  PySem.W.mg_none_of X G (eq_of_beq (bt h2 117 rfl))⟩
theorem walk {q:Program} {loose:List Str} {d:DefRec} (hdf:d.params.defaults=[]) (hnm:d.name = "law"):PySem.W.WalkO q loose (λ _ _=>True) (λ _ h=>∃ K,OB K/\K.In h) PySem.Challenge.rw_turnhall_k10_what_is_written_down.row.toRowW d [] (λ f vs=>PySem.call f vs) :=
 walk2 (n:=63) (k:=12) (x := "_law_script") (CX:=λ w=>CX1 PySem.Challenge.rw_turnhall_k10_what_is_written_down.prog w) (sp:=λ K=>zr5 K) rfl (by decide) hdf ⟨rfl,by decide,by decide⟩
  (λ w mg fa h K o X G hfa=>by
   have T:=zrQ X G o
   have F:=fu o.1 48 rfl rfl
   rw [hnm] at hfa
   have e:=(T.ztl).symm.trans hfa
   injection e with e
   injection e with e
   subst e
   obtain ⟨oc,od,kV,dc,pm,an,cd,ct,sl,e1,e2,e3⟩:=F.ex
   refine ⟨fdOf K (ff.getD 48 0),λ s v=>?_,λ base _ _=>zsv T⟩
   have:fdOf K (ff.getD 48 0)=_:=e1
   rw [this]
   exact .of_eq rfl)
  (λ _ _ a ns hl _ hS=>⟨a,ns,rfl,hS,λ _=>rfl⟩) λ _ _ _ _ _ z=>by
   obtain ⟨_,_,_,_,_,_,_,_,_,_,_,_,z⟩:=z
   exact z
end TP
end
open PySem PySem.W PyProof.Rows
theorem TP.left:LeftO PySem.Challenge.rw_turnhall_k10_what_is_written_down.prog TP.qq TP.lo (λ _=>true) (λ s=>(TP.ff.map (TP.fV (TP.kk s.heap)),(TP.bs (TP.kk s.heap)).all id)) (λ _=>(TP.exps,true)) 6876 :=
 TP.ztf (m:=11) (ann:=some (.ref 6)) (life:={}) (boot_open (by kernel_rfl) rfl λ s=>by kernel_rfl) (λ w=>by kernel_rfl) (λ w=>by kernel_rfl) λ w os=>by rw [PySem.W.Fast.te10156331382660048174,PySem.W.Fast.te11892475500146522536,PySem.W.Fast.te14364793385576792824,PySem.W.Fast.te4187177175401517315]; kernel_rfl
theorem PySem.Challenge.cw_turnhall_k10_what_is_written_down_holds : PySem.Challenge.rw_turnhall_k10_what_is_written_down.Holds := by
 refine holds_law (by rw [PySem.W.Fast.te9446332074065402090]; kernel_rfl) λ said=>holds_open (XP:=λ _ _=>True) (YP:=λ _ h=>∃ K,TP.OB K/\K.In h) (d:=TP.dOf TP.zoc) (kwd:=[]) TP.left (λ w s e=>⟨_,⟨congrArg Prod.fst e,congrArg Prod.snd e⟩,TP.zsU⟩) (λ _ h h2 ⟨K,o,x⟩ k=>⟨K,o,x.keeps k⟩) (λ _ _=>trivial) (λ _ _ _ _ _=>trivial) (by kernel_rfl) (by kernel_rfl) (by kernel_rfl) (λ s _=>recFacts_of (R:=[]) (s:=s) rfl) (by kernel_rfl) said (by kernel_rfl) ⟨rfl,rfl,rfl,rfl,rfl,by decide +kernel⟩ (by w_witness2) (TP.walk rfl rfl)
