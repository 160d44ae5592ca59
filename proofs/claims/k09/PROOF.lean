import PyProof.Rows.All
import Wide.All
import OpenK.AllK
import Wide.FinOn
import PyProof.EqAt
import PyProof.EqKinds
import PyProof.TupleCall
import PyProof.CollectWalk
import PyProof.Seq
import PyProof.SetRoads
import PyProof.DictWalks
import PyProof.DictValues
import PyProof.AttrMissHeap
import KE.KDictOf
import Lean
import PySem.Challenge.RW_turnhall_k09_whole_risen_halls
set_option linter.all false
set_option maxRecDepth 100000
set_option maxHeartbeats 4000000
set_option Elab.async false
def yaa:=@List.length_map
def yab:=@PySem.wpAny_bind
def yac:=@List.mem_cons_self
def yad:=@List.mem_cons_of_mem
def yae:=@PySem.Heap.get?_push_of_some
def yaf:=@Nat.le_refl
def yag:=@PySem.wpAny_pure
def yah:=@List.length_append
def yai:=@if_neg
def yaj:=@if_pos
def yak:=@List.getElem?_map
def yal:=@LawfulBEq.eq_of_beq
def yam:=@Bool.false_ne_true
def yan:=@Nat.le_of_ble_eq_true
def yao:=@Option.map_eq_some_iff
def yap:=@List.mem_map
def yaq:=@List.mem_singleton
def yar:=@List.getElem?_eq_some_iff
def yas:=@List.mem_append
def yat:=@List.mem_cons
def yau:=@PySem.Heap.lt_size
def yav:=@List.map_append
def yaw:=@PySem.sizeLine_eq
def yax:=@List.getElem?_eq_getElem
def yay:=@decide_eq_false
def yaz:=@decide_eq_true
def yaA:=@Nat.le_trans
def yaB:=@List.size_toArray
def yaC:=@PySem.Heap.get?_push_size
def yaD:=@List.take_add_one
def yaE:=@List.length_singleton
def yaF:=@PySem.F.plainAttrs_list
def yaG:=@List.take_length
def yaH:=@Nat.lt_of_lt_of_le
def yaI:=@Nat.ne_of_lt
def yaJ:=@List.mem_append_left
def yaK:=@List.map_cons
def yaL:=@Option.some.inj
def yaM:=@Array.getElem?_eq_getElem
def yaN:=@List.mem_append_right
def yaO:=@Array.length_toList
def yaP:=@List.length_cons
def yaQ:=@PySem.F.slot_list_append
def yaR:=@PySem.F.type_list_append
def yaS:=@List.mem_of_getElem?
def yaT:=@Array.getD_eq_getD_getElem?
def yaU:=@PySem.W.mg_of
def yaV:=@List.mem_range
def yaW:=@List.nodup_cons
def yaX:=@Bool.false_eq_true
def yaY:=@List.length_take
def yaZ:=@congrArg
def ya0:=@List.getD_eq_getElem?_getD
def ya1:=@Nat.zero_le
def ya2:=@List.mem_of_getLast?
def ya3:=@List.mem_filter
def ya4:=@PySem.PassesOwn.never
def ya5:=@PySem.Heap.get?_update_other
def ya6:=@List.length_range
def ya7:=@List.map_map
def ya8:=@List.filterMap_append
def ya9:=@List.dropLast_concat_getLast
def yba:=@List.take_of_length_le
def ybb:=@Nat.lt_irrefl
def ybc:=@Bool.and_eq_true
def ybd:=@List.foldl_cons
def ybe:=@List.append_nil
def ybf:=@PyProof.Rows.slot_tuple_getitem
def ybg:=@List.filterMap_cons
def ybh:=@List.all_eq_true
def ybi:=@List.nodup_append
def ybj:=@PySem.W.mg_none_of
def ybk:=@PySem.wpAny_mono
def ybl:=@List.find?_cons
def ybm:=@decide_eq_true_eq
def ybn:=@Ne.symm
def ybo:=@PySem.W.kia_one
def ybp:=@List.take_append_of_le_length
def ybq:=@List.map_congr_left
def ybr:=@PySem.mem_of_lookup
def ybs:=@PySem.wpAny_newObj_type
def ybt:=@List.length_eq_zero_iff
def ybu:=@List.mem_filterMap
def ybv:=@List.pairwise_cons
def ybw:=@PySem.wpAny_holding
def ybx:=@PySem.Calls.spliced_cons
def yby:=@PySem.Around.under_plainId
def ybz:=@PySem.Calls.callWith_builtin
def ybA:=@List.foldl_append
def ybB:=@PySem.Heap.SameBut.update
def ybC:=@List.getElem?_append_left
def ybD:=@List.countP_mono_left
def ybE:=@PySem.Heap.get?_update_self
def ybF:=@Array.getElem?_toList
def ybG:=@List.take_append_drop
def ybH:=@Bool.eq_iff_iff
def ybI:=@PySem.F.slot_dict_get
def ybJ:=@List.filter_append
def ybK:=@PySem.wpAny_call_entry
def ybL:=@Sum.inr.inj
def ybM:=@List.lookup_cons
def ybN:=@PySem.Calls.evalArgs_plain
def ybO:=@List.nodup_nil
def ybP:=@PySem.boot_len
def ybQ:=@Nat.le_succ_of_le
def ybR:=@PySem.wpAny_setState_of
def ybS:=@PySem.codeAny_builtin
def ybT:=@List.getElem?_append_right
def ybU:=@List.cons_append
def ybV:=@if_false
def ybW:=@List.length_filter_le
def ybX:=@PySem.tupleKind_room_in1
def ybY:=@Classical.byContradiction
def ybZ:=@List.getElem?_eq_none_iff
def yb0:=@List.pairwise_append
def yb1:=@List.mem_of_mem_take
def yb2:=@if_true
def yb3:=@List.length_nil
def yb4:=@List.append_assoc
def yb5:=@Int.toNat_natCast
def yb6:=@beq_iff_eq
def yb7:=@PySem.wpAny_truthy_bool
def yb8:=@PySem.wpAny_passesOwn
def yb9:=@Option.isSome_map
def yca:=@List.length_erase_of_mem
def ycb:=@PySem.wpAny_typeOf
def ycc:=@List.filter_cons_of_pos
def ycd:=@List.countP_cons_of_pos
def yce:=@PySem.wpAny_callSpecial?_slot
def ycf:=@beq_eq_false_iff_ne
def ycg:=@PySem.F.plainAttrs_dict
def ych:=@PySem.wpAny_askSetting
def yci:=@List.not_mem_nil
def ycj:=@PySem.wpAny_setField
def yck:=@PySem.F.entry_dict_get
def ycl:=@List.length_pos_of_mem
def ycm:=@PySem.wpAny_Call_Name_kw
def ycn:=@List.range_succ
def yco:=@Nat.le_of_lt
def ycp:=@Nat.not_lt_zero
def ycq:=@PySem.F.called_set
def ycr:=@Option.map_some
def ycs:=@PySem.call_meetsIn
def yct:=@List.filter_congr
def ycu:=@PySem.plainId_quiet
def ycv:=@PySem.Calls.spliced_nil
def ycw:=@List.takeWhile_cons_of_pos
def ycx:=@PySem.F.excBase_ValueError
def ycy:=@List.mem_erase_of_ne
def ycz:=@List.getLast?_eq_none_iff
def ycA:=@List.pairwise_iff_getElem
def ycB:=@PySem.F.slot_tuple_getattribute
def ycC:=@Nat.lt_or_ge
def ycD:=@PySem.codeAny_mono
def ycE:=@PySem.F.args_tuple_add_2
def ycF:=@List.countP_cons_of_neg
def ycG:=@PyProof.Rows.F.plain_set_update_loop
def ycH:=@PySem.wpAny_execs_nil
def ycI:=@PySem.F.entry_tuple_add
def ycJ:=@List.any_cons
def ycK:=@PySem.F.slot_tuple_add
def ycL:=@List.countP_congr
def ycM:=@Nat.le_succ
def ycN:=@List.pairwise_map
def ycO:=@List.eraseIdxIfInBounds_toArray
def ycP:=@PySem.wpAny_Call_method
def ycQ:=@PyProof.Rows.boot_tuple
def ycR:=@PySem.isSubtype_type
def ycS:=@List.mem_iff_getElem?
def ycT:=@PySem.builtinLookup_eq_fast
def ycU:=@PySem.W.methodCall_KW
def ycV:=@List.length_replicate
def ycW:=@PySem.F.slot_dict_pop
def ycX:=@List.eq_nil_iff_forall_not_mem
def ycY:=@PySem.F.slot_list_pop
def ycZ:=@PySem.F.type_list_pop
def yc0:=@Nat.le_of_not_lt
def yc1:=@PySem.wpAny_isInstance
def yc2:=@Nat.lt_succ_self
def yc3:=@List.getElem?_of_mem
def yc4:=@List.takeWhile_append_of_pos
def yc5:=@PySem.F.slot_dict_setdefault
def yc6:=@List.filter_sublist
def yc7:=@List.takeWhile_cons
def yc8:=@List.filter_eq_self
def yc9:=@PySem.wpAny_setEntries_of
def yda:=@PyProof.Rows.callWith_type1
def ydb:=@PySem.W.plainGet_of
def ydc:=@Array.perm_iff_toList_perm
def ydd:=@List.filter_filter
def yde:=@List.getElem?_drop
def ydf:=@Nat.ne_of_gt
def ydg:=@PySem.W.callWith_K
def ydh:=@List.map_nil
def ydi:=@List.mem_of_find?_eq_some
def ydj:=@PySem.Heap.size_push
def ydk:=@PySem.F.slot_dict_delitem
def ydl:=@List.drop_eq_getElem_cons
def ydm:=@of_decide_eq_true
def ydn:=@List.all_eq_false
def ydo:=@List.getElem?_take_of_lt
def ydp:=@PySem.wpAny_rule
def ydq:=@PySem.fits_of_scanBound
def ydr:=@PySem.wpAny_dictEntries
def yds:=@PySem.call_meets
def ydt:=@Option.isSome_iff_exists
def ydu:=@List.filter_cons_of_neg
def ydv:=@List.eraseIdx_cons_succ
def ydw:=@List.getElem?_replicate
def ydx:=@PySem.F.args_dict_pop_3
def ydy:=@PySem.F.args_dict_get_2
def ydz:=@PySem.F.args_dict_get_3
def ydA:=@List.sum_cons
def ydB:=@List.any_eq_true
def ydC:=@List.nodup_range
def ydD:=@Nat.succ_le_succ
def ydE:=@beq_self_eq_true
def ydF:=@List.getElem_inj
def ydG:=@PySem.noFill_tuple_add
def ydH:=@List.length_drop
def ydI:=@List.append_inj'
def ydJ:=@List.find?_cons_of_neg
def ydK:=@List.takeWhile_sublist
def ydL:=@List.pairwise_lt_range
def ydM:=@List.filter_eq_nil_iff
def ydN:=@List.getElem?_set_self
def ydO:=@PySem.W.cellsFrom_some
def ydP:=@PySem.F.entry_dict_pop
def ydQ:=@PySem.F.plainAttrs_str
def ydR:=@Bool.or_eq_true
def ydS:=@List.countP_le_length
def ydT:=@List.Pairwise.sublist
def ydU:=@PySem.typeLookup_type
def ydV:=@List.getElem?_toArray
def ydW:=@PySem.wpAny_ite_split
def ydX:=@List.of_mem_zip
def ydY:=@PySem.F.type_dict_get
def ydZ:=@List.filter_map
def yd0:=@PySem.F.slot_str_join
def yd1:=@PySem.F.type_str_join
def yd2:=@List.Perm.refl
def yd3:=@List.take_zero
def yd4:=@List.map_take
def yd5:=@List.all_cons
def yd6:=@Prod.mk.injEq
def yd7:=@Nat.lt_trans
def yd8:=@Nat.le_of_eq
def yd9:=@List.all_map
section
namespace TH
inductive DS where
 | zar | waiting | kept | dropped
 deriving DecidableEq
structure Act(K:Type) where
 wr:Bool
 key:K
 val:Int
structure Deed(K:Type) where
 st:DS
 done:List (Act K)
 wish:Option (Act K)
inductive Row(K:Type) where
 | begin (d:Nat) | write (d:Nat) (k:K) (before value:Int) | keep (d:Nat) | drop (d:Nat)
structure HS(K:Type) where
 n:Nat
 deed:Nat->Deed K
 held:K->List (Nat×Bool)
 rows:K->List (Nat×Bool)
 book:K->Option Int
 seen:List K
 log:List (Row K)
 kept:List Nat
def up{α β:Type}[DecidableEq α](f:α->β)(a:α)(b:β):α->β:=λx=>if x=a then b else f x
section
variable{α β:Type}[DecidableEq α]{f:α->β}{a x:α}{b:β}
theorem zae:up f a b a=b:=by unfold up;rw[yaj rfl]
theorem zao(h:x≠a):up f a b x=f x:=by unfold up;rw[yai h]
end
def Deed.act{K:Type}(D:Deed K):Prop:=D.st=.zar\/D.st=.waiting
section
variable{K:Type}[DecidableEq K]
abbrev Book(K:Type):=K->Option Int
def over(b:Book K):List (Act K)->Book K
 | []=>b
 | a::r=>over (if a.wr then up b a.key (some a.val) else b) r
def zaV:List (Act K)->K->Option Int
 | [],_=>none
 | a::r,k=>match zaV r k with
  | some v=>some v
  | none=>if a.wr=true/\a.key=k then some a.val else none
def replay:List (Act K)->Book K->Option (Book K)
 | [],b=>some b
 | a::r,b=>if a.wr=true then replay r (up b a.key (some a.val)) else if (b a.key).getD 0=a.val then replay r b else none
def zeh(deed:Nat->Deed K):List Nat->Book K->Option (Book K)
 | [],b=>some b
 | d::r,b=>(replay (deed d).done b).bind (zeh deed r)
def zdQ(deed:Nat->Deed K):List Nat->Book K->Book K
 | [],b=>b
 | d::r,b=>zdQ deed r (over b (deed d).done)
def zam(s:HS K):Book K:=zdQ s.deed s.kept λ_=>none
theorem zfP(k:K):∀(l:List (Act K)) (b:Book K),over b l k=match zaV l k with | some v=>some v | none=>b k
 | [],b=>rfl
 | a::r,b=>by
  simp only[over,zaV];rw[zfP k r];cases h:zaV r k with
  | some v=>rfl
  | none =>
   by_cases hw:a.wr=true
   . by_cases hk:a.key=k
     . subst hk;simp[hw,zae]
     . simp[hw,hk,zao (ybn hk)]
   . simp[hw]
theorem ze9(a:Act K)(k:K):∀l:List (Act K),zaV (l++[a]) k=if a.wr=true/\a.key=k then some a.val else zaV l k
 | []=>by simp[zaV]
 | x::r=>by
  simp only[ybU,zaV];rw[ze9 a k r];by_cases h:a.wr=true/\a.key=k
  . simp[h]
  . simp[h]
theorem zeV{k:K}{v:Int}:∀{l:List (Act K)},zaV l k=some v->∃a∈l,a.wr=true/\a.key=k
 | [],h=>by simp[zaV]at h
 | a::r,h=>by
  simp only[zaV]at h;cases h':zaV r k with
  | some w =>
   obtain⟨x,hx,q⟩:=zeV h';exact⟨x,yad _ hx,q⟩
  | none =>
   rw[h']at h;by_cases c:a.wr=true/\a.key=k
   . exact⟨a,yac,c⟩
   . simp[c]at h
theorem zov(l m:List (Act K)):∀b,replay (l++m) b=(replay l b).bind (replay m):=by
 induction l with
 | nil=>intro b;rfl
 | cons a r ih =>
  intro b;simp only[ybU,replay];by_cases hw:a.wr=true
  . simp only[hw,yb2];exact ih _
  . simp only[hw,ybV];by_cases hv:(b a.key).getD 0=a.val
    . simp only[hv,yb2];exact ih _
    . simp only[hv,ybV];rfl
theorem zfK:∀{l:List (Act K)} {b c:Book K},replay l b=some c->c=over b l
 | [],b,c,h=>by simp only[replay,Option.some.injEq]at h;exact h.symm
 | a::r,b,c,h=>by
  simp only[replay]at h;simp only[over];by_cases hw:a.wr=true
  . simp only[hw,yb2]at h ⊢;exact zfK h
  . simp only[hw]at h ⊢;by_cases hv:(b a.key).getD 0=a.val
    . simp only[hv,yb2]at h;exact zfK h
    . simp[hv]at h
theorem zh8{l:List (Act K)}{b:Book K}(h:(replay l b).isSome=true):replay l b=some (over b l):=by
 cases e:replay l b with
 | none=>rw[e]at h;cases h
 | some c=>rw[zfK e]
theorem zeL:∀{l:List (Act K)} {b c:Book K},(∀a∈l,b a.key=c a.key)->(replay l b).isSome=(replay l c).isSome
 | [],_,_,_=>rfl
 | a::r,b,c,h=>by
  simp only[replay];have hr:∀x∈r,b x.key=c x.key:=λx hx=>h x (yad _ hx);have ha:=h a yac;by_cases hw:a.wr=true
  . simp only[hw,yb2];refine zeL λx hx=>?_;by_cases e:x.key=a.key
    . rw[e,zae,zae]
    . rw[zao e,zao e];exact hr x hx
  . simp only[hw,ha];by_cases hv:(c a.key).getD 0=a.val
    . simp[hv,zeL hr]
    . simp[hv]
theorem zjx(deed:Nat->Deed K)(m:List Nat):∀(l:List Nat) (b:Book K),zeh deed (l++m) b=(zeh deed l b).bind (zeh deed m)
 | [],b=>rfl
 | d::r,b=>by
  simp only[ybU,zeh];cases replay (deed d).done b with
  | none=>rfl
  | some c=>exact zjx deed m r c
theorem zcG{deed deed':Nat->Deed K}:∀{l:List Nat} {b:Book K},(∀d∈l,(deed' d).done=(deed d).done)->zeh deed' l b=zeh deed l b
 | [],_,_=>rfl
 | d::r,b,h=>by
  simp only[zeh];rw[h d yac];cases replay (deed d).done b with
  | none=>rfl
  | some c=>exact zcG λx hx=>h x (yad _ hx)
theorem zgo(deed:Nat->Deed K)(m:List Nat):∀(l:List Nat) (b:Book K),zdQ deed (l++m) b=zdQ deed m (zdQ deed l b)
 | [],b=>rfl
 | d::r,b=>by simp only[ybU,zdQ];exact zgo deed m r _
theorem zbu{deed deed':Nat->Deed K}:∀{l:List Nat} {b:Book K},(∀d∈l,(deed' d).done=(deed d).done)->zdQ deed' l b=zdQ deed l b
 | [],_,_=>rfl
 | d::r,b,h=>by
  simp only[zdQ];rw[h d yac];exact zbu λx hx=>h x (yad _ hx)
def lets(h:List (Nat×Bool))(d:Nat)(w:Bool):Bool:=h.all λp=>p.1 == d || !(w || p.2)
def zbg(h:List (Nat×Bool))(d:Nat)(w:Bool):List (Nat×Bool) :=
 if h.any (λp=>p.1 == d) then h.map (λp=>if p.1 == d then (d,w) else p) else h++[(d,w)]
def less(h:List (Nat×Bool))(d:Nat):List (Nat×Bool):=h.filter λp=>p.1 != d
def doIt(s:HS K)(d:Nat)(a:Act K):HS K :=
  if a.wr then
    { s with deed:=up s.deed d { s.deed d with st:=.zar,done:=(s.deed d).done++[a] },
             log:=s.log++[.write d a.key ((s.book a.key).getD 0) a.val],
             book:=up s.book a.key (some a.val) }
  else { s with deed:=up s.deed d { s.deed d with st:=.zar,done:=(s.deed d).done++[⟨false,a.key,(s.book a.key).getD 0⟩] } }
def take(s:HS K)(d:Nat)(k:K)(w:Bool):HS K:={ s with held:=up s.held k (zbg (s.held k) d w) }
def zbq:Nat->HS K->K->HS K
 | 0,s,_=>s
 | f+1,s,k=>match s.rows k with
  | []=>s
  | (d,w)::r=>if lets (s.held k) d w then
    match (s.deed d).wish with
    | some a=>zbq f (doIt (take { s with rows:=up s.rows k r } d k w) d a) k
    | none=>s
   else s
def zaM(s:HS K):List K->HS K
 | []=>s
 | k::r=>zaM (zbq (s.rows k).length s k) r
def letGo(s:HS K)(d:Nat):HS K:={ s with held:=λk=>less (s.held k) d,rows:=λk=>less (s.rows k) d }
variable(ord:List K->List K)
def free(s:HS K)(d:Nat):HS K:=zaM (letGo s d) (ord s.seen)
def zgc(s:HS K)(d:Nat)(t:DS):HS K:={ s with deed:=up s.deed d { s.deed d with st:=t } }
def zf0(s:HS K)(d:Nat):HS K:={ zgc s d .kept with kept:=s.kept++[d],log:=s.log++[.keep d] }
def zrI(s:HS K)(d:Nat):HS K :=
 { zgc s d .dropped with book:=λk=>if (zaV (s.deed d).done k).isSome then zam s k else s.book k,log:=s.log++[.drop d] }
def keep(s:HS K)(d:Nat):HS K:=free ord (zf0 s d) d
def drop(s:HS K)(d:Nat):HS K:=free ord (zrI s d) d
def zav(s:HS K):HS K:={ s with n:=s.n+1,deed:=up s.deed s.n ⟨.zar,[],none⟩,log:=s.log++[.begin s.n] }
def zbV(s:HS K)(d:Nat):List Nat:=match (s.deed d).st,(s.deed d).wish with
 | .waiting,some a=>((s.rows a.key).takeWhile λp=>p.1 != d).map (·.1)++((s.held a.key).filter λp=>p.1 != d && (a.wr || p.2)).map (·.1)
 | _,_=>[]
inductive Reach(s:HS K):Nat->Nat->Prop where
 | one {d e:Nat}:e∈zbV s d->Reach s d e
 | step {d e f:Nat}:e∈zbV s d->Reach s e f->Reach s d f
open Classical in
noncomputable def rings(s:HS K):List Nat:=(List.range s.n).filter λd=>decide (Reach s d d)
noncomputable def settle:Nat->HS K->HS K
 | 0,s=>s
 | f+1,s=>match (rings s).getLast? with
  | none=>s
  | some d=>settle f (drop ord s d)
def has(h:List (Nat×Bool))(d:Nat):Bool:=h.any λp=>p.1 == d
def look(h:List (Nat×Bool))(d:Nat):Option Bool:=(h.find? λp=>p.1 == d).map (·.2)
def see(s:HS K)(k:K):HS K:={ s with seen:=if k∈s.seen then s.seen else s.seen++[k] }
def wait(s:HS K)(d:Nat)(a:Act K):HS K :=
  { s with deed:=up s.deed d { s.deed d with st:=.waiting,wish:=some a },
           rows:=up s.rows a.key (if has (s.held a.key) d then (d,a.wr)::s.rows a.key else s.rows a.key++[(d,a.wr)]) }
noncomputable def wish(s:HS K)(d:Nat)(a:Act K):HS K :=
 let s:=see s a.key
 if look (s.held a.key) d=some a.wr\/look (s.held a.key) d=some true then doIt s d a
 else if lets (s.held a.key) d a.wr=true/\(has (s.held a.key) d=true\/s.rows a.key=[]) then doIt (take s d a.key a.wr) d a
 else settle ord s.n (wait s d a)
end
end TH
end
section
namespace TH
section
variable{K:Type}[DecidableEq K]
structure Core(s:HS K)(x:Option Nat):Prop where
 out:∀d,s.n<=d->(s.deed d).st=.dropped/\(s.deed d).done=[]
 hAct:∀k p,p∈s.held k->(s.deed p.1).act
 hNd:∀k,((s.held k).map (·.1)).Nodup
 hEx:∀k d,(d,true)∈s.held k->∀p∈s.held k,p.1=d
 rAct:∀k p,p∈s.rows k->(s.deed p.1).st=.waiting/\∃a,(s.deed p.1).wish=some a/\a.key=k/\a.wr=p.2
 rNd:∀k,((s.rows k).map (·.1)).Nodup
 wRow:∀d,some d≠x->(s.deed d).st=.waiting->∃a,(s.deed d).wish=some a/\(d,a.wr)∈s.rows a.key
 zfL:∀k d w w',(d,w)∈s.rows k->(d,w')∈s.held k->w'=false/\w=true
 zfj:∀d,(s.deed d).act->∀a∈(s.deed d).done,∃w,(d,w)∈s.held a.key/\(a.wr=true->w=true)
 zfg:∀k,k∉s.seen->s.held k=[]/\s.rows k=[]
 bOwn:∀d,(s.deed d).act->∀k v,zaV (s.deed d).done k=some v->s.book k=some v
 zgD:∀k,(∀d,(s.deed d).act->zaV (s.deed d).done k=none)->s.book k=zam s k
 ser:zeh s.deed s.kept (λ_=>none)=some (zam s)
 actR:∀d,(s.deed d).act->(replay (s.deed d).done (zam s)).isSome=true
 zdf:∀d,d∈s.kept↔(s.deed d).st=.kept
 zhx:s.kept.Nodup
theorem zed{D:Deed K}(h:D.act):D.st≠.kept:=by
 rcases h with h | h<;>rw[h]<;>decide
theorem zfs{D:Deed K}(h:D.act):D.st≠.dropped:=by
 rcases h with h | h<;>rw[h]<;>decide
theorem Core.lt{s:HS K}{x:Option Nat}(c:Core s x){d:Nat}(h:(s.deed d).act):d < s.n:=by
 by_cases e:d < s.n
 . exact e
 . exact absurd (c.out d (by omega)).1 (zfs h)
theorem Core.sole{s:HS K}{x:Option Nat}(c:Core s x){d e:Nat}{k:K}{v:Int}{w:Bool}(hd:(s.deed d).act)(hw:zaV (s.deed d).done k=some v)(he:(e,w)∈s.held k):e=d:=by
 obtain⟨a,ha,aw,ak⟩:=zeV hw;obtain⟨w',hh,hw'⟩:=c.zfj d hd a ha;rw[hw' aw,ak]at hh;exact c.hEx k d hh (e,w) he
theorem zbT{s t:HS K}(h:t.kept=s.kept)(hd:∀d∈s.kept,(t.deed d).done=(s.deed d).done):zam t=zam s:=by
 unfold zam;rw[h];exact zbu hd
theorem Core.reads{s:HS K}{x:Option Nat}(c:Core s x){d:Nat}{k:K}{w:Bool}(hd:(s.deed d).act)(hh:(d,w)∈s.held k):s.book k=over (zam s) (s.deed d).done k:=by
 rw[zfP];cases e:zaV (s.deed d).done k with
 | some v=>exact c.bOwn d hd k v e
 | none =>
  refine c.zgD k λf hf=>?_;cases e':zaV (s.deed f).done k with
  | none=>rfl
  | some v =>
   have q:=c.sole hf e' hh;subst q;rw[e]at e';cases e'
theorem Core.doIt{s:HS K}{d:Nat}{a:Act K}{w:Bool}(c:Core s (some d))(hd:(s.deed d).act)(hr:∀k w,(d,w)∉s.rows k)(hh:(d,w)∈s.held a.key)(hw:a.wr=true->w=true):Core (doIt s d a) none:=by
 have hnk:(s.deed d).st≠.kept:=zed hd;have nk:∀e∈s.kept,e≠d:=λe he z=>by subst z;exact hnk ((c.zdf _).mp he)
 have main:∀(a':Act K) (bk:Book K) (lg:List (Row K)),a'.key=a.key->a'.wr=a.wr->(a.wr=false->bk=s.book/\a'.val=(s.book a.key).getD 0)->(a.wr=true->bk=up s.book a.key (some a'.val)) ->
    Core { s with deed:=up s.deed d { s.deed d with st:=.zar,done:=(s.deed d).done++[a'] },log:=lg,book:=bk } none:=by
  intro a' bk lg ek ew hbr hbw;have dd:∀e,e≠d->up s.deed d { s.deed d with st:=.zar,done:=(s.deed d).done++[a'] } e=s.deed e:=λe he=>zao he;have ds:up s.deed d { s.deed d with st:=.zar,done:=(s.deed d).done++[a'] } d={ s.deed d with st:=.zar,done:=(s.deed d).done++[a'] }:=zae;have actE:∀e,(up s.deed d { s.deed d with st:=.zar,done:=(s.deed d).done++[a'] } e).act↔(s.deed e).act:=λe=>by
    by_cases h:e=d
    . subst h;rw[ds];exact⟨λ_=>hd,λ_=>.inl rfl⟩
    . rw[dd e h]
  have kb:zam { s with deed:=up s.deed d { s.deed d with st:=.zar,done:=(s.deed d).done++[a'] },log:=lg,book:=bk }=zam s :=
    zbT rfl λe he=>by show(up s.deed d _ e).done=_;rw[dd e (nk e he)]
  have lastE:∀e k,zaV (up s.deed d { s.deed d with st:=.zar,done:=(s.deed d).done++[a'] } e).done k=if e=d/\a.wr=true/\a.key=k then some a'.val else zaV (s.deed e).done k:=λe k=>by
    by_cases h:e=d
    . subst h;rw[ds];show zaV ((s.deed e).done++[a']) k=_;rw[ze9,ek,ew];simp
    . rw[dd e h];simp[h]
  refine⟨λe he=>?_,λk p hp=>?_,c.hNd,c.hEx,λk p hp=>?_,c.rNd,λe _ he=>?_,c.zfL,λe he b hb=>?_,c.zfg,λe he k v hv=>?_,λk hk=>?_,?_,λe he=>?_,λe=>?_,c.zhx⟩
  . have:e≠d:=λz=>by subst z;have:=c.lt hd;have he':s.n<=e:=he;omega
    rw[show({ s with deed:=up s.deed d { s.deed d with st:=.zar,done:=(s.deed d).done++[a'] },log:=lg,book:=bk }:HS K).deed e=s.deed e from dd e this];exact c.out e he
  . exact(actE p.1).mpr (c.hAct k p hp)
  . have:p.1≠d:=λz=>hr k p.2 (by rw[<-z];exact hp);rw[show({ s with deed:=up s.deed d { s.deed d with st:=.zar,done:=(s.deed d).done++[a'] },log:=lg,book:=bk }:HS K).deed p.1=s.deed p.1 from dd p.1 this];exact c.rAct k p hp
  . have hne:e≠d:=λz=>by
      subst z;have he':(up s.deed e { s.deed e with st:=.zar,done:=(s.deed e).done++[a'] } e).st=.waiting:=he;rw[ds]at he';cases he'
    have he':(up s.deed d { s.deed d with st:=.zar,done:=(s.deed d).done++[a'] } e).st=.waiting:=he;rw[dd e hne]at he';obtain⟨b,q1,q2⟩:=c.wRow e (λz=>hne (yaL z)) he';exact⟨b,by show(up s.deed d _ e).wish=_;rw[dd e hne];exact q1,q2⟩
  . by_cases h:e=d
    . subst h;have hb':b∈(up s.deed e { s.deed e with st:=.zar,done:=(s.deed e).done++[a'] } e).done:=hb;rw[ds]at hb';rcases yas.mp hb' with q | q
      . exact c.zfj e hd b q
      . have q':b=a':=by simpa using q
        subst q';exact⟨w,by rw[ek];exact hh,λz=>hw (by rw[<-ew];exact z)⟩
    . have hb':b∈(up s.deed d { s.deed d with st:=.zar,done:=(s.deed d).done++[a'] } e).done:=hb;rw[dd e h]at hb';exact c.zfj e ((actE e).mp he) b hb'
  . have hv':zaV (up s.deed d { s.deed d with st:=.zar,done:=(s.deed d).done++[a'] } e).done k=some v:=hv;rw[lastE]at hv';have he':=(actE e).mp he;show bk k=some v;by_cases h:e=d/\a.wr=true/\a.key=k
    . rw[yaj h]at hv';obtain⟨h1,h2,h3⟩:=h;rw[hbw h2,<-h3,zae];exact hv'
    . rw[yai h]at hv';cases hwr:a.wr with
      | false=>rw[(hbr hwr).1];exact c.bOwn e he' k v hv'
      | true =>
        have hne:k≠a.key:=λz=>by
         subst z;have q:=c.sole he' hv' hh;exact h ⟨q.symm,hwr,rfl⟩
        rw[hbw hwr,zao hne];exact c.bOwn e he' k v hv'
  . show bk k=zam _ k;rw[kb];have hk':∀e,(s.deed e).act->¬(e=d/\a.wr=true/\a.key=k)/\zaV (s.deed e).done k=none:=λe he=>by
      have q:zaV (up s.deed d { s.deed d with st:=.zar,done:=(s.deed d).done++[a'] } e).done k=none:=hk e ((actE e).mpr he);rw[lastE]at q;by_cases h:e=d/\a.wr=true/\a.key=k
      . rw[yaj h]at q;cases q
      . rw[yai h]at q;exact⟨h,q⟩
    cases hwr:a.wr with
    | false=>rw[(hbr hwr).1];exact c.zgD k λe he=>(hk' e he).2
    | true =>
      have hne:k≠a.key:=λz=>(hk' d hd).1 ⟨rfl,hwr,z.symm⟩;rw[hbw hwr,zao hne];exact c.zgD k λe he=>(hk' e he).2
  . show zeh (up s.deed d _) s.kept _=_;rw[kb,<-c.ser];exact zcG λe he=>by rw[dd e (nk e he)]
  . rw[kb];show(replay (up s.deed d _ e).done (zam s)).isSome=true;by_cases h:e=d
    . subst h;rw[ds];show(replay ((s.deed e).done++[a']) (zam s)).isSome=true;rw[zov,zh8 (c.actR e hd)];show(replay [a'] (over (zam s) (s.deed e).done)).isSome=true;unfold replay;cases hwr:a.wr with
      | true=>rw[yaj (by rw[ew,hwr])];rfl
      | false =>
        rw[yai (by rw[ew,hwr];decide),yaj (by rw[ek,<-c.reads hd hh,(hbr hwr).2])]
        rfl
    . rw[dd e h];exact c.actR e ((actE e).mp he)
  . show e∈s.kept↔(up s.deed d _ e).st=.kept;by_cases h:e=d
    . subst h;rw[ds,c.zdf e];exact⟨λz=>absurd z hnk,λz=>by cases z⟩
    . rw[dd e h];exact c.zdf e
 unfold TH.doIt;cases hwr:a.wr with
 | true=>exact main a _ _ rfl rfl (λz=>by rw[hwr]at z;cases z) λ_=>rfl
 | false=>exact main ⟨false,a.key,(s.book a.key).getD 0⟩ _ _ rfl hwr.symm (λ_=>⟨rfl,rfl⟩) λz=>by rw[hwr]at z;cases z
end
end TH
end
section
namespace TH
section
variable{K:Type}[DecidableEq K]
theorem zcY{h:List (Nat×Bool)}{d:Nat}{p:Nat×Bool}:p∈less h d↔p∈h/\p.1≠d:=by
 unfold less;rw[ya3];simp
theorem zjB{h:List (Nat×Bool)}{d:Nat}(n:(h.map (·.1)).Nodup):((less h d).map (·.1)).Nodup :=
 n.sublist (List.Sublist.map _ yc6)
theorem znR{h:List (Nat×Bool)}{d:Nat}{w:Bool}:lets h d w=true↔∀p∈h,p.1≠d->w=false/\p.2=false:=by
 unfold lets;rw[ybh];refine⟨λq p hp hn=>?_,λq p hp=>?_⟩
 . have:=q p hp;cases w<;>cases hb:p.2<;>simp_all
 . by_cases hn:p.1=d
   . simp[hn]
   . obtain⟨q1,q2⟩:=q p hp hn;simp[q1,q2]
theorem zhc{h:List (Nat×Bool)}{d:Nat}:(h.any λp=>p.1 == d)=true↔∃w,(d,w)∈h:=by
 rw[ydB];refine⟨λ⟨p,hp,e⟩=>⟨p.2,?_⟩,λ⟨w,hw⟩=>⟨(d,w),hw,by simp⟩⟩;have e':p.1=d:=by simpa using e
 rw[<-e'];exact hp
theorem zaU{h:List (Nat×Bool)}{d:Nat}{w:Bool}{p:Nat×Bool}:p∈zbg h d w↔p=(d,w)\/(p∈h/\p.1≠d):=by
 unfold zbg;by_cases c:(h.any λp=>p.1 == d)=true
 . rw[yaj c,yap];refine⟨λ⟨q,hq,e⟩=>?_,λz=>?_⟩
   . by_cases hn:q.1=d
     . simp[hn]at e;exact .inl e.symm
     . simp[hn]at e;subst e;exact .inr ⟨hq,hn⟩
   . rcases z with z | ⟨z1,z2⟩
     . obtain⟨w',hw'⟩:=zhc.mp c;exact⟨(d,w'),hw',by simp[z]⟩
     . exact⟨p,z1,by simp[z2]⟩
 . rw[yai c,yas];refine⟨λz=>?_,λz=>?_⟩
   . rcases z with z | z
     . refine .inr ⟨z,λe=>c (zhc.mpr ⟨p.2,?_⟩)⟩;rw[<-e];exact z
     . exact .inl (by simpa using z)
   . rcases z with z | ⟨z1,_⟩
     . exact .inr (by simp[z])
     . exact .inl z1
theorem zmL{h:List (Nat×Bool)}{d:Nat}{w:Bool}:(zbg h d w).map (·.1)=if (h.any λp=>p.1 == d)=true then h.map (·.1) else h.map (·.1)++[d]:=by
 unfold zbg;by_cases c:(h.any λp=>p.1 == d)=true
 . rw[yaj c,yaj c,ya7];refine ybq λp _=>?_;by_cases hn:p.1=d
   . simp[hn]
   . simp[hn]
 . rw[yai c,yai c,yav];rfl
theorem zkn{h:List (Nat×Bool)}{d:Nat}{w:Bool}(n:(h.map (·.1)).Nodup):((zbg h d w).map (·.1)).Nodup:=by
 rw[zmL];by_cases c:(h.any λp=>p.1 == d)=true
 . rw[yaj c];exact n
 . rw[yai c];refine ybi.mpr ⟨n,by simp,λa ha b hb=>?_⟩;have hb':b=d:=by simpa using hb
   subst hb';rintro rfl;obtain⟨p,hp,e⟩:=yap.mp ha;exact c (zhc.mpr ⟨p.2,by rw[<-e];exact hp⟩)
theorem Core.take{s:HS K}{x:Option Nat}{d:Nat}{k:K}{w:Bool}(c:Core s x)(hd:(s.deed d).act)(hl:lets (s.held k) d w=true)(hf:w=false->∀w',(d,w')∉s.held k)(hr:∀w',(d,w')∉s.rows k)(hk:k∈s.seen):Core (TH.take s d k w) x:=by
 have hh:∀ k',k'≠k->(TH.take s d k w).held k'=s.held k':=λ k' h=>zao h;have hs:(TH.take s d k w).held k=zbg (s.held k) d w:=zae;have hl':=znR.mp hl;have mem:∀ k' p,p∈(TH.take s d k w).held k'->p∈s.held k'\/(k'=k/\p=(d,w)):=λ k' p hp=>by
   by_cases h:k'=k
   . subst h;rw[hs]at hp;rcases zaU.mp hp with z | z
     . exact .inr ⟨rfl,z⟩
     . exact .inl z.1
   . rw[hh k' h]at hp;exact .inl hp
 refine⟨c.out,λk' p hp=>?_,λk'=>?_,λk' e he p hp=>?_,c.rAct,c.rNd,c.wRow,λk' e v v' h1 h2=>?_,λe he a ha=>?_,λk' h'=>?_,c.bOwn,c.zgD,c.ser,c.actR,c.zdf,c.zhx⟩
 . rcases mem k' p hp with z | ⟨_,z⟩
   . exact c.hAct k' p z
   . subst z;exact hd
 . by_cases h:k'=k
   . subst h;rw[hs];exact zkn (c.hNd k')
   . rw[hh k' h];exact c.hNd k'
 . by_cases h:k'=k
   . subst h;rw[hs]at he hp;rcases zaU.mp he with z | ⟨z1,z2⟩
     . have z1:e=d:=yaZ Prod.fst z;have z2:w=true:=(yaZ Prod.snd z).symm;subst z1;rcases zaU.mp hp with y | ⟨y1,y2⟩
       . rw[y]
       . have:=(hl' p y1 y2).1;rw[z2]at this;cases this
     . have:=(hl' (e,true) z1 z2).2;cases this
   . rw[hh k' h]at he hp;exact c.hEx k' e he p hp
 . by_cases h:k'=k
   . subst h;rw[hs]at h2;rcases zaU.mp h2 with z | ⟨z1,z2⟩
     . have z1:e=d:=yaZ Prod.fst z;subst z1;exact absurd h1 (hr v)
     . exact c.zfL k' e v v' h1 z1
   . rw[hh k' h]at h2;exact c.zfL k' e v v' h1 h2
 . obtain⟨v,q1,q2⟩:=c.zfj e he a ha;by_cases h:a.key=k
   . by_cases hed:e=d
     . subst hed;refine⟨w,by rw[h,hs];exact zaU.mpr (.inl rfl),λz=>?_⟩;cases hw:w with
       | true=>rfl
       | false=>exact absurd (h▸q1) (hf hw v)
     . exact⟨v,by rw[h,hs];exact zaU.mpr (.inr ⟨h▸q1,hed⟩),q2⟩
   . exact⟨v,by rw[hh _ h];exact q1,q2⟩
 . have:k'≠k:=λz=>h' (z▸hk);rw[hh k' this];exact c.zfg k' h'
theorem Core.ends{s:HS K}{d:Nat}{t:DS}{bk:Book K}{kp:List Nat}{lg:List (Row K)}(c:Core s none)(hd:(s.deed d).act)(ht:t=.kept\/t=.dropped)
   (hk:∀e,e∈kp↔(up s.deed d { s.deed d with st:=t } e).st=.kept) (hn:kp.Nodup)
   (hser:zeh s.deed kp (λ_=>none)=some (zdQ s.deed kp λ_=>none))
   (hact:∀e,e≠d->(s.deed e).act->(replay (s.deed e).done (zdQ s.deed kp λ_=>none)).isSome=true)
   (hbo:∀e,e≠d->(s.deed e).act->∀k v,zaV (s.deed e).done k=some v->bk k=some v)
   (hbk:∀k,(∀e,e≠d->(s.deed e).act->zaV (s.deed e).done k=none)->bk k=zdQ s.deed kp (λ_=>none) k) :
   Core (letGo { s with deed:=up s.deed d { s.deed d with st:=t },book:=bk,kept:=kp,log:=lg } d) none:=by
 have dd:∀e,e≠d->up s.deed d { s.deed d with st:=t } e=s.deed e:=λe he=>zao he;have ds:up s.deed d { s.deed d with st:=t } d={ s.deed d with st:=t }:=zae;have dn:∀e,(up s.deed d { s.deed d with st:=t } e).done=(s.deed e).done:=λe=>by
   by_cases h:e=d
   . subst h;rw[ds]
   . rw[dd e h]
 have actE:∀e,(up s.deed d { s.deed d with st:=t } e).act->e≠d/\(s.deed e).act:=λe he=>by
   by_cases h:e=d
   . subst h;rw[ds]at he;rcases he with he | he<;>rcases ht with z | z<;>(have he':t=_:=he;rw[z]at he';cases he')
   . rw[dd e h]at he;exact⟨h,he⟩
 have kb:zam (letGo { s with deed:=up s.deed d { s.deed d with st:=t },book:=bk,kept:=kp,log:=lg } d)=zdQ s.deed kp λ_=>none:=zbu λe _=>dn e;refine⟨λe he=>?_,λk p hp=>?_,λk=>zjB (c.hNd k),λk e he p hp=>?_,λk p hp=>?_,λk=>zjB (c.rNd k),λe _ he=>?_,λk e v v' h1 h2=>?_,λe he a ha=>?_,λk hk'=>?_,λe he k v hv=>?_,λk hk'=>?_,?_,λe he=>?_,hk,hn⟩
 . have he':s.n<=e:=he;have:e≠d:=λz=>by subst z;have:=c.lt hd;omega
   show(up s.deed d _ e).st=_/\(up s.deed d _ e).done=_;rw[dd e this];exact c.out e he'
 . have hp':=zcY.mp hp;show(up s.deed d _ p.1).act;rw[dd _ hp'.2];exact c.hAct k p hp'.1
 . exact c.hEx k e (zcY.mp he).1 p (zcY.mp hp).1
 . have hp':=zcY.mp hp;show(up s.deed d _ p.1).st=_/\∃a,(up s.deed d _ p.1).wish=some a/\_;rw[dd _ hp'.2];exact c.rAct k p hp'.1
 . have he':(up s.deed d { s.deed d with st:=t } e).st=.waiting:=he;obtain⟨h1,h2⟩:=actE e (.inr he');rw[dd e h1]at he';obtain⟨a,q1,q2⟩:=c.wRow e (λz=>by cases z) he';exact⟨a,by show(up s.deed d _ e).wish=_;rw[dd e h1];exact q1,zcY.mpr ⟨q2,h1⟩⟩
 . exact c.zfL k e v v' (zcY.mp h1).1 (zcY.mp h2).1
 . obtain⟨h1,h2⟩:=actE e he;have ha':a∈(up s.deed d { s.deed d with st:=t } e).done:=ha;rw[dn e]at ha';obtain⟨v,q1,q2⟩:=c.zfj e h2 a ha';exact⟨v,zcY.mpr ⟨q1,h1⟩,q2⟩
 . obtain⟨q1,q2⟩:=c.zfg k hk';show less (s.held k) d=[]/\less (s.rows k) d=[]
   rw[q1,q2];exact⟨rfl,rfl⟩
 . obtain⟨h1,h2⟩:=actE e he;have hv':zaV (up s.deed d { s.deed d with st:=t } e).done k=some v:=hv;rw[dn e]at hv';exact hbo e h1 h2 k v hv'
 . rw[kb];refine hbk k λe h1 h2=>?_;have q:zaV (up s.deed d { s.deed d with st:=t } e).done k=none:=hk' e (by show(up s.deed d _ e).act;rw[dd e h1];exact h2);rw[dn e]at q;exact q
 . rw[kb,<-hser];exact zcG λe _=>dn e
 . obtain⟨h1,h2⟩:=actE e he;rw[kb];show(replay (up s.deed d _ e).done _).isSome=true;rw[dn e];exact hact e h1 h2
theorem Core.keeps{s:HS K}{d:Nat}(c:Core s none)(hd:(s.deed d).act):Core (letGo (zf0 s d) d) none:=by
 have kd:d∉s.kept:=λz=>zed hd ((c.zdf d).mp z);have kf:zdQ s.deed (s.kept++[d]) (λ_=>none)=over (zam s) (s.deed d).done:=by rw[zgo];rfl
 refine Core.ends (t:=.kept) c hd (.inl rfl) (λe=>?_) (ybi.mpr ⟨c.zhx,by simp,λa ha b hb=>?_⟩) ?_ (λe h1 h2=>?_) (λe h1 h2 k v hv=>c.bOwn e h2 k v hv) λk hk=>?_
 . rw[yas,c.zdf e];by_cases h:e=d
   . subst h;rw[zae];simp
   . rw[zao h];simp[h]
 . have hb':b=d:=by simpa using hb
   subst hb';rintro rfl;exact kd ha
 . rw[zjx,c.ser,kf];show(replay (s.deed d).done (zam s)).bind (zeh s.deed [])=_;rw[zh8 (c.actR d hd)];rfl
 . rw[kf,<-zeL (b:=zam s) λa ha=>?_]
   . exact c.actR e h2
   . rw[zfP];cases q:zaV (s.deed d).done a.key with
     | none=>rfl
     | some v =>
       obtain⟨w,q1,_⟩:=c.zfj e h2 a ha;exact absurd (c.sole hd q q1) h1
 . rw[kf,zfP];cases q:zaV (s.deed d).done k with
   | some v=>exact c.bOwn d hd k v q
   | none =>
     refine c.zgD k λe he=>?_;by_cases h:e=d
     . subst h;exact q
     . exact hk e h he
theorem Core.drops{s:HS K}{d:Nat}(c:Core s none)(hd:(s.deed d).act):Core (letGo (zrI s d) d) none:=by
 refine Core.ends (t:=.dropped) c hd (.inr rfl) (λe=>?_) c.zhx c.ser (λe _ h2=>c.actR e h2) (λe h1 h2 k v hv=>?_) λk hk=>?_
 . show e∈s.kept↔_;rw[c.zdf e];by_cases h:e=d
   . subst h;rw[zae];exact⟨λz=>absurd z (zed hd),λz=>by cases z⟩
   . rw[zao h]
 . cases q:zaV (s.deed d).done k with
   | none=>simp[q];exact c.bOwn e h2 k v hv
   | some u =>
     obtain⟨a,ha,aw,ak⟩:=zeV hv;obtain⟨w,q1,_⟩:=c.zfj e h2 a ha;rw[ak]at q1;exact absurd (c.sole hd q q1) h1
 . show(if (zaV (s.deed d).done k).isSome=true then zam s k else s.book k)=zam s k;cases q:zaV (s.deed d).done k with
   | some u=>simp
   | none =>
     simp;refine c.zgD k λe he=>?_;by_cases h:e=d
     . subst h;exact q
     . exact hk e h he
theorem Core.zqm{s:HS K}{k:K}{d:Nat}{w:Bool}{r:List (Nat×Bool)}{a:Act K}(c:Core s none)(hr:s.rows k=(d,w)::r)(hl:lets (s.held k) d w=true)(ha:(s.deed d).wish=some a) :
  Core (TH.doIt (TH.take { s with rows:=up s.rows k r } d k w) d a) none:=by
 have hm:(d,w)∈s.rows k:=by rw[hr];exact yac
 obtain⟨hw,a',ea,ek,ew⟩:=c.rAct k (d,w) hm;have ea':some a=some a':=ha.symm.trans ea;cases ea';have nd:=c.rNd k;rw[hr]at nd;have ndr:∀w',(d,w')∉r:=λw' z=>(yaW.mp nd).1 (yap.mpr ⟨_,z,rfl⟩);have rk:(up s.rows k r) k=r:=zae;have rn:∀k',k'≠k->(up s.rows k r) k'=s.rows k':=λk' h=>zao h;have sub:∀k' p,p∈(up s.rows k r) k'->p∈s.rows k':=λk' p hp=>by
  by_cases h:k'=k
  . subst h;rw[rk]at hp;rw[hr];exact yad _ hp
  . rw[rn k' h]at hp;exact hp
 have nor:∀k' w',(d,w')∉(up s.rows k r) k':=λk' w' hp=>by
  by_cases h:k'=k
  . subst h;rw[rk]at hp;exact ndr w' hp
  . have:=(c.rAct k' _ (sub k' _ hp)).2;obtain⟨a'',q1,q2,_⟩:=this;have q1':(s.deed d).wish=some a'':=q1;rw[ha]at q1';cases q1';exact h (q2.symm.trans ek)
 have c1:Core { s with rows:=up s.rows k r } (some d):=by
  refine⟨c.out,c.hAct,c.hNd,c.hEx,λk' p hp=>c.rAct k' p (sub k' p hp),λk'=>?_,λe he hwt=>?_,λk' e v v' h1 h2=>c.zfL k' e v v' (sub k' _ h1) h2,c.zfj,λk' h'=>?_,c.bOwn,c.zgD,c.ser,c.actR,c.zdf,c.zhx⟩
  . by_cases h:k'=k
    . subst h;show((up s.rows k' r k').map _).Nodup;rw[rk];exact(yaW.mp nd).2
    . show((up s.rows k r k').map _).Nodup;rw[rn k' h];exact c.rNd k'
  . obtain⟨b,q1,q2⟩:=c.wRow e (λz=>by cases z) hwt;refine⟨b,q1,?_⟩;show(e,b.wr)∈up s.rows k r b.key;by_cases h:b.key=k
    . rw[h,rk];rw[h,hr]at q2;rcases yat.mp q2 with z | z
      . exact absurd (yaZ some (yaZ Prod.fst z)) he
      . exact z
    . rw[rn _ h];exact q2
  . obtain⟨q1,q2⟩:=c.zfg k' h';have:k'≠k:=λz=>by subst z;rw[hr]at q2;cases q2
    exact⟨q1,by show up s.rows k r k'=_;rw[rn k' this];exact q2⟩
 have hks:k∈s.seen:=by
  by_cases z:k∈s.seen
  . exact z
  . have:=(c.zfg k z).2;rw[hr]at this;cases this
 have c2:Core (TH.take { s with rows:=up s.rows k r } d k w) (some d):=c1.take (.inr hw) hl (λhwf w' z=>by
  obtain⟨_,q⟩:=c.zfL k d w w' hm z;rw[hwf]at q;cases q) (λw' z=>nor k w' z) hks
 refine c2.doIt (w:=w) (.inr hw) nor ?_ λz=>by have ew':a.wr=w:=ew;rw[<-ew'];exact z
 show(d,w)∈up s.held k (zbg (s.held k) d w) a.key;rw[ek,zae];exact zaU.mpr (.inl rfl)
theorem Core.zbq{k:K}:∀{f:Nat} {s:HS K},Core s none->Core (TH.zbq f s k) none
 | 0,s,c=>c
 | f+1,s,c=>by
  unfold TH.zbq;split
  . exact c
  . rename_i d w r hr;split
    . rename_i hl;split
      . rename_i a ha;exact Core.zbq (c.zqm hr hl ha)
      . exact c
    . exact c
theorem Core.zaM:∀{ks:List K} {s:HS K},Core s none->Core (TH.zaM s ks) none
 | [],s,c=>c
 | k::r,s,c=>by unfold TH.zaM;exact Core.zaM c.zbq
variable(ord:List K->List K)
theorem Core.keep{s:HS K}{d:Nat}(c:Core s none)(hd:(s.deed d).act):Core (TH.keep ord s d) none:=Core.zaM (c.keeps hd)
theorem Core.drop{s:HS K}{d:Nat}(c:Core s none)(hd:(s.deed d).act):Core (TH.drop ord s d) none:=Core.zaM (c.drops hd)
theorem zhV{s:HS K}{d e:Nat}(h:e∈zbV s d):(s.deed d).st=.waiting:=by
 unfold zbV at h;split at h
 . rename_i q _;exact q
 . cases h
theorem zaO{s:HS K}{d e:Nat}(h:Reach s d e):(s.deed d).st=.waiting:=by
 cases h with
 | one q=>exact zhV q
 | step q _=>exact zhV q
theorem zbI{s:HS K}{d:Nat}(h:d∈rings s):d < s.n/\Reach s d d:=by
 unfold rings at h;rw[ya3]at h;exact⟨yaV.mp h.1,@ydm _ (_) h.2⟩
theorem Core.settle:∀{f:Nat} {s:HS K},Core s none->Core (TH.settle ord f s) none
 | 0,s,c=>c
 | f+1,s,c=>by
  unfold TH.settle;split
  . exact c
  . rename_i d hd;have:=zbI (ya2 hd);exact Core.settle (c.drop ord (.inr (zaO this.2)))
theorem Core.zav{s:HS K}(c:Core s none):Core (TH.zav s) none:=by
 have o:=c.out s.n (yaf _);have dd:∀e,e≠s.n->up s.deed s.n ⟨.zar,[],none⟩ e=s.deed e:=λe he=>zao he;have ds:up s.deed s.n (⟨.zar,[],none⟩:Deed K) s.n=⟨.zar,[],none⟩:=zae;have nn:∀{e},(s.deed e).act->e≠s.n:=λh z=>by subst z;exact zfs h o.1
 have nk:∀e∈s.kept,e≠s.n:=λe he z=>by subst z;have:=(c.zdf _).mp he;rw[o.1]at this;cases this
 have dn:∀e,(up s.deed s.n ⟨.zar,[],none⟩ e).done=(s.deed e).done:=λe=>by
   by_cases h:e=s.n
   . subst h;rw[ds,o.2]
   . rw[dd e h]
 have kb:zam (TH.zav s)=zam s:=zbu λe _=>dn e;refine⟨λe he=>?_,λk p hp=>?_,c.hNd,c.hEx,λk p hp=>?_,c.rNd,λe _ he=>?_,c.zfL,λe he a ha=>?_,c.zfg,λe he k v hv=>?_,λk hk=>?_,?_,λe he=>?_,λe=>?_,c.zhx⟩
 . have he':s.n+1<=e:=he;show(up s.deed s.n _ e).st=_/\(up s.deed s.n _ e).done=_;rw[dd e (by omega)];exact c.out e (by omega)
 . have q:=c.hAct k p hp;show(up s.deed s.n _ p.1).act;rw[dd _ (nn q)];exact q
 . have q:=c.rAct k p hp;show(up s.deed s.n _ p.1).st=_/\∃a,(up s.deed s.n _ p.1).wish=some a/\_;rw[dd _ (nn (.inr q.1))];exact q
 . have he':(up s.deed s.n ⟨.zar,[],none⟩ e).st=.waiting:=he;have hne:e≠s.n:=λz=>by subst z;rw[ds]at he';cases he'
   rw[dd e hne]at he';obtain⟨a,q1,q2⟩:=c.wRow e (λz=>by cases z) he';exact⟨a,by show(up s.deed s.n _ e).wish=_;rw[dd e hne];exact q1,q2⟩
 . have ha':a∈(up s.deed s.n ⟨.zar,[],none⟩ e).done:=ha;by_cases h:e=s.n
   . subst h;rw[ds]at ha';cases ha'
   . rw[dd e h]at ha';have he':(up s.deed s.n ⟨.zar,[],none⟩ e).act:=he;rw[dd e h]at he';exact c.zfj e he' a ha'
 . have hv':zaV (up s.deed s.n ⟨.zar,[],none⟩ e).done k=some v:=hv;by_cases h:e=s.n
   . subst h;rw[ds]at hv';cases hv'
   . have he':(up s.deed s.n ⟨.zar,[],none⟩ e).act:=he;rw[dd e h]at he' hv';exact c.bOwn e he' k v hv'
 . rw[kb];refine c.zgD k λe he=>?_;have q:zaV (up s.deed s.n ⟨.zar,[],none⟩ e).done k=none:=hk e (by show(up s.deed s.n _ e).act;rw[dd e (nn he)];exact he);rw[dn e]at q;exact q
 . rw[kb,<-c.ser];exact zcG λe _=>dn e
 . rw[kb];show(replay (up s.deed s.n _ e).done _).isSome=true;by_cases h:e=s.n
   . subst h;rw[ds];rfl
   . have he':(up s.deed s.n ⟨.zar,[],none⟩ e).act:=he;rw[dd e h]at he' ⊢;exact c.actR e he'
 . show e∈s.kept↔(up s.deed s.n _ e).st=.kept;by_cases h:e=s.n
   . subst h;rw[ds];exact⟨λz=>absurd rfl (nk _ z),λz=>by cases z⟩
   . rw[dd e h];exact c.zdf e
theorem Core.see{s:HS K}{x:Option Nat}{k:K}(c:Core s x):Core (TH.see s k) x :=
 ⟨c.out,c.hAct,c.hNd,c.hEx,c.rAct,c.rNd,c.wRow,c.zfL,c.zfj,λk' h=>c.zfg k' λz=>h (by
  show k'∈(if k∈s.seen then s.seen else s.seen++[k]);split
  . exact z
  . exact yaJ _ z),c.bOwn,c.zgD,c.ser,c.actR,c.zdf,c.zhx⟩
theorem zbX{s:HS K}{k:K}:k∈(TH.see s k).seen:=by
 show k∈(if k∈s.seen then s.seen else s.seen++[k]);split
 . assumption
 . simp
theorem zb0{h:List (Nat×Bool)}{d:Nat}{w:Bool}(e:look h d=some w):(d,w)∈h:=by
 unfold look at e;cases q:h.find? λp=>p.1 == d with
 | none=>rw[q]at e;cases e
 | some p =>
  rw[q]at e;have e2:p.2=w:=yaL e;have e1:p.1=d:=by simpa using List.find?_some q
  have:=ydi q;rw[<-e1,<-e2];exact this
theorem zc9{h:List (Nat×Bool)}{d:Nat}{w:Bool}(n:(h.map (·.1)).Nodup)(m:(d,w)∈h):look h d=some w:=by
 unfold look
 induction h with
 | nil=>cases m
 | cons p r ih =>
  rw[yaK,yaW]at n;by_cases e:p.1=d
  . rcases yat.mp m with z | z
    . rw[<-z];simp
    . exact absurd (yap.mpr ⟨_,z,rfl⟩) (e▸n.1)
  . rcases yat.mp m with z | z
    . exact absurd (by rw[<-z]) e
    . rw[ydJ (by simpa using e)];exact ih n.2 z
theorem Core.wait{s:HS K}{d:Nat}{a:Act K}(c:Core s none)(hd:(s.deed d).st=.zar)(hk:a.key∈s.seen)(h1:∀w',(d,w')∈s.held a.key->w'=false/\a.wr=true):Core (TH.wait s d a) none:=by
 have dd:∀e,e≠d->up s.deed d { s.deed d with st:=.waiting,wish:=some a } e=s.deed e:=λe he=>zao he;have ds:up s.deed d { s.deed d with st:=.waiting,wish:=some a } d={ s.deed d with st:=.waiting,wish:=some a }:=zae;have dn:∀e,(up s.deed d { s.deed d with st:=.waiting,wish:=some a } e).done=(s.deed e).done:=λe=>by
   by_cases h:e=d
   . subst h;rw[ds]
   . rw[dd e h]
 have actE:∀e,(up s.deed d { s.deed d with st:=.waiting,wish:=some a } e).act↔(s.deed e).act:=λe=>by
   by_cases h:e=d
   . subst h;rw[ds];exact⟨λ_=>.inl hd,λ_=>.inr rfl⟩
   . rw[dd e h]
 have nk:∀e∈s.kept,e≠d:=λe he z=>by subst z;have:=(c.zdf _).mp he;rw[hd]at this;cases this
 have nor:∀k w',(d,w')∉s.rows k:=λk w' z=>by
   have:=(c.rAct k _ z).1;have this':(s.deed d).st=.waiting:=this;rw[hd]at this';cases this'
 have kb:zam (TH.wait s d a)=zam s:=zbu λe _=>dn e;have rk:(TH.wait s d a).rows a.key=if has (s.held a.key) d then (d,a.wr)::s.rows a.key else s.rows a.key++[(d,a.wr)]:=zae;have rn:∀k,k≠a.key->(TH.wait s d a).rows k=s.rows k:=λk h=>zao h;have rm:∀k p,p∈(TH.wait s d a).rows k↔p∈s.rows k\/(k=a.key/\p=(d,a.wr)):=λk p=>by
   by_cases h:k=a.key
   . subst h;rw[rk];split
     . rw[yat];exact⟨λz=>z.elim (λy=>.inr ⟨rfl,y⟩) .inl,λz=>z.elim .inr λy=>.inl y.2⟩
     . rw[yas];exact⟨λz=>z.elim .inl λy=>.inr ⟨rfl,by simpa using y⟩,λz=>z.elim .inl λy=>.inr (by simp[y.2])⟩
   . rw[rn k h];exact⟨.inl,λz=>z.elim id λy=>absurd y.1 h⟩
 refine⟨λe he=>?_,λk p hp=>?_,c.hNd,c.hEx,λk p hp=>?_,λk=>?_,λe _ he=>?_,λk e v v' q1 q2=>?_,λe he b hb=>?_,λk hk'=>?_,λe he k v hv=>?_,λk hk'=>?_,?_,λe he=>?_,λe=>?_,c.zhx⟩
 . have he':s.n<=e:=he;have:e≠d:=λz=>by subst z;have:=c.lt (d:=e) (.inl hd);omega
   show(up s.deed d _ e).st=_/\(up s.deed d _ e).done=_;rw[dd e this];exact c.out e he'
 . exact(actE p.1).mpr (c.hAct k p hp)
 . show(up s.deed d _ p.1).st=_/\∃a',(up s.deed d _ p.1).wish=some a'/\_;rcases(rm k p).mp hp with z | ⟨z1,z2⟩
   . have:p.1≠d:=λy=>nor k p.2 (by rw[<-y];exact z);rw[dd _ this];exact c.rAct k p z
   . subst z2;rw[ds];exact⟨rfl,a,rfl,z1.symm,rfl⟩
 . by_cases h:k=a.key
   . subst h;rw[rk];split
     . rw[yaK,yaW];exact⟨λz=>by obtain⟨p,hp,e⟩:=yap.mp z;exact nor _ p.2 (by have e':p.1=d:=e;rw[<-e'];exact hp),c.rNd _⟩
     . rw[yav];refine ybi.mpr ⟨c.rNd _,by simp,λx hx y hy=>?_⟩;have hy':y=d:=by simpa using hy
       subst hy';rintro rfl;obtain⟨p,hp,e⟩:=yap.mp hx;exact nor _ p.2 (by have e':p.1=x:=e;rw[<-e'];exact hp)
   . rw[rn k h];exact c.rNd k
 . have he':(up s.deed d { s.deed d with st:=.waiting,wish:=some a } e).st=.waiting:=he;show ∃b,(up s.deed d _ e).wish=some b/\_;by_cases h:e=d
   . subst h;rw[ds];exact⟨a,rfl,(rm _ _).mpr (.inr ⟨rfl,rfl⟩)⟩
   . rw[dd e h]at he' ⊢;obtain⟨b,q1,q2⟩:=c.wRow e (λz=>by cases z) he';exact⟨b,q1,(rm _ _).mpr (.inl q2)⟩
 . rcases(rm k _).mp q1 with z | ⟨z1,z2⟩
   . exact c.zfL k e v v' z q2
   . have e1:e=d:=yaZ Prod.fst z2;have e2:v=a.wr:=yaZ Prod.snd z2;subst e1 e2 z1;exact h1 v' q2
 . have hb':b∈(up s.deed d { s.deed d with st:=.waiting,wish:=some a } e).done:=hb;rw[dn e]at hb';exact c.zfj e ((actE e).mp he) b hb'
 . have:k≠a.key:=λz=>hk' (z▸hk);obtain⟨q1,q2⟩:=c.zfg k hk';exact⟨q1,by rw[rn k this];exact q2⟩
 . have hv':zaV (up s.deed d { s.deed d with st:=.waiting,wish:=some a } e).done k=some v:=hv;rw[dn e]at hv';exact c.bOwn e ((actE e).mp he) k v hv'
 . rw[kb];refine c.zgD k λe he=>?_;have q:zaV (up s.deed d { s.deed d with st:=.waiting,wish:=some a } e).done k=none:=hk' e ((actE e).mpr he);rw[dn e]at q;exact q
 . rw[kb,<-c.ser];exact zcG λe _=>dn e
 . rw[kb];show(replay (up s.deed d _ e).done _).isSome=true;rw[dn e];exact c.actR e ((actE e).mp he)
 . show e∈s.kept↔(up s.deed d _ e).st=.kept;by_cases h:e=d
   . subst h;rw[ds];exact⟨λz=>absurd rfl (nk _ z),λz=>by cases z⟩
   . rw[dd e h];exact c.zdf e
theorem Core.weaken{s:HS K}{x:Option Nat}(c:Core s none):Core s x :=
 ⟨c.out,c.hAct,c.hNd,c.hEx,c.rAct,c.rNd,λd _=>c.wRow d (λz=>by cases z),c.zfL,c.zfj,c.zfg,c.bOwn,c.zgD,c.ser,c.actR,c.zdf,c.zhx⟩
theorem Core.wish{s:HS K}{d:Nat}{a:Act K}(c:Core s none)(hd:(s.deed d).st=.zar):Core (TH.wish ord s d a) none:=by
 have c1:Core (TH.see s a.key) none:=c.see;have nor:∀k w',(d,w')∉(TH.see s a.key).rows k:=λk w' z=>by
   have:=(c1.rAct k _ z).1;have this':(s.deed d).st=.waiting:=this;rw[hd]at this';cases this'
 unfold TH.wish;dsimp only;by_cases h1:look ((TH.see s a.key).held a.key) d=some a.wr\/look ((TH.see s a.key).held a.key) d=some true
 . rw[yaj h1];rcases h1 with h1 | h1
   . exact Core.doIt (w:=a.wr) c1.weaken (.inl hd) nor (zb0 h1) id
   . exact Core.doIt (w:=true) c1.weaken (.inl hd) nor (zb0 h1) λ_=>rfl
 . rw[yai h1];have hw:∀w',(d,w')∈(TH.see s a.key).held a.key->w'=false/\a.wr=true:=λw' z=>by
     have q:=zc9 (c1.hNd _) z;cases hw':w' with
     | true=>exact absurd (.inr (hw'▸q)) h1
     | false =>
       cases ha:a.wr with
       | true=>exact⟨rfl,rfl⟩
       | false=>exact absurd (.inl (by rw[ha,q,hw'])) h1
   by_cases h2:lets ((TH.see s a.key).held a.key) d a.wr=true/\(has ((TH.see s a.key).held a.key) d=true\/(TH.see s a.key).rows a.key=[])
   . rw[yaj h2];refine Core.doIt (w:=a.wr) (c1.weaken.take (.inl hd) h2.1 (λhf w' z=>?_) (λw'=>nor _ w') zbX) (.inl hd) nor ?_ id
     . have:=(hw w' z).2;rw[hf]at this;cases this
     . show(d,a.wr)∈up (TH.see s a.key).held a.key _ a.key;rw[zae];exact zaU.mpr (.inl rfl)
   . rw[yai h2];exact Core.settle ord (c1.wait hd zbX hw)
end
end TH
end
section
namespace TH
section
variable{K:Type}[DecidableEq K]
theorem zca(s:HS K)(d:Nat)(a:Act K):(doIt s d a).held=s.held:=by unfold doIt;split<;>rfl
theorem zcI(s:HS K)(d:Nat)(a:Act K):(doIt s d a).rows=s.rows:=by unfold doIt;split<;>rfl
theorem zcw(s:HS K)(d:Nat)(a:Act K):(doIt s d a).seen=s.seen:=by unfold doIt;split<;>rfl
theorem zel(s:HS K)(d:Nat)(a:Act K):(doIt s d a).n=s.n:=by unfold doIt;split<;>rfl
theorem zeY(s:HS K)(d:Nat)(a:Act K):(doIt s d a).kept=s.kept:=by unfold doIt;split<;>rfl
theorem zcT(s:HS K)(d:Nat)(a:Act K){e:Nat}(h:e≠d):(doIt s d a).deed e=s.deed e:=by unfold doIt;split<;>exact zao h
theorem ziI(s:HS K)(d:Nat)(a:Act K):((doIt s d a).deed d).st=.zar:=by
 unfold doIt;split
 . show(up s.deed d _ d).st=_;rw[zae]
 . show(up s.deed d _ d).st=_;rw[zae]
theorem zfc{s:HS K}{k:K}{d:Nat}{w:Bool}{r:List (Nat×Bool)}{a:Act K}{f:Nat}(hr:s.rows k=(d,w)::r)(hl:lets (s.held k) d w=true)(ha:(s.deed d).wish=some a) :
  zbq (f+1) s k=zbq f (doIt (take { s with rows:=up s.rows k r } d k w) d a) k:=by
 conv=>lhs;unfold zbq
 rw[hr];simp only[hl,yb2,ha]
theorem zfb{s:HS K}{k:K}{d:Nat}{w:Bool}{r:List (Nat×Bool)}{f:Nat}(hr:s.rows k=(d,w)::r)(hl:lets (s.held k) d w=false):zbq f s k=s:=by
 cases f with
 | zero=>rfl
 | succ f =>
  unfold zbq;rw[hr];simp[hl]
theorem zgr{s:HS K}{k:K}{f:Nat}(hr:s.rows k=[]):zbq f s k=s:=by
 cases f with
 | zero=>rfl
 | succ f=>unfold zbq;rw[hr]
theorem zeX{k:K}(P:HS K->Prop)(step:∀s d w r a,Core s none->s.rows k=(d,w)::r->lets (s.held k) d w=true->(s.deed d).wish=some a->P s->P (doIt (take { s with rows:=up s.rows k r } d k w) d a)) :
  ∀(f:Nat) (s:HS K),Core s none->P s->P (zbq f s k)
 | 0,s,c,h=>h
 | f+1,s,c,h=>by
  cases hr:s.rows k with
  | nil=>rw[zgr hr];exact h
  | cons p r =>
   obtain⟨d,w⟩:=p;cases hl:lets (s.held k) d w with
   | false=>rw[zfb hr hl];exact h
   | true =>
    obtain⟨_,a,ha,_⟩:=c.rAct k (d,w) (by rw[hr];exact yac);rw[zfc hr hl ha];exact zeX P step f _ (c.zqm hr hl ha) (step s d w r a c hr hl ha h)
theorem zbK(P:HS K->Prop)(step:∀s k d w r a,Core s none->s.rows k=(d,w)::r->lets (s.held k) d w=true->(s.deed d).wish=some a->P s->P (doIt (take { s with rows:=up s.rows k r } d k w) d a)) :
  ∀(ks:List K) (s:HS K),Core s none->P s->P (zaM s ks)
 | [],s,c,h=>h
 | k::r,s,c,h=>by
  unfold zaM;exact zbK P step r _ c.zbq (zeX P (λs=>step s k) _ s c h)
def zoc(s:HS K)(k:K):Prop:=∀d w r,s.rows k=(d,w)::r->lets (s.held k) d w=false
def Head(s:HS K):Prop:=∀k,zoc s k
theorem ziG{k k':K}(h:k'≠k)(f:Nat)(s:HS K)(c:Core s none):(zbq f s k).rows k'=s.rows k'/\(zbq f s k).held k'=s.held k':=by
 refine zeX (k:=k) (λt=>t.rows k'=s.rows k'/\t.held k'=s.held k') (λt d w r a _ _ _ _ q=>?_) f s c ⟨rfl,rfl⟩;rw[zcI,zca];exact⟨(zao h).trans q.1,(zao h).trans q.2⟩
theorem zjO{k:K}:∀(f:Nat) (s:HS K),Core s none->(s.rows k).length<=f->zoc (zbq f s k) k
 | 0,s,c,h=>λd w r e=>by
  have:s.rows k=[]:=ybt.mp (by omega);have e':s.rows k=(d,w)::r:=e;rw[this]at e';cases e'
 | f+1,s,c,h=>by
  cases hr:s.rows k with
  | nil=>rw[zgr hr];intro d w r e;rw[hr]at e;cases e
  | cons p r =>
   obtain⟨d,w⟩:=p;cases hl:lets (s.held k) d w with
   | false=>rw[zfb hr hl];intro d' w' r' e;rw[hr]at e;cases e;exact hl
   | true =>
    obtain⟨_,a,ha,_⟩:=c.rAct k (d,w) (by rw[hr];exact yac);rw[zfc hr hl ha];refine zjO f _ (c.zqm hr hl ha) ?_;rw[zcI];show(up s.rows k r k).length<=f;rw[zae];rw[hr]at h;simpa using h
theorem ziF:∀(ks:List K) (s:HS K),Core s none->∀k,(k∈ks->zoc (zaM s ks) k)/\(k∉ks->(zaM s ks).rows k=s.rows k/\(zaM s ks).held k=s.held k)
 | [],s,c,k=>⟨λh=>(by cases h),λ_=>⟨rfl,rfl⟩⟩
 | k₀::r,s,c,k=>by
  unfold zaM;obtain⟨h1,h2⟩:=ziF r _ (c.zbq (k:=k₀) (f:=(s.rows k₀).length)) k;refine⟨λhk=>?_,λhk=>?_⟩
  . by_cases hr:k∈r
    . exact h1 hr
    . have e:k=k₀:=(yat.mp hk).resolve_right hr;subst e;obtain⟨q1,q2⟩:=h2 hr;intro d w r' e;rw[q1]at e;rw[q2];exact zjO _ s c (yaf _) d w r' e
  . obtain⟨q1,q2⟩:=h2 λz=>hk (yad _ z);obtain⟨p1,p2⟩:=ziG (k':=k) (λz=>hk (by rw[z];exact yac)) (s.rows k₀).length s c;exact⟨q1.trans p1,q2.trans p2⟩
theorem zd9(ks:List K)(s:HS K)(c:Core s none):(zaM s ks).seen=s.seen :=
 zbK (λt=>t.seen=s.seen) (λt k d w r a _ _ _ _ q=>by rw[zcw];exact q) ks s c rfl
theorem zkC(ks:List K)(s:HS K)(c:Core s none):(zaM s ks).n=s.n :=
 zbK (λt=>t.n=s.n) (λt k d w r a _ _ _ _ q=>by rw[zel];exact q) ks s c rfl
variable(ord:List K->List K)(hord:∀l k,k∈ord l↔k∈l)
include hord
theorem zlT{s:HS K}{d:Nat}(c:Core (letGo s d) none):Head (free ord s d):=by
 intro k;by_cases hk:k∈s.seen
 . exact(ziF (ord s.seen) _ c k).1 ((hord _ _).mpr hk)
 . intro d' w r e;have c':Core (free ord s d) none:=c.zaM;have:=(c'.zfg k (by unfold free;rw[zd9 _ _ c];exact hk)).2;rw[this]at e;cases e
theorem Head.keep{s:HS K}{d:Nat}(c:Core s none)(hd:(s.deed d).act):Head (TH.keep ord s d):=zlT ord hord (c.keeps hd)
theorem Head.drop{s:HS K}{d:Nat}(c:Core s none)(hd:(s.deed d).act):Head (TH.drop ord s d):=zlT ord hord (c.drops hd)
theorem Head.settle:∀{f:Nat} {s:HS K},Core s none->Head s->Head (TH.settle ord f s)
 | 0,s,c,h=>h
 | f+1,s,c,h=>by
  unfold TH.settle;split
  . exact h
  . rename_i d hd;have q:=zbI (ya2 hd);have ha:(s.deed d).act:=.inr (zaO q.2);exact Head.settle (c.drop ord ha) (Head.drop ord hord c ha)
theorem zs3{h:List (Nat×Bool)}{d:Nat}:has h d=true↔∃w,(d,w)∈h:=zhc
theorem Head.wish{s:HS K}{d:Nat}{a:Act K}(c:Core s none)(h:Head s)(hd:(s.deed d).st=.zar):Head (TH.wish ord s d a):=by
 have c1:Core (TH.see s a.key) none:=c.see;have h':Head (TH.see s a.key):=h;have nor:∀k w',(d,w')∉(TH.see s a.key).rows k:=λk w' z=>by
   have:=(c1.rAct k _ z).1;have this':(s.deed d).st=.waiting:=this;rw[hd]at this';cases this'
 unfold TH.wish;dsimp only;by_cases h1:look ((TH.see s a.key).held a.key) d=some a.wr\/look ((TH.see s a.key).held a.key) d=some true
 . rw[yaj h1];intro k e w r q;rw[zcI]at q;rw[zca];exact h' k e w r q
 . rw[yai h1];have hw:∀w',(d,w')∈(TH.see s a.key).held a.key->w'=false/\a.wr=true:=λw' z=>by
     have q:=zc9 (c1.hNd _) z;cases hw':w' with
     | true=>exact absurd (.inr (hw'▸q)) h1
     | false =>
       cases ha:a.wr with
       | true=>exact⟨rfl,rfl⟩
       | false=>exact absurd (.inl (by rw[ha,q,hw'])) h1
   by_cases h2:lets ((TH.see s a.key).held a.key) d a.wr=true/\(has ((TH.see s a.key).held a.key) d=true\/(TH.see s a.key).rows a.key=[])
   . rw[yaj h2];intro k e w r q;rw[zcI]at q;rw[zca];have q':(TH.see s a.key).rows k=(e,w)::r:=q;show lets (up (TH.see s a.key).held a.key _ k) e w=false;by_cases hk:k=a.key
     . subst hk;rw[zae];rcases h2.2 with z | z
       . obtain⟨w',hw'⟩:=zs3 ord hord |>.mp z;have aw:=(hw w' hw').2;have hne:e≠d:=λy=>nor a.key w (by rw[<-y,q'];exact yac);cases hl:lets (zbg ((TH.see s a.key).held a.key) d a.wr) e w with
         | false=>rfl
         | true =>
          have:=(znR.mp hl (d,a.wr) (zaU.mpr (.inl rfl)) (ybn hne)).2;have this':a.wr=false:=this;rw[aw]at this';cases this'
       . rw[z]at q';cases q'
     . rw[zao hk];exact h' k e w r q'
   . rw[yai h2];refine Head.settle ord hord (c1.wait hd zbX hw) λk e w r q=>?_;show lets ((TH.see s a.key).held k) e w=false;by_cases hk:k=a.key
     . subst hk;have q':(if has ((TH.see s a.key).held a.key) d then (d,a.wr)::(TH.see s a.key).rows a.key else (TH.see s a.key).rows a.key++[(d,a.wr)])=(e,w)::r:=by
         rw[<-q];exact zae.symm
       cases hh:has ((TH.see s a.key).held a.key) d with
       | true =>
         rw[hh]at q';simp only[yb2]at q';injection q' with e1 e2
         have e3:d=e:=yaZ Prod.fst e1;have e4:a.wr=w:=yaZ Prod.snd e1;subst e3 e4;cases hl:lets ((TH.see s a.key).held a.key) d a.wr with
         | false=>rfl
         | true=>exact absurd ⟨hl,.inl hh⟩ h2
       | false =>
         rw[hh]at q';simp only[yaX,ybV]at q';cases hr:(TH.see s a.key).rows a.key with
         | nil =>
          rw[hr]at q';simp only[List.nil_append]at q';injection q' with e1 e2
          have e3:d=e:=yaZ Prod.fst e1;have e4:a.wr=w:=yaZ Prod.snd e1;subst e3 e4;cases hl:lets ((TH.see s a.key).held a.key) d a.wr with
          | false=>rfl
          | true=>exact absurd ⟨hl,.inr hr⟩ h2
         | cons p t =>
          rw[hr]at q';simp only[ybU]at q';injection q' with e1 e2
          subst e1;exact h' a.key e w t hr
     . have q':(TH.see s a.key).rows k=(e,w)::r:=by rw[<-q];exact(zao hk).symm
       exact h' k e w r q'
omit hord
def Acyc(s:HS K):Prop:=∀d,¬Reach s d d
theorem Reach.mono{s t:HS K}(h:∀d e,e∈zbV t d->e∈zbV s d){d e:Nat}(r:Reach t d e):Reach s d e:=by
 induction r with
 | one q=>exact .one (h _ _ q)
 | step q _ ih=>exact .step (h _ _ q) ih
theorem Acyc.mono{s t:HS K}(a:Acyc s)(h:∀d e,e∈zbV t d->e∈zbV s d):Acyc t:=λd r=>a d (r.mono h)
theorem Reach.trans{s:HS K}{d e f:Nat}(r:Reach s d e)(q:Reach s e f):Reach s d f:=by
 induction r with
 | one z=>exact .step z q
 | step z _ ih=>exact .step z (ih q)
theorem zbx{s:HS K}{d e:Nat}:e∈zbV s d↔∃a,(s.deed d).st=.waiting/\(s.deed d).wish=some a /\
   ((∃w,(e,w)∈(s.rows a.key).takeWhile λp=>p.1 != d)\/∃w,(e,w)∈s.held a.key/\e≠d/\(a.wr=true\/w=true)):=by
 unfold zbV;split
 . rename_i a h1 h2;rw[yas,yap,yap];refine⟨λz=>⟨a,h1,h2,?_⟩,λ⟨b,q1,q2,z⟩=>?_⟩
   . rcases z with ⟨p,hp,rfl⟩ | ⟨p,hp,rfl⟩
     . exact .inl ⟨p.2,hp⟩
     . rw[ya3]at hp;obtain⟨y1,y2⟩:=hp;simp only[ybc,bne_iff_ne,ydR]at y2;exact .inr ⟨p.2,y1,y2.1,y2.2⟩
   . rw[h2]at q2;cases q2;rcases z with ⟨w,hw⟩ | ⟨w,hw,y1,y2⟩
     . exact .inl ⟨_,hw,rfl⟩
     . refine .inr ⟨(e,w),ya3.mpr ⟨hw,?_⟩,rfl⟩;simp only[ybc,bne_iff_ne,ydR];exact⟨y1,y2⟩
 . rename_i h;refine⟨λz=>(by cases z),λ⟨a,q1,q2,_⟩=>(h a q1 q2).elim⟩
theorem zi1{l:List (Nat×Bool)}{d e:Nat}(hne:e≠d){p:Nat×Bool}:p∈(less l d).takeWhile (λp=>p.1 != e)->p∈l.takeWhile λp=>p.1 != e:=by
 induction l with
 | nil=>exact id
 | cons x r ih =>
  intro hp;by_cases hx:x.1=d
  . have e1:less (x::r) d=less r d:=by unfold less;rw[ydu (by simp[hx])]
    rw[e1]at hp;rw[ycw (by simp[hx];exact ybn hne)];exact yad _ (ih hp)
  . have e1:less (x::r) d=x::less r d:=by unfold less;rw[ycc (by simp[hx])]
    rw[e1]at hp;by_cases hy:x.1=e
    . rw[List.takeWhile_cons_of_neg (by simp[hy])]at hp;cases hp
    . rw[ycw (by simp[hy])]at hp ⊢;rcases yat.mp hp with z | z
      . exact yat.mpr (.inl z)
      . exact yad _ (ih z)
theorem zft{s:HS K}{d:Nat}{t:DS}{bk:Book K}{kp:List Nat}{lg:List (Row K)}(ht:t≠.waiting):∀e x,x∈zbV (letGo { s with deed:=up s.deed d { s.deed d with st:=t },book:=bk,kept:=kp,log:=lg } d) e->x∈zbV s e:=by
 intro e x hx;obtain⟨a,h1,h2,h3⟩:=zbx.mp hx;have hne:e≠d:=λz=>by
   subst z;have h1':(up s.deed e { s.deed e with st:=t } e).st=.waiting:=h1;rw[zae]at h1';exact ht h1'
 have de:up s.deed d { s.deed d with st:=t } e=s.deed e:=zao hne;have h1':(up s.deed d { s.deed d with st:=t } e).st=.waiting:=h1;have h2':(up s.deed d { s.deed d with st:=t } e).wish=some a:=h2;rw[de]at h1' h2';refine zbx.mpr ⟨a,h1',h2',?_⟩;rcases h3 with ⟨w,hw⟩ | ⟨w,hw,y1,y2⟩
 . exact .inl ⟨w,zi1 hne hw⟩
 . exact .inr ⟨w,(zcY.mp hw).1,y1,y2⟩
theorem zk4{s:HS K}{k:K}{d:Nat}{w:Bool}{r:List (Nat×Bool)}{a:Act K}(hr:s.rows k=(d,w)::r) :
   ∀e x,x∈zbV (doIt (take { s with rows:=up s.rows k r } d k w) d a) e->x∈zbV s e:=by
 intro e x hx;obtain⟨b,h1,h2,h3⟩:=zbx.mp hx;have hne:e≠d:=λz=>by
   subst z;rw[ziI]at h1;cases h1
 rw[zcT _ _ _ hne]at h1 h2;rw[zcI,zca]at h3;refine zbx.mpr ⟨b,h1,h2,?_⟩;by_cases hk:b.key=k
 . have e1:(take { s with rows:=up s.rows k r } d k w).rows b.key=r:=by show up s.rows k r b.key=r;rw[hk,zae]
   have e2:(take { s with rows:=up s.rows k r } d k w).held b.key=zbg (s.held k) d w:=by show up s.held k (zbg (s.held k) d w) b.key=_;rw[hk,zae]
   rw[e1,e2]at h3;rw[hk,hr,ycw (by simp;exact ybn hne)];rcases h3 with ⟨v,hv⟩ | ⟨v,hv,y1,y2⟩
   . exact .inl ⟨v,yad _ hv⟩
   . rcases zaU.mp hv with z | ⟨z1,z2⟩
     . exact .inl ⟨w,by have z':x=d:=yaZ Prod.fst z;rw[z'];exact yac⟩
     . exact .inr ⟨v,z1,y1,y2⟩
 . have e1:(take { s with rows:=up s.rows k r } d k w).rows b.key=s.rows b.key:=zao hk;have e2:(take { s with rows:=up s.rows k r } d k w).held b.key=s.held b.key:=zao hk;rw[e1,e2]at h3;exact h3
theorem zeE{s:HS K}{ks:List K}(c:Core s none):∀e x,x∈zbV (zaM s ks) e->x∈zbV s e :=
 zbK (λt=>∀e x,x∈zbV t e->x∈zbV s e) (λt k d w r a _ hr _ _ q e x hx=>q e x (zk4 hr e x hx)) ks s c λ_ _ h=>h
theorem Acyc.keep{s:HS K}{d:Nat}(c:Core s none)(hd:(s.deed d).act)(a:Acyc s):Acyc (TH.keep ord s d) :=
 a.mono λe x hx=>zft (t:=.kept) (by decide) e x (zeE (c.keeps hd) e x hx)
theorem Acyc.drop{s:HS K}{d:Nat}(c:Core s none)(hd:(s.deed d).act)(a:Acyc s):Acyc (TH.drop ord s d) :=
 a.mono λe x hx=>zft (t:=.dropped) (by decide) e x (zeE (c.drops hd) e x hx)
def actB(D:Deed K):Bool:=D.st == .zar || D.st == .waiting
theorem zaK{D:Deed K}:actB D=true↔D.act:=by unfold actB Deed.act;simp
def actN(s:HS K):Nat:=(List.range s.n).countP λd=>actB (s.deed d)
theorem zgx{α:Type}{p q:α->Bool}:∀{l:List α},(∀x∈l,q x=true->p x=true)->(∃x∈l,p x=true/\q x=false)->l.countP q < l.countP p
 | [],_,⟨_,h,_⟩=>by cases h
 | a::r,h,⟨x,hx,px,qx⟩=>by
  have hr:∀y∈r,q y=true->p y=true:=λy hy=>h y (yad _ hy);have le:r.countP q<=r.countP p:=ybD hr;rcases yat.mp hx with z | z
  . subst z;rw[ycd px,ycF (by simp[qx])];omega
  . have lt:=zgx hr ⟨x,z,px,qx⟩;by_cases hq:q a=true
    . rw[ycd hq,ycd (h a yac hq)];omega
    . rw[ycF hq];by_cases hp:p a=true
      . rw[ycd hp];omega
      . rw[ycF hp];exact lt
theorem zoY{s:HS K}{ks:List K}(c:Core s none):∀e,((zaM s ks).deed e).act↔(s.deed e).act :=
 zbK (λt=>∀e,(t.deed e).act↔(s.deed e).act) (λt k d w r a c' hr _ _ q e=>by
  by_cases h:e=d
  . subst h;have hw:=(c'.rAct k (e,w) (by rw[hr];exact yac)).1;exact⟨λ_=>(q e).mp (.inr hw),λ_=>.inl (ziI _ _ _)⟩
  . rw[zcT _ _ _ h];exact q e) ks s c λ_=>Iff.rfl
theorem zrP{s:HS K}{d:Nat}(c:Core s none)(hd:(s.deed d).act)(e:Nat):((TH.drop ord s d).deed e).act↔e≠d/\(s.deed e).act:=by
 refine(zoY (c.drops hd) e).trans ?_;show(up s.deed d { s.deed d with st:=.dropped } e).act↔_;by_cases h:e=d
 . subst h;rw[zae];exact⟨λz=>(by rcases z with z | z<;>cases z),λz=>absurd rfl z.1⟩
 . rw[zao h];exact⟨λz=>⟨h,z⟩,λz=>z.2⟩
theorem zlE{s:HS K}{d:Nat}(c:Core s none)(hd:(s.deed d).act):(TH.drop ord s d).n=s.n:=zkC _ _ (c.drops hd)
theorem zr0{s:HS K}{d:Nat}(c:Core s none)(hd:(s.deed d).act):(TH.keep ord s d).n=s.n:=zkC _ _ (c.keeps hd)
theorem zth{s t:HS K}{d:Nat}(hn:t.n=s.n)(h:∀e,(t.deed e).act↔e≠d/\(s.deed e).act)(hd:(s.deed d).act)(hlt:d < s.n):actN t < actN s:=by
 unfold actN;rw[hn];refine zgx (λe _ q=>zaK.mpr ((h e).mp (zaK.mp q)).2) ⟨d,yaV.mpr hlt,zaK.mpr hd,?_⟩;cases q:actB (t.deed d) with
 | false=>rfl
 | true=>exact absurd rfl ((h d).mp (zaK.mp q)).1
theorem zma{s:HS K}{d:Nat}(c:Core s none)(hd:(s.deed d).act):actN (TH.drop ord s d) < actN s:=zth (zlE ord c hd) (zrP ord c hd) hd (c.lt hd)
theorem zou{s:HS K}(c:Core s none)(h:rings s=[]):Acyc s:=λd r=>by
 have hd:=c.lt (d:=d) (.inr (zaO r));have:d∈rings s:=by
  unfold rings;rw[ya3];exact⟨yaV.mpr hd,@yaz _ (_) r⟩
 rw[h]at this;cases this
theorem zhY:∀{f:Nat} {s:HS K},Core s none->actN s<=f->Acyc (TH.settle ord f s)
 | 0,s,c,h=>λd r=>by
  have hd:(s.deed d).act:=.inr (zaO r);have hlt:=c.lt hd;have:0 < actN s:=by
    unfold actN;exact List.countP_pos_iff.mpr ⟨d,yaV.mpr hlt,zaK.mpr hd⟩
  omega
 | f+1,s,c,h=>by
  unfold TH.settle;split
  . rename_i q;exact zou c (ycz.mp q)
  . rename_i d hd;have q:=zbI (ya2 hd);have ha:(s.deed d).act:=.inr (zaO q.2);refine zhY (c.drop ord ha) ?_;have:=zma ord c ha;omega
theorem zqU(s:HS K):actN s<=s.n:=by
 unfold actN;have:=ydS (p:=λd=>actB (s.deed d)) (l:=List.range s.n)
 rwa [ya6]at this
theorem Acyc.zav{s:HS K}(c:Core s none)(a:Acyc s):Acyc (TH.zav s):=a.mono λe x hx=>by
 obtain⟨b,h1,h2,h3⟩:=zbx.mp hx;have h1':(up s.deed s.n ⟨.zar,[],none⟩ e).st=.waiting:=h1;have h2':(up s.deed s.n ⟨.zar,[],none⟩ e).wish=some b:=h2;have hne:e≠s.n:=λz=>by subst z;rw[zae]at h1';cases h1'
 rw[zao hne]at h1' h2';exact zbx.mpr ⟨b,h1',h2',h3⟩
theorem Acyc.into{s t:HS K}{d:Nat}(a:Acyc s)(hd:(t.deed d).st≠.waiting)(h:∀e x,x∈zbV t e->x=d\/x∈zbV s e):Acyc t:=by
 have key:∀x y,Reach t x y->y=d\/Reach s x y:=λx y r=>by
   induction r with
   | one q=>exact(h _ _ q).imp id .one
   | step q r ih =>
    rcases h _ _ q with z | z
    . subst z;exact absurd (zaO r) hd
    . exact ih.imp id (.step z)
 intro x r;rcases key x x r with z | z
 . subst z;exact hd (zaO r)
 . exact a x z
theorem Acyc.wish{s:HS K}{d:Nat}{a:Act K}(c:Core s none)(ac:Acyc s)(hd:(s.deed d).st=.zar):Acyc (TH.wish ord s d a):=by
 have c1:Core (TH.see s a.key) none:=c.see;have ac1:Acyc (TH.see s a.key):=ac.mono λe x hx=>hx;unfold TH.wish;dsimp only;have zar:∀(t:HS K),t.deed=(TH.see s a.key).deed->∀e x,x∈zbV (doIt t d a) e->e≠d/\∃b,((TH.see s a.key).deed e).st=.waiting/\((TH.see s a.key).deed e).wish=some b /\
     ((∃w,(x,w)∈(t.rows b.key).takeWhile λp=>p.1 != e)\/∃w,(x,w)∈t.held b.key/\x≠e/\(b.wr=true\/w=true)):=λt ht e x hx=>by
   obtain⟨b,h1,h2,h3⟩:=zbx.mp hx;have hne:e≠d:=λz=>by subst z;rw[ziI]at h1;cases h1
   rw[zcT _ _ _ hne,ht]at h1 h2;rw[zcI,zca]at h3;exact⟨hne,b,h1,h2,h3⟩
 by_cases h1:look ((TH.see s a.key).held a.key) d=some a.wr\/look ((TH.see s a.key).held a.key) d=some true
 . rw[yaj h1];refine ac1.mono λe x hx=>?_;obtain⟨_,b,q1,q2,q3⟩:=zar _ rfl e x hx;exact zbx.mpr ⟨b,q1,q2,q3⟩
 . rw[yai h1];by_cases h2:lets ((TH.see s a.key).held a.key) d a.wr=true/\(has ((TH.see s a.key).held a.key) d=true\/(TH.see s a.key).rows a.key=[])
   . rw[yaj h2];refine ac1.into (d:=d) (by rw[ziI];decide) λe x hx=>?_;obtain⟨_,b,q1,q2,q3⟩:=zar (take (TH.see s a.key) d a.key a.wr) rfl e x hx;by_cases hxd:x=d
     . exact .inl hxd
     . refine .inr (zbx.mpr ⟨b,q1,q2,q3.imp id λ⟨w,hw,y⟩=>⟨w,?_,y⟩⟩);have hw':(x,w)∈up (TH.see s a.key).held a.key (zbg ((TH.see s a.key).held a.key) d a.wr) b.key:=hw;by_cases hk:b.key=a.key
       . rw[hk,zae]at hw';rcases zaU.mp hw' with z | z
         . exact absurd (yaZ Prod.fst z) hxd
         . rw[hk];exact z.1
       . rw[zao hk]at hw';exact hw'
   . rw[yai h2];have hw:∀w',(d,w')∈(TH.see s a.key).held a.key->w'=false/\a.wr=true:=λw' z=>by
       have q:=zc9 (c1.hNd _) z;cases hw':w' with
       | true=>exact absurd (.inr (hw'▸q)) h1
       | false =>
         cases ha:a.wr with
         | true=>exact⟨rfl,rfl⟩
         | false=>exact absurd (.inl (by rw[ha,q,hw'])) h1
     exact zhY ord (c1.wait hd zbX hw) (zqU _)
theorem zpj{s:HS K}(c:Core s none){d e:Nat}(h:e∈zbV s d):(s.deed e).act:=by
 obtain⟨a,h1,h2,h3⟩:=zbx.mp h;rcases h3 with ⟨w,hw⟩ | ⟨w,hw,_⟩
 . exact .inr (c.rAct _ _ ((ydK _).mem hw)).1
 . exact c.hAct _ _ hw
open Classical in
end
end TH
end
section
namespace TH
section
variable{K:Type}[DecidableEq K]
def zat(l:List (Act K)):List (K×Int):=l.filterMap λa=>if a.wr then some (a.key,a.val) else none
def logW(l:List (Row K))(d:Nat):List (K×Int):=l.filterMap λr=>match r with
 | .write e k _ v=>if e=d then some (k,v) else none
 | _=>none
def logK(l:List (Row K)):List Nat:=l.filterMap λr=>match r with
 | .keep d=>some d
 | _=>none
def logB(l:List (Row K)):List Nat:=l.filterMap λr=>match r with
 | .begin d=>some d
 | _=>none
def goes(g:List Nat):Row K->List Nat
 | .begin d=>g++[d]
 | .write _ _ _ _=>g
 | .keep d=>g.erase d
 | .drop d=>g.erase d
def logG(l:List (Row K)):List Nat:=l.foldl goes []
structure Scan(K:Type) where
 book:K->Int
 bef:Nat->List (K×Int)
def undo(l:List (K×Int))(b:K->Int):K->Int:=l.foldr (λp bk=>up bk p.1 p.2) b
def scan1(S:Scan K):Row K->Scan K
 | .begin _=>S
 | .write d k b v=>⟨up S.book k v,up S.bef d (S.bef d++[(k,b)])⟩
 | .keep _=>S
 | .drop d=>⟨undo (S.bef d) S.book,S.bef⟩
def scan(l:List (Row K)):Scan K:=l.foldl scan1 ⟨λ_=>0,λ_=>[]⟩
def zpC(l:List (Row K)):Row K->Prop
 | .begin d=>d=(logB l).length
 | .write d k b _=>d∈logG l/\b=(scan l).book k
 | .keep d=>d∈logG l
 | .drop d=>d∈logG l
inductive Wf:List (Row K)->Prop where
 | nil:Wf []
 | snoc {l:List (Row K)} {r:Row K}:Wf l->zpC l r->Wf (l++[r])
def first(l:List (K×Int))(k:K):Option Int:=(l.find? λp=>decide (p.1=k)).map (·.2)
theorem zpb(k:K)(b:K->Int):∀l:List (K×Int),undo l b k=(first l k).getD (b k)
 | []=>rfl
 | p::r=>by
  show up (undo r b) p.1 p.2 k=_;by_cases h:p.1=k
  . subst h;rw[zae];unfold first;rw[List.find?_cons_of_pos (by simp)];rfl
  . rw[zao (ybn h),zpb k b r];unfold first;rw[ydJ (by simpa using h)]
theorem zoP(l:List (K×Int))(k k':K)(b:Int):first (l++[(k,b)]) k'=match first l k' with | some v=>some v | none=>if k=k' then some b else none:=by
 unfold first
 rw[List.find?_append];cases h:l.find? λp=>decide (p.1=k') with
 | some p=>rfl
 | none =>
  by_cases e:k=k'
  . simp[e]
  . simp[e]
theorem zbe(l:List (Row K))(r:Row K)(d:Nat):logW (l++[r]) d=logW l d++(match r with | .write e k _ v=>if e=d then [(k,v)] else [] | _=>[]):=by
 unfold logW;rw[ya8];cases r with
 | write e k b v=>by_cases h:e=d<;>simp[h]
 | begin _=>rfl
 | keep _=>rfl
 | drop _=>rfl
theorem zbp(l:List (Row K))(r:Row K):logK (l++[r])=logK l++(match r with | .keep d=>[d] | _=>[]):=by
 unfold logK;rw[ya8];cases r<;>rfl
theorem zb9(l:List (Row K))(r:Row K):logB (l++[r])=logB l++(match r with | .begin d=>[d] | _=>[]):=by
 unfold logB;rw[ya8];cases r<;>rfl
theorem zbJ(l:List (Row K))(r:Row K):logG (l++[r])=goes (logG l) r:=by unfold logG;rw[ybA];rfl
theorem scan_snoc(l:List (Row K))(r:Row K):scan (l++[r])=scan1 (scan l) r:=by unfold scan;rw[ybA];rfl
theorem zcr(l:List (Act K))(a:Act K):zat (l++[a])=zat l++(if a.wr then [(a.key,a.val)] else []):=by
 unfold zat
 rw[ya8];cases h:a.wr<;>simp[h]
structure zaH(s:HS K):Prop where
 w:∀d,logW s.log d=zat (s.deed d).done
 k:logK s.log=s.kept
 b:logB s.log=List.range s.n
 g:logG s.log=(List.range s.n).filter λd=>actB (s.deed d)
 bk:∀k,(scan s.log).book k=(s.book k).getD 0
 bef:∀d,(s.deed d).act->∀k,first ((scan s.log).bef d) k=if (zaV (s.deed d).done k).isSome then some ((zam s k).getD 0) else none
 befN:∀d,s.n<=d->(scan s.log).bef d=[]
 wf:Wf s.log
theorem zb3{α:Type}{p q:α->Bool}{l:List α}(h:∀x∈l,p x=q x):l.filter p=l.filter q:=yct h
theorem zaH.zhP{s:HS K}{x:Option Nat}(L:zaH s)(c:Core s x){d:Nat}(hd:(s.deed d).act):d∈logG s.log:=by
 rw[L.g,ya3];exact⟨yaV.mpr (c.lt hd),zaK.mpr hd⟩
theorem zaH.doIt{s:HS K}{d:Nat}{a:Act K}{w:Bool}(L:zaH s)(c:Core s (some d))(hd:(s.deed d).act)(hh:(d,w)∈s.held a.key):zaH (doIt s d a):=by
 have actE:∀e,actB ((TH.doIt s d a).deed e)=actB (s.deed e):=λe=>by
  by_cases h:e=d
  . subst h;rw[zaK.mpr hd,zaK.mpr (.inl (ziI s e a))]
  . rw[zcT s d a h]
 have nk:∀e∈s.kept,e≠d:=λe he z=>by subst z;exact zed hd ((c.zdf _).mp he)
 have kb:zam (TH.doIt s d a)=zam s:=zbT (zeY s d a) λe he=>by rw[zcT s d a (nk e he)]
 cases hwr:a.wr with
 | false =>
  have e1:TH.doIt s d a={ s with deed:=up s.deed d { s.deed d with st:=.zar,done:=(s.deed d).done++[⟨false,a.key,(s.book a.key).getD 0⟩] } }:=by
    unfold TH.doIt;rw[yai (by rw[hwr];decide)]
  have dn:∀e,zat ((TH.doIt s d a).deed e).done=zat (s.deed e).done/\∀k,zaV ((TH.doIt s d a).deed e).done k=zaV (s.deed e).done k:=λe=>by
    by_cases h:e=d
    . subst h;rw[e1];show zat (up s.deed e _ e).done=_/\∀k,zaV (up s.deed e _ e).done k=_;rw[zae];refine⟨?_,λk=>?_⟩
      . show zat ((s.deed e).done++[_])=_;rw[zcr];simp
      . show zaV ((s.deed e).done++[_]) k=_;rw[ze9];simp
    . rw[zcT s d a h];exact⟨rfl,λ_=>rfl⟩
  have el:(TH.doIt s d a).log=s.log:=by rw[e1]
  have eb:(TH.doIt s d a).book=s.book:=by rw[e1]
  refine⟨λe=>by rw[el,(dn e).1];exact L.w e,by rw[el,zeY];exact L.k,by rw[el,zel];exact L.b,?_,λk=>by rw[el,eb];exact L.bk k,λe he k=>?_,λe he=>by rw[el];exact L.befN e (by rw[zel]at he;exact he),by rw[el];exact L.wf⟩
  . rw[el,zel,L.g];exact zb3 λx _=>(actE x).symm
  . rw[el,(dn e).2 k,kb];exact L.bef e (zaK.mp ((actE e).symm.trans (zaK.mpr he))) k
 | true =>
  have e1:TH.doIt s d a={ s with deed:=up s.deed d { s.deed d with st:=.zar,done:=(s.deed d).done++[a] },log:=s.log++[.write d a.key ((s.book a.key).getD 0) a.val],book:=up s.book a.key (some a.val) }:=by
    unfold TH.doIt;rw[yaj hwr]
  have el:(TH.doIt s d a).log=s.log++[.write d a.key ((s.book a.key).getD 0) a.val]:=by rw[e1]
  have eb:(TH.doIt s d a).book=up s.book a.key (some a.val):=by rw[e1]
  have edd:((TH.doIt s d a).deed d).done=(s.deed d).done++[a]:=by rw[e1];show(up s.deed d _ d).done=_;rw[zae]
  refine⟨λe=>?_,by rw[el,zbp,zeY];simp;exact L.k,by rw[el,zb9,zel];simp;exact L.b,?_,λk=>?_,λe he k=>?_,λe he=>?_,?_⟩
  . rw[el,zbe];by_cases h:e=d
    . subst h;rw[edd,zcr,L.w e];simp[hwr]
    . rw[zcT s d a h,L.w e];simp[ybn h]
  . rw[el,zbJ,zel];show logG s.log=_;rw[L.g];exact zb3 λx _=>(actE x).symm
  . rw[el,scan_snoc,eb];show up (scan s.log).book a.key a.val k=(up s.book a.key (some a.val) k).getD 0;by_cases h:k=a.key
    . subst h;rw[zae,zae];rfl
    . rw[zao h,zao h];exact L.bk k
  . rw[el,scan_snoc,kb];show first (up (scan s.log).bef d ((scan s.log).bef d++[(a.key,(s.book a.key).getD 0)]) e) k=_
    by_cases h:e=d
    . subst h;rw[zae,zoP,edd,ze9,L.bef e hd k];cases hl:zaV (s.deed e).done k with
      | some v =>
        by_cases hk:a.wr=true/\a.key=k
        . simp[hk]
        . simp[hk,hl]
      | none =>
        by_cases hk:a.key=k
        . simp[hk,hwr];have q:=c.reads hd hh;rw[zfP,hk,hl]at q;rw[q]
        . simp[hk,hl]
    . rw[zao h,zcT s d a h];rw[zcT s d a h]at he;exact L.bef e he k
  . rw[zel]at he;rw[el,scan_snoc];show up (scan s.log).bef d _ e=[]
    have:e≠d:=λz=>by subst z;have:=c.lt hd;omega
    rw[zao this];exact L.befN e he
  . rw[el];exact .snoc L.wf ⟨L.zhP c hd,(L.bk a.key).symm⟩
theorem zaH.ends{s:HS K}{d:Nat}{t:DS}{bk:Book K}{kp:List Nat}{r:Row K}(L:zaH s)(c:Core s none)(hd:(s.deed d).act)(ht:t=.kept\/t=.dropped)
   (hr:(t=.kept/\r=.keep d/\kp=s.kept++[d]/\bk=s.book)\/(t=.dropped/\r=.drop d/\kp=s.kept/\bk=λk=>if (zaV (s.deed d).done k).isSome then zam s k else s.book k)) :
   zaH (letGo { s with deed:=up s.deed d { s.deed d with st:=t },book:=bk,kept:=kp,log:=s.log++[r] } d):=by
 have dn:∀e,(up s.deed d { s.deed d with st:=t } e).done=(s.deed e).done:=λe=>by
   by_cases h:e=d
   . subst h;rw[zae]
   . rw[zao h]
 have actE:∀e,(up s.deed d { s.deed d with st:=t } e).act↔e≠d/\(s.deed e).act:=λe=>by
   by_cases h:e=d
   . subst h;rw[zae];refine⟨λz=>?_,λz=>absurd rfl z.1⟩;rcases z with z | z<;>rcases ht with y | y<;>(have z':t=_:=z;rw[y]at z';cases z')
   . rw[zao h];exact⟨λz=>⟨h,z⟩,λz=>z.2⟩
 have hg:(logG s.log).erase d=(List.range s.n).filter λe=>actB (up s.deed d { s.deed d with st:=t } e):=by
   have nd:((List.range s.n).filter λe=>actB (s.deed e)).Nodup:=ydC.sublist yc6;rw[L.g,nd.erase_eq_filter,ydd];refine zb3 λx _=>?_;cases q:actB (up s.deed d { s.deed d with st:=t } x) with
   | true =>
     obtain⟨q1,q2⟩:=(actE x).mp (zaK.mp q);simp[q1,zaK.mpr q2]
   | false =>
     by_cases h1:x=d
     . simp[h1]
     . cases h2:actB (s.deed x) with
       | false=>simp
       | true =>
        rw[zaK.mpr ((actE x).mpr ⟨h1,zaK.mp h2⟩)]at q;cases q
 have kbe:∀k,zam (letGo { s with deed:=up s.deed d { s.deed d with st:=t },book:=bk,kept:=kp,log:=s.log++[r] } d) k=if t=.kept then over (zam s) (s.deed d).done k else zam s k:=λk=>by
   have e0:zam (letGo { s with deed:=up s.deed d { s.deed d with st:=t },book:=bk,kept:=kp,log:=s.log++[r] } d)=zdQ s.deed kp λ_=>none:=zbu λe _=>dn e;rw[e0];rcases hr with ⟨h1,_,h3,_⟩ | ⟨h1,_,h3,_⟩
   . rw[yaj h1,h3,zgo];rfl
   . rw[yai (by rw[h1];decide),h3];rfl
 have sole:∀e k,e≠d->(s.deed e).act->(zaV (s.deed e).done k).isSome=true->zaV (s.deed d).done k=none:=λe k hne he hs=>by
   cases q:zaV (s.deed d).done k with
   | none=>rfl
   | some u =>
     cases q':zaV (s.deed e).done k with
     | none=>rw[q']at hs;cases hs
     | some v =>
       obtain⟨b,hb,bw,bkk⟩:=zeV q';obtain⟨w,z,_⟩:=c.zfj e he b hb;rw[bkk]at z;exact absurd (c.sole hd q z) hne
 have sc:(scan (s.log++[r])).bef=(scan s.log).bef:=by
   rw[scan_snoc];rcases hr with ⟨_,h2,_,_⟩ | ⟨_,h2,_,_⟩<;>rw[h2]<;>rfl
 refine⟨λe=>?_,?_,?_,?_,λk=>?_,λe he k=>?_,λe he=>?_,?_⟩
 . show logW (s.log++[r]) e=zat (up s.deed d _ e).done;rw[zbe,dn e,L.w e];rcases hr with ⟨_,h2,_,_⟩ | ⟨_,h2,_,_⟩<;>rw[h2]<;>simp
 . show logK (s.log++[r])=kp;rw[zbp,L.k];rcases hr with ⟨_,h2,h3,_⟩ | ⟨_,h2,h3,_⟩<;>rw[h2,h3]<;>simp
 . show logB (s.log++[r])=List.range s.n;rw[zb9,L.b];rcases hr with ⟨_,h2,_,_⟩ | ⟨_,h2,_,_⟩<;>rw[h2]<;>simp
 . show logG (s.log++[r])=(List.range s.n).filter λe=>actB (up s.deed d _ e);rw[zbJ,<-hg];rcases hr with ⟨_,h2,_,_⟩ | ⟨_,h2,_,_⟩<;>rw[h2]<;>rfl
 . show(scan (s.log++[r])).book k=(bk k).getD 0;rw[scan_snoc];rcases hr with ⟨_,h2,_,h4⟩ | ⟨_,h2,_,h4⟩
   . rw[h2,h4];exact L.bk k
   . rw[h2,h4];show undo ((scan s.log).bef d) (scan s.log).book k=_;rw[zpb,L.bef d hd k,L.bk k];cases q:zaV (s.deed d).done k with
     | none=>simp[q]
     | some v=>simp[q]
 . have he':(up s.deed d { s.deed d with st:=t } e).act:=he;obtain⟨h1,h2⟩:=(actE e).mp he';show first ((scan (s.log++[r])).bef e) k=if (zaV (up s.deed d _ e).done k).isSome then _ else _
   rw[sc,dn e,kbe k,L.bef e h2 k];cases hs:(zaV (s.deed e).done k).isSome with
   | false=>rfl
   | true =>
     simp;by_cases ht':t=.kept
     . rw[yaj ht',zfP,sole e k h1 h2 hs]
     . rw[yai ht']
 . show(scan (s.log++[r])).bef e=[]
   rw[sc];exact L.befN e he
 . refine .snoc L.wf ?_;have:=L.zhP c hd;rcases hr with ⟨_,h2,_,_⟩ | ⟨_,h2,_,_⟩<;>rw[h2]<;>exact this
theorem zaH.zaM{ks:List K}{s:HS K}(L:zaH s)(c:Core s none):zaH (TH.zaM s ks):=by
 refine zbK (λt=>zaH t) (λt k d w r a c' hr hl ha q=>?_) ks s c L;have hm:(d,w)∈t.rows k:=by rw[hr];exact yac
 obtain⟨hw,a',ea,ek,ew⟩:=c'.rAct k (d,w) hm;have ea':some a=some a':=ha.symm.trans ea;cases ea';have c2:Core (take { t with rows:=up t.rows k r } d k w) (some d):=by
  have nd:=c'.rNd k;rw[hr]at nd;have sub:∀k' p,p∈(up t.rows k r) k'->p∈t.rows k':=λk' p hp=>by
    by_cases h:k'=k
    . subst h;rw[zae]at hp;rw[hr];exact yad _ hp
    . rw[zao h]at hp;exact hp
  have c1:Core { t with rows:=up t.rows k r } (some d):=by
    refine⟨c'.out,c'.hAct,c'.hNd,c'.hEx,λk' p hp=>c'.rAct k' p (sub k' p hp),λk'=>?_,λe he hwt=>?_,λk' e v v' h1 h2=>c'.zfL k' e v v' (sub k' _ h1) h2,c'.zfj,λk' h'=>?_,c'.bOwn,c'.zgD,c'.ser,c'.actR,c'.zdf,c'.zhx⟩
    . by_cases h:k'=k
      . subst h;show((up t.rows k' r k').map _).Nodup;rw[zae];exact(yaW.mp nd).2
      . show((up t.rows k r k').map _).Nodup;rw[zao h];exact c'.rNd k'
    . obtain⟨b,q1,q2⟩:=c'.wRow e (λz=>by cases z) hwt;refine⟨b,q1,?_⟩;show(e,b.wr)∈up t.rows k r b.key;by_cases h:b.key=k
      . rw[h,zae];rw[h,hr]at q2;rcases yat.mp q2 with z | z
        . exact absurd (yaZ some (yaZ Prod.fst z)) he
        . exact z
      . rw[zao h];exact q2
    . obtain⟨q1,q2⟩:=c'.zfg k' h';have:k'≠k:=λz=>by subst z;rw[hr]at q2;cases q2
      exact⟨q1,by show up t.rows k r k'=_;rw[zao this];exact q2⟩
  refine c1.take (.inr hw) hl (λhwf w' z=>?_) (λw' z=>?_) ?_
  . obtain⟨_,q⟩:=c'.zfL k d w w' hm z;rw[hwf]at q;cases q
  . have z':(d,w')∈up t.rows k r k:=z;rw[zae]at z';exact(yaW.mp nd).1 (yap.mpr ⟨_,z',rfl⟩)
  . by_cases z:k∈t.seen
    . exact z
    . have:=(c'.zfg k z).2;rw[hr]at this;cases this
 have q':zaH (take { t with rows:=up t.rows k r } d k w):=⟨q.w,q.k,q.b,q.g,q.bk,q.bef,q.befN,q.wf⟩
 refine q'.doIt (w:=w) c2 (.inr hw) ?_;show(d,w)∈up t.held k (zbg (t.held k) d w) a.key;rw[ek,zae];exact zaU.mpr (.inl rfl)
variable(ord:List K->List K)
theorem zaH.keep{s:HS K}{d:Nat}(L:zaH s)(c:Core s none)(hd:(s.deed d).act):zaH (TH.keep ord s d) :=
 (zaH.ends (t:=.kept) L c hd (.inl rfl) (.inl ⟨rfl,rfl,rfl,rfl⟩)).zaM (c.keeps hd)
theorem zaH.drop{s:HS K}{d:Nat}(L:zaH s)(c:Core s none)(hd:(s.deed d).act):zaH (TH.drop ord s d) :=
 (zaH.ends (t:=.dropped) L c hd (.inr rfl) (.inr ⟨rfl,rfl,rfl,rfl⟩)).zaM (c.drops hd)
theorem zaH.settle:∀{f:Nat} {s:HS K},zaH s->Core s none->zaH (TH.settle ord f s)
 | 0,s,L,c=>L
 | f+1,s,L,c=>by
  unfold TH.settle;split
  . exact L
  . rename_i d hd;have q:=zbI (ya2 hd);have ha:(s.deed d).act:=.inr (zaO q.2);exact zaH.settle (L.drop ord c ha) (c.drop ord ha)
theorem zaH.zav{s:HS K}(L:zaH s)(c:Core s none):zaH (TH.zav s):=by
 have o:=c.out s.n (yaf _);have dn:∀e,(up s.deed s.n ⟨.zar,[],none⟩ e).done=(s.deed e).done:=λe=>by
   by_cases h:e=s.n
   . subst h;rw[zae,o.2]
   . rw[zao h]
 have kb:zam (TH.zav s)=zam s:=zbu λe _=>dn e;have sc:scan (s.log++[.begin s.n])=scan s.log:=by rw[scan_snoc];rfl
 refine⟨λe=>?_,?_,?_,?_,λk=>?_,λe he k=>?_,λe he=>?_,?_⟩
 . show logW (s.log++[.begin s.n]) e=zat (up s.deed s.n _ e).done;rw[zbe,dn e,L.w e];simp
 . show logK (s.log++[.begin s.n])=s.kept;rw[zbp,L.k];simp
 . show logB (s.log++[.begin s.n])=List.range (s.n+1);rw[zb9,L.b,ycn]
 . show logG (s.log++[.begin s.n])=(List.range (s.n+1)).filter λe=>actB (up s.deed s.n _ e);rw[zbJ,ycn,ybJ];show logG s.log++[s.n]=_;rw[L.g]
   congr 1
   . refine zb3 λx hx=>?_;have:x≠s.n:=λz=>by have:=yaV.mp hx;omega
     rw[zao this]
   . rw[ycc (by rw[zae];rfl)];rfl
 . show(scan (s.log++[.begin s.n])).book k=(s.book k).getD 0;rw[sc];exact L.bk k
 . show first ((scan (s.log++[.begin s.n])).bef e) k=if (zaV (up s.deed s.n _ e).done k).isSome then some ((zam (TH.zav s) k).getD 0) else none
   rw[sc,dn e,kb];by_cases h:e=s.n
   . subst h;rw[L.befN _ (yaf _),o.2];rfl
   . have he':(up s.deed s.n ⟨.zar,[],none⟩ e).act:=he;rw[zao h]at he';exact L.bef e he' k
 . have he':s.n+1<=e:=he;show(scan (s.log++[.begin s.n])).bef e=[]
   rw[sc];exact L.befN e (by omega)
 . exact .snoc L.wf (by show s.n=(logB s.log).length;rw[L.b,ya6])
theorem zaH.wish{s:HS K}{d:Nat}{a:Act K}(L:zaH s)(c:Core s none)(hd:(s.deed d).st=.zar):zaH (TH.wish ord s d a):=by
 have c1:Core (TH.see s a.key) none:=c.see;have L1:zaH (TH.see s a.key):=⟨L.w,L.k,L.b,L.g,L.bk,L.bef,L.befN,L.wf⟩
 have nor:∀k w',(d,w')∉(TH.see s a.key).rows k:=λk w' z=>by
   have:=(c1.rAct k _ z).1;have this':(s.deed d).st=.waiting:=this;rw[hd]at this';cases this'
 unfold TH.wish;dsimp only;by_cases h1:look ((TH.see s a.key).held a.key) d=some a.wr\/look ((TH.see s a.key).held a.key) d=some true
 . rw[yaj h1];rcases h1 with h1 | h1
   . exact L1.doIt c1.weaken (.inl hd) (zb0 h1)
   . exact L1.doIt c1.weaken (.inl hd) (zb0 h1)
 . rw[yai h1];have hw:∀w',(d,w')∈(TH.see s a.key).held a.key->w'=false/\a.wr=true:=λw' z=>by
     have q:=zc9 (c1.hNd _) z;cases hw':w' with
     | true=>exact absurd (.inr (hw'▸q)) h1
     | false =>
       cases ha:a.wr with
       | true=>exact⟨rfl,rfl⟩
       | false=>exact absurd (.inl (by rw[ha,q,hw'])) h1
   by_cases h2:lets ((TH.see s a.key).held a.key) d a.wr=true/\(has ((TH.see s a.key).held a.key) d=true\/(TH.see s a.key).rows a.key=[])
   . rw[yaj h2];have L2:zaH (take (TH.see s a.key) d a.key a.wr):=⟨L1.w,L1.k,L1.b,L1.g,L1.bk,L1.bef,L1.befN,L1.wf⟩
     refine L2.doIt (w:=a.wr) (c1.weaken.take (.inl hd) h2.1 (λhf w' z=>?_) (λw'=>nor _ w') zbX) (.inl hd) ?_
     . have:=(hw w' z).2;rw[hf]at this;cases this
     . show(d,a.wr)∈up (TH.see s a.key).held a.key _ a.key;rw[zae];exact zaU.mpr (.inl rfl)
   . rw[yai h2];refine zaH.settle ord ?_ (c1.wait hd zbX hw);have dn:∀e,(up s.deed d { s.deed d with st:=.waiting,wish:=some a } e).done=(s.deed e).done:=λe=>by
       by_cases h:e=d
       . subst h;rw[zae]
       . rw[zao h]
     have actE:∀e,(up s.deed d { s.deed d with st:=.waiting,wish:=some a } e).act↔(s.deed e).act:=λe=>by
       by_cases h:e=d
       . subst h;rw[zae];exact⟨λ_=>.inl hd,λ_=>.inr rfl⟩
       . rw[zao h]
     have kb:zam (TH.wait (TH.see s a.key) d a)=zam s:=zbu λe _=>dn e;refine⟨λe=>?_,L.k,L.b,?_,L.bk,λe he k=>?_,L.befN,L.wf⟩
     . exact(L.w e).trans (yaZ zat (dn e)).symm
     . show logG s.log=(List.range s.n).filter λe=>actB (up s.deed d _ e);rw[L.g];refine zb3 λx _=>?_;cases q:actB (s.deed x) with
       | true=>exact(zaK.mpr ((actE x).mpr (zaK.mp q))).symm
       | false =>
         cases q':actB (up s.deed d { s.deed d with st:=.waiting,wish:=some a } x) with
         | false=>exact q'.symm
         | true=>rw[zaK.mpr ((actE x).mp (zaK.mp q'))]at q;cases q
     . have q:=L.bef e ((actE e).mp he) k;rw[kb];show first ((scan s.log).bef e) k=if (zaV (up s.deed d { s.deed d with st:=.waiting,wish:=some a } e).done k).isSome then some ((zam s k).getD 0) else none
       rw[dn e];exact q
structure All(s:HS K):Prop where
 c:Core s none
 h:Head s
 a:Acyc s
 l:zaH s
def empty:HS K:=⟨0,λ_=>⟨.dropped,[],none⟩,λ_=>[],λ_=>[],λ_=>none,[],[],[]⟩
theorem All.empty:All (TH.empty (K:=K)):=by
 have na:∀d,¬((TH.empty (K:=K)).deed d).act:=λd z=>by rcases z with z | z<;>cases z
 refine⟨⟨λd _=>⟨rfl,rfl⟩,λk p hp=>(by cases hp),λk=>ybO,λk d h=>(by cases h),λk p hp=>(by cases hp),λk=>ybO,λd _ h=>(by cases h),λk d w w' h=>(by cases h),λd h=>absurd h (na d),λk _=>⟨rfl,rfl⟩,λd h=>absurd h (na d),λk _=>rfl,rfl,λd h=>absurd h (na d),λd=>⟨λh=>(by cases h),λh=>(by cases h)⟩,ybO⟩,λk d w r e=>(by cases e),λd r=>?_,⟨λd=>rfl,rfl,rfl,rfl,λk=>rfl,λd h=>absurd h (na d),λd _=>rfl,.nil⟩⟩;exact absurd (Or.inr (zaO r)) (na d)
variable(hord:∀l k,k∈ord l↔k∈l)
include hord
end
end TH
end
section
namespace TH
section
variable{K:Type}[DecidableEq K]
def zee(s:HS K)(a:Act K):Act K:=if a.wr then a else ⟨false,a.key,(s.book a.key).getD 0⟩
theorem zcJ(s:HS K)(a:Act K):(zee s a).key=a.key:=by unfold zee;split<;>rfl
theorem zdW(s:HS K)(d:Nat)(a:Act K):(doIt s d a).deed=up s.deed d { s.deed d with st:=.zar,done:=(s.deed d).done++[zee s a] }:=by
 unfold doIt zee;split<;>rfl
theorem zrJ(s:HS K)(d:Nat)(a:Act K):(doIt s d a).log=s.log++(if a.wr then [.write d a.key ((s.book a.key).getD 0) a.val] else []):=by
 unfold doIt;split
 . rfl
 . simp
theorem zqC(s:HS K)(d:Nat)(a:Act K):(doIt s d a).book=if a.wr then up s.book a.key (some a.val) else s.book:=by
 unfold doIt;split<;>rfl
def zht(D:Deed K):Bool:=decide (D.st=.waiting)
def zdY(s:HS K):Nat:=(List.range s.n).countP λd=>zht (s.deed d)
theorem ziN{p q:Nat->Bool}{d:Nat}:∀{l:List Nat},l.Nodup->(∀x∈l,q x=true->p x=true\/x=d)->l.countP q<=l.countP p+1
 | [],_,_=>by simp
 | x::r,nd,h=>by
  have hr:∀y∈r,q y=true->p y=true\/y=d:=λy hy=>h y (yad _ hy);have nd':=yaW.mp nd;rw[List.countP_cons,List.countP_cons];by_cases hx:x=d
  . have:r.countP q<=r.countP p:=ybD λy hy hq=>(hr y hy hq).resolve_right λz=>nd'.1 (by rw[hx,<-z];exact hy);split<;>split<;>omega
  . have ih:=ziN nd'.2 hr;cases hq:q x with
    | false=>simp;split<;>omega
    | true =>
     have:p x=true:=(h x yac hq).resolve_right hx;simp[this];exact ih
structure Ext(s:HS K)(T:Nat):Prop where
 own:∀k d w,(d,w)∈s.held k->∃a∈(s.deed d).done,a.key=k
 dn:∀d,(s.deed d).done.length+(if (s.deed d).st=.waiting then 1 else 0)<=T
 n:s.n<=T
 sn:s.seen.length<=T
 snd:s.seen.Nodup
 lg:s.log.length+zdY s+actN s<=2 * T
 zhy:∀d,∀a∈(s.deed d).done,a.key∈s.seen
 zhz:∀k,s.book k≠none->k∈s.seen
theorem zpO:∀{l:List (Act K)} {b:Book K} {k:K},over b l k≠none->b k≠none\/∃a∈l,a.key=k:=λ{l b k} h=>by
 rw[zfP]at h;cases e:zaV l k with
 | none=>rw[e]at h;exact .inl h
 | some v=>obtain⟨a,ha,_,hk⟩:=zeV e;exact .inr ⟨a,ha,hk⟩
theorem zjI{deed:Nat->Deed K}{k:K}:∀{l:List Nat} {b:Book K},zdQ deed l b k≠none->b k≠none\/∃d∈l,∃a∈(deed d).done,a.key=k
 | [],b,h=>.inl h
 | d::r,b,h=>by
  rcases zjI (l:=r) h with h | ⟨e,he,q⟩
  . rcases zpO h with h | ⟨a,ha,hk⟩
    . exact .inl h
    . exact .inr ⟨d,yac,a,ha,hk⟩
  . exact .inr ⟨e,yad _ he,q⟩
theorem Ext.zje{s:HS K}{T:Nat}(E:Ext s T):∀k,zam s k≠none->k∈s.seen:=λk h=>by
 rcases zjI h with h | ⟨d,_,a,ha,hk⟩
 . exact absurd rfl h
 . rw[<-hk];exact E.zhy d a ha
theorem Ext.mono{s:HS K}{T T':Nat}(E:Ext s T)(h:T<=T'):Ext s T' :=
 ⟨E.own,λd=>yaA (E.dn d) h,yaA E.n h,yaA E.sn h,E.snd,yaA E.lg (by omega),E.zhy,E.zhz⟩
theorem Ext.empty:Ext (TH.empty (K:=K)) 0 :=
 ⟨λk d w h=>(by cases h),λd=>(by simp[TH.empty]),yaf _,yaf _,ybO,by simp[TH.empty,zdY,actN],λd a h=>(by cases h),λk h=>absurd rfl h⟩
theorem Ext.does{s t:HS K}{T T':Nat}{d:Nat}{a:Act K}(E:Ext s T)(hn:t.n=s.n)(hs:t.seen=s.seen)(hdl:d < s.n)(hd:(s.deed d).act)
   (hdeed:t.deed=up s.deed d { s.deed d with st:=.zar,done:=(s.deed d).done++[a] })
   (hlog:t.log.length<=s.log.length+1) (hbook:∀k,t.book k≠none->s.book k≠none\/k=a.key)
   (hheld:∀k e w,(e,w)∈t.held k->(∃w',(e,w')∈s.held k)\/(e=d/\k=a.key)) (hk:a.key∈s.seen) (hT:T<=T') (hw:(s.deed d).st=.waiting\/T+1<=T'):Ext t T':=by
 have ds:t.deed d={ s.deed d with st:=.zar,done:=(s.deed d).done++[a] }:=by rw[hdeed,zae]
 have dn:∀e,e≠d->t.deed e=s.deed e:=λe he=>by rw[hdeed,zao he]
 have sub:∀e x,x∈(s.deed e).done->x∈(t.deed e).done:=λe x hx=>by
   by_cases he:e=d
   . subst he;rw[ds];exact yaJ _ hx
   . rw[dn e he];exact hx
 refine⟨λk e w h=>?_,λe=>?_,by rw[hn];exact yaA E.n hT,by rw[hs];exact yaA E.sn hT,by rw[hs];exact E.snd,?_,λe x hx=>?_,λk h=>?_⟩
 . rcases hheld k e w h with ⟨w',h'⟩ | ⟨he,hk'⟩
   . obtain⟨x,hx,q⟩:=E.own k e w' h';exact⟨x,sub e x hx,q⟩
   . subst he;refine⟨a,?_,hk'.symm⟩;rw[ds];exact yaN _ yac
 . by_cases he:e=d
   . subst he;have:=E.dn e;rw[ds];simp only[yah,yaP,yb3];rcases hw with hw | hw
     . rw[yaj hw]at this;simp;omega
     . simp;have:(s.deed e).done.length<=T:=by split at this<;>omega
       omega
   . rw[dn e he];exact yaA (E.dn e) hT
 . have ea:actN t=actN s:=by
     unfold actN;rw[hn];refine ycL λx _=>?_;by_cases hx:x=d
     . subst hx;rw[ds,zaK,zaK];exact⟨λ_=>hd,λ_=>.inl rfl⟩
     . rw[dn x hx]
   have:=E.lg;rcases hw with hw | hw
   . have ew:zdY t < zdY s:=by
       unfold zdY;rw[hn];refine zgx (λx _ hx=>?_) ⟨d,yaV.mpr hdl,?_,?_⟩
       . by_cases hxd:x=d
         . subst hxd;unfold zht;rw[hw];rfl
         . rw[dn x hxd]at hx;exact hx
       . unfold zht;rw[hw];rfl
       . rw[ds];rfl
     omega
   . have ew:zdY t<=zdY s:=by
       unfold zdY;rw[hn];refine ybD λx _ hx=>?_;by_cases hxd:x=d
       . subst hxd;rw[ds]at hx;cases hx
       . rw[dn x hxd]at hx;exact hx
     omega
 . rw[hs];by_cases he:e=d
   . subst he;rw[ds]at hx;rcases yas.mp hx with hx | hx
     . exact E.zhy e x hx
     . rw[yaq.mp hx];exact hk
   . rw[dn e he]at hx;exact E.zhy e x hx
 . rw[hs];rcases hbook k h with h | h
   . exact E.zhz k h
   . rw[h];exact hk
theorem zcX{s:HS K}{x:Option Nat}(c:Core s x){k:K}{p:Nat×Bool}(h:p∈s.rows k):k∈s.seen:=by
 by_cases hk:k∈s.seen
 . exact hk
 . rw[(c.zfg k hk).2]at h;cases h
theorem zks{s:HS K}{d e:Nat}{k k':K}{w w':Bool}(h:(e,w')∈(take s d k w).held k'):(∃w'',(e,w'')∈s.held k')\/(e=d/\k'=k):=by
 by_cases hk:k'=k
 . subst hk;have h':(e,w')∈up s.held k' (zbg (s.held k') d w) k':=h;rw[zae]at h';unfold zbg at h';split at h'
   . obtain⟨p,hp,q⟩:=yap.mp h';by_cases hpd:(p.1 == d)=true
     . rw[yaj hpd]at q;cases q;exact .inr ⟨rfl,rfl⟩
     . rw[yai hpd]at q;subst q;exact .inl ⟨_,hp⟩
   . rcases yas.mp h' with h' | h'
     . exact .inl ⟨_,h'⟩
     . rw[yaq]at h';cases h';exact .inr ⟨rfl,rfl⟩
 . have h':(e,w')∈up s.held k _ k':=h;rw[zao hk]at h';exact .inl ⟨_,h'⟩
theorem ziR{s:HS K}{d:Nat}{a:Act K}{k:K}(h:(doIt s d a).book k≠none):s.book k≠none\/k=(zee s a).key:=by
 rw[zqC]at h;rw[zcJ];split at h
 . by_cases hk:k=a.key
   . exact .inr hk
   . rw[zao hk]at h;exact .inl h
 . exact .inl h
theorem zky{s:HS K}{d:Nat}{a:Act K}:(doIt s d a).log.length<=s.log.length+1:=by
 rw[zrJ,yah];split<;>simp
theorem Ext.zaM{ks:List K}{s:HS K}{T:Nat}(E:Ext s T)(c:Core s none):Ext (TH.zaM s ks) T:=by
 refine zbK (λt=>Ext t T) (λs k d w r a c hr hl ha E=>?_) ks s c E;have hm:(d,w)∈s.rows k:=by rw[hr];exact yac
 obtain⟨hst,a',ha',hk',hw'⟩:=c.rAct k _ hm;rw[ha]at ha';cases ha';refine E.does (a:=zee s a) (d:=d) (by rw[zel];rfl) (by rw[zcw];rfl) (c.lt (.inr hst)) (.inr hst) (by rw[zdW];rfl) zky (λk=>ziR) (λk' e w' h=>?_) ?_ (yaf _) (.inl hst)
 . rw[zca]at h;rcases zks h with h | ⟨h1,h2⟩
   . exact .inl h
   . exact .inr ⟨h1,by rw[zcJ,hk'];exact h2⟩
 . rw[zcJ,hk'];exact zcX c hm
theorem zrw{l:List (Nat×Bool)}{d:Nat}{p:Nat×Bool}(h:p∈less l d):p∈l:=(ya3.mp h).1
theorem Ext.ends{s:HS K}{d:Nat}{t:DS}{bk:Book K}{kp:List Nat}{r:Row K}{T:Nat}(E:Ext s T)(c:Core s none)(hd:(s.deed d).act)(ht:t=.kept\/t=.dropped)(hb:∀k,bk k≠none->k∈s.seen) :
   Ext (letGo { s with deed:=up s.deed d { s.deed d with st:=t },book:=bk,kept:=kp,log:=s.log++[r] } d) T:=by
 have dn:∀e,(up s.deed d { s.deed d with st:=t } e).done=(s.deed e).done:=λe=>by
   by_cases h:e=d
   . subst h;rw[zae]
   . rw[zao h]
 have tw:t≠.waiting/\t≠.zar:=by rcases ht with h | h<;>subst h<;>decide
 refine⟨λk e w h=>?_,λe=>?_,E.n,E.sn,E.snd,?_,λe x hx=>?_,λk h=>hb k h⟩
 . obtain⟨x,hx,q⟩:=E.own k e w (zrw h);exact⟨x,by show x∈(up s.deed d _ e).done;rw[dn];exact hx,q⟩
 . show(up s.deed d _ e).done.length+(if (up s.deed d _ e).st=.waiting then 1 else 0)<=T;rw[dn];have:=E.dn e;by_cases h:e=d
   . subst h;rw[zae,yai tw.1];split at this<;>omega
   . rw[zao h];exact this
 . show(s.log++[r]).length+(List.range s.n).countP (λx=>zht (up s.deed d _ x))+(List.range s.n).countP (λx=>actB (up s.deed d _ x))<=2 * T;have e1:(List.range s.n).countP (λx=>actB (up s.deed d { s.deed d with st:=t } x)) < actN s:=by
     unfold actN;refine zgx (λx _ hx=>?_) ⟨d,yaV.mpr (c.lt hd),zaK.mpr hd,?_⟩
     . by_cases h:x=d
       . subst h;exact zaK.mpr hd
       . rw[zao h]at hx;exact hx
     . rw[zae];unfold actB;simp[tw.1,tw.2]
   have e2:(List.range s.n).countP (λx=>zht (up s.deed d { s.deed d with st:=t } x))<=zdY s:=by
     unfold zdY;refine ybD λx _ hx=>?_;by_cases h:x=d
     . subst h;rw[zae]at hx;unfold zht at hx;simp[tw.1]at hx
     . rw[zao h]at hx;exact hx
   have:=E.lg;rw[yah,yaE];dsimp only at e1 e2 ⊢;omega
 . have hx':x∈(up s.deed d { s.deed d with st:=t } e).done:=hx;rw[dn]at hx';exact E.zhy e x hx'
variable(ord:List K->List K)
theorem Ext.keep{s:HS K}{d:Nat}{T:Nat}(E:Ext s T)(c:Core s none)(hd:(s.deed d).act):Ext (TH.keep ord s d) T:=by
 have:=Ext.zaM (ks:=ord s.seen) (E.ends (t:=.kept) (bk:=s.book) (kp:=s.kept++[d]) (r:=.keep d) c hd (.inl rfl) E.zhz) (c.keeps hd);exact this
theorem Ext.drop{s:HS K}{d:Nat}{T:Nat}(E:Ext s T)(c:Core s none)(hd:(s.deed d).act):Ext (TH.drop ord s d) T:=by
 have:=Ext.zaM (ks:=ord s.seen) (E.ends (t:=.dropped) (bk:=λk=>if (zaV (s.deed d).done k).isSome then zam s k else s.book k) (kp:=s.kept) (r:=.drop d) c hd (.inr rfl) (λk h=>by
  split at h
  . exact E.zje k h
  . exact E.zhz k h)) (c.drops hd)
 exact this
theorem Ext.zav{s:HS K}{T:Nat}(E:Ext s T)(c:Core s none):Ext (TH.zav s) (T+1):=by
 have dd:∀e,e≠s.n->(TH.zav s).deed e=s.deed e:=λe he=>zao he;have ds:(TH.zav s).deed s.n=⟨.zar,[],none⟩:=zae;have out:=c.out s.n (yaf _);refine⟨λk d w h=>?_,λd=>?_,ydD E.n,ybQ E.sn,E.snd,?_,λd x hx=>?_,E.zhz⟩
 . obtain⟨x,hx,q⟩:=E.own k d w h;have hne:d≠s.n:=λz=>by subst z;rw[out.2]at hx;cases hx
   exact⟨x,by rw[dd d hne];exact hx,q⟩
 . by_cases h:d=s.n
   . subst h;rw[ds];simp
   . rw[dd d h];exact ybQ (E.dn d)
 . show(s.log++[_]).length+(List.range (s.n+1)).countP (λx=>zht ((TH.zav s).deed x))+(List.range (s.n+1)).countP (λx=>actB ((TH.zav s).deed x))<=_;rw[ycn,List.countP_append,List.countP_append,yah];have e1:(List.range s.n).countP (λx=>zht ((TH.zav s).deed x))=zdY s:=ycL λx hx=>by rw[dd x (yaI (yaV.mp hx))]
   have e2:(List.range s.n).countP (λx=>actB ((TH.zav s).deed x))=actN s:=ycL λx hx=>by rw[dd x (yaI (yaV.mp hx))]
   rw[e1,e2];have:=E.lg;have h1:[s.n].countP (λx=>zht ((TH.zav s).deed x))=0:=by simp[ds,zht]
   have h2:[s.n].countP (λx=>actB ((TH.zav s).deed x))<=1:=by
     have:=ydS (p:=λx=>actB ((TH.zav s).deed x)) (l:=[s.n]);simpa using this
   rw[h1];simp only[yaE];omega
 . by_cases h:d=s.n
   . subst h;rw[ds]at hx;cases hx
   . rw[dd d h]at hx;exact E.zhy d x hx
theorem Ext.see{s:HS K}{T:Nat}{k:K}(E:Ext s T):Ext (TH.see s k) (T+1):=by
 have sub:∀x,x∈s.seen->x∈(TH.see s k).seen:=λx hx=>by
   show x∈if k∈s.seen then s.seen else s.seen++[k]
   split
   . exact hx
   . exact yaJ _ hx
 refine⟨E.own,λd=>ybQ (E.dn d),ybQ E.n,?_,?_,yaA E.lg (by omega),λd x hx=>sub _ (E.zhy d x hx),λk h=>sub _ (E.zhz k h)⟩
 . show(if k∈s.seen then s.seen else s.seen++[k]).length<=_;have:=E.sn;split
   . omega
   . simp;omega
 . show(if k∈s.seen then s.seen else s.seen++[k]).Nodup;split
   . exact E.snd
   . rename_i h;exact ybi.mpr ⟨E.snd,by simp,λa ha b hb=>by rw[yaq.mp hb];intro z;rw[z]at ha;exact h ha⟩
theorem Ext.settle:∀{f:Nat} {s:HS K} {T:Nat},Ext s T->Core s none->Ext (TH.settle ord f s) T
 | 0,s,T,E,c=>E
 | f+1,s,T,E,c=>by
  unfold TH.settle;cases h:(rings s).getLast? with
  | none=>exact E
  | some d =>
   have hd:(s.deed d).act:=.inr (zaO (zbI (ya2 h)).2);exact Ext.settle (E.drop ord c hd) (c.drop ord hd)
theorem Ext.wait{s:HS K}{d:Nat}{a:Act K}{T:Nat}(E:Ext s T)(hd:(s.deed d).st=.zar)(hT:∀e,(s.deed e).done.length+(if (s.deed e).st=.waiting then 1 else 0)+1<=T)(hl:s.log.length+zdY s+actN s+2<=2 * T):Ext (TH.wait s d a) T:=by
 have dn:∀e,(up s.deed d { s.deed d with st:=.waiting,wish:=some a } e).done=(s.deed e).done:=λe=>by
   by_cases h:e=d
   . subst h;rw[zae]
   . rw[zao h]
 refine⟨λk e w h=>?_,λe=>?_,E.n,E.sn,E.snd,?_,λe x hx=>?_,E.zhz⟩
 . obtain⟨x,hx,q⟩:=E.own k e w h;exact⟨x,by show x∈(up s.deed d _ e).done;rw[dn];exact hx,q⟩
 . show(up s.deed d _ e).done.length+(if (up s.deed d _ e).st=.waiting then 1 else 0)<=T;rw[dn];have:=hT e;split at this<;>split<;>omega
 . show s.log.length+(List.range s.n).countP (λx=>zht (up s.deed d _ x))+(List.range s.n).countP (λx=>actB (up s.deed d _ x))<=2 * T;have e1:(List.range s.n).countP (λx=>actB (up s.deed d { s.deed d with st:=.waiting,wish:=some a } x))<=actN s:=by
     unfold actN;refine ybD λx _ hx=>?_;by_cases h:x=d
     . subst h;exact zaK.mpr (.inl hd)
     . rw[zao h]at hx;exact hx
   have e2:(List.range s.n).countP (λx=>zht (up s.deed d { s.deed d with st:=.waiting,wish:=some a } x))<=zdY s+1:=by
     unfold zdY;refine ziN (d:=d) ydC λx _ hx=>?_;by_cases h:x=d
     . exact .inr h
     . rw[zao h]at hx;exact .inl hx
   dsimp only at e1 e2 ⊢;omega
 . have hx':x∈(up s.deed d { s.deed d with st:=.waiting,wish:=some a } e).done:=hx;rw[dn]at hx';exact E.zhy e x hx'
theorem Ext.wish{s:HS K}{d:Nat}{a:Act K}{T:Nat}(E:Ext s T)(c:Core s none)(hd:(s.deed d).st=.zar):Ext (TH.wish ord s d a) (T+1):=by
 have c1:Core (TH.see s a.key) none:=c.see;have E1:Ext (TH.see s a.key) (T+1):=E.see;have es:∀x,x∈(TH.see s a.key).seen↔x=a.key\/x∈s.seen:=λx=>by
   show x∈(if a.key∈s.seen then s.seen else s.seen++[a.key])↔_;split
   . rename_i h;exact⟨.inr,λq=>q.elim (λz=>z▸h) id⟩
   . rw[yas,yaq];exact Or.comm
 have main:∀t:HS K,t.n=s.n->t.seen=(TH.see s a.key).seen->t.deed=s.deed->t.log=s.log->t.book=s.book->(∀k e w,(e,w)∈t.held k->(∃w',(e,w')∈s.held k)\/(e=d/\k=a.key))->Ext (doIt t d a) (T+1):=by
   intro t hn hs hdd hlg hbk hh;have q:Ext { s with seen:=(TH.see s a.key).seen } (T+1):=E1;have D:∀T',Ext { s with seen:=(TH.see s a.key).seen } T'->T<=T'->(∀e,(s.deed e).done.length+(if (s.deed e).st=.waiting then 1 else 0)<=T)->Ext (doIt t d a) (T+1):=λ_ _ _ _=>by
     have ds:(doIt t d a).deed d={ s.deed d with st:=.zar,done:=(s.deed d).done++[zee t a] }:=by rw[zdW,hdd,zae]
     have dn:∀e,e≠d->(doIt t d a).deed e=s.deed e:=λe he=>by rw[zdW,hdd,zao he]
     have en:(doIt t d a).n=s.n:=by rw[zel];exact hn
     refine⟨λk e w h=>?_,λe=>?_,by rw[en];exact ybQ E.n,by rw[zcw,hs];exact E1.sn,by rw[zcw,hs];exact E1.snd,?_,λe x hx=>?_,λk h=>?_⟩
     . rw[zca]at h;have sub:∀e x,x∈(s.deed e).done->x∈((doIt t d a).deed e).done:=λe x hx=>by
         by_cases he:e=d
         . subst he;rw[ds];exact yaJ _ hx
         . rw[dn e he];exact hx
       rcases hh k e w h with ⟨w',h'⟩ | ⟨he,hk⟩
       . obtain⟨x,hx,q⟩:=E.own k e w' h';exact⟨x,sub e x hx,q⟩
       . subst he;exact⟨zee t a,by rw[ds];exact yaN _ yac,by rw[zcJ];exact hk.symm⟩
     . by_cases he:e=d
       . subst he;have:=E.dn e;rw[ds];simp;split at this<;>omega
       . rw[dn e he];exact ybQ (E.dn e)
     . have e1:actN (doIt t d a)=actN s:=by
         unfold actN;rw[en];refine ycL λx _=>?_;by_cases hx:x=d
         . subst hx;rw[ds,zaK,zaK];exact⟨λ_=>.inl hd,λ_=>.inl rfl⟩
         . rw[dn x hx]
       have e2:zdY (doIt t d a)<=zdY s:=by
         unfold zdY;rw[en];refine ybD λx _ hx=>?_;by_cases hxd:x=d
         . subst hxd;rw[ds]at hx;cases hx
         . rw[dn x hxd]at hx;exact hx
       have e3:=zky (s:=t) (d:=d) (a:=a);rw[hlg]at e3;have:=E.lg;omega
     . rw[zcw,hs];by_cases he:e=d
       . subst he;rw[ds]at hx;rcases yas.mp hx with hx | hx
         . exact(es _).mpr (.inr (E.zhy e x hx))
         . rw[yaq.mp hx,zcJ];exact(es _).mpr (.inl rfl)
       . rw[dn e he]at hx;exact(es _).mpr (.inr (E.zhy e x hx))
     . rw[zcw,hs];rcases ziR h with h | h
       . rw[hbk]at h;exact(es _).mpr (.inr (E.zhz k h))
       . rw[h,zcJ];exact(es _).mpr (.inl rfl)
   exact D _ q (ycM _) E.dn
 unfold TH.wish;dsimp only;by_cases h1:look ((TH.see s a.key).held a.key) d=some a.wr\/look ((TH.see s a.key).held a.key) d=some true
 . rw[yaj h1];exact main _ rfl rfl rfl rfl rfl λk e w h=>.inl ⟨w,h⟩
 . rw[yai h1];have hw:∀w',(d,w')∈(TH.see s a.key).held a.key->w'=false/\a.wr=true:=λw' z=>by
     have q:=zc9 (c1.hNd _) z;cases hw':w' with
     | true=>exact absurd (.inr (hw'▸q)) h1
     | false =>
       cases ha:a.wr with
       | true=>exact⟨rfl,rfl⟩
       | false=>exact absurd (.inl (by rw[ha,q,hw'])) h1
   by_cases h2:lets ((TH.see s a.key).held a.key) d a.wr=true/\(has ((TH.see s a.key).held a.key) d=true\/(TH.see s a.key).rows a.key=[])
   . rw[yaj h2];exact main _ rfl rfl rfl rfl rfl λk e w h=>zks (s:=TH.see s a.key) h
   . rw[yai h2];refine Ext.settle ord (Ext.wait E1 hd (λe=>?_) ?_) (c1.wait hd zbX hw)
     . have:=E.dn e;show(s.deed e).done.length+(if (s.deed e).st=.waiting then 1 else 0)+1<=T+1;omega
     . show s.log.length+zdY s+actN s+2<=2 * (T+1);have:=E.lg;omega
end
end TH
end
section
namespace TH
section
variable{K:Type}[DecidableEq K]
theorem zmg{α:Type}{p:α->Bool}:∀{l:List α},l.takeWhile p=l↔∀x∈l,p x=true
 | []=>by simp
 | a::r=>by
  rw[yc7];cases h:p a with
  | true=>simp[zmg (l:=r),h]
  | false=>simp[h]
def hind(h:List (Nat×Bool))(d:Nat)(w:Bool):List Nat:=(h.filter λp=>p.1 != d && (w || p.2)).map (·.1)
def ahead(r:List (Nat×Bool))(d:Nat):List (Nat×Bool):=r.takeWhile λp=>p.1 != d
def zkm(h r:List (Nat×Bool))(d:Nat)(w:Bool):List Nat:=match (ahead r d).getLast? with
 | some p=>[p.1]
 | none=>hind h d w
def nxt(s:HS K)(d:Nat):List Nat:=match (s.deed d).st,(s.deed d).wish with
 | .waiting,some a=>zkm (s.held a.key) (s.rows a.key) d a.wr
 | _,_=>[]
theorem zhI{s:HS K}{d:Nat}{a:Act K}(h:(s.deed d).st=.waiting)(w:(s.deed d).wish=some a):zbV s d=(ahead (s.rows a.key) d).map (·.1)++hind (s.held a.key) d a.wr:=by
 unfold zbV;rw[h,w];rfl
theorem zlC{s:HS K}{d:Nat}{a:Act K}(h:(s.deed d).st=.waiting)(w:(s.deed d).wish=some a):nxt s d=zkm (s.held a.key) (s.rows a.key) d a.wr:=by
 unfold nxt;rw[h,w]
theorem zpU{s:HS K}{d:Nat}(h:(s.deed d).st≠.waiting):nxt s d=[]:=by
 unfold nxt;split
 . contradiction
 . rfl
inductive Path(R:Nat->Nat->Prop):Nat->Nat->Prop where
 | one {d e:Nat}:R d e->Path R d e
 | step {d e f:Nat}:R d e->Path R e f->Path R d f
theorem Path.trans{R:Nat->Nat->Prop}{d e f:Nat}(p:Path R d e)(q:Path R e f):Path R d f:=by
 induction p with
 | one h=>exact .step h q
 | step h _ ih=>exact .step h (ih q)
theorem Path.mono{R S:Nat->Nat->Prop}(h:∀a b,R a b->S a b){d e:Nat}(p:Path R d e):Path S d e:=by
 induction p with
 | one q=>exact .one (h _ _ q)
 | step q _ ih=>exact .step (h _ _ q) ih
theorem Path.last{R:Nat->Nat->Prop}{d e:Nat}(p:Path R d e):∃c,R c e/\(c=d\/Path R d c):=by
 induction p with
 | one h=>exact⟨_,h,.inl rfl⟩
 | step h _ ih =>
  obtain⟨c,q,z⟩:=ih;refine⟨c,q,.inr ?_⟩;rcases z with z | z
  . subst z;exact .one h
  . exact .step h z
theorem zbY{s:HS K}{d e:Nat}:Reach s d e↔Path (λa b=>b∈zbV s a) d e :=
 ⟨λr=>by induction r with
  | one h=>exact .one h
  | step h _ ih=>exact .step h ih,λr=>by induction r with
  | one h=>exact .one h
  | step h _ ih=>exact .step h ih⟩
abbrev zdr(s:HS K):Nat->Nat->Prop:=Path λa b=>b∈nxt s a
theorem zlB{s:HS K}{d e:Nat}(h:e∈nxt s d):e∈zbV s d:=by
 by_cases hw:(s.deed d).st=.waiting
 . cases ha:(s.deed d).wish with
   | none=>unfold nxt at h;rw[hw,ha]at h;cases h
   | some a =>
    rw[zlC hw ha]at h;rw[zhI hw ha];unfold zkm at h;cases hl:(ahead (s.rows a.key) d).getLast? with
    | none=>rw[hl]at h;exact yaN _ h
    | some p =>
     rw[hl]at h;rw[yaq.mp h];exact yaJ _ (yap.mpr ⟨p,ya2 hl,rfl⟩)
 . rw[zpU hw]at h;cases h
theorem zdq{pre post:List (Nat×Bool)}{d:Nat}{w:Bool}(h:∀p∈pre,p.1≠d):ahead (pre++(d,w)::post) d=pre:=by
 unfold ahead;rw[yc4 (by intro p hp;simpa using h p hp)];simp
theorem zj6{r:List (Nat×Bool)}{d:Nat}{w:Bool}(nd:(r.map (·.1)).Nodup)(h:(d,w)∈r):∃post,r=ahead r d++(d,w)::post/\∀p∈ahead r d,p.1≠d:=by
 obtain⟨pre,post,rfl⟩:=List.append_of_mem h;have hp:∀p∈pre,p.1≠d:=λp hp z=>by
  rw[yav,ybi]at nd;exact nd.2.2 p.1 (yap.mpr ⟨p,hp,rfl⟩) d (by simp) z
 exact⟨post,by rw[zdq hp],by rw[zdq hp];exact hp⟩
theorem zh7{s:HS K}(c:Core s none){k:K}:∀(m:Nat) (pre post:List (Nat×Bool)) (d:Nat) (w:Bool),pre.length=m->s.rows k=pre++(d,w)::post->∀p∈pre,zdr s d p.1
 | 0,pre,post,d,w,hm,e,p,hp=>by
  have:pre=[]:=ybt.mp hm;subst this;cases hp
 | m+1,pre,post,d,w,hm,e,p,hp=>by
  have hne:pre≠[]:=by intro z;subst z;cases hm
  obtain⟨init,⟨f,wf⟩,rfl⟩:∃init l,pre=init++[l]:=⟨pre.dropLast,pre.getLast hne,(ya9 hne).symm⟩
  have nd:=c.rNd k;have hm':(d,w)∈s.rows k:=by rw[e];simp
  obtain⟨hst,a,ha,hk,hw⟩:=c.rAct k _ hm';obtain⟨post',e',hall⟩:=zj6 nd hm';have hpre:∀p∈init++[(f,wf)],p.1≠d:=λp hp z=>by
    rw[e,yav,ybi]at nd;exact nd.2.2 p.1 (yap.mpr ⟨p,hp,rfl⟩) d (by simp) z
  have ea:ahead (s.rows k) d=init++[(f,wf)]:=by rw[e];exact zdq hpre
  have h1:f∈nxt s d:=by
    rw[zlC hst ha,hk];unfold zkm;rw[ea];simp
  rcases yas.mp hp with hp | hp
  . exact .step h1 (zh7 c m init ((d,w)::post) f wf (by simpa using hm) (by rw[e];simp) p hp)
  . rw[yaq.mp hp];exact .one h1
theorem zhh{s:HS K}(c:Core s none)(hh:Head s){d e:Nat}(h:e∈zbV s d):zdr s d e:=by
 obtain⟨a,hst,ha,_⟩:=zbx.mp h;rw[zhI hst ha]at h;obtain⟨a',ha',hrow⟩:=c.wRow d (by simp) hst;rw[ha]at ha';cases ha';have hr:(d,a.wr)∈s.rows a.key:=hrow;have nd:=c.rNd a.key;obtain⟨post,e1,hall⟩:=zj6 nd hr;rcases yas.mp h with h | h
 . obtain⟨p,hp,rfl⟩:=yap.mp h;exact zh7 c _ _ post d a.wr rfl e1 p hp
 . cases hl:ahead (s.rows a.key) d with
   | nil =>
    refine .one ?_;rw[zlC hst ha];unfold zkm;rw[hl];exact h
   | cons p r =>
    obtain⟨f,wf⟩:=p;have hf:zdr s d f:=zh7 c _ _ post d a.wr rfl e1 (f,wf) (by rw[hl];exact yac);by_cases hef:e=f
    . rw[hef];exact hf
    ·
      rw[hl]at e1;have hd0:=hh a.key f wf _ (by rw[e1];rfl);unfold hind at h;obtain⟨⟨e',we⟩,hm,rfl⟩:=yap.mp h;obtain⟨hm1,hm2⟩:=ya3.mp hm;have hfr:(f,wf)∈s.rows a.key:=by rw[e1];simp
      obtain⟨fst,af,haf,hkf,hwf⟩:=c.rAct a.key _ hfr;have hnf:nxt s f=hind (s.held a.key) f wf:=by
       have q:=zlC fst haf;rw[hkf]at q;rw[q];unfold zkm;have:ahead (s.rows a.key) f=[]:=by rw[e1];exact zdq (pre:=[]) (by simp)
       rw[this];show hind (s.held a.key) f af.wr=_;rw[hwf]
      refine hf.trans (.one ?_);rw[hnf];unfold hind;refine yap.mpr ⟨(e',we),ya3.mpr ⟨hm1,?_⟩,rfl⟩;have hne:((e' != f))=true:=by simpa using hef
      simp only[hne,Bool.true_and];cases hwf':wf with
      | true=>rfl
      | false =>
       rw[hwf']at hd0;have hx:∃p∈s.held a.key,p.1≠f/\p.2=true:=by
        unfold lets at hd0;obtain⟨p,hp,q⟩:=ydn.mp hd0;refine⟨p,hp,?_⟩;cases hp2:p.2 with
        | false=>simp[hp2]at q
        | true=>simp[hp2]at q;exact⟨q,rfl⟩
       obtain⟨⟨x,wx⟩,hx1,_,hx2⟩:=hx;have hx2':wx=true:=hx2;subst hx2';have q:=c.hEx a.key x hx1 (e',we) hm1;have q':e'=x:=q;subst q';have n1:=zc9 (c.hNd a.key) hm1;have n2:=zc9 (c.hNd a.key) hx1;rw[n1]at n2;cases n2;rfl
theorem zdP{s:HS K}(c:Core s none)(hh:Head s){d e:Nat}:zdr s d e↔Reach s d e:=by
 rw[zbY];refine⟨λp=>p.mono λa b h=>zlB h,λp=>?_⟩
 induction p with
 | one h=>exact zhh c hh h
 | step h _ ih=>exact(zhh c hh h).trans ih
def Thru(s:HS K)(d:Nat):Prop:=∀x,¬Path (λa b=>b∈zbV s a/\a≠d/\b≠d) x x
theorem Thru.mono{s t:HS K}{d:Nat}(h:Thru s d)(m:∀e x,x∈zbV t e->x∈zbV s e):Thru t d:=λx p=>h x (p.mono λa b q=>⟨m _ _ q.1,q.2⟩)
theorem zsO{R:Nat->Nat->Prop}{d x y:Nat}(p:Path R x y):(x=d\/y=d)\/(Path R x d/\Path R d y)\/Path (λa b=>R a b/\a≠d/\b≠d) x y:=by
 induction p with
 | @one x y h =>
  by_cases h1:x=d
  . exact .inl (.inl h1)
  . by_cases h2:y=d
    . exact .inl (.inr h2)
    . exact .inr (.inr (.one ⟨h,h1,h2⟩))
 | @step x e y h q ih =>
  by_cases h1:x=d
  . exact .inl (.inl h1)
  . rcases ih with (z | z) | ⟨z1,z2⟩ | z
    . subst z;exact .inr (.inl ⟨.one h,q⟩)
    . exact .inl (.inr z)
    . exact .inr (.inl ⟨.step h z1,z2⟩)
    . by_cases h2:e=d
      . subst h2;exact .inr (.inl ⟨.one h,q⟩)
      . exact .inr (.inr (.step ⟨h,h1,h2⟩ z))
theorem Thru.ring{s:HS K}{d:Nat}(h:Thru s d){x:Nat}(r:Reach s x x):Reach s x d/\Reach s d x:=by
 rw[zbY]at r;rcases zsO (d:=d) r with (z | z) | ⟨z1,z2⟩ | z
 . subst z;exact⟨zbY.mpr r,zbY.mpr r⟩
 . subst z;exact⟨zbY.mpr r,zbY.mpr r⟩
 . exact⟨zbY.mpr z1,zbY.mpr z2⟩
 . exact absurd z (h x)
theorem Thru.wait{s:HS K}{d:Nat}{a:Act K}(ac:Acyc s):Thru (TH.wait s d a) d:=by
 intro x p;refine ac x (zbY.mpr (p.mono λe y h=>?_));obtain⟨h,he,hy⟩:=h;obtain⟨b,hst,hb,_⟩:=zbx.mp h;rw[zhI hst hb]at h;have de:(TH.wait s d a).deed e=s.deed e:=zao he;rw[de]at hst hb;rw[zhI hst hb];rcases yas.mp h with h | h
 . refine yaJ _ ?_;by_cases hk:b.key=a.key
   . have er:(TH.wait s d a).rows b.key=if has (s.held a.key) d then (d,a.wr)::s.rows a.key else s.rows a.key++[(d,a.wr)]:=by
       show up s.rows a.key _ b.key=_;rw[hk,zae]
     rw[er]at h;rw[hk];obtain⟨q,hq,rfl⟩:=yap.mp h;refine yap.mpr ⟨q,?_,rfl⟩;unfold ahead at hq ⊢;split at hq
     . rw[yc7]at hq;split at hq
       . rcases yat.mp hq with z | z
         . subst z;exact absurd rfl hy
         . exact z
       . cases hq
     . by_cases hall:∀q∈s.rows a.key,(q.1 != e)=true
       . rw[yc4 hall]at hq;rw[zmg.mpr hall];rcases yas.mp hq with z | z
         . exact z
         . rw[yc7]at z;split at z
           . simp at z;subst z;exact absurd rfl hy
           . cases z
       . have:(s.rows a.key++[(d,a.wr)]).takeWhile (λp=>p.1 != e)=(s.rows a.key).takeWhile λp=>p.1 != e:=by
           rw[List.takeWhile_append];rw[yai];intro z;apply hall;have:(s.rows a.key).takeWhile (λp=>p.1 != e)=s.rows a.key:=(ydK _).eq_of_length z;exact zmg.mp this
         rw[this]at hq;exact hq
   . have er:(TH.wait s d a).rows b.key=s.rows b.key:=zao hk;rw[er]at h;exact h
 . exact yaN _ h
theorem zoh(ord:List K->List K){s:HS K}{g:Nat}(c:Core s none)(hg:(s.deed g).act):∀e x,x∈zbV (TH.drop ord s g) e->x∈zbV s e:=λe x h =>
 zft (t:=.dropped) (d:=g) (s:=s) (bk:=λk=>if (zaV (s.deed g).done k).isSome then zam s k else s.book k) (kp:=s.kept) (lg:=s.log++[.drop g]) (by decide) e x (zeE (c.drops hg) e x h)
theorem zkb{s:HS K}{d:Nat}(c:Core s none)(th:Thru s d) :
   ((¬Reach s d d)->(rings s).getLast?=none)/\∀g,Reach s d g->Reach s g d->(∀x,Reach s d x->Reach s x d->x<=g)->(rings s).getLast?=some g:=by
 have mem:∀x,x∈rings s↔Reach s x x:=λx=>by
   refine⟨λh=>(zbI h).2,λh=>?_⟩;unfold rings;refine ya3.mpr ⟨yaV.mpr (c.lt (.inr (zaO h))),by simpa using h⟩
 refine⟨λh=>?_,λg h1 h2 h3=>?_⟩
 . cases e:(rings s).getLast? with
   | none=>rfl
   | some x =>
    have:=th.ring ((mem x).mp (ya2 e));exact absurd (this.2.trans this.1) h
 . have hg:g∈rings s:=(mem g).mpr (h2.trans h1);cases e:(rings s).getLast? with
   | none=>rw[ycz]at e;rw[e]at hg;cases hg
   | some x =>
    have hx:=(mem x).mp (ya2 e);have hx2:=th.ring hx;have le:=h3 x hx2.2 hx2.1;have sorted:(rings s).Pairwise (· < ·):=List.Pairwise.filter _ ydL;obtain⟨init,hi⟩:∃init,rings s=init++[x]:=by
      have hne:rings s≠[]:=by intro z;rw[z]at hg;cases hg
      refine⟨(rings s).dropLast,?_⟩;have:=ya9 hne;rw[List.getLast?_eq_some_getLast hne]at e;cases e;exact this.symm
    rw[hi]at hg sorted;rcases yas.mp hg with q | q
    . have:=(yb0.mp sorted).2.2 g q x (by simp);omega
    . rw[yaq.mp q]
theorem zmo(ord:List K->List K){s:HS K}{f:Nat}(h:(rings s).getLast?=none):TH.settle ord f s=s:=by
 cases f with
 | zero=>rfl
 | succ f=>unfold TH.settle;rw[h]
theorem zmn(ord:List K->List K){s:HS K}{f g:Nat}(h:(rings s).getLast?=some g):TH.settle ord (f+1) s=TH.settle ord f (TH.drop ord s g):=by
 conv=>lhs;unfold TH.settle
 rw[h]
def touched(s:HS K)(d:Nat):List K:=(s.deed d).done.map (·.key)++(match (s.deed d).st,(s.deed d).wish with | .waiting,some a=>[a.key] | _,_=>[])
theorem zf1{M:List K}:∀(ks:List K) (s:HS K),Core s none->(∀k∈ks,k∉M->zoc s k)->zaM s ks=zaM s (ks.filter λk=>decide (k∈M))
 | [],s,c,h=>rfl
 | k::r,s,c,h=>by
  by_cases hk:k∈M
  . rw[ycc (by simpa using hk)];unfold zaM;refine zf1 r _ c.zbq λk' hk' hn=>?_;have hne:k'≠k:=λz=>hn (by rw[z];exact hk);obtain⟨e1,e2⟩:=ziG hne (s.rows k).length s c;intro d w r' e;rw[e1]at e;rw[e2];exact h k' (yad _ hk') hn d w r' e
  . rw[ydu (by simpa using hk)];have:zbq (s.rows k).length s k=s:=by
     cases hr:s.rows k with
     | nil=>exact zgr hr
     | cons p r' =>
      obtain⟨d,w⟩:=p;exact zfb hr (h k yac hk d w r' hr)
    show zaM (zbq (s.rows k).length s k) r=_;rw[this];exact zf1 r s c λk' hk'=>h k' (yad _ hk')
theorem zir{s:HS K}{T:Nat}{d:Nat}{k:K}(c:Core s none)(E:Ext s T)(h:k∉touched s d):less (s.held k) d=s.held k/\less (s.rows k) d=s.rows k:=by
 have hh:∀p∈s.held k,p.1≠d:=λp hp z=>by
  obtain⟨e,w⟩:=p;have z':e=d:=z;subst z';obtain⟨a,ha,hk⟩:=E.own k e w hp;exact h (yaJ _ (yap.mpr ⟨a,ha,hk⟩))
 have hr:∀p∈s.rows k,p.1≠d:=λp hp z=>by
  obtain⟨e,w⟩:=p;have z':e=d:=z;subst z';obtain⟨hst,a,ha,hk,_⟩:=c.rAct k _ hp;refine h (yaN _ ?_);have hst':(s.deed e).st=.waiting:=hst;have ha':(s.deed e).wish=some a:=ha;rw[hst',ha'];simpa using hk.symm
 unfold less;exact⟨yc8.mpr λp hp=>by simpa using hh p hp,yc8.mpr λp hp=>by simpa using hr p hp⟩
theorem zeD{s:HS K}{T:Nat}{d:Nat}(c:Core s none)(E:Ext s T):∀k∈touched s d,k∈s.seen:=λk h=>by
 rcases yas.mp h with h | h
 . obtain⟨a,ha,rfl⟩:=yap.mp h;exact E.zhy d a ha
 . split at h
   . rename_i a hst ha;rw[yaq.mp h];obtain⟨a',ha',hr⟩:=c.wRow d (by simp) hst;rw[ha]at ha';cases ha';exact zcX c hr
   . cases h
variable(ord:List K->List K)(hord:∀l k,k∈ord l↔k∈l)(hsub:∀l m:List K,(∀x∈m,x∈l)->ord m=(ord l).filter λk=>decide (k∈m))
include hsub
theorem zlS{s t:HS K}{T:Nat}{d:Nat}(c:Core s none)(E:Ext s T)(hh:Head s)(c1:Core (letGo t d) none)(h1:t.held=s.held)(h2:t.rows=s.rows)(h3:t.seen=s.seen) :
  free ord t d=zaM (letGo t d) (ord (touched s d)):=by
 unfold free;rw[h3,hsub s.seen (touched s d) (zeD c E)];refine zf1 _ _ c1 λk hk hn=>?_;obtain⟨e1,e2⟩:=zir c E hn;intro e w r q;have q':less (t.rows k) d=(e,w)::r:=q;show lets (less (t.held k) d) e w=false;rw[h2,e2]at q';rw[h1,e1];exact hh k e w r q'
omit hsub
def zeU(s:HS K)(d:Nat)(k:K):HS K:={ s with held:=up s.held k (less (s.held k) d),rows:=up s.rows k (less (s.rows k) d) }
theorem zlJ(l:List (Nat×Bool))(d:Nat):less (less l d) d=less l d:=by unfold less;rw[ydd];simp
theorem zgn(d:Nat):∀(ks:List K) (s:HS K),(ks.foldl (λs k=>zeU s d k) s).held=(λk=>if k∈ks then less (s.held k) d else s.held k)/\(ks.foldl (λs k=>zeU s d k) s).rows=(λk=>if k∈ks then less (s.rows k) d else s.rows k)
 | [],s=>by simp
 | k::r,s=>by
  obtain⟨h1,h2⟩:=zgn d r (zeU s d k);rw[ybd,h1,h2];refine⟨funext λk'=>?_,funext λk'=>?_⟩
  . show(if k'∈r then less (up s.held k _ k') d else up s.held k _ k')=_;by_cases hk:k'=k
    . subst hk;rw[zae,zlJ];simp
    . rw[zao hk];simp[hk]
  . show(if k'∈r then less (up s.rows k _ k') d else up s.rows k _ k')=_;by_cases hk:k'=k
    . subst hk;rw[zae,zlJ];simp
    . rw[zao hk];simp[hk]
theorem zfZ(d:Nat):∀(ks:List K) (s:HS K),(ks.foldl (λs k=>zeU s d k) s)={ s with held:=(ks.foldl (λs k=>zeU s d k) s).held,rows:=(ks.foldl (λs k=>zeU s d k) s).rows }
 | [],s=>rfl
 | k::r,s=>by rw[ybd];exact zfZ d r (zeU s d k)
theorem zlL{s:HS K}{d:Nat}{ks:List K}(h:∀k,k∉ks->less (s.held k) d=s.held k/\less (s.rows k) d=s.rows k):ks.foldl (λs k=>zeU s d k) s=letGo s d:=by
 rw[zfZ,(zgn d ks s).1,(zgn d ks s).2];unfold letGo
 congr 1
 . funext k;split
   . rfl
   . rename_i hk;exact(h k hk).1.symm
 . funext k;split
   . rfl
   . rename_i hk;exact(h k hk).2.symm
def take1(h:List (Nat×Bool))(d:Nat)(w:Bool):List (Nat×Bool):=if look h d=some true then h else zbg h d w
def zk2(s:HS K)(d:Nat)(k:K)(w:Bool):HS K:={ s with held:=up s.held k (take1 (s.held k) d w) }
theorem zsg{α β:Type}[DecidableEq α](f:α->β)(a:α):up f a (f a)=f:=by
 funext x;by_cases h:x=a
 . subst h;exact zae
 . exact zao h
theorem zkx{h:List (Nat×Bool)}{d:Nat}{w:Bool}(e:look h d=some w):has h d=true:=zhc.mpr ⟨w,zb0 e⟩
theorem zlb{h:List (Nat×Bool)}{d:Nat}{w:Bool}(nd:(h.map (·.1)).Nodup)(e:look h d=some w):zbg h d w=h:=by
 unfold zbg;have hh:h.any (λp=>p.1 == d)=true:=zkx e;rw[yaj hh];have:∀p∈h,(if p.1 == d then (d,w) else p)=p:=λp hp=>by
  obtain⟨x,wx⟩:=p;by_cases hx:x=d
  . subst hx;have:=zc9 nd hp;rw[e]at this;cases this;simp
  . simp[hx]
 rw[ybq this];simp
theorem zhT{s:HS K}{d:Nat}{a:Act K}(c:Core s none):wish ord s d a =
   if (has ((see s a.key).held a.key) d || ((see s a.key).rows a.key).isEmpty) && lets ((see s a.key).held a.key) d a.wr then doIt (zk2 (see s a.key) d a.key a.wr) d a else settle ord s.n (wait (see s a.key) d a):=by
 have c1:Core (see s a.key) none:=c.see;have nd:=c1.hNd a.key;unfold wish;dsimp only;by_cases h1:look ((see s a.key).held a.key) d=some a.wr\/look ((see s a.key).held a.key) d=some true
 . rw[yaj h1];have hl:lets ((see s a.key).held a.key) d a.wr=true:=by
     unfold lets;rw[ybh];intro p hp;obtain⟨x,wx⟩:=p;by_cases hx:x=d
     . simp[hx]
     . have two:∀y,(y,true)∈(see s a.key).held a.key->(∃w,(d,w)∈(see s a.key).held a.key)->y=d:=λy hy ⟨w,hw⟩=>(c1.hEx a.key y hy _ hw).symm;rcases h1 with h1 | h1
       . have m:=zb0 h1;cases hw:a.wr with
         | true=>rw[hw]at m;exact absurd (c1.hEx a.key d m _ hp) hx
         | false =>
          cases hwx:wx with
          | true=>subst hwx;exact absurd (two x hp ⟨_,m⟩) hx
          | false=>simp
       . have m:=zb0 h1;exact absurd (c1.hEx a.key d m _ hp) hx
   have hhas:has ((see s a.key).held a.key) d=true:=by rcases h1 with h1 | h1<;>exact zkx h1
   rw[hl,hhas];simp only[Bool.true_or,Bool.and_self,yb2];have:zk2 (see s a.key) d a.key a.wr=see s a.key:=by
     unfold zk2;have:take1 ((see s a.key).held a.key) d a.wr=(see s a.key).held a.key:=by
       unfold take1;by_cases h2:look ((see s a.key).held a.key) d=some true
       . rw[yaj h2]
       . rw[yai h2];exact zlb nd (h1.resolve_right h2)
     rw[this,zsg]
   rw[this]
 . rw[yai h1];have h2:look ((see s a.key).held a.key) d≠some true:=λz=>h1 (.inr z);have et:zk2 (see s a.key) d a.key a.wr=take (see s a.key) d a.key a.wr:=by
     unfold zk2 take take1;rw[yai h2]
   rw[et];by_cases h3:lets ((see s a.key).held a.key) d a.wr=true/\(has ((see s a.key).held a.key) d=true\/(see s a.key).rows a.key=[])
   . rw[yaj h3,yaj];obtain⟨h4,h5⟩:=h3;rw[h4];rcases h5 with h5 | h5
     . rw[h5];rfl
     . rw[h5];simp
   . rw[yai h3,yai]
     . rfl
     . intro z;apply h3;rw[ybc,ydR]at z;exact⟨z.2,z.1.imp id λq=>List.isEmpty_iff.mp q⟩
theorem zoI{s:HS K}{k:K}{d:Nat}{w:Bool}{r:List (Nat×Bool)}(c:Core s none)(hr:s.rows k=(d,w)::r):take { s with rows:=up s.rows k r } d k w=zk2 { s with rows:=up s.rows k r } d k w:=by
 unfold take zk2 take1;rw[yai];intro z;have:=c.zfL k d w true (by rw[hr];exact yac) (zb0 z);cases this.1
end
end TH
end
section
namespace TH
section
variable{K:Type}[DecidableEq K]
def zne(l:List (Row K)):Row K->Prop
 | .write d k _ _=>∀e∈logG l,e≠d->∀p∈logW l e,p.1≠k
 | _=>True
inductive Al:List (Row K)->Prop where
 | nil:Al []
 | snoc {l:List (Row K)} {r:Row K}:Al l->zne l r->Al (l++[r])
theorem Al.take{l:List (Row K)}(h:Al l):∀i,Al (l.take i):=by
 induction h with
 | nil=>intro i;simp;exact .nil
 | @snoc l r hl hr ih =>
  intro i;by_cases hi:i<=l.length
  . rw[ybp hi];exact ih i
  . rw[yba (by rw[yah,yaE];omega)];exact .snoc hl hr
theorem Wf.take{l:List (Row K)}(h:Wf l):∀i,Wf (l.take i):=by
 induction h with
 | nil=>intro i;simp;exact .nil
 | @snoc l r hl hr ih =>
  intro i;by_cases hi:i<=l.length
  . rw[ybp hi];exact ih i
  . rw[yba (by rw[yah,yaE];omega)];exact .snoc hl hr
theorem zlF{l:List (Act K)}{p:K×Int}(h:p∈zat l):∃a∈l,a.wr=true/\a.key=p.1:=by
 unfold zat at h;obtain⟨a,ha,e⟩:=ybu.mp h;refine⟨a,ha,?_⟩;cases hw:a.wr with
 | true =>
  rw[hw]at e;have e:some (a.key,a.val)=some p:=e;exact⟨rfl,by have:=yaL e;rw[<-this]⟩
 | false=>rw[hw]at e;cases e
theorem Al.doIt{s:HS K}{x:Option Nat}{d:Nat}{a:Act K}{w:Bool}(al:Al s.log)(L:zaH s)(c:Core s x)(hh:(d,w)∈s.held a.key)(hw:a.wr=true->w=true):Al (doIt s d a).log:=by
 cases hwr:a.wr with
 | false =>
  have e1:(TH.doIt s d a).log=s.log:=by unfold TH.doIt;rw[yai (by rw[hwr];decide)]
  rw[e1];exact al
 | true =>
  have e1:(TH.doIt s d a).log=s.log++[.write d a.key ((s.book a.key).getD 0) a.val]:=by unfold TH.doIt;rw[yaj hwr]
  rw[e1];refine .snoc al λe he hne p hp z=>hne ?_;rw[L.g,ya3]at he;rw[L.w e]at hp;obtain⟨b,hb,hbw,hbk⟩:=zlF hp;obtain⟨w',h1,h2⟩:=c.zfj e (zaK.mp he.2) b hb;rw[hbk,z]at h1;rw[hw hwr]at hh;exact c.hEx a.key d hh (e,w') h1
def LA(s:HS K):Prop:=zaH s/\Al s.log
theorem LA.ends{s:HS K}{d:Nat}{t:DS}{bk:Book K}{kp:List Nat}{r:Row K}(L:LA s)(c:Core s none)(hd:(s.deed d).act)(ht:t=.kept\/t=.dropped)
  (hr:(t=.kept/\r=.keep d/\kp=s.kept++[d]/\bk=s.book)\/(t=.dropped/\r=.drop d/\kp=s.kept/\bk=λk=>if (zaV (s.deed d).done k).isSome then zam s k else s.book k)) :
  LA (letGo { s with deed:=up s.deed d { s.deed d with st:=t },book:=bk,kept:=kp,log:=s.log++[r] } d):=by
 refine⟨L.1.ends c hd ht hr,?_⟩;show Al (s.log++[r]);refine .snoc L.2 ?_;rcases hr with ⟨_,h2,_,_⟩ | ⟨_,h2,_,_⟩<;>rw[h2]<;>trivial
theorem LA.zaM{ks:List K}{s:HS K}(L:LA s)(c:Core s none):LA (TH.zaM s ks):=by
 refine zbK (λt=>LA t) (λt k d w r a c' hr hl ha q=>?_) ks s c L;have hm:(d,w)∈t.rows k:=by rw[hr];exact yac
 obtain⟨hw,a',ea,ek,ew⟩:=c'.rAct k (d,w) hm;have ea':some a=some a':=ha.symm.trans ea;cases ea';have c2:Core (take { t with rows:=up t.rows k r } d k w) (some d):=by
  have nd:=c'.rNd k;rw[hr]at nd;have sub:∀k' p,p∈(up t.rows k r) k'->p∈t.rows k':=λk' p hp=>by
    by_cases h:k'=k
    . subst h;rw[zae]at hp;rw[hr];exact yad _ hp
    . rw[zao h]at hp;exact hp
  have c1:Core { t with rows:=up t.rows k r } (some d):=by
    refine⟨c'.out,c'.hAct,c'.hNd,c'.hEx,λk' p hp=>c'.rAct k' p (sub k' p hp),λk'=>?_,λe he hwt=>?_,λk' e v v' h1 h2=>c'.zfL k' e v v' (sub k' _ h1) h2,c'.zfj,λk' h'=>?_,c'.bOwn,c'.zgD,c'.ser,c'.actR,c'.zdf,c'.zhx⟩
    . by_cases h:k'=k
      . subst h;show((up t.rows k' r k').map _).Nodup;rw[zae];exact(yaW.mp nd).2
      . show((up t.rows k r k').map _).Nodup;rw[zao h];exact c'.rNd k'
    . obtain⟨b,q1,q2⟩:=c'.wRow e (λz=>by cases z) hwt;refine⟨b,q1,?_⟩;show(e,b.wr)∈up t.rows k r b.key;by_cases h:b.key=k
      . rw[h,zae];rw[h,hr]at q2;rcases yat.mp q2 with z | z
        . exact absurd (yaZ some (yaZ Prod.fst z)) he
        . exact z
      . rw[zao h];exact q2
    . obtain⟨q1,q2⟩:=c'.zfg k' h';have:k'≠k:=λz=>by subst z;rw[hr]at q2;cases q2
      exact⟨q1,by show up t.rows k r k'=_;rw[zao this];exact q2⟩
  refine c1.take (.inr hw) hl (λhwf w' z=>?_) (λw' z=>?_) ?_
  . obtain⟨_,q⟩:=c'.zfL k d w w' hm z;rw[hwf]at q;cases q
  . have z':(d,w')∈up t.rows k r k:=z;rw[zae]at z';exact(yaW.mp nd).1 (yap.mpr ⟨_,z',rfl⟩)
  . by_cases z:k∈t.seen
    . exact z
    . have:=(c'.zfg k z).2;rw[hr]at this;cases this
 have q':zaH (take { t with rows:=up t.rows k r } d k w):=⟨q.1.w,q.1.k,q.1.b,q.1.g,q.1.bk,q.1.bef,q.1.befN,q.1.wf⟩
 have hh:(d,w)∈(take { t with rows:=up t.rows k r } d k w).held a.key:=by
  show(d,w)∈up t.held k (zbg (t.held k) d w) a.key;rw[ek,zae];exact zaU.mpr (.inl rfl)
 exact⟨q'.doIt (w:=w) c2 (.inr hw) hh,Al.doIt (s:=take { t with rows:=up t.rows k r } d k w) (w:=w) q.2 q' c2 hh λz=>by
  have ew:a.wr=w:=ew;rw[<-ew];exact z⟩
variable(ord:List K->List K)
theorem LA.keep{s:HS K}{d:Nat}(L:LA s)(c:Core s none)(hd:(s.deed d).act):LA (TH.keep ord s d) :=
 (LA.ends (t:=.kept) L c hd (.inl rfl) (.inl ⟨rfl,rfl,rfl,rfl⟩)).zaM (c.keeps hd)
theorem LA.drop{s:HS K}{d:Nat}(L:LA s)(c:Core s none)(hd:(s.deed d).act):LA (TH.drop ord s d) :=
 (LA.ends (t:=.dropped) L c hd (.inr rfl) (.inr ⟨rfl,rfl,rfl,rfl⟩)).zaM (c.drops hd)
theorem LA.settle:∀{f:Nat} {s:HS K},LA s->Core s none->LA (TH.settle ord f s)
 | 0,s,L,c=>L
 | f+1,s,L,c=>by
  unfold TH.settle;split
  . exact L
  . rename_i d hd;have q:=zbI (ya2 hd);have ha:(s.deed d).act:=.inr (zaO q.2);exact LA.settle (L.drop ord c ha) (c.drop ord ha)
theorem LA.zav{s:HS K}(L:LA s)(c:Core s none):LA (TH.zav s):=⟨L.1.zav c,.snoc L.2 trivial⟩
theorem LA.wish{s:HS K}{d:Nat}{a:Act K}(L:LA s)(c:Core s none)(hd:(s.deed d).st=.zar):LA (TH.wish ord s d a):=by
 refine⟨L.1.wish ord c hd,?_⟩;have c1:Core (TH.see s a.key) none:=c.see;have L1:zaH (TH.see s a.key):=⟨L.1.w,L.1.k,L.1.b,L.1.g,L.1.bk,L.1.bef,L.1.befN,L.1.wf⟩
 have nor:∀k w',(d,w')∉(TH.see s a.key).rows k:=λk w' z=>by
   have:=(c1.rAct k _ z).1;have this':(s.deed d).st=.waiting:=this;rw[hd]at this';cases this'
 unfold TH.wish;dsimp only;by_cases h1:look ((TH.see s a.key).held a.key) d=some a.wr\/look ((TH.see s a.key).held a.key) d=some true
 . rw[yaj h1];rcases h1 with h1 | h1
   . exact Al.doIt (s:=TH.see s a.key) L.2 L1 c1 (zb0 h1) λz=>z
   . exact Al.doIt (s:=TH.see s a.key) L.2 L1 c1 (zb0 h1) λ_=>rfl
 . rw[yai h1];have hw:∀w',(d,w')∈(TH.see s a.key).held a.key->w'=false/\a.wr=true:=λw' z=>by
     have q:=zc9 (c1.hNd _) z;cases hw':w' with
     | true=>exact absurd (.inr (hw'▸q)) h1
     | false =>
       cases ha:a.wr with
       | true=>exact⟨rfl,rfl⟩
       | false=>exact absurd (.inl (by rw[ha,q,hw'])) h1
   by_cases h2:lets ((TH.see s a.key).held a.key) d a.wr=true/\(has ((TH.see s a.key).held a.key) d=true\/(TH.see s a.key).rows a.key=[])
   . rw[yaj h2];have L2:zaH (take (TH.see s a.key) d a.key a.wr):=⟨L1.w,L1.k,L1.b,L1.g,L1.bk,L1.bef,L1.befN,L1.wf⟩
     refine Al.doIt (x:=some d) (s:=take (TH.see s a.key) d a.key a.wr) (w:=a.wr) L.2 L2 (c1.weaken.take (.inl hd) h2.1 (λhf w' z=>?_) (λw'=>nor _ w') zbX) ?_ λz=>z
     . have:=(hw w' z).2;rw[hf]at this;cases this
     . show(d,a.wr)∈up (TH.see s a.key).held a.key _ a.key;rw[zae];exact zaU.mpr (.inl rfl)
   . rw[yai h2];have dn:∀e,(up s.deed d { s.deed d with st:=.waiting,wish:=some a } e).done=(s.deed e).done:=λe=>by
       by_cases h:e=d
       . subst h;rw[zae]
       . rw[zao h]
     have actE:∀e,(up s.deed d { s.deed d with st:=.waiting,wish:=some a } e).act↔(s.deed e).act:=λe=>by
       by_cases h:e=d
       . subst h;rw[zae];exact⟨λ_=>.inl hd,λ_=>.inr rfl⟩
       . rw[zao h]
     have kb:zam (TH.wait (TH.see s a.key) d a)=zam s:=zbu λe _=>dn e;have LW:zaH (TH.wait (TH.see s a.key) d a):=by
       refine⟨λe=>?_,L.1.k,L.1.b,?_,L.1.bk,λe he k=>?_,L.1.befN,L.1.wf⟩
       . exact(L.1.w e).trans (yaZ zat (dn e)).symm
       . show logG s.log=(List.range s.n).filter λe=>actB (up s.deed d _ e);rw[L.1.g];refine zb3 λx _=>?_;cases q:actB (s.deed x) with
         | true=>exact(zaK.mpr ((actE x).mpr (zaK.mp q))).symm
         | false =>
          cases q':actB (up s.deed d { s.deed d with st:=.waiting,wish:=some a } x) with
          | false=>exact q'.symm
          | true=>rw[zaK.mpr ((actE x).mp (zaK.mp q'))]at q;cases q
       . have q:=L.1.bef e ((actE e).mp he) k;rw[kb];show first ((scan s.log).bef e) k=if (zaV (up s.deed d { s.deed d with st:=.waiting,wish:=some a } e).done k).isSome then some ((zam s k).getD 0) else none
         rw[dn e];exact q
     exact(LA.settle ord ⟨LW,L.2⟩ (c1.wait hd zbX hw)).2
theorem zea{s:HS K}(h:∀k,s.rows k=[]):∀ks:List K,TH.zaM s ks=s
 | []=>rfl
 | k::r=>by
  show TH.zaM (TH.zbq (s.rows k).length s k) r=s;rw[h k];exact zea h r
structure Pl(s:HS K):Prop where
 nw:∀d,(s.deed d).st≠.waiting
 dw:∀d,∀a∈(s.deed d).done,a.wr=true
theorem Pl.rows{s:HS K}(p:Pl s)(c:Core s none)(k:K):s.rows k=[]:=by
 cases e:s.rows k with
 | nil=>rfl
 | cons q r=>exact absurd (c.rAct k q (by rw[e];exact yac)).1 (p.nw _)
theorem Pl.zar{s:HS K}(p:Pl s){d:Nat}(h:(s.deed d).act):(s.deed d).st=.zar:=h.resolve_right (p.nw d)
theorem Pl.zav{s:HS K}(p:Pl s):Pl (TH.zav s):=by
 refine⟨λd=>?_,λd=>?_⟩
 . show(up s.deed s.n _ d).st≠_;by_cases h:d=s.n
   . subst h;rw[zae];intro z;cases z
   . rw[zao h];exact p.nw d
 . show ∀a∈(up s.deed s.n _ d).done,_;by_cases h:d=s.n
   . subst h;rw[zae];intro a ha;cases ha
   . rw[zao h];exact p.dw d
theorem Pl.ended{s:HS K}(p:Pl s){d:Nat}{t:DS}(ht:t≠.waiting):∀e,(up s.deed d { s.deed d with st:=t } e).st≠.waiting/\∀a∈(up s.deed d { s.deed d with st:=t } e).done,a.wr=true:=λe=>by
 by_cases h:e=d
 . subst h;rw[zae];exact⟨ht,p.dw e⟩
 . rw[zao h];exact⟨p.nw e,p.dw e⟩
theorem Pl.zs1{s:HS K}(p:Pl s)(c:Core s none)(d:Nat):TH.keep ord s d=letGo (zf0 s d) d:=by
 unfold TH.keep TH.free;refine zea (λk=>?_) _;show less (s.rows k) d=[]
 rw[p.rows c k];rfl
theorem Pl.drop_eq{s:HS K}(p:Pl s)(c:Core s none)(d:Nat):TH.drop ord s d=letGo (zrI s d) d:=by
 unfold TH.drop TH.free;refine zea (λk=>?_) _;show less (s.rows k) d=[]
 rw[p.rows c k];rfl
theorem Pl.keep{s:HS K}(p:Pl s)(c:Core s none)(d:Nat):Pl (TH.keep ord s d)/\(TH.keep ord s d).log=s.log++[.keep d]:=by
 rw[p.zs1 ord c d];exact⟨⟨λe=>(p.ended (t:=.kept) (by decide) e).1,λe=>(p.ended (t:=.kept) (by decide) e).2⟩,rfl⟩
theorem Pl.drop{s:HS K}(p:Pl s)(c:Core s none)(d:Nat):Pl (TH.drop ord s d)/\(TH.drop ord s d).log=s.log++[.drop d]:=by
 rw[p.drop_eq ord c d];exact⟨⟨λe=>(p.ended (t:=.dropped) (by decide) e).1,λe=>(p.ended (t:=.dropped) (by decide) e).2⟩,rfl⟩
theorem Pl.doIt{s t:HS K}(p:Pl s){d:Nat}{a:Act K}(ha:a.wr=true)(ed:t.deed=s.deed)(el:t.log=s.log)(eb:t.book=s.book):Pl (TH.doIt t d a)/\(TH.doIt t d a).log=s.log++[.write d a.key ((s.book a.key).getD 0) a.val]:=by
 unfold TH.doIt;rw[yaj ha];refine⟨⟨λe=>?_,λe=>?_⟩,by show t.log++[_]=_;rw[el,eb]⟩
 . show(up t.deed d _ e).st≠_;by_cases h:e=d
   . subst h;rw[zae];intro z;cases z
   . rw[zao h,ed];exact p.nw e
 . show ∀b∈(up t.deed d _ e).done,_;by_cases h:e=d
   . subst h;rw[zae,ed];intro b hb;rcases yas.mp hb with z | z
     . exact p.dw e b z
     . rw[yaq.mp z];exact ha
   . rw[zao h,ed];exact p.dw e
theorem Pl.write{s:HS K}(p:Pl s)(c:Core s none)(L:zaH s)(own:∀k d w,(d,w)∈s.held k->∃a∈(s.deed d).done,a.key=k){d:Nat}{k:K}{v:Int}
   (al:∀e∈logG s.log,e≠d->∀q∈logW s.log e,q.1≠k):Pl (TH.wish ord s d ⟨true,k,v⟩)/\(TH.wish ord s d ⟨true,k,v⟩).log=s.log++[.write d k ((s.book k).getD 0) v]:=by
 have alone:∀q∈s.held k,q.1=d:=λq hq=>ybY λhne=>by
   obtain⟨a,ha,hk⟩:=own k q.1 q.2 hq;have hact:=c.hAct k q hq;refine al q.1 (L.zhP c hact) hne (a.key,a.val) ?_ hk;rw[L.w q.1];unfold zat
   exact ybu.mpr ⟨a,ha,by rw[yaj (p.dw _ a ha)]⟩
 unfold TH.wish;dsimp only;by_cases h1:look ((TH.see s k).held k) d=some true\/look ((TH.see s k).held k) d=some true
 . rw[yaj h1];exact Pl.doIt (a:=⟨true,k,v⟩) p rfl rfl rfl rfl
 . rw[yai h1];have h2:lets ((TH.see s k).held k) d true=true/\(has ((TH.see s k).held k) d=true\/(TH.see s k).rows k=[]):=by
    refine⟨?_,.inr (p.rows c k)⟩;unfold lets;rw[ybh];intro q hq;have:=alone q hq;simp[this]
   rw[yaj h2];exact Pl.doIt (a:=⟨true,k,v⟩) p rfl rfl rfl rfl
end
end TH
end
section
namespace TH
section
variable{K:Type}[DecidableEq K]
structure So(s:HS K)(n:Nat):Prop where
 c:Core s none
 nw:∀d,(s.deed d).st≠.waiting
 only:∀d,(s.deed d).act->d=n
 go:(s.deed n).st=.zar
theorem So.rows{s:HS K}{n:Nat}(h:So s n)(k:K):s.rows k=[]:=by
 cases e:s.rows k with
 | nil=>rfl
 | cons q r=>exact absurd (h.c.rAct k q (by rw[e];exact yac)).1 (h.nw _)
theorem So.held{s:HS K}{n:Nat}(h:So s n)(k:K):∀p∈s.held k,p.1=n:=λp hp=>h.only _ (h.c.hAct k p hp)
structure Did1(s s':HS K)(n:Nat)(a:Act K):Prop where
 nn:s'.n=s.n
 other:∀d,d≠n->s'.deed d=s.deed d
 st:(s'.deed n).st=.zar
 done:(s'.deed n).done=(s.deed n).done++[if a.wr then a else ⟨false,a.key,(s.book a.key).getD 0⟩]
 kept:s'.kept=s.kept
 log:s'.log=if a.wr then s.log++[.write n a.key ((s.book a.key).getD 0) a.val] else s.log
 book:s'.book=if a.wr then up s.book a.key (some a.val) else s.book
theorem ziJ{s t:HS K}{n:Nat}{a:Act K}(en:t.n=s.n)(ed:t.deed=s.deed)(ek:t.kept=s.kept)(el:t.log=s.log)(eb:t.book=s.book):Did1 s (doIt t n a) n a:=by
 cases hw:a.wr with
 | true =>
  have e:TH.doIt t n a={ t with deed:=up t.deed n { t.deed n with st:=.zar,done:=(t.deed n).done++[a] },log:=t.log++[.write n a.key ((t.book a.key).getD 0) a.val],book:=up t.book a.key (some a.val) }:=by unfold TH.doIt;rw[yaj hw]
  rw[e];refine⟨en,λd hd=>?_,?_,?_,ek,?_,?_⟩
  . show up t.deed n _ d=_;rw[zao hd,ed]
  . show(up t.deed n _ n).st=_;rw[zae]
  . show(up t.deed n _ n).done=_;rw[zae,ed,hw,yaj rfl]
  . show t.log++[_]=_;rw[hw,yaj rfl,el,eb]
  . show up t.book a.key _=_;rw[hw,yaj rfl,eb]
 | false =>
  have e:TH.doIt t n a={ t with deed:=up t.deed n { t.deed n with st:=.zar,done:=(t.deed n).done++[⟨false,a.key,(t.book a.key).getD 0⟩] } }:=by unfold TH.doIt;rw[yai (by rw[hw];decide)]
  rw[e];refine⟨en,λd hd=>?_,?_,?_,ek,?_,?_⟩
  . show up t.deed n _ d=_;rw[zao hd,ed]
  . show(up t.deed n _ n).st=_;rw[zae]
  . show(up t.deed n _ n).done=_;rw[zae,ed,hw,yai yam,eb]
  . show t.log=_;rw[hw,yai yam,el]
  . show t.book=_;rw[hw,yai yam,eb]
theorem Did1.kb{s s':HS K}{n:Nat}{a:Act K}(d:Did1 s s' n a)(c:Core s none)(go:(s.deed n).st=.zar):zam s'=zam s:=by
 refine zbT d.kept λe he=>?_;rw[d.other e λz=>by subst z;have:=(c.zdf _).mp he;rw[go]at this;cases this]
variable(ord:List K->List K)
theorem So.wish{s:HS K}{n:Nat}(h:So s n)(a:Act K):So (TH.wish ord s n a) n/\Did1 s (TH.wish ord s n a) n a/\∃w,(n,w)∈(TH.wish ord s n a).held a.key/\(a.wr=true->w=true):=by
 have cw:=h.c.wish ord (a:=a) h.go;have key:Did1 s (TH.wish ord s n a) n a/\∃w,(n,w)∈(TH.wish ord s n a).held a.key/\(a.wr=true->w=true):=by
   unfold TH.wish;dsimp only;by_cases h1:look ((TH.see s a.key).held a.key) n=some a.wr\/look ((TH.see s a.key).held a.key) n=some true
   . rw[yaj h1];refine⟨ziJ rfl rfl rfl rfl rfl,?_⟩;rw[zca];rcases h1 with h1 | h1
     . exact⟨_,zb0 h1,λz=>z⟩
     . exact⟨_,zb0 h1,λ_=>rfl⟩
   . rw[yai h1];have h2:lets ((TH.see s a.key).held a.key) n a.wr=true/\(has ((TH.see s a.key).held a.key) n=true\/(TH.see s a.key).rows a.key=[]):=by
       refine⟨?_,.inr (h.rows a.key)⟩;unfold lets;rw[ybh];intro q hq;have:=h.held a.key q hq;simp[this]
     rw[yaj h2];refine⟨ziJ rfl rfl rfl rfl rfl,a.wr,?_,λz=>z⟩;rw[zca];show(n,a.wr)∈up (TH.see s a.key).held a.key _ a.key;rw[zae];exact zaU.mpr (.inl rfl)
 refine⟨⟨cw,λd=>?_,λd hd=>?_,key.1.st⟩,key⟩
 . by_cases e:d=n
   . subst e;rw[key.1.st];intro z;cases z
   . rw[key.1.other d e];exact h.nw d
 . by_cases e:d=n
   . exact e
   . rw[key.1.other d e]at hd;exact h.only d hd
theorem So.first{s:HS K}(c:Core s none)(no:∀d,¬(s.deed d).act):So (zav s) s.n:=by
 have e:∀d,d≠s.n->(zav s).deed d=s.deed d:=λd h=>zao h;have e2:((zav s).deed s.n).st=.zar:=by show(up s.deed s.n _ s.n).st=_;rw[zae]
 refine⟨c.zav,λd z=>?_,λd hd=>?_,e2⟩
 . by_cases h:d=s.n
   . subst h;rw[e2]at z;cases z
   . rw[e d h]at z;exact no d (.inr z)
 . by_cases h:d=s.n
   . exact h
   . rw[e d h]at hd;exact absurd hd (no d)
theorem zjM{s:HS K}{k:K}{m:Nat}{w:Bool}{a:Act K}(h0:∀k',k'≠k->s.rows k'=[])(h1:s.rows k=[(m,w)])(hl:lets (s.held k) m w=true)(hw:(s.deed m).wish=some a) :
  ∀ks:List K,k∈ks->TH.zaM s ks=doIt (take { s with rows:=up s.rows k [] } m k w) m a
 | [],h=>by cases h
 | k'::r,h=>by
  show TH.zaM (TH.zbq (s.rows k').length s k') r=_;by_cases e:k'=k
  . subst e;have g:TH.zbq (s.rows k').length s k'=doIt (take { s with rows:=up s.rows k' [] } m k' w) m a:=by
      rw[h1];show TH.zbq 1 s k'=_;unfold TH.zbq;rw[h1];dsimp only;rw[yaj hl,hw]
      rfl
    rw[g];refine zea (λk2=>?_) r;rw[zcI];show up s.rows k' [] k2=[]
    by_cases e2:k2=k'
    . rw[e2,zae]
    . rw[zao e2];exact h0 k2 e2
  . have g:TH.zbq (s.rows k').length s k'=s:=by rw[h0 k' e];rfl
    rw[g];exact zjM h0 h1 hl hw r ((yat.mp h).resolve_left λz=>e z.symm)
theorem zla{s:HS K}(h:∀d,¬Reach s d d):∀f,TH.settle ord f s=s
 | 0=>rfl
 | f+1=>by
  have e:rings s=[]:=by
   cases hr:rings s with
   | nil=>rfl
   | cons d r=>exact absurd (zbI (s:=s) (d:=d) (by rw[hr];exact yac)).2 (h d)
  unfold TH.settle;rw[e]
  rfl
structure Wt(s t:HS K)(n m:Nat)(k:K):Prop where
 nn:t.n=s.n+1
 dn:t.deed n=s.deed n
 st:(t.deed m).st=.waiting
 dm:(t.deed m).done=[]
 wi:(t.deed m).wish=some ⟨false,k,0⟩
 other:∀d,d≠m->t.deed d=s.deed d
 log:t.log=s.log++[.begin m]
 kept:t.kept=s.kept
 book:t.book=s.book
 row:t.rows k=[(m,false)]
 rows:∀k',k'≠k->t.rows k'=[]
 held:t.held=s.held
 seen:k∈t.seen
theorem So.zuz{s:HS K}{n:Nat}(h:So s n){k:K}(hh:(n,true)∈s.held k):Wt s (TH.wish ord (zav s) s.n ⟨false,k,0⟩) n s.n k:=by
 have hn:n < s.n:=h.c.lt (.inl h.go);have hne:n≠s.n:=yaI hn;have nm:∀w,(s.n,w)∉s.held k:=λw z=>absurd (h.held k _ z) (λe=>hne e.symm);have e1:(zav s).deed s.n=⟨.zar,[],none⟩:=by show up s.deed s.n _ s.n=_;rw[zae]
 have e2:∀d,d≠s.n->(zav s).deed d=s.deed d:=λd hd=>zao hd;have lk:look (s.held k) s.n=none:=by
   cases e:look (s.held k) s.n with
   | none=>rfl
   | some w=>exact absurd (zb0 e) (nm w)
 have hs:has (s.held k) s.n=false:=by
   cases e:has (s.held k) s.n with
   | false=>rfl
   | true =>
     obtain⟨w,hw⟩:=zhc.mp e;exact absurd hw (nm w)
 have lt:lets (s.held k) s.n false=false:=by
   unfold lets;rw[ydn];exact⟨(n,true),hh,by simp[hne]⟩
 have ew:TH.wish ord (zav s) s.n ⟨false,k,0⟩=TH.settle ord (TH.see (zav s) k).n (TH.wait (TH.see (zav s) k) s.n ⟨false,k,0⟩):=by
   unfold TH.wish;dsimp only;rw[yai,yai]
   . intro z;have z1:lets (s.held k) s.n false=true:=z.1;rw[lt]at z1;cases z1
   . intro z;have z:look (s.held k) s.n=some false\/look (s.held k) s.n=some true:=z;rw[lk]at z;rcases z with z | z<;>cases z
 generalize ht:TH.wait (TH.see (zav s) k) s.n ⟨false,k,0⟩=t at ew;have W:Wt s t n s.n k:=by
   have rk:t.rows=up s.rows k [(s.n,false)]:=by
     rw[<-ht];show up s.rows k (if has (s.held k) s.n then _ else s.rows k++[(s.n,false)])=_;rw[hs,yai yam,h.rows k];rfl
   have dd:t.deed=up (zav s).deed s.n { (zav s).deed s.n with st:=.waiting,wish:=some ⟨false,k,0⟩ }:=by rw[<-ht];rfl
   refine⟨by rw[<-ht];rfl,?_,?_,?_,?_,λd hd=>?_,by rw[<-ht];rfl,by rw[<-ht];rfl,by rw[<-ht];rfl,by rw[rk,zae],λk' hk=>by rw[rk,zao hk];exact h.rows k',by rw[<-ht];rfl,by rw[<-ht];exact zbX⟩
   . rw[dd,zao hne,e2 n hne]
   . rw[dd,zae]
   . rw[dd,zae,e1]
   . rw[dd,zae]
   . rw[dd,zao hd,e2 d hd]
 have nost:s.n∉zbV t s.n:=λz=>by
   obtain⟨a,_,_,q⟩:=zbx.mp z;unfold zbV at z;rw[W.st,W.wi]at z;dsimp only at z;rcases yas.mp z with z | z
   . rw[W.row]at z;simp at z
   . obtain⟨p,hp,e⟩:=yap.mp z;have:=(ya3.mp hp).2;rw[e]at this;simp at this
 have wait1:∀d,(t.deed d).st=.waiting->d=s.n:=λd hd=>ybY λhne'=>by
   rw[W.other d hne']at hd;exact h.nw d hd
 rw[ew,zla ord λd r=>?_]
 . exact W
 . have hd:=wait1 d (zaO r);subst hd;cases r with
   | one q=>exact nost q
   | step q r2 =>
     rename_i e;have:=wait1 _ (zaO r2);rw[this]at q;exact nost q
structure Kp(t u:HS K)(n m:Nat)(k:K):Prop where
 nn:u.n=t.n
 st:(u.deed m).st=.zar
 done:(u.deed m).done=(t.deed m).done++[⟨false,k,(t.book k).getD 0⟩]
 log:u.log=t.log++[.keep n]
 kept:u.kept=t.kept++[n]
 dn:∀d,d≠m->(u.deed d).done=(t.deed d).done
variable(hord:∀l k,k∈ord l↔k∈l)
include hord
theorem Wt.keep{s t:HS K}{n m:Nat}{k:K}(W:Wt s t n m k)(hn:n≠m)(hh:∀p∈s.held k,p.1=n):Kp t (TH.keep ord t n) n m k:=by
 have hl:lets ((letGo (zf0 t n) n).held k) m false=true:=by
   have:(letGo (zf0 t n) n).held k=[]:=by
     show less (t.held k) n=[]
     unfold less;rw[ydM];intro p hp;rw[W.held]at hp;simp[hh p hp]
   rw[this];rfl
 have hr:(letGo (zf0 t n) n).rows k=[(m,false)]:=by
   show less (t.rows k) n=_;rw[W.row];unfold less;rw[ycc (by simp;exact λz=>hn z.symm)];rfl
 have h0:∀k',k'≠k->(letGo (zf0 t n) n).rows k'=[]:=λk' hk=>by
   show less (t.rows k') n=_;rw[W.rows k' hk];rfl
 have ed:(letGo (zf0 t n) n).deed=up t.deed n { t.deed n with st:=.kept }:=rfl;have hw:((letGo (zf0 t n) n).deed m).wish=some ⟨false,k,0⟩:=by rw[ed,zao hn.symm];exact W.wi
 have e:TH.keep ord t n=doIt (take { letGo (zf0 t n) n with rows:=up (letGo (zf0 t n) n).rows k [] } m k false) m ⟨false,k,0⟩:=zjM h0 hr hl hw _ ((hord _ _).mpr W.seen);rw[e];have D:=ziJ (s:=letGo (zf0 t n) n) (t:=take { letGo (zf0 t n) n with rows:=up (letGo (zf0 t n) n).rows k [] } m k false) (n:=m) (a:=⟨false,k,0⟩) rfl rfl rfl rfl rfl;refine⟨D.nn,D.st,?_,D.log,D.kept,λd hd=>?_⟩
 . rw[D.done,ed,zao hn.symm];rfl
 . rw[D.other d hd,ed];by_cases z:d=n
   . subst z;rw[zae]
   . rw[zao z]
end
end TH
end
section
namespace S6
open PySem
def Rise(xs:Array Nat):Prop:=xs.toList.Pairwise (· < ·)
theorem Rise.lt{xs:Array Nat}(h:Rise xs){i j:Nat}(hij:i < j)(hj:j < xs.size):xs[i] < xs[j]:=by
 have:=ycA.mp h i j (by simpa using yd7 hij hj) (by simpa using hj) hij;simpa using this
theorem Rise.small{xs:Array Nat}(h:xs.size<=1):Rise xs:=by
 refine ycA.mpr λi j hi hj hij=>?_;have:xs.toList.length<=1:=by simpa using h
 omega
theorem zmU{xs:Array Nat}(h:Rise xs)(j:Nat):∀(fuel lo hi:Nat),hi - lo<=fuel->lo<=hi->hi<=xs.size->(∀i (hx:i < xs.size),i < lo->xs[i] < j)->(∀i (hx:i < xs.size),hi<=i->j<=xs[i]) ->
  SetTable.below.go xs j fuel lo hi<=xs.size/\(∀i (hx:i < xs.size),i < SetTable.below.go xs j fuel lo hi->xs[i] < j)/\∀i (hx:i < xs.size),SetTable.below.go xs j fuel lo hi<=i->j<=xs[i]
 | 0,lo,hi,hf,hl,hh,h1,h2=>by
  have:lo=hi:=by omega
  subst this;unfold SetTable.below.go;exact⟨hh,h1,h2⟩
 | fuel+1,lo,hi,hf,hl,hh,h1,h2=>by
  unfold SetTable.below.go;by_cases z:lo < hi
  . rw[yaj z];dsimp only;have hm:(lo+hi) / 2 < hi:=by omega
    have hm':lo<=(lo+hi) / 2:=by omega
    have hms:(lo+hi) / 2 < xs.size:=by omega
    have e:xs.getD ((lo+hi) / 2) j=xs[(lo+hi) / 2]:=by simp[Array.getD,hms]
    rw[e];by_cases y:xs[(lo+hi) / 2] < j
    . rw[yaj y];refine zmU h j fuel ((lo+hi) / 2+1) hi (by omega) (by omega) hh (λi hi' hlt=>?_) h2;rcases ycC i ((lo+hi) / 2) with q | q
      . exact yd7 (h.lt q hms) y
      . have:i=(lo+hi) / 2:=by omega
        subst this;exact y
    . rw[yai y];refine zmU h j fuel lo ((lo+hi) / 2) (by omega) hm' (by omega) h1 λi hx hge=>?_;rcases ycC ((lo+hi) / 2) i with q | q
      . exact yaA (yc0 y) (yco (h.lt q hx))
      . have:i=(lo+hi) / 2:=by omega
        subst this;exact yc0 y
  . rw[yai z];have:lo=hi:=by omega
    subst this;exact⟨hh,h1,h2⟩
theorem zjX{xs:Array Nat}(h:Rise xs)(j:Nat):SetTable.below xs j<=xs.size/\(∀i (hi:i < xs.size),i < SetTable.below xs j->xs[i] < j)/\∀i (hx:i < xs.size),SetTable.below xs j<=i->j<=xs[i] :=
 zmU h j xs.size 0 xs.size (by omega) (ya1 _) (yaf _) (λi _ z=>absurd z (ycp _)) λi hx z=>by omega
def slotAt(xs:Array Nat)(i:Nat):Nat:=if i=0 then 0 else xs.getD (i - 1) 0+1
theorem below_at{xs:Array Nat}(h:Rise xs){i:Nat}(hi:i<=xs.size):SetTable.below xs (slotAt xs i)=i:=by
 obtain⟨h0,h1,h2⟩:=zjX h (slotAt xs i);generalize hr:SetTable.below xs (slotAt xs i)=r at *;by_cases z:i=0
 . subst z;rcases Nat.eq_zero_or_pos r with q | q
   . exact q
   . have:=h1 0 (by omega) q;unfold slotAt at this;simp at this
 . have e:slotAt xs i=xs[i - 1]'(by omega)+1:=by unfold slotAt;rw[yai z];simp[Array.getD,show i - 1 < xs.size by omega]
   rw[e]at h1 h2;rcases Nat.lt_trichotomy r i with q | q | q
   . have:=h2 (i - 1) (by omega) (by omega);omega
   . exact q
   . have:=h1 i (by omega) q;have:=h.lt (i:=i - 1) (j:=i) (by omega) (by omega);omega
theorem zmy{xs:Array Nat}(h:Rise xs){j:Nat}(hn:xs[SetTable.below xs j]?≠some j):Rise (SetTable.insertAt xs (SetTable.below xs j) j):=by
 obtain⟨h0,h1,h2⟩:=zjX h j;unfold Rise SetTable.insertAt;generalize SetTable.below xs j=r at *;have e:((xs.extract 0 r).push j++xs.extract r xs.size).toList=xs.toList.take r++j::xs.toList.drop r:=by
   simp[List.extract_eq_take_drop];exact yba (by simp)
 rw[e];have gt:∀i (hx:i < xs.size),r<=i->j < xs[i]:=λi hx hr=>by
   have hr':r < xs.size:=by omega
   have h3:=h2 r hr' (yaf _);have h4:xs[r]≠j:=λz=>hn (by rw[yaM hr',z]);rcases ycC r i with q | q
   . have:=h.lt q hx;omega
   . have:i=r:=by omega
     subst this;omega
 refine yb0.mpr ⟨ydT (List.take_sublist _ _) h,ybv.mpr ⟨λb hb=>?_,ydT (List.drop_sublist _ _) h⟩,λa ha b hb=>?_⟩
 . obtain⟨i,hi⟩:=yc3 hb;rw[yde]at hi;obtain⟨hl,e1⟩:=yar.mp hi;have:=gt (r+i) (by simpa using hl) (by omega);simp at e1;omega
 . obtain⟨i,hi⟩:=yc3 ha;have hir:i < r:=by
     have:=(yar.mp hi).1;rw[yaY]at this;omega
   rw[ydo hir]at hi;obtain⟨hl,e1⟩:=yar.mp hi;have ha':a < j:=by
     have:=h1 i (by simpa using hl) hir;simp at e1;omega
   rcases yat.mp hb with q | q
   . omega
   . obtain⟨i2,hi2⟩:=yc3 q;rw[yde]at hi2;obtain⟨hl2,e2⟩:=yar.mp hi2;have:=gt (r+i2) (by simpa using hl2) (by omega);simp at e2;omega
def zhd(t:SetTable)(j:Nat):Prop:=t.place[SetTable.below t.place j]?≠some j
theorem zoq{t:SetTable}{j:Nat}(h:t.slot j=.empty):zhd t j:=λz=>by
 unfold SetTable.slot at h;simp only[z,ydE,yb2]at h;cases h
theorem zor{t:SetTable}{j:Nat}(h:t.slot j=.dummy):zhd t j:=λz=>by
 unfold SetTable.slot at h;simp only[z,ydE,yb2]at h;cases h
theorem zkf{t:SetTable}{f:Nat->Int}{h:Int}:∀(fuel:Nat) (p:SetTable.Probe) {j:Nat} {d:Option Nat},(∀q,p.dummy=some q->zhd t q)->SetTable.probe.go t f h fuel p=some (.empty j d)->zhd t j/\∀q,d=some q->zhd t q
 | 0,p,j,d,_,e=>by unfold SetTable.probe.go at e;cases e
 | fuel+1,p,j,d,hp,e=>by
  have adv:∀p:SetTable.Probe,(t.advance p).dummy=p.dummy:=λp=>by
    unfold SetTable.advance;split<;>rfl
  unfold SetTable.probe.go at e;split at e
  . rename_i hs;cases e;exact⟨zoq hs,hp⟩
  . rename_i hs;refine zkf fuel _ (λq hq=>?_) e;rw[adv]at hq;cases hq;exact zor hs
  . split at e
    . cases e
    . exact zkf fuel _ (λq hq=>by rw[adv]at hq;exact hp q hq) e
theorem zs5{t:SetTable}{h:Int}{j:Nat}{b:Bool}(e:t.freeSlot h=some (j,b)):zhd t j:=by
 unfold SetTable.freeSlot at e;split at e
 . rename_i j' d hq;obtain⟨h1,h2⟩:=zkf _ _ (λq hq=>by cases hq) hq;cases e;cases d with
   | none=>exact h1
   | some q=>exact h2 q rfl
 . cases e
def Ri(t:SetTable):Prop:=t.plain=true->Rise t.place
theorem zuR{t:SetTable}(n:Nat)(h:Ri t):Ri (t.orStandIn n):=by
 unfold SetTable.orStandIn;split
 . exact h
 . intro z;cases z
theorem zt9{t:SetTable}(es:Array (Int×Value))(h:Int)(x:Value)(r:Ri t):Ri (layNew t es h x).2.1:=by
 unfold layNew;split
 . rename_i slot wd e;dsimp only;refine zuR _ λz=>?_;exact zmy (r z) (zs5 e)
 . intro z;cases z
theorem zpF{t t':SetTable}{hs:Array Int}{n:Nat}{order:Array Nat}(e:t.relaid hs n=some (t',order)):Rise t'.place:=by
 unfold SetTable.relaid SetTable.laid at e;cases hl:SetTable.layClean (SetTable.sizeAbove n - 1) hs with
 | none=>rw[hl]at e;cases e
 | some ow =>
  rw[hl]at e;cases e;show List.Pairwise _ _;rw[List.toList_toArray,ycN];refine List.Pairwise.filterMap (R:=(· < ·)) _ (λa b hab x hx y hy=>?_) ydL;obtain⟨_,_,rfl⟩:=yao.mp hx;obtain⟨_,_,rfl⟩:=yao.mp hy;exact hab
theorem zrf{t:SetTable}(es:Array (Int×Value))(n:Nat):Ri (relayAll t es n).2.1:=by
 unfold relayAll;split
 . rename_i t' order e;dsimp only;split
   . exact λ_=>zpF e
   . intro z;cases z
 . intro z;cases z
end S6
end
section
namespace S6
open PySem
section
variable{prog:Program}{w:World}{A:Around}{E:Value->Shared->Prop}
theorem zg9{α:Type}:∀{l:List α} {k:Nat} (h:k < l.length),(l[k]::l.eraseIdx k).Perm l
 | a::r,0,h=>by simp
 | a::r,k+1,h=>by
  have:=zg9 (l:=r) (k:=k) (by simpa using h);simp only[List.getElem_cons_succ,ydv];exact(List.Perm.swap _ _ _).trans (this.cons a)
theorem zsd{src:Source}{n:Nat}{Q:Nat->Shared->Prop}{s:Shared}(hn:n≠0)(h:∀k d,k < n->Q k { s with drawn:=d }):wpAny (model prog w) A (choose src n) Q E s:=λΓ p _ =>
 ⟨hn,h _ _ (Nat.mod_lt _ (Nat.pos_of_ne_zero hn))⟩
theorem znu{α:Type}:∀(n:Nat) (xs:List α) (s:Shared) (Q:List α->Shared->Prop),xs.length=n->(∀ys d,ys.Perm xs->Q ys { s with drawn:=d })->wpAny (model prog w) A (drawOrder n xs) Q E s
 | 0,xs,s,Q,hl,h=>by
  have:xs=[]:=ybt.mp hl;subst this;exact yag (h [] s.drawn .nil)
 | n+1,[],s,Q,hl,h=>by cases hl
 | n+1,x::r,s,Q,hl,h=>by
  unfold drawOrder;refine yab (zsd (by simp) λk d hk=>?_);obtain⟨y,hy⟩:∃y,(x::r)[k]?=some y:=⟨_,yax hk⟩
  rw[hy];dsimp only;refine yab (znu n ((x::r).eraseIdx k) _ _ ?_ λys d' hp=>yag ?_)
  . rw[List.length_eraseIdx,yaj hk];omega
  . refine h (y::ys) d' ?_;obtain⟨hk',rfl⟩:=yar.mp hy;exact(hp.cons _).trans (zg9 hk')
theorem zjy{α:Type}(next:Nat->Nat):∀(n k:Nat) (l:List α) (out:Array α),l.length=n->(pickOrder.go next n k l out).toList.Perm (out.toList++l)
 | 0,k,l,out,hl=>by
  have:l=[]:=ybt.mp hl;subst this;unfold pickOrder.go;simp
 | n+1,k,l,out,hl=>by
  unfold pickOrder.go;have hk:next k % l.length < l.length:=Nat.mod_lt _ (by omega);rw[yax hk];dsimp only;refine(zjy next n (k+1) _ _ (by rw[List.length_eraseIdx,yaj hk];omega)).trans ?_;rw[Array.toList_push,yb4];exact List.Perm.append_left _ (zg9 hk)
theorem zrl{α:Type}(next:Nat->Nat)(xs:Array α):(pickOrder next xs).toList.Perm xs.toList:=by
 unfold pickOrder;have:=zjy next xs.size 0 xs.toList #[] (by simp);simpa using this
theorem zii{α β:Type}{F:α->β->Prop}{l l':List α}(p:l'.Perm l):∀{m:List β},Paired F l m->∃m',m'.Perm m/\Paired F l' m':=by
 induction p with
 | nil=>intro m h;exact⟨m,.refl _,h⟩
 | cons x _ ih =>
  intro m h;cases h with
  | cons r t =>
   obtain⟨m',p',h'⟩:=ih t;exact⟨_::m',p'.cons _,.cons r h'⟩
 | swap x y l =>
  intro m h;cases h with
  | cons r t=>cases t with
   | cons r' t'=>exact⟨_,.swap _ _ _,.cons r' (.cons r t')⟩
 | trans _ _ ih1 ih2 =>
  intro m h;obtain⟨m1,p1,h1⟩:=ih2 h;obtain⟨m2,p2,h2⟩:=ih1 h1;exact⟨m2,p2.trans p1,h2⟩
theorem zbS{α β:Type}{F:α->β->Prop}:∀{l:List α} {m:List β} {a:α} {b:β},Paired F l m->F a b->Paired F (l++[a]) (m++[b])
 | _,_,_,_,.nil,h=>.cons h .nil
 | _,_,_,_,.cons r t,h=>.cons r (zbS t h)
theorem zhN{α β:Type}{F:α->β->Prop}:∀{l:List α} {m:List β} {i:Nat} {a:α},Paired F l m->l[i]?=some a->∃b,m[i]?=some b/\F a b
 | _,_,_,_,.nil,h=>by simp at h
 | _,_,0,_,.cons r _,h=>by simp at h;subst h;exact⟨_,rfl,r⟩
 | _,_,i+1,_,.cons _ t,h=>by
  obtain⟨b,h1,h2⟩:=zhN (i:=i) t (by simpa using h);exact⟨b,by simpa using h1,h2⟩
theorem znJ{α β:Type}{F:α->β->Prop}{l:List α}{m:List β}(h:Paired F l m){a:α}(ha:a∈l):∃b∈m,F a b:=by
 obtain⟨i,hi⟩:=ycS.mp ha;obtain⟨b,h1,h2⟩:=zhN h hi;exact⟨b,yaS h1,h2⟩
theorem zlq{α β:Type}{F:α->β->Prop}:∀{l:List α} {m:List β},Paired F l m->∀{b:β},b∈m->∃a∈l,F a b
 | _,_,.nil,_,hb=>by cases hb
 | _,_,.cons r t,b,hb=>by
  rcases yat.mp hb with z | z
  . subst z;exact⟨_,yac,r⟩
  . obtain⟨a,h1,h2⟩:=zlq t z;exact⟨a,yad _ h1,h2⟩
theorem zt2(t:SetTable)(n:Nat):(t.orStandIn n).led=t.led:=by unfold SetTable.orStandIn;split<;>rfl
theorem zsY(t:SetTable)(es:Array (Int×Value))(h:Int)(x:Value):(layNew t es h x).2.1.led=t.led:=by
 unfold layNew;split
 . dsimp only;rw[zt2];rfl
 . rfl
theorem zow{t t':SetTable}{hs:Array Int}{n:Nat}{order:Array Nat}(e:t.relaid hs n=some (t',order)):t'.led=t.led/\t'.plain=t.plain:=by
 unfold SetTable.relaid SetTable.laid at e;cases hl:SetTable.layClean (SetTable.sizeAbove n - 1) hs with
 | none=>rw[hl]at e;cases e
 | some ow=>rw[hl]at e;cases e;exact⟨rfl,rfl⟩
theorem zpE(t:SetTable)(es:Array (Int×Value))(n:Nat):(relayAll t es n).2.1.led=t.led/\(t.plain=false->(relayAll t es n).2.1.plain=false):=by
 unfold relayAll;split
 . rename_i t' order e;obtain⟨h1,h2⟩:=zow e;dsimp only;split
   . exact⟨h1,λh=>h2.trans h⟩
   . exact⟨rfl,λ_=>rfl⟩
 . exact⟨rfl,λ_=>rfl⟩
variable{K:Type}[DecidableEq K]
abbrev El(knd:KeyKind prog w K)(e:Int×Value)(k:K):Prop:=(knd.is k e.2=true/\e.1=knd.hash k)/\e.2.scannable=true
structure SetT(w:World)(t:SetTable)(n:Nat):Prop where
 fits:t.fits n=true
 led:w.params.followText "set-order" = false->t.led=true
 rise:Ri t
def SetG(knd:KeyKind prog w K)(h:Heap)(a:Addr)(ks:List K):Prop :=
 ∃o es ep t,h.get? a=some o/\o.ExactSet/\o.data=.set es ep t/\Paired (El knd) es.toList ks/\ks.Nodup/\ks.length < scanBound/\SetT w t es.size
def SetP(knd:KeyKind prog w K)(h:Heap)(a:Addr)(ks:List K):Prop:=∃ks',ks'.Perm ks/\SetG knd h a ks'
variable{knd:KeyKind prog w K}{s:Shared}
theorem SetG.at{h h':Heap}{a:Addr}{ks:List K}(x:SetG knd h a ks)(e:∀o,h.get? a=some o->h'.get? a=some o):SetG knd h' a ks :=
 let ⟨o,es,ep,t,ho,r⟩:=x;⟨o,es,ep,t,e _ ho,r⟩
theorem SetP.at{h h':Heap}{a:Addr}{ks:List K}(x:SetP knd h a ks)(e:∀o,h.get? a=some o->h'.get? a=some o):SetP knd h' a ks :=
 let ⟨ks',p,g⟩:=x;⟨ks',p,g.at e⟩
theorem zrH{l:List (Int×Value)}{ks:List K}(h:Paired (El knd) l ks):ElemsOf knd l:=λe he=>by
 obtain⟨k,_,⟨h1,h2⟩,h3⟩:=znJ h he;exact⟨⟨k,h1,h2⟩,h3⟩
theorem zjw{h:Heap}{a:Addr}{o:Obj}{es:Array (Int×Value)}{ep:Nat}{t:SetTable}(ho:h.get? a=some o)(hx:o.ExactSet)(hd:o.data=.set es ep t)
  {es':Array (Int×Value)} {t':SetTable} {ks:List K} (he:Paired (El knd) es'.toList ks) (hn:ks.Nodup) (hb:ks.length < scanBound) (ht:SetT w t' es'.size) :
  ∃o',(h.update a (Obj.putSet es' t')).get? a=some o'/\o'.ExactSet/\o'.data=.set es' (ep+1) t'/\SetG knd (h.update a (Obj.putSet es' t')) a ks:=by
 have g:=ybE (Obj.putSet es' t') ho (by rw[putSet_of es' t' hd];rfl);rw[putSet_of es' t' hd]at g;exact⟨_,g,hx,rfl,_,es',ep+1,t',g,hx,rfl,he,hn,hb,ht⟩
theorem zpw{a:Addr}{ks:List K}{k:K}{x:Value}{Q:Bool->Shared->Prop}(hkey:knd.is k x=true)(hsc:x.scannable=true)(hS:SetP knd s.heap a ks)(hroom:ks.length+1 < scanBound)
  (h:∀b h',Heap.SameBut a s.heap h'->SetP knd h' a (if k∈ks then ks else ks++[k])->Q b { s with heap:=h' }) :
  wpAny (model prog w) A (setAddHashed a x (knd.hash k)) Q E s:=by
 obtain⟨ks',pk,o,es,ep,t,ho,hx,hd,hel,hnd,hb,hT⟩:=hS;have hl:es.size=ks'.length:=by rw[<-yaO];exact hel.length
 have hpl:ks'.length=ks.length:=pk.length_eq;have E0:=zrH hel;have hes:es.size < scanBound:=by omega
 unfold setAddHashed setAddHashedIn;refine ybw (yab (ybR ho hd hT.fits ?_));dsimp only;rw[byScan_of hsc hes E0];simp only[↓reduceIte];unfold setAddByScan;refine yab (yab (ydp (yab (wpAny_setScan_of hkey ho hd hT.fits E0 ?_))));have memk:∀q,(q∈ks↔∃e∈es.toList,knd.is q e.2=true):=λq=>by
  rw[<-pk.mem_iff];refine⟨λhq=>?_,λ⟨e,he,hq⟩=>?_⟩
  . obtain⟨e,he,z⟩:=zlq hel hq;exact⟨e,he,z.1.1⟩
  . obtain⟨q',hq',z⟩:=znJ hel he;rw[knd.inj _ q q' hq z.1.1];exact hq'
 cases hr:List.findIdx? (λe=>knd.is k e.2) es.toList with
 | some j =>
  dsimp only;obtain⟨hj,hpj,_⟩:=List.findIdx?_eq_some_iff_getElem.mp hr;have hk:k∈ks:=(memk k).mpr ⟨es.toList[j],List.getElem_mem hj,hpj⟩;have q:=h false s.heap (Heap.SameBut.refl a s.heap);rw[yaj hk]at q;exact yag (yag (q ⟨ks',pk,o,es,ep,t,ho,hx,hd,hel,hnd,hb,hT⟩))
 | none =>
  dsimp only;have hk:k∉ks:=λz=>by
    obtain⟨e,he,hq⟩:=(memk k).mp z;have:=List.findIdx?_eq_none_iff.mp hr e he;rw[hq]at this;cases this
  have gave:∀(b:Bool) {s₁:Shared} {Q':Unit->Shared->Prop},Q' () s₁->wpAny (model prog w) A (match b with | true=>rule "set.scan.the-table-gave-way" | false=>pure ()) Q' E s₁ :=
    λb s₁ Q' hq=>by cases b<;>first | exact yag hq | exact ydp hq
  have lp:=layNew_perm t es (knd.hash k) x;have lf:=layNew_fits t es (knd.hash k) x;have ll:=zsY t es (knd.hash k) x;have lpl:=zt9 es (knd.hash k) x hT.rise;generalize layNew t es (knd.hash k) x=L at lp lf ll lpl ⊢;obtain⟨es1,t1,wasDummy,gv⟩:=L;dsimp only at lp lf ll lpl ⊢;rw[Array.toList_push]at lp;obtain⟨k1,pk1,hel1⟩:=zii lp (zbS hel (show El knd (knd.hash k,x) k from⟨⟨hkey,rfl⟩,hsc⟩));have hk':k∉ks':=λz=>hk (pk.mem_iff.mp z);have nd1:k1.Nodup:=pk1.nodup_iff.mpr (ybi.mpr ⟨hnd,by simp,λu hu v hv=>by rw[yaq.mp hv];intro z;rw[z]at hu;exact hk' hu⟩);have ln1:k1.length=ks'.length+1:=by rw[pk1.length_eq];simp
  have pk2:k1.Perm (ks++[k]):=pk1.trans (pk.append_right _);have hz1:es1.size=k1.length:=by rw[<-yaO];exact hel1.length
  refine yab (gave _ ?_);have tail:∀t2:SetTable,t2.fits es1.size=true->t2.led=t1.led->Ri t2 ->
      wpAny (model prog w) A (do
       storeSet a es1 t2
       if (!wasDummy && t2.tooFull)=true then do
         (match (relayAll t2 es1 (SetTable.grown es1.size)).2.2 with | true=>rule "set.scan.the-table-gave-way" | false=>pure ())
         storeSet a (relayAll t2 es1 (SetTable.grown es1.size)).1 (relayAll t2 es1 (SetTable.grown es1.size)).2.1
         pure (some true)
        else pure (some true)) (λr s'=>∃b h',r=some b/\s'={ s with heap:=h' }/\Heap.SameBut a s.heap h'/\SetP knd h' a (ks++[k])) E s:=λt2 f2 l2 p2=>by
    have hT2:SetT w t2 es1.size:=⟨f2,λq=>by rw[l2,ll];exact hT.led q,p2⟩
    refine yab (wpAny_storeSet_of ho hd ?_ (by rw[hz1];exact ydq (by omega)));obtain⟨o1,ho1,hx1,hd1,G1⟩:=zjw (knd:=knd) ho hx hd hel1 nd1 (by omega) hT2;have sb1:=ybB s.heap a (Obj.putSet es1 t2);split
    . have rp:=relayAll_perm t2 es1 (SetTable.grown es1.size);have rf:=relayAll_fits t2 es1 (SetTable.grown es1.size);obtain⟨rl,_⟩:=zpE t2 es1 (SetTable.grown es1.size);have rpl:=zrf (t:=t2) es1 (SetTable.grown es1.size);generalize relayAll t2 es1 (SetTable.grown es1.size)=R at rp rf rl rpl ⊢;obtain⟨es2,t3,g2⟩:=R;dsimp only at rp rf rl rpl ⊢;obtain⟨k3,pk3,hel3⟩:=zii rp hel1;have hz3:es2.size=k3.length:=by rw[<-yaO];exact hel3.length
      refine yab (gave _ ?_);refine yab (wpAny_storeSet_of ho1 hd1 ?_ (by rw[hz3,pk3.length_eq];exact ydq (by omega)));obtain⟨o3,ho3,hx3,hd3,G3⟩:=zjw (knd:=knd) ho1 hx1 hd1 hel3 (pk3.nodup_iff.mpr nd1) (by rw[pk3.length_eq];omega) ⟨rf,λq=>by rw[rl];exact hT2.led q,rpl⟩;exact yag ⟨true,_,rfl,rfl,sb1.trans (ybB _ a _),k3,pk3.trans pk2,G3⟩
    . exact yag ⟨true,_,rfl,rfl,sb1,k1,pk2,G1⟩
  cases hp:t1.plain with
  | true =>
    simp only[↓reduceIte];rw[hashByValue_scannable 8 hsc];refine yab (yag ?_);cases hv:plainKind x with
    | true =>
      simp only[↓reduceIte];refine ybk (tail t1 lf rfl lpl) (λr s' hq=>?_) λ_ _ z=>z;obtain⟨b,h',rfl,rfl,sb,G⟩:=hq;have q:=h b h' sb;rw[yai hk]at q;exact yag (q G)
    | false =>
      simp only[yaX,↓reduceIte];refine ybk (tail { t1 with plain:=false } (SetTable.fits_plain_off lf) rfl (λz=>by cases z)) (λr s' hq=>?_) λ_ _ z=>z;obtain⟨b,h',rfl,rfl,sb,G⟩:=hq;have q:=h b h' sb;rw[yai hk]at q;exact yag (q G)
  | false =>
    simp only[yaX,↓reduceIte];refine yab (yag ?_);simp only[↓reduceIte];refine ybk (tail t1 lf rfl lpl) (λr s' hq=>?_) λ_ _ z=>z;obtain⟨b,h',rfl,rfl,sb,G⟩:=hq;have q:=h b h' sb;rw[yai hk]at q;exact yag (q G)
end
end S6
end
section
namespace S6
open PySem PyProof.Rows
abbrev set0(w:World):Obj:={ cls:=.type "set",dict:=none,data:=.set #[] 0 (.fresh 0 0 (!w.params.followText "set-order")) }
section
variable{prog:Program}{w:World}{A:Around}{E:Value->Shared->Prop}{s:Shared}
theorem zsU(a:Value){Q₁:Value->Shared->Prop}(h:Q₁ (.ref s.heap.objs.size) { s with heap:=s.heap.push (set0 w) }) :
  codeAny (model prog w) A (.call (.builtin "set.__new__") ⟨[.type "set",a],[]⟩) (wants Q₁ E) s:=by
 refine codeAny_of_tree ?_;show wpAny _ A.in1 (do
  checkBuiltinCall "set.__new__" ⟨[.type "set",a],[]⟩
  again (.builtin "set.__new__" ⟨[.type "set",a],[]⟩)) _ _ s
 refine yab (wpAny_of_eq (F.newCall_set_1 a) (yag ⟨ycu F.plain_set_new _,ybS F.entry_set_new ?_⟩));rw [yby F.plain_set_new _];unfold Builtin.«set.__new__» Builtin.Frozenset.newClass;have hsub:=sub_set_self;obtain ⟨hp,g,d,tk,os⟩:=s;dsimp only
 wp_walk
 refine ych (yag ?_);dsimp only;simp only[newObj];exact yab (wpAny_alloc (yag (yag h)))
variable{K:Type}[DecidableEq K]{knd:KeyKind prog w K}
theorem zpy{h:Heap}{a:Addr}(e:h.get? a=some (set0 w)):SetP knd h a [] :=
 ⟨[],.refl _,_,#[],0,_,e,⟨rfl,rfl,rfl⟩,rfl,.nil,ybO,(by show(0:Nat) < scanBound;decide),⟨rfl,λq=>by show(!_)=true;rw[q];rfl,λ_=>List.Pairwise.nil⟩⟩
theorem ztO{l:Addr}{R:Heap->Prop}{Q:Value->Shared->Prop}(hl:∃o,s.heap.get? l=some o)
  (hup:wpAny (model prog w) A.in1.in1 (Builtin.Frozenset.updateFrom "set.__init__" s.heap.objs.size (.ref l)) (λ_ s'=>∃h' tk,s'={ s with heap:=h',toks:=tk }/\R h') E { s with heap:=s.heap.push (set0 w) })
  (h:∀h' tk,R h'->Q (.ref s.heap.objs.size) { s with heap:=h',toks:=tk }) :
  wpAny (model prog w) A (call (.type "set") [.ref l]) Q E s:=by
 obtain⟨c,tl,hmro⟩:=ycq.mro;have hmade:=ycq.made;have hsub:=ycq.sub;refine wpAny_call (codeAny_of_tree ?_);show wpAny _ _ (callAny (.type "set") _) _ _ _;refine yag ⟨Code.quiet_builtin _ (by decide +kernel),ybS F.entry_type_call ?_⟩;rw[Around.under_plain (weight_type_call_type "set" [.ref l] []) rfl];have h1:=ycq.notType;have h2:=ycq.canCreate;have hct:=F.typeCall_set_1 (.ref l)
 repeat (any_goals (first | assumption | wp_step))
 refine ycD (zsU (.ref l) (E:=E) (Q₁:=λobj s₁=>obj=.ref s.heap.objs.size/\s₁={ s with heap:=s.heap.push (set0 w) }) ⟨rfl,rfl⟩) λr s₁ hr=>?_;cases r with
 | error e=>exact hr
 | ok fl =>
  cases fl with
  | ret obj =>
   obtain⟨rfl,rfl⟩:=hr;have hS:(s.heap.push (set0 w)).get? s.heap.objs.size=some (set0 w):=yaC _ rfl;have hT:Shared.TypeIs { s with heap:=s.heap.push (set0 w) } (.ref s.heap.objs.size) "set" := ⟨_,hS,rfl⟩
   have hli:=ycq.init.lookup;have hbi:=ycq.init.bind (.ref s.heap.objs.size)
   repeat (any_goals (first | assumption | wp_step))
   refine ycD (codeAny_call_builtin (R:=wants (λr s₂=>r=.none/\∃h' tk,s₂={ s with heap:=h',toks:=tk }/\R h') E) ycq.init.plain F.entry_set_init (check_set_init_1 hT ?_)) λr₂ s₂ hr₂=>?_
   · unfold Builtin.«set.__init__» noKeywords;generalize hU:Builtin.Frozenset.updateFrom=U at hup ⊢
     wp_walk
     refine ybk hup (λ_ s' hq=>?_) λ_ _ z=>z;obtain⟨h',tk,rfl,hr⟩:=hq;exact yag ⟨rfl,h',tk,rfl,hr⟩
   . cases r₂ with
     | error e=>exact hr₂
     | ok fl₂ =>
      cases fl₂ with
      | ret r =>
       obtain⟨rfl,h',tk,rfl,hS'⟩:=hr₂
       repeat (any_goals (first | assumption | wp_step))
       exact h _ _ hS'
      | _=>exact hr₂.elim
  | _=>exact hr.elim
def ded(acc:List K)(k:K):List K:=if k∈acc then acc else acc++[k]
def deds(ks:List K):List K:=ks.foldl ded []
theorem zl0(ks:List K)(k:K):deds (ks++[k])=ded (deds ks) k:=by unfold deds;rw[ybA];rfl
theorem zs8(a:List K)(k:K):(ded a k).length<=a.length+1:=by
 unfold ded;split
 . omega
 . simp
theorem zsW{a:List K}{k x:K}:x∈ded a k↔x∈a\/x=k:=by
 unfold ded;split
 . rename_i h;exact⟨.inl,λz=>z.elim id λe=>e▸h⟩
 . simp
theorem znZ{x:K}:∀{ks a:List K},x∈ks.foldl ded a↔x∈a\/x∈ks
 | [],a=>by simp
 | k::r,a=>by rw[ybd,znZ (ks:=r),zsW,yat,or_assoc]
theorem zku{ks:List K}{x:K}:x∈deds ks↔x∈ks:=by unfold deds;rw[znZ];simp
theorem zuk{a:List K}{k:K}(h:a.Nodup):(ded a k).Nodup:=by
 unfold ded;split
 . exact h
 . rename_i hk;exact ybi.mpr ⟨h,by simp,λu hu v hv=>by rw[yaq.mp hv];intro z;rw[z]at hu;exact hk hu⟩
theorem zqw:∀{ks a:List K},a.Nodup->(ks.foldl ded a).Nodup
 | [],a,h=>h
 | k::r,a,h=>zqw (ks:=r) (zuk h)
theorem zqF(ks:List K):(deds ks).Nodup:=zqw ybO
theorem zn0:∀{ks a:List K},(ks.foldl ded a).length<=a.length+ks.length
 | [],a=>by simp
 | k::r,a=>by
  have:=zn0 (ks:=r) (a:=ded a k);have:=zs8 a k;simp only[ybd,yaP];omega
theorem zn5(ks:List K):(deds ks).length<=ks.length:=by have:=zn0 (ks:=ks) (a:=([]:List K));unfold deds;simpa using this
variable{R:Result->Shared->Prop}{I:Addr}{fp wr:List Addr}{G:Array GenState->Array GenState->Prop}{P:Nat->Value->Prop}{St:Nat->Shared->Prop}
theorem zra{ks:List K}(W:WalksS prog w A.in1 I fp wr G ks.length P St)(S:Addr)(hSf:S∉fp)(hP:∀i v,P i v->∃k,ks[i]?=some k/\knd.is k v=true/\v.scannable=true)(hb:ks.length+1 < scanBound) :
  ∀(m i:Nat) (s:Shared),ks.length - i=m->i<=ks.length->St i s->SetP knd s.heap S (deds (ks.take i)) ->
    (∀s',Moved (S::wr) G s s'->SetP knd s'.heap S (deds ks)->R (.ok (.ret .none)) s') ->
    codeAny (model prog w) A (.builtin "set.update.loop" ⟨[.ref S,.ref I],[]⟩) R s:=by
 have nw:S∉wr:=λz=>hSf (W.sub _ z);have up:∀b∈wr,b∈S::wr:=λb z=>yad _ z;intro m
 induction m with
 | zero =>
  intro i s hm hi st hS hR;have ei:i=ks.length:=by omega
  subst ei;refine ybS F.entry_set_update_loop ?_;rw[yby ycG _];refine yab (m:=pyNext (.ref I)) (W.done s _ _ st λs' mv=>yag (hR s' (mv.mono up) ?_));rw[yaG]at hS;exact hS.at λo e=>mv.heap S o nw e
 | succ m ih =>
  intro i s hm hi st hS hR;have hlt:i < ks.length:=by omega
  refine ybS F.entry_set_update_loop ?_;rw[yby ycG _];refine yab (m:=pyNext (.ref I)) (W.item i s _ _ hlt st λv s' pv st' mv=>?_);obtain⟨k,hk,his,hsc⟩:=hP i v pv;have hS1:SetP knd s'.heap S (deds (ks.take i)):=hS.at λo e=>mv.heap S o nw e;refine yab (m:=holding [v] (setAdd S v)) (ybw ?_);unfold setAdd;refine ybw (yab (knd.pyHash his ?_));have hlen:(deds (ks.take i)).length<=i:=yaA (zn5 _) (by rw[yaY];omega);refine zpw (s:={ s' with toks:=s'.toks+1 }) his hsc hS1 (by omega) λb h' sb hS2=>?_;have e:ks.take (i+1)=ks.take i++[k]:=by rw[yaD,hk];rfl
  have hS3:SetP knd h' S (deds (ks.take (i+1))):=by rw[e,zl0];exact hS2
  refine yag ⟨ycu ycG _,ih (i+1) _ (by omega) hlt (W.frame _ s' _ _ st' (ycM _) λb hb o eo=>?_) hS3 λs'' mv'' hS''=>?_⟩
  . rw[sb.2 b λz=>hSf (z▸hb)];exact eo
  . refine hR s'' (Moved.trans W.gtrans ((mv.mono up).then_heap (ycM _) λb o hb eo=>?_) mv'') hS'';rw[sb.2 b λz=>hb (z▸yac)];exact eo
end
end S6
end
section
namespace S6
open PySem PyProof.Rows
theorem sub_dict_set:isSubtype (.type "dict") (.type "set")=pure false:=by rw[ycR];kernel_rfl
theorem zj5:isSubtype (.type "dict") (.type "frozenset")=pure false:=by rw[ycR];kernel_rfl
section
variable{prog:Program}{w:World}{A:Around}{E:Value->Shared->Prop}{s:Shared}{K:Type}[DecidableEq K]{knd:KeyKind prog w K}
abbrev KVal(knd:KeyKind prog w K)(k:K)(v:Value):Prop:=knd.is k v=true/\v.scannable=true
theorem zr4{T:String}{v:Value}{Q:Bool->Shared->Prop}(hT:s.TypeIs v T)(h1:isSubtype (.type T) (.type "set")=pure false)(h2:isSubtype (.type T) (.type "frozenset")=pure false)(h:Q false s) :
  wpAny (model prog w) A (Builtin.Frozenset.isAnySet v) Q E s:=by
 unfold Builtin.Frozenset.isAnySet;refine yab (yc1 hT h1 ?_);exact yc1 hT h2 h
theorem zqx{S l:Addr}{items:Array Value}{ks:List K}(hh:A.handled=none)(hl:s.heap.IsList l items)(hS:SetP knd s.heap S [])(hne:S≠l)(hlen:items.size=ks.length)(hb:ks.length+1 < scanBound)
   (hv:∀(i:Nat) v,items[i]?=some v->∃k,ks[i]?=some k/\KVal knd k v) :
   wpAny (model prog w) A (Builtin.Frozenset.updateFrom "set.__init__" S (.ref l)) (λ_ s'=>∃h' tk,s'={ s with heap:=h',toks:=tk }/\SetP knd h' S (deds ks)/\∀b o,b≠S->s.heap.get? b=some o->h'.get? b=some o) E s:=by
 unfold Builtin.Frozenset.updateFrom;refine yab (zr4 hl.typeIs F.sub_list_set F.sub_list_frozenset ?_);simp only[yaX,ybV];refine yab (ycb hl.typeIs ?_);rw[yai (by decide)];refine yab (wpAny_pyIter_list hl ?_);refine yab (wpAny_runValue ?_);obtain⟨ol,hol,_⟩:=id hl;have hSl:S < s.heap.objs.size:=by obtain⟨_,_,o,_,_,_,e,_⟩:=hS;exact yau e
 have hSf:S∉[s.heap.objs.size,l]:=by
   intro z;rcases yat.mp z with z | z
   . exact absurd hSl (by rw[z];exact ybb _)
   . exact hne (yaq.mp z)
 have W:=(Walks.list (prog:=prog) (w:=w) (A:=A.in1) hh s.heap.objs.size l (yaI (yau hol)) items).toS;rw[hlen]at W;refine zra W S hSf hv hb ks.length 0 _ (by omega) (ya1 _) ⟨⟨_,yaC _ rfl,rfl,rfl⟩,hl.push _⟩ (hS.at λo e=>yae _ e) λs' mv hS'=>?_;obtain⟨h',g',d',tk',os'⟩:=s';have eg:g'=s.gens:=mv.gens;have ed:d'=s.drawn:=mv.drawn;have eo:os'=s.os:=mv.os;subst eg ed eo;refine yag ⟨h',tk',rfl,hS',λb o hb e=>mv.heap b o (λz=>?_) (yae _ e)⟩;rcases yat.mp z with z | z
 . exact hb z
 . have:=yaq.mp z;exact absurd (yau e) (by rw[this];exact ybb _)
theorem zqy{S d:Addr}{kvs:List (K×Value)}(lo:(d == sysModules)=false)(hd:s.heap.DictOf knd d kvs)(hS0:s.heap.get? S=some (set0 w))(h4:kvs.length<=4)
   (hv:∀p∈kvs,∀u,knd.is p.1 u=true->u.scannable=true) :
   wpAny (model prog w) A (Builtin.Frozenset.updateFrom "set.__init__" S (.ref d)) (λ_ s'=>∃h' tk,s'={ s with heap:=h',toks:=tk }/\SetP knd h' S (deds (kvs.map (·.1)))/\∀b o,b≠S->s.heap.get? b=some o->h'.get? b=some o) E s:=by
 have hT:=hd.typeIs (s:=s);obtain⟨o,es,ep,ho,hx,hod,hk,hp,hn⟩:=hd;have hne:d≠S:=λz=>by
   rw[z,hS0]at ho;cases ho;cases hod
 have hz:es.size=kvs.length:=by rw[<-hp.length];simp
 unfold Builtin.Frozenset.updateFrom;refine yab (zr4 hT sub_dict_set zj5 ?_);simp only[yaX,ybV];refine yab (ycb hT ?_);rw[yaj (by decide)];refine yab (ydp (yab (m:=Builtin.Frozenset.addrOf (.ref d)) (yag ?_)));rw[yai (by rw[lo];exact yam)];refine yab (wpAny_dictEpoch ho hod (yab (ydr ho hod (yab ?_))));unfold setRoomFor;refine yab (ybR hS0 rfl rfl ?_);have hroom:(SetTable.fresh 0 0 (!w.params.followText "set-order")).roomFor es.size=none:=by
   unfold SetTable.roomFor;rw[yai];show ¬((0+es.size) * 5 ≥ 7 * 3);omega
 dsimp only;rw[hroom];refine yag (yab (ydr ho hod (yab ?_)));rw[Std.Legacy.Range.forIn_eq_forIn_range'];simp only[Std.Legacy.Range.size,Nat.sub_zero,Nat.add_sub_cancel,Nat.div_one];have hlk:(kvs.map (·.1)).length=es.size:=by rw[yaa,hz]
 refine wpAny_forIn_list _ (λrest _ s'=>∃h' i,s'={ s with heap:=h' }/\rest=List.range' i (es.size - i)/\i<=es.size/\SetP knd h' S (deds ((kvs.map (·.1)).take i))/\Heap.SameBut S s.heap h') _ ?_ ?_ _ _
   ⟨s.heap,0,rfl,by simp,ya1 _,zpy hS0,Heap.SameBut.refl _ _⟩
 . rintro x rest b s' ⟨h',i,rfl,hr,hi,hS',sb⟩;have hlt:i < es.size:=by
    rcases ycC i es.size with z | z
    . exact z
    . rw[Nat.sub_eq_zero_of_le z]at hr;cases hr
   obtain⟨rfl,hrest⟩:x=i/\rest=List.range' (i+1) (es.size - (i+1)):=by
    rw[show es.size - i=(es.size - (i+1))+1 by omega,List.range'_succ]at hr;injection hr with q1 q2
    exact⟨q1,q2⟩
   have ho':h'.get? d=some o:=(sb.2 d hne).trans ho;refine yab (ydr (s:={ s with heap:=h' }) ho' hod ?_);rw[yaM hlt];obtain⟨⟨k,v⟩,hkv⟩:∃kv,kvs[x]?=some kv:=⟨kvs[x]'(by rw[<-hz];exact hlt),yax _⟩
   have his:=(hp.get? (e:=es[x]) (by simp[hlt]) hkv).1;obtain⟨k',his',hh'⟩:=hk es[x] (Array.getElem_mem hlt);obtain rfl:k'=k:=knd.inj _ _ _ his' his;have hsc:=hv (k',v) (yaS hkv) _ his;have hke:(kvs.map (·.1))[x]?=some k':=by rw[yak,hkv];rfl
   have hlen:(deds ((kvs.map (·.1)).take x)).length<=x:=yaA (zn5 _) (by rw[yaY];omega);refine yab (ybw ?_);rw[hh'];refine zpw (s:={ s with heap:=h' }) his hsc hS' (by unfold scanBound;omega) λb2 h2 sb2 hS2=>?_;have ho2:h2.get? d=some o:=(sb2.2 d hne).trans ho';refine yab (wpAny_dictEpoch (s:={ s with heap:=h2 }) ho2 hod ?_);rw[yai (by simp)];refine yag ⟨h2,x+1,rfl,hrest,hlt,?_,sb.trans sb2⟩;rw[yaD,hke];show SetP knd h2 S (deds ((kvs.map (·.1)).take x++[k']));rw[zl0];exact hS2
 . rintro b s' ⟨h',i,rfl,hr,hi,hS',sb⟩;have ei:i=es.size:=by
    rcases ycC i es.size with z | z
    . rw[show es.size - i=(es.size - (i+1))+1 by omega,List.range'_succ]at hr;cases hr
    . omega
   rw[ei,<-hlk,yaG]at hS';exact yag ⟨h',s.toks,rfl,hS',λb o hb e=>(sb.2 b hb).trans e⟩
end
end S6
end
section
namespace S6
open PySem PyProof.Rows
theorem zcn:Slot "set_iterator" "__next__" "set_iterator.__next__" :=
 Slot.of (owner := "set_iterator") (n := "__next__")
  (by rw[ydU,ycT];kernel_rfl) (by decide +kernel)
  (by decide +kernel) (by decide +kernel)
  (by first | exact .inl (by decide +kernel) | exact .inr (by decide +kernel))
  (by rw[ycR];kernel_rfl)
theorem zgu : entryFor table "set_iterator.__next__" = some Builtin.«set_iterator.__next__» :=
 entryFor_of_tree (by kernel_rfl)
theorem zhq(a:Value):argsOk "set_iterator.__next__" ⟨[a],[]⟩:=by
 unfold argsOk;kernel_rfl
theorem zlW : entryFor table "set.__iter__" = some Builtin.«frozenset.__iter__» :=
 entryFor_alias (id' := "frozenset.__iter__") (by kernel_rfl) rfl
  (by decide +kernel) (by kernel_rfl)
def byT(w:World):Bool:=w.params.followText "set-order"
def itO(first:Value)(i:Nat)(a:Addr)(n ep:Nat):Obj:={ cls:=.type "set_iterator",data:=.fields #[first,.int i 0,.ref a,.int n 0,.int ep 0] }
def Mode(w:World)(es:Array (Int×Value))(ep:Nat)(t:SetTable)(vs:List Value)(a it p:Addr)(i:Nat)(h:Heap)(first:Value):Prop :=
 (byT w=true/\(∃sl:Nat,first=.int sl 0)/\vs=(pickOrder (w.params.setOrder a ep) es).toList.map (·.2)) \/
 (byT w=false/\first=.ref p/\p≠it/\∃ps:List Nat,h.get? p=some { cls:=.type "tuple",data:=.seq (ps.map λ(n:Nat)=>Value.int n 0).toArray }/\vs=ps.filterMap (λj=>(es[j]?).map (·.2))/\ps.Perm (List.range es.size)) \/
 (byT w=false/\t.led=true/\(t.plain=true\/es.size<=1)/\Rise t.place/\first=.int (slotAt t.place i:Nat) 0/\vs=es.toList.map (·.2))
def SIt(w:World)(es:Array (Int×Value))(ep:Nat)(t:SetTable)(vs:List Value)(a it p:Addr)(i:Nat)(h:Heap):Prop :=
 (∃o,h.get? a=some o/\o.ExactSet/\o.data=.set es ep t)/\∃first,h.get? it=some (itO first i a es.size ep)/\Mode w es ep t vs a it p i h first
section
variable{prog:Program}{w:World}{A:Around}{E:Value->Shared->Prop}{s:Shared}
theorem zo8{a:Addr}{o:Obj}{es:Array (Int×Value)}{ep:Nat}{t:SetTable}{Q:Array (Int×Value)->Shared->Prop}(ho:s.heap.get? a=some o)(hd:o.data=.set es ep t)(hf:t.fits es.size=true)(hb:byT w=true)
  (h:Q (pickOrder (w.params.setOrder a ep) es) s):wpAny (model prog w) A (setWalk a) Q E s:=by
 unfold setWalk setsByText;refine yab (ybR ho hd hf ?_);dsimp only;refine yab (yab (ych (yag ?_)));show wpAny _ _ (if byT w=true then _ else _) _ _ _;rw[yaj hb];exact yab (ych (yag h))
theorem zlD{a:Addr}{o:Obj}{es:Array (Int×Value)}{ep slot i:Nat}{t:SetTable}{Q:Option (Value×Nat)->Shared->Prop}(ho:s.heap.get? a=some o)(hd:o.data=.set es ep t)(hf:t.fits es.size=true)(hb:byT w=true)
  (h:Q (((pickOrder (w.params.setOrder a ep) es)[i]?).map λe=>(e.2,slot)) s):wpAny (model prog w) A (setNext a slot i ep) Q E s:=by
 unfold setNext setsByText;refine yab (ybR ho hd hf ?_);dsimp only;refine yab (yab (ych (yag ?_)));show wpAny _ _ (if byT w=true then _ else _) _ _ _;rw[yaj hb,yai (by simp)];exact yab (zo8 ho hd hf hb (yag h))
theorem zjC{a:Addr}{o:Obj}{es:Array (Int×Value)}{ep slot i:Nat}{t:SetTable}{Q:Option (Value×Nat)->Shared->Prop}(ho:s.heap.get? a=some o)(hd:o.data=.set es ep t)(hf:t.fits es.size=true)(hb:byT w=false)(hl:t.led=true)(hz:t.plain=true\/es.size<=1)
  (h:Q (match es[SetTable.below t.place slot]?,t.place[SetTable.below t.place slot]? with | some (_,x),some j=>some (x,j+1) | _,_=>none) s):wpAny (model prog w) A (setNext a slot i ep) Q E s:=by
 unfold setNext setsByText;refine yab (ybR ho hd hf ?_);dsimp only;refine yab (yab (ych (yag ?_)));show wpAny _ _ (if byT w=true then _ else _) _ _ _;rw[yai (by rw[hb];exact yam)];show wpAny _ _ (if (!t.plain && decide (es.size > 1))=true then _ else _) _ _ _;have hnd:¬((!t.plain && decide (es.size > 1))=true):=by
  rcases hz with z | z
  . simp[z]
  . simp;omega
 rw[yai hnd];refine yab ?_;show wpAny _ _ (if (!t.led && !es.isEmpty)=true then _ else _) _ _ _;rw[yai (by simp[hl])];exact yag (yag h)
theorem zsA{es:Array (Int×Value)}{ep:Nat}{t:SetTable}{vs:List Value}{a it p:Addr}{i:Nat}{v:Value}{Q:Option Value->Shared->Prop}(hf:t.fits es.size=true)(st:SIt w es ep t vs a it p i s.heap)(hne:a≠it)(hv:vs[i]?=some v)
   (h:∀h',SIt w es ep t vs a it p (i+1) h'->Heap.SameBut it s.heap h'->Q (some v) { s with heap:=h' }):wpAny (model prog w) A (pyNext (.ref it)) Q E s:=by
 obtain⟨⟨o,ho,hx,hd⟩,first,hit,md⟩:=st;have hT:s.TypeIs (.ref it) "set_iterator" := ⟨_,hit,rfl⟩
 unfold pyNext;refine yab (wpAny_attempt (yce (name:=Str.ofString "__next__") hT zcn (ybK zcn hT zgu ?_ (zhq _))));unfold Builtin.«set_iterator.__next__»;refine yab (m:=slotArgs "__next__" 0 _) (yag ?_);refine yab (wpAny_fieldsOf hit rfl ?_);dsimp only;refine yab (yc9 ho hd hf ?_);rw [yai (by simp)];have upd1:∀ (h1:Heap) (f1:Value),h1.get? it=some (itO f1 i a es.size ep)->(h1.update it (Obj.mapFields (·.setIfInBounds 1 (rawInt ((i:Int)+1))))).get? it=some (itO f1 (i+1) a es.size ep):=λ h1 f1 e=>by
   rw[ybE _ e rfl];rfl
 have upd0:∀(h1:Heap) (f1 f2:Value),h1.get? it=some (itO f1 i a es.size ep)->(h1.update it (Obj.mapFields (·.setIfInBounds 0 f2))).get? it=some (itO f2 i a es.size ep):=λh1 f1 f2 e=>by
   rw[ybE _ e rfl];rfl
 have oth:∀(h1:Heap) (f:Obj->Obj) (b:Addr),b≠it->(h1.update it f).get? b=h1.get? b:=λh1 f b hb=>ya5 _ _ (ybn hb);rcases md with ⟨hb,⟨sl,rfl⟩,hvs⟩ | ⟨hb,rfl,hpi,ps,hps,hvs,hperm⟩ | ⟨hb,hled,hz,hri,rfl,hvs⟩
 . dsimp only;simp only[yb5];refine yab (zlD ho hd hf hb ?_);have e1:(pickOrder (w.params.setOrder a ep) es)[i]?.map (·.2)=some v:=by
    rw[hvs,yak,ybF]at hv;exact hv
   cases e2:(pickOrder (w.params.setOrder a ep) es)[i]? with
   | none=>rw[e2]at e1;cases e1
   | some q =>
    rw[e2]at e1;have e3:q.2=v:=yaL e1;show wpAny _ _ (setField (.ref it) 0 _ >>= _) _ _ _;refine yab (ycj hit rfl (by simp) ?_);refine yab (ycj (upd0 _ _ _ hit) rfl (by simp) ?_);refine yag ⟨_,rfl,yag ?_⟩;rw[e3];refine h _ ⟨⟨o,by rw[oth _ _ _ hne,oth _ _ _ hne];exact ho,hx,hd⟩,_,upd1 _ _ (upd0 _ _ _ hit),.inl ⟨hb,⟨_,rfl⟩,hvs⟩⟩ ((ybB ..).trans (ybB ..))
 . dsimp only;refine yab (wpAny_seqItems hps rfl ?_);dsimp only;have all:∀j∈ps,j < es.size:=λj hj=>yaV.mp (hperm.mem_iff.mp hj);have fm:∀l:List Nat,(∀j∈l,j < es.size)->l.filterMap (λj=>(es[j]?).map (·.2))=l.map λj=>(es[j]?.map (·.2)).getD .none:=λl=>by
    induction l with
    | nil=>intro _;rfl
    | cons j r ih =>
     intro hl;have hj:=hl j yac;rw[ybg,yaK,ih λx hx=>hl x (yad _ hx),yaM hj]
     rfl
   rw[hvs,fm ps all,yak]at hv;cases e2:ps[i]? with
   | none=>rw[e2]at hv;cases hv
   | some j =>
    rw[e2]at hv;have hj:=all j (yaS e2);have e3:((ps.map λ(n:Nat)=>Value.int n 0).toArray)[((i:Nat):Int).toNat]?=some (Value.int (j:Int) 0):=by
     rw[ydV,yak];show Option.map _ ps[i]?=_;rw[e2];rfl
    rw[e3];dsimp only;have hv':es[j].2=v:=by
     have:=yaL hv;dsimp only at this;rw[yaM hj]at this;exact this
    unfold setNextDrawn;refine yab (yab (ybR ho hd hf ?_));dsimp only;rw[yai (by simp),show es[((j:Nat):Int).toNat]?=some es[j] from yaM hj];refine yag ?_;refine yab (ycj hit rfl (by simp) ?_);refine yag ⟨_,rfl,yag ?_⟩;show Q (some es[j].2) _;rw[hv'];exact h _ ⟨⟨o,by rw[oth _ _ _ hne];exact ho,hx,hd⟩,_,upd1 _ _ hit,.inr (.inl ⟨hb,rfl,hpi,ps,by rw[oth _ _ _ hpi];exact hps,hvs,hperm⟩)⟩ (ybB ..)
 . dsimp only;have hi:i < es.size:=by
    have:=(yar.mp hv).1;rw[hvs,yaa,yaO]at this;exact this
   have hps:t.place.size=es.size:=by
    have:=hf;simp only[SetTable.fits,ybc,yb6]at this;exact this.1
   have hip:i < t.place.size:=by omega
   refine yab (zjC ho hd hf hb hled hz ?_);have hv':es[i].2=v:=by
    rw[hvs,yak,ybF,yaM hi]at hv;exact yaL hv
   rw[yb5,below_at hri (by omega),yaM hi,yaM hip];show wpAny _ _ (setField (.ref it) 0 (rawInt ((t.place[i]+1:Nat):Int)) >>= _) _ _ _;refine yab (ycj hit rfl (by simp) ?_);refine yab (ycj (upd0 _ _ _ hit) rfl (by simp) ?_);refine yag ⟨_,rfl,yag ?_⟩;show Q (some es[i].2) _;rw[hv'];refine h _ ⟨⟨o,by rw[oth _ _ _ hne,oth _ _ _ hne];exact ho,hx,hd⟩,_,upd1 _ _ (upd0 _ _ _ hit),.inr (.inr ⟨hb,hled,hz,hri,?_,hvs⟩)⟩ ((ybB ..).trans (ybB ..));unfold slotAt;rw[yai (Nat.succ_ne_zero _),Nat.add_sub_cancel];simp[Array.getD,hip,rawInt]
theorem ztN{es:Array (Int×Value)}{ep:Nat}{t:SetTable}{vs:List Value}{a it p:Addr}{Q:Option Value->Shared->Prop}(hh:A.handled=none)(hf:t.fits es.size=true)(st:SIt w es ep t vs a it p vs.length s.heap)(hne:a≠it)
   (h:∀h',Heap.ExtBut it s.heap h'->Q none { s with heap:=h' }):wpAny (model prog w) A (pyNext (.ref it)) Q E s:=by
 obtain⟨⟨o,ho,hx,hd⟩,first,hit,md⟩:=st;have hT:s.TypeIs (.ref it) "set_iterator" := ⟨_,hit,rfl⟩
 unfold pyNext;refine yab (wpAny_attempt (yce (name:=Str.ofString "__next__") hT zcn (ybK zcn hT zgu ?_ (zhq _))));unfold Builtin.«set_iterator.__next__»;refine yab (m:=slotArgs "__next__" 0 _) (yag ?_);refine yab (wpAny_fieldsOf hit rfl ?_);dsimp only;refine yab (yc9 ho hd hf ?_);rw [yai (by simp)];have stop:∀ (h1:Heap) (f1:Value),Heap.ExtBut it s.heap h1->h1.get? it=some (itO f1 vs.length a es.size ep) ->
    wpAny (model prog w) A.in1 (do
     setField (.ref it) 2 Value.none
     let e <-newExc (.type "StopIteration") []
     raiseNew e:Sem Fin)
     (λfin s'=>∃v,fin=Fin.done (Flow.ret v)/\wpAny (model prog w) A (pure (some v)) Q E s')
     (λe s'=>wpAny (model prog w) A (do
      let b <-isInstance e (Value.type "StopIteration")
      if b=true then pure none else throw e) Q E s') { s with heap:=h1 }:=λh1 f1 x1 e1=>by
   refine yab (ycj e1 rfl (by simp) (yab ?_));simp only[newExc,newTuple];refine yab (ybs ?_ (by size_fits));refine yab (m:=firstArgMember _ _) (wpAny_of_eq (a:=Value.none) (by first | rfl | (simp only[firstArgMember];rfl)) ?_);refine ybs ?_ (by size_fits);simp only[raiseNew];refine yab (wpAny_handled ?_);rw[show A.in1.handled=none from hh];refine yab (yag (wpAny_throw ?_));refine yab (yc1 (T := "StopIteration") (b:=true) ⟨_,yaC _ rfl,rfl⟩ isSubtype_stop ?_);refine yag (h _ λb ob hb q=>?_);exact yae _ (yae _ ((ya5 _ _ (ybn hb)).trans (x1 b ob hb q)))
 have ext0:Heap.ExtBut it s.heap s.heap:=λb ob _ q=>q;rcases md with ⟨hb,⟨sl,rfl⟩,hvs⟩ | ⟨hb,rfl,hpi,ps,hps,hvs,hperm⟩ | ⟨hb,hled,hz,hri,rfl,hvs⟩
 . dsimp only;simp only[yb5];refine yab (zlD ho hd hf hb ?_);have e1:(pickOrder (w.params.setOrder a ep) es)[vs.length]?=none:=by
    rw[Array.getElem?_eq_none_iff,hvs,yaa,yaO];exact yaf _
   rw[e1];exact stop _ _ ext0 hit
 . dsimp only;refine yab (wpAny_seqItems hps rfl ?_);dsimp only;have all:∀j∈ps,j < es.size:=λj hj=>yaV.mp (hperm.mem_iff.mp hj);have fm:∀l:List Nat,(∀j∈l,j < es.size)->(l.filterMap (λj=>(es[j]?).map (·.2))).length=l.length:=λl=>by
    induction l with
    | nil=>intro _;rfl
    | cons j r ih =>
     intro hl;have hj:=hl j yac;rw[ybg,yaM hj];simp only[ycr,yaP];rw[ih λx hx=>hl x (yad _ hx)]
   have e3:((ps.map λ(n:Nat)=>Value.int n 0).toArray)[((vs.length:Nat):Int).toNat]?=none:=by
    rw[ydV,yb5,ybZ,yaa,hvs,fm ps all];exact yaf _
   rw[e3];dsimp only;refine yab (ycj hit rfl (by simp) ?_);refine stop _ (rawInt 0) (λb ob hb q=>(ya5 _ _ (ybn hb)).trans q) ?_;rw[ybE _ hit rfl];rfl
 . dsimp only;refine yab (zjC ho hd hf hb hled hz ?_);have hps:t.place.size=es.size:=by
    have:=hf;simp only[SetTable.fits,ybc,yb6]at this;exact this.1
   have hlen:vs.length=es.size:=by rw[hvs,yaa,yaO]
   have none1:es[SetTable.below t.place (slotAt t.place vs.length)]?=none:=by
    rw[below_at hri (by omega),hlen];simp
   rw[yb5];rw[none1];exact stop _ _ ext0 hit
end
end S6
end
section
namespace S6
open PySem PyProof.Rows
def Kept(h h':Heap):Prop:=∀b o,h.get? b=some o->h'.get? b=some o
section
variable{prog:Program}{w:World}{A:Around}{E:Value->Shared->Prop}{s:Shared}
theorem zpv{a:Addr}{o:Obj}{es:Array (Int×Value)}{ep:Nat}{t:SetTable}{Q:Bool->Shared->Prop}(ho:s.heap.get? a=some o)(hd:o.data=.set es ep t)(hf:t.fits es.size=true)
  (h:Q (!byT w && (!t.plain && decide (es.size > 1))) s):wpAny (model prog w) A (setDrawn a) Q E s:=by
 unfold setDrawn setsByText;refine yab (ybR ho hd hf ?_);dsimp only;refine yab (yab (ych (yag ?_)));exact yag h
theorem zot{a:Addr}{o:Obj}{es:Array (Int×Value)}{ep:Nat}{t:SetTable}{Q:Value->Shared->Prop}(ho:s.heap.get? a=some o)(hx:o.ExactSet)(hd:o.data=.set es ep t)(hT:SetT w t es.size)(hz:es.size<=sizeLine)
  (h:∀(it p:Addr) (vs:List Value) h' d,SIt w es ep t vs a it p 0 h'->vs.Perm (es.toList.map (·.2))->Kept s.heap h'->s.heap.objs.size<=it->(p < it\/p=0)->(s.heap.objs.size<=p\/p=0)->Q (.ref it) { s with heap:=h',drawn:=d }) :
  wpAny (model prog w) A (pyIter (.ref a)) Q E s:=by
 have hTy:s.TypeIs (.ref a) "set" := ⟨o,ho,hx.1⟩
 refine wpAny_pyIter_slot hTy F.slot_set_iter (ybK F.slot_set_iter hTy zlW ?_ (F.args_set_iter_1 _));unfold Builtin.«frozenset.__iter__» Builtin.Frozenset.slot0 slotArgs;simp only [List.isEmpty_nil,Bool.not_true,yaX,↓reduceIte,bind_assoc,yb3,bne_self_eq_false];unfold Builtin.Frozenset.addrOf Builtin.Frozenset.sizeOf;refine yab (yag ?_)
 try dsimp only
 refine yab (yag ?_);refine yab (yab (yc9 ho hd hT.fits (yag ?_)));have made:∀(first:Value) (h1:Heap) (d1:Drawn) (p:Addr) (vs:List Value),h1.get? a=some o->Mode w es ep t vs a h1.objs.size p 0 (h1.push (itO first 0 a es.size ep)) first->vs.Perm (es.toList.map (·.2))->Kept s.heap h1->s.heap.objs.size<=h1.objs.size->(p < h1.objs.size\/p=0)->(s.heap.objs.size<=p\/p=0) ->
    wpAny (model prog w) A.in1 (do
     let ep' <-setEpoch a
     let r <-newFields "set_iterator" [first,rawInt 0,Value.ref a,rawInt (es.size:Nat),rawInt (ep':Nat)]
     ret r) (λfin s'=>∃r,fin=.done (.ret r)/\∃T' x,s'.TypeIs r T'/\typeLookup (.type T') "__next__" = pure (some x)/\Q r s') E { s with heap:=h1,drawn:=d1 }:=λfirst h1 d1 p vs ha md pm kp hs h3 h4=>by
  refine yab (wpAny_setEpoch_of ha hd hT.fits ?_);unfold newFields;refine yab (ybs ?_ (by first | size_fits | exact trivial));refine yag ⟨_,rfl,"set_iterator",_,⟨_,yaC _ rfl,rfl⟩,zcn.lookup,?_⟩;refine h h1.objs.size p vs _ d1 ⟨⟨o,yae _ ha,hx,hd⟩,first,yaC _ rfl,md⟩ pm (λb ob q=>yae _ (kp b ob q)) hs h3 h4
 refine yab (zpv ho hd hT.fits ?_);cases hb:byT w with
 | true =>
  simp only[Bool.not_true,Bool.false_and,yaX,ybV];refine yab (yag ?_);exact made (rawInt 0) s.heap s.drawn 0 _ ho (.inl ⟨hb,⟨0,rfl⟩,rfl⟩) ((zrl _ es).map _) (λ_ _ q=>q) (yaf _) (.inr rfl) (.inr rfl)
 | false =>
  by_cases hsz:t.plain=false/\es.size > 1
  . obtain⟨hp,hsz⟩:=hsz;have:(!false && (!t.plain && decide (es.size > 1)))=true:=by rw[hp];simp[hsz]
    rw[this];simp only[yb2];refine yab (znu es.size (List.range es.size) _ _ (by simp) λys d pm=>?_);refine yab (wpAny_newTuple ?_ (by rw[yaa,pm.length_eq,ya6];exact hz));have fm:∀l:List Nat,(∀j∈l,j < es.size)->l.filterMap (λj=>(es[j]?).map (·.2))=l.map λj=>(es[j]?.map (·.2)).getD .none:=λl=>by
     induction l with
     | nil=>intro _;rfl
     | cons j r ih =>
       intro hl;have hj:=hl j yac;rw[ybg,yaK,ih λx hx=>hl x (yad _ hx),yaM hj]
       rfl
    have rng:(List.range es.size).filterMap (λj=>(es[j]?).map (·.2))=es.toList.map (·.2):=by
     have e1:=filterMap_getElem?_range es;rw[<-e1,List.map_filterMap]
    have ltS:s.heap.objs.size < (s.heap.push { cls:=.type "tuple",data:=.seq (ys.map λ(n:Nat)=>rawInt n).toArray }).objs.size:=by rw[ydj];exact yc2 _
    refine made (.ref s.heap.objs.size) _ d s.heap.objs.size (ys.filterMap λj=>(es[j]?).map (·.2)) (yae _ ho) (.inr (.inl ⟨hb,rfl,yaI ltS,ys,yae _ (yaC _ rfl),rfl,pm⟩)) ?_ (λb ob q=>yae _ q) (yco ltS) (.inl ltS) (.inl (yaf _));rw[<-rng];exact pm.filterMap _
  . have hz':t.plain=true\/es.size<=1:=by
     cases e:t.plain with
     | true=>exact .inl rfl
     | false=>exact .inr (yc0 λz=>hsz ⟨e,z⟩)
    have hri:Rise t.place:=by
     rcases hz' with z | z
     . exact hT.rise z
     . refine Rise.small ?_;have:=hT.fits;simp only[SetTable.fits,ybc,yb6]at this;rw[this.1];exact z
    have:(!false && (!t.plain && decide (es.size > 1)))=false:=by
     rcases hz' with z | z
     . simp[z]
     . simp;omega
    rw[this];simp only[yaX,ybV];refine yab (yag ?_);exact made (rawInt 0) s.heap s.drawn 0 _ ho (.inr (.inr ⟨hb,hT.led hb,hz',hri,rfl,rfl⟩)) (.refl _) (λ_ _ q=>q) (yaf _) (.inr rfl) (.inr rfl)
theorem zpu{es:Array (Int×Value)}{ep:Nat}{t:SetTable}{vs:List Value}{a it p:Addr}(hh:A.handled=none)(hf:t.fits es.size=true)(hne:a≠it):Walks prog w A it [it,a,p] [it] vs.length (λi v=>vs[i]?=some v) (λi h=>SIt w es ep t vs a it p i h) where
 sub:=λb hb=>by simp at hb;simp[hb]
 frame:=λi h h' st hk=>by
  obtain⟨⟨o,ho,hx,hd⟩,first,hit,md⟩:=st;refine⟨⟨o,hk a (by simp) o ho,hx,hd⟩,first,hk it (by simp) _ hit,?_⟩;rcases md with md | ⟨hb,e,hpi,ps,hps,r⟩ | md
  . exact .inl md
  . exact .inr (.inl ⟨hb,e,hpi,ps,hk p (by simp) _ hps,r⟩)
  . exact .inr (.inr md)
 item:=λi s Q E hi st hQ=>by
  obtain⟨v,hv⟩:∃v,vs[i]?=some v:=⟨_,yax hi⟩
  exact zsA hf st hne hv λh' st' sb=>hQ v h' s.toks hv st' λb o hb e=>(sb.2 b (by simpa using hb)).trans e
 done:=λs Q E st hQ=>ztN hh hf st hne λh' x=>hQ h' s.toks λb o hb e=>x b o (by simpa using hb) e
 self:=λi s Q E st hQ=>by
  obtain⟨_,first,hit,_⟩:=st;have hT:s.TypeIs (.ref it) "set_iterator" := ⟨_,hit,rfl⟩
  have sl:Slot "set_iterator" "__iter__" "set_iterator.__iter__" :=
    Slot.of (owner := "set_iterator") (n := "__iter__")
     (by rw[ydU,ycT];kernel_rfl) (by decide +kernel)
     (by decide +kernel) (by decide +kernel)
     (by first | exact .inl (by decide +kernel) | exact .inr (by decide +kernel))
     (by rw[ycR];kernel_rfl)
  have en : entryFor table "set_iterator.__iter__" = some Builtin.«dict_keyiterator.__iter__» :=
    entryFor_alias (id' := "dict_keyiterator.__iter__") (by kernel_rfl) rfl
     (by decide +kernel) (by kernel_rfl)
  have ar:∀a:Value,argsOk "set_iterator.__iter__" ⟨[a],[]⟩:=λa=>by unfold argsOk;kernel_rfl
  refine wpAny_pyIter_slot hT sl (ybK sl hT en ?_ (ar _));show wpAny _ _ (ret (.ref it)) _ _ s;exact yag ⟨_,rfl,"set_iterator",_,hT,zcn.lookup,hQ⟩
end
end S6
end
section
namespace S6
open PySem PyProof.Rows
section
variable{prog:Program}{w:World}{A:Around}{E:Value->Shared->Prop}{s:Shared}
theorem zrz{r:Addr}{Q:Bool->Shared->Prop}(hT:s.TypeIs (.ref r) "set")(h:Q false s):wpAny (model prog w) A (Builtin.List.listLengthHint (.ref r)) Q E s:=by
 unfold Builtin.List.listLengthHint;refine yab (wpAny_specialOf hT F.slot_set_len.lookup ?_);generalize hid:("set.__len__" : String)=id0
 wp_delta
 rw[show splitId id0=some ("set","__len__") from by subst hid;decide +kernel];subst hid;refine yab (yc1 (T := "set") (b:=true) hT (by rw[ycR];kernel_rfl) ?_);refine ydW (λhab=>absurd hab (by decide)) (λ_=>?_);refine ydW (λ_=>?_) (λhab=>absurd (by decide +kernel) hab);exact yab (ycb hT (yag h))
theorem zoG{P:Nat->Value->Prop}{vs:List Value}{acc:Array Value}(hP:∀i v,P i v->vs[i]?=some v)(h:ItemsOf P acc vs.length):acc.toList=vs:=by
 refine List.ext_getElem? λi=>?_;cases e:acc.toList[i]? with
 | none =>
  rw[ybZ,yaO,h.1]at e;rw[ybZ.mpr e]
 | some v=>exact(hP i v (h.2 i v (by rw[<-ybF];exact e))).symm
variable{K:Type}[DecidableEq K]{knd:KeyKind prog w K}
theorem zmp{a:Addr}{ks:List K}{R:List Value->Shared->Prop}(hh:A.handled=none)(hS:SetP knd s.heap a ks)
   (h:∀h' tk d (vs:List Value) (ys:List K),ys.Perm ks->Paired (λv k=>knd.is k v=true) vs ys->Kept s.heap h'->R vs { s with heap:=h',toks:=tk,drawn:=d }):wpAny (model prog w) A (collect (.ref a)) R E s:=by
 obtain⟨ks',pk,o,es,ep,t,ho,hx,hd,hel,hnd,hb,hT⟩:=hS;have hl:es.size=ks'.length:=by rw[<-yaO];exact hel.length
 have hz:es.size<=sizeLine:=by rw[hl];exact ydq hb
 have pv:Paired (λv k=>knd.is k v=true) (es.toList.map (·.2)) ks':=by
   clear hl hz hd hT
   generalize es.toList=l at hel
   clear hb hnd pk
   induction hel with
   | nil=>exact .nil
   | cons r _ ih=>exact .cons r.1.1 ih
 unfold collect;refine yab (wpAny_runValue (ybS F.entry_proto_collect ?_));rw[yby F.plain_proto_collect _];show wpAny _ A.in1 (newList [] >>= λl=>again (.builtin "list.__iadd__" ⟨[l,.ref a],[]⟩)) _ _ s;refine yab (ybs ?_);refine yag ⟨ycu F.plain_list_iadd _,ybS F.entry_list_iadd ?_⟩;rw[yby F.plain_list_iadd _];generalize hg0:s.heap.push { cls:=.type "list",data:=.seq ([]:List Value).toArray }=g0;have k0:Kept s.heap g0:=λb ob q=>by rw[<-hg0];exact yae _ q
 have l0:g0.get? s.heap.objs.size=some { cls:=.type "list",data:=.seq #[] }:=by rw[<-hg0];exact yaC _ rfl
 have hsa:s.heap.objs.size≠a:=ydf (yau ho);show wpAny _ A.in1 (Builtin.List.listExtendWith (.ref s.heap.objs.size) (.ref a) (.ref s.heap.objs.size)) _ _ _;have fin:∀(vs:List Value),vs.Perm (es.toList.map (·.2))->∀(h':Heap) (tk:Nat) (d:Drawn) (acc:Array Value) (c:Nat),Kept s.heap h'->h'.get? s.heap.objs.size=some { cls:=.type "list",dict:=none,data:=.seq acc c,slots:=#[] }->acc.toList=vs ->
     wpAny (model prog w) A (do
       match (<-load s.heap.objs.size).data with
       | .seq xs _=>pure xs.toList
       | _=>unsupported "internal:collect") R E { s with heap:=h',toks:=tk,drawn:=d }:=λvs pm h' tk d acc c kp e ea=>by
   refine yab (wpAny_load e (yag ?_));obtain⟨ys,py,hy⟩:=zii (ea▸pm:acc.toList.Perm (es.toList.map (·.2))) pv;exact h h' tk d _ ys (py.trans pk) hy kp
 unfold Builtin.List.listExtendWith;have ho0:g0.get? a=some o:=k0 a o ho;have hT0:Shared.TypeIs { s with heap:=g0 } (.ref a) "set" := ⟨o,ho0,hx.1⟩
 refine yab (ycb hT0 ?_);have n1:Builtin.List.listSameRef (.ref s.heap.objs.size) (.ref a)=false:=by simp[Builtin.List.listSameRef,hsa]
 have n2:(Value.type "set" == Value.type "list")=false:=by decide
 have n3:(Value.type "set" == Value.type "tuple")=false:=by decide
 simp only[n1,n2,n3,Bool.or_false,yaX,ybV];refine yab (zot (s:={ s with heap:=g0 }) ho0 hx hd hT hz λit p vs h1 d st pm k1 hit hp1 hp2=>?_);have sz0:s.heap.objs.size < g0.objs.size:=yau l0;have hSf:s.heap.objs.size∉[it,a,p]:=by
   intro z;rcases yat.mp z with z | z
   . have:g0.objs.size<=it:=hit;omega
   . rcases yat.mp z with z | z
     . exact hsa z
     . have z':=yaq.mp z;rcases hp2 with q | q
       . have:g0.objs.size<=p:=q;omega
       . have:=yau ho;rw[z',q]at this;exact absurd this (ycp _)
 have hne:a≠it:=yaI (yaH (yau ho0) hit);have l1:=k1 _ _ l0;have W:=zpu (prog:=prog) (w:=w) (A:=A.in1) (es:=es) (ep:=ep) (t:=t) (vs:=vs) (a:=a) (it:=it) (p:=p) hh hT.fits hne;have hvl:vs.length<=sizeLine:=by rw[pm.length_eq,yaa,yaO];exact hz
 have key:∀(h2:Heap) (c1:Nat),SIt w es ep t vs a it p 0 h2->(∀b ob,b≠s.heap.objs.size->s.heap.get? b=some ob->h2.get? b=some ob)->h2.get? s.heap.objs.size=some { cls:=.type "list",data:=.seq #[] c1 } ->
     codeAny (model prog w) A (.builtin "list.extend.loop" ⟨[.ref s.heap.objs.size,.ref it,.ref s.heap.objs.size],[]⟩)
       (λq s'=>∃(h':Heap) (tk:Nat) (acc':Array Value) (c':Nat),q=.ok (.ret (.ref s.heap.objs.size))/\s'={ s with heap:=h',toks:=tk,drawn:=d }/\Kept s.heap h'/\h'.get? s.heap.objs.size=some { cls:=.type "list",dict:=none,data:=.seq acc' c',slots:=#[] }/\acc'.toList=vs)
       { s with heap:=h2,drawn:=d }:=λh2 c1 st2 k2 l2=>by
   refine codeAny_extend_loopS W.toS hvl s.heap.objs.size hSf (.ref s.heap.objs.size) vs.length 0 _ #[] c1 (by omega) (ya1 _) st2 l2 (ItemsOf.nil _) λs' acc' c' hm hS' hacc=>?_;obtain⟨h3,g3,d3,tk3,os3⟩:=s';have eg:g3=s.gens:=hm.gens;have ed:d3=d:=hm.drawn;have eo:os3=s.os:=hm.os;subst eg ed eo;refine⟨h3,tk3,acc',c',rfl,rfl,λb ob q=>?_,hS',zoG (λ_ _ z=>z) hacc⟩;have hb1:b≠s.heap.objs.size:=yaI (yau q);refine hm.heap b ob (λz=>?_) (k2 b ob hb1 q);rcases yat.mp z with z | z
   . exact hb1 z
   . exact absurd (yaq.mp z) (yaI (yaH (yau (k0 b ob q)) hit))
 have run:∀(h2:Heap) (c1:Nat),SIt w es ep t vs a it p 0 h2->(∀b ob,b≠s.heap.objs.size->s.heap.get? b=some ob->h2.get? b=some ob)->h2.get? s.heap.objs.size=some { cls:=.type "list",data:=.seq #[] c1 }->∀(Z:Result->Shared->Prop),
     (∀(h':Heap) (tk:Nat) (acc':Array Value) (c':Nat),Kept s.heap h'->h'.get? s.heap.objs.size=some { cls:=.type "list",dict:=none,data:=.seq acc' c',slots:=#[] }->acc'.toList=vs->Z (.ok (.ret (.ref s.heap.objs.size))) { s with heap:=h',toks:=tk,drawn:=d }) ->
     codeAny (model prog w) A (.builtin "list.extend.loop" ⟨[.ref s.heap.objs.size,.ref it,.ref s.heap.objs.size],[]⟩) Z { s with heap:=h2,drawn:=d }:=λh2 c1 st2 k2 l2 Z hZ =>
   ycD (key h2 c1 st2 k2 l2) λq s' y=>by
     obtain⟨h',tk,acc',c',rfl,rfl,kp,e,ea⟩:=y;exact hZ h' tk acc' c' kp e ea
 refine yab (ybw (zrz (s:={ s with heap:=h1,drawn:=d }) ⟨o,k1 a o ho0,hx.1⟩ ?_));have kk:∀b ob,b≠s.heap.objs.size->s.heap.get? b=some ob->h1.get? b=some ob:=λb ob _ q=>k1 b ob (k0 b ob q);refine ydW (λ_=>?_) (λ_=>yag ⟨ycu F.plain_extend_loop _,run h1 0 st kk l1 _ λh' tk acc' c' kp e ea=>fin vs pm h' tk d acc' c' kp e ea⟩);refine yab (ydp (yab ?_));show wpAny _ _ (updateSeq s.heap.objs.size (·.push .none) >>= λ_=>updateSeq s.heap.objs.size (·.pop)) _ _ _;refine yab (wpAny_updateSeq l1 rfl ?_);have l2:=ybE (Obj.mapSeq (·.push Value.none)) l1 rfl;refine wpAny_updateSeq (hz:=by seq_fits) l2 rfl ?_;have l3:=ybE (Obj.mapSeq (·.pop)) l2 rfl;refine yag ⟨ycu F.plain_extend_loop _,run _ _ (W.frame 0 _ _ st λb hb ob q=>?_) (λb ob hb q=>?_) l3 _ λh' tk acc' c' kp e ea=>fin vs pm h' tk d acc' c' kp e ea⟩
 . have hbS:b≠s.heap.objs.size:=λz=>hSf (z▸hb);exact(ya5 _ _ (ybn hbS)).trans ((ya5 _ _ (ybn hbS)).trans q)
 . exact(ya5 _ _ (ybn hb)).trans ((ya5 _ _ (ybn hb)).trans (kk b ob hb q))
end
end S6
end
section
namespace S6
open PySem
theorem zn1 : entryFor table "dict.update.loop" = some Builtin.«dict.update.loop» := entryFor_of_tree (by kernel_rfl)
theorem zhQ:plainId "dict.update.loop" = true:=by decide +kernel
section
variable{prog:Program}{w:World}{A:Around}{E:Value->Shared->Prop}{s:Shared}
variable{K:Type}[DecidableEq K]{knd:KeyKind prog w K}
def znf(knd:KeyKind prog w K)(h:Heap)(its:List Value)(vs:List (K×Value)):Prop :=
 its.length=vs.length/\∀(i:Nat) (v:Value),its[i]?=some v->∃(a:Addr) (k:K) (kv xv:Value) (o:Obj) (n:Nat),v=Value.ref a/\vs[i]?=some (k,xv)/\h.get? a=some o/\o.cls=.type "tuple" /\ o.data=.seq #[kv,xv] n/\knd.is k kv=true
theorem stored_new{kvs:List (K×Value)}{k:K}{v:Value}(h:k∉kvs.map (·.1)):stored kvs k v=kvs++[(k,v)]:=by
 unfold stored;rw[yai];intro z;obtain⟨p,hp,e⟩:=ydB.mp z;exact h (yap.mpr ⟨p,hp,ydm e⟩)
theorem pair_items{a:Addr}{o:Obj}{xs:Array Value}{n:Nat}{Q:List Value->Shared->Prop}(ho:s.heap.get? a=some o)(hc:o.cls=.type "tuple")(hd:o.data=.seq xs n)(h:Q xs.toList s):wpAny (model prog w) A (Builtin.Dict.pairItems (.ref a)) Q E s:=by
 unfold Builtin.Dict.pairItems;refine yab (ycb (T := "tuple") ⟨o,ho,hc⟩ ?_);rw[yaj (by decide)];unfold seqItems?;refine yab (yab (wpAny_load ho ?_));rw[hd];exact yag (yag h)
theorem zqD{h0:Heap}{D it p:Addr}{its:List Value}{vs:List (K×Value)}(hA:A.in1.handled=none)(pr:znf knd h0 its vs)(nd:(vs.map (·.1)).Nodup)(hz:vs.length<=sizeLine)(tup:h0.IsTuple p its.toArray)
  (hne:D≠it) (hD:h0.objs.size<=D) (hit:h0.objs.size<=it) {g:Array GenState} {dr:Drawn} {os:OsState} {R:Result->Shared->Prop} (hR:∀h' tk,(∀b o,h0.get? b=some o->h'.get? b=some o)->h'.DictOf knd D vs->R (.ok (.ret .none)) ⟨h',g,dr,tk,os⟩) :
  ∀(m i:Nat) (u:Tok) (h:Heap) (tk:Nat),vs.length - i=m->i<=vs.length->(∀b o,h0.get? b=some o->h.get? b=some o)->h.IsTupleIter it p i->h.DictOf knd D (vs.take i) ->
    codeAny (model prog w) A (.builtin "dict.update.loop" ⟨[.ref D,.ref it,.int (i:Nat) u,.none],[]⟩) R ⟨h,g,dr,tk,os⟩:=by
 intro m
 induction m with
 | zero =>
  intro i u h tk hm hi kp st hd;have ei:i=vs.length:=by omega
  subst ei;refine ybS zn1 ?_;rw[yby zhQ _];have tup':h.IsTuple p its.toArray:=let ⟨o,e,r⟩:=tup;⟨o,kp _ _ e,r⟩;refine yab (m:=pyNext (.ref it)) (wpAny_pyNext_tuple_end (s:=⟨h,g,dr,tk,os⟩) hA st tup' (by simp[pr.1]) λh' eb=>?_);rw[yaG]at hd;refine yab (yag (yag (hR h' tk (λb o e=>eb b o (yaI (yaH (yau e) hit)) (kp b o e)) ?_)));obtain⟨o,es,ep,e,r⟩:=hd;exact⟨o,es,ep,eb D o hne e,r⟩
 | succ m ih =>
  intro i u h tk hm hi kp st hd;have hlt:i < vs.length:=by omega
  have hlt':i < its.length:=by rw[pr.1];exact hlt
  obtain⟨a,k,kv,xv,o,n,hv,hvs,ho,hc,hdat,his⟩:=pr.2 i its[i] (yax hlt');refine ybS zn1 ?_;rw[yby zhQ _];have tup':h.IsTuple p its.toArray:=let ⟨o,e,r⟩:=tup;⟨o,kp _ _ e,r⟩;refine yab (m:=pyNext (.ref it)) (wpAny_pyNext_tuple_item (s:=⟨h,g,dr,tk,os⟩) (x:=.ref a) st tup' (by rw[<-hv];simp[hlt']) λh1 st1 sb1=>?_);have kp1:∀b o,h0.get? b=some o->h1.get? b=some o:=λb o e=>(sb1.2 b (yaI (yaH (yau e) hit))).trans (kp b o e);have hd1:h1.DictOf knd D (vs.take i):=by
    obtain⟨o,es,ep,e,r⟩:=hd;exact⟨o,es,ep,(sb1.2 D hne).trans e,r⟩
  have hnk:k∉(vs.take i).map (·.1):=λz=>by
    rw[yd4]at z;have nd':=nd;rw[<-ybG i (vs.map (·.1))]at nd';obtain⟨_,_,dis⟩:=ybi.mp nd';refine dis k z k (yaS (i:=0) ?_) rfl;rw[yde,yak,Nat.add_zero,hvs];rfl
  refine yab (ybw (yab (wpAny_tryCatch (pair_items (s:=⟨h1,g,dr,tk,os⟩) (kp1 _ _ ho) hc hdat ?_))));refine ybw (wpAny_dictSet_pairs (s:=⟨h1,g,dr,tk,os⟩) his hd1 (λh2 hd2 sb2=>?_) (by rw[yaY];omega));refine yag ⟨ycu zhQ _,ih (i+1) 0 h2 (tk+1) (by omega) hlt (λb o e=>(sb2.2 b (yaI (yaH (yau e) hD))).trans (kp1 b o e)) ?_ ?_⟩
  . obtain⟨o,e,r⟩:=st1;exact⟨o,(sb2.2 it hne.symm).trans e,r⟩
  . rw[stored_new hnk]at hd2;rw[yaD,hvs];exact hd2
end
end S6
end
section
namespace S6
open PySem
theorem zko:typeLookup (.type "tuple") "keys" = pure none:=by rw[ydU,ycT];kernel_rfl
section
variable{prog:Program}{w:World}{A:Around}{E:Value->Shared->Prop}{s:Shared}
theorem zmh{a:Addr}{o:Obj}{xs:Array Value}{k:Nat}{Q:Option Value->Shared->Prop}(hx:s.heap.get? a=some o)(hc:o.cls=.type "tuple")(hdat:o.data=.seq xs k)(hd:o.dict=none)(hA:A.handled=none)
  (h:∀h' tk,(∀b u,s.heap.get? b=some u->h'.get? b=some u)->Q none { s with heap:=h',toks:=tk }):wpAny (model prog w) A (getAttr? (.ref a) "keys") Q E s:=by
 obtain⟨c,dct,dat,sl⟩:=o;simp only at hc hdat hd;subst hc hdat hd;obtain⟨hp,g,d,tk,os⟩:=s;have hT:∀tk',(⟨hp,g,d,tk',os⟩:Shared).TypeIs (.ref a) "tuple" := λ_=>⟨_,hx,rfl⟩
 have f1:=sub_AttributeError;have f3:=ycB.lookup;have f4:=ycB.bind (.ref a);have f5:=am_tuple_getattr_none;unfold getAttr? getAttrBy? getAttrBy
 repeat (any_goals (first | assumption | exact hT _ | ((with_reducible show wpAny _ _ (call (Value.builtin "tuple.__getattribute__") _ _) _ _ _);refine yds ycB (hT _) am_entry_tuple_getattribute (F.args_tuple_getattribute_2 _ _) (meets_getattribute_miss_tuple a xs k sl "keys" _ zko (by decide +kernel)) ⟨hx,hA,λh' tk' e hx'=>?_⟩) | wp_step))
 obtain⟨t',u',he⟩:=hx'.there;show wpAny _ _ (getattributeRaised _ _ _ _ _ _ _) _ _ _;unfold getattributeRaised
 repeat (any_goals (first | assumption | wp_step))
 exact h h' tk' hx'.1
variable{K:Type}[DecidableEq K]{knd:KeyKind prog w K}
end
end S6
end
section
namespace S6
open PySem
section
variable{prog:Program}{w:World}{A:Around}{E:Value->Shared->Prop}{s:Shared}
variable{K:Type}[DecidableEq K]{knd:KeyKind prog w K}
theorem zoR{p:Addr}{o:Obj}{n:Nat}{its:List Value}{vs:List (K×Value)}{Q:Value->Shared->Prop}(hA:A.handled=none)(hp:s.heap.get? p=some o)(hc:o.cls=.type "tuple")(hdat:o.data=.seq its.toArray n)(hdn:o.dict=none)
  (pr:znf knd s.heap its vs) (nd:(vs.map (·.1)).Nodup) (hz:vs.length<=sizeLine)
  (h:∀h' tk,(∀b o,s.heap.get? b=some o->h'.get? b=some o)->h'.DictOf knd s.heap.objs.size vs->Q (.ref s.heap.objs.size) { s with heap:=h',toks:=tk }) :
  wpAny (model prog w) A (call (.type "dict") [.ref p]) Q E s:=by
 obtain ⟨hp0,g,dr,tk0,os⟩:=s;refine callType_codes (Q₁:=λ obj s₁=>obj=.ref hp0.objs.size/\s₁=⟨hp0.push { cls:=.type "dict",data:=.dict #[] },g,dr,tk0,os⟩) F.kt_called_dict (F.kt_typeCall_dict_1 _) F.entry_dict_init (kt_code_dict_new _ ⟨rfl,rfl⟩) ?_;rintro obj s₁ ⟨rfl,rfl⟩;have hnew:(hp0.push { cls:=.type "dict",data:=.dict #[] }).DictOf knd hp0.objs.size []:=Heap.DictOf.new hp0;have hp1:=yae { cls:=.type "dict",data:=.dict #[] } hp;refine ⟨Heap.DictOf.typeIs (s:=⟨hp0.push { cls:=.type "dict",data:=.dict #[] },g,dr,tk0,os⟩) hnew,F.args_dict_init_2 _ _,?_⟩;unfold Builtin.«dict.__init__»;refine yab ?_;unfold Builtin.Dict.selfAndRest;refine yab (wpAny_notOrdered_dict (Heap.DictOf.typeIs (s:=⟨hp0.push { cls:=.type "dict",data:=.dict #[] },g,dr,tk0,os⟩) hnew) ?_);show wpAny _ _ (pure (hp0.objs.size,[Value.ref p])) _ _ _;refine yag ?_;show wpAny _ _ (Builtin.Dict.updateFrom "dict.__init__" hp0.objs.size (.ref p) [] .none) _ _ _;unfold Builtin.Dict.updateFrom;refine yab (ycb (T := "tuple") ⟨o,hp1,hc⟩ ?_);rw [yaj (by decide)];refine yab (zmh (A:=A.in1.in1) (s:=⟨hp0.push { cls:=.type "dict",data:=.dict #[] },g,dr,tk0,os⟩) hp1 hc hdat hdn hA λ h1 tk1 kp1=>?_);rw [yaj (show (none:Option Value).isNone=true from rfl)];refine yab (ydp ?_);have tup0:hp0.IsTuple p its.toArray:=⟨o,hp,hc,n,hdat⟩
 have tup1:h1.IsTuple p its.toArray:=⟨o,kp1 _ _ hp1,hc,n,hdat⟩
 refine yab (wpAny_pyIter_tuple (s:=⟨h1,g,dr,tk1,os⟩) tup1 ?_);have kp0:∀b o,hp0.get? b=some o->h1.get? b=some o:=λb o e=>kp1 b o (yae _ e);obtain⟨hd1,ltD⟩:h1.DictOf knd hp0.objs.size []/\hp0.objs.size < h1.objs.size:=by
  obtain⟨o,es,ep,e,r⟩:=hnew;exact⟨⟨o,es,ep,kp1 _ _ e,r⟩,yau (kp1 _ _ e)⟩
 refine yag ⟨ycu zhQ _,zqD (A:=A.in1) (R:=wants (λr s₂=>r=Value.none/\Q (Value.ref hp0.objs.size) s₂) E) (g:=g) (dr:=dr) (os:=os) (h0:=hp0) (it:=h1.objs.size) hA pr nd hz tup0 (yaI ltD) (yaf _) (yco ltD) (λh' tk kp hd=>⟨rfl,h h' tk kp hd⟩) vs.length 0 0 (h1.push { cls:=.type "tuple_iterator",data:=.fields #[.ref p,.int 0 0] }) tk1 (by omega) (ya1 _) (λb o e=>yae _ (kp0 b o e)) ⟨_,yaC _ rfl,rfl,rfl⟩ ?_⟩;obtain⟨o,es,ep,e,r⟩:=hd1;exact⟨o,es,ep,yae _ e,r⟩
end
end S6
end
section
namespace L2
open PySem PySem.Spec PyProof.Rows
abbrev Key:=Sum Int Str
def zjf:Key->Value->Bool
 | .inl k,v=>Value.isInt k v
 | .inr x,v=>Value.isStrOf x v
def keyH(w:World):Key->Int
 | .inl k=>hashInt k
 | .inr x=>hashStr w x
theorem za2:∀{k:Key} {v:Value},zjf k v=true->(∃i t,k=Sum.inl i/\v=Value.int i t)\/(∃x t,k=Sum.inr x/\v=Value.str x t)
 | .inl i,v,h=>by
  obtain⟨t,e⟩:=Value.isInt_shape (k:=i) (v:=v) h;exact .inl ⟨i,t,rfl,e⟩
 | .inr x,v,h=>by
  obtain⟨t,e⟩:=Value.isStrOf_shape (x:=x) (v:=v) h;exact .inr ⟨x,t,rfl,e⟩
theorem zqa(i:Int)(t:Tok):zjf (.inl i) (.int i t)=true:=by simp[zjf,Value.isInt]
theorem zp9(x:Str)(t:Tok):zjf (.inr x) (.str x t)=true:=by simp[zjf,Value.isStrOf]
theorem zuc(a b:Int):decide ((Sum.inl a:Key)=Sum.inl b)=(a == b):=by
 by_cases e:a=b
 . subst e;simp
 . have h:¬(Sum.inl a:Key)=Sum.inl b:=λq=>e (Sum.inl.inj q);rw[yay h];exact(ycf.mpr e).symm
theorem zr3(a b:Str):decide ((Sum.inr a:Key)=Sum.inr b)=decide (a=b):=by
 by_cases e:a=b
 . subst e;simp
 . have h:¬(Sum.inr a:Key)=Sum.inr b:=λq=>e (ybL q);rw[yay h,yay e]
theorem zub(a:Int)(b:Str):decide ((Sum.inl a:Key)=Sum.inr b)=false:=yay (λq=>nomatch q)
theorem zua(a:Str)(b:Int):decide ((Sum.inr a:Key)=Sum.inl b)=false:=yay (λq=>nomatch q)
def zaR(prog:Program)(w:World):PySem.KeyKind prog w Key where
 is:=zjf
 hash:=keyH w
 inj:=λv a b ha hb=>by
  rcases za2 ha with ⟨i,t,rfl,rfl⟩ | ⟨x,t,rfl,rfl⟩
  . rcases za2 hb with ⟨j,u,rfl,e⟩ | ⟨y,u,rfl,e⟩
    . injection e with e1 _;rw[e1]
    . exact nomatch e
  . rcases za2 hb with ⟨j,u,rfl,e⟩ | ⟨y,u,rfl,e⟩
    . exact nomatch e
    . injection e with e1 _;rw[e1]
 byValue:=λk v h=>by
  rcases za2 h with ⟨i,t,rfl,rfl⟩ | ⟨x,t,rfl,rfl⟩<;>rfl
 pyHash:=λhv h=>by
  rcases za2 hv with ⟨i,t,rfl,rfl⟩ | ⟨x,t,rfl,rfl⟩
  . exact wpAny_pyHash_int h
  . exact wpAny_pyHash_str h
 eqBool:=λhu hv h=>by
  rcases za2 hu with ⟨i,t,rfl,rfl⟩ | ⟨x,t,rfl,rfl⟩
  . rcases za2 hv with ⟨j,u,rfl,rfl⟩ | ⟨y,u,rfl,rfl⟩
    . rw[zuc]at h;exact wpAny_eqBool_int h
    . rw[zub]at h;exact SeqAt.EqAt.int_str i t y u _ _ _ _ h
  . rcases za2 hv with ⟨j,u,rfl,rfl⟩ | ⟨y,u,rfl,rfl⟩
    . rw[zua]at h;exact SeqAt.EqAt.str_int x t j u _ _ _ _ h
    . rw[zr3]at h;exact wpAny_eqBool_str h
 «strs» := fun k x t v h => by
  rcases za2 h with ⟨i,u,rfl,e⟩ | ⟨y,u,rfl,e⟩
  . exact nomatch e
  . injection e with e1 _
    subst e1;cases v<;>rfl
theorem zfU(prog:Program)(w:World)(i:Int)(t:Tok):(zaR prog w).is (.inl i) (.int i t)=true:=zqa i t
theorem zfT(prog:Program)(w:World)(x:Str)(t:Tok):(zaR prog w).is (.inr x) (.str x t)=true:=zp9 x t
end L2
namespace L2
open PySem PySem.Spec PyProof.Rows
inductive V where
 | non | bl (b:Bool) | int (i:Int) | str (x:Str) | byt (b:Array UInt8) | flt (b:UInt64) | ref (a:Addr) | ty (n:String)
 deriving DecidableEq
def RelV:V->Value->Prop
 | .non,u=>u=Value.none
 | .bl b,u=>u=Value.bool b
 | .int i,u=>∃t,u=Value.int i t
 | .str x,u=>∃t,u=Value.str x t
 | .byt b,u=>∃t,u=Value.bytes b t
 | .flt b,u=>∃t,u=Value.float b t
 | .ref a,u=>u=Value.ref a
 | .ty n,u=>u=Value.type n
abbrev Vals:List V->List Value->Prop:=Paired RelV
theorem Vals.length{xs:List V}{us:List Value}(r:Vals xs us):xs.length=us.length:=Paired.length r
theorem Vals.get:∀{xs:List V} {us:List Value} {i:Nat} {x:V},Vals xs us->xs[i]?=some x->∃u,us[i]?=some u/\RelV x u
 | _,_,_,_,.nil,e=>by simp at e
 | _,_,0,_,.cons r _,e=>by simp at e;subst e;exact⟨_,rfl,r⟩
 | _,_,i+1,x,.cons _ t,e=>by
  obtain⟨u,h1,h2⟩:=Vals.get (i:=i) (x:=x) t (by simpa using e);exact⟨u,by simpa using h1,h2⟩
theorem Vals.set{x:V}{u:Value}(r:RelV x u):∀{xs:List V} {us:List Value} (i:Nat),Vals xs us->Vals (xs.set i x) (us.set i u)
 | _,_,_,.nil=>.nil
 | _,_,0,.cons _ t=>.cons r t
 | _,_,i+1,.cons q t=>.cons q (Vals.set r i t)
theorem Vals.append:∀{xs ys:List V} {us ws:List Value},Vals xs us->Vals ys ws->Vals (xs++ys) (us++ws)
 | _,_,_,_,.nil,s=>s
 | _,_,_,_,.cons r t,s=>.cons r (Vals.append t s)
theorem Vals.take:∀{xs:List V} {us:List Value} (n:Nat),Vals xs us->Vals (xs.take n) (us.take n)
 | _,_,0,_=>.nil
 | _,_,_+1,.nil=>.nil
 | _,_,n+1,.cons r t=>.cons r (Vals.take n t)
theorem Vals.drop:∀{xs:List V} {us:List Value} (n:Nat),Vals xs us->Vals (xs.drop n) (us.drop n)
 | _,_,0,r=>r
 | _,_,_+1,.nil=>.nil
 | _,_,n+1,.cons _ t=>Vals.drop n t
def RelO:Option V->Option Value->Prop
 | some v,some u=>RelV v u
 | none,none=>True
 | _,_=>False
def KV{κ:Type}:List (κ×V)->List (κ×Value)->Prop:=Paired λ(p:κ×V) (q:κ×Value)=>p.1=q.1/\RelV p.2 q.2
def kV:Key->V
 | .inl i=>.int i
 | .inr x=>.str x
inductive HO where
 | lst (xs:List V)
 | tup (xs:List V)
 | dK (kvs:List (Key×V)) | dT (kvs:List (List Key×V))
 | set (S:Int->Bool) (n:Nat)
 | ins (C dx:Addr) (fs:List (Str×V))
 | own (x:Addr)
 | xd (fs:List (Str×V))
 | met (f x:Addr)
 | rng (lo hi:Int)
 | frz (o:Obj) (u:HO)
 | tbl (ps:Array Value)
 | ext (φ:Heap->Prop)
abbrev Hp:=Addr->Option HO
def upd(H:Hp)(a:Addr)(o:HO):Hp:=λb=>if b=a then some o else H b
theorem zab{H:Hp}{a:Addr}{o:HO}:upd H a o a=some o:=by unfold upd;rw[yaj rfl]
theorem zag{H:Hp}{a b:Addr}{o:HO}(h:b≠a):upd H a o b=H b:=by unfold upd;rw[yai h]
theorem zj3{H:Hp}{a:Addr}{o u:HO}:upd (upd H a o) a u=upd H a u:=by
 funext b;unfold upd;split<;>rfl
theorem zbj{H:Hp}{a b:Addr}{o u:HO}(h:H a=some o)(h':H b=some u)(d:o≠u):a≠b:=by
 intro e;subst e;rw[h]at h';exact d (yaL h')
theorem zah{H:Hp}{a b:Addr}{o:HO}(h:H a=some o)(h':H b=none):a≠b:=by
 intro e;subst e;rw[h]at h';cases h'
section
variable(P:Program)(w:World)
def zbM(H:Hp)(h:Heap)(a:Addr):HO->Prop
 | .lst xs=>xs.length<=sizeLine/\∃(its:List Value) (n:Nat),Vals xs its/\h.get? a=some { cls:=.type "list",data:=.seq its.toArray n }
 | .tup xs=>xs.length<=sizeLine/\∃its:List Value,Vals xs its/\IsTup h a its.toArray
 | .dK kvs=>kvs.length<=sizeLine/\(a == sysModules)=false/\∃vs,KV kvs vs/\h.DictOf (zaR P w) a vs
 | .dT kvs=>kvs.length<=sizeLine/\(a == sysModules)=false/\∃xs:List (List Key×Addr×Value),
  Paired (λ(p:List Key×V) (q:List Key×Addr×Value)=>p.1=q.1/\H q.2.1=some (.tup (p.1.map kV))/\RelV p.2 q.2.2) kvs xs /\
  ∃o es ep,h.get? a=some o/\o.ExactDict/\o.data=.dict es ep/\es.toList=xs.map (entryOfKey (tupleKind (zaR P w)))/\(xs.map (·.1)).Nodup
 | .set S n=>h.SetOf (intKind P w) a S n
 | .ins C dx fs=>H dx=some (.own a)/\fs.length<=1000/\dx≠a/\h.get? a=some (PySem.W.instObj C dx) /\
  ∃mA,h.Ns1 dx mA/\(∀f,RelO (fs.lookup f) (mA f))/\PySem.Within mA (fs.map (·.1))
 | .own _=>∃o,h.get? a=some o
 | .xd fs=>∃mA,h.Ns1 a mA/\∀f,RelO (fs.lookup f) (mA f)
 | .rng lo hi=>∃t u v,h.get? a=some { cls:=.type "range",data:=.fields #[.int lo t,.int hi u,.int 1 v] }
 | .frz o u=>h.get? a=some o/\zbM H h a u
 | .tbl ps=>h.get? a=some { cls:=.none,data:=.fields ps }
 | .met f x=>h.get? a=some (PySem.W.methodObj (.ref f) (.ref x))
 | .ext φ=>φ h/\(∃o,h.get? a=some o)/\∀h1 h2:Heap,φ h1->(∀o,h1.get? a=some o->h2.get? a=some o)->φ h2
def HOk(H:Hp)(h:Heap):Prop:=∀a o,H a=some o->zbM P w H h a o
end
section
variable{P:Program}{w:World}{H H':Hp}{h h':Heap}{a:Addr}{o:HO}
theorem zbM.lt(x:zbM P w H h a o):a < h.objs.size:=by
 cases o with
 | lst xs=>obtain⟨_,_,_,_,e⟩:=x;exact yau e
 | tup xs=>obtain⟨_,_,_,p⟩:=x;exact p.lt
 | dK kvs=>obtain⟨_,_,_,_,o,_,_,e,_⟩:=x;exact yau e
 | dT kvs=>obtain⟨_,_,_,_,o,_,_,e,_⟩:=x;exact yau e
 | set S n=>obtain⟨o,_,_,_,e,_⟩:=x;exact yau e
 | ins C dx fs=>obtain⟨_,_,_,e,_⟩:=x;exact yau e
 | own y=>obtain⟨_,e⟩:=x;exact yau e
 | xd fs=>obtain⟨_,⟨_,_,_,e,_⟩,_⟩:=x;exact yau e
 | rng lo hi=>obtain⟨_,_,_,e⟩:=x;exact yau e
 | frz ob u=>obtain⟨e,_⟩:=x;exact yau e
 | tbl ps=>exact yau (show h.get? a=some _ from x)
 | met f y=>exact yau (show h.get? a=some _ from x)
 | ext φ=>obtain⟨_,⟨_,e⟩,_⟩:=x;exact yau e
theorem Paired.mapP{α β:Type}{F G:α->β->Prop}:∀{l₁:List α} {l₂:List β},Paired F l₁ l₂->(∀a b,F a b->G a b)->Paired G l₁ l₂
 | _,_,.nil,_=>.nil
 | _,_,.cons r t,f=>.cons (f _ _ r) (Paired.mapP t f)
theorem zbM.stay(x:zbM P w H h a o)(k:∀b u,(b=a\/H b=some (.own a))->h.get? b=some u->h'.get? b=some u)
  (ho:∀b,H b=some (.own a)->H' b=some (.own a)) (ht:∀b xs,H b=some (.tup xs)->H' b=some (.tup xs)):zbM P w H' h' a o:=by
 induction o with
 | lst xs=>obtain⟨z,its,n,r,e⟩:=x;exact⟨z,its,n,r,k _ _ (.inl rfl) e⟩
 | tup xs=>obtain⟨z,its,r,ob,e,c⟩:=x;exact⟨z,its,r,ob,k _ _ (.inl rfl) e,c⟩
 | dK kvs=>obtain⟨z,y,vs,r,ob,es,ep,e,c⟩:=x;exact⟨z,y,vs,r,ob,es,ep,k _ _ (.inl rfl) e,c⟩
 | dT kvs =>
  obtain⟨z,y,xs,r,ob,es,ep,e,c⟩:=x;exact⟨z,y,xs,Paired.mapP r λp q z=>⟨z.1,ht _ _ z.2.1,z.2.2⟩,ob,es,ep,k _ _ (.inl rfl) e,c⟩
 | set S n=>obtain⟨ob,es,ep,t,e,c⟩:=x;exact⟨ob,es,ep,t,k _ _ (.inl rfl) e,c⟩
 | ins C dx fs =>
  obtain⟨d,z,ne,e,mA,⟨od,es,ep,e2,c⟩,r⟩:=x;exact⟨ho _ d,z,ne,k _ _ (.inl rfl) e,mA,⟨od,es,ep,k _ _ (.inr d) e2,c⟩,r⟩
 | own y=>obtain⟨ob,e⟩:=x;exact⟨ob,k _ _ (.inl rfl) e⟩
 | xd fs=>obtain⟨mA,⟨od,es,ep,e,c⟩,r⟩:=x;exact⟨mA,⟨od,es,ep,k _ _ (.inl rfl) e,c⟩,r⟩
 | rng lo hi=>obtain⟨t,u,v,e⟩:=x;exact⟨t,u,v,k _ _ (.inl rfl) e⟩
 | frz ob u ih=>obtain⟨e,q⟩:=x;exact⟨k _ _ (.inl rfl) e,ih q⟩
 | tbl ps =>
  have e:h.get? a=some { cls:=.none,data:=.fields ps }:=x;show h'.get? a=some { cls:=.none,data:=.fields ps };exact k a _ (.inl rfl) e
 | met f y =>
  have e:h.get? a=some (PySem.W.methodObj (.ref f) (.ref y)):=x;show h'.get? a=some (PySem.W.methodObj (.ref f) (.ref y));exact k a _ (.inl rfl) e
 | ext φ=>obtain⟨p,⟨o,e⟩,st⟩:=x;exact⟨st _ _ p λo q=>k _ _ (.inl rfl) q,⟨o,k _ _ (.inl rfl) e⟩,st⟩
theorem HOk.lt(x:HOk P w H h)(e:H a=some o):a < h.objs.size:=(x a o e).lt
theorem HOk.fresh(x:HOk P w H h)(e:h.objs.size<=a):H a=none:=by
 cases q:H a with
 | none=>rfl
 | some u=>exact absurd (yaH (x.lt q) e) (ybb _)
theorem HOk.kept(x:HOk P w H h)(k:∀b u,h.get? b=some u->h'.get? b=some u):HOk P w H h':=λa o e =>
 (x a o e).stay (λb u _ q=>k b u q) (λ_ q=>q) λ_ _ q=>q
theorem HOk.laid(x:HOk P w H h)(k:∀b u,h.get? b=some u->h'.get? b=some u)(hp:h.objs.size<=a)(new:zbM P w (upd H a o) h' a o):HOk P w (upd H a o) h':=λb u e=>by
 have hn:=x.fresh hp;by_cases hb:b=a
 . subst hb;rw[zab]at e;cases e;exact new
 . rw[zag hb]at e;exact(x b u e).stay (λc v _ q=>k c v q) (λc q=>by rw[zag (zah q hn)];exact q) λc xs q=>by rw[zag (zah q hn)];exact q
end
def Rd(H:Hp)(a:Addr)(u:HO):Prop:=H a=some u\/∃o,H a=some (.frz o u)
theorem Rd.of{H:Hp}{a:Addr}{u:HO}(h:H a=some u):Rd H a u:=.inl h
theorem Rd.ok{P:Program}{w:World}{H:Hp}{h:Heap}{a:Addr}{u:HO}(r:Rd H a u)(x:HOk P w H h):zbM P w H h a u:=by
 rcases r with r | ⟨o,r⟩
 . exact x a u r
 . obtain⟨_,q⟩:=x a _ r;exact q
def Mut:Option HO->Prop
 | some (.lst _)=>True
 | some (.dK _)=>True
 | some (.dT _)=>True
 | some (.set _ _)=>True
 | some (.ins _ _ _)=>True
 | some (.ext _)=>True
 | _=>False
section
variable{P:Program}{w:World}{H:Hp}{h h':Heap}{x e:Addr}{o':HO}
theorem HOk.write(ok:HOk P w H h)(mu:Mut (H x))(he:e=x\/H e=some (.own x))(k:∀b u,b≠e->h.get? b=some u->h'.get? b=some u)(heo:∃u,h'.get? e=some u)
   (new:zbM P w (upd H x o') h' x o'):HOk P w (upd H x o') h':=λb u q=>by
 have nown:∀c y,H c=some (.own y)->c≠x:=λc y r z=>by subst z;rw[r]at mu;exact mu
 have ntup:∀c xs,H c=some (.tup xs)->c≠x:=λc xs r z=>by subst z;rw[r]at mu;exact mu
 by_cases hb:b=x
 . subst hb;rw[zab]at q;cases q;exact new
 . rw[zag hb]at q;by_cases hbe:b=e
   . have q':H b=some (.own x):=by
       rcases he with z | z
       . exact absurd (hbe.trans z) hb
       . rw[hbe];exact z
     rw[q]at q';cases q';obtain⟨v,hv⟩:=heo;exact⟨v,by rw[hbe];exact hv⟩
   . refine(ok b u q).stay (λc v hc r=>k c v ?_ r) (λc r=>by rw[zag (nown c b r)];exact r) λc xs r=>by rw[zag (ntup c xs r)];exact r
     rcases hc with rfl | hc
     . exact hbe
     . rintro rfl;rcases he with z | z
       . exact nown c b hc z
       . rw[hc]at z;cases z;exact hb rfl
end
structure Un(fs ex:List Addr)(H H':Hp)(h h':Heap):Prop where
 keep:∀b o,h.get? b=some o->H b=none->b∉fs->b∉ex->h'.get? b=some o
 slot:∀b o,h.get? b=some o->H b=none->b∈fs->b∉ex->∃sl,h'.get? b=some { o with slots:=sl }
 free:∀b o,h.get? b=some o->H b=none->b∉ex->H' b=none
 there:∀b o,h.get? b=some o->b∉ex->∃o',h'.get? b=some o'
 tups:∀b xs,H b=some (.tup xs)->H' b=some (.tup xs)
 frzs:∀b o u,H b=some (.frz o u)->H' b=some (.frz o u)
 tbls:∀b ps,H b=some (.tbl ps)->∃more,H' b=some (.tbl (ps++more))
section
variable{fs fs' ex ex':List Addr}{H H1 H2:Hp}{h h1 h2 h':Heap}{a x e:Addr}{o:HO}
theorem Un.any(u:Un fs ex H H1 h h1){b:Addr}{ob:Obj}(q:h.get? b=some ob)(n:H b=none)(hx:b∉ex):∃sl,h1.get? b=some { ob with slots:=sl }:=by
 by_cases hb:b∈fs
 . exact u.slot b ob q n hb hx
 . exact⟨ob.slots,u.keep b ob q n hb hx⟩
theorem Un.kept(k:∀b u,h.get? b=some u->h'.get? b=some u):Un fs ex H H h h' :=
 ⟨λb ob q _ _ _=>k b ob q,λb ob q _ _ _=>⟨ob.slots,k b ob q⟩,λ_ _ _ n _=>n,λb ob q _=>⟨ob,k b ob q⟩,λ_ _ q=>q,λ_ _ _ q=>q,λ_ ps q=>⟨#[],by rw[q];simp⟩⟩
theorem Un.refl:Un fs ex H H h h:=Un.kept λ_ _ q=>q
theorem Un.laid(k:∀b u,h.get? b=some u->h'.get? b=some u)(hp:h.objs.size<=a)(hn:H a=none):Un fs ex H (upd H a o) h h' where
 keep:=λb u q _ _ _=>k b u q
 slot:=λb u q _ _ _=>⟨u.slots,k b u q⟩
 free:=λb u q n _=>by rw[zag (yaI (yaH (yau q) hp))];exact n
 there:=λb u q _=>⟨u,k b u q⟩
 tups:=λb xs q=>by rw[zag (zah q hn)];exact q
 frzs:=λb u xs q=>by rw[zag (zah q hn)];exact q
 tbls:=λb ps q=>⟨#[],by rw[zag (zah q hn),q];simp⟩
theorem Un.write(mu:Mut (H x))(he:e=x\/H e=some (.own x))(k:∀b u,b≠e->h.get? b=some u->h'.get? b=some u)(heo:∃u,h'.get? e=some u):Un fs ex H (upd H x o) h h':=by
 have hx:∀b,H b=none->b≠x:=λb n z=>by subst z;rw[n]at mu;exact mu
 have hb:∀b,H b=none->b≠e:=λb n z=>by
   subst z;rcases he with r | r
   . exact hx b n r
   . rw[n]at r;cases r
 have hm:∀b u,H b=some u->¬Mut (some u)->b≠x:=λb u q nm z=>by subst z;rw[q]at mu;exact nm mu
 refine⟨λb u q n _ _=>k b u (hb b n) q,λb u q n _ _=>⟨u.slots,k b u (hb b n) q⟩,λb u q n _=>by rw[zag (hx b n)];exact n,λb u q _=>?_,
   λb xs q=>by rw[zag (hm b _ q λz=>z)];exact q,λb u xs q=>by rw[zag (hm b _ q λz=>z)];exact q,λb ps q=>⟨#[],by rw[zag (hm b _ q λz=>z),q];simp⟩⟩
 by_cases hbe:b=e
 . subst hbe;exact heo
 . exact⟨u,k b u hbe q⟩
end
def trk(h:Heap)(H:Hp):List Addr:=(List.range h.objs.size).filter λa=>(H a).isSome
def hidT(h:Heap)(H:Hp):Heap:=PySem.W.hideAll h (trk h H)
theorem zqj(h:Heap)(H:Hp):(hidT h H).objs.size=h.objs.size:=PySem.W.hideAll_size _ _
theorem zrA{h:Heap}{H:Hp}{b:Addr}{o:Obj}(e:h.get? b=some o)(n:H b=none):(hidT h H).get? b=some o :=
 PySem.W.hideAll_get _ e λhm=>by
  have q:(H b).isSome=true:=(ya3.mp hm).2;rw[n]at q;simp at q
theorem zsT{h:Heap}{H:Hp}{b:Addr}{o:Obj}(e:(hidT h H).get? b=some o):h.get? b=some o/\H b=none:=by
 have e':h.get? b=some o:=PySem.W.of_hideAll (trk h H) e;refine⟨e',?_⟩;cases q:H b with
 | none=>rfl
 | some x =>
  have hm:b∈trk h H:=ya3.mpr ⟨yaV.mpr (yau e'),by simp[q]⟩;have z:(hidT h H).get? b=none:=PySem.W.hideAll_none (trk h H) hm;rw[z]at e;cases e
end L2
namespace L2
open PySem PySem.Spec PyProof.Rows
structure Mod(K:PySem.W.Frag)(mg:Str->Option Value)(base:Heap):Prop where
 kin:K.In base
 glob:base.Ns mainGlobals mg
 blt:∃mb,base.Ns builtinsNs mb/\∀x:Str,x ≠ "__name__" -> mb x=bootBuiltins x
 nolimit:base.NoLimit
structure Cx where
 prog:Program
 w:World
 K:PySem.W.Frag
 mg:Str->Option Value
 base:Heap
 A:Around
 N:List Str
 s₀:Shared
 H₀:Hp
 env:Env
 outer:List Env
 stack:List Env
 ex:List Addr
 fn:Str->Bool
 calm:Bool
 pn:List (Addr×Obj)
 xe:Value->Shared->Prop
def frs(l:List Env):List Addr:=l.filterMap (·.frame)
abbrev Cx.fs(X:Cx):List Addr:=frs X.outer
def Vis(sc:Scope)(x:Str):Prop:=sc.names.lookup x=some .local\/sc.names.lookup x=some .cell\/sc.names.lookup x=some .free
def Loc(sc:Scope)(x:Str):Prop:=sc.names.lookup x=some .local\/sc.names.lookup x=some .cell
def Look(env:Env)(h:Heap)(m:Str->Option Value)(x:Str)(u:Value):Prop :=
 (env.kindOf x=some .local/\m x=some u)\/((env.kindOf x=some .cell\/env.kindOf x=some .free)/\∃c,env.cells.lookup x=some c/\h.IsCell c (some u))
structure Cx.Ok(X:Cx):Prop where
 mod:Mod X.K X.mg X.base
 kind:X.env.scope.kind=.function
 glob:X.env.globals=mainGlobals
 blt:X.env.builtins=builtinsNs
 above:X.s₀.heap.objs.size<=X.env.locals
 inj:∀x y c,X.env.cells.lookup x=some c->X.env.cells.lookup y=some c->x=y
 has:∀x,(X.env.kindOf x=some .cell\/X.env.kindOf x=some .free)->∃c,X.env.cells.lookup x=some c
 cab:∀x c,X.fn x=true->X.env.cells.lookup x=some c->X.s₀.heap.objs.size<=c
 hd:X.calm=true->X.A.handled=none
 frames:X.A.frames=some X.stack
 stk:X.stack=X.outer\/(X.stack=X.env::X.outer/\X.env.frame=some X.env.locals)
 exf:∀b∈X.ex,b≠X.env.locals/\∀x c,X.env.cells.lookup x=some c->c≠b
 bs:∀b o,X.base.get? b=some o->X.s₀.heap.get? b=some o/\X.H₀ b=none
 bsz:X.base.objs.size<=X.s₀.heap.objs.size
 noex:∀b o,X.base.get? b=some o->b∉X.ex
 exfs:∀b∈X.ex,b∉X.fs
 funs:X.s₀.heap.FunFrames X.base X.outer
 frf:∀b∈X.fs,X.H₀ b=none
structure Inv(X:Cx)(pins:List (Addr×Obj))(σ:List (Option V))(H:Hp)(s:Shared):Prop where
 ok:X.Ok
 os:s.os=X.s₀.os
 bare:AllBare s.gens
 base:Un X.fs X.ex X.H₀ H X.s₀.heap s.heap
 loc:∃m,s.heap.Ns X.env.locals m/\∀(i:Nat) (x:Str) (v:V),X.N[i]?=some x->σ[i]?=some (some v)->Vis X.env.scope x->∃u,RelV v u/\Look X.env s.heap m x u
 cell:∀x c,X.env.cells.lookup x=some c->∃v,s.heap.IsCell c v
 free:H X.env.locals=none
 zew:∀x c,X.env.cells.lookup x=some c->H c=none
 pin:∀p∈X.pn++pins,s.heap.get? p.1=some p.2/\H p.1=none/\p.1≠X.env.locals/\p.1∉X.fs/\∀v,p.2.data≠.cell v
 hok:HOk X.prog X.w H s.heap
 len:σ.length=X.N.length
section
variable{X:Cx}{pins:List (Addr×Obj)}{σ:List (Option V)}{H H':Hp}{s:Shared}{h':Heap}
theorem Cx.Ok.nofr(ok:X.Ok){b:Addr}{o:Obj}(e:X.base.get? b=some o):b∉X.fs:=λhb=>by
 have:=(ok.funs.mem hb).1;rw[e]at this;cases this
theorem Inv.bs(I:Inv X pins σ H s):∀b o,X.base.get? b=some o->s.heap.get? b=some o/\H b=none:=λb o e =>
 ⟨I.base.keep b o (I.ok.bs b o e).1 (I.ok.bs b o e).2 (I.ok.nofr e) (I.ok.noex b o e),I.base.free b o (I.ok.bs b o e).1 (I.ok.bs b o e).2 (I.ok.noex b o e)⟩
theorem Inv.bk(I:Inv X pins σ H s):∀b o,X.base.get? b=some o->s.heap.get? b=some o:=λb o e=>(I.bs b o e).1
theorem Inv.mod(I:Inv X pins σ H s):Mod X.K X.mg X.base:=I.ok.mod
theorem Inv.kIn(I:Inv X pins σ H s):X.K.In s.heap:=I.ok.mod.kin.keeps I.bk
theorem Inv.fr(I:Inv X pins σ H s):∃m,Fr X.base X.env.locals s.heap m :=
 let ⟨m,hn,_⟩:=I.loc
 ⟨m,hn,I.bk,yaA I.ok.bsz I.ok.above⟩
theorem Inv.lt(I:Inv X pins σ H s):X.env.locals < s.heap.objs.size:=let ⟨_,hn,_⟩:=I.loc;hn.lt
theorem Inv.sz(I:Inv X pins σ H s):X.s₀.heap.objs.size<=s.heap.objs.size:=yaA I.ok.above (yco I.lt)
theorem Inv.nofs(I:Inv X pins σ H s){a:Addr}(h:s.heap.objs.size<=a):a∉X.fs:=λhb=>by
 obtain⟨_,o,ho,_⟩:=I.ok.funs.mem hb;exact absurd (yaH (yau ho) (yaA I.sz h)) (ybb _)
theorem Inv.cne(I:Inv X pins σ H s):∀x c,X.env.cells.lookup x=some c->c≠X.env.locals:=λx c e z=>by
 obtain⟨v,o,ho,hd⟩:=I.cell x c e;obtain⟨m,⟨o',es,ep,ho',hd',_⟩,_⟩:=I.loc;rw[z,ho']at ho;cases ho;rw[hd']at hd;cases hd
theorem Inv.funs(I:Inv X pins σ H s):s.heap.FunFrames X.base X.outer:=by
 have all:∀(l:List Env),(∀b∈frs l,b∈X.fs)->X.s₀.heap.FunFrames X.base l->s.heap.FunFrames X.base l:=by
  intro l
  induction l with
  | nil=>intro _ _;trivial
  | cons env r ih =>
   intro hs hl;obtain⟨hk,⟨L,o,hf,hn,ho,hd⟩,hr⟩:=hl;have hL:L∈X.fs:=hs L (by unfold frs;rw[ybg,hf];exact yac);obtain⟨sl,e⟩:=I.base.slot L o ho (I.ok.frf L hL) hL λz=>I.ok.exfs L z hL;exact⟨hk,⟨L,_,hf,hn,e,hd⟩,ih (λb hb=>hs b (by unfold frs;rw[ybg,hf];exact yad _ hb)) hr⟩
 exact all X.outer (λ_ hb=>hb) I.ok.funs
theorem Inv.stack(I:Inv X pins σ H s):s.heap.FunFrames X.base X.stack:=by
 rcases I.ok.stk with e | ⟨e,hf⟩
 . rw[e];exact I.funs
 . rw[e];obtain⟨m,hn,_⟩:=I.loc;refine .cons (by rw[I.ok.kind];decide) hf hn ?_ I.funs;exact Heap.get?_none_of_le (yaA I.ok.bsz I.ok.above)
theorem Inv.znz(I:Inv X pins σ H s):∀b∈frs X.stack,b∈X.env.locals::X.fs:=λb hb=>by
 rcases I.ok.stk with e | ⟨e,hf⟩
 . rw[e]at hb;exact yad _ hb
 . rw[e]at hb;unfold frs at hb;rw[ybg,hf]at hb;exact hb
theorem Inv.zhW(I:Inv X pins σ H s):∀b∈frs X.stack,H b=none:=λb hb=>by
 rcases yat.mp (I.znz b hb) with e | hb
 . rw[e];exact I.free
 . obtain⟨_,o,ho,_⟩:=I.ok.funs.mem hb;exact I.base.free b o ho (I.ok.frf b hb) λz=>I.ok.exfs b z hb
theorem Inv.step{g':Array GenState}{t':Nat}{d':Drawn}{ch:List Addr}(I:Inv X pins σ H s)
   (hch:∀b∈ch,(b∈X.ex\/X.s₀.heap.objs.size<=b)/\b≠X.env.locals/\(∀x c,X.env.cells.lookup x=some c->c≠b)/\∀p∈X.pn++pins,p.1≠b)
   (keep:∀b o,b≠X.env.locals->b∉X.fs->b∉ch->s.heap.get? b=some o->H b=none->h'.get? b=some o)
   (slot:∀b o,b≠X.env.locals->b∈X.fs->b∉ch->s.heap.get? b=some o->H b=none->∃sl,h'.get? b=some { o with slots:=sl }) (free:∀b o,b∉ch->s.heap.get? b=some o->H b=none->H' b=none)
   (there:∀b o,b∉ch->s.heap.get? b=some o->∃o',h'.get? b=some o')
   (tups:∀b xs,H b=some (.tup xs)->H' b=some (.tup xs)) (frzs:∀b o u,H b=some (.frz o u)->H' b=some (.frz o u)) (tbls:∀b ps,H b=some (.tbl ps)->∃more,H' b=some (.tbl (ps++more)))
   (ns:∀m,s.heap.Ns X.env.locals m->h'.Ns X.env.locals m) (hok:HOk X.prog X.w H' h') (hg:AllBare g') :
   Inv X pins σ H' { s with heap:=h',gens:=g',drawn:=d',toks:=t' }:=by
 have neL:∀b o,X.s₀.heap.get? b=some o->b≠X.env.locals:=λb o e=>yaI (yaH (yau e) I.ok.above);have neC:∀b o,X.s₀.heap.get? b=some o->b∉X.ex->b∉ch:=λb o e hx hb=>by
   rcases(hch b hb).1 with z | z
   . exact hx z
   . exact absurd (yaH (yau e) z) (ybb _)
 have cellK:∀x c,X.env.cells.lookup x=some c->∀v,s.heap.IsCell c v->h'.IsCell c v:=λx c e v ⟨o,ho,hd⟩=>by
   have nch:c∉ch:=λz=>(hch c z).2.2.1 x c e rfl;by_cases hc:c∈X.fs
   . obtain⟨sl,q⟩:=slot c o (I.cne x c e) hc nch ho (I.zew x c e);exact⟨_,q,hd⟩
   . exact⟨o,keep c o (I.cne x c e) hc nch ho (I.zew x c e),hd⟩
 refine⟨I.ok,I.os,hg,⟨λb o e n hb hx=>?_,λb o e n hb hx=>?_,λb o e n hx=>?_,λb o e hx=>?_,λb xs e=>tups b xs (I.base.tups b xs e),λb o xs e=>frzs b o xs (I.base.frzs b o xs e),λb ps e=>?_⟩,?_,λx c e=>?_,?_,λx c e=>?_,λp hp=>?_,hok,I.len⟩
 . exact keep b o (neL b o e) hb (neC b o e hx) (I.base.keep b o e n hb hx) (I.base.free b o e n hx)
 . obtain⟨sl,e1⟩:=I.base.slot b o e n hb hx;obtain⟨sl',e2⟩:=slot b _ (neL b o e) hb (neC b o e hx) e1 (I.base.free b o e n hx);exact⟨sl',e2⟩
 . obtain⟨o',e1⟩:=I.base.there b o e hx;exact free b o' (neC b o e hx) e1 (I.base.free b o e n hx)
 . obtain⟨o',e1⟩:=I.base.there b o e hx;exact there b o' (neC b o e hx) e1
 . obtain⟨m1,e1⟩:=I.base.tbls b ps e;obtain⟨m2,e2⟩:=tbls b _ e1;exact⟨m1++m2,by rw[e2,Array.append_assoc]⟩
 . obtain⟨m,hn,hl⟩:=I.loc;refine⟨m,ns m hn,λi x v e1 e2 e3=>?_⟩;obtain⟨u,r,l⟩:=hl i x v e1 e2 e3;refine⟨u,r,?_⟩;rcases l with l | ⟨k,c,e,z⟩
   . exact .inl l
   . exact .inr ⟨k,c,e,cellK x c e _ z⟩
 . obtain⟨v,z⟩:=I.cell x c e;exact⟨v,cellK x c e v z⟩
 . obtain⟨m,⟨o,_,_,ho,_⟩,_⟩:=I.loc;exact free _ o (λz=>(hch _ z).2.1 rfl) ho I.free
 . obtain⟨v,o,ho,hd⟩:=I.cell x c e;exact free c o (λz=>(hch c z).2.2.1 x c e rfl) ho (I.zew x c e)
 . obtain⟨e,n,ne,nf,d⟩:=I.pin p hp;have nch:p.1∉ch:=λz=>(hch p.1 z).2.2.2 p hp rfl;exact⟨keep p.1 p.2 ne nf nch e n,free p.1 p.2 nch e n,ne,nf,d⟩
theorem Inv.un{t':Nat}(I:Inv X pins σ H s)(u:Un X.fs [] H H' s.heap h')(hok:HOk X.prog X.w H' h'):Inv X pins σ H' { s with heap:=h',toks:=t' }:=by
 obtain⟨m,⟨o,es,ep,ho,r⟩,_⟩:=id I.loc;obtain⟨sl,hL⟩:=u.any ho I.free (by simp);exact I.step (g':=s.gens) (d':=s.drawn) (ch:=[]) (λ_ z=>nomatch z) (λb o _ hb _ e n=>u.keep b o e n hb (by simp)) (λb o _ hb _ e n=>u.slot b o e n hb (by simp)) (λb o _ e n=>u.free b o e n (by simp)) (λb o _ e=>u.there b o e (by simp)) u.tups u.frzs u.tbls (λm' hm=>by
  obtain⟨o',es',ep',ho',r'⟩:=hm;rw[ho]at ho';cases ho';exact⟨_,es',ep',hL,r'⟩) hok I.bare
theorem Inv.call{g':Array GenState}{t':Nat}{d':Drawn}{ch:List Addr}(I:Inv X pins σ H s)(u:Un (frs X.stack) ch H H' s.heap h')(hok:HOk X.prog X.w H' h')(hg:AllBare g')
  (hch:∀b∈ch,(b∈X.ex\/X.s₀.heap.objs.size<=b)/\b≠X.env.locals/\(∀x c,X.env.cells.lookup x=some c->c≠b)/\∀p∈X.pn++pins,p.1≠b) :
  Inv X pins σ H' { s with heap:=h',gens:=g',drawn:=d',toks:=t' }:=by
 obtain⟨m,⟨o,es,ep,ho,r⟩,_⟩:=id I.loc;obtain⟨sl,hL⟩:=u.any ho I.free λz=>(hch _ z).2.1 rfl;exact I.step (ch:=ch) hch (λb o hL hb hc e n=>u.keep b o e n (λz=>(yat.mp (I.znz b z)).elim hL hb) hc) (λb o _ _ hc e n=>u.any e n hc) (λb o hc e n=>u.free b o e n hc) (λb o hc e=>u.there b o e hc) u.tups u.frzs u.tbls (λm' hm=>by
  obtain⟨o',es',ep',ho',r'⟩:=hm;rw[ho]at ho';cases ho';exact⟨_,es',ep',hL,r'⟩) hok hg
theorem Inv.turned{t':Nat}{it:Addr}(I:Inv X pins σ H s)(k:∀b o,b≠it->s.heap.get? b=some o->h'.get? b=some o)(hn:H it=none)(hL:it≠X.env.locals)
   (h1:it∈X.ex\/X.s₀.heap.objs.size<=it) (h2:∀x c,X.env.cells.lookup x=some c->c≠it) (h3:∀p∈X.pn++pins,p.1≠it):Inv X pins σ H { s with heap:=h',toks:=t' }:=by
 have nit:∀b u,H b=some u->b≠it:=λb u e z=>by rw[z,hn]at e;cases e
 refine I.step (g':=s.gens) (d':=s.drawn) (ch:=[it]) (λb hb=>?_) (λb o _ _ hc e _=>k b o (λz=>hc (by simp[z])) e) (λb o _ _ hc e _=>⟨o.slots,k b o (λz=>hc (by simp[z])) e⟩) (λ_ _ _ _ n=>n)
   (λb o hc e=>⟨o,k b o (λz=>hc (by simp[z])) e⟩) (λ_ _ e=>e) (λ_ _ _ e=>e) (λb ps e=>⟨#[],by rw[e];simp⟩) (λm hm=>?_) (λb u e=>?_) I.bare
 . have e:b=it:=by simpa using hb
   subst e;exact⟨h1,hL,h2,h3⟩
 . obtain⟨o,es,ep,ho,r⟩:=hm;exact⟨o,es,ep,k _ o (ybn hL) ho,r⟩
 . refine(I.hok b u e).stay (λc v hc q=>k c v ?_ q) (λ_ q=>q) λ_ _ q=>q;rcases hc with z | z
   . rw[z];exact nit b u e
   . exact nit c _ z
theorem Inv.tok(I:Inv X pins σ H s)(t:Nat):Inv X pins σ H { s with toks:=t }:=I.un (h':=s.heap) (t':=t) Un.refl I.hok
theorem Inv.kept{t':Nat}(I:Inv X pins σ H s)(k:∀b u,s.heap.get? b=some u->h'.get? b=some u):Inv X pins σ H { s with heap:=h',toks:=t' }:=I.un (Un.kept k) (I.hok.kept k)
theorem Inv.laid{a:Addr}{o:HO}{t':Nat}(I:Inv X pins σ H s)(k:∀b u,s.heap.get? b=some u->h'.get? b=some u)(hp:s.heap.objs.size<=a)(new:zbM X.prog X.w (upd H a o) h' a o) :
 Inv X pins σ (upd H a o) { s with heap:=h',toks:=t' }:=I.un (Un.laid k hp (I.hok.fresh hp)) (I.hok.laid k hp new)
theorem Inv.write{x e:Addr}{o:HO}{t':Nat}(I:Inv X pins σ H s)(mu:Mut (H x))(he:e=x\/H e=some (.own x))(k:∀b u,b≠e->s.heap.get? b=some u->h'.get? b=some u)(heo:∃u,h'.get? e=some u)
 (new:zbM X.prog X.w (upd H x o) h' x o):Inv X pins σ (upd H x o) { s with heap:=h',toks:=t' }:=I.un (Un.write mu he k heo) (I.hok.write mu he k heo new)
theorem Inv.weak{σ':List (Option V)}(I:Inv X pins σ H s)(hl:σ'.length=σ.length)(w:∀(i:Nat) v,σ'[i]?=some (some v)->σ[i]?=some (some v)):Inv X pins σ' H s :=
 ⟨I.ok,I.os,I.bare,I.base,let ⟨m,hn,hl'⟩:=I.loc;⟨m,hn,λi x v e1 e2 e3=>hl' i x v e1 (w i v e2) e3⟩,I.cell,I.free,I.zew,I.pin,I.hok,hl.trans I.len⟩
theorem Inv.zid{pins':List (Addr×Obj)}(I:Inv X pins σ H s)(h:∀p∈pins',s.heap.get? p.1=some p.2/\H p.1=none/\p.1≠X.env.locals/\p.1∉X.fs/\∀v,p.2.data≠.cell v):Inv X pins' σ H s :=
 ⟨I.ok,I.os,I.bare,I.base,I.loc,I.cell,I.free,I.zew,λp hp=>(yas.mp hp).elim (λz=>I.pin p (yaJ _ z)) (h p),I.hok,I.len⟩
theorem znN{N:List Str}(hN:N.Nodup){i j:Nat}{x:Str}(a:N[i]?=some x)(b:N[j]?=some x):i=j:=by
 obtain⟨h1,e1⟩:=yar.mp a;obtain⟨h2,e2⟩:=yar.mp b;exact(ydF hN).mp (e1.trans e2.symm)
theorem zk3{M:Model}{A:Around}{E:Value->Shared->Prop}{i:Nat}{x:Str}{v:V}{u:Value}{Q:Unit->Shared->Prop}(I:Inv X pins σ H s)(hN:X.N.Nodup)(hi:X.N[i]?=some x)(hx:Loc X.env.scope x)(r:RelV v u)
   (h:∀s',Inv X pins (σ.set i (some v)) H s'->(∃a,Heap.SameBut a s.heap s'.heap/\(a=X.env.locals\/X.env.cells.lookup x=some a))->Q () s') (hf:X.fn x=true\/X.env.scope.names.lookup x=some .local:=by first | exact .inl rfl | exact .inr rfl | assumption):wpAny M A (storeName X.env x u) Q E s:=by
 obtain⟨m,hn,hl⟩:=id I.loc;have hcls:(X.env.scope.kind == .class || (X.env.scope.kind == .module && X.env.locals != X.env.globals))=false:=by rw[I.ok.kind];rfl
 have hiσ:i < σ.length:=by rw[I.len];exact(yar.mp hi).1
 have cne:=I.cne;have tracked:∀{a:Addr} {h':Heap},(∃o,s.heap.get? a=some o/\H a=none)->Heap.SameBut a s.heap h'->HOk X.prog X.w H h':=λ{a h'} ha hs b ob e=>by
   obtain⟨_,_,hfree⟩:=ha;refine(I.hok b ob e).stay (λc w' hc q=>(hs.2 c ?_).trans q) (λ_ q=>q) λ_ _ q=>q;rintro rfl;rcases hc with rfl | hc
   . rw[hfree]at e;cases e
   . rw[hfree]at hc;cases hc
 rcases hx with hk | hk
 . refine wpAny_storeName_local hk hn (λh' hn' hs=>?_) hcls;obtain⟨oL,_,_,hoL,_⟩:=id hn;refine h _ ⟨I.ok,I.os,I.bare,⟨λb o e n hb hx=>?_,λb o e n hb hx=>?_,I.base.free,λb o e hx=>?_,I.base.tups,I.base.frzs,I.base.tbls⟩,⟨_,hn',λj y v' e1 e2 e3=>?_⟩,λy c e=>?_,I.free,I.zew,λp hp=>?_,tracked ⟨oL,hoL,I.free⟩ hs,by simpa using I.len⟩ ⟨_,hs,.inl rfl⟩
   . exact(hs.2 b (yaI (yaH (yau e) I.ok.above))).trans (I.base.keep b o e n hb hx)
   . obtain⟨sl,e1⟩:=I.base.slot b o e n hb hx;exact⟨sl,(hs.2 b (yaI (yaH (yau e) I.ok.above))).trans e1⟩
   . obtain⟨o',e1⟩:=I.base.there b o e hx;exact⟨o',(hs.2 b (yaI (yaH (yau e) I.ok.above))).trans e1⟩
   . by_cases hj:j=i
     . subst hj;rw[hi]at e1;cases e1;rw[ydN hiσ]at e2;cases e2;exact⟨u,r,.inl ⟨hk,by simp⟩⟩
     . rw[List.getElem?_set_ne (ybn hj)]at e2;obtain⟨u',r',q⟩:=hl j y v' e1 e2 e3;refine⟨u',r',?_⟩;rcases q with ⟨k,e⟩ | ⟨k,c,e,z⟩
       . refine .inl ⟨k,?_⟩;have:y≠x:=λe=>hj (znN hN e1 (e▸hi));simp[this,e]
       . exact .inr ⟨k,c,e,z.sameBut hs (cne y c e)⟩
   . obtain⟨w',z⟩:=I.cell y c e;exact⟨w',z.sameBut hs (cne y c e)⟩
   . obtain⟨e,n,ne,nf,d⟩:=I.pin p hp;exact⟨(hs.2 p.1 ne).trans e,n,ne,nf,d⟩
 . have hfn:X.fn x=true:=by
     rcases hf with z | z
     . exact z
     . rw[z]at hk;cases hk
   obtain⟨c,hc⟩:=I.ok.has x (.inl hk);obtain⟨w',z⟩:=I.cell x c hc;refine wpAny_storeName_cell I.ok.kind hk hc z (λh' hc' hs=>?_);obtain⟨oc,hoc,hocd⟩:=id z;refine h { s with heap:=h' } ⟨I.ok,I.os,I.bare,⟨λb o e n hb hx=>?_,λb o e n hb hx=>?_,I.base.free,λb o e hx=>?_,I.base.tups,I.base.frzs,I.base.tbls⟩,⟨m,hn.sameBut hs (ybn (cne x c hc)),λj y v' e1 e2 e3=>?_⟩,λy c' e=>?_,I.free,I.zew,λp hp=>?_,tracked ⟨oc,hoc,I.zew x c hc⟩ hs,by simpa using I.len⟩ ⟨c,hs,.inr hc⟩
   . exact(hs.2 b (yaI (yaH (yau e) (I.ok.cab x c hfn hc)))).trans (I.base.keep b o e n hb hx)
   . obtain⟨sl,e1⟩:=I.base.slot b o e n hb hx;exact⟨sl,(hs.2 b (yaI (yaH (yau e) (I.ok.cab x c hfn hc)))).trans e1⟩
   . obtain⟨o',e1⟩:=I.base.there b o e hx;exact⟨o',(hs.2 b (yaI (yaH (yau e) (I.ok.cab x c hfn hc)))).trans e1⟩
   . by_cases hj:j=i
     . subst hj;rw[hi]at e1;cases e1;rw[ydN hiσ]at e2;cases e2;exact⟨u,r,.inr ⟨.inl hk,c,hc,hc'⟩⟩
     . rw[List.getElem?_set_ne (ybn hj)]at e2;obtain⟨u',r',q⟩:=hl j y v' e1 e2 e3;refine⟨u',r',?_⟩;rcases q with q | ⟨k,c',e,z'⟩
       . exact .inl q
       . refine .inr ⟨k,c',e,z'.sameBut hs ?_⟩;rintro rfl;exact hj (znN hN e1 (I.ok.inj _ _ _ e hc▸hi))
   . by_cases hcc:c'=c
     . subst hcc;exact⟨_,hc'⟩
     . obtain⟨w2,z2⟩:=I.cell y c' e;exact⟨w2,z2.sameBut hs hcc⟩
   . obtain⟨e,n,ne,nf,d⟩:=I.pin p hp;refine⟨(hs.2 p.1 ?_).trans e,n,ne,nf,d⟩;intro q;rw[q,hoc]at e;have q':oc=p.2:=yaL e;exact d w' (by rw[<-q'];exact hocd)
theorem zny{M:Model}{A:Around}{E:Value->Shared->Prop}{i:Nat}{x:Str}{v:V}{u:Value}{Q:Unit->Shared->Prop}(I:Inv X pins σ H s)(hN:X.N.Nodup)(hi:X.N[i]?=some x)(hx:Loc X.env.scope x)(r:RelV v u)
  (h:∀s',Inv X pins (σ.set i (some v)) H s'->Q () s') (hf:X.fn x=true\/X.env.scope.names.lookup x=some .local:=by first | exact .inl rfl | exact .inr rfl | assumption):wpAny M A (storeName X.env x u) Q E s :=
 zk3 I hN hi hx r (λs' I' _=>h s' I') hf
theorem Inv.ztb{s':Shared}{ch:List Addr}(I:Inv X pins σ H s)(ho:s'.os=s.os)(u:Un (frs X.stack) ch H H' s.heap s'.heap)(hok:HOk X.prog X.w H' s'.heap)(hg:AllBare s'.gens)
  (hch:∀b∈ch,(b∈X.ex\/X.s₀.heap.objs.size<=b)/\b≠X.env.locals/\(∀x c,X.env.cells.lookup x=some c->c≠b)/\∀p∈X.pn++pins,p.1≠b):Inv X pins σ H' s':=by
 obtain⟨h',g',d',t',o'⟩:=s';have e:o'=s.os:=ho;subst e;exact I.call (g':=g') (t':=t') (d':=d') u hok hg hch
end
abbrev XK:=Value->Option Addr->Hp->Prop
abbrev St:=List (Option V)
abbrev VK:=V->Hp->Prop
abbrev TE:=St->Hp->VK->Prop
abbrev TT:=St->Hp->(Bool->Hp->Prop)->Prop
abbrev TA:=St->Hp->(List V->Hp->Prop)->Prop
structure Ends where
 nx:St->Hp->Prop
 rt:VK
 bk:St->Hp->Prop:=λ_ _=>False
 ct:St->Hp->Prop:=λ_ _=>False
abbrev TS:=Ends->St->Hp->Prop
def EP(X:Cx)(pins:List (Addr×Obj))(σ:St)(Q:VK)(u:Value)(s':Shared):Prop:=∃v H',Inv X pins σ H' s'/\RelV v u/\Q v H'
def TP(X:Cx)(pins:List (Addr×Obj))(σ:St)(Q:Bool->Hp->Prop)(b:Bool)(s':Shared):Prop:=∃H',Inv X pins σ H' s'/\Q b H'
def AP(X:Cx)(pins:List (Addr×Obj))(σ:St)(Q:List V->Hp->Prop)(us:List Value)(s':Shared):Prop:=∃vs H',Inv X pins σ H' s'/\Vals vs us/\Q vs H'
def SP(X:Cx)(pins:List (Addr×Obj))(D:Ends)(f:Flow)(s':Shared):Prop :=
 match f with
 | .next=>∃σ' H',Inv X pins σ' H' s'/\D.nx σ' H'
 | .brk=>∃σ' H',Inv X pins σ' H' s'/\D.bk σ' H'
 | .cont=>∃σ' H',Inv X pins σ' H' s'/\D.ct σ' H'
 | .ret u=>∃v σ' H',Inv X pins σ' H' s'/\RelV v u/\D.rt v H'
def PE(X:Cx)(e:Expr)(t:TE):Prop :=
 ∀(pins:List (Addr×Obj)) (s:Shared) (σ:St) (H:Hp) (Q:VK),Inv X pins σ H s->t σ H Q->wpAny (model X.prog X.w) X.A (eval e X.env) (EP X pins σ Q) X.xe s
def PT(X:Cx)(e:Expr)(t:TT):Prop :=
 ∀(pins:List (Addr×Obj)) (s:Shared) (σ:St) (H:Hp) (Q:Bool->Hp->Prop),Inv X pins σ H s->t σ H Q->wpAny (model X.prog X.w) X.A (isTrue e X.env (eval e X.env)) (TP X pins σ Q) X.xe s
def PW(X:Cx)(e:Expr)(t:TT):Prop :=
 ∀(whole:Sem Value) (pins:List (Addr×Obj)) (s:Shared) (σ:St) (H:Hp) (Q:Bool->Hp->Prop),Inv X pins σ H s->t σ H Q->wpAny (model X.prog X.w) X.A (isTrue e X.env whole) (TP X pins σ Q) X.xe s
theorem PW.pt{X:Cx}{e:Expr}{t:TT}(h:PW X e t):PT X e t:=h _
def PA(X:Cx)(es:List Expr)(t:TA):Prop :=
 ∀(pos:Pos) (pins:List (Addr×Obj)) (s:Shared) (σ:St) (H:Hp) (Q:List V->Hp->Prop),Inv X pins σ H s->t σ H Q->wpAny (model X.prog X.w) X.A (spliced (backTo pos (starEach es X.env))) (AP X pins σ Q) X.xe s
def PS(X:Cx)(st:Stmt)(t:TS):Prop :=
 ∀(pins:List (Addr×Obj)) (s:Shared) (σ:St) (H:Hp) (D:Ends),Inv X pins σ H s->t D σ H->wpAny (model X.prog X.w) X.A (exec st X.env) (SP X pins D) X.xe s
def PSs(X:Cx)(st:List Stmt)(t:TS):Prop :=
 ∀(pins:List (Addr×Obj)) (s:Shared) (σ:St) (H:Hp) (D:Ends),Inv X pins σ H s->t D σ H->wpAny (model X.prog X.w) X.A (execs st X.env) (SP X pins D) X.xe s
theorem thn{α:Type}{t:Sem α}{Q Q':α->Shared->Prop}{M:Model}{A:Around}{E:Value->Shared->Prop}{s:Shared}(h:wpAny M A t Q E s)(hQ:∀a s,Q a s->Q' a s):wpAny M A t Q' E s:=ybk h hQ λ_ _ x=>x
end L2
namespace L2
open PySem PySem.Spec PyProof.Rows
section
variable{X:Cx}
theorem bin{a b:Expr}{ta tb:TE}(ha:PE X a ta)(hb:PE X b tb){pins:List (Addr×Obj)}{s:Shared}{σ:St}{H:Hp}{R:V->V->Hp->Prop}(I:Inv X pins σ H s)(h:ta σ H λx H1=>tb σ H1 λy H2=>R x y H2)
  {α:Type} {Q:α->Shared->Prop} {f:Value->Value->Sem α}
  (hf:∀v u s2 x y H2,Inv X pins σ H2 s2->RelV x v->RelV y u->R x y H2->wpAny (model X.prog X.w) X.A (f v u) Q X.xe s2) :
  wpAny (model X.prog X.w) X.A (eval a X.env) (λv s₁=>wpAny (model X.prog X.w) X.A (eval b X.env) (λu s₂=>wpAny (model X.prog X.w) X.A (f v u) Q X.xe s₂) X.xe s₁) X.xe s:=by
 refine thn (ha pins s σ H _ I h) λv s1 ⟨x,H1,I1,r1,q1⟩=>?_;refine thn (hb pins s1 σ H1 _ I1 q1) λu s2 ⟨y,H2,I2,r2,q2⟩=>?_;exact hf v u s2 x y H2 I2 r1 r2 q2
def tVar(i:Nat):TE:=λσ H Q=>∃v,σ[i]?=some (some v)/\Q v H
def tC(v:V):TE:=λ_ H Q=>Q v H
theorem ztW{i:Nat}{x:Str}{pos:Pos}(hN:X.N[i]?=some x)(hv:Vis X.env.scope x)(hd:(x == ("__debug__" : Str))=false:=by decide)(hcd:(x == ("__classdict__" : Str))=false:=by decide):PE X (.Name x pos) (tVar i):=by
 intro pins s σ H Q I h;obtain⟨v,e,h⟩:=h;obtain⟨m,hn,hl⟩:=I.loc;obtain⟨u,r,l⟩:=hl i x v hN e hv;have fin:EP X pins σ Q u s:=⟨v,H,I,r,h⟩
 rcases l with ⟨hk,hm⟩ | ⟨hk,c,hc,hcell⟩
 . exact wpAny_Name (wpAny_loadName_local I.ok.kind hk hn hm fin) hd
 . rcases hk with hk | hk
   . exact wpAny_Name (wpAny_loadName_cell I.ok.kind hk hc hcell fin) hd
   . exact wpAny_Name (wpAny_loadName_free I.ok.kind hk hc hcell fin hcd) hd
theorem zak{i j pos}:PE X (.Constant (.int i) j pos) (tC (.int i)):=λ_ _ _ H _ I h=>wpAny_Constant_int ⟨.int i,H,I.tok _,⟨_,rfl⟩,h⟩
theorem zig{b j pos}:PE X (.Constant (.bool b) j pos) (tC (.bl b)):=λ_ _ _ H _ I h=>Constant_bool ⟨.bl b,H,I,rfl,h⟩
theorem zgj{j pos}:PE X (.Constant .none j pos) (tC .non):=λ_ _ _ H _ I h=>Constant_none ⟨.non,H,I,rfl,h⟩
theorem zaQ{x j pos}:PE X (.Constant (.str x) j pos) (tC (.str x)):=λ_ _ _ H _ I h=>Calls.Constant_str ⟨.str x,H,I.tok _,⟨_,rfl⟩,h⟩
def Gl(X:Cx)(x:Str):Prop:=X.env.kindOf x=some .globalImplicit
theorem zg0{E:Value->Shared->Prop}{pins:List (Addr×Obj)}{s:Shared}{σ:St}{H:Hp}{x:Str}{u:Value}{pos:Pos}{Q:Value->Shared->Prop}(I:Inv X pins σ H s)(hg:Gl X x)(hm:X.mg x=some u)(h:Q u s)
  (hd:(x == ("__debug__" : Str))=false:=by decide):wpAny (model X.prog X.w) X.A (eval (.Name x pos) X.env) Q E s :=
 Calls.Name_function_global I.ok.kind hg (Calls.loadGlobal_global (by rw[I.ok.glob];exact I.mod.glob.keeps I.bk) hm h) hd
theorem znS{E:Value->Shared->Prop}{pins:List (Addr×Obj)}{s:Shared}{σ:St}{H:Hp}{x:Str}{u:Value}{pos:Pos}{Q:Value->Shared->Prop}(I:Inv X pins σ H s)(hg:Gl X x)(hm:X.mg x=none)(hv:bootBuiltins x=some u)(h:Q u s)
  (hn:x ≠ "__name__" := by decide) (hd:(x == ("__debug__" : Str))=false:=by decide):wpAny (model X.prog X.w) X.A (eval (.Name x pos) X.env) Q E s:=by
 obtain⟨mb,h1,h2⟩:=I.mod.blt;exact Calls.Name_function_global I.ok.kind hg (Calls.loadGlobal_builtin (by rw[I.ok.glob];exact I.mod.glob.keeps I.bk) hm (by rw[I.ok.blt];exact h1.keeps I.bk) ((h2 x hn).trans hv) h) hd
theorem zmB{x:Str}{v:V}{u:Value}{pos:Pos}(hg:Gl X x)(hm:X.mg x=some u)(r:RelV v u)(hd:(x == ("__debug__" : Str))=false:=by decide):PE X (.Name x pos) (tC v) :=
 λ_ _ _ H _ I h=>zg0 I hg hm ⟨v,H,I,r,h⟩ hd
theorem zsN{x:Str}{v:V}{u:Value}{pos:Pos}(hg:Gl X x)(hm:X.mg x=none)(hv:bootBuiltins x=some u)(r:RelV v u)(hn:x ≠ "__name__" := by decide)(hd:(x == ("__debug__" : Str))=false:=by decide):PE X (.Name x pos) (tC v) :=
 λ_ _ _ H _ I h=>znS I hg hm hv ⟨v,H,I,r,h⟩ hn hd
variable{a b:Expr}{ta tb:TE}{pos:Pos}
def PC(X:Cx)(op:CmpOp)(a b:Expr)(t:TE):Prop :=
 ∀(pins:List (Addr×Obj)) (s:Shared) (σ:St) (H:Hp) (Q:VK),Inv X pins σ H s->t σ H Q ->
  wpAny (model X.prog X.w) X.A (eval a X.env) (λv s₁=>wpAny (model X.prog X.w) X.A (eval b X.env) (λu s₂=>wpAny (model X.prog X.w) X.A (compareOp op v u) (EP X pins σ Q) X.xe s₂) X.xe s₁) X.xe s
theorem znO(b:Expr){op:CmpOp}(h:op≠.In)(h2:op≠.NotIn):behindInMarks op b=false:=by
 have e1:(op == CmpOp.In)=false:=by cases op<;>first | rfl | exact absurd rfl h
 have e2:(op == CmpOp.NotIn)=false:=by cases op<;>first | rfl | exact absurd rfl h2
 cases b<;>simp[behindInMarks,e1,e2]
def tIsN(ta:TE):TE:=λσ H Q=>ta σ H λx H1=>Q (.bl (decide (x=.non))) H1
def zuE(ta:TE):TE:=λσ H Q=>ta σ H λx H1=>Q (.bl (!decide (x=.non))) H1
theorem RelV.znM{x:V}{v:Value}(r:RelV x v):(v == Value.none)=decide (x=.non):=by
 cases x with
 | non=>cases r;rfl
 | bl _=>cases r;rfl
 | int _=>obtain⟨t,rfl⟩:=r;rfl
 | str _=>obtain⟨t,rfl⟩:=r;rfl
 | byt _=>obtain⟨t,rfl⟩:=r;rfl
 | flt _=>obtain⟨t,rfl⟩:=r;rfl
 | ref _=>cases r;rfl
 | ty _=>cases r;rfl
theorem zt1{j pos'}(ha:PE X a ta):PC X .Is a (.Constant .none j pos') (tIsN ta):=by
 intro pins s σ H Q I h;refine thn (ha pins s σ H _ I h) λv s1 ⟨x,H1,I1,r1,q1⟩=>?_;exact Constant_none (is_none_gen ⟨.bl _,H1,I1,by rw[r1.znM];rfl,q1⟩)
theorem zmC{j pos'}(ha:PE X a ta):PC X .IsNot a (.Constant .none j pos') (zuE ta):=by
 intro pins s σ H Q I h;refine thn (ha pins s σ H _ I h) λv s1 ⟨x,H1,I1,r1,q1⟩=>?_;exact Constant_none (isnot_none_gen ⟨.bl _,H1,I1,by rw[r1.znM];rfl,q1⟩)
def tB(t:TE):TT:=λσ H Q=>t σ H λx H1=>∃c,x=.bl c/\Q c H1
theorem zt0{op:CmpOp}{t:TE}(h:PC X op a b t)(h1:behindInMarks op b=false:=by first | exact znO _ (by decide) (by decide) | rfl):PE X (.Compare a [op] [b] pos) t:=λpins s σ H Q I hw=>wpAny_Compare1 (h pins s σ H Q I hw) h1
theorem zgg{op:CmpOp}{t:TE}(h:PC X op a b t)(h1:behindInMarks op b=false:=by first | exact znO _ (by decide) (by decide) | rfl):PT X (.Compare a [op] [b] pos) (tB t):=by
 intro pins s σ H Q I hw;refine wpAny_isTrue_Compare1 (thn (h pins s σ H _ I hw) λv s1 h1=>thn h1 λu s2 h2=>thn h2 λc s3 ⟨x,H1,I1,r1,q1⟩=>?_) h1;obtain⟨d,rfl,q⟩:=q1;cases r1;exact yb7 ⟨H1,I1,q⟩
theorem zlm{e:Expr}{t:TE}(h:PE X e t)(he:∀whole,isTrue e X.env whole=(do let v <-whole;standAt e.pos;holding [v] (truthy v)):=by intro _;rfl):PT X e (tB t):=by
 intro pins s σ H Q I hw;refine isTrue_plain (thn (h pins s σ H _ I hw) λv s1 ⟨x,H1,I1,r1,q1⟩=>?_) (he _);obtain⟨d,rfl,q⟩:=q1;cases r1;exact yb7 ⟨H1,I1,q⟩
variable{tA tB':TT}{rest:List Expr}
def tAnd(t u:TT):TT:=λσ H Q=>t σ H λc H1=>if c=true then u σ H1 Q else Q false H1
def tOr(t u:TT):TT:=λσ H Q=>t σ H λc H1=>if c=true then Q true H1 else u σ H1 Q
def tNot(t:TT):TT:=λσ H Q=>t σ H λc H1=>Q (!c) H1
theorem zkc(ha:PT X a tA):PW X (.BoolOp .And [a] pos) tA:=by
 intro wh pins s σ H Q I h;refine isTrue_and (thn (ha pins s σ H Q I h) λc s1 e=>?_);cases c with
 | true=>exact isTrue_and_nil e
 | false=>exact e
theorem zib(ha:PT X a tA):PW X (.BoolOp .Or [a] pos) tA:=by
 intro wh pins s σ H Q I h;refine isTrue_or (thn (ha pins s σ H Q I h) λc s1 e=>?_);cases c with
 | false=>exact isTrue_or_nil e
 | true=>exact e
theorem znD(ha:PT X a tA)(hb:PW X (.BoolOp .And (b::rest) pos) tB'):PW X (.BoolOp .And (a::b::rest) pos) (tAnd tA tB'):=by
 intro wh pins s σ H Q I h;refine isTrue_and (thn (ha pins s σ H _ I h) λc s1 ⟨H1,I1,q1⟩=>?_);cases c with
 | true=>exact hb wh pins s1 σ H1 Q I1 q1
 | false=>exact⟨H1,I1,q1⟩
theorem zi6(ha:PT X a tA)(hb:PW X (.BoolOp .Or (b::rest) pos) tB'):PW X (.BoolOp .Or (a::b::rest) pos) (tOr tA tB'):=by
 intro wh pins s σ H Q I h;refine isTrue_or (thn (ha pins s σ H _ I h) λc s1 ⟨H1,I1,q1⟩=>?_);cases c with
 | true=>exact⟨H1,I1,q1⟩
 | false=>exact hb wh pins s1 σ H1 Q I1 q1
theorem zrU(ha:PT X a tA):PT X (.UnaryOp .Not a pos) (tNot tA):=by
 intro pins s σ H Q I h;exact isTrue_not (ha pins s σ H (λc H1=>Q (!c) H1) I h)
def zuI(ta tb:TE):TE:=λσ H Q=>ta σ H λx H1=>∃c,x=.bl c/\if c=true then tb σ H1 Q else Q (.bl false) H1
def tOrV(ta tb:TE):TE:=λσ H Q=>ta σ H λx H1=>∃c,x=.bl c/\if c=true then Q (.bl true) H1 else tb σ H1 Q
def zuD(ta:TE):TE:=λσ H Q=>ta σ H λx H1=>∃c,x=.bl c/\Q (.bl (!c)) H1
theorem zlp{op}{t:TE}(h:PE X a t):PE X (.BoolOp op [a] pos) t:=λpins s σ H Q I hw=>BoolOp_one (h pins s σ H Q I hw)
theorem zpK(ha:PE X a ta)(hb:PE X (.BoolOp .And (b::rest) pos) tb):PE X (.BoolOp .And (a::b::rest) pos) (zuI ta tb):=by
 intro pins s σ H Q I h;refine BoolOp_and (thn (ha pins s σ H _ I h) λv s1 ⟨x,H1,I1,r1,q1⟩=>?_);obtain⟨c,rfl,q1⟩:=q1;cases r1;refine yb7 ?_;cases c with
 | true=>exact hb pins s1 σ H1 Q I1 q1
 | false=>exact⟨.bl false,H1,I1,rfl,q1⟩
theorem ztX(ha:PE X a ta)(hb:PE X (.BoolOp .Or (b::rest) pos) tb):PE X (.BoolOp .Or (a::b::rest) pos) (tOrV ta tb):=by
 intro pins s σ H Q I h;refine BoolOp_or (thn (ha pins s σ H _ I h) λv s1 ⟨x,H1,I1,r1,q1⟩=>?_);obtain⟨c,rfl,q1⟩:=q1;cases r1;refine yb7 ?_;cases c with
 | false=>exact hb pins s1 σ H1 Q I1 q1
 | true=>exact⟨.bl true,H1,I1,rfl,q1⟩
theorem ztY(ha:PE X a ta):PE X (.UnaryOp .Not a pos) (zuD ta):=by
 intro pins s σ H Q I h;refine UnaryOp_ (thn (ha pins s σ H _ I h) λv s1 ⟨x,H1,I1,r1,q1⟩=>?_);obtain⟨c,rfl,q1⟩:=q1;cases r1;exact not_of (yb7 ⟨.bl (!c),H1,I1,rfl,q1⟩)
end
end L2
namespace L2
open PySem PySem.Spec PyProof.Rows
def SqL(K:PySem.W.Frag)(H:Hp)(a:Addr)(xs:List V):Prop :=
 Rd H a (.lst xs) \/
  ∃(o:Obj) (its:Array Value) (n:Nat),K.lookup a=some o/\o.cls=.type "list" /\ o.dict=none/\o.data=.seq its n/\its.size<=sizeLine/\Vals xs its.toList
def SqT(K:PySem.W.Frag)(H:Hp)(a:Addr)(xs:List V):Prop :=
 Rd H a (.tup xs) \/
  ∃(o:Obj) (its:Array Value) (n:Nat),K.lookup a=some o/\o.cls=.type "tuple" /\ o.data=.seq its n/\its.size<=sizeLine/\Vals xs its.toList
def absV:Value->Option V
 | .none=>some .non
 | .bool b=>some (.bl b)
 | .int i _=>some (.int i)
 | .str x _=>some (.str x)
 | .bytes b _=>some (.byt b)
 | .float b _=>some (.flt b)
 | .ref a=>some (.ref a)
 | .type n=>some (.ty n)
 | _=>none
theorem RelV.abs{x:V}{u:Value}(r:RelV x u):absV u=some x:=by
 cases x with
 | non=>cases r;rfl
 | bl _=>cases r;rfl
 | int _=>obtain⟨t,rfl⟩:=r;rfl
 | str _=>obtain⟨t,rfl⟩:=r;rfl
 | byt _=>obtain⟨t,rfl⟩:=r;rfl
 | flt _=>obtain⟨t,rfl⟩:=r;rfl
 | ref _=>cases r;rfl
 | ty _=>cases r;rfl
theorem RelV.inj{x y:V}{u:Value}(r:RelV x u)(q:RelV y u):x=y:=yaL (r.abs.symm.trans q.abs)
theorem Vals.inj:∀{xs ys:List V} {us:List Value},Vals xs us->Vals ys us->xs=ys
 | _,_,_,.nil,.nil=>rfl
 | _,_,_,.cons r t,.cons r' t'=>by rw[r.inj r',Vals.inj t t']
section
variable{X:Cx}{pins:List (Addr×Obj)}{σ:St}{H:Hp}{s:Shared}{a:Addr}{xs ys:List V}
theorem SqL.of{K:PySem.W.Frag}(h:H a=some (.lst xs)):SqL K H a xs:=.inl (.inl h)
theorem SqT.of{K:PySem.W.Frag}(h:H a=some (.tup xs)):SqT K H a xs:=.inl (.inl h)
theorem Inv.list(I:Inv X pins σ H s)(h:SqL X.K H a xs):∃its:List Value,Vals xs its/\PlainL s.heap a its.toArray/\xs.length<=sizeLine:=by
 rcases h with h | ⟨o,its,n,hk,hc,hd,hs,hz,r⟩
 . obtain⟨z,its,n,r,e⟩:=h.ok I.hok;exact⟨its,r,⟨_,n,e,rfl,rfl,rfl⟩,z⟩
 . refine⟨its.toList,r,⟨o,n,I.kIn a o hk,hc,hd,by simpa using hs⟩,?_⟩;have e:=r.length;simp only[yaO]at e;omega
theorem Inv.tuple(I:Inv X pins σ H s)(h:SqT X.K H a xs):∃its:List Value,Vals xs its/\IsTup s.heap a its.toArray/\xs.length<=sizeLine:=by
 rcases h with h | ⟨o,its,n,hk,hc,hs,hz,r⟩
 . obtain⟨z,its,r,p⟩:=h.ok I.hok;exact⟨its,r,p,z⟩
 . refine⟨its.toList,r,⟨o,I.kIn a o hk,hc,n,by simpa using hs⟩,?_⟩;have e:=r.length;simp only[yaO]at e;omega
theorem Inv.zru(I:Inv X pins σ H s)(h:SqL X.K H a xs)(h':SqL X.K H a ys):xs=ys:=by
 obtain⟨its,r,⟨o,n,e,_,_,d⟩,_⟩:=I.list h;obtain⟨its',r',⟨o',n',e',_,_,d'⟩,_⟩:=I.list h';rw[e]at e';cases e';rw[d]at d';injection d' with d1 _
 have:its=its':=by simpa using yaZ Array.toList d1
 subst this;exact r.inj r'
theorem Inv.zpf(I:Inv X pins σ H s)(h:SqT X.K H a xs)(h':SqT X.K H a ys):xs=ys:=by
 obtain⟨its,r,⟨o,e,_,n,d⟩,_⟩:=I.tuple h;obtain⟨its',r',⟨o',e',_,n',d'⟩,_⟩:=I.tuple h';rw[e]at e';cases e';rw[d]at d';injection d' with d1 _
 have:its=its':=by simpa using yaZ Array.toList d1
 subst this;exact r.inj r'
end
abbrev Cx.wish(X:Cx)(E:Value->Shared->Prop):Cx:={ X with xe:=E }
abbrev Cx.nox(X:Cx):Cx:=X.wish λ_ _=>False
theorem Cx.Ok.wish{X:Cx}(ok:X.Ok)(E:Value->Shared->Prop):(X.wish E).Ok :=
 ⟨ok.mod,ok.kind,ok.glob,ok.blt,ok.above,ok.inj,ok.has,ok.cab,ok.hd,ok.frames,ok.stk,ok.exf,ok.bs,ok.bsz,ok.noex,ok.exfs,ok.funs,ok.frf⟩
theorem Cx.Ok.zga{X:Cx}{E:Value->Shared->Prop}(ok:(X.wish E).Ok):X.Ok :=
 ⟨ok.mod,ok.kind,ok.glob,ok.blt,ok.above,ok.inj,ok.has,ok.cab,ok.hd,ok.frames,ok.stk,ok.exf,ok.bs,ok.bsz,ok.noex,ok.exfs,ok.funs,ok.frf⟩
section
variable{X:Cx}{pins:List (Addr×Obj)}{σ:St}{H:Hp}{s:Shared}{E:Value->Shared->Prop}
theorem Inv.wish(I:Inv X pins σ H s)(E:Value->Shared->Prop):Inv (X.wish E) pins σ H s:=⟨I.ok.wish E,I.os,I.bare,I.base,I.loc,I.cell,I.free,I.zew,I.pin,I.hok,I.len⟩
theorem Inv.zga(I:Inv (X.wish E) pins σ H s):Inv X pins σ H s:=⟨I.ok.zga,I.os,I.bare,I.base,I.loc,I.cell,I.free,I.zew,I.pin,I.hok,I.len⟩
theorem SP.zga{D:Ends}{f:Flow}{s':Shared}(h:SP (X.wish E) pins D f s'):SP X pins D f s':=by
 cases f with
 | next=>obtain⟨σ',H',I,q⟩:=h;exact⟨σ',H',I.zga,q⟩
 | brk=>obtain⟨σ',H',I,q⟩:=h;exact⟨σ',H',I.zga,q⟩
 | cont=>obtain⟨σ',H',I,q⟩:=h;exact⟨σ',H',I.zga,q⟩
 | ret u=>obtain⟨v,σ',H',I,r,q⟩:=h;exact⟨v,σ',H',I.zga,r,q⟩
theorem PSs.nox{st:List Stmt}{t:TS}(h:PSs X.nox st t):PSs X st t:=λpins s σ H D I hw =>
 ybk (h pins s σ H D (I.wish _) hw) (λ_ _ q=>q.zga) λ_ _ z=>False.elim z
end
section
variable{X:Cx}{st:Stmt}{rest:List Stmt}{t u:TS}{e:Expr}{te:TE}{pos:Pos}
def zsk:TS:=λD σ H=>D.nx σ H
def tSeq(t u:TS):TS:=λD σ H=>t { D with nx:=u D } σ H
theorem zaP:PSs X [] zsk:=λ_ _ σ H _ I h=>ycH ⟨σ,H,I,h⟩
theorem zac(h1:PS X st t)(h2:PSs X rest u):PSs X (st::rest) (tSeq t u):=by
 intro pins s σ H D I h;refine wpAny_execs_cons (thn (h1 pins s σ H { D with nx:=u D } I h) λf s1 q=>?_);cases f with
 | next =>
  obtain⟨σ',H',I',q⟩:=q;exact h2 pins s1 σ' H' D I' q
 | ret v=>exact q
 | brk=>exact q
 | cont=>exact q
theorem zaf(h1:PS X st t):PSs X [st] t:=by
 intro pins s σ H D I h;refine wpAny_execs_cons (thn (h1 pins s σ H D I h) λf s1 q=>?_);cases f with
 | next=>exact ycH q
 | ret v=>exact q
 | brk=>exact q
 | cont=>exact q
theorem Inv.quiet{pins:List (Addr×Obj)}{σ:St}{H:Hp}{s:Shared}(I:Inv X pins σ H s):interactive X.env=false:=by simp[interactive,I.ok.kind]
def zuF(te:TE):TS:=λD σ H=>te σ H λ_ H1=>D.nx σ H1
theorem zaI(he:PE X e te)(hs:swapsWith e none pos.line X.env=pure false:=by rfl):PS X (.Expr e pos) (zuF te):=by
 intro pins s σ H D I h;exact wpAny_Expr_any (thn (he pins s σ H _ I h) λv s1 ⟨x,H1,I1,r1,q1⟩=>⟨σ,H1,I1,q1⟩) I.quiet hs
def tRet(te:TE):TS:=λD σ H=>te σ H D.rt
theorem zay(he:PE X e te):PS X (.Return (some e) pos) (tRet te):=by
 intro pins s σ H D I h;exact wpAny_Return_some (thn (he pins s σ H _ I h) λv s1 ⟨x,H1,I1,r1,q1⟩=>⟨x,σ,H1,I1,r1,q1⟩)
def tIfS(c:TT)(t u:TS):TS:=λD σ H=>c σ H λb H1=>if b=true then t D σ H1 else u D σ H1
theorem zbn{c:Expr}{a b:List Stmt}{tc:TT}(hc:PT X c tc)(ha:PSs X a t)(hb:PSs X b u):PS X (.If c a b pos) (tIfS tc t u):=by
 intro pins s σ H D I h;refine wpAny_If (thn (hc pins s σ H _ I h) λd s1 ⟨H1,I1,q1⟩=>?_);cases d with
 | true=>exact ha pins s1 σ H1 D I1 q1
 | false=>exact hb pins s1 σ H1 D I1 q1
end
abbrev TG:=V->St->Hp->(St->Hp->Prop)->Prop
abbrev TGs:=List V->St->Hp->(St->Hp->Prop)->Prop
def PG(X:Cx)(target:Expr)(t:TG):Prop :=
 ∀(pins:List (Addr×Obj)) (s:Shared) (σ:St) (H:Hp) (v:V) (u:Value) (Q:St->Hp->Prop),Inv X pins σ H s->RelV v u->t v σ H Q ->
  wpAny (model X.prog X.w) X.A (assign target X.env u) (λ_ s'=>∃σ' H',Inv X pins σ' H' s'/\Q σ' H') X.xe s
def PGs(X:Cx)(ts:List Expr)(t:TGs):Prop :=
 ∀(pins:List (Addr×Obj)) (s:Shared) (σ:St) (H:Hp) (vs:List V) (us:List Value) (Q:St->Hp->Prop),Inv X pins σ H s->Vals vs us->t vs σ H Q ->
  wpAny (model X.prog X.w) X.A (assignInOrder ((assignEach ts X.env).map (·.2)) us) (λ_ s'=>∃σ' H',Inv X pins σ' H' s'/\Q σ' H') X.xe s
section
variable{X:Cx}{pos:Pos}
def zqu(i:Nat):TG:=λv σ H Q=>Q (σ.set i (some v)) H
theorem zaS{i:Nat}{x:Str}(hN:X.N.Nodup)(hi:X.N[i]?=some x)(hx:Loc X.env.scope x)(hf:X.fn x=true\/X.env.scope.names.lookup x=some .local:=by first | exact .inl rfl | exact .inr rfl | assumption):PG X (.Name x pos) (zqu i):=by
 intro pins s σ H v u Q I r h;exact wpAny_assign_Name (zny I hN hi hx r (λs' I'=>⟨_,H,I',h⟩) hf)
def gNil:TGs:=λvs σ H Q=>vs=[]/\Q σ H
def zu1(t:TG)(u:TGs):TGs:=λvs σ H Q=>∃v r,vs=v::r/\t v σ H λσ' H'=>u r σ' H' Q
theorem zif:PGs X [] gNil:=by
 intro pins s σ H vs us Q I r h;obtain⟨e,h⟩:=h;subst e;cases r;exact assignInOrder_nil ⟨σ,H,I,h⟩
theorem zcc{e:Expr}{es:List Expr}{t:TG}{u:TGs}(h1:PG X e t)(h2:PGs X es u)
  (hs:(assignEach (e::es) X.env).map (·.2)=assign e X.env::(assignEach es X.env).map (·.2):=by rfl):PGs X (e::es) (zu1 t u):=by
 intro pins s σ H vs us Q I r h;obtain⟨v,vr,e1,h⟩:=h;subst e1;cases r with
 | cons r rr =>
  rw[hs];refine assignInOrder_cons (thn (h1 pins s σ H _ _ _ I r h) λ_ s1 ⟨σ1,H1,I1,q1⟩=>?_);exact h2 pins s1 σ1 H1 _ _ Q I1 rr q1
def gTup(K:PySem.W.Frag)(n:Nat)(t:TGs):TG:=λv σ H Q=>∃a xs,v=.ref a/\SqT K H a xs/\xs.length=n/\t xs σ H Q
theorem znF{es:List Expr}{k:Nat}{t:TGs}{n:Nat}(hc:X.calm=true)(h:PGs X es t)
  (hn:(assignEach es X.env).length=n:=by rfl) (hst:(assignEach es X.env).findIdx? (·.1)=none:=by rfl):PG X (.Tuple es k pos) (gTup X.K n t):=by
 intro pins s σ H v u Q I r hw;obtain⟨a,xs,e1,hq,hl,hw⟩:=hw;subst e1;cases r;obtain⟨its,rv,ht,hz⟩:=I.tuple hq;refine assign_Tuple_tuple (I.ok.hd hc) ht (by simp[hn,<-hl,rv.length]) hst λh' hx=>?_;have I1:Inv X pins σ H { s with heap:=h' }:=I.kept (t':=s.toks) λb o e=>hx b o (yaI (yau e)) e;exact h pins _ σ H xs _ Q I1 (by simpa using rv) hw
def tAsg(te:TE)(g:TG):TS:=λD σ H=>te σ H λx H1=>g x σ H1 D.nx
theorem zaL{i:Nat}{x:Str}{e:Expr}{te:TE}{pos':Pos}(hN:X.N.Nodup)(hi:X.N[i]?=some x)(hx:Loc X.env.scope x)(he:PE X e te)(hs:swapsWith e (some (.Name x pos')) pos.line X.env=pure false:=by rfl)(hf:X.fn x=true\/X.env.scope.names.lookup x=some .local:=by first | exact .inl rfl | exact .inr rfl | assumption) :
  PS X (.Assign [.Name x pos'] e pos) (tAsg te (zqu i)):=by
 intro pins s σ H D I h;refine wpAny_Assign_Name (thn (he pins s σ H _ I h) λv s1 ⟨y,H1,I1,r1,q1⟩=>?_) hs;exact zny I1 hN hi hx r1 (λs2 I2=>⟨_,H1,I2,q1⟩) hf
end
section
variable{X:Cx}{pos:Pos}
def ztp(c:TT)(tb:TS):TS:=λD σ H=>∃W:Nat->St->Hp->Prop,(∃m,W m σ H)/\∀m σ H,W m σ H ->
 c σ H λb H1=>if b=true then ∃N:St->Hp->Prop,(∀σ' H',N σ' H'->∃m',m' < m/\W m' σ' H')/\tb { D with nx:=N,ct:=N,bk:=D.nx } σ H1 else D.nx σ H1
theorem zhK{c:Expr}{body:List Stmt}{tc:TT}{tb:TS}(hp:PassesOwn (model X.prog X.w) X.A X.env X.xe)(hc:PT X c tc)(hb:PSs X body tb):PS X (.While c body [] pos) (ztp tc tb):=by
 intro pins s σ H D I h;obtain⟨W,⟨m0,w0⟩,turn⟩:=h;refine wpAny_While (codeAny_whileLoop (λn s'=>∃σ' H',Inv X pins σ' H' s'/\W n σ' H') ?_ m0 ⟨σ,H,I,w0⟩);rintro n s1 ⟨σ1,H1,I1,w1⟩;refine yb8 hp (thn (hc pins s1 σ1 H1 _ I1 (turn n σ1 H1 w1)) λb s2 ⟨H2,I2,q2⟩=>?_);cases b with
 | true =>
  obtain⟨N,hN,q2⟩:=q2;rw[yaj rfl];refine yb8 hp (thn (hb pins s2 σ1 H2 _ I2 q2) λf s3 q3=>?_);cases f with
  | next =>
   obtain⟨σ3,H3,I3,n3⟩:=q3;obtain⟨m',hm,w3⟩:=hN σ3 H3 n3;exact⟨m',hm,σ3,H3,I3,w3⟩
  | cont =>
   obtain⟨σ3,H3,I3,n3⟩:=q3;obtain⟨m',hm,w3⟩:=hN σ3 H3 n3;exact⟨m',hm,σ3,H3,I3,w3⟩
  | brk=>exact q3
  | ret v=>exact q3
 | false =>
  rw[yai yam];exact ycH ⟨σ1,H2,I2,q2⟩
end
structure It where
 go:Nat->Hp->Prop
 yld:Nat->Hp->V->Hp->Prop
 stop:Nat->Hp->Prop
def FpOk(X:Cx)(pins:List (Addr×Obj))(H:Hp)(b:Addr):Prop :=
 H b=none/\b≠X.env.locals/\b∉X.fs/\(b∈X.ex\/X.s₀.heap.objs.size<=b)/\(∀x c,X.env.cells.lookup x=some c->c≠b)/\∀p∈X.pn++pins,p.1≠b
theorem Inv.fpOk{X:Cx}{pins:List (Addr×Obj)}{σ:St}{H H':Hp}{s:Shared}{b:Addr}(I:Inv X pins σ H s)(hb:s.heap.objs.size<=b)(hn:H' b=none):FpOk X pins H' b:=by
 refine⟨hn,ydf (yaH I.lt hb),I.nofs hb,.inr (yaA I.sz hb),λx c e z=>?_,λp hp z=>?_⟩
 . obtain⟨v,q⟩:=I.cell x c e;exact absurd (yaH q.lt (by rw[z];exact hb)) (ybb _)
 . exact absurd (yaH (yau (I.pin p hp).1) (by rw[z];exact hb)) (ybb _)
structure Turn(P:Program)(w:World)(K:PySem.W.Frag)(tg:Expr)(J:It)(fp:List Addr)(it:Addr)(tn:Nat->Heap->Prop):Prop where
 mem:it∈fp
 obj:∀i h,tn i h->∀b∈fp,∃o,h.get? b=some o/\∀v,o.data≠.cell v
 keep:∀i h h',tn i h->(∀b∈fp,∀o,h.get? b=some o->h'.get? b=some o)->tn i h'
 item:∀(X:Cx),X.prog=P->X.w=w->X.K=K->X.calm=true->∀(i:Nat) (pins:List (Addr×Obj)) (s:Shared) (σ:St) (H:Hp) (E:Value->Shared->Prop),Inv X pins σ H s->(∀b∈fp,FpOk X pins H b)->tn i s.heap->J.go i H ->
  wpAny (model P w) X.A (pyNext (.ref it)) (λr s1=>∃u,r=some u /\
   wpAny (model P w) X.A (letOwnedTupleGo tg (.ref it) u) (λ_ s2=>∃x H',Inv X pins σ H' s2/\RelV x u/\J.yld i H x H'/\tn (i+1) s2.heap/\∀b∈fp,H' b=none) E s1) E s
 done:∀(X:Cx),X.prog=P->X.w=w->X.K=K->X.calm=true->∀(i:Nat) (pins:List (Addr×Obj)) (s:Shared) (σ:St) (H:Hp) (E:Value->Shared->Prop),Inv X pins σ H s->(∀b∈fp,FpOk X pins H b)->tn i s.heap->J.stop i H ->
  wpAny (model P w) X.A (pyNext (.ref it)) (λr s1=>r=none/\Inv X pins σ H s1) E s
 self:∀(A:Around) (i:Nat) (s:Shared) (Q:Value->Shared->Prop) (E:Value->Shared->Prop),tn i s.heap->Q (.ref it) s->wpAny (model P w) A (pyIter (.ref it)) Q E s
abbrev TI:=St->Hp->(It->Hp->Prop)->Prop
def PIE(X:Cx)(pins:List (Addr×Obj))(σ:St)(tg:Expr)(R:It->Hp->Prop)(itv:Value)(s2:Shared):Prop :=
 ∃(it:Addr) (fp:List Addr) (tn:Nat->Heap->Prop) (J:It) (H':Hp),itv=.ref it/\Inv X pins σ H' s2/\Turn X.prog X.w X.K tg J fp it tn/\tn 0 s2.heap/\(∀b∈fp,FpOk X pins H' b)/\R J H'
def PI(X:Cx)(tg iter:Expr)(wi:TI):Prop :=
 ∀(pins:List (Addr×Obj)) (s:Shared) (σ:St) (H:Hp) (R:It->Hp->Prop),Inv X pins σ H s->wi σ H R ->
  wpAny (model X.prog X.w) X.A (eval iter X.env) (λv s1=>wpAny (model X.prog X.w) X.A (pyIter v) (PIE X pins σ tg R) X.xe s1) X.xe s
theorem zrD{M:Model}{A:Around}{E:Value->Shared->Prop}{s:Shared}{tg:Expr}{it:Addr}{u:Value}{o:Obj}{n:String}{vs:Array Value}{Q:Unit->Shared->Prop}(ho:s.heap.get? it=some o)(hc:o.cls=.type n)(hd:o.data=.fields vs)
    (hn:["enumerate","zip","dict_itemiterator","dict_reverseitemiterator","odict_iterator","itertools.zip_longest","itertools.pairwise"].contains n=false) (hQ:Q () s):wpAny M A (letOwnedTupleGo tg (.ref it) u) Q E s:=by
  unfold letOwnedTupleGo;cases tg<;>first
    | exact yag hQ
    | (cases u<;>first
        | exact yag hQ
        | (refine yab (wpAny_load ho ?_)
           rw[hc,hd];show wpAny M A (if (["enumerate","zip","dict_itemiterator","dict_reverseitemiterator","odict_iterator","itertools.zip_longest","itertools.pairwise"].contains n && vs[0]? == some (rawInt _))=true then _ else _) Q E s;rw[yai (by intro h;rw[hn,Bool.false_and]at h;cases h)];exact yag hQ))
def Itl(K:PySem.W.Frag)(a:Addr):It :=
 ⟨λi H=>∃xs x,SqL K H a xs/\xs[i]?=some x,λi H x H'=>H'=H/\∀xs,SqL K H a xs->xs[i]?=some x,λi H=>∃xs,SqL K H a xs/\xs.length<=i⟩
def Itt(K:PySem.W.Frag)(a:Addr):It :=
 ⟨λi H=>∃xs x,SqT K H a xs/\xs[i]?=some x,λi H x H'=>H'=H/\∀xs,SqT K H a xs->xs[i]?=some x,λi H=>∃xs,SqT K H a xs/\xs.length<=i⟩
def Itr(lo:Int)(n:Nat):It:=⟨λi _=>i < n,λi H x H'=>H'=H/\x=.int (lo+i),λi _=>n<=i⟩
theorem zpd{P:Program}{w:World}{K:PySem.W.Frag}{tg:Expr}(a it:Addr):Turn P w K tg (Itl K a) [it] it (λi h=>h.IsListIter it a i) where
 mem:=by simp
 obj:=λi h st b hb=>by
  have e:b=it:=by simpa using hb
  subst e;obtain⟨o,e,c,d⟩:=st;exact⟨o,e,λv z=>by rw[d]at z;cases z⟩
 keep:=λi h h' st k=>st.at λo e=>k it (by simp) o e
 item:=by
  intro X hP hw hK hc i pins s σ H E I hf st hg;subst hP hw hK;obtain⟨xs,x,hq,hx⟩:=hg;obtain⟨its,rv,p,hz⟩:=I.list hq;obtain⟨u,hu,ru⟩:=rv.get hx;obtain⟨f0,f1,f2,f3,f4,f5⟩:=hf it (by simp);refine wpAny_pyNext_list_item st p.isList (x:=u) (by simpa using hu) λh' st' sb=>?_;have I1:Inv X pins σ H { s with heap:=h' }:=I.turned (t':=s.toks) (λb o hb e=>(sb.2 b hb).trans e) f0 f1 f3 f4 f5;obtain⟨o,e,c,d⟩:=id st';exact⟨u,rfl,zrD (s:={ s with heap:=h' }) e c d (by decide) ⟨x,H,I1,ru,⟨rfl,λys hy=>by rw[I.zru hy hq];exact hx⟩,st',λb hb=>(hf b hb).1⟩⟩
 done:=by
  intro X hP hw hK hc i pins s σ H E I hf st hg;subst hP hw hK;obtain⟨xs,hq,hx⟩:=hg;obtain⟨its,rv,p,hz⟩:=I.list hq;obtain⟨f0,f1,f2,f3,f4,f5⟩:=hf it (by simp);have hl:=rv.length;exact wpAny_pyNext_list_end (I.ok.hd hc) st p.isList (by simp;omega) λh' eb=>⟨rfl,I.turned (t':=s.toks) (λb o hb e=>eb b o hb e) f0 f1 f3 f4 f5⟩
 self:=λ_ _ _ _ _ st h=>wpAny_pyIter_listiter st h
theorem zoe{P:Program}{w:World}{K:PySem.W.Frag}{tg:Expr}(a it:Addr):Turn P w K tg (Itt K a) [it] it (λi h=>h.IsTupleIter it a i) where
 mem:=by simp
 obj:=λi h st b hb=>by
  have e:b=it:=by simpa using hb
  subst e;obtain⟨o,e,c,d⟩:=st;exact⟨o,e,λv z=>by rw[d]at z;cases z⟩
 keep:=λi h h' st k=>st.at λo e=>k it (by simp) o e
 item:=by
  intro X hP hw hK hc i pins s σ H E I hf st hg;subst hP hw hK;obtain⟨xs,x,hq,hx⟩:=hg;obtain⟨its,rv,p,hz⟩:=I.tuple hq;obtain⟨u,hu,ru⟩:=rv.get hx;obtain⟨f0,f1,f2,f3,f4,f5⟩:=hf it (by simp);refine wpAny_pyNext_tuple_item st (show s.heap.IsTuple a its.toArray from p) (x:=u) (by simpa using hu) λh' st' sb=>?_;have I1:Inv X pins σ H { s with heap:=h' }:=I.turned (t':=s.toks) (λb o hb e=>(sb.2 b hb).trans e) f0 f1 f3 f4 f5;obtain⟨o,e,c,d⟩:=id st';exact⟨u,rfl,zrD (s:={ s with heap:=h' }) e c d (by decide) ⟨x,H,I1,ru,⟨rfl,λys hy=>by rw[I.zpf hy hq];exact hx⟩,st',λb hb=>(hf b hb).1⟩⟩
 done:=by
  intro X hP hw hK hc i pins s σ H E I hf st hg;subst hP hw hK;obtain⟨xs,hq,hx⟩:=hg;obtain⟨its,rv,p,hz⟩:=I.tuple hq;obtain⟨f0,f1,f2,f3,f4,f5⟩:=hf it (by simp);have hl:=rv.length;exact wpAny_pyNext_tuple_end (I.ok.hd hc) st (show s.heap.IsTuple a its.toArray from p) (by simp;omega) λh' eb=>⟨rfl,I.turned (t':=s.toks) (λb o hb e=>eb b o hb e) f0 f1 f3 f4 f5⟩
 self:=λ_ _ _ _ _ st h=>wpAny_pyIter_tupleiter st h
theorem zof{P:Program}{w:World}{K:PySem.W.Frag}{tg:Expr}(it:Addr)(lo:Int)(n:Nat):Turn P w K tg (Itr lo n) [it] it (λi h=>IsRangeIter h it (lo+(i:Nat) * 1) ((n:Int) - (i:Nat)) 1) where
 mem:=by simp
 obj:=λi h st b hb=>by
  have e:b=it:=by simpa using hb
  subst e;exact⟨_,st,λv z=>by
   have z':Data.fields _=Data.cell v:=z;cases z'⟩
 keep:=λi h h' st k=>k it (by simp) _ st
 item:=by
  intro X hP hw hK hc i pins s σ H E I hf st hg;subst hP hw hK;obtain⟨f0,f1,f2,f3,f4,f5⟩:=hf it (by simp);have W:=Walks.range (prog:=X.prog) (w:=X.w) (I.ok.hd hc) it lo 1 n;refine W.item i s _ _ hg st λv h' tk hv st' kk=>?_;obtain⟨t,rfl⟩:=hv;have I1:Inv X pins σ H { s with heap:=h',toks:=tk }:=I.turned (λb o hb e=>kk b o (by simpa using hb) e) f0 f1 f3 f4 f5;refine⟨_,rfl,zrD (s:={ s with heap:=h',toks:=tk }) (n := "range_iterator") st' rfl rfl (by decide) ⟨.int (lo+i),H,I1,⟨t,?_⟩,⟨rfl,rfl⟩,st',λb hb=>(hf b hb).1⟩⟩;rw[Int.mul_one]
 done:=by
  intro X hP hw hK hc i pins s σ H E I hf st hg;subst hP hw hK;obtain⟨f0,f1,f2,f3,f4,f5⟩:=hf it (by simp);exact wpAny_pyNext_range_end (I.ok.hd hc) st (by have:n<=i:=hg;omega) λh' eb=>⟨rfl,I.turned (t':=s.toks) (λb o hb e=>eb b o hb e) f0 f1 f3 f4 f5⟩
 self:=λ_ _ _ _ _ st h=>wpAny_pyIter_rangeiter st h
end L2
namespace L2
open PySem PySem.Spec PyProof.Rows
section
variable{X:Cx}{tg:Expr}
def zud(K:PySem.W.Frag)(tl:TE):TI:=λσ H R=>tl σ H λx H1=>∃a,x=.ref a/\(∃xs,SqL K H1 a xs)/\R (Itl K a) H1
def iTup(K:PySem.W.Frag)(tl:TE):TI:=λσ H R=>tl σ H λx H1=>∃a,x=.ref a/\(∃xs,SqT K H1 a xs)/\R (Itt K a) H1
theorem zdz{l:Expr}{tl:TE}(hl:PE X l tl):PI X tg l (zud X.K tl):=by
 intro pins s σ H R I h;refine thn (hl pins s σ H _ I h) λv s1 ⟨x,H1,I1,r1,q1⟩=>?_;obtain⟨a,e,⟨xs,hq⟩,q⟩:=q1;subst e;cases r1;obtain⟨its,rv,p,hz⟩:=I1.list hq;refine wpAny_pyIter_list p.isList ?_;refine⟨s1.heap.objs.size,[s1.heap.objs.size],_,_,H1,rfl,I1.kept (t':=s1.toks) λb o e=>yae _ e,zpd a _,⟨_,yaC _ rfl,rfl,rfl⟩,λb hb=>?_,q⟩;have e:b=s1.heap.objs.size:=by simpa using hb
 subst e;exact I1.fpOk (yaf _) (I1.hok.fresh (yaf _))
theorem zeM{l:Expr}{tl:TE}(hl:PE X l tl):PI X tg l (iTup X.K tl):=by
 intro pins s σ H R I h;refine thn (hl pins s σ H _ I h) λv s1 ⟨x,H1,I1,r1,q1⟩=>?_;obtain⟨a,e,⟨xs,hq⟩,q⟩:=q1;subst e;cases r1;obtain⟨its,rv,p,hz⟩:=I1.tuple hq;refine wpAny_pyIter_tuple (show s1.heap.IsTuple a its.toArray from p) ?_;refine⟨s1.heap.objs.size,[s1.heap.objs.size],_,_,H1,rfl,I1.kept (t':=s1.toks) λb o e=>yae _ e,zoe a _,⟨_,yaC _ rfl,rfl,rfl⟩,λb hb=>?_,q⟩;have e:b=s1.heap.objs.size:=by simpa using hb
 subst e;exact I1.fpOk (yaf _) (I1.hok.fresh (yaf _))
theorem zrg{pins:List (Addr×Obj)}{σ:St}{H:Hp}{s:Shared}{R:It->Hp->Prop}{E:Value->Shared->Prop}{lo hi:Int}{t u v:Tok}{tk:Nat}(I:Inv X pins σ H s)(h1:-(2 ^ 62)<=lo)(h2:lo < 2 ^ 62)(h3:-(2 ^ 62)<=hi)(h4:hi < 2 ^ 62)
   (q:R (Itr lo (hi - lo).toNat) H):wpAny (model X.prog X.w) X.A (pyIter (.ref s.heap.objs.size)) (PIE X pins σ tg R) E { s with heap:=s.heap.push { cls:=.type "range",data:=.fields #[.int lo t,.int hi u,.int 1 v] },toks:=tk }:=by
 refine wpAny_pyIter_range (IsRange.new ..) (small_one h1 h2 h3 h4) ?_;have I1:Inv X pins σ H { s with heap:=s.heap.push { cls:=.type "range",data:=.fields #[.int lo t,.int hi u,.int 1 v] },toks:=tk }:=I.kept λb o e=>yae _ e;refine⟨(s.heap.push { cls:=.type "range",data:=.fields #[.int lo t,.int hi u,.int 1 v] }).objs.size,[(s.heap.push { cls:=.type "range",data:=.fields #[.int lo t,.int hi u,.int 1 v] }).objs.size],_,_,H,rfl,
   I1.kept (t':=tk) λb o e=>yae _ e,zof _ lo (hi - lo).toNat,?_,λb hb=>?_,q⟩
 . have e1:lo+((0:Nat):Int) * 1=lo:=by simp
   have e2:(((hi - lo).toNat:Nat):Int) - ((0:Nat):Int)=Builtin.Range.rangeSize lo hi 1:=by rw[rangeSize_one];split<;>omega
   show IsRangeIter _ _ (lo+((0:Nat):Int) * 1) ((((hi - lo).toNat:Nat):Int) - ((0:Nat):Int)) 1;rw[e1,e2];exact yaC _ rfl
 . have e:b=(s.heap.push { cls:=.type "range",data:=.fields #[.int lo t,.int hi u,.int 1 v] }).objs.size:=by simpa using hb
   subst e;exact I1.fpOk (yaf _) (I1.hok.fresh (yaf _))
def zuX(ta:TA):TI:=λσ H R=>ta σ H λvs H1=>∃j:Int,vs=[.int j]/\-(2 ^ 62)<=j/\j < 2 ^ 62/\R (Itr 0 j.toNat) H1
theorem zgi{a:Expr}{ta:TA}{p pos:Pos}(hg:Gl X "range")(hm:X.mg "range" = none)(ha:PA X [a] ta)(hs:starEach [a] X.env=[(false,eval a X.env)]:=by rfl):PI X tg (.Call (.Name "range" p) [a] [] pos) (zuX ta):=by
 intro pins s σ H R I h;refine Call_ (znS I hg hm boot_range (yda (thn (ha pos pins s σ H _ I h) λus s1 ⟨vs,H1,I1,r1,q1⟩=>?_) hs rfl));obtain⟨j,e,q1,q2,q⟩:=q1;subst e;cases r1 with
 | cons r rr =>
  cases rr;obtain⟨t,rfl⟩:=r;exact call_range_1 (zrg I1 (by omega) (by omega) q1 q2 (by simpa using q))
def tFor(wi:TI)(g:TG)(tb:TS):TS:=λD σ H=>wi σ H λJ H1=>∃W:Nat->Nat->St->Hp->Prop,(∃m,W 0 m σ H1)/\∀i m σ H,W i m σ H ->
 (J.stop i H/\D.nx σ H)\/(J.go i H/\∃N:St->Hp->Prop,(∀σ' H',N σ' H'->∃m',m' < m/\W (i+1) m' σ' H')/\∀x H',J.yld i H x H'->g x σ H' λσ2 H2=>tb { D with nx:=N,ct:=N,bk:=D.nx } σ2 H2)
def zln(fp:List Addr)(h:Heap):List (Addr×Obj):=fp.filterMap λb=>(h.get? b).map λo=>(b,o)
theorem zgY{fp:List Addr}{h:Heap}{b:Addr}{o:Obj}(hb:b∈fp)(e:h.get? b=some o):(b,o)∈zln fp h:=ybu.mpr ⟨b,hb,by rw[e];rfl⟩
theorem zpT{fp:List Addr}{h:Heap}{p:Addr×Obj}(hp:p∈zln fp h):p.1∈fp/\h.get? p.1=some p.2:=by
 obtain⟨b,hb,e⟩:=ybu.mp hp;cases q:h.get? b with
 | none=>rw[q]at e;cases e
 | some o =>
  rw[q]at e;have e':(b,o)=p:=yaL e;subst e';exact⟨hb,q⟩
theorem Inv.pinned{pins:List (Addr×Obj)}{σ:St}{H:Hp}{s:Shared}{fp:List Addr}(I:Inv X pins σ H s)(hf:∀b∈fp,FpOk X pins H b)(ho:∀b∈fp,∃o,s.heap.get? b=some o/\∀v,o.data≠.cell v):Inv X (pins++zln fp s.heap) σ H s :=
 I.zid λp hp=>(yas.mp hp).elim (λz=>I.pin p (yaN _ z)) λz=>by
  obtain⟨hb,e⟩:=zpT z;obtain⟨f0,f1,f2,_⟩:=hf p.1 hb;obtain⟨o,e',d⟩:=ho p.1 hb;rw[e]at e';cases e';exact⟨e,f0,f1,f2,d⟩
theorem Inv.zj4{pins pl:List (Addr×Obj)}{σ:St}{H:Hp}{s:Shared}(I:Inv X (pins++pl) σ H s):Inv X pins σ H s:=I.zid λp hp=>I.pin p (yaN _ (yaJ _ hp))
theorem zdj{iter:Expr}{body:List Stmt}{wi:TI}{g:TG}{tb:TS}{pos:Pos}(hp:PassesOwn (model X.prog X.w) X.A X.env X.xe)(hc:X.calm=true)(hi:PI X tg iter wi)(hg:PG X tg g)(hb:PSs X body tb)
   (hs:∀x,foldedSetIterable iter X.env x=pure x:=by intro _;rfl):PS X (.For tg iter body [] pos) (tFor wi g tb):=by
 intro pins s σ H D I h;refine wpAny_For (thn (hi pins s σ H _ I h) λv s1 h1=>thn h1 λitv s2 h2=>?_) hs;obtain⟨it,fp,tn,J,H2,e,I2,T,st2,f2,W,⟨m0,w0⟩,turn⟩:=h2;subst e;have stat:∀{H':Hp},(∀b∈fp,H' b=none)->∀b∈fp,FpOk X pins H' b:=λhn b hb=>⟨hn b hb,(f2 b hb).2⟩
 refine codeAny_forLoop_any (λn s'=>∃i σ' H',Inv X pins σ' H' s'/\tn i s'.heap/\(∀b∈fp,H' b=none)/\W i n σ' H') ?_ m0 ⟨0,σ,H2,I2,st2,λb hb=>(f2 b hb).1,w0⟩;rintro n s3 ⟨i,σ3,H3,I3,st3,fr3,w3⟩;rcases turn i n σ3 H3 w3 with ⟨stop,qn⟩ | ⟨go,N,hN,step⟩
 . refine yb8 hp (thn (T.done X rfl rfl rfl hc i pins s3 σ3 H3 X.xe I3 (stat fr3) st3 stop) λr s4 ⟨hr,I4⟩=>?_);subst hr;exact ycH ⟨σ3,H3,I4,qn⟩
 . refine yb8 hp (thn (T.item X rfl rfl rfl hc i pins s3 σ3 H3 X.xe I3 (stat fr3) st3 go) λr s4 ⟨u,hr,h4⟩=>?_);subst hr;refine yb8 hp (thn h4 λ_ s5 ⟨x,H5,I5,r5,y5,st5,fr5⟩=>?_);have I5':=I5.pinned (stat fr5) (T.obj _ _ st5);refine yb8 hp (thn (hg _ s5 σ3 H5 x u _ I5' r5 (step x H5 y5)) λ_ s6 ⟨σ6,H6,I6,q6⟩=>?_);refine yb8 hp (thn (hb _ s6 σ6 H6 _ I6 q6) λf s7 q7=>?_);have again:∀{σ7:St} {H7:Hp},Inv X (pins++zln fp s5.heap) σ7 H7 s7->N σ7 H7->∃m,m < n/\∃i σ' H',Inv X pins σ' H' s7/\tn i s7.heap/\(∀b∈fp,H' b=none)/\W i m σ' H':=λ{σ7 H7} I7 n7=>by
    obtain⟨m',hm,w7⟩:=hN σ7 H7 n7;refine⟨m',hm,i+1,σ7,H7,I7.zj4,T.keep _ _ _ st5 λb hb o e=>(I7.pin (b,o) (yaN _ (yaN _ (zgY hb e)))).1,λb hb=>?_,w7⟩;obtain⟨o,e,d⟩:=T.obj _ _ st5 b hb;exact(I7.pin (b,o) (yaN _ (yaN _ (zgY hb e)))).2.1
   cases f with
   | next=>obtain⟨σ7,H7,I7,n7⟩:=q7;exact again I7 n7
   | cont=>obtain⟨σ7,H7,I7,n7⟩:=q7;exact again I7 n7
   | brk=>obtain⟨σ7,H7,I7,q7⟩:=q7;exact⟨σ7,H7,I7.zj4,q7⟩
   | ret v=>obtain⟨x7,σ7,H7,I7,r7,q7⟩:=q7;exact⟨x7,σ7,H7,I7.zj4,r7,q7⟩
end
theorem zfe{K:PySem.W.Frag}{a:Addr}{xs:List V}{g:TG}{tb:TS}{D:Ends}{σ:St}{H:Hp}(Pv:Nat->St->Hp->Prop)(h0:Pv 0 σ H)(hl:∀i σ H,i<=xs.length->Pv i σ H->SqL K H a xs)
   (hs:∀i x σ H,xs[i]?=some x->Pv i σ H->g x σ H λσ2 H2=>tb { D with nx:=Pv (i+1),ct:=Pv (i+1),bk:=D.nx } σ2 H2) (hd:∀σ H,Pv xs.length σ H->D.nx σ H) :
   ∃W:Nat->Nat->St->Hp->Prop,(∃m,W 0 m σ H)/\∀i m σ H,W i m σ H ->
    ((Itl K a).stop i H/\D.nx σ H)\/((Itl K a).go i H/\∃N:St->Hp->Prop,(∀σ' H',N σ' H'->∃m',m' < m/\W (i+1) m' σ' H')/\∀x H',(Itl K a).yld i H x H'->g x σ H' λσ2 H2=>tb { D with nx:=N,ct:=N,bk:=D.nx } σ2 H2):=by
 refine⟨λi m σ H=>m=xs.length - i/\i<=xs.length/\Pv i σ H,⟨xs.length,by simp,ya1 _,h0⟩,?_⟩;rintro i m σ H ⟨rfl,hi,p⟩;have q:=hl i σ H hi p;by_cases hlt:i < xs.length
 . refine .inr ⟨⟨xs,xs[i],q,by simp[hlt]⟩,Pv (i+1),λσ' H' p'=>⟨xs.length - (i+1),by omega,rfl,hlt,p'⟩,λx H' y=>?_⟩;obtain⟨e,y⟩:=y;subst e;exact hs i x σ _ (y xs q) p
 . have e:i=xs.length:=by omega
   subst e;exact .inl ⟨⟨xs,q,yaf _⟩,hd σ H p⟩
theorem zg8{K:PySem.W.Frag}{a:Addr}{xs:List V}{g:TG}{tb:TS}{D:Ends}{σ:St}{H:Hp}(Pv:Nat->St->Hp->Prop)(h0:Pv 0 σ H)(hl:∀i σ H,i<=xs.length->Pv i σ H->SqT K H a xs)
   (hs:∀i x σ H,xs[i]?=some x->Pv i σ H->g x σ H λσ2 H2=>tb { D with nx:=Pv (i+1),ct:=Pv (i+1),bk:=D.nx } σ2 H2) (hd:∀σ H,Pv xs.length σ H->D.nx σ H) :
   ∃W:Nat->Nat->St->Hp->Prop,(∃m,W 0 m σ H)/\∀i m σ H,W i m σ H ->
    ((Itt K a).stop i H/\D.nx σ H)\/((Itt K a).go i H/\∃N:St->Hp->Prop,(∀σ' H',N σ' H'->∃m',m' < m/\W (i+1) m' σ' H')/\∀x H',(Itt K a).yld i H x H'->g x σ H' λσ2 H2=>tb { D with nx:=N,ct:=N,bk:=D.nx } σ2 H2):=by
 refine⟨λi m σ H=>m=xs.length - i/\i<=xs.length/\Pv i σ H,⟨xs.length,by simp,ya1 _,h0⟩,?_⟩;rintro i m σ H ⟨rfl,hi,p⟩;have q:=hl i σ H hi p;by_cases hlt:i < xs.length
 . refine .inr ⟨⟨xs,xs[i],q,by simp[hlt]⟩,Pv (i+1),λσ' H' p'=>⟨xs.length - (i+1),by omega,rfl,hlt,p'⟩,λx H' y=>?_⟩;obtain⟨e,y⟩:=y;subst e;exact hs i x σ _ (y xs q) p
 . have e:i=xs.length:=by omega
   subst e;exact .inl ⟨⟨xs,q,yaf _⟩,hd σ H p⟩
theorem zlU{lo:Int}{n:Nat}{g:TG}{tb:TS}{D:Ends}{σ:St}{H:Hp}(Pv:Nat->St->Hp->Prop)(h0:Pv 0 σ H)
   (hs:∀i σ H,i < n->Pv i σ H->g (.int (lo+i)) σ H λσ2 H2=>tb { D with nx:=Pv (i+1),ct:=Pv (i+1),bk:=D.nx } σ2 H2) (hd:∀σ H,Pv n σ H->D.nx σ H) :
   ∃W:Nat->Nat->St->Hp->Prop,(∃m,W 0 m σ H)/\∀i m σ H,W i m σ H ->
    ((Itr lo n).stop i H/\D.nx σ H)\/((Itr lo n).go i H/\∃N:St->Hp->Prop,(∀σ' H',N σ' H'->∃m',m' < m/\W (i+1) m' σ' H')/\∀x H',(Itr lo n).yld i H x H'->g x σ H' λσ2 H2=>tb { D with nx:=N,ct:=N,bk:=D.nx } σ2 H2):=by
 refine⟨λi m σ H=>m=n - i/\i<=n/\Pv i σ H,⟨n,by simp,ya1 _,h0⟩,?_⟩;rintro i m σ H ⟨rfl,hi,p⟩;by_cases hlt:i < n
 . refine .inr ⟨hlt,Pv (i+1),λσ' H' p'=>⟨n - (i+1),by omega,rfl,hlt,p'⟩,λx H' y=>?_⟩;obtain⟨e,y⟩:=y;subst e y;exact hs i σ _ hlt p
 . have e:i=n:=by omega
   subst e;exact .inl ⟨yaf _,hd σ H p⟩
end L2
namespace L2
open PySem PySem.Spec PyProof.Rows
abbrev R2:=V->V->Hp->VK->Prop
def OpR(X:Cx)(f:Value->Value->Sem Value)(r:R2):Prop :=
 ∀(pins:List (Addr×Obj)) (s:Shared) (σ:St) (H:Hp) (x y:V) (v u:Value) (Q:VK),Inv X pins σ H s->RelV x v->RelV y u->r x y H Q ->
  wpAny (model X.prog X.w) X.A (f v u) (EP X pins σ Q) X.xe s
def UnR(X:Cx)(f:Value->Sem Value)(r:V->Hp->VK->Prop):Prop :=
 ∀(pins:List (Addr×Obj)) (s:Shared) (σ:St) (H:Hp) (x:V) (v:Value) (Q:VK),Inv X pins σ H s->RelV x v->r x H Q ->
  wpAny (model X.prog X.w) X.A (f v) (EP X pins σ Q) X.xe s
def zhg(X:Cx)(f:Value)(r:List V->Hp->VK->Prop):Prop :=
 ∀(pins:List (Addr×Obj)) (s:Shared) (σ:St) (H:Hp) (xs:List V) (us:List Value) (Q:VK),Inv X pins σ H s->Vals xs us->r xs H Q ->
  wpAny (model X.prog X.w) X.A (call f us) (EP X pins σ Q) X.xe s
def tOp(r:R2)(ta tb:TE):TE:=λσ H Q=>ta σ H λx H1=>tb σ H1 λy H2=>r x y H2 Q
def tUn(r:V->Hp->VK->Prop)(ta:TE):TE:=λσ H Q=>ta σ H λx H1=>r x H1 Q
def rI(C:Int->Int->Prop)(g:Int->Int->V):R2:=λx y H Q=>∃i j,x=.int i/\y=.int j/\C i j/\Q (g i j) H
def rI0(g:Int->Int->V):R2:=λx y H Q=>∃i j,x=.int i/\y=.int j/\Q (g i j) H
def rU(g:Int->V):V->Hp->VK->Prop:=λx H Q=>∃i,x=.int i/\Q (g i) H
section
variable{X:Cx}{a b c:Expr}{ta tb tc:TE}{pos:Pos}
theorem binT(ha:PE X a ta)(hb:PE X b tb){pins:List (Addr×Obj)}{s:Shared}{σ:St}{H:Hp}{R:V->V->Hp->Prop}(I:Inv X pins σ H s)
  (h:ta σ H λx H1=>tb σ H1 λy H2=>R x y H2) {Q:Value->Shared->Prop} {f:Value->Value->Sem Value}
  (hf:∀v u s2 x y H2,Inv X pins σ H2 s2->RelV x v->RelV y u->R x y H2->wpAny (model X.prog X.w) X.A (f v u) Q X.xe s2) :
  wpAny (model X.prog X.w) X.A (eval a X.env) (λv s₁=>wpAny (model X.prog X.w) X.A (eval b X.env) (λu s₂=>wpAny (model X.prog X.w) X.A (f v u) Q X.xe s₂) X.xe s₁) X.xe s:=by
 refine thn (ha pins s σ H _ I h) λv s1 ⟨x,H1,I1,r1,q1⟩=>?_;refine thn (hb pins s1 σ H1 _ I1 q1) λu s2 ⟨y,H2,I2,r2,q2⟩=>?_;exact hf v u s2 x y H2 I2 r1 r2 q2
theorem zbQ{op:Operator}{r:R2}(ho:OpR X (binaryOp op) r)(ha:PE X a ta)(hb:PE X b tb):PE X (.BinOp a op b pos) (tOp r ta tb):=by
 intro pins s σ H Q I h;exact wpAny_BinOp (binT ha hb I h λv u s2 x y H2 I2 rx ry q=>ho pins s2 σ H2 x y v u Q I2 rx ry q)
theorem zsL{op:UnaryOp}{r:V->Hp->VK->Prop}(ho:UnR X (unaryOp op) r)(ha:PE X a ta):PE X (.UnaryOp op a pos) (tUn r ta):=by
 intro pins s σ H Q I h;exact UnaryOp_ (thn (ha pins s σ H _ I h) λv s1 ⟨x,H1,I1,r1,q1⟩=>ho pins s1 σ H1 x v Q I1 r1 q1)
theorem opI{f:Value->Value->Sem Value}{C:Int->Int->Prop}{g:Int->Int->Int}
  (rule:∀(i j:Int) (t u:Tok) (s:Shared) (Q:Value->Shared->Prop) (E:Value->Shared->Prop),C i j->Q (.int (g i j) s.toks) { s with toks:=s.toks+1 }->wpAny (model X.prog X.w) X.A (f (.int i t) (.int j u)) Q E s) :
  OpR X f (rI C λi j=>.int (g i j)):=by
 intro pins s σ H x y v u Q I rx ry h;obtain⟨i,j,rfl,rfl,hc,q⟩:=h;obtain⟨t,rfl⟩:=rx;obtain⟨t',rfl⟩:=ry;exact rule i j t t' s _ _ hc ⟨.int (g i j),H,I.tok _,⟨_,rfl⟩,q⟩
theorem opI0{f:Value->Value->Sem Value}{g:Int->Int->Int}
  (rule:∀(i j:Int) (t u:Tok) (s:Shared) (Q:Value->Shared->Prop) (E:Value->Shared->Prop),Q (.int (g i j) s.toks) { s with toks:=s.toks+1 }->wpAny (model X.prog X.w) X.A (f (.int i t) (.int j u)) Q E s) :
  OpR X f (rI0 λi j=>.int (g i j)):=by
 intro pins s σ H x y v u Q I rx ry h;obtain⟨i,j,rfl,rfl,q⟩:=h;obtain⟨t,rfl⟩:=rx;obtain⟨t',rfl⟩:=ry;exact rule i j t t' s _ _ ⟨.int (g i j),H,I.tok _,⟨_,rfl⟩,q⟩
theorem opB0{f:Value->Value->Sem Value}{g:Int->Int->Bool}
  (rule:∀(i j:Int) (t u:Tok) (s:Shared) (Q:Value->Shared->Prop) (E:Value->Shared->Prop),Q (.bool (g i j)) s->wpAny (model X.prog X.w) X.A (f (.int i t) (.int j u)) Q E s) :
  OpR X f (rI0 λi j=>.bl (g i j)):=by
 intro pins s σ H x y v u Q I rx ry h;obtain⟨i,j,rfl,rfl,q⟩:=h;obtain⟨t,rfl⟩:=rx;obtain⟨t',rfl⟩:=ry;exact rule i j t t' s _ _ ⟨.bl (g i j),H,I,rfl,q⟩
def CDiv(i j:Int):Prop:=0 < j/\j < 1073741824
def CMul(i j:Int):Prop:=(-(2 ^ 64) < i/\i < 2 ^ 64)\/(-(2 ^ 64) < j/\j < 2 ^ 64)
theorem CMul.ok{i j:Int}(h:CMul i j):IntMulOk i j:=by
 rcases h with ⟨h1,h2⟩ | ⟨h1,h2⟩
 . exact .of_left (intBits_le_64 h1 h2)
 . exact .of_right (intBits_le_64 h1 h2)
theorem zcU:OpR X (binaryOp .Add) (rI0 λi j=>.int (i+j)):=opI0 λ_ _ _ _ _ _ _ q=>add_int q
theorem zrW:OpR X (binaryOp .Sub) (rI0 λi j=>.int (i - j)):=opI0 λ_ _ _ _ _ _ _ q=>sub_int q
theorem zlt:OpR X (binaryOp .Mult) (rI CMul λi j=>.int (i * j)):=opI λ_ _ _ _ _ _ _ hc q=>mul_int q hc.ok
theorem zsQ:OpR X (binaryOp .FloorDiv) (rI CDiv λi j=>.int (i / j)):=opI λi j _ _ _ _ _ hc q=>by
 have h1:(0:Int) < j:=hc.1;have h2:j < 1073741824:=hc.2;exact floordiv_int (by omega) (by rw[Int.fdiv_eq_ediv_of_nonneg i (by omega)];exact q) (.inl (PyProof.noPylong_small (by omega)))
theorem zjz:OpR X (binaryOp .Mod) (rI (λ_ j=>0 < j) λi j=>.int (i % j)):=opI λi j _ _ _ _ _ hc q=>by
 have h1:(0:Int) < j:=hc;exact mod_int' (by omega) (by rw[Int.fmod_eq_emod_of_nonneg i (by omega)];exact q)
theorem unI{f:Value->Sem Value}{g:Int->Int}
  (rule:∀(i:Int) (t:Tok) (s:Shared) (Q:Value->Shared->Prop) (E:Value->Shared->Prop),Q (.int (g i) s.toks) { s with toks:=s.toks+1 }->wpAny (model X.prog X.w) X.A (f (.int i t)) Q E s) :
  UnR X f (rU λi=>.int (g i)):=by
 intro pins s σ H x v Q I rx h;obtain⟨i,rfl,q⟩:=h;obtain⟨t,rfl⟩:=rx;exact rule i t s _ _ ⟨.int (g i),H,I.tok _,⟨_,rfl⟩,q⟩
theorem zpc:UnR X (unaryOp .USub) (rU λi=>.int (-i)):=unI λ_ _ _ _ _ q=>neg_int q
end
def scal:V->V->Bool
 | .non,.non=>true | .non,.int _=>true | .int _,.non=>true | .non,.bl _=>true | .bl _,.non=>true | .non,.str _=>true | .str _,.non=>true
 | .int _,.int _=>true | .bl _,.bl _=>true | .str _,.str _=>true | .byt _,.byt _=>true
 | .int _,.str _=>true | .str _,.int _=>true | .bl _,.str _=>true | .str _,.bl _=>true
 | _,_=>false
def rEq:R2:=λx y H Q=>scal x y=true/\Q (.bl (decide (x=y))) H
def rNe:R2:=λx y H Q=>scal x y=true/\Q (.bl (!decide (x=y))) H
theorem zqH{i j:Int}:decide (V.int i=V.int j)=(i == j):=by
 rw[ybH];simp
theorem zsa{i j:Bool}:decide (V.bl i=V.bl j)=(i == j):=by
 rw[ybH];simp
theorem zqG{i j:Str}:decide (V.str i=V.str j)=(i == j):=by
 rw[ybH];simp
theorem zqI{i j:Array UInt8}:decide (V.byt i=V.byt j)=(i.toList == j.toList):=by
 rw[ybH];cases i;cases j;simp
section
variable{X:Cx}{a b c:Expr}{ta tb tc:TE}{pos:Pos}
theorem zbf{pins:List (Addr×Obj)}{σ:St}{H:Hp}{s:Shared}{Q:VK}{k k':Bool}(I:Inv X pins σ H s)(q:Q (.bl k) H)(e:k=k'):EP X pins σ Q (.bool k') s:=by
 subst e;exact⟨.bl k,H,I,rfl,q⟩
theorem zb5:OpR X (compareOp .Eq) rEq:=by
 intro pins s σ H x y v u Q I rx ry h;obtain⟨hs,q⟩:=h;cases x with
 | non =>
  cases rx;cases y with
  | non=>cases ry;exact PySem.EqNone.eq_none_none (zbf I q (by simp))
  | bl j=>cases ry;exact PySem.EqNone.eq_none_bool (zbf I q (by simp))
  | int j=>obtain⟨t',rfl⟩:=ry;exact PySem.EqNone.eq_none_int (zbf I q (by simp))
  | str j=>obtain⟨t',rfl⟩:=ry;exact PySem.EqNone.eq_none_str (zbf I q (by simp))
  | _=>exact absurd (show false=true from hs) yam
 | bl i =>
  cases rx;cases y with
  | non=>cases ry;exact PySem.EqNone.eq_bool_none (zbf I q (by simp))
  | bl j=>cases ry;exact eq_bool (zbf I q zsa)
  | str j=>obtain⟨t',rfl⟩:=ry;exact PySem.EqMixed.eq_bool_str (zbf I q (by simp))
  | _=>exact absurd (show false=true from hs) yam
 | int i =>
  obtain⟨t,rfl⟩:=rx;cases y with
  | non=>cases ry;exact PySem.EqNone.eq_int_none (zbf I q (by simp))
  | int j=>obtain⟨t',rfl⟩:=ry;exact eq_int (zbf I q zqH)
  | str j=>obtain⟨t',rfl⟩:=ry;exact PySem.EqMixed.eq_int_str (zbf I q (by simp))
  | _=>exact absurd (show false=true from hs) yam
 | str i =>
  obtain⟨t,rfl⟩:=rx;cases y with
  | non=>cases ry;exact PySem.EqNone.eq_str_none (zbf I q (by simp))
  | bl j=>cases ry;exact PySem.EqMixed.eq_str_bool (zbf I q (by simp))
  | int j=>obtain⟨t',rfl⟩:=ry;exact PySem.EqMixed.eq_str_int (zbf I q (by simp))
  | str j=>obtain⟨t',rfl⟩:=ry;exact eq_str (zbf I q zqG)
  | _=>exact absurd (show false=true from hs) yam
 | byt i =>
  obtain⟨t,rfl⟩:=rx;cases y with
  | byt j=>obtain⟨t',rfl⟩:=ry;exact PySem.W.eq_bytes (zbf I q zqI)
  | _=>exact absurd (show false=true from hs) yam
 | _=>cases y<;>exact absurd (show false=true from hs) yam
theorem zls:OpR X (compareOp .NotEq) rNe:=by
 intro pins s σ H x y v u Q I rx ry h;obtain⟨hs,q⟩:=h;cases x with
 | non =>
  cases rx;cases y with
  | non=>cases ry;exact PySem.EqNone.ne_none_none (zbf I q (by simp))
  | bl j=>cases ry;exact PySem.EqNone.ne_none_bool (zbf I q (by simp))
  | int j=>obtain⟨t',rfl⟩:=ry;exact PySem.EqNone.ne_none_int (zbf I q (by simp))
  | str j=>obtain⟨t',rfl⟩:=ry;exact PySem.EqNone.ne_none_str (zbf I q (by simp))
  | _=>exact absurd (show false=true from hs) yam
 | bl i =>
  cases rx;cases y with
  | non=>cases ry;exact PySem.EqNone.ne_bool_none (zbf I q (by simp))
  | bl j=>cases ry;exact ne_bool (zbf I q (yaZ not zsa))
  | str j=>obtain⟨t',rfl⟩:=ry;exact PySem.EqMixed.ne_bool_str (zbf I q (by simp))
  | _=>exact absurd (show false=true from hs) yam
 | int i =>
  obtain⟨t,rfl⟩:=rx;cases y with
  | non=>cases ry;exact PySem.EqNone.ne_int_none (zbf I q (by simp))
  | int j=>obtain⟨t',rfl⟩:=ry;exact ne_int (zbf I q (yaZ not zqH))
  | str j=>obtain⟨t',rfl⟩:=ry;exact PySem.EqMixed.ne_int_str (zbf I q (by simp))
  | _=>exact absurd (show false=true from hs) yam
 | str i =>
  obtain⟨t,rfl⟩:=rx;cases y with
  | non=>cases ry;exact PySem.EqNone.ne_str_none (zbf I q (by simp))
  | bl j=>cases ry;exact PySem.EqMixed.ne_str_bool (zbf I q (by simp))
  | int j=>obtain⟨t',rfl⟩:=ry;exact PySem.EqMixed.ne_str_int (zbf I q (by simp))
  | str j=>obtain⟨t',rfl⟩:=ry;exact ne_str (zbf I q (yaZ not zqG))
  | _=>exact absurd (show false=true from hs) yam
 | byt i =>
  obtain⟨t,rfl⟩:=rx;cases y with
  | byt j=>obtain⟨t',rfl⟩:=ry;exact PySem.W.ne_bytes (zbf I q (yaZ not zqI))
  | _=>exact absurd (show false=true from hs) yam
 | _=>cases y<;>exact absurd (show false=true from hs) yam
theorem zmD:OpR X (compareOp .Lt) (rI0 λi j=>.bl (decide (i < j))):=opB0 λ_ _ _ _ _ _ _ q=>lt_int q
theorem zsP:OpR X (compareOp .Gt) (rI0 λi j=>.bl (decide (j < i))):=opB0 λ_ _ _ _ _ _ _ q=>gt_int q
theorem zuS:OpR X (compareOp .GtE) (rI0 λi j=>.bl (decide (j<=i))):=opB0 λ_ _ _ _ _ _ _ q=>ge_int q
theorem zaB(b:Expr){op:CmpOp}(h:op≠.In:=by decide)(h2:op≠.NotIn:=by decide):behindInMarks op b=false:=by
 have e1:(op == CmpOp.In)=false:=by cases op<;>first | rfl | exact absurd rfl h
 have e2:(op == CmpOp.NotIn)=false:=by cases op<;>first | rfl | exact absurd rfl h2
 cases b<;>simp[behindInMarks,e1,e2]
theorem zdA{op:CmpOp}{r:R2}(ho:OpR X (compareOp op) r)(ha:PE X a ta)(hb:PE X b tb)(hm:behindInMarks op b=false):PE X (.Compare a [op] [b] pos) (tOp r ta tb):=by
 intro pins s σ H Q I h;exact wpAny_Compare1 (binT ha hb I h λv u s2 x y H2 I2 rx ry q=>ho pins s2 σ H2 x y v u Q I2 rx ry q) hm
def zsi(t:TE):TT:=λσ H Q=>t σ H λx H'=>∃k,x=.bl k/\Q k H'
theorem zaw{op:CmpOp}{r:R2}(ho:OpR X (compareOp op) r)(ha:PE X a ta)(hb:PE X b tb)(hm:behindInMarks op b=false):PT X (.Compare a [op] [b] pos) (zsi (tOp r ta tb)):=by
 intro pins s σ H Q I h;refine wpAny_isTrue_Compare1 (thn (ha pins s σ H _ I h) λv s1 ⟨x,H1,I1,r1,q1⟩=>thn (hb pins s1 σ H1 _ I1 q1) λu s2 ⟨y,H2,I2,r2,q2⟩ =>
  thn (ho pins s2 σ H2 x y v u _ I2 r1 r2 q2) λc s3 ⟨z,H3,I3,r3,k,e,q3⟩=>?_) hm
 subst e;cases r3;exact yb7 ⟨H3,I3,q3⟩
theorem znQ:(sizeLine:Nat) < 2 ^ 63:=by rw[yaw];decide
theorem zjA:OpR X (binaryOp .Add) (λx y H Q=>∃i j,x=.str i/\y=.str j/\i.length+j.length<=sizeLine/\Q (.str (i++j)) H):=by
 intro pins s σ H x y v u Q I rx ry h;obtain⟨i,j,rfl,rfl,hz,q⟩:=h;obtain⟨t,rfl⟩:=rx;obtain⟨t',rfl⟩:=ry;exact add_str (λt' tk=>⟨.str (i++j),H,I.tok _,⟨_,rfl⟩,q⟩) hz
theorem vals1{x:V}{us:List Value}(r:Vals [x] us):∃u,us=[u]/\RelV x u:=by
 cases r with
 | cons r1 r2=>cases r2;exact⟨_,rfl,r1⟩
theorem zgA:zhg X (.type "int") (λxs H Q=>(∃i,xs=[.int i]/\Q (.int i) H)\/∃k,xs=[.bl k]/\Q (.int (if k then 1 else 0)) H):=by
 intro pins s σ H xs us Q I r h;rcases h with ⟨i,rfl,q⟩ | ⟨k,rfl,q⟩
 . obtain⟨u,rfl,t,rfl⟩:=vals1 r;exact call_int_int ⟨.int i,H,I,⟨_,rfl⟩,q⟩
 . obtain⟨u,rfl,r1⟩:=vals1 r;cases r1;exact call_int_bool ⟨.int (if k then 1 else 0),H,I.tok _,⟨_,rfl⟩,q⟩
end
end L2
namespace L2
open PySem PySem.Spec PyProof.Rows
structure ObjM(h:Heap)(x dx C:Addr)(mA:Str->Option Value):Prop where
 obj:h.get? x=some (PySem.W.instObj C dx)
 ns:h.Ns1 dx mA
 ne:dx≠x
theorem zp5{h:Heap}{dx:Addr}{mA:Str->Option Value}(n:h.Ns1 dx mA):∃od,h.get? dx=some od/\∀name,PySem.W.lookIn name od=some (mA name):=by
 obtain⟨o,es,ep,ho,hd,hk,_,hm⟩:=n;refine⟨o,ho,λname=>?_⟩;have e:=hm name;unfold nsFind findBy at e;rw[<-Array.find?_toList]at e;unfold PySem.W.lookIn;rw[hd];dsimp only;split
 . rename_i y q;rw[q]at e;exact yaZ some e
 . rename_i q;rw[q]at e;have a:es.toList.any (·.refKey)=false:=by
    rw[List.any_eq_false];intro y hy;obtain⟨z,t,hkey⟩:=hk y (Array.mem_toList_iff.mp hy);simp[DictEntry.refKey,hkey]
   have a':¬es.toList.any (·.refKey)=true:=by rw[a];exact yam
   rw[yai a'];exact yaZ some e
theorem ObjM.look{h:Heap}{x dx C:Addr}{mA:Str->Option Value}(I:ObjM h x dx C mA):∃od,PySem.W.InstAt h x (PySem.W.instObj C dx) C (some od)/\∀name,PySem.W.lookIn name od=some (mA name) :=
 let ⟨od,ho,hl⟩:=zp5 I.ns
 ⟨od,⟨I.obj,rfl,rfl,ho⟩,hl⟩
section
variable{prog:Program}{w:World}{A:Around}{E:Value->Shared->Prop}{s:Shared}{K:PySem.W.Frag}{x dx C f:Addr}{mA:Str->Option Value}{name:Str}{v:Value}
theorem get_map{expr:Bool}{Q:Value->Shared->Prop}(X:K.In s.heap)(I:ObjM s.heap x dx C mA)(hg:PySem.W.plainGet K C name=true)(hh:PySem.W.hasDictIn K C=true)
  (ha:PySem.W.findIn K (.ref C) name=some none) (hv:mA name=some v) (hv':PySem.W.handedIn v=true) (h:Q v { s with toks:=s.toks+1 }) :
  wpAny (model prog w) A (getAttr (.ref x) name expr) Q E s:=by
 obtain⟨od,J,hl⟩:=I.look;exact PySem.W.get_value X J (ydb hg).1 (PySem.W.findObj_own hh ha rfl (by rw[hl,hv])) hv' h
theorem zrE{pl:Sem Bool}{Q:Value×List Value->Shared->Prop}(X:K.In s.heap)(I:ObjM s.heap x dx C mA)(hg:PySem.W.plainGet K C name=true)
  (hf:PySem.W.findIn K (.ref C) name=some (some (.ref f))) (ht:PySem.W.isFn K (.ref f)=true) (hv:mA name=none) (h:Q (.ref f,[.ref x]) s) :
  wpAny (model prog w) A (getMethod (.ref x) name pl) Q E s:=by
 obtain⟨od,J,hl⟩:=I.look;exact PySem.W.method_fn X J (ydb hg).1 (ydb hg).2 hf (yb6.mp ht) (by show(PySem.W.lookIn name od).map (·.isSome)=some false;rw[hl,hv];rfl) h
theorem zsC{ns:List Str}{Q:Unit->Shared->Prop}(X:K.In s.heap)(I:ObjM s.heap x dx C mA)
  (hs:PySem.W.findIn K (.ref C) "__setattr__" = some (some (.builtin "object.__setattr__"))) (hp:PySem.W.plainOver K C=true) (ht:PySem.W.takerIn K C name=some none) (hh:PySem.W.hasDictIn K C=true)
  (hw:PySem.Within mA ns) (hsz:ns.length<=sizeLine)
  (h:∀h',ObjM h' x dx C (λy=>if y=name then some v else mA y)->Heap.SameBut dx s.heap h'->Q () { s with heap:=h',toks:=s.toks+2 }) :
  wpAny (model prog w) A (setAttr (.ref x) name v) Q E s:=by
 obtain⟨od,J,hl⟩:=I.look;refine PySem.W.set_plain X J hs (PySem.W.osa_open (s:={ s with toks:=s.toks+1 }) (r:=none) X J hp ht λb=>?_);obtain⟨cd,hc,hd'⟩:=PySem.W.any_some hh;have hx:s.heap.get? x=some ⟨.ref C,some dx,.plain,#[]⟩:=I.obj;refine yab (yag (yab (yab (wpAny_loadPart hx (yab (PySem.W.Looks.here (s:={ s with toks:=s.toks+1 }) (PySem.W.looks_clsIn X hc) ?_))))));rw[hd'];refine yag (a:=some dx) (yab (yag (yab ?_)));refine wpAny_nsSet1 (s:={ s with toks:=s.toks+1 }) I.ns λh' hn2 hs2=>?_;obtain⟨oD,esD,epD,hoD,hdD,hcD⟩:=hn2.count (PySem.Within.cons name v hw);refine yab (wpAny_lookBehind hoD (by rw[hdD];exact pastItsLine_dict (yaA hcD (by rw[yaP];omega))) ?_);exact yag (h _ ⟨(hs2.2 _ (ybn I.ne)).trans I.obj,hn2,I.ne⟩ hs2)
theorem zrr{R:Result->Shared->Prop}{vs:List Value}{kw:List (Str×Value)}(X:K.In s.heap)(hm:PySem.W.makesIn K C=true)
  (hi:PySem.W.findIn K (.ref C) "__init__" = some (some (.ref f))) (hf:PySem.W.typeIn K (.ref f)=some (.type "function"))
  (h:codeAny (model prog w) (A.under (.builtin "type.__call__" ⟨.ref C::vs,kw⟩)) (.call (.ref f) ⟨.ref (s.heap.objs.size+1)::vs,kw⟩) (PySem.W.InitBack (s.heap.objs.size+1) R)
   { s with heap:=(s.heap.push PySem.W.emptyDict).push (PySem.W.instObj C s.heap.objs.size) }) :
  codeAny (model prog w) A (.call (.ref C) ⟨vs,kw⟩) R s:=by
 obtain⟨hh,g,d,t,os⟩:=s;exact PySem.W.make_core (PySem.W.makes_of X hm) (PySem.W.looks_findIn X hi) (λself=>PySem.W.bind_fn X self hf) (.inl rfl) h
end
def putF(f:Str)(v:V):List (Str×V)->List (Str×V)
 | []=>[(f,v)]
 | (g,x)::r=>if g=f then (g,v)::r else (g,x)::putF f v r
theorem ziw(f g:Str)(v:V):∀fs:List (Str×V),(putF f v fs).lookup g=if g=f then some v else fs.lookup g
 | []=>by
  show List.lookup g [(f,v)]=_;by_cases h:g=f
  . have hb:(g == f)=true:=yb6.mpr h;simp only[List.lookup,hb,yaj h]
  . have hb:(g == f)=false:=ycf.mpr h;simp only[List.lookup,hb,yai h]
 | (k,x)::r=>by
  have ih:=ziw f g v r;rw[show putF f v ((k,x)::r)=(if k=f then (k,v)::r else (k,x)::putF f v r) from rfl];by_cases hk:k=f
  . rw[yaj hk];by_cases h:g=k
    . have hb:(g == k)=true:=yb6.mpr h;simp only[List.lookup,hb,yaj (h.trans hk)]
    . have hb:(g == k)=false:=ycf.mpr h;simp only[List.lookup,hb,yai (λe:g=f=>h (e.trans hk.symm))]
  . rw[yai hk];by_cases h:g=k
    . have hb:(g == k)=true:=yb6.mpr h;simp only[List.lookup,hb,yai (λe:g=f=>hk (h.symm.trans e))]
    . have hb:(g == k)=false:=ycf.mpr h;simp only[List.lookup,hb];exact ih
theorem ziy(f:Str)(v:V):∀fs:List (Str×V),f∈(putF f v fs).map (·.1)/\∀g,g∈fs.map (·.1)->g∈(putF f v fs).map (·.1)
 | []=>⟨by simp[putF],λg h=>by simp at h⟩
 | (k,x)::r=>by
  obtain⟨i1,i2⟩:=ziy f v r;rw[show putF f v ((k,x)::r)=(if k=f then (k,v)::r else (k,x)::putF f v r) from rfl];by_cases hk:k=f
  . rw[yaj hk];subst hk;exact⟨by simp,λg h=>by simpa using h⟩
  . rw[yai hk];refine⟨?_,λg h=>?_⟩
    . rw[yaK];exact yad _ i1
    . rw[yaK]at h ⊢;rcases yat.mp h with e | e
      . exact yat.mpr (.inl e)
      . exact yad _ (i2 g e)
theorem zix(f:Str)(v:V):∀fs:List (Str×V),(putF f v fs).length<=fs.length+1
 | []=>by simp[putF]
 | (k,x)::r=>by
  have ih:=zix f v r;rw[show putF f v ((k,x)::r)=(if k=f then (k,v)::r else (k,x)::putF f v r) from rfl];by_cases hk:k=f
  . rw[yaj hk,yaP,yaP];omega
  . rw[yai hk,yaP,yaP];omega
theorem RelO.some_of{v:V}{o:Option Value}(r:RelO (some v) o):∃u,o=some u/\RelV v u:=by
 cases o with
 | none=>exact(show False from r).elim
 | some u=>exact⟨u,rfl,r⟩
theorem RelO.none_of{o:Option Value}(r:RelO none o):o=none:=by
 cases o with
 | none=>rfl
 | some u=>exact(show False from r).elim
theorem zql{v:V}{u:Value}(r:RelV v u):PySem.W.handedIn u=true:=by
 cases v with
 | non=>cases (show u=Value.none from r);rfl
 | bl b=>cases (show u=Value.bool b from r);rfl
 | int i=>obtain⟨t,e⟩:=(show ∃t,u=Value.int i t from r);cases e;rfl
 | str x=>obtain⟨t,e⟩:=(show ∃t,u=Value.str x t from r);cases e;rfl
 | byt b=>obtain⟨t,e⟩:=(show ∃t,u=Value.bytes b t from r);cases e;rfl
 | flt b=>obtain⟨t,e⟩:=(show ∃t,u=Value.float b t from r);cases e;rfl
 | ref a=>cases (show u=Value.ref a from r);rfl
 | ty n=>cases (show u=Value.type n from r);rfl
section
variable{P:Program}{w:World}{H H':Hp}{h h':Heap}{a C dx:Addr}{fs fs':List (Str×V)}
theorem zkB(hok:HOk P w H h)(e:H a=some (.ins C dx fs)):∃mA,ObjM h a dx C mA/\(∀f,RelO (fs.lookup f) (mA f))/\PySem.Within mA (fs.map (·.1))/\fs.length<=1000/\H dx=some (.own a):=by
 obtain⟨d,z,ne,ob,mA,n,r,q⟩:=(show zbM P w H h a (.ins C dx fs) from hok a _ e)
 exact⟨mA,⟨ob,n,ne⟩,r,q,z,d⟩
end
structure Cls(K:PySem.W.Frag)(C:Addr):Prop where
 pg:PySem.W.plainGet K C Str.empty=true
 hd:PySem.W.hasDictIn K C=true
 po:PySem.W.plainOver K C=true
 sa:PySem.W.findIn K (.ref C) "__setattr__" = some (some (.builtin "object.__setattr__"))
theorem Cls.get{K:PySem.W.Frag}{C:Addr}(c:Cls K C)(f:Str):PySem.W.plainGet K C f=true:=c.pg
def zcq(K:PySem.W.Frag)(C:Addr)(f:Str):Prop:=PySem.W.findIn K (.ref C) f=some none
theorem zcq.zuB{K:PySem.W.Frag}{C:Addr}{f:Str}(n:zcq K C f):PySem.W.takerIn K C f=some none:=by
 unfold PySem.W.takerIn;rw[show PySem.W.findIn K (.ref C) f=some none from n]
 rfl
structure Meth(K:PySem.W.Frag)(C:Addr)(m:Str)(f:Addr):Prop where
 at_:PySem.W.findIn K (.ref C) m=some (some (.ref f))
 fn:PySem.W.isFn K (.ref f)=true
 kp:PySem.W.keepIn K (.ref f)=true
section
variable{X:Cx}{pins:List (Addr×Obj)}{σ:St}{H:Hp}{s:Shared}{a C dx:Addr}{fs:List (Str×V)}{f:Str}{v:V}{A:Around}{E:Value->Shared->Prop}
theorem zoK{b:Bool}{Q:Value->Shared->Prop}(I:Inv X pins σ H s)(e:H a=some (.ins C dx fs))(c:Cls X.K C)(n:zcq X.K C f)(l:fs.lookup f=some v)
  (h:∀u s',Inv X pins σ H s'->RelV v u->Q u s'):wpAny (model X.prog X.w) A (getAttr (.ref a) f b) Q E s:=by
 obtain⟨mA,O,r,_,_,_⟩:=zkB I.hok e;obtain⟨u,hu,ru⟩:=RelO.some_of (v:=v) (o:=mA f) (by rw[<-l];exact r f);exact get_map I.kIn O (c.get f) c.hd n hu (zql ru) (h u _ (I.tok _) ru)
theorem zg3{m:Str}{g:Addr}{pl:Sem Bool}{Q:Value×List Value->Shared->Prop}(I:Inv X pins σ H s)(e:H a=some (.ins C dx fs))(c:Cls X.K C)(k:Meth X.K C m g)(l:fs.lookup m=none)
  (h:Q (.ref g,[.ref a]) s):wpAny (model X.prog X.w) A (getMethod (.ref a) m pl) Q E s:=by
 obtain⟨mA,O,r,_,_,_⟩:=zkB I.hok e;have hn:mA m=none:=RelO.none_of (by rw[<-l];exact r m);exact zrE I.kIn O (c.get m) k.at_ k.fn hn h
theorem zos{y:V}{u:Value}{Q:Unit->Shared->Prop}(I:Inv X pins σ H s)(e:H a=some (.ins C dx fs))(c:Cls X.K C)(n:zcq X.K C f)(hl:fs.length < 1000)(ry:RelV y u)
   (h:∀s',Inv X pins σ (upd H a (.ins C dx (putF f y fs))) s'->Q () s'):wpAny (model X.prog X.w) A (setAttr (.ref a) f u) Q E s:=by
 obtain⟨mA,O,r,wi,_,ho⟩:=zkB I.hok e;have hz:(fs.map (·.1)).length<=sizeLine:=by rw[yaa,yaw];omega
 refine zsC I.kIn O c.sa c.po n.zuB c.hd wi hz λh' O' sb=>h _ ?_;have hd:∃o,h'.get? dx=some o:=let ⟨o,_,_,e',_⟩:=O'.ns;⟨o,e'⟩;refine I.write (x:=a) (e:=dx) (by rw[e];exact True.intro) (.inr ho) (λb q hb z=>(sb.2 b hb).trans z) hd ?_;refine⟨by rw[zag O.ne];exact ho,?_,O.ne,O'.obj,_,O'.ns,λg=>?_,λg hg=>?_⟩
 . have:=zix f y fs;omega
 . show RelO ((putF f y fs).lookup g) (if g=f then some u else mA g);rw[ziw];by_cases q:g=f
   . rw[yaj q,yaj q];exact ry
   . rw[yai q,yai q];exact r g
 . by_cases q:g=f
   . rw[q];exact(ziy f y fs).1
   . refine(ziy f y fs).2 g (wi g λz=>hg ?_);show(if g=f then some u else mA g)=none;rw[yai q];exact z
theorem Inv.made(I:Inv X pins σ H s):Inv X pins σ (upd (upd H s.heap.objs.size (.own (s.heap.objs.size+1))) (s.heap.objs.size+1) (.ins C s.heap.objs.size []))
  { s with heap:=(s.heap.push PySem.W.emptyDict).push (PySem.W.instObj C s.heap.objs.size) }:=by
 have e1:(s.heap.push PySem.W.emptyDict).get? s.heap.objs.size=some PySem.W.emptyDict:=yaC s.heap rfl;have e2:((s.heap.push PySem.W.emptyDict).push (PySem.W.instObj C s.heap.objs.size)).get? (s.heap.objs.size+1)=some (PySem.W.instObj C s.heap.objs.size):=by
  have:=yaC (s.heap.push PySem.W.emptyDict) (o:=PySem.W.instObj C s.heap.objs.size) rfl
  rwa [ydj]at this
 have e3:(s.heap.push PySem.W.emptyDict).Ns s.heap.objs.size (λ_=>none):=⟨PySem.W.emptyDict,#[],_,e1,rfl,(λe he=>absurd he (by simp)),λ_=>rfl⟩
 have I1:=I.laid (a:=s.heap.objs.size) (o:=.own (s.heap.objs.size+1)) (h':=s.heap.push PySem.W.emptyDict) (t':=s.toks) (λb u q=>yae _ q) (yaf _) ⟨_,e1⟩;refine I1.laid (a:=s.heap.objs.size+1) (o:=.ins C s.heap.objs.size []) (t':=s.toks) (λb u q=>yae _ q) (yd8 (ydj _ _)) ?_;have ne:s.heap.objs.size≠s.heap.objs.size+1:=yaI (yc2 _);refine⟨by rw[zag ne,zab],ya1 _,ne,e2,λ_=>none,(Heap.Ns1.of_empty e3).at λo q=>yae _ q,λ_=>True.intro,λy hy=>absurd rfl hy⟩
theorem ztf{prog:Program}{w:World}{env:Env}{e:Expr}{f:Str}{pos:Pos}{s:Shared}{Q:Value->Shared->Prop}(hb:attributeBase e f env (eval e env)=eval e env)
  (h:wpAny (model prog w) A (eval e env) (λo s₁=>wpAny (model prog w) A (getAttr o f true) Q E s₁) E s):wpAny (model prog w) A (eval (.Attribute e f pos) env) Q E s :=
 Attribute_any_ h (by rw[arm_eval_Attribute,hb])
end
def tFld(K:PySem.W.Frag)(ta:TE)(f:Str):TE:=λσ H Q=>ta σ H λx H1=>∃a C dx fs v,x=.ref a/\H1 a=some (.ins C dx fs)/\Cls K C/\zcq K C f/\fs.lookup f=some v/\Q v H1
def sFld(K:PySem.W.Frag)(ta tv:TE)(f:Str):TS:=λD σ H=>tv σ H λy H1=>ta σ H1 λx H2=>∃a C dx fs,x=.ref a/\H2 a=some (.ins C dx fs)/\Cls K C/\zcq K C f/\fs.length < 1000 /\
 D.nx σ (upd H2 a (.ins C dx (putF f y fs)))
section
variable{X:Cx}{o e value:Expr}{f:Str}{pos pos' tpos:Pos}{ta tv:TE}
theorem zas(he:PE X e ta)(hb:attributeBase e f X.env (eval e X.env)=eval e X.env):PE X (.Attribute e f pos) (tFld X.K ta f):=by
 intro pins s σ H Q I h;refine ztf hb (thn (he pins s σ H _ I h) λu s1 ⟨x,H1,I1,rx,a,C,dx,fs,v,ex,ea,c,n,l,q⟩=>?_);subst ex;obtain rfl:u=Value.ref a:=rx;exact zoK I1 ea c n l λu' s2 I2 ru=>⟨v,H1,I2,ru,q⟩
theorem zb7(ha:PE X o ta)(hv:PE X value tv)(hs:swapsWith value (some (.Attribute o f pos')) pos.line X.env=pure false):PS X (.Assign [.Attribute o f pos'] value pos) (sFld X.K ta tv f):=by
 intro pins s σ H D I h;refine plainObj_wpAny_Assign_Attribute (thn (hv pins s σ H _ I h) λu s1 ⟨y,H1,I1,ry,q⟩=>thn (ha pins s1 σ H1 _ I1 q) λov s2 ⟨x,H2,I2,rx,a,C,dx,fs,ex,ea,c,n,l,q2⟩=>?_) hs;subst ex;obtain rfl:ov=Value.ref a:=rx;exact zos I2 ea c n l ry λs3 I3=>⟨σ,_,I3,q2⟩
theorem methcall_of{pl:Sem Bool}{m:Str}{apos:Pos}{args:List Expr}{pins:List (Addr×Obj)}{s:Shared}{σ:St}{H:Hp}{Q:Value->Shared->Prop}{te:TE}(he:PE X e te)(I:Inv X pins σ H s)
  (h:te σ H λx H1=>∃a C dx fs g,x=.ref a/\H1 a=some (.ins C dx fs)/\Cls X.K C/\Meth X.K C m g/\fs.lookup m=none /\
   ∀s1,Inv X pins σ H1 s1->wpAny (model X.prog X.w) X.A (callWith pos (.ref g) [.ref a] (backTo pos (starEach args X.env)) (backToKw pos (keywordEach [] X.env))) Q X.xe s1)
  (ht:eval (.Call (.Attribute e m apos) args [] pos) X.env=(do
   let ov <-eval e X.env
   standAt apos.atName
   let (f,first) <-holding [ov] (getMethod ov m pl)
   callWith pos f first (backTo pos (starEach args X.env)) (backToKw pos (keywordEach [] X.env)))) :
  wpAny (model X.prog X.w) X.A (eval (.Call (.Attribute e m apos) args [] pos) X.env) Q X.xe s:=by
 refine ycU (pl:=pl) (thn (he pins s σ H _ I h) λu s1 ⟨x,H1,I1,rx,a,C,dx,fs,g,ex,ea,c,k,l,q⟩=>?_) ht;subst ex;obtain rfl:u=Value.ref a:=rx;exact zg3 I1 ea c k l (q s1 I1)
end
section
variable{X:Cx}{pins:List (Addr×Obj)}{σ:St}{H:Hp}{s:Shared}{A:Around}{E:Value->Shared->Prop}{Q:Value->Shared->Prop}{c:Value}{b:Bool}
inductive TyOf(K:PySem.W.Frag)(H:Hp):V->Value->Prop where
 | non:TyOf K H .non (.type "NoneType")
 | bl (x:Bool):TyOf K H (.bl x) (.type "bool")
 | int (i:Int):TyOf K H (.int i) (.type "int")
 | str (x:Str):TyOf K H (.str x) (.type "str")
 | flt (x:UInt64):TyOf K H (.flt x) (.type "float")
 | lst {a:Addr} {xs:List V} (e:H a=some (.lst xs)):TyOf K H (.ref a) (.type "list")
 | frz {a:Addr} {o:Obj} {xs:List V} (e:H a=some (.frz o (.lst xs))):TyOf K H (.ref a) (.type "list")
 | tup {a:Addr} {xs:List V} (e:H a=some (.tup xs)):TyOf K H (.ref a) (.type "tuple")
 | dK {a:Addr} {kvs:List (Key×V)} (e:H a=some (.dK kvs)):TyOf K H (.ref a) (.type "dict")
 | dT {a:Addr} {kvs:List (List Key×V)} (e:H a=some (.dT kvs)):TyOf K H (.ref a) (.type "dict")
 | ins {a C dx:Addr} {fs:List (Str×V)} (e:H a=some (.ins C dx fs)) (cl:Cls K C) (ha:PySem.W.findIn K (.ref C) "__class__" = some (some (.builtin "object.__class__")))
  (hn:PySem.W.specialIn K (.builtin "object.__class__") "__get__" = some (some (.builtin "getset_descriptor.__get__"))) (htk:PySem.W.takesIn K (.builtin "object.__class__")=some true)
  (hm:PySem.W.mroIn K C (.type "object")=some true):TyOf K H (.ref a) (.ref C)
theorem zlQ{x:V}{u t:Value}(I:Inv X pins σ H s)(rx:RelV x u)(ty:TyOf X.K H x t)(e:PySem.W.kitOne X.K t c=some b)(h:∀tk,Q (.bool b) { s with toks:=tk }) :
  wpAny (model X.prog X.w) A (call (.builtin "isinstance") [u,c]) Q E s:=by
 cases ty with
 | non=>cases (show u=Value.none from rx);exact ybo PySem.W.kitx_none I.kIn True.intro e (λz=>nomatch z) h
 | bl y=>cases (show u=Value.bool y from rx);exact ybo PySem.W.kitx_bool I.kIn True.intro e (λz=>nomatch z) h
 | int i=>obtain⟨t,q⟩:=(show ∃t,u=Value.int i t from rx);cases q;exact ybo PySem.W.kitx_int I.kIn True.intro e (λz=>nomatch z) h
 | str y=>obtain⟨t,q⟩:=(show ∃t,u=Value.str y t from rx);cases q;exact ybo PySem.W.kitx_str I.kIn True.intro e (λz=>nomatch z) h
 | flt y=>obtain⟨t,q⟩:=(show ∃t,u=Value.float y t from rx);cases q;exact ybo PySem.W.kitx_float I.kIn True.intro e (λz=>nomatch z) h
 | @lst a xs ea =>
  cases (show u=Value.ref a from rx);obtain⟨_,_,n,_,h1⟩:=(show zbM X.prog X.w H s.heap a (.lst xs) from I.hok a _ ea)
  exact ybo PySem.W.kitx_list I.kIn ⟨_,h1,rfl⟩ e (λz=>nomatch z) h
 | @frz a ob xs ea =>
  cases (show u=Value.ref a from rx);obtain⟨_,_,_,n,_,h1⟩:=(show zbM X.prog X.w H s.heap a (.frz ob (.lst xs)) from I.hok a _ ea)
  exact ybo PySem.W.kitx_list I.kIn ⟨_,h1,rfl⟩ e (λz=>nomatch z) h
 | @tup a xs ea =>
  cases (show u=Value.ref a from rx);obtain⟨_,_,_,p⟩:=(show zbM X.prog X.w H s.heap a (.tup xs) from I.hok a _ ea)
  obtain⟨o,h1,h2,_⟩:=p;exact ybo PySem.W.kitx_tuple I.kIn ⟨o,h1,h2⟩ e (λz=>nomatch z) h
 | @dK a kvs ea =>
  cases (show u=Value.ref a from rx);obtain⟨_,_,vs,_,p⟩:=(show zbM X.prog X.w H s.heap a (.dK kvs) from I.hok a _ ea)
  obtain⟨o,es,ep,h1,h2,_⟩:=p;exact ybo PySem.W.kitx_dict I.kIn ⟨o,h1,h2.1⟩ e (λz=>nomatch z) h
 | @dT a kvs ea =>
  cases (show u=Value.ref a from rx);obtain⟨_,_,xs,_,o,es,ep,h1,h2,_⟩:=(show zbM X.prog X.w H s.heap a (.dT kvs) from I.hok a _ ea)
  exact ybo PySem.W.kitx_dict I.kIn ⟨o,h1,h2.1⟩ e (λz=>nomatch z) h
 | @ins a C dx fs ea cl ha hn htk hm =>
  cases (show u=Value.ref a from rx);obtain⟨mA,O,_⟩:=zkB I.hok ea;obtain⟨od,J,_⟩:=O.look;exact ybo (PySem.W.kitx_own (cl.get _) cl.hd ha hn htk hm) I.kIn J e (λz=>nomatch z) h
end
end L2
namespace L2
open PySem PySem.Spec PyProof.Rows
structure Room(k:Nat)(A:Around):Prop where
 hd:A.handled=none
 dp:A.depth+3 * k+5 < recursionLimit
 un:A.units+16 * k+200 < cLine
theorem Room.mono{j k:Nat}{A:Around}(r:Room k A)(h:j<=k):Room j A:=⟨r.hd,by have:=r.dp;omega,by have:=r.un;omega⟩
theorem Room.deeper{k:Nat}{A:Around}(r:Room (k+1) A)(env:Env):Room k (A.deeper env) :=
 ⟨r.hd,by have:=r.dp;show A.depth+1+3 * k+5 < _;omega,by have:=r.un;show A.units+3+16 * k+200 < _;omega⟩
theorem zoA{A:Around}{C:Addr}{us:List Value}{kw:List (Str×Value)}:(A.under (.builtin "type.__call__" ⟨.ref C::us,kw⟩)).depth=A.depth+1:=by
 first | rfl | simp[Around.under,Code.weight,Code.isCreation,Code.isGuard,Code.isCaller,Code.frames,Code.isFrame,guardIds]
theorem zoz{A:Around}{C:Addr}{us:List Value}{kw:List (Str×Value)}:(A.under (.builtin "type.__call__" ⟨.ref C::us,kw⟩)).units=A.units+1:=by
 first | rfl | simp[Around.under,Code.cUnits,Code.frames,Code.isFrame]
theorem Room.make{k:Nat}{A:Around}(r:Room (k+1) A)(C:Addr)(us:List Value)(kw:List (Str×Value)):Room k (A.under (.builtin "type.__call__" ⟨.ref C::us,kw⟩)) :=
 ⟨r.hd,by have:=r.dp;rw[zoA];omega,by have:=r.un;rw[zoz];omega⟩
theorem Room.depth{k:Nat}{A:Around}(r:Room k A):A.depth < recursionLimit:=by have:=r.dp;omega
theorem Room.units{k:Nat}{A:Around}(r:Room k A):A.units+64 < cLine:=by have:=r.un;omega
def tNil:TA:=λ_ H Q=>Q [] H
def zq2(ta:TE)(tr:TA):TA:=λσ H Q=>ta σ H λx H1=>tr σ H1 λxs H2=>Q (x::xs) H2
section
variable{X:Cx}{e:Expr}{es:List Expr}{te:TE}{t:TA}{pos:Pos}
theorem zad:PA X [] tNil:=λ_ _ _ _ H Q I h=>ycv ⟨[],H,I,.nil,h⟩
theorem zaa(ha:PE X e te)(hr:PA X es t)(hs:starEach (e::es) X.env=(false,eval e X.env)::starEach es X.env:=by rfl):PA X (e::es) (zq2 te t):=by
 intro pos pins s σ H Q I h;rw[hs];show wpAny _ _ (spliced ((false,eval e X.env)::backTo pos (starEach es X.env))) _ _ s;refine ybx (thn (ha pins s σ H _ I h) λu s1 ⟨x,H1,I1,r1,q1⟩=>?_);exact thn (hr pos pins s1 σ H1 _ I1 q1) λus s2 ⟨xs,H2,I2,r2,q2⟩=>⟨x::xs,H2,I2,.cons r1 r2,q2⟩
def tTup(t:TA):TE:=λσ H Q=>t σ H λxs H1=>xs.length<=sizeLine/\∀p,H1 p=none->Q (.ref p) (upd H1 p (.tup xs))
def tLst(t:TA):TE:=λσ H Q=>t σ H λxs H1=>xs.length<=sizeLine/\∀p,H1 p=none->Q (.ref p) (upd H1 p (.lst xs))
theorem za4{x1}(h:PA X es t):PE X (.Tuple es x1 pos) (tTup t):=by
 intro pins s σ H Q I hq;refine wpAny_Tuple_spliced (thn (h pos pins s σ H _ I hq) λus s1 ⟨xs,H1,I1,r,z,q⟩=>⟨by rw[<-r.length];exact z,?_⟩);have hf:H1 s1.heap.objs.size=none:=I1.hok.fresh (yaf _);refine⟨.ref s1.heap.objs.size,upd H1 s1.heap.objs.size (.tup xs),I1.laid (t':=s1.toks) (λb u e=>yae _ e) (yaf _) ?_,rfl,q _ hf⟩;exact⟨z,us,r,⟨_,yaC _ rfl,rfl,_,rfl⟩⟩
theorem zc7(h:PA X es t):PE X (.List es pos) (tLst t):=by
 intro pins s σ H Q I hq;refine wpAny_List_spliced (thn (h pos pins s σ H _ I hq) λus s1 ⟨xs,H1,I1,r,z,q⟩=>⟨by rw[<-r.length];exact z,?_⟩);have hf:H1 s1.heap.objs.size=none:=I1.hok.fresh (yaf _);refine⟨.ref s1.heap.objs.size,upd H1 s1.heap.objs.size (.lst xs),I1.laid (t':=s1.toks) (λb u e=>yae _ e) (yaf _) ?_,rfl,q _ hf⟩;exact⟨z,us,0,r,yaC _ rfl⟩
end
abbrev Sp:=List V->Hp->VK->XK->Prop
abbrev CXT:=List Env->Hp->Shared->XK->Value->Shared->Prop
structure Env0(P:Program)(w:World)(K:PySem.W.Frag)(mg:Str->Option Value)(base:Heap)(A:Around)(outer:List Env)(s:Shared)(H:Hp):Prop where
 frames:A.frames=some outer
 mod:Mod K mg base
 bs:∀b o,base.get? b=some o->s.heap.get? b=some o/\H b=none
 bsz:base.objs.size<=s.heap.objs.size
 funs:s.heap.FunFrames base outer
 frf:∀b∈frs outer,H b=none
 hok:HOk P w H s.heap
 bare:AllBare s.gens
def CE(outer:List Env)(P:Program)(w:World)(H:Hp)(s:Shared)(Q:VK)(u:Value)(s':Shared):Prop :=
 ∃v H',s'.os=s.os/\AllBare s'.gens/\Un (frs outer) [] H H' s.heap s'.heap/\HOk P w H' s'.heap/\RelV v u/\Q v H'
def CR(CX:CXT)(outer:List Env)(P:Program)(w:World)(H:Hp)(s:Shared)(Q:VK)(E:XK)(r:Result)(s':Shared):Prop :=
 match r with
 | .ok (.ret u)=>CE outer P w H s Q u s'
 | .ok _=>False
 | .error e=>CX outer H s E e s'
structure FnOk(P:Program)(w:World)(K:PySem.W.Frag)(mg:Str->Option Value)(base:Heap)(CX:CXT)(k:Nat)(f:Addr)(fd:FuncData)(ps:List Str)(sp:Sp):Prop where
 len:∀vs H Q E,sp vs H Q E->vs.length=ps.length
 run:∀(A:Around) (outer:List Env) (s:Shared) (H:Hp) (args:Args) (us:List Value) (vs:List V) (Q:VK) (E:XK),Room k A->Env0 P w K mg base A outer s H->BindsTo s fd args (ps.zip us)->Vals vs us->sp vs H Q E ->
  codeAny (model P w) A (.call (.ref f) args) (CR CX outer P w H s Q E) s
theorem Env0.make{P:Program}{w:World}{K:PySem.W.Frag}{mg:Str->Option Value}{base:Heap}{A:Around}{outer:List Env}{s:Shared}{H:Hp}(e:Env0 P w K mg base A outer s H)(C:Addr)(us:List Value)(kw:List (Str×Value)) :
 Env0 P w K mg base (A.under (.builtin "type.__call__" ⟨.ref C::us,kw⟩)) outer s H:=⟨by first | exact e.frames | (simpa[Around.under,Code.envs,Code.isFrame,pushEnvs] using e.frames),e.mod,e.bs,e.bsz,e.funs,e.frf,e.hok,e.bare⟩
section
variable{X:Cx}{pins:List (Addr×Obj)}{σ:St}{H:Hp}{s s':Shared}
theorem Inv.env0(I:Inv X pins σ H s):Env0 X.prog X.w X.K X.mg X.base X.A X.stack s H :=
 ⟨I.ok.frames,I.ok.mod,I.bs,yaA I.ok.bsz I.sz,I.stack,I.zhW,I.hok,I.bare⟩
theorem Inv.after{Q:VK}{u:Value}(I:Inv X pins σ H s)(h:CE X.stack X.prog X.w H s Q u s'):EP X pins σ Q u s':=by
 obtain⟨v,H',os,bare,un,hok,r,q⟩:=h;obtain⟨hh,g,d,t,os'⟩:=s';obtain rfl:os'=s.os:=os;exact⟨v,H',I.call (h':=hh) (g':=g) (d':=d) (t':=t) (ch:=[]) un hok bare (λb z=>absurd z (by simp)),r,q⟩
end
def zuH(sp:Sp)(dvs:List V)(E:XK)(t:TA):TE:=λσ H Q=>t σ H λvs H1=>sp (vs++dvs) H1 Q E
def ztr(C:Addr)(m:Str)(sp:Sp)(dvs:List V)(E:XK)(ta:TE)(t:TA):TE:=λσ H Q=>ta σ H λx H1=>∃a dx fs,x=.ref a/\H1 a=some (.ins C dx fs)/\fs.lookup m=none /\
 t σ H1 λvs H2=>sp (x::(vs++dvs)) H2 Q E
def zts(C:Addr)(sp:Sp)(dvs:List V)(E:XK)(t:TA):TE:=λσ H Q=>t σ H λvs H1=>∀x dx,H1 x=none->H1 dx=none->dx≠x ->
 sp (.ref x::(vs++dvs)) (upd (upd H1 dx (.own x)) x (.ins C dx [])) (λv H2=>v=.non/\Q (.ref x) H2) E
def Binds(K:PySem.W.Frag)(fd:FuncData)(ps:List Str)(ds:List Value):Prop :=
 ∀(s:Shared) (us:List Value),K.In s.heap->(us++ds).length=ps.length->BindsTo s fd ⟨us,[]⟩ (ps.zip (us++ds))
theorem Binds.all{K:PySem.W.Frag}{fd:FuncData}{ps:List Str}(h:∀us:List Value,us.length=ps.length->bindArgs fd ⟨us,[]⟩=pure (ps.zip us)):Binds K fd ps []:=λs us _ hl=>by
 rw[ybe]at hl ⊢;exact .of_eq (h us hl)
def Passes(CX:CXT)(X:Cx)(E:XK):Prop:=∀(pins:List (Addr×Obj)) (σ:St) (H:Hp) (s:Shared) (e:Value) (s':Shared),Inv X pins σ H s->CX X.stack H s E e s'->X.xe e s'
section
variable{X:Cx}{CX:CXT}{k:Nat}{f C:Addr}{fd:FuncData}{ps:List Str}{sp:Sp}{dvs:List V}{ds:List Value}{E:XK}{x m:Str}{p pos apos:Pos}{e o:Expr}{es:List Expr}{ta:TE}{t:TA}
theorem zpB{pins:List (Addr×Obj)}{σ:St}{H:Hp}{s:Shared}{Q:VK}{us:List Value}{vs:List V}(F:FnOk X.prog X.w X.K X.mg X.base CX k f fd ps sp)(hr:Room k X.A)(hb:Binds X.K fd ps ds)(hd:Vals dvs ds)(hx:Passes CX X E)
  (I:Inv X pins σ H s) (r:Vals vs us) (h:sp (vs++dvs) H Q E):wpAny (model X.prog X.w) X.A (call (.ref f) us) (EP X pins σ Q) X.xe s:=by
 have r2:Vals (vs++dvs) (us++ds):=r.append hd;have hl:(us++ds).length=ps.length:=by rw[<-r2.length];exact F.len _ _ _ _ h
 refine wpAny_call (ycD (F.run X.A X.stack s H ⟨us,[]⟩ (us++ds) (vs++dvs) Q E hr I.env0 (hb s us I.kIn hl) r2 h) λr s' hq=>?_);cases r with
 | error e=>exact hx pins σ H s e s' I hq
 | ok fl =>
  cases fl with
  | ret u=>exact I.after hq
  | next=>exact False.elim hq
  | brk=>exact False.elim hq
  | cont=>exact False.elim hq
theorem zaN(F:FnOk X.prog X.w X.K X.mg X.base CX k f fd ps sp)(hr:Room k X.A)(hg:Gl X x)(hm:X.mg x=some (.ref f))(hk:PySem.W.keepIn X.K (.ref f)=true)(hb:Binds X.K fd ps ds)(hd:Vals dvs ds)(hx:Passes CX X E)
  (ha:PA X (e::es) t) (hdb:(x == ("__debug__" : Str))=false:=by decide) (he:starEach (e::es) X.env=(false,eval e X.env)::starEach es X.env:=by rfl) (hpl:(backTo pos (starEach es X.env)).any (·.1)=false:=by rfl) :
  PE X (.Call (.Name x p) (e::es) [] pos) (zuH sp dvs E t):=by
 intro pins s σ H Q I h;refine ycm (zg0 I hg hm ?_ hdb);refine ydg (h₀:=X.base) I.ok.mod.kin hk (thn (ha pos pins s σ H _ I h) λus s1 ⟨vs,H1,I1,r,q⟩=>⟨I1.kIn,?_⟩) he hpl;exact zpB F hr hb hd hx I1 r q
theorem zaA{pl:Sem Bool}(he:PE X o ta)(c:Cls X.K C)(hm:Meth X.K C m f)(F:FnOk X.prog X.w X.K X.mg X.base CX k f fd ps sp)(hr:Room k X.A)(hb:Binds X.K fd ps ds)(hd:Vals dvs ds)(hx:Passes CX X E)(ha:PA X (e::es) t)
  (hst:starEach (e::es) X.env=(false,eval e X.env)::starEach es X.env:=by rfl) (hpl:(backTo pos (starEach es X.env)).any (·.1)=false:=by rfl)
  (ht:eval (.Call (.Attribute o m apos) (e::es) [] pos) X.env=(do
   let ov <-eval o X.env
   standAt apos.atName
   let (f,first) <-holding [ov] (getMethod ov m pl)
   callWith pos f first (backTo pos (starEach (e::es) X.env)) (backToKw pos (keywordEach [] X.env))):=by rfl) :
  PE X (.Call (.Attribute o m apos) (e::es) [] pos) (ztr C m sp dvs E ta t):=by
 intro pins s σ H Q I h;refine ycU (pl:=pl) (thn (he pins s σ H _ I h) λu s1 ⟨x,H1,I1,rx,a,dx,fs,ex,ea,l,q⟩=>?_) ht;subst ex;obtain rfl:u=Value.ref a:=rx;refine zg3 I1 ea c hm l ?_;refine ydg (first:=[.ref a]) (h₀:=X.base) I.ok.mod.kin hm.kp (thn (ha pos pins s1 σ H1 _ I1 q) λus s2 ⟨vs,H2,I2,r,q2⟩=>⟨I2.kIn,?_⟩) hst hpl;exact zpB (us:=.ref a::us) (vs:=.ref a::vs) F hr hb hd hx I2 (.cons rfl r) q2
theorem za7{pl:Sem Bool}(he:PE X o ta)(c:Cls X.K C)(hm:Meth X.K C m f)(F:FnOk X.prog X.w X.K X.mg X.base CX k f fd ps sp)(hr:Room k X.A)(hb:Binds X.K fd ps ds)(hd:Vals dvs ds)(hx:Passes CX X E)
  (ht:eval (.Call (.Attribute o m apos) [] [] pos) X.env=(do
   let ov <-eval o X.env
   standAt apos.atName
   let (f,first) <-holding [ov] (getMethod ov m pl)
   callWith pos f first (backTo pos (starEach [] X.env)) (backToKw pos (keywordEach [] X.env))):=by rfl) :
  PE X (.Call (.Attribute o m apos) [] [] pos) (ztr C m sp dvs E ta tNil):=by
 intro pins s σ H Q I h;refine ycU (pl:=pl) (thn (he pins s σ H _ I h) λu s1 ⟨x,H1,I1,rx,a,dx,fs,ex,ea,l,q⟩=>?_) ht;subst ex;obtain rfl:u=Value.ref a:=rx;refine zg3 I1 ea c hm l ?_;exact PySem.W.callWith_K0 (first:=[.ref a]) I1.kIn hm.kp (zpB (us:=[.ref a]) (vs:=[.ref a]) F hr hb hd hx I1 (.cons rfl .nil) q)
structure Mk(K:PySem.W.Frag)(C f:Addr):Prop where
 makes:PySem.W.makesIn K C=true
 init:PySem.W.findIn K (.ref C) "__init__" = some (some (.ref f))
 fn:PySem.W.isFn K (.ref f)=true
 kp:PySem.W.keepIn K (.ref C)=true
theorem znC{pins:List (Addr×Obj)}{σ:St}{H:Hp}{s:Shared}{Q:VK}{us:List Value}{vs:List V}(M:Mk X.K C f)(F:FnOk X.prog X.w X.K X.mg X.base CX k f fd ps sp)(hr:Room (k+1) X.A)(hb:Binds X.K fd ps ds)(hd:Vals dvs ds)
  (hx:Passes CX X E) (I:Inv X pins σ H s) (r:Vals vs us)
  (h:∀x dx,H x=none->H dx=none->dx≠x->sp (.ref x::(vs++dvs)) (upd (upd H dx (.own x)) x (.ins C dx [])) (λv H2=>v=.non/\Q (.ref x) H2) E) :
  wpAny (model X.prog X.w) X.A (call (.ref C) us) (EP X pins σ Q) X.xe s:=by
 have hq:=h (s.heap.objs.size+1) s.heap.objs.size (I.hok.fresh (ycM _)) (I.hok.fresh (yaf _)) (yaI (yc2 _));have I2:=Inv.made (C:=C) I;have r2:Vals (V.ref (s.heap.objs.size+1)::(vs++dvs)) (Value.ref (s.heap.objs.size+1)::(us++ds)):=.cons rfl (r.append hd);have hl:(Value.ref (s.heap.objs.size+1)::us++ds).length=ps.length:=by
  have e:=r2.length;rw[F.len _ _ _ _ hq]at e;exact e.symm
 refine wpAny_call (zrr (f:=f) I.kIn M.makes M.init (yb6.mp M.fn) (ycD (F.run _ X.stack _ _ ⟨Value.ref (s.heap.objs.size+1)::us,[]⟩ (Value.ref (s.heap.objs.size+1)::(us++ds)) _ _ E (hr.make C us [])
  (I2.env0.make C us []) (hb _ (Value.ref (s.heap.objs.size+1)::us) I2.kIn hl) r2 hq) λr s' hq'=>?_))
 cases r with
 | error e=>exact hx pins σ _ _ e s' I2 hq'
 | ok fl =>
  cases fl with
  | ret u =>
   obtain⟨v,H',I3,rv,ev,q3⟩:=I2.after hq';subst ev;exact⟨rv,⟨V.ref (s.heap.objs.size+1),H',I3,rfl,q3⟩⟩
  | next=>exact False.elim hq'
  | brk=>exact False.elim hq'
  | cont=>exact False.elim hq'
theorem zpJ(M:Mk X.K C f)(F:FnOk X.prog X.w X.K X.mg X.base CX k f fd ps sp)(hr:Room (k+1) X.A)(hg:Gl X x)(hm:X.mg x=some (.ref C))(hb:Binds X.K fd ps ds)(hd:Vals dvs ds)(hx:Passes CX X E)
  (ha:PA X (e::es) t) (hdb:(x == ("__debug__" : Str))=false:=by decide) (he:starEach (e::es) X.env=(false,eval e X.env)::starEach es X.env:=by rfl) (hpl:(backTo pos (starEach es X.env)).any (·.1)=false:=by rfl) :
  PE X (.Call (.Name x p) (e::es) [] pos) (zts C sp dvs E t):=by
 intro pins s σ H Q I h;refine ycm (zg0 I hg hm ?_ hdb);refine ydg (h₀:=X.base) I.ok.mod.kin M.kp (thn (ha pos pins s σ H _ I h) λus s1 ⟨vs,H1,I1,r,q⟩=>⟨I1.kIn,?_⟩) he hpl;exact znC M F hr hb hd hx I1 r q
theorem zhL(M:Mk X.K C f)(F:FnOk X.prog X.w X.K X.mg X.base CX k f fd ps sp)(hr:Room (k+1) X.A)(hg:Gl X x)(hm:X.mg x=some (.ref C))(hb:Binds X.K fd ps ds)(hd:Vals dvs ds)(hx:Passes CX X E)
  (hdb:(x == ("__debug__" : Str))=false:=by decide):PE X (.Call (.Name x p) [] [] pos) (zts C sp dvs E tNil):=by
 intro pins s σ H Q I h;refine ycm (zg0 I hg hm ?_ hdb);exact PySem.W.callWith_K0 I.kIn M.kp (znC (us:=[]) M F hr hb hd hx I .nil h)
end
section
variable{X:Cx}{CX:CXT}{k:Nat}{f C:Addr}{fd:FuncData}{ps ks:List Str}{sp:Sp}{E:XK}{x m:Str}{p pos apos kpos:Pos}{e o:Expr}{es:List Expr}{kws:List Keyword}{te ta:TE}{t tk:TA}{nm:Option Str}
variable{g:List Value->List Value->List Value}{gV:List V->List V->List V}
end
structure zau(N P:List Str)(sc:Scope):Prop where
 kind:sc.kind=.function
 co:sc.isCoroutine=false
 gen:sc.isGenerator=false
 nd:N.Nodup
 pre:N.take P.length=P
 par:∀x∈P,sc.names.lookup x=some .local\/sc.names.lookup x=some .cell
 zt6:∀y∈sc.names,y.2≠.free
theorem zl3{kindOf:Str->Option NameKind}{x:Str}:∀{binds:List (Str×Value)} {m:Str->Option Value},(∀v,(x,v)∉binds)->bindL kindOf binds m x=m x
 | [],_,_=>rfl
 | (n,v)::r,m,h=>by
  unfold bindL;rw[zl3 λw hw=>h w (yad _ hw)];split
  . have:x≠n:=by rintro rfl;exact h v yac
    simp[this]
  . rfl
theorem zl5{kindOf:Str->Option NameKind}{x:Str}:∀{binds:List (Str×Value)} {m:Str->Option Value},(∀v,(x,v)∉binds)->bindC kindOf binds m x=m x
 | [],_,_=>rfl
 | (n,v)::r,m,h=>by
  unfold bindC;rw[zl5 λw hw=>h w (yad _ hw)];split
  . rfl
  . have:x≠n:=by rintro rfl;exact h v yac
    simp[this]
theorem zl4{kindOf:Str->Option NameKind}{x:Str}{v:Value}:∀{P:List Str} {vs:List Value} {i:Nat} {m:Str->Option Value},P.Nodup->P[i]?=some x->vs[i]?=some v->kindOf x=some .local ->
  bindL kindOf (P.zip vs) m x=some v
 | [],_,_,_,_,h,_,_=>by simp at h
 | _::_,[],_,_,_,_,h,_=>by simp at h
 | p::P,w::vs,0,m,nd,h1,h2,hk=>by
  simp at h1 h2;subst h1;subst h2;show bindL kindOf ((p,w)::P.zip vs) m p=_;unfold bindL;rw[zl3 λv hv=>(yaW.mp nd).1 (ydX hv).1,yaj hk];simp
 | p::P,w::vs,i+1,m,nd,h1,h2,hk=>by
  show bindL kindOf ((p,w)::P.zip vs) m x=_;unfold bindL;exact zl4 (i:=i) (yaW.mp nd).2 (by simpa using h1) (by simpa using h2) hk
theorem zl6{kindOf:Str->Option NameKind}{x:Str}{v:Value}:∀{P:List Str} {vs:List Value} {i:Nat} {m:Str->Option Value},P.Nodup->P[i]?=some x->vs[i]?=some v->kindOf x≠some .local ->
  bindC kindOf (P.zip vs) m x=some v
 | [],_,_,_,_,h,_,_=>by simp at h
 | _::_,[],_,_,_,_,h,_=>by simp at h
 | p::P,w::vs,0,m,nd,h1,h2,hk=>by
  simp at h1 h2;subst h1;subst h2;show bindC kindOf ((p,w)::P.zip vs) m p=_;unfold bindC;rw[zl5 λv hv=>(yaW.mp nd).1 (ydX hv).1,yai hk];simp
 | p::P,w::vs,i+1,m,nd,h1,h2,hk=>by
  show bindC kindOf ((p,w)::P.zip vs) m x=_;unfold bindC;exact zl6 (i:=i) (yaW.mp nd).2 (by simpa using h1) (by simpa using h2) hk
def start(N:List Str)(vs:List V):St:=vs.map some++List.replicate (N.length - vs.length) none
def cxOf(CX:CXT)(P:Program)(w:World)(K:PySem.W.Frag)(mg:Str->Option Value)(base:Heap)(N:List Str)(qual:Str)(scope:Scope)(f:Addr)(cd:Value)(A:Around)(outer:List Env)(s:Shared)(H:Hp)(E:XK):Cx where
 prog:=P
 w:=w
 K:=K
 mg:=mg
 base:=base
 A:=A.deeper (envOfC qual scope s.heap.objs.size f cd)
 N:=N
 s₀:=s
 H₀:=H
 env:=envOfC qual scope s.heap.objs.size f cd
 outer:=outer
 stack:=envOfC qual scope s.heap.objs.size f cd::outer
 ex:=[]
 calm:=true
 fn:=λ_=>true
 pn:=[]
 xe:=λe s'=>wpAny (model P w) (A.deeper (envOfC qual scope s.heap.objs.size f cd)) (leaving (envOfC qual scope s.heap.objs.size f cd) e) (λ_ s''=>CX outer H s E e s'') (λe' s''=>CX outer H s E e' s'') s'
theorem zn7{sc:Scope}{n:Nat}{x:Str}(h:sc.names.lookup x=some .cell):∃c,(cellsFrom n sc.names []).lookup x=some c:=by
 have q:=ydO sc.names n [] (.inl h);exact ydt.mp q
theorem zqg{CX:CXT}{P:Program}{w:World}{K:PySem.W.Frag}{mg:Str->Option Value}{base:Heap}{N ps:List Str}{qual:Str}{scope:Scope}{f:Addr}{cd:Value}{A:Around}{outer:List Env}{s s1:Shared}{H:Hp}{E:XK}{us:List Value}{vs:List V}
   (S:zau N ps scope) (hd:A.handled=none) (e0:Env0 P w K mg base A outer s H) (hl:vs.length=ps.length) (r:Vals vs us)
   (x:InCallC s s.heap.objs.size (bindL (envOfC qual scope s.heap.objs.size f cd).kindOf (ps.zip us) λ_=>none) (cellsFrom (s.heap.objs.size+1) scope.names []) (bindC (envOfC qual scope s.heap.objs.size f cd).kindOf (ps.zip us) λ_=>none) s1) :
   Inv (cxOf CX P w K mg base N qual scope f cd A outer s H E) [] (start N vs) H s1:=by
 have hpl:ps.length<=N.length:=by have:=yaZ List.length S.pre;rw[yaY]at this;omega
 obtain⟨h1,tk,rfl,hk⟩:=x.done;have noA:∀b:Addr,b∉(cxOf CX P w K mg base N qual scope f cd A outer s H E).ex:=λb z=>absurd (show b∈([]:List Addr) from z) (by simp);refine⟨⟨e0.mod,S.kind,rfl,rfl,yaf _,λy z c h1 h2=>?_,λy hy=>?_,λy c _ h=>?_,λ_=>hd,Around.frames_deeper e0.frames,.inr ⟨rfl,rfl⟩,λb z=>absurd z (noA b),e0.bs,e0.bsz,λb _ _=>noA b,λb z=>absurd z (noA b),e0.funs,e0.frf⟩,
   rfl,e0.bare,Un.kept hk,⟨_,x.toInCall.ns,λi y v h1 h2 h3=>?_⟩,λy c h=>⟨_,x.cell y c h⟩,e0.hok.fresh (yaf _),λy c h=>?_,λp hp=>absurd (show p∈([]:List (Addr×Obj)) from hp) (by simp),e0.hok.kept hk,?_⟩
 . exact name_of_addr x.apart (ybr h1) (ybr h2)
 . have hy:scope.names.lookup y=some .cell\/scope.names.lookup y=some .free:=hy;rcases hy with hy | hy
   . exact zn7 hy
   . exact absurd rfl (S.zt6 _ (ybr hy))
 . exact yco (x.above y c (ybr h))
 . have hi:i < vs.length:=by
     unfold start at h2;by_cases hi:i < vs.length
     . exact hi
     . rw[ybT (by simpa using hi)]at h2;rw[ydw]at h2;split at h2<;>cases h2
   have ha:vs[i]?=some v:=by
     unfold start at h2;rw[ybC (by simpa using hi),yak]at h2;cases e:vs[i]? with
     | none=>rw[e]at h2;cases h2
     | some a=>rw[e]at h2;cases h2;rfl
   obtain⟨u,hu,rv⟩:=r.get ha;have hp:ps[i]?=some y:=by
     rw[<-S.pre,ydo (by omega)];exact h1
   have ndP:ps.Nodup:=by rw[<-S.pre];exact S.nd.sublist (List.take_sublist _ _)
   refine⟨u,rv,?_⟩;rcases S.par y (yaS hp) with k | k
   . exact .inl ⟨k,zl4 ndP hp hu k⟩
   . obtain⟨c,e⟩:=zn7 (n:=s.heap.objs.size+1) k;refine .inr ⟨.inl k,c,e,?_⟩;have q:=x.cell y c e;rw[zl6 ndP hp hu (by show scope.names.lookup y≠_;rw[k];decide)]at q;exact q
 . exact e0.hok.fresh (yco (x.above y c (ybr h)))
 . unfold start;show _=N.length;rw[yah,yaa,ycV];omega
theorem zu2{CX:CXT}{P:Program}{w:World}{K:PySem.W.Frag}{mg:Str->Option Value}{base:Heap}{k:Nat}{f:Addr}{name qual:Str}{params:Arguments}{body:List Stmt}{scope:Scope}{dV kV doc pm cdv ct oc:Value}{an od:Option Addr}
  {osl:Array (Option Value)} {N ps:List Str} {sp:Sp} (lk:K.lookup f=some ⟨oc,od,.func (PySem.W.fnOf name qual params body scope dV kV doc pm an cdv ct),osl⟩) (hcd:PySem.W.codeIn K cdv qual=true) (S:zau N ps scope)
  (len:∀vs H Q E,sp vs H Q E->vs.length=ps.length)
  (hbody:∀(A:Around) (outer:List Env) (s:Shared) (H:Hp) (vs:List V) (Q:VK) (E:XK),Room k (A.deeper (envOfC qual scope s.heap.objs.size f cdv))->sp vs H Q E ->
    ∃t,PSs (cxOf CX P w K mg base N qual scope f cdv A outer s H E) body t/\t { nx:=λ_ H'=>Q .non H',rt:=Q } (start N vs) H) :
  FnOk P w K mg base CX (k+1) f (PySem.W.fnOf name qual params body scope dV kV doc pm an cdv ct) ps sp:=by
 refine⟨len,λA outer s H args us vs Q E hr e0 hb r hsp=>?_⟩;have hl:=len _ _ _ _ hsp;have KX:K.In s.heap:=e0.mod.kin.keeps λb o e=>(e0.bs b o e).1;have lim:s.heap.NoLimit:=e0.mod.nolimit.keeps λb o e=>(e0.bs b o e).1;have hkind:∀y∈ps.zip us,scope.names.lookup y.1=some .local\/(scope.names.lookup y.1=some .cell/\((cellsFrom (s.heap.objs.size+1) scope.names []).lookup y.1).isSome=true):=λ⟨n,v⟩ hy=>by
  rcases S.par n (ydX hy).1 with q | q
  . exact .inl q
  . exact .inr ⟨q,ydO _ _ _ (.inl q)⟩
 refine codeAny_call_function hr.depth (KX _ _ lk) rfl S.co S.gen rfl (PySem.W.codeRec_of KX hcd) (hb _ _ _ _ ?_);refine wpAny_newFunctionEnv_cells S.kind hkind λenv he s1 x=>?_;subst he;refine⟨lim.keeps x.toInCall.keep,codeAny_func ?_⟩;obtain⟨t,ht,hq⟩:=hbody A outer s H vs Q E (hr.deeper _) hsp;have I:Inv (cxOf CX P w K mg base N qual scope f cdv A outer s H E) [] (start N vs) H s1:=zqg S hr.hd e0 hl r x;refine ybk (ht [] s1 (start N vs) H _ I hq) (λfl s' hs=>?_) λe s' hs=>hs;have fin:∀{σ':St} {H':Hp} {v:V} {u:Value},Inv (cxOf CX P w K mg base N qual scope f cdv A outer s H E) [] σ' H' s'->RelV v u->Q v H'->CE outer P w H s Q u s' :=
  λ{σ' H' v u} J rv q=>⟨v,H',J.os,J.bare,J.base,J.hok,rv,q⟩
 cases fl with
 | ret u =>
  obtain⟨v,σ',H',J,rv,q⟩:=hs;exact fin J rv q
 | next =>
  obtain⟨σ',H',J,q⟩:=hs;exact fin (v:=V.non) (u:=Value.none) J rfl q
 | brk =>
  obtain⟨_,_,_,q⟩:=hs;exact False.elim q
 | cont =>
  obtain⟨_,_,_,q⟩:=hs;exact False.elim q
end L2
namespace L2
open PySem PySem.Spec PyProof.Rows
section
variable{X:Cx}{x:Str}{p pos:Pos}{e:Expr}{es:List Expr}{t:TA}{id T:String}{r:List V->Hp->VK->Prop}
def tCB(r:List V->Hp->VK->Prop)(t:TA):TE:=λσ H Q=>t σ H λvs H1=>r vs H1 Q
theorem zbC(hc:zhg X (.builtin id) r)(hg:Gl X x)(hm:X.mg x=none)(hv:bootBuiltins x=some (.builtin id))(ha:PA X (e::es) t)(hn:x ≠ "__name__" := by decide)(hdb:(x == ("__debug__" : Str))=false:=by decide)
  (he:starEach (e::es) X.env=(false,eval e X.env)::starEach es X.env:=by rfl) (hpl:(backTo pos (starEach es X.env)).any (·.1)=false:=by rfl):PE X (.Call (.Name x p) (e::es) [] pos) (tCB r t):=by
 intro pins s σ H Q I h;refine ycm (znS I hg hm hv ?_ hn hdb);exact PyProof.Rows.callWith_builtin1 (thn (ha pos pins s σ H _ I h) λus s1 ⟨vs,H1,I1,r1,q1⟩=>hc pins s1 σ H1 vs us Q I1 r1 q1) he hpl
theorem za5(hc:zhg X (.type T) r)(hg:Gl X x)(hm:X.mg x=none)(hv:bootBuiltins x=some (.type T))(ha:PA X (e::es) t)(hn:x ≠ "__name__" := by decide)(hdb:(x == ("__debug__" : Str))=false:=by decide)
  (he:starEach (e::es) X.env=(false,eval e X.env)::starEach es X.env:=by rfl) (hpl:(backTo pos (starEach es X.env)).any (·.1)=false:=by rfl):PE X (.Call (.Name x p) (e::es) [] pos) (tCB r t):=by
 intro pins s σ H Q I h;refine ycm (znS I hg hm hv ?_ hn hdb);exact yda (thn (ha pos pins s σ H _ I h) λus s1 ⟨vs,H1,I1,r1,q1⟩=>hc pins s1 σ H1 vs us Q I1 r1 q1) he hpl
end
end L2
namespace HT
open PySem PyProof.Rows
section
open PySem.SeqAt
open PySem.AutoSeq1 (wpAny_loadPart')
open PySem.MeetsSeq PySem.MeetsSeq2 PySem.MeetsSeq3
end
section
variable{prog:Program}{w:World}{A:Around}{E:Value->Shared->Prop}{s:Shared}
theorem zta{t b:Addr}{vs ws:List Value}{Q:Value->Shared->Prop}(ht:IsTup s.heap t vs.toArray)(hb:IsTup s.heap b ws.toArray)(hv:vs≠[])
   (h1:ws=[]->Q (.ref t) s) (h2:ws≠[]->Q (.ref s.heap.objs.size) { s with heap:=s.heap.push { cls:=.type "tuple",data:=.seq (vs++ws).toArray } })
   (hsz:vs.length+ws.length<=sizeLine):wpAny (model prog w) A (binaryOp .Add (.ref t) (.ref b)) Q E s:=by
 obtain⟨⟨cls,dd,data,sl⟩,ho,hc,n,hd⟩:=id ht;obtain⟨⟨cls2,dd2,data2,sl2⟩,ho2,hc2,n2,hd2⟩:=id hb;simp only at hc hd hc2 hd2;subst hc hd hc2 hd2;have e:vs.toArray++ws.toArray=(vs++ws).toArray:=by simp
 by_cases hw:ws=[]
 . exact concat_meets ⟨_,ho,rfl⟩ ⟨_,ho2,rfl⟩ ydG seq_tuple_add ycK ycI (ycE _ _)
    (tuple_addW1 t b vs.toArray ws.toArray n n2 dd dd2 sl sl2 (by simpa using hv) (by simp[hw])) ⟨ho,ho2,h1 hw⟩
 . refine concat_meets ⟨_,ho,rfl⟩ ⟨_,ho2,rfl⟩ ydG seq_tuple_add ycK ycI (ycE _ _)
    (tuple_addW2 t b vs.toArray ws.toArray n n2 dd dd2 sl sl2 (by simpa using hv) (by simpa using hw) (by rw[yaB,yaB];exact hsz)) ⟨ho,ho2,?_⟩
   rw[e];exact h2 hw
def sIx(n d:Nat):Option Int->Nat
 | none=>d
 | some v=>if v < 0 then (v+(n:Int)).toNat else min v.toNat n
theorem zh6(n d k:Nat):sIx n d (some (k:Int))=min k n:=by
 show(if (k:Int) < 0 then ((k:Int)+(n:Int)).toNat else min (k:Int).toNat n)=min k n;rw[yai (by omega),yb5]
theorem ztP(n d:Nat)(hd:d<=n)(o:Option Int):sIx n d o<=n:=by
 cases o with
 | none=>exact hd
 | some v =>
  show(if v < 0 then (v+(n:Int)).toNat else min v.toNat n)<=n;by_cases hv:v < 0
  . rw[yaj hv];omega
  . rw[yai hv];exact Nat.min_le_right _ _
theorem zqM(v:Int)(n d:Nat):(if v < 0 then max (v+(n:Int)) 0 else min v (n:Int))=((sIx n d (some v):Nat):Int):=by
 show(if v < 0 then max (v+(n:Int)) 0 else min v (n:Int))=(((if v < 0 then (v+(n:Int)).toNat else min v.toNat n):Nat):Int)
 by_cases hv:v < 0
 . simp only[yaj hv];omega
 . simp only[yai hv];omega
theorem zoX(lo hi:Option Int)(n:Nat):Builtin.Slice.sliceAdjust lo hi 1 (n:Int)=(((sIx n 0 lo:Nat):Int),((sIx n n hi:Nat):Int)):=by
 have h1:¬((1:Int) < 0):=by omega
 unfold Builtin.Slice.sliceAdjust;simp only[h1,ybV];refine Prod.ext ?_ ?_
 . cases lo with
   | none=>rfl
   | some v=>exact zqM v n 0
 . cases hi with
   | none=>rfl
   | some v=>exact zqM v n n
theorem zox(i j:Nat):Builtin.Slice.slicePlaces (i:Int) (j:Int) 1=j - i:=by
 unfold Builtin.Slice.slicePlaces;have h1:(1:Int) > 0:=by omega
 simp only[h1,yb2,Int.ediv_one];split<;>omega
theorem zjv{v:Value}{o:Option Int}{Q:Option Int->Shared->Prop}(p:IsPart v o)(h:Q o s):wpAny (model prog w) A (Builtin.Slice.slicePartIndex v) Q E s:=by
 cases p with
 | none=>exact slicePart_none h
 | int i t=>exact slicePart_int h
theorem zeg{sl:Addr}{vl vu:Value}{lo hi:Option Int}{n:Nat}{Q:Int×Int×Nat->Shared->Prop}(hs:s.heap.IsSliceOf sl vl vu .none)(pl:IsPart vl lo)(pu:IsPart vu hi)
  (h:Q (((sIx n 0 lo:Nat):Int),1,sIx n n hi - sIx n 0 lo) s):wpAny (model prog w) A (Builtin.Slice.sliceApplied (.ref sl) (pure (n:Int))) Q E s:=by
 obtain⟨os,hos,hcs,hds⟩:=id hs;unfold Builtin.Slice.sliceApplied Builtin.Slice.sliceFields;refine yab (yab (wpAny_field hos hds (x:=vl) rfl (yab (wpAny_field hos hds (x:=vu) rfl (yab (wpAny_field hos hds (x:=.none) rfl (yag ?_)))))));refine yab (slicePart_none ?_);show wpAny _ _ (if ((1:Int) == 0)=true then _ else _) _ _ s;rw[yai (by decide)];refine yab (zjv pl (yab (zjv pu (yab (yag ?_)))));show wpAny _ _ (match Builtin.Slice.sliceAdjust lo hi 1 (n:Int) with | (lo,hi)=>pure (lo,(1:Int),Builtin.Slice.slicePlaces lo hi 1)) _ _ s;rw[zoX lo hi n];show wpAny _ _ (pure (((sIx n 0 lo:Nat):Int),(1:Int),Builtin.Slice.slicePlaces ((sIx n 0 lo:Nat):Int) ((sIx n n hi:Nat):Int) 1)) _ _ s;rw[zox];exact yag h
theorem zrk(xs:Array Value)(i k:Nat):((List.range k).filterMap λ(m:Nat)=>xs[((i:Int)+(m:Int) * 1).toNat]?).toArray=((xs.toList.drop i).take k).toArray:=by
 have e:(λ(m:Nat)=>xs[((i:Int)+(m:Int) * 1).toNat]?)=λm=>xs[i+m]?:=by
  funext m
  have:((i:Int)+(m:Int) * 1).toNat=i+m:=by omega
  rw[this]
 rw[e];have:=pick_run xs i k;rw[List.filterMap_map]at this;have e2:((λx=>xs[x]?)∘λx=>i+x)=λm=>xs[i+m]?:=rfl;rw[e2]at this;rw[this]
theorem zg4{t sl:Addr}{items:Array Value}{vl vu:Value}{lo hi:Option Int}{Q:Value->Shared->Prop}(ht:IsTup s.heap t items)(hs:s.heap.IsSliceOf sl vl vu .none)(pl:IsPart vl lo)(pu:IsPart vu hi)
  (hw:¬(sIx items.size 0 lo=0/\sIx items.size items.size hi=items.size))
  (h:Q (.ref s.heap.objs.size) { s with heap:=s.heap.push { cls:=.type "tuple",data:=.seq ((items.toList.drop (sIx items.size 0 lo)).take (sIx items.size items.size hi - sIx items.size 0 lo)).toArray } })
  (hsz:items.size<=sizeLine):wpAny (model prog w) A (getItem (.ref t) (.ref sl)) Q E s:=by
 have htake:sizeOk (.seq ((items.toList.drop (sIx items.size 0 lo)).take (sIx items.size items.size hi - sIx items.size 0 lo)).toArray):=by
  show((items.toList.drop (sIx items.size 0 lo)).take (sIx items.size items.size hi - sIx items.size 0 lo)).toArray.size<=sizeLine;rw[yaB,yaY,ydH,yaO];omega
 have hj:sIx items.size items.size hi<=items.size:=ztP _ _ (yaf _) hi;obtain⟨os,hos,hcs,hds⟩:=id hs;have hTs:s.TypeIs (.ref sl) "slice" := ⟨os,hos,hcs⟩
 unfold getItem
 try with_reducible refine ybw ?_
 first | refine yab (yag ?_) | skip
 refine yab (wpAny_sequenceKey ht.typeIs (by decide) ?_);refine yab (yce (name:=Str.ofString "__getitem__") ht.typeIs ybf
  (ybK ybf ht.typeIs entry_tuple_getitem ?_ (args_tuple_getitem _ _)))
 show wpAny _ _ (Builtin.Tuple.tupleItemsOf (.ref t) >>= _) _ _ s;refine yab (tupleItemsOf_ ht ?_);refine yab (ycb hTs ?_);rw[yaj (by decide)];refine yab (zeg hs pl pu ?_);have hno:¬((((sIx items.size 0 lo:Nat):Int) == 0 && (1:Int) == 1 && (sIx items.size items.size hi - sIx items.size 0 lo) == items.size)=true):=by
  intro q;rw[ybc,ybc]at q;have q1:((sIx items.size 0 lo:Nat):Int)=0:=yal q.1.1;have q2:sIx items.size items.size hi - sIx items.size 0 lo=items.size:=yal q.2;exact hw ⟨by omega,by omega⟩
 show wpAny _ _ (if (((sIx items.size 0 lo:Nat):Int) == 0 && (1:Int) == 1 && (sIx items.size items.size hi - sIx items.size 0 lo) == items.size)=true then _ else _) _ _ s;rw[yai hno,zrk]
 first
  | exact yab (m:=Builtin.Tuple.tupleExact _) (ybs (yag ⟨_,rfl,yag h⟩) htake)
  | exact yab (m:=Builtin.Tuple.tupleExact _) (ybs (yab (yag (yag ⟨_,rfl,yag h⟩))) htake)
  | exact yab (yab (m:=Builtin.Tuple.tupleExact _) (ybs (yag (yag ⟨_,rfl,yag h⟩)) htake))
  | exact yab (yab (m:=Builtin.Tuple.tupleExact _) (ybs (yag ⟨_,rfl,yag h⟩) htake))
end
end HT
namespace L2
open PySem PySem.Spec PyProof.Rows
abbrev TO:=St->Hp->(Option Int->Hp->Prop)->Prop
def PO(X:Cx)(e:Option Expr)(t:TO):Prop :=
 ∀(pins:List (Addr×Obj)) (s:Shared) (σ:St) (H:Hp) (Q:Option Int->Hp->Prop),Inv X pins σ H s->t σ H Q ->
  wpAny (model X.prog X.w) X.A (evalPart e X.env) (λu s'=>∃o H',Inv X pins σ H' s'/\IsPart u o/\Q o H') X.xe s
def zsj:TO:=λ_ H Q=>Q none H
def zuC(t:TE):TO:=λσ H Q=>t σ H λx H1=>∃i,x=.int i/\Q (some i) H1
section
variable{X:Cx}{e:Expr}{te:TE}{lo hi:Option Expr}{tl th:TO}{pos p2:Pos}
theorem zsJ:PO X none zsj:=by
 intro pins s σ H Q I h;rw[evalPart_none];exact yag ⟨none,H,I,.none,h⟩
theorem zmA(h:PE X e te):PO X (some e) (zuC te):=by
 intro pins s σ H Q I hw;rw[evalPart_some];refine thn (h pins s σ H _ I hw) λu s1 ⟨x,H1,I1,r1,q1⟩=>?_;obtain⟨i,rfl,q⟩:=q1;obtain⟨t,rfl⟩:=r1;exact⟨some i,H1,I1,.int i t,q⟩
def SlR(X:Cx)(r:V->Option Int->Option Int->Hp->VK->Prop):Prop :=
 ∀(pins:List (Addr×Obj)) (s:Shared) (σ:St) (H:Hp) (x:V) (v vl vu:Value) (lo hi:Option Int) (sl:Addr) (Q:VK),Inv X pins σ H s->RelV x v->s.heap.IsSliceOf sl vl vu .none->IsPart vl lo->IsPart vu hi->r x lo hi H Q ->
  ∃T id,typeLookup (.type T) "__getitem__" = pure (some (.builtin id))/\s.TypeIs v T/\wpAny (model X.prog X.w) X.A (getItem v (.ref sl)) (EP X pins σ Q) X.xe s
def tSl(r:V->Option Int->Option Int->Hp->VK->Prop)(te:TE)(tl th:TO):TE:=λσ H Q=>te σ H λx H1=>tl σ H1 λl H2=>th σ H2 λu H3=>r x l u H3 Q
theorem znG{r:V->Option Int->Option Int->Hp->VK->Prop}(hr:SlR X r)(he:PE X e te)(hl:PO X lo tl)(hu:PO X hi th):PE X (.Subscript e (.Slice lo hi none p2) pos) (tSl r te tl th):=by
 intro pins s σ H Q I h;refine Subscript_ (thn (he pins s σ H _ I h) λv s1 ⟨x,H1,I1,r1,q1⟩=>?_);refine wpAny_Slice (thn (hl pins s1 σ H1 _ I1 q1) λvl s2 ⟨l,H2,I2,pl,q2⟩=>thn (hu pins s2 σ H2 _ I2 q2) λvu s3 ⟨u,H3,I3,pu,q3⟩=>?_);rw[evalPart_none];refine yag ?_;have I4:Inv X pins σ H3 { s3 with heap:=s3.heap.push { cls:=.type "slice",data:=.fields #[vl,vu,.none] } }:=I3.kept (t':=s3.toks) λb ob q=>yae _ q;obtain⟨T,id,hT,ht,hg⟩:=hr pins { s3 with heap:=s3.heap.push { cls:=.type "slice",data:=.fields #[vl,vu,.none] } } σ H3 x v vl vu l u s3.heap.objs.size Q I4 r1 (Heap.IsSliceOf.new ..) pl pu q3;show wpAny (model X.prog X.w) X.A (subscriptTail e (.Slice lo hi none p2) v (.ref s3.heap.objs.size)) (EP X pins σ Q) X.xe { s3 with heap:=s3.heap.push { cls:=.type "slice",data:=.fields #[vl,vu,.none] } };exact tail_any (ops:=[.ref s3.heap.objs.size,v]) ht hT hg (by with_unfolding_all rfl)
def cutV(xs:List V)(lo hi:Option Int):List V:=(xs.drop (HT.sIx xs.length 0 lo)).take (HT.sIx xs.length xs.length hi - HT.sIx xs.length 0 lo)
theorem ziM(xs:List V)(lo hi:Option Int):(cutV xs lo hi).length<=xs.length:=by
 unfold cutV;rw[yaY,ydH];omega
def rSlT(K:PySem.W.Frag):V->Option Int->Option Int->Hp->VK->Prop:=λx lo hi H Q=>∃a xs,x=.ref a/\SqT K H a xs /\
 ¬(HT.sIx xs.length 0 lo=0/\HT.sIx xs.length xs.length hi=xs.length)/\∀p,H p=none->Q (.ref p) (upd H p (.tup (cutV xs lo hi)))
theorem ztM:SlR X (rSlT X.K):=by
 intro pins s σ H x v vl vu lo hi sl Q I rx hs pl pu h;obtain⟨a,xs,rfl,hx,hw,q⟩:=h;cases rx;obtain⟨its,r,ht,hz⟩:=I.tuple hx;have hlen:its.toArray.size=xs.length:=by rw[yaB];exact r.length.symm
 refine⟨"tuple",_,ybf.lookup,ht.typeIs,?_⟩;refine HT.zg4 ht hs pl pu (by rw[hlen];exact hw) ?_ (by rw[hlen];exact hz);rw[hlen];refine⟨.ref s.heap.objs.size,_,I.laid (t':=s.toks) (o:=.tup (cutV xs lo hi)) (λb ob q=>yae _ q) (yaf _) ?_,rfl,q _ (I.hok.fresh (yaf _))⟩;exact⟨yaA (ziM xs lo hi) hz,_,(r.drop (HT.sIx xs.length 0 lo)).take (HT.sIx xs.length xs.length hi - HT.sIx xs.length 0 lo),IsTup.new _ _⟩
def zuP(K:PySem.W.Frag):R2:=λx y H Q=>∃a b xs ys,x=.ref a/\y=.ref b/\SqT K H a xs/\SqT K H b ys/\xs≠[]/\xs.length+ys.length<=sizeLine /\
 (ys=[]->Q (.ref a) H)/\(ys≠[]->∀p,H p=none->Q (.ref p) (upd H p (.tup (xs++ys))))
theorem Vals.zmI{xs:List V}{us:List Value}(r:Vals xs us):us=[]↔xs=[]:=by
 cases r with
 | nil=>simp
 | cons _ _=>simp
theorem zsR:OpR X (binaryOp .Add) (zuP X.K):=by
 intro pins s σ H x y v u Q I rx ry h;obtain⟨a,b,xs,ys,rfl,rfl,ha,hb,hx,hz,q1,q2⟩:=h;cases rx;cases ry;obtain⟨its,r1,p1,_⟩:=I.tuple ha;obtain⟨its2,r2,p2,_⟩:=I.tuple hb;refine HT.zta p1 p2 (λz=>hx (r1.zmI.mp z)) (λz=>⟨.ref a,H,I,rfl,q1 (r2.zmI.mp z)⟩) (λz=>?_) (by rw[<-r1.length,<-r2.length];exact hz);refine⟨.ref s.heap.objs.size,_,I.laid (t':=s.toks) (o:=.tup (xs++ys)) (λb ob q=>yae _ q) (yaf _) ?_,rfl,q2 (λw=>z (r2.zmI.mpr w)) _ (I.hok.fresh (yaf _))⟩;exact⟨by rw[yah];exact hz,_,r1.append r2,IsTup.new _ _⟩
end
end L2
namespace L2
open PySem PySem.Spec PyProof.Rows
def ixN(n:Nat)(i:Int):Option Nat:=if 0<=i then (if i < n then some i.toNat else none) else if -(n:Int)<=i then some (i+n).toNat else none
def atI{α:Type}(xs:List α)(i:Int):Option α:=(ixN xs.length i).bind λj=>xs[j]?
theorem zqf{n:Nat}{i:Int}{j:Nat}(h:ixN n i=some j):seqIndex? i n=some j/\j < n/\-(n:Int)<=i/\i < n:=by
 unfold ixN at h;by_cases h0:0<=i
 . rw[yaj h0]at h;by_cases h1:i < n
   . rw[yaj h1]at h;have e:i.toNat=j:=yaL h;exact⟨by rw[seqIndex_of h0 h1,e],by omega,by omega,h1⟩
   . rw[yai h1]at h;cases h
 . rw[yai h0]at h;by_cases h1:-(n:Int)<=i
   . rw[yaj h1]at h;have e:(i+n).toNat=j:=yaL h;exact⟨by rw[seqIndex_neg (by omega) h1,e],by omega,h1,by omega⟩
   . rw[yai h1]at h;cases h
theorem znc{α:Type}{xs:List α}{i:Int}{v:α}(h:atI xs i=some v):∃j,seqIndex? i xs.length=some j/\xs[j]?=some v/\j < xs.length/\-(xs.length:Int)<=i/\i < xs.length:=by
 unfold atI at h;cases e:ixN xs.length i with
 | none=>rw[e]at h;cases h
 | some j =>
  rw[e]at h;obtain⟨h1,h2,h3,h4⟩:=zqf e;exact⟨j,h1,h,h2,h3,h4⟩
theorem zbH{α:Type}{xs:List α}{j:Nat}{v:α}(h:xs[j]?=some v):atI xs (j:Int)=some v:=by
 have hj:j < xs.length:=(yar.mp h).1;have e:ixN xs.length (j:Int)=some j:=by
  unfold ixN;rw[yaj (by omega),yaj (by omega)];simp
 unfold atI;rw[e];exact h
def zti(b:Expr):Prop:=∀o i,subscripted b false o i=operate [o,i] (getItem o i)
def IxR(X:Cx)(r:R2):Prop :=
 ∀(value slice:Expr) (pins:List (Addr×Obj)) (s:Shared) (σ:St) (H:Hp) (x y:V) (v u:Value) (Q:VK),Inv X pins σ H s->RelV x v->RelV y u->r x y H Q ->
  subscripted slice false v u=operate [v,u] (getItem v u)->wpAny (model X.prog X.w) X.A (subscriptTail value slice v u) (EP X pins σ Q) X.xe s
def MtR(X:Cx)(id:String)(r:V->List V->Hp->VK->Prop):Prop :=
 ∀(pins:List (Addr×Obj)) (s:Shared) (σ:St) (H:Hp) (x:V) (xs:List V) (v:Value) (us:List Value) (Q:VK),Inv X pins σ H s->RelV x v->Vals xs us->r x xs H Q ->
  wpAny (model X.prog X.w) X.A (call (.builtin id) (v::us)) (EP X pins σ Q) X.xe s
section
variable{X:Cx}{a b:Expr}{ta tb:TE}{pos:Pos}
theorem zaT{r:R2}(hr:IxR X r)(ha:PE X a ta)(hb:PE X b tb)(hs:zti b):PE X (.Subscript a b pos) (tOp r ta tb):=by
 intro pins s σ H Q I h;exact Subscript_ (binT ha hb I h λv u s2 x y H2 I2 rx ry q=>hr a b pins s2 σ H2 x y v u Q I2 rx ry q (hs _ _))
def rIxL(K:PySem.W.Frag):R2:=λx y H Q=>∃p xs i v,x=.ref p/\y=.int i/\SqL K H p xs/\atI xs i=some v/\Q v H
def rIxT(K:PySem.W.Frag):R2:=λx y H Q=>∃p xs i v,x=.ref p/\y=.int i/\SqT K H p xs/\atI xs i=some v/\Q v H
def rIxS:R2:=λx y H Q=>∃z i c,x=.str z/\y=.int i/\z.length<=sizeLine/\atI z.cps.toList i=some c/\Q (.str ⟨#[c]⟩) H
theorem zbF:IxR X (rIxL X.K):=by
 intro value slice pins s σ H x y v u Q I rx ry h hs;obtain⟨p,xs,i,z,rfl,rfl,hq,he,q⟩:=h;cases rx;obtain⟨t,rfl⟩:=ry;obtain⟨its,r,pl,hz⟩:=I.list hq;obtain⟨j,h1,h2,h3,h4,h5⟩:=znc he;obtain⟨w,ew,rw'⟩:=r.get h2;have hl:=r.length;have hn:=znQ;have fin:EP X pins σ Q w s:=⟨z,H,I,rw',q⟩
 by_cases h0:0<=i
 . have hj:i.toNat=j:=by
    rw[seqIndex_of h0 h5]at h1;exact yaL h1
   exact item_listR pl.isList h0 (by omega) (by rw[hj];simpa using ew) fin hs
 . have hj:(i+(its.toArray.size:Int)).toNat=j:=by
    rw[seqIndex_neg (by omega) h4]at h1;rw[yaB,<-hl];exact yaL h1
   exact subscriptTail_builtinR (x:=w) pl.isList.typeIs slot_list_getitem.lookup
    (wpAny_getItem_list_neg (Q:=λr s'=>r=w/\EP X pins σ Q r s') pl.isList (by omega) (by rw[yaB]<;>omega) (by omega) (by rw[hj];simpa using ew) ⟨rfl,fin⟩) hs
theorem za0:IxR X (rIxT X.K):=by
 intro value slice pins s σ H x y v u Q I rx ry h hs;obtain⟨p,xs,i,z,rfl,rfl,hq,he,q⟩:=h;cases rx;obtain⟨t,rfl⟩:=ry;obtain⟨its,r,pl,hz⟩:=I.tuple hq;obtain⟨j,h1,h2,h3,h4,h5⟩:=znc he;obtain⟨w,ew,rw'⟩:=r.get h2;have hl:=r.length;have hn:=znQ;have fin:EP X pins σ Q w s:=⟨z,H,I,rw',q⟩
 exact subscriptTail_builtinR (x:=w) pl.typeIs slot_tuple_getitem.lookup
  (getItem_tuple (j:=j) (Q:=λr s'=>r=w/\EP X pins σ Q r s') pl (by omega) (by omega) (by rw[yaB,<-hl];exact h1) (by simpa using ew) ⟨rfl,fin⟩) hs
theorem znV:IxR X rIxS:=by
 intro value slice pins s σ H x y v u Q I rx ry h hs;obtain⟨z,i,c,rfl,rfl,hz,he,q⟩:=h;obtain⟨t,rfl⟩:=rx;obtain⟨t',rfl⟩:=ry;obtain⟨j,h1,h2,h3,h4,h5⟩:=znc he;have hl:z.cps.toList.length=z.length:=by simp[Str.length]
 rw[hl]at h1 h4 h5;have hn:=znQ;exact tail_any (typeIs_str s z t) slot_str_getitem.lookup (getItem_str (c:=c) (by
  have e1:decide (i < -(2 ^ 63:Int))=false:=yay (by omega);have e2:decide (i ≥ 2 ^ 63)=false:=yay (by omega);rw[e1,e2,Bool.or_false]) (by rw[h1];simpa using h2) ⟨.str ⟨#[c]⟩,H,I.tok _,⟨_,rfl⟩,q⟩) hs
theorem zk9(lo hi:Option Int)(n:Nat):(sliceBounds lo hi none n).1=((HT.sIx n 0 lo:Nat):Int)/\(sliceBounds lo hi none n).2.1=((HT.sIx n n hi:Nat):Int)/\(sliceBounds lo hi none n).2.2=1:=by
 refine⟨?_,?_,rfl⟩
 . cases lo with
   | none=>simp[sliceBounds,HT.sIx]
   | some i =>
    simp only[sliceBounds,HT.sIx,Option.getD_none,show(1:Int) > 0 by decide,yb2];by_cases h:i < 0
    . simp only[h,yb2]<;>omega
    . simp only[h,ybV]<;>omega
 . cases hi with
   | none=>simp[sliceBounds,HT.sIx]
   | some i =>
    simp only[sliceBounds,HT.sIx,Option.getD_none,show(1:Int) > 0 by decide,yb2];by_cases h:i < 0
    . simp only[h,yb2]<;>omega
    . simp only[h,ybV]<;>omega
theorem zj7(its:List Value)(lo hi:Option Int):slicePick its.toArray lo hi none=((its.drop (HT.sIx its.length 0 lo)).take (HT.sIx its.length its.length hi - HT.sIx its.length 0 lo)).toArray:=by
 obtain⟨h1,h2,h3⟩:=zk9 lo hi its.toArray.size;unfold slicePick;rw[h1,h2,h3];simp only[sliceRange_one,pick_run,yaB]<;>rfl
def rSlL(K:PySem.W.Frag):V->Option Int->Option Int->Hp->VK->Prop:=λx lo hi H Q=>∃a xs,x=.ref a/\SqL K H a xs/\∀p,H p=none->Q (.ref p) (upd H p (.lst (cutV xs lo hi)))
theorem zsz:SlR X (rSlL X.K):=by
 intro pins s σ H x v vl vu lo hi sl Q I rx hs pl pu h;obtain⟨a,xs,rfl,hx,q⟩:=h;cases rx;obtain⟨its,r,ht,hz⟩:=I.list hx;have hlen:=r.length;refine⟨"list",_,slot_list_getitem.lookup,ht.isList.typeIs,?_⟩;refine wpAny_getItem_list_slice ht.isList hs pl pu .none (by simp) ?_ (by rw[yaB]<;>omega);rw[zj7,<-hlen];refine⟨.ref s.heap.objs.size,_,I.laid (t':=s.toks) (o:=.lst (cutV xs lo hi)) (λb ob q=>yae _ q) (yaf _) ?_,rfl,q _ (I.hok.fresh (yaf _))⟩;exact⟨yaA (ziM xs lo hi) hz,_,0,(r.drop (HT.sIx xs.length 0 lo)).take (HT.sIx xs.length xs.length hi - HT.sIx xs.length 0 lo),yaC _ rfl⟩
def zlV:V->Bool
 | .non=>true
 | .bl _=>true
 | .int _=>true
 | .str _=>true
 | _=>false
def eqV:V->V->Bool
 | .non,.non=>true
 | .bl a,.bl b=>a == b
 | .bl a,.int b=>(if a then 1 else 0) == b
 | .int a,.bl b=>a == (if b then 1 else 0)
 | .int a,.int b=>a == b
 | .str a,.str b=>a == b
 | _,_=>false
theorem zuh{A:Around}{s:Shared}{y x:V}{u v:Value}(ry:RelV y u)(rx:RelV x v)(fy:zlV y=true)(fx:zlV x=true):SeqAt.EqAt A s u v (eqV y x):=by
 cases y with
 | non =>
  cases ry;cases x with
  | non=>cases rx;exact SeqAt.EqAt.same _
  | bl b=>cases rx;exact SeqAt.EqAt.none_bool b
  | int b=>obtain⟨t,rfl⟩:=rx;exact SeqAt.EqAt.none_int b t
  | str b=>obtain⟨t,rfl⟩:=rx;exact SeqAt.EqAt.none_str b t
  | _=>exact absurd (show false=true from fx) yam
 | bl a =>
  cases ry;cases x with
  | non=>cases rx;exact SeqAt.EqAt.bool_none a
  | bl b=>cases rx;exact SeqAt.EqAt.bool_bool a b
  | int b=>obtain⟨t,rfl⟩:=rx;exact SeqAt.EqAt.bool_int a b t
  | str b=>obtain⟨t,rfl⟩:=rx;exact SeqAt.EqAt.bool_str a b t
  | _=>exact absurd (show false=true from fx) yam
 | int a =>
  obtain⟨t',rfl⟩:=ry;cases x with
  | non=>cases rx;exact SeqAt.EqAt.int_none a t'
  | bl b=>cases rx;exact SeqAt.EqAt.int_bool a t' b
  | int b=>obtain⟨t,rfl⟩:=rx;exact SeqAt.EqAt.int_int a t' b t
  | str b=>obtain⟨t,rfl⟩:=rx;exact SeqAt.EqAt.int_str a t' b t
  | _=>exact absurd (show false=true from fx) yam
 | str a =>
  obtain⟨t',rfl⟩:=ry;cases x with
  | non=>cases rx;exact SeqAt.EqAt.str_none a t'
  | bl b=>cases rx;exact SeqAt.EqAt.str_bool a t' b
  | int b=>obtain⟨t,rfl⟩:=rx;exact SeqAt.EqAt.str_int a t' b t
  | str b=>obtain⟨t,rfl⟩:=rx;exact SeqAt.EqAt.str_str a t' b t
  | _=>exact absurd (show false=true from fx) yam
 | _=>exact absurd (show false=true from fy) yam
def eqU(x:V)(u:Value):Bool:=match u with
 | .none=>eqV .non x
 | .bool b=>eqV (.bl b) x
 | .int i _=>eqV (.int i) x
 | .str z _=>eqV (.str z) x
 | _=>false
theorem zr9{x y:V}{u:Value}(r:RelV y u)(f:zlV y=true):eqU x u=eqV y x:=by
 cases y with
 | non=>cases r;rfl
 | bl b=>cases r;rfl
 | int i=>obtain⟨t,rfl⟩:=r;rfl
 | str z=>obtain⟨t,rfl⟩:=r;rfl
 | _=>exact absurd (show false=true from f) yam
theorem znd{x:V}:∀{xs:List V} {us:List Value},Vals xs us->xs.all zlV=true->us.any (eqU x)=xs.any λy=>eqV y x
 | _,_,.nil,_=>rfl
 | y::xs,u::us,.cons r t,f=>by
  rw[yd5,ybc]at f;rw[ycJ,ycJ,zr9 r f.1,znd t f.2]
theorem zkt{A:Around}{s:Shared}{x:V}{v:Value}(rx:RelV x v)(fx:zlV x=true):∀{xs:List V} {us:List Value},Vals xs us->xs.all zlV=true->∀u∈us,SeqAt.EqAt A s u v (eqU x u)
 | _,_,.nil,_=>λu hu=>by cases hu
 | y::xs,u::us,.cons r t,f=>λu' hu=>by
  rw[yd5,ybc]at f;rcases yat.mp hu with rfl | hu
  . rw[zr9 r f.1];exact zuh r rx f.1 fx
  . exact zkt rx fx t f.2 u' hu
def inV(x:V)(xs:List V):Bool:=xs.any λy=>eqV y x
def rIn(K:PySem.W.Frag)(neg:Bool):R2:=λx y H Q=>∃p xs,y=.ref p/\(SqL K H p xs\/SqT K H p xs)/\zlV x=true/\xs.all zlV=true/\Q (.bl (if neg then !inV x xs else inV x xs)) H
theorem zlr:OpR X (compareOp .NotIn) (rIn X.K true):=by
 intro pins s σ H x y v u Q I rx ry h;obtain⟨p,xs,rfl,hq,fx,fs,q⟩:=h;cases ry;rcases hq with hq | hq
 . obtain⟨its,r,pl,hz⟩:=I.list hq;refine SeqAt.notIn_listAt (eqU x) pl.isList (λw hw=>zkt rx fx r fs w (by simpa using hw)) ⟨.bl _,H,I,rfl,?_⟩;rw[show its.toArray.any (eqU x)=its.any (eqU x) by simp,znd r fs];exact q
 . obtain⟨its,r,pl,hz⟩:=I.tuple hq;refine SeqAt.notIn_tupleAt (eqU x) pl (λw hw=>zkt rx fx r fs w (by simpa using hw)) ⟨.bl _,H,I,rfl,?_⟩;rw[show its.toArray.any (eqU x)=its.any (eqU x) by simp,znd r fs];exact q
theorem zbr:zhg X (.builtin "len") (λxs H Q=>∃p ys,xs=[.ref p]/\(SqL X.K H p ys\/SqT X.K H p ys)/\Q (.int ys.length) H):=by
 intro pins s σ H xs us Q I r h;obtain⟨p,ys,rfl,hq,q⟩:=h;obtain⟨u,rfl,rx⟩:=vals1 r;cases rx;have hn:=znQ;rcases hq with hq | hq
 . obtain⟨its,r',pl,hz⟩:=I.list hq;have hlen:=r'.length;exact Calls.call_len_list pl.isList (by simp only[yaB]<;>omega) ⟨.int ys.length,H,I.tok _,⟨s.toks+1,by rw[yaB,hlen]⟩,q⟩
 . obtain⟨its,r',pl,hz⟩:=I.tuple hq;have hlen:=r'.length;exact len_tuple pl (by simp only[yaB]<;>omega) ⟨.int ys.length,H,I.tok _,⟨s.toks+1,by rw[yaB,hlen]⟩,q⟩
theorem zl2:zhg X (.type "list") (λxs H Q=>∃p ys,xs=[.ref p]/\(SqL X.K H p ys\/SqT X.K H p ys)/\∀l,H l=none->Q (.ref l) (upd H l (.lst ys))):=by
 intro pins s σ H xs us Q I r h;obtain⟨p,ys,rfl,hq,q⟩:=h;obtain⟨u,rfl,rx⟩:=vals1 r;cases rx;have fin:∀(its:List Value),Vals ys its->ys.length<=sizeLine->∀(h':Heap) (c':Nat),(∀b o',s.heap.get? b=some o'->h'.get? b=some o') ->
    h'.get? s.heap.objs.size=some { cls:=.type "list",dict:=none,data:=.seq its.toArray c',slots:=#[] }->EP X pins σ Q (.ref s.heap.objs.size) { s with heap:=h' }:=λits r' hz h' c' kp e =>
   ⟨.ref s.heap.objs.size,_,I.laid (t':=s.toks) kp (yaf _) (show zbM X.prog X.w _ h' _ (.lst ys) from⟨hz,its,c',r',e⟩),rfl,q _ (I.hok.fresh (yaf _))⟩
 rcases hq with hq | hq
 . obtain⟨its,r',pl,hz⟩:=I.list hq;have hlen:=r'.length;obtain⟨o,ho,hc,n,hd⟩:=pl.isList;exact call_list_seq p (.inl rfl) ho hc hd (λh' c' kp e=>fin its r' hz h' c' kp e) (by simp only[yaB]<;>omega)
 . obtain⟨its,r',pl,hz⟩:=I.tuple hq;have hlen:=r'.length;obtain⟨o,ho,hc,n,hd⟩:=pl;exact call_list_seq p (.inr rfl) ho hc hd (λh' c' kp e=>fin its r' hz h' c' kp e) (by simp only[yaB]<;>omega)
theorem zbG:zhg X (.type "tuple") (λxs H Q=>∃p ys,xs=[.ref p]/\((SqL X.K H p ys/\∀l,H l=none->Q (.ref l) (upd H l (.tup ys)))\/(SqT X.K H p ys/\Q (.ref p) H))):=by
 intro pins s σ H xs us Q I r h;obtain⟨p,ys,rfl,h⟩:=h;obtain⟨u,rfl,rx⟩:=vals1 r;cases rx;rcases h with ⟨hq,q⟩ | ⟨hq,q⟩
 . obtain⟨its,r',pl,hz⟩:=I.list hq;have hlen:=r'.length;refine call_tuple_list pl.isList (λh' kp=>?_) (by simp only[yaB]<;>omega);have I1:Inv X pins σ H { s with heap:=h' }:=I.kept (t':=s.toks) kp;have I2:Inv X pins σ (upd H h'.objs.size (.tup ys)) { s with heap:=h'.push { cls:=.type "tuple",data:=.seq its.toArray } } :=
    I1.laid (t':=s.toks) (λb o e=>yae _ e) (yaf _) (show zbM X.prog X.w _ _ _ (.tup ys) from⟨hz,its,r',IsTup.new _ _⟩)
   exact⟨.ref h'.objs.size,_,I2,rfl,q _ (I1.hok.fresh (yaf _))⟩
 . obtain⟨its,r',pl,hz⟩:=I.tuple hq;exact call_tuple_same pl ⟨.ref p,H,I,rfl,q⟩
def tyV(K:PySem.W.Frag)(T:String)(x:V)(H:Hp):Prop:=match x with
 | .str _=>T = "str"
 | .int _=>T = "int"
 | .ref p=>(T = "list" /\ ∃xs,SqL K H p xs)\/(T = "tuple" /\ ∃o,K.lookup p=some o/\o.cls=.type "tuple" /\ o.dict=none) \/
  (T = "dict" /\ ((∃kvs,H p=some (.dK kvs))\/∃kvs,H p=some (.dT kvs)))\/(T = "set" /\ ∃S n,H p=some (.set S n))
 | _=>False
theorem zrR{pins:List (Addr×Obj)}{σ:St}{H:Hp}{s:Shared}{T:String}{x:V}{v:Value}(I:Inv X pins σ H s)(r:RelV x v)(ty:tyV X.K T x H) :
  s.TypeIs v T/\∀a,v=.ref a->∃ob,s.heap.get? a=some ob/\ob.dict=none:=by
 cases x with
 | str z =>
  obtain⟨t,rfl⟩:=r;cases (show T = "str" from ty);exact⟨typeIs_str s z t,λ_ e=>nomatch e⟩
 | int i =>
  obtain⟨t,rfl⟩:=r;cases (show T = "int" from ty);exact⟨typeIs_int s i t,λ_ e=>nomatch e⟩
 | ref p =>
  cases r;rcases ty with ⟨rfl,xs,hq⟩ | ⟨rfl,o,hk,hc,hd⟩ | ⟨rfl,hk⟩ | ⟨rfl,S,n,hk⟩
  . obtain⟨its,_,pl,_⟩:=I.list hq;refine⟨pl.isList.typeIs,λa e=>?_⟩;cases e;obtain⟨o,n,e,c,hd,_⟩:=pl;exact⟨o,e,hd⟩
  . refine⟨⟨o,I.kIn p o hk,hc⟩,λa e=>?_⟩;cases e;exact⟨o,I.kIn _ o hk,hd⟩
  . have z:∃o,s.heap.get? p=some o/\o.ExactDict:=by
     rcases hk with ⟨kvs,hk⟩ | ⟨kvs,hk⟩
     . obtain⟨_,_,_,_,o,_,_,e,ex,_⟩:=I.hok p _ hk;exact⟨o,e,ex⟩
     . obtain⟨_,_,_,_,o,_,_,e,ex,_⟩:=I.hok p _ hk;exact⟨o,e,ex⟩
    obtain⟨o,e,ex⟩:=z;refine⟨⟨o,e,ex.1⟩,λa e2=>?_⟩;cases e2;exact⟨o,e,ex.2.1⟩
  . obtain⟨o,_,_,_,e,ex,_⟩:=I.hok p _ hk;refine⟨⟨o,e,ex.1⟩,λa e2=>?_⟩;cases e2;exact⟨o,e,ex.2.1⟩
 | _=>exact False.elim ty
def tBM0(K:PySem.W.Frag)(T:String)(r:V->List V->Hp->VK->Prop)(to:TE):TE:=λσ H Q=>to σ H λx H1=>tyV K T x H1/\r x [] H1 Q
def tBM(K:PySem.W.Frag)(T:String)(r:V->List V->Hp->VK->Prop)(to:TE)(t:TA):TE:=λσ H Q=>to σ H λx H1=>tyV K T x H1/\t σ H1 λxs H2=>r x xs H2 Q
variable{o e:Expr}{es:List Expr}{to:TE}{t:TA}{name:Str}{apos cpos:Pos}{T id:String}{r:V->List V->Hp->VK->Prop}
theorem zrV(pa:PlainAttrs T)(slot:Slot T name id)(hty:typeOf (.builtin id)=pure (.type "method_descriptor"))(hm:MtR X id r)(ho:PE X o to)
  (hbase:attributeBase o name X.env (eval o X.env)=eval o X.env:=by rfl) (hline:(apos.endLine == cpos.line)=true:=by rfl):PE X (.Call (.Attribute o name apos) [] [] cpos) (tBM0 X.K T r to):=by
 intro pins s σ H Q I h;refine wpAny_Call_method0_late hbase hline (thn (ho pins s σ H _ I h) λv s1 ⟨x,H1,I1,r1,ty,q1⟩=>?_);obtain⟨h1,h2⟩:=zrR I1 r1 ty;exact⟨T,id,pa,slot,hty,h1,h2,ybz rfl (PySem.evalArgs_none (hm pins s1 σ H1 x [] v [] Q I1 r1 .nil q1))⟩
theorem zet(pa:PlainAttrs T)(slot:Slot T name id)(hty:typeOf (.builtin id)=pure (.type "method_descriptor"))(hm:MtR X id r)(ho:PE X o to)(ha:PA X (e::es) t)
  (hbase:attributeBase o name X.env (eval o X.env)=eval o X.env:=by rfl)
  (hfew:((backTo cpos (starEach (e::es) X.env)).all (λx=>!x.1) && (backToKw cpos (keywordEach [] X.env)).all (λx=>x.1.isSome)
   && decide ((e::es).length+([]:List Keyword).length+(if ([]:List Keyword).isEmpty then 0 else 1) < 30))=true:=by rfl)
  (hline:(apos.endLine == cpos.line)=true:=by rfl) (hs:starEach (e::es) X.env=(false,eval e X.env)::starEach es X.env:=by rfl) (hplain:(backTo cpos (starEach es X.env)).any (·.1)=false:=by rfl) :
  PE X (.Call (.Attribute o name apos) (e::es) [] cpos) (tBM X.K T r to t):=by
 intro pins s σ H Q I h;refine wpAny_Call_method_late hbase hfew hline rfl (thn (ho pins s σ H _ I h) λv s1 ⟨x,H1,I1,r1,ty,q1⟩=>?_);obtain⟨h1,h2⟩:=zrR I1 r1 ty;refine⟨T,id,pa,slot,hty,h1,h2,?_⟩;have hA:=ha cpos pins s1 σ H1 _ I1 q1;rw[hs]at hA ⊢;refine ybz (by show(false || (backTo cpos (starEach es X.env)).any (·.1))=false;rw[hplain]<;>rfl) (ybN ?_);exact thn hA λus s2 ⟨vs,H2,I2,r2,q2⟩=>hm pins s2 σ H2 x vs v us Q I2 r1 r2 q2
end
end L2
namespace L2
open PySem PySem.Spec PyProof.Rows
def MtM(X:Cx)(id:String)(r:V->List V->Hp->VK->Prop):Prop :=
 ∀(pins:List (Addr×Obj)) (s:Shared) (σ:St) (H:Hp) (x:V) (xs:List V) (v:Value) (us:List Value) (Q:VK),Inv X pins σ H s->RelV x v->Vals xs us->r x xs H Q ->
  wpAny (model X.prog X.w) X.A (call (.builtin id) (v::us)) (EP X pins σ Q) X.xe s
theorem Vals.one:∀{x:V} {us:List Value},Vals [x] us->∃u,us=[u]/\RelV x u
 | _,_,.cons r .nil=>⟨_,rfl,r⟩
theorem Vals.two:∀{x y:V} {us:List Value},Vals [x,y] us->∃u v,us=[u,v]/\RelV x u/\RelV y v
 | _,_,_,.cons r (.cons q .nil)=>⟨_,_,rfl,r,q⟩
theorem Vals.zero:∀{us:List Value},Vals [] us->us=[]
 | _,.nil=>rfl
theorem Vals.dropLast{xs:List V}{us:List Value}(h:Vals xs us):Vals xs.dropLast us.dropLast:=by
 induction h with
 | nil=>exact .nil
 | cons r t ih =>
  cases t with
  | nil=>exact .nil
  | cons q t'=>exact .cons r ih
theorem Vals.eraseIdx:∀{xs:List V} {us:List Value} (i:Nat),Vals xs us->Vals (xs.eraseIdx i) (us.eraseIdx i)
 | _,_,_,.nil=>.nil
 | _,_,0,.cons _ t=>t
 | _,_,i+1,.cons r t=>.cons r (Vals.eraseIdx i t)
theorem zoQ{α:Type}(l:List α):l.eraseIdx (l.length - 1)=l.dropLast:=by
 induction l with
 | nil=>rfl
 | cons a r ih =>
  cases r with
  | nil=>rfl
  | cons b r =>
   have e:(a::b::r).length - 1=((b::r).length - 1)+1:=by
    have h1:(a::b::r).length=r.length+2:=rfl;have h2:(b::r).length=r.length+1:=rfl;omega
   rw[e,ydv,ih]
   all_goals rfl
theorem zlK{α:Type}:∀(l:List α) (i:Nat),(l.eraseIdx i).length<=l.length
 | [],_=>yaf _
 | _::_,0=>ycM _
 | _::r,i+1=>ydD (zlK r i)
section
variable{X:Cx}{pins:List (Addr×Obj)}{σ:St}{H:Hp}{s:Shared}{l b:Addr}{xs ys zs:List V}
theorem Inv.lset{its its':List Value}{n:Nat}{f:Array Value->Array Value}{t':Nat}(I:Inv X pins σ H s)(hH:H l=some (.lst xs))
  (e:s.heap.get? l=some { cls:=.type "list",data:=.seq its.toArray n }) (hf:f its.toArray=its'.toArray) (hv:Vals ys its') (hz:ys.length<=sizeLine) :
  Inv X pins σ (upd H l (.lst ys)) { s with heap:=s.heap.update l (Obj.mapSeq f),toks:=t' }:=by
 have q:=PySem.IsL.update e f;rw[hf]at q;refine I.write (x:=l) (e:=l) (by rw[hH];exact trivial) (.inl rfl) (λb' u hb hu=>(ya5 s.heap (Obj.mapSeq f) (ybn hb)).trans hu) ⟨_,q⟩ ?_;exact⟨hz,its',_,hv,q⟩
theorem Inv.fresh(I:Inv X pins σ H s):H s.heap.objs.size=none:=I.hok.fresh (yaf _)
theorem Inv.lstM(I:Inv X pins σ H s)(hH:H l=some (.lst xs)):xs.length<=sizeLine/\∃(its:List Value) (n:Nat),Vals xs its/\xs.length=its.length/\s.heap.get? l=some { cls:=.type "list",data:=.seq its.toArray n }:=by
 obtain⟨z,its,n,r,e⟩:=I.hok l _ hH;exact⟨z,its,n,r,r.length,e⟩
end
section
variable{X:Cx}
def zsH:V->List V->Hp->VK->Prop:=λx vs H Q=>∃l xs y,x=.ref l/\vs=[y]/\H l=some (.lst xs)/\xs.length < sizeLine/\Q .non (upd H l (.lst (xs++[y])))
theorem zbw:MtM X "list.append" zsH:=by
 intro pins s σ H x vs v us Q I rx rv h;obtain⟨l,xs,y,rfl,rfl,hH,hz,q⟩:=h;cases rx;obtain⟨u,rfl,ru⟩:=rv.one;obtain⟨z,its,n,r,hl,e⟩:=I.lstM hH;refine yds F.slot_list_append ⟨_,e,rfl⟩ F.entry_list_append (F.args_list_append_2 _ _) (PySem.list_append l its.toArray n u (by rw[yaB];omega)) ⟨e,?_⟩;refine⟨.non,_,I.lset (its':=its++[u]) hH e (by simp) (r.append (.cons ru .nil)) ?_,rfl,q⟩;rw[yah,yaE];omega
def rPop:V->List V->Hp->VK->Prop:=λx vs H Q=>∃l xs y,x=.ref l/\vs=[]/\H l=some (.lst xs)/\xs[xs.length - 1]?=some y/\Q y (upd H l (.lst xs.dropLast))
theorem zr1:MtM X "list.pop" rPop:=by
 intro pins s σ H x vs v us Q I rx rv h;obtain⟨l,xs,y,rfl,rfl,hH,hy,q⟩:=h;cases rx;have hus:=rv.zero;subst hus;obtain⟨z,its,n,r,hl,e⟩:=I.lstM hH;obtain⟨u,hu,ru⟩:=r.get hy;have hy':its.toArray[its.toArray.size - 1]?=some u:=by
   show its.toArray[its.length - 1]?=some u;rw[<-ybF,<-hl];exact hu
 refine yds F.slot_list_pop ⟨_,e,rfl⟩ F.entry_list_pop (F.args_list_pop_1 _) (MeetsSeq.list_pop_last l its.toArray n u hy' (by rw[yaB];omega)) ⟨e,?_⟩;refine⟨y,_,I.lset (its':=its.dropLast) hH e ?_ r.dropLast ?_,ru,q⟩
 . show its.toArray.eraseIdxIfInBounds (its.toArray.size - 1)=its.dropLast.toArray;rw[yaB,ycO,zoQ]
 . rw[List.length_dropLast];omega
def ztT:V->List V->Hp->VK->Prop:=λx vs H Q=>∃l xs i k y,x=.ref l/\vs=[.int i]/\H l=some (.lst xs)/\-(2 ^ 63)<=i/\i < 2 ^ 63/\seqIndex? i xs.length=some k/\xs[k]?=some y/\Q y (upd H l (.lst (xs.eraseIdx k)))
theorem zrp:MtM X "list.pop" ztT:=by
 intro pins s σ H x vs v us Q I rx rv h;obtain⟨l,xs,i,k,y,rfl,rfl,hH,h1,h2,hk,hy,q⟩:=h;cases rx;obtain⟨u,rfl,ru⟩:=rv.one;obtain⟨t,rfl⟩:=ru;obtain⟨z,its,n,r,hl,e⟩:=I.lstM hH;obtain⟨w,hw,rw'⟩:=r.get hy;refine yds F.slot_list_pop ⟨_,e,rfl⟩ F.entry_list_pop (F.args_list_pop_2 _ _)
   (MeetsSeq.list_pop_at l its.toArray n i t k w (fitsIndex_both h1 h2) (by rw[yaB,<-hl];exact hk) (by rw[<-ybF];exact hw) (by rw[yaB];omega)) ⟨e,?_⟩
 refine⟨y,_,I.lset (its':=its.eraseIdx k) hH e ?_ (r.eraseIdx k) ?_,rw',q⟩
 . show its.toArray.eraseIdxIfInBounds k=(its.eraseIdx k).toArray;rw[ycO]
 . have:=zlK xs k;omega
end
section
variable{prog:Program}{w:World}{A:Around}{E:Value->Shared->Prop}{s:Shared}
set_option maxRecDepth 100000 in
end
section
variable{X:Cx}
end
end L2
namespace L2
open PySem PySem.Spec PyProof.Rows
section
variable{κ:Type}[DecidableEq κ]
def valV(kvs:List (κ×V))(k:κ):Option V:=(kvs.find? λkv=>decide (kv.1=k)).map (·.2)
def putK(kvs:List (κ×V))(k:κ)(v:V):List (κ×V) :=
 if (kvs.any λkv=>decide (kv.1=k))=true then kvs.map (λkv=>if kv.1=k then (kv.1,v) else kv) else kvs++[(k,v)]
def zgv(kvs:List (κ×V))(k:κ):List (κ×V):=kvs.filter λkv=>decide (kv.1≠k)
theorem zbz{p:κ×V}{r:List (κ×V)}{k:κ}(e:p.1=k):valV (p::r) k=some p.2:=by simp[valV,ybl,e]
theorem zbA{p:κ×V}{r:List (κ×V)}{k:κ}(e:¬p.1=k):valV (p::r) k=valV r k:=by simp[valV,ybl,e]
theorem zf9(k:κ):∀kvs:List (κ×V),(kvs.any λkv=>decide (kv.1=k))=(valV kvs k).isSome
 | []=>rfl
 | p::r=>by
  rw[ycJ];by_cases e:p.1=k
  . simp only[zbz e,yaz e,Bool.true_or,Option.isSome_some]
  . rw[zbA e,yay e,Bool.false_or];exact zf9 k r
theorem znw(k j:κ)(y:V):∀kvs:List (κ×V),valV (kvs.map λkv=>if kv.1=k then (kv.1,y) else kv) j=(valV kvs j).map λx=>if j=k then y else x
 | []=>rfl
 | p::r=>by
  have ih:=znw k j y r;rw[yaK];by_cases h:p.1=k
  . rw[yaj h];by_cases e:p.1=j
    . rw[zbz (p:=(p.1,y)) e,zbz e,ycr,yaj (e.symm.trans h)]
    . rw[zbA (p:=(p.1,y)) e,zbA e,ih]
  . rw[yai h];by_cases e:p.1=j
    . rw[zbz (p:=p) e,zbz e,ycr,yai (λz=>h (e.trans z))]
    . rw[zbA (p:=p) e,zbA e,ih]
theorem zk0(k j:κ)(y:V):∀kvs:List (κ×V),valV kvs k=none->valV (kvs++[(k,y)]) j=if j=k then some y else valV kvs j
 | [],_=>by
  by_cases e:k=j
  . rw[yaj e.symm];exact zbz (p:=(k,y)) e
  . rw[yai (λz=>e z.symm)];exact zbA (p:=(k,y)) e
 | p::r,hn=>by
  rw[ybU];have hk:¬p.1=k:=λz=>by rw[zbz z]at hn;cases hn
  rw[zbA hk]at hn;have ih:=zk0 k j y r hn;by_cases e:p.1=j
  . rw[zbz e,zbz e,yai (λz=>hk (e.trans z))]
  . rw[zbA e,zbA e,ih]
theorem znv(kvs:List (κ×V))(k j:κ)(y:V):valV (putK kvs k y) j=if j=k then some y else valV kvs j:=by
 unfold putK;by_cases a:(kvs.any λkv=>decide (kv.1=k))=true
 . rw[yaj a,znw];rw[zf9]at a;by_cases e:j=k
   . obtain⟨x,hx⟩:=ydt.mp a;rw[yaj e,e,hx,ycr,yaj rfl]
   . rw[yai e];cases valV kvs j with
     | none=>rfl
     | some x=>rw[ycr,yai e]
 . rw[yai a];refine zk0 k j y kvs ?_;rw[zf9]at a;cases q:valV kvs k with
   | none=>rfl
   | some x=>rw[q]at a;exact(a rfl).elim
theorem zfY(kvs:List (κ×V))(k:κ)(v:V):(putK kvs k v).length<=kvs.length+1:=by
 unfold putK;split
 . rw[yaa];omega
 . rw[yah,yaP,yb3];omega
theorem zkd{kvs:List (κ×V)}{k:κ}(v:V)(h:valV kvs k=none):putK kvs k v=kvs++[(k,v)]:=by
 unfold putK;rw[zf9,h];exact yai (by decide)
theorem RelO.zdS{o:Option V}{u:Option Value}(r:RelO o u):o.isSome=u.isSome:=by
 cases o with
 | none=>cases u with
  | none=>rfl
  | some _=>exact(show False from r).elim
 | some _=>cases u with
  | none=>exact(show False from r).elim
  | some _=>rfl
theorem RelO.getD{o:Option V}{u:Option Value}{d:V}{d':Value}(r:RelO o u)(rd:RelV d d'):RelV (o.getD d) (u.getD d'):=by
 cases o with
 | none=>cases u with
  | none=>exact rd
  | some _=>exact(show False from r).elim
 | some _=>cases u with
  | none=>exact(show False from r).elim
  | some _=>exact r
theorem KV.val{kvs:List (κ×V)}{vs:List (κ×Value)}(r:KV kvs vs)(k:κ):RelO (valV kvs k) (valueAt vs k):=by
 unfold KV at r
 induction r with
 | nil=>exact True.intro
 | @cons p q ps qs h t ih =>
  obtain⟨h1,h2⟩:=h;by_cases e:p.1=k
  . have e':q.1=k:=h1.symm.trans e;have b:valueAt (q::qs) k=some q.2:=by simp[valueAt,ybl,e']
    rw[zbz e,b];exact h2
  . have e':¬q.1=k:=λz=>e (h1.trans z);have b:valueAt (q::qs) k=valueAt qs k:=by simp[valueAt,ybl,e']
    rw[zbA e,b];exact ih
theorem KV.any{kvs:List (κ×V)}{vs:List (κ×Value)}(r:KV kvs vs)(k:κ):(kvs.any λkv=>decide (kv.1=k))=vs.any λkv=>decide (kv.1=k):=by
 unfold KV at r
 induction r with
 | nil=>rfl
 | cons h t ih=>rw[ycJ,ycJ,ih,h.1]
theorem KV.repl{kvs:List (κ×V)}{vs:List (κ×Value)}(r:KV kvs vs)(k:κ){y:V}{u:Value}(ry:RelV y u) :
  KV (kvs.map λkv=>if kv.1=k then (kv.1,y) else kv) (vs.map λkv=>if kv.1=k then (kv.1,u) else kv):=by
 unfold KV at r ⊢
 induction r with
 | nil=>exact .nil
 | @cons p q ps qs h t ih =>
  rw[yaK,yaK];refine .cons ?_ ih;obtain⟨h1,h2⟩:=h;by_cases e:p.1=k
  . rw[yaj e,yaj (h1.symm.trans e)];exact⟨h1,ry⟩
  . rw[yai e,yai (λz=>e (h1.trans z))];exact⟨h1,h2⟩
theorem KV.put{kvs:List (κ×V)}{vs:List (κ×Value)}(r:KV kvs vs)(k:κ){y:V}{u:Value}(ry:RelV y u):KV (putK kvs k y) (stored vs k u):=by
 unfold putK stored;rw[r.any k];by_cases e:(vs.any λkv=>decide (kv.1=k))=true
 . rw[yaj e,yaj e];exact r.repl k ry
 . rw[yai e,yai e];exact Paired.snoc r ⟨rfl,ry⟩
theorem KV.drop{kvs:List (κ×V)}{vs:List (κ×Value)}(r:KV kvs vs)(k:κ):KV (zgv kvs k) (without vs k):=by
 unfold KV at r ⊢;unfold zgv without
 induction r with
 | nil=>exact .nil
 | @cons p q ps qs h t ih =>
  obtain⟨h1,h2⟩:=h;rw[List.filter_cons,List.filter_cons];by_cases e:p.1=k
  . have a:¬decide (p.1≠k)=true:=by simp[e]
    have b:¬decide (q.1≠k)=true:=by simp[h1.symm.trans e]
    rw[yai a,yai b];exact ih
  . have e':¬q.1=k:=λz=>e (h1.trans z);have a:decide (p.1≠k)=true:=by simp[e]
    have b:decide (q.1≠k)=true:=by simp[e']
    rw[yaj a,yaj b];exact .cons ⟨h1,h2⟩ ih
theorem KV.keys{kvs:List (κ×V)}{vs:List (κ×Value)}(r:KV kvs vs):kvs.map (·.1)=vs.map (·.1):=by
 unfold KV at r
 induction r with
 | nil=>rfl
 | cons h t ih=>rw[yaK,yaK,ih,h.1]
theorem KV.length{kvs:List (κ×V)}{vs:List (κ×Value)}(r:KV kvs vs):kvs.length=vs.length:=Paired.length r
theorem zn2(kvs:List (κ×V))(k:κ):(zgv kvs k).length<=kvs.length:=ybW _ _
end
theorem ziB{P:Program}{w:World}{k:Key}{u:Value}(r:RelV (kV k) u):(zaR P w).is k u=true:=by
 cases k with
 | inl i=>obtain⟨t,e⟩:=(show ∃t,u=Value.int i t from r);subst e;exact zfU P w i t
 | inr x=>obtain⟨t,e⟩:=(show ∃t,u=Value.str x t from r);subst e;exact zfT P w x t
theorem zlP{P:Program}{w:World}:∀{ks:List Key} {us:List Value},Vals (ks.map kV) us->ItemsAre (zaR P w) ks us
 | [],_,r=>by rw[ydh]at r;cases r;exact .nil
 | k::ks,_,r=>by
  rw[yaK]at r;cases r with
  | cons h t=>exact .cons (ziB h) (zlP t)
abbrev KT(H:Hp):List (List Key×V)->List (List Key×Addr×Value)->Prop:=Paired λp q=>p.1=q.1/\H q.2.1=some (.tup (p.1.map kV))/\RelV p.2 q.2.2
theorem KT.val{H:Hp}{kvs:List (List Key×V)}{xs:List (List Key×Addr×Value)}(r:KT H kvs xs)(k:List Key):RelO (valV kvs k) ((atKey xs k).map (·.2)):=by
 induction r with
 | nil=>exact True.intro
 | @cons p q ps qs h t ih =>
  obtain⟨h1,_,h2⟩:=h;by_cases e:p.1=k
  . have e':q.1=k:=h1.symm.trans e;have b:atKey (q::qs) k=some q.2:=by simp[atKey,ybl,e']
    rw[zbz e,b];exact h2
  . have e':¬q.1=k:=λz=>e (h1.trans z);have b:atKey (q::qs) k=atKey qs k:=by simp[atKey,ybl,e']
    rw[zbA e,b];exact ih
theorem KT.repl{H:Hp}{kvs:List (List Key×V)}{xs:List (List Key×Addr×Value)}(r:KT H kvs xs)(k:List Key){y:V}{u:Value}(ry:RelV y u) :
  KT H (kvs.map λkv=>if kv.1=k then (kv.1,y) else kv) (xs.map (putAt k u)):=by
 induction r with
 | nil=>exact .nil
 | @cons p q ps qs h t ih =>
  rw[yaK,yaK];refine .cons ?_ ih;obtain⟨h1,h2,h3⟩:=h;unfold putAt;by_cases e:p.1=k
  . rw[yaj e,yaj (h1.symm.trans e)];exact⟨h1,h2,ry⟩
  . rw[yai e,yai (λz=>e (h1.trans z))];exact⟨h1,h2,h3⟩
theorem KT.put{H:Hp}{kvs:List (List Key×V)}{xs:List (List Key×Addr×Value)}(r:KT H kvs xs)(k:List Key){b:Addr}{y:V}{u:Value}(hb:H b=some (.tup (k.map kV)))(ry:RelV y u) :
   KT H (putK kvs k y) (storedH xs k b u):=by
 have e:(kvs.any λkv=>decide (kv.1=k))=(atKey xs k).isSome:=by
   rw[zf9,(r.val k).zdS,yb9]
 unfold putK storedH;rw[e];by_cases q:(atKey xs k).isSome=true
 . rw[yaj q,yaj q];exact r.repl k ry
 . rw[yai q,yai q];exact Paired.snoc r ⟨rfl,hb,ry⟩
theorem KT.keeps{H H':Hp}{kvs:List (List Key×V)}{xs:List (List Key×Addr×Value)}(r:KT H kvs xs)(ht:∀b ys,H b=some (.tup ys)->H' b=some (.tup ys)):KT H' kvs xs :=
 Paired.mapP r λ_ _ z=>⟨z.1,ht _ _ z.2.1,z.2.2⟩
section
variable{P:Program}{w:World}{H:Hp}{h:Heap}{a:Addr}
theorem ztS{u:HO}(ok:HOk P w H h)(e:Rd H a u):zbM P w H h a u:=e.ok ok
theorem zlY{kvs:List (Key×V)}(ok:HOk P w H h)(e:Rd H a (.dK kvs)):kvs.length<=sizeLine/\(a == sysModules)=false/\∃vs,KV kvs vs/\h.DictOf (zaR P w) a vs :=
 show zbM P w H h a (.dK kvs) from ztS ok e
theorem zlZ{kvs:List (Key×V)}(ok:HOk P w H h)(e:H a=some (.dK kvs)):kvs.length<=sizeLine/\(a == sysModules)=false/\∃vs,KV kvs vs/\h.DictOf (zaR P w) a vs:=zlY ok (.inl e)
theorem ziz{ks:List Key}(ok:HOk P w H h)(e:H a=some (.tup (ks.map kV))):(tupleKind (zaR P w)).is h ks a:=by
 obtain⟨_,its,r,o,h1,h2,n,h3⟩:=(show zbM P w H h a (.tup (ks.map kV)) from ok a _ e)
 exact⟨o,its.toArray,n,h1,h2,h3,by simpa using zlP r⟩
theorem zlX{kvs:List (List Key×V)}(ok:HOk P w H h)(e:Rd H a (.dT kvs)):kvs.length<=sizeLine/\(a == sysModules)=false /\
  ∃xs,KT H kvs xs/\h.DictOfH (tupleKind (zaR P w)) a xs:=by
 obtain⟨z,y,xs,r,o,es,ep,h1,h2,h3,h4,h5⟩:=(show zbM P w H h a (.dT kvs) from ztS ok e)
 refine⟨z,y,xs,r,o,es,ep,h1,h2,h3,h4,λx hx=>?_,h5⟩;have all:∀{l:List (List Key×V)} {m:List (List Key×Addr×Value)},KT H l m->∀x∈m,(tupleKind (zaR P w)).is h x.1 x.2.1:=by
  intro l m q
  induction q with
  | nil=>intro x hx;exact nomatch hx
  | @cons p q ps qs hq t ih =>
   intro x hx;rcases yat.mp hx with e | hx
   . subst e;exact ziz ok (by rw[<-hq.1];exact hq.2.1)
   . exact ih x hx
 exact all r x hx
theorem zu3{kvs:List (List Key×V)}(ok:HOk P w H h)(e:H a=some (.dT kvs)):kvs.length<=sizeLine/\(a == sysModules)=false /\
 ∃xs,KT H kvs xs/\h.DictOfH (tupleKind (zaR P w)) a xs:=zlX ok (.inl e)
end
def DGet(H:Hp)(a:Addr)(y:V)(r:Option V):Prop :=
 (∃kvs k,Rd H a (.dK kvs)/\y=kV k/\r=valV kvs k)\/∃kvs k b,Rd H a (.dT kvs)/\y=.ref b/\H b=some (.tup (k.map kV))/\r=valV kvs k
def DPut(H:Hp)(a:Addr)(y v:V)(H':Hp):Prop :=
 (∃kvs k,H a=some (.dK kvs)/\y=kV k/\kvs.length < sizeLine/\H'=upd H a (.dK (putK kvs k v))) \/
 ∃kvs k b,H a=some (.dT kvs)/\y=.ref b/\H b=some (.tup (k.map kV))/\kvs.length < sizeLine/\H'=upd H a (.dT (putK kvs k v))
theorem DGet.k{H:Hp}{a:Addr}{kvs:List (Key×V)}{k:Key}(e:H a=some (.dK kvs)):DGet H a (kV k) (valV kvs k):=.inl ⟨kvs,k,.inl e,rfl,rfl⟩
theorem DPut.k{H:Hp}{a:Addr}{kvs:List (Key×V)}{k:Key}{v:V}(e:H a=some (.dK kvs))(hl:kvs.length < sizeLine):DPut H a (kV k) v (upd H a (.dK (putK kvs k v))):=.inl ⟨kvs,k,e,rfl,hl,rfl⟩
section
variable{X:Cx}{pins:List (Addr×Obj)}{σ:St}{H:Hp}{s:Shared}{a:Addr}{y v:V}{u r:Value}{o:Option V}{A:Around}{E:Value->Shared->Prop}
theorem Inv.big(I:Inv X pins σ H s):sysModules < s.heap.objs.size:=by
 have h:mainGlobals < s.heap.objs.size:=(I.mod.glob.keeps I.bk).lt;exact yd7 (by decide) h
theorem zqK{Q:Value->Shared->Prop}(hu:A.units+1 < cLine)(I:Inv X pins σ H s)(g:DGet H a y (some v))(ry:RelV y u)(h:∀w' s',Inv X pins σ H s'->RelV v w'->Q w' s') :
   wpAny (model X.prog X.w) A (getItem (.ref a) u) Q E s:=by
 rcases g with ⟨kvs,k,e,ey,l⟩ | ⟨kvs,k,b,e,ey,eb,l⟩
 . subst ey;obtain⟨z,hd,vs,rel,dd⟩:=zlY I.hok e;obtain⟨w',hw,rw'⟩:=RelO.some_of (v:=v) (o:=valueAt vs k) (by rw[l];exact rel.val k);exact wpAny_getItem_of (ziB ry) dd.mapOf hw (h w' _ (I.tok _) rw')
 . subst ey;cases (show u=Value.ref b from ry);obtain⟨z,hd,xs,rel,dd⟩:=zlX I.hok e;obtain⟨w',hw,rw'⟩:=RelO.some_of (v:=v) (o:=(atKey xs k).map (·.2)) (by rw[l];exact rel.val k);obtain⟨p,hp,hp2⟩:=yao.mp hw;refine wpAny_getItem_heap (ybX hu) (ziz I.hok eb) dd hp ?_;rw[hp2];exact h w' _ (I.tok _) rw'
theorem d_in{Q:Value->Shared->Prop}(hu:A.units+1 < cLine)(I:Inv X pins σ H s)(g:DGet H a y o)(ry:RelV y u)(h:∀s',Inv X pins σ H s'->Q (.bool o.isSome) s') :
   wpAny (model X.prog X.w) A (compareOp .In u (.ref a)) Q E s:=by
 rcases g with ⟨kvs,k,e,ey,l⟩ | ⟨kvs,k,b,e,ey,eb,l⟩
 . subst ey;obtain⟨z,hd,vs,rel,dd⟩:=zlY I.hok e;refine wpAny_in_of (ziB ry) hd dd.mapOf ?_;rw[<-(rel.val k).zdS,<-l];exact h _ (I.tok _)
 . subst ey;cases (show u=Value.ref b from ry);obtain⟨z,hd,xs,rel,dd⟩:=zlX I.hok e;refine wpAny_in_heap (ybX hu) (ziz I.hok eb) hd dd ?_;have q:=(rel.val k).zdS;rw[yb9]at q;rw[<-q,<-l];exact h _ (I.tok _)
theorem zs9{Q:Value->Shared->Prop}(hu:A.units+1 < cLine)(I:Inv X pins σ H s)(g:DGet H a y o)(ry:RelV y u)(h:∀s',Inv X pins σ H s'->Q (.bool (!o.isSome)) s') :
   wpAny (model X.prog X.w) A (compareOp .NotIn u (.ref a)) Q E s:=by
 rcases g with ⟨kvs,k,e,ey,l⟩ | ⟨kvs,k,b,e,ey,eb,l⟩
 . subst ey;obtain⟨z,hd,vs,rel,dd⟩:=zlY I.hok e;refine wpAny_notIn_of (ziB ry) hd dd.mapOf ?_;rw[<-(rel.val k).zdS,<-l];exact h _ (I.tok _)
 . subst ey;cases (show u=Value.ref b from ry);obtain⟨z,hd,xs,rel,dd⟩:=zlX I.hok e;refine wpAny_notIn_heap (ybX hu) (ziz I.hok eb) hd dd ?_;have q:=(rel.val k).zdS;rw[yb9]at q;rw[<-q,<-l];exact h _ (I.tok _)
theorem ziL{h':Heap}{t':Nat}{ob:HO}(I:Inv X pins σ H s)(mu:Mut (H a))(hs:Heap.SameBut a s.heap h')(he:∃q,h'.get? a=some q)(new:zbM X.prog X.w (upd H a ob) h' a ob) :
  Inv X pins σ (upd H a ob) { s with heap:=h',toks:=t' } :=
 I.write (x:=a) (e:=a) mu (.inl rfl) (λb q hb z=>(hs.2 b hb).trans z) he new
theorem zn3{P:Program}{w:World}{H':Hp}{h':Heap}{kvs:List (Key×V)}{vs:List (Key×Value)}(z:kvs.length<=sizeLine)(hd:(a == sysModules)=false)(rel:KV kvs vs)(dd:h'.DictOf (zaR P w) a vs) :
 zbM P w H' h' a (.dK kvs):=⟨z,hd,vs,rel,dd⟩
theorem zqJ{H':Hp}{Q:Unit->Shared->Prop}(hu:A.units+1 < cLine)(I:Inv X pins σ H s)(g:DPut H a y v H')(ry:RelV y u)(rv:RelV v r)(h:∀s',Inv X pins σ H' s'->Q () s') :
   wpAny (model X.prog X.w) A (setItem (.ref a) u r) Q E s:=by
 rcases g with ⟨kvs,k,e,ey,l,eH⟩ | ⟨kvs,k,b,e,ey,eb,l,eH⟩
 . subst ey eH;obtain⟨z,hd,vs,rel,dd⟩:=zlZ I.hok e;have hz:vs.length<=sizeLine:=by rw[<-rel.length];exact z
   have hl:(putK kvs k v).length<=sizeLine:=by have:=zfY kvs k v;omega
   refine wpAny_setItem_pairs (hsz:=hz) (ziB ry) dd λh' dd' hs=>h _ ?_;have he:∃q,h'.get? a=some q:=let ⟨q,_,_,hq,_⟩:=dd';⟨q,hq⟩;exact ziL I (by rw[e];exact True.intro) hs he (zn3 hl hd (rel.put k rv) dd')
 . subst ey eH;cases (show u=Value.ref b from ry);obtain⟨z,hd,xs,rel,dd⟩:=zu3 I.hok e;have hz:xs.length<=sizeLine:=by rw[<-Paired.length rel];exact z
   have hl:(putK kvs k v).length<=sizeLine:=by have:=zfY kvs k v;omega
   refine wpAny_setItem_heap (hsz:=hz) (ybX hu) (ziz I.hok eb) dd λh' dd' hs=>h _ ?_;obtain⟨q,es,ep,hq,h2,h3,h4,_,h5⟩:=dd';refine ziL I (by rw[e];exact True.intro) hs ⟨q,hq⟩ ⟨hl,hd,_,(rel.put k eb rv).keeps λc ys ec=>?_,q,es,ep,hq,h2,h3,h4,h5⟩;rw[zag (zbj ec e (λz=>nomatch z))];exact ec
end
section
variable{X:Cx}{pins:List (Addr×Obj)}{σ:St}{H:Hp}{s:Shared}{a:Addr}{kvs:List (Key×V)}{k:Key}{u:Value}{A:Around}{E:Value->Shared->Prop}
theorem d_delItem{Q:Unit->Shared->Prop}(I:Inv X pins σ H s)(e:H a=some (.dK kvs))(ry:RelV (kV k) u)(l:(valV kvs k).isSome=true)(h:∀s',Inv X pins σ (upd H a (.dK (zgv kvs k))) s'->Q () s') :
  wpAny (model X.prog X.w) A (delItem (.ref a) u) Q E s:=by
 obtain⟨z,hd,vs,rel,dd⟩:=zlZ I.hok e;refine wpAny_delItem_slot dd.typeIs (by decide) ydk
  (ycs ydk dd.typeIs PySem.F.entry_dict_delitem (PySem.F.args_dict_delitem_2 _ _) (meets_dict_delitem_pairs (zaR X.prog X.w) a (ziB ry)) ⟨vs,dd,by rw[<-rel.length];exact z,by rw[<-(rel.val k).zdS];exact l,λh' dd' hs=>h _ ?_⟩)
 have he:∃q,h'.get? a=some q:=let ⟨q,_,_,hq,_⟩:=dd';⟨q,hq⟩;exact ziL I (by rw[e];exact True.intro) hs he (zn3 (yaA (zn2 kvs k) z) hd (rel.drop k) dd')
theorem zu4{v:V}{more:List Value}{Q:Value->Shared->Prop}(I:Inv X pins σ H s)(e:H a=some (.dK kvs))(ry:RelV (kV k) u)(l:valV kvs k=some v)(hm:more=[]\/∃x,more=[x])
  (h:∀w' s',Inv X pins σ (upd H a (.dK (zgv kvs k))) s'->RelV v w'->Q w' s'):wpAny (model X.prog X.w) A (call (.builtin "dict.pop") (.ref a::u::more)) Q E s:=by
 obtain⟨z,hd,vs,rel,dd⟩:=zlZ I.hok e;obtain⟨w',hw,rw'⟩:=RelO.some_of (v:=v) (o:=valueAt vs k) (by rw[<-l];exact rel.val k);have hp:(keyPart u).isSome=true:=by
  cases k with
  | inl i=>obtain⟨t,q⟩:=(show ∃t,u=Value.int i t from ry);subst q;rfl
  | inr x=>obtain⟨t,q⟩:=(show ∃t,u=Value.str x t from ry);subst q;rfl
 have ha:argsOk "dict.pop" ⟨.ref a::u::more,[]⟩:=by
  rcases hm with q | ⟨x,q⟩
  . subst q;exact PySem.F.args_dict_pop_2 _ _
  . subst q;exact ydx _ _ _
 refine ycs ycW dd.typeIs ydP ha (meets_dict_pop_there (zaR X.prog X.w) a (ziB ry) more hm hp)
  ⟨vs,w',dd,by rw[<-rel.length];exact z,hw,λh' dd' hs=>h w' _ ?_ rw'⟩
 have he:∃q,h'.get? a=some q:=let ⟨q,_,_,hq,_⟩:=dd';⟨q,hq⟩;exact ziL I (by rw[e];exact True.intro) hs he (zn3 (yaA (zn2 kvs k) z) hd (rel.drop k) dd')
theorem zul{r:Value}{Q:Value->Shared->Prop}(I:Inv X pins σ H s)(e:H a=some (.dK kvs))(ry:RelV (kV k) u)(l:valV kvs k=none)(h:∀s',Inv X pins σ H s'->Q r s') :
  wpAny (model X.prog X.w) A (call (.builtin "dict.pop") [.ref a,u,r]) Q E s:=by
 obtain⟨z,hd,vs,rel,dd⟩:=zlZ I.hok e;have hn:valueAt vs k=none:=RelO.none_of (by rw[<-l];exact rel.val k);have hp:(keyPart u).isSome=true:=by
  cases k with
  | inl i=>obtain⟨t,q⟩:=(show ∃t,u=Value.int i t from ry);subst q;rfl
  | inr x=>obtain⟨t,q⟩:=(show ∃t,u=Value.str x t from ry);subst q;rfl
 exact ycs ycW dd.typeIs ydP (ydx _ _ _) (meets_dict_pop_default (zaR X.prog X.w) a (ziB ry) hd hp r) ⟨vs,dd,hn,h _ (I.tok _)⟩
end
def NoSl(i:Expr):Prop:=∀ov iv,subscripted i false ov iv=operate [ov,iv] (getItem ov iv)
theorem zsn{prog:Program}{w:World}{A:Around}{E:Value->Shared->Prop}{s:Shared}{env:Env}{value slice:Expr}{pos:Pos}{T id:String}{Q:Value->Shared->Prop}
  (hl:typeLookup (.type T) "__getitem__" = pure (some (.builtin id))) (hs:NoSl slice)
  (h:wpAny (model prog w) A (eval value env) (λo s₁=>wpAny (model prog w) A (eval slice env) (λi s₂=>s₂.TypeIs o T/\wpAny (model prog w) A (getItem o i) Q E s₂) E s₁) E s) :
  wpAny (model prog w) A (eval (.Subscript value slice pos) env) Q E s:=by
 refine Subscript_ (ybk h (λo s₁ h₁=>ybk h₁ (λi s₂ h₂=>?_) λ_ _ x=>x) λ_ _ x=>x);obtain⟨hT,h₂⟩:=h₂;unfold subscriptTail;refine yab ?_;rw[getitemInPython_of_ne hT.not_modules];refine yab (wpAny_specialOf hT hl ?_);have fin:wpAny (model prog w) A (subscripted slice false o i) (λr s₃=>wpAny (model prog w) A (letTemporaryGo value o r >>= λ_=>pure r) Q E s₃) E s₂:=by
  rw[hs o i];exact wpAny_operating (ybk h₂ (λr s₃ h₃=>yab (wpAny_letTemporaryGo (yag h₃))) λ_ _ x=>x)
 first
  | exact yag (yab fin)
  | exact yab (yag (yab fin))
  | exact yab fin
theorem zmZ{X:Cx}{pins:List (Addr×Obj)}{σ:St}{H:Hp}{s:Shared}{a:Addr}{y:V}{o:Option V}(I:Inv X pins σ H s)(g:DGet H a y o):s.TypeIs (.ref a) "dict" := by
 rcases g with ⟨kvs,k,e,_,_⟩ | ⟨kvs,k,b,e,_,_,_⟩
 . obtain⟨_,_,vs,_,dd⟩:=zlY I.hok e;exact dd.typeIs
 . obtain⟨_,_,xs,_,dd⟩:=zlX I.hok e;exact dd.typeIs
def zuG(td ty:TE):TE:=λσ H Q=>td σ H λx H1=>ty σ H1 λy H2=>∃a v,x=.ref a/\DGet H2 a y (some v)/\Q v H2
def tDIn(ty td:TE):TE:=λσ H Q=>ty σ H λy H1=>td σ H1 λx H2=>∃a o,x=.ref a/\DGet H2 a y o/\Q (.bl o.isSome) H2
def zsl(ty td:TE):TE:=λσ H Q=>ty σ H λy H1=>td σ H1 λx H2=>∃a o,x=.ref a/\DGet H2 a y o/\Q (.bl (!o.isSome)) H2
def ztQ(td ty tv:TE):TS:=λD σ H=>tv σ H λv H1=>td σ H1 λx H2=>ty σ H2 λy H3=>∃a H4,x=.ref a/\DPut H3 a y v H4/\D.nx σ H4
section
variable{X:Cx}{o i e value:Expr}{pos pos' tpos:Pos}{td ty tv:TE}
theorem zd5(hu:X.A.units+1 < cLine)(ho:PE X o td)(hi:PE X i ty)(hs:NoSl i):PE X (.Subscript o i pos) (zuG td ty):=by
 intro pins s σ H Q I h;refine zsn PySem.F.slot_dict_getitem.lookup hs (thn (ho pins s σ H _ I h) λu s1 ⟨x,H1,I1,rx,q1⟩=>thn (hi pins s1 σ H1 _ I1 q1) λiv s2 ⟨y,H2,I2,ry,a,v,ex,g,q2⟩=>?_);subst ex;obtain rfl:u=Value.ref a:=rx;exact⟨zmZ I2 g,zqK hu I2 g ry λw' s3 I3 rw'=>⟨v,H2,I3,rw',q2⟩⟩
theorem zpL(hu:X.A.units+1 < cLine)(hi:PE X i ty)(ho:PE X o td):PC X .In i o (tDIn ty td):=by
 intro pins s σ H Q I h;refine thn (hi pins s σ H _ I h) λiv s1 ⟨y,H1,I1,ry,q1⟩=>thn (ho pins s1 σ H1 _ I1 q1) λu s2 ⟨x,H2,I2,rx,a,ov,ex,g,q2⟩=>?_;subst ex;obtain rfl:u=Value.ref a:=rx;exact d_in hu I2 g ry λs3 I3=>⟨.bl ov.isSome,H2,I3,rfl,q2⟩
theorem zih(hu:X.A.units+1 < cLine)(hi:PE X i ty)(ho:PE X o td):PC X .NotIn i o (zsl ty td):=by
 intro pins s σ H Q I h;refine thn (hi pins s σ H _ I h) λiv s1 ⟨y,H1,I1,ry,q1⟩=>thn (ho pins s1 σ H1 _ I1 q1) λu s2 ⟨x,H2,I2,rx,a,ov,ex,g,q2⟩=>?_;subst ex;obtain rfl:u=Value.ref a:=rx;exact zs9 hu I2 g ry λs3 I3=>⟨.bl (!ov.isSome),H2,I3,rfl,q2⟩
theorem zfN(hu:X.A.units+1 < cLine)(ho:PE X o td)(hi:PE X i ty)(hv:PE X value tv)(hs:swapsWith value (some (.Subscript o i pos')) pos.line X.env=pure false) :
  PS X (.Assign [.Subscript o i pos'] value pos) (ztQ td ty tv):=by
 intro pins s σ H D I h;refine wpAny_Assign_Subscript (thn (hv pins s σ H _ I h) λr s1 ⟨v,H1,I1,rv,q1⟩=>thn (ho pins s1 σ H1 _ I1 q1) λu s2 ⟨x,H2,I2,rx,q2⟩=>thn (hi pins s2 σ H2 _ I2 q2) λiv s3 ⟨y,H3,I3,ry,a,H4,ex,g,q3⟩=>?_) hs;subst ex;obtain rfl:u=Value.ref a:=rx;exact zqJ hu I3 g ry rv λs4 I4=>⟨σ,H4,I4,q3⟩
end
theorem zn4{P:Program}{w:World}{H:Hp}(h:Heap)(hb:sysModules < h.objs.size):zbM P w H (h.push { cls:=.type "dict",data:=.dict #[] }) h.objs.size (.dK []) :=
 ⟨ya1 _,ycf.mpr (ybn (yaI hb)),[],.nil,Heap.DictOf.new h⟩
def ztv:TE:=λ_ H Q=>∀p,H p=none->Q (.ref p) (upd H p (.dK []))
section
variable{X:Cx}{pos:Pos}
theorem zdk:PE X (.Dict [] [] pos) ztv:=λpins s σ H Q I h =>
 wpAny_Dict_empty ⟨.ref s.heap.objs.size,_,I.laid (a:=s.heap.objs.size) (o:=.dK []) (t':=s.toks) (λ_ _ q=>yae _ q) (yaf _) (zn4 s.heap I.big),rfl,h _ (I.hok.fresh (yaf _))⟩
end
structure M1(X:Cx)(o:Expr)(m:Str)(apos:Pos)(e:Expr)(cpos:Pos):Prop where
 base:attributeBase o m X.env (eval o X.env)=eval o X.env
 few:((backTo cpos (starEach [e] X.env)).all (λx=>!x.1) && (backToKw cpos (keywordEach [] X.env)).all (λx=>x.1.isSome)
  && decide (([e]:List Expr).length+([]:List Keyword).length+(if ([]:List Keyword).isEmpty then 0 else 1) < 30))=true
 line:(apos.endLine == cpos.line)=true
 trees:backTo cpos (starEach [e] X.env)=[(false,eval e X.env)]
structure M2(X:Cx)(o:Expr)(m:Str)(apos:Pos)(e f:Expr)(cpos:Pos):Prop where
 base:attributeBase o m X.env (eval o X.env)=eval o X.env
 few:((backTo cpos (starEach [e,f] X.env)).all (λx=>!x.1) && (backToKw cpos (keywordEach [] X.env)).all (λx=>x.1.isSome)
  && decide (([e,f]:List Expr).length+([]:List Keyword).length+(if ([]:List Keyword).isEmpty then 0 else 1) < 30))=true
 line:(apos.endLine == cpos.line)=true
 trees:backTo cpos (starEach [e,f] X.env)=[(false,eval e X.env),(false,eval f X.env)]
def IsD(H:Hp)(a:Addr):Prop:=(∃kvs,Rd H a (.dK kvs))\/∃kvs,Rd H a (.dT kvs)
theorem znW{X:Cx}{pins:List (Addr×Obj)}{σ:St}{H:Hp}{s:Shared}{a:Addr}(I:Inv X pins σ H s)(d:IsD H a) :
   s.TypeIs (.ref a) "dict" /\ (∀b,Value.ref a=.ref b->∃ob,s.heap.get? b=some ob/\ob.dict=none)/\(a == sysModules)=false:=by
 rcases d with ⟨kvs,e⟩ | ⟨kvs,e⟩
 . obtain⟨_,hd,vs,_,dd⟩:=zlY I.hok e;refine⟨dd.typeIs,λb q=>?_,hd⟩;cases q;obtain⟨ob,_,_,h1,h2,_⟩:=dd;exact⟨ob,h1,h2.2.1⟩
 . obtain⟨_,hd,xs,_,dd⟩:=zlX I.hok e;refine⟨dd.typeIs,λb q=>?_,hd⟩;cases q;obtain⟨ob,_,_,h1,h2,_⟩:=dd;exact⟨ob,h1,h2.2.1⟩
section
variable{X:Cx}{pins:List (Addr×Obj)}{σ:St}{H:Hp}{s:Shared}{a:Addr}{y d:V}{u r:Value}{o:Option V}{A:Around}{E:Value->Shared->Prop}
theorem zun{Q:Value->Shared->Prop}(hu:A.units+1 < cLine)(I:Inv X pins σ H s)(g:DGet H a y o)(ry:RelV y u)(h:∀w' s',Inv X pins σ H s'->RelV (o.getD .non) w'->Q w' s') :
   wpAny (model X.prog X.w) A (call (.builtin "dict.get") [.ref a,u]) Q E s:=by
 rcases g with ⟨kvs,k,e,ey,l⟩ | ⟨kvs,k,b,e,ey,eb,l⟩
 . subst ey;obtain⟨z,hd,vs,rel,dd⟩:=zlY I.hok e;refine ycs ybI dd.typeIs yck (ydy _ _) (meets_dict_get (zaR X.prog X.w) a (ziB ry) hd) ⟨_,dd.mapOf,h _ _ (I.tok _) ?_⟩;rw[l];exact(rel.val k).getD rfl
 . subst ey;cases (show u=Value.ref b from ry);obtain⟨z,hd,xs,rel,dd⟩:=zlX I.hok e;refine ycs ybI dd.typeIs yck (ydy _ _) (meetsH_dict_get (tupleKind (zaR X.prog X.w)) a b hd) ⟨ybX hu,k,xs,ziz I.hok eb,dd,h _ _ (I.tok _) ?_⟩;rw[l];exact(rel.val k).getD rfl
theorem zum{Q:Value->Shared->Prop}(hu:A.units+1 < cLine)(I:Inv X pins σ H s)(g:DGet H a y o)(ry:RelV y u)(rd:RelV d r)(h:∀w' s',Inv X pins σ H s'->RelV (o.getD d) w'->Q w' s') :
   wpAny (model X.prog X.w) A (call (.builtin "dict.get") [.ref a,u,r]) Q E s:=by
 rcases g with ⟨kvs,k,e,ey,l⟩ | ⟨kvs,k,b,e,ey,eb,l⟩
 . subst ey;obtain⟨z,hd,vs,rel,dd⟩:=zlY I.hok e;refine ycs ybI dd.typeIs yck (ydz _ _ _) (meets_dict_get_default (zaR X.prog X.w) a (ziB ry) hd r) ⟨_,dd.mapOf,h _ _ (I.tok _) ?_⟩;rw[l];exact(rel.val k).getD rd
 . subst ey;cases (show u=Value.ref b from ry);obtain⟨z,hd,xs,rel,dd⟩:=zlX I.hok e;refine ycs ybI dd.typeIs yck (ydz _ _ _) (meetsH_dict_get_default (tupleKind (zaR X.prog X.w)) a b hd r) ⟨ybX hu,k,xs,ziz I.hok eb,dd,h _ _ (I.tok _) ?_⟩;rw[l];exact(rel.val k).getD rd
end
def ztx(td ty:TE):TE:=λσ H Q=>td σ H λx H1=>∃a,x=.ref a/\IsD H1 a/\ty σ H1 λy H2=>∃o,DGet H2 a y o/\Q (o.getD .non) H2
def ztw(td ty tx:TE):TE:=λσ H Q=>td σ H λx H1=>∃a,x=.ref a/\IsD H1 a/\ty σ H1 λy H2=>tx σ H2 λz H3=>∃o,DGet H3 a y o/\Q (o.getD z) H3
def ztu(td ty tx:TE):TE:=λσ H Q=>td σ H λx H1=>∃a,x=.ref a/\IsD H1 a/\ty σ H1 λy H2=>tx σ H2 λz H3=>∃kvs k,H3 a=some (.dK kvs)/\y=kV k /\
 (∀v,valV kvs k=some v->Q v (upd H3 a (.dK (zgv kvs k))))/\(valV kvs k=none->Q z H3)
section
variable{X:Cx}{o e f:Expr}{apos cpos:Pos}{td ty tx:TE}
theorem zrm(hu:X.A.units+1 < cLine)(ho:PE X o td)(he:PE X e ty)(m:M1 X o "get" apos e cpos):PE X (.Call (.Attribute o "get" apos) [e] [] cpos) (ztx td ty):=by
 intro pins s σ H Q I h;refine ycP m.base m.few m.line ycg ybI ydY (thn (ho pins s σ H _ I h) λu s1 ⟨x,H1,I1,rx,a,ex,d,q1⟩=>?_);subst ex;obtain rfl:u=Value.ref a:=rx;obtain⟨t1,t2,_⟩:=znW I1 d;refine⟨t1,t2,?_⟩;rw[m.trees];refine ybz rfl (ybN (ybx (thn (he pins s1 σ H1 _ I1 q1) λiv s2 ⟨y,H2,I2,ry,ov,g,q2⟩=>ycv ?_)));exact zun hu I2 g ry λw' s3 I3 rw'=>⟨_,H2,I3,rw',q2⟩
theorem zhM(hu:X.A.units+1 < cLine)(ho:PE X o td)(he:PE X e ty)(hf:PE X f tx)(m:M2 X o "get" apos e f cpos):PE X (.Call (.Attribute o "get" apos) [e,f] [] cpos) (ztw td ty tx):=by
 intro pins s σ H Q I h;refine ycP m.base m.few m.line ycg ybI ydY (thn (ho pins s σ H _ I h) λu s1 ⟨x,H1,I1,rx,a,ex,d,q1⟩=>?_);subst ex;obtain rfl:u=Value.ref a:=rx;obtain⟨t1,t2,_⟩:=znW I1 d;refine⟨t1,t2,?_⟩;rw[m.trees];refine ybz rfl (ybN (ybx (thn (he pins s1 σ H1 _ I1 q1) λiv s2 ⟨y,H2,I2,ry,q2⟩ =>
  ybx (thn (hf pins s2 σ H2 _ I2 q2) λfv s3 ⟨z,H3,I3,rz,ov,g,q3⟩=>ycv ?_))))
 exact zum hu I3 g ry rz λw' s4 I4 rw'=>⟨_,H3,I4,rw',q3⟩
theorem zki(ho:PE X o td)(he:PE X e ty)(hf:PE X f tx)(m:M2 X o "pop" apos e f cpos):PE X (.Call (.Attribute o "pop" apos) [e,f] [] cpos) (ztu td ty tx):=by
 intro pins s σ H Q I h;refine ycP m.base m.few m.line ycg ycW PySem.F.type_dict_pop (thn (ho pins s σ H _ I h) λu s1 ⟨x,H1,I1,rx,a,ex,d,q1⟩=>?_);subst ex;obtain rfl:u=Value.ref a:=rx;obtain⟨t1,t2,_⟩:=znW I1 d;refine⟨t1,t2,?_⟩;rw[m.trees];refine ybz rfl (ybN (ybx (thn (he pins s1 σ H1 _ I1 q1) λiv s2 ⟨y,H2,I2,ry,q2⟩ =>
  ybx (thn (hf pins s2 σ H2 _ I2 q2) λfv s3 ⟨z,H3,I3,rz,kvs,k,ea,ey,q3,q4⟩=>ycv ?_))))
 subst ey;cases l:valV kvs k with
 | some v=>exact zu4 I3 ea ry l (.inr ⟨fv,rfl⟩) λw' s4 I4 rw'=>⟨v,_,I4,rw',q3 v l⟩
 | none=>exact zul I3 ea ry l λs4 I4=>⟨z,H3,I4,rz,q4 l⟩
end
section
variable{X:Cx}{pins:List (Addr×Obj)}{σ:St}{H:Hp}{s:Shared}{a:Addr}{kvs:List (Key×V)}{A:Around}{E:Value->Shared->Prop}
end
section
variable{X:Cx}{pins:List (Addr×Obj)}{σ:St}{H:Hp}{s:Shared}{a:Addr}{y:V}{u:Value}{A:Around}{E:Value->Shared->Prop}
end
end L2
namespace Att
open PySem PySem.W PySem.Calls PyProof.Rows
theorem ziC{P:Params}{h:Heap}:∀(ns:List Int) (vs:List Value),WellAll P h vs (ns.map WData.int)->IntsAre vs ns:=by
 intro ns
 induction ns with
 | nil =>
  intro vs w;rw[ydh]at w;cases w;exact .nil
 | cons n ns ih =>
  intro vs w;rw[yaK]at w;cases w with
  | cons a b =>
   cases a;exact .cons _ _ (ih _ b)
theorem zpz{l:OpenLaw}{n:Nat}(hn:l.most=some n){P:Params}{h:Heap}{args:List WData}{vals:List Value}
  (hpre:l.row.toRowW.claim.pre args=true) (hwl:WellAll P h vals args) :
  ∃a vs ns,vals=[Value.ref a]/\args=[WData.list (ns.map WData.int)]/\h.get? a=some { cls:=.type "list",data:=.seq vs.toArray }/\IntsAre vs ns/\ns.length<=n:=by
 have hsh:WShape.hasAll [] args [.list .int]=true:=(pre_splitW hpre).1;have hc:l.pre.holds [] { args:=args }=true:=(pre_splitW hpre).2;obtain⟨d,r,rfl,h1,h2⟩:=hasAllW_cons hsh;obtain rfl:=hasAllW_nil h2;obtain⟨xs,rfl,h3⟩:=hasW_list h1;obtain⟨ns,rfl⟩:=items_int h3;have hlen:ns.length<=n:=by
  unfold OpenLaw.pre at hc;have h4:(WTm.not (.lt (.lit (.int (n:Int))) (.len (.arg 0)))).holds [] { args:=[.list (ns.map .int)] }=true:=by
   have h4:=(holds_andW hc).1;rw[hn]at h4;exact h4
  have h5:=condW_of h4 (w_not (w_lt w_lit (w_len_list (w_arg rfl))));rw[yaa]at h5;refine yc0 λq=>?_;have q':(n:Int) < ((ns.length:Nat):Int):=by omega
  first
   | (rw[yaz q']at h5;exact absurd h5 (by decide))
   | (simp at h5;omega)
 cases hwl with
 | cons w1 w2 =>
  cases w2;cases w1 with
  | list ho hall=>exact⟨_,_,ns,rfl,rfl,ho,ziC ns _ hall,hlen⟩
theorem zpG(l:OpenLaw)(args:List WData):l.row.toRowW.claim.post args (.bool true) args=true :=
 postW_of (r:=l.row.toRowW) (X:=(true == true))
  (show WShape.has [] (.bool true) .bool=true by first | rfl | decide | simp[WShape.has,WShape.arms,WShape.armsAll])
  (show(WTm.eq .res (.lit (.bool true))).value [] { args:=args,res:=some (.bool true),after:=args }=some (.bool (true == true)) from w_eq_bool (w_res rfl) w_lit) rfl
theorem znb{l:OpenLaw}{n:Nat}{q:Program}{loose:List Str}{XP:(Str->Option Value)->Heap->Prop}{YP:World->Heap->Prop}{d:DefRec}
  (hn:l.most=some n) (hdf:d.params.defaults=[])
  (call:∀(w:World) (s₀ s₁:Shared) (mg mb:Str->Option Value) (fa:Addr) (o:Obj) (pm cd doc:Value) (a:Addr) (vs:List Value) (ns:List Int),
   Ground q loose [] XP w s₀ mg mb s₁.heap->YP w s₁.heap ->
   s₁.heap.get? fa=some o->o.data=.func (docDef d.name d.params d.body d.scope pm cd doc)->s₁.heap.CodeRec cd d.name->mg d.name=some (.ref fa) ->
   s₁.heap.get? a=some { cls:=.type "list",data:=.seq vs.toArray }->IntsAre vs ns->ns.length<=n->s₁.gens=#[] ->
   codeAny (model l.prog w) callerA (.call (.ref fa) ⟨[.ref a],[]⟩) (λr s'=>r=.ok (.ret (.bool true))/\OldK s₁.heap s'.heap/\s'.os=s₁.os/\AllBare s'.gens) s₁) :
  WalkO q loose XP YP l.row.toRowW d [] (λf vs=>PySem.call f vs):=by
 intro w s₀ s₁ mg mb G Y fa o pm cd doc dV kV ho hd hcd hD hmg hg args vals as hpre hlay hrd hwl hlo;obtain rfl:dV=.none:=Dflts.none hD hdf;obtain rfl:kV=.none:=Dflts.noKw hD;obtain⟨a,vs,ns,rfl,rfl,hobj,hints,hlen⟩:=zpz hn hpre hwl;refine enter_call (ycD (call w s₀ s₁ mg mb fa o pm cd doc a vs ns G Y ho (fd_plain hd) hcd hmg hobj hints hlen hg) λr s' hq=>?_);obtain⟨rfl,h2,h3,h4⟩:=hq;exact⟨.inl ⟨.bool true,.bool true,[],rfl,λ_=>rfl,.bool true,zpG l _,λ_=>⟨List.Pairwise.nil,λ_ hm=>(nomatch hm)⟩⟩,h2,h3,h4⟩
section
variable{prog:Program}{w:World}{A:Around}{E:Value->Shared->Prop}{s:Shared}{K:Frag}
end
end Att
namespace L2
open PySem PySem.Spec PyProof.Rows
theorem zkZ:∀{vs:List Value} {ns:List Int},IntsAre vs ns->Vals (ns.map V.int) vs
 | _,_,.nil=>.nil
 | _,_,.cons n t h=>.cons ⟨t,rfl⟩ (zkZ h)
def Only(H:Hp):Prop:=∀b,H b=none\/∃o xs,H b=some (.frz o (.lst xs))
theorem zrx{P:Program}{w:World}{K:PySem.W.Frag}{mg mb:Str->Option Value}{CX:CXT}{k:Nat}{fa a:Addr}{fd:FuncData}{x:Str}{sp:Sp}{s₁:Shared}{vs:List Value}{ns:List Int}
  (KX:K.In s₁.heap) (hns:s₁.heap.Ns mainGlobals mg) (hb:s₁.heap.Ns builtinsNs mb) (hbb:∀x:Str,x ≠ "__name__" -> mb x=bootBuiltins x) (hlim:s₁.heap.NoLimit) (hg:s₁.gens=#[])
  (ha:s₁.heap.get? a=some { cls:=.type "list",data:=.seq vs.toArray }) (hi:IntsAre vs ns) (hl:ns.length<=sizeLine) (hr:Room k callerA)
  (F:∀base:Heap,K.In base->base.Ns mainGlobals mg->FnOk P w K mg base CX k fa fd [x] sp) (hbind:∀(s:Shared) (u:Value),BindsTo s fd ⟨[u],[]⟩ [(x,u)])
  (hsp:∀H:Hp,Only H->SqL K H a (ns.map V.int)->sp [.ref a] H (λv _=>v=.bl true) λ_ _ _=>False)
  (hCX:∀H e s',CX [] H s₁ (λ_ _ _=>False) e s'->False) :
  codeAny (model P w) callerA (.call (.ref fa) ⟨[.ref a],[]⟩) (λr s'=>r=.ok (.ret (.bool true))/\OldK s₁.heap s'.heap/\s'.os=s₁.os/\AllBare s'.gens) s₁:=by
 have rv:=zkZ hi;have lenV:=hi.length;have core:∀H:Hp,Only H->SqL K H a (ns.map V.int)->HOk P w H s₁.heap->(∀b,H b≠none->b=a)->(H a≠none->K.lookup a=none) ->
    codeAny (model P w) callerA (.call (.ref fa) ⟨[.ref a],[]⟩) (λr s'=>r=.ok (.ret (.bool true))/\OldK s₁.heap s'.heap/\s'.os=s₁.os/\AllBare s'.gens) s₁:=by
  intro H hO hS hok hA hK;have base_of:∀{b:Addr} {o:Obj},s₁.heap.get? b=some o->H b=none->(hidT s₁.heap H).get? b=some o:=λe n=>zrA e n;have noA:∀{b:Addr} {o:Obj} {es:Array DictEntry} {ep:Nat},s₁.heap.get? b=some o->o.data=.dict es ep->H b=none:=λ{b o es ep} e d=>by
    cases q:H b with
    | none=>rfl
    | some u =>
      have e':b=a:=hA b (by rw[q];simp);subst e';rw[ha]at e;cases e;have d':Data.seq vs.toArray _=Data.dict es ep:=d;cases d'
  have nsK:∀{b:Addr} {m:Str->Option Value},s₁.heap.Ns b m->(hidT s₁.heap H).Ns b m:=λ{b m} ⟨o,es,ep,e,d,r⟩=>⟨o,es,ep,base_of e (noA e d),d,r⟩
  have hKb:K.In (hidT s₁.heap H):=λb o e=>base_of (KX b o e) (by
    cases q:H b with
    | none=>rfl
    | some u =>
      have e':b=a:=hA b (by rw[q];simp);subst e';rw[hK (by rw[q];simp)]at e;cases e)
  have hM:Mod K mg (hidT s₁.heap H):=⟨hKb,nsK hns,⟨mb,nsK hb,hbb⟩,let ⟨mc,h1,h2⟩:=hlim;⟨mc,nsK h1,h2⟩⟩
  have e0:Env0 P w K mg (hidT s₁.heap H) callerA [] s₁ H:=⟨rfl,hM,λb o e=>zsT e,yd8 (zqj _ _),trivial,λb hb=>absurd (show b∈([]:List Addr) from hb) (by simp),hok,.of_eq hg⟩
  refine ycD ((F _ hKb (nsK hns)).run callerA [] s₁ H ⟨[.ref a],[]⟩ [.ref a] [.ref a] _ _ hr e0 (hbind s₁ (.ref a)) (.cons rfl .nil) (hsp H hO hS)) λr s' h=>?_;cases r with
  | error e=>exact(hCX H e s' h).elim
  | ok fl =>
    cases fl with
    | next=>exact False.elim h
    | brk=>exact False.elim h
    | cont=>exact False.elim h
    | ret u =>
      obtain⟨v,H',os,bare,un,hok',r',q⟩:=h;have q':v=.bl true:=q;subst q';obtain rfl:u=Value.bool true:=r';refine⟨rfl,OldK.of_keep λb o e=>?_,os,bare⟩;cases q:H b with
      | none=>exact un.keep b o e q (by intro z;exact absurd (show b∈([]:List Addr) from z) (by simp)) (by simp)
      | some u =>
       rcases hO b with z | ⟨ob,xs,z⟩
       . rw[q]at z;cases z
       . have z2:=un.frzs b ob _ z;obtain⟨e1,_⟩:=hok b _ z;obtain⟨e2,_⟩:=hok' b _ z2;rw[e]at e1;cases e1;exact e2
 cases hk:K.lookup a with
 | some o =>
  have e:=KX a o hk;rw[ha]at e;cases e;refine core (λ_=>none) (λ_=>.inl rfl) (.inr ⟨_,vs.toArray,_,hk,rfl,rfl,rfl,by rw[yaB,lenV];exact hl,by simpa using rv⟩) (λb u z=>by have z':(none:Option HO)=some u:=z;cases z') (λb z=>absurd rfl z) λz=>absurd rfl z
 | none =>
  refine core (λb=>if b=a then some (.frz { cls:=.type "list",data:=.seq vs.toArray } (.lst (ns.map V.int))) else none) (λb=>?_) (.inl (.inr ⟨{ cls:=.type "list",data:=.seq vs.toArray },yaj rfl⟩)) (λb u z=>?_) (λb z=>?_) λ_=>hk
  . by_cases hb:b=a
    . exact .inr ⟨_,_,yaj hb⟩
    . exact .inl (yai hb)
  . by_cases hb:b=a
    . have z':=(yaj hb).symm.trans z;cases z';subst hb;exact⟨ha,by rw[yaa];exact hl,vs,_,rv,ha⟩
    . have z':=(yai hb).symm.trans z;cases z'
  . by_cases hb:b=a
    . exact hb
    . exact absurd (yai hb) z
end L2
namespace L2
open PySem PySem.Spec PyProof.Rows
end L2
namespace L2
open PySem PySem.Spec PyProof.Rows
def inClass(s:Stmt)(j:Nat):Stmt:=match s with
 | .ClassDef _ _ _ body _ _ _ _ _ _ _=>body.getD j (.Pass ⟨0,0,0,0⟩)
 | _=>.Pass ⟨0,0,0,0⟩
def zkG(s:Stmt):Arguments:=match s with
 | .FunctionDef _ a _ _ _ _ _ _ _ _=>a
 | _=>{ posonlyargs:=[],args:=[],vararg:=none,kwonlyargs:=[],kw_defaults:=[],kwarg:=none,defaults:=[] }
def ziK(s:Stmt):List Stmt:=match s with
 | .FunctionDef _ _ b _ _ _ _ _ _ _=>b
 | _=>[]
def zan(s:Stmt):Scope:=match s with
 | .FunctionDef _ _ _ _ _ _ sc _ _ _=>sc
 | _=>{ kind:=.function,names:=[],isGenerator:=false,isCoroutine:=false }
structure Fun(K:PySem.W.Frag)(x qual:Str)(st:Stmt)(f:Addr)(fd:FuncData):Prop where
 ex:∃(oc:Value) (od:Option Addr) (kV doc pm:Value) (an:Option Addr) (cdv ct:Value) (osl:Array (Option Value)),
  fd=PySem.W.fnOf x qual (zkG st) (ziK st) (zan st) .none kV doc pm an cdv ct/\K.lookup f=some ⟨oc,od,.func fd,osl⟩/\PySem.W.codeIn K cdv qual=true
 kp:PySem.W.keepIn K (.ref f)=true
section
variable{P:Program}{w:World}{K:PySem.W.Frag}{mg:Str->Option Value}{base:Heap}
theorem Fun.binds{x qual:Str}{st:Stmt}{f:Addr}{fd:FuncData}{ps:List Str}(F:Fun K x qual st f fd)
  (h:∀(kV doc pm:Value) (an:Option Addr) (cdv ct:Value) (us:List Value),us.length=ps.length->bindArgs (PySem.W.fnOf x qual (zkG st) (ziK st) (zan st) .none kV doc pm an cdv ct) ⟨us,[]⟩=pure (ps.zip us)):Binds K fd ps []:=by
 obtain⟨oc,od,kV,doc,pm,an,cdv,ct,osl,rfl,lk,hcd⟩:=F.ex;exact .all (h kV doc pm an cdv ct)
end
theorem zdT{A:Around}{k:Nat}(hr:Room k A):A.units+1 < cLine:=Nat.lt_of_le_of_lt (Nat.add_le_add_left (by decide:1<=64) _) hr.units
section
variable{X:Cx}
theorem pv(i:Nat){x:Str}{pos:Pos}(hN:X.N[i]?=some x:=by rfl)(hv:Vis X.env.scope x:=by first | exact Or.inl rfl | exact Or.inr (Or.inl rfl) | exact Or.inr (Or.inr rfl))(hd:(x == ("__debug__" : Str))=false:=by decide)
 (hcd:(x == ("__classdict__" : Str))=false:=by decide):PE X (.Name x pos) (tVar i):=ztW hN hv hd hcd
end
theorem iteF{A B:Prop}(h:B):if false=true then A else B:=by
 rw[yai yam];exact h
theorem iteT{A B:Prop}(h:A):if true=true then A else B:=by
 rw[yaj rfl];exact h
def Same(H H':Hp):Prop:=∀b o,H b=some o->H' b=some o
theorem Same.refl(H:Hp):Same H H:=λ_ _ h=>h
theorem Same.trans{H H1 H2:Hp}(a:Same H H1)(b:Same H1 H2):Same H H2:=λc o h=>b c o (a c o h)
theorem Same.free{H H':Hp}(e:Same H H'){l:Addr}(h:H' l=Option.none):H l=Option.none:=by
 cases q:H l with
 | none=>rfl
 | some o =>
  rw[e l o q]at h;cases h
theorem Same.seq{K:PySem.W.Frag}{H H':Hp}{a:Addr}{xs:List V}(e:Same H H')(h:SqL K H a xs):SqL K H' a xs:=by
 rcases h with (h | ⟨o,h⟩) | h
 . exact .inl (.inl (e _ _ h))
 . exact .inl (.inr ⟨o,e _ _ h⟩)
 . exact .inr h
section
variable{κ:Type}[DecidableEq κ]
end
end L2
end
section
namespace L2
open PySem PySem.Spec PyProof.Rows
abbrev NoX:Value->Shared->Prop:=λ_ _=>False
def zqV(M:Model)(A:Around)(ifs:List Expr)(env:Env)(tst:(Bool->Shared->Prop)->Shared->Prop):Prop :=
 (ifs=[]/\∀Q s,tst Q s->Q true s)\/∃c,ifs=[c]/\∀Q s,tst Q s->wpAny M A (isTrue c env (eval c env)) Q NoX s
def zuy(M:Model)(A:Around)(target elt:Expr)(env:Env)(it acc v:Value)(tst:(Bool->Shared->Prop)->Shared->Prop)(Nx:Shared->Prop)(s1:Shared):Prop :=
 wpAny M A (letOwnedTupleGo target it v) (λ_ s2=>wpAny M A (assign target env v) (λ_ s3=>tst (λok s4 =>
  if ok=true then wpAny M A (eval elt env) (λx s5=>wpAny M A (call (.builtin "list.append") [acc,x]) (λ_ s6=>Nx s6) NoX s5) NoX s4 else Nx s4) s3) NoX s2) NoX s1
theorem nox{α:Type}{M:Model}{A:Around}{t:Sem α}{Q Q':α->Shared->Prop}{E:Value->Shared->Prop}{s:Shared}(h:wpAny M A t Q NoX s)(k:∀a s',Q a s'->Q' a s'):wpAny M A t Q' E s:=ybk h k λ_ _ z=>z.elim
theorem zl1{prog:Program}{w:World}{A:Around}{R:Result->Shared->Prop}{s:Shared}{elt target iter:Expr}{ifs:List Expr}{scope:Scope}{pos:Pos}{it acc:Value}{env:Env}{tst:(Bool->Shared->Prop)->Shared->Prop}
   (ht:zqV (model prog w) A ifs env tst) (I:Nat->Shared->Prop)
   (go:∀n s,I n s->wpAny (model prog w) A (pyNext it) (λr s1=>(r=none/\R (.ok .next) s1)\/∃v,r=some v/\zuy (model prog w) A target elt env it acc v tst (λs2=>∃m,m < n/\I m s2) s1) NoX s)
   (n:Nat) (h:I n s):codeAny (model prog w) A (.compLoop (.ListComp elt [⟨target,iter,ifs,0⟩] scope pos) 0 it acc env) R s:=by
 rcases ht with ⟨rfl,ht⟩ | ⟨c,rfl,ht⟩
 . refine PySem.W.kcp_loop I (λm s' hI=>nox (go m s' hI) λr s1 q=>?_) n h;rcases q with ⟨rfl,q⟩ | ⟨v,rfl,q⟩
   . exact q
   . exact nox q λ_ s2 q2=>nox q2 λ_ s3 q3=>by
      have q4:=ht _ _ q3;rw[yaj rfl]at q4;exact nox q4 λx s5 q5=>nox q5 λ_ _ q6=>q6
 . refine PySem.W.kct_loop I (λm s' hI=>nox (go m s' hI) λr s1 q=>?_) n h;rcases q with ⟨rfl,q⟩ | ⟨v,rfl,q⟩
   . exact q
   . exact nox q λ_ s2 q2=>nox q2 λ_ s3 q3=>nox (ht _ _ q3) λok s4 q4=>by
      cases ok with
      | false=>rw[yai yam]at q4 ⊢;exact q4
      | true=>rw[yaj rfl]at q4 ⊢;exact nox q4 λx s5 q5=>nox q5 λ_ _ q6=>q6
def zen(cells:List (Str×Addr))(cs:List (Str×Addr))(y:Str×NameKind):List (Str×Addr) :=
 if y.2 == .free then match cells.lookup y.1 with | some a=>(y.1,a)::cs | none=>cs else cs
def clOf(scope:Scope)(cells:List (Str×Addr)):List (Str×Addr):=scope.names.foldl (zen cells) []
theorem zjU{env:Env}:∀(l:List (Str×NameKind)) (cs:List (Str×Addr)),(∀y∈l,y.2=.free->∃a,env.cells.lookup y.1=some a) ->
  (forIn l cs (λ(y:Str×NameKind) (cs:List (Str×Addr))=>if (y.2 == NameKind.free)=true then do let a <-cellOf env y.1;pure (ForInStep.yield ((y.1,a)::cs)) else pure (ForInStep.yield cs)):Sem (List (Str×Addr)))=pure (l.foldl (zen env.cells) cs)
 | [],cs,_=>rfl
 | y::r,cs,h=>by
  rw[List.forIn_cons];have ih:=λcs'=>zjU r cs' λz hz=>h z (yad _ hz);by_cases hk:y.2=.free
  . obtain⟨a,ha⟩:=h y yac hk;have e1:zen env.cells cs y=(y.1,a)::cs:=by unfold zen;rw[hk,ha];rfl
    rw[ybd,e1,<-ih];have e2:cellOf env y.1=pure a:=by unfold cellOf;rw[ha]
    simp only[hk,ydE,yb2,e2]
    rfl
  . have hb:(y.2 == NameKind.free)=false:=by simpa using hk
    have e1:zen env.cells cs y=cs:=by unfold zen;rw[hb];rfl
    rw[ybd,e1,<-ih];simp only[hb,yaX,ybV]
    rfl
theorem zjV{scope:Scope}{env:Env}(h:∀y∈scope.names,y.2=.free->∃a,env.cells.lookup y.1=some a):closureFor scope env=pure (clOf scope env.cells):=by
 have:=zjU scope.names [] h;unfold clOf;rw[<-this];unfold closureFor
 first
  | rfl
  | simp only[bind_pure]
theorem zhR{cells:List (Str×Addr)}{x:Str}{c:Addr}:∀(l:List (Str×NameKind)) (cs:List (Str×Addr)),(∀c,cs.lookup x=some c->cells.lookup x=some c)->(l.foldl (zen cells) cs).lookup x=some c->cells.lookup x=some c
 | [],cs,h,q=>h c q
 | y::r,cs,h,q=>by
  rw[ybd]at q;refine zhR r _ (λc' q'=>?_) q;unfold zen at q';by_cases hk:(y.2 == NameKind.free)=true
  . rw[yaj hk]at q';cases e:cells.lookup y.1 with
    | none=>rw[e]at q';exact h c' q'
    | some a =>
     rw[e]at q';rw[ybM]at q';by_cases hx:x == y.1
     . rw[hx]at q';have:x=y.1:=by simpa using hx
       rw[this,e];exact q'
     . have hx':(x == y.1)=false:=by simpa using hx
       rw[hx']at q';exact h c' q'
  . rw[yai hk]at q';exact h c' q'
theorem zkH{cells:List (Str×Addr)}{x:Str}:∀(l:List (Str×NameKind)) (cs:List (Str×Addr)),((∃c,cs.lookup x=some c)\/((x,NameKind.free)∈l/\∃c,cells.lookup x=some c))->∃c,(l.foldl (zen cells) cs).lookup x=some c
 | [],cs,h=>by
  rcases h with h | ⟨h,_⟩
  . exact h
  . cases h
 | y::r,cs,h=>by
  rw[ybd];refine zkH r _ ?_;have mono:(∃c,cs.lookup x=some c)->∃c,(zen cells cs y).lookup x=some c:=λ⟨c,hc⟩=>by
    unfold zen;by_cases hk:(y.2 == NameKind.free)=true
    . rw[yaj hk];cases e:cells.lookup y.1 with
      | none=>exact⟨c,hc⟩
      | some a =>
       show ∃c,List.lookup x ((y.1,a)::cs)=some c;rw[ybM];by_cases hx:(x == y.1)=true
       . rw[hx];exact⟨a,rfl⟩
       . have hx':(x == y.1)=false:=by simpa using hx
         rw[hx'];exact⟨c,hc⟩
    . rw[yai hk];exact⟨c,hc⟩
  rcases h with h | ⟨h1,c,h2⟩
  . exact .inl (mono h)
  . rcases yat.mp h1 with z | z
    . refine .inl ⟨c,?_⟩;rw[<-z];unfold zen;show List.lookup x (if (NameKind.free == NameKind.free)=true then (match cells.lookup x with | some a=>(x,a)::cs | none=>cs) else cs)=some c;rw[yaj (show(NameKind.free == NameKind.free)=true from rfl),h2];show List.lookup x ((x,c)::cs)=some c;rw[ybM];simp
    . exact .inr ⟨z,c,h2⟩
theorem zfl{scope:Scope}{env:Env}{x:Str}{k:NameKind}(h:(relabel scope env).names.lookup x=some k):scope.names.lookup x=some k\/(k=.cell/\scope.names.lookup x=some .free):=by
 unfold relabel at h;dsimp only at h;generalize scope.names=l at h ⊢
 induction l with
 | nil=>cases h
 | cons y r ih =>
  obtain⟨n,kk⟩:=y;rw[yaK,ybM]at h;rw[ybM];dsimp only at h;by_cases hc:(kk == NameKind.free && env.scope.kind == .function && env.kindOf n == some .cell)=true
  . rw[yaj hc]at h;by_cases hx:(x == n)=true
    . dsimp only at h;rw[hx]at h ⊢;simp only[ybc,yb6]at hc;exact .inr ⟨(yaL h).symm,by rw[hc.1.1]⟩
    . have hx':(x == n)=false:=by simpa using hx
      dsimp only at h;rw[hx']at h ⊢;exact ih h
  . rw[yai hc]at h;by_cases hx:(x == n)=true
    . dsimp only at h;rw[hx]at h ⊢;exact .inl h
    . have hx':(x == n)=false:=by simpa using hx
      dsimp only at h;rw[hx']at h ⊢;exact ih h
theorem zll{scope:Scope}{env:Env}{x:Str}(h:scope.names.lookup x=some .free):(relabel scope env).names.lookup x=some .cell\/(relabel scope env).names.lookup x=some .free:=by
 unfold relabel;dsimp only;generalize scope.names=l at h ⊢
 induction l with
 | nil=>cases h
 | cons y r ih =>
  obtain⟨n,kk⟩:=y;rw[yaK,ybM];rw[ybM]at h;dsimp only;by_cases hx:(x == n)=true
  . rw[hx]at h;have hk:kk=.free:=yaL h;by_cases hc:(kk == NameKind.free && env.scope.kind == .function && env.kindOf n == some .cell)=true
    . rw[if_pos hc];dsimp only;rw[hx];exact .inl rfl
    . rw[if_neg hc];dsimp only;rw[hx,hk];exact .inr rfl
  . have hx':(x == n)=false:=by simpa using hx
    rw[hx']at h;by_cases hc:(kk == NameKind.free && env.scope.kind == .function && env.kindOf n == some .cell)=true
    . rw[if_pos hc];dsimp only;rw[hx'];exact ih h
    . rw[if_neg hc];dsimp only;rw[hx'];exact ih h
def cxB(X:Cx)(Nc:List Str)(scope:Scope)(C:Addr)(fp:List Addr)(s:Shared)(H:Hp):Cx where
 prog:=X.prog
 w:=X.w
 K:=X.K
 mg:=X.mg
 base:=X.base
 A:=X.A
 N:=Nc
 s₀:=s
 H₀:=H
 env:=compEnvC scope (clOf scope X.env.cells) C X.env
 outer:=X.stack
 stack:=X.stack
 ex:=fp
 fn:=λ_=>false
 calm:=true
 pn:=[]
 xe:=λ_ _=>False
structure Blk(X:Cx)(scope:Scope)(own:Nat)(ix:List Nat)(Nc:List Str):Prop where
 kind:scope.kind=.function
 zrY:∀y∈scope.names,y.2≠.cell
 names:∀y∈scope.names,y.2=.local->scope.names.lookup y.1=some .local
 free:∀y∈scope.names,y.2=.free->X.env.kindOf y.1=some .cell\/X.env.kindOf y.1=some .free
 nd:Nc.Nodup
 len:Nc.length=own+ix.length
 cap:∀(i j:Nat) (x:Str),Nc[own+i]?=some x->ix[i]?=some j->X.N[j]?=some x/\scope.names.lookup x=some .free/\(X.env.kindOf x=some .cell\/X.env.kindOf x=some .free)
def zdo(own:Nat)(ix:List Nat)(σ:St):St:=List.replicate own none++ix.map λj=>(σ[j]?).join
section
variable{X:Cx}{pins:List (Addr×Obj)}{σ:St}{H H':Hp}{s:Shared}{scope:Scope}{own:Nat}{ix:List Nat}{Nc:List Str}{C D:Addr}{fp:List Addr}
theorem Inv.blk{h1:Heap}{t1:Nat}{m1:Str->Option Value}(I:Inv X pins σ H s)(hc:X.calm=true)(B:Blk X scope own ix Nc)(hf:∀b∈fp,FpOk X pins H b)(hfo:∀b∈fp,∃o,s.heap.get? b=some o)
   (hn:h1.Ns C m1) (k:∀b u,s.heap.get? b=some u->h1.get? b=some u) (hC:s.heap.objs.size<=C):Inv (cxB X Nc scope C fp s H) [] (zdo own ix σ) H { s with heap:=h1,toks:=t1 }:=by
 have snd:∀x c,(clOf scope X.env.cells).lookup x=some c->X.env.cells.lookup x=some c:=λx c e=>zhR scope.names [] (λ_ z=>by cases z) e;have lt:∀b∈fp,b < s.heap.objs.size:=λb hb=>by obtain⟨o,e⟩:=hfo b hb;exact yau e
 refine⟨⟨I.ok.mod,B.kind,I.ok.glob,I.ok.blt,hC,λx y c e1 e2=>I.ok.inj x y c (snd x c e1) (snd y c e2),λx hx=>?_,λx c e=>(by cases e),λ_=>I.ok.hd hc,I.ok.frames,.inl rfl,λb hb=>⟨?_,λx c e=>?_⟩,I.bs,yaA I.ok.bsz I.sz,λb o e hb=>?_,λb hb hb2=>?_,I.stack,I.zhW⟩,
   rfl,I.bare,Un.kept k,⟨m1,hn,λi x v e1 e2 e3=>?_⟩,λx c e=>?_,I.hok.fresh hC,λx c e=>I.zew x c (snd x c e),λp hp=>(by cases hp),I.hok.kept k,?_⟩
 . have hx':(relabel scope X.env).names.lookup x=some .cell\/(relabel scope X.env).names.lookup x=some .free:=hx;have hfr:scope.names.lookup x=some .free:=by
     rcases hx' with z | z
     . rcases zfl z with q | ⟨_,q⟩
       . exact absurd rfl (B.zrY _ (ybr q))
       . exact q
     . rcases zfl z with q | ⟨q,_⟩
       . exact q
       . cases q
   have hm:=ybr hfr;exact zkH scope.names [] (.inr ⟨hm,I.ok.has x (B.free _ hm rfl)⟩)
 . exact yaI (yaH (lt b hb) hC)
 . exact(hf b hb).2.2.2.2.1 x c (snd x c e)
 . rcases(hf b hb).2.2.2.1 with z | z
   . exact I.ok.noex b o e z
   . exact absurd (yaH (yau (I.ok.bs b o e).1) z) (ybb _)
 . obtain⟨_,f1,f2,_⟩:=hf b hb;rcases yat.mp (I.znz b hb2) with z | z
   . exact f1 z
   . exact f2 z
 . have hlt:¬i < own:=λhi=>by
     have e2':(zdo own ix σ)[i]?=some (some v):=e2;unfold zdo at e2';rw[ybC (by simpa using hi),ydw]at e2';rw[yaj hi]at e2';cases e2'
   obtain⟨j,rfl⟩:∃j,i=own+j:=⟨i - own,by omega⟩
   have e2':(zdo own ix σ)[own+j]?=some (some v):=e2;unfold zdo at e2';rw[ybT (by simp),ycV,Nat.add_sub_cancel_left,yak]at e2';cases hj:ix[j]? with
   | none=>rw[hj]at e2';cases e2'
   | some q =>
     rw[hj]at e2';have e4:(σ[q]?).join=some v:=yaL e2';have e5:σ[q]?=some (some v):=by
       cases hq:σ[q]? with
       | none=>rw[hq]at e4;cases e4
       | some o=>rw[hq]at e4;exact yaZ some e4
     obtain⟨g1,g2,g3⟩:=B.cap j q x e1 hj;obtain⟨m,hm,hl⟩:=I.loc;obtain⟨u,ru,lk⟩:=hl q x v g1 e5 (g3.elim (λz=>.inr (.inl z)) λz=>.inr (.inr z));refine⟨u,ru,.inr ⟨zll g2,?_⟩⟩;rcases lk with ⟨z,_⟩ | ⟨_,c,ec,o,ho,hd⟩
     . rcases g3 with y | y<;>rw[z]at y<;>cases y
     . obtain⟨c',ec'⟩:=zkH (cells:=X.env.cells) scope.names [] (.inr ⟨ybr g2,c,ec⟩);have:c'=c:=yaL ((snd x c' ec').symm.trans ec);subst this;exact⟨c',ec',o,k _ _ ho,hd⟩
 . obtain⟨v,o,ho,hd⟩:=I.cell x c (snd x c e);exact⟨v,o,k _ _ ho,hd⟩
 . show(List.replicate own none++ix.map λj=>(σ[j]?).join).length=Nc.length;rw[yah,ycV,yaa,B.len]
abbrev lstO(its:List Value):Obj:=LCg.lst its
theorem Inv.zup{s':Shared}{pins':List (Addr×Obj)}{σ':St}{ys:List V}{its:List Value}(I:Inv X pins σ H s)(hf:∀b∈fp,FpOk X pins H b)
   (J:Inv (cxB X Nc scope C fp s H) pins' σ' H' s') (hD:s.heap.objs.size<=D) (hDo:s'.heap.get? D=some (lstO its)) (hDn:H' D=none) (r:Vals ys its) (hz:ys.length<=sizeLine) :
   Inv X pins σ (upd H' D (.lst ys)) s':=by
 have old:∀b o,s.heap.get? b=some o->b≠D:=λb o e=>yaI (yaH (yau e) hD);have trd:∀b u,H b=some u->b≠D:=λb u e=>yaI (yaH (I.hok.lt e) hD);refine I.ztb (ch:=fp) J.os ⟨λb o q n hb hx=>J.base.keep b o q n hb hx,λb o q n hb hx=>J.base.slot b o q n hb hx,λb o q n hx=>?_,λb o q hx=>J.base.there b o q hx,λb xs q=>?_,λb o u q=>?_,λb ps q=>?_⟩ (λb u e=>?_) J.bare λb hb=>?_
 . rw[zag (old b o q)];exact J.base.free b o q n hx
 . rw[zag (trd b _ q)];exact J.base.tups b xs q
 . rw[zag (trd b _ q)];exact J.base.frzs b o u q
 . obtain⟨more,e⟩:=J.base.tbls b ps q;exact⟨more,by rw[zag (trd b _ q)];exact e⟩
 . by_cases hb:b=D
   . subst hb;rw[zab]at e;cases e;exact⟨hz,its,its.length,r,hDo⟩
   . rw[zag hb]at e;exact(J.hok b u e).stay (λ_ _ _ q=>q) (λc q=>by rw[zag (zah q hDn)];exact q) λc xs q=>by rw[zag (zah q hDn)];exact q
 . obtain⟨_,f1,_,f3,f4,f5⟩:=hf b hb;exact⟨f3,f1,f4,f5⟩
end
def ztq:TT:=λ_ H Q=>Q true H
def PTs(X:Cx)(ifs:List Expr)(t:TT):Prop:=(ifs=[]/\t=ztq)\/∃c,ifs=[c]/\PT X c t
theorem zic{X:Cx}:PTs X [] ztq:=.inl ⟨rfl,rfl⟩
theorem zfM{X:Cx}{c:Expr}{t:TT}(h:PT X c t):PTs X [c] t:=.inr ⟨c,rfl,h⟩
def zuA(X:Cx)(t:TT)(Q:Bool->Shared->Prop)(s:Shared):Prop :=
 ∃pins σ H Qa,Inv X pins σ H s/\t σ H Qa/\∀b H' s',Inv X pins σ H' s'->Qa b H'->Q b s'
theorem PTs.by{X:Cx}{ifs:List Expr}{t:TT}(h:PTs X ifs t)(hx:X.xe=NoX):zqV (model X.prog X.w) X.A ifs X.env (zuA X t):=by
 rcases h with ⟨rfl,rfl⟩ | ⟨c,rfl,h⟩
 . exact .inl ⟨rfl,λQ s ⟨pins,σ,H,Qa,I,q,k⟩=>k true H s I q⟩
 . refine .inr ⟨c,rfl,λQ s ⟨pins,σ,H,Qa,I,q,k⟩=>?_⟩;have:=h pins s σ H _ I q;rw[hx]at this;exact thn this λb s' ⟨H',I',z⟩=>k b H' s' I' z
def zju(J:It)(g:TG)(tt:TT)(te:TE)(σ₀:St)(H:Hp)(Fin:List V->Hp->Prop):Prop :=
 ∃W:Nat->Nat->List V->St->Hp->Prop,(∃m,W 0 m [] σ₀ H)/\∀i m ys σ H,W i m ys σ H ->
  (J.stop i H/\Fin ys H)\/(J.go i H/\ys.length < sizeLine/\∀x H',J.yld i H x H'->g x σ H' λσ2 H2=>tt σ2 H2 λb H3 =>
   if b=true then te σ2 H3 λy H4=>∃m',m' < m/\W (i+1) m' (ys++[y]) σ2 H4 else ∃m',m' < m/\W (i+1) m' ys σ2 H3)
section
variable{X:Cx}{scope:Scope}{own:Nat}{ix:List Nat}{Nc:List Str}{target iter elt:Expr}{ifs:List Expr}{pos:Pos}{wi:TI}{g:TG}{tt:TT}{te:TE}
theorem zjT{pins:List (Addr×Obj)}{σ:St}{H2:Hp}{s2:Shared}{it:Addr}{fp:List Addr}{tn:Nat->Heap->Prop}{J:It}{Fin:List V->Hp->Prop}{E:Value->Shared->Prop}{RR:Value->Addr->Result->Shared->Prop}
  (hc:X.calm=true) (B:Blk X scope own ix Nc) (I2:Inv X pins σ H2 s2) (T:Turn X.prog X.w X.K target J fp it tn) (st:tn 0 s2.heap) (hf:∀b∈fp,FpOk X pins H2 b)
  (hg:∀C,PG (cxB X Nc scope C fp s2 H2) target g) (ht:∀C,PTs (cxB X Nc scope C fp s2 H2) ifs tt) (he:∀C,PE (cxB X Nc scope C fp s2 H2) elt te)
  (hw:zju J g tt te (zdo own ix σ) H2 Fin)
  (hRR:∀D C s' ys H' m',Inv X pins σ (upd H' D (.lst ys)) s'->H' D=none->Fin ys H'->s'.heap.Ns C m'->H' C=none->D≠C->s2.heap.objs.size<=C->RR (.ref D) C (.ok .next) s') :
  wpAny (model X.prog X.w) X.A (newList []) (λacc s₃=>wpAny (model X.prog X.w) X.A (newFunctionEnv scope X.env.globals (clOf scope X.env.cells) [] X.env.qual none .none (some X.env)) (λcenv s₄ =>
    codeAny (model X.prog X.w) X.A (.compStart (.ListComp elt [⟨target,iter,ifs,0⟩] scope pos) 0 (.ref it) acc { cenv with scope:=relabel scope X.env }) (RR acc cenv.locals) s₄) E s₃) E s2:=by
 refine ybs (wpAny_newFunctionEnv B.zrY (by intro y hy;simp at hy) (λh₁ hns₁ hsb₁=>?_) B.kind);dsimp only at hns₁ hsb₁ ⊢;generalize hH2:s2.heap.push { cls:=.type "list",dict:=none,data:=.seq ([]:List Value).toArray }=G2 at hns₁ hsb₁ ⊢;have hC:G2.objs.size=s2.heap.objs.size+1:=by rw[<-hH2,ydj]
 have hDC:s2.heap.objs.size≠G2.objs.size:=by rw[hC];exact yaI (yc2 _)
 have hCle:s2.heap.objs.size<=G2.objs.size:=by rw[hC];exact ycM _
 have below:∀b,b < s2.heap.objs.size->b≠G2.objs.size/\b≠s2.heap.objs.size:=λb hb=>⟨by rw[hC];exact yaI (Nat.lt_succ_of_lt hb),yaI hb⟩
 have old:∀b o,s2.heap.get? b=some o->h₁.get? b=some o:=λb o e=>hsb₁.extBut b o (below b (yau e)).1 (yae _ (hH2▸yae _ e));have hacc:h₁.get? s2.heap.objs.size=some (lstO []):=hsb₁.extBut _ _ hDC (yae _ (hH2▸yaC _ rfl));have hfo:∀b∈fp,∃o,s2.heap.get? b=some o:=λb hb=>let ⟨o,e,_⟩:=T.obj 0 _ st b hb;⟨o,e⟩;have flt:∀b∈fp,b < s2.heap.objs.size:=λb hb=>let ⟨o,e⟩:=hfo b hb;yau e;have I0:Inv (cxB X Nc scope G2.objs.size fp s2 H2) [] (zdo own ix σ) H2 { s2 with heap:=h₁,toks:=s2.toks+([]:List (Str×Value)).length }:=I2.blk hc B hf hfo hns₁ old hCle;have st1:tn 0 h₁:=T.keep 0 _ _ st λb _ o e=>old b o e;have hDfs:s2.heap.objs.size∉frs X.stack:=λz=>by
  obtain⟨_,o,ho,_⟩:=I2.stack.mem z;exact absurd (yau ho) (ybb _)
 have ffs:∀b∈fp,b∉frs X.stack:=λb hb z=>by
  obtain⟨_,f1,f2,_⟩:=hf b hb;rcases yat.mp (I2.znz b z) with y | y
  . exact f1 y
  . exact f2 y
 have fcl:∀b∈fp,∀x c,(clOf scope X.env.cells).lookup x=some c->c≠b:=λb hb x c e=>(hf b hb).2.2.2.2.1 x c (zhR scope.names [] (λ_ z=>by cases z) e);have dcl:∀x c,(clOf scope X.env.cells).lookup x=some c->c≠s2.heap.objs.size:=λx c e z=>by
  obtain⟨v,q⟩:=I2.cell x c (zhR scope.names [] (λ_ z=>by cases z) e);exact absurd q.lt (by rw[z];exact ybb _)
 obtain⟨W,⟨m0,w0⟩,turn⟩:=hw;have loop:∀s₃:Shared,s₃={ s2 with heap:=h₁,toks:=s2.toks+([]:List (Str×Value)).length } ->
    codeAny (model X.prog X.w) X.A (.compLoop (.ListComp elt [⟨target,iter,ifs,0⟩] scope pos) 0 (.ref it) (.ref s2.heap.objs.size) (compEnvC scope (clOf scope X.env.cells) G2.objs.size X.env))
     (RR (.ref s2.heap.objs.size) G2.objs.size) s₃:=by
  rintro s₃ rfl;refine zl1 ((ht G2.objs.size).by rfl) (λn s'=>∃i ys its σ' H',Inv (cxB X Nc scope G2.objs.size fp s2 H2) [] σ' H' s'/\tn i s'.heap/\(∀b∈fp,H' b=none)/\s'.heap.get? s2.heap.objs.size=some (lstO its)/\H' s2.heap.objs.size=none/\Vals ys its/\ys.length<=sizeLine/\W i n ys σ' H')
    ?_ m0 ⟨0,[],[],_,H2,I0,st1,λb hb=>(hf b hb).1,hacc,I2.hok.fresh (yaf _),.nil,ya1 _,w0⟩
  rintro n s3 ⟨i,ys,its,σ3,H3,I3,st3,fr3,hD3,nD3,r3,z3,w3⟩;have Ip:Inv (cxB X Nc scope G2.objs.size fp s2 H2) [(s2.heap.objs.size,lstO its)] σ3 H3 s3:=I3.zid λp hp=>by
    have e:p=(s2.heap.objs.size,lstO its):=by simpa using hp
    subst e;exact⟨hD3,nD3,hDC,hDfs,λv z=>by cases z⟩
  have fpk:∀{H':Hp},(∀b∈fp,H' b=none)->∀b∈fp,FpOk (cxB X Nc scope G2.objs.size fp s2 H2) [(s2.heap.objs.size,lstO its)] H' b:=λhn b hb =>
    ⟨hn b hb,(below b (flt b hb)).1,ffs b hb,.inl hb,fcl b hb,λp hp=>by
     have hp':p∈([]:List (Addr×Obj))++[(s2.heap.objs.size,lstO its)]:=hp;have e:p=(s2.heap.objs.size,lstO its):=by simpa using hp'
     subst e;exact ybn (below b (flt b hb)).2⟩
  rcases turn i n ys σ3 H3 w3 with ⟨stop,fin⟩ | ⟨go,hlen,step⟩
  . refine thn (T.done (cxB X Nc scope G2.objs.size fp s2 H2) rfl rfl rfl rfl i _ s3 σ3 H3 NoX Ip (fpk fr3) st3 stop) λr s4 ⟨hr,I4⟩=>.inl ⟨hr,?_⟩;obtain⟨m4,n4,_⟩:=I4.loc;have pD:=I4.pin (s2.heap.objs.size,lstO its) (by simp);exact hRR _ _ s4 ys H3 m4 (I2.zup hf I4 (yaf _) pD.1 nD3 r3 z3) nD3 fin n4 I4.free hDC hCle
  . refine thn (T.item (cxB X Nc scope G2.objs.size fp s2 H2) rfl rfl rfl rfl i _ s3 σ3 H3 NoX Ip (fpk fr3) st3 go) λr s4 ⟨u,hr,h4⟩=>.inr ⟨u,hr,?_⟩;refine thn h4 λ_ s5 ⟨x,H5,I5,r5,y5,st5,fr5⟩=>?_;have I5':=I5.pinned (fpk fr5) (T.obj _ _ st5);have keepT:∀{σ8:St} {H8:Hp} {s8:Shared},Inv (cxB X Nc scope G2.objs.size fp s2 H2) ([(s2.heap.objs.size,lstO its)]++zln fp s5.heap) σ8 H8 s8->tn (i+1) s8.heap/\(∀b∈fp,H8 b=none)/\s8.heap.get? s2.heap.objs.size=some (lstO its)/\H8 s2.heap.objs.size=none:=λ{σ8 H8 s8} I8=>by
     have pin8:∀b∈fp,∀o,s5.heap.get? b=some o->s8.heap.get? b=some o/\H8 b=none:=λb hb o e=>by
      have:=I8.pin (b,o) (yaN _ (yaN _ (zgY hb e)));exact⟨this.1,this.2.1⟩
     have pD:=I8.pin (s2.heap.objs.size,lstO its) (by simp);refine⟨T.keep _ _ _ st5 λb hb o e=>(pin8 b hb o e).1,λb hb=>?_,pD.1,pD.2.1⟩;obtain⟨o,e,_⟩:=T.obj _ _ st5 b hb;exact(pin8 b hb o e).2
    refine thn (hg _ _ s5 σ3 H5 x u _ I5' r5 (step x H5 y5)) λ_ s6 ⟨σ6,H6,I6,q6⟩=>⟨_,σ6,H6,_,I6,q6,λb H7 s7 I7 q7=>?_⟩
    cases b with
    | false =>
     rw[yai yam]at q7 ⊢;obtain⟨m',hm,w7⟩:=q7;obtain⟨k1,k2,k3,k4⟩:=keepT I7;exact⟨m',hm,i+1,ys,its,σ6,H7,I7.zid (λp hp=>by cases hp),k1,k2,k3,k4,r3,z3,w7⟩
    | true =>
     rw[yaj rfl]at q7 ⊢;refine thn (he _ _ s7 σ6 H7 _ I7 q7) λv s8 ⟨y,H8,I8,r8,m',hm,w8⟩=>?_;obtain⟨k1,k2,k3,k4⟩:=keepT I8;have il:its.length=ys.length:=r3.length.symm;refine append_at (hsz:=by show its.toArray.size<=sizeLine;rw[yaB,il];exact z3) k3 λh9 hs9 hD9=>?_;have I9:Inv (cxB X Nc scope G2.objs.size fp s2 H2) [] σ6 H8 { s8 with heap:=h9 }:=Inv.turned (t':=s8.toks) (it:=s2.heap.objs.size) (I8.zid (pins':=[]) λp hp=>by cases hp) (λb o hb e=>(hs9.2 b hb).trans e) k4 hDC (.inr (yaf _)) dcl λp hp=>by cases hp
     refine⟨m',hm,i+1,ys++[y],its++[v],σ6,H8,I9,T.keep _ _ _ k1 λb hb o e=>(hs9.2 b (below b (flt b hb)).2).trans e,k2,hD9.trans (yaZ some (LCg.lst_snoc its v)),k4,r3.append (.cons r8 .nil),?_,w8⟩;rw[yah,yaE];exact hlen
 exact codeAny_compStart_list (loop _ rfl) (T.self X.A 0 _ _ _ st1 (loop _ rfl))
def zsm(own:Nat)(ix:List Nat)(wi:TI)(g:TG)(tt:TT)(te:TE):TE:=λσ H Q=>wi σ H λJ H1=>zju J g tt te (zdo own ix σ) H1 λys H2=>∀p,H2 p=none->Q (.ref p) (upd H2 p (.lst ys))
theorem zd6(own:Nat)(ix:List Nat)(Nc:List Str)(hc:X.calm=true)(B:Blk X scope own ix Nc)(hi:PI X target iter wi)
  (hg:∀C fp s H,PG (cxB X Nc scope C fp s H) target g) (ht:∀C fp s H,PTs (cxB X Nc scope C fp s H) ifs tt) (he:∀C fp s H,PE (cxB X Nc scope C fp s H) elt te)
  (hs:∀x,foldedSetIterable iter X.env x=pure x:=by intro _;rfl):PE X (.ListComp elt [⟨target,iter,ifs,0⟩] scope pos) (zsm own ix wi g tt te):=by
 intro pins s σ H Q I h;rw[eval_ListComp];have hcl:closureFor scope X.env=pure (clOf scope X.env.cells):=zjV λy hy hk=>I.ok.has y.1 (B.free y hy hk);refine wpAny_comprehension_free (use:=none) rfl hs hcl B.kind B.names (thn (hi pins s σ H _ I h) λxv s1 h1=>thn h1 λitv s2 h2=>?_);obtain⟨it,fp,tn,J,H2,e,I2,T,st2,f2,hw⟩:=h2;subst e;refine zjT (RR:=λacc C=>compPost (model X.prog X.w) X.A X.xe none (EP X pins σ Q) acc C) hc B I2 T st2 f2 (λC=>hg C fp s2 H2) (λC=>ht C fp s2 H2) (λC=>he C fp s2 H2) hw ?_;intro D C s' ys H' m' J' hD fin hn hC hDC hCle;refine⟨m',hn,λh'' hs''=>⟨.ref D,upd H' D (.lst ys),?_,rfl,fin D hD⟩⟩;have hCf:=I2.fpOk (H':=upd H' D (.lst ys)) hCle (by rw[zag (ybn hDC)];exact hC);obtain⟨f0,f1,_,f3,f4,f5⟩:=hCf;exact Inv.turned (t':=s'.toks) (it:=C) J' (λb o hb e=>(hs''.2 b hb).trans e) f0 f1 f3 f4 f5
theorem zgV{i:Nat}{x:Str}{pos' spos:Pos}(own:Nat)(ix:List Nat)(Nc:List Str)(hN:X.N.Nodup)(hxi:X.N[i]?=some x)(hx:Loc X.env.scope x)(hc:X.calm=true)(B:Blk X scope own ix Nc)(hi:PI X target iter wi)
  (hg:∀C fp s H,PG (cxB X Nc scope C fp s H) target g) (ht:∀C fp s H,PTs (cxB X Nc scope C fp s H) ifs tt) (he:∀C fp s H,PE (cxB X Nc scope C fp s H) elt te)
  (hsw:swapsWith (.ListComp elt [⟨target,iter,ifs,0⟩] scope pos) (some (.Name x pos')) spos.line X.env=pure true:=by rfl)
  (hs:∀x,foldedSetIterable iter X.env x=pure x:=by intro _;rfl) (hf:X.fn x=true\/X.env.scope.names.lookup x=some .local:=by first | exact .inl rfl | exact .inr rfl | assumption) :
  PS X (.Assign [.Name x pos'] (.ListComp elt [⟨target,iter,ifs,0⟩] scope pos) spos) (tAsg (zsm own ix wi g tt te) (zqu i)):=by
 intro pins s σ H DD I h;rw[exec_Assign_Name_used _ _ _ _ hsw];refine yab (wpAny_standAt (yab ?_));show wpAny _ X.A (do let _ <-comprehension (.ListComp elt [⟨target,iter,ifs,0⟩] scope pos) scope X.env _ (newList []) false (eval iter X.env) (some (assign (.Name x pos') X.env))) _ _ s;have hcl:closureFor scope X.env=pure (clOf scope X.env.cells):=zjV λy hy hk=>I.ok.has y.1 (B.free y hy hk);refine yab (ybk (wpAny_comprehension_free (use:=some (assign (.Name x pos') X.env)) (Q:=λ_ s'=>SP X pins DD .next s') rfl hs hcl B.kind B.names
  (thn (hi pins s σ H _ I h) λxv s1 h1=>thn h1 λitv s2 h2=>?_)) (λ_ s' hq=>yag (yag hq)) λ_ _ e=>e)
 obtain⟨it,fp,tn,J,H2,e,I2,T,st2,f2,hw⟩:=h2;subst e;refine zjT (RR:=λacc C=>compPost (model X.prog X.w) X.A X.xe (some (assign (.Name x pos') X.env)) (λ_ s'=>SP X pins DD .next s') acc C) hc B I2 T st2 f2 (λC=>hg C fp s2 H2) (λC=>ht C fp s2 H2) (λC=>he C fp s2 H2) hw ?_;intro D C s' ys H' m' J' hD fin hn hC hDC hCle;have hCf:=I2.fpOk (H':=upd H' D (.lst ys)) hCle (by rw[zag (ybn hDC)];exact hC);obtain⟨f0,f1,_,f3,f4,f5⟩:=hCf;show wpAny _ X.A (assign (.Name x pos') X.env (.ref D)) _ _ s';refine wpAny_assign_Name (zk3 (v:=V.ref D) J' hN hxi hx rfl (λs3 I3 ⟨a,sb,ha⟩=>?_) hf);have hCa:C≠a:=by
  rcases ha with z | z
  . rw[z];exact f1
  . exact ybn (f4 x a z)
 refine⟨m',hn.sameBut sb hCa,λh'' hs''=>⟨_,upd H' D (.lst ys),?_,fin D hD⟩⟩;exact Inv.turned (t':=s3.toks) (it:=C) I3 (λb o hb e=>(hs''.2 b hb).trans e) f0 f1 f3 f4 f5
end
end L2
end
section
namespace L2
open PySem PySem.Spec PyProof.Rows PySem.W
theorem zbM.there{P:Program}{w:World}{H:Hp}{h:Heap}{a:Addr}{o:HO}(x:zbM P w H h a o):∃ob,h.get? a=some ob:=by
 cases o with
 | lst _=>obtain⟨_,_,_,_,e⟩:=x;exact⟨_,e⟩
 | tup _=>obtain⟨_,_,_,ob,e,_⟩:=x;exact⟨ob,e⟩
 | dK _=>obtain⟨_,_,_,_,ob,_,_,e,_⟩:=x;exact⟨ob,e⟩
 | dT _=>obtain⟨_,_,_,_,ob,_,_,e,_⟩:=x;exact⟨ob,e⟩
 | set _ _=>obtain⟨ob,_,_,_,e,_⟩:=x;exact⟨ob,e⟩
 | ins _ _ _=>obtain⟨_,_,_,e,_⟩:=x;exact⟨_,e⟩
 | own _=>exact x
 | xd _=>obtain⟨_,⟨ob,_,_,e,_⟩,_⟩:=x;exact⟨ob,e⟩
 | rng _ _=>obtain⟨_,_,_,e⟩:=x;exact⟨_,e⟩
 | frz ob _=>exact⟨ob,x.1⟩
 | tbl _=>exact⟨_,x⟩
 | met _ _=>exact⟨_,x⟩
 | ext _=>exact x.2.1
theorem Un.fly{fs:List Addr}{H H':Hp}{h h1 h2 B:Heap}(u:Un fs [] H H' h h1)
  (hB:∀b o,h1.get? b=some o->b∉fs->((∃o',h.get? b=some o')\/∃v,H' b=some v)->B.get? b=some o) (hs:B.StaysIn h2) (sl:h1.UpToSlots h2)
  (hfs:∀b∈fs,∀o,h1.get? b=some o->∀vs,o.data≠.fields vs):Un fs [] H H' h h2 where
 keep:=λb o q n hb hx=>hs b o (hB b o (u.keep b o q n hb hx) hb (.inl ⟨o,q⟩))
 slot:=λb o q n hb hx=>by
  obtain⟨s1,e1⟩:=u.slot b o q n hb hx;obtain⟨s2,e2⟩:=sl b _ e1 (hfs b hb _ e1);exact⟨s2,e2⟩
 free:=u.free
 there:=λb o q hx=>by
  obtain⟨o1,e1⟩:=u.there b o q hx;by_cases hb:b∈fs
  . obtain⟨s2,e2⟩:=sl b _ e1 (hfs b hb _ e1);exact⟨_,e2⟩
  . exact⟨o1,hs b o1 (hB b o1 e1 hb (.inl ⟨o,q⟩))⟩
 tups:=u.tups
 frzs:=u.frzs
 tbls:=u.tbls
theorem HOk.fly{P:Program}{w:World}{fs:List Addr}{H':Hp}{h1 h2 B:Heap}(x:HOk P w H' h1)(hB:∀b o,h1.get? b=some o->b∉fs->(∃v,H' b=some v)->B.get? b=some o)(hs:B.StaysIn h2)(hf:∀b∈fs,H' b=none):HOk P w H' h2:=λa o e =>
 (x a o e).stay (λb u hb q=>by
  have tr:∃v,H' b=some v:=by
   rcases hb with rfl | hb
   . exact⟨o,e⟩
   . exact⟨_,hb⟩
  have nf:b∉fs:=λz=>by
   obtain⟨v,hv⟩:=tr;rw[hf b z]at hv;cases hv
  exact hs b u (hB b u q nf tr)) (λ_ q=>q) λ_ _ q=>q
def CX1(P:Program)(w:World):CXT:=λouter H s E e s'=>∃(ex C t:Addr) (B:Heap) (H':Hp),e=.ref ex/\s'.os=s.os/\AllBare s'.gens/\Un (frs outer) [] H H' s.heap s'.heap/\HOk P w H' s'.heap /\
 (∀b o,s'.heap.get? b=some o->b∉frs outer->((∃o',s.heap.get? b=some o')\/∃v,H' b=some v)->B.get? b=some o)/\Heap.FlyingW B outer ex (.ref C) (.ref t) s'.heap/\E (.ref C) none H'
def Raises(X:Cx)(E:XK):Prop:=∀(pins:List (Addr×Obj)) (σ:St) (H:Hp) (s:Shared) (e C:Addr) (h':Heap) (vs:List Value),Inv X pins σ H s->Heap.MadeExcOf s.heap h' e (.ref C) vs->E (.ref C) none H->X.xe (.ref e) { s with heap:=h' }
section
variable{P:Program}{w:World}{K:Frag}{mg:Str->Option Value}{base:Heap}{N:List Str}{qual:Str}{scope:Scope}{f:Addr}{cd:Value}{A:Around}{outer:List Env}{s₀:Shared}{H₀:Hp}{E:XK}
theorem zia:Raises (cxOf (CX1 P w) P w K mg base N qual scope f cd A outer s₀ H₀ E) E:=by
 intro pins σ H s e C h' vs I hx hE;have hmem:∀env∈(envOfC qual scope s₀.heap.objs.size f cd::outer),∀b,env.frame=some b->b∈frs (envOfC qual scope s₀.heap.objs.size f cd::outer):=λenv he b hb=>ybu.mpr ⟨env,he,hb⟩;refine wpAny_leaves_madeW (base:=hideAll s.heap (frs (envOfC qual scope s₀.heap.objs.size f cd::outer))) (h:=s.heap) I.ok.frames rfl (λb o q=>of_hideAll _ q) (funFrames_hide I.stack hmem) hx λh2 t fly _ _ sl=>?_;have keep:∀b o,s.heap.get? b=some o->b∉frs (envOfC qual scope s₀.heap.objs.size f cd::outer)->h2.get? b=some o:=λb o q nb=>fly.1 b o (hideAll_get _ q nb);have sub:∀b,b∈frs (envOfC qual scope s₀.heap.objs.size f cd::outer)->b=s₀.heap.objs.size\/b∈frs outer:=λb hb=>by
  rcases yat.mp (show b∈s₀.heap.objs.size::frs outer from hb) with z | z
  . exact .inl z
  . exact .inr z
 have nb:∀b,b∉frs outer->((∃o',s₀.heap.get? b=some o')\/∃v,H b=some v)->b∉frs (envOfC qual scope s₀.heap.objs.size f cd::outer):=λb h1 h2 hb=>by
  rcases sub b hb with z | z
  . rcases h2 with ⟨o',q⟩ | ⟨v,q⟩
    . rw[z]at q;exact absurd (yau q) (ybb _)
    . have:=I.free;have this':H s₀.heap.objs.size=none:=this;rw[z,this']at q;cases q
  . exact h1 z
 have hB:∀b o,s.heap.get? b=some o->b∉frs outer->((∃o',s₀.heap.get? b=some o')\/∃v,H b=some v)->(hideAll s.heap (frs (envOfC qual scope s₀.heap.objs.size f cd::outer))).get? b=some o:=λb o q h1 h2=>hideAll_get _ q (nb b h1 h2);have sl':s.heap.UpToSlots h2:=(Heap.UpToSlots.of_keeps hx.keeps).trans sl;have hfs:∀b∈frs outer,∀o,s.heap.get? b=some o->∀vs,o.data≠.fields vs:=λb hb o q=>by
  have hb':b∈frs (envOfC qual scope s₀.heap.objs.size f cd::outer):=yad s₀.heap.objs.size hb;obtain⟨_,o',q',hd⟩:=I.stack.mem hb';rw[q]at q';cases q';exact hd
 refine⟨e,C,t,_,H,rfl,I.os,I.bare,(show Un (frs outer) [] H₀ H s₀.heap s.heap from I.base).fly hB fly.1 sl' hfs,HOk.fly (fs:=frs outer) I.hok (λb o q h1 h2=>hB b o q h1 (.inr h2)) fly.1 (λb hb=>I.zhW b (yad s₀.heap.objs.size hb)),λb o q h1 h2=>?_,fly,hE⟩;have ⟨o1,e1⟩:∃o1,s.heap.get? b=some o1:=by
  rcases h2 with ⟨o',q'⟩ | ⟨v,q'⟩
  . exact I.base.there b o' q' (by intro z;cases z)
  . exact(I.hok b v q').there
 have e2:=hB b o1 e1 h1 h2;have e3:=fly.1 b o1 e2;have:o=o1:=yaL (q.symm.trans e3);rw[this];exact e2
theorem zbR:Passes (CX1 P w) (cxOf (CX1 P w) P w K mg base N qual scope f cd A outer s₀ H₀ E) E:=by
 intro pins σ H s e s' I hc;obtain⟨ex,C,t,B,H',rfl,os,bare,un,hok,hB,fly,hE⟩:=hc;have J:Inv (cxOf (CX1 P w) P w K mg base N qual scope f cd A outer s₀ H₀ E) pins σ H' s':=I.ztb (ch:=[]) os un hok bare λb z=>by cases z
 refine wpAny_leaves_onW I.ok.frames rfl fly λh2 fly2 sl=>?_;have toStack:∀b,b∈frs outer->b∈frs (envOfC qual scope s₀.heap.objs.size f cd::outer):=λb hb=>yad s₀.heap.objs.size hb;have hB':∀b o,s'.heap.get? b=some o->b∉frs outer->((∃o',s₀.heap.get? b=some o')\/∃v,H' b=some v)->B.get? b=some o:=λb o q h1 h2=>by
  refine hB b o q (λhb=>?_) (h2.imp (λ⟨o',q'⟩=>I.base.there b o' q' (λz=>by cases z)) id);rcases yat.mp (show b∈s₀.heap.objs.size::frs outer from hb) with z | z
  . rcases h2 with ⟨o',q'⟩ | ⟨v,q'⟩
    . rw[z]at q';exact absurd (yau q') (ybb _)
    . have fr:H' s₀.heap.objs.size=none:=J.free;rw[z,fr]at q';cases q'
  . exact h1 z
 have hfs:∀b∈frs outer,∀o,s'.heap.get? b=some o->∀vs,o.data≠.fields vs:=λb hb o q=>by
  obtain⟨_,o',q',hd⟩:=J.stack.mem (toStack b hb);rw[q]at q';cases q';exact hd
 refine⟨ex,C,t,B,H',rfl,J.os,J.bare,(show Un (frs outer) [] H₀ H' s₀.heap s'.heap from J.base).fly hB' fly2.1 sl hfs,HOk.fly (fs:=frs outer) J.hok (λb o q h1 h2=>hB' b o q h1 (.inr h2)) fly2.1 (λb hb=>J.zhW b (toStack b hb)),λb o q h1 h2=>?_,fly2,hE⟩;obtain⟨o1,e1⟩:∃o1,s'.heap.get? b=some o1:=by
  rcases h2 with ⟨o',q'⟩ | ⟨v,q'⟩
  . exact J.base.there b o' q' (by intro z;cases z)
  . exact(J.hok b v q').there
 have e2:=hB' b o1 e1 h1 h2;have:o=o1:=yaL (q.symm.trans (fly2.1 b o1 e2));rw[this];exact e2
end
theorem zs6{K:Frag}{h:Heap}{C:Addr}{bmB:List Value}{newId:String}(X:K.In h)(q:excIn K C bmB newId=true) :
  ∃bm N nm qn bs hd sn sub ab col dd k0 k1 k2 k3 k5 mN,h.get? C=some (excClassObj nm qn C N bs bm hd sn sub ab col dd k0 k1 k2 k3 k5 newId)/\h.Ns N mN/\mN "__init__" = none/\OwnTail h bmB bm:=by
 unfold excIn at q;split at q
 case h_2=>cases q
 case h_1 dd cd sl ho =>
  split at q
  case h_2=>cases q
  case h_1 C' bm k0 k1 k2 k3 n k5 hm hs =>
   simp only[ybc,yb6,Bool.not_eq_true']at q;obtain⟨⟨⟨⟨⟨e1,e2⟩,hdel⟩,tl⟩,ok⟩,ni⟩:=q;subst e1 e2;obtain⟨nm,bs,mro,ns,qn,hdc,sn,sub,ab,col,del⟩:=cd;simp only at hm hdel ok ni;subst hm hdel;have es:sl=#[k0,k1,k2,k3,some (.builtin n),k5]:=by
    cases sl with
    | mk l=>simp only at hs;rw[hs]
   subst es;exact⟨bm,ns,nm,qn,bs,hdc,sn,sub,ab,col,dd,k0,k1,k2,k3,k5,_,X _ _ ho,.of_isNs (isNs_of_in X ok),nsMap_none_of_in X ok ni,tail_of_in X tl⟩
def zpi(C:Addr)(E:XK)(t:TA):TS:=λ_ σ H=>t σ H λvs H1=>vs.length<=sizeLine/\E (.ref C) none H1
section
variable{X:Cx}{E:XK}{x:Str}{C:Addr}{e₀:Expr}{rest:List Expr}{t:TA}{np cpos pos:Pos}{B newId initId:String}{bm:List Value}
theorem zke(hr:Raises X E)(hc:X.calm=true)(hg:Gl X x)(hm:X.mg x=some (.ref C))(q:excIn X.K C bm newId=true)(FB:ExcBaseFacts B newId initId bm)(ha:PA X (e₀::rest) t)
  (hd:(x == ("__debug__" : Str))=false:=by decide) (he:starEach (e₀::rest) X.env=(false,eval e₀ X.env)::starEach rest X.env:=by rfl) (hpl:(backTo cpos (starEach rest X.env)).any (·.1)=false:=by rfl) :
  PS X (.Raise (some (.Call (.Name x np) (e₀::rest) [] cpos)) none pos) (zpi C E t):=by
 intro pins s σ H D I h;obtain⟨tl,N,nm,qn,bs,hdc,sn,sub,ab,col,dd,k0,k1,k2,k3,k5,mN,hC,hN,hni,T⟩:=zs6 I.ok.mod.kin q;have hb:(backTo cpos (starEach (e₀::rest) X.env)).any (·.1)=false:=by
  rw[he];show(false || (backTo cpos (starEach rest X.env)).any (·.1))=false;rw[hpl];rfl
 refine wpAny_Raise_call_subT (C:=C) (nm:=nm) (q:=qn) (N:=N) (bs:=bs) (bm:=tl) (hdct:=hdc) (sn:=sn) (sub:=sub) (ab:=ab) (col:=col) (dd:=dd) (k0:=k0) (k1:=k1) (k2:=k2) (k3:=k3) (k5:=k5) FB (mN:=mN) (T.hasType FB.hasBase) (I.ok.hd hc) hb hni (zg0 I hg hm ⟨rfl,?_⟩ hd);have hp:=ha cpos pins s σ H _ I h;rw[he]at hp ⊢;refine ybN (thn hp λus s1 ⟨vs,H1,I1,r1,z,hE⟩=>?_);exact⟨rfl,by rw[<-r1.length];exact z,I1.bk _ _ hC,hN.keeps I1.bk,T.keeps I1.bk,λh' e mk=>hr pins σ H1 s1 e C h' us I1 mk hE⟩
end
theorem PS.nox{X:Cx}{st:Stmt}{t:TS}(h:PS X.nox st t):PS X st t:=λpins s σ H D I hw =>
 ybk (h pins s σ H D (I.wish _) hw) (λ_ _ q=>SP.zga q) λ_ _ z=>z.elim
theorem Fun.okX{K:Frag}{P:Program}{w:World}{mg:Str->Option Value}{base:Heap}{x qual:Str}{st:Stmt}{f:Addr}{fd:FuncData}{N ps:List Str}{k:Nat}{sp:Sp}(F:Fun K x qual st f fd)(S:zau N ps (zan st))
  (len:∀vs H Q E,sp vs H Q E->vs.length=ps.length)
  (hb:∀(cdv:Value) (A:Around) (outer:List Env) (s:Shared) (H:Hp) (vs:List V) (Q:VK) (E:XK),Room k (A.deeper (envOfC qual (zan st) s.heap.objs.size f cdv))->sp vs H Q E ->
   ∃t,PSs (cxOf (CX1 P w) P w K mg base N qual (zan st) f cdv A outer s H E) (ziK st) t/\t { nx:=λ_ H'=>Q .non H',rt:=Q } (start N vs) H) :
  FnOk P w K mg base (CX1 P w) (k+1) f fd ps sp:=by
 obtain⟨oc,od,kV,doc,pm,an,cdv,ct,osl,rfl,lk,hcd⟩:=F.ex;exact zu2 lk hcd S len (hb cdv)
abbrev EF:XK:=λ_ _ _=>False
theorem zaz{X:Cx}:Passes (CX1 X.prog X.w) X EF:=λ_ _ _ _ _ _ _ ⟨_,_,_,_,_,_,_,_,_,_,_,_,h⟩=>h.elim
def cxH(X:Cx)(e:Value):Cx:={ X with A:=X.A.mark (some e),calm:=false,xe:=NoX }
theorem Inv.toH{X:Cx}{pins:List (Addr×Obj)}{σ:St}{H:Hp}{s:Shared}{e:Value}(I:Inv X pins σ H s):Inv (cxH X e) pins σ H s :=
 ⟨⟨I.ok.mod,I.ok.kind,I.ok.glob,I.ok.blt,I.ok.above,I.ok.inj,I.ok.has,I.ok.cab,λz=>(by cases z),I.ok.frames,I.ok.stk,I.ok.exf,I.ok.bs,I.ok.bsz,I.ok.noex,I.ok.exfs,I.ok.funs,I.ok.frf⟩,I.os,I.bare,I.base,I.loc,I.cell,I.free,I.zew,I.pin,I.hok,I.len⟩
theorem Inv.ofH{X:Cx}{pins:List (Addr×Obj)}{σ:St}{H:Hp}{s:Shared}{e:Value}{pins0:List (Addr×Obj)}{σ0:St}{H0:Hp}{s0:Shared}(I0:Inv X pins0 σ0 H0 s0)(I:Inv (cxH X e) pins σ H s):Inv X pins σ H s :=
 ⟨I0.ok,I.os,I.bare,I.base,I.loc,I.cell,I.free,I.zew,I.pin,I.hok,I.len⟩
def cxT(X:Cx)(pn:List (Addr×Obj))(xe:Value->Shared->Prop):Cx:={ X with pn:=pn,xe:=xe }
theorem Inv.toT{X:Cx}{pins:List (Addr×Obj)}{σ:St}{H:Hp}{s:Shared}{xe:Value->Shared->Prop}(I:Inv X pins σ H s):Inv (cxT X (X.pn++pins) xe) [] σ H s :=
 ⟨⟨I.ok.mod,I.ok.kind,I.ok.glob,I.ok.blt,I.ok.above,I.ok.inj,I.ok.has,I.ok.cab,I.ok.hd,I.ok.frames,I.ok.stk,I.ok.exf,I.ok.bs,I.ok.bsz,I.ok.noex,I.ok.exfs,I.ok.funs,I.ok.frf⟩,I.os,I.bare,I.base,I.loc,I.cell,I.free,I.zew,λp hp=>I.pin p (by have hp':p∈(X.pn++pins)++[]:=hp;rwa [ybe]at hp'),I.hok,I.len⟩
theorem Inv.ofT{X:Cx}{pins pins':List (Addr×Obj)}{σ:St}{H:Hp}{s:Shared}{xe:Value->Shared->Prop}(I:Inv (cxT X (X.pn++pins) xe) pins' σ H s):Inv X pins σ H s :=
 ⟨⟨I.ok.mod,I.ok.kind,I.ok.glob,I.ok.blt,I.ok.above,I.ok.inj,I.ok.has,I.ok.cab,I.ok.hd,I.ok.frames,I.ok.stk,I.ok.exf,I.ok.bs,I.ok.bsz,I.ok.noex,I.ok.exfs,I.ok.funs,I.ok.frf⟩,I.os,I.bare,I.base,I.loc,I.cell,I.free,I.zew,λp hp=>I.pin p (yaJ _ hp),I.hok,I.len⟩
def tTry(C:Addr)(tb:XK->TS)(ts:TS):TS:=λD σ H=>tb (λcls _ H'=>cls=.ref C/\ts D (σ.map λ_=>none) H') D σ H
section
variable{X:Cx}{C:Addr}{x:Str}{body suite:List Stmt}{b₀:Stmt}{np hpos pos:Pos}{tb:XK->TS}{ts:TS}
theorem ztV(hc:X.calm=true)(hk:X.stack=X.env::X.outer)(hfr:X.env.frame=some X.env.locals)(hex:X.ex=[])(hg:Gl X x)(hm:X.mg x=some (.ref C))(q:ktsIn X.K C "BaseException" = true)
   (hb:∀E pn xe,Passes (CX1 X.prog X.w) (cxT X pn xe) E->PSs (cxT X pn xe) body (tb E)) (hs:∀e,PSs (cxH X e) (b₀::suite) ts)
   (hd:(x == ("__debug__" : Str))=false:=by decide) :
   PS X (.Try body [.ExceptHandler (some (.Name x np)) none (b₀::suite) hpos] [] [] pos) (tTry C tb ts):=by
 intro pins s σ H D I h;refine wpAny_Try_except (ybk ((hb _ (X.pn++pins) _ ?pass) [] s σ H D I.toT h) (λfl s' hq=>?_) λe s' hq=>hq)
 case pass =>
   intro pins' σ' H1 s1 e s' I' hcx;obtain⟨ex,C',t,B,H',rfl,os,bare,un,hok,hB,fly,hC',hE⟩:=hcx;obtain rfl:C'=C:=Value.ref.inj hC';have I1:Inv X pins σ' H1 s1:=I'.ofT;have frm:X.A.frames=some (X.env::X.outer):=by rw[<-hk];exact I.ok.frames
   have fly':Heap.FlyingW B (X.env::X.outer) ex (.ref C') (.ref t) s'.heap:=by rw[<-hk];exact fly
   refine wpAny_looks_onW frm hfr fly' λh4 held sl4=>?_;refine wpAny_landsW held λh5 fly5 sl5=>?_;have hfs:∀b∈frs X.stack,∀o,s'.heap.get? b=some o->∀vs,o.data≠.fields vs:=λb hb' o qo=>by
    obtain⟨_,o',q',hd'⟩:=fly.2.2.1.mem hb';rw[qo]at q';cases q';exact hd'
   have at_:∀h6:Heap,B.StaysIn h6->s'.heap.UpToSlots h6->Inv X pins σ' H' { s' with heap:=h6 }:=λh6 st6 sl6 =>
    I1.ztb (ch:=[]) (s':={ s' with heap:=h6 }) os (un.fly hB st6 sl6 hfs) (HOk.fly (fs:=frs X.stack) hok (λb o q1 n1 t1=>hB b o q1 n1 (.inr t1)) st6 λb hb'=>by
     have u:=I1.zhW b hb';obtain⟨_,o',q',_⟩:=I1.stack.mem hb';exact un.free b o' q' u (by intro z;cases z)) bare λb z=>by cases z
   have I5:=at_ h5 fly5.1 (sl4.trans sl5);obtain⟨nm,qn,N,bs,bm,hdct,sn,sub,ab,col,dd,k0,k1,k2,k3,k5,newId,hC,hbase,_⟩:=kts_cls I5.kIn q;obtain⟨ob,hob,hobc⟩:=fly5.there;refine wpAny_handleBy_cons (codeAny_handlers_test (zg0 (X:=cxH X (.ref ex)) I5.toH hg hm ?_ hd)) (by intro z;cases z);refine wpAny_excMatches_sub_self hC hob hobc hbase (codeAny_handlers_suite ?_);refine lands_againW fly5 λh6 fly6 sl6=>?_;have I6:=at_ h6 fly6.1 ((sl4.trans sl5).trans sl6);have I7:Inv X pins (σ.map λ_=>none) H' { s' with heap:=h6 }:=I6.weak (by rw[yaa,I.len,I6.len]) λi v e1=>by
    rw[yak]at e1;cases e2:σ[i]? with
    | none=>rw[e2]at e1;cases e1
    | some o=>rw[e2]at e1;cases e1
   refine ybk (hs (.ref ex) pins _ _ H' D I7.toH hE) (λfl s8 hq=>?_) λ_ _ z=>z.elim;have ret:SP X pins D fl s8:=by
    cases fl with
    | next=>obtain⟨σ8,H8,I8,q8⟩:=hq;exact⟨σ8,H8,I7.ofH I8,q8⟩
    | brk=>obtain⟨σ8,H8,I8,q8⟩:=hq;exact⟨σ8,H8,I7.ofH I8,q8⟩
    | cont=>obtain⟨σ8,H8,I8,q8⟩:=hq;exact⟨σ8,H8,I7.ofH I8,q8⟩
    | ret u=>obtain⟨v8,σ8,H8,I8,r8,q8⟩:=hq;exact⟨v8,σ8,H8,I7.ofH I8,r8,q8⟩
   exact ret
 . cases fl with
   | next=>obtain⟨σ8,H8,I8,q8⟩:=hq;exact ycH ⟨σ8,H8,I8.ofT,q8⟩
   | brk=>obtain⟨σ8,H8,I8,q8⟩:=hq;exact⟨σ8,H8,I8.ofT,q8⟩
   | cont=>obtain⟨σ8,H8,I8,q8⟩:=hq;exact⟨σ8,H8,I8.ofT,q8⟩
   | ret u=>obtain⟨v8,σ8,H8,I8,r8,q8⟩:=hq;exact⟨v8,σ8,H8,I8.ofT,r8,q8⟩
end
end L2
end
section
namespace S5
open PySem PySem.W PyProof.Rows
def run{α:Type}(a:Nat->Nat->Bool):KasT α->α
 | .ret x=>x
 | .ask i j k=>run a (k (a i j))
theorem run_bind{α β:Type}(a:Nat->Nat->Bool)(f:α->KasT β):∀t:KasT α,run a (t.bind f)=run a (f (run a t))
 | .ret _=>rfl
 | .ask i j k=>run_bind a f (k (a i j))
def Below(a:Nat->Nat->Bool)(n:Nat){α:Type}:KasT α->Prop
 | .ret _=>True
 | .ask i j k=>(i < n/\j < n/\i≠j)/\Below a n (k (a i j))
theorem zc1{α β:Type}{a:Nat->Nat->Bool}{n:Nat}{f:α->KasT β}:∀{t:KasT α},Below a n t->Below a n (f (run a t))->Below a n (t.bind f)
 | .ret _,_,h=>h
 | .ask i j k,h,g=>⟨h.1,zc1 (t:=k (a i j)) h.2 g⟩
theorem wp_run{α:Type}{cmp:Nat->Nat->(Bool->Shared->Prop)->Shared->Prop}{a:Nat->Nat->Bool}{n:Nat}{s:Shared}(hc:∀i j C,i < n->j < n->i≠j->C (a i j) s->cmp i j C s) :
  ∀(t:KasT α) (Q:α->Shared->Prop),Below a n t->Q (run a t) s->t.kasWp cmp Q s
 | .ret x,Q,_,h=>h
 | .ask i j k,Q,b,h=>hc i j _ b.1.1 b.1.2.1 b.1.2.2 (wp_run hc (k (a i j)) Q b.2 h)
structure Ord(a:Nat->Nat->Bool)(n:Nat):Prop where
 irr:∀i,a i i=false
 tr:∀i j k,a i j=true->a j k=true->a i k=true
 tot:∀i j,i < n->j < n->i≠j->a i j=true\/a j i=true
section
variable{a:Nat->Nat->Bool}{n:Nat}(O:Ord a n)
include O
def Arr(n:Nat)(p:Array Nat):Prop:=p.toList.Perm (List.range n)
omit O in
theorem Arr.size{p:Array Nat}(h:Arr n p):p.size=n:=by
 have:=h.length_eq;rw[ya6,yaO]at this;exact this
omit O in
theorem Arr.lt{p:Array Nat}(h:Arr n p){i:Nat}(hi:i < n):p.getD i 0 < n:=by
 have hs:=h.size;have:p.getD i 0∈p.toList:=by
  rw[yaT,yaM (by omega)];simp
 exact yaV.mp (h.mem_iff.mp this)
omit O in
theorem Arr.inj{p:Array Nat}(h:Arr n p){i j:Nat}(hi:i < n)(hj:j < n)(e:p.getD i 0=p.getD j 0):i=j:=by
 have hs:=h.size;have nd:p.toList.Nodup:=(h.nodup_iff).mpr ydC;have hi':i < p.toList.length:=by rw[yaO];omega
 have hj':j < p.toList.length:=by rw[yaO];omega
 refine(ydF (h₀:=hi') (h₁:=hj') nd).mp ?_;have e1:p.getD i 0=p.toList[i]:=by rw[yaT,yaM (by omega)];simp
 have e2:p.getD j 0=p.toList[j]:=by rw[yaT,yaM (by omega)];simp
 rw[<-e1,<-e2,e]
def Up(a:Nat->Nat->Bool)(p:Array Nat)(k:Nat):Prop:=∀i j,i < j->j < k->a (p.getD i 0) (p.getD j 0)=true
def Dn(a:Nat->Nat->Bool)(p:Array Nat)(k:Nat):Prop:=∀i j,i < j->j < k->a (p.getD j 0) (p.getD i 0)=true
theorem Ord.le{p:Array Nat}(h:Arr n p){i j:Nat}(hi:i < n)(hj:j < n)(hne:i≠j)(q:a (p.getD i 0) (p.getD j 0)=false):a (p.getD j 0) (p.getD i 0)=true:=by
 rcases O.tot _ _ (h.lt hi) (h.lt hj) (λe=>hne (h.inj hi hj e)) with z | z
 . rw[q]at z;cases z
 . exact z
omit O in
theorem Up.snoc{p:Array Nat}{k:Nat}(tr:∀i j k,a i j=true->a j k=true->a i k=true)(u:Up a p k)(h:k=0\/a (p.getD (k - 1) 0) (p.getD k 0)=true):Up a p (k+1):=λi j hij hj=>by
 by_cases e:j=k
 . subst e;rcases h with z | z
   . omega
   . by_cases e2:i=j - 1
     . subst e2;exact z
     . exact tr _ _ _ (u i (j - 1) (by omega) (by omega)) z
 . exact u i j hij (by omega)
omit O in
theorem Dn.snoc{p:Array Nat}{k:Nat}(tr:∀i j k,a i j=true->a j k=true->a i k=true)(u:Dn a p k)(h:k=0\/a (p.getD k 0) (p.getD (k - 1) 0)=true):Dn a p (k+1):=λi j hij hj=>by
 by_cases e:j=k
 . subst e;rcases h with z | z
   . omega
   . by_cases e2:i=j - 1
     . subst e2;exact z
     . exact tr _ _ _ z (u i (j - 1) (by omega) (by omega))
 . exact u i j hij (by omega)
omit O in
theorem zur(p:Array Nat)(f k:Nat):run a (kas_asc p (f+1) k)=if a (p.getD k 0) (p.getD (k - 1) 0)=true then k else run a (kas_asc p f (k+1)):=by
 show run a ((λc=>if c=true then KasT.ret k else kas_asc p f (k+1)) (a (p.getD k 0) (p.getD (k - 1) 0)))=_;cases a (p.getD k 0) (p.getD (k - 1) 0)<;>rfl
theorem zoa{p:Array Nat}(h:Arr n p):∀(f k:Nat),1<=k->k+f<=n->Up a p k->k<=run a (kas_asc p f k)/\run a (kas_asc p f k)<=k+f/\Up a p (run a (kas_asc p f k)) /\
  (run a (kas_asc p f k) < k+f->a (p.getD (run a (kas_asc p f k)) 0) (p.getD (run a (kas_asc p f k) - 1) 0)=true)
 | 0,k,_,_,u=>⟨yaf _,yaf _,u,λz=>absurd z (ybb _)⟩
 | f+1,k,h1,hk,u=>by
  rw[zur];cases q:a (p.getD k 0) (p.getD (k - 1) 0) with
  | true=>rw[yaj rfl];exact⟨yaf _,by omega,u,λ_=>q⟩
  | false =>
   rw[yai yam];have nx:=O.le h (i:=k) (j:=k - 1) (by omega) (by omega) (by omega) q;obtain⟨g1,g2,g3,g4⟩:=zoa h f (k+1) (by omega) (by omega) (u.snoc O.tr (.inr nx));exact⟨by omega,by omega,g3,λz=>g4 (by omega)⟩
omit O in
theorem zs7(p:Array Nat)(f k:Nat):run a (kas_desc (f+1) p k 0)=if a (p.getD k 0) (p.getD (k - 1) 0)=true then run a (kas_desc f p (k+1) 0) else if a (p.getD (k - 1) 0) (p.getD k 0)=true then (p,k,0) else run a (kas_desc f p (k+1) 1):=by
 show run a ((λc=>if c=true then (if 0 > 0 then kas_desc f (kas_rev p (k - (0+1)) k) (k+1) 0 else kas_desc f p (k+1) 0) else KasT.ask (p.getD (k - 1) 0) (p.getD k 0) λd=>if d=true then KasT.ret (p,k,0) else kas_desc f p (k+1) (0+1)) (a (p.getD k 0) (p.getD (k - 1) 0)))=_;cases a (p.getD k 0) (p.getD (k - 1) 0) with
 | true =>
  show run a (if 0 > 0 then kas_desc f (kas_rev p (k - (0+1)) k) (k+1) 0 else kas_desc f p (k+1) 0)=_;rw[yai (by omega),yaj rfl]
 | false =>
  show run a ((λd=>if d=true then KasT.ret (p,k,0) else kas_desc f p (k+1) (0+1)) (a (p.getD (k - 1) 0) (p.getD k 0)))=_;rw[yai yam];cases a (p.getD (k - 1) 0) (p.getD k 0)<;>rfl
theorem zm1{p:Array Nat}(h:Arr n p):∀(f k:Nat),1<=k->k+f<=n->Dn a p k->∃m,run a (kas_desc f p k 0)=(p,m,0)/\k<=m/\m<=k+f/\Dn a p m
 | 0,k,_,_,u=>⟨k,rfl,yaf _,yaf _,u⟩
 | f+1,k,h1,hk,u=>by
  rw[zs7];cases q:a (p.getD k 0) (p.getD (k - 1) 0) with
  | true =>
   rw[yaj rfl];obtain⟨m,e,g1,g2,g3⟩:=zm1 h f (k+1) (by omega) (by omega) (u.snoc O.tr (.inr q));exact⟨m,e,by omega,by omega,g3⟩
  | false =>
   rw[yai yam];have nx:=O.le h (i:=k) (j:=k - 1) (by omega) (by omega) (by omega) q;rw[yaj nx];exact⟨k,rfl,yaf _,by omega,u⟩
omit O in
theorem zpD{p:Array Nat}{i j:Nat}(hj:j<=p.size)(k:Nat):(kas_rev p i j).getD k 0=if i<=k/\k < j then p.getD (i+j - 1 - k) 0 else p.getD k 0:=by
 unfold kas_rev;have e:=getElem?_mirror_all (i:=i) hj k;rw[yaT,e];split
 . rw[yaT]
 . rw[yaT]
omit O in
theorem Arr.rev{p:Array Nat}(h:Arr n p)(i j:Nat):Arr n (kas_rev p i j):=(ydc.mp (mirror_perm p i j _)).trans h
omit O in
theorem Arr.bub{p:Array Nat}(h:Arr n p)(i j:Nat):Arr n (bubble p i j):=(ydc.mp (bubble_perm p i j)).trans h
omit O in
theorem Dn.rev{p:Array Nat}{m:Nat}(hm:m<=p.size)(d:Dn a p m):Up a (kas_rev p 0 m) m:=λi j hij hj=>by
 rw[zpD hm,zpD hm,yaj ⟨ya1 _,by omega⟩,yaj ⟨ya1 _,hj⟩];exact d (0+m - 1 - j) (0+m - 1 - i) (by omega) (by omega)
theorem zn6{p:Array Nat}(h:Arr n p)(hn:1<=n):(run a (kas_count n p)).1<=n/\1<=(run a (kas_count n p)).1/\Arr n (run a (kas_count n p)).2/\Up a (run a (kas_count n p)).2 (run a (kas_count n p)).1:=by
 have u1:Up a p 1:=λi j hij hj=>by omega
 obtain⟨g1,g2,g3,g4⟩:=zoa O h (n - 1) 1 (yaf _) (by omega) u1;unfold kas_count;rw[run_bind];generalize run a (kas_asc p (n - 1) 1)=r at g1 g2 g3 g4 ⊢;by_cases e:(r == n)=true
 . rw[yaj e];exact⟨by show r<=n;omega,g1,h,g3⟩
 . rw[yai e];have ne:r≠n:=by simpa using e
   by_cases hr:r > 1
   . rw[yaj hr];have q:a (p.getD 0 0) (p.getD (r - 1) 0)=true:=g3 0 (r - 1) (by omega) (by omega);simp only[run,q,yb2];exact⟨by omega,g1,h,g3⟩
   . rw[yai hr];have hr1:r=1:=by omega
     subst hr1;have q:=g4 (by omega);have d2:Dn a p 2:=(show Dn a p 1 from λi j hij hj=>by omega).snoc O.tr (.inr q);obtain⟨m,em,m1,m2,dm⟩:=zm1 O h (n - (1+1)) 2 (by omega) (by omega) d2;unfold kas_descPart;rw[run_bind,em];dsimp only;rw[yai (by omega)];unfold kas_tail3;rw[run_bind];have hs:=h.size;have ur:=Dn.rev (by omega) dm;obtain⟨g1',g2',g3',_⟩:=zoa O (h.rev 0 m) (n - m) m (by omega) (by omega) ur;simp only[run];exact⟨by omega,by omega,h.rev 0 m,g3'⟩
omit O in
theorem zqN{p:Array Nat}{src d:Nat}(hs:src < p.size)(hd:d<=src)(k:Nat):(bubble p src d).getD k 0=if k=src - d then p.getD src 0 else if src - d < k/\k<=src then p.getD (k - 1) 0 else p.getD k 0:=by
 have e:=getElem?_bubble hs d hd k;rw[yaT,e];by_cases h1:k=src - d
 . rw[yaj h1,yaj h1,yaT]
 . rw[yai h1,yai h1];by_cases h2:src - d < k/\k<=src
   . rw[yaj h2,yaj h2,yaT]
   . rw[yai h2,yai h2,yaT]
theorem zkg{p:Array Nat}(h:Arr n p){k:Nat}(hk:k < n):∀(f l r:Nat),l<=r->r<=k->r - l<=f->(∀i,i < l->a (p.getD i 0) (p.getD k 0)=true)->(∀i,r<=i->i < k->a (p.getD k 0) (p.getD i 0)=true)->Up a p k ->
  ∃m,run a (kas_place p k f l r)=m/\m<=k/\(∀i,i < m->a (p.getD i 0) (p.getD k 0)=true)/\∀i,m<=i->i < k->a (p.getD k 0) (p.getD i 0)=true
 | 0,l,r,h1,h2,h3,g1,g2,u=>⟨l,rfl,by omega,g1,λi hi hk=>g2 i (by omega) hk⟩
 | f+1,l,r,h1,h2,h3,g1,g2,u=>by
  unfold kas_place;by_cases hlr:l ≥ r
  . rw[yaj hlr];exact⟨l,rfl,by omega,g1,λi hi hk=>g2 i (by omega) hk⟩
  . rw[yai hlr];simp only[run];have hm:(l+r) / 2 < r:=by omega
    have hm2:l<=(l+r) / 2:=by omega
    cases q:a (p.getD k 0) (p.getD ((l+r) / 2) 0) with
    | true =>
     simp only[yb2];refine zkg h hk f l ((l+r) / 2) hm2 (by omega) (by omega) g1 (λi hi hik=>?_) u;by_cases e:i=(l+r) / 2
     . subst e;exact q
     . exact O.tr _ _ _ q (u _ i (by omega) hik)
    | false =>
     simp only[yaX,ybV];have nx:=O.le h (i:=k) (j:=(l+r) / 2) hk (by omega) (by omega) q;refine zkg h hk f ((l+r) / 2+1) r (by omega) h2 (by omega) (λi hi=>?_) g2 u;by_cases e:i=(l+r) / 2
     . subst e;exact nx
     . exact O.tr _ _ _ (u i ((l+r) / 2) (by omega) (by omega)) nx
theorem zsb:∀(f:Nat) (p:Array Nat) (k:Nat),Arr n p->k+f=n->Up a p k->Arr n (run a (kas_bin f p k))/\Up a (run a (kas_bin f p k)) n
 | 0,p,k,h,e,u=>⟨h,by rw[Nat.add_zero]at e;rw[<-e];exact u⟩
 | f+1,p,k,h,e,u=>by
  have hk:k < n:=by omega
  have hs:=h.size;unfold kas_bin;rw[run_bind];obtain⟨m,em,m1,g1,g2⟩:=zkg O h hk k 0 k (ya1 _) (yaf _) (by omega) (λi hi=>by omega) (λi h1 h2=>by omega) u;rw[em];refine zsb f _ (k+1) (h.bub k (k - m)) (by omega) λi j hij hj=>?_;rw[zqN (by omega) (by omega),zqN (by omega) (by omega),show k - (k - m)=m by omega];by_cases e1:i=m
  . rw[yaj e1,yai (show ¬j=m by omega),yaj (show m < j/\j<=k by omega)];exact g2 (j - 1) (by omega) (by omega)
  . rw[yai e1];by_cases e2:m < i/\i<=k
    . rw[yaj e2,yai (show ¬j=m by omega),yaj (show m < j/\j<=k by omega)];exact u (i - 1) (j - 1) (by omega) (by omega)
    . rw[yai e2];by_cases e3:j=m
      . rw[yaj e3];exact g1 i (by omega)
      . rw[yai e3];by_cases e4:m < j/\j<=k
        . rw[yaj e4];by_cases e5:i=j - 1
          . omega
          . exact u i (j - 1) (by omega) (by omega)
        . rw[yai e4];exact u i j hij (by omega)
omit O in
theorem Arr.two{p:Array Nat}(h:Arr n p){i j:Nat}(hi:i < n)(hj:j < n)(hne:i≠j):p.getD i 0 < n/\p.getD j 0 < n/\p.getD i 0≠p.getD j 0:=⟨h.lt hi,h.lt hj,λe=>hne (h.inj hi hj e)⟩
omit O in
theorem ziX{p:Array Nat}(h:Arr n p):∀(f k:Nat),1<=k->k+f<=n->Below a n (kas_asc p f k)
 | 0,_,_,_=>trivial
 | f+1,k,h1,hk=>by
  refine⟨h.two (by omega) (by omega) (by omega),?_⟩;cases a (p.getD k 0) (p.getD (k - 1) 0) with
  | true=>exact trivial
  | false=>exact ziX h f (k+1) (by omega) (by omega)
theorem zjR{p:Array Nat}(h:Arr n p):∀(f k:Nat),1<=k->k+f<=n->Below a n (kas_desc f p k 0)
 | 0,_,_,_=>trivial
 | f+1,k,h1,hk=>by
  refine⟨h.two (by omega) (by omega) (by omega),?_⟩;cases q:a (p.getD k 0) (p.getD (k - 1) 0) with
  | true =>
   show Below a n (if 0 > 0 then kas_desc f (kas_rev p (k - (0+1)) k) (k+1) 0 else kas_desc f p (k+1) 0);rw[yai (by omega)];exact zjR h f (k+1) (by omega) (by omega)
  | false =>
   have nx:=O.le h (i:=k) (j:=k - 1) (by omega) (by omega) (by omega) q;refine⟨h.two (by omega) (by omega) (by omega),?_⟩;rw[nx];exact trivial
theorem zm3{p:Array Nat}(h:Arr n p)(hn:1<=n):Below a n (kas_count n p):=by
 have u1:Up a p 1:=λi j hij hj=>by omega
 obtain⟨g1,g2,g3,g4⟩:=zoa O h (n - 1) 1 (yaf _) (by omega) u1;unfold kas_count;refine zc1 (ziX h (n - 1) 1 (yaf _) (by omega)) ?_;generalize run a (kas_asc p (n - 1) 1)=r at g1 g2 g3 g4 ⊢;by_cases e:(r == n)=true
 . rw[yaj e];exact trivial
 . rw[yai e];have ne:r≠n:=by simpa using e
   by_cases hr:r > 1
   . rw[yaj hr];have q:a (p.getD 0 0) (p.getD (r - 1) 0)=true:=g3 0 (r - 1) (by omega) (by omega);refine⟨h.two (by omega) (by omega) (by omega),?_⟩;rw[q];exact trivial
   . rw[yai hr];have hr1:r=1:=by omega
     subst hr1;have q:=g4 (by omega);have d2:Dn a p 2:=(show Dn a p 1 from λi j hij hj=>by omega).snoc O.tr (.inr q);obtain⟨m,em,m1,m2,dm⟩:=zm1 O h (n - (1+1)) 2 (by omega) (by omega) d2;unfold kas_descPart;refine zc1 (zjR O h (n - (1+1)) 2 (by omega) (by omega)) ?_;rw[em];dsimp only;rw[yai (by omega)];unfold kas_tail3;exact zc1 (ziX (h.rev 0 m) (n - m) m (by omega) (by omega)) trivial
omit O in
theorem zfO{p:Array Nat}(h:Arr n p){k:Nat}(hk:k < n):∀(f l r:Nat),r<=k->Below a n (kas_place p k f l r)
 | 0,_,_,_=>trivial
 | f+1,l,r,hr=>by
  unfold kas_place;by_cases hlr:l ≥ r
  . rw[yaj hlr];exact trivial
  . rw[yai hlr];refine⟨h.two hk (by omega) (by omega),?_⟩;cases a (p.getD k 0) (p.getD ((l+r) / 2) 0) with
    | true=>exact zfO h hk f l _ (by omega)
    | false=>exact zfO h hk f _ r hr
omit O in
theorem zl7:∀(f:Nat) (p:Array Nat) (k:Nat),Arr n p->k+f=n->Below a n (kas_bin f p k)
 | 0,_,_,_,_=>trivial
 | f+1,p,k,h,e=>by
  unfold kas_bin;exact zc1 (zfO h (by omega) k 0 k (yaf _)) (zl7 f _ (k+1) (h.bub k _) (by omega))
theorem zop(hn:1<=n):Below a n (kas_sort n):=by
 have h0:Arr n (List.toArray (List.range n)):=yd2 _;obtain⟨c1,c2,c3,c4⟩:=zn6 O h0 hn;unfold kas_sort;refine zc1 (zm3 O h0 hn) ?_;by_cases h:(run a (kas_count n (List.toArray (List.range n)))).1 < n
 . rw[yaj h];exact zl7 _ _ _ c3 (by omega)
 . rw[yai h];exact trivial
theorem zps(hn:1<=n):Arr n (run a (kas_sort n))/\Up a (run a (kas_sort n)) n:=by
 have h0:Arr n (List.toArray (List.range n)):=yd2 _;obtain⟨c1,c2,c3,c4⟩:=zn6 O h0 hn;unfold kas_sort;rw[run_bind];generalize run a (kas_count n (List.toArray (List.range n)))=r at c1 c2 c3 c4 ⊢;obtain⟨m,p⟩:=r;dsimp only at c1 c2 c3 c4 ⊢;by_cases h:m < n
 . rw[yaj h,show max m 1=m by omega];exact zsb O (n - m) p m c3 (by omega) c4
 . rw[yai h];have:m=n:=by omega
   subst this;exact⟨c3,c4⟩
end
end S5
end
section
namespace S5
open PySem PySem.W PyProof.Rows
def ziZ(a:Addr)(h h':Heap):Prop:=∀b o,b≠a->h.get? b=some o->h'.get? b=some o
def picked(vs:List Value)(p:Array Nat):List Value:=p.toList.map λi=>vs.getD i Value.none
section
variable{prog:Program}{w:World}{A:Around}{E:Value->Shared->Prop}{s:Shared}
theorem zpt{a:Addr}{vs:List Value}{c:Nat}{κ:SortKind}{lt:Nat->Nat->Bool}{P:PySem.Fin->Shared->Prop}(ho:s.heap.get? a=some (seqObj "list" vs.toArray c))(h64:vs.length < 64)(O:Ord lt vs.length)
   (hk:∀h1,ziZ a s.heap h1->2<=vs.length->∀Q:SortKind->Shared->Prop,Q κ { s with heap:=h1 }->wpAny (model prog w) A (keyKind' vs.toArray) Q (λ_ _=>False) { s with heap:=h1 })
   (hlt:∀h1,ziZ a s.heap h1->∀i j,i < vs.length->j < vs.length->i≠j->∀Q:Bool->Shared->Prop,Q (lt i j) { s with heap:=h1 }->wpAny (model prog w) A (keyLt' κ (vs.getD i Value.none) (vs.getD j Value.none)) Q (λ_ _=>False) { s with heap:=h1 })
   (h:∀p h' c',Arr vs.length p->Up lt p vs.length->ziZ a s.heap h'->h'.get? a=some (seqObj "list" (picked vs p).toArray c')->P (.done (.ret .none)) { s with heap:=h' }) :
   wpAny (model prog w) A (Builtin.«list.sort» ⟨[.ref a], []⟩) P E s := by
 have big:∀{k:Nat},k < 64->k<=sizeLine:=λhk'=>by rw[yaw];omega
 rw[list_sort_plain];refine yab (listItems_at ho rfl (yab (listUpdate_at ho rfl ?_ (by rw[yaB];exact big h64) (ya1 _))));have e1:=get?_update_seq ho λ_=>(#[]:Array Value)
 generalize (if ((λ_=>(#[]:Array Value)) vs.toArray).size == vs.toArray.size then c else c+1)=c1 at e1;generalize hg1:s.heap.update a (Obj.mapSeq λ_=>(#[]:Array Value))=g1 at e1 ⊢;have k1:ziZ a s.heap g1:=λb o hb q=>by rw[<-hg1,ya5 _ _ (ybn hb)];exact q
 refine yab (seqEpoch_at e1 rfl (yab (wpAny_newTuple ?_ (by show vs.toArray.toList.length<=_;exact big (by simpa using h64)))));refine yab (wpAny_newList (ybw ?_) (ya1 _));dsimp only;generalize hg2:(g1.push { cls:=.type "tuple",data:=.seq vs.toArray.toList.toArray }).push { cls:=.type "list",data:=.seq ([]:List Value).toArray }=g2;have k2:∀b o,g1.get? b=some o->g2.get? b=some o:=λb o q=>by rw[<-hg2];exact yae _ (yae _ q)
 have e2:g2.get? a=some (seqObj "list" #[] c1):=k2 _ _ e1;have kk:ziZ a s.heap g2:=λb o hb q=>k2 b o (k1 b o hb q);have fin:∀(p:Array Nat),Arr vs.length p->Up lt p vs.length->∀(st:SortSt),(arrOf st).map (·.2)=(picked vs p).toArray->failedOf st=none ->
    wpAny (model prog w) A (do
     let touched:=(<-seqEpoch a) != c1
     Builtin.List.listUpdate (.ref a) λ_=>(arrOf st).map (·.2)
     if let some e:=failedOf st then rule "list.sort.comparison-raised";throw e
     if touched then rule "list.sort.modified";raiseError "ValueError" "list modified during sort"
     ret .none) P E { s with heap:=g2 }:=λp hp hu st es hf=>by
   have lp:(picked vs p).length=vs.length:=by unfold picked;rw[yaa,yaO,hp.size]
   refine yab (seqEpoch_at e2 rfl (yab (listUpdate_at e2 rfl ?_ (ya1 _) (by rw[es,yaB,lp];exact ybQ (big h64)))));rw[hf,es];simp only[bne_self_eq_false,yaX,ybV];exact yag (h p _ _ hp hu (λb o hb q=>by rw[ya5 _ _ (ybn hb)];exact kk b o hb q) (get?_update_seq e2 λ_=>(picked vs p).toArray))
 by_cases h2:vs.toArray.size < 2
 . rw[yaj h2,yaj h2];refine yab (yag ?_);rw[StateT.run_pure];refine yab (yag ?_);have hl:vs.length < 2:=by simpa using h2
   refine fin (List.range vs.length).toArray (yd2 _) (λi j hij hj=>by omega) (SortSt.mk' general' (vs.toArray.zip vs.toArray) #[] 7 none) ?_ rfl;show(vs.toArray.zip vs.toArray).map (·.2)=_;apply Array.toList_inj.mp;unfold picked
   match vs,hl with
   | [],_=>simp
   | [v],_=>simp
 . rw[yai h2,yai h2];have hl:2<=vs.length:=by simpa using h2
   refine yab (ybk (hk g2 kk hl (λκ' s'=>κ'=κ/\s'={ s with heap:=g2 }) ⟨rfl,rfl⟩) (λκ' s' hq=>?_) λ_ _ z=>z.elim);obtain⟨rfl,rfl⟩:=hq;have ask:(kas_sort vs.length).kasWp (kas_ask prog w A κ' vs) (λp s'=>s'={ s with heap:=g2 }/\Arr vs.length p/\Up lt p vs.length) { s with heap:=g2 } :=
    wp_run (λi j C hi hj hne hc=>hlt g2 kk i j hi hj hne C hc) _ _ (zop O (by omega)) ⟨rfl,(zps O (by omega)).1,(zps O (by omega)).2⟩
   refine yab (ybk (kat_run (vs:=vs) (ks:=vs) (Q:=λst' s'=>s'={ s with heap:=g2 }/\∃p,Arr vs.length p/\Up lt p vs.length/\(arrOf st').map (·.2)=(picked vs p).toArray/\failedOf st'=none) rfl hl h64 (λp st' s' hz har hf hg=>⟨hg.1,p,hg.2.1,hg.2.2,kat_snds rfl har,hf⟩) ask) ?_ λ_ _ z=>z);rintro⟨⟨⟩,st'⟩ s' ⟨rfl,p,hp,hu,es,hf⟩;exact fin p hp hu st' es hf
end
end S5
end
section
namespace L2
open PySem PySem.Spec PyProof.Rows PySem.W S5
theorem Inv.zto{X:Cx}{pins:List (Addr×Obj)}{σ:St}{H:Hp}{s:Shared}{a:Addr}{o:HO}(I:Inv X pins σ H s)(f:FpOk X pins H a)(new:zbM X.prog X.w (upd H a o) s.heap a o):Inv X pins σ (upd H a o) s:=by
 obtain⟨f0,f1,f2,f3,f4,f5⟩:=f;have tr:∀b u,H b=some u->b≠a:=λb u e z=>by rw[z,f0]at e;cases e
 have J:=I.step (H':=upd H a o) (h':=s.heap) (g':=s.gens) (t':=s.toks) (d':=s.drawn) (ch:=[a]) (λb hb=>by
  have e:b=a:=by simpa using hb
  subst e;exact⟨f3,f1,f4,f5⟩) (λb u _ _ _ q _=>q) (λb u _ _ _ q _=>⟨u.slots,q⟩) (λb u hb q n=>by rw[zag (λz=>hb (by simp[z]))];exact n) (λb u _ q=>⟨u,q⟩)
  (λb xs q=>by rw[zag (tr b _ q)];exact q) (λb u xs q=>by rw[zag (tr b _ q)];exact q) (λb ps q=>⟨#[],by rw[zag (tr b _ q),q];simp⟩) (λm hm=>hm) (λb u e=>by
   by_cases hb:b=a
   . subst hb;rw[zab]at e;cases e;exact new
   . rw[zag hb]at e;exact(I.hok b u e).stay (λ_ _ _ q=>q) (λc q=>by rw[zag (tr c _ q)];exact q) λc xs q=>by rw[zag (tr c _ q)];exact q) I.bare
 exact J
def kLt:Key->Key->Bool
 | .inl a,.inl b=>decide (a < b)
 | .inr x,.inr y=>decide (x.cps.toList < y.cps.toList)
 | _,_=>false
def zef(ks:List Key):Prop:=(∀k∈ks,∃i,k=Sum.inl i)\/∀k∈ks,∃x,k=Sum.inr x
theorem zmR:∀k:Key,kLt k k=false
 | .inl a=>by show decide (a < a)=false;simp
 | .inr x=>by show decide (x.cps.toList < x.cps.toList)=false;simpa using List.lt_irrefl _
theorem zqd:∀{a b c:Key},kLt a b=true->kLt b c=true->kLt a c=true
 | .inl a,.inl b,.inl c,h1,h2=>by
  have h1':decide (a < b)=true:=h1;have h2':decide (b < c)=true:=h2;show decide (a < c)=true;simp only[ybm]at *;omega
 | .inr a,.inr b,.inr c,h1,h2=>by
  have h1':decide (a.cps.toList < b.cps.toList)=true:=h1;have h2':decide (b.cps.toList < c.cps.toList)=true:=h2;show decide (a.cps.toList < c.cps.toList)=true;simp only[ybm]at *;exact List.lt_trans h1' h2'
 | .inl _,.inr _,_,h1,_=>by cases h1
 | .inr _,.inl _,_,h1,_=>by cases h1
 | .inl _,.inl _,.inr _,_,h2=>by cases h2
 | .inr _,.inr _,.inl _,_,h2=>by cases h2
theorem zso{x y:Str}(h:x.cps.toList=y.cps.toList):x=y:=by
 obtain⟨a⟩:=x;obtain⟨b⟩:=y;have:a=b:=Array.toList_inj.mp h;rw[this]
theorem zqe{ks:List Key}(one:zef ks){a b:Key}(ha:a∈ks)(hb:b∈ks)(hne:a≠b):kLt a b=true\/kLt b a=true:=by
 rcases one with h | h
 . obtain⟨i,rfl⟩:=h a ha;obtain⟨j,rfl⟩:=h b hb;have:i≠j:=λe=>hne (by rw[e]);show decide (i < j)=true\/decide (j < i)=true;simp only[ybm];omega
 . obtain⟨x,rfl⟩:=h a ha;obtain⟨y,rfl⟩:=h b hb;show decide (x.cps.toList < y.cps.toList)=true\/decide (y.cps.toList < x.cps.toList)=true;simp only[ybm];by_cases h1:x.cps.toList < y.cps.toList
   . exact .inl h1
   . by_cases h2:y.cps.toList < x.cps.toList
     . exact .inr h2
     . exact absurd (zso (List.le_antisymm (List.not_lt.mp h2) (List.not_lt.mp h1))) (λe=>hne (by rw[e]))
abbrev atK(ks:List Key)(i:Nat):Key:=ks.getD i (Sum.inl 0)
theorem zkP{ks:List Key}{i:Nat}(h:i < ks.length):ks[i]?=some (atK ks i):=by
 unfold atK;rw[ya0,yax h];rfl
theorem ze2{ks:List Key}{i:Nat}(h:i < ks.length):atK ks i∈ks:=yaS (zkP h)
theorem ordK{ks:List Key}(nd:ks.Nodup)(one:zef ks):Ord (λi j=>kLt (atK ks i) (atK ks j)) ks.length :=
 ⟨λi=>zmR _,λi j k h1 h2=>zqd h1 h2,λi j hi hj hne=>zqe one (ze2 hi) (ze2 hj) λe=>hne (by
  have e1:=zkP hi;have e2:=zkP hj;rw[e]at e1;obtain⟨_,q1⟩:=yar.mp e1;obtain⟨_,q2⟩:=yar.mp e2;exact(ydF (h₀:=hi) (h₁:=hj) nd).mp (q1.trans q2.symm))⟩
section
variable{prog:Program}{w:World}{A:Around}{E:Value->Shared->Prop}{s:Shared}
theorem zp4{k l:Key}{u v:Value}{Q:Bool->Shared->Prop}(one:zef [k,l])(hu:RelV (kV k) u)(hv:RelV (kV l) v)(h:Q (kLt k l) s):wpAny (model prog w) A (oneLt' true u v) Q E s:=by
 rcases one with o | o
 . obtain⟨i,rfl⟩:=o k (by simp);obtain⟨j,rfl⟩:=o l (by simp);obtain⟨t,rfl⟩:=(show ∃t,u=Value.int i t from hu)
   obtain⟨t',rfl⟩:=(show ∃t,v=Value.int j t from hv)
   exact oneLt_int h
 . obtain⟨x,rfl⟩:=o k (by simp);obtain⟨y,rfl⟩:=o l (by simp);obtain⟨t,rfl⟩:=(show ∃t,u=Value.str x t from hu)
   obtain⟨t',rfl⟩:=(show ∃t,v=Value.str y t from hv)
   exact oneLt_str h
def kTy:List Key->String
 | .inr _::_ => "str"
 | _ => "int"
theorem ty_keys{ks:List Key}(one:zef ks){k:Key}(hk:k∈ks){u:Value}(hu:RelV (kV k) u)(M:Model)(h:Heap):Looks M h (typeOf u) (.type (kTy ks)):=by
 cases ks with
 | nil=>cases hk
 | cons k0 r =>
  rcases one with o | o
  . obtain⟨i,rfl⟩:=o k hk;obtain⟨j,rfl⟩:=o k0 (by simp);obtain⟨t,rfl⟩:=(show ∃t,u=Value.int i t from hu)
    exact Looks.of_pure rfl
  . obtain⟨x,rfl⟩:=o k hk;obtain⟨y,rfl⟩:=o k0 (by simp);obtain⟨t,rfl⟩:=(show ∃t,u=Value.str x t from hu)
    exact Looks.of_pure rfl
theorem znT(ks:List Key):kTy ks = "str" \/ kTy ks = "int" := by
 unfold kTy;split
 . exact .inl rfl
 . exact .inr rfl
def zkS(h h':Heap):Prop:=∀b o,h.get? b=some o->h'.get? b=some o
theorem zpr{a:Addr}{PC:List Value->Heap->Prop}{Q:Value->Shared->Prop}
  (hcol:∀R:List Value->Shared->Prop,(∀h' tk vs,zkS s.heap h'->PC vs h'->R vs { s with heap:=h',toks:=tk })->wpAny (model prog w) A.in1 (collect (.ref a)) R E s)
  (h64:∀vs h',PC vs h'->vs.length < 64)
  (hsort : ∀ h' tk vs, zkS s.heap h' → PC vs h' → wpAny (model prog w) A.in1.in1 (Builtin.«list.sort» ⟨[.ref h'.objs.size], []⟩) (fun fin s' => fin = .done (.ret .none) ∧ Q (.ref h'.objs.size) s') E { s with heap := h'.push { cls := .type "list", data := .seq vs.toArray }, toks := tk }) :
  wpAny (model prog w) A (call (.builtin "sorted") [.ref a]) Q E s:=by
 refine Calls.call_function_entry kind_sorted plain_sorted entry_sorted (args_sorted1 _) ?_;unfold Builtin.«sorted»;refine yab (m:=checkCount "sorted" 1 1 _) (yag (yab (hcol _ λ h' tk vs hk hp=>?_)));refine yab (wpAny_newList ?_ (by have:=h64 vs h' hp; rw [yaw]; omega));refine yab (ybw (ybK slot_list_sort ⟨_,yaC _ rfl,rfl⟩ entry_list_sort ?_ (args_list_sort _)));refine ybk (hsort h' tk vs hk hp) (λ fin s' hq=>?_) λ _ _ z=>z;obtain ⟨rfl,hq⟩:=hq;exact ⟨_,rfl,yag ⟨_,rfl,hq⟩⟩
end
end L2
end
section
namespace L2
open PySem PySem.Spec PyProof.Rows PySem.W S5
theorem Inv.zug{X:Cx}{pins:List (Addr×Obj)}{σ:St}{H:Hp}{s:Shared}{a:Addr}(I:Inv X pins σ H s)(hb:∀b o,s.heap.get? b=some o->b < a):FpOk X pins H a:=by
 have nL:X.env.locals < a:=by
   obtain⟨m,⟨o,_,_,e,_⟩,_⟩:=I.loc;exact hb _ _ e
 refine⟨?_,ydf nL,λz=>?_,.inr (yaA I.ok.above (yco nL)),λx c e z=>?_,λp hp z=>?_⟩
 . cases q:H a with
   | none=>rfl
   | some u =>
    obtain⟨o,e⟩:=(I.hok a u q).there;exact absurd (hb _ _ e) (ybb _)
 . obtain⟨_,o,e,_⟩:=I.funs.mem z;exact absurd (hb _ _ e) (ybb _)
 . obtain⟨v,o,e,_⟩:=I.cell x c e;subst z;exact absurd (hb _ _ e) (ybb _)
 . have e:=(I.pin p hp).1;rw[z]at e;exact absurd (hb _ _ e) (ybb _)
theorem range_getD{α:Type}(xs:List α)(d:α):(List.range xs.length).map (λi=>xs.getD i d)=xs:=by
 apply List.ext_getElem
 . simp
 . intro i h1 h2;simp[h2]
def zie{α:Type}(xs:List α)(d:α)(p:Array Nat):List α:=p.toList.map λi=>xs.getD i d
theorem zgh{α:Type}(xs:List α)(d:α){p:Array Nat}(h:Arr xs.length p):(zie xs d p).Perm xs:=by
 have q:=List.Perm.map (λi=>xs.getD i d) h;rw[range_getD]at q;exact q
theorem zlo{α:Type}(xs:List α)(d:α){lt:α->α->Bool}{p:Array Nat}(h:Arr xs.length p)(u:Up (λi j=>lt (xs.getD i d) (xs.getD j d)) p xs.length):(zie xs d p).Pairwise (λa b=>lt a b=true):=by
 unfold zie;rw[ycN,ycA];intro i j hi hj hij;have hs:=h.size;have hj':j < xs.length:=by rw[yaO]at hj;omega
 have q:=u i j hij hj';have e:∀k (hk:k < p.toList.length),p.getD k 0=p.toList[k]:=λk hk=>by
  rw[yaT,yaM (by rw[yaO]at hk;exact hk)];simp
 rw[e i hi,e j hj]at q;exact q
theorem zkY{xs:List V}{vs:List Value}(r:Vals xs vs){p:Array Nat}(h:Arr xs.length p):Vals (zie xs .non p) (picked vs p):=by
 have key:∀l:List Nat,(∀i∈l,i < xs.length)->Vals (l.map λi=>xs.getD i .non) (l.map λi=>vs.getD i Value.none):=λl=>by
  induction l with
  | nil=>intro _;exact .nil
  | cons i t ih =>
   intro hl;have hi:i < xs.length:=hl i (by simp);obtain⟨u,e1,e2⟩:=r.get (yax hi);refine .cons ?_ (ih λj hj=>hl j (yad _ hj));show RelV (xs.getD i V.non) (vs.getD i Value.none);rw[ya0,yax hi,ya0,e1];exact e2
 exact key p.toList λi hi=>yaV.mp (h.mem_iff.mp hi)
theorem znE{α:Type}(f:α->V)(xs:List α)(d:α){p:Array Nat}(h:Arr xs.length p):zie (xs.map f) .non p=(zie xs d p).map f:=by
 unfold zie;rw[ya7];refine ybq λi hi=>?_;have hi':i < xs.length:=yaV.mp (h.mem_iff.mp hi);show(xs.map f).getD i .non=f (xs.getD i d);rw[ya0,ya0,yak,yax hi']
 rfl
def KSrc(K:Frag)(H:Hp)(p:Addr)(ks:List Key):Prop:=SqL K H p (ks.map kV)\/∃kvs:List (Key×V),H p=some (.dK kvs)/\kvs.map (·.1)=ks
theorem zfd{ks:List Key}{vs:List Value}(r:Vals (ks.map kV) vs){i:Nat}(hi:i < ks.length):RelV (kV (atK ks i)) (vs.getD i Value.none):=by
 have e:(ks.map kV)[i]?=some (kV (atK ks i)):=by rw[yak,zkP hi];rfl
 obtain⟨u,e1,e2⟩:=r.get e;rw[ya0,e1];exact e2
theorem zpQ{ks:List Key}(one:zef ks){a b:Key}(ha:a∈ks)(hb:b∈ks):zef [a,b]:=by
 rcases one with o | o
 . exact .inl λk hk=>by
    rcases yat.mp hk with z | z
    . rw[z];exact o a ha
    . have:k=b:=by simpa using z
      rw[this];exact o b hb
 . exact .inr λk hk=>by
    rcases yat.mp hk with z | z
    . rw[z];exact o a ha
    . have:k=b:=by simpa using z
      rw[this];exact o b hb
section
variable{X:Cx}
theorem zeo(hc:X.calm=true):zhg X (.builtin "sorted") (λxs H Q=>∃p ks,xs=[.ref p]/\KSrc X.K H p ks/\ks.Nodup/\zef ks/\ks.length < 64 /\
   ∀(ys:List Key) (l:Addr),ys.Perm ks->ys.Pairwise (λa b=>kLt a b=true)->H l=none->Q (.ref l) (upd H l (.lst (ys.map kV)))):=by
 intro pins s σ H xs us Q I r h;obtain⟨p,ks,rfl,src,nd,one,h64,h⟩:=h;obtain⟨u,rfl,ru⟩:=Vals.one r;cases ru;refine zpr (PC:=λvs _=>Vals (ks.map kV) vs) (λR hR=>?_) (λvs _ hv=>by rw[<-hv.length,yaa];exact h64) (λh' tk vs hk hv=>?_)
 . rcases src with hq | ⟨kvs,hd,hks⟩
   . obtain⟨its,rv,pl,hz⟩:=I.list hq;refine collect_list pl.isList (hR _ s.toks its (λb o e=>?_) rv) (by rw[<-rv.length];exact hz);have hb:=yau e;rw[ya5 _ _ (ydf hb)];exact yae _ e
   . obtain⟨z,lo,vs,rel,dd⟩:=zlZ I.hok hd;obtain⟨ep,hat⟩:=dd.dictAt;refine kdu_collect (A:=X.A.in1) (kdl_dict (knd:=zaR X.prog X.w) (kvs:=vs) (ep:=ep) lo) (I.ok.hd hc) hat (by rw[<-rel.length];exact z) λh' tk acc hk hacc=>hR h' tk acc.toList hk ?_;have hl:acc.toList.length=ks.length:=by rw[yaO,hacc.1,<-rel.length,<-hks,yaa]
     have key:∀(l1:List Key) (l2:List Value) (off:Nat),l2.length=l1.length->(∀j v,l2[j]?=some v->∃k,l1[j]?=some k/\RelV (kV k) v)->Vals (l1.map kV) l2:=λl1=>by
       induction l1 with
       | nil=>intro l2 _ hl2 _;cases l2 with
         | nil=>exact .nil
         | cons _ _=>simp at hl2
       | cons k t ih =>
         intro l2 off hl2 hj;cases l2 with
         | nil=>simp at hl2
         | cons v t2 =>
          obtain⟨k',e1,e2⟩:=hj 0 v rfl;have:k=k':=yaL e1;subst this;exact .cons e2 (ih t2 off (by simpa using hl2) λj w hw=>hj (j+1) w (by simpa using hw))
     refine key ks acc.toList 0 hl λj v hj=>?_;obtain⟨k,x,e1,e2⟩:=hacc.2 j v (by rw[<-ybF];exact hj);refine⟨k,?_,?_⟩
     . rw[<-hks,KV.keys rel,yak,e1];rfl
     . rcases za2 (show zjf k v=true from e2) with ⟨i,t,rfl,rfl⟩ | ⟨x',t,rfl,rfl⟩
       . exact⟨t,rfl⟩
       . exact⟨t,rfl⟩
 . have hl:vs.length=ks.length:=by rw[<-hv.length,yaa]
   have O:=ordK nd one;rw[<-hl]at O;refine zpt (s:={ s with heap:=h'.push { cls:=.type "list",data:=.seq vs.toArray },toks:=tk }) (κ:=oneType') (c:=0) (yaC _ rfl) (by rw[hl];exact h64) O (λh1 _ h2 Qk hq=>?_) (λh1 _ i j hi hj hne Qb hq=>?_) (λq h3 c' hp hu hkb hg=>⟨rfl,?_⟩)
   . refine kas_kind (T:=.type (kTy ks)) h2 (λv hvm=>?_) ?_ ?_ hq
     . obtain⟨i,hi⟩:=ycS.mp hvm;have hi':i < ks.length:=by rw[<-hl];exact(yar.mp hi).1
       have:=zfd hv hi';rw[ya0,hi]at this;exact ty_keys one (ze2 hi') this _ _
     . rcases znT ks with z | z<;>rw[z]<;>decide
     . rcases znT ks with z | z<;>rw[z]<;>decide
   . rw[keyLt'_oneType];rw[hl]at hi hj;exact zp4 (zpQ one (ze2 hi) (ze2 hj)) (zfd hv hi) (zfd hv hj) hq
   . rw[hl]at hp hu;have keepAll:∀b o,s.heap.get? b=some o->h3.get? b=some o:=λb o e=>hkb b o (yaI (yau (hk b o e))) (yae _ (hk b o e));have I1:Inv X pins σ H { s with heap:=h3,toks:=tk }:=I.kept keepAll;have fp:=I.zug (a:=h'.objs.size) λb o e=>yau (hk b o e);have vp:=zkY hv (p:=q) (by rw[yaa];exact hp);rw[znE kV ks (Sum.inl 0) hp]at vp;have lp:(zie ks (Sum.inl 0) q).length=ks.length:=(zgh ks (Sum.inl 0) hp).length_eq;refine⟨.ref h'.objs.size,upd H h'.objs.size (.lst ((zie ks (Sum.inl 0) q).map kV)),?_,rfl,h _ _ (zgh ks _ hp) (zlo ks _ hp hu) fp.1⟩;have f2:FpOk X pins H h'.objs.size:=fp;exact I1.zto f2 ⟨by rw[yaa,lp,yaw];omega,picked vs q,c',vp,hg⟩
end
end L2
end
section
namespace L2
open PySem PySem.Spec PySem.W PyProof.Rows S5
section
variable{X:Cx}{x:Str}{pos:Pos}
theorem zci{y:Str}(hg:Gl X x)(hm:∃t,X.mg x=some (.str y t))(hd:(x == ("__debug__" : Str))=false:=by decide):PE X (.Name x pos) (tC (.str y)):=by
 obtain⟨t,e⟩:=hm;exact zmB hg e ⟨t,rfl⟩ hd
theorem zuQ{i:Int}(hg:Gl X x)(hm:∃t,X.mg x=some (.int i t))(hd:(x == ("__debug__" : Str))=false:=by decide):PE X (.Name x pos) (tC (.int i)):=by
 obtain⟨t,e⟩:=hm;exact zmB hg e ⟨t,rfl⟩ hd
end
mutual
inductive DV(H:Hp):V->Dat->Prop
 | non:DV H .non .none
 | int (i:Int):DV H (.int i) (.int i)
 | str (x:Str):DV H (.str x) (.str x)
 | tup {p:Addr} {vs:List V} {ds:List Dat}:H p=some (.tup vs)->DVs H vs ds->DV H (.ref p) (.tuple ds)
 | lst {p:Addr} {vs:List V} {ds:List Dat}:H p=some (.lst vs)->DVs H vs ds->DV H (.ref p) (.list ds)
inductive DVs(H:Hp):List V->List Dat->Prop
 | nil:DVs H [] []
 | cons {v:V} {vs:List V} {d:Dat} {ds:List Dat}:DV H v d->DVs H vs ds->DVs H (v::vs) (d::ds)
end
section
variable{P:Program}{w:World}{H:Hp}{h:Heap}
mutual
theorem DV.reads(hok:HOk P w H h):∀{v:V} {d:Dat} {u:Value},DV H v d->RelV v u->∃as,Reads h u (kqdP d) as
 | _,_,_,.non,r=>by cases r;exact⟨_,.none⟩
 | _,_,_,.int i,r=>by obtain⟨t,rfl⟩:=r;exact⟨_,.int i t⟩
 | _,_,_,.str x,r=>by obtain⟨t,rfl⟩:=r;exact⟨_,.str x t⟩
 | _,_,_,.tup e q,r=>by
  cases r;obtain⟨_,its,rv,o,ho,hc,n,hd⟩:=hok _ _ e;obtain⟨as,ra⟩:=DVs.reads hok q rv;rw[kqdP];exact⟨_,.tuple ho hc hd (by simpa using ra)⟩
 | _,_,_,.lst e q,r=>by
  cases r;obtain⟨_,its,n,rv,ho⟩:=hok _ _ e;obtain⟨as,ra⟩:=DVs.reads hok q rv;rw[kqdP];exact⟨_,.list ho rfl rfl (by simpa using ra)⟩
theorem DVs.reads(hok:HOk P w H h):∀{vs:List V} {ds:List Dat} {us:List Value},DVs H vs ds->Vals vs us->∃as,ReadsAll h us (kqdPs ds) as
 | _,_,_,.nil,r=>by cases r;exact⟨_,.nil⟩
 | _,_,_,.cons a b,r=>by
  cases r with
  | cons r1 r2 =>
   obtain⟨as,q⟩:=DV.reads hok a r1;obtain⟨bs,q'⟩:=DVs.reads hok b r2;rw[kqdPs];exact⟨_,.cons q q'⟩
end
theorem DVs.length{H:Hp}:∀{vs:List V} {ds:List Dat},DVs H vs ds->vs.length=ds.length
 | _,_,.nil=>rfl
 | _,_,.cons _ r=>yaZ (·+1) (DVs.length r)
end
abbrev zeb(d:Dat):Prop:=kqdOk 8 d=true
open Classical in
theorem zm2{d e:Dat}(hd:zeb d)(he:zeb e):PyData.eqv (kqdP d) (kqdP e)=decide (d=e):=by
 have q:=kqd_eqv 8 d e 8 hd he;by_cases h:d=e
 . rw[yaz h];exact q.mpr h
 . rw[yay h];exact Bool.eq_false_iff.mpr λz=>h (q.mp z)
theorem zc0{d:Dat}(hd:zeb d):SeqAt.shaped (kqdP d)=true:=by
 have l:=kqd_lay 8 d hd;unfold SeqAt.shaped;rw[l.1,Bool.true_and];exact yaz (yaA l.2 (by decide))
section
variable{X:Cx}
open Classical in
noncomputable def rEqD:R2:=λx y H Q=>∃d e,DV H x d/\DV H y e/\zeb d/\zeb e/\Q (.bl (decide (d=e))) H
open Classical in
noncomputable def rNeD:R2:=λx y H Q=>∃d e,DV H x d/\DV H y e/\zeb d/\zeb e/\Q (.bl (!decide (d=e))) H
theorem zt3(hu:X.A.units+64 < cLine):OpR X (compareOp .Eq) rEqD:=by
 intro pins s σ H x y v u Q I rx ry h;obtain⟨d,e,hd,he,kd,ke,q⟩:=h;obtain⟨as,ra⟩:=hd.reads I.hok rx;obtain⟨bs,rb⟩:=he.reads I.hok ry;exact eq_dataH ra rb (zc0 kd) (zc0 ke) hu (by rw[zm2 kd ke];exact⟨.bl _,H,I,rfl,q⟩)
theorem zhj(hu:X.A.units+64 < cLine):OpR X (compareOp .NotEq) rNeD:=by
 intro pins s σ H x y v u Q I rx ry h;obtain⟨d,e,hd,he,kd,ke,q⟩:=h;obtain⟨as,ra⟩:=hd.reads I.hok rx;obtain⟨bs,rb⟩:=he.reads I.hok ry;exact ne_dataH ra rb (zc0 kd) (zc0 ke) hu (by rw[zm2 kd ke];exact⟨.bl _,H,I,rfl,q⟩)
theorem hu64{A:Around}{k:Nat}(hr:Room k A):A.units+64 < cLine:=hr.units
end
end L2
end
section
namespace L2
open PySem PySem.Spec PySem.W PyProof.Rows S5
section
variable{X:Cx}
theorem ziP:zhg X (.builtin "isinstance") (λxs H Q=>∃x c t b,xs=[x,.ty c]/\TyOf X.K H x t/\kitOne X.K t (.type c)=some b/\Q (.bl b) H):=by
 intro pins s σ H xs us Q I r h;obtain⟨x,c,t,b,rfl,ty,e,q⟩:=h;obtain⟨u,v,rfl,ru,rv⟩:=Vals.two r;cases rv;exact zlQ I ru ty e λtk=>⟨.bl b,H,I.tok tk,rfl,q⟩
def zrh:V->List V->Hp->VK->Prop:=λx vs H Q=>∃l xs y,x=.ref l/\vs=[.int 0,y]/\H l=some (.lst xs)/\xs.length < sizeLine/\Q .non (upd H l (.lst (y::xs)))
theorem zpZ:MtR X "list.insert" zrh:=by
 intro pins s σ H x vs v us Q I rx rv h;obtain⟨l,xs,y,rfl,rfl,hH,hz,q⟩:=h;cases rx;obtain⟨u1,u,rfl,r1,ru⟩:=Vals.two rv;obtain⟨t,rfl⟩:=r1;obtain⟨z,its,n,r,hl,e⟩:=I.lstM hH;refine yds F.slot_list_insert ⟨_,e,rfl⟩ F.entry_list_insert (F.args_list_insert_3 _ _ _) (AutoSeq1.list_insert_list_int_val_1 l its.toArray n 0 t u (by decide) (by rw[yaB];omega)) ⟨e,?_⟩;refine⟨.non,_,I.lset (its':=u::its) hH e ?_ (.cons ru r) ?_,rfl,q⟩
 . simp
 . rw[yaP];omega
def ztj(ds:List Dat)(e:Dat)(j:Nat):Prop:=ds[j]?=some e/\∀m < j,∀d,ds[m]?=some d->d≠e
def ztU:V->List V->Hp->VK->Prop:=λx vs H Q=>∃l xs y ds e j,x=.ref l/\vs=[y]/\H l=some (.lst xs)/\DVs H xs ds/\DV H y e/\(∀d∈ds,kqdOk 7 d=true)/\kqdOk 7 e=true/\ztj ds e j/\Q (.int j) H
theorem zqA{H:Hp}:∀{vs:List V} {ds:List Dat} {j:Nat} {d:Dat},DVs H vs ds->ds[j]?=some d->∃v,vs[j]?=some v/\DV H v d
 | _,_,_,_,.nil,e=>by simp at e
 | _,_,0,_,.cons a _,e=>by simp at e;subst e;exact⟨_,rfl,a⟩
 | _,_,j+1,_,.cons _ r,e=>by
  obtain⟨v,h1,h2⟩:=zqA (j:=j) r (by simpa using e);exact⟨v,by simpa using h1,h2⟩
theorem zfa{d:Dat}(h:kqdOk 7 d=true):kqdOk 8 d=true:=by
 have all:∀n d,kqdOk n d=true->kqdOk (n+1) d=true:=λn=>by
  induction n with
  | zero=>intro d h;cases d<;>simp_all[kqdOk]
  | succ n ih =>
   intro d h;cases d with
   | tuple ds=>simp only[kqdOk,ybh]at h ⊢;exact λx hx=>ih x (h x hx)
   | list ds=>simp only[kqdOk,ybh]at h ⊢;exact λx hx=>ih x (h x hx)
   | _=>simp_all[kqdOk]
 exact all 7 d h
theorem zrq(hu:X.A.units+64 < cLine):MtR X "list.index" ztU:=by
 intro pins s σ H x vs v us Q I rx rv h;obtain⟨l,xs,y,ds,e,j,rfl,rfl,hH,hds,he,kds,ke,⟨hj,hno⟩,q⟩:=h;cases rx;obtain⟨u,rfl,ru⟩:=Vals.one rv;obtain⟨z,its,n,r,hl,eo⟩:=I.lstM hH;obtain⟨as,ra⟩:=hds.reads I.hok r;obtain⟨bs,rb⟩:=he.reads I.hok ru;have lay:=kqd_lay 8 (.list ds) (by simp only[kqdOk,ybh];exact kds);rw[kqdP]at lay;have lays:PyData.canLayAll0 (kqdPs ds)=true:=by
   have:=lay.1;simpa[PyData.canLay0] using this
 have dep:PyData.depthAll (kqdPs ds)<=8:=by
   have:=lay.2;simp only[PyData.depth]at this;omega
 have laye:=kqd_lay 8 e (zfa ke);have jl:j < its.length:=by
   have:=(yar.mp hj).1;have h2:=hds.length;omega
 have eqs:∀(y':Value) (hy:y'∈its.toArray) (A':Around),A'.units<=X.A.units+40->SeqAt.EqAt A'.in1 s y' u (PyData.eqv (SeqAt.readOf s.heap y') (kqdP e)):=λy' hy A' hA =>
   SeqAt.items_eqAt (by simpa using ra) rb lays laye.1 (by have:=Nat.min_le_right (PyData.depthAll (kqdPs ds)) (kqdP e).depth;omega) y' hy
 have at_:∀(m:Nat) (hm:m < its.length) (d:Dat),ds[m]?=some d->SeqAt.readOf s.heap its[m]=kqdP d:=λm hm d hd=>by
   obtain⟨vm,h1,h2⟩:=zqA hds hd;obtain⟨um,h3,h4⟩:=r.get h1;have:its[m]=um:=by
    rw[yax hm]at h3;exact yaL h3
   obtain⟨cs,rc⟩:=h2.reads I.hok h4;rw[this];exact SeqAt.readOf_eq (kqd_lay 8 d (zfa (kds d (yaS hd)))).1 rc
 refine yds F.slot_list_index ⟨_,eo,rfl⟩ F.entry_list_index (F.args_list_index_2 _ _)
   (SeqAt.list_indexAt l its.toArray n none #[] u (λy'=>PyData.eqv (SeqAt.readOf s.heap y') (kqdP e)) j (by simpa using jl) ?_ ?_ ?_) ⟨eo,λy' hy=>eqs y' hy _ (by first | exact Nat.le_add_right _ _ | omega),⟨.int j,H,I.tok _,⟨_,rfl⟩,q⟩⟩
 . have:=z;rw[hl,yaw]at this;omega
 . show PyData.eqv (SeqAt.readOf s.heap its[j]) (kqdP e)=true;rw[at_ j jl e hj];exact(kqd_eqv 8 e e 8 (zfa ke) (zfa ke)).mpr rfl
 . intro m hm hmj;have hm':m < its.length:=by simpa using hm
   have hmd:m < ds.length:=by have h2:=hds.length;omega
   show PyData.eqv (SeqAt.readOf s.heap its[m]) (kqdP e)=false;rw[at_ m hm' ds[m] (yax hmd)];refine Bool.eq_false_iff.mpr λz=>hno m hmj ds[m] (yax hmd) ((kqd_eqv 8 _ e 8 (zfa (kds _ (List.getElem_mem hmd))) (zfa ke)).mp z)
end
end L2
end
section
namespace L2
open PySem PySem.Spec PySem.W PyProof.Rows S5
def ztt(td ty tx:TE):TE:=λσ H Q=>td σ H λx H1=>∃a,x=.ref a/\IsD H1 a/\ty σ H1 λy H2=>tx σ H2 λz H3=>∃kvs k,H3 a=some (.dK kvs)/\y=kV k/\kvs.length < sizeLine /\
 (∀v,valV kvs k=some v->Q v H3)/\(valV kvs k=none->Q z (upd H3 a (.dK (putK kvs k z))))
section
variable{X:Cx}{o e f:Expr}{apos cpos:Pos}{td ty tx:TE}
theorem znH(ho:PE X o td)(he:PE X e ty)(hf:PE X f tx)(m:M2 X o "setdefault" apos e f cpos):PE X (.Call (.Attribute o "setdefault" apos) [e,f] [] cpos) (ztt td ty tx):=by
 intro pins s σ H Q I h;refine ycP m.base m.few m.line ycg yc5 PySem.F.type_dict_setdefault (thn (ho pins s σ H _ I h) λu s1 ⟨x,H1,I1,rx,a,ex,d,q1⟩=>?_);subst ex;obtain rfl:u=Value.ref a:=rx;obtain⟨t1,t2,_⟩:=znW I1 d;refine⟨t1,t2,?_⟩;rw[m.trees];refine ybz rfl (ybN (ybx (thn (he pins s1 σ H1 _ I1 q1) λiv s2 ⟨y,H2,I2,ry,q2⟩ =>
   ybx (thn (hf pins s2 σ H2 _ I2 q2) λfv s3 ⟨z,H3,I3,rz,kvs,k,ea,ey,hl,q3,q4⟩=>ycv ?_))))
 subst ey;obtain⟨hz,hd,vs,rel,dd⟩:=zlZ I3.hok ea;refine ycs yc5 dd.typeIs PySem.F.entry_dict_setdefault (PySem.F.args_dict_setdefault_3 _ _ _) (kt_meets_setdefault (zaR X.prog X.w) a (ziB ry) hd fv) ⟨vs,dd,by rw[<-rel.length];exact hz,λv' hv=>?_,λhn h' dd' hs=>?_⟩
 . cases l:valV kvs k with
   | none =>
    have:=RelO.none_of (o:=valueAt vs k) (by rw[<-l];exact rel.val k);rw[this]at hv;cases hv
   | some v =>
    obtain⟨w',hw,rw'⟩:=RelO.some_of (v:=v) (o:=valueAt vs k) (by rw[<-l];exact rel.val k);rw[hw]at hv;cases hv;exact⟨v,H3,I3.tok _,rw',q3 v l⟩
 . have l:valV kvs k=none:=by
    cases l:valV kvs k with
    | none=>rfl
    | some v =>
     obtain⟨w',hw,_⟩:=RelO.some_of (v:=v) (o:=valueAt vs k) (by rw[<-l];exact rel.val k);rw[hw]at hn;cases hn
   have hl2:(putK kvs k z).length<=sizeLine:=by have:=zfY kvs k z;omega
   have he2:∃q,h'.get? a=some q:=let ⟨q,_,_,hq,_⟩:=dd';⟨q,hq⟩;exact⟨z,_,ziL I3 (by rw[ea];exact True.intro) hs he2 (zn3 hl2 hd (rel.put k rz) dd'),rz,q4 l⟩
end
section
variable{X:Cx}
def rJoin:V->List V->Hp->VK->Prop:=λx vs H Q=>∃sep l ys,x=.str sep/\vs=[.ref l]/\H l=some (.lst (ys.map V.str))/\(ys.map (·.length)).sum+ys.length * sep.length<=16777216/\Q (.str (Txt.join sep ys)) H
theorem znx:∀{ys:List Str} {us:List Value},Vals (ys.map V.str) us->StrsAre us ys
 | [],_,.nil=>.nil
 | y::r,_,.cons q t=>by obtain⟨k,rfl⟩:=q;exact .cons y k (znx t)
theorem zpY:MtR X "str.join" rJoin:=by
 intro pins s σ H x vs v us Q I rx rv h;obtain⟨sep,l,ys,rfl,rfl,hH,hok,q⟩:=h;obtain⟨t,rfl⟩:=rx;obtain⟨u,rfl,ru⟩:=Vals.one rv;cases ru;obtain⟨z,its,n,r,hl,e⟩:=I.lstM hH;exact join_list ⟨_,e,rfl,n,rfl⟩ (by simpa using znx r) hok λt' k=>⟨.str _,H,I.tok _,⟨_,rfl⟩,q⟩
end
section
variable{X:Cx}{pins:List (Addr×Obj)}{σ:St}{H:Hp}{s:Shared}{a:Addr}{kvs:List (Key×V)}{o:Obj}
theorem zr6{P:Program}{w:World}{H:Hp}{h:Heap}{a:Addr}{u v:HO}(ok:HOk P w H h)(e:H a=some v)(nt:∀xs,v≠.tup xs)(no:∀y,v≠.own y)(new:zbM P w (upd H a u) h a u):HOk P w (upd H a u) h:=λb x q=>by
 by_cases hb:b=a
 . subst hb;rw[zab]at q;cases q;exact new
 . rw[zag hb]at q;refine(ok b x q).stay (λ_ _ _ z=>z) (λc z=>?_) λc xs z=>?_
   . rw[zag λk=>by rw[k,e]at z;cases z;exact no _ rfl];exact z
   . rw[zag λk=>by rw[k,e]at z;cases z;exact nt _ rfl];exact z
theorem Inv.freeze(I:Inv X pins σ H s)(e:H a=some (.dK kvs)):∃o,s.heap.get? a=some o/\Inv X pins σ (upd H a (.frz o (.dK kvs))) s:=by
 obtain⟨hz,hd,vs,rel,ob,es,ep,ho,r⟩:=I.hok a _ e;have ne:∀b,H b=none->b≠a:=λb z k=>by rw[k,e]at z;cases z
 refine⟨ob,ho,I.ok,I.os,I.bare,⟨I.base.keep,I.base.slot,λb o h1 h2 h3=>?_,I.base.there,λb xs h1=>?_,λb o u h1=>?_,λb ps h1=>?_⟩,I.loc,I.cell,?_,λx c h1=>?_,λp hp=>?_,?_,I.len⟩
 . have z:=I.base.free b o h1 h2 h3;rw[zag (ne b z)];exact z
 . have z:=I.base.tups b xs h1;rw[zag λk=>by rw[k,e]at z;cases z];exact z
 . have z:=I.base.frzs b o u h1;rw[zag λk=>by rw[k,e]at z;cases z];exact z
 . obtain⟨more,z⟩:=I.base.tbls b ps h1;exact⟨more,by rw[zag λk=>by rw[k,e]at z;cases z];exact z⟩
 . rw[zag (ne _ I.free)];exact I.free
 . have z:=I.zew x c h1;rw[zag (ne _ z)];exact z
 . obtain⟨h1,h2,h3⟩:=I.pin p hp;exact⟨h1,by rw[zag (ne _ h2)];exact h2,h3⟩
 . exact zr6 I.hok e (λ_ z=>nomatch z) (λ_ z=>nomatch z) ⟨ho,hz,hd,vs,rel,ob,es,ep,ho,r⟩
theorem Inv.thaw(I:Inv X pins σ H s)(e:H a=some (.frz o (.dK kvs)))(h0:∀ob u,X.H₀ a≠some (.frz ob u)):Inv X pins σ (upd H a (.dK kvs)) s:=by
 obtain⟨ho,dk⟩:=I.hok a _ e;have ne:∀b,H b=none->b≠a:=λb z k=>by rw[k,e]at z;cases z
 refine⟨I.ok,I.os,I.bare,⟨I.base.keep,I.base.slot,λb o h1 h2 h3=>?_,I.base.there,λb xs h1=>?_,λb o u h1=>?_,λb ps h1=>?_⟩,I.loc,I.cell,?_,λx c h1=>?_,λp hp=>?_,?_,I.len⟩
 . have z:=I.base.free b o h1 h2 h3;rw[zag (ne b z)];exact z
 . have z:=I.base.tups b xs h1;rw[zag λk=>by rw[k,e]at z;cases z];exact z
 . have z:=I.base.frzs b o u h1;rw[zag λk=>by rw[k]at h1;exact h0 _ _ h1];exact z
 . obtain⟨more,z⟩:=I.base.tbls b ps h1;exact⟨more,by rw[zag λk=>by rw[k,e]at z;cases z];exact z⟩
 . rw[zag (ne _ I.free)];exact I.free
 . have z:=I.zew x c h1;rw[zag (ne _ z)];exact z
 . obtain⟨h1,h2,h3⟩:=I.pin p hp;exact⟨h1,by rw[zag (ne _ h2)];exact h2,h3⟩
 . refine zr6 I.hok e (λ_ z=>nomatch z) (λ_ z=>nomatch z) ?_;obtain⟨hz,hd,vs,rel,r⟩:=dk;exact⟨hz,hd,vs,rel,r⟩
theorem Inv.zt5(I:Inv X pins σ H s)(e:H a=some (.dK kvs)):∀ob u,X.H₀ a≠some (.frz ob u):=λob u z=>by
 have:=I.base.frzs a ob u z;rw[e]at this;cases this
end
def Itk(a:Addr)(o:Obj)(kvs:List (Key×V)):It :=
 ⟨λi H=>i < kvs.length/\H a=some (.frz o (.dK kvs)),λi H x H'=>H'=H/\∃k v,kvs[i]?=some (k,v)/\x=kV k,λi H=>kvs.length<=i/\H a=some (.frz o (.dK kvs))⟩
def epOf(o:Obj):Nat:=match o.data with | .dict _ ep=>ep | _=>0
theorem zm0{P:Program}{w:World}{H:Hp}{h:Heap}{a:Addr}{o:Obj}{kvs:List (Key×V)}(ok:HOk P w H h)(e:H a=some (.frz o (.dK kvs))):(a == sysModules)=false/\∃vs,KV kvs vs/\h.DictAt (zaR P w) a vs (epOf o)/\vs.length=kvs.length:=by
 obtain⟨ho,hz,hd,vs,rel,ob,es,ep,ho',hx,hdt,r⟩:=ok a _ e;rw[ho]at ho';cases ho';have:epOf o=ep:=by unfold epOf;rw[hdt]
 exact⟨hd,vs,rel,⟨o,es,ho,hx,by rw[this];exact hdt,r⟩,rel.length.symm⟩
theorem zpe{P:Program}{w:World}{K:PySem.W.Frag}{tg:Expr}(a it:Addr)(o:Obj)(kvs:List (Key×V)):Turn P w K tg (Itk a o kvs) [it] it (λi h=>h.IsKeyIter it a i kvs.length (epOf o)) where
 mem:=by simp
 obj:=λi h st b hb=>by
  have e:b=it:=by simpa using hb
  subst e;obtain⟨ob,e,c,d⟩:=st;exact⟨ob,e,λv z=>by rw[d]at z;cases z⟩
 keep:=λi h h' st k=>st.at λob e=>k it (by simp) ob e
 item:=by
  intro X hP hw hK hc i pins s σ H E I hf st hg;subst hP hw hK;obtain⟨hlt,hH⟩:=hg;obtain⟨lo,vs,rel,dat,hl⟩:=zm0 I.hok hH;obtain⟨f0,f1,f2,f3,f4,f5⟩:=hf it (by simp);obtain⟨⟨k,x⟩,hx⟩:∃q,vs[i]?=some q:=⟨_,yax (by omega)⟩
  rw[<-hl]at st;refine wpAny_pyNext_dict_item st dat hx λkey h' hkey st' sb=>?_;have I1:Inv X pins σ H { s with heap:=h' }:=I.turned (t':=s.toks) (λb ob hb e=>(sb.2 b hb).trans e) f0 f1 f3 f4 f5;obtain⟨ob,e1,c1,d1⟩:=id st';obtain⟨⟨k',v⟩,hkv⟩:∃q,kvs[i]?=some q:=⟨_,yax hlt⟩
  have hk:k'=k:=by
    have e2:=yaZ (λl=>l[i]?) (KV.keys rel);simp only[yak,hkv,hx]at e2;exact yaL e2
  subst hk;rw[hl]at st';refine⟨key,rfl,zrD (s:={ s with heap:=h' }) e1 c1 d1 (by decide) ⟨kV k',H,I1,?_,⟨rfl,k',v,hkv,rfl⟩,st',λb hb=>(hf b hb).1⟩⟩;rcases za2 (show zjf k' key=true from hkey) with ⟨n,t,rfl,rfl⟩ | ⟨y,t,rfl,rfl⟩
  . exact⟨t,rfl⟩
  . exact⟨t,rfl⟩
 done:=by
  intro X hP hw hK hc i pins s σ H E I hf st hg;subst hP hw hK;obtain⟨hle,hH⟩:=hg;obtain⟨lo,vs,rel,dat,hl⟩:=zm0 I.hok hH;obtain⟨f0,f1,f2,f3,f4,f5⟩:=hf it (by simp);rw[<-hl]at st;exact wpAny_pyNext_dict_end (I.ok.hd hc) st dat (ybZ.mpr (by omega)) λh' eb=>⟨rfl,I.turned (t':=s.toks) (λb ob hb e=>eb b ob hb e) f0 f1 f3 f4 f5⟩
 self:=λ_ _ _ _ _ st h=>wpAny_pyIter_keyiter st h
def zuY(tl:TE):TI:=λσ H R=>tl σ H λx H1=>∃a kvs,x=.ref a/\H1 a=some (.dK kvs)/\∀o,R (Itk a o kvs) (upd H1 a (.frz o (.dK kvs)))
section
variable{X:Cx}{tg l:Expr}{tl:TE}
theorem zsK(hl:PE X l tl):PI X tg l (zuY tl):=by
 intro pins s σ H R I h;refine thn (hl pins s σ H _ I h) λu s1 ⟨x,H1,I1,rx,a,kvs,ex,ea,q⟩=>?_;subst ex;obtain rfl:u=Value.ref a:=rx;obtain⟨o,ho,I2⟩:=I1.freeze ea;obtain⟨lo,vs,rel,dat,hlen⟩:=zm0 I2.hok zab;refine wpAny_pyIter_dict lo dat ?_;have hf:=I2.fresh;refine⟨s1.heap.objs.size,[s1.heap.objs.size],_,Itk a o kvs,upd H1 a (.frz o (.dK kvs)),rfl,I2.kept (t':=s1.toks) (λb ob e=>yae _ e),zpe a _ o kvs,?_,λb hb=>?_,q o⟩
 . show Heap.IsKeyIter _ s1.heap.objs.size a 0 kvs.length (epOf o);rw[<-hlen];exact⟨_,yaC _ rfl,rfl,rfl⟩
 . have e:b=s1.heap.objs.size:=by simpa using hb
   rw[e];exact I2.fpOk (yaf _) hf
def zuN(t:TS):TS:=λD σ H=>t { nx:=λσ' H2=>∃a o kvs,H a=some (.dK kvs)/\H2 a=some (.frz o (.dK kvs))/\D.nx σ' (upd H2 a (.dK kvs)),rt:=λv H2=>∃a o kvs,H a=some (.dK kvs)/\H2 a=some (.frz o (.dK kvs))/\D.rt v (upd H2 a (.dK kvs)) } σ H
theorem zsI{st:Stmt}{t:TS}(h:PS X st t):PS X st (zuN t):=by
 intro pins s σ H D I hq;refine thn (h pins s σ H _ I hq) λfl s1 z=>?_;cases fl with
 | next=>obtain⟨σ',H2,I2,a,o,kvs,e0,e2,q⟩:=z;exact⟨σ',_,I2.thaw e2 (I.zt5 e0),q⟩
 | brk=>obtain⟨σ',H2,I2,q⟩:=z;exact q.elim
 | cont=>obtain⟨σ',H2,I2,q⟩:=z;exact q.elim
 | ret u=>obtain⟨v,σ',H2,I2,r,a,o,kvs,e0,e2,q⟩:=z;exact⟨v,σ',_,I2.thaw e2 (I.zt5 e0),r,q⟩
end
end L2
end
section
namespace L2
open PySem PySem.Spec PySem.W PyProof.Rows S5
def SetX(P:Program)(w:World)(q:Addr)(ks:List Key):Heap->Prop:=λh=>S6.SetP (zaR P w) h q ks
theorem zsB{P:Program}{w:World}{H:Hp}{h:Heap}{q:Addr}{ks:List Key}(x:S6.SetP (zaR P w) h q ks):zbM P w H h q (.ext (SetX P w q ks)) :=
 ⟨x,let ⟨_,_,o,_,_,_,e,_⟩:=x;⟨o,e⟩,λh1 h2 y k=>S6.SetP.at y k⟩
abbrev zrQ(ks:List Key):Prop:=zef ks
theorem zs0{P:Program}{w:World}{k:Key}{u:Value}(r:RelV (kV k) u):S6.KVal (zaR P w) k u:=by
 cases k with
 | inl i =>
  obtain⟨t,rfl⟩:=(show ∃t,u=Value.int i t from r)
  exact⟨zfU P w i t,rfl⟩
 | inr x =>
  obtain⟨t,rfl⟩:=(show ∃t,u=Value.str x t from r)
  exact⟨zfT P w x t,rfl⟩
section
variable{X:Cx}
def SSrc(K:Frag)(H:Hp)(p:Addr)(ks:List Key):Prop:=SqL K H p (ks.map kV)\/∃kvs:List (Key×V),H p=some (.dK kvs)/\kvs.map (·.1)=ks/\kvs.length<=4
theorem zrK(hc:X.calm=true):zhg X (.type "set") (λxs H Q=>∃p ks,xs=[.ref p]/\SSrc X.K H p ks/\zrQ ks/\ks.length < 4000/\∀q,H q=none->Q (.ref q) (upd H q (.ext (SetX X.prog X.w q (S6.deds ks))))):=by
 intro pins s σ H xs us Q I r h;obtain⟨p,ks,rfl,src,tx,hl,h⟩:=h;obtain⟨u,rfl,ru⟩:=Vals.one r;cases ru;have hp:∃o,s.heap.get? p=some o:=by
   rcases src with hq | ⟨kvs,hd,_⟩
   . obtain⟨its,rv,⟨o,n,e,_⟩,hz⟩:=I.list hq;exact⟨o,e⟩
   . obtain⟨z,lo,vs,rel,o,es,ep,e,_⟩:=zlZ I.hok hd;exact⟨o,e⟩
 refine S6.ztO (R:=λh'=>S6.SetP (zaR X.prog X.w) h' s.heap.objs.size (S6.deds ks)/\∀b o,s.heap.get? b=some o->h'.get? b=some o) hp ?_ λh' tk ⟨hS,kp⟩=>?_
 . have e0:(s.heap.push (S6.set0 X.w)).get? s.heap.objs.size=some (S6.set0 X.w):=yaC _ rfl;have fin:∀{s':Shared},(∃h' tk,s'={ s with heap:=h',toks:=tk }/\S6.SetP (zaR X.prog X.w) h' s.heap.objs.size (S6.deds ks)/\∀b o,b≠s.heap.objs.size->(s.heap.push (S6.set0 X.w)).get? b=some o->h'.get? b=some o) ->
       ∃h' tk,s'={ s with heap:=h',toks:=tk }/\S6.SetP (zaR X.prog X.w) h' s.heap.objs.size (S6.deds ks)/\∀b o,s.heap.get? b=some o->h'.get? b=some o:=λ⟨h',tk,e,hS,kp⟩ =>
     ⟨h',tk,e,hS,λb o q=>kp b o (yaI (yau q)) (yae _ q)⟩
   rcases src with hq | ⟨kvs,hd,hks,h4⟩
   . obtain⟨its,rv,pl,hz⟩:=I.list hq;have hlen:its.length=ks.length:=by rw[<-rv.length,yaa]
     refine ybk (S6.zqx (s:={ s with heap:=s.heap.push (S6.set0 X.w) }) (knd:=zaR X.prog X.w) (ks:=ks) (items:=its.toArray) (I.ok.hd hc) (pl.isList.push _) (S6.zpy e0) ?_ (by simpa using hlen) (by unfold scanBound;omega) λi v hv=>?_) (λ_ s' q=>fin q) λ_ _ z=>z
     . obtain⟨o,n,e,_⟩:=pl;exact ydf (yau e)
     . have hv':its[i]?=some v:=by simpa using hv
       have hi:i < ks.length:=by rw[<-hlen];exact(yar.mp hv').1
       have e1:(ks.map kV)[i]?=some (kV ks[i]):=by rw[yak,yax hi];rfl
       obtain⟨u,e2,ru⟩:=rv.get e1;rw[hv']at e2;cases e2;exact⟨ks[i],yax hi,zs0 ru⟩
   . obtain⟨z,lo,vs,rel,dd⟩:=zlZ I.hok hd;have hkeys:vs.map (·.1)=ks:=by rw[<-KV.keys rel];exact hks
     have:=S6.zqy (A:=X.A.in1.in1) (E:=X.xe) (s:={ s with heap:=s.heap.push (S6.set0 X.w) }) (knd:=zaR X.prog X.w) lo (dd.push _) e0 (by rw[<-rel.length];exact h4) λq hq u hu=>by
       rcases za2 (show zjf q.1 u=true from hu) with ⟨i,t,e,rfl⟩ | ⟨y,t,e,rfl⟩
       . rfl
       . rfl
     rw[hkeys]at this;exact ybk this (λ_ s' q=>fin q) λ_ _ z=>z
 . refine⟨.ref s.heap.objs.size,upd H s.heap.objs.size (.ext (SetX X.prog X.w s.heap.objs.size (S6.deds ks))),I.laid kp (yaf _) (zsB hS),rfl,h _ I.fresh⟩
end
section
variable{prog:Program}{w:World}{A:Around}{E:Value->Shared->Prop}{s:Shared}
theorem zoo{a:Addr}{PC:List Value->Heap->Prop}{Q:Value->Shared->Prop}
  (hcol:∀R:List Value->Shared->Prop,(∀h' tk d vs,zkS s.heap h'->PC vs h'->R vs { s with heap:=h',toks:=tk,drawn:=d })->wpAny (model prog w) A.in1 (collect (.ref a)) R E s)
  (h64:∀vs h',PC vs h'->vs.length < 64)
  (hsort : ∀ h' tk d vs, zkS s.heap h' → PC vs h' → wpAny (model prog w) A.in1.in1 (Builtin.«list.sort» ⟨[.ref h'.objs.size], []⟩) (fun fin s' => fin = .done (.ret .none) ∧ Q (.ref h'.objs.size) s') E { s with heap := h'.push { cls := .type "list", data := .seq vs.toArray }, toks := tk, drawn := d }) :
  wpAny (model prog w) A (call (.builtin "sorted") [.ref a]) Q E s:=by
 refine Calls.call_function_entry kind_sorted plain_sorted entry_sorted (args_sorted1 _) ?_;unfold Builtin.«sorted»;refine yab (m:=checkCount "sorted" 1 1 _) (yag (yab (hcol _ λ h' tk d vs hk hp=>?_)));refine yab (wpAny_newList ?_ (by have:=h64 vs h' hp; rw [yaw]; omega));refine yab (ybw (ybK slot_list_sort ⟨_,yaC _ rfl,rfl⟩ entry_list_sort ?_ (args_list_sort _)));refine ybk (hsort h' tk d vs hk hp) (λ fin s' hq=>?_) λ _ _ z=>z;obtain ⟨rfl,hq⟩:=hq;exact ⟨_,rfl,yag ⟨_,rfl,hq⟩⟩
end
section
variable{X:Cx}
theorem Inv.zuW{pins:List (Addr×Obj)}{σ:St}{H:Hp}{s:Shared}{h':Heap}{t':Nat}{d':Drawn}(I:Inv X pins σ H s)(k:∀b u,s.heap.get? b=some u->h'.get? b=some u):Inv X pins σ H { s with heap:=h',toks:=t',drawn:=d' }:=by
 have J:=I.kept (t':=t') k;exact⟨J.ok,J.os,J.bare,J.base,J.loc,J.cell,J.free,J.zew,J.pin,J.hok,J.len⟩
theorem ziO(hc:X.calm=true):zhg X (.builtin "sorted") (λxs H Q=>∃q ks,xs=[.ref q]/\H q=some (.ext (SetX X.prog X.w q ks))/\ks.Nodup/\zrQ ks/\ks.length < 64 /\
   ∀(ys:List Key) (l:Addr),ys.Perm ks->ys.Pairwise (λa b=>kLt a b=true)->H l=none->Q (.ref l) (upd H l (.lst (ys.map kV)))):=by
 intro pins s σ H xs us Q I r h;obtain⟨p,ks0,rfl,hp,nd0,tx0,h640,h⟩:=h;obtain⟨u,rfl,ru⟩:=Vals.one r;cases ru;obtain⟨hS,_,_⟩:=I.hok p _ hp;have hS:S6.SetP (zaR X.prog X.w) s.heap p ks0:=hS;refine zoo (PC:=λvs _=>∃ks:List Key,ks.Perm ks0/\Vals (ks.map kV) vs) (λR hR=>?_) (λvs _ ⟨ks,pk,hv⟩=>by rw[<-hv.length,yaa,pk.length_eq];exact h640) (λh' tk d vs hk ⟨ks,pk,hv⟩=>?_)
 . refine S6.zmp (A:=X.A.in1) (I.ok.hd hc) hS λh' tk d vs ys py hy kp=>hR h' tk d vs kp ⟨ys,py,?_⟩
   clear hR
   clear py kp
   induction hy with
   | nil=>exact .nil
   | @cons v k vs ys r _ ih =>
     refine .cons ?_ ih;rcases za2 (show zjf k v=true from r) with ⟨i,t,rfl,rfl⟩ | ⟨y,t,rfl,rfl⟩
     . exact⟨t,rfl⟩
     . exact⟨t,rfl⟩
 . have nd:ks.Nodup:=pk.nodup_iff.mpr nd0;have one:zef ks:=tx0.imp (λh k hk=>h k (pk.mem_iff.mp hk)) λh k hk=>h k (pk.mem_iff.mp hk);have h64:ks.length < 64:=by rw[pk.length_eq];exact h640
   have hl:vs.length=ks.length:=by rw[<-hv.length,yaa]
   have O:=ordK nd one;rw[<-hl]at O;refine zpt (s:={ s with heap:=h'.push { cls:=.type "list",data:=.seq vs.toArray },toks:=tk,drawn:=d }) (κ:=oneType') (c:=0) (yaC _ rfl) (by rw[hl];exact h64) O (λh1 _ h2 Qk hq=>?_) (λh1 _ i j hi hj hne Qb hq=>?_) (λq h3 c' hp hu hkb hg=>⟨rfl,?_⟩)
   . refine kas_kind (T:=.type (kTy ks)) h2 (λv hvm=>?_) ?_ ?_ hq
     . obtain⟨i,hi⟩:=ycS.mp hvm;have hi':i < ks.length:=by rw[<-hl];exact(yar.mp hi).1
       have:=zfd hv hi';rw[ya0,hi]at this;exact ty_keys one (ze2 hi') this _ _
     . rcases znT ks with z | z<;>rw[z]<;>decide
     . rcases znT ks with z | z<;>rw[z]<;>decide
   . rw[keyLt'_oneType];rw[hl]at hi hj;exact zp4 (zpQ one (ze2 hi) (ze2 hj)) (zfd hv hi) (zfd hv hj) hq
   . rw[hl]at hp hu;have keepAll:∀b o,s.heap.get? b=some o->h3.get? b=some o:=λb o e=>hkb b o (yaI (yau (hk b o e))) (yae _ (hk b o e));have I1:Inv X pins σ H { s with heap:=h3,toks:=tk,drawn:=d }:=I.zuW keepAll;have fp:=I.zug (a:=h'.objs.size) λb o e=>yau (hk b o e);have vp:=zkY hv (p:=q) (by rw[yaa];exact hp);rw[znE kV ks (Sum.inl 0) hp]at vp;have lp:(zie ks (Sum.inl 0) q).length=ks.length:=(zgh ks (Sum.inl 0) hp).length_eq;refine⟨.ref h'.objs.size,upd H h'.objs.size (.lst ((zie ks (Sum.inl 0) q).map kV)),?_,rfl,h _ _ ((zgh ks _ hp).trans pk) (zlo ks _ hp hu) fp.1⟩;have f2:FpOk X pins H h'.objs.size:=fp;exact I1.zto f2 ⟨by rw[yaa,lp,yaw];omega,picked vs q,c',vp,hg⟩
end
end L2
end
section
namespace L2
open PySem PySem.Spec PyProof.Rows
def Nx(n i:Nat)(p:Prop):Prop:=∃m',m' < n - i/\m'=n - (i+1)/\i+1<=n/\p
theorem nx{n i:Nat}{p:Prop}(h:i < n)(hp:p):Nx n i p:=⟨n - (i+1),by omega,rfl,h,hp⟩
section
variable{K:PySem.W.Frag}{a:Addr}{xs:List V}{g:TG}{tt:TT}{te:TE}{σ₀:St}{H:Hp}{Fin:List V->Hp->Prop}
theorem zgz(Pv:Nat->List V->St->Hp->Prop)(h0:Pv 0 [] σ₀ H)(hl:∀i ys σ H,Pv i ys σ H->SqL K H a xs/\ys.length<=i)(hz:xs.length<=sizeLine)
   (hs:∀i x ys σ H,i < xs.length->xs[i]?=some x->Pv i ys σ H->g x σ H λσ2 H2=>tt σ2 H2 λb H3=>if b=true then te σ2 H3 λy H4=>Nx xs.length i (Pv (i+1) (ys++[y]) σ2 H4) else Nx xs.length i (Pv (i+1) ys σ2 H3))
   (hd:∀ys σ H,Pv xs.length ys σ H->Fin ys H):zju (Itl K a) g tt te σ₀ H Fin:=by
 refine⟨λi m ys σ H=>m=xs.length - i/\i<=xs.length/\Pv i ys σ H,⟨xs.length,by simp,ya1 _,h0⟩,?_⟩;rintro i m ys σ H ⟨rfl,hi,p⟩;obtain⟨q,hy⟩:=hl i ys σ H p;by_cases hlt:i < xs.length
 . refine .inr ⟨⟨xs,xs[i],q,by simp[hlt]⟩,by omega,λx H' y=>?_⟩;obtain⟨e,y⟩:=y;subst e;exact hs i x ys σ _ hlt (y xs q) p
 . have e:i=xs.length:=by omega
   subst e;exact .inl ⟨⟨xs,q,yaf _⟩,hd ys σ H p⟩
theorem zgy(Pv:Nat->List V->St->Hp->Prop)(h0:Pv 0 [] σ₀ H)(hl:∀i ys σ H,Pv i ys σ H->SqT K H a xs/\ys.length<=i)(hz:xs.length<=sizeLine)
   (hs:∀i x ys σ H,i < xs.length->xs[i]?=some x->Pv i ys σ H->g x σ H λσ2 H2=>tt σ2 H2 λb H3=>if b=true then te σ2 H3 λy H4=>Nx xs.length i (Pv (i+1) (ys++[y]) σ2 H4) else Nx xs.length i (Pv (i+1) ys σ2 H3))
   (hd:∀ys σ H,Pv xs.length ys σ H->Fin ys H):zju (Itt K a) g tt te σ₀ H Fin:=by
 refine⟨λi m ys σ H=>m=xs.length - i/\i<=xs.length/\Pv i ys σ H,⟨xs.length,by simp,ya1 _,h0⟩,?_⟩;rintro i m ys σ H ⟨rfl,hi,p⟩;obtain⟨q,hy⟩:=hl i ys σ H p;by_cases hlt:i < xs.length
 . refine .inr ⟨⟨xs,xs[i],q,by simp[hlt]⟩,by omega,λx H' y=>?_⟩;obtain⟨e,y⟩:=y;subst e;exact hs i x ys σ _ hlt (y xs q) p
 . have e:i=xs.length:=by omega
   subst e;exact .inl ⟨⟨xs,q,yaf _⟩,hd ys σ H p⟩
theorem zjS{lo:Int}{n:Nat}(Pv:Nat->List V->St->Hp->Prop)(h0:Pv 0 [] σ₀ H)(hl:∀i ys σ H,Pv i ys σ H->ys.length<=i)(hz:n<=sizeLine)
   (hs:∀i ys σ H,i < n->Pv i ys σ H->g (.int (lo+i)) σ H λσ2 H2=>tt σ2 H2 λb H3=>if b=true then te σ2 H3 λy H4=>Nx n i (Pv (i+1) (ys++[y]) σ2 H4) else Nx n i (Pv (i+1) ys σ2 H3))
   (hd:∀ys σ H,Pv n ys σ H->Fin ys H):zju (Itr lo n) g tt te σ₀ H Fin:=by
 refine⟨λi m ys σ H=>m=n - i/\i<=n/\Pv i ys σ H,⟨n,by simp,ya1 _,h0⟩,?_⟩;rintro i m ys σ H ⟨rfl,hi,p⟩;have hy:=hl i ys σ H p;by_cases hlt:i < n
 . refine .inr ⟨hlt,by omega,λx H' y=>?_⟩;obtain⟨e,y⟩:=y;subst e y;exact hs i ys σ _ hlt p
 . have e:i=n:=by omega
   subst e;exact .inl ⟨yaf _,hd ys σ H p⟩
theorem zqL{o:Obj}{kvs:List (Key×V)}(Pv:Nat->List V->St->Hp->Prop)(h0:Pv 0 [] σ₀ H)(hl:∀i ys σ H,Pv i ys σ H->H a=some (.frz o (.dK kvs))/\ys.length<=i)(hz:kvs.length<=sizeLine)
   (hs:∀i k v ys σ H,i < kvs.length->kvs[i]?=some (k,v)->Pv i ys σ H->g (kV k) σ H λσ2 H2=>tt σ2 H2 λb H3=>if b=true then te σ2 H3 λy H4=>Nx kvs.length i (Pv (i+1) (ys++[y]) σ2 H4) else Nx kvs.length i (Pv (i+1) ys σ2 H3))
   (hd:∀ys σ H,Pv kvs.length ys σ H->Fin ys H):zju (Itk a o kvs) g tt te σ₀ H Fin:=by
 refine⟨λi m ys σ H=>m=kvs.length - i/\i<=kvs.length/\Pv i ys σ H,⟨kvs.length,by simp,ya1 _,h0⟩,?_⟩;rintro i m ys σ H ⟨rfl,hi,p⟩;obtain⟨q,hy⟩:=hl i ys σ H p;by_cases hlt:i < kvs.length
 . refine .inr ⟨⟨hlt,q⟩,by omega,λx H' y=>?_⟩;obtain⟨e,k,v,hk,ex⟩:=y;subst e ex;exact hs i k v ys σ _ hlt hk p
 . have e:i=kvs.length:=by omega
   subst e;exact .inl ⟨⟨yaf _,q⟩,hd ys σ H p⟩
end
end L2
end
section
namespace L2
open PySem
theorem Same.zaq{H:Hp}{p:Addr}{o:HO}(n:H p=none):Same H (upd H p o):=λb u e=>by rw[zag (zah e n)];exact e
theorem Same.upd2{H H':Hp}{p:Addr}{o:HO}(m:Same H H')(n:H' p=none):Same H (upd H' p o):=λb u e=>by rw[zag (zah (m b u e) n)];exact m b u e
theorem zal{H:Hp}{p q:Addr}{o u:HO}(e:H q=some u)(n:H p=none):upd H p o q=some u:=by rw[zag (zah e n)];exact e
end L2
namespace TP
open PySem L2 TH
structure Ad where
 zex:Addr
 zaG:Addr
 zcz:Addr
 zaW:Addr
 ziQ:Addr
 zdc:Addr
structure AdOk(A:Ad):Prop where
 wr:A.zex≠A.zaG
 wd:A.zex≠A.zcz
 wh:A.zex≠A.zaW
 rd:A.zaG≠A.zcz
 rh:A.zaG≠A.zaW
 dh:A.zcz≠A.zaW
def useS(w:Bool):Str:=if w then "writing" else "reading"
def stS:DS->Str
 | .zar => "going"
 | .waiting => "waiting"
 | .kept => "kept"
 | .dropped => "given up"
def actV(a:Act Str):List V:=[.str (if a.wr then "write" else "read"),.str a.key,.int a.val]
def rowV:Row Str->List V
 | .begin d=>[.str "begin",.int d]
 | .write d k b v=>[.str "write",.int d,.str k,.int b,.int v]
 | .keep d=>[.str "keep",.int d]
 | .drop d=>[.str "give up",.int d]
def zcF(p:Nat×Bool):List V:=[.int p.1,.str (useS p.2)]
def TupAt(H:Hp)(v:V)(xs:List V):Prop:=∃p,v=.ref p/\H p=some (.tup xs)
abbrev zap(H:Hp)(vs:List V)(xss:List (List V)):Prop:=Paired (TupAt H) vs xss
def zse(a:Act Str):List (Str×V):=[("use",.str (useS a.wr)),("key",.str a.key),("value",if a.wr then .int a.val else .non)]
def zcK(A:Ad)(H:Hp)(v:V):Option (Act Str)->Prop
 | none=>v=.non
 | some a=>∃p dx,v=.ref p/\H p=some (.ins A.zex dx (zse a))
def wantOf(D:Deed Str):Option (Act Str):=if D.st=.waiting then D.wish else none
def bkV(l:List (Str×Int)):List (Key×V):=l.map λp=>(Sum.inr p.1,.int p.2)
structure zbs(l:List (Str×Int))(b:Book Str):Prop where
 nd:(l.map (·.1)).Nodup
 mem:∀k v,(k,v)∈l↔b k=some v
theorem zqP:∀{l:List (Str×Int)} {k:Str},(l.map (·.1)).Nodup->valV (bkV l) (Sum.inr k)=(l.find? λp=>decide (p.1=k)).map λp=>V.int p.2
 | [],_,_=>rfl
 | p::r,k,nd=>by
  obtain⟨_,nd'⟩:=yaW.mp nd;have ih:=zqP (l:=r) (k:=k) nd';unfold valV bkV at ih ⊢;rw[yaK,ybl,ybl];by_cases h:p.1=k
  . simp[h]
  . have h2:¬(Sum.inr p.1:Key)=Sum.inr k:=λz=>h (ybL z);simp only[h,h2,decide_false];exact ih
theorem zbs.val{l:List (Str×Int)}{b:Book Str}(h:zbs l b)(k:Str):valV (bkV l) (Sum.inr k)=(b k).map V.int:=by
 rw[zqP h.nd];cases e:l.find? λp=>decide (p.1=k) with
 | none =>
  cases e2:b k with
  | none=>rfl
  | some v =>
   have:=List.find?_eq_none.mp e _ ((h.mem k v).mpr e2);simp at this
 | some p =>
  have hm:=ydi e;have hk:p.1=k:=by simpa using List.find?_some e
  have:=(h.mem p.1 p.2).mp hm;rw[hk]at this;rw[this];rfl
def zcv(h:List (Nat×Bool)):List (Key×V):=h.map λp=>(Sum.inl (p.1:Int),.str (useS p.2))
inductive Role where
 | hall | recs | zb6 | zcC | zde | order | rows | other
 | rcd (i:Nat) | did (i:Nat) | desk (k:Str) | held (k:Str) | row (k:Str)
 deriving DecidableEq
def zmT(ad:Role->Addr):List (Str×V) :=
 [("records",.ref (ad .recs)),("desks",.ref (ad .zb6)),("standing",.ref (ad .zcC)),("kept_values",.ref (ad .zde)),("kept_deeds",.ref (ad .order)),("rows",.ref (ad .rows))]
def recF(st:DS)(did:Addr)(w:V):List (Str×V):=[("state",.str (stS st)),("did",.ref did),("want",w)]
def zji(held row:Addr):List (Str×V):=[("held",.ref held),("row",.ref row)]
def At(A:Ad)(ad:Role->Addr)(s:HS Str)(kv:Book Str)(H:Hp):Role->HO->Prop
 | .hall,o=>∃dx,o=.ins A.zaW dx (zmT ad)
 | .recs,o=>o=.lst ((List.range s.n).map λi=>.ref (ad (.rcd i)))
 | .zb6,o=>o=.dK (s.seen.map λk=>(Sum.inr k,.ref (ad (.desk k))))
 | .zcC,o=>∃l,o=.dK (bkV l)/\zbs l s.book
 | .zde,o=>∃l,o=.dK (bkV l)/\zbs l kv
 | .order,o=>o=.lst (s.kept.map λ(d:Nat)=>V.int (d:Int))
 | .rows,o=>∃vs,o=.lst vs/\zap H vs (s.log.map rowV)
 | .rcd i,o=>∃dx w,o=.ins A.zaG dx (recF (s.deed i).st (ad (.did i)) w)/\zcK A H w (wantOf (s.deed i))
 | .did i,o=>∃vs,o=.lst vs/\zap H vs ((s.deed i).done.map actV)
 | .desk k,o=>∃dx,o=.ins A.zcz dx (zji (ad (.held k)) (ad (.row k)))
 | .held k,o=>o=.dK (zcv (s.held k))
 | .row k,o=>∃vs,o=.lst vs/\zap H vs ((s.rows k).map zcF)
 | .other,_=>False
def live(s:HS Str):Role->Prop
 | .rcd i=>i < s.n
 | .did i=>i < s.n
 | .desk k=>k∈s.seen
 | .held k=>k∈s.seen
 | .row k=>k∈s.seen
 | .other=>False
 | _=>True
structure zai(A:Ad)(ρ:Addr->Role)(ad:Role->Addr)(s:HS Str)(kv:Book Str)(H:Hp):Prop where
 at_:∀r,live s r->∃o,H (ad r)=some o/\At A ad s kv H r o
 ro:∀r,live s r->ρ (ad r)=r
 fr:∀b,H b=none->ρ b=.other
structure Frame(ρ:Addr->Role)(H:Hp)(ρ':Addr->Role)(H':Hp):Prop where
 o:∀b o,H b=some o->ρ b=.other->H' b=some o/\ρ' b=.other
 t:∀b xs,H b=some (.tup xs)->H' b=some (.tup xs)
instance {ρ:Addr->Role} {H:Hp} {ρ':Addr->Role} {H':Hp}:CoeFun (Frame ρ H ρ' H') (λ_=>∀b o,H b=some o->ρ b=.other->H' b=some o/\ρ' b=.other):=⟨Frame.o⟩
theorem Frame.refl{ρ:Addr->Role}{H:Hp}:Frame ρ H ρ H:=⟨λ_ _ h r=>⟨h,r⟩,λ_ _ h=>h⟩
theorem Frame.trans{ρ ρ1 ρ2:Addr->Role}{H H1 H2:Hp}(a:Frame ρ H ρ1 H1)(b:Frame ρ1 H1 ρ2 H2):Frame ρ H ρ2 H2:=⟨λx o h r=>let ⟨h1,r1⟩:=a x o h r;b x o h1 r1,λx xs h=>b.t x xs (a.t x xs h)⟩
structure Imm(A:Ad)(H H':Hp):Prop where
 tup:∀p xs,H p=some (.tup xs)->H' p=some (.tup xs)
 want:∀p dx fs,H p=some (.ins A.zex dx fs)->H' p=some (.ins A.zex dx fs)
theorem Imm.of_same{A:Ad}{H H':Hp}(h:Same H H'):Imm A H H':=⟨λp xs e=>h p _ e,λp dx fs e=>h p _ e⟩
theorem zap.mono{A:Ad}{H H':Hp}(m:Imm A H H'):∀{vs:List V} {xss:List (List V)},zap H vs xss->zap H' vs xss
 | _,_,.nil=>.nil
 | _,_,.cons ⟨p,e,q⟩ t=>.cons ⟨p,e,m.tup p _ q⟩ (zap.mono m t)
theorem zcK.mono{A:Ad}{H H':Hp}(m:Imm A H H'){v:V}:∀{o:Option (Act Str)},zcK A H v o->zcK A H' v o
 | none,h=>h
 | some a,⟨p,dx,e,q⟩=>⟨p,dx,e,m.want p dx _ q⟩
section
variable{A:Ad}{ad:Role->Addr}{s:HS Str}{kv:Book Str}{H H':Hp}
theorem At.mono(m:Imm A H H'){r:Role}{o:HO}(h:At A ad s kv H r o):At A ad s kv H' r o:=by
 cases r with
 | rows=>obtain⟨vs,e,t⟩:=h;exact⟨vs,e,zap.mono m t⟩
 | did i=>obtain⟨vs,e,t⟩:=h;exact⟨vs,e,zap.mono m t⟩
 | row k=>obtain⟨vs,e,t⟩:=h;exact⟨vs,e,zap.mono m t⟩
 | rcd i=>obtain⟨dx,w,e,t⟩:=h;exact⟨dx,w,e,t.mono m⟩
 | _=>exact h
theorem At.mut(ok:AdOk A){r:Role}{o:HO}(h:At A ad s kv H r o):(∀xs,o≠.tup xs)/\∀dx fs,o≠.ins A.zex dx fs:=by
 cases r with
 | hall=>obtain⟨dx,rfl⟩:=h;exact⟨λxs z=>(by cases z),λdx fs z=>(by injection z with z;exact ok.wh z.symm)⟩
 | recs=>cases h;exact⟨λxs z=>(by cases z),λdx fs z=>(by cases z)⟩
 | zb6=>cases h;exact⟨λxs z=>(by cases z),λdx fs z=>(by cases z)⟩
 | zcC=>obtain⟨l,rfl,_⟩:=h;exact⟨λxs z=>(by cases z),λdx fs z=>(by cases z)⟩
 | zde=>obtain⟨l,rfl,_⟩:=h;exact⟨λxs z=>(by cases z),λdx fs z=>(by cases z)⟩
 | order=>cases h;exact⟨λxs z=>(by cases z),λdx fs z=>(by cases z)⟩
 | rows=>obtain⟨l,rfl,_⟩:=h;exact⟨λxs z=>(by cases z),λdx fs z=>(by cases z)⟩
 | rcd i=>obtain⟨dx,w,rfl,_⟩:=h;exact⟨λxs z=>(by cases z),λdx fs z=>(by injection z with z;exact ok.wr z.symm)⟩
 | did i=>obtain⟨l,rfl,_⟩:=h;exact⟨λxs z=>(by cases z),λdx fs z=>(by cases z)⟩
 | desk k=>obtain⟨dx,rfl⟩:=h;exact⟨λxs z=>(by cases z),λdx fs z=>(by injection z with z;exact ok.wd z.symm)⟩
 | held k=>cases h;exact⟨λxs z=>(by cases z),λdx fs z=>(by cases z)⟩
 | row k=>obtain⟨l,rfl,_⟩:=h;exact⟨λxs z=>(by cases z),λdx fs z=>(by cases z)⟩
 | other=>exact h.elim
end
section
variable{A:Ad}{ρ:Addr->Role}{ad:Role->Addr}{s s':HS Str}{kv kv':Book Str}{H H':Hp}
theorem zai.ne(h:zai A ρ ad s kv H){r r':Role}(a:live s r)(b:live s r')(n:r≠r'):ad r≠ad r':=λe=>n (by rw[<-h.ro r a,<-h.ro r' b,e])
theorem zai.grow(h:zai A ρ ad s kv H)(m:Same H H'):zai A ρ ad s kv H' :=
 ⟨λr l=>let ⟨o,e,a⟩:=h.at_ r l;⟨o,m _ _ e,a.mono (.of_same m)⟩,h.ro,λb e=>h.fr b (by
  cases q:H b with
  | none=>rfl
  | some o=>rw[m b o q]at e;cases e)⟩
theorem zp6{s:HS Str}{r:Role}(l:live s r):r≠.other:=by rintro rfl;exact l
theorem Frame.grow{ρ:Addr->Role}(m:Same H H'):Frame ρ H ρ H':=⟨λb o e r=>⟨m b o e,r⟩,λb xs e=>m b _ e⟩
end
end TP
end
section
namespace TP
open PySem L2 TH
def sLt(a b:Str):Bool:=kLt (Sum.inr a) (Sum.inr b)
theorem zmw(a:Str):sLt a a=false:=zmR _
theorem zrT{a b c:Str}(h:sLt a b=true)(g:sLt b c=true):sLt a c=true:=zqd h g
theorem zsE{a b:Str}(h:a≠b):sLt a b=true\/sLt b a=true :=
 zqe (ks:=[Sum.inr a,Sum.inr b]) (.inr λk hk=>by
  rcases yat.mp hk with z | z
  . exact⟨a,z⟩
  . exact⟨b,yaq.mp z⟩) (by simp) (by simp) λz=>h (ybL z)
abbrev ziY(l:List Str):Prop:=l.Pairwise λa b=>sLt a b=true
def ins(x:Str):List Str->List Str
 | []=>[x]
 | y::r=>if x=y then y::r else if sLt x y=true then x::y::r else y::ins x r
def ordS(l:List Str):List Str:=l.foldr ins []
theorem zmK{x z:Str}:∀{l:List Str},z∈ins x l↔z=x\/z∈l
 | []=>by simp[ins]
 | y::r=>by
  unfold ins;split
  . rename_i h;subst h;simp
  . split
    . simp
    . rw[yat,zmK (l:=r),yat];exact⟨λh=>h.elim (λq=>.inr (.inl q)) (λq=>q.elim .inl λq=>.inr (.inr q)),λh=>h.elim (λq=>.inr (.inl q)) λq=>q.elim .inl λq=>.inr (.inr q)⟩
theorem zjL{x:Str}:∀{l:List Str},ziY l->ziY (ins x l)
 | [],_=>by simp[ins,ziY]
 | y::r,h=>by
  obtain⟨h1,h2⟩:=ybv.mp h;unfold ins;split
  . exact h
  . rename_i hne;split
    . rename_i hlt;exact ybv.mpr ⟨λz hz=>by
        rcases yat.mp hz with q | q
        . rw[q];exact hlt
        . exact zrT hlt (h1 z q),h⟩
    . rename_i hlt;refine ybv.mpr ⟨λz hz=>?_,zjL h2⟩;rcases zmK.mp hz with q | q
      . rw[q];exact(zsE hne).resolve_left hlt
      . exact h1 z q
theorem zaX{z:Str}:∀{l:List Str},z∈ordS l↔z∈l
 | []=>by simp[ordS]
 | y::r=>by
  show z∈ins y (ordS r)↔_;rw[zmK,zaX (l:=r),yat]
theorem zba:∀l:List Str,ziY (ordS l)
 | []=>List.Pairwise.nil
 | y::r=>zjL (zba r)
theorem zcH{l:List Str}(h:ziY l):l.Nodup:=h.imp λ{a b} q z=>by subst z;rw[zmw]at q;cases q
theorem ze5:∀{a b:List Str},ziY a->ziY b->(∀x,x∈a↔x∈b)->a=b
 | [],[],_,_,_=>rfl
 | [],y::r,_,_,h=>by have:=(h y).mpr yac;cases this
 | x::r,[],_,_,h=>by have:=(h x).mp yac;cases this
 | x::r,y::t,ha,hb,h=>by
  obtain⟨a1,a2⟩:=ybv.mp ha;obtain⟨b1,b2⟩:=ybv.mp hb;have e:x=y:=by
   rcases yat.mp ((h x).mp yac) with q | q
   . exact q
   . rcases yat.mp ((h y).mpr yac) with p | p
     . exact p.symm
     . have:=zrT (b1 x q) (a1 y p);rw[zmw]at this;cases this
  subst e;have nr:∀{l:List Str},(∀z∈l,sLt x z=true)->x∉l:=λhl z=>by have:=hl x z;rw[zmw]at this;cases this
  refine yaZ _ (ze5 a2 b2 λz=>?_);have hz:=h z;rw[yat,yat]at hz;exact⟨λq=>(hz.mp (.inr q)).resolve_left λe=>nr a1 (e▸q),λq=>(hz.mpr (.inr q)).resolve_left λe=>nr b1 (e▸q)⟩
theorem zrn(l m:List Str)(h:∀x∈m,x∈l):ordS m=(ordS l).filter λk=>decide (k∈m) :=
 ze5 (zba m) ((zba l).filter _) λx=>by
  rw[zaX,ya3,zaX,ybm];exact⟨λq=>⟨h x q,q⟩,λq=>q.2⟩
theorem znK(l:List Str)(m:List Str)(h:∀x∈l,x∈m)(nd:m.Nodup):(ordS l).length<=m.length:=by
 have:∀(a b:List Str),a.Nodup->(∀x∈a,x∈b)->a.length<=b.length:=λa=>by
  induction a with
  | nil=>intro b _ _;simp
  | cons x r ih =>
   intro b nd hs;obtain⟨n1,n2⟩:=yaW.mp nd;have hx:=hs x yac;have:=ih (b.erase x) n2 λz hz=>(ycy (show z≠x from λe=>n1 (e▸hz))).mpr (hs z (yad _ hz));rw[yca hx]at this;have hpos:0 < b.length:=ycl hx;simp only[yaP];omega
 exact this _ _ (zcH (zba l)) λx hx=>h x (zaX.mp hx)
theorem zmm{xs:List Str}{ys:List Key}(m:∀k,k∈ys↔∃x∈xs,k=Sum.inr x)(p:ys.Pairwise λa b=>kLt a b=true):ys=(ordS xs).map Sum.inr:=by
 obtain⟨zs,rfl⟩:∃zs:List Str,ys=zs.map Sum.inr:=by
  clear p
  have:∀l:List Key,(∀k∈l,∃x:Str,k=Sum.inr x)->∃zs:List Str,l=zs.map Sum.inr:=λl=>by
   induction l with
   | nil=>intro _;exact⟨[],rfl⟩
   | cons k r ih =>
    intro h;obtain⟨x,rfl⟩:=h k yac;obtain⟨zs,rfl⟩:=ih λk hk=>h k (yad _ hk);exact⟨x::zs,rfl⟩
  exact this ys λk hk=>let ⟨x,_,e⟩:=(m k).mp hk;⟨x,e⟩
 congr 1
 refine ze5 (ycN.mp p) (zba xs) λx=>?_;rw[zaX];have:=m (Sum.inr x);rw[yap]at this;exact⟨λh=>by
  obtain⟨y,hy,e⟩:=this.mp ⟨x,h,rfl⟩;rw[ybL e];exact hy,λh=>by
  obtain⟨y,hy,e⟩:=this.mpr ⟨x,h,rfl⟩;rw[<-ybL e];exact hy⟩
end TP
end
section
namespace L2
open PySem PySem.Spec PyProof.Rows
theorem Fun.okN{P:Program}{w:World}{K:PySem.W.Frag}{mg:Str->Option Value}{base:Heap}{x qual:Str}{st:Stmt}{f:Addr}{fd:FuncData}{N ps:List Str}{k:Nat}{sp:Sp}(F:Fun K x qual st f fd)(S:zau N ps (zan st))(len:∀vs H Q E,sp vs H Q E->vs.length=ps.length)
  (hbody:∀(cdv:Value) (A:Around) (outer:List Env) (s:Shared) (H:Hp) (vs:List V) (Q:VK) (E:XK),Room k (A.deeper (envOfC qual (zan st) s.heap.objs.size f cdv))->sp vs H Q E ->
   ∃t,PSs (cxOf (CX1 P w) P w K mg base N qual (zan st) f cdv A outer s H E).nox (ziK st) t/\t { nx:=λ_ H'=>Q .non H',rt:=Q } (start N vs) H):FnOk P w K mg base (CX1 P w) (k+1) f fd ps sp:=by
 refine F.okX S len λcdv A outer s H vs Q E hr hsp=>?_;obtain⟨t,h,q⟩:=hbody cdv A outer s H vs Q E hr hsp;exact⟨t,h.nox,q⟩
section
variable{X:Cx}{K:PySem.W.Frag}
theorem zpH(hK:X.K=K){es:List Expr}{k:Nat}{t:TGs}{n:Nat}{pos:Pos}(hc:X.calm=true)(h:PGs X es t)
  (hn:(assignEach es X.env).length=n:=by rfl) (hst:(assignEach es X.env).findIdx? (·.1)=none:=by rfl):PG X (.Tuple es k pos) (gTup K n t):=by
 subst hK;exact znF hc h hn hst
theorem zsM(hK:X.K=K){e:Expr}{f:Str}{ta:TE}{pos:Pos}(he:PE X e ta)(hb:attributeBase e f X.env (eval e X.env)=eval e X.env):PE X (.Attribute e f pos) (tFld K ta f):=by
 subst hK;exact zas he hb
theorem zeW(hK:X.K=K):IxR X (rIxT K):=by subst hK;exact za0
end
theorem ztZ{X:Cx}{x:Str}{pos:Pos}{n:String}(hg:Gl X x)(hm:X.mg x=none)(hv:bootBuiltins x=some (.type n))(hn:x ≠ "__name__" := by decide)(hd:(x == ("__debug__" : Str))=false:=by decide):PE X (.Name x pos) (tC (.ty n)):=zsN (v:=.ty n) hg hm hv rfl hn hd
end L2
namespace TP
open PySem L2 TH
theorem zqE(xs:List Str):(S6.deds (xs.map (Sum.inr:Str->Key))).Perm ((ordS xs).map Sum.inr):=by
 refine(List.perm_ext_iff_of_nodup (S6.zqF _) ?_).mpr λk=>?_
 . exact(zcH (zba xs)).map _ λa b h e=>h (ybL e)
 . rw[S6.zku,yap,yap];exact⟨λ⟨x,h,e⟩=>⟨x,zaX.mpr h,e⟩,λ⟨x,h,e⟩=>⟨x,zaX.mp h,e⟩⟩
theorem zpg(xs:List Str):zrQ (xs.map (Sum.inr:Str->Key)):=.inr λk hk=>by
 obtain⟨x,_,e⟩:=yap.mp hk;exact⟨x,e.symm⟩
theorem zog(xs:List Str):zrQ (S6.deds (xs.map (Sum.inr:Str->Key))):=.inr λk hk=>by
 obtain⟨x,_,e⟩:=yap.mp (S6.zku.mp hk);exact⟨x,e.symm⟩
theorem zr2(xs:List Str):(xs.map (Sum.inr:Str->Key)).map kV=xs.map V.str:=by rw[ya7];rfl
def zpn:Sp:=λvs H Q _=>∃i:Int,vs=[.int i]/\Q (.bl true) H
def zhi(K:PySem.W.Frag):Sp:=λvs H Q _=>∃(p:Addr) (xs:List Str),vs=[.ref p]/\SSrc K H p (xs.map Sum.inr)/\xs.length < 4000/\(ordS xs).length < 64 /\
 ∀H' q,H q=none->Same H H'->H' q=some (.tup ((ordS xs).map V.str))->Q (.ref q) H'
def zk5:Sp:=λvs H Q _=>∃(p:Addr) (k:Str) (l:List (Str×Int)) (b:Book Str),vs=[.ref p,.str k]/\H p=some (.dK (bkV l))/\zbs l b/\Q (.int ((b k).getD 0)) H
def zuo(ks:List Str)(b:Book Str):List (List V):=(ordS ks).map λk=>[V.str k,V.int ((b k).getD 0)]
def zcL(H:Hp)(p:Addr)(H':Hp):Prop:=∀b o,H b=some o->b≠p->H' b=some o
def zoi(A:Ad):Sp:=λvs H Q _=>∃(p dx:Addr) (w:Bool) (k:Str) (v:V),vs=[.ref p,.str (useS w),.str k,v]/\H p=some (.ins A.zex dx []) /\
 ∀H',H' p=some (.ins A.zex dx [("use",.str (useS w)),("key",.str k),("value",v)])->zcL H p H'->Q .non H'
def zk6(A:Ad):Sp:=λvs H Q _=>∃(p dx:Addr),vs=[.ref p]/\H p=some (.ins A.zaG dx []) /\
 ∀H' d,H d=none->H' p=some (.ins A.zaG dx (recF .zar d .non))->H' d=some (.lst [])->zcL H p H'->Q .non H'
def zpo(A:Ad):Sp:=λvs H Q _=>∃(p dx d:Addr) (st:DS) (w:V),vs=[.ref p]/\H p=some (.ins A.zaG dx (recF st d w))/\Q (.bl (decide (st=.kept\/st=.dropped))) H
def zeA(p:Str×Int):List V:=[.str p.1,.int p.2]
structure RecAt(A:Ad)(H:Hp)(p:Addr)(st:DS)(d:Addr)(w:V)(done:List (Act Str)):Prop where
 ob:∃dx,H p=some (.ins A.zaG dx (recF st d w))
 did:∃us,H d=some (.lst us)/\zap H us (done.map actV)
def zpk(A:Ad):Sp:=λvs H Q _=>∃p st d w done,vs=[.ref p]/\RecAt A H p st d w done/\done.length < 3000 /\
 ∀H' q us,Same H H'->H' q=some (.lst us)->zap H' us ((zat done).map zeA)->Q (.ref q) H'
def zdh:Option (Act Str)->List Str
 | none=>[]
 | some a=>[a.key]
def zpl(A:Ad):Sp:=λvs H Q _=>∃p st d w done o,vs=[.ref p]/\RecAt A H p st d w done/\zcK A H w o/\done.length < 3000/\(ordS (done.map (·.key)++zdh o)).length < 64 /\
 ∀H' q,H q=none->Same H H'->H' q=some (.tup ((ordS (done.map (·.key)++zdh o)).map V.str))->Q (.ref q) H'
end TP
end
section
namespace TP
open PySem L2 TH
theorem zdb{a b:Nat}:((Sum.inl (a:Int):Key)=Sum.inl (b:Int))↔a=b:=⟨λh=>by have:=Sum.inl.inj h;omega,λh=>by rw[h]⟩
theorem zgq(h:List (Nat×Bool))(d:Nat):valV (zcv h) (Sum.inl (d:Int))=(look h d).map λw=>V.str (useS w):=by
 unfold zcv look
 induction h with
 | nil=>rfl
 | cons p r ih =>
  rw[yaK];by_cases e:p.1=d
  . rw[zbz (zdb.mpr e)];simp[ybl,e]
  . rw[zbA λz=>e (zdb.mp z),ih];simp[ybl,e]
theorem zrC(h:List (Nat×Bool))(d:Nat):((zcv h).any λkv=>decide (kv.1=(Sum.inl (d:Int):Key)))=h.any λp=>p.1 == d:=by
 unfold zcv;rw[List.any_map]
 congr 1
 funext p
 show decide ((Sum.inl (p.1:Int):Key)=Sum.inl (d:Int))=(p.1 == d)
 rw[ybH];simp only[ybm,yb6];exact zdb
theorem zrB(h:List (Nat×Bool))(d:Nat)(w:Bool):putK (zcv h) (Sum.inl (d:Int)) (V.str (useS w))=zcv (zbg h d w):=by
 unfold putK zbg;rw[zrC];split
 . unfold zcv;rw[ya7,ya7];refine ybq λp hp=>?_;show(if (Sum.inl (p.1:Int):Key)=Sum.inl (d:Int) then ((Sum.inl (p.1:Int):Key),V.str (useS w)) else ((Sum.inl (p.1:Int):Key),V.str (useS p.2)))=((Sum.inl (((if (p.1 == d)=true then (d,w) else p).1:Nat):Int):Key),V.str (useS (if (p.1 == d)=true then (d,w) else p).2))
   by_cases e:p.1=d
   . rw[yaj (zdb.mpr e),yaj (by simpa using e)];simp[e]
   . rw[yai λz=>e (zdb.mp z),yai (by simpa using e)]
 . unfold zcv;rw[yav];rfl
theorem zqk(h:List (Nat×Bool))(d:Nat):zgv (zcv h) (Sum.inl (d:Int))=zcv (less h d):=by
 unfold zgv less zcv;rw[ydZ]
 congr 1
 refine yct λp _=>?_;show decide ((Sum.inl (p.1:Int):Key)≠Sum.inl (d:Int))=(p.1 != d)
 rw[ybH];simp only[ybm,bne_iff_ne];exact not_congr zdb
theorem less_none{h:List (Nat×Bool)}{d:Nat}(e:look h d=none):less h d=h:=by
 unfold less;refine yc8.mpr λp hp=>?_;unfold look at e;rw[Option.map_eq_none_iff,List.find?_eq_none]at e;simpa using e p hp
theorem ziD(h:List (Nat×Bool)):(zcv h).length=h.length:=by unfold zcv;rw[yaa]
theorem zkK(l:List (Str×Int)):(bkV l).length=l.length:=by unfold bkV;rw[yaa]
def bput(l:List (Str×Int))(k:Str)(v:Int):List (Str×Int):=if (l.any λp=>decide (p.1=k))=true then l.map (λp=>if p.1=k then (p.1,v) else p) else l++[(k,v)]
theorem ztd(l:List (Str×Int))(k:Str):((bkV l).any λkv=>decide (kv.1=(Sum.inr k:Key)))=l.any λp=>decide (p.1=k):=by
 unfold bkV;rw[List.any_map]
 congr 1
 funext p
 show decide ((Sum.inr p.1:Key)=Sum.inr k)=decide (p.1=k);exact zr3 _ _
theorem zkJ(l:List (Str×Int))(k:Str)(v:Int):putK (bkV l) (Sum.inr k) (V.int v)=bkV (bput l k v):=by
 unfold putK bput;rw[ztd];split
 . unfold bkV;rw[ya7,ya7];refine ybq λp hp=>?_;show(if (Sum.inr p.1:Key)=Sum.inr k then ((Sum.inr p.1:Key),V.int v) else ((Sum.inr p.1:Key),V.int p.2))=((Sum.inr (if p.1=k then (p.1,v) else p).1:Key),V.int (if p.1=k then (p.1,v) else p).2)
   by_cases e:p.1=k
   . rw[yaj (yaZ Sum.inr e),yaj e]
   . rw[yai λz=>e (ybL z),yai e]
 . unfold bkV;rw[yav];rfl
def zrN(l:List (Str×Int))(k:Str):List (Str×Int):=l.filter λp=>decide (p.1≠k)
theorem zrL(l:List (Str×Int))(k:Str):zgv (bkV l) (Sum.inr k)=bkV (zrN l k):=by
 unfold zgv zrN bkV;rw[ydZ]
 congr 1
 refine yct λp _=>?_;show decide ((Sum.inr p.1:Key)≠Sum.inr k)=decide (p.1≠k);rw[ybH];simp only[ybm];exact not_congr ⟨λz=>ybL z,λz=>by rw[z]⟩
theorem zbs.has{l:List (Str×Int)}{b:Book Str}(h:zbs l b)(k:Str):(l.any λp=>decide (p.1=k))=(b k).isSome:=by
 cases e:b k with
 | none =>
  refine List.any_eq_false.mpr λp hp z=>?_;have hk:p.1=k:=by simpa using z
  have:=(h.mem p.1 p.2).mp hp;rw[hk,e]at this;cases this
 | some v=>exact ydB.mpr ⟨(k,v),(h.mem k v).mpr e,by simp⟩
theorem zbs.put{l:List (Str×Int)}{b:Book Str}(h:zbs l b)(k:Str)(v:Int):zbs (bput l k v) (up b k (some v)):=by
 unfold bput;rw[h.has k];cases e:b k with
 | none =>
  simp only[Option.isSome_none,yaX,ybV];have hn:∀p∈l,p.1≠k:=λp hp z=>by
    have:=(h.mem p.1 p.2).mp hp;rw[z,e]at this;cases this
  refine⟨?_,λk' v'=>?_⟩
  . rw[yav];refine ybi.mpr ⟨h.nd,by simp,λa ha c hc=>?_⟩;obtain⟨p,hp,rfl⟩:=yap.mp ha;rw[yaq.mp hc];exact hn p hp
  . rw[yas,yaq];by_cases hk:k'=k
    . subst hk;rw[zae];exact⟨λz=>z.elim (λq=>absurd rfl (hn _ q)) λq=>by cases q;rfl,λz=>.inr (by cases z;rfl)⟩
    . rw[zao hk,<-h.mem];exact⟨λz=>z.elim id λq=>absurd (by cases q;rfl) hk,.inl⟩
 | some v0 =>
  simp only[Option.isSome_some,yb2];have hk1:(l.map λp=>if p.1=k then (p.1,v) else p).map (·.1)=l.map (·.1):=by
    rw[ya7];refine ybq λp _=>?_;show(if p.1=k then (p.1,v) else p).1=p.1;split<;>rfl
  refine⟨by rw[hk1];exact h.nd,λk' v'=>?_⟩;rw[yap];by_cases hk:k'=k
  . subst hk;rw[zae];refine⟨λ⟨p,hp,q⟩=>?_,λz=>?_⟩
    . by_cases hpk:p.1=k'
      . rw[yaj hpk]at q;cases q;rfl
      . rw[yai hpk]at q;subst q;exact absurd rfl hpk
    . cases z;exact⟨(k',v0),(h.mem _ _).mpr e,by simp⟩
  . rw[zao hk,<-h.mem];refine⟨λ⟨p,hp,q⟩=>?_,λz=>⟨(k',v'),z,by rw[yai hk]⟩⟩;by_cases hpk:p.1=k
    . rw[yaj hpk]at q;cases q;exact absurd hpk hk
    . rw[yai hpk]at q;subst q;exact hp
theorem zbs.drop{l:List (Str×Int)}{b:Book Str}(h:zbs l b)(k:Str):zbs (zrN l k) (up b k none):=by
 unfold zrN;refine⟨?_,λk' v'=>?_⟩
 . exact h.nd.sublist (yc6.map _)
 . rw[ya3];by_cases hk:k'=k
   . subst hk;rw[zae];simp
   . rw[zao hk,<-h.mem];simp[hk]
theorem zbs.zqB{l:List (Str×Int)}{b:Book Str}(h:zbs l b){k:Str}(e:b k=none):zbs l (up b k none):=by
 have:up b k none=b:=by
  funext x;by_cases hx:x=k
  . subst hx;rw[zae,e]
  . rw[zao hx]
 rw[this];exact h
theorem zbs.len{l:List (Str×Int)}{b:Book Str}(h:zbs l b){ks:List Str}(nd:ks.Nodup)(hk:∀k,b k≠none->k∈ks):l.length<=ks.length:=by
 have:∀(a c:List Str),a.Nodup->(∀x∈a,x∈c)->a.length<=c.length:=λa=>by
  induction a with
  | nil=>intro c _ _;simp
  | cons x r ih =>
   intro c nd hs;obtain⟨n1,n2⟩:=yaW.mp nd;have hx:=hs x yac;have:=ih (c.erase x) n2 λz hz=>(ycy (show z≠x from λe=>n1 (e▸hz))).mpr (hs z (yad _ hz));rw[yca hx]at this;have hpos:0 < c.length:=ycl hx;simp only[yaP];omega
 have:=this (l.map (·.1)) ks h.nd λx hx=>by
  obtain⟨p,hp,rfl⟩:=yap.mp hx;exact hk p.1 (by rw[(h.mem p.1 p.2).mp hp];exact λz=>nomatch z)
 rwa [yaa]at this
def zem(ad:Role->Addr)(seen:List Str):List (Key×V):=seen.map λk=>(Sum.inr k,.ref (ad (.desk k)))
theorem zeZ(ad:Role->Addr)(k:Str):∀seen:List Str,valV (zem ad seen) (Sum.inr k)=if k∈seen then some (.ref (ad (.desk k))) else none
 | []=>rfl
 | x::r=>by
  unfold zem;rw[yaK];by_cases e:x=k
  . subst e;rw[zbz rfl];simp
  . rw[zbA λz=>e (ybL z)];have:=zeZ ad k r;unfold zem at this;rw[this];have:(k∈x::r)↔k∈r:=by rw[yat];exact⟨λz=>z.resolve_left λq=>e q.symm,.inr⟩
    by_cases hk:k∈r
    . rw[yaj hk,yaj (this.mpr hk)]
    . rw[yai hk,yai λz=>hk (this.mp z)]
theorem zbU{H:Hp}{us:List V}{xss:List (List V)}(t:zap H us xss){i:Nat}{x:V}(h:us[i]?=some x):∃y,xss[i]?=some y/\TupAt H x y:=S6.zhN t h
theorem zeC{H:Hp}:∀{us:List V} {xss:List (List V)},zap H us xss->∀{i:Nat} {y:List V},xss[i]?=some y->∃x,us[i]?=some x/\TupAt H x y
 | _,_,.nil,_,_,h=>by simp at h
 | _,_,.cons r _,0,_,h=>by simp at h;subst h;exact⟨_,rfl,r⟩
 | _,_,.cons _ t,i+1,_,h=>by
  obtain⟨x,h1,h2⟩:=zeC t (i:=i) (by simpa using h);exact⟨x,by simpa using h1,h2⟩
theorem zaE{H H':Hp}(m:Same H H'){us:List V}{xss:List (List V)}(t:zap H us xss):zap H' us xss:=by
 induction t with
 | nil=>exact .nil
 | cons r _ ih=>obtain⟨p,e,q⟩:=r;exact .cons ⟨p,e,m p _ q⟩ ih
theorem zsf{H:Hp}{a q:Addr}{x o y:HO}(e:H a=some y)(hq:H q=none):upd (upd (upd H a x) q o) a y=upd H q o:=by
 funext b
 by_cases hb:b=a
 . subst hb;rw[zab,zag (zah e hq)];exact e.symm
 . rw[zag hb];by_cases hbq:b=q
   . subst hbq;rw[zab,zab]
   . rw[zag hbq,zag hb,zag hbq]
end TP
end
section
namespace TP
open PySem L2 TH
structure zes(A:Ad)(H:Hp)(p hd rw:Addr)(h r:List (Nat×Bool)):Prop where
 ob:∃dx,H p=some (.ins A.zcz dx (zji hd rw))
 hd:H hd=some (.dK (zcv h))
 rw:∃us,H rw=some (.lst us)/\zap H us (r.map zcF)
def zon(A:Ad):Sp:=λvs H Q _=>∃(p dx:Addr),vs=[.ref p]/\H p=some (.ins A.zcz dx []) /\
 ∀H' hd rw,H hd=none->H rw=none->H' p=some (.ins A.zcz dx (zji hd rw))->H' hd=some (.dK [])->H' rw=some (.lst [])->zcL H p H'->Q .non H'
def zaD(l:List Nat):List V:=l.map λ(n:Nat)=>V.int (n:Int)
def zmk(A:Ad):Sp:=λvs H Q _=>∃(p hd rw:Addr) (h r:List (Nat×Bool)) (d:Nat) (w:Bool),vs=[.ref p,.int d,.str (useS w)]/\zes A H p hd rw h r/\h.length<=1000/\(h.map (·.1)).Nodup /\
 ∀H' q,H q=none->Same H H'->H' q=some (.lst (zaD (hind h d w)))->Q (.ref q) H'
def znA(A:Ad):Sp:=λvs H Q _=>∃(p hd rw:Addr) (h r:List (Nat×Bool)) (d:Nat) (w:Bool),vs=[.ref p,.int d,.str (useS w)]/\zes A H p hd rw h r/\h.length<=1000/\(h.map (·.1)).Nodup /\
 ∀H',Same H H'->Q (.bl (lets h d w)) H'
def zk8(A:Ad):Sp:=λvs H Q _=>∃(p hd rw:Addr) (h r:List (Nat×Bool)) (d:Nat) (w:Bool),vs=[.ref p,.int d,.str (useS w)]/\zes A H p hd rw h r/\h.length<=1000/\(h.map (·.1)).Nodup /\
 ∀H',Same H H'->Q (.bl ((has h d || r.isEmpty) && lets h d w)) H'
def zp7(h:List (Nat×Bool)):List (Nat×Bool)->Bool
 | []=>false
 | (d,w)::_=>lets h d w
def zmi(A:Ad):Sp:=λvs H Q _=>∃(p hd rw:Addr) (h r:List (Nat×Bool)),vs=[.ref p]/\zes A H p hd rw h r/\h.length<=1000/\(h.map (·.1)).Nodup /\
 ∀H',Same H H'->Q (.bl (zp7 h r)) H'
def ztB(A:Ad):Sp:=λvs H Q _=>∃(p hd rw:Addr) (h r:List (Nat×Bool)) (d:Nat) (w:Bool),vs=[.ref p,.int d,.str (useS w)]/\zes A H p hd rw h r/\h.length<=1000/\(h.map (·.1)).Nodup /\
 ∀H',H' hd=some (.dK (zcv (take1 h d w)))->zcL H hd H'->Q .non H'
def zrv(h r:List (Nat×Bool))(d:Nat)(w:Bool):List (Nat×Bool):=if has h d then (d,w)::r else r++[(d,w)]
def zq4(A:Ad):Sp:=λvs H Q _=>∃(p hd rw:Addr) (h r:List (Nat×Bool)) (d:Nat) (w:Bool),vs=[.ref p,.int d,.str (useS w)]/\zes A H p hd rw h r/\r.length<=1000 /\
 ∀H' us,H' rw=some (.lst us)->zap H' us ((zrv h r d w).map zcF)->zcL H rw H'->Q .non H'
def zst(A:Ad):Sp:=λvs H Q _=>∃(p hd rw dx:Addr) (h r:List (Nat×Bool)) (d:Nat),vs=[.ref p,.int d]/\zes A H p hd rw h r/\H p=some (.ins A.zcz dx (zji hd rw))/\r.length<=1000 /\
 ∀H' rw' us,H rw'=none->H' p=some (.ins A.zcz dx (zji hd rw'))->H' hd=some (.dK (zcv (less h d)))->H' rw'=some (.lst us)->zap H' us ((less r d).map zcF)->(∀b o,H b=some o->b≠p->b≠hd->H' b=some o)->Q .non H'
def zk7(A:Ad):Sp:=λvs H Q _=>∃(p hd rw:Addr) (h r:List (Nat×Bool)) (d:Nat) (w:Bool),vs=[.ref p,.int d,.str (useS w)]/\zes A H p hd rw h r/\h.length<=1000/\(h.map (·.1)).Nodup/\r.length<=1000/\(d,w)∈r/\(r.map (·.1)).Nodup /\
 ∀H' q,H q=none->Same H H'->H' q=some (.lst (zaD (zkm h r d w)))->Q (.ref q) H'
theorem zfp{c:Bool}{A B:Prop}(b:Bool)(h:c=b)(k:if b=true then A else B):if c=true then A else B:=by rw[h];exact k
theorem zbv{c:Bool}{A B:Prop}(h:c=true)(k:A):if c=true then A else B:=by rw[yaj h];exact k
theorem zaJ{c:Bool}{A B:Prop}(h:c=false)(k:B):if c=true then A else B:=by rw[yai (by rw[h];exact yam)];exact k
theorem zqz(a b:Nat):decide (V.int (a:Int)=V.int (b:Int))=(a == b):=by
 rw[ybH,ybm,yb6];exact⟨λh=>by have:=V.int.inj h;omega,λh=>by rw[h]⟩
theorem zrZ(a b:Nat):(!decide (V.int (a:Int)=V.int (b:Int)))=(a != b):=by rw[zqz];rfl
theorem zlI(h:List (Nat×Bool))(d:Nat):(look h d).isSome=has h d:=by
 unfold look has;rw[yb9]
 induction h with
 | nil=>rfl
 | cons p r ih =>
  rw[ybl,ycJ];cases e:(p.1 == d) with
  | true=>rfl
  | false=>rw[Bool.false_or];exact ih
theorem zq0{a b:Bool}:(V.str (useS a)=V.str (useS b))↔a=b:=by
 refine⟨λh=>?_,λh=>by rw[h]⟩;have e:=V.str.inj h;cases a<;>cases b<;>first | rfl | exact absurd e (by decide +kernel)
theorem zhU(w:Bool):decide (V.str (useS w)=V.str "writing")=w:=by
 have:=zq0 (a:=w) (b:=true);cases w with
 | true=>exact yaz rfl
 | false=>exact yay λz=>by cases this.mp z
theorem zes.same{A:Ad}{H H':Hp}{p hd rw:Addr}{h r:List (Nat×Bool)}(D:zes A H p hd rw h r)(m:Same H H'):zes A H' p hd rw h r:=by
 obtain⟨⟨dx,e⟩,e2,us,e3,t⟩:=D;exact⟨⟨dx,m _ _ e⟩,m _ _ e2,us,m _ _ e3,zaE m t⟩
theorem zqi(h:List (Nat×Bool))(d:Nat)(w:Bool):decide ((hind h d w).length=0)=lets h d w:=by
 unfold hind lets;rw[yaa];rw[ybH,ybm,ybt,ydM,ybh];refine forall_congr' λp=>forall_congr' λ_=>?_;cases w<;>cases p.2<;>simp
end TP
namespace TP
open PySem L2 TH
theorem znI{H:Hp}:∀{us:List V} {r:List (Nat×Bool)},zap H us (r.map zcF)->DVs H us (r.map λp=>PySem.W.Dat.tuple [.int p.1,.str (useS p.2)])
 | [],[],_=>.nil
 | _::_,_::_,.cons ⟨p,e,q⟩ t=>by subst e;exact .cons (.tup q (.cons (.int _) (.cons (.str _) .nil))) (znI t)
theorem ztl(w:Bool):PyData.strOk (useS w)=true:=by cases w<;>decide +kernel
theorem zpN(i:Int)(w:Bool):PySem.W.kqdOk 7 (.tuple [.int i,.str (useS w)])=true:=by
 simp only[PySem.W.kqdOk,yd5,List.all_nil,ztl,Bool.and_self]
end TP
end
section
namespace TP
open PySem L2 TH
section
variable{A:Ad}{ρ:Addr->Role}{ad:Role->Addr}{s s':HS Str}{kv kv':Book Str}{H H':Hp}
theorem zai.hall(h:zai A ρ ad s kv H):∃dx,H (ad .hall)=some (.ins A.zaW dx (zmT ad)):=by
 obtain⟨o,e,dx,rfl⟩:=h.at_ .hall trivial;exact⟨dx,e⟩
theorem zai.recs(h:zai A ρ ad s kv H):H (ad .recs)=some (.lst ((List.range s.n).map λi=>.ref (ad (.rcd i)))):=by
 obtain⟨o,e,r⟩:=h.at_ .recs trivial;rw[e];exact yaZ some r
theorem zai.zb6(h:zai A ρ ad s kv H):H (ad .zb6)=some (.dK (zem ad s.seen)):=by
 obtain⟨o,e,r⟩:=h.at_ .zb6 trivial;rw[e];exact yaZ some r
theorem zai.zcC(h:zai A ρ ad s kv H):∃l,H (ad .zcC)=some (.dK (bkV l))/\zbs l s.book:=by
 obtain⟨o,e,l,rfl,b⟩:=h.at_ .zcC trivial;exact⟨l,e,b⟩
theorem zai.zde(h:zai A ρ ad s kv H):∃l,H (ad .zde)=some (.dK (bkV l))/\zbs l kv:=by
 obtain⟨o,e,l,rfl,b⟩:=h.at_ .zde trivial;exact⟨l,e,b⟩
theorem zai.order(h:zai A ρ ad s kv H):H (ad .order)=some (.lst (zaD s.kept)):=by
 obtain⟨o,e,r⟩:=h.at_ .order trivial;rw[e];exact yaZ some r
theorem zai.rows(h:zai A ρ ad s kv H):∃us,H (ad .rows)=some (.lst us)/\zap H us (s.log.map rowV):=by
 obtain⟨o,e,us,rfl,t⟩:=h.at_ .rows trivial;exact⟨us,e,t⟩
theorem zai.rcd(h:zai A ρ ad s kv H){i:Nat}(hi:i < s.n):∃dx w,H (ad (.rcd i))=some (.ins A.zaG dx (recF (s.deed i).st (ad (.did i)) w))/\zcK A H w (wantOf (s.deed i)):=by
 obtain⟨o,e,dx,w,rfl,t⟩:=h.at_ (.rcd i) hi;exact⟨dx,w,e,t⟩
theorem zai.did(h:zai A ρ ad s kv H){i:Nat}(hi:i < s.n):∃us,H (ad (.did i))=some (.lst us)/\zap H us ((s.deed i).done.map actV):=by
 obtain⟨o,e,us,rfl,t⟩:=h.at_ (.did i) hi;exact⟨us,e,t⟩
theorem zai.recAt(h:zai A ρ ad s kv H){i:Nat}(hi:i < s.n):∃w,RecAt A H (ad (.rcd i)) (s.deed i).st (ad (.did i)) w (s.deed i).done/\zcK A H w (wantOf (s.deed i)):=by
 obtain⟨dx,w,e,t⟩:=h.rcd hi;exact⟨w,⟨⟨dx,e⟩,h.did hi⟩,t⟩
theorem zai.desk(h:zai A ρ ad s kv H){k:Str}(hk:k∈s.seen):zes A H (ad (.desk k)) (ad (.held k)) (ad (.row k)) (s.held k) (s.rows k):=by
 obtain⟨o,e,dx,rfl⟩:=h.at_ (.desk k) hk;obtain⟨o2,e2,r2⟩:=h.at_ (.held k) hk;obtain⟨o3,e3,us,rfl,t⟩:=h.at_ (.row k) hk;exact⟨⟨dx,e⟩,by rw[e2];exact yaZ some r2,us,e3,t⟩
theorem zai.zgf(h:zai A ρ ad s kv H){i:Nat}(hi:i < s.n):((List.range s.n).map λi=>V.ref (ad (.rcd i)))[i]?=some (V.ref (ad (.rcd i))):=by
 rw[yak,List.getElem?_range hi];rfl
theorem zai.zgw(h:zai A ρ ad s kv H){k:Str}(hk:k∈s.seen):DGet H (ad .zb6) (V.str k) (some (.ref (ad (.desk k)))):=by
 have:=DGet.k (k:=Sum.inr k) h.zb6;rw[zeZ,yaj hk]at this;exact this
theorem Imm.zg1(ok:AdOk A){r:Role}(h:zai A ρ ad s kv H)(l:live s r)(kp:zcL H (ad r) H'):Imm A H H':=by
 obtain⟨o₀,e₀,a₀⟩:=h.at_ r l;obtain⟨m1,m2⟩:=a₀.mut ok;exact⟨λp xs e=>kp p _ e (zbj e e₀ λz=>m1 xs z.symm),λp dx fs e=>kp p _ e (zbj e e₀ λz=>m2 dx fs z.symm)⟩
theorem zai.put'(ok:AdOk A)(h:zai A ρ ad s kv H){r:Role}{o:HO}(l:live s r)(e:H' (ad r)=some o)(kp:zcL H (ad r) H')(new:At A ad s' kv' H' r o)(lv:∀r',r'≠r->live s' r'->live s r')
   (oth:∀r' o',r'≠r->live s' r'->At A ad s kv H' r' o'->At A ad s' kv' H' r' o'):zai A ρ ad s' kv' H'/\Frame ρ H ρ H':=by
 have im:=Imm.zg1 ok h l kp;refine⟨⟨λr' l'=>?_,λr' l'=>?_,λb eb=>?_⟩,λb u eb q=>?_,im.tup⟩
 . by_cases hr:r'=r
   . subst hr;exact⟨o,e,new⟩
   . obtain⟨o',e',a'⟩:=h.at_ r' (lv r' hr l');exact⟨o',kp _ _ e' (h.ne (lv r' hr l') l hr),oth r' o' hr l' (a'.mono im)⟩
 . by_cases hr:r'=r
   . subst hr;exact h.ro r' l
   . exact h.ro r' (lv r' hr l')
 . refine h.fr b ?_;cases q:H b with
   | none=>rfl
   | some u =>
     by_cases z:b=ad r
     . subst z;rw[e]at eb;cases eb
     . rw[kp b u q z]at eb;cases eb
 . have hb:b≠ad r:=λz=>by rw[z,h.ro r l]at q;exact zp6 l q
   exact⟨kp b u eb hb,q⟩
theorem zdC{s s':HS Str}(h1:s'.n=s.n)(h2:s'.seen=s.seen){r:Role}(l:live s' r):live s r:=by
 cases r<;>first | exact l | (show _ < s.n;rw[<-h1];exact l) | (show _∈s.seen;rw[<-h2];exact l)
theorem zai.zob(ok:AdOk A)(h:zai A ρ ad s kv H){row:Row Str}{us:List V}{v:V}(e0:H (ad .rows)=some (.lst us))(e:H' (ad .rows)=some (.lst (us++[v])))(kp:zcL H (ad .rows) H')(t:TupAt H' v (rowV row)) :
   zai A ρ ad { s with log:=s.log++[row] } kv H'/\Frame ρ H ρ H':=by
 obtain⟨us',e1,tu⟩:=h.rows;rw[e0]at e1;cases e1;refine h.put' ok (r:=.rows) trivial e kp ⟨_,rfl,?_⟩ (λr' _ l=>zdC (s:=s) rfl rfl l) λr' o' hr l a=>?_
 . show zap H' _ ((s.log++[row]).map rowV);rw[yav];exact S6.zbS (zap.mono (Imm.zg1 ok h (r:=.rows) trivial kp) tu) t
 . cases r'<;>first | exact a | exact absurd rfl hr
theorem zai.zrO(ok:AdOk A)(h:zai A ρ ad s kv H){d:Nat}(e:H' (ad .order)=some (.lst (zaD s.kept++[V.int (d:Int)])))(kp:zcL H (ad .order) H') :
   zai A ρ ad { s with kept:=s.kept++[d] } kv H'/\Frame ρ H ρ H':=by
 refine h.put' ok (r:=.order) trivial e kp ?_ (λr' _ l=>zdC (s:=s) rfl rfl l) λr' o' hr l a=>?_
 . show _=HO.lst ((s.kept++[d]).map _);rw[yav];rfl
 . cases r'<;>first | exact a | exact absurd rfl hr
theorem zai.znB(ok:AdOk A)(h:zai A ρ ad s kv H){l:List (Str×Int)}{b:Book Str}(e:H' (ad .zcC)=some (.dK (bkV l)))(kp:zcL H (ad .zcC) H')(hb:zbs l b) :
  zai A ρ ad { s with book:=b } kv H'/\Frame ρ H ρ H':=by
 refine h.put' ok (r:=.zcC) trivial e kp ⟨l,rfl,hb⟩ (λr' _ l=>zdC (s:=s) rfl rfl l) λr' o' hr l a=>?_;cases r'<;>first | exact a | exact absurd rfl hr
theorem zai.zrb(ok:AdOk A)(h:zai A ρ ad s kv H){l:List (Str×Int)}{b:Book Str}(e:H' (ad .zde)=some (.dK (bkV l)))(kp:zcL H (ad .zde) H')(hb:zbs l b) :
  zai A ρ ad s b H'/\Frame ρ H ρ H':=by
 refine h.put' ok (r:=.zde) trivial e kp ⟨l,rfl,hb⟩ (λr' _ l=>zdC (s:=s) rfl rfl l) λr' o' hr l a=>?_;cases r'<;>first | exact a | exact absurd rfl hr
theorem zai.zpx(ok:AdOk A)(h:zai A ρ ad s kv H){d:Nat}(hd:d < s.n){D:Deed Str}{w:V}{dx:Addr}(e:H' (ad (.rcd d))=some (.ins A.zaG dx (recF D.st (ad (.did d)) w)))(kp:zcL H (ad (.rcd d)) H')(hw:zcK A H' w (wantOf D))(hdn:D.done=(s.deed d).done) :
   zai A ρ ad { s with deed:=up s.deed d D } kv H'/\Frame ρ H ρ H':=by
 refine h.put' ok (r:=.rcd d) hd e kp ?_ (λr' _ l=>zdC (s:=s) rfl rfl l) λr' o' hr l a=>?_
 . refine⟨dx,w,?_,?_⟩
   . show _=HO.ins A.zaG dx (recF (up s.deed d D d).st _ w);rw[zae]
   . show zcK A H' w (wantOf (up s.deed d D d));rw[zae];exact hw
 . cases r' with
   | rcd i =>
     have hi:i≠d:=λz=>hr (by rw[z]);obtain⟨dx',w',e',t⟩:=a;refine⟨dx',w',?_,?_⟩
     . show _=HO.ins A.zaG dx' (recF (up s.deed d D i).st _ w');rw[zao hi];exact e'
     . show zcK A H' w' (wantOf (up s.deed d D i));rw[zao hi];exact t
   | did i =>
     obtain⟨us,e',t⟩:=a;refine⟨us,e',?_⟩;show zap H' us ((up s.deed d D i).done.map actV);by_cases hi:i=d
     . subst hi;rw[zae,hdn];exact t
     . rw[zao hi];exact t
   | _=>exact a
theorem zai.zuv(ok:AdOk A)(h:zai A ρ ad s kv H){d:Nat}(hd:d < s.n){a:Act Str}{us:List V}{v:V}(e0:H (ad (.did d))=some (.lst us))(e:H' (ad (.did d))=some (.lst (us++[v])))(kp:zcL H (ad (.did d)) H')(t:TupAt H' v (actV a)) :
   zai A ρ ad { s with deed:=up s.deed d { s.deed d with done:=(s.deed d).done++[a] } } kv H'/\Frame ρ H ρ H':=by
 obtain⟨us',e1,tu⟩:=h.did hd;rw[e0]at e1;cases e1;refine h.put' ok (r:=.did d) hd e kp ⟨_,rfl,?_⟩ (λr' _ l=>zdC (s:=s) rfl rfl l) λr' o' hr l b=>?_
 . show zap H' _ ((up s.deed d _ d).done.map actV);rw[zae];show zap H' _ (((s.deed d).done++[a]).map actV);rw[yav];exact S6.zbS (zap.mono (Imm.zg1 ok h (r:=.did d) hd kp) tu) t
 . cases r' with
   | rcd i =>
    obtain⟨dx',w',e',t'⟩:=b;refine⟨dx',w',?_,?_⟩
    . show _=HO.ins A.zaG dx' (recF (up s.deed d _ i).st _ w');by_cases hi:i=d
      . subst hi;rw[zae];exact e'
      . rw[zao hi];exact e'
    . show zcK A H' w' (wantOf (up s.deed d _ i));by_cases hi:i=d
      . subst hi;rw[zae];exact t'
      . rw[zao hi];exact t'
   | did i =>
    have hi:i≠d:=λz=>hr (by rw[z]);obtain⟨us',e',t'⟩:=b;refine⟨us',e',?_⟩;show zap H' us' ((up s.deed d _ i).done.map actV);rw[zao hi];exact t'
   | _=>exact b
theorem zai.zsD(ok:AdOk A)(h:zai A ρ ad s kv H){k:Str}(hk:k∈s.seen){hs:List (Nat×Bool)}(e:H' (ad (.held k))=some (.dK (zcv hs)))(kp:zcL H (ad (.held k)) H') :
   zai A ρ ad { s with held:=up s.held k hs } kv H'/\Frame ρ H ρ H':=by
 refine h.put' ok (r:=.held k) hk e kp ?_ (λr' _ l=>zdC (s:=s) rfl rfl l) λr' o' hr l b=>?_
 . show _=HO.dK (zcv (up s.held k hs k));rw[zae]
 . cases r' with
   | held j =>
    have hj:j≠k:=λz=>hr (by rw[z]);show o'=HO.dK (zcv (up s.held k hs j));rw[zao hj];exact b
   | _=>exact b
theorem zai.zrS(ok:AdOk A)(h:zai A ρ ad s kv H){k:Str}(hk:k∈s.seen){r:List (Nat×Bool)}{us:List V}(e:H' (ad (.row k))=some (.lst us))(kp:zcL H (ad (.row k)) H')(t:zap H' us (r.map zcF)) :
   zai A ρ ad { s with rows:=up s.rows k r } kv H'/\Frame ρ H ρ H':=by
 refine h.put' ok (r:=.row k) hk e kp ?_ (λr' _ l=>zdC (s:=s) rfl rfl l) λr' o' hr l b=>?_
 . refine⟨us,rfl,?_⟩;show zap H' us ((up s.rows k r k).map zcF);rw[zae];exact t
 . cases r' with
   | row j =>
    have hj:j≠k:=λz=>hr (by rw[z]);obtain⟨us',e',t'⟩:=b;refine⟨us',e',?_⟩;show zap H' us' ((up s.rows k r j).map zcF);rw[zao hj];exact t'
   | _=>exact b
theorem zai.leave(ok:AdOk A)(h:zai A ρ ad s kv H){k:Str}{d:Nat}(hk:k∈s.seen){dx p':Addr}{us:List V}(n:H p'=none)(e1:H' (ad (.desk k))=some (.ins A.zcz dx (zji (ad (.held k)) p')))(e2:H' (ad (.held k))=some (.dK (zcv (less (s.held k) d))))(e3:H' p'=some (.lst us))(t:zap H' us ((less (s.rows k) d).map zcF))
   (kp:∀b o,H b=some o->b≠ad (.desk k)->b≠ad (.held k)->H' b=some o):∃ρ' ad',ad' .hall=ad .hall/\zai A ρ' ad' (zeU s d k) kv H'/\Frame ρ H ρ' H':=by
 obtain⟨dx0,d0⟩:=(h.desk hk).ob;have d1:=(h.desk hk).hd;have im:Imm A H H':=⟨λp xs e=>kp p _ e (zbj e d0 λz=>nomatch z) (zbj e d1 λz=>nomatch z),λp dx fs e=>kp p _ e (zbj e d0 λz=>by injection z with z;exact ok.wd z) (zbj e d1 λz=>nomatch z)⟩
 have adn:∀r,live s r->ad r≠p':=λr l z=>by
   obtain⟨o,e,_⟩:=h.at_ r l;rw[z,n]at e;cases e
 refine⟨up ρ p' (.row k),up ad (.row k) p',zao (by intro z;cases z),⟨λr l=>?_,λr l=>?_,λb eb=>?_⟩,λb o eb q=>?_,im.tup⟩
 . have l0:live s r:=zdC (s:=s) rfl rfl l;by_cases hr:r=.row k
   . subst hr;refine⟨.lst us,by rw[zae];exact e3,us,rfl,?_⟩;show zap H' us ((up s.rows k (less (s.rows k) d) k).map zcF);rw[zae];exact t
   . have ea:up ad (.row k) p' r=ad r:=zao hr;rw[ea];by_cases hr1:r=.desk k
     . subst hr1;refine⟨_,e1,dx,?_⟩;show _=HO.ins A.zcz dx (zji (up ad (.row k) p' (.held k)) (up ad (.row k) p' (.row k)));rw[zae,zao (by intro z;cases z)]
     . by_cases hr2:r=.held k
       . subst hr2;refine⟨_,e2,?_⟩;show _=HO.dK (zcv (up s.held k (less (s.held k) d) k));rw[zae]
       . obtain⟨o,e,a⟩:=h.at_ r l0;refine⟨o,kp _ _ e (h.ne l0 hk hr1) (h.ne l0 hk hr2),?_⟩;have a:=a.mono im;cases r with
         | hall =>
          obtain⟨dx',e'⟩:=a;refine⟨dx',?_⟩;rw[e'];show HO.ins A.zaW dx' (zmT ad)=HO.ins A.zaW dx' (zmT (up ad (.row k) p'));unfold zmT;simp only[zao (show(Role.recs:Role)≠.row k by intro z;cases z),zao (show(Role.zb6:Role)≠.row k by intro z;cases z),zao (show(Role.zcC:Role)≠.row k by intro z;cases z),zao (show(Role.zde:Role)≠.row k by intro z;cases z),zao (show(Role.order:Role)≠.row k by intro z;cases z),zao (show(Role.rows:Role)≠.row k by intro z;cases z)]
         | recs =>
          show o=HO.lst ((List.range s.n).map λi=>V.ref (up ad (.row k) p' (.rcd i)));have:(λi=>V.ref (up ad (.row k) p' (.rcd i)))=λi=>V.ref (ad (.rcd i)):=funext λi=>by rw[zao (by intro z;cases z)]
          rw[this];exact a
         | zb6 =>
          show o=HO.dK (s.seen.map λj=>(Sum.inr j,V.ref (up ad (.row k) p' (.desk j))));have:(λj:Str=>((Sum.inr j:Key),V.ref (up ad (.row k) p' (.desk j))))=λj=>(Sum.inr j,V.ref (ad (.desk j))):=funext λj=>by rw[zao (by intro z;cases z)]
          rw[this];exact a
         | rcd i =>
          obtain⟨dx',w',e',t'⟩:=a;refine⟨dx',w',?_,t'⟩;rw[e',zao (show(Role.did i:Role)≠.row k by intro z;cases z)]
          rfl
         | desk j =>
          have hj:j≠k:=λz=>hr1 (by rw[z]);obtain⟨dx',e'⟩:=a;refine⟨dx',?_⟩;rw[e',zao (show(Role.held j:Role)≠.row k by intro z;cases z),zao (show(Role.row j:Role)≠.row k by intro z;injection z with z;exact hj z)]
         | held j =>
          have hj:j≠k:=λz=>hr2 (by rw[z]);show o=HO.dK (zcv (up s.held k _ j));rw[zao hj];exact a
         | row j =>
          have hj:j≠k:=λz=>hr (by rw[z]);obtain⟨us',e',t'⟩:=a;refine⟨us',e',?_⟩;show zap H' us' ((up s.rows k _ j).map zcF);rw[zao hj];exact t'
         | _=>exact a
 . have l0:live s r:=zdC (s:=s) rfl rfl l;by_cases hr:r=.row k
   . subst hr;rw[zae,zae]
   . rw[zao hr,zao (adn r l0)];exact h.ro r l0
 . have hb:b≠p':=λz=>by rw[z,e3]at eb;cases eb
   rw[zao hb];refine h.fr b ?_;cases q:H b with
   | none=>rfl
   | some u =>
     by_cases z:b=ad (.desk k)
     . rw[z,e1]at eb;cases eb
     . by_cases z2:b=ad (.held k)
       . rw[z2,e2]at eb;cases eb
       . rw[kp b u q z z2]at eb;cases eb
 . have hb:b≠p':=zah eb n;refine⟨kp b o eb (λz=>?_) λz=>?_,by rw[zao hb];exact q⟩
   . rw[z,h.ro (.desk k) hk]at q;cases q
   . rw[z,h.ro (.held k) hk]at q;cases q
end
end TP
end
section
namespace TP
open PySem L2 TH
section
variable{A:Ad}{ρ:Addr->Role}{ad:Role->Addr}{s s':HS Str}{kv kv':Book Str}{H H':Hp}
theorem zai.more(ok:AdOk A)(h:zai A ρ ad s kv H)(r0:Role)(l0:live s r0)(N:Role->Prop)(ρ':Addr->Role)(ad':Role->Addr)(kp:zcL H (ad r0) H')(e0:∃o,H' (ad r0)=some o)
   (lv:∀r,live s' r->N r\/live s r) (same:∀r,¬N r->ad' r=ad r) (nr0:¬N r0)
   (new:∀r,live s' r->N r->H (ad' r)=none/\ρ' (ad' r)=r/\∃o,H' (ad' r)=some o/\At A ad' s' kv' H' r o) (chg:∀o,H' (ad r0)=some o->At A ad' s' kv' H' r0 o)
   (oth:∀r o,r≠r0->¬N r->live s' r->At A ad s kv H' r o->At A ad' s' kv' H' r o) (hρ:∀b,(∃o,H b=some o)->ρ' b=ρ b) (hρ2:∀b,H' b=none->ρ' b=.other):zai A ρ' ad' s' kv' H'/\Frame ρ H ρ' H':=by
 have im:=Imm.zg1 ok h l0 kp;refine⟨⟨λr l=>?_,λr l=>?_,hρ2⟩,λb u eb q=>?_,im.tup⟩
 . by_cases hn:N r
   . obtain⟨_,_,o,e,a⟩:=new r l hn;exact⟨o,e,a⟩
   . rw[same r hn];have ls:=(lv r l).resolve_left hn;by_cases hr:r=r0
     . subst hr;obtain⟨o,e⟩:=e0;exact⟨o,e,chg o e⟩
     . obtain⟨o',e',a'⟩:=h.at_ r ls;exact⟨o',kp _ _ e' (h.ne ls l0 hr),oth r o' hr hn l (a'.mono im)⟩
 . by_cases hn:N r
   . exact(new r l hn).2.1
   . rw[same r hn];have ls:=(lv r l).resolve_left hn;obtain⟨o',e',_⟩:=h.at_ r ls;rw[hρ _ ⟨o',e'⟩];exact h.ro r ls
 . have hb:b≠ad r0:=λz=>by rw[z,h.ro r0 l0]at q;exact zp6 l0 q
   exact⟨kp b u eb hb,by rw[hρ b ⟨u,eb⟩];exact q⟩
theorem zai.addRec(ok:AdOk A)(h:zai A ρ ad s kv H){p d dx:Addr}(np:H p=none)(nd:H d=none)(e0:H' (ad .recs)=some (.lst (((List.range s.n).map λi=>V.ref (ad (.rcd i)))++[.ref p])))(e1:H' p=some (.ins A.zaG dx (recF .zar d .non)))(e2:H' d=some (.lst []))(kp:zcL H (ad .recs) H') :
   ∃ρ' ad',ad' .hall=ad .hall/\zai A ρ' ad' { s with n:=s.n+1,deed:=up s.deed s.n ⟨.zar,[],none⟩ } kv H'/\Frame ρ H ρ' H':=by
 have hpd:p≠d:=zbj e1 e2 λz=>nomatch z;have a1:∀r,r≠.rcd s.n->r≠.did s.n->up (up ad (.rcd s.n) p) (.did s.n) d r=ad r:=λr h1 h2=>by rw[zao h2,zao h1]
 have ar:up (up ad (.rcd s.n) p) (.did s.n) d (.rcd s.n)=p:=by rw[zao (by intro z;cases z),zae]
 have adn:up (up ad (.rcd s.n) p) (.did s.n) d (.did s.n)=d:=zae;have st:∀(x:Addr),H x=none->x≠p->x≠d->up (up ρ p (.rcd s.n)) d (.did s.n) x=ρ x:=λx _ h1 h2=>by rw[zao h2,zao h1]
 refine⟨up (up ρ p (.rcd s.n)) d (.did s.n),up (up ad (.rcd s.n) p) (.did s.n) d,a1 _ (by intro z;cases z) (by intro z;cases z),?_⟩;refine h.more ok .recs trivial (λr=>r=.rcd s.n\/r=.did s.n) _ _ kp ⟨_,e0⟩ (λr l=>?_) (λr hn=>a1 r (λz=>hn (.inl z)) λz=>hn (.inr z)) (by rintro(z | z)<;>cases z) (λr l hn=>?_) (λo e=>?_) (λr o hr hn l a=>?_) (λb ⟨o,eb⟩=>?_) λb eb=>?_
 . cases r with
   | rcd i =>
     have hi:i < s.n+1:=l;rcases ycC i s.n with z | z
     . exact .inr z
     . exact .inl (.inl (by rw[show i=s.n by omega]))
   | did i =>
     have hi:i < s.n+1:=l;rcases ycC i s.n with z | z
     . exact .inr z
     . exact .inl (.inr (by rw[show i=s.n by omega]))
   | _=>exact .inr l
 . rcases hn with z | z
   . subst z;rw[ar];refine⟨np,by rw[zao hpd,zae],_,e1,dx,.non,?_,?_⟩
     . show _=HO.ins A.zaG dx (recF (up s.deed s.n _ s.n).st (up (up ad (.rcd s.n) p) (.did s.n) d (.did s.n)) .non);rw[zae,zae]
     . show zcK A H' .non (wantOf (up s.deed s.n ⟨.zar,[],none⟩ s.n));rw[zae];rfl
   . subst z;rw[adn];refine⟨nd,zae,_,e2,[],rfl,?_⟩;show zap H' [] ((up s.deed s.n _ s.n).done.map actV);rw[zae];exact .nil
 . rw[e0]at e;have e:=yaL e;show o=HO.lst ((List.range (s.n+1)).map λi=>V.ref (up (up ad (.rcd s.n) p) (.did s.n) d (.rcd i)));rw[<-e,ycn,yav,yaK,ydh,ar]
   congr 2
   refine ybq λi hi=>?_;have:i≠s.n:=yaI (yaV.mp hi);rw[a1 _ (by intro z;injection z with z;exact this z) (by intro z;cases z)]
 . cases r with
   | rcd i =>
     have hi:i≠s.n:=λz=>hn (.inl (by rw[z]));obtain⟨dx',w',e',t'⟩:=a;refine⟨dx',w',?_,?_⟩
     . show _=HO.ins A.zaG dx' (recF (up s.deed s.n _ i).st (up (up ad (.rcd s.n) p) (.did s.n) d (.did i)) w');rw[zao hi,a1 _ (by intro z;cases z) (by intro z;injection z with z;exact hi z)];exact e'
     . show zcK A H' w' (wantOf (up s.deed s.n _ i));rw[zao hi];exact t'
   | did i =>
     have hi:i≠s.n:=λz=>hn (.inr (by rw[z]));obtain⟨us,e',t'⟩:=a;refine⟨us,e',?_⟩;show zap H' us ((up s.deed s.n _ i).done.map actV);rw[zao hi];exact t'
   | hall =>
     obtain⟨dx',e'⟩:=a;refine⟨dx',?_⟩;rw[e'];unfold zmT;simp only[a1 .recs (by intro z;cases z) (by intro z;cases z),a1 .zb6 (by intro z;cases z) (by intro z;cases z),a1 .zcC (by intro z;cases z) (by intro z;cases z),a1 .zde (by intro z;cases z) (by intro z;cases z),a1 .order (by intro z;cases z) (by intro z;cases z),a1 .rows (by intro z;cases z) (by intro z;cases z)]
   | recs=>exact absurd rfl hr
   | zb6 =>
     show o=HO.dK (s.seen.map λj=>(Sum.inr j,V.ref (up (up ad (.rcd s.n) p) (.did s.n) d (.desk j))));have:(λj:Str=>((Sum.inr j:Key),V.ref (up (up ad (.rcd s.n) p) (.did s.n) d (.desk j))))=λj=>(Sum.inr j,V.ref (ad (.desk j))):=funext λj=>by rw[a1 _ (by intro z;cases z) (by intro z;cases z)]
     rw[this];exact a
   | desk j =>
     obtain⟨dx',e'⟩:=a;refine⟨dx',?_⟩;rw[e',a1 (.held j) (by intro z;cases z) (by intro z;cases z),a1 (.row j) (by intro z;cases z) (by intro z;cases z)]
   | _=>exact a
 . rw[zao (zah eb nd),zao (zah eb np)]
 . have h1:b≠p:=λz=>by rw[z,e1]at eb;cases eb
   have h2:b≠d:=λz=>by rw[z,e2]at eb;cases eb
   rw[zao h2,zao h1];refine h.fr b ?_;cases q:H b with
   | none=>rfl
   | some u =>
     by_cases z:b=ad .recs
     . rw[z,e0]at eb;cases eb
     . rw[kp b u q z]at eb;cases eb
theorem zai.ztg(ok:AdOk A)(h:zai A ρ ad s kv H){k:Str}(hk:k∉s.seen)(h1:s.held k=[])(h2:s.rows k=[]){p hd rw dx:Addr}(np:H p=none)(nh:H hd=none)(nr:H rw=none)
   (e0:H' (ad .zb6)=some (.dK (zem ad s.seen++[(Sum.inr k,.ref p)]))) (e1:H' p=some (.ins A.zcz dx (zji hd rw))) (e2:H' hd=some (.dK [])) (e3:H' rw=some (.lst [])) (kp:zcL H (ad .zb6) H') :
   ∃ρ' ad',ad' .hall=ad .hall/\zai A ρ' ad' { s with seen:=s.seen++[k] } kv H'/\Frame ρ H ρ' H'/\ad' (.desk k)=p:=by
 have p1:p≠hd:=zbj e1 e2 λz=>nomatch z;have p2:p≠rw:=zbj e1 e3 λz=>nomatch z;have p3:hd≠rw:=zbj e2 e3 λz=>nomatch z;generalize hA:(up (up (up ad (.desk k) p) (.held k) hd) (.row k) rw)=ad';have a1:∀r,r≠.desk k->r≠.held k->r≠.row k->ad' r=ad r:=λr q1 q2 q3=>by rw[<-hA,zao q3,zao q2,zao q1]
 have ad1:ad' (.desk k)=p:=by rw[<-hA,zao (by intro z;cases z),zao (by intro z;cases z),zae]
 have ad2:ad' (.held k)=hd:=by rw[<-hA,zao (by intro z;cases z),zae]
 have ad3:ad' (.row k)=rw:=by rw[<-hA,zae]
 generalize hR:(up (up (up ρ p (.desk k)) hd (.held k)) rw (.row k))=ρ';have r1:∀b,b≠p->b≠hd->b≠rw->ρ' b=ρ b:=λb q1 q2 q3=>by rw[<-hR,zao q3,zao q2,zao q1]
 refine⟨ρ',ad',a1 _ (by intro z;cases z) (by intro z;cases z) (by intro z;cases z),?_⟩;have main:=h.more (s':={ s with seen:=s.seen++[k] }) (kv':=kv) ok .zb6 trivial (λr=>r=.desk k\/r=.held k\/r=.row k) ρ' ad' kp ⟨_,e0⟩ (λr l=>?_) (λr hn=>a1 r (λz=>hn (.inl z)) (λz=>hn (.inr (.inl z))) λz=>hn (.inr (.inr z))) (by rintro(z | z | z)<;>cases z) (λr l hn=>?_) (λo e=>?_) (λr o hr hn l a=>?_) (λb ⟨o,eb⟩=>?_) λb eb=>?_
 . exact⟨main.1,main.2,ad1⟩
 . have mm:∀j,j∈s.seen++[k]->j=k\/j∈s.seen:=λj hj=>by
     rcases yas.mp hj with z | z
     . exact .inr z
     . exact .inl (yaq.mp z)
   cases r with
   | desk j=>exact(mm j l).elim (λz=>.inl (.inl (by rw[z]))) .inr
   | held j=>exact(mm j l).elim (λz=>.inl (.inr (.inl (by rw[z])))) .inr
   | row j=>exact(mm j l).elim (λz=>.inl (.inr (.inr (by rw[z])))) .inr
   | _=>exact .inr l
 . rcases hn with z | z | z
   . subst z;rw[ad1];refine⟨np,by rw[<-hR,zao p2,zao p1,zae],_,e1,dx,?_⟩;rw[ad2,ad3]
   . subst z;rw[ad2];refine⟨nh,by rw[<-hR,zao p3,zae],_,e2,?_⟩;show _=HO.dK (zcv (s.held k));rw[h1];rfl
   . subst z;rw[ad3];refine⟨nr,by rw[<-hR,zae],_,e3,[],rfl,?_⟩;show zap H' [] ((s.rows k).map zcF);rw[h2];exact .nil
 . rw[e0]at e;have e:=yaL e;show o=HO.dK ((s.seen++[k]).map λj=>(Sum.inr j,V.ref (ad' (.desk j))));rw[<-e,yav,yaK,ydh,ad1];unfold zem
   congr 2
   refine ybq λj hj=>?_;have:j≠k:=λz=>hk (z▸hj);rw[a1 _ (by intro z;injection z with z;exact this z) (by intro z;cases z) (by intro z;cases z)]
 . cases r with
   | rcd i =>
     obtain⟨dx',w',e',t'⟩:=a;refine⟨dx',w',?_,t'⟩;rw[e',a1 (.did i) (by intro z;cases z) (by intro z;cases z) (by intro z;cases z)]
   | hall =>
     obtain⟨dx',e'⟩:=a;refine⟨dx',?_⟩;rw[e'];unfold zmT;simp only[a1 .recs (by intro z;cases z) (by intro z;cases z) (by intro z;cases z),a1 .zb6 (by intro z;cases z) (by intro z;cases z) (by intro z;cases z),a1 .zcC (by intro z;cases z) (by intro z;cases z) (by intro z;cases z),a1 .zde (by intro z;cases z) (by intro z;cases z) (by intro z;cases z),a1 .order (by intro z;cases z) (by intro z;cases z) (by intro z;cases z),a1 .rows (by intro z;cases z) (by intro z;cases z) (by intro z;cases z)]
   | recs =>
     show o=HO.lst ((List.range s.n).map λi=>V.ref (ad' (.rcd i)));have:(λi=>V.ref (ad' (.rcd i)))=λi=>V.ref (ad (.rcd i)):=funext λi=>by rw[a1 _ (by intro z;cases z) (by intro z;cases z) (by intro z;cases z)]
     rw[this];exact a
   | zb6=>exact absurd rfl hr
   | desk j =>
     have hj:j≠k:=λz=>hn (.inl (by rw[z]));obtain⟨dx',e'⟩:=a;refine⟨dx',?_⟩;rw[e',a1 (.held j) (by intro z;cases z) (by intro z;injection z with z;exact hj z) (by intro z;cases z),a1 (.row j) (by intro z;cases z) (by intro z;cases z) (by intro z;injection z with z;exact hj z)]
   | _=>exact a
 . exact r1 b (zah eb np) (zah eb nh) (zah eb nr)
 . have q1:b≠p:=λz=>by rw[z,e1]at eb;cases eb
   have q2:b≠hd:=λz=>by rw[z,e2]at eb;cases eb
   have q3:b≠rw:=λz=>by rw[z,e3]at eb;cases eb
   rw[r1 b q1 q2 q3];refine h.fr b ?_;cases q:H b with
   | none=>rfl
   | some u =>
     by_cases z:b=ad .zb6
     . rw[z,e0]at eb;cases eb
     . rw[kp b u q z]at eb;cases eb
theorem zai.fresh{a dx p1 p2 p3 p4 p5 p6:Addr}(na:H a=none)(n1:H p1=none)(n2:H p2=none)(n3:H p3=none)(n4:H p4=none)(n5:H p5=none)(n6:H p6=none)
   (e:H' a=some (.ins A.zaW dx [("records",.ref p1),("desks",.ref p2),("standing",.ref p3),("kept_values",.ref p4),("kept_deeds",.ref p5),("rows",.ref p6)]))
   (e1:H' p1=some (.lst [])) (e2:H' p2=some (.dK [])) (e3:H' p3=some (.dK [])) (e4:H' p4=some (.dK [])) (e5:H' p5=some (.lst [])) (e6:H' p6=some (.lst [])) (d1:p1≠p5) (d2:p1≠p6) (d3:p5≠p6) (d4:p2≠p3) (d5:p2≠p4) (d6:p3≠p4) (kp:Same H H') :
   ∃ρ ad,ad .hall=a/\zai A ρ ad TH.empty (λ_=>none) H'/\∀b o,H b=some o->ρ b=.other:=by
 let ad:Role->Addr:=λr=>match r with
   | .hall=>a | .recs=>p1 | .zb6=>p2 | .zcC=>p3 | .zde=>p4 | .order=>p5 | .rows=>p6 | _=>a
 let ρ:Addr->Role:=λb=>if b=a then .hall else if b=p1 then .recs else if b=p2 then .zb6 else if b=p3 then .zcC else if b=p4 then .zde else if b=p5 then .order else if b=p6 then .rows else .other
 have k1:a≠p1:=zbj e e1 λz=>nomatch z;have k2:a≠p2:=zbj e e2 λz=>nomatch z;have k3:a≠p3:=zbj e e3 λz=>nomatch z;have k4:a≠p4:=zbj e e4 λz=>nomatch z;have k5:a≠p5:=zbj e e5 λz=>nomatch z;have k6:a≠p6:=zbj e e6 λz=>nomatch z;have l12:p1≠p2:=zbj e1 e2 λz=>nomatch z;have l13:p1≠p3:=zbj e1 e3 λz=>nomatch z;have l14:p1≠p4:=zbj e1 e4 λz=>nomatch z;have l52:p5≠p2:=zbj e5 e2 λz=>nomatch z;have l53:p5≠p3:=zbj e5 e3 λz=>nomatch z;have l54:p5≠p4:=zbj e5 e4 λz=>nomatch z;have l62:p6≠p2:=zbj e6 e2 λz=>nomatch z;have l63:p6≠p3:=zbj e6 e3 λz=>nomatch z;have l64:p6≠p4:=zbj e6 e4 λz=>nomatch z;have bk:zbs [] (λ_=>none:Book Str):=⟨ybO,λk v=>⟨(λz=>nomatch z),(λz=>nomatch z)⟩⟩
 have oth:∀b,b≠a->b≠p1->b≠p2->b≠p3->b≠p4->b≠p5->b≠p6->ρ b=.other:=λb q q1 q2 q3 q4 q5 q6=>by
   show(if b=a then Role.hall else _)=_;rw[yai q,yai q1,yai q2,yai q3,yai q4,yai q5,yai q6]
 refine⟨ρ,ad,rfl,⟨λr l=>?_,λr l=>?_,λb eb=>?_⟩,λb o eb=>?_⟩
 . cases r with
   | hall=>exact⟨_,e,dx,rfl⟩
   | recs=>exact⟨_,e1,rfl⟩
   | zb6=>exact⟨_,e2,rfl⟩
   | zcC=>exact⟨_,e3,[],rfl,bk⟩
   | zde=>exact⟨_,e4,[],rfl,bk⟩
   | order=>exact⟨_,e5,rfl⟩
   | rows=>exact⟨_,e6,[],rfl,.nil⟩
   | other=>exact l.elim
   | rcd i=>exact absurd l (ycp _)
   | did i=>exact absurd l (ycp _)
   | desk k=>exact absurd l (yci)
   | held k=>exact absurd l (yci)
   | row k=>exact absurd l (yci)
 . cases r with
   | hall=>exact yaj rfl
   | recs=>show(if p1=a then _ else _)=_;rw[yai k1.symm,yaj rfl]
   | zb6=>show(if p2=a then _ else _)=_;rw[yai k2.symm,yai l12.symm,yaj rfl]
   | zcC=>show(if p3=a then _ else _)=_;rw[yai k3.symm,yai l13.symm,yai d4.symm,yaj rfl]
   | zde=>show(if p4=a then _ else _)=_;rw[yai k4.symm,yai l14.symm,yai d5.symm,yai d6.symm,yaj rfl]
   | order=>show(if p5=a then _ else _)=_;rw[yai k5.symm,yai d1.symm,yai l52,yai l53,yai l54,yaj rfl]
   | rows=>show(if p6=a then _ else _)=_;rw[yai k6.symm,yai d2.symm,yai l62,yai l63,yai l64,yai d3.symm,yaj rfl]
   | other=>exact l.elim
   | rcd i=>exact absurd l (ycp _)
   | did i=>exact absurd l (ycp _)
   | desk k=>exact absurd l (yci)
   | held k=>exact absurd l (yci)
   | row k=>exact absurd l (yci)
 . exact oth b (λz=>by rw[z,e]at eb;cases eb) (λz=>by rw[z,e1]at eb;cases eb) (λz=>by rw[z,e2]at eb;cases eb) (λz=>by rw[z,e3]at eb;cases eb) (λz=>by rw[z,e4]at eb;cases eb) (λz=>by rw[z,e5]at eb;cases eb) (λz=>by rw[z,e6]at eb;cases eb)
 . exact oth b (zah eb na) (zah eb n1) (zah eb n2) (zah eb n3) (zah eb n4) (zah eb n5) (zah eb n6)
end
end TP
end
section
namespace TP
open PySem L2 TH
structure Sm(s:HS Str):Prop where
 n:s.n<=63
 seen:s.seen.length<=4
 snd:s.seen.Nodup
 dn:∀d,(s.deed d).done.length<=2000
 lg:s.log.length<=3000
 kp:s.kept.length<=1000
 hl:∀k,(s.held k).length<=1000
 hn:∀k,((s.held k).map (·.1)).Nodup
 rl:∀k,(s.rows k).length<=1000
 bs:∀k,s.book k≠none->k∈s.seen
theorem zgl:∀(n:Nat) (l:List Nat),l.Nodup->(∀x∈l,x < n)->l.length<=n:=λn l nd h=>by
 have:∀(a b:List Nat),a.Nodup->(∀x∈a,x∈b)->a.length<=b.length:=λa=>by
  induction a with
  | nil=>intro b _ _;simp
  | cons x r ih =>
   intro b nd hs;obtain⟨n1,n2⟩:=yaW.mp nd;have hx:=hs x yac;have:=ih (b.erase x) n2 λz hz=>(ycy (show z≠x from λe=>n1 (e▸hz))).mpr (hs z (yad _ hz));rw[yca hx]at this;have hpos:0 < b.length:=ycl hx;simp only[yaP];omega
 have:=this l (List.range n) nd λx hx=>yaV.mpr (h x hx)
 rwa [ya6]at this
structure Lim(s:HS Str)(T:Nat):Prop where
 e:Ext s T
 t:T<=1000
 n:s.n<=63
 sn:s.seen.length<=4
theorem Lim.sm{s:HS Str}{T:Nat}{x:Option Nat}(L:Lim s T)(c:Core s x):Sm s where
 n:=L.n
 seen:=L.sn
 snd:=L.e.snd
 dn:=λd=>by have:=L.e.dn d;have:=L.t;omega
 lg:=by have:=L.e.lg;have:=L.t;omega
 kp:=yaA (zgl s.n s.kept c.zhx λd hd=>by
  by_cases z:d < s.n
  . exact z
  . have h1:=(c.out d (by omega)).1;rw[(c.zdf d).mp hd]at h1;cases h1) (by have:=L.n;omega)
 hl:=λk=>by
  have:=zgl s.n ((s.held k).map (·.1)) (c.hNd k) λd hd=>by
    obtain⟨p,hp,rfl⟩:=yap.mp hd;exact c.lt (c.hAct k p hp)
  rw[yaa]at this;have:=L.n;omega
 hn:=c.hNd
 rl:=λk=>by
  have:=zgl s.n ((s.rows k).map (·.1)) (c.rNd k) λd hd=>by
    obtain⟨p,hp,rfl⟩:=yap.mp hd;exact c.lt (.inr (c.rAct k p hp).1)
  rw[yaa]at this;have:=L.n;omega
 bs:=L.e.zhz
def zol(A:Ad):Sp:=λvs H Q _=>∃(p dx:Addr),vs=[.ref p]/\H p=some (.ins A.zaW dx []) /\
 ∀H' ρ ad,ad .hall=p->zai A ρ ad TH.empty (λ_=>none) H'->(∀b o,H b=some o->b≠p->H' b=some o/\ρ b=.other)->Q .non H'
def zsv(A:Ad):Sp:=λvs H Q _=>∃ρ ad s kv,vs=[.ref (ad Role.hall)]/\zai A ρ ad s kv H/\Sm s/\s.n < 63 /\
 ∀H' ρ' ad',ad' Role.hall=ad .hall->zai A ρ' ad' (zav s) kv H'->Frame ρ H ρ' H'->Q (.int s.n) H'
def Out(A:Ad)(s:HS Str)(i:Int)(H:Hp)(E:XK):Prop:=(i < 0\/(s.n:Int)<=i)/\E (.ref A.ziQ) none H
def zoj(A:Ad):Sp:=λvs H Q E=>∃ρ ad s kv i,vs=[.ref (ad Role.hall),.int i]/\zai A ρ ad s kv H/\s.n<=1000 /\
 ((∃d:Nat,i=d/\d < s.n/\Q (.ref (ad (.rcd d))) H)\/Out A s i H E)
def zq3(A:Ad):Sp:=λvs H Q E=>∃ρ ad s kv i,vs=[.ref (ad Role.hall),.int i]/\zai A ρ ad s kv H/\s.n<=1000 /\
 ((∃d:Nat,i=d/\d < s.n/\((s.deed d).st=.zar/\Q .non H\/(s.deed d).st≠.zar/\E (.ref A.zdc) none H))\/Out A s i H E)
def zsu(A:Ad):Sp:=λvs H Q _=>∃ρ ad s kv d wv a,vs=[.ref (ad Role.hall),.int (d:Nat),wv]/\zai A ρ ad s kv H/\Sm s/\d < s.n/\a.key∈s.seen/\zcK A H wv (some a) /\
 ∀H',zai A ρ ad (doIt (zk2 s d a.key a.wr) d a) kv H'->Frame ρ H ρ H'->Q .non H'
end TP
namespace TP
open PySem L2 TH
theorem two{G:Hp}{p q:Addr}{x o o':HO}(gp:G p=some x)(nq:G q=none) :
  upd (upd G q o) p o' p=some o'/\upd (upd G q o) p o' q=some o/\(∀b u,b≠p->G b=some u->upd (upd G q o) p o' b=some u)/\∀b,upd (upd G q o) p o' b=none->G b=none/\b≠q/\b≠p:=by
 have hpq:p≠q:=zah gp nq;refine⟨zab,by rw[zag hpq.symm,zab],λb u hb e=>by rw[zag hb,zag (zah e nq)];exact e,λb e=>?_⟩;have h1:b≠p:=λz=>by rw[z,zab]at e;cases e
 rw[zag h1]at e;have h2:b≠q:=λz=>by rw[z,zab]at e;cases e
 rw[zag h2]at e;exact⟨e,h2,h1⟩
end TP
namespace TP
open PySem L2 TH
theorem ztm{α β:Type}[DecidableEq α](f:α->β)(a:α)(x y:β):up (up f a x) a y=up f a y:=by
 funext b;by_cases h:b=a
 . subst h;rw[zae,zae]
 . rw[zao h,zao h,zao h]
theorem zui{K:Type}[DecidableEq K](t:HS K)(d:Nat)(a:Act K)(h:a.wr=true):doIt t d a={ n:=t.n,deed:=up (up t.deed d { t.deed d with st:=.zar }) d { (up t.deed d { t.deed d with st:=.zar }) d with done:=((up t.deed d { t.deed d with st:=.zar }) d).done++[a] },held:=t.held,rows:=t.rows,book:=up t.book a.key (some a.val),seen:=t.seen,log:=t.log++[.write d a.key ((t.book a.key).getD 0) a.val],kept:=t.kept }:=by
 unfold doIt;rw[yaj h,ztm,zae]
theorem zuj{K:Type}[DecidableEq K](t:HS K)(d:Nat)(a:Act K)(h:a.wr=false):doIt t d a={ n:=t.n,deed:=up (up t.deed d { t.deed d with st:=.zar }) d { (up t.deed d { t.deed d with st:=.zar }) d with done:=((up t.deed d { t.deed d with st:=.zar }) d).done++[⟨false,a.key,(t.book a.key).getD 0⟩] },held:=t.held,rows:=t.rows,book:=t.book,seen:=t.seen,log:=t.log,kept:=t.kept }:=by
 unfold doIt;rw[yai (by rw[h];exact yam),ztm,zae]
end TP
namespace TP
open PySem L2 TH
def zok(A:Ad):Sp:=λvs H Q _=>∃ρ ad s kv d,vs=[.ref (ad Role.hall),.int (d:Nat)]/\zai A ρ ad s kv H/\Core s none/\Sm s/\d < s.n /\
 ∀H' q,H q=none->Same H H'->H' q=some (.lst (zaD (nxt s d)))->Q (.ref q) H'
def za1(l:List Nat):List (Key×V):=l.map λ(x:Nat)=>(Sum.inl (x:Int),V.bl true)
def zq7(A:Ad):Sp:=λvs H Q _=>∃ρ ad s kv d,vs=[.ref (ad Role.hall),.int (d:Nat)]/\zai A ρ ad s kv H/\Core s none/\Sm s/\d < s.n /\
 ∀H' q l,Same H H'->H' q=some (.dK (za1 l))->l.Nodup->(∀x,x∈l↔zdr s d x)->Q (.ref q) H'
def gotV:Option Nat->V
 | none=>.non
 | some g=>.int (g:Int)
def zom(A:Ad):Sp:=λvs H Q _=>∃ρ ad s kv d,vs=[.ref (ad Role.hall),.int (d:Nat)]/\zai A ρ ad s kv H/\Core s none/\Head s/\Thru s d/\Sm s/\d < s.n /\
 ∀H',Same H H'->Q (gotV (rings s).getLast?) H'
theorem zrX{s:HS Str}(c:Core s none){d e:Nat}(h:e∈nxt s d):e < s.n:=c.lt (zpj c (zlB h))
theorem zgt(l:List Nat)(x:Nat):(valV (za1 l) (Sum.inl (x:Int))).isSome=decide (x∈l):=by
 unfold za1
 induction l with
 | nil=>rfl
 | cons y r ih =>
  rw[yaK];by_cases e:y=x
  . rw[zbz (zdb.mpr e)];simp[e]
  . rw[zbA λz=>e (zdb.mp z),ih];simp[ybn e]
theorem zqv{l:List Nat}{x:Nat}(h:x∉l):putK (za1 l) (Sum.inl (x:Int)) (V.bl true)=za1 (l++[x]):=by
 have hn:valV (za1 l) (Sum.inl (x:Int))=none:=by
  have:=zgt l x;rw[yay h]at this;cases e:valV (za1 l) (Sum.inl (x:Int)) with
  | none=>rfl
  | some v=>rw[e]at this;cases this
 rw[zkd _ hn];unfold za1;rw[yav];rfl
end TP
end
section
namespace TP
open PySem L2 TH
def ub(kv b:Book Str)(ks:List Str):Book Str:=λk=>if k∈ks then kv k else b k
theorem zsh(kv b:Book Str)(ks:List Str)(k:Str):up (ub kv b ks) k (kv k)=ub kv b (ks++[k]):=by
 funext j
 by_cases h:j=k
 . subst h;rw[zae];unfold ub;rw[yaj (by simp)]
 . rw[zao h];unfold ub;by_cases hj:j∈ks
   . rw[yaj hj,yaj (yaJ _ hj)]
   . rw[yai hj,yai (by simp[hj,h])]
theorem zgX{k:Str}:∀{l:List (Act Str)},k∈(zat l).map (·.1)↔(zaV l k).isSome=true
 | []=>by simp[zat,zaV]
 | a::r=>by
  have ih:=zgX (k:=k) (l:=r);have e:zat (a::r)=(if a.wr then [(a.key,a.val)] else [])++zat r:=by
   unfold zat;rw[ybg];by_cases h:a.wr=true
   . rw[yaj h,yaj h];rfl
   . rw[yai h,yai h];rfl
  rw[e,yav,yas,ih];have el:zaV (a::r) k=match zaV r k with | some v=>some v | none=>if a.wr=true/\a.key=k then some a.val else none:=rfl
  rw[el];cases hl:zaV r k with
  | some v=>simp
  | none =>
   by_cases h:a.wr=true
   . by_cases hk:a.key=k
     . simp[h,hk]
     . simp[h,hk,ybn hk]
   . simp[h]
def zpa(s:HS Str)(kv:Book Str)(d:Nat):Book Str:=λk=>if (zaV (s.deed d).done k).isSome then kv k else s.book k
theorem zo9(s:HS Str)(kv:Book Str)(d:Nat):ub kv s.book ((zat (s.deed d).done).map (·.1))=zpa s kv d:=by
 funext k
 unfold ub zpa;by_cases h:(zaV (s.deed d).done k).isSome=true
 . rw[yaj h,yaj (zgX.mpr h)]
 . rw[yai h,yai λz=>h (zgX.mp z)]
def ztA(A:Ad):Sp:=λvs H Q _=>∃ρ ad s kv d,vs=[.ref (ad Role.hall),.int (d:Nat)]/\zai A ρ ad s kv H/\Sm s/\d < s.n/\(∀k,kv k≠none->k∈s.seen) /\
 ∀H',zai A ρ ad { s with book:=zpa s kv d } kv H'->Frame ρ H ρ H'->Q .non H'
theorem Ext.zbq{K:Type}[DecidableEq K]{k:K}{f:Nat}{s:HS K}{T:Nat}(E:Ext s T)(c:Core s none):Ext (TH.zbq f s k) T:=by
 refine zeX (λt=>Ext t T) (λs d w r a c hr hl ha E=>?_) f s c E;have hm:(d,w)∈s.rows k:=by rw[hr];exact yac
 obtain⟨hst,a',ha',hk',hw'⟩:=c.rAct k _ hm;rw[ha]at ha';cases ha';refine E.does (a:=zee s a) (d:=d) (by rw[zel];rfl) (by rw[zcw];rfl) (c.lt (.inr hst)) (.inr hst) (by rw[zdW];rfl) zky (λk=>ziR) (λk' e w' h=>?_) ?_ (yaf _) (.inl hst)
 . rw[zca]at h;rcases zks h with h | ⟨h1,h2⟩
   . exact .inl h
   . exact .inr ⟨h1,by rw[zcJ,hk'];exact h2⟩
 . rw[zcJ,hk'];exact zcX c hm
theorem zoH{K:Type}[DecidableEq K]{k:K}{f:Nat}{s:HS K}(c:Core s none):(TH.zbq f s k).seen=s.seen/\(TH.zbq f s k).n=s.n :=
 zeX (λt=>t.seen=s.seen/\t.n=s.n) (λs d w r a _ _ _ _ h=>⟨by rw[zcw];exact h.1,by rw[zel];exact h.2⟩) f s c ⟨rfl,rfl⟩
def zss(A:Ad):Sp:=λvs H Q _=>∃ρ ad s kv k T,vs=[.ref (ad Role.hall),.str k]/\zai A ρ ad s kv H/\Core s none/\Lim s T/\k∈s.seen /\
 ∀H',zai A ρ ad (zbq (s.rows k).length s k) kv H'->Frame ρ H ρ H'->Q .non H'
def zuM(A:Ad):Sp:=λvs H Q _=>∃ρ ad s s0 kv d st T,vs=[.ref (ad Role.hall),.int (d:Nat),.str (stS st)]/\zai A ρ ad s kv H/\Core s0 none/\Lim s0 T/\Head s0 /\
 s.deed=s0.deed/\s.held=s0.held/\s.rows=s0.rows/\s.seen=s0.seen/\s.n=s0.n/\Core (letGo (zgc s d st) d) none/\Lim (letGo (zgc s d st) d) T/\st≠.waiting/\d < s.n /\
 ∀H' ρ' ad',ad' Role.hall=ad .hall->zai A ρ' ad' (free ordS (zgc s d st) d) kv H'->Frame ρ H ρ' H'->Q .non H'
theorem zhs(s:HS Str)(d:Nat):(s.deed d).done.map (·.key)++zdh (wantOf (s.deed d))=touched s d:=by
 unfold touched wantOf
 congr 1
 by_cases h:(s.deed d).st=.waiting
 . rw[yaj h,h];cases (s.deed d).wish with
   | none=>rfl
   | some a=>rfl
 . rw[yai h];split
   . contradiction
   . rfl
theorem zjN{K:Type}[DecidableEq K]:∀(a b:List K) (s:HS K),zaM s (a++b)=zaM (zaM s a) b
 | [],_,_=>rfl
 | k::r,b,s=>zjN r b (zbq (s.rows k).length s k)
def ztI(A:Ad):Sp:=λvs H Q _=>∃ρ ad s d T,vs=[.ref (ad Role.hall),.int (d:Nat)]/\zai A ρ ad s (zam s) H/\Core s none/\Lim s T/\Head s/\(s.deed d).act /\
 ∀H' ρ' ad',ad' Role.hall=ad .hall->zai A ρ' ad' (drop ordS s d) (zam s) H'->Frame ρ H ρ' H'->Q .non H'
def ztz(A:Ad):Sp:=λvs H Q _=>∃ρ ad s d a wv T,vs=[.ref (ad Role.hall),.int (d:Nat),wv]/\zai A ρ ad s (zam s) H/\a.key∈s.seen/\zcK A H wv (some a)/\d < s.n/\Sm s /\
 Core (wait s d a) none/\Head (wait s d a)/\Thru (wait s d a) d/\Lim (wait s d a) T /\
 ∀H' ρ' ad',ad' Role.hall=ad .hall->zai A ρ' ad' (settle ordS s.n (wait s d a)) (zam s) H'->Frame ρ H ρ' H'->Q .non H'
end TP
end
section
namespace TH
section
variable{K:Type}[DecidableEq K]
theorem zhp{s:HS K}{ks:List K}(c:Core s none):zam (zaM s ks)=zam s:=by
 have:=zbK (λt=>t.kept=s.kept/\∀d∈s.kept,(t.deed d).done=(s.deed d).done) (λt k d w r a ct hr hl ha h=>?_) ks s c ⟨rfl,λ_ _=>rfl⟩
 . exact zbT this.1 this.2
 . refine⟨by rw[zeY];exact h.1,λe he=>?_⟩;have hne:e≠d:=λz=>by
    have h1:=(ct.zdf e).mp (by rw[h.1];exact he);have h2:=(ct.rAct k (d,w) (by rw[hr];exact yac)).1;rw[z]at h1;have h2:(t.deed d).st=.waiting:=h2;rw[h1]at h2;cases h2
   rw[zcT _ _ _ hne];exact h.2 e he
variable(ord:List K->List K)
theorem zg2{s:HS K}{d:Nat}(c:Core s none)(hd:(s.deed d).act):zam (drop ord s d)=zam s:=by
 unfold drop free;rw[zhp (c.drops hd)];refine zbT rfl λe he=>?_;show(up s.deed d { s.deed d with st:=.dropped } e).done=_;by_cases h:e=d
 . subst h;rw[zae]
 . rw[zao h]
theorem zoC{s:HS K}{d:Nat}(c:Core s none)(hd:(s.deed d).act):zam (keep ord s d)=over (zam s) (s.deed d).done:=by
 unfold keep free;rw[zhp (c.keeps hd)];show zdQ (up s.deed d { s.deed d with st:=.kept }) (s.kept++[d]) _=_;rw[zbu (deed:=s.deed) λe he=>?_,zgo]
 . rfl
 . by_cases h:e=d
   . subst h;rw[zae]
   . rw[zao h]
theorem zda{s:HS K}(c:Core s none):zam (zav s)=zam s:=by
 refine zbT rfl λe he=>?_;have:e≠s.n:=λz=>by
  have h1:=(c.zdf e).mp he;have h2:=(c.out e (by omega)).1;rw[h1]at h2;cases h2
 show(up s.deed s.n _ e).done=_;rw[zao this]
theorem zjJ{s:HS K}{d:Nat}{a:Act K}:zam (wait s d a)=zam s:=by
 refine zbT rfl λe he=>?_;show(up s.deed d { s.deed d with st:=.waiting,wish:=some a } e).done=_;by_cases h:e=d
 . subst h;rw[zae]
 . rw[zao h]
theorem zho:∀{f:Nat} {s:HS K},Core s none->zam (settle ord f s)=zam s
 | 0,_,_=>rfl
 | f+1,s,c=>by
  unfold settle;split
  . rfl
  . rename_i d h;have hd:(s.deed d).act:=by
     have:=(zbI (ya2 h)).2;exact .inr (zaO this)
    rw[zho (c.drop ord hd),zg2 ord c hd]
variable(hord:∀l k,k∈ord l↔k∈l)
include hord
theorem zkR{s:HS K}{d:Nat}{a:Act K}(c:Core s none)(h:Head s)(ac:Acyc s)(hd:(s.deed d).st=.zar)(hf:((has ((see s a.key).held a.key) d || ((see s a.key).rows a.key).isEmpty) && lets ((see s a.key).held a.key) d a.wr)=false) :
   Core (wait (see s a.key) d a) none/\Head (wait (see s a.key) d a)/\Thru (wait (see s a.key) d a) d:=by
 have c1:Core (TH.see s a.key) none:=c.see;have h':Head (TH.see s a.key):=h;have ac':Acyc (TH.see s a.key):=ac.mono λe x h=>h;have h2:¬(lets ((TH.see s a.key).held a.key) d a.wr=true/\(has ((TH.see s a.key).held a.key) d=true\/(TH.see s a.key).rows a.key=[])):=λz=>by
   rw[z.1,Bool.and_true]at hf;rcases z.2 with z | z
   . rw[z]at hf;cases hf
   . rw[z]at hf;simp at hf
 have hw:∀w',(d,w')∈(TH.see s a.key).held a.key->w'=false/\a.wr=true:=λw' z=>by
   have q:=zc9 (c1.hNd _) z;have hh:has ((TH.see s a.key).held a.key) d=true:=zkx q;have hl:lets ((TH.see s a.key).held a.key) d a.wr=false:=by
     cases e:lets ((TH.see s a.key).held a.key) d a.wr with
     | false=>rfl
     | true=>exact absurd ⟨e,.inl hh⟩ h2
   have no:∃p∈(TH.see s a.key).held a.key,p.1≠d/\(a.wr || p.2)=true:=by
     unfold lets at hl;have:=ydn.mp hl;obtain⟨p,hp,hq⟩:=this;refine⟨p,hp,?_⟩;by_cases z:p.1=d
     . simp[z]at hq
     . refine⟨z,?_⟩;simp[z]at hq;cases h1:a.wr<;>cases h2:p.2<;>simp[h1,h2]at hq ⊢
   obtain⟨p,hp,hne,hu⟩:=no;cases hw':w' with
   | true=>subst hw';exact absurd (c1.hEx a.key d z p hp) hne
   | false =>
     refine⟨rfl,?_⟩;cases ha:a.wr with
     | true=>rfl
     | false =>
       rw[ha]at hu;have hp2:p.2=true:=by simpa using hu
       have hpm:(p.1,true)∈(TH.see s a.key).held a.key:=by rw[<-hp2];exact hp
       exact absurd (c1.hEx a.key p.1 hpm _ z).symm hne
 refine⟨c1.wait hd zbX hw,λk e w r q=>?_,Thru.wait ac'⟩;show lets ((TH.see s a.key).held k) e w=false;by_cases hk:k=a.key
 . subst hk;have q':(if has ((TH.see s a.key).held a.key) d then (d,a.wr)::(TH.see s a.key).rows a.key else (TH.see s a.key).rows a.key++[(d,a.wr)])=(e,w)::r:=by
     rw[<-q];exact zae.symm
   cases hh:has ((TH.see s a.key).held a.key) d with
   | true =>
     rw[hh]at q';simp only[yb2]at q';injection q' with e1 e2
     have e3:d=e:=yaZ Prod.fst e1;have e4:a.wr=w:=yaZ Prod.snd e1;subst e3 e4;cases hl:lets ((TH.see s a.key).held a.key) d a.wr with
     | false=>rfl
     | true=>exact absurd ⟨hl,.inl hh⟩ h2
   | false =>
     rw[hh]at q';simp only[yaX,ybV]at q';cases hr:(TH.see s a.key).rows a.key with
     | nil =>
       rw[hr]at q';simp only[List.nil_append]at q';injection q' with e1 e2
       have e3:d=e:=yaZ Prod.fst e1;have e4:a.wr=w:=yaZ Prod.snd e1;subst e3 e4;cases hl:lets ((TH.see s a.key).held a.key) d a.wr with
       | false=>rfl
       | true=>exact absurd ⟨hl,.inr hr⟩ h2
     | cons p t =>
       rw[hr]at q';simp only[ybU]at q';injection q' with e1 e2
       subst e1;exact h' a.key e w t hr
 . have q':(TH.see s a.key).rows k=(e,w)::r:=by rw[<-q];exact(zao hk).symm
   exact h' k e w r q'
omit hord
def Did(d:Nat)(t:HS K):Prop:=(t.deed d).st=.zar\/(t.deed d).st=.kept->(t.deed d).done≠[]
theorem Did.doIt{t:HS K}{d e:Nat}{a:Act K}(h:Did d t):Did d (doIt t e a):=λq=>by
 by_cases z:d=e
 . subst z;rw[zdW,zae];simp
 . rw[zcT _ _ _ z]at q ⊢;exact h q
theorem Did.self{t:HS K}{d:Nat}{a:Act K}:Did d (TH.doIt t d a):=λq=>by rw[zdW,zae];simp
theorem Did.zaM{t:HS K}{d:Nat}{ks:List K}(c:Core t none)(h:Did d t):Did d (zaM t ks) :=
 zbK (Did d) (λs k e w r a _ _ _ _ h=>Did.doIt (t:=take { s with rows:=up s.rows k r } e k w) h) ks t c h
theorem Did.drop{t:HS K}{d g:Nat}(c:Core t none)(hg:(t.deed g).act)(h:Did d t):Did d (drop ord t g):=by
 refine Did.zaM (c.drops hg) λq=>?_;have q':(up t.deed g { t.deed g with st:=.dropped } d).st=.zar\/(up t.deed g { t.deed g with st:=.dropped } d).st=.kept:=q;show(up t.deed g { t.deed g with st:=.dropped } d).done≠[];by_cases z:d=g
 . subst z;rw[zae]at q';rcases q' with q' | q'<;>cases q'
 . rw[zao z]at q' ⊢;exact h q'
theorem Did.settle{d:Nat}:∀{f:Nat} {t:HS K},Core t none->Did d t->Did d (settle ord f t)
 | 0,_,_,h=>h
 | f+1,t,c,h=>by
  unfold TH.settle;split
  . exact h
  . rename_i g hg;have ha:(t.deed g).act:=.inr (zaO (zbI (ya2 hg)).2);exact Did.settle (c.drop ord ha) (h.drop ord c ha)
theorem Did.wait{s:HS K}{d:Nat}{a:Act K}:Did d (wait s d a):=λq=>by
 have q':(up s.deed d { s.deed d with st:=.waiting,wish:=some a } d).st=.zar\/(up s.deed d { s.deed d with st:=.waiting,wish:=some a } d).st=.kept:=q;rw[zae]at q';rcases q' with q' | q'<;>cases q'
end
end TH
namespace TP
open PySem L2 TH
theorem Lim.letGo{s:HS Str}{T d:Nat}(L:Lim s T){t:HS Str}(E:Ext (TH.letGo t d) T)(hn:t.n=s.n)(hs:t.seen=s.seen):Lim (TH.letGo t d) T:=⟨E,L.t,by show t.n<=63;rw[hn];exact L.n,by show t.seen.length<=4;rw[hs];exact L.sn⟩
theorem ziH{s:HS Str}{d:Nat}(c:Core s none)(hd:(s.deed d).act):(drop ordS s d).seen=s.seen:=zd9 _ _ (c.drops hd)
theorem Lim.drop{s:HS Str}{T d:Nat}(L:Lim s T)(c:Core s none)(hd:(s.deed d).act):Lim (TH.drop ordS s d) T:=⟨L.e.drop ordS c hd,L.t,by rw[zlE ordS c hd];exact L.n,by rw[ziH c hd];exact L.sn⟩
theorem zlN{s:HS Str}{d:Nat}(c:Core s none)(hd:(s.deed d).act):(keep ordS s d).seen=s.seen:=zd9 _ _ (c.keeps hd)
theorem Lim.keep{s:HS Str}{T d:Nat}(L:Lim s T)(c:Core s none)(hd:(s.deed d).act):Lim (TH.keep ordS s d) T:=⟨L.e.keep ordS c hd,L.t,by rw[zr0 ordS c hd];exact L.n,by rw[zlN c hd];exact L.sn⟩
theorem Lim.drops{s:HS Str}{T d:Nat}(L:Lim s T)(c:Core s none)(hd:(s.deed d).act):Lim (TH.letGo (zrI s d) d) T :=
 L.letGo (L.e.ends (t:=.dropped) (bk:=λk=>if (zaV (s.deed d).done k).isSome then zam s k else s.book k) (kp:=s.kept) (r:=.drop d) c hd (.inr rfl) (λk h=>by
  split at h
  . exact L.e.zje k h
  . exact L.e.zhz k h)) rfl rfl
theorem Lim.keeps{s:HS Str}{T d:Nat}(L:Lim s T)(c:Core s none)(hd:(s.deed d).act):Lim (TH.letGo (zf0 s d) d) T :=
 L.letGo (L.e.ends (t:=.kept) (bk:=s.book) (kp:=s.kept++[d]) (r:=.keep d) c hd (.inl rfl) L.e.zhz) rfl rfl
def zlM(D:Deed Str):Int:=(D.done.getLast?.map (·.val)).getD 0
def ansV(D:Deed Str)(wr:Bool):List V:=match D.st with
 | .dropped=>[.str "given up"]
 | .waiting=>[.str "waits"]
 | _=>if wr then [.str "done"] else [.str "value",.int (zlM D)]
def zq8(A:Ad):Sp:=λvs H Q _=>∃ρ ad s kv d a wv,vs=[.ref (ad Role.hall),.int (d:Nat),wv]/\zai A ρ ad s kv H/\zcK A H wv (some a)/\d < s.n/\Did d s /\
 ∀H' q,H q=none->Same H H'->H' q=some (.tup (ansV (s.deed d) a.wr))->Q (.ref q) H'
structure Ready(s:HS Str)(T:Nat):Prop where
 c:Core s none
 h:Head s
 a:Acyc s
 L:Lim s T
theorem Sm.see{s:HS Str}{T:Nat}(R:Ready s T){k:Str}(h:(TH.see s k).seen.length<=4)(t:T+1<=1000):Sm (TH.see s k):=Lim.sm (T:=T+1) (x:=none) ⟨R.L.e.see,t,R.L.n,h⟩ R.c.see
theorem Lim.wish{s:HS Str}{T d:Nat}{a:Act Str}(R:Ready s T)(hd:(s.deed d).st=.zar)(h:(TH.see s a.key).seen.length<=4)(t:T+1<=1000)(hn:(TH.wish ordS s d a).n=s.n)(hs:(TH.wish ordS s d a).seen=(TH.see s a.key).seen):Lim (TH.wish ordS s d a) (T+1) :=
 ⟨R.L.e.wish ordS R.c hd,t,by rw[hn];exact R.L.n,by rw[hs];exact h⟩
theorem Lim.wait{s:HS Str}{T d:Nat}{a:Act Str}(R:Ready s T)(hd:(s.deed d).st=.zar)(h:(TH.see s a.key).seen.length<=4)(t:T+1<=1000):Lim (TH.wait (TH.see s a.key) d a) (T+1) :=
 ⟨Ext.wait (s:=TH.see s a.key) R.L.e.see hd (λe=>by have:=R.L.e.dn e;exact ydD this) (by have:=R.L.e.lg;show s.log.length+zdY s+actN s+2<=_;omega),t,R.L.n,h⟩
theorem zhX:∀{f:Nat} {s:HS Str},Core s none->(settle ordS f s).seen=s.seen/\(settle ordS f s).n=s.n
 | 0,_,_=>⟨rfl,rfl⟩
 | f+1,s,c=>by
  unfold TH.settle;split
  . exact⟨rfl,rfl⟩
  . rename_i d h;have hd:(s.deed d).act:=.inr (zaO (zbI (ya2 h)).2);obtain⟨h1,h2⟩:=zhX (f:=f) (c.drop ordS hd);exact⟨by rw[h1,ziH c hd],by rw[h2,zlE ordS c hd]⟩
theorem zcm{s:HS Str}{T d:Nat}{a:Act Str}(R:Ready s T)(hd:(s.deed d).st=.zar):(wish ordS s d a).n=s.n/\(wish ordS s d a).seen=(see s a.key).seen/\zam (wish ordS s d a)=zam s/\Did d (wish ordS s d a):=by
 rw[zhT ordS R.c];split
 . refine⟨by rw[zel];rfl,by rw[zcw];rfl,zbT (zeY _ _ _) λe he=>?_,Did.self⟩;have hne:e≠d:=λz=>by
    have h1:=(R.c.zdf e).mp he;rw[z,hd]at h1;cases h1
   rw[zcT _ _ _ hne];rfl
 . rename_i h;obtain⟨c1,_,_⟩:=zkR ordS (λl k=>zaX) R.c R.h R.a hd (by simpa using h);obtain⟨s1,s2⟩:=zhX (f:=s.n) c1;exact⟨by rw[s2];rfl,by rw[s1];rfl,by rw[zho ordS c1,zjJ];rfl,Did.settle ordS c1 Did.wait⟩
theorem Ready.wish{s:HS Str}{T d:Nat}{a:Act Str}(R:Ready s T)(hd:(s.deed d).st=.zar)(h:(see s a.key).seen.length<=4)(t:T+1<=1000):Ready (TH.wish ordS s d a) (T+1) :=
 let F:=zcm (a:=a) R hd
 ⟨R.c.wish ordS hd,Head.wish ordS (λl k=>zaX) R.c R.h hd,R.a.wish ordS R.c hd,Lim.wish R hd h t F.1 F.2.1⟩
theorem Ready.drop{s:HS Str}{T d:Nat}(R:Ready s T)(hd:(s.deed d).act):Ready (TH.drop ordS s d) T:=⟨R.c.drop ordS hd,Head.drop ordS (λl k=>zaX) R.c hd,R.a.drop ordS R.c hd,R.L.drop R.c hd⟩
theorem Ready.keep{s:HS Str}{T d:Nat}(R:Ready s T)(hd:(s.deed d).act):Ready (TH.keep ordS s d) T:=⟨R.c.keep ordS hd,Head.keep ordS (λl k=>zaX) R.c hd,R.a.keep ordS R.c hd,R.L.keep R.c hd⟩
theorem Ready.zav{s:HS Str}{T:Nat}(R:Ready s T)(hn:s.n < 63)(t:T+1<=1000):Ready (TH.zav s) (T+1):=⟨R.c.zav,R.h,R.a.zav R.c,⟨R.L.e.zav R.c,t,hn,R.L.sn⟩⟩
theorem Ready.empty:Ready (TH.empty:HS Str) 0:=⟨All.empty.c,All.empty.h,All.empty.a,Ext.empty,by decide,by decide,by decide⟩
end TP
end
section
namespace TP
open PySem L2 TH
def ztL(A:Ad):Sp:=λvs H Q _=>∃ρ ad s d a pw dw T,vs=[.ref (ad Role.hall),.int (d:Nat),.ref pw]/\zai A ρ ad s (zam s) H/\Ready s T/\T+1<=1000/\(see s a.key).seen.length<=4/\(s.deed d).st=.zar/\H pw=some (.ins A.zex dw (zse a))/\ρ pw=.other /\
 ∀H' ρ' ad' q,ad' Role.hall=ad .hall->zai A ρ' ad' (wish ordS s d a) (zam s) H'->Frame ρ H ρ' H'->H' q=some (.tup (ansV ((wish ordS s d a).deed d) a.wr))->ρ' q=.other->Q (.ref q) H'
def zng(A:Ad)(s:HS Str)(i:Int)(H:Hp)(E:XK)(G:Nat->Prop):Prop :=
 (∃d:Nat,i=d/\d < s.n/\((s.deed d).st=.zar/\G d\/(s.deed d).st≠.zar/\E (.ref A.zdc) none H))\/Out A s i H E
def ztC(A:Ad):Sp:=λvs H Q E=>∃ρ ad s i k T,vs=[.ref (ad Role.hall),.int i,.str k]/\zai A ρ ad s (zam s) H/\Ready s T/\T+1<=1000/\(see s k).seen.length<=4 /\
 zng A s i H E λd=>∀H' ρ' ad' q,ad' Role.hall=ad .hall->zai A ρ' ad' (wish ordS s d ⟨false,k,0⟩) (zam s) H'->Frame ρ H ρ' H'->H' q=some (.tup (ansV ((wish ordS s d ⟨false,k,0⟩).deed d) false))->ρ' q=.other->Q (.ref q) H'
def zsp(A:Ad):Sp:=λvs H Q E=>∃ρ ad s i k v T,vs=[.ref (ad Role.hall),.int i,.str k,.int v]/\zai A ρ ad s (zam s) H/\Ready s T/\T+1<=1000/\(see s k).seen.length<=4 /\
 zng A s i H E λd=>∀H' ρ' ad' q,ad' Role.hall=ad .hall->zai A ρ' ad' (wish ordS s d ⟨true,k,v⟩) (zam s) H'->Frame ρ H ρ' H'->H' q=some (.tup (ansV ((wish ordS s d ⟨true,k,v⟩).deed d) true))->ρ' q=.other->Q (.ref q) H'
def ztG(A:Ad):Sp:=λvs H Q E=>∃ρ ad s i T,vs=[.ref (ad Role.hall),.int i]/\zai A ρ ad s (zam s) H/\Ready s T /\
 zng A s i H E λd=>∀H' ρ' ad',ad' Role.hall=ad .hall->zai A ρ' ad' (keep ordS s d) (zam (keep ordS s d)) H'->Frame ρ H ρ' H'->Q .non H'
def zq5(A:Ad):Sp:=λvs H Q E=>∃ρ ad s i T,vs=[.ref (ad Role.hall),.int i]/\zai A ρ ad s (zam s) H/\Ready s T /\
 ((∃d:Nat,i=d/\d < s.n/\((s.deed d).act/\(∀H' ρ' ad',ad' Role.hall=ad .hall->zai A ρ' ad' (drop ordS s d) (zam (drop ordS s d)) H'->Frame ρ H ρ' H'->Q .non H')\/¬(s.deed d).act/\E (.ref A.zdc) none H))\/Out A s i H E)
def zsr(A:Ad):Sp:=λvs H Q _=>∃ρ ad s kv,vs=[.ref (ad Role.hall)]/\zai A ρ ad s kv H/\s.kept.length<=1000/\∀H' q,Same H H'->H' q=some (.tup (zaD s.kept))->Q (.ref q) H'
def zq6(A:Ad):Sp:=λvs H Q E=>∃ρ ad s kv i,vs=[.ref (ad Role.hall),.int i]/\zai A ρ ad s kv H/\s.n<=1000/\(∀d,(s.deed d).done.length<=2000) /\
 ((∃d:Nat,i=d/\d < s.n/\∀H' q us,Same H H'->H' q=some (.tup us)->zap H' us ((s.deed d).done.map actV)->Q (.ref q) H')\/Out A s i H E)
def wb(b:Book Str)(l:List (Str×Int)):Book Str:=l.foldl (λb p=>up b p.1 (some p.2)) b
theorem zmf(b:Book Str)(l:List (Str×Int))(p:Str×Int):wb b (l++[p])=up (wb b l) p.1 (some p.2):=by unfold wb;rw[ybA];rfl
theorem zj2:∀(l:List (Act Str)) (b:Book Str),wb b (zat l)=over b l
 | [],b=>rfl
 | a::r,b=>by
  have e:zat (a::r)=(if a.wr then [(a.key,a.val)] else [])++zat r:=by
    unfold zat;rw[ybg];by_cases h:a.wr=true
    . rw[yaj h,yaj h];rfl
    . rw[yai h,yai h];rfl
  rw[e];by_cases h:a.wr=true
  . rw[yaj h];unfold over;rw[yaj h];exact zj2 r _
  . rw[yai h];unfold over;rw[yai h];exact zj2 r _
theorem zj1:∀{l:List (Str×Int)} {b:Book Str} {k:Str},wb b l k≠none->b k≠none\/k∈l.map (·.1)
 | [],_,_,h=>.inl h
 | p::r,b,k,h=>by
  rcases zj1 (l:=r) (b:=up b p.1 (some p.2)) h with h | h
  . by_cases z:k=p.1
    . exact .inr (by rw[z];exact yac)
    . rw[zao z]at h;exact .inl h
  . exact .inr (yad _ h)
theorem zhS{s:HS Str}{T:Nat}(E:Ext s T){d:Nat}{k:Str}(h:k∈(zat (s.deed d).done).map (·.1)):k∈s.seen:=by
 obtain⟨p,hp,rfl⟩:=yap.mp h;unfold zat at hp;obtain⟨a,ha,hq⟩:=ybu.mp hp;by_cases z:a.wr=true
 . rw[yaj z]at hq;cases hq;exact E.zhy d a ha
 . rw[yai z]at hq;cases hq
end TP
end
section
namespace TP
open PySem L2 TH
def za3(ns:List Int)(k:Nat):Int:=ns.getD k 0
def mixF(c p m:Int):Int:=c * 48271 % p % m
theorem zjD{c p m:Int}(h:0 < m):0<=mixF c p m/\mixF c p m < m:=⟨Int.emod_nonneg _ (by omega),Int.emod_lt_of_pos _ h⟩
theorem zmJ{c p:Int}{m:Nat}(h:0 < m):∃n:Nat,mixF c p m=n/\n < m:=by
 obtain⟨h1,h2⟩:=zjD (c:=c) (p:=p) (m:=(m:Int)) (by omega);exact⟨(mixF c p m).toNat,by omega,by omega⟩
def pick(l:Str)(i:Nat):Str:=match l.cps.toList[i]? with
 | some c=>⟨#[c]⟩
 | none=>Str.empty
def abc:Str := "abcdefghijklmnopqrstuvwxyz"
def zdZ(seed:Int):List Str:=(List.range (mixF seed 9967 4).toNat).map λ(j:Nat)=>pick abc (mixF (seed+5 * (j:Int)) 9973 26).toNat
def ziA(ns:List Int)(k:Nat):Str:=pick "qrst" k++Txt.join "" (zdZ (za3 ns 0+7 * (k:Int)))
open Classical in
noncomputable def keyF(ns:List Int)(k:Nat):Str:=if k=3/\za3 ns 0 % 2=0 then (if ziA ns 0 = "q" then "qa" else "q") else ziA ns k
theorem zkh{l:Str}{i:Nat}(h:i < l.cps.size):∃c,atI l.cps.toList (i:Int)=some c/\pick l i=⟨#[c]⟩:=by
 have hl:i < l.cps.toList.length:=by simpa using h
 refine⟨l.cps.toList[i],zbH (by rw[yax hl]),?_⟩;unfold pick;rw[yax hl]
theorem zrj(l:Str)(i:Nat):(pick l i).length<=1:=by
 unfold pick;split
 . exact yaf _
 . exact ya1 _
theorem zq1(seed:Int):(zdZ seed).length<=3:=by
 unfold zdZ;rw[yaa,ya6];have:=zjD (c:=seed) (p:=9967) (m:=4) (by decide);omega
theorem zpS{a b:Str}(h:PyData.strOk a=true)(g:PyData.strOk b=true):PyData.strOk (a++b)=true:=by
 unfold PyData.strOk at *;show(a.cps++b.cps).all _=true;simp[h,g]
theorem zpR{l:Str}(h:PyData.strOk l=true)(i:Nat):PyData.strOk (pick l i)=true:=by
 unfold pick;split
 . rename_i c hc;unfold PyData.strOk at h ⊢;rw[Array.all_eq_true_iff_forall_mem]at h;have:=h c (by have:=yaS hc;simpa using this);simpa using this
 . decide +kernel
theorem zsS:∀{l:List Str},(∀x∈l,PyData.strOk x=true)->PyData.strOk (Txt.join "" l)=true:=λ{l} h=>by
 have main:∀(r:List Str) (a:Array Nat),(∀x∈r,PyData.strOk x=true)->PyData.strOk ⟨a⟩=true->PyData.strOk ⟨r.foldl (λacc p=>acc++("" : Str).cps++p.cps) a⟩=true:=λr=>by
  induction r with
  | nil=>intro a _ h;exact h
  | cons x r ih =>
   intro a hx ha;refine ih _ (λy hy=>hx y (yad _ hy)) ?_;have h1:=zpS (a:=⟨a⟩) (b := "") ha (by decide +kernel);exact zpS (a:=⟨a++("" : Str).cps⟩) (b:=x) h1 (hx x yac)
 refine main (l.drop 1) _ (λx hx=>h x (List.mem_of_mem_drop hx)) ?_;cases l with
 | nil=>decide +kernel
 | cons x r=>exact h x yac
theorem zp8(ns:List Int)(k:Nat):PyData.strOk (keyF ns k)=true:=by
 have h0:∀k,PyData.strOk (ziA ns k)=true:=λk=>zpS (zpR (by decide +kernel) k) (zsS λx hx=>by
   unfold zdZ at hx;obtain⟨j,_,rfl⟩:=yap.mp hx;exact zpR (by decide +kernel) _)
 unfold keyF;split
 . split<;>decide +kernel
 . exact h0 k
theorem znU{l:List Str}:(l.map (·.length)).sum+l.length * ("" : Str).length=(l.map (·.length)).sum:=by
 have:("" : Str).length=0:=by decide +kernel
 rw[this];omega
theorem zlO(l:List Str):(Txt.join "" l).length<=(l.map (·.length)).sum:=by
 have e0:("" : Str).cps.size=0:=by decide +kernel
 have main:∀(r:List Str) (a:Array Nat),(r.foldl (λacc p=>acc++("" : Str).cps++p.cps) a).size=a.size+(r.map (·.length)).sum:=λr=>by
  induction r with
  | nil=>intro a;rfl
  | cons x r ih =>
   intro a;rw[ybd,ih,yaK,ydA,Array.size_append,Array.size_append,e0];have:x.cps.size=x.length:=rfl;omega
 cases l with
 | nil=>exact yaf _
 | cons x r =>
  have:=main r x.cps;rw[yaK,ydA];exact yd8 this
theorem zhH(seed:Int):((zdZ seed).map (·.length)).sum<=3:=by
 have h1:=zq1 seed;have h2:∀l:List Str,(∀x∈l,x.length<=1)->(l.map (·.length)).sum<=l.length:=λl=>by
  induction l with
  | nil=>intro _;exact yaf _
  | cons x r ih=>intro h;rw[yaK,ydA,yaP];have:=h x yac;have:=ih λy hy=>h y (yad _ hy);omega
 have h3:=h2 (zdZ seed) λx hx=>by
  unfold zdZ at hx;obtain⟨j,_,rfl⟩:=yap.mp hx;exact zrj _ _
 omega
def ztJ(K:PySem.W.Frag):Sp:=λvs H Q _=>∃(a:Addr) (ns:List Int) (k:Nat),vs=[.ref a,.int k]/\SqL K H a (ns.map V.int)/\Q (.int (za3 ns k)) H
def zuJ:Sp:=λvs H Q _=>∃c p m:Int,vs=[.int c,.int p,.int m]/\0 < p/\0 < m/\Q (.int (mixF c p m)) H
def spNo:Sp:=λ_ _ _ _=>False
def ztF(K:PySem.W.Frag):Sp:=λvs H Q _=>∃(a:Addr) (ns:List Int) (k:Nat),vs=[.ref a,.int k]/\SqL K H a (ns.map V.int)/\k < 3/\∀H',Same H H'->Q (.str (ziA ns k)) H'
def zuL(K:PySem.W.Frag):Sp:=λvs H Q _=>∃(a:Addr) (ns:List Int) (k:Nat),vs=[.ref a,.int k]/\SqL K H a (ns.map V.int)/\k < 4/\∀H',Same H H'->Q (.str (keyF ns k)) H'
inductive LAct where
 | begin | read (d:Nat) (k:Str) | write (d:Nat) (k:Str) (v:Int) | keep (d:Nat) | drop (d:Nat)
def actD:LAct->List V
 | .begin=>[.str "begin"]
 | .read d k=>[.str "read",.int (d:Int),.str k]
 | .write d k v=>[.str "write",.int (d:Int),.str k,.int v]
 | .keep d=>[.str "keep",.int (d:Int)]
 | .drop d=>[.str "give up",.int (d:Int)]
def zf7(ns:List Int)(k:Str):Prop:=∃j,j < 4/\k=keyF ns j
def okA(ns:List Int)(b:Nat):LAct->Prop
 | .begin=>True
 | .read d k=>d < b/\zf7 ns k
 | .write d k _=>d < b/\zf7 ns k
 | .keep d=>d < b
 | .drop d=>d < b
def LAct.isB:LAct->Nat
 | .begin=>1
 | _=>0
def zcy(l:List LAct):Nat:=(l.map LAct.isB).sum
def Valid(ns:List Int)(l:List LAct):Prop:=∀i a,l[i]?=some a->okA ns (zcy (l.take i)) a
theorem Valid.snoc{ns:List Int}{l:List LAct}{a:LAct}(v:Valid ns l)(h:okA ns (zcy l) a):Valid ns (l++[a]):=λi b hb=>by
 by_cases hi:i < l.length
 . rw[ybC hi]at hb;have:=v i b hb
   rwa [ybp (by omega)]
 . rw[ybT (by omega)]at hb;have hi2:i - l.length=0:=by
    have:=(yar.mp hb).1;simp at this;omega
   rw[hi2]at hb;cases hb;have:i=l.length:=by omega
   subst this;rw[ybp (yaf _),yaG];exact h
theorem zec(l:List LAct)(a:LAct):zcy (l++[a])=zcy l+a.isB:=by unfold zcy;rw[yav,List.sum_append];simp
theorem zr5(a:LAct):a.isB<=1:=by cases a<;>first | exact yaf 1 | exact ya1 1
theorem zqQ(l:List LAct):zcy l<=l.length:=by
 unfold zcy
 induction l with
 | nil=>exact ya1 _
 | cons a r ih=>rw[yaK,ydA,yaP];have:=zr5 a;omega
theorem zqR(a:LAct):∃t,actD a=.str t::(actD a).tail/\(decide (V.str t=V.str "begin"))=decide (a.isB=1):=by
 cases a<;>refine⟨_,rfl,?_⟩<;>first | rfl | exact yay λz=>by have:=V.str.inj z;revert this;decide +kernel
end TP
end
section
namespace TP
open PySem L2 TH
theorem zis{α:Type}[DecidableEq α]:∀(a b:List α),a.Nodup->(∀x∈a,x∈b)->a.length<=b.length
 | [],b,_,_=>ya1 _
 | x::r,b,nd,hs=>by
  obtain⟨n1,n2⟩:=yaW.mp nd;have hx:=hs x yac;have:=zis r (b.erase x) n2 λz hz=>(ycy (show z≠x from λe=>n1 (e▸hz))).mpr (hs z (yad _ hz));rw[yca hx]at this;have hpos:0 < b.length:=ycl hx;simp only[yaP];omega
theorem zuV{ns:List Int}{l:List Str}(nd:l.Nodup)(h:∀k∈l,zf7 ns k):l.length<=4:=by
 have:=zis l ((List.range 4).map (keyF ns)) nd λk hk=>by
  obtain⟨j,hj,rfl⟩:=h k hk;exact yap.mpr ⟨j,yaV.mpr hj,rfl⟩
 simpa using this
theorem zp3{s:HS Str}{k x:Str}:x∈(see s k).seen↔x=k\/x∈s.seen:=by
 show x∈(if k∈s.seen then s.seen else s.seen++[k])↔_;split
 . rename_i h;exact⟨.inr,λq=>q.elim (λz=>z▸h) id⟩
 . rw[yas,yaq];exact Or.comm
theorem see4{ns:List Int}{s:HS Str}{T:Nat}{k:Str}(E:Ext s T)(h:∀k∈s.seen,zf7 ns k)(hk:zf7 ns k):(see s k).seen.length<=4 :=
 zuV (E.see (k:=k)).snd λx hx=>(zp3.mp hx).elim (λz=>z▸hk) (h x)
noncomputable def zbW(s:HS Str):LAct->HS Str
 | .begin=>zav s
 | .read d k=>if (s.deed d).st=.zar then wish ordS s d ⟨false,k,0⟩ else s
 | .write d k v=>if (s.deed d).st=.zar then wish ordS s d ⟨true,k,v⟩ else s
 | .keep d=>if (s.deed d).st=.zar then keep ordS s d else s
 | .drop d=>if (s.deed d).st=.zar\/(s.deed d).st=.waiting then drop ordS s d else s
theorem zdI(s:HS Str)(d:Nat)(k:Str):zbW s (.read d k)=if (s.deed d).st=.zar then wish ordS s d ⟨false,k,0⟩ else s:=rfl
theorem zcB(s:HS Str)(d:Nat)(k:Str)(v:Int):zbW s (.write d k v)=if (s.deed d).st=.zar then wish ordS s d ⟨true,k,v⟩ else s:=rfl
theorem zc2(s:HS Str)(d:Nat):zbW s (.keep d)=if (s.deed d).st=.zar then keep ordS s d else s:=rfl
theorem step_drop(s:HS Str)(d:Nat):zbW s (.drop d)=if (s.deed d).st=.zar\/(s.deed d).st=.waiting then drop ordS s d else s:=rfl
theorem Ready.mono{s:HS Str}{T:Nat}(R:Ready s T)(h:T+1<=1000):Ready s (T+1):=⟨R.c,R.h,R.a,⟨R.L.e.mono (ycM _),h,R.L.n,R.L.sn⟩⟩
structure Run(ns:List Int)(s:HS Str)(T:Nat):Prop where
 r:Ready s T
 k:∀k∈s.seen,zf7 ns k
theorem Run.step{ns:List Int}{s:HS Str}{T:Nat}(R:Run ns s T)(ht:T+1<=1000)(hn:s.n < 63){a:LAct}(ok:okA ns s.n a):Run ns (zbW s a) (T+1)/\(zbW s a).n=s.n+a.isB:=by
 have same:Run ns s (T+1)/\s.n=s.n:=⟨⟨R.r.mono ht,R.k⟩,rfl⟩
 have wi:∀(d:Nat) (x:Act Str),(s.deed d).st=.zar->zf7 ns x.key->Run ns (wish ordS s d x) (T+1)/\(wish ordS s d x).n=s.n:=λd x hd hk=>by
  have h4:=see4 R.r.L.e R.k hk;obtain⟨f1,f2,_,_⟩:=zcm (a:=x) R.r hd;refine⟨⟨R.r.wish hd h4 ht,λk h=>?_⟩,f1⟩;rw[f2]at h;exact(zp3.mp h).elim (λz=>z▸hk) (R.k k)
 cases a with
 | begin=>exact⟨⟨R.r.zav hn ht,R.k⟩,rfl⟩
 | read d k =>
  rw[zdI];split
  . rename_i h;exact wi d _ h ok.2
  . exact same
 | write d k v =>
  rw[zcB];split
  . rename_i h;exact wi d _ h ok.2
  . exact same
 | keep d =>
  rw[zc2];split
  . rename_i h;have ha:(s.deed d).act:=.inl h;exact⟨⟨(R.r.keep ha).mono ht,λk h=>R.k k (by rw[zlN R.r.c ha]at h;exact h)⟩,zr0 ordS R.r.c ha⟩
  . exact same
 | drop d =>
  rw[step_drop];split
  . rename_i h;have ha:(s.deed d).act:=h;exact⟨⟨(R.r.drop ha).mono ht,λk h=>R.k k (by rw[ziH R.r.c ha]at h;exact h)⟩,zlE ordS R.r.c ha⟩
  . exact same
def ztK(A:Ad):Sp:=λvs H Q E=>∃ρ ad s kq act T ns,vs=[.ref (ad Role.hall),.ref kq]/\zai A ρ ad s (zam s) H/\Run ns s T/\T+1<=1000/\s.n < 63/\okA ns s.n act/\H kq=some (.tup (actD act)) /\
 (∀v H' ρ' ad',ad' Role.hall=ad .hall->zai A ρ' ad' (zbW s act) (zam (zbW s act)) H'->Frame ρ H ρ' H'->Q v H')/\(zbW s act=s->E (.ref A.zdc) none H)
def spDo(A:Ad):Sp:=λvs H Q _=>∃ρ ad s kq act T ns,vs=[.ref (ad Role.hall),.ref kq]/\zai A ρ ad s (zam s) H/\Run ns s T/\T+1<=1000/\s.n < 63/\okA ns s.n act/\H kq=some (.tup (actD act)) /\
 ∀v H' ρ' ad',ad' Role.hall=ad .hall->zai A ρ' ad' (zbW s act) (zam (zbW s act)) H'->Frame ρ H ρ' H'->Q v H'
def ztE(K:PySem.W.Frag):Sp:=λvs H Q _=>∃(a:Addr) (ns:List Int),vs=[.ref a]/\SqL K H a (ns.map V.int)/\∀H',Q (.bl true) H'
def zjk(ks:List Str)(b:Book Str):List PySem.W.Dat:=(ordS ks).map λk=>.tuple [.str k,.int ((b k).getD 0)]
theorem zm4{H:Hp}{b:Book Str}:∀{l:List Str} {us:List V},zap H us (l.map λk=>[V.str k,V.int ((b k).getD 0)])->DVs H us (l.map λk=>PySem.W.Dat.tuple [.str k,.int ((b k).getD 0)])
 | [],[],.nil=>.nil
 | _::_,_::_,.cons ⟨p,e,q⟩ t=>by subst e;exact .cons (.tup q (.cons (.str _) (.cons (.int _) .nil))) (zm4 t)
theorem znL{a b:List Str}(h:∀k,k∈a↔k∈b):ordS a=ordS b:=ze5 (zba a) (zba b) λx=>by rw[zaX,zaX];exact h x
theorem zjW{ks:List Str}{b:Book Str}(h:∀k∈ks,PyData.strOk k=true):zeb (.tuple (zjk ks b)):=by
 show PySem.W.kqdOk 8 _=true;unfold zjk;simp only[PySem.W.kqdOk,yd9,ybh];intro k hk;have:=h k (zaX.mp hk);simp[PySem.W.kqdOk,this]
end TP
end
section
namespace TP
open PySem L2 TH
def zuK(A:Ad):Sp:=λvs H Q _=>∃ρ ad s kv,vs=[.ref (ad Role.hall)]/\zai A ρ ad s kv H/\∀H' q us,H q=none->Same H H'->H' q=some (.tup us)->zap H' us (s.log.map rowV)->Q (.ref q) H'
def zpm(A:Ad):Sp:=λvs H Q E=>∃ρ ad s kv i,vs=[.ref (ad Role.hall),.int i]/\zai A ρ ad s kv H/\s.n<=1000/\((∃d:Nat,i=d/\d < s.n/\Q (.str (stS (s.deed d).st)) H)\/Out A s i H E)
end TP
end
section
namespace TP
open PySem L2 TH
def rowB:Row Str->Bool
 | .begin _=>true
 | _=>false
theorem zrd(r:Row Str):∃t,rowV r=.str t::(rowV r).tail/\decide (V.str t=V.str "begin")=rowB r:=by
 cases r<;>refine⟨_,rfl,?_⟩<;>first | rfl | exact yay λz=>by have:=V.str.inj z;revert this;decide +kernel
theorem znP(l:List (Row Str))(r:Row Str):(logB (l++[r])).length=(logB l).length+if rowB r then 1 else 0:=by
 rw[zb9,yah];cases r<;>rfl
end TP
namespace TH
section
variable{K:Type}[DecidableEq K](ord:List K->List K)
theorem quiet{s:HS K}(c:Core s none)(h:∀d,¬(s.deed d).act):(∀k,s.held k=[]/\s.rows k=[])/\s.book=zam s:=by
 refine⟨λk=>⟨ycX.mpr λp hp=>h _ (c.hAct k p hp),ycX.mpr λp hp=>h _ (.inr (c.rAct k p hp).1)⟩,funext λk=>c.zgD k λd hd=>absurd hd (h d)⟩
end
end TH
end
section
namespace HT
open PySem PyProof.Rows
section
variable{prog:Program}{w:World}{A:Around}{E:Value->Shared->Prop}{s:Shared}
theorem zf2{t sl:Addr}{items:Array Value}{vl vu:Value}{lo hi:Option Int}{Q:Value->Shared->Prop}(ht:IsTup s.heap t items)(hs:s.heap.IsSliceOf sl vl vu .none)(pl:IsPart vl lo)(pu:IsPart vu hi)
  (h1:sIx items.size 0 lo=0) (h2:sIx items.size items.size hi=items.size) (h:Q (.ref t) s):wpAny (model prog w) A (getItem (.ref t) (.ref sl)) Q E s:=by
 obtain⟨os,hos,hcs,hds⟩:=id hs;have hTs:s.TypeIs (.ref sl) "slice" := ⟨os,hos,hcs⟩
 unfold getItem
 try with_reducible refine ybw ?_
 first | refine yab (yag ?_) | skip
 refine yab (wpAny_sequenceKey ht.typeIs (by decide) ?_);refine yab (yce (name:=Str.ofString "__getitem__") ht.typeIs ybf
  (ybK ybf ht.typeIs entry_tuple_getitem ?_ (args_tuple_getitem _ _)))
 show wpAny _ _ (Builtin.Tuple.tupleItemsOf (.ref t) >>= _) _ _ s;refine yab (tupleItemsOf_ ht ?_);refine yab (ycb hTs ?_);rw[yaj (by decide)];refine yab (zeg hs pl pu ?_);have hno:((((sIx items.size 0 lo:Nat):Int) == 0 && (1:Int) == 1 && (sIx items.size items.size hi - sIx items.size 0 lo) == items.size)=true):=by
  rw[h1,h2];simp
 show wpAny _ _ (if (((sIx items.size 0 lo:Nat):Int) == 0 && (1:Int) == 1 && (sIx items.size items.size hi - sIx items.size 0 lo) == items.size)=true then _ else _) _ _ s;rw[yaj hno];unfold Builtin.Tuple.tupleIsExact;refine yab (yab (ycb ht.typeIs (yag ?_)));rw[yaj (by decide)];exact yab (ydp (yag ⟨_,rfl,yag h⟩))
end
end HT
namespace L2
open PySem PySem.Spec PySem.W PyProof.Rows
section
variable{X:Cx}
def zsG(K:PySem.W.Frag):V->Option Int->Option Int->Hp->VK->Prop:=λx lo hi H Q=>∃a xs,∃n:Nat,x=.ref a/\lo=none/\hi=some (n:Int)/\SqT K H a xs/\n<=xs.length /\
 (n=xs.length->Q (.ref a) H)/\(n < xs.length->∀p,H p=none->Q (.ref p) (upd H p (.tup (xs.take n))))
theorem zh6{m n:Nat}(h:n<=m):HT.sIx m m (some (n:Int))=n:=by
 rw[HT.zh6];omega
theorem zsy:SlR X (zsG X.K):=by
 intro pins s σ H x v vl vu lo hi sl Q I rx hs pl pu h;obtain⟨a,xs,n,rfl,rfl,rfl,hx,hn,q1,q2⟩:=h;by_cases hw:n=xs.length
 . cases rx;obtain⟨its,r,ht,hz⟩:=I.tuple hx;have hlen:its.toArray.size=xs.length:=by rw[yaB];exact r.length.symm
   refine⟨"tuple",_,ybf.lookup,ht.typeIs,?_⟩;exact HT.zf2 ht hs pl pu rfl (by rw[hlen,zh6 hn];exact hw) ⟨.ref a,H,I,rfl,q1 hw⟩
 . refine ztM pins s σ H (.ref a) v vl vu none (some (n:Int)) sl Q I rx hs pl pu ⟨a,xs,rfl,hx,λz=>hw (by rw[<-zh6 hn];exact z.2),λp hp=>?_⟩;have e:cutV xs none (some (n:Int))=xs.take n:=by
    unfold cutV;rw[zh6 hn];show(xs.drop 0).take (n - 0)=_;rw[List.drop_zero,Nat.sub_zero]
   rw[e];exact q2 (by omega) p hp
end
end L2
end
section
namespace TP
open PySem L2 TH
def Apart(K:PySem.W.Frag)(ρ:Addr->Role)(H:Hp)(a:Addr)(xs:List V):Prop:=(∃o,H a=some o/\ρ a=.other/\∀H':Hp,H' a=some o->SqL K H' a xs)\/∀H':Hp,SqL K H' a xs
section
variable{K:PySem.W.Frag}{ρ ρ':Addr->Role}{H H':Hp}{a:Addr}{xs:List V}
theorem Apart.of(h:SqL K H a xs)(hr:∀o,H a=some o->ρ a=.other):Apart K ρ H a xs:=by
 rcases h with (h | ⟨o,h⟩) | h
 . exact .inl ⟨_,h,hr _ h,λH' e=>.inl (.inl e)⟩
 . exact .inl ⟨_,h,hr _ h,λH' e=>.inl (.inr ⟨o,e⟩)⟩
 . exact .inr λ_=>.inr h
theorem Apart.frame(S:Apart K ρ H a xs)(f:Frame ρ H ρ' H'):Apart K ρ' H' a xs:=by
 rcases S with ⟨o,h,r,k⟩ | k
 . exact .inl ⟨o,(f _ _ h r).1,(f _ _ h r).2,k⟩
 . exact .inr k
theorem Apart.sq(S:Apart K ρ H a xs):SqL K H a xs:=by
 rcases S with ⟨o,h,r,k⟩ | k
 . exact k _ h
 . exact k _
end
theorem zrs{ns:List Int}{s:HS Str}{T:Nat}(R:Run ns s T)(l:zaH s)(a:LAct):zaH (zbW s a):=by
 cases a with
 | begin=>exact l.zav R.r.c
 | read d k =>
  rw[zdI];split
  . rename_i h;exact l.wish ordS R.r.c h
  . exact l
 | write d k v =>
  rw[zcB];split
  . rename_i h;exact l.wish ordS R.r.c h
  . exact l
 | keep d =>
  rw[zc2];split
  . rename_i h;exact l.keep ordS R.r.c (.inl h)
  . exact l
 | drop d =>
  rw[step_drop];split
  . rename_i h;exact l.drop ordS R.r.c h
  . exact l
theorem zmS{H:Hp}:∀l:List Nat,DVs H (zaD l) (l.map λ(n:Nat)=>PySem.W.Dat.int (n:Int))
 | []=>.nil
 | _::r=>.cons (.int _) (zmS r)
theorem zqh(l:List Nat):zeb (.tuple (l.map λ(n:Nat)=>PySem.W.Dat.int (n:Int))):=by
 show PySem.W.kqdOk 8 _=true;simp[PySem.W.kqdOk]
end TP
end
section
namespace TH
section
variable{K:Type}[DecidableEq K](ord:List K->List K)
end
end TH
namespace TP
open PySem L2 TH
theorem zri(kvs:List (Key×V))(k:Key)(v:V):(putK kvs k v).length<=kvs.length+1:=by
 unfold putK;split<;>simp
theorem zty{t:DS}(h:¬(t=.zar\/t=.waiting)):inV (.str (stS t)) [.str "kept",.str "given up"]=true:=by
 cases t<;>first | exact absurd (.inl rfl) h | exact absurd (.inr rfl) h | decide +kernel
end TP
end
section
namespace TP
open PySem L2 TH
def bk1(S:List (Row Str)×Book Str)(r:Row Str):List (Row Str)×Book Str:=(S.1++[r],match r with | .keep d=>wb S.2 (logW S.1 d) | _=>S.2)
def bkOf(l:List (Row Str)):Book Str:=(l.foldl bk1 ([],λ_=>none)).2
theorem zuq(l:List (Row Str)):(l.foldl bk1 ([],λ_=>none)).1=l:=by
 have main:∀(l:List (Row Str)) (S:List (Row Str)×Book Str),(l.foldl bk1 S).1=S.1++l:=λl=>by
  induction l with
  | nil=>intro S;simp
  | cons r l ih=>intro S;rw[ybd,ih];show(S.1++[r])++l=_;simp
 rw[main];rfl
theorem zcx(l:List (Row Str))(r:Row Str):bkOf (l++[r])=match r with | .keep d=>wb (bkOf l) (logW l d) | _=>bkOf l:=by
 unfold bkOf;rw[ybA,ybd,List.foldl_nil];unfold bk1;cases r<;>first | rfl | (show wb _ (logW (l.foldl bk1 _).1 _)=_;rw[zuq])
structure zu8(l:List (Row Str)):Prop where
 g:∀d∈logG l,d < (logB l).length/\d∉logK l
 k:∀d∈logK l,d < (logB l).length
 up:(logG l).Pairwise (· < ·)
theorem znY{g:List Nat}{d e:Nat}(h:e∈g.erase d):e∈g:=List.mem_of_mem_erase h
theorem Wf.zar:∀{l:List (Row Str)},Wf l->zu8 l:=λ{l} w=>by
 induction w with
 | nil=>exact⟨λd h=>(by cases h),λd h=>(by cases h),List.Pairwise.nil⟩
 | @snoc l r w ok ih =>
  have nd:(logG l).Nodup:=ih.up.imp λh=>yaI h;cases r with
  | begin d =>
   have ok:d=(logB l).length:=ok;have eb:(logB (l++[.begin d])).length=(logB l).length+1:=by rw[zb9,yah];rfl
   have ek:logK (l++[.begin d])=logK l:=by rw[zbp];simp
   have eg:logG (l++[.begin d])=logG l++[d]:=by rw[zbJ];rfl
   refine⟨λe he=>?_,λe he=>?_,?_⟩
   . rw[eg]at he;rw[eb,ek];rcases yas.mp he with he | he
     . have:=ih.g e he;exact⟨by omega,this.2⟩
     . rw[yaq.mp he];exact⟨by omega,λz=>by have:=ih.k d z;omega⟩
   . rw[ek]at he;rw[eb];have:=ih.k e he;omega
   . rw[eg];refine yb0.mpr ⟨ih.up,List.pairwise_singleton _ _,λa ha b hb=>?_⟩;rw[yaq.mp hb];have:=(ih.g a ha).1;omega
  | write d k b v =>
   have eb:logB (l++[.write d k b v])=logB l:=by rw[zb9];simp
   have ek:logK (l++[.write d k b v])=logK l:=by rw[zbp];simp
   have eg:logG (l++[.write d k b v])=logG l:=by rw[zbJ];rfl
   exact⟨by rw[eb,ek,eg];exact ih.g,by rw[eb,ek];exact ih.k,by rw[eg];exact ih.up⟩
  | keep d =>
   have ok:d∈logG l:=ok;have eb:logB (l++[.keep d])=logB l:=by rw[zb9];simp
   have ek:logK (l++[.keep d])=logK l++[d]:=by rw[zbp]
   have eg:logG (l++[.keep d])=(logG l).erase d:=by rw[zbJ];rfl
   refine⟨λe he=>?_,λe he=>?_,by rw[eg];exact ih.up.sublist List.erase_sublist⟩
   . rw[eg]at he;rw[eb,ek];have h1:=ih.g e (znY he);refine⟨h1.1,λz=>?_⟩;rcases yas.mp z with z | z
     . exact h1.2 z
     . rw[yaq.mp z]at he;exact List.Nodup.not_mem_erase nd he
   . rw[ek]at he;rw[eb];rcases yas.mp he with z | z
     . exact ih.k e z
     . rw[yaq.mp z];exact(ih.g d ok).1
  | drop d =>
   have eb:logB (l++[.drop d])=logB l:=by rw[zb9];simp
   have ek:logK (l++[.drop d])=logK l:=by rw[zbp];simp
   have eg:logG (l++[.drop d])=(logG l).erase d:=by rw[zbJ];rfl
   exact⟨λe he=>by rw[eg]at he;rw[eb,ek];exact ih.g e (znY he),by rw[eb,ek];exact ih.k,by rw[eg];exact ih.up.sublist List.erase_sublist⟩
theorem Wf.pre{l:List (Row Str)}(w:Wf l):∀i,Wf (l.take i):=by
 induction w with
 | nil=>intro i;rw[List.take_nil];exact .nil
 | @snoc l r w ok ih =>
  intro i;by_cases h:i<=l.length
  . rw[ybp h];exact ih i
  . rw[yba (by rw[yah,yaE];omega)];exact .snoc w ok
theorem zu5{l:List (Row Str)}(w:Wf l):bkOf l=(logK l).foldl (λb d=>wb b (logW l d)) λ_=>none:=by
 have cong:∀(f g:Book Str->Nat->Book Str) (ks:List Nat) (b:Book Str),(∀d∈ks,∀b,f b d=g b d)->ks.foldl f b=ks.foldl g b:=λf g ks=>by
  induction ks with
  | nil=>intro b _;rfl
  | cons d r ih=>intro b h;rw[ybd,ybd,h d yac];exact ih _ λe he=>h e (yad _ he)
 induction w with
 | nil=>rfl
 | @snoc l r w ok ih =>
  have gw:=Wf.zar w;rw[zcx];cases r with
  | begin d =>
   rw[zbp,ybe];show bkOf l=_;rw[ih];exact cong _ _ _ _ λd _ b=>by rw[zbe];simp
  | write e k b v =>
   rw[zbp,ybe];show bkOf l=_;rw[ih];refine cong _ _ _ _ λd hd b=>?_;have:e≠d:=λz=>(gw.g e ok.1).2 (z▸hd);rw[zbe];simp[this]
  | keep d =>
   rw[zbp,ybA];show wb (bkOf l) (logW l d)=wb (List.foldl _ _ _) _;rw[ih];have e1:∀x,logW (l++[.keep d]) x=logW l x:=λx=>by rw[zbe];simp
   rw[e1]
   congr 1
   exact cong _ _ _ _ λx _ b=>by rw[e1]
  | drop d =>
   rw[zbp,ybe];show bkOf l=_;rw[ih];exact cong _ _ _ _ λd _ b=>by rw[zbe];simp
theorem zn8{s:HS Str}(L:zaH s):bkOf s.log=zam s:=by
 rw[zu5 L.wf,L.k];unfold zam;have main:∀(ks:List Nat) (b:Book Str),ks.foldl (λb d=>wb b (logW s.log d)) b=zdQ s.deed ks b:=λks=>by
  induction ks with
  | nil=>intro b;rfl
  | cons d r ih=>intro b;rw[ybd,ih];show zdQ _ _ (wb b _)=zdQ _ _ (over b _);rw[L.w,zj2]
 exact main _ _
end TP
end
section
namespace TP
open PySem L2 TH
structure WrAt(H0 H:Hp)(kvs:List (Key×V))(l:List (Row Str)):Prop where
 at_:∀d:Nat,(valV kvs (Sum.inl (d:Int))=none/\logW l d=[])\/∃li us,valV kvs (Sum.inl (d:Int))=some (.ref li)/\H li=some (.lst us)/\zap H us ((logW l d).map zeA)
 inj:∀(d e:Nat) (li:Addr),valV kvs (Sum.inl (d:Int))=some (.ref li)->valV kvs (Sum.inl (e:Int))=some (.ref li)->d=e
 fr:∀(d:Nat) (li:Addr),valV kvs (Sum.inl (d:Int))=some (.ref li)->H0 li=none
 len:kvs.length<=l.length
theorem zeB{H H':Hp}(it:∀b xs,H b=some (.tup xs)->H' b=some (.tup xs)):∀{us:List V} {xss:List (List V)},zap H us xss->zap H' us xss
 | _,_,.nil=>.nil
 | _,_,.cons ⟨p,e,q⟩ t=>.cons ⟨p,e,it _ _ q⟩ (zeB it t)
theorem zgb{H:Hp}:∀{us vs:List V} {xss yss:List (List V)},zap H us xss->zap H vs yss->zap H (us++vs) (xss++yss)
 | _,_,_,_,.nil,t=>t
 | _,_,_,_,.cons a r,t=>.cons a (zgb r t)
section
variable{H0 H H':Hp}{kvs:List (Key×V)}{l:List (Row Str)}
theorem WrAt.nil:WrAt H0 H [] []:=⟨λd=>.inl ⟨rfl,rfl⟩,λd e li h=>(by cases h),λd li h=>(by cases h),yaf _⟩
theorem WrAt.carry(w:WrAt H0 H kvs l)(il:∀b xs,H b=some (.lst xs)->H' b=some (.lst xs))(it:∀b xs,H b=some (.tup xs)->H' b=some (.tup xs)):WrAt H0 H' kvs l :=
 ⟨λd=>(w.at_ d).imp id λ⟨li,us,a,b,c⟩=>⟨li,us,a,il _ _ b,zeB it c⟩,w.inj,w.fr,w.len⟩
theorem WrAt.same{l':List (Row Str)}(w:WrAt H0 H kvs l)(e:∀d,logW l' d=logW l d)(hl:l.length<=l'.length):WrAt H0 H kvs l' :=
 ⟨λd=>by rw[e];exact w.at_ d,w.inj,w.fr,yaA w.len hl⟩
theorem WrAt.got(w:WrAt H0 H kvs l){d:Nat}{li:Addr}(h:valV kvs (Sum.inl (d:Int))=some (.ref li)):∃us,H li=some (.lst us)/\zap H us ((logW l d).map zeA):=by
 rcases w.at_ d with ⟨a,_⟩ | ⟨li',us,a,b,c⟩
 . rw[h]at a;cases a
 . rw[h]at a;cases a;exact⟨us,b,c⟩
theorem WrAt.val(w:WrAt H0 H kvs l)(d:Nat):valV kvs (Sum.inl (d:Int))=none\/∃li,valV kvs (Sum.inl (d:Int))=some (.ref li):=by
 rcases w.at_ d with ⟨a,_⟩ | ⟨li',us,a,b,c⟩
 . exact .inl a
 . exact .inr ⟨_,a⟩
theorem znX{d e:Nat}(h:e≠d):(Sum.inl (e:Int):Key)≠Sum.inl (d:Int):=λz=>h (by have:=Sum.inl.inj z;omega)
theorem WrAt.set(w:WrAt H0 H kvs l){d:Nat}{k:Str}{b v:Int}{n:Addr}{us:List V}(nn:H n=none)(n0:H0 n=none)(hn:H' n=some (.lst us))(t:zap H' us ((logW l d++[(k,v)]).map zeA))
   (il:∀b xs,H b=some (.lst xs)->H' b=some (.lst xs)) (it:∀b xs,H b=some (.tup xs)->H' b=some (.tup xs)):WrAt H0 H' (putK kvs (Sum.inl (d:Int)) (.ref n)) (l++[.write d k b v]):=by
 have ew:∀e,logW (l++[.write d k b v]) e=logW l e++if d=e then [(k,v)] else []:=λe=>zbe _ _ _;have pv:∀e,e≠d->valV (putK kvs (Sum.inl (d:Int)) (.ref n)) (Sum.inl (e:Int))=valV kvs (Sum.inl (e:Int)):=λe he=>by rw[znv,yai (znX he)]
 have pd:valV (putK kvs (Sum.inl (d:Int)) (.ref n)) (Sum.inl (d:Int))=some (.ref n):=by rw[znv,yaj rfl]
 have ne:∀(e:Nat) (li:Addr),valV kvs (Sum.inl (e:Int))=some (.ref li)->li≠n:=λe li h z=>by
   obtain⟨us,q,_⟩:=w.got h;rw[z,nn]at q;cases q
 refine⟨λe=>?_,λe f li h1 h2=>?_,λe li h=>?_,yaA (zri _ _ _) (by rw[yah,yaE];have:=w.len;omega)⟩
 . by_cases z:e=d
   . subst z;rw[pd,ew,yaj rfl];exact .inr ⟨n,us,rfl,hn,t⟩
   . rw[pv e z,ew,yai (λq=>z q.symm),ybe];exact(w.carry il it).at_ e
 . by_cases z1:e=d
   . by_cases z2:f=d
     . rw[z1,z2]
     . rw[z1,pd]at h1;cases h1;rw[pv f z2]at h2;exact absurd rfl (ne f _ h2)
   . rw[pv e z1]at h1;by_cases z2:f=d
     . rw[z2,pd]at h2;cases h2;exact absurd rfl (ne e _ h1)
     . rw[pv f z2]at h2;exact w.inj e f li h1 h2
 . by_cases z:e=d
   . rw[z,pd]at h;cases h;exact n0
   . rw[pv e z]at h;exact w.fr e li h
theorem WrAt.app(w:WrAt H0 H kvs l){d:Nat}{k:Str}{b v:Int}{li:Addr}{us:List V}(h:valV kvs (Sum.inl (d:Int))=some (.ref li))(hn:H' li=some (.lst us))(t:zap H' us ((logW l d++[(k,v)]).map zeA))
   (il:∀b xs,b≠li->H b=some (.lst xs)->H' b=some (.lst xs)) (it:∀b xs,H b=some (.tup xs)->H' b=some (.tup xs)):WrAt H0 H' kvs (l++[.write d k b v]):=by
 have ew:∀e,logW (l++[.write d k b v]) e=logW l e++if d=e then [(k,v)] else []:=λe=>zbe _ _ _;refine⟨λe=>?_,w.inj,w.fr,yaA w.len (by rw[yah];omega)⟩;by_cases z:e=d
 . subst z;rw[ew,yaj rfl];exact .inr ⟨li,us,h,hn,t⟩
 . rw[ew,yai (λq=>z q.symm),ybe];rcases w.at_ e with q | ⟨li',us',a,c,t'⟩
   . exact .inl q
   . exact .inr ⟨li',us',a,il _ _ (λy=>z (w.inj e d li (by rw[a,y]) h)) c,zeB it t'⟩
end
def KeysIn(SN:List Str)(l:List (Row Str)):Prop:=∀d,∀p∈logW l d,p.1∈SN
theorem KeysIn.pre{SN:List Str}{l:List (Row Str)}(h:KeysIn SN l)(i:Nat):KeysIn SN (l.take i):=λd p hp=>h d p (by
 have:logW l d=logW (l.take i) d++logW (l.drop i) d:=by
  unfold logW;rw[<-ya8,ybG]
 rw[this];exact yaJ _ hp)
theorem zrc{P:List (Row Str)->Prop}(h0:P [])(h1:∀l r,P l->P (l++[r]))(l:List (Row Str)):P l:=by
 have:∀i,P (l.take i):=λi=>by
  induction i with
  | zero=>exact h0
  | succ i ih =>
   by_cases h:i < l.length
   . rw[yaD,yax h];exact h1 _ _ ih
   . rw[yba (by omega)];rw[yba (by omega)]at ih;exact ih
 have q:=this l.length
 rwa [yaG]at q
theorem KeysIn.init{SN:List Str}{l:List (Row Str)}{r:Row Str}(h:KeysIn SN (l++[r])):KeysIn SN l:=λd p hp=>h d p (by rw[zbe];exact yaJ _ hp)
theorem ztc{SN:List Str}(l:List (Row Str)):KeysIn SN l->∀k,bkOf l k≠none->k∈SN:=by
 refine zrc (P:=λl=>KeysIn SN l->∀k,bkOf l k≠none->k∈SN) (λ_ k h=>absurd rfl h) (λl r ih h k hk=>?_) l;rw[zcx]at hk;cases r with
 | keep d =>
  rcases zj1 hk with q | q
  . exact ih h.init k q
  . obtain⟨p,hp,rfl⟩:=yap.mp q;exact h.init d p hp
 | _=>exact ih h.init k hk
def zgE(H:Hp)(q:Addr)(l:List (Row Str)):Prop:=∃us,H q=some (.tup us)/\zap H us (l.map rowV)
def zpp:Sp:=λvs H Q _=>∃q l,vs=[.ref q]/\zgE H q l/\l.length<=3000/\Wf l/\(logB l).length<=63 /\
 ∀H' p,Same H H'->H' p=some (.tup (zaD (logG l)))->Q (.ref p) H'
theorem zjP(g:List Nat)(d:Nat):valV (za1 g) (Sum.inl (d:Int))=if d∈g then some (.bl true) else none:=by
 unfold za1
 induction g with
 | nil=>rfl
 | cons x r ih =>
  rw[yaK];by_cases z:x=d
  . subst z;rw[zbz rfl,yaj yac]
  . rw[zbA (znX z),ih];by_cases q:d∈r
    . rw[yaj q,yaj (yad _ q)]
    . rw[yai q,yai λy=>(yat.mp y).elim (λy=>z y.symm) q]
theorem zoJ{g:List Nat}{d:Nat}(h:d∉g):putK (za1 g) (Sum.inl (d:Int)) (.bl true)=za1 (g++[d]):=by
 rw[zkd _ (by rw[zjP,yai h])];unfold za1;rw[yav];rfl
theorem zoO{g:List Nat}(nd:g.Nodup)(d:Nat):zgv (za1 g) (Sum.inl (d:Int))=za1 (g.erase d):=by
 unfold zgv za1;rw[nd.erase_eq_filter,ydZ]
 congr 1
 refine yct λx _=>?_;by_cases z:x=d
 . subst z;simp
 . have:=znX z;simp[z,this]
theorem zkz{l:List (Row Str)}(w:Wf l):(logG l).length<=(logB l).length:=by
 have:=zis (logG l) (List.range (logB l).length) ((Wf.zar w).up.imp λh=>yaI h) λd hd=>yaV.mpr ((Wf.zar w).g d hd).1
 rwa [ya6]at this
theorem zrt(l:List (Row Str))(i:Nat):(logB (l.take i)).length<=(logB l).length:=by
 have:logB l=logB (l.take i)++logB (l.drop i):=by
  unfold logB;rw[<-ya8,ybG]
 rw[this,yah];omega
theorem Wf.last{l:List (Row Str)}(w:Wf l){i:Nat}{r:Row Str}(h:l[i]?=some r):zpC (l.take i) r:=by
 have w':=Wf.pre w (i+1);rw[yaD,h]at w';generalize e:l.take i++(some r).toList=m at w';cases w' with
 | nil=>simp at e
 | @snoc l' r' w2 ok =>
  have:l.take i++[r]=l'++[r']:=e;have:=ydI this rfl;rw[this.1];cases this.2;exact ok
theorem zpI:∀{ys zs:List Key},ys.Perm zs->ys.Pairwise (λa b=>kLt a b=true)->zs.Pairwise (λa b=>kLt a b=true)->ys=zs
 | [],zs,p,_,_=>p.symm.eq_nil.symm
 | y::ys,[],p,_,_=>p.eq_nil
 | y::ys,z::zs,p,hy,hz=>by
  obtain⟨y1,y2⟩:=ybv.mp hy;obtain⟨z1,z2⟩:=ybv.mp hz;have e:y=z:=by
   by_cases e:y=z
   . exact e
   . have h1:=z1 y ((yat.mp (p.mem_iff.mp yac)).resolve_left e);have h2:=y1 z ((yat.mp (p.mem_iff.mpr yac)).resolve_left λq=>e q.symm);have:=zqd h1 h2;rw[zmR]at this;cases this
  subst e;rw[zpI (List.Perm.cons_inv p) y2 z2]
end TP
end
section
namespace TH
section
variable{K:Type}[DecidableEq K](ord:List K->List K)
end
end TH
namespace TP
open PySem L2 TH
theorem zgH{ρ ρ':Addr->Role}{H H':Hp}(f:Frame ρ H ρ' H'):∀{us:List V} {xss:List (List V)},(∀p,V.ref p∈us->ρ p=.other)->zap H us xss->zap H' us xss/\∀p,V.ref p∈us->ρ' p=.other
 | _,_,_,.nil=>⟨.nil,λp h=>by cases h⟩
 | _::us,_,hr,.cons ⟨p,e,q⟩ t=>by
  obtain⟨t',r'⟩:=zgH f (λp hp=>hr p (yad _ hp)) t;subst e;have h1:=f _ _ q (hr p yac);exact⟨.cons ⟨p,rfl,h1.1⟩ t',λx hx=>by
   rcases yat.mp hx with z | z
   . cases z;exact h1.2
   . exact r' x z⟩
section
variable{l:List (Row Str)}{kvs:List (Key×V)}{ρ ρ':Addr->Role}{H H':Hp}
end
theorem zk1{H:Hp}:∀(i:Nat) {us:List V} {xss:List (List V)},zap H us xss->zap H (us.take i) (xss.take i)
 | 0,_,_,_=>by rw[yd3,yd3];exact .nil
 | _+1,_,_,.nil=>.nil
 | i+1,_,_,.cons a t=>.cons a (zk1 i t)
theorem zph{K:PySem.W.Frag}{H:Hp}{q:Addr}{l:List (Row Str)}{i:Nat}{Q:VK}(r:zgE H q l)(hi:i<=l.length)(k:∀q' H',Same H H'->zgE H' q' (l.take i)->Q (.ref q') H'):zsG K (.ref q) none (some (i:Int)) H Q:=by
 obtain⟨us,hq,tu⟩:=r;have hl:us.length=l.length:=by rw[tu.length,yaa]
 refine⟨q,us,i,rfl,rfl,rfl,SqT.of hq,by omega,λe=>k q H (λ_ _ e=>e) ⟨us,hq,?_⟩,λe p np=>k p _ (Same.zaq np) ⟨_,zab,?_⟩⟩
 . rw[yba (by omega)];exact tu
 . rw[yd4];exact zaE (Same.zaq np) (zk1 i tu)
theorem zhO{s:HS Str}{T:Nat}(E:Ext s T)(L:zaH s):KeysIn s.seen s.log:=λd p hp=>by
 rw[L.w]at hp;exact zhS E (yap.mpr ⟨p,hp,rfl⟩)
end TP
end
section
namespace TP
open PySem L2 TH
section
variable{H H':Hp}{kvs:List (Key×V)}{f:Nat->List (Str×Int)}{n:Nat}
end
def rowD:Row Str->List PySem.W.Dat
 | .begin d=>[.str "begin",.int d]
 | .write d k b v=>[.str "write",.int d,.str k,.int b,.int v]
 | .keep d=>[.str "keep",.int d]
 | .drop d=>[.str "give up",.int d]
theorem ztR{H:Hp}(r:Row Str):DVs H (rowV r) (rowD r):=by
 cases r<;>first | exact .cons (.str _) (.cons (.int _) .nil) | exact .cons (.str _) (.cons (.int _) (.cons (.str _) (.cons (.int _) (.cons (.int _) .nil))))
theorem zsF{r:Row Str}(h:∀d k b v,r=.write d k b v->PyData.strOk k=true):PySem.W.kqdOk 7 (.tuple (rowD r))=true:=by
 cases r with
 | write d k b v=>simp[rowD,PySem.W.kqdOk,h d k b v rfl];decide +kernel
 | begin d=>simp[rowD,PySem.W.kqdOk];decide +kernel
 | keep d=>simp[rowD,PySem.W.kqdOk];decide +kernel
 | drop d=>simp[rowD,PySem.W.kqdOk];decide +kernel
theorem zfJ{H:Hp}:∀{l:List (Row Str)} {us:List V},zap H us (l.map rowV)->DVs H us (l.map λr=>.tuple (rowD r))
 | [],[],.nil=>.nil
 | r::_,_::_,.cons ⟨p,e,q⟩ t=>by subst e;exact .cons (.tup q (ztR r)) (zfJ t)
def zf6(SN:List Str)(l:List (Row Str)):Prop:=∀d k b v,Row.write d k b v∈l->k∈SN
theorem KeysIn.rows{SN:List Str}{l:List (Row Str)}(h:KeysIn SN l):zf6 SN l:=λd k b v m=>h d (k,v) (by
 unfold logW;exact ybu.mpr ⟨_,m,by simp⟩)
theorem zmx{SN:List Str}{l:List (Row Str)}(h:zf6 SN l)(ok:∀k∈SN,PyData.strOk k=true):zeb (.tuple (l.map λr=>.tuple (rowD r))):=by
 show PySem.W.kqdOk 8 _=true;rw[PySem.W.kqdOk,yd9,ybh];exact λr hr=>zsF λd k b v e=>ok k (h d k b v (e▸hr))
def wV(p:Str×Int):List V:=[.str "write",.str p.1,.int p.2]
def wD(p:Str×Int):PySem.W.Dat:=.tuple [.str "write",.str p.1,.int p.2]
theorem w_dv{H:Hp}:∀{l:List (Str×Int)} {us:List V},zap H us (l.map wV)->DVs H us (l.map wD)
 | [],[],.nil=>.nil
 | r::_,_::_,.cons ⟨p,e,q⟩ t=>by subst e;exact .cons (.tup q (.cons (.str _) (.cons (.str _) (.cons (.int _) .nil)))) (w_dv t)
theorem w_ok{l:List (Str×Int)}(h:∀p∈l,PyData.strOk p.1=true):zeb (.list (l.map wD)):=by
 show PySem.W.kqdOk 8 _=true;rw[PySem.W.kqdOk,yd9,ybh];intro p hp;simp[wD,PySem.W.kqdOk,h p hp];decide +kernel
theorem zuw{a:Act Str}(h:a.wr=true):actV a=wV (a.key,a.val):=by unfold actV wV;rw[yaj h]
end TP
end
section
namespace L2
open PySem PySem.Spec PySem.W PyProof.Rows
section
variable{X:Cx}{es:List Expr}{t:TA}{pos:Pos}
theorem zjj:zhg X (.type "tuple") (λxs H Q=>∃p ys,xs=[.ref p]/\SqL X.K H p ys/\∀l o,H l=none->o.dict=none->Q (.ref l) (upd H l (.frz o (.tup ys)))):=by
 intro pins s σ H xs us Q I r h;obtain⟨p,ys,rfl,hq,q⟩:=h;obtain⟨u,rfl,rx⟩:=vals1 r;cases rx;obtain⟨its,r',pl,hz⟩:=I.list hq;have hlen:=r'.length;refine call_tuple_list pl.isList (λh' kp=>?_) (by simp only[yaB]<;>omega);have I1:Inv X pins σ H { s with heap:=h' }:=I.kept (t':=s.toks) kp;have I2:Inv X pins σ (upd H h'.objs.size (.frz { cls:=.type "tuple",data:=.seq its.toArray } (.tup ys))) { s with heap:=h'.push { cls:=.type "tuple",data:=.seq its.toArray } } :=
  I1.laid (t':=s.toks) (λb o e=>yae _ e) (yaf _) ⟨yaC _ rfl,hz,its,r',IsTup.new _ _⟩
 exact⟨.ref h'.objs.size,_,I2,rfl,q _ _ (I1.hok.fresh (yaf _)) rfl⟩
end
def zqW(H:Hp)(v:V)(kv:Key×V):Prop:=∃a,v=V.ref a/\H a=some (.tup [kV kv.1,kv.2])
def zu7(P:Program)(w:World)(h:Heap)(v:Value)(q:Key×Value):Prop:=∃(a:Addr) (kv:Value) (o:Obj) (n:Nat),v=Value.ref a/\h.get? a=some o/\o.cls=.type "tuple" /\ o.data=.seq #[kv,q.2] n/\(zaR P w).is q.1 kv=true
theorem key_is{P:Program}{w:World}{k:Key}{u:Value}(r:RelV (kV k) u):(zaR P w).is k u=true:=by
 cases k with
 | inl i =>
  obtain⟨t,rfl⟩:=(show ∃t,u=Value.int i t from r)
  exact zfU P w i t
 | inr x =>
  obtain⟨t,rfl⟩:=(show ∃t,u=Value.str x t from r)
  exact zfT P w x t
theorem zpM{P:Program}{w:World}{H:Hp}{h:Heap}(hok:HOk P w H h):∀{us:List V} {kvs:List (Key×V)},Paired (zqW H) us kvs->∀{its:List Value},Vals us its->∃vs:List (Key×Value),KV kvs vs/\Paired (zu7 P w h) its vs
 | _,_,.nil,_,.nil=>⟨[],.nil,.nil⟩
 | _,_,.cons ⟨a,e,ha⟩ t,_,.cons r rs=>by
  subst e;cases r;obtain⟨vs,k1,p1⟩:=zpM hok t rs;obtain⟨_,its,rv,o,ho,hc,n,hd⟩:=hok _ _ ha;obtain⟨u1,u2,rfl,r1,r2⟩:=Vals.two rv;exact⟨(_,u2)::vs,.cons ⟨rfl,r2⟩ k1,.cons ⟨a,u1,o,n,rfl,ho,hc,hd,key_is r1⟩ p1⟩
section
variable{X:Cx}
theorem zha(hc:X.calm=true):zhg X (.type "dict") (λxs H Q=>∃p o us kvs,xs=[.ref p]/\H p=some (.frz o (.tup us))/\o.dict=none/\Paired (zqW H) us kvs/\(kvs.map (·.1)).Nodup/\∀d,H d=none->Q (.ref d) (upd H d (.dK kvs))):=by
 intro pins s σ H xs us' Q I r h;obtain⟨p,o,us,kvs,rfl,hp,od,pr,nd,q⟩:=h;obtain⟨u,rfl,ru⟩:=vals1 r;cases ru;obtain⟨ho,hz,its,rv,o',ho',hcl,n,hdat⟩:=(show zbM X.prog X.w H s.heap p (.frz o (.tup us)) from I.hok p _ hp)
 rw[ho]at ho';cases ho';obtain⟨vs,kv,pc⟩:=zpM I.hok pr rv;have hl:vs.length=us.length:=by rw[<-kv.length,<-pr.length]
 have nd':(vs.map (·.1)).Nodup:=by rw[<-kv.keys];exact nd
 have pi:S6.znf (zaR X.prog X.w) s.heap its vs:=⟨pc.length,λi v hv=>by
  obtain⟨q,hq,a,kv,o,n,e,ho,hc,hd,hk⟩:=S6.zhN pc hv;exact⟨a,q.1,kv,q.2,o,n,e,hq,ho,hc,hd,hk⟩⟩
 have big:=(show zbM X.prog X.w (upd H s.heap.objs.size (.dK [])) (s.heap.push { cls:=.type "dict",data:=.dict #[] }) s.heap.objs.size (.dK []) from zn4 s.heap I.big).2.1;refine S6.zoR (I.ok.hd hc) ho hcl hdat od pi nd' (by rw[hl];exact hz) λh' tk kp hd=>?_;exact⟨.ref s.heap.objs.size,upd H s.heap.objs.size (.dK kvs),I.laid kp (yaf _) ⟨by rw[kv.length,hl];exact hz,big,vs,kv,hd⟩,rfl,q _ (I.hok.fresh (yaf _))⟩
end
end L2
end
section
namespace TP
open PySem L2 TH
theorem zqO:bootBuiltins "dict" = some (.type "dict"):=by decide +kernel
section
variable{s:HS Str}{k:Str}{L:List (Nat×Bool)}
end
end TP
end
section
namespace TP
open PySem L2 TH
theorem zoS{X:Cx}{K:PySem.W.Frag}(hK:X.K=K):zhg X (.builtin "isinstance") (λxs H Q=>∃x C t b,xs=[x,.ref C]/\TyOf K H x t/\PySem.W.kitOne K t (.ref C)=some b/\Q (.bl b) H):=by
 subst hK;intro pins s σ H xs us Q I r h;obtain⟨x,c,t,b,rfl,ty,e,q⟩:=h;obtain⟨u,v,rfl,ru,rv⟩:=Vals.two r;cases rv;exact zlQ I ru ty e λtk=>⟨.bl b,H,I.tok tk,rfl,q⟩
def zee:Row Str->LAct
 | .begin _=>.begin
 | .write d k _ v=>.write d k v
 | .keep d=>.keep d
 | .drop d=>.drop d
structure Rp(ns:List Int)(r:HS Str)(l:List (Row Str)):Prop where
 R:Run ns r l.length
 L:zaH r
 p:Pl r
 log:r.log=l
theorem Rp.nil(ns:List Int):Rp ns TH.empty []:=⟨⟨Ready.empty,λk h=>by cases h⟩,All.empty.l,⟨λd=>(by intro z;cases z),λd a h=>(by cases h)⟩,rfl⟩
theorem Rp.act{ns:List Int}{r:HS Str}{l:List (Row Str)}(h:Rp ns r l){d:Nat}(hd:d∈logG l):(r.deed d).act/\d < r.n:=by
 rw[<-h.log,h.L.g,ya3]at hd;exact⟨zaK.mp hd.2,yaV.mp hd.1⟩
theorem Rp.n{ns:List Int}{r:HS Str}{l:List (Row Str)}(h:Rp ns r l):r.n=(logB l).length:=by
 rw[<-h.log,h.L.b,ya6]
theorem Rp.step{ns:List Int}{r:HS Str}{l:List (Row Str)}{row:Row Str}(h:Rp ns r l)(ok:zpC l row)(al:zne l row)(hk:∀d k b v,row=.write d k b v->zf7 ns k)(ht:l.length+1<=1000)(hn:r.n < 63):Rp ns (zbW r (zee row)) (l++[row]):=by
 have okk:okA ns r.n (zee row):=by
  cases row with
  | begin d=>trivial
  | write d k b v=>exact⟨(h.act ok.1).2,hk d k b v rfl⟩
  | keep d=>exact(h.act ok).2
  | drop d=>exact(h.act ok).2
 obtain⟨R,_⟩:=h.R.step ht hn okk;have L:=zrs h.R h.L (zee row);have c:=h.R.r.c;have fin:∀{t:HS Str},zbW r (zee row)=t->Pl t/\t.log=l++[row]->Rp ns (zbW r (zee row)) (l++[row]):=λ{t} e q=>by
  refine⟨?_,L,e▸q.1,e▸q.2⟩;rw[yah,yaE];exact R
 cases row with
 | begin d =>
  refine fin (t:=zav r) rfl ⟨h.p.zav,?_⟩;have hd:d=(logB l).length:=ok;show r.log++[.begin r.n]=_;rw[h.log,h.n,hd]
 | write d k b v =>
  obtain⟨ha,_⟩:=h.act ok.1;have hg:=h.p.zar ha;refine fin (t:=wish ordS r d ⟨true,k,v⟩) ?_ ?_
  . show zbW r (.write d k v)=_;rw[zcB,yaj hg]
  . have q:=h.p.write ordS c h.L h.R.r.L.e.own (d:=d) (k:=k) (v:=v) (by rw[h.log];exact al);refine⟨q.1,?_⟩;have hb:b=(scan l).book k:=ok.2;rw[q.2,h.log,hb,<-h.log,h.L.bk]
 | keep d =>
  obtain⟨ha,_⟩:=h.act ok;have hg:=h.p.zar ha;refine fin (t:=keep ordS r d) ?_ ?_
  . show zbW r (.keep d)=_;rw[zc2,yaj hg]
  . have q:=h.p.keep ordS c d;exact⟨q.1,by rw[q.2,h.log]⟩
 | drop d =>
  obtain⟨ha,_⟩:=h.act ok;refine fin (t:=drop ordS r d) ?_ ?_
  . show zbW r (.drop d)=_;rw[step_drop];exact yaj ha
  . have q:=h.p.drop ordS c d;exact⟨q.1,by rw[q.2,h.log]⟩
noncomputable def redo(l:List (Row Str)):HS Str:=l.foldl (λr row=>zbW r (zee row)) TH.empty
theorem zh9(l:List (Row Str))(r:Row Str):redo (l++[r])=zbW (redo l) (zee r):=by unfold redo;rw[ybA];rfl
theorem zsX(l:List (Row Str))(r:Row Str):(logB l).length<=(logB (l++[r])).length:=by rw[zb9,yah];omega
theorem zmz{ns:List Int}{l:List (Row Str)}(wf:Wf l)(al:Al l)(ik:∀d k b v,Row.write d k b v∈l->zf7 ns k)(hl:l.length<=1000)(hb:(logB l).length < 63):Rp ns (redo l) l:=by
 induction wf with
 | nil=>exact Rp.nil ns
 | @snoc l r hl' hr ih =>
  have al':Al l/\zne l r:=by
   generalize e:l++[r]=m at al;cases al with
   | nil=>simp at e
   | @snoc l2 r2 h1 h2 =>
    obtain⟨e1,e2⟩:=ydI e rfl;cases e2;subst e1;exact⟨h1,h2⟩
  rw[yah,yaE]at hl;have hb':=zsX l r;have q:=ih al'.1 (λd k b v m=>ik d k b v (yaJ _ m)) (by omega) (by omega);rw[zh9];exact q.step hr al'.2 (λd k b v e=>ik d k b v (by rw[<-e];exact yaN _ yac)) hl (by rw[q.n];omega)
theorem zsZ{ns:List Int}{s:HS Str}{T:Nat}(R:Run ns s T)(l:LA s)(a:LAct):LA (zbW s a):=by
 cases a with
 | begin=>exact l.zav R.r.c
 | read d k =>
  rw[zdI];split
  . rename_i h;exact l.wish ordS R.r.c h
  . exact l
 | write d k v =>
  rw[zcB];split
  . rename_i h;exact l.wish ordS R.r.c h
  . exact l
 | keep d =>
  rw[zc2];split
  . rename_i h;exact l.keep ordS R.r.c (.inl h)
  . exact l
 | drop d =>
  rw[step_drop];split
  . rename_i h;exact l.drop ordS R.r.c h
  . exact l
theorem zry:LA (TH.empty:HS Str):=⟨All.empty.l,.nil⟩
def zaZ(l:List (Row Str)):List (Row Str):=(logG l).map Row.drop
theorem ze8:∀(g:List Nat) (l:List (Row Str)),logB (l++g.map Row.drop)=logB l
 | [],l=>by simp
 | d::r,l=>by
  have e:l++(d::r).map Row.drop=(l++[Row.drop d])++r.map Row.drop:=by simp
  rw[e,ze8 r (l++[Row.drop d]),zb9];simp
theorem zkF{l:List (Row Str)}(wf:Wf l)(al:Al l):∀i,i<=(logG l).length->Wf (l++((logG l).take i).map Row.drop)/\Al (l++((logG l).take i).map Row.drop)/\logG (l++((logG l).take i).map Row.drop)=(logG l).drop i
 | 0,_=>by simp;exact⟨wf,al⟩
 | i+1,hi=>by
  obtain⟨h1,h2,h3⟩:=zkF wf al i (by omega);have hx:(logG l)[i]?=some (logG l)[i]:=yax (by omega);have hc:(logG l).drop i=(logG l)[i]::(logG l).drop (i+1):=ydl (by omega);have e:l++((logG l).take (i+1)).map Row.drop=(l++((logG l).take i).map Row.drop)++[Row.drop (logG l)[i]]:=by
   have ht:(logG l).take (i+1)=(logG l).take i++[(logG l)[i]]:=by rw[yaD,hx];rfl
   rw[ht,yav,<-yb4];rfl
  have hm:(logG l)[i]∈logG (l++((logG l).take i).map Row.drop):=by rw[h3,hc];exact yac
  rw[e];refine⟨.snoc h1 hm,.snoc h2 trivial,?_⟩;rw[zbJ,h3,hc];exact List.erase_cons_head _ _
def zsw(A:Ad):Sp:=λvs H Q _=>∃ρ ad r l row ns kq,vs=[.ref (ad Role.hall),.ref kq]/\zai A ρ ad r (zam r) H/\Rp ns r l/\zpC l row/\(∀d k b v,row=.write d k b v->zf7 ns k)/\l.length+1<=1000/\r.n < 63/\H kq=some (.tup (rowV row)) /\
 ∀H' ρ' ad',ad' Role.hall=ad .hall->zai A ρ' ad' (zbW r (zee row)) (zam (zbW r (zee row))) H'->Frame ρ H ρ' H'->Q .non H'
def zsq(A:Ad):Sp:=λvs H Q _=>∃kq l ns,vs=[.ref kq]/\zgE H kq l/\Wf l/\Al l/\(∀d k b v,Row.write d k b v∈l->zf7 ns k)/\l.length<=800/\(logB l).length<=40/\(logG l).length<=40 /\
 ∀H' ρ' ad',Same H H'->zai A ρ' ad' (redo (l++zaZ l)) (zam (redo (l++zaZ l))) H'->(∀b o,H b=some o->ρ' b=.other)->Q (.ref (ad' .hall)) H'
end TP
end
section
namespace L2
open PySem PySem.Spec PySem.W PyProof.Rows
def DVF(H:Hp)(x:V)(d:Dat):Prop:=DV H x d\/∃p o us ds,x=.ref p/\H p=some (.frz o (.tup us))/\DVs H us ds/\d=.tuple ds
theorem DVF.reads{P:Program}{w:World}{H:Hp}{h:Heap}(hok:HOk P w H h){v:V}{d:Dat}{u:Value}(x:DVF H v d)(r:RelV v u):∃as,Reads h u (kqdP d) as:=by
 rcases x with x | ⟨p,o,us,ds,rfl,e,q,rfl⟩
 . exact x.reads hok r
 . cases r;obtain⟨_,_,its,rv,o',ho,hc,n,hd⟩:=(show zbM P w H h p (.frz o (.tup us)) from hok _ _ e)
   obtain⟨as,ra⟩:=DVs.reads hok q rv;rw[kqdP];exact⟨_,.tuple ho hc hd (by simpa using ra)⟩
section
variable{X:Cx}
open Classical in
noncomputable def rNeF:R2:=λx y H Q=>∃d e,DVF H x d/\DVF H y e/\zeb d/\zeb e/\Q (.bl (!decide (d=e))) H
theorem zpP(hu:X.A.units+64 < cLine):OpR X (compareOp .NotEq) rNeF:=by
 intro pins s σ H x y v u Q I rx ry h;obtain⟨d,e,hd,he,kd,ke,q⟩:=h;obtain⟨as,ra⟩:=hd.reads I.hok rx;obtain⟨bs,rb⟩:=he.reads I.hok ry;exact ne_dataH ra rb (zc0 kd) (zc0 ke) hu (by rw[zm2 kd ke];exact⟨.bl _,H,I,rfl,q⟩)
end
def zuO:R2:=λx y H Q=>∃a b xs ys,x=.ref a/\y=.ref b/\H a=some (.tup xs)/\H b=some (.tup ys)/\xs.length+ys.length<=sizeLine/\∀p H',(∀b o,H b=some o->H' b=some o)->H' p=some (.tup (xs++ys))->Q (.ref p) H'
theorem zmE{X:Cx}:OpR X (binaryOp .Add) zuO:=by
 intro pins s σ H x y v u Q I rx ry h;obtain⟨a,b,xs,ys,rfl,rfl,ha,hb,hz,q⟩:=h;by_cases hx:xs=[]
 . subst hx;cases rx;cases ry;obtain⟨_,its,r1,o1,ho,hc,n,hd⟩:=(show zbM X.prog X.w H s.heap a (.tup []) from I.hok a _ ha)
   obtain⟨_,its2,r2,o2,ho2,hc2,n2,hd2⟩:=(show zbM X.prog X.w H s.heap b (.tup ys) from I.hok b _ hb)
   obtain⟨cls,dd,data,sl⟩:=o1;obtain⟨cls2,dd2,data2,sl2⟩:=o2;simp only at hc hd hc2 hd2;subst hc hd hc2 hd2;cases r1;exact concat_meets ⟨_,ho,rfl⟩ ⟨_,ho2,rfl⟩ ydG seq_tuple_add ycK ycI (ycE _ _)
    (tuple_addW0 a b (([]:List Value).toArray) its2.toArray n n2 dd dd2 sl sl2 rfl) ⟨ho,ho2,⟨.ref b,H,I,rfl,q b H (λ_ _ e=>e) hb⟩⟩
 . exact zsR pins s σ H _ _ v u Q I rx ry ⟨a,b,xs,ys,rfl,rfl,SqT.of ha,SqT.of hb,hx,hz,λz=>q a H (λ_ _ e=>e) (by rw[z,ybe];exact ha),λz p hp=>q p _ (λc o e=>by rw[zag (zah e hp)];exact e) zab⟩
end L2
namespace TP
open PySem L2 TH
def zhr(H H':Hp)(q:Addr)(ks:List Str)(b:Book Str):Prop:=∃o us,H q=none/\(∀p,V.ref p∈us->H p=none)/\Same H H'/\H' q=some (.frz o (.tup us))/\o.dict=none/\zap H' us (zuo ks b)
def zi2:Sp:=λvs H Q _=>∃(p:Addr) (l:List (Str×Int)) (b:Book Str),vs=[.ref p]/\H p=some (.dK (bkV l))/\zbs l b/\l.length<=4/\∀H' q,zhr H H' q (l.map (·.1)) b->Q (.ref q) H'
def zmj(A:Ad):Sp:=λvs H Q _=>∃ρ ad s kv,vs=[.ref (ad Role.hall)]/\zai A ρ ad s kv H/\s.seen.length<=4/\s.seen.Nodup/\(∀k,kv k≠none->k∈s.seen) /\
 ∀H' q ks,(∀k,k∈ks↔kv k≠none)->zhr H H' q ks kv->Q (.ref q) H'
def ztD(A:Ad):Sp:=λvs H Q _=>∃ρ ad s kv,vs=[.ref (ad Role.hall)]/\zai A ρ ad s kv H/\s.seen.length<=4/\s.seen.Nodup/\(∀k,s.book k≠none->k∈s.seen) /\
 ∀H' q ks,(∀k,k∈ks↔s.book k≠none)->zhr H H' q ks s.book->Q (.ref q) H'
def zpq:Sp:=λvs H Q _=>∃q l SN,vs=[.ref q]/\zgE H q l/\l.length<=3000/\KeysIn SN l/\SN.Nodup/\SN.length<=4 /\
 ∀H' p ks,(∀k,k∈ks↔bkOf l k≠none)->zhr H H' p ks (bkOf l)->Q (.ref p) H'
theorem zhr.back{H0 H H':Hp}{q:Addr}{ks:List Str}{b:Book Str}(m:Same H0 H)(x:zhr H H' q ks b):zhr H0 H' q ks b:=by
 obtain⟨o,us,h1,h2,h3,h4,h5,h6⟩:=x;exact⟨o,us,m.free h1,λp hp=>m.free (h2 p hp),m.trans h3,h4,h5,h6⟩
def zgG(ρ:Addr->Role)(H:Hp)(q:Addr)(ks:List Str)(b:Book Str):Prop:=∃o us,H q=some (.frz o (.tup us))/\o.dict=none/\zap H us (zuo ks b)/\ρ q=.other/\∀p,V.ref p∈us->ρ p=.other
theorem zgG.frame{ρ ρ':Addr->Role}{H H':Hp}{q:Addr}{ks:List Str}{b:Book Str}(x:zgG ρ H q ks b)(f:Frame ρ H ρ' H'):zgG ρ' H' q ks b:=by
 obtain⟨o,us,h1,h2,h3,h4,h5⟩:=x;obtain⟨t,r⟩:=zgH f h5 h3;exact⟨o,us,(f _ _ h1 h4).1,h2,t,(f _ _ h1 h4).2,r⟩
theorem zgG.dv{ρ:Addr->Role}{H:Hp}{q:Addr}{ks:List Str}{b:Book Str}(x:zgG ρ H q ks b):DVF H (.ref q) (.tuple (zjk ks b)):=by
 obtain⟨o,us,h1,h2,h3,_⟩:=x;exact .inr ⟨q,o,us,_,rfl,h1,zm4 h3,rfl⟩
theorem ze6{H:Hp}{b:Book Str}:∀{l:List Str} {us:List V},zap H us (l.map λk=>[V.str k,V.int ((b k).getD 0)])->Paired (zqW H) us (l.map λk=>((Sum.inr k:Key),V.int ((b k).getD 0)))
 | [],[],.nil=>.nil
 | _::_,_::_,.cons ⟨p,e,q⟩ t=>.cons ⟨p,e,q⟩ (ze6 t)
def zsx(K:PySem.W.Frag):Sp:=λvs H Q _=>∃(a:Addr) (ns:List Int) (c:Int) (b:Nat),vs=[.ref a,.int c,.int b]/\SqL K H a (ns.map V.int)/\0 < b/\∀H' q A,H q=none->Same H H'->H' q=some (.tup (actD A))->okA ns b A->(A=.begin->b < 30)->Q (.ref q) H'
def zq9(K:PySem.W.Frag):Sp:=λvs H Q _=>∃(a:Addr) (ns:List Int),vs=[.ref a]/\SqL K H a (ns.map V.int)/\∀H' q us As,H q=none->Same H H'->H' q=some (.lst us)->zap H' us (As.map actD)->(∀p,V.ref p∈us->H p=none)->Valid ns As->As.length<=63->zcy As<=30->Q (.ref q) H'
theorem zrM{As:List LAct}{Ac:LAct}(h:zcy As<=30)(b:Ac=.begin->zcy As < 30):zcy (As++[Ac])<=30:=by
 rw[zec];cases Ac with
 | begin=>have:=b rfl;show zcy As+1<=30;omega
 | _=>exact h
end TP
end
section
namespace TP
open PySem L2 TH
theorem zn9:∀(g:List Nat) (l:List (Row Str)),bkOf (l++g.map Row.drop)=bkOf l
 | [],l=>by simp
 | d::r,l=>by
  have e:l++(d::r).map Row.drop=(l++[Row.drop d])++r.map Row.drop:=by simp
  rw[e,zn9 r (l++[Row.drop d]),zcx]
theorem zjH:∀(g:List Nat) (l:List (Row Str)),logK (l++g.map Row.drop)=logK l
 | [],l=>by simp
 | d::r,l=>by
  have e:l++(d::r).map Row.drop=(l++[Row.drop d])++r.map Row.drop:=by simp
  rw[e,zjH r (l++[Row.drop d]),zbp];simp
theorem zjG(n:Nat):∀(g:List Nat) (l:List (Row Str)),logW (l++g.map Row.drop) n=logW l n
 | [],l=>by simp
 | d::r,l=>by
  have e:l++(d::r).map Row.drop=(l++[Row.drop d])++r.map Row.drop:=by simp
  rw[e,zjG n r (l++[Row.drop d]),zbe];simp
structure zu6(ns:List Int)(l:List (Row Str))(f:HS Str):Prop where
 rp:Rp ns f (l++zaZ l)
 no:∀d,¬(f.deed d).act
 book:f.book=bkOf l
 kb:zam f=bkOf l
 n:f.n=(logB l).length
 kept:f.kept=logK l
 done:∀d,(f.deed d).done.map actV=(logW l d).map wV
theorem zsc:∀{l:List (Act Str)},(∀a∈l,a.wr=true)->l.map actV=(zat l).map wV
 | [],_=>rfl
 | a::r,h=>by
  have ha:=h a yac;have e:zat (a::r)=(a.key,a.val)::zat r:=by
   unfold zat
   rw[ybg,yaj ha]
  rw[e,yaK,yaK,zsc λb hb=>h b (yad _ hb),zuw ha]
theorem zre{ns:List Int}{l:List (Row Str)}(wf:Wf l)(al:Al l)(ik:∀d k b v,Row.write d k b v∈l->zf7 ns k)(hl:l.length<=800)(hb:(logB l).length<=40)(hg:(logG l).length<=40):zu6 ns l (redo (l++zaZ l)):=by
 obtain⟨w1,a1,g1⟩:=zkF wf al (logG l).length (yaf _);rw[yaG]at w1 a1 g1;rw[List.drop_length]at g1;have rp:Rp ns (redo (l++zaZ l)) (l++zaZ l):=by
   refine zmz w1 a1 (λd k b v m=>?_) (by unfold zaZ;rw[yah,yaa];omega) (by unfold zaZ;rw[ze8];omega);rcases yas.mp m with z | z
   . exact ik d k b v z
   . obtain⟨_,_,z⟩:=yap.mp z;cases z
 have no:∀d,¬((redo (l++zaZ l)).deed d).act:=λd hd=>by
   have:=rp.L.zhP rp.R.r.c hd;rw[rp.log]at this;have g1:logG (l++zaZ l)=[]:=g1;rw[g1]at this;cases this
 have kb:zam (redo (l++zaZ l))=bkOf l:=by
   rw[<-zn8 rp.L,rp.log];exact zn9 _ _
 refine⟨rp,no,(quiet rp.R.r.c no).2.trans kb,kb,?_,?_,λd=>?_⟩
 . rw[rp.n];unfold zaZ;rw[ze8]
 . rw[<-rp.L.k,rp.log];exact zjH _ _
 . rw[zsc (rp.p.dw d),<-rp.L.w d,rp.log];unfold zaZ;rw[zjG]
def ztH(K:PySem.W.Frag)(A:Ad):Sp:=λvs H Q _=>∃ρ ad f ns,∃n:Nat,∃T la a qa,vs=[.ref (ad Role.hall),.ref a,.ref qa,.int n]/\zai A ρ ad f (zam f) H/\Run ns f T/\zaH f/\T+10<=1000/\So f n/\f.n=n+1/\n<=50/\f.book=zam f/\(∀b∈(f.deed n).done,b.wr=false)/\Apart K ρ H a (ns.map V.int)/\zgE H qa la /\
 f.log=la++[.begin n]/\zf6 f.seen f.log/\∀H',Q (.bl true) H'
theorem zuu{D:Deed Str}{l:List (Act Str)}{k:Str}{v:Int}(hs:D.st=.zar)(hd:D.done=l++[⟨false,k,v⟩]):ansV D false=[.str "value",.int v]:=by
 unfold ansV zlM;rw[hs,hd];simp
theorem zut{D:Deed Str}(hs:D.st=.zar):ansV D true=[.str "done"]:=by
 unfold ansV;rw[hs];rfl
theorem zus{D:Deed Str}{w:Bool}(hs:D.st=.waiting):ansV D w=[.str "waits"]:=by
 unfold ansV;rw[hs]
theorem zkI{ks:List Str}{b:Book Str}(hk:∀k,k∈ks↔b k≠none)(k:Str):(valV ((ordS ks).map λk=>((Sum.inr k:Key),V.int ((b k).getD 0))) (Sum.inr k))=if k∈ks then some (V.int ((b k).getD 0)) else none:=by
 have main:∀l:List Str,valV (l.map λk=>((Sum.inr k:Key),V.int ((b k).getD 0))) (Sum.inr k)=if k∈l then some (V.int ((b k).getD 0)) else none:=λl=>by
   induction l with
   | nil=>rfl
   | cons x r ih =>
    unfold valV at ih ⊢;rw[yaK,ybl];by_cases e:x=k
    . subst e;simp
    . have:decide ((Sum.inr x:Key)=Sum.inr k)=false:=yay λz=>e (ybL z);simp only[this];rw[ih];have hk:k≠x:=λz=>e z.symm;simp[hk]
 rw[main];by_cases h:k∈ks
 . rw[yaj h,yaj (zaX.mpr h)]
 . rw[yai h,yai λz=>h (zaX.mp z)]
end TP
end
section
namespace TP
open PySem PySem.W PyProof.Rows
def goT(thr ok:Thread->Bool)(stp:SharedT->Thread->Option (SharedT×Thread)):Nat->SharedT->Thread->Option SharedT
 | 0,_,_=>none
 | n+1,s,t=>match thr t with
  | true=>some s
  | false=>match ok t with
   | false=>none
   | true=>match stp s t with
    | some (s',t')=>goT thr ok stp n s' t'
    | none=>none
theorem zqn{tb:String->Option Builtin}{p:Program}{w:World}{m:Nat}{ann:Option Value}:∀{n:Nat} {s s':SharedT} {t:Thread},goT through (stepOk m ann) (stepT (denote tb) p w) n s t=some s'->topRun tb p w m ann n s.abs t=some s'.abs
 | 0,_,_,_,h=>by cases h
 | n+1,s,s',t,h=>by
  unfold goT at h;unfold topRun;cases ht:through t with
  | true=>rw[ht]at h;cases h;rfl
  | false =>
   rw[ht]at h;cases hk:stepOk m ann t with
   | false=>rw[hk]at h;cases h
   | true =>
    rw[hk]at h;cases hs:stepT (denote tb) p w s t with
    | none=>rw[hs]at h;cases h
    | some r=>obtain⟨a,b⟩:=r;rw[hs]at h;rw[stepT_spec hs];exact zqn h
def ofL:List Obj->Nat->BT->BT
 | [],_,t=>t
 | o::l,i,t=>ofL l (i+1) (t.ins i o)
theorem zuU{p q:Program}{loose:List Str}{Xt:Shared->Bool}{α:Type}{Yf:Shared->α}{Ya:World->α}{N m:Nat}{ann:Option Value}{life:Life}
  (op:∀w:World,(fencedOpening treeTable p w N).map (λs=>(s.heap,s.gens,s.drawn,s.toks))=some (boot_heap w.params,Array.mk [],boot_drawn,boot_toks))
  (size:∀w:World,((boot_heap w.params).isNs mainGlobals && (Array.mk []:Array GenState).size == 0,(boot_heap w.params).objs.size,(boot_heap w.params).nsMap mainGlobals "__annotations__")=(true,m,ann))
  (hb:∀w:World,absHeap (ofL (boot_heap w.params).objs.toList 0 .nil) m life=boot_heap w.params)
  (run:∀(w:World) (os:OsState),(goT through (stepOk m ann) (stepT (denote treeTable) p w) N ⟨ofL (boot_heap w.params).objs.toList 0 .nil,m,life,Array.mk [],boot_drawn,boot_toks,os⟩ (topStub p)).map
   (λs=>(staticsOk (importedModules p.main.body) (boot_heap w.params) s.abs.heap && namesBound p s.abs.heap && gensDone s.abs && laidKept (boot_heap w.params) s.abs.heap,openSeen q loose (importedModules p.main.body) Xt true s.abs,Yf s.abs))=some (true,openGood q loose,Ya w)) :
  LeftO p q loose Xt Yf Ya N:=λw=>by
 obtain⟨⟨h,gs,d,k,os⟩,e,e'⟩:=yao.mp (op w);obtain⟨rfl,rfl,rfl,rfl⟩:h=boot_heap w.params/\gs=Array.mk []/\d=boot_drawn/\k=boot_toks:=by simpa using e'
 obtain⟨z1,z2,z3⟩:_/\_/\_:=by simpa only [yd6] using size w
 obtain⟨s,es,ev⟩:=yao.mp (run w os);obtain⟨l1,l2,l3⟩:_/\_/\_:=by simpa only [yd6] using ev
 have r:=zqn es;unfold SharedT.abs at r;dsimp only at r;rw[hb]at r;have t:topFrom treeTable p w N ⟨boot_heap w.params,Array.mk [],boot_drawn,boot_toks,os⟩=some s.abs:=by
  unfold topFrom;dsimp only;rw[z1,z2,z3,r];show(match staticsOk (importedModules p.main.body) (boot_heap w.params) s.abs.heap && namesBound p s.abs.heap && gensDone s.abs && laidKept (boot_heap w.params) s.abs.heap with | true=>_ | false=>_)=_;rw[l1]
  rfl
 unfold openEnds;rw[e];show(topFrom treeTable p w N _).map _=_;rw[t];show some (openSeen q loose (importedModules p.main.body) Xt true s.abs,Yf s.abs)=_;rw[l2,l3]
end TP
end
section
namespace TP
open PySem L2 TH PyProof.Rows
abbrev FV:=Str×Str×Arguments×FuncBody×Scope×Addr×List (Str×Addr)×Value×Addr×Bool
def fV(K:PySem.W.Frag)(f:Addr):Option FV:=match K.lookup f with
 | some ⟨_,_,.func d,_⟩=>some (d.name,d.qualname,d.params,d.body,d.scope,d.globals,d.closure,d.defaults,d.builtins,PySem.W.codeIn K d.code d.qualname && PySem.W.isFn K (.ref f))
 | _=>none
def fE(x q:Str)(st:Stmt):Option FV:=some (x,q,zkG st,.stmts (ziK st),zan st,mainGlobals,[],.none,builtinsNs,true)
def fdOf(K:PySem.W.Frag)(f:Addr):FuncData:=match K.lookup f with
 | some ⟨_,_,.func d,_⟩=>d
 | _=>default
def fi(K:PySem.W.Frag)(c:Addr)(x:Str):Option (Option Value):=PySem.W.findIn K (.ref c) x
def gl(K:PySem.W.Frag)(x:Str):Option (Option Value):=PySem.W.nsIn K mainGlobals x
def gs(K:PySem.W.Frag)(x v:Str):Bool:=match PySem.W.nsIn K mainGlobals x with
 | some (some (.str y _))=>y == v
 | _=>false
def gi(K:PySem.W.Frag)(x:Str)(v:Int):Bool:=match PySem.W.nsIn K mainGlobals x with
 | some (some (.int y _))=>y == v
 | _=>false
def dOf(st:Stmt):DefRec:=match st with
 | .FunctionDef n a b _ _ _ s _ _ p=>⟨n,a,b,s,p⟩
 | _=>⟨"",zkG st,[],zan st,⟨0,0,0,0⟩⟩
def Kof(as:List Addr)(h:Heap):PySem.W.Frag:=as.filterMap λa=>(h.get? a).map λo=>(a,o)
theorem zux{as:List Addr}{h:Heap}:(Kof as h).In h:=by
 unfold Kof;intro a o e
 induction as with
 | nil=>cases e
 | cons b r ih =>
  rw[ybg]at e;cases hb:h.get? b with
  | none=>rw[hb]at e;exact ih e
  | some x =>
   rw[hb]at e;simp only[ycr,ybM]at e;split at e
   . rename_i z;rw[yal z,hb];exact e
   . exact ih e
section
variable{K:PySem.W.Frag}
theorem bt{L:List Bool}(h:L.all id=true)(i:Nat){b:Bool}(e:L[i]?=some b):b=true:=ybh.mp h b (yaS e)
theorem fu0{x q:Str}{st:Stmt}{f:Addr}(h:fV K f=fE x q st):Fun K x q st f (fdOf K f)/\PySem.W.isFn K (.ref f)=true/\PySem.W.keepIn K (.ref f)=true:=by
 unfold fV fE at h;unfold fdOf;split at h
 . rename_i oc od d sl e;obtain⟨n,q',ps,bd,sc,g,cl,df,kw,dc,pm,an,cd,ct,bi⟩:=d;simp only[Option.some.injEq,yd6,ybc]at h;obtain⟨rfl,rfl,rfl,rfl,rfl,rfl,rfl,rfl,rfl,h1,h2⟩:=h;have kp:PySem.W.keepIn K (.ref f)=true:=by unfold PySem.W.keepIn;dsimp only;rw[e]
   exact⟨⟨⟨oc,od,kw,dc,pm,an,cd,ct,sl,rfl,e,h1⟩,kp⟩,h2,kp⟩
 . cases h
theorem fuA{L:List Addr}{E:List (Option FV)}(h:L.map (fV K)=E)(i:Nat){f:Addr}{x q:Str}{st:Stmt}(e1:L[i]?=some f)(e2:E[i]?=some (fE x q st)):fV K f=fE x q st:=by
 rw[<-h,yak,e1]at e2;exact yaL e2
theorem fu{L:List Addr}{E:List (Option FV)}(h:L.map (fV K)=E)(i:Nat){f:Addr}{x q:Str}{st:Stmt}(e1:L[i]?=some f)(e2:E[i]?=some (fE x q st)):Fun K x q st f (fdOf K f):=(fu0 (fuA h i e1 e2)).1
theorem fu2{L:List Addr}{E:List (Option FV)}(h:L.map (fV K)=E)(i:Nat){f:Addr}{x q:Str}{st:Stmt}(e1:L[i]?=some f)(e2:E[i]?=some (fE x q st)):PySem.W.isFn K (.ref f)=true:=(fu0 (fuA h i e1 e2)).2.1
theorem fu3{L:List Addr}{E:List (Option FV)}(h:L.map (fV K)=E)(i:Nat){f:Addr}{x q:Str}{st:Stmt}(e1:L[i]?=some f)(e2:E[i]?=some (fE x q st)):PySem.W.keepIn K (.ref f)=true:=(fu0 (fuA h i e1 e2)).2.2
variable{h:Heap}{mg:Str->Option Value}
theorem ziE(X:K.In h)(G:h.Ns mainGlobals mg){x v:Str}(e:gs K x v=true):∃t,mg x=some (.str v t):=by
 unfold gs at e;split at e
 . rename_i y t q;rw[yal e]at q;exact⟨t,yaU X G q⟩
 . cases e
theorem zuZ(X:K.In h)(G:h.Ns mainGlobals mg){x:Str}{v:Int}(e:gi K x v=true):∃t,mg x=some (.int v t):=by
 unfold gi at e;split at e
 . rename_i y t q;rw[yal e]at q;exact⟨t,yaU X G q⟩
 . cases e
end
theorem walk2{l:PySem.W.OpenLaw}{n k:Nat}{q:Program}{loose:List Str}{XP:(Str->Option Value)->Heap->Prop}{OB:PySem.W.Frag->Prop}{d:DefRec}{CX:World->CXT}{sp:PySem.W.Frag->Sp}{x:Str}
  (hn:l.most=some n) (hn2:n<=sizeLine) (hdf:d.params.defaults=[]) (hr:Room k callerA)
  (F:∀(w:World) (mg:Str->Option Value) (fa:Addr) (h:Heap) (K:PySem.W.Frag),OB K->K.In h->h.Ns mainGlobals mg->mg d.name=some (.ref fa) ->
   ∃fd:FuncData,(∀(s:Shared) (u:Value),BindsTo s fd ⟨[u],[]⟩ [(x,u)])/\∀base:Heap,K.In base->base.Ns mainGlobals mg->FnOk l.prog w K mg base (CX w) k fa fd [x] (sp K))
  (hsp:∀(K:PySem.W.Frag) (H:Hp) (a:Addr) (ns:List Int),ns.length<=n->Only H->SqL K H a (ns.map V.int)->sp K [.ref a] H (λv _=>v=.bl true) λ_ _ _=>False)
  (hCX:∀(w:World) (H:Hp) (s:Shared) (e:Value) (s':Shared),CX w [] H s (λ_ _ _=>False) e s'->False) :
  PySem.W.WalkO q loose XP (λ_ h=>∃K,OB K/\K.In h) l.row.toRowW d [] (λf vs=>PySem.call f vs):=by
 refine Att.znb hn hdf λw s₀ s₁ mg mb fa o pm cd doc a vs ns G Y ho hd hcd hmg hobj hints hlen hg=>?_;obtain⟨K,ob,KX⟩:=Y;obtain⟨fd,hb,hF⟩:=F w mg fa _ K ob KX G.T.g hmg;exact zrx KX G.T.g G.T.b G.T.builtins G.T.nolimit hg hobj hints (yaA hlen hn2) hr hF hb (λH hO hS=>hsp K H a ns hlen hO hS) λH e s'=>hCX w H s₁ e s'
end TP
end
section
namespace TP
open PySem L2 TH
def top(i:Nat):Stmt:=PySem.Challenge.pw_turnhall_k09_whole_risen_halls.main.body.getD i (.Pass ⟨0,0,0,0⟩)
abbrev zfE:Stmt:=inClass (top 27) 0
abbrev zgO:Stmt:=top 35
abbrev zfw:Stmt:=top 34
abbrev zgP:Stmt:=top 36
abbrev zgQ:Stmt:=top 37
abbrev zfy:Stmt:=top 38
abbrev zd2:Stmt:=inClass (top 17) 0
abbrev zeJ:Stmt:=inClass (top 27) 1
abbrev zgL:Stmt:=top 3
abbrev zcN:Stmt:=inClass (top 27) 15
abbrev zbi:Stmt:=inClass (top 27) 16
abbrev zfI:Stmt:=inClass (top 18) 0
abbrev zcR:Stmt:=inClass (top 18) 1
abbrev zfH:Stmt:=inClass (top 18) 2
abbrev zch:Stmt:=inClass (top 18) 3
abbrev zfG:Stmt:=inClass (top 18) 5
abbrev zd0:Stmt:=top 5
abbrev zcQ:Stmt:=inClass (top 27) 19
abbrev zdy:Stmt:=inClass (top 18) 6
abbrev zbL:Stmt:=inClass (top 18) 9
abbrev zcO:Stmt:=inClass (top 27) 23
abbrev zdx:Stmt:=inClass (top 27) 22
abbrev zbt:Stmt:=inClass (top 27) 21
abbrev zcM:Stmt:=inClass (top 17) 2
abbrev zfB:Stmt:=inClass (top 27) 25
abbrev zd1:Stmt:=top 4
abbrev zbP:Stmt:=inClass (top 17) 3
abbrev zeK:Stmt:=inClass (top 18) 7
abbrev zcE:Stmt:=inClass (top 18) 4
abbrev zd3:Stmt:=inClass (top 27) 27
abbrev zgT:Stmt:=inClass (top 27) 26
abbrev zfF:Stmt:=inClass (top 27) 24
abbrev zfA:Stmt:=inClass (top 27) 20
abbrev zd4:Stmt:=inClass (top 27) 18
abbrev zgU:Stmt:=inClass (top 27) 17
abbrev zfz:Stmt:=inClass (top 16) 0
abbrev zfC:Stmt:=inClass (top 27) 2
abbrev zeH:Stmt:=inClass (top 27) 3
abbrev zfD:Stmt:=inClass (top 27) 4
abbrev zct:Stmt:=inClass (top 17) 1
abbrev zdv:Stmt:=inClass (top 27) 5
abbrev zfx:Stmt:=top 39
abbrev zh5:Stmt:=top 40
abbrev zgS:Stmt:=inClass (top 27) 14
abbrev zgN:Stmt:=top 32
abbrev zgM:Stmt:=top 30
abbrev zmv:Stmt:=top 31
abbrev zdt:Stmt:=top 6
abbrev zh4:Stmt:=top 29
abbrev zgR:Stmt:=inClass (top 27) 11
abbrev zcP:Stmt:=inClass (top 27) 12
abbrev zeI:Stmt:=inClass (top 27) 13
abbrev zc6:Stmt:=inClass (top 27) 6
abbrev zdw:Stmt:=inClass (top 27) 7
abbrev zdu:Stmt:=top 42
abbrev zpA:Stmt:=top 43
structure Fs where
 f:Nat->Addr
 fd:Nat->FuncData
structure Txt(K:PySem.W.Frag)(mg:Str->Option Value)(A:Ad)(F:Fs):Prop where
 ok:AdOk A
 za8:Cls K A.zex
 zbD:zcq K A.zex "use"
 zbc:zcq K A.zex "key"
 zcW:zcq K A.zex "value"
 zr7:mg "Want" = some (.ref A.zex)
 zp0:Mk K A.zex (F.f 35)
 zax:Cls K A.zaG
 zaC:zcq K A.zaG "state"
 zbo:zcq K A.zaG "did"
 za9:zcq K A.zaG "want"
 zrF:mg "Record" = some (.ref A.zaG)
 zp1:Mk K A.zaG (F.f 6)
 zaY:Cls K A.zcz
 zby:zcq K A.zcz "held"
 za6:zcq K A.zcz "row"
 zuf:mg "Desk" = some (.ref A.zcz)
 zsV:Mk K A.zcz (F.f 11)
 zaj:Cls K A.zaW
 zaF:zcq K A.zaW "records"
 zbE:zcq K A.zaW "desks"
 zbm:zcq K A.zaW "standing"
 zbd:zcq K A.zaW "kept_values"
 zcu:zcq K A.zaW "kept_deeds"
 zcp:zcq K A.zaW "rows"
 zqs:mg "Hall" = some (.ref A.zaW)
 zp2:Mk K A.zaW (F.f 0)
 znp:Fun K "__init__" "Hall.__init__" zfE (F.f 0) (F.fd 0)
 ziU:Binds K (F.fd 0) ["self"] []
 zo2:Fun K "_law_mix" "_law_mix" zgO (F.f 1) (F.fd 1)
 zb4:Binds K (F.fd 1) ["_law_cell_here","_law_prime","_law_many"] []
 zb2:mg "_law_mix" = some (.ref (F.f 1))
 zb1:PySem.W.keepIn K (.ref (F.f 1))=true
 znh:Fun K "_law_cell" "_law_cell" zfw (F.f 2) (F.fd 2)
 zcl:Binds K (F.fd 2) ["_law_script","_law_k"] []
 zck:mg "_law_cell" = some (.ref (F.f 2))
 zcj:PySem.W.keepIn K (.ref (F.f 2))=true
 zhe:Fun K "_law_key" "_law_key" zgP (F.f 3) (F.fd 3)
 zdX:Binds K (F.fd 3) ["_law_script","_law_k"] []
 zdU:mg "_law_key" = some (.ref (F.f 3))
 zdR:PySem.W.keepIn K (.ref (F.f 3))=true
 zo3:Fun K "_law_act" "_law_act" zgQ (F.f 4) (F.fd 4)
 zoV:Binds K (F.fd 4) ["_law_script","_law_cell_here","_law_begun"] []
 zoN:mg "_law_act" = some (.ref (F.f 4))
 zoF:PySem.W.keepIn K (.ref (F.f 4))=true
 znj:Fun K "_law_acts" "_law_acts" zfy (F.f 5) (F.fd 5)
 zm6:Binds K (F.fd 5) ["_law_script"] []
 zmW:mg "_law_acts" = some (.ref (F.f 5))
 zmQ:PySem.W.keepIn K (.ref (F.f 5))=true
 zkV:Fun K "__init__" "Record.__init__" zd2 (F.f 6) (F.fd 6)
 zkM:Binds K (F.fd 6) ["self"] []
 zmd:Fun K "begin" "Hall.begin" zeJ (F.f 7) (F.fd 7)
 zdp:Binds K (F.fd 7) ["self"] []
 zdn:Meth K A.zaW "begin" (F.f 7)
 zoZ:Fun K "is_whole" "is_whole" zgL (F.f 8) (F.fd 8)
 zoT:Binds K (F.fd 8) ["thing"] []
 zoL:mg "is_whole" = some (.ref (F.f 8))
 zoD:PySem.W.keepIn K (.ref (F.f 8))=true
 zhC:Fun K "record_of" "Hall.record_of" zcN (F.f 9) (F.fd 9)
 zcf:Binds K (F.fd 9) ["self","deed"] []
 zcd:Meth K A.zaW "record_of" (F.f 9)
 zdg:Fun K "refuse_unless_going" "Hall.refuse_unless_going" zbi (F.f 10) (F.fd 10)
 zbl:Binds K (F.fd 10) ["self","deed"] []
 zbk:Meth K A.zaW "refuse_unless_going" (F.f 10)
 znt:Fun K "__init__" "Desk.__init__" zfI (F.f 11) (F.fd 11)
 zna:Binds K (F.fd 11) ["self"] []
 zhG:Fun K "hindering" "Desk.hindering" zcR (F.f 12) (F.fd 12)
 zer:Binds K (F.fd 12) ["self","deed","use"] []
 zek:Meth K A.zcz "hindering" (F.f 12)
 zns:Fun K "lets" "Desk.lets" zfH (F.f 13) (F.fd 13)
 ziW:Binds K (F.fd 13) ["self","deed","use"] []
 ziv:Meth K A.zcz "lets" (F.f 13)
 zf8:Fun K "lets_at_once" "Desk.lets_at_once" zch (F.f 14) (F.fd 14)
 zf5:Binds K (F.fd 14) ["self","deed","use"] []
 zfX:Meth K A.zcz "lets_at_once" (F.f 14)
 znr:Fun K "take" "Desk.take" zfG (F.f 15) (F.fd 15)
 zm9:Binds K (F.fd 15) ["self","deed","use"] []
 zmO:Meth K A.zcz "take" (F.f 15)
 zkT:Fun K "value_under" "value_under" zd0 (F.f 16) (F.fd 16)
 zkL:Binds K (F.fd 16) ["book","key"] []
 zkD:mg "value_under" = some (.ref (F.f 16))
 zkA:PySem.W.keepIn K (.ref (F.f 16))=true
 zhF:Fun K "carry_out" "Hall.carry_out" zcQ (F.f 17) (F.fd 17)
 zeq:Binds K (F.fd 17) ["self","deed","want"] []
 zej:Meth K A.zaW "carry_out" (F.f 17)
 zjs:Fun K "line_up" "Desk.line_up" zdy (F.f 18) (F.fd 18)
 zjm:Binds K (F.fd 18) ["self","deed","use"] []
 zjd:Meth K A.zcz "line_up" (F.f 18)
 zez:Fun K "next_waited_for" "Desk.next_waited_for" zbL (F.f 19) (F.fd 19)
 zey:Binds K (F.fd 19) ["self","deed","use"] []
 zev:Meth K A.zcz "next_waited_for" (F.f 19)
 zhD:Fun K "next_from" "Hall.next_from" zcO (F.f 20) (F.fd 20)
 zhA:Binds K (F.fd 20) ["self","deed"] []
 zhw:Meth K A.zaW "next_from" (F.f 20)
 zjr:Fun K "come_to" "Hall.come_to" zdx (F.f 21) (F.fd 21)
 zfr:Binds K (F.fd 21) ["self","deed"] []
 zfo:Meth K A.zaW "come_to" (F.f 21)
 zdH:Fun K "greatest_all_round" "Hall.greatest_all_round" zbt (F.f 22) (F.fd 22)
 zcb:Binds K (F.fd 22) ["self","deed"] []
 zb8:Meth K A.zaW "greatest_all_round" (F.f 22)
 zhB:Fun K "written" "Record.written" zcM (F.f 23) (F.fd 23)
 zep:Binds K (F.fd 23) ["self"] []
 zei:Meth K A.zaG "written" (F.f 23)
 znm:Fun K "undo" "Hall.undo" zfB (F.f 24) (F.fd 24)
 zm8:Binds K (F.fd 24) ["self","deed"] []
 zmN:Meth K A.zaW "undo" (F.f 24)
 zkU:Fun K "rising_keys" "rising_keys" zd1 (F.f 25) (F.fd 25)
 zgB:Binds K (F.fd 25) ["given"] []
 zgs:mg "rising_keys" = some (.ref (F.f 25))
 zgp:PySem.W.keepIn K (.ref (F.f 25))=true
 ze3:Fun K "touched_keys" "Record.touched_keys" zbP (F.f 26) (F.fd 26)
 ze0:Binds K (F.fd 26) ["self"] []
 zeS:Meth K A.zaG "touched_keys" (F.f 26)
 zme:Fun K "leave" "Desk.leave" zeK (F.f 27) (F.fd 27)
 zl9:Binds K (F.fd 27) ["self","deed"] []
 zlH:Meth K A.zcz "leave" (F.f 27)
 zhf:Fun K "lets_first" "Desk.lets_first" zcE (F.f 28) (F.fd 28)
 zhb:Binds K (F.fd 28) ["self"] []
 zgZ:Meth K A.zcz "lets_first" (F.f 28)
 zkW:Fun K "let_on" "Hall.let_on" zd3 (F.f 29) (F.fd 29)
 zkN:Binds K (F.fd 29) ["self","key"] []
 zkv:Meth K A.zaW "let_on" (F.f 29)
 zo6:Fun K "end" "Hall.end" zgT (F.f 30) (F.fd 30)
 zjZ:Binds K (F.fd 30) ["self","deed","state"] []
 zjE:Meth K A.zaW "end" (F.f 30)
 znq:Fun K "drop" "Hall.drop" zfF (F.f 31) (F.fd 31)
 ziV:Binds K (F.fd 31) ["self","deed"] []
 ziu:Meth K A.zaW "drop" (F.f 31)
 znl:Fun K "wait" "Hall.wait" zfA (F.f 32) (F.fd 32)
 zm7:Binds K (F.fd 32) ["self","deed","want"] []
 zmM:Meth K A.zaW "wait" (F.f 32)
 zkX:Fun K "answer" "Hall.answer" zd4 (F.f 33) (F.fd 33)
 zkO:Binds K (F.fd 33) ["self","deed","want"] []
 zkw:Meth K A.zaW "answer" (F.f 33)
 zo7:Fun K "ask" "Hall.ask" zgU (F.f 34) (F.fd 34)
 zj0:Binds K (F.fd 34) ["self","deed","want"] []
 zjF:Meth K A.zaW "ask" (F.f 34)
 znk:Fun K "__init__" "Want.__init__" zfz (F.f 35) (F.fd 35)
 ziS:Binds K (F.fd 35) ["self","use","key","value"] []
 znn:Fun K "read" "Hall.read" zfC (F.f 36) (F.fd 36)
 zf3:Binds K (F.fd 36) ["self","deed","key"] []
 zfV:Meth K A.zaW "read" (F.f 36)
 zmb:Fun K "write" "Hall.write" zeH (F.f 37) (F.fd 37)
 ze1:Binds K (F.fd 37) ["self","deed","key","value"] []
 zeT:Meth K A.zaW "write" (F.f 37)
 zno:Fun K "keep" "Hall.keep" zfD (F.f 38) (F.fd 38)
 zf4:Binds K (F.fd 38) ["self","deed"] []
 zfW:Meth K A.zaW "keep" (F.f 38)
 zgF:Fun K "is_at_end" "Record.is_at_end" zct (F.f 39) (F.fd 39)
 zgC:Binds K (F.fd 39) ["self"] []
 zgm:Meth K A.zaG "is_at_end" (F.f 39)
 zjp:Fun K "give_up" "Hall.give_up" zdv (F.f 40) (F.fd 40)
 zdG:Binds K (F.fd 40) ["self","deed"] []
 zdB:Meth K A.zaW "give_up" (F.f 40)
 zni:Fun K "_law_call" "_law_call" zfx (F.f 41) (F.fd 41)
 zm5:Binds K (F.fd 41) ["_law_hall","_law_act_here"] []
 zmV:mg "_law_call" = some (.ref (F.f 41))
 zmP:PySem.W.keepIn K (.ref (F.f 41))=true
 zqY:Fun K "_law_do" "_law_do" zh5 (F.f 42) (F.fd 42)
 zqT:Binds K (F.fd 42) ["_law_hall","_law_act_here"] []
 zqp:mg "_law_do" = some (.ref (F.f 42))
 zqc:PySem.W.keepIn K (.ref (F.f 42))=true
 zo5:Fun K "log" "Hall.log" zgS (F.f 43) (F.fd 43)
 zff:Binds K (F.fd 43) ["self"] []
 ze7:Meth K A.zaW "log" (F.f 43)
 zo1:Fun K "do_again" "do_again" zgN (F.f 44) (F.fd 44)
 zoU:Binds K (F.fd 44) ["hall","row"] []
 zoM:mg "do_again" = some (.ref (F.f 44))
 zoE:PySem.W.keepIn K (.ref (F.f 44))=true
 zo0:Fun K "going_in" "going_in" zgM (F.f 45) (F.fd 45)
 zjY:Binds K (F.fd 45) ["rows"] []
 zjQ:mg "going_in" = some (.ref (F.f 45))
 zjK:PySem.W.keepIn K (.ref (F.f 45))=true
 ztk:Fun K "risen" "risen" zmv (F.f 46) (F.fd 46)
 zte:Binds K (F.fd 46) ["rows"] []
 zs4:mg "risen" = some (.ref (F.f 46))
 zs2:PySem.W.keepIn K (.ref (F.f 46))=true
 zjn:Fun K "rising_pairs" "rising_pairs" zdt (F.f 47) (F.fd 47)
 zdF:Binds K (F.fd 47) ["book"] []
 zdE:mg "rising_pairs" = some (.ref (F.f 47))
 zdD:PySem.W.keepIn K (.ref (F.f 47))=true
 zqX:Fun K "book_of" "book_of" zh4 (F.f 48) (F.fd 48)
 zqS:Binds K (F.fd 48) ["rows"] []
 zqo:mg "book_of" = some (.ref (F.f 48))
 zqb:PySem.W.keepIn K (.ref (F.f 48))=true
 zo4:Fun K "now" "Hall.now" zgR (F.f 49) (F.fd 49)
 zoW:Binds K (F.fd 49) ["self"] []
 zoB:Meth K A.zaW "now" (F.f 49)
 zhE:Fun K "kept_book" "Hall.kept_book" zcP (F.f 50) (F.fd 50)
 zcg:Binds K (F.fd 50) ["self"] []
 zce:Meth K A.zaW "kept_book" (F.f 50)
 zmc:Fun K "order" "Hall.order" zeI (F.f 51) (F.fd 51)
 zl8:Binds K (F.fd 51) ["self"] []
 zlG:Meth K A.zaW "order" (F.f 51)
 zi0:Fun K "state_of" "Hall.state_of" zc6 (F.f 52) (F.fd 52)
 ziT:Binds K (F.fd 52) ["self","deed"] []
 zit:Meth K A.zaW "state_of" (F.f 52)
 zjq:Fun K "done_by" "Hall.done_by" zdw (F.f 53) (F.fd 53)
 zfq:Binds K (F.fd 53) ["self","deed"] []
 zfn:Meth K A.zaW "done_by" (F.f 53)
 zjo:Fun K "_law_goes_on" "_law_goes_on" zdu (F.f 54) (F.fd 54)
 zjl:Binds K (F.fd 54) ["_law_found","_law_script","_law_ahead","_law_many"] []
 zjh:mg "_law_goes_on" = some (.ref (F.f 54))
 zjg:PySem.W.keepIn K (.ref (F.f 54))=true
 zu9:Fun K "law" "law" zpA (F.f 55) (F.fd 55)
 b_law:Binds K (F.fd 55) ["_law_script"] []
 zu0:mg "law" = some (.ref (F.f 55))
 k_law:PySem.W.keepIn K (.ref (F.f 55))=true
 zmY:∃t,mg "BEGIN" = some (.str "begin" t)
 zkE:∃t,mg "FIRST_VALUE" = some (.int 0 t)
 zg7:∃t,mg "GIVEN_UP" = some (.str "given up" t)
 zqt:∃t,mg "GIVE_UP" = some (.str "give up" t)
 zmX:∃t,mg "GOING" = some (.str "going" t)
 zqr:∃t,mg "KEEP" = some (.str "keep" t)
 zr8:∃t,mg "KEPT" = some (.str "kept" t)
 zue:∃t,mg "READ" = some (.str "read" t)
 zqq:∃t,mg "READING" = some (.str "reading" t)
 zlR:∃t,mg "WAITING" = some (.str "waiting" t)
 zg5:∃t,mg "WRITE" = some (.str "write" t)
 zdV:∃t,mg "WRITING" = some (.str "writing" t)
 zrG:mg "NoDeed" = some (.ref A.ziQ)
 zqZ:PySem.W.excIn K A.ziQ [.type "ValueError",.type "Exception",.type "BaseException",.type "object"] "ValueError.__new__" = true
 zg6:mg "NotGoing" = some (.ref A.zdc)
 zjt:PySem.W.excIn K A.zdc [.type "ValueError",.type "Exception",.type "BaseException",.type "object"] "ValueError.__new__" = true
 zod:PySem.W.ktsIn K A.zdc "BaseException" = true
 hcl:PySem.W.findIn K (.ref A.zaW) "__class__" = some (some (.builtin "object.__class__"))
 hsp:PySem.W.specialIn K (.builtin "object.__class__") "__get__" = some (some (.builtin "getset_descriptor.__get__"))
 htk:PySem.W.takesIn K (.builtin "object.__class__")=some true
 hmr:PySem.W.mroIn K A.zaW (.type "object")=some true
 hki:PySem.W.kitOne K (.ref A.zaW) (.ref A.zaW)=some true
 zt8:mg "bool" = none
 zpX:mg "dict" = none
 zpW:mg "int" = none
 zeR:mg "isinstance" = none
 zkr:mg "len" = none
 zt7:mg "list" = none
 zkq:mg "range" = none
 zuT:mg "set" = none
 zkp:mg "sorted" = none
 zeQ:mg "tuple" = none
local macro_rules | `(tactic| trivial) => `(tactic| exact ⟨rfl, rfl, rfl, by decide +kernel, rfl, by decide +kernel, by decide +kernel⟩)
theorem zlg:zau ["self"] ["self"] (zan zfE):=by trivial
theorem zms:zau ["_law_cell_here","_law_prime","_law_many"] ["_law_cell_here","_law_prime","_law_many"] (zan zgO):=by trivial
theorem zlc:zau ["_law_script","_law_k"] ["_law_script","_law_k"] (zan zfw):=by trivial
theorem zbB:zau ["_law_script","_law_k","_law_letters","_law_seed","_law_tail"] ["_law_script","_law_k"] (zan zgP):=by trivial
theorem zc3:zau ["_law_script","_law_cell_here","_law_begun","_law_deed","_law_key_here","_law_turn","_law_many"] ["_law_script","_law_cell_here","_law_begun"] (zan zgQ):=by trivial
theorem zco:zau ["_law_script","_law_found","_law_begun","_law_cell_here","_law_act_here"] ["_law_script"] (zan zfy):=by trivial
theorem zi5:zau ["self"] ["self"] (zan zd2):=by trivial
theorem zgd:zau ["self","deed"] ["self"] (zan zeJ):=by trivial
theorem zmq:zau ["thing"] ["thing"] (zan zgL):=by trivial
theorem zgJ:zau ["self","deed"] ["self","deed"] (zan zcN):=by trivial
theorem zc4:zau ["self","deed"] ["self","deed"] (zan zbi):=by trivial
theorem zlk:zau ["self"] ["self"] (zan zfI):=by trivial
theorem zdL:zau ["self","deed","use","others"] ["self","deed","use"] (zan zcR):=by trivial
theorem zlj:zau ["self","deed","use"] ["self","deed","use"] (zan zfH):=by trivial
theorem zfh:zau ["self","deed","use"] ["self","deed","use"] (zan zch):=by trivial
theorem zli:zau ["self","deed","use"] ["self","deed","use"] (zan zfG):=by trivial
theorem zi3:zau ["book","key"] ["book","key"] (zan zd0):=by trivial
theorem zcD:zau ["self","deed","want","record","before"] ["self","deed","want"] (zan zcQ):=by trivial
theorem zh3:zau ["self","deed","use"] ["self","deed","use"] (zan zdy):=by trivial
theorem zcs:zau ["self","deed","use","place"] ["self","deed","use"] (zan zbL):=by trivial
theorem zdK:zau ["self","deed","want"] ["self","deed"] (zan zcO):=by trivial
theorem zbO:zau ["self","deed","found","left","last","other"] ["self","deed"] (zan zdx):=by trivial
theorem zbh:zau ["self","deed","found","rising"] ["self","deed"] (zan zbt):=by trivial
theorem zgI:zau ["self"] ["self"] (zan zcM):=by trivial
theorem zeF:zau ["self","deed","key","value"] ["self","deed"] (zan zfB):=by trivial
theorem zi4:zau ["given"] ["given"] (zan zd1):=by trivial
theorem zcA:zau ["self","touched"] ["self"] (zan zbP):=by trivial
theorem zka:zau ["self","deed"] ["self","deed"] (zan zeK):=by trivial
theorem zge:zau ["self"] ["self"] (zan zcE):=by trivial
theorem zds:zau ["self","key","desk","first"] ["self","key"] (zan zd3):=by trivial
theorem zc5:zau ["self","deed","state","record","touched","key"] ["self","deed","state"] (zan zgT):=by trivial
theorem zlh:zau ["self","deed"] ["self","deed"] (zan zfF):=by trivial
theorem zdi:zau ["self","deed","want","record","greatest"] ["self","deed","want"] (zan zfA):=by trivial
theorem zfk:zau ["self","deed","want","record"] ["self","deed","want"] (zan zd4):=by trivial
theorem zh2:zau ["self","deed","want","desk"] ["self","deed","want"] (zan zgU):=by trivial
theorem zle:zau ["self","use","key","value"] ["self","use","key","value"] (zan zfz):=by trivial
theorem zlf:zau ["self","deed","key"] ["self","deed","key"] (zan zfC):=by trivial
theorem zj8:zau ["self","deed","key","value"] ["self","deed","key","value"] (zan zeH):=by trivial
theorem zeG:zau ["self","deed","key","value"] ["self","deed"] (zan zfD):=by trivial
theorem zfv:zau ["self"] ["self"] (zan zct):=by trivial
theorem zh0:zau ["self","deed"] ["self","deed"] (zan zdv):=by trivial
theorem zld:zau ["_law_hall","_law_act_here"] ["_law_hall","_law_act_here"] (zan zfx):=by trivial
theorem ze4:zau ["_law_hall","_law_act_here","_law_told"] ["_law_hall","_law_act_here"] (zan zh5):=by trivial
theorem zmu:zau ["self"] ["self"] (zan zgS):=by trivial
theorem zmr:zau ["hall","row"] ["hall","row"] (zan zgN):=by trivial
theorem zfu:zau ["rows","going","row"] ["rows"] (zan zgM):=by trivial
theorem zhJ:zau ["rows","hall","row","deed"] ["rows"] (zan zmv):=by trivial
theorem zhZ:zau ["book"] ["book"] (zan zdt):=by trivial
theorem zcZ:zau ["rows","written","book","row","key","value"] ["rows"] (zan zh4):=by trivial
theorem zmt:zau ["self"] ["self"] (zan zgR):=by trivial
theorem zgK:zau ["self"] ["self"] (zan zcP):=by trivial
theorem zj9:zau ["self"] ["self"] (zan zeI):=by trivial
theorem zhu:zau ["self","deed"] ["self","deed"] (zan zc6):=by trivial
theorem zh1:zau ["self","deed"] ["self","deed"] (zan zdw):=by trivial
theorem zbN:zau ["_law_found","_law_script","_law_ahead","_law_many","_law_book","_law_key_here","_law_before","_law_more"] ["_law_found","_law_script","_law_ahead","_law_many"] (zan zdu):=by trivial
theorem zdJ:zau ["_law_script","_law_hall","_law_act_here","_law_log","_law_rows","_law_found","_law_ends","_law_book","_law_many","_law_deed","_law_writes","_law_k","_law_key_here"] ["_law_script"] (zan zpA):=by trivial
end TP
end
section
namespace TP
open PySem L2 TH PyProof.Rows
theorem hmr{j k:Nat}{A:Around}(r:Room k A)(h:j<=k:=by decide):Room j A:=r.mono h
theorem sz1:1<=sizeLine:=by rw[yaw];decide
theorem sz2:2<=sizeLine:=by rw[yaw];decide
theorem sz3:3<=sizeLine:=by rw[yaw];decide
theorem sz4:4<=sizeLine:=by rw[yaw];decide
theorem sz5:5<=sizeLine:=by rw[yaw];decide
theorem sz6:6<=sizeLine:=by rw[yaw];decide
local macro_rules | `(tactic| walk_at "loc") => `(tactic| first | exact Or.inl rfl | exact Or.inr rfl)
local macro_rules | `(tactic| walk_at "blk") => `(tactic| (
 refine⟨rfl,by decide +kernel,by decide +kernel,?_,by decide +kernel,rfl,?_⟩
 . (repeat' (first | exact List.forall_mem_nil _ | refine List.forall_mem_cons.mpr ⟨?_,?_⟩))<;>(first | (intro h;exact absurd h (by decide)) | exact(λ_=>Or.inl rfl) | exact(λ_=>Or.inr rfl))
 . intro i j x h1 h2;rcases i with _ | _ | _ | _ | i<;>(first | (simp at h2;done) | (cases h1;cases h2;exact⟨rfl,rfl,by first | exact Or.inl rfl | exact Or.inr rfl⟩))))
section
variable{P:Program}{w:World}{K:PySem.W.Frag}{mg:Str->Option Value}{base:Heap}{A:Ad}{F:Fs}
theorem zmF(T:Txt K mg A F):FnOk P w K mg base (CX1 P w) 1 (F.f 8) (F.fd 8) ["thing"] zpn:=by
 refine T.zoZ.okN zmq (λvs H Q E h=>?_) (λcdv A' outer s H vs Q E hr h=>?_)
 . obtain⟨i,rfl,_⟩:=h
   rfl
 . obtain⟨i,rfl,k⟩:=h;refine⟨_,(zaf (zay (zpK (zbC ziP (by rfl) T.zeR boot_isinstance (zaa (pv 0) (zaa (ztZ rfl T.zpW boot_int) zad))) (zlp (ztY (zbC ziP (by rfl) T.zeR boot_isinstance (zaa (pv 0) (zaa (ztZ rfl T.zt8 boot_bool) zad)))))))),?_⟩;refine⟨_,rfl,_,_,_,_,rfl,.int i,rfl,_,rfl,?_⟩;refine iteT ?_;refine⟨_,rfl,_,_,_,_,rfl,.int i,rfl,_,rfl,?_⟩;exact k
theorem zfm(T:Txt K mg A F):FnOk P w K mg base (CX1 P w) 1 (F.f 25) (F.fd 25) ["given"] (zhi K):=by
 refine T.zkU.okN zi4 (λvs H Q E h=>?_) (λcdv A' outer s H vs Q E hr h=>?_)
 . obtain⟨p,xs,rfl,_⟩:=h
   rfl
 . obtain⟨p,xs,rfl,src,hl,h64,k⟩:=h;refine⟨_,(zaf (zay (za5 zbG (by rfl) T.zeQ ycQ (zaa (zbC (ziO rfl) (by rfl) T.zkp boot_sorted (zaa (za5 (zrK rfl) (by rfl) T.zuT boot_set (zaa (pv 0) zad)) zad)) zad)))),?_⟩;refine⟨_,rfl,p,_,rfl,src,zpg xs,by rw[yaa];exact hl,λq hq=>?_⟩;refine⟨q,_,rfl,zab,S6.zqF _,zog xs,by rw[(zqE xs).length_eq,yaa];exact h64,λys l pm pw hl=>?_⟩;refine⟨l,_,rfl,.inl ⟨SqL.of zab,λr hr=>?_⟩⟩;have e:ys=(ordS xs).map Sum.inr:=zmm (λk=>by
    rw[pm.mem_iff,S6.zku,yap];exact⟨λ⟨x,h,e⟩=>⟨x,h,e.symm⟩,λ⟨x,h,e⟩=>⟨x,h,e.symm⟩⟩) pw
   subst e;refine k _ r (((Same.zaq hq).upd2 hl).free hr) (((Same.zaq hq).upd2 hl).upd2 hr) ?_;rw[zab,zr2]
theorem zi7(T:Txt K mg A F):FnOk P w K mg base (CX1 P w) 1 (F.f 16) (F.fd 16) ["book","key"] zk5:=by
 refine T.zkT.okN zi3 (λvs H Q E h=>?_) (λcdv A' outer s H vs Q E hr h=>?_)
 . obtain⟨p,k,l,b,rfl,_⟩:=h
   rfl
 . obtain⟨p,k,l,b,rfl,hp,hb,q⟩:=h;have hu:=zdT hr;refine⟨_,(zaf (zay (zhM hu (pv 0) (pv 1) (zuQ rfl T.zkE) ⟨rfl,rfl,rfl,rfl⟩))),?_⟩;refine⟨_,rfl,p,rfl,.inl ⟨_,.of hp⟩,_,rfl,_,DGet.k (k:=Sum.inr k) hp,?_⟩;rw[hb.val];cases e:b k with
   | none=>rw[e]at q;exact q
   | some v=>rw[e]at q;exact q
theorem zhk(T:Txt K mg A F):FnOk P w K mg base (CX1 P w) 1 (F.f 35) (F.fd 35) ["self","use","key","value"] (zoi A):=by
 refine T.znk.okN zle (λvs H Q E h=>?_) (λcdv A' outer s H vs Q E hr h=>?_)
 . obtain⟨p,dx,w,k,v,rfl,_⟩:=h
   rfl
 . obtain⟨p,dx,w,k,v,rfl,hp,q⟩:=h;refine⟨_,(zac (zb7 (pv 0) (pv 1) rfl)
    (zac (zb7 (pv 0) (pv 2) rfl)
    (zaf (zb7 (pv 0) (pv 3) rfl)))),?_⟩
   refine⟨_,rfl,_,rfl,p,_,dx,_,rfl,hp,T.za8,T.zbD,yan rfl,_,rfl,_,rfl,p,_,dx,_,rfl,zab,T.za8,T.zbc,yan rfl,_,rfl,_,rfl,p,_,dx,_,rfl,zab,T.za8,T.zcW,yan rfl,?_⟩;refine q _ (by rw[zab];rfl) λb o e hb=>?_;rw[zag hb,zag hb,zag hb];exact e
theorem zja(T:Txt K mg A F):FnOk P w K mg base (CX1 P w) 1 (F.f 6) (F.fd 6) ["self"] (zk6 A):=by
 refine T.zkV.okN zi5 (λvs H Q E h=>?_) (λcdv A' outer s H vs Q E hr h=>?_)
 . obtain⟨p,dx,rfl,_⟩:=h
   rfl
 . obtain⟨p,dx,rfl,hp,q⟩:=h;refine⟨_,(zac (zb7 (pv 0) (zci rfl T.zmX) rfl)
     (zac (zb7 (pv 0) (zc7 zad) rfl)
     (zaf (zb7 (pv 0) zgj rfl)))),?_⟩
   refine⟨_,rfl,p,_,dx,_,rfl,hp,T.zax,T.zaC,yan rfl,yan rfl,λd hd=>⟨_,rfl,p,_,dx,_,rfl,zal zab hd,T.zax,T.zbo,yan rfl,_,rfl,p,_,dx,_,rfl,zab,T.zax,T.za9,yan rfl,?_⟩⟩;have hpd:p≠d:=zah zab hd;refine q _ d ?_ (by rw[zab];rfl) ?_ λb o e hb=>?_
   . rw[zag hpd.symm]at hd;exact hd
   . rw[zag hpd.symm,zag hpd.symm,zab]
   . have hbd:b≠d:=λz=>by
      rw[zag hpd.symm]at hd;rw[z,hd]at e;cases e
     rw[zag hb,zag hb,zag hbd,zag hb];exact e
theorem zfS(T:Txt K mg A F):FnOk P w K mg base (CX1 P w) 1 (F.f 39) (F.fd 39) ["self"] (zpo A):=by
 refine T.zgF.okN zfv (λvs H Q E h=>?_) (λcdv A' outer s H vs Q E hr h=>?_)
 . obtain⟨p,dx,d,st,w,rfl,_⟩:=h
   rfl
 . obtain⟨p,dx,d,st,w,rfl,hp,q⟩:=h;refine⟨_,(zaf (zay (ztX (zdA zb5 (zas (pv 0) rfl) (zci rfl T.zr8) (zaB _)) (zlp (zdA zb5 (zas (pv 0) rfl) (zci rfl T.zg7) (zaB _)))))),?_⟩;refine⟨_,rfl,p,_,dx,_,_,rfl,hp,T.zax,T.zaC,rfl,rfl,_,rfl,?_⟩;cases st with
   | kept=>exact q
   | dropped=>exact⟨_,rfl,p,_,dx,_,_,rfl,hp,T.zax,T.zaC,rfl,rfl,q⟩
   | zar=>exact⟨_,rfl,p,_,dx,_,_,rfl,hp,T.zax,T.zaC,rfl,rfl,q⟩
   | waiting=>exact⟨_,rfl,p,_,dx,_,_,rfl,hp,T.zax,T.zaC,rfl,rfl,q⟩
theorem zdM(T:Txt K mg A F):FnOk P w K mg base (CX1 P w) 1 (F.f 23) (F.fd 23) ["self"] (zpk A):=by
 refine T.zhB.okN zgI (λvs H Q E h=>?_) (λcdv A' outer s H vs Q E hr h=>?_)
 . obtain⟨p,st,d,w,done,rfl,_⟩:=h
   rfl
 . obtain⟨p,st,d,w,done,rfl,⟨⟨dx,hp⟩,us,hd,tu⟩,hl,q⟩:=h;refine⟨_,(zaf (zay (zd6 3 [] ["act","key","value"] rfl (by walk_at "blk") (zdz (zas (pv 0) rfl)) (λC fp s H=>(zpH (K:=K) (n:=3) rfl rfl (zcc (zaS (i:=0) (show(["act","key","value"]:List Str).Nodup by decide +kernel) rfl (by walk_at "loc")) (zcc (zaS (i:=1) (show(["act","key","value"]:List Str).Nodup by decide +kernel) rfl (by walk_at "loc")) (zcc (zaS (i:=2) (show(["act","key","value"]:List Str).Nodup by decide +kernel) rfl (by walk_at "loc")) zif))))) (λC fp s H=>zfM (zaw zb5 (pv 0) (zci rfl T.zg5) (zaB _))) (λC fp s H=>(za4 (zaa (pv 1) (zaa (pv 2) zad))))))),?_⟩;refine⟨_,rfl,p,_,dx,_,_,rfl,hp,T.zax,T.zbo,rfl,d,rfl,⟨_,SqL.of hd⟩,?_⟩;have hul:us.length=done.length:=by rw[tu.length,yaa]
   have hz:us.length<=sizeLine:=by rw[hul,yaw];omega
   refine zgz (xs:=us) (λi ys σ H2=>∃v0 v1 v2,σ=[v0,v1,v2]/\Same H H2/\ys.length<=i/\zap H2 ys ((zat (done.take i)).map zeA)) ⟨none,none,none,rfl,Same.refl H,yaf _,.nil⟩ (λi ys σ H2 ⟨_,_,_,_,s2,hy,_⟩=>⟨SqL.of (s2 _ _ hd),hy⟩) hz ?_ ?_
   . rintro i x ys σ H2 hlt hx ⟨v0,v1,v2,rfl,s2,hy,t⟩;obtain⟨y,hy1,r,rfl,hr1⟩:=zbU tu hx;rw[yak]at hy1;obtain⟨a,ha,rfl⟩:=yao.mp hy1;have e1:done.take (i+1)=done.take i++[a]:=by rw[yaD,ha];rfl
     refine⟨r,_,rfl,SqT.of (s2 _ _ hr1),rfl,_,_,rfl,_,_,rfl,_,_,rfl,rfl,_,rfl,rfl,_,rfl,?_⟩;cases hw:a.wr with
     | true =>
      refine⟨_,rfl,_,rfl,sz2,λn hn=>nx hlt ⟨_,_,_,rfl,s2.upd2 hn,by rw[yah,yaE];omega,?_⟩⟩;rw[e1,zcr,hw,yav];exact S6.zbS (zaE (Same.zaq hn) t) ⟨n,rfl,zab⟩
     | false =>
      refine nx hlt ⟨_,_,_,rfl,s2,by omega,?_⟩;rw[e1,zcr,hw];simp only[yaX,ybV,ybe];exact t
   . rintro ys σ H2 ⟨v0,v1,v2,rfl,s2,hy,t⟩;rw[hul,yaG]at t;intro n hn;exact q _ n ys (s2.upd2 hn) zab (zaE (Same.zaq hn) t)
theorem zeu(T:Txt K mg A F):FnOk P w K mg base (CX1 P w) 2 (F.f 26) (F.fd 26) ["self"] (zpl A):=by
 have G_rising_keys:=@zfm P w K mg base A F T;refine T.ze3.okN zcA (λvs H Q E h=>?_) (λcdv A' outer s H vs Q E hr h=>?_)
 . obtain⟨p,st,d,w,done,o,rfl,_⟩:=h
   rfl
 . obtain⟨p,st,d,w,done,o,rfl,⟨⟨dx,hp⟩,us,hd,tu⟩,hw,hl,h64,q⟩:=h;refine⟨_,(zac (zgV (i:=1) 3 [] ["act","key","value"] zcA.nd rfl (by walk_at "loc") rfl (by walk_at "blk") (zdz (zas (pv 0) rfl)) (λC fp s H=>(zpH (K:=K) (n:=3) rfl rfl (zcc (zaS (i:=0) (show(["act","key","value"]:List Str).Nodup by decide +kernel) rfl (by walk_at "loc")) (zcc (zaS (i:=1) (show(["act","key","value"]:List Str).Nodup by decide +kernel) rfl (by walk_at "loc")) (zcc (zaS (i:=2) (show(["act","key","value"]:List Str).Nodup by decide +kernel) rfl (by walk_at "loc")) zif))))) (λC fp s H=>zic) (λC fp s H=>(pv 1)))
     (zac (zbn (zgg (zmC (zas (pv 0) rfl))) (zaf (zaI (zet yaF yaQ yaR zbw (pv 1) (zaa (zas (zas (pv 0) rfl) rfl) zad)))) zaP)
     (zaf (zay (zaN G_rising_keys (hmr hr) rfl T.zgs T.zgp T.zgB .nil zaz (zaa (pv 1) zad)))))),?_⟩
   have hul:us.length=done.length:=by rw[tu.length,yaa]
   refine⟨_,rfl,p,_,dx,_,_,rfl,hp,T.zax,T.zbo,rfl,d,rfl,⟨_,SqL.of hd⟩,?_⟩;refine zgz (xs:=us) (λi ys σ H2=>∃v0 v1 v2,σ=[v0,v1,v2]/\H2=H/\ys=(done.take i).map λa=>V.str a.key) ⟨none,none,none,rfl,rfl,rfl⟩ (λi ys σ H2 ⟨_,_,_,_,e,hy⟩=>⟨SqL.of (by rw[e];exact hd),by rw[hy,yaa,yaY];omega⟩) (by rw[hul,yaw];omega) ?_ ?_
   . rintro i x ys σ H2 hlt hx ⟨v0,v1,v2,rfl,rfl,rfl⟩;obtain⟨y,hy1,r,rfl,hr1⟩:=zbU tu hx;rw[yak]at hy1;obtain⟨a,ha,rfl⟩:=yao.mp hy1;have e1:done.take (i+1)=done.take i++[a]:=by rw[yaD,ha];rfl
     refine⟨r,_,rfl,SqT.of hr1,rfl,_,_,rfl,_,_,rfl,_,_,rfl,rfl,_,rfl,nx hlt ⟨_,_,_,rfl,rfl,?_⟩⟩;rw[e1,yav];rfl
   . rintro ys σ H2 ⟨v0,v1,v2,rfl,rfl,rfl⟩;rw[hul,yaG];intro n hn;have hpn:upd H2 n (.lst (done.map λa=>V.str a.key)) p=some (.ins A.zaG dx (recF st d w)):=zal hp hn;refine⟨_,rfl,p,_,dx,_,_,rfl,hpn,T.zax,T.za9,rfl,_,rfl,?_⟩;have fin:∀(H3:Hp) (xs:List Str),Same H2 H3->H3 n=some (.lst (xs.map V.str))->xs=done.map (·.key)++zdh o->zhi K [V.ref n] H3 Q EF:=λH3 xs s3 e3 ex=>by
      subst ex;refine⟨n,done.map (·.key)++zdh o,rfl,.inl (SqL.of (by rw[zr2];exact e3)),?_,h64,λH' q' nq m e=>q H' q' (s3.free nq) (s3.trans m) e⟩;rw[yah,yaa];cases o<;>simp only[zdh,yb3,yaE]<;>omega
     cases o with
     | none =>
      have hw':w=.non:=hw;subst hw';exact⟨_,rfl,fin _ (done.map (·.key)) (Same.zaq hn) (by rw[zab,ya7];rfl) (by simp[zdh])⟩
     | some a =>
      obtain⟨pw,dw,rfl,hpw⟩:=hw;have hpw':=zal (o:=HO.lst (done.map λa=>V.str a.key)) hpw hn;refine⟨_,rfl,.inl ⟨rfl,_,SqL.of zab⟩,_,rfl,p,_,dx,_,_,rfl,hpn,T.zax,T.za9,rfl,pw,_,dw,_,_,rfl,hpw',T.za8,T.zbc,rfl,n,_,_,rfl,rfl,zab,by rw[yaa,yaw];omega,_,rfl,?_⟩;refine fin _ (done.map (·.key)++[a.key]) ?_ ?_ rfl
      . rw[zj3];exact Same.zaq hn
      . rw[zab,yav,ya7];rfl
theorem zlA(T:Txt K mg A F):FnOk P w K mg base (CX1 P w) 1 (F.f 11) (F.fd 11) ["self"] (zon A):=by
 refine T.znt.okN zlk (λvs H Q E h=>?_) (λcdv A' outer s H vs Q E hr h=>?_)
 . obtain⟨p,dx,rfl,_⟩:=h
   rfl
 . obtain⟨p,dx,rfl,hp,q⟩:=h;refine⟨_,(zac (zb7 (pv 0) zdk rfl)
     (zaf (zb7 (pv 0) (zc7 zad) rfl))),?_⟩
   intro hd nh;have hph:p≠hd:=zah hp nh;refine⟨_,rfl,p,_,dx,_,rfl,zal hp nh,T.zaY,T.zby,yan rfl,yan rfl,λrw nr=>?_⟩;have hpr:p≠rw:=zah zab nr;have nr1:upd H hd (.dK []) rw=none:=by rw[zag hpr.symm]at nr;exact nr
   have hhr:hd≠rw:=zah zab nr1;have nr2:H rw=none:=by rw[zag hhr.symm]at nr1;exact nr1
   refine⟨_,rfl,p,_,dx,_,rfl,zal zab nr,T.zaY,T.za6,yan rfl,?_⟩;refine q _ hd rw nh nr2 (by rw[zab];rfl) ?_ ?_ λb o e hb=>?_
   . rw[zag hph.symm,zag hhr,zag hph.symm,zab]
   . rw[zag hpr.symm,zab]
   . rw[zag hb,zag (zah e nr2),zag hb,zag (zah e nh)];exact e
theorem zdO(T:Txt K mg A F):FnOk P w K mg base (CX1 P w) 1 (F.f 12) (F.fd 12) ["self","deed","use"] (zmk A):=by
 refine T.zhG.okN zdL (λvs H Q E h=>?_) (λcdv A' outer s H vs Q E hr h=>?_)
 . obtain⟨p,hd,rw,h,r,d,w,rfl,_⟩:=h
   rfl
 . obtain⟨p,hd,rw,h,r,d,w,rfl,⟨⟨dx,hp⟩,hh,_⟩,hl,hnd,q⟩:=h;have hu:=zdT hr;refine⟨_,(zac (zsI (zgV (i:=3) 1 [1] ["other","deed"] zdL.nd rfl (by walk_at "loc") rfl (by walk_at "blk") (zsK (zas (pv 0) rfl)) (λC fp s H=>(zaS (i:=0) (show(["other","deed"]:List Str).Nodup by decide +kernel) rfl (by walk_at "loc"))) (λC fp s H=>zfM (zaw zls (pv 0) (pv 1) (zaB _))) (λC fp s H=>(pv 0))))
     (zac (zbn (zaw zb5 (pv 2) (zci rfl T.zdV) (zaB _)) (zaf (zay (pv 3))) zaP)
     (zaf (zay (zd6 1 [0] ["other","self"] rfl (by walk_at "blk") (zdz (pv 3)) (λC fp s H=>(zaS (i:=0) (show(["other","self"]:List Str).Nodup by decide +kernel) rfl (by walk_at "loc"))) (λC fp s H=>zfM (zaw zb5 (zd5 hu (zsM (K:=K) rfl (pv 1) rfl) (pv 0) (λ_ _=>rfl)) (zci rfl T.zdV) (zaB _))) (λC fp s H=>(pv 0))))))),?_⟩
   have hz:(zcv h).length<=sizeLine:=by rw[ziD,yaw];omega
   refine⟨_,rfl,p,_,dx,_,_,rfl,hp,T.zaY,T.zby,rfl,hd,_,rfl,hh,λo=>?_⟩;refine zqL (λi ys σ H2=>∃v0,σ=[v0,some (V.int d)]/\H2=upd H hd (.frz o (.dK (zcv h)))/\ys=zaD (((h.take i).filter λp=>p.1 != d).map (·.1))) ⟨none,rfl,rfl,rfl⟩ (λi ys σ H2 ⟨_,_,e,hy⟩=>⟨by rw[e,zab],?_⟩) hz ?_ ?_
   . rw[hy];unfold zaD;rw[yaa,yaa];exact yaA (ybW _ _) (by rw[yaY];omega)
   . rintro i k v ys σ H2 hlt hk ⟨v0,rfl,rfl,rfl⟩;unfold zcv at hk;rw[yak]at hk;obtain⟨⟨e,we⟩,he,hke⟩:=yao.mp hk;cases hke;have e1:h.take (i+1)=h.take i++[(e,we)]:=by rw[yaD,he];rfl
     refine⟨_,rfl,_,rfl,rfl,_,rfl,?_⟩;refine zfp (e != d) (zrZ e d) ?_;by_cases hed:e=d
     . refine zaJ (by simp[hed]) (nx hlt ⟨_,rfl,rfl,?_⟩);rw[e1,ybJ];simp[hed]
     . refine zbv (by simp[hed]) ⟨_,rfl,nx hlt ⟨_,rfl,rfl,?_⟩⟩;rw[e1,ybJ];unfold zaD;simp[hed]
       rfl
   . rintro ys σ H2 ⟨v0,rfl,rfl,rfl⟩;rw[ziD,yaG];intro n hn;have hnh:H n=none:=by
       by_cases z:n=hd
       . rw[z,zab]at hn;cases hn
       . rw[zag z]at hn;exact hn
     refine⟨hd,o,zcv h,hh,zal zab hn,?_⟩;rw[zsf hh hnh];have hpn:=zal (o:=HO.lst (zaD ((h.filter λp=>p.1 != d).map (·.1)))) hp hnh;have hhn:=zal (o:=HO.lst (zaD ((h.filter λp=>p.1 != d).map (·.1)))) hh hnh;refine⟨_,rfl,rfl,_,rfl,?_⟩;rw[zhU];cases w with
     | true =>
       refine⟨_,rfl,q _ n hnh (Same.zaq hnh) ?_⟩;rw[zab];unfold hind;simp
     | false =>
       have hlen:(zaD ((h.filter λp=>p.1 != d).map (·.1))).length<=1000:=by
         unfold zaD;rw[yaa,yaa];exact yaA (ybW _ _) hl
       refine⟨_,rfl,n,rfl,⟨_,SqL.of zab⟩,?_⟩;refine zgz (xs:=zaD ((h.filter λp=>p.1 != d).map (·.1))) (λi ys σ H2=>∃v0,σ=[v0,some (V.ref p)]/\H2=upd H n (.lst (zaD ((h.filter λp=>p.1 != d).map (·.1))))/\ys=zaD ((((h.filter λp=>p.1 != d).take i).filter λp=>p.2).map (·.1))) ⟨none,rfl,rfl,rfl⟩ (λi ys σ H2 ⟨_,_,e,hy⟩=>⟨SqL.of (by rw[e,zab]),?_⟩) (by rw[yaw];omega) ?_ ?_
       . rw[hy];unfold zaD;rw[yaa,yaa];exact yaA (ybW _ _) (by rw[yaY];omega)
       . rintro i x ys σ H2 hlt hx ⟨v0,rfl,rfl,rfl⟩;unfold zaD at hx;rw[yak,yak]at hx;obtain⟨e,he,rfl⟩:=yao.mp hx;obtain⟨⟨e',we⟩,he',rfl⟩:=yao.mp he;have e1:(h.filter λp=>p.1 != d).take (i+1)=(h.filter λp=>p.1 != d).take i++[(e',we)]:=by rw[yaD,he'];rfl
         have hm:(e',we)∈h:=(ya3.mp (yaS he')).1;have dg:DGet (upd H n (.lst (zaD ((h.filter λp=>p.1 != d).map (·.1))))) hd (V.int (e':Int)) (some (V.str (useS we))):=by
          have:=DGet.k (k:=Sum.inl (e':Int)) hhn;rw[zgq,zc9 hnd hm]at this;exact this
         refine⟨_,rfl,p,_,dx,_,_,rfl,hpn,T.zaY,T.zby,rfl,_,rfl,hd,_,rfl,dg,rfl,_,rfl,?_⟩;refine zfp we (zhU we) ?_;cases we with
         | true =>
          refine⟨_,rfl,nx hlt ⟨_,rfl,rfl,?_⟩⟩;rw[e1,ybJ];unfold zaD;simp
         | false =>
          refine nx hlt ⟨_,rfl,rfl,?_⟩;rw[e1,ybJ];simp
       . rintro ys σ H2 ⟨v0,rfl,rfl,rfl⟩;have e2:(zaD ((h.filter λp=>p.1 != d).map (·.1))).length=(h.filter λp=>p.1 != d).length:=by unfold zaD;rw[yaa,yaa]
         rw[e2,yaG];intro m hm;refine q _ m ((Same.zaq hnh).free hm) ((Same.zaq hnh).upd2 hm) ?_;rw[zab,ydd];unfold hind
         congr 4
         exact yct λp _=>by simp[Bool.and_comm]
theorem zhn(T:Txt K mg A F):FnOk P w K mg base (CX1 P w) 2 (F.f 13) (F.fd 13) ["self","deed","use"] (znA A):=by
 have G_Desk_hindering:=@zdO P w K mg base A F T;refine T.zns.okN zlj (λvs H Q E h=>?_) (λcdv A' outer s H vs Q E hr h=>?_)
 . obtain⟨p,hd,rw,h,r,d,w,rfl,_⟩:=h
   rfl
 . obtain⟨p,hd,rw,h,r,d,w,rfl,D,hl,hnd,q⟩:=h;obtain⟨dx,hp⟩:=D.ob;refine⟨_,(zaf (zay (zdA zb5 (zbC zbr (by rfl) T.zkr ybP (zaa (zaA (pv 0) T.zaY T.zek G_Desk_hindering (hmr hr) T.zer .nil zaz (zaa (pv 1) (zaa (pv 2) zad))) zad)) zak (zaB _)))),?_⟩;refine⟨_,rfl,p,dx,_,rfl,hp,rfl,_,rfl,_,rfl,p,hd,rw,h,r,d,w,rfl,D,hl,hnd,λH' n _ m e=>⟨n,_,rfl,.inl (SqL.of e),rfl,?_⟩⟩;have:=q H' m;rw[<-zqi]at this;unfold zaD;rw[yaa];have e3:decide (V.int ((hind h d w).length:Int)=V.int 0)=decide ((hind h d w).length=0):=by
    have:=zqz (hind h d w).length 0;rw[show((0:Nat):Int)=0 from rfl]at this;rw[this];rfl
   rw[e3];exact this
theorem zfi(T:Txt K mg A F):FnOk P w K mg base (CX1 P w) 3 (F.f 14) (F.fd 14) ["self","deed","use"] (zk8 A):=by
 have G_Desk_lets:=@zhn P w K mg base A F T;refine T.zf8.okN zfh (λvs H Q E h=>?_) (λcdv A' outer s H vs Q E hr h=>?_)
 . obtain⟨p,hd,rw,h,r,d,w,rfl,_⟩:=h
   rfl
 . obtain⟨p,hd,rw,h,r,d,w,rfl,D,hl,hnd,q⟩:=h;have hu:=zdT hr;obtain⟨dx,hp⟩:=D.ob;obtain⟨us,hrw,tu⟩:=D.rw;have hul:us.length=r.length:=by rw[tu.length,yaa]
   refine⟨_,(zaf (zay (zpK (ztX (zt0 (zpL hu (pv 1) (zas (pv 0) rfl))) (zlp (zdA zb5 (zbC zbr (by rfl) T.zkr ybP (zaa (zas (pv 0) rfl) zad)) zak (zaB _)))) (zlp (zaA (pv 0) T.zaY T.ziv G_Desk_lets (hmr hr) T.ziW .nil zaz (zaa (pv 1) (zaa (pv 2) zad))))))),?_⟩;have dg:=DGet.k (k:=Sum.inl (d:Int)) D.hd;rw[zgq]at dg;refine⟨_,rfl,_,rfl,p,_,dx,_,_,rfl,hp,T.zaY,T.zby,rfl,hd,_,rfl,dg,_,rfl,?_⟩;have call:∀b:Bool,b=(has h d || r.isEmpty)->(if b=true then znA A [V.ref p,.int d,.str (useS w)] H Q EF else Q (.bl false) H):=λb hb=>by
    cases b with
    | true =>
     refine iteT ⟨p,hd,rw,h,r,d,w,rfl,D,hl,hnd,λH' m=>?_⟩;have:=q H' m;rw[<-hb]at this;exact this
    | false =>
     refine iteF ?_;have:=q H (Same.refl H);rw[<-hb]at this;exact this
   have e0:((look h d).map λw=>V.str (useS w)).isSome=has h d:=by
    rw[yb9,zlI]
   rw[e0];cases hh:has h d with
   | true =>
    refine iteT ⟨true,rfl,?_⟩;have t:znA A [V.ref p,.int d,.str (useS w)] H Q EF:=by simpa using call true (by rw[hh];rfl)
    exact iteT ⟨_,rfl,p,dx,_,rfl,hp,rfl,_,rfl,_,rfl,t⟩
   | false =>
    refine iteF ⟨_,rfl,p,_,dx,_,_,rfl,hp,T.zaY,T.za6,rfl,rw,_,rfl,.inl (SqL.of hrw),rfl,_,rfl,?_⟩;have e1:decide (V.int (us.length:Int)=V.int 0)=r.isEmpty:=by
     have:=zqz us.length 0;rw[show((0:Nat):Int)=0 from rfl]at this;rw[this,hul];cases r<;>rfl
    rw[e1];have:=call r.isEmpty (by rw[hh];rfl);cases hr0:r.isEmpty with
    | true =>
     rw[hr0]at this;have t:znA A [V.ref p,.int d,.str (useS w)] H Q EF:=by simpa using this
     exact iteT ⟨_,rfl,p,dx,_,rfl,hp,rfl,_,rfl,_,rfl,t⟩
    | false =>
     rw[hr0]at this;exact iteF (by simpa using this)
theorem zgk(T:Txt K mg A F):FnOk P w K mg base (CX1 P w) 3 (F.f 28) (F.fd 28) ["self"] (zmi A):=by
 have G_Desk_lets:=@zhn P w K mg base A F T;refine T.zhf.okN zge (λvs H Q E h=>?_) (λcdv A' outer s H vs Q E hr h=>?_)
 . obtain⟨p,hd,rw,h,r,rfl,_⟩:=h
   rfl
 . obtain⟨p,hd,rw,h,r,rfl,D,hl,hnd,q⟩:=h;obtain⟨dx,hp⟩:=D.ob;obtain⟨us,hrw,tu⟩:=D.rw;have hul:us.length=r.length:=by rw[tu.length,yaa]
   refine⟨_,(zaf (zay (zpK (zdA zsP (zbC zbr (by rfl) T.zkr ybP (zaa (zas (pv 0) rfl) zad)) zak (zaB _)) (zlp (zaA (pv 0) T.zaY T.ziv G_Desk_lets (hmr hr) T.ziW .nil zaz (zaa (zaT za0 (zaT zbF (zas (pv 0) rfl) zak (λ_ _=>rfl)) zak (λ_ _=>rfl)) (zaa (zaT za0 (zaT zbF (zas (pv 0) rfl) zak (λ_ _=>rfl)) zak (λ_ _=>rfl)) zad))))))),?_⟩;refine⟨_,rfl,p,_,dx,_,_,rfl,hp,T.zaY,T.za6,rfl,rw,_,rfl,.inl (SqL.of hrw),_,_,rfl,rfl,_,rfl,?_⟩;cases r with
   | nil =>
    have:us=[]:=ybt.mp hul;subst this;exact q H (Same.refl H)
   | cons x t =>
    obtain⟨d,w⟩:=x;obtain⟨v,hv,pv',rfl,hpv⟩:=zeC tu (i:=0) (y:=zcF (d,w)) rfl;have hix:atI us 0=some (V.ref pv'):=zbH (j:=0) hv;refine zbv (by rw[hul];simp) ?_;refine⟨_,rfl,p,dx,_,rfl,hp,rfl,_,rfl,p,_,dx,_,_,rfl,hp,T.zaY,T.za6,rfl,rw,_,_,_,rfl,rfl,SqL.of hrw,hix,pv',_,_,_,rfl,rfl,SqT.of hpv,rfl,
     _,rfl,p,_,dx,_,_,rfl,hp,T.zaY,T.za6,rfl,rw,_,_,_,rfl,rfl,SqL.of hrw,hix,pv',_,_,_,rfl,rfl,SqT.of hpv,rfl,p,hd,rw,h,_,d,w,rfl,D,hl,hnd,q⟩
theorem zlz(T:Txt K mg A F):FnOk P w K mg base (CX1 P w) 1 (F.f 15) (F.fd 15) ["self","deed","use"] (ztB A):=by
 refine T.znr.okN zli (λvs H Q E h=>?_) (λcdv A' outer s H vs Q E hr h=>?_)
 . obtain⟨p,hd,rw,h,r,d,w,rfl,_⟩:=h
   rfl
 . obtain⟨p,hd,rw,h,r,d,w,rfl,D,hl,hnd,q⟩:=h;have hu:=zdT hr;obtain⟨dx,hp⟩:=D.ob;refine⟨_,(zaf (zbn (zaw zls (zrm hu (zas (pv 0) rfl) (pv 1) ⟨rfl,rfl,rfl,rfl⟩) (zci rfl T.zdV) (zaB _)) (zaf (zfN hu (zas (pv 0) rfl) (pv 1) (pv 2) rfl)) zaP)),?_⟩;have dg:=DGet.k (k:=Sum.inl (d:Int)) D.hd;rw[zgq]at dg;refine⟨_,rfl,p,_,dx,_,_,rfl,hp,T.zaY,T.zby,rfl,hd,rfl,.inl ⟨_,.of D.hd⟩,_,rfl,_,dg,?_⟩;have put:take1 h d w=zbg h d w->tSeq (ztQ (tFld K (tVar 0) "held") (tVar 1) (tVar 2)) zsk { nx:=λ_ H'=>Q .non H',rt:=Q } [some (V.ref p),some (V.int d),some (V.str (useS w))] H:=λe=>by
    refine⟨_,rfl,_,rfl,p,_,dx,_,_,rfl,hp,T.zaY,T.zby,rfl,_,rfl,hd,_,rfl,DPut.k (k:=Sum.inl (d:Int)) D.hd (by rw[ziD,yaw];omega),?_⟩;refine q _ ?_ λb o e hb=>by rw[zag hb];exact e
    rw[zab,zrB,e]
   cases hk:look h d with
   | none =>
    refine⟨rfl,_,rfl,?_⟩;exact put (by unfold take1;rw[hk];simp)
   | some wh =>
    refine⟨rfl,_,rfl,?_⟩;cases wh with
    | true =>
     refine q H ?_ λb o e _=>e;unfold take1;rw[hk,yaj rfl];exact D.hd
    | false=>exact put (by unfold take1;rw[hk];simp)
theorem ziq(T:Txt K mg A F):FnOk P w K mg base (CX1 P w) 1 (F.f 18) (F.fd 18) ["self","deed","use"] (zq4 A):=by
 refine T.zjs.okN zh3 (λvs H Q E h=>?_) (λcdv A' outer s H vs Q E hr h=>?_)
 . obtain⟨p,hd,rw,h,r,d,w,rfl,_⟩:=h
   rfl
 . obtain⟨p,hd,rw,h,r,d,w,rfl,D,hl,q⟩:=h;have hu:=zdT hr;obtain⟨dx,hp⟩:=D.ob;obtain⟨us,hrw,tu⟩:=D.rw;have hul:us.length=r.length:=by rw[tu.length,yaa]
   refine⟨_,(zaf (zbn (zgg (zpL hu (pv 1) (zas (pv 0) rfl))) (zaf (zaI (zet yaF PySem.F.slot_list_insert PySem.F.type_list_insert zpZ (zas (pv 0) rfl) (zaa zak (zaa (za4 (zaa (pv 1) (zaa (pv 2) zad))) zad))))) (zaf (zaI (zet yaF yaQ yaR zbw (zas (pv 0) rfl) (zaa (za4 (zaa (pv 1) (zaa (pv 2) zad))) zad)))))),?_⟩;have dg:=DGet.k (k:=Sum.inl (d:Int)) D.hd;rw[zgq]at dg;refine⟨_,rfl,_,rfl,p,_,dx,_,_,rfl,hp,T.zaY,T.zby,rfl,hd,_,rfl,dg,_,rfl,?_⟩;rw[yb9,zlI];have z2:([V.int (d:Int),V.str (useS w)]:List V).length<=sizeLine:=sz2;have fin:∀(n:Addr) (us':List V),H n=none->zap (upd H n (.tup (zcF (d,w)))) us' ((zrv h r d w).map zcF)->Q .non (upd (upd H n (.tup (zcF (d,w)))) rw (.lst us')):=λn us' hn t=>by
    have hrn:=zal (o:=HO.tup (zcF (d,w))) hrw hn;refine q _ us' zab ?_ λb o e hb=>?_
    . have:∀{vs:List V} {xss:List (List V)},zap (upd H n (.tup (zcF (d,w)))) vs xss->zap (upd (upd H n (.tup (zcF (d,w)))) rw (.lst us')) vs xss:=λt=>by
       induction t with
       | nil=>exact .nil
       | cons r0 _ ih =>
        obtain⟨p0,e0,q0⟩:=r0;exact .cons ⟨p0,e0,by rw[zag (zbj q0 hrn (λz=>nomatch z))];exact q0⟩ ih
      exact this t
    . rw[zag hb,zag (zah e hn)];exact e
   have tn:∀n,H n=none->zap (upd H n (.tup (zcF (d,w)))) us (r.map zcF):=λn hn=>zaE (Same.zaq hn) tu;cases hh:has h d with
   | true =>
    refine iteT ⟨_,rfl,p,_,dx,_,_,rfl,hp,T.zaY,T.za6,rfl,.inl ⟨rfl,_,SqL.of hrw⟩,_,rfl,_,rfl,z2,λn hn=>⟨rw,us,_,rfl,rfl,zal hrw hn,by rw[hul,yaw];omega,?_⟩⟩;refine fin n _ hn ?_;unfold zrv;rw[hh];exact .cons ⟨n,rfl,zab⟩ (tn n hn)
   | false =>
    refine iteF ⟨_,rfl,p,_,dx,_,_,rfl,hp,T.zaY,T.za6,rfl,.inl ⟨rfl,_,SqL.of hrw⟩,_,rfl,_,rfl,z2,λn hn=>⟨rw,us,_,rfl,rfl,zal hrw hn,by rw[hul,yaw];omega,?_⟩⟩;refine fin n _ hn ?_;unfold zrv;rw[hh];simp only[yaX,ybV,yav];exact S6.zbS (tn n hn) ⟨n,rfl,zab⟩
theorem zkl(T:Txt K mg A F):FnOk P w K mg base (CX1 P w) 1 (F.f 27) (F.fd 27) ["self","deed"] (zst A):=by
 refine T.zme.okN zka (λvs H Q E h=>?_) (λcdv A' outer s H vs Q E hr h=>?_)
 . obtain⟨p,hd,rw,dx,h,r,d,rfl,_⟩:=h
   rfl
 . obtain⟨p,hd,rw,dx,h,r,d,rfl,D,hp,hl,q⟩:=h;obtain⟨us,hrw,tu⟩:=D.rw;have hul:us.length=r.length:=by rw[tu.length,yaa]
   refine⟨_,(zac (zaI (zki (zas (pv 0) rfl) (pv 1) zgj ⟨rfl,rfl,rfl,rfl⟩))
     (zaf (zb7 (pv 0) (zd6 1 [1] ["pair","deed"] rfl (by walk_at "blk") (zdz (zas (pv 0) rfl)) (λC fp s H=>(zaS (i:=0) (show(["pair","deed"]:List Str).Nodup by decide +kernel) rfl (by walk_at "loc"))) (λC fp s H=>zfM (zaw zls (zaT (zeW (K:=K) rfl) (pv 0) zak (λ_ _=>rfl)) (pv 1) (zaB _))) (λC fp s H=>(pv 0))) rfl))),?_⟩
   have go:∀H1:Hp,H1 hd=some (.dK (zcv (less h d)))->(∀b o,H b=some o->b≠hd->H1 b=some o)->(∀b,H b=none->H1 b=none)->H1 p=some (.ins A.zcz dx (zji hd rw))->H1 rw=some (.lst us)->zap H1 us (r.map zcF) ->
       sFld K (tVar 0) (zsm 1 [1] (zud K (tFld K (tVar 0) "row")) (zqu 0) (zsi (tOp rNe (tOp (rIxT K) (tVar 0) (tC (.int 0))) (tVar 1))) (tVar 0)) "row" { nx:=λ_ H'=>Q .non H',rt:=Q } [some (V.ref p),some (V.int d)] H1:=λH1 h1 k1 k0 hp1 hr1 t1=>by
     refine⟨_,rfl,p,_,dx,_,_,rfl,hp1,T.zaY,T.za6,rfl,rw,rfl,⟨_,SqL.of hr1⟩,?_⟩;refine zgz (xs:=us) (λi ys σ H2=>∃v0,σ=[v0,some (V.int d)]/\H2=H1/\ys.length<=i/\zap H1 ys ((less (r.take i) d).map zcF)) ⟨none,rfl,rfl,yaf _,.nil⟩ (λi ys σ H2 ⟨_,_,e,hy,_⟩=>⟨SqL.of (by rw[e];exact hr1),hy⟩) (by rw[hul,yaw];omega) ?_ ?_
     . rintro i x ys σ H2 hlt hx ⟨v0,rfl,rfl,hy,t⟩;obtain⟨y,hy1,n,rfl,hn1⟩:=zbU t1 hx;rw[yak]at hy1;obtain⟨⟨e,we⟩,he,rfl⟩:=yao.mp hy1;have e1:r.take (i+1)=r.take i++[(e,we)]:=by rw[yaD,he];rfl
       refine⟨_,rfl,n,_,_,_,rfl,rfl,SqT.of hn1,rfl,_,rfl,rfl,_,rfl,?_⟩;refine zfp (e != d) (zrZ e d) ?_;by_cases hed:e=d
       . refine zaJ (by simp[hed]) (nx hlt ⟨_,rfl,rfl,by omega,?_⟩);rw[e1];unfold less;rw[ybJ];simp[hed];exact t
       . refine zbv (by simp[hed]) ⟨_,rfl,nx hlt ⟨_,rfl,rfl,by rw[yah,yaE];omega,?_⟩⟩;rw[e1];unfold less;rw[ybJ,yav];have:([(e,we)]:List (Nat×Bool)).filter (λp=>p.1 != d)=[(e,we)]:=by simp[hed]
         rw[this];exact S6.zbS t ⟨n,rfl,hn1⟩
     . rintro ys σ H2 ⟨v0,rfl,rfl,hy,t⟩;rw[hul,yaG]at t;intro n hn;have hnp:p≠n:=zah hp1 hn;refine⟨_,rfl,p,_,dx,_,rfl,zal hp1 hn,T.zaY,T.za6,yan rfl,?_⟩;have hHn:H n=none:=by
         cases e:H n with
         | none=>rfl
         | some o =>
          by_cases z:n=hd
          . rw[z,h1]at hn;cases hn
          . rw[k1 n o e z]at hn;cases hn
       have hhp:hd≠p:=zbj h1 hp1 (λz=>nomatch z);refine q _ n ys hHn (by rw[zab];rfl) ?_ ?_ ?_ λb o e hb hbh=>?_
       . rw[zag hhp,zag (zah h1 hn)];exact h1
       . rw[zag hnp.symm,zab]
       . have:∀{vs:List V} {xss:List (List V)},zap H2 vs xss->zap (upd (upd H2 n (.lst ys)) p (.ins A.zcz dx (zji hd n))) vs xss:=λt=>by
          induction t with
          | nil=>exact .nil
          | cons r0 _ ih =>
            obtain⟨p0,e0,q0⟩:=r0;exact .cons ⟨p0,e0,by rw[zag (zbj q0 hp1 (λz=>nomatch z)),zag (zah q0 hn)];exact q0⟩ ih
         exact this t
       . rw[zag hb,zag (zah e hHn)];exact k1 b o e hbh
   have tup1:∀o,zap (upd H hd (.dK o)) us (r.map zcF):=λo=>by
     have:∀{vs:List V} {xss:List (List V)},zap H vs xss->zap (upd H hd (.dK o)) vs xss:=λt=>by
       induction t with
       | nil=>exact .nil
       | cons r0 _ ih =>
         obtain⟨p0,e0,q0⟩:=r0;exact .cons ⟨p0,e0,by rw[zag (zbj q0 D.hd (λz=>nomatch z))];exact q0⟩ ih
     exact this tu
   refine⟨_,rfl,p,_,dx,_,_,rfl,hp,T.zaY,T.zby,rfl,hd,rfl,.inl ⟨_,.of D.hd⟩,_,rfl,_,Sum.inl (d:Int),D.hd,rfl,λv hv=>?_,λhv=>?_⟩
   . rw[zqk];refine go _ zab (λb o e hb=>by rw[zag hb];exact e) (λb e=>by rw[zag λz=>by rw[z,D.hd]at e;cases e];exact e) ?_ ?_ (tup1 _)
     . rw[zag (zbj hp D.hd (λz=>nomatch z))];exact hp
     . rw[zag (zbj hrw D.hd (λz=>nomatch z))];exact hrw
   . rw[zgq]at hv;have hn:look h d=none:=by simpa using hv
     exact go H (by rw[less_none hn];exact D.hd) (λb o e _=>e) (λb e=>e) hp hrw tu
theorem zd8(T:Txt K mg A F):FnOk P w K mg base (CX1 P w) 2 (F.f 19) (F.fd 19) ["self","deed","use"] (zk7 A):=by
 have G_Desk_hindering:=@zdO P w K mg base A F T;refine T.zez.okN zcs (λvs H Q E h=>?_) (λcdv A' outer s H vs Q E hr h=>?_)
 . obtain⟨p,hd,rw,h,r,d,w,rfl,_⟩:=h
   rfl
 . obtain⟨p,hd,rw,h,r,d,w,rfl,D,hl,hnd,hlr,hm,hrn,q⟩:=h;have hu64:=hu64 hr;obtain⟨dx,hp⟩:=D.ob;obtain⟨us,hrw,tu⟩:=D.rw;have hul:us.length=r.length:=by rw[tu.length,yaa]
   refine⟨_,(zac (zaL (i:=3) zcs.nd rfl (by walk_at "loc") (zet yaF PySem.F.slot_list_index PySem.F.type_list_index (zrq hu64) (zas (pv 0) rfl) (zaa (za4 (zaa (pv 1) (zaa (pv 2) zad))) zad)))
     (zac (zbn (zaw zsP (pv 3) zak (zaB _)) (zaf (zay (zc7 (zaa (zaT za0 (zaT zbF (zas (pv 0) rfl) (zbQ zrW (pv 3) zak) (λ_ _=>rfl)) zak (λ_ _=>rfl)) zad)))) zaP)
     (zaf (zay (zaA (pv 0) T.zaY T.zek G_Desk_hindering (hmr hr) T.zer .nil zaz (zaa (pv 1) (zaa (pv 2) zad))))))),?_⟩
   obtain⟨post,er,hall⟩:=zj6 hrn hm;have z2:([V.int (d:Int),V.str (useS w)]:List V).length<=sizeLine:=sz2;refine⟨_,rfl,p,_,dx,_,_,rfl,hp,T.zaY,T.za6,rfl,.inl ⟨rfl,_,SqL.of hrw⟩,_,rfl,_,rfl,z2,λn hn=>?_⟩;have dv:DVs (upd H n (.tup [V.int (d:Int),V.str (useS w)])) us (r.map λp=>.tuple [.int p.1,.str (useS p.2)]):=znI (zaE (Same.zaq hn) tu);refine⟨rw,us,_,_,_,(ahead r d).length,rfl,rfl,zal hrw hn,dv,.tup zab (.cons (.int _) (.cons (.str _) .nil)),λe he=>?_,zpN _ _,⟨?_,λm hm' e he=>?_⟩,?_⟩
   . obtain⟨x,_,rfl⟩:=yap.mp he;exact zpN _ _
   . have:r[(ahead r d).length]?=some (d,w):=by
      have e2:(ahead r d++(d,w)::post)[(ahead r d).length]?=some (d,w):=by rw[ybT (yaf _)];simp
      rw[<-er]at e2;exact e2
     rw[yak,this];rfl
   . rw[yak]at he;obtain⟨x,hx,rfl⟩:=yao.mp he;have hx2:x∈ahead r d:=by
      have e2:(ahead r d++(d,w)::post)[m]?=(ahead r d)[m]?:=ybC hm';rw[<-er,hx]at e2;exact yaS e2.symm
     intro z;injection z with z
     injection z with z1 _
     injection z1 with z1
     exact hall x hx2 (by omega)
   . have m0:Same H (upd H n (.tup [V.int (d:Int),V.str (useS w)])):=Same.zaq hn;have D1:=D.same m0;refine⟨_,rfl,_,_,rfl,rfl,_,rfl,?_⟩;cases hg:(ahead r d).getLast? with
     | none =>
      have h0:ahead r d=[]:=ycz.mp hg;refine zaJ (by rw[h0];rfl) ?_;refine⟨_,rfl,p,dx,_,rfl,m0 _ _ hp,rfl,_,rfl,_,rfl,p,hd,rw,h,r,d,w,rfl,D1,hl,hnd,λH' x nf m e=>q H' x (m0.free nf) (m0.trans m) ?_⟩;unfold zkm;rw[hg];exact e
     | some x =>
      have hne:ahead r d≠[]:=by intro z;rw[z]at hg;cases hg
      have hlen:0 < (ahead r d).length:=List.length_pos_iff.mpr hne;have hix:r[(ahead r d).length - 1]?=some x:=by
       have e2:(ahead r d++(d,w)::post)[(ahead r d).length - 1]?=(ahead r d)[(ahead r d).length - 1]?:=ybC (by omega);rw[<-er]at e2;rw[e2,<-List.getLast?_eq_getElem?];exact hg
      obtain⟨v,hv,px,rfl,hpx⟩:=zeC (zaE m0 tu) (i:=(ahead r d).length - 1) (y:=zcF x) (by rw[yak,hix];rfl);have hat:atI us (((ahead r d).length:Int) - 1)=some (V.ref px):=by
       have:=zbH hv;rw[show(((ahead r d).length - 1:Nat):Int)=((ahead r d).length:Int) - 1 by omega]at this;exact this
      refine zbv (by simpa using hlen) ?_;refine⟨_,rfl,p,_,dx,_,_,rfl,m0 _ _ hp,T.zaY,T.za6,rfl,_,rfl,_,_,rfl,rfl,rw,_,_,_,rfl,rfl,SqL.of (m0 _ _ hrw),hat,px,_,_,_,rfl,rfl,SqT.of hpx,rfl,sz1,λm hm=>?_⟩;refine q _ m (m0.free hm) (m0.upd2 hm) ?_;rw[zab];unfold zkm;rw[hg];rfl
theorem zhl(T:Txt K mg A F):FnOk P w K mg base (CX1 P w) 1 (F.f 0) (F.fd 0) ["self"] (zol A):=by
 refine T.znp.okN zlg (λvs H Q E h=>?_) (λcdv A' outer s H vs Q E hr h=>?_)
 . obtain⟨p,dx,rfl,_⟩:=h
   rfl
 . obtain⟨p,dx,rfl,hp,q⟩:=h;refine⟨_,(zac (zb7 (pv 0) (zc7 zad) rfl)
    (zac (zb7 (pv 0) zdk rfl)
    (zac (zb7 (pv 0) zdk rfl)
    (zac (zb7 (pv 0) zdk rfl)
    (zac (zb7 (pv 0) (zc7 zad) rfl)
    (zaf (zb7 (pv 0) (zc7 zad) rfl))))))),?_⟩
   refine⟨yan rfl,λp1 n1=>⟨_,rfl,p,_,dx,_,rfl,zal hp n1,T.zaj,T.zaF,yan rfl,λp2 n2=>⟨_,rfl,p,_,dx,_,rfl,zal zab n2,T.zaj,T.zbE,yan rfl,λp3 n3=>⟨_,rfl,p,_,dx,_,rfl,zal zab n3,T.zaj,T.zbm,yan rfl,λp4 n4=>⟨_,rfl,p,_,dx,_,rfl,zal zab n4,T.zaj,T.zbd,yan rfl,yan rfl,λp5 n5=>⟨_,rfl,p,_,dx,_,rfl,zal zab n5,T.zaj,T.zcu,yan rfl,yan rfl,λp6 n6=>⟨_,rfl,p,_,dx,_,rfl,zal zab n6,T.zaj,T.zcp,yan rfl,?_⟩⟩⟩⟩⟩⟩⟩;obtain⟨a1,b1,c1,d1⟩:=two (o:=.lst []) (o':=.ins A.zaW dx (putF "records" (.ref p1) [])) hp n1;generalize upd (upd H p1 (.lst [])) p (.ins A.zaW dx (putF "records" (.ref p1) []))=H1 at *;obtain⟨a2,b2,c2,d2⟩:=two (o:=.dK []) (o':=.ins A.zaW dx (putF "desks" (.ref p2) (putF "records" (.ref p1) []))) a1 n2;generalize upd (upd H1 p2 (.dK [])) p (.ins A.zaW dx (putF "desks" (.ref p2) (putF "records" (.ref p1) [])))=H2 at *;obtain⟨a3,b3,c3,d3⟩:=two (o:=.dK []) (o':=.ins A.zaW dx (putF "standing" (.ref p3) (putF "desks" (.ref p2) (putF "records" (.ref p1) [])))) a2 n3;generalize upd (upd H2 p3 (.dK [])) p (.ins A.zaW dx (putF "standing" (.ref p3) (putF "desks" (.ref p2) (putF "records" (.ref p1) []))))=H3 at *;obtain⟨a4,b4,c4,d4⟩:=two (o:=.dK []) (o':=.ins A.zaW dx (putF "kept_values" (.ref p4) (putF "standing" (.ref p3) (putF "desks" (.ref p2) (putF "records" (.ref p1) []))))) a3 n4;generalize upd (upd H3 p4 (.dK [])) p (.ins A.zaW dx (putF "kept_values" (.ref p4) (putF "standing" (.ref p3) (putF "desks" (.ref p2) (putF "records" (.ref p1) [])))))=H4 at *;obtain⟨a5,b5,c5,d5⟩:=two (o:=.lst []) (o':=.ins A.zaW dx (putF "kept_deeds" (.ref p5) (putF "kept_values" (.ref p4) (putF "standing" (.ref p3) (putF "desks" (.ref p2) (putF "records" (.ref p1) [])))))) a4 n5;generalize upd (upd H4 p5 (.lst [])) p (.ins A.zaW dx (putF "kept_deeds" (.ref p5) (putF "kept_values" (.ref p4) (putF "standing" (.ref p3) (putF "desks" (.ref p2) (putF "records" (.ref p1) []))))))=H5 at *;obtain⟨a6,b6,c6,d6⟩:=two (o:=.lst []) (o':=.ins A.zaW dx (putF "rows" (.ref p6) (putF "kept_deeds" (.ref p5) (putF "kept_values" (.ref p4) (putF "standing" (.ref p3) (putF "desks" (.ref p2) (putF "records" (.ref p1) []))))))) a5 n6;generalize upd (upd H5 p6 (.lst [])) p (.ins A.zaW dx (putF "rows" (.ref p6) (putF "kept_deeds" (.ref p5) (putF "kept_values" (.ref p4) (putF "standing" (.ref p3) (putF "desks" (.ref p2) (putF "records" (.ref p1) [])))))))=H6 at *;have q1:p1≠p:=λz=>by rw[z,hp]at n1;cases n1
   obtain⟨m21,k21,q2⟩:=d1 p2 n2;obtain⟨m32,k32,q3⟩:=d2 p3 n3;obtain⟨m31,k31,_⟩:=d1 p3 m32;obtain⟨m43,k43,q4⟩:=d3 p4 n4;obtain⟨m42,k42,_⟩:=d2 p4 m43;obtain⟨m41,k41,_⟩:=d1 p4 m42;obtain⟨m54,k54,q5⟩:=d4 p5 n5;obtain⟨m53,k53,_⟩:=d3 p5 m54;obtain⟨m52,k52,_⟩:=d2 p5 m53;obtain⟨m51,k51,_⟩:=d1 p5 m52;obtain⟨m65,k65,q6⟩:=d5 p6 n6;obtain⟨m64,k64,_⟩:=d4 p6 m65;obtain⟨m63,k63,_⟩:=d3 p6 m64;obtain⟨m62,k62,_⟩:=d2 p6 m63;obtain⟨m61,k61,_⟩:=d1 p6 m62;have e1:=c6 _ _ q1 (c5 _ _ q1 (c4 _ _ q1 (c3 _ _ q1 (c2 _ _ q1 b1))));have e2:=c6 _ _ q2 (c5 _ _ q2 (c4 _ _ q2 (c3 _ _ q2 b2)));have e3:=c6 _ _ q3 (c5 _ _ q3 (c4 _ _ q3 b3));have e4:=c6 _ _ q4 (c5 _ _ q4 b4);have e5:=c6 _ _ q5 b5;have kp:∀b o,H b=some o->b≠p->H6 b=some o:=λb o e hb=>c6 _ _ hb (c5 _ _ hb (c4 _ _ hb (c3 _ _ hb (c2 _ _ hb (c1 _ _ hb e)))));have ne:∀b,b≠p->H b=none->(λb=>if b=p then none else H b) b=none:=λb hb e=>by
    show(if b=p then none else H b)=none;rw[yai hb];exact e
   obtain⟨ρ,ad,h1,h2,h3⟩:=zai.fresh (A:=A) (H:=λb=>if b=p then none else H b) (H':=H6) (a:=p) (dx:=dx) (p1:=p1) (p2:=p2) (p3:=p3) (p4:=p4) (p5:=p5) (p6:=p6) (yaj rfl) (ne _ q1 n1) (ne _ q2 m21) (ne _ q3 m31) (ne _ q4 m41) (ne _ q5 m51) (ne _ q6 m61) a6 e1 e2 e3 e4 e5 b6 (ybn k51) (ybn k61) (ybn k65) (ybn k32) (ybn k42) (ybn k43) (λb o e=>by
    by_cases z:b=p
    . have e:(if b=p then none else H b)=some o:=e;rw[yaj z]at e;cases e
    . have e:(if b=p then none else H b)=some o:=e;rw[yai z]at e;exact kp b o e z)
   exact q H6 ρ ad h1 h2 λb o e hb=>⟨kp b o e hb,h3 b o (by show(if b=p then none else H b)=some o;rw[yai hb];exact e)⟩
theorem zcV(T:Txt K mg A F):FnOk P w K mg base (CX1 P w) 3 (F.f 7) (F.fd 7) ["self"] (zsv A):=by
 have G_Record_init:=@zja P w K mg base A F T;refine T.zmd.okN zgd (λvs H Q E h=>?_) (λcdv A' outer s H vs Q E hr h=>?_)
 . obtain⟨ρ,ad,s,kv,rfl,_⟩:=h
   rfl
 . obtain⟨ρ,ad,s,kv,rfl,hh,sm,hn,q⟩:=h;obtain⟨dx,hp⟩:=hh.hall;refine⟨_,(zac (zaL (i:=1) zgd.nd rfl (by walk_at "loc") (zbC zbr (by rfl) T.zkr ybP (zaa (zas (pv 0) rfl) zad)))
    (zac (zaI (zet yaF yaQ yaR zbw (zas (pv 0) rfl) (zaa (zhL T.zp1 G_Record_init (hmr hr) rfl T.zrF T.zkM .nil zaz) zad)))
    (zac (zaI (zet yaF yaQ yaR zbw (zas (pv 0) rfl) (zaa (za4 (zaa (zci rfl T.zmY) (zaa (pv 1) zad))) zad)))
    (zaf (zay (pv 1)))))),?_⟩
   have hl:((List.range s.n).map λi=>V.ref (ad (.rcd i))).length=s.n:=by rw[yaa,ya6]
   refine⟨_,rfl,_,_,dx,_,_,rfl,hp,T.zaj,T.zaF,rfl,ad .recs,_,rfl,.inl (SqL.of hh.recs),?_⟩;rw[hl];refine⟨_,rfl,_,_,dx,_,_,rfl,hp,T.zaj,T.zaF,rfl,.inl ⟨rfl,_,SqL.of hh.recs⟩,λx dx2 nx ndx nex=>⟨x,dx2,rfl,zab,λH1 d nd e1 e2 kp=>⟨rfl,?_⟩⟩⟩;have s0:Same H (upd (upd H dx2 (.own x)) x (.ins A.zaG dx2 [])):=(Same.zaq ndx).upd2 (by rw[zag nex.symm];exact nx);have s1:Same H H1:=λb o e=>kp b o (s0 b o e) (zah e nx);refine⟨ad .recs,_,_,rfl,rfl,s1 _ _ hh.recs,by rw[hl,yaw];omega,?_⟩;have hdx:x≠ad .recs:=(zah hh.recs nx).symm;have hdd:d≠ad .recs:=(zah (s0 _ _ hh.recs) nd).symm;obtain⟨ρ',ad',ea,h2,f2⟩:=hh.addRec (H':=upd H1 (ad .recs) (.lst (((List.range s.n).map λi=>V.ref (ad (.rcd i)))++[.ref x]))) T.ok (p:=x) (d:=d) (dx:=dx2) nx (by
     cases e:H d with
     | none=>rfl
     | some o=>rw[s0 d o e]at nd;cases nd) zab (by rw[zag hdx];exact e1) (by rw[zag hdd];exact e2) (λb o e hb=>by rw[zag hb];exact s1 b o e)
   obtain⟨dx3,hp3⟩:=h2.hall;obtain⟨us,hus,tus⟩:=h2.rows;have hul:us.length=s.log.length:=by rw[tus.length,yaa]
   rw[<-ea];refine⟨_,rfl,_,_,dx3,_,_,rfl,hp3,T.zaj,T.zcp,rfl,.inl ⟨rfl,_,SqL.of hus⟩,_,rfl,sz2,λn nn=>⟨ad' .rows,_,_,rfl,rfl,zal hus nn,by have:=sm.lg;rw[hul,yaw];omega,_,rfl,?_⟩⟩;have h3:=h2.grow (H':=upd _ n (.tup [V.str "begin",V.int (s.n:Int)])) (Same.zaq nn);obtain⟨h4,f4⟩:=h3.zob (H':=upd (upd _ n (.tup [V.str "begin",V.int (s.n:Int)])) (ad' .rows) (.lst (us++[.ref n]))) T.ok (row:=.begin s.n) (zal hus nn) zab (λb o e hb=>by rw[zag hb];exact e) ⟨n,rfl,by rw[zag (zah hus nn).symm,zab];rfl⟩;exact q _ ρ' ad' ea h4 ((f2.trans (Frame.grow (Same.zaq nn))).trans f4)
theorem zbZ(T:Txt K mg A F):FnOk P w K mg base (CX1 P w) 2 (F.f 9) (F.fd 9) ["self","deed"] (zoj A):=by
 have G_is_whole:=@zmF P w K mg base A F T;refine T.zhC.okX zgJ (λvs H Q E h=>?_) (λcdv A' outer s H vs Q E hr h=>?_)
 . obtain⟨ρ,ad,s,kv,i,rfl,_⟩:=h
   rfl
 . obtain⟨ρ,ad,s,kv,i,rfl,hh,hn,q⟩:=h;obtain⟨dx,hp⟩:=hh.hall;refine⟨_,(zac (zbn (PW.pt (zi6 (zrU (zlm (zaN G_is_whole (hmr hr) rfl T.zoL T.zoD T.zoT .nil zaz (zaa (pv 1) zad)))) (zi6 (zaw zmD (pv 1) zak (zaB _)) (zib (zaw zuS (pv 1) (zbC zbr (by rfl) T.zkr ybP (zaa (zas (pv 0) rfl) zad)) (zaB _)))))) (zaf (zke zia rfl rfl T.zrG T.zqZ ycx (zaa zaQ zad))) zaP)
    (zaf (zay (zaT zbF (zas (pv 0) rfl) (pv 1) (λ_ _=>rfl))))),?_⟩
   have hl:((List.range s.n).map λi=>V.ref (ad (.rcd i))).length=s.n:=by rw[yaa,ya6]
   refine⟨_,rfl,i,rfl,_,rfl,?_⟩;refine⟨_,rfl,_,_,rfl,rfl,_,rfl,?_⟩;have bad:Out A s i H E->zpi A.ziQ E (zq2 (tC (.str "there is no deed with this number")) tNil) { nx:=λσ H'=>tRet (tOp (rIxL K) (tFld K (tVar 0) "records") (tVar 1)) { nx:=λ_ H'=>Q .non H',rt:=Q } σ H',rt:=Q } [some (.ref (ad .hall)),some (.int i)] H:=λo=>⟨yan rfl,o.2⟩
   have last:(if decide ((s.n:Int)<=i)=true then Out A s i H E else ∃d:Nat,i=d/\d < s.n/\Q (.ref (ad (.rcd d))) H)->zsi (tOp (rI0 λi j=>.bl (decide (j<=i))) (tVar 1) (tCB (λxs H Q=>∃p ys,xs=[.ref p]/\(SqL K H p ys\/SqT K H p ys)/\Q (.int ys.length) H) (zq2 (tFld K (tVar 0) "records") tNil))) [some (.ref (ad .hall)),some (.int i)] H λc H1=>if c=true then zpi A.ziQ E (zq2 (tC (.str "there is no deed with this number")) tNil) { nx:=λσ H'=>tRet (tOp (rIxL K) (tFld K (tVar 0) "records") (tVar 1)) { nx:=λ_ H'=>Q .non H',rt:=Q } σ H',rt:=Q } [some (.ref (ad .hall)),some (.int i)] H1 else zsk { nx:=λσ H'=>tRet (tOp (rIxL K) (tFld K (tVar 0) "records") (tVar 1)) { nx:=λ_ H'=>Q .non H',rt:=Q } σ H',rt:=Q } [some (.ref (ad .hall)),some (.int i)] H1:=λo=>by
    refine⟨_,rfl,_,rfl,_,_,dx,_,_,rfl,hp,T.zaj,T.zaF,rfl,ad .recs,_,rfl,.inl (SqL.of hh.recs),_,_,rfl,rfl,_,rfl,?_⟩;rw[hl];cases hb:decide ((s.n:Int)<=i) with
    | true=>rw[hb]at o;exact iteT (bad (by simpa using o))
    | false =>
      rw[hb]at o;obtain⟨d,rfl,hd,z⟩:∃d:Nat,i=d/\d < s.n/\Q (.ref (ad (.rcd d))) H:=by simpa using o
      exact iteF ⟨_,rfl,_,_,dx,_,_,rfl,hp,T.zaj,T.zaF,rfl,_,rfl,ad .recs,_,_,_,rfl,rfl,SqL.of hh.recs,zbH (hh.zgf hd),z⟩
   cases hb:decide (i < 0) with
   | true =>
    refine iteT (bad ?_);rcases q with ⟨d,rfl,hd,z⟩ | o
    . simp at hb;omega
    . exact o
   | false =>
    refine iteF (last ?_);have hi:¬i < 0:=by simpa using hb
    rcases q with ⟨d,rfl,hd,z⟩ | o
    . exact zaJ (yay (by omega)) ⟨d,rfl,hd,z⟩
    . exact zbv (yaz (o.1.resolve_left hi)) o
theorem zbb(T:Txt K mg A F):FnOk P w K mg base (CX1 P w) 3 (F.f 10) (F.fd 10) ["self","deed"] (zq3 A):=by
 have G_Hall_record_of:=@zbZ P w K mg base A F T;refine T.zdg.okX zc4 (λvs H Q E h=>?_) (λcdv A' outer s H vs Q E hr h=>?_)
 . obtain⟨ρ,ad,s,kv,i,rfl,_⟩:=h
   rfl
 . obtain⟨ρ,ad,s,kv,i,rfl,hh,hn,q⟩:=h;obtain⟨dx,hp⟩:=hh.hall;refine⟨_,(zaf (zbn (zaw zls (zas (zaA (pv 0) T.zaj T.zcd G_Hall_record_of (hmr hr) T.zcf .nil zbR (zaa (pv 1) zad)) rfl) (zci rfl T.zmX) (zaB _)) (zaf (zke zia rfl rfl T.zg6 T.zjt ycx (zaa zaQ zad))) zaP)),?_⟩;refine⟨_,rfl,_,dx,_,rfl,hp,rfl,_,rfl,ρ,ad,s,kv,i,rfl,hh,hn,?_⟩;rcases q with ⟨d,rfl,hd,q⟩ | o
   . obtain⟨dr,wv,hr1,_⟩:=hh.rcd hd;refine .inl ⟨d,rfl,hd,_,_,dr,_,_,rfl,hr1,T.zax,T.zaC,rfl,rfl,_,rfl,?_⟩;rcases q with ⟨hs,q⟩ | ⟨hs,q⟩
     . refine zaJ ?_ q;rw[hs];rfl
     . refine zbv ?_ ⟨yan rfl,q⟩;cases hst:(s.deed d).st with
       | zar=>exact absurd hst hs
       | waiting=>rfl
       | kept=>rfl
       | dropped=>rfl
   . exact .inr o
theorem zdN(T:Txt K mg A F):FnOk P w K mg base (CX1 P w) 2 (F.f 17) (F.fd 17) ["self","deed","want"] (zsu A):=by
 have G_Desk_take:=@zlz P w K mg base A F T;have G_value_under:=@zi7 P w K mg base A F T;refine T.zhF.okN zcD (λvs H Q E h=>?_) (λcdv A' outer s H vs Q E hr h=>?_)
 . obtain⟨ρ,ad,s,kv,d,wv,a,rfl,_⟩:=h
   rfl
 . obtain⟨ρ,ad,s,kv,d,wv,a,rfl,hh,sm,hd,hk,⟨pw,dw,rfl,hw⟩,q⟩:=h;have hu:=zdT hr;obtain⟨dx,hp⟩:=hh.hall;have D:=hh.desk hk;obtain⟨dd,hdk⟩:=D.ob;refine⟨_,(zac (zaI (zaA (zd5 hu (zas (pv 0) rfl) (zas (pv 2) rfl) (λ_ _=>rfl)) T.zaY T.zmO G_Desk_take (hmr hr) T.zm9 .nil zaz (zaa (pv 1) (zaa (zas (pv 2) rfl) zad))))
    (zac (zaL (i:=3) zcD.nd rfl (by walk_at "loc") (zaT zbF (zas (pv 0) rfl) (pv 1) (λ_ _=>rfl)))
    (zac (zb7 (pv 3) (zci rfl T.zmX) rfl)
    (zac (zb7 (pv 3) zgj rfl)
    (zac (zaL (i:=4) zcD.nd rfl (by walk_at "loc") (zaN G_value_under (hmr hr) rfl T.zkD T.zkA T.zkL .nil zaz (zaa (zas (pv 0) rfl) (zaa (zas (pv 2) rfl) zad))))
    (zaf (zbn (zaw zb5 (zas (pv 2) rfl) (zci rfl T.zdV) (zaB _)) (zac (zaI (zet yaF yaQ yaR zbw (zas (pv 0) rfl) (zaa (za4 (zaa (zci rfl T.zg5) (zaa (pv 1) (zaa (zas (pv 2) rfl) (zaa (pv 4) (zaa (zas (pv 2) rfl) zad)))))) zad)))
    (zac (zfN hu (zas (pv 0) rfl) (zas (pv 2) rfl) (zas (pv 2) rfl) rfl)
    (zaf (zaI (zet yaF yaQ yaR zbw (zas (pv 3) rfl) (zaa (za4 (zaa (zci rfl T.zg5) (zaa (zas (pv 2) rfl) (zaa (zas (pv 2) rfl) zad)))) zad)))))) (zaf (zaI (zet yaF yaQ yaR zbw (zas (pv 3) rfl) (zaa (za4 (zaa (zci rfl T.zue) (zaa (zas (pv 2) rfl) (zaa (pv 4) zad)))) zad))))))))))),?_⟩
   refine⟨_,rfl,_,_,dx,_,_,rfl,hp,T.zaj,T.zbE,rfl,_,rfl,pw,_,dw,_,_,rfl,hw,T.za8,T.zbc,rfl,_,_,rfl,hh.zgw hk,_,dd,_,rfl,hdk,rfl,_,rfl,_,rfl,pw,_,dw,_,_,rfl,hw,T.za8,T.zbD,rfl,_,_,_,_,_,d,a.wr,rfl,D,sm.hl _,sm.hn _,λH1 e1 kp1=>?_⟩;obtain⟨h1,f1⟩:=hh.zsD T.ok hk e1 kp1;have hw1:H1 pw=_:=(Imm.zg1 T.ok hh (r:=.held a.key) hk kp1).want _ _ _ hw;obtain⟨dx1,hp1⟩:=h1.hall;obtain⟨dr,w0,hr1,_⟩:=h1.rcd hd;refine⟨_,rfl,_,_,dx1,_,_,rfl,hp1,T.zaj,T.zaF,rfl,_,rfl,_,_,_,_,rfl,rfl,SqL.of h1.recs,zbH (h1.zgf hd),?_⟩;refine⟨_,rfl,_,_,dr,_,rfl,hr1,T.zax,T.zaC,yan rfl,_,rfl,_,_,dr,_,rfl,zab,T.zax,T.za9,yan rfl,?_⟩;rw[zj3];have kp3:zcL H1 (ad (.rcd d)) (upd H1 (ad (.rcd d)) (.ins A.zaG dr (recF .zar (ad (.did d)) .non))):=λb o e hb=>by rw[zag hb];exact e
   obtain⟨h3,f3⟩:=h1.zpx (H':=upd H1 (ad (.rcd d)) (.ins A.zaG dr (recF .zar (ad (.did d)) .non))) T.ok hd (D:={ s.deed d with st:=.zar }) (w:=.non) zab kp3 rfl rfl;have hw3:=(Imm.zg1 T.ok h1 (r:=.rcd d) hd kp3).want _ _ _ hw1;show tSeq _ _ _ _ (upd H1 (ad (.rcd d)) (.ins A.zaG dr (recF .zar (ad (.did d)) .non)));generalize upd H1 (ad (.rcd d)) (.ins A.zaG dr (recF .zar (ad (.did d)) .non))=H3 at *;obtain⟨dx3,hp3⟩:=h3.hall;obtain⟨l,hl,hb⟩:=h3.zcC;have hb:zbs l s.book:=hb;refine⟨_,rfl,_,_,dx3,_,_,rfl,hp3,T.zaj,T.zbm,rfl,_,rfl,pw,_,dw,_,_,rfl,hw3,T.za8,T.zbc,rfl,_,a.key,l,_,rfl,hl,hb,?_⟩;refine⟨_,rfl,pw,_,dw,_,_,rfl,hw3,T.za8,T.zbD,rfl,rfl,_,rfl,?_⟩;refine zfp a.wr (zhU a.wr) ?_;have hr3:∃dr w,H3 (ad (.rcd d))=some (.ins A.zaG dr (recF .zar (ad (.did d)) w)):=by
    obtain⟨dr,w,e,_⟩:=h3.rcd hd;have e:H3 (ad (.rcd d))=some (.ins A.zaG dr (recF (up s.deed d { s.deed d with st:=.zar } d).st (ad (.did d)) w)):=e;rw[zae]at e;exact⟨dr,w,e⟩
   have fin:∀(t:HS Str) (H4:Hp) (b:Act Str),zai A ρ ad t kv H4->Frame ρ H ρ H4->t.n=s.n->(t.deed d).done.length<=2000->∀us,H4 (ad (.did d))=some (.lst us)->∀n,H4 n=none ->
     ∃l xs y,V.ref (ad (.did d))=.ref l/\[V.ref n]=[y]/\upd H4 n (.tup (actV b)) l=some (.lst xs)/\xs.length < sizeLine/\(zai A ρ ad { t with deed:=up t.deed d { t.deed d with done:=(t.deed d).done++[b] } } kv (upd (upd H4 n (.tup (actV b))) l (.lst (xs++[y])))/\Frame ρ H ρ (upd (upd H4 n (.tup (actV b))) l (.lst (xs++[y])))):=λt H4 b h4 f4 hn hl us hus n nn=>by
    have hdt:d < t.n:=by rw[hn];exact hd
    have h5:=h4.grow (H':=upd H4 n (.tup (actV b))) (Same.zaq nn);obtain⟨us',e',tu⟩:=h4.did hdt;rw[hus]at e';cases e';have hlen:us.length=(t.deed d).done.length:=by rw[tu.length,yaa]
    obtain⟨h6,f6⟩:=h5.zuv (H':=upd (upd H4 n (.tup (actV b))) (ad (.did d)) (.lst (us++[.ref n]))) T.ok hdt (a:=b) (zal hus nn) zab (λx o e hx=>by rw[zag hx];exact e) ⟨n,rfl,by rw[zag (zah hus nn).symm,zab]⟩;exact⟨ad (.did d),us,.ref n,rfl,rfl,zal hus nn,by rw[hlen,yaw];omega,h6,(f4.trans (Frame.grow (Same.zaq nn))).trans f6⟩
   have f03:Frame ρ H ρ H3:=f1.trans f3;have dn3:(up s.deed d { s.deed d with st:=DS.zar } d).done.length<=2000:=by rw[zae];exact sm.dn d
   cases hwr:a.wr with
   | true =>
    obtain⟨us,hus,tus⟩:=h3.rows;have hul:us.length=s.log.length:=by rw[tus.length,yaa]
    have hwv:List.lookup ("value" : Str) (zse a)=some (.int a.val):=by
     show some (if a.wr then V.int a.val else .non)=_;rw[hwr];rfl
    refine⟨_,rfl,_,_,dx3,_,_,rfl,hp3,T.zaj,T.zcp,rfl,.inl ⟨rfl,_,SqL.of hus⟩,_,rfl,_,rfl,pw,_,dw,_,_,rfl,hw3,T.za8,T.zbc,rfl,_,rfl,_,rfl,pw,_,dw,_,_,rfl,hw3,T.za8,T.zcW,hwv,sz5,λn nn=>⟨_,_,_,rfl,rfl,zal hus nn,by have:=sm.lg;rw[hul,yaw];omega,?_⟩⟩;have g4:=h3.grow (H':=upd H3 n (.tup [V.str "write",.int (d:Int),.str a.key,.int ((s.book a.key).getD 0),.int a.val])) (Same.zaq nn);have kp4:zcL (upd H3 n (.tup [V.str "write",.int (d:Int),.str a.key,.int ((s.book a.key).getD 0),.int a.val])) (ad .rows) (upd (upd H3 n (.tup [V.str "write",.int (d:Int),.str a.key,.int ((s.book a.key).getD 0),.int a.val])) (ad .rows) (.lst (us++[.ref n]))):=λb o e hb=>by rw[zag hb];exact e
    obtain⟨h4,f4⟩:=g4.zob T.ok (row:=.write d a.key ((s.book a.key).getD 0) a.val) (zal hus nn) zab kp4 ⟨n,rfl,by rw[zag (zah hus nn).symm,zab];rfl⟩;have hw4:=(Imm.zg1 T.ok g4 (r:=.rows) trivial kp4).want _ _ _ (Same.zaq nn _ _ hw3);have f04:=(f03.trans (Frame.grow (Same.zaq nn))).trans f4;have hl4:=kp4 _ _ (Same.zaq (o:=.tup [V.str "write",.int (d:Int),.str a.key,.int ((s.book a.key).getD 0),.int a.val]) nn _ _ hl) (g4.ne (r:=.zcC) (r':=.rows) trivial trivial (by intro z;cases z));generalize upd (upd H3 n (.tup [V.str "write",.int (d:Int),.str a.key,.int ((s.book a.key).getD 0),.int a.val])) (ad .rows) (.lst (us++[.ref n]))=H4 at *;obtain⟨dx4,hp4⟩:=h4.hall;have hll:l.length<=4:=yaA (hb.len sm.snd sm.bs) sm.seen;refine⟨_,rfl,pw,_,dw,_,_,rfl,hw4,T.za8,T.zcW,hwv,_,rfl,_,_,dx4,_,_,rfl,hp4,T.zaj,T.zbm,rfl,_,rfl,pw,_,dw,_,_,rfl,hw4,T.za8,T.zbc,rfl,_,_,rfl,DPut.k (k:=Sum.inr a.key) hl4 (by rw[zkK,yaw];omega),?_⟩;rw[zkJ];have kp5:zcL H4 (ad .zcC) (upd H4 (ad .zcC) (.dK (bkV (bput l a.key a.val)))):=λb o e hb=>by rw[zag hb];exact e
    obtain⟨h5,f5⟩:=h4.znB T.ok zab kp5 (hb.put a.key a.val);have hw5:=(Imm.zg1 T.ok h4 (r:=.zcC) trivial kp5).want _ _ _ hw4;generalize upd H4 (ad .zcC) (.dK (bkV (bput l a.key a.val)))=H5 at *;obtain⟨dr5,w5,hr5,_⟩:=h5.rcd hd;obtain⟨us5,hus5,_⟩:=h5.did hd;refine⟨_,rfl,_,_,dr5,_,_,rfl,hr5,T.zax,T.zbo,rfl,.inl ⟨rfl,_,SqL.of hus5⟩,_,rfl,pw,_,dw,_,_,rfl,hw5,T.za8,T.zbc,rfl,_,rfl,pw,_,dw,_,_,rfl,hw5,T.za8,T.zcW,hwv,sz3,λn5 nn5=>?_⟩;obtain⟨l6,xs6,y6,g1,g2,g3,g4',g5,g6⟩:=fin _ H5 a h5 (f04.trans f5) rfl dn3 us5 hus5 n5 nn5;have ea:actV a=[V.str "write",.str a.key,.int a.val]:=by unfold actV;rw[hwr];rfl
    rw[ea]at g3 g5 g6;refine⟨l6,xs6,y6,g1,g2,g3,g4',q _ ?_ g6⟩;rw[zui _ _ _ hwr];exact g5
   | false =>
    obtain⟨dr5,w5,hr5⟩:=hr3;obtain⟨us5,hus5,_⟩:=h3.did hd;refine⟨_,rfl,_,_,dr5,_,_,rfl,hr5,T.zax,T.zbo,rfl,.inl ⟨rfl,_,SqL.of hus5⟩,_,rfl,pw,_,dw,_,_,rfl,hw3,T.za8,T.zbc,rfl,_,rfl,sz3,λn5 nn5=>?_⟩;obtain⟨l6,xs6,y6,g1,g2,g3,g4',g5,g6⟩:=fin _ H3 ⟨false,a.key,(s.book a.key).getD 0⟩ h3 f03 rfl dn3 us5 hus5 n5 nn5;refine⟨l6,xs6,y6,g1,g2,g3,g4',q _ ?_ g6⟩;rw[zuj _ _ _ hwr];exact g5
theorem zgW(T:Txt K mg A F):FnOk P w K mg base (CX1 P w) 3 (F.f 20) (F.fd 20) ["self","deed"] (zok A):=by
 have G_Desk_next_waited_for:=@zd8 P w K mg base A F T;refine T.zhD.okN zdK (λvs H Q E h=>?_) (λcdv A' outer s H vs Q E hr h=>?_)
 . obtain⟨ρ,ad,s,kv,d,rfl,_⟩:=h
   rfl
 . obtain⟨ρ,ad,s,kv,d,rfl,hh,c,sm,hd,q⟩:=h;have hu:=zdT hr;obtain⟨dx,hp⟩:=hh.hall;obtain⟨dr,wv,hr1,hw⟩:=hh.rcd hd;refine⟨_,(zac (zaL (i:=2) zdK.nd rfl (by walk_at "loc") (zas (zaT zbF (zas (pv 0) rfl) (pv 1) (λ_ _=>rfl)) rfl))
     (zac (zbn (zgg (zt1 (pv 2))) (zaf (zay (zc7 zad))) zaP)
     (zaf (zay (zaA (zd5 hu (zas (pv 0) rfl) (zas (pv 2) rfl) (λ_ _=>rfl)) T.zaY T.zev G_Desk_next_waited_for (hmr hr) T.zey .nil zaz (zaa (pv 1) (zaa (zas (pv 2) rfl) zad))))))),?_⟩
   refine⟨_,rfl,_,_,dx,_,_,rfl,hp,T.zaj,T.zaF,rfl,_,rfl,_,_,_,_,rfl,rfl,SqL.of hh.recs,zbH (hh.zgf hd),_,_,dr,_,_,rfl,hr1,T.zax,T.za9,rfl,?_⟩;refine⟨_,rfl,_,rfl,?_⟩;by_cases hst:(s.deed d).st=.waiting
   . obtain⟨a,ha,hrow⟩:=c.wRow d (by simp) hst;have hw0:wantOf (s.deed d)=some a:=by unfold wantOf;rw[yaj hst,ha]
     rw[hw0]at hw;obtain⟨pw,dw,rfl,hpw⟩:=hw;have hk:a.key∈s.seen:=zcX c hrow;have D:=hh.desk hk;obtain⟨dd,hdk⟩:=D.ob;refine zaJ rfl ?_;refine⟨_,rfl,_,_,dx,_,_,rfl,hp,T.zaj,T.zbE,rfl,_,rfl,pw,_,dw,_,_,rfl,hpw,T.za8,T.zbc,rfl,_,_,rfl,hh.zgw hk,_,dd,_,rfl,hdk,rfl,_,rfl,_,rfl,pw,_,dw,_,_,rfl,hpw,T.za8,T.zbD,rfl,_,_,_,_,_,d,a.wr,rfl,D,sm.hl _,sm.hn _,sm.rl _,hrow,c.rNd _,λH' n nf m e=>q H' n nf m ?_⟩;rw[zlC hst ha];exact e
   . have hw0:wantOf (s.deed d)=none:=by unfold wantOf;rw[yai hst]
     rw[hw0]at hw;have hw:wv=.non:=hw;subst hw;refine zbv rfl ⟨yan rfl,λn hn=>q _ n hn (Same.zaq hn) ?_⟩;rw[zab,zpU hst];rfl
theorem zin(T:Txt K mg A F):FnOk P w K mg base (CX1 P w) 4 (F.f 21) (F.fd 21) ["self","deed"] (zq7 A):=by
 have G_Hall_next_from:=@zgW P w K mg base A F T;refine T.zjr.okN zbO (λvs H Q E h=>?_) (λcdv A' outer s H vs Q E hr h=>?_)
 . obtain⟨ρ,ad,s,kv,d,rfl,_⟩:=h
   rfl
 . obtain⟨ρ,ad,s,kv,d,rfl,hh,c,sm,hd,q⟩:=h;have hu:=zdT hr;refine⟨_,(zac (zaL (i:=2) zbO.nd rfl (by walk_at "loc") zdk)
     (zac (zaL (i:=3) zbO.nd rfl (by walk_at "loc") (zc7 (zaa (pv 1) zad)))
     (zac (zhK ya4 (zaw zsP (zbC zbr (by rfl) T.zkr ybP (zaa (pv 3) zad)) zak (zaB _)) (zac (zaL (i:=4) zbO.nd rfl (by walk_at "loc") (zrV yaF ycY ycZ zr1 (pv 3)))
     (zaf (zdj ya4 rfl (zdz (zaA (pv 0) T.zaj T.zhw G_Hall_next_from (hmr hr) T.zhA .nil zaz (zaa (pv 4) zad))) (zaS (i:=5) zbO.nd rfl (by walk_at "loc")) (zaf (zbn (zgg (zih hu (pv 5) (pv 2))) (zac (zfN hu (pv 2) (pv 5) zig rfl)
     (zaf (zaI (zet yaF yaQ yaR zbw (pv 3) (zaa (pv 5) zad))))) zaP))))))
     (zaf (zay (pv 2)))))),?_⟩
   intro pf nf;refine⟨_,rfl,yan rfl,λpl nl=>?_⟩;have hfl:pf≠pl:=zah zab nl
   let Inv0:List Nat->List Nat->Hp->Prop:=λfd lf H1=>Same H H1/\H1 pf=some (.dK (za1 fd))/\H1 pl=some (.lst (zaD lf))/\fd.Nodup/\(∀x∈fd,zdr s d x)/\(∀x∈lf,x=d\/x∈fd)/\lf.length<=fd.length+1
   have fdlt:∀fd:List Nat,(∀x∈fd,zdr s d x)->∀x∈fd,x < s.n:=λfd h x hx=>by
     obtain⟨z,hz,_⟩:=(h x hx).last;exact zrX c hz
   have fdlen:∀fd:List Nat,fd.Nodup->(∀x∈fd,zdr s d x)->fd.length<=s.n:=λfd nd h=>zgl _ _ nd (fdlt fd h);refine⟨λm σ H1=>∃fd lf v4 v5,σ=[some (.ref (ad .hall)),some (.int d),some (.ref pf),some (.ref pl),v4,v5]/\Inv0 fd lf H1/\(∀x,x=d\/x∈fd->x∈lf\/∀y∈nxt s x,y∈fd)/\m=2 * (s.n - fd.length)+lf.length,⟨_,[],[d],none,none,rfl,⟨(Same.zaq nf).upd2 nl,?_,zab,ybO,λx hx=>(by cases hx),λx hx=>.inl (yaq.mp hx),by simp⟩,λx hx=>.inl (by rcases hx with z | z;exact yaq.mpr z;cases z),rfl⟩,?_⟩
   . rw[zag hfl,zab];rfl
   rintro m σ H1 ⟨fd,lf,v4,v5,rfl,⟨s1,hf,hl,nd,hre,hlf,hll⟩,hcl,rfl⟩;refine⟨_,rfl,pl,_,rfl,.inl (SqL.of hl),_,_,rfl,rfl,_,rfl,?_⟩;rcases List.eq_nil_or_concat lf with hlf0 | ⟨init,x,hix⟩
   . subst hlf0;refine zaJ rfl ?_;refine⟨_,rfl,q H1 pf fd s1 hf nd λx=>⟨hre x,λhx=>?_⟩⟩;have step:∀z,(z=d\/z∈fd)->∀y∈nxt s z,y∈fd:=λz hz=>(hcl z hz).resolve_left (λk=>nomatch k);have:∀a b,Path (λa b=>b∈nxt s a) a b->(a=d\/a∈fd)->b∈fd:=λa b p=>by
       induction p with
       | one h=>exact λha=>step _ ha _ h
       | step h _ ih=>exact λha=>ih (.inr (step _ ha _ h))
     exact this d x hx (.inl rfl)
   . have hix:lf=init++[x]:=by rw[hix];simp
     subst hix;have hx:=hlf x (by simp);have hxn:x < s.n:=hx.elim (λz=>z▸hd) λz=>fdlt fd hre x z;refine zbv ?_ ?_
     . unfold zaD;simp
     refine ⟨λ σ' H'=>∃ fd' lf' v4 v5,σ'=[some (.ref (ad .hall)),some (.int d),some (.ref pf),some (.ref pl),v4,v5]/\Inv0 fd' lf' H'/\(∀ x,x=d\/x∈fd'->x∈lf'\/∀ y∈nxt s x,y∈fd')/\2 * (s.n - fd'.length)+lf'.length < 2 * (s.n - fd.length)+(init++[x]).length,λ σ' H' ⟨fd',lf',v4,v5,e,i,cl,lt⟩=>⟨_,lt,fd',lf',v4,v5,e,i,cl,rfl⟩,?_⟩;have il:zaD (init++[x])=zaD init++[V.int (x:Int)]:=by unfold zaD; rw [yav]; rfl
     have hlast:(zaD (init++[x]))[(zaD (init++[x])).length - 1]?=some (V.int (x:Int)):=by
       rw[il];simp
     refine⟨_,rfl,.inl ⟨rfl,_,SqL.of hl⟩,pl,_,_,rfl,rfl,hl,hlast,?_⟩;have hdrop:(zaD (init++[x])).dropLast=zaD init:=by rw[il,List.dropLast_concat]
     rw[hdrop];have fpl:∀b o,H b=some o->b≠pl:=λb o e=>zah (Same.zaq nf b o e) nl;have s2:Same H (upd H1 pl (.lst (zaD init))):=λb o e=>by rw[zag (fpl b o e)];exact s1 b o e
     have hf2:upd H1 pl (.lst (zaD init)) pf=some (.dK (za1 fd)):=by rw[zag hfl];exact hf
     obtain⟨dx,hp⟩:=hh.hall;refine⟨_,rfl,_,dx,_,rfl,s2 _ _ hp,rfl,_,rfl,ρ,ad,s,kv,x,rfl,hh.grow s2,c,sm,hxn,λH3 pn nf3 m3 hn=>⟨pn,rfl,⟨_,SqL.of hn⟩,?_⟩⟩;have s3:Same H H3:=s2.trans m3;have hf3:=m3 _ _ hf2;have hl3:=m3 _ _ (zab (H:=H1) (a:=pl) (o:=.lst (zaD init)));have hnf:pn≠pf:=λz=>by rw[z,hf2]at nf3;cases nf3
     have hnpl:pn≠pl:=λz=>by rw[z,zab]at nf3;cases nf3
     have hxr:∀y∈nxt s x,zdr s d y:=λy hy=>hx.elim (λz=>z▸.one hy) λz=>(hre x z).trans (.one hy);have Hpn:∀b o,H b=some o->b≠pn:=λb o e=>zah (s2 b o e) nf3;have Hpf:∀b o,H b=some o->b≠pf:=λb o e=>zah e nf;refine zfe (xs:=zaD (nxt s x)) (λi σ' H'=>∃new v5,σ'=[some (.ref (ad .hall)),some (.int d),some (.ref pf),some (.ref pl),some (V.int x),v5]/\Same H H'/\H' pn=some (.lst (zaD (nxt s x)))/\H' pf=some (.dK (za1 (fd++new)))/\H' pl=some (.lst (zaD (init++new)))/\(fd++new).Nodup/\(∀y∈new,y∈nxt s x)/\(∀y∈(nxt s x).take i,y∈fd++new)) ⟨[],_,rfl,s3,hn,by rw[ybe];exact hf3,by rw[ybe];exact hl3,by rw[ybe];exact nd,(λy hy=>by cases hy),(λy hy=>by simp at hy)⟩ (λi σ' H' _ ⟨_,_,_,_,e,_⟩=>SqL.of e) ?_ ?_
     . rintro i y σ' H' hy ⟨new,v5,rfl,s4,e1,e2,e3,e4,e5,e6⟩;unfold zaD at hy;rw[yak]at hy;obtain⟨y,hyy,rfl⟩:=yao.mp hy
       replace hy:=hyy
       have hy1:=yaS hy;have et:(nxt s x).take (i+1)=(nxt s x).take i++[y]:=by rw[yaD,hy];rfl
       have dg:=DGet.k (k:=Sum.inl (y:Int)) e2;have ln:(fd++new).length<=s.n:=fdlen _ e4 λz hz=>(yas.mp hz).elim (hre z) λh=>hxr z (e5 z h);refine⟨_,rfl,_,rfl,_,_,rfl,dg,_,rfl,?_⟩;refine zfp (!decide (y∈fd++new)) (by rw[zgt]) ?_;by_cases hm:y∈fd++new
       . refine zaJ (by simp[hm]) ⟨new,_,rfl,s4,e1,e2,e3,e4,e5,?_⟩;intro z hz;rw[et]at hz;rcases yas.mp hz with hz | hz
         . exact e6 z hz
         . rw[yaq.mp hz];exact hm
       . refine zbv (by simp[hm]) ?_;refine⟨_,rfl,_,rfl,_,_,rfl,DPut.k (k:=Sum.inl (y:Int)) e2 (by have:=sm.n;unfold za1;rw[yaa,yaw];omega),?_⟩;rw[zqv hm];have e3':upd H' pf (.dK (za1 (fd++new++[y]))) pl=some (.lst (zaD (init++new))):=by rw[zag hfl.symm];exact e3
         refine⟨_,rfl,.inl ⟨rfl,_,SqL.of e3'⟩,_,rfl,_,_,_,rfl,rfl,e3',?_,?_⟩
         . have:=sm.n;unfold zaD;rw[yaa,yaw];simp only[yah,yaP,yb3]at hll ln ⊢;omega
         . refine⟨new++[y],_,rfl,?_,?_,?_,?_,?_,?_,?_⟩
           . intro b o e;rw[zag (fpl b o e),zag (Hpf b o e)];exact s4 b o e
           . rw[zag hnpl,zag hnf];exact e1
           . rw[zag hfl,zab,yb4]
           . rw[zab];unfold zaD;simp
           . rw[<-yb4];exact ybi.mpr ⟨e4,by simp,λa ha b hb=>by rw[yaq.mp hb];exact λz=>hm (z▸ha)⟩
           . intro z hz;rcases yas.mp hz with hz | hz
             . exact e5 z hz
             . rw[yaq.mp hz];exact hy1
           . intro z hz;rw[<-yb4];rw[et]at hz;rcases yas.mp hz with hz | hz
             . exact yaJ _ (e6 z hz)
             . exact yaN _ hz
     . rintro σ' H' ⟨new,v5,rfl,s4,e1,e2,e3,e4,e5,e6⟩;have e6:∀y∈nxt s x,y∈fd++new:=by
         have:(zaD (nxt s x)).length=(nxt s x).length:=by unfold zaD;rw[yaa]
         rw[this,yaG]at e6;exact e6
       have re2:∀z∈fd++new,zdr s d z:=λz hz=>(yas.mp hz).elim (hre z) λh=>hxr z (e5 z h);have ln:(fd++new).length<=s.n:=fdlen _ e4 re2;refine⟨fd++new,init++new,_,_,rfl,⟨s4,e2,e3,e4,re2,λz hz=>?_,?_⟩,λz hz=>?_,?_⟩
       . rcases yas.mp hz with hz | hz
         . exact(hlf z (yaJ _ hz)).imp_right λh=>yaJ _ h
         . exact .inr (yaN _ hz)
       . simp only[yah,yaP,yb3]at hll ⊢;omega
       . have key:(z=d\/z∈fd)->z∈init++new\/∀y∈nxt s z,y∈fd++new:=λhz=>by
           rcases hcl z hz with h | h
           . rcases yas.mp h with h | h
             . exact .inl (yaJ _ h)
             . rw[yaq.mp h];exact .inr e6
           . exact .inr λy hy=>yaJ _ (h y hy)
         rcases hz with hz | hz
         . exact key (.inl hz)
         . rcases yas.mp hz with hz | hz
           . exact key (.inr hz)
           . exact .inl (yaN _ hz)
       . simp only[yah,yaP,yb3]at ln ⊢;omega
theorem zpV{α β:Type}{f:α->β}(h:∀a b,f a=f b->a=b){l:List α}(nd:l.Nodup):(l.map f).Nodup:=by
 induction l with
 | nil=>simp
 | cons a r ih =>
  obtain⟨n1,n2⟩:=yaW.mp nd;rw[yaK];refine yaW.mpr ⟨λz=>?_,ih n2⟩;obtain⟨b,hb,e⟩:=yap.mp z;exact n1 (h _ _ e▸hb)
theorem zml{l:List Nat}{ys:List Key}(pm:ys.Perm (l.map λ(n:Nat)=>Sum.inl (n:Int)))(so:ys.Pairwise λa b=>kLt a b=true) :
   ∃L:List Nat,ys=L.map (λ(n:Nat)=>Sum.inl (n:Int))/\(∀x,x∈L↔x∈l)/\L.Pairwise (· < ·):=by
 obtain⟨L,rfl⟩:∃L:List Nat,ys=L.map (λ(n:Nat)=>Sum.inl (n:Int)):=by
   have:∀y∈ys,∃n:Nat,y=Sum.inl (n:Int):=λy hy=>by
     obtain⟨n,_,e⟩:=yap.mp (pm.mem_iff.mp hy);exact⟨n,e.symm⟩
   clear so pm
   induction ys with
   | nil=>exact⟨[],rfl⟩
   | cons y r ih =>
     obtain⟨n,rfl⟩:=this _ yac;obtain⟨L,rfl⟩:=ih λy hy=>this y (yad _ hy);exact⟨n::L,rfl⟩
 refine⟨L,rfl,λx=>?_,?_⟩
 . have:=pm.mem_iff (a:=Sum.inl (x:Int));rw[yap,yap]at this;constructor
   . intro h;obtain⟨y,hy,e⟩:=this.mp ⟨x,h,rfl⟩;rw[zdb.mp e]at hy;exact hy
   . intro h;obtain⟨y,hy,e⟩:=this.mpr ⟨x,h,rfl⟩;rw[zdb.mp e]at hy;exact hy
 . rw[ycN]at so;exact so.imp λ{a b} h=>by
     have:decide ((a:Int) < (b:Int))=true:=h;have:=ydm this;omega
theorem zkQ{xs:List V}{x:V}:atI (xs++[x]) (-1)=some x:=by
 have e:ixN (xs++[x]).length (-1)=some xs.length:=by
  unfold ixN;rw[yah,yaE,yai (by omega),yaj (by omega)]
  congr 1;omega
 unfold atI;rw[e];simp
theorem zdd(T:Txt K mg A F):FnOk P w K mg base (CX1 P w) 5 (F.f 22) (F.fd 22) ["self","deed"] (zom A):=by
 have G_Hall_come_to:=@zin P w K mg base A F T;refine T.zdH.okN zbh (λvs H Q E h=>?_) (λcdv A' outer s H vs Q E hr h=>?_)
 . obtain⟨ρ,ad,s,kv,d,rfl,_⟩:=h
   rfl
 . obtain⟨ρ,ad,s,kv,d,rfl,hh,c,hd0,th,sm,hd,q⟩:=h;have hu:=zdT hr;obtain⟨dx,hp⟩:=hh.hall;have RG:=zkb c th;refine⟨_,(zac (zaL (i:=2) zbh.nd rfl (by walk_at "loc") (zaA (pv 0) T.zaj T.zfo G_Hall_come_to (hmr hr) T.zfr .nil zaz (zaa (pv 1) zad)))
     (zac (zbn (zgg (zih hu (pv 1) (pv 2))) (zaf (zay zgj)) zaP)
     (zac (zaL (i:=3) zbh.nd rfl (by walk_at "loc") (zbC (zeo rfl) (by rfl) T.zkp boot_sorted (zaa (pv 2) zad)))
     (zac (zhK ya4 (zgg (zih hu (pv 1) (zaA (pv 0) T.zaj T.zfo G_Hall_come_to (hmr hr) T.zfr .nil zaz (zaa (zaT zbF (pv 3) (zsL zpc zak) (λ_ _=>rfl)) zad)))) (zaf (zaI (zrV yaF ycY ycZ zr1 (pv 3)))))
     (zaf (zay (zaT zbF (pv 3) (zsL zpc zak) (λ_ _=>rfl)))))))),?_⟩
   refine⟨_,rfl,_,dx,_,rfl,hp,rfl,_,rfl,ρ,ad,s,kv,d,rfl,hh,c,sm,hd,λH1 pf fd m1 hf nd hre=>?_⟩;have dg:=DGet.k (k:=Sum.inl (d:Int)) hf;refine⟨_,rfl,_,rfl,_,_,rfl,dg,_,rfl,?_⟩;refine zfp (!decide (d∈fd)) (by rw[zgt]) ?_;by_cases hm:d∈fd
   rotate_left
   . refine zbv (by simp[hm]) ?_;have:=q H1 m1;rw[RG.1 λz=>hm ((hre d).mpr ((zdP c hd0).mpr z))]at this;exact this
   refine zaJ (by simp[hm]) ?_;have fl:∀x∈fd,x < s.n:=λx hx=>by
     obtain⟨z,hz,_⟩:=((hre x).mp hx).last;exact zrX c hz
   have len:fd.length<=s.n:=zgl _ _ nd fl;refine⟨_,rfl,pf,_,rfl,.inr ⟨_,hf,rfl⟩,?_,?_,?_,λys pr pm so nr=>?_⟩
   . rw[show(za1 fd).map (·.1)=fd.map λ(n:Nat)=>Sum.inl (n:Int) by unfold za1;rw[ya7];rfl];exact zpV (λa b z=>zdb.mp z) nd
   . refine .inl λk hk=>?_;obtain⟨y,hk2,rfl⟩:=yap.mp hk;obtain⟨x,_,e⟩:=yap.mp hk2;exact⟨_,by rw[<-e]⟩
   . have:=sm.n;unfold za1;rw[yaa,yaa];omega
   obtain⟨L,rfl,hL,sL⟩:=zml (l:=fd) (by rw[show(za1 fd).map (·.1)=fd.map λ(n:Nat)=>Sum.inl (n:Int) by unfold za1;rw[ya7];rfl]at pm;exact pm) so;have eL:List.map kV (L.map λ(n:Nat)=>Sum.inl (n:Int))=zaD L:=by unfold zaD;rw[ya7];rfl
   rw[eL];have hdd:zdr s d d:=(hre d).mp hm;have s1:Same H (upd H1 pr (.lst (zaD L))):=m1.upd2 nr;have frm:∀b o,H b=some o->b≠pr:=λb o e=>zah (m1 b o e) nr;refine⟨λm σ H2=>∃pre rest,σ=[some (.ref (ad .hall)),some (.int d),some (.ref pf),some (.ref pr)]/\m=pre.length/\L=pre++rest/\d∈pre/\(∀x∈rest,¬zdr s x d)/\Same H H2/\H2 pr=some (.lst (zaD pre)),⟨_,L,[],rfl,rfl,by simp,(hL d).mpr hm,(λx hx=>by cases hx),s1,zab⟩,?_⟩;rintro m σ H2 ⟨pre,rest,rfl,rfl,eq,hdp,hrest,s2,hr2⟩;have hne:pre≠[]:=λz=>by rw[z]at hdp;cases hdp
   obtain⟨init,g,rfl⟩:∃init g,pre=init++[g]:=⟨pre.dropLast,pre.getLast hne,(ya9 hne).symm⟩
   have il:zaD (init++[g])=zaD init++[V.int (g:Int)]:=by unfold zaD;rw[yav];rfl
   have hat:atI (zaD (init++[g])) (-1)=some (V.int (g:Int)):=by
     rw[il];exact zkQ
   have hgL:g∈L:=by rw[eq];simp
   have hgn:g < s.n:=fl g ((hL g).mp hgL);refine⟨_,rfl,_,rfl,_,dx,_,rfl,s2 _ _ hp,rfl,_,rfl,_,rfl,_,_,_,_,rfl,rfl,SqL.of hr2,hat,ρ,ad,s,kv,g,rfl,hh.grow s2,c,sm,hgn,λH3 pg gd m3 hg ndg hreg=>?_⟩;have dg3:=DGet.k (k:=Sum.inl (d:Int)) hg;refine⟨_,_,rfl,dg3,_,rfl,?_⟩;refine zfp (!decide (d∈gd)) (by rw[zgt]) ?_;have hr3:=m3 _ _ hr2;have s3:=s2.trans m3;by_cases hgd:d∈gd
   . refine zaJ (by simp[hgd]) ?_;refine⟨_,rfl,_,rfl,_,_,_,_,rfl,rfl,SqL.of hr3,hat,?_⟩;have:=q H3 s3;rw[RG.2 g ((zdP c hd0).mp ((hre g).mp ((hL g).mp hgL))) ((zdP c hd0).mp ((hreg d).mp hgd)) λx h1 h2=>?_]at this
     . exact this
     . have hx:x∈L:=(hL x).mpr ((hre x).mpr ((zdP c hd0).mpr h1));rw[eq]at hx;rcases yas.mp hx with hx | hx
       . rw[eq]at sL;have sp:=(yb0.mp sL).1;rcases yas.mp hx with hx | hx
         . exact yco ((yb0.mp sp).2.2 x hx g (by simp))
         . rw[yaq.mp hx];exact yaf _
       . exact absurd ((zdP c hd0).mpr h2) (hrest x hx)
   . refine zbv (by simp[hgd]) ?_;have hgd2:¬zdr s g d:=λz=>hgd ((hreg d).mpr z);refine⟨λσ' H'=>∃pre' rest',σ'=[some (.ref (ad .hall)),some (.int d),some (.ref pf),some (.ref pr)]/\pre'.length < (init++[g]).length/\L=pre'++rest'/\d∈pre'/\(∀x∈rest',¬zdr s x d)/\Same H H'/\H' pr=some (.lst (zaD pre')),λσ' H' ⟨pre',rest',e,lt,a1,a2,a3,a4,a5⟩=>⟨_,lt,pre',rest',e,rfl,a1,a2,a3,a4,a5⟩,?_⟩;have hlast:(zaD (init++[g]))[(zaD (init++[g])).length - 1]?=some (V.int (g:Int)):=by
       rw[il];simp
     refine⟨_,rfl,.inl ⟨rfl,_,SqL.of hr3⟩,pr,_,_,rfl,rfl,hr3,hlast,?_⟩;have hdrop:(zaD (init++[g])).dropLast=zaD init:=by rw[il,List.dropLast_concat]
     rw[hdrop];refine⟨init,g::rest,rfl,by simp,by rw[eq];simp,?_,?_,λb o e=>by rw[zag (frm b o e)];exact s3 b o e,zab⟩
     . rcases yas.mp hdp with z | z
       . exact z
       . rw[<-yaq.mp z]at hgd2;exact absurd hdd hgd2
     . intro x hx;rcases yat.mp hx with rfl | hx
       . exact hgd2
       . exact hrest x hx
theorem zlx(T:Txt K mg A F):FnOk P w K mg base (CX1 P w) 2 (F.f 24) (F.fd 24) ["self","deed"] (ztA A):=by
 have G_Record_written:=@zdM P w K mg base A F T;refine T.znm.okN zeF (λvs H Q E h=>?_) (λcdv A' outer s H vs Q E hr h=>?_)
 . obtain⟨ρ,ad,s,kv,d,rfl,_⟩:=h
   rfl
 . obtain⟨ρ,ad,s,kv,d,rfl,hh,sm,hd,hks,q⟩:=h;have hu:=zdT hr;obtain⟨dx,hp⟩:=hh.hall;obtain⟨wv,ra,_⟩:=hh.recAt hd;obtain⟨dr,hrc⟩:=ra.ob;refine⟨_,(zaf (zdj ya4 rfl (zdz (za7 (zaT zbF (zas (pv 0) rfl) (pv 1) (λ_ _=>rfl)) T.zax T.zei G_Record_written (hmr hr) T.zep .nil zaz)) (znF (n:=2) rfl (zcc (zaS (i:=2) zeF.nd rfl (by walk_at "loc")) (zcc (zaS (i:=3) zeF.nd rfl (by walk_at "loc")) zif))) (zaf (zbn (zgg (zpL hu (pv 2) (zas (pv 0) rfl))) (zaf (zfN hu (zas (pv 0) rfl) (pv 2) (zd5 hu (zas (pv 0) rfl) (pv 2) (λ_ _=>rfl)) rfl)) (zaf (zaI (zki (zas (pv 0) rfl) (pv 2) zgj ⟨rfl,rfl,rfl,rfl⟩))))))),?_⟩;refine⟨_,rfl,_,_,dx,_,_,rfl,hp,T.zaj,T.zaF,rfl,_,rfl,_,_,_,_,rfl,rfl,SqL.of hh.recs,zbH (hh.zgf hd),_,dr,_,rfl,hrc,rfl,_,_,_,_,_,rfl,ra,by have:=sm.dn d;omega,λH1 ql us m1 hq tu=>⟨ql,rfl,⟨_,SqL.of hq⟩,?_⟩⟩;have hul:us.length=(zat (s.deed d).done).length:=by rw[tu.length,yaa]
   refine zfe (xs:=us) (λi σ H2=>∃v2 v3,σ=[some (.ref (ad .hall)),some (.int d),v2,v3]/\zai A ρ ad { s with book:=ub kv s.book (((zat (s.deed d).done).take i).map (·.1)) } kv H2/\Frame ρ H ρ H2/\H2 ql=some (.lst us)/\zap H2 us ((zat (s.deed d).done).map zeA)) ⟨_,_,rfl,hh.grow m1,Frame.grow m1,hq,tu⟩ (λi σ H2 _ ⟨_,_,_,_,_,e,_⟩=>SqL.of e) ?_ ?_
   . rintro i x σ H2 hx ⟨v2,v3,rfl,h2,f2,hq2,t2⟩;obtain⟨y,hy1,r,rfl,hr1⟩:=zbU t2 hx;rw[yak]at hy1;obtain⟨⟨k,v⟩,ha,rfl⟩:=yao.mp hy1;have e1:(zat (s.deed d).done).take (i+1)=(zat (s.deed d).done).take i++[(k,v)]:=by rw[yaD,ha];rfl
     obtain⟨dx2,hp2⟩:=h2.hall;obtain⟨l,hl,hb⟩:=h2.zcC;have hb:zbs l (ub kv s.book (((zat (s.deed d).done).take i).map (·.1))):=hb;obtain⟨lk,hlk,hbk⟩:=h2.zde;have dg:=DGet.k (k:=Sum.inr k) hlk;rw[hbk.val]at dg;have hll:l.length<=4:=yaA (hb.len sm.snd λj hj=>by
      unfold ub at hj;by_cases z:j∈((zat (s.deed d).done).take i).map (·.1)
      . rw[yaj z]at hj;exact hks j hj
      . rw[yai z]at hj;exact sm.bs j hj) sm.seen
     have step:∀(H3:Hp) (l3:List (Str×Int)),H3 (ad .zcC)=some (.dK (bkV l3))->zcL H2 (ad .zcC) H3->zbs l3 (up (ub kv s.book (((zat (s.deed d).done).take i).map (·.1))) k (kv k))->∃v2 v3,[some (.ref (ad .hall)),some (.int d),some (V.str k),some (V.int v)]=[some (.ref (ad .hall)),some (.int (d:Int)),v2,v3]/\zai A ρ ad { s with book:=ub kv s.book (((zat (s.deed d).done).take (i+1)).map (·.1)) } kv H3/\Frame ρ H ρ H3/\H3 ql=some (.lst us)/\zap H3 us ((zat (s.deed d).done).map zeA):=λH3 l3 e3 k3 b3=>by
      obtain⟨h3,f3⟩:=h2.znB T.ok e3 k3 b3;refine⟨_,_,rfl,?_,f2.trans f3,k3 _ _ hq2 (zbj hq2 hl (λz=>nomatch z)),zap.mono (Imm.zg1 T.ok h2 (r:=.zcC) trivial k3) t2⟩;rw[e1,yav];rw[zsh]at h3;exact h3
     refine⟨r,_,rfl,SqT.of hr1,rfl,_,_,rfl,_,_,rfl,rfl,?_⟩;refine⟨_,rfl,_,rfl,_,_,dx2,_,_,rfl,hp2,T.zaj,T.zbd,rfl,_,_,rfl,dg,_,rfl,?_⟩;cases hkv:kv k with
     | some u =>
      rw[hkv]at dg;refine zbv rfl ?_;refine⟨_,rfl,_,_,dx2,_,_,rfl,hp2,T.zaj,T.zbd,rfl,_,rfl,_,_,rfl,dg,_,rfl,_,_,dx2,_,_,rfl,hp2,T.zaj,T.zbm,rfl,_,rfl,_,_,rfl,DPut.k (k:=Sum.inr k) hl (by rw[zkK,yaw];omega),?_⟩;rw[zkJ];refine step _ _ zab (λb o e hb=>by rw[zag hb];exact e) ?_;rw[hkv];exact hb.put k u
     | none =>
      refine zaJ rfl ?_;refine⟨_,rfl,_,_,dx2,_,_,rfl,hp2,T.zaj,T.zbm,rfl,_,rfl,.inl ⟨_,.of hl⟩,_,rfl,_,Sum.inr k,hl,rfl,λv hv=>?_,λhv=>?_⟩
      . rw[zrL];refine step _ _ zab (λb o e hb=>by rw[zag hb];exact e) ?_;rw[hkv];exact hb.drop k
      . refine step _ _ hl (λb o e _=>e) ?_;rw[hkv];refine hb.zqB ?_;rw[hb.val]at hv;simpa using hv
   . rintro σ H2 ⟨v2,v3,rfl,h2,f2,_⟩;rw[hul,yaG,zo9]at h2;exact q H2 h2 f2
theorem zjb(T:Txt K mg A F):FnOk P w K mg base (CX1 P w) 4 (F.f 29) (F.fd 29) ["self","key"] (zss A):=by
 have G_Desk_lets_first:=@zgk P w K mg base A F T;have G_Hall_carry_out:=@zdN P w K mg base A F T;refine T.zkW.okN zds (λvs H Q E h=>?_) (λcdv A' outer s H vs Q E hr h=>?_)
 . obtain⟨ρ,ad,s,kv,k,T,rfl,_⟩:=h
   rfl
 . obtain⟨ρ,ad,s,kv,k,T0,rfl,hh,c,L,hk,q⟩:=h;have hu:=zdT hr;obtain⟨dx,hp⟩:=hh.hall;refine⟨_,(zac (zaL (i:=2) zds.nd rfl (by walk_at "loc") (zd5 hu (zas (pv 0) rfl) (pv 1) (λ_ _=>rfl)))
    (zaf (zhK ya4 (zlm (za7 (pv 2) T.zaY T.zgZ G_Desk_lets_first (hmr hr) T.zhb .nil zaz)) (zac (zaL (i:=3) zds.nd rfl (by walk_at "loc") (zet yaF ycY ycZ zrp (zas (pv 2) rfl) (zaa zak zad)))
    (zaf (zaI (zaA (pv 0) T.zaj T.zej G_Hall_carry_out (hmr hr) T.zeq .nil zaz (zaa (zaT za0 (pv 3) zak (λ_ _=>rfl)) (zaa (zas (zaT zbF (zas (pv 0) rfl) (zaT za0 (pv 3) zak (λ_ _=>rfl)) (λ_ _=>rfl)) rfl) zad))))))))),?_⟩
   refine⟨_,rfl,_,_,dx,_,_,rfl,hp,T.zaj,T.zbE,rfl,_,rfl,_,_,rfl,hh.zgw hk,?_⟩;refine⟨λm σ H2=>∃t v3,σ=[some (.ref (ad .hall)),some (.str k),some (.ref (ad (.desk k))),v3]/\m=(t.rows k).length/\zai A ρ ad t kv H2/\Frame ρ H ρ H2/\Core t none/\Lim t T0/\t.seen=s.seen/\zbq (s.rows k).length s k=zbq (t.rows k).length t k,⟨_,s,none,rfl,rfl,hh,.refl,c,L,rfl,rfl⟩,?_⟩;rintro m σ H2 ⟨t,v3,rfl,rfl,h2,f2,c2,L2,es,eg⟩;have hk2:k∈t.seen:=by rw[es];exact hk
   have sm:=L2.sm c2;have D:=h2.desk hk2;obtain⟨dd,hdk⟩:=D.ob;refine⟨_,rfl,_,dd,_,rfl,hdk,rfl,_,_,_,_,_,rfl,D,sm.hl k,sm.hn k,λH3 m3=>?_⟩;refine⟨_,rfl,?_⟩;cases hrw:t.rows k with
   | nil =>
    refine zaJ rfl (q H3 ?_ (f2.trans (Frame.grow m3)));rw[eg,zgr hrw];exact h2.grow m3
   | cons pr r =>
    obtain⟨d,w'⟩:=pr;cases hlt:lets (t.held k) d w' with
    | false =>
     refine zaJ hlt (q H3 ?_ (f2.trans (Frame.grow m3)));rw[eg,zfb hrw hlt];exact h2.grow m3
    | true =>
     refine zbv hlt ?_;have h3:=h2.grow m3;have D3:=h3.desk hk2;obtain⟨us,hus,tus⟩:=D3.rw;obtain⟨dd3,hdk3⟩:=D3.ob;rw[hrw]at tus;obtain⟨u0,us',rfl,⟨pp,rfl,hpp⟩,tus'⟩:∃u0 us',us=u0::us'/\TupAt H3 u0 (zcF (d,w'))/\zap H3 us' (r.map zcF):=by
       cases tus with
       | cons a b=>exact⟨_,_,rfl,a,b⟩
     have kp4:zcL H3 (ad (.row k)) (upd H3 (ad (.row k)) (.lst us')):=λb o e hb=>by rw[zag hb];exact e
     have im4:=Imm.zg1 T.ok h3 (r:=.row k) hk2 kp4;obtain⟨h4,f4⟩:=h3.zrS T.ok hk2 (r:=r) zab kp4 (zap.mono im4 tus');have hpp4:=im4.tup _ _ hpp;refine⟨λσ' H'=>∃t' v3,σ'=[some (.ref (ad .hall)),some (.str k),some (.ref (ad (.desk k))),v3]/\(t'.rows k).length < ((d,w')::r).length/\zai A ρ ad t' kv H'/\Frame ρ H ρ H'/\Core t' none/\Lim t' T0/\t'.seen=s.seen/\zbq (s.rows k).length s k=zbq (t'.rows k).length t' k,λσ' H' ⟨t',v3,e,lt,a1,a2,a3,a4,a5,a6⟩=>⟨_,lt,t',v3,e,rfl,a1,a2,a3,a4,a5,a6⟩,?_⟩;refine⟨_,rfl,_,_,dd3,_,_,rfl,hdk3,T.zaY,T.za6,rfl,.inl ⟨rfl,_,SqL.of hus⟩,ad (.row k),_,0,0,_,rfl,rfl,hus,by decide,by decide,(zqf (n:=(V.ref pp::us').length) (i:=0) (j:=0) (by unfold ixN;rw[yaj (by decide),yaj (by simp)];rfl)).1,rfl,?_⟩;show tSeq _ _ _ _ (upd H3 (ad (.row k)) (.lst us'));generalize upd H3 (ad (.row k)) (.lst us')=H4 at *;have hm:(d,w')∈t.rows k:=by rw[hrw];exact yac
     obtain⟨hst,a,ha,hak,haw⟩:=c2.rAct k _ hm;have hdn:d < t.n:=c2.lt (.inr hst);obtain⟨dr,wv,hr4,hw4⟩:=h4.rcd hdn;obtain⟨dx4,hp4⟩:=h4.hall;have hwo:wantOf (t.deed d)=some a:=by
       have hst:(t.deed d).st=.waiting:=hst;unfold wantOf;rw[yaj hst];exact ha
     have hw4:zcK A H4 wv (wantOf (t.deed d)):=hw4;rw[hwo]at hw4;have sm4:Sm { t with rows:=up t.rows k r }:=⟨sm.n,sm.seen,sm.snd,sm.dn,sm.lg,sm.kp,sm.hl,sm.hn,(λj=>by
       show(up t.rows k r j).length<=1000;by_cases z:j=k
       . subst z;rw[zae];have:=sm.rl j;rw[hrw,yaP]at this;omega
       . rw[zao z];exact sm.rl j),sm.bs⟩
     refine⟨_,rfl,_,dx4,_,rfl,hp4,rfl,_,rfl,pp,_,_,_,rfl,rfl,SqT.of hpp4,rfl,_,rfl,_,_,dx4,_,_,rfl,hp4,T.zaj,T.zaF,rfl,_,rfl,pp,_,_,_,rfl,rfl,SqT.of hpp4,rfl,_,_,_,_,rfl,rfl,SqL.of h4.recs,zbH (h4.zgf hdn),_,_,dr,_,_,rfl,hr4,T.zax,T.za9,rfl,ρ,ad,_,kv,d,wv,a,rfl,h4,sm4,hdn,by rw[hak];exact hk2,hw4,λH5 h5 f5=>?_⟩;have hak:a.key=k:=hak;have haw:a.wr=w':=haw;rw[hak,haw,<-zoI c2 hrw]at h5;have e1:zbq 1 t k=doIt (take { t with rows:=up t.rows k r } d k w') d a:=by
       rw[zfc hrw hlt ha];rfl
     rw[<-e1]at h5;have er:(zbq 1 t k).rows k=r:=by
       rw[e1,zcI];exact zae
     obtain⟨g1,g2⟩:=zoH (k:=k) (f:=1) c2;refine⟨zbq 1 t k,_,rfl,?_,h5,((f2.trans (Frame.grow m3)).trans f4).trans f5,c2.zbq,⟨Ext.zbq L2.e c2,L2.t,by rw[g2];exact L2.n,by rw[g1];exact L2.sn⟩,by rw[g1];exact es,?_⟩
     . rw[er,yaP];omega
     . rw[eg,er,e1,hrw,yaP,zfc hrw hlt ha]
theorem zim(T:Txt K mg A F):FnOk P w K mg base (CX1 P w) 5 (F.f 30) (F.fd 30) ["self","deed","state"] (zuM A):=by
 have G_Record_touched_keys:=@zeu P w K mg base A F T;have G_Desk_leave:=@zkl P w K mg base A F T;have G_Hall_let_on:=@zjb P w K mg base A F T;refine T.zo6.okN zc5 (λvs H Q E h=>?_) (λcdv A' outer s H vs Q E hr h=>?_)
 . obtain⟨ρ,ad,s,s0,kv,d,st,T0,rfl,_⟩:=h
   rfl
 . obtain⟨ρ,ad,s,s0,kv,d,st,T0,rfl,hh,c0,L0,hd0,e1,e2,e3,e4,e5,c1,L1,hst,hd,q⟩:=h;have hu:=zdT hr;obtain⟨dx,hp⟩:=hh.hall;obtain⟨wv,ra,hw⟩:=hh.recAt hd;obtain⟨dr,hrc⟩:=ra.ob;have sm0:=L0.sm c0;have ek:(s.deed d).done.map (·.key)++zdh (wantOf (s.deed d))=touched s0 d:=by rw[zhs];unfold touched;rw[e1]
   have hts:∀k∈touched s0 d,k∈s.seen:=λk hk=>by rw[e4];exact zeD c0 L0.e k hk
   have hlen:(ordS (touched s0 d)).length<=4:=yaA (znK _ s0.seen (zeD c0 L0.e) L0.e.snd) L0.sn;refine⟨_,(zac (zaL (i:=3) zc5.nd rfl (by walk_at "loc") (zaT zbF (zas (pv 0) rfl) (pv 1) (λ_ _=>rfl)))
     (zac (zaL (i:=4) zc5.nd rfl (by walk_at "loc") (za7 (pv 3) T.zax T.zeS G_Record_touched_keys (hmr hr) T.ze0 .nil zaz))
     (zac (zb7 (pv 3) (pv 2) rfl)
     (zac (zb7 (pv 3) zgj rfl)
     (zac (zdj ya4 rfl (zeM (pv 4)) (zaS (i:=5) zc5.nd rfl (by walk_at "loc")) (zaf (zaI (zaA (zd5 hu (zas (pv 0) rfl) (pv 5) (λ_ _=>rfl)) T.zaY T.zlH G_Desk_leave (hmr hr) T.zl9 .nil zaz (zaa (pv 1) zad)))))
     (zaf (zdj ya4 rfl (zeM (pv 4)) (zaS (i:=5) zc5.nd rfl (by walk_at "loc")) (zaf (zaI (zaA (pv 0) T.zaj T.zkv G_Hall_let_on (hmr hr) T.zkN .nil zaz (zaa (pv 5) zad))))))))))),?_⟩
   refine⟨_,rfl,_,_,dx,_,_,rfl,hp,T.zaj,T.zaF,rfl,_,rfl,_,_,_,_,rfl,rfl,SqL.of hh.recs,zbH (hh.zgf hd),?_⟩;refine⟨_,rfl,_,dr,_,rfl,hrc,rfl,_,_,_,_,_,_,rfl,ra,hw,by have:=sm0.dn d;rw[e1];omega,by rw[ek];omega,λH1 qt nq m1 hq=>?_⟩;rw[ek]at hq;have h1:=hh.grow m1;refine⟨_,rfl,_,rfl,_,_,dr,_,rfl,m1 _ _ hrc,T.zax,T.zaC,yan rfl,_,rfl,_,_,dr,_,rfl,zab,T.zax,T.za9,yan rfl,?_⟩;rw[zj3];have kp2:zcL H1 (ad (.rcd d)) (upd H1 (ad (.rcd d)) (.ins A.zaG dr (recF st (ad (.did d)) .non))):=λb o e hb=>by rw[zag hb];exact e
   obtain⟨h2,f2⟩:=h1.zpx (H':=upd H1 (ad (.rcd d)) (.ins A.zaG dr (recF st (ad (.did d)) .non))) T.ok hd (D:={ s.deed d with st:=st }) (w:=.non) zab kp2 (by unfold wantOf;rw[yai hst];rfl) rfl;have hq2:=(Imm.zg1 T.ok h1 (r:=.rcd d) hd kp2).tup _ _ hq;have f02:=(Frame.grow (ρ:=ρ) m1).trans f2;have ro0:ρ qt=.other:=hh.fr _ nq;show tSeq _ _ _ _ (upd H1 (ad (.rcd d)) (.ins A.zaG dr (recF st (ad (.did d)) .non)));generalize upd H1 (ad (.rcd d)) (.ins A.zaG dr (recF st (ad (.did d)) .non))=H2 at *;have h2:zai A ρ ad (zgc s d st) kv H2:=h2;refine⟨_,rfl,qt,rfl,⟨_,SqT.of hq2⟩,?_⟩;refine zg8 (xs:=(ordS (touched s0 d)).map V.str) (λi σ H'=>∃ρ' ad' v5,σ=[some (.ref (ad .hall)),some (.int d),some (.str (stS st)),some (.ref (ad (.rcd d))),some (.ref qt),v5]/\ad' Role.hall=ad .hall/\zai A ρ' ad' (((ordS (touched s0 d)).take i).foldl (λs k=>zeU s d k) (zgc s d st)) kv H'/\Frame ρ H ρ' H'/\H' qt=some (.tup ((ordS (touched s0 d)).map V.str))/\ρ' qt=.other) ⟨ρ,ad,_,rfl,rfl,h2,f02,hq2,ro0⟩ (λi σ H' _ ⟨_,_,_,_,_,_,_,e,_⟩=>SqT.of e) ?_ ?_
   . rintro i x σ H3 hx ⟨ρ3,ad3,v5,rfl,ea,h3,f3,hq3,ro3⟩;rw[yak]at hx;obtain⟨k,hk,rfl⟩:=yao.mp hx;have e6:(ordS (touched s0 d)).take (i+1)=(ordS (touched s0 d)).take i++[k]:=by rw[yaD,hk];rfl
     have hks:k∈s.seen:=hts k (zaX.mp (yaS hk));have hks3:k∈(((ordS (touched s0 d)).take i).foldl (λs k=>zeU s d k) (zgc s d st)).seen:=by rw[zfZ];exact hks
     obtain⟨dx3,hp3⟩:=h3.hall;have D:=h3.desk hks3;obtain⟨dd,hdk⟩:=D.ob;rw[<-ea];refine⟨_,rfl,_,_,dx3,_,_,rfl,hp3,T.zaj,T.zbE,rfl,_,rfl,_,_,rfl,h3.zgw hks3,_,dd,_,rfl,hdk,rfl,_,rfl,_,_,_,dd,_,_,d,rfl,D,hdk,?_,λH4 rw' us n0 a1 a2 a3 a4 a5=>?_⟩
     . rw[(zgn d _ _).2];show(if k∈(ordS (touched s0 d)).take i then less (s.rows k) d else s.rows k).length<=1000;have:=sm0.rl k;rw[e3];split
       . exact yaA (ybW _ _) this
       . exact this
     . obtain⟨ρ4,ad4,ea4,h4,f4⟩:=h3.leave T.ok hks3 n0 a1 a2 a3 a4 a5;refine⟨ρ4,ad4,_,by rw[ea];rfl,by rw[ea4],?_,f3.trans f4,(f4 _ _ hq3 ro3).1,(f4 _ _ hq3 ro3).2⟩;rw[e6,ybA];exact h4
   . rintro σ H3 ⟨ρ3,ad3,v5,rfl,ea,h3,f3,hq3,ro3⟩;rw[yaa,yaG,zlL λk hk=>?_]at h3
     rotate_left
     . have:=zir (d:=d) (k:=k) c0 L0.e λz=>hk (zaX.mpr z);show less (s.held k) d=s.held k/\less (s.rows k) d=s.rows k;rw[e2,e3];exact this
     have ef:free ordS (zgc s d st) d=zaM (letGo (zgc s d st) d) (ordS (touched s0 d)):=zlS ordS zrn c0 L0.e hd0 c1 e2 e3 e4;refine⟨_,rfl,qt,rfl,⟨_,SqT.of hq3⟩,?_⟩;refine zg8 (xs:=(ordS (touched s0 d)).map V.str) (λi σ H'=>∃v5,σ=[some (.ref (ad .hall)),some (.int d),some (.str (stS st)),some (.ref (ad (.rcd d))),some (.ref qt),v5]/\zai A ρ3 ad3 (zaM (letGo (zgc s d st) d) ((ordS (touched s0 d)).take i)) kv H'/\Frame ρ H ρ3 H'/\H' qt=some (.tup ((ordS (touched s0 d)).map V.str))) ⟨_,rfl,h3,f3,hq3⟩ (λi σ H' _ ⟨_,_,_,_,e⟩=>SqT.of e) ?_ ?_
     . rintro i x σ H4 hx ⟨v5,rfl,h4,f4,hq4⟩;rw[yak]at hx;obtain⟨k,hk,rfl⟩:=yao.mp hx;have e6:(ordS (touched s0 d)).take (i+1)=(ordS (touched s0 d)).take i++[k]:=by rw[yaD,hk];rfl
       have hks:k∈s.seen:=hts k (zaX.mp (yaS hk));obtain⟨dx4,hp4⟩:=h4.hall;have c4:Core (zaM (letGo (zgc s d st) d) ((ordS (touched s0 d)).take i)) none:=Core.zaM c1;have s4:=zd9 ((ordS (touched s0 d)).take i) (letGo (zgc s d st) d) c1;have n4:=zkC ((ordS (touched s0 d)).take i) (letGo (zgc s d st) d) c1;rw[<-ea];refine⟨_,rfl,_,dx4,_,rfl,hp4,rfl,_,rfl,ρ3,ad3,_,kv,k,T0,rfl,h4,c4,⟨L1.e.zaM c1,L1.t,by rw[n4];exact L1.n,by rw[s4];exact L1.sn⟩,by rw[s4];exact hks,λH5 h5 f5=>⟨_,by rw[ea];rfl,?_,f4.trans f5,(f5 _ _ hq4 ro3).1⟩⟩;rw[e6,zjN];exact h5
     . rintro σ H4 ⟨v5,rfl,h4,f4,hq4⟩;rw[yaa,yaG,<-ef]at h4;exact q H4 ρ3 ad3 ea h4 f4
theorem zhm(T:Txt K mg A F):FnOk P w K mg base (CX1 P w) 6 (F.f 31) (F.fd 31) ["self","deed"] (ztI A):=by
 have G_Hall_undo:=@zlx P w K mg base A F T;have G_Hall_end:=@zim P w K mg base A F T;refine T.znq.okN zlh (λvs H Q E h=>?_) (λcdv A' outer s H vs Q E hr h=>?_)
 . obtain⟨ρ,ad,s,d,T0,rfl,_⟩:=h
   rfl
 . obtain⟨ρ,ad,s,d,T0,rfl,hh,c,L,hd0,hact,q⟩:=h;have hd:=c.lt hact;have sm:=L.sm c;obtain⟨dx,hp⟩:=hh.hall;obtain⟨us,hus,tus⟩:=hh.rows;have hul:us.length=s.log.length:=by rw[tus.length,yaa]
   refine⟨_,(zac (zaI (zet yaF yaQ yaR zbw (zas (pv 0) rfl) (zaa (za4 (zaa (zci rfl T.zqt) (zaa (pv 1) zad))) zad)))
     (zac (zaI (zaA (pv 0) T.zaj T.zmN G_Hall_undo (hmr hr) T.zm8 .nil zaz (zaa (pv 1) zad)))
     (zaf (zaI (zaA (pv 0) T.zaj T.zjE G_Hall_end (hmr hr) T.zjZ .nil zaz (zaa (pv 1) (zaa (zci rfl T.zg7) zad))))))),?_⟩
   refine⟨_,rfl,_,_,dx,_,_,rfl,hp,T.zaj,T.zcp,rfl,.inl ⟨rfl,_,SqL.of hus⟩,_,rfl,sz2,λn nn=>⟨ad .rows,_,_,rfl,rfl,zal hus nn,by have:=sm.lg;rw[hul,yaw];omega,?_⟩⟩;have h3:=hh.grow (H':=upd H n (.tup [V.str "give up",V.int (d:Int)])) (Same.zaq nn);obtain⟨h4,f4⟩:=h3.zob (H':=upd (upd H n (.tup [V.str "give up",V.int (d:Int)])) (ad .rows) (.lst (us++[.ref n]))) T.ok (row:=.drop d) (zal hus nn) zab (λb o e hb=>by rw[zag hb];exact e) ⟨n,rfl,by rw[zag (zah hus nn).symm,zab];rfl⟩;have f04:=(Frame.grow (ρ:=ρ) (Same.zaq (o:=.tup [V.str "give up",V.int (d:Int)]) nn)).trans f4;show tSeq _ _ _ _ (upd (upd H n (.tup [V.str "give up",V.int (d:Int)])) (ad .rows) (.lst (us++[.ref n])));generalize upd (upd H n (.tup [V.str "give up",V.int (d:Int)])) (ad .rows) (.lst (us++[.ref n]))=H4 at *;obtain⟨dx4,hp4⟩:=h4.hall;refine⟨_,rfl,_,dx4,_,rfl,hp4,rfl,_,rfl,ρ,ad,_,zam s,d,rfl,h4,⟨sm.n,sm.seen,sm.snd,sm.dn,?_,sm.kp,sm.hl,sm.hn,sm.rl,sm.bs⟩,hd,L.e.zje,λH5 h5 f5=>?_⟩
   . show(s.log++[_]).length<=3000;have:=L.e.lg;have:=L.t;rw[yah,yaE];omega
   . obtain⟨dx5,hp5⟩:=h5.hall;refine⟨_,rfl,_,dx5,_,rfl,hp5,rfl,_,rfl,ρ,ad,_,s,zam s,d,.dropped,T0,rfl,h5,c,L,hd0,rfl,rfl,rfl,rfl,rfl,c.drops hact,L.drops c hact,by decide,hd,λH6 ρ6 ad6 ea6 h6 f6=>q H6 ρ6 ad6 ea6 h6 ((f04.trans f5).trans f6)⟩
theorem zlw(T:Txt K mg A F):FnOk P w K mg base (CX1 P w) 7 (F.f 32) (F.fd 32) ["self","deed","want"] (ztz A):=by
 have G_Desk_line_up:=@ziq P w K mg base A F T;have G_Hall_greatest_all_round:=@zdd P w K mg base A F T;have G_Hall_drop:=@zhm P w K mg base A F T;refine T.znl.okN zdi (λvs H Q E h=>?_) (λcdv A' outer s H vs Q E hr h=>?_)
 . obtain⟨ρ,ad,s,d,a,wv,T0,rfl,_⟩:=h
   rfl
 . obtain⟨ρ,ad,s,d,a,wv,T0,rfl,hh,hk,⟨pw,dw,rfl,hw⟩,hd,sm,c1,hh1,th1,L1,q⟩:=h;have hu:=zdT hr;obtain⟨dx,hp⟩:=hh.hall;obtain⟨dr,w0,hrc,_⟩:=hh.rcd hd;refine⟨_,(zac (zaL (i:=3) zdi.nd rfl (by walk_at "loc") (zaT zbF (zas (pv 0) rfl) (pv 1) (λ_ _=>rfl)))
    (zac (zb7 (pv 3) (zci rfl T.zlR) rfl)
    (zac (zb7 (pv 3) (pv 2) rfl)
    (zac (zaI (zaA (zd5 hu (zas (pv 0) rfl) (zas (pv 2) rfl) (λ_ _=>rfl)) T.zaY T.zjd G_Desk_line_up (hmr hr) T.zjm .nil zaz (zaa (pv 1) (zaa (zas (pv 2) rfl) zad))))
    (zac (zaL (i:=4) zdi.nd rfl (by walk_at "loc") (zaA (pv 0) T.zaj T.zb8 G_Hall_greatest_all_round (hmr hr) T.zcb .nil zaz (zaa (pv 1) zad)))
    (zaf (zhK ya4 (zgg (zmC (pv 4))) (zac (zaI (zaA (pv 0) T.zaj T.ziu G_Hall_drop (hmr hr) T.ziV .nil zaz (zaa (pv 4) zad)))
    (zaf (zaL (i:=4) zdi.nd rfl (by walk_at "loc") (zaA (pv 0) T.zaj T.zb8 G_Hall_greatest_all_round (hmr hr) T.zcb .nil zaz (zaa (pv 1) zad)))))))))))),?_⟩
   refine⟨_,rfl,_,_,dx,_,_,rfl,hp,T.zaj,T.zaF,rfl,_,rfl,_,_,_,_,rfl,rfl,SqL.of hh.recs,zbH (hh.zgf hd),?_⟩;refine⟨_,rfl,_,_,dr,_,rfl,hrc,T.zax,T.zaC,yan rfl,_,rfl,_,rfl,_,_,dr,_,rfl,zab,T.zax,T.za9,yan rfl,?_⟩;rw[zj3];have kp2:zcL H (ad (.rcd d)) (upd H (ad (.rcd d)) (.ins A.zaG dr (recF .waiting (ad (.did d)) (.ref pw)))):=λb o e hb=>by rw[zag hb];exact e
   have im2:=Imm.zg1 T.ok hh (r:=.rcd d) hd kp2;have hw2:=im2.want _ _ _ hw;obtain⟨h2,f2⟩:=hh.zpx (H':=upd H (ad (.rcd d)) (.ins A.zaG dr (recF .waiting (ad (.did d)) (.ref pw)))) T.ok hd (D:={ s.deed d with st:=.waiting,wish:=some a }) (w:=.ref pw) zab kp2 ⟨pw,dw,rfl,hw2⟩ rfl;show tSeq _ _ _ _ (upd H (ad (.rcd d)) (.ins A.zaG dr (recF .waiting (ad (.did d)) (.ref pw))));generalize upd H (ad (.rcd d)) (.ins A.zaG dr (recF .waiting (ad (.did d)) (.ref pw)))=H2 at *;obtain⟨dx2,hp2⟩:=h2.hall;have D:=h2.desk hk;obtain⟨dd,hdk⟩:=D.ob;refine⟨_,rfl,_,_,dx2,_,_,rfl,hp2,T.zaj,T.zbE,rfl,_,rfl,pw,_,dw,_,_,rfl,hw2,T.za8,T.zbc,rfl,_,_,rfl,h2.zgw hk,_,dd,_,rfl,hdk,rfl,_,rfl,_,rfl,pw,_,dw,_,_,rfl,hw2,T.za8,T.zbD,rfl,_,_,_,_,_,d,a.wr,rfl,D,sm.rl _,λH3 us a1 a2 a3=>?_⟩;obtain⟨h3,f3⟩:=h2.zrS T.ok hk a1 a3 a2;have h3:zai A ρ ad (wait s d a) (zam s) H3:=h3;obtain⟨dx3,hp3⟩:=h3.hall;refine⟨_,rfl,_,dx3,_,rfl,hp3,rfl,_,rfl,ρ,ad,_,zam s,d,rfl,h3,c1,hh1,th1,L1.sm c1,hd,λH4 m4=>?_⟩;refine⟨λm σ H'=>∃t ρ' ad' f,σ=[some (.ref (ad .hall)),some (.int d),some (.ref pw),some (.ref (ad (.rcd d))),some (gotV (rings t).getLast?)]/\m=actN t/\ad' Role.hall=ad .hall/\zai A ρ' ad' t (zam s) H'/\Frame ρ H ρ' H'/\Core t none/\Head t/\Thru t d/\Lim t T0/\t.n=s.n/\zam t=zam s/\actN t<=f/\settle ordS s.n (wait s d a)=settle ordS f t,⟨_,wait s d a,ρ,ad,s.n,rfl,rfl,rfl,h3.grow m4,(f2.trans f3).trans (Frame.grow m4),c1,hh1,th1,L1,rfl,zjJ,zqU _,rfl⟩,?_⟩;rintro m σ H5 ⟨t,ρ5,ad5,f,rfl,rfl,ea,h5,f5,c5,hd5,th5,L5,en,ek,hf,es⟩;refine⟨_,rfl,_,rfl,?_⟩;cases hg:(rings t).getLast? with
   | none =>
    refine zaJ rfl (q H5 ρ5 ad5 ea ?_ f5);rw[es,zmo ordS hg];exact h5
   | some g =>
    refine zbv rfl ?_;have hga:(t.deed g).act:=.inr (zaO (zbI (ya2 hg)).2);have lt:=zma ordS c5 hga;refine⟨λσ' H'=>∃t' ρ' ad' f,σ'=[some (.ref (ad .hall)),some (.int d),some (.ref pw),some (.ref (ad (.rcd d))),some (gotV (rings t').getLast?)]/\actN t' < actN t/\ad' Role.hall=ad .hall/\zai A ρ' ad' t' (zam s) H'/\Frame ρ H ρ' H'/\Core t' none/\Head t'/\Thru t' d/\Lim t' T0/\t'.n=s.n/\zam t'=zam s/\actN t'<=f/\settle ordS s.n (wait s d a)=settle ordS f t',λσ' H' ⟨t',ρ',ad',f,e,lt,r⟩=>⟨_,lt,t',ρ',ad',f,e,rfl,r⟩,?_⟩;obtain⟨dx5,hp5⟩:=h5.hall;rw[<-ea];refine⟨_,rfl,_,dx5,_,rfl,hp5,rfl,_,rfl,ρ5,ad5,t,g,T0,rfl,by rw[ek];exact h5,c5,L5,hd5,hga,λH6 ρ6 ad6 ea6 h6 f6=>?_⟩;obtain⟨dx6,hp6⟩:=h6.hall;have c6:=c5.drop ordS hga;have hd6:=Head.drop ordS (λl k=>zaX) c5 hga;have th6:=th5.mono (zoh ordS c5 hga);have L6:=L5.drop c5 hga;have n6:(drop ordS t g).n=s.n:=by rw[zlE ordS c5 hga];exact en
    rw[<-ea6];refine⟨_,rfl,_,dx6,_,rfl,hp6,rfl,_,rfl,ρ6,ad6,_,zam t,d,rfl,h6,c6,hd6,th6,L6.sm c6,by rw[n6];exact hd,λH7 m7=>?_⟩;obtain⟨f',rfl⟩:∃f',f=f'+1:=⟨f - 1,by omega⟩
    refine⟨drop ordS t g,ρ6,ad6,f',by rw[ea6,ea];rfl,lt,by rw[ea6,ea],by rw[<-ek];exact h6.grow m7,(f5.trans f6).trans (Frame.grow m7),c6,hd6,th6,L6,n6,by rw[zg2 ordS c5 hga];exact ek,by omega,?_⟩;rw[es,zmn ordS hg]
theorem zjc(T:Txt K mg A F):FnOk P w K mg base (CX1 P w) 1 (F.f 33) (F.fd 33) ["self","deed","want"] (zq8 A):=by
 refine T.zkX.okN zfk (λvs H Q E h=>?_) (λcdv A' outer s H vs Q E hr h=>?_)
 . obtain⟨ρ,ad,s,kv,d,a,wv,rfl,_⟩:=h
   rfl
 . obtain⟨ρ,ad,s,kv,d,a,wv,rfl,hh,⟨pw,dw,rfl,hw⟩,hd,did,q⟩:=h;obtain⟨dx,hp⟩:=hh.hall;obtain⟨dr,w0,hrc,_⟩:=hh.rcd hd;obtain⟨us,hus,tus⟩:=hh.did hd;refine⟨_,(zac (zaL (i:=3) zfk.nd rfl (by walk_at "loc") (zaT zbF (zas (pv 0) rfl) (pv 1) (λ_ _=>rfl)))
    (zac (zbn (zaw zb5 (zas (pv 3) rfl) (zci rfl T.zg7) (zaB _)) (zaf (zay (za4 (zaa zaQ zad)))) zaP)
    (zac (zbn (zaw zb5 (zas (pv 3) rfl) (zci rfl T.zlR) (zaB _)) (zaf (zay (za4 (zaa zaQ zad)))) zaP)
    (zac (zbn (zaw zb5 (zas (pv 2) rfl) (zci rfl T.zdV) (zaB _)) (zaf (zay (za4 (zaa zaQ zad)))) zaP)
    (zaf (zay (za4 (zaa zaQ (zaa (zaT za0 (zaT zbF (zas (pv 3) rfl) (zsL zpc zak) (λ_ _=>rfl)) zak (λ_ _=>rfl)) zad))))))))),?_⟩
   refine⟨_,rfl,_,_,dx,_,_,rfl,hp,T.zaj,T.zaF,rfl,_,rfl,_,_,_,_,rfl,rfl,SqL.of hh.recs,zbH (hh.zgf hd),?_⟩;refine⟨_,rfl,_,_,dr,_,_,rfl,hrc,T.zax,T.zaC,rfl,rfl,_,rfl,?_⟩;have nst:∀(a b:DS),stS a≠stS b->decide (V.str (stS a)=V.str (stS b))=false:=λa b h=>yay λz=>h (V.str.inj z);cases hst:(s.deed d).st with
   | dropped =>
    refine zbv (yaz rfl) ⟨sz1,λn nn=>q _ n nn (Same.zaq nn) ?_⟩;rw[zab];unfold ansV;rw[hst]
   | waiting =>
    refine zaJ (nst .waiting .dropped (by decide +kernel)) ⟨_,rfl,_,_,dr,_,_,rfl,hrc,T.zax,T.zaC,rfl,rfl,_,rfl,?_⟩;rw[hst];refine zbv (yaz rfl) ⟨sz1,λn nn=>q _ n nn (Same.zaq nn) ?_⟩;rw[zab];unfold ansV;rw[hst]
   | zar =>
    refine zaJ (nst .zar .dropped (by decide +kernel)) ⟨_,rfl,_,_,dr,_,_,rfl,hrc,T.zax,T.zaC,rfl,rfl,_,rfl,?_⟩;rw[hst];refine zaJ (nst .zar .waiting (by decide +kernel)) ⟨_,rfl,pw,_,dw,_,_,rfl,hw,T.za8,T.zbD,rfl,rfl,_,rfl,?_⟩;refine zfp a.wr (zhU a.wr) ?_;have ea:ansV (s.deed d) a.wr=if a.wr then [V.str "done"] else [V.str "value",.int (zlM (s.deed d))]:=by unfold ansV;rw[hst]
    rw[ea]at q;cases hwr:a.wr with
    | true =>
     rw[hwr]at q;exact iteT ⟨sz1,λn nn=>q _ n nn (Same.zaq nn) zab⟩
    | false =>
     rw[hwr]at q;obtain⟨init,b,eb⟩:∃init b,(s.deed d).done=init++[b]:=by
      have hne:=did (.inl hst);exact⟨_,_,(ya9 hne).symm⟩
     have hul:us.length=init.length+1:=by rw[tus.length,yaa,eb];simp
     obtain⟨v,hv,pb,rfl,hpb⟩:=zeC tus (i:=init.length) (y:=actV b) (by rw[eb];simp);have hat:atI us (-1)=some (V.ref pb):=by
      obtain⟨ys,y,rfl⟩:∃ys y,us=ys++[y]:=⟨us.dropLast,us.getLast (by intro z;rw[z]at hul;simp at hul),(ya9 _).symm⟩
      have hl:ys.length=init.length:=by simpa using hul
      rw[zkQ];rw[<-hl]at hv;simpa using hv
     have el:zlM (s.deed d)=b.val:=by unfold zlM;rw[eb];simp
     refine iteF ⟨_,rfl,_,_,dr,_,_,rfl,hrc,T.zax,T.zbo,rfl,_,rfl,_,_,_,_,rfl,rfl,SqL.of hus,hat,pb,_,_,_,rfl,rfl,SqT.of hpb,rfl,sz2,λn nn=>q _ n nn (Same.zaq nn) ?_⟩;rw[zab,el];rfl
   | kept =>
    refine zaJ (nst .kept .dropped (by decide +kernel)) ⟨_,rfl,_,_,dr,_,_,rfl,hrc,T.zax,T.zaC,rfl,rfl,_,rfl,?_⟩;rw[hst];refine zaJ (nst .kept .waiting (by decide +kernel)) ⟨_,rfl,pw,_,dw,_,_,rfl,hw,T.za8,T.zbD,rfl,rfl,_,rfl,?_⟩;refine zfp a.wr (zhU a.wr) ?_;have ea:ansV (s.deed d) a.wr=if a.wr then [V.str "done"] else [V.str "value",.int (zlM (s.deed d))]:=by unfold ansV;rw[hst]
    rw[ea]at q;cases hwr:a.wr with
    | true =>
     rw[hwr]at q;exact iteT ⟨sz1,λn nn=>q _ n nn (Same.zaq nn) zab⟩
    | false =>
     rw[hwr]at q;obtain⟨init,b,eb⟩:∃init b,(s.deed d).done=init++[b]:=by
      have hne:=did (.inr hst);exact⟨_,_,(ya9 hne).symm⟩
     have hul:us.length=init.length+1:=by rw[tus.length,yaa,eb];simp
     obtain⟨v,hv,pb,rfl,hpb⟩:=zeC tus (i:=init.length) (y:=actV b) (by rw[eb];simp);have hat:atI us (-1)=some (V.ref pb):=by
      obtain⟨ys,y,rfl⟩:∃ys y,us=ys++[y]:=⟨us.dropLast,us.getLast (by intro z;rw[z]at hul;simp at hul),(ya9 _).symm⟩
      have hl:ys.length=init.length:=by simpa using hul
      rw[zkQ];rw[<-hl]at hv;simpa using hv
     have el:zlM (s.deed d)=b.val:=by unfold zlM;rw[eb];simp
     refine iteF ⟨_,rfl,_,_,dr,_,_,rfl,hrc,T.zax,T.zbo,rfl,_,rfl,_,_,_,_,rfl,rfl,SqL.of hus,hat,pb,_,_,_,rfl,rfl,SqT.of hpb,rfl,sz2,λn nn=>q _ n nn (Same.zaq nn) ?_⟩;rw[zab,el];rfl
theorem zio(T:Txt K mg A F):FnOk P w K mg base (CX1 P w) 8 (F.f 34) (F.fd 34) ["self","deed","want"] (ztL A):=by
 have G_Desk_init:=@zlA P w K mg base A F T;have G_Desk_lets_at_once:=@zfi P w K mg base A F T;have G_Hall_carry_out:=@zdN P w K mg base A F T;have G_Hall_wait:=@zlw P w K mg base A F T;have G_Hall_answer:=@zjc P w K mg base A F T;refine T.zo7.okN zh2 (λvs H Q E h=>?_) (λcdv A' outer s H vs Q E hr h=>?_)
 . obtain⟨ρ,ad,s,d,a,pw,dw,T0,rfl,_⟩:=h
   rfl
 . obtain⟨ρ,ad,s,d,a,pw,dw,T0,rfl,hh,R,ht,h4,hst,hw,row,q⟩:=h;have hu:=zdT hr;obtain⟨dx,hp⟩:=hh.hall;refine⟨_,(zac (zaL (i:=3) zh2.nd rfl (by walk_at "loc") (znH (zas (pv 0) rfl) (zas (pv 2) rfl) (zhL T.zsV G_Desk_init (hmr hr) rfl T.zuf T.zna .nil zaz) ⟨rfl,rfl,rfl,rfl⟩))
     (zac (zbn (zlm (zaA (pv 3) T.zaY T.zfX G_Desk_lets_at_once (hmr hr) T.zf5 .nil zaz (zaa (pv 1) (zaa (zas (pv 2) rfl) zad)))) (zaf (zaI (zaA (pv 0) T.zaj T.zej G_Hall_carry_out (hmr hr) T.zeq .nil zaz (zaa (pv 1) (zaa (pv 2) zad))))) (zaf (zaI (zaA (pv 0) T.zaj T.zmM G_Hall_wait (hmr hr) T.zm7 .nil zaz (zaa (pv 1) (zaa (pv 2) zad))))))
     (zaf (zay (zaA (pv 0) T.zaj T.zkw G_Hall_answer (hmr hr) T.zkO .nil zaz (zaa (pv 1) (zaa (pv 2) zad))))))),?_⟩
   refine⟨_,rfl,_,_,dx,_,_,rfl,hp,T.zaj,T.zbE,rfl,ad .zb6,rfl,.inl ⟨_,.of hh.zb6⟩,_,rfl,pw,_,dw,_,_,rfl,hw,T.za8,T.zbc,rfl,λx dx2 nx ndx nex=>⟨x,dx2,rfl,zab,λH1 hd rw nhd nrw e1 e2 e3 kp=>⟨rfl,?_⟩⟩⟩;have s0:Same H (upd (upd H dx2 (.own x)) x (.ins A.zcz dx2 [])):=(Same.zaq ndx).upd2 (by rw[zag nex.symm];exact nx);have s1:Same H H1:=λb o e=>kp b o (s0 b o e) (zah e nx);have hde:=s1 _ _ hh.zb6;have ln:(zem ad s.seen).length < sizeLine:=by have:=R.L.sn;unfold zem;rw[yaa,yaw];omega
   refine⟨_,Sum.inr a.key,hde,rfl,ln,λv hv=>?_,λhn=>?_⟩
   . rw[zeZ]at hv;have hk:a.key∈s.seen:=by
      by_cases z:a.key∈s.seen
      . exact z
      . rw[yai z]at hv;cases hv
     rw[yaj hk]at hv;cases hv;have es:see s a.key=s:=by unfold see;rw[yaj hk]
     obtain⟨H3,ρ3,ad3,eH,eρ,ea⟩:∃H3 ρ3 ad3,H3=H1/\ρ3=ρ/\ad3=ad:=⟨_,_,_,rfl,rfl,rfl⟩
     have h3:zai A ρ3 ad3 (see s a.key) (zam s) H3:=by rw[es,eH,eρ,ea];exact hh.grow s1
     have f03:Frame ρ H ρ3 H3:=by rw[eH,eρ];exact Frame.grow s1
     have ea3:ad3 Role.hall=ad .hall:=by rw[ea]
     have edk:ad (.desk a.key)=ad3 (.desk a.key):=by rw[ea]
     rw[edk,<-eH];have hd:d < s.n:=R.c.lt (.inl hst);have sms:Sm (see s a.key):=Sm.see R h4 ht;have hks:a.key∈(see s a.key).seen:=zbX;have hw3:H3 pw=_:=(f03 _ _ hw row).1;have ro3:ρ3 pw=.other:=(f03 _ _ hw row).2;have D:=h3.desk hks;obtain⟨dd,hdk⟩:=D.ob;refine⟨_,rfl,_,dd,_,rfl,hdk,rfl,_,rfl,_,rfl,pw,_,dw,_,_,rfl,hw3,T.za8,T.zbD,rfl,_,_,_,_,_,d,a.wr,rfl,D,sms.hl _,sms.hn _,λH4 m4=>⟨_,rfl,?_⟩⟩;have h4':=h3.grow m4;have f04:=f03.trans (Frame.grow m4);have hw4:=m4 _ _ hw3;obtain⟨dx4,hp4⟩:=h4'.hall;have wf:=zcm (a:=a) R hst;have wp:=zhT ordS (d:=d) (a:=a) R.c;rw[<-ea3];cases hb:((has ((see s a.key).held a.key) d || ((see s a.key).rows a.key).isEmpty) && lets ((see s a.key).held a.key) d a.wr) with
     | true =>
      rw[hb,yaj rfl]at wp;rw[wp]at q wf;refine iteT ⟨_,rfl,_,dx4,_,rfl,hp4,rfl,_,rfl,_,rfl,ρ3,ad3,_,zam s,d,.ref pw,a,rfl,h4',sms,hd,hks,⟨pw,dw,rfl,hw4⟩,λH5 h5 f5=>?_⟩;obtain⟨dx5,hp5⟩:=h5.hall;obtain⟨hw5,ro5⟩:=f5 _ _ hw4 ro3;refine⟨_,rfl,_,dx5,_,rfl,hp5,rfl,_,rfl,_,rfl,ρ3,ad3,_,zam s,d,a,.ref pw,rfl,h5,⟨pw,dw,rfl,hw5⟩,by rw[wf.1];exact hd,wf.2.2.2,λH6 q6 n6 m6 e6=>q H6 ρ3 ad3 q6 ea3 (h5.grow m6) ((f04.trans f5).trans (Frame.grow m6)) e6 (h5.fr _ n6)⟩
     | false =>
      rw[hb,yai yam]at wp;rw[wp]at q wf;obtain⟨c1,hh1,th1⟩:=zkR ordS (λl k=>zaX) R.c R.h R.a hst hb;refine iteF ⟨_,rfl,_,dx4,_,rfl,hp4,rfl,_,rfl,_,rfl,ρ3,ad3,see s a.key,d,a,.ref pw,T0+1,rfl,h4',hks,⟨pw,dw,rfl,hw4⟩,hd,sms,c1,hh1,th1,Lim.wait R hst h4 ht,λH5 ρ5 ad5 ea5 h5 f5=>?_⟩;obtain⟨dx5,hp5⟩:=h5.hall;obtain⟨hw5,ro5⟩:=f5 _ _ hw4 ro3;rw[<-ea5];refine⟨_,rfl,_,dx5,_,rfl,hp5,rfl,_,rfl,_,rfl,ρ5,ad5,_,zam s,d,a,.ref pw,rfl,h5,⟨pw,dw,rfl,hw5⟩,?_,?_,λH6 q6 n6 m6 e6=>q H6 ρ5 ad5 q6 (by rw[ea5,ea3]) (h5.grow m6) ((f04.trans f5).trans (Frame.grow m6)) e6 (h5.fr _ n6)⟩
      . have:=wf.1;show d < (settle ordS s.n (wait (see s a.key) d a)).n;rw[this];exact hd
      . exact wf.2.2.2
   . rw[zeZ]at hn;have hk:a.key∉s.seen:=λz=>by rw[yaj z]at hn;cases hn
     have es:see s a.key={ s with seen:=s.seen++[a.key] }:=by unfold see;rw[yai hk]
     have epk:putK (zem ad s.seen) (Sum.inr a.key) (V.ref x)=zem ad s.seen++[(Sum.inr a.key,V.ref x)]:=zkd _ (by rw[zeZ,yai hk]);rw[epk];obtain⟨g1,g2⟩:=R.c.zfg a.key hk;have hxd:x≠ad .zb6:=(zah hh.zb6 nx).symm;have hhd:hd≠ad .zb6:=(zah (s0 _ _ hh.zb6) nhd).symm;have hrd:rw≠ad .zb6:=(zah (s0 _ _ hh.zb6) nrw).symm;obtain⟨ρ3,ad3,ea3,h3,f03,edk⟩:=hh.ztg (H':=upd H1 (ad .zb6) (.dK (zem ad s.seen++[(Sum.inr a.key,V.ref x)]))) T.ok (k:=a.key) hk g1 g2 (p:=x) (hd:=hd) (rw:=rw) (dx:=dx2) nx (s0.free nhd) (s0.free nrw) zab (by rw[zag hxd];exact e1) (by rw[zag hhd];exact e2) (by rw[zag hrd];exact e3) (λb o e hb=>by rw[zag hb];exact s1 b o e);rw[<-es]at h3;generalize upd H1 (ad .zb6) (.dK (zem ad s.seen++[(Sum.inr a.key,V.ref x)]))=H3 at *;rw[<-edk];have hd:d < s.n:=R.c.lt (.inl hst);have sms:Sm (see s a.key):=Sm.see R h4 ht;have hks:a.key∈(see s a.key).seen:=zbX;have hw3:H3 pw=_:=(f03 _ _ hw row).1;have ro3:ρ3 pw=.other:=(f03 _ _ hw row).2;have D:=h3.desk hks;obtain⟨dd,hdk⟩:=D.ob;refine⟨_,rfl,_,dd,_,rfl,hdk,rfl,_,rfl,_,rfl,pw,_,dw,_,_,rfl,hw3,T.za8,T.zbD,rfl,_,_,_,_,_,d,a.wr,rfl,D,sms.hl _,sms.hn _,λH4 m4=>⟨_,rfl,?_⟩⟩;have h4':=h3.grow m4;have f04:=f03.trans (Frame.grow m4);have hw4:=m4 _ _ hw3;obtain⟨dx4,hp4⟩:=h4'.hall;have wf:=zcm (a:=a) R hst;have wp:=zhT ordS (d:=d) (a:=a) R.c;rw[<-ea3];cases hb:((has ((see s a.key).held a.key) d || ((see s a.key).rows a.key).isEmpty) && lets ((see s a.key).held a.key) d a.wr) with
     | true =>
      rw[hb,yaj rfl]at wp;rw[wp]at q wf;refine iteT ⟨_,rfl,_,dx4,_,rfl,hp4,rfl,_,rfl,_,rfl,ρ3,ad3,_,zam s,d,.ref pw,a,rfl,h4',sms,hd,hks,⟨pw,dw,rfl,hw4⟩,λH5 h5 f5=>?_⟩;obtain⟨dx5,hp5⟩:=h5.hall;obtain⟨hw5,ro5⟩:=f5 _ _ hw4 ro3;refine⟨_,rfl,_,dx5,_,rfl,hp5,rfl,_,rfl,_,rfl,ρ3,ad3,_,zam s,d,a,.ref pw,rfl,h5,⟨pw,dw,rfl,hw5⟩,by rw[wf.1];exact hd,wf.2.2.2,λH6 q6 n6 m6 e6=>q H6 ρ3 ad3 q6 ea3 (h5.grow m6) ((f04.trans f5).trans (Frame.grow m6)) e6 (h5.fr _ n6)⟩
     | false =>
      rw[hb,yai yam]at wp;rw[wp]at q wf;obtain⟨c1,hh1,th1⟩:=zkR ordS (λl k=>zaX) R.c R.h R.a hst hb;refine iteF ⟨_,rfl,_,dx4,_,rfl,hp4,rfl,_,rfl,_,rfl,ρ3,ad3,see s a.key,d,a,.ref pw,T0+1,rfl,h4',hks,⟨pw,dw,rfl,hw4⟩,hd,sms,c1,hh1,th1,Lim.wait R hst h4 ht,λH5 ρ5 ad5 ea5 h5 f5=>?_⟩;obtain⟨dx5,hp5⟩:=h5.hall;obtain⟨hw5,ro5⟩:=f5 _ _ hw4 ro3;rw[<-ea5];refine⟨_,rfl,_,dx5,_,rfl,hp5,rfl,_,rfl,_,rfl,ρ5,ad5,_,zam s,d,a,.ref pw,rfl,h5,⟨pw,dw,rfl,hw5⟩,?_,?_,λH6 q6 n6 m6 e6=>q H6 ρ5 ad5 q6 (by rw[ea5,ea3]) (h5.grow m6) ((f04.trans f5).trans (Frame.grow m6)) e6 (h5.fr _ n6)⟩
      . have:=wf.1;show d < (settle ordS s.n (wait (see s a.key) d a)).n;rw[this];exact hd
      . exact wf.2.2.2
theorem zeN(T:Txt K mg A F):FnOk P w K mg base (CX1 P w) 9 (F.f 36) (F.fd 36) ["self","deed","key"] (ztC A):=by
 have G_Hall_refuse_unless_going:=@zbb P w K mg base A F T;have G_Want_init:=@zhk P w K mg base A F T;have G_Hall_ask:=@zio P w K mg base A F T;refine T.znn.okX zlf (λvs H Q E h=>?_) (λcdv A' outer s H vs Q E hr h=>?_)
 . obtain⟨ρ,ad,s,i,k,T0,rfl,_⟩:=h
   rfl
 . obtain⟨ρ,ad,s,i,k,T0,rfl,hh,R,ht,h4,q⟩:=h;obtain⟨dx,hp⟩:=hh.hall;have hn:s.n<=1000:=by have:=R.L.n;omega
   refine⟨_,(zac (zaI (zaA (pv 0) T.zaj T.zbk G_Hall_refuse_unless_going (hmr hr) T.zbl .nil zbR (zaa (pv 1) zad)))
     (zaf (zay (zaA (pv 0) T.zaj T.zjF G_Hall_ask (hmr hr) T.zj0 .nil zaz (zaa (pv 1) (zaa (zpJ T.zp0 G_Want_init (hmr hr) rfl T.zr7 T.ziS .nil zaz (zaa (zci rfl T.zqq) (zaa (pv 2) (zaa zgj zad)))) zad)))))),?_⟩
   refine⟨_,rfl,_,dx,_,rfl,hp,rfl,_,rfl,ρ,ad,s,zam s,i,rfl,hh,hn,?_⟩;rcases q with ⟨d,rfl,hd,⟨hg,q⟩ | ⟨hg,q⟩⟩ | q
   rotate_left
   . exact .inl ⟨d,rfl,hd,.inr ⟨hg,q⟩⟩
   . exact .inr q
   refine .inl ⟨d,rfl,hd,.inl ⟨hg,?_⟩⟩;refine⟨_,rfl,_,dx,_,rfl,hp,rfl,_,rfl,_,rfl,λx dx2 nx ndx nex=>⟨x,dx2,false,k,.non,rfl,zab,λH1 e1 kp=>⟨rfl,?_⟩⟩⟩;have s0:Same H (upd (upd H dx2 (.own x)) x (.ins A.zex dx2 [])):=(Same.zaq ndx).upd2 (by rw[zag nex.symm];exact nx);have s1:Same H H1:=λb o e=>kp b o (s0 b o e) (zah e nx);exact⟨ρ,ad,s,d,⟨false,k,0⟩,x,dx2,T0,rfl,hh.grow s1,R,ht,h4,hg,e1,hh.fr _ nx,λH' ρ' ad' q' a1 a2 a3 a4 a5=>q H' ρ' ad' q' a1 a2 ((Frame.grow s1).trans a3) a4 a5⟩
theorem zd7(T:Txt K mg A F):FnOk P w K mg base (CX1 P w) 9 (F.f 37) (F.fd 37) ["self","deed","key","value"] (zsp A):=by
 have G_Hall_refuse_unless_going:=@zbb P w K mg base A F T;have G_Want_init:=@zhk P w K mg base A F T;have G_Hall_ask:=@zio P w K mg base A F T;refine T.zmb.okX zj8 (λvs H Q E h=>?_) (λcdv A' outer s H vs Q E hr h=>?_)
 . obtain⟨ρ,ad,s,i,k,v,T0,rfl,_⟩:=h
   rfl
 . obtain⟨ρ,ad,s,i,k,v,T0,rfl,hh,R,ht,h4,q⟩:=h;obtain⟨dx,hp⟩:=hh.hall;have hn:s.n<=1000:=by have:=R.L.n;omega
   refine⟨_,(zac (zaI (zaA (pv 0) T.zaj T.zbk G_Hall_refuse_unless_going (hmr hr) T.zbl .nil zbR (zaa (pv 1) zad)))
     (zaf (zay (zaA (pv 0) T.zaj T.zjF G_Hall_ask (hmr hr) T.zj0 .nil zaz (zaa (pv 1) (zaa (zpJ T.zp0 G_Want_init (hmr hr) rfl T.zr7 T.ziS .nil zaz (zaa (zci rfl T.zdV) (zaa (pv 2) (zaa (pv 3) zad)))) zad)))))),?_⟩
   refine⟨_,rfl,_,dx,_,rfl,hp,rfl,_,rfl,ρ,ad,s,zam s,i,rfl,hh,hn,?_⟩;rcases q with ⟨d,rfl,hd,⟨hg,q⟩ | ⟨hg,q⟩⟩ | q
   rotate_left
   . exact .inl ⟨d,rfl,hd,.inr ⟨hg,q⟩⟩
   . exact .inr q
   refine .inl ⟨d,rfl,hd,.inl ⟨hg,?_⟩⟩;refine⟨_,rfl,_,dx,_,rfl,hp,rfl,_,rfl,_,rfl,_,rfl,λx dx2 nx ndx nex=>⟨x,dx2,true,k,.int v,rfl,zab,λH1 e1 kp=>⟨rfl,?_⟩⟩⟩;have s0:Same H (upd (upd H dx2 (.own x)) x (.ins A.zex dx2 [])):=(Same.zaq ndx).upd2 (by rw[zag nex.symm];exact nx);have s1:Same H H1:=λb o e=>kp b o (s0 b o e) (zah e nx);exact⟨ρ,ad,s,d,⟨true,k,v⟩,x,dx2,T0,rfl,hh.grow s1,R,ht,h4,hg,e1,hh.fr _ nx,λH' ρ' ad' q' a1 a2 a3 a4 a5=>q H' ρ' ad' q' a1 a2 ((Frame.grow s1).trans a3) a4 a5⟩
theorem zc8(T:Txt K mg A F):FnOk P w K mg base (CX1 P w) 7 (F.f 40) (F.fd 40) ["self","deed"] (zq5 A):=by
 have G_Hall_record_of:=@zbZ P w K mg base A F T;have G_Record_is_at_end:=@zfS P w K mg base A F T;have G_Hall_drop:=@zhm P w K mg base A F T;refine T.zjp.okX zh0 (λvs H Q E h=>?_) (λcdv A' outer s H vs Q E hr h=>?_)
 . obtain⟨ρ,ad,s,i,T0,rfl,_⟩:=h
   rfl
 . obtain⟨ρ,ad,s,i,T0,rfl,hh,R,q⟩:=h;obtain⟨dx,hp⟩:=hh.hall;have hn:s.n<=1000:=by have:=R.L.n;omega
   refine⟨_,(zac (zbn (zlm (za7 (zaA (pv 0) T.zaj T.zcd G_Hall_record_of (hmr hr) T.zcf .nil zbR (zaa (pv 1) zad)) T.zax T.zgm G_Record_is_at_end (hmr hr) T.zgC .nil zaz)) (zaf (zke zia rfl rfl T.zg6 T.zjt ycx (zaa zaQ zad))) zaP)
     (zaf (zaI (zaA (pv 0) T.zaj T.ziu G_Hall_drop (hmr hr) T.ziV .nil zaz (zaa (pv 1) zad))))),?_⟩
   refine⟨_,rfl,_,dx,_,rfl,hp,rfl,_,rfl,ρ,ad,s,zam s,i,rfl,hh,hn,?_⟩;rcases q with ⟨d,rfl,hd,q⟩ | q
   rotate_left
   . exact .inr q
   obtain⟨dr,w0,hrc,_⟩:=hh.rcd hd;refine .inl ⟨d,rfl,hd,_,dr,_,rfl,hrc,rfl,_,dr,_,_,_,rfl,hrc,_,rfl,?_⟩;rcases q with ⟨ha,q⟩ | ⟨ha,q⟩
   . refine zaJ (yay λz=>?_) ⟨_,rfl,_,dx,_,rfl,hp,rfl,_,rfl,ρ,ad,s,d,T0,rfl,hh,R.c,R.L,R.h,ha,λH' ρ' ad' a1 a2 a3=>q H' ρ' ad' a1 (by rw[zg2 ordS R.c ha];exact a2) a3⟩;rcases ha with ha | ha<;>rw[ha]at z<;>rcases z with z | z<;>cases z
   . refine zbv (yaz ?_) ⟨yan rfl,q⟩;cases e:(s.deed d).st with
     | zar=>exact absurd (.inl e) ha
     | waiting=>exact absurd (.inr e) ha
     | kept=>exact .inl rfl
     | dropped=>exact .inr rfl
theorem zkk(T:Txt K mg A F):FnOk P w K mg base (CX1 P w) 1 (F.f 51) (F.fd 51) ["self"] (zsr A):=by
 refine T.zmc.okN zj9 (λvs H Q E h=>?_) (λcdv A' outer s H vs Q E hr h=>?_)
 . obtain⟨ρ,ad,s,kv,rfl,_⟩:=h
   rfl
 . obtain⟨ρ,ad,s,kv,rfl,hh,hl,q⟩:=h;obtain⟨dx,hp⟩:=hh.hall;refine⟨_,(zaf (zay (za5 zbG (by rfl) T.zeQ ycQ (zaa (zas (pv 0) rfl) zad)))),?_⟩;refine⟨_,rfl,_,_,dx,_,_,rfl,hp,T.zaj,T.zcu,rfl,ad .order,_,rfl,.inl ⟨SqL.of hh.order,λn nn=>q _ n (Same.zaq nn) zab⟩⟩
theorem zeP(T:Txt K mg A F):FnOk P w K mg base (CX1 P w) 3 (F.f 53) (F.fd 53) ["self","deed"] (zq6 A):=by
 have G_Hall_record_of:=@zbZ P w K mg base A F T;refine T.zjq.okX zh1 (λvs H Q E h=>?_) (λcdv A' outer s H vs Q E hr h=>?_)
 . obtain⟨ρ,ad,s,kv,i,rfl,_⟩:=h
   rfl
 . obtain⟨ρ,ad,s,kv,i,rfl,hh,hn,hl,q⟩:=h;obtain⟨dx,hp⟩:=hh.hall;refine⟨_,(zaf (zay (za5 zbG (by rfl) T.zeQ ycQ (zaa (zas (zaA (pv 0) T.zaj T.zcd G_Hall_record_of (hmr hr) T.zcf .nil zbR (zaa (pv 1) zad)) rfl) zad)))),?_⟩;refine⟨_,rfl,_,dx,_,rfl,hp,rfl,_,rfl,ρ,ad,s,kv,i,rfl,hh,hn,?_⟩;rcases q with ⟨d,rfl,hd,q⟩ | q
   rotate_left
   . exact .inr q
   obtain⟨dr,w0,hrc,_⟩:=hh.rcd hd;obtain⟨us,hus,tus⟩:=hh.did hd;exact .inl ⟨d,rfl,hd,_,_,dr,_,_,rfl,hrc,T.zax,T.zbo,rfl,ad (.did d),_,rfl,.inl ⟨SqL.of hus,λn nn=>q _ n us (Same.zaq nn) zab (zaE (Same.zaq nn) tus)⟩⟩
theorem zeO(T:Txt K mg A F):FnOk P w K mg base (CX1 P w) 6 (F.f 38) (F.fd 38) ["self","deed"] (ztG A):=by
 have G_Hall_refuse_unless_going:=@zbb P w K mg base A F T;have G_Record_written:=@zdM P w K mg base A F T;have G_Hall_end:=@zim P w K mg base A F T;refine T.zno.okX zeG (λvs H Q E h=>?_) (λcdv A' outer s H vs Q E hr h=>?_)
 . obtain⟨ρ,ad,s,i,T0,rfl,_⟩:=h
   rfl
 . obtain⟨ρ,ad,s,i,T0,rfl,hh,R,q⟩:=h;have hu:=zdT hr;obtain⟨dx,hp⟩:=hh.hall;have hn:s.n<=1000:=by have:=R.L.n;omega
   have sm:=R.L.sm R.c;obtain⟨us,hus,tus⟩:=hh.rows;have hul:us.length=s.log.length:=by rw[tus.length,yaa]
   refine⟨_,(zac (zaI (zaA (pv 0) T.zaj T.zbk G_Hall_refuse_unless_going (hmr hr) T.zbl .nil zbR (zaa (pv 1) zad)))
     (zac (zaI (zet yaF yaQ yaR zbw (zas (pv 0) rfl) (zaa (za4 (zaa (zci rfl T.zqr) (zaa (pv 1) zad))) zad)))
     (zac (zaI (zet yaF yaQ yaR zbw (zas (pv 0) rfl) (zaa (pv 1) zad)))
     (zac (PS.nox (zdj ya4 rfl (zdz (za7 (zaT zbF (zas (pv 0) rfl) (pv 1) (λ_ _=>rfl)) T.zax T.zei G_Record_written (hmr hr) T.zep .nil zaz)) (znF (n:=2) rfl (zcc (zaS (i:=2) zeG.nd rfl (by walk_at "loc")) (zcc (zaS (i:=3) zeG.nd rfl (by walk_at "loc")) zif))) (zaf (zfN hu (zas (pv 0) rfl) (pv 2) (pv 3) rfl))))
     (zaf (zaI (zaA (pv 0) T.zaj T.zjE G_Hall_end (hmr hr) T.zjZ .nil zaz (zaa (pv 1) (zaa (zci rfl T.zr8) zad))))))))),?_⟩
   refine⟨_,rfl,_,dx,_,rfl,hp,rfl,_,rfl,ρ,ad,s,zam s,i,rfl,hh,hn,?_⟩;rcases q with ⟨d,rfl,hd,⟨hg,q⟩ | ⟨hg,q⟩⟩ | q
   rotate_left
   . exact .inl ⟨d,rfl,hd,.inr ⟨hg,q⟩⟩
   . exact .inr q
   refine .inl ⟨d,rfl,hd,.inl ⟨hg,?_⟩⟩;have hact:(s.deed d).act:=.inl hg;refine⟨_,rfl,_,_,dx,_,_,rfl,hp,T.zaj,T.zcp,rfl,.inl ⟨rfl,_,SqL.of hus⟩,_,rfl,sz2,λn nn=>⟨ad .rows,_,_,rfl,rfl,zal hus nn,by have:=sm.lg;rw[hul,yaw];omega,?_⟩⟩;have h3:=hh.grow (H':=upd H n (.tup [V.str "keep",V.int (d:Int)])) (Same.zaq nn);obtain⟨h4,f4⟩:=h3.zob (H':=upd (upd H n (.tup [V.str "keep",V.int (d:Int)])) (ad .rows) (.lst (us++[.ref n]))) T.ok (row:=.keep d) (zal hus nn) zab (λb o e hb=>by rw[zag hb];exact e) ⟨n,rfl,by rw[zag (zah hus nn).symm,zab];rfl⟩;have f04:=(Frame.grow (ρ:=ρ) (Same.zaq (o:=.tup [V.str "keep",V.int (d:Int)]) nn)).trans f4;show tSeq _ _ _ _ (upd (upd H n (.tup [V.str "keep",V.int (d:Int)])) (ad .rows) (.lst (us++[.ref n])));generalize upd (upd H n (.tup [V.str "keep",V.int (d:Int)])) (ad .rows) (.lst (us++[.ref n]))=H4 at *;obtain⟨dx4,hp4⟩:=h4.hall;have ho4:H4 (ad .order)=some (.lst (zaD s.kept)):=h4.order;have hlk:(zaD s.kept).length<=1000:=by unfold zaD;rw[yaa];exact sm.kp
   refine⟨_,rfl,_,_,dx4,_,_,rfl,hp4,T.zaj,T.zcu,rfl,.inl ⟨rfl,_,SqL.of ho4⟩,_,rfl,ad .order,_,_,rfl,rfl,ho4,by rw[yaw];omega,?_⟩;obtain⟨h5,f5⟩:=h4.zrO (H':=upd H4 (ad .order) (.lst (zaD s.kept++[V.int (d:Int)]))) T.ok (d:=d) zab (λb o e hb=>by rw[zag hb];exact e);have f05:=f04.trans f5;show tSeq _ _ _ _ (upd H4 (ad .order) (.lst (zaD s.kept++[V.int (d:Int)])));generalize upd H4 (ad .order) (.lst (zaD s.kept++[V.int (d:Int)]))=H5 at *;obtain⟨dx5,hp5⟩:=h5.hall;obtain⟨wv,ra,_⟩:=h5.recAt hd;obtain⟨dr,hrc⟩:=ra.ob;refine⟨_,rfl,_,_,dx5,_,_,rfl,hp5,T.zaj,T.zaF,rfl,_,rfl,_,_,_,_,rfl,rfl,SqL.of h5.recs,zbH (h5.zgf hd),_,dr,_,rfl,hrc,rfl,_,_,_,_,_,rfl,ra,by show(s.deed d).done.length < 3000;have:=sm.dn d;omega,λH1 ql vs m1 hq tu=>⟨ql,rfl,⟨_,SqL.of hq⟩,?_⟩⟩;have tu:zap H1 vs ((zat (s.deed d).done).map zeA):=tu;have hvl:vs.length=(zat (s.deed d).done).length:=by rw[tu.length,yaa]
   refine zfe (xs:=vs) (λi σ H2=>∃v2 v3,σ=[some (.ref (ad .hall)),some (.int d),v2,v3]/\zai A ρ ad { s with log:=s.log++[.keep d],kept:=s.kept++[d] } (wb (zam s) ((zat (s.deed d).done).take i)) H2/\Frame ρ H ρ H2/\H2 ql=some (.lst vs)/\zap H2 vs ((zat (s.deed d).done).map zeA)) ⟨_,_,rfl,h5.grow m1,f05.trans (Frame.grow m1),hq,tu⟩ (λi σ H2 _ ⟨_,_,_,_,_,e,_⟩=>SqL.of e) ?_ ?_
   . rintro i x σ H2 hx ⟨v2,v3,rfl,h2,f2,hq2,t2⟩;obtain⟨y,hy1,r,rfl,hr1⟩:=zbU t2 hx;rw[yak]at hy1;obtain⟨⟨k,v⟩,ha,rfl⟩:=yao.mp hy1;have e1:(zat (s.deed d).done).take (i+1)=(zat (s.deed d).done).take i++[(k,v)]:=by rw[yaD,ha];rfl
     obtain⟨dx2,hp2⟩:=h2.hall;obtain⟨lk,hlk,hbk⟩:=h2.zde;have hll:lk.length<=4:=yaA (hbk.len sm.snd λj hj=>by
      rcases zj1 hj with hj | hj
      . exact R.L.e.zje j hj
      . refine zhS R.L.e (d:=d) ?_;obtain⟨p,hp,rfl⟩:=yap.mp hj;exact yap.mpr ⟨p,yb1 hp,rfl⟩) sm.seen
     refine⟨r,_,rfl,SqT.of hr1,rfl,_,_,rfl,_,_,rfl,rfl,?_⟩;refine⟨_,rfl,_,rfl,_,_,dx2,_,_,rfl,hp2,T.zaj,T.zbd,rfl,_,rfl,_,_,rfl,DPut.k (k:=Sum.inr k) hlk (by rw[zkK,yaw];omega),?_⟩;rw[zkJ];have kp3:zcL H2 (ad .zde) (upd H2 (ad .zde) (.dK (bkV (bput lk k v)))):=λb o e hb=>by rw[zag hb];exact e
     obtain⟨h3,f3⟩:=h2.zrb T.ok zab kp3 (hbk.put k v);refine⟨_,_,rfl,?_,f2.trans f3,kp3 _ _ hq2 (zbj hq2 hlk (λz=>nomatch z)),zap.mono (Imm.zg1 T.ok h2 (r:=.zde) trivial kp3) t2⟩;rw[e1,zmf];exact h3
   . rintro σ H2 ⟨v2,v3,rfl,h2,f2,_⟩;rw[hvl,yaG,zj2]at h2;obtain⟨dx2,hp2⟩:=h2.hall;refine⟨_,rfl,_,dx2,_,rfl,hp2,rfl,_,rfl,ρ,ad,_,s,_,d,.kept,T0,rfl,h2,R.c,R.L,R.h,rfl,rfl,rfl,rfl,rfl,R.c.keeps hact,R.L.keeps R.c hact,by decide,hd,λH6 ρ6 ad6 ea6 h6 f6=>q H6 ρ6 ad6 ea6 ?_ (f2.trans f6)⟩;rw[zoC ordS R.c hact];exact h6
theorem zfQ(T:Txt K mg A F):FnOk P w K mg base (CX1 P w) 1 (F.f 1) (F.fd 1) ["_law_cell_here","_law_prime","_law_many"] zuJ:=by
 refine T.zo2.okN zms (λvs H Q E h=>?_) (λcdv A' outer s H vs Q E hr h=>?_)
 . obtain⟨c,p,m,rfl,_⟩:=h
   rfl
 . obtain⟨c,p,m,rfl,hp,hm,q⟩:=h;refine⟨_,(zaf (zay (zbQ zjz (zbQ zjz (zbQ zlt (pv 0) zak) (pv 1)) (pv 2)))),?_⟩;exact⟨_,rfl,_,_,rfl,rfl,.inr ⟨by decide,by decide⟩,_,rfl,_,_,rfl,rfl,hp,_,rfl,_,_,rfl,rfl,hm,q⟩
theorem zdl(T:Txt K mg A F):FnOk P w K mg base (CX1 P w) 1 (F.f 2) (F.fd 2) ["_law_script","_law_k"] (ztJ K):=by
 refine T.znh.okN zlc (λvs H Q E h=>?_) (λcdv A' outer s H vs Q E hr h=>?_)
 . obtain⟨a,ns,k,rfl,_⟩:=h
   rfl
 . obtain⟨a,ns,k,rfl,hS,q⟩:=h;refine⟨_,(zac (zbn (zaw zmD (pv 1) (zbC zbr (by rfl) T.zkr ybP (zaa (pv 0) zad)) (zaB _)) (zaf (zay (zaT zbF (pv 0) (pv 1) (λ_ _=>rfl)))) zaP)
     (zaf (zay zak))),?_⟩
   refine⟨_,rfl,_,rfl,a,_,rfl,.inl hS,_,_,rfl,rfl,_,rfl,?_⟩;rw[yaa];by_cases h:k < ns.length
   . refine zbv (yaz (by omega)) ⟨_,rfl,_,rfl,a,_,_,_,rfl,rfl,hS,zbH (by rw[yak,yax h];rfl),?_⟩;have:za3 ns k=ns[k]:=by unfold za3;rw[ya0,yax h];rfl
     rw[this]at q;exact q
   . refine zaJ (yay (by omega)) ?_;have:za3 ns k=0:=by unfold za3;rw[ya0,List.getElem?_eq_none (by omega)];rfl
     rw[this]at q;exact q
theorem zi8(T:Txt K mg A F):FnOk P w K mg base (CX1 P w) 2 (F.f 3) (F.fd 3) ["_law_script","_law_k"] spNo :=
 T.zhe.okN zbB (λvs H Q E h=>h.elim) (λcdv A' outer s H vs Q E hr h=>h.elim)
theorem zlu(T:Txt K mg A F):FnOk P w K mg base (CX1 P w) 3 (F.f 3) (F.fd 3) ["_law_script","_law_k"] (ztF K):=by
 have G__law_mix:=@zfQ P w K mg base A F T;have G__law_cell:=@zdl P w K mg base A F T;have G__law_key:=@zi8 P w K mg base A F T;refine T.zhe.okN zbB (λvs H Q E h=>?_) (λcdv A' outer s H vs Q E hr h=>?_)
 . obtain⟨a,ns,k,rfl,_⟩:=h
   rfl
 . obtain⟨a,ns,k,rfl,hS,hk,q⟩:=h;refine⟨_,(zac (zaL (i:=2) zbB.nd rfl (by walk_at "loc") zaQ)
     (zac (zaL (i:=3) zbB.nd rfl (by walk_at "loc") (zbQ zcU (zaN G__law_cell (hmr hr) rfl T.zck T.zcj T.zcl .nil zaz (zaa (pv 0) (zaa zak zad))) (zbQ zlt zak (pv 1))))
     (zac (zaL (i:=4) zbB.nd rfl (by walk_at "loc") (zet ydQ yd0 yd1 zpY zaQ (zaa (zd6 1 [2,3] ["_law_j","_law_letters","_law_seed"] rfl (by walk_at "blk") (zgi rfl T.zkq (zaa (zaN G__law_mix (hmr hr) rfl T.zb2 T.zb1 T.zb4 .nil zaz (zaa (pv 3) (zaa zak (zaa zak zad)))) zad)) (λC fp s H=>(zaS (i:=0) (show(["_law_j","_law_letters","_law_seed"]:List Str).Nodup by decide +kernel) rfl (by walk_at "loc"))) (λC fp s H=>zic) (λC fp s H=>(zaT znV (pv 1) (zaN G__law_mix (hmr hr) rfl T.zb2 T.zb1 T.zb4 .nil zaz (zaa (zbQ zcU (pv 2) (zbQ zlt zak (pv 0))) (zaa zak (zaa zak zad)))) (λ_ _=>rfl)))) zad)))
     (zac (zbn (PW.pt (znD (zaw zb5 (pv 1) zak (zaB _)) (zkc (zaw zb5 (zbQ zjz (zaN G__law_cell (hmr hr) rfl T.zck T.zcj T.zcl .nil zaz (zaa (pv 0) (zaa zak zad))) zak) zak (zaB _))))) (zaf (zay (zaT zbF (zc7 (zaa zaQ (zaa zaQ zad))) (za5 zgA (by rfl) T.zpW boot_int (zaa (zdA zb5 (zaN G__law_key (hmr hr) rfl T.zdU T.zdR T.zdX .nil zaz (zaa (pv 0) (zaa zak zad))) zaQ (zaB _)) zad)) (λ_ _=>rfl)))) zaP)
     (zaf (zay (zbQ zjA (zaT znV zaQ (pv 1) (λ_ _=>rfl)) (pv 4)))))))),?_⟩
   refine⟨_,rfl,a,ns,0,rfl,hS,_,rfl,_,_,rfl,rfl,.inl ⟨by decide,by decide⟩,_,_,rfl,rfl,?_⟩;obtain⟨t0,t1⟩:=zjD (c:=za3 ns 0+7 * (k:Int)) (p:=9967) (m:=4) (by decide);refine⟨rfl,_,rfl,_,_,_,rfl,by decide,by decide,_,rfl,by omega,by omega,?_⟩;refine zjS (λi ys σ H2=>∃v0,σ=[v0,some (.str abc),some (.int (za3 ns 0+7 * (k:Int)))]/\H2=H/\ys=((List.range i).map λ(j:Nat)=>pick abc (mixF (za3 ns 0+7 * (k:Int)+5 * (j:Int)) 9973 26).toNat).map V.str) ⟨none,rfl,rfl,rfl⟩ (λi ys σ H2 ⟨_,_,_,e⟩=>by rw[e,yaa,yaa,ya6];exact yaf _) (by rw[yaw];omega) ?_ ?_
   . rintro i ys σ H2 hlt ⟨v0,rfl,rfl,rfl⟩;obtain⟨u0,u1⟩:=zjD (c:=za3 ns 0+7 * (k:Int)+5 * (0+(i:Int))) (p:=9973) (m:=26) (by decide);have hsz:abc.cps.size=26:=by decide +kernel
     obtain⟨c,hc,hp⟩:=zkh (l:=abc) (i:=(mixF (za3 ns 0+7 * (k:Int)+5 * (0+(i:Int))) 9973 26).toNat) (by rw[hsz];omega);rw[show(((mixF (za3 ns 0+7 * (k:Int)+5 * (0+(i:Int))) 9973 26).toNat:Nat):Int)=mixF (za3 ns 0+7 * (k:Int)+5 * (0+(i:Int))) 9973 26 by omega]at hc;refine⟨_,rfl,_,rfl,_,rfl,_,_,rfl,rfl,.inl ⟨by decide,by decide⟩,_,_,rfl,rfl,_,_,_,rfl,by decide,by decide,_,_,c,rfl,rfl,by show abc.cps.size<=sizeLine;rw[hsz,yaw];decide,hc,nx hlt ⟨_,rfl,rfl,?_⟩⟩;rw[ycn,yav,yav];rw[show(0+(i:Int))=(i:Int) by omega]at hp;rw[<-hp];rfl
   rintro ys σ H2 ⟨v0,rfl,rfl,rfl⟩;intro pt nt;refine⟨_,pt,zdZ (za3 ns 0+7 * (k:Int)),rfl,rfl,zab,?_,?_⟩
   . rw[znU];have h3:=zhH (za3 ns 0+7 * (k:Int));omega
   have s1:Same H2 (upd H2 pt (.lst ((zdZ (za3 ns 0+7 * (k:Int))).map V.str))):=Same.zaq nt;show tSeq _ _ _ _ (upd H2 pt (.lst ((zdZ (za3 ns 0+7 * (k:Int))).map V.str)));generalize upd H2 pt (.lst ((zdZ (za3 ns 0+7 * (k:Int))).map V.str))=H3 at *;have last:∀kf:Str,kf=ziA ns k->(∀H',Same H2 H'->Q (.str kf) H')->tRet (tOp (λx y H Q=>∃i j,x=.str i/\y=.str j/\i.length+j.length<=sizeLine/\Q (.str (i++j)) H) (tOp rIxS (tC (.str "qrst")) (tVar 1)) (tVar 4)) { nx:=λ_ H'=>Q .non H',rt:=Q } [some (.ref a),some (.int k),some (.str "abcdefghijklmnopqrstuvwxyz"),some (.int (za3 ns 0+7 * (k:Int))),some (.str (Txt.join "" (zdZ (za3 ns 0+7 * (k:Int)))))] H3:=λkf ek q=>by
     have hsz:("qrst" : Str).cps.size=4:=by decide +kernel
     obtain⟨c,hc,hp⟩:=zkh (l := "qrst") (i:=k) (by rw[hsz];omega);refine⟨_,rfl,_,_,c,rfl,rfl,by show("qrst" : Str).cps.size<=sizeLine;rw[hsz,yaw];decide,hc,_,rfl,_,_,rfl,rfl,?_,?_⟩
     . have h3:=zhH (za3 ns 0+7 * (k:Int));have h4:=zlO (zdZ (za3 ns 0+7 * (k:Int)));have h5:(⟨#[c]⟩:Str).length=1:=rfl;rw[yaw];omega
     . have:=q H3 s1;rw[ek]at this;unfold ziA at this;rw[hp]at this;exact this
   refine⟨_,rfl,rfl,_,rfl,?_⟩;refine zaJ (yay λz=>by have:=V.int.inj z;omega) (last _ rfl q)
theorem zfR(T:Txt K mg A F):FnOk P w K mg base (CX1 P w) 4 (F.f 3) (F.fd 3) ["_law_script","_law_k"] (zuL K):=by
 have G__law_mix:=@zfQ P w K mg base A F T;have G__law_cell:=@zdl P w K mg base A F T;have G__law_key:=@zlu P w K mg base A F T;refine T.zhe.okN zbB (λvs H Q E h=>?_) (λcdv A' outer s H vs Q E hr h=>?_)
 . obtain⟨a,ns,k,rfl,_⟩:=h
   rfl
 . obtain⟨a,ns,k,rfl,hS,hk,q⟩:=h;refine⟨_,(zac (zaL (i:=2) zbB.nd rfl (by walk_at "loc") zaQ)
     (zac (zaL (i:=3) zbB.nd rfl (by walk_at "loc") (zbQ zcU (zaN G__law_cell (hmr hr) rfl T.zck T.zcj T.zcl .nil zaz (zaa (pv 0) (zaa zak zad))) (zbQ zlt zak (pv 1))))
     (zac (zaL (i:=4) zbB.nd rfl (by walk_at "loc") (zet ydQ yd0 yd1 zpY zaQ (zaa (zd6 1 [2,3] ["_law_j","_law_letters","_law_seed"] rfl (by walk_at "blk") (zgi rfl T.zkq (zaa (zaN G__law_mix (hmr hr) rfl T.zb2 T.zb1 T.zb4 .nil zaz (zaa (pv 3) (zaa zak (zaa zak zad)))) zad)) (λC fp s H=>(zaS (i:=0) (show(["_law_j","_law_letters","_law_seed"]:List Str).Nodup by decide +kernel) rfl (by walk_at "loc"))) (λC fp s H=>zic) (λC fp s H=>(zaT znV (pv 1) (zaN G__law_mix (hmr hr) rfl T.zb2 T.zb1 T.zb4 .nil zaz (zaa (zbQ zcU (pv 2) (zbQ zlt zak (pv 0))) (zaa zak (zaa zak zad)))) (λ_ _=>rfl)))) zad)))
     (zac (zbn (PW.pt (znD (zaw zb5 (pv 1) zak (zaB _)) (zkc (zaw zb5 (zbQ zjz (zaN G__law_cell (hmr hr) rfl T.zck T.zcj T.zcl .nil zaz (zaa (pv 0) (zaa zak zad))) zak) zak (zaB _))))) (zaf (zay (zaT zbF (zc7 (zaa zaQ (zaa zaQ zad))) (za5 zgA (by rfl) T.zpW boot_int (zaa (zdA zb5 (zaN G__law_key (hmr hr) rfl T.zdU T.zdR T.zdX .nil zaz (zaa (pv 0) (zaa zak zad))) zaQ (zaB _)) zad)) (λ_ _=>rfl)))) zaP)
     (zaf (zay (zbQ zjA (zaT znV zaQ (pv 1) (λ_ _=>rfl)) (pv 4)))))))),?_⟩
   refine⟨_,rfl,a,ns,0,rfl,hS,_,rfl,_,_,rfl,rfl,.inl ⟨by decide,by decide⟩,_,_,rfl,rfl,?_⟩;obtain⟨t0,t1⟩:=zjD (c:=za3 ns 0+7 * (k:Int)) (p:=9967) (m:=4) (by decide);refine⟨rfl,_,rfl,_,_,_,rfl,by decide,by decide,_,rfl,by omega,by omega,?_⟩;refine zjS (λi ys σ H2=>∃v0,σ=[v0,some (.str abc),some (.int (za3 ns 0+7 * (k:Int)))]/\H2=H/\ys=((List.range i).map λ(j:Nat)=>pick abc (mixF (za3 ns 0+7 * (k:Int)+5 * (j:Int)) 9973 26).toNat).map V.str) ⟨none,rfl,rfl,rfl⟩ (λi ys σ H2 ⟨_,_,_,e⟩=>by rw[e,yaa,yaa,ya6];exact yaf _) (by rw[yaw];omega) ?_ ?_
   . rintro i ys σ H2 hlt ⟨v0,rfl,rfl,rfl⟩;obtain⟨u0,u1⟩:=zjD (c:=za3 ns 0+7 * (k:Int)+5 * (0+(i:Int))) (p:=9973) (m:=26) (by decide);have hsz:abc.cps.size=26:=by decide +kernel
     obtain⟨c,hc,hp⟩:=zkh (l:=abc) (i:=(mixF (za3 ns 0+7 * (k:Int)+5 * (0+(i:Int))) 9973 26).toNat) (by rw[hsz];omega);rw[show(((mixF (za3 ns 0+7 * (k:Int)+5 * (0+(i:Int))) 9973 26).toNat:Nat):Int)=mixF (za3 ns 0+7 * (k:Int)+5 * (0+(i:Int))) 9973 26 by omega]at hc;refine⟨_,rfl,_,rfl,_,rfl,_,_,rfl,rfl,.inl ⟨by decide,by decide⟩,_,_,rfl,rfl,_,_,_,rfl,by decide,by decide,_,_,c,rfl,rfl,by show abc.cps.size<=sizeLine;rw[hsz,yaw];decide,hc,nx hlt ⟨_,rfl,rfl,?_⟩⟩;rw[ycn,yav,yav];rw[show(0+(i:Int))=(i:Int) by omega]at hp;rw[<-hp];rfl
   rintro ys σ H2 ⟨v0,rfl,rfl,rfl⟩;intro pt nt;refine⟨_,pt,zdZ (za3 ns 0+7 * (k:Int)),rfl,rfl,zab,?_,?_⟩
   . rw[znU];have h3:=zhH (za3 ns 0+7 * (k:Int));omega
   have s1:Same H2 (upd H2 pt (.lst ((zdZ (za3 ns 0+7 * (k:Int))).map V.str))):=Same.zaq nt;show tSeq _ _ _ _ (upd H2 pt (.lst ((zdZ (za3 ns 0+7 * (k:Int))).map V.str)));generalize upd H2 pt (.lst ((zdZ (za3 ns 0+7 * (k:Int))).map V.str))=H3 at *;have last:∀kf:Str,kf=ziA ns k->(∀H',Same H2 H'->Q (.str kf) H')->tRet (tOp (λx y H Q=>∃i j,x=.str i/\y=.str j/\i.length+j.length<=sizeLine/\Q (.str (i++j)) H) (tOp rIxS (tC (.str "qrst")) (tVar 1)) (tVar 4)) { nx:=λ_ H'=>Q .non H',rt:=Q } [some (.ref a),some (.int k),some (.str "abcdefghijklmnopqrstuvwxyz"),some (.int (za3 ns 0+7 * (k:Int))),some (.str (Txt.join "" (zdZ (za3 ns 0+7 * (k:Int)))))] H3:=λkf ek q=>by
     have hsz:("qrst" : Str).cps.size=4:=by decide +kernel
     obtain⟨c,hc,hp⟩:=zkh (l := "qrst") (i:=k) (by rw[hsz];omega);refine⟨_,rfl,_,_,c,rfl,rfl,by show("qrst" : Str).cps.size<=sizeLine;rw[hsz,yaw];decide,hc,_,rfl,_,_,rfl,rfl,?_,?_⟩
     . have h3:=zhH (za3 ns 0+7 * (k:Int));have h4:=zlO (zdZ (za3 ns 0+7 * (k:Int)));have h5:(⟨#[c]⟩:Str).length=1:=rfl;rw[yaw];omega
     . have:=q H3 s1;rw[ek]at this;unfold ziA at this;rw[hp]at this;exact this
   refine⟨_,rfl,rfl,_,rfl,?_⟩;by_cases h3:k=3
   rotate_left
   . refine zaJ (yay λz=>by have:=V.int.inj z;omega) (last _ ?_ q);unfold keyF;rw[yai λz=>h3 z.1]
   refine zbv (yaz (by rw[h3];rfl)) ?_;refine⟨_,rfl,a,ns,0,rfl,s1.seq hS,_,_,rfl,rfl,(by show(0:Int) < 2;decide),rfl,_,rfl,?_⟩;by_cases h2:za3 ns 0 % 2=0
   rotate_left
   . refine zaJ (yay λz=>h2 (V.int.inj z)) (last _ ?_ q);unfold keyF;rw[yai λz=>h2 z.2]
   refine zbv (yaz (show V.int (za3 ns 0 % 2)=V.int 0 by rw[h2])) ?_;refine⟨sz2,λl hl=>?_⟩;have s2:Same H2 (upd H3 l (.lst [V.str "q",V.str "qa"])):=s1.upd2 hl;refine⟨_,rfl,a,ns,0,rfl,s2.seq hS,by decide,λH5 s5=>⟨rfl,.inr ⟨_,rfl,?_⟩⟩⟩;have hl5:=s5 _ _ (zab (H:=H3) (a:=l) (o:=.lst [V.str "q",V.str "qa"]));have q5:=q H5 (s2.trans s5);unfold keyF at q5;rw[yaj ⟨h3,h2⟩]at q5;by_cases hq:ziA ns 0 = "q"
   . rw[yaj hq]at q5;rw[yaz (show V.str (ziA ns 0)=V.str "q" by rw[hq])];exact⟨l,_,_,_,rfl,rfl,SqL.of hl5,zbH (xs:=[V.str "q",V.str "qa"]) (j:=1) rfl,q5⟩
   . rw[yai hq]at q5;rw[yay (show ¬V.str (ziA ns 0)=V.str "q" from λz=>hq (V.str.inj z))];exact⟨l,_,_,_,rfl,rfl,SqL.of hl5,zbH (xs:=[V.str "q",V.str "qa"]) (j:=0) rfl,q5⟩
theorem zlv(T:Txt K mg A F):FnOk P w K mg base (CX1 P w) 10 (F.f 41) (F.fd 41) ["_law_hall","_law_act_here"] (ztK A):=by
 have G_Hall_begin:=@zcV P w K mg base A F T;have G_Hall_read:=@zeN P w K mg base A F T;have G_Hall_write:=@zd7 P w K mg base A F T;have G_Hall_keep:=@zeO P w K mg base A F T;have G_Hall_give_up:=@zc8 P w K mg base A F T;refine T.zni.okX zld (λvs H Q E h=>?_) (λcdv A' outer s H vs Q E hr h=>?_)
 . obtain⟨ρ,ad,s,kq,act,T0,ns,rfl,_⟩:=h
   rfl
 . obtain⟨ρ,ad,s,kq,act,T0,ns,rfl,hh,R,ht,hn,ok,hq,q,qe⟩:=h;obtain⟨dx,hp⟩:=hh.hall;have nes:∀a b:Str,a≠b->decide (V.str a=V.str b)=false:=λa b h=>yay λz=>h (V.str.inj z);refine⟨_,(zac (zbn (zaw zb5 (zaT za0 (pv 1) zak (λ_ _=>rfl)) zaQ (zaB _)) (zaf (zay (za7 (pv 0) T.zaj T.zdn G_Hall_begin (hmr hr) T.zdp .nil zaz))) zaP)
    (zac (zbn (zaw zb5 (zaT za0 (pv 1) zak (λ_ _=>rfl)) zaQ (zaB _)) (zaf (zay (zaA (pv 0) T.zaj T.zfV G_Hall_read (hmr hr) T.zf3 .nil zbR (zaa (zaT za0 (pv 1) zak (λ_ _=>rfl)) (zaa (zaT za0 (pv 1) zak (λ_ _=>rfl)) zad))))) zaP)
    (zac (zbn (zaw zb5 (zaT za0 (pv 1) zak (λ_ _=>rfl)) zaQ (zaB _)) (zaf (zay (zaA (pv 0) T.zaj T.zeT G_Hall_write (hmr hr) T.ze1 .nil zbR (zaa (zaT za0 (pv 1) zak (λ_ _=>rfl)) (zaa (zaT za0 (pv 1) zak (λ_ _=>rfl)) (zaa (zaT za0 (pv 1) zak (λ_ _=>rfl)) zad)))))) zaP)
    (zac (zbn (zaw zb5 (zaT za0 (pv 1) zak (λ_ _=>rfl)) zaQ (zaB _)) (zaf (zay (zaA (pv 0) T.zaj T.zfW G_Hall_keep (hmr hr) T.zf4 .nil zbR (zaa (zaT za0 (pv 1) zak (λ_ _=>rfl)) zad)))) zaP)
    (zaf (zay (zaA (pv 0) T.zaj T.zdB G_Hall_give_up (hmr hr) T.zdG .nil zbR (zaa (zaT za0 (pv 1) zak (λ_ _=>rfl)) zad)))))))),?_⟩
   cases act with
   | begin =>
    refine⟨_,rfl,kq,_,_,_,rfl,rfl,SqT.of hq,rfl,rfl,_,rfl,?_⟩;refine zbv (yaz rfl) ⟨_,rfl,_,dx,_,rfl,hp,rfl,ρ,ad,s,zam s,rfl,hh,R.r.L.sm R.r.c,hn,λH' ρ' ad' a1 a2 a3=>q _ H' ρ' ad' a1 ?_ a3⟩;show zai A ρ' ad' (zav s) (zam (zav s)) H';rw[zda R.r.c];exact a2
   | read d k =>
    refine⟨_,rfl,kq,_,_,_,rfl,rfl,SqT.of hq,rfl,rfl,_,rfl,?_⟩;refine zaJ (nes _ _ (by decide +kernel)) ?_;refine⟨_,rfl,kq,_,_,_,rfl,rfl,SqT.of hq,rfl,rfl,_,rfl,?_⟩;refine zbv (yaz rfl) ?_;have h4:=see4 R.r.L.e R.k ok.2;refine⟨_,rfl,_,dx,_,rfl,hp,rfl,_,rfl,kq,_,_,_,rfl,rfl,SqT.of hq,rfl,_,rfl,kq,_,_,_,rfl,rfl,SqT.of hq,rfl,ρ,ad,s,d,k,T0,rfl,hh,R.r,ht,h4,.inl ⟨d,rfl,ok.1,?_⟩⟩;rw[zdI]at q qe;by_cases hg:(s.deed d).st=.zar
    . rw[yaj hg]at q;refine .inl ⟨hg,λH' ρ' ad' q' a1 a2 a3 a4 a5=>q _ H' ρ' ad' a1 ?_ a3⟩;rw[(zcm R.r hg).2.2.1];exact a2
    . rw[yai hg]at qe;exact .inr ⟨hg,qe rfl⟩
   | write d k v =>
    refine⟨_,rfl,kq,_,_,_,rfl,rfl,SqT.of hq,rfl,rfl,_,rfl,?_⟩;refine zaJ (nes _ _ (by decide +kernel)) ?_;refine⟨_,rfl,kq,_,_,_,rfl,rfl,SqT.of hq,rfl,rfl,_,rfl,?_⟩;refine zaJ (nes _ _ (by decide +kernel)) ?_;refine⟨_,rfl,kq,_,_,_,rfl,rfl,SqT.of hq,rfl,rfl,_,rfl,?_⟩;refine zbv (yaz rfl) ?_;have h4:=see4 R.r.L.e R.k ok.2;refine⟨_,rfl,_,dx,_,rfl,hp,rfl,_,rfl,kq,_,_,_,rfl,rfl,SqT.of hq,rfl,_,rfl,kq,_,_,_,rfl,rfl,SqT.of hq,rfl,_,rfl,kq,_,_,_,rfl,rfl,SqT.of hq,rfl,ρ,ad,s,d,k,v,T0,rfl,hh,R.r,ht,h4,.inl ⟨d,rfl,ok.1,?_⟩⟩;rw[zcB]at q qe;by_cases hg:(s.deed d).st=.zar
    . rw[yaj hg]at q;refine .inl ⟨hg,λH' ρ' ad' q' a1 a2 a3 a4 a5=>q _ H' ρ' ad' a1 ?_ a3⟩;rw[(zcm R.r hg).2.2.1];exact a2
    . rw[yai hg]at qe;exact .inr ⟨hg,qe rfl⟩
   | keep d =>
    refine⟨_,rfl,kq,_,_,_,rfl,rfl,SqT.of hq,rfl,rfl,_,rfl,?_⟩;refine zaJ (nes _ _ (by decide +kernel)) ?_;refine⟨_,rfl,kq,_,_,_,rfl,rfl,SqT.of hq,rfl,rfl,_,rfl,?_⟩;refine zaJ (nes _ _ (by decide +kernel)) ?_;refine⟨_,rfl,kq,_,_,_,rfl,rfl,SqT.of hq,rfl,rfl,_,rfl,?_⟩;refine zaJ (nes _ _ (by decide +kernel)) ?_;refine⟨_,rfl,kq,_,_,_,rfl,rfl,SqT.of hq,rfl,rfl,_,rfl,?_⟩;refine zbv (yaz rfl) ?_;refine⟨_,rfl,_,dx,_,rfl,hp,rfl,_,rfl,kq,_,_,_,rfl,rfl,SqT.of hq,rfl,ρ,ad,s,d,T0,rfl,hh,R.r,.inl ⟨d,rfl,ok,?_⟩⟩;rw[zc2]at q qe;by_cases hg:(s.deed d).st=.zar
    . rw[yaj hg]at q;exact .inl ⟨hg,λH' ρ' ad' a1 a2 a3=>q _ H' ρ' ad' a1 a2 a3⟩
    . rw[yai hg]at qe;exact .inr ⟨hg,qe rfl⟩
   | drop d =>
    refine⟨_,rfl,kq,_,_,_,rfl,rfl,SqT.of hq,rfl,rfl,_,rfl,?_⟩;refine zaJ (nes _ _ (by decide +kernel)) ?_;refine⟨_,rfl,kq,_,_,_,rfl,rfl,SqT.of hq,rfl,rfl,_,rfl,?_⟩;refine zaJ (nes _ _ (by decide +kernel)) ?_;refine⟨_,rfl,kq,_,_,_,rfl,rfl,SqT.of hq,rfl,rfl,_,rfl,?_⟩;refine zaJ (nes _ _ (by decide +kernel)) ?_;refine⟨_,rfl,kq,_,_,_,rfl,rfl,SqT.of hq,rfl,rfl,_,rfl,?_⟩;refine zaJ (nes _ _ (by decide +kernel)) ?_;refine⟨_,rfl,_,dx,_,rfl,hp,rfl,_,rfl,kq,_,_,_,rfl,rfl,SqT.of hq,rfl,ρ,ad,s,d,T0,rfl,hh,R.r,.inl ⟨d,rfl,ok,?_⟩⟩;rw[step_drop]at q qe;by_cases hg:(s.deed d).st=.zar\/(s.deed d).st=.waiting
    . rw[yaj hg]at q;exact .inl ⟨hg,λH' ρ' ad' a1 a2 a3=>q _ H' ρ' ad' a1 a2 a3⟩
    . rw[yai hg]at qe;exact .inr ⟨hg,qe rfl⟩
theorem zoy(T:Txt K mg A F):FnOk P w K mg base (CX1 P w) 11 (F.f 42) (F.fd 42) ["_law_hall","_law_act_here"] (spDo A):=by
 have G__law_call:=@zlv P w K mg base A F T;refine T.zqY.okN ze4 (λvs H Q E h=>?_) (λcdv A' outer s H vs Q E hr h=>?_)
 . obtain⟨ρ,ad,s,kq,act,T0,ns,rfl,_⟩:=h
   rfl
 . obtain⟨ρ,ad,s,kq,act,T0,ns,rfl,hh,R,ht,hn,ok,hq,q⟩:=h;refine⟨_,(zac (zaL (i:=2) ze4.nd rfl (by walk_at "loc") zgj)
    (zac (ztV rfl rfl rfl rfl rfl T.zg6 T.zod (λE pn xe hp=>(zaf (zaL (i:=2) ze4.nd rfl (by walk_at "loc") (zaN G__law_call (hmr hr) rfl T.zmV T.zmP T.zm5 .nil hp (zaa (pv 0) (zaa (pv 1) zad)))))) (λe=>(zaf (zaL (i:=2) ze4.nd rfl (by walk_at "loc") zaQ))))
    (zaf (zay (pv 2))))),?_⟩
   refine⟨_,rfl,_,rfl,ρ,ad,s,kq,act,T0,ns,rfl,hh,R,ht,hn,ok,hq,λv H' ρ' ad' a1 a2 a3=>⟨_,rfl,q _ H' ρ' ad' a1 a2 a3⟩,λe=>⟨rfl,?_⟩⟩;refine⟨_,rfl,q _ H ρ ad rfl ?_ .refl⟩;rw[e];exact hh
theorem zil(T:Txt K mg A F):FnOk P w K mg base (CX1 P w) 1 (F.f 43) (F.fd 43) ["self"] (zuK A):=by
 refine T.zo5.okN zmu (λvs H Q E h=>?_) (λcdv A' outer s H vs Q E hr h=>?_)
 . obtain⟨ρ,ad,s,kv,rfl,_⟩:=h
   rfl
 . obtain⟨ρ,ad,s,kv,rfl,hh,q⟩:=h;obtain⟨dx,hp⟩:=hh.hall;obtain⟨us,hus,tus⟩:=hh.rows;refine⟨_,(zaf (zay (za5 zbG (by rfl) T.zeQ ycQ (zaa (zas (pv 0) rfl) zad)))),?_⟩;exact⟨_,rfl,_,_,dx,_,_,rfl,hp,T.zaj,T.zcp,rfl,ad .rows,_,rfl,.inl ⟨SqL.of hus,λn nn=>q _ n us nn (Same.zaq nn) zab (zaE (Same.zaq nn) tus)⟩⟩
theorem zhv(T:Txt K mg A F):FnOk P w K mg base (CX1 P w) 3 (F.f 52) (F.fd 52) ["self","deed"] (zpm A):=by
 have G_Hall_record_of:=@zbZ P w K mg base A F T;refine T.zi0.okX zhu (λvs H Q E h=>?_) (λcdv A' outer s H vs Q E hr h=>?_)
 . obtain⟨ρ,ad,s,kv,i,rfl,_⟩:=h
   rfl
 . obtain⟨ρ,ad,s,kv,i,rfl,hh,hn,q⟩:=h;obtain⟨dx,hp⟩:=hh.hall;refine⟨_,(zaf (zay (zas (zaA (pv 0) T.zaj T.zcd G_Hall_record_of (hmr hr) T.zcf .nil zbR (zaa (pv 1) zad)) rfl))),?_⟩;refine⟨_,rfl,_,dx,_,rfl,hp,rfl,_,rfl,ρ,ad,s,kv,i,rfl,hh,hn,?_⟩;rcases q with ⟨d,rfl,hd,q⟩ | q
   rotate_left
   . exact .inr q
   obtain⟨dr,w0,hrc,_⟩:=hh.rcd hd;exact .inl ⟨d,rfl,hd,_,_,dr,_,_,rfl,hrc,T.zax,T.zaC,rfl,q⟩
theorem zmG(T:Txt K mg A F):FnOk P w K mg base (CX1 P w) 10 (F.f 44) (F.fd 44) ["hall","row"] (zsw A):=by
 have G_Hall_begin:=@zcV P w K mg base A F T;have G_Hall_write:=@zd7 P w K mg base A F T;have G_Hall_keep:=@zeO P w K mg base A F T;have G_Hall_give_up:=@zc8 P w K mg base A F T;refine T.zo1.okN zmr (λvs H Q E h=>?_) (λcdv A' outer s H vs Q E hr h=>?_)
 . obtain⟨ρ,ad,r,l,row,ns,kq,rfl,_⟩:=h
   rfl
 . obtain⟨ρ,ad,r,l,row,ns,kq,rfl,hh,rp,ok,hk,ht,hn,hq,q⟩:=h;obtain⟨dx,hp⟩:=hh.hall;have nes:∀a b:Str,a≠b->decide (V.str a=V.str b)=false:=λa b h=>yay λz=>h (V.str.inj z);refine⟨_,(zaf (zbn (zaw zb5 (zaT za0 (pv 1) zak (λ_ _=>rfl)) (zci rfl T.zmY) (zaB _)) (zaf (zaI (za7 (pv 0) T.zaj T.zdn G_Hall_begin (hmr hr) T.zdp .nil zaz))) (zaf (zbn (zaw zb5 (zaT za0 (pv 1) zak (λ_ _=>rfl)) (zci rfl T.zg5) (zaB _)) (zaf (zaI (zaA (pv 0) T.zaj T.zeT G_Hall_write (hmr hr) T.ze1 .nil zaz (zaa (zaT za0 (pv 1) zak (λ_ _=>rfl)) (zaa (zaT za0 (pv 1) zak (λ_ _=>rfl)) (zaa (zaT za0 (pv 1) zak (λ_ _=>rfl)) zad)))))) (zaf (zbn (zaw zb5 (zaT za0 (pv 1) zak (λ_ _=>rfl)) (zci rfl T.zqr) (zaB _)) (zaf (zaI (zaA (pv 0) T.zaj T.zfW G_Hall_keep (hmr hr) T.zf4 .nil zaz (zaa (zaT za0 (pv 1) zak (λ_ _=>rfl)) zad)))) (zaf (zaI (zaA (pv 0) T.zaj T.zdB G_Hall_give_up (hmr hr) T.zdG .nil zaz (zaa (zaT za0 (pv 1) zak (λ_ _=>rfl)) zad)))))))))),?_⟩;have R:=rp.R;cases row with
   | begin d =>
    refine⟨_,rfl,kq,_,_,_,rfl,rfl,SqT.of hq,rfl,rfl,_,rfl,?_⟩;refine zbv (yaz rfl) ⟨_,rfl,_,dx,_,rfl,hp,rfl,ρ,ad,r,zam r,rfl,hh,R.r.L.sm R.r.c,hn,λH' ρ' ad' a1 a2 a3=>q H' ρ' ad' a1 ?_ a3⟩;show zai A ρ' ad' (zav r) (zam (zav r)) H';rw[zda R.r.c];exact a2
   | write d k b v =>
    refine⟨_,rfl,kq,_,_,_,rfl,rfl,SqT.of hq,rfl,rfl,_,rfl,?_⟩;refine zaJ (nes _ _ (by decide +kernel)) ?_;refine⟨_,rfl,kq,_,_,_,rfl,rfl,SqT.of hq,rfl,rfl,_,rfl,?_⟩;refine zbv (yaz rfl) ?_;obtain⟨ha,hdn⟩:=rp.act ok.1;have hg:=rp.p.zar ha;have h4:=see4 R.r.L.e R.k (hk d k b v rfl);refine⟨_,rfl,_,dx,_,rfl,hp,rfl,_,rfl,kq,_,_,_,rfl,rfl,SqT.of hq,rfl,_,rfl,kq,_,_,_,rfl,rfl,SqT.of hq,rfl,_,rfl,kq,_,_,_,rfl,rfl,SqT.of hq,rfl,ρ,ad,r,d,k,v,l.length,rfl,hh,R.r,ht,h4,.inl ⟨d,rfl,hdn,.inl ⟨hg,λH' ρ' ad' q' a1 a2 a3 a4 a5=>q H' ρ' ad' a1 ?_ a3⟩⟩⟩;show zai A ρ' ad' (zbW r (.write d k v)) (zam (zbW r (.write d k v))) H';rw[zcB,yaj hg,(zcm R.r hg).2.2.1];exact a2
   | keep d =>
    refine⟨_,rfl,kq,_,_,_,rfl,rfl,SqT.of hq,rfl,rfl,_,rfl,?_⟩;refine zaJ (nes _ _ (by decide +kernel)) ?_;refine⟨_,rfl,kq,_,_,_,rfl,rfl,SqT.of hq,rfl,rfl,_,rfl,?_⟩;refine zaJ (nes _ _ (by decide +kernel)) ?_;refine⟨_,rfl,kq,_,_,_,rfl,rfl,SqT.of hq,rfl,rfl,_,rfl,?_⟩;refine zbv (yaz rfl) ?_;obtain⟨ha,hdn⟩:=rp.act ok;have hg:=rp.p.zar ha;refine⟨_,rfl,_,dx,_,rfl,hp,rfl,_,rfl,kq,_,_,_,rfl,rfl,SqT.of hq,rfl,ρ,ad,r,d,l.length,rfl,hh,R.r,.inl ⟨d,rfl,hdn,.inl ⟨hg,λH' ρ' ad' a1 a2 a3=>q H' ρ' ad' a1 ?_ a3⟩⟩⟩;show zai A ρ' ad' (zbW r (.keep d)) (zam (zbW r (.keep d))) H';rw[zc2,yaj hg];exact a2
   | drop d =>
    refine⟨_,rfl,kq,_,_,_,rfl,rfl,SqT.of hq,rfl,rfl,_,rfl,?_⟩;refine zaJ (nes _ _ (by decide +kernel)) ?_;refine⟨_,rfl,kq,_,_,_,rfl,rfl,SqT.of hq,rfl,rfl,_,rfl,?_⟩;refine zaJ (nes _ _ (by decide +kernel)) ?_;refine⟨_,rfl,kq,_,_,_,rfl,rfl,SqT.of hq,rfl,rfl,_,rfl,?_⟩;refine zaJ (nes _ _ (by decide +kernel)) ?_;obtain⟨ha,hdn⟩:=rp.act ok;refine⟨_,rfl,_,dx,_,rfl,hp,rfl,_,rfl,kq,_,_,_,rfl,rfl,SqT.of hq,rfl,ρ,ad,r,d,l.length,rfl,hh,R.r,.inl ⟨d,rfl,hdn,.inl ⟨ha,λH' ρ' ad' a1 a2 a3=>q H' ρ' ad' a1 ?_ a3⟩⟩⟩;have e:zbW r (.drop d)=drop ordS r d:=by rw[step_drop];exact yaj ha
    show zai A ρ' ad' (zbW r (.drop d)) (zam (zbW r (.drop d))) H';rw[e];exact a2
theorem zcS(T:Txt K mg A F):FnOk P w K mg base (CX1 P w) 2 (F.f 47) (F.fd 47) ["book"] zi2:=by
 have G_rising_keys:=@zfm P w K mg base A F T;refine T.zjn.okN zhZ (λvs H Q E h=>?_) (λcdv A' outer s H vs Q E hr h=>?_)
 . obtain⟨p,l,b,rfl,_⟩:=h
   rfl
 . obtain⟨p,l,b,rfl,hp,hb,h4,k⟩:=h;have hu:=zdT hr;refine⟨_,(zaf (zay (za5 zjj (by rfl) T.zeQ ycQ (zaa (zd6 1 [0] ["key","book"] rfl (by walk_at "blk") (zeM (zaN G_rising_keys (hmr hr) rfl T.zgs T.zgp T.zgB .nil zaz (zaa (pv 0) zad))) (λC fp s H=>(zaS (i:=0) (show(["key","book"]:List Str).Nodup by decide +kernel) rfl (by walk_at "loc"))) (λC fp s H=>zic) (λC fp s H=>(za4 (zaa (pv 0) (zaa (zd5 hu (pv 1) (pv 0) (λ_ _=>rfl)) zad))))) zad)))),?_⟩;have hlen:(ordS (l.map (·.1))).length<=4:=yaA (znK _ (l.map (·.1)) (λ_ h=>h) hb.nd) (by rw[yaa];exact h4);refine⟨_,rfl,p,l.map (·.1),rfl,.inr ⟨bkV l,hp,by unfold bkV;simp[ya7,Function.comp_def],by unfold bkV;rw[yaa];exact h4⟩,by rw[yaa];omega,by omega,λH1 q _ s1 hq=>⟨q,rfl,⟨_,SqT.of hq⟩,?_⟩⟩;refine zgy (xs:=(ordS (l.map (·.1))).map V.str) (λi ys σ H2=>∃v0,σ=[v0,some (.ref p)]/\Same H H2/\H2 q=some (.tup ((ordS (l.map (·.1))).map V.str))/\i<=(ordS (l.map (·.1))).length/\zap H2 ys (((ordS (l.map (·.1))).take i).map λk=>[V.str k,V.int ((b k).getD 0)])/\∀p,V.ref p∈ys->H p=none) ⟨none,rfl,s1,hq,ya1 _,.nil,λp h=>by cases h⟩ (λi ys σ H2 ⟨_,_,_,e,hi,t,_⟩=>⟨SqT.of e,?_⟩) (by rw[yaa,yaw];omega) ?_ ?_
   . rw[t.length,yaa,yaY];omega
   . rintro i x ys σ H2 hlt hx ⟨v0,rfl,s2,hq2,hi,t,fq⟩;rw[yaa]at hlt;rw[yak]at hx;obtain⟨y,hy,rfl⟩:=yao.mp hx;obtain⟨v,hv⟩:∃v,b y=some v:=by
       obtain⟨e,he,hey⟩:=yap.mp (zaX.mp (yaS hy));exact⟨e.2,(hb.mem y e.2).mp (by rw[<-hey];exact he)⟩
     have dg:DGet H2 p (V.str y) (some (V.int v)):=by
       have:=DGet.k (k:=Sum.inr y) (s2 p _ hp);rw[hb.val,hv]at this;exact this
     refine⟨_,rfl,_,rfl,_,rfl,p,_,rfl,dg,sz2,λr hr=>nx (by rw[yaa];exact hlt) ⟨_,rfl,s2.upd2 hr,zal hq2 hr,hlt,?_,λp hp=>?_⟩⟩
     rotate_left
     . rcases yas.mp hp with z | z
       . exact fq p z
       . cases yaq.mp z;exact s2.free hr
     rw[yaD,hy,yav];refine S6.zbS (zap.mono (A:=A) (.of_same (Same.zaq hr)) t) ⟨r,rfl,?_⟩;rw[zab];show _=some (HO.tup [V.str y,V.int ((b y).getD 0)]);rw[hv];rfl
   . rintro ys σ H2 ⟨v0,rfl,s2,hq2,hi,t,fq⟩;rw[yaa,yaG]at t;intro r hr;refine⟨r,_,rfl,SqL.of zab,λr2 o hr2 od=>?_⟩;refine k _ r2 ⟨o,ys,(s2.upd2 hr).free hr2,fq,(s2.upd2 hr).upd2 hr2,zab,od,?_⟩;exact zap.mono (A:=A) (.of_same ((Same.zaq hr).upd2 hr2)) t
theorem zdm(T:Txt K mg A F):FnOk P w K mg base (CX1 P w) 3 (F.f 50) (F.fd 50) ["self"] (zmj A):=by
 have G_rising_pairs:=@zcS P w K mg base A F T;refine T.zhE.okN zgK (λvs H Q E h=>?_) (λcdv A' outer s H vs Q E hr h=>?_)
 . obtain⟨ρ,ad,s,kv,rfl,_⟩:=h
   rfl
 . obtain⟨ρ,ad,s,kv,rfl,hh,h4,nd,hk,q⟩:=h;obtain⟨dx,hp⟩:=hh.hall;obtain⟨l,hl,hb⟩:=hh.zde;refine⟨_,(zaf (zay (zaN G_rising_pairs (hmr hr) rfl T.zdE T.zdD T.zdF .nil zaz (zaa (zas (pv 0) rfl) zad)))),?_⟩;refine⟨_,rfl,_,_,dx,_,_,rfl,hp,T.zaj,T.zbd,rfl,_,l,kv,rfl,hl,hb,yaA (hb.len nd hk) h4,λH' q' bk=>q H' q' (l.map (·.1)) (λk=>?_) bk⟩;constructor
   . intro h;obtain⟨p,hp,rfl⟩:=yap.mp h;rw[(hb.mem p.1 p.2).mp hp];exact λz=>nomatch z
   . intro h;cases e:kv k with
     | none=>exact absurd e h
     | some v=>exact yap.mpr ⟨(k,v),(hb.mem k v).mpr e,rfl⟩
theorem zly(T:Txt K mg A F):FnOk P w K mg base (CX1 P w) 3 (F.f 49) (F.fd 49) ["self"] (ztD A):=by
 have G_rising_pairs:=@zcS P w K mg base A F T;refine T.zo4.okN zmt (λvs H Q E h=>?_) (λcdv A' outer s H vs Q E hr h=>?_)
 . obtain⟨ρ,ad,s,kv,rfl,_⟩:=h
   rfl
 . obtain⟨ρ,ad,s,kv,rfl,hh,h4,nd,hk,q⟩:=h;obtain⟨dx,hp⟩:=hh.hall;obtain⟨l,hl,hb⟩:=hh.zcC;refine⟨_,(zaf (zay (zaN G_rising_pairs (hmr hr) rfl T.zdE T.zdD T.zdF .nil zaz (zaa (zas (pv 0) rfl) zad)))),?_⟩;refine⟨_,rfl,_,_,dx,_,_,rfl,hp,T.zaj,T.zbm,rfl,_,l,_,rfl,hl,hb,yaA (hb.len nd hk) h4,λH' q' bk=>q H' q' (l.map (·.1)) (λk=>?_) bk⟩;constructor
   . intro h;obtain⟨p,hp,rfl⟩:=yap.mp h;rw[(hb.mem p.1 p.2).mp hp];exact λz=>nomatch z
   . intro h;cases e:s.book k with
     | none=>exact absurd e h
     | some v=>exact yap.mpr ⟨(k,v),(hb.mem k v).mpr e,rfl⟩
theorem zmH(T:Txt K mg A F):FnOk P w K mg base (CX1 P w) 3 (F.f 48) (F.fd 48) ["rows"] zpq:=by
 have G_rising_pairs:=@zcS P w K mg base A F T;refine T.zqX.okN zcZ (λvs H Q E h=>?_) (λcdv A' outer s H vs Q E hr h=>?_)
 . obtain⟨q,l,SN,rfl,_⟩:=h
   rfl
 . obtain⟨q,l,SN,rfl,⟨us,hq,tu⟩,hl,ki,nd,h4,k⟩:=h;have hu:=zdT hr;have hul:us.length=l.length:=by rw[tu.length,yaa]
   have nes:∀a b:Str,a≠b->decide (V.str a=V.str b)=false:=λa b h=>yay λz=>h (V.str.inj z);refine⟨_,(zac (zaL (i:=1) zcZ.nd rfl (by walk_at "loc") zdk)
     (zac (zaL (i:=2) zcZ.nd rfl (by walk_at "loc") zdk)
     (zac (zdj ya4 rfl (zeM (pv 0)) (zaS (i:=3) zcZ.nd rfl (by walk_at "loc")) (zaf (zbn (zaw zb5 (zaT za0 (pv 3) zak (λ_ _=>rfl)) (zci rfl T.zg5) (zaB _)) (zaf (zaI (zet yaF yaQ yaR zbw (znH (pv 1) (zaT za0 (pv 3) zak (λ_ _=>rfl)) (zc7 zad) ⟨rfl,rfl,rfl,rfl⟩) (zaa (za4 (zaa (zaT za0 (pv 3) zak (λ_ _=>rfl)) (zaa (zaT za0 (pv 3) zak (λ_ _=>rfl)) zad))) zad)))) (zaf (zbn (zaw zb5 (zaT za0 (pv 3) zak (λ_ _=>rfl)) (zci rfl T.zqr) (zaB _)) (zaf (zdj ya4 rfl (zdz (zhM hu (pv 1) (zaT za0 (pv 3) zak (λ_ _=>rfl)) (zc7 zad) ⟨rfl,rfl,rfl,rfl⟩)) (znF (n:=2) rfl (zcc (zaS (i:=4) zcZ.nd rfl (by walk_at "loc")) (zcc (zaS (i:=5) zcZ.nd rfl (by walk_at "loc")) zif))) (zaf (zfN hu (pv 2) (pv 4) (pv 5) rfl)))) zaP)))))
     (zaf (zay (zaN G_rising_pairs (hmr hr) rfl T.zdE T.zdD T.zdF .nil zaz (zaa (pv 2) zad))))))),?_⟩
   intro pw nw pb nb;have hne:pw≠pb:=λz=>by rw[z,zab]at nb;cases nb
   have nb0:H pb=none:=by rw[zag hne.symm]at nb;exact nb
   have s0:Same H (upd (upd H pw (.dK [])) pb (.dK [])):=(Same.zaq nw).upd2 nb;refine⟨_,rfl,q,rfl,⟨_,SqT.of (s0 _ _ hq)⟩,?_⟩;refine zg8 (xs:=us) (λi σ H2=>∃kvs lb v3 v4 v5,σ=[some (.ref q),some (.ref pw),some (.ref pb),v3,v4,v5]/\Same H H2/\H2 pw=some (.dK kvs)/\H2 pb=some (.dK (bkV lb))/\WrAt H H2 kvs (l.take i)/\zbs lb (bkOf (l.take i))) ⟨[],[],none,none,none,rfl,s0,by rw[zag hne,zab],zab,.nil,⟨ybO,λk v=>⟨λh=>(by cases h),λh=>(by cases h)⟩⟩⟩ (λi σ H2 _ ⟨_,_,_,_,_,_,m,_⟩=>SqT.of (m _ _ hq)) ?_ ?_
   . rintro i x σ H2 hx ⟨kvs,lb,v3,v4,v5,rfl,m2,hw2,hb2,wr,ib⟩;have hi:i < l.length:=by rw[<-hul];exact(yar.mp hx).1
     obtain⟨y,hy,r,rfl,hr1⟩:=zbU tu hx;rw[yak]at hy;obtain⟨row,hrow,rfl⟩:=yao.mp hy;have ei:l.take (i+1)=l.take i++[row]:=by rw[yaD,hrow];rfl
     have hlt:(l.take i).length<=3000:=by rw[yaY];omega
     have hr2:=m2 _ _ hr1;have keep:∀{G:Hp} {a:Addr} {o:HO},H a=none->Same H G->Same H (upd G a o):=λna m b u e=>by rw[zag (zah e na)];exact m b u e
     cases row with
     | begin d =>
       refine⟨_,rfl,r,_,_,V.str "begin",rfl,rfl,SqT.of hr2,rfl,rfl,_,rfl,zaJ (nes _ _ (by decide +kernel)) ?_⟩;refine⟨_,rfl,r,_,_,V.str "begin",rfl,rfl,SqT.of hr2,rfl,rfl,_,rfl,zaJ (nes _ _ (by decide +kernel)) ?_⟩;refine⟨kvs,lb,_,_,_,rfl,m2,hw2,hb2,?_,?_⟩
       . rw[ei];exact wr.same (λd=>by rw[zbe];simp) (by rw[yah];omega)
       . rw[ei,zcx];exact ib
     | drop d =>
       refine⟨_,rfl,r,_,_,V.str "give up",rfl,rfl,SqT.of hr2,rfl,rfl,_,rfl,zaJ (nes _ _ (by decide +kernel)) ?_⟩;refine⟨_,rfl,r,_,_,V.str "give up",rfl,rfl,SqT.of hr2,rfl,rfl,_,rfl,zaJ (nes _ _ (by decide +kernel)) ?_⟩;refine⟨kvs,lb,_,_,_,rfl,m2,hw2,hb2,?_,?_⟩
       . rw[ei];exact wr.same (λd=>by rw[zbe];simp) (by rw[yah];omega)
       . rw[ei,zcx];exact ib
     | write d k0 b0 v0 =>
       refine⟨_,rfl,r,_,_,V.str "write",rfl,rfl,SqT.of hr2,rfl,rfl,_,rfl,zbv (yaz rfl) ?_⟩;refine⟨_,rfl,pw,rfl,.inl ⟨_,.of hw2⟩,_,rfl,r,_,_,V.int d,rfl,rfl,SqT.of hr2,rfl,ya1 _,λn nn=>⟨kvs,Sum.inl (d:Int),zal hw2 nn,rfl,by rw[yaw];have:=wr.len;omega,λv hv=>?_,λhv=>?_⟩⟩
       . obtain⟨li,hv'⟩:=(wr.val d).resolve_left λz=>by rw[hv]at z;cases z
         rw[hv]at hv';cases hv';obtain⟨us0,hli,tli⟩:=wr.got hv;have hl0:us0.length<=3000:=by
           rw[tli.length,yaa];exact yaA (List.length_filterMap_le _ _) hlt
         refine⟨.inl ⟨rfl,_,SqL.of (zal hli nn)⟩,_,rfl,r,_,_,V.str k0,rfl,rfl,SqT.of (zal hr2 nn),rfl,_,rfl,r,_,_,V.int v0,rfl,rfl,SqT.of (zal hr2 nn),rfl,sz2,λt nt=>⟨li,us0,V.ref t,rfl,rfl,zal (zal hli nn) nt,by rw[yaw];omega,?_⟩⟩;have g0:∀b o,H2 b=some o->b≠li->upd (upd (upd H2 n (.lst [])) t (.tup [V.str k0,V.int v0])) li (.lst (us0++[V.ref t])) b=some o:=λb o e hb=>by rw[zag hb];exact zal (zal e nn) nt
         have gt:upd (upd (upd H2 n (.lst [])) t (.tup [V.str k0,V.int v0])) li (.lst (us0++[V.ref t])) t=some (.tup [V.str k0,V.int v0]):=by
           rw[zag λz=>by rw[z,zal hli nn]at nt;cases nt];exact zab
         have gl:upd (upd (upd H2 n (.lst [])) t (.tup [V.str k0,V.int v0])) li (.lst (us0++[V.ref t])) li=some (.lst (us0++[V.ref t])):=zab;show ∃_,_;generalize upd (upd (upd H2 n (.lst [])) t (.tup [V.str k0,V.int v0])) li (.lst (us0++[V.ref t]))=G at *;have it:∀b xs,H2 b=some (.tup xs)->G b=some (.tup xs):=λb xs e=>g0 b _ e (zbj e hli λz=>nomatch z);refine⟨kvs,lb,_,_,_,rfl,λb o e=>g0 b o (m2 b o e) (zah e (wr.fr _ _ hv)),g0 _ _ hw2 (zbj hw2 hli λz=>nomatch z),g0 _ _ hb2 (zbj hb2 hli λz=>nomatch z),?_,by rw[ei,zcx];exact ib⟩;rw[ei];refine wr.app hv gl ?_ (λb xs hb e=>g0 b _ e hb) it;rw[yav];exact zgb (zeB it tli) (.cons ⟨t,rfl,gt⟩ .nil)
       . have nwn:n≠pw:=λz=>by rw[z,hw2]at nn;cases nn
         have hn3:upd (upd H2 n (.lst [])) pw (.dK (putK kvs (Sum.inl (d:Int)) (.ref n))) n=some (.lst []):=by rw[zag nwn];exact zab
         have hr3:upd (upd H2 n (.lst [])) pw (.dK (putK kvs (Sum.inl (d:Int)) (.ref n))) r=some (.tup (rowV (.write d k0 b0 v0))):=by rw[zag (zbj hr2 hw2 λz=>nomatch z)];exact zal hr2 nn
         refine⟨.inl ⟨rfl,_,SqL.of hn3⟩,_,rfl,r,_,_,V.str k0,rfl,rfl,SqT.of hr3,rfl,_,rfl,r,_,_,V.int v0,rfl,rfl,SqT.of hr3,rfl,sz2,λt nt=>⟨n,[],V.ref t,rfl,rfl,zal hn3 nt,by rw[yaw];show 0 < _;omega,?_⟩⟩;have g0:∀b o,H2 b=some o->b≠pw->upd (upd (upd (upd H2 n (.lst [])) pw (.dK (putK kvs (Sum.inl (d:Int)) (.ref n)))) t (.tup [V.str k0,V.int v0])) n (.lst ([]++[V.ref t])) b=some o:=λb o e hb=>by
           rw[zag (zah e nn)];exact zal (by rw[zag hb];exact zal e nn) nt
         have gw:upd (upd (upd (upd H2 n (.lst [])) pw (.dK (putK kvs (Sum.inl (d:Int)) (.ref n)))) t (.tup [V.str k0,V.int v0])) n (.lst ([]++[V.ref t])) pw=some (.dK (putK kvs (Sum.inl (d:Int)) (.ref n))):=by
           rw[zag nwn.symm];exact zal zab nt
         have gt:upd (upd (upd (upd H2 n (.lst [])) pw (.dK (putK kvs (Sum.inl (d:Int)) (.ref n)))) t (.tup [V.str k0,V.int v0])) n (.lst ([]++[V.ref t])) t=some (.tup [V.str k0,V.int v0]):=by
           rw[zag λz=>by rw[z,hn3]at nt;cases nt];exact zab
         have gl:upd (upd (upd (upd H2 n (.lst [])) pw (.dK (putK kvs (Sum.inl (d:Int)) (.ref n)))) t (.tup [V.str k0,V.int v0])) n (.lst ([]++[V.ref t])) n=some (.lst [V.ref t]):=zab;show ∃_,_;generalize upd (upd (upd (upd H2 n (.lst [])) pw (.dK (putK kvs (Sum.inl (d:Int)) (.ref n)))) t (.tup [V.str k0,V.int v0])) n (.lst ([]++[V.ref t]))=G at *;refine⟨_,lb,_,_,_,rfl,λb o e=>g0 b o (m2 b o e) (zah e nw),gw,g0 _ _ hb2 hne.symm,?_,by rw[ei,zcx];exact ib⟩;rw[ei];refine wr.set nn (m2.free nn) gl ?_ (λb xs e=>g0 b _ e (zbj e hw2 λz=>nomatch z)) (λb xs e=>g0 b _ e (zbj e hw2 λz=>nomatch z));have e0:logW (l.take i) d=[]:=by
           rcases wr.at_ d with ⟨_,q⟩ | ⟨li,_,q,_⟩
           . exact q
           . rw[hv]at q;cases q
         rw[e0];exact .cons ⟨t,rfl,gt⟩ .nil
     | keep d =>
       refine⟨_,rfl,r,_,_,V.str "keep",rfl,rfl,SqT.of hr2,rfl,rfl,_,rfl,zaJ (nes _ _ (by decide +kernel)) ?_⟩;refine⟨_,rfl,r,_,_,V.str "keep",rfl,rfl,SqT.of hr2,rfl,rfl,_,rfl,zbv (yaz rfl) ?_⟩;refine⟨_,rfl,pw,rfl,.inl ⟨_,.of hw2⟩,_,rfl,r,_,_,V.int d,rfl,rfl,SqT.of hr2,rfl,ya1 _,λn nn=>⟨_,DGet.k (k:=Sum.inl (d:Int)) (zal hw2 nn),?_⟩⟩;have g3:Same H2 (upd H2 n (.lst [])):=Same.zaq nn;obtain⟨a0,us0,ea0,ha0,ta0⟩:∃a0 us0,(valV kvs (Sum.inl (d:Int))).getD (.ref n)=.ref a0/\upd H2 n (.lst []) a0=some (.lst us0)/\zap (upd H2 n (.lst [])) us0 ((logW (l.take i) d).map zeA):=by
         rcases wr.at_ d with ⟨q1,q2⟩ | ⟨li,us,q1,q2,q3⟩
         . rw[q1,q2];exact⟨n,[],rfl,zab,.nil⟩
         . rw[q1];exact⟨li,us,rfl,g3 _ _ q2,zaE g3 q3⟩
       rw[ea0];have hb3:=g3 _ _ hb2;have hw3:=g3 _ _ hw2;have wr3:=wr.carry (H':=upd H2 n (.lst [])) (λb xs e=>g3 _ _ e) (λb xs e=>g3 _ _ e);have m3:Same H (upd H2 n (.lst [])):=m2.trans g3;generalize upd H2 n (.lst [])=H3 at *;refine⟨a0,rfl,⟨_,SqL.of ha0⟩,?_⟩;have hul0:us0.length=(logW (l.take i) d).length:=by rw[ta0.length,yaa]
       refine zfe (xs:=us0) (λj σ G=>∃lb' v4 v5,σ=[some (.ref q),some (.ref pw),some (.ref pb),some (.ref r),v4,v5]/\(∀b o,H3 b=some o->b≠pb->G b=some o)/\G pb=some (.dK (bkV lb'))/\zbs lb' (wb (bkOf (l.take i)) ((logW (l.take i) d).take j))) ⟨lb,v4,v5,rfl,λ_ _ e _=>e,hb3,ib⟩ (λj σ G _ ⟨_,_,_,_,kp,_⟩=>SqL.of (kp _ _ ha0 (zbj ha0 hb3 λz=>nomatch z))) ?_ ?_
       . rintro j y σ G hy ⟨lb',v4,v5,rfl,kp,hbG,ibG⟩;obtain⟨z,hz,t,rfl,ht⟩:=zbU ta0 hy;rw[yak]at hz;obtain⟨p,hp,rfl⟩:=yao.mp hz;have ej:(logW (l.take i) d).take (j+1)=(logW (l.take i) d).take j++[p]:=by rw[yaD,hp];rfl
         have hlen:lb'.length<=4:=yaA (ibG.len nd λk hk=>by
           rcases zj1 hk with z | z
           . exact ztc _ (ki.pre i) k z
           . obtain⟨p',hp',rfl⟩:=yap.mp z;exact ki.pre i d p' (yb1 hp')) h4
         refine⟨t,_,rfl,SqT.of (kp _ _ ht (zbj ht hb3 λz=>nomatch z)),rfl,_,_,rfl,_,_,rfl,rfl,_,rfl,_,rfl,_,rfl,pb,_,rfl,DPut.k (k:=Sum.inr p.1) hbG (by rw[zkK,yaw];omega),?_⟩;rw[zkJ];refine⟨_,_,_,rfl,λb o e hb=>by rw[zag hb];exact kp b o e hb,zab,?_⟩;rw[ej,zmf];exact ibG.put p.1 p.2
       . rintro σ G ⟨lb',v4,v5,rfl,kp,hbG,ibG⟩;rw[hul0,yaG]at ibG;refine⟨kvs,lb',_,_,_,rfl,λb o e=>kp b o (m3 b o e) (zah e nb0),kp _ _ hw3 hne,hbG,?_,by rw[ei,zcx];exact ibG⟩;rw[ei];exact(wr3.carry (λb xs e=>kp _ _ e (zbj e hb3 λz=>nomatch z)) (λb xs e=>kp _ _ e (zbj e hb3 λz=>nomatch z))).same (λd=>by rw[zbe];simp) (by rw[yah];omega)
   . rintro σ H2 ⟨kvs,lb,v3,v4,v5,rfl,m2,hw2,hb2,wr,ib⟩;rw[hul,yaG]at ib;refine⟨_,rfl,pb,lb,bkOf l,rfl,hb2,ib,?_,?_⟩
     . exact yaA (ib.len nd (ztc l ki)) h4
     . intro H' p bk;refine k H' p (lb.map (·.1)) (λk=>?_) (bk.back m2);constructor
       . intro h;obtain⟨p,hp,rfl⟩:=yap.mp h;rw[(ib.mem p.1 p.2).mp hp];exact λz=>nomatch z
       . intro h;cases e:bkOf l k with
         | none=>exact absurd e h
         | some v=>exact yap.mpr ⟨(k,v),(ib.mem k v).mpr e,rfl⟩
theorem zij(T:Txt K mg A F):FnOk P w K mg base (CX1 P w) 1 (F.f 45) (F.fd 45) ["rows"] zpp:=by
 refine T.zo0.okN zfu (λvs H Q E h=>?_) (λcdv A' outer s H vs Q E hr h=>?_)
 . obtain⟨q,l,rfl,_⟩:=h
   rfl
 . obtain⟨q,l,rfl,⟨us,hq,tu⟩,hl,wf,hB,k⟩:=h;have hu:=zdT hr;have hul:us.length=l.length:=by rw[tu.length,yaa]
   have nes:∀a b:Str,a≠b->decide (V.str a=V.str b)=false:=λa b h=>yay λz=>h (V.str.inj z);refine⟨_,(zac (zaL (i:=1) zfu.nd rfl (by walk_at "loc") zdk)
     (zac (zdj ya4 rfl (zeM (pv 0)) (zaS (i:=2) zfu.nd rfl (by walk_at "loc")) (zaf (zbn (zaw zb5 (zaT za0 (pv 2) zak (λ_ _=>rfl)) (zci rfl T.zmY) (zaB _)) (zaf (zfN hu (pv 1) (zaT za0 (pv 2) zak (λ_ _=>rfl)) zig rfl)) (zaf (zbn (zaw zls (zaT za0 (pv 2) zak (λ_ _=>rfl)) (zci rfl T.zg5) (zaB _)) (zaf (zaI (zki (pv 1) (zaT za0 (pv 2) zak (λ_ _=>rfl)) zgj ⟨rfl,rfl,rfl,rfl⟩))) zaP)))))
     (zaf (zay (za5 zbG (by rfl) T.zeQ ycQ (zaa (zbC (zeo rfl) (by rfl) T.zkp boot_sorted (zaa (pv 1) zad)) zad)))))),?_⟩
   intro pg ng;have s0:Same H (upd H pg (.dK [])):=Same.zaq ng;refine⟨_,rfl,q,rfl,⟨_,SqT.of (s0 _ _ hq)⟩,?_⟩;have gl:∀i,(za1 (logG (l.take i))).length<=63:=λi=>by
     unfold za1;rw[yaa];exact yaA (zkz (Wf.pre wf i)) (yaA (zrt l i) hB)
   refine zg8 (xs:=us) (λi σ H2=>∃v2,σ=[some (.ref q),some (.ref pg),v2]/\Same H H2/\H2 pg=some (.dK (za1 (logG (l.take i))))) ⟨none,rfl,s0,zab⟩ (λi σ H2 _ ⟨_,_,m,_⟩=>SqT.of (m _ _ hq)) ?_ ?_
   . rintro i x σ H2 hx ⟨v2,rfl,m2,hg2⟩;obtain⟨y,hy,r,rfl,hr1⟩:=zbU tu hx;rw[yak]at hy;obtain⟨row,hrow,rfl⟩:=yao.mp hy;have ei:l.take (i+1)=l.take i++[row]:=by rw[yaD,hrow];rfl
     have ok:=Wf.last wf hrow;have gw:=Wf.zar (Wf.pre wf i);have nd:(logG (l.take i)).Nodup:=gw.up.imp λh=>yaI h;have hr2:=m2 _ _ hr1;have keep:∀{o:HO},Same H (upd H2 pg o):=λb u e=>by rw[zag (zah e ng)];exact m2 b u e
     have ends:∀d,logG (l.take i++[row])=(logG (l.take i)).erase d->(∀v,valV (za1 (logG (l.take i))) (Sum.inl (d:Int))=some v->∃v2,[some (V.ref q),some (V.ref pg),some (V.ref r)]=[some (V.ref q),some (V.ref pg),v2]/\Same H (upd H2 pg (.dK (zgv (za1 (logG (l.take i))) (Sum.inl (d:Int)))))/\upd H2 pg (.dK (zgv (za1 (logG (l.take i))) (Sum.inl (d:Int)))) pg=some (.dK (za1 (logG (l.take (i+1))))))/\(valV (za1 (logG (l.take i))) (Sum.inl (d:Int))=none->∃v2,[some (V.ref q),some (V.ref pg),some (V.ref r)]=[some (V.ref q),some (V.ref pg),v2]/\Same H H2/\H2 pg=some (.dK (za1 (logG (l.take (i+1)))))):=λd e=>by
       refine⟨λv _=>⟨_,rfl,keep,?_⟩,λhv=>⟨_,rfl,m2,?_⟩⟩
       . rw[zab,zoO nd,ei,e]
       . rw[hg2,ei,e,List.erase_of_not_mem λz=>by rw[zjP,yaj z]at hv;cases hv]
     cases row with
     | begin d =>
       have ok:d=(logB (l.take i)).length:=ok;refine⟨_,rfl,r,_,_,V.str "begin",rfl,rfl,SqT.of hr2,rfl,rfl,_,rfl,zbv (yaz rfl) ?_⟩;refine⟨_,rfl,_,rfl,r,_,_,V.int d,rfl,rfl,SqT.of hr2,rfl,pg,_,rfl,DPut.k (k:=Sum.inl (d:Int)) hg2 (by have:=gl i;rw[yaw];omega),⟨_,rfl,keep,?_⟩⟩;rw[zab,zoJ λz=>by have:=(gw.g d z).1;omega,ei,zbJ];rfl
     | write d k0 b0 v0 =>
       refine⟨_,rfl,r,_,_,V.str "write",rfl,rfl,SqT.of hr2,rfl,rfl,_,rfl,zaJ (nes _ _ (by decide +kernel)) ?_⟩;refine⟨_,rfl,r,_,_,V.str "write",rfl,rfl,SqT.of hr2,rfl,rfl,_,rfl,zaJ (by rw[yaz rfl];rfl) ⟨_,rfl,m2,?_⟩⟩;rw[hg2,ei,zbJ];rfl
     | keep d =>
       refine⟨_,rfl,r,_,_,V.str "keep",rfl,rfl,SqT.of hr2,rfl,rfl,_,rfl,zaJ (nes _ _ (by decide +kernel)) ?_⟩;refine⟨_,rfl,r,_,_,V.str "keep",rfl,rfl,SqT.of hr2,rfl,rfl,_,rfl,zbv (by rw[nes _ _ (by decide +kernel)];rfl) ?_⟩;exact⟨_,rfl,pg,rfl,.inl ⟨_,.of hg2⟩,_,rfl,r,_,_,V.int d,rfl,rfl,SqT.of hr2,rfl,_,Sum.inl (d:Int),hg2,rfl,ends d (by rw[zbJ];rfl)⟩
     | drop d =>
       refine⟨_,rfl,r,_,_,V.str "give up",rfl,rfl,SqT.of hr2,rfl,rfl,_,rfl,zaJ (nes _ _ (by decide +kernel)) ?_⟩;refine⟨_,rfl,r,_,_,V.str "give up",rfl,rfl,SqT.of hr2,rfl,rfl,_,rfl,zbv (by rw[nes _ _ (by decide +kernel)];rfl) ?_⟩;exact⟨_,rfl,pg,rfl,.inl ⟨_,.of hg2⟩,_,rfl,r,_,_,V.int d,rfl,rfl,SqT.of hr2,rfl,_,Sum.inl (d:Int),hg2,rfl,ends d (by rw[zbJ];rfl)⟩
   . rintro σ H2 ⟨v2,rfl,m2,hg2⟩;rw[hul,yaG]at hg2;have gw:=Wf.zar wf;have hk:(za1 (logG l)).map (·.1)=(logG l).map λ(d:Nat)=>(Sum.inl (d:Int):Key):=by unfold za1;rw[ya7];rfl
     have nd:(logG l).Nodup:=gw.up.imp λh=>yaI h;refine⟨_,rfl,pg,(logG l).map λ(d:Nat)=>(Sum.inl (d:Int):Key),rfl,.inr ⟨_,hg2,hk⟩,?_,?_,?_,λys n pm so nn=>?_⟩
     . exact List.Pairwise.map _ (λa b h=>znX h) nd
     . exact .inl λk hk=>by obtain⟨d,_,rfl⟩:=yap.mp hk;exact⟨_,rfl⟩
     . rw[yaa];have:=zkz wf;omega
     . have ey:=zpI pm so (List.Pairwise.map _ (λa b h=>yaz (show(a:Int) < (b:Int) by omega)) gw.up);refine⟨n,_,rfl,.inl ⟨SqL.of zab,λp np=>k _ p ((m2.upd2 nn).upd2 np) ?_⟩⟩;rw[zab,ey,ya7];rfl
theorem zro(T:Txt K mg A F):FnOk P w K mg base (CX1 P w) 11 (F.f 46) (F.fd 46) ["rows"] (zsq A):=by
 have G_Hall_init:=@zhl P w K mg base A F T;have G_do_again:=@zmG P w K mg base A F T;have G_going_in:=@zij P w K mg base A F T;have G_Hall_give_up:=@zc8 P w K mg base A F T;refine T.ztk.okN zhJ (λvs H Q E h=>?_) (λcdv A' outer s H vs Q E hr h=>?_)
 . obtain⟨kq,l,ns,rfl,_⟩:=h
   rfl
 . obtain⟨kq,l,ns,rfl,⟨us,hq,tu⟩,wf,al,ik,hl,hb,hg,q⟩:=h;have hul:us.length=l.length:=by rw[tu.length,yaa]
   refine⟨_,(zac (zaL (i:=1) zhJ.nd rfl (by walk_at "loc") (zhL T.zp2 G_Hall_init (hmr hr) rfl T.zqs T.ziU .nil zaz))
     (zac (zdj ya4 rfl (zeM (pv 0)) (zaS (i:=2) zhJ.nd rfl (by walk_at "loc")) (zaf (zaI (zaN G_do_again (hmr hr) rfl T.zoM T.zoE T.zoU .nil zaz (zaa (pv 1) (zaa (pv 2) zad))))))
     (zac (zdj ya4 rfl (zeM (zaN G_going_in (hmr hr) rfl T.zjQ T.zjK T.zjY .nil zaz (zaa (pv 0) zad))) (zaS (i:=3) zhJ.nd rfl (by walk_at "loc")) (zaf (zaI (zaA (pv 1) T.zaj T.zdB G_Hall_give_up (hmr hr) T.zdG .nil zaz (zaa (pv 3) zad)))))
     (zaf (zay (pv 1)))))),?_⟩
   intro x dx nxx ndx nex;refine⟨x,dx,rfl,zab,λH1 ρ ad ea hh kp=>⟨rfl,?_⟩⟩;have s0:Same H (upd (upd H dx (.own x)) x (.ins A.zaW dx [])):=(Same.zaq ndx).upd2 (by rw[zag nex.symm];exact nxx);have s1:∀b o,H b=some o->H1 b=some o/\ρ b=.other:=λb o e=>kp b o (s0 b o e) (zah e nxx);have hh:zai A ρ ad TH.empty (zam (TH.empty:HS Str)) H1:=hh;have rpi:∀i,i<=l.length->Rp ns (redo (l.take i)) (l.take i):=λi hi=>by
     refine zmz (wf.take i) (al.take i) (λd k b v m=>ik d k b v (yb1 m)) (by rw[yaY];omega) ?_;have:(logB (l.take i)).length<=(logB l).length:=by
       have e:=ybG i l;have:logB l=logB (l.take i)++logB (l.drop i):=by
         unfold logB;rw[<-ya8,e]
       rw[this,yah];omega
     omega
   refine⟨_,rfl,kq,rfl,⟨_,SqT.of (s1 _ _ hq).1⟩,?_⟩;refine zg8 (xs:=us) (λi σ H2=>∃ρ' ad' v2,σ=[some (.ref kq),some (.ref x),v2,none]/\ad' Role.hall=x/\zai A ρ' ad' (redo (l.take i)) (zam (redo (l.take i))) H2/\∀b o,H b=some o->H2 b=some o/\ρ' b=.other) ⟨ρ,ad,none,rfl,ea,hh,s1⟩ (λi σ H2 _ ⟨_,_,_,_,_,_,e⟩=>SqT.of (e _ _ hq).1) ?_ ?_
   . rintro i y σ H2 hy ⟨ρ2,ad2,v2,rfl,ea2,h2,k2⟩;obtain⟨y',hy1,r,rfl,hr1⟩:=zbU tu hy;rw[yak]at hy1;obtain⟨row,hrow,rfl⟩:=yao.mp hy1;have hi:i < l.length:=(yar.mp hrow).1;have ei:l.take (i+1)=l.take i++[row]:=by rw[yaD,hrow];rfl
     have rp:=rpi i (by omega);have ok:zpC (l.take i) row:=by
       have:=wf.take (i+1);rw[ei]at this;generalize e:l.take i++[row]=m at this;cases this with
       | nil=>simp at e
       | @snoc l2 r2 h1 h2 =>
         obtain⟨e1,e2⟩:=ydI e rfl;cases e2;subst e1;exact h2
     subst ea2;refine⟨_,rfl,_,rfl,ρ2,ad2,redo (l.take i),l.take i,row,ns,r,rfl,h2,rp,ok,λd k b v e=>ik d k b v (by rw[<-e];exact yaS hrow),by rw[yaY];omega,?_,(k2 _ _ hr1).1,λH3 ρ3 ad3 ea3 h3 f3=>?_⟩
     . rw[rp.n];have:(logB (l.take i)).length<=(logB l).length:=by
         have e:=ybG i l;have:logB l=logB (l.take i)++logB (l.drop i):=by
          unfold logB;rw[<-ya8,e]
         rw[this,yah];omega
       omega
     . refine⟨ρ3,ad3,_,rfl,ea3,?_,λb o e=>f3 _ _ (k2 b o e).1 (k2 b o e).2⟩;rw[ei,zh9];exact h3
   rintro σ H2 ⟨ρ2,ad2,v2,rfl,ea2,h2,k2⟩;rw[hul,yaG]at h2;subst ea2;refine⟨_,rfl,kq,l,rfl,⟨us,(k2 _ _ hq).1,?_⟩,by omega,wf,by omega,λH3 qg m3 e3=>⟨qg,rfl,⟨_,SqT.of e3⟩,?_⟩⟩
   . exact zeB (λb xs e=>(k2 b _ e).1) tu
   have lD:∀i,i<=(logG l).length->Rp ns (redo (l++((logG l).take i).map Row.drop)) (l++((logG l).take i).map Row.drop):=λi hi=>by
     obtain⟨w1,a1,_⟩:=zkF wf al i hi;refine zmz w1 a1 (λd k b v m=>?_) (by rw[yah,yaa,yaY];omega) ?_
     . rcases yas.mp m with z | z
       . exact ik d k b v z
       . obtain⟨_,_,z⟩:=yap.mp z;cases z
     . rw[ze8];omega
   have k3:∀b o,H b=some o->H3 b=some o/\ρ2 b=.other:=λb o e=>⟨m3 _ _ (k2 b o e).1,(k2 b o e).2⟩
   have hil:(zaD (logG l)).length=(logG l).length:=by unfold zaD;rw[yaa]
   refine zg8 (xs:=zaD (logG l)) (λi σ H4=>∃ρ' ad' v3,σ=[some (.ref kq),some (.ref (ad2 .hall)),v2,v3]/\ad' Role.hall=ad2 .hall/\zai A ρ' ad' (redo (l++((logG l).take i).map Row.drop)) (zam (redo (l++((logG l).take i).map Row.drop))) H4/\H4 qg=some (.tup (zaD (logG l)))/\∀b o,H b=some o->H4 b=some o/\ρ' b=.other) ⟨ρ2,ad2,none,rfl,rfl,by rw[yd3,ydh,ybe];exact h2.grow m3,e3,k3⟩ (λi σ H4 _ ⟨_,_,_,_,_,_,e,_⟩=>SqT.of e) ?_ ?_
   . rintro i y σ H4 hy ⟨ρ4,ad4,v3,rfl,ea4,h4,e4,k4⟩;unfold zaD at hy;rw[yak]at hy;obtain⟨d,hd,rfl⟩:=yao.mp hy;have hi:i < (logG l).length:=(yar.mp hd).1;have rp:=lD i (by omega);obtain⟨_,_,eg⟩:=zkF wf al i (by omega);have hdm:d∈logG (l++((logG l).take i).map Row.drop):=by
       rw[eg,ydl hi];have:(logG l)[i]=d:=(yar.mp hd).2;rw[this];exact yac
     obtain⟨ha,hdn⟩:=rp.act hdm;have ed:l++((logG l).take (i+1)).map Row.drop=(l++((logG l).take i).map Row.drop)++[Row.drop d]:=by
       have ht:(logG l).take (i+1)=(logG l).take i++[d]:=by rw[yaD,hd];rfl
       rw[ht,yav,<-yb4];rfl
     obtain⟨dx4,hp4⟩:=h4.hall;rw[<-ea4];refine⟨_,rfl,_,dx4,_,rfl,hp4,rfl,_,rfl,ρ4,ad4,_,d,_,rfl,h4,rp.R.r,.inl ⟨d,rfl,hdn,.inl ⟨ha,λH5 ρ5 ad5 a1 a2 a3=>⟨ρ5,ad5,_,rfl,a1,?_,a3.t _ _ e4,λb o e=>a3 _ _ (k4 b o e).1 (k4 b o e).2⟩⟩⟩⟩;have es:zbW (redo (l++((logG l).take i).map Row.drop)) (.drop d)=drop ordS (redo (l++((logG l).take i).map Row.drop)) d:=by rw[step_drop];exact yaj ha
     rw[ed,zh9];show zai A ρ5 ad5 (zbW _ (.drop d)) (zam (zbW _ (.drop d))) H5;rw[es];exact a2
   . rintro σ H4 ⟨ρ4,ad4,v3,rfl,ea4,h4,e4,k4⟩;rw[hil,yaG]at h4;rw[<-ea4];exact⟨_,rfl,q H4 ρ4 ad4 (λb o e=>(k4 b o e).1) h4 λb o e=>(k4 b o e).2⟩
theorem zkj(T:Txt K mg A F):FnOk P w K mg base (CX1 P w) 5 (F.f 4) (F.fd 4) ["_law_script","_law_cell_here","_law_begun"] (zsx K):=by
 have G__law_mix:=@zfQ P w K mg base A F T;have G__law_cell:=@zdl P w K mg base A F T;have G__law_key:=@zfR P w K mg base A F T;refine T.zo3.okN zc3 (λvs H Q E h=>?_) (λcdv A' outer s H vs Q E hr h=>?_)
 . obtain⟨a,ns,c,b,rfl,_⟩:=h
   rfl
 . obtain⟨a,ns,c,b,rfl,hS,hb,q⟩:=h;refine⟨_,(zac (zaL (i:=3) zc3.nd rfl (by walk_at "loc") (zaN G__law_mix (hmr hr) rfl T.zb2 T.zb1 T.zb4 .nil zaz (zaa (pv 1) (zaa zak (zaa (pv 2) zad)))))
     (zac (zaL (i:=4) zc3.nd rfl (by walk_at "loc") (zaN G__law_key (hmr hr) rfl T.zdU T.zdR T.zdX .nil zaz (zaa (pv 0) (zaa (zaN G__law_mix (hmr hr) rfl T.zb2 T.zb1 T.zb4 .nil zaz (zaa (pv 1) (zaa zak (zaa (zbQ zcU zak (zaN G__law_mix (hmr hr) rfl T.zb2 T.zb1 T.zb4 .nil zaz (zaa (zaN G__law_cell (hmr hr) rfl T.zck T.zcj T.zcl .nil zaz (zaa (pv 0) (zaa zak zad))) (zaa zak (zaa zak zad))))) zad)))) zad))))
     (zac (zaL (i:=5) zc3.nd rfl (by walk_at "loc") (zaN G__law_mix (hmr hr) rfl T.zb2 T.zb1 T.zb4 .nil zaz (zaa (pv 1) (zaa zak (zaa zak zad)))))
     (zac (zaL (i:=6) zc3.nd rfl (by walk_at "loc") (zaT zbF (zc7 (zaa zak (zaa zak zad))) (za5 zgA (by rfl) T.zpW boot_int (zaa (zdA zb5 (zbQ zjz (zaN G__law_cell (hmr hr) rfl T.zck T.zcj T.zcl .nil zaz (zaa (pv 0) (zaa zak zad))) zak) zak (zaB _)) zad)) (λ_ _=>rfl)))
     (zac (zbn (PW.pt (znD (zaw zmD (pv 5) (zbQ zcU zak (zbQ zsQ (pv 6) zak)) (zaB _)) (zkc (zaw zmD (pv 2) (pv 6) (zaB _))))) (zaf (zay (za4 (zaa zaQ zad)))) zaP)
     (zac (zbn (zaw zmD (pv 5) zak (zaB _)) (zaf (zay (za4 (zaa zaQ (zaa (pv 3) (zaa (pv 4) zad)))))) zaP)
     (zac (zbn (zaw zmD (pv 5) zak (zaB _)) (zaf (zay (za4 (zaa zaQ (zaa (pv 3) (zaa (pv 4) (zaa (zbQ zrW (zaN G__law_mix (hmr hr) rfl T.zb2 T.zb1 T.zb4 .nil zaz (zaa (pv 1) (zaa zak (zaa zak zad)))) zak) zad))))))) zaP)
     (zac (zbn (zaw zmD (pv 5) zak (zaB _)) (zaf (zay (za4 (zaa zaQ (zaa (pv 3) zad))))) zaP)
     (zaf (zay (za4 (zaa zaQ (zaa (pv 3) zad))))))))))))),?_⟩
   obtain⟨d,ed,hd⟩:=zmJ (c:=c) (p:=9949) hb;obtain⟨m,em,hm⟩:=zmJ (c:=za3 ns 0) (p:=9931) (m:=4) (by decide);obtain⟨j,ej,hj⟩:=zmJ (c:=c) (p:=9941) (m:=1+m) (by omega);have em:mixF (za3 ns 0) 9931 4=m:=em;refine⟨_,rfl,_,rfl,_,_,_,rfl,by decide,by omega,?_⟩;rw[ed];refine⟨_,rfl,_,rfl,_,rfl,a,ns,0,rfl,hS,_,_,_,rfl,by decide,by decide,_,_,rfl,rfl,_,_,_,rfl,by decide,by rw[em];omega,a,ns,j,?_,hS,by omega,λH1 s1=>?_⟩
   . rw[em,show(1:Int)+(m:Int)=((1+m:Nat):Int) by omega,ej];rfl
   refine⟨_,rfl,_,_,_,rfl,by decide,by decide,?_⟩;generalize mixF c 9929 17=tn;refine⟨sz2,λl hl=>?_⟩;have s2:Same H (upd H1 l (.lst [V.int 9,V.int 30])):=s1.upd2 hl;refine⟨_,rfl,a,ns,0,rfl,s2.seq hS,_,_,rfl,rfl,(by show(0:Int) < 16;decide),rfl,.inr ⟨_,rfl,l,_,_,V.int (if za3 ns 0 % 16=3 then 30 else 9),rfl,rfl,SqL.of zab,?_,?_⟩⟩
   . by_cases h:za3 ns 0 % 16=3
     . rw[yaj h];show atI [V.int 9,V.int 30] (if decide (V.int (za3 ns 0 % 16)=V.int 3)=true then 1 else 0)=_;rw[yaj (yaz (by rw[h]))];exact zbH (xs:=[V.int 9,V.int 30]) (j:=1) rfl
     . rw[yai h];show atI [V.int 9,V.int 30] (if decide (V.int (za3 ns 0 % 16)=V.int 3)=true then 1 else 0)=_;rw[yai (by rw[yay λz=>h (V.int.inj z)];exact yam)];exact zbH (xs:=[V.int 9,V.int 30]) (j:=0) rfl
   have hM:(if za3 ns 0 % 16=3 then (30:Int) else 9)<=30:=by split<;>decide
   generalize (if za3 ns 0 % 16=3 then (30:Int) else 9)=M at hM ⊢;show tSeq _ _ _ _ (upd H1 l (.lst [V.int 9,V.int 30]));generalize upd H1 l (.lst [V.int 9,V.int 30])=H2 at *;refine⟨_,rfl,_,rfl,_,_,rfl,rfl,⟨by decide,by decide⟩,_,_,rfl,rfl,_,_,rfl,rfl,_,rfl,?_⟩;by_cases h1:tn < 2+M / 15
   . refine zbv (yaz h1) ⟨_,rfl,_,rfl,_,_,rfl,rfl,_,rfl,?_⟩;by_cases h2:(b:Int) < M
     . exact zbv (yaz h2) ⟨sz1,λn nn=>q _ n .begin (s2.free nn) (s2.upd2 nn) zab trivial (λ_=>by omega)⟩
     refine zaJ (yay h2) ?_;refine⟨_,rfl,_,_,rfl,rfl,_,rfl,?_⟩;by_cases h3:tn < 7
     . exact zbv (yaz h3) ⟨_,rfl,_,rfl,sz3,λn nn=>q _ n (.read d (keyF ns j)) (s2.free nn) (s2.upd2 nn) zab ⟨hd,j,by omega,rfl⟩ (λz=>nomatch z)⟩
     refine zaJ (yay h3) ⟨_,rfl,_,_,rfl,rfl,_,rfl,?_⟩;by_cases h4:tn < 13
     . exact zbv (yaz h4) ⟨_,rfl,_,rfl,_,rfl,_,_,_,rfl,by decide,by decide,_,_,rfl,rfl,sz4,λn nn=>q _ n (.write d (keyF ns j) _) (s2.free nn) (s2.upd2 nn) zab ⟨hd,j,by omega,rfl⟩ (λz=>nomatch z)⟩
     refine zaJ (yay h4) ⟨_,rfl,_,_,rfl,rfl,_,rfl,?_⟩;by_cases h5:tn < 16
     . exact zbv (yaz h5) ⟨_,rfl,sz2,λn nn=>q _ n (.keep d) (s2.free nn) (s2.upd2 nn) zab hd (λz=>nomatch z)⟩
     . exact zaJ (yay h5) ⟨_,rfl,sz2,λn nn=>q _ n (.drop d) (s2.free nn) (s2.upd2 nn) zab hd (λz=>nomatch z)⟩
   . refine zaJ (yay h1) ?_;refine⟨_,rfl,_,_,rfl,rfl,_,rfl,?_⟩;by_cases h3:tn < 7
     . exact zbv (yaz h3) ⟨_,rfl,_,rfl,sz3,λn nn=>q _ n (.read d (keyF ns j)) (s2.free nn) (s2.upd2 nn) zab ⟨hd,j,by omega,rfl⟩ (λz=>nomatch z)⟩
     refine zaJ (yay h3) ⟨_,rfl,_,_,rfl,rfl,_,rfl,?_⟩;by_cases h4:tn < 13
     . exact zbv (yaz h4) ⟨_,rfl,_,rfl,_,rfl,_,_,_,rfl,by decide,by decide,_,_,rfl,rfl,sz4,λn nn=>q _ n (.write d (keyF ns j) _) (s2.free nn) (s2.upd2 nn) zab ⟨hd,j,by omega,rfl⟩ (λz=>nomatch z)⟩
     refine zaJ (yay h4) ⟨_,rfl,_,_,rfl,rfl,_,rfl,?_⟩;by_cases h5:tn < 16
     . exact zbv (yaz h5) ⟨_,rfl,sz2,λn nn=>q _ n (.keep d) (s2.free nn) (s2.upd2 nn) zab hd (λz=>nomatch z)⟩
     . exact zaJ (yay h5) ⟨_,rfl,sz2,λn nn=>q _ n (.drop d) (s2.free nn) (s2.upd2 nn) zab hd (λz=>nomatch z)⟩
theorem zi9(T:Txt K mg A F):FnOk P w K mg base (CX1 P w) 6 (F.f 5) (F.fd 5) ["_law_script"] (zq9 K):=by
 have G__law_act:=@zkj P w K mg base A F T;refine T.znj.okN zco (λvs H Q E h=>?_) (λcdv A' outer s H vs Q E hr h=>?_)
 . obtain⟨a,ns,rfl,_⟩:=h
   rfl
 . obtain⟨a,ns,rfl,hS,q⟩:=h;refine⟨_,(zac (zaL (i:=1) zco.nd rfl (by walk_at "loc") (zc7 (zaa (za4 (zaa zaQ zad)) (zaa (za4 (zaa zaQ zad)) zad))))
     (zac (zaL (i:=2) zco.nd rfl (by walk_at "loc") zak)
     (zac (zdj ya4 rfl (zdz (znG zsz (pv 0) (zmA zak) (zmA zak))) (zaS (i:=3) zco.nd rfl (by walk_at "loc")) (zac (zaL (i:=4) zco.nd rfl (by walk_at "loc") (zaN G__law_act (hmr hr) rfl T.zoN T.zoF T.zoV .nil zaz (zaa (pv 0) (zaa (pv 3) (zaa (pv 2) zad)))))
     (zac (zaL (i:=2) zco.nd rfl (by walk_at "loc") (zbQ zcU (pv 2) (za5 zgA (by rfl) T.zpW boot_int (zaa (zdA zb5 (zaT za0 (pv 4) zak (λ_ _=>rfl)) zaQ (zaB _)) zad))))
     (zaf (zaI (zet yaF yaQ yaR zbw (pv 1) (zaa (pv 4) zad)))))))
     (zaf (zay (pv 1)))))),?_⟩
   refine⟨sz1,λp1 n1=>⟨sz1,λp2 n2=>⟨sz2,λl nl=>?_⟩⟩⟩;have s1:Same H (upd H p1 (.tup [V.str "begin"])):=Same.zaq n1;have s2:=s1.upd2 (o:=.tup [V.str "begin"]) n2;have s3:=s2.upd2 (o:=.lst [V.ref p1,V.ref p2]) nl;have e2:upd (upd H p1 (.tup [V.str "begin"])) p2 (.tup [V.str "begin"]) p2=some (.tup [V.str "begin"]):=zab;have e1:upd (upd H p1 (.tup [V.str "begin"])) p2 (.tup [V.str "begin"]) p1=some (.tup [V.str "begin"]):=zal zab n2;refine⟨_,rfl,_,rfl,_,rfl,a,_,rfl,s3.seq hS,λpc nc=>⟨pc,rfl,⟨_,SqL.of zab⟩,?_⟩⟩;have ec:cutV (ns.map V.int) (some 1) (some 62)=((ns.take 62).drop 1).map V.int:=by
     have e0:cutV (ns.map V.int) (some 1) (some 62)=((ns.map V.int).drop (min 1 (ns.map V.int).length)).take (min 62 (ns.map V.int).length - min 1 (ns.map V.int).length):=rfl;rw[e0,yaa,List.map_drop,yd4,List.drop_take];cases hns:ns with
     | nil=>rfl
     | cons x r =>
       rw[yaP,Nat.min_eq_left (show 1<=r.length+1 by omega)];show((r.map V.int).take _)=(r.map V.int).take 61;by_cases h:62<=r.length+1
       . rw[Nat.min_eq_left h]
       . rw[yba (by rw[yaa];omega),yba (by rw[yaa];omega)]
   rw[ec];have hcl:((ns.take 62).drop 1).length<=61:=by rw[ydH,yaY];omega
   generalize hcs:(ns.take 62).drop 1=cs at *;have nlc:l≠pc:=zah zab nc;have s4:=s3.upd2 (o:=.lst (cs.map V.int)) nc;have nlH:H l=none:=s2.free nl;have npH:H pc=none:=s3.free nc;refine zfe (xs:=cs.map V.int) (λi σ H2=>∃us As v3 v4,σ=[some (.ref a),some (.ref l),some (.int ((zcy As:Nat):Int)),v3,v4]/\Same H H2/\H2 l=some (.lst us)/\H2 pc=some (.lst (cs.map V.int))/\zap H2 us (As.map actD)/\(∀p,V.ref p∈us->H p=none)/\Valid ns As/\As.length=2+i/\2<=zcy As/\zcy As<=30) ?_ (λi σ H2 _ ⟨_,_,_,_,_,_,_,e,_⟩=>SqL.of e) ?_ ?_
   . refine⟨[V.ref p1,V.ref p2],[.begin,.begin],none,none,rfl,s4,zal zab nc,zab,?_,?_,?_,rfl,yaf _,by decide⟩
     . exact .cons ⟨p1,rfl,zal (zal e1 nl) nc⟩ (.cons ⟨p2,rfl,zal (zal e2 nl) nc⟩ .nil)
     . intro p hp;rcases yat.mp hp with h | h
       . cases h;exact n1
       . rcases yat.mp h with h | h
         . cases h;exact s1.free n2
         . cases h
     . intro i x hx
       match i,hx with
       | 0,hx=>cases hx;trivial
       | 1,hx=>cases hx;trivial
       | i+2,hx=>cases hx
   . rintro i x σ H2 hx ⟨us,As,v3,v4,rfl,m2,hl2,hc2,t2,f2,vd,hlen,hb2,hb30⟩;rw[yak]at hx;obtain⟨c,hc,rfl⟩:=yao.mp hx;have hi:i < cs.length:=(yar.mp hc).1;have hul:us.length=As.length:=by rw[t2.length,yaa]
     refine⟨_,rfl,_,rfl,_,rfl,a,ns,c,zcy As,rfl,m2.seq hS,by omega,λH3 q3 Ac n3 m3 e3 ok3 b30=>?_⟩;obtain⟨tx,eA,db⟩:=zqR Ac;have m03:=m2.trans m3;refine⟨_,rfl,_,rfl,q3,_,_,V.str tx,rfl,rfl,SqT.of e3,zbH (j:=0) (by rw[eA];rfl),rfl,.inr ⟨_,rfl,_,_,rfl,rfl,?_⟩⟩;have hl3:=m3 _ _ hl2;refine⟨_,rfl,.inl ⟨rfl,_,SqL.of hl3⟩,_,rfl,l,us,V.ref q3,rfl,rfl,hl3,by rw[hul,yaw];omega,?_⟩;have eb:((zcy As:Nat):Int)+(if decide (V.str tx=V.str "begin")=true then 1 else 0)=((zcy (As++[Ac]):Nat):Int):=by
       rw[db,zec];have:=zr5 Ac;by_cases h:Ac.isB=1
       . rw[yaz h,yaj rfl,h];rfl
       . rw[yay h,yai yam];have:Ac.isB=0:=by omega
         rw[this];rfl
     refine⟨us++[V.ref q3],As++[Ac],_,_,by rw[<-eb];rfl,?_,zab,?_,?_,?_,vd.snoc ok3,by rw[yah,yaE];omega,by rw[zec];omega,zrM hb30 b30⟩
     . intro b o e;rw[zag (zah e nlH)];exact m03 b o e
     . rw[zag nlc.symm];exact m3 _ _ hc2
     . rw[yav];have lift:∀{vs:List V} {xss:List (List V)},zap H3 vs xss->zap (upd H3 l (.lst (us++[V.ref q3]))) vs xss:=λ{vs xss} t=>by
         induction t with
         | nil=>exact .nil
         | cons r0 _ ih =>
           obtain⟨p0,e0,q0⟩:=r0;exact .cons ⟨p0,e0,by rw[zag (zbj q0 hl3 (λz=>nomatch z))];exact q0⟩ ih
       exact lift (S6.zbS (zaE m3 t2) ⟨q3,rfl,e3⟩)
     . intro p hp;rcases yas.mp hp with hp | hp
       . exact f2 p hp
       . have:=yaq.mp hp;cases this;exact m2.free n3
   . rintro σ H2 ⟨us,As,v3,v4,rfl,m2,hl2,hc2,t2,f2,vd,hlen,hb2,hb30⟩;rw[yaa]at hlen;exact⟨_,rfl,q H2 l us As nlH m2 hl2 t2 f2 vd (by omega) hb30⟩
theorem zik(T:Txt K mg A F):FnOk P w K mg base (CX1 P w) 10 (F.f 54) (F.fd 54) ["_law_found","_law_script","_law_ahead","_law_many"] (ztH K A):=by
 have G_Hall_kept_book:=@zdm P w K mg base A F T;have G__law_key:=@zfR P w K mg base A F T;have G_Hall_write:=@zd7 P w K mg base A F T;have G_Hall_begin:=@zcV P w K mg base A F T;have G_Hall_read:=@zeN P w K mg base A F T;have G_Hall_keep:=@zeO P w K mg base A F T;have G_Hall_done_by:=@zeP P w K mg base A F T;have G_Hall_log:=@zil P w K mg base A F T;refine T.zjo.okN zbN (λvs H Q E h=>?_) (λcdv A' outer s H vs Q E hr h=>?_)
 . obtain⟨ρ,ad,f,ns,n,T0,la,a,qa,rfl,_⟩:=h
   rfl
 . obtain⟨ρ,ad,f,ns,n,T0,la,a,qa,rfl,hh,R,L,hT,so,fn,hn,fb,now_,ap,⟨ua,hqa,ta⟩,flog,frk,q⟩:=h;have hu:=zdT hr;have hu64:=hu64 hr;obtain⟨dx,hp⟩:=hh.hall;have okk:∀(g:HS Str) {T:Nat},Run ns g T->∀k∈g.seen,PyData.strOk k=true:=λg T R k hk=>by
     obtain⟨j,_,rfl⟩:=R.k k hk;exact zp8 ns j
   refine⟨_,(zac (zaL (i:=4) zbN.nd rfl (by walk_at "loc") (za7 (pv 0) T.zaj T.zce G_Hall_kept_book (hmr hr) T.zcg .nil zaz))
     (zac (zaL (i:=5) zbN.nd rfl (by walk_at "loc") (zaN G__law_key (hmr hr) rfl T.zdU T.zdR T.zdX .nil zaz (zaa (pv 1) (zaa zak zad))))
     (zac (zaL (i:=6) zbN.nd rfl (by walk_at "loc") (zhM hu (za5 (zha rfl) (by rfl) T.zpX zqO (zaa (pv 4) zad)) (pv 5) zak ⟨rfl,rfl,rfl,rfl⟩))
     (zac (zbn (PW.pt (zi6 (zaw (zhj hu64) (zaA (pv 0) T.zaj T.zeT G_Hall_write (hmr hr) T.ze1 .nil zaz (zaa (pv 3) (zaa (pv 5) (zaa (zbQ zcU (pv 6) zak) zad)))) (za4 (zaa zaQ zad)) (zaB _)) (zib (zaw zls (za7 (pv 0) T.zaj T.zdn G_Hall_begin (hmr hr) T.zdp .nil zaz) (zbQ zcU (pv 3) zak) (zaB _))))) (zaf (zay zig)) zaP)
     (zac (zbn (PW.pt (zi6 (zaw (zpP hu64) (za7 (pv 0) T.zaj T.zce G_Hall_kept_book (hmr hr) T.zcg .nil zaz) (pv 4) (zaB _)) (zi6 (zaw (zhj hu64) (zaA (pv 0) T.zaj T.zfV G_Hall_read (hmr hr) T.zf3 .nil zaz (zaa (zbQ zcU (pv 3) zak) (zaa (pv 5) zad))) (za4 (zaa zaQ zad)) (zaB _)) (zib (zgg (zmC (zaA (pv 0) T.zaj T.zfW G_Hall_keep (hmr hr) T.zf4 .nil zaz (zaa (pv 3) zad)))))))) (zaf (zay zig)) zaP)
     (zac (zbn (PW.pt (zi6 (zaw (zhj hu64) (zaA (pv 0) T.zaj T.zfn G_Hall_done_by (hmr hr) T.zfq .nil zaz (zaa (zbQ zcU (pv 3) zak) zad)) (za4 (zaa (za4 (zaa zaQ (zaa (pv 5) (zaa (zbQ zcU (pv 6) zak) zad)))) zad)) (zaB _)) (zib (zaw zls (zd5 hu (za5 (zha rfl) (by rfl) T.zpX zqO (zaa (za7 (pv 0) T.zaj T.zce G_Hall_kept_book (hmr hr) T.zcg .nil zaz) zad)) (pv 5) (λ_ _=>rfl)) (zbQ zcU (pv 6) zak) (zaB _))))) (zaf (zay zig)) zaP)
     (zac (zaL (i:=7) zbN.nd rfl (by walk_at "loc") (za4 (zaa (za4 (zaa zaQ (zaa (pv 3) zad))) (zaa (za4 (zaa zaQ (zaa (pv 3) (zaa (pv 5) (zaa (pv 6) (zaa (zbQ zcU (pv 6) zak) zad)))))) (zaa (za4 (zaa zaQ (zaa (zbQ zcU (pv 3) zak) zad))) (zaa (za4 (zaa zaQ (zaa (pv 3) zad))) zad))))))
     (zaf (zay (zdA (zt3 hu64) (za7 (pv 0) T.zaj T.ze7 G_Hall_log (hmr hr) T.zff .nil zaz) (zbQ zmE (pv 2) (pv 7)) (zaB _))))))))))),?_⟩
   refine⟨_,rfl,_,dx,_,rfl,hp,rfl,ρ,ad,f,zam f,rfl,hh,R.r.L.sn,R.r.L.e.snd,R.r.L.e.zje,λH1 qb ks hks bk=>?_⟩;obtain⟨o1,ub,nb,nub,m1,eb,od,tb⟩:=bk;have bin1:zgG ρ H1 qb ks (zam f):=⟨o1,ub,eb,od,tb,hh.fr _ nb,λp hp=>hh.fr _ (nub p hp)⟩
   have ap1:=ap.frame (Frame.grow (ρ:=ρ) m1);refine⟨_,rfl,a,ns,0,rfl,ap1.sq,by decide,λH2 m2=>?_⟩
   let key:Str:=keyF ns 0
   have ikey:zf7 ns key:=⟨0,by decide,rfl⟩
   obtain⟨o2,ub2,eb2,od2,tb2,_,_⟩:=bin1.frame (Frame.grow (ρ:=ρ) m2);refine⟨_,rfl,qb,o2,ub2,(ordS ks).map (λk=>((Sum.inr k:Key),V.int ((zam f k).getD 0))),rfl,eb2,od2,ze6 tb2,?_,λnd hnd=>?_⟩
   . rw[ya7];exact(zcH (zba ks)).map _ λx y h e=>h (ybL e)
   have m12:=m1.trans m2;have m3:=m12.upd2 (o:=.dK ((ordS ks).map λk=>((Sum.inr k:Key),V.int ((zam f k).getD 0)))) hnd;have bin3:=bin1.frame (Frame.grow (ρ:=ρ) (m2.upd2 (o:=.dK ((ordS ks).map λk=>((Sum.inr k:Key),V.int ((zam f k).getD 0)))) hnd))
   let v0:Int:=(zam f key).getD 0
   obtain⟨r0,dg,er⟩:∃r0,DGet (upd H2 nd (.dK ((ordS ks).map λk=>((Sum.inr k:Key),V.int ((zam f k).getD 0))))) nd (V.str key) r0/\r0.getD (V.int 0)=V.int v0:=by
     have dg:=DGet.k (k:=(Sum.inr key:Key)) (zab (H:=H2) (a:=nd) (o:=.dK ((ordS ks).map λk=>((Sum.inr k:Key),V.int ((zam f k).getD 0)))));rw[zkI hks]at dg;refine⟨_,dg,?_⟩;by_cases h:key∈ks
     . rw[yaj h];rfl
     . rw[yai h];show V.int 0=V.int v0;have:zam f key=none:=ybY λz=>h ((hks key).mpr z);show V.int 0=V.int ((zam f key).getD 0);rw[this];rfl
   refine⟨nd,rfl,.inl ⟨_,.inl zab⟩,_,rfl,r0,dg,?_⟩;rw[er];have hord:∀(l:List Str) k,k∈ordS l↔k∈l:=λl k=>zaX;obtain⟨so2,D2,w2,hw2,hw2'⟩:=so.wish ordS ⟨true,key,v0+1⟩;have kb2:zam (wish ordS f n ⟨true,key,v0+1⟩)=zam f:=D2.kb so.c so.go;have R2:Run ns (wish ordS f n ⟨true,key,v0+1⟩) (T0+1):=by
     have:=(R.step (a:=.write n key (v0+1)) (by omega) (by omega) ⟨by omega,ikey⟩).1;rw[zcB,yaj so.go]at this;exact this
   have L2':zaH (wish ordS f n ⟨true,key,v0+1⟩):=L.wish ordS R.r.c so.go;refine⟨_,rfl,_,dx,_,rfl,m3 _ _ hp,rfl,_,rfl,_,rfl,_,rfl,_,_,rfl,rfl,ρ,ad,f,n,key,v0+1,T0,rfl,hh.grow m3,R.r,by omega,see4 R.r.L.e R.k ikey,.inl ⟨n,rfl,by omega,.inl ⟨so.go,λH4 ρ4 ad4 q4 a1 h4 f4 e4 r4=>?_⟩⟩⟩;rw[zut D2.st]at e4;generalize hf2:wish ordS f n ⟨true,key,v0+1⟩=f2 at *;obtain⟨dx4,hp4⟩:=h4.hall;refine⟨sz1,λt4 nt4=>⟨.tuple [.str "done"],.tuple [.str "done"],.tup (zal e4 nt4) (.cons (.str _) .nil),.tup zab (.cons (.str _) .nil),by decide +kernel,by decide +kernel,_,rfl,zaJ (by simp) ?_⟩⟩;have m5:Same H4 (upd H4 t4 (.tup [V.str "done"])):=Same.zaq nt4;rw[<-a1];refine⟨_,rfl,_,dx4,_,rfl,m5 _ _ hp4,rfl,ρ4,ad4,f2,zam f,rfl,h4.grow m5,R2.r.L.sm R2.r.c,by rw[D2.nn];omega,λH6 ρ6 ad6 b1 h6 f6=>?_⟩;refine⟨_,rfl,_,_,rfl,rfl,rfl,_,rfl,zaJ (by rw[D2.nn,fn];simp) ?_⟩;have hnn:f2.n=n+1:=by rw[D2.nn,fn]
   have kb3:zam (zav f2)=zam f:=by rw[zda R2.r.c,kb2]
   have R3:Run ns (zav f2) (T0+2):=(R2.step (a:=.begin) (by omega) (by omega) trivial).1;have L3:zaH (zav f2):=L2'.zav R2.r.c;have hw2t:w2=true:=hw2' rfl;subst hw2t;have W:=so2.zuz ordS hw2;have hgo3:((zav f2).deed (n+1)).st=.zar:=by rw[<-hnn];show(up f2.deed f2.n _ f2.n).st=_;rw[zae]
   have wf3:=zcm (a:=⟨false,key,0⟩) R3.r hgo3;have R4:Run ns (wish ordS (zav f2) (n+1) ⟨false,key,0⟩) (T0+3):=by
     have:=(R3.step (a:=.read (n+1) key) (by omega) (by show f2.n+1 < 63;omega) ⟨by show n+1 < f2.n+1;omega,ikey⟩).1;rw[zdI,yaj hgo3]at this;exact this
   have L4:zaH (wish ordS (zav f2) (n+1) ⟨false,key,0⟩):=L3.wish ordS R3.r.c hgo3;have W:Wt f2 (wish ordS (zav f2) (n+1) ⟨false,key,0⟩) n (n+1) key:=by rw[<-hnn];exact W
   have kb4:zam (wish ordS (zav f2) (n+1) ⟨false,key,0⟩)=zam (zav f2):=wf3.2.2.1;have fA:Frame ρ (upd H2 nd (.dK ((ordS ks).map λk=>((Sum.inr k:Key),V.int ((zam f k).getD 0))))) ρ6 H6:=f4.trans ((Frame.grow m5).trans f6);have bin6:=bin3.frame fA;obtain⟨dx6,hp6⟩:=h6.hall;rw[<-b1];refine⟨_,rfl,_,dx6,_,rfl,hp6,rfl,ρ6,ad6,zav f2,zam f,rfl,h6,R3.r.L.sn,R3.r.L.e.snd,by rw[<-kb3];exact R3.r.L.e.zje,λH7 q7 ks7 hk7 bk7=>?_⟩;obtain⟨o7,u7,n7,nu7,m7,e7,od7,t7⟩:=bk7;have bin7:zgG ρ6 H7 q7 ks7 (zam f):=⟨o7,u7,e7,od7,t7,h6.fr _ n7,λp hp=>h6.fr _ (nu7 p hp)⟩
   have ekd:zjk ks7 (zam f)=zjk ks (zam f):=by unfold zjk;rw[znL λk=>(hk7 k).trans (hks k).symm]
   have dv7:=bin7.dv;rw[ekd]at dv7;have bok:zeb (.tuple (zjk ks (zam f))):=zjW λk hk=>okk f R k (R.r.L.e.zje k ((hks k).mp hk));refine⟨_,rfl,_,_,dv7,(bin6.frame (Frame.grow (ρ:=ρ6) m7)).dv,bok,bok,_,rfl,zaJ (by simp) ?_⟩;have h7:zai A ρ6 ad6 (zav f2) (zam (zav f2)) H7:=by rw[kb3];exact h6.grow m7
   refine⟨_,rfl,_,dx6,_,rfl,m7 _ _ hp6,rfl,_,rfl,_,_,rfl,rfl,_,rfl,ρ6,ad6,zav f2,(n:Int)+1,key,T0+2,rfl,h7,R3.r,by omega,see4 R3.r.L.e R3.k ikey,.inl ⟨n+1,rfl,by show n+1 < f2.n+1;omega,.inl ⟨hgo3,λH8 ρ8 ad8 q8 c1 h8 f8 e8 r8=>?_⟩⟩⟩;rw[zus W.st]at e8;generalize hf4:wish ordS (zav f2) (n+1) ⟨false,key,0⟩=f4' at *;refine⟨sz1,λt8 nt8=>⟨.tuple [.str "waits"],.tuple [.str "waits"],.tup (zal e8 nt8) (.cons (.str _) .nil),.tup zab (.cons (.str _) .nil),by decide +kernel,by decide +kernel,_,rfl,zaJ (by simp) ?_⟩⟩;have m8:Same H8 (upd H8 t8 (.tup [V.str "waits"])):=Same.zaq nt8;obtain⟨dx8,hp8⟩:=h8.hall;have h9:zai A ρ8 ad8 f4' (zam f4') (upd H8 t8 (.tup [V.str "waits"])):=by rw[kb4];exact h8.grow m8
   have hgo4:(f4'.deed n).st=.zar:=by rw[W.dn];exact D2.st
   have R5:Run ns (keep ordS f4' n) (T0+4):=by
     have:=(R4.step (a:=.keep n) (by omega) (by rw[W.nn];omega) (by show n < f4'.n;rw[W.nn];omega)).1;rw[zc2,yaj hgo4]at this;exact this
   have L5:zaH (keep ordS f4' n):=L4.keep ordS R4.r.c (.inl hgo4);have Kq:=W.keep ordS hord (by omega) (so2.held key);rw[<-c1];refine⟨_,rfl,_,dx8,_,rfl,m8 _ _ hp8,rfl,_,rfl,ρ8,ad8,f4',n,T0+3,rfl,h9,R4.r,.inl ⟨n,rfl,by rw[W.nn];omega,.inl ⟨hgo4,λH10 ρ10 ad10 d1 h10 f10=>⟨_,rfl,zaJ rfl ?_⟩⟩⟩⟩;generalize hf5:keep ordS f4' n=f5 at *;have fT:∀b xs,H b=some (.tup xs)->H10 b=some (.tup xs):=λb xs e=>f10.t _ _ (m8 _ _ (f8.t _ _ (m7 _ _ (fA.t _ _ (m3 _ _ e)))));have hb4:f4'.book key=some (v0+1):=by
     rw[W.book,D2.book];show(if true=true then up f.book key (some (v0+1)) else f.book) key=_;rw[yaj rfl,zae]
   have hd5:(f5.deed (n+1)).done=[⟨false,key,v0+1⟩]:=by rw[Kq.done,W.dm,hb4];rfl
   have hkb5:zam f5 key=some (v0+1):=by
     rw[<-zn8 L5,Kq.log,zcx];show wb (bkOf f4'.log) (logW f4'.log n) key=_;rw[L4.w n,W.dn,D2.done];show wb _ (zat ((f.deed n).done++[if true=true then ⟨true,key,v0+1⟩ else _])) key=_;rw[yaj rfl,zcr];show wb _ (zat (f.deed n).done++(if true=true then [(key,v0+1)] else [])) key=_;rw[yaj rfl,zmf,zae]
   have hlog:f5.log=la++[.begin n,.write n key v0 (v0+1),.begin (n+1),.keep n]:=by
     rw[Kq.log,W.log,D2.log];show(((if true=true then f.log++[Row.write n key ((f.book key).getD 0) (v0+1)] else f.log)++[Row.begin (n+1)])++[Row.keep n])=_;rw[yaj rfl,flog,fb];show(((la++[Row.begin n])++[Row.write n key v0 (v0+1)])++[Row.begin (n+1)])++[Row.keep n]=_;simp
   have n5:f5.n=n+2:=by rw[Kq.nn,W.nn];omega
   have sm5:=R5.r.L.sm R5.r.c;obtain⟨dx10,hp10⟩:=h10.hall;rw[<-d1];refine⟨_,rfl,_,dx10,_,rfl,hp10,rfl,_,rfl,_,_,rfl,rfl,ρ10,ad10,f5,zam f5,(n:Int)+1,rfl,h10,by omega,sm5.dn,.inl ⟨n+1,rfl,by omega,λH11 q11 us11 m11 e11 t11=>?_⟩⟩;rw[hd5]at t11;refine⟨_,rfl,_,rfl,_,_,rfl,rfl,sz3,λt12 nt12=>⟨sz1,λt13 nt13=>?_⟩⟩;have dok:zeb (.tuple [.tuple [.str "read",.str key,.int (v0+1)]]):=by
     show PySem.W.kqdOk 8 _=true;have:=zp8 ns 0;simp[PySem.W.kqdOk,key,this]
     decide +kernel
   have m13:=((Same.zaq (o:=.tup [V.str "read",V.str key,V.int (v0+1)]) nt12).upd2 (o:=.tup [V.ref t12]) nt13)
   obtain⟨p11,rfl,hp11⟩:∃p11,us11=[V.ref p11]/\H11 p11=some (.tup [V.str "read",V.str key,V.int (v0+1)]):=by
     cases t11 with
     | cons r1 r2 =>
       cases r2;obtain⟨p,e,h⟩:=r1;exact⟨p,by rw[e],h⟩
   refine⟨.tuple [.tuple [.str "read",.str key,.int (v0+1)]],.tuple [.tuple [.str "read",.str key,.int (v0+1)]],.tup (m13 _ _ e11) (.cons (.tup (m13 _ _ hp11) (.cons (.str _) (.cons (.str _) (.cons (.int _) .nil)))) .nil),.tup zab (.cons (.tup (zal zab nt13) (.cons (.str _) (.cons (.str _) (.cons (.int _) .nil)))) .nil),dok,dok,_,rfl,zaJ (by simp) ?_⟩;have m1013:=m11.trans m13;refine⟨_,rfl,_,dx10,_,rfl,m1013 _ _ hp10,rfl,ρ10,ad10,f5,zam f5,rfl,h10.grow m1013,R5.r.L.sn,R5.r.L.e.snd,R5.r.L.e.zje,λH14 q14 ks14 hk14 bk14=>?_⟩;obtain⟨o14,u14,n14,nu14,m14,e14,od14,t14⟩:=bk14;refine⟨q14,o14,u14,(ordS ks14).map (λk=>((Sum.inr k:Key),V.int ((zam f5 k).getD 0))),rfl,e14,od14,ze6 t14,?_,λnd14 hnd14=>?_⟩
   . rw[ya7];exact(zcH (zba ks14)).map _ λx y h e=>h (ybL e)
   have dg14:=DGet.k (k:=(Sum.inr key:Key)) (zab (H:=H14) (a:=nd14) (o:=.dK ((ordS ks14).map λk=>((Sum.inr k:Key),V.int ((zam f5 k).getD 0)))));rw[zkI hk14,yaj ((hk14 key).mpr (by rw[hkb5];exact λz=>nomatch z)),hkb5]at dg14;refine⟨_,rfl,nd14,_,rfl,dg14,_,rfl,_,_,rfl,rfl,rfl,_,rfl,zaJ (by simp) ?_⟩;have m15:=(m1013.trans m14).upd2 (o:=.dK ((ordS ks14).map λk=>((Sum.inr k:Key),V.int ((zam f5 k).getD 0)))) hnd14;refine⟨_,rfl,sz2,λa1 na1=>⟨_,rfl,_,rfl,_,rfl,_,rfl,_,_,rfl,rfl,sz5,λa2 na2=>⟨_,rfl,_,_,rfl,rfl,sz2,λa3 na3=>⟨_,rfl,sz2,λa4 na4=>⟨sz4,λa5 na5=>?_⟩⟩⟩⟩⟩;have w1:=m15.upd2 (o:=.tup [V.str "begin",V.int (n:Int)]) na1;have w2:=w1.upd2 (o:=.tup [V.str "write",V.int (n:Int),V.str key,V.int v0,V.int (v0+1)]) na2;have w3:=w2.upd2 (o:=.tup [V.str "begin",V.int ((n:Int)+1)]) na3;have w4:=w3.upd2 (o:=.tup [V.str "keep",V.int (n:Int)]) na4;have w5:=w4.upd2 (o:=.tup [V.ref a1,V.ref a2,V.ref a3,V.ref a4]) na5;refine⟨_,rfl,_,dx10,_,rfl,w5 _ _ hp10,rfl,ρ10,ad10,f5,zam f5,rfl,h10.grow w5,λH17 q17 u17 n17 m17 e17 t17=>?_⟩;have hua:ua.length=la.length:=by rw[ta.length,yaa]
   have hlen5:f5.log.length<=3000:=sm5.lg;have hla:la.length<=3000:=by rw[hlog,yah]at hlen5;omega
   refine⟨_,rfl,_,rfl,qa,a5,ua,[V.ref a1,V.ref a2,V.ref a3,V.ref a4],rfl,rfl,m17 _ _ (w5 _ _ (fT _ _ hqa)),m17 _ _ zab,by rw[hua,yaw];show la.length+4<=_;omega,λp18 H18 m18 e18=>?_⟩;have mm:∀b o,upd (upd (upd (upd (upd (upd H14 nd14 (.dK ((ordS ks14).map λk=>((Sum.inr k:Key),V.int ((zam f5 k).getD 0))))) a1 (.tup [V.str "begin",V.int (n:Int)])) a2 (.tup [V.str "write",V.int (n:Int),V.str key,V.int v0,V.int (v0+1)])) a3 (.tup [V.str "begin",V.int ((n:Int)+1)])) a4 (.tup [V.str "keep",V.int (n:Int)])) a5 (.tup [V.ref a1,V.ref a2,V.ref a3,V.ref a4]) b=some o->H18 b=some o:=λb o e=>m18 _ _ (m17 _ _ e);have tb18:zap H18 (ua++[V.ref a1,V.ref a2,V.ref a3,V.ref a4]) ((la++[Row.begin n,.write n key v0 (v0+1),.begin (n+1),.keep n]).map rowV):=by
     rw[yav];refine zgb (zeB (λb xs e=>m18 _ _ (m17 _ _ (w5 _ _ (fT _ _ e)))) ta) ?_;refine .cons ⟨a1,rfl,mm _ _ (zal (zal (zal (zal zab na2) na3) na4) na5)⟩ (.cons ⟨a2,rfl,mm _ _ (zal (zal (zal zab na3) na4) na5)⟩ (.cons ⟨a3,rfl,mm _ _ (zal (zal zab na4) na5)⟩ (.cons ⟨a4,rfl,mm _ _ (zal zab na5)⟩ .nil)))
   have rk5:zf6 f5.seen f5.log:=(zhO R5.r.L.e L5).rows;have ok5:=zmx rk5 (okk f5 R5);rw[<-hlog]at tb18;refine⟨_,_,.tup (m18 _ _ e17) (zfJ (zaE m18 t17)),.tup e18 (zfJ tb18),ok5,ok5,?_⟩;simpa using q H18
theorem zt4(T:Txt K mg A F):FnOk P w K mg base (CX1 P w) 12 (F.f 55) (F.fd 55) ["_law_script"] (ztE K):=by
 have G_Hall_init:=@zhl P w K mg base A F T;have G__law_acts:=@zi9 P w K mg base A F T;have G__law_do:=@zoy P w K mg base A F T;have G__law_cell:=@zdl P w K mg base A F T;have G__law_key:=@zfR P w K mg base A F T;have G_Hall_log:=@zil P w K mg base A F T;have G_risen:=@zro P w K mg base A F T;have G_going_in:=@zij P w K mg base A F T;have G_book_of:=@zmH P w K mg base A F T;have G_Hall_now:=@zly P w K mg base A F T;have G_Hall_kept_book:=@zdm P w K mg base A F T;have G_Hall_order:=@zkk P w K mg base A F T;have G_Hall_state_of:=@zhv P w K mg base A F T;have G_Hall_done_by:=@zeP P w K mg base A F T;have G_Hall_begin:=@zcV P w K mg base A F T;have G_Hall_read:=@zeN P w K mg base A F T;have G__law_goes_on:=@zik P w K mg base A F T;refine T.zu9.okN zdJ (λvs H Q E h=>?_) (λcdv A' outer s H vs Q E hr h=>?_)
 . obtain⟨a,ns,rfl,_⟩:=h
   rfl
 . obtain⟨a,ns,rfl,hS,q⟩:=h;have hu:=zdT hr;have hu64:=hu64 hr;have nes:∀a b:Str,a≠b->decide (V.str a=V.str b)=false:=λa b h=>yay λz=>h (V.str.inj z);refine⟨_,(zac (zaL (i:=1) zdJ.nd rfl (by walk_at "loc") (zhL T.zp2 G_Hall_init (hmr hr) rfl T.zqs T.ziU .nil zaz))
     (zac (zdj ya4 rfl (zdz (zaN G__law_acts (hmr hr) rfl T.zmW T.zmQ T.zm6 .nil zaz (zaa (pv 0) zad))) (zaS (i:=2) zdJ.nd rfl (by walk_at "loc")) (zaf (zaI (zaN G__law_do (hmr hr) rfl T.zqp T.zqc T.zqT .nil zaz (zaa (pv 1) (zaa (pv 2) zad))))))
     (zac (zaL (i:=3) zdJ.nd rfl (by walk_at "loc") (za7 (pv 1) T.zaj T.ze7 G_Hall_log (hmr hr) T.zff .nil zaz))
     (zac (zaL (i:=4) zdJ.nd rfl (by walk_at "loc") (znG zsy (pv 3) zsJ (zmA (zbQ zjz (zaN G__law_cell (hmr hr) rfl T.zck T.zcj T.zcl .nil zaz (zaa (pv 0) (zaa zak zad))) (zbQ zcU (zbC zbr (by rfl) T.zkr ybP (zaa (pv 3) zad)) zak)))))
     (zac (zaL (i:=5) zdJ.nd rfl (by walk_at "loc") (zaN G_risen (hmr hr) rfl T.zs4 T.zs2 T.zte .nil zaz (zaa (pv 4) zad)))
     (zac (zaL (i:=6) zdJ.nd rfl (by walk_at "loc") (za5 zbG (by rfl) T.zeQ ycQ (zaa (zd6 1 [] ["_law_deed"] rfl (by walk_at "blk") (zeM (zaN G_going_in (hmr hr) rfl T.zjQ T.zjK T.zjY .nil zaz (zaa (pv 4) zad))) (λC fp s H=>(zaS (i:=0) (show(["_law_deed"]:List Str).Nodup by decide +kernel) rfl (by walk_at "loc"))) (λC fp s H=>zic) (λC fp s H=>(za4 (zaa zaQ (zaa (pv 0) zad))))) zad)))
     (zac (zbn (PW.pt (zi6 (zrU (zlm (zbC (zoS (K:=K) rfl) (by rfl) T.zeR boot_isinstance (zaa (pv 5) (zaa (zmB (v:=.ref A.zaW) rfl T.zqs rfl) zad))))) (zi6 (zaw (zhj hu64) (za7 (pv 5) T.zaj T.ze7 G_Hall_log (hmr hr) T.zff .nil zaz) (zbQ zmE (pv 4) (pv 6)) (zaB _)) (zib (zaw (zhj hu64) (za7 (pv 1) T.zaj T.ze7 G_Hall_log (hmr hr) T.zff .nil zaz) (pv 3) (zaB _)))))) (zaf (zay zig)) zaP)
     (zac (zaL (i:=7) zdJ.nd rfl (by walk_at "loc") (zaN G_book_of (hmr hr) rfl T.zqo T.zqb T.zqS .nil zaz (zaa (pv 4) zad)))
     (zac (zbn (PW.pt (zi6 (zaw (zpP hu64) (za7 (pv 5) T.zaj T.zoB G_Hall_now (hmr hr) T.zoW .nil zaz) (pv 7) (zaB _)) (zib (zaw (zpP hu64) (za7 (pv 5) T.zaj T.zce G_Hall_kept_book (hmr hr) T.zcg .nil zaz) (pv 7) (zaB _))))) (zaf (zay zig)) zaP)
     (zac (zbn (zaw (zhj hu64) (za7 (pv 5) T.zaj T.zlG G_Hall_order (hmr hr) T.zl8 .nil zaz) (za5 zbG (by rfl) T.zeQ ycQ (zaa (zd6 1 [] ["_law_row"] rfl (by walk_at "blk") (zeM (pv 4)) (λC fp s H=>(zaS (i:=0) (show(["_law_row"]:List Str).Nodup by decide +kernel) rfl (by walk_at "loc"))) (λC fp s H=>zfM (zaw zb5 (zaT (zeW (K:=K) rfl) (pv 0) zak (λ_ _=>rfl)) zaQ (zaB _))) (λC fp s H=>(zaT (zeW (K:=K) rfl) (pv 0) zak (λ_ _=>rfl)))) zad)) (zaB _)) (zaf (zay zig)) zaP)
     (zac (zaL (i:=8) zdJ.nd rfl (by walk_at "loc") (zbC zbr (by rfl) T.zkr ybP (zaa (zd6 1 [] ["_law_row"] rfl (by walk_at "blk") (zeM (pv 4)) (λC fp s H=>(zaS (i:=0) (show(["_law_row"]:List Str).Nodup by decide +kernel) rfl (by walk_at "loc"))) (λC fp s H=>zfM (zaw zb5 (zaT (zeW (K:=K) rfl) (pv 0) zak (λ_ _=>rfl)) zaQ (zaB _))) (λC fp s H=>(pv 0))) zad)))
     (zac (zdj ya4 rfl (zgi rfl T.zkq (zaa (pv 8) zad)) (zaS (i:=9) zdJ.nd rfl (by walk_at "loc")) (zac (zgV (i:=10) 1 [9] ["_law_row","_law_deed"] zdJ.nd rfl (by walk_at "loc") rfl (by walk_at "blk") (zeM (pv 4)) (λC fp s H=>(zaS (i:=0) (show(["_law_row","_law_deed"]:List Str).Nodup by decide +kernel) rfl (by walk_at "loc"))) (λC fp s H=>zfM (PW.pt (znD (zaw zb5 (zaT (zeW (K:=K) rfl) (pv 0) zak (λ_ _=>rfl)) zaQ (zaB _)) (zkc (zaw zb5 (zaT (zeW (K:=K) rfl) (pv 0) zak (λ_ _=>rfl)) (pv 1) (zaB _)))))) (λC fp s H=>(za4 (zaa zaQ (zaa (zaT (zeW (K:=K) rfl) (pv 0) zak (λ_ _=>rfl)) (zaa (zaT (zeW (K:=K) rfl) (pv 0) zak (λ_ _=>rfl)) zad))))))
     (zaf (zbn (PW.pt (zi6 (zaw zlr (zaA (pv 5) T.zaj T.zit G_Hall_state_of (hmr hr) T.ziT .nil zaz (zaa (pv 9) zad)) (zc7 (zaa zaQ (zaa zaQ zad))) (by with_unfolding_all rfl)) (zib (zaw (zhj hu64) (za5 zl2 (by rfl) T.zt7 boot_list (zaa (zaA (pv 5) T.zaj T.zfn G_Hall_done_by (hmr hr) T.zfq .nil zaz (zaa (pv 9) zad)) zad)) (pv 10) (zaB _))))) (zaf (zay zig)) zaP))))
     (zac (zbn (zaw zls (za7 (pv 5) T.zaj T.zdn G_Hall_begin (hmr hr) T.zdp .nil zaz) (pv 8) (zaB _)) (zaf (zay zig)) zaP)
     (zac (zdj ya4 rfl (zgi rfl T.zkq (zaa zak zad)) (zaS (i:=11) zdJ.nd rfl (by walk_at "loc")) (zac (zaL (i:=12) zdJ.nd rfl (by walk_at "loc") (zaN G__law_key (hmr hr) rfl T.zdU T.zdR T.zdX .nil zaz (zaa (pv 0) (zaa (pv 11) zad))))
     (zaf (zbn (zaw (zhj hu64) (zaA (pv 5) T.zaj T.zfV G_Hall_read (hmr hr) T.zf3 .nil zaz (zaa (pv 8) (zaa (pv 12) zad))) (za4 (zaa zaQ (zaa (zhM hu (za5 (zha rfl) (by rfl) T.zpX zqO (zaa (pv 7) zad)) (pv 12) zak ⟨rfl,rfl,rfl,rfl⟩) zad))) (zaB _)) (zaf (zay zig)) zaP))))
     (zaf (zay (zaN G__law_goes_on (hmr hr) rfl T.zjh T.zjg T.zjl .nil zaz (zaa (pv 5) (zaa (pv 0) (zaa (zbQ zmE (pv 4) (pv 6)) (zaa (pv 8) zad))))))))))))))))))))),?_⟩
   intro x dx nxx ndx nex;refine⟨x,dx,rfl,zab,λH1 ρ ad ea hh kp=>⟨rfl,?_⟩⟩;have s0:Same H (upd (upd H dx (.own x)) x (.ins A.zaW dx [])):=(Same.zaq ndx).upd2 (by rw[zag nex.symm];exact nxx);have s1:Same H H1:=λb o e=>(kp b o (s0 b o e) (zah e nxx)).1;have hh:zai A ρ ad TH.empty (zam (TH.empty:HS Str)) H1:=hh;have ap:Apart K ρ H1 a (ns.map V.int):=by
     rcases Apart.of (ρ:=λ_=>Role.other) hS (λ_ _=>rfl) with ⟨o,e,_,k⟩ | k
     . exact .inl ⟨o,s1 _ _ e,(kp a o (s0 a o e) (zah e nxx)).2,k⟩
     . exact .inr k
   refine⟨_,rfl,a,ns,rfl,s1.seq hS,λH2 qa us As nq m2 hq tu fu vd hl hb30=>⟨qa,rfl,⟨_,SqL.of hq⟩,?_⟩⟩;have hul:us.length=As.length:=by rw[tu.length,yaa]
   refine zfe (xs:=us) (λi σ H3=>∃s ρ' ad' v2,σ=[some (.ref a),some (.ref x),v2,none,none,none,none,none,none,none,none,none,none]/\ad' Role.hall=x/\zai A ρ' ad' s (zam s) H3/\Run ns s i/\LA s/\s.n=zcy (As.take i)/\H3 qa=some (.lst us)/\ρ' qa=.other/\(∀p,V.ref p∈us->ρ' p=.other)/\zap H3 us (As.map actD)/\Apart K ρ' H3 a (ns.map V.int)) ⟨TH.empty,ρ,ad,none,rfl,ea,hh.grow m2,⟨Ready.empty,λk h=>by cases h⟩,zry,rfl,hq,hh.fr _ nq,λp h=>hh.fr _ (fu p h),tu,ap.frame (Frame.grow m2)⟩ (λi σ H3 _ ⟨_,_,_,_,_,_,_,_,_,_,e,_⟩=>SqL.of e) ?_ ?_
   . rintro i y σ H3 hy ⟨s,ρ3,ad3,v2,rfl,ea3,h3,R3,l3,n3,hq3,ro3,rp3,t3,ap3⟩;have hi:i < us.length:=(yar.mp hy).1;obtain⟨z,hz,kq,rfl,hkq⟩:=zbU t3 hy;rw[yak]at hz;obtain⟨act,hact,rfl⟩:=yao.mp hz;have ok3:=vd i act hact;rw[<-n3]at ok3;have hn3:s.n < 63:=by
       have:=zqQ (As.take i);rw[yaY]at this;omega
     have e5:As.take (i+1)=As.take i++[act]:=by rw[yaD,hact];rfl
     obtain⟨R4,n4⟩:=R3.step (by omega) hn3 ok3;have l4:=zsZ R3 l3 act;subst ea3;refine⟨_,rfl,_,rfl,ρ3,ad3,s,kq,act,i,ns,rfl,h3,R3,by omega,hn3,ok3,hkq,λv H4 ρ4 ad4 ea4 h4 f4=>?_⟩;generalize hs':zbW s act=s' at *;obtain⟨t4,r4⟩:=zgH f4 rp3 t3;exact⟨s',ρ4,ad4,_,rfl,ea4,h4,R4,l4,by rw[e5,zec,n4,n3],(f4 _ _ hq3 ro3).1,(f4 _ _ hq3 ro3).2,r4,t4,ap3.frame f4⟩
   . rintro σ H3 ⟨s,ρ3,ad3,v2,rfl,ea3,h3,R3,⟨l3,al3⟩,n3,_,_,_,_,ap3⟩;have hn3:s.n<=30:=by
       rw[hul,yaG]at n3;omega
     have okk:∀(g:HS Str) {T:Nat},Run ns g T->∀k∈g.seen,PyData.strOk k=true:=λg T R k hk=>by
       obtain⟨j,_,rfl⟩:=R.k k hk;exact zp8 ns j
     have hlg:s.log.length<=126:=by have:=R3.r.L.e.lg;omega
     have rk3:zf6 s.seen s.log:=(zhO R3.r.L.e l3).rows;subst ea3;obtain⟨dx3,hp3⟩:=h3.hall;refine⟨_,rfl,_,dx3,_,rfl,hp3,rfl,ρ3,ad3,s,_,rfl,h3,λH4 ql ul nl m4 el tl=>?_⟩;have hll:ul.length=s.log.length:=by rw[tl.length,yaa]
     have ap4:=ap3.frame (Frame.grow (ρ:=ρ3) m4);obtain⟨i,ei,hi⟩:∃i:Nat,za3 ns 1 % ((ul.length:Int)+1)=(i:Int)/\i<=s.log.length:=by
       have h1:=Int.emod_nonneg (za3 ns 1) (show((ul.length:Int)+1)≠0 by omega);have h2:=Int.emod_lt_of_pos (za3 ns 1) (show 0 < ((ul.length:Int)+1) by omega);exact⟨(za3 ns 1 % ((ul.length:Int)+1)).toNat,by omega,by omega⟩
     refine⟨_,rfl,_,rfl,a,ns,1,rfl,ap4.sq,_,rfl,ql,_,rfl,.inr (SqT.of el),_,_,rfl,rfl,_,_,rfl,rfl,(by show(0:Int) < (ul.length:Int)+1;omega),_,rfl,?_⟩;show zsG K (V.ref ql) none (some (za3 ns 1 % ((ul.length:Int)+1))) H4 _;rw[ei];refine zph (l:=s.log) (i:=i) ⟨ul,el,tl⟩ hi λq5 H5 m5 r5=>?_;have wfl:Wf (s.log.take i):=l3.wf.take i;have all:Al (s.log.take i):=al3.take i;have ikl:∀d k b v,Row.write d k b v∈s.log.take i->zf7 ns k:=λd k b v m=>R3.k k (rk3 d k b v (yb1 m));have hll2:(s.log.take i).length<=126:=by rw[yaY];omega
     have hlb:(logB (s.log.take i)).length<=30:=by
       have e:=ybG i s.log;have:logB s.log=logB (s.log.take i)++logB (s.log.drop i):=by
         unfold logB;rw[<-ya8,e]
       have h2:=yaZ List.length this;rw[l3.b,ya6,yah]at h2;omega
     generalize hlr:s.log.take i=l at *;have hlG:(logG l).length<=30:=yaA (zkz wfl) hlb;have hsk:KeysIn s.seen l:=λd p hp=>by
       unfold logW at hp;obtain⟨r,hr,e⟩:=ybu.mp hp;cases r with
       | write e' k b v =>
         have e:(if e'=d then some (k,v) else none)=some p:=e;split at e
         . cases e;exact rk3 e' k b v (by rw[<-hlr]at hr;exact yb1 hr)
         . cases e
       | begin _=>cases e
       | keep _=>cases e
       | drop _=>cases e
     refine⟨_,rfl,q5,l,ns,rfl,r5,wfl,all,ikl,by omega,by omega,by omega,λH6 ρf adf m6 hf of=>?_⟩;have FR:=zre (ns:=ns) wfl all ikl (by omega) (by omega) (by omega);generalize hfr:redo (l++zaZ l)=f at *;have Rf:=FR.rp.R;have m46:=m4.trans (m5.trans m6);obtain⟨u5,hq5,t5⟩:=r5;have r6:zgE H6 q5 l:=⟨u5,m6 _ _ hq5,zaE m6 t5⟩
     refine⟨_,rfl,q5,l,rfl,r6,by omega,wfl,by omega,λH7 qg m7 e7=>⟨qg,rfl,⟨_,SqT.of e7⟩,?_⟩⟩;have hil:(zaD (logG l)).length=(logG l).length:=by unfold zaD;rw[yaa]
     refine zgy (xs:=zaD (logG l)) (λi ys σ G=>∃v0,σ=[v0]/\Same H7 G/\zap G ys (((logG l).take i).map λd=>rowV (.drop d))/\ys.length<=i) ⟨none,rfl,λ_ _ e=>e,.nil,yaf _⟩ (λi ys σ G ⟨_,_,e,_,hy⟩=>⟨SqT.of (e _ _ e7),hy⟩) (by rw[hil,yaw];omega) ?_ ?_
     . rintro j y ys σ G hlt hy ⟨v0,rfl,mG,tG,hyl⟩;unfold zaD at hy;rw[yak]at hy;obtain⟨d,hd,rfl⟩:=yao.mp hy;have ej:(logG l).take (j+1)=(logG l).take j++[d]:=by rw[yaD,hd];rfl
       refine⟨_,rfl,sz2,λn hn=>nx hlt ⟨_,rfl,mG.upd2 hn,?_,by rw[yah,yaE];omega⟩⟩;rw[ej,yav];exact S6.zbS (zaE (Same.zaq hn) tG) ⟨n,rfl,zab⟩
     rintro ye σ G ⟨v0,rfl,mG,tG,hyl⟩;rw[hil,yaG]at tG;intro n8 hn8;refine⟨n8,_,rfl,.inl ⟨SqL.of zab,λqe nqe=>?_⟩⟩;have m78:Same H7 (upd (upd G n8 (.lst ye)) qe (.tup ye)):=(mG.upd2 hn8).upd2 nqe;have re8:zgE (upd (upd G n8 (.lst ye)) qe (.tup ye)) qe (zaZ l):=⟨ye,zab,by
       unfold zaZ;rw[ya7];exact zaE ((Same.zaq hn8).upd2 nqe) tG⟩
     dsimp only[zqu];show tSeq (tIfS _ _ _) _ _ _ (upd (upd G n8 (.lst ye)) qe (.tup ye));generalize upd (upd G n8 (.lst ye)) qe (.tup ye)=H8 at *;have m68:=m7.trans m78;have hf8:=hf.grow m68;obtain⟨dxf,hpf⟩:=hf8.hall;obtain⟨u6,hq6,t6⟩:=r6;have r8:zgE H8 q5 l:=⟨u6,m68 _ _ hq6,zaE m68 t6⟩
     obtain⟨ue,heq,te⟩:=re8;obtain⟨u8,hq8,t8⟩:=r8;have hu8:u8.length=l.length:=by rw[t8.length,yaa]
     have hue:ue.length=(zaZ l).length:=by rw[te.length,yaa]
     have hdl:(zaZ l).length=(logG l).length:=by unfold zaZ;rw[yaa]
     have okf:zeb (.tuple ((l++zaZ l).map λr=>.tuple (rowD r))):=by
       have:zf6 f.seen (l++zaZ l):=by rw[<-FR.rp.log];exact(zhO Rf.r.L.e FR.rp.L).rows
       exact zmx this (okk f Rf)
     refine⟨_,rfl,V.ref (adf .hall),A.zaW,.ref A.zaW,true,rfl,.ins hpf T.zaj T.hcl T.hsp T.htk T.hmr,T.hki,_,rfl,zaJ rfl ?_⟩;refine⟨_,rfl,_,dxf,_,rfl,hpf,rfl,ρf,adf,f,zam f,rfl,hf8,λH9 q9 u9 n9 m9 e9 t9=>?_⟩;rw[FR.rp.log]at t9;refine⟨_,rfl,_,rfl,q5,qe,u8,ue,rfl,rfl,m9 _ _ hq8,m9 _ _ heq,by rw[hu8,hue,hdl,yaw];omega,λp10 H10 m10 e10=>?_⟩;have t10:zap H10 (u8++ue) ((l++zaZ l).map rowV):=by
       rw[yav];exact zgb (zaE m10 (zaE m9 t8)) (zaE m10 (zaE m9 te))
     refine⟨_,_,.tup (m10 _ _ e9) (zfJ (zaE m10 t9)),.tup e10 (zfJ t10),okf,okf,_,rfl,zaJ (by simp) ?_⟩;have m810:=m9.trans m10;have m310:=m46.trans (m68.trans m810);refine⟨_,rfl,_,dx3,_,rfl,m310 _ _ hp3,rfl,ρ3,ad3,s,_,rfl,h3.grow m310,λH11 q11 u11 n11 m11 e11 t11=>?_⟩;have ok3:=zmx rk3 (okk s R3);have m411:=((m5.trans m6).trans (m68.trans m810)).trans m11;refine⟨_,rfl,_,_,.tup e11 (zfJ t11),.tup (m411 _ _ el) (zfJ (zaE m411 tl)),ok3,ok3,_,rfl,zaJ (by simp) ?_⟩;have m811:=m810.trans m11;have q8':∀{G:Hp},Same H8 G->H8 q5=some (.tup u8)/\G q5=some (.tup u8)/\zap G u8 (l.map rowV):=λm=>⟨hq8,m _ _ hq8,zaE m t8⟩
     refine⟨_,rfl,q5,l,s.seen,rfl,⟨u8,(q8' m811).2.1,(q8' m811).2.2⟩,by omega,hsk,R3.r.L.e.snd,R3.r.L.sn,λH12 qb ks hks bk=>?_⟩;obtain⟨ob,ub,nb,nub,m12,eb,od,tb⟩:=bk;have hf11:=hf8.grow m811;have bin12:zgG ρf H12 qb ks (bkOf l):=⟨ob,ub,eb,od,tb,hf11.fr _ nb,λp hp=>hf11.fr _ (nub p hp)⟩
     have hf12:=hf11.grow m12;have m812:=m811.trans m12;have bok:zeb (.tuple (zjk ks (bkOf l))):=zjW λk hk=>okk s R3 k (ztc l hsk k ((hks k).mp hk));have fseen:∀k,bkOf l k≠none->k∈f.seen:=by rw[<-FR.kb];exact Rf.r.L.e.zje
     have dvOf:∀{G G':Hp} {p:Addr} {ks':List Str},(∀k,k∈ks'↔bkOf l k≠none)->zhr G G' p ks' (bkOf l)->Same G G'/\DVF G' (.ref p) (.tuple (zjk ks (bkOf l))):=λ{G G' p ks'} hk b=>by
       obtain⟨o',u',_,_,m',e',_,t'⟩:=b;refine⟨m',.inr ⟨p,o',u',_,rfl,e',zm4 t',?_⟩⟩;unfold zjk;rw[znL λk=>(hks k).trans (hk k).symm]
     refine⟨_,rfl,_,dxf,_,rfl,m812 _ _ hpf,rfl,ρf,adf,f,zam f,rfl,hf12,Rf.r.L.sn,Rf.r.L.e.snd,Rf.r.L.e.zhz,λH13 q13 ks13 hk13 bk13=>?_⟩;rw[FR.book]at hk13 bk13;obtain⟨m13,dv13⟩:=dvOf hk13 bk13;refine⟨_,rfl,_,_,dv13,(bin12.frame (Frame.grow (ρ:=ρf) m13)).dv,bok,bok,_,rfl,zaJ (by simp) ?_⟩;have m813:=m812.trans m13;refine⟨_,rfl,_,dxf,_,rfl,m813 _ _ hpf,rfl,ρf,adf,f,zam f,rfl,hf8.grow m813,Rf.r.L.sn,Rf.r.L.e.snd,Rf.r.L.e.zje,λH14 q14 ks14 hk14 bk14=>?_⟩;rw[FR.kb]at hk14 bk14;obtain⟨m14,dv14⟩:=dvOf hk14 bk14;have bin14:=bin12.frame (Frame.grow (ρ:=ρf) (m13.trans m14));refine⟨_,rfl,_,_,dv14,bin14.dv,bok,bok,_,rfl,zaJ (by simp) ?_⟩;have m814:=m813.trans m14;have smf:=Rf.r.L.sm Rf.r.c;refine⟨_,rfl,_,dxf,_,rfl,m814 _ _ hpf,rfl,ρf,adf,f,zam f,rfl,hf8.grow m814,smf.kp,λH15 q15 m15 e15=>?_⟩;rw[FR.kept]at e15;have m815:=m814.trans m15;refine⟨_,rfl,q5,rfl,⟨_,SqT.of (q8' m815).2.1⟩,?_⟩;refine zgy (xs:=u8) (λi ys σ G=>∃v0,σ=[v0]/\G=H15/\ys=zaD (logK (l.take i))/\ys.length<=i) ⟨none,rfl,rfl,rfl,yaf _⟩ (λi ys σ G ⟨_,_,e,_,hy⟩=>⟨SqT.of (by rw[e];exact(q8' m815).2.1),hy⟩) (by rw[hu8,yaw];omega) ?_ ?_
     . rintro j y ys σ G hlt hy ⟨v0,rfl,rfl,rfl,hyl⟩;obtain⟨y',hy1,r,rfl,hr1⟩:=zbU (q8' m815).2.2 hy;rw[yak]at hy1;obtain⟨row,hrow,rfl⟩:=yao.mp hy1;have ej:l.take (j+1)=l.take j++[row]:=by rw[yaD,hrow];rfl
       have idle:(∀d,row≠.keep d)->Nx u8.length j (∃v0',[some (V.ref r)]=[v0']/\G=G/\zaD (logK (l.take j))=zaD (logK (l.take (j+1)))/\(zaD (logK (l.take j))).length<=j+1):=λhn=>nx hlt ⟨_,rfl,rfl,by
         rw[ej,zbp];cases row<;>first | exact absurd rfl (hn _) | simp,by omega⟩
       cases row with
       | begin d=>exact⟨_,rfl,r,_,_,V.str "begin",rfl,rfl,SqT.of hr1,rfl,rfl,_,rfl,zaJ (nes _ _ (by decide +kernel)) (idle λ_=>nofun)⟩
       | write d k b v=>exact⟨_,rfl,r,_,_,V.str "write",rfl,rfl,SqT.of hr1,rfl,rfl,_,rfl,zaJ (nes _ _ (by decide +kernel)) (idle λ_=>nofun)⟩
       | drop d=>exact⟨_,rfl,r,_,_,V.str "give up",rfl,rfl,SqT.of hr1,rfl,rfl,_,rfl,zaJ (nes _ _ (by decide +kernel)) (idle λ_=>nofun)⟩
       | keep d =>
         refine⟨_,rfl,r,_,_,V.str "keep",rfl,rfl,SqT.of hr1,rfl,rfl,_,rfl,zbv (yaz rfl) ⟨_,rfl,r,_,_,V.int d,rfl,rfl,SqT.of hr1,rfl,nx hlt ⟨_,rfl,rfl,?_,by rw[yah,yaE];omega⟩⟩⟩;rw[ej,zbp];unfold zaD;rw[yav];rfl
     rintro yk σ G ⟨v0,rfl,rfl,rfl,hyl⟩;rw[hu8,yaG];intro n16 hn16;refine⟨n16,_,rfl,.inl ⟨SqL.of zab,λp16 np16=>⟨_,_,.tup (zal (zal e15 hn16) np16) (zmS _),.tup zab (zmS _),zqh _,zqh _,_,rfl,zaJ (by simp) ?_⟩⟩⟩;have m816:=(m815.upd2 (o:=.lst (zaD (logK l))) hn16).upd2 (o:=.tup (zaD (logK l))) np16;have bin16:=bin14.frame (Frame.grow (ρ:=ρf) ((m15.upd2 (o:=.lst (zaD (logK l))) hn16).upd2 (o:=.tup (zaD (logK l))) np16));generalize upd (upd G n16 (.lst (zaD (logK l)))) p16 (.tup (zaD (logK l)))=H16 at *;refine⟨_,rfl,q5,rfl,⟨_,SqT.of (q8' m816).2.1⟩,?_⟩;refine zgy (xs:=u8) (λi ys σ G=>∃v0,σ=[v0]/\G=H16/\ys.length=(logB (l.take i)).length/\ys.length<=i) ⟨none,rfl,rfl,rfl,yaf _⟩ (λi ys σ G ⟨_,_,e,_,hy⟩=>⟨SqT.of (by rw[e];exact(q8' m816).2.1),hy⟩) (by rw[hu8,yaw];omega) ?_ ?_
     . rintro j y ys σ G hlt hy ⟨v0,rfl,rfl,hyb,hyl⟩;obtain⟨y',hy1,r,rfl,hr1⟩:=zbU (q8' m816).2.2 hy;rw[yak]at hy1;obtain⟨row,hrow,rfl⟩:=yao.mp hy1;have ej:l.take (j+1)=l.take j++[row]:=by rw[yaD,hrow];rfl
       obtain⟨tx,et,db⟩:=zrd row;refine⟨_,rfl,r,_,_,V.str tx,rfl,rfl,SqT.of hr1,zbH (j:=0) (by rw[et];rfl),rfl,_,rfl,?_⟩;refine zfp (rowB row) db ?_;cases hb:rowB row with
       | true =>
         refine iteT ⟨_,rfl,nx hlt ⟨_,rfl,rfl,?_,?_⟩⟩
         . rw[ej,znP,hb,yah,hyb];rfl
         . rw[yah,yaE];omega
       | false =>
         refine iteF (nx hlt ⟨_,rfl,rfl,?_,by omega⟩);rw[ej,znP,hb,hyb];rfl
     rintro yb σ G ⟨v0,rfl,rfl,hyb,hyl⟩;rw[hu8,yaG,<-FR.n]at hyb;intro n17 hn17;refine⟨n17,_,rfl,.inl (SqL.of zab),?_⟩;rw[hyb];have m817:=m816.upd2 (o:=.lst yb) hn17;have bin17:=bin16.frame (Frame.grow (ρ:=ρf) (Same.zaq (o:=.lst yb) hn17));generalize upd G n17 (.lst yb)=H17 at *;have fn30:f.n<=30:=by rw[FR.n];exact hlb
     refine⟨_,rfl,_,rfl,by omega,by omega,?_⟩;have none_:∀(row:Row Str) (d:Nat),(∀k b v,row≠Row.write d k b v)->logW [row] d=[]:=λrow d h=>by
       cases row with
       | write e k b v =>
         unfold logW;by_cases z:e=d
         . subst z;exact absurd rfl (h k b v)
         . simp[z]
       | _=>rfl
     have fin_:∀d,inV (V.str (stS (f.deed d).st)) [V.str "kept",V.str "given up"]=true:=λd=>zty (FR.no d);have okw:∀d,zeb (.list ((logW l d).map wD)):=λd=>w_ok λp hp=>okk s R3 _ (hsk d p hp);refine zlU (n:=f.n) (λi σ G=>∃v9 v10,σ=[some (.ref a),some (.ref (ad3 .hall)),v2,some (.ref ql),some (.ref q5),some (.ref (adf .hall)),some (.ref qe),some (.ref qb),some (.int f.n),v9,v10,none,none]/\Same H17 G) ⟨_,_,rfl,Same.refl _⟩ ?_ ?_
     . rintro d σ G hd ⟨v9,v10,rfl,mG⟩;rw[Int.zero_add];obtain⟨_,hbG,tbG⟩:=q8' (m817.trans mG);refine⟨_,rfl,q5,rfl,⟨_,SqT.of hbG⟩,?_⟩;refine zgy (xs:=u8) (λi ys σ H5=>∃v0,σ=[v0,some (.int (d:Int))]/\Same G H5/\ys.length<=i/\zap H5 ys ((logW (l.take i) d).map wV)) ⟨none,rfl,Same.refl G,yaf _,.nil⟩ (λi ys σ H5 ⟨_,_,e,hy,_⟩=>⟨SqT.of (e _ _ hbG),hy⟩) (by rw[hu8,yaw];omega) ?_ ?_
       . rintro i x ys σ H5 hlt hx ⟨v0,rfl,m5,hy,t5⟩;obtain⟨y,hy1,r,rfl,hr1⟩:=zbU tbG hx;rw[yak]at hy1;obtain⟨row,hrow,rfl⟩:=yao.mp hy1;have ei:l.take (i+1)=l.take i++[row]:=by rw[yaD,hrow];rfl
         have hr5:=m5 _ _ hr1;have idle:(∀k b v,row≠.write d k b v)->Nx u8.length i (∃v0',[some (V.ref r),some (V.int (d:Int))]=[v0',some (V.int (d:Int))]/\Same G H5/\ys.length<=i+1/\zap H5 ys ((logW (l.take (i+1)) d).map wV)):=λhn=>nx hlt ⟨_,rfl,m5,by omega,by
           have:logW (l.take (i+1)) d=logW (l.take i) d:=by rw[ei];unfold logW;rw[ya8];exact(yaZ _ (none_ row d hn)).trans (ybe _)
           rw[this];exact t5⟩
         cases row with
         | begin e=>exact⟨_,rfl,r,_,_,V.str "begin",rfl,rfl,SqT.of hr5,rfl,rfl,_,rfl,zaJ (nes _ _ (by decide +kernel)) (iteF (idle λ_ _ _=>nofun))⟩
         | keep e=>exact⟨_,rfl,r,_,_,V.str "keep",rfl,rfl,SqT.of hr5,rfl,rfl,_,rfl,zaJ (nes _ _ (by decide +kernel)) (iteF (idle λ_ _ _=>nofun))⟩
         | drop e=>exact⟨_,rfl,r,_,_,V.str "give up",rfl,rfl,SqT.of hr5,rfl,rfl,_,rfl,zaJ (nes _ _ (by decide +kernel)) (iteF (idle λ_ _ _=>nofun))⟩
         | write e k0 b0 v0' =>
           refine⟨_,rfl,r,_,_,V.str "write",rfl,rfl,SqT.of hr5,rfl,rfl,_,rfl,zbv (yaz rfl) ?_⟩;refine⟨_,rfl,r,_,_,V.int e,rfl,rfl,SqT.of hr5,rfl,_,rfl,rfl,_,rfl,?_⟩;by_cases z:e=d
           . subst z;refine zbv (yaz rfl) ⟨_,rfl,r,_,_,V.str k0,rfl,rfl,SqT.of hr5,rfl,_,rfl,r,_,_,V.int v0',rfl,rfl,SqT.of hr5,rfl,sz3,λn hn=>nx hlt ⟨_,rfl,m5.upd2 hn,by rw[yah,yaE];omega,?_⟩⟩;rw[ei,zbe];show zap _ _ ((logW (l.take i) e++if e=e then [(k0,v0')] else []).map wV);rw[yaj rfl,yav];exact S6.zbS (zaE (Same.zaq hn) t5) ⟨n,rfl,zab⟩
           . exact zaJ (yay λy=>z (by have:=V.int.inj y;omega)) (idle λ_ _ _ y=>z (by cases y;rfl))
       rintro ys σ H5 ⟨v0,rfl,m5,hy,t5⟩;rw[hu8,yaG]at t5;intro n18 hn18;have m6:Same G (upd H5 n18 (.lst ys)):=m5.upd2 hn18;have e6:upd H5 n18 (.lst ys) n18=some (.lst ys):=zab;have t6:=zaE (Same.zaq (o:=.lst ys) hn18) t5;generalize upd H5 n18 (.lst ys)=H18 at *;have m818:=m817.trans (mG.trans m6);refine⟨_,rfl,_,dxf,_,rfl,m818 _ _ hpf,rfl,_,rfl,ρf,adf,f,zam f,(d:Int),rfl,hf8.grow m818,by omega,.inl ⟨d,rfl,hd,?_⟩⟩;refine⟨sz2,λn19 hn19=>⟨n19,_,rfl,.inl (SqL.of zab),rfl,rfl,_,rfl,zaJ (by simp[fin_ d]) ?_⟩⟩;have m19:Same H18 (upd H18 n19 (.lst [V.str "kept",V.str "given up"])):=Same.zaq hn19;generalize upd H18 n19 (.lst [V.str "kept",V.str "given up"])=H19 at *;have m819:=m818.trans m19;refine⟨_,rfl,_,dxf,_,rfl,m819 _ _ hpf,rfl,_,rfl,ρf,adf,f,zam f,(d:Int),rfl,hf8.grow m819,by omega,smf.dn,.inl ⟨d,rfl,hd,λH20 q20 us20 m20 e20 t20=>?_⟩⟩;rw[FR.done d]at t20;refine⟨q20,us20,rfl,.inr (SqT.of e20),λn21 hn21=>⟨_,rfl,_,_,.lst zab (w_dv (zaE (Same.zaq hn21) t20)),.lst (zal (m20 _ _ (m19 _ _ e6)) hn21) (w_dv (zaE ((m19.trans m20).upd2 hn21) t6)),okw d,okw d,_,rfl,zaJ (by simp) ⟨_,_,rfl,mG.trans (m6.trans ((m19.trans m20).upd2 hn21))⟩⟩⟩
     . rintro σ G ⟨v9,v10,rfl,mG⟩;have m81:=m817.trans mG;have bin1:=bin17.frame (Frame.grow (ρ:=ρf) mG);have apf:Apart K ρf G a (ns.map V.int):=by
         rcases ap4 with ⟨o,e,_,k⟩ | k
         . exact .inl ⟨o,m81 _ _ (m68 _ _ (m6 _ _ (m5 _ _ e))),of _ _ (m5 _ _ e),k⟩
         . exact .inr k
       refine⟨_,rfl,_,dxf,_,rfl,m81 _ _ hpf,rfl,ρf,adf,f,zam f,rfl,hf8.grow m81,smf,by omega,λH2 ρ2 ad2 a2 h2 f2=>?_⟩;refine⟨_,rfl,rfl,_,rfl,zaJ (by simp) ?_⟩;have R2:Run ns (zav f) ((l++zaZ l).length+1):=(Rf.step (a:=.begin) (by rw[yah];omega) (by omega) trivial).1;have kb2:zam (zav f)=bkOf l:=by rw[zda Rf.r.c,FR.kb]
       have hT:(l++zaZ l).length<=200:=by rw[yah];omega
       refine⟨_,rfl,by omega,by omega,?_⟩;refine zlU (n:=4) (λi σ G'=>∃v9 v10 v11 v12 f' ρ' ad',σ=[some (.ref a),some (.ref (ad3 .hall)),v2,some (.ref ql),some (.ref q5),some (.ref (adf .hall)),some (.ref qe),some (.ref qb),some (.int f.n),v9,v10,v11,v12]/\ad' Role.hall=adf .hall/\zai A ρ' ad' f' (zam f') G'/\Run ns f' ((l++zaZ l).length+1+i)/\zaH f'/\So f' f.n/\f'.n=f.n+1/\f'.book=bkOf l/\zam f'=bkOf l/\(∀b∈(f'.deed f.n).done,b.wr=false)/\f'.log=(l++zaZ l)++[.begin f.n]/\zgG ρ' G' qb ks (bkOf l)/\Apart K ρ' G' a (ns.map V.int)/\∀b xs,G b=some (.tup xs)->G' b=some (.tup xs)) ⟨_,_,_,_,zav f,ρ2,ad2,rfl,a2,by rw[zda Rf.r.c];exact h2,R2,FR.rp.L.zav Rf.r.c,So.first Rf.r.c FR.no,rfl,FR.book,kb2,(by show ∀b∈(up f.deed f.n _ f.n).done,_;rw[zae];nofun),(by show f.log++[_]=_;rw[FR.rp.log]),bin1.frame f2,apf.frame f2,f2.t⟩ ?_ ?_
       . rintro i σ G1 hi ⟨v9,v10,v11,v12,f',ρ',ad',rfl,ea',h',R',L',so,n',b',kb',dn',lg',bk',ap',tt'⟩;rw[Int.zero_add];refine⟨_,rfl,_,rfl,a,ns,i,rfl,ap'.sq,by omega,λG2 m2=>?_⟩
         let key:Str:=keyF ns i
         have ikey:zf7 ns key:=⟨i,hi,rfl⟩
         have h2':=h'.grow m2;obtain⟨dx',hp'⟩:=h2'.hall;obtain⟨so2,D2,_⟩:=so.wish ordS ⟨false,key,0⟩;have kbw:zam (wish ordS f' f.n ⟨false,key,0⟩)=zam f':=D2.kb so.c so.go;have Rw:Run ns (wish ordS f' f.n ⟨false,key,0⟩) ((l++zaZ l).length+1+(i+1)):=by
           have:=(R'.step (a:=.read f.n key) (by omega) (by omega) ⟨by omega,ikey⟩).1;rw[zdI,yaj so.go]at this;exact this
         have Lw:zaH (wish ordS f' f.n ⟨false,key,0⟩):=L'.wish ordS R'.r.c so.go;rw[<-ea'];refine⟨_,rfl,_,dx',_,rfl,hp',rfl,_,rfl,_,rfl,ρ',ad',f',(f.n:Int),key,_,rfl,h2',R'.r,by omega,see4 R'.r.L.e R'.k ikey,.inl ⟨f.n,rfl,by omega,.inl ⟨so.go,λG3 ρ3' ad3' q3 a3 h3' f3 e3 r3=>?_⟩⟩⟩
         let v0:Int:=(bkOf l key).getD 0
         have hdn:((wish ordS f' f.n ⟨false,key,0⟩).deed f.n).done=(f'.deed f.n).done++[⟨false,key,v0⟩]:=by
           rw[D2.done];show _++[if false=true then _ else (⟨false,key,(f'.book key).getD 0⟩:Act Str)]=_;rw[yai yam,b']
         rw[zuu D2.st hdn]at e3;have bk3:=bk'.frame ((Frame.grow m2).trans f3);obtain⟨o3,ub3,eb3,od3,tb3,_,_⟩:=id bk3;refine⟨_,rfl,qb,o3,ub3,(ordS ks).map (λk=>((Sum.inr k:Key),V.int ((bkOf l k).getD 0))),rfl,eb3,od3,ze6 tb3,?_,λnd hnd=>?_⟩
         . rw[ya7];exact(zcH (zba ks)).map _ λx y h e=>h (ybL e)
         obtain⟨r0,dg,er⟩:∃r0,DGet (upd G3 nd (.dK ((ordS ks).map λk=>((Sum.inr k:Key),V.int ((bkOf l k).getD 0))))) nd (V.str key) r0/\r0.getD (V.int 0)=V.int v0:=by
           have dg:=DGet.k (k:=(Sum.inr key:Key)) (zab (H:=G3) (a:=nd) (o:=.dK ((ordS ks).map λk=>((Sum.inr k:Key),V.int ((bkOf l k).getD 0)))));rw[zkI hks]at dg;refine⟨_,dg,?_⟩;by_cases h:key∈ks
           . rw[yaj h];rfl
           . rw[yai h];have:bkOf l key=none:=ybY λz=>h ((hks key).mpr z);show V.int 0=V.int ((bkOf l key).getD 0);rw[this];rfl
         refine⟨_,rfl,.inl ⟨_,.inl zab⟩,_,rfl,r0,dg,?_⟩;rw[er];have dok:zeb (.tuple [.str "value",.int v0]):=by
           show PySem.W.kqdOk 8 _=true;simp[PySem.W.kqdOk]
           decide +kernel
         refine⟨sz2,λt4 nt4=>⟨.tuple [.str "value",.int v0],.tuple [.str "value",.int v0],.tup (zal (zal e3 hnd) nt4) (.cons (.str _) (.cons (.int _) .nil)),.tup zab (.cons (.str _) (.cons (.int _) .nil)),dok,dok,_,rfl,zaJ (by simp) ?_⟩⟩;have m4:=(Same.zaq (o:=.dK ((ordS ks).map λk=>((Sum.inr k:Key),V.int ((bkOf l k).getD 0)))) hnd).upd2 (o:=.tup [V.str "value",V.int v0]) nt4;refine⟨_,_,_,_,_,ρ3',ad3',rfl,a3,by rw[kbw];exact h3'.grow m4,Rw,Lw,so2,by rw[D2.nn,n'],?_,by rw[kbw,kb'],?_,?_,bk3.frame (Frame.grow m4),(ap'.frame ((Frame.grow m2).trans f3)).frame (Frame.grow m4),λb xs e=>m4 _ _ (f3.t _ _ (m2 _ _ (tt' _ _ e)))⟩
         . rw[D2.book];exact b'
         . rw[hdn];intro b hb;rcases yas.mp hb with z | z
           . exact dn' b z
           . rw[yaq.mp z]
         . rw[D2.log];exact lg'
       . rintro σ G1 ⟨v9,v10,v11,v12,f',ρ',ad',rfl,ea',h',R',L',so,n',b',kb',dn',lg',bk',ap',tt'⟩;obtain⟨dx',hp'⟩:=h'.hall;have rk':zf6 f'.seen f'.log:=(zhO R'.r.L.e L').rows;have tq:∀b xs,H8 b=some (.tup xs)->G1 b=some (.tup xs):=λb xs e=>tt' _ _ (m81 _ _ e);rw[<-ea'];refine⟨_,rfl,_,rfl,_,rfl,_,rfl,q5,qe,u8,ue,rfl,rfl,tq _ _ hq8,tq _ _ heq,by rw[hu8,hue,hdl,yaw];omega,λp2 G2 m2 e2=>?_⟩;refine⟨_,rfl,ρ',ad',f',ns,f.n,_,l++zaZ l,a,p2,rfl,h'.grow m2,R',L',by omega,so,n',by omega,by rw[b',kb'],dn',ap'.frame (Frame.grow m2),⟨u8++ue,e2,?_⟩,lg',rk',λ_=>q _⟩;rw[yav];exact zgb (zeB (λb xs e=>m2 _ _ (tq _ _ e)) t8) (zeB (λb xs e=>m2 _ _ (tq _ _ e)) te)
end
end TP
end
section
namespace TP
open PySem L2 TH PyProof.Rows
def AA:Ad:=⟨64,102,182,429,209,221⟩
def ff:List Addr:=[237,475,468,480,487,494,82,244,28,342,349,120,125,132,139,153,42,370,160,179,398,391,384,94,412,35,99,165,146,426,419,405,377,363,356,61,251,258,265,89,272,501,508,335,461,447,454,47,440,314,321,328,279,286,520,525]
def FF(K:PySem.W.Frag):Fs:=⟨λi=>ff.getD i 0,λi=>fdOf K (ff.getD i 0)⟩
def exps:List (Option FV):=[fE "__init__" "Hall.__init__" zfE,fE "_law_mix" "_law_mix" zgO,fE "_law_cell" "_law_cell" zfw,fE "_law_key" "_law_key" zgP,fE "_law_act" "_law_act" zgQ,fE "_law_acts" "_law_acts" zfy,fE "__init__" "Record.__init__" zd2,fE "begin" "Hall.begin" zeJ,fE "is_whole" "is_whole" zgL,fE "record_of" "Hall.record_of" zcN,fE "refuse_unless_going" "Hall.refuse_unless_going" zbi,fE "__init__" "Desk.__init__" zfI,fE "hindering" "Desk.hindering" zcR,fE "lets" "Desk.lets" zfH,fE "lets_at_once" "Desk.lets_at_once" zch,fE "take" "Desk.take" zfG,fE "value_under" "value_under" zd0,fE "carry_out" "Hall.carry_out" zcQ,fE "line_up" "Desk.line_up" zdy,fE "next_waited_for" "Desk.next_waited_for" zbL,fE "next_from" "Hall.next_from" zcO,fE "come_to" "Hall.come_to" zdx,fE "greatest_all_round" "Hall.greatest_all_round" zbt,fE "written" "Record.written" zcM,fE "undo" "Hall.undo" zfB,fE "rising_keys" "rising_keys" zd1,fE "touched_keys" "Record.touched_keys" zbP,fE "leave" "Desk.leave" zeK,fE "lets_first" "Desk.lets_first" zcE,fE "let_on" "Hall.let_on" zd3,fE "end" "Hall.end" zgT,fE "drop" "Hall.drop" zfF,fE "wait" "Hall.wait" zfA,fE "answer" "Hall.answer" zd4,fE "ask" "Hall.ask" zgU,fE "__init__" "Want.__init__" zfz,fE "read" "Hall.read" zfC,fE "write" "Hall.write" zeH,fE "keep" "Hall.keep" zfD,fE "is_at_end" "Record.is_at_end" zct,fE "give_up" "Hall.give_up" zdv,fE "_law_call" "_law_call" zfx,fE "_law_do" "_law_do" zh5,fE "log" "Hall.log" zgS,fE "do_again" "do_again" zgN,fE "going_in" "going_in" zgM,fE "risen" "risen" zmv,fE "rising_pairs" "rising_pairs" zdt,fE "book_of" "book_of" zh4,fE "now" "Hall.now" zgR,fE "kept_book" "Hall.kept_book" zcP,fE "order" "Hall.order" zeI,fE "state_of" "Hall.state_of" zc6,fE "done_by" "Hall.done_by" zdw,fE "_law_goes_on" "_law_goes_on" zdu,fE "law" "law" zpA]
def bs(K:PySem.W.Frag):List Bool:=[PySem.W.plainGet K 64 Str.empty,PySem.W.hasDictIn K 64,PySem.W.plainOver K 64,fi K 64 "__setattr__" == some (some (.builtin "object.__setattr__")),fi K 64 "use" == some none,fi K 64 "key" == some none,fi K 64 "value" == some none,gl K "Want" == some (some (.ref 64)),PySem.W.makesIn K 64,fi K 64 "__init__" == some (some (.ref 61)),PySem.W.keepIn K (.ref 64),PySem.W.plainGet K 102 Str.empty,PySem.W.hasDictIn K 102,PySem.W.plainOver K 102,fi K 102 "__setattr__" == some (some (.builtin "object.__setattr__")),fi K 102 "state" == some none,fi K 102 "did" == some none,fi K 102 "want" == some none,gl K "Record" == some (some (.ref 102)),PySem.W.makesIn K 102,fi K 102 "__init__" == some (some (.ref 82)),PySem.W.keepIn K (.ref 102),PySem.W.plainGet K 182 Str.empty,PySem.W.hasDictIn K 182,PySem.W.plainOver K 182,fi K 182 "__setattr__" == some (some (.builtin "object.__setattr__")),fi K 182 "held" == some none,fi K 182 "row" == some none,gl K "Desk" == some (some (.ref 182)),PySem.W.makesIn K 182,fi K 182 "__init__" == some (some (.ref 120)),PySem.W.keepIn K (.ref 182),PySem.W.plainGet K 429 Str.empty,PySem.W.hasDictIn K 429,PySem.W.plainOver K 429,fi K 429 "__setattr__" == some (some (.builtin "object.__setattr__")),fi K 429 "records" == some none,fi K 429 "desks" == some none,fi K 429 "standing" == some none,fi K 429 "kept_values" == some none,fi K 429 "kept_deeds" == some none,fi K 429 "rows" == some none,gl K "Hall" == some (some (.ref 429)),PySem.W.makesIn K 429,fi K 429 "__init__" == some (some (.ref 237)),PySem.W.keepIn K (.ref 429),gl K "_law_mix" == some (some (.ref 475)),gl K "_law_cell" == some (some (.ref 468)),gl K "_law_key" == some (some (.ref 480)),gl K "_law_act" == some (some (.ref 487)),gl K "_law_acts" == some (some (.ref 494)),fi K 429 "begin" == some (some (.ref 244)),gl K "is_whole" == some (some (.ref 28)),fi K 429 "record_of" == some (some (.ref 342)),fi K 429 "refuse_unless_going" == some (some (.ref 349)),fi K 182 "hindering" == some (some (.ref 125)),fi K 182 "lets" == some (some (.ref 132)),fi K 182 "lets_at_once" == some (some (.ref 139)),fi K 182 "take" == some (some (.ref 153)),gl K "value_under" == some (some (.ref 42)),fi K 429 "carry_out" == some (some (.ref 370)),fi K 182 "line_up" == some (some (.ref 160)),fi K 182 "next_waited_for" == some (some (.ref 179)),fi K 429 "next_from" == some (some (.ref 398)),fi K 429 "come_to" == some (some (.ref 391)),fi K 429 "greatest_all_round" == some (some (.ref 384)),fi K 102 "written" == some (some (.ref 94)),fi K 429 "undo" == some (some (.ref 412)),gl K "rising_keys" == some (some (.ref 35)),fi K 102 "touched_keys" == some (some (.ref 99)),fi K 182 "leave" == some (some (.ref 165)),fi K 182 "lets_first" == some (some (.ref 146)),fi K 429 "let_on" == some (some (.ref 426)),fi K 429 "end" == some (some (.ref 419)),fi K 429 "drop" == some (some (.ref 405)),fi K 429 "wait" == some (some (.ref 377)),fi K 429 "answer" == some (some (.ref 363)),fi K 429 "ask" == some (some (.ref 356)),fi K 429 "read" == some (some (.ref 251)),fi K 429 "write" == some (some (.ref 258)),fi K 429 "keep" == some (some (.ref 265)),fi K 102 "is_at_end" == some (some (.ref 89)),fi K 429 "give_up" == some (some (.ref 272)),gl K "_law_call" == some (some (.ref 501)),gl K "_law_do" == some (some (.ref 508)),fi K 429 "log" == some (some (.ref 335)),gl K "do_again" == some (some (.ref 461)),gl K "going_in" == some (some (.ref 447)),gl K "risen" == some (some (.ref 454)),gl K "rising_pairs" == some (some (.ref 47)),gl K "book_of" == some (some (.ref 440)),fi K 429 "now" == some (some (.ref 314)),fi K 429 "kept_book" == some (some (.ref 321)),fi K 429 "order" == some (some (.ref 328)),fi K 429 "state_of" == some (some (.ref 279)),fi K 429 "done_by" == some (some (.ref 286)),gl K "_law_goes_on" == some (some (.ref 520)),gl K "law" == some (some (.ref 525)),gs K "BEGIN" "begin",gi K "FIRST_VALUE" 0,gs K "GIVEN_UP" "given up",gs K "GIVE_UP" "give up",gs K "GOING" "going",gs K "KEEP" "keep",gs K "KEPT" "kept",gs K "READ" "read",gs K "READING" "reading",gs K "WAITING" "waiting",gs K "WRITE" "write",gs K "WRITING" "writing",gl K "NoDeed" == some (some (.ref 209)),PySem.W.excIn K 209 [.type "ValueError",.type "Exception",.type "BaseException",.type "object"] "ValueError.__new__",gl K "NotGoing" == some (some (.ref 221)),PySem.W.excIn K 221 [.type "ValueError",.type "Exception",.type "BaseException",.type "object"] "ValueError.__new__",PySem.W.ktsIn K 221 "BaseException",fi K 429 "__class__" == some (some (.builtin "object.__class__")),PySem.W.specialIn K (.builtin "object.__class__") "__get__" == some (some (.builtin "getset_descriptor.__get__")),PySem.W.takesIn K (.builtin "object.__class__") == some true,PySem.W.mroIn K 429 (.type "object") == some true,PySem.W.kitOne K (.ref 429) (.ref 429) == some true,gl K "bool" == some none,gl K "dict" == some none,gl K "int" == some none,gl K "isinstance" == some none,gl K "len" == some none,gl K "list" == some none,gl K "range" == some none,gl K "set" == some none,gl K "sorted" == some none,gl K "tuple" == some none]
def qq:Program:={ PySem.Challenge.pw_turnhall_k09_whole_risen_halls with main:={ PySem.Challenge.pw_turnhall_k09_whole_risen_halls.main with body:=[zpA] } }
def lo:List Str:=(PySem.Challenge.pw_turnhall_k09_whole_risen_halls.main.scope.names.map (·.1)).filter λx=>!(x == "law")
def kk(h:Heap):PySem.W.Frag:=Kof (3::List.range' 11 515) h
def OB(K:PySem.W.Frag):Prop:=ff.map (fV K)=exps/\(bs K).all id=true
theorem ztn{K:PySem.W.Frag}{h:Heap}{mg:Str->Option Value}(X:K.In h)(G:h.Ns mainGlobals mg)(o:OB K):Txt K mg AA (FF K):=by
 obtain⟨h1,h2⟩:=o;exact⟨⟨by decide,by decide,by decide,by decide,by decide,by decide⟩,
  ⟨bt h2 0 rfl,bt h2 1 rfl,bt h2 2 rfl,yal (bt h2 3 rfl)⟩,
  yal (bt h2 4 rfl),
  yal (bt h2 5 rfl),
  yal (bt h2 6 rfl),
  yaU X G (yal (bt h2 7 rfl)),
  ⟨bt h2 8 rfl,yal (bt h2 9 rfl),fu2 h1 35 rfl rfl,bt h2 10 rfl⟩,
  ⟨bt h2 11 rfl,bt h2 12 rfl,bt h2 13 rfl,yal (bt h2 14 rfl)⟩,
  yal (bt h2 15 rfl),
  yal (bt h2 16 rfl),
  yal (bt h2 17 rfl),
  yaU X G (yal (bt h2 18 rfl)),
  ⟨bt h2 19 rfl,yal (bt h2 20 rfl),fu2 h1 6 rfl rfl,bt h2 21 rfl⟩,
  ⟨bt h2 22 rfl,bt h2 23 rfl,bt h2 24 rfl,yal (bt h2 25 rfl)⟩,
  yal (bt h2 26 rfl),
  yal (bt h2 27 rfl),
  yaU X G (yal (bt h2 28 rfl)),
  ⟨bt h2 29 rfl,yal (bt h2 30 rfl),fu2 h1 11 rfl rfl,bt h2 31 rfl⟩,
  ⟨bt h2 32 rfl,bt h2 33 rfl,bt h2 34 rfl,yal (bt h2 35 rfl)⟩,
  yal (bt h2 36 rfl),
  yal (bt h2 37 rfl),
  yal (bt h2 38 rfl),
  yal (bt h2 39 rfl),
  yal (bt h2 40 rfl),
  yal (bt h2 41 rfl),
  yaU X G (yal (bt h2 42 rfl)),
  ⟨bt h2 43 rfl,yal (bt h2 44 rfl),fu2 h1 0 rfl rfl,bt h2 45 rfl⟩,
  fu h1 0 rfl rfl,
  (fu h1 0 rfl rfl).binds λ_ _ _ _ _ _ us hl=>match us,hl with | [_],_=>rfl,
  fu h1 1 rfl rfl,
  (fu h1 1 rfl rfl).binds λ_ _ _ _ _ _ us hl=>match us,hl with | [_,_,_],_=>rfl,
  yaU X G (yal (bt h2 46 rfl)),
  fu3 h1 1 rfl rfl,
  fu h1 2 rfl rfl,
  (fu h1 2 rfl rfl).binds λ_ _ _ _ _ _ us hl=>match us,hl with | [_,_],_=>rfl,
  yaU X G (yal (bt h2 47 rfl)),
  fu3 h1 2 rfl rfl,
  fu h1 3 rfl rfl,
  (fu h1 3 rfl rfl).binds λ_ _ _ _ _ _ us hl=>match us,hl with | [_,_],_=>rfl,
  yaU X G (yal (bt h2 48 rfl)),
  fu3 h1 3 rfl rfl,
  fu h1 4 rfl rfl,
  (fu h1 4 rfl rfl).binds λ_ _ _ _ _ _ us hl=>match us,hl with | [_,_,_],_=>rfl,
  yaU X G (yal (bt h2 49 rfl)),
  fu3 h1 4 rfl rfl,
  fu h1 5 rfl rfl,
  (fu h1 5 rfl rfl).binds λ_ _ _ _ _ _ us hl=>match us,hl with | [_],_=>rfl,
  yaU X G (yal (bt h2 50 rfl)),
  fu3 h1 5 rfl rfl,
  fu h1 6 rfl rfl,
  (fu h1 6 rfl rfl).binds λ_ _ _ _ _ _ us hl=>match us,hl with | [_],_=>rfl,
  fu h1 7 rfl rfl,
  (fu h1 7 rfl rfl).binds λ_ _ _ _ _ _ us hl=>match us,hl with | [_],_=>rfl,
  ⟨yal (bt h2 51 rfl),fu2 h1 7 rfl rfl,fu3 h1 7 rfl rfl⟩,
  fu h1 8 rfl rfl,
  (fu h1 8 rfl rfl).binds λ_ _ _ _ _ _ us hl=>match us,hl with | [_],_=>rfl,
  yaU X G (yal (bt h2 52 rfl)),
  fu3 h1 8 rfl rfl,
  fu h1 9 rfl rfl,
  (fu h1 9 rfl rfl).binds λ_ _ _ _ _ _ us hl=>match us,hl with | [_,_],_=>rfl,
  ⟨yal (bt h2 53 rfl),fu2 h1 9 rfl rfl,fu3 h1 9 rfl rfl⟩,
  fu h1 10 rfl rfl,
  (fu h1 10 rfl rfl).binds λ_ _ _ _ _ _ us hl=>match us,hl with | [_,_],_=>rfl,
  ⟨yal (bt h2 54 rfl),fu2 h1 10 rfl rfl,fu3 h1 10 rfl rfl⟩,
  fu h1 11 rfl rfl,
  (fu h1 11 rfl rfl).binds λ_ _ _ _ _ _ us hl=>match us,hl with | [_],_=>rfl,
  fu h1 12 rfl rfl,
  (fu h1 12 rfl rfl).binds λ_ _ _ _ _ _ us hl=>match us,hl with | [_,_,_],_=>rfl,
  ⟨yal (bt h2 55 rfl),fu2 h1 12 rfl rfl,fu3 h1 12 rfl rfl⟩,
  fu h1 13 rfl rfl,
  (fu h1 13 rfl rfl).binds λ_ _ _ _ _ _ us hl=>match us,hl with | [_,_,_],_=>rfl,
  ⟨yal (bt h2 56 rfl),fu2 h1 13 rfl rfl,fu3 h1 13 rfl rfl⟩,
  fu h1 14 rfl rfl,
  (fu h1 14 rfl rfl).binds λ_ _ _ _ _ _ us hl=>match us,hl with | [_,_,_],_=>rfl,
  ⟨yal (bt h2 57 rfl),fu2 h1 14 rfl rfl,fu3 h1 14 rfl rfl⟩,
  fu h1 15 rfl rfl,
  (fu h1 15 rfl rfl).binds λ_ _ _ _ _ _ us hl=>match us,hl with | [_,_,_],_=>rfl,
  ⟨yal (bt h2 58 rfl),fu2 h1 15 rfl rfl,fu3 h1 15 rfl rfl⟩,
  fu h1 16 rfl rfl,
  (fu h1 16 rfl rfl).binds λ_ _ _ _ _ _ us hl=>match us,hl with | [_,_],_=>rfl,
  yaU X G (yal (bt h2 59 rfl)),
  fu3 h1 16 rfl rfl,
  fu h1 17 rfl rfl,
  (fu h1 17 rfl rfl).binds λ_ _ _ _ _ _ us hl=>match us,hl with | [_,_,_],_=>rfl,
  ⟨yal (bt h2 60 rfl),fu2 h1 17 rfl rfl,fu3 h1 17 rfl rfl⟩,
  fu h1 18 rfl rfl,
  (fu h1 18 rfl rfl).binds λ_ _ _ _ _ _ us hl=>match us,hl with | [_,_,_],_=>rfl,
  ⟨yal (bt h2 61 rfl),fu2 h1 18 rfl rfl,fu3 h1 18 rfl rfl⟩,
  fu h1 19 rfl rfl,
  (fu h1 19 rfl rfl).binds λ_ _ _ _ _ _ us hl=>match us,hl with | [_,_,_],_=>rfl,
  ⟨yal (bt h2 62 rfl),fu2 h1 19 rfl rfl,fu3 h1 19 rfl rfl⟩,
  fu h1 20 rfl rfl,
  (fu h1 20 rfl rfl).binds λ_ _ _ _ _ _ us hl=>match us,hl with | [_,_],_=>rfl,
  ⟨yal (bt h2 63 rfl),fu2 h1 20 rfl rfl,fu3 h1 20 rfl rfl⟩,
  fu h1 21 rfl rfl,
  (fu h1 21 rfl rfl).binds λ_ _ _ _ _ _ us hl=>match us,hl with | [_,_],_=>rfl,
  ⟨yal (bt h2 64 rfl),fu2 h1 21 rfl rfl,fu3 h1 21 rfl rfl⟩,
  fu h1 22 rfl rfl,
  (fu h1 22 rfl rfl).binds λ_ _ _ _ _ _ us hl=>match us,hl with | [_,_],_=>rfl,
  ⟨yal (bt h2 65 rfl),fu2 h1 22 rfl rfl,fu3 h1 22 rfl rfl⟩,
  fu h1 23 rfl rfl,
  (fu h1 23 rfl rfl).binds λ_ _ _ _ _ _ us hl=>match us,hl with | [_],_=>rfl,
  ⟨yal (bt h2 66 rfl),fu2 h1 23 rfl rfl,fu3 h1 23 rfl rfl⟩,
  fu h1 24 rfl rfl,
  (fu h1 24 rfl rfl).binds λ_ _ _ _ _ _ us hl=>match us,hl with | [_,_],_=>rfl,
  ⟨yal (bt h2 67 rfl),fu2 h1 24 rfl rfl,fu3 h1 24 rfl rfl⟩,
  fu h1 25 rfl rfl,
  (fu h1 25 rfl rfl).binds λ_ _ _ _ _ _ us hl=>match us,hl with | [_],_=>rfl,
  yaU X G (yal (bt h2 68 rfl)),
  fu3 h1 25 rfl rfl,
  fu h1 26 rfl rfl,
  (fu h1 26 rfl rfl).binds λ_ _ _ _ _ _ us hl=>match us,hl with | [_],_=>rfl,
  ⟨yal (bt h2 69 rfl),fu2 h1 26 rfl rfl,fu3 h1 26 rfl rfl⟩,
  fu h1 27 rfl rfl,
  (fu h1 27 rfl rfl).binds λ_ _ _ _ _ _ us hl=>match us,hl with | [_,_],_=>rfl,
  ⟨yal (bt h2 70 rfl),fu2 h1 27 rfl rfl,fu3 h1 27 rfl rfl⟩,
  fu h1 28 rfl rfl,
  (fu h1 28 rfl rfl).binds λ_ _ _ _ _ _ us hl=>match us,hl with | [_],_=>rfl,
  ⟨yal (bt h2 71 rfl),fu2 h1 28 rfl rfl,fu3 h1 28 rfl rfl⟩,
  fu h1 29 rfl rfl,
  (fu h1 29 rfl rfl).binds λ_ _ _ _ _ _ us hl=>match us,hl with | [_,_],_=>rfl,
  ⟨yal (bt h2 72 rfl),fu2 h1 29 rfl rfl,fu3 h1 29 rfl rfl⟩,
  fu h1 30 rfl rfl,
  (fu h1 30 rfl rfl).binds λ_ _ _ _ _ _ us hl=>match us,hl with | [_,_,_],_=>rfl,
  ⟨yal (bt h2 73 rfl),fu2 h1 30 rfl rfl,fu3 h1 30 rfl rfl⟩,
  fu h1 31 rfl rfl,
  (fu h1 31 rfl rfl).binds λ_ _ _ _ _ _ us hl=>match us,hl with | [_,_],_=>rfl,
  ⟨yal (bt h2 74 rfl),fu2 h1 31 rfl rfl,fu3 h1 31 rfl rfl⟩,
  fu h1 32 rfl rfl,
  (fu h1 32 rfl rfl).binds λ_ _ _ _ _ _ us hl=>match us,hl with | [_,_,_],_=>rfl,
  ⟨yal (bt h2 75 rfl),fu2 h1 32 rfl rfl,fu3 h1 32 rfl rfl⟩,
  fu h1 33 rfl rfl,
  (fu h1 33 rfl rfl).binds λ_ _ _ _ _ _ us hl=>match us,hl with | [_,_,_],_=>rfl,
  ⟨yal (bt h2 76 rfl),fu2 h1 33 rfl rfl,fu3 h1 33 rfl rfl⟩,
  fu h1 34 rfl rfl,
  (fu h1 34 rfl rfl).binds λ_ _ _ _ _ _ us hl=>match us,hl with | [_,_,_],_=>rfl,
  ⟨yal (bt h2 77 rfl),fu2 h1 34 rfl rfl,fu3 h1 34 rfl rfl⟩,
  fu h1 35 rfl rfl,
  (fu h1 35 rfl rfl).binds λ_ _ _ _ _ _ us hl=>match us,hl with | [_,_,_,_],_=>rfl,
  fu h1 36 rfl rfl,
  (fu h1 36 rfl rfl).binds λ_ _ _ _ _ _ us hl=>match us,hl with | [_,_,_],_=>rfl,
  ⟨yal (bt h2 78 rfl),fu2 h1 36 rfl rfl,fu3 h1 36 rfl rfl⟩,
  fu h1 37 rfl rfl,
  (fu h1 37 rfl rfl).binds λ_ _ _ _ _ _ us hl=>match us,hl with | [_,_,_,_],_=>rfl,
  ⟨yal (bt h2 79 rfl),fu2 h1 37 rfl rfl,fu3 h1 37 rfl rfl⟩,
  fu h1 38 rfl rfl,
  (fu h1 38 rfl rfl).binds λ_ _ _ _ _ _ us hl=>match us,hl with | [_,_],_=>rfl,
  ⟨yal (bt h2 80 rfl),fu2 h1 38 rfl rfl,fu3 h1 38 rfl rfl⟩,
  fu h1 39 rfl rfl,
  (fu h1 39 rfl rfl).binds λ_ _ _ _ _ _ us hl=>match us,hl with | [_],_=>rfl,
  ⟨yal (bt h2 81 rfl),fu2 h1 39 rfl rfl,fu3 h1 39 rfl rfl⟩,
  fu h1 40 rfl rfl,
  (fu h1 40 rfl rfl).binds λ_ _ _ _ _ _ us hl=>match us,hl with | [_,_],_=>rfl,
  ⟨yal (bt h2 82 rfl),fu2 h1 40 rfl rfl,fu3 h1 40 rfl rfl⟩,
  fu h1 41 rfl rfl,
  (fu h1 41 rfl rfl).binds λ_ _ _ _ _ _ us hl=>match us,hl with | [_,_],_=>rfl,
  yaU X G (yal (bt h2 83 rfl)),
  fu3 h1 41 rfl rfl,
  fu h1 42 rfl rfl,
  (fu h1 42 rfl rfl).binds λ_ _ _ _ _ _ us hl=>match us,hl with | [_,_],_=>rfl,
  yaU X G (yal (bt h2 84 rfl)),
  fu3 h1 42 rfl rfl,
  fu h1 43 rfl rfl,
  (fu h1 43 rfl rfl).binds λ_ _ _ _ _ _ us hl=>match us,hl with | [_],_=>rfl,
  ⟨yal (bt h2 85 rfl),fu2 h1 43 rfl rfl,fu3 h1 43 rfl rfl⟩,
  fu h1 44 rfl rfl,
  (fu h1 44 rfl rfl).binds λ_ _ _ _ _ _ us hl=>match us,hl with | [_,_],_=>rfl,
  yaU X G (yal (bt h2 86 rfl)),
  fu3 h1 44 rfl rfl,
  fu h1 45 rfl rfl,
  (fu h1 45 rfl rfl).binds λ_ _ _ _ _ _ us hl=>match us,hl with | [_],_=>rfl,
  yaU X G (yal (bt h2 87 rfl)),
  fu3 h1 45 rfl rfl,
  fu h1 46 rfl rfl,
  (fu h1 46 rfl rfl).binds λ_ _ _ _ _ _ us hl=>match us,hl with | [_],_=>rfl,
  yaU X G (yal (bt h2 88 rfl)),
  fu3 h1 46 rfl rfl,
  fu h1 47 rfl rfl,
  (fu h1 47 rfl rfl).binds λ_ _ _ _ _ _ us hl=>match us,hl with | [_],_=>rfl,
  yaU X G (yal (bt h2 89 rfl)),
  fu3 h1 47 rfl rfl,
  fu h1 48 rfl rfl,
  (fu h1 48 rfl rfl).binds λ_ _ _ _ _ _ us hl=>match us,hl with | [_],_=>rfl,
  yaU X G (yal (bt h2 90 rfl)),
  fu3 h1 48 rfl rfl,
  fu h1 49 rfl rfl,
  (fu h1 49 rfl rfl).binds λ_ _ _ _ _ _ us hl=>match us,hl with | [_],_=>rfl,
  ⟨yal (bt h2 91 rfl),fu2 h1 49 rfl rfl,fu3 h1 49 rfl rfl⟩,
  fu h1 50 rfl rfl,
  (fu h1 50 rfl rfl).binds λ_ _ _ _ _ _ us hl=>match us,hl with | [_],_=>rfl,
  ⟨yal (bt h2 92 rfl),fu2 h1 50 rfl rfl,fu3 h1 50 rfl rfl⟩,
  fu h1 51 rfl rfl,
  (fu h1 51 rfl rfl).binds λ_ _ _ _ _ _ us hl=>match us,hl with | [_],_=>rfl,
  ⟨yal (bt h2 93 rfl),fu2 h1 51 rfl rfl,fu3 h1 51 rfl rfl⟩,
  fu h1 52 rfl rfl,
  (fu h1 52 rfl rfl).binds λ_ _ _ _ _ _ us hl=>match us,hl with | [_,_],_=>rfl,
  ⟨yal (bt h2 94 rfl),fu2 h1 52 rfl rfl,fu3 h1 52 rfl rfl⟩,
  fu h1 53 rfl rfl,
  (fu h1 53 rfl rfl).binds λ_ _ _ _ _ _ us hl=>match us,hl with | [_,_],_=>rfl,
  ⟨yal (bt h2 95 rfl),fu2 h1 53 rfl rfl,fu3 h1 53 rfl rfl⟩,
  fu h1 54 rfl rfl,
  (fu h1 54 rfl rfl).binds λ_ _ _ _ _ _ us hl=>match us,hl with | [_,_,_,_],_=>rfl,
  yaU X G (yal (bt h2 96 rfl)),
  fu3 h1 54 rfl rfl,
  fu h1 55 rfl rfl,
  (fu h1 55 rfl rfl).binds λ_ _ _ _ _ _ us hl=>match us,hl with | [_],_=>rfl,
  yaU X G (yal (bt h2 97 rfl)),
  fu3 h1 55 rfl rfl,
  ziE X G (bt h2 98 rfl),
  zuZ X G (bt h2 99 rfl),
  ziE X G (bt h2 100 rfl),
  ziE X G (bt h2 101 rfl),
  ziE X G (bt h2 102 rfl),
  ziE X G (bt h2 103 rfl),
  ziE X G (bt h2 104 rfl),
  ziE X G (bt h2 105 rfl),
  ziE X G (bt h2 106 rfl),
  ziE X G (bt h2 107 rfl),
  ziE X G (bt h2 108 rfl),
  ziE X G (bt h2 109 rfl),
  yaU X G (yal (bt h2 110 rfl)),
  bt h2 111 rfl,
  yaU X G (yal (bt h2 112 rfl)),
  bt h2 113 rfl,
  bt h2 114 rfl,
  yal (bt h2 115 rfl),
  yal (bt h2 116 rfl),
  yal (bt h2 117 rfl),
  yal (bt h2 118 rfl),
  yal (bt h2 119 rfl),
  ybj X G (yal (bt h2 120 rfl)),
  ybj X G (yal (bt h2 121 rfl)),
  ybj X G (yal (bt h2 122 rfl)),
  ybj X G (yal (bt h2 123 rfl)),
  ybj X G (yal (bt h2 124 rfl)),
  ybj X G (yal (bt h2 125 rfl)),
  ybj X G (yal (bt h2 126 rfl)),
  ybj X G (yal (bt h2 127 rfl)),
  ybj X G (yal (bt h2 128 rfl)),
  ybj X G (yal (bt h2 129 rfl))⟩
theorem walk{q:Program}{loose:List Str}{d:DefRec}(hdf:d.params.defaults=[])(hnm:d.name = "law"):PySem.W.WalkO q loose (λ_ _=>True) (λ_ h=>∃K,OB K/\K.In h) PySem.Challenge.rw_turnhall_k09_whole_risen_halls.row.toRowW d [] (λf vs=>PySem.call f vs) :=
 walk2 (n:=63) (k:=12) (x := "_law_script") (CX:=λw=>CX1 PySem.Challenge.rw_turnhall_k09_whole_risen_halls.prog w) (sp:=λK=>ztE K) rfl (by decide) hdf ⟨rfl,by decide,by decide⟩
  (λw mg fa h K o X G hfa=>by
   have T:=ztn X G o;have F:=fu o.1 55 rfl rfl;rw[hnm]at hfa;have e:=(T.zu0).symm.trans hfa;injection e with e
   injection e with e
   subst e;obtain⟨oc,od,kV,dc,pm,an,cd,ct,sl,e1,e2,e3⟩:=F.ex;refine⟨fdOf K (ff.getD 55 0),λs v=>?_,λbase _ _=>zt4 T⟩;have:fdOf K (ff.getD 55 0)=_:=e1;rw[this];exact .of_eq rfl)
  (λ_ _ a ns hl _ hS=>⟨a,ns,rfl,hS,λ_=>rfl⟩) λ_ _ _ _ _ z=>by
   obtain⟨_,_,_,_,_,_,_,_,_,_,_,_,z⟩:=z;exact z
end TP
end
open PySem PySem.W PyProof.Rows
theorem TP.left:LeftO PySem.Challenge.rw_turnhall_k09_whole_risen_halls.prog TP.qq TP.lo (λ_=>true) (λs=>(TP.ff.map (TP.fV (TP.kk s.heap)),(TP.bs (TP.kk s.heap)).all id)) (λ_=>(TP.exps,true)) 7142 :=
 TP.zuU (m:=11) (ann:=some (.ref 6)) (life:={}) (boot_open (by kernel_rfl) rfl λs=>by kernel_rfl) (λw=>by kernel_rfl) (λw=>by kernel_rfl) λw os=>by rw[PySem.W.Fast.te10156331382660048174,PySem.W.Fast.te11892475500146522536,PySem.W.Fast.te14364793385576792824,PySem.W.Fast.te4187177175401517315];kernel_rfl
theorem PySem.Challenge.cw_turnhall_k09_whole_risen_halls_holds : PySem.Challenge.rw_turnhall_k09_whole_risen_halls.Holds := by
 refine holds_law (by rw[PySem.W.Fast.te9446332074065402090];kernel_rfl) λsaid=>holds_open (XP:=λ_ _=>True) (YP:=λ_ h=>∃K,TP.OB K/\K.In h) (d:=TP.dOf TP.zpA) (kwd:=[]) TP.left (λw s e=>⟨_,⟨yaZ Prod.fst e,yaZ Prod.snd e⟩,TP.zux⟩) (λ_ h h2 ⟨K,o,x⟩ k=>⟨K,o,x.keeps k⟩) (λ_ _=>trivial) (λ_ _ _ _ _=>trivial) (by kernel_rfl) (by kernel_rfl) (by kernel_rfl) (λs _=>recFacts_of (R:=[]) (s:=s) rfl) (by kernel_rfl) said (by kernel_rfl) ⟨rfl,rfl,rfl,rfl,rfl,by decide +kernel⟩ (by w_witness2) (TP.walk rfl rfl)
