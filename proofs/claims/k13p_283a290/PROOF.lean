import PyProof.Rows.All
import Wide.All
import OpenK.AllK
import Wide.FinOn
import Lean
import PyProof.EqAt
import PyProof.EqKinds
import PyProof.NeKinds
import PyProof.TupleCall
import PyProof.ZipIter
import PyProof.ListNew
import PyProof.P3Eq
import PyProof.NeData
import PyProof.EnumFor
import PyProof.EnumMake
import PyProof.ExcBaseAll.ValueError
import PyProof.Rows.SetFrom
import PyProof.CollectWalk
import PyProof.SumWalk
import PyProof.FString
import KE.KDictOf
import PyProof.AttrMissHeap
import PyProof.TupleOfGen
import KE.KDictSum
import PyProof.ConsumeS
import PyProof.P3In
import PyProof.Rows.RuleN_abs
import PyProof.Rows.FactsN_abs
import PyProof.StrBlockI
import PyProof.SliceStr2
import PyProof.Rows.StrClose
import PyProof.FactsAll.tuple_2
import PyProof.MinMaxWalk
import PyProof.WalksMore
import PyProof.Rows.RowHeap
import PyProof.DictWalks
import KE.KSortTup
import PyProof.Rows.ListMul
import PyProof.ListRange
import PyProof.TupleOfStr
import KE.KRevSl
import KE.KDictList
import KE.KIntText
import PyProof.ReprStr
import KE.KRevIter
import PyProof.DictUpdate
import PyProof.StrOps
import KE.KEqDict
import KE.IntBitsLaws
import PyProof.Rows.SortRuns
import PyProof.Rows.SortKey
import Wide.Seal
import PySem.Challenge.RW_hangstill_k13_whole_one_shape
import KE.RegKIsAll
import KE.RegKTryMore
set_option Elab.async false
set_option linter.all false
set_option maxRecDepth 100000
set_option maxHeartbeats 4000000
open PySem.Heap (DictOf ExtBut SameBut)
open Option (getD_none getD_some isSome_map map_some)
open PySem.W (Frag codeIn excIn findIn fnOf hideAll hideAll_get instObj keepIn kitOne kitx_dict kitx_list kitx_tuple lookIn methodObj mg_of nsIn of_hideAll plainGet)
open Nat (add_mul add_sub_cancel add_zero le_max_left le_max_right le_succ lt_trans mod_lt one_mul pow_pos sub_self succ_add zero_add)
open List (Nodup Pairwise Perm all_eq_true any_eq_true drop_take ext_getElem foldl foldl_cons foldl_nil forIn_cons forIn_nil length_nil lookup_cons mem_filter nodup_append not_lt of_mem_zip range replicate take_add take_take)
open Array (size_map toList)
open Int (add_comm dvd_trans ediv_le_self mul_nonneg)
open PySem.F (args_tuple_add_2 called_tuple entry_tuple_add plainAttrs_list slot_tuple_add)
open PySem.PyData (canLay0 canLayAll0 depthAll eqvAll)
abbrev rE:= @_root_.PyProof.Rows.callWith_type1
abbrev vD:= @_root_.PyProof.Rows.slot_tuple_getitem
abbrev vH:= @_root_.PySem.F.slot_list_getattribute
abbrev vO:= @_root_.PySem.F.slot_tuple_getattribute
abbrev eU:= @_root_.PySem.Around.under_plainId
abbrev b_:= @_root_.Array.getElem?_eq_getElem
abbrev oH:= @_root_.Array.getElem?_eq_some_iff
abbrev jr:= @_root_.Bool.eq_iff_iff
abbrev bP:= @_root_.Bool.false_ne_true
abbrev lY:= @_root_.Bool.not_true
abbrev jT:= @_root_.PySem.F.plain_min_loop
abbrev vE:= @_root_.PyProof.Rows.F.plain_set_update_loop
abbrev rF:= @_root_.PySem.F.slot_zip_next
abbrev gw:= @_root_.Int.le_of_lt
abbrev dg:= @_root_.Int.le_trans
abbrev oh:= @_root_.Int.mul_le_mul_of_nonneg_left
abbrev vF:= @_root_.Int.mul_le_mul_of_nonneg_right
abbrev om:= @_root_.Int.pow_succ
abbrev rO:= @_root_.PyProof.Rows.KeyOrd.kle_of_klt
abbrev gC:= @_root_.PyProof.Rows.KeyOrd.kle_refl
abbrev oE:= @_root_.PyProof.Rows.KeyOrd.kle_trans
abbrev rR:= @_root_.List.extract_eq_take_drop
abbrev vI:= @_root_.List.getElem?_cons_succ
abbrev vJ:= @_root_.List.getElem?_eq_none
abbrev bY:= @_root_.List.getElem?_eq_some_iff
abbrev vK:= @_root_.List.getElem?_zip_eq_some
abbrev vL:= @_root_.List.length_erase_of_mem
abbrev vM:= @_root_.List.length_pos_of_mem
abbrev rS:= @_root_.List.lt_irrefl
abbrev vN:= @_root_.List.mem_erase_of_ne
abbrev vP:= @_root_.List.mem_of_find?_eq_some
abbrev vQ:= @_root_.Nat.add_sub_cancel'
abbrev oF:= @_root_.Nat.add_sub_cancel_left
abbrev oG:= @_root_.Nat.exists_eq_succ_of_ne_zero
abbrev iS:= @_root_.PySem.Obj.data_mapFields
abbrev vR:= @_root_.PySem.Obj.isFreed_of_fields
abbrev gD:= @_root_.List.Perm.append_left
abbrev ir:= @_root_.List.Perm.append_right
abbrev gE:= @_root_.PySem.boot_len
abbrev jm:= @_root_.PySem.mem_of_lookup
abbrev rT:= @_root_.Rat.intCast_mul
abbrev fF:= @_root_.Bool.and_eq_true
abbrev j8:= @_root_.List.any_cons
abbrev bu:= @_root_.List.append_assoc
abbrev fG:= @_root_.List.append_nil
abbrev iT:= @_root_.beq_iff_eq
abbrev jn:= @_root_.bne_self_eq_false
abbrev j9:= @_root_.PySem.builtinLookup_eq_fast
abbrev jo:= @_root_.PySem.F.called_set
abbrev eG:= @_root_.PySem.codeAny_builtin
abbrev lO:= @_root_.PySem.codeAny_mono
abbrev dh:= @_root_.congrArg
abbrev lP:= @_root_.decide_eq_decide
abbrev dW:= @_root_.decide_eq_false
abbrev vS:= @_root_.decide_eq_false_iff_not
abbrev fY:= @_root_.decide_eq_true
abbrev lQ:= @_root_.decide_eq_true_eq
abbrev lR:= @_root_.List.drop_drop
abbrev lS:= @_root_.List.drop_eq_getElem_cons
abbrev jq:= @_root_.List.drop_eq_nil_of_le
abbrev gF:= @_root_.List.drop_sublist
abbrev lT:= @_root_.List.drop_zero
abbrev oJ:= @_root_.Int.emod_lt_of_pos
abbrev oK:= @_root_.Int.emod_nonneg
abbrev lU:= @_root_.LawfulBEq.eq_of_beq
abbrev cu:= @_root_.Bool.false_eq_true
abbrev rU:= @_root_.List.filterMap_cons
abbrev j_:= @_root_.List.find?_cons
abbrev rV:= @_root_.PySem.fits_of_scanBound
abbrev lV:= @_root_.Array.forIn_toList
abbrev aR:= @_root_.PySem.Heap.get?_push_of_some
abbrev bK:= @_root_.PySem.Heap.get?_push_size
abbrev gG:= @_root_.PySem.Heap.get?_update_other
abbrev fH:= @_root_.PySem.Heap.get?_update_self
abbrev dI:= @_root_.Array.getD_eq_getD_getElem?
abbrev cO:= @_root_.List.getD_eq_getElem?_getD
abbrev fZ:= @_root_.List.getElem?_append_left
abbrev jt:= @_root_.List.getElem?_append_right
abbrev aZ:= @_root_.List.getElem?_eq_getElem
abbrev lW:= @_root_.Array.getElem?_eq_none
abbrev bF:= @_root_.List.getElem?_map
abbrev oM:= @_root_.List.getElem?_set_ne
abbrev lX:= @_root_.List.getElem?_set_self
abbrev d8:= @_root_.Array.getElem?_toList
abbrev cz:= @_root_.List.getElem_mem
abbrev iu:= @_root_.List.getElem_of_mem
abbrev bW:= @_root_.if_false
abbrev ai:= @_root_.if_neg
abbrev aj:= @_root_.if_pos
abbrev f5:= @_root_.if_true
abbrev fJ:= @_root_.PySem.W.kia_one
abbrev lZ:= @_root_.Nat.le_add_right
abbrev iU:= @_root_.Nat.le_of_lt
abbrev aF:= @_root_.Nat.le_refl
abbrev cP:= @_root_.Nat.le_trans
abbrev bR:= @_root_.List.length_append
abbrev eV:= @_root_.List.length_cons
abbrev fh:= @_root_.List.length_drop
abbrev bC:= @_root_.List.length_map
abbrev l5:= @_root_.List.length_range
abbrev iN:= @_root_.List.length_singleton
abbrev e_:= @_root_.List.length_take
abbrev bE:= @_root_.Array.length_toList
abbrev cZ:= @_root_.Nat.lt_irrefl
abbrev bO:= @_root_.Nat.lt_of_lt_of_le
abbrev fc:= @_root_.Nat.lt_or_ge
abbrev aM:= @_root_.PySem.Heap.lt_size
abbrev fD:= @_root_.Nat.lt_succ_of_lt
abbrev iO:= @_root_.Nat.lt_succ_self
abbrev gv:= @_root_.List.map_append
abbrev lE:= @_root_.List.map_congr_left
abbrev dD:= @_root_.List.map_cons
abbrev jU:= @_root_.Option.map_eq_some_iff
abbrev c5:= @_root_.List.map_map
abbrev aU:= @_root_.List.mem_append
abbrev jh:= @_root_.List.mem_append_left
abbrev ff:= @_root_.List.mem_append_right
abbrev aQ:= @_root_.List.mem_cons
abbrev bT:= @_root_.List.mem_cons_of_mem
abbrev b8:= @_root_.List.mem_cons_self
abbrev jV:= @_root_.List.mem_filterMap
abbrev bX:= @_root_.List.mem_map
abbrev n9:= @_root_.List.mem_map_of_mem
abbrev iP:= @_root_.List.mem_of_getElem?
abbrev dc:= @_root_.List.mem_of_mem_drop
abbrev c6:= @_root_.List.mem_of_mem_take
abbrev fU:= @_root_.List.mem_range
abbrev bh:= @_root_.List.mem_singleton
abbrev ji:= @_root_.Nat.min_eq_left
abbrev lF:= @_root_.Int.mul_assoc
abbrev jW:= @_root_.Int.mul_comm
abbrev g7:= @_root_.Int.mul_le_mul
abbrev jj:= @_root_.Int.mul_pos
abbrev g8:= @_root_.Nat.ne_of_gt
abbrev aV:= @_root_.Nat.ne_of_lt
abbrev g9:= @_root_.List.nil_append
abbrev lG:= @_root_.List.nodup_cons
abbrev fV:= @_root_.Nat.not_lt_zero
abbrev ez:= @_root_.List.not_mem_nil
abbrev rG:= @_root_.of_decide_eq_true
abbrev eB:= @_root_.or_false
abbrev cF:= @_root_.List.pairwise_append
abbrev lH:= @_root_.List.pairwise_cons
abbrev iQ:= @_root_.List.pairwise_iff_getElem
abbrev lI:= @_root_.List.pairwise_map
abbrev g_:= @_root_.List.perm_append_comm
abbrev jk:= @_root_.Array.perm_iff_toList_perm
abbrev eT:= @_root_.PySem.plainId_quiet
abbrev n_:= @_root_.PySem.F.plain_extend_loop
abbrev rH:= @_root_.PySem.F.plain_list_iadd
abbrev fW:= @_root_.Nat.pow_le_pow_right
abbrev jX:= @_root_.Nat.pow_succ
abbrev rJ:= @_root_.List.reverse_append
abbrev oi:= @_root_.PySem.sizeLine_eq
abbrev cJ:= @_root_.PySem.Heap.size_push
abbrev bV:= @_root_.List.size_toArray
abbrev oj:= @_root_.PySem.Heap.size_update
abbrev jY:= @_root_.Nat.succ_pos
abbrev dF:= @_root_.List.take_append_drop
abbrev gx:= @_root_.List.take_of_length_le
abbrev fX:= @_root_.List.take_sublist
abbrev eE:= @_root_.Array.toList_append
abbrev lJ:= @_root_.Array.toList_extract
abbrev lK:= @_root_.Array.toList_push
abbrev rK:= @_root_.Array.toList_reverse
abbrev lM:= @_root_.Int.toNat_natCast
abbrev jZ:= @_root_.PySem.typeLookup_type
abbrev j3:= @_root_.PySem.wpAny_Call_Name_kw
abbrev j4:= @_root_.PySem.wpAny_attempt
abbrev aa:= @_root_.PySem.wpAny_bind
abbrev j5:= @_root_.PySem.wpAny_callSpecial?_slot
abbrev gy:= @_root_.PySem.wpAny_call_entry
abbrev rL:= @_root_.PySem.wpAny_execs_nil
abbrev gz:= @_root_.PySem.wpAny_field
abbrev rM:= @_root_.PySem.wpAny_fieldsOf
abbrev oq:= @_root_.PySem.wpAny_forIn_list
abbrev dU:= @_root_.PySem.wpAny_holding
abbrev ou:= @_root_.PySem.wpAny_isInstance
abbrev rN:= @_root_.PySem.wpAny_loadPart'
abbrev h_:= @_root_.PySem.wpAny_mono
abbrev dH:= @_root_.PySem.wpAny_newObj_type
abbrev vG:= @_root_.PySem.wpAny_nextOf_list_item
abbrev ow:= @_root_.PySem.wpAny_of_eq
abbrev j6:= @_root_.PySem.wpAny_passesOwn
abbrev ak:= @_root_.PySem.wpAny_pure
abbrev rP:= @_root_.PySem.wpAny_pyIter_list
abbrev j7:= @_root_.PySem.wpAny_rule
abbrev gB:= @_root_.PySem.wpAny_seqItems
abbrev oz:= @_root_.PySem.wpAny_setEntries_of
abbrev lN:= @_root_.PySem.wpAny_setField
abbrev ic:= @_root_.PySem.wpAny_setState_of
abbrev oA:= @_root_.PySem.wpAny_specialOf
abbrev rQ:= @_root_.PySem.wpAny_standAt
abbrev ie:= @_root_.PySem.wpAny_truthy_bool
abbrev oB:= @_root_.PySem.wpAny_tryCatch
abbrev iR:= @_root_.PySem.wpAny_typeOf
abbrev jl:= @_root_.PySem.wpAny_updateSeq
abbrev ay:= @_root_.PyProof.Rows.wpS_bind
abbrev eF:= @_root_.PyProof.Rows.wpS_forRange
abbrev ig:= @_root_.PyProof.Rows.wpS_get
abbrev fE:= @_root_.PyProof.Rows.wpS_modify
abbrev aB:= @_root_.PyProof.Rows.wpS_pure
abbrev b9:= @_root_.Nat.zero_le
section
open PySem
abbrev av:=Str->Option Value
abbrev aA:=Value->Shared->Prop
abbrev aO:=List (Addr×Obj)
end
section
open PySem PySem.Spec PyProof.Rows
namespace L2
abbrev Key:=Sum Int Str
def jH:Key->Value->Bool
 |.inl k,v=>Value.isInt k v
 |.inr x,v=>Value.isStrOf x v
def Hi(w:World):Key->Int
 |.inl k=>hashInt k
 |.inr x=>hashStr w x
theorem gZ:∀{k:Key} {v:Value},jH k v=true->(∃i t,k=Sum.inl i/\v=Value.int i t)\/(∃x t,k=Sum.inr x/\v=Value.str x t)
 |.inl i,v,h=>by
  obtain⟨t,e⟩:=Value.isInt_shape (k:=i) (v:=v) h;exact .inl ⟨i,t,rfl,e⟩
 |.inr x,v,h=>by
  obtain⟨t,e⟩:=Value.isStrOf_shape (x:=x) (v:=v) h;exact .inr ⟨x,t,rfl,e⟩
theorem Hj(i:Int)(t:Tok):jH (.inl i) (.int i t)=true:=by simp[jH,Value.isInt]
theorem Hl(x:Str)(t:Tok):jH (.inr x) (.str x t)=true:=by simp[jH,Value.isStrOf]
theorem Ho(a b:Int):decide ((Sum.inl a:Key)=Sum.inl b)=(a==b):=by
 by_cases e:a=b
 .subst e;simp
 .have h:¬(Sum.inl a:Key)=Sum.inl b:=λq=>e (Sum.inl.inj q)
  rw[dW h];exact(beq_eq_false_iff_ne.mpr e).symm
theorem Ht(a b:Str):decide ((Sum.inr a:Key)=Sum.inr b)=decide (a=b):=by
 by_cases e:a=b
 .subst e;simp
 .have h:¬(Sum.inr a:Key)=Sum.inr b:=λq=>e (Sum.inr.inj q)
  rw[dW h,dW e]
theorem Hq(a:Int)(b:Str):decide ((Sum.inl a:Key)=Sum.inr b)=false:=dW (λq=>nomatch q)
theorem Hs(a:Str)(b:Int):decide ((Sum.inr a:Key)=Sum.inl b)=false:=dW (λq=>nomatch q)
def c8(prog:Program)(w:World):PySem.KeyKind prog w Key where
 is:=jH
 hash:=Hi w
 inj:=λv a b ha hb=>by
  rcases gZ ha with⟨i,t,rfl,rfl⟩|⟨x,t,rfl,rfl⟩
  .rcases gZ hb with⟨j,u,rfl,e⟩|⟨y,u,rfl,e⟩
   .injection e with e1 _;rw[e1]
   .exact nomatch e
  .rcases gZ hb with⟨j,u,rfl,e⟩|⟨y,u,rfl,e⟩
   .exact nomatch e
   .injection e with e1 _;rw[e1]
 byValue:=λk v h=>by
  rcases gZ h with⟨i,t,rfl,rfl⟩|⟨x,t,rfl,rfl⟩<;>rfl
 pyHash:=λhv h=>by
  rcases gZ hv with⟨i,t,rfl,rfl⟩|⟨x,t,rfl,rfl⟩
  .exact wpAny_pyHash_int h
  .exact wpAny_pyHash_str h
 eqBool:=λhu hv h=>by
  rcases gZ hu with⟨i,t,rfl,rfl⟩|⟨x,t,rfl,rfl⟩
  .rcases gZ hv with⟨j,u,rfl,rfl⟩|⟨y,u,rfl,rfl⟩
   .rw[Ho] at h;exact wpAny_eqBool_int h
   .rw[Hq] at h;exact SeqAt.EqAt.int_str i t y u _ _ _ _ h
  .rcases gZ hv with⟨j,u,rfl,rfl⟩|⟨y,u,rfl,rfl⟩
   .rw[Hs] at h;exact SeqAt.EqAt.str_int x t j u _ _ _ _ h
   .rw[Ht] at h;exact wpAny_eqBool_str h
 «strs»:=λk x t v h=>by
  rcases gZ h with⟨i,u,rfl,e⟩|⟨y,u,rfl,e⟩
  .exact nomatch e
  .injection e with e1 _
   subst e1
   cases v<;>rfl
theorem Ih(prog:Program)(w:World)(i:Int)(t:Tok):(c8 prog w).is (.inl i) (.int i t)=true:=Hj i t
theorem Ii(prog:Program)(w:World)(x:Str)(t:Tok):(c8 prog w).is (.inr x) (.str x t)=true:=Hl x t
inductive V where
 |aD|bl (b:Bool)|int (i:Int)|str (x:Str)|gf (b:Array UInt8)|kN (b:UInt64)|ref (a:Addr)|ty (n:String)
 deriving DecidableEq
def RelV:V->Value->Prop
 |.aD,u=>u=Value.none
 |.bl b,u=>u=Value.bool b
 |.int i,u=>∃t,u=Value.int i t
 |.str x,u=>∃t,u=Value.str x t
 |.gf b,u=>∃t,u=Value.bytes b t
 |.kN b,u=>∃t,u=Value.float b t
 |.ref a,u=>u=Value.ref a
 |.ty n,u=>u=Value.type n
abbrev Vals:List V->List Value->Prop:=Paired RelV
theorem Vals.length{xs:List V}{a:List Value}(r:Vals xs a):xs.length=a.length:=Paired.length r
theorem Vals.get:∀{xs:List V} {a:List Value} {i:Nat} {x:V},Vals xs a->xs[i]?=some x->∃u,a[i]?=some u/\RelV x u
 |_,_,_,_,.nil,e=>by simp at e
 |_,_,0,_,.cons r _,e=>by simp at e;subst e;exact⟨_,rfl,r⟩
 |_,_,i+1,x,.cons _ t,e=>by
  obtain⟨u,h1,h2⟩:=Vals.get (i:=i) (x:=x) t (by simpa using e);exact⟨u,by simpa using h1,h2⟩
theorem Vals.append:∀{xs ys:List V} {a ws:List Value},Vals xs a->Vals ys ws->Vals (xs++ys) (a++ws)
 |_,_,_,_,.nil,s=>s
 |_,_,_,_,.cons r t,s=>.cons r (Vals.append t s)
theorem Vals.take:∀{xs:List V} {a:List Value} (n:Nat),Vals xs a->Vals (xs.take n) (a.take n)
 |_,_,0,_=>.nil
 |_,_,_+1,.nil=>.nil
 |_,_,n+1,.cons r t=>.cons r (Vals.take n t)
theorem Vals.drop:∀{xs:List V} {a:List Value} (n:Nat),Vals xs a->Vals (xs.drop n) (a.drop n)
 |_,_,0,r=>r
 |_,_,_+1,.nil=>.nil
 |_,_,n+1,.cons _ t=>Vals.drop n t
def f9:Option V->Option Value->Prop
 |some v,some u=>RelV v u
 |none,none=>True
 |_,_=>False
def KV{κ:Type}:List (κ×V)->List (κ×Value)->Prop:=Paired λ(p:κ×V) (q:κ×Value)=>p.1=q.1/\RelV p.2 q.2
def kV:Key->V
 |.inl i=>.int i
 |.inr x=>.str x
def jz(h:Heap)(a:Addr)(items:Array Value):Prop:=∃n,h.get? a=some {cls:=.type "tuple",data:=.seq items n}
theorem jz.is{h:Heap}{a:Addr}{items:Array Value}(x:jz h a items):IsTup h a items:=let ⟨n,e⟩:=x;⟨_,e,rfl,n,rfl⟩
theorem jz.new(h:Heap)(items:Array Value):jz (h.push {cls:=.type "tuple",data:=.seq items}) h.objs.size items:=⟨0,bK _ rfl⟩
inductive HO where
 |lst (xs:List V)
 |tup (xs:List V)
 |dK (kvs:List (Key×V))|dT (kvs:List (List Key×V))
 |set (S:Int->Bool) (n:Nat)
 |ins (C dx:Addr) (fs:List (Str×V))
 |own (x:Addr)
 |xd (fs:List (Str×V))
 |met (f x:Addr)
 |qT (lo hi:Int)
 |cj (o:Obj) (u:HO)
 |fT (ps:Array Value)
 |ext (φ:Heap->Prop)
abbrev Hp:=Addr->Option HO
def upd(H:Hp)(a:Addr)(o:HO):Hp:=λb=>if b=a then some o else H b
theorem gu{H:Hp}{a:Addr}{o:HO}:upd H a o a=some o:=by unfold upd;rw[aj rfl]
theorem bz{H:Hp}{a b:Addr}{o:HO}(h:b≠a):upd H a o b=H b:=by unfold upd;rw[ai h]
theorem Iq{H:Hp}{a b:Addr}{o u:HO}(h:H a=some o)(h':H b=some u)(d:o≠u):a≠b:=by
 intro e;subst e;rw[h] at h';exact d (Option.some.inj h')
theorem dP{H:Hp}{a b:Addr}{o:HO}(h:H a=some o)(h':H b=none):a≠b:=by
 intro e;subst e;rw[h] at h';cases h'
section
variable(P:Program)(w:World)
def bG(H:Hp)(h:Heap)(a:Addr):HO->Prop
 | .lst xs=>xs.length<=sizeLine/\∃(its:List Value) (n:Nat),Vals xs its/\h.get? a=some {cls:= .type "list",data:= .seq its.toArray n}
 | .tup xs=>xs.length<=sizeLine/\∃its:List Value,Vals xs its/\jz h a its.toArray
 | .dK kvs=>kvs.length<=sizeLine/\(a==sysModules)=false/\∃vs,KV kvs vs/\h.DictOf (c8 P w) a vs
 | .dT kvs=>kvs.length<=sizeLine/\(a==sysModules)=false/\∃xs:List (List Key×Addr×Value),
  Paired (λ(p:List Key×V) (q:List Key×Addr×Value)=>p.1=q.1/\H q.2.1=some (.tup (p.1.map kV))/\RelV p.2 q.2.2) kvs xs/\
  ∃o es ep,h.get? a=some o/\o.ExactDict/\o.data= .dict es ep/\es.toList=xs.map (entryOfKey (tupleKind (c8 P w)))/\(xs.map (·.1)).Nodup
 | .set S n=>h.SetOf (intKind P w) a S n
 | .ins C dx fs=>H dx=some (.own a)/\fs.length<=1000/\dx≠a/\h.get? a=some (instObj C dx)/\
  ∃mA,h.Ns1 dx mA/\(∀f,f9 (fs.lookup f) (mA f))/\PySem.Within mA (fs.map (·.1))
 | .own _=>∃o,h.get? a=some o
 | .xd fs=>∃mA,h.Ns1 a mA/\∀f,f9 (fs.lookup f) (mA f)
 | .qT lo hi=>∃t u v,h.get? a=some {cls:= .type "range",data:= .fields #[.int lo t,.int hi u,.int 1 v]}
 | .cj o u=>h.get? a=some o/\bG H h a u
 | .fT ps=>h.get? a=some {cls:= .none,data:= .fields ps}
 | .met f x=>h.get? a=some (methodObj (.ref f) (.ref x))
 | .ext φ=>φ h/\(∃o,h.get? a=some o)/\∀h1 h2:Heap,φ h1->(∀o,h1.get? a=some o->h2.get? a=some o)->φ h2
def bM(H:Hp)(h:Heap):Prop:=∀a o,H a=some o->bG P w H h a o
end
section
variable{P:Program}{w:World}{H H':Hp}{h h':Heap}{a:Addr}{o:HO}
theorem bG.lt(x:bG P w H h a o):a<h.objs.size:=by
 cases o with
 |lst xs=>obtain⟨_,_,_,_,e⟩:=x;exact aM e
 |tup xs=>obtain⟨_,_,_,p⟩:=x;exact p.is.lt
 |dK kvs=>obtain⟨_,_,_,_,o,_,_,e,_⟩:=x;exact aM e
 |dT kvs=>obtain⟨_,_,_,_,o,_,_,e,_⟩:=x;exact aM e
 |set S n=>obtain⟨o,_,_,_,e,_⟩:=x;exact aM e
 |ins C dx fs=>obtain⟨_,_,_,e,_⟩:=x;exact aM e
 |own y=>obtain⟨_,e⟩:=x;exact aM e
 |xd fs=>obtain⟨_,⟨_,_,_,e,_⟩,_⟩:=x;exact aM e
 |qT lo hi=>obtain⟨_,_,_,e⟩:=x;exact aM e
 |cj b u=>obtain⟨e,_⟩:=x;exact aM e
 |fT ps=>exact aM (show h.get? a=some _ from x)
 |met f y=>exact aM (show h.get? a=some _ from x)
 |ext c=>obtain⟨_,⟨_,e⟩,_⟩:=x;exact aM e
theorem Paired.uv{α β:Type}{F G:α->β->Prop}:∀{c:List α} {d:List β},Paired F c d->(∀a b,F a b->G a b)->Paired G c d
 |_,_,.nil,_=>.nil
 |_,_,.cons r t,f=>.cons (f _ _ r) (Paired.uv t f)
theorem bG.stay(x:bG P w H h a o)(k:∀b u,(b=a\/H b=some (.own a))->h.get? b=some u->h'.get? b=some u)
  (l:∀b,H b=some (.own a)->H' b=some (.own a))(m:∀b xs,H b=some (.tup xs)->H' b=some (.tup xs)):bG P w H' h' a o:=by
 induction o with
 |lst xs=>obtain⟨z,its,n,r,e⟩:=x;exact⟨z,its,n,r,k _ _ (.inl rfl) e⟩
 |tup xs=>obtain⟨z,its,r,n,e⟩:=x;exact⟨z,its,r,n,k _ _ (.inl rfl) e⟩
 |dK kvs=>obtain⟨z,y,vs,r,g,es,ep,e,c⟩:=x;exact⟨z,y,vs,r,g,es,ep,k _ _ (.inl rfl) e,c⟩
 |dT kvs=>
  obtain⟨z,y,xs,r,g,es,ep,e,c⟩:=x;exact⟨z,y,xs,Paired.uv r λp q z=>⟨z.1,m _ _ z.2.1,z.2.2⟩,g,es,ep,k _ _ (.inl rfl) e,c⟩
 |set S n=>obtain⟨g,es,ep,t,e,c⟩:=x;exact⟨g,es,ep,t,k _ _ (.inl rfl) e,c⟩
 |ins C dx fs=>
  obtain⟨d,z,ne,e,i,⟨j,es,ep,s,c⟩,r⟩:=x;exact⟨l _ d,z,ne,k _ _ (.inl rfl) e,i,⟨j,es,ep,k _ _ (.inr d) s,c⟩,r⟩
 |own y=>obtain⟨g,e⟩:=x;exact⟨g,k _ _ (.inl rfl) e⟩
 |xd fs=>obtain⟨i,⟨j,es,ep,e,c⟩,r⟩:=x;exact⟨i,⟨j,es,ep,k _ _ (.inl rfl) e,c⟩,r⟩
 |qT lo hi=>obtain⟨t,u,v,e⟩:=x;exact⟨t,u,v,k _ _ (.inl rfl) e⟩
 |cj g u A=>obtain⟨e,q⟩:=x;exact⟨k _ _ (.inl rfl) e,A q⟩
 |fT ps=>
  have e:h.get? a=some {cls:=.none,data:=.fields ps}:=x;show h'.get? a=some {cls:=.none,data:=.fields ps};exact k a _ (.inl rfl) e
 |met f y=>
  have e:h.get? a=some (methodObj (.ref f) (.ref y)):=x;show h'.get? a=some (methodObj (.ref f) (.ref y));exact k a _ (.inl rfl) e
 |ext B=>obtain⟨p,⟨o,e⟩,st⟩:=x;exact⟨st _ _ p λo q=>k _ _ (.inl rfl) q,⟨o,k _ _ (.inl rfl) e⟩,st⟩
theorem bM.lt(x:bM P w H h)(e:H a=some o):a<h.objs.size:=(x a o e).lt
theorem bM.fresh(x:bM P w H h)(e:h.objs.size<=a):H a=none:=by
 cases q:H a with
 |none=>rfl
 |some u=>exact absurd (bO (x.lt q) e) (cZ _)
theorem bM.kept(x:bM P w H h)(k:∀b u,h.get? b=some u->h'.get? b=some u):bM P w H h':=λa o e=>
 (x a o e).stay (λb u _ q=>k b u q) (λ_ q=>q) λ_ _ q=>q
theorem bM.laid(x:bM P w H h)(k:∀b u,h.get? b=some u->h'.get? b=some u)(f:h.objs.size<=a)(new:bG P w (upd H a o) h' a o):bM P w (upd H a o) h':=λb u e=>by
 have hn:=x.fresh f;by_cases d:b=a
 .subst d;rw[gu] at e;cases e;exact new
 .rw[bz d] at e
  exact(x b u e).stay (λc v _ q=>k c v q) (λc q=>by rw[bz (dP q hn)];exact q) λc xs q=>by rw[bz (dP q hn)];exact q
end
def Rd(H:Hp)(a:Addr)(u:HO):Prop:=H a=some u\/∃o,H a=some (.cj o u)
theorem Rd.ok{P:Program}{w:World}{H:Hp}{h:Heap}{a:Addr}{u:HO}(r:Rd H a u)(x:bM P w H h):bG P w H h a u:=by
 rcases r with r|⟨o,r⟩
 .exact x a u r
 .obtain⟨_,q⟩:=x a _ r
  exact q
def mz:Option HO->Prop
 |some (.lst _)=>True
 |some (.dK _)=>True
 |some (.dT _)=>True
 |some (.set _ _)=>True
 |some (.ins _ _ _)=>True
 |some (.ext _)=>True
 |_=>False
section
variable{P:Program}{w:World}{H:Hp}{h h':Heap}{x e:Addr}{o':HO}
theorem bM.write(ok:bM P w H h)(g:mz (H x))(l:e=x\/H e=some (.own x))(k:∀b u,b≠e->h.get? b=some u->h'.get? b=some u)(j:∃u,h'.get? e=some u)
  (new:bG P w (upd H x o') h' x o'):bM P w (upd H x o') h':=λb u q=>by
 have d:∀c y,H c=some (.own y)->c≠x:=λc y r z=>by subst z;rw[r] at g;exact g
 have f:∀c xs,H c=some (.tup xs)->c≠x:=λc xs r z=>by subst z;rw[r] at g;exact g
 by_cases i:b=x
 .subst i;rw[gu] at q;cases q;exact new
 .rw[bz i] at q
  by_cases a:b=e
  .have m:H b=some (.own x):=by
    rcases l with z|z
    .exact absurd (a.trans z) i
    .rw[a];exact z
   rw[q] at m;cases m;obtain⟨v,n⟩:=j;exact⟨v,by rw[a];exact n⟩
  .refine(ok b u q).stay (λc v hc r=>k c v ?_ r) (λc r=>by rw[bz (d c b r)];exact r) λc xs r=>by rw[bz (f c xs r)];exact r
   rcases hc with rfl|hc
   .exact a
   .rintro rfl
    rcases l with z|z
    .exact d c b hc z
    .rw[hc] at z;cases z;exact i rfl
end
structure Un(fs ex:List Addr)(H H':Hp)(h h':Heap):Prop where
 keep:∀b o,h.get? b=some o->H b=none->b∉fs->b∉ex->h'.get? b=some o
 slot:∀b o,h.get? b=some o->H b=none->b∈fs->b∉ex->∃sl,h'.get? b=some {o with slots:=sl}
 free:∀b o,h.get? b=some o->H b=none->b∉ex->H' b=none
 there:∀b o,h.get? b=some o->b∉ex->∃o',h'.get? b=some o'
 tups:∀b xs,H b=some (.tup xs)->H' b=some (.tup xs)
 e8:∀b o u,H b=some (.cj o u)->H' b=some (.cj o u)
 fC:∀b ps,H b=some (.fT ps)->∃more,H' b=some (.fT (ps++more))
section
variable{fs fs' ex ex':List Addr}{H H1 H2:Hp}{h h1 h2 h':Heap}{a x e:Addr}{o:HO}
theorem Un.any(u:Un fs ex H H1 h h1){b:Addr}{a:Obj}(q:h.get? b=some a)(n:H b=none)(c:b∉ex):∃e,h1.get? b=some {a with slots:=e}:=by
 by_cases d:b∈fs
 .exact u.slot b a q n d c
 .exact⟨a.slots,u.keep b a q n d c⟩
theorem Un.kept(k:∀b u,h.get? b=some u->h'.get? b=some u):Un fs ex H H h h':=
 ⟨λb a q _ _ _=>k b a q,λb a q _ _ _=>⟨a.slots,k b a q⟩,λ_ _ _ n _=>n,λb a q _=>⟨a,k b a q⟩,λ_ _ q=>q,λ_ _ _ q=>q,λ_ ps q=>⟨#[],by rw[q];simp⟩⟩
theorem Un.refl:Un fs ex H H h h:=Un.kept λ_ _ q=>q
theorem Un.laid(k:∀b u,h.get? b=some u->h'.get? b=some u)(c:h.objs.size<=a)(hn:H a=none):Un fs ex H (upd H a o) h h' where
 keep:=λb u q _ _ _=>k b u q
 slot:=λb u q _ _ _=>⟨u.slots,k b u q⟩
 free:=λb u q n _=>by rw[bz (aV (bO (aM q) c))];exact n
 there:=λb u q _=>⟨u,k b u q⟩
 tups:=λb xs q=>by rw[bz (dP q hn)];exact q
 e8:=λb u xs q=>by rw[bz (dP q hn)];exact q
 fC:=λb ps q=>⟨#[],by rw[bz (dP q hn),q];simp⟩
theorem Un.write(c:mz (H x))(j:e=x\/H e=some (.own x))(k:∀b u,b≠e->h.get? b=some u->h'.get? b=some u)(d:∃u,h'.get? e=some u):Un fs ex H (upd H x o) h h':=by
 have g:∀b,H b=none->b≠x:=λb n z=>by subst z;rw[n] at c;exact c
 have i:∀b,H b=none->b≠e:=λb n z=>by
  subst z;rcases j with r|r
  .exact g b n r
  .rw[n] at r;cases r
 have f:∀b u,H b=some u->¬mz (some u)->b≠x:=λb u q nm z=>by subst z;rw[q] at c;exact nm c
 refine⟨λb u q n _ _=>k b u (i b n) q,λb u q n _ _=>⟨u.slots,k b u (i b n) q⟩,λb u q n _=>by rw[bz (g b n)];exact n,λb u q _=>?_,
  λb xs q=>by rw[bz (f b _ q λz=>z)];exact q,λb u xs q=>by rw[bz (f b _ q λz=>z)];exact q,λb ps q=>⟨#[],by rw[bz (f b _ q λz=>z),q];simp⟩⟩
 by_cases a:b=e
 .subst a;exact d
 .exact⟨u,k b u a q⟩
end
def ri(h:Heap)(H:Hp):List Addr:=(range h.objs.size).filter λa=>(H a).isSome
def iD(h:Heap)(H:Hp):Heap:=hideAll h (ri h H)
theorem Gz(h:Heap)(H:Hp):(iD h H).objs.size=h.objs.size:=PySem.W.hideAll_size _ _
theorem Gy{h:Heap}{H:Hp}{b:Addr}{o:Obj}(e:h.get? b=some o)(n:H b=none):(iD h H).get? b=some o:=
 hideAll_get _ e λa=>by
  have q:(H b).isSome=true:=(mem_filter.mp a).2;rw[n] at q;simp at q
theorem IU{h:Heap}{H:Hp}{b:Addr}{o:Obj}(e:(iD h H).get? b=some o):h.get? b=some o/\H b=none:=by
 have a:h.get? b=some o:=of_hideAll (ri h H) e;refine⟨a,?_⟩;cases q:H b with
 |none=>rfl
 |some x=>
  have c:b∈ri h H:=mem_filter.mpr ⟨fU.mpr (aM a),by simp[q]⟩;have z:(iD h H).get? b=none:=PySem.W.hideAll_none (ri h H) c;rw[z] at e;cases e
structure Mod(K:Frag)(mg:av)(base:Heap):Prop where
 p8:K.In base
 glob:base.Ns mainGlobals mg
 blt:∃mb,base.Ns builtinsNs mb/\∀x:Str,x≠"__name__"->mb x=bootBuiltins x
 nolimit:base.NoLimit
structure Cx where
 prog:Program
 w:World
 K:Frag
 mg:av
 base:Heap
 A:Around
 N:List Str
 s₀:Shared
 H₀:Hp
 env:Env
 outer:List Env
 stack:List Env
 ex:List Addr
 fn:Str->Bool
 calm:Bool
 pn:aO
 xe:aA
def frs(l:List Env):List Addr:=l.filterMap (·.frame)
abbrev Cx.fs(X:Cx):List Addr:=frs X.outer
def mE(sc:Scope)(x:Str):Prop:=sc.names.lookup x=some .local\/sc.names.lookup x=some .cell\/sc.names.lookup x=some .free
def Loc(sc:Scope)(x:Str):Prop:=sc.names.lookup x=some .local\/sc.names.lookup x=some .cell
def Look(env:Env)(h:Heap)(m:av)(x:Str)(u:Value):Prop:=
 (env.kindOf x=some .local/\m x=some u)\/((env.kindOf x=some .cell\/env.kindOf x=some .free)/\∃c,env.cells.lookup x=some c/\h.IsCell c (some u))
structure Cx.Ok(X:Cx):Prop where
 mod:Mod X.K X.mg X.base
 kind:X.env.scope.kind= .function
 glob:X.env.globals=mainGlobals
 blt:X.env.builtins=builtinsNs
 above:X.s₀.heap.objs.size<=X.env.locals
 inj:∀x y c,X.env.cells.lookup x=some c->X.env.cells.lookup y=some c->x=y
 has:∀x,(X.env.kindOf x=some .cell\/X.env.kindOf x=some .free)->∃c,X.env.cells.lookup x=some c
 o8:∀x c,X.fn x=true->X.env.cells.lookup x=some c->X.s₀.heap.objs.size<=c
 hd:X.calm=true->X.A.handled=none
 frames:X.A.frames=some X.stack
 stk:X.stack=X.outer\/(X.stack=X.env::X.outer/\X.env.frame=some X.env.locals)
 Fo:∀b∈X.ex,b≠X.env.locals/\∀x c,X.env.cells.lookup x=some c->c≠b
 bs:∀b o,X.base.get? b=some o->X.s₀.heap.get? b=some o/\X.H₀ b=none
 jA:X.base.objs.size<=X.s₀.heap.objs.size
 qm:∀b o,X.base.get? b=some o->b∉X.ex
 tF:∀b∈X.ex,b∉X.fs
 gW:X.s₀.heap.FunFrames X.base X.outer
 kO:∀b∈X.fs,X.H₀ b=none
structure Inv(X:Cx)(pins:aO)(σ:List (Option V))(H:Hp)(s:Shared):Prop where
 ok:X.Ok
 os:s.os=X.s₀.os
 bare:AllBare s.gens
 base:Un X.fs X.ex X.H₀ H X.s₀.heap s.heap
 loc:∃m,s.heap.Ns X.env.locals m/\∀(i:Nat) (x:Str) (v:V),X.N[i]? =some x->σ[i]? =some (some v)->mE X.env.scope x->∃u,RelV v u/\Look X.env s.heap m x u
 cell:∀x c,X.env.cells.lookup x=some c->∃v,s.heap.IsCell c v
 free:H X.env.locals=none
 iC:∀x c,X.env.cells.lookup x=some c->H c=none
 pin:∀p∈X.pn++pins,s.heap.get? p.1=some p.2/\H p.1=none/\p.1≠X.env.locals/\p.1∉X.fs/\∀v,p.2.data≠ .cell v
 hok:bM X.prog X.w H s.heap
 len:σ.length=X.N.length
section
variable{X:Cx}{pins:aO}{σ:List (Option V)}{H H':Hp}{s:Shared}{h':Heap}
theorem Cx.Ok.jP(ok:X.Ok){b:Addr}{o:Obj}(e:X.base.get? b=some o):b∉X.fs:=λa=>by
 have:=(ok.gW.mem a).1;rw[e] at this;cases this
theorem Inv.bs(I:Inv X pins σ H s):∀b o,X.base.get? b=some o->s.heap.get? b=some o/\H b=none:=λb o e=>
 ⟨I.base.keep b o (I.ok.bs b o e).1 (I.ok.bs b o e).2 (I.ok.jP e) (I.ok.qm b o e),I.base.free b o (I.ok.bs b o e).1 (I.ok.bs b o e).2 (I.ok.qm b o e)⟩
theorem Inv.bk(I:Inv X pins σ H s):∀b o,X.base.get? b=some o->s.heap.get? b=some o:=λb o e=>(I.bs b o e).1
theorem Inv.mod(I:Inv X pins σ H s):Mod X.K X.mg X.base:=I.ok.mod
theorem Inv.dw(I:Inv X pins σ H s):X.K.In s.heap:=I.ok.mod.p8.keeps I.bk
theorem Inv.lt(I:Inv X pins σ H s):X.env.locals<s.heap.objs.size:=let ⟨_,hn,_⟩:=I.loc;hn.lt
theorem Inv.sz(I:Inv X pins σ H s):X.s₀.heap.objs.size<=s.heap.objs.size:=cP I.ok.above (iU I.lt)
theorem Inv.IF(I:Inv X pins σ H s){a:Addr}(h:s.heap.objs.size<=a):a∉X.fs:=λb=>by
 obtain⟨_,o,c,_⟩:=I.ok.gW.mem b;exact absurd (bO (aM c) (cP I.sz h)) (cZ _)
theorem Inv.jB(I:Inv X pins σ H s):∀x c,X.env.cells.lookup x=some c->c≠X.env.locals:=λx c e z=>by
 obtain⟨v,o,d,hd⟩:=I.cell x c e;obtain⟨m,⟨o',es,ep,a,b,_⟩,_⟩:=I.loc;rw[z,a] at d;cases d;rw[b] at hd;cases hd
theorem Inv.gW(I:Inv X pins σ H s):s.heap.FunFrames X.base X.outer:=by
 have all:∀(l:List Env),(∀b∈frs l,b∈X.fs)->X.s₀.heap.FunFrames X.base l->s.heap.FunFrames X.base l:=by
  intro l;induction l with
  |nil=>intro _ _;trivial
  |cons env r f=>
   intro hs g;obtain⟨hk,⟨L,o,a,hn,h,hd⟩,i⟩:=g;have c:L∈X.fs:=hs L (by unfold frs;rw[rU,a];exact b8);obtain⟨j,e⟩:=I.base.slot L o h (I.ok.kO L c) c λz=>I.ok.tF L z c;exact⟨hk,⟨L,_,a,hn,e,hd⟩,f (λb d=>hs b (by unfold frs;rw[rU,a];exact bT _ d)) i⟩
 exact all X.outer (λ_ d=>d) I.ok.gW
theorem Inv.stack(I:Inv X pins σ H s):s.heap.FunFrames X.base X.stack:=by
 rcases I.ok.stk with e|⟨e,a⟩
 .rw[e];exact I.gW
 .rw[e]
  obtain⟨m,hn,_⟩:=I.loc;refine .cons (by rw[I.ok.kind];decide) a hn ?_ I.gW;exact Heap.get?_none_of_le (cP I.ok.jA I.ok.above)
theorem Inv.lz(I:Inv X pins σ H s):∀b∈frs X.stack,b∈X.env.locals::X.fs:=λb a=>by
 rcases I.ok.stk with e|⟨e,c⟩
 .rw[e] at a;exact bT _ a
 .rw[e] at a
  unfold frs at a;rw[rU,c] at a;exact a
theorem Inv.ve(I:Inv X pins σ H s):∀b∈frs X.stack,H b=none:=λb hb=>by
 rcases aQ.mp (I.lz b hb) with e|hb
 .rw[e];exact I.free
 .obtain⟨_,o,a,_⟩:=I.ok.gW.mem hb
  exact I.base.free b o a (I.ok.kO b hb) λz=>I.ok.tF b z hb
theorem Inv.step{g':Array GenState}{t':Nat}{d':Drawn}{ch:List Addr}(I:Inv X pins σ H s)
  (f:∀b∈ch,(b∈X.ex\/X.s₀.heap.objs.size<=b)/\b≠X.env.locals/\(∀x c,X.env.cells.lookup x=some c->c≠b)/\∀p∈X.pn++pins,p.1≠b)
  (keep:∀b o,b≠X.env.locals->b∉X.fs->b∉ch->s.heap.get? b=some o->H b=none->h'.get? b=some o)
  (slot:∀b o,b≠X.env.locals->b∈X.fs->b∉ch->s.heap.get? b=some o->H b=none->∃C,h'.get? b=some {o with slots:=C})(free:∀b o,b∉ch->s.heap.get? b=some o->H b=none->H' b=none)
  (there:∀b o,b∉ch->s.heap.get? b=some o->∃o',h'.get? b=some o')
  (tups:∀b xs,H b=some (.tup xs)->H' b=some (.tup xs))(e8:∀b o u,H b=some (.cj o u)->H' b=some (.cj o u))(fC:∀b ps,H b=some (.fT ps)->∃more,H' b=some (.fT (ps++more)))
  (ns:∀m,s.heap.Ns X.env.locals m->h'.Ns X.env.locals m)(hok:bM X.prog X.w H' h')(G:AllBare g'):
  Inv X pins σ H' {s with heap:=h',gens:=g',drawn:=d',toks:=t'}:=by
 have A:∀b o,X.s₀.heap.get? b=some o->b≠X.env.locals:=λb o e=>aV (bO (aM e) I.ok.above)
 have h:∀b o,X.s₀.heap.get? b=some o->b∉X.ex->b∉ch:=λb o e a t=>by
  rcases (f b t).1 with z|z
  .exact a z
  .exact absurd (bO (aM e) z) (cZ _)
 have cellK:∀x c,X.env.cells.lookup x=some c->∀v,s.heap.IsCell c v->h'.IsCell c v:=λx c e v ⟨o,y,hd⟩=>by
  have g:c∉ch:=λz=>(f c z).2.2.1 x c e rfl
  by_cases hc:c∈X.fs
  .obtain⟨C,q⟩:=slot c o (I.jB x c e) hc g y (I.iC x c e)
   exact⟨_,q,hd⟩
  .exact⟨o,keep c o (I.jB x c e) hc g y (I.iC x c e),hd⟩
 refine⟨I.ok,I.os,G,⟨λb o e n t a=> ?_,λb o e n t a=> ?_,λb o e n a=> ?_,λb o e a=> ?_,λb xs e=>tups b xs (I.base.tups b xs e),λb o xs e=>e8 b o xs (I.base.e8 b o xs e),λb ps e=> ?_⟩,?_,λx c e=> ?_,?_,λx c e=> ?_,λp E=> ?_,hok,I.len⟩
 .exact keep b o (A b o e) t (h b o e a) (I.base.keep b o e n t a) (I.base.free b o e n a)
 .obtain⟨C,j⟩:=I.base.slot b o e n t a
  obtain⟨D,B⟩:=slot b _ (A b o e) t (h b o e a) j (I.base.free b o e n a)
  exact⟨D,B⟩
 .obtain⟨o',j⟩:=I.base.there b o e a
  exact free b o' (h b o e a) j (I.base.free b o e n a)
 .obtain⟨o',j⟩:=I.base.there b o e a
  exact there b o' (h b o e a) j
 .obtain⟨J,j⟩:=I.base.fC b ps e
  obtain⟨K,B⟩:=fC b _ j
  exact⟨J++K,by rw[B,Array.append_assoc]⟩
 .obtain⟨m,hn,L⟩:=I.loc
  refine⟨m,ns m hn,λi x v j B M=> ?_⟩
  obtain⟨u,r,l⟩:=L i x v j B M
  refine⟨u,r,?_⟩
  rcases l with l|⟨k,c,e,z⟩
  .exact .inl l
  .exact .inr ⟨k,c,e,cellK x c e _ z⟩
 .obtain⟨v,z⟩:=I.cell x c e
  exact⟨v,cellK x c e v z⟩
 .obtain⟨m,⟨o,_,_,y,_⟩,_⟩:=I.loc
  exact free _ o (λz=>(f _ z).2.1 rfl) y I.free
 .obtain⟨v,o,y,hd⟩:=I.cell x c e
  exact free c o (λz=>(f c z).2.2.1 x c e rfl) y (I.iC x c e)
 .obtain⟨e,n,ne,F,d⟩:=I.pin p E
  have g:p.1∉ch:=λz=>(f p.1 z).2.2.2 p E rfl
  exact⟨keep p.1 p.2 ne F g e n,free p.1 p.2 g e n,ne,F,d⟩
theorem Inv.un{t':Nat}(I:Inv X pins σ H s)(u:Un X.fs [] H H' s.heap h')(hok:bM X.prog X.w H' h'):Inv X pins σ H' {s with heap:=h',toks:=t'}:=by
 obtain⟨m,⟨o,es,ep,g,r⟩,_⟩:=id I.loc;obtain⟨j,h⟩:=u.any g I.free (by simp);exact I.step (g':=s.gens) (d':=s.drawn) (ch:=[]) (λ_ z=>nomatch z) (λb o _ c _ e n=>u.keep b o e n c (by simp)) (λb o _ c _ e n=>u.slot b o e n c (by simp)) (λb o _ e n=>u.free b o e n (by simp)) (λb o _ e=>u.there b o e (by simp)) u.tups u.e8 u.fC (λk i=>by
  obtain⟨o',d,f,a,r'⟩:=i;rw[g] at a;cases a;exact⟨_,d,f,h,r'⟩) hok I.bare
theorem Inv.call{g':Array GenState}{t':Nat}{d':Drawn}{ch:List Addr}(I:Inv X pins σ H s)(u:Un (frs X.stack) ch H H' s.heap h')(hok:bM X.prog X.w H' h')(j:AllBare g')
  (a:∀b∈ch,(b∈X.ex\/X.s₀.heap.objs.size<=b)/\b≠X.env.locals/\(∀x c,X.env.cells.lookup x=some c->c≠b)/\∀p∈X.pn++pins,p.1≠b):
  Inv X pins σ H' {s with heap:=h',gens:=g',drawn:=d',toks:=t'}:=by
 obtain⟨m,⟨o,es,ep,i,r⟩,_⟩:=id I.loc;obtain⟨q,f⟩:=u.any i I.free λz=>(a _ z).2.1 rfl;exact I.step (ch:=ch) a (λb o f k hc e n=>u.keep b o e n (λz=>(aQ.mp (I.lz b z)).elim f k) hc) (λb o _ _ hc e n=>u.any e n hc) (λb o hc e n=>u.free b o e n hc) (λb o hc e=>u.there b o e hc) u.tups u.e8 u.fC (λt l=>by
  obtain⟨o',g,h,d,r'⟩:=l;rw[i] at d;cases d;exact⟨_,g,h,f,r'⟩) hok j
theorem Inv.turned{t':Nat}{it:Addr}(I:Inv X pins σ H s)(k:∀b o,b≠it->s.heap.get? b=some o->h'.get? b=some o)(hn:H it=none)(d:it≠X.env.locals)
  (h1:it∈X.ex\/X.s₀.heap.objs.size<=it)(h2:∀x c,X.env.cells.lookup x=some c->c≠it)(h3:∀p∈X.pn++pins,p.1≠it):Inv X pins σ H {s with heap:=h',toks:=t'}:=by
 have a:∀b u,H b=some u->b≠it:=λb u e z=>by rw[z,hn] at e;cases e
 refine I.step (g':=s.gens) (d':=s.drawn) (ch:=[it]) (λb f=>?_) (λb o _ _ hc e _=>k b o (λz=>hc (by simp[z])) e) (λb o _ _ hc e _=>⟨o.slots,k b o (λz=>hc (by simp[z])) e⟩) (λ_ _ _ _ n=>n)
  (λb o hc e=>⟨o,k b o (λz=>hc (by simp[z])) e⟩) (λ_ _ e=>e) (λ_ _ _ e=>e) (λb ps e=>⟨#[],by rw[e];simp⟩) (λm g=>?_) (λb u e=>?_) I.bare
 .have e:b=it:=by simpa using f
  subst e;exact⟨h1,d,h2,h3⟩
 .obtain⟨o,es,ep,h,r⟩:=g
  exact⟨o,es,ep,k _ o (Ne.symm d) h,r⟩
 .refine(I.hok b u e).stay (λc v hc q=>k c v ?_ q) (λ_ q=>q) λ_ _ q=>q
  rcases hc with z|z
  .rw[z];exact a b u e
  .exact a c _ z
theorem Inv.tok(I:Inv X pins σ H s)(t:Nat):Inv X pins σ H {s with toks:=t}:=I.un (h':=s.heap) (t':=t) Un.refl I.hok
theorem Inv.kept{t':Nat}(I:Inv X pins σ H s)(k:∀b u,s.heap.get? b=some u->h'.get? b=some u):Inv X pins σ H {s with heap:=h',toks:=t'}:=I.un (Un.kept k) (I.hok.kept k)
theorem Inv.laid{a:Addr}{o:HO}{t':Nat}(I:Inv X pins σ H s)(k:∀b u,s.heap.get? b=some u->h'.get? b=some u)(c:s.heap.objs.size<=a)(new:bG X.prog X.w (upd H a o) h' a o):
 Inv X pins σ (upd H a o) {s with heap:=h',toks:=t'}:=I.un (Un.laid k c (I.hok.fresh c)) (I.hok.laid k c new)
theorem Inv.write{x e:Addr}{o:HO}{t':Nat}(I:Inv X pins σ H s)(c:mz (H x))(d:e=x\/H e=some (.own x))(k:∀b u,b≠e->s.heap.get? b=some u->h'.get? b=some u)(a:∃u,h'.get? e=some u)
 (new:bG X.prog X.w (upd H x o) h' x o):Inv X pins σ (upd H x o) {s with heap:=h',toks:=t'}:=I.un (Un.write c d k a) (I.hok.write c d k a new)
theorem Inv.weak{σ':List (Option V)}(I:Inv X pins σ H s)(b:σ'.length=σ.length)(w:∀(i:Nat) v,σ'[i]?=some (some v)->σ[i]?=some (some v)):Inv X pins σ' H s:=
 ⟨I.ok,I.os,I.bare,I.base,let ⟨m,hn,a⟩:=I.loc;⟨m,hn,λi x v c d e=>a i x v c (w i v d) e⟩,I.cell,I.free,I.iC,I.pin,I.hok,b.trans I.len⟩
theorem Inv.Ah{a:aO}(I:Inv X pins σ H s)(h:∀p∈a,s.heap.get? p.1=some p.2/\H p.1=none/\p.1≠X.env.locals/\p.1∉X.fs/\∀v,p.2.data≠ .cell v):Inv X a σ H s:=
 ⟨I.ok,I.os,I.bare,I.base,I.loc,I.cell,I.free,I.iC,λp b=>(aU.mp b).elim (λz=>I.pin p (jh _ z)) (h p),I.hok,I.len⟩
theorem zV{N:List Str}(c:N.Nodup){i j:Nat}{x:Str}(a:N[i]?=some x)(b:N[j]?=some x):i=j:=by
 obtain⟨h1,d⟩:=bY.mp a;obtain⟨h2,e⟩:=bY.mp b;exact(List.getElem_inj c).mp (d.trans e.symm)
theorem BO {M : Model} {A : Around} {E : aA} {i : Nat} {x : Str} {v : V} {u : Value} {Q : Unit → Shared → Prop} (I : Inv X pins σ H s) (hN : X.N.Nodup) (hi : X.N[i]? = some x) (g : Loc X.env.scope x) (r : RelV v u)
    (h : ∀ s', Inv X pins (σ.set i (some v)) H s' → (∃ a, SameBut a s.heap s'.heap ∧ (a = X.env.locals ∨ X.env.cells.lookup x = some a)) → Q () s') (hf : X.fn x = true ∨ X.env.scope.names.lookup x = some .local := by first | exact .inl rfl | exact .inr rfl | assumption) : wpAny M A (storeName X.env x u) Q E s := by
  obtain ⟨m, hn, hl⟩ := id I.loc
  have G : (X.env.scope.kind == .class || (X.env.scope.kind == .module && X.env.locals != X.env.globals)) = false := by rw [I.ok.kind]; rfl
  have B : i < σ.length := by rw [I.len]; exact (bY.mp hi).1
  have jB := I.jB
  have tracked : ∀ {a : Addr} {h' : Heap}, (∃ o, s.heap.get? a = some o ∧ H a = none) → SameBut a s.heap h' → bM X.prog X.w H h' := fun {a h'} ha hs b ob e => by
    obtain ⟨_, _, l⟩ := ha
    refine (I.hok b ob e).stay (fun c P hc q => (hs.2 c ?_).trans q) (fun _ q => q) fun _ _ q => q
    rintro rfl
    rcases hc with rfl | hc
    · rw [l] at e; cases e
    · rw [l] at hc; cases hc
  rcases g with hk | hk
  · refine wpAny_storeName_local hk hn (fun h' R hs => ?_) G
    obtain ⟨oL, _, _, S, _⟩ := id hn
    refine h _ ⟨I.ok, I.os, I.bare, ⟨fun b o e n C g => ?_, fun b o e n C g => ?_, I.base.free, fun b o e g => ?_, I.base.tups, I.base.e8, I.base.fC⟩, ⟨_, R, fun j y T f t U => ?_⟩, fun y c e => ?_, I.free, I.iC, fun p W => ?_, tracked ⟨oL, S, I.free⟩ hs, by simpa using I.len⟩ ⟨_, hs, .inl rfl⟩
    · exact (hs.2 b (aV (bO (aM e) I.ok.above))).trans (I.base.keep b o e n C g)
    · obtain ⟨Y, f⟩ := I.base.slot b o e n C g
      exact ⟨Y, (hs.2 b (aV (bO (aM e) I.ok.above))).trans f⟩
    · obtain ⟨o', f⟩ := I.base.there b o e g
      exact ⟨o', (hs.2 b (aV (bO (aM e) I.ok.above))).trans f⟩
    · by_cases D : j = i
      · subst D
        rw [hi] at f; cases f
        rw [lX B] at t
        cases t
        exact ⟨u, r, .inl ⟨hk, by simp⟩⟩
      · rw [oM (Ne.symm D)] at t
        obtain ⟨Z, r', q⟩ := hl j y T f t U
        refine ⟨Z, r', ?_⟩
        rcases q with ⟨k, e⟩ | ⟨k, c, e, z⟩
        · refine .inl ⟨k, ?_⟩
          have : y ≠ x := fun e => D (zV hN f (e ▸ hi))
          simp [this, e]
        · exact .inr ⟨k, c, e, z.sameBut hs (jB y c e)⟩
    · obtain ⟨P, z⟩ := I.cell y c e
      exact ⟨P, z.sameBut hs (jB y c e)⟩
    · obtain ⟨e, n, ne, nf, d⟩ := I.pin p W
      exact ⟨(hs.2 p.1 ne).trans e, n, ne, nf, d⟩
  · have F : X.fn x = true := by
      rcases hf with z | z
      · exact z
      · rw [z] at hk; cases hk
    obtain ⟨c, hc⟩ := I.ok.has x (.inl hk)
    obtain ⟨P, z⟩ := I.cell x c hc
    refine wpAny_storeName_cell I.ok.kind hk hc z (fun h' J hs => ?_)
    obtain ⟨oc, K, L⟩ := id z
    refine h { s with heap := h' } ⟨I.ok, I.os, I.bare, ⟨fun b o e n C g => ?_, fun b o e n C g => ?_, I.base.free, fun b o e g => ?_, I.base.tups, I.base.e8, I.base.fC⟩, ⟨m, hn.sameBut hs (Ne.symm (jB x c hc)), fun j y T f t U => ?_⟩, fun y c' e => ?_, I.free, I.iC, fun p W => ?_, tracked ⟨oc, K, I.iC x c hc⟩ hs, by simpa using I.len⟩ ⟨c, hs, .inr hc⟩
    · exact (hs.2 b (aV (bO (aM e) (I.ok.o8 x c F hc)))).trans (I.base.keep b o e n C g)
    · obtain ⟨Y, f⟩ := I.base.slot b o e n C g
      exact ⟨Y, (hs.2 b (aV (bO (aM e) (I.ok.o8 x c F hc)))).trans f⟩
    · obtain ⟨o', f⟩ := I.base.there b o e g
      exact ⟨o', (hs.2 b (aV (bO (aM e) (I.ok.o8 x c F hc)))).trans f⟩
    · by_cases D : j = i
      · subst D
        rw [hi] at f; cases f
        rw [lX B] at t
        cases t
        exact ⟨u, r, .inr ⟨.inl hk, c, hc, J⟩⟩
      · rw [oM (Ne.symm D)] at t
        obtain ⟨Z, r', q⟩ := hl j y T f t U
        refine ⟨Z, r', ?_⟩
        rcases q with q | ⟨k, c', e, z'⟩
        · exact .inl q
        · refine .inr ⟨k, c', e, z'.sameBut hs ?_⟩
          rintro rfl
          exact D (zV hN f (I.ok.inj _ _ _ e hc ▸ hi))
    · by_cases O : c' = c
      · subst O; exact ⟨_, J⟩
      · obtain ⟨w2, z2⟩ := I.cell y c' e
        exact ⟨w2, z2.sameBut hs O⟩
    · obtain ⟨e, n, ne, nf, d⟩ := I.pin p W
      refine ⟨(hs.2 p.1 ?_).trans e, n, ne, nf, d⟩
      intro q
      rw [q, K] at e
      have q' : oc = p.2 := Option.some.inj e
      exact d P (by rw [← q']; exact L)
theorem q8{M:Model}{A:Around}{E:aA}{i:Nat}{x:Str}{v:V}{u:Value}{Q:Unit->Shared->Prop}(I:Inv X pins σ H s)(a:X.N.Nodup)(hi:X.N[i]?=some x)(b:Loc X.env.scope x)(r:RelV v u)
  (h:∀s',Inv X pins (σ.set i (some v)) H s'->Q () s')(c:X.fn x=true\/X.env.scope.names.lookup x=some .local:=by first|exact .inl rfl|exact .inr rfl|assumption):wpAny M A (storeName X.env x u) Q E s:=
 BO I a hi b r (λs' d _=>h s' d) c
theorem Inv.C1{s':Shared}{ch:List Addr}(I:Inv X pins σ H s)(d:s'.os=s.os)(u:Un (frs X.stack) ch H H' s.heap s'.heap)(hok:bM X.prog X.w H' s'.heap)(f:AllBare s'.gens)
  (a:∀b∈ch,(b∈X.ex\/X.s₀.heap.objs.size<=b)/\b≠X.env.locals/\(∀x c,X.env.cells.lookup x=some c->c≠b)/\∀p∈X.pn++pins,p.1≠b):Inv X pins σ H' s':=by
 obtain⟨h',g',d',t',o'⟩:=s';have e:o'=s.os:=d;subst e;exact I.call (g':=g') (t':=t') (d':=d') u hok f a
end
abbrev XK:=Value->Option Addr->Hp->Prop
abbrev St:=List (Option V)
abbrev VK:=V->Hp->Prop
abbrev TE:=St->Hp->VK->Prop
abbrev TT:=St->Hp->(Bool->Hp->Prop)->Prop
abbrev TA:=St->Hp->(List V->Hp->Prop)->Prop
structure Ends where
 nx:St->Hp->Prop
 rt:VK
 bk:St->Hp->Prop:=λ_ _=>False
 ct:St->Hp->Prop:=λ_ _=>False
abbrev TS:=Ends->St->Hp->Prop
def EP(X:Cx)(pins:aO)(σ:St)(Q:VK)(u:Value)(s':Shared):Prop:=∃v H',Inv X pins σ H' s'/\RelV v u/\Q v H'
def TP(X:Cx)(pins:aO)(σ:St)(Q:Bool->Hp->Prop)(b:Bool)(s':Shared):Prop:=∃H',Inv X pins σ H' s'/\Q b H'
def AP(X:Cx)(pins:aO)(σ:St)(Q:List V->Hp->Prop)(us:List Value)(s':Shared):Prop:=∃vs H',Inv X pins σ H' s'/\Vals vs us/\Q vs H'
def SP(X:Cx)(pins:aO)(D:Ends)(f:Flow)(s':Shared):Prop:=
 match f with
 |.next=>∃σ' H',Inv X pins σ' H' s'/\D.nx σ' H'
 |.brk=>∃σ' H',Inv X pins σ' H' s'/\D.bk σ' H'
 |.cont=>∃σ' H',Inv X pins σ' H' s'/\D.ct σ' H'
 |.ret u=>∃v σ' H',Inv X pins σ' H' s'/\RelV v u/\D.rt v H'
def PE(X:Cx)(e:Expr)(t:TE):Prop:=
 ∀(pins:aO) (s:Shared) (σ:St) (H:Hp) (Q:VK),Inv X pins σ H s->t σ H Q->wpAny (model X.prog X.w) X.A (eval e X.env) (EP X pins σ Q) X.xe s
def PT(X:Cx)(e:Expr)(t:TT):Prop:=
 ∀(pins:aO) (s:Shared) (σ:St) (H:Hp) (Q:Bool->Hp->Prop),Inv X pins σ H s->t σ H Q->wpAny (model X.prog X.w) X.A (isTrue e X.env (eval e X.env)) (TP X pins σ Q) X.xe s
def PW(X:Cx)(e:Expr)(t:TT):Prop:=
 ∀(whole:Sem Value) (pins:aO) (s:Shared) (σ:St) (H:Hp) (Q:Bool->Hp->Prop),Inv X pins σ H s->t σ H Q->wpAny (model X.prog X.w) X.A (isTrue e X.env whole) (TP X pins σ Q) X.xe s
theorem PW.pt{X:Cx}{e:Expr}{t:TT}(h:PW X e t):PT X e t:=h _
def PA(X:Cx)(es:List Expr)(t:TA):Prop:=
 ∀(pos:Pos) (pins:aO) (s:Shared) (σ:St) (H:Hp) (Q:List V->Hp->Prop),Inv X pins σ H s->t σ H Q->wpAny (model X.prog X.w) X.A (spliced (backTo pos (starEach es X.env))) (AP X pins σ Q) X.xe s
def PS(X:Cx)(st:Stmt)(t:TS):Prop:=
 ∀(pins:aO) (s:Shared) (σ:St) (H:Hp) (D:Ends),Inv X pins σ H s->t D σ H->wpAny (model X.prog X.w) X.A (exec st X.env) (SP X pins D) X.xe s
def cB(X:Cx)(st:List Stmt)(t:TS):Prop:=
 ∀(pins:aO) (s:Shared) (σ:St) (H:Hp) (D:Ends),Inv X pins σ H s->t D σ H->wpAny (model X.prog X.w) X.A (execs st X.env) (SP X pins D) X.xe s
theorem aG{α:Type}{t:Sem α}{Q b:α->Shared->Prop}{M:Model}{A:Around}{E:aA}{s:Shared}(h:wpAny M A t Q E s)(c:∀a s,Q a s->b a s):wpAny M A t b E s:=h_ h c λ_ _ x=>x
section
variable{X:Cx}
def MM(i:Nat):TE:=λσ H Q=>∃v,σ[i]?=some (some v)/\Q v H
def tC(v:V):TE:=λ_ H Q=>Q v H
theorem JR{i:Nat}{x:Str}{pos:Pos}(d:X.N[i]?=some x)(f:mE X.env.scope x)(hd:(x==("__debug__":Str))=false:=by decide)(b:(x==("__classdict__":Str))=false:=by decide):PE X (.Name x pos) (MM i):=by
 intro pins s σ H Q I h;obtain⟨v,e,h⟩:=h;obtain⟨m,hn,g⟩:=I.loc;obtain⟨u,r,l⟩:=g i x v d e f;have fin:EP X pins σ Q u s:=⟨v,H,I,r,h⟩;rcases l with⟨hk,j⟩|⟨hk,c,hc,a⟩
 .exact wpAny_Name (wpAny_loadName_local I.ok.kind hk hn j fin) hd
 .rcases hk with hk|hk
  .exact wpAny_Name (wpAny_loadName_cell I.ok.kind hk hc a fin) hd
  .exact wpAny_Name (wpAny_loadName_free I.ok.kind hk hc a fin b) hd
theorem JE{i j pos}:PE X (.Constant (.int i) j pos) (tC (.int i)):=λ_ _ _ H _ I h=>wpAny_Constant_int ⟨.int i,H,I.tok _,⟨_,rfl⟩,h⟩
theorem Js{b j pos}:PE X (.Constant (.bool b) j pos) (tC (.bl b)):=λ_ _ _ H _ I h=>Constant_bool ⟨.bl b,H,I,rfl,h⟩
theorem JH{j pos}:PE X (.Constant .none j pos) (tC .aD):=λ_ _ _ H _ I h=>Constant_none ⟨.aD,H,I,rfl,h⟩
theorem JO{x j pos}:PE X (.Constant (.str x) j pos) (tC (.str x)):=λ_ _ _ H _ I h=>Calls.Constant_str ⟨.str x,H,I.tok _,⟨_,rfl⟩,h⟩
def Gl(X:Cx)(x:Str):Prop:=X.env.kindOf x=some .globalImplicit
theorem t_{E:aA}{pins:aO}{s:Shared}{σ:St}{H:Hp}{x:Str}{u:Value}{pos:Pos}{Q:aA}(I:Inv X pins σ H s)(a:Gl X x)(b:X.mg x=some u)(h:Q u s)
  (hd:(x==("__debug__":Str))=false:=by decide):wpAny (model X.prog X.w) X.A (eval (.Name x pos) X.env) Q E s:=
 Calls.Name_function_global I.ok.kind a (Calls.loadGlobal_global (by rw[I.ok.glob];exact I.mod.glob.keeps I.bk) b h) hd
theorem jJ{E:aA}{pins:aO}{s:Shared}{σ:St}{H:Hp}{x:Str}{u:Value}{pos:Pos}{Q:aA}(I:Inv X pins σ H s)(a:Gl X x)(b:X.mg x=none)(c:bootBuiltins x=some u)(h:Q u s)
  (hn:x≠"__name__":=by decide)(hd:(x==("__debug__":Str))=false:=by decide):wpAny (model X.prog X.w) X.A (eval (.Name x pos) X.env) Q E s:=by
 obtain⟨mb,h1,h2⟩:=I.mod.blt;exact Calls.Name_function_global I.ok.kind a (Calls.loadGlobal_builtin (by rw[I.ok.glob];exact I.mod.glob.keeps I.bk) b (by rw[I.ok.blt];exact h1.keeps I.bk) ((h2 x hn).trans c) h) hd
theorem JC{x:Str}{v:V}{u:Value}{pos:Pos}(a:Gl X x)(b:X.mg x=some u)(r:RelV v u)(hd:(x==("__debug__":Str))=false:=by decide):PE X (.Name x pos) (tC v):=
 λ_ _ _ H _ I h=>t_ I a b ⟨v,H,I,r,h⟩ hd
theorem Jt{x:Str}{v:V}{u:Value}{pos:Pos}(a:Gl X x)(b:X.mg x=none)(c:bootBuiltins x=some u)(r:RelV v u)(hn:x≠"__name__":=by decide)(hd:(x==("__debug__":Str))=false:=by decide):PE X (.Name x pos) (tC v):=
 λ_ _ _ H _ I h=>jJ I a b c ⟨v,H,I,r,h⟩ hn hd
variable{a b:Expr}{ta tb:TE}{pos:Pos}
def tB(t:TE):TT:=λσ H Q=>t σ H λx H1=>∃c,x=.bl c/\Q c H1
theorem Ku{e:Expr}{t:TE}(h:PE X e t)(a:∀whole,isTrue e X.env whole=(do let v <-whole;standAt e.pos;holding [v] (truthy v)):=by intro _;rfl):PT X e (tB t):=by
 intro pins s σ H Q I b;refine isTrue_plain (aG (h pins s σ H _ I b) λv i ⟨x,H1,c,f,g⟩=>?_) (a _);obtain⟨d,rfl,q⟩:=g;cases f;exact ie ⟨H1,c,q⟩
variable{tA q9:TT}{rest:List Expr}
def Mb(t u:TT):TT:=λσ H Q=>t σ H λc H1=>if c=true then u σ H1 Q else Q false H1
def Mt(t u:TT):TT:=λσ H Q=>t σ H λc H1=>if c=true then Q true H1 else u σ H1 Q
def Mr(t:TT):TT:=λσ H Q=>t σ H λc H1=>Q (!c) H1
theorem pw_and1(b:PT X a tA):PW X (.BoolOp .And [a] pos) tA:=by
 intro d pins s σ H Q I h;refine isTrue_and (aG (b pins s σ H Q I h) λc f e=>?_);cases c with
 |true=>exact isTrue_and_nil e
 |false=>exact e
theorem pw_or1(b:PT X a tA):PW X (.BoolOp .Or [a] pos) tA:=by
 intro d pins s σ H Q I h;refine isTrue_or (aG (b pins s σ H Q I h) λc f e=>?_);cases c with
 |false=>exact isTrue_or_nil e
 |true=>exact e
theorem pw_and(f:PT X a tA)(g:PW X (.BoolOp .And (b::rest) pos) q9):PW X (.BoolOp .And (a::b::rest) pos) (Mb tA q9):=by
 intro i pins s σ H Q I h;refine isTrue_and (aG (f pins s σ H _ I h) λc j ⟨H1,d,e⟩=>?_);cases c with
 |true=>exact g i pins j σ H1 Q d e
 |false=>exact⟨H1,d,e⟩
theorem pw_or(f:PT X a tA)(g:PW X (.BoolOp .Or (b::rest) pos) q9):PW X (.BoolOp .Or (a::b::rest) pos) (Mt tA q9):=by
 intro i pins s σ H Q I h;refine isTrue_or (aG (f pins s σ H _ I h) λc j ⟨H1,d,e⟩=>?_);cases c with
 |true=>exact⟨H1,d,e⟩
 |false=>exact g i pins j σ H1 Q d e
theorem Ks(b:PT X a tA):PT X (.UnaryOp .Not a pos) (Mr tA):=by
 intro pins s σ H Q I h;exact isTrue_not (b pins s σ H (λc H1=>Q (!c) H1) I h)
def Mc(ta tb:TE):TE:=λσ H Q=>ta σ H λx H1=>∃c,x=.bl c/\if c=true then tb σ H1 Q else Q (.bl false) H1
def Mu(ta tb:TE):TE:=λσ H Q=>ta σ H λx H1=>∃c,x=.bl c/\if c=true then Q (.bl true) H1 else tb σ H1 Q
def Ms(ta:TE):TE:=λσ H Q=>ta σ H λx H1=>∃c,x=.bl c/\Q (.bl (!c)) H1
theorem JJ{op}{t:TE}(h:PE X a t):PE X (.BoolOp op [a] pos) t:=λpins s σ H Q I b=>BoolOp_one (h pins s σ H Q I b)
theorem Jr(f:PE X a ta)(g:PE X (.BoolOp .And (b::rest) pos) tb):PE X (.BoolOp .And (a::b::rest) pos) (Mc ta tb):=by
 intro pins s σ H Q I h;refine BoolOp_and (aG (f pins s σ H _ I h) λv i ⟨x,H1,e,j,d⟩=>?_);obtain⟨c,rfl,d⟩:=d;cases j;refine ie ?_;cases c with
 |true=>exact g pins i σ H1 Q e d
 |false=>exact⟨.bl false,H1,e,rfl,d⟩
theorem JL(f:PE X a ta)(g:PE X (.BoolOp .Or (b::rest) pos) tb):PE X (.BoolOp .Or (a::b::rest) pos) (Mu ta tb):=by
 intro pins s σ H Q I h;refine BoolOp_or (aG (f pins s σ H _ I h) λv i ⟨x,H1,e,j,d⟩=>?_);obtain⟨c,rfl,d⟩:=d;cases j;refine ie ?_;cases c with
 |false=>exact g pins i σ H1 Q e d
 |true=>exact⟨.bl true,H1,e,rfl,d⟩
theorem JI(d:PE X a ta):PE X (.UnaryOp .Not a pos) (Ms ta):=by
 intro pins s σ H Q I h;refine UnaryOp_ (aG (d pins s σ H _ I h) λv g ⟨x,H1,e,f,b⟩=>?_);obtain⟨c,rfl,b⟩:=b;cases f;exact not_of (ie ⟨.bl (!c),H1,e,rfl,b⟩)
def Mk(t:TT)(ta tb:TE):TE:=λσ H Q=>t σ H λc H1=>if c=true then ta σ H1 Q else tb σ H1 Q
theorem JD{c:Expr}(hc:PT X c tA)(i:PE X a ta)(j:PE X b tb):PE X (.IfExp c a b pos) (Mk tA ta tb):=by
 intro pins s σ H Q I h;refine wpAny_IfExp (aG (hc pins s σ H _ I h) λd e ⟨H1,f,g⟩=>?_);cases d with
 |true=>exact i pins e σ H1 Q f g
 |false=>exact j pins e σ H1 Q f g
end
def aX(K:Frag)(H:Hp)(a:Addr)(xs:List V):Prop:=
 Rd H a (.lst xs)\/
  ∃(o:Obj) (its:Array Value) (n:Nat),K.lookup a=some o/\o.cls=.type "list"/\o.dict=none/\o.data=.seq its n/\its.size<=sizeLine/\Vals xs its.toList
def bf(K:Frag)(H:Hp)(a:Addr)(xs:List V):Prop:=
 Rd H a (.tup xs)\/
  ∃(o:Obj) (its:Array Value) (n:Nat),K.lookup a=some o/\o.cls=.type "tuple"/\o.data=.seq its n/\its.size<=sizeLine/\Vals xs its.toList
def CL:Value->Option V
 |.none=>some .aD
 |.bool b=>some (.bl b)
 |.int i _=>some (.int i)
 |.str x _=>some (.str x)
 |.bytes b _=>some (.gf b)
 |.float b _=>some (.kN b)
 |.ref a=>some (.ref a)
 |.type n=>some (.ty n)
 |_=>none
theorem RelV.abs{x:V}{u:Value}(r:RelV x u):CL u=some x:=by
 cases x with
 |aD=>cases r;rfl
 |bl _=>cases r;rfl
 |int _=>obtain⟨t,rfl⟩:=r;rfl
 |str _=>obtain⟨t,rfl⟩:=r;rfl
 |gf _=>obtain⟨t,rfl⟩:=r;rfl
 |kN _=>obtain⟨t,rfl⟩:=r;rfl
 |ref _=>cases r;rfl
 |ty _=>cases r;rfl
theorem RelV.inj{x y:V}{u:Value}(r:RelV x u)(q:RelV y u):x=y:=Option.some.inj (r.abs.symm.trans q.abs)
theorem Vals.inj:∀{xs ys:List V} {a:List Value},Vals xs a->Vals ys a->xs=ys
 |_,_,_,.nil,.nil=>rfl
 |_,_,_,.cons r t,.cons r' t'=>by rw[r.inj r',Vals.inj t t']
section
variable{X:Cx}{pins:aO}{σ:St}{H:Hp}{s:Shared}{a:Addr}{xs ys:List V}
theorem aX.of{K:Frag}(h:H a=some (.lst xs)):aX K H a xs:=.inl (.inl h)
theorem bf.of{K:Frag}(h:H a=some (.tup xs)):bf K H a xs:=.inl (.inl h)
theorem Inv.list(I:Inv X pins σ H s)(h:aX X.K H a xs):∃its:List Value,Vals xs its/\PlainL s.heap a its.toArray/\xs.length<=sizeLine:=by
 rcases h with h|⟨o,its,n,hk,hc,hd,hs,hz,r⟩
 .obtain⟨z,its,n,r,e⟩:=h.ok I.hok
  exact⟨its,r,⟨_,n,e,rfl,rfl,rfl⟩,z⟩
 .refine⟨its.toList,r,⟨o,n,I.dw a o hk,hc,hd,by simpa using hs⟩,?_⟩
  have e:=r.length;simp only[bE] at e;omega
theorem Inv.tuple(I:Inv X pins σ H s)(h:bf X.K H a xs):∃its:List Value,Vals xs its/\IsTup s.heap a its.toArray/\xs.length<=sizeLine:=by
 rcases h with h|⟨o,its,n,hk,hc,hs,hz,r⟩
 .obtain⟨z,its,r,p⟩:=h.ok I.hok
  exact⟨its,r,p.is,z⟩
 .refine⟨its.toList,r,⟨o,I.dw a o hk,hc,n,by simpa using hs⟩,?_⟩
  have e:=r.length;simp only[bE] at e;omega
theorem Inv.MW(I:Inv X pins σ H s)(h:H a=some (.tup xs)):∃(its:List Value) (n:Nat),Vals xs its/\s.heap.get? a=some {cls:=.type "tuple",data:=.seq its.toArray n}/\xs.length<=sizeLine:=by
 obtain⟨z,its,r,n,e⟩:=(show bG X.prog X.w H s.heap a (.tup xs) from I.hok a _ h);exact⟨its,n,r,e,z⟩
theorem Inv.HG(I:Inv X pins σ H s)(h:aX X.K H a xs)(h':aX X.K H a ys):xs=ys:=by
 obtain⟨its,r,⟨o,n,e,_,_,d⟩,_⟩:=I.list h;obtain⟨its',r',⟨o',n',b,_,_,d'⟩,_⟩:=I.list h';rw[e] at b;cases b;rw[d] at d';injection d' with c _;have:its=its':=by simpa using dh toList c
 subst this;exact r.inj r'
theorem Inv.MX(I:Inv X pins σ H s)(h:bf X.K H a xs)(h':bf X.K H a ys):xs=ys:=by
 obtain⟨its,r,⟨o,e,_,n,d⟩,_⟩:=I.tuple h;obtain⟨its',r',⟨o',b,_,n',d'⟩,_⟩:=I.tuple h';rw[e] at b;cases b;rw[d] at d';injection d' with c _;have:its=its':=by simpa using dh toList c
 subst this;exact r.inj r'
end
section
variable{X:Cx}{st:Stmt}{rest:List Stmt}{t u:TS}{e:Expr}{te:TE}{pos:Pos}
def Mn:TS:=λD σ H=>D.nx σ H
def MB(t u:TS):TS:=λD σ H=>t {D with nx:=u D} σ H
theorem Kn:cB X [] Mn:=λ_ _ σ H _ I h=>rL ⟨σ,H,I,h⟩
theorem Km(h1:PS X st t)(h2:cB X rest u):cB X (st::rest) (MB t u):=by
 intro pins s σ H D I h;refine wpAny_execs_cons (aG (h1 pins s σ H {D with nx:=u D} I h) λf a q=>?_);cases f with
 |next=>
  obtain⟨σ',H',b,q⟩:=q;exact h2 pins a σ' H' D b q
 |ret v=>exact q
 |brk=>exact q
 |cont=>exact q
theorem Ko(h1:PS X st t):cB X [st] t:=by
 intro pins s σ H D I h;refine wpAny_execs_cons (aG (h1 pins s σ H D I h) λf a q=>?_);cases f with
 |next=>exact rL q
 |ret v=>exact q
 |brk=>exact q
 |cont=>exact q
theorem Inv.quiet{pins:aO}{σ:St}{H:Hp}{s:Shared}(I:Inv X pins σ H s):interactive X.env=false:=by simp[interactive,I.ok.kind]
def Mi(te:TE):TS:=λD σ H=>te σ H λ_ H1=>D.nx σ H1
theorem Ka(a:PE X e te)(hs:swapsWith e none pos.line X.env=pure false:=by rfl):PS X (.Expr e pos) (Mi te):=by
 intro pins s σ H D I h;exact wpAny_Expr_any (aG (a pins s σ H _ I h) λv d ⟨x,H1,b,f,c⟩=>⟨σ,H1,b,c⟩) I.quiet hs
def Mz(te:TE):TS:=λD σ H=>te σ H D.rt
theorem Kg(a:PE X e te):PS X (.Return (some e) pos) (Mz te):=by
 intro pins s σ H D I h;exact wpAny_Return_some (aG (a pins s σ H _ I h) λv f ⟨x,H1,b,c,d⟩=>⟨x,σ,H1,b,c,d⟩)
def Ml(c:TT)(t u:TS):TS:=λD σ H=>c σ H λb H1=>if b=true then t D σ H1 else u D σ H1
theorem Kd{c:Expr}{a b:List Stmt}{tc:TT}(hc:PT X c tc)(i:cB X a t)(j:cB X b u):PS X (.If c a b pos) (Ml tc t u):=by
 intro pins s σ H D I h;refine wpAny_If (aG (hc pins s σ H _ I h) λd e ⟨H1,f,g⟩=>?_);cases d with
 |true=>exact i pins e σ H1 D f g
 |false=>exact j pins e σ H1 D f g
end
abbrev TG:=V->St->Hp->(St->Hp->Prop)->Prop
abbrev gP:=List V->St->Hp->(St->Hp->Prop)->Prop
def PG(X:Cx)(target:Expr)(t:TG):Prop:=
 ∀(pins:aO) (s:Shared) (σ:St) (H:Hp) (v:V) (u:Value) (Q:St->Hp->Prop),Inv X pins σ H s->RelV v u->t v σ H Q->
  wpAny (model X.prog X.w) X.A (assign target X.env u) (λ_ s'=>∃σ' H',Inv X pins σ' H' s'/\Q σ' H') X.xe s
def gM(X:Cx)(ts:List Expr)(t:gP):Prop:=
 ∀(pins:aO) (s:Shared) (σ:St) (H:Hp) (vs:List V) (us:List Value) (Q:St->Hp->Prop),Inv X pins σ H s->Vals vs us->t vs σ H Q->
  wpAny (model X.prog X.w) X.A (assignInOrder ((assignEach ts X.env).map (·.2)) us) (λ_ s'=>∃σ' H',Inv X pins σ' H' s'/\Q σ' H') X.xe s
section
variable{X:Cx}{pos:Pos}
def kP(i:Nat):TG:=λv σ H Q=>Q (σ.set i (some v)) H
theorem Ab{i:Nat}{x:Str}(a:X.N.Nodup)(hi:X.N[i]?=some x)(b:Loc X.env.scope x)(c:X.fn x=true\/X.env.scope.names.lookup x=some .local:=by first|exact .inl rfl|exact .inr rfl|assumption):PG X (.Name x pos) (kP i):=by
 intro pins s σ H v u Q I r h;exact wpAny_assign_Name (q8 I a hi b r (λs' d=>⟨_,H,d,h⟩) c)
def yI:gP:=λvs σ H Q=>vs=[]/\Q σ H
def yH(t:TG)(u:gP):gP:=λvs σ H Q=>∃v r,vs=v::r/\t v σ H λσ' H'=>u r σ' H' Q
theorem Ad:gM X [] yI:=by
 intro pins s σ H vs a Q I r h;obtain⟨e,h⟩:=h;subst e;cases r;exact assignInOrder_nil ⟨σ,H,I,h⟩
theorem qR{e:Expr}{es:List Expr}{t:TG}{u:gP}(h1:PG X e t)(h2:gM X es u)
  (hs:(assignEach (e::es) X.env).map (·.2)=assign e X.env::(assignEach es X.env).map (·.2):=by rfl):gM X (e::es) (yH t u):=by
 intro pins s σ H vs i Q I r h;obtain⟨v,vr,b,h⟩:=h;subst b;cases r with
 |cons r c=>
  rw[hs];refine assignInOrder_cons (aG (h1 pins s σ H _ _ _ I r h) λ_ d ⟨a,H1,f,g⟩=>?_);exact h2 pins d a H1 _ _ Q f c g
def yJ(K:Frag)(n:Nat)(t:gP):TG:=λv σ H Q=>∃a xs,v=.ref a/\bf K H a xs/\xs.length=n/\t xs σ H Q
theorem Ac{es:List Expr}{k:Nat}{t:gP}{n:Nat}(hc:X.calm=true)(h:gM X es t)
  (hn:(assignEach es X.env).length=n:=by rfl)(c:(assignEach es X.env).findIdx? (·.1)=none:=by rfl):PG X (.Tuple es k pos) (yJ X.K n t):=by
 intro pins s σ H v u Q I r d;obtain⟨a,xs,g,hq,i,d⟩:=d;subst g;cases r;obtain⟨its,f,j,hz⟩:=I.tuple hq;refine assign_Tuple_tuple (I.ok.hd hc) j (by simp[hn,<-i,f.length]) c λh' l=>?_;have m:Inv X pins σ H {s with heap:=h'}:=I.kept (t':=s.toks) λb o e=>l b o (aV (aM e)) e;exact h pins _ σ H xs _ Q m (by simpa using f) d
def BR(te:TE)(g:TG):TS:=λD σ H=>te σ H λx H1=>g x σ H1 D.nx
theorem Kh{i:Nat}{x:Str}{e:Expr}{te:TE}{pos':Pos}(a:X.N.Nodup)(hi:X.N[i]?=some x)(b:Loc X.env.scope x)(c:PE X e te)(hs:swapsWith e (some (.Name x pos')) pos.line X.env=pure false:=by rfl)(d:X.fn x=true\/X.env.scope.names.lookup x=some .local:=by first|exact .inl rfl|exact .inr rfl|assumption):
  PS X (.Assign [.Name x pos'] e pos) (BR te (kP i)):=by
 intro pins s σ H D I h;refine wpAny_Assign_Name (aG (c pins s σ H _ I h) λv l ⟨y,H1,f,g,j⟩=>?_) hs;exact q8 f a hi b g (λm k=>⟨_,H1,k,j⟩) d
def Mv(i j:Nat)(ta:TA):TS:=λD σ H=>ta σ H λvs H1=>∃v w,vs=[v,w]/\D.nx ((σ.set i (some v)).set j (some w)) H1
theorem Ke{i j:Nat}{x y:Str}{a b:Expr}{ta:TA}{px py pt:Pos}{kt k2 c}(hc:X.calm=true)(r:X.N.Nodup)(hi:X.N[i]? =some x)(B:X.N[j]? =some y)(k:i≠j)
  (t:X.env.scope.names.lookup x=some .local)(u:X.env.scope.names.lookup y=some .local)(C:PA X [a,b] ta)
  (E:swappedStores [.Tuple [.Name x px,.Name y py] kt pt] (.Tuple [a,b] k2 c) X.env=pure (some [x,y]))
  (hs:swapsWithSole [.Tuple [.Name x px,.Name y py] kt pt] (.Tuple [a,b] k2 c) pos.line X.env=pure false:=by rfl):
  PS X (.Assign [.Tuple [.Name x px,.Name y py] kt pt] (.Tuple [a,b] k2 c) pos) (Mv i j ta):=by
 intro pins s σ H D I h
 rw[exec_Assign_arm]
 refine aa (rQ ?_)
 rw[hs]
 refine aa (ak ?_)
 rw[ai (by decide)]
 refine aa (Tuple_ (aG (C _ pins s σ H _ I h) λF d ⟨vs,H1,G,J,l⟩=> ?_))
 obtain⟨v,w,K,l⟩:=l
 subst K
 obtain⟨f,g,rfl,L,m⟩:∃f g,F=[f,g]/\RelV v f/\RelV w g:=by
  cases J with
  |cons p q=>
   cases q with
   |cons M O=>
    cases O
    exact⟨_,_,rfl,p,M⟩
 refine dH ?_ (by show 2<=sizeLine;decide)
 have P:Inv X pins σ H1 {d with heap:=d.heap.push {cls:= .type "tuple",data:= .seq [f,g].toArray}}:=G.kept (t':=d.toks) λb o e=>aR _ e
 rw[E]
 refine aa (ak ?_)
 show wpAny (model X.prog X.w) X.A (do rule "assign.swapped-stores";let items <-unpackItems (.ref d.heap.objs.size) 2 none;assignInOrder [λv=>bindName X.env y v,λv=>bindName X.env x v] items.reverse;pure Flow.next) _ _ _
 refine aa (j7 (aa (unpackItems_tuple (items:= #[f,g]) (I.ok.hd hc) (IsTup.new d.heap _) λh' n=> ?_)))
 have Q:=P.kept (h':=h') (t':=d.toks) λb o e=>n b o (aV (aM e)) e
 show wpAny _ _ (assignInOrder [λv=>bindName X.env y v,λv=>bindName X.env x v] [g,f]>>=λ_=>pure Flow.next) _ _ _
 refine aa (assignInOrder_cons (wpAny_bindName (q8 Q r B (.inl u) m (λS R=> ?_) (.inr u))))
 refine assignInOrder_cons (wpAny_bindName (q8 R r hi (.inl t) L (λT z=>assignInOrder_nil (ak ?_)) (.inr t)))
 rw[List.set_comm _ _ (Ne.symm k)] at z
 exact⟨_,H1,z,l⟩
end
section
variable{X:Cx}{pos:Pos}
def MN(c:TT)(tb:TS):TS:=λD σ H=>∃W:Nat->St->Hp->Prop,(∃m,W m σ H)/\∀m σ H,W m σ H->
 c σ H λb H1=>if b=true then ∃N:St->Hp->Prop,(∀σ' H',N σ' H'->∃m',m'<m/\W m' σ' H')/\tb {D with nx:=N,ct:=N,bk:=D.nx} σ H1 else D.nx σ H1
theorem Kl{c:Expr}{body:List Stmt}{tc:TT}{tb:TS}(o:PassesOwn (model X.prog X.w) X.A X.env X.xe)(hc:PT X c tc)(r:cB X body tb):PS X (.While c body [] pos) (MN tc tb):=by
 intro pins s σ H D I h;obtain⟨W,⟨m0,t⟩,turn⟩:=h;refine wpAny_While (codeAny_whileLoop (λn s'=>∃σ' H',Inv X pins σ' H' s'/\W n σ' H') ?_ m0 ⟨σ,H,I,t⟩);rintro n u ⟨d,H1,x,y⟩;refine j6 o (aG (hc pins u d H1 _ x (turn n d H1 y)) λb z ⟨H2,p,g⟩=>?_);cases b with
 |true=>
  obtain⟨N,q,g⟩:=g;rw[aj rfl];refine j6 o (aG (r pins z d H2 _ p g) λf B i=>?_);cases f with
  |next=>
   obtain⟨a,e,j,n3⟩:=i;obtain⟨k,l,m⟩:=q a e n3;exact⟨k,l,a,e,j,m⟩
  |cont=>
   obtain⟨a,e,j,n3⟩:=i;obtain⟨k,l,m⟩:=q a e n3;exact⟨k,l,a,e,j,m⟩
  |brk=>exact i
  |ret v=>exact i
 |false=>
  rw[ai bP];exact rL ⟨d,H2,p,g⟩
end
structure It where
 go:Nat->Hp->Prop
 rC:Nat->Hp->V->Hp->Prop
 stop:Nat->Hp->Prop
def eH(X:Cx)(pins:aO)(H:Hp)(b:Addr):Prop:=
 H b=none/\b≠X.env.locals/\b∉X.fs/\(b∈X.ex\/X.s₀.heap.objs.size<=b)/\(∀x c,X.env.cells.lookup x=some c->c≠b)/\∀p∈X.pn++pins,p.1≠b
theorem Inv.tN{X:Cx}{pins:aO}{σ:St}{H H':Hp}{s:Shared}{b:Addr}(I:Inv X pins σ H s)(a:s.heap.objs.size<=b)(hn:H' b=none):eH X pins H' b:=by
 refine⟨hn,g8 (bO I.lt a),I.IF a,.inr (cP I.sz a),λx c e z=>?_,λp d z=>?_⟩
 .obtain⟨v,q⟩:=I.cell x c e
  exact absurd (bO q.lt (by rw[z];exact a)) (cZ _)
 .exact absurd (bO (aM (I.pin p d).1) (by rw[z];exact a)) (cZ _)
structure Turn(P:Program)(w:World)(K:Frag)(tg:Expr)(J:It)(fp:List Addr)(it:Addr)(tn:Nat->Heap->Prop):Prop where
 mem:it∈fp
 obj:∀i h,tn i h->∀b∈fp,∃o,h.get? b=some o/\∀v,o.data≠ .cell v
 keep:∀i h h',tn i h->(∀b∈fp,∀o,h.get? b=some o->h'.get? b=some o)->tn i h'
 item:∀(X:Cx),X.prog=P->X.w=w->X.K=K->X.calm=true->∀(i:Nat) (pins:aO) (s:Shared) (σ:St) (H:Hp) (E:aA),Inv X pins σ H s->(∀b∈fp,eH X pins H b)->tn i s.heap->J.go i H->
  wpAny (model P w) X.A (pyNext (.ref it)) (λr s1=>∃u,r=some u/\
   wpAny (model P w) X.A (letOwnedTupleGo tg (.ref it) u) (λ_ s2=>∃x H',Inv X pins σ H' s2/\RelV x u/\J.rC i H x H'/\tn (i+1) s2.heap/\∀b∈fp,H' b=none) E s1) E s
 done:∀(X:Cx),X.prog=P->X.w=w->X.K=K->X.calm=true->∀(i:Nat) (pins:aO) (s:Shared) (σ:St) (H:Hp) (E:aA),Inv X pins σ H s->(∀b∈fp,eH X pins H b)->tn i s.heap->J.stop i H->
  wpAny (model P w) X.A (pyNext (.ref it)) (λr s1=>r=none/\Inv X pins σ H s1) E s
 self:∀(A:Around) (i:Nat) (s:Shared) (Q:aA) (E:aA),tn i s.heap->Q (.ref it) s->wpAny (model P w) A (pyIter (.ref it)) Q E s
abbrev TI:=St->Hp->(It->Hp->Prop)->Prop
def wg(X:Cx)(pins:aO)(σ:St)(tg:Expr)(R:It->Hp->Prop)(itv:Value)(s2:Shared):Prop:=
 ∃(it:Addr) (fp:List Addr) (tn:Nat->Heap->Prop) (J:It) (H':Hp),itv=.ref it/\Inv X pins σ H' s2/\Turn X.prog X.w X.K tg J fp it tn/\tn 0 s2.heap/\(∀b∈fp,eH X pins H' b)/\R J H'
def PI(X:Cx)(tg iter:Expr)(wi:TI):Prop:=
 ∀(pins:aO) (s:Shared) (σ:St) (H:Hp) (R:It->Hp->Prop),Inv X pins σ H s->wi σ H R->
  wpAny (model X.prog X.w) X.A (eval iter X.env) (λv s1=>wpAny (model X.prog X.w) X.A (pyIter v) (wg X pins σ tg R) X.xe s1) X.xe s
theorem yM{M:Model}{A:Around}{E:aA}{s:Shared}{tg:Expr}{it:Addr}{u:Value}{o:Obj}{n:String}{vs:Array Value}{Q:Unit->Shared->Prop}(b:s.heap.get? it=some o)(hc:o.cls=.type n)(hd:o.data=.fields vs)
  (hn:["enumerate","zip","dict_itemiterator","dict_reverseitemiterator","odict_iterator","itertools.zip_longest","itertools.pairwise"].contains n=false)(a:Q () s):wpAny M A (letOwnedTupleGo tg (.ref it) u) Q E s:=by
 unfold letOwnedTupleGo;cases tg<;>first
  |exact ak a
  |(cases u<;>first
    |exact ak a
    |(refine aa (wpAny_load b ?_)
      rw[hc,hd];show wpAny M A (if (["enumerate","zip","dict_itemiterator","dict_reverseitemiterator","odict_iterator","itertools.zip_longest","itertools.pairwise"].contains n&&vs[0]? ==some (rawInt _))=true then _ else _) Q E s;rw[ai (by intro h;rw[hn,Bool.false_and] at h;cases h)];exact ak a))
def oR(K:Frag)(a:Addr):It:=
 ⟨λi H=>∃xs x,aX K H a xs/\xs[i]?=some x,λi H x H'=>H'=H/\∀xs,aX K H a xs->xs[i]?=some x,λi H=>∃xs,aX K H a xs/\xs.length<=i⟩
def r_(K:Frag)(a:Addr):It:=
 ⟨λi H=>∃xs x,bf K H a xs/\xs[i]?=some x,λi H x H'=>H'=H/\∀xs,bf K H a xs->xs[i]?=some x,λi H=>∃xs,bf K H a xs/\xs.length<=i⟩
theorem M1{P:Program}{w:World}{K:Frag}{tg:Expr}(a it:Addr):Turn P w K tg (oR K a) [it] it (λi h=>h.IsListIter it a i) where
 mem:=by simp
 obj:=λi h st b f=>by
  have e:b=it:=by simpa using f
  subst e
  obtain⟨o,e,c,d⟩:=st
  exact⟨o,e,λv z=>by rw[d] at z;cases z⟩
 keep:=λi h h' st k=>st.at λo e=>k it (by simp) o e
 item:=by
  intro X l m n hc i pins s σ H E I j st q
  subst l m n
  obtain⟨xs,x,hq,r⟩:=q
  obtain⟨its,t,p,hz⟩:=I.list hq
  obtain⟨u,B,ru⟩:=t.get r
  obtain⟨f0,f1,f2,y,f4,A⟩:=j it (by simp)
  refine wpAny_pyNext_list_item st p.isList (x:=u) (by simpa using B) λh' g sb=> ?_
  have C:Inv X pins σ H {s with heap:=h'}:=I.turned (t':=s.toks) (λb o f e=>(sb.2 b f).trans e) f0 f1 y f4 A
  obtain⟨o,e,c,d⟩:=id g
  exact⟨u,rfl,yM (s:={s with heap:=h'}) e c d (by decide) ⟨x,H,C,ru,⟨rfl,λys D=>by rw[I.HG D hq];exact r⟩,g,λb f=>(j b f).1⟩⟩
 done:=by
  intro X l m n hc i pins s σ H E I j st q
  subst l m n
  obtain⟨xs,hq,r⟩:=q
  obtain⟨its,t,p,hz⟩:=I.list hq
  obtain⟨f0,f1,f2,y,f4,A⟩:=j it (by simp)
  have G:=t.length
  exact wpAny_pyNext_list_end (I.ok.hd hc) st p.isList (by simp;omega) λh' F=>⟨rfl,I.turned (t':=s.toks) (λb o f e=>F b o f e) f0 f1 y f4 A⟩
 self:=λ_ _ _ _ _ st h=>wpAny_pyIter_listiter st h
theorem M5{P:Program}{w:World}{K:Frag}{tg:Expr}(a it:Addr):Turn P w K tg (r_ K a) [it] it (λi h=>h.IsTupleIter it a i) where
 mem:=by simp
 obj:=λi h st b f=>by
  have e:b=it:=by simpa using f
  subst e
  obtain⟨o,e,c,d⟩:=st
  exact⟨o,e,λv z=>by rw[d] at z;cases z⟩
 keep:=λi h h' st k=>st.at λo e=>k it (by simp) o e
 item:=by
  intro X l m n hc i pins s σ H E I j st q
  subst l m n
  obtain⟨xs,x,hq,r⟩:=q
  obtain⟨its,t,p,hz⟩:=I.tuple hq
  obtain⟨u,B,ru⟩:=t.get r
  obtain⟨f0,f1,f2,y,f4,A⟩:=j it (by simp)
  refine wpAny_pyNext_tuple_item st (show s.heap.IsTuple a its.toArray from p) (x:=u) (by simpa using B) λh' g sb=> ?_
  have C:Inv X pins σ H {s with heap:=h'}:=I.turned (t':=s.toks) (λb o f e=>(sb.2 b f).trans e) f0 f1 y f4 A
  obtain⟨o,e,c,d⟩:=id g
  exact⟨u,rfl,yM (s:={s with heap:=h'}) e c d (by decide) ⟨x,H,C,ru,⟨rfl,λys D=>by rw[I.MX D hq];exact r⟩,g,λb f=>(j b f).1⟩⟩
 done:=by
  intro X l m n hc i pins s σ H E I j st q
  subst l m n
  obtain⟨xs,hq,r⟩:=q
  obtain⟨its,t,p,hz⟩:=I.tuple hq
  obtain⟨f0,f1,f2,y,f4,A⟩:=j it (by simp)
  have G:=t.length
  exact wpAny_pyNext_tuple_end (I.ok.hd hc) st (show s.heap.IsTuple a its.toArray from p) (by simp;omega) λh' F=>⟨rfl,I.turned (t':=s.toks) (λb o f e=>F b o f e) f0 f1 y f4 A⟩
 self:=λ_ _ _ _ _ st h=>wpAny_pyIter_tupleiter st h
section
variable{X:Cx}{tg:Expr}
def Mj(wi:TI)(g:TG)(tb:TS):TS:=λD σ H=>wi σ H λJ H1=>∃W:Nat->Nat->St->Hp->Prop,(∃m,W 0 m σ H1)/\∀i m σ H,W i m σ H->
 (J.stop i H/\D.nx σ H)\/(J.go i H/\∃N:St->Hp->Prop,(∀σ' H',N σ' H'->∃m',m'<m/\W (i+1) m' σ' H')/\∀x H',J.rC i H x H'->g x σ H' λσ2 H2=>tb {D with nx:=N,ct:=N,bk:=D.nx} σ2 H2)
def nH(fp:List Addr)(h:Heap):aO:=fp.filterMap λb=>(h.get? b).map λo=>(b,o)
theorem qi{fp:List Addr}{h:Heap}{b:Addr}{o:Obj}(a:b∈fp)(e:h.get? b=some o):(b,o)∈nH fp h:=jV.mpr ⟨b,a,by rw[e];rfl⟩
theorem IV{fp:List Addr}{h:Heap}{p:Addr×Obj}(a:p∈nH fp h):p.1∈fp/\h.get? p.1=some p.2:=by
 obtain⟨b,c,e⟩:=jV.mp a;cases q:h.get? b with
 |none=>rw[q] at e;cases e
 |some o=>
  rw[q] at e;have d:(b,o)=p:=Option.some.inj e;subst d;exact⟨c,q⟩
theorem Inv.pinned{pins:aO}{σ:St}{H:Hp}{s:Shared}{fp:List Addr}(I:Inv X pins σ H s)(f:∀b∈fp,eH X pins H b)(g:∀b∈fp,∃o,s.heap.get? b=some o/\∀v,o.data≠ .cell v):Inv X (pins++nH fp s.heap) σ H s:=
 I.Ah λp h=>(aU.mp h).elim (λz=>I.pin p (ff _ z)) λz=>by
  obtain⟨a,e⟩:=IV z;obtain⟨f0,f1,f2,_⟩:=f p.1 a;obtain⟨o,c,d⟩:=g p.1 a;rw[e] at c;cases c;exact⟨e,f0,f1,f2,d⟩
theorem Inv.nY{pins pl:aO}{σ:St}{H:Hp}{s:Shared}(I:Inv X (pins++pl) σ H s):Inv X pins σ H s:=I.Ah λp a=>I.pin p (ff _ (jh _ a))
theorem Kc{iter:Expr}{body:List Stmt}{wi:TI}{g:TG}{tb:TS}{pos:Pos}(y:PassesOwn (model X.prog X.w) X.A X.env X.xe)(hc:X.calm=true)(hi:PI X tg iter wi)(S:PG X tg g)(c:cB X body tb)
  (hs:∀x,foldedSetIterable iter X.env x=pure x:=by intro _;rfl):PS X (.For tg iter body [] pos) (Mj wi g tb):=by
 intro pins s σ H D I h;refine wpAny_For (aG (hi pins s σ H _ I h) λv s1 h1=>aG h1 λU s2 h2=>?_) hs;obtain⟨it,fp,O,J,H2,e,V,T,E,f2,W,⟨m0,Y⟩,turn⟩:=h2;subst e;have j:∀{H':Hp},(∀b∈fp,H' b=none)->∀b∈fp,eH X pins H' b:=λhn b c=>⟨hn b c,(f2 b c).2⟩;refine codeAny_forLoop_any (λn s'=>∃i σ' H',Inv X pins σ' H' s'/\O i s'.heap/\(∀b∈fp,H' b=none)/\W i n σ' H') ?_ m0 ⟨0,σ,H2,V,E,λb c=>(f2 b c).1,Y⟩;rintro n P ⟨i,k,C,Q,z,B,Z⟩;rcases turn i n k C Z with⟨stop,qn⟩|⟨go,N,hN,step⟩
 .refine j6 y (aG (T.done X rfl rfl rfl hc i pins P k C X.xe Q (j B) z stop) λr s4 ⟨F,I4⟩=>?_)
  subst F;exact rL ⟨k,C,I4,qn⟩
 .refine j6 y (aG (T.item X rfl rfl rfl hc i pins P k C X.xe Q (j B) z go) λr s4 ⟨u,F,h4⟩=>?_)
  subst F;refine j6 y (aG h4 λ_ s5 ⟨x,R,I5,r5,y5,t,G⟩=>?_);have K:=I5.pinned (j G) (T.obj _ _ t);refine j6 y (aG (S _ s5 k R x u _ K r5 (step x R y5)) λ_ s6 ⟨L,H6,I6,q6⟩=>?_);refine j6 y (aG (c _ s6 L H6 _ I6 q6) λf M q=>?_);have again:∀{a:St} {l:Hp},Inv X (pins++nH fp s5.heap) a l M->N a l->∃m,m<n/\∃i σ' H',Inv X pins σ' H' M/\O i M.heap/\(∀b∈fp,H' b=none)/\W i m σ' H':=λ {a l} p n7=>by
   obtain⟨m',hm,w7⟩:=hN a l n7;refine⟨m',hm,i+1,a,l,p.nY,T.keep _ _ _ t λb c o e=>(p.pin (b,o) (ff _ (ff _ (qi c e)))).1,λb c=>?_,w7⟩;obtain⟨o,e,d⟩:=T.obj _ _ t b c;exact(p.pin (b,o) (ff _ (ff _ (qi c e)))).2.1
  cases f with
  |next=>obtain⟨a,l,p,n7⟩:=q;exact again p n7
  |cont=>obtain⟨a,l,p,n7⟩:=q;exact again p n7
  |brk=>obtain⟨a,l,p,q⟩:=q;exact⟨a,l,p.nY,q⟩
  |ret v=>obtain⟨x7,a,l,p,r7,q⟩:=q;exact⟨x7,a,l,p.nY,r7,q⟩
end
abbrev R2:=V->V->Hp->VK->Prop
def aT(X:Cx)(f:Value->Value->Sem Value)(r:R2):Prop:=
 ∀(pins:aO) (s:Shared) (σ:St) (H:Hp) (x y:V) (v u:Value) (Q:VK),Inv X pins σ H s->RelV x v->RelV y u->r x y H Q->
  wpAny (model X.prog X.w) X.A (f v u) (EP X pins σ Q) X.xe s
def dY(X:Cx)(f:Value)(r:List V->Hp->VK->Prop):Prop:=
 ∀(pins:aO) (s:Shared) (σ:St) (H:Hp) (xs:List V) (us:List Value) (Q:VK),Inv X pins σ H s->Vals xs us->r xs H Q->
  wpAny (model X.prog X.w) X.A (call f us) (EP X pins σ Q) X.xe s
def nU(r:R2)(ta tb:TE):TE:=λσ H Q=>ta σ H λx H1=>tb σ H1 λy H2=>r x y H2 Q
def rI(C:Int->Int->Prop)(g:Int->Int->V):R2:=λx y H Q=>∃i j,x=.int i/\y=.int j/\C i j/\Q (g i j) H
def fS(g:Int->Int->V):R2:=λx y H Q=>∃i j,x=.int i/\y=.int j/\Q (g i j) H
section
variable{X:Cx}{a b c:Expr}{ta tb tc:TE}{pos:Pos}
theorem sH(g:PE X a ta)(i:PE X b tb){pins:aO}{s:Shared}{σ:St}{H:Hp}{R:V->V->Hp->Prop}(I:Inv X pins σ H s)
  (h:ta σ H λx H1=>tb σ H1 λy H2=>R x y H2){Q:aA}{f:Value->Value->Sem Value}
  (j:∀v u e x y H2,Inv X pins σ H2 e->RelV x v->RelV y u->R x y H2->wpAny (model X.prog X.w) X.A (f v u) Q X.xe e):
  wpAny (model X.prog X.w) X.A (eval a X.env) (λv c=>wpAny (model X.prog X.w) X.A (eval b X.env) (λu d=>wpAny (model X.prog X.w) X.A (f v u) Q X.xe d) X.xe c) X.xe s:=by
 refine aG (g pins s σ H _ I h) λv k ⟨x,H1,l,m,n⟩=> ?_
 refine aG (i pins k σ H1 _ l n) λu e ⟨y,H2,o,p,q⟩=> ?_
 exact j v u e x y H2 o m p q
theorem JK{op:Operator}{r:R2}(c:aT X (binaryOp op) r)(d:PE X a ta)(e:PE X b tb):PE X (.BinOp a op b pos) (nU r ta tb):=by
 intro pins s σ H Q I h;exact wpAny_BinOp (sH d e I h λv u f x y H2 g i j q=>c pins f σ H2 x y v u Q g i j q)
theorem qt{f:Value->Value->Sem Value}{C:Int->Int->Prop}{g:Int->Int->Int}
  (rule:∀(i j:Int) (t u:Tok) (s:Shared) (Q:aA) (E:aA),C i j->Q (.int (g i j) s.toks) {s with toks:=s.toks+1}->wpAny (model X.prog X.w) X.A (f (.int i t) (.int j u)) Q E s):
  aT X f (rI C λi j=>.int (g i j)):=by
 intro pins s σ H x y v u Q I a b h;obtain⟨i,j,rfl,rfl,hc,q⟩:=h;obtain⟨t,rfl⟩:=a;obtain⟨t',rfl⟩:=b;exact rule i j t t' s _ _ hc ⟨.int (g i j),H,I.tok _,⟨_,rfl⟩,q⟩
theorem z0{f:Value->Value->Sem Value}{g:Int->Int->Int}
  (rule:∀(i j:Int) (t u:Tok) (s:Shared) (Q:aA) (E:aA),Q (.int (g i j) s.toks) {s with toks:=s.toks+1}->wpAny (model X.prog X.w) X.A (f (.int i t) (.int j u)) Q E s):
  aT X f (fS λi j=>.int (g i j)):=by
 intro pins s σ H x y v u Q I a b h;obtain⟨i,j,rfl,rfl,q⟩:=h;obtain⟨t,rfl⟩:=a;obtain⟨t',rfl⟩:=b;exact rule i j t t' s _ _ ⟨.int (g i j),H,I.tok _,⟨_,rfl⟩,q⟩
theorem uL{f:Value->Value->Sem Value}{g:Int->Int->Bool}
  (rule:∀(i j:Int) (t u:Tok) (s:Shared) (Q:aA) (E:aA),Q (.bool (g i j)) s->wpAny (model X.prog X.w) X.A (f (.int i t) (.int j u)) Q E s):
  aT X f (fS λi j=>.bl (g i j)):=by
 intro pins s σ H x y v u Q I a b h;obtain⟨i,j,rfl,rfl,q⟩:=h;obtain⟨t,rfl⟩:=a;obtain⟨t',rfl⟩:=b;exact rule i j t t' s _ _ ⟨.bl (g i j),H,I,rfl,q⟩
def vY(i j:Int):Prop:=0<=j/\j<=1000000/\i.natAbs<2 ^ 64
def oO(i j:Int):Prop:=(-(2 ^ 64)<i/\i<2 ^ 64)\/(-(2 ^ 64)<j/\j<2 ^ 64)
theorem oO.ok{i j:Int}(h:oO i j):IntMulOk i j:=by
 rcases h with⟨h1,h2⟩|⟨h1,h2⟩
 .exact .of_left (intBits_le_64 h1 h2)
 .exact .of_right (intBits_le_64 h1 h2)
theorem IX:aT X (binaryOp .Add) (fS λi j=>.int (i+j)):=z0 λ_ _ _ _ _ _ _ q=>add_int q
theorem Jp:aT X (binaryOp .Sub) (fS λi j=>.int (i - j)):=z0 λ_ _ _ _ _ _ _ q=>sub_int q
theorem Jj:aT X (binaryOp .Mult) (rI oO λi j=>.int (i*j)):=qt λ_ _ _ _ _ _ _ hc q=>mul_int q hc.ok
theorem Ji:aT X (binaryOp .Mod) (rI (λ_ j=>0<j) λi j=>.int (i%j)):=qt λi j _ _ _ _ _ hc q=>by
 have h1:(0:Int)<j:=hc;exact mod_int' (by omega) (by rw[Int.fmod_eq_emod_of_nonneg i (by omega)];exact q)
theorem Jo:aT X (binaryOp .Pow) (rI vY λi j=>.int (i ^ j.toNat)):=qt λ_ _ _ _ _ _ _ hc q=>pow_int_small hc.1 hc.2.1 hc.2.2 q
end
def BE:V->V->Bool
 |.aD,.aD=>true|.aD,.int _=>true|.int _,.aD=>true|.aD,.bl _=>true|.bl _,.aD=>true|.aD,.str _=>true|.str _,.aD=>true
 |.int _,.int _=>true|.bl _,.bl _=>true|.str _,.str _=>true|.gf _,.gf _=>true
 |.int _,.str _=>true|.str _,.int _=>true|.bl _,.str _=>true|.str _,.bl _=>true
 |_,_=>false
def uU:R2:=λx y H Q=>BE x y=true/\Q (.bl (decide (x=y))) H
def uW:R2:=λx y H Q=>BE x y=true/\Q (.bl (!decide (x=y))) H
theorem xY{i j:Int}:decide (V.int i=V.int j)=(i==j):=by
 rw[jr];simp
theorem xW{i j:Bool}:decide (V.bl i=V.bl j)=(i==j):=by
 rw[jr];simp
theorem xZ{i j:Str}:decide (V.str i=V.str j)=(i==j):=by
 rw[jr];simp
theorem xX{i j:Array UInt8}:decide (V.gf i=V.gf j)=(i.toList==j.toList):=by
 rw[jr];cases i;cases j;simp
section
variable{X:Cx}{a b c:Expr}{ta tb tc:TE}{pos:Pos}
theorem bI{pins:aO}{σ:St}{H:Hp}{s:Shared}{Q:VK}{k k':Bool}(I:Inv X pins σ H s)(q:Q (.bl k) H)(e:k=k'):EP X pins σ Q (.bool k') s:=by
 subst e;exact⟨.bl k,H,I,rfl,q⟩
theorem I_:aT X (compareOp .Eq) uU:=by
 intro pins s σ H x y v u Q I b a h;obtain⟨hs,q⟩:=h;cases x with
 |aD=>
  cases b;cases y with
  |aD=>cases a;exact PySem.EqNone.eq_none_none (bI I q (by simp))
  |bl j=>cases a;exact PySem.EqNone.eq_none_bool (bI I q (by simp))
  |int j=>obtain⟨t',rfl⟩:=a;exact PySem.EqNone.eq_none_int (bI I q (by simp))
  |str j=>obtain⟨t',rfl⟩:=a;exact PySem.EqNone.eq_none_str (bI I q (by simp))
  |_=>exact absurd (show false=true from hs) bP
 |bl i=>
  cases b;cases y with
  |aD=>cases a;exact PySem.EqNone.eq_bool_none (bI I q (by simp))
  |bl j=>cases a;exact eq_bool (bI I q xW)
  |str j=>obtain⟨t',rfl⟩:=a;exact PySem.EqMixed.eq_bool_str (bI I q (by simp))
  |_=>exact absurd (show false=true from hs) bP
 |int i=>
  obtain⟨t,rfl⟩:=b;cases y with
  |aD=>cases a;exact PySem.EqNone.eq_int_none (bI I q (by simp))
  |int j=>obtain⟨t',rfl⟩:=a;exact eq_int (bI I q xY)
  |str j=>obtain⟨t',rfl⟩:=a;exact PySem.EqMixed.eq_int_str (bI I q (by simp))
  |_=>exact absurd (show false=true from hs) bP
 |str i=>
  obtain⟨t,rfl⟩:=b;cases y with
  |aD=>cases a;exact PySem.EqNone.eq_str_none (bI I q (by simp))
  |bl j=>cases a;exact PySem.EqMixed.eq_str_bool (bI I q (by simp))
  |int j=>obtain⟨t',rfl⟩:=a;exact PySem.EqMixed.eq_str_int (bI I q (by simp))
  |str j=>obtain⟨t',rfl⟩:=a;exact eq_str (bI I q xZ)
  |_=>exact absurd (show false=true from hs) bP
 |gf i=>
  obtain⟨t,rfl⟩:=b;cases y with
  |gf j=>obtain⟨t',rfl⟩:=a;exact PySem.W.eq_bytes (bI I q xX)
  |_=>exact absurd (show false=true from hs) bP
 |_=>cases y<;>exact absurd (show false=true from hs) bP
theorem Jk:aT X (compareOp .NotEq) uW:=by
 intro pins s σ H x y v u Q I b a h;obtain⟨hs,q⟩:=h;cases x with
 |aD=>
  cases b;cases y with
  |aD=>cases a;exact PySem.EqNone.ne_none_none (bI I q (by simp))
  |bl j=>cases a;exact PySem.EqNone.ne_none_bool (bI I q (by simp))
  |int j=>obtain⟨t',rfl⟩:=a;exact PySem.EqNone.ne_none_int (bI I q (by simp))
  |str j=>obtain⟨t',rfl⟩:=a;exact PySem.EqNone.ne_none_str (bI I q (by simp))
  |_=>exact absurd (show false=true from hs) bP
 |bl i=>
  cases b;cases y with
  |aD=>cases a;exact PySem.EqNone.ne_bool_none (bI I q (by simp))
  |bl j=>cases a;exact ne_bool (bI I q (dh not xW))
  |str j=>obtain⟨t',rfl⟩:=a;exact PySem.EqMixed.ne_bool_str (bI I q (by simp))
  |_=>exact absurd (show false=true from hs) bP
 |int i=>
  obtain⟨t,rfl⟩:=b;cases y with
  |aD=>cases a;exact PySem.EqNone.ne_int_none (bI I q (by simp))
  |int j=>obtain⟨t',rfl⟩:=a;exact ne_int (bI I q (dh not xY))
  |str j=>obtain⟨t',rfl⟩:=a;exact PySem.EqMixed.ne_int_str (bI I q (by simp))
  |_=>exact absurd (show false=true from hs) bP
 |str i=>
  obtain⟨t,rfl⟩:=b;cases y with
  |aD=>cases a;exact PySem.EqNone.ne_str_none (bI I q (by simp))
  |bl j=>cases a;exact PySem.EqMixed.ne_str_bool (bI I q (by simp))
  |int j=>obtain⟨t',rfl⟩:=a;exact PySem.EqMixed.ne_str_int (bI I q (by simp))
  |str j=>obtain⟨t',rfl⟩:=a;exact ne_str (bI I q (dh not xZ))
  |_=>exact absurd (show false=true from hs) bP
 |gf i=>
  obtain⟨t,rfl⟩:=b;cases y with
  |gf j=>obtain⟨t',rfl⟩:=a;exact PySem.W.ne_bytes (bI I q (dh not xX))
  |_=>exact absurd (show false=true from hs) bP
 |_=>cases y<;>exact absurd (show false=true from hs) bP
theorem Jg:aT X (compareOp .Lt) (fS λi j=>.bl (decide (i<j))):=uL λ_ _ _ _ _ _ _ q=>lt_int q
theorem Je:aT X (compareOp .LtE) (fS λi j=>.bl (decide (i<=j))):=uL λ_ _ _ _ _ _ _ q=>le_int q
theorem Jc:aT X (compareOp .Gt) (fS λi j=>.bl (decide (j<i))):=uL λ_ _ _ _ _ _ _ q=>gt_int q
theorem Jh:aT X (compareOp .Lt) (λx y H Q=>∃i j,x=.str i/\y=.str j/\Q (.bl (decide (i.cps.toList<j.cps.toList))) H):=by
 intro pins s σ H x y v u Q I a b h;obtain⟨i,j,rfl,rfl,q⟩:=h;obtain⟨t,rfl⟩:=a;obtain⟨t',rfl⟩:=b;exact lt_str (bI I q rfl)
theorem z4:aT X (compareOp .IsNot) (λx y H Q=>y=.aD/\Q (.bl (!decide (x=.aD))) H):=by
 intro pins s σ H x y v u Q I a b h;obtain⟨rfl,q⟩:=h;cases b;refine isnot_none_gen (bI I q ?_);cases x<;>first
  |(cases a;rfl)
  |(obtain⟨t,rfl⟩:=a;rfl)
theorem aT.or{f:Value->Value->Sem Value}{r r':R2}(h:aT X f r)(h':aT X f r'):aT X f (λx y H Q=>r x y H Q\/r' x y H Q):=by
 intro pins s σ H x y v u Q I a b q;rcases q with q|q
 .exact h pins s σ H x y v u Q I a b q
 .exact h' pins s σ H x y v u Q I a b q
theorem jQ(b:Expr){op:CmpOp}(h:op≠ .In:=by decide)(h2:op≠ .NotIn:=by decide):behindInMarks op b=false:=by
 have a:(op==CmpOp.In)=false:=by cases op<;>first|rfl|exact absurd rfl h
 have c:(op==CmpOp.NotIn)=false:=by cases op<;>first|rfl|exact absurd rfl h2
 cases b<;>simp[behindInMarks,a,c]
theorem Jz{op:CmpOp}{r:R2}(c:aT X (compareOp op) r)(d:PE X a ta)(e:PE X b tb)(f:behindInMarks op b=false):PE X (.Compare a [op] [b] pos) (nU r ta tb):=by
 intro pins s σ H Q I h;exact wpAny_Compare1 (sH d e I h λv u g x y H2 i j k q=>c pins g σ H2 x y v u Q i j k q) f
def vj(t:TE):TT:=λσ H Q=>t σ H λx H'=>∃k,x=.bl k/\Q k H'
theorem Kr{op:CmpOp}{r:R2}(d:aT X (compareOp op) r)(f:PE X a ta)(g:PE X b tb)(i:behindInMarks op b=false):PT X (.Compare a [op] [b] pos) (vj (nU r ta tb)):=by
 intro pins s σ H Q I h;refine wpAny_isTrue_Compare1 (aG (f pins s σ H _ I h) λv j ⟨x,H1,l,m,n⟩=>aG (g pins j σ H1 _ l n) λu o ⟨y,H2,p,q,t⟩=>
  aG (d pins o σ H2 x y v u _ p m q t) λc D ⟨z,w,A,B,k,e,C⟩=>?_) i
 subst e;cases B;exact ie ⟨w,A,C⟩
def vg(r r':R2)(ta tb tc:TE):TE:=λσ H Q=>ta σ H λx H1=>tb σ H1 λy H2=>r x y H2 λz H3=>∃k,z=.bl k/\
 (if k=true then tc σ H3 λw' H4=>r' y w' H4 Q else Q (.bl false) H3)
theorem Jy{op f:CmpOp}{r r':R2}(n:aT X (compareOp op) r)(g:aT X (compareOp f) r')(o:PE X a ta)(p:PE X b tb)(hc:PE X c tc)
  (q:lastMarks [op,f] [b,c]=false:=by with_unfolding_all rfl):PE X (.Compare a [op,f] [b,c] pos) (vg r r' ta tb tc):=by
 intro pins s σ H Q I h;refine Compare_chain (aG (o pins s σ H _ I h) λv t ⟨x,H1,w,A,B⟩=>chain_link (aG (p pins t σ H1 _ w B) λu C ⟨y,H2,D,i,E⟩=>
  aG (n pins C σ H2 x y v u _ D A i E) λd F ⟨z,j,l,G,k,e,m⟩=>?_)) q
 subst e;cases G;refine ie ?_;cases k with
 |false=>exact ite_ff ⟨.bl false,j,l,rfl,m⟩
 |true=>exact ite_tt (chain_last (aG (hc pins F σ j _ l m) λJ s4 ⟨K,L,M,N,O⟩=>g pins s4 σ L y K u J Q M i N O))
theorem Kq{op f:CmpOp}{r r':R2}(n:aT X (compareOp op) r)(g:aT X (compareOp f) r')(o:PE X a ta)(p:PE X b tb)(hc:PE X c tc)
  (q:lastMarks [op,f] [b,c]=false:=by with_unfolding_all rfl):PT X (.Compare a [op,f] [b,c] pos) (vj (vg r r' ta tb tc)):=by
 intro pins s σ H Q I h;refine isTrue_chain (aG (o pins s σ H _ I h) λv t ⟨x,H1,w,A,B⟩=>test_link (aG (p pins t σ H1 _ w B) λu C ⟨y,H2,D,i,E⟩=>
  aG (n pins C σ H2 x y v u _ D A i E) λd F ⟨z,j,l,G,k,e,m⟩=>?_)) q
 subst e;cases G;refine ie ?_;cases k with
 |false=>
  obtain⟨k',J,K⟩:=m;cases J;exact ite_ff ⟨j,l,K⟩
 |true=>
  refine ite_tt (test_last (aG (hc pins F σ j _ l m) λL s4 ⟨M,N,O,P,R⟩=>aG (g pins s4 σ N y M u L _ O i P R) λd' s5 ⟨Y,S,T,U,k2,V,W⟩=>?_));subst V;cases U;exact ie ⟨S,T,W⟩
theorem NI{κ:Type}{kvs:List (κ×V)}{vs:List (κ×Value)}(r:KV kvs vs):(!vs.isEmpty)= !kvs.isEmpty:=by
 cases r<;>rfl
theorem NJ{xs:List V}{its:List Value}(r:Vals xs its):(!its.toArray.isEmpty)= !xs.isEmpty:=by
 cases r<;>simp
theorem ni:(sizeLine:Nat)<2 ^ 63:=by rw[oi];decide
theorem IY:aT X (binaryOp .Add) (λx y H Q=>∃i j,x=.str i/\y=.str j/\i.length+j.length<=sizeLine/\Q (.str (i++j)) H):=by
 intro pins s σ H x y v u Q I a b h;obtain⟨i,j,rfl,rfl,hz,q⟩:=h;obtain⟨t,rfl⟩:=a;obtain⟨t',rfl⟩:=b;exact add_str (λt' tk=>⟨.str (i++j),H,I.tok _,⟨_,rfl⟩,q⟩) hz
theorem vals1{x:V}{a:List Value}(r:Vals [x] a):∃u,a=[u]/\RelV x u:=by
 cases r with
 |cons b c=>cases c;exact⟨_,rfl,b⟩
theorem vals2{x y:V}{a:List Value}(r:Vals [x,y] a):∃u b,a=[u,b]/\RelV x u/\RelV y b:=by
 cases r with
 |cons c d=>
  cases d with
  |cons e f=>cases f;exact⟨_,_,rfl,c,e⟩
end
structure se(h:Heap)(x dx C:Addr)(mA:av):Prop where
 obj:h.get? x=some (instObj C dx)
 ns:h.Ns1 dx mA
 ne:dx≠x
theorem HM{h:Heap}{dx:Addr}{c:av}(n:h.Ns1 dx c):∃d,h.get? dx=some d/\∀name,lookIn name d=some (c name):=by
 obtain⟨o,es,ep,f,hd,hk,_,g⟩:=n;refine⟨o,f,λname=>?_⟩;have e:=g name;unfold nsFind findBy at e;rw[<-Array.find?_toList] at e;unfold lookIn;rw[hd];dsimp only;split
 .rename_i y q
  rw[q] at e;exact dh some e
 .rename_i q
  rw[q] at e;have a:es.toList.any (·.refKey)=false:=by
   rw[List.any_eq_false];intro y i;obtain⟨z,t,b⟩:=hk y (Array.mem_toList_iff.mp i);simp[DictEntry.refKey,b]
  have j:¬es.toList.any (·.refKey)=true:=by rw[a];exact bP
  rw[ai j];exact dh some e
theorem se.look{h:Heap}{x dx C:Addr}{b:av}(I:se h x dx C b):∃a,PySem.W.InstAt h x (instObj C dx) C (some a)/\∀name,lookIn name a=some (b name):=
 let ⟨a,c,d⟩:=HM I.ns
 ⟨a,⟨I.obj,rfl,rfl,c⟩,d⟩
theorem f9.some_of{v:V}{o:Option Value}(r:f9 (some v) o):∃u,o=some u/\RelV v u:=by
 cases o with
 |none=>exact(show False from r).elim
 |some u=>exact⟨u,rfl,r⟩
section
variable{P:Program}{w:World}{H H':Hp}{h h':Heap}{a C dx:Addr}{fs fs':List (Str×V)}
theorem GS(hok:bM P w H h)(e:H a=some (.ins C dx fs)):∃b,se h a dx C b/\(∀f,f9 (fs.lookup f) (b f))/\PySem.Within b (fs.map (·.1))/\fs.length<=1000/\H dx=some (.own a):=by
 obtain⟨d,z,ne,c,b,n,r,q⟩:=(show bG P w H h a (.ins C dx fs) from hok a _ e);exact⟨b,⟨c,n,ne⟩,r,q,z,d⟩
end
structure rY(K:Frag)(C:Addr):Prop where
 pg:plainGet K C Str.empty=true
 hd:PySem.W.hasDictIn K C=true
 po:PySem.W.plainOver K C=true
 sa:findIn K (.ref C) "__setattr__"=some (some (.builtin "object.__setattr__"))
theorem rY.get{K:Frag}{C:Addr}(c:rY K C)(f:Str):plainGet K C f=true:=c.pg
section
variable{X:Cx}{pins:aO}{σ:St}{H:Hp}{s:Shared}{A:Around}{E:aA}{Q:aA}{c:Value}{b:Bool}
inductive fj(K:Frag)(H:Hp):V->Value->Prop where
 |aD:fj K H .aD (.type "NoneType")
 |bl (x:Bool):fj K H (.bl x) (.type "bool")
 |int (i:Int):fj K H (.int i) (.type "int")
 |str (x:Str):fj K H (.str x) (.type "str")
 |kN (x:UInt64):fj K H (.kN x) (.type "float")
 |lst {a:Addr} {xs:List V} (e:H a=some (.lst xs)):fj K H (.ref a) (.type "list")
 |cj {a:Addr} {o:Obj} {xs:List V} (e:H a=some (.cj o (.lst xs))):fj K H (.ref a) (.type "list")
 |tup {a:Addr} {xs:List V} (e:H a=some (.tup xs)):fj K H (.ref a) (.type "tuple")
 |dK {a:Addr} {kvs:List (Key×V)} (e:H a=some (.dK kvs)):fj K H (.ref a) (.type "dict")
 |dT {a:Addr} {kvs:List (List Key×V)} (e:H a=some (.dT kvs)):fj K H (.ref a) (.type "dict")
 |ins {a C dx:Addr} {fs:List (Str×V)} (e:H a=some (.ins C dx fs)) (cl:rY K C) (ha:findIn K (.ref C) "__class__"=some (some (.builtin "object.__class__")))
  (hn:PySem.W.specialIn K (.builtin "object.__class__") "__get__"=some (some (.builtin "getset_descriptor.__get__"))) (htk:PySem.W.takesIn K (.builtin "object.__class__")=some true)
  (hm:PySem.W.mroIn K C (.type "object")=some true):fj K H (.ref a) (.ref C)
theorem GX{x:V}{u t:Value}(I:Inv X pins σ H s)(d:RelV x u)(ty:fj X.K H x t)(e:kitOne X.K t c=some b)(h:∀tk,Q (.bool b) {s with toks:=tk}):
  wpAny (model X.prog X.w) A (call (.builtin "isinstance") [u,c]) Q E s:=by
 cases ty with
 |aD=>cases (show u=Value.none from d);exact fJ PySem.W.kitx_none I.dw True.intro e (λz=>nomatch z) h
 |bl y=>cases (show u=Value.bool y from d);exact fJ PySem.W.kitx_bool I.dw True.intro e (λz=>nomatch z) h
 |int i=>obtain⟨t,q⟩:=(show ∃t,u=Value.int i t from d);cases q;exact fJ PySem.W.kitx_int I.dw True.intro e (λz=>nomatch z) h
 |str y=>obtain⟨t,q⟩:=(show ∃t,u=Value.str y t from d);cases q;exact fJ PySem.W.kitx_str I.dw True.intro e (λz=>nomatch z) h
 |kN y=>obtain⟨t,q⟩:=(show ∃t,u=Value.float y t from d);cases q;exact fJ PySem.W.kitx_float I.dw True.intro e (λz=>nomatch z) h
 | @lst a xs f=>
  cases (show u=Value.ref a from d);obtain⟨_,_,n,_,h1⟩:=(show bG X.prog X.w H s.heap a (.lst xs) from I.hok a _ f);exact fJ kitx_list I.dw ⟨_,h1,rfl⟩ e (λz=>nomatch z) h
 | @cj a j xs f=>
  cases (show u=Value.ref a from d);obtain⟨_,_,_,n,_,h1⟩:=(show bG X.prog X.w H s.heap a (.cj j (.lst xs)) from I.hok a _ f);exact fJ kitx_list I.dw ⟨_,h1,rfl⟩ e (λz=>nomatch z) h
 | @tup a xs f=>
  cases (show u=Value.ref a from d);obtain⟨_,_,_,p⟩:=(show bG X.prog X.w H s.heap a (.tup xs) from I.hok a _ f);obtain⟨o,h1,h2,_⟩:=p.is;exact fJ kitx_tuple I.dw ⟨o,h1,h2⟩ e (λz=>nomatch z) h
 | @dK a kvs f=>
  cases (show u=Value.ref a from d);obtain⟨_,_,vs,_,p⟩:=(show bG X.prog X.w H s.heap a (.dK kvs) from I.hok a _ f);obtain⟨o,es,ep,h1,h2,_⟩:=p;exact fJ kitx_dict I.dw ⟨o,h1,h2.1⟩ e (λz=>nomatch z) h
 | @dT a kvs f=>
  cases (show u=Value.ref a from d);obtain⟨_,_,xs,_,o,es,ep,h1,h2,_⟩:=(show bG X.prog X.w H s.heap a (.dT kvs) from I.hok a _ f);exact fJ kitx_dict I.dw ⟨o,h1,h2.1⟩ e (λz=>nomatch z) h
 | @ins a C dx fs f cl k hn g l=>
  cases (show u=Value.ref a from d);obtain⟨m,O,_⟩:=GS I.hok f;obtain⟨r,J,_⟩:=O.look;exact fJ (PySem.W.kitx_own (cl.get _) cl.hd k hn g l) I.dw J e (λz=>nomatch z) h
end
structure cC(k:Nat)(A:Around):Prop where
 hd:A.handled=none
 dp:A.depth+3*k+5<recursionLimit
 un:A.units+16*k+200<cLine
theorem cC.mono{j k:Nat}{A:Around}(r:cC k A)(h:j<=k):cC j A:=⟨r.hd,by have:=r.dp;omega,by have:=r.un;omega⟩
theorem cC.deeper{k:Nat}{A:Around}(r:cC (k+1) A)(env:Env):cC k (A.deeper env):=
 ⟨r.hd,by have:=r.dp;show A.depth+1+3*k+5<_;omega,by have:=r.un;show A.units+3+16*k+200<_;omega⟩
theorem cC.depth{k:Nat}{A:Around}(r:cC k A):A.depth<recursionLimit:=by have:=r.dp;omega
theorem cC.units{k:Nat}{A:Around}(r:cC k A):A.units+64<cLine:=by have:=r.un;omega
def Mp:TA:=λ_ H Q=>Q [] H
def Mf(ta:TE)(tr:TA):TA:=λσ H Q=>ta σ H λx H1=>tr σ H1 λxs H2=>Q (x::xs) H2
section
variable{X:Cx}{e:Expr}{es:List Expr}{te:TE}{t:TA}{pos:Pos}
theorem z6:PA X [] Mp:=λ_ _ _ _ H Q I h=>Calls.spliced_nil ⟨[],H,I,.nil,h⟩
theorem uO(a:PE X e te)(b:PA X es t)(hs:starEach (e::es) X.env=(false,eval e X.env)::starEach es X.env:=by rfl):PA X (e::es) (Mf te t):=by
 intro pos pins s σ H Q I h;rw[hs];show wpAny _ _ (spliced ((false,eval e X.env)::backTo pos (starEach es X.env))) _ _ s;refine Calls.spliced_cons (aG (a pins s σ H _ I h) λu c ⟨x,H1,d,f,g⟩=>?_);exact aG (b pos pins c σ H1 _ d g) λl m ⟨xs,H2,i,j,k⟩=>⟨x::xs,H2,i,.cons f j,k⟩
def MK(t:TA):TE:=λσ H Q=>t σ H λxs H1=>xs.length<=sizeLine/\∀p,H1 p=none->Q (.ref p) (upd H1 p (.tup xs))
def Mm(t:TA):TE:=λσ H Q=>t σ H λxs H1=>xs.length<=sizeLine/\∀p,H1 p=none->Q (.ref p) (upd H1 p (.lst xs))
theorem JP{d}(h:PA X es t):PE X (.Tuple es d pos) (MK t):=by
 intro pins s σ H Q I hq;refine wpAny_Tuple_spliced (aG (h pos pins s σ H _ I hq) λf a ⟨xs,H1,c,r,z,q⟩=>⟨by rw[<-r.length];exact z,?_⟩);have g:H1 a.heap.objs.size=none:=c.hok.fresh (aF _);refine⟨.ref a.heap.objs.size,upd H1 a.heap.objs.size (.tup xs),c.laid (t':=a.toks) (λb u e=>aR _ e) (aF _) ?_,rfl,q _ g⟩;exact⟨z,f,r,⟨_,bK _ rfl⟩⟩
theorem JG(h:PA X es t):PE X (.List es pos) (Mm t):=by
 intro pins s σ H Q I hq;refine wpAny_List_spliced (aG (h pos pins s σ H _ I hq) λd a ⟨xs,H1,c,r,z,q⟩=>⟨by rw[<-r.length];exact z,?_⟩);have f:H1 a.heap.objs.size=none:=c.hok.fresh (aF _);refine⟨.ref a.heap.objs.size,upd H1 a.heap.objs.size (.lst xs),c.laid (t':=a.toks) (λb u e=>aR _ e) (aF _) ?_,rfl,q _ f⟩;exact⟨z,d,0,r,bK _ rfl⟩
end
abbrev Sp:=List V->Hp->VK->XK->Prop
abbrev fK:=List Env->Hp->Shared->XK->aA
structure oQ(P:Program)(w:World)(K:Frag)(mg:av)(base:Heap)(A:Around)(outer:List Env)(s:Shared)(H:Hp):Prop where
 frames:A.frames=some outer
 mod:Mod K mg base
 bs:∀b o,base.get? b=some o->s.heap.get? b=some o/\H b=none
 jA:base.objs.size<=s.heap.objs.size
 gW:s.heap.FunFrames base outer
 kO:∀b∈frs outer,H b=none
 hok:bM P w H s.heap
 bare:AllBare s.gens
def CE(outer:List Env)(P:Program)(w:World)(H:Hp)(s:Shared)(Q:VK)(u:Value)(s':Shared):Prop:=
 ∃v H',s'.os=s.os/\AllBare s'.gens/\Un (frs outer) [] H H' s.heap s'.heap/\bM P w H' s'.heap/\RelV v u/\Q v H'
def CR(CX:fK)(outer:List Env)(P:Program)(w:World)(H:Hp)(s:Shared)(Q:VK)(E:XK)(r:Result)(s':Shared):Prop:=
 match r with
 |.ok (.ret u)=>CE outer P w H s Q u s'
 |.ok _=>False
 |.error e=>CX outer H s E e s'
structure dM(P:Program)(w:World)(K:Frag)(mg:av)(base:Heap)(CX:fK)(k:Nat)(f:Addr)(fd:FuncData)(ps:List Str)(sp:Sp):Prop where
 len:∀vs H Q E,sp vs H Q E->vs.length=ps.length
 run:∀(A:Around) (outer:List Env) (s:Shared) (H:Hp) (args:Args) (us:List Value) (vs:List V) (Q:VK) (E:XK),cC k A->oQ P w K mg base A outer s H->BindsTo s fd args (ps.zip us)->Vals vs us->sp vs H Q E->
  codeAny (model P w) A (.call (.ref f) args) (CR CX outer P w H s Q E) s
theorem dM.mono{P:Program}{w:World}{K:Frag}{mg:av}{base:Heap}{CX:fK}{j k:Nat}{f:Addr}{fd:FuncData}{ps:List Str}{sp:Sp}(F:dM P w K mg base CX j f fd ps sp)(h:j<=k):
 dM P w K mg base CX k f fd ps sp:=⟨F.len,λA outer s H args a vs Q E b=>F.run A outer s H args a vs Q E (b.mono h)⟩
theorem dM.imp{P:Program}{w:World}{K:Frag}{mg:av}{base:Heap}{CX:fK}{k:Nat}{f:Addr}{fd:FuncData}{ps:List Str}{sp a:Sp}(F:dM P w K mg base CX k f fd ps sp)
  (h:∀vs H Q E,a vs H Q E->sp vs H Q E):dM P w K mg base CX k f fd ps a:=
 ⟨λvs H Q E q=>F.len vs H Q E (h _ _ _ _ q),λA outer s H args b vs Q E c d e g hs=>F.run A outer s H args b vs Q E c d e g (h _ _ _ _ hs)⟩
section
variable{X:Cx}{pins:aO}{σ:St}{H:Hp}{s s':Shared}
theorem Inv.E6(I:Inv X pins σ H s):oQ X.prog X.w X.K X.mg X.base X.A X.stack s H:=
 ⟨I.ok.frames,I.ok.mod,I.bs,cP I.ok.jA I.sz,I.stack,I.ve,I.hok,I.bare⟩
theorem Inv.after{Q:VK}{u:Value}(I:Inv X pins σ H s)(h:CE X.stack X.prog X.w H s Q u s'):EP X pins σ Q u s':=by
 obtain⟨v,H',os,bare,un,hok,r,q⟩:=h;obtain⟨c,g,d,t,a⟩:=s';obtain rfl:a=s.os:=os;exact⟨v,H',I.call (h':=c) (g':=g) (d':=d) (t':=t) (ch:=[]) un hok bare (λb z=>absurd z (by simp)),r,q⟩
end
def BS(sp:Sp)(i8:List V)(E:XK)(t:TA):TE:=λσ H Q=>t σ H λvs H1=>sp (vs++i8) H1 Q E
def Binds(K:Frag)(fd:FuncData)(ps:List Str)(ds:List Value):Prop:=
 ∀(s:Shared) (us:List Value),K.In s.heap->(us++ds).length=ps.length->BindsTo s fd ⟨us,[]⟩ (ps.zip (us++ds))
theorem Binds.all{K:Frag}{fd:FuncData}{ps:List Str}(h:∀a:List Value,a.length=ps.length->bindArgs fd ⟨a,[]⟩=pure (ps.zip a)):Binds K fd ps []:=λs a _ b=>by
 rw[fG] at b ⊢;exact .of_eq (h a b)
def Passes(CX:fK)(X:Cx)(E:XK):Prop:=∀(pins:aO) (σ:St) (H:Hp) (s:Shared) (e:Value) (s':Shared),Inv X pins σ H s->CX X.stack H s E e s'->X.xe e s'
section
variable{X:Cx}{CX:fK}{k:Nat}{f C:Addr}{fd:FuncData}{ps:List Str}{sp:Sp}{i8:List V}{ds:List Value}{E:XK}{x m:Str}{p pos apos:Pos}{e o:Expr}{es:List Expr}{ta:TE}{t:TA}
theorem KW{pins:aO}{σ:St}{H:Hp}{s:Shared}{Q:VK}{a:List Value}{vs:List V}(F:dM X.prog X.w X.K X.mg X.base CX k f fd ps sp)(c:cC k X.A)(d:Binds X.K fd ps ds)(hd:Vals i8 ds)(g:Passes CX X E)
  (I:Inv X pins σ H s)(r:Vals vs a)(h:sp (vs++i8) H Q E):wpAny (model X.prog X.w) X.A (call (.ref f) a) (EP X pins σ Q) X.xe s:=by
 have b:Vals (vs++i8) (a++ds):=r.append hd;have i:(a++ds).length=ps.length:=by rw[<-b.length];exact F.len _ _ _ _ h
 refine wpAny_call (lO (F.run X.A X.stack s H ⟨a,[]⟩ (a++ds) (vs++i8) Q E c I.E6 (d s a I.dw i) b h) λr s' hq=>?_);cases r with
 |error e=>exact g pins σ H s e s' I hq
 |ok fl=>
  cases fl with
  |ret u=>exact I.after hq
  |next=>exact False.elim hq
  |brk=>exact False.elim hq
  |cont=>exact False.elim hq
theorem Jv(F:dM X.prog X.w X.K X.mg X.base CX k f fd ps sp)(d:cC k X.A)(g:Gl X x)(i:X.mg x=some (.ref f))(hk:keepIn X.K (.ref f)=true)(j:Binds X.K fd ps ds)(hd:Vals i8 ds)(l:Passes CX X E)
  (m:PA X (e::es) t)(a:(x==("__debug__":Str))=false:=by decide)(n:starEach (e::es) X.env=(false,eval e X.env)::starEach es X.env:=by rfl)(b:(backTo pos (starEach es X.env)).any (·.1)=false:=by rfl):
  PE X (.Call (.Name x p) (e::es) [] pos) (BS sp i8 E t):=by
 intro pins s σ H Q I h;refine j3 (t_ I g i ?_ a);refine PySem.W.callWith_K (h₀:=X.base) I.ok.mod.p8 hk (aG (m pos pins s σ H _ I h) λo u ⟨vs,H1,c,r,q⟩=>⟨c.dw,?_⟩) n b;exact KW F d j hd l c r q
end
structure bq(N P:List Str)(sc:Scope):Prop where
 kind:sc.kind= .function
 co:sc.isCoroutine=false
 gen:sc.isGenerator=false
 nd:N.Nodup
 pre:N.take P.length=P
 par:∀x∈P,sc.names.lookup x=some .local\/sc.names.lookup x=some .cell
 uH:∀y∈sc.names,y.2≠ .free
theorem xq{kindOf:Str->Option NameKind}{x:Str}:∀{binds:List (Str×Value)} {m:av},(∀v,(x,v)∉binds)->bindL kindOf binds m x=m x
 |[],_,_=>rfl
 |(n,v)::r,m,h=>by
  unfold bindL;rw[xq λw a=>h w (bT _ a)];split
  .have:x≠n:=by rintro rfl;exact h v b8
   simp[this]
  .rfl
theorem xm{kindOf:Str->Option NameKind}{x:Str}:∀{binds:List (Str×Value)} {m:av},(∀v,(x,v)∉binds)->bindC kindOf binds m x=m x
 |[],_,_=>rfl
 |(n,v)::r,m,h=>by
  unfold bindC;rw[xm λw a=>h w (bT _ a)];split
  .rfl
  .have:x≠n:=by rintro rfl;exact h v b8
   simp[this]
theorem xo{kindOf:Str->Option NameKind}{x:Str}{v:Value}:∀{P:List Str} {vs:List Value} {i:Nat} {m:av},P.Nodup->P[i]?=some x->vs[i]?=some v->kindOf x=some .local->
  bindL kindOf (P.zip vs) m x=some v
 |[],_,_,_,_,h,_,_=>by simp at h
 |_::_,[],_,_,_,_,h,_=>by simp at h
 |p::P,w::vs,0,m,nd,h1,h2,hk=>by
  simp at h1 h2;subst h1;subst h2;show bindL kindOf ((p,w)::P.zip vs) m p=_;unfold bindL;rw[xq λv a=>(lG.mp nd).1 (of_mem_zip a).1,aj hk];simp
 |p::P,w::vs,i+1,m,nd,h1,h2,hk=>by
  show bindL kindOf ((p,w)::P.zip vs) m x=_;unfold bindL;exact xo (i:=i) (lG.mp nd).2 (by simpa using h1) (by simpa using h2) hk
theorem xj{kindOf:Str->Option NameKind}{x:Str}{v:Value}:∀{P:List Str} {vs:List Value} {i:Nat} {m:av},P.Nodup->P[i]?=some x->vs[i]?=some v->kindOf x≠some .local->
  bindC kindOf (P.zip vs) m x=some v
 |[],_,_,_,_,h,_,_=>by simp at h
 |_::_,[],_,_,_,_,h,_=>by simp at h
 |p::P,w::vs,0,m,nd,h1,h2,hk=>by
  simp at h1 h2;subst h1;subst h2;show bindC kindOf ((p,w)::P.zip vs) m p=_;unfold bindC;rw[xm λv a=>(lG.mp nd).1 (of_mem_zip a).1,ai hk];simp
 |p::P,w::vs,i+1,m,nd,h1,h2,hk=>by
  show bindC kindOf ((p,w)::P.zip vs) m x=_;unfold bindC;exact xj (i:=i) (lG.mp nd).2 (by simpa using h1) (by simpa using h2) hk
def start(N:List Str)(vs:List V):St:=vs.map some++replicate (N.length - vs.length) none
def bQ(CX:fK)(P:Program)(w:World)(K:Frag)(mg:av)(base:Heap)(N:List Str)(qual:Str)(scope:Scope)(f:Addr)(cd:Value)(A:Around)(outer:List Env)(s:Shared)(H:Hp)(E:XK):Cx where
 prog:=P
 w:=w
 K:=K
 mg:=mg
 base:=base
 A:=A.deeper (envOfC qual scope s.heap.objs.size f cd)
 N:=N
 s₀:=s
 H₀:=H
 env:=envOfC qual scope s.heap.objs.size f cd
 outer:=outer
 stack:=envOfC qual scope s.heap.objs.size f cd::outer
 ex:=[]
 calm:=true
 fn:=λ_=>true
 pn:=[]
 xe:=λe s'=>wpAny (model P w) (A.deeper (envOfC qual scope s.heap.objs.size f cd)) (leaving (envOfC qual scope s.heap.objs.size f cd) e) (λ_ s''=>CX outer H s E e s'') (λe' s''=>CX outer H s E e' s'') s'
theorem xC{sc:Scope}{n:Nat}{x:Str}(h:sc.names.lookup x=some .cell):∃c,(cellsFrom n sc.names []).lookup x=some c:=by
 have q:=PySem.W.cellsFrom_some sc.names n [] (.inl h);exact Option.isSome_iff_exists.mp q
theorem GW{CX:fK}{P:Program}{w:World}{K:Frag}{mg:av}{base:Heap}{N ps:List Str}{qual:Str}{scope:Scope}{f:Addr}{cd:Value}{A:Around}{outer:List Env}{s o:Shared}{H:Hp}{E:XK}{m:List Value}{vs:List V}
  (S:bq N ps scope)(hd:A.handled=none)(d:oQ P w K mg base A outer s H)(F:vs.length=ps.length)(r:Vals vs m)
  (x:InCallC s s.heap.objs.size (bindL (envOfC qual scope s.heap.objs.size f cd).kindOf (ps.zip m) λ_=>none) (cellsFrom (s.heap.objs.size+1) scope.names []) (bindC (envOfC qual scope s.heap.objs.size f cd).kindOf (ps.zip m) λ_=>none) o):
  Inv (bQ CX P w K mg base N qual scope f cd A outer s H E) [] (start N vs) H o:=by
 have B:ps.length<=N.length:=by have:=dh List.length S.pre;rw[e_] at this;omega
 obtain⟨h1,tk,rfl,hk⟩:=x.done
 have g:∀b:Addr,b∉(bQ CX P w K mg base N qual scope f cd A outer s H E).ex:=λb z=>absurd (show b∈([]:List Addr) from z) (by simp)
 refine⟨⟨d.mod,S.kind,rfl,rfl,aF _,λy z c h1 h2=> ?_,λy hy=> ?_,λy c _ h=> ?_,λ_=>hd,Around.frames_deeper d.frames,.inr ⟨rfl,rfl⟩,λb z=>absurd z (g b),d.bs,d.jA,λb _ _=>g b,λb z=>absurd z (g b),d.gW,d.kO⟩,
  rfl,d.bare,Un.kept hk,⟨_,x.toInCall.ns,λi y v h1 h2 h3=> ?_⟩,λy c h=>⟨_,x.cell y c h⟩,d.hok.fresh (aF _),λy c h=> ?_,λp j=>absurd (show p∈([]:aO) from j) (by simp),d.hok.kept hk,?_⟩
 .exact name_of_addr x.apart (jm h1) (jm h2)
 .have hy:scope.names.lookup y=some .cell\/scope.names.lookup y=some .free:=hy
  rcases hy with hy|hy
  .exact xC hy
  .exact absurd rfl (S.uH _ (jm hy))
 .exact iU (x.above y c (jm h))
 .have hi:i<vs.length:=by
   unfold start at h2
   by_cases hi:i<vs.length
   .exact hi
   .rw[jt (by simpa using hi)] at h2
    rw[List.getElem?_replicate] at h2
    split at h2<;>cases h2
  have C:vs[i]? =some v:=by
   unfold start at h2
   rw[fZ (by simpa using hi),bF] at h2
   cases e:vs[i]? with
   |none=>rw[e] at h2;cases h2
   |some a=>rw[e] at h2;cases h2;rfl
  obtain⟨u,t,D⟩:=r.get C
  have j:ps[i]? =some y:=by
   rw[<-S.pre,List.getElem?_take_of_lt (by omega)];exact h1
  have l:ps.Nodup:=by rw[<-S.pre];exact S.nd.sublist (fX _ _)
  refine⟨u,D,?_⟩
  rcases S.par y (iP j) with k|k
  .exact .inl ⟨k,xo l j t k⟩
  .obtain⟨c,e⟩:=xC (n:=s.heap.objs.size+1) k
   refine .inr ⟨.inl k,c,e,?_⟩
   have q:=x.cell y c e
   rw[xj l j t (by show scope.names.lookup y≠_;rw[k];decide)] at q
   exact q
 .exact d.hok.fresh (iU (x.above y c (jm h)))
 .unfold start
  show _=N.length
  rw[bR,bC,List.length_replicate]
  omega
theorem yx{CX:fK}{P:Program}{w:World}{K:Frag}{mg:av}{base:Heap}{k:Nat}{f:Addr}{name qual:Str}{params:Arguments}{body:List Stmt}{scope:Scope}{p kV doc pm a ct C:Value}{an D:Option Addr}
  {i:Array (Option Value)}{N ps:List Str}{sp:Sp}(lk:K.lookup f=some ⟨C,D,.func (fnOf name qual params body scope p kV doc pm an a ct),i⟩)(j:codeIn K a qual=true)(S:bq N ps scope)
  (len:∀vs H Q E,sp vs H Q E->vs.length=ps.length)
  (c:∀(A:Around) (outer:List Env) (s:Shared) (H:Hp) (vs:List V) (Q:VK) (E:XK),cC k (A.deeper (envOfC qual scope s.heap.objs.size f a))->sp vs H Q E->
   ∃t,cB (bQ CX P w K mg base N qual scope f a A outer s H E) body t/\t {nx:=λ_ H'=>Q .aD H',rt:=Q} (start N vs) H):
  dM P w K mg base CX (k+1) f (fnOf name qual params body scope p kV doc pm an a ct) ps sp:=by
 refine⟨len,λA outer s H args F vs Q E l g G r h=> ?_⟩
 have L:=len _ _ _ _ h
 have z:K.In s.heap:=g.mod.p8.keeps λb o e=>(g.bs b o e).1
 have lim:s.heap.NoLimit:=g.mod.nolimit.keeps λb o e=>(g.bs b o e).1
 have d:∀y∈ps.zip F,scope.names.lookup y.1=some .local\/(scope.names.lookup y.1=some .cell/\((cellsFrom (s.heap.objs.size+1) scope.names []).lookup y.1).isSome=true):=λ⟨n,v⟩ M=>by
  rcases S.par n (of_mem_zip M).1 with q|q
  .exact .inl q
  .exact .inr ⟨q,PySem.W.cellsFrom_some _ _ _ (.inl q)⟩
 refine codeAny_call_function l.depth (z _ _ lk) rfl S.co S.gen rfl (PySem.W.codeRec_of z j) (G _ _ _ _ ?_)
 refine wpAny_newFunctionEnv_cells S.kind d λenv O B x=> ?_
 subst O
 refine⟨lim.keeps x.toInCall.keep,codeAny_func ?_⟩
 obtain⟨t,R,hq⟩:=c A outer s H vs Q E (l.deeper _) h
 have I:Inv (bQ CX P w K mg base N qual scope f a A outer s H E) [] (start N vs) H B:=GW S l.hd g L r x
 refine h_ (R [] B (start N vs) H _ I hq) (λfl s' hs=> ?_) λe s' hs=>hs
 have fin:∀{σ':St} {H':Hp} {v:V} {u:Value},Inv (bQ CX P w K mg base N qual scope f a A outer s H E) [] σ' H' s'->RelV v u->Q v H'->CE outer P w H s Q u s':=
  λ {σ' H' v u} J m q=>⟨v,H',J.os,J.bare,J.base,J.hok,m,q⟩
 cases fl with
 |ret u=>
  obtain⟨v,σ',H',J,m,q⟩:=hs
  exact fin J m q
 |next=>
  obtain⟨σ',H',J,q⟩:=hs
  exact fin (v:=V.aD) (u:=Value.none) J rfl q
 |brk=>
  obtain⟨_,_,_,q⟩:=hs
  exact False.elim q
 |cont=>
  obtain⟨_,_,_,q⟩:=hs
  exact False.elim q
section
variable{X:Cx}{x:Str}{p pos:Pos}{e:Expr}{es:List Expr}{t:TA}{id T:String}{r:List V->Hp->VK->Prop}
def vf(r:List V->Hp->VK->Prop)(t:TA):TE:=λσ H Q=>t σ H λvs H1=>r vs H1 Q
theorem Aa(hc:dY X (.builtin id) r)(c:Gl X x)(d:X.mg x=none)(f:bootBuiltins x=some (.builtin id))(g:PA X (e::es) t)(hn:x≠"__name__":=by decide)(a:(x==("__debug__":Str))=false:=by decide)
  (i:starEach (e::es) X.env=(false,eval e X.env)::starEach es X.env:=by rfl)(b:(backTo pos (starEach es X.env)).any (·.1)=false:=by rfl):PE X (.Call (.Name x p) (e::es) [] pos) (vf r t):=by
 intro pins s σ H Q I h;refine j3 (jJ I c d f ?_ hn a);exact PyProof.Rows.callWith_builtin1 (aG (g pos pins s σ H _ I h) λj k ⟨vs,H1,l,m,n⟩=>hc pins k σ H1 vs j Q l m n) i b
theorem Jw(hc:dY X (.type T) r)(c:Gl X x)(d:X.mg x=none)(f:bootBuiltins x=some (.type T))(g:PA X (e::es) t)(hn:x≠"__name__":=by decide)(a:(x==("__debug__":Str))=false:=by decide)
  (i:starEach (e::es) X.env=(false,eval e X.env)::starEach es X.env:=by rfl)(b:(backTo pos (starEach es X.env)).any (·.1)=false:=by rfl):PE X (.Call (.Name x p) (e::es) [] pos) (vf r t):=by
 intro pins s σ H Q I h;refine j3 (jJ I c d f ?_ hn a);exact rE (aG (g pos pins s σ H _ I h) λj k ⟨vs,H1,l,m,n⟩=>hc pins k σ H1 vs j Q l m n) i b
end
end L2
end
namespace HT
open PySem PyProof.Rows
section
variable{prog:Program}{w:World}{A:Around}{E:aA}{s:Shared}
theorem Dh{t b:Addr}{vs ws:List Value}{Q:aA}(l:IsTup s.heap t vs.toArray)(m:IsTup s.heap b ws.toArray)(i:vs≠[])
  (h1:ws=[]->Q (.ref t) s)(h2:ws≠[]->Q (.ref s.heap.objs.size) {s with heap:=s.heap.push {cls:= .type "tuple",data:= .seq (vs++ws).toArray}})
  (hsz:vs.length+ws.length<=sizeLine):wpAny (model prog w) A (binaryOp .Add (.ref t) (.ref b)) Q E s:=by
 obtain⟨⟨cls,dd,data,j⟩,g,hc,n,hd⟩:=id l
 obtain⟨⟨k,c,data2,d⟩,a,f,n2,hd2⟩:=id m
 simp only at hc hd f hd2
 subst hc hd f hd2
 have e:vs.toArray++ws.toArray=(vs++ws).toArray:=by simp
 by_cases h:ws=[]
 .exact concat_meets ⟨_,g,rfl⟩ ⟨_,a,rfl⟩ noFill_tuple_add seq_tuple_add slot_tuple_add entry_tuple_add (args_tuple_add_2 _ _)
   (tuple_addW1 t b vs.toArray ws.toArray n n2 dd c j d (by simpa using i) (by simp[h])) ⟨g,a,h1 h⟩
 .refine concat_meets ⟨_,g,rfl⟩ ⟨_,a,rfl⟩ noFill_tuple_add seq_tuple_add slot_tuple_add entry_tuple_add (args_tuple_add_2 _ _)
   (tuple_addW2 t b vs.toArray ws.toArray n n2 dd c j d (by simpa using i) (by simpa using h) (by rw[bV,bV];exact hsz)) ⟨g,a,?_⟩
  rw[e]
  exact h2 h
def aK(n d:Nat):Option Int->Nat
 |none=>d
 |some v=>if v<0 then (v+(n:Int)).toNat else min v.toNat n
theorem K3(n d:Nat)(hd:d<=n)(o:Option Int):aK n d o<=n:=by
 cases o with
 |none=>exact hd
 |some v=>
  show(if v<0 then (v+(n:Int)).toNat else min v.toNat n)<=n;by_cases a:v<0
  .rw[aj a];omega
  .rw[ai a];exact Nat.min_le_right _ _
theorem xD(v:Int)(n d:Nat):(if v<0 then max (v+(n:Int)) 0 else min v (n:Int))=((aK n d (some v):Nat):Int):=by
 show(if v<0 then max (v+(n:Int)) 0 else min v (n:Int))=(((if v<0 then (v+(n:Int)).toNat else min v.toNat n):Nat):Int);by_cases a:v<0
 .simp only[aj a];omega
 .simp only[ai a];omega
theorem CM(lo hi:Option Int)(n:Nat):Builtin.Slice.sliceAdjust lo hi 1 (n:Int)=(((aK n 0 lo:Nat):Int),((aK n n hi:Nat):Int)):=by
 have h1:¬((1:Int)<0):=by omega
 unfold Builtin.Slice.sliceAdjust;simp only[h1,bW];refine Prod.ext ?_ ?_
 .cases lo with
  |none=>rfl
  |some v=>exact xD v n 0
 .cases hi with
  |none=>rfl
  |some v=>exact xD v n n
theorem J2(i j:Nat):Builtin.Slice.slicePlaces (i:Int) (j:Int) 1=j - i:=by
 unfold Builtin.Slice.slicePlaces;have h1:(1:Int)>0:=by omega
 simp only[h1,f5,Int.ediv_one];split<;>omega
theorem BI{v:Value}{o:Option Int}{Q:Option Int->Shared->Prop}(p:IsPart v o)(h:Q o s):wpAny (model prog w) A (Builtin.Slice.slicePartIndex v) Q E s:=by
 cases p with
 |none=>exact slicePart_none h
 |int i t=>exact slicePart_int h
theorem LM{e:Addr}{c d:Value}{lo hi:Option Int}{n:Nat}{Q:Int×Int×Nat->Shared->Prop}(hs:s.heap.IsSliceOf e c d .none)(pl:IsPart c lo)(pu:IsPart d hi)
  (h:Q (((aK n 0 lo:Nat):Int),1,aK n n hi - aK n 0 lo) s):wpAny (model prog w) A (Builtin.Slice.sliceApplied (.ref e) (pure (n:Int))) Q E s:=by
 obtain⟨os,a,f,b⟩:=id hs;unfold Builtin.Slice.sliceApplied Builtin.Slice.sliceFields;refine aa (aa (gz a b (x:=c) rfl (aa (gz a b (x:=d) rfl (aa (gz a b (x:=.none) rfl (ak ?_)))))));refine aa (slicePart_none ?_);show wpAny _ _ (if ((1:Int)==0)=true then _ else _) _ _ s;rw[ai (by decide)];refine aa (BI pl (aa (BI pu (aa (ak ?_)))));show wpAny _ _ (match Builtin.Slice.sliceAdjust lo hi 1 (n:Int) with|(lo,hi)=>pure (lo,(1:Int),Builtin.Slice.slicePlaces lo hi 1)) _ _ s;rw[CM lo hi n];show wpAny _ _ (pure (((aK n 0 lo:Nat):Int),(1:Int),Builtin.Slice.slicePlaces ((aK n 0 lo:Nat):Int) ((aK n n hi:Nat):Int) 1)) _ _ s;rw[J2];exact ak h
theorem JY(xs:Array Value)(i k:Nat):((range k).filterMap λ(m:Nat)=>xs[((i:Int)+(m:Int)*1).toNat]?).toArray=((xs.toList.drop i).take k).toArray:=by
 have e:(λ(m:Nat)=>xs[((i:Int)+(m:Int)*1).toNat]?)=λm=>xs[i+m]? :=by
  funext m;have:((i:Int)+(m:Int)*1).toNat=i+m:=by omega
  rw[this]
 rw[e];have:=pick_run xs i k;rw[List.filterMap_map] at this;have a:((λx=>xs[x]?)∘λx=>i+x)=λm=>xs[i+m]? :=rfl;rw[a] at this;rw[this]
theorem Gg{t c:Addr}{items:Array Value}{i j:Value}{lo hi:Option Int}{Q:aA}(b:IsTup s.heap t items)(hs:s.heap.IsSliceOf c i j .none)(pl:IsPart i lo)(pu:IsPart j hi)
  (k:¬(aK items.size 0 lo=0/\aK items.size items.size hi=items.size))
  (h:Q (.ref s.heap.objs.size) {s with heap:=s.heap.push {cls:= .type "tuple",data:= .seq ((items.toList.drop (aK items.size 0 lo)).take (aK items.size items.size hi - aK items.size 0 lo)).toArray}})
  (hsz:items.size<=sizeLine):wpAny (model prog w) A (getItem (.ref t) (.ref c)) Q E s:=by
 have a:sizeOk (.seq ((items.toList.drop (aK items.size 0 lo)).take (aK items.size items.size hi - aK items.size 0 lo)).toArray):=by
  show((items.toList.drop (aK items.size 0 lo)).take (aK items.size items.size hi - aK items.size 0 lo)).toArray.size<=sizeLine
  rw[bV,e_,fh,bE]
  omega
 have n:aK items.size items.size hi<=items.size:=K3 _ _ (aF _) hi
 obtain⟨os,d,e,l⟩:=id hs
 have f:s.TypeIs (.ref c) "slice":=⟨os,d,e⟩
 unfold getItem
 try with_reducible refine dU ?_
 first|refine aa (ak ?_)|skip
 refine aa (wpAny_sequenceKey b.typeIs (by decide) ?_)
 refine aa (j5 (name:=Str.ofString "__getitem__") b.typeIs vD
  (gy vD b.typeIs entry_tuple_getitem ?_ (args_tuple_getitem _ _)))
 show wpAny _ _ (Builtin.Tuple.tupleItemsOf (.ref t)>>=_) _ _ s
 refine aa (tupleItemsOf_ b ?_)
 refine aa (iR f ?_)
 rw[aj (by decide)]
 refine aa (LM hs pl pu ?_)
 have g:¬((((aK items.size 0 lo:Nat):Int)==0&&(1:Int)==1&&(aK items.size items.size hi - aK items.size 0 lo)==items.size)=true):=by
  intro q
  rw[fF,fF] at q
  have o:((aK items.size 0 lo:Nat):Int)=0:=lU q.1.1
  have p:aK items.size items.size hi - aK items.size 0 lo=items.size:=lU q.2
  exact k ⟨by omega,by omega⟩
 show wpAny _ _ (if (((aK items.size 0 lo:Nat):Int)==0&&(1:Int)==1&&(aK items.size items.size hi - aK items.size 0 lo)==items.size)=true then _ else _) _ _ s
 rw[ai g,JY]
 first
  |exact aa (m:=Builtin.Tuple.tupleExact _) (dH (ak ⟨_,rfl,ak h⟩) a)
  |exact aa (m:=Builtin.Tuple.tupleExact _) (dH (aa (ak (ak ⟨_,rfl,ak h⟩))) a)
  |exact aa (aa (m:=Builtin.Tuple.tupleExact _) (dH (ak (ak ⟨_,rfl,ak h⟩)) a))
  |exact aa (aa (m:=Builtin.Tuple.tupleExact _) (dH (ak ⟨_,rfl,ak h⟩) a))
end
end HT
section
open PySem PySem.Spec PyProof.Rows
namespace L2
abbrev TO:=St->Hp->(Option Int->Hp->Prop)->Prop
def PO(X:Cx)(e:Option Expr)(t:TO):Prop:=
 ∀(pins:aO) (s:Shared) (σ:St) (H:Hp) (Q:Option Int->Hp->Prop),Inv X pins σ H s->t σ H Q->
  wpAny (model X.prog X.w) X.A (evalPart e X.env) (λu s'=>∃o H',Inv X pins σ H' s'/\IsPart u o/\Q o H') X.xe s
def Mq:TO:=λ_ H Q=>Q none H
def Mw(t:TE):TO:=λσ H Q=>t σ H λx H1=>∃i,x=.int i/\Q (some i) H1
section
variable{X:Cx}{e:Expr}{te:TE}{lo hi:Option Expr}{tl th:TO}{pos p2:Pos}
theorem J5:PO X none Mq:=by
 intro pins s σ H Q I h;rw[evalPart_none];exact ak ⟨none,H,I,.none,h⟩
theorem J6(h:PE X e te):PO X (some e) (Mw te):=by
 intro pins s σ H Q I a;rw[evalPart_some];refine aG (h pins s σ H _ I a) λu f ⟨x,H1,b,c,d⟩=>?_;obtain⟨i,rfl,q⟩:=d;obtain⟨t,rfl⟩:=c;exact⟨some i,H1,b,.int i t,q⟩
def jx(X:Cx)(r:V->Option Int->Option Int->Hp->VK->Prop):Prop:=
 ∀(pins:aO) (s:Shared) (σ:St) (H:Hp) (x:V) (v vl vu:Value) (lo hi:Option Int) (sl:Addr) (Q:VK),Inv X pins σ H s->RelV x v->s.heap.IsSliceOf sl vl vu .none->IsPart vl lo->IsPart vu hi->r x lo hi H Q->
  ∃T id,typeLookup (.type T) "__getitem__"=pure (some (.builtin id))/\s.TypeIs v T/\wpAny (model X.prog X.w) X.A (getItem v (.ref sl)) (EP X pins σ Q) X.xe s
theorem jx.or{r r':V->Option Int->Option Int->Hp->VK->Prop}(h:jx X r)(h':jx X r'):jx X (λx lo hi H Q=>r x lo hi H Q\/r' x lo hi H Q):=by
 intro pins s σ H x v a b lo hi c Q I d hs pl pu q;rcases q with q|q
 .exact h pins s σ H x v a b lo hi c Q I d hs pl pu q
 .exact h' pins s σ H x v a b lo hi c Q I d hs pl pu q
def ME(r:V->Option Int->Option Int->Hp->VK->Prop)(te:TE)(tl th:TO):TE:=λσ H Q=>te σ H λx H1=>tl σ H1 λl H2=>th σ H2 λu H3=>r x l u H3 Q
theorem JM{r:V->Option Int->Option Int->Hp->VK->Prop}(g:jx X r)(i:PE X e te)(j:PO X lo tl)(k:PO X hi th):PE X (.Subscript e (.Slice lo hi none p2) pos) (ME r te tl th):=by
 intro pins s σ H Q I h;refine Subscript_ (aG (i pins s σ H _ I h) λv m ⟨x,H1,n,o,p⟩=>?_);refine wpAny_Slice (aG (j pins m σ H1 _ n p) λc t ⟨l,H2,y,pl,z⟩=>aG (k pins t σ H2 _ y z) λd a ⟨u,f,B,pu,C⟩=>?_);rw[evalPart_none];refine ak ?_;have D:Inv X pins σ f {a with heap:=a.heap.push {cls:=.type "slice",data:=.fields #[c,d,.none]}}:=B.kept (t':=a.toks) λb J q=>aR _ q;obtain⟨T,id,E,F,G⟩:=g pins {a with heap:=a.heap.push {cls:=.type "slice",data:=.fields #[c,d,.none]}} σ f x v c d l u a.heap.objs.size Q D o (Heap.IsSliceOf.new ..) pl pu C;show wpAny (model X.prog X.w) X.A (subscriptTail e (.Slice lo hi none p2) v (.ref a.heap.objs.size)) (EP X pins σ Q) X.xe {a with heap:=a.heap.push {cls:=.type "slice",data:=.fields #[c,d,.none]}};exact tail_any (ops:=[.ref a.heap.objs.size,v]) F E G (by with_unfolding_all rfl)
def iY(xs:List V)(lo hi:Option Int):List V:=(xs.drop (HT.aK xs.length 0 lo)).take (HT.aK xs.length xs.length hi - HT.aK xs.length 0 lo)
theorem xJ(xs:List V)(lo hi:Option Int):(iY xs lo hi).length<=xs.length:=by
 unfold iY;rw[e_,fh];omega
def KH(K:Frag):V->Option Int->Option Int->Hp->VK->Prop:=λx lo hi H Q=>∃a xs,x=.ref a/\bf K H a xs/\
 ¬(HT.aK xs.length 0 lo=0/\HT.aK xs.length xs.length hi=xs.length)/\∀p,H p=none->Q (.ref p) (upd H p (.tup (iY xs lo hi)))
theorem LL:jx X (KH X.K):=by
 intro pins s σ H x v i j lo hi k Q I e hs pl pu h;obtain⟨a,xs,rfl,f,g,q⟩:=h;cases e;obtain⟨its,r,d,hz⟩:=I.tuple f;have c:its.toArray.size=xs.length:=by rw[bV];exact r.length.symm
 refine⟨"tuple",_,vD.lookup,d.typeIs,?_⟩;refine HT.Gg d hs pl pu (by rw[c];exact g) ?_ (by rw[c];exact hz);rw[c];refine⟨.ref s.heap.objs.size,_,I.laid (t':=s.toks) (o:=.tup (iY xs lo hi)) (λb l q=>aR _ q) (aF _) ?_,rfl,q _ (I.hok.fresh (aF _))⟩;exact⟨cP (xJ xs lo hi) hz,_,(r.drop (HT.aK xs.length 0 lo)).take (HT.aK xs.length xs.length hi - HT.aK xs.length 0 lo),jz.new _ _⟩
def KC(K:Frag):R2:=λx y H Q=>∃a b xs ys,x=.ref a/\y=.ref b/\bf K H a xs/\bf K H b ys/\xs≠[]/\xs.length+ys.length<=sizeLine/\
 (ys=[]->Q (.ref a) H)/\(ys≠[]->∀p,H p=none->Q (.ref p) (upd H p (.tup (xs++ys))))
theorem Vals.uG{xs:List V}{a:List Value}(r:Vals xs a):a=[]↔xs=[]:=by
 cases r with
 |nil=>simp
 |cons _ _=>simp
theorem I8:aT X (binaryOp .Add) (KC X.K):=by
 intro pins s σ H x y v u Q I f g h;obtain⟨a,b,xs,ys,rfl,rfl,i,j,k,hz,l,m⟩:=h;cases f;cases g;obtain⟨its,d,p1,_⟩:=I.tuple i;obtain⟨e,c,p2,_⟩:=I.tuple j;refine HT.Dh p1 p2 (λz=>k (d.uG.mp z)) (λz=>⟨.ref a,H,I,rfl,l (c.uG.mp z)⟩) (λz=>?_) (by rw[<-d.length,<-c.length];exact hz);refine⟨.ref s.heap.objs.size,_,I.laid (t':=s.toks) (o:=.tup (xs++ys)) (λb n q=>aR _ q) (aF _) ?_,rfl,m (λw=>z (c.uG.mpr w)) _ (I.hok.fresh (aF _))⟩;exact⟨by rw[bR];exact hz,_,d.append c,jz.new _ _⟩
end
def jF(n:Nat)(i:Int):Option Nat:=if 0<=i then (if i<n then some i.toNat else none) else if -(n:Int)<=i then some (i+n).toNat else none
def cG{α:Type}(xs:List α)(i:Int):Option α:=(jF xs.length i).bind λj=>xs[j]?
theorem G1{n:Nat}{i:Int}{j:Nat}(h:jF n i=some j):seqIndex? i n=some j/\j<n/\-(n:Int)<=i/\i<n:=by
 unfold jF at h;by_cases h0:0<=i
 .rw[aj h0] at h
  by_cases h1:i<n
  .rw[aj h1] at h
   have e:i.toNat=j:=Option.some.inj h;exact⟨by rw[seqIndex_of h0 h1,e],by omega,by omega,h1⟩
  .rw[ai h1] at h;cases h
 .rw[ai h0] at h
  by_cases h1: -(n:Int)<=i
  .rw[aj h1] at h
   have e:(i+n).toNat=j:=Option.some.inj h;exact⟨by rw[seqIndex_neg (by omega) h1,e],by omega,h1,by omega⟩
  .rw[ai h1] at h;cases h
theorem sD{α:Type}{xs:List α}{i:Int}{v:α}(h:cG xs i=some v):∃j,seqIndex? i xs.length=some j/\xs[j]?=some v/\j<xs.length/\-(xs.length:Int)<=i/\i<xs.length:=by
 unfold cG at h;cases e:jF xs.length i with
 |none=>rw[e] at h;cases h
 |some j=>
  rw[e] at h;obtain⟨h1,h2,h3,a⟩:=G1 e;exact⟨j,h1,h,h2,h3,a⟩
def sf(b:Expr):Prop:=∀o i,subscripted b false o i=operate [o,i] (getItem o i)
def f6(X:Cx)(r:R2):Prop:=
 ∀(value slice:Expr) (pins:aO) (s:Shared) (σ:St) (H:Hp) (x y:V) (v u:Value) (Q:VK),Inv X pins σ H s->RelV x v->RelV y u->r x y H Q->
  subscripted slice false v u=operate [v,u] (getItem v u)->wpAny (model X.prog X.w) X.A (subscriptTail value slice v u) (EP X pins σ Q) X.xe s
def we(X:Cx)(id:String)(r:V->List V->Hp->VK->Prop):Prop:=
 ∀(pins:aO) (s:Shared) (σ:St) (H:Hp) (x:V) (xs:List V) (v:Value) (us:List Value) (Q:VK),Inv X pins σ H s->RelV x v->Vals xs us->r x xs H Q->
  wpAny (model X.prog X.w) X.A (call (.builtin id) (v::us)) (EP X pins σ Q) X.xe s
section
variable{X:Cx}{a b:Expr}{ta tb:TE}{pos:Pos}
theorem f6.or{r r':R2}(h:f6 X r)(h':f6 X r'):f6 X (λx y H Q=>r x y H Q\/r' x y H Q):=by
 intro value slice pins s σ H x y v u Q I a b q hs;rcases q with q|q
 .exact h value slice pins s σ H x y v u Q I a b q hs
 .exact h' value slice pins s σ H x y v u Q I a b q hs
theorem JF{r:R2}(c:f6 X r)(d:PE X a ta)(e:PE X b tb)(hs:sf b):PE X (.Subscript a b pos) (nU r ta tb):=by
 intro pins s σ H Q I h;exact Subscript_ (sH d e I h λv u f x y H2 g i j q=>c a b pins f σ H2 x y v u Q g i j q (hs _ _))
def AB(K:Frag):R2:=λx y H Q=>∃p xs i v,x=.ref p/\y=.int i/\aX K H p xs/\cG xs i=some v/\Q v H
def AE(K:Frag):R2:=λx y H Q=>∃p xs i v,x=.ref p/\y=.int i/\bf K H p xs/\cG xs i=some v/\Q v H
def AD:R2:=λx y H Q=>∃z i c,x=.str z/\y=.int i/\z.length<=sizeLine/\cG z.cps.toList i=some c/\Q (.str ⟨#[c]⟩) H
theorem G3:f6 X (AB X.K):=by
 intro value slice pins s σ H x y v u Q I d e h hs;obtain⟨p,xs,i,z,rfl,rfl,hq,f,q⟩:=h;cases d;obtain⟨t,rfl⟩:=e;obtain⟨its,r,pl,hz⟩:=I.list hq;obtain⟨j,h1,h2,h3,g,k⟩:=sD f;obtain⟨w,c,a⟩:=r.get h2;have l:=r.length;have hn:=ni;have fin:EP X pins σ Q w s:=⟨z,H,I,a,q⟩;by_cases h0:0<=i
 .have b:i.toNat=j:=by
   rw[seqIndex_of h0 k] at h1;exact Option.some.inj h1
  exact item_listR pl.isList h0 (by omega) (by rw[b];simpa using c) fin hs
 .have b:(i+(its.toArray.size:Int)).toNat=j:=by
   rw[seqIndex_neg (by omega) g] at h1;rw[bV,<-l];exact Option.some.inj h1
  exact subscriptTail_builtinR (x:=w) pl.isList.typeIs slot_list_getitem.lookup
   (wpAny_getItem_list_neg (Q:=λr s'=>r=w/\EP X pins σ Q r s') pl.isList (by omega) (by rw[bV]<;>omega) (by omega) (by rw[b];simpa using c) ⟨rfl,fin⟩) hs
theorem G7:f6 X (AE X.K):=by
 intro value slice pins s σ H x y v u Q I b c h hs;obtain⟨p,xs,i,z,rfl,rfl,hq,d,q⟩:=h;cases b;obtain⟨t,rfl⟩:=c;obtain⟨its,r,pl,hz⟩:=I.tuple hq;obtain⟨j,h1,h2,h3,g,k⟩:=sD d;obtain⟨w,e,a⟩:=r.get h2;have f:=r.length;have hn:=ni;have fin:EP X pins σ Q w s:=⟨z,H,I,a,q⟩;exact subscriptTail_builtinR (x:=w) pl.typeIs slot_tuple_getitem.lookup
  (getItem_tuple (j:=j) (Q:=λr s'=>r=w/\EP X pins σ Q r s') pl (by omega) (by omega) (by rw[bV,<-f];exact h1) (by simpa using e) ⟨rfl,fin⟩) hs
theorem G6:f6 X AD:=by
 intro value slice pins s σ H x y v u Q I a b h hs;obtain⟨z,i,c,rfl,rfl,hz,d,q⟩:=h;obtain⟨t,rfl⟩:=a;obtain⟨t',rfl⟩:=b;obtain⟨j,h1,h2,h3,e,f⟩:=sD d;have g:z.cps.toList.length=z.length:=by simp[Str.length]
 rw[g] at h1 e f;have hn:=ni;exact tail_any (typeIs_str s z t) slot_str_getitem.lookup (getItem_str (c:=c) (by
  have k:decide (i< -(2 ^ 63:Int))=false:=dW (by omega);have l:decide (i≥2 ^ 63)=false:=dW (by omega);rw[k,l,Bool.or_false]) (by rw[h1];simpa using h2) ⟨.str ⟨#[c]⟩,H,I.tok _,⟨_,rfl⟩,q⟩) hs
def Ay(K:Frag):R2:=λx y H Q=>AB K x y H Q\/AE K x y H Q\/AD x y H Q
theorem G5:f6 X (Ay X.K):=G3.or (G7.or G6)
theorem LO(lo hi:Option Int)(n:Nat):(sliceBounds lo hi none n).1=((HT.aK n 0 lo:Nat):Int)/\(sliceBounds lo hi none n).2.1=((HT.aK n n hi:Nat):Int)/\(sliceBounds lo hi none n).2.2=1:=by
 refine⟨?_,?_,rfl⟩
 .cases lo with
  |none=>simp[sliceBounds,HT.aK]
  |some i=>
   simp only[sliceBounds,HT.aK,getD_none,show(1:Int)>0 by decide,f5];by_cases h:i<0
   .simp only[h,f5]<;>omega
   .simp only[h,bW]<;>omega
 .cases hi with
  |none=>simp[sliceBounds,HT.aK]
  |some i=>
   simp only[sliceBounds,HT.aK,getD_none,show(1:Int)>0 by decide,f5];by_cases h:i<0
   .simp only[h,f5]<;>omega
   .simp only[h,bW]<;>omega
theorem LN(its:List Value)(lo hi:Option Int):slicePick its.toArray lo hi none=((its.drop (HT.aK its.length 0 lo)).take (HT.aK its.length its.length hi - HT.aK its.length 0 lo)).toArray:=by
 obtain⟨h1,h2,h3⟩:=LO lo hi its.toArray.size;unfold slicePick;rw[h1,h2,h3];simp only[sliceRange_one,pick_run,bV]<;>rfl
def KG(K:Frag):V->Option Int->Option Int->Hp->VK->Prop:=λx lo hi H Q=>∃a xs,x=.ref a/\aX K H a xs/\∀p,H p=none->Q (.ref p) (upd H p (.lst (iY xs lo hi)))
theorem LK:jx X (KG X.K):=by
 intro pins s σ H x v g i lo hi j Q I e hs pl pu h;obtain⟨a,xs,rfl,f,q⟩:=h;cases e;obtain⟨its,r,d,hz⟩:=I.list f;have c:=r.length;refine⟨"list",_,slot_list_getitem.lookup,d.isList.typeIs,?_⟩;refine wpAny_getItem_list_slice d.isList hs pl pu .none (by simp) ?_ (by rw[bV]<;>omega);rw[LN,<-c];refine⟨.ref s.heap.objs.size,_,I.laid (t':=s.toks) (o:=.lst (iY xs lo hi)) (λb k q=>aR _ q) (aF _) ?_,rfl,q _ (I.hok.fresh (aF _))⟩;exact⟨cP (xJ xs lo hi) hz,_,0,(r.drop (HT.aK xs.length 0 lo)).take (HT.aK xs.length xs.length hi - HT.aK xs.length 0 lo),bK _ rfl⟩
def gV:V->Bool
 |.aD=>true
 |.bl _=>true
 |.int _=>true
 |.str _=>true
 |_=>false
def fO:V->V->Bool
 |.aD,.aD=>true
 |.bl a,.bl b=>a==b
 |.bl a,.int b=>(if a then 1 else 0)==b
 |.int a,.bl b=>a==(if b then 1 else 0)
 |.int a,.int b=>a==b
 |.str a,.str b=>a==b
 |_,_=>false
theorem E9{A:Around}{s:Shared}{y x:V}{u v:Value}(d:RelV y u)(c:RelV x v)(e:gV y=true)(fx:gV x=true):SeqAt.EqAt A s u v (fO y x):=by
 cases y with
 |aD=>
  cases d;cases x with
  |aD=>cases c;exact SeqAt.EqAt.same _
  |bl b=>cases c;exact SeqAt.EqAt.none_bool b
  |int b=>obtain⟨t,rfl⟩:=c;exact SeqAt.EqAt.none_int b t
  |str b=>obtain⟨t,rfl⟩:=c;exact SeqAt.EqAt.none_str b t
  |_=>exact absurd (show false=true from fx) bP
 |bl a=>
  cases d;cases x with
  |aD=>cases c;exact SeqAt.EqAt.bool_none a
  |bl b=>cases c;exact SeqAt.EqAt.bool_bool a b
  |int b=>obtain⟨t,rfl⟩:=c;exact SeqAt.EqAt.bool_int a b t
  |str b=>obtain⟨t,rfl⟩:=c;exact SeqAt.EqAt.bool_str a b t
  |_=>exact absurd (show false=true from fx) bP
 |int a=>
  obtain⟨t',rfl⟩:=d;cases x with
  |aD=>cases c;exact SeqAt.EqAt.int_none a t'
  |bl b=>cases c;exact SeqAt.EqAt.int_bool a t' b
  |int b=>obtain⟨t,rfl⟩:=c;exact SeqAt.EqAt.int_int a t' b t
  |str b=>obtain⟨t,rfl⟩:=c;exact SeqAt.EqAt.int_str a t' b t
  |_=>exact absurd (show false=true from fx) bP
 |str a=>
  obtain⟨t',rfl⟩:=d;cases x with
  |aD=>cases c;exact SeqAt.EqAt.str_none a t'
  |bl b=>cases c;exact SeqAt.EqAt.str_bool a t' b
  |int b=>obtain⟨t,rfl⟩:=c;exact SeqAt.EqAt.str_int a t' b t
  |str b=>obtain⟨t,rfl⟩:=c;exact SeqAt.EqAt.str_str a t' b t
  |_=>exact absurd (show false=true from fx) bP
 |_=>exact absurd (show false=true from e) bP
def iB(x:V)(u:Value):Bool:=match u with
 |.none=>fO .aD x
 |.bool b=>fO (.bl b) x
 |.int i _=>fO (.int i) x
 |.str z _=>fO (.str z) x
 |_=>false
theorem yo{x y:V}{u:Value}(r:RelV y u)(f:gV y=true):iB x u=fO y x:=by
 cases y with
 |aD=>cases r;rfl
 |bl b=>cases r;rfl
 |int i=>obtain⟨t,rfl⟩:=r;rfl
 |str z=>obtain⟨t,rfl⟩:=r;rfl
 |_=>exact absurd (show false=true from f) bP
theorem sC{x:V}:∀{xs:List V} {a:List Value},Vals xs a->xs.all gV=true->a.any (iB x)=xs.any λy=>fO y x
 |_,_,.nil,_=>rfl
 |y::xs,u::a,.cons r t,f=>by
  rw[List.all_cons,fF] at f;rw[j8,j8,yo r f.1,sC t f.2]
theorem ux{A:Around}{s:Shared}{x:V}{v:Value}(b:RelV x v)(fx:gV x=true):∀{xs:List V} {a:List Value},Vals xs a->xs.all gV=true->∀u∈a,SeqAt.EqAt A s u v (iB x u)
 |_,_,.nil,_=>λu hu=>by cases hu
 |y::xs,u::a,.cons r t,f=>λc hu=>by
  rw[List.all_cons,fF] at f;rcases aQ.mp hu with rfl|hu
  .rw[yo r f.1];exact E9 r b f.1 fx
  .exact ux b fx t f.2 c hu
def pZ(x:V)(xs:List V):Bool:=xs.any λy=>fO y x
def Av(K:Frag)(neg:Bool):R2:=λx y H Q=>∃p xs,y=.ref p/\(aX K H p xs\/bf K H p xs)/\gV x=true/\xs.all gV=true/\Q (.bl (if neg then !pZ x xs else pZ x xs)) H
theorem Jm:aT X (compareOp .NotIn) (Av X.K true):=by
 intro pins s σ H x y v u Q I b c h;obtain⟨p,xs,rfl,hq,fx,fs,q⟩:=h;cases c;rcases hq with hq|hq
 .obtain⟨its,r,pl,hz⟩:=I.list hq
  refine SeqAt.notIn_listAt (iB x) pl.isList (λw a=>ux b fx r fs w (by simpa using a)) ⟨.bl _,H,I,rfl,?_⟩;rw[show its.toArray.any (iB x)=its.any (iB x) by simp,sC r fs];exact q
 .obtain⟨its,r,pl,hz⟩:=I.tuple hq
  refine SeqAt.notIn_tupleAt (iB x) pl (λw a=>ux b fx r fs w (by simpa using a)) ⟨.bl _,H,I,rfl,?_⟩;rw[show its.toArray.any (iB x)=its.any (iB x) by simp,sC r fs];exact q
theorem C6:dY X (.builtin "len") (λxs H Q=>∃p ys,xs=[.ref p]/\(aX X.K H p ys\/bf X.K H p ys)/\Q (.int ys.length) H):=by
 intro pins s σ H xs c Q I r h;obtain⟨p,ys,rfl,hq,q⟩:=h;obtain⟨u,rfl,b⟩:=vals1 r;cases b;have hn:=ni;rcases hq with hq|hq
 .obtain⟨its,r',pl,hz⟩:=I.list hq
  have a:=r'.length;exact Calls.call_len_list pl.isList (by simp only[bV]<;>omega) ⟨.int ys.length,H,I.tok _,⟨s.toks+1,by rw[bV,a]⟩,q⟩
 .obtain⟨its,r',pl,hz⟩:=I.tuple hq
  have a:=r'.length;exact len_tuple pl (by simp only[bV]<;>omega) ⟨.int ys.length,H,I.tok _,⟨s.toks+1,by rw[bV,a]⟩,q⟩
theorem C7:dY X (.builtin "len") (λxs H Q=>∃z,xs=[.str z]/\z.length<=sizeLine/\Q (.int z.length) H):=by
 intro pins s σ H xs a Q I r h;obtain⟨z,rfl,hz,q⟩:=h;obtain⟨u,rfl,t,rfl⟩:=vals1 r;have hn:=ni;exact len_str (by omega) ⟨.int z.length,H,I.tok _,⟨_,rfl⟩,q⟩
theorem dY.or{f:Value}{r r':List V->Hp->VK->Prop}(h:dY X f r)(h':dY X f r'):dY X f (λxs H Q=>r xs H Q\/r' xs H Q):=by
 intro pins s σ H xs a Q I rs q;rcases q with q|q
 .exact h pins s σ H xs a Q I rs q
 .exact h' pins s σ H xs a Q I rs q
def vv(K:Frag)(T:String)(x:V)(H:Hp):Prop:=match x with
 |.str _=>T="str"
 |.int _=>T="int"
 |.ref p=>(T="list"/\∃xs,aX K H p xs)\/(T="tuple"/\∃o,K.lookup p=some o/\o.cls=.type "tuple"/\o.dict=none)\/
  (T="dict"/\((∃kvs,H p=some (.dK kvs))\/∃kvs,H p=some (.dT kvs)))\/(T="set"/\∃S n,H p=some (.set S n))
 |_=>False
theorem M7{pins:aO}{σ:St}{H:Hp}{s:Shared}{T:String}{x:V}{v:Value}(I:Inv X pins σ H s)(r:RelV x v)(ty:vv X.K T x H):
  s.TypeIs v T/\∀a,v=.ref a->∃d,s.heap.get? a=some d/\d.dict=none:=by
 cases x with
 |str z=>
  obtain⟨t,rfl⟩:=r;cases (show T="str" from ty);exact⟨typeIs_str s z t,λ_ e=>nomatch e⟩
 |int i=>
  obtain⟨t,rfl⟩:=r;cases (show T="int" from ty);exact⟨typeIs_int s i t,λ_ e=>nomatch e⟩
 |ref p=>
  cases r;rcases ty with⟨rfl,xs,hq⟩|⟨rfl,o,hk,hc,hd⟩|⟨rfl,hk⟩|⟨rfl,S,n,hk⟩
  .obtain⟨its,_,pl,_⟩:=I.list hq
   refine⟨pl.isList.typeIs,λa e=>?_⟩;cases e;obtain⟨o,n,e,c,hd,_⟩:=pl;exact⟨o,e,hd⟩
  .refine⟨⟨o,I.dw p o hk,hc⟩,λa e=>?_⟩
   cases e;exact⟨o,I.dw _ o hk,hd⟩
  .have z:∃o,s.heap.get? p=some o/\o.ExactDict:=by
    rcases hk with⟨kvs,hk⟩|⟨kvs,hk⟩
    .obtain⟨_,_,_,_,o,_,_,e,ex,_⟩:=I.hok p _ hk
     exact⟨o,e,ex⟩
    .obtain⟨_,_,_,_,o,_,_,e,ex,_⟩:=I.hok p _ hk
     exact⟨o,e,ex⟩
   obtain⟨o,e,ex⟩:=z;refine⟨⟨o,e,ex.1⟩,λa b=>?_⟩;cases b;exact⟨o,e,ex.2.1⟩
  .obtain⟨o,_,_,_,e,ex,_⟩:=I.hok p _ hk
   refine⟨⟨o,e,ex.1⟩,λa b=>?_⟩;cases b;exact⟨o,e,ex.2.1⟩
 |_=>exact False.elim ty
def Me(K:Frag)(T:String)(r:V->List V->Hp->VK->Prop)(to:TE)(t:TA):TE:=λσ H Q=>to σ H λx H1=>vv K T x H1/\t σ H1 λxs H2=>r x xs H2 Q
variable{o e:Expr}{es:List Expr}{to:TE}{t:TA}{name:Str}{apos cpos:Pos}{T id:String}{r:V->List V->Hp->VK->Prop}
theorem Ju(pa:PlainAttrs T)(slot:Slot T name id)(f:typeOf (.builtin id)=pure (.type "method_descriptor"))(k:we X id r)(l:PE X o to)(m:PA X (e::es) t)
  (b:attributeBase o name X.env (eval o X.env)=eval o X.env:=by rfl)
  (d:((backTo cpos (starEach (e::es) X.env)).all (λx=> !x.1)&&(backToKw cpos (keywordEach [] X.env)).all (λx=>x.1.isSome)
   &&decide ((e::es).length+([]:List Keyword).length+(if ([]:List Keyword).isEmpty then 0 else 1)<30))=true:=by rfl)
  (c:(apos.endLine==cpos.line)=true:=by rfl)(hs:starEach (e::es) X.env=(false,eval e X.env)::starEach es X.env:=by rfl)(a:(backTo cpos (starEach es X.env)).any (·.1)=false:=by rfl):
  PE X (.Call (.Attribute o name apos) (e::es) [] cpos) (Me X.K T r to t):=by
 intro pins s σ H Q I h
 refine wpAny_Call_method_late b d c rfl (aG (l pins s σ H _ I h) λv n ⟨x,H1,g,i,ty,p⟩=> ?_)
 obtain⟨h1,h2⟩:=M7 g i ty
 refine⟨T,id,pa,slot,f,h1,h2,?_⟩
 have j:=m cpos pins n σ H1 _ g p
 rw[hs] at j ⊢
 refine Calls.callWith_builtin (by show(false||(backTo cpos (starEach es X.env)).any (·.1))=false;rw[a]<;>rfl) (Calls.evalArgs_plain ?_)
 exact aG j λq u ⟨vs,H2,w,y,z⟩=>k pins u σ H2 x vs v q Q w i y z
end
def wc(X:Cx)(id:String)(r:V->List V->Hp->VK->Prop):Prop:=
 ∀(pins:aO) (s:Shared) (σ:St) (H:Hp) (x:V) (xs:List V) (v:Value) (us:List Value) (Q:VK),Inv X pins σ H s->RelV x v->Vals xs us->r x xs H Q->
  wpAny (model X.prog X.w) X.A (call (.builtin id) (v::us)) (EP X pins σ Q) X.xe s
theorem Vals.one:∀{x:V} {a:List Value},Vals [x] a->∃u,a=[u]/\RelV x u
 |_,_,.cons r .nil=>⟨_,rfl,r⟩
section
variable{X:Cx}{pins:aO}{σ:St}{H:Hp}{s:Shared}{l b:Addr}{xs ys zs:List V}
theorem Inv.zG{its its':List Value}{n:Nat}{f:Array Value->Array Value}{t':Nat}(I:Inv X pins σ H s)(a:H l=some (.lst xs))
  (e:s.heap.get? l=some {cls:=.type "list",data:=.seq its.toArray n})(b:f its.toArray=its'.toArray)(c:Vals ys its')(hz:ys.length<=sizeLine):
  Inv X pins σ (upd H l (.lst ys)) {s with heap:=s.heap.update l (Obj.mapSeq f),toks:=t'}:=by
 have q:=PySem.IsL.update e f;rw[b] at q;refine I.write (x:=l) (e:=l) (by rw[a];exact trivial) (.inl rfl) (λh u d g=>(gG s.heap (Obj.mapSeq f) (Ne.symm d)).trans g) ⟨_,q⟩ ?_;exact⟨hz,its',_,c,q⟩
theorem Inv.zE{its:List Value}{t':Nat}(I:Inv X pins σ H s)(a:Vals ys its)(hz:ys.length<=sizeLine):
  Inv X pins σ (upd H s.heap.objs.size (.lst ys)) {s with heap:=s.heap.push {cls:=.type "list",data:=.seq its.toArray},toks:=t'}:=
 I.laid (λ_ _ q=>aR _ q) (aF _) ⟨hz,its,0,a,bK _ rfl⟩
theorem Inv.fresh(I:Inv X pins σ H s):H s.heap.objs.size=none:=I.hok.fresh (aF _)
theorem Inv.nj(I:Inv X pins σ H s)(a:H l=some (.lst xs)):xs.length<=sizeLine/\∃(its:List Value) (n:Nat),Vals xs its/\xs.length=its.length/\s.heap.get? l=some {cls:=.type "list",data:=.seq its.toArray n}:=by
 obtain⟨z,its,n,r,e⟩:=I.hok l _ a;exact⟨z,its,n,r,r.length,e⟩
theorem IK{n:Nat}(h:n<=sizeLine):Builtin.List.listTooLong n=false:=by
 unfold Builtin.List.listTooLong;exact dW (by omega)
end
section
variable{X:Cx}
def Ao:V->List V->Hp->VK->Prop:=λx vs H Q=>∃l xs y,x=.ref l/\vs=[y]/\H l=some (.lst xs)/\xs.length<sizeLine/\Q .aD (upd H l (.lst (xs++[y])))
theorem uB:wc X "list.append" Ao:=by
 intro pins s σ H x vs v d Q I b c h;obtain⟨l,xs,y,rfl,rfl,a,hz,q⟩:=h;cases b;obtain⟨u,rfl,ru⟩:=c.one;obtain⟨z,its,n,r,f,e⟩:=I.nj a;refine call_meets F.slot_list_append ⟨_,e,rfl⟩ F.entry_list_append (F.args_list_append_2 _ _) (PySem.list_append l its.toArray n u (by rw[bV];omega)) ⟨e,?_⟩;refine⟨.aD,_,I.zG (its':=its++[u]) a e (by simp) (r.append (.cons ru .nil)) ?_,rfl,q⟩;rw[bR,iN];omega
def Au:V->List V->Hp->VK->Prop:=λx vs H Q=>∃l b xs zs,x=.ref l/\vs=[.ref b]/\H l=some (.lst xs)/\H b=some (.lst zs)/\xs.length+zs.length<=sizeLine/\Q .aD (upd H l (.lst (xs++zs)))
theorem Ik:wc X "list.extend" Au:=by
 intro pins s σ H x vs v o Q I f g h;obtain⟨l,b,xs,zs,rfl,rfl,d,i,hz,q⟩:=h;cases f;obtain⟨u,rfl,ru⟩:=g.one;cases ru;obtain⟨z,its,n,r,p,e⟩:=I.nj d;obtain⟨t,a,n2,j,k,m⟩:=I.nj i;have hsz:its.toArray.size+a.toArray.size<=sizeLine:=by rw[bV,bV];omega
 have c:¬(!its.toArray.isEmpty&&Builtin.List.listTooLong (its.toArray.size+a.toArray.size))=true:=by
  rw[IK hsz,Bool.and_false];exact bP
 refine call_meets F.slot_list_extend ⟨_,e,rfl⟩ F.entry_list_extend (F.args_list_extend_2 _ _)
  (AutoSeq1.list_extend_list_list_0 l its.toArray n b a.toArray n2 c (by rw[bV];omega) (by omega)) ⟨e,m,?_⟩
 refine⟨.aD,_,I.zG (its':=its++a) d e (by simp) (r.append j) ?_,rfl,q⟩;rw[bR];omega
def Aq:R2:=λx y H Q=>∃l b xs zs,x=.ref l/\y=.ref b/\H l=some (.lst xs)/\H b=some (.lst zs)/\xs.length+zs.length<=sizeLine/\∀p,H p=none->Q (.ref p) (upd H p (.lst (xs++zs)))
theorem IZ:aT X (binaryOp .Add) Aq:=by
 intro pins s σ H x y v u Q I c d h;obtain⟨l,b,xs,zs,rfl,rfl,f,g,hz,q⟩:=h;cases c;cases d;obtain⟨z,its,n,r,o,e⟩:=I.nj f;obtain⟨p,a,n2,i,j,k⟩:=I.nj g;refine PySem.P.add_list e k ?_ (by rw[bV,bV];omega);have m:its.toArray++a.toArray=(its++a).toArray:=by simp
 rw[m];exact⟨.ref _,_,I.zE (t':=s.toks) (r.append i) (by rw[bR];omega),rfl,q _ I.fresh⟩
end
section
variable{κ:Type}[DecidableEq κ]
def dB(kvs:List (κ×V))(k:κ):Option V:=(kvs.find? λkv=>decide (kv.1=k)).map (·.2)
def putK(kvs:List (κ×V))(k:κ)(v:V):List (κ×V):=
 if (kvs.any λkv=>decide (kv.1=k))=true then kvs.map (λkv=>if kv.1=k then (kv.1,v) else kv) else kvs++[(k,v)]
theorem vC{p:κ×V}{r:List (κ×V)}{k:κ}(e:p.1=k):dB (p::r) k=some p.2:=by simp[dB,j_,e]
theorem vB{p:κ×V}{r:List (κ×V)}{k:κ}(e:¬p.1=k):dB (p::r) k=dB r k:=by simp[dB,j_,e]
theorem B6(k:κ):∀kvs:List (κ×V),(kvs.any λa=>decide (a.1=k))=(dB kvs k).isSome
 |[]=>rfl
 |p::r=>by
  rw[j8];by_cases e:p.1=k
  .simp only[vC e,fY e,Bool.true_or,Option.isSome_some]
  .rw[vB e,dW e,Bool.false_or];exact B6 k r
theorem zy(kvs:List (κ×V))(k:κ)(v:V):(putK kvs k v).length<=kvs.length+1:=by
 unfold putK;split
 .rw[bC];omega
 .rw[bR,eV,length_nil];omega
theorem f9.tZ{o:Option V}{u:Option Value}(r:f9 o u):o.isSome=u.isSome:=by
 cases o with
 |none=>cases u with
  |none=>rfl
  |some _=>exact(show False from r).elim
 |some _=>cases u with
  |none=>exact(show False from r).elim
  |some _=>rfl
theorem KV.val{kvs:List (κ×V)}{vs:List (κ×Value)}(r:KV kvs vs)(k:κ):f9 (dB kvs k) (valueAt vs k):=by
 unfold KV at r;induction r with
 |nil=>exact True.intro
 | @cons p q ps qs h t c=>
  obtain⟨h1,h2⟩:=h;by_cases e:p.1=k
  .have a:q.1=k:=h1.symm.trans e
   have b:valueAt (q::qs) k=some q.2:=by simp[valueAt,j_,a]
   rw[vC e,b];exact h2
  .have a:¬q.1=k:=λz=>e (h1.trans z)
   have b:valueAt (q::qs) k=valueAt qs k:=by simp[valueAt,j_,a]
   rw[vB e,b];exact c
theorem KV.any{kvs:List (κ×V)}{vs:List (κ×Value)}(r:KV kvs vs)(k:κ):(kvs.any λa=>decide (a.1=k))=vs.any λa=>decide (a.1=k):=by
 unfold KV at r;induction r with
 |nil=>rfl
 |cons h t b=>rw[j8,j8,b,h.1]
theorem KV.repl{kvs:List (κ×V)}{vs:List (κ×Value)}(r:KV kvs vs)(k:κ){y:V}{u:Value}(b:RelV y u):
  KV (kvs.map λa=>if a.1=k then (a.1,y) else a) (vs.map λa=>if a.1=k then (a.1,u) else a):=by
 unfold KV at r ⊢;induction r with
 |nil=>exact .nil
 | @cons p q ps qs h t c=>
  rw[dD,dD];refine .cons ?_ c;obtain⟨h1,h2⟩:=h;by_cases e:p.1=k
  .rw[aj e,aj (h1.symm.trans e)];exact⟨h1,b⟩
  .rw[ai e,ai (λz=>e (h1.trans z))];exact⟨h1,h2⟩
theorem KV.put{kvs:List (κ×V)}{vs:List (κ×Value)}(r:KV kvs vs)(k:κ){y:V}{u:Value}(a:RelV y u):KV (putK kvs k y) (stored vs k u):=by
 unfold putK stored;rw[r.any k];by_cases e:(vs.any λb=>decide (b.1=k))=true
 .rw[aj e,aj e];exact r.repl k a
 .rw[ai e,ai e];exact Paired.snoc r ⟨rfl,a⟩
theorem KV.length{kvs:List (κ×V)}{vs:List (κ×Value)}(r:KV kvs vs):kvs.length=vs.length:=Paired.length r
end
theorem nc{P:Program}{w:World}{k:Key}{u:Value}(r:RelV (kV k) u):(c8 P w).is k u=true:=by
 cases k with
 |inl i=>obtain⟨t,e⟩:=(show ∃t,u=Value.int i t from r);subst e;exact Ih P w i t
 |inr x=>obtain⟨t,e⟩:=(show ∃t,u=Value.str x t from r);subst e;exact Ii P w x t
theorem zf{P:Program}{w:World}:∀{a:List Key} {b:List Value},Vals (a.map kV) b->ItemsAre (c8 P w) a b
 |[],_,r=>by rw[List.map_nil] at r;cases r;exact .nil
 |k::a,_,r=>by
  rw[dD] at r;cases r with
  |cons h t=>exact .cons (nc h) (zf t)
abbrev KT(H:Hp):List (List Key×V)->List (List Key×Addr×Value)->Prop:=Paired λp q=>p.1=q.1/\H q.2.1=some (.tup (p.1.map kV))/\RelV p.2 q.2.2
theorem KT.val{H:Hp}{kvs:List (List Key×V)}{xs:List (List Key×Addr×Value)}(r:KT H kvs xs)(k:List Key):f9 (dB kvs k) ((atKey xs k).map (·.2)):=by
 induction r with
 |nil=>exact True.intro
 | @cons p q ps qs h t c=>
  obtain⟨h1,_,h2⟩:=h;by_cases e:p.1=k
  .have a:q.1=k:=h1.symm.trans e
   have b:atKey (q::qs) k=some q.2:=by simp[atKey,j_,a]
   rw[vC e,b];exact h2
  .have a:¬q.1=k:=λz=>e (h1.trans z)
   have b:atKey (q::qs) k=atKey qs k:=by simp[atKey,j_,a]
   rw[vB e,b];exact c
theorem KT.repl{H:Hp}{kvs:List (List Key×V)}{xs:List (List Key×Addr×Value)}(r:KT H kvs xs)(k:List Key){y:V}{u:Value}(b:RelV y u):
  KT H (kvs.map λa=>if a.1=k then (a.1,y) else a) (xs.map (putAt k u)):=by
 induction r with
 |nil=>exact .nil
 | @cons p q ps qs h t c=>
  rw[dD,dD];refine .cons ?_ c;obtain⟨h1,h2,h3⟩:=h;unfold putAt;by_cases e:p.1=k
  .rw[aj e,aj (h1.symm.trans e)];exact⟨h1,h2,b⟩
  .rw[ai e,ai (λz=>e (h1.trans z))];exact⟨h1,h2,h3⟩
theorem KT.put{H:Hp}{kvs:List (List Key×V)}{xs:List (List Key×Addr×Value)}(r:KT H kvs xs)(k:List Key){b:Addr}{y:V}{u:Value}(c:H b=some (.tup (k.map kV)))(a:RelV y u):
  KT H (putK kvs k y) (storedH xs k b u):=by
 have e:(kvs.any λd=>decide (d.1=k))=(atKey xs k).isSome:=by
  rw[B6,(r.val k).tZ,isSome_map]
 unfold putK storedH;rw[e];by_cases q:(atKey xs k).isSome=true
 .rw[aj q,aj q];exact r.repl k a
 .rw[ai q,ai q];exact Paired.snoc r ⟨rfl,c,a⟩
theorem KT.keeps{H H':Hp}{kvs:List (List Key×V)}{xs:List (List Key×Addr×Value)}(r:KT H kvs xs)(a:∀b ys,H b=some (.tup ys)->H' b=some (.tup ys)):KT H' kvs xs:=
 Paired.uv r λ_ _ z=>⟨z.1,a _ _ z.2.1,z.2.2⟩
section
variable{P:Program}{w:World}{H:Hp}{h:Heap}{a:Addr}
theorem AI{u:HO}(ok:bM P w H h)(e:Rd H a u):bG P w H h a u:=e.ok ok
theorem mW{kvs:List (Key×V)}(ok:bM P w H h)(e:Rd H a (.dK kvs)):kvs.length<=sizeLine/\(a==sysModules)=false/\∃vs,KV kvs vs/\h.DictOf (c8 P w) a vs:=
 show bG P w H h a (.dK kvs) from AI ok e
theorem EJ{kvs:List (Key×V)}(ok:bM P w H h)(e:H a=some (.dK kvs)):kvs.length<=sizeLine/\(a==sysModules)=false/\∃vs,KV kvs vs/\h.DictOf (c8 P w) a vs:=mW ok (.inl e)
theorem p7{b:List Key}(ok:bM P w H h)(e:H a=some (.tup (b.map kV))):(tupleKind (c8 P w)).is h b a:=by
 obtain⟨_,its,r,p⟩:=(show bG P w H h a (.tup (b.map kV)) from ok a _ e);obtain⟨o,h1,h2,n,h3⟩:=p.is;exact⟨o,its.toArray,n,h1,h2,h3,by simpa using zf r⟩
theorem pM{kvs:List (List Key×V)}(ok:bM P w H h)(e:Rd H a (.dT kvs)):kvs.length<=sizeLine/\(a==sysModules)=false/\
  ∃xs,KT H kvs xs/\h.DictOfH (tupleKind (c8 P w)) a xs:=by
 obtain⟨z,y,xs,r,o,es,ep,h1,h2,h3,b,c⟩:=(show bG P w H h a (.dT kvs) from AI ok e);refine⟨z,y,xs,r,o,es,ep,h1,h2,h3,b,λx hx=>?_,c⟩;have all:∀{l:List (List Key×V)} {m:List (List Key×Addr×Value)},KT H l m->∀x∈m,(tupleKind (c8 P w)).is h x.1 x.2.1:=by
  intro l m q;induction q with
  |nil=>intro x hx;exact nomatch hx
  | @cons p q ps qs hq t d=>
   intro x hx;rcases aQ.mp hx with e|hx
   .subst e
    exact p7 ok (by rw[<-hq.1];exact hq.2.1)
   .exact d x hx
 exact all r x hx
theorem EW{kvs:List (List Key×V)}(ok:bM P w H h)(e:H a=some (.dT kvs)):kvs.length<=sizeLine/\(a==sysModules)=false/\
 ∃xs,KT H kvs xs/\h.DictOfH (tupleKind (c8 P w)) a xs:=pM ok (.inl e)
end
def l9(H:Hp)(a:Addr)(y:V)(r:Option V):Prop:=
 (∃kvs k,Rd H a (.dK kvs)/\y=kV k/\r=dB kvs k)\/∃kvs k b,Rd H a (.dT kvs)/\y=.ref b/\H b=some (.tup (k.map kV))/\r=dB kvs k
def mh(H:Hp)(a:Addr)(y v:V)(H':Hp):Prop:=
 (∃kvs k,H a=some (.dK kvs)/\y=kV k/\kvs.length<sizeLine/\H'=upd H a (.dK (putK kvs k v)))\/
 ∃kvs k b,H a=some (.dT kvs)/\y= .ref b/\H b=some (.tup (k.map kV))/\kvs.length<sizeLine/\H'=upd H a (.dT (putK kvs k v))
theorem mh.k{H:Hp}{a:Addr}{kvs:List (Key×V)}{k:Key}{v:V}(e:H a=some (.dK kvs))(b:kvs.length<sizeLine):mh H a (kV k) v (upd H a (.dK (putK kvs k v))):=.inl ⟨kvs,k,e,rfl,b,rfl⟩
section
variable{X:Cx}{pins:aO}{σ:St}{H:Hp}{s:Shared}{a:Addr}{y v:V}{u r:Value}{o:Option V}{A:Around}{E:aA}
theorem Inv.big(I:Inv X pins σ H s):sysModules<s.heap.objs.size:=by
 have h:mainGlobals<s.heap.objs.size:=(I.mod.glob.keeps I.bk).lt;exact lt_trans (by decide) h
theorem D6{Q:aA}(n:A.units+1<cLine)(I:Inv X pins σ H s)(g:l9 H a y (some v))(m:RelV y u)(h:∀d s',Inv X pins σ H s'->RelV v d->Q d s'):
  wpAny (model X.prog X.w) A (getItem (.ref a) u) Q E s:=by
 rcases g with⟨kvs,k,e,f,l⟩|⟨kvs,k,b,e,f,q,l⟩
 .subst f
  obtain⟨z,hd,vs,rel,dd⟩:=mW I.hok e;obtain⟨d,i,c⟩:=f9.some_of (v:=v) (o:=valueAt vs k) (by rw[l];exact rel.val k);exact wpAny_getItem_of (nc m) dd.mapOf i (h d _ (I.tok _) c)
 .subst f
  cases (show u=Value.ref b from m);obtain⟨z,hd,xs,rel,dd⟩:=pM I.hok e;obtain⟨d,i,c⟩:=f9.some_of (v:=v) (o:=(atKey xs k).map (·.2)) (by rw[l];exact rel.val k);obtain⟨p,r,j⟩:=jU.mp i;refine wpAny_getItem_heap (tupleKind_room_in1 n) (p7 I.hok q) dd r ?_;rw[j];exact h d _ (I.tok _) c
theorem Ed{Q:aA}(f:A.units+1<cLine)(I:Inv X pins σ H s)(g:l9 H a y o)(d:RelV y u)(h:∀s',Inv X pins σ H s'->Q (.bool (!o.isSome)) s'):
  wpAny (model X.prog X.w) A (compareOp .NotIn u (.ref a)) Q E s:=by
 rcases g with⟨kvs,k,e,c,l⟩|⟨kvs,k,b,e,c,i,l⟩
 .subst c
  obtain⟨z,hd,vs,rel,dd⟩:=mW I.hok e;refine wpAny_notIn_of (nc d) hd dd.mapOf ?_;rw[<-(rel.val k).tZ,<-l];exact h _ (I.tok _)
 .subst c
  cases (show u=Value.ref b from d);obtain⟨z,hd,xs,rel,dd⟩:=pM I.hok e;refine wpAny_notIn_heap (tupleKind_room_in1 f) (p7 I.hok i) hd dd ?_;have q:=(rel.val k).tZ;rw[isSome_map] at q;rw[<-q,<-l];exact h _ (I.tok _)
theorem xS{h':Heap}{t':Nat}{c:HO}(I:Inv X pins σ H s)(d:mz (H a))(hs:SameBut a s.heap h')(f:∃q,h'.get? a=some q)(new:bG X.prog X.w (upd H a c) h' a c):
  Inv X pins σ (upd H a c) {s with heap:=h',toks:=t'}:=
 I.write (x:=a) (e:=a) d (.inl rfl) (λb q g z=>(hs.2 b g).trans z) f new
theorem EI{P:Program}{w:World}{H':Hp}{h':Heap}{kvs:List (Key×V)}{vs:List (Key×Value)}(z:kvs.length<=sizeLine)(hd:(a==sysModules)=false)(rel:KV kvs vs)(dd:h'.DictOf (c8 P w) a vs):
 bG P w H' h' a (.dK kvs):=⟨z,hd,vs,rel,dd⟩
theorem Ef{H':Hp}{Q:Unit->Shared->Prop}(t:A.units+1<cLine)(I:Inv X pins σ H s)(g:mh H a y v H')(m:RelV y u)(n:RelV v r)(h:∀s',Inv X pins σ H' s'->Q () s'):
  wpAny (model X.prog X.w) A (setItem (.ref a) u r) Q E s:=by
 rcases g with⟨kvs,k,e,f,l,i⟩|⟨kvs,k,b,e,f,o,l,i⟩
 .subst f i
  obtain⟨z,hd,vs,rel,dd⟩:=EJ I.hok e;have hz:vs.length<=sizeLine:=by rw[<-rel.length];exact z
  have j:(putK kvs k v).length<=sizeLine:=by have:=zy kvs k v;omega
  refine wpAny_setItem_pairs (hsz:=hz) (nc m) dd λh' d hs=>h _ ?_;have x:∃q,h'.get? a=some q:=let ⟨q,_,_,hq,_⟩:=d;⟨q,hq⟩;exact xS I (by rw[e];exact True.intro) hs x (EI j hd (rel.put k n) d)
 .subst f i
  cases (show u=Value.ref b from m);obtain⟨z,hd,xs,rel,dd⟩:=EW I.hok e;have hz:xs.length<=sizeLine:=by rw[<-Paired.length rel];exact z
  have j:(putK kvs k v).length<=sizeLine:=by have:=zy kvs k v;omega
  refine wpAny_setItem_heap (hsz:=hz) (tupleKind_room_in1 t) (p7 I.hok o) dd λh' d hs=>h _ ?_;obtain⟨q,es,ep,hq,h2,h3,B,_,C⟩:=d;refine xS I (by rw[e];exact True.intro) hs ⟨q,hq⟩ ⟨j,hd,_,(rel.put k o n).keeps λc ys p=>?_,q,es,ep,hq,h2,h3,B,C⟩;rw[bz (Iq p e (λz=>nomatch z))];exact p
end
section
variable{X:Cx}{pins:aO}{σ:St}{H:Hp}{s:Shared}{a:Addr}{kvs:List (Key×V)}{k:Key}{u:Value}{A:Around}{E:aA}
theorem fm{Q:aA}(I:Inv X pins σ H s)(e:Rd H a (.dK kvs))(h:∀t s',Inv X pins σ H s'->Q (.int kvs.length t) s'):wpAny (model X.prog X.w) A (call (.builtin "len") [.ref a]) Q E s:=by
 obtain⟨z,hd,vs,rel,dd⟩:=mW I.hok e;refine call_len_dict hd dd (by rw[<-rel.length];rw[oi] at z;omega) ?_;rw[<-rel.length];exact h _ _ (I.tok _)
end
theorem EF{X:Cx}{pins:aO}{σ:St}{H:Hp}{s:Shared}{a:Addr}{y:V}{o:Option V}(I:Inv X pins σ H s)(g:l9 H a y o):s.TypeIs (.ref a) "dict":=by
 rcases g with⟨kvs,k,e,_,_⟩|⟨kvs,k,b,e,_,_,_⟩
 .obtain⟨_,_,vs,_,dd⟩:=mW I.hok e
  exact dd.typeIs
 .obtain⟨_,_,xs,_,dd⟩:=pM I.hok e
  exact dd.typeIs
def KY(td ty tv:TE):TS:=λD σ H=>tv σ H λv H1=>td σ H1 λx H2=>ty σ H2 λy H3=>∃a H4,x=.ref a/\mh H3 a y v H4/\D.nx σ H4
section
variable{X:Cx}{o i e value:Expr}{pos pos' tpos:Pos}{td ty tv:TE}
theorem J'(b:X.A.units+1<cLine)(c:PE X o td)(hi:PE X i ty)(d:PE X value tv)(hs:swapsWith value (some (.Subscript o i pos')) pos.line X.env=pure false):
  PS X (.Assign [.Subscript o i pos'] value pos) (KY td ty tv):=by
 intro pins s σ H D I h;refine wpAny_Assign_Subscript (aG (d pins s σ H _ I h) λr e ⟨v,H1,f,j,k⟩=>aG (c pins e σ H1 _ f k) λu l ⟨x,H2,m,n,p⟩=>aG (hi pins l σ H2 _ m p) λC E ⟨y,F,q,t,a,w,ex,g,z⟩=>?_) hs;subst ex;obtain rfl:u=Value.ref a:=n;exact Ef b q g t j λs4 B=>⟨σ,w,B,z⟩
end
theorem EH{P:Program}{w:World}{H:Hp}(h:Heap)(a:sysModules<h.objs.size):bG P w H (h.push {cls:=.type "dict",data:=.dict #[]}) h.objs.size (.dK []):=
 ⟨b9 _,beq_eq_false_iff_ne.mpr (Ne.symm (aV a)),[],.nil,DictOf.new h⟩
def Mh:TE:=λ_ H Q=>∀p,H p=none->Q (.ref p) (upd H p (.dK []))
section
variable{X:Cx}{pos:Pos}
theorem JB:PE X (.Dict [] [] pos) Mh:=λpins s σ H Q I h=>
 wpAny_Dict_empty ⟨.ref s.heap.objs.size,_,I.laid (a:=s.heap.objs.size) (o:=.dK []) (t':=s.toks) (λ_ _ q=>aR _ q) (aF _) (EH s.heap I.big),rfl,h _ (I.hok.fresh (aF _))⟩
end
end L2
end
namespace vX
open PySem PySem.W PySem.Calls PyProof.Rows
theorem GV{P:Params}{h:Heap}:∀(ns:List Int) (vs:List Value),WellAll P h vs (ns.map WData.int)->IntsAre vs ns:=by
 intro ns;induction ns with
 |nil=>
  intro vs w;rw[List.map_nil] at w;cases w;exact .nil
 |cons n ns c=>
  intro vs w;rw[dD] at w;cases w with
  |cons a b=>
   cases a;exact .cons _ _ (c _ b)
theorem Lz{l:OpenLaw}{n:Nat}(hn:l.most=some n){P:Params}{h:Heap}{args:List WData}{vals:List Value}
  (b:l.row.toRowW.claim.pre args=true)(i:WellAll P h vals args):
  ∃a vs ns,vals=[Value.ref a]/\args=[WData.list (ns.map WData.int)]/\h.get? a=some {cls:=.type "list",data:=.seq vs.toArray}/\IntsAre vs ns/\ns.length<=n:=by
 have j:WShape.hasAll [] args [.list .int]=true:=(pre_splitW b).1;have hc:l.pre.holds [] {args:=args}=true:=(pre_splitW b).2;obtain⟨d,r,rfl,h1,h2⟩:=hasAllW_cons j;obtain rfl:=hasAllW_nil h2;obtain⟨xs,rfl,h3⟩:=hasW_list h1;obtain⟨ns,rfl⟩:=items_int h3;have c:ns.length<=n:=by
  unfold OpenLaw.pre at hc;have f:(WTm.not (.lt (.lit (.int (n:Int))) (.len (.arg 0)))).holds [] {args:=[.list (ns.map .int)]}=true:=by
   have f:=(holds_andW hc).1;rw[hn] at f;exact f
  have g:=condW_of f (w_not (w_lt w_lit (w_len_list (w_arg rfl))));rw[bC] at g;refine Nat.le_of_not_lt λq=>?_;have k:(n:Int)<((ns.length:Nat):Int):=by omega
  first
   |(rw[fY k] at g;exact absurd g (by decide))
   |(simp at g;omega)
 cases i with
 |cons m o=>
  cases o;cases m with
  |list p e=>exact⟨_,_,ns,rfl,rfl,p,GV ns _ e,c⟩
theorem J7(l:OpenLaw)(args:List WData):l.row.toRowW.claim.post args (.bool true) args=true:=
 postW_of (r:=l.row.toRowW) (X:=(true==true))
  (show WShape.has [] (.bool true) .bool=true by first|rfl|decide|simp[WShape.has,WShape.arms,WShape.armsAll])
  (show(WTm.eq .res (.lit (.bool true))).value [] {args:=args,res:=some (.bool true),after:=args}=some (.bool (true==true)) from w_eq_bool (w_res rfl) w_lit) rfl
theorem CU{l:OpenLaw}{n:Nat}{q:Program}{loose:List Str}{p:(av)->Heap->Prop}{s:World->Heap->Prop}{d:DefRec}
  (hn:l.most=some n)(i:d.params.defaults=[])
  (call:∀(w:World) (s₀ b:Shared) (mg mb:av) (c:Addr) (o:Obj) (pm cd doc:Value) (a:Addr) (vs:List Value) (ns:List Int),
   Ground q loose [] p w s₀ mg mb b.heap->s w b.heap->
   b.heap.get? c=some o->o.data= .func (docDef d.name d.params d.body d.scope pm cd doc)->b.heap.CodeRec cd d.name->mg d.name=some (.ref c)->
   b.heap.get? a=some {cls:= .type "list",data:= .seq vs.toArray}->IntsAre vs ns->ns.length<=n->b.gens= #[]->
   codeAny (model l.prog w) callerA (.call (.ref c) ⟨[.ref a],[]⟩) (λr s'=>r= .ok (.ret (.bool true))/\OldK b.heap s'.heap/\s'.os=b.os/\AllBare s'.gens) b):
  WalkO q loose p s l.row.toRowW d [] (λf vs=>PySem.call f vs):=by
 intro w s₀ b mg mb G Y c o pm cd doc v kV x hd j t k y args vals as e u z m A
 obtain rfl:v= .none:=Dflts.none t i
 obtain rfl:kV= .none:=Dflts.noKw t
 obtain⟨a,vs,ns,rfl,rfl,g,hints,h⟩:=Lz hn e m
 refine enter_call (lO (call w s₀ b mg mb c o pm cd doc a vs ns G Y x (fd_plain hd) j k g hints h y) λr s' hq=> ?_)
 obtain⟨rfl,h2,h3,B⟩:=hq
 exact⟨.inl ⟨.bool true,.bool true,[],rfl,λ_=>rfl,.bool true,J7 l _,λ_=>⟨Pairwise.nil,λ_ C=>(nomatch C)⟩⟩,h2,h3,B⟩
end vX
section
open PySem PySem.Spec PyProof.Rows
namespace L2
theorem B7:∀{vs:List Value} {ns:List Int},IntsAre vs ns->Vals (ns.map V.int) vs
 |_,_,.nil=>.nil
 |_,_,.cons n t h=>.cons ⟨t,rfl⟩ (B7 h)
def oV(H:Hp):Prop:=∀b,H b=none\/∃o xs,H b=some (.cj o (.lst xs))
theorem HB{P:Program}{w:World}{K:Frag}{mg mb:av}{CX:fK}{k:Nat}{D a:Addr}{fd:FuncData}{x:Str}{sp:Sp}{c:Shared}{vs:List Value}{ns:List Int}
  (M:K.In c.heap)(l:c.heap.Ns mainGlobals mg)(g:c.heap.Ns builtinsNs mb)(E:∀x:Str,x≠"__name__"->mb x=bootBuiltins x)(p:c.heap.NoLimit)(T:c.gens= #[])
  (C:c.heap.get? a=some {cls:= .type "list",data:= .seq vs.toArray})(hi:IntsAre vs ns)(N:ns.length<=sizeLine)(U:cC k callerA)
  (F:∀base:Heap,K.In base->base.Ns mainGlobals mg->dM P w K mg base CX k D fd [x] sp)(j:∀(s:Shared) (u:Value),BindsTo s fd ⟨[u],[]⟩ [(x,u)])
  (G:∀H:Hp,oV H->aX K H a (ns.map V.int)->sp [.ref a] H (λv _=>v= .bl true) λ_ _ _=>False)
  (I:∀H e s',CX [] H c (λ_ _ _=>False) e s'->False):
  codeAny (model P w) callerA (.call (.ref D) ⟨[.ref a],[]⟩) (λr s'=>r= .ok (.ret (.bool true))/\OldK c.heap s'.heap/\s'.os=c.os/\AllBare s'.gens) c:=by
 have O:=B7 hi
 have t:=hi.length
 have core:∀H:Hp,oV H->aX K H a (ns.map V.int)->bM P w H c.heap->(∀b,H b≠none->b=a)->(H a≠none->K.lookup a=none)->
   codeAny (model P w) callerA (.call (.ref D) ⟨[.ref a],[]⟩) (λr s'=>r= .ok (.ret (.bool true))/\OldK c.heap s'.heap/\s'.os=c.os/\AllBare s'.gens) c:=by
  intro H Q W hok R X
  have f:∀{b:Addr} {o:Obj},c.heap.get? b=some o->H b=none->(iD c.heap H).get? b=some o:=λe n=>Gy e n
  have J:∀{b:Addr} {o:Obj} {es:Array DictEntry} {ep:Nat},c.heap.get? b=some o->o.data= .dict es ep->H b=none:=λ {b o es ep} e d=>by
   cases q:H b with
   |none=>rfl
   |some u=>
    have L:b=a:=R b (by rw[q];simp)
    subst L
    rw[C] at e;cases e
    have d':Data.seq vs.toArray _=Data.dict es ep:=d
    cases d'
  have i:∀{b:Addr} {m:av},c.heap.Ns b m->(iD c.heap H).Ns b m:=λ {b m} ⟨o,es,ep,e,d,r⟩=>⟨o,es,ep,f e (J e d),d,r⟩
  have y:K.In (iD c.heap H):=λb o e=>f (M b o e) (by
   cases q:H b with
   |none=>rfl
   |some u=>
    have L:b=a:=R b (by rw[q];simp)
    subst L
    rw[X (by rw[q];simp)] at e;cases e)
  have Y:Mod K mg (iD c.heap H):=⟨y,i l,⟨mb,i g,E⟩,let ⟨mc,h1,h2⟩:=p;⟨mc,i h1,h2⟩⟩
  have Z:oQ P w K mg (iD c.heap H) callerA [] c H:=⟨rfl,Y,λb o e=>IU e,Nat.le_of_eq (Gz _ _),trivial,λb g=>absurd (show b∈([]:List Addr) from g) (by simp),hok,.of_eq T⟩
  refine lO ((F _ y (i l)).run callerA [] c H ⟨[.ref a],[]⟩ [.ref a] [.ref a] _ _ U Z (j c (.ref a)) (.cons rfl .nil) (G H Q W)) λr s' h=> ?_
  cases r with
  |error e=>exact(I H e s' h).elim
  |ok fl=>
   cases fl with
   |next=>exact False.elim h
   |brk=>exact False.elim h
   |cont=>exact False.elim h
   |ret u=>
    obtain⟨v,H',os,bare,un,A,r',q⟩:=h
    have q':v= .bl true:=q
    subst q'
    obtain rfl:u=Value.bool true:=r'
    refine⟨rfl,OldK.of_keep λb o e=> ?_,os,bare⟩
    cases q:H b with
    |none=>exact un.keep b o e q (by intro z;exact absurd (show b∈([]:List Addr) from z) (by simp)) (by simp)
    |some u=>
     rcases Q b with z|⟨ob,xs,z⟩
     .rw[q] at z;cases z
     .have z2:=un.e8 b ob _ z
      obtain⟨S,_⟩:=hok b _ z
      obtain⟨e2,_⟩:=A b _ z2
      rw[e] at S;cases S
      exact e2
 cases hk:K.lookup a with
 |some o=>
  have e:=M a o hk
  rw[C] at e
  cases e
  refine core (λ_=>none) (λ_=> .inl rfl) (.inr ⟨_,vs.toArray,_,hk,rfl,rfl,rfl,by rw[bV,t];exact N,by simpa using O⟩) (λb u z=>by have B:(none:Option HO)=some u:=z;cases B) (λb z=>absurd rfl z) λz=>absurd rfl z
 |none=>
  refine core (λb=>if b=a then some (.cj {cls:= .type "list",data:= .seq vs.toArray} (.lst (ns.map V.int))) else none) (λb=> ?_) (.inl (.inr ⟨{cls:= .type "list",data:= .seq vs.toArray},aj rfl⟩)) (λb u z=> ?_) (λb z=> ?_) λ_=>hk
  .by_cases g:b=a
   .exact .inr ⟨_,_,aj g⟩
   .exact .inl (ai g)
  .by_cases g:b=a
   .have B:=(aj g).symm.trans z
    cases B
    subst g
    exact⟨C,by rw[bC];exact N,vs,_,O,C⟩
   .have B:=(ai g).symm.trans z
    cases B
  .by_cases g:b=a
   .exact g
   .exact absurd (ai g) z
theorem M_{l:PySem.W.OpenLaw}{n k:Nat}{q:Program}{loose:List Str}{C:(av)->Heap->Prop}{A:World->Heap->Prop}{d:DefRec}{K:Params->Frag}{CX:World->fK}{sp:World->Sp}{x:Str}
  (hn:l.most=some n)(p:n<=sizeLine)(r:d.params.defaults=[])(D:cC k callerA)
  (E:∀(w:World) (h:Heap),A w h->(K w.params).In h)
  (F:∀(w:World) (mg:av) (m:Addr) (h:Heap),(K w.params).In h->h.Ns mainGlobals mg->mg d.name=some (.ref m)->
   ∃fd:FuncData,(∀(s:Shared) (u:Value),BindsTo s fd ⟨[u],[]⟩ [(x,u)])/\
    ∀base:Heap,(K w.params).In base->base.Ns mainGlobals mg->dM l.prog w (K w.params) mg base (CX w) k m fd [x] (sp w))
  (t:∀(w:World) (H:Hp) (a:Addr) (ns:List Int),ns.length<=n->oV H->aX (K w.params) H a (ns.map V.int)->sp w [.ref a] H (λv _=>v= .bl true) λ_ _ _=>False)
  (y:∀(w:World) (H:Hp) (s:Shared) (e:Value) (s':Shared),CX w [] H s (λ_ _ _=>False) e s'->False):
  PySem.W.WalkO q loose C A l.row.toRowW d [] (λf vs=>PySem.call f vs):=by
 refine vX.CU hn r λw s₀ i mg mb m o pm cd doc a vs ns G Y P hd I z j hints c J=> ?_
 have B:=E w _ Y
 obtain⟨fd,L,M⟩:=F w mg m _ B G.T.g z
 exact HB B G.T.g G.T.b G.T.builtins G.T.nolimit J j hints (cP c p) D M L (λH N O=>t w H a ns c N O) λH e s'=>y w H i e s'
def i6(s:Stmt):Arguments:=match s with
 |.FunctionDef _ a _ _ _ _ _ _ _ _=>a
 |_=>{posonlyargs:=[],args:=[],vararg:=none,kwonlyargs:=[],kw_defaults:=[],kwarg:=none,defaults:=[]}
def eZ(s:Stmt):List Stmt:=match s with
 |.FunctionDef _ _ b _ _ _ _ _ _ _=>b
 |_=>[]
def aJ(s:Stmt):Scope:=match s with
 |.FunctionDef _ _ _ _ _ _ sc _ _ _=>sc
 |_=>{kind:=.function,names:=[],isGenerator:=false,isCoroutine:=false}
structure iy(K:Frag)(x qual:Str)(st:Stmt)(f:Addr)(fd:FuncData):Prop where
 ex:∃(oc:Value) (od:Option Addr) (kV doc pm:Value) (an:Option Addr) (cdv ct:Value) (osl:Array (Option Value)),
  fd=fnOf x qual (i6 st) (eZ st) (aJ st) .none kV doc pm an cdv ct/\K.lookup f=some ⟨oc,od,.func fd,osl⟩/\codeIn K cdv qual=true
 kp:keepIn K (.ref f)=true
section
variable{P:Program}{w:World}{K:Frag}{mg:av}{base:Heap}
theorem iy.binds{x qual:Str}{st:Stmt}{f:Addr}{fd:FuncData}{ps:List Str}(F:iy K x qual st f fd)
  (h:∀(kV doc pm:Value) (an:Option Addr) (a ct:Value) (b:List Value),b.length=ps.length->bindArgs (fnOf x qual (i6 st) (eZ st) (aJ st) .none kV doc pm an a ct) ⟨b,[]⟩=pure (ps.zip b)):Binds K fd ps []:=by
 obtain⟨e,g,kV,doc,pm,an,a,ct,c,rfl,lk,d⟩:=F.ex;exact .all (h kV doc pm an a ct)
theorem tO{x qual:Str}{st:Stmt}{f:Addr}{d:Value}{e an:Option Addr}{b:Array (Option Value)}{kV doc pm a ct:Value}(l:K.lookup f=some ⟨d,e,.func (fnOf x qual (i6 st) (eZ st) (aJ st) .none kV doc pm an a ct),b⟩)
 (c:codeIn K a qual=true)(k:keepIn K (.ref f)=true):iy K x qual st f (fnOf x qual (i6 st) (eZ st) (aJ st) .none kV doc pm an a ct):=⟨⟨d,e,kV,doc,pm,an,a,ct,b,rfl,l,c⟩,k⟩
end
section
variable{X:Cx}
theorem C5:dY X (.builtin "len") (λxs H Q=>∃a kvs,xs=[V.ref a]/\H a=some (.dK kvs)/\Q (.int kvs.length) H):=by
 intro pins s σ H xs d Q I r h;obtain⟨a,kvs,rfl,b,q⟩:=h;obtain⟨u,rfl,ru⟩:=vals1 r;cases ru;exact fm I (.inl b) λt s' c=>⟨.int kvs.length,H,c,⟨t,rfl⟩,q⟩
end
theorem GY{A B:Prop}(h:B):if false=true then A else B:=by
 rw[ai bP];exact h
theorem GZ{A B:Prop}(h:A):if true=true then A else B:=by
 rw[aj rfl];exact h
def iX(H H':Hp):Prop:=∀b o,H b=some o->H' b=some o
end L2
end
namespace PySem
open Sem (wp)
namespace ZL
abbrev gJ(h:Heap)(z TI TO:Addr)(f0 f1:Value):Prop:=
 h.get? z=some {cls:=.type "zip",dict:=none,data:=.fields #[f0,f1,.bool false,.ref TI,.ref TO],slots:= #[]}
section
variable{prog:Program}{w:World}{A:Around}{E:aA}{s:Shared}
theorem Nk{z TI TO i1 i2 l1 l2 T:Addr}{F:Obj}{m:Bool}{k1 k2:Nat}{xs ys:Array Value}{x y:Value}{Q:aA}(D:ZipApart z TI TO i1 i2 l1 l2)
  (hz:gJ s.heap z TI TO (rawInt T) (.bool m))(H:s.heap.get? T=some F)(I:T≠z)(n:IsPair s.heap TI (.ref i1) (.ref i2))
  (h1:s.heap.IsListIter i1 l1 k1)(h2:s.heap.IsListIter i2 l2 k2)(q:s.heap.IsList l1 xs)(t:s.heap.IsList l2 ys)(J:xs[k1]? =some x)(K:ys[k2]? =some y)
  (L:∀h',gJ h' z TI TO (rawInt T) (.bool true)->h'.IsListIter i1 l1 (k1+1)->h'.IsListIter i2 l2 (k2+1)->IsPair h' s.heap.objs.size x y->h'.objs.size=s.heap.objs.size+1->
   (∀c o,c≠z->c≠i1->c≠i2->s.heap.get? c=some o->h'.get? c=some o)->Q (.ref s.heap.objs.size) {s with heap:=h'}):
  wpAny (model prog w) A (Builtin.«zip.__next__» ⟨[.ref z],[]⟩) (λfin s'=>∃v,fin= .done (.ret v)/\Q v s') E s:=by
 show wpAny _ _ (field (.ref z) 2>>=_) _ _ _
 refine aa (gz hz rfl (x:= .bool false) rfl ?_)
 show wpAny _ _ (field (.ref z) 3>>=_) _ _ _
 refine aa (gz hz rfl (x:= .ref TI) rfl ?_)
 refine aa (gB n rfl ?_)
 show wpAny _ _ (Builtin.SmallTypes.ownedTupleIsFree (.ref z)>>=_) _ _ _
 have first:wpAny (model prog w) A (Builtin.SmallTypes.ownedTupleIsFree (.ref z)) (λb s'=>b=false/\∃f,s'={s with heap:=f}/\gJ f z TI TO (rawInt T) (.bool true)/\SameBut z s.heap f) E s:=by
  unfold Builtin.SmallTypes.ownedTupleIsFree
  refine aa (gz hz rfl (x:=rawInt T) rfl ?_)
  show wpAny _ _ (loadIfAlive ((T:Int)).toNat>>=_) _ _ _
  have la:∀{R:Option Obj->Shared->Prop},R (some F) s->wpAny (model prog w) A (loadIfAlive ((T:Int)).toNat) R E s:=λ {R} h=>by
   intro N p _
   unfold loadIfAlive
   rw[Sem.wp_loadIfAlive,lM,H]
   exact h
  refine aa (la ?_)
  rw[ai (by simp)]
  refine aa (gz hz rfl (x:= .bool m) rfl ?_)
  cases m with
  |true=>exact ak ⟨rfl,s.heap,rfl,hz,.refl ..⟩
  |false=>
   show wpAny _ _ (setField (.ref z) 1 (.bool true)>>=_) _ _ _
   exact aa (wpAny_setField_rec hz (by simp) λf i a=>ak ⟨rfl,f,rfl,i,a⟩)
 refine aa (h_ first (λb s' M=> ?_) λ_ _ e=>e)
 obtain⟨rfl,f,rfl,i,a⟩:=M
 show wpAny _ _ (forIn _ _ _>>=_) _ _ _
 refine aa ?_
 rw[<-lV]
 simp only[forIn_cons,forIn_nil]
 refine aa (aa (dU ?_))
 show wpAny _ _ (Builtin.SmallTypes.nextOf (.ref i1)>>=_) _ _ _
 refine aa (vG (h1.extBut a.extBut D.i1z) (q.extBut a.extBut D.l1z) J λG k d=>ak (ak ?_))
 refine aa (aa (dU ?_))
 show wpAny _ _ (Builtin.SmallTypes.nextOf (.ref i2)>>=_) _ _ _
 refine aa (vG ((h2.extBut a.extBut D.i2z).extBut d.extBut D.i12.symm) ((t.extBut a.extBut D.l2z).extBut d.extBut D.l2i1) K λj l g=>ak (ak (ak ?_)))
 show wpAny _ _ (newTuple [x,y]>>=λr=>ret r) _ _ _
 have hsz:j.objs.size=s.heap.objs.size:=by rw[g.1,d.1,a.1]
 refine aa (dH (ak ⟨_,rfl,?_⟩) (by show 2<=sizeLine;decide))
 show Q (.ref j.objs.size) _
 rw[hsz]
 have up:∀c o,c≠z->c≠i1->c≠i2->s.heap.get? c=some o->j.get? c=some o:=λc o u B C e=>g.extBut _ _ C (d.extBut _ _ B (a.extBut _ _ u e))
 refine L _ (aR _ (g.extBut _ _ D.i2z.symm (d.extBut _ _ D.i1z.symm i))) ((k.extBut g.extBut D.i12).at λo e=>aR _ e) (l.at λo e=>aR _ e) ?_ (by rw[cJ,hsz]) λc o u B C e=>aR _ (up c o u B C e)
 rw[<-hsz]
 exact bK _ rfl
theorem Jq{z TI TO T:Addr}{f:Obj}{e:Bool}(hz:gJ s.heap z TI TO (rawInt T) (.bool e))(g:s.heap.get? T=some f):
  wpAny (model prog w) A (Builtin.SmallTypes.ownedTupleIsFree (.ref z)) (λb s'=>b=false/\∃a,s'={s with heap:=a}/\gJ a z TI TO (rawInt T) (.bool true)/\SameBut z s.heap a) E s:=by
 unfold Builtin.SmallTypes.ownedTupleIsFree;refine aa (gz hz rfl (x:=rawInt T) rfl ?_);show wpAny _ _ (loadIfAlive ((T:Int)).toNat>>=_) _ _ _;have la:∀{R:Option Obj->Shared->Prop},R (some f) s->wpAny (model prog w) A (loadIfAlive ((T:Int)).toNat) R E s:=λ {R} h=>by
  intro i p _;unfold loadIfAlive;rw[Sem.wp_loadIfAlive,lM,g];exact h
 refine aa (la ?_);rw[ai (by simp)];refine aa (gz hz rfl (x:=.bool e) rfl ?_);cases e with
 |true=>exact ak ⟨rfl,s.heap,rfl,hz,.refl ..⟩
 |false=>
  show wpAny _ _ (setField (.ref z) 1 (.bool true)>>=_) _ _ _;exact aa (wpAny_setField_rec hz (by simp) λa c d=>ak ⟨rfl,a,rfl,c,d⟩)
theorem Ni{z TI TO i1 i2 l1 l2 T:Addr}{C:Obj}{F:Bool}{k1 k2:Nat}{xs ys:Array Value}{Q:Fin->Shared->Prop}(v:A.handled=none)(D:ZipApart z TI TO i1 i2 l1 l2)
  (hz:gJ s.heap z TI TO (rawInt T) (.bool F))(G:s.heap.get? T=some C)(l:IsPair s.heap TI (.ref i1) (.ref i2))
  (h1:s.heap.IsListIter i1 l1 k1)(h2:s.heap.IsListIter i2 l2 k2)(i:s.heap.IsList l1 xs)(m:s.heap.IsList l2 ys)(j:xs[k1]? =none\/ys[k2]? =none)
  (y:∀h' e,(∀c o,c≠z->c≠i1->c≠i2->s.heap.get? c=some o->h'.get? c=some o)->(∃o,h'.get? e=some o/\o.cls= .type "StopIteration")->E (.ref e) {s with heap:=h'}):
  wpAny (model prog w) A (Builtin.«zip.__next__» ⟨[.ref z],[]⟩) Q E s:=by
 show wpAny _ _ (field (.ref z) 2>>=_) _ _ _
 refine aa (gz hz rfl (x:= .bool false) rfl ?_)
 show wpAny _ _ (field (.ref z) 3>>=_) _ _ _
 refine aa (gz hz rfl (x:= .ref TI) rfl ?_)
 refine aa (gB l rfl ?_)
 show wpAny _ _ (Builtin.SmallTypes.ownedTupleIsFree (.ref z)>>=_) _ _ _
 refine aa (h_ (Jq hz G) (λb s' H=> ?_) λ_ _ e=>e)
 obtain⟨rfl,B,rfl,n,a⟩:=H
 show wpAny _ _ (forIn _ _ _>>=_) _ _ _
 refine aa ?_
 rw[<-lV]
 simp only[forIn_cons,forIn_nil]
 refine aa (aa (dU ?_))
 show wpAny _ _ (Builtin.SmallTypes.nextOf (.ref i1)>>=_) _ _ _
 cases p:xs[k1]? with
 |none=>
  refine aa (wpAny_nextOf_list_end v (h1.extBut a.extBut D.i1z) (i.extBut a.extBut D.l1z) p λf e d q=> ?_)
  exact y f e (λc o r t _ x=>d _ _ t (a.extBut _ _ r x)) q
 |some x=>
  have I:ys[k2]? =none:=by rcases j with h|h;rw[p] at h;cases h;exact h
  refine aa (vG (h1.extBut a.extBut D.i1z) (i.extBut a.extBut D.l1z) p λf u d=>ak (ak ?_))
  refine aa (aa (dU ?_))
  show wpAny _ _ (Builtin.SmallTypes.nextOf (.ref i2)>>=_) _ _ _
  refine aa (wpAny_nextOf_list_end v ((h2.extBut a.extBut D.i2z).extBut d.extBut D.i12.symm) ((m.extBut a.extBut D.l2z).extBut d.extBut D.l2i1) I λk e g q=> ?_)
  exact y k e (λc o r t J x=>g _ _ J (d.extBut _ _ t (a.extBut _ _ r x))) q
theorem KA{z TI TO i1 i2 l1 l2 T:Addr}{g:Obj}{h:Bool}{k1 k2:Nat}{xs ys:Array Value}{x y:Value}{Q:Option Value->Shared->Prop}(D:ZipApart z TI TO i1 i2 l1 l2)
  (hz:gJ s.heap z TI TO (rawInt T) (.bool h))(i:s.heap.get? T=some g)(b:T≠z)(d:IsPair s.heap TI (.ref i1) (.ref i2))
  (h1:s.heap.IsListIter i1 l1 k1)(h2:s.heap.IsListIter i2 l2 k2)(e:s.heap.IsList l1 xs)(f:s.heap.IsList l2 ys)(j:xs[k1]? =some x)(k:ys[k2]? =some y)
  (l:∀h',gJ h' z TI TO (rawInt T) (.bool true)->h'.IsListIter i1 l1 (k1+1)->h'.IsListIter i2 l2 (k2+1)->IsPair h' s.heap.objs.size x y->h'.objs.size=s.heap.objs.size+1->
   (∀c o,c≠z->c≠i1->c≠i2->s.heap.get? c=some o->h'.get? c=some o)->Q (some (.ref s.heap.objs.size)) {s with heap:=h'}):
  wpAny (model prog w) A (pyNext (.ref z)) Q E s:=by
 have a:s.TypeIs (.ref z) "zip":=⟨_,hz,rfl⟩
 unfold pyNext
 exact aa (j4 (j5 (name:=Str.ofString "__next__") a rF
  (gy rF a F.entry_zip_next
   (Nk D hz i b d h1 h2 e f j k λh' a1 a2 m n p q=>ak (l h' a1 a2 m n p q)) (F.args_zip_next_1 _))))
theorem Kz{z TI TO i1 i2 l1 l2 T:Addr}{i:Obj}{j:Bool}{k1 k2:Nat}{xs ys:Array Value}{Q:Option Value->Shared->Prop}(k:A.handled=none)(D:ZipApart z TI TO i1 i2 l1 l2)
  (hz:gJ s.heap z TI TO (rawInt T) (.bool j))(l:s.heap.get? T=some i)(f:IsPair s.heap TI (.ref i1) (.ref i2))
  (h1:s.heap.IsListIter i1 l1 k1)(h2:s.heap.IsListIter i2 l2 k2)(g:s.heap.IsList l1 xs)(h:s.heap.IsList l2 ys)(a:xs[k1]? =none\/ys[k2]? =none)
  (m:∀h',(∀c o,c≠z->c≠i1->c≠i2->s.heap.get? c=some o->h'.get? c=some o)->Q none {s with heap:=h'}):wpAny (model prog w) A (pyNext (.ref z)) Q E s:=by
 have d:s.TypeIs (.ref z) "zip":=⟨_,hz,rfl⟩
 unfold pyNext
 refine aa (j4 (j5 (name:=Str.ofString "__next__") d rF
  (gy rF d F.entry_zip_next (Ni k D hz l f h1 h2 g h a λh' e hk n=> ?_) (F.args_zip_next_1 _))))
 obtain⟨o,p,hc⟩:=n
 refine aa (ou (T:="StopIteration") (b:=true) ⟨o,p,hc⟩ isSubtype_stop ?_)
 exact ak (m _ hk)
structure ZS(z TI TO i1 i2 l1 l2 base:Addr)(xs ys:Array Value)(k:Nat)(h:Heap):Prop where
 zip:(k=0/\IsZip h z TI TO .none)\/(0<k/\∃bb,gJ h z TI TO (rawInt base) (.bool bb))
 ti:IsPair h TI (.ref i1) (.ref i2)
 to:∃a b,IsPair h TO a b
 kU:h.IsListIter i1 l1 k
 kW:h.IsListIter i2 l2 k
 jd:h.IsList l1 xs
 je:h.IsList l2 ys
 sz:h.objs.size=base+k
 old:∀(j:Nat) x y,j<k->xs[j]? =some x->ys[j]? =some y->IsPair h (base+j) x y
structure kr(z TI TO i1 i2 l1 l2 base:Addr):Prop where
 z:z<base
 to:TO<base
 i1:i1<base
 i2:i2<base
theorem ZS.upd{z TI TO i1 i2 l1 l2 base S:Addr}{xs ys:Array Value}{k:Nat}{h h':Heap}(Z:ZS z TI TO i1 i2 l1 l2 base xs ys k h)(hk:∀b o,b≠S->h.get? b=some o->h'.get? b=some o)(hs:h'.objs.size=h.objs.size)
  (n1:z≠S)(n2:TI≠S)(n3:TO≠S)(n4:i1≠S)(n5:i2≠S)(n6:l1≠S)(n7:l2≠S)(n8:S<base):ZS z TI TO i1 i2 l1 l2 base xs ys k h' where
 zip:=by
  rcases Z.zip with⟨e,q⟩|⟨e,c,q⟩
  .exact .inl ⟨e,hk _ _ n1 q⟩
  .exact .inr ⟨e,c,hk _ _ n1 q⟩
 ti:=hk _ _ n2 Z.ti
 to:=let ⟨a,b,q⟩:=Z.to;⟨a,b,hk _ _ n3 q⟩
 kU:=Z.kU.at λo e=>hk _ o n4 e
 kW:=Z.kW.at λo e=>hk _ o n5 e
 jd:=Z.jd.at λo e=>hk _ o n6 e
 je:=Z.je.at λo e=>hk _ o n7 e
 sz:=hs.trans Z.sz
 old:=λj x y d f g=>hk _ _ (g8 (bO n8 (lZ _ _))) (Z.old j x y d f g)
theorem Nq{z TI TO i1 i2 l1 l2 base:Addr}{xs ys:Array Value}{k:Nat}{x y:Value}{Q:Option Value->Shared->Prop}(D:ZipApart z TI TO i1 i2 l1 l2)(L:kr z TI TO i1 i2 l1 l2 base)
  (Z:ZS z TI TO i1 i2 l1 l2 base xs ys k s.heap)(f:xs[k]? =some x)(g:ys[k]? =some y)
  (K:∀h',ZS z TI TO i1 i2 l1 l2 base xs ys (k+1) h'->(∀c o,c≠z->c≠TO->c≠i1->c≠i2->s.heap.get? c=some o->h'.get? c=some o)->Q (some (.ref (base+k))) {s with heap:=h'}):
  wpAny (model prog w) A (pyNext (.ref z)) Q E s:=by
 obtain⟨a,b,d⟩:=Z.to
 have new:∀h',(∀c o,c≠z->c≠TO->c≠i1->c≠i2->s.heap.get? c=some o->h'.get? c=some o)->IsPair h' s.heap.objs.size x y->∀(j:Nat) h i,j<k+1->xs[j]? =some h->ys[j]? =some i->IsPair h' (base+j) h i:=λh' hk N j h i O l m=>by
  by_cases n:j=k
  .subst n
   rw[f] at l;rw[g] at m;cases l;cases m
   rw[<-Z.sz]
   exact N
  .have lo:∀c,c<base->base+j≠c:=λc hc e=>absurd (bO hc (lZ base j)) (by rw[e];exact cZ _)
   exact hk _ _ (lo _ L.z) (lo _ L.to) (lo _ L.i1) (lo _ L.i2) (Z.old j h i (by omega) l m)
 rcases Z.zip with⟨e,q⟩|⟨e,P,q⟩
 .subst e
  refine wpAny_pyNext_zip_item D q Z.ti d Z.kU Z.kW Z.jd Z.je f g λh' a1 a2 p t u v hk=> ?_
  have B:s.heap.objs.size=base:=Z.sz
  have r:=K h' ⟨.inr ⟨jY _,false,by rw[B] at a1;exact a1⟩,hk _ _ D.TIz D.TITO D.TIi1 D.TIi2 Z.ti,⟨_,_,a2⟩,p,t,Z.jd.at λo e=>hk _ o D.l1z D.l1TO D.l1i1 D.l1i2 e,Z.je.at λo e=>hk _ o D.l2z D.l2TO D.l2i1 D.l2i2 e,
   by rw[v,B],new h' hk u⟩ hk
  rw[B]
  exact r
 .obtain⟨x0,C⟩:∃x0,xs[0]? =some x0:=⟨xs[0]'(by have:=(oH.mp f).1;omega),b_ _⟩
  obtain⟨F,G⟩:∃F,ys[0]? =some F:=⟨ys[0]'(by have:=(oH.mp g).1;omega),b_ _⟩
  have M:=Z.old 0 x0 F e C G
  rw[add_zero] at M
  refine KA D q M (g8 L.z) Z.ti Z.kU Z.kW Z.jd Z.je f g λh' a1 p t u v hk=> ?_
  have r:=K h' ⟨.inr ⟨jY _,true,a1⟩,hk _ _ D.TIz D.TIi1 D.TIi2 Z.ti,⟨_,_,hk _ _ D.TOz D.TOi1 D.TOi2 d⟩,p,t,Z.jd.at λo e=>hk _ o D.l1z D.l1i1 D.l1i2 e,Z.je.at λo e=>hk _ o D.l2z D.l2i1 D.l2i2 e,
   by rw[v,Z.sz];rfl,new h' (λc o H _ I J e=>hk c o H I J e) u⟩ λc o H _ I J e=>hk c o H I J e
  rw[Z.sz]
  exact r
theorem Np{z TI TO i1 i2 l1 l2 base:Addr}{xs ys:Array Value}{k:Nat}{Q:Option Value->Shared->Prop}(j:A.handled=none)(D:ZipApart z TI TO i1 i2 l1 l2)
  (Z:ZS z TI TO i1 i2 l1 l2 base xs ys k s.heap)(d:k=min xs.size ys.size)
  (l:∀h',(∀c o,c≠z->c≠TO->c≠i1->c≠i2->s.heap.get? c=some o->h'.get? c=some o)->Q none {s with heap:=h'}):wpAny (model prog w) A (pyNext (.ref z)) Q E s:=by
 obtain⟨a,b,f⟩:=Z.to
 have m:xs[k]? =none\/ys[k]? =none:=by
  subst d
  rcases Nat.le_total xs.size ys.size with h|h
  .exact .inl (by rw[ji h];exact lW (aF _))
  .exact .inr (by rw[Nat.min_eq_right h];exact lW (aF _))
 rcases Z.zip with⟨e,q⟩|⟨e,u,q⟩
 .exact wpAny_pyNext_zip_end j D q Z.ti f Z.kU Z.kW Z.jd Z.je m l
 .have g:0<xs.size:=by omega
  have i:0<ys.size:=by omega
  have n:=Z.old 0 _ _ e (b_ g) (b_ i)
  rw[add_zero] at n
  exact Kz j D q n Z.ti Z.kU Z.kW Z.jd Z.je m λh' hk=>l h' λc o p _ r t e=>hk c o p r t e
def c9(base k:Nat):Array Value:=((range k).map λj=>Value.ref (base+j)).toArray
theorem KN(base k:Nat):c9 base (k+1)=(c9 base k).push (.ref (base+k)):=by
 unfold c9;rw[List.range_succ,gv];simp
theorem u0(base k:Nat):(c9 base k).size=k:=by simp[c9]
end
namespace F
theorem Nn:typeLookup (.type "zip") "__len__"=pure none:=by rw[jZ,j9];kernel_rfl
theorem Nl:typeLookup (.type "zip") "__length_hint__"=pure none:=by rw[jZ,j9];kernel_rfl
end F
section
variable{prog:Program}{w:World}{A:Around}{s:Shared}{R:Result->Shared->Prop}{z TI TO i1 i2 l1 l2 base S:Addr}{xs ys:Array Value}
structure mF(z TI TO i1 i2 l1 l2 base S:Addr):Prop where
 n1:z≠S
 n2:TI≠S
 n3:TO≠S
 n4:i1≠S
 n5:i2≠S
 n6:l1≠S
 n7:l2≠S
 n8:S<base
theorem Fv(I:A.handled=none)(D:ZipApart z TI TO i1 i2 l1 l2)(L:kr z TI TO i1 i2 l1 l2 base)(O:mF z TI TO i1 i2 l1 l2 base S)(hn:min xs.size ys.size<=sizeLine)(res:Value):
  ∀(m k:Nat) (s:Shared) (c:Nat),min xs.size ys.size - k=m->k<=min xs.size ys.size->ZS z TI TO i1 i2 l1 l2 base xs ys k s.heap->s.heap.get? S=some {cls:=.type "list",dict:=none,data:=.seq (c9 base k) c,slots:= #[]}->
  (∀h' c',(∀(j:Nat) x y,xs[j]?=some x->ys[j]?=some y->IsPair h' (base+j) x y)->h'.get? S=some {cls:=.type "list",dict:=none,data:=.seq (c9 base (min xs.size ys.size)) c',slots:= #[]}->
   (∀b o,b≠S->b≠z->b≠TO->b≠i1->b≠i2->s.heap.get? b=some o->h'.get? b=some o)->R (.ok (.ret res)) {s with heap:=h'})->
  codeAny (model prog w) A (.builtin "list.extend.loop" ⟨[.ref S,.ref z,res],[]⟩) R s:=by
 have lo:∀(c j:Nat),c<base->base+j≠c:=λc j hc e=>absurd (bO hc (lZ base j)) (by rw[e];exact cZ _);intro m;induction m with
 |zero=>
  intro k s c J hk i r t;have f:k=min xs.size ys.size:=by omega
  refine eG PySem.F.entry_extend_loop ?_;rw[eU n_ _];show wpAny _ A.in1 (pyNext (.ref z)>>=_) _ _ s;refine aa (Np (A:=A.in1) I D i f λh' a=>?_);refine ak (t h' c (λj x y G H=>?_) ?_ λb o u l n p q e=>a b o l n p q e)
  .have K:j<k:=by
    have U:=(oH.mp G).1;have V:=(oH.mp H).1;omega
   exact a _ _ (lo _ _ L.z) (lo _ _ L.to) (lo _ _ L.i1) (lo _ _ L.i2) (i.old j x y K G H)
  .rw[<-f]
   exact a _ _ O.n1.symm O.n3.symm O.n4.symm O.n5.symm r
 |succ m M=>
  intro k s c J hk i r t;have v:k<min xs.size ys.size:=by omega
  have N:xs[k]?=some (xs[k]'(by omega)):=b_ _;have P:ys[k]?=some (ys[k]'(by omega)):=b_ _;refine eG PySem.F.entry_extend_loop ?_;rw[eU n_ _];show wpAny _ A.in1 (pyNext (.ref z)>>=_) _ _ s;refine aa (Nq (A:=A.in1) D L i N P λh' B a=>?_);have g:=a _ _ O.n1.symm O.n3.symm O.n4.symm O.n5.symm r;show wpAny _ A.in1 (updateSeq S (·.push (.ref (base+k)))>>=_) _ _ _;refine aa ?_;have h:∀b o,b≠S->h'.get? b=some o->(h'.update S (Obj.mapSeq (·.push (.ref (base+k))))).get? b=some o:=λb o Q e=>(gG _ _ (Ne.symm Q)).trans e;have C:=fH (Obj.mapSeq (·.push (.ref (base+k)))) g rfl;have d:∃n',(h'.update S (Obj.mapSeq (·.push (.ref (base+k))))).get? S=some {cls:=.type "list",dict:=none,data:=.seq ((c9 base k).push (.ref (base+k))) n',slots:= #[]}:=⟨_,C⟩;obtain⟨n',d⟩:=d;rw[<-KN] at d;refine jl g rfl (ak ⟨eT n_ _,M (k+1) _ n' (by omega) v (B.upd h (oj ..) O.n1 O.n2 O.n3 O.n4 O.n5 O.n6 O.n7 O.n8) d λE c' a1 a2 T=>?_⟩)
   (by rw[u0];omega) (by show((c9 base k).push _).size<=sizeLine+1;rw[Array.size_push,u0];omega)
  .exact t E c' a1 a2 λb o u l n p q e=>T b o u l n p q (h b o u (a b o l n p q e))
theorem Ft(n:A.handled=none)(D:ZipApart z TI TO i1 i2 l1 l2)(L:kr z TI TO i1 i2 l1 l2 base)(O:mF z TI TO i1 i2 l1 l2 base S)(hn:min xs.size ys.size<=sizeLine)(res:Value)(c₀:Nat)
  (i:ZS z TI TO i1 i2 l1 l2 base xs ys 0 s.heap)(k:s.heap.get? S=some {cls:= .type "list",data:= .seq #[] c₀})
  (p:∀h' c',(∀(j:Nat) x y,xs[j]? =some x->ys[j]? =some y->IsPair h' (base+j) x y)->h'.get? S=some {cls:= .type "list",dict:=none,data:= .seq (c9 base (min xs.size ys.size)) c',slots:= #[]}->
   (∀b o,b≠S->b≠z->b≠TO->b≠i1->b≠i2->s.heap.get? b=some o->h'.get? b=some o)->R (.ok (.ret res)) {s with heap:=h'}):
  wpAny (model prog w) A.in1 (Builtin.List.listExtendWith (.ref S) (.ref z) res)
   (λfin s'=>match fin with| .done f=>R (.ok f) s'| .again c'=>c'.quiet=true/\codeAny (model prog w) A c' R s') (λe s'=>R (.error e) s') s:=by
 have d:IsZip s.heap z TI TO .none:=by
  rcases i.zip with⟨_,q⟩|⟨e,_⟩
  .exact q
  .exact absurd e (cZ _)
 have h:s.TypeIs (.ref z) "zip":=⟨_,d,rfl⟩
 unfold Builtin.List.listExtendWith
 refine aa (iR h ?_)
 have h1:Builtin.List.listSameRef (.ref S) (.ref z)=false:=by simp[Builtin.List.listSameRef,O.n1.symm]
 have h2:(Value.type "zip" ==Value.type "list")=false:=by decide
 have h3:(Value.type "zip" ==Value.type "tuple")=false:=by decide
 simp only[h1,h2,h3,Bool.or_false,cu,bW]
 refine aa (wpAny_pyIter_zip d ?_)
 refine aa (dU ?_)
 unfold Builtin.List.listLengthHint
 refine aa (oA h F.Nn ?_)
 show wpAny _ A.in1 (specialOf (Value.ref z) (Str.ofString "__length_hint__")>>=_) _ _ _
 refine aa (oA h F.Nl ?_)
 refine ak ?_
 show wpAny _ A.in1 (rule "list.extend.makes-room">>=λ_=>Builtin.List.listTouch (.ref S)>>=λ_=>
  again (.builtin "list.extend.loop" ⟨[.ref S,.ref z,res],[]⟩)) _ _ _
 refine aa (j7 ?_)
 refine aa ?_
 show wpAny _ A.in1 (updateSeq S (·.push .none)>>=λ_=>updateSeq S (·.pop)) _ _ _
 refine aa (jl k rfl ?_)
 have a:=fH (Obj.mapSeq (·.push Value.none)) k rfl
 refine jl (hz:=by seq_fits) a rfl ?_
 have c:=fH (Obj.mapSeq (·.pop)) a rfl
 have g:∀b o,b≠S->s.heap.get? b=some o->((s.heap.update S (Obj.mapSeq (·.push Value.none))).update S (Obj.mapSeq (·.pop))).get? b=some o:=
  λb o l e=>(gG _ _ (Ne.symm l)).trans ((gG _ _ (Ne.symm l)).trans e)
 refine ak ⟨eT n_ _,Fv n D L O hn res _ 0 _ _ rfl (b9 _) (i.upd g (by rw[oj,oj]) O.n1 O.n2 O.n3 O.n4 O.n5 O.n6 O.n7 O.n8) c λh' c' a1 a2 r=> ?_⟩
 exact p h' c' a1 a2 λb o m t u v B e=>r b o m t u v B (g b o m e)
end
end ZL
end PySem
section
open PySem PySem.Spec PyProof.Rows
namespace L2
def bJ:List (Str×NameKind)->List Str
 |[]=>[]
 |(n,k)::r=>if (k==NameKind.free)=true then n::bJ r else bJ r
def cH(env:Env):List (Str×NameKind)->List (Str×Addr)->List (Str×Addr)
 |[],acc=>acc
 |(n,k)::r,acc=>if (k==NameKind.free)=true then cH env r ((n,(env.cells.lookup n).getD 0)::acc) else cH env r acc
theorem sP{env:Env}{f:(Str×NameKind)->List (Str×Addr)->Sem (ForInStep (List (Str×Addr)))}
  (h1:∀n k cs c,(k==NameKind.free)=true->env.cells.lookup n=some c->f (n,k) cs=pure (.yield ((n,c)::cs)))(h2:∀n k cs,(k==NameKind.free)=false->f (n,k) cs=pure (.yield cs)):
  ∀(names:List (Str×NameKind)) (acc:List (Str×Addr)),(∀n∈bJ names,∃c,env.cells.lookup n=some c)->forIn names acc f=pure (cH env names acc)
 |[],acc,_=>by rw[forIn_nil];rfl
 |(n,k)::r,acc,h=>by
  rw[forIn_cons];cases e:(k==NameKind.free) with
  |true=>
   have b:bJ ((n,k)::r)=n::bJ r:=by show(if (k==NameKind.free)=true then n::bJ r else bJ r)=_;rw[aj e]
   obtain⟨c,hc⟩:=h n (by rw[b];exact b8);rw[h1 n k acc c e hc,pure_bind];show forIn r ((n,c)::acc) f=_;rw[sP h1 h2 r _ λm d=>h m (by rw[b];exact bT _ d)];have a:cH env ((n,k)::r) acc=cH env r ((n,(env.cells.lookup n).getD 0)::acc):=by
    show(if (k==NameKind.free)=true then _ else _)=_;rw[aj e]
   rw[a,hc];rfl
  |false=>
   have b:bJ ((n,k)::r)=bJ r:=by show(if (k==NameKind.free)=true then n::bJ r else bJ r)=_;rw[ai (by rw[e];decide)]
   rw[h2 n k acc e,pure_bind];show forIn r acc f=_;rw[sP h1 h2 r _ λm d=>h m (by rw[b];exact d)];have a:cH env ((n,k)::r) acc=cH env r acc:=by
    show(if (k==NameKind.free)=true then _ else _)=_;rw[ai (by rw[e];decide)]
   rw[a]
theorem xE{scope:Scope}{env:Env}(h:∀n∈bJ scope.names,∃c,env.cells.lookup n=some c):closureFor scope env=pure (cH env scope.names []):=by
 unfold closureFor;show(forIn scope.names [] _>>=_)=_;rw[sP (env:=env) (λn k cs c hk hc=>?_) (λn k cs hk=>?_) scope.names [] h]
 .exact pure_bind _ _
 .dsimp only
  rw[aj hk];unfold cellOf;rw[hc];rfl
 .dsimp only
  rw[ai (by rw[hk];decide)]
theorem mQ{env:Env}{x:Str}:∀(names:List (Str×NameKind)) (acc:List (Str×Addr)),(∀n∈bJ names,∃c,env.cells.lookup n=some c)->
  (cH env names acc).lookup x=if x∈bJ names then env.cells.lookup x else acc.lookup x
 |[],acc,_=>by simp[cH,bJ]
 |(n,k)::r,acc,h=>by
  cases e:(k==NameKind.free) with
  |true=>
   have b:bJ ((n,k)::r)=n::bJ r:=by show(if (k==NameKind.free)=true then n::bJ r else bJ r)=_;rw[aj e]
   obtain⟨c,hc⟩:=h n (by rw[b];exact b8);have a:cH env ((n,k)::r) acc=cH env r ((n,(env.cells.lookup n).getD 0)::acc):=by
    show(if (k==NameKind.free)=true then _ else _)=_;rw[aj e]
   rw[a,b,mQ r _ λm f=>h m (by rw[b];exact bT _ f)];by_cases d:x∈bJ r
   .rw[aj d,aj (bT _ d)]
   .rw[ai d]
    by_cases g:x=n
    .subst g
     rw[aj b8,hc];simp
    .rw[ai (by intro z;rcases aQ.mp z with z|z;exact g z;exact d z)]
     have i:(x==n)=false:=by simpa using g
     rw[lookup_cons,i]
  |false=>
   have b:bJ ((n,k)::r)=bJ r:=by show(if (k==NameKind.free)=true then n::bJ r else bJ r)=_;rw[ai (by rw[e];decide)]
   have a:cH env ((n,k)::r) acc=cH env r acc:=by
    show(if (k==NameKind.free)=true then _ else _)=_;rw[ai (by rw[e];decide)]
   rw[a,b,mQ r _ λm f=>h m (by rw[b];exact f)]
theorem sN{x:Str}{c:Addr}:∀(names:List (Str×NameKind)) (n:Nat) (acc:List (Str×Addr)),(cellsFrom n names acc).lookup x=some c->(n<=c/\(x,NameKind.cell)∈names)\/acc.lookup x=some c
 |[],n,acc,h=>.inr h
 |(m,k)::r,n,acc,h=>by
  unfold cellsFrom at h;split at h
  .rename_i hk
   rcases sN r _ _ h with⟨h1,h2⟩|h1
   .exact .inl ⟨by omega,bT _ h2⟩
   .rw[lookup_cons] at h1
    split at h1
    .rename_i a
     cases h1;exact .inl ⟨aF _,by rw[iT.mp a,<-iT.mp hk];exact b8⟩
    .exact .inr h1
  .rcases sN r _ _ h with⟨h1,h2⟩|h1
   .exact .inl ⟨h1,bT _ h2⟩
   .exact .inr h1
theorem sM:∀(names:List (Str×NameKind)) (n:Nat) (acc:List (Str×Addr)),(∀x y c,acc.lookup x=some c->acc.lookup y=some c->x=y)->(∀x c,acc.lookup x=some c->c<n)->
  ∀x y c,(cellsFrom n names acc).lookup x=some c->(cellsFrom n names acc).lookup y=some c->x=y
 |[],_,_,h,_=>h
 |(m,k)::r,n,acc,h,f=>by
  unfold cellsFrom;split
  .refine sM r _ _ (λx y c d e=>?_) λx c d=>?_
   .rw[lookup_cons] at d e
    split at d<;>split at e
    .rename_i _ a _ b
     rw[iT.mp a,iT.mp b]
    .cases d
     exact absurd (f _ _ e) (cZ _)
    .cases e
     exact absurd (f _ _ d) (cZ _)
    .exact h x y c d e
   .rw[lookup_cons] at d
    split at d
    .cases d;exact iO _
    .exact fD (f _ _ d)
  .exact sM r _ _ h f
theorem sO{x:Str}:∀(names:List (Str×NameKind)) (n:Nat) (acc:List (Str×Addr)),(x,NameKind.cell)∉names->(cellsFrom n names acc).lookup x=acc.lookup x
 |[],_,_,_=>rfl
 |(m,k)::r,n,acc,h=>by
  have a:(x,NameKind.cell)∉r:=λz=>h (bT _ z);unfold cellsFrom;split
  .rename_i hk
   rw[sO r _ _ a,lookup_cons];split
   .rename_i b
    exact absurd (by rw[iT.mp b,<-iT.mp hk];exact b8) h
   .rfl
  .exact sO r _ _ a
theorem sL{x:Str}:∀(names:List (Str×NameKind)) (n:Nat) (acc:List (Str×Addr)),((∃c,acc.lookup x=some c)\/(x,NameKind.cell)∈names)->∃c,(cellsFrom n names acc).lookup x=some c
 |[],_,_,h=>by
  rcases h with h|h
  .exact h
  .cases h
 |(m,k)::r,n,acc,h=>by
  unfold cellsFrom;split
  .rename_i hk
   refine sL r _ _ ?_;rcases h with⟨c,h⟩|h
   .left
    rw[lookup_cons];split
    .exact⟨_,rfl⟩
    .exact⟨c,h⟩
   .rcases aQ.mp h with e|e
    .cases e
     exact .inl ⟨n,by rw[lookup_cons,beq_self_eq_true]⟩
    .exact .inr e
  .rename_i hk
   refine sL r _ _ (h.imp id λe=>?_);rcases aQ.mp e with e|e
   .cases e
    exact absurd rfl hk
   .exact e
theorem uP{x:Str}{c:Addr}:∀(names:List (Str×NameKind)) (h:Heap) (acc:List (Str×Addr)),(cellsFrom h.objs.size names acc).lookup x=some c->acc.lookup x=some c\/(h.objs.size<=c/\(pushCells h names).IsCell c none)
 |[],h,acc,e=>.inl e
 |(m,k)::r,h,acc,e=>by
  unfold cellsFrom at e;unfold pushCells;split at e
  .rename_i hk
   rw[aj hk];have ih:=uP (x:=x) (c:=c) r (h.push {cls:=.type "cell",data:=.cell none}) ((m,h.objs.size)::acc) (by rw[cJ];exact e);rw[cJ] at ih;rcases ih with ih|ih
   .rw[lookup_cons] at ih
    split at ih
    .cases ih
     exact .inr ⟨aF _,_,pushCells_keeps r _ _ _ (bK _ rfl),rfl⟩
    .exact .inl ih
   .exact .inr ⟨by omega,ih.2⟩
  .rename_i hk
   rw[ai hk];exact uP r h acc e
theorem Ng{M:Model}{A:Around}{E:aA}{s:Shared}{scope:Scope}{globals:Addr}{closure:List (Str×Addr)}{qual:Str}{func:Option Addr}{code:Value}{env:Env}{builtins:Addr}{Q:Env->Shared->Prop}
  (b:Q (newEnv scope s.heap.objs.size globals (cellsFrom (s.heap.objs.size+1) scope.names closure) qual func code (some env) builtins) {s with heap:=pushCells (s.heap.push {cls:=.type "dict",data:=.dict #[]}) scope.names}):
  wpAny M A (newFunctionEnv scope globals closure [] qual func code (some env) builtins) Q E s:=by
 simp only[newFunctionEnv,Option.isSome_some,f5];refine aa (wpAny_alloc ?_);refine aa (wpAny_layCells _ (λname kind cells=>by cases a:kind==NameKind.cell<;>simp[a]) _ _ _ _ ?_);rw[show({s with heap:=s.heap.push {cls:=.type "dict",data:=.dict #[]}}:Shared).heap.objs.size=s.heap.objs.size+1 from cJ ..];rw[forIn_nil];exact aa (ak (ak b))
structure dJ(X:Cx)(scope:Scope)(frees:List Str):Prop where
 kind:scope.kind= .function
 Di:∀y∈scope.names,y.2= .cell->scope.names.lookup y.1=some .cell
 locs:∀y∈scope.names,y.2= .local->scope.names.lookup y.1=some .local
 sub:∀n∈bJ scope.names,n∈frees
 free:∀n∈frees,scope.names.lookup n=some .free
 kinds:(frees.all λn=>X.env.kindOf n==some .cell||X.env.kindOf n==some .free)=true
theorem dJ.frees{X:Cx}{scope:Scope}{fr:List Str}(S:dJ X scope fr):∀n∈bJ scope.names,X.env.kindOf n=some .cell\/X.env.kindOf n=some .free:=λn hn=>by
 have h:=all_eq_true.mp S.kinds n (S.sub n hn);rcases Bool.or_eq_true _ _▸h with h|h
 .exact .inl (lU h)
 .exact .inr (lU h)
theorem qh{x:Str}:∀{names:List (Str×NameKind)},(x,NameKind.free)∈names->x∈bJ names
 |(n,k)::r,h=>by
  unfold bJ;rcases aQ.mp h with e|e
  .injection e with a b
   subst a b;rw[aj (by rfl)];exact b8
  .split
   .exact bT _ (qh e)
   .exact qh e
theorem AK{env:Env}{x:Str}:∀{names:List (Str×NameKind)} {k:NameKind},(names.map λ(n,k)=>if (k==NameKind.free&&env.scope.kind== .function&&env.kindOf n==some .cell) then (n,NameKind.cell) else (n,k)).lookup x=some k->
  ∃k0,names.lookup x=some k0/\(k=k0\/(k0=.free/\k=.cell))
 |[],k,h=>by simp at h
 |(n,k1)::r,k,h=>by
  rw[dD] at h;by_cases b:(x==n)=true
  .by_cases hc:(k1==NameKind.free&&env.scope.kind== .function&&env.kindOf n==some .cell)=true
   .dsimp only at h
    rw[aj hc,lookup_cons,b] at h;have e:k=.cell:=by injection h with h;exact h.symm
    have c:k1=.free:=by
     have:=(fF _ _▸(fF _ _▸hc).1).1;exact lU this
    exact⟨k1,by rw[lookup_cons,b],.inr ⟨c,e⟩⟩
   .dsimp only at h
    rw[ai hc,lookup_cons,b] at h;injection h with h;exact⟨k1,by rw[lookup_cons,b],.inl h.symm⟩
  .have a:(x==n)=false:=by simpa using b
   have h':(List.map (λ(n,k)=>if (k==NameKind.free&&env.scope.kind== .function&&env.kindOf n==some .cell) then (n,NameKind.cell) else (n,k)) r).lookup x=some k:=by
    by_cases hc:(k1==NameKind.free&&env.scope.kind== .function&&env.kindOf n==some .cell)=true
    .dsimp only at h;rw[aj hc,lookup_cons,a] at h;exact h
    .dsimp only at h;rw[ai hc,lookup_cons,a] at h;exact h
   obtain⟨k0,c,d⟩:=AK h';exact⟨k0,by rw[lookup_cons,a];exact c,d⟩
theorem AJ{env:Env}{x:Str}:∀{names:List (Str×NameKind)},names.lookup x=some .free->
  (names.map λ(n,k)=>if (k==NameKind.free&&env.scope.kind== .function&&env.kindOf n==some .cell) then (n,NameKind.cell) else (n,k)).lookup x=some .cell\/
  (names.map λ(n,k)=>if (k==NameKind.free&&env.scope.kind== .function&&env.kindOf n==some .cell) then (n,NameKind.cell) else (n,k)).lookup x=some .free
 |[],h=>by simp at h
 |(n,k1)::r,h=>by
  rw[dD]
  by_cases b:(x==n)=true
  .rw[lookup_cons,b] at h
   injection h with h
   subst h
   by_cases hc:(NameKind.free==NameKind.free&&env.scope.kind== .function&&env.kindOf n==some .cell)=true
   .left;dsimp only;rw[aj hc,lookup_cons,b]
   .right;dsimp only;rw[ai hc,lookup_cons,b]
  .have a:(x==n)=false:=by simpa using b
   rw[lookup_cons,a] at h
   have c:=AJ (env:=env) h
   by_cases hc:(k1==NameKind.free&&env.scope.kind== .function&&env.kindOf n==some .cell)=true
   .dsimp only;rw[aj hc,lookup_cons,a];exact c
   .dsimp only;rw[ai hc,lookup_cons,a];exact c
structure CP where
 C:Addr
 s:Shared
 H:Hp
 pins:aO
 fp:List Addr
def bB(X:Cx)(NC:List Str)(scope:Scope)(c:CP):Cx where
 prog:=X.prog
 w:=X.w
 K:=X.K
 mg:=X.mg
 base:=X.base
 A:=X.A
 N:=NC
 s₀:=c.s
 H₀:=c.H
 env:=compEnvC scope (cellsFrom (c.C+1) scope.names (cH X.env scope.names [])) c.C X.env
 outer:=X.stack
 stack:=X.stack
 ex:=c.fp
 fn:=λx=>scope.names.lookup x==some .cell
 calm:=true
 pn:=X.pn++c.pins
 xe:=λ_ _=>False
section
variable{X:Cx}{scope:Scope}{frees:List Str}{NC:List Str}{pins:aO}{σ l7:St}{H H':Hp}{s s':Shared}{fp:List Addr}{C:Addr}
theorem dJ.has(S:dJ X scope frees)(ok:X.Ok):∀n∈bJ scope.names,∃c,X.env.cells.lookup n=some c:=λn hn=>ok.has n (S.frees n hn)
theorem dJ.mP(S:dJ X scope frees)(ok:X.Ok){x:Str}{c:Addr}(h:(cH X.env scope.names []).lookup x=some c):x∈bJ scope.names/\X.env.cells.lookup x=some c:=by
 rw[mQ scope.names [] (S.has ok)] at h;by_cases a:x∈bJ scope.names
 .rw[aj a] at h;exact⟨a,h⟩
 .rw[ai a] at h;simp at h
theorem dJ.cells(S:dJ X scope frees)(ok:X.Ok){x:Str}{c:Addr}{n:Nat}(h:(cellsFrom n scope.names (cH X.env scope.names [])).lookup x=some c):n<=c\/(x∈bJ scope.names/\X.env.cells.lookup x=some c):=
 (sN _ _ _ h).imp And.left (S.mP ok)
theorem dJ.jP(S:dJ X scope frees){x:Str}(h:(x,NameKind.cell)∈scope.names)(a:x∈bJ scope.names):False:=by
 have h1:=S.Di _ h rfl;rw[S.free x (S.sub x a)] at h1;cases h1
theorem DB(S:dJ X scope frees)(hc:X.calm=true)(I:Inv X pins σ H s)(d:∀b∈fp,eH X pins H b/\b<s.heap.objs.size)(g:C=s.heap.objs.size):(bB X NC scope ⟨C,s,H,pins,fp⟩).Ok where
 mod:=I.ok.mod
 kind:=S.kind
 glob:=I.ok.glob
 blt:=I.ok.blt
 above:=by show s.heap.objs.size<=C;rw[g];exact aF _
 inj:=sM _ _ _ (λx y c h1 h2=>I.ok.inj x y c (S.mP I.ok h1).2 (S.mP I.ok h2).2) λx c h=>by
  obtain⟨v,q⟩:=I.cell x c (S.mP I.ok h).2
  rw[g]
  exact fD q.lt
 has:=λx p=>by
  have l:∃k,(relabel scope X.env).names.lookup x=some k/\(k= .cell\/k= .free):=by
   rcases p with h|h
   .exact⟨_,h,.inl rfl⟩
   .exact⟨_,h,.inr rfl⟩
  obtain⟨k,h,hk⟩:=l
  obtain⟨k0,r,f⟩:=AK h
  have j:=jm r
  have m:k0= .free\/k0= .cell:=by
   rcases f with f|⟨f,_⟩
   .rcases hk with hk|hk
    .exact .inr (f▸hk)
    .exact .inl (f▸hk)
   .exact .inl f
  refine sL _ _ _ ?_
  rcases m with rfl|rfl
  .have i:=qh j
   obtain⟨c,n⟩:=S.has I.ok x i
   exact .inl ⟨c,by rw[mQ scope.names [] (S.has I.ok),aj i];exact n⟩
  .exact .inr j
 o8:=λx c h h2=>by
  have j:(x,NameKind.cell)∈scope.names:=jm (lU h)
  show s.heap.objs.size<=c
  rcases S.cells I.ok h2 with z|⟨z,_⟩
  .rw[g] at z
   exact Nat.le_of_succ_le z
  .exact(S.jP j z).elim
 hd:=λ_=>I.ok.hd hc
 frames:=I.ok.frames
 stk:= .inl rfl
 Fo:=λb a=>⟨λz=>by have:=(d b a).2;rw[z] at this;exact absurd (g▸this) (cZ _),λx c h=>by
  rcases S.cells I.ok h with z|⟨_,z⟩
  .exact g8 (bO (d b a).2 (Nat.le_of_succ_le (g▸z:s.heap.objs.size+1<=c)))
  .exact(d b a).1.2.2.2.2.1 x c z⟩
 bs:=I.bs
 jA:=cP I.ok.jA I.sz
 qm:=λb o e a=>by
  rcases (d b a).1.2.2.2.1 with z|z
  .exact I.ok.qm b o e z
  .exact absurd (bO (aM e) (cP I.ok.jA z)) (cZ _)
 tF:=λb a z=>by
  rcases aQ.mp (I.lz b z) with e|e
  .exact(d b a).1.2.1 e
  .exact(d b a).1.2.2.1 e
 gW:=I.stack
 kO:=I.ve
def stC(own:List Str)(ix:List Nat)(σ:St):St:=own.map (λ_=>none)++ix.map λi=>(σ[i]?).join
theorem L1{own frees:List Str}{ix:List Nat}{σ:St}{b:List Str}(c:ix.map (λi=>b[i]?)=frees.map some){j:Nat}{x:Str}{v:V}(h1:(own++frees)[j]?=some x)(h2:(stC own ix σ)[j]?=some (some v)):
  x∈frees/\∃i:Nat,b[i]?=some x/\σ[i]?=some (some v):=by
 have f:ix.length=frees.length:=by have:=dh List.length c;simpa using this
 unfold stC at h2;by_cases d:j<own.length
 .rw[fZ (by simpa using d),bF] at h2
  cases e:own[j]? with
  |none=>rw[e] at h2;simp at h2
  |some o=>rw[e] at h2;simp at h2
 .rw[jt (by simpa using d),bF,bC] at h2
  rw[jt (by omega)] at h1;have a:(ix.map (λi=>b[i]?))[j - own.length]?=(frees.map some)[j - own.length]? :=by rw[c]
  rw[bF,bF,h1] at a;cases e:ix[j - own.length]? with
  |none=>rw[e] at h2;simp at h2
  |some i=>
   rw[e] at h2 a;simp only[map_some,Option.some.injEq] at h2 a;refine⟨iP h1,i,a,?_⟩;cases q:σ[i]? with
   |none=>rw[q] at h2;simp at h2
   |some o=>rw[q] at h2;simp at h2;rw[h2]
theorem L3{own frees:List Str}{ix:List Nat}{σ:St}{a:List Str}(b:ix.map (λi=>a[i]?)=frees.map some):(stC own ix σ).length=(own++frees).length:=by
 have c:ix.length=frees.length:=by have:=dh List.length b;simpa using this
 unfold stC;simp[c]
theorem DA{own:List Str}{ix:List Nat}{a:Heap}{tk:Nat}(S:dJ X scope frees)(hc:X.calm=true)(I:Inv X pins σ H s)(G:∀b∈fp,eH X pins H b/\b<s.heap.objs.size)(t:C=s.heap.objs.size)
  (E:ix.map (λi=>X.N[i]?)=frees.map some)(w:∃m,a.Ns C m)(hk:∀b o,s.heap.get? b=some o->a.get? b=some o)
  (y:∀x c,(cellsFrom (C+1) scope.names (cH X.env scope.names [])).lookup x=some c->(cH X.env scope.names []).lookup x=some c\/(C+1<=c/\a.IsCell c none)):
  Inv (bB X (own++frees) scope ⟨C,s,H,pins,fp⟩) [] (stC own ix σ) H {s with heap:=a,toks:=tk}:=by
 obtain⟨m,J⟩:=w
 refine⟨DB S hc I G t,rfl,I.bare,Un.kept hk,⟨m,J,λj x v h1 h2 h3=> ?_⟩,λx c h=> ?_,?_,λx c h=> ?_,λp K=> ?_,I.hok.kept hk,L3 E⟩
 .obtain⟨L,i,M,O⟩:=L1 E h1 h2
  have f:=S.free x L
  have g:=qh (jm f)
  have k:=S.frees x g
  obtain⟨m0,_,P⟩:=I.loc
  have A:mE X.env.scope x:=by rcases k with z|z;exact .inr (.inl z);exact .inr (.inr z)
  obtain⟨u,r,l⟩:=P i x v M O A
  refine⟨u,r,?_⟩
  rcases l with⟨F,_⟩|⟨_,c,Q,R⟩
  .rcases k with z|z
   .rw[F] at z;cases z
   .rw[F] at z;cases z
  .refine .inr ⟨AJ (env:=X.env) f,c,?_,?_⟩
   .show(cellsFrom _ scope.names (cH X.env scope.names [])).lookup x=some c
    rw[sO _ _ _ λz=>S.jP z g,mQ scope.names [] (S.has I.ok),aj g]
    exact Q
   .obtain⟨o,B,hd⟩:=R
    exact⟨o,hk _ _ B,hd⟩
 .rcases y x c h with h|h
  .obtain⟨_,e⟩:=S.mP I.ok h
   obtain⟨v,o,B,hd⟩:=I.cell x c e
   exact⟨v,o,hk _ _ B,hd⟩
  .exact⟨none,h.2⟩
 .show H C=none
  rw[t]
  exact I.hok.fresh (aF _)
 .rcases S.cells I.ok h with z|⟨_,z⟩
  .refine I.hok.fresh ?_
   have z:s.heap.objs.size+1<=c:=t▸z
   omega
  .exact I.iC x c z
 .have D:p∈X.pn++pins:=by
   have:p∈(X.pn++pins)++[]:=K
   rwa [fG] at this
  obtain⟨e,n,ne,T,d⟩:=I.pin p D
  refine⟨hk _ _ e,n,?_,λz=> ?_,d⟩
  .show p.1≠C
   rw[t]
   exact aV (aM e)
  .rcases aQ.mp (I.lz p.1 z) with q|q
   .exact ne q
   .exact T q
theorem Dy{NC:List Str}(S:dJ X scope frees)(I:Inv X pins σ H s)(d:∀b∈fp,eH X pins H b/\b<s.heap.objs.size)(e:C=s.heap.objs.size){b:Addr}(a:b∈fp)(hn:H' b=none):eH (bB X NC scope ⟨C,s,H,pins,fp⟩) [] H' b:=by
 refine⟨hn,?_,λz=>?_,.inl a,λx c h=>by
  rcases S.cells I.ok h with z|⟨_,z⟩
  .exact g8 (bO (d b a).2 (Nat.le_of_succ_le (e▸z:s.heap.objs.size+1<=c)))
  .exact(d b a).1.2.2.2.2.1 x c z,λp f=>(d b a).1.2.2.2.2.2 p ?_⟩
 .show b≠C
  rw[e];exact aV (d b a).2
 .rcases aQ.mp (I.lz b z) with q|q
  .exact(d b a).1.2.1 q
  .exact(d b a).1.2.2.1 q
 .have:p∈(X.pn++pins)++[]:=f
  rwa [fG] at this
theorem Dw{NC:List Str}(I:Inv X pins σ H s)(a:∀b∈fp,eH X pins H b/\b<s.heap.objs.size)(J:Inv (bB X NC scope ⟨C,s,H,pins,fp⟩) [] l7 H' s'):Inv X pins σ H' s':=
 I.C1 J.os J.base J.hok J.bare λb c=>⟨(a b c).1.2.2.2.1,(a b c).1.2.1,(a b c).1.2.2.2.2.1,(a b c).1.2.2.2.2.2⟩
theorem Dz{h':Heap}(I:Inv X pins σ H s)(hn:H C=none)(h1:C≠X.env.locals)(h2:X.s₀.heap.objs.size<=C)(h3:∀x c,X.env.cells.lookup x=some c->c≠C)(a:∀p∈X.pn++pins,p.1≠C)(hs:SameBut C s.heap h'):
 Inv X pins σ H {s with heap:=h'}:=I.turned (t':=s.toks) (λb o d e=>(hs.2 b d).trans e) hn h1 (.inr h2) h3 a
end
inductive eK:St->St->Prop
 |nil:eK [] []
 |own {o:Option V} {a b:St}:eK a b->eK (none::a) (o::b)
 |keep {o:Option V} {a b:St}:eK a b->eK (o::a) (o::b)
theorem eK.len:∀{a b:St},eK a b->b.length=a.length
 |_,_,.nil=>rfl
 |_,_,.own h=>dh (·+1) h.len
 |_,_,.keep h=>dh (·+1) h.len
theorem eK.get:∀{a b:St},eK a b->∀(i:Nat) v,a[i]?=some (some v)->b[i]?=some (some v)
 |_,_,.nil,i,v,e=>by simp at e
 |_,_,.own h,0,v,e=>by simp at e
 |_,_,.own h,i+1,v,e=>by
  rw[vI] at e ⊢;exact h.get i v e
 |_,_,.keep h,0,v,e=>by simpa using e
 |_,_,.keep h,i+1,v,e=>by
  rw[vI] at e ⊢;exact h.get i v e
theorem eK.refl:∀a:St,eK a a
 |[]=>.nil
 |_::r=>.keep (eK.refl r)
inductive gO(X:Cx):List Expr->TT->Prop
 |nil:gO X [] (λ_ H Q=>Q true H)
 |one {c:Expr} {t:TT}:PT X c t->gO X [c] t
theorem gO.run{X:Cx}{ifs:List Expr}{t:TT}(h:gO X ifs t){pins:aO}{s:Shared}{σ:St}{H:Hp}{Q:Bool->Hp->Prop}(I:Inv X pins σ H s)(a:t σ H Q):
  wpAny (model X.prog X.w) X.A (forIn ifs true λc r=>if r=true then do let ok <-isTrue c X.env (eval c X.env);pure (ForInStep.yield ok) else pure (ForInStep.yield r)) (TP X pins σ Q) X.xe s:=by
 cases h with
 |nil=>exact wpAny_tests_nil ⟨H,I,a⟩
 |one h=>exact wpAny_tests_one (h pins s σ H Q I a)
def C0(l7:St)(acc:Addr)(g:TG)(tt:TT)(te:TE)(x:V)(ys:List V)(H:Hp)(N:List V->Hp->Prop):Prop:=
 g x l7 H λσ2 H2=>eK l7 σ2/\tt σ2 H2 λb H3=>if b=true then te σ2 H3 λy H4=>H4 acc=some (.lst ys)/\ys.length<sizeLine/\N (ys++[y]) (upd H4 acc (.lst (ys++[y]))) else N ys H3
def sI(J:It)(l7:St)(acc:Addr)(g:TG)(tt:TT)(te:TE)(H:Hp)(Q:VK):Prop:=
 ∃W:Nat->Nat->List V->Hp->Prop,(∃m,W 0 m [] H)/\∀i m ys H,W i m ys H->H acc=some (.lst ys)/\
  ((J.stop i H/\Q (.ref acc) H)\/(J.go i H/\∃N:List V->Hp->Prop,(∀ys' H',N ys' H'->∃m',m'<m/\W (i+1) m' ys' H')/\∀x H',J.rC i H x H'->C0 l7 acc g tt te x ys H' N))
def vh(own:List Str)(ix:List Nat)(wi:TI)(g:CP->TG)(tt:CP->TT)(te:CP->TE):TE:=λσ H Q=>
 wi σ H λJ H1=>∀(c:CP) (acc:Addr),H1 acc=none->sI J (stC own ix σ) acc (g c) (tt c) (te c) (upd H1 acc (.lst [])) Q
section
variable{X:Cx}{scope:Scope}{own frees:List Str}{ix:List Nat}{tg elt iter:Expr}{ifs:List Expr}{pos:Pos}{wi:TI}{g:CP->TG}{tt:CP->TT}{te:CP->TE}
theorem Dm{J:It}{it acc:Addr}{fp:List Addr}{E:Nat->Heap->Prop}{c:CP}{σ:St}{H:Hp}{s:Shared}{Q:VK}{R:Result->Shared->Prop}
  (hfp:c.fp=fp)(T:Turn X.prog X.w X.K tg J fp it E)(hg:PG (bB X (own++frees) scope c) tg (g c))(ht:gO (bB X (own++frees) scope c) ifs (tt c))(he:PE (bB X (own++frees) scope c) elt (te c))
  (j:∀b∈fp,∀H':Hp,H' b=none->eH (bB X (own++frees) scope c) [] H' b)
  (I:Inv (bB X (own++frees) scope c) [] (stC own ix σ) H s)(st:E 0 s.heap)(fr:∀b∈fp,H b=none)(h:sI J (stC own ix σ) acc (g c) (tt c) (te c) H Q)
  (hR:∀s' H',Inv (bB X (own++frees) scope c) [] (stC own ix σ) H' s'->Q (.ref acc) H'->R (.ok .next) s'):
  codeAny (model X.prog X.w) X.A (.compLoop (.ListComp elt [⟨tg,iter,ifs,0⟩] scope pos) 0 (.ref it) (.ref acc) (bB X (own++frees) scope c).env) R s:=by
 obtain⟨W,⟨m0,w0⟩,turn⟩:=h
 refine codeAny_loop rfl (λn s'=>∃i ys H',Inv (bB X (own++frees) scope c) [] (stC own ix σ) H' s'/\E i s'.heap/\(∀b∈fp,H' b=none)/\W i n ys H') (λn M hI=> ?_) m0 ⟨0,[],H,I,st,fr,w0⟩
 obtain⟨i,ys,H1,I1,p,v,w1⟩:=hI
 show wpAny _ X.A ((compTurn (.ListComp elt [⟨tg,iter,ifs,0⟩] scope pos) 0 (.ref it) (.ref acc) (bB X (own++frees) scope c).env).onRaise (λx=>do noteFrame x (bB X (own++frees) scope c).env;theTreesLotGoes x)) _ _ M
 have k:∀{α:Type} {t:Sem α} {P:α->Shared->Prop} {s:Shared},wpAny (model X.prog X.w) X.A t P (λ_ _=>False) s->wpAny (model X.prog X.w) X.A t P (notedBy (model X.prog X.w) X.A (bB X (own++frees) scope c).env λe s'=>R (.error e) s') s:=
  λh=>h_ h (λ_ _ q=>q) λ_ _ z=>z.elim
 refine wpAny_noted ?_
 rw[compTurn_list]
 obtain⟨ha,hw⟩:=turn i n ys H1 w1
 rcases hw with⟨stop,q⟩|⟨go,N,hN,step⟩
 .refine aa (rQ (aa (k (aG (T.done (bB X (own++frees) scope c) rfl rfl rfl rfl i [] M _ H1 (λ_ _=>False) I1 (λb f=>j b f H1 (v b f)) p stop) λr s2 ⟨O,I2⟩=> ?_))))
  subst O
  exact ak (hR s2 H1 I2 q)
 .refine aa (rQ (aa (k (aG (T.item (bB X (own++frees) scope c) rfl rfl rfl rfl i [] M _ H1 (λ_ _=>False) I1 (λb f=>j b f H1 (v b f)) p go) λr s2 ⟨u,O,h2⟩=> ?_))))
  subst O
  refine aa (k (aG h2 λ_ s3 ⟨x,S,I3,r3,y3,l,U⟩=> ?_))
  have V:=I3.pinned (λb f=>j b f S (U b f)) (T.obj _ _ l)
  refine aa (k (aG (hg _ s3 _ S x u _ V r3 (step x S y3)) λ_ s4 ⟨Nr,H4,I4,F,q4⟩=> ?_))
  refine aa (k (aG (ht.run I4 q4) λok s5 ⟨H5,Y,G⟩=> ?_))
  have a:∀{B:Shared} {C:St} {m:Hp},Inv (bB X (own++frees) scope c) ([]++nH fp s3.heap) C m B->E (i+1) B.heap/\∀b∈fp,m b=none:=λ {B C m} D=>
   ⟨T.keep _ _ _ l λb f o e=>(D.pin (b,o) (ff _ (ff _ (qi f e)))).1,λb f=>by
    obtain⟨o,e,d⟩:=T.obj _ _ l b f
    exact(D.pin (b,o) (ff _ (ff _ (qi f e)))).2.1⟩
  cases ok with
  |false=>
   rw[ai (by decide)] at G
   obtain⟨Z,hm,w5⟩:=hN _ _ G
   obtain⟨k1,k2⟩:=a Y
   exact ak ⟨rfl,Z,hm,i+1,ys,H5,(Y.nY).weak F.len.symm F.get,k1,k2,w5⟩
  |true=>
   rw[aj rfl] at G
   refine aa (aa (k (aG (he _ s5 _ H5 _ Y G) λy B ⟨L,m,D,r6,a6,l6,q6⟩=> ?_)))
   obtain⟨Z,hm,w6⟩:=hN _ _ q6
   obtain⟨k1,k2⟩:=a D
   refine aa (k (aG (uB (X:=bB X (own++frees) scope c) _ B _ m (.ref acc) [L] (.ref acc) [y] (λ_ H7=>H7=upd m acc (.lst (ys++[L]))) D rfl (.cons r6 .nil) ⟨acc,ys,L,rfl,rfl,a6,l6,rfl⟩) λ_ s7 ⟨_,H7,I7,_,e7⟩=> ?_))
   subst e7
   obtain⟨k1,k2⟩:=a I7
   exact ak (ak ⟨rfl,Z,hm,i+1,ys++[L],_,(I7.nY).weak F.len.symm F.get,k1,k2,w6⟩)
structure rX(X:Cx)(pins:aO)(C:Addr)(H:Hp):Prop where
 no:H C=none
 loc:C≠X.env.locals
 old:X.s₀.heap.objs.size<=C
 fk:∀x c,X.env.cells.lookup x=some c->c≠C
 pin:∀p∈X.pn++pins,p.1≠C
theorem rX.inv{pins:aO}{σ:St}{H:Hp}{s:Shared}{C:Addr}{h':Heap}(G:rX X pins C H)(I:Inv X pins σ H s)(hs:SameBut C s.heap h'):Inv X pins σ H {s with heap:=h'}:=
 Dz I G.no G.loc G.old G.fk G.pin hs
theorem xF{pins:aO}{σ:St}{H:Hp}{s:Shared}{Q:VK}{D:Value->Addr->Result->Shared->Prop}{E:aA}{J:It}{it:Addr}{fp:List Addr}{F:Nat->Heap->Prop}
  (S:dJ X scope frees)(hc:X.calm=true)(W:ix.map (λi=>X.N[i]?)=frees.map some)
  (Y:∀c,PG (bB X (own++frees) scope c) tg (g c))(Z:∀c,gO (bB X (own++frees) scope c) ifs (tt c))(he:∀c,PE (bB X (own++frees) scope c) elt (te c))
  (I:Inv X pins σ H s)(T:Turn X.prog X.w X.K tg J fp it F)(st:F 0 s.heap)(R:∀b∈fp,eH X pins H b)
  (h:∀(c:CP) (acc:Addr),H acc=none->sI J (stC own ix σ) acc (g c) (tt c) (te c) (upd H acc (.lst [])) Q)
  (G:∀(acc C:Addr) s' H' m,Inv X pins σ H' s'->s'.heap.Ns C m->rX X pins C H'->Q (.ref acc) H'->D (.ref acc) C (.ok .next) s'):
  wpAny (model X.prog X.w) X.A (newList []) (λacc u=>wpAny (model X.prog X.w) X.A (newFunctionEnv scope X.env.globals (cH X.env scope.names []) [] X.env.qual none .none (some X.env)) (λl y=>
   codeAny (model X.prog X.w) X.A (.compStart (.ListComp elt [⟨tg,iter,ifs,0⟩] scope pos) 0 (.ref it) acc {l with scope:=relabel scope X.env}) (D acc l.locals) y) E u) E s:=by
 refine dH (Ng ?_)
 dsimp only
 have L:H s.heap.objs.size=none:=I.hok.fresh (aF _)
 have n:Inv X pins σ (upd H s.heap.objs.size (.lst [])) {s with heap:=s.heap.push {cls:= .type "list",data:= .seq ([]:List Value).toArray}}:=I.zE (its:=[]) (t':=s.toks) .nil (b9 _)
 generalize r:({s with heap:=s.heap.push {cls:= .type "list",data:= .seq ([]:List Value).toArray}}:Shared)=d at n
 have U:d.heap=s.heap.push {cls:= .type "list",data:= .seq ([]:List Value).toArray}:=by rw[<-r]
 have V:∀b∈fp,b<s.heap.objs.size:=λb j=>by
  obtain⟨o,e,_⟩:=T.obj _ _ st b j
  exact aM e
 have sz:d.heap.objs.size=s.heap.objs.size+1:=by rw[U,cJ]
 have k:∀b∈fp,eH X pins (upd H s.heap.objs.size (.lst [])) b/\b<d.heap.objs.size:=λb j=>
  ⟨⟨by rw[bz (aV (V b j))];exact(R b j).1,(R b j).2⟩,by rw[sz];exact fD (V b j)⟩
 obtain⟨a,B⟩:∃a,a=pushCells (d.heap.push {cls:= .type "dict",data:= .dict #[]}) scope.names:=⟨_,rfl⟩
 have kp:∀b o,d.heap.get? b=some o->a.get? b=some o:=λb o e=>by
  rw[B]
  exact pushCells_keeps _ _ b o (aR _ e)
 have M:∃m,a.Ns d.heap.objs.size m:=by
  rw[B]
  exact⟨_,(Heap.Ns.new d.heap (.type "dict")).keeps (pushCells_keeps _ _)⟩
 have cl:∀x c,(cellsFrom (d.heap.objs.size+1) scope.names (cH X.env scope.names [])).lookup x=some c->(cH X.env scope.names []).lookup x=some c\/(d.heap.objs.size+1<=c/\a.IsCell c none):=λx c e=>by
  have:=uP (x:=x) (c:=c) scope.names (d.heap.push {cls:= .type "dict",data:= .dict #[]}) (cH X.env scope.names []) (by rw[cJ];exact e)
  rw[cJ,<-B] at this
  exact this
 have J0:Inv (bB X (own++frees) scope ⟨d.heap.objs.size,d,upd H s.heap.objs.size (.lst []),pins,fp⟩) [] (stC own ix σ) (upd H s.heap.objs.size (.lst [])) {d with heap:=a}:=
  DA (tk:=d.toks) S hc n k rfl W M kp cl
 have O:∀b∈fp,∀H':Hp,H' b=none->eH (bB X (own++frees) scope ⟨d.heap.objs.size,d,upd H s.heap.objs.size (.lst []),pins,fp⟩) [] H' b:=λb j H' hn=>Dy S n k rfl j hn
 have t:F 0 a:=T.keep _ _ _ st λb j o e=>kp b o (by rw[U];exact aR _ e)
 have loop:codeAny (model X.prog X.w) X.A (.compLoop (.ListComp elt [⟨tg,iter,ifs,0⟩] scope pos) 0 (.ref it) (.ref s.heap.objs.size) (bB X (own++frees) scope ⟨d.heap.objs.size,d,upd H s.heap.objs.size (.lst []),pins,fp⟩).env)
   (D (.ref s.heap.objs.size) d.heap.objs.size) {d with heap:=a}:=by
  refine Dm rfl T (Y _) (Z _) (he _) O J0 t (λb j=>(k b j).1.1) (h _ _ L) λs' H' P q=> ?_
  obtain⟨m,hm,_⟩:=P.loc
  refine G _ _ s' H' m (Dw n k P) hm ⟨P.free,g8 n.lt,n.sz,λx c e z=> ?_,λp hp z=> ?_⟩ q
  .obtain⟨v,q⟩:=n.cell x c e
   exact absurd (bO q.lt (by rw[z];exact aF _)) (cZ _)
  .exact absurd (bO (aM (n.pin p hp).1) (by rw[z];exact aF _)) (cZ _)
 have f:=loop
 rw[B,<-r] at f
 exact codeAny_compStart_list f (T.self _ 0 _ _ _ (by rw[B,<-r] at t;exact t) f)
theorem JA(hi:PI X tg iter wi)
  (d:∀c,PG (bB X (own++frees) scope c) tg (g c))(f:∀c,gO (bB X (own++frees) scope c) ifs (tt c))(j:∀c,PE (bB X (own++frees) scope c) elt (te c))(S:dJ X scope frees:=by exact⟨rfl,by decide+kernel,by decide+kernel,by decide+kernel,by decide+kernel,rfl⟩)(hc:X.calm=true:=by rfl)(k:ix.map (λi=>X.N[i]?)=frees.map some:=by rfl)(hs:∀x,foldedSetIterable iter X.env x=pure x:=by intro _;rfl):
  PE X (.ListComp elt [⟨tg,iter,ifs,0⟩] scope pos) (vh own ix wi g tt te):=by
 intro pins s σ H Q I h;rw[eval_ListComp];refine wpAny_comprehension_free (use:=none) rfl hs (xE (S.has I.ok)) S.kind S.locs (aG (hi pins s σ H _ I h) λv t h1=>aG h1 λl u h2=>?_);obtain⟨it,fp,w,J,H2,e,n,T,a,f2,o⟩:=h2;subst e;refine xF S hc k d f j n T a f2 o λacc C s' H' m p r G q=>?_;exact⟨m,r,λh' b=>⟨.ref acc,H',G.inv p b,rfl,q⟩⟩
theorem J_{i:Nat}{x:Str}{pos' spos:Pos}(b:X.N.Nodup)(d:X.N[i]? =some x)(o:Loc X.env.scope x)(hi:PI X tg iter wi)
  (p:∀c,PG (bB X (own++frees) scope c) tg (g c))(r:∀c,gO (bB X (own++frees) scope c) ifs (tt c))(t:∀c,PE (bB X (own++frees) scope c) elt (te c))(S:dJ X scope frees:=by exact⟨rfl,by decide+kernel,by decide+kernel,by decide+kernel,by decide+kernel,rfl⟩)(hc:X.calm=true:=by rfl)(u:ix.map (λi=>X.N[i]?)=frees.map some:=by rfl)(hs:∀x,foldedSetIterable iter X.env x=pure x:=by intro _;rfl)
  (f:swapsWith (.ListComp elt [⟨tg,iter,ifs,0⟩] scope pos) (some (.Name x pos')) spos.line X.env=pure true:=by rfl)(w:X.fn x=true\/X.env.scope.names.lookup x=some .local:=by first|exact .inl rfl|exact .inr rfl|assumption):
  PS X (.Assign [.Name x pos'] (.ListComp elt [⟨tg,iter,ifs,0⟩] scope pos) spos) (BR (vh own ix wi g tt te) (kP i)):=by
 intro pins s σ H D I h
 rw[exec_Assign_Name_used _ _ _ _ f]
 refine aa (rQ (aa ?_))
 show wpAny _ X.A (do let _ <-comprehension (.ListComp elt [⟨tg,iter,ifs,0⟩] scope pos) scope X.env _ (newList []) false (eval iter X.env) (some (assign (.Name x pos') X.env))) _ _ s
 refine aa (h_ (wpAny_comprehension_free (use:=some (assign (.Name x pos') X.env)) (Q:=λ_ s'=>SP X pins D .next s') rfl hs (xE (S.has I.ok)) S.kind S.locs
  (aG (hi pins s σ H _ I h) λv M h1=>aG h1 λy z h2=> ?_)) (λ_ s' hq=>ak (ak hq)) λ_ _ e=>e)
 obtain⟨it,fp,O,J,H2,e,B,T,j,f2,E⟩:=h2
 subst e
 refine xF S hc u p r t B T j f2 E λacc C s' H' m F K G q=> ?_
 show wpAny _ X.A (assign (.Name x pos') X.env (.ref acc)) _ _ _
 refine wpAny_assign_Name (BO F b d o (v:= .ref acc) rfl (λz k ch=> ?_) w)
 obtain⟨a,sb,L⟩:=ch
 have l:C≠a:=by
  rcases L with e|e
  .rw[e];exact G.loc
  .exact(G.fk _ _ e).symm
 exact⟨m,K.sameBut sb l,λh' n=>⟨_,H',G.inv k n,q⟩⟩
end
section
variable{X:Cx}
theorem xx:∀{bs:List Bool} {its:List Value},Vals (bs.map V.bl) its->LSm.BoolsAre its bs
 |[],_,.nil=>.nil
 |b::r,_,.cons q t=>by
  cases q;exact .cons b (xx t)
theorem C2(hc:X.calm=true):dY X (.builtin "all") (λxs H Q=>∃(p:Addr) (bs:List Bool),xs=[.ref p]/\aX X.K H p (bs.map V.bl)/\Q (.bl (bs.all id)) H):=by
 intro pins s σ H xs k Q I r h;obtain⟨p,bs,rfl,hq,q⟩:=h;obtain⟨u,rfl,ru⟩:=vals1 r;cases ru;obtain⟨vs,g,pl,hz⟩:=I.list hq;have d:=xx g;have a:=pl.isList;have c:p<s.heap.objs.size:=by obtain⟨_,e,_⟩:=a;exact aM e
 refine call_all_walk (rP a ?_);refine⟨s.heap.objs.size,[s.heap.objs.size,p],[s.heap.objs.size],vs.toArray.size,_,_,λi=>(bs[i]?).getD true,rfl,Walks.list (A:=X.A.in1) (I.ok.hd hc) _ p (aV c) vs.toArray,
  ⟨⟨_,bK _ rfl,rfl,rfl⟩,a.push _⟩,λi v s' l m j f=>?_,λh' tk hk=>?_⟩
 .obtain⟨b,e,rfl⟩:=d.get i v (by simpa using j)
  simp only[e,getD_some] at f;exact ie f
 .have e:((range vs.toArray.size).all λi=>(bs[i]?).getD true)=bs.all id:=by
   rw[bV,d.length];exact LSm.range_all bs
  rw[e];exact⟨.bl _,H,I.kept (h':=h') (t':=tk) (LSm.kept_iter hk),rfl,q⟩
theorem Jb:aT X (binaryOp .FloorDiv) (rI (λ_ j=>0<j/\j.natAbs.log2<9000) λi j=>.int (i/j)):=qt λi j _ _ _ _ _ hc q=>by
 have h1:(0:Int)<j:=hc.1;exact floordiv_int (by omega) (by rw[Int.fdiv_eq_ediv_of_nonneg i (by omega)];exact q) (.inl (PyProof.noPylong_of_log2 hc.2))
def r9(y:Str):It:=⟨λi _=>i<y.cps.size,λi H x H'=>H'=H/\∃c,y.cps[i]?=some c/\x=.str ⟨#[c]⟩,λi _=>i=y.cps.size⟩
theorem M4{P:Program}{w:World}{K:Frag}{nm:Str}{px:Pos}{ty:String}{y:Str}{t:Tok}(it:Addr)
  (W:∀A:Around,A.handled=none->Walks P w A it [it] [it] y.cps.size (SignAt y) (λi h=>h.IsStrIter it ty y t i))
  (C:∀(A:Around) (i:Nat) (s:Shared) (Q:aA) (E:aA),s.heap.IsStrIter it ty y t i->Q (.ref it) s->wpAny (model P w) A (pyIter (.ref it)) Q E s):Turn P w K (.Name nm px) (r9 y) [it] it (λi h=>h.IsStrIter it ty y t i) where
 mem:=by simp
 obj:=λi h st b a=>by
  have e:b=it:=by simpa using a
  subst e
  obtain⟨o,e,c,d⟩:=st
  exact⟨o,e,λv z=>by rw[d] at z;cases z⟩
 keep:=λi h h' st k=>let ⟨o,D,r⟩:=st;⟨o,k it (by simp) o D,r⟩
 item:=by
  intro X f j l hc i pins s σ H E I g st m
  subst f j l
  obtain⟨f0,f1,f2,n,f4,p⟩:=g it (by simp)
  refine(W X.A (I.ok.hd hc)).item i s _ _ m st λv h' tk f q hk=> ?_
  obtain⟨c,u,x,rfl⟩:=f
  have F:Inv X pins σ H {s with heap:=h',toks:=tk}:=I.turned (λb o a e=>hk b o (by simpa using a) e) f0 f1 n f4 p
  exact⟨_,rfl,ak ⟨.str ⟨#[c]⟩,H,F,⟨u,rfl⟩,⟨rfl,c,x,rfl⟩,q,λb a=>(g b a).1⟩⟩
 done:=by
  intro X f j l hc i pins s σ H E I g st m
  subst f j l
  obtain⟨f0,f1,f2,n,f4,p⟩:=g it (by simp)
  have B:i=y.cps.size:=m
  subst B
  exact(W X.A (I.ok.hd hc)).done s _ _ st λh' tk hk=>⟨rfl,I.turned (λb o a e=>hk b o (by simpa using a) e) f0 f1 n f4 p⟩
 self:=λA i s Q E st h=>C A i s Q E st h
def GN(tl:TE):TI:=λσ H R=>tl σ H λx H1=>∃y,x=.str y/\R (r9 y) H1
theorem JW{l:Expr}{tl:TE}{nm:Str}{px:Pos}(j:PE X l tl):PI X (.Name nm px) l (GN tl):=by
 intro pins s σ H R I h;refine aG (j pins s σ H _ I h) λv a ⟨x,H1,c,k,m⟩=>?_;obtain⟨y,e,q⟩:=m;subst e;obtain⟨t,rfl⟩:=k;have fin:∀(ty:String) (o:Obj) (W:∀A:Around,A.handled=none->Walks X.prog X.w A a.heap.objs.size [a.heap.objs.size] [a.heap.objs.size] y.cps.size (SignAt y) (λi h=>h.IsStrIter a.heap.objs.size ty y t i))
   (f:∀(A:Around) (i:Nat) (s:Shared) (Q:aA) (E:aA),s.heap.IsStrIter a.heap.objs.size ty y t i->Q (.ref a.heap.objs.size) s->wpAny (model X.prog X.w) A (pyIter (.ref a.heap.objs.size)) Q E s),
   (a.heap.push o).IsStrIter a.heap.objs.size ty y t 0->wg X pins σ (.Name nm px) R (.ref a.heap.objs.size) {a with heap:=a.heap.push o}:=λty o W f st=>by
  refine⟨a.heap.objs.size,[a.heap.objs.size],_,_,H1,rfl,c.kept (t':=a.toks) λb o e=>aR _ e,M4 _ W f,st,λb n=>?_,q⟩;have e:b=a.heap.objs.size:=by simpa using n
  subst e;exact c.tN (aF _) (c.hok.fresh (aF _))
 cases g:y.cps.all (·<128)
 .exact wpAny_pyIter_wide g (fin _ _ (λA' d=>Walks.strWide d _ y t) (λ_ _ _ _ _ st h=>wpAny_pyIter_striter_wide st h) ⟨_,bK _ rfl,rfl,rfl⟩)
 .exact wpAny_pyIter_ascii g (fin _ _ (λA' d=>Walks.strAscii d _ y t) (λ_ _ _ _ _ st h=>wpAny_pyIter_striter_ascii st h) ⟨_,bK _ rfl,rfl,rfl⟩)
end
mutual
inductive Dp(K:Frag)(H:Hp):V->PyData->Prop
 |aD:Dp K H .aD .none
 |bl (b:Bool):Dp K H (.bl b) (.bool b)
 |int (i:Int):Dp K H (.int i) (.int i)
 |str (x:Str):Dp K H (.str x) (.str x)
 |lst {a:Addr} {xs:List V} {ds:List PyData}:aX K H a xs->d9 K H xs ds->Dp K H (.ref a) (.list ds)
 |tup {a:Addr} {xs:List V} {ds:List PyData}:bf K H a xs->d9 K H xs ds->Dp K H (.ref a) (.tuple ds)
inductive d9(K:Frag)(H:Hp):List V->List PyData->Prop
 |nil:d9 K H [] []
 |cons {v:V} {vs:List V} {d:PyData} {ds:List PyData}:Dp K H v d->d9 K H vs ds->d9 K H (v::vs) (d::ds)
end
section
variable{X:Cx}{pins:aO}{σ:St}{H H':Hp}{s:Shared}{K:Frag}
mutual
theorem Dp.reads(I:Inv X pins σ H s):∀(d:PyData) (v:V) (u:Value),Dp X.K H v d->RelV v u->∃as,Reads s.heap u d as
 |.none,_,_,h,r=>by cases h;cases r;exact⟨_,.none⟩
 |.bool b,_,_,h,r=>by cases h;cases r;exact⟨_,.bool b⟩
 |.int i,_,_,h,r=>by cases h;obtain⟨t,rfl⟩:=r;exact⟨_,.int i t⟩
 |.str x,_,_,h,r=>by cases h;obtain⟨t,rfl⟩:=r;exact⟨_,.str x t⟩
 |.list ds,_,_,h,r=>by
  cases h with
  |lst hq hs=>
   cases r;obtain⟨its,a,pl,hz⟩:=I.list hq;obtain⟨as,ra⟩:=d9.reads I ds _ _ hs a;obtain⟨o,e,hc,n,hd⟩:=pl.isList;exact⟨_,.list e hc hd (by simpa using ra)⟩
 |.tuple ds,_,_,h,r=>by
  cases h with
  |tup hq hs=>
   cases r;obtain⟨its,a,pl,hz⟩:=I.tuple hq;obtain⟨as,ra⟩:=d9.reads I ds _ _ hs a;obtain⟨o,e,hc,n,hd⟩:=pl;exact⟨_,.tuple e hc hd (by simpa using ra)⟩
 |.dict _,_,_,h,_=>nomatch h
theorem d9.reads(I:Inv X pins σ H s):∀(ds:List PyData) (vs:List V) (a:List Value),d9 X.K H vs ds->Vals vs a->∃as,ReadsAll s.heap a ds as
 |[],_,_,h,r=>by cases h;cases r;exact⟨_,.nil⟩
 |d::ds,_,_,h,r=>by
  cases h with
  |cons h1 h2=>
   cases r with
   |cons b c=>
    obtain⟨as,a1⟩:=Dp.reads I d _ _ h1 b;obtain⟨bs,a2⟩:=d9.reads I ds _ _ h2 c;exact⟨_,.cons a1 a2⟩
end
def uV(K:Frag):R2:=λx y H Q=>∃d e,Dp K H x d/\Dp K H y e/\d.canLay0=true/\e.canLay0=true/\min d.depth e.depth<=64/\Q (.bl (PyData.eqv d e)) H
def uX(K:Frag):R2:=λx y H Q=>∃d e,Dp K H x d/\Dp K H y e/\d.canLay0=true/\e.canLay0=true/\min d.depth e.depth<=64/\Q (.bl (!PyData.eqv d e)) H
theorem Ja(i:X.A.units+64<cLine):aT X (compareOp .Eq) (uV X.K):=by
 intro pins s σ H x y v u Q I a b h;obtain⟨d,e,h1,h2,c,f,hd,q⟩:=h;obtain⟨as,ra⟩:=Dp.reads I d x v h1 a;obtain⟨bs,g⟩:=Dp.reads I e y u h2 b;exact SeqAt.compareEq_reads ra g c f (by omega) ⟨.bl _,H,I,rfl,q⟩
theorem Jl(i:X.A.units+64<cLine):aT X (compareOp .NotEq) (uX X.K):=by
 intro pins s σ H x y v u Q I a b h;obtain⟨d,e,h1,h2,c,f,hd,q⟩:=h;obtain⟨as,ra⟩:=Dp.reads I d x v h1 a;obtain⟨bs,g⟩:=Dp.reads I e y u h2 b;exact SeqAt.compareNe_reads ra g c f (by omega) ⟨.bl _,H,I,rfl,q⟩
theorem iX.new{p:Addr}(h:H p=none)(o:HO):iX H (upd H p o):=λb u q=>by rw[bz (dP q h)];exact q
theorem d9.ints:∀(xs:List Int),d9 K H (xs.map V.int) (xs.map PyData.int)
 |[]=>.nil
 |x::r=>.cons (.int x) (d9.ints r)
end
mutual
def dz:PyData->Bool
 |.none|.int _|.str _=>true
 |.bool _=>false
 |.list ds=>gp ds
 |.tuple ds=>gp ds
 |.dict _=>false
def gp:List PyData->Bool
 |[]=>true
 |d::r=>dz d&&gp r
end
mutual
theorem yp:∀(d e:PyData),dz d=true->dz e=true->(PyData.eqv d e=true↔d=e)
 |.none,e,_,h=>by cases e<;>simp[PyData.eqv,dz] at h ⊢
 |.bool b,e,h,_=>by simp[dz] at h
 |.int i,e,_,h=>by cases e<;>simp[PyData.eqv,dz] at h ⊢
 |.str x,e,_,h=>by cases e<;>simp[PyData.eqv,dz] at h ⊢
 |.list ds,e,h1,h2=>by
  cases e with
  |list es=>
   have:=tE ds es (by simpa[dz] using h1) (by simpa[dz] using h2);simpa[PyData.eqv] using this
  |_=>simp[PyData.eqv,dz] at h2 ⊢
 |.tuple ds,e,h1,h2=>by
  cases e with
  |tuple es=>
   have:=tE ds es (by simpa[dz] using h1) (by simpa[dz] using h2);simpa[PyData.eqv] using this
  |_=>simp[PyData.eqv,dz] at h2 ⊢
 |.dict _,_,h,_=>by simp[dz] at h
theorem tE:∀(ds es:List PyData),gp ds=true->gp es=true->(eqvAll ds es=true↔ds=es)
 |[],[],_,_=>by simp[eqvAll]
 |[],_::_,_,_=>by simp[eqvAll]
 |_::_,[],_,_=>by simp[eqvAll]
 |d::ds,e::es,h1,h2=>by
  have n1:dz d=true/\gp ds=true:=by simpa[gp] using h1
  have n2:dz e=true/\gp es=true:=by simpa[gp] using h2
  have a:=yp d e n1.1 n2.1;have b:=tE ds es n1.2 n2.2;simp only[eqvAll,fF,List.cons.injEq,a,b]
end
section
variable{P:Program}{w:World}{K:Frag}{mg:av}{base:Heap}
def TopD(K:Frag)(mg:av)(x:Str)(st:Stmt)(ps:List Str):Prop:=∃f fd,iy K x x st f fd/\Binds K fd ps []/\mg x=some (.ref f)
end
section
variable{X:Cx}{k:Nat}{x:Str}{ps:List Str}{sp:Sp}{e:Expr}{es:List Expr}{t:TA}{p pos:Pos}
theorem Jf:aT X (compareOp .LtE) (λx y H Q=>∃i j,x=.str i/\y=.str j/\Q (.bl (!decide (j.cps.toList<i.cps.toList))) H):=by
 intro pins s σ H x y v u Q I a b h;obtain⟨i,j,rfl,rfl,q⟩:=h;obtain⟨t,rfl⟩:=a;obtain⟨t',rfl⟩:=b;exact PySem.P.le_str (bI I q rfl)
end
section
variable{X:Cx}
theorem Inv.many{pins:aO}{σ:St}{H H':Hp}{s:Shared}{h':Heap}{t':Nat}(I:Inv X pins σ H s)(kp:∀b o,s.heap.get? b=some o->h'.get? b=some o)(hs:iX H H')
  (a:∀b o,H' b=some o->H b=some o\/(s.heap.objs.size<=b/\bG X.prog X.w H' h' b o)):Inv X pins σ H' {s with heap:=h',toks:=t'}:=by
 refine I.un (h':=h') (t':=t') ⟨λb o q _ _ _=>kp b o q,λb o q _ _ _=>⟨o.slots,kp b o q⟩,λb o q n _=>?_,λb o q _=>⟨o,kp b o q⟩,λb xs q=>hs _ _ q,λb o u q=>hs _ _ q,λb ps q=>⟨#[],by rw[hs _ _ q];simp⟩⟩ λb o q=>?_
 .cases e:H' b with
  |none=>rfl
  |some u=>
   rcases a b u e with z|⟨z,_⟩
   .rw[n] at z;cases z
   .exact absurd (bO (aM q) z) (cZ _)
 .rcases a b o q with z|⟨_,z⟩
  .exact(I.hok b o z).stay (λc v _ r=>kp c v r) (λc r=>hs _ _ r) λc xs r=>hs _ _ r
  .exact z
end
inductive mD(K:Frag)(H:Hp):V->Value->Prop where
 |of {x:V} {t:Value} (h:fj K H x t):mD K H x t
 |tup {a:Addr} {xs:List V} (h:bf K H a xs):mD K H (.ref a) (.type "tuple")
 |lst {a:Addr} {xs:List V} (h:aX K H a xs):mD K H (.ref a) (.type "list")
theorem C4{X:Cx}:dY X (.builtin "isinstance") (λxs H Q=>∃x c t b,xs=[x,.ty c]/\mD X.K H x t/\kitOne X.K t (.type c)=some b/\Q (.bl b) H):=by
 intro pins s σ H xs f Q I r h;obtain⟨x,c,t,b,rfl,ty,e,q⟩:=h;obtain⟨u,g,rfl,ru,a⟩:=vals2 r;cases a;cases ty with
 |of ty=>exact GX I ru ty e λtk=>⟨.bl b,H,I.tok tk,rfl,q⟩
 |tup hq=>
  cases ru;obtain⟨its,d,⟨o,h1,h2,_⟩,_⟩:=I.tuple hq;exact fJ kitx_tuple I.dw ⟨o,h1,h2⟩ e (λz=>nomatch z) λtk=>⟨.bl b,H,I.tok tk,rfl,q⟩
 |lst hq=>
  cases ru;obtain⟨its,d,pl,_⟩:=I.list hq;obtain⟨o,h1,h2,_⟩:=pl.isList;exact fJ kitx_list I.dw ⟨o,h1,h2⟩ e (λz=>nomatch z) λtk=>⟨.bl b,H,I.tok tk,rfl,q⟩
end L2
end
namespace MA
theorem Gd{a b:Int}(c:0<=a)(d:0<b):Int.gcd b (a%b)=Int.gcd a b:=by
 obtain⟨m,rfl⟩:=Int.eq_ofNat_of_zero_le c;obtain⟨n,rfl⟩:=Int.eq_ofNat_of_zero_le (gw d);rw[<-Int.natCast_emod,Int.gcd_natCast_natCast,Int.gcd_natCast_natCast,Nat.gcd_comm n (m%n),<-Nat.gcd_rec,Nat.gcd_comm]
def rf(x:Rat):Int×Int:=(x.num,(x.den:Int))
theorem gq(x:Rat):0<(rf x).2:=by
 have:=x.den_pos;show(0:Int)<(x.den:Int);omega
theorem nL(x:Rat):((rf x).1:Rat)/((rf x).2:Rat)=x:=by
 show(x.num:Rat)/((x.den:Int):Rat)=x;rw[<-Rat.divInt_eq_div,Rat.divInt_ofNat,Rat.mkRat_self]
theorem KQ{x y:Rat}(h:rf x=rf y):x=y:=by rw[<-nL x,<-nL y,h]
theorem u5{a b:Int}(c:0<b):(a/(Int.gcd a b:Int),b/(Int.gcd a b:Int))=rf ((a:Rat)/(b:Rat)):=by
 rw[<-Rat.divInt_eq_div];unfold rf;have h1:=Rat.num_divInt a b;have h2:=Rat.den_divInt a b;rw[h1,h2];have hs:b.sign=1:=Int.sign_eq_one_of_pos c;rw[hs,ai (by omega),Int.one_mul,Int.gcd_comm b a];congr 1;have:(b.natAbs:Int)=b:=by omega
 rw[Int.natCast_ediv,this]
inductive aW(N:Type) where
 |wt (n:N)
 |ah (l r:Int) (a b:aW N)
namespace aW
variable{N:Type}
def arms:aW N->Prop
 |wt _=>True
 |ah l r a b=>1<=l/\l<=9/\1<=r/\r<=9/\a.arms/\b.arms
def deep:aW N->Nat
 |wt _=>0
 |ah _ _ a b=>max a.deep b.deep+1
def names:aW N->List N
 |wt n=>[n]
 |ah _ _ a b=>a.names++b.names
def sh:aW N->Rat->List Rat
 |wt _,x=>[x]
 |ah l r a b,x=>a.sh (x*((r:Rat)/((l+r:Int):Rat)))++b.sh (x*((l:Rat)/((l+r:Int):Rat)))
theorem uC:∀(m:aW N),m.names.length<=2 ^ m.deep
 |wt _=>aF 1
 |ah _ _ a b=>by
  have h1:=uC a;have h2:=uC b;have h3:2 ^ a.deep<=2 ^ max a.deep b.deep:=fW (by decide) (le_max_left _ _);have c:2 ^ b.deep<=2 ^ max a.deep b.deep:=fW (by decide) (le_max_right _ _);show List.length (_++_)<=2 ^ (max a.deep b.deep+1);rw[bR,jX];omega
theorem zM:∀(m:aW N),0<m.names.length
 |wt _=>Nat.zero_lt_one
 |ah _ _ a b=>by
  have h1:=zM a;show 0<List.length (_++_);rw[bR];omega
end aW
theorem sJ{a:Int}(h:a≠0):(a:Rat)≠0:=by
 intro z;exact h (by exact_mod_cast z)
theorem AL(t:Rat)(a b:Int):rf ((((rf t).1*a:Int):Rat)/(((rf t).2*b:Int):Rat))=rf (t*((a:Rat)/(b:Rat))):=by
 have h1:=sJ (Int.ne_of_gt (gq t));congr 1;rw[rT,rT];have d:=nL t;by_cases c:(b:Rat)=0
 .rw[c];grind
 .grind
theorem Ex{a b:Int}(c:0<b):(rf ((a:Rat)/(b:Rat))).2<=b:=by
 rw[<-u5 c];show b/(Int.gcd a b:Int)<=b;exact ediv_le_self _ (gw c)
theorem den_mul{t:Rat}{a b:Int}(c:0<b):(rf (t*((a:Rat)/(b:Rat)))).2<=(rf t).2*b:=by
 rw[<-AL];exact Ex (jj (gq t) c)
theorem k9{x:Rat}(h:0<x):0<(rf x).1:=by
 have h1:0<=(rf x).1:=Rat.num_nonneg.mpr (Rat.le_of_lt h);have h2:(rf x).1≠0:=λz=>by
  have e:=nL x;rw[z] at e;have a:x=0:=by rw[<-e,Rat.div_def];grind
  rw[a] at h;exact absurd h (by decide)
 omega
namespace aW
variable{N:Type}
theorem step_pos{l r:Int}{x:Rat}(a:1<=l)(b:1<=r)(h:0<x):0<x*((r:Rat)/((l+r:Int):Rat)):=by
 have h1:(0:Rat)<(r:Rat):=by exact_mod_cast (show(0:Int)<r by omega)
 have h2:(0:Rat)<((l+r:Int):Rat):=by exact_mod_cast (show(0:Int)<l+r by omega)
 exact Rat.mul_pos h (by rw[Rat.div_def];exact Rat.mul_pos h1 (Rat.inv_pos.mpr h2))
theorem u_:∀(m:aW N) (x:Rat) (B:Int),m.arms->0<x->(rf x).2<=B->∀s∈m.sh x,0<s/\(rf s).2<=B*18 ^ m.deep
 |wt _,x,B,_,h1,h2,s,hs=>by
  have:s=x:=by simpa[sh] using hs
  subst this;exact⟨h1,by simpa[deep] using h2⟩
 |ah l r a b,x,B,h,h1,h2,s,hs=>by
  obtain⟨g1,g2,g3,o,f,g⟩:=h;have i:0<B:=Int.lt_of_lt_of_le (gq x) h2;have j:(rf (x*((r:Rat)/((l+r:Int):Rat)))).2<=B*18:=by
   refine dg (den_mul (by omega)) ?_;exact g7 h2 (by omega) (by omega) (by omega)
  have n:(rf (x*((l:Rat)/((l+r:Int):Rat)))).2<=B*18:=by
   refine dg (den_mul (by omega)) ?_;exact g7 h2 (by omega) (by omega) (by omega)
  have p1:0<x*((r:Rat)/((l+r:Int):Rat)):=step_pos g1 g3 h1;have p2:0<x*((l:Rat)/((l+r:Int):Rat)):=by
   have:=step_pos (l:=r) (r:=l) g3 g1 h1;rwa [add_comm r l] at this
  have up:∀k:Nat,k<=max a.deep b.deep->B*18*18 ^ k<=B*18 ^ (max a.deep b.deep+1):=λk hk=>by
   rw[om,lF,jW 18 (18 ^ k)];refine oh ?_ (gw i);refine vF ?_ (by decide);have:(18:Nat) ^ k<=18 ^ max a.deep b.deep:=fW (by decide) hk;exact_mod_cast this
  have c:s∈a.sh (x*((r:Rat)/((l+r:Int):Rat)))\/s∈b.sh (x*((l:Rat)/((l+r:Int):Rat))):=aU.mp hs;rcases c with hs|hs
  .obtain⟨d,e⟩:=u_ a _ _ f p1 j s hs
   exact⟨d,dg e (up _ (le_max_left _ _))⟩
  .obtain⟨d,e⟩:=u_ b _ _ g p2 n s hs
   exact⟨d,dg e (up _ (le_max_right _ _))⟩
end aW
def bH{W N S:Type}[DecidableEq N][DecidableEq S](pre:List (W×N×S)):List (W×N×S)->Option (W×W)
 |[]=>none
 |(w,n,s)::r=>match pre.find? (λp=>decide (p.2.1=n)) with
  |some p=>if p.2.2=s then bH (pre++[(w,n,s)]) r else some (p.1,w)
  |none=>bH (pre++[(w,n,s)]) r
end MA
section
open PySem PySem.Spec PyProof.Rows
namespace L2
section
variable{P:Program}{w:World}{H H':Hp}{h:Heap}{a:Addr}{o:HO}
theorem bG.obj(x:bG P w H h a o):∃u,h.get? a=some u:=by
 cases o with
 |lst xs=>obtain⟨_,_,_,_,e⟩:=x;exact⟨_,e⟩
 |tup xs=>obtain⟨_,_,_,_,e⟩:=x;exact⟨_,e⟩
 |dK kvs=>obtain⟨_,_,_,_,o,_,_,e,_⟩:=x;exact⟨_,e⟩
 |dT kvs=>obtain⟨_,_,_,_,o,_,_,e,_⟩:=x;exact⟨_,e⟩
 |set S n=>obtain⟨o,_,_,_,e,_⟩:=x;exact⟨_,e⟩
 |ins C dx fs=>obtain⟨_,_,_,e,_⟩:=x;exact⟨_,e⟩
 |own y=>exact x
 |xd fs=>obtain⟨_,⟨_,_,_,e,_⟩,_⟩:=x;exact⟨_,e⟩
 |qT lo hi=>obtain⟨_,_,_,e⟩:=x;exact⟨_,e⟩
 |cj b u=>obtain⟨e,_⟩:=x;exact⟨_,e⟩
 |fT ps=>exact⟨_,(show h.get? a=some _ from x)⟩
 |met f y=>exact⟨_,(show h.get? a=some _ from x)⟩
 |ext c=>obtain⟨_,e,_⟩:=x;exact e
end
structure v9(P:Program)(w:World)(outer:List Env)(H H':Hp)(s s':Shared)(a:Addr)(C:Value):Prop where
 os:s'.os=s.os
 bare:AllBare s'.gens
 slot:∀b o,s.heap.get? b=some o->b∈frs outer->∃sl,s'.heap.get? b=some {o with slots:=sl}
 free:∀b o,s.heap.get? b=some o->H b=none->H' b=none
 tups:∀b xs,H b=some (.tup xs)->H' b=some (.tup xs)
 e8:∀b o u,H b=some (.cj o u)->H' b=some (.cj o u)
 fC:∀b ps,H b=some (.fT ps)->∃more,H' b=some (.fT (ps++more))
 fl:∃(B:Heap) (a0:Value),(∀b o,s.heap.get? b=some o->H b=none->b∉frs outer->B.get? b=some o)/\(∀b o,s.heap.get? b=some o->b∉frs outer->∃o',B.get? b=some o')/\bM P w H' B/\Heap.FlyingW B outer a C a0 s'.heap
def a_(P:Program)(w:World):fK:=λouter H s E e s'=>∃(a:Addr) (C:Value) (H':Hp),e=.ref a/\v9 P w outer H H' s s' a C/\E C none H'
section
variable{X:Cx}{pins:aO}{σ:St}{H H':Hp}{s s':Shared}{a:Addr}{C:Value}
theorem yv(I:Inv X pins σ H s)(hex:X.ex=[])(os:s'.os=s.os)(bare:AllBare s'.gens)(slot:∀b o,s.heap.get? b=some o->b∈frs X.outer->∃g,s'.heap.get? b=some {o with slots:=g})
  (free:∀b o,s.heap.get? b=some o->H b=none->H' b=none)(tups:∀b xs,H b=some (.tup xs)->H' b=some (.tup xs))(e8:∀b o u,H b=some (.cj o u)->H' b=some (.cj o u))
  (fC:∀b ps,H b=some (.fT ps)->∃more,H' b=some (.fT (ps++more)))
  (fl:∃(B:Heap) (a0:Value),(∀b o,s.heap.get? b=some o->H b=none->b∉frs X.stack->B.get? b=some o)/\(∀b o,s.heap.get? b=some o->b∉frs X.stack->∃o',B.get? b=some o')/\bM X.prog X.w H' B/\Heap.FlyingW B X.outer a C a0 s'.heap):
  v9 X.prog X.w X.outer X.H₀ H' X.s₀ s' a C:=by
 have nx:∀b:Addr,b∉X.ex:=λb=>by rw[hex];simp
 have d:∀b o,X.s₀.heap.get? b=some o->b∉frs X.outer->b∉frs X.stack:=λb o q c z=>by
  rcases aQ.mp (I.lz b z) with e|e
  .exact absurd (bO (aM q) I.ok.above) (by rw[e];exact cZ _)
  .exact c e
 refine⟨os.trans I.os,bare,λb o q c=> ?_,λb o q n=> ?_,λb xs q=>tups b xs (I.base.tups b xs q),λb o u q=>e8 b o u (I.base.e8 b o u q),λb ps q=> ?_,?_⟩
 .obtain⟨g,e⟩:=I.base.slot b o q (I.ok.kO b c) c (nx b)
  obtain⟨i,j⟩:=slot b _ e c
  exact⟨i,j⟩
 .obtain⟨g,e⟩:=I.base.any q n (nx b)
  exact free b _ e (I.base.free b o q n (nx b))
 .obtain⟨l,m⟩:=I.base.fC b ps q
  obtain⟨p,r⟩:=fC b _ m
  exact⟨l++p,by rw[r,Array.append_assoc]⟩
 .obtain⟨B,a0,k,t,h,f⟩:=fl
  refine⟨B,a0,λb o q n c=>k b o (I.base.keep b o q n c (nx b)) (I.base.free b o q n (nx b)) (d b o q c),λb o q c=> ?_,h,f⟩
  obtain⟨o',e⟩:=I.base.there b o q (nx b)
  exact t b o' e (d b o q c)
end
def Raises(X:Cx)(E:XK):Prop:=∀(pins:aO) (σ:St) (H:Hp) (s:Shared) (e:Addr) (h':Heap) (C:Value) (args:List Value),Inv X pins σ H s->Heap.MadeExcOf s.heap h' e C args->E C none H->X.xe (.ref e) {s with heap:=h'}
section
variable{P:Program}{w:World}{K:Frag}{mg:av}{base:Heap}{N:List Str}{qual:Str}{scope:Scope}{f:Addr}{cd:Value}{A:Around}{outer:List Env}{s:Shared}{H:Hp}{E:XK}
theorem yD{env:Env}{l:List Env}{b:Addr}(h:b∈frs l):b∈frs (env::l):=by
 obtain⟨e,a,c⟩:=jV.mp h;exact jV.mpr ⟨e,bT _ a,c⟩
theorem AH:Raises (bQ (a_ P w) P w K mg base N qual scope f cd A outer s H E) E:=by
 intro pins σ H1 j e h' C args I i k;have stk:=I.stack;have jP:∀b o,H1 b=some o->b∉frs (bQ (a_ P w) P w K mg base N qual scope f cd A outer s H E).stack:=λb o q z=>by
  rw[I.ve b z] at q;cases q
 have h:∀a∈(bQ (a_ P w) P w K mg base N qual scope f cd A outer s H E).stack,∀b,a.frame=some b->b∈frs (bQ (a_ P w) P w K mg base N qual scope f cd A outer s H E).stack:=λa l b d=>jV.mpr ⟨a,l,d⟩;show wpAny (model P w) _ (leaving _ (.ref e)) _ _ _;refine wpAny_leaves_madeW (base:=hideAll j.heap (frs (bQ (a_ P w) P w K mg base N qual scope f cd A outer s H E).stack)) I.ok.frames rfl (λb o q=>of_hideAll _ q) (PySem.W.funFrames_hide stk h) i λm t fl tup p up=>?_;refine⟨e,C,H1,rfl,yv I rfl rfl I.bare (λb o q d=>?_) (λ_ _ _ n=>n) (λ_ _ q=>q) (λ_ _ _ q=>q) (λ_ ps q=>⟨#[],by rw[q];simp⟩) ⟨_,_,λb o q n d=>hideAll_get _ q d,λb o q d=>⟨o,hideAll_get _ q d⟩,λb o q=>?_,fl⟩,k⟩
 .obtain⟨_,o',g,hd⟩:=stk.mem (yD (env:=envOfC qual scope s.heap.objs.size f cd) d)
  rw[q] at g;cases g;exact up b o (i.keeps b o q) hd
 .refine(I.hok b o q).stay (λc u hc r=>hideAll_get _ r ?_) (λ_ r=>r) λ_ _ r=>r
  rcases hc with z|z
  .rw[z];exact jP b o q
  .exact jP c _ z
theorem z_:Passes (a_ P w) (bQ (a_ P w) P w K mg base N qual scope f cd A outer s H E) E:=by
 intro pins σ H1 p e s' I h;obtain⟨a,C,H',rfl,F,j⟩:=h;obtain⟨B,a0,k,th,hok,fl⟩:=F.fl;show wpAny (model P w) _ (leaving _ (.ref a)) _ _ _;refine wpAny_leaves_onW I.ok.frames rfl fl λl g up=>⟨a,C,H',rfl,yv I rfl F.os F.bare (λb o q m=>?_) F.free F.tups F.e8 F.fC ⟨B,a0,k,th,hok,g⟩,j⟩;have c:=yD (env:=envOfC qual scope s.heap.objs.size f cd) m;obtain⟨r,e⟩:=F.slot b o q c;obtain⟨_,o',d,hd⟩:=fl.2.2.1.mem c;rw[e] at d;cases d;obtain⟨i,n⟩:=up b _ e hd;exact⟨i,n⟩
theorem k_:PassesOwn (model P w) (bQ (a_ P w) P w K mg base N qual scope f cd A outer s H E).A (bQ (a_ P w) P w K mg base N qual scope f cd A outer s H E).env (bQ (a_ P w) P w K mg base N qual scope f cd A outer s H E).xe:=
 PassesOwn.leaving
end
abbrev rz:List Value:=[.type "ValueError",.type "Exception",.type "BaseException",.type "object"]
theorem Fl{K:Frag}{h:Heap}{C:Addr}{b:List Value}{newId:String}(X:K.In h)(q:excIn K C b newId=true):∃nm d N bs bm hdct sn sub ab col dd k0 k1 k2 k3 k5,∃mN:av,
  h.get? C=some (excClassObj nm d C N bs bm hdct sn sub ab col dd k0 k1 k2 k3 k5 newId)/\h.Ns N mN/\mN "__init__"=none/\OwnTail h b bm:=by
 unfold excIn at q;split at q
 .rename_i dd cd f i
  split at q
  .rename_i k bm k0 k1 k2 k3 n k5 g hs
   simp only[fF,iT,Bool.not_eq_true'] at q;obtain⟨⟨⟨⟨⟨rfl,rfl⟩,a⟩,j⟩,hok⟩,c⟩:=q;obtain⟨nm,bs,mro,ns,d,hd,sn,sub,ab,col,del⟩:=cd;dsimp only at g a hok c;subst g a;have e:f= #[k0,k1,k2,k3,some (.builtin n),k5]:=by
    obtain⟨l⟩:=f;simp only at hs;rw[hs]
   subst e;exact⟨nm,d,ns,bs,bm,hd,sn,sub,ab,col,dd,k0,k1,k2,k3,k5,_,X _ _ i,.of_isNs (PySem.W.isNs_of_in X hok),PySem.W.nsMap_none_of_in X hok c,PySem.W.tail_of_in X j⟩
  .cases q
 .cases q
section
variable{X:Cx}{E:XK}{x:Str}{C:Addr}{e:Expr}{t:TA}{np cpos pos:Pos}
def Mx(E:XK)(C:Addr)(t:TA):TS:=λ_ σ H=>t σ H λvs H1=>vs.length<=sizeLine/\E (.ref C) none H1
theorem Kf(j:Raises X E)(hc:X.calm=true)(k:X.mg x=some (.ref C))(l:excIn X.K C rz "ValueError.__new__"=true)(m:PA X [e] t)(n:Gl X x:=by rfl)(b:(x==("__debug__":Str))=false:=by decide)
  (f:starEach [e] X.env=[(false,eval e X.env)]:=by rfl):PS X (.Raise (some (.Call (.Name x np) [e] [] cpos)) none pos) (Mx E C t):=by
 intro pins s σ H D I h;obtain⟨nm,o,N,bs,bm,hdct,sn,sub,ab,col,dd,k0,k1,k2,k3,k5,mN,c,p,d,g⟩:=Fl I.mod.p8 l;refine wpAny_Raise_call_subT (nm:=nm) (q:=o) (C:=C) (N:=N) (bs:=bs) (bm:=bm) (hdct:=hdct) (sn:=sn) (sub:=sub) (ab:=ab) (col:=col) (dd:=dd) (k0:=k0) (k1:=k1) (k2:=k2) (k3:=k3) (k5:=k5) (mN:=mN) PySem.F.excBase_ValueError (g.hasType (by decide+kernel)) (I.ok.hd hc) (by rw[f];rfl) d (t_ I n k ⟨rfl,?_⟩ b);have h':=m cpos pins s σ H _ I h;rw[f] at h' ⊢;refine Calls.evalArgs_plain (aG h' λr y ⟨vs,H1,a,u,i⟩=>?_);have v:=u.length;exact⟨rfl,by show r.length<=sizeLine;rw[<-v];exact i.1,a.bk _ _ c,p.keeps a.bk,g.keeps a.bk,λh2 z w=>j _ _ _ _ _ _ _ _ a w i.2⟩
end
def excAt(a:Addr)(C:Value)(h:Heap):Prop:=∃o,h.get? a=some o/\o.cls=C
abbrev Fj(a C:Addr):HO:=.ext (excAt a (.ref C))
section
variable{P:Program}{w:World}{K:Frag}{mg:av}{base:Heap}
def aC(P:Program)(w:World)(K:Frag)(mg:av)(base:Heap)(k:Nat)(x:Str)(ps:List Str)(sp:Sp):Prop:=
 ∃f fd,dM P w K mg base (a_ P w) k f fd ps sp/\Binds K fd ps []/\keepIn K (.ref f)=true/\mg x=some (.ref f)
theorem aC.mono{j k:Nat}{x:Str}{ps:List Str}{sp:Sp}(F:aC P w K mg base j x ps sp)(h:j<=k):aC P w K mg base k x ps sp:=by
 obtain⟨f,fd,F,r⟩:=F;exact⟨f,fd,F.mono h,r⟩
theorem TopD.fnX{x:Str}{st:Stmt}{N ps:List Str}{k:Nat}{sp:Sp}(T:TopD K mg x st ps)(S:bq N ps (aJ st))(len:∀vs H Q E,sp vs H Q E->vs.length=ps.length)
  (c:∀(f:Addr) (a:Value) (A:Around) (outer:List Env) (s:Shared) (H:Hp) (vs:List V) (Q:VK) (E:XK),cC k (A.deeper (envOfC x (aJ st) s.heap.objs.size f a))->sp vs H Q E->
   ∃t,cB (bQ (a_ P w) P w K mg base N x (aJ st) f a A outer s H E) (eZ st) t/\t {nx:=λ_ H'=>Q .aD H',rt:=Q} (start N vs) H):aC P w K mg base (k+1) x ps sp:=by
 obtain⟨f,fd,F,b,m⟩:=T;have kp:=F.kp;obtain⟨i,j,kV,doc,pm,an,a,ct,g,rfl,lk,d⟩:=F.ex;exact⟨f,_,yx lk d S len λA outer s H vs Q E h e=>c f a A outer s H vs Q E h e,b,kp,m⟩
end
section
variable{X:Cx}{k:Nat}{x:Str}{ps:List Str}{sp:Sp}{e fe:Expr}{es:List Expr}{t:TA}{tf:TE}{p pos:Pos}{E:XK}
theorem Jx(F:aC X.prog X.w X.K X.mg X.base k x ps sp)(d:cC k X.A)(g:Passes (a_ X.prog X.w) X E)(h:PA X (e::es) t)(i:Gl X x:=by rfl)(a:(x==("__debug__":Str))=false:=by decide)
  (j:starEach (e::es) X.env=(false,eval e X.env)::starEach es X.env:=by rfl)(c:(backTo pos (starEach es X.env)).any (·.1)=false:=by rfl):
  PE X (.Call (.Name x p) (e::es) [] pos) (BS sp [] E t):=by
 obtain⟨f,fd,F,b,kp,m⟩:=F;exact Jv F d i m kp b .nil g h a j c
end
end L2
namespace SS
section
variable{prog:Program}{w:World}{A:Around}{E:aA}{s:Shared}
abbrev HE(w:World):Bool:= !w.params.followText "set-order"
abbrev fQ(w:World):Obj:={cls:=.type "set",dict:=none,data:=.set #[] 0 (.fresh 0 0 (HE w))}
theorem code_set_new(a:Value){Q₁:aA}(h:Q₁ (.ref s.heap.objs.size) {s with heap:=s.heap.push (fQ w)}):
  codeAny (model prog w) A (.call (.builtin "set.__new__") ⟨[.type "set",a],[]⟩) (wants Q₁ E) s:=by
 refine codeAny_of_tree ?_;show wpAny _ A.in1 (do checkBuiltinCall "set.__new__" ⟨[.type "set",a],[]⟩;again (.builtin "set.__new__" ⟨[.type "set",a],[]⟩)) _ _ s;refine aa (ow (PySem.F.newCall_set_1 a) (ak ⟨eT PySem.F.plain_set_new _,eG PySem.F.entry_set_new ?_⟩));rw[eU PySem.F.plain_set_new _];unfold Builtin.«set.__new__» Builtin.Frozenset.newClass;have b:=sub_set_self;obtain⟨c,g,d,tk,os⟩:=s;dsimp only;wp_walk;refine wpAny_askSetting (ak ?_);dsimp only;simp only[newObj];refine aa (wpAny_alloc (ak ?_));exact ak h
end
theorem BJ:Slot "set" "__iter__" "set.__iter__":=
 .of (owner:="set") (n:="__iter__") (by rw[jZ,j9];kernel_rfl) (by decide+kernel) (by decide+kernel) (by decide+kernel)
  (by first|exact .inl (by decide+kernel)|exact .inr (by decide+kernel)) (by rw[isSubtype_type];kernel_rfl)
theorem slot_next:Slot "set_iterator" "__next__" "set_iterator.__next__":=
 .of (owner:="set_iterator") (n:="__next__") (by rw[jZ,j9];kernel_rfl) (by decide+kernel) (by decide+kernel) (by decide+kernel)
  (by first|exact .inl (by decide+kernel)|exact .inr (by decide+kernel)) (by rw[isSubtype_type];kernel_rfl)
theorem BK:Slot "set_iterator" "__iter__" "set_iterator.__iter__":=
 .of (owner:="set_iterator") (n:="__iter__") (by rw[jZ,j9];kernel_rfl) (by decide+kernel) (by decide+kernel) (by decide+kernel)
  (by first|exact .inl (by decide+kernel)|exact .inr (by decide+kernel)) (by rw[isSubtype_type];kernel_rfl)
theorem E4:entryFor table "set.__iter__"=some Builtin.«frozenset.__iter__»:=
 entryFor_alias (id':="frozenset.__iter__") (by kernel_rfl) (by first|rfl|decide+kernel) (by decide+kernel) (by kernel_rfl)
theorem entry_next:entryFor table "set_iterator.__next__"=some Builtin.«set_iterator.__next__»:=entryFor_of_fast (by kernel_rfl)
theorem CQ(a:Value):argsOk "set.__iter__" ⟨[a],[]⟩:=by unfold argsOk;kernel_rfl
theorem args_next(a:Value):argsOk "set_iterator.__next__" ⟨[a],[]⟩:=by unfold argsOk;kernel_rfl
theorem Nf{M:Model}{A:Around}{E:aA}{s:Shared}{src:Source}{n:Nat}{Q:Nat->Shared->Prop}(hn:n≠0)(h:∀i d,i<n->Q i {s with drawn:=d}):wpAny M A (choose src n) Q E s:=λa p _=>by
 unfold choose;rw[Sem.wp_choose];exact⟨hn,h _ _ (mod_lt _ (Nat.pos_of_ne_zero hn))⟩
theorem uQ{α:Type}:∀(xs:List α) (i:Nat) (x:α),xs[i]?=some x->xs.Perm (x::xs.eraseIdx i)
 |[],i,x,h=>by simp at h
 |y::r,0,x,h=>by
  simp at h;subst h;simp
 |y::r,i+1,x,h=>by
  simp only[vI] at h;have:=uQ r i x h;simp only[List.eraseIdx_cons_succ];exact(this.cons y).trans (Perm.swap x y _)
section
variable{M:Model}{A:Around}{E:aA}{s:Shared}
theorem ye{α:Type}:∀(n:Nat) (xs:List α) (s:Shared) (Q:List α->Shared->Prop),n=xs.length->(∀ys d,ys.Perm xs->Q ys {s with drawn:=d})->wpAny M A (drawOrder n xs) Q E s
 |0,xs,s,Q,hn,h=>by
  cases xs with
  |nil=>unfold drawOrder;exact ak (h [] s.drawn .nil)
  |cons x r=>simp at hn
 |n+1,[],s,Q,hn,h=>by simp at hn
 |n+1,x::r,s,Q,hn,h=>by
  unfold drawOrder;refine aa (Nf (by simp) λi d hi=>?_);have e:(x::r)[i]?=some ((x::r)[i]'hi):=aZ hi;rw[e];dsimp only;have a:=uQ (x::r) i _ e;refine aa (ye n _ _ _ ?_ λys d' b=>ak ?_)
  .have:=a.length_eq
   simp only[eV] at this hn ⊢;omega
  .exact h _ d' ((b.cons _).trans a.symm)
end
theorem Ae{α:Type}(next:Nat->Nat):∀(fuel k:Nat) (left:List α) (out:Array α),fuel=left.length->(pickOrder.go next fuel k left out).toList.Perm (out.toList++left)
 |0,k,left,out,h=>by
  cases left with
  |nil=>unfold pickOrder.go;simp
  |cons x r=>simp at h
 |fuel+1,k,[],out,h=>by simp at h
 |fuel+1,k,x::r,out,h=>by
  unfold pickOrder.go;have hi:next k%(x::r).length<(x::r).length:=mod_lt _ (by simp);have e:(x::r)[next k%(x::r).length]?=some ((x::r)[next k%(x::r).length]'hi):=aZ hi;rw[e];dsimp only;have a:=uQ (x::r) _ _ e;refine(Ae next fuel (k+1) _ _ ?_).trans ?_
  .have:=a.length_eq
   simp only[eV] at this h ⊢;omega
  .rw[lK,bu]
   exact gD _ a.symm
theorem JX{α:Type}(next:Nat->Nat)(xs:Array α):(pickOrder next xs).toList.Perm xs.toList:=by
 unfold pickOrder;exact(Ae next xs.size 0 xs.toList #[] (by simp)).trans (by simp)
def dZ(h:Heap)(it a:Addr)(first:Value)(i n ep:Nat):Prop:=∃o,h.get? it=some o/\o.cls=.type "set_iterator"/\o.data=.fields #[first,.int i 0,.ref a,.int n 0,.int ep 0]
def fL(h:Heap)(a:Addr)(es:Array (Int×Value))(ep:Nat)(t:SetTable):Prop:=∃o,h.get? a=some o/\o.data=.set es ep t/\t.fits es.size=true
section
variable{prog:Program}{w:World}{A:Around}{E:aA}{s:Shared}{it a:Addr}{es:Array (Int×Value)}{ep:Nat}{t:SetTable}
theorem dZ.typeIs{first:Value}{i n:Nat}(h:dZ s.heap it a first i n ep):s.TypeIs (.ref it) "set_iterator":=by
 obtain⟨o,h1,h2,_⟩:=h;exact⟨o,h1,h2⟩
theorem dZ.put{first v:Value}{i n k:Nat}{h:Heap}(x:dZ h it a first i n ep)(o:Obj)(b:h.get? it=some o):(h.update it (Obj.mapFields (·.setIfInBounds k v))).get? it=some (o.mapFields (·.setIfInBounds k v)):=by
 obtain⟨o',h1,h2,h3⟩:=x;rw[h1] at b;cases b;exact fH _ h1 (vR (iS h3 _))
theorem zQ{slot:Int}{i:Nat}{x:Value}{nx:Nat}{Q:Option Value->Shared->Prop}(hi:dZ s.heap it a (.int slot 0) i es.size ep)(hs:fL s.heap a es ep t)
  (hn:∀(A:Around) (Q:Option (Value×Nat)->Shared->Prop) (E:aA),Q (some (x,nx)) s->wpAny (model prog w) A (setNext a slot.toNat i ep) Q E s)
  (f:∀h',dZ h' it a (.int nx 0) (i+1) es.size ep->SameBut it s.heap h'->Q (some x) {s with heap:=h'}):wpAny (model prog w) A (pyNext (.ref it)) Q E s:=by
 obtain⟨o,c,hc,hd⟩:=id hi
 obtain⟨os,d,e,g⟩:=hs
 unfold pyNext
 refine aa (j4 (j5 (name:=Str.ofString "__next__") hi.typeIs slot_next (gy slot_next hi.typeIs entry_next ?_ (args_next _))))
 show wpAny _ _ (fieldsOf (.ref it)>>=_) _ _ s
 refine aa (rM c hd ?_)
 show wpAny _ _ (setEntries a>>=_) _ _ s
 refine aa (oz d e g ?_)
 simp only[jn,cu,bW]
 refine aa (hn _ _ _ ?_)
 dsimp only
 refine aa (lN c hd (by simp) ?_)
 have b:=hi.put (k:=0) (v:=rawInt nx) o c
 refine aa (lN b (iS hd _) (by simp) (ak ⟨x,rfl,ak (f _ ?_ ((SameBut.update ..).trans (SameBut.update ..)))⟩))
 refine⟨_,fH _ b (vR (iS (iS hd _) _)),(Obj.cls_mapFields ..).trans ((Obj.cls_mapFields ..).trans hc),?_⟩
 rw[iS (iS hd _)]
 simp[rawInt]
end
theorem E5:entryFor table "set_iterator.__iter__"=some Builtin.«dict_keyiterator.__iter__»:=
 entryFor_alias (id':="dict_keyiterator.__iter__") (by kernel_rfl) (by first|rfl|decide+kernel) (by decide+kernel) (by kernel_rfl)
theorem CS(a:Value):argsOk "set_iterator.__iter__" ⟨[a],[]⟩:=by unfold argsOk;kernel_rfl
section
variable{prog:Program}{w:World}{A:Around}{E:aA}{s:Shared}{it a:Addr}{es:Array (Int×Value)}{ep:Nat}{t:SetTable}
theorem t6{first:Value}{i n:Nat}{Q:aA}(hi:dZ s.heap it a first i n ep)(h:Q (.ref it) s):wpAny (model prog w) A (pyIter (.ref it)) Q E s:=by
 refine wpAny_pyIter_slot hi.typeIs BK (gy BK hi.typeIs E5 ?_ (CS _));show wpAny _ _ (ret (.ref it)) _ _ s;exact ak ⟨_,rfl,"set_iterator",_,hi.typeIs,slot_next.lookup,h⟩
theorem yl{slot:Int}{i:Nat}{Q:Option Value->Shared->Prop}(f:A.handled=none)(hi:dZ s.heap it a (.int slot 0) i es.size ep)(hs:fL s.heap a es ep t)
  (hn:∀(A:Around) (Q:Option (Value×Nat)->Shared->Prop) (E:aA),Q none s->wpAny (model prog w) A (setNext a slot.toNat i ep) Q E s)
  (g:∀h',ExtBut it s.heap h'->Q none {s with heap:=h'}):wpAny (model prog w) A (pyNext (.ref it)) Q E s:=by
 obtain⟨o,e,hc,hd⟩:=id hi
 obtain⟨os,c,d,h⟩:=hs
 unfold pyNext
 refine aa (j4 (j5 (name:=Str.ofString "__next__") hi.typeIs slot_next (gy slot_next hi.typeIs entry_next ?_ (args_next _))))
 show wpAny _ _ (fieldsOf (.ref it)>>=_) _ _ s
 refine aa (rM e hd ?_)
 show wpAny _ _ (setEntries a>>=_) _ _ s
 refine aa (oz c d h ?_)
 simp only[jn,cu,bW]
 refine aa (hn _ _ _ ?_)
 dsimp only
 refine aa (lN e hd (by simp) ?_)
 show wpAny _ _ (newExc (.type "StopIteration") []>>=_) _ _ _
 refine aa ?_
 simp only[newExc,newTuple]
 refine aa (dH ?_ (by size_fits))
 refine aa (m:=firstArgMember _ _) (ow (a:=Value.none) (by first|rfl|(simp only[firstArgMember];rfl)) ?_)
 refine dH ?_ (by size_fits)
 simp only[raiseNew]
 refine aa (wpAny_handled ?_)
 rw[show A.in1.handled=none from f]
 refine aa (ak (wpAny_throw ?_))
 refine aa (ou (T:="StopIteration") (b:=true) ⟨_,bK _ rfl,rfl⟩ isSubtype_stop ?_)
 exact ak (g _ (((SameBut.update ..).extBut.push _).push _))
theorem Ir{d:Addr}{ps:List Nat}{i p:Nat}{h0:Int}{x:Value}{Q:Option Value->Shared->Prop}(hi:dZ s.heap it a (.ref d) i es.size ep)(hs:fL s.heap a es ep t)
  (k:∃o n,s.heap.get? d=some o/\o.data= .seq ((ps.map λ(i:Nat)=>rawInt i).toArray) n)(l:ps[i]? =some p)(m:es[p]? =some (h0,x))
  (q:∀h',dZ h' it a (.ref d) (i+1) es.size ep->SameBut it s.heap h'->Q (some x) {s with heap:=h'}):wpAny (model prog w) A (pyNext (.ref it)) Q E s:=by
 obtain⟨o,f,hc,hd⟩:=id hi
 obtain⟨os,b,c,j⟩:=hs
 obtain⟨r,u,g,h⟩:=k
 unfold pyNext
 refine aa (j4 (j5 (name:=Str.ofString "__next__") hi.typeIs slot_next (gy slot_next hi.typeIs entry_next ?_ (args_next _))))
 show wpAny _ _ (fieldsOf (.ref it)>>=_) _ _ s
 refine aa (rM f hd ?_)
 show wpAny _ _ (setEntries a>>=_) _ _ s
 refine aa (oz b c j ?_)
 simp only[jn,cu,bW]
 refine aa (gB g h ?_)
 have e:((ps.map λ(i:Nat)=>rawInt i).toArray)[((i:Int)).toNat]? =some (Value.int (p:Int) 0):=by
  simp[l,rawInt]
 dsimp only
 rw[e]
 dsimp only
 refine aa ?_
 unfold setNextDrawn
 refine aa (ic b c j ?_)
 dsimp only
 simp only[lM,jn,cu,bW]
 rw[m]
 refine ak ?_
 refine aa (lN f hd (by simp) (ak ⟨x,rfl,ak (q _ ?_ (SameBut.update ..))⟩))
 refine⟨_,fH _ f (vR (iS hd _)),(Obj.cls_mapFields ..).trans hc,?_⟩
 rw[iS hd]
 simp[rawInt]
theorem E3{l:Addr}{ps:List Nat}{i:Nat}{Q:Option Value->Shared->Prop}(p:A.handled=none)(hi:dZ s.heap it a (.ref l) i es.size ep)(hs:fL s.heap a es ep t)
  (q:∃o n,s.heap.get? l=some o/\o.data= .seq ((ps.map λ(i:Nat)=>rawInt i).toArray) n)(r:ps[i]? =none)
  (u:∀h',ExtBut it s.heap h'->Q none {s with heap:=h'}):wpAny (model prog w) A (pyNext (.ref it)) Q E s:=by
 obtain⟨o,c,hc,hd⟩:=id hi
 obtain⟨os,d,f,x⟩:=hs
 obtain⟨y,z,g,h⟩:=q
 unfold pyNext
 refine aa (j4 (j5 (name:=Str.ofString "__next__") hi.typeIs slot_next (gy slot_next hi.typeIs entry_next ?_ (args_next _))))
 show wpAny _ _ (fieldsOf (.ref it)>>=_) _ _ s
 refine aa (rM c hd ?_)
 show wpAny _ _ (setEntries a>>=_) _ _ s
 refine aa (oz d f x ?_)
 simp only[jn,cu,bW]
 refine aa (gB g h ?_)
 have e:((ps.map λ(i:Nat)=>rawInt i).toArray)[((i:Int)).toNat]? =none:=by
  simp only[lM,List.getElem?_toArray,bF,r,Option.map_none]
 dsimp only
 rw[e]
 dsimp only
 refine aa (lN c hd (by simp) ?_)
 have j:=hi.put (k:=0) (v:=rawInt 0) o c
 refine aa (lN j (iS hd _) (by simp) ?_)
 show wpAny _ _ (newExc (.type "StopIteration") []>>=_) _ _ _
 refine aa ?_
 simp only[newExc,newTuple]
 refine aa (dH ?_ (by size_fits))
 refine aa (m:=firstArgMember _ _) (ow (a:=Value.none) (by first|rfl|(simp only[firstArgMember];rfl)) ?_)
 refine dH ?_ (by size_fits)
 simp only[raiseNew]
 refine aa (wpAny_handled ?_)
 rw[show A.in1.handled=none from p]
 refine aa (ak (wpAny_throw ?_))
 refine aa (ou (T:="StopIteration") (b:=true) ⟨_,bK _ rfl,rfl⟩ isSubtype_stop ?_)
 exact ak (u _ ((((SameBut.update ..).trans (SameBut.update ..)).extBut.push _).push _))
end
section
variable{prog:Program}{w:World}{A:Around}{E:aA}{s:Shared}{it a:Addr}{es:Array (Int×Value)}{ep:Nat}{t:SetTable}
theorem o6{Q:Bool->Shared->Prop}(h:Q (w.params.followText "set-order") s):wpAny (model prog w) A setsByText Q E s:=by
 unfold setsByText;exact aa (wpAny_askSetting (ak h))
theorem fL.keep{h h':Heap}(x:fL h a es ep t)(k:∀o,h.get? a=some o->h'.get? a=some o):fL h' a es ep t:=by
 obtain⟨o,e,r⟩:=x;exact⟨o,k o e,r⟩
theorem dZ.keep{h h':Heap}{first:Value}{i n:Nat}(x:dZ h it a first i n ep)(k:∀o,h.get? it=some o->h'.get? it=some o):dZ h' it a first i n ep:=by
 obtain⟨o,e,r⟩:=x;exact⟨o,k o e,r⟩
theorem nextT{slot i:Nat}{Q:Option (Value×Nat)->Shared->Prop}(d:w.params.followText "set-order"=true)(hs:fL s.heap a es ep t)
  (h:Q (((pickOrder (w.params.setOrder a ep) es)[i]?).map λe=>(e.2,slot)) s):wpAny (model prog w) A (setNext a slot i ep) Q E s:=by
 obtain⟨os,b,c,f⟩:=hs;unfold setNext;refine aa (ic b c f ?_);dsimp only;refine aa (o6 ?_);rw[d,aj rfl];simp only[jn,cu,bW];refine aa ?_;unfold setWalk;refine aa (ic b c f ?_);dsimp only;refine aa (o6 ?_);rw[d,aj rfl];exact aa (wpAny_askSetting (ak (ak h)))
theorem Nc(n:w.params.followText "set-order"=true)(p:A.handled=none)(l:a≠it):
  Walks prog w A it [it,a] [it] ((pickOrder (w.params.setOrder a ep) es).toList.map (·.2)).length (λi v=>((pickOrder (w.params.setOrder a ep) es).toList.map (·.2))[i]? =some v) (λi h=>dZ h it a (.int 0 0) i es.size ep/\fL h a es ep t) where
 sub:=λb d=>by simp at d;simp[d]
 frame:=λ_ _ _ st hk=>⟨st.1.keep λo e=>hk it (by simp) o e,st.2.keep λo e=>hk a (by simp) o e⟩
 item:=λi s Q E hi st f=>by
  have c:i<(pickOrder (w.params.setOrder a ep) es).size:=by simpa using hi
  have k:(pickOrder (w.params.setOrder a ep) es)[i]? =some ((pickOrder (w.params.setOrder a ep) es)[i]'c):=b_ c
  refine zQ (slot:=0) (x:=((pickOrder (w.params.setOrder a ep) es)[i]'c).2) (nx:=0) st.1 st.2 (λA' q r hq=>nextT n st.2 (by rw[k];exact hq)) λh' g j=> ?_
  refine f _ h' s.toks ?_ ⟨g,st.2.keep λo e=>(j.2 a l).trans e⟩ λb o d e=>(j.2 b λz=>d (by simp[z])).trans e
  rw[bF,d8,k];rfl
 done:=λs Q E st f=>by
  have k:(pickOrder (w.params.setOrder a ep) es)[((pickOrder (w.params.setOrder a ep) es).toList.map (·.2)).length]? =none:=by simp
  exact yl (slot:=0) p st.1 st.2 (λA' q r hq=>nextT n st.2 (by rw[k];exact hq)) λh' m=>f h' s.toks λb o d e=>m b o (λz=>d (by simp[z])) e
 self:=λ_ _ _ _ st f=>t6 st.1 f
theorem Na{g:Addr}{ps:List Nat}(C:A.handled=none)(m:a≠it)(q:g≠it)(u:ps.Perm (range es.size)):
  Walks prog w A it [it,a,g] [it] (ps.map λp=>((es[p]?).getD (0,.none)).2).length (λi v=>(ps.map λp=>((es[p]?).getD (0,.none)).2)[i]? =some v)
   (λi h=>dZ h it a (.ref g) i es.size ep/\fL h a es ep t/\∃o n,h.get? g=some o/\o.data= .seq ((ps.map λ(i:Nat)=>rawInt i).toArray) n) where
 sub:=λb j=>by simp at j;simp[j]
 frame:=λ_ _ _ st hk=>⟨st.1.keep λo e=>hk it (by simp) o e,st.2.1.keep λo e=>hk a (by simp) o e,by obtain⟨o,n,e,r⟩:=st.2.2;exact⟨o,n,hk g (by simp) o e,r⟩⟩
 item:=λi s Q E hi st k=>by
  have c:i<ps.length:=by simpa using hi
  have y:ps[i]? =some (ps[i]'c):=aZ c
  have d:(ps[i]'c)<es.size:=fU.mp (u.mem_iff.mp (cz c))
  have B:es[ps[i]'c]? =some ((es[ps[i]'c]'d).1,(es[ps[i]'c]'d).2):=b_ d
  refine Ir st.1 st.2.1 st.2.2 y B λh' l f=> ?_
  refine k _ h' s.toks ?_ ⟨l,st.2.1.keep λo e=>(f.2 a m).trans e,by obtain⟨o,n,e,r⟩:=st.2.2;exact⟨o,n,(f.2 g q).trans e,r⟩⟩ λb o j e=>(f.2 b λz=>j (by simp[z])).trans e
  rw[bF,y]
  simp only[map_some,B,getD_some]
 done:=λs Q E st k=>by
  exact E3 C st.1 st.2.1 st.2.2 (by simp) λh' x=>k h' s.toks λb o j e=>x b o (λz=>j (by simp[z])) e
 self:=λ_ _ _ _ st k=>t6 st.1 k
end
section
variable{prog:Program}{w:World}{A:Around}{E:aA}{s:Shared}{it a:Addr}{es:Array (Int×Value)}{ep:Nat}{t:SetTable}
theorem JU{ps:List Nat}(a:ps.Perm (range es.size)):(ps.map λp=>((es[p]?).getD (0,.none)).2).Perm (es.toList.map (·.2)):=by
 refine(a.map _).trans ?_;have:((range es.size).map λp=>((es[p]?).getD (0,.none)).2)=es.toList.map (·.2):=by
  apply List.ext_getElem?;intro i;simp only[bF,d8];by_cases hi:i<es.size
  .rw[List.getElem?_range hi,b_ hi]
   simp[b_ hi]
  .rw[vJ (by simpa using hi),lW (by omega)];rfl
 rw[this]
end
end SS
namespace L2
section
variable{X:Cx}
def strLt(a b:Str):Prop:=a.cps.toList<b.cps.toList
theorem AM:∀(p:Str) (l:List Str),risingS p l=true->(p::l).Pairwise (λa b=>¬b.cps.toList<a.cps.toList)
 |p,[],_=>List.pairwise_singleton _ _
 |p,x::r,h=>by
  simp only[risingS,fF,Bool.not_eq_true',ltCps_eq,vS] at h;have c:=AM x r h.2;refine lH.mpr ⟨λy d=>?_,c⟩;rcases aQ.mp d with e|e
  .rw[e];exact h.1
  .have:=(lH.mp c).1 y e
   exact λz=>(not_lt.mp this)|>λq=>absurd z (not_lt.mpr (List.le_trans (not_lt.mp h.1) q))
theorem LV{l:List Str}(h:sortedS l=true):l.Pairwise (λa b=>¬b.cps.toList<a.cps.toList):=by
 cases l with
 |nil=>exact .nil
 |cons x r=>exact AM x r h
theorem L8{l:List Str}(h:l.Pairwise (λa b=>¬b.cps.toList<a.cps.toList))(nd:l.Nodup):l.Pairwise strLt:=by
 refine(h.and nd).imp λ {a b} q=>?_;by_cases z:a.cps.toList<b.cps.toList
 .exact z
 .have e:a.cps.toList=b.cps.toList:=List.le_antisymm (not_lt.mp q.1) (not_lt.mp z)
  refine absurd ?_ q.2;obtain⟨⟨la⟩⟩:=a;obtain⟨⟨lb⟩⟩:=b;have c:la=lb:=e;rw[c]
theorem B_:∀{out:List Value} {a:List Str},StrsAre out a->Vals (a.map V.str) out
 |_,_,.nil=>.nil
 |_,_,.cons x t h=>.cons ⟨t,rfl⟩ (B_ h)
end
section
variable{prog:Program}{w:World}{A:Around}{E:aA}{s:Shared}
theorem tuple_addW0(l b:Addr)(items a:Array Value)(n n2:Nat)(dd c:Option Addr)(f e:Array (Option Value))(i:items.isEmpty=true):
  Meets (Builtin.«tuple.__add__» ⟨[.ref l,.ref b],[]⟩) (λ_ R s=>s.heap.get? l=some {cls:=.type "tuple",dict:=dd,data:=.seq items n,slots:=f}/\s.heap.get? b=some {cls:=.type "tuple",dict:=c,data:=.seq a n2,slots:=e}/\R (.ok (.ret (Value.ref b))) {s with heap:=s.heap,toks:=s.toks}):=
 .of_wp λprog w A R s h=>by obtain⟨m,g,d,tk,os⟩:=s;obtain⟨j,k,h⟩:=h;have f1:=AutoSeq1.idx_int;have f2:=AutoSeq1.sub_tuple_tuple;have o:=AutoSeq1.sub_list_list;have f4:=AutoSeq1.sub_tuple_list;have p:=AutoSeq1.sub_list_tuple;wp_walk using rN j,rN k;exact⟨_,rfl,h⟩
end
section
variable{X:Cx}
def KD(K:Frag):R2:=λx y H Q=>∃a b ys,x=.ref a/\y=.ref b/\bf K H a []/\bf K H b ys/\Q (.ref b) H
theorem I9:aT X (binaryOp .Add) (KD X.K):=by
 intro pins s σ H x y v u Q I k l h;obtain⟨a,b,ys,rfl,rfl,m,o,q⟩:=h;cases k;cases l;obtain⟨its,p,p1,_⟩:=I.tuple m;obtain⟨c,t,p2,_⟩:=I.tuple o;cases p;obtain⟨⟨cls,dd,data,r⟩,i,hc,n,hd⟩:=id p1;obtain⟨⟨j,f,data2,g⟩,d,e,n2,hd2⟩:=id p2;simp only at hc hd e hd2;subst hc hd e hd2;exact concat_meets ⟨_,i,rfl⟩ ⟨_,d,rfl⟩ noFill_tuple_add seq_tuple_add slot_tuple_add entry_tuple_add (args_tuple_add_2 _ _)
  (tuple_addW0 a b #[] c.toArray n n2 dd f r g rfl) ⟨i,d,⟨.ref b,H,I,rfl,q⟩⟩
def As(K:Frag):R2:=λx y H Q=>∃a b xs ys,x=.ref a/\y=.ref b/\bf K H a xs/\bf K H b ys/\xs.length+ys.length<=sizeLine/\
 (xs=[]->Q (.ref b) H)/\(xs≠[]->ys=[]->Q (.ref a) H)/\(xs≠[]->ys≠[]->∀p,H p=none->Q (.ref p) (upd H p (.tup (xs++ys))))
theorem I0:aT X (binaryOp .Add) (As X.K):=by
 intro pins s σ H x y v u Q I d e h;obtain⟨a,b,xs,ys,rfl,rfl,f,g,hz,i,j,k⟩:=h;by_cases c:xs=[]
 .subst c
  exact I9 pins s σ H _ _ v u Q I d e ⟨a,b,ys,rfl,rfl,f,g,i rfl⟩
 .exact I8 pins s σ H _ _ v u Q I d e ⟨a,b,xs,ys,rfl,rfl,f,g,c,hz,j c,k c⟩
end
end L2
namespace DP
theorem Ie:typeLookup (.type "list") "keys"=pure none:=by rw[jZ,j9];kernel_rfl
theorem Ig:typeLookup (.type "tuple") "keys"=pure none:=by rw[jZ,j9];kernel_rfl
section
variable{prog:Program}{w:World}{A:Around}{E:aA}{s:Shared}
theorem IG{a:Addr}{xs:Array Value}{k:Nat}{Q:Option Value->Shared->Prop}(i:s.heap.get? a=some {cls:=.type "list",data:=.seq xs k})(l:A.handled=none)
  (h:∀h' tk,(∀b o,s.heap.get? b=some o->h'.get? b=some o)->Q none {s with heap:=h',toks:=tk}):wpAny (model prog w) A (getAttr? (.ref a) "keys") Q E s:=by
 obtain⟨m,g,d,tk,os⟩:=s;have j:∀c,(⟨m,g,d,c,os⟩:Shared).TypeIs (.ref a) "list":=λ_=>⟨_,i,rfl⟩;have f1:=sub_AttributeError;have n:=vH.lookup;have f4:=vH.bind (.ref a);have p:=am_list_getattr_none;unfold getAttr? getAttrBy? getAttrBy;repeat (any_goals (first|assumption|exact j _|((with_reducible show wpAny _ _ (call (Value.builtin "list.__getattribute__") _ _) _ _ _);refine call_meets vH (j _) am_entry_list_getattribute (PySem.F.args_list_getattribute_2 _ _) (meets_getattribute_miss_list a xs k #[] "keys" _ Ie (by decide) (by decide)) ⟨i,l,λh' c e f=>?_⟩)|wp_step))
 obtain⟨t',q,r⟩:=f.there;show wpAny _ _ (getattributeRaised _ _ _ _ _ _ _) _ _ _;unfold getattributeRaised;repeat (any_goals (first|assumption|wp_step))
 exact h _ _ f.keeps
theorem II{a:Addr}{xs:Array Value}{k:Nat}{Q:Option Value->Shared->Prop}(i:s.heap.get? a=some {cls:=.type "tuple",data:=.seq xs k})(l:A.handled=none)
  (h:∀h' tk,(∀b o,s.heap.get? b=some o->h'.get? b=some o)->Q none {s with heap:=h',toks:=tk}):wpAny (model prog w) A (getAttr? (.ref a) "keys") Q E s:=by
 obtain⟨m,g,d,tk,os⟩:=s;have j:∀c,(⟨m,g,d,c,os⟩:Shared).TypeIs (.ref a) "tuple":=λ_=>⟨_,i,rfl⟩;have f1:=sub_AttributeError;have n:=vO.lookup;have f4:=vO.bind (.ref a);have p:=am_tuple_getattr_none;unfold getAttr? getAttrBy? getAttrBy;repeat (any_goals (first|assumption|exact j _|((with_reducible show wpAny _ _ (call (Value.builtin "tuple.__getattribute__") _ _) _ _ _);refine call_meets vO (j _) am_entry_tuple_getattribute (PySem.F.args_tuple_getattribute_2 _ _) (meets_getattribute_miss_tuple a xs k #[] "keys" _ Ig (by decide) (by decide)) ⟨i,l,λh' c e f=>?_⟩)|wp_step))
 obtain⟨t',q,r⟩:=f.there;show wpAny _ _ (getattributeRaised _ _ _ _ _ _ _) _ _ _;unfold getattributeRaised;repeat (any_goals (first|assumption|wp_step))
 exact h _ _ f.keeps
end
theorem ym:entryFor table "dict.update.loop"=some Builtin.«dict.update.loop»:=entryFor_of_tree (by kernel_rfl)
theorem nI:plainId "dict.update.loop"=true:=by decide+kernel
section
variable{prog:Program}{w:World}{A:Around}{R:Result->Shared->Prop}{I:Addr}{fp wr:List Addr}{n:Nat}{P:Nat->Value->Prop}{St:Nat->Heap->Prop}
theorem loop(W:Walks prog w A.in1 I fp wr n P St)(D:Addr)(p:D∉fp)(h₀:Heap)(key:Nat->L2.Key)(C q:Nat->Value)
  (u:∀i v,i<n->P i v->∃t,v=.ref t/\t≠D/\t∉wr/\IsTup h₀ t #[C i,q i])(x:∀i,i<n->(L2.c8 prog w).is (key i) (C i)=true)(hn:n<=sizeLine):
  ∀(k i:Nat) (s:Shared) (kvs:List (L2.Key×Value)),n - i=k->i<=n->St i s.heap->s.heap.DictOf (L2.c8 prog w) D kvs->kvs.length<=i->(∀b o,b≠D->b∉wr->h₀.get? b=some o->s.heap.get? b=some o)->
   (∀h' tk,h'.DictOf (L2.c8 prog w) D (((range n).drop i).foldl (λacc j=>stored acc (key j) (q j)) kvs)->(∀b o,b≠D->b∉wr->s.heap.get? b=some o->h'.get? b=some o)->R (.ok (.ret .none)) {s with heap:=h',toks:=tk})->
   codeAny (model prog w) A (.builtin "dict.update.loop" ⟨[.ref D,.ref I,rawInt (i:Nat),.none],[]⟩) R s:=by
 have y:D∉wr:=λh=>p (W.sub _ h);intro k;induction k with
 |zero=>
  intro i s kvs hk hi g F Y G H;have J:i=n:=by omega
  subst J;refine eG ym ?_;rw[eU nI _];show wpAny _ A.in1 (pyNext (.ref I)>>=_) _ _ s;refine aa (W.done s _ _ g λh' tk l=>?_);show wpAny _ A.in1 (Builtin.Dict.addKeywords D []>>=_) _ _ _;refine aa (ak (ak (H h' tk ?_ λb o d a e=>l b o a e)));rw[jq (by simp),foldl_nil];obtain⟨o,es,ep,K,r⟩:=F;exact⟨o,es,ep,l D o y K,r⟩
 |succ k Z=>
  intro i s kvs hk hi g F Y G H;have c:i<n:=by omega
  refine eG ym ?_;rw[eU nI _];show wpAny _ A.in1 (pyNext (.ref I)>>=_) _ _ s;refine aa (W.item i s _ _ c g λv h1 tk hP B l=>?_);obtain⟨t,rfl,tD,tw,ht⟩:=u i v c hP;obtain⟨E,L,M,nt,N⟩:=ht;have f:h1.get? t=some E:=l t E tw (G t E tD tw L);refine aa (dU ?_);refine aa (oB ?_);unfold Builtin.Dict.pairItems;refine aa (iR (T:="tuple") ⟨E,f,M⟩ ?_);rw[aj (by decide)];refine aa (gB f N (ak ?_));show wpAny _ _ (holding [C i,q i] (dictSet D (C i) (q i))) _ _ _;have O:h1.DictOf (L2.c8 prog w) D kvs:=by
   obtain⟨o,es,ep,K,r⟩:=F;exact⟨o,es,ep,l D o y K,r⟩
  refine dU (wpAny_dictSet_pairs (s:={s with heap:=h1,toks:=tk}) (x i c) O (λh2 Q m=>?_) (by omega));have S:St (i+1) h2:=W.frame _ _ _ B λb d o e=>(m.2 b λz=>p (z▸d)).trans e;have e1:((i:Nat):Int)+1=((i+1:Nat):Int):=by omega
  refine ak ⟨eT nI _,?_⟩;show codeAny _ _ (.builtin "dict.update.loop" ⟨[.ref D,.ref I,rawInt (((i:Nat):Int)+1),.none],[]⟩) _ _;rw[e1];refine Z (i+1) _ _ (by omega) c S Q ?_ (λb o d a e=>(m.2 b d).trans (l b o a (G b o d a e))) λh' U V X=>?_
  .have:=stored_length_le kvs (key i) (q i)
   omega
  .refine H h' U ?_ λb o d a e=>X b o d a ((m.2 b d).trans (l b o a e))
   have e2:(range n).drop i=i::(range n).drop (i+1):=by
    rw[lS (by simpa using c)];simp
   rw[e2,foldl_cons];exact V
end
end DP
namespace L2
def putAll(ps:List (Key×V)):List (Key×V):=ps.foldl (λacc p=>putK acc p.1 p.2) []
theorem Kv(ps acc:List (Key×V)):(ps.foldl (λacc p=>putK acc p.1 p.2) acc).length<=acc.length+ps.length:=by
 induction ps generalizing acc with
 |nil=>simp
 |cons p r a=>
  rw[foldl_cons,eV];refine cP (a _) ?_;have:(putK acc p.1 p.2).length<=acc.length+1:=by
   unfold putK;split
   .rw[bC];omega
   .rw[bR];simp
  omega
theorem Hx{ps:List (Key×V)}{n:Nat}{key:Nat->Key}{a:Nat->Value}(hn:n=ps.length)(h:∀i p,ps[i]?=some p->key i=p.1/\RelV p.2 (a i)):KV (putAll ps) ((range n).foldl (λacc j=>stored acc (key j) (a j)) []):=by
 subst hn;unfold putAll;have gen:∀(m:Nat),m<=ps.length->KV ((ps.take m).foldl (λacc p=>putK acc p.1 p.2) []) ((range m).foldl (λacc j=>stored acc (key j) (a j)) []):=λm=>by
  induction m with
  |zero=>intro _;simp;exact .nil
  |succ m b=>
   intro c;have e:ps[m]?=some (ps[m]'(by omega)):=aZ (by omega);obtain⟨h1,h2⟩:=h m _ e;rw[List.take_add_one,e,List.range_succ,List.foldl_append,List.foldl_append];simp only[Option.toList_some,foldl_cons,foldl_nil];rw[h1];exact KV.put (b (by omega)) _ h2
 have:=gen ps.length (aF _);rwa [List.take_length] at this
section
variable{X:Cx}
def Pairs(K:Frag)(H:Hp)(ts:List V)(ps:List (Key×V)):Prop:=ts.length=ps.length/\∀(i:Nat) (x:V) (p:Key×V),ts[i]?=some x->ps[i]?=some p->∃t,x=.ref t/\bf K H t [kV p.1,p.2]
theorem C3(hc:X.calm=true):dY X (.type "dict") (λxs H Q=>∃(p:Addr) (D:List V) (ps:List (Key×V)),xs=[.ref p]/\(H p=some (.lst D)\/H p=some (.tup D))/\Pairs X.K H D ps/\ps.length<=1000/\∀d,H d=none->Q (.ref d) (upd H d (.dK (putAll ps)))):=by
 intro pins s σ H xs us Q I r h;obtain⟨p,D,ps,rfl,hp,hP,hl,q⟩:=h;obtain⟨u,rfl,ru⟩:=vals1 r;cases ru;have Z:=I.ok.hd hc;obtain⟨its,hv,E⟩:∃its:List Value,Vals D its/\((∃n,s.heap.get? p=some {cls:=.type "list",data:=.seq its.toArray n})\/∃n,s.heap.get? p=some {cls:=.type "tuple",data:=.seq its.toArray n}):=by
  rcases hp with hp|hp
  .obtain⟨_,its,n,y,e⟩:=(show bG X.prog X.w H s.heap p (.lst D) from I.hok p _ hp)
   exact⟨its,y,.inl ⟨n,e⟩⟩
  .obtain⟨its,n,y,e,_⟩:=I.MW hp
   exact⟨its,y,.inr ⟨n,e⟩⟩
 have l:its.length=ps.length:=by rw[<-hv.length];exact hP.1
 have J4:p<s.heap.objs.size:=by rcases E with⟨_,e⟩|⟨_,e⟩<;>exact aM e
 have pair:∀i,i<ps.length->∃t k v,its[i]?=some (.ref t)/\IsTup s.heap t #[k,v]/\∃p,ps[i]?=some p/\RelV (kV p.1) k/\RelV p.2 v:=λi hi=>by
  have z:ps[i]?=some (ps[i]'hi):=aZ hi;have B:D[i]?=some (D[i]'(by rw[hP.1];exact hi)):=aZ _;obtain⟨t,ex,hq⟩:=hP.2 i _ _ B z;obtain⟨u,hu,ru⟩:=hv.get B;rw[ex] at ru;cases ru;obtain⟨its2,r2,p2,_⟩:=I.tuple hq;obtain⟨k,v,rfl,N,y⟩:=vals2 r2;exact⟨t,k,v,hu,p2,_,z,N,y⟩
 let kk:Nat->Value:=λi=>match its[i]? with|some (.ref t)=>(match s.heap.get? t with|some o=>(match o.data with|.seq a _=>a.getD 0 .none|_=>.none)|none=>.none)|_=>.none
 let O:Nat->Value:=λi=>match its[i]? with|some (.ref t)=>(match s.heap.get? t with|some o=>(match o.data with|.seq a _=>a.getD 1 .none|_=>.none)|none=>.none)|_=>.none
 let key:Nat->Key:=λi=>((ps[i]?).map (·.1)).getD (.inl 0);have g:∀i,i<ps.length->∃t p,its[i]?=some (.ref t)/\IsTup s.heap t #[kk i,O i]/\ps[i]?=some p/\key i=p.1/\RelV (kV p.1) (kk i)/\RelV p.2 (O i):=λi hi=>by
  obtain⟨t,k,v,z,L,pp,B,N,y⟩:=pair i hi;obtain⟨o,G,hcl,n,hd⟩:=id L;have P:kk i=k:=by simp only[kk,z,G,hd];rfl
  have ev:O i=v:=by simp only[O,z,G,hd];rfl
  have ey:key i=pp.1:=by simp only[key,B];rfl
  rw[P,ev,ey];exact⟨t,pp,z,L,B,rfl,N,y⟩
 have hsz:ps.length<=sizeLine:=cP hl (by decide);refine callType_codes (Q₁:=λobj J=>obj=.ref s.heap.objs.size/\J={s with heap:=s.heap.push {cls:=.type "dict",data:=.dict #[]}}) PySem.F.kt_called_dict (PySem.F.kt_typeCall_dict_1 _) PySem.F.entry_dict_init (kt_code_dict_new _ ⟨rfl,rfl⟩) ?_;rintro obj J ⟨rfl,rfl⟩;have c:(s.heap.push {cls:=.type "dict",data:=.dict #[]}).DictOf (c8 X.prog X.w) s.heap.objs.size []:=DictOf.new s.heap;refine⟨c.typeIs,PySem.F.args_dict_init_2 _ _,?_⟩;unfold Builtin.«dict.__init__»;refine aa ?_;unfold Builtin.Dict.selfAndRest;refine aa (wpAny_notOrdered_dict c.typeIs ?_);show wpAny _ _ (pure (s.heap.objs.size,[Value.ref p])) _ _ _;refine ak ?_;show wpAny _ _ (Builtin.Dict.updateFrom "dict.__init__" s.heap.objs.size (.ref p) [] .none) _ _ _;unfold Builtin.Dict.updateFrom;have k0:∀b o,s.heap.get? b=some o->(s.heap.push {cls:=.type "dict",data:=.dict #[]}).get? b=some o:=λb o e=>aR _ e;have pD:p≠s.heap.objs.size:=aV J4;have go:∀(h1:Heap) (tk:Nat) (R:Addr) (fp:List Addr) (St:Nat->Heap->Prop),(∀b o,(s.heap.push {cls:=.type "dict",data:=.dict #[]}).get? b=some o->h1.get? b=some o)->s.heap.objs.size<R->
   Walks X.prog X.w X.A.in1.in1 R fp [R] its.length (λi v=>its.toArray[i]?=some v) St->St 0 h1->s.heap.objs.size∉fp->
   codeAny (model X.prog X.w) X.A.in1 (.builtin "dict.update.loop" ⟨[.ref s.heap.objs.size,.ref R,rawInt 0,.none],[]⟩) (wants (λr S=>r=.none/\EP X pins σ Q (.ref s.heap.objs.size) S) X.xe) {s with heap:=h1,toks:=tk}:=by
  intro h1 tk R fp St k1 hI W L0 hDf;have Gm:h1.DictOf (c8 X.prog X.w) s.heap.objs.size []:=by
   obtain⟨o,es,ep,G,r⟩:=c;exact⟨o,es,ep,k1 _ o G,r⟩
  refine DP.loop W s.heap.objs.size hDf s.heap key kk O (λi v hi hv'=>?_) (λi hi=>?_) (by rw[l];exact hsz) its.length 0 _ [] rfl (b9 _) L0 Gm (b9 _) (λb o _ _ e=>k1 b o (k0 b o e)) λh2 MU U k2=>?_
  .obtain⟨t,pp,z,L,_⟩:=g i (by rw[<-l];exact hi)
   have e:its[i]?=some v:=by simpa using hv'
   rw[z] at e;cases e;have Y:t<s.heap.objs.size:=L.lt;exact⟨t,rfl,aV Y,by simp only[bh];exact aV (lt_trans Y hI),L⟩
  .obtain⟨t,pp,z,L,B,P,N,y⟩:=g i (by rw[<-l];exact hi)
   rw[P];exact nc N
  .have hn:H s.heap.objs.size=none:=I.hok.fresh (aF _)
   have Hw:∀b o,s.heap.get? b=some o->h2.get? b=some o:=λb o e=>by
    have hb:b<s.heap.objs.size:=aM e;exact k2 b o (aV hb) (by simp only[bh];exact aV (lt_trans hb hI)) (k1 b o (k0 b o e))
   rw[lT,l] at U;have hkv:KV (putAll ps) ((range ps.length).foldl (λacc j=>stored acc (key j) (O j)) []):=Hx rfl λi pp e=>by
    obtain⟨t,pp',z,L,B,P,N,y⟩:=g i (bY.mp e).1;rw[e] at B;cases B;exact⟨P,y⟩
   have hns:(s.heap.objs.size==sysModules)=false:=beq_false_of_ne (g8 I.big);refine⟨rfl,.ref s.heap.objs.size,_,I.laid (t':=MU) (o:=.dK (putAll ps)) Hw (aF _) ⟨?_,hns,_,hkv,U⟩,rfl,q _ hn⟩;have:=Kv ps [];unfold putAll;simp only[length_nil,zero_add] at this;omega
 rcases E with⟨n,e⟩|⟨n,e⟩
 .have C:=k0 _ _ e
  refine aa (iR (T:="list") ⟨_,C,rfl⟩ ?_);rw[aj (by decide)];refine aa (DP.IG (s:={s with heap:=s.heap.push {cls:=.type "dict",data:=.dict #[]}}) C Z λh1 M k1=>?_);rw[aj (show(none:Option Value).isNone=true from rfl)];refine aa (j7 ?_);have m:h1.IsList p its.toArray:=⟨_,k1 _ _ C,rfl,n,rfl⟩;have x:p<h1.objs.size:=aM (k1 _ _ C);have f:s.heap.objs.size<h1.objs.size:=by obtain⟨o,_,_,G,_⟩:=c;exact aM (k1 _ _ G)
  refine aa (rP (s:={s with heap:=h1,toks:=M}) m ?_);have W:=Walks.list (prog:=X.prog) (w:=X.w) (A:=X.A.in1.in1) Z h1.objs.size p (aV x) its.toArray;rw[bV] at W;refine ak ⟨eT DP.nI _,go _ _ _ _ _ (λb o q=>aR _ (k1 b o q)) f W ⟨⟨_,bK _ rfl,rfl,rfl⟩,m.push _⟩ ?_⟩;simp only[aQ,ez,eB,not_or];exact⟨aV f,Ne.symm pD⟩
 .have C:=k0 _ _ e
  refine aa (iR (T:="tuple") ⟨_,C,rfl⟩ ?_);rw[aj (by decide)];refine aa (DP.II (s:={s with heap:=s.heap.push {cls:=.type "dict",data:=.dict #[]}}) C Z λh1 M k1=>?_);rw[aj (show(none:Option Value).isNone=true from rfl)];refine aa (j7 ?_);have m:h1.IsTuple p its.toArray:=⟨_,k1 _ _ C,rfl,n,rfl⟩;have x:p<h1.objs.size:=aM (k1 _ _ C);have f:s.heap.objs.size<h1.objs.size:=by obtain⟨o,_,_,G,_⟩:=c;exact aM (k1 _ _ G)
  refine aa (wpAny_pyIter_tuple (s:={s with heap:=h1,toks:=M}) m ?_);have W:=Walks.tuple (prog:=X.prog) (w:=X.w) (A:=X.A.in1.in1) Z h1.objs.size p (aV x) its.toArray;rw[bV] at W;refine ak ⟨eT DP.nI _,go _ _ _ _ _ (λb o q=>aR _ (k1 b o q)) f W ⟨⟨_,bK _ rfl,rfl,rfl⟩,m.push _⟩ ?_⟩;simp only[aQ,ez,eB,not_or];exact⟨aV f,Ne.symm pD⟩
end
end L2
end
namespace PySem
open Sem (wp)
namespace ZL
section
variable{prog:Program}{w:World}{A:Around}{E:aA}{s:Shared}{z TI TO i1 i2 l1 l2:Addr}{xs ys:Array Value}
theorem Dl{R:List Value->Shared->Prop}(i:A.handled=none)(D:ZipApart z TI TO i1 i2 l1 l2)(L:kr z TI TO i1 i2 l1 l2 (s.heap.objs.size+1))(O:mF z TI TO i1 i2 l1 l2 (s.heap.objs.size+1) s.heap.objs.size)(hn:min xs.size ys.size<=sizeLine)
  (k:ZS z TI TO i1 i2 l1 l2 (s.heap.objs.size+1) xs ys 0 (s.heap.push {cls:= .type "list",data:= .seq #[]}))
  (g:∀h':Heap,(∀(j:Nat) x y,xs[j]? =some x->ys[j]? =some y->IsPair h' (s.heap.objs.size+1+j) x y)->s.heap.objs.size<h'.objs.size->
   (∀b o,b≠z->b≠TO->b≠i1->b≠i2->s.heap.get? b=some o->h'.get? b=some o)->R (c9 (s.heap.objs.size+1) (min xs.size ys.size)).toList {s with heap:=h'}):
  wpAny (model prog w) A (collect (.ref z)) R E s:=by
 unfold collect
 refine aa (wpAny_runValue (eG PySem.F.entry_proto_collect ?_))
 rw[eU PySem.F.plain_proto_collect _]
 show wpAny _ A.in1 (newList []>>=λl=>again (.builtin "list.__iadd__" ⟨[l,.ref z],[]⟩)) _ _ s
 refine aa (dH ?_)
 refine ak ⟨eT rH _,eG PySem.F.entry_list_iadd ?_⟩
 rw[eU rH _]
 have c:(s.heap.push {cls:= .type "list",data:= .seq ([]:List Value).toArray}).get? s.heap.objs.size=some {cls:= .type "list",data:= .seq #[]}:=bK _ rfl
 show wpAny _ A.in1 (Builtin.List.listExtendWith (.ref s.heap.objs.size) (.ref z) (.ref s.heap.objs.size)) _ _ _
 have key:=Ft (prog:=prog) (w:=w) (A:=A) (s:={s with heap:=s.heap.push {cls:= .type "list",data:= .seq ([]:List Value).toArray}})
  (R:=λ(q:Result) (s':Shared)=>∃(h':Heap) (c':Nat),q= .ok (.ret (.ref s.heap.objs.size))/\s'={s with heap:=h'}/\
   (∀(j:Nat) x y,xs[j]? =some x->ys[j]? =some y->IsPair h' (s.heap.objs.size+1+j) x y)/\h'.get? s.heap.objs.size=some {cls:= .type "list",dict:=none,data:= .seq (c9 (s.heap.objs.size+1) (min xs.size ys.size)) c',slots:= #[]}/\
   ∀b o,b≠z->b≠TO->b≠i1->b≠i2->s.heap.get? b=some o->h'.get? b=some o)
  i D L O hn (.ref s.heap.objs.size) 0 k c
  (λh' c' a1 a2 m=>⟨h',c',rfl,rfl,a1,a2,λb o n p r t e=>m b o (aV (aM e)) n p r t (aR _ e)⟩)
 refine h_ key (λfin s' x=> ?_) λe s' x=> ?_
 .cases fin with
  |done f=>
   obtain⟨h',c',e,rfl,d,a,hk⟩:=x
   cases e
   show wpAny _ A (load s.heap.objs.size>>=_) _ _ _
   refine aa (wpAny_load a ?_)
   exact ak (g h' d (aM a) hk)
  |again c₁=>
   refine⟨x.1,lO x.2 λq h y=> ?_⟩
   obtain⟨h',c',rfl,rfl,d,a,hk⟩:=y
   show wpAny _ A (load s.heap.objs.size>>=_) _ _ _
   refine aa (wpAny_load a ?_)
   exact ak (g h' d (aM a) hk)
 .obtain⟨_,_,u,_⟩:=x
  cases u
theorem Dj{Q₁:aA}(f:A.handled=none)(g:s.TypeIs (.ref z) "zip")(D:ZipApart z TI TO i1 i2 l1 l2)(L:kr z TI TO i1 i2 l1 l2 (s.heap.objs.size+1))(O:mF z TI TO i1 i2 l1 l2 (s.heap.objs.size+1) s.heap.objs.size)(hn:min xs.size ys.size<=sizeLine)
  (i:ZS z TI TO i1 i2 l1 l2 (s.heap.objs.size+1) xs ys 0 (s.heap.push {cls:= .type "list",data:= .seq #[]}))
  (h:∀h':Heap,(∀(j:Nat) x y,xs[j]? =some x->ys[j]? =some y->IsPair h' (s.heap.objs.size+1+j) x y)->s.heap.objs.size<h'.objs.size->
   (∀b o,b≠z->b≠TO->b≠i1->b≠i2->s.heap.get? b=some o->h'.get? b=some o)->Q₁ (.ref h'.objs.size) {s with heap:=h'.push {cls:= .type "tuple",data:= .seq (c9 (s.heap.objs.size+1) (min xs.size ys.size))}}):
  codeAny (model prog w) A (.call (.builtin "tuple.__new__") ⟨[.type "tuple",.ref z],[]⟩) (wants Q₁ E) s:=by
 refine codeAny_of_tree ?_
 show wpAny _ A.in1 (do checkBuiltinCall "tuple.__new__" ⟨[.type "tuple",.ref z],[]⟩;again (.builtin "tuple.__new__" ⟨[.type "tuple",.ref z],[]⟩)) _ _ s
 refine aa (ow (PySem.F.newCall_tuple_1 _) (ak ⟨eT PySem.F.plain_tuple_new _,eG PySem.F.entry_tuple_new ?_⟩))
 rw[eU PySem.F.plain_tuple_new _]
 have d:=sub_tuple_self
 have a:=init_tuple_lookup
 have k:=madeHere_tuple
 wp_walk using iR g,Dl (A:=A.in1) f D L O hn i
 intro h' l c hk
 show wpAny _ _ (Builtin.Tuple.tupleExact (c9 (s.heap.objs.size+1) (min xs.size ys.size)).toList.toArray>>=λv=>ret v) _ _ _
 unfold Builtin.Tuple.tupleExact
 refine aa (dH ?_ (by show(c9 (s.heap.objs.size+1) (min xs.size ys.size)).toList.toArray.size<=sizeLine;simp only[Array.toArray_toList];rw[u0];exact hn))
 refine ak ?_
 have e:(c9 (s.heap.objs.size+1) (min xs.size ys.size)).toList.toArray=c9 (s.heap.objs.size+1) (min xs.size ys.size):=by simp
 rw[e]
 exact h h' l c hk
end
section
variable{prog:Program}{w:World}{A:Around}{E:aA}{s:Shared}
theorem MZ{l1 l2:Addr}{xs ys:Array Value}{Q:aA}(t:A.handled=none)(f:s.heap.IsList l1 xs)(g:s.heap.IsList l2 ys)(hn:min xs.size ys.size<=sizeLine)
  (u:∀(h':Heap) (T:Addr),(∀(j:Nat) x y,xs[j]?=some x->ys[j]?=some y->IsPair h' (s.heap.objs.size+6+j) x y/\@LT.lt Nat _ (s.heap.objs.size+6+j) T)->@LT.lt Nat _ (s.heap.objs.size+5) T->
   h'.get? T=some {cls:=.type "tuple",data:=.seq (c9 (s.heap.objs.size+6) (min xs.size ys.size))}->
   (∀b o,s.heap.get? b=some o->h'.get? b=some o)->Q (.ref T) {s with heap:=h'}):
  wpAny (model prog w) A (call (.type "zip") [.ref l1,.ref l2]) (λz c=>wpAny (model prog w) A (call (.type "tuple") [z]) Q E c) E s:=by
 have v: @LT.lt Nat _ l1 s.heap.objs.size:=by obtain⟨_,e,_⟩:=f;exact aM e
 have k8: @LT.lt Nat _ l2 s.heap.objs.size:=by obtain⟨_,e,_⟩:=g;exact aM e
 refine call_zip_2 f g λa hz h i k l hsz hk=>?_;have hsz: @Eq Nat a.objs.size (s.heap.objs.size+5):=hsz;have D:ZipApart (s.heap.objs.size+4) (s.heap.objs.size+2) (s.heap.objs.size+3) s.heap.objs.size (s.heap.objs.size+1) l1 l2:=by
  constructor<;>first|(show(_:Nat)<(_:Nat);omega)|(intro e;have q: @Eq Nat _ _:=e;omega)
 have L:kr (s.heap.objs.size+4) (s.heap.objs.size+2) (s.heap.objs.size+3) s.heap.objs.size (s.heap.objs.size+1) l1 l2 (a.objs.size+1):=by
  rw[hsz];constructor<;>first|(show(_:Nat)<(_:Nat);omega)|(intro e;have q: @Eq Nat _ _:=e;omega)
 have O:mF (s.heap.objs.size+4) (s.heap.objs.size+2) (s.heap.objs.size+3) s.heap.objs.size (s.heap.objs.size+1) l1 l2 (a.objs.size+1) a.objs.size:=by
  rw[hsz];constructor<;>first|(show(_:Nat)<(_:Nat);omega)|(intro e;have q: @Eq Nat _ _:=e;omega)
 have B:ZS (s.heap.objs.size+4) (s.heap.objs.size+2) (s.heap.objs.size+3) s.heap.objs.size (s.heap.objs.size+1) l1 l2 (a.objs.size+1) xs ys 0 (a.push {cls:=.type "list",data:=.seq #[]}):=
  ⟨.inl ⟨rfl,aR _ hz⟩,aR _ h,⟨_,_,aR _ i⟩,k.at λo e=>aR _ e,l.at λo e=>aR _ e,
   f.at λo e=>aR _ (hk _ o e),g.at λo e=>aR _ (hk _ o e),by rw[cJ],λj x y C=>absurd C (fV _)⟩
 refine callType_codes (Q₁:=λobj c=>c.TypeIs obj "tuple"/\Q obj c) called_tuple (PySem.F.typeCall_tuple_1 _) PySem.F.entry_object_init
  (Dj (s:={s with heap:=a}) (xs:=xs) (ys:=ys) t ⟨_,hz,rfl⟩ D L O hn B λh' G m n=>⟨⟨_,bK _ rfl,rfl⟩,?_⟩) λobj c d=>?_
 .have r:a.objs.size+1=s.heap.objs.size+6:=by rw[hsz]
  have p:=u (h'.push {cls:=.type "tuple",data:=.seq (c9 (s.heap.objs.size+6) (min xs.size ys.size))}) h'.objs.size (λj x y H I=>?_) (by rw[<-hsz];exact m) (bK _ rfl) λb o e=>?_
  .show Q (.ref h'.objs.size) {s with heap:=h'.push {cls:=.type "tuple",data:=.seq (c9 (a.objs.size+1) (min xs.size ys.size))}}
   rw[r];exact p
  .have pr:=G j x y H I
   have pr:IsPair h' (a.objs.size+1+j) x y:=pr;rw[r] at pr;exact⟨aR _ pr,aM pr⟩
  .have J: @LT.lt Nat _ b s.heap.objs.size:=aM e
   have ne:∀j:Nat,b≠s.heap.objs.size+j:=λj z=>by have K: @Eq Nat b (s.heap.objs.size+j):=z;omega
   exact aR _ (n b o (ne 4) (ne 3) (ne 0) (ne 1) (hk b o e))
 .exact⟨d.1,PySem.F.args_object_init_2 obj _,object_init_meets called_tuple.init.lookup called_tuple.made (by decide) prog w A.in1 _ c ⟨d.1,rfl,d.2⟩⟩
end
end ZL
end PySem
section
open PySem PySem.Spec PyProof.Rows
namespace L2
section
variable{X:Cx}
def ML(K:Frag)(ta:TA):TE:=λσ H Q=>ta σ H λvs H1=>∃a b xs ys,vs=[.ref a,.ref b]/\aX K H1 a xs/\aX K H1 b ys/\
 ∀(l:Addr) (H':Hp) (ps:List V),iX H1 H'->H1 l=none->H' l=some (.tup ps)->ps.length=min xs.length ys.length->(∀(j:Nat) p,ps[j]?=some p->∃t x y,p=.ref t/\xs[j]?=some x/\ys[j]?=some y/\H' t=some (.tup [x,y]))->Q (.ref l) H'
theorem JQ{a b:Expr}{ta:TA}{p1 p2 pos1 pos2:Pos}(P:Gl X "tuple")(R:X.mg "tuple"=none)(S:bootBuiltins "tuple"=some (.type "tuple"))(U:Gl X "zip")(W:X.mg "zip"=none)(Y:bootBuiltins "zip"=some (.type "zip"))(hc:X.calm=true)(ha:PA X [a,b] ta)
  (hs:starEach [a,b] X.env=[(false,eval a X.env),(false,eval b X.env)]:=by rfl)(B:starEach [b] X.env=[(false,eval b X.env)]:=by rfl)
  (hz:starEach [.Call (.Name "zip" p2) [a,b] [] pos2] X.env=[(false,eval (.Call (.Name "zip" p2) [a,b] [] pos2) X.env)]:=by rfl):
  PE X (.Call (.Name "tuple" p1) [.Call (.Name "zip" p2) [a,b] [] pos2] [] pos1) (ML X.K ta):=by
 intro pins s σ H Q I h
 refine j3 (jJ I P R S ?_)
 refine rE ?_ hz rfl
 rw[hz]
 refine Calls.spliced_cons (j3 (jJ I U W Y (rE (aG (ha pos2 pins s σ H _ I h) λus c ⟨vs,H1,g,r1,q1⟩=> ?_) (by rw[hs,B]) (by rw[B];rfl))))
 obtain⟨pa,pb,xs,ys,e,hx,hy,q⟩:=q1
 subst e
 obtain⟨u1,u2,rfl,Z,KU⟩:=vals2 r1
 cases Z
 cases KU
 obtain⟨C,i,JZ,hz1⟩:=g.list hx
 obtain⟨D,k,J1,hz2⟩:=g.list hy
 have l1:=i.length
 have l2:=k.length
 refine aG (ZL.MZ (E:=X.xe) (Q:=EP X pins σ Q) (g.ok.hd hc) JZ.isList J1.isList (by simp only[bV];omega) λh' T F m hS kp=> ?_) λz s2 hq=>Calls.spliced_nil hq
 have em:min C.toArray.size D.toArray.size=min xs.length ys.length:=by simp only[bV];omega
 rw[em] at hS
 have hn:∀j:Nat,H1 (c.heap.objs.size+j)=none:=λj=>g.hok.fresh (lZ _ _)
 have Gs:∀j:Nat,j<min xs.length ys.length->@LT.lt Nat _ (c.heap.objs.size+6+j) T:=λj hj=>by
  have d:xs[j]? =some (xs[j]'(by omega)):=aZ _
  have f:ys[j]? =some (ys[j]'(by omega)):=aZ _
  obtain⟨u,hu,_⟩:=i.get d
  obtain⟨v,hv,_⟩:=k.get f
  exact(F j u v (by simpa using hu) (by simpa using hv)).2
 have Gu:H1 T=none:=g.hok.fresh (by show @LE.le Nat _ c.heap.objs.size T;have: @LT.lt Nat _ (c.heap.objs.size+5) T:=m;omega)
 have pair:∀j:Nat,j<min xs.length ys.length->∃x y u v,xs[j]? =some x/\ys[j]? =some y/\RelV x u/\RelV y v/\IsPair h' (c.heap.objs.size+6+j) u v:=λj hj=>by
  have d:xs[j]? =some (xs[j]'(by omega)):=aZ _
  have f:ys[j]? =some (ys[j]'(by omega)):=aZ _
  obtain⟨u,hu,ru⟩:=i.get d
  obtain⟨v,hv,n⟩:=k.get f
  exact⟨_,_,u,v,d,f,ru,n,(F j u v (by simpa using hu) (by simpa using hv)).1⟩
 let H':Hp:=λb=>if b=T then some (.tup ((range (min xs.length ys.length)).map λj=>V.ref (c.heap.objs.size+6+j))) else
  if c.heap.objs.size+6<=b/\b - (c.heap.objs.size+6)<min xs.length ys.length then some (.tup [(xs[b - (c.heap.objs.size+6)]?).getD .aD,(ys[b - (c.heap.objs.size+6)]?).getD .aD]) else H1 b
 have G:H' (T)=some (.tup ((range (min xs.length ys.length)).map λj=>V.ref (c.heap.objs.size+6+j))):=by
  show(if _ then _ else _)=_
  rw[aj rfl]
 have J:∀(j:Nat) x y,xs[j]? =some x->ys[j]? =some y->H' (c.heap.objs.size+6+j)=some (.tup [x,y]):=λj x y t A=>by
  have j1:=(bY.mp t).1
  have j2:=(bY.mp A).1
  have L:c.heap.objs.size+6+j - (c.heap.objs.size+6)=j:=oF _ _
  have M:j<min xs.length ys.length:=Nat.lt_min.mpr ⟨j1,j2⟩
  show(if _ then _ else if _ then _ else _)=_
  rw[ai (λz=>by have z': @Eq Nat (c.heap.objs.size+6+j) (T):=z;have:=Gs j M;omega),aj ⟨lZ _ _,by rw[L];exact M⟩,L,t,A]
  rfl
 have hold:iX H1 H':=λb o e=>by
  have hb: @LT.lt Nat _ b c.heap.objs.size:=g.hok.lt e
  show(if _ then _ else if _ then _ else _)=_
  rw[ai (λz=>by have z': @Eq Nat b (T):=z;have: @LT.lt Nat _ (c.heap.objs.size+5) T:=m;omega),ai (λz=>by have z': @LE.le Nat _ (c.heap.objs.size+6) b:=z.1;omega)]
  exact e
 have N:∀b o,H' b=some o->H1 b=some o\/(c.heap.objs.size<=b/\bG X.prog X.w H' h' b o):=λb o e=>by
  by_cases hb:b=T
  .subst hb
   rw[G] at e
   cases e
   refine .inr ⟨by show @LE.le Nat _ c.heap.objs.size b;have: @LT.lt Nat _ (c.heap.objs.size+5) b:=m;omega,by rw[bC,l5];omega,(range (min xs.length ys.length)).map λj=>Value.ref (c.heap.objs.size+6+j),?_,⟨_,hS⟩⟩
   have:∀l:List Nat,Vals (l.map λj=>V.ref (c.heap.objs.size+6+j)) (l.map λj=>Value.ref (c.heap.objs.size+6+j)):=λl=>by
    induction l with
    |nil=>exact .nil
    |cons j r ih=>exact .cons rfl ih
   exact this _
  .by_cases O:c.heap.objs.size+6<=b/\b - (c.heap.objs.size+6)<min xs.length ys.length
   .obtain⟨g1,g2⟩:=O
    have eb:b=c.heap.objs.size+6+(b - (c.heap.objs.size+6)):=(vQ g1).symm
    obtain⟨x,y,u,v,t,A,ru,n,pr⟩:=pair _ g2
    rw[eb,J _ x y t A] at e
    cases e
    refine .inr ⟨cP (lZ _ 6) g1,by show 2<=sizeLine;decide,[u,v],.cons ru (.cons n .nil),?_⟩
    rw[eb]
    exact⟨_,pr⟩
   .left
    have e':(if b=T then some (HO.tup ((range (min xs.length ys.length)).map λj=>V.ref (c.heap.objs.size+6+j))) else
     if c.heap.objs.size+6<=b/\b - (c.heap.objs.size+6)<min xs.length ys.length then some (.tup [(xs[b - (c.heap.objs.size+6)]?).getD .aD,(ys[b - (c.heap.objs.size+6)]?).getD .aD]) else H1 b)=some o:=e
    rw[ai hb,ai O] at e'
    exact e'
 refine⟨.ref (T),H',g.many (h':=h') (t':=c.toks) kp hold N,rfl,q _ H' _ hold Gu G (by rw[bC,l5]) λj p e=> ?_⟩
 rw[bF] at e
 cases er:(range (min xs.length ys.length))[j]? with
 |none=>rw[er] at e;cases e
 |some j'=>
  rw[er] at e
  obtain⟨hj,L⟩:=bY.mp er
  rw[List.getElem_range] at L
  subst L
  cases e
  have hj':j<min xs.length ys.length:=by simpa using hj
  obtain⟨x,y,u,v,t,A,_⟩:=pair j hj'
  exact⟨_,x,y,rfl,t,A,J j x y t A⟩
end
theorem BQ:∀{vs:List Value} {a:List Str},vs.length=a.length->(∀(i:Nat) v x,vs[i]?=some v->a[i]?=some x->∃t,v=Value.str x t)->StrsAre vs a
 |[],[],_,_=>.nil
 |v::vs,x::a,b,h=>by
  obtain⟨t,rfl⟩:=h 0 v x rfl rfl;exact .cons x t (BQ (by simpa using b) λi c d e f=>h (i+1) c d (by simpa using e) (by simpa using f))
theorem KV.at{kvs:List (Key×V)}{vs:List (Key×Value)}(r:KV kvs vs):∀{i:Nat} {q:Key×Value},vs[i]?=some q->∃p,kvs[i]?=some p/\p.1=q.1/\RelV p.2 q.2:=by
 induction r with
 |nil=>intro i q h;simp at h
 |cons h1 h2 a=>
  intro i q h;cases i with
  |zero=>simp at h;subst h;exact⟨_,rfl,h1⟩
  |succ i=>exact a (by simpa using h)
theorem KV.len{kvs:List (Key×V)}{vs:List (Key×Value)}(r:KV kvs vs):kvs.length=vs.length:=by
 induction r with
 |nil=>rfl
 |cons h1 h2 a=>simp[a]
section
variable{X:Cx}
theorem Inv.HR{pins:aO}{σ:St}{H H':Hp}{s:Shared}{h':Heap}{t':Nat}(I:Inv X pins σ H s)(kp:∀b o,s.heap.get? b=some o->h'.get? b=some o)(hs:iX H H')
  (a:∀b o,H' b=some o->H b=some o\/((∀u,s.heap.get? b≠some u)/\bG X.prog X.w H' h' b o)):Inv X pins σ H' {s with heap:=h',toks:=t'}:=by
 refine I.un (h':=h') (t':=t') ⟨λb o q _ _ _=>kp b o q,λb o q _ _ _=>⟨o.slots,kp b o q⟩,λb o q n _=>?_,λb o q _=>⟨o,kp b o q⟩,λb xs q=>hs _ _ q,λb o u q=>hs _ _ q,λb ps q=>⟨#[],by rw[hs _ _ q];simp⟩⟩ λb o q=>?_
 .cases e:H' b with
  |none=>rfl
  |some u=>
   rcases a b u e with z|⟨z,_⟩
   .rw[n] at z;cases z
   .exact absurd q (z _)
 .rcases a b o q with z|⟨_,z⟩
  .exact(I.hok b o z).stay (λc v _ r=>kp c v r) (λc r=>hs _ _ r) λc xs r=>hs _ _ r
  .exact z
theorem C_(hc:X.calm=true):dY X (.builtin "sorted") (λxs H Q=>∃(d:Addr) (kvs:List (Key×V)) (ns:List Str),xs=[.ref d]/\H d=some (.dK kvs)/\kvs.map (·.1)=ns.map Sum.inr/\ns.Nodup/\ns.length<64/\
  ∀(l:Addr) (ys:List Str),H l=none->ys.Pairwise strLt->(∀x,x∈ys↔x∈ns)->Q (.ref l) (upd H l (.lst (ys.map V.str)))):=by
 intro pins s σ H xs us Q I r h;obtain⟨d,kvs,ns,rfl,hd,hk,G,B,q⟩:=h;obtain⟨u,rfl,ru⟩:=vals1 r;cases ru;obtain⟨hz,hs,vs,rel,dd⟩:=(show bG X.prog X.w H s.heap d (.dK kvs) from I.hok d _ hd);obtain⟨ep,J⟩:=dd.dictAt;have C:kvs.length=ns.length:=by
  have:=dh List.length hk;simpa using this
 have c:vs.length=ns.length:=by rw[<-rel.len,C]
 refine Calls.call_function_entry kind_sorted plain_sorted entry_sorted (args_sorted1 _) ?_;unfold Builtin.«sorted»;refine aa (m:=checkCount "sorted" 1 1 _) (ak ?_);refine aa (PySem.W.kdu_collect (A:=X.A.in1) (PySem.W.kdl_dict (knd:=c8 X.prog X.w) (kvs:=vs) (ep:=ep) hs) (I.ok.hd hc) J (by rw[c];omega) λh1 tk acc k1 a=>?_);have f:StrsAre acc.toList ns:=by
  refine BQ (by rw[bE,a.1,c]) λi v x M S=>?_;rw[d8] at M;obtain⟨k,y,T,N⟩:=a.2 i v M;obtain⟨p,U,Y,_⟩:=rel.at T;have O:(kvs.map (·.1))[i]?=some k:=by rw[bF,U];exact dh some Y
  rw[hk,bF,S] at O;have Z:k=Sum.inr x:=(Option.some.inj O).symm;rw[Z] at N;rcases gZ (show jH (Sum.inr x) v=true from N) with⟨_,_,z,_⟩|⟨x',t,z,z2⟩
  .cases z
  .cases z;exact⟨t,z2⟩
 have K:acc.toList.length<64:=by rw[bE,a.1,c];exact B
 refine aa (wpAny_newList ?_);have g:(h1.push (seqObj "list" acc.toList.toArray 0)).get? h1.objs.size=some (seqObj "list" acc.toList.toArray 0):=bK _ rfl;show wpAny _ _ _ _ _ {s with heap:=h1.push (seqObj "list" acc.toList.toArray 0),toks:=tk};refine aa (dU (gy slot_list_sort ⟨_,g,rfl⟩ entry_list_sort (list_sort_treeK strKind_oneLt g f.keysOf (λP R rest e=>keyKind_strs (by rw[<-e];exact f)) K λj a1 a2=>⟨_,rfl,?_⟩) (args_list_sort _)));obtain⟨D,q1,L,q3⟩:=sorted_out_str f a1 a2;obtain⟨e,he⟩:=sortedHeap_at (out:=(arrOf j).map (·.2)) g;have kp:∀b o,s.heap.get? b=some o->(sortedHeap (h1.push (seqObj "list" acc.toList.toArray 0)) h1.objs.size acc.toList ((arrOf j).map (·.2))).get? b=some o:=λb o q=>by
  have n:=k1 b o q;rw[sortedHeap_old (aV (aM n)) (by rw[size_push'];exact fD (aM n))];exact aR _ n
 have E:∀u,s.heap.get? h1.objs.size≠some u:=λu z=>cZ _ (aM (k1 _ _ z));have hn:H h1.objs.size=none:=by
  cases e0:H h1.objs.size with
  |none=>rfl
  |some o=>
   obtain⟨u,z⟩:=(I.hok _ _ e0).obj;exact absurd z (E u)
 refine ak ⟨_,rfl,.ref h1.objs.size,upd H h1.objs.size (.lst (D.map V.str)),?_,rfl,q _ D hn (L8 (LV q3) (L.nodup_iff.mpr G)) λx=>L.mem_iff⟩;refine I.HR (t':=tk) kp (iX.new hn _) λb o F=>?_;by_cases n:b=h1.objs.size
 .subst n
  rw[gu] at F;cases F;refine .inr ⟨E,?_⟩;refine⟨by rw[bC,L.length_eq];exact iU (bO B (by decide)),((arrOf j).map (·.2)).toList,e,B_ q1,?_⟩;rw[Array.toArray_toList];exact he
 .rw[bz n] at F
  exact .inl F
end
end L2
end
namespace MA
theorem zp{b d:Int}(g:0<b)(hd:0<d):0<b*d/(Int.gcd b d:Int)/\b∣b*d/(Int.gcd b d:Int)/\d∣b*d/(Int.gcd b d:Int)/\b*d/(Int.gcd b d:Int)<=b*d:=by
 have i:0<(Int.gcd b d:Int):=by
  have:0<Int.gcd b d:=Int.gcd_pos_of_ne_zero_right _ (by omega);omega
 obtain⟨a,c⟩:=Int.gcd_dvd_left b d;obtain⟨d',e⟩:=Int.gcd_dvd_right b d;have f:b*d/(Int.gcd b d:Int)=a*d:=by
  conv=>lhs;lhs;lhs;rw[c]
  rw[lF,Int.mul_ediv_cancel_left _ (by omega)]
 have j:b*d/(Int.gcd b d:Int)=b*d':=by
  conv=>lhs;lhs;rhs;rw[e]
  rw[jW (Int.gcd b d:Int) d',<-lF,Int.mul_ediv_cancel _ (by omega)]
 refine⟨?_,⟨d',j⟩,⟨a,by rw[f,jW]⟩,ediv_le_self _ (gw (jj g hd))⟩;rw[f];refine jj ?_ hd;rcases Int.lt_or_le 0 a with h|h
 .exact h
 .have:(Int.gcd b d:Int)*a<=0:=Int.mul_nonpos_of_nonneg_of_nonpos (gw i) h
  omega
def bot:List Rat->Int->Int
 |[],b=>b
 |x::r,b=>bot r (b*(rf x).2/(Int.gcd b (rf x).2:Int))
theorem mJ:∀(xs:List Rat) (b:Int),0<b->0<bot xs b/\b∣bot xs b/\∀x∈xs,(rf x).2∣bot xs b
 |[],b,h=>⟨h,Int.dvd_refl _,by simp⟩
 |x::r,b,h=>by
  obtain⟨h1,h2,h3,_⟩:=zp h (gq x);obtain⟨g1,g2,g3⟩:=mJ r _ h1;refine⟨g1,dvd_trans h2 g2,λy hy=>?_⟩;rcases aQ.mp hy with rfl|hy
  .exact dvd_trans h3 g2
  .exact g3 y hy
theorem bot_le(D:Int)(c:1<=D):∀(xs:List Rat) (b:Int),0<b->(∀x∈xs,(rf x).2<=D)->bot xs b<=b*D ^ xs.length
 |[],b,_,_=>by simp[bot]
 |x::r,b,h,a=>by
  obtain⟨h1,h2,h3,d⟩:=zp h (gq x);have:=bot_le D c r _ h1 λy e=>a y (bT _ e);refine dg this ?_;rw[eV,om,jW (D ^ r.length) D,<-lF];refine vF ?_ (Int.pow_nonneg (by omega));exact dg d (oh (a x (by simp)) (gw h))
def d_:List Int->Int->Int
 |[],d=>d
 |n::r,d=>d_ r (Int.gcd d n:Int)
theorem tP:∀(ns:List Int) (d:Int),0<=d->0<=d_ ns d/\d_ ns d∣d/\(∀n∈ns,d_ ns d∣n)/\∀k,k∣d->(∀n∈ns,k∣n)->k∣d_ ns d
 |[],d,h=>⟨h,Int.dvd_refl _,by simp,λk hk _=>hk⟩
 |n::r,d,h=>by
  obtain⟨g1,g2,g3,a⟩:=tP r (Int.gcd d n:Int) (by omega);refine⟨g1,dvd_trans g2 (Int.gcd_dvd_left d n),λm hm=>?_,λk hk hn=>a k (Int.dvd_coe_gcd hk (hn n (by simp))) λm hm=>hn m (bT _ hm)⟩;rcases aQ.mp hm with rfl|hm
  .exact dvd_trans g2 (Int.gcd_dvd_right d m)
  .exact g3 m hm
theorem Ge{ns:List Int}{d:Int}(h:0<=d){n:Int}(hn:n∈ns)(a:0<n):0<d_ ns d/\d_ ns d<=n:=by
 obtain⟨g1,g2,g3,b⟩:=tP ns d h;have hd:=g3 n hn;have hle:=Int.le_of_dvd a hd;refine⟨?_,hle⟩;rcases Int.lt_or_le 0 (d_ ns d) with z|z
 .exact z
 .have e:d_ ns d=0:=by omega
  rw[e] at hd;have:=Int.zero_dvd.mp hd;omega
def ups(xs:List Rat):List Int:=xs.map λx=>(rf x).1*(bot xs 1/(rf x).2)
def lw(xs:List Rat):List Int:=(ups xs).map (·/d_ (ups xs) 0)
theorem M9{xs:List Rat}{x:Rat}(a:x∈xs)(b:0<x):0<(rf x).1*(bot xs 1/(rf x).2):=by
 obtain⟨h1,_,h3⟩:=mJ xs 1 (by decide);refine jj (k9 b) ?_;exact Int.ediv_pos_of_pos_of_dvd h1 (gw (gq x)) (h3 x a)
end MA
section
open PySem PySem.Spec PyProof.Rows
namespace DP
open L2
inductive D where
 |aD|bl (b:Bool)|int (i:Int)|str (x:Str)|tup (xs:List D)|ref (r:Nat)|fl (xs:List Int)|exc (c:Str)
inductive C where
 |lst (xs:List D)|dct (kvs:List (Key×D))|i_ (o:Obj) (kvs:List (Key×D))|ins (cl:Str) (fs:List (Str×D))
abbrev Ar:=List C
abbrev Io:=Nat->Addr
section
variable(mg:av)
mutual
def RV(ι:Io)(n:Nat)(H:Hp):D->V->Prop
 |.aD,v=>v=.aD
 |.bl b,v=>v=.bl b
 |.int i,v=>v=.int i
 |.str x,v=>v=.str x
 |.tup ds,v=>∃a xs,v=.ref a/\H a=some (.tup xs)/\ao ι n H ds xs
 |.ref r,v=>r<n/\v=.ref (ι r)
 |.fl ns,v=>∃a o,v=.ref a/\H a=some (.cj o (.lst (ns.map V.int)))
 |.exc c,v=>∃a C,v=.ref a/\mg c=some (.ref C)/\H a=some (Fj a C)
def ao(ι:Io)(n:Nat)(H:Hp):List D->List V->Prop
 |[],xs=>xs=[]
 |d::ds,xs=>∃x r,xs=x::r/\RV ι n H d x/\ao ι n H ds r
end
def RK(ι:Io)(n:Nat)(H:Hp):List (Key×D)->List (Key×V)->Prop
 |[],xs=>xs=[]
 |p::ds,xs=>∃x r,xs=(p.1,x)::r/\RV mg ι n H p.2 x/\RK ι n H ds r
def RF(ι:Io)(n:Nat)(H:Hp):List (Str×D)->List (Str×V)->Prop
 |[],xs=>xs=[]
 |p::ds,xs=>∃x r,xs=(p.1,x)::r/\RV mg ι n H p.2 x/\RF ι n H ds r
def CO(ι:Io)(n:Nat)(H:Hp)(a:Addr):C->Prop
 |.lst ds=>∃xs,H a=some (.lst xs)/\ao mg ι n H ds xs
 |.dct kvs=>∃xs,H a=some (.dK xs)/\RK mg ι n H kvs xs
 |.i_ o kvs=>∃xs,H a=some (.cj o (.dK xs))/\RK mg ι n H kvs xs
 |.ins cl fs=>∃Cc dx xs,mg cl=some (.ref Cc)/\H a=some (.ins Cc dx xs)/\RF mg ι n H fs xs
structure RA(ι:Io)(H:Hp)(A:Ar):Prop where
 fk:∀r c,A[r]? =some c->CO mg ι A.length H (ι r) c
 inj:∀r q,r<A.length->q<A.length->ι r=ι q->r=q
end
def gn:HO->Bool
 |.lst _|.dK _|.cj _ (.dK _)|.ins _ _ _=>true
 |_=>false
structure Ext(A:Ar)(ι:Io)(H:Hp)(A':Ar)(ι':Io)(H':Hp):Prop where
 len:A.length<=A'.length
 ag:∀r,r<A.length->ι' r=ι r
 im:∀r,r<A.length->∃o,H (ι r)=some o/\gn o=true
 mo:∀b o,H b=some o->(∀r,r<A.length->ι r≠b)->H' b=some o
 nw:∀r,A.length<=r->r<A'.length->H (ι' r)=none
 al:∀b o,H b=some o->∃o',H' b=some o'
theorem Ext.fix{A A':Ar}{ι ι':Io}{H H':Hp}(e:Ext A ι H A' ι' H'){b:Addr}{o:HO}(a:gn o=false)(h:H b=some o):H' b=some o:=e.mo b o h λr c z=>by
 obtain⟨u,h1,h2⟩:=e.im r c;rw[z,h] at h1;cases h1;rw[a] at h2;cases h2
theorem Ext.trans{A g i:Ar}{ι e d:Io}{H H1 H2:Hp}(a:Ext A ι H g e H1)(b:Ext g e H1 i d H2):Ext A ι H i d H2 where
 len:=cP a.len b.len
 ag:=λr h=>(b.ag r (bO h a.len)).trans (a.ag r h)
 im:=a.im
 mo:=λc o h hn=>b.mo c o (a.mo c o h hn) λr j z=>by
  by_cases f:r<A.length
  .rw[a.ag r f] at z;exact hn r f z
  .have:=a.nw r (by omega) j
   rw[z,h] at this;cases this
 nw:=λr h1 h2=>by
  by_cases f:r<g.length
  .rw[b.ag r f];exact a.nw r h1 f
  .have n1:=b.nw r (by omega) h2
   cases q:H (d r) with
   |none=>rfl
   |some o=>
    obtain⟨o',h'⟩:=a.al _ o q
    rw[h'] at n1;cases n1
 al:=λc o h=>by
  obtain⟨k,h1⟩:=a.al c o h
  exact b.al c k h1
section
variable{mg:av}{A A':Ar}{ι ι':Io}{H H':Hp}
section
variable{n n':Nat}
mutual
theorem RV.ag(hn:n<=n')(e:∀r,r<n->ι' r=ι r)(i:∀b o,gn o=false->H b=some o->H' b=some o):∀(d:D) (v:V),RV mg ι n H d v->RV mg ι' n' H' d v
 |.aD,_,h=>h
 |.bl _,_,h=>h
 |.int _,_,h=>h
 |.str _,_,h=>h
 |.tup ds,v,h=>by
  obtain⟨a,xs,f,g,j⟩:=h;exact⟨a,xs,f,i _ _ rfl g,ao.ag hn e i ds xs j⟩
 |.ref r,v,h=>⟨bO h.1 hn,by rw[e r h.1];exact h.2⟩
 |.fl ns,v,h=>by
  obtain⟨a,o,f,g⟩:=h;exact⟨a,o,f,i _ _ rfl g⟩
 |.exc c,v,h=>by
  obtain⟨a,C,f,g,j⟩:=h;exact⟨a,C,f,g,i _ _ rfl j⟩
theorem ao.ag(hn:n<=n')(a:∀r,r<n->ι' r=ι r)(c:∀b o,gn o=false->H b=some o->H' b=some o):∀(ds:List D) (vs:List V),ao mg ι n H ds vs->ao mg ι' n' H' ds vs
 |[],_,h=>h
 |d::ds,vs,h=>by
  obtain⟨x,r,e,f,g⟩:=h;exact⟨x,r,e,RV.ag hn a c d x f,ao.ag hn a c ds r g⟩
end
theorem RK.ag(hn:n<=n')(a:∀r,r<n->ι' r=ι r)(c:∀b o,gn o=false->H b=some o->H' b=some o):∀(ds:List (Key×D)) (vs:List (Key×V)),RK mg ι n H ds vs->RK mg ι' n' H' ds vs
 |[],_,h=>h
 |d::ds,vs,h=>by
  obtain⟨x,r,e,f,g⟩:=h;exact⟨x,r,e,RV.ag hn a c _ x f,RK.ag hn a c ds r g⟩
theorem RF.ag(hn:n<=n')(a:∀r,r<n->ι' r=ι r)(c:∀b o,gn o=false->H b=some o->H' b=some o):∀(ds:List (Str×D)) (vs:List (Str×V)),RF mg ι n H ds vs->RF mg ι' n' H' ds vs
 |[],_,h=>h
 |d::ds,vs,h=>by
  obtain⟨x,r,e,f,g⟩:=h;exact⟨x,r,e,RV.ag hn a c _ x f,RF.ag hn a c ds r g⟩
theorem CO.ag{a:Addr}(hn:n<=n')(d:∀r,r<n->ι' r=ι r)(g:∀b o,gn o=false->H b=some o->H' b=some o)(i:∀o,H a=some o->H' a=some o):∀(c:C),CO mg ι n H a c->CO mg ι' n' H' a c
 |.lst ds,h=>by
  obtain⟨xs,e,f⟩:=h;exact⟨xs,i _ e,ao.ag hn d g ds xs f⟩
 |.dct ds,h=>by
  obtain⟨xs,e,f⟩:=h;exact⟨xs,i _ e,RK.ag hn d g ds xs f⟩
 |.i_ o ds,h=>by
  obtain⟨xs,e,f⟩:=h;exact⟨xs,i _ e,RK.ag hn d g ds xs f⟩
 |.ins cl ds,h=>by
  obtain⟨j,dx,xs,k,e,f⟩:=h;exact⟨j,dx,xs,k,i _ e,RF.ag hn d g ds xs f⟩
end
theorem RV.ext(e:Ext A ι H A' ι' H')(d:D)(v:V)(h:RV mg ι A.length H d v):RV mg ι' A'.length H' d v:=RV.ag e.len e.ag (λ_ _ m h=>e.fix m h) d v h
theorem ao.ext(e:Ext A ι H A' ι' H')(d:List D)(v:List V)(h:ao mg ι A.length H d v):ao mg ι' A'.length H' d v:=ao.ag e.len e.ag (λ_ _ m h=>e.fix m h) d v h
theorem RK.ext(e:Ext A ι H A' ι' H')(d:List (Key×D))(v:List (Key×V))(h:RK mg ι A.length H d v):RK mg ι' A'.length H' d v:=RK.ag e.len e.ag (λ_ _ m h=>e.fix m h) d v h
theorem CO.ext{a:Addr}(e:Ext A ι H A' ι' H')(b:∀o,H a=some o->H' a=some o)(c:C)(h:CO mg ι A.length H a c):CO mg ι' A'.length H' a c:=CO.ag (a:=a) (H:=H) (H':=H') e.len e.ag (λ_ _ m h=>e.fix m h) b c h
theorem ao.length:∀{ds:List D} {vs:List V} {n:Nat},ao mg ι n H ds vs->ds.length=vs.length
 |[],vs,_,h=>by have h':vs=[]:=h;rw[h'];rfl
 |d::ds,vs,n,h=>by
  obtain⟨x,r,rfl,_,a⟩:=h;simp[ao.length a]
theorem ao.get:∀{ds:List D} {vs:List V} {n i:Nat} {d:D},ao mg ι n H ds vs->ds[i]?=some d->∃v,vs[i]?=some v/\RV mg ι n H d v
 |[],_,_,_,_,_,e=>by simp at e
 |d::ds,vs,n,0,d',h,e=>by
  obtain⟨x,r,rfl,a,_⟩:=h;simp at e;subst e;exact⟨x,rfl,a⟩
 |d::ds,vs,n,i+1,d',h,e=>by
  obtain⟨x,r,rfl,_,b⟩:=h;obtain⟨v,h1,h2⟩:=ao.get (i:=i) b (by simpa using e);exact⟨v,by simpa using h1,h2⟩
theorem ao.app:∀{ds es:List D} {vs ws:List V} {n:Nat},ao mg ι n H ds vs->ao mg ι n H es ws->ao mg ι n H (ds++es) (vs++ws)
 |[],_,vs,_,_,h,q=>by have h':vs=[]:=h;rw[h'];exact q
 |d::ds,es,vs,ws,n,h,q=>by
  obtain⟨x,r,rfl,a,b⟩:=h;exact⟨x,r++ws,rfl,a,ao.app b q⟩
theorem ao.take:∀{ds:List D} {vs:List V} {n:Nat} (k:Nat),ao mg ι n H ds vs->ao mg ι n H (ds.take k) (vs.take k)
 |ds,vs,n,0,h=>by simp[ao]
 |[],vs,n,k+1,h=>by have h':vs=[]:=h;rw[h'];simp[ao]
 |d::ds,vs,n,k+1,h=>by
  obtain⟨x,r,rfl,a,b⟩:=h;exact⟨x,r.take k,rfl,a,ao.take k b⟩
theorem ao.drop:∀{ds:List D} {vs:List V} {n:Nat} (k:Nat),ao mg ι n H ds vs->ao mg ι n H (ds.drop k) (vs.drop k)
 |ds,vs,n,0,h=>by simpa using h
 |[],vs,n,k+1,h=>by have h':vs=[]:=h;rw[h'];simp[ao]
 |d::ds,vs,n,k+1,h=>by
  obtain⟨x,r,rfl,b,a⟩:=h;exact ao.drop k a
theorem RA.im(R:RA mg ι H A):∀r,r<A.length->∃o,H (ι r)=some o/\gn o=true:=λr h=>by
 obtain⟨c',b⟩:∃c',A[r]?=some c':=⟨A[r],by rw[aZ h]⟩;have:=R.fk r c' b;cases c' with
 |lst ds=>obtain⟨xs,a,_⟩:=this;exact⟨_,a,rfl⟩
 |dct ds=>obtain⟨xs,a,_⟩:=this;exact⟨_,a,rfl⟩
 |i_ o ds=>obtain⟨xs,a,_⟩:=this;exact⟨_,a,rfl⟩
 |ins cl ds=>obtain⟨c,dx,xs,_,a,_⟩:=this;exact⟨_,a,rfl⟩
theorem RA.refl(R:RA mg ι H A):Ext A ι H A ι H:=⟨aF _,λ_ _=>rfl,R.im,λ_ _ h _=>h,λr h1 h2=>absurd h2 (by omega),λ_ o h=>⟨o,h⟩⟩
theorem RA.yt(R:RA mg ι H A){p:Addr}{o:HO}(a:H p=none):Ext A ι H A ι (upd H p o):=
 ⟨aF _,λ_ _=>rfl,R.im,λb u h _=>by rw[bz (dP h a)];exact h,λr h1 h2=>absurd h2 (by omega),λb u h=>⟨u,by rw[bz (dP h a)];exact h⟩⟩
theorem RA.tK(R:RA mg ι H A){p:Addr}{o:HO}{c:C}(a:H p=none):Ext A ι H (A++[c]) (λr=>if r=A.length then p else ι r) (upd H p o):=
 ⟨by simp,λr h=>by
  show(if r=A.length then p else ι r)=ι r;rw[ai (by omega)],R.im,λb u h _=>by rw[bz (dP h a)];exact h,λr h1 h2=>by
  have e:r=A.length:=by simp at h2;omega
  show H (if r=A.length then p else ι r)=none;rw[aj e];exact a,λb u h=>⟨u,by rw[bz (dP h a)];exact h⟩⟩
theorem RA.tL(R:RA mg ι H A){r:Nat}{o:HO}{c:C}(d:r<A.length):Ext A ι H (A.set r c) ι (upd H (ι r) o):=
 ⟨by simp,λ_ _=>rfl,R.im,λb u h hn=>by rw[bz (λe=>hn r d e.symm)];exact h,λq h1 h2=>absurd h2 (by simp;omega),λb u h=>by
  by_cases a:b=ι r
  .subst a;exact⟨o,gu⟩
  .exact⟨u,by rw[bz a];exact h⟩⟩
theorem RA.fix(R:RA mg ι H A)(e:Ext A ι H A ι H')(k:∀b o,H b=some o->H' b=some o):RA mg ι H' A:=⟨λr c h=>CO.ext e (λo q=>k _ o q) c (R.fk r c h),R.inj⟩
theorem RA.push{p:Addr}{o:HO}{c:C}(R:RA mg ι H A)(e:H p=none)(hc:CO mg (λr=>if r=A.length then p else ι r) (A.length+1) (upd H p o) p c):
  RA mg (λr=>if r=A.length then p else ι r) (upd H p o) (A++[c])/\Ext A ι H (A++[c]) (λr=>if r=A.length then p else ι r) (upd H p o):=by
 have E:Ext A ι H (A++[c]) (λr=>if r=A.length then p else ι r) (upd H p o):=R.tK e;have tr:∀r,r<A.length->∃u,H (ι r)=some u:=λr h=>by
  obtain⟨c',f⟩:∃c',A[r]?=some c':=⟨A[r],by rw[aZ h]⟩;have:=R.fk r c' f;cases c' with
  |lst ds=>obtain⟨xs,b,_⟩:=this;exact⟨_,b⟩
  |dct ds=>obtain⟨xs,b,_⟩:=this;exact⟨_,b⟩
  |i_ o ds=>obtain⟨xs,b,_⟩:=this;exact⟨_,b⟩
  |ins cl ds=>obtain⟨j,dx,xs,_,b,_⟩:=this;exact⟨_,b⟩
 refine⟨⟨λr c' h=>?_,λr q g hq h=>?_⟩,E⟩
 .by_cases g:r<A.length
  .rw[fZ g] at h
   have:=CO.ext E (a:=ι r) (λo' q=>by rw[bz (dP q e)];exact q) c' (R.fk r c' h);show CO mg _ _ _ (if r=A.length then p else ι r) c';rw[ai (by omega)];exact this
  .have i:r=A.length:=by
    have:=(bY.mp h).1;simp at this;omega
   subst i;simp at h;subst h;show CO mg _ _ _ (if A.length=A.length then p else ι A.length) c;rw[aj rfl];simpa using hc
 .simp at g hq
  have h':(if r=A.length then p else ι r)=(if q=A.length then p else ι q):=h;by_cases h1:r=A.length
  .by_cases h2:q=A.length
   .rw[h1,h2]
   .rw[aj h1,ai h2] at h'
    obtain⟨u,d⟩:=tr q (by omega);rw[<-h',e] at d;cases d
  .by_cases h2:q=A.length
   .rw[ai h1,aj h2] at h'
    obtain⟨u,d⟩:=tr r (by omega);rw[h',e] at d;cases d
   .rw[ai h1,ai h2] at h'
    exact R.inj r q (by omega) (by omega) h'
theorem RA.put{r:Nat}{u o:HO}{c c':C}(R:RA mg ι H A)(g:A[r]?=some c)(l:H (ι r)=some u)(m:gn u=true)(hc:CO mg ι A.length (upd H (ι r) o) (ι r) c'):
  RA mg ι (upd H (ι r) o) (A.set r c')/\Ext A ι H (A.set r c') ι (upd H (ι r) o):=by
 have f:=(bY.mp g).1;have E:Ext A ι H (A.set r c') ι (upd H (ι r) o):=R.tL f;refine⟨⟨λq d h=>?_,λa b i j=>R.inj a b (by simpa using i) (by simpa using j)⟩,E⟩;by_cases hq:q=r
 .subst hq
  rw[lX f] at h;cases h;simpa using hc
 .rw[oM (Ne.symm hq)] at h
  have k:=(bY.mp h).1;have:=CO.ext E (a:=ι q) (λo' z=>by rw[bz (λe=>hq (R.inj q r k f e))];exact z) d (R.fk q d h);simpa using this
end
abbrev bA:=List (Option D)
def lk:bA->Nat->Option D
 |[],_=>none
 |x::_,0=>x
 |_::r,i+1=>lk r i
theorem qb:∀(τ:bA) (i:Nat),lk τ i=(τ[i]?).join
 |[],i=>by simp[lk]
 |x::r,0=>by simp[lk]
 |x::r,i+1=>by simp[lk,qb r i]
structure En where
 A:Ar
 ι:Io
 H:Hp
structure RS(mg:av)(ι:Io)(n:Nat)(H:Hp)(τ:bA)(σ:L2.St):Prop where
 len:τ.length=σ.length
 at':∀i d,lk τ i=some d->∃v,σ[i]?=some (some v)/\RV mg ι n H d v
structure cK(mg:av)(N:En)(A:Ar)(ι:Io)(τ:bA)(σ:L2.St)(H:Hp):Prop where
 ra:RA mg ι H A
 rs:RS mg ι A.length H τ σ
 ex:Ext N.A N.ι N.H A ι H
abbrev DK:=D->Ar->Prop
abbrev aN:=bA->Ar->DK->Prop
abbrev di:=bA->Ar->(Bool->Ar->Prop)->Prop
abbrev cQ:=bA->Ar->(List D->Ar->Prop)->Prop
def Kt(mg:av)(A:Ar)(ι:Io)(H:Hp)(R:DK)(Q:VK):Prop:=∀v A' ι' H' u,R v A'->Ext A ι H A' ι' H'->RA mg ι' H' A'->RV mg ι' A'.length H' v u->Q u H'
def kj(mg:av)(A:Ar)(ι:Io)(H:Hp)(R:Bool->Ar->Prop)(Q:Bool->Hp->Prop):Prop:=∀v A' ι' H',R v A'->Ext A ι H A' ι' H'->RA mg ι' H' A'->Q v H'
def CH(mg:av)(A:Ar)(ι:Io)(H:Hp)(R:List D->Ar->Prop)(Q:List V->Hp->Prop):Prop:=∀v A' ι' H' u,R v A'->Ext A ι H A' ι' H'->RA mg ι' H' A'->ao mg ι' A'.length H' v u->Q u H'
def up(mg:av)(N:En)(m:aN):TE:=λσ H Q=>∃A ι τ R,cK mg N A ι τ σ H/\m τ A R/\Kt mg A ι H R Q
def b7(mg:av)(N:En)(m:di):TT:=λσ H Q=>∃A ι τ R,cK mg N A ι τ σ H/\m τ A R/\kj mg A ι H R Q
def eS(mg:av)(N:En)(m:cQ):TA:=λσ H Q=>∃A ι τ R,cK mg N A ι τ σ H/\m τ A R/\CH mg A ι H R Q
section
variable{mg:av}{N:En}{A A':Ar}{ι ι':Io}{τ:bA}{σ:L2.St}{H H':Hp}
theorem RS.ext(e:Ext A ι H A' ι' H')(r:RS mg ι A.length H τ σ):RS mg ι' A'.length H' τ σ:=⟨r.len,λi d h=>by
 obtain⟨v,h1,h2⟩:=r.at' i d h;exact⟨v,h1,RV.ext e d v h2⟩⟩
theorem cK.next(S:cK mg N A ι τ σ H)(e:Ext A ι H A' ι' H')(r:RA mg ι' H' A'):cK mg N A' ι' τ σ H':=⟨r,S.rs.ext e,S.ex.trans e⟩
theorem Kt.from{R:DK}{Q:VK}(k:Kt mg A ι H R Q)(e:Ext A ι H A' ι' H'):Kt mg A' ι' H' R Q:=λv b a H2 u q c=>k v b a H2 u q (e.trans c)
theorem kj.from{R:Bool->Ar->Prop}{Q:Bool->Hp->Prop}(k:kj mg A ι H R Q)(e:Ext A ι H A' ι' H'):kj mg A' ι' H' R Q:=λv b a H2 q c=>k v b a H2 q (e.trans c)
theorem Kt.here{R:DK}{Q:VK}{d:D}{v:V}(k:Kt mg A ι H R Q)(r:RA mg ι H A)(q:R d A)(h:RV mg ι A.length H d v):Q v H:=k d A ι H v q r.refl r h
theorem kj.here{R:Bool->Ar->Prop}{Q:Bool->Hp->Prop}{b:Bool}(k:kj mg A ι H R Q)(r:RA mg ι H A)(q:R b A):Q b H:=k b A ι H q r.refl r
end
section
variable{X:Cx}{e:Expr}
theorem cT{t t':TE}(h:PE X e t)(w:∀σ H Q,t' σ H Q->t σ H Q):PE X e t':=λpins s σ H Q I q=>h pins s σ H Q I (w σ H Q q)
theorem pN{t t':TT}(h:PT X e t)(w:∀σ H Q,t' σ H Q->t σ H Q):PT X e t':=λpins s σ H Q I q=>h pins s σ H Q I (w σ H Q q)
theorem yi{t t':TT}(h:PW X e t)(w:∀σ H Q,t' σ H Q->t σ H Q):PW X e t':=λwhole pins s σ H Q I q=>h whole pins s σ H Q I (w σ H Q q)
theorem xT{es:List Expr}{t t':TA}(h:PA X es t)(w:∀σ H Q,t' σ H Q->t σ H Q):PA X es t':=λpos pins s σ H Q I q=>h pos pins s σ H Q I (w σ H Q q)
theorem gR{st:Stmt}{t t':TS}(h:PS X st t)(w:∀D σ H,t' D σ H->t D σ H):PS X st t':=λpins s σ H D I q=>h pins s σ H D I (w D σ H q)
theorem yh{st:List Stmt}{t t':TS}(h:cB X st t)(w:∀D σ H,t' D σ H->t D σ H):cB X st t':=λpins s σ H D I q=>h pins s σ H D I (w D σ H q)
end
def sR(i:Nat):aN:=λτ A R=>match lk τ i with
 |some v=>R v A
 |none=>False
def dC(d:D):aN:=λ_ A R=>R d A
section
variable{X:Cx}{N:En}{pos:Pos}
theorem Ew{i:Nat}{x:Str}(b:X.N[i]?=some x)(c:mE X.env.scope x)(hd:(x==("__debug__":Str))=false:=by decide)(a:(x==("__classdict__":Str))=false:=by decide):PE X (.Name x pos) (up X.mg N (sR i)):=
 cT (JR b c hd a) λσ H Q h=>by
  obtain⟨A,ι,τ,R,S,h,k⟩:=h;unfold sR at h;split at h
  .rename_i v e
   obtain⟨u,h1,h2⟩:=S.rs.at' i v e;exact⟨u,h1,k.here S.ra h h2⟩
  .exact h.elim
theorem mS{e:Expr}{d:D}{v:V}(h:PE X e (tC v))(r:∀ι n H,RV X.mg ι n H d v):PE X e (up X.mg N (dC d)):=
 cT h λσ H Q h=>by
  obtain⟨A,ι,τ,R,S,h,k⟩:=h;exact k.here S.ra h (r _ _ _)
theorem au{i j}:PE X (.Constant (.int i) j pos) (up X.mg N (dC (.int i))):=mS JE λ_ _ _=>rfl
theorem jC{b j}:PE X (.Constant (.bool b) j pos) (up X.mg N (dC (.bl b))):=mS Js λ_ _ _=>rfl
theorem pI{j}:PE X (.Constant .none j pos) (up X.mg N (dC .aD)):=mS JH λ_ _ _=>rfl
theorem bx{x j}:PE X (.Constant (.str x) j pos) (up X.mg N (dC (.str x))):=mS JO λ_ _ _=>rfl
theorem pJ{x:Str}{i:Int}{t:Tok}(a:X.mg x=some (.int i t))(b:Gl X x:=by rfl)(hd:(x==("__debug__":Str))=false:=by decide):PE X (.Name x pos) (up X.mg N (dC (.int i))):=
 mS (JC (v:=.int i) b a ⟨_,rfl⟩ hd) λ_ _ _=>rfl
end
abbrev cW:=D->D->Ar->DK->Prop
def cR(mg:av)(r:R2)(f:cW):Prop:=∀x y A ι H u v R Q,RA mg ι H A->RV mg ι A.length H x u->RV mg ι A.length H y v->f x y A R->Kt mg A ι H R Q->r u v H Q
def cY(f:cW)(ma mb:aN):aN:=λτ A R=>ma τ A λx A1=>mb τ A1 λy A2=>f x y A2 R
section
variable{X:Cx}{N:En}{pos:Pos}{a b c:Expr}{ma mb mc:aN}{f f':cW}{r r':R2}
theorem rq(h:cR X.mg r f){σ:L2.St}{H:Hp}{Q:VK}(q:up X.mg N (cY f ma mb) σ H Q):nU r (up X.mg N ma) (up X.mg N mb) σ H Q:=by
 obtain⟨A,ι,τ,R,S,q,k⟩:=q;have q:ma τ A (λx a=>mb τ a λy b=>f x y b R):=q;refine⟨A,ι,τ,_,S,q,λx a c H1 u i e j l=>?_⟩;refine⟨a,c,τ,_,S.next e j,i,λy b d H2 v m g n v2=>?_⟩;exact h x y b d H2 u v R Q n (RV.ext g x u l) v2 m (k.from (e.trans g))
theorem kG{op:Operator}(c:aT X (binaryOp op) r)(hd:cR X.mg r f)(d:PE X a (up X.mg N ma))(e:PE X b (up X.mg N mb)):PE X (.BinOp a op b pos) (up X.mg N (cY f ma mb)):=
 cT (JK c d e) λ_ _ _ h=>rq hd h
theorem sS{op:CmpOp}(c:aT X (compareOp op) r)(hd:cR X.mg r f)(d:PE X a (up X.mg N ma))(e:PE X b (up X.mg N mb))(g:behindInMarks op b=false):PE X (.Compare a [op] [b] pos) (up X.mg N (cY f ma mb)):=
 cT (Jz c d e g) λ_ _ _ h=>rq hd h
def gh(m:aN):di:=λτ A R=>m τ A λx A1=>match x with
 |.bl k=>R k A1
 |_=>False
theorem vA{t:TE}{m:aN}(d:∀σ H Q,up X.mg N m σ H Q->t σ H Q){σ:L2.St}{H:Hp}{Q:Bool->Hp->Prop}(q:b7 X.mg N (gh m) σ H Q):vj t σ H Q:=by
 obtain⟨A,ι,τ,R,S,q,k⟩:=q;refine d _ _ _ ⟨A,ι,τ,_,S,q,λx e a H1 u c f g h=>?_⟩;cases x with
 |bl b=>exact⟨b,h,k b e a H1 c f g⟩
 |_=>exact c.elim
theorem kJ{op:CmpOp}(c:aT X (compareOp op) r)(hd:cR X.mg r f)(d:PE X a (up X.mg N ma))(e:PE X b (up X.mg N mb))(g:behindInMarks op b=false):PT X (.Compare a [op] [b] pos) (b7 X.mg N (gh (cY f ma mb))):=
 pN (Kr c d e g) λ_ _ _ h=>vA (λ_ _ _ h=>rq hd h) h
def mR(f f':cW)(ma mb mc:aN):aN:=λτ A R=>ma τ A λx A1=>mb τ A1 λy A2=>f x y A2 λz A3=>match z with
 |.bl k=>cond k (mc τ A3 λw A4=>f' y w A4 R) (R (.bl false) A3)
 |_=>False
theorem B3(h:cR X.mg r f)(h':cR X.mg r' f'){σ:L2.St}{H:Hp}{Q:VK}(q:up X.mg N (mR f f' ma mb mc) σ H Q):vg r r' (up X.mg N ma) (up X.mg N mb) (up X.mg N mc) σ H Q:=by
 obtain⟨A,ι,τ,R,S,q,k⟩:=q;refine⟨A,ι,τ,_,S,q,λx s e H1 u t a m B=>?_⟩;refine⟨s,e,τ,_,S.next a m,t,λy C g H2 v D c n v2=>?_⟩;refine h x y C g H2 u v _ _ n (RV.ext c x u B) v2 D λz E i L w j d o F=>?_;cases z with
 |bl b=>
  refine⟨b,F,?_⟩;cases b with
  |true=>
   rw[aj rfl];refine⟨E,i,τ,_,((S.next a m).next c n).next d o,j,λz G l I w J p K v4=>?_⟩;exact h' y z G l I v w R Q K (RV.ext (d.trans p) y v v2) v4 J (k.from (((a.trans c).trans d).trans p))
  |false=>
   rw[ai bP];exact(k.from ((a.trans c).trans d)).here o j rfl
 |_=>exact j.elim
theorem Ej{op d:CmpOp}(i:aT X (compareOp op) r)(e:aT X (compareOp d) r')(hd:cR X.mg r f)(g:cR X.mg r' f')(j:PE X a (up X.mg N ma))(k:PE X b (up X.mg N mb))(hc:PE X c (up X.mg N mc))
  (l:lastMarks [op,d] [b,c]=false:=by with_unfolding_all rfl):PE X (.Compare a [op,d] [b,c] pos) (up X.mg N (mR f f' ma mb mc)):=
 cT (Jy i e j k hc l) λ_ _ _ h=>B3 hd g h
theorem EV{op d:CmpOp}(i:aT X (compareOp op) r)(e:aT X (compareOp d) r')(hd:cR X.mg r f)(g:cR X.mg r' f')(j:PE X a (up X.mg N ma))(k:PE X b (up X.mg N mb))(hc:PE X c (up X.mg N mc))
  (l:lastMarks [op,d] [b,c]=false:=by with_unfolding_all rfl):PT X (.Compare a [op,d] [b,c] pos) (b7 X.mg N (gh (mR f f' ma mb mc))):=
 pN (Kq i e j k hc l) λ_ _ _ h=>vA (λ_ _ _ h=>B3 hd g h) h
theorem gS{m:aN}(h:PE X a (up X.mg N m))(b:∀whole,isTrue a X.env whole=(do let v <-whole;standAt a.pos;holding [v] (truthy v)):=by intro _;rfl):PT X a (b7 X.mg N (gh m)):=
 pN (Ku h b) λ_ _ _ q=>vA (λ_ _ _ h=>h) q
def DH(t u:di):di:=λτ A R=>t τ A λc A1=>cond c (u τ A1 R) (R false A1)
def DU(t u:di):di:=λτ A R=>t τ A λc A1=>cond c (R true A1) (u τ A1 R)
def DS(t:di):di:=λτ A R=>t τ A λc A1=>R (!c) A1
variable{tA tB:di}{rest:List Expr}
theorem EY(b:PT X a (b7 X.mg N tA)):PW X (.BoolOp .And [a] pos) (b7 X.mg N tA):=pw_and1 b
theorem i9(b:PT X a (b7 X.mg N tA)):PW X (.BoolOp .Or [a] pos) (b7 X.mg N tA):=pw_or1 b
theorem EX(g:PT X a (b7 X.mg N tA))(h:PW X (.BoolOp .And (b::rest) pos) (b7 X.mg N tB)):PW X (.BoolOp .And (a::b::rest) pos) (b7 X.mg N (DH tA tB)):=
 yi (pw_and g h) λσ H Q q=>by
  obtain⟨A,ι,τ,R,S,q,k⟩:=q;refine⟨A,ι,τ,_,S,q,λx i c H1 e d f=>?_⟩;cases x with
  |true=>rw[aj rfl];exact⟨i,c,τ,_,S.next d f,e,k.from d⟩
  |false=>rw[ai bP];exact(k.from d).here f e
theorem gU(g:PT X a (b7 X.mg N tA))(h:PW X (.BoolOp .Or (b::rest) pos) (b7 X.mg N tB)):PW X (.BoolOp .Or (a::b::rest) pos) (b7 X.mg N (DU tA tB)):=
 yi (pw_or g h) λσ H Q q=>by
  obtain⟨A,ι,τ,R,S,q,k⟩:=q;refine⟨A,ι,τ,_,S,q,λx i c H1 e d f=>?_⟩;cases x with
  |true=>rw[aj rfl];exact(k.from d).here f e
  |false=>rw[ai bP];exact⟨i,c,τ,_,S.next d f,e,k.from d⟩
theorem i7(b:PT X a (b7 X.mg N tA)):PT X (.UnaryOp .Not a pos) (b7 X.mg N (DS tA)):=
 pN (Ks b) λσ H Q q=>by
  obtain⟨A,ι,τ,R,S,q,k⟩:=q;exact⟨A,ι,τ,_,S,q,λx g c H1 d e f=>(k.from e).here f d⟩
def DI(ma mb:aN):aN:=λτ A R=>ma τ A λx A1=>match x with
 |.bl c=>cond c (mb τ A1 R) (R (.bl false) A1)
 |_=>False
def DV(ma mb:aN):aN:=λτ A R=>ma τ A λx A1=>match x with
 |.bl c=>cond c (R (.bl true) A1) (mb τ A1 R)
 |_=>False
def DT(ma:aN):aN:=λτ A R=>ma τ A λx A1=>match x with
 |.bl c=>R (.bl (!c)) A1
 |_=>False
theorem sV{op}(h:PE X a (up X.mg N ma)):PE X (.BoolOp op [a] pos) (up X.mg N ma):=JJ h
theorem xV(h:PE X a (up X.mg N ma))(i:PE X (.BoolOp .And (b::rest) pos) (up X.mg N mb)):PE X (.BoolOp .And (a::b::rest) pos) (up X.mg N (DI ma mb)):=
 cT (Jr h i) λσ H Q q=>by
  obtain⟨A,ι,τ,R,S,q,k⟩:=q;refine⟨A,ι,τ,_,S,q,λx j d H1 u e f g l=>?_⟩;cases x with
  |bl c=>
   refine⟨c,l,?_⟩;cases c with
   |true=>rw[aj rfl];exact⟨j,d,τ,_,S.next f g,e,k.from f⟩
   |false=>rw[ai bP];exact(k.from f).here g e rfl
  |_=>exact e.elim
theorem Er(h:PE X a (up X.mg N ma))(i:PE X (.BoolOp .Or (b::rest) pos) (up X.mg N mb)):PE X (.BoolOp .Or (a::b::rest) pos) (up X.mg N (DV ma mb)):=
 cT (JL h i) λσ H Q q=>by
  obtain⟨A,ι,τ,R,S,q,k⟩:=q;refine⟨A,ι,τ,_,S,q,λx j d H1 u e f g l=>?_⟩;cases x with
  |bl c=>
   refine⟨c,l,?_⟩;cases c with
   |true=>rw[aj rfl];exact(k.from f).here g e rfl
   |false=>rw[ai bP];exact⟨j,d,τ,_,S.next f g,e,k.from f⟩
  |_=>exact e.elim
theorem Ep(d:PE X a (up X.mg N ma)):PE X (.UnaryOp .Not a pos) (up X.mg N (DT ma)):=
 cT (JI d) λσ H Q q=>by
  obtain⟨A,ι,τ,R,S,q,k⟩:=q;refine⟨A,ι,τ,_,S,q,λx i e H1 u b f g h=>?_⟩;cases x with
  |bl c=>exact⟨c,h,(k.from f).here g b rfl⟩
  |_=>exact b.elim
def DM(t:di)(ma mb:aN):aN:=λτ A R=>t τ A λc A1=>cond c (ma τ A1 R) (mb τ A1 R)
theorem Em(hc:PT X c (b7 X.mg N tA))(i:PE X a (up X.mg N ma))(j:PE X b (up X.mg N mb)):PE X (.IfExp c a b pos) (up X.mg N (DM tA ma mb)):=
 cT (JD hc i j) λσ H Q q=>by
  obtain⟨A,ι,τ,R,S,q,k⟩:=q;refine⟨A,ι,τ,_,S,q,λx f d H1 g e h=>?_⟩;cases x with
  |true=>rw[aj rfl];exact⟨f,d,τ,_,S.next e h,g,k.from e⟩
  |false=>rw[ai bP];exact⟨f,d,τ,_,S.next e h,g,k.from e⟩
end
def DR:cQ:=λ_ A R=>R [] A
def DJ(m:aN)(n:cQ):cQ:=λτ A R=>m τ A λx A1=>n τ A1 λxs A2=>R (x::xs) A2
def DY(n:cQ):aN:=λτ A R=>n τ A λxs A1=>xs.length<=sizeLine/\R (.tup xs) A1
def DN(n:cQ):aN:=λτ A R=>n τ A λxs A1=>xs.length<=sizeLine/\R (.ref A1.length) (A1++[.lst xs])
section
variable{X:Cx}{N:En}{pos:Pos}{e:Expr}{es:List Expr}{m:aN}{n:cQ}
theorem aq:PA X [] (eS X.mg N DR):=xT z6 λσ H Q q=>by
 obtain⟨A,ι,τ,R,S,q,k⟩:=q;exact k [] A ι H [] q S.ra.refl S.ra rfl
theorem af(f:PE X e (up X.mg N m))(g:PA X es (eS X.mg N n))(hs:starEach (e::es) X.env=(false,eval e X.env)::starEach es X.env:=by rfl):PA X (e::es) (eS X.mg N (DJ m n)):=
 xT (uO f g hs) λσ H Q q=>by
  obtain⟨A,ι,τ,R,S,q,k⟩:=q;refine⟨A,ι,τ,_,S,q,λx h a H1 u i c j l=>?_⟩;refine⟨h,a,τ,_,S.next c j,i,λy o b H2 v p d r v2=>?_⟩;exact k _ o b H2 _ p (c.trans d) r ⟨u,v,rfl,RV.ext d x u l,v2⟩
theorem uF{mg:av}{A:Ar}{ι:Io}{H:Hp}{R:DK}{Q:VK}{ds:List D}{xs:List V}{p:Addr}(k:Kt mg A ι H R Q)(r:RA mg ι H A)(h:ao mg ι A.length H ds xs)(q:R (.tup ds) A)(a:H p=none):Q (.ref p) (upd H p (.tup xs)):=by
 have E:Ext A ι H A ι (upd H p (.tup xs)):=r.yt a;exact k _ A ι _ _ q E (r.fix E λb o z=>by rw[bz (dP z a)];exact z) ⟨p,xs,rfl,gu,ao.ext E ds xs h⟩
theorem nC{mg:av}{A:Ar}{ι:Io}{H:Hp}{R:DK}{Q:VK}{ds:List D}{xs:List V}{p:Addr}(k:Kt mg A ι H R Q)(r:RA mg ι H A)(h:ao mg ι A.length H ds xs)(q:R (.ref A.length) (A++[.lst ds]))(a:H p=none):Q (.ref p) (upd H p (.lst xs)):=by
 have E:Ext A ι H (A++[.lst ds]) (λr=>if r=A.length then p else ι r) (upd H p (.lst xs)):=r.tK a;obtain⟨b,d⟩:=r.push (c:=.lst ds) (o:=.lst xs) a ⟨xs,gu,by simpa using ao.ext E ds xs h⟩;refine k _ _ _ _ _ q d b ⟨by simp,?_⟩;show V.ref p=V.ref (if A.length=A.length then p else ι A.length);rw[aj rfl]
theorem cS{c}(h:PA X es (eS X.mg N n)):PE X (.Tuple es c pos) (up X.mg N (DY n)):=cT (JP h) λσ H Q q=>by
 obtain⟨A,ι,τ,R,S,q,k⟩:=q;refine⟨A,ι,τ,_,S,q,λx i d H1 u a e f b=>?_⟩;exact⟨by rw[<-ao.length b];exact a.1,λp g=>uF (k.from e) f b a.2 g⟩
theorem fy(h:PA X es (eS X.mg N n)):PE X (.List es pos) (up X.mg N (DN n)):=cT (JG h) λσ H Q q=>by
 obtain⟨A,ι,τ,R,S,q,k⟩:=q;refine⟨A,ι,τ,_,S,q,λx g c H1 u a d e b=>?_⟩;exact⟨by rw[<-ao.length b];exact a.1,λp f=>nC (k.from d) e b a.2 f⟩
end
section
variable{mg:av}{K:Frag}{A:Ar}{ι:Io}{H:Hp}
theorem RA.lst(r:RA mg ι H A){q:Nat}{ds:List D}(h:A[q]?=some (.lst ds)):∃xs,H (ι q)=some (.lst xs)/\ao mg ι A.length H ds xs:=r.fk q _ h
theorem RA.dct(r:RA mg ι H A){q:Nat}{ds:List (Key×D)}(h:A[q]?=some (.dct ds)):∃xs,H (ι q)=some (.dK xs)/\RK mg ι A.length H ds xs:=r.fk q _ h
theorem RA.i_(r:RA mg ι H A){q:Nat}{o:Obj}{ds:List (Key×D)}(h:A[q]?=some (.i_ o ds)):∃xs,H (ι q)=some (.cj o (.dK xs))/\RK mg ι A.length H ds xs:=r.fk q _ h
theorem ao.ints:∀(ns:List Int) {n:Nat},ao mg ι n H (ns.map D.int) (ns.map V.int)
 |[],_=>rfl
 |i::r,n=>⟨_,_,rfl,rfl,ao.ints r⟩
theorem ao.zR{n:Nat}{ds:List D}(h:ao mg ι n H ds []):ds=[]:=by
 cases ds with
 |nil=>rfl
 |cons d r=>obtain⟨x,r,e,_⟩:=h;cases e
end
abbrev An(K:Frag):R2:=λx y H Q=>fS (λi j=>.int (i+j)) x y H Q\/(∃i j,x=.str i/\y=.str j/\i.length+j.length<=sizeLine/\Q (.str (i++j)) H)\/As K x y H Q\/Aq x y H Q
theorem IM{X:Cx}:aT X (binaryOp .Add) (An X.K):=IX.or (IY.or (I0.or IZ))
@[irreducible] def o9(r q:Nat)(A:Ar)(R:DK):Prop:=match A[r]?,A[q]? with
 |some (.lst xs),some (.lst ys)=>xs.length+ys.length<=sizeLine/\R (.ref A.length) (A++[.lst (xs++ys)])
 |_,_=>False
def sy:cW:=λx y A R=>match x,y with
 |.int i,.int j=>R (.int (i+j)) A
 |.str a,.str b=>a.length+b.length<=sizeLine/\R (.str (a++b)) A
 |.tup xs,.tup ys=>xs.length+ys.length<=sizeLine/\R (.tup (xs++ys)) A
 |.ref r,.ref q=>o9 r q A R
 |_,_=>False
theorem D0{mg:av}{K:Frag}:cR mg (An K) sy:=by
 intro x y A ι H u v R Q ra e f h k;unfold sy at h;split at h
 .cases e;cases f
  exact .inl ⟨_,_,rfl,rfl,k.here ra h rfl⟩
 .cases e;cases f
  exact .inr (.inl ⟨_,_,rfl,rfl,h.1,k.here ra h.2 rfl⟩)
 .obtain⟨a,xs,rfl,g,c⟩:=e
  obtain⟨b,ys,rfl,i,d⟩:=f;refine .inr (.inr (.inl ⟨a,b,xs,ys,rfl,rfl,bf.of g,bf.of i,by rw[<-ao.length c,<-ao.length d];exact h.1,λz=>?_,λ_ z=>?_,λ_ _ p j=>uF k ra (c.app d) h.2 j⟩))
  .subst z
   obtain rfl:=ao.zR c;exact k.here ra h.2 ⟨b,ys,rfl,i,d⟩
  .subst z
   obtain rfl:=ao.zR d;exact k.here ra h.2 ⟨a,xs,rfl,g,by rw[fG];exact c⟩
 .rename_i r q
  unfold o9 at h;split at h
  .rename_i xs ys g i
   obtain⟨l,h1,c⟩:=ra.lst g;obtain⟨vs,h2,d⟩:=ra.lst i;obtain⟨_,rfl⟩:=e;obtain⟨_,rfl⟩:=f;exact .inr (.inr (.inr ⟨_,_,l,vs,rfl,rfl,h1,h2,by rw[<-ao.length c,<-ao.length d];exact h.1,λp j=>nC k ra (c.app d) h.2 j⟩))
  .exact h.elim
 .exact h.elim
def intD(C:Int->Int->Prop)(g:Int->Int->D):cW:=λx y A R=>match x,y with
 |.int i,.int j=>C i j/\R (g i j) A
 |_,_=>False
def p6(g:Int->Int->D):cW:=λx y A R=>match x,y with
 |.int i,.int j=>R (g i j) A
 |_,_=>False
theorem pq{mg:av}{C:Int->Int->Prop}{g:Int->Int->V}{g':Int->Int->D}(a:∀i j ι n H,RV mg ι n H (g' i j) (g i j)):cR mg (rI C g) (intD C g'):=by
 intro x y A ι H u v R Q ra b c h k;unfold intD at h;split at h
 .cases b;cases c
  exact⟨_,_,rfl,rfl,h.1,k.here ra h.2 (a _ _ _ _ _)⟩
 .exact h.elim
theorem xQ{mg:av}{g:Int->Int->V}{g':Int->Int->D}(a:∀i j ι n H,RV mg ι n H (g' i j) (g i j)):cR mg (fS g) (p6 g'):=by
 intro x y A ι H u v R Q ra b c h k;unfold p6 at h;split at h
 .cases b;cases c
  exact⟨_,_,rfl,rfl,k.here ra h (a _ _ _ _ _)⟩
 .exact h.elim
abbrev Ma:cW:=p6 λi j=>.int (i - j)
abbrev Il:cW:=intD oO λi j=>.int (i*j)
abbrev EG:cW:=intD (λ_ j=>0<j/\j.natAbs.log2<9000) λi j=>.int (i/j)
abbrev Ij:cW:=intD (λ_ j=>0<j) λi j=>.int (i%j)
abbrev J8:cW:=intD vY λi j=>.int (i ^ j.toNat)
section
variable{X:Cx}{N:En}{pos:Pos}{a b c:Expr}{ma mb mc:aN}
theorem fM(c:PE X a (up X.mg N ma))(d:PE X b (up X.mg N mb)):PE X (.BinOp a .Add b pos) (up X.mg N (cY sy ma mb)):=kG IM D0 c d
theorem pK(c:PE X a (up X.mg N ma))(d:PE X b (up X.mg N mb)):PE X (.BinOp a .Sub b pos) (up X.mg N (cY Ma ma mb)):=kG Jp (xQ λ_ _ _ _ _=>rfl) c d
theorem iZ(c:PE X a (up X.mg N ma))(d:PE X b (up X.mg N mb)):PE X (.BinOp a .Mult b pos) (up X.mg N (cY Il ma mb)):=kG Jj (pq λ_ _ _ _ _=>rfl) c d
theorem mT(c:PE X a (up X.mg N ma))(d:PE X b (up X.mg N mb)):PE X (.BinOp a .FloorDiv b pos) (up X.mg N (cY EG ma mb)):=kG Jb (pq λ_ _ _ _ _=>rfl) c d
theorem jD(c:PE X a (up X.mg N ma))(d:PE X b (up X.mg N mb)):PE X (.BinOp a .Mod b pos) (up X.mg N (cY Ij ma mb)):=kG Ji (pq λ_ _ _ _ _=>rfl) c d
theorem Es(c:PE X a (up X.mg N ma))(d:PE X b (up X.mg N mb)):PE X (.BinOp a .Pow b pos) (up X.mg N (cY J8 ma mb)):=kG Jo (pq λ_ _ _ _ _=>rfl) c d
end
abbrev AG:R2:=λx y H Q=>fS (λi j=>.bl (decide (i<j))) x y H Q\/∃i j,x=.str i/\y=.str j/\Q (.bl (decide (i.cps.toList<j.cps.toList))) H
abbrev AF:R2:=λx y H Q=>fS (λi j=>.bl (decide (i<=j))) x y H Q\/∃i j,x=.str i/\y=.str j/\Q (.bl (!decide (j.cps.toList<i.cps.toList))) H
theorem IP{X:Cx}:aT X (compareOp .Lt) AG:=Jg.or Jh
theorem qp{X:Cx}:aT X (compareOp .LtE) AF:=Je.or Jf
def uq:cW:=λx y A R=>match x,y with
 |.int i,.int j=>R (.bl (decide (i<j))) A
 |.str a,.str b=>R (.bl (decide (a.cps.toList<b.cps.toList))) A
 |_,_=>False
def k6:cW:=λx y A R=>match x,y with
 |.int i,.int j=>R (.bl (decide (i<=j))) A
 |.str a,.str b=>R (.bl (!decide (b.cps.toList<a.cps.toList))) A
 |_,_=>False
theorem Ea{mg:av}:cR mg AG uq:=by
 intro x y A ι H u v R Q ra a b h k;unfold uq at h;split at h
 .cases a;cases b;exact .inl ⟨_,_,rfl,rfl,k.here ra h rfl⟩
 .cases a;cases b;exact .inr ⟨_,_,rfl,rfl,k.here ra h rfl⟩
 .exact h.elim
theorem pC{mg:av}:cR mg AF k6:=by
 intro x y A ι H u v R Q ra a b h k;unfold k6 at h;split at h
 .cases a;cases b;exact .inl ⟨_,_,rfl,rfl,k.here ra h rfl⟩
 .cases a;cases b;exact .inr ⟨_,_,rfl,rfl,k.here ra h rfl⟩
 .exact h.elim
abbrev yQ:cW:=p6 λi j=>.bl (decide (j<i))
theorem D7{mg:av}:cR mg (fS λi j=>.bl (decide (j<i))) yQ:=xQ λ_ _ _ _ _=>rfl
def ze:D->Bool
 |.aD=>true
 |_=>false
def qo:cW:=λx y A R=>match y with
 |.aD=>R (.bl (!ze x)) A
 |_=>False
theorem RV.IJ{mg:av}{ι:Io}{n:Nat}{H:Hp}{x:D}{u:V}(r:RV mg ι n H x u):decide (u=.aD)=ze x:=by
 cases x with
 |aD=>cases r;rfl
 |bl b=>cases r;rfl
 |int b=>cases r;rfl
 |str b=>cases r;rfl
 |tup ds=>obtain⟨a,xs,rfl,_⟩:=r;rfl
 |ref q=>obtain⟨_,rfl⟩:=r;rfl
 |fl ns=>obtain⟨a,o,rfl,_⟩:=r;rfl
 |exc c=>obtain⟨a,C,rfl,_⟩:=r;rfl
theorem xR{mg:av}:cR mg (λx y H Q=>y=.aD/\Q (.bl (!decide (x=.aD))) H) qo:=by
 intro x y A ι H u v R Q ra a b h k;unfold qo at h;split at h
 .cases b
  refine⟨rfl,?_⟩;rw[a.IJ];exact k.here ra h rfl
 .exact h.elim
mutual
def toQ:D->PyData
 |.aD=>.none
 |.bl b=>.bool b
 |.int i=>.int i
 |.str x=>.str x
 |.tup xs=>.tuple (aY xs)
 |.ref _=>.none
 |.fl ns=>.list (ns.map .int)
 |.exc _=>.none
def aY:List D->List PyData
 |[]=>[]
 |d::r=>toQ d::aY r
end
mutual
def dQ:D->Bool
 |.tup xs=>fz xs
 |.ref _=>false
 |.exc _=>false
 |_=>true
def fz:List D->Bool
 |[]=>true
 |d::r=>dQ d&&fz r
end
def cV(A:Ar):D->PyData
 |.ref r=>match A[r]? with
  |some (.lst xs)=>.list (aY xs)
  |_=>.none
 |d=>toQ d
def jg(A:Ar):D->Bool
 |.ref r=>match A[r]? with
  |some (.lst xs)=>fz xs
  |_=>false
 |d=>dQ d
section
variable{mg:av}{K:Frag}{A:Ar}{ι:Io}{H:Hp}
theorem EO:∀ns:List Int,d9 K H (ns.map V.int) (ns.map PyData.int):=d9.ints
mutual
theorem RV.dp{n:Nat}:∀(d:D) (v:V),dQ d=true->RV mg ι n H d v->Dp K H v (toQ d)
 |.aD,_,_,h=>by cases h;exact .aD
 |.bl b,_,_,h=>by cases h;exact .bl b
 |.int i,_,_,h=>by cases h;exact .int i
 |.str x,_,_,h=>by cases h;exact .str x
 |.tup ds,v,p,h=>by
  obtain⟨a,xs,rfl,e,r⟩:=h;exact .tup (bf.of e) (ao.dp ds xs (by simpa[dQ] using p) r)
 |.ref _,_,p,_=>by simp[dQ] at p
 |.fl ns,v,_,h=>by
  obtain⟨a,o,rfl,e⟩:=h;exact .lst (.inl (.inr ⟨o,e⟩)) (EO ns)
 |.exc _,_,p,_=>by simp[dQ] at p
theorem ao.dp{n:Nat}:∀(ds:List D) (vs:List V),fz ds=true->ao mg ι n H ds vs->d9 K H vs (aY ds)
 |[],vs,_,h=>by cases (show vs=[] from h);exact .nil
 |d::ds,vs,p,h=>by
  obtain⟨x,r,rfl,h1,h2⟩:=h;have a:dQ d=true/\fz ds=true:=by simpa[fz] using p
  exact .cons (RV.dp d x a.1 h1) (ao.dp ds r a.2 h2)
end
theorem RA.dp(ra:RA mg ι H A){d:D}{v:V}(p:jg A d=true)(h:RV mg ι A.length H d v):Dp K H v (cV A d):=by
 cases d with
 |ref r=>
  obtain⟨_,rfl⟩:=h;unfold jg at p;unfold cV;simp only at p ⊢;split at p
  .rename_i xs e
   obtain⟨a,h1,b⟩:=ra.lst e;exact .lst (aX.of h1) (ao.dp xs a p b)
  .cases p
 |_=>exact RV.dp _ v p h
end
@[irreducible] def fu(neg:Bool)(x y:D)(A:Ar)(R:DK):Prop:=jg A x=true/\jg A y=true/\(cV A x).canLay0=true/\(cV A y).canLay0=true/\min (cV A x).depth (cV A y).depth<=64/\R (.bl (if neg then !PyData.eqv (cV A x) (cV A y) else PyData.eqv (cV A x) (cV A y))) A
def m5:cW:=λx y A R=>match x,y with
 |.int i,.int j=>R (.bl (decide (i=j))) A
 |.str a,.str b=>R (.bl (decide (a=b))) A
 |.bl a,.bl b=>R (.bl (decide (a=b))) A
 |x,y=>fu false x y A R
def uE:cW:=λx y A R=>match x,y with
 |.int i,.int j=>R (.bl (!decide (i=j))) A
 |.str a,.str b=>R (.bl (!decide (a=b))) A
 |.bl a,.bl b=>R (.bl (!decide (a=b))) A
 |x,y=>fu true x y A R
theorem zW{X:Cx}(a:X.A.units+64<cLine):aT X (compareOp .Eq) (λx y H Q=>uU x y H Q\/uV X.K x y H Q):=I_.or (Ja a)
theorem IQ{X:Cx}(a:X.A.units+64<cLine):aT X (compareOp .NotEq) (λx y H Q=>uW x y H Q\/uX X.K x y H Q):=Jk.or (Jl a)
theorem xP{mg:av}{K:Frag}:cR mg (λx y H Q=>uU x y H Q\/uV K x y H Q) m5:=by
 intro x y A ι H u v R Q ra a b h k;unfold m5 at h;split at h
 .cases a;cases b
  rename_i i j;refine .inl ⟨rfl,?_⟩;have e:decide (V.int i=V.int j)=decide (i=j):=by simp
  rw[e];exact k.here ra h rfl
 .cases a;cases b
  rename_i i j;refine .inl ⟨rfl,?_⟩;have e:decide (V.str i=V.str j)=decide (i=j):=by simp
  rw[e];exact k.here ra h rfl
 .cases a;cases b
  rename_i i j;refine .inl ⟨rfl,?_⟩;have e:decide (V.bl i=V.bl j)=decide (i=j):=by simp
  rw[e];exact k.here ra h rfl
 .unfold fu at h
  obtain⟨p1,p2,c,d,hd,q⟩:=h;exact .inr ⟨_,_,ra.dp p1 a,ra.dp p2 b,c,d,hd,k.here ra q rfl⟩
theorem Ec{mg:av}{K:Frag}:cR mg (λx y H Q=>uW x y H Q\/uX K x y H Q) uE:=by
 intro x y A ι H u v R Q ra a b h k;unfold uE at h;split at h
 .cases a;cases b
  rename_i i j;refine .inl ⟨rfl,?_⟩;have e:decide (V.int i=V.int j)=decide (i=j):=by simp
  rw[e];exact k.here ra h rfl
 .cases a;cases b
  rename_i i j;refine .inl ⟨rfl,?_⟩;have e:decide (V.str i=V.str j)=decide (i=j):=by simp
  rw[e];exact k.here ra h rfl
 .cases a;cases b
  rename_i i j;refine .inl ⟨rfl,?_⟩;have e:decide (V.bl i=V.bl j)=decide (i=j):=by simp
  rw[e];exact k.here ra h rfl
 .unfold fu at h
  obtain⟨p1,p2,c,d,hd,q⟩:=h;exact .inr ⟨_,_,ra.dp p1 a,ra.dp p2 b,c,d,hd,k.here ra q rfl⟩
def gY:D->Option Key
 |.int i=>some (.inl i)
 |.str x=>some (.inr x)
 |_=>none
def b6:List (Key×D)->Key->Option D
 |[],_=>none
 |p::r,k=>if p.1=k then some p.2 else b6 r k
@[irreducible] def kY(r:Nat)(y:D)(A:Ar)(R:DK):Prop:=match A[r]? with
 |some (.lst xs)=>(match y with
  |.int i=>(match cG xs i with
   |some v=>R v A
   |none=>False)
  |_=>False)
 |some (.dct kvs)=>(match gY y with
  |some k=>(match b6 kvs k with
   |some v=>R v A
   |none=>False)
  |none=>False)
 |some (.i_ _ kvs)=>(match gY y with
  |some k=>(match b6 kvs k with
   |some v=>R v A
   |none=>False)
  |none=>False)
 |_=>False
def m_:cW:=λx y A R=>match x,y with
 |.tup xs,.int i=>match cG xs i with
  |some v=>R v A
  |none=>False
 |.str z,.int i=>match cG z.cps.toList i with
  |some c=>z.length<=sizeLine/\R (.str ⟨#[c]⟩) A
  |none=>False
 |.fl ns,.int i=>match cG ns i with
  |some c=>R (.int c) A
  |none=>False
 |.ref r,y=>kY r y A R
 |_,_=>False
section
variable{mg:av}{K:Frag}{A:Ar}{ι:Io}{H:Hp}
theorem ao.cG{n:Nat}{ds:List D}{vs:List V}{i:Int}{d:D}(r:ao mg ι n H ds vs)(h:L2.cG ds i=some d):∃v,L2.cG vs i=some v/\RV mg ι n H d v:=by
 unfold L2.cG at h ⊢;rw[<-ao.length r];cases q:jF ds.length i with
 |none=>rw[q] at h;cases h
 |some j=>
  rw[q] at h;exact ao.get r h
theorem CT{α β:Type}(f:α->β)(xs:List α)(i:Int):L2.cG (xs.map f) i=(L2.cG xs i).map f:=by
 unfold L2.cG;rw[bC];cases jF xs.length i with
 |none=>rfl
 |some j=>simp
theorem RK.get{n:Nat}:∀{kvs:List (Key×D)} {xs:List (Key×V)} {k:Key},RK mg ι n H kvs xs->(∀d,b6 kvs k=some d->∃v,dB xs k=some v/\RV mg ι n H d v)/\(b6 kvs k=none->dB xs k=none)
 |[],xs,k,h=>by
  cases (show xs=[] from h);exact⟨λd e=>by simp[b6] at e,λ_=>rfl⟩
 |p::r,xs,k,h=>by
  obtain⟨x,r',rfl,h1,h2⟩:=h;obtain⟨g1,g2⟩:=RK.get (k:=k) h2;unfold b6;by_cases hk:p.1=k
  .rw[aj hk]
   have e:dB ((p.1,x)::r') k=some x:=by simp[dB,hk]
   rw[e];exact⟨λd z=>by cases z;exact⟨x,rfl,h1⟩,λz=>by cases z⟩
  .rw[ai hk]
   have e:dB ((p.1,x)::r') k=dB r' k:=by simp[dB,j_,hk]
   rw[e];exact⟨g1,g2⟩
theorem ng{n:Nat}{y:D}{v:V}{k:Key}(h:gY y=some k)(r:RV mg ι n H y v):v=kV k:=by
 cases y with
 |int i=>cases h;exact r
 |str x=>cases h;exact r
 |_=>cases h
end
def AA:R2:=λx y H Q=>∃a v,x=.ref a/\l9 H a y (some v)/\Q v H
theorem G2{X:Cx}(f:X.A.units+64<cLine):f6 X AA:=by
 intro value slice pins s σ H x y v u Q I c d h hs;obtain⟨a,z,rfl,g,q⟩:=h;cases c;exact tail_any (EF I g) PySem.F.slot_dict_getitem.lookup (D6 (by omega) I g d λi j e b=>⟨z,H,e,b,q⟩) hs
abbrev Az(K:Frag):R2:=λx y H Q=>Ay K x y H Q\/AA x y H Q
theorem GP{X:Cx}(a:X.A.units+64<cLine):f6 X (Az X.K):=G5.or (G2 a)
theorem D_{mg:av}{K:Frag}:cR mg (Az K) m_:=by
 intro x y A ι H u v R Q ra i f h k;unfold m_ at h;split at h
 .obtain⟨a,xs,rfl,j,b⟩:=i
  cases f;split at h
  .rename_i d e
   obtain⟨z,hz,c⟩:=b.cG e;exact .inl (.inr (.inl ⟨a,xs,_,z,rfl,rfl,bf.of j,hz,k.here ra h c⟩))
  .exact h.elim
 .cases i;cases f
  split at h
  .rename_i d e
   exact .inl (.inr (.inr ⟨_,_,_,rfl,rfl,h.1,e,k.here ra h.2 rfl⟩))
  .exact h.elim
 .obtain⟨a,o,rfl,j⟩:=i
  cases f;split at h
  .rename_i d e
   exact .inl (.inl ⟨a,_,_,_,rfl,rfl,.inl (.inr ⟨o,j⟩),by rw[CT,e];rfl,k.here ra h rfl⟩)
  .exact h.elim
 .obtain⟨_,rfl⟩:=i
  unfold kY at h;split at h
  .rename_i xs e
   obtain⟨g,h1,b⟩:=ra.lst e;split at h
   .cases f
    split at h
    .rename_i d e
     obtain⟨z,hz,c⟩:=b.cG e;exact .inl (.inl ⟨_,g,_,z,rfl,rfl,aX.of h1,hz,k.here ra h c⟩)
    .exact h.elim
   .exact h.elim
  .rename_i kvs e
   obtain⟨g,h1,b⟩:=ra.dct e;split at h
   .rename_i l m
    cases ng m f;split at h
    .rename_i d n
     obtain⟨z,hz,c⟩:=(RK.get b).1 d n;exact .inr ⟨_,z,rfl,.inl ⟨g,l,.inl h1,rfl,hz.symm⟩,k.here ra h c⟩
    .exact h.elim
   .exact h.elim
  .rename_i o kvs e
   obtain⟨g,h1,b⟩:=ra.i_ e;split at h
   .rename_i l m
    cases ng m f;split at h
    .rename_i d n
     obtain⟨z,hz,c⟩:=(RK.get b).1 d n;exact .inr ⟨_,z,rfl,.inl ⟨g,l,.inr ⟨o,h1⟩,rfl,hz.symm⟩,k.here ra h c⟩
    .exact h.elim
   .exact h.elim
  .exact h.elim
 .exact h.elim
theorem Eo{X:Cx}{N:En}{pos:Pos}{a b:Expr}{ma mb:aN}(c:X.A.units+64<cLine)(d:PE X a (up X.mg N ma))(e:PE X b (up X.mg N mb))(hs:sf b):PE X (.Subscript a b pos) (up X.mg N (cY m_ ma mb)):=
 cT (JF (GP c) d e hs) λ_ _ _ h=>rq D_ h
structure l8 where
 nx:bA->Ar->Prop
 rt:DK
 bk:bA->Ar->Prop:=λ_ _=>False
 ct:bA->Ar->Prop:=λ_ _=>False
abbrev cX:=l8->bA->Ar->Prop
def gK(mg:av)(A:Ar)(ι:Io)(H:Hp)(R:bA->Ar->Prop)(Q:L2.St->Hp->Prop):Prop:=∀τ A' ι' σ H',R τ A'->Ext A ι H A' ι' H'->RA mg ι' H' A'->RS mg ι' A'.length H' τ σ->Q σ H'
structure oU(mg:av)(A:Ar)(ι:Io)(H:Hp)(R:l8)(Q:Ends):Prop where
 nx:gK mg A ι H R.nx Q.nx
 rt:Kt mg A ι H R.rt Q.rt
 bk:gK mg A ι H R.bk Q.bk
 ct:gK mg A ι H R.ct Q.ct
def cE(mg:av)(N:En)(m:cX):TS:=λQ σ H=>∃A ι τ R,cK mg N A ι τ σ H/\m R τ A/\oU mg A ι H R Q
section
variable{mg:av}{N:En}{A A':Ar}{ι ι':Io}{τ bZ:bA}{σ σ':L2.St}{H H':Hp}
theorem gK.from{R:bA->Ar->Prop}{Q:L2.St->Hp->Prop}(k:gK mg A ι H R Q)(e:Ext A ι H A' ι' H'):gK mg A' ι' H' R Q:=λτ b a σ H2 q c=>k τ b a σ H2 q (e.trans c)
theorem oU.from{R:l8}{Q:Ends}(k:oU mg A ι H R Q)(e:Ext A ι H A' ι' H'):oU mg A' ι' H' R Q:=⟨k.nx.from e,k.rt.from e,k.bk.from e,k.ct.from e⟩
theorem gK.here{R:bA->Ar->Prop}{Q:L2.St->Hp->Prop}(k:gK mg A ι H R Q)(S:cK mg N A ι τ σ H)(q:R τ A):Q σ H:=k τ A ι σ H q S.ra.refl S.ra S.rs
theorem cK.to(S:cK mg N A ι τ σ H)(e:Ext A ι H A' ι' H')(r:RA mg ι' H' A')(s:RS mg ι' A'.length H' bZ σ'):cK mg N A' ι' bZ σ' H':=⟨r,s,S.ex.trans e⟩
theorem zD:∀(τ:bA) (i:Nat) (d:D),i<τ.length->lk (τ.set i (some d)) i=some d
 |[],i,d,h=>by simp at h
 |x::r,0,d,_=>rfl
 |x::r,i+1,d,h=>zD r i d (by simpa using h)
theorem zC:∀(τ:bA) (i j:Nat) (d:Option D),j≠i->lk (τ.set i d) j=lk τ j
 |[],i,j,d,_=>rfl
 |x::r,0,0,d,h=>absurd rfl h
 |x::r,0,j+1,d,_=>rfl
 |x::r,i+1,0,d,_=>rfl
 |x::r,i+1,j+1,d,h=>zC r i j d (by omega)
theorem RS.set{n:Nat}{i:Nat}{d:D}{v:V}(r:RS mg ι n H τ σ)(h:RV mg ι n H d v):RS mg ι n H (τ.set i (some d)) (σ.set i (some v)):=⟨by simp[r.len],λj e q=>by
 by_cases a:j=i
 .subst a
  by_cases b:j<τ.length
  .rw[zD _ _ _ b] at q
   cases q;refine⟨v,?_,h⟩;rw[lX (by rw[<-r.len];exact b)]
  .rw[List.set_eq_of_length_le (by omega)] at q
   rw[qb,vJ (by omega)] at q;cases q
 .rw[zC _ _ _ _ a] at q
  obtain⟨w,h1,h2⟩:=r.at' j e q;exact⟨w,by rw[oM (Ne.symm a)];exact h1,h2⟩⟩
theorem cK.set{i:Nat}{d:D}{v:V}(S:cK mg N A ι τ σ H)(h:RV mg ι A.length H d v):cK mg N A ι (τ.set i (some d)) (σ.set i (some v)) H:=⟨S.ra,S.rs.set h,S.ex⟩
end
def K5:cX:=λR τ A=>R.nx τ A
def K_(t u:cX):cX:=λR τ A=>t {R with nx:=u R} τ A
def K0(m:aN):cX:=λR τ A=>m τ A λ_ A1=>R.nx τ A1
def K9(m:aN):cX:=λR τ A=>m τ A R.rt
def K2(c:di)(t u:cX):cX:=λR τ A=>c τ A λb A1=>cond b (t R τ A1) (u R τ A1)
section
variable{X:Cx}{N:En}{pos:Pos}{st:Stmt}{rest:List Stmt}{t u:cX}{e:Expr}{m:aN}
theorem cg:cB X [] (cE X.mg N K5):=yh Kn λQ σ H q=>by
 obtain⟨A,ι,τ,R,S,q,k⟩:=q;exact k.nx.here S q
theorem aH(h1:PS X st (cE X.mg N t))(h2:cB X rest (cE X.mg N u)):cB X (st::rest) (cE X.mg N (K_ t u)):=yh (Km h1 h2) λQ σ H q=>by
 obtain⟨A,ι,τ,R,S,q,k⟩:=q;exact⟨A,ι,τ,_,S,q,⟨λa d b e H1 f c g h=>⟨d,b,a,R,S.to c g h,f,k.from c⟩,k.rt,k.bk,k.ct⟩⟩
theorem aI(h1:PS X st (cE X.mg N t)):cB X [st] (cE X.mg N t):=Ko h1
theorem kI(b:PE X e (up X.mg N m))(hs:swapsWith e none pos.line X.env=pure false:=by rfl):PS X (.Expr e pos) (cE X.mg N (K0 m)):=gR (Ka b hs) λQ σ H q=>by
 obtain⟨A,ι,τ,R,S,q,k⟩:=q;exact⟨A,ι,τ,_,S,q,λv g c H1 u d a f h=>(k.nx.from a).here (S.next a f) d⟩
theorem aS(a:PE X e (up X.mg N m)):PS X (.Return (some e) pos) (cE X.mg N (K9 m)):=gR (Kg a) λQ σ H q=>by
 obtain⟨A,ι,τ,R,S,q,k⟩:=q;exact⟨A,ι,τ,_,S,q,k.rt⟩
theorem b5{c:Expr}{a b:List Stmt}{tc:di}(hc:PT X c (b7 X.mg N tc))(i:cB X a (cE X.mg N t))(j:cB X b (cE X.mg N u)):PS X (.If c a b pos) (cE X.mg N (K2 tc t u)):=gR (Kd hc i j) λQ σ H q=>by
 obtain⟨A,ι,τ,R,S,q,k⟩:=q;refine⟨A,ι,τ,_,S,q,λx f d H1 g e h=>?_⟩;cases x with
 |true=>rw[aj rfl];exact⟨f,d,τ,R,S.next e h,g,k.from e⟩
 |false=>rw[ai bP];exact⟨f,d,τ,R,S.next e h,g,k.from e⟩
end
abbrev iw:=D->bA->Ar->(bA->Ar->Prop)->Prop
abbrev kc:=List D->bA->Ar->(bA->Ar->Prop)->Prop
def nZ(mg:av)(N:En)(g:iw):TG:=λv σ H Q=>∃A ι τ d R,cK mg N A ι τ σ H/\RV mg ι A.length H d v/\g d τ A R/\gK mg A ι H R Q
def rj(mg:av)(N:En)(g:kc):gP:=λvs σ H Q=>∃A ι τ ds R,cK mg N A ι τ σ H/\ao mg ι A.length H ds vs/\g ds τ A R/\gK mg A ι H R Q
def gN(i:Nat):iw:=λd τ A R=>R (τ.set i (some d)) A
def yO:kc:=λds τ A R=>match ds with
 |[]=>R τ A
 |_=>False
def Gj(g:iw)(h:kc):kc:=λds τ A R=>match ds with
 |d::r=>g d τ A λvW A1=>h r vW A1 R
 |[]=>False
def gT(n:Nat)(g:kc):iw:=λd τ A R=>match d with
 |.tup ds=>ds.length=n/\g ds τ A R
 |_=>False
section
variable{X:Cx}{N:En}{pos:Pos}{e tg:Expr}{es:List Expr}{m:aN}{g:iw}{gs:kc}
theorem x9{t t':TG}(h:PG X tg t)(w:∀v σ H Q,t' v σ H Q->t v σ H Q):PG X tg t':=λpins s σ H v u Q I r q=>h pins s σ H v u Q I r (w v σ H Q q)
theorem x_{t t':gP}(h:gM X es t)(w:∀v σ H Q,t' v σ H Q->t v σ H Q):gM X es t':=λpins s σ H v u Q I r q=>h pins s σ H v u Q I r (w v σ H Q q)
theorem EB{i:Nat}{x:Str}(a:X.N.Nodup)(hi:X.N[i]?=some x)(b:Loc X.env.scope x)(c:X.fn x=true\/X.env.scope.names.lookup x=some .local:=by first|exact .inl rfl|exact .inr rfl|assumption):PG X (.Name x pos) (nZ X.mg N (gN i)):=
 x9 (Ab a hi b c) λv σ H Q q=>by
  obtain⟨A,ι,τ,d,R,S,r,q,k⟩:=q;exact k.here (S.set r) q
theorem ED:gM X [] (rj X.mg N yO):=x_ Ad λv σ H Q q=>by
 obtain⟨A,ι,τ,ds,R,S,r,q,k⟩:=q;unfold yO at q;split at q
 .exact⟨r,k.here S q⟩
 .exact q.elim
theorem s8(h1:PG X e (nZ X.mg N g))(h2:gM X es (rj X.mg N gs))(hs:(assignEach (e::es) X.env).map (·.2)=assign e X.env::(assignEach es X.env).map (·.2):=by rfl):gM X (e::es) (rj X.mg N (Gj g gs)):=
 x_ (qR h1 h2 hs) λv σ H Q q=>by
  obtain⟨A,ι,τ,ds,R,S,r,q,k⟩:=q;cases ds with
  |nil=>exact q.elim
  |cons d ds=>
   obtain⟨x,xs,rfl,f,h⟩:=r;refine⟨x,xs,rfl,A,ι,τ,d,_,S,f,q,λa i b j H1 l c a1 m=>?_⟩;exact⟨i,b,a,ds,R,S.to c a1 m,ao.ext c ds xs h,l,k.from c⟩
theorem EC{k n:Nat}(hc:X.calm=true)(h:gM X es (rj X.mg N gs))(hn:(assignEach es X.env).length=n:=by rfl)(b:(assignEach es X.env).findIdx? (·.1)=none:=by rfl):PG X (.Tuple es k pos) (nZ X.mg N (gT n gs)):=
 x9 (Ac hc h hn b) λv σ H Q q=>by
  obtain⟨A,ι,τ,d,R,S,r,q,k⟩:=q;cases d with
  |tup ds=>
   obtain⟨a,xs,rfl,h1,h2⟩:=r;exact⟨a,xs,rfl,bf.of h1,by rw[<-ao.length h2];exact q.1,A,ι,τ,ds,R,S,h2,q.2,k⟩
  |_=>exact q.elim
def u6(i:Nat)(m:aN):cX:=λR τ A=>m τ A λv A1=>R.nx (τ.set i (some v)) A1
theorem ET{i:Nat}{x:Str}{pos':Pos}(b:X.N.Nodup)(hi:X.N[i]?=some x)(c:Loc X.env.scope x)(d:PE X e (up X.mg N m))(hs:swapsWith e (some (.Name x pos')) pos.line X.env=pure false:=by rfl)(f:X.fn x=true\/X.env.scope.names.lookup x=some .local:=by first|exact .inl rfl|exact .inr rfl|assumption):
  PS X (.Assign [.Name x pos'] e pos) (cE X.mg N (u6 i m)):=gR (Kh b hi c d hs f) λQ σ H q=>by
 obtain⟨A,ι,τ,R,S,q,k⟩:=q;exact⟨A,ι,τ,_,S,q,λv n g H1 u h a j l=>(k.nx.from a).here ((S.next a j).set l) h⟩
def K6(i j:Nat)(n:cQ):cX:=λR τ A=>n τ A λvs A1=>match vs with
 |[v,w]=>R.nx ((τ.set i (some v)).set j (some w)) A1
 |_=>False
theorem yf{i j:Nat}{x y:Str}{a b:Expr}{n:cQ}{px py pt:Pos}{kt k2 d}(hc:X.calm=true)(h:X.N.Nodup)(hi:X.N[i]? =some x)(l:X.N[j]? =some y)(e:i≠j)
  (m:X.env.scope.names.lookup x=some .local)(o:X.env.scope.names.lookup y=some .local)(p:PA X [a,b] (eS X.mg N n))
  (r:swappedStores [.Tuple [.Name x px,.Name y py] kt pt] (.Tuple [a,b] k2 d) X.env=pure (some [x,y]))
  (hs:swapsWithSole [.Tuple [.Name x px,.Name y py] kt pt] (.Tuple [a,b] k2 d) pos.line X.env=pure false:=by rfl):
  PS X (.Assign [.Tuple [.Name x px,.Name y py] kt pt] (.Tuple [a,b] k2 d) pos) (cE X.mg N (K6 i j n)):=gR (Ke hc h hi l e m o p r hs) λQ σ H q=>by
 obtain⟨A,ι,τ,R,S,q,k⟩:=q
 refine⟨A,ι,τ,_,S,q,λvs B s H1 C c g t f=> ?_⟩
 match vs,c,f with
 |[v,w],c,f=>
  obtain⟨u,_,rfl,h1,z,_,rfl,h2,h3⟩:=f
  obtain rfl:=h3
  exact⟨u,z,rfl,(k.nx.from g).here (((S.next g t).set h1).set h2) c⟩
 |[],c,_=>exact c.elim
 |[_],c,_=>exact c.elim
 |_::_::_::_,c,_=>exact c.elim
end
abbrev DX:=Str->Ar->Prop
abbrev Ct:=List D->Ar->DK->DX->Prop
def CI(mg:av)(A:Ar)(ι:Io)(H:Hp)(R:DX)(E:XK):Prop:=∀c A' ι' H' C,R c A'->mg c=some (.ref C)->Ext A ι H A' ι' H'->RA mg ι' H' A'->E (.ref C) none H'
def aE(mg:av)(n:Nat)(S:Ct):Sp:=λvs H Q E=>∃A ι ds R RE,ds.length=n/\RA mg ι H A/\ao mg ι A.length H ds vs/\S ds A R RE/\Kt mg A ι H R Q/\CI mg A ι H RE E
def EL(mg:av)(N:En)(R:DX):XK:=λC _ H'=>∃c A' ι',(∃a,C=.ref a/\mg c=some (.ref a))/\Ext N.A N.ι N.H A' ι' H'/\RA mg ι' H' A'/\R c A'
def xN(n:Nat)(S:Ct)(RE:DX)(m:cQ):aN:=λτ A R=>m τ A λvs A1=>vs.length=n/\S vs A1 R RE
section
variable{X:Cx}{N:En}{k n:Nat}{x:Str}{ps:List Str}{S:Ct}{RE:DX}{e:Expr}{es:List Expr}{m:cQ}{p pos:Pos}
theorem Ei(F:aC X.prog X.w X.K X.mg X.base k x ps (aE X.mg n S))(i:cC k X.A)(j:Passes (a_ X.prog X.w) X (EL X.mg N RE))(l:PA X (e::es) (eS X.mg N m))(o:Gl X x:=by rfl)(a:(x==("__debug__":Str))=false:=by decide)
  (r:starEach (e::es) X.env=(false,eval e X.env)::starEach es X.env:=by rfl)(b:(backTo pos (starEach es X.env)).any (·.1)=false:=by rfl):
  PE X (.Call (.Name x p) (e::es) [] pos) (up X.mg N (xN n S RE m)):=cT (Jx F i j l o a r b) λσ H Q q=>by
 obtain⟨A,ι,τ,R,Z,q,k⟩:=q;refine⟨A,ι,τ,_,Z,q,λvs s d H1 t g h u v=>?_⟩;show aE X.mg n S (t++[]) H1 Q (EL X.mg N RE);rw[fG];exact⟨s,d,vs,R,RE,g.1,u,v,g.2,k.from h,λc y f H2 C z hc B D=>⟨c,y,f,⟨C,rfl,hc⟩,(Z.ex.trans h).trans B,D,z⟩⟩
end
def iM(n:Nat)(ds:List D):bA:=ds.map some++replicate n none
theorem ue:∀(ds:List D) (n i:Nat) (d:D),lk (iM n ds) i=some d->ds[i]?=some d
 |[],n,i,d,h=>by
  rw[qb] at h;simp[iM,List.getElem?_replicate] at h;split at h<;>simp at h
 |x::r,n,0,d,h=>by simpa[iM,lk] using h
 |x::r,n,i+1,d,h=>by simpa using ue r n i d h
theorem TopD.fP{P:Program}{w:World}{K:Frag}{mg:av}{base:Heap}{x:Str}{st:Stmt}{Nm ps:List Str}{k n:Nat}{S:Ct}(T:TopD K mg x st ps)(Sc:bq Nm ps (aJ st))(hn:ps.length=n)(O:ps.length<=Nm.length)
  (g:∀(N:En) (RE:DX) (X:Cx),X.prog=P->X.w=w->X.K=K->X.mg=mg->X.base=base->X.N=Nm->X.calm=true->X.ex=[]->(∃f j A outer s H E,X=bQ (a_ P w) P w K mg base Nm x (aJ st) f j A outer s H E)->cC k X.A->Raises X (EL X.mg N RE)->Passes (a_ X.prog X.w) X (EL X.mg N RE)->
   ∀ds A R,S ds A R RE->ds.length=n->∃m,cB X (eZ st) (cE X.mg N m)/\m {nx:=λ_ A'=>R .aD A',rt:=R} (iM (Nm.length - n) ds) A):aC P w K mg base (k+1) x ps (aE mg n S):=by
 refine T.fnX Sc (λvs H Q E h=> ?_) λf j A outer s H vs Q E B h=> ?_
 .obtain⟨A,ι,ds,R,RE,t,_,o,_⟩:=h
  rw[<-ao.length o,t,hn]
 .obtain⟨p,l,ds,R,RE,t,ra,o,D,kq,F⟩:=h
  have y:∀C a H',EL mg ⟨p,l,H⟩ RE C a H'->E C none H':=λC a H' z=>by
   obtain⟨c,A',ι',⟨b,rfl,hc⟩,ex,r,q⟩:=z
   exact F c A' ι' H' b q hc ex r
  obtain⟨m,G,J⟩:=g ⟨p,l,H⟩ RE (bQ (a_ P w) P w K mg base Nm x (aJ st) f j A outer s H E) rfl rfl rfl rfl rfl rfl rfl rfl ⟨_,_,_,_,_,_,_,rfl⟩ B
   (λpins σ H1 u e h' C args I L z=>AH pins σ H1 u e h' C args I L (y _ _ _ z))
   (λpins σ H1 u e s' I z=>z_ pins σ H1 u e s' I (by
    obtain⟨a,C,H',h1,h2,h3⟩:=z
    exact⟨a,C,H',h1,h2,y _ _ _ h3⟩)) ds p R D t
  have M:=ao.length o
  refine⟨_,G,p,l,_,_,⟨ra,⟨?_,λi d q=> ?_⟩,ra.refl⟩,J,⟨λτ A' ι' σ H' q e r _=>kq _ A' ι' H' _ q e r rfl,kq,λ_ _ _ _ _ q _ _ _=>q.elim,λ_ _ _ _ _ q _ _ _=>q.elim⟩⟩
  .simp[iM,L2.start]
   omega
  .obtain⟨v,h1,h2⟩:=ao.get o (ue ds _ i d q)
   refine⟨v,?_,h2⟩
   have hi:=(bY.mp h1).1
   unfold L2.start
   rw[fZ (by simpa using hi),bF,h1]
   rfl
abbrev gH:=List D->Ar->DK->Prop
def iV(mg:av)(r:List V->Hp->VK->Prop)(f:gH):Prop:=∀ds A ι H us R Q,RA mg ι H A->ao mg ι A.length H ds us->f ds A R->Kt mg A ι H R Q->r us H Q
def pe(f:gH)(m:cQ):aN:=λτ A R=>m τ A λvs A1=>f vs A1 R
section
variable{X:Cx}{N:En}{e:Expr}{es:List Expr}{m:cQ}{p pos:Pos}{f:gH}{r:List V->Hp->VK->Prop}{x:Str}{id T:String}
theorem B0(h:iV X.mg r f){σ:L2.St}{H:Hp}{Q:VK}(q:up X.mg N (pe f m) σ H Q):vf r (eS X.mg N m) σ H Q:=by
 obtain⟨A,ι,τ,R,S,q,k⟩:=q;exact⟨A,ι,τ,_,S,q,λvs b a H1 c d e g i=>h vs b a H1 c R Q g i d (k.from e)⟩
theorem eY(hc:dY X (.builtin id) r)(hd:iV X.mg r f)(c:X.mg x=none)(d:bootBuiltins x=some (.builtin id))(g:PA X (e::es) (eS X.mg N m))(i:Gl X x:=by rfl)(hn:x≠"__name__":=by decide)(a:(x==("__debug__":Str))=false:=by decide)
 (j:starEach (e::es) X.env=(false,eval e X.env)::starEach es X.env:=by rfl)(b:(backTo pos (starEach es X.env)).any (·.1)=false:=by rfl):PE X (.Call (.Name x p) (e::es) [] pos) (up X.mg N (pe f m)):=cT (Aa hc i c d g hn a j b) λ_ _ _ h=>B0 hd h
theorem Ek(hc:dY X (.type T) r)(hd:iV X.mg r f)(c:X.mg x=none)(d:bootBuiltins x=some (.type T))(g:PA X (e::es) (eS X.mg N m))(i:Gl X x:=by rfl)(hn:x≠"__name__":=by decide)(a:(x==("__debug__":Str))=false:=by decide)
 (j:starEach (e::es) X.env=(false,eval e X.env)::starEach es X.env:=by rfl)(b:(backTo pos (starEach es X.env)).any (·.1)=false:=by rfl):PE X (.Call (.Name x p) (e::es) [] pos) (up X.mg N (pe f m)):=cT (Jw hc i c d g hn a j b) λ_ _ _ h=>B0 hd h
end
@[irreducible] def qa(r:Nat)(A:Ar)(R:DK):Prop:=match A[r]? with
 |some (.lst xs)=>R (.int xs.length) A
 |some (.dct kvs)=>R (.int kvs.length) A
 |_=>False
def zw:gH:=λvs A R=>match vs with
 |[.tup xs]=>R (.int xs.length) A
 |[.str z]=>z.length<=sizeLine/\R (.int z.length) A
 |[.fl ns]=>R (.int ns.length) A
 |[.ref r]=>qa r A R
 |_=>False
theorem RK.length{mg:av}{ι:Io}{H:Hp}:∀{ds:List (Key×D)} {vs:List (Key×V)} {n:Nat},RK mg ι n H ds vs->ds.length=vs.length
 |[],vs,_,h=>by have h':vs=[]:=h;rw[h'];rfl
 |d::ds,vs,n,h=>by
  obtain⟨x,r,rfl,_,a⟩:=h;simp[RK.length a]
theorem gg{X:Cx}:dY X (.builtin "len") (λxs H Q=>(∃p ys,xs=[.ref p]/\(aX X.K H p ys\/bf X.K H p ys)/\Q (.int ys.length) H)\/(∃z,xs=[.str z]/\z.length<=sizeLine/\Q (.int z.length) H)\/∃a kvs,xs=[V.ref a]/\H a=some (.dK kvs)/\Q (.int kvs.length) H):=C6.or (C7.or C5)
theorem fm{mg:av}{K:Frag}:iV mg (λxs H Q=>(∃p ys,xs=[.ref p]/\(aX K H p ys\/bf K H p ys)/\Q (.int ys.length) H)\/(∃z,xs=[.str z]/\z.length<=sizeLine/\Q (.int z.length) H)\/∃a kvs,xs=[V.ref a]/\H a=some (.dK kvs)/\Q (.int kvs.length) H) zw:=by
 intro ds A ι H c R Q ra rs h k;unfold zw at h;split at h
 .obtain⟨_,_,rfl,⟨a,xs,rfl,d,b⟩,rfl⟩:=rs
  exact .inl ⟨a,xs,rfl,.inr (bf.of d),k.here ra h (by rw[ao.length b];rfl)⟩
 .obtain⟨_,_,rfl,rfl,rfl⟩:=rs
  exact .inr (.inl ⟨_,rfl,h.1,k.here ra h.2 rfl⟩)
 .obtain⟨_,_,rfl,⟨a,o,rfl,d⟩,rfl⟩:=rs
  exact .inl ⟨a,_,rfl,.inl (.inl (.inr ⟨o,d⟩)),k.here ra h (by rw[bC];rfl)⟩
 .obtain⟨_,_,rfl,⟨_,rfl⟩,rfl⟩:=rs
  unfold qa at h;split at h
  .rename_i xs e
   obtain⟨c,h1,b⟩:=ra.lst e;exact .inl ⟨_,c,rfl,.inl (aX.of h1),k.here ra h (by rw[ao.length b];rfl)⟩
  .rename_i xs e
   obtain⟨c,h1,b⟩:=ra.dct e;exact .inr (.inr ⟨_,c,rfl,h1,k.here ra h (by rw[RK.length b];rfl)⟩)
  .exact h.elim
 .exact h.elim
@[irreducible] def NK(r:Nat)(A:Ar)(R:DK):Prop:=match A[r]? with
 |some (.lst xs)=>R (.ref A.length) (A++[.lst xs])
 |_=>False
def gc:List D->Option (List Bool)
 |[]=>some []
 |.bl b::r=>(gc r).map (b::·)
 |_::_=>none
theorem xu{mg:av}{ι:Io}{n:Nat}{H:Hp}:∀{ds:List D} {a:List V} {bs:List Bool},gc ds=some bs->ao mg ι n H ds a->a=bs.map V.bl
 |[],a,bs,h,r=>by cases h;exact r
 |d::ds,a,bs,h,r=>by
  obtain⟨x,r',rfl,h1,h2⟩:=r;cases d with
  |bl b=>
   cases q:gc ds with
   |none=>simp[gc,q] at h
   |some l=>
    simp[gc,q] at h;subst h;rw[xu q h2];cases h1;rfl
  |_=>simp[gc] at h
@[irreducible] def allR(r:Nat)(A:Ar)(R:DK):Prop:=match A[r]? with
 |some (.lst xs)=>(match gc xs with
  |some bs=>R (.bl (bs.all id)) A
  |none=>False)
 |_=>False
def wX:gH:=λvs A R=>match vs with
 |[.ref r]=>allR r A R
 |_=>False
theorem D3{mg:av}{K:Frag}:iV mg (λxs H Q=>∃(p:Addr) (bs:List Bool),xs=[.ref p]/\aX K H p (bs.map V.bl)/\Q (.bl (bs.all id)) H) wX:=by
 intro ds A ι H a R Q ra rs h k;unfold wX at h;split at h
 .obtain⟨_,_,rfl,⟨_,rfl⟩,rfl⟩:=rs
  unfold allR at h;split at h
  .rename_i xs e
   split at h
   .rename_i bs b
    obtain⟨a,h1,c⟩:=ra.lst e;exact⟨_,bs,rfl,aX.of (by rw[h1,xu b c]),k.here ra h rfl⟩
   .exact h.elim
  .exact h.elim
 .exact h.elim
def lB(A:Ar):D->Option String
 |.aD=>some "NoneType"
 |.bl _=>some "bool"
 |.int _=>some "int"
 |.str _=>some "str"
 |.tup _=>some "tuple"
 |.fl _=>some "list"
 |.exc _=>none
 |.ref r=>match A[r]? with
  |some (.lst _)=>some "list"
  |some (.dct _)=>some "dict"
  |_=>none
def jb(t c:String):Bool:=t==c||(t=="bool"&&c=="int")
def DL(c:String)(m:aN):aN:=λτ A R=>m τ A λx A1=>match lB A1 x with
 |some t=>R (.bl (jb t c)) A1
 |none=>False
def tys:List String:=["NoneType","bool","int","str","tuple","list","dict"]
theorem M6{A:Ar}{d:D}{t:String}(h:lB A d=some t):t∈tys:=by
 cases d with
 |ref r=>
  unfold lB at h;simp only at h;split at h<;>first|(cases h;decide)|cases h
 |exc c=>cases h
 |_=>cases h;decide
theorem RA.ty{mg:av}{K:Frag}{A:Ar}{ι:Io}{H:Hp}(ra:RA mg ι H A){d:D}{v:V}{t:String}(h:lB A d=some t)(r:RV mg ι A.length H d v):mD K H v (.type t):=by
 cases d with
 |aD=>cases h;cases r;exact .of .aD
 |bl b=>cases h;cases r;exact .of (.bl b)
 |int b=>cases h;cases r;exact .of (.int b)
 |str b=>cases h;cases r;exact .of (.str b)
 |tup ds=>cases h;obtain⟨a,xs,rfl,e,_⟩:=r;exact .of (.tup e)
 |fl ns=>cases h;obtain⟨a,o,rfl,e⟩:=r;exact .of (.cj e)
 |exc c=>cases h
 |ref q=>
  obtain⟨_,rfl⟩:=r;unfold lB at h;simp only at h;split at h
  .rename_i xs e
   cases h;obtain⟨f,h1,_⟩:=ra.lst e;exact .of (.lst h1)
  .rename_i xs e
   cases h;obtain⟨f,h1,_⟩:=ra.dct e;exact .of (.dK h1)
  .cases h
section
variable{X:Cx}{N:En}{e:Expr}{es:List Expr}{m:aN}{p p2 pos:Pos}{x:Str}{c:String}
theorem mU(hk:∀t∈tys,kitOne X.K (.type t) (.type c)=some (jb t c))(l:X.mg "isinstance"=none)(b:X.mg x=none)(d:bootBuiltins x=some (.type c))(n:PE X e (up X.mg N m))(o:Gl X "isinstance":=by rfl)(f:Gl X x:=by rfl)(hn:x≠"__name__":=by decide)(g:(x==("__debug__":Str))=false:=by decide)
  (hs:starEach [e,.Name x p2] X.env=[(false,eval e X.env),(false,eval (.Name x p2) X.env)]:=by rfl):
  PE X (.Call (.Name "isinstance" p) [e,.Name x p2] [] pos) (up X.mg N (DL c m)):=by
 have r:PE X (.Name x p2) (tC (.ty c)):=Jt f b d rfl hn g;refine cT (Aa C4 o l boot_isinstance (uO n (uO r z6 rfl) (by rw[hs];rfl)) (by decide) (by decide) (by rw[hs];rfl) rfl) λσ H Q q=>?_;obtain⟨A,ι,τ,R,S,q,k⟩:=q;refine⟨A,ι,τ,_,S,q,λv h s H1 u a w i y=>?_⟩;have a:(match lB h v with|some t=>R (.bl (jb t c)) h|none=>False):=a;split at a
 .rename_i t j
  exact⟨u,c,.type t,jb t c,rfl,i.ty j y,hk t (M6 j),(k.from w).here i a rfl⟩
 .exact a.elim
end
abbrev l_:=D->List D->Ar->DK->Prop
def sd(mg:av)(K:Frag)(T:String)(r:V->List V->Hp->VK->Prop)(f:l_):Prop:=∀x ds A ι H u us R Q,RA mg ι H A->RV mg ι A.length H x u->ao mg ι A.length H ds us->f x ds A R->Kt mg A ι H R Q->r u us H Q
def jE(A:Ar):D->Bool
 |.ref r=>match A[r]? with
  |some (.lst _)=>true
  |_=>false
 |_=>false
def DO(f:l_)(mo:aN)(m:cQ):aN:=λτ A R=>mo τ A λx A1=>jE A1 x=true/\m τ A1 λvs A2=>f x vs A2 R
theorem RA.jE{mg:av}{K:Frag}{A:Ar}{ι:Io}{H:Hp}(ra:RA mg ι H A){d:D}{v:V}(h:jE A d=true)(r:RV mg ι A.length H d v):vv K "list" v H:=by
 cases d with
 |ref q=>
  obtain⟨_,rfl⟩:=r;unfold DP.jE at h;simp only at h;split at h
  .rename_i xs e
   obtain⟨a,h1,_⟩:=ra.lst e;exact .inl ⟨rfl,a,aX.of h1⟩
  .cases h
 |_=>cases h
section
variable{X:Cx}{N:En}{e o:Expr}{es:List Expr}{mo:aN}{m:cQ}{apos cpos:Pos}{f:l_}{r:V->List V->Hp->VK->Prop}{name:Str}{id:String}
theorem sU(pa:PlainAttrs "list")(slot:Slot "list" name id)(g:typeOf (.builtin id)=pure (.type "method_descriptor"))(t:we X id r)(hd:sd X.mg X.K "list" r f)(v:PE X o (up X.mg N mo))(w:PA X (e::es) (eS X.mg N m))
  (b:attributeBase o name X.env (eval o X.env)=eval o X.env:=by rfl)
  (d:((backTo cpos (starEach (e::es) X.env)).all (λx=> !x.1)&&(backToKw cpos (keywordEach [] X.env)).all (λx=>x.1.isSome)
   &&decide ((e::es).length+([]:List Keyword).length+(if ([]:List Keyword).isEmpty then 0 else 1)<30))=true:=by rfl)
  (c:(apos.endLine==cpos.line)=true:=by rfl)(hs:starEach (e::es) X.env=(false,eval e X.env)::starEach es X.env:=by rfl)(a:(backTo cpos (starEach es X.env)).any (·.1)=false:=by rfl):
  PE X (.Call (.Attribute o name apos) (e::es) [] cpos) (up X.mg N (DO f mo m)):=cT (Ju pa slot g t v w b d c hs a) λσ H Q q=>by
 obtain⟨A,ι,τ,R,S,q,k⟩:=q
 refine⟨A,ι,τ,_,S,q,λx y h H1 u j l n p=> ?_⟩
 refine⟨n.jE j.1 p,y,h,τ,_,S.next l n,j.2,λys z i H2 B C s D v2=> ?_⟩
 exact hd x ys z i H2 u B R Q D (RV.ext s x u p) v2 C (k.from (l.trans s))
end
theorem Ak{mg:av}{A:Ar}{ι:Io}{H:Hp}{R:DK}{Q:VK}{ds es:List D}{xs ys:List V}{q:Nat}{d:D}{v:V}(k:Kt mg A ι H R Q)(r:RA mg ι H A)(a:A[q]?=some (.lst ds))(b:H (ι q)=some (.lst xs))(h:ao mg ι A.length H es ys)
  (hq:R d (A.set q (.lst es)))(hd:∀H',RV mg ι A.length H' d v):Q v (upd H (ι q) (.lst ys)):=by
 have E:Ext A ι H (A.set q (.lst es)) ι (upd H (ι q) (.lst ys)):=r.tL (bY.mp a).1;obtain⟨c,e⟩:=r.put (c':=.lst es) (o:=.lst ys) a b rfl ⟨ys,gu,by simpa using ao.ext E es ys h⟩;exact k _ _ _ _ _ hq e c (by simpa using hd _)
@[irreducible] def oW(r:Nat)(y:D)(A:Ar)(R:DK):Prop:=match A[r]? with
 |some (.lst xs)=>xs.length<sizeLine/\R .aD (A.set r (.lst (xs++[y])))
 |_=>False
def wZ:l_:=λx vs A R=>match x,vs with
 |.ref r,[y]=>oW r y A R
 |_,_=>False
theorem xO{mg:av}{K:Frag}:sd mg K "list" Ao wZ:=by
 intro x ds A ι H u d R Q ra b rs h k;unfold wZ at h;split at h
 .obtain⟨_,rfl⟩:=b
  obtain⟨v,_,rfl,c,rfl⟩:=rs;unfold oW at h;split at h
  .rename_i xs e
   obtain⟨ws,h1,a⟩:=ra.lst e;exact⟨_,ws,v,rfl,rfl,h1,by rw[<-ao.length a];exact h.1,Ak k ra e h1 (a.app (es:=[_]) (ws:=[v]) ⟨v,[],rfl,c,rfl⟩) h.2 λ_=>rfl⟩
  .exact h.elim
 .exact h.elim
@[irreducible] def pR(r q:Nat)(A:Ar)(R:DK):Prop:=match A[r]?,A[q]? with
 |some (.lst xs),some (.lst ys)=>xs.length+ys.length<=sizeLine/\R .aD (A.set r (.lst (xs++ys)))
 |_,_=>False
def yq:l_:=λx vs A R=>match x,vs with
 |.ref r,[.ref q]=>pR r q A R
 |_,_=>False
theorem D5{mg:av}{K:Frag}:sd mg K "list" Au yq:=by
 intro x ds A ι H u f R Q ra c rs h k;unfold yq at h;split at h
 .obtain⟨_,rfl⟩:=c
  obtain⟨v,_,rfl,⟨_,rfl⟩,rfl⟩:=rs;unfold pR at h;split at h
  .rename_i xs ys e d
   obtain⟨ws,h1,a⟩:=ra.lst e;obtain⟨zs,h2,b⟩:=ra.lst d;exact⟨_,_,ws,zs,rfl,rfl,h1,h2,by rw[<-ao.length a,<-ao.length b];exact h.1,Ak k ra e h1 (a.app b) h.2 λ_=>rfl⟩
  .exact h.elim
 .exact h.elim
def K8(RE:DX)(c:Str)(m:cQ):cX:=λ_ τ A=>m τ A λvs A1=>vs.length<=sizeLine/\RE c A1
theorem yg{X:Cx}{N:En}{RE:DX}{x:Str}{C:Addr}{e:Expr}{m:cQ}{np cpos pos:Pos}(f:Raises X (EL X.mg N RE))(hc:X.calm=true)(c:X.mg x=some (.ref C))(g:excIn X.K C rz "ValueError.__new__"=true)(h:PA X [e] (eS X.mg N m))(i:Gl X x:=by rfl)(a:(x==("__debug__":Str))=false:=by decide)
  (j:starEach [e] X.env=[(false,eval e X.env)]:=by rfl):PS X (.Raise (some (.Call (.Name x np) [e] [] cpos)) none pos) (cE X.mg N (K8 RE x m)):=gR (Kf f hc c g h i a j) λQ σ H q=>by
 obtain⟨A,ι,τ,R,S,q,k⟩:=q;exact⟨A,ι,τ,_,S,q,λvs l b H1 r d n o p=>⟨by rw[<-ao.length p];exact d.1,x,l,b,⟨C,rfl,c⟩,S.ex.trans n,o,d.2⟩⟩
def gm:D->Bool
 |.int _|.str _=>true
 |_=>false
def m6:D->D->Bool
 |.int i,.int j=>decide (i=j)
 |.str a,.str b=>decide (a=b)
 |_,_=>false
def kR(x:D)(xs:List D):Bool:=xs.any λy=>m6 y x
section
variable{mg:av}{K:Frag}{A:Ar}{ι:Io}{H:Hp}{n:Nat}
theorem tM{d:D}{v:V}(h:gm d=true)(r:RV mg ι n H d v):gV v=true:=by
 cases d with
 |int i=>cases r;rfl
 |str i=>cases r;rfl
 |_=>cases h
theorem Fc{d e:D}{u v:V}(h1:gm d=true)(h2:gm e=true)(b:RV mg ι n H d u)(a:RV mg ι n H e v):fO u v=m6 d e:=by
 cases d with
 |int i=>
  cases b;cases e with
  |int j=>cases a;simp[fO,m6,Bool.beq_eq_decide_eq]
  |str j=>cases a;rfl
  |_=>cases h2
 |str i=>
  cases b;cases e with
  |int j=>cases a;rfl
  |str j=>cases a;simp[fO,m6,Bool.beq_eq_decide_eq]
  |_=>cases h2
 |_=>cases h1
theorem tW{x:D}{v:V}(a:gm x=true)(b:RV mg ι n H x v):∀{ds:List D} {vs:List V},ds.all gm=true->ao mg ι n H ds vs->pZ v vs=kR x ds/\vs.all gV=true
 |[],vs,_,r=>by cases (show vs=[] from r);exact⟨rfl,rfl⟩
 |d::ds,vs,h,r=>by
  obtain⟨y,r',rfl,h1,h2⟩:=r;have h':gm d=true/\ds.all gm=true:=by simpa using h
  obtain⟨g1,g2⟩:=tW a b h'.2 h2;constructor
  .show(fO y v||pZ v r')=(m6 d x||kR x ds)
   rw[Fc h'.1 a h1 b,g1]
  .simp[tM h'.1 h1,g2]
end
abbrev Aw(neg:Bool):R2:=λx y H Q=>∃a o,y=.ref a/\l9 H a x o/\Q (.bl (if neg then !o.isSome else o.isSome)) H
theorem IS{X:Cx}(e:X.A.units+64<cLine):aT X (compareOp .NotIn) (Aw true):=by
 intro pins s σ H x y v u Q I b c h;obtain⟨a,o,rfl,g,q⟩:=h;cases c;exact Ed (by omega) I g b λf d=>⟨.bl (!o.isSome),H,d,rfl,q⟩
@[irreducible] def inR(neg:Bool)(x:D)(r:Nat)(A:Ar)(R:DK):Prop:=match A[r]? with
 |some (.lst xs)=>gm x=true/\xs.all gm=true/\R (.bl (if neg then !kR x xs else kR x xs)) A
 |some (.dct kvs)=>(match gY x with
  |some k=>R (.bl (if neg then !(b6 kvs k).isSome else (b6 kvs k).isSome)) A
  |none=>False)
 |_=>False
def inD(neg:Bool):cW:=λx y A R=>match y with
 |.tup xs=>gm x=true/\xs.all gm=true/\R (.bl (if neg then !kR x xs else kR x xs)) A
 |.ref r=>inR neg x r A R
 |_=>False
theorem D8{mg:av}{K:Frag}(neg:Bool):cR mg (λx y H Q=>Av K neg x y H Q\/Aw neg x y H Q) (inD neg):=by
 intro x y A ι H u v R Q ra c i h k;unfold inD at h;split at h
 .obtain⟨a,xs,rfl,j,f⟩:=i
  obtain⟨g1,g2⟩:=tW h.1 c h.2.1 f;exact .inl ⟨a,xs,rfl,.inr (bf.of j),tM h.1 c,g2,by rw[g1];exact k.here ra h.2.2 rfl⟩
 .obtain⟨_,rfl⟩:=i
  unfold inR at h;split at h
  .rename_i xs e
   obtain⟨g,h1,f⟩:=ra.lst e;obtain⟨g1,g2⟩:=tW h.1 c h.2.1 f;exact .inl ⟨_,g,rfl,.inl (aX.of h1),tM h.1 c,g2,by rw[g1];exact k.here ra h.2.2 rfl⟩
  .rename_i kvs e
   obtain⟨g,h1,f⟩:=ra.dct e;split at h
   .rename_i b l
    cases ng l c;obtain⟨g1,g2⟩:=RK.get (k:=b) f;refine .inr ⟨_,dB g b,rfl,.inl ⟨g,b,.inl h1,rfl,rfl⟩,?_⟩;have m:(dB g b).isSome=(b6 kvs b).isSome:=by
     cases q:b6 kvs b with
     |none=>rw[g2 q];rfl
     |some d=>obtain⟨z,hz,_⟩:=g1 d q;rw[hz];rfl
    rw[m];exact k.here ra h rfl
   .exact h.elim
  .exact h.elim
 .exact h.elim
section
variable{X:Cx}{N:En}{pos:Pos}{a b c:Expr}{ma mb mc:aN}{x:Str}
theorem vr(i:Nat)(b:X.N[i]?=some x:=by rfl)(c:mE X.env.scope x:=by first|exact Or.inl rfl|exact Or.inr (Or.inl rfl)|exact Or.inr (Or.inr rfl))(hd:(x==("__debug__":Str))=false:=by decide)
 (a:(x==("__classdict__":Str))=false:=by decide):PE X (.Name x pos) (up X.mg N (sR i)):=Ew b c hd a
theorem pO(c:X.A.units+64<cLine)(d:PE X a (up X.mg N ma))(e:PE X b (up X.mg N mb)):PE X (.Compare a [.Eq] [b] pos) (up X.mg N (cY m5 ma mb)):=sS (zW c) xP d e (jQ _)
theorem c_(c:X.A.units+64<cLine)(d:PE X a (up X.mg N ma))(e:PE X b (up X.mg N mb)):PT X (.Compare a [.Eq] [b] pos) (b7 X.mg N (gh (cY m5 ma mb))):=kJ (zW c) xP d e (jQ _)
theorem nV(c:X.A.units+64<cLine)(d:PE X a (up X.mg N ma))(e:PE X b (up X.mg N mb)):PT X (.Compare a [.NotEq] [b] pos) (b7 X.mg N (gh (cY uE ma mb))):=kJ (IQ c) Ec d e (jQ _)
theorem MR(c:PE X a (up X.mg N ma))(d:PE X b (up X.mg N mb)):PT X (.Compare a [.Lt] [b] pos) (b7 X.mg N (gh (cY uq ma mb))):=kJ IP Ea c d (jQ _)
theorem MO(c:PE X a (up X.mg N ma))(d:PE X b (up X.mg N mb)):PT X (.Compare a [.Gt] [b] pos) (b7 X.mg N (gh (cY yQ ma mb))):=kJ Jc D7 c d (jQ _)
theorem yj(c:PE X a (up X.mg N ma))(d:PE X b (up X.mg N mb)):PE X (.Compare a [.IsNot] [b] pos) (up X.mg N (cY qo ma mb)):=sS z4 xR c d (jQ _)
theorem MP(c:PE X a (up X.mg N ma))(d:PE X b (up X.mg N mb)):PT X (.Compare a [.IsNot] [b] pos) (b7 X.mg N (gh (cY qo ma mb))):=kJ z4 xR c d (jQ _)
theorem MS(c:X.A.units+64<cLine)(d:PE X a (up X.mg N ma))(e:PE X b (up X.mg N mb))(f:behindInMarks .NotIn b=false:=by rfl):PT X (.Compare a [.NotIn] [b] pos) (b7 X.mg N (gh (cY (inD true) ma mb))):=kJ (Jm.or (IS c)) (D8 true) d e f
theorem yk(d:PE X a (up X.mg N ma))(e:PE X b (up X.mg N mb))(hc:PE X c (up X.mg N mc))(f:lastMarks [.LtE,.LtE] [b,c]=false:=by with_unfolding_all rfl):PE X (.Compare a [.LtE,.LtE] [b,c] pos) (up X.mg N (mR k6 k6 ma mb mc)):=Ej qp qp pC pC d e hc f
theorem MQ(d:PE X a (up X.mg N ma))(e:PE X b (up X.mg N mb))(hc:PE X c (up X.mg N mc))(f:lastMarks [.LtE,.LtE] [b,c]=false:=by with_unfolding_all rfl):PT X (.Compare a [.LtE,.LtE] [b,c] pos) (b7 X.mg N (gh (mR k6 k6 ma mb mc))):=EV qp qp pC pC d e hc f
end
theorem fP{P:Program}{w:World}{K:Frag}{mg:av}{base:Heap}{x:Str}{st:Stmt}{Nm ps:List Str}{k n:Nat}{S:Ct}(T:TopD K mg x st ps)(Sc:bq Nm ps (aJ st))(hn:ps.length=n)(c:ps.length<=Nm.length)
  (b:∀(N:En) (RE:DX) (f:Addr) (a:Value) (B:Around) (outer:List Env) (s:Shared) (H:Hp) (E:XK),cC k (bQ (a_ P w) P w K mg base Nm x (aJ st) f a B outer s H E).A->
   Raises (bQ (a_ P w) P w K mg base Nm x (aJ st) f a B outer s H E) (EL mg N RE)->Passes (a_ P w) (bQ (a_ P w) P w K mg base Nm x (aJ st) f a B outer s H E) (EL mg N RE)->
   ∀ds A R,S ds A R RE->ds.length=n->∃m,cB (bQ (a_ P w) P w K mg base Nm x (aJ st) f a B outer s H E) (eZ st) (cE mg N m)/\m {nx:=λ_ A'=>R .aD A',rt:=R} (iM (Nm.length - n) ds) A):aC P w K mg base (k+1) x ps (aE mg n S):=by
 refine TopD.fP T Sc hn c λN RE X _ _ _ _ _ _ _ _ d e g i ds A R h j=>?_;obtain⟨f,a,B,outer,s,H,E,rfl⟩:=d;exact b N RE f a B outer s H E e g i ds A R h j
def Lb(c:di)(b:cX):cX:=λR τ A=>∃W:Nat->bA->Ar->Prop,(∃n,W n τ A)/\∀n τ A,W n τ A->c τ A λk A1=>cond k (∃Nx:bA->Ar->Prop,(∀bZ A',Nx bZ A'->∃n',n'<n/\W n' bZ A')/\b {R with nx:=Nx,ct:=Nx,bk:=R.nx} τ A1) (R.nx τ A1)
section
variable{X:Cx}{N:En}{pos:Pos}{c:Expr}{body:List Stmt}{tc:di}{tb:cX}
theorem EU(y:PassesOwn (model X.prog X.w) X.A X.env X.xe)(hc:PT X c (b7 X.mg N tc))(B:cB X body (cE X.mg N tb)):PS X (.While c body [] pos) (cE X.mg N (Lb tc tb)):=gR (Kl y hc B) λQ σ H q=>by
 obtain⟨A,ι,τ,R,S,⟨W,⟨n,C⟩,turn⟩,k⟩:=q;refine⟨λn σ' H'=>∃A' ι' bZ,cK X.mg N A' ι' bZ σ' H'/\Ext A ι H A' ι' H'/\W n bZ A',⟨n,A,ι,τ,S,S.ra.refl,C⟩,?_⟩;rintro m D H1 ⟨x,o,d,g,h,E⟩;refine⟨x,o,d,_,g,turn m d x E,λb F p H2 j a l=>?_⟩;cases b with
 |true=>
  rw[aj rfl];obtain⟨G,I,j⟩:=j;refine⟨λσ' H'=>∃A' ι' bZ,cK X.mg N A' ι' bZ σ' H'/\Ext A ι H A' ι' H'/\G bZ A',λσ' H' ⟨A',ι',bZ,J,K,z⟩=>?_,?_⟩
  .obtain⟨L,M,O⟩:=I bZ A' z
   exact⟨L,M,A',ι',bZ,J,K,O⟩
  .refine⟨F,p,d,_,g.next a l,j,⟨?_,k.rt.from (h.trans a),k.nx.from (h.trans a),?_⟩⟩
   .exact λe r f s P t i u v=>⟨r,f,e,(g.next a l).to i u v,(h.trans a).trans i,t⟩
   .exact λe r f s P t i u v=>⟨r,f,e,(g.next a l).to i u v,(h.trans a).trans i,t⟩
 |false=>
  rw[ai bP];exact(k.nx.from (h.trans a)).here (g.next a l) j
end
structure mw(mg:av)(A0:Ar)(Cb:Io)(H0:Hp)(J:It)(items:List D)(dj:Ar->Prop):Prop where
 go:∀(i:Nat) d A ι H,items[i]? =some d->Ext A0 Cb H0 A ι H->RA mg ι H A->dj A->J.go i H/\∀x H',J.rC i H x H'->Ext A ι H A ι H'/\RA mg ι H' A/\RV mg ι A.length H' d x
 stop:∀A ι H,Ext A0 Cb H0 A ι H->RA mg ι H A->dj A->J.stop items.length H
abbrev iW:=bA->Ar->(List D->(Ar->Prop)->Ar->Prop)->Prop
def lC(mg:av)(N:En)(m:iW):TI:=λσ H Q=>∃A ι τ R,cK mg N A ι τ σ H/\m τ A R/\∀items dj A' ι' H' J,R items dj A'->Ext A ι H A' ι' H'->RA mg ι' H' A'->mw mg A' ι' H' J items dj->Q J H'
theorem yc{X:Cx}{tg e:Expr}{t t':TI}(h:PI X tg e t)(w:∀σ H Q,t' σ H Q->t σ H Q):PI X tg e t':=λpins s σ H Q I q=>h pins s σ H Q I (w σ H Q q)
section
variable{mg:av}{K:Frag}{A:Ar}{ι:Io}{H:Hp}
theorem Hg{a:Addr}{ds:List D}{xs:List V}(f:H a=some (.tup xs))(g:ao mg ι A.length H ds xs):mw mg A ι H (r_ K a) ds (λ_=>True) where
 go:=λi d h c H1 hd e r _=>by
  have b:=e.fix rfl f;obtain⟨v,h1,h2⟩:=ao.get (ao.ext e ds xs g) hd;refine⟨⟨xs,v,bf.of b,h1⟩,λx H' y=>?_⟩;obtain⟨rfl,y⟩:=y;have:=y xs (bf.of b);rw[h1] at this;cases this;exact⟨r.refl,r,h2⟩
 stop:=λh c H1 e r _=>⟨xs,bf.of (e.fix rfl f),by rw[ao.length g];exact aF _⟩
theorem G9{a:Addr}{o:Obj}{ns:List Int}(f:H a=some (.cj o (.lst (ns.map V.int)))):mw mg A ι H (oR K a) (ns.map D.int) (λ_=>True) where
 go:=λi d g b H1 hd e r _=>by
  have c:aX K H1 a (ns.map V.int):=.inl (.inr ⟨o,e.fix rfl f⟩);obtain⟨v,h1,h2⟩:=ao.get (ao.ints (mg:=mg) (ι:=b) (H:=H1) ns (n:=g.length)) hd;refine⟨⟨_,v,c,h1⟩,λx H' y=>?_⟩;obtain⟨rfl,y⟩:=y;have:=y _ c;rw[h1] at this;cases this;exact⟨r.refl,r,h2⟩
 stop:=λg b H1 e r _=>⟨_,.inl (.inr ⟨o,e.fix rfl f⟩),by simp⟩
theorem G_{q:Nat}{ds:List D}(hq:q<A.length):mw mg A ι H (oR K (ι q)) ds (λA'=>A'[q]?=some (.lst ds)) where
 go:=λi d b a H1 hd e r hc=>by
  obtain⟨xs,h1,h2⟩:=r.lst hc;rw[e.ag q hq] at h1;obtain⟨v,h3,c⟩:=ao.get h2 hd;refine⟨⟨xs,v,aX.of h1,h3⟩,λx H' y=>?_⟩;obtain⟨rfl,y⟩:=y;have:=y xs (aX.of h1);rw[h3] at this;cases this;exact⟨r.refl,r,c⟩
 stop:=λb a H1 e r hc=>by
  obtain⟨xs,h1,h2⟩:=r.lst hc;rw[e.ag q hq] at h1;exact⟨xs,aX.of h1,by rw[ao.length h2];exact aF _⟩
def iL(z:Str):List D:=z.cps.toList.map λc=>D.str ⟨#[c]⟩
theorem Hf{z:Str}:mw mg A ι H (r9 z) (iL z) (λ_=>True) where
 go:=λi d b a H1 hd e r _=>by
  unfold iL at hd;rw[bF] at hd;cases q:z.cps.toList[i]? with
  |none=>rw[q] at hd;cases hd
  |some j=>
   rw[q] at hd;cases hd;have hi:=(bY.mp q).1;refine⟨show i<z.cps.size by simpa using hi,λx H' y=>?_⟩;obtain⟨rfl,c,hc,rfl⟩:=y;have:z.cps.toList[i]?=some c:=by simpa using hc
   rw[q] at this;cases this;exact⟨r.refl,r,rfl⟩
 stop:=λb a H1 e r _=>by
  show _=_;simp[iL]
end
def GL(K:Frag)(tl:TE):TI:=λσ H R=>tl σ H λx H1=>(∃a,x=.ref a/\(∃xs,aX K H1 a xs)/\R (oR K a) H1)\/(∃a,x=.ref a/\(∃xs,bf K H1 a xs)/\R (r_ K a) H1)
theorem JV{X:Cx}{tg l:Expr}{tl:TE}(i:PE X l tl):PI X tg l (GL X.K tl):=by
 intro pins s σ H R I h;refine aG (i pins s σ H _ I h) λv c ⟨x,H1,d,g,j⟩=>?_;rcases j with⟨a,e,⟨xs,hq⟩,q⟩|⟨a,e,⟨xs,hq⟩,q⟩
 .subst e
  cases g;obtain⟨its,k,p,hz⟩:=d.list hq;refine rP p.isList ?_;refine⟨c.heap.objs.size,[c.heap.objs.size],_,_,H1,rfl,d.kept (t':=c.toks) λb o e=>aR _ e,M1 a _,⟨_,bK _ rfl,rfl,rfl⟩,λb f=>?_,q⟩;have e:b=c.heap.objs.size:=by simpa using f
  subst e;exact d.tN (aF _) (d.hok.fresh (aF _))
 .subst e
  cases g;obtain⟨its,k,p,hz⟩:=d.tuple hq;refine wpAny_pyIter_tuple (show c.heap.IsTuple a its.toArray from p) ?_;refine⟨c.heap.objs.size,[c.heap.objs.size],_,_,H1,rfl,d.kept (t':=c.toks) λb o e=>aR _ e,M5 a _,⟨_,bK _ rfl,rfl,rfl⟩,λb f=>?_,q⟩;have e:b=c.heap.objs.size:=by simpa using f
  subst e;exact d.tN (aF _) (d.hok.fresh (aF _))
@[irreducible] def itR(r:Nat)(A:Ar)(R:List D->(Ar->Prop)->Ar->Prop):Prop:=match A[r]? with
 |some (.lst xs)=>R xs (λA'=>A'[r]?=some (.lst xs)) A
 |_=>False
def GK(m:aN):iW:=λτ A R=>m τ A λx A1=>match x with
 |.tup xs=>R xs (λ_=>True) A1
 |.fl ns=>R (ns.map .int) (λ_=>True) A1
 |.ref r=>itR r A1 R
 |_=>False
def GO(m:aN):iW:=λτ A R=>m τ A λx A1=>match x with
 |.str z=>R (iL z) (λ_=>True) A1
 |_=>False
section
variable{X:Cx}{N:En}{pos p:Pos}{tg e a b:Expr}{m:aN}{n:cQ}{nm:Str}{px:Pos}
theorem iA(i:PE X e (up X.mg N m)):PI X tg e (lC X.mg N (GK m)):=yc (JV i) λσ H Q q=>by
 obtain⟨A,ι,τ,R,S,q,k⟩:=q;refine⟨A,ι,τ,_,S,q,λx d c H1 u a g f h=>?_⟩;cases x with
 |tup ds=>
  obtain⟨b,xs,rfl,h1,h2⟩:=h;exact .inr ⟨b,rfl,⟨xs,bf.of h1⟩,k ds _ d c H1 _ a g f (Hg h1 h2)⟩
 |fl ns=>
  obtain⟨b,o,rfl,h1⟩:=h;exact .inl ⟨b,rfl,⟨_,.inl (.inr ⟨o,h1⟩)⟩,k _ _ d c H1 _ a g f (G9 h1)⟩
 |ref r=>
  obtain⟨j,rfl⟩:=h;have a:itR r d R:=a;unfold itR at a;split at a
  .rename_i xs e
   obtain⟨l,h1,_⟩:=f.lst e;exact .inl ⟨_,rfl,⟨l,aX.of h1⟩,k _ _ d c H1 _ a g f (G_ j)⟩
  .exact a.elim
 |_=>exact a.elim
theorem EE(c:PE X e (up X.mg N m)):PI X (.Name nm px) e (lC X.mg N (GO m)):=yc (JW c) λσ H Q q=>by
 obtain⟨A,ι,τ,R,S,q,k⟩:=q;refine⟨A,ι,τ,_,S,q,λx d a H1 u b f g h=>?_⟩;cases x with
 |str z=>exact⟨z,h,k _ _ d a H1 _ b f g Hf⟩
 |_=>exact b.elim
end
def kF(dj:Ar->Prop)(g:iw)(b:cX)(R:l8):List D->bA->Ar->Prop
 |[],τ,A=>dj A/\R.nx τ A
 |x::xs,τ,A=>dj A/\g x τ A λvW A1=>b {R with nx:=kF dj g b R xs,ct:=kF dj g b R xs,bk:=R.nx} vW A1
def K1(it:iW)(g:iw)(b:cX):cX:=λR τ A=>it τ A λitems dj A1=>kF dj g b R items τ A1
theorem mZ{X:Cx}{N:En}{pos:Pos}{tg iter:Expr}{body:List Stmt}{it:iW}{g:iw}{tb:cX}(T:PassesOwn (model X.prog X.w) X.A X.env X.xe)(hc:X.calm=true)(hi:PI X tg iter (lC X.mg N it))(U:PG X tg (nZ X.mg N g))(V:cB X body (cE X.mg N tb))
  (hs:∀x,foldedSetIterable iter X.env x=pure x:=by intro _;rfl):PS X (.For tg iter body [] pos) (cE X.mg N (K1 it g tb)):=gR (Kc T hc hi U V hs) λQ σ H q=>by
 obtain⟨A,ι,τ,R,S,q,k⟩:=q;refine⟨A,ι,τ,_,S,q,λitems n v b H1 J W s O P=>?_⟩;have Y:=S.next s O;refine⟨λi m σ' H'=>m=items.length - i/\i<=items.length/\∃A' ι' bZ,cK X.mg N A' ι' bZ σ' H'/\Ext v b H1 A' ι' H'/\kF n g tb R (items.drop i) bZ A',⟨_,rfl,b9 _,v,b,τ,Y,O.refl,by simpa using W⟩,?_⟩;rintro i m Z H2 ⟨rfl,hi,B,c,C,d,f,h⟩;by_cases D:i<items.length
 .right
  have hd:items.drop i=items[i]::items.drop (i+1):=by rw[lS D]
  rw[hd] at h;obtain⟨o,h⟩:=h;obtain⟨g1,g2⟩:=P.go i items[i] B c H2 (by rw[aZ D]) f d.ra o;refine⟨g1,λσ' H'=>∃A' ι' bZ,cK X.mg N A' ι' bZ σ' H'/\Ext v b H1 A' ι' H'/\kF n g tb R (items.drop (i+1)) bZ A',λσ' H' ⟨A',ι',bZ,z⟩=>⟨_,by omega,rfl,D,A',ι',bZ,z⟩,λx H3 y=>?_⟩;obtain⟨p,t,v3⟩:=g2 x H3 y;refine⟨B,c,C,items[i],_,d.next p t,v3,h,λE A4 F Nr H4 q4 u G s4=>?_⟩;have a:=p.trans u;refine⟨A4,F,E,_,(d.next p t).to u G s4,q4,⟨?_,k.rt.from ((s.trans f).trans a),k.nx.from ((s.trans f).trans a),?_⟩⟩
  .exact λj I l K H5 L r M s5=>⟨I,l,j,((d.next p t).to u G s4).to r M s5,(f.trans a).trans r,L⟩
  .exact λj I l K H5 L r M s5=>⟨I,l,j,((d.next p t).to u G s4).to r M s5,(f.trans a).trans r,L⟩
 .left
  have e:i=items.length:=by omega
  subst e;rw[List.drop_length] at h;exact⟨P.stop B c H2 f d.ra h.1,(k.nx.from (s.trans f)).here d h.2⟩
def vz:Option Nat->D->Option (List D)
 |none,x=>some [x]
 |some k,.tup ds=>if ds.length=k then some ds else none
 |some _,_=>none
def kC(dj:Ar->Prop)(k:Option Nat)(fr:bA)(tt:di)(te:aN)(R:List D->Ar->Prop):List D->List D->Ar->Prop
 |[],ys,A=>dj A/\R ys A
 |x::xs,ys,A=>dj A/\match vz k x with
  |some vs=>tt (vs.map some++fr) A λb A3=>cond b (te (vs.map some++fr) A3 λy A4=>ys.length<sizeLine/\kC dj k fr tt te R xs (ys++[y]) A4) (kC dj k fr tt te R xs ys A3)
  |none=>False
def sQ(k:Option Nat)(ix:List Nat)(it:iW)(tt:di)(te:aN):aN:=λτ A R=>it τ A λitems dj A1=>kC dj k (ix.map (lk τ)) tt te (λys A2=>R (.ref A2.length) (A2++[.lst ys])) items [] A1
def m7:Nat->Nat->gP
 |_,0=>yI
 |i,n+1=>yH (kP i) (m7 (i+1) n)
def q_(K:Frag):Option Nat->TG
 |none=>kP 0
 |some k=>yJ K k (m7 0 k)
theorem yP{Q:L2.St->Hp->Prop}{H:Hp}{fs:L2.St}:∀(xs:List V) (a:L2.St),Q (a++(xs.map some++fs)) H->m7 a.length xs.length xs (a++(replicate xs.length none++fs)) H Q
 |[],a,h=>⟨rfl,by simpa using h⟩
 |x::r,a,h=>by
  refine⟨x,r,rfl,?_⟩;show m7 (a.length+1) r.length r ((a++(replicate (r.length+1) none++fs)).set a.length (some x)) H Q;have e:(a++(replicate (r.length+1) none++fs)).set a.length (some x)=(a++[some x])++(replicate r.length none++fs):=by
   rw[List.set_append_right _ _ (aF _)];simp[List.replicate_succ]
  rw[e];have:=yP r (a++[some x]) (by simpa using h);simpa using this
theorem zh{fs:L2.St}:∀(xs:L2.St),eK (replicate xs.length none++fs) (xs++fs)
 |[]=>eK.refl fs
 |x::r=>.own (zh r)
section
variable{mg:av}{K:Frag}{A:Ar}{ι:Io}{H:Hp}
theorem MT{k:Option Nat}{d:D}{vs:List D}{x:V}{n:Nat}(b:vz k d=some vs)(r:RV mg ι n H d x):∃xs,ao mg ι n H vs xs/\vs.length=k.getD 1/\∀(fs:L2.St) (Q:L2.St->Hp->Prop),Q (xs.map some++fs) H->q_ K k x (replicate (k.getD 1) none++fs) H Q:=by
 cases k with
 |none=>
  cases b;exact⟨[x],⟨x,[],rfl,r,rfl⟩,rfl,λfs Q q=>q⟩
 |some k=>
  cases d with
  |tup ds=>
   have b:(if ds.length=k then some ds else none)=some vs:=b;by_cases c:ds.length=k
   .rw[aj c] at b
    cases b;obtain⟨a,xs,rfl,h1,h2⟩:=r;have f:=ao.length h2;refine⟨xs,h2,c,λfs Q q=>⟨a,xs,rfl,bf.of h1,by rw[<-f];exact c,?_⟩⟩;have:=yP (Q:=Q) (H:=H) (fs:=fs) xs [] q;show m7 0 k xs (replicate k none++fs) H Q;have e:k=xs.length:=by rw[<-f,c]
    rw[e];exact this
   .rw[ai c] at b
    cases b
  |_=>cases b
theorem RA.off(R:RA mg ι H A){p:Addr}{o u:HO}(a:∀r,r<A.length->ι r≠p)(d:H p=some u)(e:gn u=true):RA mg ι (upd H p o) A:=
 ⟨λr c h=>CO.ag (aF _) (λ_ _=>rfl) (λb q m z=>by
  rw[bz]
  .exact z
  .rintro rfl
   rw[d] at z;cases z;rw[e] at m;cases m) (λq z=>by rw[bz (a r (bY.mp h).1)];exact z) c (R.fk r c h),R.inj⟩
end
theorem L4{own:List Str}{ix:List Nat}{σ:L2.St}:L2.stC own ix σ=replicate own.length none++ix.map λi=>(σ[i]?).join:=by
 unfold L2.stC;rw[List.map_const']
theorem zB:∀(ds:List D) (fr:bA) (i:Nat) (d:D),lk (ds.map some++fr) i=some d->(ds[i]?=some d)\/(ds.length<=i/\lk fr (i - ds.length)=some d)
 |[],fr,i,d,h=>.inr ⟨b9 _,by simpa using h⟩
 |x::r,fr,0,d,h=>.inl (by simpa[lk] using h)
 |x::r,fr,i+1,d,h=>by
  rcases zB r fr i d (by simpa[lk] using h) with q|⟨a,b⟩
  .exact .inl (by simpa using q)
  .exact .inr ⟨by simpa using a,by simpa using b⟩
theorem RS.block{mg:av}{ι:Io}{n:Nat}{H:Hp}{τ:bA}{σ:L2.St}{ix:List Nat}{vs:List D}{xs:List V}(r:RS mg ι n H τ σ)(h:ao mg ι n H vs xs):RS mg ι n H (vs.map some++ix.map (lk τ)) (xs.map some++ix.map λi=>(σ[i]?).join):=⟨by simp[ao.length h],λi d q=>by
 have b:=ao.length h;rcases zB vs _ i d q with q|⟨c,a⟩
 .obtain⟨v,h1,h2⟩:=ao.get h q
  have hi:=(bY.mp h1).1;exact⟨v,by rw[fZ (by simpa using hi),bF,h1];rfl,h2⟩
 .rw[qb,bF] at a
  cases e:ix[i - vs.length]? with
  |none=>rw[e] at a;simp at a
  |some j=>
   rw[e] at a;have a:lk τ j=some d:=by simpa using a
   obtain⟨v,h1,h2⟩:=r.at' j d a;refine⟨v,?_,h2⟩;rw[jt (by simpa[<-b] using c),bF,bC,<-b,e];simp[h1]⟩
section
variable{X:Cx}{N:En}{own frees:List Str}{ix:List Nat}{it:iW}{tt:di}{te:aN}{k:Option Nat}
theorem B4(hk:own.length=k.getD 1){tT:CP->TT}(hT:∀c σ H Q,b7 X.mg N tt σ H Q->tT c σ H Q){σ:L2.St}{H:Hp}{Q:VK}(q:up X.mg N (sQ k ix it tt te) σ H Q):vh own ix (lC X.mg N it) (λ_=>q_ X.K k) tT (λ_=>up X.mg N te) σ H Q:=by
 obtain⟨A,ι,τ,R,S,q,kq⟩:=q;refine⟨A,ι,τ,_,S,q,λitems W A1 F H1 J q1 e1 r1 j1 c acc f=>?_⟩;have S1:=S.next e1 r1;rw[L4,hk];have Y:∀r,r<A1.length->F r≠acc:=λr n z=>by
  obtain⟨o,h1,_⟩:=r1.im r n;rw[z,f] at h1;cases h1
 have rn:=r1.yt (o:=.lst []) f;refine⟨λi m ys H'=>m=items.length - i/\i<=items.length/\∃A' ι' d,RA X.mg ι' H' A'/\Ext A1 F H1 A' ι' H'/\(∀r,r<A'.length->ι' r≠acc)/\H' acc=some (.lst ys)/\ao X.mg ι' A'.length H' d ys/\kC W k (ix.map (lk τ)) tt te (λys a=>R (.ref a.length) (a++[.lst ys])) (items.drop i) d A',
  ⟨_,rfl,b9 _,A1,F,[],r1.fix rn (λb o z=>by rw[bz (dP z f)];exact z),rn,Y,gu,rfl,by simpa using q1⟩,?_⟩
 rintro i m ys H2 ⟨rfl,hi,a,g,d,r2,D,l,hy,ry,E⟩;refine⟨hy,?_⟩;by_cases G:i<items.length
 .right
  have hd:items.drop i=items[i]::items.drop (i+1):=by rw[lS G]
  rw[hd] at E;obtain⟨t,E⟩:=E;obtain⟨g1,g2⟩:=j1.go i items[i] a g H2 (by rw[aZ G]) D r2 t;refine⟨g1,λO H'=>∃A' ι' L,RA X.mg ι' H' A'/\Ext A1 F H1 A' ι' H'/\(∀r,r<A'.length->ι' r≠acc)/\H' acc=some (.lst O)/\ao X.mg ι' A'.length H' L O/\kC W k (ix.map (lk τ)) tt te (λys a=>R (.ref a.length) (a++[.lst ys])) (items.drop (i+1)) L A',λO H' z=>⟨_,by omega,rfl,G,z⟩,λx H3 y=>?_⟩;obtain⟨e3,r3,v3⟩:=g2 x H3 y;split at E
  .rename_i vs hu
   obtain⟨xs,h1,h2,h3⟩:=MT (K:=X.K) hu v3;refine h3 _ _ ⟨by have:=zh (fs:=ix.map λi=>(σ[i]?).join) (xs.map some);rw[bC,<-ao.length h1,h2] at this;exact this,?_⟩;have I:=D.trans e3;have S3:cK X.mg N a g (vs.map some++ix.map (lk τ)) (xs.map some++ix.map λi=>(σ[i]?).join) H3:=⟨r3,RS.block (S1.rs.ext I) h1,S1.ex.trans I⟩;have Z:H3 acc=some (.lst ys):=e3.mo acc _ hy l;refine hT _ _ _ _ ⟨a,g,_,_,S3,E,λb A4 P H4 q4 T r4=>?_⟩;have w:∀r,r<A4.length->P r≠acc:=λr n z=>by
    by_cases G:r<a.length
    .rw[T.ag r G] at z;exact l r G z
    .have:=T.nw r (by omega) n
     rw[z,Z] at this;cases this
   have U:H4 acc=some (.lst ys):=T.mo acc _ Z l;have AO:=ao.ext (e3.trans T) d ys ry;cases b with
   |true=>
    refine GZ ?_;refine⟨A4,P,_,_,S3.next T r4,q4,λv A5 Cd H5 u q5 e5 r5 v5=>?_⟩;have V:H5 acc=some (.lst ys):=e5.mo acc _ U w;have M:∀r,r<A5.length->Cd r≠acc:=λr n z=>by
     by_cases G:r<A4.length
     .rw[e5.ag r G] at z;exact w r G z
     .have:=e5.nw r (by omega) n
      rw[z,U] at this;cases this
    have AQ:=ao.ext e5 d ys AO;have p:=(I.trans T).trans e5;have fx:∀b o,gn o=false->H5 b=some o->upd H5 acc (.lst (ys++[u])) b=some o:=λb o m z=>by
     rw[bz]
     .exact z
     .rintro rfl
      rw[V] at z;cases z;cases m
    refine⟨V,by rw[<-ao.length AQ];exact q5.1,A5,Cd,d++[v],r5.off M V rfl,⟨p.len,p.ag,p.im,λb o z hn=>?_,p.nw,λb o z=>?_⟩,M,gu,?_,q5.2⟩
    .rw[bz (dP z f)];exact p.mo b o z hn
    .obtain⟨o',h'⟩:=p.al b o z
     exact⟨o',by rw[bz (dP z f)];exact h'⟩
    .exact ao.ag (aF _) (λ_ _=>rfl) fx _ _ (AQ.app (es:=[v]) (ws:=[u]) ⟨u,[],rfl,v5,rfl⟩)
   |false=>
    refine GY ?_;exact⟨A4,P,d,r4,I.trans T,w,U,AO,q4⟩
  .exact E.elim
 .left
  have e:i=items.length:=by omega
  subst e;rw[List.drop_length] at E;obtain⟨t,E⟩:=E;refine⟨j1.stop a g H2 D r2 t,?_⟩;obtain⟨B,j,at2⟩:∃B:Io,(∀r,r<a.length->B r=g r)/\B a.length=acc:=⟨λr=>if r=a.length then acc else g r,λr h=>by
   show(if r=a.length then acc else g r)=g r;rw[ai (by omega)],by
   show(if a.length=a.length then acc else g a.length)=acc;rw[aj rfl]⟩
  refine kq (.ref a.length) (a++[.lst d]) B H2 _ E (e1.trans ⟨by have:=D.len;simp;omega,λr h=>by rw[j r (bO h D.len)];exact D.ag r h,D.im,D.mo,λr h1 h2=>?_,D.al⟩) ⟨λr c h=>?_,λr s n hs h=>?_⟩ ⟨by simp,by rw[at2]⟩
  .by_cases n:r<a.length
   .rw[j r n];exact D.nw r h1 n
   .have:r=a.length:=by simp at h2;omega
    subst this;rw[at2];exact f
  .by_cases n:r<a.length
   .rw[fZ n] at h
    have:=CO.ag (n':=(a++[C.lst d]).length) (ι':=B) (H':=H2) (by simp) j (λ_ _ _ z=>z) (λ_ z=>z) c (r2.fk r c h);rw[j r n];exact this
   .have hr':r=a.length:=by
     have:=(bY.mp h).1;simp at this;omega
    subst hr';simp at h;subst h;rw[at2];exact⟨ys,hy,ao.ag (by simp) j (λ_ _ _ z=>z) d ys ry⟩
  .simp at n hs
   by_cases h1:r=a.length
   .by_cases h2:s=a.length
    .rw[h1,h2]
    .subst h1
     rw[at2,j s (by omega)] at h;exact absurd h.symm (l s (by omega))
   .by_cases h2:s=a.length
    .subst h2
     rw[at2,j r (by omega)] at h;exact absurd h (l r (by omega))
    .rw[j r (by omega),j s (by omega)] at h
     exact r2.inj r s (by omega) (by omega) h
end
def vq:di:=λ_ A R=>R true A
section
variable{X:Cx}{N:En}{own frees:List Str}{ix:List Nat}{it:iW}{tt:di}{te:aN}(k:Option Nat){tg iter elt Nt:Expr}{scope:Scope}{pos:Pos}
theorem pH(hk:own.length=k.getD 1)(hi:PI X tg iter (lC X.mg N it))(a:∀c,PG (bB X (own++frees) scope c) tg (q_ X.K k))(b:∀c,PE (bB X (own++frees) scope c) elt (up X.mg N te))(S:dJ X scope frees:=by exact⟨rfl,by decide+kernel,by decide+kernel,by decide+kernel,by decide+kernel,rfl⟩)(hc:X.calm=true:=by rfl)(d:ix.map (λi=>X.N[i]?)=frees.map some:=by rfl)(hs:∀x,foldedSetIterable iter X.env x=pure x:=by intro _;rfl):
  PE X (.ListComp elt [⟨tg,iter,[],0⟩] scope pos) (up X.mg N (sQ k ix it vq te)):=
 cT (JA hi a (λc=>gO.nil) b S hc d hs) λσ H Q q=>B4 (own:=own) hk (λ_ σ H Q h=>by
  obtain⟨A,ι,τ,R,S,h,k⟩:=h;exact k.here S.ra h) q
variable{i:Nat}{x:Str}{pos' spos:Pos}
theorem ER(a:X.N.Nodup)(b:X.N[i]?=some x)(f:Loc X.env.scope x)(hk:own.length=k.getD 1)(hi:PI X tg iter (lC X.mg N it))(g:∀c,PG (bB X (own++frees) scope c) tg (q_ X.K k))(j:∀c,PE (bB X (own++frees) scope c) elt (up X.mg N te))(S:dJ X scope frees:=by exact⟨rfl,by decide+kernel,by decide+kernel,by decide+kernel,by decide+kernel,rfl⟩)(hc:X.calm=true:=by rfl)(l:ix.map (λi=>X.N[i]?)=frees.map some:=by rfl)(hs:∀x,foldedSetIterable iter X.env x=pure x:=by intro _;rfl)
  (d:swapsWith (.ListComp elt [⟨tg,iter,[],0⟩] scope pos) (some (.Name x pos')) spos.line X.env=pure true:=by rfl)(m:X.fn x=true\/X.env.scope.names.lookup x=some .local:=by first|exact .inl rfl|exact .inr rfl|assumption):
  PS X (.Assign [.Name x pos'] (.ListComp elt [⟨tg,iter,[],0⟩] scope pos) spos) (cE X.mg N (u6 i (sQ k ix it vq te))):=
 gR (J_ a b f hi g (λc=>gO.nil) j S hc l hs d m) λQ σ H q=>by
  obtain⟨A,ι,τ,R,Z,q,k⟩:=q;exact B4 (own:=own) hk (λ_ σ H Q h=>by
   obtain⟨A,ι,τ,R,S,h,k⟩:=h;exact k.here S.ra h) ⟨A,ι,τ,_,Z,q,λv s n H1 u o e p r=>(k.nx.from e).here ((Z.next e p).set r) o⟩
end
abbrev mj:=bA->Ar->(Option Int->Ar->Prop)->Prop
def rm(mg:av)(N:En)(m:mj):TO:=λσ H Q=>∃A ι τ R,cK mg N A ι τ σ H/\m τ A R/\∀o A' ι' H',R o A'->Ext A ι H A' ι' H'->RA mg ι' H' A'->Q o H'
def oN:mj:=λ_ A R=>R none A
def oS(m:aN):mj:=λτ A R=>m τ A λx A1=>match x with
 |.int i=>R (some i) A1
 |_=>False
def cutD(xs:List D)(lo hi:Option Int):List D:=(xs.drop (HT.aK xs.length 0 lo)).take (HT.aK xs.length xs.length hi - HT.aK xs.length 0 lo)
theorem ao.cut{mg:av}{ι:Io}{H:Hp}{n:Nat}{ds:List D}{vs:List V}(r:ao mg ι n H ds vs)(lo hi:Option Int):ao mg ι n H (cutD ds lo hi) (iY vs lo hi):=by
 unfold cutD iY;rw[<-ao.length r];exact(r.drop _).take _
@[irreducible] def vd(r:Nat)(lo hi:Option Int)(A:Ar)(R:DK):Prop:=match A[r]? with
 |some (.lst xs)=>R (.ref A.length) (A++[.lst (cutD xs lo hi)])
 |_=>False
def LJ(x:D)(lo hi:Option Int)(A:Ar)(R:DK):Prop:=match x with
 |.tup xs=>¬(HT.aK xs.length 0 lo=0/\HT.aK xs.length xs.length hi=xs.length)/\R (.tup (cutD xs lo hi)) A
 |.ref r=>vd r lo hi A R
 |_=>False
def DW(m:aN)(l u:mj):aN:=λτ A R=>m τ A λx A1=>l τ A1 λlo A2=>u τ A2 λhi A3=>LJ x lo hi A3 R
section
variable{X:Cx}{N:En}{pos p2:Pos}{e:Expr}{lo hi:Option Expr}{m:aN}{l u:mj}
theorem yd{t t':TO}(h:PO X lo t)(w:∀σ H Q,t' σ H Q->t σ H Q):PO X lo t':=λpins s σ H Q I q=>h pins s σ H Q I (w σ H Q q)
theorem s9:PO X none (rm X.mg N oN):=yd J5 λσ H Q q=>by
 obtain⟨A,ι,τ,R,S,q,k⟩:=q;exact k none A ι H q S.ra.refl S.ra
theorem s_(h:PE X e (up X.mg N m)):PO X (some e) (rm X.mg N (oS m)):=yd (J6 h) λσ H Q q=>by
 obtain⟨A,ι,τ,R,S,q,k⟩:=q;refine⟨A,ι,τ,_,S,q,λx c a H1 u b d f g=>?_⟩;cases x with
 |int i=>exact⟨i,g,k (some i) c a H1 b d f⟩
 |_=>exact b.elim
theorem sW(t:PE X e (up X.mg N m))(w:PO X lo (rm X.mg N l))(y:PO X hi (rm X.mg N u)):PE X (.Subscript e (.Slice lo hi none p2) pos) (up X.mg N (DW m l u)):=
 cT (JM (LL.or LK) t w y) λσ H Q q=>by
  obtain⟨A,ι,τ,R,S,q,k⟩:=q;refine⟨A,ι,τ,_,S,q,λx z d H1 v B f n C=>?_⟩;refine⟨z,d,τ,_,S.next f n,B,λD E g H2 F h G=>?_⟩;refine⟨E,g,τ,_,(S.next f n).next h G,F,λI J K M b o i=>?_⟩;have c:=(f.trans h).trans o;have s:=RV.ext (h.trans o) x v C;cases x with
  |tup ds=>
   obtain⟨a,xs,rfl,h1,h2⟩:=s;refine .inl ⟨a,xs,rfl,bf.of h1,by rw[<-ao.length h2];exact b.1,λp j=>uF (k.from c) i (h2.cut _ _) b.2 j⟩
  |ref r=>
   obtain⟨_,rfl⟩:=s;have b:vd r D I J R:=b;unfold vd at b;split at b
   .rename_i xs e
    obtain⟨L,h1,h2⟩:=i.lst e;exact .inr ⟨_,L,rfl,aX.of h1,λp j=>nC (k.from c) i (h2.cut _ _) b j⟩
   .exact b.elim
  |_=>exact b.elim
end
def BP:List D->Option (List Str)
 |[]=>some []
 |.str b::r=>(BP r).map (b::·)
 |_::_=>none
theorem ao.strs{mg:av}{ι:Io}{H:Hp}:∀(ns:List Str) {n:Nat},ao mg ι n H (ns.map D.str) (ns.map V.str)
 |[],_=>rfl
 |i::r,n=>⟨_,_,rfl,rfl,ao.strs r⟩
@[irreducible] def LY(r:Nat)(A:Ar)(R:DK):Prop:=match A[r]? with
 |some (.lst xs)=>(match BP xs with
  |some ss=>ss.length<64/\∀ys:List Str,ys.Pairwise strLt->(∀x,x∈ys↔x∈ss)->R (.ref A.length) (A++[.lst (ys.map D.str)])
  |none=>False)
 |_=>False
def NO:gH:=λvs A R=>match vs with
 |[.ref r]=>LY r A R
 |_=>False
def cU{β:Type}(kvs:List (Key×β))(k:Key)(v:β):List (Key×β):=
 if (kvs.any λkv=>decide (kv.1=k))=true then kvs.map (λkv=>if kv.1=k then (kv.1,v) else kv) else kvs++[(k,v)]
section
variable{mg:av}{ι:Io}{H:Hp}{n:Nat}
theorem RK.any{k:Key}:∀{kvs:List (Key×D)} {xs:List (Key×V)},RK mg ι n H kvs xs->(kvs.any λa=>decide (a.1=k))=(xs.any λa=>decide (a.1=k))
 |[],xs,h=>by cases (show xs=[] from h);rfl
 |p::r,xs,h=>by
  obtain⟨x,r',rfl,h1,h2⟩:=h;rw[j8,j8,RK.any h2]
theorem RK.uw{k:Key}{d:D}{v:V}(c:RV mg ι n H d v):∀{kvs:List (Key×D)} {xs:List (Key×V)},RK mg ι n H kvs xs->RK mg ι n H (kvs.map λa=>if a.1=k then (a.1,d) else a) (xs.map λa=>if a.1=k then (a.1,v) else a)
 |[],xs,h=>by cases (show xs=[] from h);rfl
 |p::r,xs,h=>by
  obtain⟨x,r',rfl,h1,h2⟩:=h;rw[dD,dD];by_cases b:p.1=k
  .rw[aj b,aj b];exact⟨v,_,rfl,c,RK.uw c h2⟩
  .rw[ai b,ai b];exact⟨x,_,rfl,h1,RK.uw c h2⟩
theorem RK.app:∀{ds es:List (Key×D)} {vs ws:List (Key×V)},RK mg ι n H ds vs->RK mg ι n H es ws->RK mg ι n H (ds++es) (vs++ws)
 |[],_,vs,_,h,q=>by have h':vs=[]:=h;rw[h'];exact q
 |d::ds,es,vs,ws,h,q=>by
  obtain⟨x,r,rfl,a,b⟩:=h;exact⟨x,r++ws,rfl,a,RK.app b q⟩
theorem RK.put{k:Key}{d:D}{v:V}(a:RV mg ι n H d v){kvs:List (Key×D)}{xs:List (Key×V)}(h:RK mg ι n H kvs xs):RK mg ι n H (cU kvs k d) (putK xs k v):=by
 unfold cU putK;rw[RK.any h];split
 .exact RK.uw a h
 .exact h.app (es:=[(k,d)]) (ws:=[(k,v)]) ⟨v,[],rfl,a,rfl⟩
end
def d7:List D->Option (List (Key×D))
 |[]=>some []
 |.tup [a,b]::r=>(match gY a,d7 r with
  |some k,some l=>some ((k,b)::l)
  |_,_=>none)
 |_::_=>none
def Aj(ps:List (Key×D)):List (Key×D):=ps.foldl (λacc p=>cU acc p.1 p.2) []
section
variable{mg:av}{K:Frag}{ι:Io}{H:Hp}{n:Nat}
theorem z7:∀{ds:List D} {c:List V} {ps:List (Key×D)},d7 ds=some ps->ao mg ι n H ds c->∃qs,RK mg ι n H ps qs/\c.length=qs.length/\∀(i:Nat) (x:V) (p:Key×V),c[i]?=some x->qs[i]?=some p->∃t,x=.ref t/\bf K H t [kV p.1,p.2]
 |[],c,ps,h,r=>by
  cases h;cases (show c=[] from r);exact⟨[],rfl,rfl,λi x p e=>by simp at e⟩
 |.tup [a,b]::ds,c,ps,h,r=>by
  obtain⟨x,r',rfl,h1,h2⟩:=r;unfold d7 at h;split at h
  .rename_i k l m o
   cases h;obtain⟨qs,g1,g2,g3⟩:=z7 o h2;obtain⟨t,xs,rfl,q,w,_,rfl,s,d,_,rfl,u,v⟩:=h1;obtain rfl:=v;cases ng m s;refine⟨(k,d)::qs,⟨d,qs,rfl,u,g1⟩,by simp[g2],λi z p hz j=>?_⟩;cases i with
   |zero=>
    have f:V.ref t=z:=by simpa using hz
    have g:(k,d)=p:=by simpa using j
    subst f g;exact⟨t,rfl,bf.of q⟩
   |succ i=>exact g3 i z p (by simpa using hz) (by simpa using j)
  .cases h
 |.aD::_,_,_,h,_=>by simp[d7] at h
 |.bl _::_,_,_,h,_=>by simp[d7] at h
 |.int _::_,_,_,h,_=>by simp[d7] at h
 |.str _::_,_,_,h,_=>by simp[d7] at h
 |.ref _::_,_,_,h,_=>by simp[d7] at h
 |.fl _::_,_,_,h,_=>by simp[d7] at h
 |.exc _::_,_,_,h,_=>by simp[d7] at h
 |.tup []::_,_,_,h,_=>by simp[d7] at h
 |.tup [_]::_,_,_,h,_=>by simp[d7] at h
 |.tup (_::_::_::_)::_,_,_,h,_=>by simp[d7] at h
theorem RK.fold{ps:List (Key×D)}{qs:List (Key×V)}(h:RK mg ι n H ps qs):∀{acc:List (Key×D)} {mG:List (Key×V)},RK mg ι n H acc mG->RK mg ι n H (ps.foldl (λacc p=>cU acc p.1 p.2) acc) (qs.foldl (λacc p=>putK acc p.1 p.2) mG):=by
 induction ps generalizing qs with
 |nil=>intro acc mG a;cases (show qs=[] from h);exact a
 |cons p r b=>
  intro acc mG a;obtain⟨x,r',rfl,h1,h2⟩:=h;exact b h2 (RK.put h1 a)
end
theorem zO{mg:av}{A:Ar}{ι:Io}{H:Hp}{R:DK}{Q:VK}{ds:List (Key×D)}{xs:List (Key×V)}{p:Addr}(k:Kt mg A ι H R Q)(r:RA mg ι H A)(h:RK mg ι A.length H ds xs)(q:R (.ref A.length) (A++[.dct ds]))(a:H p=none):Q (.ref p) (upd H p (.dK xs)):=by
 have E:Ext A ι H (A++[.dct ds]) (λr=>if r=A.length then p else ι r) (upd H p (.dK xs)):=r.tK a;obtain⟨b,d⟩:=r.push (c:=.dct ds) (o:=.dK xs) a ⟨xs,gu,by simpa using RK.ext E ds xs h⟩;refine k _ _ _ _ _ q d b ⟨by simp,?_⟩;show V.ref p=V.ref (if A.length=A.length then p else ι A.length);rw[aj rfl]
@[irreducible] def dctP(xs:List D)(A:Ar)(R:DK):Prop:=match d7 xs with
 |some ps=>ps.length<=1000/\R (.ref A.length) (A++[.dct (Aj ps)])
 |none=>False
@[irreducible] def pF(r:Nat)(A:Ar)(R:DK):Prop:=match A[r]? with
 |some (.lst xs)=>dctP xs A R
 |_=>False
def xU:gH:=λvs A R=>match vs with
 |[.tup xs]=>dctP xs A R
 |[.ref r]=>pF r A R
 |_=>False
theorem RK.len'{mg:av}{ι:Io}{H:Hp}{n:Nat}{ds:List (Key×D)}{vs:List (Key×V)}(h:RK mg ι n H ds vs):vs.length=ds.length:=(RK.length h).symm
theorem D4{mg:av}{K:Frag}:iV mg (λxs H Q=>∃(p:Addr) (b:List V) (ps:List (Key×V)),xs=[.ref p]/\(H p=some (.lst b)\/H p=some (.tup b))/\Pairs K H b ps/\ps.length<=1000/\∀d,H d=none->Q (.ref d) (upd H d (.dK (putAll ps)))) xU:=by
 intro ds A ι H f R Q ra rs h k;have fin:∀(xs:List D) (b:List V) (p:Addr),ao mg ι A.length H xs b->(H p=some (.lst b)\/H p=some (.tup b))->dctP xs A R->∃(q:Addr) (b:List V) (ps:List (Key×V)),[V.ref p]=[.ref q]/\(H q=some (.lst b)\/H q=some (.tup b))/\Pairs K H b ps/\ps.length<=1000/\∀d,H d=none->Q (.ref d) (upd H d (.dK (putAll ps))):=λxs b p r g h=>by
  unfold dctP at h;split at h
  .rename_i ps ep
   obtain⟨qs,g1,g2,g3⟩:=z7 (K:=K) ep r;exact⟨p,b,qs,rfl,g,⟨g2,g3⟩,by rw[RK.len' g1];exact h.1,λd hd=>zO k ra (RK.fold g1 (acc:=[]) (mG:=[]) rfl) h.2 hd⟩
  .exact h.elim
 unfold xU at h;split at h
 .obtain⟨_,_,rfl,⟨a,xs,rfl,i,c⟩,rfl⟩:=rs
  exact fin _ xs a c (.inr i) h
 .obtain⟨_,_,rfl,⟨_,rfl⟩,rfl⟩:=rs
  unfold pF at h;split at h
  .rename_i xs e
   obtain⟨f,h1,c⟩:=ra.lst e;exact fin _ f _ c (.inl h1) h
  .exact h.elim
 .exact h.elim
def DQ:aN:=λ_ A R=>R (.ref A.length) (A++[.dct []])
theorem El{X:Cx}{N:En}{pos:Pos}:PE X (.Dict [] [] pos) (up X.mg N DQ):=cT JB λσ H Q q=>by
 obtain⟨A,ι,τ,R,S,q,k⟩:=q;exact λp a=>zO (ds:=[]) (xs:=[]) k S.ra rfl q a
@[irreducible] def nK(r:Nat)(y v:D)(A:Ar)(R:Ar->Prop):Prop:=match A[r]?,gY y with
 |some (.dct kvs),some k=>kvs.length<sizeLine/\R (A.set r (.dct (cU kvs k v)))
 |_,_=>False
def K7(mo mi mv:aN):cX:=λR τ A=>mv τ A λv A1=>mo τ A1 λx A2=>mi τ A2 λy A3=>match x with
 |.ref r=>nK r y v A3 λA4=>R.nx τ A4
 |_=>False
theorem ES{X:Cx}{N:En}{pos pos':Pos}{o i value:Expr}{mo s t:aN}(Y:X.A.units+64<cLine)(D:PE X o (up X.mg N mo))(hi:PE X i (up X.mg N s))(F:PE X value (up X.mg N t))(hs:swapsWith value (some (.Subscript o i pos')) pos.line X.env=pure false):
  PS X (.Assign [.Subscript o i pos'] value pos) (cE X.mg N (K7 mo s t)):=gR (J' (by omega) D hi F hs) λQ σ H q=>by
 obtain⟨A,ι,τ,R,S,q,k⟩:=q;refine⟨A,ι,τ,_,S,q,λv G j H1 w I b l J=>?_⟩;refine⟨G,j,τ,_,S.next b l,I,λx K m H2 u L d B v2=>?_⟩;refine⟨K,m,τ,_,(S.next b l).next d B,L,λy M O Z z a f g P=>?_⟩;have n:=RV.ext (d.trans f) v w J;have p:=RV.ext f x u v2;cases x with
 |ref r=>
  obtain⟨_,rfl⟩:=p;have a:nK r y v M (λT=>R.nx τ T):=a;unfold nK at a;split at a
  .rename_i kvs h e U
   obtain⟨xs,h1,h2⟩:=g.dct e;cases ng U P;refine⟨_,_,rfl,mh.k h1 (by rw[<-RK.length h2];exact a.1),?_⟩;have V:=(bY.mp e).1;have E:=g.tL (o:=.dK (putK xs h w)) (c:=.dct (cU kvs h v)) V;obtain⟨W,C⟩:=g.put (c':=.dct (cU kvs h v)) (o:=.dK (putK xs h w)) e h1 rfl ⟨_,gu,by simpa using RK.ext E _ _ (RK.put n h2)⟩;exact(k.nx.from (((b.trans d).trans f).trans C)).here ((((S.next b l).next d B).next f g).next C W) a.2
  .exact a.elim
 |_=>exact a.elim
theorem Hu{K:Frag}:∀t∈tys,kitOne K (.type t) (.type "bool")=some (jb t "bool"):=by
 intro t a;simp only[tys,aQ,ez,eB] at a;rcases a with rfl|rfl|rfl|rfl|rfl|rfl|rfl<;>rfl
theorem Hv{K:Frag}:∀t∈tys,kitOne K (.type t) (.type "int")=some (jb t "int"):=by
 intro t a;simp only[tys,aQ,ez,eB] at a;rcases a with rfl|rfl|rfl|rfl|rfl|rfl|rfl<;>rfl
theorem zg{K:Frag}:∀t∈tys,kitOne K (.type t) (.type "str")=some (jb t "str"):=by
 intro t a;simp only[tys,aQ,ez,eB] at a;rcases a with rfl|rfl|rfl|rfl|rfl|rfl|rfl<;>rfl
theorem kit_tuple{K:Frag}:∀t∈tys,kitOne K (.type t) (.type "tuple")=some (jb t "tuple"):=by
 intro t a;simp only[tys,aQ,ez,eB] at a;rcases a with rfl|rfl|rfl|rfl|rfl|rfl|rfl<;>rfl
theorem cI{b:Bool}{X Y:Prop}(h1:b=true->X)(h2:b=false->Y):cond b X Y:=by
 cases b with
 |true=>exact h1 rfl
 |false=>exact h2 rfl
theorem cD{p:Prop}[Decidable p]{X Y:Prop}(h1:p->X)(h2:¬p->Y):cond (decide p) X Y:=cI (λe=>h1 (rG e)) λe=>h2 (of_decide_eq_false e)
theorem cN{p:Prop}[Decidable p]{X Y:Prop}(h1:¬p->X)(h2:p->Y):cond (!decide p) X Y:=cI (λe=>h1 (of_decide_eq_false (by simpa using e))) λe=>h2 (rG (by simpa using e))
def bL(t:Nat)(A A':Ar):Prop:=∀q c,q≠t->A[q]?=some c->A'[q]?=some c
theorem bL.refl{t:Nat}{A:Ar}:bL t A A:=λ_ _ _ h=>h
theorem bL.trans{t:Nat}{A B C:Ar}(a:bL t A B)(b:bL t B C):bL t A C:=λq c n h=>b q c n (a q c n h)
theorem bL.push{t:Nat}{A:Ar}{T:Ar}:bL t A (A++T):=λq c _ h=>by
 have:=(bY.mp h).1;rw[fZ this];exact h
theorem bL.set{t:Nat}{A:Ar}{c:C}:bL t A (A.set t c):=λq d n h=>by rw[oM (Ne.symm n)];exact h
def Tw(t n:Nat)(A:Ar):Prop:=∃xs,A[t]?=some (.lst xs)/\xs.length<=n
theorem Tw.mono{t n m:Nat}{A:Ar}(h:Tw t n A)(l:n<=m):Tw t m A:=let ⟨xs,a,b⟩:=h;⟨xs,a,cP b l⟩
theorem getElem?_push{A T:Ar}{q:Nat}{c:C}(h:A[q]?=some c):(A++T)[q]?=some c:=by
 have:=(bY.mp h).1;rw[fZ this];exact h
def Gr(A A':Ar):Prop:=∃T,A'=A++T
theorem Gr.refl{A:Ar}:Gr A A:=⟨[],by simp⟩
theorem Gr.push{A T:Ar}:Gr A (A++T):=⟨T,rfl⟩
theorem Gr.trans{A B C:Ar}(a:Gr A B)(b:Gr B C):Gr A C:=by
 obtain⟨T,rfl⟩:=a;obtain⟨c,rfl⟩:=b;exact⟨T++c,by simp⟩
theorem Gr.get{A B:Ar}(a:Gr A B){q:Nat}{c:C}(h:A[q]?=some c):B[q]?=some c:=by
 obtain⟨T,rfl⟩:=a;exact getElem?_push h
theorem Gr.but{A B:Ar}{t:Nat}(a:Gr A B):bL t A B:=λ_ _ _ h=>a.get h
theorem Tw.gr{A B:Ar}{t n:Nat}(h:Tw t n A)(a:Gr A B):Tw t n B:=let ⟨xs,x,y⟩:=h;⟨xs,a.get x,y⟩
def wk:Ct:=λds A R _=>∃ns k,ds=[.fl ns,.int k]/\0<=k/\∀i A',Gr A A'->R (.int i) A'
def wF:Ct:=λds A R _=>∃ns k m,ds=[.fl ns,.int k,.int m]/\0<=k/\0<m/\∀i A',0<=i->i<m->Gr A A'->R (.int i) A'
def jw:Ct:=λds A R _=>∃ns t m n,ds=[.fl ns,.ref t,.int m]/\Tw t n A/\n<1000000/\0<m/\∀i A',0<=i->i<m->bL t A A'->Tw t (n+1) A'->R (.int i) A'
def mC:Ct:=λds A R _=>∃ns t q xs n,ds=[.fl ns,.ref t,.ref q]/\q≠t/\A[q]?=some (.lst xs)/\xs≠[]/\Tw t n A/\n<1000000/\∀x A',x∈xs->bL t A A'->Tw t (n+1) A'->R x A'
theorem oZ{α:Type}{xs:List α}{k:Int}(h0:0<=k)(h:k<(xs.length:Int)):∃v,cG xs k=some v/\v∈xs:=by
 have hk:k.toNat<xs.length:=by omega
 refine⟨xs[k.toNat],?_,cz hk⟩;unfold cG jF;rw[aj h0,aj h];simp[aZ hk]
theorem lay_ints:∀ns:List Int,canLayAll0 (ns.map PyData.int)=true
 |[]=>by simp[canLayAll0]
 |n::r=>by simp[canLayAll0,canLay0,lay_ints r]
theorem ck{A:Ar}{c:C}:(A++[c])[A.length]?=some c:=by simp
theorem Ff{ns:List Int}{A:Ar}{R:DK}(h:R (.bl (decide (ns=[]))) (A++[.lst []])):fu false (.fl ns) (.ref A.length) (A++[.lst []]) R:=by
 unfold fu;have a:cV (A++[.lst []]) (.ref A.length)=.list []:=by unfold cV;simp only[ck];rfl
 have b:cV (A++[.lst []]) (.fl ns)=.list (ns.map PyData.int):=by unfold cV;rfl
 refine⟨rfl,?_,?_,?_,?_,?_⟩
 .unfold jg;simp only[ck];rfl
 .rw[b];simpa[canLay0] using lay_ints ns
 .rw[a];simp[canLay0,canLayAll0]
 .rw[a];simp[PyData.depth,depthAll];omega
 .rw[b,a]
  have e:PyData.eqv (.list (ns.map PyData.int)) (.list [])=decide (ns=[]):=by cases ns<;>simp[PyData.eqv,eqvAll]
  rw[ai bP,e];exact h
section
variable{A:Ar}{r q t:Nat}{xs ys:List D}{kvs:List (Key×D)}{R:DK}
theorem tY(h:A[r]?=some (.lst xs)):jE A (.ref r)=true:=by unfold jE;simp only[h]
theorem w4{y:D}(h:A[r]?=some (.lst xs))(hz:xs.length<sizeLine)(k:R .aD (A.set r (.lst (xs++[y])))):oW r y A R:=by
 unfold oW;simp only[h];exact⟨hz,k⟩
theorem Fp(h:A[r]?=some (.lst xs))(h2:A[q]?=some (.lst ys))(hz:xs.length+ys.length<=sizeLine)(k:R .aD (A.set r (.lst (xs++ys)))):pR r q A R:=by
 unfold pR;simp only[h,h2];exact⟨hz,k⟩
theorem Dg(h:A[r]?=some (.lst xs))(h2:A[q]?=some (.lst ys))(hz:xs.length+ys.length<=sizeLine)(k:R (.ref A.length) (A++[.lst (xs++ys)])):o9 r q A R:=by
 unfold o9;simp only[h,h2];exact⟨hz,k⟩
theorem uc(h:A[r]?=some (.lst xs))(k:R (.int xs.length) A):qa r A R:=by
 unfold qa;simp only[h];exact k
theorem G4{i:Int}{v:D}(h:A[r]?=some (.lst xs))(hi:cG xs i=some v)(k:R v A):kY r (.int i) A R:=by
 unfold kY;simp only[h,hi];exact k
theorem get_set(h:A[t]?=some (.lst xs)):(A.set t (.lst ys))[t]?=some (.lst ys):=by
 rw[lX (bY.mp h).1]
theorem jN{c:C}(h:A[t]?=some c):t<A.length:=(bY.mp h).1
end
open MA
abbrev M:=aW Str
def enc:M->D
 |.wt n=>.tup [.str "weight",.str n]
 |.ah l r a b=>.tup [.str "rod",.int l,.int r,enc a,enc b]
theorem kE{k:Option Nat}{fr:bA}{te:aN}{a:Ar->Prop}{R:List D->Ar->Prop}{A:Ar}(hc:a A)(f:D->D):∀(items ys:List D),(∀x∈items,∃vs,vz k x=some vs/\∀Q:DK,Q (f x) A->te (vs.map some++fr) A Q)->ys.length+items.length<=sizeLine->R (ys++items.map f) A->kC a k fr vq te R items ys A
 |[],ys,_,_,h=>⟨hc,by simpa using h⟩
 |x::xs,ys,b,c,h=>by
  obtain⟨vs,d,e⟩:=b x (b8 ..);refine⟨hc,?_⟩;rw[d];refine e _ ⟨by simp at c;omega,kE hc f xs (ys++[f x]) (λy g=>b y (bT _ g)) (by simp at c ⊢;omega) (by simpa using h)⟩
theorem xw{α:Type}(f:α->Bool):∀xs:List α,gc (xs.map λx=>D.bl (f x))=some (xs.map f)
 |[]=>rfl
 |x::r=>by simp[gc,xw f r]
theorem CN{A:Ar}{r:Nat}{xs:List D}{bs:List Bool}{R:DK}(h:A[r]?=some (.lst xs))(a:gc xs=some bs)(k:R (.bl (bs.all id)) A):allR r A R:=by
 unfold allR;simp only[h,a];exact k
theorem iE{A:Ar}{r:Nat}{xs:List D}{R:List D->(Ar->Prop)->Ar->Prop}(h:A[r]?=some (.lst xs))(k:R xs (λA'=>A'[r]?=some (.lst xs)) A):itR r A R:=by
 unfold itR;simp only[h];exact k
structure Nm(n:Str):Prop where
 lo:1<=n.length
 hi:n.length<=3
 az:∀c∈n.cps.toList,97<=c/\c<=122
structure Wf(m:M):Prop where
 arms:m.arms
 nm:∀n∈m.names,Nm n
def SV(dom:List D->D->Prop):Ct:=λds A R _=>∃v,dom ds v/\∀A',Gr A A'->R v A'
abbrev wJ:Ct:=SV λds v=>∃i a b,ds=[.int i,.int a,.int b]/\v=.bl (decide (a<=i)&&decide (i<=b))
abbrev wH:Ct:=SV λds v=>∃n,ds=[.str n]/\Nm n/\v=.bl true
abbrev wu(d:Nat):Ct:=SV λds v=>∃m,ds=[enc m,.int ((d:Int) - 1)]/\Wf m/\m.deep<d/\v=.bl true
abbrev wo:Ct:=SV λds v=>∃m,ds=[enc m]/\Wf m/\m.deep<=5/\v=.bl true
abbrev sq:Ct:=SV λds v=>∃m,ds=[enc m]/\Wf m/\m.deep<=5/\v=.aD
theorem ja{P:Program}{w:World}{K:Frag}{mg:av}{base:Heap}{x:Str}{st:Stmt}{ps:List Str}{k n:Nat}{S:Ct}(T:TopD K mg x st ps)(no:∀ds A R RE,¬S ds A R RE):aC P w K mg base k x ps (aE mg n S):=by
 obtain⟨f,fd,F,b,m⟩:=T;have a:∀vs H Q E,¬aE mg n S vs H Q E:=λvs H Q E h=>by
  obtain⟨A,ι,ds,R,RE,_,_,_,z,_⟩:=h;exact no _ _ _ _ z
 exact⟨f,fd,⟨λvs H Q E h=>absurd h (a vs H Q E),λA outer s H args c vs Q E _ _ _ _ h=>absurd h (a vs H Q E)⟩,b,F.kp,m⟩
def g6(r:Str×Int):D:=.tup [.str r.1,.int r.2]
def fN(rs:List (Str×Int)):D:=.tup (rs.map g6)
theorem L7{a b:Str}(h:strLt a b):a≠b:=λe=>by
 subst e;exact rS _ h
theorem Nm.ok{n:Str}(h:Nm n):canLay0 (.str n)=true:=by
 have e:n.cps.all (λc=>decide (c<0x110000))=true:=by
  rw[<-Array.all_toList,all_eq_true];intro c hc;have:=h.az c hc;exact fY (by omega)
 simpa[canLay0,PyData.strOk] using e
theorem t7{A:Ar}{r:Nat}{kvs:List (Key×D)}{y v:D}{k:Key}{R:DK}(h:A[r]?=some (.dct kvs))(hk:gY y=some k)(a:b6 kvs k=some v)(q:R v A):kY r y A R:=by
 unfold kY;simp only[h,hk,a];exact q
theorem GR{A:Ar}{r:Nat}{kvs:List (Key×D)}{y:D}{k:Key}{R:DK}{neg:Bool}(h:A[r]?=some (.dct kvs))(hk:gY y=some k)(q:R (.bl (if neg then !(b6 kvs k).isSome else (b6 kvs k).isSome)) A):inR neg y r A R:=by
 unfold inR;simp only[h,hk];exact q
def rd(a b:Int):Int×Int:=(a/(Int.gcd a b:Int),b/(Int.gcd a b:Int))
abbrev sr:Ct:=SV λds v=>∃a b:Int,ds=[.int a,.int b]/\0<=a/\0<=b/\v=.int (Int.gcd a b:Int)
abbrev wL:Ct:=SV λds v=>∃a b:Int,ds=[.int a,.int b]/\0<a/\0<b/\a<2 ^ 2000/\v=.tup [.int (rd a b).1,.int (rd a b).2]
theorem Gr.len{A B:Ar}(a:Gr A B):A.length<=B.length:=by
 obtain⟨T,rfl⟩:=a;simp
def cst(d:Nat):Nat:=5*2 ^ d - 4
theorem Dv(d:Nat):cst (d+1)=4+2*cst d:=by
 unfold cst;have:0<2 ^ d:=pow_pos (by decide);rw[jX];omega
theorem Du(d:Nat):1<=cst d:=by
 unfold cst;have:0<2 ^ d:=pow_pos (by decide);omega
structure Dr(t:Nat)(A A':Ar)(n k:Nat):Prop where
 but:bL t A A'
 tw:Tw t (n+k) A'
def wG(d:Nat):Ct:=λds A R _=>∃ns t q nms n,ds=[.fl ns,.ref t,.ref q,.int ((d:Int) - 1)]/\0<d/\q≠t/\A[q]?=some (.lst (nms.map D.str))/\nms≠[]/\(∀x∈nms,Nm x)/\Tw t n A/\n+cst d<=1000000/\∀m A',Wf m->m.deep<d->(∀x∈m.names,x∈nms)->Dr t A A' n (cst d)->R (enc m) A'
def wm(d:Nat):Ct:=λds A R _=>∃m q n,ds=[enc m,.ref q]/\Wf m/\m.deep<d/\d<=8/\Tw q n A/\n+2 ^ d<=1000000/\∀m' A',Wf m'->m'.deep=m.deep->Dr q A A' n (2 ^ d)->R (enc m') A'
theorem G8{z:Str}{i:Int}{c:Nat}{A:Ar}{R:DK}(h:cG z.cps.toList i=some c)(hz:z.length<=sizeLine)(k:R (.str ⟨#[c]⟩) A):m_ (.str z) (.int i) A R:=by
 show(match cG z.cps.toList i with|some c=>z.length<=sizeLine/\R (.str ⟨#[c]⟩) A|none=>False);rw[h];exact⟨hz,k⟩
def CJ(d:Nat):Ct:=λds A R _=>∃ns t n,ds=[.fl ns,.ref t,.int ((d:Nat):Int)]/\Tw t n A/\n+200<=1000000/\∀m A',Wf m->m.deep<=d->Dr t A A' n 200->R (enc m) A'
theorem Dt{d:Nat}(h:d<=4):cst (d+1)<=156:=by
 have e:d=0\/d=1\/d=2\/d=3\/d=4:=by omega
 rcases e with rfl|rfl|rfl|rfl|rfl<;>decide
end DP
namespace L2
section
variable{X:Cx}
def Ax(K:Frag)(neg:Bool):R2:=λx y H Q=>∃xs d,(Dp K H y (.tuple xs)\/Dp K H y (.list xs))/\Dp K H x d/\canLayAll0 xs=true/\d.canLay0=true/\min (depthAll xs) d.depth<=60/\Q (.bl (if neg then !(xs.any λz=>PyData.eqv z d) else xs.any λz=>PyData.eqv z d)) H
theorem Jd(i:X.A.units+64<cLine):aT X (compareOp .In) (Ax X.K false):=by
 intro pins s σ H x y v u Q I f a h;obtain⟨xs,d,hy,g,b,c,hd,q⟩:=h;obtain⟨bs,e⟩:=Dp.reads I d x v g f;rcases hy with hy|hy
 .obtain⟨as,ra⟩:=Dp.reads I _ y u hy a
  exact SeqAt.in_tuple_reads ra e b c (by omega) ⟨.bl _,H,I,rfl,q⟩
 .obtain⟨as,ra⟩:=Dp.reads I _ y u hy a
  exact SeqAt.in_list_reads ra e b c (by omega) ⟨.bl _,H,I,rfl,q⟩
end
end L2
namespace DP
open L2
@[irreducible] def kT(neg:Bool)(x:D)(xs:List D)(A:Ar)(R:DK):Prop:=jg A x=true/\fz xs=true/\canLayAll0 (aY xs)=true/\(cV A x).canLay0=true/\min (depthAll (aY xs)) (cV A x).depth<=60/\R (.bl (if neg then !((aY xs).any λz=>PyData.eqv z (cV A x)) else (aY xs).any λz=>PyData.eqv z (cV A x))) A
@[irreducible] def pY(neg:Bool)(x:D)(r:Nat)(A:Ar)(R:DK):Prop:=match A[r]? with
 |some (.lst xs)=>kT neg x xs A R
 |_=>False
def pX(neg:Bool):cW:=λx y A R=>match y with
 |.tup xs=>kT neg x xs A R
 |.ref r=>pY neg x r A R
 |_=>False
theorem D9{mg:av}{K:Frag}(neg:Bool):cR mg (Ax K neg) (pX neg):=by
 intro x y A ι H u v R Q ra f g h k;unfold pX at h;split at h
 .obtain⟨a,xs,rfl,i,b⟩:=g
  unfold kT at h;obtain⟨p1,p2,c,d,hd,q⟩:=h;exact⟨_,_,.inl (.tup (bf.of i) (ao.dp _ xs p2 b)),ra.dp p1 f,c,d,hd,k.here ra q rfl⟩
 .obtain⟨_,rfl⟩:=g
  unfold pY at h;split at h
  .rename_i xs e
   obtain⟨j,h1,b⟩:=ra.lst e;unfold kT at h;obtain⟨p1,p2,c,d,hd,q⟩:=h;exact⟨_,_,.inr (.lst (aX.of h1) (ao.dp _ j p2 b)),ra.dp p1 f,c,d,hd,k.here ra q rfl⟩
  .exact h.elim
 .exact h.elim
section
variable{X:Cx}{N:En}{pos:Pos}{a b:Expr}{ma mb:aN}
theorem EZ(c:X.A.units+64<cLine)(d:PE X a (up X.mg N ma))(e:PE X b (up X.mg N mb))(f:behindInMarks .In b=false:=by rfl):PE X (.Compare a [.In] [b] pos) (up X.mg N (cY (pX false) ma mb)):=sS (Jd c) (D9 false) d e f
end
open MA
theorem Wf.left{l r:Int}{a b:M}(h:Wf (.ah l r a b)):Wf a:=⟨h.arms.2.2.2.2.1,λn hn=>h.nm n (by simp[aW.names,hn])⟩
theorem Wf.right{l r:Int}{a b:M}(h:Wf (.ah l r a b)):Wf b:=⟨h.arms.2.2.2.2.2,λn hn=>h.nm n (by simp[aW.names,hn])⟩
end DP
namespace DP
open L2
theorem ao.of_get{mg:av}{ι:Io}{H:Hp}{n:Nat}:∀{ds:List D} {vs:List V},ds.length=vs.length->(∀(i:Nat) d v,ds[i]?=some d->vs[i]?=some v->RV mg ι n H d v)->ao mg ι n H ds vs
 |[],[],_,_=>rfl
 |[],_::_,h,_=>by cases h
 |_::_,[],h,_=>by cases h
 |d::ds,v::vs,h,k=>⟨v,vs,rfl,k 0 d v rfl rfl,ao.of_get (by simpa using h) λi d v h1 h2=>k (i+1) d v (by simpa using h1) (by simpa using h2)⟩
theorem RA.Fq{mg:av}{A:Ar}{ι:Io}{H H':Hp}(R:RA mg ι H A)(g:iX H H'):Ext A ι H A ι H':=⟨aF _,λ_ _=>rfl,R.im,λb u h _=>g b u h,λr h1 h2=>absurd h2 (by omega),λb u h=>⟨u,g b u h⟩⟩
@[irreducible] def nX(a b:Nat)(A:Ar)(R:DK):Prop:=match A[a]?,A[b]? with
 |some (.lst xs),some (.lst ys)=>R (.tup ((xs.zip ys).map λp=>.tup [p.1,p.2])) A
 |_,_=>False
def DZ(n:cQ):aN:=λτ A R=>n τ A λvs A1=>match vs with
 |[.ref a,.ref b]=>nX a b A1 R
 |_=>False
theorem Eu{X:Cx}{N:En}{a b:Expr}{n:cQ}{p1 p2 pos1 pos2:Pos}(r:X.mg "tuple"=none)(s:X.mg "zip"=none)(hc:X.calm=true)(L:PA X [a,b] (eS X.mg N n))(u:Gl X "tuple":=by rfl)(v:Gl X "zip":=by rfl)
  (hs:starEach [a,b] X.env=[(false,eval a X.env),(false,eval b X.env)]:=by rfl)(w:starEach [b] X.env=[(false,eval b X.env)]:=by rfl)
  (hz:starEach [.Call (.Name "zip" p2) [a,b] [] pos2] X.env=[(false,eval (.Call (.Name "zip" p2) [a,b] [] pos2) X.env)]:=by rfl):
  PE X (.Call (.Name "tuple" p1) [.Call (.Name "zip" p2) [a,b] [] pos2] [] pos1) (up X.mg N (DZ n)):=
 cT (JQ u r boot_tuple v s (by decide+kernel) hc L hs w hz) λσ H Q q=>by
  obtain⟨A,ι,τ,R,S,q,k⟩:=q
  refine⟨A,ι,τ,_,S,q,λvs I z H1 Y e M m o=> ?_⟩
  match vs,e,o with
  |[.ref x,.ref y],e,o=>
   obtain⟨_,_,rfl,⟨_,rfl⟩,_,_,rfl,⟨_,rfl⟩,rfl⟩:=o
   have e:nX x y I R:=e
   unfold nX at e
   split at e
   .rename_i ds es O P
    obtain⟨xs,h1,g1⟩:=m.lst O
    obtain⟨ys,h2,g2⟩:=m.lst P
    refine⟨_,_,xs,ys,rfl,aX.of h1,aX.of h2,λl H' ps J Z T f g=> ?_⟩
    have E:=m.Fq J
    refine k _ I z H' _ e (M.trans E) (m.fix E J) ⟨l,ps,rfl,T,ao.of_get ?_ λi d p hd B=> ?_⟩
    .rw[f,bC,List.length_zip,ao.length g1,ao.length g2]
    .obtain⟨t,K,C,rfl,U,V,W⟩:=g i p B
     rw[bF] at hd
     cases c:(ds.zip es)[i]? with
     |none=>rw[c] at hd;cases hd
     |some pr=>
      rw[c] at hd
      cases hd
      have D:ds[i]? =some pr.1:=by
       rw[vK] at c
       exact c.1
      have hd2:es[i]? =some pr.2:=by
       rw[vK] at c
       exact c.2
      obtain⟨o,h,F⟩:=ao.get g1 D
      obtain⟨v2,j,G⟩:=ao.get g2 hd2
      rw[U] at h
      rw[V] at j
      cases h
      cases j
      exact⟨t,[K,C],rfl,W,K,[C],rfl,RV.ext E _ _ F,C,[],rfl,RV.ext E _ _ G,rfl⟩
   .exact e.elim
@[irreducible] def qZ(r:Nat)(A:Ar)(R:DK):Prop:=match A[r]? with
 |some (.dct kvs)=>∃ns:List Str,kvs.map (·.1)=ns.map Sum.inr/\ns.Nodup/\ns.length<64/\∀ys:List Str,ys.Pairwise strLt->(∀x,x∈ys↔x∈ns)->R (.ref A.length) (A++[.lst (ys.map D.str)])
 |_=>False
def BF:gH:=λvs A R=>match vs with
 |[.ref r]=>qZ r A R
 |_=>False
theorem RK.keys{mg:av}{ι:Io}{H:Hp}{n:Nat}:∀{ds:List (Key×D)} {vs:List (Key×V)},RK mg ι n H ds vs->vs.map (·.1)=ds.map (·.1)
 |[],vs,h=>by have h':vs=[]:=h;rw[h'];rfl
 |d::ds,vs,h=>by
  obtain⟨x,r,rfl,_,a⟩:=h;simp[RK.keys a]
theorem Eg{mg:av}:iV mg (λxs H Q=>∃(d:Addr) (kvs:List (Key×V)) (ns:List Str),xs=[.ref d]/\H d=some (.dK kvs)/\kvs.map (·.1)=ns.map Sum.inr/\ns.Nodup/\ns.length<64/\
  ∀(l:Addr) (ys:List Str),H l=none->ys.Pairwise strLt->(∀x,x∈ys↔x∈ns)->Q (.ref l) (upd H l (.lst (ys.map V.str)))) BF:=by
 intro ds A ι H j R Q ra rs h k;unfold BF at h;split at h
 .obtain⟨_,_,rfl,⟨_,rfl⟩,rfl⟩:=rs
  unfold qZ at h;split at h
  .rename_i kvs e
   obtain⟨ns,h1,h2,h3,a⟩:=h;obtain⟨xs,b,c⟩:=ra.dct e;exact⟨_,xs,ns,rfl,b,by rw[RK.keys c,h1],h2,h3,λl ys f g i=>nC k ra (ao.strs ys) (a ys g i) f⟩
  .exact h.elim
 .exact h.elim
theorem LA{A:Ar}{r:Nat}{kvs:List (Key×D)}{ns:List Str}{R:DK}(h:A[r]?=some (.dct kvs))(hk:kvs.map (·.1)=ns.map Sum.inr)(hn:ns.Nodup)(a:ns.length<64)(k:∀ys:List Str,ys.Pairwise strLt->(∀x,x∈ys↔x∈ns)->R (.ref A.length) (A++[.lst (ys.map D.str)])):qZ r A R:=by
 unfold qZ;simp only[h];exact⟨ns,hk,hn,a,k⟩
theorem M8{A:Ar}{a b:Nat}{xs ys:List D}{R:DK}(h1:A[a]?=some (.lst xs))(h2:A[b]?=some (.lst ys))(k:R (.tup ((xs.zip ys).map λp=>.tup [p.1,p.2])) A):nX a b A R:=by
 unfold nX;simp only[h1,h2];exact k
open MA
def aP:M->Str->Rat->List (Str×Str×Rat)
 |.wt n,w,x=>[(w,n,x)]
 |.ah l r a b,w,x=>aP a (w++("l":Str)) (x*((r:Rat)/((l+r:Int):Rat)))++aP b (w++("r":Str)) (x*((l:Rat)/((l+r:Int):Rat)))
theorem nQ:∀(m:M) (w:Str) (x:Rat),(aP m w x).length=m.names.length
 |.wt _,_,_=>rfl
 |.ah _ _ a b,w,x=>by
  show List.length (_++_)=List.length (_++_);rw[bR,bR,nQ a,nQ b]
theorem nB{m:M}(h:m.deep<=5):m.names.length<=32:=
 cP (aW.uC m) (fW (by decide) h:2 ^ m.deep<=2 ^ 5)
theorem nJ{j k:Nat}(h:j<=k):(18:Int) ^ j<=18 ^ k:=by
 have:(18:Nat) ^ j<=18 ^ k:=fW (by decide) h;exact_mod_cast this
theorem uR(k:Nat):(1:Int)<=18 ^ k:=by
 have:1<=(18:Nat) ^ k:=Nat.one_le_pow _ _ (by decide);exact_mod_cast this
theorem x6{D a:Int}{j k:Nat}(h:D*18 ^ (max j k+1)<=1000000000)(hd:a<=D*18)(c:0<D):a*18 ^ j<=1000000000/\a*18 ^ k<=1000000000/\D<=1000000000:=by
 have e:D*18 ^ (max j k+1)=D*18*18 ^ max j k:=by rw[om,jW (18 ^ max j k) 18,<-lF]
 rw[e] at h;have p1:=nJ (le_max_left j k);have p2:=nJ (le_max_right j k);have b:=uR (max j k);have d:=uR j;have f:=uR k;refine⟨dg (g7 hd p1 (by omega) (by omega)) h,dg (g7 hd p2 (by omega) (by omega)) h,?_⟩;have:D*1<=D*18*18 ^ max j k:=g7 (by omega) b (by omega) (by omega);omega
theorem HL{n:Nat}(h:n<2 ^ 2000):n.log2<9000:=by
 by_cases h0:n=0
 .rw[h0];decide+kernel
 .exact(Nat.log2_lt h0).mpr (bO h (fW (by decide) (by decide)))
theorem xA:∀(xs:List Rat) (x:Rat) (b:Int),bot (xs++[x]) b=bot xs b*(rf x).2/(Int.gcd (bot xs b) (rf x).2:Int)
 |[],x,b=>rfl
 |y::r,x,b=>by
  show bot (r++[x]) _=_;rw[xA r x];rfl
theorem yK:∀(ns:List Int) (n d:Int),d_ (ns++[n]) d=(Int.gcd (d_ ns d) n:Int)
 |[],n,d=>rfl
 |m::r,n,d=>by
  show d_ (r++[n]) _=_;rw[yK r n];rfl
structure rZ(x:Rat):Prop where
 pos:0<x
 num:(rf x).1<=2000000
 den:(rf x).2<=2000000
theorem J9{c a b:Nat}(hc:0<c)(h:a<=b):(c:Int) ^ a<=(c:Int) ^ b:=by
 rw[<-Int.natCast_pow,<-Int.natCast_pow];exact Int.ofNat_le.mpr (fW hc h)
theorem Im{n:Int}{c k:Nat}(h0:0<n)(h:n<=(c:Int) ^ k):n.natAbs<=c ^ k:=by
 have:(n.natAbs:Int)<=(c:Int) ^ k:=by omega
 rw[<-Int.natCast_pow] at this;exact Int.ofNat_le.mp this
def Cons{W N S:Type}(l:List (W×N×S)):Prop:=∀a∈l,∀b∈l,a.2.1=b.2.1->a.2.2=b.2.2
theorem found{W N S:Type}[DecidableEq N]{l:List (W×N×S)}{n:N}{p:W×N×S}(h:l.find? (λp=>decide (p.2.1=n))=some p):p.2.1=n:=by
 have:=List.find?_some h;simpa using this
theorem o4{W N S:Type}[DecidableEq N][DecidableEq S]:∀(r pre:List (W×N×S)),bH pre r=none->Cons pre->Cons (pre++r)
 |[],pre,_,h=>by rw[fG];exact h
 |(g,n,s)::r,pre,l,h=>by
  have e:pre++(g,n,s)::r=(pre++[(g,n,s)])++r:=by simp
  rw[e];cases j:pre.find? (λp=>decide (p.2.1=n)) with
  |none=>
   have i:bH (pre++[(g,n,s)]) r=none:=by
    have:=l;unfold bH at this;rw[j] at this;exact this
   refine o4 r _ i λa ha b hbm d=>?_;have no:∀c∈pre,c.2.1≠n:=λc hc z=>by
    have:=List.find?_eq_none.mp j c hc;exact this (fY z)
   rcases aU.mp ha with ha|ha<;>rcases aU.mp hbm with hbm|hbm
   .exact h a ha b hbm d
   .rw[bh.mp hbm] at d
    exact absurd d (no a ha)
   .rw[bh.mp ha] at d
    exact absurd d.symm (no b hbm)
   .rw[bh.mp ha,bh.mp hbm]
  |some p=>
   have f:=l;unfold bH at f;rw[j] at f;by_cases es:p.2.2=s
   .have i:bH (pre++[(g,n,s)]) r=none:=by
     have:(if p.2.2=s then bH (pre++[(g,n,s)]) r else some (p.1,g))=none:=f;rwa [aj es] at this
    have m:=vP j;have k:p.2.1=n:=found j;refine o4 r _ i λa ha b hbm d=>?_;have to:∀c∈pre,c.2.1=n->c.2.2=s:=λc hc z=>by rw[h c hc p m (by rw[z,k]),es]
    rcases aU.mp ha with ha|ha<;>rcases aU.mp hbm with hbm|hbm
    .exact h a ha b hbm d
    .rw[bh.mp hbm] at d ⊢
     exact to a ha d
    .rw[bh.mp ha] at d ⊢
     exact(to b hbm d.symm).symm
    .rw[bh.mp ha,bh.mp hbm]
   .have:(if p.2.2=s then bH (pre++[(g,n,s)]) r else some (p.1,g))=none:=f
    rw[ai es] at this;cases this
theorem xG{W N S:Type}[DecidableEq N][DecidableEq S]:∀(r pre:List (W×N×S)),Cons (pre++r)->bH pre r=none
 |[],pre,_=>by unfold bH;rfl
 |(a,n,s)::r,pre,h=>by
  have e:pre++(a,n,s)::r=(pre++[(a,n,s)])++r:=by simp
  have c:=xG r (pre++[(a,n,s)]) (by rw[<-e];exact h);unfold bH;cases d:pre.find? (λp=>decide (p.2.1=n)) with
  |none=>exact c
  |some p=>
   have f:=vP d;have b:p.2.1=n:=found d;have es:p.2.2=s:=h p (jh _ f) (a,n,s) (by simp) b;show(if p.2.2=s then _ else _)=none;rw[aj es];exact c
theorem nR:∀(m:M) (w:Str) (x:Rat),(aP m w x).map (·.2.1)=m.names
 |.wt _,_,_=>rfl
 |.ah _ _ a b,w,x=>by
  show((aP a _ _++aP b _ _).map (·.2.1))=a.names++b.names;rw[gv,nR a,nR b]
theorem u9:∀(m:M) (w:Str) (x:Rat),(aP m w x).map (·.2.2)=m.sh x
 |.wt _,_,_=>rfl
 |.ah _ _ a b,w,x=>by
  show((aP a _ _++aP b _ _).map (·.2.2))=a.sh _++b.sh _;rw[gv,u9 a,u9 b]
noncomputable def shr(m:M):Str->Rat:=λx=>match (aP m "" 1).find? (λp=>decide (p.2.1=x)) with|some p=>p.2.2|none=>0
theorem q7{m:M}(h:bH [] (aP m "" 1)=none):(∀a∈aP m "" 1,a.2.2=shr m a.2.1)/\m.names.map (shr m)=m.sh 1:=by
 have hc:=o4 (aP m "" 1) [] h (by intro a b;simp at b);rw[g9] at hc;have key:∀a∈aP m "" 1,a.2.2=shr m a.2.1:=λa b=>by
  show _=(match (aP m "" 1).find? (λp=>decide (p.2.1=a.2.1)) with|some p=>p.2.2|none=>0);cases c:(aP m "" 1).find? (λp=>decide (p.2.1=a.2.1)) with
  |none=>exact absurd (fY rfl) (List.find?_eq_none.mp c a b)
  |some p=>exact(hc p (vP c) a b (found c)).symm
 refine⟨key,?_⟩;rw[<-nR m "" 1,<-u9 m "" 1,c5];exact lE λa b=>(key a b).symm
theorem num_mul{t:Rat}{a b:Int}(c:0<b)(d:0<=(rf t).1*a):(rf (t*((a:Rat)/(b:Rat)))).1<=(rf t).1*a:=by
 rw[<-AL,<-u5 (jj (gq t) c)];exact ediv_le_self _ d
theorem vc:∀(m:M) (x:Rat) (B:Int),m.arms->0<x->(rf x).1<=B->∀s∈m.sh x,(rf s).1<=B*18 ^ m.deep
 |.wt _,x,B,_,h1,h2,s,hs=>by
  have:s=x:=by simpa[aW.sh] using hs
  subst this;simpa[aW.deep] using h2
 |.ah l r a b,x,B,h,h1,h2,s,hs=>by
  obtain⟨g1,g2,g3,i,c,d⟩:=h;have e:0<B:=Int.lt_of_lt_of_le (k9 h1) h2;have np:=k9 h1;have f:(rf (x*((r:Rat)/((l+r:Int):Rat)))).1<=B*18:=by
   refine dg (num_mul (by omega) (mul_nonneg (by omega) (by omega))) ?_;exact g7 h2 (by omega) (by omega) (by omega)
  have g:(rf (x*((l:Rat)/((l+r:Int):Rat)))).1<=B*18:=by
   refine dg (num_mul (by omega) (mul_nonneg (by omega) (by omega))) ?_;exact g7 h2 (by omega) (by omega) (by omega)
  have p1:0<x*((r:Rat)/((l+r:Int):Rat)):=aW.step_pos g1 g3 h1;have p2:0<x*((l:Rat)/((l+r:Int):Rat)):=by
   have:=aW.step_pos (l:=r) (r:=l) g3 g1 h1;rwa [add_comm r l] at this
  have up:∀k:Nat,k<=max a.deep b.deep->B*18*18 ^ k<=B*18 ^ (max a.deep b.deep+1):=λk hk=>by
   rw[om,lF,jW 18 (18 ^ k)];refine oh ?_ (gw e);exact vF (nJ hk) (by decide)
  rcases aU.mp (show s∈a.sh _++b.sh _ from hs) with hs|hs
  .exact dg (vc a _ _ c p1 f s hs) (up _ (le_max_left _ _))
  .exact dg (vc b _ _ d p2 g s hs) (up _ (le_max_right _ _))
theorem LF{m:M}(a:m.arms)(d:m.deep<=5):∀s∈m.sh 1,0<s/\(rf s).1<=1889568/\(rf s).2<=1889568:=λs hs=>by
 obtain⟨f,b⟩:=aW.u_ m 1 1 a (by decide) (by decide) s hs;have c:=vc m 1 1 a (by decide) (by decide) s hs;have p:=nJ d;have e:(18:Int) ^ 5=1889568:=by decide
 rw[e] at p;rw[Int.one_mul] at b c;exact⟨f,dg c p,dg b p⟩
theorem LG{m:M}(a:m.arms)(b:m.deep<=5)(h:bH [] (aP m "" 1)=none){x:Str}(c:x∈m.names):rZ (shr m x):=by
 have:shr m x∈m.sh 1:=by
  rw[<-(q7 h).2];exact bX.mpr ⟨x,c,rfl⟩
 obtain⟨h1,h2,h3⟩:=LF a b _ this;exact⟨h1,by omega,by omega⟩
theorem kH{a:Ar->Prop}{g:iw}{b:cX}{R:l8}(J:List D->bA->Ar->Prop)(hc:∀rest τ A,J rest τ A->a A)
  (hs:∀x rest τ A,J (x::rest) τ A->∀c:bA->Ar->Prop,(∀bZ A',J rest bZ A'->c bZ A')->g x τ A λd f=>b {R with nx:=c,ct:=c,bk:=R.nx} d f)(e:∀τ A,J [] τ A->R.nx τ A):∀(items:List D) (τ:bA) (A:Ar),J items τ A->kF a g b R items τ A
 |[],τ,A,j=>⟨hc _ _ _ j,e _ _ j⟩
 |x::rest,τ,A,j=>⟨hc _ _ _ j,hs _ _ _ _ j _ λbZ A' h=>kH J hc hs e rest bZ A' h⟩
theorem Gr.uJ{A a A':Ar}{t:Nat}(g:Gr A a)(d:A.length<=t)(b:bL t a A'):Gr A A':=by
 have key:∀q c,A[q]?=some c->A'[q]?=some c:=λq c h=>b q c (by have:=jN h;omega) (g.get h);refine⟨A'.drop A.length,List.ext_getElem? λq=>?_⟩;by_cases hq:q<A.length
 .rw[fZ hq,aZ hq]
  exact key q _ (aZ hq)
 .rw[jt (by omega),List.getElem?_drop]
  congr 1;omega
end DP
namespace L2
open PySem.SeqAt
def ju(op:CmpOp)(A:Around)(s:Shared)(y x:Value)(b:Bool):Prop:=∀(prog:Program) (w:World) (E:aA) (Q:aA),Q (.bool b) s->wpAny (model prog w) A (richCompare op y x) Q E s
inductive f7(op:CmpOp)(A:Around)(s:Shared)(fin b:Bool):List (Value×Value)->Prop
 |nil:fin=b->f7 op A s fin b []
 |eq {y x:Value} {r:List (Value×Value)}:EqAt A s y x true->f7 op A s fin b r->f7 op A s fin b ((y,x)::r)
 |ne {y x:Value} {r:List (Value×Value)}:EqAt A s y x false->ju op A s y x b->f7 op A s fin b ((y,x)::r)
open MeetsSeq MeetsSeq2 MeetsSeq3 SeqRoads2
theorem MY(l b:Addr)(items a:Array Value)(n n2:Nat)(dd f:Option Addr)(m i:Array (Option Value))(res:Bool):
  Meets (Builtin.«tuple.__lt__» ⟨[.ref l,.ref b],[]⟩)
   (λA R s=>s.heap.get? l=some {cls:=.type "tuple",dict:=dd,data:=.seq items n,slots:=m}/\s.heap.get? b=some {cls:=.type "tuple",dict:=f,data:=.seq a n2,slots:=i}/\
    f7 .Lt A.in1 s (decide (items.size<a.size)) res (items.toList.zip a.toList)/\R (.ok (.ret (.bool res))) s):=
 .of_wp λprog w A R s h=>by
  obtain⟨k,g,d,tk,os⟩:=s;obtain⟨o,p,q,h⟩:=h;have f2:=AutoSeq1.sub_tuple_tuple;wp_walk using rN o,rN p,oq _ (λrest b s'=>b.1=none/\s'=⟨k,g,d,tk,os⟩/\f7 .Lt A.in1 ⟨k,g,d,tk,os⟩ (decide (items.size<a.size)) res rest) _;case turn=>
   rintro ⟨y,x⟩ rest b s' ⟨c,rfl,j⟩;cases j with
   |eq h1 h2=>
    refine aa (h1 prog w _ _ ?_);wp_walk;exact⟨rfl,rfl,h2⟩
   |ne h1 h2=>
    refine aa (h1 prog w _ _ ?_);simp only[Bool.not_false,f5];refine aa (j7 ?_);refine aa (h2 prog w _ _ ?_);wp_walk;exact⟨_,rfl,h⟩
  case fin=>
   rintro ⟨r,t⟩ s' ⟨c,rfl,j⟩;simp only at c;subst c;cases j with
   |nil e=>
    wp_walk;exact⟨_,rfl,by rw[<-e] at h;simpa[Builtin.Tuple.tupleCompareSizes] using h⟩
  case h=>
   exact⟨rfl,rfl,q⟩
mutual
def ltQ:PyData->PyData->Option Bool
 |.int i,.int j=>some (decide (i<j))
 |.str x,.str y=>some (decide (x.cps.toList<y.cps.toList))
 |.tuple xs,.tuple ys=>e9 xs ys
 |_,_=>none
def e9:List PyData->List PyData->Option Bool
 |[],[]=>some false
 |[],_::_=>some true
 |_::_,[]=>some false
 |x::xs,y::ys=>match PyData.eqv x y with
  |true=>e9 xs ys
  |false=>ltQ x y
end
theorem Dc(i j:Int)(A:Around)(s:Shared)(a b:Value)(as bs:List Addr)(r:Bool)(e:ltQ (.int i) (.int j)=some r)(ra:Reads s.heap a (.int i) as)(c:Reads s.heap b (.int j) bs):ju .Lt A s a b r:=by
 cases ra;cases c;rw[ltQ] at e;cases e;intro prog w E Q q;exact lt_int q
theorem Dd(xs ys:List PyData)(A:Around)(s:Shared)(a b:Value)(as bs:List Addr)(r:Bool)(i:A.units+min (PyData.tuple xs).depth (PyData.tuple ys).depth<cLine)(L:∀d vs as bs,ReadsAll s.heap d xs as->ReadsAll s.heap vs ys bs->A.in1.units+min (depthAll xs) (depthAll ys)<cLine->f7 .Lt A.in1 s (decide (d.length<vs.length)) r (d.zip vs))(ra:Reads s.heap a (.tuple xs) as)(k:Reads s.heap b (.tuple ys) bs):ju .Lt A s a b r:=by
 cases ra with
 | @tuple l o vs n _ e h1 h2 h3 m=>
  cases k with
  | @tuple p o' c n' _ f k1 k2 k3 t=>
   obtain⟨cls,dd,data,u⟩:=o;obtain⟨j,g,data2,h⟩:=o';simp only at h2 h3 k2 k3;subst h2 h3 k2 k3;have L:=L vs.toList c.toList _ _ m t (room_in i);intro prog w E Q q;exact richCompare_meets_room (op:=.Lt) ⟨_,h1,rfl⟩ ⟨_,k1,rfl⟩ F.slot_tuple_lt F.entry_tuple_lt (F.args_tuple_lt_2 _ _) (MY l p vs c n n' dd g u h r)
    ⟨h1,k1,by simpa using L,show Value.bool r≠Value.notImplemented/\Q (.bool r) s from⟨(λx=>nomatch x),q⟩⟩ (room_here i)
theorem Df(i j:Str)(A:Around)(s:Shared)(a b:Value)(as bs:List Addr)(r:Bool)(e:ltQ (.str i) (.str j)=some r)(ra:Reads s.heap a (.str i) as)(c:Reads s.heap b (.str j) bs):ju .Lt A s a b r:=by
 cases ra;cases c;rw[ltQ] at e;cases e;intro prog w E Q q;exact lt_str q
theorem zx{α β:Type}{a:α}{b:β}{u:List α}{v:List β}:decide ((a::u).length<(b::v).length)=decide (u.length<v.length):=by simp
theorem De(x y:PyData)(xs ys:List PyData)(A:Around)(s:Shared)(a vs:List Value)(as bs:List Addr)(r:Bool)(e:e9 (x::xs) (y::ys)=some r)(ra:ReadsAll s.heap a (x::xs) as)(i:ReadsAll s.heap vs (y::ys) bs)(j:canLayAll0 (x::xs)=true)(k:canLayAll0 (y::ys)=true)
 (g:A.units+min (depthAll (x::xs)) (depthAll (y::ys))<cLine)
 (l:∀a vs as bs,e9 xs ys=some r->ReadsAll s.heap a xs as->ReadsAll s.heap vs ys bs->canLayAll0 xs=true->canLayAll0 ys=true->A.units+min (depthAll xs) (depthAll ys)<cLine->f7 .Lt A s (decide (a.length<vs.length)) r (a.zip vs))
 (L2:∀u v as bs,ltQ x y=some r->Reads s.heap u x as->Reads s.heap v y bs->x.canLay0=true->y.canLay0=true->A.units+min x.depth y.depth<cLine->ju .Lt A s u v r):f7 .Lt A s (decide (a.length<vs.length)) r (a.zip vs):=by
  have b:x.canLay0=true/\canLayAll0 xs=true:=by simpa[canLayAll0] using j
  have d:y.canLay0=true/\canLayAll0 ys=true:=by simpa[canLayAll0] using k
  cases ra with
  |cons a1 a2=>
   cases i with
   |cons h m=>
    have f:=eqAt_reads x y A s _ _ _ _ a1 h b.1 d.1 (room_head g)
    rw[e9] at e
    cases c:PyData.eqv x y with
    |true=>
     rw[c] at e f
     have L:=l _ _ _ _ e a2 m b.2 d.2 (room_tail g)
     rw[zx]
     exact .eq f L
    |false=>
     rw[c] at e f
     exact .ne f (L2 _ _ _ _ e a1 h b.1 d.1 (room_head g))
mutual
theorem xB:∀(d db:PyData) (A:Around) (s:Shared) (a b:Value) (as bs:List Addr) (r:Bool),ltQ d db=some r->Reads s.heap a d as->Reads s.heap b db bs->d.canLay0=true->db.canLay0=true->
  A.units+min d.depth db.depth<cLine->ju .Lt A s a b r
 |.none,db,A,s,_,_,_,_,r,e,ra,c,_,_,_=>by simp[ltQ] at e
 |.bool _,db,A,s,_,_,_,_,r,e,ra,c,_,_,_=>by simp[ltQ] at e
 |.list _,db,A,s,_,_,_,_,r,e,ra,c,_,_,_=>by simp[ltQ] at e
 |.dict _,db,A,s,_,_,_,_,r,e,ra,c,_,_,_=>by simp[ltQ] at e
 |.int i,db,A,s,_,_,_,_,r,e,ra,c,_,_,_=>by
  cases db with
  |int j=>exact Dc i j A s _ _ _ _ r e ra c
  |_=>simp[ltQ] at e
 |.str i,db,A,s,_,_,_,_,r,e,ra,c,_,_,_=>by
  cases db with
  |str j=>exact Df i j A s _ _ _ _ r e ra c
  |_=>simp[ltQ] at e
 |.tuple xs,db,A,s,_,_,_,_,r,e,ra,c,f,g,h=>by
  cases db with
  |tuple ys=>exact Dd xs ys A s _ _ _ _ r h (λk vs as bs h1 h2 h3=>ud xs ys A.in1 s k vs as bs r (by rw[ltQ] at e;exact e) h1 h2 f g h3) ra c
  |_=>simp[ltQ] at e
theorem ud:∀(xs ys:List PyData) (A:Around) (s:Shared) (a vs:List Value) (as bs:List Addr) (r:Bool),e9 xs ys=some r->ReadsAll s.heap a xs as->ReadsAll s.heap vs ys bs->canLayAll0 xs=true->canLayAll0 ys=true->
  A.units+min (depthAll xs) (depthAll ys)<cLine->f7 .Lt A s (decide (a.length<vs.length)) r (a.zip vs)
 |[],ys,A,s,_,_,_,_,r,e,ra,b,_,_,_=>by
  cases ys with
  |nil=>cases ra;cases b;rw[e9] at e;cases e;exact .nil (by simp)
  |cons y ys=>cases ra;cases b;rw[e9] at e;cases e;exact .nil (by simp)
 |x::xs,ys,A,s,a,vs,as,bs,r,e,ra,b,g,h,i=>by
  cases ys with
  |nil=>cases ra;cases b;rw[e9] at e;cases e;exact .nil (by simp)
  |cons y ys=>exact De x y xs ys A s a vs as bs r e ra b g h i (λa vs as bs h1 h2 h3 c d f=>ud xs ys A s a vs as bs r h1 h2 h3 c d f) (λu v as bs h1 h2 h3 c d f=>xB x y A s u v as bs r h1 h2 h3 c d f)
end
section
variable{prog:Program}{w:World}{A:Around}{E:aA}{s:Shared}
theorem Ic{a b:Value}{r:Bool}{Q:aA}(P:A.handled=none)
  (hc:∀s':Shared,(∀c o,s.heap.get? c=some o->s'.heap.get? c=some o)->ju .Lt A.in1 s' b a r)
  (h:∀h' tk,(∀c o,s.heap.get? c=some o->h'.get? c=some o)->Q (if r=true then b else a) {s with heap:=h',toks:=tk}):
  wpAny (model prog w) A (call (.builtin "min") [a,b]) Q E s:=by
 have f:(toString "min"++toString ".loop":String)="min.loop":=by decide
 refine call_function_tree F.kind_min F.plain_min F.entry_min (F.args_min2 _ _) ?_
 show wpAny _ A.in1 (Builtin.Builtins.bindParams "min" ["key","default"] 0 ⟨[],[]⟩>>=_) _ _ s
 refine aa (ow (show Builtin.Builtins.bindParams "min" ["key","default"] 0 ⟨[],[]⟩=pure [none,none] from rfl) ?_)
 show wpAny _ A.in1 (newTuple [a,b]>>=_) _ _ s
 refine aa (dH ?_)
 have M:(s.heap.push {cls:= .type "tuple",data:= .seq #[a,b]}).IsTuple s.heap.objs.size #[a,b]:=⟨_,bK _ rfl,rfl,0,rfl⟩
 have hsz:(s.heap.push {cls:= .type "tuple",data:= .seq #[a,b]}).objs.size=s.heap.objs.size+1:=cJ ..
 refine aa (wpAny_pyIter_tuple M ?_)
 refine aa (dH ?_)
 rw[f]
 obtain⟨I,B⟩:∃I,I=(s.heap.push {cls:= .type "tuple",data:= .seq #[a,b]}).objs.size:=⟨_,rfl⟩
 have l:((s.heap.push {cls:= .type "tuple",data:= .seq #[a,b]}).push {cls:= .type "tuple_iterator",data:= .fields #[.ref s.heap.objs.size,.int 0 0]}).IsTupleIter I s.heap.objs.size 0:=by
  rw[B];exact⟨_,bK _ rfl,rfl,rfl⟩
 have m:=M.push {cls:= .type "tuple_iterator",data:= .fields #[.ref s.heap.objs.size,.int 0 0]}
 obtain⟨h1,C⟩:∃h1,h1=(s.heap.push {cls:= .type "tuple",data:= .seq #[a,b]}).push {cls:= .type "tuple_iterator",data:= .fields #[.ref s.heap.objs.size,.int 0 0]}:=⟨_,rfl⟩
 have i:h1.objs.size=I+1:=by rw[C,B];exact cJ ..
 have k1:∀c o,s.heap.get? c=some o->h1.get? c=some o:=λc o e=>by rw[C];exact aR _ (aR _ e)
 have n:s.heap.objs.size<I:=by rw[B,hsz];exact iO _
 rw[<-C] at l m
 show wpAny _ A.in1 (pure _) _ _ {s with heap:=(_:Heap)}
 rw[<-B,<-C]
 have W:=Walks.tuple (prog:=prog) (w:=w) (A:=A.in1) P I s.heap.objs.size (aV n) #[a,b]
 obtain⟨S,p⟩:∃S,S=h1.objs.size:=⟨_,rfl⟩
 have g:S≠I:=by rw[p,i];exact g8 (iO _)
 have q:S≠s.heap.objs.size:=by rw[p,i];omega
 have D:∀c o,s.heap.get? c=some o->c≠S/\c≠I:=λc o e=>by
  have:=aM e
  have l2:c<I:=lt_trans this n
  exact⟨aV (by rw[p,i];exact fD l2),aV l2⟩
 have d:∀{c:Addr},c≠I->c∉[I]:=λh z=>h (by simpa using z)
 refine ak ⟨eT jT _,?_⟩
 rw[<-p]
 have N:(h1.push {cls:= .type "list",data:= .seq #[]}).get? S=some {cls:= .type "list",dict:=none,data:= .seq #[] 0,slots:= #[]}:=by rw[p];exact bK _ rfl
 have t:=W.frame 0 h1 (h1.push {cls:= .type "list",data:= .seq #[]}) ⟨l,m⟩ λb _ o e=>aR _ e
 refine eG F.entry_min_loop ?_
 rw[eU jT _]
 show wpAny _ A.in1 (seqItems? (.ref S)>>=_) _ _ _
 refine aa (gB N rfl ?_)
 show wpAny _ A.in1 (tryCatch (pyNext (.ref I)) _>>=_) _ _ _
 refine aa (oB (W.item 0 _ _ _ (by simp) t λv h2 T U G k2=> ?_))
 have ev:v=a:=by simpa using U.symm
 subst ev
 have g2:=k2 S _ (d g) N
 show wpAny _ A.in1 (updateSeq S (λ_=> #[v,v])>>=_) _ _ _
 refine aa ?_
 refine jl g2 rfl ?_
 rw[f]
 refine ak ⟨eT jT _,?_⟩
 refine eG F.entry_min_loop ?_
 rw[eU jT _]
 show wpAny _ A.in1 (seqItems? (.ref S)>>=_) _ _ _
 refine aa (gB (fH _ g2 rfl) rfl ?_)
 show wpAny _ A.in1 (tryCatch (pyNext (.ref I)) _>>=_) _ _ _
 refine aa (oB (W.item 1 _ _ _ (by simp) (W.frame _ _ _ G λc hcf o e=> ?_) λj h3 V H u k3=> ?_))
 .refine(gG _ _ (λz:S=c=> ?_)).trans e
  rcases aQ.mp hcf with J|hcf
  .exact g (z.trans J)
  .exact q (z.trans (bh.mp hcf))
 have K:j=b:=by simpa using H.symm
 subst K
 have g3:=k3 S _ (d g) (fH _ g2 rfl)
 have kk:∀c o,s.heap.get? c=some o->h3.get? c=some o:=λc o e=>by
  obtain⟨n1,n2⟩:=D c o e
  exact k3 c o (d n2) ((gG _ _ (Ne.symm n1)).trans (k2 c o (d n2) (aR _ (k1 c o e))))
 show wpAny _ A.in1 (tryCatch (holding [j,j] (richCompare .Lt j v>>=_)) _>>=_) _ _ _
 refine aa (oB (dU (aa (hc _ (by exact kk) prog w _ _ ?_))))
 refine aa (dU (ie ?_))
 refine aa (wpAny_letGo (ak ?_))
 have fin:∀(R:Result->Shared->Prop) (x:Value) (k:Heap) (y n4:Nat),(∀h' tk,(∀c o,s.heap.get? c=some o->h'.get? c=some o)->R (.ok (.ret x)) {s with heap:=h',toks:=tk})->k.get? S=some {cls:= .type "list",dict:=none,data:= .seq #[x,x] n4,slots:= #[]}->(k.IsTupleIter I s.heap.objs.size 2/\k.IsTuple s.heap.objs.size #[v,j])->(∀c o,s.heap.get? c=some o->k.get? c=some o)->
   codeAny (model prog w) A (.builtin "min.loop" ⟨[.ref I,.none,.ref S],[]⟩) R {s with heap:=k,toks:=y}:=by
  intro R x k y n4 X O L Y
  refine eG F.entry_min_loop ?_
  rw[eU jT _]
  show wpAny _ A.in1 (seqItems? (.ref S)>>=_) _ _ _
  refine aa (gB O rfl ?_)
  show wpAny _ A.in1 (tryCatch (pyNext (.ref I)) _>>=_) _ _ _
  refine aa (oB (W.done _ _ _ L λh5 Z k5=> ?_))
  have g5:=k5 S _ (d g) O
  show wpAny _ A.in1 (updateSeq S (λ_=> #[])>>=_) _ _ _
  refine aa ?_
  refine jl g5 rfl (aa (wpAny_letGo (ak ?_)))
  exact X _ _ λc o e=>by
   obtain⟨n1,n2⟩:=D c o e
   exact(gG _ _ (Ne.symm n1)).trans (k5 c o (d n2) (Y c o e))
 cases r with
 |true=>
  simp only[f5]
  refine aa ?_
  refine jl g3 rfl (aa (wpAny_letGo ?_))
  rw[f]
  refine ak ⟨eT jT _,fin _ j _ _ _ (λh' tk hk=> ?_) (fH _ g3 rfl) (W.frame _ _ _ u λc hcf o e=> ?_) λc o e=>(gG _ _ (Ne.symm (D c o e).1)).trans (kk c o e)⟩
  .exact h h' tk hk
  .refine(gG _ _ (λz:S=c=> ?_)).trans e
   rcases aQ.mp hcf with J|hcf
   .exact g (z.trans J)
   .exact q (z.trans (bh.mp hcf))
 |false=>
  simp only[cu,bW]
  refine aa (wpAny_letGo ?_)
  rw[f]
  refine ak ⟨eT jT _,fin _ v _ _ _ (λh' tk hk=> ?_) g3 u kk⟩
  exact h h' tk hk
end
section
variable{X:Cx}
theorem C8(hc:X.calm=true)(n:X.A.units+64<cLine):dY X (.builtin "min") (λxs H Q=>∃(a b:V) (d e:PyData) (r:Bool),xs=[a,b]/\Dp X.K H a d/\Dp X.K H b e/\d.canLay0=true/\e.canLay0=true/\min e.depth d.depth<=60/\ltQ e d=some r/\Q (if r=true then b else a) H):=by
 intro pins s σ H xs o Q I r h;obtain⟨a,b,d,e,k,rfl,h1,h2,f,g,hd,i,q⟩:=h;obtain⟨u,j,rfl,ra,c⟩:=vals2 r;obtain⟨as,l⟩:=Dp.reads I d a u h1 ra;obtain⟨bs,m⟩:=Dp.reads I e b j h2 c;refine Ic (r:=k) (I.ok.hd hc) (λs' kp=>xB e d X.A.in1 s' _ _ _ _ k i (PyProof.Rows.Reads.keeps kp m) (PyProof.Rows.Reads.keeps kp l) g f ?_) λh' tk kp=>⟨_,H,I.kept kp,?_,q⟩
 .show X.A.units+1+_<_
  omega
 .cases k
  .exact ra
  .exact c
end
end L2
namespace DP
open L2
@[irreducible] def qj(x y:D)(A:Ar)(R:DK):Prop:=dQ x=true/\dQ y=true/\(toQ x).canLay0=true/\(toQ y).canLay0=true/\min (toQ y).depth (toQ x).depth<=60/\∃b,ltQ (toQ y) (toQ x)=some b/\R (if b=true then y else x) A
def zL:gH:=λvs A R=>match vs with
 |[x,y]=>qj x y A R
 |_=>False
theorem Eb{mg:av}{K:Frag}:iV mg (λxs H Q=>∃(a b:V) (d e:PyData) (r:Bool),xs=[a,b]/\Dp K H a d/\Dp K H b e/\d.canLay0=true/\e.canLay0=true/\min e.depth d.depth<=60/\ltQ e d=some r/\Q (if r=true then b else a) H) zL:=by
 intro ds A ι H l R Q ra rs h k;unfold zL at h;split at h
 .rename_i x y
  obtain⟨u,_,rfl,c,v,_,rfl,f,rfl⟩:=rs;unfold qj at h;obtain⟨p1,p2,g,i,hd,b,j,q⟩:=h;refine⟨u,v,_,_,b,rfl,RV.dp _ _ p1 c,RV.dp _ _ p2 f,g,i,hd,j,?_⟩;cases b
  .exact k.here ra q c
  .exact k.here ra q f
 .exact h.elim
end DP
namespace SR
abbrev Rs(xs:Array Nat):Prop:=xs.toList.Pairwise (·<·)
theorem Rs.lt{xs:Array Nat}(h:Rs xs){a b:Nat}(c:a<b)(d:b<xs.size):xs.getD a 0<xs.getD b 0:=by
 have:=iQ.mp h a b (by simp;omega) (by simp;omega) c;rw[dI,dI,b_ (by omega),b_ d];simpa using this
theorem tR(xs:Array Nat)(d:Rs xs)(j:Nat):∀(fuel lo hi:Nat),hi<=xs.size->lo<=hi->hi - lo<=fuel->(∀i,i<lo->xs.getD i 0<j)->(∀i,hi<=i->i<xs.size->j<=xs.getD i 0)->
  SetTable.below.go xs j fuel lo hi<=xs.size/\(∀i,i<SetTable.below.go xs j fuel lo hi->xs.getD i 0<j)/\∀i,SetTable.below.go xs j fuel lo hi<=i->i<xs.size->j<=xs.getD i 0
 |0,lo,hi,h1,h2,h3,f,g=>by
  have e:lo=hi:=by omega
  show lo<=_/\(∀i,i<lo->_)/\∀i,lo<=i->_;exact⟨by omega,f,λi c=>g i (by omega)⟩
 |fuel+1,lo,hi,h1,h2,h3,f,g=>by
  unfold SetTable.below.go;by_cases h:lo<hi
  .rw[aj h]
   dsimp only;have k:(lo+hi)/2<xs.size:=by omega
   have e:xs.getD ((lo+hi)/2) j=xs.getD ((lo+hi)/2) 0:=by
    rw[dI,dI,b_ k];rfl
   rw[e];by_cases hc:xs.getD ((lo+hi)/2) 0<j
   .rw[aj hc]
    refine tR xs d j fuel _ hi h1 (by omega) (by omega) (λi c=>?_) g;by_cases z:i=(lo+hi)/2
    .rw[z];exact hc
    .have:=d.lt (a:=i) (b:=(lo+hi)/2) (by omega) k
     omega
   .rw[ai hc]
    refine tR xs d j fuel lo _ (by omega) (by omega) (by omega) f (λi c hs=>?_);by_cases z:i=(lo+hi)/2
    .rw[z];omega
    .have:=d.lt (a:=(lo+hi)/2) (b:=i) (by omega) hs
     omega
  .rw[ai h]
   exact⟨by omega,f,λi c=>g i (by omega)⟩
theorem mH{xs:Array Nat}(a:Rs xs)(j:Nat):SetTable.below xs j<=xs.size/\(∀i,i<SetTable.below xs j->xs.getD i 0<j)/\∀i,SetTable.below xs j<=i->i<xs.size->j<=xs.getD i 0:=
 tR xs a j xs.size 0 xs.size (aF _) (b9 _) (by omega) (λi h=>absurd h (fV _)) (λi h1 h2=>absurd h2 (by omega))
theorem yL{xs:Array Nat}{i:Nat}(h:i<xs.size):xs[i]?=some (xs.getD i 0):=by
 rw[dI,b_ h];rfl
theorem xg{xs:Array Nat}(a:Rs xs):SetTable.below xs 0=0:=by
 obtain⟨h1,h2,h3⟩:=mH a 0;by_cases z:SetTable.below xs 0=0
 .exact z
 .exact absurd (h2 0 (by omega)) (fV _)
theorem w_{xs:Array Nat}(c:Rs xs){i:Nat}(hi:i<xs.size):SetTable.below xs (xs.getD i 0+1)=i+1:=by
 obtain⟨h1,h2,h3⟩:=mH c (xs.getD i 0+1);have a1:i<SetTable.below xs (xs.getD i 0+1):=by
  by_cases z:i<SetTable.below xs (xs.getD i 0+1)
  .exact z
  .have:=h3 i (by omega) hi
   omega
 by_cases z:i+1<SetTable.below xs (xs.getD i 0+1)
 .have a2:=h2 (i+1) z
  have d:=c.lt (a:=i) (b:=i+1) (by omega) (by omega);omega
 .omega
theorem CV{xs:Array Nat}(b:Rs xs){j:Nat}(h:j∈xs.toList):xs[SetTable.below xs j]?=some j:=by
 obtain⟨i,hi,e⟩:=iu h;have a:i<xs.size:=by simpa using hi
 have c:xs.getD i 0=j:=by
  rw[dI,b_ a];simpa using e
 obtain⟨h1,h2,h3⟩:=mH b j;have a1:SetTable.below xs j=i:=by
  rcases Nat.lt_trichotomy (SetTable.below xs j) i with z|z|z
  .have a2:=h3 _ (aF _) (by omega)
   have d:=b.lt z a;omega
  .exact z
  .have:=h2 i z
   omega
 rw[a1,yL a,c]
theorem GU{xs:Array Nat}(f:Rs xs){j:Nat}(m:j∉xs.toList):Rs (SetTable.insertAt xs (SetTable.below xs j) j):=by
 obtain⟨h1,h2,h3⟩:=mH f j;unfold SetTable.insertAt Rs;have e:((xs.extract 0 (SetTable.below xs j)).push j++xs.extract (SetTable.below xs j) xs.size).toList=xs.toList.take (SetTable.below xs j)++(j::xs.toList.drop (SetTable.below xs j)):=by
  simp[eE,lJ];exact gx (by simp)
 rw[e];refine cF.mpr ⟨f.sublist (fX _ _),lH.mpr ⟨λy n=>?_,f.sublist (gF _ _)⟩,λa o b hb=>?_⟩
 .obtain⟨i,hi,e⟩:=iu n
  rw[fh] at hi;rw[List.getElem_drop] at e;have c:SetTable.below xs j+i<xs.size:=by simp at hi;omega
  have:=h3 (SetTable.below xs j+i) (by omega) c;rw[dI,b_ c] at this;have h:xs[SetTable.below xs j+i]=y:=by simpa using e
  have this:j<=y:=by rw[<-h];exact this
  have p:j≠y:=λz=>m (by rw[z,<-h];simp);omega
 .obtain⟨i,hi,e⟩:=iu o
  rw[e_] at hi;rw[List.getElem_take] at e;have c:i<xs.size:=by omega
  have:=h2 i (by omega);rw[dI,b_ c] at this;have q:xs[i]=a:=by simpa using e
  have g:a<j:=by rw[<-q];exact this
  rcases aQ.mp hb with z|hb
  .rw[z];exact g
  .obtain⟨k,hk,l⟩:=iu hb
   rw[fh] at hk;rw[List.getElem_drop] at l;have d:SetTable.below xs j+k<xs.size:=by simp at hk;omega
   have:=h3 (SetTable.below xs j+k) (by omega) d;rw[dI,b_ d] at this;have r:xs[SetTable.below xs j+k]=b:=by simpa using l
   have:j<=b:=by rw[<-r];exact this
   omega
theorem Hz{mask finger moves:Nat}{led plain:Bool}{hs:Array Int}{t:SetTable}{o:Array Nat}(h:SetTable.laid mask finger moves led plain hs=some (t,o)):Rs t.place:=by
 unfold SetTable.laid at h;obtain⟨w,_,h⟩:=Option.bind_eq_some_iff.mp h;cases h;unfold Rs;dsimp only;rw[lI,List.pairwise_filterMap];refine List.pairwise_lt_range.imp λ {a b} c p d q hq=>?_;obtain⟨_,_,rfl⟩:=jU.mp d;obtain⟨_,_,rfl⟩:=jU.mp hq;exact c
end SR
namespace SI
open SS
section
variable{prog:Program}{w:World}{A:Around}{E:aA}{s:Shared}{it a:Addr}{es:Array (Int×Value)}{ep:Nat}{t:SetTable}
theorem zP{slot i:Nat}{Q:Option (Value×Nat)->Shared->Prop}(d:w.params.followText "set-order"=false)(e:t.led=true)(hz:(!t.plain&&decide (es.size>1))=false)(hs:fL s.heap a es ep t)
  (h:Q (match es[SetTable.below t.place slot]?,t.place[SetTable.below t.place slot]? with|some (_,x),some j=>some (x,j+1)|_,_=>none) s):wpAny (model prog w) A (setNext a slot i ep) Q E s:=by
 obtain⟨os,b,c,f⟩:=hs;unfold setNext;refine aa (ic b c f ?_);dsimp only;refine aa (o6 ?_);rw[d,ai (by decide)];show wpAny _ _ (if (!t.plain&&decide (es.size>1))=true then _ else _) _ _ _;rw[hz,ai (by decide)];show wpAny _ _ ((if (!t.led&& !es.isEmpty)=true then _ else _)>>=_) _ _ _;rw[e,ai (by simp)];exact aa (ak (ak h))
theorem Nb(r:w.params.followText "set-order"=false)(u:t.led=true)(hz:(!t.plain&&decide (es.size>1))=false)(m:t.fits es.size=true)(c:SR.Rs t.place)(B:A.handled=none)(n:a≠it):
  Walks prog w A it [it,a] [it] (es.toList.map (·.2)).length (λi v=>(es.toList.map (·.2))[i]? =some v) (λi h=>dZ h it a (.int (if i=0 then 0 else t.place.getD (i - 1) 0+1:Nat) 0) i es.size ep/\fL h a es ep t) where
 sub:=λb f=>by simp at f;simp[f]
 frame:=λ_ _ _ st hk=>⟨st.1.keep λo e=>hk it (by simp) o e,st.2.keep λo e=>hk a (by simp) o e⟩
 item:=λi s Q E hi st g=>by
  have d:i<es.size:=by simpa using hi
  have C:t.place.size=es.size:=by simp only[SetTable.fits,fF,iT] at m;exact m.1
  have y:es[i]? =some (es[i]'d):=b_ d
  have D:t.place[i]? =some (t.place.getD i 0):=SR.yL (by omega)
  have p:SetTable.below t.place (if i=0 then 0 else t.place.getD (i - 1) 0+1)=i:=by
   by_cases z:i=0
   .rw[aj z,SR.xg c,z]
   .rw[ai z,SR.w_ c (by omega)];omega
  refine zQ (slot:=((if i=0 then 0 else t.place.getD (i - 1) 0+1:Nat):Int)) (x:=(es[i]'d).2) (nx:=t.place.getD i 0+1) st.1 st.2 (λA' F G hq=> ?_) λh' j k=> ?_
  .refine zP r u hz st.2 ?_
   rw[lM,p,y,D]
   exact hq
  .refine g _ h' s.toks ?_ ⟨?_,st.2.keep λo e=>(k.2 a n).trans e⟩ λb o f e=>(k.2 b λz=>f (by simp[z])).trans e
   .rw[bF,d8,y];rfl
   .rw[ai (by omega)];exact j
 done:=λs Q E st g=>by
  have C:t.place.size=es.size:=by simp only[SetTable.fits,fF,iT] at m;exact m.1
  have l:(es.toList.map (·.2)).length=es.size:=by simp
  rw[l] at st
  refine yl B st.1 st.2 (λA' F G hq=>zP r u hz st.2 ?_) λh' q=>g h' s.toks λb o f e=>q b o (λz=>f (by simp[z])) e
  rw[lM]
  have p:SetTable.below t.place (if es.size=0 then 0 else t.place.getD (es.size - 1) 0+1)=es.size:=by
   by_cases z:es.size=0
   .rw[aj z,SR.xg c,z]
   .rw[ai z,SR.w_ c (by omega)];omega
  rw[p,lW (by omega)]
  exact hq
 self:=λ_ _ _ _ st g=>t6 st.1 g
end
end SI
namespace DP
open L2
@[irreducible] def anyR(r:Nat)(A:Ar)(R:DK):Prop:=match A[r]? with
 |some (.lst xs)=>(match gc xs with
  |some bs=>R (.bl (bs.any id)) A
  |none=>False)
 |_=>False
end DP
end
namespace KO
open PySem PySem.W PyProof.Rows
section
variable{O:KeyOrd}{key:Nat->O.α}{n:Nat}{cmp:Nat->Nat->(Bool->Shared->Prop)->Shared->Prop}{s:Shared}
def kp(O:KeyOrd)(key:Nat->O.α)(p:Array Nat)(i:Nat):O.α:=key (p.getD i 0)
def Up(O:KeyOrd)(key:Nat->O.α)(p:Array Nat)(k:Nat):Prop:=∀i j,i<=j->j<k->O.kle (kp O key p i) (kp O key p j)
def Pm(n:Nat)(p:Array Nat):Prop:=p.Perm (range n).toArray
theorem Pm.size{p:Array Nat}(h:Pm n p):p.size=n:=by
 have:=Array.Perm.size_eq h;simpa using this
variable(hc:∀i j,i<n->j<n->∀C:Bool->Shared->Prop,C (O.blt (key i) (key j)) s->cmp i j C s)
include hc
end
end KO
namespace KP
open PySem PySem.W PySem.Spec PyProof.Rows KO
section
variable{prog:Program}{w:World}{A:Around}{E:aA}{s:Shared}
theorem zz{b fin r:Bool}{Q:Bool->Shared->Prop}(q:Q r s):∀{zs:List (Value×Value)} {i:Nat},0<i->L2.f7 .Lt A s fin r zs->KatLex prog w A b fin Q zs i s
 |[],i,hi,h=>by
  cases h with
  |nil e=>exact kat_nil (by rw[e];exact q)
 |(y,x)::zs,i,hi,h=>by
  refine kat_cons ?_;cases h with
  |eq h1 h2=>exact h1 prog w _ _ (kat_yes (zz q (by omega) h2))
  |ne h1 h2=>
   refine h1 prog w _ _ (kat_no ?_);have e:(b&&i==0)=false:=by
    cases i with
    |zero=>omega
    |succ i=>simp
   rw[e];exact kat_one _ _ (h2 prog w _ _ q)
theorem Hr{x y:Value}{a c:Str}{xs ys:List PyData}{as bs:List Addr}{r:Bool}{Q:Bool->Shared->Prop}(e:L2.ltQ (.tuple (.str a::xs)) (.tuple (.str c::ys))=some r)(t:Reads s.heap x (.tuple (.str a::xs)) as)(u:Reads s.heap y (.tuple (.str c::ys)) bs)
  (v:canLay0 (.tuple (.str a::xs))=true)(cy:canLay0 (.tuple (.str c::ys))=true)(j:A.units+min (depthAll (.str a::xs)) (depthAll (.str c::ys))<cLine)(q:Q r s):wpAny (model prog w) A (keyLt' (tuples' true) x y) Q E s:=by
 cases t with
 | @tuple l o vs n _ h h1 h2 h3 k=>
  cases u with
  | @tuple C o' b n' _ i k1 k2 k3 m=>
   refine kat_lt h1 h3 k1 k3 ?_;rw[L2.ltQ] at e;have hsz:decide (vs.size<b.size)=decide (vs.toList.length<b.toList.length):=by simp
   rw[hsz];generalize vs.toList=D at k ⊢;generalize b.toList=z at m ⊢;have d:canLay0 (.str a)=true/\canLayAll0 xs=true:=by simpa[canLay0,canLayAll0] using v
   have f:canLay0 (.str c)=true/\canLayAll0 ys=true:=by simpa[canLay0,canLayAll0] using cy
   cases k with
   |cons a1 a2=>
    cases m with
    |cons p B=>
     have g:=SeqAt.eqAt_reads (.str a) (.str c) A s _ _ _ _ a1 p d.1 f.1 (SeqAt.room_head j);cases a1;cases p;rw[List.zip_cons_cons,L2.zx];refine kat_cons ?_;rw[L2.e9] at e;cases ce:PyData.eqv (.str a) (.str c) with
     |true=>
      rw[ce] at e g;exact g prog w _ _ (kat_yes (zz q (by omega) (L2.ud xs ys A s _ _ _ _ r e a2 B d.2 f.2 (SeqAt.room_tail j))))
     |false=>
      rw[ce] at e g;refine g prog w _ _ (kat_no (oneLt_str ?_));have e:L2.ltQ (.str a) (.str c)=some r:=e;rw[L2.ltQ] at e;cases e;exact q
end
end KP
section
open PySem PySem.Spec PyProof.Rows
namespace L2
open PySem.SeqAt
theorem Ez{xs ys:List PyData}{u:Nat}(h1:(PyData.tuple xs).depth<=60)(a:u+64<cLine):u+2+min (depthAll xs) (depthAll ys)<cLine:=by
 have e:(PyData.tuple xs).depth=depthAll xs+1:=rfl;omega
theorem kat_tups{h:Heap}:∀{vs:List Value} {qs:List PyData},vs.length=qs.length->(∀(i:Nat) v q,vs[i]?=some v->qs[i]?=some q->∃as x r,Reads h v q as/\q=.tuple (.str x::r))->∃fs:List Value,fs.length=vs.length/\PySem.W.KatTups h vs fs/\∀v∈fs,∃x t,v=Value.str x t
 |[],[],_,_=>⟨[],rfl,.nil,λ_ h=>by cases h⟩
 |v::vs,q::qs,e,k=>by
  obtain⟨fs,h1,h2,h3⟩:=kat_tups (vs:=vs) (qs:=qs) (by simpa using e) λi c d f g=>k (i+1) c d (by simpa using f) (by simpa using g);obtain⟨as,x,r,rd,rfl⟩:=k 0 v q rfl rfl;cases rd with
  | @tuple l o j n _ a g1 g2 g3 b=>
   generalize m:j.toList=ul at b;cases b with
   | @cons p vr _ _ _ _ a1 a2=>
    cases a1 with
    |str _ t=>
     refine⟨Value.str x t::fs,by simp[h1],.cons g1 g2 g3 ?_ h2,λv hv=>?_⟩
     .rw[<-d8,m];rfl
     .rcases aQ.mp hv with rfl|hv
      .exact⟨x,t,rfl⟩
      .exact h3 v hv
end L2
namespace DP
open L2
theorem HS{α:Type}(d:α):∀(l:List α),(range l.length).map (λi=>l.getD i d)=l:=λl=>by
 apply ext_getElem
 .simp
 .intro i h1 h2
  simp[h2]
end DP
end
namespace L2
theorem bS{N P:List PySem.Str}{sc:PySem.Scope}(kind:sc.kind=.function:=by rfl)(co:sc.isCoroutine=false:=by rfl)(gen:sc.isGenerator=false:=by rfl)(nd:N.Nodup:=by decide+kernel)(pre:N.take P.length=P:=by rfl)
 (par:∀x∈P,sc.names.lookup x=some .local\/sc.names.lookup x=some .cell:=by decide+kernel)(uH:∀y∈sc.names,y.2≠ .free:=by decide+kernel):bq N P sc:=⟨kind,co,gen,nd,pre,par,uH⟩
end L2
section
open PySem PySem.Spec PyProof.Rows
namespace DP
open L2
section
variable{X:Cx}{N:En}{pos pos':Pos}{e a b:Expr}{m ma mb:aN}{x:Str}(i:Nat)
theorem dS(a:X.N.Nodup)(b:PE X e (up X.mg N m))(hi:X.N[i]?=some x:=by rfl)(c:Loc X.env.scope x:=by first|exact .inl rfl|exact .inr rfl)(hs:swapsWith e (some (.Name x pos')) pos.line X.env=pure false:=by rfl)(d:X.fn x=true\/X.env.scope.names.lookup x=some .local:=by first|exact .inl rfl|exact .inr rfl|assumption):
 PS X (.Assign [.Name x pos'] e pos) (cE X.mg N (u6 i m)):=ET a hi c b hs d
theorem dG(a:X.N.Nodup)(hi:X.N[i]?=some x:=by rfl)(b:Loc X.env.scope x:=by first|exact .inl rfl|exact .inr rfl)(c:X.fn x=true\/X.env.scope.names.lookup x=some .local:=by first|exact .inl rfl|exact .inr rfl|assumption):PG X (.Name x pos) (nZ X.mg N (gN i)):=EB a hi b c
theorem pG(a:X.N.Nodup)(hi:X.N[i]?=some x:=by rfl)(b:Loc X.env.scope x:=by first|exact .inl rfl|exact .inr rfl)(c:X.fn x=true\/X.env.scope.names.lookup x=some .local:=by first|exact .inl rfl|exact .inr rfl|assumption):PG X (.Name x pos) (kP i):=Ab a hi b c
end
section
variable{X:Cx}{N:En}{pos p:Pos}{e a b:Expr}{ma mb:aN}{x:Str}{es:List Expr}{k r n:Nat}{ps:List Str}{S:Ct}{RE:DX}{m:cQ}
theorem dX(c:X.A.units+64<cLine)(d:PE X a (up X.mg N ma))(e:PE X b (up X.mg N mb))(hs:sf b:=by exact λ_ _=>rfl):PE X (.Subscript a b pos) (up X.mg N (cY m_ ma mb)):=Eo c d e hs
theorem dL(F:aC X.prog X.w X.K X.mg X.base k x ps (aE X.mg n S))(c:cC r X.A)(d:Passes (a_ X.prog X.w) X (EL X.mg N RE))(f:PA X (e::es) (eS X.mg N m))(hk:k<=r:=by omega)(g:Gl X x:=by rfl)(a:(x==("__debug__":Str))=false:=by decide)
 (h:starEach (e::es) X.env=(false,eval e X.env)::starEach es X.env:=by rfl)(b:(backTo pos (starEach es X.env)).any (·.1)=false:=by rfl):
 PE X (.Call (.Name x p) (e::es) [] pos) (up X.mg N (xN n S RE m)):=Ei F (c.mono hk) d f g a h b
end
theorem c7{P:Program}{w:World}{K:Frag}{mg:av}{base:Heap}{x:Str}{st:Stmt}{Nm ps:List Str}{k n:Nat}{S:Ct}(T:TopD K mg x st ps)(Sc:bq Nm ps (aJ st))
  (b:∀{N:En} {RE:DX} {f:Addr} {a:Value} {B:Around} {outer:List Env} {s:Shared} {H:Hp} {E:XK},cC k (bQ (a_ P w) P w K mg base Nm x (aJ st) f a B outer s H E).A->
   Raises (bQ (a_ P w) P w K mg base Nm x (aJ st) f a B outer s H E) (EL mg N RE)->Passes (a_ P w) (bQ (a_ P w) P w K mg base Nm x (aJ st) f a B outer s H E) (EL mg N RE)->
   (bQ (a_ P w) P w K mg base Nm x (aJ st) f a B outer s H E).A.units+64<cLine->Nm.Nodup->
   ∃m,cB (bQ (a_ P w) P w K mg base Nm x (aJ st) f a B outer s H E) (eZ st) (cE mg N m)/\∀ds A R,S ds A R RE->ds.length=n->m {nx:=λ_ A'=>R .aD A',rt:=R} (iM (Nm.length - n) ds) A)(hn:ps.length=n:=by rfl)(d:ps.length<=Nm.length:=by decide):aC P w K mg base (k+1) x ps (aE mg n S):=
 fP T Sc hn d λN RE f a B outer s H E c e g ds A R h i=>by
  obtain⟨m,h1,h2⟩:=b c e g c.units Sc.nd;exact⟨m,h1,h2 ds A R h i⟩
end DP
end
namespace ST
open PySem
abbrev Pr:=SetTable.Probe
def lp(m:Nat)(q:Nat×Nat):Nat×Nat:=((q.1*5+1+q.2/32)%(m+1),q.2/32)
def nx(m:Nat)(p:Pr):Pr:=
 if p.more>0 then {p with j:=p.j+1,more:=p.more - 1} else
 {p with j:=(lp m (p.i,p.perturb)).1,more:=SetTable.runEnd m (lp m (p.i,p.perturb)).1 - (lp m (p.i,p.perturb)).1,i:=(lp m (p.i,p.perturb)).1,perturb:=(lp m (p.i,p.perturb)).2}
theorem wW(t:SetTable)(p:Pr):t.advance p=nx t.mask p:=rfl
def it(m:Nat):Nat->Pr->Pr
 |0,p=>p
 |n+1,p=>nx m (it m n p)
theorem kX(m a b:Nat)(p:Pr):it m (a+b) p=it m a (it m b p):=by
 induction a with
 |zero=>rw[zero_add];rfl
 |succ a c=>rw[succ_add];show nx m _=nx m _;rw[c]
theorem gX(m n:Nat)(p:Pr):it m n (nx m p)=it m (n+1) p:=by rw[kX m n 1 p];rfl
structure Wf(m:Nat)(p:Pr):Prop where
 d:p.dummy=none
 i:p.i<=m
 r:p.j+p.more=SetTable.runEnd m p.i
 l:p.i<=p.j
 b:p.perturb<2 ^ 64
theorem qU(m i:Nat)(h:i<=m):i<=SetTable.runEnd m i/\SetTable.runEnd m i<=i+9/\SetTable.runEnd m i<=m:=by
 unfold SetTable.runEnd;split<;>omega
theorem Wf.j{m:Nat}{p:Pr}(h:Wf m p):p.j<=m:=by
 have:=qU m p.i h.i;have:=h.r;omega
theorem Wf.nx{m:Nat}{p:Pr}(h:Wf m p):Wf m (nx m p):=by
 unfold ST.nx;split
 .rename_i a
  exact⟨h.d,h.i,by have:=h.r;show p.j+1+(p.more - 1)=SetTable.runEnd m p.i;omega,by have:=h.l;show p.i<=p.j+1;omega,h.b⟩
 .have a1:(lp m (p.i,p.perturb)).1<=m:=Nat.le_of_lt_succ (mod_lt _ (jY m))
  have a2:=qU m _ a1;exact⟨h.d,a1,Nat.add_sub_of_le a2.1,aF _,by have:=h.b;show p.perturb/32<_;omega⟩
theorem Wf.it{m:Nat}{p:Pr}(h:Wf m p):∀n,Wf m (it m n p)
 |0=>h
 |n+1=>(h.it n).nx
def br(m:Nat)(h:Int):Pr:={j:=SetTable.bits h%(m+1),more:=SetTable.runEnd m (SetTable.bits h%(m+1)) - SetTable.bits h%(m+1),i:=SetTable.bits h%(m+1),perturb:=SetTable.bits h,dummy:=none}
theorem jS(m:Nat)(h:Int):Wf m (br m h):=by
 have a1:SetTable.bits h%(m+1)<=m:=Nat.le_of_lt_succ (mod_lt _ (jY m));have a2:=qU m _ a1;refine⟨rfl,a1,Nat.add_sub_of_le a2.1,aF _,?_⟩;show SetTable.bits h<_;unfold SetTable.bits;omega
theorem vn{m:Nat}:∀(k:Nat) (p:Pr),p.more=k->(it m k p).more=0/\(it m k p).i=p.i/\(it m k p).perturb=p.perturb
 |0,p,h=>⟨h,rfl,rfl⟩
 |k+1,p,h=>by
  have e:nx m p={p with j:=p.j+1,more:=p.more - 1}:=by unfold nx;rw[aj (by omega)]
  rw[<-gX,e];have:=vn (m:=m) k {p with j:=p.j+1,more:=p.more - 1} (by show p.more - 1=k;omega);exact this
def ef(m:Nat):Nat->Nat×Nat->Nat×Nat
 |0,q=>q
 |k+1,q=>lp m (ef m k q)
theorem zu{m:Nat}{p:Pr}(h:Wf m p):∃n,n<=10/\(it m n p).j=(lp m (p.i,p.perturb)).1/\((it m n p).i,(it m n p).perturb)=lp m (p.i,p.perturb):=by
 obtain⟨h1,h2,h3⟩:=vn (m:=m) p.more p rfl;refine⟨p.more+1,?_,?_⟩
 .have a:=qU m p.i h.i
  have:=h.r;have:=h.l;omega
 .show(nx m (it m p.more p)).j=_/\((nx m (it m p.more p)).i,(nx m (it m p.more p)).perturb)=_
  unfold nx;rw[ai (by omega),h2,h3];exact⟨rfl,rfl⟩
theorem zv{m:Nat}{p:Pr}(h:Wf m p):∀k,∃n,n<=10*(k+1)/\(it m n p).j=(ef m (k+1) (p.i,p.perturb)).1/\((it m n p).i,(it m n p).perturb)=ef m (k+1) (p.i,p.perturb)
 |0=>zu h
 |k+1=>by
  obtain⟨n,hn,_,e⟩:=zv h k;obtain⟨n',a,b,c⟩:=zu (h.it n);refine⟨n'+n,by omega,?_⟩;rw[kX,b,c,e];exact⟨rfl,rfl⟩
def cy(m:Nat):Nat->Nat->Nat
 |0,i=>i
 |k+1,i=>(cy m k i*5+1)%(m+1)
theorem o_(m a b i:Nat):cy m (a+b) i=cy m a (cy m b i):=by
 induction a with
 |zero=>rw[zero_add];rfl
 |succ a c=>rw[succ_add];show(_*5+1)%_=(_*5+1)%_;rw[c]
def eW(m:Nat):Prop:=(∀i,i<=m->∃a,a<=m/\cy m a 0=i)/\cy m (m+1) 0=0/\m%2=1
theorem eW.to{m:Nat}(h:eW m){i j:Nat}(hi:i<=m)(e:j<=m):∃t,t<=m/\cy m t i=j:=by
 obtain⟨a,f,c⟩:=h.1 i hi;obtain⟨b,g,d⟩:=h.1 j e;by_cases z:a<=b
 .refine⟨b - a,by omega,?_⟩
  rw[<-c,<-o_,show b - a+a=b by omega,d]
 .refine⟨b+(m+1) - a,by omega,?_⟩
  rw[<-c,<-o_,show b+(m+1) - a+a=b+(m+1) by omega,o_,h.2.1,d]
theorem xM(m:Nat)(h:((range (m+1)).all λi=>(range (m+1)).any λa=>cy m a 0==i)=true)(h2:cy m (m+1) 0=0)(h3:m%2=1):eW m:=⟨λi hi=>by
 have:=all_eq_true.mp h i (fU.mpr (by omega));obtain⟨a,b,e⟩:=any_eq_true.mp this;exact⟨a,by have:=fU.mp b;omega,by simpa using e⟩,h2,h3⟩
theorem DG:eW 7:=xM 7 (by decide+kernel) (by decide+kernel) rfl
theorem DE:eW 31:=xM 31 (by decide+kernel) (by decide+kernel) rfl
theorem um(m:Nat)(q:Nat×Nat):∀k,(ef m k q).2=q.2/32 ^ k
 |0=>by show q.2=_;simp
 |k+1=>by show(ef m k q).2/32=_;rw[um m q k,Nat.div_div_eq_div_mul,<-jX]
theorem uh{m:Nat}(q:Nat×Nat)(hq:q.2=0):∀k,ef m k q=(cy m k q.1,0)
 |0=>by cases q;subst hq;rfl
 |k+1=>by show lp m (ef m k q)=_;rw[uh q hq k];unfold lp;simp[cy]
theorem ug(m a b:Nat)(q:Nat×Nat):ef m (a+b) q=ef m a (ef m b q):=by
 induction a with
 |zero=>rw[zero_add];rfl
 |succ a c=>rw[succ_add];show lp m _=lp m _;rw[c]
theorem zF{m:Nat}{q:Nat×Nat}(h:q.1<=m):∀k,(ef m k q).1<=m
 |0=>h
 |k+1=>Nat.le_of_lt_succ (mod_lt _ (jY m))
theorem reach{m:Nat}(hc:eW m){p:Pr}(h:Wf m p){j:Nat}(a:j<=m):∃n,n<10*SetTable.turns m/\(it m n p).j=j:=by
 have h0:(ef m 13 (p.i,p.perturb)).2=0:=by
  rw[um];exact Nat.div_eq_of_lt (bO h.b (by decide))
 obtain⟨t,d,e⟩:=hc.to (zF (q:=(p.i,p.perturb)) h.i 13) a;obtain⟨n,hn,c,_⟩:=zv h (t+12);refine⟨n,by unfold SetTable.turns;omega,?_⟩;rw[c,show t+12+1=t+13 by omega,ug,uh _ h0];exact e
open SR
abbrev pl(t:SetTable):List Nat:=t.place.toList
theorem KS{xs:Array Nat}(a:Rs xs):xs.toList.Nodup:=a.imp λh=>aV h
theorem tV{xs:Array Nat}(b:Rs xs){i a j:Nat}(h:xs[i]?=some j)(h':xs[a]?=some j):i=a:=by
 rw[<-d8] at h h';exact(List.getElem?_inj (bY.mp h).1 (KS b)).mp (h.trans h'.symm)
theorem GQ{xs:Array Nat}{j:Nat}(h:j∈xs.toList):∃i:Nat,xs[i]?=some j:=by
 obtain⟨i,hi⟩:=List.getElem?_of_mem h;exact⟨i,by rw[<-d8];exact hi⟩
theorem uz{xs:Array Nat}{i j:Nat}(h:xs[i]?=some j):j∈xs.toList:=by
 rw[<-d8] at h;exact iP h
theorem BL{t:SetTable}(a:Rs t.place){i j:Nat}(h:t.place[i]?=some j):t.slot j=.live i:=by
 have e:=CV a (uz h);have b:=tV a h e;unfold SetTable.slot;dsimp only;rw[aj (by rw[e];simp),<-b]
theorem yV(j:Nat):SetTable.has #[] j=false:=by
 unfold SetTable.has;simp
theorem LP{t:SetTable}(hd:t.dummies= #[]){j:Nat}(h:j∉pl t):t.slot j=.empty:=by
 unfold SetTable.slot;dsimp only;rw[ai,hd,yV]
 .rfl
 .intro z
  exact h (uz (by simpa using z))
theorem yN{t:SetTable}(c:Rs t.place)(hd:t.dummies= #[]){f:Nat->Int}{h:Int}:∀(n fuel:Nat) (p:Pr),n<fuel->p.dummy=none->(it t.mask n p).j∉pl t->(∀q,q<n->(it t.mask q p).j∈pl t)->
  (SetTable.probe.go t f h fuel p=some (.empty (it t.mask n p).j none)/\∀q,q<n->∀i,t.place[i]? =some (it t.mask q p).j->f i≠h)\/
  ∃k i,k<n/\t.place[i]? =some (it t.mask k p).j/\f i=h/\SetTable.probe.go t f h fuel p=some (.candidate (it t.mask k p).j i (it t.mask (k+1) p))/\∀q,q<k->∀i,t.place[i]? =some (it t.mask q p).j->f i≠h
 |0,0,p,hn,_,_,_=>absurd hn (fV _)
 |n+1,0,p,hn,_,_,_=>absurd hn (fV _)
 |0,fuel+1,p,hn,d,g,_=>by
  refine .inl ⟨?_,λq hq=>absurd hq (fV _)⟩
  unfold SetTable.probe.go
  rw[LP hd (show p.j∉pl t from g),d]
  rfl
 |n+1,fuel+1,p,hn,d,g,o=>by
  obtain⟨l,b⟩:=GQ (o 0 (by omega))
  have hs:t.slot p.j= .live l:=BL c b
  unfold SetTable.probe.go
  rw[hs]
  dsimp only
  by_cases z:f l=h
  .refine .inr ⟨0,l,by omega,b,z,?_,λq hq=>absurd hq (fV _)⟩
   rw[aj (by rw[z];exact beq_self_eq_true _)]
   rfl
  .rw[ai (by simpa using z)]
   have m:(nx t.mask p).dummy=none:=by
    unfold nx
    split<;>exact d
   have h0:∀i,t.place[i]? =some (it t.mask 0 p).j->f i≠h:=λi hi=>by
    rw[tV c hi b];exact z
   rcases yN c hd n fuel (nx t.mask p) (by omega) m (by rw[gX];exact g) (λq hq=>by rw[gX];exact o (q+1) (by omega)) with⟨e,a⟩|⟨k,i,hk,hi,r,e,a⟩
   .refine .inl ⟨by rw[wW,e,gX],λq hq i hi=> ?_⟩
    cases q with
    |zero=>exact h0 i hi
    |succ q=>exact a q (by omega) i (by rw[gX];exact hi)
   .refine .inr ⟨k+1,i,by omega,by rw[<-gX];exact hi,r,by rw[wW,e,gX,gX],λq hq i hi=> ?_⟩
    cases q with
    |zero=>exact h0 i hi
    |succ q=>exact a q (by omega) i (by rw[gX];exact hi)
theorem Af:∀(m:Nat) (l:List Nat),(∀j,j<m->j∈l)->m<=l.length
 |0,l,_=>b9 _
 |m+1,l,h=>by
  have a:=h m (by omega);have:=Af m (l.erase m) λj b=>(vN (by omega)).mpr (h j (by omega));rw[vL a] at this;have:=vM a;omega
theorem Ag{m:Nat}{l:List Nat}(h:l.length<=m):∃j,j<=m/\j∉l:=by
 refine Classical.byContradiction λz=>?_;have:=Af (m+1) l λj a=>Classical.byContradiction λy=>z ⟨j,by omega,y⟩;omega
theorem HD{P:Nat->Prop}:∀(n:Nat),P n->∃k,k<=n/\P k/\∀q,q<k->¬P q:=by
 intro n;induction n using Nat.strongRecOn with
 |ind n b=>
  intro hn;by_cases z:∃q,q<n/\P q
  .obtain⟨q,hq,a⟩:=z
   obtain⟨k,hk,r⟩:=b q hq a;exact⟨k,by omega,r⟩
  .exact⟨n,aF _,hn,λq hq a=>z ⟨q,hq,a⟩⟩
structure Tb(t:SetTable)(hs:List Int):Prop where
 rs:Rs t.place
 dm:t.dummies= #[]
 le:∀j∈pl t,j<=t.mask
 cy:eW t.mask
 sz:t.place.size=hs.length
 ro:t.place.size<=t.mask
 pa:∀j h,(j,h)∈(pl t).zip hs->∃n,(it t.mask n (br t.mask h)).j=j/\∀q,q<n->(it t.mask q (br t.mask h)).j∈pl t
theorem Tb.free{t:SetTable}{hs:List Int}(T:Tb t hs){p:Pr}(a:Wf t.mask p):∃n,n<10*SetTable.turns t.mask/\(it t.mask n p).j∉pl t/\∀q,q<n->(it t.mask q p).j∈pl t:=by
 obtain⟨j,b,hn⟩:=Ag (m:=t.mask) (l:=pl t) (by have:=T.ro;simpa using this);obtain⟨n,h1,h2⟩:=reach T.cy a b;obtain⟨k,hk,h3,c⟩:=HD (P:=λn=>(it t.mask n p).j∉pl t) n (by rw[h2];exact hn);exact⟨k,by omega,h3,λq hq=>Classical.byContradiction (c q hq)⟩
theorem zd{α:Type}(xs:Array α)(p:Nat)(x:α):(SetTable.insertAt xs p x).toList=xs.toList.take p++(x::xs.toList.drop p):=by
 unfold SetTable.insertAt;simp[eE,lJ];exact gx (by simp)
theorem uy{α:Type}{l:List α}{p:Nat}{x y:α}:y∈l.take p++(x::l.drop p)↔y=x\/y∈l:=by
 rw[aU,aQ];constructor
 .rintro (h|h|h)
  .exact .inr (c6 h)
  .exact .inl h
  .exact .inr (dc h)
 .rintro (h|h)
  .exact .inr (.inl h)
  .rw[<-dF p l,aU] at h
   exact h.elim .inl λz=>.inr (.inr z)
theorem Nj{α β:Type}{a:List α}{b:List β}(c:a.length=b.length)(p:Nat)(x:α)(y:β):(a.take p++(x::a.drop p)).zip (b.take p++(y::b.drop p))=(a.zip b).take p++((x,y)::(a.zip b).drop p):=by
 rw[List.zip_append (by simp[c]),List.zip_cons_cons];simp only[List.zip,List.take_zipWith,List.drop_zipWith]
theorem Tb.put{t:SetTable}{hs:List Int}(T:Tb t hs){n:Nat}{h:Int}(hn:(it t.mask n (br t.mask h)).j∉pl t)(e:∀q,q<n->(it t.mask q (br t.mask h)).j∈pl t)(f:t.place.size+1<=t.mask):
  Tb (t.put (it t.mask n (br t.mask h)).j).1 (hs.take (t.put (it t.mask n (br t.mask h)).j).2++(h::hs.drop (t.put (it t.mask n (br t.mask h)).j).2)):=by
 generalize c:(it t.mask n (br t.mask h)).j=j at hn ⊢;have b:j<=t.mask:=by rw[<-c];exact((jS t.mask h).it n).j
 have ep:(t.put j).1={t with place:=SetTable.insertAt t.place (SetTable.below t.place j) j}:=by
  unfold SetTable.put;dsimp only;rw[T.dm,yV];rw[ai bP,<-T.dm]
 have a:pl (t.put j).1=(pl t).take (SetTable.below t.place j)++(j::(pl t).drop (SetTable.below t.place j)):=by
  rw[ep];exact zd _ _ _
 have em:(t.put j).1.mask=t.mask:=by rw[ep]
 have mem:∀k,k∈pl t->k∈pl (t.put j).1:=λk hk=>by rw[a];exact uy.mpr (.inr hk)
 have d:(t.put j).2=SetTable.below t.place j:=rfl;have i:=(mH T.rs j).1;refine⟨by rw[ep];exact GU T.rs hn,by rw[ep];exact T.dm,λk hk=>?_,by rw[em];exact T.cy,?_,?_,λk g hk=>?_⟩
 .rw[em]
  rw[a] at hk;rcases uy.mp hk with rfl|hk
  .exact b
  .exact T.le k hk
 .have this:=dh List.length a
  have sz:=T.sz;rw[<-bE,this,d];simp only[bR,e_,eV,fh,bE,sz]
 .have this:=dh List.length a
  rw[<-bE,this,em];simp only[bR,e_,eV,fh,bE];omega
 .rw[a,d,Nj (by rw[bE,T.sz])] at hk
  rw[em];rcases uy.mp hk with z|hk
  .cases z
   exact⟨n,c,λq hq=>mem _ (e q hq)⟩
  .obtain⟨n',h1,h2⟩:=T.pa k g hk
   exact⟨n',h1,λq hq=>mem _ (h2 q hq)⟩
theorem Tb.fresh(f a:Nat)(l:Bool):Tb (SetTable.fresh f a l) []:=
 ⟨Pairwise.nil,rfl,(λj b=>by cases b),DG,rfl,b9 _,(λj h hz=>by cases hz)⟩
abbrev Ow:=Array (Option Nat)
structure Rn(m:Nat)(p:Pr):Prop where
 w:Wf m p
 e:p.j=p.i
theorem p5{m:Nat}:∀(k:Nat) (p:Pr),k<=p.more->(it m k p).j=p.j+k
 |0,p,_=>rfl
 |k+1,p,h=>by
  have e:nx m p={p with j:=p.j+1,more:=p.more - 1}:=by unfold nx;rw[aj (by omega)]
  rw[<-gX,e,p5 k _ (by show k<=p.more - 1;omega)];show p.j+1+k=_;omega
theorem Iu{m:Nat}{p:Pr}(h:Wf m p):Rn m (it m (p.more+1) p)/\((it m (p.more+1) p).i,(it m (p.more+1) p).perturb)=lp m (p.i,p.perturb):=by
 obtain⟨h1,h2,h3⟩:=vn (m:=m) p.more p rfl;have e:it m (p.more+1) p=nx m (it m p.more p):=rfl;refine⟨⟨h.it _,?_⟩,?_⟩
 .rw[e];unfold nx;rw[ai (by omega)]
 .rw[e];unfold nx;rw[ai (by omega),h2,h3]
theorem yC{m:Nat}{o:Ow}:∀(fuel:Nat) (p:Pr),Rn m p->(∃k,k<fuel/\o.getD (ef m k (p.i,p.perturb)).1 (some 0)=none)->
  ∃n,SetTable.layClean.free m o fuel p.i p.perturb=some (it m n p).j/\o.getD (it m n p).j (some 0)=none/\∀q,q<n->o.getD (it m q p).j (some 0)≠none
 |0,p,_,⟨k,hk,_⟩=>absurd hk (fV _)
 |fuel+1,p,a,⟨k,hk,hn⟩=>by
  have v:=a.w.r;have b:=a.e;unfold SetTable.layClean.free;cases h:(range (SetTable.runEnd m p.i+1 - p.i)).find? λk=>(o.getD (p.i+k) (some 0)).isNone with
  |some d=>
   obtain⟨h1,h2,h3⟩:=List.find?_range_eq_some.mp h;rw[fU] at h2;have l:(it m d p).j=p.i+d:=by rw[p5 d p (by omega),b]
   refine⟨d,by rw[l],by rw[l];simpa using h1,λq hq=>?_⟩;have:=h3 q hq;rw[p5 q p (by omega),b];intro z;rw[z] at this;exact absurd this (by decide)
  |none=>
   have h3:∀q,q<=p.more->o.getD (p.i+q) (some 0)≠none:=λq hq z=>by
    have:=List.find?_range_eq_none.mp h q (by omega);rw[z] at this;exact absurd this (by decide)
   obtain⟨c,f⟩:=Iu (m:=m) a.w;cases k with
   |zero=>exact absurd hn (h3 0 (b9 _))
   |succ k=>
    have g:ef m k (lp m (p.i,p.perturb))=ef m (k+1) (p.i,p.perturb):=(ug m k 1 (p.i,p.perturb)).symm;obtain⟨n,s,t,u⟩:=yC (o:=o) fuel _ c ⟨k,by omega,by rw[f,g];exact hn⟩;refine⟨n+(p.more+1),?_,?_,λq hq=>?_⟩
    .dsimp only
     rw[kX,<-s];have a1:(it m (p.more+1) p).i=(SetTable.leap m p.i p.perturb).1:=dh Prod.fst f;have a2:(it m (p.more+1) p).perturb=(SetTable.leap m p.i p.perturb).2:=dh Prod.snd f;rw[a1,a2]
    .rw[kX];exact t
    .by_cases z:q<=p.more
     .rw[p5 q p z,b];exact h3 q z
     .have:=u (q - (p.more+1)) (by omega)
      rw[<-kX,show q - (p.more+1)+(p.more+1)=q by omega] at this;exact this
theorem L_(m:Nat)(h:Int):Rn m (br m h):=⟨jS m h,rfl⟩
structure LI(m:Nat)(o:Ow)(hs:List Int):Prop where
 sz:o.size=m+1
 lt:∀j i,o.getD j none=some i->i<hs.length
 at_:∀i,i<hs.length->∃j,o.getD j none=some i
 inj:∀j j' i,o.getD j none=some i->o.getD j' none=some i->j=j'
 pa:∀j i,o.getD j none=some i->∃n,(it m n (br m (hs.getD i 0))).j=j/\∀q,q<n->o.getD (it m q (br m (hs.getD i 0))).j none≠none
 li:∃L:List Nat,L.length=hs.length/\∀j,o.getD j none≠none->j∈L
theorem getD_in{o:Ow}{j:Nat}(h:j<o.size):o.getD j (some 0)=o.getD j none:=by
 rw[dI,dI,b_ h];rfl
theorem Gf{o:Ow}{j k:Nat}{v:Option Nat}(h:j<o.size):(o.setIfInBounds j v).getD k none=if j=k then v else o.getD k none:=by
 rw[dI,Array.getElem?_setIfInBounds];by_cases e:j=k
 .rw[aj e,aj e,aj h];rfl
 .rw[ai e,ai e,dI]
theorem LI.step{m:Nat}{o:Ow}{hs:List Int}(I:LI m o hs)(hc:eW m)(C:hs.length<=m)(h:Int):
  ∃j,SetTable.layClean.free m o (SetTable.turns m) (SetTable.bits h%(m+1)) (SetTable.bits h)=some j/\LI m (o.setIfInBounds j (some hs.length)) (hs++[h]):=by
 obtain⟨L,y,d⟩:=I.li;obtain⟨u,p,r⟩:=Ag (m:=m) (l:=L) (by omega);have f:o.getD u none=none:=Classical.byContradiction λz=>r (d u z);have h0:(ef m 13 ((br m h).i,(br m h).perturb)).2=0:=by
  rw[um];exact Nat.div_eq_of_lt (bO (jS m h).b (by decide))
 obtain⟨t,D,e⟩:=hc.to (zF (q:=((br m h).i,(br m h).perturb)) (jS m h).i 13) p;obtain⟨n,A,s,B⟩:=yC (o:=o) (SetTable.turns m) (br m h) (L_ m h) ⟨t+13,by unfold SetTable.turns;omega,by
  rw[ug,uh _ h0];show o.getD (cy m t _) _=none;rw[e,getD_in (by rw[I.sz];omega)];exact f⟩
 have w:∀q,(it m q (br m h)).j<o.size:=λq=>by rw[I.sz];exact Nat.lt_succ_of_le ((jS m h).it q).j
 refine⟨_,A,?_⟩;generalize x:(it m n (br m h)).j=j at s ⊢;have g:j<o.size:=by rw[<-x];exact w n
 rw[getD_in g] at s;have gs:=λk v=>Gf (k:=k) (v:=v) g;have ge:∀i,i<hs.length->(hs++[h]).getD i 0=hs.getD i 0:=λi hi=>by simp[cO,fZ hi]
 have gl:(hs++[h]).getD hs.length 0=h:=by simp[cO]
 have keep:∀k,o.getD k none≠none->(o.setIfInBounds j (some hs.length)).getD k none≠none:=λk hk=>by
  rw[gs];split
  .intro z;cases z
  .exact hk
 refine⟨by rw[Array.size_setIfInBounds];exact I.sz,λk i hk=>?_,λi hi=>?_,λk k' i hk c=>?_,λk i hk=>?_,⟨j::L,by simp[y],λk hk=>?_⟩⟩
 .rw[gs] at hk
  rw[bR,iN];split at hk
  .cases hk;omega
  .have:=I.lt k i hk;omega
 .rw[bR,iN] at hi
  by_cases z:i=hs.length
  .exact⟨j,by rw[gs,aj rfl,z]⟩
  .obtain⟨k,hk⟩:=I.at_ i (by omega)
   refine⟨k,?_⟩;rw[gs,ai,hk];rintro rfl;rw[s] at hk;cases hk
 .rw[gs] at hk c
  split at hk
  .cases hk
   split at c
   .rename_i a b;rw[<-a,<-b]
   .exact absurd (I.lt _ _ c) (cZ _)
  .split at c
   .cases c
    exact absurd (I.lt _ _ hk) (cZ _)
   .exact I.inj k k' i hk c
 .rw[gs] at hk
  split at hk
  .cases hk
   rename_i a;rw[gl];refine⟨n,by rw[x,a],λq hq=>keep _ ?_⟩;have:=B q hq;rw[getD_in (w q)] at this;exact this
  .rw[ge i (I.lt k i hk)]
   obtain⟨n',a1,a2⟩:=I.pa k i hk;exact⟨n',a1,λq hq=>keep _ (a2 q hq)⟩
 .rw[gs] at hk
  split at hk
  .rename_i a;rw[<-a];exact b8
  .exact bT _ (d k hk)
theorem LI.start(m:Nat):LI m (Array.replicate (m+1) none) []:=by
 have g:∀j,(Array.replicate (m+1) (none:Option Nat)).getD j none=none:=λj=>by
  rw[dI,Array.getElem?_replicate];split<;>rfl
 refine⟨by simp,λj i h=>?_,λi hi=>absurd hi (fV _),λj a i h=>?_,λj i h=>?_,⟨[],rfl,λj h=>absurd (g j) h⟩⟩
 .rw[g] at h;cases h
 .rw[g] at h;cases h
 .rw[g] at h;cases h
abbrev k7(m:Nat)(acc:Option (Ow×Nat))(h:Int):Option (Ow×Nat):=do
 let (owner,k) <-acc
 let j <-SetTable.layClean.free m owner (SetTable.turns m) (SetTable.bits h%(m+1)) (SetTable.bits h)
 pure (owner.setIfInBounds j (some k),k+1)
theorem zk{m:Nat}(hc:eW m):∀(rest done:List Int) (o:Ow),LI m o done->done.length+rest.length<=m->∃o' k,rest.foldl (k7 m) (some (o,done.length))=some (o',k)/\LI m o' (done++rest)
 |[],done,o,I,_=>⟨o,_,rfl,by rw[fG];exact I⟩
 |h::rest,done,o,I,b=>by
  rw[eV] at b;obtain⟨j,e,c⟩:=I.step hc (by omega) h;obtain⟨o',k,d,a⟩:=zk hc rest (done++[h]) _ c (by rw[bR,iN];omega);refine⟨o',k,?_,by rw[bu] at a;exact a⟩;rw[foldl_cons,<-d,bR,iN];show foldl (k7 m) (k7 m (some (o,done.length)) h) rest=_;have:k7 m (some (o,done.length)) h=some (o.setIfInBounds j (some done.length),done.length+1):=by
   show(SetTable.layClean.free m o (SetTable.turns m) (SetTable.bits h%(m+1)) (SetTable.bits h)>>=λj=>pure (o.setIfInBounds j (some done.length),done.length+1))=_;rw[e];rfl
  rw[this]
theorem Hy{m:Nat}(hc:eW m){hs:Array Int}(hn:hs.size<=m)(f B:Nat)(led plain:Bool):
  ∃t o,SetTable.laid m f B led plain hs=some (t,o)/\t.mask=m/\t.led=led/\t.plain=plain/\o.toList.Perm (range hs.size)/\Tb t (o.toList.map λi=>hs.getD i 0):=by
 obtain⟨v,k,e,I⟩:=zk hc hs.toList [] _ (LI.start m) (by simpa using hn);rw[g9] at I;have G:SetTable.layClean m hs=some v:=by
  unfold SetTable.layClean;rw[<-Array.foldl_toList];show Option.map _ (foldl (k7 m) (some (Array.replicate (m+1) none,0)) hs.toList)=_;have s:foldl (k7 m) (some (Array.replicate (m+1) none,0)) hs.toList=some (v,k):=e;rw[s];rfl
 generalize l:((range (m+1)).filterMap λj=>(v.getD j none).map (j,·))=live;have c:∀j i,(j,i)∈live↔v.getD j none=some i:=λj i=>by
  rw[<-l,jV];constructor
  .rintro ⟨a,_,e⟩
   obtain⟨u,C,s⟩:=jU.mp e;cases s;exact C
  .intro h
   refine⟨j,fU.mpr ?_,by rw[h];rfl⟩;refine Classical.byContradiction λz=>?_;rw[dI,lW (by rw[I.sz];omega)] at h;cases h
 have w:SetTable.laid m f B led plain hs=some ({mask:=m,place:=(live.map (·.1)).toArray,dummies:= #[],finger:=f,led,moves:=B,plain},(live.map (·.2)).toArray):=by
  unfold SetTable.laid;rw[G,<-l];rfl
 have d:(live.map (·.2)).Perm (range hs.size):=by
  refine(List.perm_ext_iff_of_nodup ?_ List.nodup_range).mpr λi=>?_
  .unfold Nodup
   rw[lI,<-l,List.pairwise_filterMap];refine List.pairwise_lt_range.imp λ {a b} H p J q hq=>?_;obtain⟨i,C,rfl⟩:=jU.mp J;obtain⟨u,s,rfl⟩:=jU.mp hq;intro z;have z:i=u:=z;rw[z] at C;exact absurd (I.inj a b u C s) (by omega)
  .rw[bX,fU]
   constructor
   .rintro ⟨⟨j,u⟩,r,rfl⟩
    have:=I.lt j u ((c j u).mp r);simpa using this
   .intro h
    obtain⟨j,D⟩:=I.at_ i (by simpa using h);exact⟨(j,i),(c j i).mpr D,rfl⟩
 refine⟨_,_,w,rfl,rfl,rfl,d,?_⟩;have E:∀j,v.getD j none≠none↔j∈live.map (·.1):=λj=>by
  rw[bX];constructor
  .intro h
   cases F:v.getD j none with
   |none=>exact absurd F h
   |some i=>exact⟨(j,i),(c j i).mpr F,rfl⟩
  .rintro ⟨⟨y,i⟩,r,rfl⟩ z
   rw[(c y i).mp r] at z;cases z
 have A:live.length=hs.size:=by rw[<-bC (f:=(·.2)),d.length_eq,l5]
 refine⟨Hz w,rfl,λj D=>?_,hc,by simp,by show(live.map (·.1)).toArray.size<=m;simp[A];exact hn,λj g hz=>?_⟩
 .obtain⟨⟨y,i⟩,r,rfl⟩:=bX.mp D
  rw[<-l,jV] at r;obtain⟨a,K,e⟩:=r;obtain⟨u,_,s⟩:=jU.mp e;cases s;have:=fU.mp K;show _<=m;omega
 .have L:(pl {mask:=m,place:=(live.map (·.1)).toArray,dummies:= #[],finger:=f,led,moves:=B,plain}).zip ((live.map (·.2)).toArray.toList.map λi=>hs.getD i 0)=live.map λx=>(x.1,hs.getD x.2 0):=by
   show(live.map (·.1)).zip ((live.map (·.2)).map λi=>hs.getD i 0)=_;rw[c5,List.zip_map'];rfl
  rw[L] at hz;obtain⟨⟨y,i⟩,r,e⟩:=bX.mp hz;cases e;obtain⟨n,a1,a2⟩:=I.pa y i ((c y i).mp r);have M:hs.toList.getD i 0=hs.getD i 0:=by rw[cO,dI,d8]
  rw[M] at a1 a2;exact⟨n,a1,λq hq=>(E _).mp (a2 q hq)⟩
open PySem.Spec PyProof.Rows
theorem Tb.fits{t:SetTable}{hs:List Int}(T:Tb t hs):t.fits hs.length=true:=by
 unfold SetTable.fits SetTable.fill;rw[T.dm];have:=T.ro;have:=T.sz;simp;omega
theorem Tb.HF{t t':SetTable}{hs:List Int}(T:Tb t hs)(h1:t'.place=t.place)(h2:t'.dummies=t.dummies)(h3:t'.mask=t.mask):Tb t' hs:=by
 obtain⟨m,p,d,f,l,v,q⟩:=t;obtain⟨a,b,d',f',c,e,g⟩:=t';cases h1;cases h2;cases h3;exact⟨T.rs,T.dm,T.le,T.cy,T.sz,T.ro,T.pa⟩
open SS
def iz(w:World)(h:Heap)(a:Addr)(es:Array (Int×Value)):Prop:=
 ∃o ep t,h.get? a=some o/\o.ExactSet/\o.data=.set es ep t/\es.size<scanBound/\t.fits es.size=true/\t.led=(!w.params.followText "set-order")/\SR.Rs t.place
theorem iz.keeps{w:World}{h h':Heap}{a:Addr}{es:Array (Int×Value)}(S:iz w h a es)(k:∀o,h.get? a=some o->h'.get? a=some o):iz w h' a es:=by
 obtain⟨o,ep,t,b,r⟩:=S;exact⟨o,ep,t,k o b,r⟩
section
variable{prog:Program}{w:World}{A:Around}{E:aA}{s:Shared}{it a:Addr}{es:Array (Int×Value)}{ep:Nat}{t:SetTable}
theorem G0{Q:aA}(B:iz w s.heap a es)
  (h:∀(h':Heap) (d:Drawn) (it:Addr) (zs:List Value) (fp:List Addr) (St:Nat->Heap->Prop),zs.Perm (es.toList.map (·.2))->(∀A':Around,A'.handled=none->Walks prog w A' it fp [it] zs.length (λi v=>zs[i]?=some v) St)->St 0 h'->
   it∈fp->(∀b∈fp,b=a\/s.heap.objs.size<=b)->(∀b∈fp,b<h'.objs.size)->s.heap.objs.size<=it->(∀b o,s.heap.get? b=some o->h'.get? b=some o)->Q (.ref it) {s with heap:=h',drawn:=d}):wpAny (model prog w) A (pyIter (.ref a)) Q E s:=by
 obtain⟨o,ep,t,f,hex,hd,C,g,k,x⟩:=B;have y:s.TypeIs (.ref a) "set":=⟨o,f,hex.1⟩;have alt:a<s.heap.objs.size:=aM f;refine wpAny_pyIter_slot y BJ (gy BJ y E4 ?_ (CQ _));show wpAny _ _ (Builtin.Frozenset.sizeOf a>>=_) _ _ s;unfold Builtin.Frozenset.sizeOf;refine aa (aa (oz f hd g (ak ?_)));refine aa ?_;unfold setDrawn;refine aa (ic f hd g ?_);dsimp only;refine aa (o6 (ak ?_));show wpAny _ _ (if (!w.params.followText "set-order"&&(!t.plain&&decide (es.size>1)))=true then _ else _) _ _ _;by_cases hc:(!w.params.followText "set-order"&&(!t.plain&&decide (es.size>1)))=true
 .rw[aj hc]
  refine aa (ye _ _ _ _ (by simp) λys d j=>?_);unfold newTuple;have hsz:sizeOk (.seq ((ys.map λ(i:Nat)=>rawInt i).toArray) 0):=by
   show((ys.map λ(i:Nat)=>rawInt i).toArray).size<=sizeLine;rw[bV,bC,j.length_eq,l5];exact rV C
  refine aa (dH ?_ hsz);have l:=λb o (e:s.heap.get? b=some o)=>aR {cls:=.type "tuple",data:=.seq ((ys.map λ(i:Nat)=>rawInt i).toArray)} e;have m:=l a o f;refine aa (wpAny_setEpoch_of m hd g ?_);refine aa (dH (ak ⟨_,rfl,"set_iterator",_,⟨_,bK _ rfl,rfl⟩,slot_next.lookup,?_⟩) (by size_fits));have ne1:a≠(s.heap.push {cls:=.type "tuple",data:=.seq ((ys.map λ(i:Nat)=>rawInt i).toArray)}).objs.size:=by rw[cJ];exact aV (fD alt)
  have ne2:s.heap.objs.size≠(s.heap.push {cls:=.type "tuple",data:=.seq ((ys.map λ(i:Nat)=>rawInt i).toArray)}).objs.size:=by rw[cJ];exact aV (iO _)
  refine h _ d _ (ys.map λp=>((es[p]?).getD (0,.none)).2) [_,a,s.heap.objs.size] _ (JU j) (λA' n=>Na (t:=t) (ep:=ep) n ne1 ne2 j) ⟨⟨_,bK _ rfl,rfl,rfl⟩,⟨o,aR _ m,hd,g⟩,⟨_,_,aR _ (bK _ rfl),rfl⟩⟩ (by simp) (λb c=>by
   simp only[aQ,ez,eB] at c;rcases c with z|z|z
   .exact .inr (by rw[z,cJ];exact le_succ _)
   .exact .inl z
   .exact .inr (by rw[z];exact aF _)) (λb c=>?_) (by rw[cJ];exact le_succ _) λb o e=>aR _ (l b o e)
  rw[cJ,cJ];simp only[aQ,ez,eB] at c;rcases c with z|z|z
  .rw[z,cJ];exact iO _
  .rw[z];exact fD (fD alt)
  .rw[z];exact fD (iO _)
 .rw[ai hc]
  refine aa (ak ?_);refine aa (wpAny_setEpoch_of f hd g ?_);refine aa (dH (ak ⟨_,rfl,"set_iterator",_,⟨_,bK _ rfl,rfl⟩,slot_next.lookup,?_⟩) (by size_fits));have ne1:a≠s.heap.objs.size:=aV alt;have q:∀b∈[s.heap.objs.size,a],b<(s.heap.push {cls:=.type "set_iterator",data:=.fields [rawInt 0,rawInt 0,.ref a,rawInt (es.size:Nat),rawInt (ep:Nat)].toArray}).objs.size:=λb c=>by
   rw[cJ];simp only[aQ,ez,eB] at c;rcases c with z|z
   .rw[z];exact iO _
   .rw[z];exact fD alt
  have r:∀b∈[s.heap.objs.size,a],b=a\/s.heap.objs.size<=b:=λb c=>by
   simp only[aQ,ez,eB] at c;rcases c with z|z
   .exact .inr (by rw[z];exact aF _)
   .exact .inl z
  cases u:w.params.followText "set-order" with
  |true=>
   exact h _ s.drawn _ ((pickOrder (w.params.setOrder a ep) es).toList.map (·.2)) [_,a] _ ((JX _ es).map _) (λA' n=>Nc (t:=t) u n ne1) ⟨⟨_,bK _ rfl,rfl,rfl⟩,⟨o,aR _ f,hd,g⟩⟩ (by simp) r q (aF _) λb o e=>aR _ e
  |false=>
   have hz:(!t.plain&&decide (es.size>1))=false:=by
    rw[u] at hc;simpa using hc
   have D:t.led=true:=by rw[k,u];rfl
   exact h _ s.drawn _ (es.toList.map (·.2)) [_,a] _ (.refl _) (λA' n=>SI.Nb (t:=t) (ep:=ep) u D hz g x n ne1) ⟨⟨_,bK _ rfl,rfl,rfl⟩,⟨o,aR _ f,hd,g⟩⟩ (by simp) r q (aF _) λb o e=>aR _ e
theorem Dk{Q:List Value->Shared->Prop}(J:A.handled=none)(B:iz w s.heap a es)
  (N:∀(h':Heap) (d:Drawn) (tk:Nat) (zs:List Value),zs.Perm (es.toList.map (·.2))->s.heap.objs.size<=h'.objs.size->(∀b o,s.heap.get? b=some o->h'.get? b=some o)->Q zs {s with heap:=h',drawn:=d,toks:=tk}):
  wpAny (model prog w) A (collect (.ref a)) Q E s:=by
 have alt:a<s.heap.objs.size:=by obtain⟨o,_,_,C,_⟩:=B;exact aM C
 have hz:es.size<scanBound:=by obtain⟨_,_,_,_,_,_,f,_⟩:=B;exact f
 unfold collect;refine aa (wpAny_runValue (eG PySem.F.entry_proto_collect ?_));rw[eU PySem.F.plain_proto_collect _];show wpAny _ A.in1 (newList []>>=λl=>again (.builtin "list.__iadd__" ⟨[l,.ref a],[]⟩)) _ _ s;refine aa (dH ?_);refine ak ⟨eT rH _,eG PySem.F.entry_list_iadd ?_⟩;rw[eU rH _];have i:iz w (s.heap.push {cls:=.type "list",data:=.seq ([]:List Value).toArray}) a es:=B.keeps λo e=>aR _ e;have v:∀{s':Shared},iz w s'.heap a es->s'.TypeIs (.ref a) "set":=λ {s'} x=>by obtain⟨o,_,_,C,hex,_⟩:=x;exact⟨o,C,hex.1⟩
 show wpAny _ A.in1 (Builtin.List.listExtendWith (.ref s.heap.objs.size) (.ref a) (.ref s.heap.objs.size)) _ _ _;unfold Builtin.List.listExtendWith;refine aa (iR (v (s':={s with heap:=s.heap.push {cls:=.type "list",data:=.seq ([]:List Value).toArray}}) i) ?_);have h1:Builtin.List.listSameRef (.ref s.heap.objs.size) (.ref a)=false:=by simp[Builtin.List.listSameRef,g8 alt]
 have h2:(Value.type "set" ==Value.type "list")=false:=by decide
 have h3:(Value.type "set" ==Value.type "tuple")=false:=by decide
 simp only[h1,h2,h3,Bool.or_false,cu,bW];refine aa (G0 (s:={s with heap:=s.heap.push {cls:=.type "list",data:=.seq ([]:List Value).toArray}}) i λh2 d it zs fp St m W D hit G O n k2=>?_);have k:iz w h2 a es:=i.keeps λo e=>k2 _ _ e;refine aa (dU ?_);unfold Builtin.List.listLengthHint;refine aa (oA (v (s':={s with heap:=h2,drawn:=d}) k) PySem.F.slot_set_len.lookup ?_);dsimp only;have g:splitId "set.__len__"=some ("set","__len__"):=by decide+kernel
 rw[g];dsimp only;refine aa (ou (v (s':={s with heap:=h2,drawn:=d}) k) sub_set_self ?_);simp only[lY,cu,bW];rw[aj (by decide+kernel)];refine aa (iR (v (s':={s with heap:=h2,drawn:=d}) k) ?_);refine ak ?_;rw[aj (by decide+kernel)];refine aa (j7 ?_);have P:(s.heap.push {cls:=.type "list",data:=.seq ([]:List Value).toArray}).get? s.heap.objs.size=some {cls:=.type "list",data:=.seq ([]:List Value).toArray}:=bK _ rfl;have K:=k2 _ _ P;have p:s.heap.objs.size∉fp:=λz=>by
  rcases G _ z with e|e
  .exact absurd alt (by rw[<-e];exact cZ _)
  .rw[cJ] at e
   exact absurd e (Nat.not_succ_le_self _)
 have q:s.heap.objs.size<it:=by rw[cJ] at n;exact n
 refine aa ?_;show wpAny _ A.in1 (updateSeq s.heap.objs.size (·.push .none)>>=λ_=>updateSeq s.heap.objs.size (·.pop)) _ _ _;refine aa (jl K rfl ?_);have L2:=fH (Obj.mapSeq (·.push Value.none)) K rfl;refine jl L2 rfl ?_;have R:=fH (Obj.mapSeq (·.pop)) L2 rfl;have r:∀b o,b≠s.heap.objs.size->h2.get? b=some o->((h2.update s.heap.objs.size (Obj.mapSeq (·.push Value.none))).update s.heap.objs.size (Obj.mapSeq (·.pop))).get? b=some o:=
  λb o f e=>(gG _ _ (Ne.symm f)).trans ((gG _ _ (Ne.symm f)).trans e)
 have S:=(W A.in1 J).toS;have hn:zs.length<=sizeLine:=by rw[m.length_eq,bC,bE];exact rV hz
 refine ak ⟨eT n_ _,codeAny_extend_loopS S hn _ p _ zs.length 0 _ _ _ rfl (b9 _) ((W A.in1 J).frame 0 _ _ D λb f o e=>r b o (λz=>p (z▸f)) e) R (ItemsOf.nil _) λs' c c' y t h=>?_⟩;show wpAny _ A (load s.heap.objs.size>>=_) _ _ s';refine aa (wpAny_load t ?_);have u:c.toList=zs:=by
  apply List.ext_getElem?;intro j;rw[d8];by_cases L:j<c.size
  .have M:c[j]?=some (c[j]'L):=b_ L
   rw[M];exact(h.2 j _ M).symm
  .rw[lW (by omega),vJ (by rw[<-h.1];omega)]
 obtain⟨h',g',d',H,I⟩:=s';have T:g'=s.gens:=y.gens;have U:d'=d:=y.drawn;have V:I=s.os:=y.os;subst T;subst U;subst V;refine ak ?_;show Q c.toList _;rw[u];have kp:∀b o,s.heap.get? b=some o->h'.get? b=some o:=λb o e=>by
  have f:b<s.heap.objs.size:=aM e;refine y.heap b o ?_ (r b o (aV f) (k2 _ _ (aR _ e)));simp only[aQ,ez,eB,not_or];exact⟨aV f,aV (lt_trans f q)⟩
 exact N h' d' H zs m (iU (aM t)) kp
end
open PySem.W KO
theorem JS{α β:Type}{f:α->β}{l n:List β}(h:l.Perm n):∀m:List α,n=m.map f->∃k:List α,k.Perm m/\l=k.map f:=by
 induction h with
 |nil=>
  intro m e;cases m with
  |nil=>exact⟨[],.nil,rfl⟩
  |cons=>cases e
 |cons x _ o=>
  intro m e;cases m with
  |nil=>cases e
  |cons a m=>
   obtain⟨h1,h2⟩:=List.cons.inj e;obtain⟨k,hk,c⟩:=o m h2;exact⟨a::k,hk.cons a,by rw[c,h1];rfl⟩
 |swap x y l=>
  intro m e;match m,e with
  |a::b::m,e=>
   cases e;exact⟨b::a::m,.swap a b m,rfl⟩
 |trans _ _ d g=>
  intro m e;obtain⟨k,hk,c⟩:=g m e;obtain⟨k',i,j⟩:=d k c;exact⟨k',i.trans hk,j⟩
end ST
section
open PySem PySem.Spec PyProof.Rows
namespace L2
open PySem.SeqAt
theorem zA{α:Type}{f:Nat->α}{n:Nat}:∀{l:List α},(∀x∈l,∃j,j<n/\x=f j)->∃a:List Nat,l=a.map f/\∀j∈a,j<n
 |[],_=>⟨[],rfl,λj h=>by cases h⟩
 |x::l,h=>by
  obtain⟨j,b,e⟩:=h x b8;obtain⟨a,c,h2⟩:=zA λy d=>h y (bT _ d);exact⟨j::a,by rw[e,c];rfl,λk hk=>by
   rcases aQ.mp hk with rfl|hk
   .exact b
   .exact h2 k hk⟩
theorem B8:∀(as:List Addr),Vals (as.map V.ref) (as.map Value.ref)
 |[]=>.nil
 |a::as=>.cons rfl (B8 as)
theorem B9:∀{as:List Addr} {its:List Value},Vals (as.map V.ref) its->its=as.map Value.ref
 |[],_,.nil=>rfl
 |a::as,_,.cons h r=>by
  cases h;rw[B9 r];rfl
end L2
namespace DP
open L2 MA
structure mq(x:Rat):Prop where
 pos:0<x
 num:(rf x).1<=1152921504606846976
 den:(rf x).2<=1152921504606846976
theorem rZ.w{x:Rat}(h:rZ x):mq x:=⟨h.pos,by have:=h.num;omega,by have:=h.den;omega⟩
theorem CY{xs:List Rat}(h:∀x∈xs,mq x)(a:xs.length<=32):bot xs 1<=1152921504606846976 ^ 32:=by
 have:=bot_le 1152921504606846976 (by decide) xs 1 (by decide) λx b=>(h x b).den;rw[Int.one_mul] at this;exact dg this (J9 (c:=1152921504606846976) (by decide) a)
theorem B5{xs:List Rat}(h:∀x∈xs,mq x)(c:xs.length<=32){n:Int}(hn:n∈ups xs):0<n/\n<=1152921504606846976 ^ 33:=by
 obtain⟨x,a,rfl⟩:=bX.mp hn;have f:=h x a;refine⟨M9 a f.pos,?_⟩;have d:=CY h c;obtain⟨b,_,_⟩:=mJ xs 1 (by decide);have h1:bot xs 1/(rf x).2<=bot xs 1:=ediv_le_self _ (gw b);have h0:0<=bot xs 1/(rf x).2:=Int.ediv_nonneg (gw b) (gw (gq x));have e:=k9 f.pos;rw[show(33:Nat)=32+1 from rfl,om,jW _ (1152921504606846976:Int)];exact g7 f.num (dg h1 d) h0 (by decide)
theorem uf{n:Int}(h0:0<n)(h:n<=1152921504606846976 ^ 33):n.natAbs.log2<9000:=
 HL (Nat.lt_of_le_of_lt (Im (c:=1152921504606846976) h0 h) (by decide+kernel))
theorem BN{n:Int}(h:n<=1152921504606846976):n<=1152921504606846976 ^ 33:=dg h (by decide+kernel)
end DP
end
namespace TS
open PySem PyProof.Rows
def eO:Bool->Keyed->Array Keyed->Nat->Nat->Nat->StateT SortSt Sem (Option Nat):=sortPriv%PySem.Builtin.gallop
def nv:Array Keyed->Array Keyed->StateT SortSt Sem (Array Keyed):=sortPriv%PySem.Builtin.mergeLo
def nu:Array Keyed->Array Keyed->StateT SortSt Sem (Array Keyed):=sortPriv%PySem.Builtin.mergeHi
abbrev bg(st:SortSt)(g:Nat):SortSt:=SortSt.mk' (kindOf st) (arrOf st) (pendingOf st) g (failedOf st)
def ku(left:Bool)(key:Keyed)(arr:Array Keyed)(base i:Nat):StateT SortSt Sem (Option Bool):=do
 let x <-elem' arr (base+i)
 if left then lt' x key else return (<-lt' key x).map (!·)
def o5(left:Bool)(key:Keyed)(arr:Array Keyed)(base n HK hi0:Nat):StateT SortSt Sem (Option Nat):=do
 let mut lo:=HK
 let mut hi:=hi0
 for _ in [0:n] do
  if lo≥hi then break
  let m:=lo+(hi - lo)/2
  let some more <-ku left key arr base m|return none
  if more then lo:=m+1 else hi:=m
 return some hi
theorem Ga(left:Bool)(key:Keyed)(arr:Array Keyed)(base n hint:Nat):eO left key arr base n hint=(do
 let mut a:=0
 let mut c:=1
 let some right <-ku left key arr base hint|return none
 if right then
  let b:=n - hint
  for _ in [0:n] do
   if c≥b then break
   let some more <-ku left key arr base (hint+c)|return none
   if !more then break
   a:=c
   c:=2*c+1
  o5 left key arr base n (hint+a+1) (hint+min c b)
 else
  let b:=hint+1
  for _ in [0:n] do
   if c≥b then break
   let some found <-ku left key arr base (hint - c)|return none
   if found then break
   a:=c
   c:=2*c+1
  o5 left key arr base n (hint+1 - min c b) (hint - a)):=rfl
theorem H8(a b:Array Keyed):nv a b=(do
 rule "list.sort.merge-lo"
 let total:=a.size+b.size
 let done (out:Array Keyed) (c d:Nat):=out++a.extract c a.size++b.extract d b.size
 let g (out:Array Keyed) (c d:Nat):=out++b.extract d b.size++a.extract c a.size
 let mut out:Array Keyed:= #[<-elem' b 0]
 let mut c:=0
 let mut d:=1
 if d==b.size then return done out c d
 if c+1==a.size then return g out c d
 let mut minGallop:=gallopOf (<-get)
 for _ in [0:total] do
  let mut e:=0
  let mut f:=0
  for _ in [0:total] do
   let some h <-lt' (<-elem' b d) (<-elem' a c)|return done out c d
   if h then
    out:=out.push (<-elem' b d);d:=d+1;f:=f+1;e:=0
    if d==b.size then return done out c d
    if f≥minGallop then break
   else
    out:=out.push (<-elem' a c);c:=c+1;e:=e+1;f:=0
    if c+1==a.size then return g out c d
    if e≥minGallop then break
  rule "list.sort.gallop"
  minGallop:=minGallop+1
  for _ in [0:total] do
   if minGallop>1 then minGallop:=minGallop - 1
   modify (λs=>bg s minGallop)
   let some k <-eO false (<-elem' b d) a c (a.size - c) 0|return done out c d
   e:=k
   if k>0 then
    out:=out++a.extract c (c+k);c:=c+k
    if c+1==a.size then return g out c d
    if c==a.size then return done out c d
   out:=out.push (<-elem' b d);d:=d+1
   if d==b.size then return done out c d
   let some k <-eO true (<-elem' a c) b d (b.size - d) 0|return done out c d
   f:=k
   if k>0 then
    out:=out++b.extract d (d+k);d:=d+k
    if d==b.size then return done out c d
   out:=out.push (<-elem' a c);c:=c+1
   if c+1==a.size then return g out c d
   if e<7&&f<7 then break
  minGallop:=minGallop+1
  modify (λs=>bg s minGallop)
 unsupported "internal:list.sort.merge-bound"):=rfl
section
variable{M:Model}{A:Around}{E:aA}{s:Shared}{C:SortKind}
theorem Gb{left:Bool}{key:Keyed}{arr:Array Keyed}{base n hint:Nat}{b:Nat->Bool}{st:SortSt}{Q:Option Nat->SortSt->Prop}(hk:kindOf st=C)(u:hint<n)
  (p:∀i,i<n->∀(Q:Option Bool->SortSt->Prop),Q (some (b i)) st->wpS M A E s (ku left key arr base i) Q st)
  (mono:∀i j,i<=j->j<n->b j=true->b i=true)
  (h:∀k,k<=n->(∀i,i<k->b i=true)->(∀i,k<=i->i<n->b i=false)->Q (some k) st):wpS M A E s (eO left key arr base n hint) Q st:=by
 rw[Ga]
 dsimp only
 refine ay (p hint u _ ?_)
 dsimp only
 have a:∀i j,i<=j->j<n->b i=false->b j=false:=λi j q v hi=>by
  cases e:b j with
  |false=>rfl
  |true=>rw[mono i j q v e] at hi;cases hi
 have fin:∀lo hi:Nat,lo<=hi->hi<=n->(∀i,i<lo->b i=true)->(∀i,hi<=i->i<n->b i=false)->
   wpS M A E s (o5 left key arr base n lo hi) Q st:=λlo hi h1 h2 h3 w=>by
  unfold o5
  dsimp only
  refine ay (eF (I:=λx c d=>d=st/\∃lo hi,c=(none,lo,hi)/\lo<=hi/\hi<=n/\(∀i,i<lo->b i=true)/\(∀i,hi<=i->i<n->b i=false)/\hi - lo<=n - x) ?_ ?_ ⟨rfl,lo,hi,rfl,h1,h2,h3,w,by omega⟩)
  .rintro x c d _ r ⟨rfl,lo,hi,rfl,a1,a2,g,f,y⟩
   dsimp only
   by_cases l:lo≥hi
   .rw[aj l]
    refine aB ?_
    have:lo=hi:=by omega
    subst this
    exact aB (h lo a2 g f)
   .rw[ai l]
    refine ay (p _ (by omega) _ ?_)
    dsimp only
    cases m:b (lo+(hi - lo)/2) with
    |true=>exact aB ⟨rfl,_,_,rfl,by omega,a2,λi o=>mono i _ (by omega) (by omega) m,f,by omega⟩
    |false=>exact aB ⟨rfl,_,_,rfl,by omega,by omega,g,λi o hn=>a _ i o hn m,by omega⟩
  .rintro c d ⟨rfl,lo,hi,rfl,a1,a2,g,f,y⟩
   have:lo=hi:=by omega
   subst this
   exact aB (h lo a2 g f)
 cases t:b hint with
 |true=>
  simp only[f5]
  refine ay (eF (I:=λx c d=>d=st/\∃la of,c=(none,la,of)/\la<of/\x+1<=of/\hint+la<n/\b (hint+la)=true) ?_ ?_ ⟨rfl,0,1,rfl,by decide,by omega,by omega,by rw[add_zero];exact t⟩)
  .rintro x c d _ r ⟨rfl,la,of,rfl,a1,a2,g,f⟩
   dsimp only
   by_cases l:of≥n - hint
   .rw[aj l]
    refine aB ?_
    dsimp only
    exact fin (hint+la+1) (hint+min of (n - hint)) (by omega) (by omega) (λi hi=>mono i _ (by omega) g f) (λi h1 h2=>by omega)
   .rw[ai l]
    refine ay (p _ (by omega) _ ?_)
    dsimp only
    cases m:b (hint+of) with
    |true=>exact aB ⟨rfl,_,_,rfl,by omega,by omega,by omega,m⟩
    |false=>
     refine aB ?_
     dsimp only
     exact fin (hint+la+1) (hint+min of (n - hint)) (by omega) (by omega) (λi hi=>mono i _ (by omega) g f) (λi h1 h2=>a (hint+of) i (by omega) h2 m)
  .rintro c d ⟨rfl,la,of,rfl,a1,a2,g,f⟩
   dsimp only
   exact fin (hint+la+1) (hint+min of (n - hint)) (by omega) (by omega) (λi hi=>mono i _ (by omega) g f) (λi h1 h2=>by omega)
 |false=>
  simp only[cu,bW]
  refine ay (eF (I:=λx c d=>d=st/\∃la of,c=(none,la,of)/\la<of/\x+1<=of/\la<=hint/\b (hint - la)=false) ?_ ?_ ⟨rfl,0,1,rfl,by decide,by omega,by omega,by rw[Nat.sub_zero];exact t⟩)
  .rintro x c d _ r ⟨rfl,la,of,rfl,a1,a2,g,f⟩
   dsimp only
   by_cases l:of≥hint+1
   .rw[aj l]
    refine aB ?_
    dsimp only
    exact fin (hint+1 - min of (hint+1)) (hint - la) (by omega) (by omega) (λi hi=>by omega) (λi h1 h2=>a (hint - la) i h1 h2 f)
   .rw[ai l]
    refine ay (p _ (by omega) _ ?_)
    dsimp only
    cases m:b (hint - of) with
    |true=>
     refine aB ?_
     dsimp only
     exact fin (hint+1 - min of (hint+1)) (hint - la) (by omega) (by omega) (λi hi=>mono i (hint - of) (by omega) (by omega) m) (λi h1 h2=>a (hint - la) i h1 h2 f)
    |false=>exact aB ⟨rfl,_,_,rfl,by omega,by omega,by omega,m⟩
  .rintro c d ⟨rfl,la,of,rfl,a1,a2,g,f⟩
   dsimp only
   exact fin (hint+1 - min of (hint+1)) (hint - la) (by omega) (by omega) (λi hi=>by omega) (λi h1 h2=>a (hint - la) i h1 h2 f)
end
section
variable{M:Model}{A:Around}{E:aA}{s:Shared}
theorem cM{arr:Array Keyed}{i:Nat}{st:SortSt}{Q:Keyed->SortSt->Prop}(hi:i<arr.size)(h:Q (arr.toList[i]'hi) st):wpS M A E s (elem' arr i) Q st:=by
 rw[elem'_eq,b_ hi];exact aB h
theorem lD{σ:Type}{r:String}{st:σ}{Q:Unit->σ->Prop}(h:Q () st):wpS M A E s (liftM (rule r):StateT σ Sem Unit) Q st:=
 wpS_lift (j7 ⟨rfl,h⟩)
structure Cp(M:Model)(A:Around)(E:aA)(s:Shared)(C:SortKind)(G:Keyed->Prop)(r:Keyed->Keyed->Bool):Prop where
 lt:∀{x y:Keyed} {st:SortSt} {Q:Option Bool->SortSt->Prop},G x->G y->kindOf st=C->Q (some (r x y)) st->wpS M A E s (lt' x y) Q st
 as:∀{x y:Keyed},G x->G y->r x y=true->r y x=false
 tr:∀{x y z:Keyed},G x->G y->G z->r y x=false->r z y=false->r z x=false
end
section
variable{G:Keyed->Prop}{r:Keyed->Keyed->Bool}
abbrev Le(r:Keyed->Keyed->Bool)(x y:Keyed):Prop:=r y x=false
structure MI(G:Keyed->Prop)(r:Keyed->Keyed->Bool)(a b out:List Keyed)(ia ib:Nat):Prop where
 pm:out.Perm (a.take ia++b.take ib)
 so:out.Pairwise (Le r)
 la:∀x∈out,∀y∈a.drop ia,Le r x y
 lb:∀x∈out,∀y∈b.drop ib,Le r x y
theorem mY(a:List Keyed)(i k:Nat):a.drop i=(a.drop i).take k++a.drop (i+k):=by
 rw[<-lR];exact(dF k (a.drop i)).symm
theorem MI.nW{a b out:List Keyed}{d f:Nat}(m:MI G r a b out d f)(k:Nat)(sa:a.Pairwise (Le r))(h:∀x∈(a.drop d).take k,∀y∈b.drop f,Le r x y):
  MI G r a b (out++(a.drop d).take k) (d+k) f:=by
 have e:=mY a d k;have g:(a.drop d).Pairwise (Le r):=sa.sublist (gF _ _);rw[e,cF] at g;refine⟨?_,?_,?_,?_⟩
 .rw[take_add]
  refine(ir _ m.pm).trans ?_;rw[bu,bu];exact gD _ g_
 .exact cF.mpr ⟨m.so,g.1,λx hx y c=>m.la x hx y (by rw[e];exact jh _ c)⟩
 .intro x hx y c
  rcases aU.mp hx with hx|hx
  .exact m.la x hx y (by rw[e];exact ff _ c)
  .exact g.2.2 x hx y c
 .intro x hx y c
  rcases aU.mp hx with hx|hx
  .exact m.lb x hx y c
  .exact h x hx y c
theorem MI.lA{a b out:List Keyed}{f d:Nat}(m:MI G r a b out f d)(k:Nat)(sb:b.Pairwise (Le r))(h:∀x∈(b.drop d).take k,∀y∈a.drop f,Le r x y):
  MI G r a b (out++(b.drop d).take k) f (d+k):=by
 have e:=mY b d k;have g:(b.drop d).Pairwise (Le r):=sb.sublist (gF _ _);rw[e,cF] at g;refine⟨?_,?_,?_,?_⟩
 .rw[take_add,<-bu]
  exact ir _ m.pm
 .exact cF.mpr ⟨m.so,g.1,λx hx y c=>m.lb x hx y (by rw[e];exact jh _ c)⟩
 .intro x hx y c
  rcases aU.mp hx with hx|hx
  .exact m.la x hx y c
  .exact h x hx y c
 .intro x hx y c
  rcases aU.mp hx with hx|hx
  .exact m.lb x hx y (by rw[e];exact ff _ c)
  .exact g.2.2 x hx y c
abbrev Mg(r:Keyed->Keyed->Bool)(a b out:List Keyed):Prop:=out.Perm (a++b)/\out.Pairwise (Le r)
theorem MI.EN{a b out:List Keyed}{d c:Nat}(m:MI G r a b out d c)(sa:a.Pairwise (Le r))(e:b.length<=c):Mg r a b (out++a.drop d++b.drop c):=by
 rw[jq e,fG];refine⟨?_,cF.mpr ⟨m.so,sa.sublist (gF _ _),λx f y g=>m.la x f y g⟩⟩;have:=m.pm;rw[gx e] at this;refine(ir _ this).trans ?_;rw[bu];refine(gD _ g_).trans ?_;rw[<-bu,dF]
theorem MI.EM{a b out:List Keyed}{c d:Nat}(m:MI G r a b out c d)(sb:b.Pairwise (Le r))(e:a.length<=c):Mg r a b (out++a.drop c++b.drop d):=by
 rw[jq e,fG];refine⟨?_,cF.mpr ⟨m.so,sb.sublist (gF _ _),λx f y g=>m.lb x f y g⟩⟩;have:=m.pm;rw[gx e] at this;refine(ir _ this).trans ?_;rw[bu,dF]
theorem MI.HA{a b out:List Keyed}{c d:Nat}(m:MI G r a b out c d)(sa:a.Pairwise (Le r))(sb:b.Pairwise (Le r))(h:∀x∈b.drop d,∀y∈a.drop c,Le r x y):Mg r a b (out++b.drop d++a.drop c):=by
 refine⟨?_,?_⟩
 .rw[bu]
  refine(Perm.append m.pm g_).trans ?_;rw[bu];have e:(a++b).Perm ((a.take c++a.drop c)++(b.take d++b.drop d)):=by rw[dF,dF]
  refine Perm.trans ?_ e.symm;rw[bu];refine gD _ ?_;rw[<-bu,<-bu];exact ir _ g_
 .rw[bu]
  refine cF.mpr ⟨m.so,cF.mpr ⟨sb.sublist (gF _ _),sa.sublist (gF _ _),h⟩,?_⟩;intro x f y hy;rcases aU.mp hy with hy|hy
  .exact m.lb x f y hy
  .exact m.la x f y hy
end
abbrev ko:=Option (Array Keyed)×Array Keyed×Nat×Nat×Nat×Nat
abbrev f_:=Option (Array Keyed)×Array Keyed×Nat×Nat×Nat×Nat×Nat
abbrev SM:=StateT SortSt Sem
abbrev gk(a b out:Array Keyed)(ia ib:Nat):Array Keyed:=out++a.extract ia a.size++b.extract ib b.size
abbrev kZ(a b out:Array Keyed)(ia ib:Nat):Array Keyed:=out++b.extract ib b.size++a.extract ia a.size
def nS(a b:Array Keyed)(mg:Nat)(c:ko):SM (ForInStep ko):=do
 let y <-elem' b c.2.2.2.1
 let x <-elem' a c.2.2.1
 match <-lt' y x with
 |some w=>
  if w then
   let e <-elem' b c.2.2.2.1
   if c.2.2.2.1+1==b.size then pure (.done (some (gk a b (c.2.1.push e) c.2.2.1 (c.2.2.2.1+1)),c.2.1.push e,c.2.2.1,c.2.2.2.1+1,0,c.2.2.2.2.2+1))
   else if c.2.2.2.2.2+1≥mg then pure (.done (none,c.2.1.push e,c.2.2.1,c.2.2.2.1+1,0,c.2.2.2.2.2+1))
   else pure (.yield (none,c.2.1.push e,c.2.2.1,c.2.2.2.1+1,0,c.2.2.2.2.2+1))
  else
   let e <-elem' a c.2.2.1
   if c.2.2.1+1+1==a.size then pure (.done (some (kZ a b (c.2.1.push e) (c.2.2.1+1) c.2.2.2.1),c.2.1.push e,c.2.2.1+1,c.2.2.2.1,c.2.2.2.2.1+1,0))
   else if c.2.2.2.2.1+1≥mg then pure (.done (none,c.2.1.push e,c.2.2.1+1,c.2.2.2.1,c.2.2.2.2.1+1,0))
   else pure (.yield (none,c.2.1.push e,c.2.2.1+1,c.2.2.2.1,c.2.2.2.2.1+1,0))
 |_=>pure (.done (some (gk a b c.2.1 c.2.2.1 c.2.2.2.1),c.2.1,c.2.2.1,c.2.2.2.1,c.2.2.2.2.1,c.2.2.2.2.2))
def g3(a b out:Array Keyed)(ia ib mg k k1:Nat):SM (ForInStep f_):=do
 let e <-elem' a ia
 if ia+1+1==a.size then pure (.done (some (kZ a b (out.push e) (ia+1) ib),out.push e,ia+1,ib,mg,k,k1))
 else if decide (k<7)&&decide (k1<7) then pure (.done (none,out.push e,ia+1,ib,mg,k,k1))
 else pure (.yield (none,out.push e,ia+1,ib,mg,k,k1))
def g2(a b out:Array Keyed)(ia ib mg k bc:Nat):SM (ForInStep f_):=do
 let e <-elem' b ib
 if ib+1==b.size then pure (.done (some (gk a b (out.push e) ia (ib+1)),out.push e,ia,ib+1,mg,k,bc))
 else do
  let x <-elem' a ia
  match <-eO true x b (ib+1) (b.size - (ib+1)) 0 with
  |some k1=>
   if k1>0 then
    if ib+1+k1==b.size then pure (.done (some (gk a b (out.push e++b.extract (ib+1) (ib+1+k1)) ia (ib+1+k1)),out.push e++b.extract (ib+1) (ib+1+k1),ia,ib+1+k1,mg,k,k1))
    else g3 a b (out.push e++b.extract (ib+1) (ib+1+k1)) ia (ib+1+k1) mg k k1
   else g3 a b (out.push e) ia (ib+1) mg k k1
  |_=>pure (.done (some (gk a b (out.push e) ia (ib+1)),out.push e,ia,ib+1,mg,k,bc))
def g1(a b out:Array Keyed)(ia ib mg ac bc:Nat):SM (ForInStep f_):=do
 modify (λs=>bg s mg)
 let y <-elem' b ib
 match <-eO false y a ia (a.size - ia) 0 with
 |some k=>
  if k>0 then
   if ia+k+1==a.size then pure (.done (some (kZ a b (out++a.extract ia (ia+k)) (ia+k) ib),out++a.extract ia (ia+k),ia+k,ib,mg,k,bc))
   else if ia+k==a.size then pure (.done (some (gk a b (out++a.extract ia (ia+k)) (ia+k) ib),out++a.extract ia (ia+k),ia+k,ib,mg,k,bc))
   else g2 a b (out++a.extract ia (ia+k)) (ia+k) ib mg k bc
  else g2 a b out ia ib mg k bc
 |_=>pure (.done (some (gk a b out ia ib),out,ia,ib,mg,ac,bc))
def nT(a b:Array Keyed)(c:f_):SM (ForInStep f_):=
 if c.2.2.2.2.1>1 then g1 a b c.2.1 c.2.2.1 c.2.2.2.1 (c.2.2.2.2.1 - 1) c.2.2.2.2.2.1 c.2.2.2.2.2.2 else g1 a b c.2.1 c.2.2.1 c.2.2.2.1 c.2.2.2.2.1 c.2.2.2.2.2.1 c.2.2.2.2.2.2
abbrev jy:=Option (Array Keyed)×Array Keyed×Nat×Nat×Nat
def turn(a b:Array Keyed)(c:jy):SM (ForInStep jy):=do
 let c1 <-forIn [0:a.size+b.size] ((none,c.2.1,c.2.2.1,c.2.2.2.1,0,0):ko) λ_ c1=>nS a b c.2.2.2.2 c1
 match c1.1 with
 |some r=>pure (.done (some r,c1.2.1,c1.2.2.1,c1.2.2.2.1,c.2.2.2.2))
 |none=>do
  rule "list.sort.gallop"
  let c2 <-forIn [0:a.size+b.size] ((none,c1.2.1,c1.2.2.1,c1.2.2.2.1,c.2.2.2.2+1,c1.2.2.2.2.1,c1.2.2.2.2.2):f_) λ_ c2=>nT a b c2
  match c2.1 with
  |some r=>pure (.done (some r,c2.2.1,c2.2.2.1,c2.2.2.2.1,c2.2.2.2.2.1))
  |none=>do
   modify (λs=>bg s (c2.2.2.2.2.1+1))
   pure (.yield (none,c2.2.1,c2.2.2.1,c2.2.2.2.1,c2.2.2.2.2.1+1))
theorem H9(a b:Array Keyed):nv a b=(do
 rule "list.sort.merge-lo"
 let e <-elem' b 0
 if 1==b.size then pure (gk a b #[e] 0 1)
 else if 0+1==a.size then pure (kZ a b #[e] 0 1)
 else do
  let st <-get
  let c <-forIn [0:a.size+b.size] ((none,#[e],0,1,gallopOf st):jy) λ_ c=>turn a b c
  match c.1 with
  |some r=>pure r
  |none=>unsupported "internal:list.sort.merge-bound"):=by
 rw[H8]
 dsimp only[turn,nS,nT,g1,g2,g3,gk,kZ]
 congr 1;funext _;congr 1;funext e;congr 1;congr 1;congr 1;funext st;congr 1;congr 1;funext x c;congr 1;funext d;congr 1;
 .cases d.fst with
  |some r=>rfl
  |none=>
   dsimp only
   congr 1;funext _;congr 1
   funext x
   cases x.fst with
   |some r=>rfl
   |none=>rfl
 .funext c
  cases c.fst with
  |some r=>rfl
  |none=>rfl
section
variable{M:Model}{A:Around}{E:aA}{s:Shared}{C:SortKind}{G:Keyed->Prop}{r:Keyed->Keyed->Bool}
abbrev seg(arr:Array Keyed)(base n:Nat):List Keyed:=(arr.toList.drop base).take n
abbrev sG(r:Keyed->Keyed->Bool)(left:Bool)(key x:Keyed):Bool:=if left then r x key else !r key x
theorem lq{arr:Array Keyed}{base n i:Nat}(hi:i<n):(seg arr base n)[i]?=arr.toList[base+i]? :=by
 rw[List.getElem?_take,aj hi,List.getElem?_drop]
theorem kQ(cp:Cp M A E s C G r){left:Bool}{key:Keyed}{arr:Array Keyed}{base n hint:Nat}{st:SortSt}{Q:Option Nat->SortSt->Prop}(hk:kindOf st=C)(f:G key)
  (hn:base+n<=arr.size)(u:hint<n)(ga:∀x∈seg arr base n,G x)(sa:(seg arr base n).Pairwise (Le r))
  (h:∀k,k<=n->(∀x∈(seg arr base n).take k,sG r left key x=true)->(∀x∈(seg arr base n).drop k,sG r left key x=false)->Q (some k) st):
  wpS M A E s (eO left key arr base n hint) Q st:=by
 have B:(seg arr base n).length=n:=by
  rw[e_,fh,bE];omega
 have get:∀i,i<n->∃x,arr.toList[base+i]? =some x/\x∈seg arr base n:=λi hi=>by
  have:i<(seg arr base n).length:=by omega
  refine⟨(seg arr base n)[i],?_,cz this⟩
  rw[<-lq hi,aZ this]
 refine Gb (C:=C) (b:=λi=>match arr.toList[base+i]? with|some x=>sG r left key x|none=>false) hk u ?_ ?_ ?_
 .intro i hi Q hq
  obtain⟨x,e,a⟩:=get i hi
  rw[e] at hq
  have c:base+i<arr.size:=by omega
  have ex:arr.toList[base+i]=x:=by
   have:=aZ (l:=arr.toList) (i:=base+i) (by simpa using c)
   rw[this] at e
   exact Option.some.inj e
  unfold ku
  refine ay (cM c ?_)
  rw[ex]
  cases left with
  |true=>exact cp.lt (ga x a) f hk hq
  |false=>
   refine ay (cp.lt f (ga x a) hk ?_)
   exact aB hq
 .intro i j v q g
  obtain⟨x,e,a⟩:=get i (by omega)
  obtain⟨y,m,t⟩:=get j q
  rw[m] at g
  rw[e]
  have xy:x=y\/Le r x y:=by
   rcases fc i j with h'|h'
   .right
    have h1:=lq (arr:=arr) (base:=base) (n:=n) (i:=i) (by omega)
    have h2:=lq (arr:=arr) (base:=base) (n:=n) (i:=j) q
    rw[e] at h1;rw[m] at h2
    obtain⟨a1,a2⟩:=bY.mp h1
    obtain⟨w,z⟩:=bY.mp h2
    rw[<-a2,<-z]
    exact iQ.mp sa i j a1 w h'
   .left
    have:i=j:=by omega
    subst this
    rw[e] at m;exact Option.some.inj m
  rcases xy with rfl|xy
  .exact g
  .cases left with
   |true=>
    show r x key=true
    cases ex:r x key with
    |true=>rfl
    |false=>
     have:r y key=false:=cp.tr f (ga x a) (ga y t) ex xy
     rw[show r y key=true from g] at this;cases this
   |false=>
    show(!r key x)=true
    have:r key y=false:=by simpa using g
    rw[cp.tr (ga x a) (ga y t) f xy this];rfl
 .intro k o h1 h2
  refine h k o (λx a=> ?_) (λx a=> ?_)
  .obtain⟨i,hi,e⟩:=List.mem_take_iff_getElem.mp a
   have p:i<k:=by omega
   have:=h1 i p
   have d:=lq (arr:=arr) (base:=base) (n:=n) (i:=i) (by omega)
   rw[aZ (by omega),e] at d
   rw[<-d] at this
   exact this
  .obtain⟨i,hi,e⟩:=List.mem_drop_iff_getElem.mp a
   have:=h2 (k+i) (by omega) (by omega)
   have d:=lq (arr:=arr) (base:=base) (n:=n) (i:=k+i) (by omega)
   rw[aZ (by omega),e] at d
   rw[<-d] at this
   exact this
end
section
variable{M:Model}{A:Around}{E:aA}{s:Shared}{C:SortKind}{G:Keyed->Prop}{r:Keyed->Keyed->Bool}{a b:Array Keyed}
structure MC(G:Keyed->Prop)(r:Keyed->Keyed->Bool)(a b:Array Keyed):Prop where
 ga:∀x∈a.toList,G x
 gb:∀x∈b.toList,G x
 sa:a.toList.Pairwise (Le r)
 sb:b.toList.Pairwise (Le r)
 la:∀x∈b.toList,∀y∈a.toList.drop (a.size - 1),Le r x y
theorem kK(a:Array Keyed)(i:Nat):(a.extract i a.size).toList=a.toList.drop i:=by
 rw[lJ,rR];exact gx (by rw[fh,bE];exact aF _)
theorem tG(a:Array Keyed)(i k:Nat):(a.extract i (i+k)).toList=(a.toList.drop i).take k:=by
 rw[lJ,rR,oF]
theorem take1{a:Array Keyed}{i:Nat}(h:i<a.size):(a.toList.drop i).take 1=[a.toList[i]'h]:=by
 rw[List.take_one,List.head?_drop,aZ (by simpa using h)];rfl
theorem HU{a:Array Keyed}{i:Nat}(h:i<a.size):a.toList[i]'h∈a.toList.drop i:=
 c6 (i:=1) (by rw[take1 h];exact bh.mpr rfl)
theorem yY{a:Array Keyed}{i:Nat}(h:i<a.size)(sa:a.toList.Pairwise (Le r)){x:Keyed}(hx:x∈a.toList.drop i):x=a.toList[i]'h\/Le r (a.toList[i]'h) x:=by
 have e:=mY a.toList i 1;rw[take1 h] at e;have b:(a.toList.drop i).Pairwise (Le r):=sa.sublist (gF _ _);rw[e] at hx b;rcases aU.mp hx with hx|hx
 .exact .inl (bh.mp hx)
 .exact .inr ((cF.mp b).2.2 _ (bh.mpr rfl) x hx)
variable(cp:Cp M A E s C G r)(mc:MC G r a b)
abbrev Fin(r:Keyed->Keyed->Bool)(a b o:Array Keyed):Prop:=Mg r a.toList b.toList o.toList
abbrev MJ(G:Keyed->Prop)(r:Keyed->Keyed->Bool)(a b o:Array Keyed)(ia ib:Nat):Prop:=MI G r a.toList b.toList o.toList ia ib
include mc
theorem pL{out:Array Keyed}{d c:Nat}(m:MJ G r a b out d c)(h:c=b.size):Fin r a b (gk a b out d c):=by
 show Mg r a.toList b.toList _;rw[eE,eE,kK,kK];exact m.EN mc.sa (by rw[h,bE];exact aF _)
theorem EK{out:Array Keyed}{c d:Nat}(m:MJ G r a b out c d)(h:c=a.size):Fin r a b (gk a b out c d):=by
 show Mg r a.toList b.toList _;rw[eE,eE,kK,kK];exact m.EM mc.sb (by rw[h,bE];exact aF _)
theorem p_{out:Array Keyed}{c d:Nat}(m:MJ G r a b out c d)(h:c+1=a.size):Fin r a b (kZ a b out c d):=by
 show Mg r a.toList b.toList _;rw[eE,eE,kK,kK];exact m.HA mc.sa mc.sb (λx e y f=>mc.la x (dc e) y (by rw[<-h,add_sub_cancel];exact f))
theorem MV{out:Array Keyed}{c d:Nat}(m:MJ G r a b out c d)(k:Nat)(h:∀x∈(a.toList.drop c).take k,∀y∈b.toList.drop d,Le r x y):MJ G r a b (out++a.extract c (c+k)) (c+k) d:=by
 show MI G r a.toList b.toList _ _ _;rw[eE,tG];exact m.nW k mc.sa h
theorem tkB{out:Array Keyed}{d c:Nat}(m:MJ G r a b out d c)(k:Nat)(h:∀x∈(b.toList.drop c).take k,∀y∈a.toList.drop d,Le r x y):MJ G r a b (out++b.extract c (c+k)) d (c+k):=by
 show MI G r a.toList b.toList _ _ _;rw[eE,tG];exact m.lA k mc.sb h
theorem pA{out:Array Keyed}{c d:Nat}(m:MJ G r a b out c d)(hi:c<a.size)(h:∀y∈b.toList.drop d,Le r (a.toList[c]'hi) y):MJ G r a b (out.push (a.toList[c]'hi)) (c+1) d:=by
 have:=m.nW 1 mc.sa (λx e y f=>by rw[take1 hi] at e;rw[bh.mp e];exact h y f);show MI G r a.toList b.toList _ _ _;rw[lK,<-take1 hi];exact this
theorem pB{out:Array Keyed}{d c:Nat}(m:MJ G r a b out d c)(hi:c<b.size)(h:∀y∈a.toList.drop d,Le r (b.toList[c]'hi) y):MJ G r a b (out.push (b.toList[c]'hi)) d (c+1):=by
 have:=m.lA 1 mc.sb (λx e y f=>by rw[take1 hi] at e;rw[bh.mp e];exact h y f);show MI G r a.toList b.toList _ _ _;rw[lK,<-take1 hi];exact this
include cp
theorem zq{x:Keyed}{b:Nat}(d:G x)(hi:b<a.size)(h:Le r x (a.toList[b]'hi)):∀y∈a.toList.drop b,Le r x y:=λy c=>by
 rcases yY hi mc.sa c with rfl|h'
 .exact h
 .exact cp.tr d (mc.ga _ (cz _)) (mc.ga y (dc c)) h h'
theorem leB{x:Keyed}{a:Nat}(d:G x)(hi:a<b.size)(h:Le r x (b.toList[a]'hi)):∀y∈b.toList.drop a,Le r x y:=λy c=>by
 rcases yY hi mc.sb c with rfl|h'
 .exact h
 .exact cp.tr d (mc.gb _ (cz _)) (mc.gb y (dc c)) h h'
theorem L5{out:Array Keyed}{j k ac x mg:Nat}{st:SortSt}{R:ForInStep ko->SortSt->Prop}(hk:kindOf st=C)(m:MJ G r a b out j k)(h1:j+1<a.size)(h2:k<b.size)
  (f:∀o c,Fin r a b o->R (.done (some o,c)) st)
  (go:∀g h i q t,MJ G r a b g h i->h+1<a.size->i<b.size->j+k<h+i->R (.done (none,g,h,i,q,t)) st/\R (.yield (none,g,h,i,q,t)) st):
  wpS M A E s (nS a b mg (none,out,j,k,ac,x)) R st:=by
 have d:j<a.size:=by omega
 have v:=mc.ga _ (cz (l:=a.toList) (n:=j) d)
 have w:=mc.gb _ (cz (l:=b.toList) (n:=k) h2)
 unfold nS
 dsimp only
 refine ay (cM h2 (ay (cM d (ay (cp.lt w v hk ?_)))))
 dsimp only
 cases e:r (b.toList[k]'h2) (a.toList[j]'d) with
 |true=>
  rw[aj rfl]
  refine ay (cM h2 ?_)
  have u:=pB mc m h2 (zq cp mc w d (cp.as w v e))
  by_cases p:k+1=b.size
  .rw[aj (by simpa using p)]
   exact aB (f _ _ (pL mc u p))
  .rw[ai (by simpa using p)]
   have:=go _ _ _ 0 (x+1) u h1 (by omega) (by omega)
   split
   .exact aB this.1
   .exact aB this.2
 |false=>
  rw[ai (by simp)]
  refine ay (cM d ?_)
  have u:=pA mc m d (leB cp mc v h2 e)
  by_cases p:j+1+1=a.size
  .rw[aj (by simpa using p)]
   exact aB (f _ _ (p_ mc u p))
  .rw[ai (by simpa using p)]
   have:=go _ _ _ (ac+1) 0 u (by omega) h2 (by omega)
   split
   .exact aB this.1
   .exact aB this.2
theorem yG{out:Array Keyed}{h j mg k k1:Nat}{st:SortSt}{R:ForInStep f_->SortSt->Prop}(m:MJ G r a b out h j)(h1:h+1<a.size)(h2:j<b.size)(i:h<a.size)(u:∀y∈b.toList.drop j,Le r (a.toList[h]'i) y)
  (f:∀o c,Fin r a b o->R (.done (some o,c)) st)
  (go:∀d e g l n p,MJ G r a b d e g->e+1<a.size->g<b.size->h+j<e+g->R (.done (none,d,e,g,l,n,p)) st/\R (.yield (none,d,e,g,l,n,p)) st):
  wpS M A E s (g3 a b out h j mg k k1) R st:=by
 unfold g3
 refine ay (cM i ?_)
 have t:=pA mc m i u
 by_cases q:h+1+1=a.size
 .rw[aj (by simpa using q)]
  exact aB (f _ _ (p_ mc t q))
 .rw[ai (by simpa using q)]
  have:=go _ _ _ mg k k1 t (by omega) h2 (by omega)
  split
  .exact aB this.1
  .exact aB this.2
theorem yF{out:Array Keyed}{u t mg k S:Nat}{st:SortSt}{R:ForInStep f_->SortSt->Prop}(hk:kindOf st=C)(m:MJ G r a b out u t)(h1:u+1<a.size)(h2:t<b.size)(v:∀y∈a.toList.drop u,Le r (b.toList[t]'h2) y)
  (f:∀o c,Fin r a b o->R (.done (some o,c)) st)
  (go:∀e h p w z B,MJ G r a b e h p->h+1<a.size->p<b.size->u+t<h+p->R (.done (none,e,h,p,w,z,B)) st/\R (.yield (none,e,h,p,w,z,B)) st):
  wpS M A E s (g2 a b out u t mg k S) R st:=by
 have q:u<a.size:=by omega
 have O:=mc.ga _ (cz (l:=a.toList) (n:=u) q)
 unfold g2
 refine ay (cM h2 ?_)
 have F:=pB mc m h2 v
 by_cases H:t+1=b.size
 .rw[aj (by simpa using H)]
  exact aB (f _ _ (pL mc F H))
 .rw[ai (by simpa using H)]
  refine ay (cM q ?_)
  have es:seg b (t+1) (b.size - (t+1))=b.toList.drop (t+1):=gx (by rw[fh,bE];exact aF _)
  refine ay (kQ cp hk O (by omega) (by omega) (by rw[es];exact λx v=>mc.gb x (dc v)) (by rw[es];exact mc.sb.sublist (gF _ _)) ?_)
  rw[es]
  intro k1 T t1 I
  rw[lR] at I
  dsimp only
  have P:=tkB mc F k1 (λx v y D=>zq cp mc (mc.gb x (dc (c6 v))) q (cp.as (mc.gb x (dc (c6 v))) O (t1 x v)) y D)
  by_cases Q:k1>0
  .rw[aj Q]
   by_cases J:t+1+k1=b.size
   .rw[aj (by simpa using J)]
    exact aB (f _ _ (pL mc P J))
   .rw[ai (by simpa using J)]
    exact yG cp mc P h1 (by omega) q (λy D=>I y D) f (λo i j g c d K L N U=>go o i j g c d K L N (by omega))
  .rw[ai Q]
   have:k1=0:=by omega
   subst this
   exact yG cp mc F h1 (by omega) q (λy D=>I y D) f (λo i j g c d K L N U=>go o i j g c d K L N (by omega))
theorem yE{out:Array Keyed}{e t mg ac L:Nat}{st:SortSt}{R:ForInStep f_->SortSt->Prop}(hk:kindOf st=C)(m:MJ G r a b out e t)(h1:e+1<a.size)(h2:t<b.size)
  (f:∀o c,Fin r a b o->R (.done (some o,c)) (bg st mg))
  (go:∀h p q u v w,MJ G r a b h p q->p+1<a.size->q<b.size->e+t<p+q->R (.done (none,h,p,q,u,v,w)) (bg st mg)/\R (.yield (none,h,p,q,u,v,w)) (bg st mg)):
  wpS M A E s (g1 a b out e t mg ac L) R st:=by
 have N:e<a.size:=by omega
 have I:=mc.gb _ (cz (l:=b.toList) (n:=t) h2)
 unfold g1
 refine ay (fE (ay (cM h2 ?_)))
 have es:seg a e (a.size - e)=a.toList.drop e:=gx (by rw[fh,bE];exact aF _)
 refine ay (kQ cp hk I (by omega) (by omega) (by rw[es];exact λx z=>mc.ga x (dc z)) (by rw[es];exact mc.sa.sublist (gF _ _)) ?_)
 rw[es]
 intro k O t1 J
 rw[lR] at J
 dsimp only
 have D:=MV mc m k (λx z y B=>leB cp mc (mc.ga x (dc (c6 z))) h2 (by have:=t1 x z;simpa using this) y B)
 have t3:∀y∈a.toList.drop (e+k),Le r (b.toList[t]'h2) y:=λy B=>cp.as I (mc.ga y (dc B)) (by have:=J y B;simpa using this)
 by_cases K:k>0
 .rw[aj K]
  by_cases F:e+k+1=a.size
  .rw[aj (by simpa using F)]
   exact aB (f _ _ (p_ mc D F))
  .rw[ai (by simpa using F)]
   by_cases H:e+k=a.size
   .rw[aj (by simpa using H)]
    exact aB (f _ _ (EK mc D H))
   .rw[ai (by simpa using H)]
    exact yF cp mc hk D (by omega) h2 t3 f (λo i j g c d P Q S T=>go o i j g c d P Q S (by omega))
 .rw[ai K]
  have:k=0:=by omega
  subst this
  exact yF cp mc hk m h1 h2 t3 f go
theorem L6{out:Array Keyed}{t u mg ac z:Nat}{st:SortSt}{R:ForInStep f_->SortSt->Prop}(hk:kindOf st=C)(m:MJ G r a b out t u)(h1:t+1<a.size)(h2:u<b.size)
  (f:∀o c g,Fin r a b o->R (.done (some o,c)) (bg st g))
  (go:∀e h k l n p g,MJ G r a b e h k->h+1<a.size->k<b.size->t+u<h+k->R (.done (none,e,h,k,l,n,p)) (bg st g)/\R (.yield (none,e,h,k,l,n,p)) (bg st g)):
  wpS M A E s (nT a b (none,out,t,u,mg,ac,z)) R st:=by
 unfold nT
 dsimp only
 split
 .exact yE cp mc hk m h1 h2 (λo c q=>f o c _ q) (λo i j g c d v w x y=>go o i j g c d _ v w x y)
 .exact yE cp mc hk m h1 h2 (λo c q=>f o c _ q) (λo i j g c d v w x y=>go o i j g c d _ v w x y)
end
def vt(a b:Array Keyed)(ny:Nat)(c1:ko):SM (ForInStep jy):=
 match c1.1 with
 |some r=>pure (.done (some r,c1.2.1,c1.2.2.1,c1.2.2.2.1,ny))
 |none=>do
  rule "list.sort.gallop"
  let c2 <-forIn [0:a.size+b.size] ((none,c1.2.1,c1.2.2.1,c1.2.2.2.1,ny+1,c1.2.2.2.2.1,c1.2.2.2.2.2):f_) λ_ c2=>nT a b c2
  match c2.1 with
  |some r=>pure (.done (some r,c2.2.1,c2.2.2.1,c2.2.2.2.1,c2.2.2.2.2.1))
  |none=>do
   modify (λs=>bg s (c2.2.2.2.2.1+1))
   pure (.yield (none,c2.2.1,c2.2.2.1,c2.2.2.2.1,c2.2.2.2.2.1+1))
theorem M0(a b:Array Keyed)(c:jy):turn a b c=(do
 let d <-forIn [0:a.size+b.size] ((none,c.2.1,c.2.2.1,c.2.2.2.1,0,0):ko) λ_ d=>nS a b c.2.2.2.2 d
 vt a b c.2.2.2.2 d):=rfl
section
variable{M:Model}{A:Around}{E:aA}{s:Shared}{C:SortKind}{G:Keyed->Prop}{r:Keyed->Keyed->Bool}{a b:Array Keyed}
variable(cp:Cp M A E s C G r)(mc:MC G r a b)
include cp mc
theorem BZ{out:Array Keyed}{n p mg u v:Nat}{st:SortSt}{R:ForInStep jy->SortSt->Prop}(hk:kindOf st=C)(m:MJ G r a b out n p)(h1:n+1<a.size)(h2:p<b.size)
  (f:∀o c g,Fin r a b o->R (.done (some o,c)) (bg st g))
  (go:∀h d e k g,MJ G r a b h d e->d+1<a.size->e<b.size->n+p<d+e->R (.yield (none,h,d,e,k)) (bg st g)):
  wpS M A E s (vt a b mg (none,out,n,p,u,v)) R st:=by
 unfold vt
 dsimp only
 refine ay (lD ?_)
 refine ay (eF (I:=λx c l=>∃g,l=bg st g/\∃o i j q u v,c=(none,o,i,j,q,u,v)/\MJ G r a b o i j/\i+1<a.size/\j<b.size/\n+p+x<=i+j) ?_ ?_ ⟨gallopOf st,rfl,out,n,p,_,_,_,rfl,m,h1,h2,by omega⟩)
 .rintro x c l _ J ⟨g,rfl,o,i,j,q,u,v,rfl,n1,n2,n3,n4⟩
  refine L6 cp mc hk n1 n2 n3 ?_ ?_
  .intro o' c g' z
   dsimp only
   exact aB (f _ _ _ z)
  .intro o' B D k F H g' t w y K
   refine⟨?_,⟨g',rfl,o',B,D,k,F,H,rfl,t,w,y,by omega⟩⟩
   dsimp only
   refine ay (fE (aB ?_))
   exact go _ _ _ _ _ t w y (by omega)
 .rintro c l ⟨g,rfl,o,i,j,q,u,v,rfl,n1,n2,n3,n4⟩
  dsimp only
  refine ay (fE (aB ?_))
  exact go _ _ _ _ _ n1 n2 n3 (by omega)
theorem M3{out:Array Keyed}{l n mg:Nat}{st:SortSt}{R:ForInStep jy->SortSt->Prop}(hk:kindOf st=C)(m:MJ G r a b out l n)(h1:l+1<a.size)(h2:n<b.size)
  (f:∀o c g,Fin r a b o->R (.done (some o,c)) (bg st g))
  (go:∀h d e q g,MJ G r a b h d e->d+1<a.size->e<b.size->l+n<d+e->R (.yield (none,h,d,e,q)) (bg st g)):
  wpS M A E s (turn a b (none,out,l,n,mg)) R st:=by
 rw[M0]
 dsimp only
 refine ay (eF (I:=λx c k=>∃g,k=bg st g/\∃o i j u v,c=(none,o,i,j,u,v)/\MJ G r a b o i j/\i+1<a.size/\j<b.size/\l+n+x<=i+j) ?_ ?_ ⟨gallopOf st,rfl,out,l,n,0,0,rfl,m,h1,h2,by omega⟩)
 .rintro x c k _ K ⟨g,rfl,o,i,j,u,v,rfl,n1,n2,n3,n4⟩
  refine L5 cp mc hk n1 n2 n3 ?_ ?_
  .intro o' c p
   exact aB (f _ _ _ p)
  .intro o' B D F H w y z L
   refine⟨?_,⟨g,rfl,o',B,D,F,H,rfl,w,y,z,by omega⟩⟩
   exact BZ cp mc hk w y z (λo c g p=>f o c g p) (λo i j m g a1 a2 t J=>go o i j m g a1 a2 t (by omega))
 .rintro c k ⟨g,rfl,o,i,j,u,v,rfl,n1,n2,n3,n4⟩
  exact BZ cp mc hk n1 n2 n3 (λo c g p=>f o c g p) (λo i j m g a1 a2 t J=>go o i j m g a1 a2 t (by omega))
theorem H_{st:SortSt}{Q:Array Keyed->SortSt->Prop}(hk:kindOf st=C)(na:0<a.size)(nb:0<b.size)(h1:∀y∈b.toList.take 1,∀x∈a.toList,Le r y x)
  (h:∀out g,Fin r a b out->Q out (bg st g)):wpS M A E s (nv a b) Q st:=by
 rw[H9];refine ay (lD ?_);refine ay (cM nb ?_);have m0:MJ G r a b #[b.toList[0]'nb] 0 1:=by
  have m:MI G r a.toList b.toList [] 0 0:=⟨by simp,Pairwise.nil,λx e=>by simp at e,λx e=>by simp at e⟩;have:=m.lA 1 mc.sb (λx e y n=>h1 x (by simpa using e) y (by simpa using n));rw[take1 nb] at this;exact this
 by_cases f:1=b.size
 .rw[aj (by simpa using f)]
  exact aB (h _ (gallopOf st) (pL mc m0 f))
 .rw[ai (by simpa using f)]
  by_cases k:0+1=a.size
  .rw[aj (by simpa using k)]
   exact aB (h _ (gallopOf st) (p_ mc m0 k))
  .rw[ai (by simpa using k)]
   refine ay (ig ?_);refine ay (eF (I:=λx c d=>∃g,d=bg st g/\∃o i j q,c=(none,o,i,j,q)/\MJ G r a b o i j/\i+1<a.size/\j<b.size/\x+1<=i+j) ?_ ?_ ⟨gallopOf st,rfl,_,0,1,_,rfl,m0,by omega,by omega,by omega⟩)
   .rintro x c d _ e ⟨g,rfl,o,i,j,q,rfl,n1,n2,n3,n4⟩
    refine M3 cp mc hk n1 n2 n3 ?_ ?_
    .intro o' c g' p
     exact aB (h _ _ p)
    .intro o' t u l g' v w z B
     exact⟨g',rfl,o',t,u,l,rfl,v,w,z,by omega⟩
   .rintro c d ⟨g,rfl,o,i,j,q,rfl,n1,n2,n3,n4⟩
    exfalso;omega
end
theorem HX(a b:Array Keyed):nu a b=(do
 rule "list.sort.merge-hi"
 let total:=a.size+b.size
 let done (out:Array Keyed) (na nb:Nat):=a.extract 0 na++b.extract 0 nb++out.reverse
 let c (out:Array Keyed) (na nb:Nat):=b.extract 0 nb++a.extract 0 na++out.reverse
 let mut na:=a.size - 1
 let mut nb:=b.size
 let mut out:Array Keyed:= #[<-elem' a na]
 if na==0 then return done out na nb
 if nb==1 then return c out na nb
 let mut minGallop:=gallopOf (<-get)
 for _ in [0:total] do
  let mut d:=0
  let mut e:=0
  for _ in [0:total] do
   let some f <-lt' (<-elem' b (nb - 1)) (<-elem' a (na - 1))|return done out na nb
   if f then
    na:=na - 1;out:=out.push (<-elem' a na);d:=d+1;e:=0
    if na==0 then return done out na nb
    if d≥minGallop then break
   else
    nb:=nb - 1;out:=out.push (<-elem' b nb);e:=e+1;d:=0
    if nb==1 then return c out na nb
    if e≥minGallop then break
  rule "list.sort.gallop"
  minGallop:=minGallop+1
  for _ in [0:total] do
   if minGallop>1 then minGallop:=minGallop - 1
   modify (λs=>bg s minGallop)
   let some at_ <-eO false (<-elem' b (nb - 1)) a 0 na (na - 1)|return done out na nb
   let k:=na - at_
   d:=k
   if k>0 then
    out:=out++(a.extract at_ na).reverse;na:=at_
    if na==0 then return done out na nb
   nb:=nb - 1;out:=out.push (<-elem' b nb)
   if nb==1 then return c out na nb
   let some at_ <-eO true (<-elem' a (na - 1)) b 0 nb (nb - 1)|return done out na nb
   let k:=nb - at_
   e:=k
   if k>0 then
    out:=out++(b.extract at_ nb).reverse;nb:=at_
    if nb==1 then return c out na nb
    if nb==0 then return done out na nb
   na:=na - 1;out:=out.push (<-elem' a na)
   if na==0 then return done out na nb
   if d<7&&e<7 then break
  minGallop:=minGallop+1
  modify (λs=>bg s minGallop)
 unsupported "internal:list.sort.merge-bound"):=rfl
abbrev gQ(a b out:Array Keyed)(na nb:Nat):Array Keyed:=a.extract 0 na++b.extract 0 nb++out.reverse
abbrev kM(a b out:Array Keyed)(na nb:Nat):Array Keyed:=b.extract 0 nb++a.extract 0 na++out.reverse
abbrev mu:=Option (Array Keyed)×Nat×Nat×Array Keyed×Nat×Nat
abbrev gI:=Option (Array Keyed)×Nat×Nat×Array Keyed×Nat×Nat×Nat
abbrev ki:=Option (Array Keyed)×Nat×Nat×Array Keyed×Nat
def pU(a b:Array Keyed)(mg:Nat)(c:mu):SM (ForInStep mu):=do
 let y <-elem' b (c.2.2.1 - 1)
 let x <-elem' a (c.2.1 - 1)
 match <-lt' y x with
 |some w=>
  if w then
   let e <-elem' a (c.2.1 - 1)
   if c.2.1 - 1==0 then pure (.done (some (gQ a b (c.2.2.2.1.push e) (c.2.1 - 1) c.2.2.1),c.2.1 - 1,c.2.2.1,c.2.2.2.1.push e,c.2.2.2.2.1+1,0))
   else if c.2.2.2.2.1+1≥mg then pure (.done (none,c.2.1 - 1,c.2.2.1,c.2.2.2.1.push e,c.2.2.2.2.1+1,0))
   else pure (.yield (none,c.2.1 - 1,c.2.2.1,c.2.2.2.1.push e,c.2.2.2.2.1+1,0))
  else
   let e <-elem' b (c.2.2.1 - 1)
   if c.2.2.1 - 1==1 then pure (.done (some (kM a b (c.2.2.2.1.push e) c.2.1 (c.2.2.1 - 1)),c.2.1,c.2.2.1 - 1,c.2.2.2.1.push e,0,c.2.2.2.2.2+1))
   else if c.2.2.2.2.2+1≥mg then pure (.done (none,c.2.1,c.2.2.1 - 1,c.2.2.2.1.push e,0,c.2.2.2.2.2+1))
   else pure (.yield (none,c.2.1,c.2.2.1 - 1,c.2.2.2.1.push e,0,c.2.2.2.2.2+1))
 |_=>pure (.done (some (gQ a b c.2.2.2.1 c.2.1 c.2.2.1),c.2.1,c.2.2.1,c.2.2.2.1,c.2.2.2.2.1,c.2.2.2.2.2))
def h3(a b out:Array Keyed)(na nb mg k k1:Nat):SM (ForInStep gI):=do
 let e <-elem' a (na - 1)
 if na - 1==0 then pure (.done (some (gQ a b (out.push e) (na - 1) nb),na - 1,nb,out.push e,mg,k,k1))
 else if decide (k<7)&&decide (k1<7) then pure (.done (none,na - 1,nb,out.push e,mg,k,k1))
 else pure (.yield (none,na - 1,nb,out.push e,mg,k,k1))
def h2(a b out:Array Keyed)(na nb mg k bc:Nat):SM (ForInStep gI):=do
 let e <-elem' b (nb - 1)
 if nb - 1==1 then pure (.done (some (kM a b (out.push e) na (nb - 1)),na,nb - 1,out.push e,mg,k,bc))
 else do
  let x <-elem' a (na - 1)
  match <-eO true x b 0 (nb - 1) (nb - 1 - 1) with
  |some at_=>
   if nb - 1 - at_>0 then
    if at_==1 then pure (.done (some (kM a b (out.push e++(b.extract at_ (nb - 1)).reverse) na at_),na,at_,out.push e++(b.extract at_ (nb - 1)).reverse,mg,k,nb - 1 - at_))
    else if at_==0 then pure (.done (some (gQ a b (out.push e++(b.extract at_ (nb - 1)).reverse) na at_),na,at_,out.push e++(b.extract at_ (nb - 1)).reverse,mg,k,nb - 1 - at_))
    else h3 a b (out.push e++(b.extract at_ (nb - 1)).reverse) na at_ mg k (nb - 1 - at_)
   else h3 a b (out.push e) na (nb - 1) mg k (nb - 1 - at_)
  |_=>pure (.done (some (gQ a b (out.push e) na (nb - 1)),na,nb - 1,out.push e,mg,k,bc))
def h1(a b out:Array Keyed)(na nb mg ac bc:Nat):SM (ForInStep gI):=do
 modify (λs=>bg s mg)
 let y <-elem' b (nb - 1)
 match <-eO false y a 0 na (na - 1) with
 |some at_=>
  if na - at_>0 then
   if at_==0 then pure (.done (some (gQ a b (out++(a.extract at_ na).reverse) at_ nb),at_,nb,out++(a.extract at_ na).reverse,mg,na - at_,bc))
   else h2 a b (out++(a.extract at_ na).reverse) at_ nb mg (na - at_) bc
  else h2 a b out na nb mg (na - at_) bc
 |_=>pure (.done (some (gQ a b out na nb),na,nb,out,mg,ac,bc))
def pV(a b:Array Keyed)(c:gI):SM (ForInStep gI):=
 if c.2.2.2.2.1>1 then h1 a b c.2.2.2.1 c.2.1 c.2.2.1 (c.2.2.2.2.1 - 1) c.2.2.2.2.2.1 c.2.2.2.2.2.2 else h1 a b c.2.2.2.1 c.2.1 c.2.2.1 c.2.2.2.2.1 c.2.2.2.2.2.1 c.2.2.2.2.2.2
def pW(a b:Array Keyed)(ny:Nat)(c1:mu):SM (ForInStep ki):=
 match c1.1 with
 |some r=>pure (.done (some r,c1.2.1,c1.2.2.1,c1.2.2.2.1,ny))
 |none=>do
  rule "list.sort.gallop"
  let c2 <-forIn [0:a.size+b.size] ((none,c1.2.1,c1.2.2.1,c1.2.2.2.1,ny+1,c1.2.2.2.2.1,c1.2.2.2.2.2):gI) λ_ c2=>pV a b c2
  match c2.1 with
  |some r=>pure (.done (some r,c2.2.1,c2.2.2.1,c2.2.2.2.1,c2.2.2.2.2.1))
  |none=>do
   modify (λs=>bg s (c2.2.2.2.2.1+1))
   pure (.yield (none,c2.2.1,c2.2.2.1,c2.2.2.2.1,c2.2.2.2.2.1+1))
def hturn(a b:Array Keyed)(c:ki):SM (ForInStep ki):=do
 let c1 <-forIn [0:a.size+b.size] ((none,c.2.1,c.2.2.1,c.2.2.2.1,0,0):mu) λ_ c1=>pU a b c.2.2.2.2 c1
 pW a b c.2.2.2.2 c1
theorem HY(a b:Array Keyed):nu a b=(do
 rule "list.sort.merge-hi"
 let e <-elem' a (a.size - 1)
 if a.size - 1==0 then pure (gQ a b #[e] (a.size - 1) b.size)
 else if b.size==1 then pure (kM a b #[e] (a.size - 1) b.size)
 else do
  let st <-get
  let c <-forIn [0:a.size+b.size] ((none,a.size - 1,b.size,#[e],gallopOf st):ki) λ_ c=>hturn a b c
  match c.1 with
  |some r=>pure r
  |none=>unsupported "internal:list.sort.merge-bound"):=by
 rw[HX]
 dsimp only[hturn,pW,pU,pV,h1,h2,h3,gQ,kM]
 congr 1;funext _;congr 1;funext e;congr 1;congr 1;congr 1;funext st;congr 1;congr 1;funext x c;congr 1;funext d;congr 1
 .cases d.fst with
  |some r=>rfl
  |none=>
   dsimp only
   congr 1;funext _;congr 1
   funext x
   cases x.fst with
   |some r=>rfl
   |none=>rfl
 .funext c
  cases c.fst with
  |some r=>rfl
  |none=>rfl
section
variable{G:Keyed->Prop}{r:Keyed->Keyed->Bool}
structure MH(r:Keyed->Keyed->Bool)(a b tl:List Keyed)(na nb:Nat):Prop where
 pm:tl.Perm (a.drop na++b.drop nb)
 so:tl.Pairwise (Le r)
 la:∀x∈a.take na,∀y∈tl,Le r x y
 lb:∀x∈b.take nb,∀y∈tl,Le r x y
abbrev mid(a:List Keyed)(at_ na:Nat):List Keyed:=(a.drop at_).take (na - at_)
theorem vm(a:List Keyed){at_ na:Nat}(h:at_<=na):a.take na=a.take at_++mid a at_ na:=by
 have:=take_add (l:=a) (i:=at_) (j:=na - at_);rw[vQ h] at this;exact this
theorem zK(a:List Keyed){at_ na:Nat}(h:at_<=na):a.drop at_=mid a at_ na++a.drop na:=by
 have:=mY a at_ (na - at_);rw[vQ h] at this;exact this
theorem MH.nW{a b tl:List Keyed}{na nb at_:Nat}(m:MH r a b tl na nb)(h:at_<=na)(sa:a.Pairwise (Le r))(d:∀x∈b.take nb,∀y∈mid a at_ na,Le r x y):MH r a b (mid a at_ na++tl) at_ nb:=by
 have e:=vm a h;have st:(a.take na).Pairwise (Le r):=sa.sublist (fX _ _);rw[e,cF] at st;refine⟨?_,?_,?_,?_⟩
 .rw[zK a h,bu]
  exact gD _ m.pm
 .exact cF.mpr ⟨st.2.1,m.so,λx c y hy=>m.la x (by rw[e];exact ff _ c) y hy⟩
 .intro x c y hy
  rcases aU.mp hy with hy|hy
  .exact st.2.2 x c y hy
  .exact m.la x (by rw[e];exact jh _ c) y hy
 .intro x c y hy
  rcases aU.mp hy with hy|hy
  .exact d x c y hy
  .exact m.lb x c y hy
theorem MH.lA{a b tl:List Keyed}{na nb at_:Nat}(m:MH r a b tl na nb)(h:at_<=nb)(sb:b.Pairwise (Le r))(d:∀x∈a.take na,∀y∈mid b at_ nb,Le r x y):MH r a b (mid b at_ nb++tl) na at_:=by
 have e:=vm b h;have st:(b.take nb).Pairwise (Le r):=sb.sublist (fX _ _);rw[e,cF] at st;refine⟨?_,?_,?_,?_⟩
 .rw[zK b h]
  refine(gD _ m.pm).trans ?_;rw[<-bu,<-bu];exact ir _ g_
 .exact cF.mpr ⟨st.2.1,m.so,λx c y hy=>m.lb x (by rw[e];exact ff _ c) y hy⟩
 .intro x c y hy
  rcases aU.mp hy with hy|hy
  .exact d x c y hy
  .exact m.la x c y hy
 .intro x c y hy
  rcases aU.mp hy with hy|hy
  .exact st.2.2 x c y hy
  .exact m.lb x (by rw[e];exact jh _ c) y hy
theorem MH.done{a b tl:List Keyed}{na nb:Nat}(m:MH r a b tl na nb)(sa:a.Pairwise (Le r))(sb:b.Pairwise (Le r))(h:na=0\/nb=0):Mg r a b (a.take na++b.take nb++tl):=by
 refine⟨?_,?_⟩
 .have e:(a++b).Perm ((a.take na++a.drop na)++(b.take nb++b.drop nb)):=by rw[dF,dF]
  refine Perm.trans ?_ e.symm;rw[bu,bu];refine gD _ ?_;refine(gD _ m.pm).trans ?_;rw[<-bu,<-bu];exact ir _ g_
 .rw[bu]
  refine cF.mpr ⟨sa.sublist (fX _ _),cF.mpr ⟨sb.sublist (fX _ _),m.so,λx c y hy=>m.lb x c y hy⟩,?_⟩;intro x c y hy;rcases aU.mp hy with hy|hy
  .rcases h with rfl|rfl
   .simp at c
   .simp at hy
  .exact m.la x c y hy
theorem MH.F8{a b tl:List Keyed}{na nb:Nat}(m:MH r a b tl na nb)(sa:a.Pairwise (Le r))(sb:b.Pairwise (Le r))(h:∀x∈b.take nb,∀y∈a.take na,Le r x y):Mg r a b (b.take nb++a.take na++tl):=by
 refine⟨?_,?_⟩
 .have e:(a++b).Perm ((a.take na++a.drop na)++(b.take nb++b.drop nb)):=by rw[dF,dF]
  refine Perm.trans ?_ e.symm;refine(Perm.append g_ m.pm).trans ?_;rw[bu,bu];refine gD _ ?_;rw[<-bu,<-bu];exact ir _ g_
 .rw[bu]
  refine cF.mpr ⟨sb.sublist (fX _ _),cF.mpr ⟨sa.sublist (fX _ _),m.so,λx c y hy=>m.la x c y hy⟩,?_⟩;intro x c y hy;rcases aU.mp hy with hy|hy
  .exact h x c y hy
  .exact m.lb x c y hy
end
section
variable{M:Model}{A:Around}{E:aA}{s:Shared}{C:SortKind}{G:Keyed->Prop}{r:Keyed->Keyed->Bool}{a b:Array Keyed}
structure MD(G:Keyed->Prop)(r:Keyed->Keyed->Bool)(a b:Array Keyed):Prop where
 ga:∀x∈a.toList,G x
 gb:∀x∈b.toList,G x
 sa:a.toList.Pairwise (Le r)
 sb:b.toList.Pairwise (Le r)
 fb:∀x∈b.toList.take 1,∀y∈a.toList,Le r x y
abbrev MG(r:Keyed->Keyed->Bool)(a b o:Array Keyed)(na nb:Nat):Prop:=MH r a.toList b.toList o.toList.reverse na nb
theorem pS(a:Array Keyed)(n:Nat):(a.extract 0 n).toList=a.toList.take n:=by
 rw[lJ,rR,Nat.sub_zero,lT]
theorem tH(a:Array Keyed)(i n:Nat):(a.extract i n).toList=mid a.toList i n:=by
 rw[lJ,rR]
theorem nA{a:Array Keyed}{n:Nat}(h:n<a.size):mid a.toList n (n+1)=[a.toList[n]'h]:=by
 unfold mid;rw[oF];exact take1 h
theorem zj{a:Array Keyed}{n:Nat}(h:n<a.size)(sa:a.toList.Pairwise (Le r)){x:Keyed}(hx:x∈a.toList.take (n+1)):x=a.toList[n]'h\/Le r x (a.toList[n]'h):=by
 have e:=vm a.toList (at_:=n) (na:=n+1) (by omega);rw[nA h] at e;have b:(a.toList.take (n+1)).Pairwise (Le r):=sa.sublist (fX _ _);rw[e] at hx b;rcases aU.mp hx with hx|hx
 .exact .inr ((cF.mp b).2.2 x hx _ (bh.mpr rfl))
 .exact .inl (bh.mp hx)
variable(cp:Cp M A E s C G r)(md:MD G r a b)
include md
theorem mX{out:Array Keyed}{na nb:Nat}(m:MG r a b out na nb)(h:na=0\/nb=0):Fin r a b (gQ a b out na nb):=by
 show Mg r a.toList b.toList _;rw[eE,eE,pS,pS,rK];exact m.done md.sa md.sb h
theorem pT{out:Array Keyed}{na nb:Nat}(m:MG r a b out na nb)(h:nb=1):Fin r a b (kM a b out na nb):=by
 show Mg r a.toList b.toList _;rw[eE,eE,pS,pS,rK];exact m.F8 md.sa md.sb (λx c y d=>md.fb x (by rw[<-h];exact c) y (c6 d))
theorem GH{out:Array Keyed}{na nb at_:Nat}(m:MG r a b out na nb)(h:at_<=na)(c:∀x∈b.toList.take nb,∀y∈mid a.toList at_ na,Le r x y):MG r a b (out++(a.extract at_ na).reverse) at_ nb:=by
 show MH r a.toList b.toList _ _ _;rw[eE,rK,rJ,List.reverse_reverse,tH];exact m.nW h md.sa c
theorem GI{out:Array Keyed}{na nb at_:Nat}(m:MG r a b out na nb)(h:at_<=nb)(c:∀x∈a.toList.take na,∀y∈mid b.toList at_ nb,Le r x y):MG r a b (out++(b.extract at_ nb).reverse) na at_:=by
 show MH r a.toList b.toList _ _ _;rw[eE,rK,rJ,List.reverse_reverse,tH];exact m.lA h md.sb c
theorem tU{out:Array Keyed}{na nb:Nat}(hi:na<a.size)(m:MG r a b out (na+1) nb)(h:∀x∈b.toList.take nb,Le r x (a.toList[na]'hi)):MG r a b (out.push (a.toList[na]'hi)) na nb:=by
 have:=m.nW (at_:=na) (by omega) md.sa (λx d y c=>by rw[nA hi] at c;rw[bh.mp c];exact h x d);rw[nA hi] at this;show MH r a.toList b.toList _ _ _;rw[lK,rJ];exact this
theorem za{out:Array Keyed}{na nb:Nat}(hi:nb<b.size)(m:MG r a b out na (nb+1))(h:∀x∈a.toList.take na,Le r x (b.toList[nb]'hi)):MG r a b (out.push (b.toList[nb]'hi)) na nb:=by
 have:=m.lA (at_:=nb) (by omega) md.sb (λx d y c=>by rw[nA hi] at c;rw[bh.mp c];exact h x d);rw[nA hi] at this;show MH r a.toList b.toList _ _ _;rw[lK,rJ];exact this
include cp
theorem y9{y:Keyed}{n:Nat}(c:G y)(hi:n<a.size)(h:Le r (a.toList[n]'hi) y):∀x∈a.toList.take (n+1),Le r x y:=λx b=>by
 rcases zj hi md.sa b with rfl|h'
 .exact h
 .exact cp.tr (md.ga x (c6 b)) (md.ga _ (cz _)) c h' h
theorem y_{y:Keyed}{n:Nat}(c:G y)(hi:n<b.size)(h:Le r (b.toList[n]'hi) y):∀x∈b.toList.take (n+1),Le r x y:=λx a=>by
 rcases zj hi md.sb a with rfl|h'
 .exact h
 .exact cp.tr (md.gb x (c6 a)) (md.gb _ (cz _)) c h' h
theorem GF{out:Array Keyed}{na nb ac w mg:Nat}{st:SortSt}{R:ForInStep mu->SortSt->Prop}(hk:kindOf st=C)(m:MG r a b out (na+1) (nb+2))(x:na+1<=a.size)(y:nb+2<=b.size)
  (f:∀o c,Fin r a b o->R (.done (some o,c)) st)
  (go:∀h i j p q,MG r a b h (i+1) (j+2)->i+1<=a.size->j+2<=b.size->i+j<na+nb->R (.done (none,i+1,j+2,h,p,q)) st/\R (.yield (none,i+1,j+2,h,p,q)) st):
  wpS M A E s (pU a b mg (none,na+1,nb+2,out,ac,w)) R st:=by
 have d:na<a.size:=by omega
 have g:nb+1<b.size:=by omega
 have u:=md.ga _ (cz (l:=a.toList) (n:=na) d)
 have v:=md.gb _ (cz (l:=b.toList) (n:=nb+1) g)
 unfold pU
 dsimp only[add_sub_cancel,Nat.add_one_sub_one]
 refine ay (cM g (ay (cM d (ay (cp.lt v u hk ?_)))))
 dsimp only
 cases e:r (b.toList[nb+1]'g) (a.toList[na]'d) with
 |true=>
  rw[aj rfl]
  refine ay (cM d ?_)
  have t:=tU md d m (y_ cp md u g (cp.as v u e))
  by_cases k:na=0
  .rw[aj (by simpa using k)]
   exact aB (f _ _ (mX md t (.inl k)))
  .rw[ai (by simpa using k)]
   obtain⟨n,rfl⟩:=oG k
   have:=go _ _ _ (ac+1) 0 t (by omega) y (by omega)
   split
   .exact aB this.1
   .exact aB this.2
 |false=>
  rw[ai (by simp)]
  refine ay (cM g ?_)
  have t:=za md g m (y9 cp md v d e)
  by_cases k:nb=0
  .subst k
   rw[aj (by simp)]
   exact aB (f _ _ (pT md t rfl))
  .rw[ai (by simpa using k)]
   obtain⟨n,rfl⟩:=oG k
   have:=go _ _ _ 0 (w+1) t x (by omega) (by omega)
   split
   .exact aB this.1
   .exact aB this.2
end
section
variable{M:Model}{A:Around}{E:aA}{s:Shared}{C:SortKind}{G:Keyed->Prop}{r:Keyed->Keyed->Bool}{a b:Array Keyed}
variable(cp:Cp M A E s C G r)(md:MD G r a b)
include cp md
theorem yT{out:Array Keyed}{na nb mg k k1:Nat}{st:SortSt}{R:ForInStep gI->SortSt->Prop}(m:MG r a b out (na+1) (nb+2))(h:na<a.size)(t:nb+2<=b.size)(u:∀y∈b.toList.take (nb+2),Le r y (a.toList[na]'h))
  (f:∀o c,Fin r a b o->R (.done (some o,c)) st)
  (go:∀d e g i j l,MG r a b d (e+1) (g+2)->e+1<=a.size->g+2<=b.size->e+g<na+nb->R (.done (none,e+1,g+2,d,i,j,l)) st/\R (.yield (none,e+1,g+2,d,i,j,l)) st):
  wpS M A E s (h3 a b out (na+1) (nb+2) mg k k1) R st:=by
 unfold h3
 dsimp only[add_sub_cancel,Nat.add_one_sub_one]
 refine ay (cM h ?_)
 have q:=tU md h m u
 by_cases p:na=0
 .rw[aj (by simpa using p)]
  exact aB (f _ _ (mX md q (.inl p)))
 .rw[ai (by simpa using p)]
  obtain⟨n,rfl⟩:=oG p
  have:=go _ _ _ mg k k1 q (by omega) t (by omega)
  split
  .exact aB this.1
  .exact aB this.2
theorem yS{out:Array Keyed}{na nb mg k T:Nat}{st:SortSt}{R:ForInStep gI->SortSt->Prop}(hk:kindOf st=C)(m:MG r a b out (na+1) (nb+2))(h:na<a.size)(u:nb+1<b.size)(v:∀x∈a.toList.take (na+1),Le r x (b.toList[nb+1]'u))
  (f:∀o c,Fin r a b o->R (.done (some o,c)) st)
  (go:∀p q t w z B,MG r a b p (q+1) (t+2)->q+1<=a.size->t+2<=b.size->q+t<na+nb->R (.done (none,q+1,t+2,p,w,z,B)) st/\R (.yield (none,q+1,t+2,p,w,z,B)) st):
  wpS M A E s (h2 a b out (na+1) (nb+2) mg k T) R st:=by
 have P:=md.ga _ (cz (l:=a.toList) (n:=na) h)
 unfold h2
 dsimp only[add_sub_cancel,Nat.add_one_sub_one]
 refine ay (cM u ?_)
 have G:=za md u m v
 by_cases H:nb=0
 .subst H
  rw[aj (by simp)]
  exact aB (f _ _ (pT md G rfl))
 .rw[ai (by simpa using H)]
  refine ay (cM h ?_)
  have es:seg b 0 (nb+1)=b.toList.take (nb+1):=by unfold seg;rw[lT]
  refine ay (kQ cp hk P (by omega) (by omega) (by rw[es];exact λx v=>md.gb x (c6 v)) (by rw[es];exact md.sb.sublist (fX _ _)) ?_)
  rw[es]
  intro at_ D t1 Q
  rw[take_take,ji D] at t1
  rw[drop_take] at Q
  dsimp only
  have t3:∀y∈b.toList.take at_,Le r y (a.toList[na]'h):=λy F=>cp.as (md.gb y (c6 F)) P (t1 y F)
  by_cases S:nb+1 - at_>0
  .rw[aj S]
   have I:=GI md G D (λx v y F=>y9 cp md (md.gb y (dc (c6 F))) h (Q y F) x v)
   by_cases J:at_=1
   .rw[aj (by simpa using J)]
    exact aB (f _ _ (pT md I J))
   .rw[ai (by simpa using J)]
    by_cases K:at_=0
    .rw[aj (by simpa using K)]
     exact aB (f _ _ (mX md I (.inr K)))
    .rw[ai (by simpa using K)]
     obtain⟨n,rfl⟩:∃n,at_=n+2:=⟨at_ - 2,by omega⟩
     exact yT cp md I h (by omega) t3 f (λo i j g c d L N O U=>go o i j g c d L N O (by omega))
  .rw[ai S]
   have e:at_=nb+1:=by omega
   subst e
   obtain⟨n,rfl⟩:=oG H
   exact yT cp md G h (by omega) t3 f (λo i j g c d L N O U=>go o i j g c d L N O (by omega))
theorem yR{out:Array Keyed}{na nb mg ac K:Nat}{st:SortSt}{R:ForInStep gI->SortSt->Prop}(hk:kindOf st=C)(m:MG r a b out (na+1) (nb+2))(P:na+1<=a.size)(Q:nb+2<=b.size)
  (f:∀o c,Fin r a b o->R (.done (some o,c)) (bg st mg))
  (go:∀k p q t u v,MG r a b k (p+1) (q+2)->p+1<=a.size->q+2<=b.size->p+q<na+nb->R (.done (none,p+1,q+2,k,t,u,v)) (bg st mg)/\R (.yield (none,p+1,q+2,k,t,u,v)) (bg st mg)):
  wpS M A E s (h1 a b out (na+1) (nb+2) mg ac K) R st:=by
 have D:na<a.size:=by omega
 have h:nb+1<b.size:=by omega
 have G:=md.gb _ (cz (l:=b.toList) (n:=nb+1) h)
 unfold h1
 dsimp only[add_sub_cancel,Nat.add_one_sub_one]
 refine ay (fE (ay (cM h ?_)))
 have es:seg a 0 (na+1)=a.toList.take (na+1):=by unfold seg;rw[lT]
 refine ay (kQ cp hk G (by omega) (by omega) (by rw[es];exact λx w=>md.ga x (c6 w)) (by rw[es];exact md.sa.sublist (fX _ _)) ?_)
 rw[es]
 intro at_ z t1 H
 rw[take_take,ji z] at t1
 rw[drop_take] at H
 dsimp only
 have t3:∀x∈a.toList.take at_,Le r x (b.toList[nb+1]'h):=λx w=>by have:=t1 x w;simpa using this
 by_cases I:na+1 - at_>0
 .rw[aj I]
  have J:=GH md m z (λx w y F=>y_ cp md (md.ga y (dc (c6 F))) h (cp.as G (md.ga y (dc (c6 F))) (by have:=H y F;simpa using this)) x w)
  by_cases B:at_=0
  .rw[aj (by simpa using B)]
   exact aB (f _ _ (mX md J (.inl B)))
  .rw[ai (by simpa using B)]
   obtain⟨n,rfl⟩:=oG B
   exact yS cp md hk J (by omega) h t3 f (λo i j g c d L N O S=>go o i j g c d L N O (by omega))
 .rw[ai I]
  have e:at_=na+1:=by omega
  subst e
  exact yS cp md hk m D h t3 f go
theorem GG{out:Array Keyed}{na nb mg ac z:Nat}{st:SortSt}{R:ForInStep gI->SortSt->Prop}(hk:kindOf st=C)(m:MG r a b out (na+1) (nb+2))(x:na+1<=a.size)(y:nb+2<=b.size)
  (f:∀o c g,Fin r a b o->R (.done (some o,c)) (bg st g))
  (go:∀e h k l n p g,MG r a b e (h+1) (k+2)->h+1<=a.size->k+2<=b.size->h+k<na+nb->R (.done (none,h+1,k+2,e,l,n,p)) (bg st g)/\R (.yield (none,h+1,k+2,e,l,n,p)) (bg st g)):
  wpS M A E s (pV a b (none,na+1,nb+2,out,mg,ac,z)) R st:=by
 unfold pV
 dsimp only
 split
 .exact yR cp md hk m x y (λo c q=>f o c _ q) (λo i j g c d t u v w=>go o i j g c d _ t u v w)
 .exact yR cp md hk m x y (λo c q=>f o c _ q) (λo i j g c d t u v w=>go o i j g c d _ t u v w)
theorem zc{out:Array Keyed}{na nb mg u v:Nat}{st:SortSt}{R:ForInStep ki->SortSt->Prop}(hk:kindOf st=C)(m:MG r a b out (na+1) (nb+2))(w:na+1<=a.size)(y:nb+2<=b.size)
  (f:∀o c g,Fin r a b o->R (.done (some o,c)) (bg st g))
  (go:∀h d e k g,MG r a b h (d+1) (e+2)->d+1<=a.size->e+2<=b.size->d+e<na+nb->R (.yield (none,d+1,e+2,h,k)) (bg st g)):
  wpS M A E s (pW a b mg (none,na+1,nb+2,out,u,v)) R st:=by
 unfold pW
 dsimp only
 refine ay (lD ?_)
 refine ay (eF (I:=λx c l=>∃g,l=bg st g/\∃o i j q u v,c=(none,i+1,j+2,o,q,u,v)/\MG r a b o (i+1) (j+2)/\i+1<=a.size/\j+2<=b.size/\i+j+x<=na+nb) ?_ ?_ ⟨gallopOf st,rfl,out,na,nb,_,_,_,rfl,m,w,y,by omega⟩)
 .rintro x c l _ H ⟨g,rfl,o,i,j,q,u,v,rfl,n1,n2,n3,n4⟩
  refine GG cp md hk n1 n2 n3 ?_ ?_
  .intro o' c g' z
   dsimp only
   exact aB (f _ _ _ z)
  .intro o' B D k F G g' n p t J
   refine⟨?_,⟨g',rfl,o',B,D,k,F,G,rfl,n,p,t,by omega⟩⟩
   dsimp only
   refine ay (fE (aB ?_))
   exact go _ _ _ _ _ n p t (by omega)
 .rintro c l ⟨g,rfl,o,i,j,q,u,v,rfl,n1,n2,n3,n4⟩
  dsimp only
  refine ay (fE (aB ?_))
  exact go _ _ _ _ _ n1 n2 n3 (by omega)
theorem GJ{out:Array Keyed}{na nb mg:Nat}{st:SortSt}{R:ForInStep ki->SortSt->Prop}(hk:kindOf st=C)(m:MG r a b out (na+1) (nb+2))(y:na+1<=a.size)(z:nb+2<=b.size)
  (f:∀o c g,Fin r a b o->R (.done (some o,c)) (bg st g))
  (go:∀h d e n g,MG r a b h (d+1) (e+2)->d+1<=a.size->e+2<=b.size->d+e<na+nb->R (.yield (none,d+1,e+2,h,n)) (bg st g)):
  wpS M A E s (hturn a b (none,na+1,nb+2,out,mg)) R st:=by
 unfold hturn
 dsimp only
 refine ay (eF (I:=λx c k=>∃g,k=bg st g/\∃o i j u v,c=(none,i+1,j+2,o,u,v)/\MG r a b o (i+1) (j+2)/\i+1<=a.size/\j+2<=b.size/\i+j+x<=na+nb) ?_ ?_ ⟨gallopOf st,rfl,out,na,nb,0,0,rfl,m,y,z,by omega⟩)
 .rintro x c k _ J ⟨g,rfl,o,i,j,u,v,rfl,n1,n2,n3,n4⟩
  refine GF cp md hk n1 n2 n3 ?_ ?_
  .intro o' c l
   exact aB (f _ _ _ l)
  .intro o' B D F G q t w K
   refine⟨?_,⟨g,rfl,o',B,D,F,G,rfl,q,t,w,by omega⟩⟩
   exact zc cp md hk q t w (λo c g l=>f o c g l) (λo i j m g a1 a2 p H=>go o i j m g a1 a2 p (by omega))
 .rintro c k ⟨g,rfl,o,i,j,u,v,rfl,n1,n2,n3,n4⟩
  exact zc cp md hk n1 n2 n3 (λo c g l=>f o c g l) (λo i j m g a1 a2 p H=>go o i j m g a1 a2 p (by omega))
theorem HZ{st:SortSt}{Q:Array Keyed->SortSt->Prop}(hk:kindOf st=C)(na:0<a.size)(nb:0<b.size)(w:∀x∈b.toList,∀y∈a.toList.drop (a.size - 1),Le r x y)
  (h:∀out g,Fin r a b out->Q out (bg st g)):wpS M A E s (nu a b) Q st:=by
 rw[HY];refine ay (lD ?_);have hi:a.size - 1<a.size:=by omega
 refine ay (cM hi ?_);have m0:MG r a b #[a.toList[a.size - 1]'hi] (a.size - 1) b.size:=by
  have m:MG r a b #[] (a.size - 1+1) b.size:=⟨by rw[jq (by rw[bE];omega),jq (by rw[bE];omega)];exact Perm.nil,Pairwise.nil,λx e y f=>by simp at f,λx e y f=>by simp at f⟩;exact tU md hi m (λx e=>w x (c6 e) _ (HU hi))
 by_cases l:a.size - 1=0
 .rw[aj (by simpa using l)]
  exact aB (h _ (gallopOf st) (mX md m0 (.inl l)))
 .rw[ai (by simpa using l)]
  by_cases p:b.size=1
  .rw[aj (by simpa using p)]
   exact aB (h _ (gallopOf st) (pT md m0 p))
  .rw[ai (by simpa using p)]
   refine ay (ig ?_);obtain⟨n,u⟩:∃n,a.size - 1=n+1:=⟨a.size - 2,by omega⟩;obtain⟨k,v⟩:∃k,b.size=k+2:=⟨b.size - 2,by omega⟩;refine ay (eF (I:=λx c d=>∃g,d=bg st g/\∃o i j q,c=(none,i+1,j+2,o,q)/\MG r a b o (i+1) (j+2)/\i+1<=a.size/\j+2<=b.size/\i+j+x<=n+k) ?_ ?_ ⟨gallopOf st,rfl,#[a.toList[a.size - 1]'hi],n,k,gallopOf st,by rw[<-u,<-v],by rw[<-u,<-v];exact m0,by omega,by omega,by omega⟩)
   .rintro x c d _ e ⟨g,rfl,o,i,j,q,rfl,n1,n2,n3,n4⟩
    refine GJ cp md hk n1 n2 n3 ?_ ?_
    .intro o' c g' z
     exact aB (h _ _ z)
    .intro o' B D t g' F G H J
     exact⟨g',rfl,o',B,D,t,rfl,F,G,H,by omega⟩
   .rintro c d ⟨g,rfl,o,i,j,q,rfl,n1,n2,n3,n4⟩
    exfalso;omega
end
def mergeAt':Nat->SM Bool:=sortPriv%PySem.Builtin.mergeAt
abbrev u7(st:SortSt)(p:Array (Nat×Nat×Nat)):SortSt:=SortSt.mk' (kindOf st) (arrOf st) p (gallopOf st) (failedOf st)
abbrev wr(arr:Array Keyed)(base:Nat)(out:Array Keyed):Array Keyed:=out.toList.zipIdx.foldl (λa (p,j)=>a.setIfInBounds (base+j) p) arr
theorem HV(i:Nat):mergeAt' i=(do
 let s <-get
 let (some (sa,na,power),some (sb,nb,_)):=((pendingOf s)[i]?,(pendingOf s)[i+1]?)|unsupported "internal:list.sort.pending"
 set (u7 s (((pendingOf s).setIfInBounds i (sa,na+nb,power)).eraseIdxIfInBounds (i+1)))
 let some k <-eO false (<-elem' (arrOf s) sb) (arrOf s) sa na 0|return false
 let (sa,na):=(sa+k,na - k)
 if na==0 then return true
 let some nb <-eO true (<-elem' (arrOf s) (sa+na - 1)) (arrOf s) sb nb (nb - 1)|return false
 if nb==0 then return true
 let x:=(arrOf s).extract sa sb
 let y:=(arrOf s).extract sb (sb+nb)
 let merged <-if na<=nb then nv x y else nu x y
 modify λs=>setArr s (wr (arrOf s) sa merged)
 return (failedOf (<-get)).isNone):=rfl
def zI(arr:Array Keyed)(sa na sb nb:Nat):SM Bool:=do
 let merged <-if na<=nb then nv (arr.extract sa sb) (arr.extract sb (sb+nb)) else nu (arr.extract sa sb) (arr.extract sb (sb+nb))
 modify λs=>setArr s (wr (arrOf s) sa merged)
 return (failedOf (<-get)).isNone
def uu(arr:Array Keyed)(sa na sb nb:Nat):SM Bool:=do
 let y <-elem' arr sb
 match <-eO false y arr sa na 0 with
 |some k=>
  if na - k==0 then pure true
  else do
   let x <-elem' arr (sa+k+(na - k) - 1)
   match <-eO true x arr sb nb (nb - 1) with
   |some zN=>if zN==0 then pure true else zI arr (sa+k) (na - k) sb zN
   |_=>pure false
 |_=>pure false
theorem HW{M:Model}{A:Around}{E:aA}{s:Shared}{i sa na b sb nb a:Nat}{st:SortSt}{Q:Bool->SortSt->Prop}(c:(pendingOf st)[i]?=some (sa,na,b))(d:(pendingOf st)[i+1]?=some (sb,nb,a))
  (h:wpS M A E s (uu (arrOf st) sa na sb nb) Q (u7 st (((pendingOf st).setIfInBounds i (sa,na+nb,b)).eraseIdxIfInBounds (i+1)))):wpS M A E s (mergeAt' i) Q st:=by
 rw[HV];refine ay (ig ?_);rw[c,d];dsimp only;refine ay ?_;show wpS M A E s (modify λ_=>_) _ _;refine fE ?_;exact h
theorem Ca(base:Nat):∀(l:List Keyed) (n:Nat) (arr:Array Keyed),base+n+l.length<=arr.size->((l.zipIdx n).foldl (λa (p,j)=>a.setIfInBounds (base+j) p) arr).toList=arr.toList.take (base+n)++l++arr.toList.drop (base+n+l.length)
 |[],n,arr,h=>by
  simp only[List.zipIdx_nil,foldl_nil,fG,length_nil,add_zero];exact(dF _ _).symm
 |p::l,n,arr,h=>by
  rw[eV] at h;rw[List.zipIdx_cons,foldl_cons];have:=Ca base l (n+1) (arr.setIfInBounds (base+n) p) (by rw[Array.size_setIfInBounds];omega);rw[this,Array.toList_setIfInBounds,List.set_eq_take_append_cons_drop,aj (by rw[bE];omega)];have b:(arr.toList.take (base+n)).length=base+n:=by rw[e_,bE];omega
  have c:(arr.toList.take (base+n)++p::arr.toList.drop (base+n+1)).take (base+(n+1))=arr.toList.take (base+n)++[p]:=by
   rw[List.take_append,gx (by rw[b];omega),b,show base+(n+1) - (base+n)=1 by omega];rfl
  have d:(arr.toList.take (base+n)++p::arr.toList.drop (base+n+1)).drop (base+(n+1)+l.length)=arr.toList.drop (base+n+(l.length+1)):=by
   rw[List.drop_append,b,jq (by rw[b];omega),g9,show base+(n+1)+l.length - (base+n)=l.length+1 by omega,List.drop_succ_cons,lR];congr 1;omega
  rw[c,d,bu,bu,eV,bu];rfl
section
variable{M:Model}{A:Around}{E:aA}{s:Shared}{C:SortKind}{G:Keyed->Prop}{r:Keyed->Keyed->Bool}
theorem LB(cp:Cp M A E s C G r){X Y Z:List Keyed}{k n:Nat}{f g:Keyed}(m:∀x∈X,G x)(o:∀x∈Y,G x)(t:X.Pairwise (Le r))(u:Y.Pairwise (Le r))(b:G f)(i:G g)
  (c:∀y∈Y,Le r f y)(j:∀x∈X,Le r x g)(t1:∀x∈X.take k,Le r x f)(v:∀y∈Y.drop n,Le r g y)
  (p:Z.Perm (X.drop k++Y.take n))(sz:Z.Pairwise (Le r)):(X.take k++Z++Y.drop n).Perm (X++Y)/\(X.take k++Z++Y.drop n).Pairwise (Le r):=by
 refine⟨?_,?_⟩
 .have e:X++Y=X.take k++(X.drop k++Y.take n)++Y.drop n:=by
   rw[<-bu,dF,bu,dF]
  rw[e]
  exact ir _ (gD _ p)
 .have st:X.Pairwise (Le r):=t
  rw[<-dF k X,cF] at st
  have l:Y.Pairwise (Le r):=u
  rw[<-dF n Y,cF] at l
  have gt:∀x∈X.take k,G x:=λx hx=>m x (c6 hx)
  have a:∀z∈Z,z∈X.drop k\/z∈Y.take n:=λz hz=>aU.mp (p.mem_iff.mp hz)
  refine cF.mpr ⟨cF.mpr ⟨st.1,sz,?_⟩,l.2.1,?_⟩
  .intro x hx z hz
   rcases a z hz with h|h
   .exact st.2.2 x hx z h
   .exact cp.tr (gt x hx) b (o z (c6 h)) (t1 x hx) (c z (c6 h))
  .intro x hx w d
   have q:=o w (dc d)
   rcases aU.mp hx with hx|hx
   .exact cp.tr (gt x hx) b q (t1 x hx) (c w (dc d))
   .rcases a x hx with h|h
    .exact cp.tr (m x (dc h)) i q (j x (dc h)) (v w d)
    .exact l.2.2 x h w d
end
section
variable{M:Model}{A:Around}{E:aA}{s:Shared}{C:SortKind}{G:Keyed->Prop}{r:Keyed->Keyed->Bool}
theorem Cp.rf(cp:Cp M A E s C G r){x:Keyed}(g:G x):Le r x x:=by
 show r x x=false;cases e:r x x with
 |false=>rfl
 |true=>rw[cp.as g g e] at e;cases e
theorem nP{arr:Array Keyed}{base n:Nat}(h:base+n<=arr.size):(seg arr base n).length=n:=by
 rw[e_,fh,bE];omega
theorem seg_at{arr:Array Keyed}{base n i:Nat}(h:base+n<=arr.size)(hi:i<n)(h1:base+i<arr.size)(h2:i<(seg arr base n).length):arr.toList[base+i]'h1=(seg arr base n)[i]'h2:=by
 have:=lq (arr:=arr) (base:=base) hi;rw[aZ h2,aZ (by simpa using h1)] at this;exact(Option.some.inj this).symm
theorem BG{arr:Array Keyed}{base n k:Nat}:(seg arr base n).drop k=(arr.toList.drop (base+k)).take (n - k):=by
 unfold seg;rw[drop_take,lR]
theorem cut{arr:Array Keyed}{base n:Nat}:arr.toList.drop base=seg arr base n++arr.toList.drop (base+n):=mY _ _ _
theorem HN(cp:Cp M A E s C G r){sa na sb nb:Nat}{st:SortSt}{Q:Bool->SortSt->Prop}(hk:kindOf st=C)(U:failedOf st=none)(hs:sb=sa+na)(n1:0<na)(n2:0<nb)(hz:sb+nb<=(arrOf st).size)
  (l:∀x∈seg (arrOf st) sa na,G x)(m:∀x∈seg (arrOf st) sb nb,G x)(p:(seg (arrOf st) sa na).Pairwise (Le r))(q:(seg (arrOf st) sb nb).Pairwise (Le r))
  (h:∀f g Z,f.toList=(arrOf st).toList.take sa++Z++(arrOf st).toList.drop (sb+nb)->Z.Perm (seg (arrOf st) sa na++seg (arrOf st) sb nb)->Z.Pairwise (Le r)->Q true (bg (setArr st f) g)):
  wpS M A E s (uu (arrOf st) sa na sb nb) Q st:=by
 subst hs
 have K:=nP (arr:=arrOf st) (base:=sa) (n:=na) (by omega)
 have L:=nP (arr:=arrOf st) (base:=sa+na) (n:=nb) hz
 have same:(arrOf st).toList=(arrOf st).toList.take sa++(seg (arrOf st) sa na++seg (arrOf st) (sa+na) nb)++(arrOf st).toList.drop (sa+na+nb):=by
  rw[bu,bu,<-cut,<-cut,dF]
 have F:sa+na<(arrOf st).size:=by omega
 have j:0<(seg (arrOf st) (sa+na) nb).length:=by omega
 have N:sa+(na - 1)<(arrOf st).size:=by omega
 have u:na - 1<(seg (arrOf st) sa na).length:=by omega
 have V:=seg_at (arr:=arrOf st) (base:=sa+na) (n:=nb) (i:=0) hz n2 F j
 have ex:=seg_at (arr:=arrOf st) (base:=sa) (n:=na) (i:=na - 1) (by omega) (by omega) N u
 have c:G ((seg (arrOf st) (sa+na) nb)[0]'j):=m _ (cz _)
 have d:G ((seg (arrOf st) sa na)[na - 1]'u):=l _ (cz _)
 have v:∀y∈seg (arrOf st) (sa+na) nb,Le r ((seg (arrOf st) (sa+na) nb)[0]'j) y:=λy b=>by
  obtain⟨i,hi,rfl⟩:=iu b
  rcases Nat.eq_zero_or_pos i with h'|h'
  .subst h';exact cp.rf c
  .exact iQ.mp q 0 i j hi h'
 have w:∀x∈seg (arrOf st) sa na,Le r x ((seg (arrOf st) sa na)[na - 1]'u):=λx a=>by
  obtain⟨i,hi,rfl⟩:=iu a
  rcases fc i (na - 1) with h'|h'
  .exact iQ.mp p i (na - 1) hi u h'
  .have:i=na - 1:=by omega
   subst this
   exact cp.rf d
 have e:(seg (arrOf st) sa na++seg (arrOf st) (sa+na) nb).Pairwise (Le r)->Q true st:=λW=>h (arrOf st) (gallopOf st) _ same (Perm.refl _) W
 unfold uu
 refine ay (cM F ?_)
 rw[show(arrOf st).toList[sa+na]'F=(seg (arrOf st) (sa+na) nb)[0]'j from V]
 refine ay (kQ cp hk c (by omega) n1 l p ?_)
 intro k H t1 X
 dsimp only
 have o:∀x∈(seg (arrOf st) sa na).take k,Le r x ((seg (arrOf st) (sa+na) nb)[0]'j):=λx a=>by have:=t1 x a;simpa using this
 by_cases O:na - k=0
 .rw[aj (by simpa using O)]
  refine aB (e (cF.mpr ⟨p,q,λx a y b=> ?_⟩))
  have:(seg (arrOf st) sa na).take k=seg (arrOf st) sa na:=gx (by omega)
  rw[this] at o
  exact cp.tr (l x a) c (m y b) (o x a) (v y b)
 .rw[ai (by simpa using O)]
  have Y:sa+k+(na - k) - 1=sa+(na - 1):=by omega
  rw[Y]
  refine ay (cM N ?_)
  rw[ex]
  refine ay (kQ cp hk d hz (by omega) m q ?_)
  intro n hn u1 P
  dsimp only
  by_cases I:n=0
  .rw[aj (by simpa using I)]
   subst I
   refine aB (e (cF.mpr ⟨p,q,λx a y b=> ?_⟩))
   exact cp.tr (l x a) d (m y b) (w x a) (P y b)
  .rw[ai (by simpa using I)]
   have eX:((arrOf st).extract (sa+k) (sa+na)).toList=(seg (arrOf st) sa na).drop k:=by
    rw[tH,BG];unfold mid;congr 1;omega
   have t:((arrOf st).extract (sa+na) (sa+na+n)).toList=(seg (arrOf st) (sa+na) nb).take n:=by
    rw[tG];unfold seg;rw[take_take,ji hn]
   have J:((arrOf st).extract (sa+k) (sa+na)).size=na - k:=by
    rw[<-bE,eX,fh,K]
   have R:((arrOf st).extract (sa+na) (sa+na+n)).size=n:=by
    rw[<-bE,t,e_,L];omega
   have ga:∀x∈((arrOf st).extract (sa+k) (sa+na)).toList,G x:=by rw[eX];exact λx a=>l x (dc a)
   have gb:∀x∈((arrOf st).extract (sa+na) (sa+na+n)).toList,G x:=by rw[t];exact λx a=>m x (c6 a)
   have z:((arrOf st).extract (sa+k) (sa+na)).toList.Pairwise (Le r):=by rw[eX];exact p.sublist (gF _ _)
   have B:((arrOf st).extract (sa+na) (sa+na+n)).toList.Pairwise (Le r):=by rw[t];exact q.sublist (fX _ _)
   have la:∀x∈((arrOf st).extract (sa+na) (sa+na+n)).toList,∀y∈((arrOf st).extract (sa+k) (sa+na)).toList.drop (((arrOf st).extract (sa+k) (sa+na)).size - 1),Le r x y:=by
    rw[eX,t,J,lR,show k+(na - k - 1)=na - 1 by omega,lS u,jq (by omega)]
    intro x a y b
    rw[bh.mp b]
    exact cp.as (m x (c6 a)) d (u1 x a)
   have fb:∀x∈((arrOf st).extract (sa+na) (sa+na+n)).toList.take 1,∀y∈((arrOf st).extract (sa+k) (sa+na)).toList,Le r x y:=by
    rw[eX,t,take_take,ji (by omega),List.take_one,List.head?_eq_getElem?,aZ j]
    intro x a y b
    have a:x=(seg (arrOf st) (sa+na) nb)[0]'j:=by simpa using a
    rw[a]
    exact cp.as c (l y (dc b)) (by have:=X y b;simpa using this)
   have rest:∀out g,Fin r ((arrOf st).extract (sa+k) (sa+na)) ((arrOf st).extract (sa+na) (sa+na+n)) out->wpS M A E s (do
     modify λs=>setArr s (wr (arrOf s) (sa+k) out)
     return (failedOf (<-get)).isNone) Q (bg st g):=λout g S=>by
    refine ay (fE (ay (ig (aB ?_))))
    have D:out.toList.Perm ((seg (arrOf st) sa na).drop k++(seg (arrOf st) (sa+na) nb).take n):=by
     have:=S.1;rw[eX,t] at this;exact this
    have lo:out.toList.length=na - k+n:=by
     have a1:((seg (arrOf st) sa na).drop k).length=na - k:=by rw[fh,K]
     have a2:((seg (arrOf st) (sa+na) nb).take n).length=n:=by rw[e_,L];omega
     rw[D.length_eq,bR,a1,a2]
    have T:=LB cp l m p q c d v w o (λy b=>P y b) D S.2
    have fin:(failedOf (setArr (bg st g) (wr (arrOf (bg st g)) (sa+k) out))).isNone=true:=by
     show(failedOf st).isNone=true
     rw[U];rfl
    rw[fin]
    refine h (wr (arrOf st) (sa+k) out) g ((seg (arrOf st) sa na).take k++out.toList++(seg (arrOf st) (sa+na) nb).drop n) ?_ T.1 T.2
    have:=Ca (sa+k) out.toList 0 (arrOf st) (by rw[lo];omega)
    rw[show wr (arrOf st) (sa+k) out=_ from rfl,this,add_zero,lo,take_add,show sa+k+(na - k+n)=sa+na+n by omega]
    have e3:(arrOf st).toList.drop (sa+na+n)=(seg (arrOf st) (sa+na) nb).drop n++(arrOf st).toList.drop (sa+na+nb):=by
     have:=cut (arr:=arrOf st) (base:=sa+na+n) (n:=nb - n)
     rw[show sa+na+n+(nb - n)=sa+na+nb by omega] at this
     rw[BG];exact this
    have e4:((arrOf st).toList.drop sa).take k=(seg (arrOf st) sa na).take k:=by
     unfold seg;rw[take_take,ji H]
    rw[e3,e4]
    simp only[bu]
   unfold zI
   dsimp only
   split
   .refine ay ?_
    exact H_ cp ⟨ga,gb,z,B,la⟩ hk (by rw[J];omega) (by rw[R];omega) fb rest
   .refine ay ?_
    exact HZ cp ⟨ga,gb,z,B,fb⟩ hk (by rw[J];omega) (by rw[R];omega) la rest
end
section
variable{M:Model}{A:Around}{E:aA}{s:Shared}{C:SortKind}{G:Keyed->Prop}{O:KeyOrd}{key:Keyed->O.α}
abbrev byKey(O:KeyOrd)(key:Keyed->O.α)(x y:Keyed):Bool:=O.blt (key x) (key y)
def kk(O:KeyOrd)(key:Keyed->O.α)(arr:Array Keyed)(i:Nat):O.α:=key (arr[i]?.getD (Value.none,Value.none))
theorem jI{x y:Array Keyed}{i j:Nat}(h:x[i]?=y[j]?):kk O key x i=kk O key y j:=by unfold kk;rw[h]
structure Wk(a0 arr:Array Keyed)(lo:Nat):Prop where
 pm:arr.Perm a0
 fx:∀t,t<lo->arr[t]? =a0[t]?
theorem Wk.size{a0 arr:Array Keyed}{lo:Nat}(w:Wk a0 arr lo):arr.size=a0.size:=w.pm.size_eq
theorem Wk.qk{a0 arr:Array Keyed}{lo i j:Nat}(w:Wk a0 arr lo)(hi:lo<=i)(a:j<=a0.size):Wk a0 (mirror arr i j ((j - i)/2)) lo:=
 ⟨(mirror_perm _ _ _ _).trans w.pm,λt b=>by rw[getElem?_mirror_all (by rw[w.size];exact a),ai (by omega)];exact w.fx t b⟩
theorem Wk.CZ{a0 arr:Array Keyed}{lo src d:Nat}(w:Wk a0 arr lo)(hs:src<a0.size)(hd:lo+d<=src):Wk a0 (bubble arr src d) lo:=
 ⟨(bubble_perm _ _ _).trans w.pm,λt a=>by rw[getElem?_bubble (by rw[w.size];exact hs) d (by omega),ai (by omega),ai (by omega)];exact w.fx t a⟩
abbrev cA(O:KeyOrd)(key:Keyed->O.α)(arr:Array Keyed)(lo n:Nat):Prop:=∀i j,i<=j->j<n->O.kle (kk O key arr (lo+i)) (kk O key arr (lo+j))
abbrev kg(O:KeyOrd)(key:Keyed->O.α)(arr:Array Keyed)(lo n:Nat):Prop:=∀i j,i<=j->j<n->O.kle (kk O key arr (lo+j)) (kk O key arr (lo+i))
theorem k8(cp:Cp M A E s C G (byKey O key)){a0 arr:Array Keyed}{lo i j:Nat}{st:SortSt}{Q:Option Bool->SortSt->Prop}(hk:kindOf st=C)(d:arrOf st=arr)(g:∀x∈a0.toList,G x)(w:Wk a0 arr lo)(hi:i<a0.size)(f:j<a0.size)
  (h:Q (some (O.blt (kk O key arr i) (kk O key arr j))) st):wpS M A E s (ltAt' i j) Q st:=by
 subst d;have a:i<(arrOf st).size:=by rw[w.size];exact hi
 have b:j<(arrOf st).size:=by rw[w.size];exact f
 have c:∀x∈(arrOf st).toList,G x:=λx l=>g x ((jk.mp w.pm).mem_iff.mp l);rw[ltAt'_eq];refine ay (ig (ay (cM a (ay (cM b (cp.lt (c _ (cz _)) (c _ (cz _)) hk ?_))))));have e:∀{k:Nat} (hk:k<(arrOf st).size),kk O key (arrOf st) k=key ((arrOf st).toList[k]'hk):=λ {k} hk=>by
  unfold kk;rw[b_ hk];rfl
 rw[e a,e b] at h;exact h
theorem CW(cp:Cp M A E s C G (byKey O key)){a0 arr:Array Keyed}{lo n ok:Nat}{st:SortSt}{Q:Bool->SortSt->Prop}(hk:kindOf st=C)(g:∀x∈a0.toList,G x)(hn:lo+n<=a0.size)(hok:ok<=n)(D:Wk a0 arr lo)(hs:cA O key arr lo ok)
  (h:∀d,Wk a0 d lo->cA O key d lo n->Q true (setArr st d)):wpS M A E s (binarySort' lo n ok) Q (setArr st arr):=by
 rw[binarySort'_eq];refine ay (eF (I:=λk c b=>c=(none,())/\∃a,b=setArr st a/\Wk a0 a lo/\cA O key a lo (min k n)) ?_ ?_ ⟨rfl,arr,rfl,D,?_⟩)
 .rintro k c b h1 h2 ⟨rfl,a,rfl,w,asc⟩
  rw[ji (by omega)] at asc;have ins:∀l,l<=k->(∀i,i<l->O.kle (kk O key a (lo+i)) (kk O key a (lo+k)))->(∀i,l<=i->i<k->O.klt (kk O key a (lo+k)) (kk O key a (lo+i)))->∀R:ForInStep (Option Bool×Unit)->SortSt->Prop,
    (∀f,Wk a0 f lo->cA O key f lo (min (k+1) n)->R (ForInStep.yield (none,())) (setArr st f))->wpS M A E s (do moveDown' (lo+k) (lo+l);pure (ForInStep.yield ((none:Option Bool),()))) R (setArr st a):=λl o p F R H=>by
   rw[moveDown'_eq];refine ay (fE (aB (H _ (w.CZ (by omega) (by omega)) ?_)));rw[ji (by omega),show lo+k - (lo+l)=k - l by omega];have val:∀i,i<k+1->kk O key (bubble a (lo+k) (k - l)) (lo+i)=if i=l then kk O key a (lo+k) else if l<i then kk O key a (lo+(i - 1)) else kk O key a (lo+i):=λi hi=>by
    have e:=getElem?_bubble (xs:=a) (src:=lo+k) (by rw[w.size];omega) (k - l) (by omega) (lo+i);by_cases v:i=l
    .rw[aj (by omega)] at e;rw[aj v];exact jI e
    .rw[ai (by omega)] at e;rw[ai v]
     by_cases y:l<i
     .rw[aj (by omega)] at e;rw[aj y]
      rw[show lo+i - 1=lo+(i - 1) by omega] at e;exact jI e
     .rw[ai (by omega)] at e;rw[ai y];exact jI e
   intro i j m z;show O.kle (kk O key (bubble a (lo+k) (k - l)) (lo+i)) (kk O key (bubble a (lo+k) (k - l)) (lo+j));rw[val i (by omega),val j z];repeat' split
   .exact gC _
   .exact rO (F _ (by omega) (by omega))
   .omega
   .omega
   .exact asc _ _ (by omega) (by omega)
   .omega
   .exact p _ (by omega)
   .exact asc _ _ (by omega) (by omega)
   .exact asc _ _ (by omega) (by omega)
  refine ay (eF (I:=λx c b=>b=setArr st a/\∃l u,c=(none,l,u)/\l<=u/\u<=k/\u - l+x<=k/\
    (∀i,i<l->O.kle (kk O key a (lo+i)) (kk O key a (lo+k)))/\∀i,u<=i->i<k->O.klt (kk O key a (lo+k)) (kk O key a (lo+i))) ?_ ?_ ⟨rfl,0,k,rfl,by omega,by omega,by omega,λi hi=>by omega,λi o p=>by omega⟩)
  case _=>
   rintro x c b _ L ⟨rfl,l,u,rfl,J,t,K,q,r⟩;dsimp only;by_cases B:l≥u
   .rw[aj B]
    obtain rfl:l=u:=by omega
    refine aB ?_;exact ins l t q r _ λf p1 p2=>⟨rfl,f,rfl,p1,p2⟩
   .rw[ai B]
    refine ay (k8 cp hk rfl g w (by omega) (by omega) ?_);dsimp only;cases e:O.blt (kk O key a (lo+k)) (kk O key a (lo+(l+u)/2)) with
    |true=>exact aB ⟨rfl,l,(l+u)/2,rfl,by omega,by omega,by omega,q,λi o p=>KeyOrd.klt_of_klt_of_kle e (asc _ _ o p)⟩
    |false=>exact aB ⟨rfl,(l+u)/2+1,u,rfl,by omega,by omega,by omega,λi o=>oE (asc i _ (by omega) (by omega)) e,r⟩
  case _=>
   rintro c b ⟨rfl,l,u,rfl,J,t,K,q,r⟩;obtain rfl:l=u:=by omega
   exact ins l t q r _ λf p1 p2=>⟨rfl,f,rfl,p1,p2⟩
 .rintro c b ⟨rfl,a,rfl,w,asc⟩
  rw[show min (max (max ok 1) n) n=n by omega] at asc;exact aB (h a w asc)
 .intro i j m z
  by_cases N:ok=0
  .obtain rfl:i=j:=by omega
   exact gC _
  .exact hs i j m (by omega)
end
def kB(lo a nrem:Nat):SM (Option (Option Nat)×Nat):=forIn [a:nrem] ((none,a):Option (Option Nat)×Nat) λ_ c=>do
 match <-ltAt' (lo+c.2) (lo+c.2 - 1) with
 |some w=>if w then pure (.done (none,c.2)) else pure (.yield (none,c.2+1))
 |_=>pure (.done (some none,c.2))
def kD(lo n nrem:Nat):SM (Option Nat):=do
 reverseSlice' lo (lo+n)
 let c <-kB lo n nrem
 match c.1 with
 |some r=>pure r
 |none=>pure (some c.2)
def o7(lo n nrem:Nat):SM (Option (Option Nat)×Nat×Nat):=forIn [n:nrem] ((none,n,0):Option (Option Nat)×Nat×Nat) λ_ c=>do
 match <-ltAt' (lo+c.2.1) (lo+c.2.1 - 1) with
 |some w=>
  if w then
   if c.2.2>0 then do
    reverseSlice' (lo+c.2.1 - (c.2.2+1)) (lo+c.2.1)
    pure (.yield (none,c.2.1+1,0))
   else pure (.yield (none,c.2.1+1,0))
  else do
   match <-ltAt' (lo+c.2.1 - 1) (lo+c.2.1) with
   |some v=>if v then pure (.done (none,c.2.1,c.2.2)) else pure (.yield (none,c.2.1+1,c.2.2+1))
   |_=>pure (.done (some none,c.2.1,c.2.2))
 |_=>pure (.done (some none,c.2.1,c.2.2))
def mL(lo n nrem:Nat):SM (Option Nat):=do
 rule "list.sort.descending-run"
 let c <-o7 lo (n+1) nrem
 match c.1 with
 |some r=>pure r
 |none=>
  if c.2.2>0 then do
   reverseSlice' (lo+c.2.1 - (c.2.2+1)) (lo+c.2.1)
   kD lo c.2.1 nrem
  else kD lo c.2.1 nrem
theorem Dn(lo nrem:Nat):countRun' lo nrem=(do
 let c <-kB lo 1 nrem
 match c.1 with
 |some r=>pure r
 |none=>
  if c.2==nrem then pure (some c.2)
  else if c.2>1 then do
   match <-ltAt' lo (lo+c.2 - 1) with
   |some v=>if v then pure (some c.2) else do
    reverseSlice' lo (lo+c.2)
    mL lo c.2 nrem
   |_=>pure none
  else mL lo c.2 nrem):=by
 rw[countRun'_eq]
 have tl:∀n:Nat,kD lo n nrem=(do
   reverseSlice' lo (lo+n)
   let c <-kB lo n nrem
   match c.1 with
   |some r=>pure r
   |none=>pure (some c.2)):=λn=>rfl
 dsimp only[mL,kD,o7,kB]
 congr 1;funext c
 obtain⟨f,n⟩:=c
 cases f with
 |some q=>rfl
 |none=>
  dsimp only
  split
  .rfl
  .split
   .congr 1;funext o
    cases o with
    |none=>rfl
    |some v=>
     dsimp only
     split
     .rfl
     .congr 1;funext _;congr 1;funext _;congr 1;funext d
      obtain⟨b,m,q⟩:=d
      cases b with
      |some z=>rfl
      |none=>
       dsimp only
       split
       .congr 1;funext _;congr 1;funext _;congr 1;funext e
        obtain⟨a,k⟩:=e
        cases a<;>rfl
       .congr 1;funext _;congr 1;funext e
        obtain⟨a,k⟩:=e
        cases a<;>rfl
   .congr 1;funext _;congr 1;funext d
    obtain⟨b,m,q⟩:=d
    cases b with
    |some z=>rfl
    |none=>
     dsimp only
     split
     .congr 1;funext _;congr 1;funext _;congr 1;funext e
      obtain⟨a,k⟩:=e
      cases a<;>rfl
     .congr 1;funext _;congr 1;funext e
      obtain⟨a,k⟩:=e
      cases a<;>rfl
section
variable{M:Model}{A:Around}{E:aA}{s:Shared}{C:SortKind}{G:Keyed->Prop}{O:KeyOrd}{key:Keyed->O.α}
theorem t8{arr:Array Keyed}{i j:Nat}(a:j<=arr.size)(t:Nat):kk O key (mirror arr i j ((j - i)/2)) t=if i<=t/\t<j then kk O key arr (i+j - 1 - t) else kk O key arr t:=by
 have e:=getElem?_mirror_all (xs:=arr) (i:=i) a t;split at e
 .rename_i c;rw[aj c];exact jI e
 .rename_i c;rw[ai c];exact jI e
theorem nh{arr:Array Keyed}{i j:Nat}{v:O.α}(a:j<=arr.size)(h:∀t,i<=t->t<j->kk O key arr t=v)(t:Nat):kk O key (mirror arr i j ((j - i)/2)) t=kk O key arr t:=by
 rw[t8 a];split
 .rw[h _ (by omega) (by omega),h t (by omega) (by omega)]
 .rfl
theorem rB{st:SortSt}{arr:Array Keyed}{i j:Nat}{Q:Unit->SortSt->Prop}(h:Q () (setArr st (mirror arr i j ((j - i)/2)))):wpS M A E s (reverseSlice' i j) Q (setArr st arr):=by
 rw[reverseSlice'_eq];exact fE h
variable(cp:Cp M A E s C G (byKey O key)){a0:Array Keyed}{lo nrem:Nat}{st:SortSt}(hk:kindOf st=C)(g:∀x∈a0.toList,G x)(hn:lo+nrem<=a0.size)
include cp hk g hn
theorem w9{arr:Array Keyed}{a:Nat}{Q:Option (Option Nat)×Nat->SortSt->Prop}(w:Wk a0 arr lo)(h1:1<=a)(h2:a<=nrem)(hs:cA O key arr lo a)
  (h:∀n,a<=n->n<=nrem->cA O key arr lo n->(n=nrem\/O.klt (kk O key arr (lo+n)) (kk O key arr (lo+(n - 1))))->Q (none,n) (setArr st arr)):wpS M A E s (kB lo a nrem) Q (setArr st arr):=by
 unfold kB;refine eF (I:=λx c b=>b=setArr st arr/\c=(none,x)/\cA O key arr lo x) ?_ ?_ ⟨rfl,rfl,hs⟩
 .rintro x c b f k ⟨rfl,rfl,asc⟩
  dsimp only;rw[show lo+x - 1=lo+(x - 1) by omega];refine ay (k8 cp hk rfl g w (by omega) (by omega) ?_);dsimp only;cases e:O.blt (kk O key arr (lo+x)) (kk O key arr (lo+(x - 1))) with
  |true=>exact aB (h x f (by omega) asc (.inr e))
  |false=>
   refine aB ⟨rfl,rfl,λi j d l=>?_⟩;rcases fc j x with c|c
   .exact asc i j d c
   .obtain rfl:j=x:=by omega
    rcases fc i j with c'|c'
    .exact oE (asc i (j - 1) (by omega) (by omega)) e
    .obtain rfl:i=j:=by omega
     exact gC _
 .rintro c b ⟨rfl,rfl,asc⟩
  rw[Nat.max_eq_right h2] at asc ⊢;exact h nrem h2 (aF _) asc (.inl rfl)
theorem BU{arr:Array Keyed}{n:Nat}{Q:Option Nat->SortSt->Prop}(w:Wk a0 arr lo)(h1:1<=n)(h2:n<=nrem)(hs:kg O key arr lo n)
  (h:∀m a,Wk a0 a lo->1<=m->m<=nrem->cA O key a lo m->Q (some m) (setArr st a)):wpS M A E s (kD lo n nrem) Q (setArr st arr):=by
 unfold kD;refine ay (rB ?_);have b:Wk a0 (mirror arr lo (lo+n) ((lo+n - lo)/2)) lo:=w.qk (aF _) (by omega);refine ay (w9 cp hk g hn b h1 h2 ?_ λm e c asc _=>aB (h m _ b (by omega) c asc));intro i j d f;rw[t8 (by rw[w.size];omega),t8 (by rw[w.size];omega),aj (by omega),aj (by omega),show lo+(lo+n) - 1 - (lo+i)=lo+(n - 1 - i) by omega,show lo+(lo+n) - 1 - (lo+j)=lo+(n - 1 - j) by omega];exact hs _ _ (by omega) (by omega)
theorem EA{arr:Array Keyed}{n:Nat}{Q:Option (Option Nat)×Nat×Nat->SortSt->Prop}(w:Wk a0 arr lo)(h1:1<=n)(h2:n<=nrem)(hs:kg O key arr lo n)
  (h:∀m q a,Wk a0 a lo->n<=m->m<=nrem->kg O key a lo m->q+1<=m->(∀t,lo+m - (q+1)<=t->t<lo+m->kk O key a t=kk O key a (lo+(m - 1)))->Q (none,m,q) (setArr st a)):wpS M A E s (o7 lo n nrem) Q (setArr st arr):=by
 unfold o7;refine eF (I:=λx c d=>∃q a,d=setArr st a/\c=(none,x,q)/\Wk a0 a lo/\kg O key a lo x/\q+1<=x/\∀t,lo+x - (q+1)<=t->t<lo+x->kk O key a t=kk O key a (lo+(x - 1))) ?_ ?_ ⟨0,arr,rfl,rfl,w,hs,by omega,λt t1 o=>by congr 1;omega⟩
 .rintro x c d v B ⟨q,a,rfl,rfl,w,b,l,k⟩
  dsimp only;rw[show lo+x - 1=lo+(x - 1) by omega];have hz:lo+x<=a.size:=by rw[w.size];omega
  refine ay (k8 cp hk rfl g w (by omega) (by omega) ?_);dsimp only;cases e:O.blt (kk O key a (lo+x)) (kk O key a (lo+(x - 1))) with
  |true=>
   rw[aj rfl];have more:∀p:Array Keyed,(∀t,kk O key p t=kk O key a t)->kg O key p lo (x+1):=λp r i j f y=>by
    rw[r,r];rcases fc j x with c|c
    .exact b i j f c
    .obtain rfl:j=x:=by omega
     rcases fc i j with c'|c'
     .exact oE (rO e) (b i (j - 1) (by omega) (by omega))
     .obtain rfl:i=j:=by omega
      exact gC _
   by_cases u:q>0
   .rw[aj u]
    exact ay (rB (aB ⟨0,_,rfl,rfl,w.qk (by omega) (by omega),more _ (nh hz k),by omega,λt t1 o=>by congr 1;omega⟩))
   .rw[ai u]
    exact aB ⟨0,_,rfl,rfl,w,more _ (λ_=>rfl),by omega,λt t1 o=>by congr 1;omega⟩
  |false=>
   rw[ai (by simp)];refine ay (k8 cp hk rfl g w (by omega) (by omega) ?_);dsimp only;cases z:O.blt (kk O key a (lo+(x - 1))) (kk O key a (lo+x)) with
   |true=>exact aB (h x q a w v (by omega) b l k)
   |false=>
    have eq:kk O key a (lo+x)=kk O key a (lo+(x - 1)):=KeyOrd.kle_antisymm z e;refine aB ⟨q+1,a,rfl,rfl,w,λi j f y=>?_,by omega,λt t1 o=>?_⟩
    .rcases fc j x with c|c
     .exact b i j f c
     .obtain rfl:j=x:=by omega
      rcases fc i j with c'|c'
      .rw[eq];exact b i (j - 1) (by omega) (by omega)
      .obtain rfl:i=j:=by omega
       exact gC _
    .rw[add_sub_cancel,eq]
     rcases fc t (lo+x) with c|c
     .exact k t (by omega) c
     .obtain rfl:t=lo+x:=by omega
      exact eq
 .rintro c d ⟨q,a,rfl,rfl,w,b,l,k⟩
  rw[Nat.max_eq_right h2] at b l k ⊢;exact h nrem q a w h2 (aF _) b l k
theorem z9{arr:Array Keyed}{n:Nat}{Q:Option Nat->SortSt->Prop}(w:Wk a0 arr lo)(h2:n+1<=nrem)(hs:kg O key arr lo (n+1))
  (h:∀m a,Wk a0 a lo->1<=m->m<=nrem->cA O key a lo m->Q (some m) (setArr st a)):wpS M A E s (mL lo n nrem) Q (setArr st arr):=by
 unfold mL;refine ay (lD ?_);refine ay (EA cp hk g hn w (by omega) h2 hs λm q a c o e b p f=>?_);dsimp only;by_cases k:q>0
 .rw[aj k]
  refine ay (rB (BU cp hk g hn (c.qk (by omega) (by omega)) (by omega) e ?_ h));intro i j d l;rw[nh (by rw[c.size];omega) f,nh (by rw[c.size];omega) f];exact b i j d l
 .rw[ai k]
  exact BU cp hk g hn c (by omega) e b h
theorem Dq{arr:Array Keyed}{Q:Option Nat->SortSt->Prop}(w:Wk a0 arr lo)(h1:1<=nrem)
  (h:∀m a,Wk a0 a lo->1<=m->m<=nrem->cA O key a lo m->Q (some m) (setArr st a)):wpS M A E s (countRun' lo nrem) Q (setArr st arr):=by
 rw[Dn];have one:cA O key arr lo 1:=λi j d k=>by
  obtain rfl:i=j:=by omega
  exact gC _
 refine ay (w9 cp hk g hn w (aF _) h1 one λn n1 n2 asc or=>?_);dsimp only;by_cases f:n=nrem
 .rw[aj (by simpa using f)]
  exact aB (h n arr w n1 n2 asc)
 .rw[ai (by simpa using f)]
  have b:=or.resolve_left f;by_cases l:n>1
  .rw[aj l,show lo+n - 1=lo+(n - 1) by omega]
   refine ay (k8 cp hk rfl g w (by omega) (by omega) ?_);dsimp only;cases e:O.blt (kk O key arr lo) (kk O key arr (lo+(n - 1))) with
   |true=>exact aB (h n arr w n1 n2 asc)
   |false=>
    rw[ai (by simp)];have flat:∀t,lo<=t->t<lo+n->kk O key arr t=kk O key arr (lo+(n - 1)):=λt t1 o=>by
     have a1:=asc 0 (t - lo) (by omega) (by omega);have a2:=asc (t - lo) (n - 1) (by omega) (by omega);rw[show lo+(t - lo)=t by omega] at a1 a2;exact KeyOrd.kle_antisymm a2 (oE e a1)
    have hz:lo+n<=arr.size:=by rw[w.size];omega
    refine ay (rB (z9 cp hk g hn (w.qk (aF _) (by omega)) (by omega) ?_ h));intro i j d k;rw[nh hz flat,nh hz flat];rcases fc j n with c|c
    .rw[flat _ (by omega) (by omega),flat (lo+i) (by omega) (by omega)];exact gC _
    .obtain rfl:j=n:=by omega
     rcases fc i j with c'|c'
     .rw[flat (lo+i) (by omega) (by omega)];exact rO b
     .obtain rfl:i=j:=by omega
      exact gC _
  .rw[ai l]
   obtain rfl:n=1:=by omega
   refine z9 cp hk g hn w (by omega) ?_ h;intro i j d k;rcases fc i j with c'|c'
   .obtain rfl:i=0:=by omega
    obtain rfl:j=1:=by omega
    exact rO b
   .obtain rfl:i=j:=by omega
    exact gC _
end
abbrev Ru:=Nat×Nat×Nat
def qX(size pw:Nat):SM (Option Unit×Unit):=forIn [0:size] ((none,()):Option Unit×Unit) λ_ c=>do
 let st <-get
 match (if (pendingOf st).size>1 then (pendingOf st)[(pendingOf st).size - 2]? else none) with
 |some (_,_,older)=>
  if older<=pw then pure (.done (none,()))
  else do
   let b <-PyProof.Rows.mergeAt' ((pendingOf st).size - 2)
   if !b then pure (.done (some (),())) else pure (.yield (none,()))
 |_=>pure (.done (none,()))
def nO(size lo n:Nat):SM (ForInStep (Option Unit×Nat)):=do
 let st <-get
 match (pendingOf st).back? with
 |some (s1,n1,_)=>do
  let c <-qX size (power' size (2*s1+n1) (2*s1+n1+n1+n) size)
  match c.1 with
  |some r=>pure (.done (some r,lo))
  |none=>do
   modify λs=>setPending s ((pendingOf s).modify ((pendingOf s).size - 1) λ(st,len,_)=>(st,len,power' size (2*s1+n1) (2*s1+n1+n1+n) size))
   modify λs=>setPending s ((pendingOf s).push (lo,n,0))
   pure (.yield (none,lo+n))
 |_=>do
  modify λs=>setPending s ((pendingOf s).push (lo,n,0))
  pure (.yield (none,lo+n))
def qY(size uA lo:Nat):SM (ForInStep (Option Unit×Nat)):=
 if lo≥size then pure (.done (none,lo))
 else do
  match <-countRun' lo (size - lo) with
  |some found=>
   if found<uA then do
    rule "list.sort.binary-insertion"
    let b <-binarySort' lo (min (size - lo) uA) found
    if !b then pure (.done (some (),lo)) else nO size lo (min (size - lo) uA)
   else nO size lo found
  |_=>pure (.done (some (),lo))
def pick(p:Array Ru):Nat:=if (if p.size - 2>0 then p[p.size - 2 - 1]?.map (·.2.1) else none).any (·<(p[p.size - 2+1]?.elim 0 (·.2.1))) then p.size - 2 - 1 else p.size - 2
def nN(size:Nat):SM (Option Unit×Unit):=forIn [0:size] ((none,()):Option Unit×Unit) λ_ c=>do
 let st <-get
 if (pendingOf st).size<=1 then pure (.done (none,()))
 else do
  let b <-PyProof.Rows.mergeAt' (pick (pendingOf st))
  if !b then pure (.done (some (),())) else pure (.yield (none,()))
theorem LS:sortRuns'=(do
 let st <-get
 let c <-forIn [0:(arrOf st).size] ((none,0):Option Unit×Nat) λ_ c=>qY (arrOf st).size (minRun' (arrOf st).size (arrOf st).size 0) c.2
 match c.1 with
 |some r=>pure r
 |none=>do
  let d <-nN (arrOf st).size
  match d.1 with
  |some r=>pure r
  |none=>pure ()):=by
 rw[sortRuns'_eq]
 dsimp only[nN,qY,nO,qX,pick]
 congr 1;funext st
 congr 1
 .congr 1;funext x c
  obtain⟨f,lo⟩:=c
  dsimp only
  split
  .rfl
  .congr 1;funext o
   cases o with
   |none=>rfl
   |some found=>
    dsimp only
    split
    .congr 1;funext _;congr 1;funext b
     cases b with
     |false=>rfl
     |true=>
      congr 1;congr 1;funext a
      cases (pendingOf a).back? with
      |none=>rfl
      |some q=>
       dsimp only
       congr 1;funext d
       obtain⟨e,g⟩:=d
       cases e<;>rfl
    .congr 1;funext a
     cases (pendingOf a).back? with
     |none=>rfl
     |some q=>
      dsimp only
      congr 1;funext d
      obtain⟨e,g⟩:=d
      cases e<;>rfl
 .funext c
  obtain⟨f,lo⟩:=c
  cases f with
  |some r=>rfl
  |none=>
   dsimp only
   congr 1;funext d
   obtain⟨e,g⟩:=d
   cases e<;>rfl
def fB:List Ru->Nat->Nat->Prop
 |[],f,t=>f=t
 |q::rest,f,t=>q.1=f/\0<q.2.1/\fB rest (f+q.2.1) t
theorem qV:∀{p q:List Ru} {f t:Nat},fB (p++q) f t↔∃m,fB p f m/\fB q m t
 |[],q,f,t=>⟨λh=>⟨f,rfl,h⟩,λ⟨m,e,h⟩=>by cases e;exact h⟩
 |x::p,q,f,t=>by
  show(x.1=f/\0<x.2.1/\fB (p++q) (f+x.2.1) t)↔_;rw[qV];exact⟨λ⟨a,b,m,c,d⟩=>⟨m,⟨a,b,c⟩,d⟩,λ⟨m,⟨a,b,c⟩,d⟩=>⟨a,b,m,c,d⟩⟩
theorem nM:∀{p:List Ru} {f t:Nat},fB p f t->f+p.length<=t/\∀q∈p,f<=q.1/\q.1+q.2.1<=t
 |[],f,t,h=>by cases (show f=t from h);exact⟨aF _,λq hq=>by simp at hq⟩
 |x::p,f,t,h=>by
  obtain⟨a,b,c⟩:=h;obtain⟨d,e⟩:=nM c;refine⟨by rw[eV];omega,λq hq=>?_⟩;rcases aQ.mp hq with rfl|hq
  .constructor<;>omega
  .have:=e q hq;constructor<;>omega
section
variable{M:Model}{A:Around}{E:aA}{s:Shared}{C:SortKind}{G:Keyed->Prop}{O:KeyOrd}{key:Keyed->O.α}
theorem p9{arr:Array Keyed}{lo n i:Nat}(h:lo+n<=arr.size)(hi:i<n)(h2:i<(seg arr lo n).length):kk O key arr (lo+i)=key ((seg arr lo n)[i]'h2):=by
 have h1:lo+i<arr.size:=by omega
 unfold kk;rw[b_ h1,<-seg_at h hi h1 h2];rfl
theorem oY{arr:Array Keyed}{lo n:Nat}(h:lo+n<=arr.size):cA O key arr lo n↔(seg arr lo n).Pairwise (Le (byKey O key)):=by
 have e:=nP h;refine⟨λa=>iQ.mpr λi j hi b d=>?_,λp i j d b=>?_⟩
 .have:=a i j (by omega) (by omega)
  rw[p9 h (by omega) hi,p9 h (by omega) b] at this;exact this
 .rcases fc i j with c|c
  .have:=iQ.mp p i j (by omega) (by omega) c
   rw[p9 h (by omega) (by omega),p9 h b (by omega)];exact this
  .obtain rfl:i=j:=by omega
   exact gC _
theorem oX{arr b:Array Keyed}{lo n:Nat}(h:∀t,lo<=t->t<lo+n->b[t]?=arr[t]?)(a:cA O key arr lo n):cA O key b lo n:=λi j c d=>by
 rw[jI (h (lo+i) (by omega) (by omega)),jI (h (lo+j) (by omega) (by omega))];exact a i j c d
structure PI(O:KeyOrd)(key:Keyed->O.α)(C:SortKind)(a0:Array Keyed)(st:SortSt)(lo:Nat):Prop where
 pm:(arrOf st).Perm a0
 fl:failedOf st=none
 kd:kindOf st=C
 le:lo<=a0.size
 ru:fB (pendingOf st).toList 0 lo
 so:∀q∈(pendingOf st).toList,cA O key (arrOf st) q.1 q.2.1
theorem two{p:List Ru}{i:Nat}(h:i+1<p.length):∃pre x y post,p=pre++x::y::post/\pre.length=i:=by
 refine⟨p.take i,p[i],p[i+1],p.drop (i+2),?_,by rw[e_];omega⟩;rw[<-lS (by omega),<-lS (by omega),dF]
theorem joined(cp:Cp M A E s C G (byKey O key)){a0:Array Keyed}{st:SortSt}{lo i:Nat}{Q:Bool->SortSt->Prop}(g:∀x∈a0.toList,G x)(pi:PI O key C a0 st lo)(hi:i+1<(pendingOf st).size)
  (h:∀b,PI O key C a0 b lo->(pendingOf b).size+1=(pendingOf st).size->(∀t,lo<=t->(arrOf b)[t]?=(arrOf st)[t]?)->Q true b):wpS M A E s (PyProof.Rows.mergeAt' i) Q st:=by
 show wpS M A E s (TS.mergeAt' i) Q st;obtain⟨pre,⟨sa,na,c⟩,⟨sb,nb,d⟩,post,e,k⟩:=two (p:=(pendingOf st).toList) (i:=i) (by simpa using hi);have ru:=pi.ru;rw[e,qV] at ru;obtain⟨m,y,z,B,D,F,o⟩:=ru;dsimp only at z B D F o;subst z D;have in1:=nM y;have f:=nM o;have hz:sa+na+nb<=(arrOf st).size:=by rw[pi.pm.size_eq];have:=pi.le;omega
 have J:(pendingOf st)[i]?=some (sa,na,c):=by
  rw[<-d8,e,jt (by omega),k,sub_self];rfl
 have K:(pendingOf st)[i+1]?=some (sa+na,nb,d):=by
  rw[<-d8,e,jt (by omega),k,oF];rfl
 have np:(((pendingOf st).setIfInBounds i (sa,na+nb,c)).eraseIdxIfInBounds (i+1)).toList=pre++(sa,na+nb,c)::post:=by
  rw[Array.toList_eraseIdxIfInBounds,Array.toList_setIfInBounds,e,List.set_append_right _ _ (by omega),k,sub_self,List.set_cons_zero,List.eraseIdx_append_of_length_le (by omega),k,oF];rfl
 have L:∀x∈(arrOf st).toList,G x:=λx r=>g x ((jk.mp pi.pm).mem_iff.mp r);have gs:∀(l n:Nat),∀x∈seg (arrOf st) l n,G x:=λl n x r=>L x (dc (c6 r));have u:sa+na<=(arrOf st).size:=by omega
 have N:=(oY u).mp (pi.so (sa,na,c) (by rw[e];simp));have P:=(oY hz).mp (pi.so (sa+na,nb,d) (by rw[e];simp));refine HW J K ?_;refine(HN cp (st:=u7 st (((pendingOf st).setIfInBounds i (sa,na+nb,c)).eraseIdxIfInBounds (i+1))) pi.kd pi.fl rfl B F hz (gs _ _) (gs _ _) N P ?_);intro a gl Z j H sz;have j:a.toList=(arrOf st).toList.take sa++Z++(arrOf st).toList.drop (sa+na+nb):=j;have same:(arrOf st).toList=(arrOf st).toList.take sa++(seg (arrOf st) sa na++seg (arrOf st) (sa+na) nb)++(arrOf st).toList.drop (sa+na+nb):=by
  rw[bu,bu,<-cut,<-cut,dF]
 have pm:a.Perm (arrOf st):=by
  refine jk.mpr ?_;rw[j];refine Perm.trans ?_ (Perm.of_eq same.symm);exact ir _ (gD _ H)
 have I:Z.length=na+nb:=by
  rw[H.length_eq,bR,nP (by omega),nP hz]
 have lt:((arrOf st).toList.take sa).length=sa:=by rw[e_,bE];omega
 have out:∀t,(t<sa\/sa+na+nb<=t)->a[t]?=(arrOf st)[t]? :=λt ht=>by
  rw[<-d8,<-d8,j];rcases ht with ht|ht
  .rw[bu,fZ (by omega),List.getElem?_take,aj ht]
  .rw[jt (by rw[bR];omega),List.getElem?_drop,bR,lt,I]
   congr 1;omega
 have v:seg a sa (na+nb)=Z:=by
  unfold seg;rw[j,bu,List.drop_append,jq (by omega),lt,sub_self,lT,g9,List.take_append,gx (by omega),I,sub_self,List.take_zero,fG]
 refine h _ ⟨pm.trans pi.pm,pi.fl,pi.kd,pi.le,?_,?_⟩ ?_ ?_
 .show fB (((pendingOf st).setIfInBounds i (sa,na+nb,c)).eraseIdxIfInBounds (i+1)).toList 0 lo
  rw[np];exact qV.mpr ⟨sa,y,rfl,by show 0<na+nb;omega,by show fB post (sa+(na+nb)) lo;rw[<-Nat.add_assoc];exact o⟩
 .show ∀q∈(((pendingOf st).setIfInBounds i (sa,na+nb,c)).eraseIdxIfInBounds (i+1)).toList,cA O key a q.1 q.2.1
  rw[np];intro q hq;rcases aU.mp hq with hq|hq
  .have:=in1.2 q hq
   exact oX (λt t1 R=>out t (.inl (by omega))) (pi.so q (by rw[e];exact jh _ hq))
  .rcases aQ.mp hq with rfl|hq
   .have w:sa+(na+nb)<=a.size:=by rw[pm.size_eq];omega
    exact(oY w).mpr (by rw[v];exact sz)
   .have:=f.2 q hq
    exact oX (λt t1 R=>out t (.inr (by omega))) (pi.so q (by rw[e];simp[hq]))
 .show(((pendingOf st).setIfInBounds i (sa,na+nb,c)).eraseIdxIfInBounds (i+1)).size+1=_
  rw[<-bE,np,<-bE (xs:=pendingOf st),e];simp only[bR,eV];omega
 .intro t ht
  exact out t (.inr (by have:=f.1;omega))
end
abbrev re(pw:Nat):Ru->Ru:=λ(a,b,_)=>(a,b,pw)
theorem AN{a:Nat}:∀{p:List Ru} {i f t:Nat},fB p f t->fB (p.modify i (re a)) f t
 |[],i,f,t,h=>by rw[List.modify_nil];exact h
 |x::p,0,f,t,h=>h
 |x::p,i+1,f,t,h=>⟨h.1,h.2.1,AN h.2.2⟩
theorem zJ{b:Nat}:∀{p:List Ru} {i:Nat} {q:Ru},q∈p.modify i (re b)->∃a∈p,a.1=q.1/\a.2.1=q.2.1
 |[],i,q,h=>by rw[List.modify_nil] at h;cases h
 |x::p,0,q,h=>by
  rcases aQ.mp (show q∈re b x::p from h) with rfl|h
  .exact⟨x,b8,rfl,rfl⟩
  .exact⟨q,bT _ h,rfl,rfl⟩
 |x::p,i+1,q,h=>by
  rcases aQ.mp (show q∈x::p.modify i (re b) from h) with rfl|h
  .exact⟨q,b8,rfl,rfl⟩
  .obtain⟨a,h1,h2⟩:=zJ h
   exact⟨a,bT _ h1,h2⟩
section
variable{M:Model}{A:Around}{E:aA}{s:Shared}{C:SortKind}{G:Keyed->Prop}{O:KeyOrd}{key:Keyed->O.α}
variable(cp:Cp M A E s C G (byKey O key)){a0:Array Keyed}(g:∀x∈a0.toList,G x)
theorem PI.push{st:SortSt}{lo n:Nat}(pi:PI O key C a0 st lo)(hn:0<n)(a:lo+n<=a0.size)(as:cA O key (arrOf st) lo n):PI O key C a0 (setPending st ((pendingOf st).push (lo,n,0))) (lo+n):=by
 have e:((pendingOf st).push (lo,n,0)).toList=(pendingOf st).toList++[(lo,n,0)]:=lK;refine⟨pi.pm,pi.fl,pi.kd,a,?_,?_⟩
 .show fB ((pendingOf st).push (lo,n,0)).toList 0 (lo+n)
  rw[e];exact qV.mpr ⟨lo,pi.ru,rfl,hn,rfl⟩
 .show ∀q∈((pendingOf st).push (lo,n,0)).toList,cA O key (arrOf st) q.1 q.2.1
  rw[e];intro q hq;rcases aU.mp hq with hq|hq
  .exact pi.so q hq
  .rw[bh.mp hq];exact as
theorem PI.re{st:SortSt}{lo i a:Nat}(pi:PI O key C a0 st lo):PI O key C a0 (setPending st ((pendingOf st).modify i (re a))) lo:=by
 have e:((pendingOf st).modify i (TS.re a)).toList=(pendingOf st).toList.modify i (TS.re a):=Array.toList_modify;refine⟨pi.pm,pi.fl,pi.kd,pi.le,?_,?_⟩
 .show fB ((pendingOf st).modify i (TS.re a)).toList 0 lo
  rw[e];exact AN pi.ru
 .show ∀q∈((pendingOf st).modify i (TS.re a)).toList,cA O key (arrOf st) q.1 q.2.1
  rw[e];intro q hq;obtain⟨b,h1,h2,h3⟩:=zJ hq;rw[<-h2,<-h3];exact pi.so b h1
theorem PI.arr{st:SortSt}{lo:Nat}{a:Array Keyed}(pi:PI O key C a0 st lo)(w:Wk (arrOf st) a lo):PI O key C a0 (setArr st a) lo:=by
 refine⟨w.pm.trans pi.pm,pi.fl,pi.kd,pi.le,pi.ru,λq hq=>?_⟩;have:=(nM pi.ru).2 q hq;exact oX (λt t1 b=>w.fx t (by omega)) (pi.so q hq)
include cp g
theorem K4{st:SortSt}{lo n size i:Nat}{Q:Option Unit×Unit->SortSt->Prop}(pi:PI O key C a0 st lo)(as:cA O key (arrOf st) lo n)
  (h:∀a,PI O key C a0 a lo->cA O key (arrOf a) lo n->Q (none,()) a):wpS M A E s (qX size i) Q st:=by
 unfold qX;refine eF (I:=λx c a=>c=(none,())/\PI O key C a0 a lo/\cA O key (arrOf a) lo n) ?_ ?_ ⟨rfl,pi,as⟩
 .rintro x c a _ _ ⟨rfl,b,d⟩
  refine ay (ig ?_);by_cases f:(pendingOf a).size>1
  .rw[aj f]
   cases e:(pendingOf a)[(pendingOf a).size - 2]? with
   |none=>exact aB (h a b d)
   |some q=>
    dsimp only;split
    .exact aB (h a b d)
    .refine ay (joined cp g b (by omega) λj p2 _ f2=>?_)
     exact aB ⟨rfl,p2,oX (λt t1 _=>f2 t t1) d⟩
  .rw[ai f]
   exact aB (h a b d)
 .rintro c a ⟨rfl,b,d⟩
  exact h a b d
theorem AR{st:SortSt}{lo n size:Nat}{R:ForInStep (Option Unit×Nat)->SortSt->Prop}(pi:PI O key C a0 st lo)(as:cA O key (arrOf st) lo n)(hn:0<n)(d:lo+n<=a0.size)
  (h:∀a,PI O key C a0 a (lo+n)->R (.yield (none,lo+n)) a):wpS M A E s (nO size lo n) R st:=by
 unfold nO;refine ay (ig ?_);cases e:(pendingOf st).back? with
 |none=>exact ay (fE (aB (h _ (pi.push hn d as))))
 |some q=>
  dsimp only;refine ay (K4 cp g pi as λa b c=>?_);dsimp only;exact ay (fE (ay (fE (aB (h _ ((PI.re b).push hn d c))))))
theorem La{st:SortSt}{lo b:Nat}{R:ForInStep (Option Unit×Nat)->SortSt->Prop}(pi:PI O key C a0 st lo)
  (h1:lo=a0.size->R (.done (none,lo)) st)(h2:∀n c,0<n->PI O key C a0 c (lo+n)->R (.yield (none,lo+n)) c):wpS M A E s (qY a0.size b lo) R st:=by
 unfold qY;have k:=pi.le;have e:∀x∈(arrOf st).toList,G x:=λx i=>g x ((jk.mp pi.pm).mem_iff.mp i);have hz:(arrOf st).size=a0.size:=pi.pm.size_eq;by_cases f:lo≥a0.size
 .rw[aj f]
  exact aB (h1 (by omega))
 .rw[ai f]
  refine ay (Dq cp (st:=st) (arr:=arrOf st) pi.kd e (by rw[hz];omega) ⟨Array.Perm.refl _,λ_ _=>rfl⟩ (by omega) λm a w l o as=>?_);dsimp only;by_cases h:m<b
  .rw[aj h]
   refine ay (lD ?_);refine ay (CW cp pi.kd e (by rw[hz];omega) (by omega) w as λp j d=>?_);exact AR cp g (pi.arr j) d (by omega) (by omega) λc q=>h2 _ c (by omega) q
  .rw[ai h]
   exact AR cp g (pi.arr w) as (by omega) (by omega) λc q=>h2 _ c (by omega) q
theorem KZ{st:SortSt}{Q:Option Unit×Unit->SortSt->Prop}(pi:PI O key C a0 st a0.size)
  (h:∀a,PI O key C a0 a a0.size->(pendingOf a).size<=1->Q (none,()) a):wpS M A E s (nN a0.size) Q st:=by
 unfold nN;refine eF (I:=λx c a=>c=(none,())/\PI O key C a0 a a0.size/\((pendingOf a).size<=1\/(pendingOf a).size+x<=a0.size)) ?_ ?_ ⟨rfl,pi,.inr ?_⟩
 .rintro x c a _ _ ⟨rfl,d,o⟩
  refine ay (ig ?_);by_cases e:(pendingOf a).size<=1
  .rw[aj e]
   exact aB (h a d e)
  .rw[ai e]
   have f:pick (pendingOf a)+1<(pendingOf a).size:=by
    have two:∀(b:Bool) (n:Nat),1<n->(if b=true then n - 2 - 1 else n - 2)+1<n:=λb n hn=>by
     cases b
     .rw[ai (by simp)];omega
     .rw[aj rfl];omega
    exact two _ _ (by omega)
   refine ay (joined cp g d f λi p2 j _=>?_);exact aB ⟨rfl,p2,.inr (by omega)⟩
 .rintro c a ⟨rfl,d,o⟩
  exact h a d (by omega)
 .have:=(nM pi.ru).1
  rw[bE] at this;omega
theorem LU{st:SortSt}{Q:Unit->SortSt->Prop}(hk:kindOf st=C)(t:failedOf st=none)(l:pendingOf st= #[])(m:arrOf st=a0)
  (h:∀a,(arrOf a).Perm a0->failedOf a=none->cA O key (arrOf a) 0 a0.size->Q () a):wpS M A E s sortRuns' Q st:=by
 have u:PI O key C a0 st 0:=⟨by rw[m],t,hk,b9 _,by rw[l];rfl,λq hq=>by rw[l] at hq;cases hq⟩
 rw[LS]
 refine ay (ig ?_)
 rw[m]
 have last:∀a,PI O key C a0 a a0.size->wpS M A E s (do
   let d <-nN a0.size
   match d.1 with
   |some r=>pure r
   |none=>pure ()) Q a:=λa b=>by
  refine ay (KZ cp g b λf p2 o=> ?_)
  refine aB (h f p2.pm p2.fl ?_)
  have ru:=p2.ru
  have so:=p2.so
  rw[<-bE] at o
  match e:(pendingOf f).toList,o with
  |[],_=>
   rw[e] at ru
   have:0=a0.size:=ru
   intro i j _ w
   omega
  |[q],_=>
   rw[e] at ru so
   obtain⟨v,_,p⟩:=ru
   have p:0+q.2.1=a0.size:=p
   have:=so q (bh.mpr rfl)
   rw[v,show q.2.1=a0.size by omega] at this
   exact this
  |_::_::_,z=>simp at z
 refine ay (eF (I:=λx c a=>∃lo,c=(none,lo)/\PI O key C a0 a lo/\x<=lo) ?_ ?_ ⟨0,rfl,u,aF _⟩)
 .rintro x c a _ y ⟨lo,rfl,b,k⟩
  refine La cp g b (λe=> ?_) (λn f hn p2=>⟨lo+n,rfl,p2,by omega⟩)
  subst e
  exact last a b
 .rintro c a ⟨lo,rfl,b,k⟩
  have:=b.le
  obtain rfl:lo=a0.size:=by omega
  exact last a b
end
open PySem.W PySem.Spec
section
variable{prog:Program}{w:World}{A:Around}{E:aA}{s:Shared}
theorem vU{vs:List Value}{x:Keyed}(h:x∈(vs.toArray.zip vs.toArray).toList):x.1∈vs/\x.2=x.1:=by
 rw[Array.toList_zip] at h;obtain⟨i,hi,rfl⟩:=iu h;rw[List.getElem_zip];exact⟨cz _,rfl⟩
theorem vV(vs:List Value):(vs.toArray.zip vs.toArray).toList.map (·.2)=vs:=by
 rw[Array.toList_zip];exact List.map_snd_zip (aF _)
theorem HH{κ:SortKind}{O:KeyOrd}{key:Value->O.α}{a:Addr}{vs:List Value}{n:Nat}{P:PySem.Fin->Shared->Prop}(r:s.heap.get? a=some (seqObj "list" vs.toArray n))(D:vs.length<=sizeLine)
  (hk:∀s':Shared,(∀b o,b≠a->s.heap.get? b=some o->s'.heap.get? b=some o)->2<=vs.length->∀R:SortKind->Shared->Prop,R κ s'->wpAny (model prog w) A (keyKind' vs.toArray) R (λ_ _=>False) s')
  (hc:∀s':Shared,(∀b o,b≠a->s.heap.get? b=some o->s'.heap.get? b=some o)->∀x∈vs,∀y∈vs,∀(R:Bool->Shared->Prop) (E:aA),R (O.blt (key x) (key y)) s'->wpAny (model prog w) A (keyLt' κ x y) R E s')
  (h:∀ys:List Value,ys.Perm vs->ys.Pairwise (λx y=>O.kle (key x) (key y))->P (.done (.ret .none)) {s with heap:=sortedHeap s.heap a vs ys.toArray}):
  wpAny (model prog w) A (Builtin.«list.sort» ⟨[.ref a],[]⟩) P E s:=by
 rw[list_sort_plain]
 have F:a<s.heap.objs.size:=aM r
 refine aa (listItems_at r rfl ?_)
 refine aa (listUpdate_at r rfl ?_ (by rw[bV];exact D) (b9 _))
 obtain⟨g,k⟩:∃g,(s.heap.update a (Obj.mapSeq λ_=>(#[]:Array Value))).get? a=some (seqObj "list" #[] g):=⟨_,get?_update_seq r λ_=> #[]⟩
 refine aa (seqEpoch_at k rfl ?_)
 refine aa (wpAny_newTuple ?_ (by show vs.length<=_;exact D))
 refine aa (wpAny_newList ?_ (b9 _))
 refine dU ?_
 have d:(((s.heap.update a (Obj.mapSeq λ_=>(#[]:Array Value))).push (seqObj "tuple" vs.toArray 0)).push (seqObj "list" #[] 0)).get? a=some (seqObj "list" #[] g):=by
  rw[Heap.get?_push_ne _ _ _ (by rw[size_push',oj];exact aV (fD F)),Heap.get?_push_ne _ _ _ (by rw[oj];exact aV F)]
  exact k
 have kp:∀b o,b≠a->s.heap.get? b=some o->(((s.heap.update a (Obj.mapSeq λ_=>(#[]:Array Value))).push (seqObj "tuple" vs.toArray 0)).push (seqObj "list" #[] 0)).get? b=some o:=λb o J q=>
  aR _ (aR _ (by rw[Heap.get?_update_ne _ _ _ _ J];exact q))
 show wpAny (model prog w) A _ P E {s with heap:=((s.heap.update a (Obj.mapSeq λ_=>(#[]:Array Value))).push (seqObj "tuple" vs.toArray 0)).push (seqObj "list" #[] 0)}
 dsimp only
 have K:(vs.toArray.zip vs.toArray).toList.length=vs.length:=by
  have:=dh List.length (vV vs)
  rwa [bC] at this
 by_cases h2:vs.toArray.size<2
 .rw[aj h2,aj h2]
  refine aa (ak ?_)
  rw[StateT.run_pure]
  refine aa (ak ?_)
  dsimp only
  have G:vs.length<2:=by simpa using h2
  have e:=h vs (Perm.refl _) (iQ.mpr λi j hi Y L=>by omega)
  have u:(arrOf (SortSt.mk' general' (vs.toArray.zip vs.toArray) #[] 7 none)).map (·.2)=vs.toArray:=by
   apply Array.toList_inj.mp
   rw[Array.toList_map]
   exact vV vs
  rw[u]
  refine aa (seqEpoch_at d rfl ?_)
  refine aa (listUpdate_at d rfl ?_ (b9 _) (by rw[bV];omega))
  simp only[jn,cu,bW]
  exact ak e
 .rw[ai h2,ai h2]
  have G:2<=vs.length:=by
   have:vs.toArray.size=vs.length:=by simp
   omega
  obtain⟨f,v⟩:∃f:Shared,f={s with heap:=((s.heap.update a (Obj.mapSeq λ_=>(#[]:Array Value))).push (seqObj "tuple" vs.toArray 0)).push (seqObj "list" #[] 0)}:=⟨_,rfl⟩
  have l:∀b o,b≠a->s.heap.get? b=some o->f.heap.get? b=some o:=by rw[v];exact kp
  rw[<-v]
  refine aa (h_ (hk f l G (λm s'=>m=κ/\s'=f) ⟨rfl,rfl⟩) ?_ λ_ _ x=>x.elim)
  rintro m s' ⟨M,es⟩
  rw[M,es]
  have cp:Cp (model prog w) A E f κ (λx:Keyed=>x.1∈vs/\x.2=x.1) (byKey O λx=>key x.1):=by
   refine⟨λ {x y st Q} N S hk q=> ?_,λ {x y} _ _ e=>KeyOrd.klt_asymm e,λ {x y z} _ _ _ g T=>oE g T⟩
   rw[lt'_eq]
   refine ay (ig ?_)
   rw[hk]
   refine ay (wpS_lift (j4 (hc f l x.1 N.1 y.1 S.1 _ _ ⟨rfl,?_⟩)))
   exact aB q
  refine aa (h_ (LU cp (a0:=vs.toArray.zip vs.toArray) (st:=SortSt.mk' κ (vs.toArray.zip vs.toArray) #[] 7 none) (λx B=>vU B) rfl rfl rfl rfl
   (Q:=λ_ c=>(arrOf c).Perm (vs.toArray.zip vs.toArray)/\failedOf c=none/\cA O (λx=>key x.1) (arrOf c) 0 (vs.toArray.zip vs.toArray).size) λc p U t=>⟨p,U,t⟩) ?_ λ_ _ e=>e)
  rintro ⟨⟨⟩,c⟩ V ⟨C,p,H,t⟩
  dsimp only at p H t ⊢
  rw[C]
  have pm:=jk.mp p
  have hz:(arrOf c).size=(vs.toArray.zip vs.toArray).size:=p.size_eq
  have W:seg (arrOf c) 0 (vs.toArray.zip vs.toArray).size=(arrOf c).toList:=by
   unfold seg
   rw[lT,<-hz]
   exact gx (by rw[bE];exact aF _)
  have I:=(oY (by rw[hz,zero_add];exact aF _)).mp t
  rw[W] at I
  have py:((arrOf c).toList.map (·.2)).Perm vs:=by
   have:=pm.map (·.2)
   rwa [vV] at this
  have so:((arrOf c).toList.map (·.2)).Pairwise (λx y=>O.kle (key x) (key y)):=by
   rw[lI]
   refine I.imp_of_mem λ {x y} B X e=> ?_
   rw[(vU (pm.mem_iff.mp B)).2,(vU (pm.mem_iff.mp X)).2]
   exact e
  have u:(arrOf c).map (·.2)=((arrOf c).toList.map (·.2)).toArray:=by
   apply Array.toList_inj.mp
   rw[Array.toList_map]
  rw[u]
  subst v
  refine aa (seqEpoch_at d rfl ?_)
  refine aa (listUpdate_at d rfl ?_ (b9 _) (by rw[bV,py.length_eq];omega))
  rw[H]
  simp only[jn,cu,bW]
  exact ak (h _ py so)
end
open KO
theorem JT{α β:Type}{f:α->β}:∀{l k:List β},l.Perm k->∀{m:List α},k=m.map f->∃c:List α,c.Perm m/\l=c.map f:=by
 intro l k h;induction h with
 |nil=>
  intro m e;exact⟨[],by rw[List.map_eq_nil_iff.mp e.symm],rfl⟩
 |cons a _ n=>
  intro m e;cases m with
  |nil=>cases e
  |cons b m=>
   obtain⟨d,g⟩:=List.cons.inj (show _=f b::m.map f from e);obtain⟨c,h1,h2⟩:=n g;exact⟨b::c,h1.cons b,by rw[dD,<-d,h2]⟩
 |swap a b l=>
  intro m e;match m,e with
  |x::y::m,e=>
   obtain⟨d,g⟩:=List.cons.inj (show _=f x::f y::m.map f from e);obtain⟨o,p⟩:=List.cons.inj g;exact⟨y::x::m,Perm.swap x y m,by rw[dD,dD,<-d,<-o,p]⟩
 |trans _ _ i j=>
  intro m e;obtain⟨s,h1,h2⟩:=j e;obtain⟨q,h3,r⟩:=i h2;exact⟨q,h3.trans h1,r⟩
theorem KJ(vs:List Value)(d:Value):vs=(range vs.length).map λi=>vs.getD i d:=by
 refine ext_getElem (by rw[bC,l5]) λi h1 h2=>?_;rw[List.getElem_map,List.getElem_range,cO,aZ h1];rfl
end TS
namespace SM
open PySem PySem.W PySem.Spec PyProof.Rows
mutual
def kq:PyData->Bool
 |.int _|.str _=>true
 |.tuple ds=>jc ds
 |.none|.bool _|.list _|.dict _=>false
def jc:List PyData->Bool
 |[]=>true
 |d::r=>kq d&&jc r
end
mutual
def hq(w:World):PyData->Int
 |.int i=>hashInt i
 |.str x=>hashStr w x
 |.tuple ds=>reduceHash (Builtin.Tuple.tupleHashOf (m8 w ds))
 |.none|.bool _|.list _|.dict _=>0
def m8(w:World):List PyData->List Int
 |[]=>[]
 |d::r=>hq w d::m8 w r
end
section
variable{prog:Program}{w:World}{E:aA}
mutual
theorem Al:∀(d:PyData) (v:Value) (as:List Addr) (A:Around) (s:Shared) (Q:Int->Shared->Prop),kq d=true->Reads s.heap v d as->A.units+d.depth<cLine->(∀tk,s.toks<=tk->Q (hq w d) {s with toks:=tk})->wpAny (model prog w) A (pyHash v) Q E s
 |.int i,_,_,A,s,Q,_,r,_,h=>by cases r;exact wpAny_pyHash_int (h _ (le_succ _))
 |.str x,_,_,A,s,Q,_,r,_,h=>by cases r;exact wpAny_pyHash_str (h _ (le_succ _))
 |.tuple xs,_,_,A,s,Q,hk,r,c,h=>by
  cases r with
  | @tuple a o vs n _ e h1 h2 h3 f=>
   refine pyHash_slot (T:="tuple") ⟨_,h1,h2⟩ F.slot_tuple_hash F.entry_tuple_hash (F.args_tuple_hash_1 _) (beq_builtin_none _) (.inr (by omega)) ?_;show wpAny _ _ (Builtin.Tuple.tupleItemsOf (.ref a)>>=_) _ _ s;refine aa (wpAny_tupleItemsOf h1 h3 ?_);refine aa ?_;rw[<-lV];refine yW xs vs.toList _ A.in1 s #[] _ hk f (by simp only[PyData.depth,Around.in1_units] at c ⊢;omega) λtk b g j=>?_;show wpAny _ _ (retInt (Builtin.Tuple.tupleHashOf b.toList)) _ _ _;rw[j];exact aa (wpAny_mkInt (ak ⟨_,_,rfl,h _ (cP g (le_succ _))⟩))
 |.none,_,_,_,_,_,hk,_,_,_|.bool _,_,_,_,_,_,hk,_,_,_|.list _,_,_,_,_,_,hk,_,_,_|.dict _,_,_,_,_,_,hk,_,_,_=>by simp[kq] at hk
theorem yW:∀(xs:List PyData) (vs:List Value) (as:List Addr) (A:Around) (s:Shared) (b:Array Int) (Q:Array Int->Shared->Prop),jc xs=true->ReadsAll s.heap vs xs as->A.units+depthAll xs<cLine->
  (∀tk a,s.toks<=tk->a.toList=b.toList++m8 w xs->Q a {s with toks:=tk})->
  wpAny (model prog w) A (forIn vs b λx r=>do let h <-pyHash x;pure PUnit.unit;pure (ForInStep.yield (r.push h))) Q E s
 |[],_,_,A,s,b,Q,_,x,_,h=>by cases x;exact ak (h s.toks b (aF _) (by simp[m8]))
 |k::xs,_,_,A,s,b,Q,hk,x,e,h=>by
  cases x with
  |cons f g=>
   simp only[jc,fF,depthAll] at hk e;rw[forIn_cons];refine aa (aa (Al k _ _ A s _ hk.1 f (by omega) λtk i=>?_));refine aa (ak (ak ?_));exact yW xs _ _ A _ _ Q hk.2 g (by omega) λc a d j=>h c a (cP i d) (by simp[j,m8])
end
variable{A:Around}{s:Shared}
theorem ua{d:PyData}{v:Value}{as:List Addr}(hk:kq d=true)(r:Reads s.heap v d as)(h:d.depth=0):carriedByValue v=true:=by
 cases r<;>first|rfl|(simp[PyData.depth] at h)|(simp[kq] at hk)
def jv(s:Shared)(n:Nat)(rest:List Value):Prop:=∃ds as,ReadsAll s.heap rest ds as/\jc ds=true/\depthAll ds<=n
theorem jv.cons{n:Nat}{v:Value}{rest:List Value}(h:jv s n (v::rest)):(∃d as,Reads s.heap v d as/\kq d=true/\d.depth<=n)/\jv s n rest:=by
 obtain⟨ds,as,h1,h2,h3⟩:=h;cases h1 with
 |cons a b=>
  simp only[jc,fF,depthAll] at h2 h3;exact⟨⟨_,_,a,h2.1,by omega⟩,_,_,b,h2.2,by omega⟩
theorem node{d:PyData}{v:Value}{as:List Addr}{n:Nat}(hk:kq d=true)(r:Reads s.heap v d as)(h0:d.depth≠0)(h:d.depth<=n+1):∃a o vs e,v=.ref a/\s.heap.get? a=some o/\o.cls=.type "tuple"/\o.data=.seq vs e/\jv s n vs.toList:=by
 cases r with
 | @tuple a o vs e xs b h1 h2 h3 c=>
  simp only[PyData.depth] at h;exact⟨a,o,vs,e,rfl,h1,h2,h3,xs,_,c,hk,by omega⟩
 |none=>simp[kq] at hk
 |bool=>simp[kq] at hk
 |int=>simp[PyData.depth] at h0
 |str=>simp[PyData.depth] at h0
 |list=>simp[kq] at hk
 |dict=>simp[kq] at hk
theorem Am:∀(n:Nat) (d:PyData) (v:Value) (as:List Addr) (Q:Bool->Shared->Prop),kq d=true->Reads s.heap v d as->d.depth<=n->Q true s->wpAny (model prog w) A (eqIsQuiet n v) Q E s
 |n,d,v,as,Q,hk,r,hn,h=>by
  by_cases z:d.depth=0
  .rw[eqIsQuiet_byValue _ (ua hk r z)];exact ak h
  cases n with
  |zero=>omega
  |succ n=>
   obtain⟨a,o,vs,e,rfl,h1,h2,h3,j⟩:=node hk r z hn;have i:s.TypeIs (.ref a) "tuple":=⟨o,h1,h2⟩;unfold eqIsQuiet;refine aa (oA i F.slot_tuple_eq.lookup ?_);show wpAny _ _ (isInstance (.ref a) (.type "tuple")>>=_) _ _ s;refine aa (ou i isSubtype_tuple_tuple ?_);simp only[lY,cu,bW];refine aa (gB h1 h3 ?_);refine aa ?_;show wpAny _ _ (forIn vs _ _) _ _ s;rw[<-lV];refine oq _ (λrest r s'=>r.1=none/\s=s'/\jv s n rest) _ ?_ ?_ _ _ ⟨rfl,rfl,j⟩
   .rintro v rest r s' ⟨f,rfl,c⟩
    obtain⟨⟨d',g,r',k',n'⟩,b⟩:=c.cons;refine aa (Am n d' v g _ k' r' n' ?_);simp only[lY,cu,bW];exact ak ⟨rfl,rfl,b⟩
   .rintro ⟨k,l⟩ s' ⟨f,rfl,_⟩
    simp only at f;subst f;exact ak h
theorem IT(n:Nat){v:Value}(h:carriedByValue v=true):ofAClassStatement n v=pure false:=by
 cases v with
 |ref a=>simp[carriedByValue] at h
 |_=>first|rfl|simp[ofAClassStatement]|(unfold ofAClassStatement;rfl)
theorem zY:∀(n:Nat) (d:PyData) (v:Value) (as:List Addr) (Q:Bool->Shared->Prop),kq d=true->Reads s.heap v d as->d.depth<=n->Q false s->wpAny (model prog w) A (ofAClassStatement n v) Q E s
 |n,d,v,as,Q,hk,r,hn,h=>by
  by_cases z:d.depth=0
  .rw[IT _ (ua hk r z)];exact ak h
  cases n with
  |zero=>omega
  |succ n=>
   obtain⟨a,o,vs,e,rfl,h1,h2,h3,i⟩:=node hk r z hn;have j:s.TypeIs (.ref a) "tuple":=⟨o,h1,h2⟩;unfold ofAClassStatement;refine aa (iR j ?_);dsimp only;refine aa ?_;refine ak ?_;simp only[lY,cu,bW];refine aa (gB h1 h3 ?_);dsimp only;refine aa ?_;rw[<-lV];refine oq _ (λrest r s'=>r.1=none/\s=s'/\jv s n rest) _ ?_ ?_ _ _ ⟨rfl,rfl,i⟩
   .rintro v rest r s' ⟨f,rfl,c⟩
    obtain⟨⟨d',g,r',k',n'⟩,b⟩:=c.cons;refine aa (zY n d' v g _ k' r' n' ?_);simp only[cu,bW];exact ak ⟨rfl,rfl,b⟩
   .rintro ⟨k,l⟩ s' ⟨f,rfl,_⟩
    simp only at f;subst f;exact ak h
theorem Gv{n:Nat}{v:Value}(h:carriedByValue v=true):∃b,hashByValue n v=pure b:=by
 cases v with
 |ref a=>simp[carriedByValue] at h
 |_=>exact⟨_,by unfold hashByValue;rfl⟩
theorem yX:∀(n:Nat) (d:PyData) (v:Value) (as:List Addr) (Q:Bool->Shared->Prop),kq d=true->Reads s.heap v d as->d.depth<=n->(∀b,Q b s)->wpAny (model prog w) A (hashByValue n v) Q E s
 |n,d,v,as,Q,hk,r,hn,h=>by
  by_cases z:d.depth=0
  .obtain⟨b,e⟩:=Gv (n:=n) (ua hk r z)
   rw[e];exact ak (h b)
  cases n with
  |zero=>omega
  |succ n=>
   obtain⟨a,o,vs,e,rfl,h1,h2,h3,j⟩:=node hk r z hn;have k:s.TypeIs (.ref a) "tuple":=⟨o,h1,h2⟩;unfold hashByValue;refine aa (oA k F.slot_tuple_hash.lookup ?_);dsimp only;refine aa (gB h1 h3 ?_);refine aa ?_;show wpAny _ _ (forIn vs _ _) _ _ s;rw[<-lV];refine oq _ (λrest r s'=>r.1=none/\s=s'/\jv s n rest) _ ?_ ?_ _ _ ⟨rfl,rfl,j⟩
   .rintro v rest r s' ⟨_,rfl,f⟩
    obtain⟨⟨d',g,r',k',n'⟩,c⟩:=f.cons;refine aa (yX n d' v g _ k' r' n' λb=>?_);cases b with
    |false=>exact ak (ak (h false))
    |true=>exact ak ⟨rfl,rfl,c⟩
   .rintro ⟨l,m⟩ s' ⟨i,rfl,_⟩
    simp only at i;subst i;exact ak (h true)
end
def Kp(h0 h:Heap):Prop:=∀b o,h0.get? b=some o->h.get? b=some o
structure TK(K:Type)[DecidableEq K] where
 q:K->PyData
 P:K->Prop
 ok:∀k,kq (q k)=true
 lay:∀k,P k->(q k).canLay0=true
 dep:∀k,P k->(q k).depth<=8
 eq:∀x y,PyData.eqv (q x) (q y)=decide (x=y)
section
variable{prog:Program}{w:World}{E:aA}{A:Around}{s:Shared}{K:Type}[DecidableEq K]{kd:TK K}{h0:Heap}{k k':K}{a b:Addr}
def TK.is(kd:TK K)(h0:Heap)(k:K)(a:Addr):Prop:=kd.P k/\∃as,Reads h0 (.ref a) (kd.q k) as
def TK.hash(kd:TK K)(w:World)(k:K):Int:=hq w (kd.q k)
theorem TK.hashes{Q:Int->Shared->Prop}(d:A.units+40<cLine)(b:Kp h0 s.heap)(hk:kd.is h0 k a)(h:∀tk,s.toks<=tk->Q (kd.hash w k) {s with toks:=tk}):wpAny (model prog w) A (pyHash (.ref a)) Q E s:=by
 obtain⟨c,as,r⟩:=hk;exact Al _ _ _ A s _ (kd.ok k) (PyProof.Rows.Reads.keeps b r) (by have:=kd.dep k c;omega) h
theorem TK.eqs{Q:Bool->Shared->Prop}(i:A.units+40<cLine)(d:Kp h0 s.heap)(f:kd.is h0 k a)(g:kd.is h0 k' b)(h:Q (decide (k=k')) s):wpAny (model prog w) A (eqBool (.ref a) (.ref b)) Q E s:=by
 obtain⟨e,as,r⟩:=f;obtain⟨c,bs,r'⟩:=g;rw[<-kd.eq] at h;exact PySem.SeqAt.eqAt_reads _ _ A s _ _ _ _ (PyProof.Rows.Reads.keeps d r) (PyProof.Rows.Reads.keeps d r') (kd.lay k e) (kd.lay k' c) (by have:=kd.dep k e;omega) prog w E Q h
theorem TK.quiet{Q:Bool->Shared->Prop}(b:Kp h0 s.heap)(c:kd.is h0 k a)(h:Q true s):wpAny (model prog w) A (eqIsQuiet 8 (.ref a)) Q E s:=by
 obtain⟨d,as,r⟩:=c;exact Am 8 _ _ _ _ (kd.ok k) (PyProof.Rows.Reads.keeps b r) (kd.dep k d) h
theorem TK.zX{Q:Bool->Shared->Prop}(b:Kp h0 s.heap)(c:kd.is h0 k a)(h:Q false s):wpAny (model prog w) A (ofAClassStatement 8 (.ref a)) Q E s:=by
 obtain⟨d,as,r⟩:=c;exact zY 8 _ _ _ _ (kd.ok k) (PyProof.Rows.Reads.keeps b r) (kd.dep k d) h
theorem TK.hbv{Q:Bool->Shared->Prop}(c:Kp h0 s.heap)(d:kd.is h0 k a)(h:∀b,Q b s):wpAny (model prog w) A (hashByValue 8 (.ref a)) Q E s:=by
 obtain⟨e,as,r⟩:=d;exact yX 8 _ _ _ _ (kd.ok k) (PyProof.Rows.Reads.keeps c r) (kd.dep k e) h
end
end SM
section
open PySem PySem.Spec PyProof.Rows
namespace SM
open SR ST
section
variable{prog:Program}{w:World}{K:Type}[DecidableEq K]{kd:TK K}{h0:Heap}{A:Around}{E:aA}{s:Shared}
theorem seen{j:K}{b:Addr}{st:List Value}{Q:Bool->Shared->Prop}(e:Kp h0 s.heap)(hk:kd.is h0 j b)(f:∀y∈st,∃k a,y=.ref a/\kd.is h0 k a)(h:Q false s):
  wpAny (model prog w) A (searchCouldBeSeen (.ref b) st) Q E s:=by
 unfold searchCouldBeSeen;refine aa ?_;refine oq _ (λrest r s'=>r.1=none/\s'=s/\∀y∈rest,∃k a,y=.ref a/\kd.is h0 k a) _ ?_ ?_ _ _ ⟨rfl,rfl,f⟩
 .rintro v rest r s' ⟨g,rfl,c⟩
  obtain⟨k,a,rfl,d⟩:=c v b8;have nx:∀y∈rest,∃k a,y=Value.ref a/\kd.is h0 k a:=λu i=>c u (bT _ i);dsimp only;split
  .exact ak ⟨rfl,rfl,nx⟩
  .refine aa (TK.quiet e hk ?_)
   simp only[lY,cu,bW];refine aa (TK.quiet e d ?_);simp only[lY,cu,bW];refine aa (TK.zX e hk ?_);simp only[cu,bW];refine aa (TK.zX e d ?_);simp only[cu,bW];exact ak ⟨rfl,rfl,nx⟩
 .rintro ⟨l,m⟩ s' ⟨g,rfl,_⟩
  simp only at g;subst g;exact ak h
theorem search{a b:Addr}{c:K}{g:List (K×Addr)}{o:Obj}{es:Array (Int×Value)}{ep:Nat}{t:SetTable}{N:Nat}{Q:SetFound->Shared->Prop}
  (hu:A.units+40<cLine)(hp:Kp h0 s.heap)(ho:s.heap.get? a=some o)(hd:o.data= .set es ep t)(hf:t.fits es.size=true)(I:es.toList=g.map λx=>(kd.hash w x.1,Value.ref x.2))
  (J:∀x∈g,kd.is h0 x.1 x.2)(T:Tb t (g.map λx=>kd.hash w x.1))(hk:kd.is h0 c b)
  (R:(it t.mask N (br t.mask (kd.hash w c))).j∉pl t)(hl:∀q,q<N->(it t.mask q (br t.mask (kd.hash w c))).j∈pl t)(yU:N<10*SetTable.turns t.mask)
  (S:c∈g.map (·.1)->Q (.there none) s)(L:c∉g.map (·.1)->Q (.free (it t.mask N (br t.mask (kd.hash w c))).j false) s):
  ∀(d fuel n:Nat) (st:Option SetTable.Probe),N - n=d->n<=N->d<fuel->st.getD (t.probeStart (kd.hash w c))=it t.mask n (br t.mask (kd.hash w c))->
   (∀q,q<n->∀i:Nat,t.place[i]? =some (it t.mask q (br t.mask (kd.hash w c))).j->∀x:K×Addr,g[i]? =some x->x.1≠c)->
   wpAny (model prog w) A (setSearchFrom a (.ref b) (kd.hash w c) true fuel st) Q E s:=by
 have u:∀(i:Nat) (x:K×Addr),g[i]? =some x->es[i]? =some (kd.hash w x.1,Value.ref x.2):=λi x r=>by
  rw[<-d8,I,bF,r];rfl
 have B:g.length=t.place.size:=by rw[T.sz,bC]
 intro d
 induction d using Nat.strongRecOn with
 |ind d ih=>
  intro fuel n st hd' hn U V M
  cases fuel with
  |zero=>exact absurd U (fV _)
  |succ fuel=>
   have D:∀q,it t.mask q (it t.mask n (br t.mask (kd.hash w c)))=it t.mask (q+n) (br t.mask (kd.hash w c)):=λq=>(kX _ _ _ _).symm
   unfold setSearchFrom
   refine aa (ic ho hd hf ?_)
   dsimp only
   have W:t.gaveWay=false:=by
    unfold SetTable.gaveWay
    rw[T.cy.2.2];rfl
   rw[W,V]
   simp only[cu,bW]
   have eN:it t.mask (N - n) (it t.mask n (br t.mask (kd.hash w c)))=it t.mask N (br t.mask (kd.hash w c)):=by rw[D,show N - n+n=N by omega]
   have X:=yN T.rs T.dm (f:=λi=>(es[i]?.map (·.1)).getD 0) (h:=kd.hash w c) (N - n) (10*SetTable.turns t.mask) (it t.mask n (br t.mask (kd.hash w c))) (by omega) ((jS _ _).it n).d (by rw[eN];exact R) (λq hq=>by rw[D];exact hl _ (by omega))
   rcases X with⟨e,F⟩|⟨k,i,hkn,hi,hh,e,F⟩
   .have Y:t.probe (λi=>(es[i]?.map (·.1)).getD 0) (kd.hash w c) (it t.mask n (br t.mask (kd.hash w c)))=some (.empty (it t.mask N (br t.mask (kd.hash w c))).j none):=by
     show SetTable.probe.go _ _ _ _ _=_
     rw[e,eN]
    show wpAny _ _ (match t.probe (λi=>(es[i]?.map (·.1)).getD 0) (kd.hash w c) (it t.mask n (br t.mask (kd.hash w c))) with|some met=>_|x=>_) _ _ _
    rw[Y]
    refine ak (L λO=> ?_)
    obtain⟨x,r,rfl⟩:=bX.mp O
    obtain⟨i,hi⟩:=List.getElem?_of_mem r
    have l:i<t.place.size:=by rw[<-B];exact(bY.mp hi).1
    have v:t.place[i]? =some (t.place[i]'l):=b_ l
    have hz:(t.place[i]'l,kd.hash w x.1)∈(pl t).zip (g.map λx=>kd.hash w x.1):=by
     refine iP (i:=i) ?_
     rw[vK]
     exact⟨by rw[d8];exact v,by rw[bF,hi];rfl⟩
    obtain⟨m,h1,h2⟩:=T.pa _ _ hz
    have hm:m<N:=by
     rcases Nat.lt_trichotomy m N with z|z|z
     .exact z
     .rw[z] at h1
      rw[h1] at R
      exact absurd (uz v) R
     .exact absurd (h2 N z) R
    by_cases z:m<n
    .exact M m z i (by rw[h1];exact v) x hi rfl
    .refine F (m - n) (by omega) i ?_ ?_
     .rw[D,show m - n+n=m by omega,h1];exact v
     .rw[u i x hi];rfl
   .have Y:t.probe (λi=>(es[i]?.map (·.1)).getD 0) (kd.hash w c) (it t.mask n (br t.mask (kd.hash w c)))=some (.candidate (it t.mask (k+n) (br t.mask (kd.hash w c))).j i (it t.mask (k+1+n) (br t.mask (kd.hash w c)))):=by
     show SetTable.probe.go _ _ _ _ _=_
     rw[e,D,D]
    rw[D] at hi
    have l:i<g.length:=by
     rw[B]
     exact(oH.mp hi).1
    have r:g[i]? =some (g[i]'l):=aZ l
    generalize g[i]'l=x at r
    have Z:=J x (iP r)
    show wpAny _ _ (match t.probe (λi=>(es[i]?.map (·.1)).getD 0) (kd.hash w c) (it t.mask n (br t.mask (kd.hash w c))) with|some met=>_|x=>_) _ _ _
    rw[Y]
    dsimp only
    have main:wpAny (model prog w) A (do
      let some (_,y):=es[i]? |unsupported "internal:set-entry"
      let equal <-holding [y] (eqBool y (.ref b))
      let (es',_,t') <-setState a
      if true&&equal then return .there none
      let some same:=t'.sameMemory t.moves t.mask|unsupported "set.changed-during-lookup:is-the-new-block-at-the-old-address"
      let G <-match (if same then t'.slot (it t.mask (k+n) (br t.mask (kd.hash w c))).j else .empty) with
       | .live C=>match es'[C]? with
        |some (_,y')=>do pure (if <-isSame y' y then some C else none)
        |none=>pure none
       |_=>pure none
      match G with
      |none=>rule "set.search.anew";setSearchFrom a (.ref b) (kd.hash w c) true fuel none
      |some C=>if equal then return .there (some C) else setSearchFrom a (.ref b) (kd.hash w c) true fuel (some (it t.mask (k+1+n) (br t.mask (kd.hash w c))))) Q E s:=by
     rw[u i x r]
     dsimp only
     refine aa (dU (TK.eqs hu hp Z hk ?_))
     refine aa (ic ho hd hf ?_)
     dsimp only
     by_cases z:x.1=c
     .rw[fY z]
      simp only[Bool.and_self,f5]
      exact ak (S (bX.mpr ⟨x,iP r,z⟩))
     .rw[dW z]
      simp only[Bool.and_false,cu,bW]
      have es1:t.sameMemory t.moves t.mask=some true:=by unfold SetTable.sameMemory;rw[aj (by simp)]
      rw[es1]
      dsimp only
      rw[aj rfl,BL T.rs hi]
      dsimp only
      rw[u i x r]
      dsimp only
      refine aa (wpAny_isSame_ref_self ?_)
      refine aa (ak ?_)
      simp only[f5]
      refine ih (N - (k+1+n)) (by omega) fuel (k+1+n) _ rfl (by omega) (by omega) rfl λq hq C l H p=> ?_
      by_cases z1:q<n
      .exact M q z1 C l H p
      .by_cases z2:q=k+n
       .rw[z2] at l
        have:=tV T.rs hi l
        rw[<-this,r] at p
        cases p
        exact z
       .intro z3
        refine F (q - n) (by omega) C ?_ ?_
        .rw[D,show q - n+n=q by omega];exact l
        .rw[u C H p,z3];rfl
    split
    .refine aa (seen hp hk (λy hy=> ?_) ?_)
     .obtain⟨e1,Gw,rfl⟩:=bX.mp hy
      have P:e1∈es.toList:=by
       have:e1∈(es.filter (λx=>x.1==kd.hash w c)).toList:=Gw
       rw[Array.toList_filter] at this
       exact(mem_filter.mp this).1
      rw[I] at P
      obtain⟨H,p,rfl⟩:=bX.mp P
      exact⟨H.1,H.2,rfl,J H p⟩
     .simp only[cu,bW]
      exact main
    .exact main
end
def uM(m:Nat):Nat->Nat->List Nat
 |0,_=>[]
 |k+1,i=>i::uM m k ((i*5+1)%(m+1))
theorem z5(m:Nat):∀(k i j:Nat),j∈uM m k i->∃a,a<k/\cy m a i=j
 |0,i,j,h=>by cases h
 |k+1,i,j,h=>by
  rcases aQ.mp h with rfl|h
  .exact⟨0,jY _,rfl⟩
  .obtain⟨a,b,e⟩:=z5 m k _ j h
   exact⟨a+1,by omega,by rw[o_];exact e⟩
theorem xK(m:Nat)(h:((range (m+1)).all λi=>(uM m (m+1) 0).contains i)=true)(h2:cy m (m+1) 0=0)(h3:m%2=1):eW m:=⟨λi hi=>by
 have:=all_eq_true.mp h i (fU.mpr (by omega));obtain⟨a,b,e⟩:=z5 m (m+1) 0 i (by simpa using this);exact⟨a,by omega,e⟩,h2,h3⟩
theorem DC:eW 127:=xK 127 (by decide+kernel) (by decide+kernel) rfl
theorem DF:eW 511:=xK 511 (by decide+kernel) (by decide+kernel) rfl
def Wd(m n:Nat):Prop:=(m=7/\n<=4)\/(m=31/\n<=18)\/(m=127/\n<=76)\/(m=511/\n<=200)
theorem Wd.grow{m n:Nat}(h:Wd m n)(hn:n+1<=200)(hz:(n+1)*5≥m*3):∃a,eW a/\SetTable.sizeAbove (SetTable.grown (n+1))=a+1/\n+1<=a/\Wd a (n+1):=by
 rcases h with⟨rfl,h⟩|⟨rfl,h⟩|⟨rfl,h⟩|⟨rfl,h⟩
 .obtain rfl:n=4:=by omega
  exact⟨31,DE,by decide+kernel,by omega,.inr (.inl ⟨rfl,by omega⟩)⟩
 .obtain rfl:n=18:=by omega
  exact⟨127,DC,by decide+kernel,by omega,.inr (.inr (.inl ⟨rfl,by omega⟩))⟩
 .obtain rfl:n=76:=by omega
  exact⟨511,DF,by decide+kernel,by omega,.inr (.inr (.inr ⟨rfl,by omega⟩))⟩
 .omega
theorem Wd.keep{m n:Nat}(h:Wd m n)(hn:n+1<=200)(hz:¬(n+1)*5≥m*3):Wd m (n+1):=by
 rcases h with⟨rfl,h⟩|⟨rfl,h⟩|⟨rfl,h⟩|⟨rfl,h⟩
 .exact .inl ⟨rfl,by omega⟩
 .exact .inr (.inl ⟨rfl,by omega⟩)
 .exact .inr (.inr (.inl ⟨rfl,by omega⟩))
 .exact .inr (.inr (.inr ⟨rfl,by omega⟩))
theorem Wd.le{m n:Nat}(h:Wd m n)(hn:n+1<=200):n+1<=m/\m<=511:=by
 rcases h with⟨rfl,h⟩|⟨rfl,h⟩|⟨rfl,h⟩|⟨rfl,h⟩<;>omega
theorem yw{α β:Type}{f:α->Option β}{g:α->β}:∀{l:List α},(∀x∈l,f x=some (g x))->l.filterMap f=l.map g
 |[],_=>rfl
 |x::l,h=>by
  rw[rU,h x b8,dD,<-yw λy a=>h y (bT _ a)]
theorem KI{α:Type}(l:List α)(d:α):(range l.length).map (λi=>l.getD i d)=l:=by
 refine ext_getElem (by simp) λi h1 h2=>?_;simp[cO,aZ h2]
section
variable{prog:Program}{w:World}{K:Type}[DecidableEq K]
abbrev ent(kd:TK K)(w:World)(x:K×Addr):Int×Value:=(kd.hash w x.1,Value.ref x.2)
def TX(kd:TK K)(w:World)(h0 h:Heap)(a:Addr)(jG:List (K×Addr)):Prop:=
 ∃o ep t es,h.get? a=some o/\o.ExactSet/\o.data=.set es ep t/\es.toList=jG.map (ent kd w)/\Kp h0 h/\(∀x∈jG,kd.is h0 x.1 x.2)/\(jG.map (·.1)).Nodup/\
  t.led=(!w.params.followText "set-order")/\Tb t (jG.map λx=>kd.hash w x.1)/\Wd t.mask jG.length
variable{kd:TK K}{h0:Heap}{A:Around}{E:aA}{s:Shared}
theorem Kp.but{h h':Heap}{a:Addr}(k:Kp h0 h)(d:h0.get? a=none)(hs:SameBut a h h'):Kp h0 h':=λb o e=>by
 have c:b≠a:=by
  rintro rfl;rw[d] at e;cases e
 exact(hs.2 b c).trans (k b o e)
theorem add {a b : Addr} {g : K} {d : List (K × Addr)} {Q : Bool → Shared → Prop} (hu : A.units + 40 < cLine) (ha : h0.get? a = none) (hS : TX kd w h0 s.heap a d) (hk : kd.is h0 g b) (l : d.length + 1 ≤ 200)
    (h : ∀ h' u bb, SameBut a s.heap h' → TX kd w h0 h' a u → (g ∈ d.map (·.1) → u = d) → (g ∉ d.map (·.1) → u.Perm (d ++ [(g, b)])) → Q bb { s with heap := h' }) :
    wpAny (model prog w) A (setAddHashed a (.ref b) (kd.hash w g)) Q E s := by
  have tS := hS
  obtain ⟨o, ep, t, es, V, hex, hd, P, R, W, hnd, L, T, hm⟩ := hS
  have hsz : es.size = d.length := by rw [← bE, P, bC]
  have hf : t.fits es.size = true := by rw [hsz]; have := T.fits; rwa [bC] at this
  have zb : t.place.size = d.length := by rw [T.sz, bC]
  unfold setAddHashed setAddHashedIn
  refine dU (aa (ic V hd hf ?_))
  dsimp only
  rw [show byScan (.ref b) es = false from rfl]
  simp only [cu, bW]
  obtain ⟨N, yU, hN, hl⟩ := T.free (jS t.mask (kd.hash w g))
  unfold setSearch
  have Ny : N < 100000 := by
    have : SetTable.turns t.mask ≤ 526 := by unfold SetTable.turns; have := hm.le l; omega
    omega
  refine aa (search hu R V hd hf P W T hk hN hl yU (fun hin => ?_) (fun v => ?_) (N - 0) 100000 0 none rfl (b9 _) (by omega) rfl fun q hq => absurd hq (fV _))
  · refine ak ?_
    have e : s = { s with heap := s.heap } := by cases s; rfl
    rw [e]
    exact h s.heap d _ (SameBut.refl a s.heap) tS (fun _ => rfl) fun z => absurd hin z
  · dsimp only
    refine aa (ic V hd hf ?_)
    dsimp only
    have T1 := T.put hN hl (by have := hm.le l; omega)
    generalize hj : (it t.mask N (br t.mask (kd.hash w g))).j = j at T1 ⊢
    have e1 : (t.put j).1.mask = t.mask := rfl
    have e2 : (t.put j).1.led = t.led := rfl
    have E8 : (t.put j).1.place.size = d.length + 1 := by
      have := T1.sz
      simp only [bR, e_, eV, fh, bC] at this
      omega
    generalize B : d.take (t.put j).2 ++ ((g, b) :: d.drop (t.put j).2) = c
    have hk1 : (d.map fun x => kd.hash w x.1).take (t.put j).2 ++ (kd.hash w g :: (d.map fun x => kd.hash w x.1).drop (t.put j).2) = c.map fun x => kd.hash w x.1 := by
      rw [← B, gv, dD, List.map_take, List.map_drop]
    rw [hk1] at T1
    have C : c.Perm (d ++ [(g, b)]) := by
      rw [← B]
      refine List.perm_middle.trans ?_
      rw [dF]
      exact (List.perm_append_singleton _ _).symm
    have n : (SetTable.insertAt es (t.put j).2 (kd.hash w g, Value.ref b)).toList = c.map (ent kd w) := by
      rw [zd, P, ← B, gv, dD, List.map_take, List.map_drop]
    have D : c.length = d.length + 1 := by rw [C.length_eq, bR, iN]
    have M : (c.map (·.1)).Nodup := by
      refine (C.map _).nodup_iff.mpr ?_
      rw [gv]
      refine nodup_append.mpr ⟨hnd, by simp, fun y hy z hz => ?_⟩
      have hz' : z = g := by simpa using hz
      rw [hz']
      rintro rfl
      exact v hy
    have k : (SetTable.insertAt es (t.put j).2 (kd.hash w g, Value.ref b)).size = d.length + 1 := by rw [← bE, n, bC, D]
    have fin : ∀ t1 : SetTable, t1.place = (t.put j).1.place → t1.dummies = (t.put j).1.dummies → t1.mask = t.mask → t1.led = t.led →
        wpAny (model prog w) A (do
          storeSet a (SetTable.insertAt es (t.put j).2 (kd.hash w g, .ref b)) t1
          if (!false && t1.tooFull) = true then do
            setRelay a (SetTable.grown (es.size + 1))
            pure true
          else pure true) Q E s := fun t1 q1 q2 q3 q4 => by
      have T2 : Tb t1 (c.map fun x => kd.hash w x.1) := T1.HF q1 q2 q3
      refine aa (wpAny_storeSet_of V hd ?_ (rV (by rw [k]; unfold scanBound; omega)))
      generalize hE : SetTable.insertAt es (t.put j).2 (kd.hash w g, Value.ref b) = f at n k
      have I : (s.heap.update a (Obj.putSet f t1)).get? a = some { o with data := .set f (ep + 1) t1 } := by
        have := fH (Obj.putSet f t1) V (by rw [putSet_of f t1 hd]; rfl)
        rw [putSet_of f t1 hd] at this; exact this
      have F := SameBut.update s.heap a (Obj.putSet f t1)
      have O : Kp h0 (s.heap.update a (Obj.putSet f t1)) := R.but ha F
      have X : ∀ x ∈ c, kd.is h0 x.1 x.2 := fun x hx => by
        rcases aU.mp (C.mem_iff.mp hx) with z | z
        · exact W x z
        · rw [bh.mp z]; exact hk
      have S : t1.tooFull = decide ((d.length + 1) * 5 ≥ t.mask * 3) := by
        unfold SetTable.tooFull SetTable.fill
        rw [T2.dm, q1, E8, q3]; rfl
      rw [S]
      by_cases hz : (d.length + 1) * 5 ≥ t.mask * 3
      · obtain ⟨m', cm, eg, hm1, Y⟩ := hm.grow l hz
        rw [fY hz]
        simp only [Bool.not_false, Bool.and_self, f5]
        rw [hsz]
        unfold setRelay
        have hf1 : t1.fits f.size = true := by rw [k]; have := T2.fits; rwa [bC, D] at this
        refine aa (aa (ic I rfl hf1 ?_))
        dsimp only
        rw [eg, ai (by rw [oi]; have : m' ≤ 511 := (by rcases Y with z | z | z | z <;> omega); omega)]
        obtain ⟨J, m, el, em, E0, _, Z, T3⟩ := Hy cm (hs := f.map (·.1)) (by rw [size_map, k]; omega) t1.finger (t1.movedTo m') t1.led t1.plain
        have er : t1.relaid (f.map (·.1)) (SetTable.grown (d.length + 1)) = some (J, m) := by
          unfold SetTable.relaid
          rw [eg, add_sub_cancel]
          exact el
        rw [er]
        have hio : ∀ i, i ∈ m.toList → i < c.length := fun i hi => by
          have := fU.mp (Z.mem_iff.mp hi)
          rw [size_map, k] at this
          omega
        have yZ : ∀ i, i ∈ m.toList → f[i]? = some (ent kd w (c.getD i (g, b))) := fun i hi => by
          have := hio i hi
          rw [← d8, n, bF, cO, aZ this]
          rfl
        have p : (m.filterMap (f[·]?)).toList = (m.toList.map fun i => c.getD i (g, b)).map (ent kd w) := by
          rw [Array.toList_filterMap, yw yZ, c5]; rfl
        have G : (m.toList.map fun i => c.getD i (g, b)).Perm c := by
          have := Z.map fun i => c.getD i (g, b)
          rw [size_map, k, ← D, KI] at this
          exact this
        have U : (m.toList.map fun i => c.getD i (g, b)).length = d.length + 1 := by rw [G.length_eq, D]
        have H : (m.filterMap (f[·]?)).size = d.length + 1 := by rw [← bE, p, bC, U]
        have T4 : Tb J ((m.toList.map fun i => c.getD i (g, b)).map fun x => kd.hash w x.1) := by
          have e : (m.toList.map fun i => c.getD i (g, b)).map (fun x => kd.hash w x.1) = m.toList.map fun i => (f.map (·.1)).getD i 0 := by
            rw [c5]
            refine lE fun i hi => ?_
            rw [dI, Array.getElem?_map, yZ i hi]
            rfl
          rw [e]; exact T3
        generalize Nz : (m.toList.map fun i => c.getD i (g, b)) = Hh at p G U T4
        generalize Gn : m.filterMap (f[·]?) = r at p H
        refine aa ?_
        show wpAny _ _ (if ((m.filterMap (f[·]?)).size != f.size) = true then _ else pure (m.filterMap (f[·]?), J)) _ _ _
        rw [Gn, H, k, ai (by simp)]
        refine ak ?_
        refine wpAny_storeSet_of I rfl ?_ (rV (by rw [H]; unfold scanBound; omega))
        have Gx : ((s.heap.update a (Obj.putSet f t1)).update a (Obj.putSet r J)).get? a = some { o with data := .set r (ep + 1 + 1) J } := by
          have := fH (Obj.putSet r J) I (by rw [putSet_of (ep := ep + 1) (t := t1) r J rfl]; rfl)
          rw [putSet_of (ep := ep + 1) (t := t1) r J rfl] at this; exact this
        have GD := F.trans (SameBut.update (s.heap.update a (Obj.putSet f t1)) a (Obj.putSet r J))
        refine ak (h _ Hh true GD ⟨_, _, _, _, Gx, hex, rfl, p, O.but ha (SameBut.update _ a _), fun x hx => X x (G.mem_iff.mp hx), (G.map _).nodup_iff.mpr M, by rw [E0, q4]; exact L, T4, by rw [em, U]; exact Y⟩ (fun z => absurd z v) fun _ => G.trans C)
      · rw [dW hz]
        simp only [Bool.and_false, cu, bW]
        refine ak (h _ c true F ⟨_, _, _, _, I, hex, rfl, n, O, X, M, by rw [q4]; exact L, T2, ?_⟩ (fun z => absurd z v) fun _ => C)
        rw [q3, D]
        exact hm.keep l hz
    split
    · refine aa (TK.hbv R hk fun bv => ?_)
      cases bv with
      | true => exact fin _ rfl rfl rfl rfl
      | false => exact fin { (t.put j).1 with plain := false } rfl rfl rfl rfl
    · refine aa (ak ?_)
      exact fin _ rfl rfl rfl rfl
end
end SM
namespace SM
open SS SR
section
variable{prog:Program}{w:World}{K:Type}[DecidableEq K]{kd:TK K}{h0:Heap}
theorem TX.y{h:Heap}{a:Addr}{b:List (K×Addr)}(S:TX kd w h0 h a b):∃es,es.toList=b.map (ent kd w)/\ST.iz w h a es:=by
 obtain⟨o,ep,t,es,e,hex,hd,c,k,f,g,d,T,i⟩:=S;have hsz:es.size=b.length:=by rw[<-bE,c,bC]
 have j:t.fits es.size=true:=by rw[hsz];have:=T.fits;rwa [bC] at this
 exact⟨es,c,o,ep,t,e,hex,hd,by rw[hsz];unfold scanBound;rcases i with z|z|z|z<;>omega,j,d,T.rs⟩
theorem TX.keeps{h h':Heap}{a:Addr}{b:List (K×Addr)}(S:TX kd w h0 h a b)(k:∀o,h.get? a=some o->h'.get? a=some o)(kp:Kp h0 h'):TX kd w h0 h' a b:=by
 obtain⟨o,ep,t,es,d,hex,hd,c,e,r⟩:=S;exact⟨o,ep,t,es,k o d,hex,hd,c,kp,r⟩
theorem TX.kp{h:Heap}{a:Addr}{b:List (K×Addr)}(S:TX kd w h0 h a b):Kp h0 h:=by
 obtain⟨o,ep,t,es,e,hex,hd,c,d,r⟩:=S;exact d
end
section
variable{prog:Program}{w:World}{K:Type}[DecidableEq K]{kd:TK K}{h0:Heap}{A:Around}{R:Result->Shared->Prop}{I:Addr}{fp wr:List Addr}{G:Array GenState->Array GenState->Prop}{n:Nat}{P:Nat->Value->Prop}{St:Nat->Shared->Prop}
theorem Kp.moved{s s':Shared}(k:Kp h0 s.heap)(a:∀b∈wr,h0.get? b=none)(c:Moved wr G s s'):Kp h0 s'.heap:=λb o e=>c.heap b o (λz=>by rw[a b z] at e;cases e) (k b o e)
theorem loop(W:WalksS prog w A.in1 I fp wr G n P St)(S:Addr)(H:S∉fp)(hu:A.in1.units+40<cLine)(val:Nat->K)(adr:Nat->Addr)(J:∀i v,P i v->v=.ref (adr i))(p:∀b∈S::wr,h0.get? b=none)(L:∀j,j<n->kd.is h0 (val j) (adr j))(q:n<=200):
  ∀(k i:Nat) (s:Shared) (c:List (K×Addr)),n - i=k->i<=n->St i s->TX kd w h0 s.heap S c->c.length<=i->(∀x,x∈c.map (·.1)↔∃j,j<i/\val j=x)->(∀x∈c,∃j,j<n/\x=(val j,adr j))->
   (∀s' d,Moved (S::wr) G s s'->TX kd w h0 s'.heap S d->d.length<=n->(∀x,x∈d.map (·.1)↔∃j,j<n/\val j=x)->(∀x∈d,∃j,j<n/\x=(val j,adr j))->R (.ok (.ret .none)) s')->
   codeAny (model prog w) A (.builtin "set.update.loop" ⟨[.ref S,.ref I],[]⟩) R s:=by
 have X:S∉wr:=λh=>H (W.sub _ h);have r:∀b∈wr,b∈S::wr:=λb q=>bT _ q;have Y:h0.get? S=none:=p S b8;have Z:∀b∈wr,h0.get? b=none:=λb q=>p b (bT _ q);have f:∀{s s':Shared} {c:List (K×Addr)},Moved wr G s s'->TX kd w h0 s.heap S c->TX kd w h0 s'.heap S c:=λ {s s' c} t E=>E.keeps (λo e=>t.heap S o X e) (E.kp.moved Z t);intro k;induction k with
 |zero=>
  intro i s c hk hi u E hsz g l hR;have hin:i=n:=by omega
  subst hin;refine eG F.entry_set_update_loop ?_;rw[eU vE _];show wpAny _ A.in1 (pyNext (.ref I)>>=_) _ _ s;refine aa (W.done s _ _ u λs' t=>?_);show wpAny _ A.in1 (ret Value.none) _ _ s';exact ak (hR s' c (t.mono r) (f t E) hsz g l)
 |succ k ih=>
  intro i s c hk hi u E hsz g l hR;have m:i<n:=by omega
  refine eG F.entry_set_update_loop ?_;rw[eU vE _];show wpAny _ A.in1 (pyNext (.ref I)>>=_) _ _ s;refine aa (W.item i s _ _ m u λv s' hP M t=>?_);obtain rfl:=J i v hP;have N:TX kd w h0 s'.heap S c:=f t E;show wpAny _ A.in1 (holding [Value.ref (adr i)] (setAdd S (.ref (adr i)))>>=_) _ _ s';refine aa (dU ?_);unfold setAdd;refine dU ?_;refine aa (TK.hashes hu N.kp (L i m) λtk O=>?_);refine add (s:={s' with toks:=tk}) hu Y N (L i m) (by omega) λh' d b Q Gq q1 q2=>?_;have T:d.length<=i+1:=by
   by_cases l:val i∈c.map (·.1)
   .rw[q1 l];omega
   .rw[(q2 l).length_eq,bR,iN];omega
  have hx':∀x∈d,∃j,j<n/\x=(val j,adr j):=λx B=>by
   by_cases hc:val i∈c.map (·.1)
   .rw[q1 hc] at B
    exact l x B
   .rcases aU.mp ((q2 hc).mem_iff.mp B) with z|z
    .exact l x z
    .exact⟨i,m,bh.mp z⟩
  have C:∀x,x∈d.map (·.1)↔∃j,j<i+1/\val j=x:=λx=>by
   have e1:x∈d.map (·.1)↔x∈c.map (·.1)\/x=val i:=by
    by_cases l:val i∈c.map (·.1)
    .rw[q1 l]
     exact⟨.inl,λz=>z.elim id λe=>e▸l⟩
    .have hp:=((q2 l).map λe=>e.1).mem_iff (a:=x)
     rw[gv,aU] at hp;refine hp.trans ⟨λz=>z.imp id λy=>by simpa using y,λz=>z.imp id λy=>by simpa using y⟩
   rw[e1,g x];constructor
   .rintro (⟨j,hj,e⟩|rfl)
    .exact⟨j,by omega,e⟩
    .exact⟨i,by omega,rfl⟩
   .rintro ⟨j,hj,e⟩
    by_cases hji:j=i
    .exact .inr (by rw[<-e,hji])
    .exact .inl ⟨j,by omega,e⟩
  refine ak ⟨eT vE _,ih (i+1) _ d (by omega) m (W.frame _ s' _ _ M O λb q o e=>?_) Gq T C hx' λs'' D U V hz hm2 GC=>?_⟩
  .rw[Q.2 b (λh:b=S=>H (by rw[<-h];exact q))];exact e
  .refine hR s'' D (Moved.trans W.gtrans ((t.mono r).then_heap O λb o q e=>?_) U) V hz hm2 GC
   rw[Q.2 b (λh:b=S=>q (by rw[h];exact b8))];exact e
end
section
variable{prog:Program}{w:World}{K:Type}[DecidableEq K]{kd:TK K}{A:Around}{E:aA}{s:Shared}
theorem TX.fresh{h0 h:Heap}{a:Addr}(b:h.get? a=some (SS.fQ w))(c:Kp h0 h):TX kd w h0 h a []:=
 ⟨_,_,_,#[],b,⟨rfl,rfl,rfl⟩,rfl,rfl,c,(λe d=>by simp at d),by simp,rfl,ST.Tb.fresh _ _ _,.inl ⟨rfl,b9 _⟩⟩
theorem C9{l:Addr}{items:Array Value}{val:Nat->K}{adr:Nat->Addr}{Q:aA}
  (hh:A.handled=none)(hu:A.units+64<cLine)(hl:s.heap.IsList l items)(hi:∀(i:Nat) (v:Value),items[i]? =some v->v=Value.ref (adr i))(O:∀i,i<items.size->kd.is s.heap (val i) (adr i))(g:items.size<=200)
  (h:∀(h':Heap) (tk:Nat) (d:List (K×Addr)),TX kd w s.heap h' s.heap.objs.size d->d.length<=items.size->(∀x,x∈d.map (·.1)↔∃j,j<items.size/\val j=x)->(∀x∈d,∃j,j<items.size/\x=(val j,adr j))->
   (∀b o,b<s.heap.objs.size->s.heap.get? b=some o->h'.get? b=some o)->Q (.ref s.heap.objs.size) {s with heap:=h',toks:=tk}):
  wpAny (model prog w) A (call (.type "set") [.ref l]) Q E s:=by
 obtain⟨c,tl,NB⟩:=jo.mro
 have P:=jo.made
 have hsub:=jo.sub
 refine wpAny_call (codeAny_of_tree ?_)
 show wpAny _ _ (callAny (.type "set") _) _ _ _
 refine ak ⟨Code.quiet_builtin _ (by decide+kernel),eG PySem.F.entry_type_call ?_⟩
 rw[Around.under_plain (weight_type_call_type "set" [.ref l] []) rfl]
 have h1:=jo.notType
 have h2:=jo.canCreate
 have hct:=PySem.F.typeCall_set_1 (.ref l)
 repeat (any_goals (first|assumption|wp_step))
 refine lO (SS.code_set_new (.ref l) (E:=E) (Q₁:=λobj k=>obj= .ref s.heap.objs.size/\k={s with heap:=s.heap.push (SS.fQ w)}) ⟨rfl,rfl⟩) λr k S=> ?_
 cases r with
 |error e=>exact S
 |ok fl=>
  cases fl with
  |ret obj=>
   obtain⟨rfl,rfl⟩:=S
   have hS:(s.heap.push (SS.fQ w)).get? s.heap.objs.size=some (SS.fQ w):=bK _ rfl
   have hT:Shared.TypeIs {s with heap:=s.heap.push (SS.fQ w)} (.ref s.heap.objs.size) "set":=⟨_,hS,rfl⟩
   have hli:=jo.init.lookup
   have hbi:=jo.init.bind (.ref s.heap.objs.size)
   repeat (any_goals (first|assumption|wp_step))
   refine lO (codeAny_call_builtin (R:=wants (λr m=>r= .none/\∃h' tk es,m={s with heap:=h',toks:=tk}/\
     TX kd w s.heap h' s.heap.objs.size es/\es.length<=items.size/\(∀x,x∈es.map (·.1)↔∃j,j<items.size/\val j=x)/\(∀x∈es,∃j,j<items.size/\x=(val j,adr j))/\
     (∀b o,b<s.heap.objs.size->s.heap.get? b=some o->h'.get? b=some o)) E) jo.init.plain PySem.F.entry_set_init (check_set_init_1 hT ?_)) λB m a=> ?_
   .obtain⟨ol,C,D,nl,G⟩:=hl
    obtain⟨NL,n,T,f⟩:=ol
    simp only at D G
    subst D;subst G
    have H:(s.heap.push (SS.fQ w)).get? l=some {cls:= .type "list",dict:=n,data:= .seq items nl,slots:=f}:=aR _ C
    have NF:=PySem.F.sub_list_set
    have ND:=PySem.F.sub_list_frozenset
    have hne:(Value.type "list" ==Value.type "dict")=false:=by decide
    have I:(s.heap.push (SS.fQ w)).IsList l items:=⟨_,H,rfl,nl,rfl⟩
    unfold Builtin.«set.__init__» noKeywords Builtin.Frozenset.updateFrom
    generalize U:pyIter=PI
    wp_walk
    subst U
    refine rP I ?_
    refine aa (wpAny_runValue ?_)
    have J:l<s.heap.objs.size:=aM C
    have V:A.in1.in1.in1.handled=none:=by simp[hh]
    have L:l≠(s.heap.push (SS.fQ w)).objs.size:=by
     rw[cJ];exact aV (fD J)
    have W:s.heap.objs.size∉[(s.heap.push (SS.fQ w)).objs.size,l]:=by
     rw[cJ];simp only[aQ,bh,ez,eB,not_or]
     exact⟨aV (iO _),g8 J⟩
    have M:∀b∈[s.heap.objs.size,(s.heap.push (SS.fQ w)).objs.size],s.heap.get? b=none:=λb g=>by
     cases e:s.heap.get? b with
     |none=>rfl
     |some o=>
      have:=aM e
      rw[cJ] at g
      simp only[aQ,ez,eB] at g
      rcases g with z|z
      .rw[z] at this;exact absurd this (cZ _)
      .rw[z] at this;exact absurd this (Nat.not_lt_of_lt (iO _))
    refine loop ((Walks.list V _ l L items).toS) s.heap.objs.size W (show A.units+3+40<cLine by omega) val adr (λi v hv=>hi i v hv) M O g (items.size - 0) 0 _ [] (by omega) (b9 _)
     ⟨⟨_,bK _ rfl,rfl,rfl⟩,(I.push _)⟩ ?tS (aF _) (λx=>⟨λz=>by simp at z,λ⟨j,hj,_⟩=>absurd hj (fV _)⟩) (λx hx=>by simp at hx) ?hR
    case tS=>exact TX.fresh (aR _ hS) λb o e=>aR _ (aR _ e)
    case hR=>
     intro s' X N p q t u
     obtain⟨h',g',d',Y,Z⟩:=s'
     have eg:g'=s.gens:=N.gens
     have ed:d'=s.drawn:=N.drawn
     have eo:Z=s.os:=N.os
     subst eg;subst ed;subst eo
     show wpAny _ _ _ _ _ _
     refine ak ?_
     show wpAny _ _ (ret Value.none) _ _ _
     refine ak ⟨rfl,h',Y,X,rfl,p,q,t,u,λb o g e=> ?_⟩
     have hb1:b≠s.heap.objs.size:=aV g
     have hb2:b≠(s.heap.push (SS.fQ w)).objs.size:=by
      rw[cJ];exact aV (fD g)
     exact N.heap b o (by simp only[aQ,bh,ez,eB,not_or];exact⟨hb1,hb2⟩) (aR _ (aR _ e))
   .cases B with
    |error e=>exact a
    |ok y=>
     cases y with
     |ret r=>
      obtain⟨rfl,h',tk,es,rfl,p,q,t,u,hk'⟩:=a
      repeat (any_goals (first|assumption|wp_step))
      exact h _ _ es p q t u hk'
     |_=>exact a.elim
  |_=>exact S.elim
end
open PySem.W KO
section
variable{prog:Program}{w:World}{A:Around}{E:aA}{s:Shared}
open Classical in
theorem HJ{κ:SortKind}{O:KeyOrd}{key:Nat->O.α}{a:Addr}{vs:List Value}{n:Nat}{P:PySem.Fin->Shared->Prop}(u:s.heap.get? a=some (seqObj "list" vs.toArray n))(z:vs.length<=sizeLine)
  (hk:∀s':Shared,(∀b o,b≠a->s.heap.get? b=some o->s'.heap.get? b=some o)->2<=vs.length->∀R:SortKind->Shared->Prop,R κ s'->wpAny (model prog w) A (keyKind' vs.toArray) R (λ_ _=>False) s')
  (B:∀(i j:Nat) v,vs[i]? =some v->vs[j]? =some v->key i=key j)
  (hc:∀s':Shared,(∀b o,b≠a->s.heap.get? b=some o->s'.heap.get? b=some o)->∀i j,i<vs.length->j<vs.length->∀C:Bool->Shared->Prop,C (O.blt (key i) (key j)) s'->kas_ask prog w A κ vs i j C s')
  (h:∀p:Array Nat,Pm vs.length p->Up O key p vs.length->P (.done (.ret .none)) {s with heap:=sortedHeap s.heap a vs (p.toList.map λi=>vs.getD i Value.none).toArray}):
  wpAny (model prog w) A (Builtin.«list.sort» ⟨[.ref a],[]⟩) P E s:=by
 have ex:∃g:Value->O.α,∀i v,vs[i]? =some v->g v=key i:=by
  refine⟨λv=>if q:∃i:Nat,vs[i]? =some v then key q.choose else key 0,λi v e=> ?_⟩
  have q:∃i:Nat,vs[i]? =some v:=⟨i,e⟩
  show(if q:∃i:Nat,vs[i]? =some v then key q.choose else key 0)=key i
  rw[dif_pos q]
  exact B _ _ v q.choose_spec e
 obtain⟨g,d⟩:=ex
 refine TS.HH (κ:=κ) (O:=O) (key:=g) u z hk (λs' kp x D y F R K l=> ?_) λys G m=> ?_
 .obtain⟨i,hi,rfl⟩:=iu D
  obtain⟨j,k,rfl⟩:=iu F
  rw[d i _ (aZ hi),d j _ (aZ k)] at l
  have:=hc s' kp i j hi k R l
  unfold kas_ask at this
  rw[cO,cO,aZ hi,aZ k] at this
  exact h_ this (λ_ _ q=>q) λ_ _ q=>q.elim
 .obtain⟨p,p1,p2⟩:=TS.JT G (TS.KJ vs Value.none)
  have pl:p.length=vs.length:=by rw[p1.length_eq,l5]
  have e:=h p.toArray (jk.mpr p1) ?_
  .rw[<-p2] at e;exact e
  have f:∀i,i∈p->g (vs.getD i Value.none)=key i:=λi hi=>by
   have hi:i<vs.length:=fU.mp (p1.mem_iff.mp hi)
   refine d i _ ?_
   rw[cO,aZ hi];rfl
  rw[p2,lI] at m
  intro i j H k
  have r:i<p.length:=by omega
  have t:j<p.length:=by omega
  have I:KO.kp O key p.toArray i=key p[i]:=by
   unfold KO.kp;simp[r]
  have J:KO.kp O key p.toArray j=key p[j]:=by
   unfold KO.kp;simp[t]
  rw[I,J]
  rcases fc i j with c|c
  .have:=iQ.mp m i j r t c
   rw[f _ (cz _),f _ (cz _)] at this
   exact this
  .obtain rfl:i=j:=by omega
   exact gC _
end
section
variable{prog:Program}{w:World}{K:Type}[DecidableEq K]{kd:TK K}{h0:Heap}{A:Around}{E:aA}{s:Shared}
theorem TK.one{k k':K}{a:Addr}(h:kd.is h0 k a)(h':kd.is h0 k' a):k=k':=by
 obtain⟨p,as,r⟩:=h;obtain⟨b,bs,r'⟩:=h';have e:=PySem.SeqAt.Reads.unique _ _ _ _ _ (kd.lay k p) r r';have q:=kd.eq k k';rw[<-e,PySem.SeqAt.eqv_refl _ (kd.lay k p)] at q;exact rG q.symm
abbrev dR(jG:List (K×Addr)):List Value:=jG.map λx=>Value.ref x.2
theorem LW{κ:SortKind}{O:KeyOrd}{key:K->O.α}{a:Addr}{g:List (K×Addr)}{Q:aA}(H:A.handled=none)(I:TX kd w h0 s.heap a g)(x0:K)(r:∀x∈g,kd.is h0 x.1 x.2)(J:g.length<=200)
  (hk:∀c,c.Perm g->∀s':Shared,(∀b o,s.heap.get? b=some o->s'.heap.get? b=some o)->2<=(dR c).length->∀R:SortKind->Shared->Prop,R κ s'->wpAny (model prog w) A.in1.in1 (keyKind' (dR c).toArray) R (λ_ _=>False) s')
  (hc:∀c,c.Perm g->∀s':Shared,(∀b o,s.heap.get? b=some o->s'.heap.get? b=some o)->∀i j,i<(dR c).length->j<(dR c).length->∀C:Bool->Shared->Prop,C (O.blt (key (c.getD i (x0,0)).1) (key (c.getD j (x0,0)).1)) s'->kas_ask prog w A.in1.in1 κ (dR c) i j C s')
  (h:∀(p:Array Nat) (c:List (K×Addr)) (h':Heap) (d:Drawn) (tk:Nat) (D:Addr) (e:Nat),c.Perm g->Pm (dR c).length p->Up O (λi=>key (c.getD i (x0,0)).1) p (dR c).length->s.heap.objs.size<=D->
   h'.get? D=some (seqObj "list" (p.toList.map λi=>(dR c).getD i Value.none).toArray e)->(∀b o,s.heap.get? b=some o->h'.get? b=some o)->Q (.ref D) {s with heap:=h',drawn:=d,toks:=tk}):
  wpAny (model prog w) A (call (.builtin "sorted") [.ref a]) Q E s:=by
 obtain⟨es,F,L⟩:=I.y
 refine Calls.call_function_entry kind_sorted plain_sorted entry_sorted (args_sorted1 _) ?_
 unfold Builtin.«sorted»
 refine aa (m:=checkCount "sorted" 1 1 _) (ak ?_)
 refine aa (ST.Dk H L λh1 d tk zs hz hsz k1=> ?_)
 obtain⟨c,n,rfl⟩:=ST.JS (f:=λx:K×Addr=>Value.ref x.2) hz g (by rw[F,c5];rfl)
 have M:(dR c).length<=sizeLine:=by rw[bC,n.length_eq,oi];omega
 refine aa (wpAny_newList ?_)
 have l:(h1.push (seqObj "list" (dR c).toArray 0)).get? h1.objs.size=some (seqObj "list" (dR c).toArray 0):=bK _ rfl
 have keep:∀b o,s.heap.get? b=some o->(h1.push (seqObj "list" (dR c).toArray 0)).get? b=some o:=λb o q=>aR _ (k1 b o q)
 have ne:∀b o,s.heap.get? b=some o->b≠h1.objs.size:=λb o q=>aV (aM (k1 b o q))
 show wpAny _ _ _ _ _ {s with heap:=h1.push (seqObj "list" (dR c).toArray 0),drawn:=d,toks:=tk}
 refine aa (dU (gy slot_list_sort ⟨_,l,rfl⟩ entry_list_sort ?body (args_list_sort _)))
 case body=>
  refine HJ (κ:=κ) (O:=O) (key:=λi=>key (c.getD i (x0,0)).1) (s:={s with heap:=h1.push (seqObj "list" (dR c).toArray 0),drawn:=d,toks:=tk})
   l M (λs' k=>hk c n s' λb o q=>k b o (ne b o q) (keep b o q)) (λi j v t u=> ?hv) (λs' k=>hc c n s' λb o q=>k b o (ne b o q) (keep b o q)) λp G N=>⟨_,rfl,ak ⟨_,rfl,?_⟩⟩
  case hv=>
   rw[bF] at t u
   cases z:c[i]? with
   |none=>rw[z] at t;cases t
   |some x=>
    cases B:c[j]? with
    |none=>rw[B] at u;cases u
    |some y=>
     rw[z] at t
     rw[B] at u
     cases t
     have P:y.2=x.2:=by injection (Option.some.inj u)
     have k1:=r x (n.mem_iff.mp (iP z))
     have k2:=r y (n.mem_iff.mp (iP B))
     rw[P] at k2
     rw[cO,cO,z,B]
     show key x.1=key y.1
     rw[TK.one k1 k2]
  obtain⟨e,S⟩:=sortedHeap_at (out:=(p.toList.map λi=>(dR c).getD i Value.none).toArray) l
  refine h p c _ d tk _ e n G N hsz S λb o q=> ?_
  rw[sortedHeap_old (ne b o q) (aM (keep b o q))]
  exact keep b o q
end
end SM
namespace L2
open PySem.SeqAt
section
variable{X:Cx}
def MF(K:Frag)(ta:TA):TE:=λσ H Q=>ta σ H λvs H1=>∃(T:Type) (_:DecidableEq T) (kd:SM.TK T) (x0:T) (a:Addr) (as:List Addr) (ee:List T) (O:KeyOrd) (key:T->O.α),vs=[.ref a]/\aX K H1 a (as.map V.ref)/\as.length=ee.length/\as.length<=200/\
 (∀i,i<as.length->Dp K H1 (.ref (as.getD i 0)) (kd.q (ee.getD i x0)))/\(∀k∈ee,kd.P k/\∃x r,kd.q k= .tuple (.str x::r))/\(∀k∈ee,∀k'∈ee,ltQ (kd.q k) (kd.q k')=some (O.blt (key k) (key k')))/\
 ∀(l:Addr) (p:List Nat),H1 l=none->(∀i∈p,i<as.length)->(p.map λi=>ee.getD i x0).Nodup->(∀x,x∈(p.map λi=>ee.getD i x0)↔x∈ee)->(p.map λi=>ee.getD i x0).Pairwise (λa b=>O.kle (key a) (key b))->
  Q (.ref l) (upd H1 l (.lst (p.map λi=>V.ref (as.getD i 0))))
theorem JN{e:Expr}{ta:TA}{p1 p2 pos1 pos2:Pos}(hms:X.mg "sorted"=none)(hmt:X.mg "set"=none)(hc:X.calm=true)(hu:X.A.units+64<cLine)(ha:PA X [e] ta)(hgs:Gl X "sorted":=by rfl)(hgt:Gl X "set":=by rfl)
  (hs:starEach [e] X.env=[(false,eval e X.env)]:=by rfl)(hz:starEach [.Call (.Name "set" p2) [e] [] pos2] X.env=[(false,eval (.Call (.Name "set" p2) [e] [] pos2) X.env)]:=by rfl):
  PE X (.Call (.Name "sorted" p1) [.Call (.Name "set" p2) [e] [] pos2] [] pos1) (MF X.K ta):=by
 intro pins s σ H Q I h;refine j3 (jJ I hgs hms (show bootBuiltins "sorted"=some (.builtin "sorted") by with_unfolding_all rfl) ?_);refine PyProof.Rows.callWith_builtin1 ?_ hz rfl;rw[hz];refine Calls.spliced_cons (j3 (jJ I hgt hmt (show bootBuiltins "set"=some (.type "set") by with_unfolding_all rfl) (rE (aG (ha pos2 pins s σ H _ I h) λus Y ⟨vs,H1,P,r1,q1⟩=>?_) hs rfl)));obtain⟨T,_,kd,x0,a,as,g,O,key,e,hq,hlen,Gk,htup,G,hlt,q⟩:=q1;subst e;obtain⟨u,rfl,ru⟩:=vals1 r1;cases ru;obtain⟨its,rv,pl,NH⟩:=P.list hq;obtain rfl:=B9 rv;have hsz:(as.map Value.ref).toArray.size=as.length:=by simp
 refine SM.C9 (kd:=kd) (val:=λi=>g.getD i x0) (adr:=λi=>as.getD i 0) (P.ok.hd hc) (by omega) pl.isList (λi v J=>?_) (λi hi=>?_) (by rw[hsz];exact Gk) λh2 tk k hS GB S w m=>?_
 .have J:(as.map Value.ref)[i]?=some v:=by simpa using J
  rw[bF] at J;cases ea:as[i]? with
  |none=>rw[ea] at J;cases J
  |some b=>
   rw[ea] at J;cases J;rw[cO,ea];rfl
 .rw[hsz] at hi
  have hm:g.getD i x0∈g:=by
   rw[cO,aZ (by omega)];exact cz _
  obtain⟨bs,rd⟩:=Dp.reads P _ _ (.ref (as.getD i 0)) (htup i hi) rfl;exact⟨(G _ hm).1,bs,rd⟩
 rw[hsz] at GB S w;have hkp:SM.Kp Y.heap h2:=hS.kp;have hkk:∀x∈k,kd.is Y.heap x.1 x.2:=by obtain⟨_,_,_,_,_,_,_,_,_,z,_⟩:=hS;exact z
 have hnd:(k.map (·.1)).Nodup:=by obtain⟨_,_,_,_,_,_,_,_,_,_,z,_⟩:=hS;exact z
 have alt:Y.heap.objs.size<h2.objs.size:=by obtain⟨o,_,_,_,ho,_⟩:=hS;exact aM ho
 have B:∀x,x∈k.map (·.1)↔x∈g:=λx=>by
  rw[S x,hlen];constructor
  .rintro ⟨j,D,rfl⟩
   rw[cO,aZ D];exact cz D
  .intro U
   obtain⟨j,D,e⟩:=iu U;exact⟨j,D,by rw[cO,aZ D];exact e⟩
 have rd:∀c:List (T×Addr),c.Perm k->∀s':Shared,(∀b o,h2.get? b=some o->s'.heap.get? b=some o)->∀i:Nat,i<c.length->∃x:T×Addr,c[i]?=some x/\x.1∈g/\∃bs,Reads s'.heap (.ref x.2) (kd.q x.1) bs:=λc L s' kp i hi=>by
  refine⟨c[i]'hi,aZ hi,?_,?_⟩
  .exact(B _).mp (bX.mpr ⟨_,L.mem_iff.mp (cz hi),rfl⟩)
  .obtain⟨_,bs,r⟩:=hkk _ (L.mem_iff.mp (cz hi))
   exact⟨bs,PyProof.Rows.Reads.keeps (λb o e=>kp b o (hkp b o e)) r⟩
 refine Calls.spliced_nil ?_;refine SM.LW (s:={Y with heap:=h2,toks:=tk}) (κ:=tuples' true) (O:=O) (key:=key) (P.ok.hd hc) hS x0 hkk (by omega) (λc L s' kp h2' R hR=>?_) (λc L s' kp i j hi D C hC=>?_) λp c h3 d BV l ep L Z hup hge hl3 k3=>?_
 .obtain⟨fs,f1,f2,f3⟩:=kat_tups (h:=s'.heap) (vs:=SM.dR c) (qs:=c.map λx=>kd.q x.1) (by simp) λi v qq M e2=>by
   rw[bF] at M e2;have hi:i<c.length:=by
    cases ek:c[i]? with
    |none=>rw[ek] at M;cases M
    |some x=>exact(bY.mp ek).1
   obtain⟨x,ex,U,bs,hr⟩:=rd c L s' kp i hi;rw[ex] at M e2;cases M;cases e2;obtain⟨y,r,ey⟩:=(G _ U).2;exact⟨bs,y,r,hr,ey⟩
  refine PySem.W.kat_kind (T:=Value.type "str") f2 (by omega) (λv J=>?_) (by decide) hR;obtain⟨x,t,rfl⟩:=f3 v J;exact PySem.W.Looks.of_pure rfl
 .rw[bC] at hi D
  obtain⟨x,ex,U,bs,hr⟩:=rd c L s' kp i hi;obtain⟨y,ey,hy,bs',hr'⟩:=rd c L s' kp j D;have hl:=hlt _ U _ hy;rw[cO,cO,ex,ey] at hC;obtain⟨p1,x0',xr,M⟩:=G _ U;obtain⟨p2,y0,yr,e2⟩:=G _ hy;have c1:=kd.lay _ p1;have c2:=kd.lay _ p2;have c3:=kd.dep _ p1;rw[M] at hr hl c1 c3;rw[e2] at hr' hl c2;unfold PySem.W.kas_ask;rw[cO,cO,bF,bF,ex,ey];exact KP.Hr hl hr hr' c1 c2 (Ez (by omega) (by omega)) hC
 .have hn:H1 l=none:=P.hok.fresh (cP (iU alt) hge)
  have zb:=Z.size;have N:(p.toList.map λi=>c.getD i (x0,0)).Perm k:=by
   have:=(jk.mp Z).map λi=>c.getD i (x0,0);rw[show(SM.dR c).length=c.length from by simp] at this;rw[DP.HS] at this;exact this.trans L
  obtain⟨E,tu,GA⟩:=zA (f:=λj=>(g.getD j x0,as.getD j 0)) (n:=as.length) (l:=p.toList.map λi=>c.getD i (x0,0)) λx U=>w x (N.mem_iff.mp U);have F:E.map (λj=>g.getD j x0)=(p.toList.map λi=>c.getD i (x0,0)).map (·.1):=by rw[tu,c5];rfl
  have E7:(p.toList.map λi=>(SM.dR c).getD i Value.none)=(E.map λj=>as.getD j 0).map Value.ref:=by
   have M:(E.map λj=>as.getD j 0)=(p.toList.map λi=>c.getD i (x0,0)).map (·.2):=by rw[tu,c5];rfl
   rw[M,c5,c5];refine lE λi hi=>?_;have hi':i<c.length:=by
    have:=(jk.mp Z).mem_iff.mp hi;simpa using this
   rw[cO,bF];show _=Value.ref (c.getD i (x0,0)).2;rw[cO,aZ hi'];rfl
  have hjl:E.length<=200:=by
   have:k.length=E.length:=by rw[<-N.length_eq,tu,bC]
   omega
  have emap:(E.map λi=>V.ref (as.getD i 0))=(E.map λj=>as.getD j 0).map V.ref:=by rw[c5];rfl
  have I2:Inv X pins σ (upd H1 l (.lst (E.map λi=>V.ref (as.getD i 0)))) {Y with heap:=h3,drawn:=d,toks:=BV}:=by
   have m:∀b o,Y.heap.get? b=some o->h2.get? b=some o:=λb o e=>m b o (aM e) e;refine P.call (ch:=[]) (g':=Y.gens) (d':=d) (t':=BV) (h':=h3) (H':=upd H1 l (.lst (E.map λi=>V.ref (as.getD i 0)))) ⟨λb o q _ _ _=>k3 b o (m b o q),λb o q _ _ _=>⟨o.slots,k3 b o (m b o q)⟩,λb o q n _=>?_,λb o q _=>⟨o,k3 b o (m b o q)⟩,λb xs q=>?_,λb o u q=>?_,λb ps q=>⟨#[],?_⟩⟩ ?_ P.bare λb z=>absurd z (by simp)
   .rw[bz (aV (bO (aM q) (cP (iU alt) hge)))];exact n
   .rw[bz (dP q hn)];exact q
   .rw[bz (dP q hn)];exact q
   .rw[bz (dP q hn),q];simp
   .exact P.hok.laid (λb u q=>k3 b u (m b u q)) (cP (iU alt) hge) ⟨by rw[bC,oi];omega,(E.map λj=>as.getD j 0).map Value.ref,ep,by rw[emap];exact B8 _,by rw[<-E7];exact hl3⟩
  refine⟨.ref l,_,I2,rfl,q l E hn GA ?_ (λx=>?_) ?_⟩
  .rw[F]
   exact(N.map _).nodup_iff.mpr hnd
  .rw[F,(N.map _).mem_iff,B]
  .rw[F,c5,lI,iQ]
   intro i j hi D hij;have:=hup i j (iU hij) (by rw[<-zb];simpa using D);unfold KO.kp at this;have gi:p.getD i 0=p.toList[i]:=by
    rw[dI,b_ (by simpa using hi)];simp
   have gj:p.getD j 0=p.toList[j]:=by
    rw[dI,b_ (by simpa using D)];simp
   rw[gi,gj] at this;exact this
end
end L2
namespace DP
open L2
@[irreducible] def lu(r:Nat)(A:Ar)(R:DK):Prop:=match A[r]? with
 |some (.lst ds)=>∃(T:Type) (_:DecidableEq T) (kd:SM.TK T) (x0:T) (en:T->D) (ee:List T) (O:KeyOrd) (key:T->O.α),ds=ee.map en/\(∀k,dQ (en k)=true/\toQ (en k)=kd.q k/\∃us,en k=.tup us)/\ee.length<=200/\(∀k∈ee,kd.P k/\∃x r,kd.q k=.tuple (.str x::r))/\(∀k∈ee,∀k'∈ee,ltQ (kd.q k) (kd.q k')=some (O.blt (key k) (key k')))/\
  ∀rD:List T,rD.Nodup->(∀x,x∈rD↔x∈ee)->rD.Pairwise (λa b=>O.kle (key a) (key b))->R (.ref A.length) (A++[.lst (rD.map en)])
 |_=>False
def LQ:gH:=λvs A R=>match vs with
 |[.ref r]=>lu r A R
 |_=>False
section
variable{mg:av}{ι:Io}{H:Hp}{n:Nat}
theorem BY{T:Type}{d:T->D}(e:∀k,∃b,d k=.tup b):∀{c:List T} {b:List V},ao mg ι n H (c.map d) b->∃as:List Addr,b=as.map V.ref/\as.length=c.length
 |[],b,h=>by
  cases b with
  |nil=>exact⟨[],rfl,rfl⟩
  |cons=>cases h
 |k::c,b,h=>by
  obtain⟨_,_,rfl,h1,h3⟩:=h;obtain⟨ds,f⟩:=e k;rw[f] at h1;obtain⟨a,g,rfl,j,h2⟩:=h1;obtain⟨as,rfl,i⟩:=BY e h3;exact⟨a::as,rfl,by simp[i]⟩
end
section
variable{X:Cx}{N:En}{e:Expr}{n:cQ}{p1 p2 pos1 pos2:Pos}
theorem Et(g:X.mg "sorted"=none)(h:X.mg "set"=none)(hc:X.calm=true)(B:X.A.units+64<cLine)(C:PA X [e] (eS X.mg N n))(m:Gl X "sorted":=by rfl)(o:Gl X "set":=by rfl)
  (hs:starEach [e] X.env=[(false,eval e X.env)]:=by rfl)(hz:starEach [.Call (.Name "set" p2) [e] [] pos2] X.env=[(false,eval (.Call (.Name "set" p2) [e] [] pos2) X.env)]:=by rfl):
  PE X (.Call (.Name "sorted" p1) [.Call (.Name "set" p2) [e] [] pos2] [] pos1) (up X.mg N (pe LQ n)):=cT (JN g h hc B C m o hs hz) λσ H Q q=>by
 obtain⟨A,ι,τ,R,S,q,k⟩:=q;refine⟨A,ι,τ,_,S,q,λvs D s H1 E b F y t=>?_⟩;match vs,b,t with
 |[.ref r],b,t=>
  obtain⟨_,_,rfl,⟨_,rfl⟩,rfl⟩:=t;have b:lu r D R:=b;unfold lu at b;split at b
  .rename_i ds e
   obtain⟨E,h1,h2⟩:=y.lst e;obtain⟨T,_,kd,x0,u,a,O,key,rfl,c,G,hk,w,q⟩:=b;obtain⟨as,rfl,I⟩:=BY (λk=>(c k).2.2) h2;have z:∀i,i<as.length->RV X.mg s _ H1 (u (a.getD i x0)) (.ref (as.getD i 0)):=λi hi=>by
    have f:i<a.length:=by omega
    obtain⟨L,g1,g2⟩:=ao.get h2 (i:=i) (d:=u a[i]) (by rw[bF,aZ f];rfl);rw[bF,aZ hi] at g1;cases g1;rw[cO,cO,aZ hi,aZ f];exact g2
   refine⟨T,_,kd,x0,_,as,a,O,key,rfl,aX.of h1,I,by omega,λi hi=>?_,hk,w,λl p hn J x K hs=>?_⟩
   .rw[<-(c _).2.1]
    exact RV.dp _ _ (c _).1 (z i hi)
   refine nC (k.from F) y (ds:=(p.map λi=>a.getD i x0).map u) (ao.of_get (by simp) λi d v g1 g2=>?_) (q _ x K hs) hn;rw[bF,bF] at g1;rw[bF] at g2;cases ep:p[i]? with
   |none=>rw[ep] at g1;cases g1
   |some j=>
    rw[ep] at g1 g2;cases g1;cases g2;exact z j (J j (iP ep))
  .exact b.elim
end
theorem LR{A:Ar}{r:Nat}{R:DK}{T:Type}{i:DecidableEq T}{kd:SM.TK T}(x0:T){e:T->D}{c:List T}{O:KeyOrd}{key:T->O.α}(h:A[r]?=some (.lst (c.map e)))(f:∀k,dQ (e k)=true/\toQ (e k)=kd.q k/\∃l,e k=.tup l)(g:c.length<=200)(hk:∀k∈c,kd.P k/\∃x r,kd.q k=.tuple (.str x::r))
  (j:∀k∈c,∀k'∈c,ltQ (kd.q k) (kd.q k')=some (O.blt (key k) (key k')))(q:∀d:List T,d.Nodup->(∀x,x∈d↔x∈c)->d.Pairwise (λa b=>O.kle (key a) (key b))->R (.ref A.length) (A++[.lst (d.map e)])):lu r A R:=by
 unfold lu;rw[h];exact⟨T,i,kd,x0,e,c,O,key,rfl,f,g,hk,j,q⟩
end DP
variable{P:Program}{w:World}{K:Frag}{mg:av}{base:Heap}
namespace My
open L2 DP
def top(i:Nat):Stmt:=PySem.Challenge.pw_hangstill_k13_whole_one_shape.main.body.getD i (.Pass ⟨0,0,0,0⟩)
abbrev Bg:Stmt:=top 8
abbrev qG:List Str:=["thing","first","last"]
theorem Lo:bq ["thing","first","last"] qG (aJ Bg):=bS
abbrev Bf:Stmt:=top 9
abbrev qF:List Str:=["thing"]
theorem Ln:bq ["thing"] qF (aJ Bf):=bS
abbrev Be:Stmt:=top 10
abbrev qE:List Str:=["thing","rods"]
theorem Lm:bq ["thing","rods"] qE (aJ Be):=bS
abbrev Bd:Stmt:=top 11
abbrev qD:List Str:=["thing"]
theorem Ll:bq ["thing"] qD (aJ Bd):=bS
abbrev Bb:Stmt:=top 12
abbrev nE:List Str:=["thing"]
theorem Lj:bq ["thing"] nE (aJ Bb):=bS
abbrev Bc:Stmt:=top 14
abbrev nF:List Str:=["one","other"]
theorem Lk:bq ["one","other","rest"] nF (aJ Bc):=bS
abbrev Bp:Stmt:=top 15
abbrev qN:List Str:=["top","bottom"]
theorem Lv:bq ["top","bottom","divisor"] qN (aJ Bp):=bS
abbrev Bo:Stmt:=top 16
abbrev qM:List Str:=["one","other"]
theorem Lu:bq ["one","other"] qM (aJ Bo):=bS
abbrev Bl:Stmt:=top 17
abbrev qK:List Str:=["fractions"]
theorem Lr:bq ["fractions","bottom","fraction","numbers","divisor","number"] qK (aJ Bl):=bS
abbrev Bt:Stmt:=top 19
abbrev qQ:List Str:=["rod"]
theorem Ly:bq ["rod"] qQ (aJ Bt):=bS
abbrev Bj:Stmt:=top 21
abbrev qI:List Str:=["mobile"]
theorem BC:bq ["mobile","rod"] qI (aJ Bj):=bS
abbrev Bq:Stmt:=top 22
abbrev qO:List Str:=["one","other"]
theorem Lw:bq ["one","other"] qO (aJ Bq):=bS
abbrev Bs:Stmt:=top 24
abbrev qP:List Str:=["mobile","way","share"]
theorem BD:bq ["mobile","way","share","both","left","right"] qP (aJ Bs):=bS
abbrev Bm:Stmt:=top 25
abbrev qL:List Str:=["mobile"]
theorem Ls:bq ["mobile"] qL (aJ Bm):=bS
abbrev Bk:Stmt:=top 26
abbrev qJ:List Str:=["fractions"]
theorem Lq:bq ["fractions","names"] qJ (aJ Bk):=bS
abbrev Br:Stmt:=top 27
abbrev nG:List Str:=["mobile"]
theorem Lx:bq ["mobile"] nG (aJ Br):=bS
abbrev Ba:Stmt:=top 28
abbrev nD:List Str:=["mobile"]
theorem Li:bq ["mobile","first","way","name","share"] nD (aJ Ba):=bS
abbrev Bh:Stmt:=top 29
abbrev qH:List Str:=["mobile"]
theorem Lp:bq ["mobile"] qH (aJ Bh):=bS
abbrev A_:Stmt:=top 30
abbrev qC:List Str:=["one","other"]
theorem Lh:bq ["one","other","one_barred","other_barred","weights","others"] qC (aJ A_):=bS
abbrev AU:Stmt:=top 32
abbrev qv:List Str:=["_law_script","_law_k"]
theorem Lc:bq ["_law_script","_law_k"] qv (aJ AU):=bS
abbrev AX:Stmt:=top 33
abbrev qx:List Str:=["_law_script","_law_k","_law_many"]
theorem Lf:bq ["_law_script","_law_k","_law_many","_law_drawn"] qx (aJ AX):=bS
abbrev AV:Stmt:=top 34
abbrev iH:List Str:=["_law_script","_law_town","_law_many"]
theorem Ld:bq ["_law_script","_law_town","_law_many"] iH (aJ AV):=bS
abbrev AZ:Stmt:=top 35
abbrev lg:List Str:=["_law_script","_law_town","_law_some_here"]
theorem Lg:bq ["_law_script","_law_town","_law_some_here"] lg (aJ AZ):=bS
abbrev AY:Stmt:=top 36
abbrev qy:List Str:=["_law_script","_law_town","_law_names_here","_law_deep"]
theorem Bw:bq ["_law_script","_law_town","_law_names_here","_law_deep","_law_most","_law_left","_law_right","_law_one"] qy (aJ AY):=bS
abbrev AW:Stmt:=top 37
abbrev qw:List Str:=["_law_part","_law_row"]
theorem Bv:bq ["_law_part","_law_row","_law_one"] qw (aJ AW):=bS
abbrev A7:Stmt:=top 38
abbrev qz:List Str:=["_law_script","_law_town","_law_deep"]
theorem Bx:bq ["_law_script","_law_town","_law_deep","_law_part"] qz (aJ A7):=bS
abbrev A9:Stmt:=top 42
abbrev qB:List Str:=["_law_script","_law_town","_law_part"]
theorem BA:bq ["_law_script","_law_town","_law_part","_law_one","_law_other"] qB (aJ A9):=bS
abbrev AS:Stmt:=top 43
abbrev qu:List Str:=["_law_part"]
theorem Bu:bq ["_law_part","_law_made","_law_one","_law_other"] qu (aJ AS):=bS
abbrev A8:Stmt:=top 44
abbrev qA:List Str:=["_law_script","_law_town","_law_part"]
theorem By:bq ["_law_script","_law_town","_law_part","_law_way"] qA (aJ A8):=bS
abbrev iK:Stmt:=top 45
abbrev uN:List Str:=["_law_script"]
theorem BB:bq ["_law_script","_law_town","_law_way","_law_mobile_here","_law_other","_law_due"] uN (aJ iK):=bS
open MA
theorem FJ(T:TopD K mg "is_number" Bg qG)(d:mg "isinstance"=none)(f:mg "bool"=none)(g:mg "int"=none):aC P w K mg base 1 "is_number" qG (aE mg 3 wJ):=by
 refine c7 T Lo λj k l m nd=>⟨_,(aH (b5 (PW.pt (gU (gS (mU Hu d f boot_bool (vr 0))) (i9 (i7 (gS (mU Hv d g boot_int (vr 0))))))) (aI (aS jC)) cg)
  (aI (aS (yk (vr 1) (vr 0) (vr 2))))),λds A R h n=>?_⟩
 obtain⟨v,⟨i,a,b,rfl,rfl⟩,q⟩:=h;refine cD (λc=>?_) (λc=>?_)
 .have e:(decide (a<=i)&&decide (i<=b))=decide (i<=b):=by simp[c]
  rw[e] at q;exact q _ Gr.refl
 .have e:(decide (a<=i)&&decide (i<=b))=false:=by simp[c]
  rw[e] at q;exact q _ Gr.refl
theorem zZ{c d:Nat}:([c]:List Nat)<[d]↔c<d:=by simp[List.cons_lt_cons_iff]
theorem LC:("a":Str).cps.toList=[97]:=by decide+kernel
theorem LD:("z":Str).cps.toList=[122]:=by decide+kernel
theorem FI(T:TopD K mg "is_name" Bf qF)(b:mg "isinstance"=none)(d:mg "str"=none)(g:mg "len"=none)(i:mg "all"=none){t:Tok}(a:mg "LONGEST_NAME"=some (.int 3 t)):aC P w K mg base 1 "is_name" qF (aE mg 1 wH):=by
 refine c7 T Ln λp r j s nd=>⟨_,(aH (b5 (PW.pt (gU (i7 (gS (mU zg b d boot_str (vr 0)))) (i9 (i7 (MQ au (eY gg fm g gE (af (vr 0) aq)) (pJ a)))))) (aI (aS jC)) cg)
  (aI (aS (eY (C2 rfl) D3 i boot_all (af (pH none (own:=["letter"]) (frees:=[]) (ix:=[]) rfl (EE (vr 0)) (λc=>(pG 0 (show(["letter"]:List Str).Nodup by decide+kernel))) (λc=>(yk bx (vr 0) bx))) aq))))),λds A R h u=>?_⟩
 obtain⟨v,⟨n,rfl,hn,rfl⟩,q⟩:=h;have hz:n.length<=sizeLine:=cP hn.hi (by decide);have h1:=hn.lo;have h3:=hn.hi;refine⟨hz,cD (λ_=>?_) (λc=>absurd (show(1:Int)<=(n.length:Nat) by omega) c)⟩;refine cN (λc=>absurd (show((n.length:Nat):Int)<=3 by omega) c) (λ_=>?_);refine kE (f:=λ_=>.bl true) trivial _ _ (λx j=>⟨[x],rfl,λQ k=>?_⟩) ?_ ?_
 .obtain⟨c,hc,rfl⟩:=bX.mp j
  obtain⟨y,z⟩:=hn.az c hc;have l:¬((⟨#[c]⟩:Str).cps.toList<("a":Str).cps.toList):=by
   rw[LC];intro h;have:=zZ.mp h;omega
  have m:¬(("z":Str).cps.toList<(⟨#[c]⟩:Str).cps.toList):=by
   rw[LD];intro h;have:=zZ.mp h;omega
  refine cN (λ_=>?_) (λh=>absurd h l);have o:(!decide (("z":Str).cps.toList<(⟨#[c]⟩:Str).cps.toList))=true:=by rw[dW m];rfl
  show Q (.bl (!decide (("z":Str).cps.toList<(⟨#[c]⟩:Str).cps.toList))) A;rw[o];exact k
 .have:(iL n).length=n.length:=by simp[iL,Str.length]
  show 0+(iL n).length<=sizeLine;omega
 .refine CN (bs:=(iL n).map λ_=>true) ck (xw _ _) ?_
  have e:((iL n).map λ_=>true).all id=true:=by simp
  rw[e];exact q _ Gr.push
theorem FG(T:TopD K mg "is_mobile_within" Be qE)(i:mg "isinstance"=none)(x:mg "str"=none)(u:mg "tuple"=none)(k:mg "len"=none){t:Tok}(g:mg "LONGEST_ARM"=some (.int 9 t))
  (o:aC P w K mg base 1 "is_name" qF (aE mg 1 wH))(j:aC P w K mg base 1 "is_number" qG (aE mg 3 wJ)):∀d,aC P w K mg base (d+1) "is_mobile_within" qE (aE mg 2 (wu d)):=by
 intro d;induction d with
 |zero=>
  refine ja T λds A R RE h=>?_;obtain⟨v,⟨m,_,_,h,_⟩,_⟩:=h;omega
 |succ d e=>
  refine fP T Lm rfl (by decide) λN RE f G B outer s H E y U z ds A R h V=>?_;have p:=y.units;refine⟨_,(aH (b5 (PW.pt (gU (i7 (gS (mU kit_tuple i u boot_tuple (vr 0)))) (gU (c_ p (eY gg fm k gE (af (vr 0) aq)) au) (i9 (i7 (gS (mU zg i x boot_str (dX p (vr 0) au)))))))) (aI (aS jC)) cg)
  (aH (b5 (c_ p (dX p (vr 0) au) bx) (aI (aS (xV (pO p (eY gg fm k gE (af (vr 0) aq)) au) (sV (dL o y z (af (dX p (vr 0) au) aq)))))) cg)
  (aH (b5 (PW.pt (gU (nV p (dX p (vr 0) au) bx) (gU (nV p (eY gg fm k gE (af (vr 0) aq)) au) (i9 (c_ p (vr 1) au))))) (aI (aS jC)) cg)
  (aH (b5 (PW.pt (gU (i7 (gS (dL j y z (af (dX p (vr 0) au) (af au (af (pJ g) aq)))))) (i9 (i7 (gS (dL j y z (af (dX p (vr 0) au) (af au (af (pJ g) aq))))))))) (aI (aS jC)) cg)
  (aI (aS (xV (dL e y z (af (dX p (vr 0) au) (af (pK (vr 1) au) aq))) (sV (dL e y z (af (dX p (vr 0) au) (af (pK (vr 1) au) aq))))))))))),?_⟩
  obtain⟨v,⟨m,rfl,C,hd,rfl⟩,q⟩:=h;cases m with
  |wt n=>
   exact⟨rfl,_,⟨n,rfl,C.nm n (by simp[aW.names]),rfl⟩,q⟩
  |ah l r a b=>
   obtain⟨⟨h1,h2,h3,I,J,L⟩,hn⟩:=C;have M:max a.deep b.deep+1<d+1:=hd;have F:((d+1:Nat):Int) - 1 - 1=(d:Int) - 1:=by omega
   have O:(decide (1<=l)&&decide (l<=9))=true:=by simp[h1,h2]
   have Q:(decide (1<=r)&&decide (r<=9))=true:=by simp[h3,I]
   refine cD (λc=>absurd c (by omega)) (λ_=>?_);refine⟨rfl,_,⟨l,1,9,rfl,rfl⟩,λW g1=>?_⟩;rw[O];refine⟨rfl,_,⟨r,1,9,rfl,rfl⟩,λX g2=>?_⟩;rw[Q];refine⟨rfl,_,⟨a,show [enc a,D.int (((d+1:Nat):Int) - 1 - 1)]=_ by rw[F],⟨J,λn h=>hn n (by simp[aW.names,h])⟩,by omega,rfl⟩,λY g3=>?_⟩;refine⟨rfl,_,⟨b,show [enc b,D.int (((d+1:Nat):Int) - 1 - 1)]=_ by rw[F],⟨L,λn h=>hn n (by simp[aW.names,h])⟩,by omega,rfl⟩,λZ S=>?_⟩;exact q _ (((g1.trans g2).trans g3).trans S)
theorem FH(T:TopD K mg "is_mobile" Bd qD){t:Tok}(b:mg "MOST_RODS"=some (.int 5 t))(a:aC P w K mg base 7 "is_mobile_within" qE (aE mg 2 (wu 6))):aC P w K mg base 8 "is_mobile" qD (aE mg 1 wo):=by
 refine c7 T Ll λc f d g nd=>⟨_,(aI (aS (dL a c d (af (vr 0) (af (pJ b) aq))))),λds A R h i=>?_⟩;obtain⟨v,⟨m,rfl,e,hd,rfl⟩,q⟩:=h;exact⟨rfl,_,⟨m,rfl,e,by omega,rfl⟩,q⟩
theorem FA(T:TopD K mg "check_mobile" Bb nE){a:Addr}(c:mg "NoMobile"=some (.ref a))(d:excIn K a rz "ValueError.__new__"=true)(b:aC P w K mg base 8 "is_mobile" qD (aE mg 1 wo)):aC P w K mg base 9 "check_mobile" nE (aE mg 1 sq):=by
 refine c7 T Lj λe f g j nd=>⟨_,(aI (b5 (i7 (gS (dL b e g (af (vr 0) aq)))) (aI (yg f rfl c d (af bx aq))) cg)),λds A R h k=>?_⟩;obtain⟨v,⟨m,rfl,i,hd,rfl⟩,q⟩:=h;exact⟨rfl,_,⟨m,rfl,i,hd,rfl⟩,λl g1=>q _ g1⟩
theorem pw_eq{ys b:List Str}(h1:ys.Pairwise strLt)(h2:b.Pairwise strLt)(c:∀x,x∈ys↔x∈b):ys=b:=by
 induction ys generalizing b with
 |nil=>
  cases b with
  |nil=>rfl
  |cons a r=>exact absurd ((c a).mpr (b8 ..)) (by simp)
 |cons y ys f=>
  cases b with
  |nil=>exact absurd ((c y).mp (b8 ..)) (by simp)
  |cons a r=>
   have p1:=lH.mp h1;have p2:=lH.mp h2;have e:y=a:=by
    have g:=(c y).mp (b8 ..);have h:=(c a).mpr (b8 ..);rcases aQ.mp g with q|q
    .exact q
    rcases aQ.mp h with q'|q'
    .exact q'.symm
    exact absurd (List.lt_trans (p2.1 y q) (p1.1 a q')) (rS _)
   subst e;rw[f p1.2 p2.2 λx=>?_];constructor
   .intro d
    rcases aQ.mp ((c x).mp (bT _ d)) with q|q
    .subst q;exact absurd (p1.1 x d) (rS _)
    .exact q
   .intro d
    rcases aQ.mp ((c x).mpr (bT _ d)) with q|q
    .subst q;exact absurd (p2.1 x d) (rS _)
    .exact q
theorem FF(T:TopD K mg "greatest_divisor" Bc nF):aC P w K mg base 1 "greatest_divisor" nF (aE mg 2 sr):=by
 refine c7 T Lk λo p s t nd=>⟨_,(aH (EU k_ (MO (vr 1) au) (aH (dS 2 nd (jD (vr 0) (vr 1)))
  (aH (dS 0 nd (vr 1))
  (aI (dS 1 nd (vr 2))))))
  (aI (aS (vr 0)))),λds A R h u=>?_⟩
 obtain⟨v,⟨a,b,rfl,i,j,rfl⟩,q⟩:=h;refine⟨λn τ A'=>A'=A/\∃(x y:Int) (r:Option D),τ=[some (.int x),some (.int y),r]/\0<=x/\0<=y/\Int.gcd x y=Int.gcd a b/\n=y.toNat,⟨_,rfl,a,b,none,rfl,i,j,rfl,rfl⟩,?_⟩;rintro n τ A' ⟨rfl,x,y,r,rfl,h0,h1,g,rfl⟩;refine cD (λc=>?_) (λc=>?_)
 .refine⟨λτ k=>k=A'/\∃(f d:Int) (r:Option D),τ=[some (.int f),some (.int d),r]/\0<=f/\0<=d/\Int.gcd f d=Int.gcd a b/\d.toNat<y.toNat,λbZ A' ⟨e,f,d,r',h1,h2,h3,l,m⟩=>⟨_,m,e,f,d,r',h1,h2,h3,l,rfl⟩,?_⟩
  have m0:=oK x (show y≠0 by omega);have z:=oJ x (show 0<y by omega);exact⟨c,rfl,y,x%y,_,rfl,h1,m0,by rw[Gd h0 c];exact g,by omega⟩
 .have e:y=0:=by omega
  subst e;have:(x:Int)=(Int.gcd a b:Int):=by rw[<-g,Int.gcd_zero_right];omega
  show R (.int x) A';rw[this];exact q _ Gr.refl
theorem F0(T:TopD K mg "reduced" Bp qN)(c:aC P w K mg base 1 "greatest_divisor" nF (aE mg 2 sr)):aC P w K mg base 2 "reduced" qN (aE mg 2 wL):=by
 refine c7 T Lv λf l g m nd=>⟨_,(aH (dS 2 nd (dL c f g (af (vr 0) (af (vr 1) aq))))
  (aI (aS (cS (af (mT (vr 0) (vr 2)) (af (mT (vr 1) (vr 2)) aq)))))),λds A R h i=>?_⟩
 obtain⟨v,⟨a,b,rfl,j,o,hz,rfl⟩,q⟩:=h;have d:0<(Int.gcd a b:Int):=by
  have:=Int.gcd_pos_of_ne_zero_left b (show a≠0 by omega);omega
 have i:(Int.gcd a b:Int)<=a:=Int.le_of_dvd j (Int.gcd_dvd_left a b);have e:(Int.gcd a b:Int).natAbs.log2<9000:=by
  have h1:(Int.gcd a b:Int).natAbs<2 ^ 2000:=by omega
  have:=(Nat.log2_lt (n:=(Int.gcd a b:Int).natAbs) (k:=2000) (by omega)).mpr h1;omega
 refine⟨rfl,_,⟨a,b,rfl,by omega,by omega,rfl⟩,λp g1=>?_⟩;exact⟨⟨d,e⟩,⟨d,e⟩,show 2<=sizeLine by decide,q _ g1⟩
end My
namespace DP
open L2 MA
def fq(x:Rat):D:=.tup [.int (rf x).1,.int (rf x).2]
def qW(p:Str×Str×Rat):D:=.tup [.str p.1,.str p.2.1,fq p.2.2]
theorem KL{a b:Int}(c:0<b):rd a b=rf ((a:Rat)/(b:Rat)):=u5 c
def wK:Ct:=λds A R _=>∃a b c d:Int,ds=[.tup [.int a,.int b],.tup [.int c,.int d]]/\0<a/\0<b/\0<c/\0<d/\c<2 ^ 64/\d<2 ^ 64/\a*c<2 ^ 2000/\∀A',Gr A A'->R (fq (((a:Rat)/(b:Rat))*((c:Rat)/(d:Rat)))) A'
theorem mul_div{a b c d:Int}(e:0<b)(hd:0<d):((a*c:Int):Rat)/((b*d:Int):Rat)=((a:Rat)/(b:Rat))*((c:Rat)/(d:Rat)):=by
 have h1:=sJ (Int.ne_of_gt e);have h2:=sJ (Int.ne_of_gt hd);rw[rT,rT];grind
def wM(d:Nat):Ct:=λds A R _=>∃m w x,ds=[enc m,.str w,fq x]/\m.arms/\m.deep<d/\d<=6/\w.length+d<=100/\0<x/\(rf x).1*18 ^ m.deep<=1000000000/\∀A' q,Gr A A'->A'[q]?=some (.lst ((aP m w x).map qW))->A.length<=q->R (.ref q) A'
def su:Ct:=λds A R _=>∃m,ds=[enc m]/\Wf m/\m.deep<=5/\∀A' q,Gr A A'->A'[q]?=some (.lst ((aP m "" 1).map qW))->A.length<=q->R (.ref q) A'
theorem xh{a:Int}(h:a<=1000000000000):a<2 ^ 2000:=Int.lt_of_le_of_lt h (Int.lt_of_lt_of_le (show(1000000000000:Int)<2 ^ 64 by decide) (by
 have:(2:Nat) ^ 64<=2 ^ 2000:=fW (by decide) (by decide);exact_mod_cast this))
end DP
namespace My
open L2 DP MA
theorem FZ(T:TopD K mg "product" Bo qM)(e:aC P w K mg base 2 "reduced" qN (aE mg 2 wL)):aC P w K mg base 3 "product" qM (aE mg 2 wK):=by
 refine c7 T Lu λj p k f nd=>⟨_,(aI (aS (dL e j k (af (iZ (dX f (vr 0) au) (dX f (vr 1) au)) (af (iZ (dX f (vr 0) au) (dX f (vr 1) au)) aq))))),λds A R h r=>?_⟩;obtain⟨a,b,c,d,rfl,h1,h2,h3,i,l,m,n,q⟩:=h;refine⟨.inr ⟨by omega,l⟩,.inr ⟨by omega,m⟩,rfl,_,⟨_,_,rfl,jj h1 h3,jj h2 i,n,rfl⟩,λo g1=>?_⟩;have g:=q o g1;rw[<-mul_div h2 i] at g;unfold fq at g;rw[<-KL (jj h2 i)] at g;exact g
theorem F2(T:TopD K mg "shares_below" Bs qP)(e:aC P w K mg base 3 "product" qM (aE mg 2 wK)):∀d,aC P w K mg base (d+3) "shares_below" qP (aE mg 3 (wM d)):=by
 intro d;induction d with
 |zero=>
  refine ja T λds A R RE h=>?_;obtain⟨m,w,x,_,_,h,_⟩:=h;omega
 |succ d c=>
  refine fP T BD rfl (by decide) λN RE f C B outer s H E j L k ds A R h M=>?_;have g:=j.units;have nd:=BD.nd;refine⟨_,(aH (b5 (c_ g (dX g (vr 0) au) bx) (aI (aS (fy (af (cS (af (vr 1) (af (dX g (vr 0) au) (af (vr 2) aq)))) aq)))) cg)
  (aH (dS 3 nd (fM (dX g (vr 0) au) (dX g (vr 0) au)))
  (aH (dS 4 nd (dL e j k (af (vr 2) (af (cS (af (dX g (vr 0) au) (af (vr 3) aq))) aq))))
  (aH (dS 5 nd (dL e j k (af (vr 2) (af (cS (af (dX g (vr 0) au) (af (vr 3) aq))) aq))))
  (aI (aS (fM (dL c j k (af (dX g (vr 0) au) (af (fM (vr 1) bx) (af (vr 4) aq)))) (dL c j k (af (dX g (vr 0) au) (af (fM (vr 1) bx) (af (vr 5) aq))))))))))),?_⟩
  obtain⟨m,w,x,rfl,D,hd,O,Q,i,hn,q⟩:=h;have hs:(1000:Nat)<=sizeLine:=by decide
  cases m with
  |wt n=>exact⟨show 3<=sizeLine by decide,show 1<=sizeLine by decide,q _ _ Gr.push ck (aF _)⟩
  |ah l r a b=>
   have F:max a.deep b.deep+1<d+1:=hd;obtain⟨t,S,u,U,o,p⟩:=D;have V:("l":Str).length=1:=by decide+kernel
   have W:("r":Str).length=1:=by decide+kernel
   have al:∀x y:Str,(x++y).length=x.length+y.length:=λx y=>Array.size_append;have np:=k9 i;have dp:=gq x;have hn:(rf x).1*18 ^ (max a.deep b.deep+1)<=1000000000:=hn;have n1:(rf (x*((r:Rat)/((l+r:Int):Rat)))).1<=(rf x).1*18:=dg (num_mul (by omega) (mul_nonneg (by omega) (by omega))) (oh (by omega) (by omega));have n2:(rf (x*((l:Rat)/((l+r:Int):Rat)))).1<=(rf x).1*18:=dg (num_mul (by omega) (mul_nonneg (by omega) (by omega))) (oh (by omega) (by omega));obtain⟨k1,_,k0⟩:=x6 hn n1 np;obtain⟨_,k2,_⟩:=x6 hn n2 np;have p1:0<x*((r:Rat)/((l+r:Int):Rat)):=aW.step_pos t u i;have p2:0<x*((l:Rat)/((l+r:Int):Rat)):=by
    have:=aW.step_pos (l:=r) (r:=l) u t i;rwa [add_comm r l] at this
   have X:(rf x).1*r<=1000000000*18:=g7 k0 (by omega) (by omega) (by omega);have Y:(rf x).1*l<=1000000000*18:=g7 k0 (by omega) (by omega) (by omega);have G:(18:Int)<2 ^ 64:=by decide
   refine⟨show 2<=sizeLine by decide,rfl,_,_,_,_,rfl,np,dp,by omega,by omega,by omega,by omega,xh (by omega),λZ g1=>?_⟩;refine⟨show 2<=sizeLine by decide,rfl,_,_,_,_,rfl,np,dp,by omega,by omega,by omega,by omega,xh (by omega),λA2 g2=>?_⟩;rw[nL];refine⟨by omega,rfl,a,_,_,rfl,o,by omega,by omega,by rw[al];omega,p1,k1,λA3 q3 g3 h3 _=>?_⟩;refine⟨by omega,rfl,b,_,_,rfl,p,by omega,by omega,by rw[al];omega,p2,k2,λI q4 v J _=>?_⟩;have z1:=nB (m:=a) (by omega);have z2:=nB (m:=b) (by omega);have z:Gr A I:=((g1.trans g2).trans g3).trans v;refine Dg (v.get h3) J (by simp[nQ];omega) (q _ _ (z.trans Gr.push) ?_ z.len);rw[ck];simp[aP]
theorem F1(T:TopD K mg "shares" Br nG)(a:aC P w K mg base 9 "check_mobile" nE (aE mg 1 sq))(b:aC P w K mg base 9 "shares_below" qP (aE mg 3 (wM 6))):aC P w K mg base 10 "shares" nG (aE mg 1 su):=by
 refine c7 T Lx λc g d i nd=>⟨_,(aH (kI (dL a c d (af (vr 0) aq)))
  (aI (aS (dL b c d (af (vr 0) (af bx (af (cS (af au (af au aq))) aq))))))),λds A R h j=>?_⟩
 obtain⟨m,rfl,f,hd,q⟩:=h;refine⟨rfl,_,⟨m,rfl,f,hd,rfl⟩,λk g1=>?_⟩;have l:(D.tup [.int 1,.int 1])=fq 1:=rfl;refine⟨show 2<=sizeLine by decide,rfl,m,_,1,rfl,f.arms,by omega,by omega,by decide+kernel,by decide,?_,λn o g2 h2 l2=>q _ _ (g1.trans g2) h2 (cP g1.len l2)⟩;have p:=nJ hd;have e:(18:Int) ^ 5=1889568:=by decide
 rw[e] at p;show(1:Int)*18 ^ m.deep<=1000000000;omega
end My
namespace DP
open L2 MA
def bD:Option (Str×Str)->D
 |some p=>.tup [.str p.1,.str p.2]
 |none=>.aD
def sj:Ct:=λds A R _=>∃m,ds=[enc m]/\Wf m/\m.deep<=5/\∀A',Gr A A'->R (bD (bH [] (aP m "" 1))) A'
theorem tQ(k:Key)(v:D)(k':Key):∀kvs:List (Key×D),b6 (cU kvs k v) k'=if k=k' then some v else b6 kvs k':=by
 intro kvs;by_cases c:(kvs.any λa=>decide (a.1=k))=true
 .have e:cU kvs k v=kvs.map λa=>if a.1=k then (a.1,v) else a:=by
   unfold cU;rw[aj c]
  rw[e];clear e;induction kvs with
  |nil=>simp at c
  |cons p r f=>
   by_cases b:p.1=k
   .rw[dD,aj b]
    unfold b6;by_cases hk:k=k'
    .rw[aj hk,aj (by rw[<-hk];exact b)]
    .rw[ai hk,ai (λz=>hk (by rw[<-b];exact z))]
     rw[ai (λz=>hk (by rw[<-b];exact z))];by_cases d:(r.any λa=>decide (a.1=k))=true
     .rw[f d,ai hk]
     .have:r.map (λa=>if a.1=k then (a.1,v) else a)=r:=by
       rw[lE (g:=id)]
       .simp
       .intro q hq
        rw[ai]
        .rfl
        .intro z
         exact d (any_eq_true.mpr ⟨q,hq,fY z⟩)
      rw[this]
   .have d:(r.any λa=>decide (a.1=k))=true:=by simpa[b] using c
    rw[dD,ai b];unfold b6;by_cases hk:p.1=k'
    .rw[aj hk,ai (λz=>b (by rw[z];exact hk)),aj hk]
    .rw[ai hk,ai hk]
     exact f d
 .have e:cU kvs k v=kvs++[(k,v)]:=by
   unfold cU;rw[ai c]
  rw[e];clear e;induction kvs with
  |nil=>simp[b6]
  |cons p r f=>
   have b:p.1≠k:=λz=>c (by simp[z]);have d:¬(r.any λa=>decide (a.1=k))=true:=λz=>c (by simp[z]);show(if p.1=k' then some p.2 else b6 (r++[(k,v)]) k')=if k=k' then some v else (if p.1=k' then some p.2 else b6 r k')
   by_cases hk:p.1=k'
   .rw[aj hk,ai (λz=>b (by rw[z];exact hk)),aj hk]
   .rw[ai hk,ai hk]
    exact f d
theorem Kw(kvs:List (Key×D))(k:Key)(v:D):(cU kvs k v).length<=kvs.length+1:=by
 unfold cU;split<;>simp
theorem Ky{A:Ar}{r:Nat}{kvs:List (Key×D)}{y v:D}{k:Key}{R:Ar->Prop}(h:A[r]?=some (.dct kvs))(hk:gY y=some k)(a:kvs.length<sizeLine)(q:R (A.set r (.dct (cU kvs k v)))):nK r y v A R:=by
 unfold nK;simp only[h,hk];exact⟨a,q⟩
theorem Gh{A:Ar}{r:Nat}{c c':C}(h:A[r]?=some c):(A.set r c')[r]?=some c':=by
 rw[lX (bY.mp h).1]
theorem zl(x:Rat):(toQ (fq x)).canLay0=true:=by simp[fq,toQ,aY,canLay0,canLayAll0]
theorem Ey(x:Rat):(toQ (fq x)).depth<=64:=by simp[fq,toQ,aY,PyData.depth,depthAll]
theorem Fg(x y:Rat):PyData.eqv (toQ (fq x)) (toQ (fq y))=decide (x=y):=by
 by_cases h:x=y
 .subst h
  simp[fq,toQ,aY,PyData.eqv,eqvAll]
 .rw[dW h]
  have:¬((rf x).1=(rf y).1/\(rf x).2=(rf y).2):=λz=>h (KQ (Prod.ext z.1 z.2));by_cases h1:(rf x).1=(rf y).1
  .have h2:¬(rf x).2=(rf y).2:=λz=>this ⟨h1,z⟩
   simp[fq,toQ,aY,PyData.eqv,eqvAll,h2]
  .simp[fq,toQ,aY,PyData.eqv,eqvAll,h1]
theorem Ip{x y:Rat}{A:Ar}{R:DK}(k:R (.bl (!decide (x=y))) A):fu true (fq x) (fq y) A R:=by
 unfold fu;have h1:cV A (fq x)=toQ (fq x):=rfl;have h2:cV A (fq y)=toQ (fq y):=rfl;rw[h1,h2];have:=Ey x;refine⟨rfl,rfl,zl x,zl y,by omega,?_⟩;rw[Fg];exact k
theorem yu{pre:List (Str×Str×Rat)}{p:Str×Str×Rat}{n:Str}:(pre++[p]).find? (λq=>decide (q.2.1=n))=match pre.find? (λq=>decide (q.2.1=n)) with|some q=>some q|none=>if p.2.1=n then some p else none:=by
 rw[List.find?_append];cases pre.find? (λq=>decide (q.2.1=n)) with
 |some q=>rfl
 |none=>
  by_cases h:p.2.1=n
  .simp[h]
  .simp[h]
end DP
namespace My
open L2 DP MA
theorem Fy(T:TopD K mg "bar" Ba nD)(d:aC P w K mg base 10 "shares" nG (aE mg 1 su)):aC P w K mg base 11 "bar" nD (aE mg 1 sj):=by
 refine c7 T Li λJ S L l nd=>⟨_,(aH (dS 1 nd El)
  (aH (mZ k_ rfl (iA (dL d J L (af (vr 0) aq))) (EC rfl (s8 (dG 2 nd) (s8 (dG 3 nd) (s8 (dG 4 nd) ED)))) (aI (b5 (MS l (vr 3) (vr 1)) (aI (ES l (vr 1) (vr 3) (cS (af (vr 2) (af (vr 4) aq))) rfl)) (aI (b5 (nV l (dX l (dX l (vr 1) (vr 3)) au) (vr 4)) (aI (aS (cS (af (dX l (dX l (vr 1) (vr 3)) au) (af (vr 2) aq))))) cg)))))
  (aI (aS pI)))),λds A R h U=>?_⟩
 obtain⟨m,rfl,M,hd,q⟩:=h;obtain⟨o,j⟩:∃t,t=bH [] (aP m "" 1):=⟨_,rfl⟩;rw[<-j] at q;refine⟨rfl,m,rfl,M,hd,λN H g1 h1 l1=>?_⟩;have l1:A.length+1<=H:=by simpa using l1
 refine iE h1 ?_;have ln:=nQ m "" 1;have nl:=nB hd;have hz:(1000:Nat)<=sizeLine:=by decide
 have O:=g1.get (ck (A:=A) (c:=C.dct []));refine kH (λrest τ A'=>∃(pre more:List (Str×Str×Rat)) (kvs:List (Key×D)) (x y z:Option D),rest=more.map qW/\τ=[some (enc m),some (.ref A.length),x,y,z]/\pre++more=aP m "" 1/\bH pre more=o/\A'[A.length]?=some (.dct kvs)/\kvs.length<=pre.length/\(∀n:Str,b6 kvs (Sum.inr n)=(pre.find? λq=>decide (q.2.1=n)).map λp=>.tup [.str p.1,fq p.2.2])/\bL A.length N A'/\A.length+1<=A'.length) ?_ ?_ ?_ _ _ _ ⟨[],aP m "" 1,[],none,none,none,rfl,rfl,rfl,j.symm,O,aF _,λn=>rfl,bL.refl,by have:=g1.len;simpa using this⟩
 .rintro rest τ A' ⟨pre,more,kvs,x,y,z,_,_,_,_,_,_,_,b,_⟩
  exact b H _ (by omega) h1
 .rintro v rest τ A' ⟨pre,more,kvs,x,y,z,e,rfl,F,a,r,hk,G,b,s⟩ V I
  cases more with
  |nil=>cases e
  |cons p more=>
   cases e;obtain⟨k,n,g⟩:=p;have f:=G n;have Q:pre.length<=32:=by
    have:(pre++(k,n,g)::more).length=(aP m "" 1).length:=by rw[F]
    simp at this;omega
   unfold bH at a;refine⟨rfl,GR r rfl ?_⟩;cases i:pre.find? (λq=>decide (q.2.1=n)) with
   |none=>
    rw[i] at f a;have f:b6 kvs (Sum.inr n)=none:=f;rw[f];refine⟨show 2<=sizeLine by decide,Ky r rfl (by omega) ?_⟩;refine I _ _ ⟨pre++[(k,n,g)],more,_,_,_,_,rfl,rfl,by simpa using F,a,Gh r,?_,λn'=>?_,b.trans bL.set,by simpa using s⟩
    .have:=Kw kvs (Sum.inr n) (.tup [.str k,fq g])
     simp;omega
    .rw[tQ,yu]
     by_cases hn:n=n'
     .subst hn
      rw[aj rfl,i];simp
     .rw[ai (λz=>hn (Sum.inr.inj z)),G n']
      cases pre.find? (λq=>decide (q.2.1=n')) with
      |some q=>rfl
      |none=>simp[hn]
   |some u=>
    rw[i] at f a;have f:b6 kvs (Sum.inr n)=some (.tup [.str u.1,fq u.2.2]):=f;rw[f];refine t7 r rfl f ?_;refine Ip ?_;by_cases hs:u.2.2=g
    .have a:(if u.2.2=g then bH (pre++[(k,n,g)]) more else some (u.1,k))=o:=a
     rw[aj hs] at a;refine cN (λc=>absurd hs c) (λ_=>?_);refine I _ _ ⟨pre++[(k,n,g)],more,kvs,_,_,_,rfl,rfl,by simpa using F,a,r,by simp;omega,λn'=>?_,b,s⟩;rw[yu,G n'];cases B:pre.find? (λq=>decide (q.2.1=n')) with
     |some q=>rfl
     |none=>
      by_cases hn:n=n'
      .subst hn
       rw[i] at B;cases B
      .simp[hn]
    .have a:(if u.2.2=g then bH (pre++[(k,n,g)]) more else some (u.1,k))=o:=a
     rw[ai hs] at a;refine cN (λ_=>?_) (λc=>absurd c hs);refine t7 r rfl f ?_;refine⟨show 2<=sizeLine by decide,?_⟩;have E:=q A' (Gr.uJ (Gr.push.trans g1) (aF _) b);rw[<-a] at E;exact E
 .rintro τ A' ⟨pre,more,kvs,x,y,z,e,rfl,F,a,r,hk,G,b,s⟩
  cases more with
  |cons p more=>cases e
  |nil=>
   have E:=q A' (Gr.uJ (Gr.push.trans g1) (aF _) b);rw[<-a] at E;exact E
theorem Fz(T:TopD K mg "_law_cell_at" AU qv)(a:mg "len"=none):aC P w K mg base 1 "_law_cell_at" qv (aE mg 2 wk):=by
 refine c7 T Lc λg i j d nd=>⟨_,(aH (b5 (MR (vr 1) (eY gg fm a gE (af (vr 0) aq))) (aI (aS (dX d (vr 0) (vr 1)))) cg)
  (aH (b5 (c_ d (vr 0) (fy aq)) (aI (aS au)) cg)
  (aI (aS (fM (iZ (dX d (vr 0) (jD (vr 1) (eY gg fm a gE (af (vr 0) aq)))) au) (vr 1)))))),λds A R h l=>?_⟩
 obtain⟨ns,k,rfl,hk,q⟩:=h;refine cD (λc=>?_) (λc=>?_)
 .obtain⟨v,e,_⟩:=oZ hk c
  conv=>whnf
  rw[e];exact q v _ Gr.refl
 .refine⟨b9 _,Ff ?_⟩
  refine cD (λf=>?_) (λf=>?_)
  .exact q _ _ Gr.push
  .have b:0<(ns.length:Int):=by
    have:=List.length_pos_iff.mpr f;omega
   obtain⟨v,e,_⟩:=oZ (xs:=ns) (oK k (by omega)) (oJ k b);refine⟨b,?_⟩;conv=>whnf
   rw[e];exact⟨.inr ⟨by decide,by decide⟩,q _ _ Gr.push⟩
theorem FT(T:TopD K mg "_law_mixed" AX qx)(a:aC P w K mg base 1 "_law_cell_at" qv (aE mg 2 wk)):aC P w K mg base 2 "_law_mixed" qx (aE mg 3 wF):=by
 refine c7 T Lf λc e d f nd=>⟨_,(aH (dS 3 nd (jD (fM (fM (iZ (dL a c d (af (vr 0) (af (vr 1) aq))) au) (iZ au (vr 1))) au) au))
  (aI (aS (jD (jD (jD (Es (vr 3) au) au) au) (vr 2))))),λds A R h j=>?_⟩
 obtain⟨ns,k,m,rfl,hk,b,q⟩:=h;refine⟨rfl,ns,k,rfl,hk,λi A' g=>?_⟩;refine⟨.inr ⟨by decide,by decide⟩,.inl ⟨by decide,by decide⟩,(by decide:(0:Int)<2147483647),?_⟩;have l:=oK (i*1103515245+7919*k+12345) (show(2147483647:Int)≠0 by decide);have n:=oJ (i*1103515245+7919*k+12345) (show(0:Int)<2147483647 by decide);refine⟨⟨by decide,by decide,?_⟩,(by decide:(0:Int)<2147483647),(by decide:(0:Int)<999983),b,?_⟩
 .have:(2147483647:Nat)<2 ^ 64:=by decide
  omega
 exact q _ _ (oK _ (by omega)) (oJ _ b) g
theorem FD(T:TopD K mg "_law_draw" AV iH)(b:mg "len"=none)(a:aC P w K mg base 2 "_law_mixed" qx (aE mg 3 wF)):aC P w K mg base 3 "_law_draw" iH (aE mg 3 jw):=by
 refine c7 T Ld λe k f l nd=>⟨_,(aH (kI (sU plainAttrs_list PySem.F.slot_list_append PySem.F.type_list_append uB xO (vr 1) (af au aq)))
  (aI (aS (dL a e f (af (vr 0) (af (eY gg fm b gE (af (vr 1) aq)) (af (vr 2) aq))))))),λds A R h o=>?_⟩
 obtain⟨ns,t,m,n,rfl,⟨xs,d,hz⟩,hn,j,q⟩:=h;refine⟨tY d,w4 d (by rw[sizeLine];omega) ?_⟩;have c:(A.set t (.lst (xs++[.int 0])))[t]?=some (.lst (xs++[.int 0])):=get_set d;refine uc c ⟨rfl,ns,_,m,rfl,by omega,j,λi A' h0 h1 g=>?_⟩;exact q i A' h0 h1 (bL.set.trans g.but) (Tw.gr ⟨_,c,by simpa using hz⟩ g)
theorem FY(T:TopD K mg "_law_pick" AZ lg)(c:mg "len"=none)(a:aC P w K mg base 3 "_law_draw" iH (aE mg 3 jw)):aC P w K mg base 4 "_law_pick" lg (aE mg 3 mC):=by
 refine c7 T Lg λd m e g nd=>⟨_,(aI (aS (dX g (vr 2) (dL a d e (af (vr 0) (af (vr 1) (af (eY gg fm c gE (af (vr 2) aq)) aq))))))),λds A R h o=>?_⟩;obtain⟨ns,t,r,xs,n,rfl,f,d,e,j,hn,q⟩:=h;have p:=List.length_pos_iff.mpr e;refine uc d ⟨rfl,ns,t,_,n,rfl,j,hn,by omega,λi A' h0 h1 b t'=>?_⟩;obtain⟨v,k,l⟩:=oZ h0 h1;exact G4 (b r _ f d) k (q v A' l b t')
theorem FU(T:TopD K mg "_law_mobile" AY qy)(a:aC P w K mg base 3 "_law_draw" iH (aE mg 3 jw))(g:aC P w K mg base 4 "_law_pick" lg (aE mg 3 mC)):∀d,aC P w K mg base (d+4) "_law_mobile" qy (aE mg 4 (wG d)):=by
 intro d;induction d with
 |zero=>
  refine ja T λds A R RE h=>?_;obtain⟨ns,t,q,p,n,_,h,_⟩:=h;omega
 |succ d e=>
  refine fP T Bw rfl (by decide) λN RE f cdv B outer s H E o hR l ds A R h hl=>?_;have U:=o.units;have nd:=Bw.nd;refine⟨_,(aH (b5 (PW.pt (gU (c_ U (vr 3) au) (i9 (c_ U (dL a o l (af (vr 0) (af (vr 1) (af au aq)))) au)))) (aI (aS (cS (af bx (af (dL g o l (af (vr 0) (af (vr 1) (af (vr 2) aq)))) aq))))) cg)
  (aH (dS 4 nd (dL g o l (af (vr 0) (af (vr 1) (af (fy (af au (af au (af au (af au aq))))) aq)))))
  (aH (yf (i:=5) (j:=6) rfl nd rfl rfl (by decide) rfl rfl (af (fM au (dL a o l (af (vr 0) (af (vr 1) (af (vr 4) aq))))) (af (fM au (dL a o l (af (vr 0) (af (vr 1) (af (vr 4) aq))))) aq)) rfl)
  (aH (dS 7 nd (dL e o l (af (vr 0) (af (vr 1) (af (vr 2) (af (pK (vr 3) au) aq))))))
  (aI (aS (cS (af bx (af (vr 5) (af (vr 6) (af (vr 7) (af (dL e o l (af (vr 0) (af (vr 1) (af (vr 2) (af (pK (vr 3) au) aq))))) aq)))))))))))),?_⟩
  obtain⟨ns,t,r,p,n,rfl,_,m,O,u,v,V,hc,q⟩:=h;have hcs:=Dv d;have hcp:=Du (d+1);have G:((d+1:Nat):Int) - 1=(d:Int):=by omega
  have leaf:∀F n1,bL t A F->Tw t n1 F->n<=n1->n1+1<=n+cst (d+1)->mC [.fl ns,.ref t,.ref r] F (λx A'=>2<=sizeLine/\R (.tup [.str "weight",x]) A') RE:=λF n1 I t1 h0 h1=>by
   refine⟨ns,t,r,_,n1,rfl,m,I r _ m O,by simpa using u,t1,by omega,λx A' l b t'=>⟨by decide,?_⟩⟩;obtain⟨y,W,rfl⟩:=bX.mp l;have one:∀z∈aW.names (aW.wt y),z=y:=λz hz=>by simpa[aW.names] using hz
   exact q (.wt y) A' ⟨trivial,λz hz=>by rw[one z hz];exact v y W⟩ (jY _) (λz hz=>by rw[one z hz];exact W) ⟨I.trans b,t'.mono (by omega)⟩
  refine cD (λc=>⟨rfl,leaf A n bL.refl V (by omega) (by omega)⟩) (λc=>?_);refine⟨rfl,ns,t,4,n,rfl,V,by omega,by decide,λi F _ _ I t1=>?_⟩;refine cD (λc2=>⟨rfl,leaf F (n+1) I t1 (by omega) (by omega)⟩) (λc2=>?_);obtain⟨NP,Q,_⟩:=id t1;have J:0<d:=by omega
  have l1:=jN Q;refine⟨show 4<=sizeLine by decide,rfl,ns,t,_,[.int 2,.int 3,.int 4,.int 9],n+1,rfl,by omega,ck,by simp,t1.gr Gr.push,by omega,λx A2 l b2 t2=>?_⟩;obtain⟨most,rfl,m0,m9⟩:∃k:Int,x=.int k/\2<=k/\k<=9:=by
   simp at l;rcases l with h|h|h|h<;>exact⟨_,h,by omega,by omega⟩
  refine⟨rfl,ns,t,most,n+2,rfl,t2,by omega,by omega,λi3 A3 i0 i1 b3 t3=>?_⟩;refine⟨rfl,ns,t,most,n+3,rfl,t3,by omega,by omega,λi4 A4 j0 j1 b4 t4=>?_⟩;have C:bL t A A4:=(((I.trans (Gr.push.but)).trans b2).trans b3).trans b4;refine⟨rfl,ns,t,r,p,n+4,show [D.fl ns,D.ref t,D.ref r,D.int (((d+1:Nat):Int) - 1 - 1)]=_ by rw[G],J,m,C r _ m O,u,v,t4,by omega,λL A5 X d1 s1 S=>?_⟩;refine⟨rfl,ns,t,r,p,n+4+cst d,show [D.fl ns,D.ref t,D.ref r,D.int (((d+1:Nat):Int) - 1 - 1)]=_ by rw[G],J,m,S.but r _ m (C r _ m O),u,v,S.tw,by omega,λM A6 Y d2 s2 Z=>?_⟩;refine⟨show 5<=sizeLine by decide,q (.ah (1+i3) (1+i4) L M) A6 ⟨⟨by omega,by omega,by omega,by omega,X.arms,Y.arms⟩,λx l=>?_⟩ (show max L.deep M.deep+1<d+1 by omega) (λx l=>?_) ⟨(C.trans S.but).trans Z.but,Z.tw.mono (by omega)⟩⟩
  .rcases aU.mp (show x∈L.names++M.names from l) with h|h
   .exact X.nm x h
   .exact Y.nm x h
  .rcases aU.mp (show x∈L.names++M.names from l) with h|h
   .exact s1 x h
   .exact s2 x h
theorem zU{c:Nat}(h1:97<=c)(h2:c<=122):Nm ⟨#[c]⟩:=by
 refine⟨by show 1<=1;decide,by show 1<=3;decide,λx a=>?_⟩;have:x=c:=by simpa using a
 omega
theorem wV:("abcdefghijklmnopqrstuvwxyz":Str).cps.toList=(range 26).map (·+97):=by decide+kernel
theorem CK{k:Int}(h0:0<=k)(h1:k<26):∃c,cG ("abcdefghijklmnopqrstuvwxyz":Str).cps.toList k=some c/\97<=c/\c<=122:=by
 obtain⟨c,hc,a⟩:=oZ (xs:=("abcdefghijklmnopqrstuvwxyz":Str).cps.toList) h0 (by rw[wV];simpa using h1);refine⟨c,hc,?_⟩;rw[wV] at a;obtain⟨j,b,rfl⟩:=bX.mp a;have:=fU.mp b;omega
theorem FE(T:TopD K mg "_law_fresh" AW qw)(g:mg "len"=none):∀d,aC P w K mg base (d+1) "_law_fresh" qw (aE mg 2 (wm d)):=by
 intro d;induction d with
 |zero=>
  refine ja T λds A R RE h=>?_;obtain⟨m,q,n,_,_,h,_⟩:=h;omega
 |succ d e=>
  refine fP T Bv rfl (by decide) λN RE f J B outer s H E t Y o ds A R h Z=>?_;have i:=t.units;have nd:=Bv.nd;refine⟨_,(aH (b5 (c_ i (dX i (vr 0) au) bx) (aH (kI (sU plainAttrs_list PySem.F.slot_list_append PySem.F.type_list_append uB xO (vr 1) (af au aq)))
  (aI (aS (cS (af bx (af (dX i bx (jD (iZ (eY gg fm g gE (af (vr 1) aq)) au) au)) aq)))))) cg)
  (aH (dS 2 nd (dL e t o (af (dX i (vr 0) au) (af (vr 1) aq))))
  (aI (aS (fM (sW (vr 0) s9 (s_ au)) (cS (af (vr 2) (af (dL e t o (af (dX i (vr 0) au) (af (vr 1) aq))) aq)))))))),?_⟩
  obtain⟨m,r,n,rfl,L,hd,h8,⟨xs,p,hz⟩,hn,q⟩:=h;have p2:2 ^ (d+1)=2*2 ^ d:=by rw[jX];omega
  have p0:0<2 ^ d:=pow_pos (by decide);have hsz:(1000000:Nat)<sizeLine:=by decide
  cases m with
  |wt y=>
   refine⟨tY p,w4 p (by omega) ?_⟩;have j:(A.set r (.lst (xs++[.int 0])))[r]?=some (.lst (xs++[.int 0])):=get_set p;refine uc j ⟨.inr ⟨by decide,by decide⟩,(by decide:(0:Int)<26),?_⟩;obtain⟨c,hc,M,O⟩:=CK (oK (((xs++[D.int 0]).length:Nat)*7:Int) (by decide)) (oJ (((xs++[D.int 0]).length:Nat)*7:Int) (by decide));refine G8 hc (by decide+kernel) ⟨show 2<=sizeLine by decide,?_⟩;have one:∀z∈aW.names (aW.wt (⟨#[c]⟩:Str)),z=⟨#[c]⟩:=λz hz=>by simpa[aW.names] using hz
   exact q (.wt ⟨#[c]⟩) _ ⟨trivial,λz hz=>by rw[one z hz];exact zU M O⟩ rfl ⟨bL.set,_,j,by simp;omega⟩
  |ah l r' a b=>
   have Q:max a.deep b.deep+1<d+1:=hd;obtain⟨⟨h1,h2,h3,S,U,V⟩,k⟩:=L;refine⟨rfl,a,r,n,rfl,⟨U,λx h=>k x (by simp[aW.names,h])⟩,by omega,by omega,⟨xs,p,hz⟩,by omega,λu A1 C W ra=>?_⟩;refine⟨show ¬(HT.aK 5 0 none=0/\HT.aK 5 5 (some 3)=5) by decide,rfl,b,r,n+2 ^ d,rfl,⟨V,λx h=>k x (by simp[aW.names,h])⟩,by omega,by omega,ra.tw,by omega,λv X G db I=>?_⟩;refine⟨show 2<=sizeLine by decide,show 3+2<=sizeLine by decide,?_⟩;refine q (.ah l r' u v) X ⟨⟨h1,h2,h3,S,C.arms,G.arms⟩,λx o=>?_⟩ (show max u.deep v.deep+1=max a.deep b.deep+1 by rw[W,db]) ⟨ra.but.trans I.but,I.tw.mono (by omega)⟩;rcases aU.mp (show x∈u.names++v.names from o) with h|h
   .exact C.nm x h
   .exact G.nm x h
theorem zS:Nm "a":=⟨by decide+kernel,by decide+kernel,by decide+kernel⟩
theorem zT:Nm "b":=⟨by decide+kernel,by decide+kernel,by decide+kernel⟩
theorem Iw:Nm "c":=⟨by decide+kernel,by decide+kernel,by decide+kernel⟩
theorem IA:Nm "x":=⟨by decide+kernel,by decide+kernel,by decide+kernel⟩
theorem Iz:Nm "kk":=⟨by decide+kernel,by decide+kernel,by decide+kernel⟩
theorem IB:∀x∈(["a"]:List Str),Nm x:=λx h=>by
 rw[bh.mp h];exact zS
theorem IC:∀x∈(["a","b"]:List Str),Nm x:=λx h=>by
 rcases aQ.mp h with e|h
 .rw[e]
  exact zS
 rw[bh.mp h];exact zT
theorem ID:∀x∈(["x","b","kk","c"]:List Str),Nm x:=λx h=>by
 rcases aQ.mp h with e|h
 .rw[e]
  exact IA
 rcases aQ.mp h with e|h
 .rw[e]
  exact zT
 rcases aQ.mp h with e|h
 .rw[e]
  exact Iz
 rw[bh.mp h];exact Iw
end My
namespace L2
theorem iy.IW{P:Program}{w:World}{K:Frag}{mg:av}{base:Heap}{x:Str}{st:Stmt}{N ps:List Str}{k:Nat}{sp:Sp}{f:Addr}{fd:FuncData}(F:iy K x x st f fd)(S:bq N ps (aJ st))(len:∀vs H Q E,sp vs H Q E->vs.length=ps.length)
  (b:∀(f:Addr) (a:Value) (A:Around) (outer:List Env) (s:Shared) (H:Hp) (vs:List V) (Q:VK) (E:XK),cC k (A.deeper (envOfC x (aJ st) s.heap.objs.size f a))->sp vs H Q E->
   ∃t,cB (bQ (a_ P w) P w K mg base N x (aJ st) f a A outer s H E) (eZ st) t/\t {nx:=λ_ H'=>Q .aD H',rt:=Q} (start N vs) H):dM P w K mg base (a_ P w) (k+1) f fd ps sp:=by
 obtain⟨h,i,kV,doc,pm,an,a,ct,e,rfl,lk,c⟩:=F.ex;exact yx lk c S len λA outer s H vs Q E g d=>b f a A outer s H vs Q E g d
end L2
namespace DP
open L2 MA
theorem F9{P:Program}{w:World}{K:Frag}{mg:av}{base:Heap}{x:Str}{st:Stmt}{Nm ps:List Str}{k n:Nat}{S:Ct}{y:Addr}{fd:FuncData}(T:iy K x x st y fd)(Sc:bq Nm ps (aJ st))(hn:ps.length=n)(V:ps.length<=Nm.length)
  (j:∀(N:En) (RE:DX) (f:Addr) (g:Value) (B:Around) (outer:List Env) (s:Shared) (H:Hp) (E:XK),cC k (bQ (a_ P w) P w K mg base Nm x (aJ st) f g B outer s H E).A->
   Raises (bQ (a_ P w) P w K mg base Nm x (aJ st) f g B outer s H E) (EL mg N RE)->Passes (a_ P w) (bQ (a_ P w) P w K mg base Nm x (aJ st) f g B outer s H E) (EL mg N RE)->
   ∀ds A R,S ds A R RE->ds.length=n->∃m,cB (bQ (a_ P w) P w K mg base Nm x (aJ st) f g B outer s H E) (eZ st) (cE mg N m)/\m {nx:=λ_ A'=>R .aD A',rt:=R} (iM (Nm.length - n) ds) A):dM P w K mg base (a_ P w) (k+1) y fd ps (aE mg n S):=by
 refine T.IW Sc (λvs H Q E h=> ?_) λf g A outer s H vs Q E F h=> ?_
 .obtain⟨A,ι,ds,R,RE,t,_,o,_⟩:=h
  rw[<-ao.length o,t,hn]
 .obtain⟨p,l,ds,R,RE,t,ra,o,G,kq,J⟩:=h
  have D:∀C a H',EL mg ⟨p,l,H⟩ RE C a H'->E C none H':=λC a H' z=>by
   obtain⟨c,A',ι',⟨b,rfl,hc⟩,ex,r,q⟩:=z
   exact J c A' ι' H' b q hc ex r
  obtain⟨m,L,M⟩:=j ⟨p,l,H⟩ RE f g A outer s H E F
   (λpins σ H1 u e h' C args I O z=>AH pins σ H1 u e h' C args I O (D _ _ _ z))
   (λpins σ H1 u e s' I z=>z_ pins σ H1 u e s' I (by
    obtain⟨a,C,H',h1,h2,h3⟩:=z
    exact⟨a,C,H',h1,h2,D _ _ _ h3⟩)) ds p R G t
  have U:=ao.length o
  refine⟨_,L,p,l,_,_,⟨ra,⟨?_,λi d q=> ?_⟩,ra.refl⟩,M,⟨λτ A' ι' σ H' q e r _=>kq _ A' ι' H' _ q e r rfl,kq,λ_ _ _ _ _ q _ _ _=>q.elim,λ_ _ _ _ _ q _ _ _=>q.elim⟩⟩
  .simp[iM,L2.start]
   omega
  .obtain⟨v,h1,h2⟩:=ao.get o (ue ds _ i d q)
   refine⟨v,?_,h2⟩
   have hi:=(bY.mp h1).1
   unfold L2.start
   rw[fZ (by simpa using hi),bF,h1]
   rfl
def wz:Ct:=λds A R _=>∃ns,ds=[.fl ns]/\∀A',R (.bl true) A'
def ly:Sp:=λvs H Q _=>∃(a:Addr) (o:Obj) (ns:List Int),vs=[.ref a]/\H a=some (.cj o (.lst (ns.map V.int)))/\∀H',Q (.bl true) H'
theorem LX{mg:av}{vs:List V}{H:Hp}{Q:VK}{E:XK}(h:ly vs H Q E):aE mg 1 wz vs H Q E:=by
 obtain⟨a,o,ns,rfl,h,q⟩:=h;refine⟨[],λ_=>a,[.fl ns],λv _=>v=.bl true,λ_ _=>False,rfl,⟨λr c h=>by simp at h,λr s b=>by simp at b⟩,⟨_,[],rfl,⟨a,o,rfl,h⟩,rfl⟩,⟨ns,rfl,λ_=>rfl⟩,λv A' ι' H' u e _ _ r=>?_,λ_ _ _ _ _ z=>z.elim⟩;subst e;cases r;exact q _
def jO(o:Obj):Bool:=match o.cls with
 |.type t=> !(decide (t="list"))
 |_=>true
theorem IE{K:Frag}(h:K.all (λp=>jO p.2)=true){a:Addr}{o:Obj}(e:K.lookup a=some o):jO o=true:=by
 induction K with
 |nil=>cases e
 |cons p r b=>
  have h':jO p.2=true/\List.all r (λp=>jO p.2)=true:=by simpa using h
  rw[List.lookup] at e;split at e
  .cases e
   exact h'.1
  .exact b h'.2 e
theorem F_{K:Frag}(b:K.all (λp=>jO p.2)=true){H:Hp}{a:Addr}{ns:List Int}(d:oV H)(f:aX K H a (ns.map V.int)):ly [.ref a] H (λv _=>v=.bl true) λ_ _ _=>False:=by
 rcases f with (e|⟨o,e⟩)|⟨o,its,n,e,c,_⟩
 .rcases d a with z|⟨o,xs,z⟩
  .rw[z] at e;cases e
  .rw[z] at e;cases e
 .exact⟨a,o,ns,rfl,e,λ_=>rfl⟩
 .have:=IE b e
  unfold jO at this;rw[c] at this;simp at this
theorem pw_len:∀(ys a:List Str),ys.Pairwise strLt->(∀x∈ys,x∈a)->ys.length<=a.length
 |[],_,_,_=>b9 _
 |y::r,a,d,hs=>by
  have p:=lH.mp d;have b:=hs y (b8 ..);have:=pw_len r (a.erase y) p.2 λx c=>(vN (L7 (p.1 x c)).symm).mpr (hs x (bT _ c));rw[vL b] at this;have:=vM b;simp;omega
theorem iI:∀m:M,dQ (enc m)=true
 |.wt n=>by simp[enc,dQ,fz]
 |.ah l r a b=>by simp[enc,dQ,fz,iI a,iI b]
theorem KR:canLay0 (.str "rod")=true:=by decide+kernel
theorem Nd:canLay0 (.str "weight")=true:=by decide+kernel
theorem iF:∀m:M,(∀n∈m.names,Nm n)->(toQ (enc m)).canLay0=true
 |.wt n,h=>by
  have h1:=(h n (by simp[aW.names])).ok;have h2:=Nd;simp only[enc,toQ,aY];simp only[canLay0,canLayAll0] at h1 h2 ⊢;simp[h1,h2]
 |.ah l r a b,h=>by
  have h1:=iF a λn hn=>h n (by simp[aW.names,hn]);have h2:=iF b λn hn=>h n (by simp[aW.names,hn]);have h3:=KR;simp only[enc,toQ,aY];simp only[canLay0] at h3;simp[canLay0,canLayAll0,h1,h2,h3]
theorem mV:∀m:M,(toQ (enc m)).depth<=m.deep+1
 |.wt n=>by
  simp only[enc,toQ,aY];simp[PyData.depth,depthAll]
 |.ah l r a b=>by
  have h1:=mV a;have h2:=mV b;simp only[enc,toQ,aY];simp[PyData.depth,depthAll,aW.deep];omega
theorem vo{A:Ar}:∀m:M,cV A (enc m)=toQ (enc m)
 |.wt n=>rfl
 |.ah l r a b=>rfl
theorem uK{A:Ar}:∀m:M,jg A (enc m)=dQ (enc m)
 |.wt n=>rfl
 |.ah l r a b=>rfl
def wC:Ct:=λds A R _=>∃r xs,ds=[.ref r]/\A[r]?=some (.lst (xs.map fq))/\xs.length<=32/\(∀x∈xs,mq x)/\xs≠[]/\∀A' q,Gr A A'->A'[q]?=some (.lst ((lw xs).map D.int))->A.length<=q->R (.ref q) A'
structure Fb(kvs:List (Key×D))(ns:List Str)(s:Str->Rat):Prop where
 keys:kvs.map (·.1)=ns.map Sum.inr
 nd:ns.Nodup
 get:∀n∈ns,b6 kvs (Sum.inr n)=some (fq (s n))
def wI:Ct:=λds A R _=>∃m,ds=[enc m]/\Wf m/\m.deep<=5/\bH [] (aP m "" 1)=none/\∀(A':Ar) (q:Nat) (kvs:List (Key×D)) (ns:List Str),Gr A A'->A'[q]?=some (.dct kvs)->A.length<=q->Fb kvs ns (shr m)->(∀n,n∈ns↔n∈m.names)->R (.ref q) A'
def wD:Ct:=λds A R _=>∃(r:Nat) (kvs:List (Key×D)) (ns:List Str) (s:Str->Rat),ds=[.ref r]/\A[r]?=some (.dct kvs)/\Fb kvs ns s/\ns.length<=32/\ns≠[]/\(∀n∈ns,mq (s n))/\∀(A':Ar) (ys:List Str),Gr A A'->ys.Pairwise strLt->(∀x,x∈ys↔x∈ns)->R (fN (ys.zip (lw (ys.map s)))) A'
def wB:Ct:=λds A R RE=>∃m,ds=[enc m]/\Wf m/\m.deep<=5/\∀A',Gr A A'->if bH [] (aP m "" 1)=none then ∀ys:List Str,ys.Pairwise strLt->(∀x,x∈ys↔x∈m.names)->R (fN (ys.zip (lw (ys.map (shr m))))) A' else RE "Never" A'
theorem yz:∀(ps:List (Str×D)) (acc:List (Key×D)) (ns:List Str),acc.map (·.1)=ns.map Sum.inr->ns.Nodup->
  ∃d:List Str,((ps.map λp=>((Sum.inr p.1:Key),p.2)).foldl (λacc p=>cU acc p.1 p.2) acc).map (·.1)=d.map Sum.inr/\d.Nodup/\(∀n,n∈d↔n∈ns\/n∈ps.map (·.1))
 |[],acc,ns,h1,h2=>⟨ns,h1,h2,λn=>by simp⟩
 |p::ps,acc,ns,h1,h2=>by
  have key:∃f:List Str,(cU acc (Sum.inr p.1) p.2).map (·.1)=f.map Sum.inr/\f.Nodup/\∀n,n∈f↔n∈ns\/n=p.1:=by
   by_cases j:(acc.any λc=>decide (c.1=(Sum.inr p.1:Key)))=true
   .have e:cU acc (Sum.inr p.1) p.2=acc.map λc=>if c.1=(Sum.inr p.1:Key) then (c.1,p.2) else c:=by
     unfold cU;rw[aj j]
    refine⟨ns,?_,h2,λn=>?_⟩
    .rw[e,c5,<-h1]
     refine lE λc _=>?_;show(if c.1=(Sum.inr p.1:Key) then (c.1,p.2) else c).1=c.1;split<;>rfl
    .have g:p.1∈ns:=by
      obtain⟨c,i,hk⟩:=any_eq_true.mp j;have:c.1∈acc.map (·.1):=n9 i;rw[h1,rG hk] at this;obtain⟨x,m,e⟩:=bX.mp this;rw[<-Sum.inr.inj e];exact m
     constructor
     .exact .inl
     .rintro (h|rfl)
      .exact h
      .exact g
   .have e:cU acc (Sum.inr p.1) p.2=acc++[(Sum.inr p.1,p.2)]:=by
     unfold cU;rw[ai j]
    have k:p.1∉ns:=λg=>j (by
     have:(Sum.inr p.1:Key)∈acc.map (·.1):=by rw[h1];exact n9 g
     obtain⟨c,i,e⟩:=bX.mp this;exact any_eq_true.mpr ⟨c,i,fY e⟩)
    refine⟨ns++[p.1],by rw[e];simp[h1],?_,λn=>by simp⟩;rw[nodup_append];refine⟨h2,by simp,λa l b o=>?_⟩;rw[bh.mp o];exact λz=>k (by rw[<-z];exact l)
  obtain⟨f,k1,k2,k3⟩:=key;obtain⟨d,q,r,s⟩:=yz ps _ f k1 k2;refine⟨d,q,r,λn=>?_⟩;rw[s,k3];simp[or_assoc]
theorem yy(g:Str->D):∀(ps:List (Str×D)) (acc:List (Key×D)) (n:Str),(∀p∈ps,p.2=g p.1)->(n∈ps.map (·.1)\/b6 acc (Sum.inr n)=some (g n))->b6 ((ps.map λp=>((Sum.inr p.1:Key),p.2)).foldl (λacc p=>cU acc p.1 p.2) acc) (Sum.inr n)=some (g n)
 |[],acc,n,_,h=>by
  rcases h with h|h
  .simp at h
  .exact h
 |p::ps,acc,n,a,h=>by
  refine yy g ps _ n (λq hq=>a q (bT _ hq)) ?_;by_cases hn:p.1=n
  .right
   rw[tQ,aj (show(Sum.inr p.1:Key)=Sum.inr n by rw[hn])];show some p.2=some (g n);rw[a p (b8 ..),hn]
  .rcases h with h|h
   .rcases aQ.mp (show n∈p.1::ps.map (·.1) from h) with e|e
    .exact absurd e.symm hn
    .exact .inl e
   .right
    rw[tQ,ai (show ¬(Sum.inr p.1:Key)=Sum.inr n from λz=>hn (Sum.inr.inj z))];exact h
def uI(p:Str×Str×Rat):D:=.tup [.str p.2.1,fq p.2.2]
theorem z8:∀a:List (Str×Str×Rat),d7 (a.map uI)=some ((a.map λp=>(p.2.1,fq p.2.2)).map λp=>((Sum.inr p.1:Key),p.2))
 |[]=>rfl
 |r::a=>by
  have:=z8 a;simp only[dD,uI,d7,gY,this]
theorem Eh{A:Ar}{r:Nat}{xs:List D}{ps:List (Key×D)}{R:DK}(h:A[r]?=some (.lst xs))(a:d7 xs=some ps)(b:ps.length<=1000)(k:R (.ref A.length) (A++[.dct (Aj ps)])):pF r A R:=by
 unfold pF;simp only[h];unfold dctP;rw[a];exact⟨b,k⟩
end DP
namespace My
open L2 DP MA
theorem FP(T:TopD K mg "least_whole" Bl qK)(j:aC P w K mg base 1 "greatest_divisor" nF (aE mg 2 sr)):aC P w K mg base 2 "least_whole" qK (aE mg 1 wC):=by
 refine c7 T Lr λM hR N E nd=>⟨_,(aH (dS 1 nd au)
  (aH (mZ k_ rfl (iA (vr 0)) (dG 2 nd) (aI (dS 1 nd (mT (iZ (vr 1) (dX E (vr 2) au)) (dL j M N (af (vr 1) (af (dX E (vr 2) au) aq)))))))
  (aH (ER none (own:=["fraction"]) (frees:=["bottom"]) (ix:=[1]) (i:=3) nd rfl (by first|exact Or.inl rfl|exact Or.inr rfl) rfl (iA (vr 0)) (λc=>(pG 0 (show(["fraction","bottom"]:List Str).Nodup by decide+kernel))) (λc=>(iZ (dX E (vr 0) au) (mT (vr 1) (dX E (vr 0) au)))))
  (aH (dS 4 nd au)
  (aH (mZ k_ rfl (iA (vr 3)) (dG 5 nd) (aI (dS 4 nd (dL j M N (af (vr 4) (af (vr 5) aq))))))
  (aI (aS (pH none (own:=["number"]) (frees:=["divisor"]) (ix:=[4]) rfl (iA (vr 3)) (λc=>(pG 0 (show(["number","divisor"]:List Str).Nodup by decide+kernel))) (λc=>(mT (vr 0) (vr 1))))))))))),λds A R h hl=>?_⟩
 obtain⟨r,xs,rfl,G,k,hok,H,q⟩:=h;have hz:(1000:Nat)<=sizeLine:=by decide
 have Z:(1152921504606846976:Int)<2 ^ 64:=by decide
 obtain⟨b0,_,b3⟩:=mJ xs 1 (by decide);refine iE G ?_;refine kH (λrest τ A'=>∃(pre more:List Rat) (x:Option D),rest=more.map fq/\τ=[some (.ref r),some (.int (bot pre 1)),x,none,none,none]/\pre++more=xs/\Gr A A') ?_ ?_ ?_ _ _ _ ⟨[],xs,none,rfl,rfl,rfl,Gr.refl⟩
 .rintro rest τ A' ⟨pre,more,x,_,_,_,g⟩
  exact g.get G
 .rintro v rest τ A' ⟨pre,more,x,e,rfl,m,g⟩ Nx I
  cases more with
  |nil=>cases e
  |cons y more=>
   cases e;have s:=hok y (by rw[<-m];simp);have F:=gq y;have O:=s.den;obtain⟨S,_,_⟩:=mJ pre 1 (by decide);have U:0<(Int.gcd (bot pre 1) (rf y).2:Int):=by
    have:=Int.gcd_pos_of_ne_zero_right (bot pre 1) (show(rf y).2≠0 by omega);omega
   have g1:(Int.gcd (bot pre 1) (rf y).2:Int)<=(rf y).2:=Int.le_of_dvd F (Int.gcd_dvd_right _ _);refine⟨.inr ⟨by omega,by omega⟩,rfl,_,⟨_,_,rfl,by omega,by omega,rfl⟩,λo h1=>⟨⟨U,uf U (BN (by omega))⟩,?_⟩⟩;refine I _ _ ⟨pre++[y],more,some (fq y),rfl,?_,by simpa using m,g.trans h1⟩;rw[xA];rfl
 rintro τ o ⟨pre,more,x,e,rfl,m,g1⟩;cases more with
 |cons p more=>cases e
 |nil=>
 have m:pre=xs:=by simpa using m
 subst m;have t:=g1.get G;refine iE t ?_;refine kE (f:=λd=>match d with|.tup [.int a,.int b]=>.int (a*(bot pre 1/b))|d=>d) t _ _ (λd hd=>?_) (by simp;omega) ?_
 .obtain⟨y,hy,rfl⟩:=bX.mp hd
  have s:=hok y hy;have x1:=k9 s.pos;have F:=gq y;have O:=s.den;have x4:=s.num;exact⟨[fq y],rfl,λQ J=>⟨⟨F,uf F (BN O)⟩,.inl ⟨by omega,by omega⟩,J⟩⟩
 have eu:(pre.map fq).map (λd=>match d with|.tup [.int a,.int b]=>D.int (a*(bot pre 1/b))|d=>d)=(ups pre).map D.int:=by
  unfold ups;rw[c5,c5];rfl
 rw[g9,eu];have u:(ups pre).length=pre.length:=by simp[ups]
 have L:=ck (A:=o) (c:=C.lst ((ups pre).map D.int));have g2:Gr o (o++[C.lst ((ups pre).map D.int)]):=Gr.push;generalize Nv:o++[C.lst ((ups pre).map D.int)]=A2 at*
 refine iE L ?_;refine kH (λrest τ A'=>∃(l more:List Int) (y:Option D),rest=more.map D.int/\τ=[some (.ref r),some (.int (bot pre 1)),x,some (.ref o.length),some (.int (d_ l 0)),y]/\l++more=ups pre/\Gr A2 A') ?_ ?_ ?_ _ _ _ ⟨[],ups pre,none,rfl,rfl,rfl,Gr.refl⟩
 .rintro rest τ A' ⟨l,more,y,_,_,_,g⟩
  exact g.get L
 .rintro v rest τ A' ⟨l,more,y,e,rfl,hd,g⟩ Nx I
  cases more with
  |nil=>cases e
  |cons n more=>
   cases e;obtain⟨V,_⟩:=B5 hok k (show n∈ups pre by rw[<-hd];simp);obtain⟨S,_⟩:=tP l 0 (Int.le_refl 0);refine⟨rfl,_,⟨_,_,rfl,S,by omega,rfl⟩,λW h3=>?_⟩;refine I _ _ ⟨l++[n],more,some (.int n),rfl,?_,by simpa using hd,g.trans h3⟩;rw[yK];rfl
 rintro τ W ⟨l,more,y,e,rfl,hd,g3⟩;cases more with
 |cons p more=>cases e
 |nil=>
 have hd:l=ups pre:=by simpa using hd
 subst hd;obtain⟨n0,z⟩:∃n,n∈ups pre:=by
  cases e:ups pre with
  |nil=>
   rw[e] at u;exact absurd (List.length_eq_zero_iff.mp u.symm) H
  |cons n r=>exact⟨n,by simp⟩
 obtain⟨V,u1⟩:=B5 hok k z;obtain⟨X,d1⟩:=Ge (Int.le_refl 0) z V;have B:=g3.get L;refine iE B ?_;refine kE (f:=λd=>match d with|.int n=>.int (n/d_ (ups pre) 0)|d=>d) B _ _ (λd hd=>?_) (by simp;omega) ?_
 .obtain⟨n,hn,rfl⟩:=bX.mp hd
  exact⟨[.int n],rfl,λQ J=>⟨⟨X,uf X (dg d1 u1)⟩,J⟩⟩
 have el:((ups pre).map D.int).map (λd=>match d with|.int n=>D.int (n/d_ (ups pre) 0)|d=>d)=(lw pre).map D.int:=by
  unfold lw;rw[c5,c5];rfl
 rw[g9,el];have Y:Gr A W:=(g1.trans g2).trans g3;exact q _ _ (Y.trans Gr.push) ck Y.len
theorem FW(T:TopD K mg "name_shares" Bm qL)(b:mg "dict"=none)(a:aC P w K mg base 10 "shares" nG (aE mg 1 su)):aC P w K mg base 11 "name_shares" qL (aE mg 1 wI):=by
 refine c7 T Ls λg t k u nd=>⟨_,(aI (aS (Ek (C3 rfl) D4 b boot_dict (af (pH (some 3) (own:=["way","name","share"]) (frees:=[]) (ix:=[]) rfl (iA (dL a g k (af (vr 0) aq))) (λc=>(Ac rfl (qR (pG 0 (show(["way","name","share"]:List Str).Nodup by decide+kernel)) (qR (pG 1 (show(["way","name","share"]:List Str).Nodup by decide+kernel)) (qR (pG 2 (show(["way","name","share"]:List Str).Nodup by decide+kernel)) Ad))))) (λc=>(cS (af (vr 1) (af (vr 2) aq))))) aq)))),λds A R h v=>?_⟩;obtain⟨m,rfl,l,hd,o,q⟩:=h;have hz:(1000:Nat)<=sizeLine:=by decide
 refine⟨rfl,m,rfl,l,hd,λy z g1 h1 l1=>?_⟩;refine iE h1 ?_;have ln:=nQ m "" 1;have nl:=nB hd;refine kE (f:=λd=>match d with|.tup [_,n,x]=>.tup [n,x]|d=>d) h1 _ _ (λd hd=>?_) (by simp;omega) ?_
 .obtain⟨p,j,rfl⟩:=bX.mp hd
  exact⟨[.str p.1,.str p.2.1,fq p.2.2],rfl,λQ s=>⟨show 2<=sizeLine by decide,s⟩⟩
 have e:((aP m "" 1).map qW).map (λd=>match d with|.tup [_,n,x]=>D.tup [n,x]|d=>d)=(aP m "" 1).map uI:=by
  rw[c5];rfl
 rw[g9,e];refine Eh ck (z8 _) (by simp;omega) ?_;obtain⟨k1,k2⟩:=q7 o;obtain⟨ns,n1,n2,n3⟩:=yz ((aP m "" 1).map λp=>(p.2.1,fq p.2.2)) [] [] rfl List.nodup_nil;have hn:((aP m "" 1).map λp=>(p.2.1,fq p.2.2)).map (·.1)=m.names:=by
  rw[c5,<-nR m "" 1];rfl
 rw[hn] at n3;refine q _ _ _ ns ((g1.trans Gr.push).trans Gr.push) ck (by have:=g1.len;simp;omega) ⟨n1,n2,λn i=>?_⟩ (λn=>by rw[n3];simp);refine yy (λn=>fq (shr m n)) _ [] n (λp j=>?_) (.inl ?_)
 .obtain⟨r,g,rfl⟩:=bX.mp j
  show fq r.2.2=fq (shr m r.2.1);rw[<-k1 r g]
 .rw[hn]
  have:=(n3 n).mp i;simpa using this
theorem FQ(T:TopD K mg "least_weights" Bk qJ)(b:mg "sorted"=none)(g:mg "tuple"=none)(i:mg "zip"=none)(a:aC P w K mg base 2 "least_whole" qK (aE mg 1 wC)):aC P w K mg base 3 "least_weights" qJ (aE mg 1 wD):=by
 refine c7 T Lq λy F k B nd=>⟨_,(aH (dS 1 nd (eY (C_ rfl) Eg b boot_sorted (af (vr 0) aq)))
  (aI (aS (Eu g i rfl (af (vr 1) (af (dL a y k (af (pH none (own:=["name"]) (frees:=["fractions"]) (ix:=[0]) rfl (iA (vr 1)) (λc=>(pG 0 (show(["name","fractions"]:List Str).Nodup by decide+kernel))) (λc=>(dX B (vr 1) (vr 0)))) aq)) aq)))))),λds A R h G=>?_⟩
 obtain⟨r,kvs,ns,j,rfl,s,fb,u,o,hok,q⟩:=h;have hz:(1000:Nat)<=sizeLine:=by decide
 refine LA s fb.keys fb.nd (by omega) λys v l=>?_;have H:=pw_len ys ns v λx k=>(l x).mp k;refine iE ck ?_;refine kE (f:=λd=>match d with|.str n=>fq (j n)|d=>d) ck _ _ (λd hd=>?_) (by simp;omega) ?_
 .obtain⟨n,hn,rfl⟩:=bX.mp hd
  exact⟨[.str n],rfl,λQ C=>t7 (getElem?_push s) rfl (fb.get n ((l n).mp hn)) C⟩
 have e:(ys.map D.str).map (λd=>match d with|.str n=>fq (j n)|d=>d)=(ys.map j).map fq:=by
  rw[c5,c5];rfl
 rw[g9,e];have m:ys≠[]:=λz=>by
  cases e:ns with
  |nil=>exact o e
  |cons n t=>
   have:=(l n).mpr (by rw[e];simp);rw[z] at this;cases this
 refine⟨rfl,_,ys.map j,rfl,ck,by simp;omega,λx k=>?_,by simpa using m,λI J g3 h3 _=>?_⟩
 .obtain⟨n,hn,rfl⟩:=bX.mp k
  exact hok n ((l n).mp hn)
 refine M8 (g3.get (getElem?_push ck)) h3 ?_;have E:(((ys.map D.str).zip ((lw (ys.map j)).map D.int)).map λp=>D.tup [p.1,p.2])=(ys.zip (lw (ys.map j))).map g6:=by
  rw[List.zip_map,c5];rfl
 rw[E];exact q _ ys (((Gr.push.trans Gr.push)).trans g3) v l
theorem FO(T:TopD K mg "least" Bh qH){c:Addr}(d:mg "Never"=some (.ref c))(f:excIn K c rz "ValueError.__new__"=true)(j:aC P w K mg base 11 "bar" nD (aE mg 1 sj))(b:aC P w K mg base 11 "name_shares" qL (aE mg 1 wI))(a:aC P w K mg base 3 "least_weights" qJ (aE mg 1 wD)):aC P w K mg base 12 "least" qH (aE mg 1 wB):=by
 refine c7 T Lp λv D g I nd=>⟨_,(aH (b5 (MP (dL j v g (af (vr 0) aq)) pI) (aI (yg D rfl d f (af bx aq))) cg)
  (aI (aS (dL a v g (af (dL b v g (af (vr 0) aq)) aq))))),λds A R h J=>?_⟩
 obtain⟨m,rfl,B,hd,q⟩:=h;refine⟨rfl,m,rfl,B,hd,λE g1=>?_⟩;cases o:bH [] (aP m "" 1) with
 |some p=>
  have k:=q E g1;rw[ai (by rw[o];simp)] at k;exact⟨by decide,k⟩
 |none=>
  refine⟨rfl,m,rfl,B,hd,o,λL M kvs ns g2 h2 l2 fb s=>?_⟩;have nl:=nB hd;have l1:ns.length<=m.names.length:=by
   have key:∀(xs ys:List Str),xs.Nodup->(∀x∈xs,x∈ys)->xs.length<=ys.length:=by
    intro xs;induction xs with
    |nil=>intro ys _ _;exact b9 _
    |cons x r F=>
     intro ys hn hs;have l:=lG.mp hn;have g:=hs x (b8 ..);have:=F (ys.erase x) l.2 λy u=>(vN (λz=>l.1 (by rw[<-z];exact u))).mpr (hs y (bT _ u));rw[vL g] at this;have:=vM g;simp;omega
   exact key ns m.names fb.nd λx g=>(s x).mp g
  have C:ns≠[]:=λz=>by
   have i:=aW.zM m;cases e:m.names with
   |nil=>rw[e] at i;simp at i
   |cons n t=>
    have:=(s n).mpr (by rw[e];simp);rw[z] at this;cases this
  refine⟨rfl,_,kvs,ns,shr m,rfl,h2,fb,by omega,C,λn hn=>(LG B.arms hd o ((s n).mp hn)).w,λG ys g3 H u=>?_⟩;have k:=q G ((g1.trans g2).trans g3);rw[aj o] at k;exact k ys H λx=>by rw[u,s]
end My
namespace DP
open L2 MA
def iJ:M->Str->List (Str×M)
 |.wt _,_=>[]
 |.ah l r a b,w=>(w,.ah l r a b)::(iJ a (w++"l")++iJ b (w++"r"))
theorem uY:∀(m:M) (w:Str),(iJ m w).length+1<=2 ^ m.deep
 |.wt n,w=>by simp[iJ,aW.deep]
 |.ah l r a b,w=>by
  have h1:=uY a (w++"l");have h2:=uY b (w++"r");have c:2 ^ a.deep<=2 ^ max a.deep b.deep:=fW (by decide) (by omega);have d:2 ^ b.deep<=2 ^ max a.deep b.deep:=fW (by decide) (by omega);show(iJ a (w++"l")++iJ b (w++"r")).length+1+1<=2 ^ (max a.deep b.deep+1);rw[jX,bR];omega
theorem uT:∀rs:List (Str×Int),fz (rs.map g6)=true
 |[]=>rfl
 |r::rs=>by simp[fz,dQ,g6,uT rs]
theorem zo:∀rs:List (Str×Int),(∀r∈rs,Nm r.1)->canLayAll0 (aY (rs.map g6))=true
 |[],_=>rfl
 |r::rs,h=>by
  have h1:=(h r (b8 ..)).ok;have h2:=zo rs λq hq=>h q (bT _ hq);simp only[canLay0] at h1;simp[aY,toQ,g6,canLayAll0,canLay0,h1,h2]
theorem x8:∀rs:List (Str×Int),depthAll (aY (rs.map g6))<=1
 |[]=>by simp[aY,depthAll]
 |r::rs=>by
  have:=x8 rs;simp[aY,toQ,g6,depthAll,PyData.depth];omega
abbrev wU:Ct:=SV λds v=>∃l r a b,ds=[enc (.ah l r a b)]/\v=enc (.ah r l b a)
end DP
namespace My
open L2 DP MA
theorem F7(T:TopD K mg "turned_rod" Bt qQ):aC P w K mg base 1 "turned_rod" qQ (aE mg 1 wU):=by
 refine c7 T Ly λd e f c nd=>⟨_,(aI (aS (cS (af bx (af (dX c (vr 0) au) (af (dX c (vr 0) au) (af (dX c (vr 0) au) (af (dX c (vr 0) au) aq)))))))),λds A R h g=>?_⟩;obtain⟨v,⟨l,r,a,b,rfl,rfl⟩,q⟩:=h;exact⟨show 5<=sizeLine by decide,q _ Gr.refl⟩
end My
namespace DP
open L2 MA
def sX:∀x y:M,Decidable (x=y)
 |.wt a,.wt b=>if h:a=b then .isTrue (by rw[h]) else .isFalse λz=>h (by injection z)
 |.wt _,.ah _ _ _ _=>.isFalse λz=>by cases z
 |.ah _ _ _ _,.wt _=>.isFalse λz=>by cases z
 |.ah l r a b,.ah l' r' a' b'=>
  if h1:l=l' then if h2:r=r' then match sX a a',sX b b' with
   |.isTrue h3,.isTrue h4=>.isTrue (by rw[h1,h2,h3,h4])
   |.isFalse h3,_=>.isFalse λz=>h3 (by injection z)
   |_,.isFalse h4=>.isFalse λz=>h4 (by injection z)
  else .isFalse λz=>h2 (by injection z) else .isFalse λz=>h1 (by injection z)
instance:DecidableEq M:=sX
def bw:M->M->Bool
 |.wt a,.wt b=>decide (a.cps.toList<b.cps.toList)
 |.wt _,.ah _ _ _ _=>false
 |.ah _ _ _ _,.wt _=>true
 |.ah l r a b,.ah l' r' a' b'=>if l=l' then (if r=r' then (if a=a' then (if b=b' then false else bw b b') else bw a a') else decide (r<r')) else decide (l<l')
theorem ql:∀m:M,dz (toQ (enc m))=true
 |.wt n=>by simp[enc,toQ,aY,dz,gp]
 |.ah l r a b=>by simp[enc,toQ,aY,dz,gp,ql a,ql b]
theorem toQ_inj:∀x y:M,toQ (enc x)=toQ (enc y)->x=y
 |.wt n,.wt m,h=>by simp[enc,toQ,aY] at h;rw[h]
 |.wt n,.ah _ _ _ _,h=>by simp[enc,toQ,aY] at h
 |.ah _ _ _ _,.wt n,h=>by simp[enc,toQ,aY] at h
 |.ah l r a b,.ah f r' c d,h=>by
  simp only[enc,toQ,aY,PyData.tuple.injEq,List.cons.injEq,PyData.int.injEq,true_and,and_true] at h;obtain⟨h1,h2,h3,e⟩:=h;rw[h1,h2,toQ_inj a c h3,toQ_inj b d e]
theorem pP(x y:M):PyData.eqv (toQ (enc x)) (toQ (enc y))=decide (x=y):=by
 rw[jr,yp _ _ (ql x) (ql y),lQ];exact⟨toQ_inj x y,λh=>by rw[h]⟩
theorem Ds{a b:Str}(h:a.cps.toList=b.cps.toList):a=b:=by
 obtain⟨⟨la⟩⟩:=a;obtain⟨⟨lb⟩⟩:=b;have:la=lb:=h;rw[this]
theorem Nh:decide (("weight":Str).cps.toList<("rod":Str).cps.toList)=false:=by decide+kernel
theorem rw_lt:decide (("rod":Str).cps.toList<("weight":Str).cps.toList)=true:=by decide+kernel
theorem Fi(i j:Int):PyData.eqv (.int i) (.int j)=decide (i=j):=by
 rw[jr];simp[PyData.eqv]
theorem pQ(i j:Str):PyData.eqv (.str i) (.str j)=decide (i=j):=by
 rw[jr];simp[PyData.eqv]
theorem qg:∀x y:M,ltQ (toQ (enc x)) (toQ (enc y))=some (bw x y)
 |.wt n,.wt m=>by
  simp only[enc,toQ,aY,ltQ,e9,pQ,decide_true];by_cases h:n=m
  .subst h
   simp[bw]
  .simp[h,bw]
 |.wt n,.ah _ _ _ _=>by
  simp only[enc,toQ,aY,ltQ,e9,pQ];rw[dW (show ¬("weight":Str)="rod" by decide+kernel)];show some _=_;rw[Nh];rfl
 |.ah _ _ _ _,.wt n=>by
  simp only[enc,toQ,aY,ltQ,e9,pQ];rw[dW (show ¬("rod":Str)="weight" by decide+kernel)];show some _=_;rw[rw_lt];rfl
 |.ah l r a b,.ah f r' c d=>by
  have g:=qg a c;have i:=qg b d;simp only[enc,toQ,aY,ltQ,e9,pQ,Fi,pP,decide_true,g,i,bw];by_cases h1:l=f
  .by_cases h2:r=r'
   .by_cases h3:a=c
    .by_cases e:b=d
     .simp[h1,h2,h3,e]
     .simp[h1,h2,h3,e]
    .simp[h1,h2,h3]
   .simp[h1,h2]
  .simp[h1]
theorem ur:∀x:M,bw x x=false
 |.wt n=>by simp[bw]
 |.ah l r a b=>by simp[bw]
theorem jM:∀x y:M,bw x y=true->bw y x=false
 |.wt n,.wt m,h=>by
  simp only[bw,lQ,vS] at h ⊢;exact List.lt_asymm h
 |.wt n,.ah _ _ _ _,h=>by simp[bw] at h
 |.ah _ _ _ _,.wt n,h=>rfl
 |.ah l r a b,.ah f r' d e,h=>by
  have g:=jM a d;have i:=jM b e;simp only[bw] at h ⊢;by_cases h1:l=f
  .subst h1
   by_cases h2:r=r'
   .subst h2
    by_cases h3:a=d
    .subst h3
     by_cases c:b=e
     .subst c;simp
     .simp[c,Ne.symm c] at h ⊢;exact i h
    .simp[h3,Ne.symm h3] at h ⊢;exact g h
   .simp[h2,Ne.symm h2] at h ⊢;omega
  .simp[h1,Ne.symm h1] at h ⊢;omega
theorem nq:∀x y:M,bw x y=false->bw y x=false->x=y
 |.wt n,.wt m,h,h'=>by
  simp only[bw,vS] at h h';rw[Ds (List.le_antisymm (not_lt.mp h') (not_lt.mp h))]
 |.wt n,.ah _ _ _ _,h,h'=>by simp[bw] at h'
 |.ah _ _ _ _,.wt n,h,_=>by simp[bw] at h
 |.ah l r a b,.ah f r' d e,h,h'=>by
  have g:=nq a d;have i:=nq b e;simp only[bw] at h h';by_cases h1:l=f
  .subst h1
   by_cases h2:r=r'
   .subst h2
    by_cases h3:a=d
    .subst h3
     by_cases c:b=e
     .rw[c]
     .simp[c,Ne.symm c] at h h';rw[i h h']
    .simp[h3,Ne.symm h3] at h h';exact absurd (g h h') h3
   .simp[h2,Ne.symm h2] at h h';omega
  .simp[h1,Ne.symm h1] at h h';omega
def dN(x y:M):M:=if bw y x=true then y else x
theorem Ia(x y:M):dN x y=dN y x:=by
 unfold dN;cases h:bw y x with
 |true=>rw[jM y x h];simp
 |false=>
  cases h':bw x y with
  |true=>simp
  |false=>simp[nq x y h' h]
theorem jf(x y:M):dN x y=x\/dN x y=y:=by
 unfold dN;split
 .exact .inr rfl
 .exact .inl rfl
def lst:M->M
 |.wt n=>.wt n
 |.ah l r a b=>dN (.ah l r (lst a) (lst b)) (.ah r l (lst b) (lst a))
def bU:M->Nat
 |.wt _=>1
 |.ah l r a b=>if l=r/\lst a=lst b then bU a*bU b else 2*(bU a*bU b)
theorem zH(l r:Int)(a b:M):lst (.ah r l b a)=lst (.ah l r a b):=Ia _ _
theorem jL:∀m:M,(lst m).names.Perm m.names
 |.wt n=>.refl _
 |.ah l r a b=>by
  show(dN (.ah l r (lst a) (lst b)) (.ah r l (lst b) (lst a))).names.Perm (a.names++b.names);rcases jf (.ah l r (lst a) (lst b)) (.ah r l (lst b) (lst a)) with h|h
  .rw[h];exact(jL a).append (jL b)
  .rw[h];exact((jL b).append (jL a)).trans g_
theorem jK:∀m:M,(lst m).deep=m.deep
 |.wt n=>rfl
 |.ah l r a b=>by
  show(dN (.ah l r (lst a) (lst b)) (.ah r l (lst b) (lst a))).deep=max a.deep b.deep+1;have c:=jK a;have d:=jK b;rcases jf (.ah l r (lst a) (lst b)) (.ah r l (lst b) (lst a)) with h|h
  .rw[h];show max (lst a).deep (lst b).deep+1=_;rw[c,d]
  .rw[h];show max (lst b).deep (lst a).deep+1=_;rw[c,d];omega
theorem nk:∀m:M,m.arms->(lst m).arms
 |.wt n,h=>h
 |.ah l r a b,h=>by
  obtain⟨e,f,g,i,c,d⟩:=h;show(dN (.ah l r (lst a) (lst b)) (.ah r l (lst b) (lst a))).arms;rcases jf (.ah l r (lst a) (lst b)) (.ah r l (lst b) (lst a)) with h|h
  .rw[h];exact⟨e,f,g,i,nk a c,nk b d⟩
  .rw[h];exact⟨g,i,e,f,nk b d,nk a c⟩
theorem qe{m:M}(h:Wf m):Wf (lst m):=⟨nk m h.arms,λn hn=>h.nm n ((jL m).mem_iff.mp hn)⟩
def iG:M->Nat
 |.wt _=>0
 |.ah _ _ a b=>iG a+iG b+1
theorem uZ:∀(m:M) (w:Str),(iJ m w).length=iG m
 |.wt n,w=>rfl
 |.ah l r a b,w=>by
  show((w,aW.ah l r a b)::(iJ a (w++"l")++iJ b (w++"r"))).length=_;rw[eV,bR,uZ a,uZ b];rfl
theorem vp:∀m:M,bU m<=2 ^ iG m
 |.wt n=>by simp[bU,iG]
 |.ah l r a b=>by
  have h:=Nat.mul_le_mul (vp a) (vp b);rw[<-Nat.pow_add] at h;show(if l=r/\lst a=lst b then bU a*bU b else 2*(bU a*bU b))<=2 ^ (iG a+iG b+1);rw[jX];split<;>omega
theorem Ib{x y:M}{A:Ar}{R:DK}(a:∀n∈x.names,Nm n)(b:∀n∈y.names,Nm n)(hd:x.deep<=50)(k:R (enc (dN x y)) A):qj (enc x) (enc y) A R:=by
 unfold qj;have:=mV x;refine⟨iI x,iI y,iF x a,iF y b,by omega,bw y x,qg y x,?_⟩;unfold dN at k;cases h:bw y x with
 |true=>rw[h] at k;exact k
 |false=>rw[h] at k;exact k
theorem Fe{x y:M}{A:Ar}{R:DK}(a:∀n∈x.names,Nm n)(b:∀n∈y.names,Nm n)(hd:x.deep<=60)(k:R (.bl (decide (x=y))) A):fu false (enc x) (enc y) A R:=by
 unfold fu;rw[vo,vo,uK,uK,iI,iI];have:=mV x;refine⟨rfl,rfl,iF x a,iF y b,by omega,?_⟩;rw[pP];exact k
theorem E_{x y:M}{A:Ar}{R:DK}(a:∀n∈x.names,Nm n)(b:∀n∈y.names,Nm n)(hd:x.deep<=60)(k:R (.bl (decide (x=y))) A):m5 (enc x) (enc y) A R:=by
 have h:=Fe a b hd k;cases x<;>cases y<;>exact h
def wA(d:Nat):Ct:=SV λds v=>∃m,ds=[enc m]/\Wf m/\m.deep<d/\d<=8/\v=enc (lst m)
def wQ:Ct:=SV λds v=>∃x y,ds=[enc x,enc y]/\Wf x/\Wf y/\x.deep<=5/\y.deep<=5/\v=.bl (decide (lst x=lst y))
theorem IL:∀m:M,iG m+1<=2 ^ m.deep:=λm=>by
 have:=uY m "";rwa [uZ] at this
end DP
namespace My
open L2 DP MA
theorem FN(T:TopD K mg "least_below" Bj qI)(g:mg "min"=none)(e:aC P w K mg base 1 "turned_rod" qQ (aE mg 1 wU)):∀d,aC P w K mg base (d+1) "least_below" qI (aE mg 1 (wA d)):=by
 intro d;induction d with
 |zero=>
  refine ja T λds A R RE h=>?_;obtain⟨v,⟨m,_,_,h,_⟩,_⟩:=h;omega
 |succ d c=>
  refine fP T BC rfl (by decide) λN RE f p B outer s H E j u o ds A R h z=>?_;have i:=j.units;have nd:=BC.nd;refine⟨_,(aH (b5 (c_ i (dX i (vr 0) au) bx) (aI (aS (vr 0))) cg)
  (aH (dS 1 nd (cS (af bx (af (dX i (vr 0) au) (af (dX i (vr 0) au) (af (dL c j o (af (dX i (vr 0) au) aq)) (af (dL c j o (af (dX i (vr 0) au) aq)) aq)))))))
  (aI (aS (eY (C8 rfl i) Eb g boot_min (af (vr 1) (af (dL e j o (af (vr 1) aq)) aq))))))),?_⟩
  obtain⟨v,⟨m,rfl,k,hd,C,rfl⟩,q⟩:=h;cases m with
  |wt n=>exact q _ Gr.refl
  |ah l r a b=>
   have t:max a.deep b.deep+1<d+1:=hd;have wl:=qe k.left;have wr:=qe k.right;refine⟨rfl,_,⟨a,rfl,k.left,by omega,by omega,rfl⟩,λD g1=>?_⟩;refine⟨rfl,_,⟨b,rfl,k.right,by omega,by omega,rfl⟩,λF g2=>?_⟩;refine⟨show 5<=sizeLine by decide,?_⟩;refine⟨rfl,_,⟨l,r,lst a,lst b,rfl,rfl⟩,λG g3=>?_⟩;have I:=jK a;have db:=jK b;refine Ib (x:=.ah l r (lst a) (lst b)) (y:=.ah r l (lst b) (lst a)) ?_ ?_ ?_ (q _ ((g1.trans g2).trans g3))
   .intro n hn
    rcases aU.mp (show n∈(lst a).names++(lst b).names from hn) with h|h
    .exact wl.nm n h
    .exact wr.nm n h
   .intro n hn
    rcases aU.mp (show n∈(lst b).names++(lst a).names from hn) with h|h
    .exact wr.nm n h
    .exact wl.nm n h
   .show max (lst a).deep (lst b).deep+1<=50
    omega
theorem F5(T:TopD K mg "same_shape" Bq qO)(a:aC P w K mg base 9 "check_mobile" nE (aE mg 1 sq))(b:aC P w K mg base 8 "least_below" qI (aE mg 1 (wA 7))):aC P w K mg base 10 "same_shape" qO (aE mg 2 wQ):=by
 refine c7 T Lw λc k d g nd=>⟨_,(aH (kI (dL a c d (af (vr 0) aq)))
  (aH (kI (dL a c d (af (vr 1) aq)))
  (aI (aS (pO g (dL b c d (af (vr 0) aq)) (dL b c d (af (vr 1) aq))))))),λds A R h l=>?_⟩
 obtain⟨v,⟨x,y,rfl,e,f,dx,i,rfl⟩,q⟩:=h;have m:=jK x;refine⟨rfl,_,⟨x,rfl,e,dx,rfl⟩,λn g1=>?_⟩;refine⟨rfl,_,⟨y,rfl,f,i,rfl⟩,λo g2=>?_⟩;refine⟨rfl,_,⟨x,rfl,e,by omega,by omega,rfl⟩,λp g3=>?_⟩;refine⟨rfl,_,⟨y,rfl,f,by omega,by omega,rfl⟩,λr j=>?_⟩;exact E_ (qe e).nm (qe f).nm (by omega) (q _ (((g1.trans g2).trans g3).trans j))
end My
namespace DP
open L2 MA
theorem jR:∀(m:M) (w c:Str) (x:Rat),((aP (lst m) w x).map (·.2)).Perm ((aP m c x).map (·.2))
 |.wt n,w,c,x=>.refl _
 |.ah l r a b,w,c,x=>by
  show((aP (dN (.ah l r (lst a) (lst b)) (.ah r l (lst b) (lst a))) w x).map (·.2)).Perm _;rcases jf (.ah l r (lst a) (lst b)) (.ah r l (lst b) (lst a)) with h|h
  .rw[h]
   show(List.map _ (aP (lst a) _ _++aP (lst b) _ _)).Perm (List.map _ (aP a _ _++aP b _ _));rw[gv,gv];exact(jR a _ _ _).append (jR b _ _ _)
  .rw[h]
   show(List.map _ (aP (lst b) _ (x*((l:Rat)/((r+l:Int):Rat)))++aP (lst a) _ (x*((r:Rat)/((r+l:Int):Rat))))).Perm (List.map _ (aP a _ _++aP b _ _));rw[gv,gv,add_comm r l];exact((jR b _ _ _).append (jR a _ _ _)).trans g_
theorem xH{m i:M}(h:∀p,p∈(aP i "" 1).map (·.2)->p∈(aP m "" 1).map (·.2))(l:bH [] (aP m "" 1)=none):bH [] (aP i "" 1)=none:=by
 have hc:=o4 (aP m "" 1) [] l (by intro a f;simp at f);rw[g9] at hc;refine xG _ _ λa f b c e=>?_;rw[g9] at f c;obtain⟨n,g,j⟩:=bX.mp (h a.2 (n9 f));obtain⟨o,d,k⟩:=bX.mp (h b.2 (n9 c));rw[<-j,<-k];exact hc n g o d (by rw[j,k];exact e)
theorem sE(m:M):bH [] (aP (lst m) "" 1)=none↔bH [] (aP m "" 1)=none:=
 ⟨xH λp a=>(jR m "" "" 1).mem_iff.mpr a,xH λp a=>(jR m "" "" 1).mem_iff.mp a⟩
theorem BH{m:M}(d:bH [] (aP m "" 1)=none){x:Str}(g:x∈m.names):shr (lst m) x=shr m x:=by
 obtain⟨a,f,e⟩:=bX.mp (show x∈(aP m "" 1).map (·.2.1) by rw[nR];exact g);obtain⟨b,c,h⟩:=bX.mp ((jR m "" "" 1).mem_iff.mpr (n9 f));have h1:=(q7 d).1 a f;have h2:=(q7 ((sE m).mpr d)).1 b c;rw[h,h1,e] at h2;exact h2.symm
theorem BX(l r:Int)(a b:M):bU (.ah l r a b)=if l=r/\lst a=lst b then bU a*bU b else 2*(bU a*bU b):=rfl
theorem qf:∀x y z:M,bw x y=true->bw y z=true->bw x z=true
 |.wt n,.wt m,.wt k,h,h'=>by
  simp only[bw,lQ] at h h' ⊢;exact List.lt_trans h h'
 |.wt n,.ah _ _ _ _,_,h,_=>by simp[bw] at h
 |.wt n,.wt m,.ah _ _ _ _,_,h'=>by simp[bw] at h'
 |.ah _ _ _ _,.wt m,.ah _ _ _ _,_,h'=>by simp[bw] at h'
 |.ah _ _ _ _,_,.wt k,_,_=>rfl
 |.ah l r a b,.ah g r' c d,.ah l2 f a2 e,h,h'=>by
  have o:=qf a c a2;have p:=qf b d e;have q:=jM a a2;have id:=jM b e;have sa:=jM a c;have sb:=jM b d;simp only[bw] at h h' ⊢;by_cases h1:l=g
  .subst h1
   by_cases k1:l=l2
   .subst k1
    by_cases h2:r=r'
    .subst h2
     by_cases k2:r=f
     .subst k2
      by_cases h3:a=c
      .subst h3
       by_cases k3:a=a2
       .subst k3
        by_cases i:b=d
        .subst i;simp at h
        .by_cases j:d=e
         .subst j;simp at h'
         .simp[i] at h
          simp[j] at h';have:=p h h';by_cases k5:b=e
          .subst k5;rw[ur] at this;cases this
          .simp[k5,this]
       .simp[k3] at h' ⊢;exact h'
      .by_cases k3:c=a2
       .subst k3;simp[h3] at h ⊢;exact h
       .simp[h3] at h
        simp[k3] at h';have:=o h h';by_cases k5:a=a2
        .subst k5;rw[ur] at this;cases this
        .simp[k5,this]
     .simp[k2] at h' ⊢;exact h'
    .by_cases k2:r'=f
     .subst k2;simp[h2] at h ⊢;exact h
     .simp[h2] at h
      simp[k2] at h';have k5:¬r=f:=by omega
      simp[k5];omega
   .simp[k1] at h' ⊢;exact h'
  .by_cases k1:g=l2
   .subst k1;simp[h1] at h ⊢;exact h
   .simp[h1] at h
    simp[k1] at h';have k5:¬l=l2:=by omega
    simp[k5];omega
def wR(d:Nat):Ct:=λds A R _=>∃ns t m n,ds=[.fl ns,.ref t,enc m]/\Wf m/\m.deep<d/\d<=6/\Tw t n A/\n+2 ^ d<=1000000/\∀o A',Wf o->lst o=lst m->Dr t A A' n (2 ^ d - 1)->R (enc o) A'
def wh:Ct:=SV λds v=>∃x y,ds=[enc x,enc y]/\Wf x/\Wf y/\x.deep<=5/\lst x=lst y/\v=.bl true
theorem sY{x y:M}(h:lst x=lst y):x.deep=y.deep:=by rw[<-jK x,h,jK]
theorem uD{x y:M}(h:lst x=lst y)(n:Str):n∈x.names↔n∈y.names:=by rw[<-(jL x).mem_iff,h,(jL y).mem_iff]
theorem sF{x y:M}(h:lst x=lst y):bH [] (aP x "" 1)=none↔bH [] (aP y "" 1)=none:=by rw[<-sE x,h,sE y]
theorem LH{x y:M}(h:lst x=lst y)(a:bH [] (aP x "" 1)=none){n:Str}(hn:n∈x.names):shr x n=shr y n:=by
 rw[<-BH a hn,h,BH ((sF h).mp a) ((uD h n).mp hn)]
theorem Fd{l:List (Str×Int)}{A:Ar}{R:DK}(hn:∀r∈l,Nm r.1)(k:R (.bl true) A):fu false (fN l) (fN l) A R:=by
 unfold fu;have h1:cV A (fN l)=toQ (fN l):=rfl;have h2:jg A (fN l)=dQ (fN l):=rfl;have c:(toQ (fN l)).canLay0=true:=by
  show canLay0 (.tuple (aY (l.map g6)))=true;have:=zo l hn;simpa[canLay0] using this
 have d:(toQ (fN l)).depth<=64:=by
  show depthAll (aY (l.map g6))+1<=64;have:=x8 l;omega
 rw[h1,h2];refine⟨uT l,uT l,c,c,by omega,?_⟩;rw[PySem.SeqAt.eqv_refl _ c];exact k
end DP
namespace My
open L2 DP MA
theorem F6(T:TopD K mg "_law_turned" A9 qB)(o:aC P w K mg base 3 "_law_draw" iH (aE mg 3 jw)):∀d,aC P w K mg base (d+4) "_law_turned" qB (aE mg 3 (wR d)):=by
 intro d;induction d with
 |zero=>
  refine ja T λds A R RE h=>?_;obtain⟨ns,t,m,n,_,_,h,_⟩:=h;omega
 |succ d g=>
  refine fP T BA rfl (by decide) λN RE f V B outer s H E z hR G ds A R h hl=>?_;have p:=z.units;have nd:=BA.nd;refine⟨_,(aH (b5 (c_ p (dX p (vr 2) au) bx) (aI (aS (vr 2))) cg)
  (aH (yf (i:=3) (j:=4) rfl nd rfl rfl (by decide) rfl rfl (af (dL g z G (af (vr 0) (af (vr 1) (af (dX p (vr 2) au) aq)))) (af (dL g z G (af (vr 0) (af (vr 1) (af (dX p (vr 2) au) aq)))) aq)) rfl)
  (aH (b5 (c_ p (dL o z G (af (vr 0) (af (vr 1) (af au aq)))) au) (aI (aS (cS (af bx (af (dX p (vr 2) au) (af (dX p (vr 2) au) (af (vr 3) (af (vr 4) aq)))))))) cg)
  (aI (aS (cS (af bx (af (dX p (vr 2) au) (af (dX p (vr 2) au) (af (vr 4) (af (vr 3) aq))))))))))),?_⟩
  obtain⟨ns,t,m,n,rfl,C,hd,h6,L,hc,q⟩:=h;have hp:2 ^ (d+1)=2*2 ^ d:=by rw[jX];omega
  have W:0<2 ^ d:=pow_pos (by decide);cases m with
  |wt k=>exact q _ _ C rfl ⟨bL.refl,L.mono (by omega)⟩
  |ah l r a b=>
   have X:max a.deep b.deep+1<d+1:=hd;obtain⟨M,O,Q,S,Y,Z⟩:=C.arms;refine⟨rfl,ns,t,a,n,rfl,C.left,by omega,by omega,L,by omega,λu A1 D e1 g1=>?_⟩;refine⟨rfl,ns,t,b,_,rfl,C.right,by omega,by omega,g1.tw,by omega,λv A2 F e2 g2=>?_⟩;refine⟨rfl,ns,t,2,_,rfl,g2.tw,by omega,by decide,λi A3 _ _ b3 t3=>?_⟩;have nm:∀x y:Int,1<=x->x<=9->1<=y->y<=9->Wf (.ah x y u v):=λx y h1 h2 h3 I=>⟨⟨h1,h2,h3,I,D.arms,F.arms⟩,λk hk=>by
    rcases aU.mp (show k∈u.names++v.names from hk) with h|h
    .exact D.nm k h
    .exact F.nm k h⟩
   have J:∀x y:Int,1<=x->x<=9->1<=y->y<=9->Wf (.ah x y v u):=λx y h1 h2 h3 I=>⟨⟨h1,h2,h3,I,F.arms,D.arms⟩,λk hk=>by
    rcases aU.mp (show k∈v.names++u.names from hk) with h|h
    .exact F.nm k h
    .exact D.nm k h⟩
   have U:Dr t A A3 n (2 ^ (d+1) - 1):=⟨(g1.but.trans g2.but).trans b3,t3.mono (by omega)⟩;have e:lst (.ah l r u v)=lst (.ah l r a b):=by simp only[lst,e1,e2]
   refine cD (λc=>?_) (λc=>?_)
   .exact⟨show 5<=sizeLine by decide,q (.ah l r u v) _ (nm l r M O Q S) e U⟩
   .exact⟨show 5<=sizeLine by decide,q (.ah r l v u) _ (J r l Q S M O) (by rw[zH,e]) U⟩
theorem Fw(T:TopD K mg "alike" A_ qC)(d:mg "len"=none)(f:aC P w K mg base 11 "bar" nD (aE mg 1 sj))(a:aC P w K mg base 12 "least" qH (aE mg 1 wB)):aC P w K mg base 13 "alike" qC (aE mg 2 wh):=by
 refine c7 T Lh λj E l m nd=>⟨_,(aH (dS 2 nd (yj (dL f j l (af (vr 0) aq)) pI))
  (aH (dS 3 nd (yj (dL f j l (af (vr 1) aq)) pI))
  (aH (b5 (PW.pt (gU (gS (vr 2)) (i9 (gS (vr 3))))) (aI (aS (pO m (vr 2) (vr 3)))) cg)
  (aH (dS 4 nd (dL a j l (af (vr 0) aq)))
  (aH (dS 5 nd (dL a j l (af (vr 1) aq)))
  (aH (b5 (PW.pt (EX (c_ m (eY gg fm d gE (af (vr 4) aq)) au) (EY (c_ m (eY gg fm d gE (af (vr 5) aq)) au)))) (aI (aS jC)) cg)
  (aI (aS (pO m (vr 4) (vr 5)))))))))),λds A R h F=>?_⟩
 obtain⟨v,⟨x,y,rfl,o,s,dx,e,rfl⟩,q⟩:=h;have G:=sY e;refine⟨rfl,x,rfl,o,dx,λH g1=>?_⟩;cases k:bH [] (aP x "" 1) with
 |some p=>
  refine⟨rfl,y,rfl,s,by omega,λz g2=>?_⟩;cases i:bH [] (aP y "" 1) with
  |none=>rw[(sF e).mpr i] at k;cases k
  |some p2=>exact q _ (g1.trans g2)
 |none=>
  refine⟨rfl,y,rfl,s,by omega,λz g2=>?_⟩;have i:=(sF e).mp k;rw[i];refine⟨rfl,x,rfl,o,dx,λI g3=>?_⟩;rw[aj k];intro ys p1 t;refine⟨rfl,y,rfl,s,by omega,λu B=>?_⟩;rw[aj i];intro b p2 C;have D:b=ys:=pw_eq p2 p1 λn=>by rw[t,C];exact(uD e n).symm
  subst D;have es:b.map (shr y)=b.map (shr x):=lE λn hn=>(LH e k ((t n).mp hn)).symm;rw[es];have g:=((g1.trans g2).trans g3).trans B;have fin:R (.bl true) u:=q _ g;have fin2:fu false (fN (b.zip (lw (b.map (shr x))))) (fN (b.zip (lw (b.map (shr x))))) u R:=Fd (λr j=>o.nm _ ((t _).mp (of_mem_zip (show(r.1,r.2)∈_ from j)).1)) fin;refine cD (λc=>?_) (λc=>fin2);refine cD (λc=>fin) (λc=>fin2)
end My
namespace DP
open L2 MA
theorem uo{x:M}{n:Str}(h:lst x=.wt n):x=.wt n:=by
 cases x with
 |wt k=>exact h
 |ah l r a b=>
  exfalso;have h:dN (.ah l r (lst a) (lst b)) (.ah r l (lst b) (lst a))=.wt n:=h;rcases jf (.ah l r (lst a) (lst b)) (.ah r l (lst b) (lst a)) with e|e
  .rw[e] at h;cases h
  .rw[e] at h;cases h
theorem qd{x:M}{l r:Int}{a b:M}(h:lst x=lst (.ah l r a b)):∃i j,lst i=lst a/\lst j=lst b/\(x=.ah l r i j\/x=.ah r l j i):=by
 have h:lst x=dN (.ah l r (lst a) (lst b)) (.ah r l (lst b) (lst a)):=h;cases x with
 |wt k=>
  exfalso;have h: .wt k=dN (.ah l r (lst a) (lst b)) (.ah r l (lst b) (lst a)):=h;rcases jf (.ah l r (lst a) (lst b)) (.ah r l (lst b) (lst a)) with e|e
  .rw[e] at h;cases h
  .rw[e] at h;cases h
 |ah f r' c d=>
  have h:dN (.ah f r' (lst c) (lst d)) (.ah r' f (lst d) (lst c))=dN (.ah l r (lst a) (lst b)) (.ah r l (lst b) (lst a)):=h;rcases jf (.ah f r' (lst c) (lst d)) (.ah r' f (lst d) (lst c)) with e|e<;>rcases jf (.ah l r (lst a) (lst b)) (.ah r l (lst b) (lst a)) with e'|e';all_goals
   rw[e,e'] at h;injection h with h1 h2 h3 g;subst h1;subst h2
  .exact⟨c,d,h3,g,.inl rfl⟩
  .exact⟨d,c,g,h3,.inr rfl⟩
  .exact⟨d,c,h3,g,.inr rfl⟩
  .exact⟨c,d,g,h3,.inl rfl⟩
theorem qc{l r:Int}{a b c d:M}(f:lst c=lst a)(g:lst d=lst b):lst (.ah l r c d)=lst (.ah l r a b)/\lst (.ah r l d c)=lst (.ah l r a b):=by
 have e:lst (.ah l r c d)=lst (.ah l r a b):=by simp only[lst,f,g]
 exact⟨e,by rw[zH,e]⟩
def fR(f:M->M->M)(xs ys:List M):List M:=xs.flatMap λx=>ys.map λy=>f x y
theorem g4{f:M->M->M}{xs ys:List M}{z:M}:z∈fR f xs ys↔∃x∈xs,∃y∈ys,f x y=z:=by
 simp only[fR,List.mem_flatMap,bX]
theorem qS{f:M->M->M}{ys:List M}:∀xs:List M,(fR f xs ys).length=xs.length*ys.length
 |[]=>by simp[fR]
 |x::xs=>by
  show((ys.map λy=>f x y)++fR f xs ys).length=_;rw[bR,bC,qS xs,eV,add_mul,one_mul,Nat.add_comm]
theorem uS{f:M->M->M}{ys:List M}(a:∀x y b c,f x y=f b c->x=b/\y=c)(i:ys.Nodup):∀{xs:List M},xs.Nodup->(fR f xs ys).Nodup
 |[],_=>List.nodup_nil
 |x::xs,h=>by
  obtain⟨h1,h2⟩:=lG.mp h;show((ys.map λy=>f x y)++fR f xs ys).Nodup;refine nodup_append.mpr ⟨?_,uS a i h2,λz hz j d e=>?_⟩
  .unfold Nodup
   rw[lI];exact i.imp λne e=>ne (a _ _ _ _ e).2
  .obtain⟨y,_,rfl⟩:=bX.mp hz
   obtain⟨b,g,c,_,rfl⟩:=g4.mp d;exact h1 ((a _ _ _ _ e).1▸g)
def eL:M->List M
 |.wt n=>[.wt n]
 |.ah l r a b=>if l=r/\lst a=lst b then fR (.ah l r) (eL a) (eL b) else fR (.ah l r) (eL a) (eL b)++fR (λx y=>.ah r l y x) (eL a) (eL b)
theorem sA:∀m:M,(eL m).Nodup/\(∀x,x∈eL m↔lst x=lst m)/\(eL m).length=bU m
 |.wt n=>⟨by simp[eL],λx=>⟨λh=>by rw[bh.mp h],λh=>bh.mpr (uo h)⟩,rfl⟩
 |.ah l r a b=>by
  obtain⟨a1,a2,p⟩:=sA a;obtain⟨q,j,s⟩:=sA b;have n1:(fR (.ah l r) (eL a) (eL b)).Nodup:=uS (λx y t u e=>by injection e with _ _ h1 h2;exact⟨h1,h2⟩) q a1;have n2:(fR (λx y=>.ah r l y x) (eL a) (eL b)).Nodup:=uS (λx y t u e=>by injection e with _ _ h1 h2;exact⟨h2,h1⟩) q a1;unfold eL;by_cases c:l=r/\lst a=lst b
  .rw[aj c]
   refine⟨n1,λx=>⟨λh=>?_,λh=>?_⟩,by rw[qS,p,s,BX,aj c]⟩
   .obtain⟨g,d,i,f,rfl⟩:=g4.mp h
    exact(qc ((a2 _).mp d) ((j _).mp f)).1
   .obtain⟨g,i,d,f,e⟩:=qd h
    rcases e with rfl|rfl
    .exact g4.mpr ⟨g,(a2 _).mpr d,i,(j _).mpr f,rfl⟩
    .exact g4.mpr ⟨i,(a2 _).mpr (f.trans c.2.symm),g,(j _).mpr (d.trans c.2),by rw[c.1]⟩
  .rw[ai c]
   refine⟨nodup_append.mpr ⟨n1,n2,λz hz D k e=>?_⟩,λx=>⟨λh=>?_,λh=>?_⟩,by rw[bR,qS,qS,p,s,BX,ai c];omega⟩
   .obtain⟨g,d,i,f,rfl⟩:=g4.mp hz
    obtain⟨v,w,A,o,rfl⟩:=g4.mp k;injection e with B _ C _;exact c ⟨B,by rw[<-(a2 _).mp d,C,(j _).mp o]⟩
   .rcases aU.mp h with h|h
    .obtain⟨g,d,i,f,rfl⟩:=g4.mp h
     exact(qc ((a2 _).mp d) ((j _).mp f)).1
    .obtain⟨g,d,i,f,rfl⟩:=g4.mp h
     exact(qc ((a2 _).mp d) ((j _).mp f)).2
   .obtain⟨g,i,d,f,e⟩:=qd h
    rcases e with rfl|rfl
    .exact aU.mpr (.inl (g4.mpr ⟨g,(a2 _).mpr d,i,(j _).mpr f,rfl⟩))
    .exact aU.mpr (.inr (g4.mpr ⟨g,(a2 _).mpr d,i,(j _).mpr f,rfl⟩))
structure rW(m:M)(ys:List M):Prop where
 nd:ys.Nodup
 mem:∀x,x∈ys↔lst x=lst m
 up:ys.Pairwise λa b=>bw b a=false
theorem rW.len{m:M}{ys:List M}(h:rW m ys):ys.length=bU m:=by
 obtain⟨a1,a2,a⟩:=sA m;rw[<-a];exact((List.perm_ext_iff_of_nodup h.nd a1).mpr λx=>by rw[h.mem,a2]).length_eq
def mO:KeyOrd where
 α:=M
 blt:=bw
 irrefl:=ur
 trans:=qf
 negTrans:=λa b c h=>by
  cases e:bw a b with
  |true=>exact .inl rfl
  |false=>
   right
   cases e2:bw b a with
   |true=>exact qf _ _ _ e2 h
   |false=>rw[<-nq a b e e2];exact h
 total:=nq
theorem t9:∀m:M,SM.kq (toQ (enc m))=true
 |.wt n=>by simp[enc,toQ,aY,SM.kq,SM.jc]
 |.ah l r a b=>by simp[enc,toQ,aY,SM.kq,SM.jc,t9 a,t9 b]
theorem sZ:∀m:M,(toQ (enc m)).depth<=m.deep+1
 |.wt n=>by simp[enc,toQ,aY,PyData.depth,depthAll]
 |.ah l r a b=>by
  have c:=sZ a;have d:=sZ b;have e:(toQ (enc (.ah l r a b))).depth=max (toQ (enc a)).depth (toQ (enc b)).depth+1:=by simp[enc,toQ,aY,PyData.depth,depthAll]
  show _<=max a.deep b.deep+1+1;omega
def mK:SM.TK M where
 q m:=toQ (enc m)
 P m:=(∀n∈m.names,Nm n)/\m.deep<=7
 ok:=t9
 lay m h:=iF m h.1
 dep m h:=by have:=sZ m;omega
 eq:=pP
theorem E2(m:M):∃a,enc m=.tup a:=by cases m<;>exact⟨_,rfl⟩
theorem E1(m:M):∃x r,toQ (enc m)=.tuple (.str x::r):=by cases m<;>exact⟨_,_,rfl⟩
theorem LZ{A:Ar}{r:Nat}{R:DK}{d:List M}(h:A[r]?=some (.lst (d.map enc)))(e:d.length<=200)(hk:∀m∈d,Wf m/\m.deep<=7)
  (q:∀ys:List M,ys.Nodup->(∀x,x∈ys↔x∈d)->ys.Pairwise (λa b=>bw b a=false)->R (.ref A.length) (A++[.lst (ys.map enc)])):lu r A R:=
 LR (kd:=mK) (O:=mO) (key:=id) (.wt "") h (λk=>⟨iI k,rfl,E2 k⟩) e (λk c=>⟨⟨(hk k c).1.nm,(hk k c).2⟩,E1 k⟩) (λk _ k' _=>qg k k') q
def wj(d:Nat):Ct:=λds A R _=>∃m,ds=[enc m]/\Wf m/\m.deep<d/\d<=4/\∀ys A' r,Gr A A'->A'[r]?=some (.lst (ys.map enc))->A.length<=r->rW m ys->R (.ref r) A'
theorem rA{x m:M}(h:Wf m)(e:lst x=lst m):Wf x:=by
 refine⟨?_,λn hn=>h.nm n ((uD e n).mp hn)⟩;have key:∀m x:M,m.arms->lst x=lst m->x.arms:=by
  intro m;induction m with
  |wt k=>intro x _ e;rw[uo e];trivial
  |ah l r a b c d=>
   intro x h e;obtain⟨i,j,o,p,f,g⟩:=h;obtain⟨t,u,q,s,h⟩:=qd e;rcases h with rfl|rfl
   .exact⟨i,j,o,p,c _ f q,d _ g s⟩
   .exact⟨o,p,i,j,d _ g s,c _ f q⟩
 exact key m x h.arms e
theorem BW{m:M}(h:m.deep<=2):bU m<=8:=by
 have h1:=IL m;have h2:2 ^ m.deep<=2 ^ 2:=fW (by decide) h;have h3:2 ^ iG m<=2 ^ 3:=fW (by decide) (by omega);have:=vp m;omega
structure Md(l r:Int)(a b:M)(done:List M)(k:Nat)(ms:List M):Prop where
 so:∀x∈ms,lst x=lst (.ah l r a b)
 co:∀p∈done,∀b',lst b'=lst b-> .ah l r p b'∈ms/\ .ah r l b' p∈ms
 le:ms.length=k
end DP
namespace My
open L2 DP MA
theorem Fx(T:TopD K mg "_law_all" AS qu)(i:mg "sorted"=none)(G:mg "set"=none):∀d,aC P w K mg base (d+4) "_law_all" qu (aE mg 1 (wj d)):=by
 intro d;induction d with
 |zero=>
  refine ja T λds A R RE h=>?_;obtain⟨m,_,_,h,_⟩:=h;omega
 |succ d c=>
  refine fP T Bu rfl (by decide) λN RE f cdv B outer s H E Z hR j ds A R h hl=>?_;have y:=Z.units;have nd:=Bu.nd;refine⟨_,(aH (b5 (c_ y (dX y (vr 0) au) bx) (aI (aS (fy (af (vr 0) aq)))) cg)
  (aH (dS 1 nd (fy aq))
  (aH (mZ k_ rfl (iA (dL c Z j (af (dX y (vr 0) au) aq))) (dG 2 nd) (aI (mZ k_ rfl (iA (dL c Z j (af (dX y (vr 0) au) aq))) (dG 3 nd) (aI (kI (sU plainAttrs_list PySem.F.slot_list_extend PySem.F.type_list_extend Ik D5 (vr 1) (af (fy (af (cS (af bx (af (dX y (vr 0) au) (af (dX y (vr 0) au) (af (vr 2) (af (vr 3) aq)))))) (af (cS (af bx (af (dX y (vr 0) au) (af (dX y (vr 0) au) (af (vr 3) (af (vr 2) aq)))))) aq))) aq)))))))
  (aI (aS (Et i G rfl y (af (vr 1) aq))))))),?_⟩
  obtain⟨m,rfl,hw,hd,h4,q⟩:=h;cases m with
  |wt n=>
   refine⟨show 1<=sizeLine by decide,q [.wt n] _ _ Gr.push ck (aF _) ⟨by simp,λx=>?_,by simp⟩⟩;exact⟨λh=>by rw[bh.mp h],λh=>bh.mpr (uo h)⟩
  |ah l r a b=>
   have hd':max a.deep b.deep+1<d+1:=hd;have ta:=BW (m:=a) (by omega);have tb:=BW (m:=b) (by omega);have tab:bU a*bU b<=8*8:=Nat.mul_le_mul ta tb;have dm:(aW.ah l r a b:M).deep<=7:=by show max a.deep b.deep+1<=7;omega
   have hz:(1024:Nat)<=sizeLine:=by decide
   refine⟨b9 _,rfl,a,rfl,hw.left,by omega,by omega,λya A1 r1 g1 h1 l1 ca=>?_⟩;rw[bR,iN] at l1;have h0:A1[A.length]?=some (.lst (([]:List M).map enc)):=g1.get ck;have la:=ca.len;refine iE h1 ?_;refine kH (λrest τ A'=>∃(done left g:List M) (W u:Option D),ya=done++left/\rest=left.map enc/\τ=[some (enc (.ah l r a b)),some (.ref A.length),W,u]/\A'[A.length]?=some (.lst (g.map enc))/\bL A.length A1 A'/\Md l r a b done (2*(done.length*bU b)) g) ?_ ?_ ?_ _ _ _ ⟨[],ya,[],none,none,rfl,rfl,rfl,h0,bL.refl,⟨(λx j=>by cases j),(λx j=>by cases j),(by simp)⟩⟩
   .rintro rest τ A' ⟨done,left,g,W,u,_,_,_,_,O,_⟩
    exact O _ _ (by omega) h1
   .rintro x rest τ A' ⟨done,left,g,W,u,L,X,rfl,Y,O,J⟩ Nx hN
    cases left with
    |nil=>cases X
    |cons p left=>
     cases X;have hp:lst p=lst a:=(ca.mem p).mp (by rw[L];simp);have hdn:done.length+1<=bU a:=by rw[<-la,L];simp
     refine⟨rfl,b,rfl,hw.right,by omega,by omega,λyb A2 r2 g2 h2 l2 cb=>?_⟩;have ne2:r2≠A.length:=by have:=jN Y;omega
     have lb:=cb.len;refine iE h2 ?_;refine kH (λrest τ A'=>∃(z lf g:List M) (u:Option D),yb=z++lf/\rest=lf.map enc/\τ=[some (enc (.ah l r a b)),some (.ref A.length),some (enc p),u]/\A'[A.length]?=some (.lst (g.map enc))/\bL A.length A2 A'/\Md l r a b done (2*(done.length*bU b)+2*z.length) g/\∀t∈z,.ah l r p t∈g/\ .ah r l t p∈g) ?_ ?_ ?_ _ _ _ ⟨[],yb,g,u,rfl,rfl,rfl,g2.get Y,bL.refl,J,λx j=>by cases j⟩
     .rintro rest τ A' ⟨z,lf,g,u,_,_,_,_,Q,_⟩
      exact Q _ _ ne2 h2
     .rintro x rest τ A' ⟨z,lf,g,u,k1,k2,rfl,v,Q,C,J3⟩ Nx Gp
      cases lf with
      |nil=>cases k2
      |cons o lf=>
       cases k2;have ho:lst o=lst b:=(cb.mem o).mp (by rw[k1];simp);have hdl:z.length+1<=bU b:=by rw[<-lb,k1];simp
       have mk:=qc (l:=l) (r:=r) hp ho;have NN:done.length*bU b+bU b<=bU a*bU b:=by
        have:=Nat.mul_le_mul_right (bU b) hdn;rw[add_mul,one_mul] at this;exact this
       refine⟨tY v,show 5<=sizeLine by decide,show 5<=sizeLine by decide,show 2<=sizeLine by decide,?_⟩;refine Fp (getElem?_push v) ck (by rw[bC,C.le];simp;omega) ?_;refine Gp _ _ ⟨z++[o],lf,g++[.ah l r p o,.ah r l o p],some (enc o),by rw[k1];simp,rfl,rfl,?_,(Q.trans bL.push).trans bL.set,⟨λx j=>?_,λp' I t k=>?_,by simp[C.le];omega⟩,λt k=>?_⟩
       .rw[get_set (getElem?_push v)]
        simp[enc]
       .rcases aU.mp j with h|h
        .exact C.so x h
        .rcases aQ.mp h with rfl|h
         .exact mk.1
         .rw[bh.mp h];exact mk.2
       .obtain⟨S,U⟩:=C.co p' I t k
        exact⟨aU.mpr (.inl S),aU.mpr (.inl U)⟩
       .rcases aU.mp k with h|h
        .obtain⟨S,U⟩:=J3 t h
         exact⟨aU.mpr (.inl S),aU.mpr (.inl U)⟩
        .rw[bh.mp h]
         exact⟨by simp,by simp⟩
     .rintro τ A' ⟨z,lf,g,u,k1,k2,rfl,v,Q,C,J3⟩
      obtain rfl:lf=[]:=by simpa using k2.symm
      rw[fG] at k1;subst k1;refine hN _ _ ⟨done++[p],left,g,some (enc p),u,by rw[L];simp,rfl,rfl,v,(O.trans g2.but).trans Q,⟨C.so,λp' I t k=>?_,?_⟩⟩
      .rcases aU.mp I with h|h
       .exact C.co p' h t k
       .rw[bh.mp h]
        exact J3 t ((cb.mem t).mpr k)
      .rw[C.le,lb,bR,iN,add_mul,one_mul];omega
   .rintro τ A' ⟨done,left,g,W,u,L,X,rfl,Y,O,J⟩
    obtain rfl:left=[]:=by simpa using X.symm
    rw[fG] at L;subst L;have V:∀x,x∈g↔lst x=lst (.ah l r a b):=λx=>⟨J.so x,λh=>by
     obtain⟨a',t,ha,hb,e⟩:=qd h;obtain⟨S,U⟩:=J.co a' ((ca.mem a').mpr ha) t hb;rcases e with rfl|rfl
     .exact S
     .exact U⟩
    have gA:Gr A A':=Gr.uJ (Gr.push.trans g1) (aF _) O;refine LZ Y (by rw[J.le,la];omega) (λx j=>⟨rA hw (J.so x j),by rw[sY (J.so x j)];exact dm⟩) λys y1 y2 y3=>?_;exact q ys _ _ (gA.trans Gr.push) ck gA.len ⟨y1,λx=>by rw[y2,V],y3⟩
end My
namespace DP
open L2 MA
def wO(d:Nat):Ct:=λds A R _=>∃ns t m n,ds=[.fl ns,.ref t,enc m]/\Wf m/\m.deep<d/\d<=6/\Tw t n A/\n+d<=100000/\∀o A',Wf o->o.deep<=m.deep->Dr t A A' n d->R (enc o) A'
def wN:Ct:=λds A R E=>∃dd:Nat,dd<=4/\CJ dd ds A R E
theorem Iv{x:Str}(h:x∈(["a","b","x"]:List Str)):Nm x:=by
 have:x=⟨#[97]⟩\/x=⟨#[98]⟩\/x=⟨#[120]⟩:=by
  simp only[aQ,ez,eB] at h;rcases h with rfl|rfl|rfl
  .exact .inl (by decide+kernel)
  .exact .inr (.inl (by decide+kernel))
  .exact .inr (.inr (by decide+kernel))
 rcases this with rfl|rfl|rfl<;>exact My.zU (by decide) (by decide)
theorem Ai:∀a:List M,fz (a.map enc)=true
 |[]=>rfl
 |m::a=>by
  show(dQ (enc m)&&fz (a.map enc))=true;rw[iI,Ai a];rfl
theorem zm:∀{a:List M},(∀m∈a,∀n∈m.names,Nm n)->canLayAll0 (aY (a.map enc))=true
 |[],_=>rfl
 |m::a,h=>by
  show canLayAll0 (toQ (enc m)::aY (a.map enc))=true;have h1:=iF m (h m b8);have h2:=zm λx b=>h x (bT _ b);simp[canLayAll0,h1,h2]
theorem wY(x:M):∀a:List M,((aY (a.map enc)).any λz=>PyData.eqv z (toQ (enc x)))=decide (x∈a)
 |[]=>by simp[aY]
 |m::a=>by
  show(PyData.eqv (toQ (enc m)) (toQ (enc x))||(aY (a.map enc)).any λz=>PyData.eqv z (toQ (enc x)))=_;rw[wY x a,pP,jr,Bool.or_eq_true,lQ,lQ,lQ,aQ];exact⟨λh=>h.imp Eq.symm id,λh=>h.imp Eq.symm id⟩
theorem tX{A:Ar}{r:Nat}{x:M}{a:List M}{R:DK}(h:A[r]?=some (.lst (a.map enc)))(b:∀n∈x.names,Nm n)(c:∀m∈a,∀n∈m.names,Nm n)(hd:x.deep<=50)(k:R (.bl (decide (x∈a))) A):pX false (enc x) (.ref r) A R:=by
 show pY false (enc x) r A R;unfold pY;rw[h];show kT false (enc x) (a.map enc) A R;unfold kT;rw[vo,uK];have:=mV x;refine⟨iI x,Ai a,zm c,iF x b,by omega,?_⟩;rw[ai (by decide),wY];exact k
end DP
namespace My
open L2 DP MA
theorem F4(T:TopD K mg "_law_spoilt" A8 qA)(g:aC P w K mg base 3 "_law_draw" iH (aE mg 3 jw))(j:aC P w K mg base 4 "_law_pick" lg (aE mg 3 mC)):∀d,aC P w K mg base (d+5) "_law_spoilt" qA (aE mg 3 (wO d)):=by
 intro d;induction d with
 |zero=>
  refine ja T λds A R RE h=>?_;obtain⟨ns,t,m,n,_,_,h,_⟩:=h;omega
 |succ d e=>
  refine fP T By rfl (by decide) λN RE f W B outer s H E C hR u ds A R h hl=>?_;have p:=C.units;have nd:=By.nd;refine⟨_,(@aH _ _ _ _ _ _ (b5 (c_ p (dX p (vr 2) au) bx) (@aI _ _ _ _ (aS (cS (af bx (af (dL j C u (af (vr 0) (af (vr 1) (af (fy (af bx (af bx (af bx aq)))) aq)))) aq))))) cg) (@aH _ _ _ _ _ _ (dS 3 nd (dL g C u (af (vr 0) (af (vr 1) (af au aq))))) (@aH _ _ _ _ _ _ (b5 (c_ p (vr 3) au) (@aI _ _ _ _ (aS (cS (af bx (af (dX p (vr 2) au) (af (dX p (vr 2) au) (af (dX p (vr 2) au) (af (dX p (vr 2) au) aq)))))))) cg) (@aH _ _ _ _ _ _ (b5 (c_ p (vr 3) au) (@aI _ _ _ _ (aS (fM (sW (vr 2) s9 (s_ au)) (cS (af (dL e C u (af (vr 0) (af (vr 1) (af (dX p (vr 2) au) aq)))) (af (dX p (vr 2) au) aq)))))) cg) (@aI _ _ _ _ (aS (fM (sW (vr 2) s9 (s_ au)) (cS (af (dL e C u (af (vr 0) (af (vr 1) (af (dX p (vr 2) au) aq)))) aq))))))))),?_⟩;obtain⟨ns,t,m,n,rfl,v,hd,h6,I,hc,q⟩:=h;have lt:=jN (Classical.choose_spec I).1;cases m with
  |wt k=>
   refine⟨show 3<=sizeLine by decide,rfl,ns,t,_,_,n,rfl,by omega,ck,by simp,I.gr Gr.push,by omega,λx X u D t1=>?_⟩;refine⟨show 2<=sizeLine by decide,?_⟩;obtain⟨y,Y,rfl⟩:∃y∈(["a","b","x"]:List Str),x=.str y:=by
    simp only[aQ,ez,eB] at u;rcases u with rfl|rfl|rfl
    .exact⟨_,by simp,rfl⟩
    .exact⟨_,by simp,rfl⟩
    .exact⟨_,by simp,rfl⟩
   exact q (.wt y) _ ⟨trivial,λz hz=>by rw[show z=y by simpa[aW.names] using hz];exact Iv Y⟩ (aF _) ⟨bL.push.trans D,t1.mono (by omega)⟩
  |ah l r a b=>
   have Z:max a.deep b.deep+1<d+1:=hd;obtain⟨J,L,O,Q,ha1,ha2⟩:=v.arms;have nm:∀(x y:Int) (F G:M),1<=x->x<=9->1<=y->y<=9->Wf F->Wf G->Wf (.ah x y F G):=λx y F G h1 h2 h3 h4 U V=>⟨⟨h1,h2,h3,h4,U.arms,V.arms⟩,λk hk=>by
    rcases aU.mp (show k∈F.names++G.names from hk) with h|h
    .exact U.nm k h
    .exact V.nm k h⟩
   refine⟨rfl,ns,t,3,n,rfl,I,by omega,by decide,λi X i1 i2 D t1=>?_⟩;refine cD (λc=>?_) (λc=>?_)
   .exact⟨show 5<=sizeLine by decide,q (.ah r l a b) _ (nm r l a b O Q J L v.left v.right) (aF _) ⟨D,t1.mono (by omega)⟩⟩
   refine cD (λc=>?_) (λc=>?_)
   .refine⟨show ¬(HT.aK 5 0 none=0/\HT.aK 5 5 (some 3)=5) by decide,rfl,ns,t,a,n+1,rfl,v.left,by omega,by omega,t1,by omega,λo A2 S dO g2=>?_⟩
    refine⟨show 2<=sizeLine by decide,show 3+2<=sizeLine by decide,?_⟩;exact q (.ah l r o b) _ (nm l r o b J L O Q S v.right) (show max o.deep b.deep+1<=max a.deep b.deep+1 by omega) ⟨D.trans g2.but,g2.tw.mono (by omega)⟩
   .refine⟨show ¬(HT.aK 5 0 none=0/\HT.aK 5 5 (some 4)=5) by decide,rfl,ns,t,b,n+1,rfl,v.right,by omega,by omega,t1,by omega,λo A2 S dO g2=>?_⟩
    refine⟨show 1<=sizeLine by decide,show 4+1<=sizeLine by decide,?_⟩;exact q (.ah l r a o) _ (nm l r a o J L O Q v.left S) (show max a.deep o.deep+1<=max a.deep b.deep+1 by omega) ⟨D.trans g2.but,g2.tw.mono (by omega)⟩
theorem F3(T:TopD K mg "_law_some" A7 qz)(j:aC P w K mg base 3 "_law_draw" iH (aE mg 3 jw))(k:aC P w K mg base 4 "_law_pick" lg (aE mg 3 mC))(FM:∀d,aC P w K mg base (d+4) "_law_mobile" qy (aE mg 4 (wG d)))(b:aC P w K mg base 9 "_law_fresh" qw (aE mg 2 (wm 8))):aC P w K mg base 10 "_law_some" qz (aE mg 3 wN):=by
 refine fP T Bx rfl (by decide) λN RE f X B outer s H E o hR hx ds A R h hl=>?_;have Y:=o.units;obtain⟨dd,v,h⟩:=h;have a:=(FM (dd+1)).mono (show dd+1+4<=9 by omega);have nd:=Bx.nd;refine⟨_,(aH (dS 3 nd (dL a o hx (af (vr 0) (af (vr 1) (af (dL k o hx (af (vr 0) (af (vr 1) (af (fy (af (fy (af bx aq)) (af (fy (af bx (af bx aq))) (af (fy (af bx (af bx (af bx (af bx aq))))) aq)))) aq)))) (af (vr 2) aq))))))
  (aI (aS (Em (c_ Y (dL j o hx (af (vr 0) (af (vr 1) (af au aq)))) au) (vr 3) (dL b o hx (af (vr 3) (af (fy aq) aq))))))),?_⟩
 obtain⟨ns,t,n,rfl,O,hn,q⟩:=h;obtain⟨Z,y,hz0⟩:=id O;have l0:=jN y;have hcs:=Dt v;have s1:(1:Nat)<=sizeLine:=by decide
 have s2:(2:Nat)<=sizeLine:=by decide
 have s3:(3:Nat)<=sizeLine:=by decide
 have s4:(4:Nat)<=sizeLine:=by decide
 refine⟨s1,s2,s4,s3,rfl,ns,t,_,_,n,rfl,?_,ck,by simp,((((O.gr Gr.push).gr Gr.push).gr Gr.push).gr Gr.push),by omega,λx Q hx u t1=>?_⟩
 .simp;omega
 have g:Gr A (A++[C.lst [D.str "a"]]++[C.lst [D.str "a",D.str "b"]]++[C.lst [D.str "x",D.str "b",D.str "kk",D.str "c"]]++[C.lst [D.ref A.length,D.ref (A++[C.lst [D.str "a"]]).length,D.ref (A++[C.lst [D.str "a"]]++[C.lst [D.str "a",D.str "b"]]).length]]):=((Gr.push.trans Gr.push).trans Gr.push).trans Gr.push;have e1:(A++[C.lst [D.str "a"]]).length=A.length+1:=by simp
 have e2:(A++[C.lst [D.str "a"]]++[C.lst [D.str "a",D.str "b"]]).length=A.length+2:=by simp
 obtain⟨r,l,rfl,z,h1,F,G⟩:∃(r:Nat) (l:List Str),x=.ref r/\r≠t/\Q[r]?=some (.lst (l.map D.str))/\l≠[]/\∀x∈l,Nm x:=by
  rcases aQ.mp hx with e|hx
  .exact⟨_,["a"],e,by omega,u _ _ (by omega) (getElem?_push (getElem?_push (getElem?_push ck))),by simp,IB⟩
  rcases aQ.mp hx with e|hx
  .exact⟨_,["a","b"],e,by omega,u _ _ (by omega) (getElem?_push (getElem?_push ck)),by simp,IC⟩
  .exact⟨_,["x","b","kk","c"],bh.mp hx,by omega,u _ _ (by omega) (getElem?_push ck),by simp,ID⟩
 have I:bL t A Q:=g.but.trans u;refine⟨rfl,ns,t,r,l,n+1,show [D.fl ns,D.ref t,D.ref r,D.int (dd:Nat)]=_ by rw[show(((dd+1:Nat):Int) - 1)=(dd:Nat) by omega],by omega,z,h1,F,G,t1,by omega,λm A2 S dm _ U=>?_⟩;refine⟨rfl,ns,t,2,n+1+cst (dd+1),rfl,U.tw,by omega,by decide,λi V _ _ b3 t3=>?_⟩;have J:Dr t A V n 200:=⟨(I.trans U.but).trans b3,t3.mono (by omega)⟩;refine cD (λc=>q m V S (by omega) J) (λc=>⟨b9 _,rfl,m,_,0,rfl,S,by omega,by decide,⟨[],ck,aF _⟩,by decide,λm' A4 L Nu W=>?_⟩);refine q m' A4 L (by omega) ?_;obtain⟨M,p,NG⟩:=t3;have l3:=jN p;refine⟨λq c hq h=>W.but q c ?_ (getElem?_push (J.but q c hq h)),?_⟩
 .have:=jN (J.but q c hq h)
  omega
 .exact⟨M,W.but t _ (by omega) (getElem?_push p),by omega⟩
theorem FL{C:Addr}{fd:FuncData}(T:iy K "law" "law" iK C fd)(g:aC P w K mg base 3 "_law_draw" iH (aE mg 3 jw))(b:aC P w K mg base 10 "_law_some" qz (aE mg 3 wN))(d:aC P w K mg base 9 "_law_turned" qB (aE mg 3 (wR 5)))(e:aC P w K mg base 10 "_law_spoilt" qA (aE mg 3 (wO 5)))(j:aC P w K mg base 8 "_law_all" qu (aE mg 1 (wj 4)))(a:aC P w K mg base 10 "same_shape" qO (aE mg 2 wQ))(p:aC P w K mg base 13 "alike" qC (aE mg 2 wh)):dM P w K mg base (a_ P w) 16 C fd uN (aE mg 1 wz):=by
 refine F9 T BB rfl (by decide) λN RE f V B outer s H E r hR l ds A R h hl=>?_;have t:=r.units;have nd:=BB.nd;refine⟨_,(@aH _ _ _ _ _ _ (dS 1 nd (fy aq)) (@aH _ _ _ _ _ _ (dS 2 nd (dL g r l (af (vr 0) (af (vr 1) (af au aq))))) (@aH _ _ _ _ _ _ (dS 3 nd (dL b r l (af (vr 0) (af (vr 1) (af au aq))))) (@aH _ _ _ _ _ _ (dS 4 nd (dL d r l (af (vr 0) (af (vr 1) (af (vr 3) aq))))) (@aH _ _ _ _ _ _ (b5 (c_ t (vr 2) au) (@aI _ _ _ _ (dS 4 nd (dL e r l (af (vr 0) (af (vr 1) (af (vr 4) aq)))))) cg) (@aH _ _ _ _ _ _ (b5 (c_ t (vr 2) au) (@aI _ _ _ _ (dS 4 nd (dL b r l (af (vr 0) (af (vr 1) (af au aq)))))) cg) (@aH _ _ _ _ _ _ (dS 5 nd (EZ t (vr 4) (dL j r l (af (vr 3) aq)))) (@aH _ _ _ _ _ _ (b5 (PW.pt (gU (nV t (dL a r l (af (vr 3) (af (vr 4) aq))) (vr 5)) (i9 (nV t (dL a r l (af (vr 4) (af (vr 3) aq))) (vr 5))))) (@aI _ _ _ _ (aS jC)) cg) (@aI _ _ _ _ (aS (Er (Ep (vr 5)) (sV (dL p r l (af (vr 3) (af (vr 4) aq))))))))))))))),?_⟩;obtain⟨ns,rfl,q⟩:=h;refine⟨b9 _,rfl,ns,_,3,0,rfl,⟨[],ck,aF _⟩,by decide,by decide,λi A1 i1 i2 b1 t1=>?_⟩;refine⟨rfl,3,by decide,ns,_,1,rfl,t1,by decide,λm A2 k dm W=>?_⟩;refine⟨rfl,ns,_,m,1+200,rfl,k,by omega,by decide,W.tw,by decide,λo A3 n X v=>?_⟩;have dO:=sY X;refine cD (λY=>?_) (λY=>?_)
 .refine⟨rfl,ns,_,o,_,rfl,n,by omega,by decide,v.tw,by decide,λo Z n y D=>?_⟩
  refine cD (λz=>by omega) (λz=>?_);refine⟨rfl,m,rfl,k,by omega,by omega,λys F G I u J cl=>?_⟩;refine tX u n.nm (λx l=>(rA k ((cl.mem x).mp l)).nm) (by omega) ?_;rw[lP.mpr (cl.mem o)];refine⟨rfl,_,⟨m,o,rfl,k,n,by omega,by omega,rfl⟩,λL M=>?_⟩;refine cN (λc=>absurd (show decide (lst m=lst o)=decide (lst o=lst m) from lP.mpr eq_comm) c) (λ_=>?_);refine⟨rfl,_,⟨o,m,rfl,n,k,by omega,by omega,rfl⟩,λO Q=>?_⟩;refine cN (λc=>absurd rfl c) (λ_=>?_);by_cases hd:lst o=lst m
  .rw[fY hd]
   exact⟨rfl,_,⟨m,o,rfl,k,n,by omega,hd.symm,rfl⟩,λS U=>q _⟩
  .rw[dW hd]
   exact q _
 .refine cD (λz=>?_) (λz=>?_)
  .refine⟨rfl,2,by decide,ns,_,_,rfl,v.tw,by decide,λo Z n y D=>?_⟩
   refine⟨rfl,m,rfl,k,by omega,by omega,λys F G I u J cl=>?_⟩;refine tX u n.nm (λx l=>(rA k ((cl.mem x).mp l)).nm) (by omega) ?_;rw[lP.mpr (cl.mem o)];refine⟨rfl,_,⟨m,o,rfl,k,n,by omega,by omega,rfl⟩,λL M=>?_⟩;refine cN (λc=>absurd (show decide (lst m=lst o)=decide (lst o=lst m) from lP.mpr eq_comm) c) (λ_=>?_);refine⟨rfl,_,⟨o,m,rfl,n,k,by omega,by omega,rfl⟩,λO Q=>?_⟩;refine cN (λc=>absurd rfl c) (λ_=>?_);by_cases hd:lst o=lst m
   .rw[fY hd]
    exact⟨rfl,_,⟨m,o,rfl,k,n,by omega,hd.symm,rfl⟩,λS U=>q _⟩
   .rw[dW hd]
    exact q _
  .have D:=v
   refine⟨rfl,m,rfl,k,by omega,by omega,λys F G I u J cl=>?_⟩;refine tX u n.nm (λx l=>(rA k ((cl.mem x).mp l)).nm) (by omega) ?_;rw[lP.mpr (cl.mem o)];refine⟨rfl,_,⟨m,o,rfl,k,n,by omega,by omega,rfl⟩,λL M=>?_⟩;refine cN (λc=>absurd (show decide (lst m=lst o)=decide (lst o=lst m) from lP.mpr eq_comm) c) (λ_=>?_);refine⟨rfl,_,⟨o,m,rfl,n,k,by omega,by omega,rfl⟩,λO Q=>?_⟩;refine cN (λc=>absurd rfl c) (λ_=>?_);by_cases hd:lst o=lst m
   .rw[fY hd]
    exact⟨rfl,_,⟨m,o,rfl,k,n,by omega,hd.symm,rfl⟩,λS U=>q _⟩
   .rw[dW hd]
    exact q _
end My
namespace L2
theorem tD{K:Frag}{h:Heap}{mg:av}{x:Str}{st:Stmt}{ps:List Str}{f:Addr}{g:Value}{i an:Option Addr}{e:Array (Option Value)}{kV doc pm b ct:Value}(X:K.In h)(G:h.Ns mainGlobals mg)
  (a:nsIn K mainGlobals x=some (some (.ref f)):=by k_is)(l:K.lookup f=some ⟨g,i,.func (fnOf x x (i6 st) (eZ st) (aJ st) .none kV doc pm an b ct),e⟩:=by k_is)(c:codeIn K b x=true:=by k_is)(k:keepIn K (.ref f)=true:=by k_is)
  (j:∀(kV doc pm:Value) (an:Option Addr) (b ct:Value) (d:List Value),d.length=ps.length->bindArgs (fnOf x x (i6 st) (eZ st) (aJ st) .none kV doc pm an b ct) ⟨d,[]⟩=pure (ps.zip d):=by(intro _ _ _ _ _ _ d m;rcases d with _|⟨_,_|⟨_,_|⟨_,_|⟨_,_|⟨_,_|⟨_,_⟩⟩⟩⟩⟩⟩<;>first|rfl|(simp at m))):TopD K mg x st ps:=
 ⟨f,_,tO l c k,(tO l c k).binds j,mg_of X G a⟩
theorem bN{K:Frag}{h:Heap}{mg:av}{x:Str}(X:K.In h)(G:h.Ns mainGlobals mg)(a:nsIn K mainGlobals x=some none:=by k_is):mg x=none:=PySem.W.mg_none_of X G a
theorem eX{K:Frag}{h:Heap}{mg:av}{x:Str}{v:Value}(X:K.In h)(G:h.Ns mainGlobals mg)(a:nsIn K mainGlobals x=some (some v):=by k_is):mg x=some v:=mg_of X G a
end L2
namespace My
open L2 DP MA
theorem walk{l:PySem.W.OpenLaw}{q:Program}{loose:List Str}{i:(av)->Heap->Prop}{c:World->Heap->Prop}{d:DefRec}{K:Params->Frag}(hn:l.most=some 63)(b:d.params.defaults=[])(j:∀p,(K p).all (λp=>jO p.2)=true)
  (m:∀(w:World) (h:Heap),c w h->(K w.params).In h)
  (F:∀(w:World) (mg:av) (g:Addr) (h:Heap),(K w.params).In h->h.Ns mainGlobals mg->mg d.name=some (.ref g)->
   ∃fd:FuncData,(∀(s:Shared) (u:Value),BindsTo s fd ⟨[u],[]⟩ [("_law_script",u)])/\∀base:Heap,(K w.params).In base->base.Ns mainGlobals mg->dM l.prog w (K w.params) mg base (a_ l.prog w) 16 g fd ["_law_script"] ly):
  PySem.W.WalkO q loose i c l.row.toRowW d [] (λf vs=>PySem.call f vs):=
 L2.M_ (n:=63) (k:=16) (x:="_law_script") (CX:=λw=>a_ l.prog w) (sp:=λ_=>ly) hn (by decide) b ⟨rfl,by decide,by decide⟩ m F (λw H a ns _ o r=>F_ (j w.params) o r) λw H s e s' z=>by
  obtain⟨_,_,_,_,_,z⟩:=z
  exact z
theorem HC{P:Program}{w:World}{K:Frag}{h:Heap}{mg:av}{o j:Addr}{k b:Option Addr}{l:Array (Option Value)}{m c d g a i:Value}(X:K.In h)(G:h.Ns mainGlobals mg)(n:mg "law"=some (.ref o))
  (p:nsIn K mainGlobals "law"=some (some (.ref j)))(q:K.lookup j=some ⟨m,k,.func (fnOf "law" "law" (i6 iK) (eZ iK) (aJ iK) .none c d g b a i),l⟩)(r:codeIn K a "law"=true)(k3:keepIn K (.ref j)=true)
  (go:∀(base:Heap) {f:Addr} {fd:FuncData},iy K "law" "law" iK f fd->dM P w K mg base (a_ P w) 16 f fd uN ly):
  ∃fd:FuncData,(∀(s:Shared) (v:Value),BindsTo s fd ⟨[v],[]⟩ [("_law_script",v)])/\∀base:Heap,K.In base->base.Ns mainGlobals mg->dM P w K mg base (a_ P w) 16 o fd ["_law_script"] ly:=by
 have e:=n.symm.trans (mg_of X G p)
 cases e
 exact⟨fnOf "law" "law" (i6 iK) (eZ iK) (aJ iK) .none c d g b a i,λs v=> .of_eq rfl,λbase _ _=>go base (tO q r k3)⟩
end My
end
open PySem PySem.W PyProof.Rows
set_option maxHeartbeats 0
structure PySem.W.Fast:Prop where (tw12289652512537909853 tw861502493610598483 tw5543438740188009985 tw3699402585820339207 tw7774113678449685934 tw3436668677267843481 tw6297692896331399460 tw10894902600838542535 tw2585532686572414404 tw784289164321568707 tw4971374062829452455 tw4849480874435393781 tw17744993626210230056 tw9176024353136599441 tw16670775579421159206 tw14387916025512776202 tw1979317910248211280 tw1950803216711332702 tw14022695629967993375 tw9977182230042388008 tw5667099127317398114 tw5362036446546632119 tw9689729476882780088 tw17338325484393633139 tw2144661209622563809 tw14226173905949225808 tw4436474186459923750 tw13462424878891718212 tw9592521066531166775 tw2261719852989239553 tw2135409205425526673 tw5622701340561072331 tw7086961617601330827 tw18146532975450069615 tw3215387988796971590 tw6229817132586351632 tw1825952489489211193 tw16108870410212019532 tw4635989785427082552 tw10876078143196172821 tw9879335643197240621 tw15401437161963490237 tw5994696166404524948 tw6427576097997697322 tw2455152089536381482 tw2570914705882880060 tw17318462890700432884 tw17292613610259460706 tw15227483606004533461 tw15539815450414544023 tw13812277999558781770 tw5217270863462422736 tw740290905518256060 tw5832305185047221409 tw8733291241859026926 tw13055953723892786844 tw15925456577456769635 tw10295913840692754127 tw16682895059504647277 tw6822071536725586909 tw3042748168174471775 tw16919654943277366748 tw3308634892276815127 tw12459912946257978736 tw17351735930882485243 tw13674586047789940208 tw14827714588952709054 tw11907897558876765624 tw12917704675397863716 tw3382625519597670723 tw15042883488752021643 tw5101696844757716304 tw15621415185263527259 tw8047209995159408440 tw4039707410889071942 tw10042083083395451092 tw11823594873375168262 tw8002303944043701648 tw896239598344801917 tw3270257207059953099 tw13622603851894308203 tw8285278889055680438 tw13444670453868202053 tw9972681490609642005 tw7164969610272591079 tw17214186515701724070 tw3419001889969749887 tw14842496431369740429 tw2483420100392427323 tw14243238205550065757 tw12431713363859531893 tw2789304352393801511 tw2646887283097553488 tw14424681132571578402 tw16864618592142003386 tw3239113980409921550 tw3543459598558145280 tw14689541978594310382 tw11564986514327137767 tw12772213712371865176 tw10510056951384868246 tw4699756791338806529 tw8997383693586321770 tw11962351593759143498 tw6469784823511061222 tw4075453323654395381 tw1000662321505670351 tw17483705464198625004 tw11373181179767321252 tw12652081859355081885 tw87601786513091389 tw2403389108928632939 tw1205274952441263945 tw2187251505897268136 tw6968137755033780318 tw3300257896294614128 tw13034982811429478159 tw1495895850433845275 tw4171853373547519906 tw5072417060200589145 tw8912161614967838395 tw17518593693041627797 tw16723463757517087524 tw16279288168775177219 tw4804111812005502284 tw4547051000311932777 tw6858818405166986180 tw8899516883271353254 tw1972164579936704799 tw15433366417846715934 tw17464319187374939960 tw8739830900816887780 tw13946496683202179788 tw9456574344343218679 tw13855379610559885079 tw10698057553749749337 tw15127105006835628225 tw11066385474520676512 tw16822532161544500889 tw447263597446747957 tw17817366049700826239 tw16053306600634468012 tw2692750590507578028 tw10016166984437732892 tw16298917771340976007 tw13810262117814702294 tw12887044766017154078 tw6798380500665416597 tw8949853181751564097 tw11898673842065290130 tw16140922888777852060 tw9582823730064241283 tw938635154573522699 tw2080317491765294665 tw2314633323536394700 tw5438652380644606353 tw3985964047577975286 tw16409965706819354750 tw12727641955093265886 tw17013487888433625170 tw17062427158221528723 tw140001813534094272 tw10258873121960336067 tw13930279835785562328 tw643336161829623379 tw10374632558016547081 tw9615563845995560447 tw5459702643516471331 tw5537553045615171315 tw12903330217458380548 tw1717767836212652739 tw11421057715548341654 tw3235425350174046738 tw5449601097390414333 tw3641951560692057861 tw14782755387869428366 tw6953138203311097117 tw7476452910721959123 tw2400638427578300857 tw17187875760726034783 tw4077048163395320219 tw2353497105660221152 tw18101783494082082527 tw5498123283257192965 tw11766667032028208565 tw10792498714594961201 tw9919008367099125623 tw9860861378791804195 tw9848817304349107530 tw9796564346219866840 tw9784134513789038367 tw9536688357841153863 tw9461873434466728008 tw8972062959192195235 tw896878414759379649 tw8297923619242306668 tw8219003486749837733 tw8159993647027272844 tw8157277791214410489 tw8080008513338510535 tw8060666987683057360 tw7480016910919988345 tw7322748291113730364 tw7217548393331319763 tw6549852094080907030 tw6148498323302512570 tw6128106870883400570 tw6105849179199505303 tw5702276774652866934 tw5344687154915797982 tw4953865588907285216 tw4906484309439969231 tw4734895289157585001 tw4684226298888400098 tw4683681711962371626 tw4562827626845409882 tw4548300405975405348 tw4490611911172417597 tw4480162626587320490 tw443766864951011646 tw4321966507151631593 tw4096438862311573950 tw3300454383303005205 tw2950685276103557050 tw2295934692909999376 tw209982475168477708 tw1840220198017710270 tw18157406047293677543 tw17760279517084355780 tw1725486776273817318 tw1708089923452030704 tw15861351967447197489 tw15779231459743154856 tw15685335758407661847 tw15438627641174518403 tw15402603294489630176 tw15254633091992210921 tw15173544498738437827 tw14935467056822913822 tw14904681115217272601 tw14760874974797668852 tw14664691819916384248 tw13953587524928339648 tw1383625962624193546 tw13421457143807847188 tw13135312941875745310 tw12330612334027959195 tw12297992134047619483 tw12269216009862288129 tw11429584451438056573 tw11401859456886640639 tw11384182702204212275 tw11161164713144168021 tw10910644110388302437 tw10294118229990073760:True)
open L2 DP MA My
open_top hd for PySem.Challenge.rw_hangstill_k13_whole_one_shape
theorem PySem.Challenge.cw_hangstill_k13_whole_one_shape_holds : PySem.Challenge.rw_hangstill_k13_whole_one_shape.Holds := by
 refine hd ?_;k_fill;refine My.walk (l:=PySem.Challenge.rw_hangstill_k13_whole_one_shape) rfl rfl ?K (λw h Y=>PySem.W.kIn_of Y) ?F;case K=>exact λp=>(Eq.refl true:true=true)
 case F=>
  intro w mg fa h KX G hmg;refine' My.HC KX G hmg ?aL ?lL ?cL ?kL ?Gi;(case aL=>k_is);(case lL=>k_is);(case cL=>k_is);(case kL=>k_is);case Gi=>
   intro base f fd T;have HQ:mg "NoMobile"=some _:=eX KX G;have HP:mg "Never"=some _:=eX KX G;have Cw:=FJ (P:=PySem.Challenge.rw_hangstill_k13_whole_one_shape.prog) (w:=w) (base:=base) (tD KX G) (bN KX G) (bN KX G) (bN KX G);have Cu:=FI (P:=PySem.Challenge.rw_hangstill_k13_whole_one_shape.prog) (w:=w) (base:=base) (tD KX G) (bN KX G) (bN KX G) (bN KX G) (bN KX G) (eX KX G);have Ck:=FG (tD KX G) (bN KX G) (bN KX G) (bN KX G) (bN KX G) (eX KX G) Cu Cw 6;have Cj:=FH (tD KX G) (eX KX G) Ck;have v7:=FA (tD KX G) HQ (by k_exc) Cj;have v8:=FF (P:=PySem.Challenge.rw_hangstill_k13_whole_one_shape.prog) (w:=w) (base:=base) (tD KX G);have Cz:=F0 (tD KX G) v8;have Cy:=FZ (tD KX G) Cz;have CA:=F2 (tD KX G) Cy 6;have v_:=F1 (tD KX G) v7 CA;have vZ:=Fy (tD KX G) v_;have Co:=FP (tD KX G) v8;have Cv:=FW (tD KX G) (bN KX G) v_;have Cq:=FQ (tD KX G) (bN KX G) (bN KX G) (bN KX G) Co;have Cn:=FO (tD KX G) HP (by k_exc) vZ Cv Cq;have Ce:=Fw (tD KX G) (bN KX G) vZ Cn;have CG:=F7 (P:=PySem.Challenge.rw_hangstill_k13_whole_one_shape.prog) (w:=w) (base:=base) (tD KX G);have Cm:=FN (tD KX G) (bN KX G) CG 7;have CD:=F5 (tD KX G) v7 Cm;have Cg:=Fz (P:=PySem.Challenge.rw_hangstill_k13_whole_one_shape.prog) (w:=w) (base:=base) (tD KX G) (bN KX G);have Cr:=FT (tD KX G) Cg;have kh:=FD (tD KX G) (bN KX G) Cr;have r8:=FY (tD KX G) (bN KX G) kh;have Cs:=FU (tD KX G) kh r8;have Ci:=FE (P:=PySem.Challenge.rw_hangstill_k13_whole_one_shape.prog) (w:=w) (base:=base) (tD KX G) (bN KX G) 8;have CB:=F3 (tD KX G) kh r8 Cs Ci;have CF:=F6 (tD KX G) kh 5;have CC:=F4 (tD KX G) kh r8 5;have Cf:=Fx (P:=PySem.Challenge.rw_hangstill_k13_whole_one_shape.prog) (w:=w) (base:=base) (tD KX G) (bN KX G) (bN KX G) 4;exact(FL T kh CB CF CC Cf CD Ce).imp λvs H Q E h=>LX h
