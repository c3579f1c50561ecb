import PyProof.Rows.All
import Wide.All
import OpenK.AllK
import Wide.FinOn
import Lean
import PyProof.EqAt
import PyProof.EqKinds
import PyProof.NeKinds
import PyProof.TupleCall
import PyProof.ZipIter
import PyProof.ListNew
import PyProof.P3Eq
import PyProof.NeData
import PyProof.EnumFor
import PyProof.EnumMake
import PyProof.ExcBaseAll.ValueError
import PyProof.Rows.SetFrom
import PyProof.CollectWalk
import KE.KSortTup
import PyProof.Rows.SortRuns
import PyProof.Rows.SortKey
import PyProof.SumWalk
import PyProof.FString
import KE.KDictOf
import PyProof.AttrMissHeap
import PyProof.TupleOfGen
import KE.KDictSum
import PyProof.ConsumeS
import PyProof.P3In
import PyProof.Rows.RuleN_abs
import PyProof.Rows.FactsN_abs
import PyProof.StrBlockI
import PyProof.SliceStr2
import PyProof.Rows.StrClose
import PyProof.FactsAll.tuple_2
import PyProof.MinMaxWalk
import PyProof.WalksMore
import PyProof.Rows.RowHeap
import PyProof.DictWalks
import PyProof.Rows.ListMul
import PyProof.ListRange
import PyProof.TupleOfStr
import KE.KRevSl
import KE.KDictList
import KE.KIntText
import PyProof.ReprStr
import KE.KRevIter
import PyProof.DictUpdate
import PyProof.StrOps
import KE.KEqDict
import KE.IntBitsLaws
import PySem.Challenge.RW_hangstill_k06_whole_hung
import KE.RegKIsAll
import KE.RegKTryMore
set_option Elab.async false
set_option linter.all false
set_option maxRecDepth 100000
set_option maxHeartbeats 4000000
open PySem.Heap (DictOf ExtBut FlyingW SameBut get?_push_ne)
open Option (getD_none getD_some isSome_map map_eq_some_iff map_some)
open PySem.W (Frag callWith_K cellsFrom_some codeIn codeRec_of excIn exmOne findIn fnOf hideAll hideAll_get instObj keepIn kitOne kitx_dict kitx_list kitx_tuple lookIn methodObj mg_of mroIn nsIn of_hideAll plainGet specialIn takesIn)
open Nat (add_sub_cancel add_zero le_succ log2_lt lt_trans pow_succ sub_self succ_pos)
open List (Pairwise Perm any_eq_true drop_take foldl_cons foldl_nil forIn_cons forIn_nil length_nil lookup_cons mem_range not_lt of_mem_zip range range_succ replicate sum_cons take_add take_take)
open Array (toList toList_inj)
open Bool (or_eq_true)
open Int (add_comm dvd_trans ediv_le_self mul_nonneg mul_one one_mul)
open PySem.F (args_tuple_add_2 called_tuple entry_set_init entry_tuple_add slot_tuple_add sub_list_set typeCall_set_1)
open PySem.PyData (canLay0 canLayAll0 depthAll eqvAll strOk)
abbrev zE:= @_root_.PyProof.Rows.callWith_builtin1
abbrev nZ:= @_root_.PyProof.Rows.callWith_type1
abbrev zH:= @_root_.PyProof.Rows.slot_tuple_getitem
abbrev zM:= @_root_.PySem.F.entry_type_call
abbrev vK:= @_root_.PySem.F.slot_list_append
abbrev zT:= @_root_.PySem.F.slot_list_getattribute
abbrev zV:= @_root_.PySem.F.slot_tuple_getattribute
abbrev vR:= @_root_.PySem.F.type_list_append
abbrev gg:= @_root_.PySem.Around.under_plainId
abbrev cP:= @_root_.Array.getElem?_eq_getElem
abbrev n9:= @_root_.Array.getElem?_eq_none
abbrev vh:= @_root_.Array.getElem?_eq_some_iff
abbrev oj:= @_root_.Bool.and_false
abbrev q7:= @_root_.Bool.eq_iff_iff
abbrev vm:= @_root_.Bool.false_and
abbrev cC:= @_root_.Bool.false_ne_true
abbrev zF:= @_root_.PySem.Calls.call_function_entry
abbrev vn:= @_root_.PySem.Calls.spliced_cons
abbrev vp:= @_root_.PySem.Calls.spliced_nil
abbrev rj:= @_root_.Classical.choose_spec
abbrev vv:= @_root_.PySem.Code.quiet_builtin
abbrev vC:= @_root_.PyProof.Rows.F.entry_set_update_loop
abbrev oF:= @_root_.PyProof.Rows.F.plain_set_update_loop
abbrev vH:= @_root_.PySem.F.slot_zip_next
abbrev zJ:= @_root_.Int.dvd_of_emod_eq_zero
abbrev zK:= @_root_.Int.eq_of_mul_eq_mul_left
abbrev rD:= @_root_.Int.gcd_pos_of_ne_zero_left
abbrev zL:= @_root_.Int.le_ediv_iff_mul_le
abbrev iK:= @_root_.Int.le_of_lt
abbrev mu:= @_root_.Int.le_refl
abbrev d9:= @_root_.Int.le_trans
abbrev oH:= @_root_.Int.mul_le_mul_of_nonneg_left
abbrev zN:= @_root_.Int.mul_le_mul_of_nonneg_right
abbrev jn:= @_root_.Int.ne_of_gt
abbrev rE:= @_root_.Int.pow_succ
abbrev vI:= @_root_.PyProof.Rows.KeyOrd.kle_of_klt
abbrev iL:= @_root_.PyProof.Rows.KeyOrd.kle_refl
abbrev kT:= @_root_.PyProof.Rows.KeyOrd.kle_trans
abbrev zO:= @_root_.List.append_eq_nil_iff
abbrev vJ:= @_root_.List.extract_eq_take_drop
abbrev zP:= @_root_.List.filterMap_cons
abbrev zQ:= @_root_.List.getElem?_cons_succ
abbrev bL:= @_root_.List.getElem?_eq_some_iff
abbrev vL:= @_root_.List.getElem?_replicate
abbrev vM:= @_root_.List.getElem?_zip_eq_some
abbrev vN:= @_root_.List.lt_irrefl
abbrev vO:= @_root_.List.mem_of_find?_eq_some
abbrev zR:= @_root_.List.set_append_right
abbrev zS:= @_root_.Nat.add_sub_cancel'
abbrev rF:= @_root_.Nat.add_sub_cancel_left
abbrev rG:= @_root_.Nat.exists_eq_succ_of_ne_zero
abbrev jV:= @_root_.PySem.Obj.data_mapFields
abbrev zU:= @_root_.PySem.Obj.isFreed_of_fields
abbrev iM:= @_root_.List.Perm.append_left
abbrev jo:= @_root_.List.Perm.append_right
abbrev gF:= @_root_.PySem.boot_len
abbrev kU:= @_root_.PySem.mem_of_lookup
abbrev vP:= @_root_.Rat.intCast_add
abbrev gf:= @_root_.Rat.intCast_mul
abbrev mw:= @_root_.List.all_eq_true
abbrev dh:= @_root_.Bool.and_eq_true
abbrev mz:= @_root_.List.any_cons
abbrev bJ:= @_root_.List.append_assoc
abbrev iN:= @_root_.List.append_nil
abbrev vQ:= @_root_.beq_eq_false_iff_ne
abbrev iO:= @_root_.beq_iff_eq
abbrev kW:= @_root_.bne_self_eq_false
abbrev mC:= @_root_.PyProof.Rows.boot_dict
abbrev mD:= @_root_.PyProof.Rows.boot_tuple
abbrev mE:= @_root_.PySem.builtinLookup_eq_fast
abbrev oJ:= @_root_.PySem.call_meets
abbrev di:= @_root_.PySem.F.called_set
abbrev eU:= @_root_.PySem.codeAny_builtin
abbrev rH:= @_root_.PySem.codeAny_call_builtin
abbrev iP:= @_root_.PySem.codeAny_mono
abbrev rJ:= @_root_.PySem.codeAny_of_tree
abbrev c7:= @_root_.congrArg
abbrev eG:= @_root_.decide_eq_false
abbrev zW:= @_root_.decide_eq_false_iff_not
abbrev dj:= @_root_.decide_eq_true
abbrev jW:= @_root_.decide_eq_true_eq
abbrev oK:= @_root_.List.drop_drop
abbrev oM:= @_root_.List.drop_eq_getElem_cons
abbrev kX:= @_root_.List.drop_eq_nil_of_le
abbrev iQ:= @_root_.List.drop_sublist
abbrev oO:= @_root_.List.drop_zero
abbrev rK:= @_root_.Int.emod_lt_of_pos
abbrev rL:= @_root_.Int.emod_nonneg
abbrev oQ:= @_root_.LawfulBEq.eq_of_beq
abbrev gG:= @_root_.Bool.false_eq_true
abbrev kY:= @_root_.List.find?_cons
abbrev oR:= @_root_.PySem.fits_of_scanBound
abbrev kZ:= @_root_.Int.gcd_dvd_left
abbrev mF:= @_root_.Int.gcd_dvd_right
abbrev aT:= @_root_.PySem.Heap.get?_push_of_some
abbrev bI:= @_root_.PySem.Heap.get?_push_size
abbrev oU:= @_root_.PySem.Heap.get?_update_other
abbrev gZ:= @_root_.PySem.Heap.get?_update_self
abbrev gi:= @_root_.Array.getD_eq_getD_getElem?
abbrev dF:= @_root_.List.getD_eq_getElem?_getD
abbrev gU:= @_root_.List.getElem?_append_left
abbrev kE:= @_root_.List.getElem?_append_right
abbrev aV:= @_root_.List.getElem?_eq_getElem
abbrev n_:= @_root_.List.getElem?_eq_none
abbrev cy:= @_root_.List.getElem?_map
abbrev oh:= @_root_.List.getElem?_set_ne
abbrev lZ:= @_root_.List.getElem?_set_self
abbrev jg:= @_root_.Array.getElem?_toList
abbrev cz:= @_root_.List.getElem_mem
abbrev fV:= @_root_.List.getElem_of_mem
abbrev e_:= @_root_.if_false
abbrev ai:= @_root_.if_neg
abbrev aj:= @_root_.if_pos
abbrev jh:= @_root_.if_true
abbrev f9:= @_root_.PySem.W.kia_one
abbrev oi:= @_root_.Nat.le_add_right
abbrev qY:= @_root_.Nat.le_max_left
abbrev qZ:= @_root_.Nat.le_max_right
abbrev l0:= @_root_.Int.le_of_dvd
abbrev ji:= @_root_.Nat.le_of_lt
abbrev aH:= @_root_.Nat.le_refl
abbrev cY:= @_root_.Nat.le_trans
abbrev cA:= @_root_.List.length_append
abbrev gC:= @_root_.List.length_cons
abbrev iE:= @_root_.List.length_drop
abbrev a_:= @_root_.List.length_map
abbrev vj:= @_root_.List.length_pos_iff
abbrev om:= @_root_.List.length_range
abbrev gV:= @_root_.List.length_take
abbrev bE:= @_root_.Array.length_toList
abbrev dZ:= @_root_.Nat.lt_irrefl
abbrev b8:= @_root_.Nat.lt_of_lt_of_le
abbrev f_:= @_root_.Nat.lt_or_ge
abbrev aN:= @_root_.PySem.Heap.lt_size
abbrev dM:= @_root_.Nat.lt_succ_of_lt
abbrev iF:= @_root_.Nat.lt_succ_self
abbrev ff:= @_root_.List.map_append
abbrev oq:= @_root_.List.map_congr_left
abbrev dg:= @_root_.List.map_cons
abbrev b_:= @_root_.List.map_map
abbrev br:= @_root_.List.mem_append
abbrev jP:= @_root_.List.mem_append_left
abbrev gc:= @_root_.List.mem_append_right
abbrev aX:= @_root_.List.mem_cons
abbrev b9:= @_root_.List.mem_cons_of_mem
abbrev cB:= @_root_.List.mem_cons_self
abbrev q8:= @_root_.List.mem_filterMap
abbrev aS:= @_root_.List.mem_map
abbrev kF:= @_root_.List.mem_map_of_mem
abbrev jj:= @_root_.List.mem_of_getElem?
abbrev eF:= @_root_.List.mem_of_mem_drop
abbrev dQ:= @_root_.List.mem_of_mem_take
abbrev bK:= @_root_.List.mem_singleton
abbrev kG:= @_root_.Nat.min_eq_left
abbrev kH:= @_root_.Int.mul_assoc
abbrev kI:= @_root_.Int.mul_comm
abbrev kJ:= @_root_.Int.mul_ediv_cancel_left
abbrev iG:= @_root_.Int.mul_le_mul
abbrev jQ:= @_root_.Int.mul_pos
abbrev iH:= @_root_.Nat.ne_of_gt
abbrev aY:= @_root_.Nat.ne_of_lt
abbrev fh:= @_root_.List.nil_append
abbrev ou:= @_root_.List.nodup_append
abbrev jR:= @_root_.List.nodup_cons
abbrev q9:= @_root_.Bool.not_eq_true'
abbrev q_:= @_root_.Nat.not_lt_zero
abbrev d7:= @_root_.List.not_mem_nil
abbrev jk:= @_root_.not_or
abbrev kK:= @_root_.of_decide_eq_true
abbrev d8:= @_root_.or_false
abbrev cZ:= @_root_.List.pairwise_append
abbrev l5:= @_root_.List.pairwise_cons
abbrev jS:= @_root_.List.pairwise_iff_getElem
abbrev jT:= @_root_.List.pairwise_map
abbrev kM:= @_root_.List.perm_append_comm
abbrev kN:= @_root_.Array.perm_iff_toList_perm
abbrev kO:= @_root_.PySem.F.plainAttrs_list
abbrev gW:= @_root_.PySem.plainId_quiet
abbrev ri:= @_root_.PySem.F.plain_extend_loop
abbrev vo:= @_root_.PySem.F.plain_list_iadd
abbrev fj:= @_root_.Nat.pow_le_pow_right
abbrev kP:= @_root_.PySem.putSet_of
abbrev vq:= @_root_.List.reverse_append
abbrev ow:= @_root_.Array.size_append
abbrev cG:= @_root_.PySem.Heap.size_push
abbrev oz:= @_root_.PyProof.Rows.size_push'
abbrev bH:= @_root_.List.size_toArray
abbrev oA:= @_root_.PySem.Heap.size_update
abbrev fk:= @_root_.List.take_append_drop
abbrev iI:= @_root_.List.take_of_length_le
abbrev gX:= @_root_.List.take_sublist
abbrev eT:= @_root_.Array.toList_append
abbrev rm:= @_root_.Array.toList_extract
abbrev kQ:= @_root_.Array.toList_push
abbrev vt:= @_root_.Array.toList_reverse
abbrev oB:= @_root_.Int.toNat_natCast
abbrev l7:= @_root_.PySem.typeLookup_type
abbrev zG:= @_root_.PySem.weight_type_call_type
abbrev jl:= @_root_.PySem.wpAny_Call_Name_kw
abbrev jU:= @_root_.PySem.wpAny_attempt
abbrev af:= @_root_.PySem.wpAny_bind
abbrev oE:= @_root_.PySem.wpAny_call
abbrev l8:= @_root_.PySem.wpAny_callSpecial?_slot
abbrev gY:= @_root_.PySem.wpAny_call_entry
abbrev rq:= @_root_.PySem.wpAny_execs_nil
abbrev iJ:= @_root_.PySem.wpAny_field
abbrev vz:= @_root_.PySem.wpAny_fieldsOf
abbrev dR:= @_root_.PySem.wpAny_holding
abbrev vA:= @_root_.PySem.wpAny_isInstance
abbrev vB:= @_root_.PySem.wpAny_loadPart'
abbrev gD:= @_root_.PySem.wpAny_mono
abbrev vD:= @_root_.PySem.wpAny_newList
abbrev fm:= @_root_.PySem.wpAny_newObj_type
abbrev zI:= @_root_.PySem.wpAny_nextOf_list_item
abbrev l_:= @_root_.PySem.wpAny_passesOwn
abbrev ak:= @_root_.PySem.wpAny_pure
abbrev mh:= @_root_.PySem.wpAny_pyIter_list
abbrev vE:= @_root_.PySem.wpAny_pyIter_tuple
abbrev fW:= @_root_.PySem.wpAny_rule
abbrev rz:= @_root_.PySem.wpAny_runValue
abbrev rA:= @_root_.PySem.wpAny_seqItems
abbrev rB:= @_root_.PySem.wpAny_setEntries_of
abbrev oG:= @_root_.PySem.wpAny_setField
abbrev mj:= @_root_.PySem.wpAny_setState_of
abbrev vF:= @_root_.PySem.wpAny_standAt
abbrev vG:= @_root_.PySem.wpAny_storeSet_of
abbrev mq:= @_root_.PySem.wpAny_truthy_bool
abbrev kR:= @_root_.PySem.wpAny_typeOf
abbrev rC:= @_root_.PySem.wpAny_updateSeq
abbrev aD:= @_root_.PyProof.Rows.wpS_bind
abbrev fJ:= @_root_.PyProof.Rows.wpS_forRange
abbrev jm:= @_root_.PyProof.Rows.wpS_get
abbrev gE:= @_root_.PyProof.Rows.wpS_modify
abbrev aI:= @_root_.PyProof.Rows.wpS_pure
abbrev cH:= @_root_.Nat.zero_le
section
open PySem
abbrev au:=Str->Option Value
abbrev aA:=Value->Shared->Prop
abbrev aQ:=List (Addr×Obj)
end
section
open PySem PySem.Spec PyProof.Rows
namespace L2
abbrev Key:=Sum Int Str
def lF:Key->Value->Bool
 |.inl k,v=>Value.isInt k v
 |.inr x,v=>Value.isStrOf x v
def ME(w:World):Key->Int
 |.inl k=>hashInt k
 |.inr x=>hashStr w x
theorem i9:∀{k:Key} {v:Value},lF k v=true->(∃i t,k=Sum.inl i/\v=Value.int i t)\/(∃x t,k=Sum.inr x/\v=Value.str x t)
 |.inl i,v,h=>by
  obtain⟨t,e⟩:=Value.isInt_shape (k:=i) (v:=v) h;exact .inl ⟨i,t,rfl,e⟩
 |.inr x,v,h=>by
  obtain⟨t,e⟩:=Value.isStrOf_shape (x:=x) (v:=v) h;exact .inr ⟨x,t,rfl,e⟩
theorem MF(i:Int)(t:Tok):lF (.inl i) (.int i t)=true:=by simp[lF,Value.isInt]
theorem MK(x:Str)(t:Tok):lF (.inr x) (.str x t)=true:=by simp[lF,Value.isStrOf]
theorem ML(a b:Int):decide ((Sum.inl a:Key)=Sum.inl b)=(a==b):=by
 by_cases e:a=b
 .subst e;simp
 .have h:¬(Sum.inl a:Key)=Sum.inl b:=λq=>e (Sum.inl.inj q)
  rw[eG h];exact(vQ.mpr e).symm
theorem MP(a b:Str):decide ((Sum.inr a:Key)=Sum.inr b)=decide (a=b):=by
 by_cases e:a=b
 .subst e;simp
 .have h:¬(Sum.inr a:Key)=Sum.inr b:=λq=>e (Sum.inr.inj q)
  rw[eG h,eG e]
theorem MM(a:Int)(b:Str):decide ((Sum.inl a:Key)=Sum.inr b)=false:=eG (λq=>nomatch q)
theorem MO(a:Str)(b:Int):decide ((Sum.inr a:Key)=Sum.inl b)=false:=eG (λq=>nomatch q)
def dU(prog:Program)(w:World):PySem.KeyKind prog w Key where
 is:=lF
 hash:=ME w
 inj:=λv a b ha hb=>by
  rcases i9 ha with⟨i,t,rfl,rfl⟩|⟨x,t,rfl,rfl⟩
  .rcases i9 hb with⟨j,u,rfl,e⟩|⟨y,u,rfl,e⟩
   .injection e with e1 _;rw[e1]
   .exact nomatch e
  .rcases i9 hb with⟨j,u,rfl,e⟩|⟨y,u,rfl,e⟩
   .exact nomatch e
   .injection e with e1 _;rw[e1]
 byValue:=λk v h=>by
  rcases i9 h with⟨i,t,rfl,rfl⟩|⟨x,t,rfl,rfl⟩<;>rfl
 pyHash:=λhv h=>by
  rcases i9 hv with⟨i,t,rfl,rfl⟩|⟨x,t,rfl,rfl⟩
  .exact wpAny_pyHash_int h
  .exact wpAny_pyHash_str h
 eqBool:=λhu hv h=>by
  rcases i9 hu with⟨i,t,rfl,rfl⟩|⟨x,t,rfl,rfl⟩
  .rcases i9 hv with⟨j,u,rfl,rfl⟩|⟨y,u,rfl,rfl⟩
   .rw[ML] at h;exact wpAny_eqBool_int h
   .rw[MM] at h;exact SeqAt.EqAt.int_str i t y u _ _ _ _ h
  .rcases i9 hv with⟨j,u,rfl,rfl⟩|⟨y,u,rfl,rfl⟩
   .rw[MO] at h;exact SeqAt.EqAt.str_int x t j u _ _ _ _ h
   .rw[MP] at h;exact wpAny_eqBool_str h
 «strs»:=λk x t v h=>by
  rcases i9 h with⟨i,u,rfl,e⟩|⟨y,u,rfl,e⟩
  .exact nomatch e
  .injection e with e1 _
   subst e1
   cases v<;>rfl
theorem NK(prog:Program)(w:World)(i:Int)(t:Tok):(dU prog w).is (.inl i) (.int i t)=true:=MF i t
theorem NL(prog:Program)(w:World)(x:Str)(t:Tok):(dU prog w).is (.inr x) (.str x t)=true:=MK x t
inductive V where
 |aB|bl (b:Bool)|int (i:Int)|str (x:Str)|ie (b:Array UInt8)|ni (b:UInt64)|ref (a:Addr)|ty (n:String)
 deriving DecidableEq
def RelV:V->Value->Prop
 |.aB,u=>u=Value.none
 |.bl b,u=>u=Value.bool b
 |.int i,u=>∃t,u=Value.int i t
 |.str x,u=>∃t,u=Value.str x t
 |.ie b,u=>∃t,u=Value.bytes b t
 |.ni b,u=>∃t,u=Value.float b t
 |.ref a,u=>u=Value.ref a
 |.ty n,u=>u=Value.type n
abbrev Vals:List V->List Value->Prop:=Paired RelV
theorem Vals.length{xs:List V}{a:List Value}(r:Vals xs a):xs.length=a.length:=Paired.length r
theorem Vals.get:∀{xs:List V} {a:List Value} {i:Nat} {x:V},Vals xs a->xs[i]?=some x->∃u,a[i]?=some u/\RelV x u
 |_,_,_,_,.nil,e=>by simp at e
 |_,_,0,_,.cons r _,e=>by simp at e;subst e;exact⟨_,rfl,r⟩
 |_,_,i+1,x,.cons _ t,e=>by
  obtain⟨u,h1,h2⟩:=Vals.get (i:=i) (x:=x) t (by simpa using e);exact⟨u,by simpa using h1,h2⟩
theorem Vals.append:∀{xs ys:List V} {a ws:List Value},Vals xs a->Vals ys ws->Vals (xs++ys) (a++ws)
 |_,_,_,_,.nil,s=>s
 |_,_,_,_,.cons r t,s=>.cons r (Vals.append t s)
theorem Vals.take:∀{xs:List V} {a:List Value} (n:Nat),Vals xs a->Vals (xs.take n) (a.take n)
 |_,_,0,_=>.nil
 |_,_,_+1,.nil=>.nil
 |_,_,n+1,.cons r t=>.cons r (Vals.take n t)
theorem Vals.drop:∀{xs:List V} {a:List Value} (n:Nat),Vals xs a->Vals (xs.drop n) (a.drop n)
 |_,_,0,r=>r
 |_,_,_+1,.nil=>.nil
 |_,_,n+1,.cons _ t=>Vals.drop n t
def g8:Option V->Option Value->Prop
 |some v,some u=>RelV v u
 |none,none=>True
 |_,_=>False
def KV{κ:Type}:List (κ×V)->List (κ×Value)->Prop:=Paired λ(p:κ×V) (q:κ×Value)=>p.1=q.1/\RelV p.2 q.2
def kV:Key->V
 |.inl i=>.int i
 |.inr x=>.str x
def jX(h:Heap)(a:Addr)(items:Array Value):Prop:=∃n,h.get? a=some {cls:=.type "tuple",data:=.seq items n}
theorem jX.is{h:Heap}{a:Addr}{items:Array Value}(x:jX h a items):IsTup h a items:=let ⟨n,e⟩:=x;⟨_,e,rfl,n,rfl⟩
theorem jX.new(h:Heap)(items:Array Value):jX (h.push {cls:=.type "tuple",data:=.seq items}) h.objs.size items:=⟨0,bI _ rfl⟩
inductive HO where
 |lst (xs:List V)
 |tup (xs:List V)
 |dK (kvs:List (Key×V))|dT (kvs:List (List Key×V))
 |set (S:Int->Bool) (n:Nat)
 |ins (C dx:Addr) (fs:List (Str×V))
 |own (x:Addr)
 |xd (fs:List (Str×V))
 |met (f x:Addr)
 |jJ (lo hi:Int)
 |cT (o:Obj) (u:HO)
 |gS (ps:Array Value)
 |ext (φ:Heap->Prop)
abbrev Hp:=Addr->Option HO
def upd(H:Hp)(a:Addr)(o:HO):Hp:=λb=>if b=a then some o else H b
theorem f7{H:Hp}{a:Addr}{o:HO}:upd H a o a=some o:=by unfold upd;rw[aj rfl]
theorem bh{H:Hp}{a b:Addr}{o:HO}(h:b≠a):upd H a o b=H b:=by unfold upd;rw[ai h]
theorem NV{H:Hp}{a b:Addr}{o u:HO}(h:H a=some o)(h':H b=some u)(d:o≠u):a≠b:=by
 intro e;subst e;rw[h] at h';exact d (Option.some.inj h')
theorem dc{H:Hp}{a b:Addr}{o:HO}(h:H a=some o)(h':H b=none):a≠b:=by
 intro e;subst e;rw[h] at h';cases h'
section
variable(P:Program)(w:World)
def bP(H:Hp)(h:Heap)(a:Addr):HO->Prop
 | .lst xs=>xs.length<=sizeLine/\∃(its:List Value) (n:Nat),Vals xs its/\h.get? a=some {cls:= .type "list",data:= .seq its.toArray n}
 | .tup xs=>xs.length<=sizeLine/\∃its:List Value,Vals xs its/\jX h a its.toArray
 | .dK kvs=>kvs.length<=sizeLine/\(a==sysModules)=false/\∃vs,KV kvs vs/\h.DictOf (dU P w) a vs
 | .dT kvs=>kvs.length<=sizeLine/\(a==sysModules)=false/\∃xs:List (List Key×Addr×Value),
  Paired (λ(p:List Key×V) (q:List Key×Addr×Value)=>p.1=q.1/\H q.2.1=some (.tup (p.1.map kV))/\RelV p.2 q.2.2) kvs xs/\
  ∃o es ep,h.get? a=some o/\o.ExactDict/\o.data= .dict es ep/\es.toList=xs.map (entryOfKey (tupleKind (dU P w)))/\(xs.map (·.1)).Nodup
 | .set S n=>h.SetOf (intKind P w) a S n
 | .ins C dx fs=>H dx=some (.own a)/\fs.length<=1000/\dx≠a/\h.get? a=some (instObj C dx)/\
  ∃mA,h.Ns1 dx mA/\(∀f,g8 (fs.lookup f) (mA f))/\PySem.Within mA (fs.map (·.1))
 | .own _=>∃o,h.get? a=some o
 | .xd fs=>∃mA,h.Ns1 a mA/\∀f,g8 (fs.lookup f) (mA f)
 | .jJ lo hi=>∃t u v,h.get? a=some {cls:= .type "range",data:= .fields #[.int lo t,.int hi u,.int 1 v]}
 | .cT o u=>h.get? a=some o/\bP H h a u
 | .gS ps=>h.get? a=some {cls:= .none,data:= .fields ps}
 | .met f x=>h.get? a=some (methodObj (.ref f) (.ref x))
 | .ext φ=>φ h/\(∃o,h.get? a=some o)/\∀h1 h2:Heap,φ h1->(∀o,h1.get? a=some o->h2.get? a=some o)->φ h2
def bR(H:Hp)(h:Heap):Prop:=∀a o,H a=some o->bP P w H h a o
end
section
variable{P:Program}{w:World}{H H':Hp}{h h':Heap}{a:Addr}{o:HO}
theorem bP.lt(x:bP P w H h a o):a<h.objs.size:=by
 cases o with
 |lst xs=>obtain⟨_,_,_,_,e⟩:=x;exact aN e
 |tup xs=>obtain⟨_,_,_,p⟩:=x;exact p.is.lt
 |dK kvs=>obtain⟨_,_,_,_,o,_,_,e,_⟩:=x;exact aN e
 |dT kvs=>obtain⟨_,_,_,_,o,_,_,e,_⟩:=x;exact aN e
 |set S n=>obtain⟨o,_,_,_,e,_⟩:=x;exact aN e
 |ins C dx fs=>obtain⟨_,_,_,e,_⟩:=x;exact aN e
 |own y=>obtain⟨_,e⟩:=x;exact aN e
 |xd fs=>obtain⟨_,⟨_,_,_,e,_⟩,_⟩:=x;exact aN e
 |jJ lo hi=>obtain⟨_,_,_,e⟩:=x;exact aN e
 |cT b u=>obtain⟨e,_⟩:=x;exact aN e
 |gS ps=>exact aN (show h.get? a=some _ from x)
 |met f y=>exact aN (show h.get? a=some _ from x)
 |ext c=>obtain⟨_,⟨_,e⟩,_⟩:=x;exact aN e
theorem Paired.yi{α β:Type}{F G:α->β->Prop}:∀{c:List α} {d:List β},Paired F c d->(∀a b,F a b->G a b)->Paired G c d
 |_,_,.nil,_=>.nil
 |_,_,.cons r t,f=>.cons (f _ _ r) (Paired.yi t f)
theorem bP.stay(x:bP P w H h a o)(k:∀b u,(b=a\/H b=some (.own a))->h.get? b=some u->h'.get? b=some u)
  (l:∀b,H b=some (.own a)->H' b=some (.own a))(m:∀b xs,H b=some (.tup xs)->H' b=some (.tup xs)):bP P w H' h' a o:=by
 induction o with
 |lst xs=>obtain⟨z,its,n,r,e⟩:=x;exact⟨z,its,n,r,k _ _ (.inl rfl) e⟩
 |tup xs=>obtain⟨z,its,r,n,e⟩:=x;exact⟨z,its,r,n,k _ _ (.inl rfl) e⟩
 |dK kvs=>obtain⟨z,y,vs,r,g,es,ep,e,c⟩:=x;exact⟨z,y,vs,r,g,es,ep,k _ _ (.inl rfl) e,c⟩
 |dT kvs=>
  obtain⟨z,y,xs,r,g,es,ep,e,c⟩:=x;exact⟨z,y,xs,Paired.yi r λp q z=>⟨z.1,m _ _ z.2.1,z.2.2⟩,g,es,ep,k _ _ (.inl rfl) e,c⟩
 |set S n=>obtain⟨g,es,ep,t,e,c⟩:=x;exact⟨g,es,ep,t,k _ _ (.inl rfl) e,c⟩
 |ins C dx fs=>
  obtain⟨d,z,ne,e,i,⟨j,es,ep,s,c⟩,r⟩:=x;exact⟨l _ d,z,ne,k _ _ (.inl rfl) e,i,⟨j,es,ep,k _ _ (.inr d) s,c⟩,r⟩
 |own y=>obtain⟨g,e⟩:=x;exact⟨g,k _ _ (.inl rfl) e⟩
 |xd fs=>obtain⟨i,⟨j,es,ep,e,c⟩,r⟩:=x;exact⟨i,⟨j,es,ep,k _ _ (.inl rfl) e,c⟩,r⟩
 |jJ lo hi=>obtain⟨t,u,v,e⟩:=x;exact⟨t,u,v,k _ _ (.inl rfl) e⟩
 |cT g u A=>obtain⟨e,q⟩:=x;exact⟨k _ _ (.inl rfl) e,A q⟩
 |gS ps=>
  have e:h.get? a=some {cls:=.none,data:=.fields ps}:=x;show h'.get? a=some {cls:=.none,data:=.fields ps};exact k a _ (.inl rfl) e
 |met f y=>
  have e:h.get? a=some (methodObj (.ref f) (.ref y)):=x;show h'.get? a=some (methodObj (.ref f) (.ref y));exact k a _ (.inl rfl) e
 |ext B=>obtain⟨p,⟨o,e⟩,st⟩:=x;exact⟨st _ _ p λo q=>k _ _ (.inl rfl) q,⟨o,k _ _ (.inl rfl) e⟩,st⟩
theorem bR.lt(x:bR P w H h)(e:H a=some o):a<h.objs.size:=(x a o e).lt
theorem bR.fresh(x:bR P w H h)(e:h.objs.size<=a):H a=none:=by
 cases q:H a with
 |none=>rfl
 |some u=>exact absurd (b8 (x.lt q) e) (dZ _)
theorem bR.kept(x:bR P w H h)(k:∀b u,h.get? b=some u->h'.get? b=some u):bR P w H h':=λa o e=>
 (x a o e).stay (λb u _ q=>k b u q) (λ_ q=>q) λ_ _ q=>q
theorem bR.laid(x:bR P w H h)(k:∀b u,h.get? b=some u->h'.get? b=some u)(f:h.objs.size<=a)(new:bP P w (upd H a o) h' a o):bR P w (upd H a o) h':=λb u e=>by
 have hn:=x.fresh f;by_cases d:b=a
 .subst d;rw[f7] at e;cases e;exact new
 .rw[bh d] at e
  exact(x b u e).stay (λc v _ q=>k c v q) (λc q=>by rw[bh (dc q hn)];exact q) λc xs q=>by rw[bh (dc q hn)];exact q
end
def Rd(H:Hp)(a:Addr)(u:HO):Prop:=H a=some u\/∃o,H a=some (.cT o u)
theorem Rd.ok{P:Program}{w:World}{H:Hp}{h:Heap}{a:Addr}{u:HO}(r:Rd H a u)(x:bR P w H h):bP P w H h a u:=by
 rcases r with r|⟨o,r⟩
 .exact x a u r
 .obtain⟨_,q⟩:=x a _ r
  exact q
def o7:Option HO->Prop
 |some (.lst _)=>True
 |some (.dK _)=>True
 |some (.dT _)=>True
 |some (.set _ _)=>True
 |some (.ins _ _ _)=>True
 |some (.ext _)=>True
 |_=>False
section
variable{P:Program}{w:World}{H:Hp}{h h':Heap}{x e:Addr}{o':HO}
theorem bR.write(ok:bR P w H h)(g:o7 (H x))(l:e=x\/H e=some (.own x))(k:∀b u,b≠e->h.get? b=some u->h'.get? b=some u)(j:∃u,h'.get? e=some u)
  (new:bP P w (upd H x o') h' x o'):bR P w (upd H x o') h':=λb u q=>by
 have d:∀c y,H c=some (.own y)->c≠x:=λc y r z=>by subst z;rw[r] at g;exact g
 have f:∀c xs,H c=some (.tup xs)->c≠x:=λc xs r z=>by subst z;rw[r] at g;exact g
 by_cases i:b=x
 .subst i;rw[f7] at q;cases q;exact new
 .rw[bh i] at q
  by_cases a:b=e
  .have m:H b=some (.own x):=by
    rcases l with z|z
    .exact absurd (a.trans z) i
    .rw[a];exact z
   rw[q] at m;cases m;obtain⟨v,n⟩:=j;exact⟨v,by rw[a];exact n⟩
  .refine(ok b u q).stay (λc v hc r=>k c v ?_ r) (λc r=>by rw[bh (d c b r)];exact r) λc xs r=>by rw[bh (f c xs r)];exact r
   rcases hc with rfl|hc
   .exact a
   .rintro rfl
    rcases l with z|z
    .exact d c b hc z
    .rw[hc] at z;cases z;exact i rfl
end
structure Un(fs ex:List Addr)(H H':Hp)(h h':Heap):Prop where
 keep:∀b o,h.get? b=some o->H b=none->b∉fs->b∉ex->h'.get? b=some o
 slot:∀b o,h.get? b=some o->H b=none->b∈fs->b∉ex->∃sl,h'.get? b=some {o with slots:=sl}
 free:∀b o,h.get? b=some o->H b=none->b∉ex->H' b=none
 there:∀b o,h.get? b=some o->b∉ex->∃o',h'.get? b=some o'
 tups:∀b xs,H b=some (.tup xs)->H' b=some (.tup xs)
 ek:∀b o u,H b=some (.cT o u)->H' b=some (.cT o u)
 eO:∀b ps,H b=some (.gS ps)->∃more,H' b=some (.gS (ps++more))
section
variable{fs fs' ex ex':List Addr}{H H1 H2:Hp}{h h1 h2 h':Heap}{a x e:Addr}{o:HO}
theorem Un.any(u:Un fs ex H H1 h h1){b:Addr}{a:Obj}(q:h.get? b=some a)(n:H b=none)(c:b∉ex):∃e,h1.get? b=some {a with slots:=e}:=by
 by_cases d:b∈fs
 .exact u.slot b a q n d c
 .exact⟨a.slots,u.keep b a q n d c⟩
theorem Un.kept(k:∀b u,h.get? b=some u->h'.get? b=some u):Un fs ex H H h h':=
 ⟨λb a q _ _ _=>k b a q,λb a q _ _ _=>⟨a.slots,k b a q⟩,λ_ _ _ n _=>n,λb a q _=>⟨a,k b a q⟩,λ_ _ q=>q,λ_ _ _ q=>q,λ_ ps q=>⟨#[],by rw[q];simp⟩⟩
theorem Un.refl:Un fs ex H H h h:=Un.kept λ_ _ q=>q
theorem Un.laid(k:∀b u,h.get? b=some u->h'.get? b=some u)(c:h.objs.size<=a)(hn:H a=none):Un fs ex H (upd H a o) h h' where
 keep:=λb u q _ _ _=>k b u q
 slot:=λb u q _ _ _=>⟨u.slots,k b u q⟩
 free:=λb u q n _=>by rw[bh (aY (b8 (aN q) c))];exact n
 there:=λb u q _=>⟨u,k b u q⟩
 tups:=λb xs q=>by rw[bh (dc q hn)];exact q
 ek:=λb u xs q=>by rw[bh (dc q hn)];exact q
 eO:=λb ps q=>⟨#[],by rw[bh (dc q hn),q];simp⟩
theorem Un.write(c:o7 (H x))(j:e=x\/H e=some (.own x))(k:∀b u,b≠e->h.get? b=some u->h'.get? b=some u)(d:∃u,h'.get? e=some u):Un fs ex H (upd H x o) h h':=by
 have g:∀b,H b=none->b≠x:=λb n z=>by subst z;rw[n] at c;exact c
 have i:∀b,H b=none->b≠e:=λb n z=>by
  subst z;rcases j with r|r
  .exact g b n r
  .rw[n] at r;cases r
 have f:∀b u,H b=some u->¬o7 (some u)->b≠x:=λb u q nm z=>by subst z;rw[q] at c;exact nm c
 refine⟨λb u q n _ _=>k b u (i b n) q,λb u q n _ _=>⟨u.slots,k b u (i b n) q⟩,λb u q n _=>by rw[bh (g b n)];exact n,λb u q _=>?_,
  λb xs q=>by rw[bh (f b _ q λz=>z)];exact q,λb u xs q=>by rw[bh (f b _ q λz=>z)];exact q,λb ps q=>⟨#[],by rw[bh (f b _ q λz=>z),q];simp⟩⟩
 by_cases a:b=e
 .subst a;exact d
 .exact⟨u,k b u a q⟩
end
def u0(h:Heap)(H:Hp):List Addr:=(range h.objs.size).filter λa=>(H a).isSome
def jC(h:Heap)(H:Hp):Heap:=hideAll h (u0 h H)
theorem LL(h:Heap)(H:Hp):(jC h H).objs.size=h.objs.size:=PySem.W.hideAll_size _ _
theorem LK{h:Heap}{H:Hp}{b:Addr}{o:Obj}(e:h.get? b=some o)(n:H b=none):(jC h H).get? b=some o:=
 hideAll_get _ e λa=>by
  have q:(H b).isSome=true:=(List.mem_filter.mp a).2;rw[n] at q;simp at q
theorem Oa{h:Heap}{H:Hp}{b:Addr}{o:Obj}(e:(jC h H).get? b=some o):h.get? b=some o/\H b=none:=by
 have a:h.get? b=some o:=of_hideAll (u0 h H) e;refine⟨a,?_⟩;cases q:H b with
 |none=>rfl
 |some x=>
  have c:b∈u0 h H:=List.mem_filter.mpr ⟨mem_range.mpr (aN a),by simp[q]⟩;have z:(jC h H).get? b=none:=PySem.W.hideAll_none (u0 h H) c;rw[z] at e;cases e
structure Mod(K:Frag)(mg:au)(base:Heap):Prop where
 nE:K.In base
 glob:base.Ns mainGlobals mg
 blt:∃mb,base.Ns builtinsNs mb/\∀x:Str,x≠"__name__"->mb x=bootBuiltins x
 nolimit:base.NoLimit
structure Cx where
 prog:Program
 w:World
 K:Frag
 mg:au
 base:Heap
 A:Around
 N:List Str
 s₀:Shared
 H₀:Hp
 env:Env
 outer:List Env
 stack:List Env
 ex:List Addr
 fn:Str->Bool
 calm:Bool
 pn:aQ
 xe:aA
def frs(l:List Env):List Addr:=l.filterMap (·.frame)
abbrev Cx.fs(X:Cx):List Addr:=frs X.outer
def pe(sc:Scope)(x:Str):Prop:=sc.names.lookup x=some .local\/sc.names.lookup x=some .cell\/sc.names.lookup x=some .free
def Loc(sc:Scope)(x:Str):Prop:=sc.names.lookup x=some .local\/sc.names.lookup x=some .cell
def Look(env:Env)(h:Heap)(m:au)(x:Str)(u:Value):Prop:=
 (env.kindOf x=some .local/\m x=some u)\/((env.kindOf x=some .cell\/env.kindOf x=some .free)/\∃c,env.cells.lookup x=some c/\h.IsCell c (some u))
structure Cx.Ok(X:Cx):Prop where
 mod:Mod X.K X.mg X.base
 kind:X.env.scope.kind= .function
 glob:X.env.globals=mainGlobals
 blt:X.env.builtins=builtinsNs
 above:X.s₀.heap.objs.size<=X.env.locals
 inj:∀x y c,X.env.cells.lookup x=some c->X.env.cells.lookup y=some c->x=y
 has:∀x,(X.env.kindOf x=some .cell\/X.env.kindOf x=some .free)->∃c,X.env.cells.lookup x=some c
 lq:∀x c,X.fn x=true->X.env.cells.lookup x=some c->X.s₀.heap.objs.size<=c
 hd:X.calm=true->X.A.handled=none
 frames:X.A.frames=some X.stack
 stk:X.stack=X.outer\/(X.stack=X.env::X.outer/\X.env.frame=some X.env.locals)
 sO:∀b∈X.ex,b≠X.env.locals/\∀x c,X.env.cells.lookup x=some c->c≠b
 bs:∀b o,X.base.get? b=some o->X.s₀.heap.get? b=some o/\X.H₀ b=none
 ic:X.base.objs.size<=X.s₀.heap.objs.size
 lN:∀b o,X.base.get? b=some o->b∉X.ex
 nc:∀b∈X.ex,b∉X.fs
 fZ:X.s₀.heap.FunFrames X.base X.outer
 i8:∀b∈X.fs,X.H₀ b=none
structure Inv(X:Cx)(pins:aQ)(σ:List (Option V))(H:Hp)(s:Shared):Prop where
 ok:X.Ok
 os:s.os=X.s₀.os
 bare:AllBare s.gens
 base:Un X.fs X.ex X.H₀ H X.s₀.heap s.heap
 loc:∃m,s.heap.Ns X.env.locals m/\∀(i:Nat) (x:Str) (v:V),X.N[i]? =some x->σ[i]? =some (some v)->pe X.env.scope x->∃u,RelV v u/\Look X.env s.heap m x u
 cell:∀x c,X.env.cells.lookup x=some c->∃v,s.heap.IsCell c v
 free:H X.env.locals=none
 eY:∀x c,X.env.cells.lookup x=some c->H c=none
 pin:∀p∈X.pn++pins,s.heap.get? p.1=some p.2/\H p.1=none/\p.1≠X.env.locals/\p.1∉X.fs/\∀v,p.2.data≠ .cell v
 hok:bR X.prog X.w H s.heap
 len:σ.length=X.N.length
section
variable{X:Cx}{pins:aQ}{σ:List (Option V)}{H H':Hp}{s:Shared}{h':Heap}
theorem Cx.Ok.lO(ok:X.Ok){b:Addr}{o:Obj}(e:X.base.get? b=some o):b∉X.fs:=λa=>by
 have:=(ok.fZ.mem a).1;rw[e] at this;cases this
theorem Inv.bs(I:Inv X pins σ H s):∀b o,X.base.get? b=some o->s.heap.get? b=some o/\H b=none:=λb o e=>
 ⟨I.base.keep b o (I.ok.bs b o e).1 (I.ok.bs b o e).2 (I.ok.lO e) (I.ok.lN b o e),I.base.free b o (I.ok.bs b o e).1 (I.ok.bs b o e).2 (I.ok.lN b o e)⟩
theorem Inv.bk(I:Inv X pins σ H s):∀b o,X.base.get? b=some o->s.heap.get? b=some o:=λb o e=>(I.bs b o e).1
theorem Inv.mod(I:Inv X pins σ H s):Mod X.K X.mg X.base:=I.ok.mod
theorem Inv.dB(I:Inv X pins σ H s):X.K.In s.heap:=I.ok.mod.nE.keeps I.bk
theorem Inv.lt(I:Inv X pins σ H s):X.env.locals<s.heap.objs.size:=let ⟨_,hn,_⟩:=I.loc;hn.lt
theorem Inv.sz(I:Inv X pins σ H s):X.s₀.heap.objs.size<=s.heap.objs.size:=cY I.ok.above (ji I.lt)
theorem Inv.N1(I:Inv X pins σ H s){a:Addr}(h:s.heap.objs.size<=a):a∉X.fs:=λb=>by
 obtain⟨_,o,c,_⟩:=I.ok.fZ.mem b;exact absurd (b8 (aN c) (cY I.sz h)) (dZ _)
theorem Inv.iZ(I:Inv X pins σ H s):∀x c,X.env.cells.lookup x=some c->c≠X.env.locals:=λx c e z=>by
 obtain⟨v,o,d,hd⟩:=I.cell x c e;obtain⟨m,⟨o',es,ep,a,b,_⟩,_⟩:=I.loc;rw[z,a] at d;cases d;rw[b] at hd;cases hd
theorem Inv.fZ(I:Inv X pins σ H s):s.heap.FunFrames X.base X.outer:=by
 have all:∀(l:List Env),(∀b∈frs l,b∈X.fs)->X.s₀.heap.FunFrames X.base l->s.heap.FunFrames X.base l:=by
  intro l;induction l with
  |nil=>intro _ _;trivial
  |cons env r g=>
   intro f h;obtain⟨hk,⟨L,o,a,hn,i,hd⟩,j⟩:=h;have c:L∈X.fs:=f L (by unfold frs;rw[zP,a];exact cB);obtain⟨k,e⟩:=I.base.slot L o i (I.ok.i8 L c) c λz=>I.ok.nc L z c;exact⟨hk,⟨L,_,a,hn,e,hd⟩,g (λb d=>f b (by unfold frs;rw[zP,a];exact b9 _ d)) j⟩
 exact all X.outer (λ_ d=>d) I.ok.fZ
theorem Inv.stack(I:Inv X pins σ H s):s.heap.FunFrames X.base X.stack:=by
 rcases I.ok.stk with e|⟨e,a⟩
 .rw[e];exact I.fZ
 .rw[e]
  obtain⟨m,hn,_⟩:=I.loc;refine .cons (by rw[I.ok.kind];decide) a hn ?_ I.fZ;exact Heap.get?_none_of_le (cY I.ok.ic I.ok.above)
theorem Inv.nV(I:Inv X pins σ H s):∀b∈frs X.stack,b∈X.env.locals::X.fs:=λb a=>by
 rcases I.ok.stk with e|⟨e,c⟩
 .rw[e] at a;exact b9 _ a
 .rw[e] at a
  unfold frs at a;rw[zP,c] at a;exact a
theorem Inv.zb(I:Inv X pins σ H s):∀b∈frs X.stack,H b=none:=λb hb=>by
 rcases aX.mp (I.nV b hb) with e|hb
 .rw[e];exact I.free
 .obtain⟨_,o,a,_⟩:=I.ok.fZ.mem hb
  exact I.base.free b o a (I.ok.i8 b hb) λz=>I.ok.nc b z hb
theorem Inv.step{g':Array GenState}{t':Nat}{d':Drawn}{ch:List Addr}(I:Inv X pins σ H s)
  (f:∀b∈ch,(b∈X.ex\/X.s₀.heap.objs.size<=b)/\b≠X.env.locals/\(∀x c,X.env.cells.lookup x=some c->c≠b)/\∀p∈X.pn++pins,p.1≠b)
  (keep:∀b o,b≠X.env.locals->b∉X.fs->b∉ch->s.heap.get? b=some o->H b=none->h'.get? b=some o)
  (slot:∀b o,b≠X.env.locals->b∈X.fs->b∉ch->s.heap.get? b=some o->H b=none->∃D,h'.get? b=some {o with slots:=D})(free:∀b o,b∉ch->s.heap.get? b=some o->H b=none->H' b=none)
  (there:∀b o,b∉ch->s.heap.get? b=some o->∃o',h'.get? b=some o')
  (tups:∀b xs,H b=some (.tup xs)->H' b=some (.tup xs))(ek:∀b o u,H b=some (.cT o u)->H' b=some (.cT o u))(eO:∀b ps,H b=some (.gS ps)->∃A,H' b=some (.gS (ps++A)))
  (ns:∀m,s.heap.Ns X.env.locals m->h'.Ns X.env.locals m)(hok:bR X.prog X.w H' h')(J:AllBare g'):
  Inv X pins σ H' {s with heap:=h',gens:=g',drawn:=d',toks:=t'}:=by
 have B:∀b o,X.s₀.heap.get? b=some o->b≠X.env.locals:=λb o e=>aY (b8 (aN e) I.ok.above)
 have h:∀b o,X.s₀.heap.get? b=some o->b∉X.ex->b∉ch:=λb o e a t=>by
  rcases (f b t).1 with z|z
  .exact a z
  .exact absurd (b8 (aN e) z) (dZ _)
 have cellK:∀x c,X.env.cells.lookup x=some c->∀v,s.heap.IsCell c v->h'.IsCell c v:=λx c e v ⟨o,y,hd⟩=>by
  have g:c∉ch:=λz=>(f c z).2.2.1 x c e rfl
  by_cases hc:c∈X.fs
  .obtain⟨D,q⟩:=slot c o (I.iZ x c e) hc g y (I.eY x c e)
   exact⟨_,q,hd⟩
  .exact⟨o,keep c o (I.iZ x c e) hc g y (I.eY x c e),hd⟩
 refine⟨I.ok,I.os,J,⟨λb o e n t a=> ?_,λb o e n t a=> ?_,λb o e n a=> ?_,λb o e a=> ?_,λb xs e=>tups b xs (I.base.tups b xs e),λb o xs e=>ek b o xs (I.base.ek b o xs e),λb ps e=> ?_⟩,?_,λx c e=> ?_,?_,λx c e=> ?_,λp F=> ?_,hok,I.len⟩
 .exact keep b o (B b o e) t (h b o e a) (I.base.keep b o e n t a) (I.base.free b o e n a)
 .obtain⟨D,j⟩:=I.base.slot b o e n t a
  obtain⟨E,C⟩:=slot b _ (B b o e) t (h b o e a) j (I.base.free b o e n a)
  exact⟨E,C⟩
 .obtain⟨o',j⟩:=I.base.there b o e a
  exact free b o' (h b o e a) j (I.base.free b o e n a)
 .obtain⟨o',j⟩:=I.base.there b o e a
  exact there b o' (h b o e a) j
 .obtain⟨K,j⟩:=I.base.eO b ps e
  obtain⟨L,C⟩:=eO b _ j
  exact⟨K++L,by rw[C,Array.append_assoc]⟩
 .obtain⟨m,hn,M⟩:=I.loc
  refine⟨m,ns m hn,λi x v j C N=> ?_⟩
  obtain⟨u,r,l⟩:=M i x v j C N
  refine⟨u,r,?_⟩
  rcases l with l|⟨k,c,e,z⟩
  .exact .inl l
  .exact .inr ⟨k,c,e,cellK x c e _ z⟩
 .obtain⟨v,z⟩:=I.cell x c e
  exact⟨v,cellK x c e v z⟩
 .obtain⟨m,⟨o,_,_,y,_⟩,_⟩:=I.loc
  exact free _ o (λz=>(f _ z).2.1 rfl) y I.free
 .obtain⟨v,o,y,hd⟩:=I.cell x c e
  exact free c o (λz=>(f c z).2.2.1 x c e rfl) y (I.eY x c e)
 .obtain⟨e,n,ne,G,d⟩:=I.pin p F
  have g:p.1∉ch:=λz=>(f p.1 z).2.2.2 p F rfl
  exact⟨keep p.1 p.2 ne G g e n,free p.1 p.2 g e n,ne,G,d⟩
theorem Inv.un{t':Nat}(I:Inv X pins σ H s)(u:Un X.fs [] H H' s.heap h')(hok:bR X.prog X.w H' h'):Inv X pins σ H' {s with heap:=h',toks:=t'}:=by
 obtain⟨m,⟨o,es,ep,g,r⟩,_⟩:=id I.loc;obtain⟨j,h⟩:=u.any g I.free (by simp);exact I.step (g':=s.gens) (d':=s.drawn) (ch:=[]) (λ_ z=>nomatch z) (λb o _ c _ e n=>u.keep b o e n c (by simp)) (λb o _ c _ e n=>u.slot b o e n c (by simp)) (λb o _ e n=>u.free b o e n (by simp)) (λb o _ e=>u.there b o e (by simp)) u.tups u.ek u.eO (λk i=>by
  obtain⟨o',d,f,a,r'⟩:=i;rw[g] at a;cases a;exact⟨_,d,f,h,r'⟩) hok I.bare
theorem Inv.call{g':Array GenState}{t':Nat}{d':Drawn}{ch:List Addr}(I:Inv X pins σ H s)(u:Un (frs X.stack) ch H H' s.heap h')(hok:bR X.prog X.w H' h')(j:AllBare g')
  (a:∀b∈ch,(b∈X.ex\/X.s₀.heap.objs.size<=b)/\b≠X.env.locals/\(∀x c,X.env.cells.lookup x=some c->c≠b)/\∀p∈X.pn++pins,p.1≠b):
  Inv X pins σ H' {s with heap:=h',gens:=g',drawn:=d',toks:=t'}:=by
 obtain⟨m,⟨o,es,ep,i,r⟩,_⟩:=id I.loc;obtain⟨q,f⟩:=u.any i I.free λz=>(a _ z).2.1 rfl;exact I.step (ch:=ch) a (λb o f k hc e n=>u.keep b o e n (λz=>(aX.mp (I.nV b z)).elim f k) hc) (λb o _ _ hc e n=>u.any e n hc) (λb o hc e n=>u.free b o e n hc) (λb o hc e=>u.there b o e hc) u.tups u.ek u.eO (λt l=>by
  obtain⟨o',g,h,d,r'⟩:=l;rw[i] at d;cases d;exact⟨_,g,h,f,r'⟩) hok j
theorem Inv.turned{t':Nat}{it:Addr}(I:Inv X pins σ H s)(k:∀b o,b≠it->s.heap.get? b=some o->h'.get? b=some o)(hn:H it=none)(d:it≠X.env.locals)
  (h1:it∈X.ex\/X.s₀.heap.objs.size<=it)(h2:∀x c,X.env.cells.lookup x=some c->c≠it)(h3:∀p∈X.pn++pins,p.1≠it):Inv X pins σ H {s with heap:=h',toks:=t'}:=by
 have a:∀b u,H b=some u->b≠it:=λb u e z=>by rw[z,hn] at e;cases e
 refine I.step (g':=s.gens) (d':=s.drawn) (ch:=[it]) (λb f=>?_) (λb o _ _ hc e _=>k b o (λz=>hc (by simp[z])) e) (λb o _ _ hc e _=>⟨o.slots,k b o (λz=>hc (by simp[z])) e⟩) (λ_ _ _ _ n=>n)
  (λb o hc e=>⟨o,k b o (λz=>hc (by simp[z])) e⟩) (λ_ _ e=>e) (λ_ _ _ e=>e) (λb ps e=>⟨#[],by rw[e];simp⟩) (λm g=>?_) (λb u e=>?_) I.bare
 .have e:b=it:=by simpa using f
  subst e;exact⟨h1,d,h2,h3⟩
 .obtain⟨o,es,ep,h,r⟩:=g
  exact⟨o,es,ep,k _ o (Ne.symm d) h,r⟩
 .refine(I.hok b u e).stay (λc v hc q=>k c v ?_ q) (λ_ q=>q) λ_ _ q=>q
  rcases hc with z|z
  .rw[z];exact a b u e
  .exact a c _ z
theorem Inv.tok(I:Inv X pins σ H s)(t:Nat):Inv X pins σ H {s with toks:=t}:=I.un (h':=s.heap) (t':=t) Un.refl I.hok
theorem Inv.kept{t':Nat}(I:Inv X pins σ H s)(k:∀b u,s.heap.get? b=some u->h'.get? b=some u):Inv X pins σ H {s with heap:=h',toks:=t'}:=I.un (Un.kept k) (I.hok.kept k)
theorem Inv.laid{a:Addr}{o:HO}{t':Nat}(I:Inv X pins σ H s)(k:∀b u,s.heap.get? b=some u->h'.get? b=some u)(c:s.heap.objs.size<=a)(new:bP X.prog X.w (upd H a o) h' a o):
 Inv X pins σ (upd H a o) {s with heap:=h',toks:=t'}:=I.un (Un.laid k c (I.hok.fresh c)) (I.hok.laid k c new)
theorem Inv.write{x e:Addr}{o:HO}{t':Nat}(I:Inv X pins σ H s)(c:o7 (H x))(d:e=x\/H e=some (.own x))(k:∀b u,b≠e->s.heap.get? b=some u->h'.get? b=some u)(a:∃u,h'.get? e=some u)
 (new:bP X.prog X.w (upd H x o) h' x o):Inv X pins σ (upd H x o) {s with heap:=h',toks:=t'}:=I.un (Un.write c d k a) (I.hok.write c d k a new)
theorem Inv.weak{σ':List (Option V)}(I:Inv X pins σ H s)(b:σ'.length=σ.length)(w:∀(i:Nat) v,σ'[i]?=some (some v)->σ[i]?=some (some v)):Inv X pins σ' H s:=
 ⟨I.ok,I.os,I.bare,I.base,let ⟨m,hn,a⟩:=I.loc;⟨m,hn,λi x v c d e=>a i x v c (w i v d) e⟩,I.cell,I.free,I.eY,I.pin,I.hok,b.trans I.len⟩
theorem Inv.D_{a:aQ}(I:Inv X pins σ H s)(h:∀p∈a,s.heap.get? p.1=some p.2/\H p.1=none/\p.1≠X.env.locals/\p.1∉X.fs/\∀v,p.2.data≠ .cell v):Inv X a σ H s:=
 ⟨I.ok,I.os,I.bare,I.base,I.loc,I.cell,I.free,I.eY,λp b=>(br.mp b).elim (λz=>I.pin p (jP _ z)) (h p),I.hok,I.len⟩
theorem DR{N:List Str}(c:N.Nodup){i j:Nat}{x:Str}(a:N[i]?=some x)(b:N[j]?=some x):i=j:=by
 obtain⟨h1,d⟩:=bL.mp a;obtain⟨h2,e⟩:=bL.mp b;exact(List.getElem_inj c).mp (d.trans e.symm)
theorem F5 {M : Model} {A : Around} {E : aA} {i : Nat} {x : Str} {v : V} {u : Value} {Q : Unit → Shared → Prop} (I : Inv X pins σ H s) (hN : X.N.Nodup) (hi : X.N[i]? = some x) (l : Loc X.env.scope x) (r : RelV v u)
    (h : ∀ s', Inv X pins (σ.set i (some v)) H s' → (∃ a, SameBut a s.heap s'.heap ∧ (a = X.env.locals ∨ X.env.cells.lookup x = some a)) → Q () s') (hf : X.fn x = true ∨ X.env.scope.names.lookup x = some .local := by first | exact .inl rfl | exact .inr rfl | assumption) : wpAny M A (storeName X.env x u) Q E s := by
  obtain ⟨m, hn, hl⟩ := id I.loc
  have J : (X.env.scope.kind == .class || (X.env.scope.kind == .module && X.env.locals != X.env.globals)) = false := by rw [I.ok.kind]; rfl
  have C : i < σ.length := by rw [I.len]; exact (bL.mp hi).1
  have iZ := I.iZ
  have tracked : ∀ {a : Addr} {h' : Heap}, (∃ o, s.heap.get? a = some o ∧ H a = none) → SameBut a s.heap h' → bR X.prog X.w H h' := fun {a h'} ha f b ob e => by
    obtain ⟨_, _, t⟩ := ha
    refine (I.hok b ob e).stay (fun c R hc q => (f.2 c ?_).trans q) (fun _ q => q) fun _ _ q => q
    rintro rfl
    rcases hc with rfl | hc
    · rw [t] at e; cases e
    · rw [t] at hc; cases hc
  rcases l with hk | hk
  · refine wpAny_storeName_local hk hn (fun h' S f => ?_) J
    obtain ⟨oL, _, _, T, _⟩ := id hn
    refine h _ ⟨I.ok, I.os, I.bare, ⟨fun b o e n D l => ?_, fun b o e n D l => ?_, I.base.free, fun b o e l => ?_, I.base.tups, I.base.ek, I.base.eO⟩, ⟨_, S, fun j y U g B W => ?_⟩, fun y c e => ?_, I.free, I.eY, fun p Y => ?_, tracked ⟨oL, T, I.free⟩ f, by simpa using I.len⟩ ⟨_, f, .inl rfl⟩
    · exact (f.2 b (aY (b8 (aN e) I.ok.above))).trans (I.base.keep b o e n D l)
    · obtain ⟨Z, g⟩ := I.base.slot b o e n D l
      exact ⟨Z, (f.2 b (aY (b8 (aN e) I.ok.above))).trans g⟩
    · obtain ⟨o', g⟩ := I.base.there b o e l
      exact ⟨o', (f.2 b (aY (b8 (aN e) I.ok.above))).trans g⟩
    · by_cases F : j = i
      · subst F
        rw [hi] at g; cases g
        rw [lZ C] at B
        cases B
        exact ⟨u, r, .inl ⟨hk, by simp⟩⟩
      · rw [oh (Ne.symm F)] at B
        obtain ⟨u', r', q⟩ := hl j y U g B W
        refine ⟨u', r', ?_⟩
        rcases q with ⟨k, e⟩ | ⟨k, c, e, z⟩
        · refine .inl ⟨k, ?_⟩
          have : y ≠ x := fun e => F (DR hN g (e ▸ hi))
          simp [this, e]
        · exact .inr ⟨k, c, e, z.sameBut f (iZ y c e)⟩
    · obtain ⟨R, z⟩ := I.cell y c e
      exact ⟨R, z.sameBut f (iZ y c e)⟩
    · obtain ⟨e, n, ne, nf, d⟩ := I.pin p Y
      exact ⟨(f.2 p.1 ne).trans e, n, ne, nf, d⟩
  · have G : X.fn x = true := by
      rcases hf with z | z
      · exact z
      · rw [z] at hk; cases hk
    obtain ⟨c, hc⟩ := I.ok.has x (.inl hk)
    obtain ⟨R, z⟩ := I.cell x c hc
    refine wpAny_storeName_cell I.ok.kind hk hc z (fun h' K f => ?_)
    obtain ⟨oc, L, O⟩ := id z
    refine h { s with heap := h' } ⟨I.ok, I.os, I.bare, ⟨fun b o e n D l => ?_, fun b o e n D l => ?_, I.base.free, fun b o e l => ?_, I.base.tups, I.base.ek, I.base.eO⟩, ⟨m, hn.sameBut f (Ne.symm (iZ x c hc)), fun j y U g B W => ?_⟩, fun y c' e => ?_, I.free, I.eY, fun p Y => ?_, tracked ⟨oc, L, I.eY x c hc⟩ f, by simpa using I.len⟩ ⟨c, f, .inr hc⟩
    · exact (f.2 b (aY (b8 (aN e) (I.ok.lq x c G hc)))).trans (I.base.keep b o e n D l)
    · obtain ⟨Z, g⟩ := I.base.slot b o e n D l
      exact ⟨Z, (f.2 b (aY (b8 (aN e) (I.ok.lq x c G hc)))).trans g⟩
    · obtain ⟨o', g⟩ := I.base.there b o e l
      exact ⟨o', (f.2 b (aY (b8 (aN e) (I.ok.lq x c G hc)))).trans g⟩
    · by_cases F : j = i
      · subst F
        rw [hi] at g; cases g
        rw [lZ C] at B
        cases B
        exact ⟨u, r, .inr ⟨.inl hk, c, hc, K⟩⟩
      · rw [oh (Ne.symm F)] at B
        obtain ⟨u', r', q⟩ := hl j y U g B W
        refine ⟨u', r', ?_⟩
        rcases q with q | ⟨k, c', e, z'⟩
        · exact .inl q
        · refine .inr ⟨k, c', e, z'.sameBut f ?_⟩
          rintro rfl
          exact F (DR hN g (I.ok.inj _ _ _ e hc ▸ hi))
    · by_cases P : c' = c
      · subst P; exact ⟨_, K⟩
      · obtain ⟨w2, z2⟩ := I.cell y c' e
        exact ⟨w2, z2.sameBut f P⟩
    · obtain ⟨e, n, ne, nf, d⟩ := I.pin p Y
      refine ⟨(f.2 p.1 ?_).trans e, n, ne, nf, d⟩
      intro q
      rw [q, L] at e
      have q' : oc = p.2 := Option.some.inj e
      exact d R (by rw [← q']; exact O)
theorem qQ{M:Model}{A:Around}{E:aA}{i:Nat}{x:Str}{v:V}{u:Value}{Q:Unit->Shared->Prop}(I:Inv X pins σ H s)(a:X.N.Nodup)(hi:X.N[i]?=some x)(b:Loc X.env.scope x)(r:RelV v u)
  (h:∀s',Inv X pins (σ.set i (some v)) H s'->Q () s')(c:X.fn x=true\/X.env.scope.names.lookup x=some .local:=by first|exact .inl rfl|exact .inr rfl|assumption):wpAny M A (storeName X.env x u) Q E s:=
 F5 I a hi b r (λs' d _=>h s' d) c
theorem Inv.wM{s':Shared}{ch:List Addr}(I:Inv X pins σ H s)(d:s'.os=s.os)(u:Un (frs X.stack) ch H H' s.heap s'.heap)(hok:bR X.prog X.w H' s'.heap)(f:AllBare s'.gens)
  (a:∀b∈ch,(b∈X.ex\/X.s₀.heap.objs.size<=b)/\b≠X.env.locals/\(∀x c,X.env.cells.lookup x=some c->c≠b)/\∀p∈X.pn++pins,p.1≠b):Inv X pins σ H' s':=by
 obtain⟨h',g',d',t',o'⟩:=s';have e:o'=s.os:=d;subst e;exact I.call (g':=g') (t':=t') (d':=d') u hok f a
end
abbrev XK:=Value->Option Addr->Hp->Prop
abbrev St:=List (Option V)
abbrev VK:=V->Hp->Prop
abbrev TE:=St->Hp->VK->Prop
abbrev TT:=St->Hp->(Bool->Hp->Prop)->Prop
abbrev TA:=St->Hp->(List V->Hp->Prop)->Prop
structure Ends where
 nx:St->Hp->Prop
 rt:VK
 bk:St->Hp->Prop:=λ_ _=>False
 ct:St->Hp->Prop:=λ_ _=>False
abbrev TS:=Ends->St->Hp->Prop
def EP(X:Cx)(pins:aQ)(σ:St)(Q:VK)(u:Value)(s':Shared):Prop:=∃v H',Inv X pins σ H' s'/\RelV v u/\Q v H'
def TP(X:Cx)(pins:aQ)(σ:St)(Q:Bool->Hp->Prop)(b:Bool)(s':Shared):Prop:=∃H',Inv X pins σ H' s'/\Q b H'
def AP(X:Cx)(pins:aQ)(σ:St)(Q:List V->Hp->Prop)(us:List Value)(s':Shared):Prop:=∃vs H',Inv X pins σ H' s'/\Vals vs us/\Q vs H'
def SP(X:Cx)(pins:aQ)(D:Ends)(f:Flow)(s':Shared):Prop:=
 match f with
 |.next=>∃σ' H',Inv X pins σ' H' s'/\D.nx σ' H'
 |.brk=>∃σ' H',Inv X pins σ' H' s'/\D.bk σ' H'
 |.cont=>∃σ' H',Inv X pins σ' H' s'/\D.ct σ' H'
 |.ret u=>∃v σ' H',Inv X pins σ' H' s'/\RelV v u/\D.rt v H'
def PE(X:Cx)(e:Expr)(t:TE):Prop:=
 ∀(pins:aQ) (s:Shared) (σ:St) (H:Hp) (Q:VK),Inv X pins σ H s->t σ H Q->wpAny (model X.prog X.w) X.A (eval e X.env) (EP X pins σ Q) X.xe s
def PT(X:Cx)(e:Expr)(t:TT):Prop:=
 ∀(pins:aQ) (s:Shared) (σ:St) (H:Hp) (Q:Bool->Hp->Prop),Inv X pins σ H s->t σ H Q->wpAny (model X.prog X.w) X.A (isTrue e X.env (eval e X.env)) (TP X pins σ Q) X.xe s
def PW(X:Cx)(e:Expr)(t:TT):Prop:=
 ∀(whole:Sem Value) (pins:aQ) (s:Shared) (σ:St) (H:Hp) (Q:Bool->Hp->Prop),Inv X pins σ H s->t σ H Q->wpAny (model X.prog X.w) X.A (isTrue e X.env whole) (TP X pins σ Q) X.xe s
theorem PW.pt{X:Cx}{e:Expr}{t:TT}(h:PW X e t):PT X e t:=h _
def PA(X:Cx)(es:List Expr)(t:TA):Prop:=
 ∀(pos:Pos) (pins:aQ) (s:Shared) (σ:St) (H:Hp) (Q:List V->Hp->Prop),Inv X pins σ H s->t σ H Q->wpAny (model X.prog X.w) X.A (spliced (backTo pos (starEach es X.env))) (AP X pins σ Q) X.xe s
def PS(X:Cx)(st:Stmt)(t:TS):Prop:=
 ∀(pins:aQ) (s:Shared) (σ:St) (H:Hp) (D:Ends),Inv X pins σ H s->t D σ H->wpAny (model X.prog X.w) X.A (exec st X.env) (SP X pins D) X.xe s
def cj(X:Cx)(st:List Stmt)(t:TS):Prop:=
 ∀(pins:aQ) (s:Shared) (σ:St) (H:Hp) (D:Ends),Inv X pins σ H s->t D σ H->wpAny (model X.prog X.w) X.A (execs st X.env) (SP X pins D) X.xe s
theorem aM{α:Type}{t:Sem α}{Q b:α->Shared->Prop}{M:Model}{A:Around}{E:aA}{s:Shared}(h:wpAny M A t Q E s)(c:∀a s,Q a s->b a s):wpAny M A t b E s:=gD h c λ_ _ x=>x
section
variable{X:Cx}
def SW(i:Nat):TE:=λσ H Q=>∃v,σ[i]?=some (some v)/\Q v H
def tC(v:V):TE:=λ_ H Q=>Q v H
theorem Pc{i:Nat}{x:Str}{pos:Pos}(d:X.N[i]?=some x)(f:pe X.env.scope x)(hd:(x==("__debug__":Str))=false:=by decide)(b:(x==("__classdict__":Str))=false:=by decide):PE X (.Name x pos) (SW i):=by
 intro pins s σ H Q I h;obtain⟨v,e,h⟩:=h;obtain⟨m,hn,g⟩:=I.loc;obtain⟨u,r,l⟩:=g i x v d e f;have fin:EP X pins σ Q u s:=⟨v,H,I,r,h⟩;rcases l with⟨hk,j⟩|⟨hk,c,hc,a⟩
 .exact wpAny_Name (wpAny_loadName_local I.ok.kind hk hn j fin) hd
 .rcases hk with hk|hk
  .exact wpAny_Name (wpAny_loadName_cell I.ok.kind hk hc a fin) hd
  .exact wpAny_Name (wpAny_loadName_free I.ok.kind hk hc a fin b) hd
theorem O0{i j pos}:PE X (.Constant (.int i) j pos) (tC (.int i)):=λ_ _ _ H _ I h=>wpAny_Constant_int ⟨.int i,H,I.tok _,⟨_,rfl⟩,h⟩
theorem OP{b j pos}:PE X (.Constant (.bool b) j pos) (tC (.bl b)):=λ_ _ _ H _ I h=>Constant_bool ⟨.bl b,H,I,rfl,h⟩
theorem O4{j pos}:PE X (.Constant .none j pos) (tC .aB):=λ_ _ _ H _ I h=>Constant_none ⟨.aB,H,I,rfl,h⟩
theorem O9{x j pos}:PE X (.Constant (.str x) j pos) (tC (.str x)):=λ_ _ _ H _ I h=>Calls.Constant_str ⟨.str x,H,I.tok _,⟨_,rfl⟩,h⟩
def Gl(X:Cx)(x:Str):Prop:=X.env.kindOf x=some .globalImplicit
theorem qc{E:aA}{pins:aQ}{s:Shared}{σ:St}{H:Hp}{x:Str}{u:Value}{pos:Pos}{Q:aA}(I:Inv X pins σ H s)(a:Gl X x)(b:X.mg x=some u)(h:Q u s)
  (hd:(x==("__debug__":Str))=false:=by decide):wpAny (model X.prog X.w) X.A (eval (.Name x pos) X.env) Q E s:=
 Calls.Name_function_global I.ok.kind a (Calls.loadGlobal_global (by rw[I.ok.glob];exact I.mod.glob.keeps I.bk) b h) hd
theorem i_{E:aA}{pins:aQ}{s:Shared}{σ:St}{H:Hp}{x:Str}{u:Value}{pos:Pos}{Q:aA}(I:Inv X pins σ H s)(a:Gl X x)(b:X.mg x=none)(c:bootBuiltins x=some u)(h:Q u s)
  (hn:x≠"__name__":=by decide)(hd:(x==("__debug__":Str))=false:=by decide):wpAny (model X.prog X.w) X.A (eval (.Name x pos) X.env) Q E s:=by
 obtain⟨mb,h1,h2⟩:=I.mod.blt;exact Calls.Name_function_global I.ok.kind a (Calls.loadGlobal_builtin (by rw[I.ok.glob];exact I.mod.glob.keeps I.bk) b (by rw[I.ok.blt];exact h1.keeps I.bk) ((h2 x hn).trans c) h) hd
theorem D7{x:Str}{v:V}{u:Value}{pos:Pos}(a:Gl X x)(b:X.mg x=some u)(r:RelV v u)(hd:(x==("__debug__":Str))=false:=by decide):PE X (.Name x pos) (tC v):=
 λ_ _ _ H _ I h=>qc I a b ⟨v,H,I,r,h⟩ hd
theorem D6{x:Str}{v:V}{u:Value}{pos:Pos}(a:Gl X x)(b:X.mg x=none)(c:bootBuiltins x=some u)(r:RelV v u)(hn:x≠"__name__":=by decide)(hd:(x==("__debug__":Str))=false:=by decide):PE X (.Name x pos) (tC v):=
 λ_ _ _ H _ I h=>i_ I a b c ⟨v,H,I,r,h⟩ hn hd
variable{a b:Expr}{ta tb:TE}{pos:Pos}
def tB(t:TE):TT:=λσ H Q=>t σ H λx H1=>∃c,x=.bl c/\Q c H1
theorem P5{e:Expr}{t:TE}(h:PE X e t)(a:∀whole,isTrue e X.env whole=(do let v <-whole;standAt e.pos;holding [v] (truthy v)):=by intro _;rfl):PT X e (tB t):=by
 intro pins s σ H Q I b;refine isTrue_plain (aM (h pins s σ H _ I b) λv i ⟨x,H1,c,f,g⟩=>?_) (a _);obtain⟨d,rfl,q⟩:=g;cases f;exact mq ⟨H1,c,q⟩
variable{tA Ga:TT}{rest:List Expr}
def Sy(t u:TT):TT:=λσ H Q=>t σ H λc H1=>if c=true then Q true H1 else u σ H1 Q
def Sx(t:TT):TT:=λσ H Q=>t σ H λc H1=>Q (!c) H1
theorem pw_or1(b:PT X a tA):PW X (.BoolOp .Or [a] pos) tA:=by
 intro d pins s σ H Q I h;refine isTrue_or (aM (b pins s σ H Q I h) λc f e=>?_);cases c with
 |false=>exact isTrue_or_nil e
 |true=>exact e
theorem pw_or(f:PT X a tA)(g:PW X (.BoolOp .Or (b::rest) pos) Ga):PW X (.BoolOp .Or (a::b::rest) pos) (Sy tA Ga):=by
 intro i pins s σ H Q I h;refine isTrue_or (aM (f pins s σ H _ I h) λc j ⟨H1,d,e⟩=>?_);cases c with
 |true=>exact⟨H1,d,e⟩
 |false=>exact g i pins j σ H1 Q d e
theorem P4(b:PT X a tA):PT X (.UnaryOp .Not a pos) (Sx tA):=by
 intro pins s σ H Q I h;exact isTrue_not (b pins s σ H (λc H1=>Q (!c) H1) I h)
def Sh(ta tb:TE):TE:=λσ H Q=>ta σ H λx H1=>∃c,x=.bl c/\if c=true then tb σ H1 Q else Q (.bl false) H1
theorem O5{op}{t:TE}(h:PE X a t):PE X (.BoolOp op [a] pos) t:=λpins s σ H Q I b=>BoolOp_one (h pins s σ H Q I b)
theorem OO(f:PE X a ta)(g:PE X (.BoolOp .And (b::rest) pos) tb):PE X (.BoolOp .And (a::b::rest) pos) (Sh ta tb):=by
 intro pins s σ H Q I h;refine BoolOp_and (aM (f pins s σ H _ I h) λv i ⟨x,H1,e,j,d⟩=>?_);obtain⟨c,rfl,d⟩:=d;cases j;refine mq ?_;cases c with
 |true=>exact g pins i σ H1 Q e d
 |false=>exact⟨.bl false,H1,e,rfl,d⟩
end
def aW(K:Frag)(H:Hp)(a:Addr)(xs:List V):Prop:=
 Rd H a (.lst xs)\/
  ∃(o:Obj) (its:Array Value) (n:Nat),K.lookup a=some o/\o.cls=.type "list"/\o.dict=none/\o.data=.seq its n/\its.size<=sizeLine/\Vals xs its.toList
def bg(K:Frag)(H:Hp)(a:Addr)(xs:List V):Prop:=
 Rd H a (.tup xs)\/
  ∃(o:Obj) (its:Array Value) (n:Nat),K.lookup a=some o/\o.cls=.type "tuple"/\o.data=.seq its n/\its.size<=sizeLine/\Vals xs its.toList
def Hv:Value->Option V
 |.none=>some .aB
 |.bool b=>some (.bl b)
 |.int i _=>some (.int i)
 |.str x _=>some (.str x)
 |.bytes b _=>some (.ie b)
 |.float b _=>some (.ni b)
 |.ref a=>some (.ref a)
 |.type n=>some (.ty n)
 |_=>none
theorem RelV.abs{x:V}{u:Value}(r:RelV x u):Hv u=some x:=by
 cases x with
 |aB=>cases r;rfl
 |bl _=>cases r;rfl
 |int _=>obtain⟨t,rfl⟩:=r;rfl
 |str _=>obtain⟨t,rfl⟩:=r;rfl
 |ie _=>obtain⟨t,rfl⟩:=r;rfl
 |ni _=>obtain⟨t,rfl⟩:=r;rfl
 |ref _=>cases r;rfl
 |ty _=>cases r;rfl
theorem RelV.inj{x y:V}{u:Value}(r:RelV x u)(q:RelV y u):x=y:=Option.some.inj (r.abs.symm.trans q.abs)
theorem Vals.inj:∀{xs ys:List V} {a:List Value},Vals xs a->Vals ys a->xs=ys
 |_,_,_,.nil,.nil=>rfl
 |_,_,_,.cons r t,.cons r' t'=>by rw[r.inj r',Vals.inj t t']
section
variable{X:Cx}{pins:aQ}{σ:St}{H:Hp}{s:Shared}{a:Addr}{xs ys:List V}
theorem aW.of{K:Frag}(h:H a=some (.lst xs)):aW K H a xs:=.inl (.inl h)
theorem bg.of{K:Frag}(h:H a=some (.tup xs)):bg K H a xs:=.inl (.inl h)
theorem Inv.list(I:Inv X pins σ H s)(h:aW X.K H a xs):∃its:List Value,Vals xs its/\PlainL s.heap a its.toArray/\xs.length<=sizeLine:=by
 rcases h with h|⟨o,its,n,hk,hc,hd,b,hz,r⟩
 .obtain⟨z,its,n,r,e⟩:=h.ok I.hok
  exact⟨its,r,⟨_,n,e,rfl,rfl,rfl⟩,z⟩
 .refine⟨its.toList,r,⟨o,n,I.dB a o hk,hc,hd,by simpa using b⟩,?_⟩
  have e:=r.length;simp only[bE] at e;omega
theorem Inv.tuple(I:Inv X pins σ H s)(h:bg X.K H a xs):∃its:List Value,Vals xs its/\IsTup s.heap a its.toArray/\xs.length<=sizeLine:=by
 rcases h with h|⟨o,its,n,hk,hc,b,hz,r⟩
 .obtain⟨z,its,r,p⟩:=h.ok I.hok
  exact⟨its,r,p.is,z⟩
 .refine⟨its.toList,r,⟨o,I.dB a o hk,hc,n,by simpa using b⟩,?_⟩
  have e:=r.length;simp only[bE] at e;omega
theorem Inv.S7(I:Inv X pins σ H s)(h:H a=some (.tup xs)):∃(its:List Value) (n:Nat),Vals xs its/\s.heap.get? a=some {cls:=.type "tuple",data:=.seq its.toArray n}/\xs.length<=sizeLine:=by
 obtain⟨z,its,r,n,e⟩:=(show bP X.prog X.w H s.heap a (.tup xs) from I.hok a _ h);exact⟨its,n,r,e,z⟩
theorem Inv.M3(I:Inv X pins σ H s)(h:aW X.K H a xs)(h':aW X.K H a ys):xs=ys:=by
 obtain⟨its,r,⟨o,n,e,_,_,d⟩,_⟩:=I.list h;obtain⟨its',r',⟨o',n',b,_,_,d'⟩,_⟩:=I.list h';rw[e] at b;cases b;rw[d] at d';injection d' with c _;have:its=its':=by simpa using c7 toList c
 subst this;exact r.inj r'
theorem Inv.S8(I:Inv X pins σ H s)(h:bg X.K H a xs)(h':bg X.K H a ys):xs=ys:=by
 obtain⟨its,r,⟨o,e,_,n,d⟩,_⟩:=I.tuple h;obtain⟨its',r',⟨o',b,_,n',d'⟩,_⟩:=I.tuple h';rw[e] at b;cases b;rw[d] at d';injection d' with c _;have:its=its':=by simpa using c7 toList c
 subst this;exact r.inj r'
end
section
variable{X:Cx}{st:Stmt}{rest:List Stmt}{t u:TS}{e:Expr}{te:TE}{pos:Pos}
def Su:TS:=λD σ H=>D.nx σ H
def SG(t u:TS):TS:=λD σ H=>t {D with nx:=u D} σ H
theorem PY:cj X [] Su:=λ_ _ σ H _ I h=>rq ⟨σ,H,I,h⟩
theorem PX(h1:PS X st t)(h2:cj X rest u):cj X (st::rest) (SG t u):=by
 intro pins s σ H D I h;refine wpAny_execs_cons (aM (h1 pins s σ H {D with nx:=u D} I h) λf a q=>?_);cases f with
 |next=>
  obtain⟨σ',H',b,q⟩:=q;exact h2 pins a σ' H' D b q
 |ret v=>exact q
 |brk=>exact q
 |cont=>exact q
theorem PZ(h1:PS X st t):cj X [st] t:=by
 intro pins s σ H D I h;refine wpAny_execs_cons (aM (h1 pins s σ H D I h) λf a q=>?_);cases f with
 |next=>exact rq q
 |ret v=>exact q
 |brk=>exact q
 |cont=>exact q
theorem Inv.quiet{pins:aQ}{σ:St}{H:Hp}{s:Shared}(I:Inv X pins σ H s):interactive X.env=false:=by simp[interactive,I.ok.kind]
def Sl(te:TE):TS:=λD σ H=>te σ H λ_ H1=>D.nx σ H1
theorem PF(a:PE X e te)(b:swapsWith e none pos.line X.env=pure false:=by rfl):PS X (.Expr e pos) (Sl te):=by
 intro pins s σ H D I h;exact wpAny_Expr_any (aM (a pins s σ H _ I h) λv f ⟨x,H1,c,g,d⟩=>⟨σ,H1,c,d⟩) I.quiet b
def SE(te:TE):TS:=λD σ H=>te σ H D.rt
theorem PN(a:PE X e te):PS X (.Return (some e) pos) (SE te):=by
 intro pins s σ H D I h;exact wpAny_Return_some (aM (a pins s σ H _ I h) λv f ⟨x,H1,b,c,d⟩=>⟨x,σ,H1,b,c,d⟩)
def So(c:TT)(t u:TS):TS:=λD σ H=>c σ H λb H1=>if b=true then t D σ H1 else u D σ H1
theorem PK{c:Expr}{a b:List Stmt}{tc:TT}(hc:PT X c tc)(i:cj X a t)(j:cj X b u):PS X (.If c a b pos) (So tc t u):=by
 intro pins s σ H D I h;refine wpAny_If (aM (hc pins s σ H _ I h) λd e ⟨H1,f,g⟩=>?_);cases d with
 |true=>exact i pins e σ H1 D f g
 |false=>exact j pins e σ H1 D f g
end
abbrev TG:=V->St->Hp->(St->Hp->Prop)->Prop
abbrev iX:=List V->St->Hp->(St->Hp->Prop)->Prop
def PG(X:Cx)(target:Expr)(t:TG):Prop:=
 ∀(pins:aQ) (s:Shared) (σ:St) (H:Hp) (v:V) (u:Value) (Q:St->Hp->Prop),Inv X pins σ H s->RelV v u->t v σ H Q->
  wpAny (model X.prog X.w) X.A (assign target X.env u) (λ_ s'=>∃σ' H',Inv X pins σ' H' s'/\Q σ' H') X.xe s
def iV(X:Cx)(ts:List Expr)(t:iX):Prop:=
 ∀(pins:aQ) (s:Shared) (σ:St) (H:Hp) (vs:List V) (us:List Value) (Q:St->Hp->Prop),Inv X pins σ H s->Vals vs us->t vs σ H Q->
  wpAny (model X.prog X.w) X.A (assignInOrder ((assignEach ts X.env).map (·.2)) us) (λ_ s'=>∃σ' H',Inv X pins σ' H' s'/\Q σ' H') X.xe s
section
variable{X:Cx}{pos:Pos}
def nj(i:Nat):TG:=λv σ H Q=>Q (σ.set i (some v)) H
theorem D8{i:Nat}{x:Str}(a:X.N.Nodup)(hi:X.N[i]?=some x)(b:Loc X.env.scope x)(c:X.fn x=true\/X.env.scope.names.lookup x=some .local:=by first|exact .inl rfl|exact .inr rfl|assumption):PG X (.Name x pos) (nj i):=by
 intro pins s σ H v u Q I r h;exact wpAny_assign_Name (qQ I a hi b r (λs' d=>⟨_,H,d,h⟩) c)
def Cv:iX:=λvs σ H Q=>vs=[]/\Q σ H
def Cu(t:TG)(u:iX):iX:=λvs σ H Q=>∃v r,vs=v::r/\t v σ H λσ' H'=>u r σ' H' Q
theorem kC:iV X [] Cv:=by
 intro pins s σ H vs a Q I r h;obtain⟨e,h⟩:=h;subst e;cases r;exact assignInOrder_nil ⟨σ,H,I,h⟩
theorem fG{e:Expr}{es:List Expr}{t:TG}{u:iX}(h1:PG X e t)(h2:iV X es u)
  (b:(assignEach (e::es) X.env).map (·.2)=assign e X.env::(assignEach es X.env).map (·.2):=by rfl):iV X (e::es) (Cu t u):=by
 intro pins s σ H vs j Q I r h;obtain⟨v,vr,c,h⟩:=h;subst c;cases r with
 |cons r d=>
  rw[b];refine assignInOrder_cons (aM (h1 pins s σ H _ _ _ I r h) λ_ f ⟨a,H1,g,i⟩=>?_);exact h2 pins f a H1 _ _ Q g d i
def Cw(K:Frag)(n:Nat)(t:iX):TG:=λv σ H Q=>∃a xs,v=.ref a/\bg K H a xs/\xs.length=n/\t xs σ H Q
theorem kB{es:List Expr}{k:Nat}{t:iX}{n:Nat}(hc:X.calm=true)(h:iV X es t)
  (hn:(assignEach es X.env).length=n:=by rfl)(c:(assignEach es X.env).findIdx? (·.1)=none:=by rfl):PG X (.Tuple es k pos) (Cw X.K n t):=by
 intro pins s σ H v u Q I r d;obtain⟨a,xs,g,i,j,d⟩:=d;subst g;cases r;obtain⟨its,f,l,hz⟩:=I.tuple i;refine assign_Tuple_tuple (I.ok.hd hc) l (by simp[hn,<-j,f.length]) c λh' m=>?_;have p:Inv X pins σ H {s with heap:=h'}:=I.kept (t':=s.toks) λb o e=>m b o (aY (aN e)) e;exact h pins _ σ H xs _ Q p (by simpa using f) d
def uX(te:TE)(g:TG):TS:=λD σ H=>te σ H λx H1=>g x σ H1 D.nx
theorem PB{tg e:Expr}{te:TE}{g:TG}(a:PE X e te)(b:PG X tg g)(c:swapsWithSole [tg] e pos.line X.env=pure false:=by rfl)(d:swappedStores [tg] e X.env=pure none:=by rfl)
  (h1:(assignEach [tg] X.env).map (·.2)=[assign tg X.env]:=by rfl):PS X (.Assign [tg] e pos) (uX te g):=by
 intro pins s σ H D I h;refine wpAny_Assign_stores (aM (a pins s σ H _ I h) λv f ⟨x,H1,i,j,k⟩=>?_) c d;rw[h1];exact aM (b pins f σ H1 x v _ i j k) λ_ l q=>q
theorem PR{i:Nat}{x:Str}{e:Expr}{te:TE}{pos':Pos}(a:X.N.Nodup)(hi:X.N[i]?=some x)(b:Loc X.env.scope x)(c:PE X e te)(d:swapsWith e (some (.Name x pos')) pos.line X.env=pure false:=by rfl)(f:X.fn x=true\/X.env.scope.names.lookup x=some .local:=by first|exact .inl rfl|exact .inr rfl|assumption):
  PS X (.Assign [.Name x pos'] e pos) (uX te (nj i)):=by
 intro pins s σ H D I h;refine wpAny_Assign_Name (aM (c pins s σ H _ I h) λv m ⟨y,H1,g,j,k⟩=>?_) d;exact qQ g a hi b j (λn l=>⟨_,H1,l,k⟩) f
def Sz(i j:Nat)(ta:TA):TS:=λD σ H=>ta σ H λvs H1=>∃v w,vs=[v,w]/\D.nx ((σ.set i (some v)).set j (some w)) H1
theorem PL{i j:Nat}{x y:Str}{a b:Expr}{ta:TA}{px py pt:Pos}{kt k2 c}(hc:X.calm=true)(r:X.N.Nodup)(hi:X.N[i]? =some x)(B:X.N[j]? =some y)(k:i≠j)
  (t:X.env.scope.names.lookup x=some .local)(u:X.env.scope.names.lookup y=some .local)(C:PA X [a,b] ta)
  (E:swappedStores [.Tuple [.Name x px,.Name y py] kt pt] (.Tuple [a,b] k2 c) X.env=pure (some [x,y]))
  (F:swapsWithSole [.Tuple [.Name x px,.Name y py] kt pt] (.Tuple [a,b] k2 c) pos.line X.env=pure false:=by rfl):
  PS X (.Assign [.Tuple [.Name x px,.Name y py] kt pt] (.Tuple [a,b] k2 c) pos) (Sz i j ta):=by
 intro pins s σ H D I h
 rw[exec_Assign_arm]
 refine af (vF ?_)
 rw[F]
 refine af (ak ?_)
 rw[ai (by decide)]
 refine af (Tuple_ (aM (C _ pins s σ H _ I h) λG d ⟨vs,H1,J,K,l⟩=> ?_))
 obtain⟨v,w,L,l⟩:=l
 subst L
 obtain⟨f,g,rfl,M,m⟩:∃f g,G=[f,g]/\RelV v f/\RelV w g:=by
  cases K with
  |cons p q=>
   cases q with
   |cons O P=>
    cases P
    exact⟨_,_,rfl,p,O⟩
 refine fm ?_ (by show 2<=sizeLine;decide)
 have Q:Inv X pins σ H1 {d with heap:=d.heap.push {cls:= .type "tuple",data:= .seq [f,g].toArray}}:=J.kept (t':=d.toks) λb o e=>aT _ e
 rw[E]
 refine af (ak ?_)
 show wpAny (model X.prog X.w) X.A (do rule "assign.swapped-stores";let items <-unpackItems (.ref d.heap.objs.size) 2 none;assignInOrder [λv=>bindName X.env y v,λv=>bindName X.env x v] items.reverse;pure Flow.next) _ _ _
 refine af (fW (af (unpackItems_tuple (items:= #[f,g]) (I.ok.hd hc) (IsTup.new d.heap _) λh' n=> ?_)))
 have R:=Q.kept (h':=h') (t':=d.toks) λb o e=>n b o (aY (aN e)) e
 show wpAny _ _ (assignInOrder [λv=>bindName X.env y v,λv=>bindName X.env x v] [g,f]>>=λ_=>pure Flow.next) _ _ _
 refine af (assignInOrder_cons (wpAny_bindName (qQ R r B (.inl u) m (λT S=> ?_) (.inr u))))
 refine assignInOrder_cons (wpAny_bindName (qQ S r hi (.inl t) M (λU z=>assignInOrder_nil (ak ?_)) (.inr t)))
 rw[List.set_comm _ _ (Ne.symm k)] at z
 exact⟨_,H1,z,l⟩
end
section
variable{X:Cx}{pos:Pos}
def SX(c:TT)(tb:TS):TS:=λD σ H=>∃W:Nat->St->Hp->Prop,(∃m,W m σ H)/\∀m σ H,W m σ H->
 c σ H λb H1=>if b=true then ∃N:St->Hp->Prop,(∀σ' H',N σ' H'->∃m',m'<m/\W m' σ' H')/\tb {D with nx:=N,ct:=N,bk:=D.nx} σ H1 else D.nx σ H1
theorem PV{c:Expr}{body:List Stmt}{tc:TT}{tb:TS}(o:PassesOwn (model X.prog X.w) X.A X.env X.xe)(hc:PT X c tc)(r:cj X body tb):PS X (.While c body [] pos) (SX tc tb):=by
 intro pins s σ H D I h;obtain⟨W,⟨m0,t⟩,turn⟩:=h;refine wpAny_While (codeAny_whileLoop (λn s'=>∃σ' H',Inv X pins σ' H' s'/\W n σ' H') ?_ m0 ⟨σ,H,I,t⟩);rintro n u ⟨d,H1,x,y⟩;refine l_ o (aM (hc pins u d H1 _ x (turn n d H1 y)) λb z ⟨H2,p,g⟩=>?_);cases b with
 |true=>
  obtain⟨N,q,g⟩:=g;rw[aj rfl];refine l_ o (aM (r pins z d H2 _ p g) λf B i=>?_);cases f with
  |next=>
   obtain⟨a,e,j,n3⟩:=i;obtain⟨k,l,m⟩:=q a e n3;exact⟨k,l,a,e,j,m⟩
  |cont=>
   obtain⟨a,e,j,n3⟩:=i;obtain⟨k,l,m⟩:=q a e n3;exact⟨k,l,a,e,j,m⟩
  |brk=>exact i
  |ret v=>exact i
 |false=>
  rw[ai cC];exact rq ⟨d,H2,p,g⟩
end
structure It where
 go:Nat->Hp->Prop
 vg:Nat->Hp->V->Hp->Prop
 stop:Nat->Hp->Prop
def fM(X:Cx)(pins:aQ)(H:Hp)(b:Addr):Prop:=
 H b=none/\b≠X.env.locals/\b∉X.fs/\(b∈X.ex\/X.s₀.heap.objs.size<=b)/\(∀x c,X.env.cells.lookup x=some c->c≠b)/\∀p∈X.pn++pins,p.1≠b
theorem Inv.sU{X:Cx}{pins:aQ}{σ:St}{H H':Hp}{s:Shared}{b:Addr}(I:Inv X pins σ H s)(a:s.heap.objs.size<=b)(hn:H' b=none):fM X pins H' b:=by
 refine⟨hn,iH (b8 I.lt a),I.N1 a,.inr (cY I.sz a),λx c e z=>?_,λp d z=>?_⟩
 .obtain⟨v,q⟩:=I.cell x c e
  exact absurd (b8 q.lt (by rw[z];exact a)) (dZ _)
 .exact absurd (b8 (aN (I.pin p d).1) (by rw[z];exact a)) (dZ _)
structure Turn(P:Program)(w:World)(K:Frag)(tg:Expr)(J:It)(fp:List Addr)(it:Addr)(tn:Nat->Heap->Prop):Prop where
 mem:it∈fp
 obj:∀i h,tn i h->∀b∈fp,∃o,h.get? b=some o/\∀v,o.data≠ .cell v
 keep:∀i h h',tn i h->(∀b∈fp,∀o,h.get? b=some o->h'.get? b=some o)->tn i h'
 item:∀(X:Cx),X.prog=P->X.w=w->X.K=K->X.calm=true->∀(i:Nat) (pins:aQ) (s:Shared) (σ:St) (H:Hp) (E:aA),Inv X pins σ H s->(∀b∈fp,fM X pins H b)->tn i s.heap->J.go i H->
  wpAny (model P w) X.A (pyNext (.ref it)) (λr s1=>∃u,r=some u/\
   wpAny (model P w) X.A (letOwnedTupleGo tg (.ref it) u) (λ_ s2=>∃x H',Inv X pins σ H' s2/\RelV x u/\J.vg i H x H'/\tn (i+1) s2.heap/\∀b∈fp,H' b=none) E s1) E s
 done:∀(X:Cx),X.prog=P->X.w=w->X.K=K->X.calm=true->∀(i:Nat) (pins:aQ) (s:Shared) (σ:St) (H:Hp) (E:aA),Inv X pins σ H s->(∀b∈fp,fM X pins H b)->tn i s.heap->J.stop i H->
  wpAny (model P w) X.A (pyNext (.ref it)) (λr s1=>r=none/\Inv X pins σ H s1) E s
 self:∀(A:Around) (i:Nat) (s:Shared) (Q:aA) (E:aA),tn i s.heap->Q (.ref it) s->wpAny (model P w) A (pyIter (.ref it)) Q E s
abbrev TI:=St->Hp->(It->Hp->Prop)->Prop
def wc(X:Cx)(pins:aQ)(σ:St)(tg:Expr)(R:It->Hp->Prop)(itv:Value)(s2:Shared):Prop:=
 ∃(it:Addr) (fp:List Addr) (tn:Nat->Heap->Prop) (J:It) (H':Hp),itv=.ref it/\Inv X pins σ H' s2/\Turn X.prog X.w X.K tg J fp it tn/\tn 0 s2.heap/\(∀b∈fp,fM X pins H' b)/\R J H'
def PI(X:Cx)(tg iter:Expr)(wi:TI):Prop:=
 ∀(pins:aQ) (s:Shared) (σ:St) (H:Hp) (R:It->Hp->Prop),Inv X pins σ H s->wi σ H R->
  wpAny (model X.prog X.w) X.A (eval iter X.env) (λv s1=>wpAny (model X.prog X.w) X.A (pyIter v) (wc X pins σ tg R) X.xe s1) X.xe s
theorem xM{M:Model}{A:Around}{E:aA}{s:Shared}{tg:Expr}{it:Addr}{u:Value}{o:Obj}{n:String}{vs:Array Value}{Q:Unit->Shared->Prop}(b:s.heap.get? it=some o)(hc:o.cls=.type n)(hd:o.data=.fields vs)
  (hn:["enumerate","zip","dict_itemiterator","dict_reverseitemiterator","odict_iterator","itertools.zip_longest","itertools.pairwise"].contains n=false)(a:Q () s):wpAny M A (letOwnedTupleGo tg (.ref it) u) Q E s:=by
 unfold letOwnedTupleGo;cases tg<;>first
  |exact ak a
  |(cases u<;>first
    |exact ak a
    |(refine af (wpAny_load b ?_)
      rw[hc,hd];show wpAny M A (if (["enumerate","zip","dict_itemiterator","dict_reverseitemiterator","odict_iterator","itertools.zip_longest","itertools.pairwise"].contains n&&vs[0]? ==some (rawInt _))=true then _ else _) Q E s;rw[ai (by intro h;rw[hn,vm] at h;cases h)];exact ak a))
def rO(K:Frag)(a:Addr):It:=
 ⟨λi H=>∃xs x,aW K H a xs/\xs[i]?=some x,λi H x H'=>H'=H/\∀xs,aW K H a xs->xs[i]?=some x,λi H=>∃xs,aW K H a xs/\xs.length<=i⟩
def v9(K:Frag)(a:Addr):It:=
 ⟨λi H=>∃xs x,bg K H a xs/\xs[i]?=some x,λi H x H'=>H'=H/\∀xs,bg K H a xs->xs[i]?=some x,λi H=>∃xs,bg K H a xs/\xs.length<=i⟩
def rP(lo:Int)(n:Nat):It:=⟨λi _=>i<n,λi H x H'=>H'=H/\x=.int (lo+i),λi _=>n<=i⟩
theorem Td{P:Program}{w:World}{K:Frag}{tg:Expr}(a it:Addr):Turn P w K tg (rO K a) [it] it (λi h=>h.IsListIter it a i) where
 mem:=by simp
 obj:=λi h st b f=>by
  have e:b=it:=by simpa using f
  subst e
  obtain⟨o,e,c,d⟩:=st
  exact⟨o,e,λv z=>by rw[d] at z;cases z⟩
 keep:=λi h h' st k=>st.at λo e=>k it (by simp) o e
 item:=by
  intro X m n q hc i pins s σ H E I j st r
  subst m n q
  obtain⟨xs,x,l,t⟩:=r
  obtain⟨its,y,p,hz⟩:=I.list l
  obtain⟨u,C,ru⟩:=y.get t
  obtain⟨f0,f1,f2,A,f4,B⟩:=j it (by simp)
  refine wpAny_pyNext_list_item st p.isList (x:=u) (by simpa using C) λh' g sb=> ?_
  have D:Inv X pins σ H {s with heap:=h'}:=I.turned (t':=s.toks) (λb o f e=>(sb.2 b f).trans e) f0 f1 A f4 B
  obtain⟨o,e,c,d⟩:=id g
  exact⟨u,rfl,xM (s:={s with heap:=h'}) e c d (by decide) ⟨x,H,D,ru,⟨rfl,λys F=>by rw[I.M3 F l];exact t⟩,g,λb f=>(j b f).1⟩⟩
 done:=by
  intro X m n q hc i pins s σ H E I j st r
  subst m n q
  obtain⟨xs,l,t⟩:=r
  obtain⟨its,y,p,hz⟩:=I.list l
  obtain⟨f0,f1,f2,A,f4,B⟩:=j it (by simp)
  have J:=y.length
  exact wpAny_pyNext_list_end (I.ok.hd hc) st p.isList (by simp;omega) λh' G=>⟨rfl,I.turned (t':=s.toks) (λb o f e=>G b o f e) f0 f1 A f4 B⟩
 self:=λ_ _ _ _ _ st h=>wpAny_pyIter_listiter st h
theorem Th{P:Program}{w:World}{K:Frag}{tg:Expr}(a it:Addr):Turn P w K tg (v9 K a) [it] it (λi h=>h.IsTupleIter it a i) where
 mem:=by simp
 obj:=λi h st b f=>by
  have e:b=it:=by simpa using f
  subst e
  obtain⟨o,e,c,d⟩:=st
  exact⟨o,e,λv z=>by rw[d] at z;cases z⟩
 keep:=λi h h' st k=>st.at λo e=>k it (by simp) o e
 item:=by
  intro X m n q hc i pins s σ H E I j st r
  subst m n q
  obtain⟨xs,x,l,t⟩:=r
  obtain⟨its,y,p,hz⟩:=I.tuple l
  obtain⟨u,C,ru⟩:=y.get t
  obtain⟨f0,f1,f2,A,f4,B⟩:=j it (by simp)
  refine wpAny_pyNext_tuple_item st (show s.heap.IsTuple a its.toArray from p) (x:=u) (by simpa using C) λh' g sb=> ?_
  have D:Inv X pins σ H {s with heap:=h'}:=I.turned (t':=s.toks) (λb o f e=>(sb.2 b f).trans e) f0 f1 A f4 B
  obtain⟨o,e,c,d⟩:=id g
  exact⟨u,rfl,xM (s:={s with heap:=h'}) e c d (by decide) ⟨x,H,D,ru,⟨rfl,λys F=>by rw[I.S8 F l];exact t⟩,g,λb f=>(j b f).1⟩⟩
 done:=by
  intro X m n q hc i pins s σ H E I j st r
  subst m n q
  obtain⟨xs,l,t⟩:=r
  obtain⟨its,y,p,hz⟩:=I.tuple l
  obtain⟨f0,f1,f2,A,f4,B⟩:=j it (by simp)
  have J:=y.length
  exact wpAny_pyNext_tuple_end (I.ok.hd hc) st (show s.heap.IsTuple a its.toArray from p) (by simp;omega) λh' G=>⟨rfl,I.turned (t':=s.toks) (λb o f e=>G b o f e) f0 f1 A f4 B⟩
 self:=λ_ _ _ _ _ st h=>wpAny_pyIter_tupleiter st h
theorem Tf{P:Program}{w:World}{K:Frag}{tg:Expr}(it:Addr)(lo:Int)(n:Nat):Turn P w K tg (rP lo n) [it] it (λi h=>IsRangeIter h it (lo+(i:Nat)*1) ((n:Int) - (i:Nat)) 1) where
 mem:=by simp
 obj:=λi h st b a=>by
  have e:b=it:=by simpa using a
  subst e
  exact⟨_,st,λv z=>by
   have q:Data.fields _=Data.cell v:=z
   cases q⟩
 keep:=λi h h' st k=>k it (by simp) _ st
 item:=by
  intro X f g j hc i pins s σ H E I d st l
  subst f g j
  obtain⟨f0,f1,f2,m,f4,p⟩:=d it (by simp)
  have W:=Walks.range (prog:=X.prog) (w:=X.w) (I.ok.hd hc) it lo 1 n
  refine W.item i s _ _ l st λv h' tk r c kk=> ?_
  obtain⟨t,rfl⟩:=r
  have u:Inv X pins σ H {s with heap:=h',toks:=tk}:=I.turned (λb o a e=>kk b o (by simpa using a) e) f0 f1 m f4 p
  refine⟨_,rfl,xM (s:={s with heap:=h',toks:=tk}) (n:="range_iterator") c rfl rfl (by decide) ⟨.int (lo+i),H,u,⟨t,?_⟩,⟨rfl,rfl⟩,c,λb a=>(d b a).1⟩⟩
  rw[mul_one]
 done:=by
  intro X f g j hc i pins s σ H E I d st l
  subst f g j
  obtain⟨f0,f1,f2,m,f4,p⟩:=d it (by simp)
  exact wpAny_pyNext_range_end (I.ok.hd hc) st (by have:n<=i:=l;omega) λh' x=>⟨rfl,I.turned (t':=s.toks) (λb o a e=>x b o a e) f0 f1 m f4 p⟩
 self:=λ_ _ _ _ _ st h=>wpAny_pyIter_rangeiter st h
section
variable{X:Cx}{tg:Expr}
theorem Qo{pins:aQ}{σ:St}{H:Hp}{s:Shared}{R:It->Hp->Prop}{E:aA}{lo hi:Int}{t u v:Tok}{tk:Nat}(I:Inv X pins σ H s)(h1: -(2 ^ 62)<=lo)(h2:lo<2 ^ 62)(h3: -(2 ^ 62)<=hi)(c:hi<2 ^ 62)
  (q:R (rP lo (hi - lo).toNat) H):wpAny (model X.prog X.w) X.A (pyIter (.ref s.heap.objs.size)) (wc X pins σ tg R) E {s with heap:=s.heap.push {cls:=.type "range",data:=.fields #[.int lo t,.int hi u,.int 1 v]},toks:=tk}:=by
 refine wpAny_pyIter_range (IsRange.new ..) (small_one h1 h2 h3 c) ?_;have a:Inv X pins σ H {s with heap:=s.heap.push {cls:=.type "range",data:=.fields #[.int lo t,.int hi u,.int 1 v]},toks:=tk}:=I.kept λb o e=>aT _ e;refine⟨(s.heap.push {cls:=.type "range",data:=.fields #[.int lo t,.int hi u,.int 1 v]}).objs.size,[(s.heap.push {cls:=.type "range",data:=.fields #[.int lo t,.int hi u,.int 1 v]}).objs.size],_,_,H,rfl,
  a.kept (t':=tk) λb o e=>aT _ e,Tf _ lo (hi - lo).toNat,?_,λb d=>?_,q⟩
 .have f:lo+((0:Nat):Int)*1=lo:=by simp
  have g:(((hi - lo).toNat:Nat):Int) - ((0:Nat):Int)=Builtin.Range.rangeSize lo hi 1:=by rw[rangeSize_one];split<;>omega
  show IsRangeIter _ _ (lo+((0:Nat):Int)*1) ((((hi - lo).toNat:Nat):Int) - ((0:Nat):Int)) 1;rw[f,g];exact bI _ rfl
 .have e:b=(s.heap.push {cls:=.type "range",data:=.fields #[.int lo t,.int hi u,.int 1 v]}).objs.size:=by simpa using d
  subst e;exact a.sU (aH _) (a.hok.fresh (aH _))
def L6(ta:TA):TI:=λσ H R=>ta σ H λvs H1=>∃j:Int,vs=[.int j]/\-(2 ^ 62)<=j/\j<2 ^ 62/\R (rP 0 j.toNat) H1
theorem Pg{a:Expr}{ta:TA}{p pos:Pos}(c:Gl X "range")(d:X.mg "range"=none)(f:PA X [a] ta)(g:starEach [a] X.env=[(false,eval a X.env)]:=by rfl):PI X tg (.Call (.Name "range" p) [a] [] pos) (L6 ta):=by
 intro pins s σ H R I h;refine Call_ (i_ I c d boot_range (nZ (aM (f pos pins s σ H _ I h) λn o ⟨vs,H1,i,k,b⟩=>?_) g rfl));obtain⟨j,e,b,l,q⟩:=b;subst e;cases k with
 |cons r m=>
  cases m;obtain⟨t,rfl⟩:=r;exact call_range_1 (Qo i (by omega) (by omega) b l (by simpa using q))
def Sn(wi:TI)(g:TG)(tb:TS):TS:=λD σ H=>wi σ H λJ H1=>∃W:Nat->Nat->St->Hp->Prop,(∃m,W 0 m σ H1)/\∀i m σ H,W i m σ H->
 (J.stop i H/\D.nx σ H)\/(J.go i H/\∃N:St->Hp->Prop,(∀σ' H',N σ' H'->∃m',m'<m/\W (i+1) m' σ' H')/\∀x H',J.vg i H x H'->g x σ H' λσ2 H2=>tb {D with nx:=N,ct:=N,bk:=D.nx} σ2 H2)
def qv(fp:List Addr)(h:Heap):aQ:=fp.filterMap λb=>(h.get? b).map λo=>(b,o)
theorem tS{fp:List Addr}{h:Heap}{b:Addr}{o:Obj}(a:b∈fp)(e:h.get? b=some o):(b,o)∈qv fp h:=q8.mpr ⟨b,a,by rw[e];rfl⟩
theorem Ob{fp:List Addr}{h:Heap}{p:Addr×Obj}(a:p∈qv fp h):p.1∈fp/\h.get? p.1=some p.2:=by
 obtain⟨b,c,e⟩:=q8.mp a;cases q:h.get? b with
 |none=>rw[q] at e;cases e
 |some o=>
  rw[q] at e;have d:(b,o)=p:=Option.some.inj e;subst d;exact⟨c,q⟩
theorem Inv.pinned{pins:aQ}{σ:St}{H:Hp}{s:Shared}{fp:List Addr}(I:Inv X pins σ H s)(f:∀b∈fp,fM X pins H b)(g:∀b∈fp,∃o,s.heap.get? b=some o/\∀v,o.data≠ .cell v):Inv X (pins++qv fp s.heap) σ H s:=
 I.D_ λp h=>(br.mp h).elim (λz=>I.pin p (gc _ z)) λz=>by
  obtain⟨a,e⟩:=Ob z;obtain⟨f0,f1,f2,_⟩:=f p.1 a;obtain⟨o,c,d⟩:=g p.1 a;rw[e] at c;cases c;exact⟨e,f0,f1,f2,d⟩
theorem Inv.qV{pins a:aQ}{σ:St}{H:Hp}{s:Shared}(I:Inv X (pins++a) σ H s):Inv X pins σ H s:=I.D_ λp b=>I.pin p (gc _ (jP _ b))
theorem PJ{iter:Expr}{body:List Stmt}{wi:TI}{g:TG}{tb:TS}{pos:Pos}(y:PassesOwn (model X.prog X.w) X.A X.env X.xe)(hc:X.calm=true)(hi:PI X tg iter wi)(S:PG X tg g)(c:cj X body tb)
  (U:∀x,foldedSetIterable iter X.env x=pure x:=by intro _;rfl):PS X (.For tg iter body [] pos) (Sn wi g tb):=by
 intro pins s σ H D I h;refine wpAny_For (aM (hi pins s σ H _ I h) λv s1 h1=>aM h1 λV s2 h2=>?_) U;obtain⟨it,fp,O,J,H2,e,Y,T,E,f2,W,⟨m0,Z⟩,turn⟩:=h2;subst e;have j:∀{H':Hp},(∀b∈fp,H' b=none)->∀b∈fp,fM X pins H' b:=λhn b c=>⟨hn b c,(f2 b c).2⟩;refine codeAny_forLoop_any (λn s'=>∃i σ' H',Inv X pins σ' H' s'/\O i s'.heap/\(∀b∈fp,H' b=none)/\W i n σ' H') ?_ m0 ⟨0,σ,H2,Y,E,λb c=>(f2 b c).1,Z⟩;rintro n P ⟨i,k,C,Q,z,B,w3⟩;rcases turn i n k C w3 with⟨stop,qn⟩|⟨go,N,hN,step⟩
 .refine l_ y (aM (T.done X rfl rfl rfl hc i pins P k C X.xe Q (j B) z stop) λr s4 ⟨F,I4⟩=>?_)
  subst F;exact rq ⟨k,C,I4,qn⟩
 .refine l_ y (aM (T.item X rfl rfl rfl hc i pins P k C X.xe Q (j B) z go) λr s4 ⟨u,F,h4⟩=>?_)
  subst F;refine l_ y (aM h4 λ_ s5 ⟨x,R,I5,r5,y5,t,G⟩=>?_);have K:=I5.pinned (j G) (T.obj _ _ t);refine l_ y (aM (S _ s5 k R x u _ K r5 (step x R y5)) λ_ s6 ⟨L,H6,I6,q6⟩=>?_);refine l_ y (aM (c _ s6 L H6 _ I6 q6) λf M q=>?_);have again:∀{a:St} {l:Hp},Inv X (pins++qv fp s5.heap) a l M->N a l->∃m,m<n/\∃i σ' H',Inv X pins σ' H' M/\O i M.heap/\(∀b∈fp,H' b=none)/\W i m σ' H':=λ {a l} p n7=>by
   obtain⟨m',hm,w7⟩:=hN a l n7;refine⟨m',hm,i+1,a,l,p.qV,T.keep _ _ _ t λb c o e=>(p.pin (b,o) (gc _ (gc _ (tS c e)))).1,λb c=>?_,w7⟩;obtain⟨o,e,d⟩:=T.obj _ _ t b c;exact(p.pin (b,o) (gc _ (gc _ (tS c e)))).2.1
  cases f with
  |next=>obtain⟨a,l,p,n7⟩:=q;exact again p n7
  |cont=>obtain⟨a,l,p,n7⟩:=q;exact again p n7
  |brk=>obtain⟨a,l,p,q⟩:=q;exact⟨a,l,p.qV,q⟩
  |ret v=>obtain⟨x7,a,l,p,r7,q⟩:=q;exact⟨x7,a,l,p.qV,r7,q⟩
end
abbrev R2:=V->V->Hp->VK->Prop
def bq(X:Cx)(f:Value->Value->Sem Value)(r:R2):Prop:=
 ∀(pins:aQ) (s:Shared) (σ:St) (H:Hp) (x y:V) (v u:Value) (Q:VK),Inv X pins σ H s->RelV x v->RelV y u->r x y H Q->
  wpAny (model X.prog X.w) X.A (f v u) (EP X pins σ Q) X.xe s
def wz(X:Cx)(f:Value->Sem Value)(r:V->Hp->VK->Prop):Prop:=
 ∀(pins:aQ) (s:Shared) (σ:St) (H:Hp) (x:V) (v:Value) (Q:VK),Inv X pins σ H s->RelV x v->r x H Q->
  wpAny (model X.prog X.w) X.A (f v) (EP X pins σ Q) X.xe s
def dm(X:Cx)(f:Value)(r:List V->Hp->VK->Prop):Prop:=
 ∀(pins:aQ) (s:Shared) (σ:St) (H:Hp) (xs:List V) (us:List Value) (Q:VK),Inv X pins σ H s->Vals xs us->r xs H Q->
  wpAny (model X.prog X.w) X.A (call f us) (EP X pins σ Q) X.xe s
def qR(r:R2)(ta tb:TE):TE:=λσ H Q=>ta σ H λx H1=>tb σ H1 λy H2=>r x y H2 Q
def SQ(r:V->Hp->VK->Prop)(ta:TE):TE:=λσ H Q=>ta σ H λx H1=>r x H1 Q
def rI(C:Int->Int->Prop)(g:Int->Int->V):R2:=λx y H Q=>∃i j,x=.int i/\y=.int j/\C i j/\Q (g i j) H
def gP(g:Int->Int->V):R2:=λx y H Q=>∃i j,x=.int i/\y=.int j/\Q (g i j) H
def rU(g:Int->V):V->Hp->VK->Prop:=λx H Q=>∃i,x=.int i/\Q (g i) H
section
variable{X:Cx}{a b c:Expr}{ta tb tc:TE}{pos:Pos}
theorem wK(g:PE X a ta)(i:PE X b tb){pins:aQ}{s:Shared}{σ:St}{H:Hp}{R:V->V->Hp->Prop}(I:Inv X pins σ H s)
  (h:ta σ H λx H1=>tb σ H1 λy H2=>R x y H2){Q:aA}{f:Value->Value->Sem Value}
  (j:∀v u e x y H2,Inv X pins σ H2 e->RelV x v->RelV y u->R x y H2->wpAny (model X.prog X.w) X.A (f v u) Q X.xe e):
  wpAny (model X.prog X.w) X.A (eval a X.env) (λv c=>wpAny (model X.prog X.w) X.A (eval b X.env) (λu d=>wpAny (model X.prog X.w) X.A (f v u) Q X.xe d) X.xe c) X.xe s:=by
 refine aM (g pins s σ H _ I h) λv k ⟨x,H1,l,m,n⟩=> ?_
 refine aM (i pins k σ H1 _ l n) λu e ⟨y,H2,o,p,q⟩=> ?_
 exact j v u e x y H2 o m p q
theorem O6{op:Operator}{r:R2}(c:bq X (binaryOp op) r)(d:PE X a ta)(e:PE X b tb):PE X (.BinOp a op b pos) (qR r ta tb):=by
 intro pins s σ H Q I h;exact wpAny_BinOp (wK d e I h λv u f x y H2 g i j q=>c pins f σ H2 x y v u Q g i j q)
theorem Pb{op:UnaryOp}{r:V->Hp->VK->Prop}(b:wz X (unaryOp op) r)(c:PE X a ta):PE X (.UnaryOp op a pos) (SQ r ta):=by
 intro pins s σ H Q I h;exact UnaryOp_ (aM (c pins s σ H _ I h) λv d ⟨x,H1,e,f,g⟩=>b pins d σ H1 x v Q e f g)
theorem yw{f:Value->Value->Sem Value}{C:Int->Int->Prop}{g:Int->Int->Int}
  (rule:∀(i j:Int) (t u:Tok) (s:Shared) (Q:aA) (E:aA),C i j->Q (.int (g i j) s.toks) {s with toks:=s.toks+1}->wpAny (model X.prog X.w) X.A (f (.int i t) (.int j u)) Q E s):
  bq X f (rI C λi j=>.int (g i j)):=by
 intro pins s σ H x y v u Q I a b h;obtain⟨i,j,rfl,rfl,hc,q⟩:=h;obtain⟨t,rfl⟩:=a;obtain⟨t',rfl⟩:=b;exact rule i j t t' s _ _ hc ⟨.int (g i j),H,I.tok _,⟨_,rfl⟩,q⟩
theorem DY{f:Value->Value->Sem Value}{g:Int->Int->Int}
  (rule:∀(i j:Int) (t u:Tok) (s:Shared) (Q:aA) (E:aA),Q (.int (g i j) s.toks) {s with toks:=s.toks+1}->wpAny (model X.prog X.w) X.A (f (.int i t) (.int j u)) Q E s):
  bq X f (gP λi j=>.int (g i j)):=by
 intro pins s σ H x y v u Q I a b h;obtain⟨i,j,rfl,rfl,q⟩:=h;obtain⟨t,rfl⟩:=a;obtain⟨t',rfl⟩:=b;exact rule i j t t' s _ _ ⟨.int (g i j),H,I.tok _,⟨_,rfl⟩,q⟩
theorem yv{f:Value->Value->Sem Value}{g:Int->Int->Bool}
  (rule:∀(i j:Int) (t u:Tok) (s:Shared) (Q:aA) (E:aA),Q (.bool (g i j)) s->wpAny (model X.prog X.w) X.A (f (.int i t) (.int j u)) Q E s):
  bq X f (gP λi j=>.bl (g i j)):=by
 intro pins s σ H x y v u Q I a b h;obtain⟨i,j,rfl,rfl,q⟩:=h;obtain⟨t,rfl⟩:=a;obtain⟨t',rfl⟩:=b;exact rule i j t t' s _ _ ⟨.bl (g i j),H,I,rfl,q⟩
def rM(i j:Int):Prop:=(-(2 ^ 64)<i/\i<2 ^ 64)\/(-(2 ^ 64)<j/\j<2 ^ 64)
theorem rM.ok{i j:Int}(h:rM i j):IntMulOk i j:=by
 rcases h with⟨h1,h2⟩|⟨h1,h2⟩
 .exact .of_left (intBits_le_64 h1 h2)
 .exact .of_right (intBits_le_64 h1 h2)
theorem Oh:bq X (binaryOp .Add) (gP λi j=>.int (i+j)):=DY λ_ _ _ _ _ _ _ q=>add_int q
theorem OH:bq X (binaryOp .Sub) (gP λi j=>.int (i - j)):=DY λ_ _ _ _ _ _ _ q=>sub_int q
theorem OC:bq X (binaryOp .Mult) (rI rM λi j=>.int (i*j)):=yw λ_ _ _ _ _ _ _ hc q=>mul_int q hc.ok
theorem OB:bq X (binaryOp .Mod) (rI (λ_ j=>0<j) λi j=>.int (i%j)):=yw λi j _ _ _ _ _ hc q=>by
 have h1:(0:Int)<j:=hc;exact mod_int' (by omega) (by rw[Int.fmod_eq_emod_of_nonneg i (by omega)];exact q)
theorem To{f:Value->Sem Value}{g:Int->Int}
  (rule:∀(i:Int) (t:Tok) (s:Shared) (Q:aA) (E:aA),Q (.int (g i) s.toks) {s with toks:=s.toks+1}->wpAny (model X.prog X.w) X.A (f (.int i t)) Q E s):
  wz X f (rU λi=>.int (g i)):=by
 intro pins s σ H x v Q I a h;obtain⟨i,rfl,q⟩:=h;obtain⟨t,rfl⟩:=a;exact rule i t s _ _ ⟨.int (g i),H,I.tok _,⟨_,rfl⟩,q⟩
theorem Tp:wz X (unaryOp .USub) (rU λi=>.int (-i)):=To λ_ _ _ _ _ q=>neg_int q
end
def FT:V->V->Bool
 |.aB,.aB=>true|.aB,.int _=>true|.int _,.aB=>true|.aB,.bl _=>true|.bl _,.aB=>true|.aB,.str _=>true|.str _,.aB=>true
 |.int _,.int _=>true|.bl _,.bl _=>true|.str _,.str _=>true|.ie _,.ie _=>true
 |.int _,.str _=>true|.str _,.int _=>true|.bl _,.str _=>true|.str _,.bl _=>true
 |_,_=>false
def yI:R2:=λx y H Q=>FT x y=true/\Q (.bl (decide (x=y))) H
def yK:R2:=λx y H Q=>FT x y=true/\Q (.bl (!decide (x=y))) H
theorem BJ{i j:Int}:decide (V.int i=V.int j)=(i==j):=by
 rw[q7];simp
theorem BH{i j:Bool}:decide (V.bl i=V.bl j)=(i==j):=by
 rw[q7];simp
theorem BK{i j:Str}:decide (V.str i=V.str j)=(i==j):=by
 rw[q7];simp
theorem BI{i j:Array UInt8}:decide (V.ie i=V.ie j)=(i.toList==j.toList):=by
 rw[q7];cases i;cases j;simp
section
variable{X:Cx}{a b c:Expr}{ta tb tc:TE}{pos:Pos}
theorem bW{pins:aQ}{σ:St}{H:Hp}{s:Shared}{Q:VK}{k a:Bool}(I:Inv X pins σ H s)(q:Q (.bl k) H)(e:k=a):EP X pins σ Q (.bool a) s:=by
 subst e;exact⟨.bl k,H,I,rfl,q⟩
theorem Oq:bq X (compareOp .Eq) yI:=by
 intro pins s σ H x y v u Q I c a h;obtain⟨b,q⟩:=h;cases x with
 |aB=>
  cases c;cases y with
  |aB=>cases a;exact PySem.EqNone.eq_none_none (bW I q (by simp))
  |bl j=>cases a;exact PySem.EqNone.eq_none_bool (bW I q (by simp))
  |int j=>obtain⟨t',rfl⟩:=a;exact PySem.EqNone.eq_none_int (bW I q (by simp))
  |str j=>obtain⟨t',rfl⟩:=a;exact PySem.EqNone.eq_none_str (bW I q (by simp))
  |_=>exact absurd (show false=true from b) cC
 |bl i=>
  cases c;cases y with
  |aB=>cases a;exact PySem.EqNone.eq_bool_none (bW I q (by simp))
  |bl j=>cases a;exact eq_bool (bW I q BH)
  |str j=>obtain⟨t',rfl⟩:=a;exact PySem.EqMixed.eq_bool_str (bW I q (by simp))
  |_=>exact absurd (show false=true from b) cC
 |int i=>
  obtain⟨t,rfl⟩:=c;cases y with
  |aB=>cases a;exact PySem.EqNone.eq_int_none (bW I q (by simp))
  |int j=>obtain⟨t',rfl⟩:=a;exact eq_int (bW I q BJ)
  |str j=>obtain⟨t',rfl⟩:=a;exact PySem.EqMixed.eq_int_str (bW I q (by simp))
  |_=>exact absurd (show false=true from b) cC
 |str i=>
  obtain⟨t,rfl⟩:=c;cases y with
  |aB=>cases a;exact PySem.EqNone.eq_str_none (bW I q (by simp))
  |bl j=>cases a;exact PySem.EqMixed.eq_str_bool (bW I q (by simp))
  |int j=>obtain⟨t',rfl⟩:=a;exact PySem.EqMixed.eq_str_int (bW I q (by simp))
  |str j=>obtain⟨t',rfl⟩:=a;exact eq_str (bW I q BK)
  |_=>exact absurd (show false=true from b) cC
 |ie i=>
  obtain⟨t,rfl⟩:=c;cases y with
  |ie j=>obtain⟨t',rfl⟩:=a;exact PySem.W.eq_bytes (bW I q BI)
  |_=>exact absurd (show false=true from b) cC
 |_=>cases y<;>exact absurd (show false=true from b) cC
theorem OD:bq X (compareOp .NotEq) yK:=by
 intro pins s σ H x y v u Q I c a h;obtain⟨b,q⟩:=h;cases x with
 |aB=>
  cases c;cases y with
  |aB=>cases a;exact PySem.EqNone.ne_none_none (bW I q (by simp))
  |bl j=>cases a;exact PySem.EqNone.ne_none_bool (bW I q (by simp))
  |int j=>obtain⟨t',rfl⟩:=a;exact PySem.EqNone.ne_none_int (bW I q (by simp))
  |str j=>obtain⟨t',rfl⟩:=a;exact PySem.EqNone.ne_none_str (bW I q (by simp))
  |_=>exact absurd (show false=true from b) cC
 |bl i=>
  cases c;cases y with
  |aB=>cases a;exact PySem.EqNone.ne_bool_none (bW I q (by simp))
  |bl j=>cases a;exact ne_bool (bW I q (c7 not BH))
  |str j=>obtain⟨t',rfl⟩:=a;exact PySem.EqMixed.ne_bool_str (bW I q (by simp))
  |_=>exact absurd (show false=true from b) cC
 |int i=>
  obtain⟨t,rfl⟩:=c;cases y with
  |aB=>cases a;exact PySem.EqNone.ne_int_none (bW I q (by simp))
  |int j=>obtain⟨t',rfl⟩:=a;exact ne_int (bW I q (c7 not BJ))
  |str j=>obtain⟨t',rfl⟩:=a;exact PySem.EqMixed.ne_int_str (bW I q (by simp))
  |_=>exact absurd (show false=true from b) cC
 |str i=>
  obtain⟨t,rfl⟩:=c;cases y with
  |aB=>cases a;exact PySem.EqNone.ne_str_none (bW I q (by simp))
  |bl j=>cases a;exact PySem.EqMixed.ne_str_bool (bW I q (by simp))
  |int j=>obtain⟨t',rfl⟩:=a;exact PySem.EqMixed.ne_str_int (bW I q (by simp))
  |str j=>obtain⟨t',rfl⟩:=a;exact ne_str (bW I q (c7 not BK))
  |_=>exact absurd (show false=true from b) cC
 |ie i=>
  obtain⟨t,rfl⟩:=c;cases y with
  |ie j=>obtain⟨t',rfl⟩:=a;exact PySem.W.ne_bytes (bW I q (c7 not BI))
  |_=>exact absurd (show false=true from b) cC
 |_=>cases y<;>exact absurd (show false=true from b) cC
theorem Oz:bq X (compareOp .Lt) (gP λi j=>.bl (decide (i<j))):=yv λ_ _ _ _ _ _ _ q=>lt_int q
theorem Ow:bq X (compareOp .LtE) (gP λi j=>.bl (decide (i<=j))):=yv λ_ _ _ _ _ _ _ q=>le_int q
theorem Ov:bq X (compareOp .Gt) (gP λi j=>.bl (decide (j<i))):=yv λ_ _ _ _ _ _ _ q=>gt_int q
theorem OA:bq X (compareOp .Lt) (λx y H Q=>∃i j,x=.str i/\y=.str j/\Q (.bl (decide (i.cps.toList<j.cps.toList))) H):=by
 intro pins s σ H x y v u Q I a b h;obtain⟨i,j,rfl,rfl,q⟩:=h;obtain⟨t,rfl⟩:=a;obtain⟨t',rfl⟩:=b;exact lt_str (bW I q rfl)
theorem OG:bq X (compareOp .IsNot) (λx y H Q=>y=.aB/\Q (.bl (!decide (x=.aB))) H):=by
 intro pins s σ H x y v u Q I a b h;obtain⟨rfl,q⟩:=h;cases b;refine isnot_none_gen (bW I q ?_);cases x<;>first
  |(cases a;rfl)
  |(obtain⟨t,rfl⟩:=a;rfl)
theorem bq.or{f:Value->Value->Sem Value}{r r':R2}(h:bq X f r)(h':bq X f r'):bq X f (λx y H Q=>r x y H Q\/r' x y H Q):=by
 intro pins s σ H x y v u Q I a b q;rcases q with q|q
 .exact h pins s σ H x y v u Q I a b q
 .exact h' pins s σ H x y v u Q I a b q
theorem nJ(b:Expr){op:CmpOp}(h:op≠ .In:=by decide)(h2:op≠ .NotIn:=by decide):behindInMarks op b=false:=by
 have a:(op==CmpOp.In)=false:=by cases op<;>first|rfl|exact absurd rfl h
 have c:(op==CmpOp.NotIn)=false:=by cases op<;>first|rfl|exact absurd rfl h2
 cases b<;>simp[behindInMarks,a,c]
theorem OW{op:CmpOp}{r:R2}(c:bq X (compareOp op) r)(d:PE X a ta)(e:PE X b tb)(f:behindInMarks op b=false):PE X (.Compare a [op] [b] pos) (qR r ta tb):=by
 intro pins s σ H Q I h;exact wpAny_Compare1 (wK d e I h λv u g x y H2 i j k q=>c pins g σ H2 x y v u Q i j k q) f
def zo(t:TE):TT:=λσ H Q=>t σ H λx H'=>∃k,x=.bl k/\Q k H'
theorem P1{op:CmpOp}{r:R2}(d:bq X (compareOp op) r)(f:PE X a ta)(g:PE X b tb)(i:behindInMarks op b=false):PT X (.Compare a [op] [b] pos) (zo (qR r ta tb)):=by
 intro pins s σ H Q I h;refine wpAny_isTrue_Compare1 (aM (f pins s σ H _ I h) λv j ⟨x,H1,l,m,n⟩=>aM (g pins j σ H1 _ l n) λu o ⟨y,H2,p,q,t⟩=>
  aM (d pins o σ H2 x y v u _ p m q t) λc D ⟨z,w,A,B,k,e,C⟩=>?_) i
 subst e;cases B;exact mq ⟨w,A,C⟩
def zk(r r':R2)(ta tb tc:TE):TE:=λσ H Q=>ta σ H λx H1=>tb σ H1 λy H2=>r x y H2 λz H3=>∃k,z=.bl k/\
 (if k=true then tc σ H3 λw' H4=>r' y w' H4 Q else Q (.bl false) H3)
theorem OV{op f:CmpOp}{r r':R2}(n:bq X (compareOp op) r)(g:bq X (compareOp f) r')(o:PE X a ta)(p:PE X b tb)(hc:PE X c tc)
  (q:lastMarks [op,f] [b,c]=false:=by with_unfolding_all rfl):PE X (.Compare a [op,f] [b,c] pos) (zk r r' ta tb tc):=by
 intro pins s σ H Q I h;refine Compare_chain (aM (o pins s σ H _ I h) λv t ⟨x,H1,w,A,B⟩=>chain_link (aM (p pins t σ H1 _ w B) λu C ⟨y,H2,D,i,E⟩=>
  aM (n pins C σ H2 x y v u _ D A i E) λd F ⟨z,j,l,G,k,e,m⟩=>?_)) q
 subst e;cases G;refine mq ?_;cases k with
 |false=>exact ite_ff ⟨.bl false,j,l,rfl,m⟩
 |true=>exact ite_tt (chain_last (aM (hc pins F σ j _ l m) λJ s4 ⟨K,L,M,N,O⟩=>g pins s4 σ L y K u J Q M i N O))
theorem P0{op f:CmpOp}{r r':R2}(n:bq X (compareOp op) r)(g:bq X (compareOp f) r')(o:PE X a ta)(p:PE X b tb)(hc:PE X c tc)
  (q:lastMarks [op,f] [b,c]=false:=by with_unfolding_all rfl):PT X (.Compare a [op,f] [b,c] pos) (zo (zk r r' ta tb tc)):=by
 intro pins s σ H Q I h;refine isTrue_chain (aM (o pins s σ H _ I h) λv t ⟨x,H1,w,A,B⟩=>test_link (aM (p pins t σ H1 _ w B) λu C ⟨y,H2,D,i,E⟩=>
  aM (n pins C σ H2 x y v u _ D A i E) λd F ⟨z,j,l,G,k,e,m⟩=>?_)) q
 subst e;cases G;refine mq ?_;cases k with
 |false=>
  obtain⟨Y,J,K⟩:=m;cases J;exact ite_ff ⟨j,l,K⟩
 |true=>
  refine ite_tt (test_last (aM (hc pins F σ j _ l m) λL s4 ⟨M,N,O,P,R⟩=>aM (g pins s4 σ N y M u L _ O i P R) λd' s5 ⟨Z,S,T,U,k2,V,W⟩=>?_));subst V;cases U;exact mq ⟨S,T,W⟩
theorem Uq{κ:Type}{kvs:List (κ×V)}{vs:List (κ×Value)}(r:KV kvs vs):(!vs.isEmpty)= !kvs.isEmpty:=by
 cases r<;>rfl
theorem Ur{xs:List V}{its:List Value}(r:Vals xs its):(!its.toArray.isEmpty)= !xs.isEmpty:=by
 cases r<;>simp
theorem qd:(sizeLine:Nat)<2 ^ 63:=by rw[sizeLine_eq];decide
theorem Oi:bq X (binaryOp .Add) (λx y H Q=>∃i j,x=.str i/\y=.str j/\i.length+j.length<=sizeLine/\Q (.str (i++j)) H):=by
 intro pins s σ H x y v u Q I a b h;obtain⟨i,j,rfl,rfl,hz,q⟩:=h;obtain⟨t,rfl⟩:=a;obtain⟨t',rfl⟩:=b;exact add_str (λt' tk=>⟨.str (i++j),H,I.tok _,⟨_,rfl⟩,q⟩) hz
theorem vals1{x:V}{a:List Value}(r:Vals [x] a):∃u,a=[u]/\RelV x u:=by
 cases r with
 |cons b c=>cases c;exact⟨_,rfl,b⟩
theorem vals2{x y:V}{a:List Value}(r:Vals [x,y] a):∃u b,a=[u,b]/\RelV x u/\RelV y b:=by
 cases r with
 |cons c d=>
  cases d with
  |cons e f=>cases f;exact⟨_,_,rfl,c,e⟩
theorem wN(hc:X.calm=true):dm X (.builtin "max") (λxs H Q=>∃i j,xs=[.int i,.int j]/\Q (.int (if j>i then j else i)) H):=by
 intro pins s σ H xs b Q I r h;obtain⟨i,j,rfl,q⟩:=h;obtain⟨u,c,rfl,⟨t,rfl⟩,⟨t',rfl⟩⟩:=vals2 r;refine max_two_ints (I.ok.hd hc) λh' tk k=>⟨_,H,I.kept k,?_,q⟩;by_cases a:j>i
 .rw[aj a,aj a];exact⟨_,rfl⟩
 .rw[ai a,ai a];exact⟨_,rfl⟩
end
structure v_(h:Heap)(x dx C:Addr)(mA:au):Prop where
 obj:h.get? x=some (instObj C dx)
 ns:h.Ns1 dx mA
 ne:dx≠x
theorem Na{h:Heap}{dx:Addr}{c:au}(n:h.Ns1 dx c):∃d,h.get? dx=some d/\∀name,lookIn name d=some (c name):=by
 obtain⟨o,es,ep,f,hd,hk,_,g⟩:=n;refine⟨o,f,λname=>?_⟩;have e:=g name;unfold nsFind findBy at e;rw[<-Array.find?_toList] at e;unfold lookIn;rw[hd];dsimp only;split
 .rename_i y q
  rw[q] at e;exact c7 some e
 .rename_i q
  rw[q] at e;have a:es.toList.any (·.refKey)=false:=by
   rw[List.any_eq_false];intro y i;obtain⟨z,t,b⟩:=hk y (Array.mem_toList_iff.mp i);simp[DictEntry.refKey,b]
  have j:¬es.toList.any (·.refKey)=true:=by rw[a];exact cC
  rw[ai j];exact c7 some e
theorem v_.look{h:Heap}{x dx C:Addr}{b:au}(I:v_ h x dx C b):∃a,PySem.W.InstAt h x (instObj C dx) C (some a)/\∀name,lookIn name a=some (b name):=
 let ⟨a,c,d⟩:=Na I.ns
 ⟨a,⟨I.obj,rfl,rfl,c⟩,d⟩
theorem g8.some_of{v:V}{o:Option Value}(r:g8 (some v) o):∃u,o=some u/\RelV v u:=by
 cases o with
 |none=>exact(show False from r).elim
 |some u=>exact⟨u,rfl,r⟩
section
variable{P:Program}{w:World}{H H':Hp}{h h':Heap}{a C dx:Addr}{fs fs':List (Str×V)}
theorem Mc(hok:bR P w H h)(e:H a=some (.ins C dx fs)):∃b,v_ h a dx C b/\(∀f,g8 (fs.lookup f) (b f))/\PySem.Within b (fs.map (·.1))/\fs.length<=1000/\H dx=some (.own a):=by
 obtain⟨d,z,ne,c,b,n,r,q⟩:=(show bP P w H h a (.ins C dx fs) from hok a _ e);exact⟨b,⟨c,n,ne⟩,r,q,z,d⟩
end
structure vV(K:Frag)(C:Addr):Prop where
 pg:plainGet K C Str.empty=true
 hd:PySem.W.hasDictIn K C=true
 po:PySem.W.plainOver K C=true
 sa:findIn K (.ref C) "__setattr__"=some (some (.builtin "object.__setattr__"))
theorem vV.get{K:Frag}{C:Addr}(c:vV K C)(f:Str):plainGet K C f=true:=c.pg
section
variable{X:Cx}{pins:aQ}{σ:St}{H:Hp}{s:Shared}{A:Around}{E:aA}{Q:aA}{c:Value}{b:Bool}
inductive gk(K:Frag)(H:Hp):V->Value->Prop where
 |aB:gk K H .aB (.type "NoneType")
 |bl (x:Bool):gk K H (.bl x) (.type "bool")
 |int (i:Int):gk K H (.int i) (.type "int")
 |str (x:Str):gk K H (.str x) (.type "str")
 |ni (x:UInt64):gk K H (.ni x) (.type "float")
 |lst {a:Addr} {xs:List V} (e:H a=some (.lst xs)):gk K H (.ref a) (.type "list")
 |cT {a:Addr} {o:Obj} {xs:List V} (e:H a=some (.cT o (.lst xs))):gk K H (.ref a) (.type "list")
 |tup {a:Addr} {xs:List V} (e:H a=some (.tup xs)):gk K H (.ref a) (.type "tuple")
 |dK {a:Addr} {kvs:List (Key×V)} (e:H a=some (.dK kvs)):gk K H (.ref a) (.type "dict")
 |dT {a:Addr} {kvs:List (List Key×V)} (e:H a=some (.dT kvs)):gk K H (.ref a) (.type "dict")
 |ins {a C dx:Addr} {fs:List (Str×V)} (e:H a=some (.ins C dx fs)) (cl:vV K C) (ha:findIn K (.ref C) "__class__"=some (some (.builtin "object.__class__")))
  (hn:specialIn K (.builtin "object.__class__") "__get__"=some (some (.builtin "getset_descriptor.__get__"))) (htk:takesIn K (.builtin "object.__class__")=some true)
  (hm:mroIn K C (.type "object")=some true):gk K H (.ref a) (.ref C)
theorem Mk{x:V}{u t:Value}(I:Inv X pins σ H s)(d:RelV x u)(ty:gk X.K H x t)(e:kitOne X.K t c=some b)(h:∀tk,Q (.bool b) {s with toks:=tk}):
  wpAny (model X.prog X.w) A (call (.builtin "isinstance") [u,c]) Q E s:=by
 cases ty with
 |aB=>cases (show u=Value.none from d);exact f9 PySem.W.kitx_none I.dB True.intro e (λz=>nomatch z) h
 |bl y=>cases (show u=Value.bool y from d);exact f9 PySem.W.kitx_bool I.dB True.intro e (λz=>nomatch z) h
 |int i=>obtain⟨t,q⟩:=(show ∃t,u=Value.int i t from d);cases q;exact f9 PySem.W.kitx_int I.dB True.intro e (λz=>nomatch z) h
 |str y=>obtain⟨t,q⟩:=(show ∃t,u=Value.str y t from d);cases q;exact f9 PySem.W.kitx_str I.dB True.intro e (λz=>nomatch z) h
 |ni y=>obtain⟨t,q⟩:=(show ∃t,u=Value.float y t from d);cases q;exact f9 PySem.W.kitx_float I.dB True.intro e (λz=>nomatch z) h
 | @lst a xs f=>
  cases (show u=Value.ref a from d);obtain⟨_,_,n,_,h1⟩:=(show bP X.prog X.w H s.heap a (.lst xs) from I.hok a _ f);exact f9 kitx_list I.dB ⟨_,h1,rfl⟩ e (λz=>nomatch z) h
 | @cT a j xs f=>
  cases (show u=Value.ref a from d);obtain⟨_,_,_,n,_,h1⟩:=(show bP X.prog X.w H s.heap a (.cT j (.lst xs)) from I.hok a _ f);exact f9 kitx_list I.dB ⟨_,h1,rfl⟩ e (λz=>nomatch z) h
 | @tup a xs f=>
  cases (show u=Value.ref a from d);obtain⟨_,_,_,p⟩:=(show bP X.prog X.w H s.heap a (.tup xs) from I.hok a _ f);obtain⟨o,h1,h2,_⟩:=p.is;exact f9 kitx_tuple I.dB ⟨o,h1,h2⟩ e (λz=>nomatch z) h
 | @dK a kvs f=>
  cases (show u=Value.ref a from d);obtain⟨_,_,vs,_,p⟩:=(show bP X.prog X.w H s.heap a (.dK kvs) from I.hok a _ f);obtain⟨o,es,ep,h1,h2,_⟩:=p;exact f9 kitx_dict I.dB ⟨o,h1,h2.1⟩ e (λz=>nomatch z) h
 | @dT a kvs f=>
  cases (show u=Value.ref a from d);obtain⟨_,_,xs,_,o,es,ep,h1,h2,_⟩:=(show bP X.prog X.w H s.heap a (.dT kvs) from I.hok a _ f);exact f9 kitx_dict I.dB ⟨o,h1,h2.1⟩ e (λz=>nomatch z) h
 | @ins a C dx fs f cl k hn g l=>
  cases (show u=Value.ref a from d);obtain⟨m,O,_⟩:=Mc I.hok f;obtain⟨r,J,_⟩:=O.look;exact f9 (PySem.W.kitx_own (cl.get _) cl.hd k hn g l) I.dB J e (λz=>nomatch z) h
end
structure cR(k:Nat)(A:Around):Prop where
 hd:A.handled=none
 dp:A.depth+3*k+5<recursionLimit
 un:A.units+16*k+200<cLine
theorem cR.mono{j k:Nat}{A:Around}(r:cR k A)(h:j<=k):cR j A:=⟨r.hd,by have:=r.dp;omega,by have:=r.un;omega⟩
theorem cR.deeper{k:Nat}{A:Around}(r:cR (k+1) A)(env:Env):cR k (A.deeper env):=
 ⟨r.hd,by have:=r.dp;show A.depth+1+3*k+5<_;omega,by have:=r.un;show A.units+3+16*k+200<_;omega⟩
theorem cR.depth{k:Nat}{A:Around}(r:cR k A):A.depth<recursionLimit:=by have:=r.dp;omega
theorem cR.units{k:Nat}{A:Around}(r:cR k A):A.units+64<cLine:=by have:=r.un;omega
def Sv:TA:=λ_ H Q=>Q [] H
def Sj(ta:TE)(tr:TA):TA:=λσ H Q=>ta σ H λx H1=>tr σ H1 λxs H2=>Q (x::xs) H2
section
variable{X:Cx}{e:Expr}{es:List Expr}{te:TE}{t:TA}{pos:Pos}
theorem uH:PA X [] Sv:=λ_ _ _ _ H Q I h=>vp ⟨[],H,I,.nil,h⟩
theorem lU(a:PE X e te)(b:PA X es t)(c:starEach (e::es) X.env=(false,eval e X.env)::starEach es X.env:=by rfl):PA X (e::es) (Sj te t):=by
 intro pos pins s σ H Q I h;rw[c];show wpAny _ _ (spliced ((false,eval e X.env)::backTo pos (starEach es X.env))) _ _ s;refine vn (aM (a pins s σ H _ I h) λu d ⟨x,H1,f,g,i⟩=>?_);exact aM (b pos pins d σ H1 _ f i) λm n ⟨xs,H2,j,k,l⟩=>⟨x::xs,H2,j,.cons g k,l⟩
def SN(t:TA):TE:=λσ H Q=>t σ H λxs H1=>xs.length<=sizeLine/\∀p,H1 p=none->Q (.ref p) (upd H1 p (.tup xs))
def Ss(t:TA):TE:=λσ H Q=>t σ H λxs H1=>xs.length<=sizeLine/\∀p,H1 p=none->Q (.ref p) (upd H1 p (.lst xs))
theorem O_{d}(h:PA X es t):PE X (.Tuple es d pos) (SN t):=by
 intro pins s σ H Q I f;refine wpAny_Tuple_spliced (aM (h pos pins s σ H _ I f) λg a ⟨xs,H1,c,r,z,q⟩=>⟨by rw[<-r.length];exact z,?_⟩);have i:H1 a.heap.objs.size=none:=c.hok.fresh (aH _);refine⟨.ref a.heap.objs.size,upd H1 a.heap.objs.size (.tup xs),c.laid (t':=a.toks) (λb u e=>aT _ e) (aH _) ?_,rfl,q _ i⟩;exact⟨z,g,r,⟨_,bI _ rfl⟩⟩
theorem O3(h:PA X es t):PE X (.List es pos) (Ss t):=by
 intro pins s σ H Q I d;refine wpAny_List_spliced (aM (h pos pins s σ H _ I d) λf a ⟨xs,H1,c,r,z,q⟩=>⟨by rw[<-r.length];exact z,?_⟩);have g:H1 a.heap.objs.size=none:=c.hok.fresh (aH _);refine⟨.ref a.heap.objs.size,upd H1 a.heap.objs.size (.lst xs),c.laid (t':=a.toks) (λb u e=>aT _ e) (aH _) ?_,rfl,q _ g⟩;exact⟨z,f,0,r,bI _ rfl⟩
end
abbrev Sp:=List V->Hp->VK->XK->Prop
abbrev gH:=List Env->Hp->Shared->XK->aA
structure mL(P:Program)(w:World)(K:Frag)(mg:au)(base:Heap)(A:Around)(outer:List Env)(s:Shared)(H:Hp):Prop where
 frames:A.frames=some outer
 mod:Mod K mg base
 bs:∀b o,base.get? b=some o->s.heap.get? b=some o/\H b=none
 ic:base.objs.size<=s.heap.objs.size
 fZ:s.heap.FunFrames base outer
 i8:∀b∈frs outer,H b=none
 hok:bR P w H s.heap
 bare:AllBare s.gens
def CE(outer:List Env)(P:Program)(w:World)(H:Hp)(s:Shared)(Q:VK)(u:Value)(s':Shared):Prop:=
 ∃v H',s'.os=s.os/\AllBare s'.gens/\Un (frs outer) [] H H' s.heap s'.heap/\bR P w H' s'.heap/\RelV v u/\Q v H'
def CR(CX:gH)(outer:List Env)(P:Program)(w:World)(H:Hp)(s:Shared)(Q:VK)(E:XK)(r:Result)(s':Shared):Prop:=
 match r with
 |.ok (.ret u)=>CE outer P w H s Q u s'
 |.ok _=>False
 |.error e=>CX outer H s E e s'
structure fL(P:Program)(w:World)(K:Frag)(mg:au)(base:Heap)(CX:gH)(k:Nat)(f:Addr)(fd:FuncData)(ps:List Str)(sp:Sp):Prop where
 len:∀vs H Q E,sp vs H Q E->vs.length=ps.length
 run:∀(A:Around) (outer:List Env) (s:Shared) (H:Hp) (args:Args) (us:List Value) (vs:List V) (Q:VK) (E:XK),cR k A->mL P w K mg base A outer s H->BindsTo s fd args (ps.zip us)->Vals vs us->sp vs H Q E->
  codeAny (model P w) A (.call (.ref f) args) (CR CX outer P w H s Q E) s
theorem fL.imp{P:Program}{w:World}{K:Frag}{mg:au}{base:Heap}{CX:gH}{k:Nat}{f:Addr}{fd:FuncData}{ps:List Str}{sp a:Sp}(F:fL P w K mg base CX k f fd ps sp)
  (h:∀vs H Q E,a vs H Q E->sp vs H Q E):fL P w K mg base CX k f fd ps a:=
 ⟨λvs H Q E q=>F.len vs H Q E (h _ _ _ _ q),λA outer s H args b vs Q E c d e g i=>F.run A outer s H args b vs Q E c d e g (h _ _ _ _ i)⟩
section
variable{X:Cx}{pins:aQ}{σ:St}{H:Hp}{s s':Shared}
theorem Inv.B5(I:Inv X pins σ H s):mL X.prog X.w X.K X.mg X.base X.A X.stack s H:=
 ⟨I.ok.frames,I.ok.mod,I.bs,cY I.ok.ic I.sz,I.stack,I.zb,I.hok,I.bare⟩
theorem Inv.after{Q:VK}{u:Value}(I:Inv X pins σ H s)(h:CE X.stack X.prog X.w H s Q u s'):EP X pins σ Q u s':=by
 obtain⟨v,H',os,bare,un,hok,r,q⟩:=h;obtain⟨c,g,d,t,a⟩:=s';obtain rfl:a=s.os:=os;exact⟨v,H',I.call (h':=c) (g':=g) (d':=d) (t':=t) (ch:=[]) un hok bare (λb z=>absurd z (by simp)),r,q⟩
end
def zj(sp:Sp)(j7:List V)(E:XK)(t:TA):TE:=λσ H Q=>t σ H λvs H1=>sp (vs++j7) H1 Q E
def Binds(K:Frag)(fd:FuncData)(ps:List Str)(ds:List Value):Prop:=
 ∀(s:Shared) (us:List Value),K.In s.heap->(us++ds).length=ps.length->BindsTo s fd ⟨us,[]⟩ (ps.zip (us++ds))
theorem Binds.all{K:Frag}{fd:FuncData}{ps:List Str}(h:∀a:List Value,a.length=ps.length->bindArgs fd ⟨a,[]⟩=pure (ps.zip a)):Binds K fd ps []:=λs a _ b=>by
 rw[iN] at b ⊢;exact .of_eq (h a b)
def Passes(CX:gH)(X:Cx)(E:XK):Prop:=∀(pins:aQ) (σ:St) (H:Hp) (s:Shared) (e:Value) (s':Shared),Inv X pins σ H s->CX X.stack H s E e s'->X.xe e s'
section
variable{X:Cx}{CX:gH}{k:Nat}{f C:Addr}{fd:FuncData}{ps:List Str}{sp:Sp}{j7:List V}{ds:List Value}{E:XK}{x m:Str}{p pos apos:Pos}{e o:Expr}{es:List Expr}{ta:TE}{t:TA}
theorem QE{pins:aQ}{σ:St}{H:Hp}{s:Shared}{Q:VK}{a:List Value}{vs:List V}(F:fL X.prog X.w X.K X.mg X.base CX k f fd ps sp)(d:cR k X.A)(g:Binds X.K fd ps ds)(hd:Vals j7 ds)(i:Passes CX X E)
  (I:Inv X pins σ H s)(r:Vals vs a)(h:sp (vs++j7) H Q E):wpAny (model X.prog X.w) X.A (call (.ref f) a) (EP X pins σ Q) X.xe s:=by
 have c:Vals (vs++j7) (a++ds):=r.append hd;have j:(a++ds).length=ps.length:=by rw[<-c.length];exact F.len _ _ _ _ h
 refine oE (iP (F.run X.A X.stack s H ⟨a,[]⟩ (a++ds) (vs++j7) Q E d I.B5 (g s a I.dB j) c h) λr s' b=>?_);cases r with
 |error e=>exact i pins σ H s e s' I b
 |ok fl=>
  cases fl with
  |ret u=>exact I.after b
  |next=>exact False.elim b
  |brk=>exact False.elim b
  |cont=>exact False.elim b
theorem OR(F:fL X.prog X.w X.K X.mg X.base CX k f fd ps sp)(d:cR k X.A)(g:Gl X x)(i:X.mg x=some (.ref f))(hk:keepIn X.K (.ref f)=true)(j:Binds X.K fd ps ds)(hd:Vals j7 ds)(l:Passes CX X E)
  (m:PA X (e::es) t)(a:(x==("__debug__":Str))=false:=by decide)(n:starEach (e::es) X.env=(false,eval e X.env)::starEach es X.env:=by rfl)(b:(backTo pos (starEach es X.env)).any (·.1)=false:=by rfl):
  PE X (.Call (.Name x p) (e::es) [] pos) (zj sp j7 E t):=by
 intro pins s σ H Q I h;refine jl (qc I g i ?_ a);refine callWith_K (h₀:=X.base) I.ok.mod.nE hk (aM (m pos pins s σ H _ I h) λo u ⟨vs,H1,c,r,q⟩=>⟨c.dB,?_⟩) n b;exact QE F d j hd l c r q
end
structure bf(N P:List Str)(sc:Scope):Prop where
 kind:sc.kind= .function
 co:sc.isCoroutine=false
 gen:sc.isGenerator=false
 nd:N.Nodup
 pre:N.take P.length=P
 par:∀x∈P,sc.names.lookup x=some .local\/sc.names.lookup x=some .cell
 yp:∀y∈sc.names,y.2≠ .free
theorem Bd{kindOf:Str->Option NameKind}{x:Str}:∀{binds:List (Str×Value)} {m:au},(∀v,(x,v)∉binds)->bindL kindOf binds m x=m x
 |[],_,_=>rfl
 |(n,v)::r,m,h=>by
  unfold bindL;rw[Bd λw a=>h w (b9 _ a)];split
  .have:x≠n:=by rintro rfl;exact h v cB
   simp[this]
  .rfl
theorem Bb{kindOf:Str->Option NameKind}{x:Str}:∀{binds:List (Str×Value)} {m:au},(∀v,(x,v)∉binds)->bindC kindOf binds m x=m x
 |[],_,_=>rfl
 |(n,v)::r,m,h=>by
  unfold bindC;rw[Bb λw a=>h w (b9 _ a)];split
  .rfl
  .have:x≠n:=by rintro rfl;exact h v cB
   simp[this]
theorem Bc{kindOf:Str->Option NameKind}{x:Str}{v:Value}:∀{P:List Str} {vs:List Value} {i:Nat} {m:au},P.Nodup->P[i]?=some x->vs[i]?=some v->kindOf x=some .local->
  bindL kindOf (P.zip vs) m x=some v
 |[],_,_,_,_,h,_,_=>by simp at h
 |_::_,[],_,_,_,_,h,_=>by simp at h
 |p::P,w::vs,0,m,nd,h1,h2,hk=>by
  simp at h1 h2;subst h1;subst h2;show bindL kindOf ((p,w)::P.zip vs) m p=_;unfold bindL;rw[Bd λv a=>(jR.mp nd).1 (of_mem_zip a).1,aj hk];simp
 |p::P,w::vs,i+1,m,nd,h1,h2,hk=>by
  show bindL kindOf ((p,w)::P.zip vs) m x=_;unfold bindL;exact Bc (i:=i) (jR.mp nd).2 (by simpa using h1) (by simpa using h2) hk
theorem Ba{kindOf:Str->Option NameKind}{x:Str}{v:Value}:∀{P:List Str} {vs:List Value} {i:Nat} {m:au},P.Nodup->P[i]?=some x->vs[i]?=some v->kindOf x≠some .local->
  bindC kindOf (P.zip vs) m x=some v
 |[],_,_,_,_,h,_,_=>by simp at h
 |_::_,[],_,_,_,_,h,_=>by simp at h
 |p::P,w::vs,0,m,nd,h1,h2,hk=>by
  simp at h1 h2;subst h1;subst h2;show bindC kindOf ((p,w)::P.zip vs) m p=_;unfold bindC;rw[Bb λv a=>(jR.mp nd).1 (of_mem_zip a).1,ai hk];simp
 |p::P,w::vs,i+1,m,nd,h1,h2,hk=>by
  show bindC kindOf ((p,w)::P.zip vs) m x=_;unfold bindC;exact Ba (i:=i) (jR.mp nd).2 (by simpa using h1) (by simpa using h2) hk
def start(N:List Str)(vs:List V):St:=vs.map some++replicate (N.length - vs.length) none
def bM(CX:gH)(P:Program)(w:World)(K:Frag)(mg:au)(base:Heap)(N:List Str)(qual:Str)(scope:Scope)(f:Addr)(cd:Value)(A:Around)(outer:List Env)(s:Shared)(H:Hp)(E:XK):Cx where
 prog:=P
 w:=w
 K:=K
 mg:=mg
 base:=base
 A:=A.deeper (envOfC qual scope s.heap.objs.size f cd)
 N:=N
 s₀:=s
 H₀:=H
 env:=envOfC qual scope s.heap.objs.size f cd
 outer:=outer
 stack:=envOfC qual scope s.heap.objs.size f cd::outer
 ex:=[]
 calm:=true
 fn:=λ_=>true
 pn:=[]
 xe:=λe s'=>wpAny (model P w) (A.deeper (envOfC qual scope s.heap.objs.size f cd)) (leaving (envOfC qual scope s.heap.objs.size f cd) e) (λ_ s''=>CX outer H s E e s'') (λe' s''=>CX outer H s E e' s'') s'
theorem Bj{sc:Scope}{n:Nat}{x:Str}(h:sc.names.lookup x=some .cell):∃c,(cellsFrom n sc.names []).lookup x=some c:=by
 have q:=cellsFrom_some sc.names n [] (.inl h);exact Option.isSome_iff_exists.mp q
theorem CW{CX:gH}{P:Program}{w:World}{K:Frag}{mg:au}{base:Heap}{N ps:List Str}{qual:Str}{scope:Scope}{f:Addr}{cd:Value}{A:Around}{outer:List Env}{s o:Shared}{H:Hp}{E:XK}{m:List Value}{vs:List V}
  (S:bf N ps scope)(hd:A.handled=none)(d:mL P w K mg base A outer s H)(F:vs.length=ps.length)(r:Vals vs m)
  (x:InCallC s s.heap.objs.size (bindL (envOfC qual scope s.heap.objs.size f cd).kindOf (ps.zip m) λ_=>none) (cellsFrom (s.heap.objs.size+1) scope.names []) (bindC (envOfC qual scope s.heap.objs.size f cd).kindOf (ps.zip m) λ_=>none) o):
  Inv (bM CX P w K mg base N qual scope f cd A outer s H E) [] (start N vs) H o:=by
 have B:ps.length<=N.length:=by have:=c7 List.length S.pre;rw[gV] at this;omega
 obtain⟨h1,tk,rfl,hk⟩:=x.done
 have g:∀b:Addr,b∉(bM CX P w K mg base N qual scope f cd A outer s H E).ex:=λb z=>absurd (show b∈([]:List Addr) from z) (by simp)
 refine⟨⟨d.mod,S.kind,rfl,rfl,aH _,λy z c h1 h2=> ?_,λy hy=> ?_,λy c _ h=> ?_,λ_=>hd,Around.frames_deeper d.frames,.inr ⟨rfl,rfl⟩,λb z=>absurd z (g b),d.bs,d.ic,λb _ _=>g b,λb z=>absurd z (g b),d.fZ,d.i8⟩,
  rfl,d.bare,Un.kept hk,⟨_,x.toInCall.ns,λi y v h1 h2 h3=> ?_⟩,λy c h=>⟨_,x.cell y c h⟩,d.hok.fresh (aH _),λy c h=> ?_,λp j=>absurd (show p∈([]:aQ) from j) (by simp),d.hok.kept hk,?_⟩
 .exact name_of_addr x.apart (kU h1) (kU h2)
 .have hy:scope.names.lookup y=some .cell\/scope.names.lookup y=some .free:=hy
  rcases hy with hy|hy
  .exact Bj hy
  .exact absurd rfl (S.yp _ (kU hy))
 .exact ji (x.above y c (kU h))
 .have hi:i<vs.length:=by
   unfold start at h2
   by_cases hi:i<vs.length
   .exact hi
   .rw[kE (by simpa using hi)] at h2
    rw[vL] at h2
    split at h2<;>cases h2
  have C:vs[i]? =some v:=by
   unfold start at h2
   rw[gU (by simpa using hi),cy] at h2
   cases e:vs[i]? with
   |none=>rw[e] at h2;cases h2
   |some a=>rw[e] at h2;cases h2;rfl
  obtain⟨u,t,D⟩:=r.get C
  have j:ps[i]? =some y:=by
   rw[<-S.pre,List.getElem?_take_of_lt (by omega)];exact h1
  have l:ps.Nodup:=by rw[<-S.pre];exact S.nd.sublist (gX _ _)
  refine⟨u,D,?_⟩
  rcases S.par y (jj j) with k|k
  .exact .inl ⟨k,Bc l j t k⟩
  .obtain⟨c,e⟩:=Bj (n:=s.heap.objs.size+1) k
   refine .inr ⟨.inl k,c,e,?_⟩
   have q:=x.cell y c e
   rw[Ba l j t (by show scope.names.lookup y≠_;rw[k];decide)] at q
   exact q
 .exact d.hok.fresh (ji (x.above y c (kU h)))
 .unfold start
  show _=N.length
  rw[cA,a_,List.length_replicate]
  omega
theorem Ce{CX:gH}{P:Program}{w:World}{K:Frag}{mg:au}{base:Heap}{k:Nat}{f:Addr}{name qual:Str}{params:Arguments}{body:List Stmt}{scope:Scope}{z kV doc pm a ct D:Value}{an F:Option Addr}
  {j:Array (Option Value)}{N ps:List Str}{sp:Sp}(lk:K.lookup f=some ⟨D,F,.func (fnOf name qual params body scope z kV doc pm an a ct),j⟩)(l:codeIn K a qual=true)(S:bf N ps scope)
  (len:∀vs H Q E,sp vs H Q E->vs.length=ps.length)
  (c:∀(A:Around) (outer:List Env) (s:Shared) (H:Hp) (vs:List V) (Q:VK) (E:XK),cR k (A.deeper (envOfC qual scope s.heap.objs.size f a))->sp vs H Q E->
   ∃t,cj (bM CX P w K mg base N qual scope f a A outer s H E) body t/\t {nx:=λ_ H'=>Q .aB H',rt:=Q} (start N vs) H):
  fL P w K mg base CX (k+1) f (fnOf name qual params body scope z kV doc pm an a ct) ps sp:=by
 refine⟨len,λA outer s H args G vs Q E m h L r i=> ?_⟩
 have M:=len _ _ _ _ i
 have B:K.In s.heap:=h.mod.nE.keeps λb o e=>(h.bs b o e).1
 have lim:s.heap.NoLimit:=h.mod.nolimit.keeps λb o e=>(h.bs b o e).1
 have d:∀y∈ps.zip G,scope.names.lookup y.1=some .local\/(scope.names.lookup y.1=some .cell/\((cellsFrom (s.heap.objs.size+1) scope.names []).lookup y.1).isSome=true):=λ⟨n,v⟩ O=>by
  rcases S.par n (of_mem_zip O).1 with q|q
  .exact .inl q
  .exact .inr ⟨q,cellsFrom_some _ _ _ (.inl q)⟩
 refine codeAny_call_function m.depth (B _ _ lk) rfl S.co S.gen rfl (codeRec_of B l) (L _ _ _ _ ?_)
 refine wpAny_newFunctionEnv_cells S.kind d λenv R C x=> ?_
 subst R
 refine⟨lim.keeps x.toInCall.keep,codeAny_func ?_⟩
 obtain⟨t,T,U⟩:=c A outer s H vs Q E (m.deeper _) i
 have I:Inv (bM CX P w K mg base N qual scope f a A outer s H E) [] (start N vs) H C:=CW S m.hd h M r x
 refine gD (T [] C (start N vs) H _ I U) (λfl s' g=> ?_) λe s' g=>g
 have fin:∀{σ':St} {H':Hp} {v:V} {u:Value},Inv (bM CX P w K mg base N qual scope f a A outer s H E) [] σ' H' s'->RelV v u->Q v H'->CE outer P w H s Q u s':=
  λ {σ' H' v u} J p q=>⟨v,H',J.os,J.bare,J.base,J.hok,p,q⟩
 cases fl with
 |ret u=>
  obtain⟨v,σ',H',J,p,q⟩:=g
  exact fin J p q
 |next=>
  obtain⟨σ',H',J,q⟩:=g
  exact fin (v:=V.aB) (u:=Value.none) J rfl q
 |brk=>
  obtain⟨_,_,_,q⟩:=g
  exact False.elim q
 |cont=>
  obtain⟨_,_,_,q⟩:=g
  exact False.elim q
section
variable{X:Cx}{x:Str}{p pos:Pos}{e:Expr}{es:List Expr}{t:TA}{id T:String}{r:List V->Hp->VK->Prop}
def zh(r:List V->Hp->VK->Prop)(t:TA):TE:=λσ H Q=>t σ H λvs H1=>r vs H1 Q
theorem uI(hc:dm X (.builtin id) r)(c:Gl X x)(d:X.mg x=none)(f:bootBuiltins x=some (.builtin id))(g:PA X (e::es) t)(hn:x≠"__name__":=by decide)(a:(x==("__debug__":Str))=false:=by decide)
  (i:starEach (e::es) X.env=(false,eval e X.env)::starEach es X.env:=by rfl)(b:(backTo pos (starEach es X.env)).any (·.1)=false:=by rfl):PE X (.Call (.Name x p) (e::es) [] pos) (zh r t):=by
 intro pins s σ H Q I h;refine jl (i_ I c d f ?_ hn a);exact zE (aM (g pos pins s σ H _ I h) λj k ⟨vs,H1,l,m,n⟩=>hc pins k σ H1 vs j Q l m n) i b
theorem OT(hc:dm X (.type T) r)(c:Gl X x)(d:X.mg x=none)(f:bootBuiltins x=some (.type T))(g:PA X (e::es) t)(hn:x≠"__name__":=by decide)(a:(x==("__debug__":Str))=false:=by decide)
  (i:starEach (e::es) X.env=(false,eval e X.env)::starEach es X.env:=by rfl)(b:(backTo pos (starEach es X.env)).any (·.1)=false:=by rfl):PE X (.Call (.Name x p) (e::es) [] pos) (zh r t):=by
 intro pins s σ H Q I h;refine jl (i_ I c d f ?_ hn a);exact nZ (aM (g pos pins s σ H _ I h) λj k ⟨vs,H1,l,m,n⟩=>hc pins k σ H1 vs j Q l m n) i b
end
end L2
end
namespace HT
open PySem PyProof.Rows
section
variable{prog:Program}{w:World}{A:Around}{E:aA}{s:Shared}
theorem Im{t b:Addr}{vs ws:List Value}{Q:aA}(l:IsTup s.heap t vs.toArray)(m:IsTup s.heap b ws.toArray)(i:vs≠[])
  (h1:ws=[]->Q (.ref t) s)(h2:ws≠[]->Q (.ref s.heap.objs.size) {s with heap:=s.heap.push {cls:= .type "tuple",data:= .seq (vs++ws).toArray}})
  (hsz:vs.length+ws.length<=sizeLine):wpAny (model prog w) A (binaryOp .Add (.ref t) (.ref b)) Q E s:=by
 obtain⟨⟨cls,dd,data,j⟩,g,hc,n,hd⟩:=id l
 obtain⟨⟨k,c,data2,d⟩,a,f,n2,hd2⟩:=id m
 simp only at hc hd f hd2
 subst hc hd f hd2
 have e:vs.toArray++ws.toArray=(vs++ws).toArray:=by simp
 by_cases h:ws=[]
 .exact concat_meets ⟨_,g,rfl⟩ ⟨_,a,rfl⟩ noFill_tuple_add seq_tuple_add slot_tuple_add entry_tuple_add (args_tuple_add_2 _ _)
   (tuple_addW1 t b vs.toArray ws.toArray n n2 dd c j d (by simpa using i) (by simp[h])) ⟨g,a,h1 h⟩
 .refine concat_meets ⟨_,g,rfl⟩ ⟨_,a,rfl⟩ noFill_tuple_add seq_tuple_add slot_tuple_add entry_tuple_add (args_tuple_add_2 _ _)
   (tuple_addW2 t b vs.toArray ws.toArray n n2 dd c j d (by simpa using i) (by simpa using h) (by rw[bH,bH];exact hsz)) ⟨g,a,?_⟩
  rw[e]
  exact h2 h
def aR(n d:Nat):Option Int->Nat
 |none=>d
 |some v=>if v<0 then (v+(n:Int)).toNat else min v.toNat n
theorem QK(n d:Nat)(hd:d<=n)(o:Option Int):aR n d o<=n:=by
 cases o with
 |none=>exact hd
 |some v=>
  show(if v<0 then (v+(n:Int)).toNat else min v.toNat n)<=n;by_cases a:v<0
  .rw[aj a];omega
  .rw[ai a];exact Nat.min_le_right _ _
theorem Bl(v:Int)(n d:Nat):(if v<0 then max (v+(n:Int)) 0 else min v (n:Int))=((aR n d (some v):Nat):Int):=by
 show(if v<0 then max (v+(n:Int)) 0 else min v (n:Int))=(((if v<0 then (v+(n:Int)).toNat else min v.toNat n):Nat):Int);by_cases a:v<0
 .simp only[aj a];omega
 .simp only[ai a];omega
theorem Hw(lo hi:Option Int)(n:Nat):Builtin.Slice.sliceAdjust lo hi 1 (n:Int)=(((aR n 0 lo:Nat):Int),((aR n n hi:Nat):Int)):=by
 have h1:¬((1:Int)<0):=by omega
 unfold Builtin.Slice.sliceAdjust;simp only[h1,e_];refine Prod.ext ?_ ?_
 .cases lo with
  |none=>rfl
  |some v=>exact Bl v n 0
 .cases hi with
  |none=>rfl
  |some v=>exact Bl v n n
theorem Pq(i j:Nat):Builtin.Slice.slicePlaces (i:Int) (j:Int) 1=j - i:=by
 unfold Builtin.Slice.slicePlaces;have h1:(1:Int)>0:=by omega
 simp only[h1,jh,Int.ediv_one];split<;>omega
theorem FZ{v:Value}{o:Option Int}{Q:Option Int->Shared->Prop}(p:IsPart v o)(h:Q o s):wpAny (model prog w) A (Builtin.Slice.slicePartIndex v) Q E s:=by
 cases p with
 |none=>exact slicePart_none h
 |int i t=>exact slicePart_int h
theorem RG{e:Addr}{c d:Value}{lo hi:Option Int}{n:Nat}{Q:Int×Int×Nat->Shared->Prop}(f:s.heap.IsSliceOf e c d .none)(g:IsPart c lo)(pu:IsPart d hi)
  (h:Q (((aR n 0 lo:Nat):Int),1,aR n n hi - aR n 0 lo) s):wpAny (model prog w) A (Builtin.Slice.sliceApplied (.ref e) (pure (n:Int))) Q E s:=by
 obtain⟨os,a,i,b⟩:=id f;unfold Builtin.Slice.sliceApplied Builtin.Slice.sliceFields;refine af (af (iJ a b (x:=c) rfl (af (iJ a b (x:=d) rfl (af (iJ a b (x:=.none) rfl (ak ?_)))))));refine af (slicePart_none ?_);show wpAny _ _ (if ((1:Int)==0)=true then _ else _) _ _ s;rw[ai (by decide)];refine af (FZ g (af (FZ pu (af (ak ?_)))));show wpAny _ _ (match Builtin.Slice.sliceAdjust lo hi 1 (n:Int) with|(lo,hi)=>pure (lo,(1:Int),Builtin.Slice.slicePlaces lo hi 1)) _ _ s;rw[Hw lo hi n];show wpAny _ _ (pure (((aR n 0 lo:Nat):Int),(1:Int),Builtin.Slice.slicePlaces ((aR n 0 lo:Nat):Int) ((aR n n hi:Nat):Int) 1)) _ _ s;rw[Pq];exact ak h
theorem Pn(xs:Array Value)(i k:Nat):((range k).filterMap λ(m:Nat)=>xs[((i:Int)+(m:Int)*1).toNat]?).toArray=((xs.toList.drop i).take k).toArray:=by
 have e:(λ(m:Nat)=>xs[((i:Int)+(m:Int)*1).toNat]?)=λm=>xs[i+m]? :=by
  funext m;have:((i:Int)+(m:Int)*1).toNat=i+m:=by omega
  rw[this]
 rw[e];have:=pick_run xs i k;rw[List.filterMap_map] at this;have a:((λx=>xs[x]?)∘λx=>i+x)=λm=>xs[i+m]? :=rfl;rw[a] at this;rw[this]
theorem Ly{t c:Addr}{items:Array Value}{i j:Value}{lo hi:Option Int}{Q:aA}(b:IsTup s.heap t items)(k:s.heap.IsSliceOf c i j .none)(l:IsPart i lo)(pu:IsPart j hi)
  (n:¬(aR items.size 0 lo=0/\aR items.size items.size hi=items.size))
  (h:Q (.ref s.heap.objs.size) {s with heap:=s.heap.push {cls:= .type "tuple",data:= .seq ((items.toList.drop (aR items.size 0 lo)).take (aR items.size items.size hi - aR items.size 0 lo)).toArray}})
  (hsz:items.size<=sizeLine):wpAny (model prog w) A (getItem (.ref t) (.ref c)) Q E s:=by
 have a:sizeOk (.seq ((items.toList.drop (aR items.size 0 lo)).take (aR items.size items.size hi - aR items.size 0 lo)).toArray):=by
  show((items.toList.drop (aR items.size 0 lo)).take (aR items.size items.size hi - aR items.size 0 lo)).toArray.size<=sizeLine
  rw[bH,gV,iE,bE]
  omega
 have p:aR items.size items.size hi<=items.size:=QK _ _ (aH _) hi
 obtain⟨os,d,e,o⟩:=id k
 have f:s.TypeIs (.ref c) "slice":=⟨os,d,e⟩
 unfold getItem
 try with_reducible refine dR ?_
 first|refine af (ak ?_)|skip
 refine af (wpAny_sequenceKey b.typeIs (by decide) ?_)
 refine af (l8 (name:=Str.ofString "__getitem__") b.typeIs zH
  (gY zH b.typeIs entry_tuple_getitem ?_ (args_tuple_getitem _ _)))
 show wpAny _ _ (Builtin.Tuple.tupleItemsOf (.ref t)>>=_) _ _ s
 refine af (tupleItemsOf_ b ?_)
 refine af (kR f ?_)
 rw[aj (by decide)]
 refine af (RG k l pu ?_)
 have g:¬((((aR items.size 0 lo:Nat):Int)==0&&(1:Int)==1&&(aR items.size items.size hi - aR items.size 0 lo)==items.size)=true):=by
  intro q
  rw[dh,dh] at q
  have r:((aR items.size 0 lo:Nat):Int)=0:=oQ q.1.1
  have u:aR items.size items.size hi - aR items.size 0 lo=items.size:=oQ q.2
  exact n ⟨by omega,by omega⟩
 show wpAny _ _ (if (((aR items.size 0 lo:Nat):Int)==0&&(1:Int)==1&&(aR items.size items.size hi - aR items.size 0 lo)==items.size)=true then _ else _) _ _ s
 rw[ai g,Pn]
 first
  |exact af (m:=Builtin.Tuple.tupleExact _) (fm (ak ⟨_,rfl,ak h⟩) a)
  |exact af (m:=Builtin.Tuple.tupleExact _) (fm (af (ak (ak ⟨_,rfl,ak h⟩))) a)
  |exact af (af (m:=Builtin.Tuple.tupleExact _) (fm (ak (ak ⟨_,rfl,ak h⟩)) a))
  |exact af (af (m:=Builtin.Tuple.tupleExact _) (fm (ak ⟨_,rfl,ak h⟩) a))
end
end HT
section
open PySem PySem.Spec PyProof.Rows
namespace L2
abbrev TO:=St->Hp->(Option Int->Hp->Prop)->Prop
def PO(X:Cx)(e:Option Expr)(t:TO):Prop:=
 ∀(pins:aQ) (s:Shared) (σ:St) (H:Hp) (Q:Option Int->Hp->Prop),Inv X pins σ H s->t σ H Q->
  wpAny (model X.prog X.w) X.A (evalPart e X.env) (λu s'=>∃o H',Inv X pins σ H' s'/\IsPart u o/\Q o H') X.xe s
def Sw:TO:=λ_ H Q=>Q none H
def SA(t:TE):TO:=λσ H Q=>t σ H λx H1=>∃i,x=.int i/\Q (some i) H1
section
variable{X:Cx}{e:Expr}{te:TE}{lo hi:Option Expr}{tl th:TO}{pos p2:Pos}
theorem Pu:PO X none Sw:=by
 intro pins s σ H Q I h;rw[evalPart_none];exact ak ⟨none,H,I,.none,h⟩
theorem Pw(h:PE X e te):PO X (some e) (SA te):=by
 intro pins s σ H Q I a;rw[evalPart_some];refine aM (h pins s σ H _ I a) λu f ⟨x,H1,b,c,d⟩=>?_;obtain⟨i,rfl,q⟩:=d;obtain⟨t,rfl⟩:=c;exact⟨some i,H1,b,.int i t,q⟩
def k8(X:Cx)(r:V->Option Int->Option Int->Hp->VK->Prop):Prop:=
 ∀(pins:aQ) (s:Shared) (σ:St) (H:Hp) (x:V) (v vl vu:Value) (lo hi:Option Int) (sl:Addr) (Q:VK),Inv X pins σ H s->RelV x v->s.heap.IsSliceOf sl vl vu .none->IsPart vl lo->IsPart vu hi->r x lo hi H Q->
  ∃T id,typeLookup (.type T) "__getitem__"=pure (some (.builtin id))/\s.TypeIs v T/\wpAny (model X.prog X.w) X.A (getItem v (.ref sl)) (EP X pins σ Q) X.xe s
theorem k8.or{r r':V->Option Int->Option Int->Hp->VK->Prop}(h:k8 X r)(h':k8 X r'):k8 X (λx lo hi H Q=>r x lo hi H Q\/r' x lo hi H Q):=by
 intro pins s σ H x v a b lo hi c Q I d e f pu q;rcases q with q|q
 .exact h pins s σ H x v a b lo hi c Q I d e f pu q
 .exact h' pins s σ H x v a b lo hi c Q I d e f pu q
def SH(r:V->Option Int->Option Int->Hp->VK->Prop)(te:TE)(tl th:TO):TE:=λσ H Q=>te σ H λx H1=>tl σ H1 λl H2=>th σ H2 λu H3=>r x l u H3 Q
theorem O7{r:V->Option Int->Option Int->Hp->VK->Prop}(g:k8 X r)(i:PE X e te)(j:PO X lo tl)(k:PO X hi th):PE X (.Subscript e (.Slice lo hi none p2) pos) (SH r te tl th):=by
 intro pins s σ H Q I h;refine Subscript_ (aM (i pins s σ H _ I h) λv m ⟨x,H1,n,o,p⟩=>?_);refine wpAny_Slice (aM (j pins m σ H1 _ n p) λc t ⟨l,H2,y,z,B⟩=>aM (k pins t σ H2 _ y B) λd a ⟨u,f,C,pu,D⟩=>?_);rw[evalPart_none];refine ak ?_;have E:Inv X pins σ f {a with heap:=a.heap.push {cls:=.type "slice",data:=.fields #[c,d,.none]}}:=C.kept (t':=a.toks) λb K q=>aT _ q;obtain⟨T,id,F,G,J⟩:=g pins {a with heap:=a.heap.push {cls:=.type "slice",data:=.fields #[c,d,.none]}} σ f x v c d l u a.heap.objs.size Q E o (Heap.IsSliceOf.new ..) z pu D;show wpAny (model X.prog X.w) X.A (subscriptTail e (.Slice lo hi none p2) v (.ref a.heap.objs.size)) (EP X pins σ Q) X.xe {a with heap:=a.heap.push {cls:=.type "slice",data:=.fields #[c,d,.none]}};exact tail_any (ops:=[.ref a.heap.objs.size,v]) G F J (by with_unfolding_all rfl)
def jY(xs:List V)(lo hi:Option Int):List V:=(xs.drop (HT.aR xs.length 0 lo)).take (HT.aR xs.length xs.length hi - HT.aR xs.length 0 lo)
theorem Bs(xs:List V)(lo hi:Option Int):(jY xs lo hi).length<=xs.length:=by
 unfold jY;rw[gV,iE];omega
def Qn(K:Frag):V->Option Int->Option Int->Hp->VK->Prop:=λx lo hi H Q=>∃a xs,x=.ref a/\bg K H a xs/\
 ¬(HT.aR xs.length 0 lo=0/\HT.aR xs.length xs.length hi=xs.length)/\∀p,H p=none->Q (.ref p) (upd H p (.tup (jY xs lo hi)))
theorem RD:k8 X (Qn X.K):=by
 intro pins s σ H x v k l lo hi m Q I e f g pu h;obtain⟨a,xs,rfl,i,j,q⟩:=h;cases e;obtain⟨its,r,d,hz⟩:=I.tuple i;have c:its.toArray.size=xs.length:=by rw[bH];exact r.length.symm
 refine⟨"tuple",_,zH.lookup,d.typeIs,?_⟩;refine HT.Ly d f g pu (by rw[c];exact j) ?_ (by rw[c];exact hz);rw[c];refine⟨.ref s.heap.objs.size,_,I.laid (t':=s.toks) (o:=.tup (jY xs lo hi)) (λb n q=>aT _ q) (aH _) ?_,rfl,q _ (I.hok.fresh (aH _))⟩;exact⟨cY (Bs xs lo hi) hz,_,(r.drop (HT.aR xs.length 0 lo)).take (HT.aR xs.length xs.length hi - HT.aR xs.length 0 lo),jX.new _ _⟩
def Qk(K:Frag):R2:=λx y H Q=>∃a b xs ys,x=.ref a/\y=.ref b/\bg K H a xs/\bg K H b ys/\xs≠[]/\xs.length+ys.length<=sizeLine/\
 (ys=[]->Q (.ref a) H)/\(ys≠[]->∀p,H p=none->Q (.ref p) (upd H p (.tup (xs++ys))))
theorem Vals.ym{xs:List V}{a:List Value}(r:Vals xs a):a=[]↔xs=[]:=by
 cases r with
 |nil=>simp
 |cons _ _=>simp
theorem Om:bq X (binaryOp .Add) (Qk X.K):=by
 intro pins s σ H x y v u Q I f g h;obtain⟨a,b,xs,ys,rfl,rfl,i,j,k,hz,l,m⟩:=h;cases f;cases g;obtain⟨its,d,p1,_⟩:=I.tuple i;obtain⟨e,c,p2,_⟩:=I.tuple j;refine HT.Im p1 p2 (λz=>k (d.ym.mp z)) (λz=>⟨.ref a,H,I,rfl,l (c.ym.mp z)⟩) (λz=>?_) (by rw[<-d.length,<-c.length];exact hz);refine⟨.ref s.heap.objs.size,_,I.laid (t':=s.toks) (o:=.tup (xs++ys)) (λb n q=>aT _ q) (aH _) ?_,rfl,m (λw=>z (c.ym.mpr w)) _ (I.hok.fresh (aH _))⟩;exact⟨by rw[cA];exact hz,_,d.append c,jX.new _ _⟩
end
def jF(n:Nat)(i:Int):Option Nat:=if 0<=i then (if i<n then some i.toNat else none) else if -(n:Int)<=i then some (i+n).toNat else none
def cJ{α:Type}(xs:List α)(i:Int):Option α:=(jF xs.length i).bind λj=>xs[j]?
theorem Mp{n:Nat}{i:Int}{j:Nat}(h:jF n i=some j):seqIndex? i n=some j/\j<n/\-(n:Int)<=i/\i<n:=by
 unfold jF at h;by_cases h0:0<=i
 .rw[aj h0] at h
  by_cases h1:i<n
  .rw[aj h1] at h
   have e:i.toNat=j:=Option.some.inj h;exact⟨by rw[seqIndex_of h0 h1,e],by omega,by omega,h1⟩
  .rw[ai h1] at h;cases h
 .rw[ai h0] at h
  by_cases h1: -(n:Int)<=i
  .rw[aj h1] at h
   have e:(i+n).toNat=j:=Option.some.inj h;exact⟨by rw[seqIndex_neg (by omega) h1,e],by omega,h1,by omega⟩
  .rw[ai h1] at h;cases h
theorem wF{α:Type}{xs:List α}{i:Int}{v:α}(h:cJ xs i=some v):∃j,seqIndex? i xs.length=some j/\xs[j]?=some v/\j<xs.length/\-(xs.length:Int)<=i/\i<xs.length:=by
 unfold cJ at h;cases e:jF xs.length i with
 |none=>rw[e] at h;cases h
 |some j=>
  rw[e] at h;obtain⟨h1,h2,h3,a⟩:=Mp e;exact⟨j,h1,h,h2,h3,a⟩
theorem pI{α:Type}{xs:List α}{j:Nat}{v:α}(h:xs[j]?=some v):cJ xs (j:Int)=some v:=by
 have a:j<xs.length:=(bL.mp h).1;have e:jF xs.length (j:Int)=some j:=by
  unfold jF;rw[aj (by omega),aj (by omega)];simp
 unfold cJ;rw[e];exact h
def we(b:Expr):Prop:=∀o i,subscripted b false o i=operate [o,i] (getItem o i)
def g6(X:Cx)(r:R2):Prop:=
 ∀(value slice:Expr) (pins:aQ) (s:Shared) (σ:St) (H:Hp) (x y:V) (v u:Value) (Q:VK),Inv X pins σ H s->RelV x v->RelV y u->r x y H Q->
  subscripted slice false v u=operate [v,u] (getItem v u)->wpAny (model X.prog X.w) X.A (subscriptTail value slice v u) (EP X pins σ Q) X.xe s
def Ae(X:Cx)(id:String)(r:V->List V->Hp->VK->Prop):Prop:=
 ∀(pins:aQ) (s:Shared) (σ:St) (H:Hp) (x:V) (xs:List V) (v:Value) (us:List Value) (Q:VK),Inv X pins σ H s->RelV x v->Vals xs us->r x xs H Q->
  wpAny (model X.prog X.w) X.A (call (.builtin id) (v::us)) (EP X pins σ Q) X.xe s
section
variable{X:Cx}{a b:Expr}{ta tb:TE}{pos:Pos}
theorem g6.or{r r':R2}(h:g6 X r)(h':g6 X r'):g6 X (λx y H Q=>r x y H Q\/r' x y H Q):=by
 intro value slice pins s σ H x y v u Q I a b q c;rcases q with q|q
 .exact h value slice pins s σ H x y v u Q I a b q c
 .exact h' value slice pins s σ H x y v u Q I a b q c
theorem O1{r:R2}(c:g6 X r)(d:PE X a ta)(e:PE X b tb)(f:we b):PE X (.Subscript a b pos) (qR r ta tb):=by
 intro pins s σ H Q I h;exact Subscript_ (wK d e I h λv u g x y H2 i j k q=>c a b pins g σ H2 x y v u Q i j k q (f _ _))
def Et(K:Frag):R2:=λx y H Q=>∃p xs i v,x=.ref p/\y=.int i/\aW K H p xs/\cJ xs i=some v/\Q v H
def Ew(K:Frag):R2:=λx y H Q=>∃p xs i v,x=.ref p/\y=.int i/\bg K H p xs/\cJ xs i=some v/\Q v H
def Eu:R2:=λx y H Q=>∃z i c,x=.str z/\y=.int i/\z.length<=sizeLine/\cJ z.cps.toList i=some c/\Q (.str ⟨#[c]⟩) H
theorem Mr:g6 X (Et X.K):=by
 intro value slice pins s σ H x y v u Q I f g h d;obtain⟨p,xs,i,z,rfl,rfl,k,l,q⟩:=h;cases f;obtain⟨t,rfl⟩:=g;obtain⟨its,r,a,hz⟩:=I.list k;obtain⟨j,h1,h2,h3,m,n⟩:=wF l;obtain⟨w,e,b⟩:=r.get h2;have o:=r.length;have hn:=qd;have fin:EP X pins σ Q w s:=⟨z,H,I,b,q⟩;by_cases h0:0<=i
 .have c:i.toNat=j:=by
   rw[seqIndex_of h0 n] at h1;exact Option.some.inj h1
  exact item_listR a.isList h0 (by omega) (by rw[c];simpa using e) fin d
 .have c:(i+(its.toArray.size:Int)).toNat=j:=by
   rw[seqIndex_neg (by omega) m] at h1;rw[bH,<-o];exact Option.some.inj h1
  exact subscriptTail_builtinR (x:=w) a.isList.typeIs slot_list_getitem.lookup
   (wpAny_getItem_list_neg (Q:=λr s'=>r=w/\EP X pins σ Q r s') a.isList (by omega) (by rw[bH]<;>omega) (by omega) (by rw[c];simpa using e) ⟨rfl,fin⟩) d
theorem Mu:g6 X (Ew X.K):=by
 intro value slice pins s σ H x y v u Q I c d h e;obtain⟨p,xs,i,z,rfl,rfl,f,g,q⟩:=h;cases c;obtain⟨t,rfl⟩:=d;obtain⟨its,r,b,hz⟩:=I.tuple f;obtain⟨j,h1,h2,h3,m,n⟩:=wF g;obtain⟨w,k,a⟩:=r.get h2;have l:=r.length;have hn:=qd;have fin:EP X pins σ Q w s:=⟨z,H,I,a,q⟩;exact subscriptTail_builtinR (x:=w) b.typeIs slot_tuple_getitem.lookup
  (getItem_tuple (j:=j) (Q:=λr s'=>r=w/\EP X pins σ Q r s') b (by omega) (by omega) (by rw[bH,<-l];exact h1) (by simpa using k) ⟨rfl,fin⟩) e
theorem Mt:g6 X Eu:=by
 intro value slice pins s σ H x y v u Q I a b h d;obtain⟨z,i,c,rfl,rfl,hz,e,q⟩:=h;obtain⟨t,rfl⟩:=a;obtain⟨t',rfl⟩:=b;obtain⟨j,h1,h2,h3,f,g⟩:=wF e;have k:z.cps.toList.length=z.length:=by simp[Str.length]
 rw[k] at h1 f g;have hn:=qd;exact tail_any (typeIs_str s z t) slot_str_getitem.lookup (getItem_str (c:=c) (by
  have l:decide (i< -(2 ^ 63:Int))=false:=eG (by omega);have m:decide (i≥2 ^ 63)=false:=eG (by omega);rw[l,m,Bool.or_false]) (by rw[h1];simpa using h2) ⟨.str ⟨#[c]⟩,H,I.tok _,⟨_,rfl⟩,q⟩) d
def Ep(K:Frag):R2:=λx y H Q=>Et K x y H Q\/Ew K x y H Q\/Eu x y H Q
theorem Ms:g6 X (Ep X.K):=Mr.or (Mu.or Mt)
theorem RI(lo hi:Option Int)(n:Nat):(sliceBounds lo hi none n).1=((HT.aR n 0 lo:Nat):Int)/\(sliceBounds lo hi none n).2.1=((HT.aR n n hi:Nat):Int)/\(sliceBounds lo hi none n).2.2=1:=by
 refine⟨?_,?_,rfl⟩
 .cases lo with
  |none=>simp[sliceBounds,HT.aR]
  |some i=>
   simp only[sliceBounds,HT.aR,getD_none,show(1:Int)>0 by decide,jh];by_cases h:i<0
   .simp only[h,jh]<;>omega
   .simp only[h,e_]<;>omega
 .cases hi with
  |none=>simp[sliceBounds,HT.aR]
  |some i=>
   simp only[sliceBounds,HT.aR,getD_none,show(1:Int)>0 by decide,jh];by_cases h:i<0
   .simp only[h,jh]<;>omega
   .simp only[h,e_]<;>omega
theorem RH(its:List Value)(lo hi:Option Int):slicePick its.toArray lo hi none=((its.drop (HT.aR its.length 0 lo)).take (HT.aR its.length its.length hi - HT.aR its.length 0 lo)).toArray:=by
 obtain⟨h1,h2,h3⟩:=RI lo hi its.toArray.size;unfold slicePick;rw[h1,h2,h3];simp only[sliceRange_one,pick_run,bH]<;>rfl
def Qm(K:Frag):V->Option Int->Option Int->Hp->VK->Prop:=λx lo hi H Q=>∃a xs,x=.ref a/\aW K H a xs/\∀p,H p=none->Q (.ref p) (upd H p (.lst (jY xs lo hi)))
theorem RC:k8 X (Qm X.K):=by
 intro pins s σ H x v j k lo hi l Q I e f g pu h;obtain⟨a,xs,rfl,i,q⟩:=h;cases e;obtain⟨its,r,d,hz⟩:=I.list i;have c:=r.length;refine⟨"list",_,slot_list_getitem.lookup,d.isList.typeIs,?_⟩;refine wpAny_getItem_list_slice d.isList f g pu .none (by simp) ?_ (by rw[bH]<;>omega);rw[RH,<-c];refine⟨.ref s.heap.objs.size,_,I.laid (t':=s.toks) (o:=.lst (jY xs lo hi)) (λb m q=>aT _ q) (aH _) ?_,rfl,q _ (I.hok.fresh (aH _))⟩;exact⟨cY (Bs xs lo hi) hz,_,0,(r.drop (HT.aR xs.length 0 lo)).take (HT.aR xs.length xs.length hi - HT.aR xs.length 0 lo),bI _ rfl⟩
def i7:V->Bool
 |.aB=>true
 |.bl _=>true
 |.int _=>true
 |.str _=>true
 |_=>false
def gK:V->V->Bool
 |.aB,.aB=>true
 |.bl a,.bl b=>a==b
 |.bl a,.int b=>(if a then 1 else 0)==b
 |.int a,.bl b=>a==(if b then 1 else 0)
 |.int a,.int b=>a==b
 |.str a,.str b=>a==b
 |_,_=>false
theorem JW{A:Around}{s:Shared}{y x:V}{u v:Value}(d:RelV y u)(c:RelV x v)(e:i7 y=true)(fx:i7 x=true):SeqAt.EqAt A s u v (gK y x):=by
 cases y with
 |aB=>
  cases d;cases x with
  |aB=>cases c;exact SeqAt.EqAt.same _
  |bl b=>cases c;exact SeqAt.EqAt.none_bool b
  |int b=>obtain⟨t,rfl⟩:=c;exact SeqAt.EqAt.none_int b t
  |str b=>obtain⟨t,rfl⟩:=c;exact SeqAt.EqAt.none_str b t
  |_=>exact absurd (show false=true from fx) cC
 |bl a=>
  cases d;cases x with
  |aB=>cases c;exact SeqAt.EqAt.bool_none a
  |bl b=>cases c;exact SeqAt.EqAt.bool_bool a b
  |int b=>obtain⟨t,rfl⟩:=c;exact SeqAt.EqAt.bool_int a b t
  |str b=>obtain⟨t,rfl⟩:=c;exact SeqAt.EqAt.bool_str a b t
  |_=>exact absurd (show false=true from fx) cC
 |int a=>
  obtain⟨t',rfl⟩:=d;cases x with
  |aB=>cases c;exact SeqAt.EqAt.int_none a t'
  |bl b=>cases c;exact SeqAt.EqAt.int_bool a t' b
  |int b=>obtain⟨t,rfl⟩:=c;exact SeqAt.EqAt.int_int a t' b t
  |str b=>obtain⟨t,rfl⟩:=c;exact SeqAt.EqAt.int_str a t' b t
  |_=>exact absurd (show false=true from fx) cC
 |str a=>
  obtain⟨t',rfl⟩:=d;cases x with
  |aB=>cases c;exact SeqAt.EqAt.str_none a t'
  |bl b=>cases c;exact SeqAt.EqAt.str_bool a t' b
  |int b=>obtain⟨t,rfl⟩:=c;exact SeqAt.EqAt.str_int a t' b t
  |str b=>obtain⟨t,rfl⟩:=c;exact SeqAt.EqAt.str_str a t' b t
  |_=>exact absurd (show false=true from fx) cC
 |_=>exact absurd (show false=true from e) cC
def jA(x:V)(u:Value):Bool:=match u with
 |.none=>gK .aB x
 |.bool b=>gK (.bl b) x
 |.int i _=>gK (.int i) x
 |.str z _=>gK (.str z) x
 |_=>false
theorem B6{x y:V}{u:Value}(r:RelV y u)(f:i7 y=true):jA x u=gK y x:=by
 cases y with
 |aB=>cases r;rfl
 |bl b=>cases r;rfl
 |int i=>obtain⟨t,rfl⟩:=r;rfl
 |str z=>obtain⟨t,rfl⟩:=r;rfl
 |_=>exact absurd (show false=true from f) cC
theorem wC{x:V}:∀{xs:List V} {a:List Value},Vals xs a->xs.all i7=true->a.any (jA x)=xs.any λy=>gK y x
 |_,_,.nil,_=>rfl
 |y::xs,u::a,.cons r t,f=>by
  rw[List.all_cons,dh] at f;rw[mz,mz,B6 r f.1,wC t f.2]
theorem yk{A:Around}{s:Shared}{x:V}{v:Value}(b:RelV x v)(fx:i7 x=true):∀{xs:List V} {a:List Value},Vals xs a->xs.all i7=true->∀u∈a,SeqAt.EqAt A s u v (jA x u)
 |_,_,.nil,_=>λu hu=>by cases hu
 |y::xs,u::a,.cons r t,f=>λc hu=>by
  rw[List.all_cons,dh] at f;rcases aX.mp hu with rfl|hu
  .rw[B6 r f.1];exact JW r b f.1 fx
  .exact yk b fx t f.2 c hu
def tu(x:V)(xs:List V):Bool:=xs.any λy=>gK y x
def El(K:Frag)(neg:Bool):R2:=λx y H Q=>∃p xs,y=.ref p/\(aW K H p xs\/bg K H p xs)/\i7 x=true/\xs.all i7=true/\Q (.bl (if neg then !tu x xs else tu x xs)) H
theorem OF:bq X (compareOp .NotIn) (El X.K true):=by
 intro pins s σ H x y v u Q I c d h;obtain⟨p,xs,rfl,hq,fx,fs,q⟩:=h;cases d;rcases hq with hq|hq
 .obtain⟨its,r,a,hz⟩:=I.list hq
  refine SeqAt.notIn_listAt (jA x) a.isList (λw b=>yk c fx r fs w (by simpa using b)) ⟨.bl _,H,I,rfl,?_⟩;rw[show its.toArray.any (jA x)=its.any (jA x) by simp,wC r fs];exact q
 .obtain⟨its,r,a,hz⟩:=I.tuple hq
  refine SeqAt.notIn_tupleAt (jA x) a (λw b=>yk c fx r fs w (by simpa using b)) ⟨.bl _,H,I,rfl,?_⟩;rw[show its.toArray.any (jA x)=its.any (jA x) by simp,wC r fs];exact q
theorem H8:dm X (.builtin "len") (λxs H Q=>∃p ys,xs=[.ref p]/\(aW X.K H p ys\/bg X.K H p ys)/\Q (.int ys.length) H):=by
 intro pins s σ H xs d Q I r h;obtain⟨p,ys,rfl,hq,q⟩:=h;obtain⟨u,rfl,c⟩:=vals1 r;cases c;have hn:=qd;rcases hq with hq|hq
 .obtain⟨its,r',b,hz⟩:=I.list hq
  have a:=r'.length;exact Calls.call_len_list b.isList (by simp only[bH]<;>omega) ⟨.int ys.length,H,I.tok _,⟨s.toks+1,by rw[bH,a]⟩,q⟩
 .obtain⟨its,r',b,hz⟩:=I.tuple hq
  have a:=r'.length;exact len_tuple b (by simp only[bH]<;>omega) ⟨.int ys.length,H,I.tok _,⟨s.toks+1,by rw[bH,a]⟩,q⟩
theorem H9:dm X (.builtin "len") (λxs H Q=>∃z,xs=[.str z]/\z.length<=sizeLine/\Q (.int z.length) H):=by
 intro pins s σ H xs a Q I r h;obtain⟨z,rfl,hz,q⟩:=h;obtain⟨u,rfl,t,rfl⟩:=vals1 r;have hn:=qd;exact len_str (by omega) ⟨.int z.length,H,I.tok _,⟨_,rfl⟩,q⟩
theorem dm.or{f:Value}{r r':List V->Hp->VK->Prop}(h:dm X f r)(h':dm X f r'):dm X f (λxs H Q=>r xs H Q\/r' xs H Q):=by
 intro pins s σ H xs a Q I rs q;rcases q with q|q
 .exact h pins s σ H xs a Q I rs q
 .exact h' pins s σ H xs a Q I rs q
theorem H_:dm X (.type "list") (λxs H Q=>∃p ys,xs=[.ref p]/\(aW X.K H p ys\/bg X.K H p ys)/\∀l,H l=none->Q (.ref l) (upd H l (.lst ys))):=by
 intro pins s σ H xs g Q I r h;obtain⟨p,ys,rfl,hq,q⟩:=h;obtain⟨u,rfl,f⟩:=vals1 r;cases f;have fin:∀(its:List Value),Vals ys its->ys.length<=sizeLine->∀(h':Heap) (c':Nat),(∀b o',s.heap.get? b=some o'->h'.get? b=some o')->
   h'.get? s.heap.objs.size=some {cls:=.type "list",dict:=none,data:=.seq its.toArray c',slots:= #[]}->EP X pins σ Q (.ref s.heap.objs.size) {s with heap:=h'}:=λits r' hz h' c' kp e=>
  ⟨.ref s.heap.objs.size,_,I.laid (t':=s.toks) kp (aH _) (show bP X.prog X.w _ h' _ (.lst ys) from⟨hz,its,c',r',e⟩),rfl,q _ (I.hok.fresh (aH _))⟩
 rcases hq with hq|hq
 .obtain⟨its,r',c,hz⟩:=I.list hq
  have a:=r'.length;obtain⟨o,d,hc,n,hd⟩:=c.isList;exact call_list_seq p (.inl rfl) d hc hd (λh' c' kp e=>fin its r' hz h' c' kp e) (by simp only[bH]<;>omega)
 .obtain⟨its,r',c,hz⟩:=I.tuple hq
  have a:=r'.length;obtain⟨o,d,hc,n,hd⟩:=c;exact call_list_seq p (.inr rfl) d hc hd (λh' c' kp e=>fin its r' hz h' c' kp e) (by simp only[bH]<;>omega)
theorem Ig:dm X (.type "tuple") (λxs H Q=>∃p ys,xs=[.ref p]/\((aW X.K H p ys/\∀l,H l=none->Q (.ref l) (upd H l (.tup ys)))\/(bg X.K H p ys/\Q (.ref p) H))):=by
 intro pins s σ H xs j Q I r h;obtain⟨p,ys,rfl,h⟩:=h;obtain⟨u,rfl,g⟩:=vals1 r;cases g;rcases h with⟨a,q⟩|⟨a,q⟩
 .obtain⟨its,r',c,hz⟩:=I.list a
  have d:=r'.length;refine call_tuple_list c.isList (λh' kp=>?_) (by simp only[bH]<;>omega);have f:Inv X pins σ H {s with heap:=h'}:=I.kept (t':=s.toks) kp;have i:Inv X pins σ (upd H h'.objs.size (.tup ys)) {s with heap:=h'.push {cls:=.type "tuple",data:=.seq its.toArray}}:=
   f.laid (t':=s.toks) (λb o e=>aT _ e) (aH _) (show bP X.prog X.w _ _ _ (.tup ys) from⟨hz,its,r',jX.new _ _⟩)
  exact⟨.ref h'.objs.size,_,i,rfl,q _ (f.hok.fresh (aH _))⟩
 .obtain⟨its,r',c,hz⟩:=I.tuple a
  exact call_tuple_same c ⟨.ref p,H,I,rfl,q⟩
def zx(K:Frag)(T:String)(x:V)(H:Hp):Prop:=match x with
 |.str _=>T="str"
 |.int _=>T="int"
 |.ref p=>(T="list"/\∃xs,aW K H p xs)\/(T="tuple"/\∃o,K.lookup p=some o/\o.cls=.type "tuple"/\o.dict=none)\/
  (T="dict"/\((∃kvs,H p=some (.dK kvs))\/∃kvs,H p=some (.dT kvs)))\/(T="set"/\∃S n,H p=some (.set S n))
 |_=>False
theorem Tj{pins:aQ}{σ:St}{H:Hp}{s:Shared}{T:String}{x:V}{v:Value}(I:Inv X pins σ H s)(r:RelV x v)(ty:zx X.K T x H):
  s.TypeIs v T/\∀a,v=.ref a->∃d,s.heap.get? a=some d/\d.dict=none:=by
 cases x with
 |str z=>
  obtain⟨t,rfl⟩:=r;cases (show T="str" from ty);exact⟨typeIs_str s z t,λ_ e=>nomatch e⟩
 |int i=>
  obtain⟨t,rfl⟩:=r;cases (show T="int" from ty);exact⟨typeIs_int s i t,λ_ e=>nomatch e⟩
 |ref p=>
  cases r;rcases ty with⟨rfl,xs,g⟩|⟨rfl,o,hk,hc,hd⟩|⟨rfl,hk⟩|⟨rfl,S,n,hk⟩
  .obtain⟨its,_,f,_⟩:=I.list g
   refine⟨f.isList.typeIs,λa e=>?_⟩;cases e;obtain⟨o,n,e,c,hd,_⟩:=f;exact⟨o,e,hd⟩
  .refine⟨⟨o,I.dB p o hk,hc⟩,λa e=>?_⟩
   cases e;exact⟨o,I.dB _ o hk,hd⟩
  .have z:∃o,s.heap.get? p=some o/\o.ExactDict:=by
    rcases hk with⟨kvs,hk⟩|⟨kvs,hk⟩
    .obtain⟨_,_,_,_,o,_,_,e,ex,_⟩:=I.hok p _ hk
     exact⟨o,e,ex⟩
    .obtain⟨_,_,_,_,o,_,_,e,ex,_⟩:=I.hok p _ hk
     exact⟨o,e,ex⟩
   obtain⟨o,e,ex⟩:=z;refine⟨⟨o,e,ex.1⟩,λa b=>?_⟩;cases b;exact⟨o,e,ex.2.1⟩
  .obtain⟨o,_,_,_,e,ex,_⟩:=I.hok p _ hk
   refine⟨⟨o,e,ex.1⟩,λa b=>?_⟩;cases b;exact⟨o,e,ex.2.1⟩
 |_=>exact False.elim ty
def Si(K:Frag)(T:String)(r:V->List V->Hp->VK->Prop)(to:TE)(t:TA):TE:=λσ H Q=>to σ H λx H1=>zx K T x H1/\t σ H1 λxs H2=>r x xs H2 Q
variable{o e:Expr}{es:List Expr}{to:TE}{t:TA}{name:Str}{apos cpos:Pos}{T id:String}{r:V->List V->Hp->VK->Prop}
theorem OQ(k:PlainAttrs T)(slot:Slot T name id)(f:typeOf (.builtin id)=pure (.type "method_descriptor"))(l:Ae X id r)(m:PE X o to)(n:PA X (e::es) t)
  (b:attributeBase o name X.env (eval o X.env)=eval o X.env:=by rfl)
  (d:((backTo cpos (starEach (e::es) X.env)).all (λx=> !x.1)&&(backToKw cpos (keywordEach [] X.env)).all (λx=>x.1.isSome)
   &&decide ((e::es).length+([]:List Keyword).length+(if ([]:List Keyword).isEmpty then 0 else 1)<30))=true:=by rfl)
  (c:(apos.endLine==cpos.line)=true:=by rfl)(p:starEach (e::es) X.env=(false,eval e X.env)::starEach es X.env:=by rfl)(a:(backTo cpos (starEach es X.env)).any (·.1)=false:=by rfl):
  PE X (.Call (.Attribute o name apos) (e::es) [] cpos) (Si X.K T r to t):=by
 intro pins s σ H Q I h
 refine wpAny_Call_method_late b d c rfl (aM (m pins s σ H _ I h) λv q ⟨x,H1,g,i,ty,u⟩=> ?_)
 obtain⟨h1,h2⟩:=Tj g i ty
 refine⟨T,id,k,slot,f,h1,h2,?_⟩
 have j:=n cpos pins q σ H1 _ g u
 rw[p] at j ⊢
 refine Calls.callWith_builtin (by show(false||(backTo cpos (starEach es X.env)).any (·.1))=false;rw[a]<;>rfl) (Calls.evalArgs_plain ?_)
 exact aM j λw y ⟨vs,H2,z,A,B⟩=>l pins y σ H2 x vs v w Q z i A B
end
def rR(X:Cx)(id:String)(r:V->List V->Hp->VK->Prop):Prop:=
 ∀(pins:aQ) (s:Shared) (σ:St) (H:Hp) (x:V) (xs:List V) (v:Value) (us:List Value) (Q:VK),Inv X pins σ H s->RelV x v->Vals xs us->r x xs H Q->
  wpAny (model X.prog X.w) X.A (call (.builtin id) (v::us)) (EP X pins σ Q) X.xe s
theorem Vals.one:∀{x:V} {a:List Value},Vals [x] a->∃u,a=[u]/\RelV x u
 |_,_,.cons r .nil=>⟨_,rfl,r⟩
section
variable{X:Cx}{pins:aQ}{σ:St}{H:Hp}{s:Shared}{l b:Addr}{xs ys zs:List V}
theorem Inv.Dq{its its':List Value}{n:Nat}{f:Array Value->Array Value}{t':Nat}(I:Inv X pins σ H s)(a:H l=some (.lst xs))
  (e:s.heap.get? l=some {cls:=.type "list",data:=.seq its.toArray n})(b:f its.toArray=its'.toArray)(c:Vals ys its')(hz:ys.length<=sizeLine):
  Inv X pins σ (upd H l (.lst ys)) {s with heap:=s.heap.update l (Obj.mapSeq f),toks:=t'}:=by
 have q:=PySem.IsL.update e f;rw[b] at q;refine I.write (x:=l) (e:=l) (by rw[a];exact trivial) (.inl rfl) (λh u d g=>(oU s.heap (Obj.mapSeq f) (Ne.symm d)).trans g) ⟨_,q⟩ ?_;exact⟨hz,its',_,c,q⟩
theorem Inv.Dm{its:List Value}{t':Nat}(I:Inv X pins σ H s)(a:Vals ys its)(hz:ys.length<=sizeLine):
  Inv X pins σ (upd H s.heap.objs.size (.lst ys)) {s with heap:=s.heap.push {cls:=.type "list",data:=.seq its.toArray},toks:=t'}:=
 I.laid (λ_ _ q=>aT _ q) (aH _) ⟨hz,its,0,a,bI _ rfl⟩
theorem Inv.fresh(I:Inv X pins σ H s):H s.heap.objs.size=none:=I.hok.fresh (aH _)
theorem Inv.lJ(I:Inv X pins σ H s)(a:H l=some (.lst xs)):xs.length<=sizeLine/\∃(its:List Value) (n:Nat),Vals xs its/\xs.length=its.length/\s.heap.get? l=some {cls:=.type "list",data:=.seq its.toArray n}:=by
 obtain⟨z,its,n,r,e⟩:=I.hok l _ a;exact⟨z,its,n,r,r.length,e⟩
theorem N5{n:Nat}(h:n<=sizeLine):Builtin.List.listTooLong n=false:=by
 unfold Builtin.List.listTooLong;exact eG (by omega)
end
section
variable{X:Cx}
def Eg:V->List V->Hp->VK->Prop:=λx vs H Q=>∃l xs y,x=.ref l/\vs=[y]/\H l=some (.lst xs)/\xs.length<sizeLine/\Q .aB (upd H l (.lst (xs++[y])))
theorem qj:rR X "list.append" Eg:=by
 intro pins s σ H x vs v d Q I b c h;obtain⟨l,xs,y,rfl,rfl,a,hz,q⟩:=h;cases b;obtain⟨u,rfl,ru⟩:=c.one;obtain⟨z,its,n,r,f,e⟩:=I.lJ a;refine oJ F.slot_list_append ⟨_,e,rfl⟩ F.entry_list_append (F.args_list_append_2 _ _) (PySem.list_append l its.toArray n u (by rw[bH];omega)) ⟨e,?_⟩;refine⟨.aB,_,I.Dq (its':=its++[u]) a e (by simp) (r.append (.cons ru .nil)) ?_,rfl,q⟩;rw[cA,List.length_singleton];omega
def Ek:V->List V->Hp->VK->Prop:=λx vs H Q=>∃l b xs zs,x=.ref l/\vs=[.ref b]/\H l=some (.lst xs)/\H b=some (.lst zs)/\xs.length+zs.length<=sizeLine/\Q .aB (upd H l (.lst (xs++zs)))
theorem DE:rR X "list.extend" Ek:=by
 intro pins s σ H x vs v o Q I f g h;obtain⟨l,b,xs,zs,rfl,rfl,d,i,hz,q⟩:=h;cases f;obtain⟨u,rfl,ru⟩:=g.one;cases ru;obtain⟨z,its,n,r,p,e⟩:=I.lJ d;obtain⟨t,a,n2,j,k,m⟩:=I.lJ i;have hsz:its.toArray.size+a.toArray.size<=sizeLine:=by rw[bH,bH];omega
 have c:¬(!its.toArray.isEmpty&&Builtin.List.listTooLong (its.toArray.size+a.toArray.size))=true:=by
  rw[N5 hsz,oj];exact cC
 refine oJ F.slot_list_extend ⟨_,e,rfl⟩ F.entry_list_extend (F.args_list_extend_2 _ _)
  (AutoSeq1.list_extend_list_list_0 l its.toArray n b a.toArray n2 c (by rw[bH];omega) (by omega)) ⟨e,m,?_⟩
 refine⟨.aB,_,I.Dq (its':=its++a) d e (by simp) (r.append j) ?_,rfl,q⟩;rw[cA];omega
def Eh:R2:=λx y H Q=>∃l b xs zs,x=.ref l/\y=.ref b/\H l=some (.lst xs)/\H b=some (.lst zs)/\xs.length+zs.length<=sizeLine/\∀p,H p=none->Q (.ref p) (upd H p (.lst (xs++zs)))
theorem Oj:bq X (binaryOp .Add) Eh:=by
 intro pins s σ H x y v u Q I c d h;obtain⟨l,b,xs,zs,rfl,rfl,f,g,hz,q⟩:=h;cases c;cases d;obtain⟨z,its,n,r,o,e⟩:=I.lJ f;obtain⟨p,a,n2,i,j,k⟩:=I.lJ g;refine PySem.P.add_list e k ?_ (by rw[bH,bH];omega);have m:its.toArray++a.toArray=(its++a).toArray:=by simp
 rw[m];exact⟨.ref _,_,I.Dm (t':=s.toks) (r.append i) (by rw[cA];omega),rfl,q _ I.fresh⟩
end
section
variable{κ:Type}[DecidableEq κ]
def eE(kvs:List (κ×V))(k:κ):Option V:=(kvs.find? λkv=>decide (kv.1=k)).map (·.2)
def putK(kvs:List (κ×V))(k:κ)(v:V):List (κ×V):=
 if (kvs.any λkv=>decide (kv.1=k))=true then kvs.map (λkv=>if kv.1=k then (kv.1,v) else kv) else kvs++[(k,v)]
theorem zA{p:κ×V}{r:List (κ×V)}{k:κ}(e:p.1=k):eE (p::r) k=some p.2:=by simp[eE,kY,e]
theorem zz{p:κ×V}{r:List (κ×V)}{k:κ}(e:¬p.1=k):eE (p::r) k=eE r k:=by simp[eE,kY,e]
theorem Gs(k:κ):∀kvs:List (κ×V),(kvs.any λa=>decide (a.1=k))=(eE kvs k).isSome
 |[]=>rfl
 |p::r=>by
  rw[mz];by_cases e:p.1=k
  .simp only[zA e,dj e,Bool.true_or,Option.isSome_some]
  .rw[zz e,eG e,Bool.false_or];exact Gs k r
theorem Dh(kvs:List (κ×V))(k:κ)(v:V):(putK kvs k v).length<=kvs.length+1:=by
 unfold putK;split
 .rw[a_];omega
 .rw[cA,gC,length_nil];omega
theorem g8.xW{o:Option V}{u:Option Value}(r:g8 o u):o.isSome=u.isSome:=by
 cases o with
 |none=>cases u with
  |none=>rfl
  |some _=>exact(show False from r).elim
 |some _=>cases u with
  |none=>exact(show False from r).elim
  |some _=>rfl
theorem KV.val{kvs:List (κ×V)}{vs:List (κ×Value)}(r:KV kvs vs)(k:κ):g8 (eE kvs k) (valueAt vs k):=by
 unfold KV at r;induction r with
 |nil=>exact True.intro
 | @cons p q ps qs h t c=>
  obtain⟨h1,h2⟩:=h;by_cases e:p.1=k
  .have a:q.1=k:=h1.symm.trans e
   have b:valueAt (q::qs) k=some q.2:=by simp[valueAt,kY,a]
   rw[zA e,b];exact h2
  .have a:¬q.1=k:=λz=>e (h1.trans z)
   have b:valueAt (q::qs) k=valueAt qs k:=by simp[valueAt,kY,a]
   rw[zz e,b];exact c
theorem KV.any{kvs:List (κ×V)}{vs:List (κ×Value)}(r:KV kvs vs)(k:κ):(kvs.any λa=>decide (a.1=k))=vs.any λa=>decide (a.1=k):=by
 unfold KV at r;induction r with
 |nil=>rfl
 |cons h t b=>rw[mz,mz,b,h.1]
theorem KV.repl{kvs:List (κ×V)}{vs:List (κ×Value)}(r:KV kvs vs)(k:κ){y:V}{u:Value}(b:RelV y u):
  KV (kvs.map λa=>if a.1=k then (a.1,y) else a) (vs.map λa=>if a.1=k then (a.1,u) else a):=by
 unfold KV at r ⊢;induction r with
 |nil=>exact .nil
 | @cons p q ps qs h t c=>
  rw[dg,dg];refine .cons ?_ c;obtain⟨h1,h2⟩:=h;by_cases e:p.1=k
  .rw[aj e,aj (h1.symm.trans e)];exact⟨h1,b⟩
  .rw[ai e,ai (λz=>e (h1.trans z))];exact⟨h1,h2⟩
theorem KV.put{kvs:List (κ×V)}{vs:List (κ×Value)}(r:KV kvs vs)(k:κ){y:V}{u:Value}(a:RelV y u):KV (putK kvs k y) (stored vs k u):=by
 unfold putK stored;rw[r.any k];by_cases e:(vs.any λb=>decide (b.1=k))=true
 .rw[aj e,aj e];exact r.repl k a
 .rw[ai e,ai e];exact Paired.snoc r ⟨rfl,a⟩
theorem KV.length{kvs:List (κ×V)}{vs:List (κ×Value)}(r:KV kvs vs):kvs.length=vs.length:=Paired.length r
end
theorem p9{P:Program}{w:World}{k:Key}{u:Value}(r:RelV (kV k) u):(dU P w).is k u=true:=by
 cases k with
 |inl i=>obtain⟨t,e⟩:=(show ∃t,u=Value.int i t from r);subst e;exact NK P w i t
 |inr x=>obtain⟨t,e⟩:=(show ∃t,u=Value.str x t from r);subst e;exact NL P w x t
theorem C1{P:Program}{w:World}:∀{a:List Key} {b:List Value},Vals (a.map kV) b->ItemsAre (dU P w) a b
 |[],_,r=>by rw[List.map_nil] at r;cases r;exact .nil
 |k::a,_,r=>by
  rw[dg] at r;cases r with
  |cons h t=>exact .cons (p9 h) (C1 t)
abbrev KT(H:Hp):List (List Key×V)->List (List Key×Addr×Value)->Prop:=Paired λp q=>p.1=q.1/\H q.2.1=some (.tup (p.1.map kV))/\RelV p.2 q.2.2
theorem KT.val{H:Hp}{kvs:List (List Key×V)}{xs:List (List Key×Addr×Value)}(r:KT H kvs xs)(k:List Key):g8 (eE kvs k) ((atKey xs k).map (·.2)):=by
 induction r with
 |nil=>exact True.intro
 | @cons p q ps qs h t c=>
  obtain⟨h1,_,h2⟩:=h;by_cases e:p.1=k
  .have a:q.1=k:=h1.symm.trans e
   have b:atKey (q::qs) k=some q.2:=by simp[atKey,kY,a]
   rw[zA e,b];exact h2
  .have a:¬q.1=k:=λz=>e (h1.trans z)
   have b:atKey (q::qs) k=atKey qs k:=by simp[atKey,kY,a]
   rw[zz e,b];exact c
theorem KT.repl{H:Hp}{kvs:List (List Key×V)}{xs:List (List Key×Addr×Value)}(r:KT H kvs xs)(k:List Key){y:V}{u:Value}(b:RelV y u):
  KT H (kvs.map λa=>if a.1=k then (a.1,y) else a) (xs.map (putAt k u)):=by
 induction r with
 |nil=>exact .nil
 | @cons p q ps qs h t c=>
  rw[dg,dg];refine .cons ?_ c;obtain⟨h1,h2,h3⟩:=h;unfold putAt;by_cases e:p.1=k
  .rw[aj e,aj (h1.symm.trans e)];exact⟨h1,h2,b⟩
  .rw[ai e,ai (λz=>e (h1.trans z))];exact⟨h1,h2,h3⟩
theorem KT.put{H:Hp}{kvs:List (List Key×V)}{xs:List (List Key×Addr×Value)}(r:KT H kvs xs)(k:List Key){b:Addr}{y:V}{u:Value}(c:H b=some (.tup (k.map kV)))(a:RelV y u):
  KT H (putK kvs k y) (storedH xs k b u):=by
 have e:(kvs.any λd=>decide (d.1=k))=(atKey xs k).isSome:=by
  rw[Gs,(r.val k).xW,isSome_map]
 unfold putK storedH;rw[e];by_cases q:(atKey xs k).isSome=true
 .rw[aj q,aj q];exact r.repl k a
 .rw[ai q,ai q];exact Paired.snoc r ⟨rfl,c,a⟩
theorem KT.keeps{H H':Hp}{kvs:List (List Key×V)}{xs:List (List Key×Addr×Value)}(r:KT H kvs xs)(a:∀b ys,H b=some (.tup ys)->H' b=some (.tup ys)):KT H' kvs xs:=
 Paired.yi r λ_ _ z=>⟨z.1,a _ _ z.2.1,z.2.2⟩
section
variable{P:Program}{w:World}{H:Hp}{h:Heap}{a:Addr}
theorem EB{u:HO}(ok:bR P w H h)(e:Rd H a u):bP P w H h a u:=e.ok ok
theorem pU{kvs:List (Key×V)}(ok:bR P w H h)(e:Rd H a (.dK kvs)):kvs.length<=sizeLine/\(a==sysModules)=false/\∃vs,KV kvs vs/\h.DictOf (dU P w) a vs:=
 show bP P w H h a (.dK kvs) from EB ok e
theorem JE{kvs:List (Key×V)}(ok:bR P w H h)(e:H a=some (.dK kvs)):kvs.length<=sizeLine/\(a==sysModules)=false/\∃vs,KV kvs vs/\h.DictOf (dU P w) a vs:=pU ok (.inl e)
theorem tF{b:List Key}(ok:bR P w H h)(e:H a=some (.tup (b.map kV))):(tupleKind (dU P w)).is h b a:=by
 obtain⟨_,its,r,p⟩:=(show bP P w H h a (.tup (b.map kV)) from ok a _ e);obtain⟨o,h1,h2,n,h3⟩:=p.is;exact⟨o,its.toArray,n,h1,h2,h3,by simpa using C1 r⟩
theorem sJ{kvs:List (List Key×V)}(ok:bR P w H h)(e:Rd H a (.dT kvs)):kvs.length<=sizeLine/\(a==sysModules)=false/\
  ∃xs,KT H kvs xs/\h.DictOfH (tupleKind (dU P w)) a xs:=by
 obtain⟨z,y,xs,r,o,es,ep,h1,h2,h3,c,d⟩:=(show bP P w H h a (.dT kvs) from EB ok e);refine⟨z,y,xs,r,o,es,ep,h1,h2,h3,c,λx hx=>?_,d⟩;have all:∀{l:List (List Key×V)} {m:List (List Key×Addr×Value)},KT H l m->∀x∈m,(tupleKind (dU P w)).is h x.1 x.2.1:=by
  intro l m q;induction q with
  |nil=>intro x hx;exact nomatch hx
  | @cons p q ps qs b t f=>
   intro x hx;rcases aX.mp hx with e|hx
   .subst e
    exact tF ok (by rw[<-b.1];exact b.2.1)
   .exact f x hx
 exact all r x hx
theorem JO{kvs:List (List Key×V)}(ok:bR P w H h)(e:H a=some (.dT kvs)):kvs.length<=sizeLine/\(a==sysModules)=false/\
 ∃xs,KT H kvs xs/\h.DictOfH (tupleKind (dU P w)) a xs:=sJ ok (.inl e)
end
def oX(H:Hp)(a:Addr)(y:V)(r:Option V):Prop:=
 (∃kvs k,Rd H a (.dK kvs)/\y=kV k/\r=eE kvs k)\/∃kvs k b,Rd H a (.dT kvs)/\y=.ref b/\H b=some (.tup (k.map kV))/\r=eE kvs k
def oY(H:Hp)(a:Addr)(y v:V)(H':Hp):Prop:=
 (∃kvs k,H a=some (.dK kvs)/\y=kV k/\kvs.length<sizeLine/\H'=upd H a (.dK (putK kvs k v)))\/
 ∃kvs k b,H a=some (.dT kvs)/\y= .ref b/\H b=some (.tup (k.map kV))/\kvs.length<sizeLine/\H'=upd H a (.dT (putK kvs k v))
theorem oY.k{H:Hp}{a:Addr}{kvs:List (Key×V)}{k:Key}{v:V}(e:H a=some (.dK kvs))(b:kvs.length<sizeLine):oY H a (kV k) v (upd H a (.dK (putK kvs k v))):=.inl ⟨kvs,k,e,rfl,b,rfl⟩
section
variable{X:Cx}{pins:aQ}{σ:St}{H:Hp}{s:Shared}{a:Addr}{y v:V}{u r:Value}{o:Option V}{A:Around}{E:aA}
theorem Inv.big(I:Inv X pins σ H s):sysModules<s.heap.objs.size:=by
 have h:mainGlobals<s.heap.objs.size:=(I.mod.glob.keeps I.bk).lt;exact lt_trans (by decide) h
theorem IZ{Q:aA}(n:A.units+1<cLine)(I:Inv X pins σ H s)(g:oX H a y (some v))(m:RelV y u)(h:∀d s',Inv X pins σ H s'->RelV v d->Q d s'):
  wpAny (model X.prog X.w) A (getItem (.ref a) u) Q E s:=by
 rcases g with⟨kvs,k,e,f,l⟩|⟨kvs,k,b,e,f,q,l⟩
 .subst f
  obtain⟨z,hd,vs,rel,dd⟩:=pU I.hok e;obtain⟨d,i,c⟩:=g8.some_of (v:=v) (o:=valueAt vs k) (by rw[l];exact rel.val k);exact wpAny_getItem_of (p9 m) dd.mapOf i (h d _ (I.tok _) c)
 .subst f
  cases (show u=Value.ref b from m);obtain⟨z,hd,xs,rel,dd⟩:=sJ I.hok e;obtain⟨d,i,c⟩:=g8.some_of (v:=v) (o:=(atKey xs k).map (·.2)) (by rw[l];exact rel.val k);obtain⟨p,r,j⟩:=map_eq_some_iff.mp i;refine wpAny_getItem_heap (tupleKind_room_in1 n) (tF I.hok q) dd r ?_;rw[j];exact h d _ (I.tok _) c
theorem Jd{Q:aA}(f:A.units+1<cLine)(I:Inv X pins σ H s)(g:oX H a y o)(d:RelV y u)(h:∀s',Inv X pins σ H s'->Q (.bool (!o.isSome)) s'):
  wpAny (model X.prog X.w) A (compareOp .NotIn u (.ref a)) Q E s:=by
 rcases g with⟨kvs,k,e,c,l⟩|⟨kvs,k,b,e,c,i,l⟩
 .subst c
  obtain⟨z,hd,vs,rel,dd⟩:=pU I.hok e;refine wpAny_notIn_of (p9 d) hd dd.mapOf ?_;rw[<-(rel.val k).xW,<-l];exact h _ (I.tok _)
 .subst c
  cases (show u=Value.ref b from d);obtain⟨z,hd,xs,rel,dd⟩:=sJ I.hok e;refine wpAny_notIn_heap (tupleKind_room_in1 f) (tF I.hok i) hd dd ?_;have q:=(rel.val k).xW;rw[isSome_map] at q;rw[<-q,<-l];exact h _ (I.tok _)
theorem BB{h':Heap}{t':Nat}{c:HO}(I:Inv X pins σ H s)(d:o7 (H a))(f:SameBut a s.heap h')(g:∃q,h'.get? a=some q)(new:bP X.prog X.w (upd H a c) h' a c):
  Inv X pins σ (upd H a c) {s with heap:=h',toks:=t'}:=
 I.write (x:=a) (e:=a) d (.inl rfl) (λb q h z=>(f.2 b h).trans z) g new
theorem JD{P:Program}{w:World}{H':Hp}{h':Heap}{kvs:List (Key×V)}{vs:List (Key×Value)}(z:kvs.length<=sizeLine)(hd:(a==sysModules)=false)(rel:KV kvs vs)(dd:h'.DictOf (dU P w) a vs):
 bP P w H' h' a (.dK kvs):=⟨z,hd,vs,rel,dd⟩
theorem Jf{H':Hp}{Q:Unit->Shared->Prop}(B:A.units+1<cLine)(I:Inv X pins σ H s)(g:oY H a y v H')(o:RelV y u)(p:RelV v r)(h:∀s',Inv X pins σ H' s'->Q () s'):
  wpAny (model X.prog X.w) A (setItem (.ref a) u r) Q E s:=by
 rcases g with⟨kvs,k,e,i,l,j⟩|⟨kvs,k,b,e,i,t,l,j⟩
 .subst i j
  obtain⟨z,hd,vs,rel,dd⟩:=JE I.hok e;have hz:vs.length<=sizeLine:=by rw[<-rel.length];exact z
  have m:(putK kvs k v).length<=sizeLine:=by have:=Dh kvs k v;omega
  refine wpAny_setItem_pairs (hsz:=hz) (p9 o) dd λh' d n=>h _ ?_;have C:∃q,h'.get? a=some q:=let ⟨q,_,_,f,_⟩:=d;⟨q,f⟩;exact BB I (by rw[e];exact True.intro) n C (JD m hd (rel.put k p) d)
 .subst i j
  cases (show u=Value.ref b from o);obtain⟨z,hd,xs,rel,dd⟩:=JO I.hok e;have hz:xs.length<=sizeLine:=by rw[<-Paired.length rel];exact z
  have m:(putK kvs k v).length<=sizeLine:=by have:=Dh kvs k v;omega
  refine wpAny_setItem_heap (hsz:=hz) (tupleKind_room_in1 B) (tF I.hok t) dd λh' d n=>h _ ?_;obtain⟨q,es,ep,f,h2,h3,D,_,F⟩:=d;refine BB I (by rw[e];exact True.intro) n ⟨q,f⟩ ⟨m,hd,_,(rel.put k t p).keeps λc ys x=>?_,q,es,ep,f,h2,h3,D,F⟩;rw[bh (NV x e (λz=>nomatch z))];exact x
end
section
variable{X:Cx}{pins:aQ}{σ:St}{H:Hp}{s:Shared}{a:Addr}{kvs:List (Key×V)}{k:Key}{u:Value}{A:Around}{E:aA}
theorem fT{Q:aA}(I:Inv X pins σ H s)(e:Rd H a (.dK kvs))(h:∀t s',Inv X pins σ H s'->Q (.int kvs.length t) s'):wpAny (model X.prog X.w) A (call (.builtin "len") [.ref a]) Q E s:=by
 obtain⟨z,hd,vs,rel,dd⟩:=pU I.hok e;refine call_len_dict hd dd (by rw[<-rel.length];rw[sizeLine_eq] at z;omega) ?_;rw[<-rel.length];exact h _ _ (I.tok _)
end
theorem JB{X:Cx}{pins:aQ}{σ:St}{H:Hp}{s:Shared}{a:Addr}{y:V}{o:Option V}(I:Inv X pins σ H s)(g:oX H a y o):s.TypeIs (.ref a) "dict":=by
 rcases g with⟨kvs,k,e,_,_⟩|⟨kvs,k,b,e,_,_,_⟩
 .obtain⟨_,_,vs,_,dd⟩:=pU I.hok e
  exact dd.typeIs
 .obtain⟨_,_,xs,_,dd⟩:=sJ I.hok e
  exact dd.typeIs
def QH(td ty tv:TE):TS:=λD σ H=>tv σ H λv H1=>td σ H1 λx H2=>ty σ H2 λy H3=>∃a H4,x=.ref a/\oY H3 a y v H4/\D.nx σ H4
section
variable{X:Cx}{o i e value:Expr}{pos pos' tpos:Pos}{td ty tv:TE}
theorem PD(b:X.A.units+1<cLine)(c:PE X o td)(hi:PE X i ty)(d:PE X value tv)(e:swapsWith value (some (.Subscript o i pos')) pos.line X.env=pure false):
  PS X (.Assign [.Subscript o i pos'] value pos) (QH td ty tv):=by
 intro pins s σ H D I h;refine wpAny_Assign_Subscript (aM (d pins s σ H _ I h) λr f ⟨v,H1,j,k,l⟩=>aM (c pins f σ H1 _ j l) λu m ⟨x,H2,n,p,q⟩=>aM (hi pins m σ H2 _ n q) λE F ⟨y,G,t,w,a,z,ex,g,B⟩=>?_) e;subst ex;obtain rfl:u=Value.ref a:=p;exact Jf b t g w k λs4 C=>⟨σ,z,C,B⟩
end
theorem JC{P:Program}{w:World}{H:Hp}(h:Heap)(a:sysModules<h.objs.size):bP P w H (h.push {cls:=.type "dict",data:=.dict #[]}) h.objs.size (.dK []):=
 ⟨cH _,vQ.mpr (Ne.symm (aY a)),[],.nil,DictOf.new h⟩
def Sk:TE:=λ_ H Q=>∀p,H p=none->Q (.ref p) (upd H p (.dK []))
section
variable{X:Cx}{pos:Pos}
theorem OY:PE X (.Dict [] [] pos) Sk:=λpins s σ H Q I h=>
 wpAny_Dict_empty ⟨.ref s.heap.objs.size,_,I.laid (a:=s.heap.objs.size) (o:=.dK []) (t':=s.toks) (λ_ _ q=>aT _ q) (aH _) (JC s.heap I.big),rfl,h _ (I.hok.fresh (aH _))⟩
end
end L2
end
namespace z6
open PySem PySem.W PySem.Calls PyProof.Rows
theorem Mf{P:Params}{h:Heap}:∀(ns:List Int) (vs:List Value),WellAll P h vs (ns.map WData.int)->IntsAre vs ns:=by
 intro ns;induction ns with
 |nil=>
  intro vs w;rw[List.map_nil] at w;cases w;exact .nil
 |cons n ns c=>
  intro vs w;rw[dg] at w;cases w with
  |cons a b=>
   cases a;exact .cons _ _ (c _ b)
theorem Rq{l:OpenLaw}{n:Nat}(hn:l.most=some n){P:Params}{h:Heap}{args:List WData}{vals:List Value}
  (b:l.row.toRowW.claim.pre args=true)(i:WellAll P h vals args):
  ∃a vs ns,vals=[Value.ref a]/\args=[WData.list (ns.map WData.int)]/\h.get? a=some {cls:=.type "list",data:=.seq vs.toArray}/\IntsAre vs ns/\ns.length<=n:=by
 have j:WShape.hasAll [] args [.list .int]=true:=(pre_splitW b).1;have hc:l.pre.holds [] {args:=args}=true:=(pre_splitW b).2;obtain⟨d,r,rfl,h1,h2⟩:=hasAllW_cons j;obtain rfl:=hasAllW_nil h2;obtain⟨xs,rfl,h3⟩:=hasW_list h1;obtain⟨ns,rfl⟩:=items_int h3;have c:ns.length<=n:=by
  unfold OpenLaw.pre at hc;have f:(WTm.not (.lt (.lit (.int (n:Int))) (.len (.arg 0)))).holds [] {args:=[.list (ns.map .int)]}=true:=by
   have f:=(holds_andW hc).1;rw[hn] at f;exact f
  have g:=condW_of f (w_not (w_lt w_lit (w_len_list (w_arg rfl))));rw[a_] at g;refine Nat.le_of_not_lt λq=>?_;have k:(n:Int)<((ns.length:Nat):Int):=by omega
  first
   |(rw[dj k] at g;exact absurd g (by decide))
   |(simp at g;omega)
 cases i with
 |cons m o=>
  cases o;cases m with
  |list p e=>exact⟨_,_,ns,rfl,rfl,p,Mf ns _ e,c⟩
theorem Px(l:OpenLaw)(args:List WData):l.row.toRowW.claim.post args (.bool true) args=true:=
 postW_of (r:=l.row.toRowW) (X:=(true==true))
  (show WShape.has [] (.bool true) .bool=true by first|rfl|decide|simp[WShape.has,WShape.arms,WShape.armsAll])
  (show(WTm.eq .res (.lit (.bool true))).value [] {args:=args,res:=some (.bool true),after:=args}=some (.bool (true==true)) from w_eq_bool (w_res rfl) w_lit) rfl
theorem HD{l:OpenLaw}{n:Nat}{q:Program}{loose:List Str}{p:(au)->Heap->Prop}{s:World->Heap->Prop}{d:DefRec}
  (hn:l.most=some n)(i:d.params.defaults=[])
  (call:∀(w:World) (s₀ b:Shared) (mg mb:au) (c:Addr) (o:Obj) (pm cd doc:Value) (a:Addr) (vs:List Value) (ns:List Int),
   Ground q loose [] p w s₀ mg mb b.heap->s w b.heap->
   b.heap.get? c=some o->o.data= .func (docDef d.name d.params d.body d.scope pm cd doc)->b.heap.CodeRec cd d.name->mg d.name=some (.ref c)->
   b.heap.get? a=some {cls:= .type "list",data:= .seq vs.toArray}->IntsAre vs ns->ns.length<=n->b.gens= #[]->
   codeAny (model l.prog w) callerA (.call (.ref c) ⟨[.ref a],[]⟩) (λr s'=>r= .ok (.ret (.bool true))/\OldK b.heap s'.heap/\s'.os=b.os/\AllBare s'.gens) b):
  WalkO q loose p s l.row.toRowW d [] (λf vs=>PySem.call f vs):=by
 intro w s₀ b mg mb G Y c o pm cd doc v kV x hd j t k y args vals as e u z m A
 obtain rfl:v= .none:=Dflts.none t i
 obtain rfl:kV= .none:=Dflts.noKw t
 obtain⟨a,vs,ns,rfl,rfl,g,hints,h⟩:=Rq hn e m
 refine enter_call (iP (call w s₀ b mg mb c o pm cd doc a vs ns G Y x (fd_plain hd) j k g hints h y) λr s' B=> ?_)
 obtain⟨rfl,h2,h3,C⟩:=B
 exact⟨.inl ⟨.bool true,.bool true,[],rfl,λ_=>rfl,.bool true,Px l _,λ_=>⟨Pairwise.nil,λ_ D=>(nomatch D)⟩⟩,h2,h3,C⟩
end z6
section
open PySem PySem.Spec PyProof.Rows
namespace L2
theorem Gu:∀{vs:List Value} {ns:List Int},IntsAre vs ns->Vals (ns.map V.int) vs
 |_,_,.nil=>.nil
 |_,_,.cons n t h=>.cons ⟨t,rfl⟩ (Gu h)
def rS(H:Hp):Prop:=∀b,H b=none\/∃o xs,H b=some (.cT o (.lst xs))
theorem MV{P:Program}{w:World}{K:Frag}{mg mb:au}{CX:gH}{k:Nat}{D a:Addr}{fd:FuncData}{x:Str}{sp:Sp}{c:Shared}{vs:List Value}{ns:List Int}
  (M:K.In c.heap)(l:c.heap.Ns mainGlobals mg)(g:c.heap.Ns builtinsNs mb)(E:∀x:Str,x≠"__name__"->mb x=bootBuiltins x)(p:c.heap.NoLimit)(T:c.gens= #[])
  (C:c.heap.get? a=some {cls:= .type "list",data:= .seq vs.toArray})(hi:IntsAre vs ns)(N:ns.length<=sizeLine)(U:cR k callerA)
  (F:∀base:Heap,K.In base->base.Ns mainGlobals mg->fL P w K mg base CX k D fd [x] sp)(j:∀(s:Shared) (u:Value),BindsTo s fd ⟨[u],[]⟩ [(x,u)])
  (G:∀H:Hp,rS H->aW K H a (ns.map V.int)->sp [.ref a] H (λv _=>v= .bl true) λ_ _ _=>False)
  (I:∀H e s',CX [] H c (λ_ _ _=>False) e s'->False):
  codeAny (model P w) callerA (.call (.ref D) ⟨[.ref a],[]⟩) (λr s'=>r= .ok (.ret (.bool true))/\OldK c.heap s'.heap/\s'.os=c.os/\AllBare s'.gens) c:=by
 have O:=Gu hi
 have t:=hi.length
 have core:∀H:Hp,rS H->aW K H a (ns.map V.int)->bR P w H c.heap->(∀b,H b≠none->b=a)->(H a≠none->K.lookup a=none)->
   codeAny (model P w) callerA (.call (.ref D) ⟨[.ref a],[]⟩) (λr s'=>r= .ok (.ret (.bool true))/\OldK c.heap s'.heap/\s'.os=c.os/\AllBare s'.gens) c:=by
  intro H Q W hok R X
  have f:∀{b:Addr} {o:Obj},c.heap.get? b=some o->H b=none->(jC c.heap H).get? b=some o:=λe n=>LK e n
  have J:∀{b:Addr} {o:Obj} {es:Array DictEntry} {ep:Nat},c.heap.get? b=some o->o.data= .dict es ep->H b=none:=λ {b o es ep} e d=>by
   cases q:H b with
   |none=>rfl
   |some u=>
    have L:b=a:=R b (by rw[q];simp)
    subst L
    rw[C] at e;cases e
    have d':Data.seq vs.toArray _=Data.dict es ep:=d
    cases d'
  have i:∀{b:Addr} {m:au},c.heap.Ns b m->(jC c.heap H).Ns b m:=λ {b m} ⟨o,es,ep,e,d,r⟩=>⟨o,es,ep,f e (J e d),d,r⟩
  have y:K.In (jC c.heap H):=λb o e=>f (M b o e) (by
   cases q:H b with
   |none=>rfl
   |some u=>
    have L:b=a:=R b (by rw[q];simp)
    subst L
    rw[X (by rw[q];simp)] at e;cases e)
  have Y:Mod K mg (jC c.heap H):=⟨y,i l,⟨mb,i g,E⟩,let ⟨mc,h1,h2⟩:=p;⟨mc,i h1,h2⟩⟩
  have Z:mL P w K mg (jC c.heap H) callerA [] c H:=⟨rfl,Y,λb o e=>Oa e,Nat.le_of_eq (LL _ _),trivial,λb g=>absurd (show b∈([]:List Addr) from g) (by simp),hok,.of_eq T⟩
  refine iP ((F _ y (i l)).run callerA [] c H ⟨[.ref a],[]⟩ [.ref a] [.ref a] _ _ U Z (j c (.ref a)) (.cons rfl .nil) (G H Q W)) λr s' h=> ?_
  cases r with
  |error e=>exact(I H e s' h).elim
  |ok fl=>
   cases fl with
   |next=>exact False.elim h
   |brk=>exact False.elim h
   |cont=>exact False.elim h
   |ret u=>
    obtain⟨v,H',os,bare,un,A,r',q⟩:=h
    have q':v= .bl true:=q
    subst q'
    obtain rfl:u=Value.bool true:=r'
    refine⟨rfl,OldK.of_keep λb o e=> ?_,os,bare⟩
    cases q:H b with
    |none=>exact un.keep b o e q (by intro z;exact absurd (show b∈([]:List Addr) from z) (by simp)) (by simp)
    |some u=>
     rcases Q b with z|⟨ob,xs,z⟩
     .rw[q] at z;cases z
     .have z2:=un.ek b ob _ z
      obtain⟨S,_⟩:=hok b _ z
      obtain⟨e2,_⟩:=A b _ z2
      rw[e] at S;cases S
      exact e2
 cases hk:K.lookup a with
 |some o=>
  have e:=M a o hk
  rw[C] at e
  cases e
  refine core (λ_=>none) (λ_=> .inl rfl) (.inr ⟨_,vs.toArray,_,hk,rfl,rfl,rfl,by rw[bH,t];exact N,by simpa using O⟩) (λb u z=>by have B:(none:Option HO)=some u:=z;cases B) (λb z=>absurd rfl z) λz=>absurd rfl z
 |none=>
  refine core (λb=>if b=a then some (.cT {cls:= .type "list",data:= .seq vs.toArray} (.lst (ns.map V.int))) else none) (λb=> ?_) (.inl (.inr ⟨{cls:= .type "list",data:= .seq vs.toArray},aj rfl⟩)) (λb u z=> ?_) (λb z=> ?_) λ_=>hk
  .by_cases g:b=a
   .exact .inr ⟨_,_,aj g⟩
   .exact .inl (ai g)
  .by_cases g:b=a
   .have B:=(aj g).symm.trans z
    cases B
    subst g
    exact⟨C,by rw[a_];exact N,vs,_,O,C⟩
   .have B:=(ai g).symm.trans z
    cases B
  .by_cases g:b=a
   .exact g
   .exact absurd (ai g) z
theorem Tu{l:PySem.W.OpenLaw}{n k:Nat}{q:Program}{loose:List Str}{C:(au)->Heap->Prop}{A:World->Heap->Prop}{d:DefRec}{K:Params->Frag}{CX:World->gH}{sp:World->Sp}{x:Str}
  (hn:l.most=some n)(p:n<=sizeLine)(r:d.params.defaults=[])(D:cR k callerA)
  (E:∀(w:World) (h:Heap),A w h->(K w.params).In h)
  (F:∀(w:World) (mg:au) (m:Addr) (h:Heap),(K w.params).In h->h.Ns mainGlobals mg->mg d.name=some (.ref m)->
   ∃fd:FuncData,(∀(s:Shared) (u:Value),BindsTo s fd ⟨[u],[]⟩ [(x,u)])/\
    ∀base:Heap,(K w.params).In base->base.Ns mainGlobals mg->fL l.prog w (K w.params) mg base (CX w) k m fd [x] (sp w))
  (t:∀(w:World) (H:Hp) (a:Addr) (ns:List Int),ns.length<=n->rS H->aW (K w.params) H a (ns.map V.int)->sp w [.ref a] H (λv _=>v= .bl true) λ_ _ _=>False)
  (y:∀(w:World) (H:Hp) (s:Shared) (e:Value) (s':Shared),CX w [] H s (λ_ _ _=>False) e s'->False):
  PySem.W.WalkO q loose C A l.row.toRowW d [] (λf vs=>PySem.call f vs):=by
 refine z6.HD hn r λw s₀ i mg mb m o pm cd doc a vs ns G Y P hd I z j hints c J=> ?_
 have B:=E w _ Y
 obtain⟨fd,L,M⟩:=F w mg m _ B G.T.g z
 exact MV B G.T.g G.T.b G.T.builtins G.T.nolimit J j hints (cY c p) D M L (λH N O=>t w H a ns c N O) λH e s'=>y w H i e s'
def j5(s:Stmt):Arguments:=match s with
 |.FunctionDef _ a _ _ _ _ _ _ _ _=>a
 |_=>{posonlyargs:=[],args:=[],vararg:=none,kwonlyargs:=[],kw_defaults:=[],kwarg:=none,defaults:=[]}
def fC(s:Stmt):List Stmt:=match s with
 |.FunctionDef _ _ b _ _ _ _ _ _ _=>b
 |_=>[]
def aE(s:Stmt):Scope:=match s with
 |.FunctionDef _ _ _ _ _ _ sc _ _ _=>sc
 |_=>{kind:=.function,names:=[],isGenerator:=false,isCoroutine:=false}
abbrev mH:gH:=λ_ _ _ _ _ _=>False
abbrev E0:XK:=λ_ _ _=>False
structure jt(K:Frag)(x qual:Str)(st:Stmt)(f:Addr)(fd:FuncData):Prop where
 ex:∃(oc:Value) (od:Option Addr) (kV doc pm:Value) (an:Option Addr) (cdv ct:Value) (osl:Array (Option Value)),
  fd=fnOf x qual (j5 st) (fC st) (aE st) .none kV doc pm an cdv ct/\K.lookup f=some ⟨oc,od,.func fd,osl⟩/\codeIn K cdv qual=true
 kp:keepIn K (.ref f)=true
section
variable{P:Program}{w:World}{K:Frag}{mg:au}{base:Heap}
theorem jt.binds{x qual:Str}{st:Stmt}{f:Addr}{fd:FuncData}{ps:List Str}(F:jt K x qual st f fd)
  (h:∀(kV doc pm:Value) (an:Option Addr) (a ct:Value) (b:List Value),b.length=ps.length->bindArgs (fnOf x qual (j5 st) (fC st) (aE st) .none kV doc pm an a ct) ⟨b,[]⟩=pure (ps.zip b)):Binds K fd ps []:=by
 obtain⟨e,g,kV,doc,pm,an,a,ct,c,rfl,lk,d⟩:=F.ex;exact .all (h kV doc pm an a ct)
theorem xJ{x qual:Str}{st:Stmt}{f:Addr}{d:Value}{e an:Option Addr}{b:Array (Option Value)}{kV doc pm a ct:Value}(l:K.lookup f=some ⟨d,e,.func (fnOf x qual (j5 st) (fC st) (aE st) .none kV doc pm an a ct),b⟩)
 (c:codeIn K a qual=true)(k:keepIn K (.ref f)=true):jt K x qual st f (fnOf x qual (j5 st) (fC st) (aE st) .none kV doc pm an a ct):=⟨⟨d,e,kV,doc,pm,an,a,ct,b,rfl,l,c⟩,k⟩
end
section
variable{X:Cx}
theorem HZ:dm X (.builtin "len") (λxs H Q=>∃a kvs,xs=[V.ref a]/\H a=some (.dK kvs)/\Q (.int kvs.length) H):=by
 intro pins s σ H xs d Q I r h;obtain⟨a,kvs,rfl,b,q⟩:=h;obtain⟨u,rfl,ru⟩:=vals1 r;cases ru;exact fT I (.inl b) λt s' c=>⟨.int kvs.length,H,c,⟨t,rfl⟩,q⟩
end
theorem Ml{A B:Prop}(h:B):if false=true then A else B:=by
 rw[ai cC];exact h
theorem Mm{A B:Prop}(h:A):if true=true then A else B:=by
 rw[aj rfl];exact h
def jv(H H':Hp):Prop:=∀b o,H b=some o->H' b=some o
end L2
end
namespace PySem
open Sem (wp)
namespace ZL
abbrev iT(h:Heap)(z TI TO:Addr)(f0 f1:Value):Prop:=
 h.get? z=some {cls:=.type "zip",dict:=none,data:=.fields #[f0,f1,.bool false,.ref TI,.ref TO],slots:= #[]}
section
variable{prog:Program}{w:World}{A:Around}{E:aA}{s:Shared}
theorem TV{z TI TO i1 i2 l1 l2 T:Addr}{F:Obj}{m:Bool}{k1 k2:Nat}{xs ys:Array Value}{x y:Value}{Q:aA}(D:ZipApart z TI TO i1 i2 l1 l2)
  (hz:iT s.heap z TI TO (rawInt T) (.bool m))(H:s.heap.get? T=some F)(I:T≠z)(n:IsPair s.heap TI (.ref i1) (.ref i2))
  (h1:s.heap.IsListIter i1 l1 k1)(h2:s.heap.IsListIter i2 l2 k2)(q:s.heap.IsList l1 xs)(t:s.heap.IsList l2 ys)(J:xs[k1]? =some x)(K:ys[k2]? =some y)
  (L:∀h',iT h' z TI TO (rawInt T) (.bool true)->h'.IsListIter i1 l1 (k1+1)->h'.IsListIter i2 l2 (k2+1)->IsPair h' s.heap.objs.size x y->h'.objs.size=s.heap.objs.size+1->
   (∀c o,c≠z->c≠i1->c≠i2->s.heap.get? c=some o->h'.get? c=some o)->Q (.ref s.heap.objs.size) {s with heap:=h'}):
  wpAny (model prog w) A (Builtin.«zip.__next__» ⟨[.ref z],[]⟩) (λfin s'=>∃v,fin= .done (.ret v)/\Q v s') E s:=by
 show wpAny _ _ (field (.ref z) 2>>=_) _ _ _
 refine af (iJ hz rfl (x:= .bool false) rfl ?_)
 show wpAny _ _ (field (.ref z) 3>>=_) _ _ _
 refine af (iJ hz rfl (x:= .ref TI) rfl ?_)
 refine af (rA n rfl ?_)
 show wpAny _ _ (Builtin.SmallTypes.ownedTupleIsFree (.ref z)>>=_) _ _ _
 have first:wpAny (model prog w) A (Builtin.SmallTypes.ownedTupleIsFree (.ref z)) (λb s'=>b=false/\∃f,s'={s with heap:=f}/\iT f z TI TO (rawInt T) (.bool true)/\SameBut z s.heap f) E s:=by
  unfold Builtin.SmallTypes.ownedTupleIsFree
  refine af (iJ hz rfl (x:=rawInt T) rfl ?_)
  show wpAny _ _ (loadIfAlive ((T:Int)).toNat>>=_) _ _ _
  have la:∀{R:Option Obj->Shared->Prop},R (some F) s->wpAny (model prog w) A (loadIfAlive ((T:Int)).toNat) R E s:=λ {R} h=>by
   intro N p _
   unfold loadIfAlive
   rw[Sem.wp_loadIfAlive,oB,H]
   exact h
  refine af (la ?_)
  rw[ai (by simp)]
  refine af (iJ hz rfl (x:= .bool m) rfl ?_)
  cases m with
  |true=>exact ak ⟨rfl,s.heap,rfl,hz,.refl ..⟩
  |false=>
   show wpAny _ _ (setField (.ref z) 1 (.bool true)>>=_) _ _ _
   exact af (wpAny_setField_rec hz (by simp) λf i a=>ak ⟨rfl,f,rfl,i,a⟩)
 refine af (gD first (λb s' M=> ?_) λ_ _ e=>e)
 obtain⟨rfl,f,rfl,i,a⟩:=M
 show wpAny _ _ (forIn _ _ _>>=_) _ _ _
 refine af ?_
 rw[<-Array.forIn_toList]
 simp only[forIn_cons,forIn_nil]
 refine af (af (dR ?_))
 show wpAny _ _ (Builtin.SmallTypes.nextOf (.ref i1)>>=_) _ _ _
 refine af (zI (h1.extBut a.extBut D.i1z) (q.extBut a.extBut D.l1z) J λG k d=>ak (ak ?_))
 refine af (af (dR ?_))
 show wpAny _ _ (Builtin.SmallTypes.nextOf (.ref i2)>>=_) _ _ _
 refine af (zI ((h2.extBut a.extBut D.i2z).extBut d.extBut D.i12.symm) ((t.extBut a.extBut D.l2z).extBut d.extBut D.l2i1) K λj l g=>ak (ak (ak ?_)))
 show wpAny _ _ (newTuple [x,y]>>=λr=>ret r) _ _ _
 have hsz:j.objs.size=s.heap.objs.size:=by rw[g.1,d.1,a.1]
 refine af (fm (ak ⟨_,rfl,?_⟩) (by show 2<=sizeLine;decide))
 show Q (.ref j.objs.size) _
 rw[hsz]
 have up:∀c o,c≠z->c≠i1->c≠i2->s.heap.get? c=some o->j.get? c=some o:=λc o u B C e=>g.extBut _ _ C (d.extBut _ _ B (a.extBut _ _ u e))
 refine L _ (aT _ (g.extBut _ _ D.i2z.symm (d.extBut _ _ D.i1z.symm i))) ((k.extBut g.extBut D.i12).at λo e=>aT _ e) (l.at λo e=>aT _ e) ?_ (by rw[cG,hsz]) λc o u B C e=>aT _ (up c o u B C e)
 rw[<-hsz]
 exact bI _ rfl
theorem ON{z TI TO T:Addr}{f:Obj}{e:Bool}(hz:iT s.heap z TI TO (rawInt T) (.bool e))(g:s.heap.get? T=some f):
  wpAny (model prog w) A (Builtin.SmallTypes.ownedTupleIsFree (.ref z)) (λb s'=>b=false/\∃a,s'={s with heap:=a}/\iT a z TI TO (rawInt T) (.bool true)/\SameBut z s.heap a) E s:=by
 unfold Builtin.SmallTypes.ownedTupleIsFree;refine af (iJ hz rfl (x:=rawInt T) rfl ?_);show wpAny _ _ (loadIfAlive ((T:Int)).toNat>>=_) _ _ _;have la:∀{R:Option Obj->Shared->Prop},R (some f) s->wpAny (model prog w) A (loadIfAlive ((T:Int)).toNat) R E s:=λ {R} h=>by
  intro i p _;unfold loadIfAlive;rw[Sem.wp_loadIfAlive,oB,g];exact h
 refine af (la ?_);rw[ai (by simp)];refine af (iJ hz rfl (x:=.bool e) rfl ?_);cases e with
 |true=>exact ak ⟨rfl,s.heap,rfl,hz,.refl ..⟩
 |false=>
  show wpAny _ _ (setField (.ref z) 1 (.bool true)>>=_) _ _ _;exact af (wpAny_setField_rec hz (by simp) λa c d=>ak ⟨rfl,a,rfl,c,d⟩)
theorem TU{z TI TO i1 i2 l1 l2 T:Addr}{C:Obj}{F:Bool}{k1 k2:Nat}{xs ys:Array Value}{Q:Fin->Shared->Prop}(v:A.handled=none)(D:ZipApart z TI TO i1 i2 l1 l2)
  (hz:iT s.heap z TI TO (rawInt T) (.bool F))(G:s.heap.get? T=some C)(l:IsPair s.heap TI (.ref i1) (.ref i2))
  (h1:s.heap.IsListIter i1 l1 k1)(h2:s.heap.IsListIter i2 l2 k2)(i:s.heap.IsList l1 xs)(m:s.heap.IsList l2 ys)(j:xs[k1]? =none\/ys[k2]? =none)
  (y:∀h' e,(∀c o,c≠z->c≠i1->c≠i2->s.heap.get? c=some o->h'.get? c=some o)->(∃o,h'.get? e=some o/\o.cls= .type "StopIteration")->E (.ref e) {s with heap:=h'}):
  wpAny (model prog w) A (Builtin.«zip.__next__» ⟨[.ref z],[]⟩) Q E s:=by
 show wpAny _ _ (field (.ref z) 2>>=_) _ _ _
 refine af (iJ hz rfl (x:= .bool false) rfl ?_)
 show wpAny _ _ (field (.ref z) 3>>=_) _ _ _
 refine af (iJ hz rfl (x:= .ref TI) rfl ?_)
 refine af (rA l rfl ?_)
 show wpAny _ _ (Builtin.SmallTypes.ownedTupleIsFree (.ref z)>>=_) _ _ _
 refine af (gD (ON hz G) (λb s' H=> ?_) λ_ _ e=>e)
 obtain⟨rfl,B,rfl,n,a⟩:=H
 show wpAny _ _ (forIn _ _ _>>=_) _ _ _
 refine af ?_
 rw[<-Array.forIn_toList]
 simp only[forIn_cons,forIn_nil]
 refine af (af (dR ?_))
 show wpAny _ _ (Builtin.SmallTypes.nextOf (.ref i1)>>=_) _ _ _
 cases p:xs[k1]? with
 |none=>
  refine af (wpAny_nextOf_list_end v (h1.extBut a.extBut D.i1z) (i.extBut a.extBut D.l1z) p λf e d q=> ?_)
  exact y f e (λc o r t _ x=>d _ _ t (a.extBut _ _ r x)) q
 |some x=>
  have I:ys[k2]? =none:=by rcases j with h|h;rw[p] at h;cases h;exact h
  refine af (zI (h1.extBut a.extBut D.i1z) (i.extBut a.extBut D.l1z) p λf u d=>ak (ak ?_))
  refine af (af (dR ?_))
  show wpAny _ _ (Builtin.SmallTypes.nextOf (.ref i2)>>=_) _ _ _
  refine af (wpAny_nextOf_list_end v ((h2.extBut a.extBut D.i2z).extBut d.extBut D.i12.symm) ((m.extBut a.extBut D.l2z).extBut d.extBut D.l2i1) I λk e g q=> ?_)
  exact y k e (λc o r t J x=>g _ _ J (d.extBut _ _ t (a.extBut _ _ r x))) q
theorem Qa{z TI TO i1 i2 l1 l2 T:Addr}{g:Obj}{h:Bool}{k1 k2:Nat}{xs ys:Array Value}{x y:Value}{Q:Option Value->Shared->Prop}(D:ZipApart z TI TO i1 i2 l1 l2)
  (hz:iT s.heap z TI TO (rawInt T) (.bool h))(i:s.heap.get? T=some g)(b:T≠z)(d:IsPair s.heap TI (.ref i1) (.ref i2))
  (h1:s.heap.IsListIter i1 l1 k1)(h2:s.heap.IsListIter i2 l2 k2)(e:s.heap.IsList l1 xs)(f:s.heap.IsList l2 ys)(j:xs[k1]? =some x)(k:ys[k2]? =some y)
  (l:∀h',iT h' z TI TO (rawInt T) (.bool true)->h'.IsListIter i1 l1 (k1+1)->h'.IsListIter i2 l2 (k2+1)->IsPair h' s.heap.objs.size x y->h'.objs.size=s.heap.objs.size+1->
   (∀c o,c≠z->c≠i1->c≠i2->s.heap.get? c=some o->h'.get? c=some o)->Q (some (.ref s.heap.objs.size)) {s with heap:=h'}):
  wpAny (model prog w) A (pyNext (.ref z)) Q E s:=by
 have a:s.TypeIs (.ref z) "zip":=⟨_,hz,rfl⟩
 unfold pyNext
 exact af (jU (l8 (name:=Str.ofString "__next__") a vH
  (gY vH a F.entry_zip_next
   (TV D hz i b d h1 h2 e f j k λh' a1 a2 m n p q=>ak (l h' a1 a2 m n p q)) (F.args_zip_next_1 _))))
theorem P_{z TI TO i1 i2 l1 l2 T:Addr}{i:Obj}{j:Bool}{k1 k2:Nat}{xs ys:Array Value}{Q:Option Value->Shared->Prop}(k:A.handled=none)(D:ZipApart z TI TO i1 i2 l1 l2)
  (hz:iT s.heap z TI TO (rawInt T) (.bool j))(l:s.heap.get? T=some i)(f:IsPair s.heap TI (.ref i1) (.ref i2))
  (h1:s.heap.IsListIter i1 l1 k1)(h2:s.heap.IsListIter i2 l2 k2)(g:s.heap.IsList l1 xs)(h:s.heap.IsList l2 ys)(a:xs[k1]? =none\/ys[k2]? =none)
  (m:∀h',(∀c o,c≠z->c≠i1->c≠i2->s.heap.get? c=some o->h'.get? c=some o)->Q none {s with heap:=h'}):wpAny (model prog w) A (pyNext (.ref z)) Q E s:=by
 have d:s.TypeIs (.ref z) "zip":=⟨_,hz,rfl⟩
 unfold pyNext
 refine af (jU (l8 (name:=Str.ofString "__next__") d vH
  (gY vH d F.entry_zip_next (TU k D hz l f h1 h2 g h a λh' e hk n=> ?_) (F.args_zip_next_1 _))))
 obtain⟨o,p,hc⟩:=n
 refine af (vA (T:="StopIteration") (b:=true) ⟨o,p,hc⟩ isSubtype_stop ?_)
 exact ak (m _ hk)
structure ZS(z TI TO i1 i2 l1 l2 base:Addr)(xs ys:Array Value)(k:Nat)(h:Heap):Prop where
 zip:(k=0/\IsZip h z TI TO .none)\/(0<k/\∃bb,iT h z TI TO (rawInt base) (.bool bb))
 ti:IsPair h TI (.ref i1) (.ref i2)
 to:∃a b,IsPair h TO a b
 nA:h.IsListIter i1 l1 k
 nB:h.IsListIter i2 l2 k
 j_:h.IsList l1 xs
 kc:h.IsList l2 ys
 sz:h.objs.size=base+k
 old:∀(j:Nat) x y,j<k->xs[j]? =some x->ys[j]? =some y->IsPair h (base+j) x y
structure mT(z TI TO i1 i2 l1 l2 base:Addr):Prop where
 z:z<base
 to:TO<base
 i1:i1<base
 i2:i2<base
theorem ZS.upd{z TI TO i1 i2 l1 l2 base S:Addr}{xs ys:Array Value}{k:Nat}{h h':Heap}(Z:ZS z TI TO i1 i2 l1 l2 base xs ys k h)(hk:∀b o,b≠S->h.get? b=some o->h'.get? b=some o)(c:h'.objs.size=h.objs.size)
  (n1:z≠S)(n2:TI≠S)(n3:TO≠S)(n4:i1≠S)(n5:i2≠S)(n6:l1≠S)(n7:l2≠S)(n8:S<base):ZS z TI TO i1 i2 l1 l2 base xs ys k h' where
 zip:=by
  rcases Z.zip with⟨e,q⟩|⟨e,d,q⟩
  .exact .inl ⟨e,hk _ _ n1 q⟩
  .exact .inr ⟨e,d,hk _ _ n1 q⟩
 ti:=hk _ _ n2 Z.ti
 to:=let ⟨a,b,q⟩:=Z.to;⟨a,b,hk _ _ n3 q⟩
 nA:=Z.nA.at λo e=>hk _ o n4 e
 nB:=Z.nB.at λo e=>hk _ o n5 e
 j_:=Z.j_.at λo e=>hk _ o n6 e
 kc:=Z.kc.at λo e=>hk _ o n7 e
 sz:=c.trans Z.sz
 old:=λj x y f g i=>hk _ _ (iH (b8 n8 (oi _ _))) (Z.old j x y f g i)
theorem T3{z TI TO i1 i2 l1 l2 base:Addr}{xs ys:Array Value}{k:Nat}{x y:Value}{Q:Option Value->Shared->Prop}(D:ZipApart z TI TO i1 i2 l1 l2)(L:mT z TI TO i1 i2 l1 l2 base)
  (Z:ZS z TI TO i1 i2 l1 l2 base xs ys k s.heap)(f:xs[k]? =some x)(g:ys[k]? =some y)
  (K:∀h',ZS z TI TO i1 i2 l1 l2 base xs ys (k+1) h'->(∀c o,c≠z->c≠TO->c≠i1->c≠i2->s.heap.get? c=some o->h'.get? c=some o)->Q (some (.ref (base+k))) {s with heap:=h'}):
  wpAny (model prog w) A (pyNext (.ref z)) Q E s:=by
 obtain⟨a,b,d⟩:=Z.to
 have new:∀h',(∀c o,c≠z->c≠TO->c≠i1->c≠i2->s.heap.get? c=some o->h'.get? c=some o)->IsPair h' s.heap.objs.size x y->∀(j:Nat) h i,j<k+1->xs[j]? =some h->ys[j]? =some i->IsPair h' (base+j) h i:=λh' hk N j h i O l m=>by
  by_cases n:j=k
  .subst n
   rw[f] at l;rw[g] at m;cases l;cases m
   rw[<-Z.sz]
   exact N
  .have lo:∀c,c<base->base+j≠c:=λc hc e=>absurd (b8 hc (oi base j)) (by rw[e];exact dZ _)
   exact hk _ _ (lo _ L.z) (lo _ L.to) (lo _ L.i1) (lo _ L.i2) (Z.old j h i (by omega) l m)
 rcases Z.zip with⟨e,q⟩|⟨e,P,q⟩
 .subst e
  refine wpAny_pyNext_zip_item D q Z.ti d Z.nA Z.nB Z.j_ Z.kc f g λh' a1 a2 p t u v hk=> ?_
  have B:s.heap.objs.size=base:=Z.sz
  have r:=K h' ⟨.inr ⟨succ_pos _,false,by rw[B] at a1;exact a1⟩,hk _ _ D.TIz D.TITO D.TIi1 D.TIi2 Z.ti,⟨_,_,a2⟩,p,t,Z.j_.at λo e=>hk _ o D.l1z D.l1TO D.l1i1 D.l1i2 e,Z.kc.at λo e=>hk _ o D.l2z D.l2TO D.l2i1 D.l2i2 e,
   by rw[v,B],new h' hk u⟩ hk
  rw[B]
  exact r
 .obtain⟨x0,C⟩:∃x0,xs[0]? =some x0:=⟨xs[0]'(by have:=(vh.mp f).1;omega),cP _⟩
  obtain⟨F,G⟩:∃F,ys[0]? =some F:=⟨ys[0]'(by have:=(vh.mp g).1;omega),cP _⟩
  have M:=Z.old 0 x0 F e C G
  rw[add_zero] at M
  refine Qa D q M (iH L.z) Z.ti Z.nA Z.nB Z.j_ Z.kc f g λh' a1 p t u v hk=> ?_
  have r:=K h' ⟨.inr ⟨succ_pos _,true,a1⟩,hk _ _ D.TIz D.TIi1 D.TIi2 Z.ti,⟨_,_,hk _ _ D.TOz D.TOi1 D.TOi2 d⟩,p,t,Z.j_.at λo e=>hk _ o D.l1z D.l1i1 D.l1i2 e,Z.kc.at λo e=>hk _ o D.l2z D.l2i1 D.l2i2 e,
   by rw[v,Z.sz];rfl,new h' (λc o H _ I J e=>hk c o H I J e) u⟩ λc o H _ I J e=>hk c o H I J e
  rw[Z.sz]
  exact r
theorem TZ{z TI TO i1 i2 l1 l2 base:Addr}{xs ys:Array Value}{k:Nat}{Q:Option Value->Shared->Prop}(j:A.handled=none)(D:ZipApart z TI TO i1 i2 l1 l2)
  (Z:ZS z TI TO i1 i2 l1 l2 base xs ys k s.heap)(d:k=min xs.size ys.size)
  (l:∀h',(∀c o,c≠z->c≠TO->c≠i1->c≠i2->s.heap.get? c=some o->h'.get? c=some o)->Q none {s with heap:=h'}):wpAny (model prog w) A (pyNext (.ref z)) Q E s:=by
 obtain⟨a,b,f⟩:=Z.to
 have m:xs[k]? =none\/ys[k]? =none:=by
  subst d
  rcases Nat.le_total xs.size ys.size with h|h
  .exact .inl (by rw[kG h];exact n9 (aH _))
  .exact .inr (by rw[Nat.min_eq_right h];exact n9 (aH _))
 rcases Z.zip with⟨e,q⟩|⟨e,u,q⟩
 .exact wpAny_pyNext_zip_end j D q Z.ti f Z.nA Z.nB Z.j_ Z.kc m l
 .have g:0<xs.size:=by omega
  have i:0<ys.size:=by omega
  have n:=Z.old 0 _ _ e (cP g) (cP i)
  rw[add_zero] at n
  exact P_ j D q n Z.ti Z.nA Z.nB Z.j_ Z.kc m λh' hk=>l h' λc o p _ r t e=>hk c o p r t e
def dW(base k:Nat):Array Value:=((range k).map λj=>Value.ref (base+j)).toArray
theorem Qw(base k:Nat):dW base (k+1)=(dW base k).push (.ref (base+k)):=by
 unfold dW;rw[range_succ,ff];simp
theorem yM(base k:Nat):(dW base k).size=k:=by simp[dW]
end
namespace F
theorem TY:typeLookup (.type "zip") "__len__"=pure none:=by rw[l7,mE];kernel_rfl
theorem TX:typeLookup (.type "zip") "__length_hint__"=pure none:=by rw[l7,mE];kernel_rfl
end F
section
variable{prog:Program}{w:World}{A:Around}{s:Shared}{R:Result->Shared->Prop}{z TI TO i1 i2 l1 l2 base S:Addr}{xs ys:Array Value}
structure pq(z TI TO i1 i2 l1 l2 base S:Addr):Prop where
 n1:z≠S
 n2:TI≠S
 n3:TO≠S
 n4:i1≠S
 n5:i2≠S
 n6:l1≠S
 n7:l2≠S
 n8:S<base
theorem Kc(H:A.handled=none)(D:ZipApart z TI TO i1 i2 l1 l2)(L:mT z TI TO i1 i2 l1 l2 base)(O:pq z TI TO i1 i2 l1 l2 base S)(hn:min xs.size ys.size<=sizeLine)(res:Value):
  ∀(m k:Nat) (s:Shared) (c:Nat),min xs.size ys.size - k=m->k<=min xs.size ys.size->ZS z TI TO i1 i2 l1 l2 base xs ys k s.heap->s.heap.get? S=some {cls:=.type "list",dict:=none,data:=.seq (dW base k) c,slots:= #[]}->
  (∀h' c',(∀(j:Nat) x y,xs[j]?=some x->ys[j]?=some y->IsPair h' (base+j) x y)->h'.get? S=some {cls:=.type "list",dict:=none,data:=.seq (dW base (min xs.size ys.size)) c',slots:= #[]}->
   (∀b o,b≠S->b≠z->b≠TO->b≠i1->b≠i2->s.heap.get? b=some o->h'.get? b=some o)->R (.ok (.ret res)) {s with heap:=h'})->
  codeAny (model prog w) A (.builtin "list.extend.loop" ⟨[.ref S,.ref z,res],[]⟩) R s:=by
 have lo:∀(c j:Nat),c<base->base+j≠c:=λc j hc e=>absurd (b8 hc (oi base j)) (by rw[e];exact dZ _);intro m;induction m with
 |zero=>
  intro k s c I hk i r t;have f:k=min xs.size ys.size:=by omega
  refine eU PySem.F.entry_extend_loop ?_;rw[gg ri _];show wpAny _ A.in1 (pyNext (.ref z)>>=_) _ _ s;refine af (TZ (A:=A.in1) H D i f λh' a=>?_);refine ak (t h' c (λj x y E G=>?_) ?_ λb o u l n p q e=>a b o l n p q e)
  .have J:j<k:=by
    have T:=(vh.mp E).1;have U:=(vh.mp G).1;omega
   exact a _ _ (lo _ _ L.z) (lo _ _ L.to) (lo _ _ L.i1) (lo _ _ L.i2) (i.old j x y J E G)
  .rw[<-f]
   exact a _ _ O.n1.symm O.n3.symm O.n4.symm O.n5.symm r
 |succ m K=>
  intro k s c I hk i r t;have v:k<min xs.size ys.size:=by omega
  have M:xs[k]?=some (xs[k]'(by omega)):=cP _;have N:ys[k]?=some (ys[k]'(by omega)):=cP _;refine eU PySem.F.entry_extend_loop ?_;rw[gg ri _];show wpAny _ A.in1 (pyNext (.ref z)>>=_) _ _ s;refine af (T3 (A:=A.in1) D L i M N λh' B a=>?_);have g:=a _ _ O.n1.symm O.n3.symm O.n4.symm O.n5.symm r;show wpAny _ A.in1 (updateSeq S (·.push (.ref (base+k)))>>=_) _ _ _;refine af ?_;have h:∀b o,b≠S->h'.get? b=some o->(h'.update S (Obj.mapSeq (·.push (.ref (base+k))))).get? b=some o:=λb o P e=>(oU _ _ (Ne.symm P)).trans e;have C:=gZ (Obj.mapSeq (·.push (.ref (base+k)))) g rfl;have d:∃n',(h'.update S (Obj.mapSeq (·.push (.ref (base+k))))).get? S=some {cls:=.type "list",dict:=none,data:=.seq ((dW base k).push (.ref (base+k))) n',slots:= #[]}:=⟨_,C⟩;obtain⟨n',d⟩:=d;rw[<-Qw] at d;refine rC g rfl (ak ⟨gW ri _,K (k+1) _ n' (by omega) v (B.upd h (oA ..) O.n1 O.n2 O.n3 O.n4 O.n5 O.n6 O.n7 O.n8) d λh'' c' a1 a2 Q=>?_⟩)
   (by rw[yM];omega) (by show((dW base k).push _).size<=sizeLine+1;rw[Array.size_push,yM];omega)
  .exact t h'' c' a1 a2 λb o u l n p q e=>Q b o u l n p q (h b o u (a b o l n p q e))
theorem Ka(n:A.handled=none)(D:ZipApart z TI TO i1 i2 l1 l2)(L:mT z TI TO i1 i2 l1 l2 base)(O:pq z TI TO i1 i2 l1 l2 base S)(hn:min xs.size ys.size<=sizeLine)(res:Value)(c₀:Nat)
  (i:ZS z TI TO i1 i2 l1 l2 base xs ys 0 s.heap)(k:s.heap.get? S=some {cls:= .type "list",data:= .seq #[] c₀})
  (p:∀h' c',(∀(j:Nat) x y,xs[j]? =some x->ys[j]? =some y->IsPair h' (base+j) x y)->h'.get? S=some {cls:= .type "list",dict:=none,data:= .seq (dW base (min xs.size ys.size)) c',slots:= #[]}->
   (∀b o,b≠S->b≠z->b≠TO->b≠i1->b≠i2->s.heap.get? b=some o->h'.get? b=some o)->R (.ok (.ret res)) {s with heap:=h'}):
  wpAny (model prog w) A.in1 (Builtin.List.listExtendWith (.ref S) (.ref z) res)
   (λfin s'=>match fin with| .done f=>R (.ok f) s'| .again c'=>c'.quiet=true/\codeAny (model prog w) A c' R s') (λe s'=>R (.error e) s') s:=by
 have d:IsZip s.heap z TI TO .none:=by
  rcases i.zip with⟨_,q⟩|⟨e,_⟩
  .exact q
  .exact absurd e (dZ _)
 have h:s.TypeIs (.ref z) "zip":=⟨_,d,rfl⟩
 unfold Builtin.List.listExtendWith
 refine af (kR h ?_)
 have h1:Builtin.List.listSameRef (.ref S) (.ref z)=false:=by simp[Builtin.List.listSameRef,O.n1.symm]
 have h2:(Value.type "zip" ==Value.type "list")=false:=by decide
 have h3:(Value.type "zip" ==Value.type "tuple")=false:=by decide
 simp only[h1,h2,h3,Bool.or_false,gG,e_]
 refine af (wpAny_pyIter_zip d ?_)
 refine af (dR ?_)
 unfold Builtin.List.listLengthHint
 refine af (wpAny_specialOf h F.TY ?_)
 show wpAny _ A.in1 (specialOf (Value.ref z) (Str.ofString "__length_hint__")>>=_) _ _ _
 refine af (wpAny_specialOf h F.TX ?_)
 refine ak ?_
 show wpAny _ A.in1 (rule "list.extend.makes-room">>=λ_=>Builtin.List.listTouch (.ref S)>>=λ_=>
  again (.builtin "list.extend.loop" ⟨[.ref S,.ref z,res],[]⟩)) _ _ _
 refine af (fW ?_)
 refine af ?_
 show wpAny _ A.in1 (updateSeq S (·.push .none)>>=λ_=>updateSeq S (·.pop)) _ _ _
 refine af (rC k rfl ?_)
 have a:=gZ (Obj.mapSeq (·.push Value.none)) k rfl
 refine rC (hz:=by seq_fits) a rfl ?_
 have c:=gZ (Obj.mapSeq (·.pop)) a rfl
 have g:∀b o,b≠S->s.heap.get? b=some o->((s.heap.update S (Obj.mapSeq (·.push Value.none))).update S (Obj.mapSeq (·.pop))).get? b=some o:=
  λb o l e=>(oU _ _ (Ne.symm l)).trans ((oU _ _ (Ne.symm l)).trans e)
 refine ak ⟨gW ri _,Kc n D L O hn res _ 0 _ _ rfl (cH _) (i.upd g (by rw[oA,oA]) O.n1 O.n2 O.n3 O.n4 O.n5 O.n6 O.n7 O.n8) c λh' c' a1 a2 r=> ?_⟩
 exact p h' c' a1 a2 λb o m t u v B e=>r b o m t u v B (g b o m e)
end
end ZL
end PySem
section
open PySem PySem.Spec PyProof.Rows
namespace L2
def bX:List (Str×NameKind)->List Str
 |[]=>[]
 |(n,k)::r=>if (k==NameKind.free)=true then n::bX r else bX r
def c8(env:Env):List (Str×NameKind)->List (Str×Addr)->List (Str×Addr)
 |[],acc=>acc
 |(n,k)::r,acc=>if (k==NameKind.free)=true then c8 env r ((n,(env.cells.lookup n).getD 0)::acc) else c8 env r acc
theorem wX{env:Env}{f:(Str×NameKind)->List (Str×Addr)->Sem (ForInStep (List (Str×Addr)))}
  (h1:∀n k cs c,(k==NameKind.free)=true->env.cells.lookup n=some c->f (n,k) cs=pure (.yield ((n,c)::cs)))(h2:∀n k cs,(k==NameKind.free)=false->f (n,k) cs=pure (.yield cs)):
  ∀(names:List (Str×NameKind)) (acc:List (Str×Addr)),(∀n∈bX names,∃c,env.cells.lookup n=some c)->forIn names acc f=pure (c8 env names acc)
 |[],acc,_=>by rw[forIn_nil];rfl
 |(n,k)::r,acc,h=>by
  rw[forIn_cons];cases e:(k==NameKind.free) with
  |true=>
   have b:bX ((n,k)::r)=n::bX r:=by show(if (k==NameKind.free)=true then n::bX r else bX r)=_;rw[aj e]
   obtain⟨c,hc⟩:=h n (by rw[b];exact cB);rw[h1 n k acc c e hc,pure_bind];show forIn r ((n,c)::acc) f=_;rw[wX h1 h2 r _ λm d=>h m (by rw[b];exact b9 _ d)];have a:c8 env ((n,k)::r) acc=c8 env r ((n,(env.cells.lookup n).getD 0)::acc):=by
    show(if (k==NameKind.free)=true then _ else _)=_;rw[aj e]
   rw[a,hc];rfl
  |false=>
   have b:bX ((n,k)::r)=bX r:=by show(if (k==NameKind.free)=true then n::bX r else bX r)=_;rw[ai (by rw[e];decide)]
   rw[h2 n k acc e,pure_bind];show forIn r acc f=_;rw[wX h1 h2 r _ λm d=>h m (by rw[b];exact d)];have a:c8 env ((n,k)::r) acc=c8 env r acc:=by
    show(if (k==NameKind.free)=true then _ else _)=_;rw[ai (by rw[e];decide)]
   rw[a]
theorem Bm{scope:Scope}{env:Env}(h:∀n∈bX scope.names,∃c,env.cells.lookup n=some c):closureFor scope env=pure (c8 env scope.names []):=by
 unfold closureFor;show(forIn scope.names [] _>>=_)=_;rw[wX (env:=env) (λn k cs c hk hc=>?_) (λn k cs hk=>?_) scope.names [] h]
 .exact pure_bind _ _
 .dsimp only
  rw[aj hk];unfold cellOf;rw[hc];rfl
 .dsimp only
  rw[ai (by rw[hk];decide)]
theorem pO{env:Env}{x:Str}:∀(names:List (Str×NameKind)) (acc:List (Str×Addr)),(∀n∈bX names,∃c,env.cells.lookup n=some c)->
  (c8 env names acc).lookup x=if x∈bX names then env.cells.lookup x else acc.lookup x
 |[],acc,_=>by simp[c8,bX]
 |(n,k)::r,acc,h=>by
  cases e:(k==NameKind.free) with
  |true=>
   have b:bX ((n,k)::r)=n::bX r:=by show(if (k==NameKind.free)=true then n::bX r else bX r)=_;rw[aj e]
   obtain⟨c,hc⟩:=h n (by rw[b];exact cB);have a:c8 env ((n,k)::r) acc=c8 env r ((n,(env.cells.lookup n).getD 0)::acc):=by
    show(if (k==NameKind.free)=true then _ else _)=_;rw[aj e]
   rw[a,b,pO r _ λm f=>h m (by rw[b];exact b9 _ f)];by_cases d:x∈bX r
   .rw[aj d,aj (b9 _ d)]
   .rw[ai d]
    by_cases g:x=n
    .subst g
     rw[aj cB,hc];simp
    .rw[ai (by intro z;rcases aX.mp z with z|z;exact g z;exact d z)]
     have i:(x==n)=false:=by simpa using g
     rw[lookup_cons,i]
  |false=>
   have b:bX ((n,k)::r)=bX r:=by show(if (k==NameKind.free)=true then n::bX r else bX r)=_;rw[ai (by rw[e];decide)]
   have a:c8 env ((n,k)::r) acc=c8 env r acc:=by
    show(if (k==NameKind.free)=true then _ else _)=_;rw[ai (by rw[e];decide)]
   rw[a,b,pO r _ λm f=>h m (by rw[b];exact f)]
theorem wU{x:Str}{c:Addr}:∀(names:List (Str×NameKind)) (n:Nat) (acc:List (Str×Addr)),(cellsFrom n names acc).lookup x=some c->(n<=c/\(x,NameKind.cell)∈names)\/acc.lookup x=some c
 |[],n,acc,h=>.inr h
 |(m,k)::r,n,acc,h=>by
  unfold cellsFrom at h;split at h
  .rename_i hk
   rcases wU r _ _ h with⟨h1,h2⟩|h1
   .exact .inl ⟨by omega,b9 _ h2⟩
   .rw[lookup_cons] at h1
    split at h1
    .rename_i a
     cases h1;exact .inl ⟨aH _,by rw[iO.mp a,<-iO.mp hk];exact cB⟩
    .exact .inr h1
  .rcases wU r _ _ h with⟨h1,h2⟩|h1
   .exact .inl ⟨h1,b9 _ h2⟩
   .exact .inr h1
theorem wR:∀(names:List (Str×NameKind)) (n:Nat) (acc:List (Str×Addr)),(∀x y c,acc.lookup x=some c->acc.lookup y=some c->x=y)->(∀x c,acc.lookup x=some c->c<n)->
  ∀x y c,(cellsFrom n names acc).lookup x=some c->(cellsFrom n names acc).lookup y=some c->x=y
 |[],_,_,h,_=>h
 |(m,k)::r,n,acc,h,f=>by
  unfold cellsFrom;split
  .refine wR r _ _ (λx y c d e=>?_) λx c d=>?_
   .rw[lookup_cons] at d e
    split at d<;>split at e
    .rename_i _ a _ b
     rw[iO.mp a,iO.mp b]
    .cases d
     exact absurd (f _ _ e) (dZ _)
    .cases e
     exact absurd (f _ _ d) (dZ _)
    .exact h x y c d e
   .rw[lookup_cons] at d
    split at d
    .cases d;exact iF _
    .exact dM (f _ _ d)
  .exact wR r _ _ h f
theorem wV{x:Str}:∀(names:List (Str×NameKind)) (n:Nat) (acc:List (Str×Addr)),(x,NameKind.cell)∉names->(cellsFrom n names acc).lookup x=acc.lookup x
 |[],_,_,_=>rfl
 |(m,k)::r,n,acc,h=>by
  have a:(x,NameKind.cell)∉r:=λz=>h (b9 _ z);unfold cellsFrom;split
  .rename_i hk
   rw[wV r _ _ a,lookup_cons];split
   .rename_i b
    exact absurd (by rw[iO.mp b,<-iO.mp hk];exact cB) h
   .rfl
  .exact wV r _ _ a
theorem wQ{x:Str}:∀(names:List (Str×NameKind)) (n:Nat) (acc:List (Str×Addr)),((∃c,acc.lookup x=some c)\/(x,NameKind.cell)∈names)->∃c,(cellsFrom n names acc).lookup x=some c
 |[],_,_,h=>by
  rcases h with h|h
  .exact h
  .cases h
 |(m,k)::r,n,acc,h=>by
  unfold cellsFrom;split
  .rename_i hk
   refine wQ r _ _ ?_;rcases h with⟨c,h⟩|h
   .left
    rw[lookup_cons];split
    .exact⟨_,rfl⟩
    .exact⟨c,h⟩
   .rcases aX.mp h with e|e
    .cases e
     exact .inl ⟨n,by rw[lookup_cons,beq_self_eq_true]⟩
    .exact .inr e
  .rename_i hk
   refine wQ r _ _ (h.imp id λe=>?_);rcases aX.mp e with e|e
   .cases e
    exact absurd rfl hk
   .exact e
theorem yy{x:Str}{c:Addr}:∀(names:List (Str×NameKind)) (h:Heap) (acc:List (Str×Addr)),(cellsFrom h.objs.size names acc).lookup x=some c->acc.lookup x=some c\/(h.objs.size<=c/\(pushCells h names).IsCell c none)
 |[],h,acc,e=>.inl e
 |(m,k)::r,h,acc,e=>by
  unfold cellsFrom at e;unfold pushCells;split at e
  .rename_i hk
   rw[aj hk];have ih:=yy (x:=x) (c:=c) r (h.push {cls:=.type "cell",data:=.cell none}) ((m,h.objs.size)::acc) (by rw[cG];exact e);rw[cG] at ih;rcases ih with ih|ih
   .rw[lookup_cons] at ih
    split at ih
    .cases ih
     exact .inr ⟨aH _,_,pushCells_keeps r _ _ _ (bI _ rfl),rfl⟩
    .exact .inl ih
   .exact .inr ⟨by omega,ih.2⟩
  .rename_i hk
   rw[ai hk];exact yy r h acc e
theorem TL{M:Model}{A:Around}{E:aA}{s:Shared}{scope:Scope}{globals:Addr}{closure:List (Str×Addr)}{qual:Str}{func:Option Addr}{code:Value}{env:Env}{builtins:Addr}{Q:Env->Shared->Prop}
  (b:Q (newEnv scope s.heap.objs.size globals (cellsFrom (s.heap.objs.size+1) scope.names closure) qual func code (some env) builtins) {s with heap:=pushCells (s.heap.push {cls:=.type "dict",data:=.dict #[]}) scope.names}):
  wpAny M A (newFunctionEnv scope globals closure [] qual func code (some env) builtins) Q E s:=by
 simp only[newFunctionEnv,Option.isSome_some,jh];refine af (wpAny_alloc ?_);refine af (wpAny_layCells _ (λname kind cells=>by cases a:kind==NameKind.cell<;>simp[a]) _ _ _ _ ?_);rw[show({s with heap:=s.heap.push {cls:=.type "dict",data:=.dict #[]}}:Shared).heap.objs.size=s.heap.objs.size+1 from cG ..];rw[forIn_nil];exact af (ak (ak b))
structure eH(X:Cx)(scope:Scope)(frees:List Str):Prop where
 kind:scope.kind= .function
 Ip:∀y∈scope.names,y.2= .cell->scope.names.lookup y.1=some .cell
 locs:∀y∈scope.names,y.2= .local->scope.names.lookup y.1=some .local
 sub:∀n∈bX scope.names,n∈frees
 free:∀n∈frees,scope.names.lookup n=some .free
 kinds:(frees.all λn=>X.env.kindOf n==some .cell||X.env.kindOf n==some .free)=true
theorem eH.frees{X:Cx}{scope:Scope}{fr:List Str}(S:eH X scope fr):∀n∈bX scope.names,X.env.kindOf n=some .cell\/X.env.kindOf n=some .free:=λn hn=>by
 have h:=mw.mp S.kinds n (S.sub n hn);rcases or_eq_true _ _▸h with h|h
 .exact .inl (oQ h)
 .exact .inr (oQ h)
theorem tR{x:Str}:∀{names:List (Str×NameKind)},(x,NameKind.free)∈names->x∈bX names
 |(n,k)::r,h=>by
  unfold bX;rcases aX.mp h with e|e
  .injection e with a b
   subst a b;rw[aj (by rfl)];exact cB
  .split
   .exact b9 _ (tR e)
   .exact tR e
theorem ED{env:Env}{x:Str}:∀{names:List (Str×NameKind)} {k:NameKind},(names.map λ(n,k)=>if (k==NameKind.free&&env.scope.kind== .function&&env.kindOf n==some .cell) then (n,NameKind.cell) else (n,k)).lookup x=some k->
  ∃k0,names.lookup x=some k0/\(k=k0\/(k0=.free/\k=.cell))
 |[],k,h=>by simp at h
 |(n,k1)::r,k,h=>by
  rw[dg] at h;by_cases b:(x==n)=true
  .by_cases hc:(k1==NameKind.free&&env.scope.kind== .function&&env.kindOf n==some .cell)=true
   .dsimp only at h
    rw[aj hc,lookup_cons,b] at h;have e:k=.cell:=by injection h with h;exact h.symm
    have c:k1=.free:=by
     have:=(dh _ _▸(dh _ _▸hc).1).1;exact oQ this
    exact⟨k1,by rw[lookup_cons,b],.inr ⟨c,e⟩⟩
   .dsimp only at h
    rw[ai hc,lookup_cons,b] at h;injection h with h;exact⟨k1,by rw[lookup_cons,b],.inl h.symm⟩
  .have a:(x==n)=false:=by simpa using b
   have h':(List.map (λ(n,k)=>if (k==NameKind.free&&env.scope.kind== .function&&env.kindOf n==some .cell) then (n,NameKind.cell) else (n,k)) r).lookup x=some k:=by
    by_cases hc:(k1==NameKind.free&&env.scope.kind== .function&&env.kindOf n==some .cell)=true
    .dsimp only at h;rw[aj hc,lookup_cons,a] at h;exact h
    .dsimp only at h;rw[ai hc,lookup_cons,a] at h;exact h
   obtain⟨k0,c,d⟩:=ED h';exact⟨k0,by rw[lookup_cons,a];exact c,d⟩
theorem EC{env:Env}{x:Str}:∀{names:List (Str×NameKind)},names.lookup x=some .free->
  (names.map λ(n,k)=>if (k==NameKind.free&&env.scope.kind== .function&&env.kindOf n==some .cell) then (n,NameKind.cell) else (n,k)).lookup x=some .cell\/
  (names.map λ(n,k)=>if (k==NameKind.free&&env.scope.kind== .function&&env.kindOf n==some .cell) then (n,NameKind.cell) else (n,k)).lookup x=some .free
 |[],h=>by simp at h
 |(n,k1)::r,h=>by
  rw[dg]
  by_cases b:(x==n)=true
  .rw[lookup_cons,b] at h
   injection h with h
   subst h
   by_cases hc:(NameKind.free==NameKind.free&&env.scope.kind== .function&&env.kindOf n==some .cell)=true
   .left;dsimp only;rw[aj hc,lookup_cons,b]
   .right;dsimp only;rw[ai hc,lookup_cons,b]
  .have a:(x==n)=false:=by simpa using b
   rw[lookup_cons,a] at h
   have c:=EC (env:=env) h
   by_cases hc:(k1==NameKind.free&&env.scope.kind== .function&&env.kindOf n==some .cell)=true
   .dsimp only;rw[aj hc,lookup_cons,a];exact c
   .dsimp only;rw[ai hc,lookup_cons,a];exact c
structure CP where
 C:Addr
 s:Shared
 H:Hp
 pins:aQ
 fp:List Addr
def bQ(X:Cx)(NC:List Str)(scope:Scope)(c:CP):Cx where
 prog:=X.prog
 w:=X.w
 K:=X.K
 mg:=X.mg
 base:=X.base
 A:=X.A
 N:=NC
 s₀:=c.s
 H₀:=c.H
 env:=compEnvC scope (cellsFrom (c.C+1) scope.names (c8 X.env scope.names [])) c.C X.env
 outer:=X.stack
 stack:=X.stack
 ex:=c.fp
 fn:=λx=>scope.names.lookup x==some .cell
 calm:=true
 pn:=X.pn++c.pins
 xe:=λ_ _=>False
section
variable{X:Cx}{scope:Scope}{frees:List Str}{NC:List Str}{pins:aQ}{σ oV:St}{H H':Hp}{s s':Shared}{fp:List Addr}{C:Addr}
theorem eH.has(S:eH X scope frees)(ok:X.Ok):∀n∈bX scope.names,∃c,X.env.cells.lookup n=some c:=λn hn=>ok.has n (S.frees n hn)
theorem eH.pN(S:eH X scope frees)(ok:X.Ok){x:Str}{c:Addr}(h:(c8 X.env scope.names []).lookup x=some c):x∈bX scope.names/\X.env.cells.lookup x=some c:=by
 rw[pO scope.names [] (S.has ok)] at h;by_cases a:x∈bX scope.names
 .rw[aj a] at h;exact⟨a,h⟩
 .rw[ai a] at h;simp at h
theorem eH.cells(S:eH X scope frees)(ok:X.Ok){x:Str}{c:Addr}{n:Nat}(h:(cellsFrom n scope.names (c8 X.env scope.names [])).lookup x=some c):n<=c\/(x∈bX scope.names/\X.env.cells.lookup x=some c):=
 (wU _ _ _ h).imp And.left (S.pN ok)
theorem eH.lO(S:eH X scope frees){x:Str}(h:(x,NameKind.cell)∈scope.names)(a:x∈bX scope.names):False:=by
 have h1:=S.Ip _ h rfl;rw[S.free x (S.sub x a)] at h1;cases h1
theorem IK(S:eH X scope frees)(hc:X.calm=true)(I:Inv X pins σ H s)(d:∀b∈fp,fM X pins H b/\b<s.heap.objs.size)(g:C=s.heap.objs.size):(bQ X NC scope ⟨C,s,H,pins,fp⟩).Ok where
 mod:=I.ok.mod
 kind:=S.kind
 glob:=I.ok.glob
 blt:=I.ok.blt
 above:=by show s.heap.objs.size<=C;rw[g];exact aH _
 inj:=wR _ _ _ (λx y c h1 h2=>I.ok.inj x y c (S.pN I.ok h1).2 (S.pN I.ok h2).2) λx c h=>by
  obtain⟨v,q⟩:=I.cell x c (S.pN I.ok h).2
  rw[g]
  exact dM q.lt
 has:=λx p=>by
  have l:∃k,(relabel scope X.env).names.lookup x=some k/\(k= .cell\/k= .free):=by
   rcases p with h|h
   .exact⟨_,h,.inl rfl⟩
   .exact⟨_,h,.inr rfl⟩
  obtain⟨k,h,hk⟩:=l
  obtain⟨k0,r,f⟩:=ED h
  have j:=kU r
  have m:k0= .free\/k0= .cell:=by
   rcases f with f|⟨f,_⟩
   .rcases hk with hk|hk
    .exact .inr (f▸hk)
    .exact .inl (f▸hk)
   .exact .inl f
  refine wQ _ _ _ ?_
  rcases m with rfl|rfl
  .have i:=tR j
   obtain⟨c,n⟩:=S.has I.ok x i
   exact .inl ⟨c,by rw[pO scope.names [] (S.has I.ok),aj i];exact n⟩
  .exact .inr j
 lq:=λx c h h2=>by
  have j:(x,NameKind.cell)∈scope.names:=kU (oQ h)
  show s.heap.objs.size<=c
  rcases S.cells I.ok h2 with z|⟨z,_⟩
  .rw[g] at z
   exact Nat.le_of_succ_le z
  .exact(S.lO j z).elim
 hd:=λ_=>I.ok.hd hc
 frames:=I.ok.frames
 stk:= .inl rfl
 sO:=λb a=>⟨λz=>by have:=(d b a).2;rw[z] at this;exact absurd (g▸this) (dZ _),λx c h=>by
  rcases S.cells I.ok h with z|⟨_,z⟩
  .exact iH (b8 (d b a).2 (Nat.le_of_succ_le (g▸z:s.heap.objs.size+1<=c)))
  .exact(d b a).1.2.2.2.2.1 x c z⟩
 bs:=I.bs
 ic:=cY I.ok.ic I.sz
 lN:=λb o e a=>by
  rcases (d b a).1.2.2.2.1 with z|z
  .exact I.ok.lN b o e z
  .exact absurd (b8 (aN e) (cY I.ok.ic z)) (dZ _)
 nc:=λb a z=>by
  rcases aX.mp (I.nV b z) with e|e
  .exact(d b a).1.2.1 e
  .exact(d b a).1.2.2.1 e
 fZ:=I.stack
 i8:=I.zb
def stC(own:List Str)(ix:List Nat)(σ:St):St:=own.map (λ_=>none)++ix.map λi=>(σ[i]?).join
theorem R0{own frees:List Str}{ix:List Nat}{σ:St}{b:List Str}(c:ix.map (λi=>b[i]?)=frees.map some){j:Nat}{x:Str}{v:V}(h1:(own++frees)[j]?=some x)(h2:(stC own ix σ)[j]?=some (some v)):
  x∈frees/\∃i:Nat,b[i]?=some x/\σ[i]?=some (some v):=by
 have f:ix.length=frees.length:=by have:=c7 List.length c;simpa using this
 unfold stC at h2;by_cases d:j<own.length
 .rw[gU (by simpa using d),cy] at h2
  cases e:own[j]? with
  |none=>rw[e] at h2;simp at h2
  |some o=>rw[e] at h2;simp at h2
 .rw[kE (by simpa using d),cy,a_] at h2
  rw[kE (by omega)] at h1;have a:(ix.map (λi=>b[i]?))[j - own.length]?=(frees.map some)[j - own.length]? :=by rw[c]
  rw[cy,cy,h1] at a;cases e:ix[j - own.length]? with
  |none=>rw[e] at h2;simp at h2
  |some i=>
   rw[e] at h2 a;simp only[map_some,Option.some.injEq] at h2 a;refine⟨jj h1,i,a,?_⟩;cases q:σ[i]? with
   |none=>rw[q] at h2;simp at h2
   |some o=>rw[q] at h2;simp at h2;rw[h2]
theorem R4{own frees:List Str}{ix:List Nat}{σ:St}{a:List Str}(b:ix.map (λi=>a[i]?)=frees.map some):(stC own ix σ).length=(own++frees).length:=by
 have c:ix.length=frees.length:=by have:=c7 List.length b;simpa using this
 unfold stC;simp[c]
theorem IJ{own:List Str}{ix:List Nat}{a:Heap}{tk:Nat}(S:eH X scope frees)(hc:X.calm=true)(I:Inv X pins σ H s)(G:∀b∈fp,fM X pins H b/\b<s.heap.objs.size)(t:C=s.heap.objs.size)
  (E:ix.map (λi=>X.N[i]?)=frees.map some)(w:∃m,a.Ns C m)(hk:∀b o,s.heap.get? b=some o->a.get? b=some o)
  (y:∀x c,(cellsFrom (C+1) scope.names (c8 X.env scope.names [])).lookup x=some c->(c8 X.env scope.names []).lookup x=some c\/(C+1<=c/\a.IsCell c none)):
  Inv (bQ X (own++frees) scope ⟨C,s,H,pins,fp⟩) [] (stC own ix σ) H {s with heap:=a,toks:=tk}:=by
 obtain⟨m,J⟩:=w
 refine⟨IK S hc I G t,rfl,I.bare,Un.kept hk,⟨m,J,λj x v h1 h2 h3=> ?_⟩,λx c h=> ?_,?_,λx c h=> ?_,λp K=> ?_,I.hok.kept hk,R4 E⟩
 .obtain⟨L,i,M,O⟩:=R0 E h1 h2
  have f:=S.free x L
  have g:=tR (kU f)
  have k:=S.frees x g
  obtain⟨m0,_,P⟩:=I.loc
  have A:pe X.env.scope x:=by rcases k with z|z;exact .inr (.inl z);exact .inr (.inr z)
  obtain⟨u,r,l⟩:=P i x v M O A
  refine⟨u,r,?_⟩
  rcases l with⟨F,_⟩|⟨_,c,Q,R⟩
  .rcases k with z|z
   .rw[F] at z;cases z
   .rw[F] at z;cases z
  .refine .inr ⟨EC (env:=X.env) f,c,?_,?_⟩
   .show(cellsFrom _ scope.names (c8 X.env scope.names [])).lookup x=some c
    rw[wV _ _ _ λz=>S.lO z g,pO scope.names [] (S.has I.ok),aj g]
    exact Q
   .obtain⟨o,B,hd⟩:=R
    exact⟨o,hk _ _ B,hd⟩
 .rcases y x c h with h|h
  .obtain⟨_,e⟩:=S.pN I.ok h
   obtain⟨v,o,B,hd⟩:=I.cell x c e
   exact⟨v,o,hk _ _ B,hd⟩
  .exact⟨none,h.2⟩
 .show H C=none
  rw[t]
  exact I.hok.fresh (aH _)
 .rcases S.cells I.ok h with z|⟨_,z⟩
  .refine I.hok.fresh ?_
   have z:s.heap.objs.size+1<=c:=t▸z
   omega
  .exact I.eY x c z
 .have D:p∈X.pn++pins:=by
   have:p∈(X.pn++pins)++[]:=K
   rwa [iN] at this
  obtain⟨e,n,ne,T,d⟩:=I.pin p D
  refine⟨hk _ _ e,n,?_,λz=> ?_,d⟩
  .show p.1≠C
   rw[t]
   exact aY (aN e)
  .rcases aX.mp (I.nV p.1 z) with q|q
   .exact ne q
   .exact T q
theorem IG{NC:List Str}(S:eH X scope frees)(I:Inv X pins σ H s)(d:∀b∈fp,fM X pins H b/\b<s.heap.objs.size)(e:C=s.heap.objs.size){b:Addr}(a:b∈fp)(hn:H' b=none):fM (bQ X NC scope ⟨C,s,H,pins,fp⟩) [] H' b:=by
 refine⟨hn,?_,λz=>?_,.inl a,λx c h=>by
  rcases S.cells I.ok h with z|⟨_,z⟩
  .exact iH (b8 (d b a).2 (Nat.le_of_succ_le (e▸z:s.heap.objs.size+1<=c)))
  .exact(d b a).1.2.2.2.2.1 x c z,λp f=>(d b a).1.2.2.2.2.2 p ?_⟩
 .show b≠C
  rw[e];exact aY (d b a).2
 .rcases aX.mp (I.nV b z) with q|q
  .exact(d b a).1.2.1 q
  .exact(d b a).1.2.2.1 q
 .have:p∈(X.pn++pins)++[]:=f
  rwa [iN] at this
theorem IF{NC:List Str}(I:Inv X pins σ H s)(a:∀b∈fp,fM X pins H b/\b<s.heap.objs.size)(J:Inv (bQ X NC scope ⟨C,s,H,pins,fp⟩) [] oV H' s'):Inv X pins σ H' s':=
 I.wM J.os J.base J.hok J.bare λb c=>⟨(a b c).1.2.2.2.1,(a b c).1.2.1,(a b c).1.2.2.2.2.1,(a b c).1.2.2.2.2.2⟩
theorem II{h':Heap}(I:Inv X pins σ H s)(hn:H C=none)(h1:C≠X.env.locals)(h2:X.s₀.heap.objs.size<=C)(h3:∀x c,X.env.cells.lookup x=some c->c≠C)(a:∀p∈X.pn++pins,p.1≠C)(d:SameBut C s.heap h'):
 Inv X pins σ H {s with heap:=h'}:=I.turned (t':=s.toks) (λb o f e=>(d.2 b f).trans e) hn h1 (.inr h2) h3 a
end
inductive fN:St->St->Prop
 |nil:fN [] []
 |own {o:Option V} {a b:St}:fN a b->fN (none::a) (o::b)
 |keep {o:Option V} {a b:St}:fN a b->fN (o::a) (o::b)
theorem fN.len:∀{a b:St},fN a b->b.length=a.length
 |_,_,.nil=>rfl
 |_,_,.own h=>c7 (·+1) h.len
 |_,_,.keep h=>c7 (·+1) h.len
theorem fN.get:∀{a b:St},fN a b->∀(i:Nat) v,a[i]?=some (some v)->b[i]?=some (some v)
 |_,_,.nil,i,v,e=>by simp at e
 |_,_,.own h,0,v,e=>by simp at e
 |_,_,.own h,i+1,v,e=>by
  rw[zQ] at e ⊢;exact h.get i v e
 |_,_,.keep h,0,v,e=>by simpa using e
 |_,_,.keep h,i+1,v,e=>by
  rw[zQ] at e ⊢;exact h.get i v e
theorem fN.refl:∀a:St,fN a a
 |[]=>.nil
 |_::r=>.keep (fN.refl r)
inductive iW(X:Cx):List Expr->TT->Prop
 |nil:iW X [] (λ_ H Q=>Q true H)
 |one {c:Expr} {t:TT}:PT X c t->iW X [c] t
theorem iW.run{X:Cx}{ifs:List Expr}{t:TT}(h:iW X ifs t){pins:aQ}{s:Shared}{σ:St}{H:Hp}{Q:Bool->Hp->Prop}(I:Inv X pins σ H s)(a:t σ H Q):
  wpAny (model X.prog X.w) X.A (forIn ifs true λc r=>if r=true then do let ok <-isTrue c X.env (eval c X.env);pure (ForInStep.yield ok) else pure (ForInStep.yield r)) (TP X pins σ Q) X.xe s:=by
 cases h with
 |nil=>exact wpAny_tests_nil ⟨H,I,a⟩
 |one h=>exact wpAny_tests_one (h pins s σ H Q I a)
def HX(oV:St)(acc:Addr)(g:TG)(tt:TT)(te:TE)(x:V)(ys:List V)(H:Hp)(N:List V->Hp->Prop):Prop:=
 g x oV H λσ2 H2=>fN oV σ2/\tt σ2 H2 λb H3=>if b=true then te σ2 H3 λy H4=>H4 acc=some (.lst ys)/\ys.length<sizeLine/\N (ys++[y]) (upd H4 acc (.lst (ys++[y]))) else N ys H3
def wL(J:It)(oV:St)(acc:Addr)(g:TG)(tt:TT)(te:TE)(H:Hp)(Q:VK):Prop:=
 ∃W:Nat->Nat->List V->Hp->Prop,(∃m,W 0 m [] H)/\∀i m ys H,W i m ys H->H acc=some (.lst ys)/\
  ((J.stop i H/\Q (.ref acc) H)\/(J.go i H/\∃N:List V->Hp->Prop,(∀ys' H',N ys' H'->∃m',m'<m/\W (i+1) m' ys' H')/\∀x H',J.vg i H x H'->HX oV acc g tt te x ys H' N))
def zl(own:List Str)(ix:List Nat)(wi:TI)(g:CP->TG)(tt:CP->TT)(te:CP->TE):TE:=λσ H Q=>
 wi σ H λJ H1=>∀(c:CP) (acc:Addr),H1 acc=none->wL J (stC own ix σ) acc (g c) (tt c) (te c) (upd H1 acc (.lst [])) Q
section
variable{X:Cx}{scope:Scope}{own frees:List Str}{ix:List Nat}{tg elt iter:Expr}{ifs:List Expr}{pos:Pos}{wi:TI}{g:CP->TG}{tt:CP->TT}{te:CP->TE}
theorem Iw{J:It}{it acc:Addr}{fp:List Addr}{E:Nat->Heap->Prop}{c:CP}{σ:St}{H:Hp}{s:Shared}{Q:VK}{R:Result->Shared->Prop}
  (hfp:c.fp=fp)(T:Turn X.prog X.w X.K tg J fp it E)(hg:PG (bQ X (own++frees) scope c) tg (g c))(ht:iW (bQ X (own++frees) scope c) ifs (tt c))(he:PE (bQ X (own++frees) scope c) elt (te c))
  (j:∀b∈fp,∀H':Hp,H' b=none->fM (bQ X (own++frees) scope c) [] H' b)
  (I:Inv (bQ X (own++frees) scope c) [] (stC own ix σ) H s)(st:E 0 s.heap)(fr:∀b∈fp,H b=none)(h:wL J (stC own ix σ) acc (g c) (tt c) (te c) H Q)
  (hR:∀s' H',Inv (bQ X (own++frees) scope c) [] (stC own ix σ) H' s'->Q (.ref acc) H'->R (.ok .next) s'):
  codeAny (model X.prog X.w) X.A (.compLoop (.ListComp elt [⟨tg,iter,ifs,0⟩] scope pos) 0 (.ref it) (.ref acc) (bQ X (own++frees) scope c).env) R s:=by
 obtain⟨W,⟨m0,w0⟩,turn⟩:=h
 refine codeAny_loop rfl (λn s'=>∃i ys H',Inv (bQ X (own++frees) scope c) [] (stC own ix σ) H' s'/\E i s'.heap/\(∀b∈fp,H' b=none)/\W i n ys H') (λn M hI=> ?_) m0 ⟨0,[],H,I,st,fr,w0⟩
 obtain⟨i,ys,H1,I1,p,v,w1⟩:=hI
 show wpAny _ X.A ((compTurn (.ListComp elt [⟨tg,iter,ifs,0⟩] scope pos) 0 (.ref it) (.ref acc) (bQ X (own++frees) scope c).env).onRaise (λx=>do noteFrame x (bQ X (own++frees) scope c).env;theTreesLotGoes x)) _ _ M
 have k:∀{α:Type} {t:Sem α} {P:α->Shared->Prop} {s:Shared},wpAny (model X.prog X.w) X.A t P (λ_ _=>False) s->wpAny (model X.prog X.w) X.A t P (notedBy (model X.prog X.w) X.A (bQ X (own++frees) scope c).env λe s'=>R (.error e) s') s:=
  λh=>gD h (λ_ _ q=>q) λ_ _ z=>z.elim
 refine wpAny_noted ?_
 rw[compTurn_list]
 obtain⟨ha,hw⟩:=turn i n ys H1 w1
 rcases hw with⟨stop,q⟩|⟨go,N,hN,step⟩
 .refine af (vF (af (k (aM (T.done (bQ X (own++frees) scope c) rfl rfl rfl rfl i [] M _ H1 (λ_ _=>False) I1 (λb f=>j b f H1 (v b f)) p stop) λr s2 ⟨O,I2⟩=> ?_))))
  subst O
  exact ak (hR s2 H1 I2 q)
 .refine af (vF (af (k (aM (T.item (bQ X (own++frees) scope c) rfl rfl rfl rfl i [] M _ H1 (λ_ _=>False) I1 (λb f=>j b f H1 (v b f)) p go) λr s2 ⟨u,O,h2⟩=> ?_))))
  subst O
  refine af (k (aM h2 λ_ s3 ⟨x,S,I3,r3,y3,l,U⟩=> ?_))
  have V:=I3.pinned (λb f=>j b f S (U b f)) (T.obj _ _ l)
  refine af (k (aM (hg _ s3 _ S x u _ V r3 (step x S y3)) λ_ s4 ⟨T4,H4,I4,F,q4⟩=> ?_))
  refine af (k (aM (ht.run I4 q4) λok s5 ⟨H5,Y,G⟩=> ?_))
  have a:∀{B:Shared} {C:St} {m:Hp},Inv (bQ X (own++frees) scope c) ([]++qv fp s3.heap) C m B->E (i+1) B.heap/\∀b∈fp,m b=none:=λ {B C m} D=>
   ⟨T.keep _ _ _ l λb f o e=>(D.pin (b,o) (gc _ (gc _ (tS f e)))).1,λb f=>by
    obtain⟨o,e,d⟩:=T.obj _ _ l b f
    exact(D.pin (b,o) (gc _ (gc _ (tS f e)))).2.1⟩
  cases ok with
  |false=>
   rw[ai (by decide)] at G
   obtain⟨Z,hm,w5⟩:=hN _ _ G
   obtain⟨k1,k2⟩:=a Y
   exact ak ⟨rfl,Z,hm,i+1,ys,H5,(Y.qV).weak F.len.symm F.get,k1,k2,w5⟩
  |true=>
   rw[aj rfl] at G
   refine af (af (k (aM (he _ s5 _ H5 _ Y G) λy B ⟨L,m,D,r6,a6,l6,q6⟩=> ?_)))
   obtain⟨Z,hm,w6⟩:=hN _ _ q6
   obtain⟨k1,k2⟩:=a D
   refine af (k (aM (qj (X:=bQ X (own++frees) scope c) _ B _ m (.ref acc) [L] (.ref acc) [y] (λ_ H7=>H7=upd m acc (.lst (ys++[L]))) D rfl (.cons r6 .nil) ⟨acc,ys,L,rfl,rfl,a6,l6,rfl⟩) λ_ s7 ⟨_,H7,I7,_,e7⟩=> ?_))
   subst e7
   obtain⟨k1,k2⟩:=a I7
   exact ak (ak ⟨rfl,Z,hm,i+1,ys++[L],_,(I7.qV).weak F.len.symm F.get,k1,k2,w6⟩)
structure vU(X:Cx)(pins:aQ)(C:Addr)(H:Hp):Prop where
 no:H C=none
 loc:C≠X.env.locals
 old:X.s₀.heap.objs.size<=C
 gp:∀x c,X.env.cells.lookup x=some c->c≠C
 pin:∀p∈X.pn++pins,p.1≠C
theorem vU.inv{pins:aQ}{σ:St}{H:Hp}{s:Shared}{C:Addr}{h':Heap}(G:vU X pins C H)(I:Inv X pins σ H s)(a:SameBut C s.heap h'):Inv X pins σ H {s with heap:=h'}:=
 II I G.no G.loc G.old G.gp G.pin a
theorem Bp{pins:aQ}{σ:St}{H:Hp}{s:Shared}{Q:VK}{D:Value->Addr->Result->Shared->Prop}{E:aA}{J:It}{it:Addr}{fp:List Addr}{F:Nat->Heap->Prop}
  (S:eH X scope frees)(hc:X.calm=true)(W:ix.map (λi=>X.N[i]?)=frees.map some)
  (Y:∀c,PG (bQ X (own++frees) scope c) tg (g c))(Z:∀c,iW (bQ X (own++frees) scope c) ifs (tt c))(he:∀c,PE (bQ X (own++frees) scope c) elt (te c))
  (I:Inv X pins σ H s)(T:Turn X.prog X.w X.K tg J fp it F)(st:F 0 s.heap)(R:∀b∈fp,fM X pins H b)
  (h:∀(c:CP) (acc:Addr),H acc=none->wL J (stC own ix σ) acc (g c) (tt c) (te c) (upd H acc (.lst [])) Q)
  (G:∀(acc C:Addr) s' H' m,Inv X pins σ H' s'->s'.heap.Ns C m->vU X pins C H'->Q (.ref acc) H'->D (.ref acc) C (.ok .next) s'):
  wpAny (model X.prog X.w) X.A (newList []) (λacc u=>wpAny (model X.prog X.w) X.A (newFunctionEnv scope X.env.globals (c8 X.env scope.names []) [] X.env.qual none .none (some X.env)) (λl y=>
   codeAny (model X.prog X.w) X.A (.compStart (.ListComp elt [⟨tg,iter,ifs,0⟩] scope pos) 0 (.ref it) acc {l with scope:=relabel scope X.env}) (D acc l.locals) y) E u) E s:=by
 refine fm (TL ?_)
 dsimp only
 have L:H s.heap.objs.size=none:=I.hok.fresh (aH _)
 have n:Inv X pins σ (upd H s.heap.objs.size (.lst [])) {s with heap:=s.heap.push {cls:= .type "list",data:= .seq ([]:List Value).toArray}}:=I.Dm (its:=[]) (t':=s.toks) .nil (cH _)
 generalize r:({s with heap:=s.heap.push {cls:= .type "list",data:= .seq ([]:List Value).toArray}}:Shared)=d at n
 have U:d.heap=s.heap.push {cls:= .type "list",data:= .seq ([]:List Value).toArray}:=by rw[<-r]
 have V:∀b∈fp,b<s.heap.objs.size:=λb j=>by
  obtain⟨o,e,_⟩:=T.obj _ _ st b j
  exact aN e
 have sz:d.heap.objs.size=s.heap.objs.size+1:=by rw[U,cG]
 have k:∀b∈fp,fM X pins (upd H s.heap.objs.size (.lst [])) b/\b<d.heap.objs.size:=λb j=>
  ⟨⟨by rw[bh (aY (V b j))];exact(R b j).1,(R b j).2⟩,by rw[sz];exact dM (V b j)⟩
 obtain⟨a,B⟩:∃a,a=pushCells (d.heap.push {cls:= .type "dict",data:= .dict #[]}) scope.names:=⟨_,rfl⟩
 have kp:∀b o,d.heap.get? b=some o->a.get? b=some o:=λb o e=>by
  rw[B]
  exact pushCells_keeps _ _ b o (aT _ e)
 have M:∃m,a.Ns d.heap.objs.size m:=by
  rw[B]
  exact⟨_,(Heap.Ns.new d.heap (.type "dict")).keeps (pushCells_keeps _ _)⟩
 have cl:∀x c,(cellsFrom (d.heap.objs.size+1) scope.names (c8 X.env scope.names [])).lookup x=some c->(c8 X.env scope.names []).lookup x=some c\/(d.heap.objs.size+1<=c/\a.IsCell c none):=λx c e=>by
  have:=yy (x:=x) (c:=c) scope.names (d.heap.push {cls:= .type "dict",data:= .dict #[]}) (c8 X.env scope.names []) (by rw[cG];exact e)
  rw[cG,<-B] at this
  exact this
 have J0:Inv (bQ X (own++frees) scope ⟨d.heap.objs.size,d,upd H s.heap.objs.size (.lst []),pins,fp⟩) [] (stC own ix σ) (upd H s.heap.objs.size (.lst [])) {d with heap:=a}:=
  IJ (tk:=d.toks) S hc n k rfl W M kp cl
 have O:∀b∈fp,∀H':Hp,H' b=none->fM (bQ X (own++frees) scope ⟨d.heap.objs.size,d,upd H s.heap.objs.size (.lst []),pins,fp⟩) [] H' b:=λb j H' hn=>IG S n k rfl j hn
 have t:F 0 a:=T.keep _ _ _ st λb j o e=>kp b o (by rw[U];exact aT _ e)
 have loop:codeAny (model X.prog X.w) X.A (.compLoop (.ListComp elt [⟨tg,iter,ifs,0⟩] scope pos) 0 (.ref it) (.ref s.heap.objs.size) (bQ X (own++frees) scope ⟨d.heap.objs.size,d,upd H s.heap.objs.size (.lst []),pins,fp⟩).env)
   (D (.ref s.heap.objs.size) d.heap.objs.size) {d with heap:=a}:=by
  refine Iw rfl T (Y _) (Z _) (he _) O J0 t (λb j=>(k b j).1.1) (h _ _ L) λs' H' P q=> ?_
  obtain⟨m,hm,_⟩:=P.loc
  refine G _ _ s' H' m (IF n k P) hm ⟨P.free,iH n.lt,n.sz,λx c e z=> ?_,λp hp z=> ?_⟩ q
  .obtain⟨v,q⟩:=n.cell x c e
   exact absurd (b8 q.lt (by rw[z];exact aH _)) (dZ _)
  .exact absurd (b8 (aN (n.pin p hp).1) (by rw[z];exact aH _)) (dZ _)
 have f:=loop
 rw[B,<-r] at f
 exact codeAny_compStart_list f (T.self _ 0 _ _ _ (by rw[B,<-r] at t;exact t) f)
theorem OX(hi:PI X tg iter wi)
  (d:∀c,PG (bQ X (own++frees) scope c) tg (g c))(f:∀c,iW (bQ X (own++frees) scope c) ifs (tt c))(j:∀c,PE (bQ X (own++frees) scope c) elt (te c))(S:eH X scope frees:=by exact⟨rfl,by decide+kernel,by decide+kernel,by decide+kernel,by decide+kernel,rfl⟩)(hc:X.calm=true:=by rfl)(k:ix.map (λi=>X.N[i]?)=frees.map some:=by rfl)(l:∀x,foldedSetIterable iter X.env x=pure x:=by intro _;rfl):
  PE X (.ListComp elt [⟨tg,iter,ifs,0⟩] scope pos) (zl own ix wi g tt te):=by
 intro pins s σ H Q I h;rw[eval_ListComp];refine wpAny_comprehension_free (use:=none) rfl l (Bm (S.has I.ok)) S.kind S.locs (aM (hi pins s σ H _ I h) λv u h1=>aM h1 λn w h2=>?_);obtain⟨it,fp,y,J,H2,e,o,T,a,f2,p⟩:=h2;subst e;refine Bp S hc k d f j o T a f2 p λacc C s' H' m r t G q=>?_;exact⟨m,t,λh' b=>⟨.ref acc,H',G.inv r b,rfl,q⟩⟩
theorem PC{i:Nat}{x:Str}{pos' spos:Pos}(b:X.N.Nodup)(d:X.N[i]? =some x)(o:Loc X.env.scope x)(hi:PI X tg iter wi)
  (p:∀c,PG (bQ X (own++frees) scope c) tg (g c))(r:∀c,iW (bQ X (own++frees) scope c) ifs (tt c))(t:∀c,PE (bQ X (own++frees) scope c) elt (te c))(S:eH X scope frees:=by exact⟨rfl,by decide+kernel,by decide+kernel,by decide+kernel,by decide+kernel,rfl⟩)(hc:X.calm=true:=by rfl)(u:ix.map (λi=>X.N[i]?)=frees.map some:=by rfl)(w:∀x,foldedSetIterable iter X.env x=pure x:=by intro _;rfl)
  (f:swapsWith (.ListComp elt [⟨tg,iter,ifs,0⟩] scope pos) (some (.Name x pos')) spos.line X.env=pure true:=by rfl)(y:X.fn x=true\/X.env.scope.names.lookup x=some .local:=by first|exact .inl rfl|exact .inr rfl|assumption):
  PS X (.Assign [.Name x pos'] (.ListComp elt [⟨tg,iter,ifs,0⟩] scope pos) spos) (uX (zl own ix wi g tt te) (nj i)):=by
 intro pins s σ H D I h
 rw[exec_Assign_Name_used _ _ _ _ f]
 refine af (vF (af ?_))
 show wpAny _ X.A (do let _ <-comprehension (.ListComp elt [⟨tg,iter,ifs,0⟩] scope pos) scope X.env _ (newList []) false (eval iter X.env) (some (assign (.Name x pos') X.env))) _ _ s
 refine af (gD (wpAny_comprehension_free (use:=some (assign (.Name x pos') X.env)) (Q:=λ_ s'=>SP X pins D .next s') rfl w (Bm (S.has I.ok)) S.kind S.locs
  (aM (hi pins s σ H _ I h) λv P h1=>aM h1 λz B h2=> ?_)) (λ_ s' E=>ak (ak E)) λ_ _ e=>e)
 obtain⟨it,fp,R,J,H2,e,F,T,j,f2,K⟩:=h2
 subst e
 refine Bp S hc u p r t F T j f2 K λacc C s' H' m L M G q=> ?_
 show wpAny _ X.A (assign (.Name x pos') X.env (.ref acc)) _ _ _
 refine wpAny_assign_Name (F5 L b d o (v:= .ref acc) rfl (λB k ch=> ?_) y)
 obtain⟨a,sb,O⟩:=ch
 have l:C≠a:=by
  rcases O with e|e
  .rw[e];exact G.loc
  .exact(G.gp _ _ e).symm
 exact⟨m,M.sameBut sb l,λh' n=>⟨_,H',G.inv k n,q⟩⟩
end
section
variable{X:Cx}
theorem Be:∀{bs:List Bool} {its:List Value},Vals (bs.map V.bl) its->LSm.BoolsAre its bs
 |[],_,.nil=>.nil
 |b::r,_,.cons q t=>by
  cases q;exact .cons b (Be t)
theorem pM(hc:X.calm=true):dm X (.builtin "all") (λxs H Q=>∃(p:Addr) (bs:List Bool),xs=[.ref p]/\aW X.K H p (bs.map V.bl)/\Q (.bl (bs.all id)) H):=by
 intro pins s σ H xs m Q I r h;obtain⟨p,bs,rfl,g,q⟩:=h;obtain⟨u,rfl,ru⟩:=vals1 r;cases ru;obtain⟨vs,j,k,hz⟩:=I.list g;have d:=Be j;have a:=k.isList;have c:p<s.heap.objs.size:=by obtain⟨_,e,_⟩:=a;exact aN e
 refine call_all_walk (mh a ?_);refine⟨s.heap.objs.size,[s.heap.objs.size,p],[s.heap.objs.size],vs.toArray.size,_,_,λi=>(bs[i]?).getD true,rfl,Walks.list (A:=X.A.in1) (I.ok.hd hc) _ p (aY c) vs.toArray,
  ⟨⟨_,bI _ rfl,rfl,rfl⟩,a.push _⟩,λi v s' n o l f=>?_,λh' tk hk=>?_⟩
 .obtain⟨b,e,rfl⟩:=d.get i v (by simpa using l)
  simp only[e,getD_some] at f;exact mq f
 .have e:((range vs.toArray.size).all λi=>(bs[i]?).getD true)=bs.all id:=by
   rw[bH,d.length];exact LSm.range_all bs
  rw[e];exact⟨.bl _,H,I.kept (h':=h') (t':=tk) (LSm.kept_iter hk),rfl,q⟩
theorem Ou:bq X (binaryOp .FloorDiv) (rI (λ_ j=>0<j/\j.natAbs.log2<9000) λi j=>.int (i/j)):=yw λi j _ _ _ _ _ hc q=>by
 have h1:(0:Int)<j:=hc.1;exact floordiv_int (by omega) (by rw[Int.fdiv_eq_ediv_of_nonneg i (by omega)];exact q) (.inl (PyProof.noPylong_of_log2 hc.2))
def v8(y:Str):It:=⟨λi _=>i<y.cps.size,λi H x H'=>H'=H/\∃c,y.cps[i]?=some c/\x=.str ⟨#[c]⟩,λi _=>i=y.cps.size⟩
theorem Tg{P:Program}{w:World}{K:Frag}{nm:Str}{px:Pos}{ty:String}{y:Str}{t:Tok}(it:Addr)
  (W:∀A:Around,A.handled=none->Walks P w A it [it] [it] y.cps.size (SignAt y) (λi h=>h.IsStrIter it ty y t i))
  (C:∀(A:Around) (i:Nat) (s:Shared) (Q:aA) (E:aA),s.heap.IsStrIter it ty y t i->Q (.ref it) s->wpAny (model P w) A (pyIter (.ref it)) Q E s):Turn P w K (.Name nm px) (v8 y) [it] it (λi h=>h.IsStrIter it ty y t i) where
 mem:=by simp
 obj:=λi h st b a=>by
  have e:b=it:=by simpa using a
  subst e
  obtain⟨o,e,c,d⟩:=st
  exact⟨o,e,λv z=>by rw[d] at z;cases z⟩
 keep:=λi h h' st k=>let ⟨o,D,r⟩:=st;⟨o,k it (by simp) o D,r⟩
 item:=by
  intro X f j l hc i pins s σ H E I g st m
  subst f j l
  obtain⟨f0,f1,f2,n,f4,p⟩:=g it (by simp)
  refine(W X.A (I.ok.hd hc)).item i s _ _ m st λv h' tk f q hk=> ?_
  obtain⟨c,u,x,rfl⟩:=f
  have F:Inv X pins σ H {s with heap:=h',toks:=tk}:=I.turned (λb o a e=>hk b o (by simpa using a) e) f0 f1 n f4 p
  exact⟨_,rfl,ak ⟨.str ⟨#[c]⟩,H,F,⟨u,rfl⟩,⟨rfl,c,x,rfl⟩,q,λb a=>(g b a).1⟩⟩
 done:=by
  intro X f j l hc i pins s σ H E I g st m
  subst f j l
  obtain⟨f0,f1,f2,n,f4,p⟩:=g it (by simp)
  have B:i=y.cps.size:=m
  subst B
  exact(W X.A (I.ok.hd hc)).done s _ _ st λh' tk hk=>⟨rfl,I.turned (λb o a e=>hk b o (by simpa using a) e) f0 f1 n f4 p⟩
 self:=λA i s Q E st h=>C A i s Q E st h
def L_(tl:TE):TI:=λσ H R=>tl σ H λx H1=>∃y,x=.str y/\R (v8 y) H1
theorem Pj{l:Expr}{tl:TE}{nm:Str}{px:Pos}(j:PE X l tl):PI X (.Name nm px) l (L_ tl):=by
 intro pins s σ H R I h;refine aM (j pins s σ H _ I h) λv a ⟨x,H1,c,k,m⟩=>?_;obtain⟨y,e,q⟩:=m;subst e;obtain⟨t,rfl⟩:=k;have fin:∀(ty:String) (o:Obj) (W:∀A:Around,A.handled=none->Walks X.prog X.w A a.heap.objs.size [a.heap.objs.size] [a.heap.objs.size] y.cps.size (SignAt y) (λi h=>h.IsStrIter a.heap.objs.size ty y t i))
   (f:∀(A:Around) (i:Nat) (s:Shared) (Q:aA) (E:aA),s.heap.IsStrIter a.heap.objs.size ty y t i->Q (.ref a.heap.objs.size) s->wpAny (model X.prog X.w) A (pyIter (.ref a.heap.objs.size)) Q E s),
   (a.heap.push o).IsStrIter a.heap.objs.size ty y t 0->wc X pins σ (.Name nm px) R (.ref a.heap.objs.size) {a with heap:=a.heap.push o}:=λty o W f st=>by
  refine⟨a.heap.objs.size,[a.heap.objs.size],_,_,H1,rfl,c.kept (t':=a.toks) λb o e=>aT _ e,Tg _ W f,st,λb n=>?_,q⟩;have e:b=a.heap.objs.size:=by simpa using n
  subst e;exact c.sU (aH _) (c.hok.fresh (aH _))
 cases g:y.cps.all (·<128)
 .exact wpAny_pyIter_wide g (fin _ _ (λA' d=>Walks.strWide d _ y t) (λ_ _ _ _ _ st h=>wpAny_pyIter_striter_wide st h) ⟨_,bI _ rfl,rfl,rfl⟩)
 .exact wpAny_pyIter_ascii g (fin _ _ (λA' d=>Walks.strAscii d _ y t) (λ_ _ _ _ _ st h=>wpAny_pyIter_striter_ascii st h) ⟨_,bI _ rfl,rfl,rfl⟩)
end
mutual
inductive Dp(K:Frag)(H:Hp):V->PyData->Prop
 |aB:Dp K H .aB .none
 |bl (b:Bool):Dp K H (.bl b) (.bool b)
 |int (i:Int):Dp K H (.int i) (.int i)
 |str (x:Str):Dp K H (.str x) (.str x)
 |lst {a:Addr} {xs:List V} {ds:List PyData}:aW K H a xs->fy K H xs ds->Dp K H (.ref a) (.list ds)
 |tup {a:Addr} {xs:List V} {ds:List PyData}:bg K H a xs->fy K H xs ds->Dp K H (.ref a) (.tuple ds)
inductive fy(K:Frag)(H:Hp):List V->List PyData->Prop
 |nil:fy K H [] []
 |cons {v:V} {vs:List V} {d:PyData} {ds:List PyData}:Dp K H v d->fy K H vs ds->fy K H (v::vs) (d::ds)
end
section
variable{X:Cx}{pins:aQ}{σ:St}{H H':Hp}{s:Shared}{K:Frag}
mutual
theorem Dp.reads(I:Inv X pins σ H s):∀(d:PyData) (v:V) (u:Value),Dp X.K H v d->RelV v u->∃as,Reads s.heap u d as
 |.none,_,_,h,r=>by cases h;cases r;exact⟨_,.none⟩
 |.bool b,_,_,h,r=>by cases h;cases r;exact⟨_,.bool b⟩
 |.int i,_,_,h,r=>by cases h;obtain⟨t,rfl⟩:=r;exact⟨_,.int i t⟩
 |.str x,_,_,h,r=>by cases h;obtain⟨t,rfl⟩:=r;exact⟨_,.str x t⟩
 |.list ds,_,_,h,r=>by
  cases h with
  |lst a c=>
   cases r;obtain⟨its,f,g,hz⟩:=I.list a;obtain⟨as,ra⟩:=fy.reads I ds _ _ c f;obtain⟨o,e,hc,n,hd⟩:=g.isList;exact⟨_,.list e hc hd (by simpa using ra)⟩
 |.tuple ds,_,_,h,r=>by
  cases h with
  |tup a c=>
   cases r;obtain⟨its,f,g,hz⟩:=I.tuple a;obtain⟨as,ra⟩:=fy.reads I ds _ _ c f;obtain⟨o,e,hc,n,hd⟩:=g;exact⟨_,.tuple e hc hd (by simpa using ra)⟩
 |.dict _,_,_,h,_=>nomatch h
theorem fy.reads(I:Inv X pins σ H s):∀(ds:List PyData) (vs:List V) (a:List Value),fy X.K H vs ds->Vals vs a->∃as,ReadsAll s.heap a ds as
 |[],_,_,h,r=>by cases h;cases r;exact⟨_,.nil⟩
 |d::ds,_,_,h,r=>by
  cases h with
  |cons h1 h2=>
   cases r with
   |cons b c=>
    obtain⟨as,a1⟩:=Dp.reads I d _ _ h1 b;obtain⟨bs,a2⟩:=fy.reads I ds _ _ h2 c;exact⟨_,.cons a1 a2⟩
end
def yJ(K:Frag):R2:=λx y H Q=>∃d e,Dp K H x d/\Dp K H y e/\d.canLay0=true/\e.canLay0=true/\min d.depth e.depth<=64/\Q (.bl (PyData.eqv d e)) H
def yL(K:Frag):R2:=λx y H Q=>∃d e,Dp K H x d/\Dp K H y e/\d.canLay0=true/\e.canLay0=true/\min d.depth e.depth<=64/\Q (.bl (!PyData.eqv d e)) H
theorem Ot(i:X.A.units+64<cLine):bq X (compareOp .Eq) (yJ X.K):=by
 intro pins s σ H x y v u Q I a b h;obtain⟨d,e,h1,h2,c,f,hd,q⟩:=h;obtain⟨as,ra⟩:=Dp.reads I d x v h1 a;obtain⟨bs,g⟩:=Dp.reads I e y u h2 b;exact SeqAt.compareEq_reads ra g c f (by omega) ⟨.bl _,H,I,rfl,q⟩
theorem OE(i:X.A.units+64<cLine):bq X (compareOp .NotEq) (yL X.K):=by
 intro pins s σ H x y v u Q I a b h;obtain⟨d,e,h1,h2,c,f,hd,q⟩:=h;obtain⟨as,ra⟩:=Dp.reads I d x v h1 a;obtain⟨bs,g⟩:=Dp.reads I e y u h2 b;exact SeqAt.compareNe_reads ra g c f (by omega) ⟨.bl _,H,I,rfl,q⟩
theorem jv.new{p:Addr}(h:H p=none)(o:HO):jv H (upd H p o):=λb u q=>by rw[bh (dc q h)];exact q
theorem fy.ints:∀(xs:List Int),fy K H (xs.map V.int) (xs.map PyData.int)
 |[]=>.nil
 |x::r=>.cons (.int x) (fy.ints r)
end
mutual
def ez:PyData->Bool
 |.none|.int _|.str _=>true
 |.bool _=>false
 |.list ds=>iB ds
 |.tuple ds=>iB ds
 |.dict _=>false
def iB:List PyData->Bool
 |[]=>true
 |d::r=>ez d&&iB r
end
mutual
theorem B9:∀(d e:PyData),ez d=true->ez e=true->(PyData.eqv d e=true↔d=e)
 |.none,e,_,h=>by cases e<;>simp[PyData.eqv,ez] at h ⊢
 |.bool b,e,h,_=>by simp[ez] at h
 |.int i,e,_,h=>by cases e<;>simp[PyData.eqv,ez] at h ⊢
 |.str x,e,_,h=>by cases e<;>simp[PyData.eqv,ez] at h ⊢
 |.list ds,e,h1,h2=>by
  cases e with
  |list es=>
   have:=xA ds es (by simpa[ez] using h1) (by simpa[ez] using h2);simpa[PyData.eqv] using this
  |_=>simp[PyData.eqv,ez] at h2 ⊢
 |.tuple ds,e,h1,h2=>by
  cases e with
  |tuple es=>
   have:=xA ds es (by simpa[ez] using h1) (by simpa[ez] using h2);simpa[PyData.eqv] using this
  |_=>simp[PyData.eqv,ez] at h2 ⊢
 |.dict _,_,h,_=>by simp[ez] at h
theorem xA:∀(ds es:List PyData),iB ds=true->iB es=true->(eqvAll ds es=true↔ds=es)
 |[],[],_,_=>by simp[eqvAll]
 |[],_::_,_,_=>by simp[eqvAll]
 |_::_,[],_,_=>by simp[eqvAll]
 |d::ds,e::es,h1,h2=>by
  have n1:ez d=true/\iB ds=true:=by simpa[iB] using h1
  have n2:ez e=true/\iB es=true:=by simpa[iB] using h2
  have a:=B9 d e n1.1 n2.1;have b:=xA ds es n1.2 n2.2;simp only[eqvAll,dh,List.cons.injEq,a,b]
end
section
variable{P:Program}{w:World}{K:Frag}{mg:au}{base:Heap}
def TopD(K:Frag)(mg:au)(x:Str)(st:Stmt)(ps:List Str):Prop:=∃f fd,jt K x x st f fd/\Binds K fd ps []/\mg x=some (.ref f)
end
section
variable{X:Cx}{k:Nat}{x:Str}{ps:List Str}{sp:Sp}{e:Expr}{es:List Expr}{t:TA}{p pos:Pos}
theorem Ox:bq X (compareOp .LtE) (λx y H Q=>∃i j,x=.str i/\y=.str j/\Q (.bl (!decide (j.cps.toList<i.cps.toList))) H):=by
 intro pins s σ H x y v u Q I a b h;obtain⟨i,j,rfl,rfl,q⟩:=h;obtain⟨t,rfl⟩:=a;obtain⟨t',rfl⟩:=b;exact PySem.P.le_str (bW I q rfl)
end
section
variable{X:Cx}
theorem Inv.many{pins:aQ}{σ:St}{H H':Hp}{s:Shared}{h':Heap}{t':Nat}(I:Inv X pins σ H s)(kp:∀b o,s.heap.get? b=some o->h'.get? b=some o)(d:jv H H')
  (a:∀b o,H' b=some o->H b=some o\/(s.heap.objs.size<=b/\bP X.prog X.w H' h' b o)):Inv X pins σ H' {s with heap:=h',toks:=t'}:=by
 refine I.un (h':=h') (t':=t') ⟨λb o q _ _ _=>kp b o q,λb o q _ _ _=>⟨o.slots,kp b o q⟩,λb o q n _=>?_,λb o q _=>⟨o,kp b o q⟩,λb xs q=>d _ _ q,λb o u q=>d _ _ q,λb ps q=>⟨#[],by rw[d _ _ q];simp⟩⟩ λb o q=>?_
 .cases e:H' b with
  |none=>rfl
  |some u=>
   rcases a b u e with z|⟨z,_⟩
   .rw[n] at z;cases z
   .exact absurd (b8 (aN q) z) (dZ _)
 .rcases a b o q with z|⟨_,z⟩
  .exact(I.hok b o z).stay (λc v _ r=>kp c v r) (λc r=>d _ _ r) λc xs r=>d _ _ r
  .exact z
end
inductive o_(K:Frag)(H:Hp):V->Value->Prop where
 |of {x:V} {t:Value} (h:gk K H x t):o_ K H x t
 |tup {a:Addr} {xs:List V} (h:bg K H a xs):o_ K H (.ref a) (.type "tuple")
 |lst {a:Addr} {xs:List V} (h:aW K H a xs):o_ K H (.ref a) (.type "list")
theorem HY{X:Cx}:dm X (.builtin "isinstance") (λxs H Q=>∃x c t b,xs=[x,.ty c]/\o_ X.K H x t/\kitOne X.K t (.type c)=some b/\Q (.bl b) H):=by
 intro pins s σ H xs i Q I r h;obtain⟨x,c,t,b,rfl,ty,e,q⟩:=h;obtain⟨u,j,rfl,ru,a⟩:=vals2 r;cases a;cases ty with
 |of ty=>exact Mk I ru ty e λtk=>⟨.bl b,H,I.tok tk,rfl,q⟩
 |tup d=>
  cases ru;obtain⟨its,f,⟨o,h1,h2,_⟩,_⟩:=I.tuple d;exact f9 kitx_tuple I.dB ⟨o,h1,h2⟩ e (λz=>nomatch z) λtk=>⟨.bl b,H,I.tok tk,rfl,q⟩
 |lst d=>
  cases ru;obtain⟨its,f,g,_⟩:=I.list d;obtain⟨o,h1,h2,_⟩:=g.isList;exact f9 kitx_list I.dB ⟨o,h1,h2⟩ e (λz=>nomatch z) λtk=>⟨.bl b,H,I.tok tk,rfl,q⟩
end L2
end
namespace MA
theorem Cy{a b:Int}(c:0<=a)(d:0<b):Int.gcd b (a%b)=Int.gcd a b:=by
 obtain⟨m,rfl⟩:=Int.eq_ofNat_of_zero_le c;obtain⟨n,rfl⟩:=Int.eq_ofNat_of_zero_le (iK d);rw[<-Int.natCast_emod,Int.gcd_natCast_natCast,Int.gcd_natCast_natCast,Nat.gcd_comm n (m%n),<-Nat.gcd_rec,Nat.gcd_comm]
def rf(x:Rat):Int×Int:=(x.num,(x.den:Int))
theorem gA(x:Rat):0<(rf x).2:=by
 have:=x.den_pos;show(0:Int)<(x.den:Int);omega
theorem nR(x:Rat):((rf x).1:Rat)/((rf x).2:Rat)=x:=by
 show(x.num:Rat)/((x.den:Int):Rat)=x;rw[<-Rat.divInt_eq_div,Rat.divInt_ofNat,Rat.mkRat_self]
theorem Qz{x y:Rat}(h:rf x=rf y):x=y:=by rw[<-nR x,<-nR y,h]
theorem yN{a b:Int}(c:0<b):(a/(Int.gcd a b:Int),b/(Int.gcd a b:Int))=rf ((a:Rat)/(b:Rat)):=by
 rw[<-Rat.divInt_eq_div];unfold rf;have h1:=Rat.num_divInt a b;have h2:=Rat.den_divInt a b;rw[h1,h2];have d:b.sign=1:=Int.sign_eq_one_of_pos c;rw[d,ai (by omega),one_mul,Int.gcd_comm b a];congr 1;have:(b.natAbs:Int)=b:=by omega
 rw[Int.natCast_ediv,this]
inductive aP(N:Type) where
 |wt (n:N)
 |aG (l r:Int) (a b:aP N)
namespace aP
variable{N:Type}
def arms:aP N->Prop
 |wt _=>True
 |aG l r a b=>1<=l/\l<=9/\1<=r/\r<=9/\a.arms/\b.arms
def deep:aP N->Nat
 |wt _=>0
 |aG _ _ a b=>max a.deep b.deep+1
def names:aP N->List N
 |wt n=>[n]
 |aG _ _ a b=>a.names++b.names
def sh:aP N->Rat->List Rat
 |wt _,x=>[x]
 |aG l r a b,x=>a.sh (x*((r:Rat)/((l+r:Int):Rat)))++b.sh (x*((l:Rat)/((l+r:Int):Rat)))
theorem yZ:∀(m:aP N) (x:Rat),(m.sh x).length=m.names.length
 |wt _,_=>rfl
 |aG l r a b,x=>by
  show List.length (_++_)=List.length (_++_);rw[cA,cA,yZ a,yZ b]
theorem ki:∀(m:aP N),m.names.length<=2 ^ m.deep
 |wt _=>aH 1
 |aG _ _ a b=>by
  have h1:=ki a;have h2:=ki b;have h3:2 ^ a.deep<=2 ^ max a.deep b.deep:=fj (by decide) (qY _ _);have c:2 ^ b.deep<=2 ^ max a.deep b.deep:=fj (by decide) (qZ _ _);show List.length (_++_)<=2 ^ (max a.deep b.deep+1);rw[cA,pow_succ];omega
theorem tV:∀(m:aP N),0<m.names.length
 |wt _=>Nat.zero_lt_one
 |aG _ _ a b=>by
  have h1:=tV a;show 0<List.length (_++_);rw[cA];omega
theorem zf:∀(xs ys:List Rat),(xs++ys).sum=xs.sum+ys.sum
 |[],ys=>by simp;grind
 |x::xs,ys=>by
  rw[List.cons_append,sum_cons,sum_cons,zf xs ys];grind
theorem qK:∀(m:aP N) (x:Rat),m.arms->(m.sh x).sum=x
 |wt _,x,_=>by simp[sh];grind
 |aG l r a b,x,h=>by
  obtain⟨h1,h2,h3,f,d,e⟩:=h;show List.sum (_++_)=x;rw[zf,qK a _ d,qK b _ e];have c:((l+r:Int):Rat)≠0:=by
   intro z;have:(l+r:Int)=0:=by exact_mod_cast z
   omega
  have hc:((l+r:Int):Rat)=(l:Rat)+(r:Rat):=vP l r;rw[hc] at c ⊢;grind
end aP
theorem mZ{a:Int}(h:a≠0):(a:Rat)≠0:=by
 intro z;exact h (by exact_mod_cast z)
theorem EF(t:Rat)(a b:Int):rf ((((rf t).1*a:Int):Rat)/(((rf t).2*b:Int):Rat))=rf (t*((a:Rat)/(b:Rat))):=by
 have h1:=mZ (jn (gA t));congr 1;rw[gf,gf];have d:=nR t;by_cases c:(b:Rat)=0
 .rw[c];grind
 .grind
theorem Jw{a b:Int}(c:0<b):(rf ((a:Rat)/(b:Rat))).2<=b:=by
 rw[<-yN c];show b/(Int.gcd a b:Int)<=b;exact ediv_le_self _ (iK c)
theorem den_mul{t:Rat}{a b:Int}(c:0<b):(rf (t*((a:Rat)/(b:Rat)))).2<=(rf t).2*b:=by
 rw[<-EF];exact Jw (jQ (gA t) c)
theorem nK{x:Rat}(h:0<x):0<(rf x).1:=by
 have h1:0<=(rf x).1:=Rat.num_nonneg.mpr (Rat.le_of_lt h);have h2:(rf x).1≠0:=λz=>by
  have e:=nR x;rw[z] at e;have a:x=0:=by rw[<-e,Rat.div_def];grind
  rw[a] at h;exact absurd h (by decide)
 omega
namespace aP
variable{N:Type}
theorem step_pos{l r:Int}{x:Rat}(a:1<=l)(b:1<=r)(h:0<x):0<x*((r:Rat)/((l+r:Int):Rat)):=by
 have h1:(0:Rat)<(r:Rat):=by exact_mod_cast (show(0:Int)<r by omega)
 have h2:(0:Rat)<((l+r:Int):Rat):=by exact_mod_cast (show(0:Int)<l+r by omega)
 exact Rat.mul_pos h (by rw[Rat.div_def];exact Rat.mul_pos h1 (Rat.inv_pos.mpr h2))
theorem yY:∀(m:aP N) (x:Rat) (B:Int),m.arms->0<x->(rf x).2<=B->∀s∈m.sh x,0<s/\(rf s).2<=B*18 ^ m.deep
 |wt _,x,B,_,h1,h2,s,hs=>by
  have:s=x:=by simpa[sh] using hs
  subst this;exact⟨h1,by simpa[deep] using h2⟩
 |aG l r a b,x,B,h,h1,h2,s,hs=>by
  obtain⟨g1,g2,g3,o,f,g⟩:=h;have i:0<B:=Int.lt_of_lt_of_le (gA x) h2;have j:(rf (x*((r:Rat)/((l+r:Int):Rat)))).2<=B*18:=by
   refine d9 (den_mul (by omega)) ?_;exact iG h2 (by omega) (by omega) (by omega)
  have n:(rf (x*((l:Rat)/((l+r:Int):Rat)))).2<=B*18:=by
   refine d9 (den_mul (by omega)) ?_;exact iG h2 (by omega) (by omega) (by omega)
  have p1:0<x*((r:Rat)/((l+r:Int):Rat)):=step_pos g1 g3 h1;have p2:0<x*((l:Rat)/((l+r:Int):Rat)):=by
   have:=step_pos (l:=r) (r:=l) g3 g1 h1;rwa [add_comm r l] at this
  have up:∀k:Nat,k<=max a.deep b.deep->B*18*18 ^ k<=B*18 ^ (max a.deep b.deep+1):=λk hk=>by
   rw[rE,kH,kI 18 (18 ^ k)];refine oH ?_ (iK i);refine zN ?_ (by decide);have:(18:Nat) ^ k<=18 ^ max a.deep b.deep:=fj (by decide) hk;exact_mod_cast this
  have c:s∈a.sh (x*((r:Rat)/((l+r:Int):Rat)))\/s∈b.sh (x*((l:Rat)/((l+r:Int):Rat))):=br.mp hs;rcases c with hs|hs
  .obtain⟨d,e⟩:=yY a _ _ f p1 j s hs
   exact⟨d,d9 e (up _ (qY _ _))⟩
  .obtain⟨d,e⟩:=yY b _ _ g p2 n s hs
   exact⟨d,d9 e (up _ (qZ _ _))⟩
end aP
def cW{W N S:Type}[DecidableEq N][DecidableEq S](pre:List (W×N×S)):List (W×N×S)->Option (W×W)
 |[]=>none
 |(w,n,s)::r=>match pre.find? (λp=>decide (p.2.1=n)) with
  |some p=>if p.2.2=s then cW (pre++[(w,n,s)]) r else some (p.1,w)
  |none=>cW (pre++[(w,n,s)]) r
end MA
section
open PySem PySem.Spec PyProof.Rows
namespace L2
section
variable{P:Program}{w:World}{H H':Hp}{h:Heap}{a:Addr}{o:HO}
theorem bP.obj(x:bP P w H h a o):∃u,h.get? a=some u:=by
 cases o with
 |lst xs=>obtain⟨_,_,_,_,e⟩:=x;exact⟨_,e⟩
 |tup xs=>obtain⟨_,_,_,_,e⟩:=x;exact⟨_,e⟩
 |dK kvs=>obtain⟨_,_,_,_,o,_,_,e,_⟩:=x;exact⟨_,e⟩
 |dT kvs=>obtain⟨_,_,_,_,o,_,_,e,_⟩:=x;exact⟨_,e⟩
 |set S n=>obtain⟨o,_,_,_,e,_⟩:=x;exact⟨_,e⟩
 |ins C dx fs=>obtain⟨_,_,_,e,_⟩:=x;exact⟨_,e⟩
 |own y=>exact x
 |xd fs=>obtain⟨_,⟨_,_,_,e,_⟩,_⟩:=x;exact⟨_,e⟩
 |jJ lo hi=>obtain⟨_,_,_,e⟩:=x;exact⟨_,e⟩
 |cT b u=>obtain⟨e,_⟩:=x;exact⟨_,e⟩
 |gS ps=>exact⟨_,(show h.get? a=some _ from x)⟩
 |met f y=>exact⟨_,(show h.get? a=some _ from x)⟩
 |ext c=>obtain⟨_,e,_⟩:=x;exact e
end
structure fz(P:Program)(w:World)(outer:List Env)(H H':Hp)(s s':Shared)(a:Addr)(C:Value):Prop where
 os:s'.os=s.os
 bare:AllBare s'.gens
 slot:∀b o,s.heap.get? b=some o->b∈frs outer->∃sl,s'.heap.get? b=some {o with slots:=sl}
 free:∀b o,s.heap.get? b=some o->H b=none->H' b=none
 tups:∀b xs,H b=some (.tup xs)->H' b=some (.tup xs)
 ek:∀b o u,H b=some (.cT o u)->H' b=some (.cT o u)
 eO:∀b ps,H b=some (.gS ps)->∃more,H' b=some (.gS (ps++more))
 fl:∃(B:Heap) (a0:Value),(∀b o,s.heap.get? b=some o->H b=none->b∉frs outer->B.get? b=some o)/\(∀b o,s.heap.get? b=some o->b∉frs outer->∃o',B.get? b=some o')/\bR P w H' B/\FlyingW B outer a C a0 s'.heap
section
variable{P:Program}{w:World}{outer:List Env}{H H':Hp}{s s':Shared}{a:Addr}{C:Value}
theorem fz.un(F:fz P w outer H H' s s' a C):Un (frs outer) [] H H' s.heap s'.heap where
 keep:=λb o q n c _=>by
  obtain⟨B,a0,k,_,_,f⟩:=F.fl
  exact f.1 b o (k b o q n c)
 slot:=λb o q n c _=>F.slot b o q c
 free:=λb o q n _=>F.free b o q n
 there:=λb o q _=>by
  by_cases c:b∈frs outer
  .obtain⟨d,e⟩:=F.slot b o q c
   exact⟨_,e⟩
  .obtain⟨B,a0,_,t,_,f⟩:=F.fl
   obtain⟨o',e⟩:=t b o q c
   exact⟨o',f.1 b o' e⟩
 tups:=F.tups
 ek:=F.ek
 eO:=F.eO
theorem fz.hok(F:fz P w outer H H' s s' a C):bR P w H' s'.heap:=by
 obtain⟨B,a0,_,_,h,f⟩:=F.fl;exact h.kept f.1
theorem fz.new(F:fz P w outer H H' s s' a C):H' a=none:=by
 obtain⟨B,a0,_,_,h,f⟩:=F.fl;cases e:H' a with
 |none=>rfl
 |some o=>
  obtain⟨u,q⟩:=(h a o e).obj;rw[f.2.1] at q;cases q
end
def bu(P:Program)(w:World):gH:=λouter H s E e s'=>∃(a:Addr) (C:Value) (H':Hp),e=.ref a/\fz P w outer H H' s s' a C/\E C none H'
section
variable{X:Cx}{pins:aQ}{σ:St}{H H':Hp}{s s':Shared}{a:Addr}{C:Value}
theorem Cd(I:Inv X pins σ H s)(hex:X.ex=[])(os:s'.os=s.os)(bare:AllBare s'.gens)(slot:∀b o,s.heap.get? b=some o->b∈frs X.outer->∃i,s'.heap.get? b=some {o with slots:=i})
  (free:∀b o,s.heap.get? b=some o->H b=none->H' b=none)(tups:∀b xs,H b=some (.tup xs)->H' b=some (.tup xs))(ek:∀b o u,H b=some (.cT o u)->H' b=some (.cT o u))
  (eO:∀b ps,H b=some (.gS ps)->∃d,H' b=some (.gS (ps++d)))
  (fl:∃(B:Heap) (a0:Value),(∀b o,s.heap.get? b=some o->H b=none->b∉frs X.stack->B.get? b=some o)/\(∀b o,s.heap.get? b=some o->b∉frs X.stack->∃o',B.get? b=some o')/\bR X.prog X.w H' B/\FlyingW B X.outer a C a0 s'.heap):
  fz X.prog X.w X.outer X.H₀ H' X.s₀ s' a C:=by
 have nx:∀b:Addr,b∉X.ex:=λb=>by rw[hex];simp
 have g:∀b o,X.s₀.heap.get? b=some o->b∉frs X.outer->b∉frs X.stack:=λb o q c z=>by
  rcases aX.mp (I.nV b z) with e|e
  .exact absurd (b8 (aN q) I.ok.above) (by rw[e];exact dZ _)
  .exact c e
 refine⟨os.trans I.os,bare,λb o q c=> ?_,λb o q n=> ?_,λb xs q=>tups b xs (I.base.tups b xs q),λb o u q=>ek b o u (I.base.ek b o u q),λb ps q=> ?_,?_⟩
 .obtain⟨i,e⟩:=I.base.slot b o q (I.ok.i8 b c) c (nx b)
  obtain⟨j,l⟩:=slot b _ e c
  exact⟨j,l⟩
 .obtain⟨i,e⟩:=I.base.any q n (nx b)
  exact free b _ e (I.base.free b o q n (nx b))
 .obtain⟨m,p⟩:=I.base.eO b ps q
  obtain⟨r,v⟩:=eO b _ p
  exact⟨m++r,by rw[v,Array.append_assoc]⟩
 .obtain⟨B,a0,k,t,h,f⟩:=fl
  refine⟨B,a0,λb o q n c=>k b o (I.base.keep b o q n c (nx b)) (I.base.free b o q n (nx b)) (g b o q c),λb o q c=> ?_,h,f⟩
  obtain⟨o',e⟩:=I.base.there b o q (nx b)
  exact t b o' e (g b o q c)
end
def Raises(X:Cx)(E:XK):Prop:=∀(pins:aQ) (σ:St) (H:Hp) (s:Shared) (e:Addr) (h':Heap) (C:Value) (args:List Value),Inv X pins σ H s->Heap.MadeExcOf s.heap h' e C args->E C none H->X.xe (.ref e) {s with heap:=h'}
section
variable{P:Program}{w:World}{K:Frag}{mg:au}{base:Heap}{N:List Str}{qual:Str}{scope:Scope}{f:Addr}{cd:Value}{A:Around}{outer:List Env}{s:Shared}{H:Hp}{E:XK}
theorem Ci{env:Env}{l:List Env}{b:Addr}(h:b∈frs l):b∈frs (env::l):=by
 obtain⟨e,a,c⟩:=q8.mp h;exact q8.mpr ⟨e,b9 _ a,c⟩
theorem EA:Raises (bM (bu P w) P w K mg base N qual scope f cd A outer s H E) E:=by
 intro pins σ H1 i e h' C args I mx j;have stk:=I.stack;have lO:∀b o,H1 b=some o->b∉frs (bM (bu P w) P w K mg base N qual scope f cd A outer s H E).stack:=λb o q z=>by
  rw[I.zb b z] at q;cases q
 have h:∀a∈(bM (bu P w) P w K mg base N qual scope f cd A outer s H E).stack,∀b,a.frame=some b->b∈frs (bM (bu P w) P w K mg base N qual scope f cd A outer s H E).stack:=λa k b d=>q8.mpr ⟨a,k,d⟩;show wpAny (model P w) _ (leaving _ (.ref e)) _ _ _;refine wpAny_leaves_madeW (base:=hideAll i.heap (frs (bM (bu P w) P w K mg base N qual scope f cd A outer s H E).stack)) I.ok.frames rfl (λb o q=>of_hideAll _ q) (PySem.W.funFrames_hide stk h) mx λh'' t fl tup l up=>?_;refine⟨e,C,H1,rfl,Cd I rfl rfl I.bare (λb o q d=>?_) (λ_ _ _ n=>n) (λ_ _ q=>q) (λ_ _ _ q=>q) (λ_ ps q=>⟨#[],by rw[q];simp⟩) ⟨_,_,λb o q n d=>hideAll_get _ q d,λb o q d=>⟨o,hideAll_get _ q d⟩,λb o q=>?_,fl⟩,j⟩
 .obtain⟨_,o',g,hd⟩:=stk.mem (Ci (env:=envOfC qual scope s.heap.objs.size f cd) d)
  rw[q] at g;cases g;exact up b o (mx.keeps b o q) hd
 .refine(I.hok b o q).stay (λc u hc r=>hideAll_get _ r ?_) (λ_ r=>r) λ_ _ r=>r
  rcases hc with z|z
  .rw[z];exact lO b o q
  .exact lO c _ z
theorem D5:Passes (bu P w) (bM (bu P w) P w K mg base N qual scope f cd A outer s H E) E:=by
 intro pins σ H1 n e s' I h;obtain⟨a,C,H',rfl,F,j⟩:=h;obtain⟨B,a0,k,th,hok,fl⟩:=F.fl;show wpAny (model P w) _ (leaving _ (.ref a)) _ _ _;refine wpAny_leaves_onW I.ok.frames rfl fl λh'' g up=>⟨a,C,H',rfl,Cd I rfl F.os F.bare (λb o q l=>?_) F.free F.tups F.ek F.eO ⟨B,a0,k,th,hok,g⟩,j⟩;have c:=Ci (env:=envOfC qual scope s.heap.objs.size f cd) l;obtain⟨p,e⟩:=F.slot b o q c;obtain⟨_,o',d,hd⟩:=fl.2.2.1.mem c;rw[e] at d;cases d;obtain⟨i,m⟩:=up b _ e hd;exact⟨i,m⟩
theorem lP:PassesOwn (model P w) (bM (bu P w) P w K mg base N qual scope f cd A outer s H E).A (bM (bu P w) P w K mg base N qual scope f cd A outer s H E).env (bM (bu P w) P w K mg base N qual scope f cd A outer s H E).xe:=
 PassesOwn.leaving
end
abbrev iD:List Value:=[.type "ValueError",.type "Exception",.type "BaseException",.type "object"]
theorem J_{K:Frag}{h:Heap}{C:Addr}{b:List Value}{newId:String}(X:K.In h)(q:excIn K C b newId=true):∃nm d N bs bm hdct sn sub ab col dd k0 k1 k2 k3 k5,∃mN:au,
  h.get? C=some (excClassObj nm d C N bs bm hdct sn sub ab col dd k0 k1 k2 k3 k5 newId)/\h.Ns N mN/\mN "__init__"=none/\OwnTail h b bm:=by
 unfold excIn at q;split at q
 .rename_i dd cd f j
  split at q
  .rename_i m bm k0 k1 k2 k3 n k5 g i
   simp only[dh,iO,q9] at q;obtain⟨⟨⟨⟨⟨rfl,rfl⟩,a⟩,k⟩,hok⟩,c⟩:=q;obtain⟨nm,bs,mro,ns,d,hd,sn,sub,ab,col,del⟩:=cd;dsimp only at g a hok c;subst g a;have e:f= #[k0,k1,k2,k3,some (.builtin n),k5]:=by
    obtain⟨l⟩:=f;simp only at i;rw[i]
   subst e;exact⟨nm,d,ns,bs,bm,hd,sn,sub,ab,col,dd,k0,k1,k2,k3,k5,_,X _ _ j,.of_isNs (PySem.W.isNs_of_in X hok),PySem.W.nsMap_none_of_in X hok c,PySem.W.tail_of_in X k⟩
  .cases q
 .cases q
section
variable{X:Cx}{E:XK}{x:Str}{C:Addr}{e:Expr}{t:TA}{np cpos pos:Pos}
def SD(E:XK)(C:Addr)(t:TA):TS:=λ_ σ H=>t σ H λvs H1=>vs.length<=sizeLine/\E (.ref C) none H1
theorem PM(j:Raises X E)(hc:X.calm=true)(k:X.mg x=some (.ref C))(l:excIn X.K C iD "ValueError.__new__"=true)(m:PA X [e] t)(n:Gl X x:=by rfl)(b:(x==("__debug__":Str))=false:=by decide)
  (f:starEach [e] X.env=[(false,eval e X.env)]:=by rfl):PS X (.Raise (some (.Call (.Name x np) [e] [] cpos)) none pos) (SD E C t):=by
 intro pins s σ H D I h;obtain⟨nm,o,N,bs,bm,hdct,sn,sub,ab,col,dd,k0,k1,k2,k3,k5,mN,c,p,d,g⟩:=J_ I.mod.nE l;refine wpAny_Raise_call_subT (nm:=nm) (q:=o) (C:=C) (N:=N) (bs:=bs) (bm:=bm) (hdct:=hdct) (sn:=sn) (sub:=sub) (ab:=ab) (col:=col) (dd:=dd) (k0:=k0) (k1:=k1) (k2:=k2) (k3:=k3) (k5:=k5) (mN:=mN) PySem.F.excBase_ValueError (g.hasType (by decide+kernel)) (I.ok.hd hc) (by rw[f];rfl) d (qc I n k ⟨rfl,?_⟩ b);have h':=m cpos pins s σ H _ I h;rw[f] at h' ⊢;refine Calls.evalArgs_plain (aM h' λr w ⟨vs,H1,a,u,i⟩=>?_);have v:=u.length;exact⟨rfl,by show r.length<=sizeLine;rw[<-v];exact i.1,a.bk _ _ c,p.keeps a.bk,g.keeps a.bk,λh2 y mx=>j _ _ _ _ _ _ _ _ a mx i.2⟩
end
def excAt(a:Addr)(C:Value)(h:Heap):Prop:=∃o,h.get? a=some o/\o.cls=C
structure k7(K:Frag)(C:Addr):Prop where
 ga:findIn K (.ref C) "__getattribute__"=some (some (.builtin "BaseException.__getattribute__"))
 gh:findIn K (.ref C) "__getattr__"=some none
 fc:findIn K (.ref C) "__class__"=some (some (.builtin "object.__class__"))
 fg:specialIn K (.builtin "object.__class__") "__get__"=some (some (.builtin "getset_descriptor.__get__"))
 ft:takesIn K (.builtin "object.__class__")=some true
 mo:mroIn K C (.type "object")=some true
 mb:mroIn K C (.type "BaseException")=some true
 cl:(PySem.W.clsIn K C).isSome=true
section
variable{prog:Program}{w:World}{A:Around}{E:aA}{s:Shared}{K:Frag}{x C:Addr}{ox:Obj}
open PySem.W Builtin Builtin.ObjectAttr in
theorem Lc{M:Model}{h:Heap}{name:Str}{a g:Value}(X:K.In h)(h1:findIn K (.ref C) name=some (some a))(h2:specialIn K a "__get__"=some (some g))(h3:takesIn K a=some true):
  Looks M h (find (.ref x) (.ref C) name) (.bind g a):=by
 have b:=looks_findIn (M:=M) X h1;have L2:Looks M h (getOf (some a)) (some g):=looks_specialIn X h2;have c:=looks_takesIn (M:=M) X h3;exact b.andThen (L2.andThen ((show Looks M h (dataDescriptor? (some a) (some g)) (some (g,a)) from c.andThen .now).andThen (Looks.tag .now)))
open PySem.W Builtin Builtin.ObjectAttr Builtin.Getset_descriptor in
theorem J9{R:Result->Shared->Prop}{a:Value}(X:K.In s.heap)(c:Looks (model prog w) s.heap (typeOf (.ref x)) (.ref C))(b:mroIn K C (.type "object")=some true)
  (h:R (.ok (.ret (.ref C))) s):codeAny (model prog w) A (.call (.builtin "getset_descriptor.__get__") ⟨[.builtin "object.__class__",.ref x,a],[]⟩) R s:=by
 obtain⟨d,g,e,t,os⟩:=s;have f:=looks_mroIn (M:=model prog w) X b;refine rH KF.slot_gs.plain KF.entry_gs (KF.slot_gs.check _ _ _ _ _ _ _ _ KF.type_class (KF.args_gs _ _ _) ?_);unfold Builtin.«getset_descriptor.__get__» descrGet;rw[dga_obj];refine af (ak ?_);unfold descrGetter descrCheckInstance descrNameAndClass isInstance;simp only[KF.owner_class];repeat lk
 refine⟨vv _ (by decide+kernel),eU KF.entry_class ?_⟩;unfold Builtin.«object.__class__» shownTypeOf;repeat lk
 exact h
open PySem.W in
theorem J4(Z:k7 K C){Q:Option Value->Shared->Prop}(X:K.In s.heap)(I:excAt x (.ref C) s.heap)(h:Q (some (.ref C)) {s with toks:=s.toks+1}):wpAny (model prog w) A (getAttr? (.ref x) "__class__") Q E s:=by
 obtain⟨f,g,d,t,os⟩:=s;obtain⟨ox,i,hc⟩:=I;have b:Looks (model prog w) f (typeOf (.ref x)) (.ref C):=hc▸(Looks.ld i).andThen .now;have j:=looks_findIn (M:=model prog w) X Z.ga;have L2:=looks_findIn (M:=model prog w) X Z.gh;have k:=Lc (x:=x) (M:=model prog w) X Z.fc Z.fg Z.ft;have l:=looks_mroIn (M:=model prog w) X Z.mb;have hk:builtinKind "BaseException.__getattribute__"=some .slot:=by decide+kernel
 have a:splitId "BaseException.__getattribute__"=some ("BaseException","__getattribute__"):=by decide+kernel
 have m:=PySem.F.excAttr_ValueError.ga.bind (.ref x);have c:(Value.builtin "BaseException.__getattribute__" ==Value.builtin "object.__getattribute__")=false:=by decide+kernel
 unfold getAttr? getAttrBy? getAttrBy;refine af (wpAny_mkText (af (jU (dR (af (b.at (af (j.at ?_))))))));have e:(onTheHeap (Value.ref C)&&Value.builtin "BaseException.__getattribute__" ==Value.builtin "object.__getattribute__")=false:=by rw[c];rfl
 show wpAny _ _ (if (onTheHeap (Value.ref C)&&Value.builtin "BaseException.__getattribute__" ==Value.builtin "object.__getattribute__")=true then _ else _) _ _ _;rw[e,ai (by decide)];unfold getAttrByItsOwn hookBefore;refine af ?_;show wpAny _ _ (typeLookup (.ref C) "__getattr__") _ _ _;refine L2.at ?_;refine af (jU (dR ?_));unfold callGetattribute boundAndCalled;rw[ai (by simp),m];refine af (ak ?_);show wpAny _ _ (call (.builtin "BaseException.__getattribute__") [.ref x,.str "__class__" t]) _ _ _;have n:=PySem.F.args_bexc_ga (.ref x) (.str "__class__" t);refine oE (rH PySem.F.excAttr_ValueError.ga.plain PySem.F.entry_bexc_ga ?_);simp only[checkBuiltinCall,hk,a];refine af ?_;unfold isInstance;refine af (b.at (l.at ?_));repeat (any_goals (first|assumption|(with_reducible refine b.at ?_)|(with_reducible refine k.at ?_)|wp_step))
 refine J9 (s:={heap:=f,gens:=g,drawn:=d,toks:=t+1,os:=os}) X b Z.mo ?_;refine ak ?_;show wpAny _ _ (handedOut (.ref C)) _ _ _;exact handed_on rfl (ak h)
open PySem.W in
theorem MQ(Z:k7 K C):KitX K (.ref x) (.ref C) (excAt x (.ref C)) where
 ty:=λ_ h _ p=>by
  obtain⟨ox,a,hc⟩:=p;exact hc▸(Looks.ld a).andThen .now
 it:=λ_ _ X _=>by
  have z:=Z.cl;unfold clsIn at z;split at z
  .rename_i c' d' b c a
   intro A' g i s' k q;unfold isType loadHead;exact af (wpAny_loadPart (k _ _ (X _ _ a)) (ak q))
  .cases z
 ne:=λh f dd its n j X d=>by
  refine Bool.eq_false_iff.mpr λq=>?_;have e:C=f:=Value.ref.inj (iO.mp q);subst e;have z:=Z.cl;unfold clsIn at z;split at z
  .rename_i c' d' b c a
   have z:=(X _ _ a).symm.trans d;cases z
  .cases z
 ca:=λX p k=>J4 Z X p k
end
abbrev m_(a C:Addr):HO:=.ext (excAt a (.ref C))
section
variable{X:Cx}
theorem Bg:dm X (.builtin "isinstance") (λxs H Q=>∃(a:Addr) (y:V) (C:Addr) (c:Value) (b:Bool),xs=[.ref a,y]/\(∀u,RelV y u->u=c)/\H a=some (m_ a C)/\k7 X.K C/\kitOne X.K (.ref C) c=some b/\Q (.bl b) H):=by
 intro pins s σ H xs i Q I r h;obtain⟨a,y,C,c,b,rfl,f,g,Z,e,q⟩:=h;obtain⟨u,j,rfl,ru,d⟩:=vals2 r;cases ru;cases f _ d;exact f9 (MQ Z) I.dB (I.hok a _ g).1 e (λz=>nomatch z) λtk=>⟨.bl b,H,I.tok tk,rfl,q⟩
end
abbrev Cx.jD(X:Cx)(e:Addr):Cx:={X with A:=X.A.mark (some (.ref e)),calm:=false,xe:=λ_ _=>False}
abbrev Cx.tried(X:Cx)(pn:aQ)(E:aA):Cx:={X with pn:=pn,xe:=E}
section
variable{X:Cx}{pins:aQ}{σ:St}{H:Hp}{s:Shared}
theorem Inv.jD(I:Inv X pins σ H s)(e:Addr):Inv (X.jD e) pins σ H s:=
 ⟨⟨I.ok.mod,I.ok.kind,I.ok.glob,I.ok.blt,I.ok.above,I.ok.inj,I.ok.has,I.ok.lq,(λz=>nomatch z),I.ok.frames,I.ok.stk,I.ok.sO,I.ok.bs,I.ok.ic,I.ok.lN,I.ok.nc,I.ok.fZ,I.ok.i8⟩,I.os,I.bare,I.base,I.loc,I.cell,I.free,I.eY,I.pin,I.hok,I.len⟩
theorem Inv.OM{e:Addr}(ok:X.Ok)(I:Inv (X.jD e) pins σ H s):Inv X pins σ H s:=
 ⟨ok,I.os,I.bare,I.base,I.loc,I.cell,I.free,I.eY,I.pin,I.hok,I.len⟩
theorem Inv.tried(I:Inv X pins σ H s)(E:aA):Inv (X.tried (X.pn++pins) E) [] σ H s:=
 ⟨⟨I.ok.mod,I.ok.kind,I.ok.glob,I.ok.blt,I.ok.above,I.ok.inj,I.ok.has,I.ok.lq,I.ok.hd,I.ok.frames,I.ok.stk,I.ok.sO,I.ok.bs,I.ok.ic,I.ok.lN,I.ok.nc,I.ok.fZ,I.ok.i8⟩,I.os,I.bare,I.base,I.loc,I.cell,I.free,I.eY,
  λp a=>I.pin p ((br.mp a).elim id λz=>absurd z (by simp)),I.hok,I.len⟩
theorem Inv.jf{E:aA}{a:aQ}(ok:X.Ok)(I:Inv (X.tried (X.pn++pins) E) a σ H s):Inv X pins σ H s:=
 ⟨ok,I.os,I.bare,I.base,I.loc,I.cell,I.free,I.eY,λp b=>I.pin p (jP _ b),I.hok,I.len⟩
theorem SP.jf{E:aA}{a:aQ}{D:Ends}{f:Flow}(ok:X.Ok)(h:SP (X.tried (X.pn++pins) E) a D f s):SP X pins D f s:=by
 cases f with
 |next=>obtain⟨σ',H',I,q⟩:=h;exact⟨σ',H',I.jf ok,q⟩
 |brk=>obtain⟨σ',H',I,q⟩:=h;exact⟨σ',H',I.jf ok,q⟩
 |cont=>obtain⟨σ',H',I,q⟩:=h;exact⟨σ',H',I.jf ok,q⟩
 |ret u=>obtain⟨v,σ',H',I,r,q⟩:=h;exact⟨v,σ',H',I.jf ok,r,q⟩
theorem Inv.S5{a:Addr}{d:Heap->Prop}(I:Inv X pins σ H s)(i:∀b o,X.s₀.heap.get? b=some o->X.H₀ b=none->b≠a)(nl:X.env.locals≠a)(j:∀x c,X.env.cells.lookup x=some c->c≠a)(np:∀p∈X.pn++pins,p.1≠a)
  (hn:H a=none)(f:d s.heap)(k:∃o,s.heap.get? a=some o)(st:∀h1 h2:Heap,d h1->(∀o,h1.get? a=some o->h2.get? a=some o)->d h2):Inv X pins σ (upd H a (.ext d)) s:=by
 refine⟨I.ok,I.os,I.bare,⟨I.base.keep,I.base.slot,λb o q n f=>?_,I.base.there,λb xs q=>?_,λb o u q=>?_,λb ps q=>?_⟩,I.loc,I.cell,?_,λx c e=>?_,λp g=>?_,λb o q=>?_,I.len⟩
 .rw[bh (i b o q n)];exact I.base.free b o q n f
 .have z:=I.base.tups b xs q
  rw[bh (dc z hn)];exact z
 .have z:=I.base.ek b o u q
  rw[bh (dc z hn)];exact z
 .obtain⟨m,z⟩:=I.base.eO b ps q
  exact⟨m,by rw[bh (dc z hn)];exact z⟩
 .rw[bh nl];exact I.free
 .rw[bh (j x c e)];exact I.eY x c e
 .obtain⟨e,n,r⟩:=I.pin p g
  exact⟨e,by rw[bh (np p g)];exact n,r⟩
 .by_cases h:b=a
  .subst h
   rw[f7] at q;cases q;exact⟨f,k,st⟩
  .rw[bh h] at q
   exact(I.hok b o q).stay (λ_ _ _ r=>r) (λc r=>by rw[bh (dc r hn)];exact r) λc xs r=>by rw[bh (dc r hn)];exact r
theorem Inv.HS{h':Heap}{t':Nat}{l:au}(I:Inv X pins σ H s)(a:SameBut X.env.locals s.heap h')(hn:h'.Ns X.env.locals l):Inv X pins (replicate X.N.length none) H {s with heap:=h',toks:=t'}:=by
 have iZ:=I.iZ;obtain⟨m,r,_⟩:=id I.loc;obtain⟨A,_,_,t,_⟩:=id r;have up:∀b o,X.s₀.heap.get? b=some o->b≠X.env.locals:=λb o e=>aY (b8 (aN e) I.ok.above);refine⟨I.ok,I.os,I.bare,⟨λb o e n h f=>?_,λb o e n h f=>?_,I.base.free,λb o e f=>?_,I.base.tups,I.base.ek,I.base.eO⟩,⟨_,hn,λj y B g i C=>?_⟩,λy c e=>?_,I.free,I.eY,λp u=>?_,λb v e=>?_,by simp⟩
 .exact(a.2 b (up b o e)).trans (I.base.keep b o e n h f)
 .obtain⟨w,g⟩:=I.base.slot b o e n h f
  exact⟨w,(a.2 b (up b o e)).trans g⟩
 .obtain⟨o',g⟩:=I.base.there b o e f
  exact⟨o',(a.2 b (up b o e)).trans g⟩
 .rw[vL] at i
  split at i<;>cases i
 .obtain⟨k,z⟩:=I.cell y c e
  exact⟨k,z.sameBut a (iZ y c e)⟩
 .obtain⟨e,n,ne,x,d⟩:=I.pin p u
  exact⟨(a.2 p.1 ne).trans e,n,ne,x,d⟩
 .refine(I.hok b v e).stay (λc k hc q=>(a.2 c ?_).trans q) (λ_ q=>q) λ_ _ q=>q
  rintro rfl;rcases hc with rfl|hc
  .rw[I.free] at e;cases e
  .rw[I.free] at hc;cases hc
end
section
variable{P:Program}{w:World}{outer:List Env}{H H':Hp}{s s':Shared}{a:Addr}{C a0:Value}{B h'':Heap}
theorem fz.move(F:fz P w outer H H' s s' a C)(h:∀b o,s.heap.get? b=some o->H b=none->b∉frs outer->B.get? b=some o)(th:∀b o,s.heap.get? b=some o->b∉frs outer->∃o',B.get? b=some o')(hok:bR P w H' B)
  (fl:FlyingW B outer a C a0 s'.heap)(d:FlyingW B outer a C a0 h'')(up:s'.heap.UpToSlots h''):fz P w outer H H' s {s' with heap:=h''} a C:=by
 refine⟨F.os,F.bare,λb o q g=>?_,F.free,F.tups,F.ek,F.eO,B,a0,h,th,hok,d⟩;obtain⟨j,e⟩:=F.slot b o q g;obtain⟨_,o',c,hd⟩:=fl.2.2.1.mem g;rw[e] at c;cases c;obtain⟨f,i⟩:=up b _ e hd;exact⟨f,i⟩
theorem fz.ne(F:fz P w outer H H' s s' a C){b:Addr}{o:Obj}(q:s.heap.get? b=some o)(n:H b=none):b≠a:=by
 rintro rfl;obtain⟨B,a0,f,th,hok,fl⟩:=F.fl;obtain⟨h,vs,g,_,hd,_⟩:=fl.first
 by_cases e:b∈frs outer
 .obtain⟨_,o',c,d⟩:=fl.2.2.1.mem e
  rw[g] at c;cases c;exact d _ hd
 .have z:=f b o q n e
  rw[fl.2.1] at z;cases z
end
def SK(K:Frag)(len i:Nat)(D:Addr)(tb:List (Addr×Obj)->(aA)->XK->TS)(th:TS):TS:=λDn σ H=>
 ∀(pn:aQ) (E:aA),tb pn E (λC _ H'=>∃c:Addr,C=.ref c/\exmOne K (.ref c) (.ref D)=some true/\∀(a:Addr) (σ':St),σ'.length=len->H' a=none->th {nx:=λ_ _=>False,rt:=Dn.rt} (σ'.set i (some (.ref a))) (upd H' a (m_ a c))) Dn σ H
section
variable{X:Cx}{D:Addr}{i:Nat}{n cn:Str}{b₀:Stmt}{suite body:List Stmt}{tb:List (Addr×Obj)->(aA)->XK->TS}{th:TS}{np hpos pos:Pos}
theorem PU(hex:X.ex=[])(j:X.stack=X.env::X.outer)(Z:X.env.frame=some X.env.locals)(hN:X.N.Nodup)(hi:X.N[i]? =some n)(hl:X.env.scope.names.lookup n=some .local)(hm:X.mg cn=some (.ref D))
  (hb:∀(pn:aQ) (E:aA) (Ex:XK),Passes (bu X.prog X.w) (X.tried pn E) Ex->cj (X.tried pn E) body (tb pn E Ex))(hh:∀e:Addr,cj (X.jD e) (b₀::suite) th)
  (hg:Gl X cn:=by rfl)(hdb:(cn==("__debug__":Str))=false:=by decide):
  PS X (.Try body [.ExceptHandler (some (.Name cn np)) (some n) (b₀::suite) hpos] [] [] pos) (SK X.K X.N.length i D tb th):=by
 intro pins s σ H Dn I h
 refine wpAny_Try_except ?_
 refine gD (hb (X.pn++pins) _ _ ?_ [] s σ H Dn (I.tried _) (h _ _)) (λf P q=> ?_) λe P q=>q
 .intro UI σ' H1 V e s' I1 hx
  obtain⟨a,C,H',rfl,F,c,rfl,Q,LW⟩:=hx
  have y:Inv X pins σ' H1 V:=I1.jf I.ok
  have F:fz X.prog X.w X.stack H1 H' V s' a (.ref c):=F
  obtain⟨B,a0,kb,R,hok,fl⟩:=F.fl
  have Lf:=fl
  rw[j] at fl
  refine wpAny_looks_onW (by rw[<-j];exact I.ok.frames) Z fl λh₄ g A=> ?_
  refine wpAny_landsW g λl d G=> ?_
  have S:fz X.prog X.w X.stack H1 H' V {s' with heap:=l} a (.ref c):=F.move kb R hok Lf (by rw[j];exact d) (A.trans G)
  have J5:Inv X pins σ' H' {s' with heap:=l}:=y.wM S.os S.un S.hok S.bare λb z=>absurd z (by simp)
  have LT:PySem.W.Looks (model X.prog X.w) l (typeOf (.ref a)) (.ref c):=by
   obtain⟨ob,J,hc⟩:=d.there
   exact hc▸(PySem.W.Looks.ld J).andThen .now
  refine wpAny_handleBy_cons (codeAny_handlers_test (qc (X:=X.jD a) (J5.jD a) hg hm ((PySem.W.exm_one (J5.dB) LT Q).here ?_) hdb)) (by intro q;cases q)
  refine codeAny_handlers_suite_as ?_
  refine lands_againW d λr t L=> ?_
  have M:fz X.prog X.w X.stack H1 H' V {s' with heap:=r} a (.ref c):=S.move kb R hok (by rw[j];exact d) (by rw[j];exact t) L
  have J6:Inv X pins σ' H' {s' with heap:=r}:=y.wM M.os M.un M.hok M.bare λb z=>absurd z (by simp)
  obtain⟨ob,J,T⟩:=t.there
  have J7:Inv X pins σ' (upd H' a (m_ a c)) {s' with heap:=r}:=by
   refine J6.S5 (λb o q n=> ?_) ?_ (λx c' e=> ?_) (λp hp=> ?_) M.new ⟨ob,J,T⟩ ⟨ob,J⟩ λh1 h2 p k=> ?_
   .obtain⟨sl,e⟩:=y.base.any q n (by rw[hex];simp)
    exact M.ne e (y.base.free b o q n (by rw[hex];simp))
   .obtain⟨m,⟨o,_,_,e,_⟩,_⟩:=id y.loc
    exact M.ne e y.free
   .obtain⟨v,o,e,_⟩:=y.cell x c' e
    exact M.ne e (y.eY x c' (by assumption))
   .obtain⟨e,n,_⟩:=y.pin p hp
    exact M.ne e n
   .obtain⟨o,e,ec⟩:=p
    exact⟨o,k o e,ec⟩
  refine qQ (X:=X.jD a) (J7.jD a) hN hi (.inl hl) (v:= .ref a) rfl (λU J8=> ?_) (.inr hl)
  refine gD (hh a pins U _ _ _ J8 (LW a σ' y.len F.new)) (λfl O q=> ?_) λe O z=>False.elim z
  cases fl with
  |next=>obtain⟨_,_,_,z⟩:=q;exact False.elim z
  |brk=>obtain⟨_,_,_,z⟩:=q;exact False.elim z
  |cont=>obtain⟨_,_,_,z⟩:=q;exact False.elim z
  |ret u=>
   obtain⟨v,σ2,H2,Y,rv,z⟩:=q
   have Y:Inv X pins σ2 H2 O:=Y.OM I.ok
   obtain⟨m,hn,_⟩:=id Y.loc
   exact wpAny_nameGoes hl hn (by rw[I.ok.kind];rfl) λh' m' hn' hs=>⟨v,_,H2,Y.HS hs hn',rv,z⟩
 .cases f with
  |next=>exact rq (SP.jf I.ok q)
  |brk=>exact SP.jf I.ok q
  |cont=>exact SP.jf I.ok q
  |ret u=>exact SP.jf I.ok q
end
section
variable{P:Program}{w:World}{K:Frag}{mg:au}{base:Heap}
def ay(P:Program)(w:World)(K:Frag)(mg:au)(base:Heap)(k:Nat)(x:Str)(ps:List Str)(sp:Sp):Prop:=
 ∃f fd,fL P w K mg base (bu P w) k f fd ps sp/\Binds K fd ps []/\keepIn K (.ref f)=true/\mg x=some (.ref f)
theorem TopD.fnX{x:Str}{st:Stmt}{N ps:List Str}{k:Nat}{sp:Sp}(T:TopD K mg x st ps)(S:bf N ps (aE st))(len:∀vs H Q E,sp vs H Q E->vs.length=ps.length)
  (c:∀(f:Addr) (a:Value) (A:Around) (outer:List Env) (s:Shared) (H:Hp) (vs:List V) (Q:VK) (E:XK),cR k (A.deeper (envOfC x (aE st) s.heap.objs.size f a))->sp vs H Q E->
   ∃t,cj (bM (bu P w) P w K mg base N x (aE st) f a A outer s H E) (fC st) t/\t {nx:=λ_ H'=>Q .aB H',rt:=Q} (start N vs) H):ay P w K mg base (k+1) x ps sp:=by
 obtain⟨f,fd,F,b,m⟩:=T;have kp:=F.kp;obtain⟨i,j,kV,doc,pm,an,a,ct,g,rfl,lk,d⟩:=F.ex;exact⟨f,_,Ce lk d S len λA outer s H vs Q E h e=>c f a A outer s H vs Q E h e,b,kp,m⟩
structure ju(k:Nat)(A:Around):Prop where
 dp:A.depth+3*k+5<recursionLimit
 un:A.units+16*k+200<cLine
theorem ju.of{k:Nat}{A:Around}{h:Option Value}(r:cR k A):ju k (A.mark h):=⟨r.dp,r.un⟩
def mO(P:Program)(w:World)(K:Frag)(mg:au)(base:Heap)(k:Nat)(x:Str)(ps:List Str)(sp:Sp):Prop:=
 ∃f fd,(∀vs H Q E,sp vs H Q E->vs.length=ps.length)/\(∀(A:Around) (outer:List Env) (s:Shared) (H:Hp) (args:Args) (us:List Value) (vs:List V) (Q:VK) (E:XK),ju k A->mL P w K mg base A outer s H->BindsTo s fd args (ps.zip us)->Vals vs us->sp vs H Q E->
  codeAny (model P w) A (.call (.ref f) args) (CR mH outer P w H s Q E) s)/\Binds K fd ps []/\keepIn K (.ref f)=true/\mg x=some (.ref f)
abbrev Cx.loud(X:Cx)(A:Around):Cx:={X with A:=A,calm:=false,xe:=λ_ _=>False}
theorem TopD.Lg{x:Str}{st:Stmt}{N ps:List Str}{k:Nat}{sp:Sp}(T:TopD K mg x st ps)(S:bf N ps (aE st))(len:∀vs H Q E,sp vs H Q E->vs.length=ps.length)
  (g:∀(f:Addr) (c:Value) (A:Around) (outer:List Env) (s:Shared) (H:Hp) (vs:List V) (Q:VK) (E:XK),ju k (A.deeper (envOfC x (aE st) s.heap.objs.size f c))->sp vs H Q E->
   ∃t,cj ((bM mH P w K mg base N x (aE st) f c {A with handled:=Option.none} outer s H E).loud (A.deeper (envOfC x (aE st) s.heap.objs.size f c))) (fC st) t/\t {nx:=λ_ H'=>Q .aB H',rt:=Q} (start N vs) H):mO P w K mg base (k+1) x ps sp:=by
 obtain⟨f,fd,F,b,m⟩:=T;have kp:=F.kp;obtain⟨oc,od,kV,doc,pm,an,c,ct,M,rfl,lk,l⟩:=F.ex;refine⟨f,_,len,λA outer s H args O vs Q E p d R r j=>?_,b,kp,m⟩;have U:=len _ _ _ _ j;have G:K.In s.heap:=d.mod.nE.keeps λb o e=>(d.bs b o e).1;have lim:s.heap.NoLimit:=d.mod.nolimit.keeps λb o e=>(d.bs b o e).1;have h:∀y∈ps.zip O,(aE st).names.lookup y.1=some .local\/((aE st).names.lookup y.1=some .cell/\((cellsFrom (s.heap.objs.size+1) (aE st).names []).lookup y.1).isSome=true):=λ⟨n,v⟩ W=>by
  rcases S.par n (of_mem_zip W).1 with q|q
  .exact .inl q
  .exact .inr ⟨q,cellsFrom_some _ _ _ (.inl q)⟩
 refine codeAny_call_function (by have:=p.dp;omega) (G _ _ lk) rfl S.co S.gen rfl (codeRec_of G l) (R _ _ _ _ ?_);refine wpAny_newFunctionEnv_cells S.kind h λenv X B L=>?_;subst X;refine⟨lim.keeps L.toInCall.keep,codeAny_func ?_⟩;have C:ju k (A.deeper (envOfC x (aE st) s.heap.objs.size f c)):=⟨by have:=p.dp;show A.depth+1+3*k+5<_;omega,by have:=p.un;show A.units+3+16*k+200<_;omega⟩;obtain⟨t,Y,Z⟩:=g f c A outer s H vs Q E C j;have e1:mL P w K mg base {A with handled:=Option.none} outer s H:=⟨d.frames,d.mod,d.bs,d.ic,d.fZ,d.i8,d.hok,d.bare⟩;have a:Inv (bM mH P w K mg base N x (aE st) f c {A with handled:=Option.none} outer s H E) [] (start N vs) H B:=CW S rfl e1 U r L;have I:Inv ((bM mH P w K mg base N x (aE st) f c {A with handled:=Option.none} outer s H E).loud (A.deeper (envOfC x (aE st) s.heap.objs.size f c))) [] (start N vs) H B:=
  ⟨⟨a.ok.mod,a.ok.kind,a.ok.glob,a.ok.blt,a.ok.above,a.ok.inj,a.ok.has,a.ok.lq,(λz=>nomatch z),Around.frames_deeper d.frames,a.ok.stk,a.ok.sO,a.ok.bs,a.ok.ic,a.ok.lN,a.ok.nc,a.ok.fZ,a.ok.i8⟩,a.os,a.bare,a.base,a.loc,a.cell,a.free,a.eY,a.pin,a.hok,a.len⟩
 refine gD (Y [] B (start N vs) H _ I Z) (λfl s' i=>?_) λe s' i=>False.elim i;have fin:∀{σ':St} {H':Hp} {v:V} {u:Value},Inv ((bM mH P w K mg base N x (aE st) f c {A with handled:=Option.none} outer s H E).loud (A.deeper (envOfC x (aE st) s.heap.objs.size f c))) [] σ' H' s'->RelV v u->Q v H'->CE outer P w H s Q u s':=
  λ {σ' H' v u} J D q=>⟨v,H',J.os,J.bare,J.base,J.hok,D,q⟩
 cases fl with
 |ret u=>
  obtain⟨v,σ',H',J,D,q⟩:=i;exact fin J D q
 |next=>
  obtain⟨σ',H',J,q⟩:=i;exact fin (v:=V.aB) (u:=Value.none) J rfl q
 |brk=>
  obtain⟨_,_,_,q⟩:=i;exact False.elim q
 |cont=>
  obtain⟨_,_,_,q⟩:=i;exact False.elim q
end
section
variable{X:Cx}{k:Nat}{x:Str}{ps:List Str}{sp:Sp}{e fe:Expr}{es:List Expr}{t:TA}{tf:TE}{p pos:Pos}{E:XK}
theorem OU(F:ay X.prog X.w X.K X.mg X.base k x ps sp)(d:cR k X.A)(g:Passes (bu X.prog X.w) X E)(h:PA X (e::es) t)(i:Gl X x:=by rfl)(a:(x==("__debug__":Str))=false:=by decide)
  (j:starEach (e::es) X.env=(false,eval e X.env)::starEach es X.env:=by rfl)(c:(backTo pos (starEach es X.env)).any (·.1)=false:=by rfl):
  PE X (.Call (.Name x p) (e::es) [] pos) (zj sp [] E t):=by
 obtain⟨f,fd,F,b,kp,m⟩:=F;exact OR F d i m kp b .nil g h a j c
theorem OS(F:mO X.prog X.w X.K X.mg X.base k x ps sp)(n:ju k X.A)(o:PA X (e::es) t)(v:Gl X x:=by rfl)(g:(x==("__debug__":Str))=false:=by decide)
  (y:starEach (e::es) X.env=(false,eval e X.env)::starEach es X.env:=by rfl)(i:(backTo pos (starEach es X.env)).any (·.1)=false:=by rfl):
  PE X (.Call (.Name x p) (e::es) [] pos) (zj sp [] E0 t):=by
 obtain⟨f,fd,len,F,b,kp,m⟩:=F;intro pins s σ H Q I h;refine jl (qc I v m ?_ g);refine callWith_K (h₀:=X.base) I.ok.mod.nE kp (aM (o pos pins s σ H _ I h) λa j ⟨vs,H1,d,r,q⟩=>⟨d.dB,?_⟩) y i;have l:Vals (vs++[]) (a++[]):=r.append .nil;have z:(a++[]).length=ps.length:=by rw[<-l.length];exact len _ _ _ _ q
 refine oE (iP (F X.A X.stack j H1 ⟨a,[]⟩ (a++[]) (vs++[]) Q E0 n d.B5 (b j a d.dB z) l q) λr s' c=>?_);cases r with
 |error e=>exact False.elim c
 |ok fl=>
  cases fl with
  |ret u=>exact d.after c
  |next=>exact False.elim c
  |brk=>exact False.elim c
  |cont=>exact False.elim c
end
end L2
namespace SS
theorem OI(t:SetTable)(n:Nat):(t.orStandIn n).led=t.led:=by
 unfold SetTable.orStandIn;split<;>rfl
theorem OJ(t:SetTable)(n:Nat)(h:t.plain=false):(t.orStandIn n).plain=false:=by
 unfold SetTable.orStandIn;split
 .exact h
 .rfl
theorem C8(t:SetTable)(es:Array (Int×Value))(h:Int)(x:Value):(layNew t es h x).2.1.led=t.led:=by
 unfold layNew;split
 .exact OI _ _
 .rfl
theorem C9(t:SetTable)(es:Array (Int×Value))(h:Int)(x:Value)(a:t.plain=false):(layNew t es h x).2.1.plain=false:=by
 unfold layNew;split
 .exact OJ _ _ a
 .rfl
theorem C6{mask finger moves:Nat}{led plain:Bool}{a:Array Int}{t:SetTable}{o:Array Nat}(h:SetTable.laid mask finger moves led plain a=some (t,o)):t.led=led/\t.plain=plain:=by
 unfold SetTable.laid at h;obtain⟨w,_,h⟩:=Option.bind_eq_some_iff.mp h;cases h;exact⟨rfl,rfl⟩
theorem EE(t:SetTable)(es:Array (Int×Value))(n:Nat):(relayAll t es n).2.1.led=t.led:=by
 unfold relayAll;split
 .rename_i t' o e
  dsimp only;split
  .exact(C6 e).1
  .rfl
 .rfl
theorem Qx(t:SetTable)(es:Array (Int×Value))(n:Nat)(a:t.plain=false):(relayAll t es n).2.1.plain=false:=by
 unfold relayAll;split
 .rename_i t' o e
  dsimp only;split
  .exact(C6 e).2.trans a
  .rfl
 .rfl
def strOf(v:Value):Str:=match v with|.str x _=>x|_=>⟨#[]⟩
def bF(prog:Program)(w:World)(h:Heap)(a:Addr)(es:Array (Int×Value)):Prop:=
 ∃o ep t,h.get? a=some o/\o.ExactSet/\o.data=.set es ep t/\ElemsOf (PySem.strKind prog w) es.toList/\(es.toList.map λe=>strOf e.2).Nodup/\es.size<scanBound/\t.fits es.size=true/\
  t.led= !w.params.followText "set-order"/\(es.size≠0->t.plain=false)
section
variable{prog:Program}{w:World}{A:Around}{E:aA}{s:Shared}
theorem xx{l:List (Int×Value)}(h:ElemsOf (PySem.strKind prog w) l){e:Int×Value}(a:e∈l):∃t,e.2=.str (strOf e.2) t:=by
 obtain⟨⟨k,hk,_⟩,_⟩:=h e a;obtain⟨t,q⟩:=Value.isStrOf_shape hk;exact⟨t,by rw[q];rfl⟩
theorem C0{e:Int×Value}{x:Str}(h:∃t,e.2=.str (strOf e.2) t):(PySem.strKind prog w).is x e.2=decide (strOf e.2=x):=by
 obtain⟨t,q⟩:=h;rw[q];show Value.isStrOf x (.str (strOf e.2) t)=decide (strOf (.str (strOf e.2) t)=x);by_cases a:strOf e.2=x
 .rw[dj (by rw[<-a];rfl),a]
  simp[Value.isStrOf]
 .rw[eG (by exact a)]
  simp only[Value.isStrOf];simpa[iO] using λz=>a (by first|exact z.symm|exact z)
theorem add{a:Addr}{es:Array (Int×Value)}{x:Str}{tk:Tok}{Q:Bool->Shared->Prop}(hS:bF prog w s.heap a es)(K:es.size+1<scanBound)
  (h:∀h' l b,SameBut a s.heap h'->bF prog w h' a l->(x∈es.toList.map (λe=>strOf e.2)->l=es)->(x∉es.toList.map (λe=>strOf e.2)->l.toList.Perm (es.toList++[((PySem.strKind prog w).hash x,.str x tk)]))->Q b {s with heap:=h'}):
  wpAny (model prog w) A (setAddHashed a (.str x tk) ((PySem.strKind prog w).hash x)) Q E s:=by
 obtain⟨o,ep,t,T,hex,hd,n,U,hb,hf,u,hpl⟩:=hS
 have C:(PySem.strKind prog w).is x (.str x tk)=true:=by show Value.isStrOf x (.str x tk)=true;simp[Value.isStrOf]
 have M:(Value.str x tk).scannable=true:=rfl
 unfold setAddHashed setAddHashedIn
 refine dR (af (mj T hd hf ?_))
 dsimp only
 rw[byScan_of M hb n]
 simp only[↓reduceIte]
 unfold setAddByScan
 refine af ?_
 refine af (fW ?_)
 refine af (wpAny_setScan_of C T hd hf n ?_)
 cases hr:List.findIdx? (λe=>(PySem.strKind prog w).is x e.2) es.toList with
 |some j=>
  dsimp only
  obtain⟨hj,V,_⟩:=List.findIdx?_eq_some_iff_getElem.mp hr
  have hin:x∈es.toList.map (λe=>strOf e.2):=by
   rw[C0 (xx n (cz hj))] at V
   exact aS.mpr ⟨_,cz hj,kK V⟩
  refine ak (ak ?_)
  have e:s={s with heap:=s.heap}:=by cases s;rfl
  rw[e]
  exact h s.heap es _ (SameBut.refl a s.heap) ⟨o,ep,t,T,hex,hd,n,U,hb,hf,u,hpl⟩ (λ_=>rfl) λz=>absurd hin z
 |none=>
  dsimp only
  have D:x∉es.toList.map (λe=>strOf e.2):=λz=>by
   obtain⟨e,he,q⟩:=aS.mp z
   have:=List.findIdx?_eq_none_iff.mp hr e he
   rw[C0 (xx n he),dj q] at this
   exact Bool.noConfusion this
  have xQ:∀(b:Bool) {f:Shared} {F:Unit->Shared->Prop},F () f->wpAny (model prog w) A (match b with|true=>rule "set.scan.the-table-gave-way"|false=>pure ()) F E f:=
   λb f F r=>by cases b<;>first|exact ak r|exact fW r
  have d:=layNew_perm t es ((PySem.strKind prog w).hash x) (.str x tk)
  have k:=layNew_fits t es ((PySem.strKind prog w).hash x) (.str x tk)
  have B:=C8 t es ((PySem.strKind prog w).hash x) (.str x tk)
  have W:=C9 t es ((PySem.strKind prog w).hash x) (.str x tk)
  generalize hL:layNew t es ((PySem.strKind prog w).hash x) (.str x tk)=L at d k B W ⊢
  obtain⟨c,t1,p,Lv⟩:=L
  dsimp only at d k B W ⊢
  rw[kQ] at d
  have G:ElemsOf (PySem.strKind prog w) c.toList:=(n.push C M).perm d
  have X:((es.toList++[((PySem.strKind prog w).hash x,Value.str x tk)]).map λe=>strOf e.2).Nodup:=by
   rw[ff]
   refine ou.mpr ⟨U,by simp,λy hy z hz=> ?_⟩
   have hz':z=x:=by simpa[strOf] using hz
   rw[hz']
   rintro rfl
   exact D hy
  have H:(c.toList.map λe=>strOf e.2).Nodup:=(d.map _).nodup_iff.mpr X
  have Y:c.size=es.size+1:=by rw[<-bE,d.length_eq,cA,bE];rfl
  have v:c.size<scanBound:=by rw[Y];exact K
  refine af (xQ _ ?_)
  have fin:∀{g:Bool->Sem Unit} {R:Option Bool->Shared->Prop},(∀(b:Bool) (f:Shared) (F:Unit->Shared->Prop),F () f->wpAny (model prog w) A (g b) F E f)->(∀h',Q true {s with heap:=h'}->R (some true) {s with heap:=h'})->
    ∀i:SetTable,i.fits c.size=true->i.led=t.led->i.plain=false->
    wpAny (model prog w) A (do
     storeSet a c i
     if (!p&&i.tooFull)=true then do
       g (relayAll i c (SetTable.grown c.size)).2.2
       storeSet a (relayAll i c (SetTable.grown c.size)).1 (relayAll i c (SetTable.grown c.size)).2.1
       pure (some true)
      else pure (some true)) R E s:=λ {g R} hg hR i hf2 Z hp2=>by
   have go:∀h' l,SameBut a s.heap h'->bF prog w h' a l->l.toList.Perm c.toList->R (some true) {s with heap:=h'}:=λh' l q1 q2 q3=>hR h' (h h' l true q1 q2 (λz=>absurd z D) λ_=>q3.trans d)
   refine af (vG T hd ?_ (oR v))
   have N:(s.heap.update a (Obj.putSet c i)).get? a=some {o with data:= .set c (ep+1) i}:=by
    have:=gZ (Obj.putSet c i) T (by rw[kP c i hd];rfl)
    rw[kP c i hd] at this;exact this
   have I:=SameBut.update s.heap a (Obj.putSet c i)
   split
   .have J:=relayAll_perm i c (SetTable.grown c.size)
    have O:=relayAll_fits i c (SetTable.grown c.size)
    have P:=EE i c (SetTable.grown c.size)
    have S:=Qx i c (SetTable.grown c.size) hp2
    generalize LF:relayAll i c (SetTable.grown c.size)=Rl at J O P S ⊢
    obtain⟨m,t3,Lw⟩:=Rl
    dsimp only at J O P S ⊢
    have hsz:m.size=c.size:=by rw[<-bE,J.length_eq,bE]
    have hb2:m.size<scanBound:=by rw[hsz];exact v
    refine af (hg _ _ _ ?_)
    refine af (vG N rfl ?_ (oR hb2))
    have xP:((s.heap.update a (Obj.putSet c i)).update a (Obj.putSet m t3)).get? a=some {o with data:= .set m (ep+1+1) t3}:=by
     have:=gZ (Obj.putSet m t3) N (by rw[kP (ep:=ep+1) (t:=i) m t3 rfl];rfl)
     rw[kP (ep:=ep+1) (t:=i) m t3 rfl] at this;exact this
    refine ak (go _ m (I.trans (SameBut.update _ a _)) ⟨_,_,_,xP,hex,rfl,G.perm J,(J.map _).nodup_iff.mpr H,hb2,O,?_,λ_=>S⟩ J)
    rw[P,Z];exact u
   .exact ak (go _ c I ⟨_,_,_,N,hex,rfl,G,H,v,hf2,by rw[Z];exact u,λ_=>hp2⟩ .rfl)
  split
  .refine af ?_
   rw[hashByValue_scannable 8 M]
   refine ak ?_
   simp only[show plainKind (Value.str x tk)=false from rfl,gG,e_]
   refine fin ?_ ?_ {t1 with plain:=false} (SetTable.fits_plain_off k) B rfl
   .intro b f F r;cases b<;>first|exact ak r|exact fW r
   .exact λh' r=>ak r
  .rename_i J
   refine af (ak ?_)
   simp only[↓reduceIte]
   refine fin ?_ ?_ t1 k B (by simpa using J)
   .intro b f F r;cases b<;>first|exact ak r|exact fW r
   .exact λh' r=>ak r
end
abbrev names(es:Array (Int×Value)):List Str:=es.toList.map λe=>strOf e.2
theorem bF.keeps{prog:Program}{w:World}{h h':Heap}{a:Addr}{es:Array (Int×Value)}(S:bF prog w h a es)(k:∀o,h.get? a=some o->h'.get? a=some o):bF prog w h' a es:=by
 obtain⟨o,ep,t,b,r⟩:=S;exact⟨o,ep,t,k o b,r⟩
section
variable{prog:Program}{w:World}{A:Around}{R:Result->Shared->Prop}{I:Addr}{fp wr:List Addr}{G:Array GenState->Array GenState->Prop}{n:Nat}{P:Nat->Value->Prop}{St:Nat->Shared->Prop}
theorem loop(W:WalksS prog w A.in1 I fp wr G n P St)(S:Addr)(q:S∉fp)(val:Nat->Str)(r:∀i v,P i v->∃t,v=.str (val i) t)(m:n+1<scanBound):
  ∀(k i:Nat) (s:Shared) (es:Array (Int×Value)),n - i=k->i<=n->St i s->bF prog w s.heap S es->es.size<=i->(∀x,x∈names es↔∃j,j<i/\val j=x)->
   (∀s' c,Moved (S::wr) G s s'->bF prog w s'.heap S c->c.size<=n->(∀x,x∈names c↔∃j,j<n/\val j=x)->R (.ok (.ret .none)) s')->
   codeAny (model prog w) A (.builtin "set.update.loop" ⟨[.ref S,.ref I],[]⟩) R s:=by
 have u:S∉wr:=λh=>q (W.sub _ h);have f:∀b∈wr,b∈S::wr:=λb m=>b9 _ m;intro k;induction k with
 |zero=>
  intro i s es hk hi g L hsz d M;have N:i=n:=by omega
  subst N;refine eU vC ?_;rw[gg oF _];show wpAny _ A.in1 (pyNext (.ref I)>>=_) _ _ s;refine af (W.done s _ _ g λs' B=>?_);show wpAny _ A.in1 (ret Value.none) _ _ s';exact ak (M s' es (B.mono f) (L.keeps λo O=>B.heap S _ u O) hsz d)
 |succ k ih=>
  intro i s es hk hi g L hsz d M;have C:i<n:=by omega
  refine eU vC ?_;rw[gg oF _];show wpAny _ A.in1 (pyNext (.ref I)>>=_) _ _ s;refine af (W.item i s _ _ C g λv s' hP D B=>?_);obtain⟨t,rfl⟩:=r i v hP;have Q:bF prog w s'.heap S es:=L.keeps λo O=>B.heap S _ u O;show wpAny _ A.in1 (holding [Value.str (val i) t] (setAdd S (.str (val i) t))>>=_) _ _ s';refine af (dR ?_);unfold setAdd;refine dR ?_;refine af ((PySem.strKind prog w).pyHash (k:=val i) (by show Value.isStrOf (val i) (.str (val i) t)=true;simp[Value.isStrOf]) ?_);refine add (s:={s' with toks:=s'.toks+1}) Q (by omega) λh' c b E T Y Z=>?_;have F:c.size<=i+1:=by
   by_cases p:val i∈es.toList.map (λe=>strOf e.2)
   .rw[Y p];omega
   .rw[<-bE,(Z p).length_eq,cA,bE]
    simp only[gC,length_nil];omega
  have l:∀x,x∈names c↔∃j,j<i+1/\val j=x:=λx=>by
   have e1:x∈names c↔x∈names es\/x=val i:=by
    by_cases p:val i∈es.toList.map (λe=>strOf e.2)
    .rw[Y p]
     exact⟨.inl,λz=>z.elim id λe=>e▸p⟩
    .have hp:=((Z p).map λe=>strOf e.2).mem_iff (a:=x)
     rw[ff,br] at hp;refine hp.trans ⟨λz=>z.imp id λy=>by simpa[strOf] using y,λz=>z.imp id λy=>by simpa[strOf] using y⟩
   rw[e1,d x];constructor
   .rintro (⟨j,hj,e⟩|rfl)
    .exact⟨j,by omega,e⟩
    .exact⟨i,by omega,rfl⟩
   .rintro ⟨j,hj,e⟩
    by_cases U:j=i
    .exact .inr (by rw[<-e,U])
    .exact .inl ⟨j,by omega,e⟩
  refine ak ⟨gW oF _,ih (i+1) _ c (by omega) C (W.frame _ s' _ _ D (le_succ _) λb m o e=>?_) T F l λV H J K hz X=>?_⟩
  .rw[E.2 b (λh:b=S=>q (by rw[<-h];exact m))];exact e
  .refine M V H (Moved.trans W.gtrans ((B.mono f).then_heap (le_succ _) λb o m e=>?_) J) K hz X
   rw[E.2 b (λh:b=S=>m (by rw[h];exact cB))];exact e
end
section
variable{prog:Program}{w:World}{A:Around}{E:aA}{s:Shared}
abbrev M0(w:World):Bool:= !w.params.followText "set-order"
abbrev cu(w:World):Obj:={cls:=.type "set",dict:=none,data:=.set #[] 0 (.fresh 0 0 (M0 w))}
theorem code_set_new(a:Value){Q₁:aA}(h:Q₁ (.ref s.heap.objs.size) {s with heap:=s.heap.push (cu w)}):
  codeAny (model prog w) A (.call (.builtin "set.__new__") ⟨[.type "set",a],[]⟩) (wants Q₁ E) s:=by
 refine rJ ?_;show wpAny _ A.in1 (do checkBuiltinCall "set.__new__" ⟨[.type "set",a],[]⟩;again (.builtin "set.__new__" ⟨[.type "set",a],[]⟩)) _ _ s;refine af (wpAny_of_eq (PySem.F.newCall_set_1 a) (ak ⟨gW PySem.F.plain_set_new _,eU PySem.F.entry_set_new ?_⟩));rw[gg PySem.F.plain_set_new _];unfold Builtin.«set.__new__» Builtin.Frozenset.newClass;have b:=sub_set_self;obtain⟨c,g,d,tk,os⟩:=s;dsimp only;wp_walk;refine wpAny_askSetting (ak ?_);dsimp only;simp only[newObj];refine af (wpAny_alloc (ak ?_));exact ak h
theorem bF.fresh{h:Heap}{a:Addr}(b:h.get? a=some (cu w)):bF prog w h a #[]:=
 ⟨_,_,_,b,⟨rfl,rfl,rfl⟩,rfl,λe c=>by simp at c,by simp,by decide,by rfl,rfl,λz=>absurd rfl z⟩
theorem wO{l:Addr}{items:Array Value}{val:Nat->Str}{Q:aA}
  (hh:A.handled=none)(hl:s.heap.IsList l items)(hi:∀(i:Nat) (v:Value),items[i]? =some v->∃t:Tok,v=Value.str (val i) t)(J:items.size+1<scanBound)
  (h:∀(h':Heap) (tk:Nat) (es:Array (Int×Value)),bF prog w h' s.heap.objs.size es->es.size<=items.size->(∀x,x∈names es↔∃j,j<items.size/\val j=x)->
   (∀b o,b<s.heap.objs.size->s.heap.get? b=some o->h'.get? b=some o)->Q (.ref s.heap.objs.size) {s with heap:=h',toks:=tk}):
  wpAny (model prog w) A (call (.type "set") [.ref l]) Q E s:=by
 obtain⟨c,tl,Z⟩:=di.mro
 have L:=di.made
 have hsub:=di.sub
 refine oE (rJ ?_)
 show wpAny _ _ (callAny (.type "set") _) _ _ _
 refine ak ⟨vv _ (by decide+kernel),eU zM ?_⟩
 rw[Around.under_plain (zG "set" [.ref l] []) rfl]
 have h1:=di.notType
 have h2:=di.canCreate
 have hct:=typeCall_set_1 (.ref l)
 repeat (any_goals (first|assumption|wp_step))
 refine iP (code_set_new (.ref l) (E:=E) (Q₁:=λobj f=>obj= .ref s.heap.objs.size/\f={s with heap:=s.heap.push (cu w)}) ⟨rfl,rfl⟩) λr f M=> ?_
 cases r with
 |error e=>exact M
 |ok fl=>
  cases fl with
  |ret obj=>
   obtain⟨rfl,rfl⟩:=M
   have hS:(s.heap.push (cu w)).get? s.heap.objs.size=some (cu w):=bI _ rfl
   have hT:Shared.TypeIs {s with heap:=s.heap.push (cu w)} (.ref s.heap.objs.size) "set":=⟨_,hS,rfl⟩
   have hli:=di.init.lookup
   have hbi:=di.init.bind (.ref s.heap.objs.size)
   repeat (any_goals (first|assumption|wp_step))
   refine iP (rH (R:=wants (λr g=>r= .none/\∃h' tk es,g={s with heap:=h',toks:=tk}/\
     bF prog w h' s.heap.objs.size es/\es.size<=items.size/\(∀x,x∈names es↔∃j,j<items.size/\val j=x)/\
     (∀b o,b<s.heap.objs.size->s.heap.get? b=some o->h'.get? b=some o)) E) di.init.plain entry_set_init (check_set_init_1 hT ?_)) λu g a=> ?_
   .obtain⟨ol,y,B,nl,C⟩:=hl
    obtain⟨DT,k,N,d⟩:=ol
    simp only at B C
    subst B;subst C
    have D:(s.heap.push (cu w)).get? l=some {cls:= .type "list",dict:=k,data:= .seq items nl,slots:=d}:=aT _ y
    have CS:=sub_list_set
    have CQ:=PySem.F.sub_list_frozenset
    have hne:(Value.type "list" ==Value.type "dict")=false:=by decide
    have G:(s.heap.push (cu w)).IsList l items:=⟨_,D,rfl,nl,rfl⟩
    unfold Builtin.«set.__init__» noKeywords Builtin.Frozenset.updateFrom
    generalize O:pyIter=PI
    wp_walk
    subst O
    refine mh G ?_
    refine af (rz ?_)
    have H:l<s.heap.objs.size:=aN y
    have P:A.in1.in1.in1.handled=none:=by simp[hh]
    have I:l≠(s.heap.push (cu w)).objs.size:=by
     rw[cG];exact aY (dM H)
    have S:s.heap.objs.size∉[(s.heap.push (cu w)).objs.size,l]:=by
     rw[cG];simp only[aX,bK,d7,d8,jk]
     exact⟨aY (iF _),iH H⟩
    refine loop ((Walks.list P _ l I items).toS) s.heap.objs.size S val (λi v hv=>hi i v hv) J (items.size - 0) 0 _ #[] (by omega) (cH _)
     ⟨⟨_,bI _ rfl,rfl,rfl⟩,(G.push _)⟩ ?p8 (aH _) (λx=>⟨λz=>by simp[names] at z,λ⟨j,hj,_⟩=>absurd hj (q_ _)⟩) ?hR
    case p8=>exact bF.fresh (aT _ hS)
    case hR=>
     intro s' T K m n p
     obtain⟨h',g',d',U,V⟩:=s'
     have eg:g'=s.gens:=K.gens
     have ed:d'=s.drawn:=K.drawn
     have eo:V=s.os:=K.os
     subst eg;subst ed;subst eo
     show wpAny _ _ _ _ _ _
     refine ak ?_
     show wpAny _ _ (ret Value.none) _ _ _
     refine ak ⟨rfl,h',U,T,rfl,m,n,p,λb o J e=> ?_⟩
     have W:b≠s.heap.objs.size:=aY J
     have X:b≠(s.heap.push (cu w)).objs.size:=by
      rw[cG];exact aY (dM J)
     exact K.heap b o (by simp only[aX,bK,d7,d8,jk];exact⟨W,X⟩) (aT _ (aT _ e))
   .cases u with
    |error e=>exact a
    |ok q=>
     cases q with
     |ret r=>
      obtain⟨rfl,h',tk,es,rfl,m,n,p,Y⟩:=a
      repeat (any_goals (first|assumption|wp_step))
      exact h _ _ es m n p Y
     |_=>exact a.elim
  |_=>exact M.elim
end
theorem F0:Slot "set" "__iter__" "set.__iter__":=
 .of (owner:="set") (n:="__iter__") (by rw[l7,mE];kernel_rfl) (by decide+kernel) (by decide+kernel) (by decide+kernel)
  (by first|exact .inl (by decide+kernel)|exact .inr (by decide+kernel)) (by rw[isSubtype_type];kernel_rfl)
theorem slot_next:Slot "set_iterator" "__next__" "set_iterator.__next__":=
 .of (owner:="set_iterator") (n:="__next__") (by rw[l7,mE];kernel_rfl) (by decide+kernel) (by decide+kernel) (by decide+kernel)
  (by first|exact .inl (by decide+kernel)|exact .inr (by decide+kernel)) (by rw[isSubtype_type];kernel_rfl)
theorem F1:Slot "set_iterator" "__iter__" "set_iterator.__iter__":=
 .of (owner:="set_iterator") (n:="__iter__") (by rw[l7,mE];kernel_rfl) (by decide+kernel) (by decide+kernel) (by decide+kernel)
  (by first|exact .inl (by decide+kernel)|exact .inr (by decide+kernel)) (by rw[isSubtype_type];kernel_rfl)
theorem JU:entryFor table "set.__iter__"=some Builtin.«frozenset.__iter__»:=
 entryFor_alias (id':="frozenset.__iter__") (by kernel_rfl) (by first|rfl|decide+kernel) (by decide+kernel) (by kernel_rfl)
theorem entry_next:entryFor table "set_iterator.__next__"=some Builtin.«set_iterator.__next__»:=entryFor_of_fast (by kernel_rfl)
theorem HA(a:Value):argsOk "set.__iter__" ⟨[a],[]⟩:=by unfold argsOk;kernel_rfl
theorem args_next(a:Value):argsOk "set_iterator.__next__" ⟨[a],[]⟩:=by unfold argsOk;kernel_rfl
theorem TJ{M:Model}{A:Around}{E:aA}{s:Shared}{src:Source}{n:Nat}{Q:Nat->Shared->Prop}(hn:n≠0)(h:∀i d,i<n->Q i {s with drawn:=d}):wpAny M A (choose src n) Q E s:=λa p _=>by
 unfold choose;rw[Sem.wp_choose];exact⟨hn,h _ _ (Nat.mod_lt _ (Nat.pos_of_ne_zero hn))⟩
theorem yz{α:Type}:∀(xs:List α) (i:Nat) (x:α),xs[i]?=some x->xs.Perm (x::xs.eraseIdx i)
 |[],i,x,h=>by simp at h
 |y::r,0,x,h=>by
  simp at h;subst h;simp
 |y::r,i+1,x,h=>by
  simp only[zQ] at h;have:=yz r i x h;simp only[List.eraseIdx_cons_succ];exact(this.cons y).trans (Perm.swap x y _)
section
variable{M:Model}{A:Around}{E:aA}{s:Shared}
theorem BW{α:Type}:∀(n:Nat) (xs:List α) (s:Shared) (Q:List α->Shared->Prop),n=xs.length->(∀ys d,ys.Perm xs->Q ys {s with drawn:=d})->wpAny M A (drawOrder n xs) Q E s
 |0,xs,s,Q,hn,h=>by
  cases xs with
  |nil=>unfold drawOrder;exact ak (h [] s.drawn .nil)
  |cons x r=>simp at hn
 |n+1,[],s,Q,hn,h=>by simp at hn
 |n+1,x::r,s,Q,hn,h=>by
  unfold drawOrder;refine af (TJ (by simp) λi d hi=>?_);have e:(x::r)[i]?=some ((x::r)[i]'hi):=aV hi;rw[e];dsimp only;have a:=yz (x::r) i _ e;refine af (BW n _ _ _ ?_ λys d' b=>ak ?_)
  .have:=a.length_eq
   simp only[gC] at this hn ⊢;omega
  .exact h _ d' ((b.cons _).trans a.symm)
end
theorem D9{α:Type}(next:Nat->Nat):∀(fuel k:Nat) (left:List α) (out:Array α),fuel=left.length->(pickOrder.go next fuel k left out).toList.Perm (out.toList++left)
 |0,k,left,out,h=>by
  cases left with
  |nil=>unfold pickOrder.go;simp
  |cons x r=>simp at h
 |fuel+1,k,[],out,h=>by simp at h
 |fuel+1,k,x::r,out,h=>by
  unfold pickOrder.go;have hi:next k%(x::r).length<(x::r).length:=Nat.mod_lt _ (by simp);have e:(x::r)[next k%(x::r).length]?=some ((x::r)[next k%(x::r).length]'hi):=aV hi;rw[e];dsimp only;have a:=yz (x::r) _ _ e;refine(D9 next fuel (k+1) _ _ ?_).trans ?_
  .have:=a.length_eq
   simp only[gC] at this h ⊢;omega
  .rw[kQ,bJ]
   exact iM _ a.symm
theorem Pk{α:Type}(next:Nat->Nat)(xs:Array α):(pickOrder next xs).toList.Perm xs.toList:=by
 unfold pickOrder;exact(D9 next xs.size 0 xs.toList #[] (by simp)).trans (by simp)
def eV(h:Heap)(it a:Addr)(first:Value)(i n ep:Nat):Prop:=∃o,h.get? it=some o/\o.cls=.type "set_iterator"/\o.data=.fields #[first,.int i 0,.ref a,.int n 0,.int ep 0]
def gI(h:Heap)(a:Addr)(es:Array (Int×Value))(ep:Nat)(t:SetTable):Prop:=∃o,h.get? a=some o/\o.data=.set es ep t/\t.fits es.size=true
section
variable{prog:Program}{w:World}{A:Around}{E:aA}{s:Shared}{it a:Addr}{es:Array (Int×Value)}{ep:Nat}{t:SetTable}
theorem eV.typeIs{first:Value}{i n:Nat}(h:eV s.heap it a first i n ep):s.TypeIs (.ref it) "set_iterator":=by
 obtain⟨o,h1,h2,_⟩:=h;exact⟨o,h1,h2⟩
theorem eV.put{first v:Value}{i n k:Nat}{h:Heap}(x:eV h it a first i n ep)(o:Obj)(b:h.get? it=some o):(h.update it (Obj.mapFields (·.setIfInBounds k v))).get? it=some (o.mapFields (·.setIfInBounds k v)):=by
 obtain⟨o',h1,h2,h3⟩:=x;rw[h1] at b;cases b;exact gZ _ h1 (zU (jV h3 _))
theorem DO{slot:Int}{i:Nat}{x:Value}{nx:Nat}{Q:Option Value->Shared->Prop}(hi:eV s.heap it a (.int slot 0) i es.size ep)(f:gI s.heap a es ep t)
  (hn:∀(A:Around) (Q:Option (Value×Nat)->Shared->Prop) (E:aA),Q (some (x,nx)) s->wpAny (model prog w) A (setNext a slot.toNat i ep) Q E s)
  (g:∀h',eV h' it a (.int nx 0) (i+1) es.size ep->SameBut it s.heap h'->Q (some x) {s with heap:=h'}):wpAny (model prog w) A (pyNext (.ref it)) Q E s:=by
 obtain⟨o,c,hc,hd⟩:=id hi
 obtain⟨os,d,e,h⟩:=f
 unfold pyNext
 refine af (jU (l8 (name:=Str.ofString "__next__") hi.typeIs slot_next (gY slot_next hi.typeIs entry_next ?_ (args_next _))))
 show wpAny _ _ (fieldsOf (.ref it)>>=_) _ _ s
 refine af (vz c hd ?_)
 show wpAny _ _ (setEntries a>>=_) _ _ s
 refine af (rB d e h ?_)
 simp only[kW,gG,e_]
 refine af (hn _ _ _ ?_)
 dsimp only
 refine af (oG c hd (by simp) ?_)
 have b:=hi.put (k:=0) (v:=rawInt nx) o c
 refine af (oG b (jV hd _) (by simp) (ak ⟨x,rfl,ak (g _ ?_ ((SameBut.update ..).trans (SameBut.update ..)))⟩))
 refine⟨_,gZ _ b (zU (jV (jV hd _) _)),(Obj.cls_mapFields ..).trans ((Obj.cls_mapFields ..).trans hc),?_⟩
 rw[jV (jV hd _)]
 simp[rawInt]
end
theorem JV:entryFor table "set_iterator.__iter__"=some Builtin.«dict_keyiterator.__iter__»:=
 entryFor_alias (id':="dict_keyiterator.__iter__") (by kernel_rfl) (by first|rfl|decide+kernel) (by decide+kernel) (by kernel_rfl)
theorem HB(a:Value):argsOk "set_iterator.__iter__" ⟨[a],[]⟩:=by unfold argsOk;kernel_rfl
section
variable{prog:Program}{w:World}{A:Around}{E:aA}{s:Shared}{it a:Addr}{es:Array (Int×Value)}{ep:Nat}{t:SetTable}
theorem xX{first:Value}{i n:Nat}{Q:aA}(hi:eV s.heap it a first i n ep)(h:Q (.ref it) s):wpAny (model prog w) A (pyIter (.ref it)) Q E s:=by
 refine wpAny_pyIter_slot hi.typeIs F1 (gY F1 hi.typeIs JV ?_ (HB _));show wpAny _ _ (ret (.ref it)) _ _ s;exact ak ⟨_,rfl,"set_iterator",_,hi.typeIs,slot_next.lookup,h⟩
theorem B3{slot:Int}{i:Nat}{Q:Option Value->Shared->Prop}(f:A.handled=none)(hi:eV s.heap it a (.int slot 0) i es.size ep)(g:gI s.heap a es ep t)
  (hn:∀(A:Around) (Q:Option (Value×Nat)->Shared->Prop) (E:aA),Q none s->wpAny (model prog w) A (setNext a slot.toNat i ep) Q E s)
  (h:∀h',ExtBut it s.heap h'->Q none {s with heap:=h'}):wpAny (model prog w) A (pyNext (.ref it)) Q E s:=by
 obtain⟨o,e,hc,hd⟩:=id hi
 obtain⟨os,c,d,j⟩:=g
 unfold pyNext
 refine af (jU (l8 (name:=Str.ofString "__next__") hi.typeIs slot_next (gY slot_next hi.typeIs entry_next ?_ (args_next _))))
 show wpAny _ _ (fieldsOf (.ref it)>>=_) _ _ s
 refine af (vz e hd ?_)
 show wpAny _ _ (setEntries a>>=_) _ _ s
 refine af (rB c d j ?_)
 simp only[kW,gG,e_]
 refine af (hn _ _ _ ?_)
 dsimp only
 refine af (oG e hd (by simp) ?_)
 show wpAny _ _ (newExc (.type "StopIteration") []>>=_) _ _ _
 refine af ?_
 simp only[newExc,newTuple]
 refine af (fm ?_ (by size_fits))
 refine af (m:=firstArgMember _ _) (wpAny_of_eq (a:=Value.none) (by first|rfl|(simp only[firstArgMember];rfl)) ?_)
 refine fm ?_ (by size_fits)
 simp only[raiseNew]
 refine af (wpAny_handled ?_)
 rw[show A.in1.handled=none from f]
 refine af (ak (wpAny_throw ?_))
 refine af (vA (T:="StopIteration") (b:=true) ⟨_,bI _ rfl,rfl⟩ isSubtype_stop ?_)
 exact ak (h _ (((SameBut.update ..).extBut.push _).push _))
theorem NW{d:Addr}{ps:List Nat}{i p:Nat}{h0:Int}{x:Value}{Q:Option Value->Shared->Prop}(hi:eV s.heap it a (.ref d) i es.size ep)(k:gI s.heap a es ep t)
  (l:∃o n,s.heap.get? d=some o/\o.data= .seq ((ps.map λ(i:Nat)=>rawInt i).toArray) n)(m:ps[i]? =some p)(q:es[p]? =some (h0,x))
  (r:∀h',eV h' it a (.ref d) (i+1) es.size ep->SameBut it s.heap h'->Q (some x) {s with heap:=h'}):wpAny (model prog w) A (pyNext (.ref it)) Q E s:=by
 obtain⟨o,f,hc,hd⟩:=id hi
 obtain⟨os,b,c,j⟩:=k
 obtain⟨u,v,g,h⟩:=l
 unfold pyNext
 refine af (jU (l8 (name:=Str.ofString "__next__") hi.typeIs slot_next (gY slot_next hi.typeIs entry_next ?_ (args_next _))))
 show wpAny _ _ (fieldsOf (.ref it)>>=_) _ _ s
 refine af (vz f hd ?_)
 show wpAny _ _ (setEntries a>>=_) _ _ s
 refine af (rB b c j ?_)
 simp only[kW,gG,e_]
 refine af (rA g h ?_)
 have e:((ps.map λ(i:Nat)=>rawInt i).toArray)[((i:Int)).toNat]? =some (Value.int (p:Int) 0):=by
  simp[m,rawInt]
 dsimp only
 rw[e]
 dsimp only
 refine af ?_
 unfold setNextDrawn
 refine af (mj b c j ?_)
 dsimp only
 simp only[oB,kW,gG,e_]
 rw[q]
 refine ak ?_
 refine af (oG f hd (by simp) (ak ⟨x,rfl,ak (r _ ?_ (SameBut.update ..))⟩))
 refine⟨_,gZ _ f (zU (jV hd _)),(Obj.cls_mapFields ..).trans hc,?_⟩
 rw[jV hd]
 simp[rawInt]
theorem JT{l:Addr}{ps:List Nat}{i:Nat}{Q:Option Value->Shared->Prop}(p:A.handled=none)(hi:eV s.heap it a (.ref l) i es.size ep)(q:gI s.heap a es ep t)
  (r:∃o n,s.heap.get? l=some o/\o.data= .seq ((ps.map λ(i:Nat)=>rawInt i).toArray) n)(u:ps[i]? =none)
  (x:∀h',ExtBut it s.heap h'->Q none {s with heap:=h'}):wpAny (model prog w) A (pyNext (.ref it)) Q E s:=by
 obtain⟨o,c,hc,hd⟩:=id hi
 obtain⟨os,d,f,y⟩:=q
 obtain⟨z,B,g,h⟩:=r
 unfold pyNext
 refine af (jU (l8 (name:=Str.ofString "__next__") hi.typeIs slot_next (gY slot_next hi.typeIs entry_next ?_ (args_next _))))
 show wpAny _ _ (fieldsOf (.ref it)>>=_) _ _ s
 refine af (vz c hd ?_)
 show wpAny _ _ (setEntries a>>=_) _ _ s
 refine af (rB d f y ?_)
 simp only[kW,gG,e_]
 refine af (rA g h ?_)
 have e:((ps.map λ(i:Nat)=>rawInt i).toArray)[((i:Int)).toNat]? =none:=by
  simp only[oB,List.getElem?_toArray,cy,u,Option.map_none]
 dsimp only
 rw[e]
 dsimp only
 refine af (oG c hd (by simp) ?_)
 have j:=hi.put (k:=0) (v:=rawInt 0) o c
 refine af (oG j (jV hd _) (by simp) ?_)
 show wpAny _ _ (newExc (.type "StopIteration") []>>=_) _ _ _
 refine af ?_
 simp only[newExc,newTuple]
 refine af (fm ?_ (by size_fits))
 refine af (m:=firstArgMember _ _) (wpAny_of_eq (a:=Value.none) (by first|rfl|(simp only[firstArgMember];rfl)) ?_)
 refine fm ?_ (by size_fits)
 simp only[raiseNew]
 refine af (wpAny_handled ?_)
 rw[show A.in1.handled=none from p]
 refine af (ak (wpAny_throw ?_))
 refine af (vA (T:="StopIteration") (b:=true) ⟨_,bI _ rfl,rfl⟩ isSubtype_stop ?_)
 exact ak (x _ ((((SameBut.update ..).trans (SameBut.update ..)).extBut.push _).push _))
end
section
variable{prog:Program}{w:World}{A:Around}{E:aA}{s:Shared}{it a:Addr}{es:Array (Int×Value)}{ep:Nat}{t:SetTable}
theorem sj{Q:Bool->Shared->Prop}(h:Q (w.params.followText "set-order") s):wpAny (model prog w) A setsByText Q E s:=by
 unfold setsByText;exact af (wpAny_askSetting (ak h))
theorem gI.keep{h h':Heap}(x:gI h a es ep t)(k:∀o,h.get? a=some o->h'.get? a=some o):gI h' a es ep t:=by
 obtain⟨o,e,r⟩:=x;exact⟨o,k o e,r⟩
theorem eV.keep{h h':Heap}{first:Value}{i n:Nat}(x:eV h it a first i n ep)(k:∀o,h.get? it=some o->h'.get? it=some o):eV h' it a first i n ep:=by
 obtain⟨o,e,r⟩:=x;exact⟨o,k o e,r⟩
theorem nextT{slot i:Nat}{Q:Option (Value×Nat)->Shared->Prop}(d:w.params.followText "set-order"=true)(g:gI s.heap a es ep t)
  (h:Q (((pickOrder (w.params.setOrder a ep) es)[i]?).map λe=>(e.2,slot)) s):wpAny (model prog w) A (setNext a slot i ep) Q E s:=by
 obtain⟨os,b,c,f⟩:=g;unfold setNext;refine af (mj b c f ?_);dsimp only;refine af (sj ?_);rw[d,aj rfl];simp only[kW,gG,e_];refine af ?_;unfold setWalk;refine af (mj b c f ?_);dsimp only;refine af (sj ?_);rw[d,aj rfl];exact af (wpAny_askSetting (ak (ak h)))
theorem TF(p:w.params.followText "set-order"=true)(q:A.handled=none)(l:a≠it):
  Walks prog w A it [it,a] [it] ((pickOrder (w.params.setOrder a ep) es).toList.map (·.2)).length (λi v=>((pickOrder (w.params.setOrder a ep) es).toList.map (·.2))[i]? =some v) (λi h=>eV h it a (.int 0 0) i es.size ep/\gI h a es ep t) where
 sub:=λb d=>by simp at d;simp[d]
 frame:=λ_ _ _ st hk=>⟨st.1.keep λo e=>hk it (by simp) o e,st.2.keep λo e=>hk a (by simp) o e⟩
 item:=λi s Q E hi st f=>by
  have c:i<(pickOrder (w.params.setOrder a ep) es).size:=by simpa using hi
  have k:(pickOrder (w.params.setOrder a ep) es)[i]? =some ((pickOrder (w.params.setOrder a ep) es)[i]'c):=cP c
  refine DO (slot:=0) (x:=((pickOrder (w.params.setOrder a ep) es)[i]'c).2) (nx:=0) st.1 st.2 (λA' r u m=>nextT p st.2 (by rw[k];exact m)) λh' g j=> ?_
  refine f _ h' s.toks ?_ ⟨g,st.2.keep λo e=>(j.2 a l).trans e⟩ λb o d e=>(j.2 b λz=>d (by simp[z])).trans e
  rw[cy,jg,k];rfl
 done:=λs Q E st f=>by
  have k:(pickOrder (w.params.setOrder a ep) es)[((pickOrder (w.params.setOrder a ep) es).toList.map (·.2)).length]? =none:=by simp
  exact B3 (slot:=0) q st.1 st.2 (λA' r u m=>nextT p st.2 (by rw[k];exact m)) λh' n=>f h' s.toks λb o d e=>n b o (λz=>d (by simp[z])) e
 self:=λ_ _ _ _ st f=>xX st.1 f
theorem Tv{g:Addr}{ps:List Nat}(C:A.handled=none)(m:a≠it)(q:g≠it)(u:ps.Perm (range es.size)):
  Walks prog w A it [it,a,g] [it] (ps.map λp=>((es[p]?).getD (0,.none)).2).length (λi v=>(ps.map λp=>((es[p]?).getD (0,.none)).2)[i]? =some v)
   (λi h=>eV h it a (.ref g) i es.size ep/\gI h a es ep t/\∃o n,h.get? g=some o/\o.data= .seq ((ps.map λ(i:Nat)=>rawInt i).toArray) n) where
 sub:=λb j=>by simp at j;simp[j]
 frame:=λ_ _ _ st hk=>⟨st.1.keep λo e=>hk it (by simp) o e,st.2.1.keep λo e=>hk a (by simp) o e,by obtain⟨o,n,e,r⟩:=st.2.2;exact⟨o,n,hk g (by simp) o e,r⟩⟩
 item:=λi s Q E hi st k=>by
  have c:i<ps.length:=by simpa using hi
  have y:ps[i]? =some (ps[i]'c):=aV c
  have d:(ps[i]'c)<es.size:=mem_range.mp (u.mem_iff.mp (cz c))
  have B:es[ps[i]'c]? =some ((es[ps[i]'c]'d).1,(es[ps[i]'c]'d).2):=cP d
  refine NW st.1 st.2.1 st.2.2 y B λh' l f=> ?_
  refine k _ h' s.toks ?_ ⟨l,st.2.1.keep λo e=>(f.2 a m).trans e,by obtain⟨o,n,e,r⟩:=st.2.2;exact⟨o,n,(f.2 g q).trans e,r⟩⟩ λb o j e=>(f.2 b λz=>j (by simp[z])).trans e
  rw[cy,y]
  simp only[map_some,B,getD_some]
 done:=λs Q E st k=>by
  exact JT C st.1 st.2.1 st.2.2 (by simp) λh' x=>k h' s.toks λb o j e=>x b o (λz=>j (by simp[z])) e
 self:=λ_ _ _ _ st k=>xX st.1 k
theorem DN{slot i:Nat}{Q:Option (Value×Nat)->Shared->Prop}(d:w.params.followText "set-order"=false)(e:t.led=true)(hz:es.size<=1)(f:gI s.heap a es ep t)
  (h:Q (match es[SetTable.below t.place slot]?,t.place[SetTable.below t.place slot]? with|some (_,x),some j=>some (x,j+1)|_,_=>none) s):wpAny (model prog w) A (setNext a slot i ep) Q E s:=by
 obtain⟨os,b,c,g⟩:=f;unfold setNext;refine af (mj b c g ?_);dsimp only;refine af (sj ?_);rw[d,ai (by decide)];show wpAny _ _ (if (!t.plain&&decide (es.size>1))=true then _ else _) _ _ _;rw[ai (by rw[eG (Nat.not_lt.mpr hz),oj];decide)];show wpAny _ _ ((if (!t.led&& !es.isEmpty)=true then _ else _)>>=_) _ _ _;rw[e,ai (by simp)];exact af (ak (ak h))
theorem AZ(xs:Array Nat)(h:xs.size<=1):SetTable.below xs 0=0:=by
 unfold SetTable.below;have:xs.size=0\/xs.size=1:=by omega
 rcases this with z|z
 .rw[z];rfl
 .rw[z]
  unfold SetTable.below.go;rw[aj (by decide)];dsimp only;rw[ai (by omega)];rfl
theorem below_1(xs:Array Nat)(j:Nat)(h:xs.size=1)(a:xs[0]?=some j):SetTable.below xs (j+1)=1:=by
 unfold SetTable.below;rw[h];unfold SetTable.below.go;rw[aj (by decide)];dsimp only;have e:xs.getD ((0+1)/2) (j+1)=j:=by
  show xs.getD 0 (j+1)=j;rw[gi,a];rfl
 rw[e,aj (by omega)];rfl
theorem Tz(y:w.params.followText "set-order"=false)(B:t.led=true)(hz:es.size<=1)(n:t.fits es.size=true)(D:A.handled=none)(q:a≠it):
  Walks prog w A it [it,a] [it] (es.toList.map (·.2)).length (λi v=>(es.toList.map (·.2))[i]? =some v) (λi h=>eV h it a (.int (if i=0 then 0 else t.place.getD 0 0+1:Nat) 0) i es.size ep/\gI h a es ep t) where
 sub:=λb d=>by simp at d;simp[d]
 frame:=λ_ _ _ st hk=>⟨st.1.keep λo e=>hk it (by simp) o e,st.2.keep λo e=>hk a (by simp) o e⟩
 item:=λi s Q E hi st f=>by
  have c:i<es.size:=by simpa using hi
  have h0:i=0:=by omega
  subst h0
  have F:t.place.size=es.size:=by simp only[SetTable.fits,dh,iO] at n;exact n.1
  have C:es[0]? =some (es[0]'c):=cP c
  have g:t.place[0]? =some (t.place[0]'(by omega)):=cP (by omega)
  have r:t.place.getD 0 0=t.place[0]'(by omega):=by rw[gi,g];rfl
  refine DO (slot:=((if (0:Nat)=0 then 0 else t.place.getD 0 0+1:Nat):Int)) (x:=(es[0]'c).2) (nx:=(t.place[0]'(by omega))+1) st.1 st.2 (λA' G H p=> ?_) λh' j k=> ?_
  .refine DN y B hz st.2 ?_
   simp only[jh,oB]
   rw[AZ _ (by omega),C,g]
   exact p
  .refine f _ h' s.toks ?_ ⟨?_,st.2.keep λo e=>(k.2 a q).trans e⟩ λb o d e=>(k.2 b λz=>d (by simp[z])).trans e
   .rw[cy,jg,C];rfl
   .rw[ai (by omega),r];exact j
 done:=λs Q E st f=>by
  have F:t.place.size=es.size:=by simp only[SetTable.fits,dh,iO] at n;exact n.1
  have l:(es.toList.map (·.2)).length=es.size:=by simp
  rw[l] at st
  refine B3 D st.1 st.2 (λA' G H p=>DN y B hz st.2 ?_) λh' u=>f h' s.toks λb o d e=>u b o (λz=>d (by simp[z])) e
  simp only[oB]
  by_cases m:es.size=0
  .rw[aj m,AZ _ (by omega),n9 (by omega)]
   exact p
  .have g:t.place[0]? =some (t.place[0]'(by omega)):=cP (by omega)
   have r:t.place.getD 0 0=t.place[0]'(by omega):=by rw[gi,g];rfl
   rw[ai m,r,below_1 _ _ (by omega) g,n9 (by omega)]
   exact p
 self:=λ_ _ _ _ st f=>xX st.1 f
end
section
variable{prog:Program}{w:World}{A:Around}{E:aA}{s:Shared}{it a:Addr}{es:Array (Int×Value)}{ep:Nat}{t:SetTable}
theorem Pf{ps:List Nat}(a:ps.Perm (range es.size)):(ps.map λp=>((es[p]?).getD (0,.none)).2).Perm (es.toList.map (·.2)):=by
 refine(a.map _).trans ?_;have:((range es.size).map λp=>((es[p]?).getD (0,.none)).2)=es.toList.map (·.2):=by
  apply List.ext_getElem?;intro i;simp only[cy,jg];by_cases hi:i<es.size
  .rw[List.getElem?_range hi,cP hi]
   simp[cP hi]
  .rw[n_ (by simpa using hi),n9 (by omega)];rfl
 rw[this]
theorem Mn{Q:aA}(B:bF prog w s.heap a es)
  (h:∀(h':Heap) (d:Drawn) (it:Addr) (zs:List Value) (fp:List Addr) (St:Nat->Heap->Prop),zs.Perm (es.toList.map (·.2))->(∀A':Around,A'.handled=none->Walks prog w A' it fp [it] zs.length (λi v=>zs[i]?=some v) St)->St 0 h'->
   it∈fp->(∀b∈fp,b=a\/s.heap.objs.size<=b)->(∀b∈fp,b<h'.objs.size)->s.heap.objs.size<=it->(∀b o,s.heap.get? b=some o->h'.get? b=some o)->Q (.ref it) {s with heap:=h',drawn:=d}):wpAny (model prog w) A (pyIter (.ref a)) Q E s:=by
 obtain⟨o,ep,t,f,hex,hd,C,D,F,g,k,x⟩:=B;have y:s.TypeIs (.ref a) "set":=⟨o,f,hex.1⟩;have alt:a<s.heap.objs.size:=aN f;refine wpAny_pyIter_slot y F0 (gY F0 y JU ?_ (HA _));show wpAny _ _ (Builtin.Frozenset.sizeOf a>>=_) _ _ s;unfold Builtin.Frozenset.sizeOf;refine af (af (rB f hd g (ak ?_)));refine af ?_;unfold setDrawn;refine af (mj f hd g ?_);dsimp only;refine af (sj (ak ?_));show wpAny _ _ (if (!w.params.followText "set-order"&&(!t.plain&&decide (es.size>1)))=true then _ else _) _ _ _;by_cases hc:(!w.params.followText "set-order"&&(!t.plain&&decide (es.size>1)))=true
 .rw[aj hc]
  refine af (BW _ _ _ _ (by simp) λys d j=>?_);unfold newTuple;have hsz:sizeOk (.seq ((ys.map λ(i:Nat)=>rawInt i).toArray) 0):=by
   show((ys.map λ(i:Nat)=>rawInt i).toArray).size<=sizeLine;rw[bH,a_,j.length_eq,om];exact oR F
  refine af (fm ?_ hsz);have l:=λb o (e:s.heap.get? b=some o)=>aT {cls:=.type "tuple",data:=.seq ((ys.map λ(i:Nat)=>rawInt i).toArray)} e;have m:=l a o f;refine af (wpAny_setEpoch_of m hd g ?_);refine af (fm (ak ⟨_,rfl,"set_iterator",_,⟨_,bI _ rfl,rfl⟩,slot_next.lookup,?_⟩) (by size_fits));have ne1:a≠(s.heap.push {cls:=.type "tuple",data:=.seq ((ys.map λ(i:Nat)=>rawInt i).toArray)}).objs.size:=by rw[cG];exact aY (dM alt)
  have ne2:s.heap.objs.size≠(s.heap.push {cls:=.type "tuple",data:=.seq ((ys.map λ(i:Nat)=>rawInt i).toArray)}).objs.size:=by rw[cG];exact aY (iF _)
  refine h _ d _ (ys.map λp=>((es[p]?).getD (0,.none)).2) [_,a,s.heap.objs.size] _ (Pf j) (λA' n=>Tv (t:=t) (ep:=ep) n ne1 ne2 j) ⟨⟨_,bI _ rfl,rfl,rfl⟩,⟨o,aT _ m,hd,g⟩,⟨_,_,aT _ (bI _ rfl),rfl⟩⟩ (by simp) (λb c=>by
   simp only[aX,d7,d8] at c;rcases c with z|z|z
   .exact .inr (by rw[z,cG];exact le_succ _)
   .exact .inl z
   .exact .inr (by rw[z];exact aH _)) (λb c=>?_) (by rw[cG];exact le_succ _) λb o e=>aT _ (l b o e)
  rw[cG,cG];simp only[aX,d7,d8] at c;rcases c with z|z|z
  .rw[z,cG];exact iF _
  .rw[z];exact dM (dM alt)
  .rw[z];exact dM (iF _)
 .rw[ai hc]
  refine af (ak ?_);refine af (wpAny_setEpoch_of f hd g ?_);refine af (fm (ak ⟨_,rfl,"set_iterator",_,⟨_,bI _ rfl,rfl⟩,slot_next.lookup,?_⟩) (by size_fits));have ne1:a≠s.heap.objs.size:=aY alt;have q:∀b∈[s.heap.objs.size,a],b<(s.heap.push {cls:=.type "set_iterator",data:=.fields [rawInt 0,rawInt 0,.ref a,rawInt (es.size:Nat),rawInt (ep:Nat)].toArray}).objs.size:=λb c=>by
   rw[cG];simp only[aX,d7,d8] at c;rcases c with z|z
   .rw[z];exact iF _
   .rw[z];exact dM alt
  have r:∀b∈[s.heap.objs.size,a],b=a\/s.heap.objs.size<=b:=λb c=>by
   simp only[aX,d7,d8] at c;rcases c with z|z
   .exact .inr (by rw[z];exact aH _)
   .exact .inl z
  cases u:w.params.followText "set-order" with
  |true=>
   exact h _ s.drawn _ ((pickOrder (w.params.setOrder a ep) es).toList.map (·.2)) [_,a] _ ((Pk _ es).map _) (λA' n=>TF (t:=t) u n ne1) ⟨⟨_,bI _ rfl,rfl,rfl⟩,⟨o,aT _ f,hd,g⟩⟩ (by simp) r q (aH _) λb o e=>aT _ e
  |false=>
   have hz:es.size<=1:=by
    rw[u] at hc;by_cases hz:es.size<=1
    .exact hz
    .rw[x (by omega),dj (by omega)] at hc
     exact absurd rfl hc
   have G:t.led=true:=by rw[k,u];rfl
   exact h _ s.drawn _ (es.toList.map (·.2)) [_,a] _ (.refl _) (λA' n=>Tz (t:=t) (ep:=ep) u G hz g n ne1) ⟨⟨_,bI _ rfl,rfl,rfl⟩,⟨o,aT _ f,hd,g⟩⟩ (by simp) r q (aH _) λb o e=>aT _ e
end
end SS
end
namespace KO
open PySem PySem.W PyProof.Rows
section
variable{O:KeyOrd}{key:Nat->O.α}{n:Nat}{cmp:Nat->Nat->(Bool->Shared->Prop)->Shared->Prop}{s:Shared}
def kp(O:KeyOrd)(key:Nat->O.α)(p:Array Nat)(i:Nat):O.α:=key (p.getD i 0)
def Up(O:KeyOrd)(key:Nat->O.α)(p:Array Nat)(k:Nat):Prop:=∀i j,i<=j->j<k->O.kle (kp O key p i) (kp O key p j)
def Pm(n:Nat)(p:Array Nat):Prop:=p.Perm (range n).toArray
theorem Pm.size{p:Array Nat}(h:Pm n p):p.size=n:=by
 have:=Array.Perm.size_eq h;simpa using this
variable(hc:∀i j,i<n->j<n->∀C:Bool->Shared->Prop,C (O.blt (key i) (key j)) s->cmp i j C s)
include hc
end
end KO
namespace TS
open PySem PyProof.Rows
def fU:Bool->Keyed->Array Keyed->Nat->Nat->Nat->StateT SortSt Sem (Option Nat):=sortPriv%PySem.Builtin.gallop
def qg:Array Keyed->Array Keyed->StateT SortSt Sem (Array Keyed):=sortPriv%PySem.Builtin.mergeLo
def qf:Array Keyed->Array Keyed->StateT SortSt Sem (Array Keyed):=sortPriv%PySem.Builtin.mergeHi
abbrev bB(st:SortSt)(g:Nat):SortSt:=SortSt.mk' (kindOf st) (arrOf st) (pendingOf st) g (failedOf st)
def mV(left:Bool)(key:Keyed)(arr:Array Keyed)(base i:Nat):StateT SortSt Sem (Option Bool):=do
 let x <-elem' arr (base+i)
 if left then lt' x key else return (<-lt' key x).map (!·)
def sd(left:Bool)(key:Keyed)(arr:Array Keyed)(base n M9 hi0:Nat):StateT SortSt Sem (Option Nat):=do
 let mut lo:=M9
 let mut hi:=hi0
 for _ in [0:n] do
  if lo≥hi then break
  let m:=lo+(hi - lo)/2
  let some more <-mV left key arr base m|return none
  if more then lo:=m+1 else hi:=m
 return some hi
theorem Ls(left:Bool)(key:Keyed)(arr:Array Keyed)(base n hint:Nat):fU left key arr base n hint=(do
 let mut a:=0
 let mut c:=1
 let some right <-mV left key arr base hint|return none
 if right then
  let b:=n - hint
  for _ in [0:n] do
   if c≥b then break
   let some d <-mV left key arr base (hint+c)|return none
   if !d then break
   a:=c
   c:=2*c+1
  sd left key arr base n (hint+a+1) (hint+min c b)
 else
  let b:=hint+1
  for _ in [0:n] do
   if c≥b then break
   let some found <-mV left key arr base (hint - c)|return none
   if found then break
   a:=c
   c:=2*c+1
  sd left key arr base n (hint+1 - min c b) (hint - a)):=rfl
theorem NF(a b:Array Keyed):qg a b=(do
 rule "list.sort.merge-lo"
 let total:=a.size+b.size
 let done (out:Array Keyed) (c d:Nat):=out++a.extract c a.size++b.extract d b.size
 let g (out:Array Keyed) (c d:Nat):=out++b.extract d b.size++a.extract c a.size
 let mut out:Array Keyed:= #[<-elem' b 0]
 let mut c:=0
 let mut d:=1
 if d==b.size then return done out c d
 if c+1==a.size then return g out c d
 let mut minGallop:=gallopOf (<-get)
 for _ in [0:total] do
  let mut e:=0
  let mut f:=0
  for _ in [0:total] do
   let some h <-lt' (<-elem' b d) (<-elem' a c)|return done out c d
   if h then
    out:=out.push (<-elem' b d);d:=d+1;f:=f+1;e:=0
    if d==b.size then return done out c d
    if f≥minGallop then break
   else
    out:=out.push (<-elem' a c);c:=c+1;e:=e+1;f:=0
    if c+1==a.size then return g out c d
    if e≥minGallop then break
  rule "list.sort.gallop"
  minGallop:=minGallop+1
  for _ in [0:total] do
   if minGallop>1 then minGallop:=minGallop - 1
   modify (λs=>bB s minGallop)
   let some k <-fU false (<-elem' b d) a c (a.size - c) 0|return done out c d
   e:=k
   if k>0 then
    out:=out++a.extract c (c+k);c:=c+k
    if c+1==a.size then return g out c d
    if c==a.size then return done out c d
   out:=out.push (<-elem' b d);d:=d+1
   if d==b.size then return done out c d
   let some k <-fU true (<-elem' a c) b d (b.size - d) 0|return done out c d
   f:=k
   if k>0 then
    out:=out++b.extract d (d+k);d:=d+k
    if d==b.size then return done out c d
   out:=out.push (<-elem' a c);c:=c+1
   if c+1==a.size then return g out c d
   if e<7&&f<7 then break
  minGallop:=minGallop+1
  modify (λs=>bB s minGallop)
 unsupported "internal:list.sort.merge-bound"):=rfl
section
variable{M:Model}{A:Around}{E:aA}{s:Shared}{C:SortKind}
theorem Lu{left:Bool}{key:Keyed}{arr:Array Keyed}{base n hint:Nat}{b:Nat->Bool}{st:SortSt}{Q:Option Nat->SortSt->Prop}(hk:kindOf st=C)(u:hint<n)
  (p:∀i,i<n->∀(Q:Option Bool->SortSt->Prop),Q (some (b i)) st->wpS M A E s (mV left key arr base i) Q st)
  (mono:∀i j,i<=j->j<n->b j=true->b i=true)
  (h:∀k,k<=n->(∀i,i<k->b i=true)->(∀i,k<=i->i<n->b i=false)->Q (some k) st):wpS M A E s (fU left key arr base n hint) Q st:=by
 rw[Ls]
 dsimp only
 refine aD (p hint u _ ?_)
 dsimp only
 have a:∀i j,i<=j->j<n->b i=false->b j=false:=λi j q v hi=>by
  cases e:b j with
  |false=>rfl
  |true=>rw[mono i j q v e] at hi;cases hi
 have fin:∀lo hi:Nat,lo<=hi->hi<=n->(∀i,i<lo->b i=true)->(∀i,hi<=i->i<n->b i=false)->
   wpS M A E s (sd left key arr base n lo hi) Q st:=λlo hi h1 h2 h3 w=>by
  unfold sd
  dsimp only
  refine aD (fJ (I:=λx c d=>d=st/\∃lo hi,c=(none,lo,hi)/\lo<=hi/\hi<=n/\(∀i,i<lo->b i=true)/\(∀i,hi<=i->i<n->b i=false)/\hi - lo<=n - x) ?_ ?_ ⟨rfl,lo,hi,rfl,h1,h2,h3,w,by omega⟩)
  .rintro x c d _ r ⟨rfl,lo,hi,rfl,a1,a2,g,f,y⟩
   dsimp only
   by_cases l:lo≥hi
   .rw[aj l]
    refine aI ?_
    have:lo=hi:=by omega
    subst this
    exact aI (h lo a2 g f)
   .rw[ai l]
    refine aD (p _ (by omega) _ ?_)
    dsimp only
    cases m:b (lo+(hi - lo)/2) with
    |true=>exact aI ⟨rfl,_,_,rfl,by omega,a2,λi o=>mono i _ (by omega) (by omega) m,f,by omega⟩
    |false=>exact aI ⟨rfl,_,_,rfl,by omega,by omega,g,λi o hn=>a _ i o hn m,by omega⟩
  .rintro c d ⟨rfl,lo,hi,rfl,a1,a2,g,f,y⟩
   have:lo=hi:=by omega
   subst this
   exact aI (h lo a2 g f)
 cases t:b hint with
 |true=>
  simp only[jh]
  refine aD (fJ (I:=λx c d=>d=st/\∃la of,c=(none,la,of)/\la<of/\x+1<=of/\hint+la<n/\b (hint+la)=true) ?_ ?_ ⟨rfl,0,1,rfl,by decide,by omega,by omega,by rw[add_zero];exact t⟩)
  .rintro x c d _ r ⟨rfl,la,of,rfl,a1,a2,g,f⟩
   dsimp only
   by_cases l:of≥n - hint
   .rw[aj l]
    refine aI ?_
    dsimp only
    exact fin (hint+la+1) (hint+min of (n - hint)) (by omega) (by omega) (λi hi=>mono i _ (by omega) g f) (λi h1 h2=>by omega)
   .rw[ai l]
    refine aD (p _ (by omega) _ ?_)
    dsimp only
    cases m:b (hint+of) with
    |true=>exact aI ⟨rfl,_,_,rfl,by omega,by omega,by omega,m⟩
    |false=>
     refine aI ?_
     dsimp only
     exact fin (hint+la+1) (hint+min of (n - hint)) (by omega) (by omega) (λi hi=>mono i _ (by omega) g f) (λi h1 h2=>a (hint+of) i (by omega) h2 m)
  .rintro c d ⟨rfl,la,of,rfl,a1,a2,g,f⟩
   dsimp only
   exact fin (hint+la+1) (hint+min of (n - hint)) (by omega) (by omega) (λi hi=>mono i _ (by omega) g f) (λi h1 h2=>by omega)
 |false=>
  simp only[gG,e_]
  refine aD (fJ (I:=λx c d=>d=st/\∃la of,c=(none,la,of)/\la<of/\x+1<=of/\la<=hint/\b (hint - la)=false) ?_ ?_ ⟨rfl,0,1,rfl,by decide,by omega,by omega,by rw[Nat.sub_zero];exact t⟩)
  .rintro x c d _ r ⟨rfl,la,of,rfl,a1,a2,g,f⟩
   dsimp only
   by_cases l:of≥hint+1
   .rw[aj l]
    refine aI ?_
    dsimp only
    exact fin (hint+1 - min of (hint+1)) (hint - la) (by omega) (by omega) (λi hi=>by omega) (λi h1 h2=>a (hint - la) i h1 h2 f)
   .rw[ai l]
    refine aD (p _ (by omega) _ ?_)
    dsimp only
    cases m:b (hint - of) with
    |true=>
     refine aI ?_
     dsimp only
     exact fin (hint+1 - min of (hint+1)) (hint - la) (by omega) (by omega) (λi hi=>mono i (hint - of) (by omega) (by omega) m) (λi h1 h2=>a (hint - la) i h1 h2 f)
    |false=>exact aI ⟨rfl,_,_,rfl,by omega,by omega,by omega,m⟩
  .rintro c d ⟨rfl,la,of,rfl,a1,a2,g,f⟩
   dsimp only
   exact fin (hint+1 - min of (hint+1)) (hint - la) (by omega) (by omega) (λi hi=>by omega) (λi h1 h2=>a (hint - la) i h1 h2 f)
end
section
variable{M:Model}{A:Around}{E:aA}{s:Shared}
theorem dD{arr:Array Keyed}{i:Nat}{st:SortSt}{Q:Keyed->SortSt->Prop}(hi:i<arr.size)(h:Q (arr.toList[i]'hi) st):wpS M A E s (elem' arr i) Q st:=by
 rw[elem'_eq,cP hi];exact aI h
theorem nY{σ:Type}{r:String}{st:σ}{Q:Unit->σ->Prop}(h:Q () st):wpS M A E s (liftM (rule r):StateT σ Sem Unit) Q st:=
 wpS_lift (fW ⟨rfl,h⟩)
structure Cp(M:Model)(A:Around)(E:aA)(s:Shared)(C:SortKind)(G:Keyed->Prop)(r:Keyed->Keyed->Bool):Prop where
 lt:∀{x y:Keyed} {st:SortSt} {Q:Option Bool->SortSt->Prop},G x->G y->kindOf st=C->Q (some (r x y)) st->wpS M A E s (lt' x y) Q st
 as:∀{x y:Keyed},G x->G y->r x y=true->r y x=false
 tr:∀{x y z:Keyed},G x->G y->G z->r y x=false->r z y=false->r z x=false
end
section
variable{G:Keyed->Prop}{r:Keyed->Keyed->Bool}
abbrev Le(r:Keyed->Keyed->Bool)(x y:Keyed):Prop:=r y x=false
structure MI(G:Keyed->Prop)(r:Keyed->Keyed->Bool)(a b out:List Keyed)(ia ib:Nat):Prop where
 pm:out.Perm (a.take ia++b.take ib)
 so:out.Pairwise (Le r)
 la:∀x∈out,∀y∈a.drop ia,Le r x y
 lb:∀x∈out,∀y∈b.drop ib,Le r x y
theorem pX(a:List Keyed)(i k:Nat):a.drop i=(a.drop i).take k++a.drop (i+k):=by
 rw[<-oK];exact(fk k (a.drop i)).symm
theorem MI.qS{a b out:List Keyed}{d f:Nat}(m:MI G r a b out d f)(k:Nat)(sa:a.Pairwise (Le r))(h:∀x∈(a.drop d).take k,∀y∈b.drop f,Le r x y):
  MI G r a b (out++(a.drop d).take k) (d+k) f:=by
 have e:=pX a d k;have g:(a.drop d).Pairwise (Le r):=sa.sublist (iQ _ _);rw[e,cZ] at g;refine⟨?_,?_,?_,?_⟩
 .rw[take_add]
  refine(jo _ m.pm).trans ?_;rw[bJ,bJ];exact iM _ kM
 .exact cZ.mpr ⟨m.so,g.1,λx hx y c=>m.la x hx y (by rw[e];exact jP _ c)⟩
 .intro x hx y c
  rcases br.mp hx with hx|hx
  .exact m.la x hx y (by rw[e];exact gc _ c)
  .exact g.2.2 x hx y c
 .intro x hx y c
  rcases br.mp hx with hx|hx
  .exact m.lb x hx y c
  .exact h x hx y c
theorem MI.nW{a b out:List Keyed}{f d:Nat}(m:MI G r a b out f d)(k:Nat)(sb:b.Pairwise (Le r))(h:∀x∈(b.drop d).take k,∀y∈a.drop f,Le r x y):
  MI G r a b (out++(b.drop d).take k) f (d+k):=by
 have e:=pX b d k;have g:(b.drop d).Pairwise (Le r):=sb.sublist (iQ _ _);rw[e,cZ] at g;refine⟨?_,?_,?_,?_⟩
 .rw[take_add,<-bJ]
  exact jo _ m.pm
 .exact cZ.mpr ⟨m.so,g.1,λx hx y c=>m.lb x hx y (by rw[e];exact jP _ c)⟩
 .intro x hx y c
  rcases br.mp hx with hx|hx
  .exact m.la x hx y c
  .exact h x hx y c
 .intro x hx y c
  rcases br.mp hx with hx|hx
  .exact m.lb x hx y (by rw[e];exact gc _ c)
  .exact g.2.2 x hx y c
abbrev Mg(r:Keyed->Keyed->Bool)(a b out:List Keyed):Prop:=out.Perm (a++b)/\out.Pairwise (Le r)
theorem MI.JH{a b out:List Keyed}{d c:Nat}(m:MI G r a b out d c)(sa:a.Pairwise (Le r))(e:b.length<=c):Mg r a b (out++a.drop d++b.drop c):=by
 rw[kX e,iN];refine⟨?_,cZ.mpr ⟨m.so,sa.sublist (iQ _ _),λx f y g=>m.la x f y g⟩⟩;have:=m.pm;rw[iI e] at this;refine(jo _ this).trans ?_;rw[bJ];refine(iM _ kM).trans ?_;rw[<-bJ,fk]
theorem MI.JG{a b out:List Keyed}{c d:Nat}(m:MI G r a b out c d)(sb:b.Pairwise (Le r))(e:a.length<=c):Mg r a b (out++a.drop c++b.drop d):=by
 rw[kX e,iN];refine⟨?_,cZ.mpr ⟨m.so,sb.sublist (iQ _ _),λx f y g=>m.lb x f y g⟩⟩;have:=m.pm;rw[iI e] at this;refine(jo _ this).trans ?_;rw[bJ,fk]
theorem MI.MU{a b out:List Keyed}{c d:Nat}(m:MI G r a b out c d)(sa:a.Pairwise (Le r))(sb:b.Pairwise (Le r))(h:∀x∈b.drop d,∀y∈a.drop c,Le r x y):Mg r a b (out++b.drop d++a.drop c):=by
 refine⟨?_,?_⟩
 .rw[bJ]
  refine(Perm.append m.pm kM).trans ?_;rw[bJ];have e:(a++b).Perm ((a.take c++a.drop c)++(b.take d++b.drop d)):=by rw[fk,fk]
  refine Perm.trans ?_ e.symm;rw[bJ];refine iM _ ?_;rw[<-bJ,<-bJ];exact jo _ kM
 .rw[bJ]
  refine cZ.mpr ⟨m.so,cZ.mpr ⟨sb.sublist (iQ _ _),sa.sublist (iQ _ _),h⟩,?_⟩;intro x f y hy;rcases br.mp hy with hy|hy
  .exact m.lb x f y hy
  .exact m.la x f y hy
end
abbrev mS:=Option (Array Keyed)×Array Keyed×Nat×Nat×Nat×Nat
abbrev g_:=Option (Array Keyed)×Array Keyed×Nat×Nat×Nat×Nat×Nat
abbrev SM:=StateT SortSt Sem
abbrev ir(a b out:Array Keyed)(ia ib:Nat):Array Keyed:=out++a.extract ia a.size++b.extract ib b.size
abbrev nF(a b out:Array Keyed)(ia ib:Nat):Array Keyed:=out++b.extract ib b.size++a.extract ia a.size
def qO(a b:Array Keyed)(mg:Nat)(c:mS):SM (ForInStep mS):=do
 let y <-elem' b c.2.2.2.1
 let x <-elem' a c.2.2.1
 match <-lt' y x with
 |some w=>
  if w then
   let e <-elem' b c.2.2.2.1
   if c.2.2.2.1+1==b.size then pure (.done (some (ir a b (c.2.1.push e) c.2.2.1 (c.2.2.2.1+1)),c.2.1.push e,c.2.2.1,c.2.2.2.1+1,0,c.2.2.2.2.2+1))
   else if c.2.2.2.2.2+1≥mg then pure (.done (none,c.2.1.push e,c.2.2.1,c.2.2.2.1+1,0,c.2.2.2.2.2+1))
   else pure (.yield (none,c.2.1.push e,c.2.2.1,c.2.2.2.1+1,0,c.2.2.2.2.2+1))
  else
   let e <-elem' a c.2.2.1
   if c.2.2.1+1+1==a.size then pure (.done (some (nF a b (c.2.1.push e) (c.2.2.1+1) c.2.2.2.1),c.2.1.push e,c.2.2.1+1,c.2.2.2.1,c.2.2.2.2.1+1,0))
   else if c.2.2.2.2.1+1≥mg then pure (.done (none,c.2.1.push e,c.2.2.1+1,c.2.2.2.1,c.2.2.2.2.1+1,0))
   else pure (.yield (none,c.2.1.push e,c.2.2.1+1,c.2.2.2.1,c.2.2.2.2.1+1,0))
 |_=>pure (.done (some (ir a b c.2.1 c.2.2.1 c.2.2.2.1),c.2.1,c.2.2.1,c.2.2.2.1,c.2.2.2.2.1,c.2.2.2.2.2))
def g3(a b out:Array Keyed)(ia ib mg k k1:Nat):SM (ForInStep g_):=do
 let e <-elem' a ia
 if ia+1+1==a.size then pure (.done (some (nF a b (out.push e) (ia+1) ib),out.push e,ia+1,ib,mg,k,k1))
 else if decide (k<7)&&decide (k1<7) then pure (.done (none,out.push e,ia+1,ib,mg,k,k1))
 else pure (.yield (none,out.push e,ia+1,ib,mg,k,k1))
def g2(a b out:Array Keyed)(ia ib mg k bc:Nat):SM (ForInStep g_):=do
 let e <-elem' b ib
 if ib+1==b.size then pure (.done (some (ir a b (out.push e) ia (ib+1)),out.push e,ia,ib+1,mg,k,bc))
 else do
  let x <-elem' a ia
  match <-fU true x b (ib+1) (b.size - (ib+1)) 0 with
  |some k1=>
   if k1>0 then
    if ib+1+k1==b.size then pure (.done (some (ir a b (out.push e++b.extract (ib+1) (ib+1+k1)) ia (ib+1+k1)),out.push e++b.extract (ib+1) (ib+1+k1),ia,ib+1+k1,mg,k,k1))
    else g3 a b (out.push e++b.extract (ib+1) (ib+1+k1)) ia (ib+1+k1) mg k k1
   else g3 a b (out.push e) ia (ib+1) mg k k1
  |_=>pure (.done (some (ir a b (out.push e) ia (ib+1)),out.push e,ia,ib+1,mg,k,bc))
def g1(a b out:Array Keyed)(ia ib mg ac bc:Nat):SM (ForInStep g_):=do
 modify (λs=>bB s mg)
 let y <-elem' b ib
 match <-fU false y a ia (a.size - ia) 0 with
 |some k=>
  if k>0 then
   if ia+k+1==a.size then pure (.done (some (nF a b (out++a.extract ia (ia+k)) (ia+k) ib),out++a.extract ia (ia+k),ia+k,ib,mg,k,bc))
   else if ia+k==a.size then pure (.done (some (ir a b (out++a.extract ia (ia+k)) (ia+k) ib),out++a.extract ia (ia+k),ia+k,ib,mg,k,bc))
   else g2 a b (out++a.extract ia (ia+k)) (ia+k) ib mg k bc
  else g2 a b out ia ib mg k bc
 |_=>pure (.done (some (ir a b out ia ib),out,ia,ib,mg,ac,bc))
def qP(a b:Array Keyed)(c:g_):SM (ForInStep g_):=
 if c.2.2.2.2.1>1 then g1 a b c.2.1 c.2.2.1 c.2.2.2.1 (c.2.2.2.2.1 - 1) c.2.2.2.2.2.1 c.2.2.2.2.2.2 else g1 a b c.2.1 c.2.2.1 c.2.2.2.1 c.2.2.2.2.1 c.2.2.2.2.2.1 c.2.2.2.2.2.2
abbrev k9:=Option (Array Keyed)×Array Keyed×Nat×Nat×Nat
def turn(a b:Array Keyed)(c:k9):SM (ForInStep k9):=do
 let c1 <-forIn [0:a.size+b.size] ((none,c.2.1,c.2.2.1,c.2.2.2.1,0,0):mS) λ_ c1=>qO a b c.2.2.2.2 c1
 match c1.1 with
 |some r=>pure (.done (some r,c1.2.1,c1.2.2.1,c1.2.2.2.1,c.2.2.2.2))
 |none=>do
  rule "list.sort.gallop"
  let c2 <-forIn [0:a.size+b.size] ((none,c1.2.1,c1.2.2.1,c1.2.2.2.1,c.2.2.2.2+1,c1.2.2.2.2.1,c1.2.2.2.2.2):g_) λ_ c2=>qP a b c2
  match c2.1 with
  |some r=>pure (.done (some r,c2.2.1,c2.2.2.1,c2.2.2.2.1,c2.2.2.2.2.1))
  |none=>do
   modify (λs=>bB s (c2.2.2.2.2.1+1))
   pure (.yield (none,c2.2.1,c2.2.2.1,c2.2.2.2.1,c2.2.2.2.2.1+1))
theorem NG(a b:Array Keyed):qg a b=(do
 rule "list.sort.merge-lo"
 let e <-elem' b 0
 if 1==b.size then pure (ir a b #[e] 0 1)
 else if 0+1==a.size then pure (nF a b #[e] 0 1)
 else do
  let st <-get
  let c <-forIn [0:a.size+b.size] ((none,#[e],0,1,gallopOf st):k9) λ_ c=>turn a b c
  match c.1 with
  |some r=>pure r
  |none=>unsupported "internal:list.sort.merge-bound"):=by
 rw[NF]
 dsimp only[turn,qO,qP,g1,g2,g3,ir,nF]
 congr 1;funext _;congr 1;funext e;congr 1;congr 1;congr 1;funext st;congr 1;congr 1;funext x c;congr 1;funext d;congr 1;
 .cases d.fst with
  |some r=>rfl
  |none=>
   dsimp only
   congr 1;funext _;congr 1
   funext x
   cases x.fst with
   |some r=>rfl
   |none=>rfl
 .funext c
  cases c.fst with
  |some r=>rfl
  |none=>rfl
section
variable{M:Model}{A:Around}{E:aA}{s:Shared}{C:SortKind}{G:Keyed->Prop}{r:Keyed->Keyed->Bool}
abbrev seg(arr:Array Keyed)(base n:Nat):List Keyed:=(arr.toList.drop base).take n
abbrev wJ(r:Keyed->Keyed->Bool)(left:Bool)(key x:Keyed):Bool:=if left then r x key else !r key x
theorem nT{arr:Array Keyed}{base n i:Nat}(hi:i<n):(seg arr base n)[i]?=arr.toList[base+i]? :=by
 rw[List.getElem?_take,aj hi,List.getElem?_drop]
theorem nk(cp:Cp M A E s C G r){left:Bool}{key:Keyed}{arr:Array Keyed}{base n hint:Nat}{st:SortSt}{Q:Option Nat->SortSt->Prop}(hk:kindOf st=C)(f:G key)
  (hn:base+n<=arr.size)(v:hint<n)(ga:∀x∈seg arr base n,G x)(sa:(seg arr base n).Pairwise (Le r))
  (h:∀k,k<=n->(∀x∈(seg arr base n).take k,wJ r left key x=true)->(∀x∈(seg arr base n).drop k,wJ r left key x=false)->Q (some k) st):
  wpS M A E s (fU left key arr base n hint) Q st:=by
 have D:(seg arr base n).length=n:=by
  rw[gV,iE,bE];omega
 have get:∀i,i<n->∃x,arr.toList[base+i]? =some x/\x∈seg arr base n:=λi hi=>by
  have:i<(seg arr base n).length:=by omega
  refine⟨(seg arr base n)[i],?_,cz this⟩
  rw[<-nT hi,aV this]
 refine Lu (C:=C) (b:=λi=>match arr.toList[base+i]? with|some x=>wJ r left key x|none=>false) hk v ?_ ?_ ?_
 .intro i hi Q o
  obtain⟨x,e,a⟩:=get i hi
  rw[e] at o
  have c:base+i<arr.size:=by omega
  have ex:arr.toList[base+i]=x:=by
   have:=aV (l:=arr.toList) (i:=base+i) (by simpa using c)
   rw[this] at e
   exact Option.some.inj e
  unfold mV
  refine aD (dD c ?_)
  rw[ex]
  cases left with
  |true=>exact cp.lt (ga x a) f hk o
  |false=>
   refine aD (cp.lt f (ga x a) hk ?_)
   exact aI o
 .intro i j w t g
  obtain⟨x,e,a⟩:=get i (by omega)
  obtain⟨y,m,u⟩:=get j t
  rw[m] at g
  rw[e]
  have xy:x=y\/Le r x y:=by
   rcases f_ i j with h'|h'
   .right
    have h1:=nT (arr:=arr) (base:=base) (n:=n) (i:=i) (by omega)
    have h2:=nT (arr:=arr) (base:=base) (n:=n) (i:=j) t
    rw[e] at h1;rw[m] at h2
    obtain⟨a1,a2⟩:=bL.mp h1
    obtain⟨z,B⟩:=bL.mp h2
    rw[<-a2,<-B]
    exact jS.mp sa i j a1 z h'
   .left
    have:i=j:=by omega
    subst this
    rw[e] at m;exact Option.some.inj m
  rcases xy with rfl|xy
  .exact g
  .cases left with
   |true=>
    show r x key=true
    cases ex:r x key with
    |true=>rfl
    |false=>
     have:r y key=false:=cp.tr f (ga x a) (ga y u) ex xy
     rw[show r y key=true from g] at this;cases this
   |false=>
    show(!r key x)=true
    have:r key y=false:=by simpa using g
    rw[cp.tr (ga x a) (ga y u) f xy this];rfl
 .intro k p h1 h2
  refine h k p (λx a=> ?_) (λx a=> ?_)
  .obtain⟨i,hi,e⟩:=List.mem_take_iff_getElem.mp a
   have q:i<k:=by omega
   have:=h1 i q
   have d:=nT (arr:=arr) (base:=base) (n:=n) (i:=i) (by omega)
   rw[aV (by omega),e] at d
   rw[<-d] at this
   exact this
  .obtain⟨i,hi,e⟩:=List.mem_drop_iff_getElem.mp a
   have:=h2 (k+i) (by omega) (by omega)
   have d:=nT (arr:=arr) (base:=base) (n:=n) (i:=k+i) (by omega)
   rw[aV (by omega),e] at d
   rw[<-d] at this
   exact this
end
section
variable{M:Model}{A:Around}{E:aA}{s:Shared}{C:SortKind}{G:Keyed->Prop}{r:Keyed->Keyed->Bool}{a b:Array Keyed}
structure MC(G:Keyed->Prop)(r:Keyed->Keyed->Bool)(a b:Array Keyed):Prop where
 ga:∀x∈a.toList,G x
 gb:∀x∈b.toList,G x
 sa:a.toList.Pairwise (Le r)
 sb:b.toList.Pairwise (Le r)
 la:∀x∈b.toList,∀y∈a.toList.drop (a.size - 1),Le r x y
theorem ng(a:Array Keyed)(i:Nat):(a.extract i a.size).toList=a.toList.drop i:=by
 rw[rm,vJ];exact iI (by rw[iE,bE];exact aH _)
theorem xD(a:Array Keyed)(i k:Nat):(a.extract i (i+k)).toList=(a.toList.drop i).take k:=by
 rw[rm,vJ,rF]
theorem take1{a:Array Keyed}{i:Nat}(h:i<a.size):(a.toList.drop i).take 1=[a.toList[i]'h]:=by
 rw[List.take_one,List.head?_drop,aV (by simpa using h)];rfl
theorem Nu{a:Array Keyed}{i:Nat}(h:i<a.size):a.toList[i]'h∈a.toList.drop i:=
 dQ (i:=1) (by rw[take1 h];exact bK.mpr rfl)
theorem CJ{a:Array Keyed}{i:Nat}(h:i<a.size)(sa:a.toList.Pairwise (Le r)){x:Keyed}(hx:x∈a.toList.drop i):x=a.toList[i]'h\/Le r (a.toList[i]'h) x:=by
 have e:=pX a.toList i 1;rw[take1 h] at e;have b:(a.toList.drop i).Pairwise (Le r):=sa.sublist (iQ _ _);rw[e] at hx b;rcases br.mp hx with hx|hx
 .exact .inl (bK.mp hx)
 .exact .inr ((cZ.mp b).2.2 _ (bK.mpr rfl) x hx)
variable(cp:Cp M A E s C G r)(mc:MC G r a b)
abbrev Fin(r:Keyed->Keyed->Bool)(a b o:Array Keyed):Prop:=Mg r a.toList b.toList o.toList
abbrev MJ(G:Keyed->Prop)(r:Keyed->Keyed->Bool)(a b o:Array Keyed)(ia ib:Nat):Prop:=MI G r a.toList b.toList o.toList ia ib
include mc
theorem sI{out:Array Keyed}{d c:Nat}(m:MJ G r a b out d c)(h:c=b.size):Fin r a b (ir a b out d c):=by
 show Mg r a.toList b.toList _;rw[eT,eT,ng,ng];exact m.JH mc.sa (by rw[h,bE];exact aH _)
theorem JF{out:Array Keyed}{c d:Nat}(m:MJ G r a b out c d)(h:c=a.size):Fin r a b (ir a b out c d):=by
 show Mg r a.toList b.toList _;rw[eT,eT,ng,ng];exact m.JG mc.sb (by rw[h,bE];exact aH _)
theorem tH{out:Array Keyed}{c d:Nat}(m:MJ G r a b out c d)(h:c+1=a.size):Fin r a b (nF a b out c d):=by
 show Mg r a.toList b.toList _;rw[eT,eT,ng,ng];exact m.MU mc.sa mc.sb (λx e y f=>mc.la x (eF e) y (by rw[<-h,add_sub_cancel];exact f))
theorem S4{out:Array Keyed}{c d:Nat}(m:MJ G r a b out c d)(k:Nat)(h:∀x∈(a.toList.drop c).take k,∀y∈b.toList.drop d,Le r x y):MJ G r a b (out++a.extract c (c+k)) (c+k) d:=by
 show MI G r a.toList b.toList _ _ _;rw[eT,xD];exact m.qS k mc.sa h
theorem tkB{out:Array Keyed}{d c:Nat}(m:MJ G r a b out d c)(k:Nat)(h:∀x∈(b.toList.drop c).take k,∀y∈a.toList.drop d,Le r x y):MJ G r a b (out++b.extract c (c+k)) d (c+k):=by
 show MI G r a.toList b.toList _ _ _;rw[eT,xD];exact m.nW k mc.sb h
theorem pA{out:Array Keyed}{c d:Nat}(m:MJ G r a b out c d)(hi:c<a.size)(h:∀y∈b.toList.drop d,Le r (a.toList[c]'hi) y):MJ G r a b (out.push (a.toList[c]'hi)) (c+1) d:=by
 have:=m.qS 1 mc.sa (λx e y f=>by rw[take1 hi] at e;rw[bK.mp e];exact h y f);show MI G r a.toList b.toList _ _ _;rw[kQ,<-take1 hi];exact this
theorem pB{out:Array Keyed}{d c:Nat}(m:MJ G r a b out d c)(hi:c<b.size)(h:∀y∈a.toList.drop d,Le r (b.toList[c]'hi) y):MJ G r a b (out.push (b.toList[c]'hi)) d (c+1):=by
 have:=m.nW 1 mc.sb (λx e y f=>by rw[take1 hi] at e;rw[bK.mp e];exact h y f);show MI G r a.toList b.toList _ _ _;rw[kQ,<-take1 hi];exact this
include cp
theorem Df{x:Keyed}{b:Nat}(d:G x)(hi:b<a.size)(h:Le r x (a.toList[b]'hi)):∀y∈a.toList.drop b,Le r x y:=λy c=>by
 rcases CJ hi mc.sa c with rfl|h'
 .exact h
 .exact cp.tr d (mc.ga _ (cz _)) (mc.ga y (eF c)) h h'
theorem leB{x:Keyed}{a:Nat}(d:G x)(hi:a<b.size)(h:Le r x (b.toList[a]'hi)):∀y∈b.toList.drop a,Le r x y:=λy c=>by
 rcases CJ hi mc.sb c with rfl|h'
 .exact h
 .exact cp.tr d (mc.gb _ (cz _)) (mc.gb y (eF c)) h h'
theorem R6{out:Array Keyed}{j k ac x mg:Nat}{st:SortSt}{R:ForInStep mS->SortSt->Prop}(hk:kindOf st=C)(m:MJ G r a b out j k)(h1:j+1<a.size)(h2:k<b.size)
  (f:∀o c,Fin r a b o->R (.done (some o,c)) st)
  (go:∀g h i q t,MJ G r a b g h i->h+1<a.size->i<b.size->j+k<h+i->R (.done (none,g,h,i,q,t)) st/\R (.yield (none,g,h,i,q,t)) st):
  wpS M A E s (qO a b mg (none,out,j,k,ac,x)) R st:=by
 have d:j<a.size:=by omega
 have v:=mc.ga _ (cz (l:=a.toList) (n:=j) d)
 have w:=mc.gb _ (cz (l:=b.toList) (n:=k) h2)
 unfold qO
 dsimp only
 refine aD (dD h2 (aD (dD d (aD (cp.lt w v hk ?_)))))
 dsimp only
 cases e:r (b.toList[k]'h2) (a.toList[j]'d) with
 |true=>
  rw[aj rfl]
  refine aD (dD h2 ?_)
  have u:=pB mc m h2 (Df cp mc w d (cp.as w v e))
  by_cases p:k+1=b.size
  .rw[aj (by simpa using p)]
   exact aI (f _ _ (sI mc u p))
  .rw[ai (by simpa using p)]
   have:=go _ _ _ 0 (x+1) u h1 (by omega) (by omega)
   split
   .exact aI this.1
   .exact aI this.2
 |false=>
  rw[ai (by simp)]
  refine aD (dD d ?_)
  have u:=pA mc m d (leB cp mc v h2 e)
  by_cases p:j+1+1=a.size
  .rw[aj (by simpa using p)]
   exact aI (f _ _ (tH mc u p))
  .rw[ai (by simpa using p)]
   have:=go _ _ _ (ac+1) 0 u (by omega) h2 (by omega)
   split
   .exact aI this.1
   .exact aI this.2
theorem Cr{out:Array Keyed}{h j mg k k1:Nat}{st:SortSt}{R:ForInStep g_->SortSt->Prop}(m:MJ G r a b out h j)(h1:h+1<a.size)(h2:j<b.size)(i:h<a.size)(u:∀y∈b.toList.drop j,Le r (a.toList[h]'i) y)
  (f:∀o c,Fin r a b o->R (.done (some o,c)) st)
  (go:∀d e g l n p,MJ G r a b d e g->e+1<a.size->g<b.size->h+j<e+g->R (.done (none,d,e,g,l,n,p)) st/\R (.yield (none,d,e,g,l,n,p)) st):
  wpS M A E s (g3 a b out h j mg k k1) R st:=by
 unfold g3
 refine aD (dD i ?_)
 have t:=pA mc m i u
 by_cases q:h+1+1=a.size
 .rw[aj (by simpa using q)]
  exact aI (f _ _ (tH mc t q))
 .rw[ai (by simpa using q)]
  have:=go _ _ _ mg k k1 t (by omega) h2 (by omega)
  split
  .exact aI this.1
  .exact aI this.2
theorem Cq{out:Array Keyed}{u t mg k S:Nat}{st:SortSt}{R:ForInStep g_->SortSt->Prop}(hk:kindOf st=C)(m:MJ G r a b out u t)(h1:u+1<a.size)(h2:t<b.size)(v:∀y∈a.toList.drop u,Le r (b.toList[t]'h2) y)
  (f:∀o c,Fin r a b o->R (.done (some o,c)) st)
  (go:∀e h p w z B,MJ G r a b e h p->h+1<a.size->p<b.size->u+t<h+p->R (.done (none,e,h,p,w,z,B)) st/\R (.yield (none,e,h,p,w,z,B)) st):
  wpS M A E s (g2 a b out u t mg k S) R st:=by
 have q:u<a.size:=by omega
 have O:=mc.ga _ (cz (l:=a.toList) (n:=u) q)
 unfold g2
 refine aD (dD h2 ?_)
 have F:=pB mc m h2 v
 by_cases H:t+1=b.size
 .rw[aj (by simpa using H)]
  exact aI (f _ _ (sI mc F H))
 .rw[ai (by simpa using H)]
  refine aD (dD q ?_)
  have es:seg b (t+1) (b.size - (t+1))=b.toList.drop (t+1):=iI (by rw[iE,bE];exact aH _)
  refine aD (nk cp hk O (by omega) (by omega) (by rw[es];exact λx v=>mc.gb x (eF v)) (by rw[es];exact mc.sb.sublist (iQ _ _)) ?_)
  rw[es]
  intro k1 T t1 I
  rw[oK] at I
  dsimp only
  have P:=tkB mc F k1 (λx v y D=>Df cp mc (mc.gb x (eF (dQ v))) q (cp.as (mc.gb x (eF (dQ v))) O (t1 x v)) y D)
  by_cases Q:k1>0
  .rw[aj Q]
   by_cases J:t+1+k1=b.size
   .rw[aj (by simpa using J)]
    exact aI (f _ _ (sI mc P J))
   .rw[ai (by simpa using J)]
    exact Cr cp mc P h1 (by omega) q (λy D=>I y D) f (λo i j g c d K L N U=>go o i j g c d K L N (by omega))
  .rw[ai Q]
   have:k1=0:=by omega
   subst this
   exact Cr cp mc F h1 (by omega) q (λy D=>I y D) f (λo i j g c d K L N U=>go o i j g c d K L N (by omega))
theorem Co{out:Array Keyed}{e t mg ac L:Nat}{st:SortSt}{R:ForInStep g_->SortSt->Prop}(hk:kindOf st=C)(m:MJ G r a b out e t)(h1:e+1<a.size)(h2:t<b.size)
  (f:∀o c,Fin r a b o->R (.done (some o,c)) (bB st mg))
  (go:∀h p q u v w,MJ G r a b h p q->p+1<a.size->q<b.size->e+t<p+q->R (.done (none,h,p,q,u,v,w)) (bB st mg)/\R (.yield (none,h,p,q,u,v,w)) (bB st mg)):
  wpS M A E s (g1 a b out e t mg ac L) R st:=by
 have N:e<a.size:=by omega
 have I:=mc.gb _ (cz (l:=b.toList) (n:=t) h2)
 unfold g1
 refine aD (gE (aD (dD h2 ?_)))
 have es:seg a e (a.size - e)=a.toList.drop e:=iI (by rw[iE,bE];exact aH _)
 refine aD (nk cp hk I (by omega) (by omega) (by rw[es];exact λx z=>mc.ga x (eF z)) (by rw[es];exact mc.sa.sublist (iQ _ _)) ?_)
 rw[es]
 intro k O t1 J
 rw[oK] at J
 dsimp only
 have D:=S4 mc m k (λx z y B=>leB cp mc (mc.ga x (eF (dQ z))) h2 (by have:=t1 x z;simpa using this) y B)
 have t3:∀y∈a.toList.drop (e+k),Le r (b.toList[t]'h2) y:=λy B=>cp.as I (mc.ga y (eF B)) (by have:=J y B;simpa using this)
 by_cases K:k>0
 .rw[aj K]
  by_cases F:e+k+1=a.size
  .rw[aj (by simpa using F)]
   exact aI (f _ _ (tH mc D F))
  .rw[ai (by simpa using F)]
   by_cases H:e+k=a.size
   .rw[aj (by simpa using H)]
    exact aI (f _ _ (JF mc D H))
   .rw[ai (by simpa using H)]
    exact Cq cp mc hk D (by omega) h2 t3 f (λo i j g c d P Q S T=>go o i j g c d P Q S (by omega))
 .rw[ai K]
  have:k=0:=by omega
  subst this
  exact Cq cp mc hk m h1 h2 t3 f go
theorem R7{out:Array Keyed}{t u mg ac z:Nat}{st:SortSt}{R:ForInStep g_->SortSt->Prop}(hk:kindOf st=C)(m:MJ G r a b out t u)(h1:t+1<a.size)(h2:u<b.size)
  (f:∀o c g,Fin r a b o->R (.done (some o,c)) (bB st g))
  (go:∀e h k l n p g,MJ G r a b e h k->h+1<a.size->k<b.size->t+u<h+k->R (.done (none,e,h,k,l,n,p)) (bB st g)/\R (.yield (none,e,h,k,l,n,p)) (bB st g)):
  wpS M A E s (qP a b (none,out,t,u,mg,ac,z)) R st:=by
 unfold qP
 dsimp only
 split
 .exact Co cp mc hk m h1 h2 (λo c q=>f o c _ q) (λo i j g c d v w x y=>go o i j g c d _ v w x y)
 .exact Co cp mc hk m h1 h2 (λo c q=>f o c _ q) (λo i j g c d v w x y=>go o i j g c d _ v w x y)
end
def zw(a b:Array Keyed)(qh:Nat)(c1:mS):SM (ForInStep k9):=
 match c1.1 with
 |some r=>pure (.done (some r,c1.2.1,c1.2.2.1,c1.2.2.2.1,qh))
 |none=>do
  rule "list.sort.gallop"
  let c2 <-forIn [0:a.size+b.size] ((none,c1.2.1,c1.2.2.1,c1.2.2.2.1,qh+1,c1.2.2.2.2.1,c1.2.2.2.2.2):g_) λ_ c2=>qP a b c2
  match c2.1 with
  |some r=>pure (.done (some r,c2.2.1,c2.2.2.1,c2.2.2.2.1,c2.2.2.2.2.1))
  |none=>do
   modify (λs=>bB s (c2.2.2.2.2.1+1))
   pure (.yield (none,c2.2.1,c2.2.2.1,c2.2.2.2.1,c2.2.2.2.2.1+1))
theorem Tc(a b:Array Keyed)(c:k9):turn a b c=(do
 let d <-forIn [0:a.size+b.size] ((none,c.2.1,c.2.2.1,c.2.2.2.1,0,0):mS) λ_ d=>qO a b c.2.2.2.2 d
 zw a b c.2.2.2.2 d):=rfl
section
variable{M:Model}{A:Around}{E:aA}{s:Shared}{C:SortKind}{G:Keyed->Prop}{r:Keyed->Keyed->Bool}{a b:Array Keyed}
variable(cp:Cp M A E s C G r)(mc:MC G r a b)
include cp mc
theorem Gi{out:Array Keyed}{n p mg u v:Nat}{st:SortSt}{R:ForInStep k9->SortSt->Prop}(hk:kindOf st=C)(m:MJ G r a b out n p)(h1:n+1<a.size)(h2:p<b.size)
  (f:∀o c g,Fin r a b o->R (.done (some o,c)) (bB st g))
  (go:∀h d e k g,MJ G r a b h d e->d+1<a.size->e<b.size->n+p<d+e->R (.yield (none,h,d,e,k)) (bB st g)):
  wpS M A E s (zw a b mg (none,out,n,p,u,v)) R st:=by
 unfold zw
 dsimp only
 refine aD (nY ?_)
 refine aD (fJ (I:=λx c l=>∃g,l=bB st g/\∃o i j q u v,c=(none,o,i,j,q,u,v)/\MJ G r a b o i j/\i+1<a.size/\j<b.size/\n+p+x<=i+j) ?_ ?_ ⟨gallopOf st,rfl,out,n,p,_,_,_,rfl,m,h1,h2,by omega⟩)
 .rintro x c l _ J ⟨g,rfl,o,i,j,q,u,v,rfl,n1,n2,n3,n4⟩
  refine R7 cp mc hk n1 n2 n3 ?_ ?_
  .intro o' c g' z
   dsimp only
   exact aI (f _ _ _ z)
  .intro o' B D k F H g' t w y K
   refine⟨?_,⟨g',rfl,o',B,D,k,F,H,rfl,t,w,y,by omega⟩⟩
   dsimp only
   refine aD (gE (aI ?_))
   exact go _ _ _ _ _ t w y (by omega)
 .rintro c l ⟨g,rfl,o,i,j,q,u,v,rfl,n1,n2,n3,n4⟩
  dsimp only
  refine aD (gE (aI ?_))
  exact go _ _ _ _ _ n1 n2 n3 (by omega)
theorem Te{out:Array Keyed}{l n mg:Nat}{st:SortSt}{R:ForInStep k9->SortSt->Prop}(hk:kindOf st=C)(m:MJ G r a b out l n)(h1:l+1<a.size)(h2:n<b.size)
  (f:∀o c g,Fin r a b o->R (.done (some o,c)) (bB st g))
  (go:∀h d e q g,MJ G r a b h d e->d+1<a.size->e<b.size->l+n<d+e->R (.yield (none,h,d,e,q)) (bB st g)):
  wpS M A E s (turn a b (none,out,l,n,mg)) R st:=by
 rw[Tc]
 dsimp only
 refine aD (fJ (I:=λx c k=>∃g,k=bB st g/\∃o i j u v,c=(none,o,i,j,u,v)/\MJ G r a b o i j/\i+1<a.size/\j<b.size/\l+n+x<=i+j) ?_ ?_ ⟨gallopOf st,rfl,out,l,n,0,0,rfl,m,h1,h2,by omega⟩)
 .rintro x c k _ K ⟨g,rfl,o,i,j,u,v,rfl,n1,n2,n3,n4⟩
  refine R6 cp mc hk n1 n2 n3 ?_ ?_
  .intro o' c p
   exact aI (f _ _ _ p)
  .intro o' B D F H w y z L
   refine⟨?_,⟨g,rfl,o',B,D,F,H,rfl,w,y,z,by omega⟩⟩
   exact Gi cp mc hk w y z (λo c g p=>f o c g p) (λo i j m g a1 a2 t J=>go o i j m g a1 a2 t (by omega))
 .rintro c k ⟨g,rfl,o,i,j,u,v,rfl,n1,n2,n3,n4⟩
  exact Gi cp mc hk n1 n2 n3 (λo c g p=>f o c g p) (λo i j m g a1 a2 t J=>go o i j m g a1 a2 t (by omega))
theorem NH{st:SortSt}{Q:Array Keyed->SortSt->Prop}(hk:kindOf st=C)(na:0<a.size)(nb:0<b.size)(h1:∀y∈b.toList.take 1,∀x∈a.toList,Le r y x)
  (h:∀out g,Fin r a b out->Q out (bB st g)):wpS M A E s (qg a b) Q st:=by
 rw[NG];refine aD (nY ?_);refine aD (dD nb ?_);have m0:MJ G r a b #[b.toList[0]'nb] 0 1:=by
  have m:MI G r a.toList b.toList [] 0 0:=⟨by simp,Pairwise.nil,λx e=>by simp at e,λx e=>by simp at e⟩;have:=m.nW 1 mc.sb (λx e y n=>h1 x (by simpa using e) y (by simpa using n));rw[take1 nb] at this;exact this
 by_cases f:1=b.size
 .rw[aj (by simpa using f)]
  exact aI (h _ (gallopOf st) (sI mc m0 f))
 .rw[ai (by simpa using f)]
  by_cases k:0+1=a.size
  .rw[aj (by simpa using k)]
   exact aI (h _ (gallopOf st) (tH mc m0 k))
  .rw[ai (by simpa using k)]
   refine aD (jm ?_);refine aD (fJ (I:=λx c d=>∃g,d=bB st g/\∃o i j q,c=(none,o,i,j,q)/\MJ G r a b o i j/\i+1<a.size/\j<b.size/\x+1<=i+j) ?_ ?_ ⟨gallopOf st,rfl,_,0,1,_,rfl,m0,by omega,by omega,by omega⟩)
   .rintro x c d _ e ⟨g,rfl,o,i,j,q,rfl,n1,n2,n3,n4⟩
    refine Te cp mc hk n1 n2 n3 ?_ ?_
    .intro o' c g' p
     exact aI (h _ _ p)
    .intro o' t u l g' v w z B
     exact⟨g',rfl,o',t,u,l,rfl,v,w,z,by omega⟩
   .rintro c d ⟨g,rfl,o,i,j,q,rfl,n1,n2,n3,n4⟩
    exfalso;omega
end
theorem Nz(a b:Array Keyed):qf a b=(do
 rule "list.sort.merge-hi"
 let total:=a.size+b.size
 let done (out:Array Keyed) (na nb:Nat):=a.extract 0 na++b.extract 0 nb++out.reverse
 let c (out:Array Keyed) (na nb:Nat):=b.extract 0 nb++a.extract 0 na++out.reverse
 let mut na:=a.size - 1
 let mut nb:=b.size
 let mut out:Array Keyed:= #[<-elem' a na]
 if na==0 then return done out na nb
 if nb==1 then return c out na nb
 let mut minGallop:=gallopOf (<-get)
 for _ in [0:total] do
  let mut d:=0
  let mut e:=0
  for _ in [0:total] do
   let some f <-lt' (<-elem' b (nb - 1)) (<-elem' a (na - 1))|return done out na nb
   if f then
    na:=na - 1;out:=out.push (<-elem' a na);d:=d+1;e:=0
    if na==0 then return done out na nb
    if d≥minGallop then break
   else
    nb:=nb - 1;out:=out.push (<-elem' b nb);e:=e+1;d:=0
    if nb==1 then return c out na nb
    if e≥minGallop then break
  rule "list.sort.gallop"
  minGallop:=minGallop+1
  for _ in [0:total] do
   if minGallop>1 then minGallop:=minGallop - 1
   modify (λs=>bB s minGallop)
   let some at_ <-fU false (<-elem' b (nb - 1)) a 0 na (na - 1)|return done out na nb
   let k:=na - at_
   d:=k
   if k>0 then
    out:=out++(a.extract at_ na).reverse;na:=at_
    if na==0 then return done out na nb
   nb:=nb - 1;out:=out.push (<-elem' b nb)
   if nb==1 then return c out na nb
   let some at_ <-fU true (<-elem' a (na - 1)) b 0 nb (nb - 1)|return done out na nb
   let k:=nb - at_
   e:=k
   if k>0 then
    out:=out++(b.extract at_ nb).reverse;nb:=at_
    if nb==1 then return c out na nb
    if nb==0 then return done out na nb
   na:=na - 1;out:=out.push (<-elem' a na)
   if na==0 then return done out na nb
   if d<7&&e<7 then break
  minGallop:=minGallop+1
  modify (λs=>bB s minGallop)
 unsupported "internal:list.sort.merge-bound"):=rfl
abbrev i6(a b out:Array Keyed)(na nb:Nat):Array Keyed:=a.extract 0 na++b.extract 0 nb++out.reverse
abbrev nh(a b out:Array Keyed)(na nb:Nat):Array Keyed:=b.extract 0 nb++a.extract 0 na++out.reverse
abbrev o5:=Option (Array Keyed)×Nat×Nat×Array Keyed×Nat×Nat
abbrev iS:=Option (Array Keyed)×Nat×Nat×Array Keyed×Nat×Nat×Nat
abbrev mP:=Option (Array Keyed)×Nat×Nat×Array Keyed×Nat
def sY(a b:Array Keyed)(mg:Nat)(c:o5):SM (ForInStep o5):=do
 let y <-elem' b (c.2.2.1 - 1)
 let x <-elem' a (c.2.1 - 1)
 match <-lt' y x with
 |some w=>
  if w then
   let e <-elem' a (c.2.1 - 1)
   if c.2.1 - 1==0 then pure (.done (some (i6 a b (c.2.2.2.1.push e) (c.2.1 - 1) c.2.2.1),c.2.1 - 1,c.2.2.1,c.2.2.2.1.push e,c.2.2.2.2.1+1,0))
   else if c.2.2.2.2.1+1≥mg then pure (.done (none,c.2.1 - 1,c.2.2.1,c.2.2.2.1.push e,c.2.2.2.2.1+1,0))
   else pure (.yield (none,c.2.1 - 1,c.2.2.1,c.2.2.2.1.push e,c.2.2.2.2.1+1,0))
  else
   let e <-elem' b (c.2.2.1 - 1)
   if c.2.2.1 - 1==1 then pure (.done (some (nh a b (c.2.2.2.1.push e) c.2.1 (c.2.2.1 - 1)),c.2.1,c.2.2.1 - 1,c.2.2.2.1.push e,0,c.2.2.2.2.2+1))
   else if c.2.2.2.2.2+1≥mg then pure (.done (none,c.2.1,c.2.2.1 - 1,c.2.2.2.1.push e,0,c.2.2.2.2.2+1))
   else pure (.yield (none,c.2.1,c.2.2.1 - 1,c.2.2.2.1.push e,0,c.2.2.2.2.2+1))
 |_=>pure (.done (some (i6 a b c.2.2.2.1 c.2.1 c.2.2.1),c.2.1,c.2.2.1,c.2.2.2.1,c.2.2.2.2.1,c.2.2.2.2.2))
def h3(a b out:Array Keyed)(na nb mg k k1:Nat):SM (ForInStep iS):=do
 let e <-elem' a (na - 1)
 if na - 1==0 then pure (.done (some (i6 a b (out.push e) (na - 1) nb),na - 1,nb,out.push e,mg,k,k1))
 else if decide (k<7)&&decide (k1<7) then pure (.done (none,na - 1,nb,out.push e,mg,k,k1))
 else pure (.yield (none,na - 1,nb,out.push e,mg,k,k1))
def h2(a b out:Array Keyed)(na nb mg k bc:Nat):SM (ForInStep iS):=do
 let e <-elem' b (nb - 1)
 if nb - 1==1 then pure (.done (some (nh a b (out.push e) na (nb - 1)),na,nb - 1,out.push e,mg,k,bc))
 else do
  let x <-elem' a (na - 1)
  match <-fU true x b 0 (nb - 1) (nb - 1 - 1) with
  |some at_=>
   if nb - 1 - at_>0 then
    if at_==1 then pure (.done (some (nh a b (out.push e++(b.extract at_ (nb - 1)).reverse) na at_),na,at_,out.push e++(b.extract at_ (nb - 1)).reverse,mg,k,nb - 1 - at_))
    else if at_==0 then pure (.done (some (i6 a b (out.push e++(b.extract at_ (nb - 1)).reverse) na at_),na,at_,out.push e++(b.extract at_ (nb - 1)).reverse,mg,k,nb - 1 - at_))
    else h3 a b (out.push e++(b.extract at_ (nb - 1)).reverse) na at_ mg k (nb - 1 - at_)
   else h3 a b (out.push e) na (nb - 1) mg k (nb - 1 - at_)
  |_=>pure (.done (some (i6 a b (out.push e) na (nb - 1)),na,nb - 1,out.push e,mg,k,bc))
def h1(a b out:Array Keyed)(na nb mg ac bc:Nat):SM (ForInStep iS):=do
 modify (λs=>bB s mg)
 let y <-elem' b (nb - 1)
 match <-fU false y a 0 na (na - 1) with
 |some at_=>
  if na - at_>0 then
   if at_==0 then pure (.done (some (i6 a b (out++(a.extract at_ na).reverse) at_ nb),at_,nb,out++(a.extract at_ na).reverse,mg,na - at_,bc))
   else h2 a b (out++(a.extract at_ na).reverse) at_ nb mg (na - at_) bc
  else h2 a b out na nb mg (na - at_) bc
 |_=>pure (.done (some (i6 a b out na nb),na,nb,out,mg,ac,bc))
def sZ(a b:Array Keyed)(c:iS):SM (ForInStep iS):=
 if c.2.2.2.2.1>1 then h1 a b c.2.2.2.1 c.2.1 c.2.2.1 (c.2.2.2.2.1 - 1) c.2.2.2.2.2.1 c.2.2.2.2.2.2 else h1 a b c.2.2.2.1 c.2.1 c.2.2.1 c.2.2.2.2.1 c.2.2.2.2.2.1 c.2.2.2.2.2.2
def s8(a b:Array Keyed)(qh:Nat)(c1:o5):SM (ForInStep mP):=
 match c1.1 with
 |some r=>pure (.done (some r,c1.2.1,c1.2.2.1,c1.2.2.2.1,qh))
 |none=>do
  rule "list.sort.gallop"
  let c2 <-forIn [0:a.size+b.size] ((none,c1.2.1,c1.2.2.1,c1.2.2.2.1,qh+1,c1.2.2.2.2.1,c1.2.2.2.2.2):iS) λ_ c2=>sZ a b c2
  match c2.1 with
  |some r=>pure (.done (some r,c2.2.1,c2.2.2.1,c2.2.2.2.1,c2.2.2.2.2.1))
  |none=>do
   modify (λs=>bB s (c2.2.2.2.2.1+1))
   pure (.yield (none,c2.2.1,c2.2.2.1,c2.2.2.2.1,c2.2.2.2.2.1+1))
def hturn(a b:Array Keyed)(c:mP):SM (ForInStep mP):=do
 let c1 <-forIn [0:a.size+b.size] ((none,c.2.1,c.2.2.1,c.2.2.2.1,0,0):o5) λ_ c1=>sY a b c.2.2.2.2 c1
 s8 a b c.2.2.2.2 c1
theorem NB(a b:Array Keyed):qf a b=(do
 rule "list.sort.merge-hi"
 let e <-elem' a (a.size - 1)
 if a.size - 1==0 then pure (i6 a b #[e] (a.size - 1) b.size)
 else if b.size==1 then pure (nh a b #[e] (a.size - 1) b.size)
 else do
  let st <-get
  let c <-forIn [0:a.size+b.size] ((none,a.size - 1,b.size,#[e],gallopOf st):mP) λ_ c=>hturn a b c
  match c.1 with
  |some r=>pure r
  |none=>unsupported "internal:list.sort.merge-bound"):=by
 rw[Nz]
 dsimp only[hturn,s8,sY,sZ,h1,h2,h3,i6,nh]
 congr 1;funext _;congr 1;funext e;congr 1;congr 1;congr 1;funext st;congr 1;congr 1;funext x c;congr 1;funext d;congr 1
 .cases d.fst with
  |some r=>rfl
  |none=>
   dsimp only
   congr 1;funext _;congr 1
   funext x
   cases x.fst with
   |some r=>rfl
   |none=>rfl
 .funext c
  cases c.fst with
  |some r=>rfl
  |none=>rfl
section
variable{G:Keyed->Prop}{r:Keyed->Keyed->Bool}
structure MH(r:Keyed->Keyed->Bool)(a b tl:List Keyed)(na nb:Nat):Prop where
 pm:tl.Perm (a.drop na++b.drop nb)
 so:tl.Pairwise (Le r)
 la:∀x∈a.take na,∀y∈tl,Le r x y
 lb:∀x∈b.take nb,∀y∈tl,Le r x y
abbrev mid(a:List Keyed)(at_ na:Nat):List Keyed:=(a.drop at_).take (na - at_)
theorem zq(a:List Keyed){at_ na:Nat}(h:at_<=na):a.take na=a.take at_++mid a at_ na:=by
 have:=take_add (l:=a) (i:=at_) (j:=na - at_);rw[zS h] at this;exact this
theorem DB(a:List Keyed){at_ na:Nat}(h:at_<=na):a.drop at_=mid a at_ na++a.drop na:=by
 have:=pX a at_ (na - at_);rw[zS h] at this;exact this
theorem MH.qS{a b tl:List Keyed}{na nb at_:Nat}(m:MH r a b tl na nb)(h:at_<=na)(sa:a.Pairwise (Le r))(d:∀x∈b.take nb,∀y∈mid a at_ na,Le r x y):MH r a b (mid a at_ na++tl) at_ nb:=by
 have e:=zq a h;have st:(a.take na).Pairwise (Le r):=sa.sublist (gX _ _);rw[e,cZ] at st;refine⟨?_,?_,?_,?_⟩
 .rw[DB a h,bJ]
  exact iM _ m.pm
 .exact cZ.mpr ⟨st.2.1,m.so,λx c y hy=>m.la x (by rw[e];exact gc _ c) y hy⟩
 .intro x c y hy
  rcases br.mp hy with hy|hy
  .exact st.2.2 x c y hy
  .exact m.la x (by rw[e];exact jP _ c) y hy
 .intro x c y hy
  rcases br.mp hy with hy|hy
  .exact d x c y hy
  .exact m.lb x c y hy
theorem MH.nW{a b tl:List Keyed}{na nb at_:Nat}(m:MH r a b tl na nb)(h:at_<=nb)(sb:b.Pairwise (Le r))(d:∀x∈a.take na,∀y∈mid b at_ nb,Le r x y):MH r a b (mid b at_ nb++tl) na at_:=by
 have e:=zq b h;have st:(b.take nb).Pairwise (Le r):=sb.sublist (gX _ _);rw[e,cZ] at st;refine⟨?_,?_,?_,?_⟩
 .rw[DB b h]
  refine(iM _ m.pm).trans ?_;rw[<-bJ,<-bJ];exact jo _ kM
 .exact cZ.mpr ⟨st.2.1,m.so,λx c y hy=>m.lb x (by rw[e];exact gc _ c) y hy⟩
 .intro x c y hy
  rcases br.mp hy with hy|hy
  .exact d x c y hy
  .exact m.la x c y hy
 .intro x c y hy
  rcases br.mp hy with hy|hy
  .exact st.2.2 x c y hy
  .exact m.lb x (by rw[e];exact jP _ c) y hy
theorem MH.done{a b tl:List Keyed}{na nb:Nat}(m:MH r a b tl na nb)(sa:a.Pairwise (Le r))(sb:b.Pairwise (Le r))(h:na=0\/nb=0):Mg r a b (a.take na++b.take nb++tl):=by
 refine⟨?_,?_⟩
 .have e:(a++b).Perm ((a.take na++a.drop na)++(b.take nb++b.drop nb)):=by rw[fk,fk]
  refine Perm.trans ?_ e.symm;rw[bJ,bJ];refine iM _ ?_;refine(iM _ m.pm).trans ?_;rw[<-bJ,<-bJ];exact jo _ kM
 .rw[bJ]
  refine cZ.mpr ⟨sa.sublist (gX _ _),cZ.mpr ⟨sb.sublist (gX _ _),m.so,λx c y hy=>m.lb x c y hy⟩,?_⟩;intro x c y hy;rcases br.mp hy with hy|hy
  .rcases h with rfl|rfl
   .simp at c
   .simp at hy
  .exact m.la x c y hy
theorem MH.Ld{a b tl:List Keyed}{na nb:Nat}(m:MH r a b tl na nb)(sa:a.Pairwise (Le r))(sb:b.Pairwise (Le r))(h:∀x∈b.take nb,∀y∈a.take na,Le r x y):Mg r a b (b.take nb++a.take na++tl):=by
 refine⟨?_,?_⟩
 .have e:(a++b).Perm ((a.take na++a.drop na)++(b.take nb++b.drop nb)):=by rw[fk,fk]
  refine Perm.trans ?_ e.symm;refine(Perm.append kM m.pm).trans ?_;rw[bJ,bJ];refine iM _ ?_;rw[<-bJ,<-bJ];exact jo _ kM
 .rw[bJ]
  refine cZ.mpr ⟨sb.sublist (gX _ _),cZ.mpr ⟨sa.sublist (gX _ _),m.so,λx c y hy=>m.la x c y hy⟩,?_⟩;intro x c y hy;rcases br.mp hy with hy|hy
  .exact h x c y hy
  .exact m.lb x c y hy
end
section
variable{M:Model}{A:Around}{E:aA}{s:Shared}{C:SortKind}{G:Keyed->Prop}{r:Keyed->Keyed->Bool}{a b:Array Keyed}
structure MD(G:Keyed->Prop)(r:Keyed->Keyed->Bool)(a b:Array Keyed):Prop where
 ga:∀x∈a.toList,G x
 gb:∀x∈b.toList,G x
 sa:a.toList.Pairwise (Le r)
 sb:b.toList.Pairwise (Le r)
 fb:∀x∈b.toList.take 1,∀y∈a.toList,Le r x y
abbrev MG(r:Keyed->Keyed->Bool)(a b o:Array Keyed)(na nb:Nat):Prop:=MH r a.toList b.toList o.toList.reverse na nb
theorem sQ(a:Array Keyed)(n:Nat):(a.extract 0 n).toList=a.toList.take n:=by
 rw[rm,vJ,Nat.sub_zero,oO]
theorem xE(a:Array Keyed)(i n:Nat):(a.extract i n).toList=mid a.toList i n:=by
 rw[rm,vJ]
theorem qi{a:Array Keyed}{n:Nat}(h:n<a.size):mid a.toList n (n+1)=[a.toList[n]'h]:=by
 unfold mid;rw[rF];exact take1 h
theorem C7{a:Array Keyed}{n:Nat}(h:n<a.size)(sa:a.toList.Pairwise (Le r)){x:Keyed}(hx:x∈a.toList.take (n+1)):x=a.toList[n]'h\/Le r x (a.toList[n]'h):=by
 have e:=zq a.toList (at_:=n) (na:=n+1) (by omega);rw[qi h] at e;have b:(a.toList.take (n+1)).Pairwise (Le r):=sa.sublist (gX _ _);rw[e] at hx b;rcases br.mp hx with hx|hx
 .exact .inr ((cZ.mp b).2.2 x hx _ (bK.mpr rfl))
 .exact .inl (bK.mp hx)
variable(cp:Cp M A E s C G r)(md:MD G r a b)
include md
theorem pW{out:Array Keyed}{na nb:Nat}(m:MG r a b out na nb)(h:na=0\/nb=0):Fin r a b (i6 a b out na nb):=by
 show Mg r a.toList b.toList _;rw[eT,eT,sQ,sQ,vt];exact m.done md.sa md.sb h
theorem sS{out:Array Keyed}{na nb:Nat}(m:MG r a b out na nb)(h:nb=1):Fin r a b (nh a b out na nb):=by
 show Mg r a.toList b.toList _;rw[eT,eT,sQ,sQ,vt];exact m.Ld md.sa md.sb (λx c y d=>md.fb x (by rw[<-h];exact c) y (dQ d))
theorem LU{out:Array Keyed}{na nb at_:Nat}(m:MG r a b out na nb)(h:at_<=na)(c:∀x∈b.toList.take nb,∀y∈mid a.toList at_ na,Le r x y):MG r a b (out++(a.extract at_ na).reverse) at_ nb:=by
 show MH r a.toList b.toList _ _ _;rw[eT,vt,vq,List.reverse_reverse,xE];exact m.qS h md.sa c
theorem LV{out:Array Keyed}{na nb at_:Nat}(m:MG r a b out na nb)(h:at_<=nb)(c:∀x∈a.toList.take na,∀y∈mid b.toList at_ nb,Le r x y):MG r a b (out++(b.extract at_ nb).reverse) na at_:=by
 show MH r a.toList b.toList _ _ _;rw[eT,vt,vq,List.reverse_reverse,xE];exact m.nW h md.sb c
theorem xR{out:Array Keyed}{na nb:Nat}(hi:na<a.size)(m:MG r a b out (na+1) nb)(h:∀x∈b.toList.take nb,Le r x (a.toList[na]'hi)):MG r a b (out.push (a.toList[na]'hi)) na nb:=by
 have:=m.qS (at_:=na) (by omega) md.sa (λx d y c=>by rw[qi hi] at c;rw[bK.mp c];exact h x d);rw[qi hi] at this;show MH r a.toList b.toList _ _ _;rw[kQ,vq];exact this
theorem CM{out:Array Keyed}{na nb:Nat}(hi:nb<b.size)(m:MG r a b out na (nb+1))(h:∀x∈a.toList.take na,Le r x (b.toList[nb]'hi)):MG r a b (out.push (b.toList[nb]'hi)) na nb:=by
 have:=m.nW (at_:=nb) (by omega) md.sb (λx d y c=>by rw[qi hi] at c;rw[bK.mp c];exact h x d);rw[qi hi] at this;show MH r a.toList b.toList _ _ _;rw[kQ,vq];exact this
include cp
theorem CK{y:Keyed}{n:Nat}(c:G y)(hi:n<a.size)(h:Le r (a.toList[n]'hi) y):∀x∈a.toList.take (n+1),Le r x y:=λx b=>by
 rcases C7 hi md.sa b with rfl|h'
 .exact h
 .exact cp.tr (md.ga x (dQ b)) (md.ga _ (cz _)) c h' h
theorem CL{y:Keyed}{n:Nat}(c:G y)(hi:n<b.size)(h:Le r (b.toList[n]'hi) y):∀x∈b.toList.take (n+1),Le r x y:=λx a=>by
 rcases C7 hi md.sb a with rfl|h'
 .exact h
 .exact cp.tr (md.gb x (dQ a)) (md.gb _ (cz _)) c h' h
theorem LR{out:Array Keyed}{na nb ac w mg:Nat}{st:SortSt}{R:ForInStep o5->SortSt->Prop}(hk:kindOf st=C)(m:MG r a b out (na+1) (nb+2))(x:na+1<=a.size)(y:nb+2<=b.size)
  (f:∀o c,Fin r a b o->R (.done (some o,c)) st)
  (go:∀h i j p q,MG r a b h (i+1) (j+2)->i+1<=a.size->j+2<=b.size->i+j<na+nb->R (.done (none,i+1,j+2,h,p,q)) st/\R (.yield (none,i+1,j+2,h,p,q)) st):
  wpS M A E s (sY a b mg (none,na+1,nb+2,out,ac,w)) R st:=by
 have d:na<a.size:=by omega
 have g:nb+1<b.size:=by omega
 have u:=md.ga _ (cz (l:=a.toList) (n:=na) d)
 have v:=md.gb _ (cz (l:=b.toList) (n:=nb+1) g)
 unfold sY
 dsimp only[add_sub_cancel,Nat.add_one_sub_one]
 refine aD (dD g (aD (dD d (aD (cp.lt v u hk ?_)))))
 dsimp only
 cases e:r (b.toList[nb+1]'g) (a.toList[na]'d) with
 |true=>
  rw[aj rfl]
  refine aD (dD d ?_)
  have t:=xR md d m (CL cp md u g (cp.as v u e))
  by_cases k:na=0
  .rw[aj (by simpa using k)]
   exact aI (f _ _ (pW md t (.inl k)))
  .rw[ai (by simpa using k)]
   obtain⟨n,rfl⟩:=rG k
   have:=go _ _ _ (ac+1) 0 t (by omega) y (by omega)
   split
   .exact aI this.1
   .exact aI this.2
 |false=>
  rw[ai (by simp)]
  refine aD (dD g ?_)
  have t:=CM md g m (CK cp md v d e)
  by_cases k:nb=0
  .subst k
   rw[aj (by simp)]
   exact aI (f _ _ (sS md t rfl))
  .rw[ai (by simpa using k)]
   obtain⟨n,rfl⟩:=rG k
   have:=go _ _ _ 0 (w+1) t x (by omega) (by omega)
   split
   .exact aI this.1
   .exact aI this.2
end
section
variable{M:Model}{A:Around}{E:aA}{s:Shared}{C:SortKind}{G:Keyed->Prop}{r:Keyed->Keyed->Bool}{a b:Array Keyed}
variable(cp:Cp M A E s C G r)(md:MD G r a b)
include cp md
theorem CH{out:Array Keyed}{na nb mg k k1:Nat}{st:SortSt}{R:ForInStep iS->SortSt->Prop}(m:MG r a b out (na+1) (nb+2))(h:na<a.size)(t:nb+2<=b.size)(u:∀y∈b.toList.take (nb+2),Le r y (a.toList[na]'h))
  (f:∀o c,Fin r a b o->R (.done (some o,c)) st)
  (go:∀d e g i j l,MG r a b d (e+1) (g+2)->e+1<=a.size->g+2<=b.size->e+g<na+nb->R (.done (none,e+1,g+2,d,i,j,l)) st/\R (.yield (none,e+1,g+2,d,i,j,l)) st):
  wpS M A E s (h3 a b out (na+1) (nb+2) mg k k1) R st:=by
 unfold h3
 dsimp only[add_sub_cancel,Nat.add_one_sub_one]
 refine aD (dD h ?_)
 have q:=xR md h m u
 by_cases p:na=0
 .rw[aj (by simpa using p)]
  exact aI (f _ _ (pW md q (.inl p)))
 .rw[ai (by simpa using p)]
  obtain⟨n,rfl⟩:=rG p
  have:=go _ _ _ mg k k1 q (by omega) t (by omega)
  split
  .exact aI this.1
  .exact aI this.2
theorem CG{out:Array Keyed}{na nb mg k T:Nat}{st:SortSt}{R:ForInStep iS->SortSt->Prop}(hk:kindOf st=C)(m:MG r a b out (na+1) (nb+2))(h:na<a.size)(u:nb+1<b.size)(v:∀x∈a.toList.take (na+1),Le r x (b.toList[nb+1]'u))
  (f:∀o c,Fin r a b o->R (.done (some o,c)) st)
  (go:∀p q t w z B,MG r a b p (q+1) (t+2)->q+1<=a.size->t+2<=b.size->q+t<na+nb->R (.done (none,q+1,t+2,p,w,z,B)) st/\R (.yield (none,q+1,t+2,p,w,z,B)) st):
  wpS M A E s (h2 a b out (na+1) (nb+2) mg k T) R st:=by
 have P:=md.ga _ (cz (l:=a.toList) (n:=na) h)
 unfold h2
 dsimp only[add_sub_cancel,Nat.add_one_sub_one]
 refine aD (dD u ?_)
 have G:=CM md u m v
 by_cases H:nb=0
 .subst H
  rw[aj (by simp)]
  exact aI (f _ _ (sS md G rfl))
 .rw[ai (by simpa using H)]
  refine aD (dD h ?_)
  have es:seg b 0 (nb+1)=b.toList.take (nb+1):=by unfold seg;rw[oO]
  refine aD (nk cp hk P (by omega) (by omega) (by rw[es];exact λx v=>md.gb x (dQ v)) (by rw[es];exact md.sb.sublist (gX _ _)) ?_)
  rw[es]
  intro at_ D t1 Q
  rw[take_take,kG D] at t1
  rw[drop_take] at Q
  dsimp only
  have t3:∀y∈b.toList.take at_,Le r y (a.toList[na]'h):=λy F=>cp.as (md.gb y (dQ F)) P (t1 y F)
  by_cases S:nb+1 - at_>0
  .rw[aj S]
   have I:=LV md G D (λx v y F=>CK cp md (md.gb y (eF (dQ F))) h (Q y F) x v)
   by_cases J:at_=1
   .rw[aj (by simpa using J)]
    exact aI (f _ _ (sS md I J))
   .rw[ai (by simpa using J)]
    by_cases K:at_=0
    .rw[aj (by simpa using K)]
     exact aI (f _ _ (pW md I (.inr K)))
    .rw[ai (by simpa using K)]
     obtain⟨n,rfl⟩:∃n,at_=n+2:=⟨at_ - 2,by omega⟩
     exact CH cp md I h (by omega) t3 f (λo i j g c d L N O U=>go o i j g c d L N O (by omega))
  .rw[ai S]
   have e:at_=nb+1:=by omega
   subst e
   obtain⟨n,rfl⟩:=rG H
   exact CH cp md G h (by omega) t3 f (λo i j g c d L N O U=>go o i j g c d L N O (by omega))
theorem CF{out:Array Keyed}{na nb mg ac K:Nat}{st:SortSt}{R:ForInStep iS->SortSt->Prop}(hk:kindOf st=C)(m:MG r a b out (na+1) (nb+2))(P:na+1<=a.size)(Q:nb+2<=b.size)
  (f:∀o c,Fin r a b o->R (.done (some o,c)) (bB st mg))
  (go:∀k p q t u v,MG r a b k (p+1) (q+2)->p+1<=a.size->q+2<=b.size->p+q<na+nb->R (.done (none,p+1,q+2,k,t,u,v)) (bB st mg)/\R (.yield (none,p+1,q+2,k,t,u,v)) (bB st mg)):
  wpS M A E s (h1 a b out (na+1) (nb+2) mg ac K) R st:=by
 have D:na<a.size:=by omega
 have h:nb+1<b.size:=by omega
 have G:=md.gb _ (cz (l:=b.toList) (n:=nb+1) h)
 unfold h1
 dsimp only[add_sub_cancel,Nat.add_one_sub_one]
 refine aD (gE (aD (dD h ?_)))
 have es:seg a 0 (na+1)=a.toList.take (na+1):=by unfold seg;rw[oO]
 refine aD (nk cp hk G (by omega) (by omega) (by rw[es];exact λx w=>md.ga x (dQ w)) (by rw[es];exact md.sa.sublist (gX _ _)) ?_)
 rw[es]
 intro at_ z t1 H
 rw[take_take,kG z] at t1
 rw[drop_take] at H
 dsimp only
 have t3:∀x∈a.toList.take at_,Le r x (b.toList[nb+1]'h):=λx w=>by have:=t1 x w;simpa using this
 by_cases I:na+1 - at_>0
 .rw[aj I]
  have J:=LU md m z (λx w y F=>CL cp md (md.ga y (eF (dQ F))) h (cp.as G (md.ga y (eF (dQ F))) (by have:=H y F;simpa using this)) x w)
  by_cases B:at_=0
  .rw[aj (by simpa using B)]
   exact aI (f _ _ (pW md J (.inl B)))
  .rw[ai (by simpa using B)]
   obtain⟨n,rfl⟩:=rG B
   exact CG cp md hk J (by omega) h t3 f (λo i j g c d L N O S=>go o i j g c d L N O (by omega))
 .rw[ai I]
  have e:at_=na+1:=by omega
  subst e
  exact CG cp md hk m D h t3 f go
theorem LS{out:Array Keyed}{na nb mg ac z:Nat}{st:SortSt}{R:ForInStep iS->SortSt->Prop}(hk:kindOf st=C)(m:MG r a b out (na+1) (nb+2))(x:na+1<=a.size)(y:nb+2<=b.size)
  (f:∀o c g,Fin r a b o->R (.done (some o,c)) (bB st g))
  (go:∀e h k l n p g,MG r a b e (h+1) (k+2)->h+1<=a.size->k+2<=b.size->h+k<na+nb->R (.done (none,h+1,k+2,e,l,n,p)) (bB st g)/\R (.yield (none,h+1,k+2,e,l,n,p)) (bB st g)):
  wpS M A E s (sZ a b (none,na+1,nb+2,out,mg,ac,z)) R st:=by
 unfold sZ
 dsimp only
 split
 .exact CF cp md hk m x y (λo c q=>f o c _ q) (λo i j g c d t u v w=>go o i j g c d _ t u v w)
 .exact CF cp md hk m x y (λo c q=>f o c _ q) (λo i j g c d t u v w=>go o i j g c d _ t u v w)
theorem CT{out:Array Keyed}{na nb mg u v:Nat}{st:SortSt}{R:ForInStep mP->SortSt->Prop}(hk:kindOf st=C)(m:MG r a b out (na+1) (nb+2))(w:na+1<=a.size)(y:nb+2<=b.size)
  (f:∀o c g,Fin r a b o->R (.done (some o,c)) (bB st g))
  (go:∀h d e k g,MG r a b h (d+1) (e+2)->d+1<=a.size->e+2<=b.size->d+e<na+nb->R (.yield (none,d+1,e+2,h,k)) (bB st g)):
  wpS M A E s (s8 a b mg (none,na+1,nb+2,out,u,v)) R st:=by
 unfold s8
 dsimp only
 refine aD (nY ?_)
 refine aD (fJ (I:=λx c l=>∃g,l=bB st g/\∃o i j q u v,c=(none,i+1,j+2,o,q,u,v)/\MG r a b o (i+1) (j+2)/\i+1<=a.size/\j+2<=b.size/\i+j+x<=na+nb) ?_ ?_ ⟨gallopOf st,rfl,out,na,nb,_,_,_,rfl,m,w,y,by omega⟩)
 .rintro x c l _ H ⟨g,rfl,o,i,j,q,u,v,rfl,n1,n2,n3,n4⟩
  refine LS cp md hk n1 n2 n3 ?_ ?_
  .intro o' c g' z
   dsimp only
   exact aI (f _ _ _ z)
  .intro o' B D k F G g' n p t J
   refine⟨?_,⟨g',rfl,o',B,D,k,F,G,rfl,n,p,t,by omega⟩⟩
   dsimp only
   refine aD (gE (aI ?_))
   exact go _ _ _ _ _ n p t (by omega)
 .rintro c l ⟨g,rfl,o,i,j,q,u,v,rfl,n1,n2,n3,n4⟩
  dsimp only
  refine aD (gE (aI ?_))
  exact go _ _ _ _ _ n1 n2 n3 (by omega)
theorem LX{out:Array Keyed}{na nb mg:Nat}{st:SortSt}{R:ForInStep mP->SortSt->Prop}(hk:kindOf st=C)(m:MG r a b out (na+1) (nb+2))(y:na+1<=a.size)(z:nb+2<=b.size)
  (f:∀o c g,Fin r a b o->R (.done (some o,c)) (bB st g))
  (go:∀h d e n g,MG r a b h (d+1) (e+2)->d+1<=a.size->e+2<=b.size->d+e<na+nb->R (.yield (none,d+1,e+2,h,n)) (bB st g)):
  wpS M A E s (hturn a b (none,na+1,nb+2,out,mg)) R st:=by
 unfold hturn
 dsimp only
 refine aD (fJ (I:=λx c k=>∃g,k=bB st g/\∃o i j u v,c=(none,i+1,j+2,o,u,v)/\MG r a b o (i+1) (j+2)/\i+1<=a.size/\j+2<=b.size/\i+j+x<=na+nb) ?_ ?_ ⟨gallopOf st,rfl,out,na,nb,0,0,rfl,m,y,z,by omega⟩)
 .rintro x c k _ J ⟨g,rfl,o,i,j,u,v,rfl,n1,n2,n3,n4⟩
  refine LR cp md hk n1 n2 n3 ?_ ?_
  .intro o' c l
   exact aI (f _ _ _ l)
  .intro o' B D F G q t w K
   refine⟨?_,⟨g,rfl,o',B,D,F,G,rfl,q,t,w,by omega⟩⟩
   exact CT cp md hk q t w (λo c g l=>f o c g l) (λo i j m g a1 a2 p H=>go o i j m g a1 a2 p (by omega))
 .rintro c k ⟨g,rfl,o,i,j,u,v,rfl,n1,n2,n3,n4⟩
  exact CT cp md hk n1 n2 n3 (λo c g l=>f o c g l) (λo i j m g a1 a2 p H=>go o i j m g a1 a2 p (by omega))
theorem ND{st:SortSt}{Q:Array Keyed->SortSt->Prop}(hk:kindOf st=C)(na:0<a.size)(nb:0<b.size)(w:∀x∈b.toList,∀y∈a.toList.drop (a.size - 1),Le r x y)
  (h:∀out g,Fin r a b out->Q out (bB st g)):wpS M A E s (qf a b) Q st:=by
 rw[NB];refine aD (nY ?_);have hi:a.size - 1<a.size:=by omega
 refine aD (dD hi ?_);have m0:MG r a b #[a.toList[a.size - 1]'hi] (a.size - 1) b.size:=by
  have m:MG r a b #[] (a.size - 1+1) b.size:=⟨by rw[kX (by rw[bE];omega),kX (by rw[bE];omega)];exact Perm.nil,Pairwise.nil,λx e y f=>by simp at f,λx e y f=>by simp at f⟩;exact xR md hi m (λx e=>w x (dQ e) _ (Nu hi))
 by_cases l:a.size - 1=0
 .rw[aj (by simpa using l)]
  exact aI (h _ (gallopOf st) (pW md m0 (.inl l)))
 .rw[ai (by simpa using l)]
  by_cases p:b.size=1
  .rw[aj (by simpa using p)]
   exact aI (h _ (gallopOf st) (sS md m0 p))
  .rw[ai (by simpa using p)]
   refine aD (jm ?_);obtain⟨n,u⟩:∃n,a.size - 1=n+1:=⟨a.size - 2,by omega⟩;obtain⟨k,v⟩:∃k,b.size=k+2:=⟨b.size - 2,by omega⟩;refine aD (fJ (I:=λx c d=>∃g,d=bB st g/\∃o i j q,c=(none,i+1,j+2,o,q)/\MG r a b o (i+1) (j+2)/\i+1<=a.size/\j+2<=b.size/\i+j+x<=n+k) ?_ ?_ ⟨gallopOf st,rfl,#[a.toList[a.size - 1]'hi],n,k,gallopOf st,by rw[<-u,<-v],by rw[<-u,<-v];exact m0,by omega,by omega,by omega⟩)
   .rintro x c d _ e ⟨g,rfl,o,i,j,q,rfl,n1,n2,n3,n4⟩
    refine LX cp md hk n1 n2 n3 ?_ ?_
    .intro o' c g' z
     exact aI (h _ _ z)
    .intro o' B D t g' F G H J
     exact⟨g',rfl,o',B,D,t,rfl,F,G,H,by omega⟩
   .rintro c d ⟨g,rfl,o,i,j,q,rfl,n1,n2,n3,n4⟩
    exfalso;omega
end
def mergeAt':Nat->SM Bool:=sortPriv%PySem.Builtin.mergeAt
abbrev yV(st:SortSt)(p:Array (Nat×Nat×Nat)):SortSt:=SortSt.mk' (kindOf st) (arrOf st) p (gallopOf st) (failedOf st)
abbrev wr(arr:Array Keyed)(base:Nat)(out:Array Keyed):Array Keyed:=out.toList.zipIdx.foldl (λa (p,j)=>a.setIfInBounds (base+j) p) arr
theorem Nv(i:Nat):mergeAt' i=(do
 let s <-get
 let (some (sa,na,power),some (sb,nb,_)):=((pendingOf s)[i]?,(pendingOf s)[i+1]?)|unsupported "internal:list.sort.pending"
 set (yV s (((pendingOf s).setIfInBounds i (sa,na+nb,power)).eraseIdxIfInBounds (i+1)))
 let some k <-fU false (<-elem' (arrOf s) sb) (arrOf s) sa na 0|return false
 let (sa,na):=(sa+k,na - k)
 if na==0 then return true
 let some nb <-fU true (<-elem' (arrOf s) (sa+na - 1)) (arrOf s) sb nb (nb - 1)|return false
 if nb==0 then return true
 let x:=(arrOf s).extract sa sb
 let y:=(arrOf s).extract sb (sb+nb)
 let merged <-if na<=nb then qg x y else qf x y
 modify λs=>setArr s (wr (arrOf s) sa merged)
 return (failedOf (<-get)).isNone):=rfl
def Dt(arr:Array Keyed)(sa na sb nb:Nat):SM Bool:=do
 let merged <-if na<=nb then qg (arr.extract sa sb) (arr.extract sb (sb+nb)) else qf (arr.extract sa sb) (arr.extract sb (sb+nb))
 modify λs=>setArr s (wr (arrOf s) sa merged)
 return (failedOf (<-get)).isNone
def yh(arr:Array Keyed)(sa na sb nb:Nat):SM Bool:=do
 let y <-elem' arr sb
 match <-fU false y arr sa na 0 with
 |some k=>
  if na - k==0 then pure true
  else do
   let x <-elem' arr (sa+k+(na - k) - 1)
   match <-fU true x arr sb nb (nb - 1) with
   |some DF=>if DF==0 then pure true else Dt arr (sa+k) (na - k) sb DF
   |_=>pure false
 |_=>pure false
theorem Ny{M:Model}{A:Around}{E:aA}{s:Shared}{i sa na b sb nb a:Nat}{st:SortSt}{Q:Bool->SortSt->Prop}(c:(pendingOf st)[i]?=some (sa,na,b))(d:(pendingOf st)[i+1]?=some (sb,nb,a))
  (h:wpS M A E s (yh (arrOf st) sa na sb nb) Q (yV st (((pendingOf st).setIfInBounds i (sa,na+nb,b)).eraseIdxIfInBounds (i+1)))):wpS M A E s (mergeAt' i) Q st:=by
 rw[Nv];refine aD (jm ?_);rw[c,d];dsimp only;refine aD ?_;show wpS M A E s (modify λ_=>_) _ _;refine gE ?_;exact h
theorem Gv(base:Nat):∀(l:List Keyed) (n:Nat) (arr:Array Keyed),base+n+l.length<=arr.size->((l.zipIdx n).foldl (λa (p,j)=>a.setIfInBounds (base+j) p) arr).toList=arr.toList.take (base+n)++l++arr.toList.drop (base+n+l.length)
 |[],n,arr,h=>by
  simp only[List.zipIdx_nil,foldl_nil,iN,length_nil,add_zero];exact(fk _ _).symm
 |p::l,n,arr,h=>by
  rw[gC] at h;rw[List.zipIdx_cons,foldl_cons];have:=Gv base l (n+1) (arr.setIfInBounds (base+n) p) (by rw[Array.size_setIfInBounds];omega);rw[this,Array.toList_setIfInBounds,List.set_eq_take_append_cons_drop,aj (by rw[bE];omega)];have b:(arr.toList.take (base+n)).length=base+n:=by rw[gV,bE];omega
  have c:(arr.toList.take (base+n)++p::arr.toList.drop (base+n+1)).take (base+(n+1))=arr.toList.take (base+n)++[p]:=by
   rw[List.take_append,iI (by rw[b];omega),b,show base+(n+1) - (base+n)=1 by omega];rfl
  have d:(arr.toList.take (base+n)++p::arr.toList.drop (base+n+1)).drop (base+(n+1)+l.length)=arr.toList.drop (base+n+(l.length+1)):=by
   rw[List.drop_append,b,kX (by rw[b];omega),fh,show base+(n+1)+l.length - (base+n)=l.length+1 by omega,List.drop_succ_cons,oK];congr 1;omega
  rw[c,d,bJ,bJ,gC,bJ];rfl
section
variable{M:Model}{A:Around}{E:aA}{s:Shared}{C:SortKind}{G:Keyed->Prop}{r:Keyed->Keyed->Bool}
theorem Rx(cp:Cp M A E s C G r){X Y Z:List Keyed}{k n:Nat}{f g:Keyed}(m:∀x∈X,G x)(o:∀x∈Y,G x)(t:X.Pairwise (Le r))(u:Y.Pairwise (Le r))(b:G f)(i:G g)
  (c:∀y∈Y,Le r f y)(j:∀x∈X,Le r x g)(t1:∀x∈X.take k,Le r x f)(v:∀y∈Y.drop n,Le r g y)
  (p:Z.Perm (X.drop k++Y.take n))(sz:Z.Pairwise (Le r)):(X.take k++Z++Y.drop n).Perm (X++Y)/\(X.take k++Z++Y.drop n).Pairwise (Le r):=by
 refine⟨?_,?_⟩
 .have e:X++Y=X.take k++(X.drop k++Y.take n)++Y.drop n:=by
   rw[<-bJ,fk,bJ,fk]
  rw[e]
  exact jo _ (iM _ p)
 .have st:X.Pairwise (Le r):=t
  rw[<-fk k X,cZ] at st
  have l:Y.Pairwise (Le r):=u
  rw[<-fk n Y,cZ] at l
  have gt:∀x∈X.take k,G x:=λx hx=>m x (dQ hx)
  have a:∀z∈Z,z∈X.drop k\/z∈Y.take n:=λz hz=>br.mp (p.mem_iff.mp hz)
  refine cZ.mpr ⟨cZ.mpr ⟨st.1,sz,?_⟩,l.2.1,?_⟩
  .intro x hx z hz
   rcases a z hz with h|h
   .exact st.2.2 x hx z h
   .exact cp.tr (gt x hx) b (o z (dQ h)) (t1 x hx) (c z (dQ h))
  .intro x hx w d
   have q:=o w (eF d)
   rcases br.mp hx with hx|hx
   .exact cp.tr (gt x hx) b q (t1 x hx) (c w (eF d))
   .rcases a x hx with h|h
    .exact cp.tr (m x (eF h)) i q (j x (eF h)) (v w d)
    .exact l.2.2 x h w d
end
section
variable{M:Model}{A:Around}{E:aA}{s:Shared}{C:SortKind}{G:Keyed->Prop}{r:Keyed->Keyed->Bool}
theorem Cp.rf(cp:Cp M A E s C G r){x:Keyed}(g:G x):Le r x x:=by
 show r x x=false;cases e:r x x with
 |false=>rfl
 |true=>rw[cp.as g g e] at e;cases e
theorem qG{arr:Array Keyed}{base n:Nat}(h:base+n<=arr.size):(seg arr base n).length=n:=by
 rw[gV,iE,bE];omega
theorem seg_at{arr:Array Keyed}{base n i:Nat}(h:base+n<=arr.size)(hi:i<n)(h1:base+i<arr.size)(h2:i<(seg arr base n).length):arr.toList[base+i]'h1=(seg arr base n)[i]'h2:=by
 have:=nT (arr:=arr) (base:=base) hi;rw[aV h2,aV (by simpa using h1)] at this;exact(Option.some.inj this).symm
theorem FW{arr:Array Keyed}{base n k:Nat}:(seg arr base n).drop k=(arr.toList.drop (base+k)).take (n - k):=by
 unfold seg;rw[drop_take,oK]
theorem cut{arr:Array Keyed}{base n:Nat}:arr.toList.drop base=seg arr base n++arr.toList.drop (base+n):=pX _ _ _
theorem Nj(cp:Cp M A E s C G r){sa na sb nb:Nat}{st:SortSt}{Q:Bool->SortSt->Prop}(hk:kindOf st=C)(T:failedOf st=none)(U:sb=sa+na)(n1:0<na)(n2:0<nb)(hz:sb+nb<=(arrOf st).size)
  (j:∀x∈seg (arrOf st) sa na,G x)(l:∀x∈seg (arrOf st) sb nb,G x)(o:(seg (arrOf st) sa na).Pairwise (Le r))(p:(seg (arrOf st) sb nb).Pairwise (Le r))
  (h:∀e g Z,e.toList=(arrOf st).toList.take sa++Z++(arrOf st).toList.drop (sb+nb)->Z.Perm (seg (arrOf st) sa na++seg (arrOf st) sb nb)->Z.Pairwise (Le r)->Q true (bB (setArr st e) g)):
  wpS M A E s (yh (arrOf st) sa na sb nb) Q st:=by
 subst U
 have J:=qG (arr:=arrOf st) (base:=sa) (n:=na) (by omega)
 have K:=qG (arr:=arrOf st) (base:=sa+na) (n:=nb) hz
 have same:(arrOf st).toList=(arrOf st).toList.take sa++(seg (arrOf st) sa na++seg (arrOf st) (sa+na) nb)++(arrOf st).toList.drop (sa+na+nb):=by
  rw[bJ,bJ,<-cut,<-cut,fk]
 have D:sa+na<(arrOf st).size:=by omega
 have f:0<(seg (arrOf st) (sa+na) nb).length:=by omega
 have L:sa+(na - 1)<(arrOf st).size:=by omega
 have t:na - 1<(seg (arrOf st) sa na).length:=by omega
 have V:=seg_at (arr:=arrOf st) (base:=sa+na) (n:=nb) (i:=0) hz n2 D f
 have ex:=seg_at (arr:=arrOf st) (base:=sa) (n:=na) (i:=na - 1) (by omega) (by omega) L t
 have c:G ((seg (arrOf st) (sa+na) nb)[0]'f):=l _ (cz _)
 have d:G ((seg (arrOf st) sa na)[na - 1]'t):=j _ (cz _)
 have u:∀y∈seg (arrOf st) (sa+na) nb,Le r ((seg (arrOf st) (sa+na) nb)[0]'f) y:=λy b=>by
  obtain⟨i,hi,rfl⟩:=fV b
  rcases Nat.eq_zero_or_pos i with h'|h'
  .subst h';exact cp.rf c
  .exact jS.mp p 0 i f hi h'
 have v:∀x∈seg (arrOf st) sa na,Le r x ((seg (arrOf st) sa na)[na - 1]'t):=λx a=>by
  obtain⟨i,hi,rfl⟩:=fV a
  rcases f_ i (na - 1) with h'|h'
  .exact jS.mp o i (na - 1) hi t h'
  .have:i=na - 1:=by omega
   subst this
   exact cp.rf d
 have gQ:(seg (arrOf st) sa na++seg (arrOf st) (sa+na) nb).Pairwise (Le r)->Q true st:=λW=>h (arrOf st) (gallopOf st) _ same (Perm.refl _) W
 unfold yh
 refine aD (dD D ?_)
 rw[show(arrOf st).toList[sa+na]'D=(seg (arrOf st) (sa+na) nb)[0]'f from V]
 refine aD (nk cp hk c (by omega) n1 j o ?_)
 intro k F t1 X
 dsimp only
 have m:∀x∈(seg (arrOf st) sa na).take k,Le r x ((seg (arrOf st) (sa+na) nb)[0]'f):=λx a=>by have:=t1 x a;simpa using this
 by_cases N:na - k=0
 .rw[aj (by simpa using N)]
  refine aI (gQ (cZ.mpr ⟨o,p,λx a y b=> ?_⟩))
  have:(seg (arrOf st) sa na).take k=seg (arrOf st) sa na:=iI (by omega)
  rw[this] at m
  exact cp.tr (j x a) c (l y b) (m x a) (u y b)
 .rw[ai (by simpa using N)]
  have Y:sa+k+(na - k) - 1=sa+(na - 1):=by omega
  rw[Y]
  refine aD (dD L ?_)
  rw[ex]
  refine aD (nk cp hk d hz (by omega) l p ?_)
  intro n hn u1 O
  dsimp only
  by_cases H:n=0
  .rw[aj (by simpa using H)]
   subst H
   refine aI (gQ (cZ.mpr ⟨o,p,λx a y b=> ?_⟩))
   exact cp.tr (j x a) d (l y b) (v x a) (O y b)
  .rw[ai (by simpa using H)]
   have eX:((arrOf st).extract (sa+k) (sa+na)).toList=(seg (arrOf st) sa na).drop k:=by
    rw[xE,FW];unfold mid;congr 1;omega
   have q:((arrOf st).extract (sa+na) (sa+na+n)).toList=(seg (arrOf st) (sa+na) nb).take n:=by
    rw[xD];unfold seg;rw[take_take,kG hn]
   have I:((arrOf st).extract (sa+k) (sa+na)).size=na - k:=by
    rw[<-bE,eX,iE,J]
   have P:((arrOf st).extract (sa+na) (sa+na+n)).size=n:=by
    rw[<-bE,q,gV,K];omega
   have ga:∀x∈((arrOf st).extract (sa+k) (sa+na)).toList,G x:=by rw[eX];exact λx a=>j x (eF a)
   have gb:∀x∈((arrOf st).extract (sa+na) (sa+na+n)).toList,G x:=by rw[q];exact λx a=>l x (dQ a)
   have w:((arrOf st).extract (sa+k) (sa+na)).toList.Pairwise (Le r):=by rw[eX];exact o.sublist (iQ _ _)
   have z:((arrOf st).extract (sa+na) (sa+na+n)).toList.Pairwise (Le r):=by rw[q];exact p.sublist (gX _ _)
   have la:∀x∈((arrOf st).extract (sa+na) (sa+na+n)).toList,∀y∈((arrOf st).extract (sa+k) (sa+na)).toList.drop (((arrOf st).extract (sa+k) (sa+na)).size - 1),Le r x y:=by
    rw[eX,q,I,oK,show k+(na - k - 1)=na - 1 by omega,oM t,kX (by omega)]
    intro x a y b
    rw[bK.mp b]
    exact cp.as (l x (dQ a)) d (u1 x a)
   have fb:∀x∈((arrOf st).extract (sa+na) (sa+na+n)).toList.take 1,∀y∈((arrOf st).extract (sa+k) (sa+na)).toList,Le r x y:=by
    rw[eX,q,take_take,kG (by omega),List.take_one,List.head?_eq_getElem?,aV f]
    intro x a y b
    have a:x=(seg (arrOf st) (sa+na) nb)[0]'f:=by simpa using a
    rw[a]
    exact cp.as c (j y (eF b)) (by have:=X y b;simpa using this)
   have rest:∀out g,Fin r ((arrOf st).extract (sa+k) (sa+na)) ((arrOf st).extract (sa+na) (sa+na+n)) out->wpS M A E s (do
     modify λs=>setArr s (wr (arrOf s) (sa+k) out)
     return (failedOf (<-get)).isNone) Q (bB st g):=λout g R=>by
    refine aD (gE (aD (jm (aI ?_))))
    have B:out.toList.Perm ((seg (arrOf st) sa na).drop k++(seg (arrOf st) (sa+na) nb).take n):=by
     have:=R.1;rw[eX,q] at this;exact this
    have lo:out.toList.length=na - k+n:=by
     have a1:((seg (arrOf st) sa na).drop k).length=na - k:=by rw[iE,J]
     have a2:((seg (arrOf st) (sa+na) nb).take n).length=n:=by rw[gV,K];omega
     rw[B.length_eq,cA,a1,a2]
    have S:=Rx cp j l o p c d u v m (λy b=>O y b) B R.2
    have fin:(failedOf (setArr (bB st g) (wr (arrOf (bB st g)) (sa+k) out))).isNone=true:=by
     show(failedOf st).isNone=true
     rw[T];rfl
    rw[fin]
    refine h (wr (arrOf st) (sa+k) out) g ((seg (arrOf st) sa na).take k++out.toList++(seg (arrOf st) (sa+na) nb).drop n) ?_ S.1 S.2
    have:=Gv (sa+k) out.toList 0 (arrOf st) (by rw[lo];omega)
    rw[show wr (arrOf st) (sa+k) out=_ from rfl,this,add_zero,lo,take_add,show sa+k+(na - k+n)=sa+na+n by omega]
    have e3:(arrOf st).toList.drop (sa+na+n)=(seg (arrOf st) (sa+na) nb).drop n++(arrOf st).toList.drop (sa+na+nb):=by
     have:=cut (arr:=arrOf st) (base:=sa+na+n) (n:=nb - n)
     rw[show sa+na+n+(nb - n)=sa+na+nb by omega] at this
     rw[FW];exact this
    have e4:((arrOf st).toList.drop sa).take k=(seg (arrOf st) sa na).take k:=by
     unfold seg;rw[take_take,kG F]
    rw[e3,e4]
    simp only[bJ]
   unfold Dt
   dsimp only
   split
   .refine aD ?_
    exact NH cp ⟨ga,gb,w,z,la⟩ hk (by rw[I];omega) (by rw[P];omega) fb rest
   .refine aD ?_
    exact ND cp ⟨ga,gb,w,z,fb⟩ hk (by rw[I];omega) (by rw[P];omega) la rest
end
section
variable{M:Model}{A:Around}{E:aA}{s:Shared}{C:SortKind}{G:Keyed->Prop}{O:KeyOrd}{key:Keyed->O.α}
abbrev byKey(O:KeyOrd)(key:Keyed->O.α)(x y:Keyed):Bool:=O.blt (key x) (key y)
def kk(O:KeyOrd)(key:Keyed->O.α)(arr:Array Keyed)(i:Nat):O.α:=key (arr[i]?.getD (Value.none,Value.none))
theorem lG{x y:Array Keyed}{i j:Nat}(h:x[i]?=y[j]?):kk O key x i=kk O key y j:=by unfold kk;rw[h]
structure Wk(a0 arr:Array Keyed)(lo:Nat):Prop where
 pm:arr.Perm a0
 fx:∀t,t<lo->arr[t]? =a0[t]?
theorem Wk.size{a0 arr:Array Keyed}{lo:Nat}(w:Wk a0 arr lo):arr.size=a0.size:=w.pm.size_eq
theorem Wk.tU{a0 arr:Array Keyed}{lo i j:Nat}(w:Wk a0 arr lo)(hi:lo<=i)(a:j<=a0.size):Wk a0 (mirror arr i j ((j - i)/2)) lo:=
 ⟨(mirror_perm _ _ _ _).trans w.pm,λt b=>by rw[getElem?_mirror_all (by rw[w.size];exact a),ai (by omega)];exact w.fx t b⟩
theorem Wk.HW{a0 arr:Array Keyed}{lo src d:Nat}(w:Wk a0 arr lo)(a:src<a0.size)(hd:lo+d<=src):Wk a0 (bubble arr src d) lo:=
 ⟨(bubble_perm _ _ _).trans w.pm,λt b=>by rw[getElem?_bubble (by rw[w.size];exact a) d (by omega),ai (by omega),ai (by omega)];exact w.fx t b⟩
abbrev cU(O:KeyOrd)(key:Keyed->O.α)(arr:Array Keyed)(lo n:Nat):Prop:=∀i j,i<=j->j<n->O.kle (kk O key arr (lo+i)) (kk O key arr (lo+j))
abbrev mK(O:KeyOrd)(key:Keyed->O.α)(arr:Array Keyed)(lo n:Nat):Prop:=∀i j,i<=j->j<n->O.kle (kk O key arr (lo+j)) (kk O key arr (lo+i))
theorem lK(cp:Cp M A E s C G (byKey O key)){a0 arr:Array Keyed}{lo i j:Nat}{st:SortSt}{Q:Option Bool->SortSt->Prop}(hk:kindOf st=C)(d:arrOf st=arr)(g:∀x∈a0.toList,G x)(w:Wk a0 arr lo)(hi:i<a0.size)(f:j<a0.size)
  (h:Q (some (O.blt (kk O key arr i) (kk O key arr j))) st):wpS M A E s (ltAt' i j) Q st:=by
 subst d;have a:i<(arrOf st).size:=by rw[w.size];exact hi
 have b:j<(arrOf st).size:=by rw[w.size];exact f
 have c:∀x∈(arrOf st).toList,G x:=λx l=>g x ((kN.mp w.pm).mem_iff.mp l);rw[ltAt'_eq];refine aD (jm (aD (dD a (aD (dD b (cp.lt (c _ (cz _)) (c _ (cz _)) hk ?_))))));have e:∀{k:Nat} (hk:k<(arrOf st).size),kk O key (arrOf st) k=key ((arrOf st).toList[k]'hk):=λ {k} hk=>by
  unfold kk;rw[cP hk];rfl
 rw[e a,e b] at h;exact h
theorem HR(cp:Cp M A E s C G (byKey O key)){a0 arr:Array Keyed}{lo n ok:Nat}{st:SortSt}{Q:Bool->SortSt->Prop}(hk:kindOf st=C)(g:∀x∈a0.toList,G x)(hn:lo+n<=a0.size)(hok:ok<=n)(D:Wk a0 arr lo)(F:cU O key arr lo ok)
  (h:∀d,Wk a0 d lo->cU O key d lo n->Q true (setArr st d)):wpS M A E s (binarySort' lo n ok) Q (setArr st arr):=by
 rw[binarySort'_eq];refine aD (fJ (I:=λk c b=>c=(none,())/\∃a,b=setArr st a/\Wk a0 a lo/\cU O key a lo (min k n)) ?_ ?_ ⟨rfl,arr,rfl,D,?_⟩)
 .rintro k c b h1 h2 ⟨rfl,a,rfl,w,asc⟩
  rw[kG (by omega)] at asc;have ins:∀l,l<=k->(∀i,i<l->O.kle (kk O key a (lo+i)) (kk O key a (lo+k)))->(∀i,l<=i->i<k->O.klt (kk O key a (lo+k)) (kk O key a (lo+i)))->∀R:ForInStep (Option Bool×Unit)->SortSt->Prop,
    (∀f,Wk a0 f lo->cU O key f lo (min (k+1) n)->R (ForInStep.yield (none,())) (setArr st f))->wpS M A E s (do moveDown' (lo+k) (lo+l);pure (ForInStep.yield ((none:Option Bool),()))) R (setArr st a):=λl o p H R J=>by
   rw[moveDown'_eq];refine aD (gE (aI (J _ (w.HW (by omega) (by omega)) ?_)));rw[kG (by omega),show lo+k - (lo+l)=k - l by omega];have val:∀i,i<k+1->kk O key (bubble a (lo+k) (k - l)) (lo+i)=if i=l then kk O key a (lo+k) else if l<i then kk O key a (lo+(i - 1)) else kk O key a (lo+i):=λi hi=>by
    have e:=getElem?_bubble (xs:=a) (src:=lo+k) (by rw[w.size];omega) (k - l) (by omega) (lo+i);by_cases v:i=l
    .rw[aj (by omega)] at e;rw[aj v];exact lG e
    .rw[ai (by omega)] at e;rw[ai v]
     by_cases y:l<i
     .rw[aj (by omega)] at e;rw[aj y]
      rw[show lo+i - 1=lo+(i - 1) by omega] at e;exact lG e
     .rw[ai (by omega)] at e;rw[ai y];exact lG e
   intro i j m z;show O.kle (kk O key (bubble a (lo+k) (k - l)) (lo+i)) (kk O key (bubble a (lo+k) (k - l)) (lo+j));rw[val i (by omega),val j z];repeat' split
   .exact iL _
   .exact vI (H _ (by omega) (by omega))
   .omega
   .omega
   .exact asc _ _ (by omega) (by omega)
   .omega
   .exact p _ (by omega)
   .exact asc _ _ (by omega) (by omega)
   .exact asc _ _ (by omega) (by omega)
  refine aD (fJ (I:=λx c b=>b=setArr st a/\∃l u,c=(none,l,u)/\l<=u/\u<=k/\u - l+x<=k/\
    (∀i,i<l->O.kle (kk O key a (lo+i)) (kk O key a (lo+k)))/\∀i,u<=i->i<k->O.klt (kk O key a (lo+k)) (kk O key a (lo+i))) ?_ ?_ ⟨rfl,0,k,rfl,by omega,by omega,by omega,λi hi=>by omega,λi o p=>by omega⟩)
  case _=>
   rintro x c b _ N ⟨rfl,l,u,rfl,K,t,L,q,r⟩;dsimp only;by_cases B:l≥u
   .rw[aj B]
    obtain rfl:l=u:=by omega
    refine aI ?_;exact ins l t q r _ λf p1 p2=>⟨rfl,f,rfl,p1,p2⟩
   .rw[ai B]
    refine aD (lK cp hk rfl g w (by omega) (by omega) ?_);dsimp only;cases e:O.blt (kk O key a (lo+k)) (kk O key a (lo+(l+u)/2)) with
    |true=>exact aI ⟨rfl,l,(l+u)/2,rfl,by omega,by omega,by omega,q,λi o p=>KeyOrd.klt_of_klt_of_kle e (asc _ _ o p)⟩
    |false=>exact aI ⟨rfl,(l+u)/2+1,u,rfl,by omega,by omega,by omega,λi o=>kT (asc i _ (by omega) (by omega)) e,r⟩
  case _=>
   rintro c b ⟨rfl,l,u,rfl,K,t,L,q,r⟩;obtain rfl:l=u:=by omega
   exact ins l t q r _ λf p1 p2=>⟨rfl,f,rfl,p1,p2⟩
 .rintro c b ⟨rfl,a,rfl,w,asc⟩
  rw[show min (max (max ok 1) n) n=n by omega] at asc;exact aI (h a w asc)
 .intro i j m z
  by_cases P:ok=0
  .obtain rfl:i=j:=by omega
   exact iL _
  .exact F i j m (by omega)
end
def mX(lo a nrem:Nat):SM (Option (Option Nat)×Nat):=forIn [a:nrem] ((none,a):Option (Option Nat)×Nat) λ_ c=>do
 match <-ltAt' (lo+c.2) (lo+c.2 - 1) with
 |some w=>if w then pure (.done (none,c.2)) else pure (.yield (none,c.2+1))
 |_=>pure (.done (some none,c.2))
def mY(lo n nrem:Nat):SM (Option Nat):=do
 reverseSlice' lo (lo+n)
 let c <-mX lo n nrem
 match c.1 with
 |some r=>pure r
 |none=>pure (some c.2)
def sq(lo n nrem:Nat):SM (Option (Option Nat)×Nat×Nat):=forIn [n:nrem] ((none,n,0):Option (Option Nat)×Nat×Nat) λ_ c=>do
 match <-ltAt' (lo+c.2.1) (lo+c.2.1 - 1) with
 |some w=>
  if w then
   if c.2.2>0 then do
    reverseSlice' (lo+c.2.1 - (c.2.2+1)) (lo+c.2.1)
    pure (.yield (none,c.2.1+1,0))
   else pure (.yield (none,c.2.1+1,0))
  else do
   match <-ltAt' (lo+c.2.1 - 1) (lo+c.2.1) with
   |some v=>if v then pure (.done (none,c.2.1,c.2.2)) else pure (.yield (none,c.2.1+1,c.2.2+1))
   |_=>pure (.done (some none,c.2.1,c.2.2))
 |_=>pure (.done (some none,c.2.1,c.2.2))
def pL(lo n nrem:Nat):SM (Option Nat):=do
 rule "list.sort.descending-run"
 let c <-sq lo (n+1) nrem
 match c.1 with
 |some r=>pure r
 |none=>
  if c.2.2>0 then do
   reverseSlice' (lo+c.2.1 - (c.2.2+1)) (lo+c.2.1)
   mY lo c.2.1 nrem
  else mY lo c.2.1 nrem
theorem Iz(lo nrem:Nat):countRun' lo nrem=(do
 let c <-mX lo 1 nrem
 match c.1 with
 |some r=>pure r
 |none=>
  if c.2==nrem then pure (some c.2)
  else if c.2>1 then do
   match <-ltAt' lo (lo+c.2 - 1) with
   |some v=>if v then pure (some c.2) else do
    reverseSlice' lo (lo+c.2)
    pL lo c.2 nrem
   |_=>pure none
  else pL lo c.2 nrem):=by
 rw[countRun'_eq]
 have tl:∀n:Nat,mY lo n nrem=(do
   reverseSlice' lo (lo+n)
   let c <-mX lo n nrem
   match c.1 with
   |some r=>pure r
   |none=>pure (some c.2)):=λn=>rfl
 dsimp only[pL,mY,sq,mX]
 congr 1;funext c
 obtain⟨f,n⟩:=c
 cases f with
 |some q=>rfl
 |none=>
  dsimp only
  split
  .rfl
  .split
   .congr 1;funext o
    cases o with
    |none=>rfl
    |some v=>
     dsimp only
     split
     .rfl
     .congr 1;funext _;congr 1;funext _;congr 1;funext d
      obtain⟨b,m,q⟩:=d
      cases b with
      |some z=>rfl
      |none=>
       dsimp only
       split
       .congr 1;funext _;congr 1;funext _;congr 1;funext e
        obtain⟨a,k⟩:=e
        cases a<;>rfl
       .congr 1;funext _;congr 1;funext e
        obtain⟨a,k⟩:=e
        cases a<;>rfl
   .congr 1;funext _;congr 1;funext d
    obtain⟨b,m,q⟩:=d
    cases b with
    |some z=>rfl
    |none=>
     dsimp only
     split
     .congr 1;funext _;congr 1;funext _;congr 1;funext e
      obtain⟨a,k⟩:=e
      cases a<;>rfl
     .congr 1;funext _;congr 1;funext e
      obtain⟨a,k⟩:=e
      cases a<;>rfl
section
variable{M:Model}{A:Around}{E:aA}{s:Shared}{C:SortKind}{G:Keyed->Prop}{O:KeyOrd}{key:Keyed->O.α}
theorem xZ{arr:Array Keyed}{i j:Nat}(a:j<=arr.size)(t:Nat):kk O key (mirror arr i j ((j - i)/2)) t=if i<=t/\t<j then kk O key arr (i+j - 1 - t) else kk O key arr t:=by
 have e:=getElem?_mirror_all (xs:=arr) (i:=i) a t;split at e
 .rename_i c;rw[aj c];exact lG e
 .rename_i c;rw[ai c];exact lG e
theorem qa{arr:Array Keyed}{i j:Nat}{v:O.α}(a:j<=arr.size)(h:∀t,i<=t->t<j->kk O key arr t=v)(t:Nat):kk O key (mirror arr i j ((j - i)/2)) t=kk O key arr t:=by
 rw[xZ a];split
 .rw[h _ (by omega) (by omega),h t (by omega) (by omega)]
 .rfl
theorem vf{st:SortSt}{arr:Array Keyed}{i j:Nat}{Q:Unit->SortSt->Prop}(h:Q () (setArr st (mirror arr i j ((j - i)/2)))):wpS M A E s (reverseSlice' i j) Q (setArr st arr):=by
 rw[reverseSlice'_eq];exact gE h
variable(cp:Cp M A E s C G (byKey O key)){a0:Array Keyed}{lo nrem:Nat}{st:SortSt}(hk:kindOf st=C)(g:∀x∈a0.toList,G x)(hn:lo+nrem<=a0.size)
include cp hk g hn
theorem AX{arr:Array Keyed}{a:Nat}{Q:Option (Option Nat)×Nat->SortSt->Prop}(w:Wk a0 arr lo)(h1:1<=a)(h2:a<=nrem)(f:cU O key arr lo a)
  (h:∀n,a<=n->n<=nrem->cU O key arr lo n->(n=nrem\/O.klt (kk O key arr (lo+n)) (kk O key arr (lo+(n - 1))))->Q (none,n) (setArr st arr)):wpS M A E s (mX lo a nrem) Q (setArr st arr):=by
 unfold mX;refine fJ (I:=λx c b=>b=setArr st arr/\c=(none,x)/\cU O key arr lo x) ?_ ?_ ⟨rfl,rfl,f⟩
 .rintro x c b k l ⟨rfl,rfl,asc⟩
  dsimp only;rw[show lo+x - 1=lo+(x - 1) by omega];refine aD (lK cp hk rfl g w (by omega) (by omega) ?_);dsimp only;cases e:O.blt (kk O key arr (lo+x)) (kk O key arr (lo+(x - 1))) with
  |true=>exact aI (h x k (by omega) asc (.inr e))
  |false=>
   refine aI ⟨rfl,rfl,λi j d m=>?_⟩;rcases f_ j x with c|c
   .exact asc i j d c
   .obtain rfl:j=x:=by omega
    rcases f_ i j with c'|c'
    .exact kT (asc i (j - 1) (by omega) (by omega)) e
    .obtain rfl:i=j:=by omega
     exact iL _
 .rintro c b ⟨rfl,rfl,asc⟩
  rw[Nat.max_eq_right h2] at asc ⊢;exact h nrem h2 (aH _) asc (.inl rfl)
theorem Ge{arr:Array Keyed}{n:Nat}{Q:Option Nat->SortSt->Prop}(w:Wk a0 arr lo)(h1:1<=n)(h2:n<=nrem)(c:mK O key arr lo n)
  (h:∀m a,Wk a0 a lo->1<=m->m<=nrem->cU O key a lo m->Q (some m) (setArr st a)):wpS M A E s (mY lo n nrem) Q (setArr st arr):=by
 unfold mY;refine aD (vf ?_);have b:Wk a0 (mirror arr lo (lo+n) ((lo+n - lo)/2)) lo:=w.tU (aH _) (by omega);refine aD (AX cp hk g hn b h1 h2 ?_ λm f d asc _=>aI (h m _ b (by omega) d asc));intro i j e k;rw[xZ (by rw[w.size];omega),xZ (by rw[w.size];omega),aj (by omega),aj (by omega),show lo+(lo+n) - 1 - (lo+i)=lo+(n - 1 - i) by omega,show lo+(lo+n) - 1 - (lo+j)=lo+(n - 1 - j) by omega];exact c _ _ (by omega) (by omega)
theorem Jz{arr:Array Keyed}{n:Nat}{Q:Option (Option Nat)×Nat×Nat->SortSt->Prop}(w:Wk a0 arr lo)(h1:1<=n)(h2:n<=nrem)(y:mK O key arr lo n)
  (h:∀m q a,Wk a0 a lo->n<=m->m<=nrem->mK O key a lo m->q+1<=m->(∀t,lo+m - (q+1)<=t->t<lo+m->kk O key a t=kk O key a (lo+(m - 1)))->Q (none,m,q) (setArr st a)):wpS M A E s (sq lo n nrem) Q (setArr st arr):=by
 unfold sq;refine fJ (I:=λx c f=>∃q a,f=setArr st a/\c=(none,x,q)/\Wk a0 a lo/\mK O key a lo x/\q+1<=x/\∀t,lo+x - (q+1)<=t->t<lo+x->kk O key a t=kk O key a (lo+(x - 1))) ?_ ?_ ⟨0,arr,rfl,rfl,w,y,by omega,λt t1 p=>by congr 1;omega⟩
 .rintro x c f z D ⟨q,a,rfl,rfl,w,b,o,l⟩
  dsimp only;rw[show lo+x - 1=lo+(x - 1) by omega];have hz:lo+x<=a.size:=by rw[w.size];omega
  refine aD (lK cp hk rfl g w (by omega) (by omega) ?_);dsimp only;cases e:O.blt (kk O key a (lo+x)) (kk O key a (lo+(x - 1))) with
  |true=>
   rw[aj rfl];have d:∀r:Array Keyed,(∀t,kk O key r t=kk O key a t)->mK O key r lo (x+1):=λr u i j k B=>by
    rw[u,u];rcases f_ j x with c|c
    .exact b i j k c
    .obtain rfl:j=x:=by omega
     rcases f_ i j with c'|c'
     .exact kT (vI e) (b i (j - 1) (by omega) (by omega))
     .obtain rfl:i=j:=by omega
      exact iL _
   by_cases v:q>0
   .rw[aj v]
    exact aD (vf (aI ⟨0,_,rfl,rfl,w.tU (by omega) (by omega),d _ (qa hz l),by omega,λt t1 p=>by congr 1;omega⟩))
   .rw[ai v]
    exact aI ⟨0,_,rfl,rfl,w,d _ (λ_=>rfl),by omega,λt t1 p=>by congr 1;omega⟩
  |false=>
   rw[ai (by simp)];refine aD (lK cp hk rfl g w (by omega) (by omega) ?_);dsimp only;cases C:O.blt (kk O key a (lo+(x - 1))) (kk O key a (lo+x)) with
   |true=>exact aI (h x q a w z (by omega) b o l)
   |false=>
    have eq:kk O key a (lo+x)=kk O key a (lo+(x - 1)):=KeyOrd.kle_antisymm C e;refine aI ⟨q+1,a,rfl,rfl,w,λi j k B=>?_,by omega,λt t1 p=>?_⟩
    .rcases f_ j x with c|c
     .exact b i j k c
     .obtain rfl:j=x:=by omega
      rcases f_ i j with c'|c'
      .rw[eq];exact b i (j - 1) (by omega) (by omega)
      .obtain rfl:i=j:=by omega
       exact iL _
    .rw[add_sub_cancel,eq]
     rcases f_ t (lo+x) with c|c
     .exact l t (by omega) c
     .obtain rfl:t=lo+x:=by omega
      exact eq
 .rintro c f ⟨q,a,rfl,rfl,w,b,o,l⟩
  rw[Nat.max_eq_right h2] at b o l ⊢;exact h nrem q a w h2 (aH _) b o l
theorem D4{arr:Array Keyed}{n:Nat}{Q:Option Nat->SortSt->Prop}(w:Wk a0 arr lo)(h2:n+1<=nrem)(l:mK O key arr lo (n+1))
  (h:∀m a,Wk a0 a lo->1<=m->m<=nrem->cU O key a lo m->Q (some m) (setArr st a)):wpS M A E s (pL lo n nrem) Q (setArr st arr):=by
 unfold pL;refine aD (nY ?_);refine aD (Jz cp hk g hn w (by omega) h2 l λm q a c p e b r f=>?_);dsimp only;by_cases k:q>0
 .rw[aj k]
  refine aD (vf (Ge cp hk g hn (c.tU (by omega) (by omega)) (by omega) e ?_ h));intro i j d o;rw[qa (by rw[c.size];omega) f,qa (by rw[c.size];omega) f];exact b i j d o
 .rw[ai k]
  exact Ge cp hk g hn c (by omega) e b h
theorem IA{arr:Array Keyed}{Q:Option Nat->SortSt->Prop}(w:Wk a0 arr lo)(h1:1<=nrem)
  (h:∀m a,Wk a0 a lo->1<=m->m<=nrem->cU O key a lo m->Q (some m) (setArr st a)):wpS M A E s (countRun' lo nrem) Q (setArr st arr):=by
 rw[Iz];have one:cU O key arr lo 1:=λi j d k=>by
  obtain rfl:i=j:=by omega
  exact iL _
 refine aD (AX cp hk g hn w (aH _) h1 one λn n1 n2 asc or=>?_);dsimp only;by_cases f:n=nrem
 .rw[aj (by simpa using f)]
  exact aI (h n arr w n1 n2 asc)
 .rw[ai (by simpa using f)]
  have b:=or.resolve_left f;by_cases l:n>1
  .rw[aj l,show lo+n - 1=lo+(n - 1) by omega]
   refine aD (lK cp hk rfl g w (by omega) (by omega) ?_);dsimp only;cases e:O.blt (kk O key arr lo) (kk O key arr (lo+(n - 1))) with
   |true=>exact aI (h n arr w n1 n2 asc)
   |false=>
    rw[ai (by simp)];have flat:∀t,lo<=t->t<lo+n->kk O key arr t=kk O key arr (lo+(n - 1)):=λt t1 o=>by
     have a1:=asc 0 (t - lo) (by omega) (by omega);have a2:=asc (t - lo) (n - 1) (by omega) (by omega);rw[show lo+(t - lo)=t by omega] at a1 a2;exact KeyOrd.kle_antisymm a2 (kT e a1)
    have hz:lo+n<=arr.size:=by rw[w.size];omega
    refine aD (vf (D4 cp hk g hn (w.tU (aH _) (by omega)) (by omega) ?_ h));intro i j d k;rw[qa hz flat,qa hz flat];rcases f_ j n with c|c
    .rw[flat _ (by omega) (by omega),flat (lo+i) (by omega) (by omega)];exact iL _
    .obtain rfl:j=n:=by omega
     rcases f_ i j with c'|c'
     .rw[flat (lo+i) (by omega) (by omega)];exact vI b
     .obtain rfl:i=j:=by omega
      exact iL _
  .rw[ai l]
   obtain rfl:n=1:=by omega
   refine D4 cp hk g hn w (by omega) ?_ h;intro i j d k;rcases f_ i j with c'|c'
   .obtain rfl:i=0:=by omega
    obtain rfl:j=1:=by omega
    exact vI b
   .obtain rfl:i=j:=by omega
    exact iL _
end
abbrev Ru:=Nat×Nat×Nat
def uQ(size pw:Nat):SM (Option Unit×Unit):=forIn [0:size] ((none,()):Option Unit×Unit) λ_ c=>do
 let st <-get
 match (if (pendingOf st).size>1 then (pendingOf st)[(pendingOf st).size - 2]? else none) with
 |some (_,_,older)=>
  if older<=pw then pure (.done (none,()))
  else do
   let b <-PyProof.Rows.mergeAt' ((pendingOf st).size - 2)
   if !b then pure (.done (some (),())) else pure (.yield (none,()))
 |_=>pure (.done (none,()))
def qF(size lo n:Nat):SM (ForInStep (Option Unit×Nat)):=do
 let st <-get
 match (pendingOf st).back? with
 |some (s1,n1,_)=>do
  let c <-uQ size (power' size (2*s1+n1) (2*s1+n1+n1+n) size)
  match c.1 with
  |some r=>pure (.done (some r,lo))
  |none=>do
   modify λs=>setPending s ((pendingOf s).modify ((pendingOf s).size - 1) λ(st,len,_)=>(st,len,power' size (2*s1+n1) (2*s1+n1+n1+n) size))
   modify λs=>setPending s ((pendingOf s).push (lo,n,0))
   pure (.yield (none,lo+n))
 |_=>do
  modify λs=>setPending s ((pendingOf s).push (lo,n,0))
  pure (.yield (none,lo+n))
def uS(size yl lo:Nat):SM (ForInStep (Option Unit×Nat)):=
 if lo≥size then pure (.done (none,lo))
 else do
  match <-countRun' lo (size - lo) with
  |some found=>
   if found<yl then do
    rule "list.sort.binary-insertion"
    let b <-binarySort' lo (min (size - lo) yl) found
    if !b then pure (.done (some (),lo)) else qF size lo (min (size - lo) yl)
   else qF size lo found
  |_=>pure (.done (some (),lo))
def pick(p:Array Ru):Nat:=if (if p.size - 2>0 then p[p.size - 2 - 1]?.map (·.2.1) else none).any (·<(p[p.size - 2+1]?.elim 0 (·.2.1))) then p.size - 2 - 1 else p.size - 2
def qD(size:Nat):SM (Option Unit×Unit):=forIn [0:size] ((none,()):Option Unit×Unit) λ_ c=>do
 let st <-get
 if (pendingOf st).size<=1 then pure (.done (none,()))
 else do
  let b <-PyProof.Rows.mergeAt' (pick (pendingOf st))
  if !b then pure (.done (some (),())) else pure (.yield (none,()))
theorem RL:sortRuns'=(do
 let st <-get
 let c <-forIn [0:(arrOf st).size] ((none,0):Option Unit×Nat) λ_ c=>uS (arrOf st).size (minRun' (arrOf st).size (arrOf st).size 0) c.2
 match c.1 with
 |some r=>pure r
 |none=>do
  let d <-qD (arrOf st).size
  match d.1 with
  |some r=>pure r
  |none=>pure ()):=by
 rw[sortRuns'_eq]
 dsimp only[qD,uS,qF,uQ,pick]
 congr 1;funext st
 congr 1
 .congr 1;funext x c
  obtain⟨f,lo⟩:=c
  dsimp only
  split
  .rfl
  .congr 1;funext o
   cases o with
   |none=>rfl
   |some found=>
    dsimp only
    split
    .congr 1;funext _;congr 1;funext b
     cases b with
     |false=>rfl
     |true=>
      congr 1;congr 1;funext a
      cases (pendingOf a).back? with
      |none=>rfl
      |some q=>
       dsimp only
       congr 1;funext d
       obtain⟨e,g⟩:=d
       cases e<;>rfl
    .congr 1;funext a
     cases (pendingOf a).back? with
     |none=>rfl
     |some q=>
      dsimp only
      congr 1;funext d
      obtain⟨e,g⟩:=d
      cases e<;>rfl
 .funext c
  obtain⟨f,lo⟩:=c
  cases f with
  |some r=>rfl
  |none=>
   dsimp only
   congr 1;funext d
   obtain⟨e,g⟩:=d
   cases e<;>rfl
def gB:List Ru->Nat->Nat->Prop
 |[],f,t=>f=t
 |q::rest,f,t=>q.1=f/\0<q.2.1/\gB rest (f+q.2.1) t
theorem uN:∀{p q:List Ru} {f t:Nat},gB (p++q) f t↔∃m,gB p f m/\gB q m t
 |[],q,f,t=>⟨λh=>⟨f,rfl,h⟩,λ⟨m,e,h⟩=>by cases e;exact h⟩
 |x::p,q,f,t=>by
  show(x.1=f/\0<x.2.1/\gB (p++q) (f+x.2.1) t)↔_;rw[uN];exact⟨λ⟨a,b,m,c,d⟩=>⟨m,⟨a,b,c⟩,d⟩,λ⟨m,⟨a,b,c⟩,d⟩=>⟨a,b,m,c,d⟩⟩
theorem qB:∀{p:List Ru} {f t:Nat},gB p f t->f+p.length<=t/\∀q∈p,f<=q.1/\q.1+q.2.1<=t
 |[],f,t,h=>by cases (show f=t from h);exact⟨aH _,λq hq=>by simp at hq⟩
 |x::p,f,t,h=>by
  obtain⟨a,b,c⟩:=h;obtain⟨d,e⟩:=qB c;refine⟨by rw[gC];omega,λq hq=>?_⟩;rcases aX.mp hq with rfl|hq
  .constructor<;>omega
  .have:=e q hq;constructor<;>omega
section
variable{M:Model}{A:Around}{E:aA}{s:Shared}{C:SortKind}{G:Keyed->Prop}{O:KeyOrd}{key:Keyed->O.α}
theorem tG{arr:Array Keyed}{lo n i:Nat}(h:lo+n<=arr.size)(hi:i<n)(h2:i<(seg arr lo n).length):kk O key arr (lo+i)=key ((seg arr lo n)[i]'h2):=by
 have h1:lo+i<arr.size:=by omega
 unfold kk;rw[cP h1,<-seg_at h hi h1 h2];rfl
theorem r_{arr:Array Keyed}{lo n:Nat}(h:lo+n<=arr.size):cU O key arr lo n↔(seg arr lo n).Pairwise (Le (byKey O key)):=by
 have e:=qG h;refine⟨λa=>jS.mpr λi j hi b d=>?_,λp i j d b=>?_⟩
 .have:=a i j (by omega) (by omega)
  rw[tG h (by omega) hi,tG h (by omega) b] at this;exact this
 .rcases f_ i j with c|c
  .have:=jS.mp p i j (by omega) (by omega) c
   rw[tG h (by omega) (by omega),tG h b (by omega)];exact this
  .obtain rfl:i=j:=by omega
   exact iL _
theorem r9{arr b:Array Keyed}{lo n:Nat}(h:∀t,lo<=t->t<lo+n->b[t]?=arr[t]?)(a:cU O key arr lo n):cU O key b lo n:=λi j c d=>by
 rw[lG (h (lo+i) (by omega) (by omega)),lG (h (lo+j) (by omega) (by omega))];exact a i j c d
structure PI(O:KeyOrd)(key:Keyed->O.α)(C:SortKind)(a0:Array Keyed)(st:SortSt)(lo:Nat):Prop where
 pm:(arrOf st).Perm a0
 fl:failedOf st=none
 kd:kindOf st=C
 le:lo<=a0.size
 ru:gB (pendingOf st).toList 0 lo
 so:∀q∈(pendingOf st).toList,cU O key (arrOf st) q.1 q.2.1
theorem two{p:List Ru}{i:Nat}(h:i+1<p.length):∃pre x y post,p=pre++x::y::post/\pre.length=i:=by
 refine⟨p.take i,p[i],p[i+1],p.drop (i+2),?_,by rw[gV];omega⟩;rw[<-oM (by omega),<-oM (by omega),fk]
theorem joined(cp:Cp M A E s C G (byKey O key)){a0:Array Keyed}{st:SortSt}{lo i:Nat}{Q:Bool->SortSt->Prop}(g:∀x∈a0.toList,G x)(pi:PI O key C a0 st lo)(hi:i+1<(pendingOf st).size)
  (h:∀b,PI O key C a0 b lo->(pendingOf b).size+1=(pendingOf st).size->(∀t,lo<=t->(arrOf b)[t]?=(arrOf st)[t]?)->Q true b):wpS M A E s (PyProof.Rows.mergeAt' i) Q st:=by
 show wpS M A E s (TS.mergeAt' i) Q st;obtain⟨pre,⟨sa,na,c⟩,⟨sb,nb,d⟩,post,e,k⟩:=two (p:=(pendingOf st).toList) (i:=i) (by simpa using hi);have ru:=pi.ru;rw[e,uN] at ru;obtain⟨m,y,z,B,D,F,o⟩:=ru;dsimp only at z B D F o;subst z D;have in1:=qB y;have f:=qB o;have hz:sa+na+nb<=(arrOf st).size:=by rw[pi.pm.size_eq];have:=pi.le;omega
 have J:(pendingOf st)[i]?=some (sa,na,c):=by
  rw[<-jg,e,kE (by omega),k,sub_self];rfl
 have K:(pendingOf st)[i+1]?=some (sa+na,nb,d):=by
  rw[<-jg,e,kE (by omega),k,rF];rfl
 have np:(((pendingOf st).setIfInBounds i (sa,na+nb,c)).eraseIdxIfInBounds (i+1)).toList=pre++(sa,na+nb,c)::post:=by
  rw[Array.toList_eraseIdxIfInBounds,Array.toList_setIfInBounds,e,zR _ _ (by omega),k,sub_self,List.set_cons_zero,List.eraseIdx_append_of_length_le (by omega),k,rF];rfl
 have L:∀x∈(arrOf st).toList,G x:=λx r=>g x ((kN.mp pi.pm).mem_iff.mp r);have gs:∀(l n:Nat),∀x∈seg (arrOf st) l n,G x:=λl n x r=>L x (eF (dQ r));have u:sa+na<=(arrOf st).size:=by omega
 have N:=(r_ u).mp (pi.so (sa,na,c) (by rw[e];simp));have P:=(r_ hz).mp (pi.so (sa+na,nb,d) (by rw[e];simp));refine Ny J K ?_;refine(Nj cp (st:=yV st (((pendingOf st).setIfInBounds i (sa,na+nb,c)).eraseIdxIfInBounds (i+1))) pi.kd pi.fl rfl B F hz (gs _ _) (gs _ _) N P ?_);intro a gl Z j H sz;have j:a.toList=(arrOf st).toList.take sa++Z++(arrOf st).toList.drop (sa+na+nb):=j;have same:(arrOf st).toList=(arrOf st).toList.take sa++(seg (arrOf st) sa na++seg (arrOf st) (sa+na) nb)++(arrOf st).toList.drop (sa+na+nb):=by
  rw[bJ,bJ,<-cut,<-cut,fk]
 have pm:a.Perm (arrOf st):=by
  refine kN.mpr ?_;rw[j];refine Perm.trans ?_ (Perm.of_eq same.symm);exact jo _ (iM _ H)
 have I:Z.length=na+nb:=by
  rw[H.length_eq,cA,qG (by omega),qG hz]
 have lt:((arrOf st).toList.take sa).length=sa:=by rw[gV,bE];omega
 have out:∀t,(t<sa\/sa+na+nb<=t)->a[t]?=(arrOf st)[t]? :=λt ht=>by
  rw[<-jg,<-jg,j];rcases ht with ht|ht
  .rw[bJ,gU (by omega),List.getElem?_take,aj ht]
  .rw[kE (by rw[cA];omega),List.getElem?_drop,cA,lt,I]
   congr 1;omega
 have v:seg a sa (na+nb)=Z:=by
  unfold seg;rw[j,bJ,List.drop_append,kX (by omega),lt,sub_self,oO,fh,List.take_append,iI (by omega),I,sub_self,List.take_zero,iN]
 refine h _ ⟨pm.trans pi.pm,pi.fl,pi.kd,pi.le,?_,?_⟩ ?_ ?_
 .show gB (((pendingOf st).setIfInBounds i (sa,na+nb,c)).eraseIdxIfInBounds (i+1)).toList 0 lo
  rw[np];exact uN.mpr ⟨sa,y,rfl,by show 0<na+nb;omega,by show gB post (sa+(na+nb)) lo;rw[<-Nat.add_assoc];exact o⟩
 .show ∀q∈(((pendingOf st).setIfInBounds i (sa,na+nb,c)).eraseIdxIfInBounds (i+1)).toList,cU O key a q.1 q.2.1
  rw[np];intro q hq;rcases br.mp hq with hq|hq
  .have:=in1.2 q hq
   exact r9 (λt t1 R=>out t (.inl (by omega))) (pi.so q (by rw[e];exact jP _ hq))
  .rcases aX.mp hq with rfl|hq
   .have w:sa+(na+nb)<=a.size:=by rw[pm.size_eq];omega
    exact(r_ w).mpr (by rw[v];exact sz)
   .have:=f.2 q hq
    exact r9 (λt t1 R=>out t (.inr (by omega))) (pi.so q (by rw[e];simp[hq]))
 .show(((pendingOf st).setIfInBounds i (sa,na+nb,c)).eraseIdxIfInBounds (i+1)).size+1=_
  rw[<-bE,np,<-bE (xs:=pendingOf st),e];simp only[cA,gC];omega
 .intro t ht
  exact out t (.inr (by have:=f.1;omega))
end
abbrev re(pw:Nat):Ru->Ru:=λ(a,b,_)=>(a,b,pw)
theorem EJ{a:Nat}:∀{p:List Ru} {i f t:Nat},gB p f t->gB (p.modify i (re a)) f t
 |[],i,f,t,h=>by rw[List.modify_nil];exact h
 |x::p,0,f,t,h=>h
 |x::p,i+1,f,t,h=>⟨h.1,h.2.1,EJ h.2.2⟩
theorem DA{b:Nat}:∀{p:List Ru} {i:Nat} {q:Ru},q∈p.modify i (re b)->∃a∈p,a.1=q.1/\a.2.1=q.2.1
 |[],i,q,h=>by rw[List.modify_nil] at h;cases h
 |x::p,0,q,h=>by
  rcases aX.mp (show q∈re b x::p from h) with rfl|h
  .exact⟨x,cB,rfl,rfl⟩
  .exact⟨q,b9 _ h,rfl,rfl⟩
 |x::p,i+1,q,h=>by
  rcases aX.mp (show q∈x::p.modify i (re b) from h) with rfl|h
  .exact⟨q,cB,rfl,rfl⟩
  .obtain⟨a,h1,h2⟩:=DA h
   exact⟨a,b9 _ h1,h2⟩
section
variable{M:Model}{A:Around}{E:aA}{s:Shared}{C:SortKind}{G:Keyed->Prop}{O:KeyOrd}{key:Keyed->O.α}
variable(cp:Cp M A E s C G (byKey O key)){a0:Array Keyed}(g:∀x∈a0.toList,G x)
theorem PI.push{st:SortSt}{lo n:Nat}(pi:PI O key C a0 st lo)(hn:0<n)(a:lo+n<=a0.size)(as:cU O key (arrOf st) lo n):PI O key C a0 (setPending st ((pendingOf st).push (lo,n,0))) (lo+n):=by
 have e:((pendingOf st).push (lo,n,0)).toList=(pendingOf st).toList++[(lo,n,0)]:=kQ;refine⟨pi.pm,pi.fl,pi.kd,a,?_,?_⟩
 .show gB ((pendingOf st).push (lo,n,0)).toList 0 (lo+n)
  rw[e];exact uN.mpr ⟨lo,pi.ru,rfl,hn,rfl⟩
 .show ∀q∈((pendingOf st).push (lo,n,0)).toList,cU O key (arrOf st) q.1 q.2.1
  rw[e];intro q hq;rcases br.mp hq with hq|hq
  .exact pi.so q hq
  .rw[bK.mp hq];exact as
theorem PI.re{st:SortSt}{lo i a:Nat}(pi:PI O key C a0 st lo):PI O key C a0 (setPending st ((pendingOf st).modify i (re a))) lo:=by
 have e:((pendingOf st).modify i (TS.re a)).toList=(pendingOf st).toList.modify i (TS.re a):=Array.toList_modify;refine⟨pi.pm,pi.fl,pi.kd,pi.le,?_,?_⟩
 .show gB ((pendingOf st).modify i (TS.re a)).toList 0 lo
  rw[e];exact EJ pi.ru
 .show ∀q∈((pendingOf st).modify i (TS.re a)).toList,cU O key (arrOf st) q.1 q.2.1
  rw[e];intro q b;obtain⟨c,h1,h2,h3⟩:=DA b;rw[<-h2,<-h3];exact pi.so c h1
theorem PI.arr{st:SortSt}{lo:Nat}{a:Array Keyed}(pi:PI O key C a0 st lo)(w:Wk (arrOf st) a lo):PI O key C a0 (setArr st a) lo:=by
 refine⟨w.pm.trans pi.pm,pi.fl,pi.kd,pi.le,pi.ru,λq b=>?_⟩;have:=(qB pi.ru).2 q b;exact r9 (λt t1 c=>w.fx t (by omega)) (pi.so q b)
include cp g
theorem QL{st:SortSt}{lo n size i:Nat}{Q:Option Unit×Unit->SortSt->Prop}(pi:PI O key C a0 st lo)(as:cU O key (arrOf st) lo n)
  (h:∀a,PI O key C a0 a lo->cU O key (arrOf a) lo n->Q (none,()) a):wpS M A E s (uQ size i) Q st:=by
 unfold uQ;refine fJ (I:=λx c a=>c=(none,())/\PI O key C a0 a lo/\cU O key (arrOf a) lo n) ?_ ?_ ⟨rfl,pi,as⟩
 .rintro x c a _ _ ⟨rfl,b,d⟩
  refine aD (jm ?_);by_cases f:(pendingOf a).size>1
  .rw[aj f]
   cases e:(pendingOf a)[(pendingOf a).size - 2]? with
   |none=>exact aI (h a b d)
   |some q=>
    dsimp only;split
    .exact aI (h a b d)
    .refine aD (joined cp g b (by omega) λj p2 _ f2=>?_)
     exact aI ⟨rfl,p2,r9 (λt t1 _=>f2 t t1) d⟩
  .rw[ai f]
   exact aI (h a b d)
 .rintro c a ⟨rfl,b,d⟩
  exact h a b d
theorem ET{st:SortSt}{lo n size:Nat}{R:ForInStep (Option Unit×Nat)->SortSt->Prop}(pi:PI O key C a0 st lo)(as:cU O key (arrOf st) lo n)(hn:0<n)(d:lo+n<=a0.size)
  (h:∀a,PI O key C a0 a (lo+n)->R (.yield (none,lo+n)) a):wpS M A E s (qF size lo n) R st:=by
 unfold qF;refine aD (jm ?_);cases e:(pendingOf st).back? with
 |none=>exact aD (gE (aI (h _ (pi.push hn d as))))
 |some q=>
  dsimp only;refine aD (QL cp g pi as λa b c=>?_);dsimp only;exact aD (gE (aD (gE (aI (h _ ((PI.re b).push hn d c))))))
theorem QU{st:SortSt}{lo b:Nat}{R:ForInStep (Option Unit×Nat)->SortSt->Prop}(pi:PI O key C a0 st lo)
  (h1:lo=a0.size->R (.done (none,lo)) st)(h2:∀n c,0<n->PI O key C a0 c (lo+n)->R (.yield (none,lo+n)) c):wpS M A E s (uS a0.size b lo) R st:=by
 unfold uS;have k:=pi.le;have e:∀x∈(arrOf st).toList,G x:=λx i=>g x ((kN.mp pi.pm).mem_iff.mp i);have hz:(arrOf st).size=a0.size:=pi.pm.size_eq;by_cases f:lo≥a0.size
 .rw[aj f]
  exact aI (h1 (by omega))
 .rw[ai f]
  refine aD (IA cp (st:=st) (arr:=arrOf st) pi.kd e (by rw[hz];omega) ⟨Array.Perm.refl _,λ_ _=>rfl⟩ (by omega) λm a w l o as=>?_);dsimp only;by_cases h:m<b
  .rw[aj h]
   refine aD (nY ?_);refine aD (HR cp pi.kd e (by rw[hz];omega) (by omega) w as λp j d=>?_);exact ET cp g (pi.arr j) d (by omega) (by omega) λc q=>h2 _ c (by omega) q
  .rw[ai h]
   exact ET cp g (pi.arr w) as (by omega) (by omega) λc q=>h2 _ c (by omega) q
theorem QI{st:SortSt}{Q:Option Unit×Unit->SortSt->Prop}(pi:PI O key C a0 st a0.size)
  (h:∀a,PI O key C a0 a a0.size->(pendingOf a).size<=1->Q (none,()) a):wpS M A E s (qD a0.size) Q st:=by
 unfold qD;refine fJ (I:=λx c a=>c=(none,())/\PI O key C a0 a a0.size/\((pendingOf a).size<=1\/(pendingOf a).size+x<=a0.size)) ?_ ?_ ⟨rfl,pi,.inr ?_⟩
 .rintro x c a _ _ ⟨rfl,d,o⟩
  refine aD (jm ?_);by_cases e:(pendingOf a).size<=1
  .rw[aj e]
   exact aI (h a d e)
  .rw[ai e]
   have f:pick (pendingOf a)+1<(pendingOf a).size:=by
    have two:∀(b:Bool) (n:Nat),1<n->(if b=true then n - 2 - 1 else n - 2)+1<n:=λb n hn=>by
     cases b
     .rw[ai (by simp)];omega
     .rw[aj rfl];omega
    exact two _ _ (by omega)
   refine aD (joined cp g d f λi p2 j _=>?_);exact aI ⟨rfl,p2,.inr (by omega)⟩
 .rintro c a ⟨rfl,d,o⟩
  exact h a d (by omega)
 .have:=(qB pi.ru).1
  rw[bE] at this;omega
theorem RM{st:SortSt}{Q:Unit->SortSt->Prop}(hk:kindOf st=C)(u:failedOf st=none)(l:pendingOf st= #[])(m:arrOf st=a0)
  (h:∀a,(arrOf a).Perm a0->failedOf a=none->cU O key (arrOf a) 0 a0.size->Q () a):wpS M A E s sortRuns' Q st:=by
 have v:PI O key C a0 st 0:=⟨by rw[m],u,hk,cH _,by rw[l];rfl,λq o=>by rw[l] at o;cases o⟩
 rw[RL]
 refine aD (jm ?_)
 rw[m]
 have last:∀a,PI O key C a0 a a0.size->wpS M A E s (do
   let d <-qD a0.size
   match d.1 with
   |some r=>pure r
   |none=>pure ()) Q a:=λa b=>by
  refine aD (QI cp g b λf p2 p=> ?_)
  refine aI (h f p2.pm p2.fl ?_)
  have ru:=p2.ru
  have so:=p2.so
  rw[<-bE] at p
  match e:(pendingOf f).toList,p with
  |[],_=>
   rw[e] at ru
   have:0=a0.size:=ru
   intro i j _ y
   omega
  |[q],_=>
   rw[e] at ru so
   obtain⟨w,_,t⟩:=ru
   have t:0+q.2.1=a0.size:=t
   have:=so q (bK.mpr rfl)
   rw[w,show q.2.1=a0.size by omega] at this
   exact this
  |_::_::_,z=>simp at z
 refine aD (fJ (I:=λx c a=>∃lo,c=(none,lo)/\PI O key C a0 a lo/\x<=lo) ?_ ?_ ⟨0,rfl,v,aH _⟩)
 .rintro x c a _ B ⟨lo,rfl,b,k⟩
  refine QU cp g b (λe=> ?_) (λn f hn p2=>⟨lo+n,rfl,p2,by omega⟩)
  subst e
  exact last a b
 .rintro c a ⟨lo,rfl,b,k⟩
  have:=b.le
  obtain rfl:lo=a0.size:=by omega
  exact last a b
end
open PySem.W PySem.Spec
section
variable{prog:Program}{w:World}{A:Around}{E:aA}{s:Shared}
theorem zX{vs:List Value}{x:Keyed}(h:x∈(vs.toArray.zip vs.toArray).toList):x.1∈vs/\x.2=x.1:=by
 rw[Array.toList_zip] at h;obtain⟨i,hi,rfl⟩:=fV h;rw[List.getElem_zip];exact⟨cz _,rfl⟩
theorem zY(vs:List Value):(vs.toArray.zip vs.toArray).toList.map (·.2)=vs:=by
 rw[Array.toList_zip];exact List.map_snd_zip (aH _)
theorem Dj{κ:SortKind}{O:KeyOrd}{key:Value->O.α}{a:Addr}{vs:List Value}{n:Nat}{P:PySem.Fin->Shared->Prop}(r:s.heap.get? a=some (seqObj "list" vs.toArray n))(D:vs.length<=sizeLine)
  (hk:∀s':Shared,(∀b o,b≠a->s.heap.get? b=some o->s'.heap.get? b=some o)->2<=vs.length->∀R:SortKind->Shared->Prop,R κ s'->wpAny (model prog w) A (keyKind' vs.toArray) R (λ_ _=>False) s')
  (hc:∀s':Shared,(∀b o,b≠a->s.heap.get? b=some o->s'.heap.get? b=some o)->∀x∈vs,∀y∈vs,∀(R:Bool->Shared->Prop) (E:aA),R (O.blt (key x) (key y)) s'->wpAny (model prog w) A (keyLt' κ x y) R E s')
  (h:∀ys:List Value,ys.Perm vs->ys.Pairwise (λx y=>O.kle (key x) (key y))->P (.done (.ret .none)) {s with heap:=sortedHeap s.heap a vs ys.toArray}):
  wpAny (model prog w) A (Builtin.«list.sort» ⟨[.ref a],[]⟩) P E s:=by
 rw[list_sort_plain]
 have F:a<s.heap.objs.size:=aN r
 refine af (listItems_at r rfl ?_)
 refine af (listUpdate_at r rfl ?_ (by rw[bH];exact D) (cH _))
 obtain⟨g,k⟩:∃g,(s.heap.update a (Obj.mapSeq λ_=>(#[]:Array Value))).get? a=some (seqObj "list" #[] g):=⟨_,get?_update_seq r λ_=> #[]⟩
 refine af (seqEpoch_at k rfl ?_)
 refine af (wpAny_newTuple ?_ (by show vs.length<=_;exact D))
 refine af (vD ?_ (cH _))
 refine dR ?_
 have d:(((s.heap.update a (Obj.mapSeq λ_=>(#[]:Array Value))).push (seqObj "tuple" vs.toArray 0)).push (seqObj "list" #[] 0)).get? a=some (seqObj "list" #[] g):=by
  rw[get?_push_ne _ _ _ (by rw[oz,oA];exact aY (dM F)),get?_push_ne _ _ _ (by rw[oA];exact aY F)]
  exact k
 have kp:∀b o,b≠a->s.heap.get? b=some o->(((s.heap.update a (Obj.mapSeq λ_=>(#[]:Array Value))).push (seqObj "tuple" vs.toArray 0)).push (seqObj "list" #[] 0)).get? b=some o:=λb o J q=>
  aT _ (aT _ (by rw[Heap.get?_update_ne _ _ _ _ J];exact q))
 show wpAny (model prog w) A _ P E {s with heap:=((s.heap.update a (Obj.mapSeq λ_=>(#[]:Array Value))).push (seqObj "tuple" vs.toArray 0)).push (seqObj "list" #[] 0)}
 dsimp only
 have K:(vs.toArray.zip vs.toArray).toList.length=vs.length:=by
  have:=c7 List.length (zY vs)
  rwa [a_] at this
 by_cases h2:vs.toArray.size<2
 .rw[aj h2,aj h2]
  refine af (ak ?_)
  rw[StateT.run_pure]
  refine af (ak ?_)
  dsimp only
  have G:vs.length<2:=by simpa using h2
  have e:=h vs (Perm.refl _) (jS.mpr λi j hi Y L=>by omega)
  have u:(arrOf (SortSt.mk' general' (vs.toArray.zip vs.toArray) #[] 7 none)).map (·.2)=vs.toArray:=by
   apply toList_inj.mp
   rw[Array.toList_map]
   exact zY vs
  rw[u]
  refine af (seqEpoch_at d rfl ?_)
  refine af (listUpdate_at d rfl ?_ (cH _) (by rw[bH];omega))
  simp only[kW,gG,e_]
  exact ak e
 .rw[ai h2,ai h2]
  have G:2<=vs.length:=by
   have:vs.toArray.size=vs.length:=by simp
   omega
  obtain⟨f,v⟩:∃f:Shared,f={s with heap:=((s.heap.update a (Obj.mapSeq λ_=>(#[]:Array Value))).push (seqObj "tuple" vs.toArray 0)).push (seqObj "list" #[] 0)}:=⟨_,rfl⟩
  have l:∀b o,b≠a->s.heap.get? b=some o->f.heap.get? b=some o:=by rw[v];exact kp
  rw[<-v]
  refine af (gD (hk f l G (λm s'=>m=κ/\s'=f) ⟨rfl,rfl⟩) ?_ λ_ _ x=>x.elim)
  rintro m s' ⟨M,es⟩
  rw[M,es]
  have cp:Cp (model prog w) A E f κ (λx:Keyed=>x.1∈vs/\x.2=x.1) (byKey O λx=>key x.1):=by
   refine⟨λ {x y st Q} N S hk q=> ?_,λ {x y} _ _ e=>KeyOrd.klt_asymm e,λ {x y z} _ _ _ g T=>kT g T⟩
   rw[lt'_eq]
   refine aD (jm ?_)
   rw[hk]
   refine aD (wpS_lift (jU (hc f l x.1 N.1 y.1 S.1 _ _ ⟨rfl,?_⟩)))
   exact aI q
  refine af (gD (RM cp (a0:=vs.toArray.zip vs.toArray) (st:=SortSt.mk' κ (vs.toArray.zip vs.toArray) #[] 7 none) (λx B=>zX B) rfl rfl rfl rfl
   (Q:=λ_ c=>(arrOf c).Perm (vs.toArray.zip vs.toArray)/\failedOf c=none/\cU O (λx=>key x.1) (arrOf c) 0 (vs.toArray.zip vs.toArray).size) λc p U t=>⟨p,U,t⟩) ?_ λ_ _ e=>e)
  rintro ⟨⟨⟩,c⟩ V ⟨C,p,H,t⟩
  dsimp only at p H t ⊢
  rw[C]
  have pm:=kN.mp p
  have hz:(arrOf c).size=(vs.toArray.zip vs.toArray).size:=p.size_eq
  have W:seg (arrOf c) 0 (vs.toArray.zip vs.toArray).size=(arrOf c).toList:=by
   unfold seg
   rw[oO,<-hz]
   exact iI (by rw[bE];exact aH _)
  have I:=(r_ (by rw[hz,Nat.zero_add];exact aH _)).mp t
  rw[W] at I
  have py:((arrOf c).toList.map (·.2)).Perm vs:=by
   have:=pm.map (·.2)
   rwa [zY] at this
  have so:((arrOf c).toList.map (·.2)).Pairwise (λx y=>O.kle (key x) (key y)):=by
   rw[jT]
   refine I.imp_of_mem λ {x y} B X e=> ?_
   rw[(zX (pm.mem_iff.mp B)).2,(zX (pm.mem_iff.mp X)).2]
   exact e
  have u:(arrOf c).map (·.2)=((arrOf c).toList.map (·.2)).toArray:=by
   apply toList_inj.mp
   rw[Array.toList_map]
  rw[u]
  subst v
  refine af (seqEpoch_at d rfl ?_)
  refine af (listUpdate_at d rfl ?_ (cH _) (by rw[bH,py.length_eq];omega))
  rw[H]
  simp only[kW,gG,e_]
  exact ak (h _ py so)
end
end TS
section
open PySem PySem.Spec PyProof.Rows
namespace SS
section
variable{prog:Program}{w:World}{A:Around}{E:aA}{s:Shared}{a:Addr}{es:Array (Int×Value)}
theorem Iu{Q:List Value->Shared->Prop}(J:A.handled=none)(B:bF prog w s.heap a es)
  (N:∀(h':Heap) (d:Drawn) (tk:Nat) (zs:List Value),zs.Perm (es.toList.map (·.2))->s.heap.objs.size<=h'.objs.size->(∀b o,s.heap.get? b=some o->h'.get? b=some o)->Q zs {s with heap:=h',drawn:=d,toks:=tk}):
  wpAny (model prog w) A (collect (.ref a)) Q E s:=by
 have alt:a<s.heap.objs.size:=by obtain⟨o,_,_,C,_⟩:=B;exact aN C
 have hz:es.size<scanBound:=by obtain⟨_,_,_,_,_,_,_,_,f,_⟩:=B;exact f
 unfold collect;refine af (rz (eU PySem.F.entry_proto_collect ?_));rw[gg PySem.F.plain_proto_collect _];show wpAny _ A.in1 (newList []>>=λl=>again (.builtin "list.__iadd__" ⟨[l,.ref a],[]⟩)) _ _ s;refine af (fm ?_);refine ak ⟨gW vo _,eU PySem.F.entry_list_iadd ?_⟩;rw[gg vo _];have i:bF prog w (s.heap.push {cls:=.type "list",data:=.seq ([]:List Value).toArray}) a es:=B.keeps λo e=>aT _ e;have v:∀{s':Shared},bF prog w s'.heap a es->s'.TypeIs (.ref a) "set":=λ {s'} x=>by obtain⟨o,_,_,C,hex,_⟩:=x;exact⟨o,C,hex.1⟩
 show wpAny _ A.in1 (Builtin.List.listExtendWith (.ref s.heap.objs.size) (.ref a) (.ref s.heap.objs.size)) _ _ _;unfold Builtin.List.listExtendWith;refine af (kR (v (s':={s with heap:=s.heap.push {cls:=.type "list",data:=.seq ([]:List Value).toArray}}) i) ?_);have h1:Builtin.List.listSameRef (.ref s.heap.objs.size) (.ref a)=false:=by simp[Builtin.List.listSameRef,iH alt]
 have h2:(Value.type "set" ==Value.type "list")=false:=by decide
 have h3:(Value.type "set" ==Value.type "tuple")=false:=by decide
 simp only[h1,h2,h3,Bool.or_false,gG,e_];refine af (Mn (s:={s with heap:=s.heap.push {cls:=.type "list",data:=.seq ([]:List Value).toArray}}) i λh2 d it zs fp St m W D hit G O n k2=>?_);have k:bF prog w h2 a es:=i.keeps λo e=>k2 _ _ e;refine af (dR ?_);unfold Builtin.List.listLengthHint;refine af (wpAny_specialOf (v (s':={s with heap:=h2,drawn:=d}) k) PySem.F.slot_set_len.lookup ?_);dsimp only;have g:splitId "set.__len__"=some ("set","__len__"):=by decide+kernel
 rw[g];dsimp only;refine af (vA (v (s':={s with heap:=h2,drawn:=d}) k) sub_set_self ?_);simp only[Bool.not_true,gG,e_];rw[aj (by decide+kernel)];refine af (kR (v (s':={s with heap:=h2,drawn:=d}) k) ?_);refine ak ?_;rw[aj (by decide+kernel)];refine af (fW ?_);have P:(s.heap.push {cls:=.type "list",data:=.seq ([]:List Value).toArray}).get? s.heap.objs.size=some {cls:=.type "list",data:=.seq ([]:List Value).toArray}:=bI _ rfl;have K:=k2 _ _ P;have p:s.heap.objs.size∉fp:=λz=>by
  rcases G _ z with e|e
  .exact absurd alt (by rw[<-e];exact dZ _)
  .rw[cG] at e
   exact absurd e (Nat.not_succ_le_self _)
 have q:s.heap.objs.size<it:=by rw[cG] at n;exact n
 refine af ?_;show wpAny _ A.in1 (updateSeq s.heap.objs.size (·.push .none)>>=λ_=>updateSeq s.heap.objs.size (·.pop)) _ _ _;refine af (rC K rfl ?_);have L2:=gZ (Obj.mapSeq (·.push Value.none)) K rfl;refine rC L2 rfl ?_;have R:=gZ (Obj.mapSeq (·.pop)) L2 rfl;have r:∀b o,b≠s.heap.objs.size->h2.get? b=some o->((h2.update s.heap.objs.size (Obj.mapSeq (·.push Value.none))).update s.heap.objs.size (Obj.mapSeq (·.pop))).get? b=some o:=
  λb o f e=>(oU _ _ (Ne.symm f)).trans ((oU _ _ (Ne.symm f)).trans e)
 have S:=(W A.in1 J).toS;have hn:zs.length<=sizeLine:=by rw[m.length_eq,a_,bE];exact oR hz
 refine ak ⟨gW ri _,codeAny_extend_loopS S hn _ p _ zs.length 0 _ _ _ rfl (cH _) ((W A.in1 J).frame 0 _ _ D λb f o e=>r b o (λz=>p (z▸f)) e) R (ItemsOf.nil _) λs' c c' y t h=>?_⟩;show wpAny _ A (load s.heap.objs.size>>=_) _ _ s';refine af (wpAny_load t ?_);have u:c.toList=zs:=by
  apply List.ext_getElem?;intro j;rw[jg];by_cases L:j<c.size
  .have M:c[j]?=some (c[j]'L):=cP L
   rw[M];exact(h.2 j _ M).symm
  .rw[n9 (by omega),n_ (by rw[<-h.1];omega)]
 obtain⟨h',g',d',H,I⟩:=s';have T:g'=s.gens:=y.gens;have U:d'=d:=y.drawn;have V:I=s.os:=y.os;subst T;subst U;subst V;refine ak ?_;show Q c.toList _;rw[u];have kp:∀b o,s.heap.get? b=some o->h'.get? b=some o:=λb o e=>by
  have f:b<s.heap.objs.size:=aN e;refine y.heap b o ?_ (r b o (aY f) (k2 _ _ (aT _ e)));simp only[aX,d7,d8,jk];exact⟨aY f,aY (lt_trans f q)⟩
 exact N h' d' H zs m (ji (aN t)) kp
theorem Sa{l:List (Int×Value)}(h:ElemsOf (PySem.strKind prog w) l):∀{zs:List Value},zs.Perm (l.map (·.2))->StrsAre zs (zs.map strOf):=λ {zs} a=>by
 have:∀v∈zs,∃t,v=Value.str (strOf v) t:=λv b=>by
  obtain⟨e,c,rfl⟩:=aS.mp (a.mem_iff.mp b);exact xx h c
 clear a;induction zs with
 |nil=>exact .nil
 |cons v r d=>
  obtain⟨t,e⟩:=this v (by simp);have r':=d λf h'=>this f (by simp[h']);rw[dg];rw[e];exact .cons _ t r'
theorem RQ{Q:aA}(z:A.handled=none)(y:bF prog w s.heap a es)(B:es.size<100)
  (h:∀(h':Heap) (d:Drawn) (tk:Nat) (l:Addr) (e:Nat) (out:List Value) (ss:List Str),s.heap.objs.size<=l->h'.get? l=some (seqObj "list" out.toArray e)->StrsAre out ss->ss.Perm (names es)->ss.Pairwise (λa b=>¬b.cps.toList<a.cps.toList)->
   (∀b o,s.heap.get? b=some o->h'.get? b=some o)->Q (.ref l) {s with heap:=h',drawn:=d,toks:=tk}):
  wpAny (model prog w) A (call (.builtin "sorted") [.ref a]) Q E s:=by
 have c:ElemsOf (PySem.strKind prog w) es.toList:=by obtain⟨_,_,_,_,_,_,c,_⟩:=y;exact c
 refine zF kind_sorted plain_sorted entry_sorted (args_sorted1 _) ?_;unfold Builtin.«sorted»;refine af (m:=checkCount "sorted" 1 1 _) (ak ?_);refine af (Iu z y λh1 d tk zs hz hsz k1=>?_);have g:∀ys:List Value,ys.Perm zs->StrsAre ys (ys.map strOf):=λys n=>Sa c (n.trans hz);have p:∀v∈zs,∃a u,v=Value.str a u:=λv hv=>by
  have:∀(vs:List Value) (ss:List Str),StrsAre vs ss->v∈vs->∃a u,v=Value.str a u:=λvs ss C=>by
   induction C with
   |nil=>intro hv;cases hv
   |cons x t _ D=>
    intro hv;rcases aX.mp hv with rfl|hv
    .exact⟨_,_,rfl⟩
    .exact D hv
  exact this _ _ (g zs (Perm.refl _)) hv
 have i:zs.length<=sizeLine:=by rw[hz.length_eq,a_,bE,sizeLine_eq];omega
 refine af (vD ?_);have f:(h1.push (seqObj "list" zs.toArray 0)).get? h1.objs.size=some (seqObj "list" zs.toArray 0):=bI _ rfl;show wpAny _ _ _ _ _ {s with heap:=h1.push (seqObj "list" zs.toArray 0),drawn:=d,toks:=tk};refine af (dR (gY slot_list_sort ⟨_,f,rfl⟩ entry_list_sort ?body (args_list_sort _)));case body=>
  refine TS.Dj (κ:=oneType') (O:=PyProof.Rows.strKind.toKeyOrd) (key:=λv=>(strOf v).cps.toList) (s:={s with heap:=h1.push (seqObj "list" zs.toArray 0),drawn:=d,toks:=tk})
   f i (λs' k h2 R r=>?_) (λs' k a F b j R I r=>?_) λys n G=>⟨_,rfl,ak ⟨_,rfl,?_⟩⟩
  .refine PySem.W.kas_kind (T:=Value.type "str") h2 (λv hv=>?_) (by decide) (by decide) r
   obtain⟨a,u,rfl⟩:=p v hv;exact PySem.W.Looks.of_pure rfl
  .obtain⟨a,u,rfl⟩:=p a F
   obtain⟨b,J,rfl⟩:=p b j;exact PySem.W.kas_lt_str r
  .obtain⟨e,H⟩:=sortedHeap_at (out:=ys.toArray) f
   refine h _ d tk h1.objs.size e ys (ys.map strOf) hsz H (g ys n) ?_ ?_ λb o q=>?_
   .have:=(n.trans hz).map strOf
    rw[b_] at this;exact this
   .rw[jT]
    refine G.imp λ {a b} q=>?_;have q:decide ((strOf b).cps.toList<(strOf a).cps.toList)=false:=q;simpa using q
   .have j:=k1 b o q
    rw[sortedHeap_old (aY (aN j)) (by rw[oz];exact dM (aN j))];exact aT _ j
end
end SS
namespace L2
section
variable{X:Cx}
theorem R_{xs:List Str}{its:List Value}(r:Vals (xs.map V.str) its):∀(i:Nat) (v:Value),its.toArray[i]?=some v->∃t:Tok,v=Value.str (xs.getD i ⟨#[]⟩) t:=λi v h=>by
 have h':its[i]?=some v:=by simpa using h
 have b:=r.length;have hi:i<its.length:=(bL.mp h').1;have c:(xs.map V.str)[i]?=some (V.str (xs.getD i ⟨#[]⟩)):=by
  rw[cy,dF];have:i<xs.length:=by rw[<-b,a_] at hi;exact hi
  rw[aV this];rfl
 obtain⟨u,a,ru⟩:=r.get c;rw[h'] at a;cases a;exact ru
def strLt(a b:Str):Prop:=a.cps.toList<b.cps.toList
theorem EG:∀(p:Str) (l:List Str),risingS p l=true->(p::l).Pairwise (λa b=>¬b.cps.toList<a.cps.toList)
 |p,[],_=>List.pairwise_singleton _ _
 |p,x::r,h=>by
  simp only[risingS,dh,q9,ltCps_eq,zW] at h;have c:=EG x r h.2;refine l5.mpr ⟨λy d=>?_,c⟩;rcases aX.mp d with e|e
  .rw[e];exact h.1
  .have:=(l5.mp c).1 y e
   exact λz=>(not_lt.mp this)|>λq=>absurd z (not_lt.mpr (List.le_trans (not_lt.mp h.1) q))
theorem RP{l:List Str}(h:sortedS l=true):l.Pairwise (λa b=>¬b.cps.toList<a.cps.toList):=by
 cases l with
 |nil=>exact .nil
 |cons x r=>exact EG x r h
theorem F6{l:List Str}(h:l.Pairwise (λa b=>¬b.cps.toList<a.cps.toList))(nd:l.Nodup):l.Pairwise strLt:=by
 refine(h.and nd).imp λ {a b} q=>?_;by_cases z:a.cps.toList<b.cps.toList
 .exact z
 .have e:a.cps.toList=b.cps.toList:=List.le_antisymm (not_lt.mp q.1) (not_lt.mp z)
  refine absurd ?_ q.2;obtain⟨⟨la⟩⟩:=a;obtain⟨⟨lb⟩⟩:=b;have c:la=lb:=e;rw[c]
def SJ(K:Frag)(ta:TA):TE:=λσ H Q=>ta σ H λvs H1=>∃(a:Addr) (xs:List Str),vs=[.ref a]/\aW K H1 a (xs.map V.str)/\xs.length<100/\
 ∀(l:Addr) (ys:List Str),H1 l=none->ys.Pairwise strLt->(∀x,x∈ys↔x∈xs)->Q (.ref l) (upd H1 l (.lst (ys.map V.str)))
theorem zD:∀{out:List Value} {ss:List Str},StrsAre out ss->Vals (ss.map V.str) out
 |_,_,.nil=>.nil
 |_,_,.cons x t h=>.cons ⟨t,rfl⟩ (zD h)
theorem O8{e:Expr}{ta:TA}{p1 p2 pos1 pos2:Pos}(C:X.mg "sorted"=none)(D:X.mg "set"=none)(hc:X.calm=true)(P:PA X [e] ta)(E:Gl X "sorted":=by rfl)(F:Gl X "set":=by rfl)
  (R:starEach [e] X.env=[(false,eval e X.env)]:=by rfl)(hz:starEach [.Call (.Name "set" p2) [e] [] pos2] X.env=[(false,eval (.Call (.Name "set" p2) [e] [] pos2) X.env)]:=by rfl):
  PE X (.Call (.Name "sorted" p1) [.Call (.Name "set" p2) [e] [] pos2] [] pos1) (SJ X.K ta):=by
 intro pins s σ H Q I h;refine jl (i_ I E C (show bootBuiltins "sorted"=some (.builtin "sorted") by with_unfolding_all rfl) ?_);refine zE ?_ hz rfl;rw[hz];refine vn (jl (i_ I F D (show bootBuiltins "set"=some (.type "set") by with_unfolding_all rfl) (nZ (aM (P pos2 pins s σ H _ I h) λus t ⟨vs,H1,k,S,T⟩=>?_) R rfl)));obtain⟨a,xs,e,U,W,q⟩:=T;subst e;obtain⟨u,rfl,ru⟩:=vals1 S;cases ru;obtain⟨its,N,Y,Z⟩:=k.list U;have hl:=N.length;have hsz:its.toArray.size=xs.length:=by rw[bH,<-hl,a_]
 refine SS.wO (val:=λi=>xs.getD i ⟨#[]⟩) (k.ok.hd hc) Y.isList (λi v hv=>R_ N i v hv) (by rw[hsz,show scanBound=4096 from rfl];omega) λh2 tk es G O w k2=>?_;have g:es.size<100:=by omega
 have f:∀b o,t.heap.get? b=some o->h2.get? b=some o:=λb o e=>k2 b o (aN e) e;refine vp ?_;refine SS.RQ (s:={t with heap:=h2,toks:=tk}) (k.ok.hd hc) G g λh3 d y l ep out ss m J L c p k3=>?_;have alt:t.heap.objs.size<h2.objs.size:=by obtain⟨o,_,_,ho,_⟩:=G;exact aN ho
 have hn:H1 l=none:=k.hok.fresh (cY (ji alt) m);have nd:ss.Nodup:=c.nodup_iff.mpr (by obtain⟨_,_,_,_,_,_,_,M,_⟩:=G;exact M);have r:∀x,x∈ss↔x∈xs:=λx=>by
  rw[c.mem_iff,w x,hsz];constructor
  .rintro ⟨j,A,rfl⟩
   rw[dF,aV A];exact cz A
  .intro hx
   obtain⟨j,A,e⟩:=fV hx;exact⟨j,A,by rw[dF,aV A];exact e⟩
 have B:ss.length=es.size:=by rw[c.length_eq,a_,bE]
 have I2:Inv X pins σ (upd H1 l (.lst (ss.map V.str))) {t with heap:=h3,drawn:=d,toks:=y}:=by
  refine k.call (ch:=[]) (g':=t.gens) (d':=d) (t':=y) (h':=h3) (H':=upd H1 l (.lst (ss.map V.str))) ⟨λb o q _ _ _=>k3 b o (f b o q),λb o q _ _ _=>⟨o.slots,k3 b o (f b o q)⟩,λb o q n _=>?_,λb o q _=>⟨o,k3 b o (f b o q)⟩,λb xs q=>?_,λb o u q=>?_,λb ps q=>⟨#[],?_⟩⟩ ?_ k.bare λb z=>absurd z (by simp)
  .rw[bh (aY (b8 (aN q) (cY (ji alt) m)))];exact n
  .rw[bh (dc q hn)];exact q
  .rw[bh (dc q hn)];exact q
  .rw[bh (dc q hn),q];simp
  .exact k.hok.laid (λb u q=>k3 b u (f b u q)) (cY (ji alt) m) ⟨by rw[a_,B];exact ji (b8 g (by decide)),out,ep,zD L,J⟩
 exact⟨.ref l,_,I2,rfl,q l ss hn (F6 p nd) r⟩
end
theorem yD(ns:List Int):∀k,k<=ns.length->preSum (λi=>ns.getD i 0) k=(ns.take k).sum
 |0,_=>by simp[preSum]
 |k+1,h=>by
  have e:preSum (λi=>ns.getD i 0) (k+1)=preSum (λi=>ns.getD i 0) k+ns.getD k 0:=by
   first|rfl|(unfold preSum;simp[range_succ])
  rw[e,yD ns k (by omega),List.take_add_one,aV (by omega),List.sum_append,dF,aV (by omega)];simp
theorem F_:∀(ns:List Int) (b:Int),(∀n∈ns,0<=n/\n<=b)->0<=ns.sum/\ns.sum<=b*ns.length
 |[],b,_=>by simp
 |x::r,b,h=>by
  obtain⟨h1,h2⟩:=h x (by simp);obtain⟨h3,a⟩:=F_ r b λn hn=>h n (by simp[hn]);rw[sum_cons,gC];refine⟨by omega,?_⟩;have:b*((r.length+1:Nat):Int)=b*(r.length:Int)+b:=by rw[Int.natCast_add,Int.mul_add];simp
  rw[this];omega
section
variable{X:Cx}
theorem Ie(hc:X.calm=true):dm X (.builtin "sum") (λxs H Q=>∃(p:Addr) (ns:List Int),xs=[.ref p]/\aW X.K H p (ns.map V.int)/\(∀n∈ns,0<=n/\n<=2 ^ 40)/\ns.length<=1000/\Q (.int ns.sum) H):=by
 intro pins s σ H xs C Q I r h;obtain⟨p,ns,rfl,w,l,D,q⟩:=h;obtain⟨u,rfl,ru⟩:=vals1 r;cases ru;obtain⟨vs,m,x,hz⟩:=I.list w;have a:vs.length=ns.length:=by rw[<-m.length,a_]
 have c:=x.isList;have d:p<s.heap.objs.size:=by obtain⟨_,e,_⟩:=c;exact aN e
 have small:∀k,k<=ns.length->InLong (preSum (λi=>ns.getD i 0) k):=λk hk=>by
  rw[yD ns k hk];obtain⟨h1,h2⟩:=F_ (ns.take k) (2 ^ 40) λn hn=>l n (dQ hn);have h3:((ns.take k).length:Int)<=1000:=by rw[gV];omega
  have E:(2 ^ 40:Int)*((ns.take k).length:Int)<=2 ^ 40*1000:=oH h3 (by decide);unfold InLong;first|(constructor<;>omega)|omega
 refine call_sum_walk (mh c ?_);refine⟨s.heap.objs.size,[s.heap.objs.size,p],[s.heap.objs.size],vs.toArray.size,_,_,λi=>ns.getD i 0,rfl,Walks.list (A:=X.A.in1) (I.ok.hd hc) _ p (aY d) vs.toArray,
  ⟨⟨_,bI _ rfl,rfl,rfl⟩,c.push _⟩,λb f=>?_,λi v y=>?_,λj o=>⟨?_,small (j+1) (by simp at o;omega)⟩,λh' tk t' hk=>?_⟩
 .rw[cG]
  simp only[aX,d7,d8] at f;rcases f with z|z
  .rw[z];exact iF _
  .rw[z];exact dM d
 .have h':vs[i]?=some v:=by simpa using y
  have hi:i<ns.length:=by rw[<-a];exact(bL.mp h').1
  have B:(ns.map V.int)[i]?=some (V.int (ns.getD i 0)):=by
   rw[cy,dF,aV hi];rfl
  obtain⟨u,t,ru⟩:=m.get B;rw[h'] at t;cases t;exact ru
 .have g:j<ns.length:=by simp at o;omega
  obtain⟨h1,h2⟩:=l (ns.getD j 0) (by rw[dF,aV g];exact cz g);show InLong (ns.getD j 0);unfold InLong;first|(constructor<;>omega)|omega
 .have e:preSum (λi=>ns.getD i 0) vs.toArray.size=ns.sum:=by
   rw[bH,a,yD ns _ (aH _),List.take_length]
  rw[e];exact⟨.int _,H,I.kept (h':=h') (t':=tk) (LSm.kept_iter hk),⟨_,rfl⟩,q⟩
end
section
variable{X:Cx}
theorem empty_app(x:Str):Str.empty++x=x:=by
 obtain⟨c⟩:=x;show Str.mk (#[]++c)=⟨c⟩;rw[Array.empty_append]
def Sm(x:Str)(te:TE):TE:=λσ H Q=>te σ H λv H1=>∃y,v=.str y/\x.length+y.length<=sizeLine/\Q (.str (x++y)) H1
theorem OZ{e:Expr}{te:TE}{x:Str}{k:Nat}{p1 p2 pos:Pos}(c:PE X e te)(d:x.length<=sizeLine:=by decide):PE X (.JoinedStr [.Constant (.str x) k p1,.FormattedValue e (-1) none p2] pos) (Sm x te):=by
 intro pins s σ H Q I h;refine wpAny_JoinedStr ?_;show wpAny _ _ (eval (.Constant (.str x) k p1) X.env) _ _ _;refine Calls.Constant_str ⟨x,_,rfl,?_,?_⟩
 .show(Str.empty++x).length<=sizeLine
  rw[empty_app];exact d
 show wpAny _ _ (eval (.FormattedValue e (-1) none p2) X.env) _ _ _;refine wpAny_FormattedValue_plain (aM (c pins _ σ H _ (I.tok _) h) λu j ⟨v,H1,b,f,y,g,i,q⟩=>?_);subst g;obtain⟨t,rfl⟩:=f;have a:Str.empty++x=x:=empty_app x;have hz:(x++y).length<=sizeLine:=by
  have:(x++y).length=x.length+y.length:=by show(x.cps++y.cps).size=x.cps.size+y.cps.size;exact ow
  rw[this];exact i
 refine wpAny_formatField_str ?_ ?_ (by omega)
 .refine⟨y,t,rfl,?_,?_⟩
  .rw[a];exact hz
  .rw[a]
   exact⟨hz,.str (x++y),H1,b.tok _,⟨_,rfl⟩,q⟩
 .refine⟨y,_,rfl,?_,?_⟩
  .rw[a];exact hz
  .rw[a]
   exact⟨hz,.str (x++y),H1,(b.tok _).tok _,⟨_,rfl⟩,q⟩
end
section
variable{prog:Program}{w:World}{A:Around}{E:aA}{s:Shared}
theorem tuple_addW0(l b:Addr)(items a:Array Value)(n n2:Nat)(dd c:Option Addr)(f e:Array (Option Value))(i:items.isEmpty=true):
  Meets (Builtin.«tuple.__add__» ⟨[.ref l,.ref b],[]⟩) (λ_ R s=>s.heap.get? l=some {cls:=.type "tuple",dict:=dd,data:=.seq items n,slots:=f}/\s.heap.get? b=some {cls:=.type "tuple",dict:=c,data:=.seq a n2,slots:=e}/\R (.ok (.ret (Value.ref b))) {s with heap:=s.heap,toks:=s.toks}):=
 .of_wp λprog w A R s h=>by obtain⟨m,g,d,tk,os⟩:=s;obtain⟨j,k,h⟩:=h;have f1:=AutoSeq1.idx_int;have f2:=AutoSeq1.sub_tuple_tuple;have o:=AutoSeq1.sub_list_list;have f4:=AutoSeq1.sub_tuple_list;have p:=AutoSeq1.sub_list_tuple;wp_walk using vB j,vB k;exact⟨_,rfl,h⟩
end
section
variable{X:Cx}
def Ql(K:Frag):R2:=λx y H Q=>∃a b ys,x=.ref a/\y=.ref b/\bg K H a []/\bg K H b ys/\Q (.ref b) H
theorem Oo:bq X (binaryOp .Add) (Ql X.K):=by
 intro pins s σ H x y v u Q I k l h;obtain⟨a,b,ys,rfl,rfl,m,o,q⟩:=h;cases k;cases l;obtain⟨its,p,p1,_⟩:=I.tuple m;obtain⟨c,t,p2,_⟩:=I.tuple o;cases p;obtain⟨⟨cls,dd,data,r⟩,i,hc,n,hd⟩:=id p1;obtain⟨⟨j,f,data2,g⟩,d,e,n2,hd2⟩:=id p2;simp only at hc hd e hd2;subst hc hd e hd2;exact concat_meets ⟨_,i,rfl⟩ ⟨_,d,rfl⟩ noFill_tuple_add seq_tuple_add slot_tuple_add entry_tuple_add (args_tuple_add_2 _ _)
  (tuple_addW0 a b #[] c.toArray n n2 dd f r g rfl) ⟨i,d,⟨.ref b,H,I,rfl,q⟩⟩
def Ei(K:Frag):R2:=λx y H Q=>∃a b xs ys,x=.ref a/\y=.ref b/\bg K H a xs/\bg K H b ys/\xs.length+ys.length<=sizeLine/\
 (xs=[]->Q (.ref b) H)/\(xs≠[]->ys=[]->Q (.ref a) H)/\(xs≠[]->ys≠[]->∀p,H p=none->Q (.ref p) (upd H p (.tup (xs++ys))))
theorem Ol:bq X (binaryOp .Add) (Ei X.K):=by
 intro pins s σ H x y v u Q I d e h;obtain⟨a,b,xs,ys,rfl,rfl,f,g,hz,i,j,k⟩:=h;by_cases c:xs=[]
 .subst c
  exact Oo pins s σ H _ _ v u Q I d e ⟨a,b,ys,rfl,rfl,f,g,i rfl⟩
 .exact Om pins s σ H _ _ v u Q I d e ⟨a,b,xs,ys,rfl,rfl,f,g,c,hz,j c,k c⟩
end
end L2
namespace DP
theorem NI:typeLookup (.type "list") "keys"=pure none:=by rw[l7,mE];kernel_rfl
theorem NJ:typeLookup (.type "tuple") "keys"=pure none:=by rw[l7,mE];kernel_rfl
section
variable{prog:Program}{w:World}{A:Around}{E:aA}{s:Shared}
theorem N2{a:Addr}{xs:Array Value}{k:Nat}{Q:Option Value->Shared->Prop}(i:s.heap.get? a=some {cls:=.type "list",data:=.seq xs k})(l:A.handled=none)
  (h:∀h' tk,(∀b o,s.heap.get? b=some o->h'.get? b=some o)->Q none {s with heap:=h',toks:=tk}):wpAny (model prog w) A (getAttr? (.ref a) "keys") Q E s:=by
 obtain⟨m,g,d,tk,os⟩:=s;have j:∀c,(⟨m,g,d,c,os⟩:Shared).TypeIs (.ref a) "list":=λ_=>⟨_,i,rfl⟩;have f1:=sub_AttributeError;have n:=zT.lookup;have f4:=zT.bind (.ref a);have p:=am_list_getattr_none;unfold getAttr? getAttrBy? getAttrBy;repeat (any_goals (first|assumption|exact j _|((with_reducible show wpAny _ _ (call (Value.builtin "list.__getattribute__") _ _) _ _ _);refine oJ zT (j _) am_entry_list_getattribute (PySem.F.args_list_getattribute_2 _ _) (meets_getattribute_miss_list a xs k #[] "keys" _ NI (by decide) (by decide)) ⟨i,l,λh' c e f=>?_⟩)|wp_step))
 obtain⟨t',q,r⟩:=f.there;show wpAny _ _ (getattributeRaised _ _ _ _ _ _ _) _ _ _;unfold getattributeRaised;repeat (any_goals (first|assumption|wp_step))
 exact h _ _ f.keeps
theorem N3{a:Addr}{xs:Array Value}{k:Nat}{Q:Option Value->Shared->Prop}(i:s.heap.get? a=some {cls:=.type "tuple",data:=.seq xs k})(l:A.handled=none)
  (h:∀h' tk,(∀b o,s.heap.get? b=some o->h'.get? b=some o)->Q none {s with heap:=h',toks:=tk}):wpAny (model prog w) A (getAttr? (.ref a) "keys") Q E s:=by
 obtain⟨m,g,d,tk,os⟩:=s;have j:∀c,(⟨m,g,d,c,os⟩:Shared).TypeIs (.ref a) "tuple":=λ_=>⟨_,i,rfl⟩;have f1:=sub_AttributeError;have n:=zV.lookup;have f4:=zV.bind (.ref a);have p:=am_tuple_getattr_none;unfold getAttr? getAttrBy? getAttrBy;repeat (any_goals (first|assumption|exact j _|((with_reducible show wpAny _ _ (call (Value.builtin "tuple.__getattribute__") _ _) _ _ _);refine oJ zV (j _) am_entry_tuple_getattribute (PySem.F.args_tuple_getattribute_2 _ _) (meets_getattribute_miss_tuple a xs k #[] "keys" _ NJ (by decide) (by decide)) ⟨i,l,λh' c e f=>?_⟩)|wp_step))
 obtain⟨t',q,r⟩:=f.there;show wpAny _ _ (getattributeRaised _ _ _ _ _ _ _) _ _ _;unfold getattributeRaised;repeat (any_goals (first|assumption|wp_step))
 exact h _ _ f.keeps
end
theorem B4:entryFor table "dict.update.loop"=some Builtin.«dict.update.loop»:=entryFor_of_tree (by kernel_rfl)
theorem qw:plainId "dict.update.loop"=true:=by decide+kernel
section
variable{prog:Program}{w:World}{A:Around}{R:Result->Shared->Prop}{I:Addr}{fp wr:List Addr}{n:Nat}{P:Nat->Value->Prop}{St:Nat->Heap->Prop}
theorem loop(W:Walks prog w A.in1 I fp wr n P St)(D:Addr)(p:D∉fp)(h₀:Heap)(key:Nat->L2.Key)(C q:Nat->Value)
  (u:∀i v,i<n->P i v->∃t,v=.ref t/\t≠D/\t∉wr/\IsTup h₀ t #[C i,q i])(x:∀i,i<n->(L2.dU prog w).is (key i) (C i)=true)(hn:n<=sizeLine):
  ∀(k i:Nat) (s:Shared) (kvs:List (L2.Key×Value)),n - i=k->i<=n->St i s.heap->s.heap.DictOf (L2.dU prog w) D kvs->kvs.length<=i->(∀b o,b≠D->b∉wr->h₀.get? b=some o->s.heap.get? b=some o)->
   (∀h' tk,h'.DictOf (L2.dU prog w) D (((range n).drop i).foldl (λacc j=>stored acc (key j) (q j)) kvs)->(∀b o,b≠D->b∉wr->s.heap.get? b=some o->h'.get? b=some o)->R (.ok (.ret .none)) {s with heap:=h',toks:=tk})->
   codeAny (model prog w) A (.builtin "dict.update.loop" ⟨[.ref D,.ref I,rawInt (i:Nat),.none],[]⟩) R s:=by
 have y:D∉wr:=λh=>p (W.sub _ h);intro k;induction k with
 |zero=>
  intro i s kvs hk hi g F Z G H;have J:i=n:=by omega
  subst J;refine eU B4 ?_;rw[gg qw _];show wpAny _ A.in1 (pyNext (.ref I)>>=_) _ _ s;refine af (W.done s _ _ g λh' tk l=>?_);show wpAny _ A.in1 (Builtin.Dict.addKeywords D []>>=_) _ _ _;refine af (ak (ak (H h' tk ?_ λb o d a e=>l b o a e)));rw[kX (by simp),foldl_nil];obtain⟨o,es,ep,K,r⟩:=F;exact⟨o,es,ep,l D o y K,r⟩
 |succ k ih=>
  intro i s kvs hk hi g F Z G H;have c:i<n:=by omega
  refine eU B4 ?_;rw[gg qw _];show wpAny _ A.in1 (pyNext (.ref I)>>=_) _ _ s;refine af (W.item i s _ _ c g λv h1 tk hP B l=>?_);obtain⟨t,rfl,tD,Y,ht⟩:=u i v c hP;obtain⟨E,L,M,nt,N⟩:=ht;have f:h1.get? t=some E:=l t E Y (G t E tD Y L);refine af (dR ?_);refine af (wpAny_tryCatch ?_);unfold Builtin.Dict.pairItems;refine af (kR (T:="tuple") ⟨E,f,M⟩ ?_);rw[aj (by decide)];refine af (rA f N (ak ?_));show wpAny _ _ (holding [C i,q i] (dictSet D (C i) (q i))) _ _ _;have O:h1.DictOf (L2.dU prog w) D kvs:=by
   obtain⟨o,es,ep,K,r⟩:=F;exact⟨o,es,ep,l D o y K,r⟩
  refine dR (wpAny_dictSet_pairs (s:={s with heap:=h1,toks:=tk}) (x i c) O (λh2 Q m=>?_) (by omega));have S:St (i+1) h2:=W.frame _ _ _ B λb d o e=>(m.2 b λz=>p (z▸d)).trans e;have e1:((i:Nat):Int)+1=((i+1:Nat):Int):=by omega
  refine ak ⟨gW qw _,?_⟩;show codeAny _ _ (.builtin "dict.update.loop" ⟨[.ref D,.ref I,rawInt (((i:Nat):Int)+1),.none],[]⟩) _ _;rw[e1];refine ih (i+1) _ _ (by omega) c S Q ?_ (λb o d a e=>(m.2 b d).trans (l b o a (G b o d a e))) λh' U V X=>?_
  .have:=stored_length_le kvs (key i) (q i)
   omega
  .refine H h' U ?_ λb o d a e=>X b o d a ((m.2 b d).trans (l b o a e))
   have e2:(range n).drop i=i::(range n).drop (i+1):=by
    rw[oM (by simpa using c)];simp
   rw[e2,foldl_cons];exact V
end
end DP
namespace L2
def putAll(ps:List (Key×V)):List (Key×V):=ps.foldl (λacc p=>putK acc p.1 p.2) []
theorem P6(ps acc:List (Key×V)):(ps.foldl (λacc p=>putK acc p.1 p.2) acc).length<=acc.length+ps.length:=by
 induction ps generalizing acc with
 |nil=>simp
 |cons p r a=>
  rw[foldl_cons,gC];refine cY (a _) ?_;have:(putK acc p.1 p.2).length<=acc.length+1:=by
   unfold putK;split
   .rw[a_];omega
   .rw[cA];simp
  omega
theorem MS{ps:List (Key×V)}{n:Nat}{key:Nat->Key}{a:Nat->Value}(hn:n=ps.length)(h:∀i p,ps[i]?=some p->key i=p.1/\RelV p.2 (a i)):KV (putAll ps) ((range n).foldl (λacc j=>stored acc (key j) (a j)) []):=by
 subst hn;unfold putAll;have gen:∀(m:Nat),m<=ps.length->KV ((ps.take m).foldl (λacc p=>putK acc p.1 p.2) []) ((range m).foldl (λacc j=>stored acc (key j) (a j)) []):=λm=>by
  induction m with
  |zero=>intro _;simp;exact .nil
  |succ m b=>
   intro c;have e:ps[m]?=some (ps[m]'(by omega)):=aV (by omega);obtain⟨h1,h2⟩:=h m _ e;rw[List.take_add_one,e,range_succ,List.foldl_append,List.foldl_append];simp only[Option.toList_some,foldl_cons,foldl_nil];rw[h1];exact KV.put (b (by omega)) _ h2
 have:=gen ps.length (aH _);rwa [List.take_length] at this
section
variable{X:Cx}
def Pairs(K:Frag)(H:Hp)(ts:List V)(ps:List (Key×V)):Prop:=ts.length=ps.length/\∀(i:Nat) (x:V) (p:Key×V),ts[i]?=some x->ps[i]?=some p->∃t,x=.ref t/\bg K H t [kV p.1,p.2]
theorem lu(hc:X.calm=true):dm X (.type "dict") (λxs H Q=>∃(p:Addr) (D:List V) (ps:List (Key×V)),xs=[.ref p]/\(H p=some (.lst D)\/H p=some (.tup D))/\Pairs X.K H D ps/\ps.length<=1000/\∀d,H d=none->Q (.ref d) (upd H d (.dK (putAll ps)))):=by
 intro pins s σ H xs us Q I r h;obtain⟨p,D,ps,rfl,hp,hP,hl,q⟩:=h;obtain⟨u,rfl,ru⟩:=vals1 r;cases ru;have Z:=I.ok.hd hc;obtain⟨its,hv,E⟩:∃its:List Value,Vals D its/\((∃n,s.heap.get? p=some {cls:=.type "list",data:=.seq its.toArray n})\/∃n,s.heap.get? p=some {cls:=.type "tuple",data:=.seq its.toArray n}):=by
  rcases hp with hp|hp
  .obtain⟨_,its,n,y,e⟩:=(show bP X.prog X.w H s.heap p (.lst D) from I.hok p _ hp)
   exact⟨its,y,.inl ⟨n,e⟩⟩
  .obtain⟨its,n,y,e,_⟩:=I.S7 hp
   exact⟨its,y,.inr ⟨n,e⟩⟩
 have l:its.length=ps.length:=by rw[<-hv.length];exact hP.1
 have Pr:p<s.heap.objs.size:=by rcases E with⟨_,e⟩|⟨_,e⟩<;>exact aN e
 have pair:∀i,i<ps.length->∃t k v,its[i]?=some (.ref t)/\IsTup s.heap t #[k,v]/\∃p,ps[i]?=some p/\RelV (kV p.1) k/\RelV p.2 v:=λi hi=>by
  have z:ps[i]?=some (ps[i]'hi):=aV hi;have B:D[i]?=some (D[i]'(by rw[hP.1];exact hi)):=aV _;obtain⟨t,ex,hq⟩:=hP.2 i _ _ B z;obtain⟨u,hu,ru⟩:=hv.get B;rw[ex] at ru;cases ru;obtain⟨its2,r2,p2,_⟩:=I.tuple hq;obtain⟨k,v,rfl,N,y⟩:=vals2 r2;exact⟨t,k,v,hu,p2,_,z,N,y⟩
 let kk:Nat->Value:=λi=>match its[i]? with|some (.ref t)=>(match s.heap.get? t with|some o=>(match o.data with|.seq a _=>a.getD 0 .none|_=>.none)|none=>.none)|_=>.none
 let O:Nat->Value:=λi=>match its[i]? with|some (.ref t)=>(match s.heap.get? t with|some o=>(match o.data with|.seq a _=>a.getD 1 .none|_=>.none)|none=>.none)|_=>.none
 let key:Nat->Key:=λi=>((ps[i]?).map (·.1)).getD (.inl 0);have g:∀i,i<ps.length->∃t p,its[i]?=some (.ref t)/\IsTup s.heap t #[kk i,O i]/\ps[i]?=some p/\key i=p.1/\RelV (kV p.1) (kk i)/\RelV p.2 (O i):=λi hi=>by
  obtain⟨t,k,v,z,L,pp,B,N,y⟩:=pair i hi;obtain⟨o,G,hcl,n,hd⟩:=id L;have P:kk i=k:=by simp only[kk,z,G,hd];rfl
  have ev:O i=v:=by simp only[O,z,G,hd];rfl
  have ey:key i=pp.1:=by simp only[key,B];rfl
  rw[P,ev,ey];exact⟨t,pp,z,L,B,rfl,N,y⟩
 have hsz:ps.length<=sizeLine:=cY hl (by decide);refine callType_codes (Q₁:=λobj J=>obj=.ref s.heap.objs.size/\J={s with heap:=s.heap.push {cls:=.type "dict",data:=.dict #[]}}) PySem.F.kt_called_dict (PySem.F.kt_typeCall_dict_1 _) PySem.F.entry_dict_init (kt_code_dict_new _ ⟨rfl,rfl⟩) ?_;rintro obj J ⟨rfl,rfl⟩;have c:(s.heap.push {cls:=.type "dict",data:=.dict #[]}).DictOf (dU X.prog X.w) s.heap.objs.size []:=DictOf.new s.heap;refine⟨c.typeIs,PySem.F.args_dict_init_2 _ _,?_⟩;unfold Builtin.«dict.__init__»;refine af ?_;unfold Builtin.Dict.selfAndRest;refine af (wpAny_notOrdered_dict c.typeIs ?_);show wpAny _ _ (pure (s.heap.objs.size,[Value.ref p])) _ _ _;refine ak ?_;show wpAny _ _ (Builtin.Dict.updateFrom "dict.__init__" s.heap.objs.size (.ref p) [] .none) _ _ _;unfold Builtin.Dict.updateFrom;have k0:∀b o,s.heap.get? b=some o->(s.heap.push {cls:=.type "dict",data:=.dict #[]}).get? b=some o:=λb o e=>aT _ e;have pD:p≠s.heap.objs.size:=aY Pr;have go:∀(h1:Heap) (tk:Nat) (R:Addr) (fp:List Addr) (St:Nat->Heap->Prop),(∀b o,(s.heap.push {cls:=.type "dict",data:=.dict #[]}).get? b=some o->h1.get? b=some o)->s.heap.objs.size<R->
   Walks X.prog X.w X.A.in1.in1 R fp [R] its.length (λi v=>its.toArray[i]?=some v) St->St 0 h1->s.heap.objs.size∉fp->
   codeAny (model X.prog X.w) X.A.in1 (.builtin "dict.update.loop" ⟨[.ref s.heap.objs.size,.ref R,rawInt 0,.none],[]⟩) (wants (λr S=>r=.none/\EP X pins σ Q (.ref s.heap.objs.size) S) X.xe) {s with heap:=h1,toks:=tk}:=by
  intro h1 tk R fp St k1 hI W RZ hDf;have LD:h1.DictOf (dU X.prog X.w) s.heap.objs.size []:=by
   obtain⟨o,es,ep,G,r⟩:=c;exact⟨o,es,ep,k1 _ o G,r⟩
  refine DP.loop W s.heap.objs.size hDf s.heap key kk O (λi v hi hv'=>?_) (λi hi=>?_) (by rw[l];exact hsz) its.length 0 _ [] rfl (cH _) RZ LD (cH _) (λb o _ _ e=>k1 b o (k0 b o e)) λh2 S2 U k2=>?_
  .obtain⟨t,pp,z,L,_⟩:=g i (by rw[<-l];exact hi)
   have e:its[i]?=some v:=by simpa using hv'
   rw[z] at e;cases e;have Y:t<s.heap.objs.size:=L.lt;exact⟨t,rfl,aY Y,by simp only[bK];exact aY (lt_trans Y hI),L⟩
  .obtain⟨t,pp,z,L,B,P,N,y⟩:=g i (by rw[<-l];exact hi)
   rw[P];exact p9 N
  .have hn:H s.heap.objs.size=none:=I.hok.fresh (aH _)
   have MR:∀b o,s.heap.get? b=some o->h2.get? b=some o:=λb o e=>by
    have hb:b<s.heap.objs.size:=aN e;exact k2 b o (aY hb) (by simp only[bK];exact aY (lt_trans hb hI)) (k1 b o (k0 b o e))
   rw[oO,l] at U;have hkv:KV (putAll ps) ((range ps.length).foldl (λacc j=>stored acc (key j) (O j)) []):=MS rfl λi pp e=>by
    obtain⟨t,pp',z,L,B,P,N,y⟩:=g i (bL.mp e).1;rw[e] at B;cases B;exact⟨P,y⟩
   have hns:(s.heap.objs.size==sysModules)=false:=beq_false_of_ne (iH I.big);refine⟨rfl,.ref s.heap.objs.size,_,I.laid (t':=S2) (o:=.dK (putAll ps)) MR (aH _) ⟨?_,hns,_,hkv,U⟩,rfl,q _ hn⟩;have:=P6 ps [];unfold putAll;simp only[length_nil,Nat.zero_add] at this;omega
 rcases E with⟨n,e⟩|⟨n,e⟩
 .have C:=k0 _ _ e
  refine af (kR (T:="list") ⟨_,C,rfl⟩ ?_);rw[aj (by decide)];refine af (DP.N2 (s:={s with heap:=s.heap.push {cls:=.type "dict",data:=.dict #[]}}) C Z λh1 M k1=>?_);rw[aj (show(none:Option Value).isNone=true from rfl)];refine af (fW ?_);have m:h1.IsList p its.toArray:=⟨_,k1 _ _ C,rfl,n,rfl⟩;have x:p<h1.objs.size:=aN (k1 _ _ C);have f:s.heap.objs.size<h1.objs.size:=by obtain⟨o,_,_,G,_⟩:=c;exact aN (k1 _ _ G)
  refine af (mh (s:={s with heap:=h1,toks:=M}) m ?_);have W:=Walks.list (prog:=X.prog) (w:=X.w) (A:=X.A.in1.in1) Z h1.objs.size p (aY x) its.toArray;rw[bH] at W;refine ak ⟨gW DP.qw _,go _ _ _ _ _ (λb o q=>aT _ (k1 b o q)) f W ⟨⟨_,bI _ rfl,rfl,rfl⟩,m.push _⟩ ?_⟩;simp only[aX,d7,d8,jk];exact⟨aY f,Ne.symm pD⟩
 .have C:=k0 _ _ e
  refine af (kR (T:="tuple") ⟨_,C,rfl⟩ ?_);rw[aj (by decide)];refine af (DP.N3 (s:={s with heap:=s.heap.push {cls:=.type "dict",data:=.dict #[]}}) C Z λh1 M k1=>?_);rw[aj (show(none:Option Value).isNone=true from rfl)];refine af (fW ?_);have m:h1.IsTuple p its.toArray:=⟨_,k1 _ _ C,rfl,n,rfl⟩;have x:p<h1.objs.size:=aN (k1 _ _ C);have f:s.heap.objs.size<h1.objs.size:=by obtain⟨o,_,_,G,_⟩:=c;exact aN (k1 _ _ G)
  refine af (vE (s:={s with heap:=h1,toks:=M}) m ?_);have W:=Walks.tuple (prog:=X.prog) (w:=X.w) (A:=X.A.in1.in1) Z h1.objs.size p (aY x) its.toArray;rw[bH] at W;refine ak ⟨gW DP.qw _,go _ _ _ _ _ (λb o q=>aT _ (k1 b o q)) f W ⟨⟨_,bI _ rfl,rfl,rfl⟩,m.push _⟩ ?_⟩;simp only[aX,d7,d8,jk];exact⟨aY f,Ne.symm pD⟩
end
theorem B7(a b:Bool):PySem.MeetsSeq.EqGives (.bool a) (.bool b) (a==b):=by
 intro prog w A E s Q h;exact PySem.SeqAt.EqAt.bool_bool a b prog w E Q h
theorem zC:∀{bs:List Bool} {its:List Value},Vals (bs.map V.bl) its->its=bs.map Value.bool
 |[],_,.nil=>rfl
 |b::r,_,.cons q t=>by
  have:=zC t;subst this;cases q;rfl
section
variable{X:Cx}
def Ej:V->List V->Hp->VK->Prop:=λx vs H Q=>∃(l:Addr) (bs:List Bool) (b:Bool),x=.ref l/\vs=[.bl b]/\H l=some (.lst (bs.map V.bl))/\Q (.int (bs.countP (·==b):Nat)) H
theorem NN:rR X "list.count" Ej:=by
 intro pins s σ H x vs v m Q I d f h;obtain⟨l,bs,b,rfl,rfl,g,q⟩:=h;cases d;obtain⟨u,rfl,ru⟩:=f.one;cases ru;obtain⟨z,its,n,r,o,e⟩:=I.lJ g;have i:=zC r;subst i;refine oJ F.slot_list_count ⟨_,e,rfl⟩ F.entry_list_count (F.args_list_count_2 _ _) (PySem.MeetsSeq.list_count l (bs.map Value.bool).toArray n (.bool b) (λy=>match y with|.bool c=>c==b|_=>false) (λy j=>?_)) ⟨e,?_⟩
 .have a:y∈bs.map Value.bool:=by simpa using j
  obtain⟨c,_,rfl⟩:=aS.mp a;exact B7 c b
 .have k:((bs.map Value.bool).toArray.toList.countP λy=>match y with|.bool c=>c==b|_=>false)=bs.countP (·==b):=by
   show((bs.map Value.bool).countP _)=_;rw[List.countP_map];rfl
  rw[k];exact⟨.int _,H,I.tok _,⟨_,rfl⟩,q⟩
def Eo:V->List V->Hp->VK->Prop:=λx vs H Q=>∃(l:Addr) (bs:List Bool) (b:Bool) (j:Nat),x=.ref l/\vs=[.bl b]/\H l=some (.lst (bs.map V.bl))/\bs[j]?=some b/\(∀m c,m<j->bs[m]?=some c->c≠b)/\Q (.int (j:Nat)) H
theorem NO:rR X "list.index" Eo:=by
 intro pins s σ H x vs v C Q I o p h;obtain⟨l,bs,b,j,rfl,rfl,t,k,a,q⟩:=h;cases o;obtain⟨u,rfl,ru⟩:=p.one;cases ru;obtain⟨z,its,n,r,D,e⟩:=I.lJ t;have w:=zC r;subst w;have d:j<bs.length:=(bL.mp k).1;have hz:bs.length<=sizeLine:=by simpa using z
 refine oJ F.slot_list_index ⟨_,e,rfl⟩ F.entry_list_index (F.args_list_index_2 _ _) (PySem.MeetsSeq.list_index l (bs.map Value.bool).toArray n (.bool b) (λy=>match y with|.bool c=>c==b|_=>false) (λy A=>?_) j (by simpa using d) ?_ ?_ λm B f=>?_) ⟨e,?_⟩
 .have g:y∈bs.map Value.bool:=by simpa using A
  obtain⟨c,_,rfl⟩:=aS.mp g;exact B7 c b
 .have:(sizeLine:Nat)<2 ^ 63 - 1:=by decide
  omega
 .have:=(bL.mp k).2
  simp[this]
 .have i:m<bs.length:=by simpa using B
  have:=a m _ f (aV i);simpa using this
 .exact⟨.int _,H,I.tok _,⟨_,rfl⟩,q⟩
end
end L2
end
namespace PySem
open Sem (wp)
namespace ZL
section
variable{prog:Program}{w:World}{A:Around}{E:aA}{s:Shared}{z TI TO i1 i2 l1 l2:Addr}{xs ys:Array Value}
theorem Iv{R:List Value->Shared->Prop}(i:A.handled=none)(D:ZipApart z TI TO i1 i2 l1 l2)(L:mT z TI TO i1 i2 l1 l2 (s.heap.objs.size+1))(O:pq z TI TO i1 i2 l1 l2 (s.heap.objs.size+1) s.heap.objs.size)(hn:min xs.size ys.size<=sizeLine)
  (k:ZS z TI TO i1 i2 l1 l2 (s.heap.objs.size+1) xs ys 0 (s.heap.push {cls:= .type "list",data:= .seq #[]}))
  (g:∀h':Heap,(∀(j:Nat) x y,xs[j]? =some x->ys[j]? =some y->IsPair h' (s.heap.objs.size+1+j) x y)->s.heap.objs.size<h'.objs.size->
   (∀b o,b≠z->b≠TO->b≠i1->b≠i2->s.heap.get? b=some o->h'.get? b=some o)->R (dW (s.heap.objs.size+1) (min xs.size ys.size)).toList {s with heap:=h'}):
  wpAny (model prog w) A (collect (.ref z)) R E s:=by
 unfold collect
 refine af (rz (eU PySem.F.entry_proto_collect ?_))
 rw[gg PySem.F.plain_proto_collect _]
 show wpAny _ A.in1 (newList []>>=λl=>again (.builtin "list.__iadd__" ⟨[l,.ref z],[]⟩)) _ _ s
 refine af (fm ?_)
 refine ak ⟨gW vo _,eU PySem.F.entry_list_iadd ?_⟩
 rw[gg vo _]
 have c:(s.heap.push {cls:= .type "list",data:= .seq ([]:List Value).toArray}).get? s.heap.objs.size=some {cls:= .type "list",data:= .seq #[]}:=bI _ rfl
 show wpAny _ A.in1 (Builtin.List.listExtendWith (.ref s.heap.objs.size) (.ref z) (.ref s.heap.objs.size)) _ _ _
 have key:=Ka (prog:=prog) (w:=w) (A:=A) (s:={s with heap:=s.heap.push {cls:= .type "list",data:= .seq ([]:List Value).toArray}})
  (R:=λ(q:Result) (s':Shared)=>∃(h':Heap) (c':Nat),q= .ok (.ret (.ref s.heap.objs.size))/\s'={s with heap:=h'}/\
   (∀(j:Nat) x y,xs[j]? =some x->ys[j]? =some y->IsPair h' (s.heap.objs.size+1+j) x y)/\h'.get? s.heap.objs.size=some {cls:= .type "list",dict:=none,data:= .seq (dW (s.heap.objs.size+1) (min xs.size ys.size)) c',slots:= #[]}/\
   ∀b o,b≠z->b≠TO->b≠i1->b≠i2->s.heap.get? b=some o->h'.get? b=some o)
  i D L O hn (.ref s.heap.objs.size) 0 k c
  (λh' c' a1 a2 m=>⟨h',c',rfl,rfl,a1,a2,λb o n p r t e=>m b o (aY (aN e)) n p r t (aT _ e)⟩)
 refine gD key (λfin s' x=> ?_) λe s' x=> ?_
 .cases fin with
  |done f=>
   obtain⟨h',c',e,rfl,d,a,hk⟩:=x
   cases e
   show wpAny _ A (load s.heap.objs.size>>=_) _ _ _
   refine af (wpAny_load a ?_)
   exact ak (g h' d (aN a) hk)
  |again c₁=>
   refine⟨x.1,iP x.2 λq h y=> ?_⟩
   obtain⟨h',c',rfl,rfl,d,a,hk⟩:=y
   show wpAny _ A (load s.heap.objs.size>>=_) _ _ _
   refine af (wpAny_load a ?_)
   exact ak (g h' d (aN a) hk)
 .obtain⟨_,_,u,_⟩:=x
  cases u
theorem Ir{Q₁:aA}(f:A.handled=none)(g:s.TypeIs (.ref z) "zip")(D:ZipApart z TI TO i1 i2 l1 l2)(L:mT z TI TO i1 i2 l1 l2 (s.heap.objs.size+1))(O:pq z TI TO i1 i2 l1 l2 (s.heap.objs.size+1) s.heap.objs.size)(hn:min xs.size ys.size<=sizeLine)
  (i:ZS z TI TO i1 i2 l1 l2 (s.heap.objs.size+1) xs ys 0 (s.heap.push {cls:= .type "list",data:= .seq #[]}))
  (h:∀h':Heap,(∀(j:Nat) x y,xs[j]? =some x->ys[j]? =some y->IsPair h' (s.heap.objs.size+1+j) x y)->s.heap.objs.size<h'.objs.size->
   (∀b o,b≠z->b≠TO->b≠i1->b≠i2->s.heap.get? b=some o->h'.get? b=some o)->Q₁ (.ref h'.objs.size) {s with heap:=h'.push {cls:= .type "tuple",data:= .seq (dW (s.heap.objs.size+1) (min xs.size ys.size))}}):
  codeAny (model prog w) A (.call (.builtin "tuple.__new__") ⟨[.type "tuple",.ref z],[]⟩) (wants Q₁ E) s:=by
 refine rJ ?_
 show wpAny _ A.in1 (do checkBuiltinCall "tuple.__new__" ⟨[.type "tuple",.ref z],[]⟩;again (.builtin "tuple.__new__" ⟨[.type "tuple",.ref z],[]⟩)) _ _ s
 refine af (wpAny_of_eq (PySem.F.newCall_tuple_1 _) (ak ⟨gW PySem.F.plain_tuple_new _,eU PySem.F.entry_tuple_new ?_⟩))
 rw[gg PySem.F.plain_tuple_new _]
 have d:=sub_tuple_self
 have a:=init_tuple_lookup
 have k:=madeHere_tuple
 wp_walk using kR g,Iv (A:=A.in1) f D L O hn i
 intro h' l c hk
 show wpAny _ _ (Builtin.Tuple.tupleExact (dW (s.heap.objs.size+1) (min xs.size ys.size)).toList.toArray>>=λv=>ret v) _ _ _
 unfold Builtin.Tuple.tupleExact
 refine af (fm ?_ (by show(dW (s.heap.objs.size+1) (min xs.size ys.size)).toList.toArray.size<=sizeLine;simp only[Array.toArray_toList];rw[yM];exact hn))
 refine ak ?_
 have e:(dW (s.heap.objs.size+1) (min xs.size ys.size)).toList.toArray=dW (s.heap.objs.size+1) (min xs.size ys.size):=by simp
 rw[e]
 exact h h' l c hk
end
section
variable{prog:Program}{w:World}{A:Around}{E:aA}{s:Shared}
theorem S_{l1 l2:Addr}{xs ys:Array Value}{Q:aA}(t:A.handled=none)(f:s.heap.IsList l1 xs)(g:s.heap.IsList l2 ys)(hn:min xs.size ys.size<=sizeLine)
  (u:∀(h':Heap) (T:Addr),(∀(j:Nat) x y,xs[j]?=some x->ys[j]?=some y->IsPair h' (s.heap.objs.size+6+j) x y/\@LT.lt Nat _ (s.heap.objs.size+6+j) T)->@LT.lt Nat _ (s.heap.objs.size+5) T->
   h'.get? T=some {cls:=.type "tuple",data:=.seq (dW (s.heap.objs.size+6) (min xs.size ys.size))}->
   (∀b o,s.heap.get? b=some o->h'.get? b=some o)->Q (.ref T) {s with heap:=h'}):
  wpAny (model prog w) A (call (.type "zip") [.ref l1,.ref l2]) (λz c=>wpAny (model prog w) A (call (.type "tuple") [z]) Q E c) E s:=by
 have v: @LT.lt Nat _ l1 s.heap.objs.size:=by obtain⟨_,e,_⟩:=f;exact aN e
 have lK: @LT.lt Nat _ l2 s.heap.objs.size:=by obtain⟨_,e,_⟩:=g;exact aN e
 refine call_zip_2 f g λa hz h i k l hsz hk=>?_;have hsz: @Eq Nat a.objs.size (s.heap.objs.size+5):=hsz;have D:ZipApart (s.heap.objs.size+4) (s.heap.objs.size+2) (s.heap.objs.size+3) s.heap.objs.size (s.heap.objs.size+1) l1 l2:=by
  constructor<;>first|(show(_:Nat)<(_:Nat);omega)|(intro e;have q: @Eq Nat _ _:=e;omega)
 have L:mT (s.heap.objs.size+4) (s.heap.objs.size+2) (s.heap.objs.size+3) s.heap.objs.size (s.heap.objs.size+1) l1 l2 (a.objs.size+1):=by
  rw[hsz];constructor<;>first|(show(_:Nat)<(_:Nat);omega)|(intro e;have q: @Eq Nat _ _:=e;omega)
 have O:pq (s.heap.objs.size+4) (s.heap.objs.size+2) (s.heap.objs.size+3) s.heap.objs.size (s.heap.objs.size+1) l1 l2 (a.objs.size+1) a.objs.size:=by
  rw[hsz];constructor<;>first|(show(_:Nat)<(_:Nat);omega)|(intro e;have q: @Eq Nat _ _:=e;omega)
 have B:ZS (s.heap.objs.size+4) (s.heap.objs.size+2) (s.heap.objs.size+3) s.heap.objs.size (s.heap.objs.size+1) l1 l2 (a.objs.size+1) xs ys 0 (a.push {cls:=.type "list",data:=.seq #[]}):=
  ⟨.inl ⟨rfl,aT _ hz⟩,aT _ h,⟨_,_,aT _ i⟩,k.at λo e=>aT _ e,l.at λo e=>aT _ e,
   f.at λo e=>aT _ (hk _ o e),g.at λo e=>aT _ (hk _ o e),by rw[cG],λj x y C=>absurd C (q_ _)⟩
 refine callType_codes (Q₁:=λobj c=>c.TypeIs obj "tuple"/\Q obj c) called_tuple (PySem.F.typeCall_tuple_1 _) PySem.F.entry_object_init
  (Ir (s:={s with heap:=a}) (xs:=xs) (ys:=ys) t ⟨_,hz,rfl⟩ D L O hn B λh' G m n=>⟨⟨_,bI _ rfl,rfl⟩,?_⟩) λobj c d=>?_
 .have r:a.objs.size+1=s.heap.objs.size+6:=by rw[hsz]
  have p:=u (h'.push {cls:=.type "tuple",data:=.seq (dW (s.heap.objs.size+6) (min xs.size ys.size))}) h'.objs.size (λj x y H I=>?_) (by rw[<-hsz];exact m) (bI _ rfl) λb o e=>?_
  .show Q (.ref h'.objs.size) {s with heap:=h'.push {cls:=.type "tuple",data:=.seq (dW (a.objs.size+1) (min xs.size ys.size))}}
   rw[r];exact p
  .have pr:=G j x y H I
   have pr:IsPair h' (a.objs.size+1+j) x y:=pr;rw[r] at pr;exact⟨aT _ pr,aN pr⟩
  .have J: @LT.lt Nat _ b s.heap.objs.size:=aN e
   have ne:∀j:Nat,b≠s.heap.objs.size+j:=λj z=>by have K: @Eq Nat b (s.heap.objs.size+j):=z;omega
   exact aT _ (n b o (ne 4) (ne 3) (ne 0) (ne 1) (hk b o e))
 .exact⟨d.1,PySem.F.args_object_init_2 obj _,object_init_meets called_tuple.init.lookup called_tuple.made (by decide) prog w A.in1 _ c ⟨d.1,rfl,d.2⟩⟩
end
end ZL
end PySem
section
open PySem PySem.Spec PyProof.Rows
namespace L2
section
variable{X:Cx}
def SO(K:Frag)(ta:TA):TE:=λσ H Q=>ta σ H λvs H1=>∃a b xs ys,vs=[.ref a,.ref b]/\aW K H1 a xs/\aW K H1 b ys/\
 ∀(l:Addr) (H':Hp) (ps:List V),jv H1 H'->H1 l=none->H' l=some (.tup ps)->ps.length=min xs.length ys.length->(∀(j:Nat) p,ps[j]?=some p->∃t x y,p=.ref t/\xs[j]?=some x/\ys[j]?=some y/\H' t=some (.tup [x,y]))->Q (.ref l) H'
theorem Pa{a b:Expr}{ta:TA}{p1 p2 pos1 pos2:Pos}(P:Gl X "tuple")(R:X.mg "tuple"=none)(S:bootBuiltins "tuple"=some (.type "tuple"))(U:Gl X "zip")(W:X.mg "zip"=none)(Y:bootBuiltins "zip"=some (.type "zip"))(hc:X.calm=true)(ha:PA X [a,b] ta)
  (hs:starEach [a,b] X.env=[(false,eval a X.env),(false,eval b X.env)]:=by rfl)(B:starEach [b] X.env=[(false,eval b X.env)]:=by rfl)
  (hz:starEach [.Call (.Name "zip" p2) [a,b] [] pos2] X.env=[(false,eval (.Call (.Name "zip" p2) [a,b] [] pos2) X.env)]:=by rfl):
  PE X (.Call (.Name "tuple" p1) [.Call (.Name "zip" p2) [a,b] [] pos2] [] pos1) (SO X.K ta):=by
 intro pins s σ H Q I h
 refine jl (i_ I P R S ?_)
 refine nZ ?_ hz rfl
 rw[hz]
 refine vn (jl (i_ I U W Y (nZ (aM (ha pos2 pins s σ H _ I h) λus c ⟨vs,H1,g,r1,q1⟩=> ?_) (by rw[hs,B]) (by rw[B];rfl))))
 obtain⟨pa,pb,xs,ys,e,hx,hy,q⟩:=q1
 subst e
 obtain⟨u1,u2,rfl,Z,QD⟩:=vals2 r1
 cases Z
 cases QD
 obtain⟨C,i,Po,hz1⟩:=g.list hx
 obtain⟨D,k,Pp,hz2⟩:=g.list hy
 have l1:=i.length
 have l2:=k.length
 refine aM (ZL.S_ (E:=X.xe) (Q:=EP X pins σ Q) (g.ok.hd hc) Po.isList Pp.isList (by simp only[bH];omega) λh' T F m hS kp=> ?_) λz s2 hq=>vp hq
 have em:min C.toArray.size D.toArray.size=min xs.length ys.length:=by simp only[bH];omega
 rw[em] at hS
 have hn:∀j:Nat,H1 (c.heap.objs.size+j)=none:=λj=>g.hok.fresh (oi _ _)
 have LG:∀j:Nat,j<min xs.length ys.length->@LT.lt Nat _ (c.heap.objs.size+6+j) T:=λj hj=>by
  have d:xs[j]? =some (xs[j]'(by omega)):=aV _
  have f:ys[j]? =some (ys[j]'(by omega)):=aV _
  obtain⟨u,hu,_⟩:=i.get d
  obtain⟨v,hv,_⟩:=k.get f
  exact(F j u v (by simpa using hu) (by simpa using hv)).2
 have LH:H1 T=none:=g.hok.fresh (by show @LE.le Nat _ c.heap.objs.size T;have: @LT.lt Nat _ (c.heap.objs.size+5) T:=m;omega)
 have pair:∀j:Nat,j<min xs.length ys.length->∃x y u v,xs[j]? =some x/\ys[j]? =some y/\RelV x u/\RelV y v/\IsPair h' (c.heap.objs.size+6+j) u v:=λj hj=>by
  have d:xs[j]? =some (xs[j]'(by omega)):=aV _
  have f:ys[j]? =some (ys[j]'(by omega)):=aV _
  obtain⟨u,hu,ru⟩:=i.get d
  obtain⟨v,hv,n⟩:=k.get f
  exact⟨_,_,u,v,d,f,ru,n,(F j u v (by simpa using hu) (by simpa using hv)).1⟩
 let H':Hp:=λb=>if b=T then some (.tup ((range (min xs.length ys.length)).map λj=>V.ref (c.heap.objs.size+6+j))) else
  if c.heap.objs.size+6<=b/\b - (c.heap.objs.size+6)<min xs.length ys.length then some (.tup [(xs[b - (c.heap.objs.size+6)]?).getD .aB,(ys[b - (c.heap.objs.size+6)]?).getD .aB]) else H1 b
 have G:H' (T)=some (.tup ((range (min xs.length ys.length)).map λj=>V.ref (c.heap.objs.size+6+j))):=by
  show(if _ then _ else _)=_
  rw[aj rfl]
 have J:∀(j:Nat) x y,xs[j]? =some x->ys[j]? =some y->H' (c.heap.objs.size+6+j)=some (.tup [x,y]):=λj x y t A=>by
  have j1:=(bL.mp t).1
  have j2:=(bL.mp A).1
  have L:c.heap.objs.size+6+j - (c.heap.objs.size+6)=j:=rF _ _
  have M:j<min xs.length ys.length:=Nat.lt_min.mpr ⟨j1,j2⟩
  show(if _ then _ else if _ then _ else _)=_
  rw[ai (λz=>by have z': @Eq Nat (c.heap.objs.size+6+j) (T):=z;have:=LG j M;omega),aj ⟨oi _ _,by rw[L];exact M⟩,L,t,A]
  rfl
 have hold:jv H1 H':=λb o e=>by
  have hb: @LT.lt Nat _ b c.heap.objs.size:=g.hok.lt e
  show(if _ then _ else if _ then _ else _)=_
  rw[ai (λz=>by have z': @Eq Nat b (T):=z;have: @LT.lt Nat _ (c.heap.objs.size+5) T:=m;omega),ai (λz=>by have z': @LE.le Nat _ (c.heap.objs.size+6) b:=z.1;omega)]
  exact e
 have N:∀b o,H' b=some o->H1 b=some o\/(c.heap.objs.size<=b/\bP X.prog X.w H' h' b o):=λb o e=>by
  by_cases hb:b=T
  .subst hb
   rw[G] at e
   cases e
   refine .inr ⟨by show @LE.le Nat _ c.heap.objs.size b;have: @LT.lt Nat _ (c.heap.objs.size+5) b:=m;omega,by rw[a_,om];omega,(range (min xs.length ys.length)).map λj=>Value.ref (c.heap.objs.size+6+j),?_,⟨_,hS⟩⟩
   have:∀l:List Nat,Vals (l.map λj=>V.ref (c.heap.objs.size+6+j)) (l.map λj=>Value.ref (c.heap.objs.size+6+j)):=λl=>by
    induction l with
    |nil=>exact .nil
    |cons j r ih=>exact .cons rfl ih
   exact this _
  .by_cases O:c.heap.objs.size+6<=b/\b - (c.heap.objs.size+6)<min xs.length ys.length
   .obtain⟨g1,g2⟩:=O
    have eb:b=c.heap.objs.size+6+(b - (c.heap.objs.size+6)):=(zS g1).symm
    obtain⟨x,y,u,v,t,A,ru,n,pr⟩:=pair _ g2
    rw[eb,J _ x y t A] at e
    cases e
    refine .inr ⟨cY (oi _ 6) g1,by show 2<=sizeLine;decide,[u,v],.cons ru (.cons n .nil),?_⟩
    rw[eb]
    exact⟨_,pr⟩
   .left
    have e':(if b=T then some (HO.tup ((range (min xs.length ys.length)).map λj=>V.ref (c.heap.objs.size+6+j))) else
     if c.heap.objs.size+6<=b/\b - (c.heap.objs.size+6)<min xs.length ys.length then some (.tup [(xs[b - (c.heap.objs.size+6)]?).getD .aB,(ys[b - (c.heap.objs.size+6)]?).getD .aB]) else H1 b)=some o:=e
    rw[ai hb,ai O] at e'
    exact e'
 refine⟨.ref (T),H',g.many (h':=h') (t':=c.toks) kp hold N,rfl,q _ H' _ hold LH G (by rw[a_,om]) λj p e=> ?_⟩
 rw[cy] at e
 cases er:(range (min xs.length ys.length))[j]? with
 |none=>rw[er] at e;cases e
 |some j'=>
  rw[er] at e
  obtain⟨hj,L⟩:=bL.mp er
  rw[List.getElem_range] at L
  subst L
  cases e
  have hj':j<min xs.length ys.length:=by simpa using hj
  obtain⟨x,y,u,v,t,A,_⟩:=pair j hj'
  exact⟨_,x,y,rfl,t,A,J j x y t A⟩
end
theorem F8:∀{vs:List Value} {ss:List Str},vs.length=ss.length->(∀(i:Nat) v x,vs[i]?=some v->ss[i]?=some x->∃t,v=Value.str x t)->StrsAre vs ss
 |[],[],_,_=>.nil
 |v::vs,x::ss,a,h=>by
  obtain⟨t,rfl⟩:=h 0 v x rfl rfl;exact .cons x t (F8 (by simpa using a) λi b c d e=>h (i+1) b c (by simpa using d) (by simpa using e))
theorem KV.at{kvs:List (Key×V)}{vs:List (Key×Value)}(r:KV kvs vs):∀{i:Nat} {q:Key×Value},vs[i]?=some q->∃p,kvs[i]?=some p/\p.1=q.1/\RelV p.2 q.2:=by
 induction r with
 |nil=>intro i q h;simp at h
 |cons h1 h2 a=>
  intro i q h;cases i with
  |zero=>simp at h;subst h;exact⟨_,rfl,h1⟩
  |succ i=>exact a (by simpa using h)
theorem KV.len{kvs:List (Key×V)}{vs:List (Key×Value)}(r:KV kvs vs):kvs.length=vs.length:=by
 induction r with
 |nil=>rfl
 |cons h1 h2 a=>simp[a]
section
variable{X:Cx}
theorem Inv.Dy{pins:aQ}{σ:St}{H H':Hp}{s:Shared}{h':Heap}{t':Nat}(I:Inv X pins σ H s)(kp:∀b o,s.heap.get? b=some o->h'.get? b=some o)(d:jv H H')
  (a:∀b o,H' b=some o->H b=some o\/((∀u,s.heap.get? b≠some u)/\bP X.prog X.w H' h' b o)):Inv X pins σ H' {s with heap:=h',toks:=t'}:=by
 refine I.un (h':=h') (t':=t') ⟨λb o q _ _ _=>kp b o q,λb o q _ _ _=>⟨o.slots,kp b o q⟩,λb o q n _=>?_,λb o q _=>⟨o,kp b o q⟩,λb xs q=>d _ _ q,λb o u q=>d _ _ q,λb ps q=>⟨#[],by rw[d _ _ q];simp⟩⟩ λb o q=>?_
 .cases e:H' b with
  |none=>rfl
  |some u=>
   rcases a b u e with z|⟨z,_⟩
   .rw[n] at z;cases z
   .exact absurd q (z _)
 .rcases a b o q with z|⟨_,z⟩
  .exact(I.hok b o z).stay (λc v _ r=>kp c v r) (λc r=>d _ _ r) λc xs r=>d _ _ r
  .exact z
theorem Ib(hc:X.calm=true):dm X (.builtin "sorted") (λxs H Q=>∃(d:Addr) (kvs:List (Key×V)) (ns:List Str),xs=[.ref d]/\H d=some (.dK kvs)/\kvs.map (·.1)=ns.map Sum.inr/\ns.Nodup/\ns.length<64/\
  ∀(l:Addr) (ys:List Str),H l=none->ys.Pairwise strLt->(∀x,x∈ys↔x∈ns)->Q (.ref l) (upd H l (.lst (ys.map V.str)))):=by
 intro pins s σ H xs us Q I r h;obtain⟨d,kvs,ns,rfl,hd,hk,G,B,q⟩:=h;obtain⟨u,rfl,ru⟩:=vals1 r;cases ru;obtain⟨hz,S,vs,rel,dd⟩:=(show bP X.prog X.w H s.heap d (.dK kvs) from I.hok d _ hd);obtain⟨ep,J⟩:=dd.dictAt;have C:kvs.length=ns.length:=by
  have:=c7 List.length hk;simpa using this
 have c:vs.length=ns.length:=by rw[<-rel.len,C]
 refine zF kind_sorted plain_sorted entry_sorted (args_sorted1 _) ?_;unfold Builtin.«sorted»;refine af (m:=checkCount "sorted" 1 1 _) (ak ?_);refine af (PySem.W.kdu_collect (A:=X.A.in1) (PySem.W.kdl_dict (knd:=dU X.prog X.w) (kvs:=vs) (ep:=ep) S) (I.ok.hd hc) J (by rw[c];omega) λh1 tk acc k1 a=>?_);have f:StrsAre acc.toList ns:=by
  refine F8 (by rw[bE,a.1,c]) λi v x M T=>?_;rw[jg] at M;obtain⟨k,y,U,N⟩:=a.2 i v M;obtain⟨p,Y,Z,_⟩:=rel.at U;have O:(kvs.map (·.1))[i]?=some k:=by rw[cy,Y];exact c7 some Z
  rw[hk,cy,T] at O;have e8:k=Sum.inr x:=(Option.some.inj O).symm;rw[e8] at N;rcases i9 (show lF (Sum.inr x) v=true from N) with⟨_,_,z,_⟩|⟨x',t,z,z2⟩
  .cases z
  .cases z;exact⟨t,z2⟩
 have K:acc.toList.length<64:=by rw[bE,a.1,c];exact B
 refine af (vD ?_);have g:(h1.push (seqObj "list" acc.toList.toArray 0)).get? h1.objs.size=some (seqObj "list" acc.toList.toArray 0):=bI _ rfl;show wpAny _ _ _ _ _ {s with heap:=h1.push (seqObj "list" acc.toList.toArray 0),toks:=tk};refine af (dR (gY slot_list_sort ⟨_,g,rfl⟩ entry_list_sort (list_sort_treeK strKind_oneLt g f.keysOf (λP R rest e=>keyKind_strs (by rw[<-e];exact f)) K λj a1 a2=>⟨_,rfl,?_⟩) (args_list_sort _)));obtain⟨D,q1,L,q3⟩:=sorted_out_str f a1 a2;obtain⟨e,he⟩:=sortedHeap_at (out:=(arrOf j).map (·.2)) g;have kp:∀b o,s.heap.get? b=some o->(sortedHeap (h1.push (seqObj "list" acc.toList.toArray 0)) h1.objs.size acc.toList ((arrOf j).map (·.2))).get? b=some o:=λb o q=>by
  have n:=k1 b o q;rw[sortedHeap_old (aY (aN n)) (by rw[oz];exact dM (aN n))];exact aT _ n
 have E:∀u,s.heap.get? h1.objs.size≠some u:=λu z=>dZ _ (aN (k1 _ _ z));have hn:H h1.objs.size=none:=by
  cases e0:H h1.objs.size with
  |none=>rfl
  |some o=>
   obtain⟨u,z⟩:=(I.hok _ _ e0).obj;exact absurd z (E u)
 refine ak ⟨_,rfl,.ref h1.objs.size,upd H h1.objs.size (.lst (D.map V.str)),?_,rfl,q _ D hn (F6 (RP q3) (L.nodup_iff.mpr G)) λx=>L.mem_iff⟩;refine I.Dy (t':=tk) kp (jv.new hn _) λb o F=>?_;by_cases n:b=h1.objs.size
 .subst n
  rw[f7] at F;cases F;refine .inr ⟨E,?_⟩;refine⟨by rw[a_,L.length_eq];exact ji (b8 B (by decide)),((arrOf j).map (·.2)).toList,e,zD q1,?_⟩;rw[Array.toArray_toList];exact he
 .rw[bh n] at F
  exact .inl F
end
end L2
end
namespace MA
namespace aP
variable{N:Type}
def bT(f:N->Rat):aP N->Rat
 |wt n=>f n
 |aG _ _ a b=>a.bT f+b.bT f
def gQ(f:N->Rat):aP N->Prop
 |wt _=>True
 |aG l r a b=>(l:Rat)*a.bT f=(r:Rat)*b.bT f/\a.gQ f/\b.gQ f
theorem qX(f:N->Rat):∀m:aP N,(m.names.map f).sum=m.bT f
 |wt n=>by simp[names,bT];grind
 |aG _ _ a b=>by
  show((a.names++b.names).map f).sum=a.bT f+b.bT f;rw[ff,zf,qX f a,qX f b]
theorem Hz{α:Type}{a b c d:List α}(h:a++b=c++d)(e:a.length=c.length):a=c/\b=d:=List.append_inj h e
theorem za(f:N->Rat):∀m:aP N,m.arms->(m.gQ f↔m.names.map f=m.sh (m.bT f))
 |wt n,_=>by simp[gQ,names,sh,bT]
 |aG l r a b,h=>by
  obtain⟨h1,h2,h3,u,i,j⟩:=h;have p:(l:Rat)+(r:Rat)≠0:=by
   intro z;have:(l+r:Int)=0:=by exact_mod_cast (by rw[vP];exact z:((l+r:Int):Rat)=((0:Int):Rat))
   omega
  have hc:((l+r:Int):Rat)=(l:Rat)+(r:Rat):=vP l r;have k:=za f a i;have o:=za f b j;have s:(aG l r a b).names.map f=a.names.map f++b.names.map f:=ff;have t:(aG l r a b).sh ((aG l r a b).bT f)=a.sh ((a.bT f+b.bT f)*((r:Rat)/((l+r:Int):Rat)))++b.sh ((a.bT f+b.bT f)*((l:Rat)/((l+r:Int):Rat))):=rfl;rw[s,t];constructor
  .rintro ⟨q,c,d⟩
   have e:(a.bT f+b.bT f)*((r:Rat)/((l+r:Int):Rat))=a.bT f:=by rw[hc];grind
   have g:(a.bT f+b.bT f)*((l:Rat)/((l+r:Int):Rat))=b.bT f:=by rw[hc];grind
   rw[e,g,k.mp c,o.mp d]
  .intro q
   obtain⟨c,d⟩:=Hz q (by rw[a_,yZ]);have e:a.bT f=(a.bT f+b.bT f)*((r:Rat)/((l+r:Int):Rat)):=by
    have:=c7 List.sum c;rwa [qX,qK _ _ i] at this
   have g:b.bT f=(a.bT f+b.bT f)*((l:Rat)/((l+r:Int):Rat)):=by
    have:=c7 List.sum d;rwa [qX,qK _ _ j] at this
   refine⟨?_,k.mpr ?_,o.mpr ?_⟩
   .rw[hc] at e g
    grind
   .rw[<-e] at c;exact c
   .rw[<-g] at d;exact d
theorem qJ:∀(m:aP N) (c x:Rat),m.sh (c*x)=(m.sh x).map (c*·)
 |wt _,c,x=>rfl
 |aG l r a b,c,x=>by
  show a.sh _++b.sh _=(a.sh _++b.sh _).map _;rw[ff,<-qJ a,<-qJ b];congr 1<;>congr 1<;>grind
theorem R9{f s:N->Rat}{m:aP N}(h:m.arms)(a:m.names.map s=m.sh 1):m.gQ f↔∃c:Rat,∀x∈m.names,f x=c*s x:=by
 rw[za f m h];constructor
 .intro q
  refine⟨m.bT f,λx b=>?_⟩;have e:m.sh (m.bT f)=(m.names.map s).map (m.bT f*·):=by
   rw[a,<-qJ];congr 1;grind
  rw[e,b_] at q;obtain⟨i,hi,rfl⟩:=fV b;have:=c7 (λl=>l[i]?) q;simp only[cy,aV hi,map_some,Function.comp] at this;exact Option.some.inj this
 .rintro ⟨c,hc⟩
  have d:m.names.map f=(m.names.map s).map (c*·):=by
   rw[b_];exact oq λx b=>hc x b
  have g:m.bT f=c:=by
   rw[<-qX,d,a,<-qJ,qK _ _ h];grind
  rw[g,d,a,<-qJ];congr 1;grind
end aP
theorem De{b d:Int}(g:0<b)(hd:0<d):0<b*d/(Int.gcd b d:Int)/\b∣b*d/(Int.gcd b d:Int)/\d∣b*d/(Int.gcd b d:Int)/\b*d/(Int.gcd b d:Int)<=b*d:=by
 have i:0<(Int.gcd b d:Int):=by
  have:0<Int.gcd b d:=Int.gcd_pos_of_ne_zero_right _ (by omega);omega
 obtain⟨a,c⟩:=kZ b d;obtain⟨d',e⟩:=mF b d;have f:b*d/(Int.gcd b d:Int)=a*d:=by
  conv=>lhs;lhs;lhs;rw[c]
  rw[kH,kJ _ (by omega)]
 have j:b*d/(Int.gcd b d:Int)=b*d':=by
  conv=>lhs;lhs;rhs;rw[e]
  rw[kI (Int.gcd b d:Int) d',<-kH,Int.mul_ediv_cancel _ (by omega)]
 refine⟨?_,⟨d',j⟩,⟨a,by rw[f,kI]⟩,ediv_le_self _ (iK (jQ g hd))⟩;rw[f];refine jQ ?_ hd;rcases Int.lt_or_le 0 a with h|h
 .exact h
 .have:(Int.gcd b d:Int)*a<=0:=Int.mul_nonpos_of_nonneg_of_nonpos (iK i) h
  omega
def bot:List Rat->Int->Int
 |[],b=>b
 |x::r,b=>bot r (b*(rf x).2/(Int.gcd b (rf x).2:Int))
theorem k_:∀(xs:List Rat) (b:Int),0<b->0<bot xs b/\b∣bot xs b/\∀x∈xs,(rf x).2∣bot xs b
 |[],b,h=>⟨h,Int.dvd_refl _,by simp⟩
 |x::r,b,h=>by
  obtain⟨h1,h2,h3,_⟩:=De h (gA x);obtain⟨g1,g2,g3⟩:=k_ r _ h1;refine⟨g1,dvd_trans h2 g2,λy hy=>?_⟩;rcases aX.mp hy with rfl|hy
  .exact dvd_trans h3 g2
  .exact g3 y hy
theorem bot_le(D:Int)(c:1<=D):∀(xs:List Rat) (b:Int),0<b->(∀x∈xs,(rf x).2<=D)->bot xs b<=b*D ^ xs.length
 |[],b,_,_=>by simp[bot]
 |x::r,b,h,a=>by
  obtain⟨h1,h2,h3,d⟩:=De h (gA x);have:=bot_le D c r _ h1 λy e=>a y (b9 _ e);refine d9 this ?_;rw[gC,rE,kI (D ^ r.length) D,<-kH];refine zN ?_ (Int.pow_nonneg (by omega));exact d9 d (oH (a x (by simp)) (iK h))
def c_:List Int->Int->Int
 |[],d=>d
 |n::r,d=>c_ r (Int.gcd d n:Int)
theorem p6:∀(ns:List Int) (d:Int),0<=d->0<=c_ ns d/\c_ ns d∣d/\(∀n∈ns,c_ ns d∣n)/\∀k,k∣d->(∀n∈ns,k∣n)->k∣c_ ns d
 |[],d,h=>⟨h,Int.dvd_refl _,by simp,λk hk _=>hk⟩
 |n::r,d,h=>by
  obtain⟨g1,g2,g3,a⟩:=p6 r (Int.gcd d n:Int) (by omega);refine⟨g1,dvd_trans g2 (kZ d n),λm hm=>?_,λk hk hn=>a k (Int.dvd_coe_gcd hk (hn n (by simp))) λm hm=>hn m (b9 _ hm)⟩;rcases aX.mp hm with rfl|hm
  .exact dvd_trans g2 (mF d m)
  .exact g3 m hm
theorem sV{ns:List Int}{d:Int}(h:0<=d){n:Int}(hn:n∈ns)(a:0<n):0<c_ ns d/\c_ ns d<=n:=by
 obtain⟨g1,g2,g3,b⟩:=p6 ns d h;have hd:=g3 n hn;have hle:=l0 a hd;refine⟨?_,hle⟩;rcases Int.lt_or_le 0 (c_ ns d) with z|z
 .exact z
 .have e:c_ ns d=0:=by omega
  rw[e] at hd;have:=Int.zero_dvd.mp hd;omega
def ups(xs:List Rat):List Int:=xs.map λx=>(rf x).1*(bot xs 1/(rf x).2)
def lw(xs:List Rat):List Int:=(ups xs).map (·/c_ (ups xs) 0)
theorem Tt{xs:List Rat}{x:Rat}(a:x∈xs):(((rf x).1*(bot xs 1/(rf x).2):Int):Rat)=(bot xs 1:Rat)*x:=by
 obtain⟨h1,_,h3⟩:=k_ xs 1 (by decide);obtain⟨k,hk⟩:=h3 x a;have b:=mZ (jn (gA x));rw[hk,kJ _ (jn (gA x)),gf,gf];have e:=nR x;grind
theorem vd{xs:List Rat}{x:Rat}(a:x∈xs)(b:0<x):0<(rf x).1*(bot xs 1/(rf x).2):=by
 obtain⟨h1,_,h3⟩:=k_ xs 1 (by decide);refine jQ (nK b) ?_;exact Int.ediv_pos_of_pos_of_dvd h1 (iK (gA x)) (h3 x a)
theorem tP(xs:List Rat):(lw xs).length=xs.length:=by simp[lw,ups]
theorem Ni{xs:List Rat}(f:∀x∈xs,0<x)(b:xs≠[]):∃c:Rat,0<c/\(lw xs).map (λn:Int=>(n:Rat))=xs.map (c*·):=by
 obtain⟨x0,a⟩:∃x,x∈xs:=by
  cases xs with
  |nil=>exact absurd rfl b
  |cons x r=>exact⟨x,by simp⟩
 have m0:(rf x0).1*(bot xs 1/(rf x0).2)∈ups xs:=aS.mpr ⟨x0,a,rfl⟩;obtain⟨d,_⟩:=sV (mu 0) m0 (vd a (f x0 a));obtain⟨_,_,g3,_⟩:=p6 (ups xs) 0 (mu 0);have g:=mZ (jn d);obtain⟨h,_,_⟩:=k_ xs 1 (by decide);refine⟨(bot xs 1:Rat)/(c_ (ups xs) 0:Rat),?_,?_⟩
 .rw[Rat.div_def]
  exact Rat.mul_pos (by exact_mod_cast h) (Rat.inv_pos.mpr (by exact_mod_cast d))
 .unfold lw
  rw[b_];conv=>lhs;rw[show ups xs=xs.map (λx=>(rf x).1*(bot xs 1/(rf x).2)) from rfl]
  rw[b_];refine oq λx e=>?_;have mx:(rf x).1*(bot xs 1/(rf x).2)∈ups xs:=aS.mpr ⟨x,e,rfl⟩;obtain⟨k,hk⟩:=g3 _ mx;have ev:=Tt e;show((((rf x).1*(bot xs 1/(rf x).2))/c_ (ups xs) 0:Int):Rat)=_;rw[hk] at ev ⊢;rw[kJ _ (jn d)];rw[gf] at ev;grind
theorem Nh{xs:List Rat}(d:∀x∈xs,0<x):∀n∈lw xs,1<=n:=by
 intro n hn;obtain⟨u,b,rfl⟩:=aS.mp hn;obtain⟨x,c,rfl⟩:=aS.mp b;have a:=vd c (d x c);obtain⟨e,gl⟩:=sV (mu 0) b a;have:=(zL e).mpr (by rw[one_mul];exact gl:1*c_ (ups xs) 0<=_);exact this
theorem Ng{xs:List Rat}(e:∀x∈xs,0<x)(b:xs≠[]){k:Int}(hk:∀n∈lw xs,k∣n):k∣1:=by
 obtain⟨x0,a⟩:∃x,x∈xs:=by
  cases xs with
  |nil=>exact absurd rfl b
  |cons x r=>exact⟨x,by simp⟩
 have m0:(rf x0).1*(bot xs 1/(rf x0).2)∈ups xs:=aS.mpr ⟨x0,a,rfl⟩;obtain⟨c,_⟩:=sV (mu 0) m0 (vd a (e x0 a));obtain⟨_,_,g3,f⟩:=p6 (ups xs) 0 (mu 0);have h:c_ (ups xs) 0*k∣c_ (ups xs) 0:=by
  refine f _ (Int.dvd_zero _) λn hn=>?_;obtain⟨j,d⟩:=g3 n hn;have h1:n/c_ (ups xs) 0∈lw xs:=aS.mpr ⟨n,hn,rfl⟩;obtain⟨i,hi⟩:=hk _ h1;rw[d,kJ _ (jn c)] at hi;exact⟨i,by rw[d,hi,kH]⟩
 obtain⟨i,hi⟩:=h;refine⟨i,?_⟩;have:c_ (ups xs) 0*1=c_ (ups xs) 0*(k*i):=by rw[mul_one,<-kH];exact hi
 exact zK (jn c) this
end MA
section
open PySem PySem.Spec PyProof.Rows
namespace DP
open L2
inductive D where
 |aB|bl (b:Bool)|int (i:Int)|str (x:Str)|tup (xs:List D)|ref (r:Nat)|fl (xs:List Int)|exc (c:Str)
inductive C where
 |lst (xs:List D)|dct (kvs:List (Key×D))|jB (o:Obj) (kvs:List (Key×D))|ins (cl:Str) (fs:List (Str×D))
abbrev Ar:=List C
abbrev Io:=Nat->Addr
section
variable(mg:au)
mutual
def RV(ι:Io)(n:Nat)(H:Hp):D->V->Prop
 |.aB,v=>v=.aB
 |.bl b,v=>v=.bl b
 |.int i,v=>v=.int i
 |.str x,v=>v=.str x
 |.tup ds,v=>∃a xs,v=.ref a/\H a=some (.tup xs)/\ao ι n H ds xs
 |.ref r,v=>r<n/\v=.ref (ι r)
 |.fl ns,v=>∃a o,v=.ref a/\H a=some (.cT o (.lst (ns.map V.int)))
 |.exc c,v=>∃a C,v=.ref a/\mg c=some (.ref C)/\H a=some (m_ a C)
def ao(ι:Io)(n:Nat)(H:Hp):List D->List V->Prop
 |[],xs=>xs=[]
 |d::ds,xs=>∃x r,xs=x::r/\RV ι n H d x/\ao ι n H ds r
end
def RK(ι:Io)(n:Nat)(H:Hp):List (Key×D)->List (Key×V)->Prop
 |[],xs=>xs=[]
 |p::ds,xs=>∃x r,xs=(p.1,x)::r/\RV mg ι n H p.2 x/\RK ι n H ds r
def RF(ι:Io)(n:Nat)(H:Hp):List (Str×D)->List (Str×V)->Prop
 |[],xs=>xs=[]
 |p::ds,xs=>∃x r,xs=(p.1,x)::r/\RV mg ι n H p.2 x/\RF ι n H ds r
def CO(ι:Io)(n:Nat)(H:Hp)(a:Addr):C->Prop
 |.lst ds=>∃xs,H a=some (.lst xs)/\ao mg ι n H ds xs
 |.dct kvs=>∃xs,H a=some (.dK xs)/\RK mg ι n H kvs xs
 |.jB o kvs=>∃xs,H a=some (.cT o (.dK xs))/\RK mg ι n H kvs xs
 |.ins cl fs=>∃Cc dx xs,mg cl=some (.ref Cc)/\H a=some (.ins Cc dx xs)/\RF mg ι n H fs xs
structure RA(ι:Io)(H:Hp)(A:Ar):Prop where
 gp:∀r c,A[r]? =some c->CO mg ι A.length H (ι r) c
 inj:∀r q,r<A.length->q<A.length->ι r=ι q->r=q
end
def iA:HO->Bool
 |.lst _|.dK _|.cT _ (.dK _)|.ins _ _ _=>true
 |_=>false
structure Ext(A:Ar)(ι:Io)(H:Hp)(A':Ar)(ι':Io)(H':Hp):Prop where
 len:A.length<=A'.length
 ag:∀r,r<A.length->ι' r=ι r
 im:∀r,r<A.length->∃o,H (ι r)=some o/\iA o=true
 mo:∀b o,H b=some o->(∀r,r<A.length->ι r≠b)->H' b=some o
 nw:∀r,A.length<=r->r<A'.length->H (ι' r)=none
 al:∀b o,H b=some o->∃o',H' b=some o'
theorem Ext.fix{A A':Ar}{ι ι':Io}{H H':Hp}(e:Ext A ι H A' ι' H'){b:Addr}{o:HO}(a:iA o=false)(h:H b=some o):H' b=some o:=e.mo b o h λr c z=>by
 obtain⟨u,h1,h2⟩:=e.im r c;rw[z,h] at h1;cases h1;rw[a] at h2;cases h2
theorem Ext.trans{A g i:Ar}{ι e d:Io}{H H1 H2:Hp}(a:Ext A ι H g e H1)(b:Ext g e H1 i d H2):Ext A ι H i d H2 where
 len:=cY a.len b.len
 ag:=λr h=>(b.ag r (b8 h a.len)).trans (a.ag r h)
 im:=a.im
 mo:=λc o h hn=>b.mo c o (a.mo c o h hn) λr j z=>by
  by_cases f:r<A.length
  .rw[a.ag r f] at z;exact hn r f z
  .have:=a.nw r (by omega) j
   rw[z,h] at this;cases this
 nw:=λr h1 h2=>by
  by_cases f:r<g.length
  .rw[b.ag r f];exact a.nw r h1 f
  .have n1:=b.nw r (by omega) h2
   cases q:H (d r) with
   |none=>rfl
   |some o=>
    obtain⟨o',h'⟩:=a.al _ o q
    rw[h'] at n1;cases n1
 al:=λc o h=>by
  obtain⟨k,h1⟩:=a.al c o h
  exact b.al c k h1
section
variable{mg:au}{A A':Ar}{ι ι':Io}{H H':Hp}
section
variable{n n':Nat}
mutual
theorem RV.ag(hn:n<=n')(e:∀r,r<n->ι' r=ι r)(i:∀b o,iA o=false->H b=some o->H' b=some o):∀(d:D) (v:V),RV mg ι n H d v->RV mg ι' n' H' d v
 |.aB,_,h=>h
 |.bl _,_,h=>h
 |.int _,_,h=>h
 |.str _,_,h=>h
 |.tup ds,v,h=>by
  obtain⟨a,xs,f,g,j⟩:=h;exact⟨a,xs,f,i _ _ rfl g,ao.ag hn e i ds xs j⟩
 |.ref r,v,h=>⟨b8 h.1 hn,by rw[e r h.1];exact h.2⟩
 |.fl ns,v,h=>by
  obtain⟨a,o,f,g⟩:=h;exact⟨a,o,f,i _ _ rfl g⟩
 |.exc c,v,h=>by
  obtain⟨a,C,f,g,j⟩:=h;exact⟨a,C,f,g,i _ _ rfl j⟩
theorem ao.ag(hn:n<=n')(a:∀r,r<n->ι' r=ι r)(c:∀b o,iA o=false->H b=some o->H' b=some o):∀(ds:List D) (vs:List V),ao mg ι n H ds vs->ao mg ι' n' H' ds vs
 |[],_,h=>h
 |d::ds,vs,h=>by
  obtain⟨x,r,e,f,g⟩:=h;exact⟨x,r,e,RV.ag hn a c d x f,ao.ag hn a c ds r g⟩
end
theorem RK.ag(hn:n<=n')(a:∀r,r<n->ι' r=ι r)(c:∀b o,iA o=false->H b=some o->H' b=some o):∀(ds:List (Key×D)) (vs:List (Key×V)),RK mg ι n H ds vs->RK mg ι' n' H' ds vs
 |[],_,h=>h
 |d::ds,vs,h=>by
  obtain⟨x,r,e,f,g⟩:=h;exact⟨x,r,e,RV.ag hn a c _ x f,RK.ag hn a c ds r g⟩
theorem RF.ag(hn:n<=n')(a:∀r,r<n->ι' r=ι r)(c:∀b o,iA o=false->H b=some o->H' b=some o):∀(ds:List (Str×D)) (vs:List (Str×V)),RF mg ι n H ds vs->RF mg ι' n' H' ds vs
 |[],_,h=>h
 |d::ds,vs,h=>by
  obtain⟨x,r,e,f,g⟩:=h;exact⟨x,r,e,RV.ag hn a c _ x f,RF.ag hn a c ds r g⟩
theorem CO.ag{a:Addr}(hn:n<=n')(d:∀r,r<n->ι' r=ι r)(g:∀b o,iA o=false->H b=some o->H' b=some o)(i:∀o,H a=some o->H' a=some o):∀(c:C),CO mg ι n H a c->CO mg ι' n' H' a c
 |.lst ds,h=>by
  obtain⟨xs,e,f⟩:=h;exact⟨xs,i _ e,ao.ag hn d g ds xs f⟩
 |.dct ds,h=>by
  obtain⟨xs,e,f⟩:=h;exact⟨xs,i _ e,RK.ag hn d g ds xs f⟩
 |.jB o ds,h=>by
  obtain⟨xs,e,f⟩:=h;exact⟨xs,i _ e,RK.ag hn d g ds xs f⟩
 |.ins cl ds,h=>by
  obtain⟨j,dx,xs,k,e,f⟩:=h;exact⟨j,dx,xs,k,i _ e,RF.ag hn d g ds xs f⟩
end
theorem RV.ext(e:Ext A ι H A' ι' H')(d:D)(v:V)(h:RV mg ι A.length H d v):RV mg ι' A'.length H' d v:=RV.ag e.len e.ag (λ_ _ m h=>e.fix m h) d v h
theorem ao.ext(e:Ext A ι H A' ι' H')(d:List D)(v:List V)(h:ao mg ι A.length H d v):ao mg ι' A'.length H' d v:=ao.ag e.len e.ag (λ_ _ m h=>e.fix m h) d v h
theorem RK.ext(e:Ext A ι H A' ι' H')(d:List (Key×D))(v:List (Key×V))(h:RK mg ι A.length H d v):RK mg ι' A'.length H' d v:=RK.ag e.len e.ag (λ_ _ m h=>e.fix m h) d v h
theorem CO.ext{a:Addr}(e:Ext A ι H A' ι' H')(b:∀o,H a=some o->H' a=some o)(c:C)(h:CO mg ι A.length H a c):CO mg ι' A'.length H' a c:=CO.ag (a:=a) (H:=H) (H':=H') e.len e.ag (λ_ _ m h=>e.fix m h) b c h
theorem ao.length:∀{ds:List D} {vs:List V} {n:Nat},ao mg ι n H ds vs->ds.length=vs.length
 |[],vs,_,h=>by have h':vs=[]:=h;rw[h'];rfl
 |d::ds,vs,n,h=>by
  obtain⟨x,r,rfl,_,a⟩:=h;simp[ao.length a]
theorem ao.get:∀{ds:List D} {vs:List V} {n i:Nat} {d:D},ao mg ι n H ds vs->ds[i]?=some d->∃v,vs[i]?=some v/\RV mg ι n H d v
 |[],_,_,_,_,_,e=>by simp at e
 |d::ds,vs,n,0,d',h,e=>by
  obtain⟨x,r,rfl,a,_⟩:=h;simp at e;subst e;exact⟨x,rfl,a⟩
 |d::ds,vs,n,i+1,d',h,e=>by
  obtain⟨x,r,rfl,_,b⟩:=h;obtain⟨v,h1,h2⟩:=ao.get (i:=i) b (by simpa using e);exact⟨v,by simpa using h1,h2⟩
theorem ao.app:∀{ds es:List D} {vs ws:List V} {n:Nat},ao mg ι n H ds vs->ao mg ι n H es ws->ao mg ι n H (ds++es) (vs++ws)
 |[],_,vs,_,_,h,q=>by have h':vs=[]:=h;rw[h'];exact q
 |d::ds,es,vs,ws,n,h,q=>by
  obtain⟨x,r,rfl,a,b⟩:=h;exact⟨x,r++ws,rfl,a,ao.app b q⟩
theorem ao.take:∀{ds:List D} {vs:List V} {n:Nat} (k:Nat),ao mg ι n H ds vs->ao mg ι n H (ds.take k) (vs.take k)
 |ds,vs,n,0,h=>by simp[ao]
 |[],vs,n,k+1,h=>by have h':vs=[]:=h;rw[h'];simp[ao]
 |d::ds,vs,n,k+1,h=>by
  obtain⟨x,r,rfl,a,b⟩:=h;exact⟨x,r.take k,rfl,a,ao.take k b⟩
theorem ao.drop:∀{ds:List D} {vs:List V} {n:Nat} (k:Nat),ao mg ι n H ds vs->ao mg ι n H (ds.drop k) (vs.drop k)
 |ds,vs,n,0,h=>by simpa using h
 |[],vs,n,k+1,h=>by have h':vs=[]:=h;rw[h'];simp[ao]
 |d::ds,vs,n,k+1,h=>by
  obtain⟨x,r,rfl,b,a⟩:=h;exact ao.drop k a
theorem RA.im(R:RA mg ι H A):∀r,r<A.length->∃o,H (ι r)=some o/\iA o=true:=λr h=>by
 obtain⟨c',b⟩:∃c',A[r]?=some c':=⟨A[r],by rw[aV h]⟩;have:=R.gp r c' b;cases c' with
 |lst ds=>obtain⟨xs,a,_⟩:=this;exact⟨_,a,rfl⟩
 |dct ds=>obtain⟨xs,a,_⟩:=this;exact⟨_,a,rfl⟩
 |jB o ds=>obtain⟨xs,a,_⟩:=this;exact⟨_,a,rfl⟩
 |ins cl ds=>obtain⟨c,dx,xs,_,a,_⟩:=this;exact⟨_,a,rfl⟩
theorem RA.refl(R:RA mg ι H A):Ext A ι H A ι H:=⟨aH _,λ_ _=>rfl,R.im,λ_ _ h _=>h,λr h1 h2=>absurd h2 (by omega),λ_ o h=>⟨o,h⟩⟩
theorem RA.xC(R:RA mg ι H A){p:Addr}{o:HO}(a:H p=none):Ext A ι H A ι (upd H p o):=
 ⟨aH _,λ_ _=>rfl,R.im,λb u h _=>by rw[bh (dc h a)];exact h,λr h1 h2=>absurd h2 (by omega),λb u h=>⟨u,by rw[bh (dc h a)];exact h⟩⟩
theorem RA.xF(R:RA mg ι H A){p:Addr}{o:HO}{c:C}(a:H p=none):Ext A ι H (A++[c]) (λr=>if r=A.length then p else ι r) (upd H p o):=
 ⟨by simp,λr h=>by
  show(if r=A.length then p else ι r)=ι r;rw[ai (by omega)],R.im,λb u h _=>by rw[bh (dc h a)];exact h,λr h1 h2=>by
  have e:r=A.length:=by simp at h2;omega
  show H (if r=A.length then p else ι r)=none;rw[aj e];exact a,λb u h=>⟨u,by rw[bh (dc h a)];exact h⟩⟩
theorem RA.xG(R:RA mg ι H A){r:Nat}{o:HO}{c:C}(d:r<A.length):Ext A ι H (A.set r c) ι (upd H (ι r) o):=
 ⟨by simp,λ_ _=>rfl,R.im,λb u h hn=>by rw[bh (λe=>hn r d e.symm)];exact h,λq h1 h2=>absurd h2 (by simp;omega),λb u h=>by
  by_cases a:b=ι r
  .subst a;exact⟨o,f7⟩
  .exact⟨u,by rw[bh a];exact h⟩⟩
theorem RA.fix(R:RA mg ι H A)(e:Ext A ι H A ι H')(k:∀b o,H b=some o->H' b=some o):RA mg ι H' A:=⟨λr c h=>CO.ext e (λo q=>k _ o q) c (R.gp r c h),R.inj⟩
theorem RA.push{p:Addr}{o:HO}{c:C}(R:RA mg ι H A)(e:H p=none)(hc:CO mg (λr=>if r=A.length then p else ι r) (A.length+1) (upd H p o) p c):
  RA mg (λr=>if r=A.length then p else ι r) (upd H p o) (A++[c])/\Ext A ι H (A++[c]) (λr=>if r=A.length then p else ι r) (upd H p o):=by
 have E:Ext A ι H (A++[c]) (λr=>if r=A.length then p else ι r) (upd H p o):=R.xF e;have tr:∀r,r<A.length->∃u,H (ι r)=some u:=λr h=>by
  obtain⟨c',f⟩:∃c',A[r]?=some c':=⟨A[r],by rw[aV h]⟩;have:=R.gp r c' f;cases c' with
  |lst ds=>obtain⟨xs,b,_⟩:=this;exact⟨_,b⟩
  |dct ds=>obtain⟨xs,b,_⟩:=this;exact⟨_,b⟩
  |jB o ds=>obtain⟨xs,b,_⟩:=this;exact⟨_,b⟩
  |ins cl ds=>obtain⟨k,dx,xs,_,b,_⟩:=this;exact⟨_,b⟩
 refine⟨⟨λr c' h=>?_,λr q g i h=>?_⟩,E⟩
 .by_cases g:r<A.length
  .rw[gU g] at h
   have:=CO.ext E (a:=ι r) (λo' q=>by rw[bh (dc q e)];exact q) c' (R.gp r c' h);show CO mg _ _ _ (if r=A.length then p else ι r) c';rw[ai (by omega)];exact this
  .have j:r=A.length:=by
    have:=(bL.mp h).1;simp at this;omega
   subst j;simp at h;subst h;show CO mg _ _ _ (if A.length=A.length then p else ι A.length) c;rw[aj rfl];simpa using hc
 .simp at g i
  have h':(if r=A.length then p else ι r)=(if q=A.length then p else ι q):=h;by_cases h1:r=A.length
  .by_cases h2:q=A.length
   .rw[h1,h2]
   .rw[aj h1,ai h2] at h'
    obtain⟨u,d⟩:=tr q (by omega);rw[<-h',e] at d;cases d
  .by_cases h2:q=A.length
   .rw[ai h1,aj h2] at h'
    obtain⟨u,d⟩:=tr r (by omega);rw[h',e] at d;cases d
   .rw[ai h1,ai h2] at h'
    exact R.inj r q (by omega) (by omega) h'
theorem RA.put{r:Nat}{u o:HO}{c c':C}(R:RA mg ι H A)(i:A[r]?=some c)(m:H (ι r)=some u)(n:iA u=true)(hc:CO mg ι A.length (upd H (ι r) o) (ι r) c'):
  RA mg ι (upd H (ι r) o) (A.set r c')/\Ext A ι H (A.set r c') ι (upd H (ι r) o):=by
 have f:=(bL.mp i).1;have E:Ext A ι H (A.set r c') ι (upd H (ι r) o):=R.xG f;refine⟨⟨λq d h=>?_,λa b j k=>R.inj a b (by simpa using j) (by simpa using k)⟩,E⟩;by_cases g:q=r
 .subst g
  rw[lZ f] at h;cases h;simpa using hc
 .rw[oh (Ne.symm g)] at h
  have l:=(bL.mp h).1;have:=CO.ext E (a:=ι q) (λo' z=>by rw[bh (λe=>g (R.inj q r l f e))];exact z) d (R.gp q d h);simpa using this
end
abbrev bw:=List (Option D)
def lk:bw->Nat->Option D
 |[],_=>none
 |x::_,0=>x
 |_::r,i+1=>lk r i
theorem nH:∀(τ:bw) (i:Nat),lk τ i=(τ[i]?).join
 |[],i=>by simp[lk]
 |x::r,0=>by simp[lk]
 |x::r,i+1=>by simp[lk,nH r i]
structure En where
 A:Ar
 ι:Io
 H:Hp
structure RS(mg:au)(ι:Io)(n:Nat)(H:Hp)(τ:bw)(σ:L2.St):Prop where
 len:τ.length=σ.length
 at':∀i d,lk τ i=some d->∃v,σ[i]?=some (some v)/\RV mg ι n H d v
structure dw(mg:au)(N:En)(A:Ar)(ι:Io)(τ:bw)(σ:L2.St)(H:Hp):Prop where
 ra:RA mg ι H A
 rs:RS mg ι A.length H τ σ
 ex:Ext N.A N.ι N.H A ι H
abbrev DK:=D->Ar->Prop
abbrev aU:=bw->Ar->DK->Prop
abbrev fu:=bw->Ar->(Bool->Ar->Prop)->Prop
abbrev cV:=bw->Ar->(List D->Ar->Prop)->Prop
def Kt(mg:au)(A:Ar)(ι:Io)(H:Hp)(R:DK)(Q:VK):Prop:=∀v A' ι' H' u,R v A'->Ext A ι H A' ι' H'->RA mg ι' H' A'->RV mg ι' A'.length H' v u->Q u H'
def mR(mg:au)(A:Ar)(ι:Io)(H:Hp)(R:Bool->Ar->Prop)(Q:Bool->Hp->Prop):Prop:=∀v A' ι' H',R v A'->Ext A ι H A' ι' H'->RA mg ι' H' A'->Q v H'
def Hq(mg:au)(A:Ar)(ι:Io)(H:Hp)(R:List D->Ar->Prop)(Q:List V->Hp->Prop):Prop:=∀v A' ι' H' u,R v A'->Ext A ι H A' ι' H'->RA mg ι' H' A'->ao mg ι' A'.length H' v u->Q u H'
def up(mg:au)(N:En)(m:aU):TE:=λσ H Q=>∃A ι τ R,dw mg N A ι τ σ H/\m τ A R/\Kt mg A ι H R Q
def dP(mg:au)(N:En)(m:fu):TT:=λσ H Q=>∃A ι τ R,dw mg N A ι τ σ H/\m τ A R/\mR mg A ι H R Q
def eS(mg:au)(N:En)(m:cV):TA:=λσ H Q=>∃A ι τ R,dw mg N A ι τ σ H/\m τ A R/\Hq mg A ι H R Q
section
variable{mg:au}{N:En}{A A':Ar}{ι ι':Io}{τ:bw}{σ:L2.St}{H H':Hp}
theorem RS.ext(e:Ext A ι H A' ι' H')(r:RS mg ι A.length H τ σ):RS mg ι' A'.length H' τ σ:=⟨r.len,λi d h=>by
 obtain⟨v,h1,h2⟩:=r.at' i d h;exact⟨v,h1,RV.ext e d v h2⟩⟩
theorem dw.next(S:dw mg N A ι τ σ H)(e:Ext A ι H A' ι' H')(r:RA mg ι' H' A'):dw mg N A' ι' τ σ H':=⟨r,S.rs.ext e,S.ex.trans e⟩
theorem Kt.from{R:DK}{Q:VK}(k:Kt mg A ι H R Q)(e:Ext A ι H A' ι' H'):Kt mg A' ι' H' R Q:=λv b a H2 u q c=>k v b a H2 u q (e.trans c)
theorem mR.from{R:Bool->Ar->Prop}{Q:Bool->Hp->Prop}(k:mR mg A ι H R Q)(e:Ext A ι H A' ι' H'):mR mg A' ι' H' R Q:=λv b a H2 q c=>k v b a H2 q (e.trans c)
theorem Kt.here{R:DK}{Q:VK}{d:D}{v:V}(k:Kt mg A ι H R Q)(r:RA mg ι H A)(q:R d A)(h:RV mg ι A.length H d v):Q v H:=k d A ι H v q r.refl r h
theorem mR.here{R:Bool->Ar->Prop}{Q:Bool->Hp->Prop}{b:Bool}(k:mR mg A ι H R Q)(r:RA mg ι H A)(q:R b A):Q b H:=k b A ι H q r.refl r
end
section
variable{X:Cx}{e:Expr}
theorem cX{t t':TE}(h:PE X e t)(w:∀σ H Q,t' σ H Q->t σ H Q):PE X e t':=λpins s σ H Q I q=>h pins s σ H Q I (w σ H Q q)
theorem sL{t t':TT}(h:PT X e t)(w:∀σ H Q,t' σ H Q->t σ H Q):PT X e t':=λpins s σ H Q I q=>h pins s σ H Q I (w σ H Q q)
theorem JQ{t t':TT}(h:PW X e t)(w:∀σ H Q,t' σ H Q->t σ H Q):PW X e t':=λwhole pins s σ H Q I q=>h whole pins s σ H Q I (w σ H Q q)
theorem BC{es:List Expr}{t t':TA}(h:PA X es t)(w:∀σ H Q,t' σ H Q->t σ H Q):PA X es t':=λpos pins s σ H Q I q=>h pos pins s σ H Q I (w σ H Q q)
theorem iu{st:Stmt}{t t':TS}(h:PS X st t)(w:∀D σ H,t' D σ H->t D σ H):PS X st t':=λpins s σ H D I q=>h pins s σ H D I (w D σ H q)
theorem BZ{st:List Stmt}{t t':TS}(h:cj X st t)(w:∀D σ H,t' D σ H->t D σ H):cj X st t':=λpins s σ H D I q=>h pins s σ H D I (w D σ H q)
end
def fS(i:Nat):aU:=λτ A R=>match lk τ i with
 |some v=>R v A
 |none=>False
def dC(d:D):aU:=λ_ A R=>R d A
section
variable{X:Cx}{N:En}{pos:Pos}
theorem Jv{i:Nat}{x:Str}(b:X.N[i]?=some x)(c:pe X.env.scope x)(hd:(x==("__debug__":Str))=false:=by decide)(a:(x==("__classdict__":Str))=false:=by decide):PE X (.Name x pos) (up X.mg N (fS i)):=
 cX (Pc b c hd a) λσ H Q h=>by
  obtain⟨A,ι,τ,R,S,h,k⟩:=h;unfold fS at h;split at h
  .rename_i v e
   obtain⟨u,h1,h2⟩:=S.rs.at' i v e;exact⟨u,h1,k.here S.ra h h2⟩
  .exact h.elim
theorem pS{e:Expr}{d:D}{v:V}(h:PE X e (tC v))(r:∀ι n H,RV X.mg ι n H d v):PE X e (up X.mg N (dC d)):=
 cX h λσ H Q h=>by
  obtain⟨A,ι,τ,R,S,h,k⟩:=h;exact k.here S.ra h (r _ _ _)
theorem aq{i j}:PE X (.Constant (.int i) j pos) (up X.mg N (dC (.int i))):=pS O0 λ_ _ _=>rfl
theorem eL{b j}:PE X (.Constant (.bool b) j pos) (up X.mg N (dC (.bl b))):=pS OP λ_ _ _=>rfl
theorem xg{j}:PE X (.Constant .none j pos) (up X.mg N (dC .aB)):=pS O4 λ_ _ _=>rfl
theorem bx{x j}:PE X (.Constant (.str x) j pos) (up X.mg N (dC (.str x))):=pS O9 λ_ _ _=>rfl
theorem jy{x:Str}{i:Int}{t:Tok}(a:X.mg x=some (.int i t))(b:Gl X x:=by rfl)(hd:(x==("__debug__":Str))=false:=by decide):PE X (.Name x pos) (up X.mg N (dC (.int i))):=
 pS (D7 (v:=.int i) b a ⟨_,rfl⟩ hd) λ_ _ _=>rfl
end
abbrev d_:=D->D->Ar->DK->Prop
def dN(mg:au)(r:R2)(f:d_):Prop:=∀x y A ι H u v R Q,RA mg ι H A->RV mg ι A.length H x u->RV mg ι A.length H y v->f x y A R->Kt mg A ι H R Q->r u v H Q
def c9(f:d_)(ma mb:aU):aU:=λτ A R=>ma τ A λx A1=>mb τ A1 λy A2=>f x y A2 R
section
variable{X:Cx}{N:En}{pos:Pos}{a b c:Expr}{ma mb mc:aU}{f f':d_}{r r':R2}
theorem vc(h:dN X.mg r f){σ:L2.St}{H:Hp}{Q:VK}(q:up X.mg N (c9 f ma mb) σ H Q):qR r (up X.mg N ma) (up X.mg N mb) σ H Q:=by
 obtain⟨A,ι,τ,R,S,q,k⟩:=q;have q:ma τ A (λx a=>mb τ a λy b=>f x y b R):=q;refine⟨A,ι,τ,_,S,q,λx a c H1 u i e j l=>?_⟩;refine⟨a,c,τ,_,S.next e j,i,λy b d H2 v m g n v2=>?_⟩;exact h x y b d H2 u v R Q n (RV.ext g x u l) v2 m (k.from (e.trans g))
theorem pT{op:Operator}(c:bq X (binaryOp op) r)(hd:dN X.mg r f)(d:PE X a (up X.mg N ma))(e:PE X b (up X.mg N mb)):PE X (.BinOp a op b pos) (up X.mg N (c9 f ma mb)):=
 cX (O6 c d e) λ_ _ _ h=>vc hd h
theorem Jp{op:CmpOp}(c:bq X (compareOp op) r)(hd:dN X.mg r f)(d:PE X a (up X.mg N ma))(e:PE X b (up X.mg N mb))(g:behindInMarks op b=false):PE X (.Compare a [op] [b] pos) (up X.mg N (c9 f ma mb)):=
 cX (OW c d e g) λ_ _ _ h=>vc hd h
def ig(m:aU):fu:=λτ A R=>m τ A λx A1=>match x with
 |.bl k=>R k A1
 |_=>False
theorem zy{t:TE}{m:aU}(d:∀σ H Q,up X.mg N m σ H Q->t σ H Q){σ:L2.St}{H:Hp}{Q:Bool->Hp->Prop}(q:dP X.mg N (ig m) σ H Q):zo t σ H Q:=by
 obtain⟨A,ι,τ,R,S,q,k⟩:=q;refine d _ _ _ ⟨A,ι,τ,_,S,q,λx e a H1 u c f g h=>?_⟩;cases x with
 |bl b=>exact⟨b,h,k b e a H1 c f g⟩
 |_=>exact c.elim
theorem m7{op:CmpOp}(c:bq X (compareOp op) r)(hd:dN X.mg r f)(d:PE X a (up X.mg N ma))(e:PE X b (up X.mg N mb))(g:behindInMarks op b=false):PT X (.Compare a [op] [b] pos) (dP X.mg N (ig (c9 f ma mb))):=
 sL (P1 c d e g) λ_ _ _ h=>zy (λ_ _ _ h=>vc hd h) h
def pQ(f f':d_)(ma mb mc:aU):aU:=λτ A R=>ma τ A λx A1=>mb τ A1 λy A2=>f x y A2 λz A3=>match z with
 |.bl k=>cond k (mc τ A3 λw A4=>f' y w A4 R) (R (.bl false) A3)
 |_=>False
theorem Gm(h:dN X.mg r f)(h':dN X.mg r' f'){σ:L2.St}{H:Hp}{Q:VK}(q:up X.mg N (pQ f f' ma mb mc) σ H Q):zk r r' (up X.mg N ma) (up X.mg N mb) (up X.mg N mc) σ H Q:=by
 obtain⟨A,ι,τ,R,S,q,k⟩:=q;refine⟨A,ι,τ,_,S,q,λx s e H1 u t a m B=>?_⟩;refine⟨s,e,τ,_,S.next a m,t,λy C g H2 v D c n v2=>?_⟩;refine h x y C g H2 u v _ _ n (RV.ext c x u B) v2 D λz E i L w j d o F=>?_;cases z with
 |bl b=>
  refine⟨b,F,?_⟩;cases b with
  |true=>
   rw[aj rfl];refine⟨E,i,τ,_,((S.next a m).next c n).next d o,j,λz G l I w J p K v4=>?_⟩;exact h' y z G l I v w R Q K (RV.ext (d.trans p) y v v2) v4 J (k.from (((a.trans c).trans d).trans p))
  |false=>
   rw[ai cC];exact(k.from ((a.trans c).trans d)).here o j rfl
 |_=>exact j.elim
theorem Jo{op d:CmpOp}(i:bq X (compareOp op) r)(e:bq X (compareOp d) r')(hd:dN X.mg r f)(g:dN X.mg r' f')(j:PE X a (up X.mg N ma))(k:PE X b (up X.mg N mb))(hc:PE X c (up X.mg N mc))
  (l:lastMarks [op,d] [b,c]=false:=by with_unfolding_all rfl):PE X (.Compare a [op,d] [b,c] pos) (up X.mg N (pQ f f' ma mb mc)):=
 cX (OV i e j k hc l) λ_ _ _ h=>Gm hd g h
theorem JN{op d:CmpOp}(i:bq X (compareOp op) r)(e:bq X (compareOp d) r')(hd:dN X.mg r f)(g:dN X.mg r' f')(j:PE X a (up X.mg N ma))(k:PE X b (up X.mg N mb))(hc:PE X c (up X.mg N mc))
  (l:lastMarks [op,d] [b,c]=false:=by with_unfolding_all rfl):PT X (.Compare a [op,d] [b,c] pos) (dP X.mg N (ig (pQ f f' ma mb mc))):=
 sL (P0 i e j k hc l) λ_ _ _ h=>zy (λ_ _ _ h=>Gm hd g h) h
theorem dI{m:aU}(h:PE X a (up X.mg N m))(b:∀whole,isTrue a X.env whole=(do let v <-whole;standAt a.pos;holding [v] (truthy v)):=by intro _;rfl):PT X a (dP X.mg N (ig m)):=
 sL (P5 h b) λ_ _ _ q=>zy (λ_ _ _ h=>h) q
def IU(t u:fu):fu:=λτ A R=>t τ A λc A1=>cond c (R true A1) (u τ A1 R)
def IT(t:fu):fu:=λτ A R=>t τ A λc A1=>R (!c) A1
variable{tA tB:fu}{rest:List Expr}
theorem fY(b:PT X a (dP X.mg N tA)):PW X (.BoolOp .Or [a] pos) (dP X.mg N tA):=pw_or1 b
theorem fD(g:PT X a (dP X.mg N tA))(h:PW X (.BoolOp .Or (b::rest) pos) (dP X.mg N tB)):PW X (.BoolOp .Or (a::b::rest) pos) (dP X.mg N (IU tA tB)):=
 JQ (pw_or g h) λσ H Q q=>by
  obtain⟨A,ι,τ,R,S,q,k⟩:=q;refine⟨A,ι,τ,_,S,q,λx i c H1 e d f=>?_⟩;cases x with
  |true=>rw[aj rfl];exact(k.from d).here f e
  |false=>rw[ai cC];exact⟨i,c,τ,_,S.next d f,e,k.from d⟩
theorem dH(b:PT X a (dP X.mg N tA)):PT X (.UnaryOp .Not a pos) (dP X.mg N (IT tA)):=
 sL (P4 b) λσ H Q q=>by
  obtain⟨A,ι,τ,R,S,q,k⟩:=q;exact⟨A,ι,τ,_,S,q,λx g c H1 d e f=>(k.from e).here f d⟩
def IL(ma mb:aU):aU:=λτ A R=>ma τ A λx A1=>match x with
 |.bl c=>cond c (mb τ A1 R) (R (.bl false) A1)
 |_=>False
theorem sF{op}(h:PE X a (up X.mg N ma)):PE X (.BoolOp op [a] pos) (up X.mg N ma):=O5 h
theorem sE(h:PE X a (up X.mg N ma))(i:PE X (.BoolOp .And (b::rest) pos) (up X.mg N mb)):PE X (.BoolOp .And (a::b::rest) pos) (up X.mg N (IL ma mb)):=
 cX (OO h i) λσ H Q q=>by
  obtain⟨A,ι,τ,R,S,q,k⟩:=q;refine⟨A,ι,τ,_,S,q,λx j d H1 u e f g l=>?_⟩;cases x with
  |bl c=>
   refine⟨c,l,?_⟩;cases c with
   |true=>rw[aj rfl];exact⟨j,d,τ,_,S.next f g,e,k.from f⟩
   |false=>rw[ai cC];exact(k.from f).here g e rfl
  |_=>exact e.elim
end
def jZ:cV:=λ_ A R=>R [] A
def fR(m:aU)(n:cV):cV:=λτ A R=>m τ A λx A1=>n τ A1 λxs A2=>R (x::xs) A2
def Bv(n:cV):aU:=λτ A R=>n τ A λxs A1=>xs.length<=sizeLine/\R (.tup xs) A1
def Bt(n:cV):aU:=λτ A R=>n τ A λxs A1=>xs.length<=sizeLine/\R (.ref A1.length) (A1++[.lst xs])
section
variable{X:Cx}{N:En}{pos:Pos}{e:Expr}{es:List Expr}{m:aU}{n:cV}
theorem ah:PA X [] (eS X.mg N jZ):=BC uH λσ H Q q=>by
 obtain⟨A,ι,τ,R,S,q,k⟩:=q;exact k [] A ι H [] q S.ra.refl S.ra rfl
theorem aa(f:PE X e (up X.mg N m))(g:PA X es (eS X.mg N n))(h:starEach (e::es) X.env=(false,eval e X.env)::starEach es X.env:=by rfl):PA X (e::es) (eS X.mg N (fR m n)):=
 BC (lU f g h) λσ H Q q=>by
  obtain⟨A,ι,τ,R,S,q,k⟩:=q;refine⟨A,ι,τ,_,S,q,λx i a H1 u j c l o=>?_⟩;refine⟨i,a,τ,_,S.next c l,j,λy p b H2 v r d s v2=>?_⟩;exact k _ p b H2 _ r (c.trans d) s ⟨u,v,rfl,RV.ext d x u o,v2⟩
theorem tW{mg:au}{A:Ar}{ι:Io}{H:Hp}{R:DK}{Q:VK}{ds:List D}{xs:List V}{p:Addr}(k:Kt mg A ι H R Q)(r:RA mg ι H A)(h:ao mg ι A.length H ds xs)(q:R (.tup ds) A)(a:H p=none):Q (.ref p) (upd H p (.tup xs)):=by
 have E:Ext A ι H A ι (upd H p (.tup xs)):=r.xC a;exact k _ A ι _ _ q E (r.fix E λb o z=>by rw[bh (dc z a)];exact z) ⟨p,xs,rfl,f7,ao.ext E ds xs h⟩
theorem jH{mg:au}{A:Ar}{ι:Io}{H:Hp}{R:DK}{Q:VK}{ds:List D}{xs:List V}{p:Addr}(k:Kt mg A ι H R Q)(r:RA mg ι H A)(h:ao mg ι A.length H ds xs)(q:R (.ref A.length) (A++[.lst ds]))(a:H p=none):Q (.ref p) (upd H p (.lst xs)):=by
 have E:Ext A ι H (A++[.lst ds]) (λr=>if r=A.length then p else ι r) (upd H p (.lst xs)):=r.xF a;obtain⟨b,d⟩:=r.push (c:=.lst ds) (o:=.lst xs) a ⟨xs,f7,by simpa using ao.ext E ds xs h⟩;refine k _ _ _ _ _ q d b ⟨by simp,?_⟩;show V.ref p=V.ref (if A.length=A.length then p else ι A.length);rw[aj rfl]
theorem cK{c}(h:PA X es (eS X.mg N n)):PE X (.Tuple es c pos) (up X.mg N (Bv n)):=cX (O_ h) λσ H Q q=>by
 obtain⟨A,ι,τ,R,S,q,k⟩:=q;refine⟨A,ι,τ,_,S,q,λx i d H1 u a e f b=>?_⟩;exact⟨by rw[<-ao.length b];exact a.1,λp g=>tW (k.from e) f b a.2 g⟩
theorem fB(h:PA X es (eS X.mg N n)):PE X (.List es pos) (up X.mg N (Bt n)):=cX (O3 h) λσ H Q q=>by
 obtain⟨A,ι,τ,R,S,q,k⟩:=q;refine⟨A,ι,τ,_,S,q,λx g c H1 u a d e b=>?_⟩;exact⟨by rw[<-ao.length b];exact a.1,λp f=>jH (k.from d) e b a.2 f⟩
end
section
variable{mg:au}{K:Frag}{A:Ar}{ι:Io}{H:Hp}
theorem RA.lst(r:RA mg ι H A){q:Nat}{ds:List D}(h:A[q]?=some (.lst ds)):∃xs,H (ι q)=some (.lst xs)/\ao mg ι A.length H ds xs:=r.gp q _ h
theorem RA.dct(r:RA mg ι H A){q:Nat}{ds:List (Key×D)}(h:A[q]?=some (.dct ds)):∃xs,H (ι q)=some (.dK xs)/\RK mg ι A.length H ds xs:=r.gp q _ h
theorem RA.jB(r:RA mg ι H A){q:Nat}{o:Obj}{ds:List (Key×D)}(h:A[q]?=some (.jB o ds)):∃xs,H (ι q)=some (.cT o (.dK xs))/\RK mg ι A.length H ds xs:=r.gp q _ h
theorem ao.ints:∀(ns:List Int) {n:Nat},ao mg ι n H (ns.map D.int) (ns.map V.int)
 |[],_=>rfl
 |i::r,n=>⟨_,_,rfl,rfl,ao.ints r⟩
theorem ao.DQ{n:Nat}{ds:List D}(h:ao mg ι n H ds []):ds=[]:=by
 cases ds with
 |nil=>rfl
 |cons d r=>obtain⟨x,r,e,_⟩:=h;cases e
end
abbrev Ef(K:Frag):R2:=λx y H Q=>gP (λi j=>.int (i+j)) x y H Q\/(∃i j,x=.str i/\y=.str j/\i.length+j.length<=sizeLine/\Q (.str (i++j)) H)\/Ei K x y H Q\/Eh x y H Q
theorem N7{X:Cx}:bq X (binaryOp .Add) (Ef X.K):=Oh.or (Oi.or (Ol.or Oj))
@[irreducible] def sr(r q:Nat)(A:Ar)(R:DK):Prop:=match A[r]?,A[q]? with
 |some (.lst xs),some (.lst ys)=>xs.length+ys.length<=sizeLine/\R (.ref A.length) (A++[.lst (xs++ys)])
 |_,_=>False
def pF:d_:=λx y A R=>match x,y with
 |.int i,.int j=>R (.int (i+j)) A
 |.str a,.str b=>a.length+b.length<=sizeLine/\R (.str (a++b)) A
 |.tup xs,.tup ys=>xs.length+ys.length<=sizeLine/\R (.tup (xs++ys)) A
 |.ref r,.ref q=>sr r q A R
 |_,_=>False
theorem IX{mg:au}{K:Frag}:dN mg (Ef K) pF:=by
 intro x y A ι H u v R Q ra e f h k;unfold pF at h;split at h
 .cases e;cases f
  exact .inl ⟨_,_,rfl,rfl,k.here ra h rfl⟩
 .cases e;cases f
  exact .inr (.inl ⟨_,_,rfl,rfl,h.1,k.here ra h.2 rfl⟩)
 .obtain⟨a,xs,rfl,g,c⟩:=e
  obtain⟨b,ys,rfl,i,d⟩:=f;refine .inr (.inr (.inl ⟨a,b,xs,ys,rfl,rfl,bg.of g,bg.of i,by rw[<-ao.length c,<-ao.length d];exact h.1,λz=>?_,λ_ z=>?_,λ_ _ p j=>tW k ra (c.app d) h.2 j⟩))
  .subst z
   obtain rfl:=ao.DQ c;exact k.here ra h.2 ⟨b,ys,rfl,i,d⟩
  .subst z
   obtain rfl:=ao.DQ d;exact k.here ra h.2 ⟨a,xs,rfl,g,by rw[iN];exact c⟩
 .rename_i r q
  unfold sr at h;split at h
  .rename_i xs ys g i
   obtain⟨l,h1,c⟩:=ra.lst g;obtain⟨vs,h2,d⟩:=ra.lst i;obtain⟨_,rfl⟩:=e;obtain⟨_,rfl⟩:=f;exact .inr (.inr (.inr ⟨_,_,l,vs,rfl,rfl,h1,h2,by rw[<-ao.length c,<-ao.length d];exact h.1,λp j=>jH k ra (c.app d) h.2 j⟩))
  .exact h.elim
 .exact h.elim
def intD(C:Int->Int->Prop)(g:Int->Int->D):d_:=λx y A R=>match x,y with
 |.int i,.int j=>C i j/\R (g i j) A
 |_,_=>False
def tw(g:Int->Int->D):d_:=λx y A R=>match x,y with
 |.int i,.int j=>R (g i j) A
 |_,_=>False
theorem w9{mg:au}{C:Int->Int->Prop}{g:Int->Int->V}{g':Int->Int->D}(a:∀i j ι n H,RV mg ι n H (g' i j) (g i j)):dN mg (rI C g) (intD C g'):=by
 intro x y A ι H u v R Q ra b c h k;unfold intD at h;split at h
 .cases b;cases c
  exact⟨_,_,rfl,rfl,h.1,k.here ra h.2 (a _ _ _ _ _)⟩
 .exact h.elim
theorem By{mg:au}{g:Int->Int->V}{g':Int->Int->D}(a:∀i j ι n H,RV mg ι n H (g' i j) (g i j)):dN mg (gP g) (tw g'):=by
 intro x y A ι H u v R Q ra b c h k;unfold tw at h;split at h
 .cases b;cases c
  exact⟨_,_,rfl,rfl,k.here ra h (a _ _ _ _ _)⟩
 .exact h.elim
abbrev Sb:d_:=tw λi j=>.int (i - j)
abbrev NP:d_:=intD rM λi j=>.int (i*j)
abbrev BR:d_:=intD (λ_ j=>0<j/\j.natAbs.log2<9000) λi j=>.int (i/j)
abbrev DC:d_:=intD (λ_ j=>0<j) λi j=>.int (i%j)
section
variable{X:Cx}{N:En}{pos:Pos}{a b c:Expr}{ma mb mc:aU}
theorem dz(c:PE X a (up X.mg N ma))(d:PE X b (up X.mg N mb)):PE X (.BinOp a .Add b pos) (up X.mg N (c9 pF ma mb)):=pT N7 IX c d
theorem xj(c:PE X a (up X.mg N ma))(d:PE X b (up X.mg N mb)):PE X (.BinOp a .Sub b pos) (up X.mg N (c9 Sb ma mb)):=pT OH (By λ_ _ _ _ _=>rfl) c d
theorem gu(c:PE X a (up X.mg N ma))(d:PE X b (up X.mg N mb)):PE X (.BinOp a .Mult b pos) (up X.mg N (c9 NP ma mb)):=pT OC (w9 λ_ _ _ _ _=>rfl) c d
theorem jx(c:PE X a (up X.mg N ma))(d:PE X b (up X.mg N mb)):PE X (.BinOp a .FloorDiv b pos) (up X.mg N (c9 BR ma mb)):=pT Ou (w9 λ_ _ _ _ _=>rfl) c d
theorem j3(c:PE X a (up X.mg N ma))(d:PE X b (up X.mg N mb)):PE X (.BinOp a .Mod b pos) (up X.mg N (c9 DC ma mb)):=pT OB (w9 λ_ _ _ _ _=>rfl) c d
def IQ(m:aU):aU:=λτ A R=>m τ A λx A1=>match x with
 |.int i=>R (.int (-i)) A1
 |_=>False
theorem BF(c:PE X a (up X.mg N ma)):PE X (.UnaryOp .USub a pos) (up X.mg N (IQ ma)):=cX (Pb Tp c) λσ H Q q=>by
 obtain⟨A,ι,τ,R,S,q,k⟩:=q;refine⟨A,ι,τ,_,S,q,λx h d H1 u b e f g=>?_⟩;cases x with
 |int i=>cases g;exact⟨i,rfl,(k.from e).here f b rfl⟩
 |_=>exact b.elim
end
abbrev Ez:R2:=λx y H Q=>gP (λi j=>.bl (decide (i<j))) x y H Q\/∃i j,x=.str i/\y=.str j/\Q (.bl (decide (i.cps.toList<j.cps.toList))) H
abbrev Ey:R2:=λx y H Q=>gP (λi j=>.bl (decide (i<=j))) x y H Q\/∃i j,x=.str i/\y=.str j/\Q (.bl (!decide (j.cps.toList<i.cps.toList))) H
theorem N8{X:Cx}:bq X (compareOp .Lt) Ez:=Oz.or OA
theorem tY{X:Cx}:bq X (compareOp .LtE) Ey:=Ow.or Ox
def yf:d_:=λx y A R=>match x,y with
 |.int i,.int j=>R (.bl (decide (i<j))) A
 |.str a,.str b=>R (.bl (decide (a.cps.toList<b.cps.toList))) A
 |_,_=>False
def nG:d_:=λx y A R=>match x,y with
 |.int i,.int j=>R (.bl (decide (i<=j))) A
 |.str a,.str b=>R (.bl (!decide (b.cps.toList<a.cps.toList))) A
 |_,_=>False
theorem Jb{mg:au}:dN mg Ez yf:=by
 intro x y A ι H u v R Q ra a b h k;unfold yf at h;split at h
 .cases a;cases b;exact .inl ⟨_,_,rfl,rfl,k.here ra h rfl⟩
 .cases a;cases b;exact .inr ⟨_,_,rfl,rfl,k.here ra h rfl⟩
 .exact h.elim
theorem sC{mg:au}:dN mg Ey nG:=by
 intro x y A ι H u v R Q ra a b h k;unfold nG at h;split at h
 .cases a;cases b;exact .inl ⟨_,_,rfl,rfl,k.here ra h rfl⟩
 .cases a;cases b;exact .inr ⟨_,_,rfl,rfl,k.here ra h rfl⟩
 .exact h.elim
abbrev CD:d_:=tw λi j=>.bl (decide (j<i))
theorem I0{mg:au}:dN mg (gP λi j=>.bl (decide (j<i))) CD:=By λ_ _ _ _ _=>rfl
def CY:D->Bool
 |.aB=>true
 |_=>false
def yq:d_:=λx y A R=>match y with
 |.aB=>R (.bl (!CY x)) A
 |_=>False
theorem RV.N4{mg:au}{ι:Io}{n:Nat}{H:Hp}{x:D}{u:V}(r:RV mg ι n H x u):decide (u=.aB)=CY x:=by
 cases x with
 |aB=>cases r;rfl
 |bl b=>cases r;rfl
 |int b=>cases r;rfl
 |str b=>cases r;rfl
 |tup ds=>obtain⟨a,xs,rfl,_⟩:=r;rfl
 |ref q=>obtain⟨_,rfl⟩:=r;rfl
 |fl ns=>obtain⟨a,o,rfl,_⟩:=r;rfl
 |exc c=>obtain⟨a,C,rfl,_⟩:=r;rfl
theorem Je{mg:au}:dN mg (λx y H Q=>y=.aB/\Q (.bl (!decide (x=.aB))) H) yq:=by
 intro x y A ι H u v R Q ra a b h k;unfold yq at h;split at h
 .cases b
  refine⟨rfl,?_⟩;rw[a.N4];exact k.here ra h rfl
 .exact h.elim
mutual
def toQ:D->PyData
 |.aB=>.none
 |.bl b=>.bool b
 |.int i=>.int i
 |.str x=>.str x
 |.tup xs=>.tuple (bY xs)
 |.ref _=>.none
 |.fl ns=>.list (ns.map .int)
 |.exc _=>.none
def bY:List D->List PyData
 |[]=>[]
 |d::r=>toQ d::bY r
end
mutual
def fH:D->Bool
 |.tup xs=>gz xs
 |.ref _=>false
 |.exc _=>false
 |_=>true
def gz:List D->Bool
 |[]=>true
 |d::r=>fH d&&gz r
end
def cE(A:Ar):D->PyData
 |.ref r=>match A[r]? with
  |some (.lst xs)=>.list (bY xs)
  |_=>.none
 |d=>toQ d
def jc(A:Ar):D->Bool
 |.ref r=>match A[r]? with
  |some (.lst xs)=>gz xs
  |_=>false
 |d=>fH d
section
variable{mg:au}{K:Frag}{A:Ar}{ι:Io}{H:Hp}
theorem JI:∀ns:List Int,fy K H (ns.map V.int) (ns.map PyData.int):=fy.ints
mutual
theorem RV.dp{n:Nat}:∀(d:D) (v:V),fH d=true->RV mg ι n H d v->Dp K H v (toQ d)
 |.aB,_,_,h=>by cases h;exact .aB
 |.bl b,_,_,h=>by cases h;exact .bl b
 |.int i,_,_,h=>by cases h;exact .int i
 |.str x,_,_,h=>by cases h;exact .str x
 |.tup ds,v,p,h=>by
  obtain⟨a,xs,rfl,e,r⟩:=h;exact .tup (bg.of e) (ao.dp ds xs (by simpa[fH] using p) r)
 |.ref _,_,p,_=>by simp[fH] at p
 |.fl ns,v,_,h=>by
  obtain⟨a,o,rfl,e⟩:=h;exact .lst (.inl (.inr ⟨o,e⟩)) (JI ns)
 |.exc _,_,p,_=>by simp[fH] at p
theorem ao.dp{n:Nat}:∀(ds:List D) (vs:List V),gz ds=true->ao mg ι n H ds vs->fy K H vs (bY ds)
 |[],vs,_,h=>by cases (show vs=[] from h);exact .nil
 |d::ds,vs,p,h=>by
  obtain⟨x,r,rfl,h1,h2⟩:=h;have a:fH d=true/\gz ds=true:=by simpa[gz] using p
  exact .cons (RV.dp d x a.1 h1) (ao.dp ds r a.2 h2)
end
theorem RA.dp(ra:RA mg ι H A){d:D}{v:V}(p:jc A d=true)(h:RV mg ι A.length H d v):Dp K H v (cE A d):=by
 cases d with
 |ref r=>
  obtain⟨_,rfl⟩:=h;unfold jc at p;unfold cE;simp only at p ⊢;split at p
  .rename_i xs e
   obtain⟨a,h1,b⟩:=ra.lst e;exact .lst (aW.of h1) (ao.dp xs a p b)
  .cases p
 |_=>exact RV.dp _ v p h
end
@[irreducible] def eK(neg:Bool)(x y:D)(A:Ar)(R:DK):Prop:=jc A x=true/\jc A y=true/\(cE A x).canLay0=true/\(cE A y).canLay0=true/\min (cE A x).depth (cE A y).depth<=64/\R (.bl (if neg then !PyData.eqv (cE A x) (cE A y) else PyData.eqv (cE A x) (cE A y))) A
def sN:d_:=λx y A R=>match x,y with
 |.int i,.int j=>R (.bl (decide (i=j))) A
 |.str a,.str b=>R (.bl (decide (a=b))) A
 |.bl a,.bl b=>R (.bl (decide (a=b))) A
 |x,y=>eK false x y A R
def ql:d_:=λx y A R=>match x,y with
 |.int i,.int j=>R (.bl (!decide (i=j))) A
 |.str a,.str b=>R (.bl (!decide (a=b))) A
 |.bl a,.bl b=>R (.bl (!decide (a=b))) A
 |x,y=>eK true x y A R
theorem DS{X:Cx}(a:X.A.units+64<cLine):bq X (compareOp .Eq) (λx y H Q=>yI x y H Q\/yJ X.K x y H Q):=Oq.or (Ot a)
theorem N9{X:Cx}(a:X.A.units+64<cLine):bq X (compareOp .NotEq) (λx y H Q=>yK x y H Q\/yL X.K x y H Q):=OD.or (OE a)
theorem Bw{mg:au}{K:Frag}:dN mg (λx y H Q=>yI x y H Q\/yJ K x y H Q) sN:=by
 intro x y A ι H u v R Q ra a b h k;unfold sN at h;split at h
 .cases a;cases b
  rename_i i j;refine .inl ⟨rfl,?_⟩;have e:decide (V.int i=V.int j)=decide (i=j):=by simp
  rw[e];exact k.here ra h rfl
 .cases a;cases b
  rename_i i j;refine .inl ⟨rfl,?_⟩;have e:decide (V.str i=V.str j)=decide (i=j):=by simp
  rw[e];exact k.here ra h rfl
 .cases a;cases b
  rename_i i j;refine .inl ⟨rfl,?_⟩;have e:decide (V.bl i=V.bl j)=decide (i=j):=by simp
  rw[e];exact k.here ra h rfl
 .unfold eK at h
  obtain⟨p1,p2,c,d,hd,q⟩:=h;exact .inr ⟨_,_,ra.dp p1 a,ra.dp p2 b,c,d,hd,k.here ra q rfl⟩
theorem Jc{mg:au}{K:Frag}:dN mg (λx y H Q=>yK x y H Q\/yL K x y H Q) ql:=by
 intro x y A ι H u v R Q ra a b h k;unfold ql at h;split at h
 .cases a;cases b
  rename_i i j;refine .inl ⟨rfl,?_⟩;have e:decide (V.int i=V.int j)=decide (i=j):=by simp
  rw[e];exact k.here ra h rfl
 .cases a;cases b
  rename_i i j;refine .inl ⟨rfl,?_⟩;have e:decide (V.str i=V.str j)=decide (i=j):=by simp
  rw[e];exact k.here ra h rfl
 .cases a;cases b
  rename_i i j;refine .inl ⟨rfl,?_⟩;have e:decide (V.bl i=V.bl j)=decide (i=j):=by simp
  rw[e];exact k.here ra h rfl
 .unfold eK at h
  obtain⟨p1,p2,c,d,hd,q⟩:=h;exact .inr ⟨_,_,ra.dp p1 a,ra.dp p2 b,c,d,hd,k.here ra q rfl⟩
def iz:D->Option Key
 |.int i=>some (.inl i)
 |.str x=>some (.inr x)
 |_=>none
def ck:List (Key×D)->Key->Option D
 |[],_=>none
 |p::r,k=>if p.1=k then some p.2 else ck r k
@[irreducible] def nC(r:Nat)(y:D)(A:Ar)(R:DK):Prop:=match A[r]? with
 |some (.lst xs)=>(match y with
  |.int i=>(match cJ xs i with
   |some v=>R v A
   |none=>False)
  |_=>False)
 |some (.dct kvs)=>(match iz y with
  |some k=>(match ck kvs k with
   |some v=>R v A
   |none=>False)
  |none=>False)
 |some (.jB _ kvs)=>(match iz y with
  |some k=>(match ck kvs k with
   |some v=>R v A
   |none=>False)
  |none=>False)
 |_=>False
def lE:d_:=λx y A R=>match x,y with
 |.tup xs,.int i=>match cJ xs i with
  |some v=>R v A
  |none=>False
 |.str z,.int i=>match cJ z.cps.toList i with
  |some c=>z.length<=sizeLine/\R (.str ⟨#[c]⟩) A
  |none=>False
 |.fl ns,.int i=>match cJ ns i with
  |some c=>R (.int c) A
  |none=>False
 |.ref r,y=>nC r y A R
 |_,_=>False
section
variable{mg:au}{K:Frag}{A:Ar}{ι:Io}{H:Hp}
theorem ao.cJ{n:Nat}{ds:List D}{vs:List V}{i:Int}{d:D}(r:ao mg ι n H ds vs)(h:L2.cJ ds i=some d):∃v,L2.cJ vs i=some v/\RV mg ι n H d v:=by
 unfold L2.cJ at h ⊢;rw[<-ao.length r];cases q:jF ds.length i with
 |none=>rw[q] at h;cases h
 |some j=>
  rw[q] at h;exact ao.get r h
theorem HC{α β:Type}(f:α->β)(xs:List α)(i:Int):L2.cJ (xs.map f) i=(L2.cJ xs i).map f:=by
 unfold L2.cJ;rw[a_];cases jF xs.length i with
 |none=>rfl
 |some j=>simp
theorem RK.get{n:Nat}:∀{kvs:List (Key×D)} {xs:List (Key×V)} {k:Key},RK mg ι n H kvs xs->(∀d,ck kvs k=some d->∃v,eE xs k=some v/\RV mg ι n H d v)/\(ck kvs k=none->eE xs k=none)
 |[],xs,k,h=>by
  cases (show xs=[] from h);exact⟨λd e=>by simp[ck] at e,λ_=>rfl⟩
 |p::r,xs,k,h=>by
  obtain⟨x,r',rfl,h1,h2⟩:=h;obtain⟨g1,g2⟩:=RK.get (k:=k) h2;unfold ck;by_cases hk:p.1=k
  .rw[aj hk]
   have e:eE ((p.1,x)::r') k=some x:=by simp[eE,hk]
   rw[e];exact⟨λd z=>by cases z;exact⟨x,rfl,h1⟩,λz=>by cases z⟩
  .rw[ai hk]
   have e:eE ((p.1,x)::r') k=eE r' k:=by simp[eE,kY,hk]
   rw[e];exact⟨g1,g2⟩
theorem p_{n:Nat}{y:D}{v:V}{k:Key}(h:iz y=some k)(r:RV mg ι n H y v):v=kV k:=by
 cases y with
 |int i=>cases h;exact r
 |str x=>cases h;exact r
 |_=>cases h
end
def Es:R2:=λx y H Q=>∃a v,x=.ref a/\oX H a y (some v)/\Q v H
theorem Mq{X:Cx}(i:X.A.units+64<cLine):g6 X Es:=by
 intro value slice pins s σ H x y v u Q I c d h e;obtain⟨a,z,rfl,g,q⟩:=h;cases c;exact tail_any (JB I g) PySem.F.slot_dict_getitem.lookup (IZ (by omega) I g d λj k f b=>⟨z,H,f,b,q⟩) e
abbrev Er(K:Frag):R2:=λx y H Q=>Ep K x y H Q\/Es x y H Q
theorem Mb{X:Cx}(a:X.A.units+64<cLine):g6 X (Er X.K):=Ms.or (Mq a)
theorem I_{mg:au}{K:Frag}:dN mg (Er K) lE:=by
 intro x y A ι H u v R Q ra i f h k;unfold lE at h;split at h
 .obtain⟨a,xs,rfl,j,b⟩:=i
  cases f;split at h
  .rename_i d e
   obtain⟨z,hz,c⟩:=b.cJ e;exact .inl (.inr (.inl ⟨a,xs,_,z,rfl,rfl,bg.of j,hz,k.here ra h c⟩))
  .exact h.elim
 .cases i;cases f
  split at h
  .rename_i d e
   exact .inl (.inr (.inr ⟨_,_,_,rfl,rfl,h.1,e,k.here ra h.2 rfl⟩))
  .exact h.elim
 .obtain⟨a,o,rfl,j⟩:=i
  cases f;split at h
  .rename_i d e
   exact .inl (.inl ⟨a,_,_,_,rfl,rfl,.inl (.inr ⟨o,j⟩),by rw[HC,e];rfl,k.here ra h rfl⟩)
  .exact h.elim
 .obtain⟨_,rfl⟩:=i
  unfold nC at h;split at h
  .rename_i xs e
   obtain⟨g,h1,b⟩:=ra.lst e;split at h
   .cases f
    split at h
    .rename_i d e
     obtain⟨z,hz,c⟩:=b.cJ e;exact .inl (.inl ⟨_,g,_,z,rfl,rfl,aW.of h1,hz,k.here ra h c⟩)
    .exact h.elim
   .exact h.elim
  .rename_i kvs e
   obtain⟨g,h1,b⟩:=ra.dct e;split at h
   .rename_i l m
    cases p_ m f;split at h
    .rename_i d n
     obtain⟨z,hz,c⟩:=(RK.get b).1 d n;exact .inr ⟨_,z,rfl,.inl ⟨g,l,.inl h1,rfl,hz.symm⟩,k.here ra h c⟩
    .exact h.elim
   .exact h.elim
  .rename_i o kvs e
   obtain⟨g,h1,b⟩:=ra.jB e;split at h
   .rename_i l m
    cases p_ m f;split at h
    .rename_i d n
     obtain⟨z,hz,c⟩:=(RK.get b).1 d n;exact .inr ⟨_,z,rfl,.inl ⟨g,l,.inr ⟨o,h1⟩,rfl,hz.symm⟩,k.here ra h c⟩
    .exact h.elim
   .exact h.elim
  .exact h.elim
 .exact h.elim
theorem Js{X:Cx}{N:En}{pos:Pos}{a b:Expr}{ma mb:aU}(c:X.A.units+64<cLine)(d:PE X a (up X.mg N ma))(e:PE X b (up X.mg N mb))(f:we b):PE X (.Subscript a b pos) (up X.mg N (c9 lE ma mb)):=
 cX (O1 (Mb c) d e f) λ_ _ _ h=>vc I_ h
structure jq where
 nx:bw->Ar->Prop
 rt:DK
 bk:bw->Ar->Prop:=λ_ _=>False
 ct:bw->Ar->Prop:=λ_ _=>False
abbrev cg:=jq->bw->Ar->Prop
def iU(mg:au)(A:Ar)(ι:Io)(H:Hp)(R:bw->Ar->Prop)(Q:L2.St->Hp->Prop):Prop:=∀τ A' ι' σ H',R τ A'->Ext A ι H A' ι' H'->RA mg ι' H' A'->RS mg ι' A'.length H' τ σ->Q σ H'
structure rQ(mg:au)(A:Ar)(ι:Io)(H:Hp)(R:jq)(Q:Ends):Prop where
 nx:iU mg A ι H R.nx Q.nx
 rt:Kt mg A ι H R.rt Q.rt
 bk:iU mg A ι H R.bk Q.bk
 ct:iU mg A ι H R.ct Q.ct
def bZ(mg:au)(N:En)(m:cg):TS:=λQ σ H=>∃A ι τ R,dw mg N A ι τ σ H/\m R τ A/\rQ mg A ι H R Q
section
variable{mg:au}{N:En}{A A':Ar}{ι ι':Io}{τ bU:bw}{σ σ':L2.St}{H H':Hp}
theorem iU.from{R:bw->Ar->Prop}{Q:L2.St->Hp->Prop}(k:iU mg A ι H R Q)(e:Ext A ι H A' ι' H'):iU mg A' ι' H' R Q:=λτ b a σ H2 q c=>k τ b a σ H2 q (e.trans c)
theorem rQ.from{R:jq}{Q:Ends}(k:rQ mg A ι H R Q)(e:Ext A ι H A' ι' H'):rQ mg A' ι' H' R Q:=⟨k.nx.from e,k.rt.from e,k.bk.from e,k.ct.from e⟩
theorem iU.here{R:bw->Ar->Prop}{Q:L2.St->Hp->Prop}(k:iU mg A ι H R Q)(S:dw mg N A ι τ σ H)(q:R τ A):Q σ H:=k τ A ι σ H q S.ra.refl S.ra S.rs
theorem dw.to(S:dw mg N A ι τ σ H)(e:Ext A ι H A' ι' H')(r:RA mg ι' H' A')(s:RS mg ι' A'.length H' bU σ'):dw mg N A' ι' bU σ' H':=⟨r,s,S.ex.trans e⟩
theorem yb:∀(τ:bw) (i:Nat) (d:D),i<τ.length->lk (τ.set i (some d)) i=some d
 |[],i,d,h=>by simp at h
 |x::r,0,d,_=>rfl
 |x::r,i+1,d,h=>yb r i d (by simpa using h)
theorem ya:∀(τ:bw) (i j:Nat) (d:Option D),j≠i->lk (τ.set i d) j=lk τ j
 |[],i,j,d,_=>rfl
 |x::r,0,0,d,h=>absurd rfl h
 |x::r,0,j+1,d,_=>rfl
 |x::r,i+1,0,d,_=>rfl
 |x::r,i+1,j+1,d,h=>ya r i j d (by omega)
theorem RS.set{n:Nat}{i:Nat}{d:D}{v:V}(r:RS mg ι n H τ σ)(h:RV mg ι n H d v):RS mg ι n H (τ.set i (some d)) (σ.set i (some v)):=⟨by simp[r.len],λj e q=>by
 by_cases a:j=i
 .subst a
  by_cases b:j<τ.length
  .rw[yb _ _ _ b] at q
   cases q;refine⟨v,?_,h⟩;rw[lZ (by rw[<-r.len];exact b)]
  .rw[List.set_eq_of_length_le (by omega)] at q
   rw[nH,n_ (by omega)] at q;cases q
 .rw[ya _ _ _ _ a] at q
  obtain⟨w,h1,h2⟩:=r.at' j e q;exact⟨w,by rw[oh (Ne.symm a)];exact h1,h2⟩⟩
theorem dw.set{i:Nat}{d:D}{v:V}(S:dw mg N A ι τ σ H)(h:RV mg ι A.length H d v):dw mg N A ι (τ.set i (some d)) (σ.set i (some v)) H:=⟨S.ra,S.rs.set h,S.ex⟩
end
def QM:cg:=λR τ A=>R.nx τ A
def qE(t u:cg):cg:=λR τ A=>t {R with nx:=u R} τ A
def EO(m:aU):cg:=λR τ A=>m τ A λ_ A1=>R.nx τ A1
def ES(m:aU):cg:=λR τ A=>m τ A R.rt
def ER(c:fu)(t u:cg):cg:=λR τ A=>c τ A λb A1=>cond b (t R τ A1) (u R τ A1)
section
variable{X:Cx}{N:En}{pos:Pos}{st:Stmt}{rest:List Stmt}{t u:cg}{e:Expr}{m:aU}
theorem bG:cj X [] (bZ X.mg N QM):=BZ PY λQ σ H q=>by
 obtain⟨A,ι,τ,R,S,q,k⟩:=q;exact k.nx.here S q
theorem aF(h1:PS X st (bZ X.mg N t))(h2:cj X rest (bZ X.mg N u)):cj X (st::rest) (bZ X.mg N (qE t u)):=BZ (PX h1 h2) λQ σ H q=>by
 obtain⟨A,ι,τ,R,S,q,k⟩:=q;exact⟨A,ι,τ,_,S,q,⟨λa d b e H1 f c g h=>⟨d,b,a,R,S.to c g h,f,k.from c⟩,k.rt,k.bk,k.ct⟩⟩
theorem aC(h1:PS X st (bZ X.mg N t)):cj X [st] (bZ X.mg N t):=PZ h1
theorem eW(b:PE X e (up X.mg N m))(c:swapsWith e none pos.line X.env=pure false:=by rfl):PS X (.Expr e pos) (bZ X.mg N (EO m)):=iu (PF b c) λQ σ H q=>by
 obtain⟨A,ι,τ,R,S,q,k⟩:=q;exact⟨A,ι,τ,_,S,q,λv h d H1 u f a g i=>(k.nx.from a).here (S.next a g) f⟩
theorem aO(a:PE X e (up X.mg N m)):PS X (.Return (some e) pos) (bZ X.mg N (ES m)):=iu (PN a) λQ σ H q=>by
 obtain⟨A,ι,τ,R,S,q,k⟩:=q;exact⟨A,ι,τ,_,S,q,k.rt⟩
theorem bz{c:Expr}{a b:List Stmt}{tc:fu}(hc:PT X c (dP X.mg N tc))(i:cj X a (bZ X.mg N t))(j:cj X b (bZ X.mg N u)):PS X (.If c a b pos) (bZ X.mg N (ER tc t u)):=iu (PK hc i j) λQ σ H q=>by
 obtain⟨A,ι,τ,R,S,q,k⟩:=q;refine⟨A,ι,τ,_,S,q,λx f d H1 g e h=>?_⟩;cases x with
 |true=>rw[aj rfl];exact⟨f,d,τ,R,S.next e h,g,k.from e⟩
 |false=>rw[ai cC];exact⟨f,d,τ,R,S.next e h,g,k.from e⟩
end
abbrev g4:=D->bw->Ar->(bw->Ar->Prop)->Prop
abbrev mJ:=List D->bw->Ar->(bw->Ar->Prop)->Prop
def lX(mg:au)(N:En)(g:g4):TG:=λv σ H Q=>∃A ι τ d R,dw mg N A ι τ σ H/\RV mg ι A.length H d v/\g d τ A R/\iU mg A ι H R Q
def u9(mg:au)(N:En)(g:mJ):iX:=λvs σ H Q=>∃A ι τ ds R,dw mg N A ι τ σ H/\ao mg ι A.length H ds vs/\g ds τ A R/\iU mg A ι H R Q
def gN(i:Nat):g4:=λd τ A R=>R (τ.set i (some d)) A
def CB:mJ:=λds τ A R=>match ds with
 |[]=>R τ A
 |_=>False
def LB(g:g4)(h:mJ):mJ:=λds τ A R=>match ds with
 |d::r=>g d τ A λzZ A1=>h r zZ A1 R
 |[]=>False
def gT(n:Nat)(g:mJ):g4:=λd τ A R=>match d with
 |.tup ds=>ds.length=n/\g ds τ A R
 |_=>False
def EN(m:aU)(g:g4):cg:=λR τ A=>m τ A λv A1=>g v τ A1 R.nx
section
variable{X:Cx}{N:En}{pos:Pos}{e tg:Expr}{es:List Expr}{m:aU}{g:g4}{gs:mJ}
theorem BO{t t':TG}(h:PG X tg t)(w:∀v σ H Q,t' v σ H Q->t v σ H Q):PG X tg t':=λpins s σ H v u Q I r q=>h pins s σ H v u Q I r (w v σ H Q q)
theorem BP{t t':iX}(h:iV X es t)(w:∀v σ H Q,t' v σ H Q->t v σ H Q):iV X es t':=λpins s σ H v u Q I r q=>h pins s σ H v u Q I r (w v σ H Q q)
theorem JA{i:Nat}{x:Str}(a:X.N.Nodup)(hi:X.N[i]?=some x)(b:Loc X.env.scope x)(c:X.fn x=true\/X.env.scope.names.lookup x=some .local:=by first|exact .inl rfl|exact .inr rfl|assumption):PG X (.Name x pos) (lX X.mg N (gN i)):=
 BO (D8 a hi b c) λv σ H Q q=>by
  obtain⟨A,ι,τ,d,R,S,r,q,k⟩:=q;exact k.here (S.set r) q
theorem sH:iV X [] (u9 X.mg N CB):=BP kC λv σ H Q q=>by
 obtain⟨A,ι,τ,ds,R,S,r,q,k⟩:=q;unfold CB at q;split at q
 .exact⟨r,k.here S q⟩
 .exact q.elim
theorem jz(h1:PG X e (lX X.mg N g))(h2:iV X es (u9 X.mg N gs))(f:(assignEach (e::es) X.env).map (·.2)=assign e X.env::(assignEach es X.env).map (·.2):=by rfl):iV X (e::es) (u9 X.mg N (LB g gs)):=
 BP (fG h1 h2 f) λv σ H Q q=>by
  obtain⟨A,ι,τ,ds,R,S,r,q,k⟩:=q;cases ds with
  |nil=>exact q.elim
  |cons d ds=>
   obtain⟨x,xs,rfl,h,i⟩:=r;refine⟨x,xs,rfl,A,ι,τ,d,_,S,h,q,λa j b l H1 m c a1 n=>?_⟩;exact⟨j,b,a,ds,R,S.to c a1 n,ao.ext c ds xs i,m,k.from c⟩
theorem sG{k n:Nat}(hc:X.calm=true)(h:iV X es (u9 X.mg N gs))(hn:(assignEach es X.env).length=n:=by rfl)(b:(assignEach es X.env).findIdx? (·.1)=none:=by rfl):PG X (.Tuple es k pos) (lX X.mg N (gT n gs)):=
 BO (kB hc h hn b) λv σ H Q q=>by
  obtain⟨A,ι,τ,d,R,S,r,q,k⟩:=q;cases d with
  |tup ds=>
   obtain⟨a,xs,rfl,h1,h2⟩:=r;exact⟨a,xs,rfl,bg.of h1,by rw[<-ao.length h2];exact q.1,A,ι,τ,ds,R,S,h2,q.2,k⟩
  |_=>exact q.elim
theorem Tr{te:TE}{σ:L2.St}{H:Hp}{Q:Ends}(c:∀σ H Q,up X.mg N m σ H Q->te σ H Q)(q:bZ X.mg N (EN m g) Q σ H):uX te (lX X.mg N g) Q σ H:=by
 obtain⟨A,ι,τ,R,S,q,k⟩:=q;exact c _ _ _ ⟨A,ι,τ,_,S,q,λv d a H1 u e b f h=>⟨d,a,τ,v,_,S.next b f,h,e,k.nx.from b⟩⟩
theorem JJ(a:PE X e (up X.mg N m))(b:PG X tg (lX X.mg N g))(c:swapsWithSole [tg] e pos.line X.env=pure false:=by rfl)(d:swappedStores [tg] e X.env=pure none:=by rfl)
 (h1:(assignEach [tg] X.env).map (·.2)=[assign tg X.env]:=by rfl):PS X (.Assign [tg] e pos) (bZ X.mg N (EN m g)):=iu (PB a b c d h1) λ_ _ _ q=>Tr (λ_ _ _ h=>h) q
def uR(i:Nat)(m:aU):cg:=λR τ A=>m τ A λv A1=>R.nx (τ.set i (some v)) A1
theorem JL{i:Nat}{x:Str}{pos':Pos}(b:X.N.Nodup)(hi:X.N[i]?=some x)(c:Loc X.env.scope x)(d:PE X e (up X.mg N m))(f:swapsWith e (some (.Name x pos')) pos.line X.env=pure false:=by rfl)(g:X.fn x=true\/X.env.scope.names.lookup x=some .local:=by first|exact .inl rfl|exact .inr rfl|assumption):
  PS X (.Assign [.Name x pos'] e pos) (bZ X.mg N (uR i m)):=iu (PR b hi c d f g) λQ σ H q=>by
 obtain⟨A,ι,τ,R,S,q,k⟩:=q;exact⟨A,ι,τ,_,S,q,λv o h H1 u j a l n=>(k.nx.from a).here ((S.next a l).set n) j⟩
def QN(i j:Nat)(n:cV):cg:=λR τ A=>n τ A λvs A1=>match vs with
 |[v,w]=>R.nx ((τ.set i (some v)).set j (some w)) A1
 |_=>False
theorem BX{i j:Nat}{x y:Str}{a b:Expr}{n:cV}{px py pt:Pos}{kt k2 d}(hc:X.calm=true)(h:X.N.Nodup)(hi:X.N[i]? =some x)(l:X.N[j]? =some y)(e:i≠j)
  (m:X.env.scope.names.lookup x=some .local)(o:X.env.scope.names.lookup y=some .local)(p:PA X [a,b] (eS X.mg N n))
  (r:swappedStores [.Tuple [.Name x px,.Name y py] kt pt] (.Tuple [a,b] k2 d) X.env=pure (some [x,y]))
  (s:swapsWithSole [.Tuple [.Name x px,.Name y py] kt pt] (.Tuple [a,b] k2 d) pos.line X.env=pure false:=by rfl):
  PS X (.Assign [.Tuple [.Name x px,.Name y py] kt pt] (.Tuple [a,b] k2 d) pos) (bZ X.mg N (QN i j n)):=iu (PL hc h hi l e m o p r s) λQ σ H q=>by
 obtain⟨A,ι,τ,R,S,q,k⟩:=q
 refine⟨A,ι,τ,_,S,q,λvs C t H1 D c g u f=> ?_⟩
 match vs,c,f with
 |[v,w],c,f=>
  obtain⟨z,_,rfl,h1,B,_,rfl,h2,h3⟩:=f
  obtain rfl:=h3
  exact⟨z,B,rfl,(k.nx.from g).here (((S.next g u).set h1).set h2) c⟩
 |[],c,_=>exact c.elim
 |[_],c,_=>exact c.elim
 |_::_::_::_,c,_=>exact c.elim
end
abbrev DX:=Str->Ar->Prop
abbrev Ct:=List D->Ar->DK->DX->Prop
def Hr(mg:au)(A:Ar)(ι:Io)(H:Hp)(R:DX)(E:XK):Prop:=∀c A' ι' H' C,R c A'->mg c=some (.ref C)->Ext A ι H A' ι' H'->RA mg ι' H' A'->E (.ref C) none H'
def av(mg:au)(n:Nat)(S:Ct):Sp:=λvs H Q E=>∃A ι ds R RE,ds.length=n/\RA mg ι H A/\ao mg ι A.length H ds vs/\S ds A R RE/\Kt mg A ι H R Q/\Hr mg A ι H RE E
def EL(mg:au)(N:En)(R:DX):XK:=λC _ H'=>∃c A' ι',(∃a,C=.ref a/\mg c=some (.ref a))/\Ext N.A N.ι N.H A' ι' H'/\RA mg ι' H' A'/\R c A'
def pP(n:Nat)(S:Ct)(RE:DX)(m:cV):aU:=λτ A R=>m τ A λvs A1=>vs.length=n/\S vs A1 R RE
section
variable{X:Cx}{N:En}{k n:Nat}{x:Str}{ps:List Str}{S:Ct}{RE:DX}{e:Expr}{es:List Expr}{m:cV}{p pos:Pos}
theorem Jl(F:ay X.prog X.w X.K X.mg X.base k x ps (av X.mg n S))(i:cR k X.A)(j:Passes (bu X.prog X.w) X (EL X.mg N RE))(l:PA X (e::es) (eS X.mg N m))(o:Gl X x:=by rfl)(a:(x==("__debug__":Str))=false:=by decide)
  (r:starEach (e::es) X.env=(false,eval e X.env)::starEach es X.env:=by rfl)(b:(backTo pos (starEach es X.env)).any (·.1)=false:=by rfl):
  PE X (.Call (.Name x p) (e::es) [] pos) (up X.mg N (pP n S RE m)):=cX (OU F i j l o a r b) λσ H Q q=>by
 obtain⟨A,ι,τ,R,Z,q,k⟩:=q;refine⟨A,ι,τ,_,Z,q,λvs s d H1 t g h u v=>?_⟩;show av X.mg n S (t++[]) H1 Q (EL X.mg N RE);rw[iN];exact⟨s,d,vs,R,RE,g.1,u,v,g.2,k.from h,λc y f H2 C z hc B D=>⟨c,y,f,⟨C,rfl,hc⟩,(Z.ex.trans h).trans B,D,z⟩⟩
end
def iC(n:Nat)(ds:List D):bw:=ds.map some++replicate n none
theorem tO:∀(ds:List D) (n i:Nat) (d:D),lk (iC n ds) i=some d->ds[i]?=some d
 |[],n,i,d,h=>by
  rw[nH] at h;simp[iC,vL] at h;split at h<;>simp at h
 |x::r,n,0,d,h=>by simpa[iC,lk] using h
 |x::r,n,i+1,d,h=>by simpa using tO r n i d h
theorem TopD.gM{P:Program}{w:World}{K:Frag}{mg:au}{base:Heap}{x:Str}{st:Stmt}{Nm ps:List Str}{k n:Nat}{S:Ct}(T:TopD K mg x st ps)(Sc:bf Nm ps (aE st))(hn:ps.length=n)(O:ps.length<=Nm.length)
  (g:∀(N:En) (RE:DX) (X:Cx),X.prog=P->X.w=w->X.K=K->X.mg=mg->X.base=base->X.N=Nm->X.calm=true->X.ex=[]->(∃f j A outer s H E,X=bM (bu P w) P w K mg base Nm x (aE st) f j A outer s H E)->cR k X.A->Raises X (EL X.mg N RE)->Passes (bu X.prog X.w) X (EL X.mg N RE)->
   ∀ds A R,S ds A R RE->ds.length=n->∃m,cj X (fC st) (bZ X.mg N m)/\m {nx:=λ_ A'=>R .aB A',rt:=R} (iC (Nm.length - n) ds) A):ay P w K mg base (k+1) x ps (av mg n S):=by
 refine T.fnX Sc (λvs H Q E h=> ?_) λf j A outer s H vs Q E D h=> ?_
 .obtain⟨A,ι,ds,R,RE,t,_,o,_⟩:=h
  rw[<-ao.length o,t,hn]
 .obtain⟨p,l,ds,R,RE,t,ra,o,F,y,G⟩:=h
  have B:∀C a H',EL mg ⟨p,l,H⟩ RE C a H'->E C none H':=λC a H' z=>by
   obtain⟨c,A',ι',⟨b,rfl,hc⟩,ex,r,q⟩:=z
   exact G c A' ι' H' b q hc ex r
  obtain⟨m,J,L⟩:=g ⟨p,l,H⟩ RE (bM (bu P w) P w K mg base Nm x (aE st) f j A outer s H E) rfl rfl rfl rfl rfl rfl rfl rfl ⟨_,_,_,_,_,_,_,rfl⟩ D
   (λpins σ H1 u e h' C args I mx z=>EA pins σ H1 u e h' C args I mx (B _ _ _ z))
   (λpins σ H1 u e s' I z=>D5 pins σ H1 u e s' I (by
    obtain⟨a,C,H',h1,h2,h3⟩:=z
    exact⟨a,C,H',h1,h2,B _ _ _ h3⟩)) ds p R F t
  have M:=ao.length o
  refine⟨_,J,p,l,_,_,⟨ra,⟨?_,λi d q=> ?_⟩,ra.refl⟩,L,⟨λτ A' ι' σ H' q e r _=>y _ A' ι' H' _ q e r rfl,y,λ_ _ _ _ _ q _ _ _=>q.elim,λ_ _ _ _ _ q _ _ _=>q.elim⟩⟩
  .simp[iC,L2.start]
   omega
  .obtain⟨v,h1,h2⟩:=ao.get o (tO ds _ i d q)
   refine⟨v,?_,h2⟩
   have hi:=(bL.mp h1).1
   unfold L2.start
   rw[gU (by simpa using hi),cy,h1]
   rfl
abbrev fK:=List D->Ar->DK->Prop
def gj(mg:au)(r:List V->Hp->VK->Prop)(f:fK):Prop:=∀ds A ι H us R Q,RA mg ι H A->ao mg ι A.length H ds us->f ds A R->Kt mg A ι H R Q->r us H Q
def lz(f:fK)(m:cV):aU:=λτ A R=>m τ A λvs A1=>f vs A1 R
section
variable{X:Cx}{N:En}{e:Expr}{es:List Expr}{m:cV}{p pos:Pos}{f:fK}{r:List V->Hp->VK->Prop}{x:Str}{id T:String}
theorem Gk(h:gj X.mg r f){σ:L2.St}{H:Hp}{Q:VK}(q:up X.mg N (lz f m) σ H Q):zh r (eS X.mg N m) σ H Q:=by
 obtain⟨A,ι,τ,R,S,q,k⟩:=q;exact⟨A,ι,τ,_,S,q,λvs b a H1 c d e g i=>h vs b a H1 c R Q g i d (k.from e)⟩
theorem cS(hc:dm X (.builtin id) r)(hd:gj X.mg r f)(c:X.mg x=none)(d:bootBuiltins x=some (.builtin id))(g:PA X (e::es) (eS X.mg N m))(i:Gl X x:=by rfl)(hn:x≠"__name__":=by decide)(a:(x==("__debug__":Str))=false:=by decide)
 (j:starEach (e::es) X.env=(false,eval e X.env)::starEach es X.env:=by rfl)(b:(backTo pos (starEach es X.env)).any (·.1)=false:=by rfl):PE X (.Call (.Name x p) (e::es) [] pos) (up X.mg N (lz f m)):=cX (uI hc i c d g hn a j b) λ_ _ _ h=>Gk hd h
theorem jw(hc:dm X (.type T) r)(hd:gj X.mg r f)(c:X.mg x=none)(d:bootBuiltins x=some (.type T))(g:PA X (e::es) (eS X.mg N m))(i:Gl X x:=by rfl)(hn:x≠"__name__":=by decide)(a:(x==("__debug__":Str))=false:=by decide)
 (j:starEach (e::es) X.env=(false,eval e X.env)::starEach es X.env:=by rfl)(b:(backTo pos (starEach es X.env)).any (·.1)=false:=by rfl):PE X (.Call (.Name x p) (e::es) [] pos) (up X.mg N (lz f m)):=cX (OT hc i c d g hn a j b) λ_ _ _ h=>Gk hd h
end
@[irreducible] def tM(r:Nat)(A:Ar)(R:DK):Prop:=match A[r]? with
 |some (.lst xs)=>R (.int xs.length) A
 |some (.dct kvs)=>R (.int kvs.length) A
 |_=>False
def tL:fK:=λvs A R=>match vs with
 |[.tup xs]=>R (.int xs.length) A
 |[.str z]=>z.length<=sizeLine/\R (.int z.length) A
 |[.fl ns]=>R (.int ns.length) A
 |[.ref r]=>tM r A R
 |_=>False
theorem RK.length{mg:au}{ι:Io}{H:Hp}:∀{ds:List (Key×D)} {vs:List (Key×V)} {n:Nat},RK mg ι n H ds vs->ds.length=vs.length
 |[],vs,_,h=>by have h':vs=[]:=h;rw[h'];rfl
 |d::ds,vs,n,h=>by
  obtain⟨x,r,rfl,_,a⟩:=h;simp[RK.length a]
theorem gm{X:Cx}:dm X (.builtin "len") (λxs H Q=>(∃p ys,xs=[.ref p]/\(aW X.K H p ys\/bg X.K H p ys)/\Q (.int ys.length) H)\/(∃z,xs=[.str z]/\z.length<=sizeLine/\Q (.int z.length) H)\/∃a kvs,xs=[V.ref a]/\H a=some (.dK kvs)/\Q (.int kvs.length) H):=H8.or (H9.or HZ)
theorem fT{mg:au}{K:Frag}:gj mg (λxs H Q=>(∃p ys,xs=[.ref p]/\(aW K H p ys\/bg K H p ys)/\Q (.int ys.length) H)\/(∃z,xs=[.str z]/\z.length<=sizeLine/\Q (.int z.length) H)\/∃a kvs,xs=[V.ref a]/\H a=some (.dK kvs)/\Q (.int kvs.length) H) tL:=by
 intro ds A ι H c R Q ra rs h k;unfold tL at h;split at h
 .obtain⟨_,_,rfl,⟨a,xs,rfl,d,b⟩,rfl⟩:=rs
  exact .inl ⟨a,xs,rfl,.inr (bg.of d),k.here ra h (by rw[ao.length b];rfl)⟩
 .obtain⟨_,_,rfl,rfl,rfl⟩:=rs
  exact .inr (.inl ⟨_,rfl,h.1,k.here ra h.2 rfl⟩)
 .obtain⟨_,_,rfl,⟨a,o,rfl,d⟩,rfl⟩:=rs
  exact .inl ⟨a,_,rfl,.inl (.inl (.inr ⟨o,d⟩)),k.here ra h (by rw[a_];rfl)⟩
 .obtain⟨_,_,rfl,⟨_,rfl⟩,rfl⟩:=rs
  unfold tM at h;split at h
  .rename_i xs e
   obtain⟨c,h1,b⟩:=ra.lst e;exact .inl ⟨_,c,rfl,.inl (aW.of h1),k.here ra h (by rw[ao.length b];rfl)⟩
  .rename_i xs e
   obtain⟨c,h1,b⟩:=ra.dct e;exact .inr (.inr ⟨_,c,rfl,h1,k.here ra h (by rw[RK.length b];rfl)⟩)
  .exact h.elim
 .exact h.elim
@[irreducible] def Ds(r:Nat)(A:Ar)(R:DK):Prop:=match A[r]? with
 |some (.lst xs)=>R (.ref A.length) (A++[.lst xs])
 |_=>False
def Dr:fK:=λvs A R=>match vs with
 |[.tup xs]=>R (.ref A.length) (A++[.lst xs])
 |[.fl ns]=>R (.ref A.length) (A++[.lst (ns.map .int)])
 |[.ref r]=>Ds r A R
 |_=>False
theorem Ja{mg:au}{K:Frag}:gj mg (λxs H Q=>∃p ys,xs=[.ref p]/\(aW K H p ys\/bg K H p ys)/\∀l,H l=none->Q (.ref l) (upd H l (.lst ys))) Dr:=by
 intro ds A ι H f R Q ra rs h k;unfold Dr at h;split at h
 .obtain⟨_,_,rfl,⟨a,xs,rfl,c,d⟩,rfl⟩:=rs
  exact⟨a,xs,rfl,.inr (bg.of c),λp b=>jH k ra d h b⟩
 .obtain⟨_,_,rfl,⟨a,o,rfl,c⟩,rfl⟩:=rs
  exact⟨a,_,rfl,.inl (.inl (.inr ⟨o,c⟩)),λp b=>jH k ra (ao.ints _) h b⟩
 .obtain⟨_,_,rfl,⟨_,rfl⟩,rfl⟩:=rs
  unfold Ds at h;split at h
  .rename_i xs e
   obtain⟨f,h1,d⟩:=ra.lst e;exact⟨_,f,rfl,.inl (aW.of h1),λp b=>jH k ra d h b⟩
  .exact h.elim
 .exact h.elim
@[irreducible] def u6(r:Nat)(A:Ar)(R:DK):Prop:=match A[r]? with
 |some (.lst xs)=>R (.tup xs) A
 |_=>False
def Gh:fK:=λvs A R=>match vs with
 |[.tup xs]=>R (.tup xs) A
 |[.ref r]=>u6 r A R
 |_=>False
theorem Jj{mg:au}{K:Frag}:gj mg (λxs H Q=>∃p ys,xs=[.ref p]/\((aW K H p ys/\∀l,H l=none->Q (.ref l) (upd H l (.tup ys)))\/(bg K H p ys/\Q (.ref p) H))) Gh:=by
 intro ds A ι H c R Q ra rs h k;unfold Gh at h;split at h
 .obtain⟨_,_,rfl,⟨a,xs,rfl,d,b⟩,rfl⟩:=rs
  exact⟨a,xs,rfl,.inr ⟨bg.of d,k.here ra h ⟨a,xs,rfl,d,b⟩⟩⟩
 .obtain⟨_,_,rfl,⟨_,rfl⟩,rfl⟩:=rs
  unfold u6 at h;split at h
  .rename_i xs e
   obtain⟨c,h1,b⟩:=ra.lst e;exact⟨_,c,rfl,.inl ⟨aW.of h1,λp f=>tW k ra b h f⟩⟩
  .exact h.elim
 .exact h.elim
def maxD:fK:=λvs A R=>match vs with
 |[.int i,.int j]=>R (.int (if j>i then j else i)) A
 |_=>False
theorem w_{mg:au}:gj mg (λxs H Q=>∃i j,xs=[.int i,.int j]/\Q (.int (if j>i then j else i)) H) maxD:=by
 intro ds A ι H a R Q ra rs h k;unfold maxD at h;split at h
 .obtain⟨_,_,rfl,rfl,_,_,rfl,rfl,rfl⟩:=rs
  exact⟨_,_,rfl,k.here ra h rfl⟩
 .exact h.elim
def fP:List D->Option (List Bool)
 |[]=>some []
 |.bl b::r=>(fP r).map (b::·)
 |_::_=>none
def fE:List D->Option (List Int)
 |[]=>some []
 |.int b::r=>(fE r).map (b::·)
 |_::_=>none
theorem sf{mg:au}{ι:Io}{n:Nat}{H:Hp}:∀{ds:List D} {a:List V} {bs:List Bool},fP ds=some bs->ao mg ι n H ds a->a=bs.map V.bl
 |[],a,bs,h,r=>by cases h;exact r
 |d::ds,a,bs,h,r=>by
  obtain⟨x,r',rfl,h1,h2⟩:=r;cases d with
  |bl b=>
   cases q:fP ds with
   |none=>simp[fP,q] at h
   |some l=>
    simp[fP,q] at h;subst h;rw[sf q h2];cases h1;rfl
  |_=>simp[fP] at h
theorem ny{mg:au}{ι:Io}{n:Nat}{H:Hp}:∀{ds:List D} {a:List V} {bs:List Int},fE ds=some bs->ao mg ι n H ds a->a=bs.map V.int
 |[],a,bs,h,r=>by cases h;exact r
 |d::ds,a,bs,h,r=>by
  obtain⟨x,r',rfl,h1,h2⟩:=r;cases d with
  |int b=>
   cases q:fE ds with
   |none=>simp[fE,q] at h
   |some l=>
    simp[fE,q] at h;subst h;rw[ny q h2];cases h1;rfl
  |_=>simp[fE] at h
@[irreducible] def allR(r:Nat)(A:Ar)(R:DK):Prop:=match A[r]? with
 |some (.lst xs)=>(match fP xs with
  |some bs=>R (.bl (bs.all id)) A
  |none=>False)
 |_=>False
def AV:fK:=λvs A R=>match vs with
 |[.ref r]=>allR r A R
 |_=>False
theorem pR{mg:au}{K:Frag}:gj mg (λxs H Q=>∃(p:Addr) (bs:List Bool),xs=[.ref p]/\aW K H p (bs.map V.bl)/\Q (.bl (bs.all id)) H) AV:=by
 intro ds A ι H a R Q ra rs h k;unfold AV at h;split at h
 .obtain⟨_,_,rfl,⟨_,rfl⟩,rfl⟩:=rs
  unfold allR at h;split at h
  .rename_i xs e
   split at h
   .rename_i bs b
    obtain⟨a,h1,c⟩:=ra.lst e;exact⟨_,bs,rfl,aW.of (by rw[h1,sf b c]),k.here ra h rfl⟩
   .exact h.elim
  .exact h.elim
 .exact h.elim
@[irreducible] def uW(r:Nat)(A:Ar)(R:DK):Prop:=match A[r]? with
 |some (.lst xs)=>(match fE xs with
  |some ns=>(∀n∈ns,0<=n/\n<=2 ^ 40)/\ns.length<=1000/\R (.int ns.sum) A
  |none=>False)
 |_=>False
def F9:fK:=λvs A R=>match vs with
 |[.ref r]=>uW r A R
 |_=>False
theorem Ji{mg:au}{K:Frag}:gj mg (λxs H Q=>∃(p:Addr) (ns:List Int),xs=[.ref p]/\aW K H p (ns.map V.int)/\(∀n∈ns,0<=n/\n<=2 ^ 40)/\ns.length<=1000/\Q (.int ns.sum) H) F9:=by
 intro ds A ι H a R Q ra rs h k;unfold F9 at h;split at h
 .obtain⟨_,_,rfl,⟨_,rfl⟩,rfl⟩:=rs
  unfold uW at h;split at h
  .rename_i xs e
   split at h
   .rename_i bs b
    obtain⟨a,h1,c⟩:=ra.lst e;exact⟨_,bs,rfl,aW.of (by rw[h1,ny b c]),h.1,h.2.1,k.here ra h.2.2 rfl⟩
   .exact h.elim
  .exact h.elim
 .exact h.elim
def je(A:Ar):D->Option String
 |.aB=>some "NoneType"
 |.bl _=>some "bool"
 |.int _=>some "int"
 |.str _=>some "str"
 |.tup _=>some "tuple"
 |.fl _=>some "list"
 |.exc _=>none
 |.ref r=>match A[r]? with
  |some (.lst _)=>some "list"
  |some (.dct _)=>some "dict"
  |_=>none
def j9(t c:String):Bool:=t==c||(t=="bool"&&c=="int")
def IP(c:String)(m:aU):aU:=λτ A R=>m τ A λx A1=>match je A1 x with
 |some t=>R (.bl (j9 t c)) A1
 |none=>False
def tys:List String:=["NoneType","bool","int","str","tuple","list","dict"]
theorem Ti{A:Ar}{d:D}{t:String}(h:je A d=some t):t∈tys:=by
 cases d with
 |ref r=>
  unfold je at h;simp only at h;split at h<;>first|(cases h;decide)|cases h
 |exc c=>cases h
 |_=>cases h;decide
theorem RA.ty{mg:au}{K:Frag}{A:Ar}{ι:Io}{H:Hp}(ra:RA mg ι H A){d:D}{v:V}{t:String}(h:je A d=some t)(r:RV mg ι A.length H d v):o_ K H v (.type t):=by
 cases d with
 |aB=>cases h;cases r;exact .of .aB
 |bl b=>cases h;cases r;exact .of (.bl b)
 |int b=>cases h;cases r;exact .of (.int b)
 |str b=>cases h;cases r;exact .of (.str b)
 |tup ds=>cases h;obtain⟨a,xs,rfl,e,_⟩:=r;exact .of (.tup e)
 |fl ns=>cases h;obtain⟨a,o,rfl,e⟩:=r;exact .of (.cT e)
 |exc c=>cases h
 |ref q=>
  obtain⟨_,rfl⟩:=r;unfold je at h;simp only at h;split at h
  .rename_i xs e
   cases h;obtain⟨f,h1,_⟩:=ra.lst e;exact .of (.lst h1)
  .rename_i xs e
   cases h;obtain⟨f,h1,_⟩:=ra.dct e;exact .of (.dK h1)
  .cases h
section
variable{X:Cx}{N:En}{e:Expr}{es:List Expr}{m:aU}{p p2 pos:Pos}{x:Str}{c:String}
theorem gJ(hk:∀t∈tys,kitOne X.K (.type t) (.type c)=some (j9 t c))(n:X.mg "isinstance"=none)(b:X.mg x=none)(d:bootBuiltins x=some (.type c))(o:PE X e (up X.mg N m))(r:Gl X "isinstance":=by rfl)(f:Gl X x:=by rfl)(hn:x≠"__name__":=by decide)(g:(x==("__debug__":Str))=false:=by decide)
  (h:starEach [e,.Name x p2] X.env=[(false,eval e X.env),(false,eval (.Name x p2) X.env)]:=by rfl):
  PE X (.Call (.Name "isinstance" p) [e,.Name x p2] [] pos) (up X.mg N (IP c m)):=by
 have s:PE X (.Name x p2) (tC (.ty c)):=D6 f b d rfl hn g;refine cX (uI HY r n boot_isinstance (lU o (lU s uH rfl) (by rw[h];rfl)) (by decide) (by decide) (by rw[h];rfl) rfl) λσ H Q q=>?_;obtain⟨A,ι,τ,R,S,q,k⟩:=q;refine⟨A,ι,τ,_,S,q,λv i w H1 u a y j z=>?_⟩;have a:(match je i v with|some t=>R (.bl (j9 t c)) i|none=>False):=a;split at a
 .rename_i t l
  exact⟨u,c,.type t,j9 t c,rfl,j.ty l z,hk t (Ti l),(k.from y).here j a rfl⟩
 .exact a.elim
end
abbrev k6:=D->List D->Ar->DK->Prop
def o6(mg:au)(K:Frag)(T:String)(r:V->List V->Hp->VK->Prop)(f:k6):Prop:=∀x ds A ι H u us R Q,RA mg ι H A->RV mg ι A.length H x u->ao mg ι A.length H ds us->f x ds A R->Kt mg A ι H R Q->r u us H Q
def lD(A:Ar):D->Bool
 |.ref r=>match A[r]? with
  |some (.lst _)=>true
  |_=>false
 |_=>false
def Bu(f:k6)(mo:aU)(m:cV):aU:=λτ A R=>mo τ A λx A1=>lD A1 x=true/\m τ A1 λvs A2=>f x vs A2 R
theorem RA.lD{mg:au}{K:Frag}{A:Ar}{ι:Io}{H:Hp}(ra:RA mg ι H A){d:D}{v:V}(h:lD A d=true)(r:RV mg ι A.length H d v):zx K "list" v H:=by
 cases d with
 |ref q=>
  obtain⟨_,rfl⟩:=r;unfold DP.lD at h;simp only at h;split at h
  .rename_i xs e
   obtain⟨a,h1,_⟩:=ra.lst e;exact .inl ⟨rfl,a,aW.of h1⟩
  .cases h
 |_=>cases h
section
variable{X:Cx}{N:En}{e o:Expr}{es:List Expr}{mo:aU}{m:cV}{apos cpos:Pos}{f:k6}{r:V->List V->Hp->VK->Prop}{name:Str}{id:String}
theorem j4(t:PlainAttrs "list")(slot:Slot "list" name id)(g:typeOf (.builtin id)=pure (.type "method_descriptor"))(v:Ae X id r)(hd:o6 X.mg X.K "list" r f)(w:PE X o (up X.mg N mo))(y:PA X (e::es) (eS X.mg N m))
  (b:attributeBase o name X.env (eval o X.env)=eval o X.env:=by rfl)
  (d:((backTo cpos (starEach (e::es) X.env)).all (λx=> !x.1)&&(backToKw cpos (keywordEach [] X.env)).all (λx=>x.1.isSome)
   &&decide ((e::es).length+([]:List Keyword).length+(if ([]:List Keyword).isEmpty then 0 else 1)<30))=true:=by rfl)
  (c:(apos.endLine==cpos.line)=true:=by rfl)(z:starEach (e::es) X.env=(false,eval e X.env)::starEach es X.env:=by rfl)(a:(backTo cpos (starEach es X.env)).any (·.1)=false:=by rfl):
  PE X (.Call (.Attribute o name apos) (e::es) [] cpos) (up X.mg N (Bu f mo m)):=cX (OQ t slot g v w y b d c z a) λσ H Q q=>by
 obtain⟨A,ι,τ,R,S,q,k⟩:=q
 refine⟨A,ι,τ,_,S,q,λx B h H1 u j l n p=> ?_⟩
 refine⟨n.lD j.1 p,B,h,τ,_,S.next l n,j.2,λys C i H2 D E s F v2=> ?_⟩
 exact hd x ys C i H2 u D R Q F (RV.ext s x u p) v2 E (k.from (l.trans s))
end
theorem Ec{mg:au}{A:Ar}{ι:Io}{H:Hp}{R:DK}{Q:VK}{ds es:List D}{xs ys:List V}{q:Nat}{d:D}{v:V}(k:Kt mg A ι H R Q)(r:RA mg ι H A)(a:A[q]?=some (.lst ds))(b:H (ι q)=some (.lst xs))(h:ao mg ι A.length H es ys)
  (c:R d (A.set q (.lst es)))(hd:∀H',RV mg ι A.length H' d v):Q v (upd H (ι q) (.lst ys)):=by
 have E:Ext A ι H (A.set q (.lst es)) ι (upd H (ι q) (.lst ys)):=r.xG (bL.mp a).1;obtain⟨e,f⟩:=r.put (c':=.lst es) (o:=.lst ys) a b rfl ⟨ys,f7,by simpa using ao.ext E es ys h⟩;exact k _ _ _ _ _ c f e (by simpa using hd _)
@[irreducible] def rZ(r:Nat)(y:D)(A:Ar)(R:DK):Prop:=match A[r]? with
 |some (.lst xs)=>xs.length<sizeLine/\R .aB (A.set r (.lst (xs++[y])))
 |_=>False
def wD:k6:=λx vs A R=>match x,vs with
 |.ref r,[y]=>rZ r y A R
 |_,_=>False
theorem sA{mg:au}{K:Frag}:o6 mg K "list" Eg wD:=by
 intro x ds A ι H u d R Q ra b rs h k;unfold wD at h;split at h
 .obtain⟨_,rfl⟩:=b
  obtain⟨v,_,rfl,c,rfl⟩:=rs;unfold rZ at h;split at h
  .rename_i xs e
   obtain⟨ws,h1,a⟩:=ra.lst e;exact⟨_,ws,v,rfl,rfl,h1,by rw[<-ao.length a];exact h.1,Ec k ra e h1 (a.app (es:=[_]) (ws:=[v]) ⟨v,[],rfl,c,rfl⟩) h.2 λ_=>rfl⟩
  .exact h.elim
 .exact h.elim
@[irreducible] def sP(r q:Nat)(A:Ar)(R:DK):Prop:=match A[r]?,A[q]? with
 |some (.lst xs),some (.lst ys)=>xs.length+ys.length<=sizeLine/\R .aB (A.set r (.lst (xs++ys)))
 |_,_=>False
def Ca:k6:=λx vs A R=>match x,vs with
 |.ref r,[.ref q]=>sP r q A R
 |_,_=>False
theorem Bx{mg:au}{K:Frag}:o6 mg K "list" Ek Ca:=by
 intro x ds A ι H u f R Q ra c rs h k;unfold Ca at h;split at h
 .obtain⟨_,rfl⟩:=c
  obtain⟨v,_,rfl,⟨_,rfl⟩,rfl⟩:=rs;unfold sP at h;split at h
  .rename_i xs ys e d
   obtain⟨ws,h1,a⟩:=ra.lst e;obtain⟨zs,h2,b⟩:=ra.lst d;exact⟨_,_,ws,zs,rfl,rfl,h1,h2,by rw[<-ao.length a,<-ao.length b];exact h.1,Ec k ra e h1 (a.app b) h.2 λ_=>rfl⟩
  .exact h.elim
 .exact h.elim
def QS(RE:DX)(c:Str)(m:cV):cg:=λ_ τ A=>m τ A λvs A1=>vs.length<=sizeLine/\RE c A1
theorem j6{X:Cx}{N:En}{RE:DX}{x:Str}{C:Addr}{e:Expr}{m:cV}{np cpos pos:Pos}(f:Raises X (EL X.mg N RE))(hc:X.calm=true)(c:X.mg x=some (.ref C))(g:excIn X.K C iD "ValueError.__new__"=true)(h:PA X [e] (eS X.mg N m))(i:Gl X x:=by rfl)(a:(x==("__debug__":Str))=false:=by decide)
  (j:starEach [e] X.env=[(false,eval e X.env)]:=by rfl):PS X (.Raise (some (.Call (.Name x np) [e] [] cpos)) none pos) (bZ X.mg N (QS RE x m)):=iu (PM f hc c g h i a j) λQ σ H q=>by
 obtain⟨A,ι,τ,R,S,q,k⟩:=q;exact⟨A,ι,τ,_,S,q,λvs l b H1 r d n o p=>⟨by rw[<-ao.length p];exact d.1,x,l,b,⟨C,rfl,c⟩,S.ex.trans n,o,d.2⟩⟩
def iw:D->Bool
 |.int _|.str _=>true
 |_=>false
def pZ:D->D->Bool
 |.int i,.int j=>decide (i=j)
 |.str a,.str b=>decide (a=b)
 |_,_=>false
def nv(x:D)(xs:List D):Bool:=xs.any λy=>pZ y x
section
variable{mg:au}{K:Frag}{A:Ar}{ι:Io}{H:Hp}{n:Nat}
theorem xH{d:D}{v:V}(h:iw d=true)(r:RV mg ι n H d v):i7 v=true:=by
 cases d with
 |int i=>cases r;rfl
 |str i=>cases r;rfl
 |_=>cases h
theorem JX{d e:D}{u v:V}(h1:iw d=true)(h2:iw e=true)(b:RV mg ι n H d u)(a:RV mg ι n H e v):gK u v=pZ d e:=by
 cases d with
 |int i=>
  cases b;cases e with
  |int j=>cases a;simp[gK,pZ,Bool.beq_eq_decide_eq]
  |str j=>cases a;rfl
  |_=>cases h2
 |str i=>
  cases b;cases e with
  |int j=>cases a;rfl
  |str j=>cases a;simp[gK,pZ,Bool.beq_eq_decide_eq]
  |_=>cases h2
 |_=>cases h1
theorem xU{x:D}{v:V}(a:iw x=true)(b:RV mg ι n H x v):∀{ds:List D} {vs:List V},ds.all iw=true->ao mg ι n H ds vs->tu v vs=nv x ds/\vs.all i7=true
 |[],vs,_,r=>by cases (show vs=[] from r);exact⟨rfl,rfl⟩
 |d::ds,vs,h,r=>by
  obtain⟨y,r',rfl,h1,h2⟩:=r;have h':iw d=true/\ds.all iw=true:=by simpa using h
  obtain⟨g1,g2⟩:=xU a b h'.2 h2;constructor
  .show(gK y v||tu v r')=(pZ d x||nv x ds)
   rw[JX h'.1 a h1 b,g1]
  .simp[xH h'.1 h1,g2]
end
abbrev Em(neg:Bool):R2:=λx y H Q=>∃a o,y=.ref a/\oX H a x o/\Q (.bl (if neg then !o.isSome else o.isSome)) H
theorem N_{X:Cx}(e:X.A.units+64<cLine):bq X (compareOp .NotIn) (Em true):=by
 intro pins s σ H x y v u Q I b c h;obtain⟨a,o,rfl,g,q⟩:=h;cases c;exact Jd (by omega) I g b λf d=>⟨.bl (!o.isSome),H,d,rfl,q⟩
@[irreducible] def inR(neg:Bool)(x:D)(r:Nat)(A:Ar)(R:DK):Prop:=match A[r]? with
 |some (.lst xs)=>iw x=true/\xs.all iw=true/\R (.bl (if neg then !nv x xs else nv x xs)) A
 |some (.dct kvs)=>(match iz x with
  |some k=>R (.bl (if neg then !(ck kvs k).isSome else (ck kvs k).isSome)) A
  |none=>False)
 |_=>False
def inD(neg:Bool):d_:=λx y A R=>match y with
 |.tup xs=>iw x=true/\xs.all iw=true/\R (.bl (if neg then !nv x xs else nv x xs)) A
 |.ref r=>inR neg x r A R
 |_=>False
theorem I8{mg:au}{K:Frag}(neg:Bool):dN mg (λx y H Q=>El K neg x y H Q\/Em neg x y H Q) (inD neg):=by
 intro x y A ι H u v R Q ra c i h k;unfold inD at h;split at h
 .obtain⟨a,xs,rfl,j,f⟩:=i
  obtain⟨g1,g2⟩:=xU h.1 c h.2.1 f;exact .inl ⟨a,xs,rfl,.inr (bg.of j),xH h.1 c,g2,by rw[g1];exact k.here ra h.2.2 rfl⟩
 .obtain⟨_,rfl⟩:=i
  unfold inR at h;split at h
  .rename_i xs e
   obtain⟨g,h1,f⟩:=ra.lst e;obtain⟨g1,g2⟩:=xU h.1 c h.2.1 f;exact .inl ⟨_,g,rfl,.inl (aW.of h1),xH h.1 c,g2,by rw[g1];exact k.here ra h.2.2 rfl⟩
  .rename_i kvs e
   obtain⟨g,h1,f⟩:=ra.dct e;split at h
   .rename_i b l
    cases p_ l c;obtain⟨g1,g2⟩:=RK.get (k:=b) f;refine .inr ⟨_,eE g b,rfl,.inl ⟨g,b,.inl h1,rfl,rfl⟩,?_⟩;have m:(eE g b).isSome=(ck kvs b).isSome:=by
     cases q:ck kvs b with
     |none=>rw[g2 q];rfl
     |some d=>obtain⟨z,hz,_⟩:=g1 d q;rw[hz];rfl
    rw[m];exact k.here ra h rfl
   .exact h.elim
  .exact h.elim
 .exact h.elim
section
variable{X:Cx}{N:En}{pos:Pos}{a b c:Expr}{ma mb mc:aU}{x:Str}
theorem vr(i:Nat)(b:X.N[i]?=some x:=by rfl)(c:pe X.env.scope x:=by first|exact Or.inl rfl|exact Or.inr (Or.inl rfl)|exact Or.inr (Or.inr rfl))(hd:(x==("__debug__":Str))=false:=by decide)
 (a:(x==("__classdict__":Str))=false:=by decide):PE X (.Name x pos) (up X.mg N (fS i)):=Jv b c hd a
theorem m8(c:X.A.units+64<cLine)(d:PE X a (up X.mg N ma))(e:PE X b (up X.mg N mb)):PE X (.Compare a [.Eq] [b] pos) (up X.mg N (c9 sN ma mb)):=Jp (DS c) Bw d e (nJ _)
theorem gR(c:X.A.units+64<cLine)(d:PE X a (up X.mg N ma))(e:PE X b (up X.mg N mb)):PT X (.Compare a [.Eq] [b] pos) (dP X.mg N (ig (c9 sN ma mb))):=m7 (DS c) Bw d e (nJ _)
theorem jL(c:X.A.units+64<cLine)(d:PE X a (up X.mg N ma))(e:PE X b (up X.mg N mb)):PT X (.Compare a [.NotEq] [b] pos) (dP X.mg N (ig (c9 ql ma mb))):=m7 (N9 c) Jc d e (nJ _)
theorem Gd(c:PE X a (up X.mg N ma))(d:PE X b (up X.mg N mb)):PT X (.Compare a [.Lt] [b] pos) (dP X.mg N (ig (c9 yf ma mb))):=m7 N8 Jb c d (nJ _)
theorem kD(c:PE X a (up X.mg N ma))(d:PE X b (up X.mg N mb)):PT X (.Compare a [.Gt] [b] pos) (dP X.mg N (ig (c9 CD ma mb))):=m7 Ov I0 c d (nJ _)
theorem SY(c:PE X a (up X.mg N ma))(d:PE X b (up X.mg N mb)):PT X (.Compare a [.IsNot] [b] pos) (dP X.mg N (ig (c9 yq ma mb))):=m7 OG Je c d (nJ _)
theorem zp(c:X.A.units+64<cLine)(d:PE X a (up X.mg N ma))(e:PE X b (up X.mg N mb))(f:behindInMarks .NotIn b=false:=by rfl):PT X (.Compare a [.NotIn] [b] pos) (dP X.mg N (ig (c9 (inD true) ma mb))):=m7 (OF.or (N_ c)) (I8 true) d e f
theorem sM(d:PE X a (up X.mg N ma))(e:PE X b (up X.mg N mb))(hc:PE X c (up X.mg N mc))(f:lastMarks [.LtE,.LtE] [b,c]=false:=by with_unfolding_all rfl):PE X (.Compare a [.LtE,.LtE] [b,c] pos) (up X.mg N (pQ nG nG ma mb mc)):=Jo tY tY sC sC d e hc f
theorem Gb(d:PE X a (up X.mg N ma))(e:PE X b (up X.mg N mb))(hc:PE X c (up X.mg N mc))(f:lastMarks [.LtE,.LtE] [b,c]=false:=by with_unfolding_all rfl):PT X (.Compare a [.LtE,.LtE] [b,c] pos) (dP X.mg N (ig (pQ nG nG ma mb mc))):=JN tY tY sC sC d e hc f
end
theorem gM{P:Program}{w:World}{K:Frag}{mg:au}{base:Heap}{x:Str}{st:Stmt}{Nm ps:List Str}{k n:Nat}{S:Ct}(T:TopD K mg x st ps)(Sc:bf Nm ps (aE st))(hn:ps.length=n)(c:ps.length<=Nm.length)
  (b:∀(N:En) (RE:DX) (f:Addr) (a:Value) (B:Around) (outer:List Env) (s:Shared) (H:Hp) (E:XK),cR k (bM (bu P w) P w K mg base Nm x (aE st) f a B outer s H E).A->
   Raises (bM (bu P w) P w K mg base Nm x (aE st) f a B outer s H E) (EL mg N RE)->Passes (bu P w) (bM (bu P w) P w K mg base Nm x (aE st) f a B outer s H E) (EL mg N RE)->
   ∀ds A R,S ds A R RE->ds.length=n->∃m,cj (bM (bu P w) P w K mg base Nm x (aE st) f a B outer s H E) (fC st) (bZ mg N m)/\m {nx:=λ_ A'=>R .aB A',rt:=R} (iC (Nm.length - n) ds) A):ay P w K mg base (k+1) x ps (av mg n S):=by
 refine TopD.gM T Sc hn c λN RE X _ _ _ _ _ _ _ _ d e g i ds A R h j=>?_;obtain⟨f,a,B,outer,s,H,E,rfl⟩:=d;exact b N RE f a B outer s H E e g i ds A R h j
def QV(c:fu)(b:cg):cg:=λR τ A=>∃W:Nat->bw->Ar->Prop,(∃n,W n τ A)/\∀n τ A,W n τ A->c τ A λk A1=>cond k (∃Nx:bw->Ar->Prop,(∀bU A',Nx bU A'->∃n',n'<n/\W n' bU A')/\b {R with nx:=Nx,ct:=Nx,bk:=R.nx} τ A1) (R.nx τ A1)
section
variable{X:Cx}{N:En}{pos:Pos}{c:Expr}{body:List Stmt}{tc:fu}{tb:cg}
theorem BY(y:PassesOwn (model X.prog X.w) X.A X.env X.xe)(hc:PT X c (dP X.mg N tc))(B:cj X body (bZ X.mg N tb)):PS X (.While c body [] pos) (bZ X.mg N (QV tc tb)):=iu (PV y hc B) λQ σ H q=>by
 obtain⟨A,ι,τ,R,S,⟨W,⟨n,C⟩,turn⟩,k⟩:=q;refine⟨λn σ' H'=>∃A' ι' bU,dw X.mg N A' ι' bU σ' H'/\Ext A ι H A' ι' H'/\W n bU A',⟨n,A,ι,τ,S,S.ra.refl,C⟩,?_⟩;rintro m D H1 ⟨x,o,d,g,h,E⟩;refine⟨x,o,d,_,g,turn m d x E,λb F p H2 j a l=>?_⟩;cases b with
 |true=>
  rw[aj rfl];obtain⟨G,I,j⟩:=j;refine⟨λσ' H'=>∃A' ι' bU,dw X.mg N A' ι' bU σ' H'/\Ext A ι H A' ι' H'/\G bU A',λσ' H' ⟨A',ι',bU,J,K,z⟩=>?_,?_⟩
  .obtain⟨L,M,O⟩:=I bU A' z
   exact⟨L,M,A',ι',bU,J,K,O⟩
  .refine⟨F,p,d,_,g.next a l,j,⟨?_,k.rt.from (h.trans a),k.nx.from (h.trans a),?_⟩⟩
   .exact λe r f s P t i u v=>⟨r,f,e,(g.next a l).to i u v,(h.trans a).trans i,t⟩
   .exact λe r f s P t i u v=>⟨r,f,e,(g.next a l).to i u v,(h.trans a).trans i,t⟩
 |false=>
  rw[ai cC];exact(k.nx.from (h.trans a)).here (g.next a l) j
end
structure mQ(mg:au)(A0:Ar)(Gw:Io)(H0:Hp)(J:It)(items:List D)(ee:Ar->Prop):Prop where
 go:∀(i:Nat) d A ι H,items[i]? =some d->Ext A0 Gw H0 A ι H->RA mg ι H A->ee A->J.go i H/\∀x H',J.vg i H x H'->Ext A ι H A ι H'/\RA mg ι H' A/\RV mg ι A.length H' d x
 stop:∀A ι H,Ext A0 Gw H0 A ι H->RA mg ι H A->ee A->J.stop items.length H
abbrev jr:=bw->Ar->(List D->(Ar->Prop)->Ar->Prop)->Prop
def lY(mg:au)(N:En)(m:jr):TI:=λσ H Q=>∃A ι τ R,dw mg N A ι τ σ H/\m τ A R/\∀items ee A' ι' H' J,R items ee A'->Ext A ι H A' ι' H'->RA mg ι' H' A'->mQ mg A' ι' H' J items ee->Q J H'
theorem xr{X:Cx}{tg e:Expr}{t t':TI}(h:PI X tg e t)(w:∀σ H Q,t' σ H Q->t σ H Q):PI X tg e t':=λpins s σ H Q I q=>h pins s σ H Q I (w σ H Q q)
section
variable{mg:au}{K:Frag}{A:Ar}{ι:Io}{H:Hp}
theorem MB{a:Addr}{ds:List D}{xs:List V}(f:H a=some (.tup xs))(g:ao mg ι A.length H ds xs):mQ mg A ι H (v9 K a) ds (λ_=>True) where
 go:=λi d h c H1 hd e r _=>by
  have b:=e.fix rfl f;obtain⟨v,h1,h2⟩:=ao.get (ao.ext e ds xs g) hd;refine⟨⟨xs,v,bg.of b,h1⟩,λx H' y=>?_⟩;obtain⟨rfl,y⟩:=y;have:=y xs (bg.of b);rw[h1] at this;cases this;exact⟨r.refl,r,h2⟩
 stop:=λh c H1 e r _=>⟨xs,bg.of (e.fix rfl f),by rw[ao.length g];exact aH _⟩
theorem Mv{a:Addr}{o:Obj}{ns:List Int}(f:H a=some (.cT o (.lst (ns.map V.int)))):mQ mg A ι H (rO K a) (ns.map D.int) (λ_=>True) where
 go:=λi d g b H1 hd e r _=>by
  have c:aW K H1 a (ns.map V.int):=.inl (.inr ⟨o,e.fix rfl f⟩);obtain⟨v,h1,h2⟩:=ao.get (ao.ints (mg:=mg) (ι:=b) (H:=H1) ns (n:=g.length)) hd;refine⟨⟨_,v,c,h1⟩,λx H' y=>?_⟩;obtain⟨rfl,y⟩:=y;have:=y _ c;rw[h1] at this;cases this;exact⟨r.refl,r,h2⟩
 stop:=λg b H1 e r _=>⟨_,.inl (.inr ⟨o,e.fix rfl f⟩),by simp⟩
theorem Mw{q:Nat}{ds:List D}(b:q<A.length):mQ mg A ι H (rO K (ι q)) ds (λA'=>A'[q]?=some (.lst ds)) where
 go:=λi d c a H1 hd e r hc=>by
  obtain⟨xs,h1,h2⟩:=r.lst hc;rw[e.ag q b] at h1;obtain⟨v,h3,f⟩:=ao.get h2 hd;refine⟨⟨xs,v,aW.of h1,h3⟩,λx H' y=>?_⟩;obtain⟨rfl,y⟩:=y;have:=y xs (aW.of h1);rw[h3] at this;cases this;exact⟨r.refl,r,f⟩
 stop:=λc a H1 e r hc=>by
  obtain⟨xs,h1,h2⟩:=r.lst hc;rw[e.ag q b] at h1;exact⟨xs,aW.of h1,by rw[ao.length h2];exact aH _⟩
def jJ(lo:Int)(n:Nat):List D:=(range n).map λ(i:Nat)=>D.int (lo+i)
theorem Mx{lo:Int}{n:Nat}:mQ mg A ι H (rP lo n) (jJ lo n) (λ_=>True) where
 go:=λi d c a H1 hd e r _=>by
  unfold jJ at hd;rw[cy] at hd;cases q:(range n)[i]? with
  |none=>rw[q] at hd;cases hd
  |some j=>
   rw[q] at hd;have hi:=(bL.mp q).1;have b:=(bL.mp q).2;simp at hi b;subst b;cases hd;refine⟨hi,λx H' y=>?_⟩;obtain⟨rfl,rfl⟩:=y;exact⟨r.refl,r,rfl⟩
 stop:=λc a H1 e r _=>by
  show n<=_;simp[jJ]
def eZ(z:Str):List D:=z.cps.toList.map λc=>D.str ⟨#[c]⟩
theorem Mz{z:Str}:mQ mg A ι H (v8 z) (eZ z) (λ_=>True) where
 go:=λi d b a H1 hd e r _=>by
  unfold eZ at hd;rw[cy] at hd;cases q:z.cps.toList[i]? with
  |none=>rw[q] at hd;cases hd
  |some j=>
   rw[q] at hd;cases hd;have hi:=(bL.mp q).1;refine⟨show i<z.cps.size by simpa using hi,λx H' y=>?_⟩;obtain⟨rfl,c,hc,rfl⟩:=y;have:z.cps.toList[i]?=some c:=by simpa using hc
   rw[q] at this;cases this;exact⟨r.refl,r,rfl⟩
 stop:=λb a H1 e r _=>by
  show _=_;simp[eZ]
end
def L8(K:Frag)(tl:TE):TI:=λσ H R=>tl σ H λx H1=>(∃a,x=.ref a/\(∃xs,aW K H1 a xs)/\R (rO K a) H1)\/(∃a,x=.ref a/\(∃xs,bg K H1 a xs)/\R (v9 K a) H1)
theorem Ph{X:Cx}{tg l:Expr}{tl:TE}(j:PE X l tl):PI X tg l (L8 X.K tl):=by
 intro pins s σ H R I h;refine aM (j pins s σ H _ I h) λv c ⟨x,H1,d,i,k⟩=>?_;rcases k with⟨a,e,⟨xs,f⟩,q⟩|⟨a,e,⟨xs,f⟩,q⟩
 .subst e
  cases i;obtain⟨its,m,p,hz⟩:=d.list f;refine mh p.isList ?_;refine⟨c.heap.objs.size,[c.heap.objs.size],_,_,H1,rfl,d.kept (t':=c.toks) λb o e=>aT _ e,Td a _,⟨_,bI _ rfl,rfl,rfl⟩,λb g=>?_,q⟩;have e:b=c.heap.objs.size:=by simpa using g
  subst e;exact d.sU (aH _) (d.hok.fresh (aH _))
 .subst e
  cases i;obtain⟨its,m,p,hz⟩:=d.tuple f;refine vE (show c.heap.IsTuple a its.toArray from p) ?_;refine⟨c.heap.objs.size,[c.heap.objs.size],_,_,H1,rfl,d.kept (t':=c.toks) λb o e=>aT _ e,Th a _,⟨_,bI _ rfl,rfl,rfl⟩,λb g=>?_,q⟩;have e:b=c.heap.objs.size:=by simpa using g
  subst e;exact d.sU (aH _) (d.hok.fresh (aH _))
@[irreducible] def itR(r:Nat)(A:Ar)(R:List D->(Ar->Prop)->Ar->Prop):Prop:=match A[r]? with
 |some (.lst xs)=>R xs (λA'=>A'[r]?=some (.lst xs)) A
 |_=>False
def L7(m:aU):jr:=λτ A R=>m τ A λx A1=>match x with
 |.tup xs=>R xs (λ_=>True) A1
 |.fl ns=>R (ns.map .int) (λ_=>True) A1
 |.ref r=>itR r A1 R
 |_=>False
def Ma(m:aU):jr:=λτ A R=>m τ A λx A1=>match x with
 |.str z=>R (eZ z) (λ_=>True) A1
 |_=>False
def L5(n:cV):jr:=λτ A R=>n τ A λvs A1=>match vs with
 |[.int j]=> -(2 ^ 62)<=j/\j<2 ^ 62/\R (jJ 0 j.toNat) (λ_=>True) A1
 |_=>False
section
variable{X:Cx}{N:En}{pos p:Pos}{tg e a b:Expr}{m:aU}{n:cV}{nm:Str}{px:Pos}
theorem ef(i:PE X e (up X.mg N m)):PI X tg e (lY X.mg N (L7 m)):=xr (Ph i) λσ H Q q=>by
 obtain⟨A,ι,τ,R,S,q,k⟩:=q;refine⟨A,ι,τ,_,S,q,λx d c H1 u a g f h=>?_⟩;cases x with
 |tup ds=>
  obtain⟨b,xs,rfl,h1,h2⟩:=h;exact .inr ⟨b,rfl,⟨xs,bg.of h1⟩,k ds _ d c H1 _ a g f (MB h1 h2)⟩
 |fl ns=>
  obtain⟨b,o,rfl,h1⟩:=h;exact .inl ⟨b,rfl,⟨_,.inl (.inr ⟨o,h1⟩)⟩,k _ _ d c H1 _ a g f (Mv h1)⟩
 |ref r=>
  obtain⟨j,rfl⟩:=h;have a:itR r d R:=a;unfold itR at a;split at a
  .rename_i xs e
   obtain⟨l,h1,_⟩:=f.lst e;exact .inl ⟨_,rfl,⟨l,aW.of h1⟩,k _ _ d c H1 _ a g f (Mw j)⟩
  .exact a.elim
 |_=>exact a.elim
theorem BQ(c:PE X e (up X.mg N m)):PI X (.Name nm px) e (lY X.mg N (Ma m)):=xr (Pj c) λσ H Q q=>by
 obtain⟨A,ι,τ,R,S,q,k⟩:=q;refine⟨A,ι,τ,_,S,q,λx d a H1 u b f g h=>?_⟩;cases x with
 |str z=>exact⟨z,h,k _ _ d a H1 _ b f g Mz⟩
 |_=>exact b.elim
theorem xq(e:X.mg "range"=none)(f:PA X [a] (eS X.mg N n))(g:Gl X "range":=by rfl)(h:starEach [a] X.env=[(false,eval a X.env)]:=by rfl):PI X tg (.Call (.Name "range" p) [a] [] pos) (lY X.mg N (L5 n)):=xr (Pg g e f h) λσ H Q q=>by
 obtain⟨A,ι,τ,R,S,q,k⟩:=q;refine⟨A,ι,τ,_,S,q,λx i c H1 u b l m d=>?_⟩;match x,b,d with
 |[.int j],b,d=>
  obtain⟨_,_,rfl,rfl,rfl⟩:=d;exact⟨j,rfl,b.1,b.2.1,k _ _ i c H1 _ b.2.2 l m Mx⟩
end
def lA(ee:Ar->Prop)(g:g4)(b:cg)(R:jq):List D->bw->Ar->Prop
 |[],τ,A=>ee A/\R.nx τ A
 |x::xs,τ,A=>ee A/\g x τ A λzZ A1=>b {R with nx:=lA ee g b R xs,ct:=lA ee g b R xs,bk:=R.nx} zZ A1
def QJ(it:jr)(g:g4)(b:cg):cg:=λR τ A=>it τ A λitems ee A1=>lA ee g b R items τ A1
theorem pY{X:Cx}{N:En}{pos:Pos}{tg iter:Expr}{body:List Stmt}{it:jr}{g:g4}{tb:cg}(T:PassesOwn (model X.prog X.w) X.A X.env X.xe)(hc:X.calm=true)(hi:PI X tg iter (lY X.mg N it))(U:PG X tg (lX X.mg N g))(V:cj X body (bZ X.mg N tb))
  (W:∀x,foldedSetIterable iter X.env x=pure x:=by intro _;rfl):PS X (.For tg iter body [] pos) (bZ X.mg N (QJ it g tb)):=iu (PJ T hc hi U V W) λQ σ H q=>by
 obtain⟨A,ι,τ,R,S,q,k⟩:=q;refine⟨A,ι,τ,_,S,q,λitems n v b H1 J Y s O P=>?_⟩;have Z:=S.next s O;refine⟨λi m σ' H'=>m=items.length - i/\i<=items.length/\∃A' ι' bU,dw X.mg N A' ι' bU σ' H'/\Ext v b H1 A' ι' H'/\lA n g tb R (items.drop i) bU A',⟨_,rfl,cH _,v,b,τ,Z,O.refl,by simpa using Y⟩,?_⟩;rintro i m σ2 H2 ⟨rfl,hi,B,c,C,d,f,h⟩;by_cases D:i<items.length
 .right
  have hd:items.drop i=items[i]::items.drop (i+1):=by rw[oM D]
  rw[hd] at h;obtain⟨o,h⟩:=h;obtain⟨g1,g2⟩:=P.go i items[i] B c H2 (by rw[aV D]) f d.ra o;refine⟨g1,λσ' H'=>∃A' ι' bU,dw X.mg N A' ι' bU σ' H'/\Ext v b H1 A' ι' H'/\lA n g tb R (items.drop (i+1)) bU A',λσ' H' ⟨A',ι',bU,z⟩=>⟨_,by omega,rfl,D,A',ι',bU,z⟩,λx H3 y=>?_⟩;obtain⟨p,t,v3⟩:=g2 x H3 y;refine⟨B,c,C,items[i],_,d.next p t,v3,h,λE A4 F T4 H4 q4 u G s4=>?_⟩;have a:=p.trans u;refine⟨A4,F,E,_,(d.next p t).to u G s4,q4,⟨?_,k.rt.from ((s.trans f).trans a),k.nx.from ((s.trans f).trans a),?_⟩⟩
  .exact λj I l K H5 L r M s5=>⟨I,l,j,((d.next p t).to u G s4).to r M s5,(f.trans a).trans r,L⟩
  .exact λj I l K H5 L r M s5=>⟨I,l,j,((d.next p t).to u G s4).to r M s5,(f.trans a).trans r,L⟩
 .left
  have e:i=items.length:=by omega
  subst e;rw[List.drop_length] at h;exact⟨P.stop B c H2 f d.ra h.1,(k.nx.from (s.trans f)).here d h.2⟩
def u7:Option Nat->D->Option (List D)
 |none,x=>some [x]
 |some k,.tup ds=>if ds.length=k then some ds else none
 |some _,_=>none
def lg(ee:Ar->Prop)(k:Option Nat)(fr:bw)(tt:fu)(te:aU)(R:List D->Ar->Prop):List D->List D->Ar->Prop
 |[],ys,A=>ee A/\R ys A
 |x::xs,ys,A=>ee A/\match u7 k x with
  |some vs=>tt (vs.map some++fr) A λb A3=>cond b (te (vs.map some++fr) A3 λy A4=>ys.length<sizeLine/\lg ee k fr tt te R xs (ys++[y]) A4) (lg ee k fr tt te R xs ys A3)
  |none=>False
def wZ(k:Option Nat)(ix:List Nat)(it:jr)(tt:fu)(te:aU):aU:=λτ A R=>it τ A λitems ee A1=>lg ee k (ix.map (lk τ)) tt te (λys A2=>R (.ref A2.length) (A2++[.lst ys])) items [] A1
def p7:Nat->Nat->iX
 |_,0=>Cv
 |i,n+1=>Cu (nj i) (p7 (i+1) n)
def uY(K:Frag):Option Nat->TG
 |none=>nj 0
 |some k=>Cw K k (p7 0 k)
theorem CC{Q:L2.St->Hp->Prop}{H:Hp}{fs:L2.St}:∀(xs:List V) (a:L2.St),Q (a++(xs.map some++fs)) H->p7 a.length xs.length xs (a++(replicate xs.length none++fs)) H Q
 |[],a,h=>⟨rfl,by simpa using h⟩
 |x::r,a,h=>by
  refine⟨x,r,rfl,?_⟩;show p7 (a.length+1) r.length r ((a++(replicate (r.length+1) none++fs)).set a.length (some x)) H Q;have e:(a++(replicate (r.length+1) none++fs)).set a.length (some x)=(a++[some x])++(replicate r.length none++fs):=by
   rw[zR _ _ (aH _)];simp[List.replicate_succ]
  rw[e];have:=CC r (a++[some x]) (by simpa using h);simpa using this
theorem C5{fs:L2.St}:∀(xs:L2.St),fN (replicate xs.length none++fs) (xs++fs)
 |[]=>fN.refl fs
 |x::r=>.own (C5 r)
section
variable{mg:au}{K:Frag}{A:Ar}{ι:Io}{H:Hp}
theorem S0{k:Option Nat}{d:D}{vs:List D}{x:V}{n:Nat}(b:u7 k d=some vs)(r:RV mg ι n H d x):∃xs,ao mg ι n H vs xs/\vs.length=k.getD 1/\∀(fs:L2.St) (Q:L2.St->Hp->Prop),Q (xs.map some++fs) H->uY K k x (replicate (k.getD 1) none++fs) H Q:=by
 cases k with
 |none=>
  cases b;exact⟨[x],⟨x,[],rfl,r,rfl⟩,rfl,λfs Q q=>q⟩
 |some k=>
  cases d with
  |tup ds=>
   have b:(if ds.length=k then some ds else none)=some vs:=b;by_cases c:ds.length=k
   .rw[aj c] at b
    cases b;obtain⟨a,xs,rfl,h1,h2⟩:=r;have f:=ao.length h2;refine⟨xs,h2,c,λfs Q q=>⟨a,xs,rfl,bg.of h1,by rw[<-f];exact c,?_⟩⟩;have:=CC (Q:=Q) (H:=H) (fs:=fs) xs [] q;show p7 0 k xs (replicate k none++fs) H Q;have e:k=xs.length:=by rw[<-f,c]
    rw[e];exact this
   .rw[ai c] at b
    cases b
  |_=>cases b
theorem RA.off(R:RA mg ι H A){p:Addr}{o u:HO}(a:∀r,r<A.length->ι r≠p)(d:H p=some u)(e:iA u=true):RA mg ι (upd H p o) A:=
 ⟨λr c h=>CO.ag (aH _) (λ_ _=>rfl) (λb q m z=>by
  rw[bh]
  .exact z
  .rintro rfl
   rw[d] at z;cases z;rw[e] at m;cases m) (λq z=>by rw[bh (a r (bL.mp h).1)];exact z) c (R.gp r c h),R.inj⟩
end
theorem R5{own:List Str}{ix:List Nat}{σ:L2.St}:L2.stC own ix σ=replicate own.length none++ix.map λi=>(σ[i]?).join:=by
 unfold L2.stC;rw[List.map_const']
theorem Dk:∀(ds:List D) (fr:bw) (i:Nat) (d:D),lk (ds.map some++fr) i=some d->(ds[i]?=some d)\/(ds.length<=i/\lk fr (i - ds.length)=some d)
 |[],fr,i,d,h=>.inr ⟨cH _,by simpa using h⟩
 |x::r,fr,0,d,h=>.inl (by simpa[lk] using h)
 |x::r,fr,i+1,d,h=>by
  rcases Dk r fr i d (by simpa[lk] using h) with q|⟨a,b⟩
  .exact .inl (by simpa using q)
  .exact .inr ⟨by simpa using a,by simpa using b⟩
theorem RS.block{mg:au}{ι:Io}{n:Nat}{H:Hp}{τ:bw}{σ:L2.St}{ix:List Nat}{vs:List D}{xs:List V}(r:RS mg ι n H τ σ)(h:ao mg ι n H vs xs):RS mg ι n H (vs.map some++ix.map (lk τ)) (xs.map some++ix.map λi=>(σ[i]?).join):=⟨by simp[ao.length h],λi d q=>by
 have b:=ao.length h;rcases Dk vs _ i d q with q|⟨c,a⟩
 .obtain⟨v,h1,h2⟩:=ao.get h q
  have hi:=(bL.mp h1).1;exact⟨v,by rw[gU (by simpa using hi),cy,h1];rfl,h2⟩
 .rw[nH,cy] at a
  cases e:ix[i - vs.length]? with
  |none=>rw[e] at a;simp at a
  |some j=>
   rw[e] at a;have a:lk τ j=some d:=by simpa using a
   obtain⟨v,h1,h2⟩:=r.at' j d a;refine⟨v,?_,h2⟩;rw[kE (by simpa[<-b] using c),cy,a_,<-b,e];simp[h1]⟩
section
variable{X:Cx}{N:En}{own frees:List Str}{ix:List Nat}{it:jr}{tt:fu}{te:aU}{k:Option Nat}
theorem Gn(hk:own.length=k.getD 1){tT:CP->TT}(hT:∀c σ H Q,dP X.mg N tt σ H Q->tT c σ H Q){σ:L2.St}{H:Hp}{Q:VK}(q:up X.mg N (wZ k ix it tt te) σ H Q):zl own ix (lY X.mg N it) (λ_=>uY X.K k) tT (λ_=>up X.mg N te) σ H Q:=by
 obtain⟨A,ι,τ,R,S,q,kq⟩:=q;refine⟨A,ι,τ,_,S,q,λitems W A1 F H1 J q1 e1 r1 j1 c acc f=>?_⟩;have S1:=S.next e1 r1;rw[R5,hk];have Y:∀r,r<A1.length->F r≠acc:=λr n z=>by
  obtain⟨o,h1,_⟩:=r1.im r n;rw[z,f] at h1;cases h1
 have rn:=r1.xC (o:=.lst []) f;refine⟨λi m ys H'=>m=items.length - i/\i<=items.length/\∃A' ι' d,RA X.mg ι' H' A'/\Ext A1 F H1 A' ι' H'/\(∀r,r<A'.length->ι' r≠acc)/\H' acc=some (.lst ys)/\ao X.mg ι' A'.length H' d ys/\lg W k (ix.map (lk τ)) tt te (λys a=>R (.ref a.length) (a++[.lst ys])) (items.drop i) d A',
  ⟨_,rfl,cH _,A1,F,[],r1.fix rn (λb o z=>by rw[bh (dc z f)];exact z),rn,Y,f7,rfl,by simpa using q1⟩,?_⟩
 rintro i m ys H2 ⟨rfl,hi,a,g,d,r2,D,l,hy,ry,E⟩;refine⟨hy,?_⟩;by_cases G:i<items.length
 .right
  have hd:items.drop i=items[i]::items.drop (i+1):=by rw[oM G]
  rw[hd] at E;obtain⟨t,E⟩:=E;obtain⟨g1,g2⟩:=j1.go i items[i] a g H2 (by rw[aV G]) D r2 t;refine⟨g1,λO H'=>∃A' ι' L,RA X.mg ι' H' A'/\Ext A1 F H1 A' ι' H'/\(∀r,r<A'.length->ι' r≠acc)/\H' acc=some (.lst O)/\ao X.mg ι' A'.length H' L O/\lg W k (ix.map (lk τ)) tt te (λys a=>R (.ref a.length) (a++[.lst ys])) (items.drop (i+1)) L A',λO H' z=>⟨_,by omega,rfl,G,z⟩,λx H3 y=>?_⟩;obtain⟨e3,r3,v3⟩:=g2 x H3 y;split at E
  .rename_i vs hu
   obtain⟨xs,h1,h2,h3⟩:=S0 (K:=X.K) hu v3;refine h3 _ _ ⟨by have:=C5 (fs:=ix.map λi=>(σ[i]?).join) (xs.map some);rw[a_,<-ao.length h1,h2] at this;exact this,?_⟩;have I:=D.trans e3;have S3:dw X.mg N a g (vs.map some++ix.map (lk τ)) (xs.map some++ix.map λi=>(σ[i]?).join) H3:=⟨r3,RS.block (S1.rs.ext I) h1,S1.ex.trans I⟩;have Z:H3 acc=some (.lst ys):=e3.mo acc _ hy l;refine hT _ _ _ _ ⟨a,g,_,_,S3,E,λb A4 P H4 q4 T r4=>?_⟩;have w:∀r,r<A4.length->P r≠acc:=λr n z=>by
    by_cases G:r<a.length
    .rw[T.ag r G] at z;exact l r G z
    .have:=T.nw r (by omega) n
     rw[z,Z] at this;cases this
   have U:H4 acc=some (.lst ys):=T.mo acc _ Z l;have EK:=ao.ext (e3.trans T) d ys ry;cases b with
   |true=>
    refine Mm ?_;refine⟨A4,P,_,_,S3.next T r4,q4,λv A5 Gx H5 u q5 e5 r5 v5=>?_⟩;have V:H5 acc=some (.lst ys):=e5.mo acc _ U w;have M:∀r,r<A5.length->Gx r≠acc:=λr n z=>by
     by_cases G:r<A4.length
     .rw[e5.ag r G] at z;exact w r G z
     .have:=e5.nw r (by omega) n
      rw[z,U] at this;cases this
    have EM:=ao.ext e5 d ys EK;have p:=(I.trans T).trans e5;have fx:∀b o,iA o=false->H5 b=some o->upd H5 acc (.lst (ys++[u])) b=some o:=λb o m z=>by
     rw[bh]
     .exact z
     .rintro rfl
      rw[V] at z;cases z;cases m
    refine⟨V,by rw[<-ao.length EM];exact q5.1,A5,Gx,d++[v],r5.off M V rfl,⟨p.len,p.ag,p.im,λb o z hn=>?_,p.nw,λb o z=>?_⟩,M,f7,?_,q5.2⟩
    .rw[bh (dc z f)];exact p.mo b o z hn
    .obtain⟨o',h'⟩:=p.al b o z
     exact⟨o',by rw[bh (dc z f)];exact h'⟩
    .exact ao.ag (aH _) (λ_ _=>rfl) fx _ _ (EM.app (es:=[v]) (ws:=[u]) ⟨u,[],rfl,v5,rfl⟩)
   |false=>
    refine Ml ?_;exact⟨A4,P,d,r4,I.trans T,w,U,EK,q4⟩
  .exact E.elim
 .left
  have e:i=items.length:=by omega
  subst e;rw[List.drop_length] at E;obtain⟨t,E⟩:=E;refine⟨j1.stop a g H2 D r2 t,?_⟩;obtain⟨B,j,at2⟩:∃B:Io,(∀r,r<a.length->B r=g r)/\B a.length=acc:=⟨λr=>if r=a.length then acc else g r,λr h=>by
   show(if r=a.length then acc else g r)=g r;rw[ai (by omega)],by
   show(if a.length=a.length then acc else g a.length)=acc;rw[aj rfl]⟩
  refine kq (.ref a.length) (a++[.lst d]) B H2 _ E (e1.trans ⟨by have:=D.len;simp;omega,λr h=>by rw[j r (b8 h D.len)];exact D.ag r h,D.im,D.mo,λr h1 h2=>?_,D.al⟩) ⟨λr c h=>?_,λr s n hs h=>?_⟩ ⟨by simp,by rw[at2]⟩
  .by_cases n:r<a.length
   .rw[j r n];exact D.nw r h1 n
   .have:r=a.length:=by simp at h2;omega
    subst this;rw[at2];exact f
  .by_cases n:r<a.length
   .rw[gU n] at h
    have:=CO.ag (n':=(a++[C.lst d]).length) (ι':=B) (H':=H2) (by simp) j (λ_ _ _ z=>z) (λ_ z=>z) c (r2.gp r c h);rw[j r n];exact this
   .have hr':r=a.length:=by
     have:=(bL.mp h).1;simp at this;omega
    subst hr';simp at h;subst h;rw[at2];exact⟨ys,hy,ao.ag (by simp) j (λ_ _ _ z=>z) d ys ry⟩
  .simp at n hs
   by_cases h1:r=a.length
   .by_cases h2:s=a.length
    .rw[h1,h2]
    .subst h1
     rw[at2,j s (by omega)] at h;exact absurd h.symm (l s (by omega))
   .by_cases h2:s=a.length
    .subst h2
     rw[at2,j r (by omega)] at h;exact absurd h (l r (by omega))
    .rw[j r (by omega),j s (by omega)] at h
     exact r2.inj r s (by omega) (by omega) h
end
def u5:fu:=λ_ A R=>R true A
section
variable{X:Cx}{N:En}{own frees:List Str}{ix:List Nat}{it:jr}{tt:fu}{te:aU}(k:Option Nat){tg iter elt Uc:Expr}{scope:Scope}{pos:Pos}
theorem gq(hk:own.length=k.getD 1)(hi:PI X tg iter (lY X.mg N it))(a:∀c,PG (bQ X (own++frees) scope c) tg (uY X.K k))(b:∀c,PE (bQ X (own++frees) scope c) elt (up X.mg N te))(S:eH X scope frees:=by exact⟨rfl,by decide+kernel,by decide+kernel,by decide+kernel,by decide+kernel,rfl⟩)(hc:X.calm=true:=by rfl)(d:ix.map (λi=>X.N[i]?)=frees.map some:=by rfl)(e:∀x,foldedSetIterable iter X.env x=pure x:=by intro _;rfl):
  PE X (.ListComp elt [⟨tg,iter,[],0⟩] scope pos) (up X.mg N (wZ k ix it u5 te)):=
 cX (OX hi a (λc=>iW.nil) b S hc d e) λσ H Q q=>Gn (own:=own) hk (λ_ σ H Q h=>by
  obtain⟨A,ι,τ,R,S,h,k⟩:=h;exact k.here S.ra h) q
variable{i:Nat}{x:Str}{pos' spos:Pos}
theorem m6(a:X.N.Nodup)(b:X.N[i]?=some x)(f:Loc X.env.scope x)(hk:own.length=k.getD 1)(hi:PI X tg iter (lY X.mg N it))(g:∀c,PG (bQ X (own++frees) scope c) tg (uY X.K k))(j:∀c,PE (bQ X (own++frees) scope c) elt (up X.mg N te))(S:eH X scope frees:=by exact⟨rfl,by decide+kernel,by decide+kernel,by decide+kernel,by decide+kernel,rfl⟩)(hc:X.calm=true:=by rfl)(l:ix.map (λi=>X.N[i]?)=frees.map some:=by rfl)(m:∀x,foldedSetIterable iter X.env x=pure x:=by intro _;rfl)
  (d:swapsWith (.ListComp elt [⟨tg,iter,[],0⟩] scope pos) (some (.Name x pos')) spos.line X.env=pure true:=by rfl)(n:X.fn x=true\/X.env.scope.names.lookup x=some .local:=by first|exact .inl rfl|exact .inr rfl|assumption):
  PS X (.Assign [.Name x pos'] (.ListComp elt [⟨tg,iter,[],0⟩] scope pos) spos) (bZ X.mg N (uR i (wZ k ix it u5 te))):=
 iu (PC a b f hi g (λc=>iW.nil) j S hc l m d n) λQ σ H q=>by
  obtain⟨A,ι,τ,R,Z,q,k⟩:=q;exact Gn (own:=own) hk (λ_ σ H Q h=>by
   obtain⟨A,ι,τ,R,S,h,k⟩:=h;exact k.here S.ra h) ⟨A,ι,τ,_,Z,q,λv t o H1 u p e r s=>(k.nx.from e).here ((Z.next e r).set s) p⟩
end
abbrev oZ:=bw->Ar->(Option Int->Ar->Prop)->Prop
def u_(mg:au)(N:En)(m:oZ):TO:=λσ H Q=>∃A ι τ R,dw mg N A ι τ σ H/\m τ A R/\∀o A' ι' H',R o A'->Ext A ι H A' ι' H'->RA mg ι' H' A'->Q o H'
def oN:oZ:=λ_ A R=>R none A
def oS(m:aU):oZ:=λτ A R=>m τ A λx A1=>match x with
 |.int i=>R (some i) A1
 |_=>False
def cutD(xs:List D)(lo hi:Option Int):List D:=(xs.drop (HT.aR xs.length 0 lo)).take (HT.aR xs.length xs.length hi - HT.aR xs.length 0 lo)
theorem ao.cut{mg:au}{ι:Io}{H:Hp}{n:Nat}{ds:List D}{vs:List V}(r:ao mg ι n H ds vs)(lo hi:Option Int):ao mg ι n H (cutD ds lo hi) (jY vs lo hi):=by
 unfold cutD jY;rw[<-ao.length r];exact(r.drop _).take _
@[irreducible] def y_(r:Nat)(lo hi:Option Int)(A:Ar)(R:DK):Prop:=match A[r]? with
 |some (.lst xs)=>R (.ref A.length) (A++[.lst (cutD xs lo hi)])
 |_=>False
def RB(x:D)(lo hi:Option Int)(A:Ar)(R:DK):Prop:=match x with
 |.tup xs=>¬(HT.aR xs.length 0 lo=0/\HT.aR xs.length xs.length hi=xs.length)/\R (.tup (cutD xs lo hi)) A
 |.ref r=>y_ r lo hi A R
 |_=>False
def IV(m:aU)(l u:oZ):aU:=λτ A R=>m τ A λx A1=>l τ A1 λlo A2=>u τ A2 λhi A3=>RB x lo hi A3 R
section
variable{X:Cx}{N:En}{pos p2:Pos}{e:Expr}{lo hi:Option Expr}{m:aU}{l u:oZ}
theorem BU{t t':TO}(h:PO X lo t)(w:∀σ H Q,t' σ H Q->t σ H Q):PO X lo t':=λpins s σ H Q I q=>h pins s σ H Q I (w σ H Q q)
theorem xu:PO X none (u_ X.mg N oN):=BU Pu λσ H Q q=>by
 obtain⟨A,ι,τ,R,S,q,k⟩:=q;exact k none A ι H q S.ra.refl S.ra
theorem xw(h:PE X e (up X.mg N m)):PO X (some e) (u_ X.mg N (oS m)):=BU (Pw h) λσ H Q q=>by
 obtain⟨A,ι,τ,R,S,q,k⟩:=q;refine⟨A,ι,τ,_,S,q,λx c a H1 u b d f g=>?_⟩;cases x with
 |int i=>exact⟨i,g,k (some i) c a H1 b d f⟩
 |_=>exact b.elim
theorem xh(t:PE X e (up X.mg N m))(w:PO X lo (u_ X.mg N l))(y:PO X hi (u_ X.mg N u)):PE X (.Subscript e (.Slice lo hi none p2) pos) (up X.mg N (IV m l u)):=
 cX (O7 (RD.or RC) t w y) λσ H Q q=>by
  obtain⟨A,ι,τ,R,S,q,k⟩:=q;refine⟨A,ι,τ,_,S,q,λx z d H1 v B f n C=>?_⟩;refine⟨z,d,τ,_,S.next f n,B,λD E g H2 F h G=>?_⟩;refine⟨E,g,τ,_,(S.next f n).next h G,F,λI J K M b o i=>?_⟩;have c:=(f.trans h).trans o;have s:=RV.ext (h.trans o) x v C;cases x with
  |tup ds=>
   obtain⟨a,xs,rfl,h1,h2⟩:=s;refine .inl ⟨a,xs,rfl,bg.of h1,by rw[<-ao.length h2];exact b.1,λp j=>tW (k.from c) i (h2.cut _ _) b.2 j⟩
  |ref r=>
   obtain⟨_,rfl⟩:=s;have b:y_ r D I J R:=b;unfold y_ at b;split at b
   .rename_i xs e
    obtain⟨L,h1,h2⟩:=i.lst e;exact .inr ⟨_,L,rfl,aW.of h1,λp j=>jH (k.from c) i (h2.cut _ _) b j⟩
   .exact b.elim
  |_=>exact b.elim
end
def jd:List D->Option (List Str)
 |[]=>some []
 |.str b::r=>(jd r).map (b::·)
 |_::_=>none
theorem F7{mg:au}{ι:Io}{n:Nat}{H:Hp}:∀{ds:List D} {a:List V} {bs:List Str},jd ds=some bs->ao mg ι n H ds a->a=bs.map V.str
 |[],a,bs,h,r=>by cases h;exact r
 |d::ds,a,bs,h,r=>by
  obtain⟨x,r',rfl,h1,h2⟩:=r;cases d with
  |str b=>
   cases q:jd ds with
   |none=>simp[jd,q] at h
   |some l=>
    simp[jd,q] at h;subst h;rw[F7 q h2];cases h1;rfl
  |_=>simp[jd] at h
theorem ao.strs{mg:au}{ι:Io}{H:Hp}:∀(ns:List Str) {n:Nat},ao mg ι n H (ns.map D.str) (ns.map V.str)
 |[],_=>rfl
 |i::r,n=>⟨_,_,rfl,rfl,ao.strs r⟩
@[irreducible] def qN(r:Nat)(A:Ar)(R:DK):Prop:=match A[r]? with
 |some (.lst xs)=>(match jd xs with
  |some ss=>ss.length<100/\∀ys:List Str,ys.Pairwise strLt->(∀x,x∈ys↔x∈ss)->R (.ref A.length) (A++[.lst (ys.map D.str)])
  |none=>False)
 |_=>False
def RX:fK:=λvs A R=>match vs with
 |[.ref r]=>qN r A R
 |_=>False
theorem BG{X:Cx}{N:En}{e:Expr}{n:cV}{p1 p2 pos1 pos2:Pos}(b:X.mg "sorted"=none)(c:X.mg "set"=none)(hc:X.calm=true)(i:PA X [e] (eS X.mg N n))(d:Gl X "sorted":=by rfl)(f:Gl X "set":=by rfl)
  (j:starEach [e] X.env=[(false,eval e X.env)]:=by rfl)(hz:starEach [.Call (.Name "set" p2) [e] [] pos2] X.env=[(false,eval (.Call (.Name "set" p2) [e] [] pos2) X.env)]:=by rfl):
  PE X (.Call (.Name "sorted" p1) [.Call (.Name "set" p2) [e] [] pos2] [] pos1) (up X.mg N (lz RX n)):=cX (O8 b c hc i d f j hz) λσ H Q q=>by
 obtain⟨A,ι,τ,R,S,q,k⟩:=q;refine⟨A,ι,τ,_,S,q,λvs m o H1 p a s h g=>?_⟩;match vs,a,g with
 |[.ref r],a,g=>
  obtain⟨_,_,rfl,⟨_,rfl⟩,rfl⟩:=g;have a:qN r m R:=a;unfold qN at a;split at a
  .rename_i xs e
   split at a
   .rename_i ss es
    obtain⟨p,h1,h2⟩:=h.lst e;exact⟨_,ss,rfl,aW.of (by rw[h1,F7 es h2]),a.1,λl ys t u v=>jH (k.from s) h (ao.strs ys) (a.2 ys u v) t⟩
   .exact a.elim
  .exact a.elim
def cO{β:Type}(kvs:List (Key×β))(k:Key)(v:β):List (Key×β):=
 if (kvs.any λkv=>decide (kv.1=k))=true then kvs.map (λkv=>if kv.1=k then (kv.1,v) else kv) else kvs++[(k,v)]
section
variable{mg:au}{ι:Io}{H:Hp}{n:Nat}
theorem RK.any{k:Key}:∀{kvs:List (Key×D)} {xs:List (Key×V)},RK mg ι n H kvs xs->(kvs.any λa=>decide (a.1=k))=(xs.any λa=>decide (a.1=k))
 |[],xs,h=>by cases (show xs=[] from h);rfl
 |p::r,xs,h=>by
  obtain⟨x,r',rfl,h1,h2⟩:=h;rw[mz,mz,RK.any h2]
theorem RK.yj{k:Key}{d:D}{v:V}(c:RV mg ι n H d v):∀{kvs:List (Key×D)} {xs:List (Key×V)},RK mg ι n H kvs xs->RK mg ι n H (kvs.map λa=>if a.1=k then (a.1,d) else a) (xs.map λa=>if a.1=k then (a.1,v) else a)
 |[],xs,h=>by cases (show xs=[] from h);rfl
 |p::r,xs,h=>by
  obtain⟨x,r',rfl,h1,h2⟩:=h;rw[dg,dg];by_cases b:p.1=k
  .rw[aj b,aj b];exact⟨v,_,rfl,c,RK.yj c h2⟩
  .rw[ai b,ai b];exact⟨x,_,rfl,h1,RK.yj c h2⟩
theorem RK.app:∀{ds es:List (Key×D)} {vs ws:List (Key×V)},RK mg ι n H ds vs->RK mg ι n H es ws->RK mg ι n H (ds++es) (vs++ws)
 |[],_,vs,_,h,q=>by have h':vs=[]:=h;rw[h'];exact q
 |d::ds,es,vs,ws,h,q=>by
  obtain⟨x,r,rfl,a,b⟩:=h;exact⟨x,r++ws,rfl,a,RK.app b q⟩
theorem RK.put{k:Key}{d:D}{v:V}(a:RV mg ι n H d v){kvs:List (Key×D)}{xs:List (Key×V)}(h:RK mg ι n H kvs xs):RK mg ι n H (cO kvs k d) (putK xs k v):=by
 unfold cO putK;rw[RK.any h];split
 .exact RK.yj a h
 .exact h.app (es:=[(k,d)]) (ws:=[(k,v)]) ⟨v,[],rfl,a,rfl⟩
end
def eB:List D->Option (List (Key×D))
 |[]=>some []
 |.tup [a,b]::r=>(match iz a,eB r with
  |some k,some l=>some ((k,b)::l)
  |_,_=>none)
 |_::_=>none
def yG(ps:List (Key×D)):List (Key×D):=ps.foldl (λacc p=>cO acc p.1 p.2) []
section
variable{mg:au}{K:Frag}{ι:Io}{H:Hp}{n:Nat}
theorem DZ:∀{ds:List D} {c:List V} {ps:List (Key×D)},eB ds=some ps->ao mg ι n H ds c->∃qs,RK mg ι n H ps qs/\c.length=qs.length/\∀(i:Nat) (x:V) (p:Key×V),c[i]?=some x->qs[i]?=some p->∃t,x=.ref t/\bg K H t [kV p.1,p.2]
 |[],c,ps,h,r=>by
  cases h;cases (show c=[] from r);exact⟨[],rfl,rfl,λi x p e=>by simp at e⟩
 |.tup [a,b]::ds,c,ps,h,r=>by
  obtain⟨x,r',rfl,h1,h2⟩:=r;unfold eB at h;split at h
  .rename_i k l m o
   cases h;obtain⟨qs,g1,g2,g3⟩:=DZ o h2;obtain⟨t,xs,rfl,q,w,_,rfl,s,d,_,rfl,u,v⟩:=h1;obtain rfl:=v;cases p_ m s;refine⟨(k,d)::qs,⟨d,qs,rfl,u,g1⟩,by simp[g2],λi z p hz j=>?_⟩;cases i with
   |zero=>
    have f:V.ref t=z:=by simpa using hz
    have g:(k,d)=p:=by simpa using j
    subst f g;exact⟨t,rfl,bg.of q⟩
   |succ i=>exact g3 i z p (by simpa using hz) (by simpa using j)
  .cases h
 |.aB::_,_,_,h,_=>by simp[eB] at h
 |.bl _::_,_,_,h,_=>by simp[eB] at h
 |.int _::_,_,_,h,_=>by simp[eB] at h
 |.str _::_,_,_,h,_=>by simp[eB] at h
 |.ref _::_,_,_,h,_=>by simp[eB] at h
 |.fl _::_,_,_,h,_=>by simp[eB] at h
 |.exc _::_,_,_,h,_=>by simp[eB] at h
 |.tup []::_,_,_,h,_=>by simp[eB] at h
 |.tup [_]::_,_,_,h,_=>by simp[eB] at h
 |.tup (_::_::_::_)::_,_,_,h,_=>by simp[eB] at h
theorem RK.fold{ps:List (Key×D)}{qs:List (Key×V)}(h:RK mg ι n H ps qs):∀{acc:List (Key×D)} {pC:List (Key×V)},RK mg ι n H acc pC->RK mg ι n H (ps.foldl (λacc p=>cO acc p.1 p.2) acc) (qs.foldl (λacc p=>putK acc p.1 p.2) pC):=by
 induction ps generalizing qs with
 |nil=>intro acc pC a;cases (show qs=[] from h);exact a
 |cons p r b=>
  intro acc pC a;obtain⟨x,r',rfl,h1,h2⟩:=h;exact b h2 (RK.put h1 a)
end
theorem DM{mg:au}{A:Ar}{ι:Io}{H:Hp}{R:DK}{Q:VK}{ds:List (Key×D)}{xs:List (Key×V)}{p:Addr}(k:Kt mg A ι H R Q)(r:RA mg ι H A)(h:RK mg ι A.length H ds xs)(q:R (.ref A.length) (A++[.dct ds]))(a:H p=none):Q (.ref p) (upd H p (.dK xs)):=by
 have E:Ext A ι H (A++[.dct ds]) (λr=>if r=A.length then p else ι r) (upd H p (.dK xs)):=r.xF a;obtain⟨b,d⟩:=r.push (c:=.dct ds) (o:=.dK xs) a ⟨xs,f7,by simpa using RK.ext E ds xs h⟩;refine k _ _ _ _ _ q d b ⟨by simp,?_⟩;show V.ref p=V.ref (if A.length=A.length then p else ι A.length);rw[aj rfl]
@[irreducible] def dctP(xs:List D)(A:Ar)(R:DK):Prop:=match eB xs with
 |some ps=>ps.length<=1000/\R (.ref A.length) (A++[.dct (yG ps)])
 |none=>False
@[irreducible] def sD(r:Nat)(A:Ar)(R:DK):Prop:=match A[r]? with
 |some (.lst xs)=>dctP xs A R
 |_=>False
def BD:fK:=λvs A R=>match vs with
 |[.tup xs]=>dctP xs A R
 |[.ref r]=>sD r A R
 |_=>False
theorem RK.len'{mg:au}{ι:Io}{H:Hp}{n:Nat}{ds:List (Key×D)}{vs:List (Key×V)}(h:RK mg ι n H ds vs):vs.length=ds.length:=(RK.length h).symm
theorem lB{mg:au}{K:Frag}:gj mg (λxs H Q=>∃(p:Addr) (b:List V) (ps:List (Key×V)),xs=[.ref p]/\(H p=some (.lst b)\/H p=some (.tup b))/\Pairs K H b ps/\ps.length<=1000/\∀d,H d=none->Q (.ref d) (upd H d (.dK (putAll ps)))) BD:=by
 intro ds A ι H f R Q ra rs h k;have fin:∀(xs:List D) (b:List V) (p:Addr),ao mg ι A.length H xs b->(H p=some (.lst b)\/H p=some (.tup b))->dctP xs A R->∃(q:Addr) (b:List V) (ps:List (Key×V)),[V.ref p]=[.ref q]/\(H q=some (.lst b)\/H q=some (.tup b))/\Pairs K H b ps/\ps.length<=1000/\∀d,H d=none->Q (.ref d) (upd H d (.dK (putAll ps))):=λxs b p r g h=>by
  unfold dctP at h;split at h
  .rename_i ps ep
   obtain⟨qs,g1,g2,g3⟩:=DZ (K:=K) ep r;exact⟨p,b,qs,rfl,g,⟨g2,g3⟩,by rw[RK.len' g1];exact h.1,λd hd=>DM k ra (RK.fold g1 (acc:=[]) (pC:=[]) rfl) h.2 hd⟩
  .exact h.elim
 unfold BD at h;split at h
 .obtain⟨_,_,rfl,⟨a,xs,rfl,i,c⟩,rfl⟩:=rs
  exact fin _ xs a c (.inr i) h
 .obtain⟨_,_,rfl,⟨_,rfl⟩,rfl⟩:=rs
  unfold sD at h;split at h
  .rename_i xs e
   obtain⟨f,h1,c⟩:=ra.lst e;exact fin _ f _ c (.inl h1) h
  .exact h.elim
 .exact h.elim
def IS:aU:=λ_ A R=>R (.ref A.length) (A++[.dct []])
theorem Jq{X:Cx}{N:En}{pos:Pos}:PE X (.Dict [] [] pos) (up X.mg N IS):=cX OY λσ H Q q=>by
 obtain⟨A,ι,τ,R,S,q,k⟩:=q;exact λp a=>DM (ds:=[]) (xs:=[]) k S.ra rfl q a
@[irreducible] def qz(r:Nat)(y v:D)(A:Ar)(R:Ar->Prop):Prop:=match A[r]?,iz y with
 |some (.dct kvs),some k=>kvs.length<sizeLine/\R (A.set r (.dct (cO kvs k v)))
 |_,_=>False
def QO(mo mi mv:aU):cg:=λR τ A=>mv τ A λv A1=>mo τ A1 λx A2=>mi τ A2 λy A3=>match x with
 |.ref r=>qz r y v A3 λA4=>R.nx τ A4
 |_=>False
theorem JK{X:Cx}{N:En}{pos pos':Pos}{o i value:Expr}{mo s t:aU}(Z:X.A.units+64<cLine)(D:PE X o (up X.mg N mo))(hi:PE X i (up X.mg N s))(F:PE X value (up X.mg N t))(G:swapsWith value (some (.Subscript o i pos')) pos.line X.env=pure false):
  PS X (.Assign [.Subscript o i pos'] value pos) (bZ X.mg N (QO mo s t)):=iu (PD (by omega) D hi F G) λQ σ H q=>by
 obtain⟨A,ι,τ,R,S,q,k⟩:=q;refine⟨A,ι,τ,_,S,q,λv I j H1 w J b l K=>?_⟩;refine⟨I,j,τ,_,S.next b l,J,λx L m H2 u M d B v2=>?_⟩;refine⟨L,m,τ,_,(S.next b l).next d B,M,λy O P H3 z a f g T=>?_⟩;have n:=RV.ext (d.trans f) v w K;have p:=RV.ext f x u v2;cases x with
 |ref r=>
  obtain⟨_,rfl⟩:=p;have a:qz r y v O (λU=>R.nx τ U):=a;unfold qz at a;split at a
  .rename_i kvs h e V
   obtain⟨xs,h1,h2⟩:=g.dct e;cases p_ V T;refine⟨_,_,rfl,oY.k h1 (by rw[<-RK.length h2];exact a.1),?_⟩;have W:=(bL.mp e).1;have E:=g.xG (o:=.dK (putK xs h w)) (c:=.dct (cO kvs h v)) W;obtain⟨Y,C⟩:=g.put (c':=.dct (cO kvs h v)) (o:=.dK (putK xs h w)) e h1 rfl ⟨_,f7,by simpa using RK.ext E _ _ (RK.put n h2)⟩;exact(k.nx.from (((b.trans d).trans f).trans C)).here ((((S.next b l).next d B).next f g).next C Y) a.2
  .exact a.elim
 |_=>exact a.elim
def IM(x:Str)(m:aU):aU:=λτ A R=>m τ A λv A1=>match v with
 |.str y=>x.length+y.length<=sizeLine/\R (.str (x++y)) A1
 |_=>False
theorem BE{X:Cx}{N:En}{e:Expr}{m:aU}{x:Str}{k:Nat}{p1 p2 pos:Pos}(b:PE X e (up X.mg N m))(c:x.length<=sizeLine:=by decide):PE X (.JoinedStr [.Constant (.str x) k p1,.FormattedValue e (-1) none p2] pos) (up X.mg N (IM x m)):=
 cX (OZ b c) λσ H Q q=>by
  obtain⟨A,ι,τ,R,S,q,k⟩:=q;refine⟨A,ι,τ,_,S,q,λv i d H1 u a f g h=>?_⟩;cases v with
  |str y=>cases h;exact⟨y,rfl,a.1,(k.from f).here g a.2 rfl⟩
  |_=>exact a.elim
def yo:DX:=λ_ _=>False
theorem nO{X:Cx}{N:En}{P:Program}{w:World}:Passes (bu P w) X (EL X.mg N yo):=λpins σ H s e s' I h=>by
 obtain⟨a,C,H',_,_,c,A',ι',_,_,_,z⟩:=h;exact z.elim
theorem C3{K:Frag}:∀t∈tys,kitOne K (.type t) (.type "bool")=some (j9 t "bool"):=by
 intro t a;simp only[tys,aX,d7,d8] at a;rcases a with rfl|rfl|rfl|rfl|rfl|rfl|rfl<;>rfl
theorem C4{K:Frag}:∀t∈tys,kitOne K (.type t) (.type "int")=some (j9 t "int"):=by
 intro t a;simp only[tys,aX,d7,d8] at a;rcases a with rfl|rfl|rfl|rfl|rfl|rfl|rfl<;>rfl
theorem xY{K:Frag}:∀t∈tys,kitOne K (.type t) (.type "str")=some (j9 t "str"):=by
 intro t a;simp only[tys,aX,d7,d8] at a;rcases a with rfl|rfl|rfl|rfl|rfl|rfl|rfl<;>rfl
theorem kit_tuple{K:Frag}:∀t∈tys,kitOne K (.type t) (.type "tuple")=some (j9 t "tuple"):=by
 intro t a;simp only[tys,aX,d7,d8] at a;rcases a with rfl|rfl|rfl|rfl|rfl|rfl|rfl<;>rfl
theorem cI{b:Bool}{X Y:Prop}(h1:b=true->X)(h2:b=false->Y):cond b X Y:=by
 cases b with
 |true=>exact h1 rfl
 |false=>exact h2 rfl
theorem cD{p:Prop}[Decidable p]{X Y:Prop}(h1:p->X)(h2:¬p->Y):cond (decide p) X Y:=cI (λe=>h1 (kK e)) λe=>h2 (of_decide_eq_false e)
theorem cN{p:Prop}[Decidable p]{X Y:Prop}(h1:¬p->X)(h2:p->Y):cond (!decide p) X Y:=cI (λe=>h1 (of_decide_eq_false (by simpa using e))) λe=>h2 (kK (by simpa using e))
def cQ(t:Nat)(A A':Ar):Prop:=∀q c,q≠t->A[q]?=some c->A'[q]?=some c
theorem cQ.refl{t:Nat}{A:Ar}:cQ t A A:=λ_ _ _ h=>h
theorem cQ.trans{t:Nat}{A B C:Ar}(a:cQ t A B)(b:cQ t B C):cQ t A C:=λq c n h=>b q c n (a q c n h)
theorem cQ.push{t:Nat}{A:Ar}{T:Ar}:cQ t A (A++T):=λq c _ h=>by
 have:=(bL.mp h).1;rw[gU this];exact h
theorem cQ.set{t:Nat}{A:Ar}{c:C}:cQ t A (A.set t c):=λq d n h=>by rw[oh (Ne.symm n)];exact h
def Tw(t n:Nat)(A:Ar):Prop:=∃xs,A[t]?=some (.lst xs)/\xs.length<=n
theorem Tw.mono{t n m:Nat}{A:Ar}(h:Tw t n A)(l:n<=m):Tw t m A:=let ⟨xs,a,b⟩:=h;⟨xs,a,cY b l⟩
theorem getElem?_push{A T:Ar}{q:Nat}{c:C}(h:A[q]?=some c):(A++T)[q]?=some c:=by
 have:=(bL.mp h).1;rw[gU this];exact h
def Gr(A A':Ar):Prop:=∃T,A'=A++T
theorem Gr.refl{A:Ar}:Gr A A:=⟨[],by simp⟩
theorem Gr.push{A T:Ar}:Gr A (A++T):=⟨T,rfl⟩
theorem Gr.trans{A B C:Ar}(a:Gr A B)(b:Gr B C):Gr A C:=by
 obtain⟨T,rfl⟩:=a;obtain⟨c,rfl⟩:=b;exact⟨T++c,by simp⟩
theorem Gr.get{A B:Ar}(a:Gr A B){q:Nat}{c:C}(h:A[q]?=some c):B[q]?=some c:=by
 obtain⟨T,rfl⟩:=a;exact getElem?_push h
theorem Gr.but{A B:Ar}{t:Nat}(a:Gr A B):cQ t A B:=λ_ _ _ h=>a.get h
theorem Tw.gr{A B:Ar}{t n:Nat}(h:Tw t n A)(a:Gr A B):Tw t n B:=let ⟨xs,x,y⟩:=h;⟨xs,a.get x,y⟩
def Ak:Ct:=λds A R _=>∃ns k,ds=[.fl ns,.int k]/\0<=k/\∀i A',Gr A A'->R (.int i) A'
def AB:Ct:=λds A R _=>∃ns k m,ds=[.fl ns,.int k,.int m]/\0<=k/\0<m/\∀i A',0<=i->i<m->Gr A A'->R (.int i) A'
def o9:Ct:=λds A R _=>∃ns t m n,ds=[.fl ns,.ref t,.int m]/\Tw t n A/\n<1000000/\0<m/\∀i A',0<=i->i<m->cQ t A A'->Tw t (n+1) A'->R (.int i) A'
def rW:Ct:=λds A R _=>∃ns t q xs n,ds=[.fl ns,.ref t,.ref q]/\q≠t/\A[q]?=some (.lst xs)/\xs≠[]/\Tw t n A/\n<1000000/\∀x A',x∈xs->cQ t A A'->Tw t (n+1) A'->R x A'
theorem wG{α:Type}{xs:List α}{k:Int}(h0:0<=k)(h:k<(xs.length:Int)):∃v,cJ xs k=some v/\v∈xs:=by
 have hk:k.toNat<xs.length:=by omega
 refine⟨xs[k.toNat],?_,cz hk⟩;unfold cJ jF;rw[aj h0,aj h];simp[aV hk]
theorem lay_ints:∀ns:List Int,canLayAll0 (ns.map PyData.int)=true
 |[]=>by simp[canLayAll0]
 |n::r=>by simp[canLayAll0,canLay0,lay_ints r]
theorem aK{A:Ar}{c:C}:(A++[c])[A.length]?=some c:=by simp
theorem JY{ns:List Int}{A:Ar}{R:DK}(h:R (.bl (decide (ns=[]))) (A++[.lst []])):eK false (.fl ns) (.ref A.length) (A++[.lst []]) R:=by
 unfold eK;have a:cE (A++[.lst []]) (.ref A.length)=.list []:=by unfold cE;simp only[aK];rfl
 have b:cE (A++[.lst []]) (.fl ns)=.list (ns.map PyData.int):=by unfold cE;rfl
 refine⟨rfl,?_,?_,?_,?_,?_⟩
 .unfold jc;simp only[aK];rfl
 .rw[b];simpa[canLay0] using lay_ints ns
 .rw[a];simp[canLay0,canLayAll0]
 .rw[a];simp[PyData.depth,depthAll];omega
 .rw[b,a]
  have e:PyData.eqv (.list (ns.map PyData.int)) (.list [])=decide (ns=[]):=by cases ns<;>simp[PyData.eqv,eqvAll]
  rw[ai cC,e];exact h
section
variable{A:Ar}{r q t:Nat}{xs ys:List D}{kvs:List (Key×D)}{R:DK}
theorem f5(h:A[r]?=some (.lst xs)):lD A (.ref r)=true:=by unfold lD;simp only[h]
theorem r8{y:D}(h:A[r]?=some (.lst xs))(hz:xs.length<sizeLine)(k:R .aB (A.set r (.lst (xs++[y])))):rZ r y A R:=by
 unfold rZ;simp only[h];exact⟨hz,k⟩
theorem sR(h:A[r]?=some (.lst xs))(h2:A[q]?=some (.lst ys))(hz:xs.length+ys.length<=sizeLine)(k:R .aB (A.set r (.lst (xs++ys)))):sP r q A R:=by
 unfold sP;simp only[h,h2];exact⟨hz,k⟩
theorem su(h:A[r]?=some (.lst xs))(h2:A[q]?=some (.lst ys))(hz:xs.length+ys.length<=sizeLine)(k:R (.ref A.length) (A++[.lst (xs++ys)])):sr r q A R:=by
 unfold sr;simp only[h,h2];exact⟨hz,k⟩
theorem tN(h:A[r]?=some (.lst xs))(k:R (.int xs.length) A):tM r A R:=by
 unfold tM;simp only[h];exact k
theorem jG{i:Int}{v:D}(h:A[r]?=some (.lst xs))(hi:cJ xs i=some v)(k:R v A):nC r (.int i) A R:=by
 unfold nC;simp only[h,hi];exact k
theorem S6(h:A[r]?=some (.lst xs))(k:R (.tup xs) A):u6 r A R:=by
 unfold u6;simp only[h];exact k
theorem get_set(h:A[t]?=some (.lst xs)):(A.set t (.lst ys))[t]?=some (.lst ys):=by
 rw[lZ (bL.mp h).1]
theorem ja{c:C}(h:A[t]?=some c):t<A.length:=(bL.mp h).1
end
theorem qW{ns:List Int}{its:List Value}(r:Vals (ns.map V.int) its):∀(i:Nat) (v:Value),its.toArray[i]?=some v->∃t:Tok,v=Value.int (ns.getD i 0) t:=λi v h=>by
 have h':its[i]?=some v:=by simpa using h
 have hi:=(bL.mp h').1;have b:=r.length;have a:i<(ns.map V.int).length:=by omega
 obtain⟨u,e,ru⟩:=r.get (aV a);rw[h'] at e;cases e;rw[List.getElem_map] at ru;obtain⟨t,rfl⟩:=ru;refine⟨t,?_⟩;rw[dF,aV (by simpa using a)];rfl
theorem Bh{X:Cx}(hc:X.calm=true):dm X (.builtin "max") (λxs H Q=>∃(p:Addr) (ns:List Int),xs=[.ref p]/\(bg X.K H p (ns.map V.int)\/aW X.K H p (ns.map V.int))/\ns≠[]/\∀m∈ns,(∀n∈ns,n<=m)->Q (.int m) H):=by
 intro pins s σ H xs F Q I r h;obtain⟨p,ns,rfl,hq,w,q⟩:=h;obtain⟨u,rfl,ru⟩:=vals1 r;cases ru;have d:=vj.mpr w;have fin:∀(its:List Value) (y:Obj),Vals (ns.map V.int) its->∀(v:Value) (h':Heap) (tk:Nat),its.toArray[argBest (λi j=>decide (ns.getD i 0>ns.getD j 0)) (its.toArray.size - 1)]?=some v->(∀b o,b∉[s.heap.objs.size]->(s.heap.push y).get? b=some o->h'.get? b=some o)->EP X pins σ Q v {s with heap:=h',toks:=tk}:=λits y c v h' tk f hk=>by
  obtain⟨t,rfl⟩:=qW c _ v f;have G:its.toArray.size=ns.length:=by rw[bH,<-c.length,a_]
  obtain⟨J,B⟩:=argBest_gt (λi=>ns.getD i 0) (its.toArray.size - 1);have hi:argBest (λi j=>decide (ns.getD i 0>ns.getD j 0)) (its.toArray.size - 1)<ns.length:=by omega
  have g:ns.getD (argBest (λi j=>decide (ns.getD i 0>ns.getD j 0)) (its.toArray.size - 1)) 0∈ns:=by
   rw[dF,aV hi];exact cz hi
  have C:=q _ g λn hn=>by
   obtain⟨j,D,e⟩:=fV hn;have:=B j (by omega);rw[dF,aV D] at this;rw[<-e];exact this
  exact⟨.int _,H,I.kept λb o e=>hk b o (λz=>by
   have E:b=s.heap.objs.size:=by simpa using z
   exact absurd (aN e) (by rw[E];exact dZ _)) (aT _ e),⟨_,rfl⟩,C⟩
 refine call_max_walk ?_;rcases hq with hq|hq
 .obtain⟨its,c,k,hz⟩:=I.tuple hq
  have hsz:0<its.toArray.size:=by rw[bH,<-c.length,a_];exact d
  have a:p<s.heap.objs.size:=k.lt;refine vE (show s.heap.IsTuple p its.toArray from k) ⟨s.heap.objs.size,_,_,_,_,_,_,rfl,Walks.tuple (A:=X.A.in1) (I.ok.hd hc) s.heap.objs.size p (aY a) its.toArray,⟨⟨_,bI _ rfl,rfl,rfl⟩,?_⟩,λb hb=>?_,hsz,CmpOf.ints_gt (λi=>ns.getD i 0) (qW c),λv h' tk f hk=>fin its _ c v h' tk f hk⟩
  .obtain⟨o,l,r⟩:=(show s.heap.IsTuple p its.toArray from k)
   exact⟨o,aT _ l,r⟩
  .show b<(s.heap.push _).objs.size
   rw[oz];rcases aX.mp hb with e|hb
   .rw[e];exact iF _
   .rw[bK.mp hb];exact dM a
 .obtain⟨its,c,k,hz⟩:=I.list hq
  have hsz:0<its.toArray.size:=by rw[bH,<-c.length,a_];exact d
  have x:=k.isList;have a:p<s.heap.objs.size:=by obtain⟨o,l,_⟩:=x;exact aN l
  refine mh x ⟨s.heap.objs.size,_,_,_,_,_,_,rfl,Walks.list (A:=X.A.in1) (I.ok.hd hc) s.heap.objs.size p (aY a) its.toArray,⟨⟨_,bI _ rfl,rfl,rfl⟩,?_⟩,λb hb=>?_,hsz,CmpOf.ints_gt (λi=>ns.getD i 0) (qW c),λv h' tk f hk=>fin its _ c v h' tk f hk⟩
  .obtain⟨o,l,r⟩:=x
   exact⟨o,aT _ l,r⟩
  .show b<(s.heap.push _).objs.size
   rw[oz];rcases aX.mp hb with e|hb
   .rw[e];exact iF _
   .rw[bK.mp hb];exact dM a
@[irreducible] def kh(xs:List D)(A:Ar)(R:DK):Prop:=match fE xs with
 |some ns=>ns≠[]/\∀m∈ns,(∀n∈ns,n<=m)->R (.int m) A
 |none=>False
@[irreducible] def tQ(r:Nat)(A:Ar)(R:DK):Prop:=match A[r]? with
 |some (.lst xs)=>kh xs A R
 |_=>False
def Dz:fK:=λvs A R=>match vs with
 |[.tup xs]=>kh xs A R
 |[.ref r]=>tQ r A R
 |_=>False
theorem BA{mg:au}{K:Frag}:gj mg (λxs H Q=>∃(p:Addr) (ns:List Int),xs=[.ref p]/\(bg K H p (ns.map V.int)\/aW K H p (ns.map V.int))/\ns≠[]/\∀m∈ns,(∀n∈ns,n<=m)->Q (.int m) H) Dz:=by
 intro ds A ι H g R Q ra rs h k;unfold Dz at h;split at h
 .obtain⟨_,_,rfl,⟨a,xs,rfl,i,b⟩,rfl⟩:=rs
  unfold kh at h;split at h
  .rename_i ns c
   exact⟨a,ns,rfl,.inl (bg.of (by rw[i,ny c b])),h.1,λm d f=>k.here ra (h.2 m d f) rfl⟩
  .exact h.elim
 .obtain⟨_,_,rfl,⟨_,rfl⟩,rfl⟩:=rs
  unfold tQ at h;split at h
  .rename_i xs e
   obtain⟨g,h1,b⟩:=ra.lst e;unfold kh at h;split at h
   .rename_i ns c
    exact⟨_,ns,rfl,.inr (aW.of (by rw[h1,ny c b])),h.1,λm d f=>k.here ra (h.2 m d f) rfl⟩
   .exact h.elim
  .exact h.elim
 .exact h.elim
def QT(Of:List Str)(len i:Nat)(m:DX->cg)(th:cg):cg:=λR τ A=>m (λc A'=>c∈Of/\th {nx:=λ_ _=>False,rt:=R.rt} ((replicate len none).set i (some (.exc c))) A') R τ A
theorem JM{X:Cx}{N:En}{D:Addr}{i:Nat}{n cn:Str}{b₀:Stmt}{suite body:List Stmt}{m:DX->cg}{th:cg}{np hpos pos:Pos}(l:List Str)(hex:X.ex=[])(v:X.stack=X.env::X.outer)(x:X.env.frame=some X.env.locals)(L:X.N.Nodup)(hi:X.N[i]? =some n)(O:X.env.scope.names.lookup n=some .local)(P:X.mg cn=some (.ref D))
  (hok:∀c C,c∈l->X.mg c=some (.ref C)->exmOne X.K (.ref C) (.ref D)=some true)
  (T:∀(M:En) (RE:DX) (pn:aQ) (E:aA),Passes (bu X.prog X.w) (X.tried pn E) (EL X.mg M RE)->cj (X.tried pn E) body (bZ X.mg M (m RE)))(U:∀(M:En) (e:Addr),cj (X.jD e) (b₀::suite) (bZ X.mg M th))
  (V:Gl X cn:=by rfl)(y:(cn==("__debug__":Str))=false:=by decide):
  PS X (.Try body [.ExceptHandler (some (.Name cn np)) (some n) (b₀::suite) hpos] [] [] pos) (bZ X.mg N (QT l X.N.length i m th)):=by
 intro pins s σ H W I q
 obtain⟨A,ι,τ,R,S,q,k⟩:=q
 refine PU (tb:=λpn E G Q σ' H'=>∃RE:DX,(∀C a H',EL X.mg ⟨A,ι,H⟩ RE C a H'->G C none H')/\bZ X.mg ⟨A,ι,H⟩ (m RE) Q σ' H') (th:=bZ X.mg ⟨A,ι,H⟩ th) hex v x L hi O P (λpn E G Y=> ?_) (U ⟨A,ι,H⟩) V y pins s σ H W I ?_
 .intro g s' σ' H' Q Z z
  obtain⟨RE,hE,z⟩:=z
  exact T ⟨A,ι,H⟩ RE pn E (λpins σ H1 s1 e s' I z=>Y pins σ H1 s1 e s' I (by
   obtain⟨a,C,H2,h1,h2,h3⟩:=z
   exact⟨a,C,H2,h1,h2,hE _ _ _ h3⟩)) g s' σ' H' Q Z z
 .intro pn E
  refine⟨_,λC a0 H' z=> ?_,A,ι,τ,R,⟨S.ra,S.rs,S.ra.refl⟩,q,k⟩
  obtain⟨c,A',ι',⟨u,rfl,hc⟩,e,r,B,ht⟩:=z
  refine⟨u,rfl,hok c u B hc,λa σ' f J=> ?_⟩
  have F:=r.xC (o:=m_ a u) J
  have r1:=r.fix F λb o z=>by rw[bh (dc z J)];exact z
  refine⟨A',ι',_,_,⟨r1,⟨by simp[f],λj d h=> ?_⟩,e.trans F⟩,ht,⟨λ_ _ _ _ _ z _ _ _=>z.elim,k.rt.from (e.trans F),λ_ _ _ _ _ z _ _ _=>z.elim,λ_ _ _ _ _ z _ _ _=>z.elim⟩⟩
  by_cases p:j=i
  .subst p
   by_cases t:j<X.N.length
   .rw[yb _ _ _ (by simpa using t)] at h
    cases h
    exact⟨.ref a,by rw[lZ (by rw[f];exact t)],a,u,rfl,hc,f7⟩
   .rw[List.set_eq_of_length_le (by simp;omega),nH,n_ (by simp;omega)] at h
    cases h
  .rw[ya _ _ _ _ p,nH,vL] at h
   split at h<;>simp at h
open MA
abbrev M:=aP Str
def enc:M->D
 |.wt n=>.tup [.str "weight",.str n]
 |.aG l r a b=>.tup [.str "rod",.int l,.int r,enc a,enc b]
theorem fQ{k:Option Nat}{fr:bw}{te:aU}{a:Ar->Prop}{R:List D->Ar->Prop}{A:Ar}(hc:a A)(f:D->D):∀(items ys:List D),(∀x∈items,∃vs,u7 k x=some vs/\∀Q:DK,Q (f x) A->te (vs.map some++fr) A Q)->ys.length+items.length<=sizeLine->R (ys++items.map f) A->lg a k fr u5 te R items ys A
 |[],ys,_,_,h=>⟨hc,by simpa using h⟩
 |x::xs,ys,b,c,h=>by
  obtain⟨vs,d,e⟩:=b x (cB ..);refine⟨hc,?_⟩;rw[d];refine e _ ⟨by simp at c;omega,fQ hc f xs (ys++[f x]) (λy g=>b y (b9 _ g)) (by simp at c ⊢;omega) (by simpa using h)⟩
theorem mW{α:Type}(f:α->Bool):∀xs:List α,fP (xs.map λx=>D.bl (f x))=some (xs.map f)
 |[]=>rfl
 |x::r=>by simp[fP,mW f r]
theorem ints_map{α:Type}(f:α->Int):∀xs:List α,fE (xs.map λx=>D.int (f x))=some (xs.map f)
 |[]=>rfl
 |x::r=>by simp[fE,ints_map f r]
theorem strs_map{α:Type}(f:α->Str):∀xs:List α,jd (xs.map λx=>D.str (f x))=some (xs.map f)
 |[]=>rfl
 |x::r=>by simp[jd,strs_map f r]
theorem pH{A:Ar}{r:Nat}{xs:List D}{bs:List Bool}{R:DK}(h:A[r]?=some (.lst xs))(a:fP xs=some bs)(k:R (.bl (bs.all id)) A):allR r A R:=by
 unfold allR;simp only[h,a];exact k
theorem Sd{A:Ar}{r:Nat}{xs:List D}{ns:List Int}{R:DK}(h:A[r]?=some (.lst xs))(a:fE xs=some ns)(h1:∀n∈ns,0<=n/\n<=2 ^ 40)(h2:ns.length<=1000)(k:R (.int ns.sum) A):uW r A R:=by
 unfold uW;simp only[h,a];exact⟨h1,h2,k⟩
theorem F4{A:Ar}{r:Nat}{xs:List D}{ss:List Str}{R:DK}(h:A[r]?=some (.lst xs))(a:jd xs=some ss)(h2:ss.length<100)(k:∀ys:List Str,ys.Pairwise strLt->(∀x,x∈ys↔x∈ss)->R (.ref A.length) (A++[.lst (ys.map D.str)])):qN r A R:=by
 unfold qN;simp only[h,a];exact⟨h2,k⟩
theorem iy{A:Ar}{r:Nat}{xs:List D}{R:List D->(Ar->Prop)->Ar->Prop}(h:A[r]?=some (.lst xs))(k:R xs (λA'=>A'[r]?=some (.lst xs)) A):itR r A R:=by
 unfold itR;simp only[h];exact k
structure Nm(n:Str):Prop where
 lo:1<=n.length
 hi:n.length<=3
 az:∀c∈n.cps.toList,97<=c/\c<=122
structure Wf(m:M):Prop where
 arms:m.arms
 nm:∀n∈m.names,Nm n
def SV(dom:List D->D->Prop):Ct:=λds A R _=>∃v,dom ds v/\∀A',Gr A A'->R v A'
def SL(dom:List D->List D->Prop):Ct:=λds A R _=>∃v,dom ds v/\∀A' r,Gr A A'->A'[r]?=some (.lst v)->R (.ref r) A'
abbrev wk:Ct:=SV λds v=>∃i a b,ds=[.int i,.int a,.int b]/\v=.bl (decide (a<=i)&&decide (i<=b))
abbrev wj:Ct:=SV λds v=>∃n,ds=[.str n]/\Nm n/\v=.bl true
abbrev Aq(d:Nat):Ct:=SV λds v=>∃m,ds=[enc m,.int ((d:Int) - 1)]/\Wf m/\m.deep<d/\v=.bl true
abbrev Ao:Ct:=SV λds v=>∃m,ds=[enc m]/\Wf m/\m.deep<=5/\v=.bl true
abbrev o8:Ct:=SV λds v=>∃m,ds=[enc m]/\Wf m/\m.deep<=5/\v=.aB
theorem j8{P:Program}{w:World}{K:Frag}{mg:au}{base:Heap}{x:Str}{st:Stmt}{ps:List Str}{k n:Nat}{S:Ct}(T:TopD K mg x st ps)(no:∀ds A R RE,¬S ds A R RE):ay P w K mg base k x ps (av mg n S):=by
 obtain⟨f,fd,F,b,m⟩:=T;have a:∀vs H Q E,¬av mg n S vs H Q E:=λvs H Q E h=>by
  obtain⟨A,ι,ds,R,RE,_,_,_,z,_⟩:=h;exact no _ _ _ _ z
 exact⟨f,fd,⟨λvs H Q E h=>absurd h (a vs H Q E),λA outer s H args c vs Q E _ _ _ _ h=>absurd h (a vs H Q E)⟩,b,F.kp,m⟩
def aJ(r:Str×Int):D:=.tup [.str r.1,.int r.2]
def bV(rs:List (Str×Int)):D:=.tup (rs.map aJ)
def dJ(rs:List (Str×Int)):List (Key×D):=rs.map λr=>(Sum.inr r.1,.int r.2)
structure iY(rs:List (Str×Int)):Prop where
 nm:∀r∈rs,Nm r.1
 no:∀r∈rs,1<=r.2/\r.2<=999999
 up:(rs.map (·.1)).Pairwise strLt
 len:rs.length<100
def val(rs:List (Str×Int))(n:Str):Int:=((rs.find? λr=>r.1=n).map (·.2)).getD 0
def ld(f:Str->Int):M->Int
 |.wt n=>f n
 |.aG _ _ a b=>ld f a+ld f b
theorem zd{a b:Str}(h:strLt a b):a≠b:=λe=>by
 subst e;exact vN _ h
theorem nq:∀(rs:List (Str×Int)) (n:Str),n∈rs.map (·.1)->ck (dJ rs) (Sum.inr n)=some (.int (val rs n))
 |[],n,h=>by simp at h
 |r::rs,n,h=>by
  unfold dJ ck val;by_cases e:r.1=n
  .simp[e]
  .have h':n∈rs.map (·.1):=by
    rcases aX.mp (show n∈r.1::rs.map (·.1) from h) with q|q
    .exact absurd q.symm e
    .exact q
   have a:¬(Sum.inr r.1:Key)=Sum.inr n:=λz=>e (Sum.inr.inj z);have:=nq rs n h';simp only[dg,a,e_,kY,e,decide_false];exact this
theorem zB{rs:List (Str×Int)}(a:iY rs){n:Str}(h:n∈rs.map (·.1)):1<=val rs n/\val rs n<=999999:=by
 unfold val;cases q:rs.find? λr=>r.1=n with
 |none=>
  obtain⟨r,b,e⟩:=aS.mp h;have:=List.find?_eq_none.mp q r b;simp[e] at this
 |some r=>
  have:=vO q;exact a.no r this
theorem P8{kvs:List (Key×D)}{k:Key}{v:D}(h:∀p∈kvs,p.1≠k):cO kvs k v=kvs++[(k,v)]:=by
 unfold cO;rw[ai];intro z;obtain⟨p,a,e⟩:=any_eq_true.mp z;exact h p a (kK e)
theorem Eb:∀(rs:List (Str×Int)) (acc:List (Key×D)),(rs.map (·.1)).Pairwise strLt->(∀p∈acc,∀r∈rs,p.1≠Sum.inr r.1)->(dJ rs).foldl (λacc p=>cO acc p.1 p.2) acc=acc++dJ rs
 |[],acc,_,_=>by simp[dJ]
 |r::rs,acc,d,hn=>by
  have b:=l5.mp (show(r.1::rs.map (·.1)).Pairwise strLt from d);have e:cO acc (Sum.inr r.1) (.int r.2)=acc++[(Sum.inr r.1,.int r.2)]:=P8 λp a=>hn p a r (cB ..);show(dJ rs).foldl _ (cO acc (Sum.inr r.1) (.int r.2))=_;rw[e,Eb rs _ b.2]
  .simp[dJ]
  .intro p a q c
   rcases br.mp a with z|z
   .exact hn p z q (b9 _ c)
   .have f:p=(Sum.inr r.1,.int r.2):=by simpa using z
    subst f;exact λe=>zd (b.1 q.1 (kF c)) (Sum.inr.inj e)
theorem D0:∀rs:List (Str×Int),eB (rs.map aJ)=some (dJ rs)
 |[]=>rfl
 |r::rs=>by
  have:=D0 rs;simp only[dg,aJ,eB,iz,this,dJ]
theorem m5{rs:List (Str×Int)}(a:iY rs){A:Ar}{R:DK}(k:R (.ref A.length) (A++[.dct (dJ rs)])):dctP (rs.map aJ) A R:=by
 unfold dctP;rw[D0];refine⟨by simp[dJ];have:=a.len;omega,?_⟩;unfold yG;rw[Eb rs [] a.up (λp h=>by simp at h)];exact k
theorem BS{a:Ar->Prop}{g:g4}{b:cg}{R:jq}{A:Ar}(hc:a A)(I:bw->Prop):∀(items:List D) (τ:bw),I τ->(∀x∈items,∀τ,I τ->∀c:bw->Ar->Prop,(∀bU,I bU->c bU A)->g x τ A λd j=>b {R with nx:=c,ct:=c,bk:=R.nx} d j)->(∀τ,I τ->R.nx τ A)->lA a g b R items τ A
 |[],τ,e,_,h=>⟨hc,h τ e⟩
 |x::xs,τ,e,i,h=>⟨hc,i x (cB ..) τ e _ λbU f=>BS hc I xs bU f (λy k=>i y (b9 _ k)) h⟩
def jb:M->Str->List (Str×Str)
 |.wt n,w=>[(w,n)]
 |.aG _ _ a b,w=>jb a (w++"l")++jb b (w++"r")
theorem kg:∀(m:M) (w:Str),(jb m w).map (·.2)=m.names
 |.wt n,w=>rfl
 |.aG _ _ a b,w=>by
  show List.map _ (_++_)=a.names++b.names;rw[ff,kg a,kg b]
theorem yg(m:M)(w:Str):(jb m w).length=m.names.length:=by rw[<-kg m w,a_]
def f6(p:Str×Str):D:=.tup [.str p.1,.str p.2]
abbrev AD:Ct:=SV λds v=>∃r:Str×Int,ds=[aJ r]/\Nm r.1/\(1<=r.2/\r.2<=999999)/\v=.bl true
abbrev As:Ct:=SV λds v=>∃rs,ds=[bV rs]/\iY rs/\v=.bl true
abbrev wg:Ct:=SV λds v=>∃m rs,ds=[enc m,bV rs]/\iY rs/\m.deep<=5/\(∀n∈m.names,n∈rs.map (·.1))/\v=.aB
abbrev rT(d:Nat):Ct:=SL λds v=>∃m w,ds=[enc m,.str w]/\m.deep<d/\w.length+d<=100/\d<=8/\v=(jb m w).map f6
def rV(d:Nat):Ct:=λds A R _=>∃m r rs,ds=[enc m,.ref r]/\A[r]?=some (.dct (dJ rs))/\iY rs/\m.deep<=d/\(∀n∈m.names,n∈rs.map (·.1))/\∀A',Gr A A'->R (.int (ld (val rs) m)) A'
abbrev AK(d:Nat):Ct:=SV λds v=>∃m,ds=[enc m]/\m.deep<d/\v=.int m.deep
theorem x9(f:Str->Int):∀m:M,(m.names.map f).sum=ld f m
 |.wt n=>by simp[aP.names,ld]
 |.aG _ _ a b=>by
  show List.sum (List.map f (a.names++b.names))=ld f a+ld f b;rw[ff,List.sum_append,x9 f a,x9 f b]
theorem wW{k:Option Nat}{fr:bw}{te:aU}{a:Ar->Prop}{R:List D->Ar->Prop}(f:D->D):∀(items ys:List D) (A:Ar),(∀A',Gr A A'->a A')->(∀x∈items,∀A',Gr A A'->∃vs,u7 k x=some vs/\∀Q:DK,(∀b,Gr A' b->Q (f x) b)->te (vs.map some++fr) A' Q)->ys.length+items.length<=sizeLine->(∀A',Gr A A'->R (ys++items.map f) A')->lg a k fr u5 te R items ys A
 |[],ys,A,hc,_,_,h=>⟨hc A Gr.refl,by simpa using h A Gr.refl⟩
 |x::xs,ys,A,hc,c,d,h=>by
  obtain⟨vs,e,i⟩:=c x (cB ..) A Gr.refl;refine⟨hc A Gr.refl,?_⟩;rw[e];refine i _ λj g1=>⟨by simp at d;omega,wW f xs (ys++[f x]) j (λA' g=>hc A' (g1.trans g)) (λy l A' g=>c y (b9 _ l) A' (g1.trans g)) (by simp at d ⊢;omega) (λA' g=>by simpa using h A' (g1.trans g))⟩
theorem Nm.ok{n:Str}(h:Nm n):canLay0 (.str n)=true:=by
 have e:n.cps.all (λc=>decide (c<0x110000))=true:=by
  rw[<-Array.all_toList,mw];intro c hc;have:=h.az c hc;exact dj (by omega)
 simpa[canLay0,strOk] using e
theorem yF:∀ss:List Str,gz (ss.map D.str)=true
 |[]=>rfl
 |s::r=>by simp[gz,fH,yF r]
theorem yH:∀ss:List Str,bY (ss.map D.str)=ss.map PyData.str
 |[]=>rfl
 |s::r=>by simp[bY,toQ,yH r]
theorem x6:∀ss:List Str,(∀n∈ss,Nm n)->canLayAll0 (ss.map PyData.str)=true
 |[],_=>by simp[canLayAll0]
 |s::r,h=>by
  have h1:=(h s (cB ..)).ok;have h2:=x6 r λn hn=>h n (b9 _ hn);simp[canLayAll0,h1,h2]
theorem BN:∀ss:List Str,depthAll (ss.map PyData.str)=0
 |[]=>by simp[depthAll]
 |s::r=>by simp[depthAll,PyData.depth,BN r]
theorem B_:∀ss a:List Str,eqvAll (ss.map PyData.str) (a.map PyData.str)=decide (ss=a)
 |[],[]=>by simp[eqvAll]
 |[],_::_=>by simp[eqvAll]
 |_::_,[]=>by simp[eqvAll]
 |s::r,t::u=>by
  simp only[dg,eqvAll,PyData.eqv,B_ r u];by_cases h1:s=t
  .by_cases h2:r=u<;>simp[h1,h2]
  .simp[h1]
theorem B8{A:Ar}{r q:Nat}{ss a:List Str}{R:DK}(h1:A[r]?=some (.lst (ss.map D.str)))(h2:A[q]?=some (.lst (a.map D.str)))(n1:∀n∈ss,Nm n)(n2:∀n∈a,Nm n)(k:R (.bl (decide (ss=a))) A):eK false (.ref r) (.ref q) A R:=by
 have b:cE A (.ref r)=.list (ss.map PyData.str):=by unfold cE;simp only[h1,yH]
 have c:cE A (.ref q)=.list (a.map PyData.str):=by unfold cE;simp only[h2,yH]
 unfold eK;rw[b,c];refine⟨by unfold jc;simp only[h1,yF],by unfold jc;simp only[h2,yF],by simpa[canLay0] using x6 ss n1,by simpa[canLay0] using x6 a n2,by simp[PyData.depth,BN],?_⟩;rw[ai cC];show R (.bl (PyData.eqv (.list _) (.list _))) A;rw[show PyData.eqv (.list (ss.map PyData.str)) (.list (a.map PyData.str))=decide (ss=a) by simp only[PyData.eqv,B_]];exact k
theorem nD{A:Ar}{r:Nat}{kvs:List (Key×D)}{y v:D}{k:Key}{R:DK}(h:A[r]?=some (.dct kvs))(hk:iz y=some k)(a:ck kvs k=some v)(q:R v A):nC r y A R:=by
 unfold nC;simp only[h,hk,a];exact q
theorem xV{A:Ar}{r:Nat}{kvs:List (Key×D)}{y:D}{k:Key}{R:DK}{neg:Bool}(h:A[r]?=some (.dct kvs))(hk:iz y=some k)(q:R (.bl (if neg then !(ck kvs k).isSome else (ck kvs k).isSome)) A):inR neg y r A R:=by
 unfold inR;simp only[h,hk];exact q
def rd(a b:Int):Int×Int:=(a/(Int.gcd a b:Int),b/(Int.gcd a b:Int))
def arm(f:Str->Int)(a b:M):Int×Int:=rd (ld f b) (ld f a)
def mx(p:Int×Int):Int:=max p.1 p.2
abbrev wh:Ct:=SV λds v=>∃a b:Int,ds=[.int a,.int b]/\0<=a/\0<=b/\v=.int (Int.gcd a b:Int)
abbrev rX:Ct:=SV λds v=>∃a b:Int,ds=[.int a,.int b]/\0<a/\0<b/\a<2 ^ 2000/\v=.tup [.int (rd a b).1,.int (rd a b).2]
structure Bk(rs:List (Str×Int))(m:M):Prop where
 ok:iY rs
 nm:∀n∈m.names,n∈rs.map (·.1)
theorem Bk.left{rs:List (Str×Int)}{l r:Int}{a b:M}(h:Bk rs (.aG l r a b)):Bk rs a:=⟨h.ok,λn hn=>h.nm n (by simp[aP.names,hn])⟩
theorem Bk.right{rs:List (Str×Int)}{l r:Int}{a b:M}(h:Bk rs (.aG l r a b)):Bk rs b:=⟨h.ok,λn hn=>h.nm n (by simp[aP.names,hn])⟩
theorem lH{rs:List (Str×Int)}:∀{m:M},Bk rs m->1<=ld (val rs) m/\ld (val rs) m<=999999*m.names.length
 |.wt n,h=>by
  have:=zB h.ok (h.nm n (by simp[aP.names]));simp[ld,aP.names];omega
 |.aG l r a b,h=>by
  have h1:=lH h.left;have h2:=lH h.right;simp only[ld,aP.names,cA];omega
theorem x8{rs:List (Str×Int)}{m:M}(h:Bk rs m)(hd:m.deep<=6):ld (val rs) m<2 ^ 40:=by
 have h1:=lH h;have n1:=aP.ki m;have p1:2 ^ m.deep<=2 ^ 6:=fj (by decide) hd;omega
theorem Qs{a b:Int}(d:0<a)(e:0<b):1<=(rd a b).1/\1<=(rd a b).2:=by
 have c:0<(Int.gcd a b:Int):=by
  have:=rD b (show a≠0 by omega);omega
 have f:(Int.gcd a b:Int)∣a:=kZ ..;have g:(Int.gcd a b:Int)∣b:=mF ..;unfold rd;constructor
 .obtain⟨k,hk⟩:=f
  show 1<=a/_;rw[zL c];have:=l0 d (kZ a b);omega
 .show 1<=b/_
  rw[zL c];have:=l0 e (mF a b);omega
def AL:Ct:=λds A R _=>∃a b r rs,ds=[enc a,enc b,.ref r]/\A[r]?=some (.dct (dJ rs))/\Bk rs a/\Bk rs b/\a.deep<=6/\b.deep<=6/\∀A',Gr A A'->R (.tup [.int (arm (val rs) a b).1,.int (arm (val rs) a b).2]) A'
def AN:Ct:=λds A R RE=>∃a b r rs,ds=[enc a,enc b,.ref r]/\A[r]?=some (.dct (dJ rs))/\Bk rs a/\Bk rs b/\a.deep<=6/\b.deep<=6/\∀A',Gr A A'->if mx (arm (val rs) a b)<=9 then R (enc (.aG (arm (val rs) a b).1 (arm (val rs) a b).2 a b)) A' else RE "TooLong" A'
theorem Nr{x y:Int}{A:Ar}{R:DK}(k:R (.int (max x y)) A):kh [.int x,.int y] A R:=by
 unfold kh;refine⟨by simp,λm b a=>?_⟩;have e:m=max x y:=by
  have h1:=a x (by simp);have h2:=a y (by simp);have:m=x\/m=y:=by simpa using b
  omega
 rw[e];exact k
theorem Gr.len{A B:Ar}(a:Gr A B):A.length<=B.length:=by
 obtain⟨T,rfl⟩:=a;simp
theorem C2{z:Str}{i:Int}{c:Nat}{A:Ar}{R:DK}(h:cJ z.cps.toList i=some c)(hz:z.length<=sizeLine)(k:R (.str ⟨#[c]⟩) A):lE (.str z) (.int i) A R:=by
 show(match cJ z.cps.toList i with|some c=>z.length<=sizeLine/\R (.str ⟨#[c]⟩) A|none=>False);rw[h];exact⟨hz,k⟩
end DP
namespace DP
open L2
def aZ(K:Frag)(mg:au)(cv:Value)(h_:Str->Option Bool):Prop:=∀c C b,h_ c=some b->mg c=some (.ref C)->k7 K C/\kitOne K (.ref C) cv=some b
def w4(h_:Str->Option Bool)(m:aU):aU:=λτ A R=>m τ A λv A1=>match v with
 |.exc c=>(match h_ c with
  |some b=>R (.bl b) A1
  |none=>False)
 |_=>False
section
variable{X:Cx}{N:En}{e:Expr}{m:aU}{p p2 pos:Pos}{x:Str}{h_:Str->Option Bool}
theorem Gp{y:V}{e:Value}(f:∀u,RelV y u->u=e)(hk:aZ X.K X.mg e h_){σ:L2.St}{H:Hp}{Q:VK}(q:up X.mg N (w4 h_ m) σ H Q):up X.mg N m σ H (λv H'=>∃(a:Addr) (z:V) (C:Addr) (c:Value) (b:Bool),[v,y]=[.ref a,z]/\(∀u,RelV z u->u=c)/\H' a=some (m_ a C)/\k7 X.K C/\kitOne X.K (.ref C) c=some b/\Q (.bl b) H'):=by
 obtain⟨A,ι,τ,R,S,q,k⟩:=q;refine⟨A,ι,τ,_,S,q,λv g h H1 u d i j l=>?_⟩;cases v with
 |exc c=>
  obtain⟨a,C,rfl,hc,n⟩:=l;have d:(match h_ c with|some b=>R (.bl b) g|none=>False):=d;split at d
  .rename_i b o
   obtain⟨p,r⟩:=hk c C b o hc;exact⟨a,y,C,e,b,rfl,f,n,p,r,(k.from i).here j d rfl⟩
  .exact d.elim
 |_=>exact d.elim
theorem j0{D:Addr}(d:X.mg "isinstance"=none)(f:X.mg x=some (.ref D))(hk:aZ X.K X.mg (.ref D) h_)(g:PE X e (up X.mg N m))(h:Gl X "isinstance":=by rfl)(a:Gl X x:=by rfl)(b:(x==("__debug__":Str))=false:=by decide)
  (c:starEach [e,.Name x p2] X.env=[(false,eval e X.env),(false,eval (.Name x p2) X.env)]:=by rfl):
  PE X (.Call (.Name "isinstance" p) [e,.Name x p2] [] pos) (up X.mg N (w4 h_ m)):=by
 have i:PE X (.Name x p2) (tC (.ref D)):=D7 a f rfl b;exact cX (uI Bg h d boot_isinstance (lU g (lU i uH rfl) (by rw[c];rfl)) (by decide) (by decide) (by rw[c];rfl) rfl) λσ H Q q=>Gp (y:=.ref D) (λ_ r=>r) hk q
theorem Jr{c:String}(h:X.mg "isinstance"=none)(a:X.mg x=none)(b:bootBuiltins x=some (.type c))(hk:aZ X.K X.mg (.type c) h_)(i:PE X e (up X.mg N m))(j:Gl X "isinstance":=by rfl)(d:Gl X x:=by rfl)(hn:x≠"__name__":=by decide)(f:(x==("__debug__":Str))=false:=by decide)
  (g:starEach [e,.Name x p2] X.env=[(false,eval e X.env),(false,eval (.Name x p2) X.env)]:=by rfl):
  PE X (.Call (.Name "isinstance" p) [e,.Name x p2] [] pos) (up X.mg N (w4 h_ m)):=by
 have k:PE X (.Name x p2) (tC (.ty c)):=D6 d a b rfl hn f;exact cX (uI Bg j h boot_isinstance (lU i (lU k uH rfl) (by rw[g];rfl)) (by decide) (by decide) (by rw[g];rfl) rfl) λσ H Q q=>Gp (y:=.ty c) (λ_ r=>r) hk q
end
section
variable{X:Cx}{N:En}{k n:Nat}{x:Str}{ps:List Str}{S:Ct}{e:Expr}{es:List Expr}{m:cV}{p pos:Pos}
theorem Jm(F:mO X.prog X.w X.K X.mg X.base k x ps (av X.mg n S))(g:ju k X.A)(h:PA X (e::es) (eS X.mg N m))(i:Gl X x:=by rfl)(a:(x==("__debug__":Str))=false:=by decide)
  (j:starEach (e::es) X.env=(false,eval e X.env)::starEach es X.env:=by rfl)(b:(backTo pos (starEach es X.env)).any (·.1)=false:=by rfl):
  PE X (.Call (.Name x p) (e::es) [] pos) (up X.mg N (pP n S (λ_ _=>False) m)):=cX (OS F g h i a j b) λσ H Q q=>by
 obtain⟨A,ι,τ,R,Z,q,k⟩:=q;refine⟨A,ι,τ,_,Z,q,λvs l d H1 o f r s t=>?_⟩;show av X.mg n S (o++[]) H1 Q E0;rw[iN];exact⟨l,d,vs,R,_,f.1,s,t,f.2,k.from r,λc y u H2 C v hc z B=>v.elim⟩
end
theorem Lh{P:Program}{w:World}{K:Frag}{mg:au}{base:Heap}{x:Str}{st:Stmt}{Nm ps:List Str}{k n:Nat}{S:Ct}(T:TopD K mg x st ps)(Sc:bf Nm ps (aE st))(hn:ps.length=n)(C:ps.length<=Nm.length)
  (b:∀(N:En) (f:Addr) (a:Value) (B:Around) (outer:List Env) (s:Shared) (H:Hp) (E:XK),ju k (B.deeper (envOfC x (aE st) s.heap.objs.size f a))->
   ∀ds A R RE,S ds A R RE->ds.length=n->∃m,cj ((bM mH P w K mg base Nm x (aE st) f a {B with handled:=Option.none} outer s H E).loud (B.deeper (envOfC x (aE st) s.heap.objs.size f a))) (fC st) (bZ mg N m)/\m {nx:=λ_ A'=>R .aB A',rt:=R} (iC (Nm.length - n) ds) A):mO P w K mg base (k+1) x ps (av mg n S):=by
 refine T.Lg Sc (λvs H Q E h=>?_) λf a A outer s H vs Q E p h=>?_
 .obtain⟨A,ι,ds,R,RE,j,_,g,_⟩:=h
  rw[<-ao.length g,j,hn]
 .obtain⟨l,c,ds,R,RE,j,ra,g,t,o,D⟩:=h
  obtain⟨m,u,y⟩:=b ⟨l,c,H⟩ f a A outer s H E p ds l R RE t j;have z:=ao.length g;refine⟨_,u,l,c,_,_,⟨ra,⟨?_,λi d q=>?_⟩,ra.refl⟩,y,⟨λτ A' ι' σ H' q e r _=>o _ A' ι' H' _ q e r rfl,o,λ_ _ _ _ _ q _ _ _=>q.elim,λ_ _ _ _ _ q _ _ _=>q.elim⟩⟩
  .simp[iC,L2.start]
   omega
  .obtain⟨v,h1,h2⟩:=ao.get g (tO ds _ i d q)
   refine⟨v,?_,h2⟩;have hi:=(bL.mp h1).1;unfold L2.start;rw[gU (by simpa using hi),cy,h1];rfl
@[irreducible] def sy(r:Nat)(b:Bool)(A:Ar)(R:DK):Prop:=match A[r]? with
 |some (.lst xs)=>(match fP xs with
  |some bs=>R (.int (bs.countP (·==b):Nat)) A
  |none=>False)
 |_=>False
def Bo:k6:=λx vs A R=>match x,vs with
 |.ref r,[.bl b]=>sy r b A R
 |_,_=>False
theorem IY{mg:au}{K:Frag}:o6 mg K "list" Ej Bo:=by
 intro x ds A ι H u d R Q ra a rs h k;unfold Bo at h;split at h
 .obtain⟨_,rfl⟩:=a
  obtain⟨v,_,rfl,rfl,rfl⟩:=rs;unfold sy at h;split at h
  .rename_i xs e
   obtain⟨ws,h1,b⟩:=ra.lst e;split at h
   .rename_i bs c
    cases sf c b;exact⟨_,bs,_,rfl,rfl,h1,k.here ra h rfl⟩
   .exact h.elim
  .exact h.elim
 .exact h.elim
@[irreducible] def s9(r:Nat)(b:Bool)(A:Ar)(R:DK):Prop:=match A[r]? with
 |some (.lst xs)=>(match fP xs with
  |some bs=>∃j:Nat,bs[j]?=some b/\(∀m c,m<j->bs[m]?=some c->c≠b)/\R (.int (j:Nat)) A
  |none=>False)
 |_=>False
def CU:k6:=λx vs A R=>match x,vs with
 |.ref r,[.bl b]=>s9 r b A R
 |_,_=>False
theorem I9{mg:au}{K:Frag}:o6 mg K "list" Eo CU:=by
 intro x ds A ι H u i R Q ra a rs h k;unfold CU at h;split at h
 .obtain⟨_,rfl⟩:=a
  obtain⟨v,_,rfl,rfl,rfl⟩:=rs;unfold s9 at h;split at h
  .rename_i xs e
   obtain⟨ws,h1,b⟩:=ra.lst e;split at h
   .rename_i bs c
    cases sf c b;obtain⟨j,d,f,g⟩:=h;exact⟨_,bs,_,j,rfl,rfl,h1,d,f,k.here ra g rfl⟩
   .exact h.elim
  .exact h.elim
 .exact h.elim
theorem wY{A:Ar}{r:Nat}{xs:List D}{bs:List Bool}{b:Bool}{R:DK}(h:A[r]?=some (.lst xs))(a:fP xs=some bs)(k:R (.int (bs.countP (·==b):Nat)) A):sy r b A R:=by
 unfold sy;simp only[h,a];exact k
theorem xT{A:Ar}{r:Nat}{xs:List D}{bs:List Bool}{b:Bool}{R:DK}(j:Nat)(h:A[r]?=some (.lst xs))(a:fP xs=some bs)(h1:bs[j]?=some b)(h2:∀m c,m<j->bs[m]?=some c->c≠b)(k:R (.int (j:Nat)) A):s9 r b A R:=by
 unfold s9;simp only[h,a];exact⟨j,h1,h2,k⟩
theorem Gr.set{A B:Ar}{r:Nat}{c:C}(g:Gr A B)(h:A.length<=r):Gr A (B.set r c):=by
 obtain⟨T,rfl⟩:=g;exact⟨T.set (r - A.length) c,by rw[zR _ _ h]⟩
open MA
theorem Wf.left{l r:Int}{a b:M}(h:Wf (.aG l r a b)):Wf a:=⟨h.arms.2.2.2.2.1,λn hn=>h.nm n (by simp[aP.names,hn])⟩
theorem Wf.right{l r:Int}{a b:M}(h:Wf (.aG l r a b)):Wf b:=⟨h.arms.2.2.2.2.2,λn hn=>h.nm n (by simp[aP.names,hn])⟩
theorem ao.of_get{mg:au}{ι:Io}{H:Hp}{n:Nat}:∀{ds:List D} {vs:List V},ds.length=vs.length->(∀(i:Nat) d v,ds[i]?=some d->vs[i]?=some v->RV mg ι n H d v)->ao mg ι n H ds vs
 |[],[],_,_=>rfl
 |[],_::_,h,_=>by cases h
 |_::_,[],h,_=>by cases h
 |d::ds,v::vs,h,k=>⟨v,vs,rfl,k 0 d v rfl rfl,ao.of_get (by simpa using h) λi d v h1 h2=>k (i+1) d v (by simpa using h1) (by simpa using h2)⟩
theorem RA.J'{mg:au}{A:Ar}{ι:Io}{H H':Hp}(R:RA mg ι H A)(g:jv H H'):Ext A ι H A ι H':=⟨aH _,λ_ _=>rfl,R.im,λb u h _=>g b u h,λr h1 h2=>absurd h2 (by omega),λb u h=>⟨u,g b u h⟩⟩
@[irreducible] def qT(a b:Nat)(A:Ar)(R:DK):Prop:=match A[a]?,A[b]? with
 |some (.lst xs),some (.lst ys)=>R (.tup ((xs.zip ys).map λp=>.tup [p.1,p.2])) A
 |_,_=>False
def IW(n:cV):aU:=λτ A R=>n τ A λvs A1=>match vs with
 |[.ref a,.ref b]=>qT a b A1 R
 |_=>False
theorem Ju{X:Cx}{N:En}{a b:Expr}{n:cV}{p1 p2 pos1 pos2:Pos}(r:X.mg "tuple"=none)(s:X.mg "zip"=none)(hc:X.calm=true)(L:PA X [a,b] (eS X.mg N n))(u:Gl X "tuple":=by rfl)(v:Gl X "zip":=by rfl)
  (M:starEach [a,b] X.env=[(false,eval a X.env),(false,eval b X.env)]:=by rfl)(w:starEach [b] X.env=[(false,eval b X.env)]:=by rfl)
  (hz:starEach [.Call (.Name "zip" p2) [a,b] [] pos2] X.env=[(false,eval (.Call (.Name "zip" p2) [a,b] [] pos2) X.env)]:=by rfl):
  PE X (.Call (.Name "tuple" p1) [.Call (.Name "zip" p2) [a,b] [] pos2] [] pos1) (up X.mg N (IW n)):=
 cX (Pa u r mD v s (by decide+kernel) hc L M w hz) λσ H Q q=>by
  obtain⟨A,ι,τ,R,S,q,k⟩:=q
  refine⟨A,ι,τ,_,S,q,λvs I z H1 Z e O m o=> ?_⟩
  match vs,e,o with
  |[.ref x,.ref y],e,o=>
   obtain⟨_,_,rfl,⟨_,rfl⟩,_,_,rfl,⟨_,rfl⟩,rfl⟩:=o
   have e:qT x y I R:=e
   unfold qT at e
   split at e
   .rename_i ds es P T
    obtain⟨xs,h1,g1⟩:=m.lst P
    obtain⟨ys,h2,g2⟩:=m.lst T
    refine⟨_,_,xs,ys,rfl,aW.of h1,aW.of h2,λl H' ps J hl U f g=> ?_⟩
    have E:=m.J' J
    refine k _ I z H' _ e (O.trans E) (m.fix E J) ⟨l,ps,rfl,U,ao.of_get ?_ λi d p hd B=> ?_⟩
    .rw[f,a_,List.length_zip,ao.length g1,ao.length g2]
    .obtain⟨t,K,C,rfl,V,W,Y⟩:=g i p B
     rw[cy] at hd
     cases c:(ds.zip es)[i]? with
     |none=>rw[c] at hd;cases hd
     |some pr=>
      rw[c] at hd
      cases hd
      have D:ds[i]? =some pr.1:=by
       rw[vM] at c
       exact c.1
      have hd2:es[i]? =some pr.2:=by
       rw[vM] at c
       exact c.2
      obtain⟨o,h,F⟩:=ao.get g1 D
      obtain⟨v2,j,G⟩:=ao.get g2 hd2
      rw[V] at h
      rw[W] at j
      cases h
      cases j
      exact⟨t,[K,C],rfl,Y,K,[C],rfl,RV.ext E _ _ F,C,[],rfl,RV.ext E _ _ G,rfl⟩
   .exact e.elim
@[irreducible] def uT(r:Nat)(A:Ar)(R:DK):Prop:=match A[r]? with
 |some (.dct kvs)=>∃ns:List Str,kvs.map (·.1)=ns.map Sum.inr/\ns.Nodup/\ns.length<64/\∀ys:List Str,ys.Pairwise strLt->(∀x,x∈ys↔x∈ns)->R (.ref A.length) (A++[.lst (ys.map D.str)])
 |_=>False
def FU:fK:=λvs A R=>match vs with
 |[.ref r]=>uT r A R
 |_=>False
theorem RK.keys{mg:au}{ι:Io}{H:Hp}{n:Nat}:∀{ds:List (Key×D)} {vs:List (Key×V)},RK mg ι n H ds vs->vs.map (·.1)=ds.map (·.1)
 |[],vs,h=>by have h':vs=[]:=h;rw[h'];rfl
 |d::ds,vs,h=>by
  obtain⟨x,r,rfl,_,a⟩:=h;simp[RK.keys a]
theorem Jg{mg:au}:gj mg (λxs H Q=>∃(d:Addr) (kvs:List (Key×V)) (ns:List Str),xs=[.ref d]/\H d=some (.dK kvs)/\kvs.map (·.1)=ns.map Sum.inr/\ns.Nodup/\ns.length<64/\
  ∀(l:Addr) (ys:List Str),H l=none->ys.Pairwise strLt->(∀x,x∈ys↔x∈ns)->Q (.ref l) (upd H l (.lst (ys.map V.str)))) FU:=by
 intro ds A ι H j R Q ra rs h k;unfold FU at h;split at h
 .obtain⟨_,_,rfl,⟨_,rfl⟩,rfl⟩:=rs
  unfold uT at h;split at h
  .rename_i kvs e
   obtain⟨ns,h1,h2,h3,a⟩:=h;obtain⟨xs,b,c⟩:=ra.dct e;exact⟨_,xs,ns,rfl,b,by rw[RK.keys c,h1],h2,h3,λl ys f g i=>jH k ra (ao.strs ys) (a ys g i) f⟩
  .exact h.elim
 .exact h.elim
theorem Rr{A:Ar}{r:Nat}{kvs:List (Key×D)}{ns:List Str}{R:DK}(h:A[r]?=some (.dct kvs))(hk:kvs.map (·.1)=ns.map Sum.inr)(hn:ns.Nodup)(a:ns.length<64)(k:∀ys:List Str,ys.Pairwise strLt->(∀x,x∈ys↔x∈ns)->R (.ref A.length) (A++[.lst (ys.map D.str)])):uT r A R:=by
 unfold uT;simp only[h];exact⟨ns,hk,hn,a,k⟩
theorem Tn{A:Ar}{a b:Nat}{xs ys:List D}{R:DK}(h1:A[a]?=some (.lst xs))(h2:A[b]?=some (.lst ys))(k:R (.tup ((xs.zip ys).map λp=>.tup [p.1,p.2])) A):qT a b A R:=by
 unfold qT;simp only[h1,h2];exact k
open MA
def hr2(w:Str)(x y:Int):List (Str×Str):=if y<x then [(w,"left")] else if x<y then [(w,"right")] else []
def cF(f:Str->Int):M->Str->List (Str×Str)
 |.wt _,_=>[]
 |.aG l r a b,w=>hr2 w (l*ld f a) (r*ld f b)++cF f a (w++"l")++cF f b (w++"r")
theorem CN(w:Str)(x y:Int):(hr2 w x y).length<=1:=by
 unfold hr2;split
 .simp
 .split<;>simp
theorem uZ(f:Str->Int):∀(m:M) (w:Str),(cF f m w).length+1<=2 ^ m.deep
 |.wt _,_=>by simp[cF,aP.deep]
 |.aG l r a b,w=>by
  show(hr2 w (l*ld f a) (r*ld f b)++cF f a (w++"l")++cF f b (w++"r")).length+1<=2 ^ (max a.deep b.deep+1);rw[cA,cA,pow_succ];have h1:=CN w (l*ld f a) (r*ld f b);have h2:=uZ f a (w++"l");have h3:=uZ f b (w++"r");have c:2 ^ a.deep<=2 ^ max a.deep b.deep:=fj (by decide) (qY _ _);have d:2 ^ b.deep<=2 ^ max a.deep b.deep:=fj (by decide) (qZ _ _);omega
def bS:M->Str->Rat->List (Str×Str×Rat)
 |.wt n,w,x=>[(w,n,x)]
 |.aG l r a b,w,x=>bS a (w++("l":Str)) (x*((r:Rat)/((l+r:Int):Rat)))++bS b (w++("r":Str)) (x*((l:Rat)/((l+r:Int):Rat)))
theorem qH:∀(m:M) (w:Str) (x:Rat),(bS m w x).length=m.names.length
 |.wt _,_,_=>rfl
 |.aG _ _ a b,w,x=>by
  show List.length (_++_)=List.length (_++_);rw[cA,cA,qH a,qH b]
theorem kj{m:M}(h:m.deep<=5):m.names.length<=32:=
 cY (aP.ki m) (fj (by decide) h:2 ^ m.deep<=2 ^ 5)
theorem qx{j k:Nat}(h:j<=k):(18:Int) ^ j<=18 ^ k:=by
 have:(18:Nat) ^ j<=18 ^ k:=fj (by decide) h;exact_mod_cast this
theorem yC(k:Nat):(1:Int)<=18 ^ k:=by
 have:1<=(18:Nat) ^ k:=Nat.one_le_pow _ _ (by decide);exact_mod_cast this
theorem BL{D a:Int}{j k:Nat}(h:D*18 ^ (max j k+1)<=1000000000)(hd:a<=D*18)(c:0<D):a*18 ^ j<=1000000000/\a*18 ^ k<=1000000000/\D<=1000000000:=by
 have e:D*18 ^ (max j k+1)=D*18*18 ^ max j k:=by rw[rE,kI (18 ^ max j k) 18,<-kH]
 rw[e] at h;have p1:=qx (qY j k);have p2:=qx (qZ j k);have b:=yC (max j k);have d:=yC j;have f:=yC k;refine⟨d9 (iG hd p1 (by omega) (by omega)) h,d9 (iG hd p2 (by omega) (by omega)) h,?_⟩;have:D*1<=D*18*18 ^ max j k:=iG (by omega) b (by omega) (by omega);omega
theorem M_{n:Nat}(h:n<2 ^ 2000):n.log2<9000:=by
 by_cases h0:n=0
 .rw[h0];decide+kernel
 .exact(log2_lt h0).mpr (b8 h (fj (by decide) (by decide)))
theorem Bf:∀(xs:List Rat) (x:Rat) (b:Int),bot (xs++[x]) b=bot xs b*(rf x).2/(Int.gcd (bot xs b) (rf x).2:Int)
 |[],x,b=>rfl
 |y::r,x,b=>by
  show bot (r++[x]) _=_;rw[Bf r x];rfl
theorem Cz:∀(ns:List Int) (n d:Int),c_ (ns++[n]) d=(Int.gcd (c_ ns d) n:Int)
 |[],n,d=>rfl
 |m::r,n,d=>by
  show c_ (r++[n]) _=_;rw[Cz r n];rfl
structure vW(x:Rat):Prop where
 pos:0<x
 num:(rf x).1<=2000000
 den:(rf x).2<=2000000
theorem Py{c a b:Nat}(hc:0<c)(h:a<=b):(c:Int) ^ a<=(c:Int) ^ b:=by
 rw[<-Int.natCast_pow,<-Int.natCast_pow];exact Int.ofNat_le.mpr (fj hc h)
theorem NQ{n:Int}{c k:Nat}(h0:0<n)(h:n<=(c:Int) ^ k):n.natAbs<=c ^ k:=by
 have:(n.natAbs:Int)<=(c:Int) ^ k:=by omega
 rw[<-Int.natCast_pow] at this;exact Int.ofNat_le.mp this
def Cons{W N S:Type}(l:List (W×N×S)):Prop:=∀a∈l,∀b∈l,a.2.1=b.2.1->a.2.2=b.2.2
theorem found{W N S:Type}[DecidableEq N]{l:List (W×N×S)}{n:N}{p:W×N×S}(h:l.find? (λp=>decide (p.2.1=n))=some p):p.2.1=n:=by
 have:=List.find?_some h;simpa using this
theorem wH{W N S:Type}[DecidableEq N][DecidableEq S]:∀(r pre:List (W×N×S)),cW pre r=none->Cons pre->Cons (pre++r)
 |[],pre,_,h=>by rw[iN];exact h
 |(g,n,s)::r,pre,l,h=>by
  have e:pre++(g,n,s)::r=(pre++[(g,n,s)])++r:=by simp
  rw[e];cases j:pre.find? (λp=>decide (p.2.1=n)) with
  |none=>
   have i:cW (pre++[(g,n,s)]) r=none:=by
    have:=l;unfold cW at this;rw[j] at this;exact this
   refine wH r _ i λa ha b hbm d=>?_;have no:∀c∈pre,c.2.1≠n:=λc hc z=>by
    have:=List.find?_eq_none.mp j c hc;exact this (dj z)
   rcases br.mp ha with ha|ha<;>rcases br.mp hbm with hbm|hbm
   .exact h a ha b hbm d
   .rw[bK.mp hbm] at d
    exact absurd d (no a ha)
   .rw[bK.mp ha] at d
    exact absurd d.symm (no b hbm)
   .rw[bK.mp ha,bK.mp hbm]
  |some p=>
   have f:=l;unfold cW at f;rw[j] at f;by_cases es:p.2.2=s
   .have i:cW (pre++[(g,n,s)]) r=none:=by
     have:(if p.2.2=s then cW (pre++[(g,n,s)]) r else some (p.1,g))=none:=f;rwa [aj es] at this
    have m:=vO j;have k:p.2.1=n:=found j;refine wH r _ i λa ha b hbm d=>?_;have to:∀c∈pre,c.2.1=n->c.2.2=s:=λc hc z=>by rw[h c hc p m (by rw[z,k]),es]
    rcases br.mp ha with ha|ha<;>rcases br.mp hbm with hbm|hbm
    .exact h a ha b hbm d
    .rw[bK.mp hbm] at d ⊢
     exact to a ha d
    .rw[bK.mp ha] at d ⊢
     exact(to b hbm d.symm).symm
    .rw[bK.mp ha,bK.mp hbm]
   .have:(if p.2.2=s then cW (pre++[(g,n,s)]) r else some (p.1,g))=none:=f
    rw[ai es] at this;cases this
theorem Bq{W N S:Type}[DecidableEq N][DecidableEq S]:∀(r pre:List (W×N×S)),Cons (pre++r)->cW pre r=none
 |[],pre,_=>by unfold cW;rfl
 |(a,n,s)::r,pre,h=>by
  have e:pre++(a,n,s)::r=(pre++[(a,n,s)])++r:=by simp
  have c:=Bq r (pre++[(a,n,s)]) (by rw[<-e];exact h);unfold cW;cases d:pre.find? (λp=>decide (p.2.1=n)) with
  |none=>exact c
  |some p=>
   have f:=vO d;have b:p.2.1=n:=found d;have es:p.2.2=s:=h p (jP _ f) (a,n,s) (by simp) b;show(if p.2.2=s then _ else _)=none;rw[aj es];exact c
theorem qI:∀(m:M) (w:Str) (x:Rat),(bS m w x).map (·.2.1)=m.names
 |.wt _,_,_=>rfl
 |.aG _ _ a b,w,x=>by
  show((bS a _ _++bS b _ _).map (·.2.1))=a.names++b.names;rw[ff,qI a,qI b]
theorem yX:∀(m:M) (w:Str) (x:Rat),(bS m w x).map (·.2.2)=m.sh x
 |.wt _,_,_=>rfl
 |.aG _ _ a b,w,x=>by
  show((bS a _ _++bS b _ _).map (·.2.2))=a.sh _++b.sh _;rw[ff,yX a,yX b]
noncomputable def shr(m:M):Str->Rat:=λx=>match (bS m "" 1).find? (λp=>decide (p.2.1=x)) with|some p=>p.2.2|none=>0
theorem qL{m:M}(h:cW [] (bS m "" 1)=none):(∀a∈bS m "" 1,a.2.2=shr m a.2.1)/\m.names.map (shr m)=m.sh 1:=by
 have hc:=wH (bS m "" 1) [] h (by intro a b;simp at b);rw[fh] at hc;have key:∀a∈bS m "" 1,a.2.2=shr m a.2.1:=λa b=>by
  show _=(match (bS m "" 1).find? (λp=>decide (p.2.1=a.2.1)) with|some p=>p.2.2|none=>0);cases c:(bS m "" 1).find? (λp=>decide (p.2.1=a.2.1)) with
  |none=>exact absurd (dj rfl) (List.find?_eq_none.mp c a b)
  |some p=>exact(hc p (vO c) a b (found c)).symm
 refine⟨key,?_⟩;rw[<-qI m "" 1,<-yX m "" 1,b_];exact oq λa b=>(key a b).symm
theorem num_mul{t:Rat}{a b:Int}(c:0<b)(d:0<=(rf t).1*a):(rf (t*((a:Rat)/(b:Rat)))).1<=(rf t).1*a:=by
 rw[<-EF,<-yN (jQ (gA t) c)];exact ediv_le_self _ d
theorem y9:∀(m:M) (x:Rat) (B:Int),m.arms->0<x->(rf x).1<=B->∀s∈m.sh x,(rf s).1<=B*18 ^ m.deep
 |.wt _,x,B,_,h1,h2,s,hs=>by
  have:s=x:=by simpa[aP.sh] using hs
  subst this;simpa[aP.deep] using h2
 |.aG l r a b,x,B,h,h1,h2,s,hs=>by
  obtain⟨g1,g2,g3,i,c,d⟩:=h;have e:0<B:=Int.lt_of_lt_of_le (nK h1) h2;have np:=nK h1;have f:(rf (x*((r:Rat)/((l+r:Int):Rat)))).1<=B*18:=by
   refine d9 (num_mul (by omega) (mul_nonneg (by omega) (by omega))) ?_;exact iG h2 (by omega) (by omega) (by omega)
  have g:(rf (x*((l:Rat)/((l+r:Int):Rat)))).1<=B*18:=by
   refine d9 (num_mul (by omega) (mul_nonneg (by omega) (by omega))) ?_;exact iG h2 (by omega) (by omega) (by omega)
  have p1:0<x*((r:Rat)/((l+r:Int):Rat)):=aP.step_pos g1 g3 h1;have p2:0<x*((l:Rat)/((l+r:Int):Rat)):=by
   have:=aP.step_pos (l:=r) (r:=l) g3 g1 h1;rwa [add_comm r l] at this
  have up:∀k:Nat,k<=max a.deep b.deep->B*18*18 ^ k<=B*18 ^ (max a.deep b.deep+1):=λk hk=>by
   rw[rE,kH,kI 18 (18 ^ k)];refine oH ?_ (iK e);exact zN (qx hk) (by decide)
  rcases br.mp (show s∈a.sh _++b.sh _ from hs) with hs|hs
  .exact d9 (y9 a _ _ c p1 f s hs) (up _ (qY _ _))
  .exact d9 (y9 b _ _ d p2 g s hs) (up _ (qZ _ _))
theorem Ry{m:M}(a:m.arms)(f:m.deep<=5):∀s∈m.sh 1,0<s/\(rf s).1<=1889568/\(rf s).2<=1889568:=λs b=>by
 obtain⟨g,c⟩:=aP.yY m 1 1 a (by decide) (by decide) s b;have d:=y9 m 1 1 a (by decide) (by decide) s b;have p:=qx f;have e:(18:Int) ^ 5=1889568:=by decide
 rw[e] at p;rw[one_mul] at c d;exact⟨g,d9 d p,d9 c p⟩
theorem FY{m:M}(a:m.arms)(b:m.deep<=5)(h:cW [] (bS m "" 1)=none){x:Str}(c:x∈m.names):vW (shr m x):=by
 have:shr m x∈m.sh 1:=by
  rw[<-(qL h).2];exact aS.mpr ⟨x,c,rfl⟩
 obtain⟨h1,h2,h3⟩:=Ry a b _ this;exact⟨h1,by omega,by omega⟩
theorem tK(f:Str->Int):∀m:M,((ld f m:Int):Rat)=m.bT (λx=>(f x:Rat))
 |.wt n=>rfl
 |.aG _ _ a b=>by
  show((ld f a+ld f b:Int):Rat)=_;rw[vP,tK f a,tK f b];rfl
theorem LQ{w:Str}{x y:Int}:hr2 w x y=[]↔x=y:=by
 unfold hr2;constructor
 .intro h
  by_cases h1:y<x
  .rw[aj h1] at h;cases h
  .rw[ai h1] at h
   by_cases h2:x<y
   .rw[aj h2] at h;cases h
   .omega
 .rintro rfl
  rw[ai (Int.lt_irrefl _),ai (Int.lt_irrefl _)]
theorem lW(f:Str->Int):∀(m:M) (w:Str),cF f m w=[]↔m.gQ (λx=>(f x:Rat))
 |.wt n,w=>by simp[cF,aP.gQ]
 |.aG l r a b,w=>by
  show(hr2 w (l*ld f a) (r*ld f b)++cF f a _++cF f b _=[])↔((l:Rat)*a.bT _=(r:Rat)*b.bT _/\a.gQ _/\b.gQ _);rw[zO,zO,LQ,lW f a,lW f b,<-tK,<-tK,<-gf,<-gf,and_assoc];constructor
  .rintro ⟨h1,h2⟩
   exact⟨by rw[h1],h2⟩
  .rintro ⟨h1,h2⟩
   exact⟨by exact_mod_cast h1,h2⟩
theorem Gg{f:Str->Int}{s:Str->Rat}{m:M}(a:m.arms)(b:m.names.map s=m.sh 1):cF f m ""=[]↔∃c:Rat,∀x∈m.names,(f x:Rat)=c*s x:=by
 rw[lW];exact aP.R9 a b
theorem Pz{ns:List Str}{B D:Str->Int}{f:Str}(j:f∈ns)(l:∀x∈ns,1<=B x)(m:∀k:Int,(∀x∈ns,k∣B x)->k∣1)(h:∀x∈ns,D x*B f=B x*D f):B f∣D f:=by
 have t:=l f j;have v:0<(Int.gcd (B f) (D f):Int):=by
  have:0<Int.gcd (B f) (D f):=rD _ (by omega);omega
 obtain⟨a,c⟩:=kZ (B f) (D f);obtain⟨d',d⟩:=mF (B f) (D f);have i:Int.gcd a d'=1:=by
  have e:Int.gcd ((Int.gcd (B f) (D f):Int)*a) ((Int.gcd (B f) (D f):Int)*d')=Int.gcd (B f) (D f)*Int.gcd a d':=by
   rw[Int.gcd_mul_left];simp
  rw[<-c,<-d] at e;have g1:0<Int.gcd (B f) (D f):=by omega
  exact(Nat.eq_of_mul_eq_mul_left g1 (by rw[Nat.mul_one];exact e)).symm
 have hd:∀x∈ns,a∣B x:=λx n=>by
  have e:=h x n;have o:(Int.gcd (B f) (D f):Int)*(D x*a)=(Int.gcd (B f) (D f):Int)*(B x*d'):=by
   have p:D x*((Int.gcd (B f) (D f):Int)*a)=B x*((Int.gcd (B f) (D f):Int)*d'):=by rw[<-c,<-d];exact e
   rw[Int.mul_left_comm,p,Int.mul_left_comm]
  have q:D x*a=B x*d':=zK (by omega) o;have h1:a∣B x*d':=⟨D x,by rw[<-q,kI]⟩;have h2:a.natAbs∣(B x).natAbs*d'.natAbs:=by rw[<-Int.natAbs_mul];exact Int.natAbs_dvd_natAbs.mpr h1
  have b:Nat.Coprime a.natAbs d'.natAbs:=i;exact Int.natAbs_dvd_natAbs.mp (b.dvd_of_dvd_mul_right h2)
 obtain⟨u,r⟩:=m a hd;refine⟨u*d',?_⟩;generalize (Int.gcd (B f) (D f):Int)=g at*
 have s:B f*(u*d')=g*d'*(a*u):=by rw[c];grind
 rw[s,<-r,mul_one];exact d
structure Lst(m:M)(s:Str->Rat)(B:Str->Int):Prop where
 pos:∀x∈m.names,1<=B x
 gcd:∀k:Int,(∀x∈m.names,k∣B x)->k∣1
 prop:∃c:Rat,0<c/\∀x∈m.names,(B x:Rat)=c*s x
section
variable{m:M}{s:Str->Rat}{B:Str->Int}
theorem Lst.times(L:Lst m s B)(b:m.arms)(d:m.names.map s=m.sh 1){G:Str->Int}{n:Int}(e:∀x∈m.names,G x=n*B x):cF G m ""=[]:=by
 obtain⟨c,_,h⟩:=L.prop;refine(Gg b d).mpr ⟨(n:Rat)*c,λx a=>?_⟩;rw[e x a,gf,h x a];grind
theorem Lst.iff(L:Lst m s B)(h:m.arms)(i:m.names.map s=m.sh 1){D:Str->Int}{f:Str}(b:f∈m.names):cF D m ""=[]↔(D f%B f=0/\∀x∈m.names,D x*B f=B x*D f):=by
 obtain⟨c,hc,d⟩:=L.prop;rw[Gg h i];constructor
 .rintro ⟨c',g⟩
  have key:∀x∈m.names,D x*B f=B x*D f:=λx a=>by
   have:((D x*B f:Int):Rat)=((B x*D f:Int):Rat):=by
    rw[gf,gf,g x a,d f b,d x a,g f b];grind
   exact_mod_cast this
  exact⟨Int.emod_eq_zero_of_dvd (Pz b L.pos L.gcd key),key⟩
 .rintro ⟨_,key⟩
  have j:(B f:Rat)≠0:=mZ (by have:=L.pos f b;omega);refine⟨(D f:Rat)*c/(B f:Rat),λx a=>?_⟩;have e:((D x:Int):Rat)*(B f:Rat)=(B x:Rat)*(D f:Rat):=by
   rw[<-gf,<-gf,key x a]
  rw[d x a] at e;grind
end
theorem vS{ys:List Str}{a:List Int}(h:a.length=ys.length):(ys.zip a).map (·.1)=ys:=by
 rw[show(λx:Str×Int=>x.1)=Prod.fst from rfl,List.map_fst_zip (by omega)]
theorem pV{a:Ar->Prop}{g:g4}{b:cg}{R:jq}(J:List D->bw->Ar->Prop)(hc:∀rest τ A,J rest τ A->a A)
  (e:∀x rest τ A,J (x::rest) τ A->∀c:bw->Ar->Prop,(∀bU A',J rest bU A'->c bU A')->g x τ A λd h=>b {R with nx:=c,ct:=c,bk:=R.nx} d h)(f:∀τ A,J [] τ A->R.nx τ A):∀(items:List D) (τ:bw) (A:Ar),J items τ A->lA a g b R items τ A
 |[],τ,A,j=>⟨hc _ _ _ j,f _ _ j⟩
 |x::rest,τ,A,j=>⟨hc _ _ _ j,e _ _ _ _ j _ λbU A' i=>pV J hc e f rest bU A' i⟩
theorem Gr.DU{A d A':Ar}{t:Nat}(g:Gr A d)(e:A.length<=t)(b:cQ t d A'):Gr A A':=by
 have key:∀q c,A[q]?=some c->A'[q]?=some c:=λq c h=>b q c (by have:=ja h;omega) (g.get h);refine⟨A'.drop A.length,List.ext_getElem? λq=>?_⟩;by_cases a:q<A.length
 .rw[gU a,aV a]
  exact key q _ (aV a)
 .rw[kE (by omega),List.getElem?_drop]
  congr 1;omega
end DP
namespace L2
open PySem.SeqAt
def mG(op:CmpOp)(A:Around)(s:Shared)(y x:Value)(b:Bool):Prop:=∀(prog:Program) (w:World) (E:aA) (Q:aA),Q (.bool b) s->wpAny (model prog w) A (richCompare op y x) Q E s
inductive g7(op:CmpOp)(A:Around)(s:Shared)(fin b:Bool):List (Value×Value)->Prop
 |nil:fin=b->g7 op A s fin b []
 |eq {y x:Value} {r:List (Value×Value)}:EqAt A s y x true->g7 op A s fin b r->g7 op A s fin b ((y,x)::r)
 |ne {y x:Value} {r:List (Value×Value)}:EqAt A s y x false->mG op A s y x b->g7 op A s fin b ((y,x)::r)
open MeetsSeq MeetsSeq2 MeetsSeq3 SeqRoads2
theorem S9(l b:Addr)(items a:Array Value)(n n2:Nat)(dd f:Option Addr)(m i:Array (Option Value))(res:Bool):
  Meets (Builtin.«tuple.__lt__» ⟨[.ref l,.ref b],[]⟩)
   (λA R s=>s.heap.get? l=some {cls:=.type "tuple",dict:=dd,data:=.seq items n,slots:=m}/\s.heap.get? b=some {cls:=.type "tuple",dict:=f,data:=.seq a n2,slots:=i}/\
    g7 .Lt A.in1 s (decide (items.size<a.size)) res (items.toList.zip a.toList)/\R (.ok (.ret (.bool res))) s):=
 .of_wp λprog w A R s h=>by
  obtain⟨k,g,d,tk,os⟩:=s;obtain⟨o,p,q,h⟩:=h;have f2:=AutoSeq1.sub_tuple_tuple;wp_walk using vB o,vB p,wpAny_forIn_list _ (λrest b s'=>b.1=none/\s'=⟨k,g,d,tk,os⟩/\g7 .Lt A.in1 ⟨k,g,d,tk,os⟩ (decide (items.size<a.size)) res rest) _;case turn=>
   rintro ⟨y,x⟩ rest b s' ⟨c,rfl,j⟩;cases j with
   |eq h1 h2=>
    refine af (h1 prog w _ _ ?_);wp_walk;exact⟨rfl,rfl,h2⟩
   |ne h1 h2=>
    refine af (h1 prog w _ _ ?_);simp only[Bool.not_false,jh];refine af (fW ?_);refine af (h2 prog w _ _ ?_);wp_walk;exact⟨_,rfl,h⟩
  case fin=>
   rintro ⟨r,t⟩ s' ⟨c,rfl,j⟩;simp only at c;subst c;cases j with
   |nil e=>
    wp_walk;exact⟨_,rfl,by rw[<-e] at h;simpa[Builtin.Tuple.tupleCompareSizes] using h⟩
  case h=>
   exact⟨rfl,rfl,q⟩
mutual
def ltQ:PyData->PyData->Option Bool
 |.int i,.int j=>some (decide (i<j))
 |.str x,.str y=>some (decide (x.cps.toList<y.cps.toList))
 |.tuple xs,.tuple ys=>eN xs ys
 |_,_=>none
def eN:List PyData->List PyData->Option Bool
 |[],[]=>some false
 |[],_::_=>some true
 |_::_,[]=>some false
 |x::xs,y::ys=>match PyData.eqv x y with
  |true=>eN xs ys
  |false=>ltQ x y
end
theorem Ih(i j:Int)(A:Around)(s:Shared)(a b:Value)(as bs:List Addr)(r:Bool)(e:ltQ (.int i) (.int j)=some r)(ra:Reads s.heap a (.int i) as)(c:Reads s.heap b (.int j) bs):mG .Lt A s a b r:=by
 cases ra;cases c;rw[ltQ] at e;cases e;intro prog w E Q q;exact lt_int q
theorem Ii(xs ys:List PyData)(A:Around)(s:Shared)(a b:Value)(as bs:List Addr)(r:Bool)(i:A.units+min (PyData.tuple xs).depth (PyData.tuple ys).depth<cLine)(L:∀d vs as bs,ReadsAll s.heap d xs as->ReadsAll s.heap vs ys bs->A.in1.units+min (depthAll xs) (depthAll ys)<cLine->g7 .Lt A.in1 s (decide (d.length<vs.length)) r (d.zip vs))(ra:Reads s.heap a (.tuple xs) as)(k:Reads s.heap b (.tuple ys) bs):mG .Lt A s a b r:=by
 cases ra with
 | @tuple l o vs n _ e h1 h2 h3 m=>
  cases k with
  | @tuple p o' c n' _ f k1 k2 k3 t=>
   obtain⟨cls,dd,data,u⟩:=o;obtain⟨j,g,data2,h⟩:=o';simp only at h2 h3 k2 k3;subst h2 h3 k2 k3;have L:=L vs.toList c.toList _ _ m t (room_in i);intro prog w E Q q;exact richCompare_meets_room (op:=.Lt) ⟨_,h1,rfl⟩ ⟨_,k1,rfl⟩ F.slot_tuple_lt F.entry_tuple_lt (F.args_tuple_lt_2 _ _) (S9 l p vs c n n' dd g u h r)
    ⟨h1,k1,by simpa using L,show Value.bool r≠Value.notImplemented/\Q (.bool r) s from⟨(λx=>nomatch x),q⟩⟩ (room_here i)
theorem Ik(i j:Str)(A:Around)(s:Shared)(a b:Value)(as bs:List Addr)(r:Bool)(e:ltQ (.str i) (.str j)=some r)(ra:Reads s.heap a (.str i) as)(c:Reads s.heap b (.str j) bs):mG .Lt A s a b r:=by
 cases ra;cases c;rw[ltQ] at e;cases e;intro prog w E Q q;exact lt_str q
theorem Dg{α β:Type}{a:α}{b:β}{u:List α}{v:List β}:decide ((a::u).length<(b::v).length)=decide (u.length<v.length):=by simp
theorem Ij(x y:PyData)(xs ys:List PyData)(A:Around)(s:Shared)(a vs:List Value)(as bs:List Addr)(r:Bool)(e:eN (x::xs) (y::ys)=some r)(ra:ReadsAll s.heap a (x::xs) as)(i:ReadsAll s.heap vs (y::ys) bs)(j:canLayAll0 (x::xs)=true)(k:canLayAll0 (y::ys)=true)
 (g:A.units+min (depthAll (x::xs)) (depthAll (y::ys))<cLine)
 (l:∀a vs as bs,eN xs ys=some r->ReadsAll s.heap a xs as->ReadsAll s.heap vs ys bs->canLayAll0 xs=true->canLayAll0 ys=true->A.units+min (depthAll xs) (depthAll ys)<cLine->g7 .Lt A s (decide (a.length<vs.length)) r (a.zip vs))
 (L2:∀u v as bs,ltQ x y=some r->Reads s.heap u x as->Reads s.heap v y bs->x.canLay0=true->y.canLay0=true->A.units+min x.depth y.depth<cLine->mG .Lt A s u v r):g7 .Lt A s (decide (a.length<vs.length)) r (a.zip vs):=by
  have b:x.canLay0=true/\canLayAll0 xs=true:=by simpa[canLayAll0] using j
  have d:y.canLay0=true/\canLayAll0 ys=true:=by simpa[canLayAll0] using k
  cases ra with
  |cons a1 a2=>
   cases i with
   |cons h m=>
    have f:=eqAt_reads x y A s _ _ _ _ a1 h b.1 d.1 (room_head g)
    rw[eN] at e
    cases c:PyData.eqv x y with
    |true=>
     rw[c] at e f
     have L:=l _ _ _ _ e a2 m b.2 d.2 (room_tail g)
     rw[Dg]
     exact .eq f L
    |false=>
     rw[c] at e f
     exact .ne f (L2 _ _ _ _ e a1 h b.1 d.1 (room_head g))
mutual
theorem Il:∀(d db:PyData) (A:Around) (s:Shared) (a b:Value) (as bs:List Addr) (r:Bool),ltQ d db=some r->Reads s.heap a d as->Reads s.heap b db bs->d.canLay0=true->db.canLay0=true->
  A.units+min d.depth db.depth<cLine->mG .Lt A s a b r
 |.none,db,A,s,_,_,_,_,r,e,ra,c,_,_,_=>by simp[ltQ] at e
 |.bool _,db,A,s,_,_,_,_,r,e,ra,c,_,_,_=>by simp[ltQ] at e
 |.list _,db,A,s,_,_,_,_,r,e,ra,c,_,_,_=>by simp[ltQ] at e
 |.dict _,db,A,s,_,_,_,_,r,e,ra,c,_,_,_=>by simp[ltQ] at e
 |.int i,db,A,s,_,_,_,_,r,e,ra,c,_,_,_=>by
  cases db with
  |int j=>exact Ih i j A s _ _ _ _ r e ra c
  |_=>simp[ltQ] at e
 |.str i,db,A,s,_,_,_,_,r,e,ra,c,_,_,_=>by
  cases db with
  |str j=>exact Ik i j A s _ _ _ _ r e ra c
  |_=>simp[ltQ] at e
 |.tuple xs,db,A,s,_,_,_,_,r,e,ra,c,f,g,h=>by
  cases db with
  |tuple ys=>exact Ii xs ys A s _ _ _ _ r h (λk vs as bs h1 h2 h3=>x_ xs ys A.in1 s k vs as bs r (by rw[ltQ] at e;exact e) h1 h2 f g h3) ra c
  |_=>simp[ltQ] at e
theorem x_:∀(xs ys:List PyData) (A:Around) (s:Shared) (a vs:List Value) (as bs:List Addr) (r:Bool),eN xs ys=some r->ReadsAll s.heap a xs as->ReadsAll s.heap vs ys bs->canLayAll0 xs=true->canLayAll0 ys=true->
  A.units+min (depthAll xs) (depthAll ys)<cLine->g7 .Lt A s (decide (a.length<vs.length)) r (a.zip vs)
 |[],ys,A,s,_,_,_,_,r,e,ra,b,_,_,_=>by
  cases ys with
  |nil=>cases ra;cases b;rw[eN] at e;cases e;exact .nil (by simp)
  |cons y ys=>cases ra;cases b;rw[eN] at e;cases e;exact .nil (by simp)
 |x::xs,ys,A,s,a,vs,as,bs,r,e,ra,b,g,h,i=>by
  cases ys with
  |nil=>cases ra;cases b;rw[eN] at e;cases e;exact .nil (by simp)
  |cons y ys=>exact Ij x y xs ys A s a vs as bs r e ra b g h i (λa vs as bs h1 h2 h3 c d f=>x_ xs ys A s a vs as bs r h1 h2 h3 c d f) (λu v as bs h1 h2 h3 c d f=>Il x y A s u v as bs r h1 h2 h3 c d f)
end
end L2
namespace SR
abbrev Rs(xs:Array Nat):Prop:=xs.toList.Pairwise (·<·)
theorem Rs.lt{xs:Array Nat}(h:Rs xs){a b:Nat}(c:a<b)(d:b<xs.size):xs.getD a 0<xs.getD b 0:=by
 have:=jS.mp h a b (by simp;omega) (by simp;omega) c;rw[gi,gi,cP (by omega),cP d];simpa using this
theorem xN(xs:Array Nat)(d:Rs xs)(j:Nat):∀(fuel lo hi:Nat),hi<=xs.size->lo<=hi->hi - lo<=fuel->(∀i,i<lo->xs.getD i 0<j)->(∀i,hi<=i->i<xs.size->j<=xs.getD i 0)->
  SetTable.below.go xs j fuel lo hi<=xs.size/\(∀i,i<SetTable.below.go xs j fuel lo hi->xs.getD i 0<j)/\∀i,SetTable.below.go xs j fuel lo hi<=i->i<xs.size->j<=xs.getD i 0
 |0,lo,hi,h1,h2,h3,f,g=>by
  have e:lo=hi:=by omega
  show lo<=_/\(∀i,i<lo->_)/\∀i,lo<=i->_;exact⟨by omega,f,λi c=>g i (by omega)⟩
 |fuel+1,lo,hi,h1,h2,h3,f,g=>by
  unfold SetTable.below.go;by_cases h:lo<hi
  .rw[aj h]
   dsimp only;have k:(lo+hi)/2<xs.size:=by omega
   have e:xs.getD ((lo+hi)/2) j=xs.getD ((lo+hi)/2) 0:=by
    rw[gi,gi,cP k];rfl
   rw[e];by_cases hc:xs.getD ((lo+hi)/2) 0<j
   .rw[aj hc]
    refine xN xs d j fuel _ hi h1 (by omega) (by omega) (λi c=>?_) g;by_cases z:i=(lo+hi)/2
    .rw[z];exact hc
    .have:=d.lt (a:=i) (b:=(lo+hi)/2) (by omega) k
     omega
   .rw[ai hc]
    refine xN xs d j fuel lo _ (by omega) (by omega) (by omega) f (λi c l=>?_);by_cases z:i=(lo+hi)/2
    .rw[z];omega
    .have:=d.lt (a:=(lo+hi)/2) (b:=i) (by omega) l
     omega
  .rw[ai h]
   exact⟨by omega,f,λi c=>g i (by omega)⟩
theorem A8{xs:Array Nat}(a:Rs xs)(j:Nat):SetTable.below xs j<=xs.size/\(∀i,i<SetTable.below xs j->xs.getD i 0<j)/\∀i,SetTable.below xs j<=i->i<xs.size->j<=xs.getD i 0:=
 xN xs a j xs.size 0 xs.size (aH _) (cH _) (by omega) (λi h=>absurd h (q_ _)) (λi h1 h2=>absurd h2 (by omega))
theorem Lx{xs:Array Nat}{i:Nat}(h:i<xs.size):xs[i]?=some (xs.getD i 0):=by
 rw[gi,cP h];rfl
theorem HQ{xs:Array Nat}(b:Rs xs){j:Nat}(h:j∈xs.toList):xs[SetTable.below xs j]?=some j:=by
 obtain⟨i,hi,e⟩:=fV h;have a:i<xs.size:=by simpa using hi
 have c:xs.getD i 0=j:=by
  rw[gi,cP a];simpa using e
 obtain⟨h1,h2,h3⟩:=A8 b j;have a1:SetTable.below xs j=i:=by
  rcases Nat.lt_trichotomy (SetTable.below xs j) i with z|z|z
  .have a2:=h3 _ (aH _) (by omega)
   have d:=b.lt z a;omega
  .exact z
  .have:=h2 i z
   omega
 rw[a1,Lx a,c]
theorem Me{xs:Array Nat}(f:Rs xs){j:Nat}(m:j∉xs.toList):Rs (SetTable.insertAt xs (SetTable.below xs j) j):=by
 obtain⟨h1,h2,h3⟩:=A8 f j;unfold SetTable.insertAt Rs;have e:((xs.extract 0 (SetTable.below xs j)).push j++xs.extract (SetTable.below xs j) xs.size).toList=xs.toList.take (SetTable.below xs j)++(j::xs.toList.drop (SetTable.below xs j)):=by
  simp[eT,rm];exact iI (by simp)
 rw[e];refine cZ.mpr ⟨f.sublist (gX _ _),l5.mpr ⟨λy n=>?_,f.sublist (iQ _ _)⟩,λa o b hb=>?_⟩
 .obtain⟨i,hi,e⟩:=fV n
  rw[iE] at hi;rw[List.getElem_drop] at e;have c:SetTable.below xs j+i<xs.size:=by simp at hi;omega
  have:=h3 (SetTable.below xs j+i) (by omega) c;rw[gi,cP c] at this;have h:xs[SetTable.below xs j+i]=y:=by simpa using e
  have this:j<=y:=by rw[<-h];exact this
  have p:j≠y:=λz=>m (by rw[z,<-h];simp);omega
 .obtain⟨i,hi,e⟩:=fV o
  rw[gV] at hi;rw[List.getElem_take] at e;have c:i<xs.size:=by omega
  have:=h2 i (by omega);rw[gi,cP c] at this;have q:xs[i]=a:=by simpa using e
  have g:a<j:=by rw[<-q];exact this
  rcases aX.mp hb with z|hb
  .rw[z];exact g
  .obtain⟨k,hk,l⟩:=fV hb
   rw[iE] at hk;rw[List.getElem_drop] at l;have d:SetTable.below xs j+k<xs.size:=by simp at hk;omega
   have:=h3 (SetTable.below xs j+k) (by omega) d;rw[gi,cP d] at this;have r:xs[SetTable.below xs j+k]=b:=by simpa using l
   have:j<=b:=by rw[<-r];exact this
   omega
theorem RJ{t:SetTable}(a:Rs t.place){j:Nat}(h:∀i,t.slot j≠ .live i):j∉t.place.toList:=λb=>by
 refine h (SetTable.below t.place j) ?_;unfold SetTable.slot;dsimp only;rw[HQ a b];simp
theorem yE{t:SetTable}{f:Nat->Int}{h:Int}:∀(fuel:Nat) (p:SetTable.Probe),(∀d,p.dummy=some d->t.slot d=.dummy)->∀j a,SetTable.probe.go t f h fuel p=some (.empty j a)->t.slot j=.empty/\∀d,a=some d->t.slot d=.dummy
 |0,p,_,j,a,e=>by cases e
 |fuel+1,p,g,j,a,e=>by
  unfold SetTable.probe.go at e;have b:∀q:SetTable.Probe,(t.advance q).dummy=q.dummy:=λq=>by
   unfold SetTable.advance;split<;>rfl
  cases c:t.slot p.j with
  |empty=>
   rw[c] at e;cases e;exact⟨c,g⟩
  |dummy=>
   rw[c] at e;exact yE fuel _ (λd hd=>by
    rw[b] at hd;cases hd;exact c) j a e
  |live i=>
   rw[c] at e;dsimp only at e;split at e
   .cases e
   .exact yE fuel _ (λd hd=>by rw[b] at hd;exact g d hd) j a e
theorem Lj{t:SetTable}(f:Rs t.place){h:Int}{j:Nat}{b:Bool}(e:t.freeSlot h=some (j,b)):j∉t.place.toList:=by
 unfold SetTable.freeSlot at e;split at e
 .rename_i a c g
  obtain⟨h1,h2⟩:=yE _ _ (λd hd=>by unfold SetTable.probeStart at hd;cases hd) a c g;cases e;refine RJ f λi=>?_;cases c with
  |none=>show t.slot a≠_;rw[h1];intro z;cases z
  |some d=>show t.slot d≠_;rw[h2 d rfl];intro z;cases z
 .cases e
theorem Qq(n:Nat):Rs (Array.range n):=by
 unfold Rs;rw[Array.toList_range];exact List.pairwise_lt_range
theorem uV(t:SetTable)(n:Nat):Rs (t.standIn n).place:=Qq n
theorem OL{t:SetTable}(n:Nat)(h:Rs t.place):Rs (t.orStandIn n).place:=by
 unfold SetTable.orStandIn;split
 .exact h
 .exact uV _ _
theorem MX{t:SetTable}(a:Rs t.place)(es:Array (Int×Value))(h:Int)(x:Value):Rs (layNew t es h x).2.1.place:=by
 unfold layNew;split
 .rename_i slot c b
  exact OL _ (Me a (Lj a b))
 .exact uV _ _
theorem MT{mask finger moves:Nat}{led plain:Bool}{d:Array Int}{t:SetTable}{o:Array Nat}(h:SetTable.laid mask finger moves led plain d=some (t,o)):Rs t.place:=by
 unfold SetTable.laid at h;obtain⟨w,_,h⟩:=Option.bind_eq_some_iff.mp h;cases h;unfold Rs;dsimp only;rw[jT,List.pairwise_filterMap];refine List.pairwise_lt_range.imp λ {a b} c p e q f=>?_;obtain⟨_,_,rfl⟩:=map_eq_some_iff.mp e;obtain⟨_,_,rfl⟩:=map_eq_some_iff.mp f;exact c
theorem Qy(t:SetTable)(es:Array (Int×Value))(n:Nat):Rs (relayAll t es n).2.1.place:=by
 unfold relayAll;split
 .rename_i t' o e
  dsimp only;split
  .exact MT e
  .exact uV _ _
 .exact uV _ _
end SR
namespace SI
open SS
def intOf(v:Value):Int:=match v with|.int x _=>x|_=>0
def bF(prog:Program)(w:World)(h:Heap)(a:Addr)(es:Array (Int×Value)):Prop:=
 ∃o ep t,h.get? a=some o/\o.ExactSet/\o.data=.set es ep t/\ElemsOf (PySem.intKind prog w) es.toList/\(es.toList.map λe=>intOf e.2).Nodup/\es.size<scanBound/\t.fits es.size=true/\
  t.led= !w.params.followText "set-order"/\SR.Rs t.place
section
variable{prog:Program}{w:World}{A:Around}{E:aA}{s:Shared}
theorem B0{l:List (Int×Value)}(h:ElemsOf (PySem.intKind prog w) l){e:Int×Value}(a:e∈l):∃t,e.2=.int (intOf e.2) t:=by
 obtain⟨⟨k,hk,_⟩,_⟩:=h e a;obtain⟨t,q⟩:=Value.isInt_shape hk;exact⟨t,by rw[q];rfl⟩
theorem CZ{e:Int×Value}{x:Int}(h:∃t,e.2=.int (intOf e.2) t):(PySem.intKind prog w).is x e.2=decide (intOf e.2=x):=by
 obtain⟨t,q⟩:=h;rw[q];show Value.isInt x (.int (intOf e.2) t)=decide (intOf (.int (intOf e.2) t)=x);by_cases a:intOf e.2=x
 .rw[dj (by rw[<-a];rfl),a]
  simp[Value.isInt]
 .rw[eG (by exact a)]
  simp only[Value.isInt];first|exact vQ.mpr a|exact vQ.mpr (Ne.symm a)|simpa using a|simpa using Ne.symm a
theorem add{a:Addr}{es:Array (Int×Value)}{x:Int}{tk:Tok}{Q:Bool->Shared->Prop}(hS:bF prog w s.heap a es)(K:es.size+1<scanBound)
  (h:∀h' l b,SameBut a s.heap h'->bF prog w h' a l->(x∈es.toList.map (λe=>intOf e.2)->l=es)->(x∉es.toList.map (λe=>intOf e.2)->l.toList.Perm (es.toList++[((PySem.intKind prog w).hash x,.int x tk)]))->Q b {s with heap:=h'}):
  wpAny (model prog w) A (setAddHashed a (.int x tk) ((PySem.intKind prog w).hash x)) Q E s:=by
 obtain⟨o,ep,t,U,hex,hd,n,V,hb,hf,u,W⟩:=hS
 have D:(PySem.intKind prog w).is x (.int x tk)=true:=by show Value.isInt x (.int x tk)=true;simp[Value.isInt]
 have M:(Value.int x tk).scannable=true:=rfl
 unfold setAddHashed setAddHashedIn
 refine dR (af (mj U hd hf ?_))
 dsimp only
 rw[byScan_of M hb n]
 simp only[↓reduceIte]
 unfold setAddByScan
 refine af ?_
 refine af (fW ?_)
 refine af (wpAny_setScan_of D U hd hf n ?_)
 cases hr:List.findIdx? (λe=>(PySem.intKind prog w).is x e.2) es.toList with
 |some j=>
  dsimp only
  obtain⟨hj,X,_⟩:=List.findIdx?_eq_some_iff_getElem.mp hr
  have hin:x∈es.toList.map (λe=>intOf e.2):=by
   rw[CZ (B0 n (cz hj))] at X
   exact aS.mpr ⟨_,cz hj,kK X⟩
  refine ak (ak ?_)
  have e:s={s with heap:=s.heap}:=by cases s;rfl
  rw[e]
  exact h s.heap es _ (SameBut.refl a s.heap) ⟨o,ep,t,U,hex,hd,n,V,hb,hf,u,W⟩ (λ_=>rfl) λz=>absurd hin z
 |none=>
  dsimp only
  have F:x∉es.toList.map (λe=>intOf e.2):=λz=>by
   obtain⟨e,he,q⟩:=aS.mp z
   have:=List.findIdx?_eq_none_iff.mp hr e he
   rw[CZ (B0 n he),dj q] at this
   exact Bool.noConfusion this
  have xQ:∀(b:Bool) {f:Shared} {G:Unit->Shared->Prop},G () f->wpAny (model prog w) A (match b with|true=>rule "set.scan.the-table-gave-way"|false=>pure ()) G E f:=
   λb f G r=>by cases b<;>first|exact ak r|exact fW r
  have d:=layNew_perm t es ((PySem.intKind prog w).hash x) (.int x tk)
  have k:=layNew_fits t es ((PySem.intKind prog w).hash x) (.int x tk)
  have B:=SR.MX W es ((PySem.intKind prog w).hash x) (.int x tk)
  have C:=C8 t es ((PySem.intKind prog w).hash x) (.int x tk)
  have Y:=C9 t es ((PySem.intKind prog w).hash x) (.int x tk)
  generalize hL:layNew t es ((PySem.intKind prog w).hash x) (.int x tk)=L at d k C Y B ⊢
  obtain⟨c,t1,p,Lv⟩:=L
  dsimp only at d k C Y B ⊢
  rw[kQ] at d
  have H:ElemsOf (PySem.intKind prog w) c.toList:=(n.push D M).perm d
  have Z:((es.toList++[((PySem.intKind prog w).hash x,Value.int x tk)]).map λe=>intOf e.2).Nodup:=by
   rw[ff]
   refine ou.mpr ⟨V,by simp,λy hy z hz=> ?_⟩
   have hz':z=x:=by simpa[intOf] using hz
   rw[hz']
   rintro rfl
   exact F hy
  have I:(c.toList.map λe=>intOf e.2).Nodup:=(d.map _).nodup_iff.mpr Z
  have hsz1:c.size=es.size+1:=by rw[<-bE,d.length_eq,cA,bE];rfl
  have v:c.size<scanBound:=by rw[hsz1];exact K
  refine af (xQ _ ?_)
  have fin:∀{g:Bool->Sem Unit} {R:Option Bool->Shared->Prop},(∀(b:Bool) (f:Shared) (G:Unit->Shared->Prop),G () f->wpAny (model prog w) A (g b) G E f)->(∀h',Q true {s with heap:=h'}->R (some true) {s with heap:=h'})->
    ∀i:SetTable,i.fits c.size=true->i.led=t.led->SR.Rs i.place->
    wpAny (model prog w) A (do
     storeSet a c i
     if (!p&&i.tooFull)=true then do
       g (relayAll i c (SetTable.grown c.size)).2.2
       storeSet a (relayAll i c (SetTable.grown c.size)).1 (relayAll i c (SetTable.grown c.size)).2.1
       pure (some true)
      else pure (some true)) R E s:=λ {g R} hg hR i hf2 hl2 hr2=>by
   have go:∀h' l,SameBut a s.heap h'->bF prog w h' a l->l.toList.Perm c.toList->R (some true) {s with heap:=h'}:=λh' l q1 q2 q3=>hR h' (h h' l true q1 q2 (λz=>absurd z F) λ_=>q3.trans d)
   refine af (vG U hd ?_ (oR v))
   have N:(s.heap.update a (Obj.putSet c i)).get? a=some {o with data:= .set c (ep+1) i}:=by
    have:=gZ (Obj.putSet c i) U (by rw[kP c i hd];rfl)
    rw[kP c i hd] at this;exact this
   have J:=SameBut.update s.heap a (Obj.putSet c i)
   split
   .have O:=relayAll_perm i c (SetTable.grown c.size)
    have P:=relayAll_fits i c (SetTable.grown c.size)
    have S:=SR.Qy i c (SetTable.grown c.size)
    have T:=EE i c (SetTable.grown c.size)
    generalize LF:relayAll i c (SetTable.grown c.size)=Rl at O P T S ⊢
    obtain⟨m,t3,Lw⟩:=Rl
    dsimp only at O P T S ⊢
    have hsz:m.size=c.size:=by rw[<-bE,O.length_eq,bE]
    have hb2:m.size<scanBound:=by rw[hsz];exact v
    refine af (hg _ _ _ ?_)
    refine af (vG N rfl ?_ (oR hb2))
    have xP:((s.heap.update a (Obj.putSet c i)).update a (Obj.putSet m t3)).get? a=some {o with data:= .set m (ep+1+1) t3}:=by
     have:=gZ (Obj.putSet m t3) N (by rw[kP (ep:=ep+1) (t:=i) m t3 rfl];rfl)
     rw[kP (ep:=ep+1) (t:=i) m t3 rfl] at this;exact this
    refine ak (go _ m (J.trans (SameBut.update _ a _)) ⟨_,_,_,xP,hex,rfl,H.perm O,(O.map _).nodup_iff.mpr I,hb2,P,by rw[T,hl2];exact u,S⟩ O)
   .exact ak (go _ c J ⟨_,_,_,N,hex,rfl,H,I,v,hf2,by rw[hl2];exact u,hr2⟩ .rfl)
  split
  .refine af ?_
   rw[hashByValue_scannable 8 M]
   refine ak ?_
   simp only[show plainKind (Value.int x tk)=true from rfl,jh]
   refine fin ?_ ?_ t1 k C B
   .intro b f G r;cases b<;>first|exact ak r|exact fW r
   .exact λh' r=>ak r
  .rename_i O
   refine af (ak ?_)
   simp only[↓reduceIte]
   refine fin ?_ ?_ t1 k C B
   .intro b f G r;cases b<;>first|exact ak r|exact fW r
   .exact λh' r=>ak r
end
abbrev nums(es:Array (Int×Value)):List Int:=es.toList.map λe=>intOf e.2
theorem bF.keeps{prog:Program}{w:World}{h h':Heap}{a:Addr}{es:Array (Int×Value)}(S:bF prog w h a es)(k:∀o,h.get? a=some o->h'.get? a=some o):bF prog w h' a es:=by
 obtain⟨o,ep,t,b,r⟩:=S;exact⟨o,ep,t,k o b,r⟩
section
variable{prog:Program}{w:World}{A:Around}{R:Result->Shared->Prop}{I:Addr}{fp wr:List Addr}{G:Array GenState->Array GenState->Prop}{n:Nat}{P:Nat->Value->Prop}{St:Nat->Shared->Prop}
theorem loop(W:WalksS prog w A.in1 I fp wr G n P St)(S:Addr)(q:S∉fp)(val:Nat->Int)(r:∀i v,P i v->∃t,v=.int (val i) t)(m:n+1<scanBound):
  ∀(k i:Nat) (s:Shared) (es:Array (Int×Value)),n - i=k->i<=n->St i s->bF prog w s.heap S es->es.size<=i->(∀x,x∈nums es↔∃j,j<i/\val j=x)->
   (∀s' c,Moved (S::wr) G s s'->bF prog w s'.heap S c->c.size<=n->(∀x,x∈nums c↔∃j,j<n/\val j=x)->R (.ok (.ret .none)) s')->
   codeAny (model prog w) A (.builtin "set.update.loop" ⟨[.ref S,.ref I],[]⟩) R s:=by
 have u:S∉wr:=λh=>q (W.sub _ h);have f:∀b∈wr,b∈S::wr:=λb m=>b9 _ m;intro k;induction k with
 |zero=>
  intro i s es hk hi g L hsz d M;have N:i=n:=by omega
  subst N;refine eU vC ?_;rw[gg oF _];show wpAny _ A.in1 (pyNext (.ref I)>>=_) _ _ s;refine af (W.done s _ _ g λs' B=>?_);show wpAny _ A.in1 (ret Value.none) _ _ s';exact ak (M s' es (B.mono f) (L.keeps λo O=>B.heap S _ u O) hsz d)
 |succ k ih=>
  intro i s es hk hi g L hsz d M;have C:i<n:=by omega
  refine eU vC ?_;rw[gg oF _];show wpAny _ A.in1 (pyNext (.ref I)>>=_) _ _ s;refine af (W.item i s _ _ C g λv s' hP D B=>?_);obtain⟨t,rfl⟩:=r i v hP;have Q:bF prog w s'.heap S es:=L.keeps λo O=>B.heap S _ u O;show wpAny _ A.in1 (holding [Value.int (val i) t] (setAdd S (.int (val i) t))>>=_) _ _ s';refine af (dR ?_);unfold setAdd;refine dR ?_;refine af ((PySem.intKind prog w).pyHash (k:=val i) (by show Value.isInt (val i) (.int (val i) t)=true;simp[Value.isInt]) ?_);refine add (s:={s' with toks:=s'.toks+1}) Q (by omega) λh' c b E T Y Z=>?_;have F:c.size<=i+1:=by
   by_cases p:val i∈es.toList.map (λe=>intOf e.2)
   .rw[Y p];omega
   .rw[<-bE,(Z p).length_eq,cA,bE]
    simp only[gC,length_nil];omega
  have l:∀x,x∈nums c↔∃j,j<i+1/\val j=x:=λx=>by
   have e1:x∈nums c↔x∈nums es\/x=val i:=by
    by_cases p:val i∈es.toList.map (λe=>intOf e.2)
    .rw[Y p]
     exact⟨.inl,λz=>z.elim id λe=>e▸p⟩
    .have hp:=((Z p).map λe=>intOf e.2).mem_iff (a:=x)
     rw[ff,br] at hp;refine hp.trans ⟨λz=>z.imp id λy=>by simpa[intOf] using y,λz=>z.imp id λy=>by simpa[intOf] using y⟩
   rw[e1,d x];constructor
   .rintro (⟨j,hj,e⟩|rfl)
    .exact⟨j,by omega,e⟩
    .exact⟨i,by omega,rfl⟩
   .rintro ⟨j,hj,e⟩
    by_cases U:j=i
    .exact .inr (by rw[<-e,U])
    .exact .inl ⟨j,by omega,e⟩
  refine ak ⟨gW oF _,ih (i+1) _ c (by omega) C (W.frame _ s' _ _ D (le_succ _) λb m o e=>?_) T F l λV H J K hz X=>?_⟩
  .rw[E.2 b (λh:b=S=>q (by rw[<-h];exact m))];exact e
  .refine M V H (Moved.trans W.gtrans ((B.mono f).then_heap (le_succ _) λb o m e=>?_) J) K hz X
   rw[E.2 b (λh:b=S=>m (by rw[h];exact cB))];exact e
end
section
variable{prog:Program}{w:World}{A:Around}{E:aA}{s:Shared}
theorem bF.fresh{h:Heap}{a:Addr}(b:h.get? a=some (SS.cu w)):bF prog w h a #[]:=
 ⟨_,_,_,b,⟨rfl,rfl,rfl⟩,rfl,λe c=>by simp at c,by simp,by decide,by rfl,rfl,Pairwise.nil⟩
theorem wO{l:Addr}{items:Array Value}{val:Nat->Int}{Q:aA}
  (hh:A.handled=none)(hl:s.heap.IsList l items)(hi:∀(i:Nat) (v:Value),items[i]? =some v->∃t:Tok,v=Value.int (val i) t)(J:items.size+1<scanBound)
  (h:∀(h':Heap) (tk:Nat) (es:Array (Int×Value)),bF prog w h' s.heap.objs.size es->es.size<=items.size->(∀x,x∈nums es↔∃j,j<items.size/\val j=x)->
   (∀b o,b<s.heap.objs.size->s.heap.get? b=some o->h'.get? b=some o)->Q (.ref s.heap.objs.size) {s with heap:=h',toks:=tk}):
  wpAny (model prog w) A (call (.type "set") [.ref l]) Q E s:=by
 obtain⟨c,tl,Z⟩:=di.mro
 have L:=di.made
 have hsub:=di.sub
 refine oE (rJ ?_)
 show wpAny _ _ (callAny (.type "set") _) _ _ _
 refine ak ⟨vv _ (by decide+kernel),eU zM ?_⟩
 rw[Around.under_plain (zG "set" [.ref l] []) rfl]
 have h1:=di.notType
 have h2:=di.canCreate
 have hct:=typeCall_set_1 (.ref l)
 repeat (any_goals (first|assumption|wp_step))
 refine iP (SS.code_set_new (.ref l) (E:=E) (Q₁:=λobj f=>obj= .ref s.heap.objs.size/\f={s with heap:=s.heap.push (SS.cu w)}) ⟨rfl,rfl⟩) λr f M=> ?_
 cases r with
 |error e=>exact M
 |ok fl=>
  cases fl with
  |ret obj=>
   obtain⟨rfl,rfl⟩:=M
   have hS:(s.heap.push (SS.cu w)).get? s.heap.objs.size=some (SS.cu w):=bI _ rfl
   have hT:Shared.TypeIs {s with heap:=s.heap.push (SS.cu w)} (.ref s.heap.objs.size) "set":=⟨_,hS,rfl⟩
   have hli:=di.init.lookup
   have hbi:=di.init.bind (.ref s.heap.objs.size)
   repeat (any_goals (first|assumption|wp_step))
   refine iP (rH (R:=wants (λr g=>r= .none/\∃h' tk es,g={s with heap:=h',toks:=tk}/\
     bF prog w h' s.heap.objs.size es/\es.size<=items.size/\(∀x,x∈nums es↔∃j,j<items.size/\val j=x)/\
     (∀b o,b<s.heap.objs.size->s.heap.get? b=some o->h'.get? b=some o)) E) di.init.plain entry_set_init (check_set_init_1 hT ?_)) λu g a=> ?_
   .obtain⟨ol,y,B,nl,C⟩:=hl
    obtain⟨DT,k,N,d⟩:=ol
    simp only at B C
    subst B;subst C
    have D:(s.heap.push (SS.cu w)).get? l=some {cls:= .type "list",dict:=k,data:= .seq items nl,slots:=d}:=aT _ y
    have CS:=sub_list_set
    have CQ:=PySem.F.sub_list_frozenset
    have hne:(Value.type "list" ==Value.type "dict")=false:=by decide
    have G:(s.heap.push (SS.cu w)).IsList l items:=⟨_,D,rfl,nl,rfl⟩
    unfold Builtin.«set.__init__» noKeywords Builtin.Frozenset.updateFrom
    generalize O:pyIter=PI
    wp_walk
    subst O
    refine mh G ?_
    refine af (rz ?_)
    have H:l<s.heap.objs.size:=aN y
    have P:A.in1.in1.in1.handled=none:=by simp[hh]
    have I:l≠(s.heap.push (SS.cu w)).objs.size:=by
     rw[cG];exact aY (dM H)
    have S:s.heap.objs.size∉[(s.heap.push (SS.cu w)).objs.size,l]:=by
     rw[cG];simp only[aX,bK,d7,d8,jk]
     exact⟨aY (iF _),iH H⟩
    refine loop ((Walks.list P _ l I items).toS) s.heap.objs.size S val (λi v hv=>hi i v hv) J (items.size - 0) 0 _ #[] (by omega) (cH _)
     ⟨⟨_,bI _ rfl,rfl,rfl⟩,(G.push _)⟩ ?p8 (aH _) (λx=>⟨λz=>by simp[nums] at z,λ⟨j,hj,_⟩=>absurd hj (q_ _)⟩) ?hR
    case p8=>exact bF.fresh (aT _ hS)
    case hR=>
     intro s' T K m n p
     obtain⟨h',g',d',U,V⟩:=s'
     have eg:g'=s.gens:=K.gens
     have ed:d'=s.drawn:=K.drawn
     have eo:V=s.os:=K.os
     subst eg;subst ed;subst eo
     show wpAny _ _ _ _ _ _
     refine ak ?_
     show wpAny _ _ (ret Value.none) _ _ _
     refine ak ⟨rfl,h',U,T,rfl,m,n,p,λb o J e=> ?_⟩
     have W:b≠s.heap.objs.size:=aY J
     have X:b≠(s.heap.push (SS.cu w)).objs.size:=by
      rw[cG];exact aY (dM J)
     exact K.heap b o (by simp only[aX,bK,d7,d8,jk];exact⟨W,X⟩) (aT _ (aT _ e))
   .cases u with
    |error e=>exact a
    |ok q=>
     cases q with
     |ret r=>
      obtain⟨rfl,h',tk,es,rfl,m,n,p,Y⟩:=a
      repeat (any_goals (first|assumption|wp_step))
      exact h _ _ es m n p Y
     |_=>exact a.elim
  |_=>exact M.elim
end
section
variable{prog:Program}{w:World}{A:Around}{E:aA}{s:Shared}
theorem Ia{l:Addr}{items:Array Value}{val:Nat->Int}{Q:aA}
  (hh:A.handled=none)(hl:s.heap.IsTuple l items)(hi:∀(i:Nat) (v:Value),items[i]? =some v->∃t:Tok,v=Value.int (val i) t)(J:items.size+1<scanBound)
  (h:∀(h':Heap) (tk:Nat) (es:Array (Int×Value)),bF prog w h' s.heap.objs.size es->es.size<=items.size->(∀x,x∈nums es↔∃j,j<items.size/\val j=x)->
   (∀b o,b<s.heap.objs.size->s.heap.get? b=some o->h'.get? b=some o)->Q (.ref s.heap.objs.size) {s with heap:=h',toks:=tk}):
  wpAny (model prog w) A (call (.type "set") [.ref l]) Q E s:=by
 obtain⟨c,tl,Z⟩:=di.mro
 have L:=di.made
 have hsub:=di.sub
 refine oE (rJ ?_)
 show wpAny _ _ (callAny (.type "set") _) _ _ _
 refine ak ⟨vv _ (by decide+kernel),eU zM ?_⟩
 rw[Around.under_plain (zG "set" [.ref l] []) rfl]
 have h1:=di.notType
 have h2:=di.canCreate
 have hct:=typeCall_set_1 (.ref l)
 repeat (any_goals (first|assumption|wp_step))
 refine iP (SS.code_set_new (.ref l) (E:=E) (Q₁:=λobj f=>obj= .ref s.heap.objs.size/\f={s with heap:=s.heap.push (SS.cu w)}) ⟨rfl,rfl⟩) λr f M=> ?_
 cases r with
 |error e=>exact M
 |ok fl=>
  cases fl with
  |ret obj=>
   obtain⟨rfl,rfl⟩:=M
   have hS:(s.heap.push (SS.cu w)).get? s.heap.objs.size=some (SS.cu w):=bI _ rfl
   have hT:Shared.TypeIs {s with heap:=s.heap.push (SS.cu w)} (.ref s.heap.objs.size) "set":=⟨_,hS,rfl⟩
   have hli:=di.init.lookup
   have hbi:=di.init.bind (.ref s.heap.objs.size)
   repeat (any_goals (first|assumption|wp_step))
   refine iP (rH (R:=wants (λr g=>r= .none/\∃h' tk es,g={s with heap:=h',toks:=tk}/\
     bF prog w h' s.heap.objs.size es/\es.size<=items.size/\(∀x,x∈nums es↔∃j,j<items.size/\val j=x)/\
     (∀b o,b<s.heap.objs.size->s.heap.get? b=some o->h'.get? b=some o)) E) di.init.plain entry_set_init (check_set_init_1 hT ?_)) λu g a=> ?_
   .obtain⟨ol,y,B,nl,C⟩:=hl
    obtain⟨DT,k,N,d⟩:=ol
    simp only at B C
    subst B;subst C
    have D:(s.heap.push (SS.cu w)).get? l=some {cls:= .type "tuple",dict:=k,data:= .seq items nl,slots:=d}:=aT _ y
    have CS:=PySem.F.sub_tuple_set
    have CQ:=PySem.F.sub_tuple_frozenset
    have hne:(Value.type "tuple" ==Value.type "dict")=false:=by decide
    have G:(s.heap.push (SS.cu w)).IsTuple l items:=⟨_,D,rfl,nl,rfl⟩
    unfold Builtin.«set.__init__» noKeywords Builtin.Frozenset.updateFrom
    generalize O:pyIter=PI
    wp_walk
    subst O
    refine vE G ?_
    refine af (rz ?_)
    have H:l<s.heap.objs.size:=aN y
    have P:A.in1.in1.in1.handled=none:=by simp[hh]
    have I:l≠(s.heap.push (SS.cu w)).objs.size:=by
     rw[cG];exact aY (dM H)
    have S:s.heap.objs.size∉[(s.heap.push (SS.cu w)).objs.size,l]:=by
     rw[cG];simp only[aX,bK,d7,d8,jk]
     exact⟨aY (iF _),iH H⟩
    refine loop ((Walks.tuple P _ l I items).toS) s.heap.objs.size S val (λi v hv=>hi i v hv) J (items.size - 0) 0 _ #[] (by omega) (cH _)
     ⟨⟨_,bI _ rfl,rfl,rfl⟩,(G.push _)⟩ ?p8 (aH _) (λx=>⟨λz=>by simp[nums] at z,λ⟨j,hj,_⟩=>absurd hj (q_ _)⟩) ?hR
    case p8=>exact bF.fresh (aT _ hS)
    case hR=>
     intro s' T K m n p
     obtain⟨h',g',d',U,V⟩:=s'
     have eg:g'=s.gens:=K.gens
     have ed:d'=s.drawn:=K.drawn
     have eo:V=s.os:=K.os
     subst eg;subst ed;subst eo
     show wpAny _ _ _ _ _ _
     refine ak ?_
     show wpAny _ _ (ret Value.none) _ _ _
     refine ak ⟨rfl,h',U,T,rfl,m,n,p,λb o J e=> ?_⟩
     have W:b≠s.heap.objs.size:=aY J
     have X:b≠(s.heap.push (SS.cu w)).objs.size:=by
      rw[cG];exact aY (dM J)
     exact K.heap b o (by simp only[aX,bK,d7,d8,jk];exact⟨W,X⟩) (aT _ (aT _ e))
   .cases u with
    |error e=>exact a
    |ok q=>
     cases q with
     |ret r=>
      obtain⟨rfl,h',tk,es,rfl,m,n,p,Y⟩:=a
      repeat (any_goals (first|assumption|wp_step))
      exact h _ _ es m n p Y
     |_=>exact a.elim
  |_=>exact M.elim
end
end SI
namespace L2
section
variable{X:Cx}
theorem Rw{A:Around}{E:aA}{pins:aQ}{σ:St}{H1:Hp}{d:Shared}{a:Addr}{xs:List Int}{Q:aA}(r:A.handled=none)(s:Inv X pins σ H1 d)(hq:aW X.K H1 a (xs.map V.int)\/bg X.K H1 a (xs.map V.int))(t:xs.length<64)
  (h:∀(h':Heap) (tk:Nat) (es:Array (Int×Value)),SI.bF X.prog X.w h' d.heap.objs.size es->es.size<64->(∀x,x∈SI.nums es↔x∈xs)->(∀b o,d.heap.get? b=some o->h'.get? b=some o)->Q (.ref d.heap.objs.size) {d with heap:=h',toks:=tk}):
  wpAny (model X.prog X.w) A (call (.type "set") [.ref a]) Q E d:=by
 have mem:∀(es:Array (Int×Value)) (n:Nat),n=xs.length->(∀x,x∈SI.nums es↔∃j,j<n/\xs.getD j 0=x)->∀x,x∈SI.nums es↔x∈xs:=λes n hn u x=>by
  rw[u x,hn];constructor
  .rintro ⟨j,f,rfl⟩
   rw[dF,aV f];exact cz f
  .intro y
   obtain⟨j,f,e⟩:=fV y;exact⟨j,f,by rw[dF,aV f];exact e⟩
 rcases hq with hq|hq
 .obtain⟨its,g,l,m⟩:=s.list hq
  have hsz:its.toArray.size=xs.length:=by rw[bH,<-g.length,a_]
  exact SI.wO (val:=λi=>xs.getD i 0) r l.isList (λi v p=>DP.qW g i v p) (by rw[hsz,show scanBound=4096 from rfl];omega) λh2 tk es q k c k2=>h h2 tk es q (by omega) (mem es _ hsz c) λb o e=>k2 b o (aN e) e
 .obtain⟨its,g,l,m⟩:=s.tuple hq
  have hsz:its.toArray.size=xs.length:=by rw[bH,<-g.length,a_]
  exact SI.Ia (val:=λi=>xs.getD i 0) r (show d.heap.IsTuple a its.toArray from l) (λi v p=>DP.qW g i v p) (by rw[hsz,show scanBound=4096 from rfl];omega) λh2 tk es q k c k2=>h h2 tk es q (by omega) (mem es _ hsz c) λb o e=>k2 b o (aN e) e
def Sq(K:Frag)(ta:TA):TE:=λσ H Q=>ta σ H λvs H1=>∃(a:Addr) (xs:List Int),vs=[.ref a]/\(aW K H1 a (xs.map V.int)\/bg K H1 a (xs.map V.int))/\xs.length<64/\
 ∀(ys:List Int),ys.Nodup->(∀x,x∈ys↔x∈xs)->Q (.int ys.length) H1
theorem O2{e:Expr}{ta:TA}{p1 p2 pos1 pos2:Pos}(c:X.mg "len"=none)(d:X.mg "set"=none)(hc:X.calm=true)(n:PA X [e] ta)(f:Gl X "len":=by rfl)(g:Gl X "set":=by rfl)
  (p:starEach [e] X.env=[(false,eval e X.env)]:=by rfl)(hz:starEach [.Call (.Name "set" p2) [e] [] pos2] X.env=[(false,eval (.Call (.Name "set" p2) [e] [] pos2) X.env)]:=by rfl):
  PE X (.Call (.Name "len" p1) [.Call (.Name "set" p2) [e] [] pos2] [] pos1) (Sq X.K ta):=by
 intro pins s σ H Q I h;refine jl (i_ I f c (show bootBuiltins "len"=some (.builtin "len") by with_unfolding_all rfl) ?_);refine zE ?_ hz rfl;rw[hz];refine vn (jl (i_ I g d (show bootBuiltins "set"=some (.type "set") by with_unfolding_all rfl) (nZ (aM (n pos2 pins s σ H _ I h) λE r ⟨vs,H1,i,v,w⟩=>?_) p rfl)));obtain⟨a,xs,e,x,j,q⟩:=w;subst e;obtain⟨u,rfl,ru⟩:=vals1 v;cases ru;refine Rw (i.ok.hd hc) i x j λh2 tk es y m b k=>?_;refine vp ?_;obtain⟨o,ep,t,z,hex,hd,A,l,B,C,_⟩:=y;refine PySem.call_len_set (s:={r with heap:=h2,toks:=tk}) z hex hd C (by omega) ?_;refine⟨.int es.size,H1,i.kept k,⟨_,rfl⟩,?_⟩;have:=q (SI.nums es) l b;have D:(SI.nums es).length=es.size:=by unfold SI.nums;rw[a_,bE]
 rwa [D] at this
end
end L2
namespace DP
open L2
@[irreducible] def RY(xs:List D)(A:Ar)(R:DK):Prop:=match fE xs with
 |some ns=>ns.length<64/\∀ys:List Int,ys.Pairwise (·<·)->(∀x,x∈ys↔x∈ns)->R (.ref A.length) (A++[.lst (ys.map D.int)])
 |none=>False
@[irreducible] def UK(r:Nat)(A:Ar)(R:DK):Prop:=match A[r]? with
 |some (.lst xs)=>RY xs A R
 |_=>False
@[irreducible] def lI(xs:List D)(A:Ar)(R:DK):Prop:=match fE xs with
 |some ns=>ns.length<64/\∀ys:List Int,ys.Nodup->(∀x,x∈ys↔x∈ns)->R (.int ys.length) A
 |none=>False
@[irreducible] def qe(r:Nat)(A:Ar)(R:DK):Prop:=match A[r]? with
 |some (.lst xs)=>lI xs A R
 |_=>False
def M7:fK:=λvs A R=>match vs with
 |[.tup xs]=>lI xs A R
 |[.ref r]=>qe r A R
 |_=>False
section
variable{X:Cx}{N:En}{e:Expr}{n:cV}{p1 p2 pos1 pos2:Pos}
theorem Jt(d:X.mg "len"=none)(f:X.mg "set"=none)(hc:X.calm=true)(t:PA X [e] (eS X.mg N n))(g:Gl X "len":=by rfl)(h:Gl X "set":=by rfl)
  (u:starEach [e] X.env=[(false,eval e X.env)]:=by rfl)(hz:starEach [.Call (.Name "set" p2) [e] [] pos2] X.env=[(false,eval (.Call (.Name "set" p2) [e] [] pos2) X.env)]:=by rfl):
  PE X (.Call (.Name "len" p1) [.Call (.Name "set" p2) [e] [] pos2] [] pos1) (up X.mg N (lz M7 n)):=cX (O2 d f hc t g h u hz) λσ H Q q=>by
 obtain⟨A,ι,τ,R,S,q,k⟩:=q;refine⟨A,ι,τ,_,S,q,λvs o v H1 p b s i c=>?_⟩;match vs,b,c with
 |[.tup xs],b,c=>
  obtain⟨_,_,rfl,⟨a,p,rfl,w,h2⟩,rfl⟩:=c;have b:lI xs o R:=b;unfold lI at b;split at b
  .rename_i ns j
   exact⟨_,ns,rfl,.inr (bg.of (by rw[w,ny j h2])),b.1,λys l m=>(k.from s).here i (b.2 ys l m) rfl⟩
  .exact b.elim
 |[.ref r],b,c=>
  obtain⟨_,_,rfl,⟨_,rfl⟩,rfl⟩:=c;have b:qe r o R:=b;unfold qe at b;split at b
  .rename_i xs e
   obtain⟨p,h1,h2⟩:=i.lst e;unfold lI at b;split at b
   .rename_i ns j
    exact⟨_,ns,rfl,.inl (aW.of (by rw[h1,ny j h2])),b.1,λys l m=>(k.from s).here i (b.2 ys l m) rfl⟩
   .exact b.elim
  .exact b.elim
end
theorem CV:∀ns:List Int,fE (ns.map D.int)=some ns
 |[]=>rfl
 |i::ns=>by
  show(fE (ns.map D.int)).map (i::·)=_;rw[CV ns];rfl
theorem M8{A:Ar}{r:Nat}{ns:List Int}{R:DK}(h:A[r]?=some (.lst (ns.map D.int)))(a:ns.length<64)(k:∀ys:List Int,ys.Nodup->(∀x,x∈ys↔x∈ns)->R (.int ys.length) A):qe r A R:=by
 unfold qe;rw[h];show lI (ns.map D.int) A R;unfold lI;rw[CV];exact⟨a,k⟩
@[irreducible] def anyR(r:Nat)(A:Ar)(R:DK):Prop:=match A[r]? with
 |some (.lst xs)=>(match fP xs with
  |some bs=>R (.bl (bs.any id)) A
  |none=>False)
 |_=>False
end DP
end
namespace KP
open PySem PySem.W PySem.Spec PyProof.Rows KO
section
variable{prog:Program}{w:World}{A:Around}{E:aA}{s:Shared}
theorem Di{b fin r:Bool}{Q:Bool->Shared->Prop}(q:Q r s):∀{zs:List (Value×Value)} {i:Nat},0<i->L2.g7 .Lt A s fin r zs->KatLex prog w A b fin Q zs i s
 |[],i,hi,h=>by
  cases h with
  |nil e=>exact kat_nil (by rw[e];exact q)
 |(y,x)::zs,i,hi,h=>by
  refine kat_cons ?_;cases h with
  |eq h1 h2=>exact h1 prog w _ _ (kat_yes (Di q (by omega) h2))
  |ne h1 h2=>
   refine h1 prog w _ _ (kat_no ?_);have e:(b&&i==0)=false:=by
    cases i with
    |zero=>omega
    |succ i=>simp
   rw[e];exact kat_one _ _ (h2 prog w _ _ q)
theorem MN{x y:Value}{a c:Str}{xs ys:List PyData}{as bs:List Addr}{r:Bool}{Q:Bool->Shared->Prop}(e:L2.ltQ (.tuple (.str a::xs)) (.tuple (.str c::ys))=some r)(t:Reads s.heap x (.tuple (.str a::xs)) as)(u:Reads s.heap y (.tuple (.str c::ys)) bs)
  (v:canLay0 (.tuple (.str a::xs))=true)(z:canLay0 (.tuple (.str c::ys))=true)(j:A.units+min (depthAll (.str a::xs)) (depthAll (.str c::ys))<cLine)(q:Q r s):wpAny (model prog w) A (keyLt' (tuples' true) x y) Q E s:=by
 cases t with
 | @tuple l o vs n _ h h1 h2 h3 k=>
  cases u with
  | @tuple D o' b n' _ i k1 k2 k3 m=>
   refine kat_lt h1 h3 k1 k3 ?_;rw[L2.ltQ] at e;have hsz:decide (vs.size<b.size)=decide (vs.toList.length<b.toList.length):=by simp
   rw[hsz];generalize vs.toList=F at k ⊢;generalize b.toList=B at m ⊢;have d:canLay0 (.str a)=true/\canLayAll0 xs=true:=by simpa[canLay0,canLayAll0] using v
   have f:canLay0 (.str c)=true/\canLayAll0 ys=true:=by simpa[canLay0,canLayAll0] using z
   cases k with
   |cons a1 a2=>
    cases m with
    |cons p C=>
     have g:=SeqAt.eqAt_reads (.str a) (.str c) A s _ _ _ _ a1 p d.1 f.1 (SeqAt.room_head j);cases a1;cases p;rw[List.zip_cons_cons,L2.Dg];refine kat_cons ?_;rw[L2.eN] at e;cases ce:PyData.eqv (.str a) (.str c) with
     |true=>
      rw[ce] at e g;exact g prog w _ _ (kat_yes (Di q (by omega) (L2.x_ xs ys A s _ _ _ _ r e a2 C d.2 f.2 (SeqAt.room_tail j))))
     |false=>
      rw[ce] at e g;refine g prog w _ _ (kat_no (oneLt_str ?_));have e:L2.ltQ (.str a) (.str c)=some r:=e;rw[L2.ltQ] at e;cases e;exact q
end
end KP
namespace TS
open PySem PySem.W PySem.Spec PyProof.Rows
section
variable{prog:Program}{w:World}{A:Around}{E:aA}{s:Shared}
theorem RN{κ:SortKind}{O:KeyOrd}{key:Value->O.α}{l:Addr}{vs:List Value}{Q:aA}(d:s.heap.IsList l vs.toArray)(hz:vs.length<=100000)(j:100000<sizeLine)
  (hk:∀s':Shared,(∀b o,s.heap.get? b=some o->s'.heap.get? b=some o)->2<=vs.length->∀R:SortKind->Shared->Prop,R κ s'->wpAny (model prog w) A.in1.in1 (keyKind' vs.toArray) R (λ_ _=>False) s')
  (hc:∀s':Shared,(∀b o,s.heap.get? b=some o->s'.heap.get? b=some o)->∀x∈vs,∀y∈vs,∀(R:Bool->Shared->Prop) (E:aA),R (O.blt (key x) (key y)) s'->wpAny (model prog w) A.in1.in1 (keyLt' κ x y) R E s')
  (h:∀(ys:List Value) (h':Heap) (D:Addr) (e:Nat),ys.Perm vs->ys.Pairwise (λx y=>O.kle (key x) (key y))->s.heap.objs.size<=D->h'.get? D=some (seqObj "list" ys.toArray e)->(∀b o,s.heap.get? b=some o->h'.get? b=some o)->Q (.ref D) {s with heap:=h'}):
  wpAny (model prog w) A (call (.builtin "sorted") [.ref l]) Q E s:=by
 refine zF kind_sorted plain_sorted entry_sorted (args_sorted1 _) ?_
 unfold Builtin.«sorted»
 refine af (m:=checkCount "sorted" 1 1 _) (ak ?_)
 refine af (collect_list d ?_ (by omega))
 refine af (vD ?_ (by omega))
 have hsz:((s.heap.push (seqObj "list" #[] 0)).update s.heap.objs.size (Obj.mapSeq (·++vs.toArray))).objs.size=s.heap.objs.size+1:=by
  rw[oA,oz]
 have a:(((s.heap.push (seqObj "list" #[] 0)).update s.heap.objs.size (Obj.mapSeq (·++vs.toArray))).push (seqObj "list" vs.toArray 0)).get? (s.heap.objs.size+1)=some (seqObj "list" vs.toArray 0):=by
  rw[<-hsz];exact bI _ rfl
 have keep:∀b o,s.heap.get? b=some o->(((s.heap.push (seqObj "list" #[] 0)).update s.heap.objs.size (Obj.mapSeq (·++vs.toArray))).push (seqObj "list" vs.toArray 0)).get? b=some o:=λb o q=>by
  have c:b<s.heap.objs.size:=aN q
  rw[get?_push_ne _ _ _ (by rw[hsz];exact aY (dM c)),Heap.get?_update_ne _ _ _ _ (aY c),get?_push_ne _ _ _ (aY c)]
  exact q
 have ne:∀b o,s.heap.get? b=some o->b≠s.heap.objs.size+1:=λb o q=>aY (dM (aN q))
 show wpAny _ _ _ _ _ {s with heap:=((s.heap.push (seqObj "list" #[] 0)).update s.heap.objs.size (Obj.mapSeq (·++vs.toArray))).push (seqObj "list" vs.toArray 0)}
 rw[hsz]
 refine af (dR (gY slot_list_sort ⟨_,a,rfl⟩ entry_list_sort ?body (args_list_sort _)))
 case body=>
  refine Dj (κ:=κ) (O:=O) (key:=key) (s:={s with heap:=((s.heap.push (seqObj "list" #[] 0)).update s.heap.objs.size (Obj.mapSeq (·++vs.toArray))).push (seqObj "list" vs.toArray 0)})
   a (by omega) (λs' k=>hk s' λb o q=>k b o (ne b o q) (keep b o q)) (λs' k=>hc s' λb o q=>k b o (ne b o q) (keep b o q)) λys f g=>⟨_,rfl,ak ⟨_,rfl,?_⟩⟩
  obtain⟨e,i⟩:=sortedHeap_at (out:=ys.toArray) a
  refine h ys _ _ e f g (le_succ _) i λb o q=> ?_
  rw[sortedHeap_old (ne b o q) (aN (keep b o q))]
  exact keep b o q
end
open KO
theorem Pe{α β:Type}{f:α->β}:∀{l k:List β},l.Perm k->∀{m:List α},k=m.map f->∃c:List α,c.Perm m/\l=c.map f:=by
 intro l k h;induction h with
 |nil=>
  intro m e;exact⟨[],by rw[List.map_eq_nil_iff.mp e.symm],rfl⟩
 |cons a _ n=>
  intro m e;cases m with
  |nil=>cases e
  |cons b m=>
   obtain⟨d,g⟩:=List.cons.inj (show _=f b::m.map f from e);obtain⟨c,h1,h2⟩:=n g;exact⟨b::c,h1.cons b,by rw[dg,<-d,h2]⟩
 |swap a b l=>
  intro m e;match m,e with
  |x::y::m,e=>
   obtain⟨d,g⟩:=List.cons.inj (show _=f x::f y::m.map f from e);obtain⟨o,p⟩:=List.cons.inj g;exact⟨y::x::m,Perm.swap x y m,by rw[dg,dg,<-d,<-o,p]⟩
 |trans _ _ i j=>
  intro m e;obtain⟨s,h1,h2⟩:=j e;obtain⟨q,h3,r⟩:=i h2;exact⟨q,h3.trans h1,r⟩
theorem Qp(vs:List Value)(d:Value):vs=(range vs.length).map λi=>vs.getD i d:=by
 refine List.ext_getElem (by rw[a_,om]) λi h1 h2=>?_;rw[List.getElem_map,List.getElem_range,dF,aV h1];rfl
section
variable{prog:Program}{w:World}{A:Around}{E:aA}{s:Shared}
open Classical in
theorem RO{κ:SortKind}{O:KeyOrd}{key:Nat->O.α}{l:Addr}{vs:List Value}{Q:aA}(t:s.heap.IsList l vs.toArray)(hz:vs.length<=100000)(u:100000<sizeLine)
  (hk:∀s':Shared,(∀b o,s.heap.get? b=some o->s'.heap.get? b=some o)->2<=vs.length->∀R:SortKind->Shared->Prop,R κ s'->wpAny (model prog w) A.in1.in1 (keyKind' vs.toArray) R (λ_ _=>False) s')
  (z:∀(i j:Nat) v,vs[i]? =some v->vs[j]? =some v->key i=key j)
  (hc:∀s':Shared,(∀b o,s.heap.get? b=some o->s'.heap.get? b=some o)->∀i j,i<vs.length->j<vs.length->∀C:Bool->Shared->Prop,C (O.blt (key i) (key j)) s'->kas_ask prog w A.in1.in1 κ vs i j C s')
  (h:∀(p:Array Nat) (h':Heap) (D:Addr) (e:Nat),Pm vs.length p->Up O key p vs.length->s.heap.objs.size<=D->h'.get? D=some (seqObj "list" (p.toList.map λi=>vs.getD i Value.none).toArray e)->(∀b o,s.heap.get? b=some o->h'.get? b=some o)->Q (.ref D) {s with heap:=h'}):
  wpAny (model prog w) A (call (.builtin "sorted") [.ref l]) Q E s:=by
 have ex:∃f:Value->O.α,∀i v,vs[i]? =some v->f v=key i:=by
  refine⟨λv=>if q:∃i:Nat,vs[i]? =some v then key q.choose else key 0,λi v e=> ?_⟩
  have q:∃i:Nat,vs[i]? =some v:=⟨i,e⟩
  show(if q:∃i:Nat,vs[i]? =some v then key q.choose else key 0)=key i
  rw[dif_pos q]
  exact z _ _ v q.choose_spec e
 obtain⟨f,a⟩:=ex
 refine RN (κ:=κ) (O:=O) (key:=f) t hz u hk (λs' kp x B y F R M k=> ?_) λys h' D e G m H I kp=> ?_
 .obtain⟨i,hi,rfl⟩:=fV B
  obtain⟨j,g,rfl⟩:=fV F
  rw[a i _ (aV hi),a j _ (aV g)] at k
  have:=hc s' kp i j hi g R k
  unfold kas_ask at this
  rw[dF,dF,aV hi,aV g] at this
  exact gD this (λ_ _ q=>q) λ_ _ q=>q.elim
 .obtain⟨p,p1,p2⟩:=Pe G (Qp vs Value.none)
  have N:p.length=vs.length:=by rw[p1.length_eq,om]
  refine h p.toArray h' D e (kN.mpr p1) ?_ H (by rw[<-p2];exact I) kp
  have d:∀i,i∈p->f (vs.getD i Value.none)=key i:=λi hi=>by
   have hi:i<vs.length:=mem_range.mp (p1.mem_iff.mp hi)
   refine a i _ ?_
   rw[dF,aV hi];rfl
  rw[p2,jT] at m
  intro i j J g
  have n:i<p.length:=by omega
  have r:j<p.length:=by omega
  have K:KO.kp O key p.toArray i=key p[i]:=by
   unfold KO.kp;simp[n]
  have L:KO.kp O key p.toArray j=key p[j]:=by
   unfold KO.kp;simp[r]
  rw[K,L]
  rcases f_ i j with c|c
  .have:=jS.mp m i j n r c
   rw[d _ (cz _),d _ (cz _)] at this
   exact this
  .obtain rfl:i=j:=by omega
   exact iL _
end
end TS
section
open PySem PySem.Spec PyProof.Rows
namespace L2
open PySem.SeqAt
theorem Jy{xs ys:List PyData}{u:Nat}(h1:(PyData.tuple xs).depth<=60)(a:u+64<cLine):u+2+min (depthAll xs) (depthAll ys)<cLine:=by
 have e:(PyData.tuple xs).depth=depthAll xs+1:=rfl;omega
theorem kat_tups{h:Heap}:∀{vs:List Value} {qs:List PyData},vs.length=qs.length->(∀(i:Nat) v q,vs[i]?=some v->qs[i]?=some q->∃as x r,Reads h v q as/\q=.tuple (.str x::r))->∃fs:List Value,fs.length=vs.length/\PySem.W.KatTups h vs fs/\∀v∈fs,∃x t,v=Value.str x t
 |[],[],_,_=>⟨[],rfl,.nil,λ_ h=>by cases h⟩
 |v::vs,q::qs,e,k=>by
  obtain⟨fs,h1,h2,h3⟩:=kat_tups (vs:=vs) (qs:=qs) (by simpa using e) λi c d f g=>k (i+1) c d (by simpa using f) (by simpa using g);obtain⟨as,x,r,rd,rfl⟩:=k 0 v q rfl rfl;cases rd with
  | @tuple l o j n _ a g1 g2 g3 b=>
   generalize m:j.toList=ul at b;cases b with
   | @cons p vr _ _ _ _ a1 a2=>
    cases a1 with
    |str _ t=>
     refine⟨Value.str x t::fs,by simp[h1],.cons g1 g2 g3 ?_ h2,λv hv=>?_⟩
     .rw[<-jg,m];rfl
     .rcases aX.mp hv with rfl|hv
      .exact⟨x,t,rfl⟩
      .exact h3 v hv
section
variable{X:Cx}
theorem Ic(hc:X.calm=true)(Z:X.A.units+64<cLine):dm X (.builtin "sorted") (λxs H Q=>∃(a:Addr) (vs:List V) (qs:List PyData) (O:KeyOrd) (key:Nat->O.α),xs=[.ref a]/\aW X.K H a vs/\vs.length<=1000/\vs.length=qs.length/\
  (∀(i:Nat) v q,vs[i]? =some v->qs[i]? =some q->Dp X.K H v q/\q.canLay0=true/\q.depth<=60/\∃x r,q= .tuple (.str x::r))/\(∀(i j:Nat) p q,qs[i]? =some p->qs[j]? =some q->ltQ p q=some (O.blt (key i) (key j)))/\
  ∀(l:Addr) (p:Array Nat),H l=none->KO.Pm vs.length p->KO.Up O key p vs.length->Q (.ref l) (upd H l (.lst (p.toList.map λi=>vs.getD i .aB)))):=by
 intro pins s σ H xs us Q I r h
 obtain⟨a,vs,qs,O,key,rfl,hq,G,hl,hd,hk,q⟩:=h
 obtain⟨u,rfl,ru⟩:=vals1 r
 cases ru
 obtain⟨its,J,pl,hz⟩:=I.list hq
 have L:=J.length
 have rd:∀(i:Nat) u p,its[i]? =some u->qs[i]? =some p->∃as x r,Reads s.heap u p as/\p= .tuple (.str x::r)/\p.canLay0=true/\p.depth<=60:=λi u p B M=>by
  have hi:i<its.length:=(bL.mp B).1
  obtain⟨u',E,N⟩:=Vals.get J (aV (show i<vs.length by omega))
  rw[B] at E
  cases E
  obtain⟨d1,d2,d3,x,r,d4⟩:=hd i _ p (aV (show i<vs.length by omega)) M
  obtain⟨as,d5⟩:=Dp.reads I p _ u d1 N
  exact⟨as,x,r,d5,d4,d2,d3⟩
 refine TS.RO (κ:=tuples' true) (O:=O) (key:=key) (vs:=its) pl.isList (by omega) (by decide) (λs' kp h2 R hR=> ?_) (λi j v g k=> ?_) (λs' kp i j hi U C hC=> ?_) λp h' D e P m hD ho kp=> ?_
 .obtain⟨fs,f1,f2,f3⟩:=kat_tups (h:=s'.heap) (vs:=its) (qs:=qs) (by omega) λi v q B M=>by
   obtain⟨as,x,r,g1,g2,_⟩:=rd i v q B M
   exact⟨as,x,r,PyProof.Rows.Reads.keeps kp g1,g2⟩
  refine PySem.W.kat_kind (T:=Value.type "str") f2 (by omega) (λv hv=> ?_) (by decide) hR
  obtain⟨x,t,rfl⟩:=f3 v hv
  exact PySem.W.Looks.of_pure rfl
 .have hi:i<its.length:=(bL.mp g).1
  have U:j<its.length:=(bL.mp k).1
  have d:=aV (show i<qs.length by omega)
  have f:=aV (show j<qs.length by omega)
  obtain⟨as,x,r,g1,g2,g3,S⟩:=rd i _ _ g d
  obtain⟨bs,y,t,k1,k2,k3,k4⟩:=rd j _ _ k f
  have e:=Reads.unique _ _ _ _ _ g3 g1 k1
  have h1:=hk i j _ _ d f
  have h2:=hk j i _ _ f d
  rw[e] at h1 h2
  have h3:O.blt (key i) (key j)=O.blt (key j) (key i):=Option.some.inj (h1.symm.trans h2)
  cases b:O.blt (key i) (key j) with
  |false=>exact O.total _ _ b (by rw[<-h3];exact b)
  |true=>exact absurd (show O.blt (key j) (key i)=false from KeyOrd.klt_asymm b) (by rw[<-h3,b];decide)
 .have g:=aV hi
  have k:=aV U
  have d:=aV (show i<qs.length by omega)
  have f:=aV (show j<qs.length by omega)
  obtain⟨as,x,r,g1,g2,g3,S⟩:=rd i _ _ g d
  obtain⟨bs,y,t,k1,k2,k3,k4⟩:=rd j _ _ k f
  have c:=hk i j _ _ d f
  rw[g2] at g1 g3 S c
  rw[k2] at k1 k3 c
  unfold PySem.W.kas_ask
  rw[dF,dF,g,k]
  exact KP.MN c (PyProof.Rows.Reads.keeps kp g1) (PyProof.Rows.Reads.keeps kp k1) g3 k3 (Jy S Z) hC
 .have n:∀u,s.heap.get? D≠some u:=λu z=>absurd (b8 (aN z) hD) (dZ _)
  have hn:H D=none:=by
   cases e0:H D with
   |none=>rfl
   |some o=>
    obtain⟨u,z⟩:=(I.hok _ _ e0).obj
    exact absurd z (n u)
  rw[<-L] at P m
  refine⟨.ref D,upd H D (.lst (p.toList.map λi=>vs.getD i .aB)),?_,rfl,q D p hn P m⟩
  refine I.Dy (t':=s.toks) kp (jv.new hn _) λb o F=> ?_
  by_cases Y:b=D
  .subst Y
   rw[f7] at F
   cases F
   refine .inr ⟨n,?_⟩
   refine⟨by rw[a_,bE,P.size];exact cY G (by decide),p.toList.map λi=>its.getD i Value.none,e,?_,ho⟩
   generalize p.toList=w
   induction w with
   |nil=>exact .nil
   |cons i w ih=>
    refine .cons ?_ ih
    show RelV (vs.getD i .aB) (its.getD i Value.none)
    rw[dF,dF]
    by_cases hi:i<vs.length
    .obtain⟨u',E,N⟩:=Vals.get J (aV hi)
     rw[aV hi,E]
     exact N
    .rw[n_ (by omega),n_ (by omega)]
     rfl
  .rw[bh Y] at F
   exact .inl F
end
end L2
namespace DP
open L2
@[irreducible] def qM(r:Nat)(A:Ar)(R:DK):Prop:=match A[r]? with
 |some (.lst ds)=>ds.length<=1000/\(∀d∈ds,fH d=true/\(toQ d).canLay0=true/\(toQ d).depth<=60/\∃x r,toQ d=.tuple (.str x::r))/\
  ∃(O:KeyOrd) (key:D->O.α),(∀d∈ds,∀e∈ds,ltQ (toQ d) (toQ e)=some (O.blt (key d) (key e)))/\∀es:List D,es.Perm ds->es.Pairwise (λa b=>O.kle (key a) (key b))->R (.ref A.length) (A++[.lst es])
 |_=>False
def F3:fK:=λvs A R=>match vs with
 |[.ref r]=>qM r A R
 |_=>False
theorem Nq{α:Type}(d:α):∀(l:List α),(range l.length).map (λi=>l.getD i d)=l:=λl=>by
 apply List.ext_getElem
 .simp
 .intro i h1 h2
  simp[h2]
theorem Jh{mg:au}{K:Frag}:gj mg (λxs H Q=>∃(a:Addr) (vs:List V) (qs:List PyData) (O:KeyOrd) (key:Nat->O.α),xs=[.ref a]/\aW K H a vs/\vs.length<=1000/\vs.length=qs.length/\
  (∀(i:Nat) v q,vs[i]? =some v->qs[i]? =some q->Dp K H v q/\q.canLay0=true/\q.depth<=60/\∃x r,q= .tuple (.str x::r))/\(∀(i j:Nat) p q,qs[i]? =some p->qs[j]? =some q->ltQ p q=some (O.blt (key i) (key j)))/\
  ∀(l:Addr) (p:Array Nat),H l=none->KO.Pm vs.length p->KO.Up O key p vs.length->Q (.ref l) (upd H l (.lst (p.toList.map λi=>vs.getD i .aB)))) F3:=by
 intro ds A ι H M R Q ra rs h k
 unfold F3 at h
 split at h
 .obtain⟨_,_,rfl,⟨_,rfl⟩,rfl⟩:=rs
  unfold qM at h
  split at h
  .rename_i ds e
   obtain⟨B,hd,O,key,hk,q⟩:=h
   obtain⟨xs,C,s⟩:=ra.lst e
   have w:=ao.length s
   refine⟨_,xs,ds.map toQ,O,λi=>key (ds.getD i .aB),rfl,aW.of C,by omega,by simp[w],λi v p c b=> ?_,λi j p N c b=> ?_,λl p hn n g=> ?_⟩
   .rw[cy] at b
    cases f:ds[i]? with
    |none=>rw[f] at b;cases b
    |some d=>
     rw[f] at b
     cases b
     obtain⟨E,g1,g2⟩:=ao.get s f
     rw[c] at g1
     cases g1
     obtain⟨p1,p2,F,G⟩:=hd d (jj f)
     exact⟨RV.dp _ _ p1 g2,p2,F,G⟩
   .rw[cy] at c b
    cases f:ds[i]? with
    |none=>rw[f] at c;cases c
    |some d=>
     cases o:ds[j]? with
     |none=>rw[o] at b;cases b
     |some d'=>
      rw[f] at c
      rw[o] at b
      cases c
      cases b
      show ltQ (toQ d) (toQ d')=some (O.blt (key (ds.getD i .aB)) (key (ds.getD j .aB)))
      rw[dF,dF,f,o]
      exact hk d (jj f) d' (jj o)
   .rw[<-w] at n g
    have hz:=n.size
    have t:(p.toList.map λi=>ds.getD i .aB).Perm ds:=by
     have:=(kN.mp n).map λi=>ds.getD i D.aB
     rwa [Nq] at this
    refine jH k ra (ds:=p.toList.map λi=>ds.getD i .aB) ?_ (q _ t ?_) hn
    .refine ao.of_get (by simp) λi d v c b=> ?_
     rw[cy] at c b
     cases ep:p.toList[i]? with
     |none=>rw[ep] at c;cases c
     |some m=>
      rw[ep] at c b
      have I:m<ds.length:=by
       have:=(kN.mp n).mem_iff.mp (jj ep)
       simpa using this
      have y:=aV I
      obtain⟨E,g1,g2⟩:=ao.get s y
      have c:some (ds.getD m .aB)=some d:=c
      have b:some (xs.getD m .aB)=some v:=b
      rw[dF,y] at c
      rw[dF,g1] at b
      cases c
      cases b
      exact g2
    .rw[jT,jS]
     intro i j hi z u
     have:=g i j (ji u) (by simpa[hz] using z)
     unfold KO.kp at this
     have J:p.getD i 0=p.toList[i]:=by
      rw[gi,cP (by simpa using hi)]
      simp
     have L:p.getD j 0=p.toList[j]:=by
      rw[gi,cP (by simpa using z)]
      simp
     rw[J,L] at this
     exact this
  .exact h.elim
 .exact h.elim
theorem RU{A:Ar}{r:Nat}{ds:List D}{R:DK}(O:KeyOrd)(key:D->O.α)(h:A[r]?=some (.lst ds))(c:ds.length<=1000)(hd:∀d∈ds,fH d=true/\(toQ d).canLay0=true/\(toQ d).depth<=60/\∃x r,toQ d=.tuple (.str x::r))
  (hk:∀d∈ds,∀e∈ds,ltQ (toQ d) (toQ e)=some (O.blt (key d) (key e)))(k:∀es:List D,es.Perm ds->es.Pairwise (λa b=>O.kle (key a) (key b))->R (.ref A.length) (A++[.lst es])):qM r A R:=by
 unfold qM;simp only[h];exact⟨c,hd,O,key,hk,k⟩
def nP(P Q:KeyOrd):KeyOrd where
 α:=P.α×Q.α
 blt a b:=P.blt a.1 b.1||(!P.blt b.1 a.1&&Q.blt a.2 b.2)
 irrefl a:=by simp[P.irrefl,Q.irrefl]
 trans a b c h1 h2:=by
  obtain⟨a1,a2⟩:=a
  obtain⟨b1,b2⟩:=b
  obtain⟨c1,c2⟩:=c
  simp only[or_eq_true,dh,q9] at h1 h2 ⊢
  rcases h1 with h1|⟨h1,k1⟩
  .refine .inl ?_
   rcases h2 with h2|⟨h2,_⟩
   .exact P.trans _ _ _ h1 h2
   .exact KeyOrd.klt_of_klt_of_kle h1 h2
  .rcases h2 with h2|⟨h2,k2⟩
   .exact .inl (KeyOrd.klt_of_kle_of_klt h1 h2)
   .exact .inr ⟨kT h1 h2,Q.trans _ _ _ k1 k2⟩
 negTrans a b c h:=by
  obtain⟨a1,a2⟩:=a
  obtain⟨b1,b2⟩:=b
  obtain⟨c1,c2⟩:=c
  simp only[or_eq_true,dh,q9] at h ⊢
  rcases h with h|⟨h,k⟩
  .rcases P.negTrans _ b1 _ h with h|h
   .exact .inl (.inl h)
   .exact .inr (.inl h)
  .cases e1:P.blt a1 b1 with
   |true=>exact .inl (.inl rfl)
   |false=>
    cases e2:P.blt b1 c1 with
    |true=>exact .inr (.inl rfl)
    |false=>
     have x1:P.blt b1 a1=false:=kT (O:=P) (a:=a1) (b:=c1) (c:=b1) h e2
     have x2:P.blt c1 b1=false:=kT (O:=P) (a:=b1) (b:=a1) (c:=c1) e1 h
     rcases Q.negTrans _ b2 _ k with k|k
     .exact .inl (.inr ⟨x1,k⟩)
     .exact .inr (.inr ⟨x2,k⟩)
 total a b h1 h2:=by
  obtain⟨a1,a2⟩:=a
  obtain⟨b1,b2⟩:=b
  simp only[Bool.or_eq_false_iff] at h1 h2
  have e:=P.total _ _ h1.1 h2.1
  subst e
  simp only[P.irrefl,Bool.not_false,Bool.true_and,true_and] at h1 h2
  rw[Q.total _ _ h1 h2]
def s_:KeyOrd where
 α:=Int
 blt a b:=decide (a<b)
 irrefl a:=by simp
 trans a b c h1 h2:=by simp only[jW] at*;omega
 negTrans a b c h:=by simp only[jW] at*;omega
 total a b h1 h2:=by simp only[zW] at*;omega
abbrev e9:KeyOrd:=strKind.toKeyOrd
theorem ze{a b:Str}(h:a.cps.toList=b.cps.toList):a=b:=by
 cases a;cases b;simp at h;simpa using toList_inj.mp (by simpa using h)
theorem Nf{a b:Str}{O:KeyOrd}{x y:O.α}{xs ys:List PyData}(h:eN xs ys=some (O.blt x y)):ltQ (.tuple (.str a::xs)) (.tuple (.str b::ys))=some ((nP e9 O).blt (a.cps.toList,x) (b.cps.toList,y)):=by
 rw[ltQ,eN];cases c:PyData.eqv (.str a) (.str b) with
 |true=>
  have e:a=b:=by simpa[PyData.eqv] using c
  subst e;show eN xs ys=_;rw[h];show some (O.blt x y)=some (e9.blt a.cps.toList a.cps.toList||(!e9.blt a.cps.toList a.cps.toList&&O.blt x y));have d:e9.blt a.cps.toList a.cps.toList=false:=e9.irrefl _;rw[d];simp
 |false=>
  have e:a≠b:=by
   intro z;subst z;simp[PyData.eqv] at c
  show ltQ (.str a) (.str b)=some (e9.blt a.cps.toList b.cps.toList||(!e9.blt b.cps.toList a.cps.toList&&O.blt x y));rw[ltQ];show some (e9.blt a.cps.toList b.cps.toList)=_;cases f:e9.blt a.cps.toList b.cps.toList with
  |true=>rfl
  |false=>
   cases g:e9.blt b.cps.toList a.cps.toList with
   |true=>rfl
   |false=>exact absurd (ze (e9.total _ _ f g)) e
theorem Nc{i j:Int}{O:KeyOrd}{x y:O.α}{xs ys:List PyData}(h:eN xs ys=some (O.blt x y)):eN (.int i::xs) (.int j::ys)=some ((nP s_ O).blt (i,x) (j,y)):=by
 rw[eN];show _=some (decide (i<j)||(!decide (j<i)&&O.blt x y));cases c:PyData.eqv (.int i) (.int j) with
 |true=>
  have e:i=j:=by simpa[PyData.eqv] using c
  subst e;show eN xs ys=_;rw[h];simp
 |false=>
  have e:i≠j:=by simpa[PyData.eqv] using c
  show ltQ (.int i) (.int j)=_;rw[ltQ];by_cases a:i<j
  .simp[a]
  .have b:j<i:=by omega
   simp[a,b]
def qU:KeyOrd where
 α:=Unit
 blt _ _:=false
 irrefl _:=rfl
 trans _ _ _ h _:=by cases h
 negTrans _ _ _ h:=by cases h
 total _ _ _ _:=rfl
theorem Nd:eN [] []=some (qU.blt () ()):=rfl
end DP
end
namespace L2
theorem bA{N P:List PySem.Str}{sc:PySem.Scope}(kind:sc.kind=.function:=by rfl)(co:sc.isCoroutine=false:=by rfl)(gen:sc.isGenerator=false:=by rfl)(nd:N.Nodup:=by decide+kernel)(pre:N.take P.length=P:=by rfl)
 (par:∀x∈P,sc.names.lookup x=some .local\/sc.names.lookup x=some .cell:=by decide+kernel)(yp:∀y∈sc.names,y.2≠ .free:=by decide+kernel):bf N P sc:=⟨kind,co,gen,nd,pre,par,yp⟩
end L2
section
open PySem PySem.Spec PyProof.Rows
namespace DP
open L2
section
variable{X:Cx}{N:En}{pos pos':Pos}{e a b:Expr}{m ma mb:aU}{x:Str}(i:Nat)
theorem dS(a:X.N.Nodup)(b:PE X e (up X.mg N m))(hi:X.N[i]?=some x:=by rfl)(c:Loc X.env.scope x:=by first|exact .inl rfl|exact .inr rfl)(d:swapsWith e (some (.Name x pos')) pos.line X.env=pure false:=by rfl)(f:X.fn x=true\/X.env.scope.names.lookup x=some .local:=by first|exact .inl rfl|exact .inr rfl|assumption):
 PS X (.Assign [.Name x pos'] e pos) (bZ X.mg N (uR i m)):=JL a hi c b d f
theorem dG(a:X.N.Nodup)(hi:X.N[i]?=some x:=by rfl)(b:Loc X.env.scope x:=by first|exact .inl rfl|exact .inr rfl)(c:X.fn x=true\/X.env.scope.names.lookup x=some .local:=by first|exact .inl rfl|exact .inr rfl|assumption):PG X (.Name x pos) (lX X.mg N (gN i)):=JA a hi b c
theorem pG(a:X.N.Nodup)(hi:X.N[i]?=some x:=by rfl)(b:Loc X.env.scope x:=by first|exact .inl rfl|exact .inr rfl)(c:X.fn x=true\/X.env.scope.names.lookup x=some .local:=by first|exact .inl rfl|exact .inr rfl|assumption):PG X (.Name x pos) (nj i):=D8 a hi b c
end
section
variable{X:Cx}{N:En}{pos p:Pos}{e a b:Expr}{ma mb:aU}{x:Str}{es:List Expr}{k r n:Nat}{ps:List Str}{S:Ct}{RE:DX}{m:cV}
theorem dX(c:X.A.units+64<cLine)(d:PE X a (up X.mg N ma))(e:PE X b (up X.mg N mb))(f:we b:=by exact λ_ _=>rfl):PE X (.Subscript a b pos) (up X.mg N (c9 lE ma mb)):=Js c d e f
theorem dL(F:ay X.prog X.w X.K X.mg X.base k x ps (av X.mg n S))(c:cR r X.A)(d:Passes (bu X.prog X.w) X (EL X.mg N RE))(f:PA X (e::es) (eS X.mg N m))(hk:k<=r:=by omega)(g:Gl X x:=by rfl)(a:(x==("__debug__":Str))=false:=by decide)
 (h:starEach (e::es) X.env=(false,eval e X.env)::starEach es X.env:=by rfl)(b:(backTo pos (starEach es X.env)).any (·.1)=false:=by rfl):
 PE X (.Call (.Name x p) (e::es) [] pos) (up X.mg N (pP n S RE m)):=Jl F (c.mono hk) d f g a h b
end
theorem bO{P:Program}{w:World}{K:Frag}{mg:au}{base:Heap}{x:Str}{st:Stmt}{Nm ps:List Str}{k n:Nat}{S:Ct}(T:TopD K mg x st ps)(Sc:bf Nm ps (aE st))
  (b:∀{N:En} {RE:DX} {f:Addr} {a:Value} {B:Around} {outer:List Env} {s:Shared} {H:Hp} {E:XK},cR k (bM (bu P w) P w K mg base Nm x (aE st) f a B outer s H E).A->
   Raises (bM (bu P w) P w K mg base Nm x (aE st) f a B outer s H E) (EL mg N RE)->Passes (bu P w) (bM (bu P w) P w K mg base Nm x (aE st) f a B outer s H E) (EL mg N RE)->
   (bM (bu P w) P w K mg base Nm x (aE st) f a B outer s H E).A.units+64<cLine->Nm.Nodup->
   ∃m,cj (bM (bu P w) P w K mg base Nm x (aE st) f a B outer s H E) (fC st) (bZ mg N m)/\∀ds A R,S ds A R RE->ds.length=n->m {nx:=λ_ A'=>R .aB A',rt:=R} (iC (Nm.length - n) ds) A)(hn:ps.length=n:=by rfl)(d:ps.length<=Nm.length:=by decide):ay P w K mg base (k+1) x ps (av mg n S):=
 gM T Sc hn d λN RE f a B outer s H E c e g ds A R h i=>by
  obtain⟨m,h1,h2⟩:=b c e g c.units Sc.nd;exact⟨m,h1,h2 ds A R h i⟩
open MA
structure o4(x:Rat):Prop where
 pos:0<x
 num:(rf x).1<=1152921504606846976
 den:(rf x).2<=1152921504606846976
theorem vW.w{x:Rat}(h:vW x):o4 x:=⟨h.pos,by have:=h.num;omega,by have:=h.den;omega⟩
theorem HV{xs:List Rat}(h:∀x∈xs,o4 x)(a:xs.length<=32):bot xs 1<=1152921504606846976 ^ 32:=by
 have:=bot_le 1152921504606846976 (by decide) xs 1 (by decide) λx b=>(h x b).den;rw[one_mul] at this;exact d9 this (Py (c:=1152921504606846976) (by decide) a)
theorem Gq{xs:List Rat}(h:∀x∈xs,o4 x)(c:xs.length<=32){n:Int}(hn:n∈ups xs):0<n/\n<=1152921504606846976 ^ 33:=by
 obtain⟨x,a,rfl⟩:=aS.mp hn;have f:=h x a;refine⟨vd a f.pos,?_⟩;have d:=HV h c;obtain⟨b,_,_⟩:=k_ xs 1 (by decide);have h1:bot xs 1/(rf x).2<=bot xs 1:=ediv_le_self _ (iK b);have h0:0<=bot xs 1/(rf x).2:=Int.ediv_nonneg (iK b) (iK (gA x));have e:=nK f.pos;rw[show(33:Nat)=32+1 from rfl,rE,kI _ (1152921504606846976:Int)];exact iG f.num (d9 h1 d) h0 (by decide)
theorem yd{n:Int}(h0:0<n)(h:n<=1152921504606846976 ^ 33):n.natAbs.log2<9000:=
 M_ (Nat.lt_of_le_of_lt (NQ (c:=1152921504606846976) h0 h) (by decide+kernel))
theorem F2{n:Int}(h:n<=1152921504606846976):n<=1152921504606846976 ^ 33:=d9 h (by decide+kernel)
end DP
variable{P:Program}{w:World}{K:Frag}{mg:au}{base:Heap}
namespace My
open L2 DP
def top(i:Nat):Stmt:=PySem.Challenge.pw_hangstill_k06_whole_hung.main.body.getD i (.Pass ⟨0,0,0,0⟩)
abbrev yT:Stmt:=top 15
abbrev ku:List Str:=["thing","first","last"]
theorem FL:bf ["thing","first","last"] ku (aE yT):=bA
abbrev yR:Stmt:=top 16
abbrev kr:List Str:=["thing"]
theorem FI:bf ["thing"] kr (aE yR):=bA
abbrev E9:Stmt:=top 17
abbrev uq:List Str:=["thing","rods"]
theorem Q7:bf ["thing","rods"] uq (aE E9):=bA
abbrev E8:Stmt:=top 18
abbrev uo:List Str:=["thing"]
theorem Q6:bf ["thing"] uo (aE E8):=bA
abbrev E5:Stmt:=top 19
abbrev lR:List Str:=["thing"]
theorem Q3:bf ["thing"] lR (aE E5):=bA
abbrev yS:Stmt:=top 20
abbrev lS:List Str:=["thing"]
theorem FJ:bf ["thing"] lS (aE yS):=bA
abbrev yU:Stmt:=top 21
abbrev lT:List Str:=["thing"]
theorem FN:bf ["thing","names"] lT (aE yU):=bA
abbrev yP:Stmt:=top 22
abbrev lQ:List Str:=["thing"]
theorem FG:bf ["thing"] lQ (aE yP):=bA
abbrev yQ:Stmt:=top 23
abbrev ko:List Str:=["mobile","weights"]
theorem FH:bf ["mobile","weights","numbers","way","name"] ko (aE yQ):=bA
abbrev Fp:Stmt:=top 24
abbrev uB:List Str:=["mobile"]
theorem Rk:bf ["mobile"] uB (aE Fp):=bA
abbrev Ff:Stmt:=top 25
abbrev nM:List Str:=["mobile","way"]
theorem Rb:bf ["mobile","way"] nM (aE Ff):=bA
abbrev Fg:Stmt:=top 26
abbrev nN:List Str:=["mobile","numbers"]
theorem Rf:bf ["mobile","numbers"] nN (aE Fg):=bA
abbrev Fl:Stmt:=top 27
abbrev uA:List Str:=["rod","numbers"]
theorem Ri:bf ["rod","numbers"] uA (aE Fl):=bA
abbrev Fy:Stmt:=top 28
abbrev uG:List Str:=["mobile","way","numbers"]
theorem FQ:bf ["mobile","way","numbers","both","told"] uG (aE Fy):=bA
abbrev s_load:Stmt:=top 29
abbrev ux:List Str:=["mobile","weights"]
theorem Rc:bf ["mobile","weights"] ux (aE s_load):=bA
abbrev Fx:Stmt:=top 30
abbrev uF:List Str:=["mobile","weights"]
theorem Rp:bf ["mobile","weights"] uF (aE Fx):=bA
abbrev E_:Stmt:=top 31
abbrev ur:List Str:=["mobile","weights"]
theorem Q8:bf ["mobile","weights"] ur (aE E_):=bA
abbrev E6:Stmt:=top 33
abbrev qq:List Str:=["one","other"]
theorem Q4:bf ["one","other","rest"] qq (aE E6):=bA
abbrev Fo:Stmt:=top 34
abbrev qt:List Str:=["top","bottom"]
theorem Rj:bf ["top","bottom","divisor"] qt (aE Fo):=bA
abbrev Fj:Stmt:=top 35
abbrev uz:List Str:=["one","other"]
theorem Rh:bf ["one","other"] uz (aE Fj):=bA
abbrev Fe:Stmt:=top 36
abbrev uw:List Str:=["fractions"]
theorem Ra:bf ["fractions","bottom","fraction","numbers","divisor","number"] uw (aE Fe):=bA
abbrev Fv:Stmt:=top 38
abbrev uD:List Str:=["one","other","numbers"]
theorem Rn:bf ["one","other","numbers"] uD (aE Fv):=bA
abbrev Fw:Stmt:=top 39
abbrev uE:List Str:=["one","other","numbers"]
theorem Ro:bf ["one","other","numbers","arms"] uE (aE Fw):=bA
abbrev E7:Stmt:=top 40
abbrev um:List Str:=["one","other","weights"]
theorem Q5:bf ["one","other","weights","rod"] um (aE E7):=bA
abbrev Ft:Stmt:=top 42
abbrev uC:List Str:=["mobile","way","share"]
theorem FP:bf ["mobile","way","share","both","left","right"] uC (aE Ft):=bA
abbrev Fi:Stmt:=top 43
abbrev uy:List Str:=["mobile"]
theorem Rg:bf ["mobile"] uy (aE Fi):=bA
abbrev Fd:Stmt:=top 44
abbrev uv:List Str:=["fractions"]
theorem Q_:bf ["fractions","names"] uv (aE Fd):=bA
abbrev Fq:Stmt:=top 45
abbrev qu:List Str:=["mobile"]
theorem Rm:bf ["mobile"] qu (aE Fq):=bA
abbrev E4:Stmt:=top 46
abbrev uh:List Str:=["mobile"]
theorem Q2:bf ["mobile","first","way","name","share"] uh (aE E4):=bA
abbrev Fc:Stmt:=top 47
abbrev uu:List Str:=["mobile"]
theorem Q9:bf ["mobile"] uu (aE Fc):=bA
abbrev EW:Stmt:=top 49
abbrev ua:List Str:=["_law_script","_law_k"]
theorem QW:bf ["_law_script","_law_k"] ua (aE EW):=bA
abbrev E1:Stmt:=top 50
abbrev ue:List Str:=["_law_script","_law_k","_law_many"]
theorem QZ:bf ["_law_script","_law_k","_law_many","_law_drawn"] ue (aE E1):=bA
abbrev EY:Stmt:=top 51
abbrev nL:List Str:=["_law_script","_law_town","_law_many"]
theorem QX:bf ["_law_script","_law_town","_law_many"] nL (aE EY):=bA
abbrev E2:Stmt:=top 52
abbrev qp:List Str:=["_law_script","_law_town","_law_some"]
theorem Q0:bf ["_law_script","_law_town","_law_some"] qp (aE E2):=bA
abbrev E3:Stmt:=top 53
abbrev uf:List Str:=["_law_script","_law_town","_law_deep_here","_law_count"]
theorem FE:bf ["_law_script","_law_town","_law_deep_here","_law_count","_law_arms","_law_parts"] uf (aE E3):=bA
abbrev EZ:Stmt:=top 54
abbrev ud:List Str:=["_law_up","_law_down"]
theorem QY:bf ["_law_up","_law_down","_law_one","_law_other"] ud (aE EZ):=bA
abbrev EX:Stmt:=top 55
abbrev uc:List Str:=["_law_mobile"]
theorem FD:bf ["_law_mobile"] uc (aE EX):=bA
abbrev yO:Stmt:=top 56
abbrev ug:List Str:=["_law_e"]
theorem FF:bf ["_law_e","_law_own"] ug (aE yO):=bA
abbrev EV:Stmt:=top 57
abbrev t_:List Str:=["_law_one","_law_other","_law_weights"]
theorem FA:bf ["_law_one","_law_other","_law_weights","_law_e"] t_ (aE EV):=bA
abbrev EU:Stmt:=top 58
abbrev t9:List Str:=["_law_mobile"]
theorem Fz:bf ["_law_mobile"] t9 (aE EU):=bA
abbrev jK:Stmt:=top 59
abbrev yx:List Str:=["_law_script"]
theorem FO:bf ["_law_script","_law_town","_law_one","_law_other","_law_often","_law_rows","_law_weights","_law_heavy","_law_right","_law_left","_law_made","_law_due","_law_odd","_law_book","_law_small"] yx (aE jK):=bA
open MA
theorem KD(T:TopD K mg "is_number" yT ku)(d:mg "isinstance"=none)(f:mg "bool"=none)(g:mg "int"=none):ay P w K mg base 1 "is_number" ku (av mg 3 wk):=by
 refine bO T FL λj k l m nd=>⟨_,(aF (bz (PW.pt (fD (dI (gJ C3 d f boot_bool (vr 0))) (fY (dH (dI (gJ C4 d g boot_int (vr 0))))))) (aC (aO eL)) bG)
  (aC (aO (sM (vr 1) (vr 0) (vr 2))))),λds A R h n=>?_⟩
 obtain⟨v,⟨i,a,b,rfl,rfl⟩,q⟩:=h;refine cD (λc=>?_) (λc=>?_)
 .have e:(decide (a<=i)&&decide (i<=b))=decide (i<=b):=by simp[c]
  rw[e] at q;exact q _ Gr.refl
 .have e:(decide (a<=i)&&decide (i<=b))=false:=by simp[c]
  rw[e] at q;exact q _ Gr.refl
theorem qo{c d:Nat}:([c]:List Nat)<[d]↔c<d:=by simp[List.cons_lt_cons_iff]
theorem yW:("a":Str).cps.toList=[97]:=by decide+kernel
theorem uU:("z":Str).cps.toList=[122]:=by decide+kernel
theorem KC(T:TopD K mg "is_name" yR kr)(b:mg "isinstance"=none)(d:mg "str"=none)(g:mg "len"=none)(i:mg "all"=none){t:Tok}(a:mg "LONGEST_NAME"=some (.int 3 t)):ay P w K mg base 1 "is_name" kr (av mg 1 wj):=by
 refine bO T FI λp r j s nd=>⟨_,(aF (bz (PW.pt (fD (dH (dI (gJ xY b d boot_str (vr 0)))) (fY (dH (Gb aq (cS gm fT g gF (aa (vr 0) ah)) (jy a)))))) (aC (aO eL)) bG)
  (aC (aO (cS (pM rfl) pR i boot_all (aa (gq none (own:=["letter"]) (frees:=[]) (ix:=[]) rfl (BQ (vr 0)) (λc=>(pG 0 (show(["letter"]:List Str).Nodup by decide+kernel))) (λc=>(sM bx (vr 0) bx))) ah))))),λds A R h u=>?_⟩
 obtain⟨v,⟨n,rfl,hn,rfl⟩,q⟩:=h;have hz:n.length<=sizeLine:=cY hn.hi (by decide);have h1:=hn.lo;have h3:=hn.hi;refine⟨hz,cD (λ_=>?_) (λc=>absurd (show(1:Int)<=(n.length:Nat) by omega) c)⟩;refine cN (λc=>absurd (show((n.length:Nat):Int)<=3 by omega) c) (λ_=>?_);refine fQ (f:=λ_=>.bl true) trivial _ _ (λx j=>⟨[x],rfl,λQ k=>?_⟩) ?_ ?_
 .obtain⟨c,hc,rfl⟩:=aS.mp j
  obtain⟨y,z⟩:=hn.az c hc;have l:¬((⟨#[c]⟩:Str).cps.toList<("a":Str).cps.toList):=by
   rw[yW];intro h;have:=qo.mp h;omega
  have m:¬(("z":Str).cps.toList<(⟨#[c]⟩:Str).cps.toList):=by
   rw[uU];intro h;have:=qo.mp h;omega
  refine cN (λ_=>?_) (λh=>absurd h l);have o:(!decide (("z":Str).cps.toList<(⟨#[c]⟩:Str).cps.toList))=true:=by rw[eG m];rfl
  show Q (.bl (!decide (("z":Str).cps.toList<(⟨#[c]⟩:Str).cps.toList))) A;rw[o];exact k
 .have:(eZ n).length=n.length:=by simp[eZ,Str.length]
  show 0+(eZ n).length<=sizeLine;omega
 .refine pH (bs:=(eZ n).map λ_=>true) aK (mW _ _) ?_
  have e:((eZ n).map λ_=>true).all id=true:=by simp
  rw[e];exact q _ Gr.push
theorem Kz(T:TopD K mg "is_mobile_within" E9 uq)(i:mg "isinstance"=none)(x:mg "str"=none)(u:mg "tuple"=none)(k:mg "len"=none){t:Tok}(g:mg "LONGEST_ARM"=some (.int 9 t))
  (o:ay P w K mg base 1 "is_name" kr (av mg 1 wj))(j:ay P w K mg base 1 "is_number" ku (av mg 3 wk)):∀d,ay P w K mg base (d+1) "is_mobile_within" uq (av mg 2 (Aq d)):=by
 intro d;induction d with
 |zero=>
  refine j8 T λds A R RE h=>?_;obtain⟨v,⟨m,_,_,h,_⟩,_⟩:=h;omega
 |succ d e=>
  refine gM T Q7 rfl (by decide) λN RE f G B outer s H E y U z ds A R h V=>?_;have p:=y.units;refine⟨_,(aF (bz (PW.pt (fD (dH (dI (gJ kit_tuple i u mD (vr 0)))) (fD (gR p (cS gm fT k gF (aa (vr 0) ah)) aq) (fY (dH (dI (gJ xY i x boot_str (dX p (vr 0) aq)))))))) (aC (aO eL)) bG)
  (aF (bz (gR p (dX p (vr 0) aq) bx) (aC (aO (sE (m8 p (cS gm fT k gF (aa (vr 0) ah)) aq) (sF (dL o y z (aa (dX p (vr 0) aq) ah)))))) bG)
  (aF (bz (PW.pt (fD (jL p (dX p (vr 0) aq) bx) (fD (jL p (cS gm fT k gF (aa (vr 0) ah)) aq) (fY (gR p (vr 1) aq))))) (aC (aO eL)) bG)
  (aF (bz (PW.pt (fD (dH (dI (dL j y z (aa (dX p (vr 0) aq) (aa aq (aa (jy g) ah)))))) (fY (dH (dI (dL j y z (aa (dX p (vr 0) aq) (aa aq (aa (jy g) ah))))))))) (aC (aO eL)) bG)
  (aC (aO (sE (dL e y z (aa (dX p (vr 0) aq) (aa (xj (vr 1) aq) ah))) (sF (dL e y z (aa (dX p (vr 0) aq) (aa (xj (vr 1) aq) ah))))))))))),?_⟩
  obtain⟨v,⟨m,rfl,C,hd,rfl⟩,q⟩:=h;cases m with
  |wt n=>
   exact⟨rfl,_,⟨n,rfl,C.nm n (by simp[aP.names]),rfl⟩,q⟩
  |aG l r a b=>
   obtain⟨⟨h1,h2,h3,I,J,L⟩,hn⟩:=C;have M:max a.deep b.deep+1<d+1:=hd;have F:((d+1:Nat):Int) - 1 - 1=(d:Int) - 1:=by omega
   have O:(decide (1<=l)&&decide (l<=9))=true:=by simp[h1,h2]
   have Q:(decide (1<=r)&&decide (r<=9))=true:=by simp[h3,I]
   refine cD (λc=>absurd c (by omega)) (λ_=>?_);refine⟨rfl,_,⟨l,1,9,rfl,rfl⟩,λW g1=>?_⟩;rw[O];refine⟨rfl,_,⟨r,1,9,rfl,rfl⟩,λX g2=>?_⟩;rw[Q];refine⟨rfl,_,⟨a,show [enc a,D.int (((d+1:Nat):Int) - 1 - 1)]=_ by rw[F],⟨J,λn h=>hn n (by simp[aP.names,h])⟩,by omega,rfl⟩,λY g3=>?_⟩;refine⟨rfl,_,⟨b,show [enc b,D.int (((d+1:Nat):Int) - 1 - 1)]=_ by rw[F],⟨L,λn h=>hn n (by simp[aP.names,h])⟩,by omega,rfl⟩,λZ S=>?_⟩;exact q _ (((g1.trans g2).trans g3).trans S)
theorem KA(T:TopD K mg "is_mobile" E8 uo){t:Tok}(b:mg "MOST_RODS"=some (.int 5 t))(a:ay P w K mg base 7 "is_mobile_within" uq (av mg 2 (Aq 6))):ay P w K mg base 8 "is_mobile" uo (av mg 1 Ao):=by
 refine bO T Q6 λc f d g nd=>⟨_,(aC (aO (dL a c d (aa (vr 0) (aa (jy b) ah))))),λds A R h i=>?_⟩;obtain⟨v,⟨m,rfl,e,hd,rfl⟩,q⟩:=h;exact⟨rfl,_,⟨m,rfl,e,by omega,rfl⟩,q⟩
theorem Ks(T:TopD K mg "check_mobile" E5 lR){a:Addr}(c:mg "NoMobile"=some (.ref a))(d:excIn K a iD "ValueError.__new__"=true)(b:ay P w K mg base 8 "is_mobile" uo (av mg 1 Ao)):ay P w K mg base 9 "check_mobile" lR (av mg 1 o8):=by
 refine bO T Q3 λe f g j nd=>⟨_,(aC (bz (dH (dI (dL b e g (aa (vr 0) ah)))) (aC (j6 f rfl c d (aa bx ah))) bG)),λds A R h k=>?_⟩;obtain⟨v,⟨m,rfl,i,hd,rfl⟩,q⟩:=h;exact⟨rfl,_,⟨m,rfl,i,hd,rfl⟩,λl g1=>q _ g1⟩
end My
namespace DP
open L2 MA
abbrev Ai:Ct:=SV λds v=>∃rs,ds=[bV rs]/\iY rs/\v=.aB
end DP
namespace My
open L2 DP MA
theorem KW(T:TopD K mg "is_named_number" yS lS)(a:mg "isinstance"=none)(e:mg "tuple"=none)(f:mg "len"=none){t:Tok}(c:mg "HEAVIEST"=some (.int 999999 t))
  (d:ay P w K mg base 1 "is_name" kr (av mg 1 wj))(b:ay P w K mg base 1 "is_number" ku (av mg 3 wk)):ay P w K mg base 2 "is_named_number" lS (av mg 1 AD):=by
 refine bO T FJ λi k j g nd=>⟨_,(aF (bz (PW.pt (fD (dH (dI (gJ kit_tuple a e mD (vr 0)))) (fY (jL g (cS gm fT f gF (aa (vr 0) ah)) aq)))) (aC (aO eL)) bG)
  (aC (aO (sE (dL d i j (aa (dX g (vr 0) aq) ah)) (sF (dL b i j (aa (dX g (vr 0) aq) (aa aq (aa (jy c) ah))))))))),λds A R h l=>?_⟩
 obtain⟨v,⟨r,rfl,hn,⟨h1,h2⟩,rfl⟩,q⟩:=h;refine⟨rfl,_,⟨r.1,rfl,hn,rfl⟩,λm g1=>?_⟩;refine⟨rfl,_,⟨r.2,1,999999,rfl,rfl⟩,λn g2=>?_⟩;rw[show(decide (1<=r.2)&&decide (r.2<=999999))=true by simp[h1,h2]];exact q _ (g1.trans g2)
theorem pw_eq{ys ss:List Str}(h1:ys.Pairwise strLt)(h2:ss.Pairwise strLt)(b:∀x,x∈ys↔x∈ss):ys=ss:=by
 induction ys generalizing ss with
 |nil=>
  cases ss with
  |nil=>rfl
  |cons a r=>exact absurd ((b a).mpr (cB ..)) (by simp)
 |cons y ys d=>
  cases ss with
  |nil=>exact absurd ((b y).mp (cB ..)) (by simp)
  |cons a r=>
   have p1:=l5.mp h1;have p2:=l5.mp h2;have e:y=a:=by
    have f:=(b y).mp (cB ..);have g:=(b a).mpr (cB ..);rcases aX.mp f with q|q
    .exact q
    rcases aX.mp g with q'|q'
    .exact q'.symm
    exact absurd (List.lt_trans (p2.1 y q) (p1.1 a q')) (vN _)
   subst e;rw[d p1.2 p2.2 λx=>?_];constructor
   .intro c
    rcases aX.mp ((b x).mp (b9 _ c)) with q|q
    .subst q;exact absurd (p1.1 x c) (vN _)
    .exact q
   .intro c
    rcases aX.mp ((b x).mpr (b9 _ c)) with q|q
    .subst q;exact absurd (p2.1 x c) (vN _)
    .exact q
theorem KG(T:TopD K mg "is_weights" yU lT)(b:mg "isinstance"=none)(g:mg "tuple"=none)(j:mg "all"=none)(d:mg "sorted"=none)(k:mg "set"=none)
  (a:ay P w K mg base 2 "is_named_number" lS (av mg 1 AD)):ay P w K mg base 3 "is_weights" lT (av mg 1 As):=by
 refine bO T FN λl E p t nd=>⟨_,(aF (bz (PW.pt (fD (dH (dI (gJ kit_tuple b g mD (vr 0)))) (fY (dH (dI (cS (pM rfl) pR j boot_all (aa (gq none (own:=["pair"]) (frees:=[]) (ix:=[]) rfl (ef (vr 0)) (λc=>(pG 0 (show(["pair"]:List Str).Nodup by decide+kernel))) (λc=>(dL a l nO (aa (vr 0) ah)))) ah))))))) (aC (aO eL)) bG)
  (aF (m6 none (own:=["pair"]) (frees:=[]) (ix:=[]) (i:=1) nd rfl (by first|exact Or.inl rfl|exact Or.inr rfl) rfl (ef (vr 0)) (λc=>(pG 0 (show(["pair"]:List Str).Nodup by decide+kernel))) (λc=>(dX t (vr 0) aq)))
  (aC (aO (m8 t (vr 1) (BG d k rfl (aa (vr 1) ah))))))),λds A R h F=>?_⟩
 obtain⟨v,⟨rs,rfl,m,rfl⟩,q⟩:=h;have hz:0+(rs.map aJ).length<=sizeLine:=by
  have:=m.len;have:(128:Nat)<=sizeLine:=by decide
  simp;omega
 have o:∀n∈rs.map (·.1),Nm n:=λn hn=>by
  obtain⟨r,l,rfl⟩:=aS.mp hn;exact m.nm r l
 refine wW (λ_=>.bl true) _ _ _ (λ_ _=>trivial) (λx p u g1=>⟨[x],rfl,λQ s=>?_⟩) hz (λu g1=>?_)
 .obtain⟨r,l,rfl⟩:=aS.mp p
  exact⟨rfl,_,⟨r,rfl,m.nm r l,m.no r l,rfl⟩,s⟩
 refine pH (bs:=(rs.map aJ).map λ_=>true) aK (mW _ _) ?_;rw[show((rs.map aJ).map λ_=>true).all id=true by simp];refine fQ (f:=λx=>match x with|.tup (y::_)=>y|x=>x) trivial _ _ (λx p=>⟨[x],rfl,λQ s=>?_⟩) hz ?_
 .obtain⟨r,l,rfl⟩:=aS.mp p
  exact s
 have e:(rs.map aJ).map (λx=>match x with|.tup (y::_)=>y|x=>x)=(rs.map (·.1)).map D.str:=by
  rw[b_,b_];rfl
 rw[fh,e];refine F4 (ss:=rs.map (·.1)) aK (by have:=strs_map id (rs.map (·.1));simpa using this) (by have:=m.len;simpa using this) λys z B=>?_;have C:=pw_eq z m.up B;subst C;refine B8 (getElem?_push aK) aK o o ?_;rw[dj rfl];exact q _ (((g1.trans Gr.push).trans Gr.push).trans Gr.push)
theorem KI(T:TopD K mg "leaves_below" Ff nM):∀d,ay P w K mg base (d+1) "leaves_below" nM (av mg 2 (rT d)):=by
 intro d;induction d with
 |zero=>
  refine j8 T λds A R RE h=>?_;obtain⟨v,⟨m,w,_,h,_⟩,_⟩:=h;omega
 |succ d c=>
  refine gM T Rb rfl (by decide) λN RE f j B outer s H E g o i ds A R h p=>?_;have e:=g.units;refine⟨_,(aF (bz (gR e (dX e (vr 0) aq) bx) (aC (aO (fB (aa (cK (aa (vr 1) (aa (dX e (vr 0) aq) ah))) ah)))) bG)
  (aC (aO (dz (dL c g i (aa (dX e (vr 0) aq) (aa (dz (vr 1) bx) ah))) (dL c g i (aa (dX e (vr 0) aq) (aa (dz (vr 1) bx) ah))))))),?_⟩
  obtain⟨v,⟨m,w,rfl,hd,t,u,rfl⟩,q⟩:=h;have z:(100:Nat)<=sizeLine:=by decide
  cases m with
  |wt n=>exact⟨by show 2<=sizeLine;omega,by show 1<=sizeLine;omega,q _ _ Gr.push aK⟩
  |aG l r a b=>
   have k:max a.deep b.deep+1<d+1:=hd;have C:("l":Str).length=1:=by decide+kernel
   have D:("r":Str).length=1:=by decide+kernel
   have al:∀x y:Str,(x++y).length=x.length+y.length:=λx y=>ow;refine⟨by omega,rfl,_,⟨a,_,rfl,by omega,by rw[al];omega,by omega,rfl⟩,λF G g1 h1=>?_⟩;refine⟨by omega,rfl,_,⟨b,_,rfl,by omega,by rw[al];omega,by omega,rfl⟩,λI J g2 h2=>?_⟩;have n1:=aP.ki a;have n2:=aP.ki b;have p1:2 ^ a.deep<=2 ^ 8:=fj (by decide) (by omega);have p2:2 ^ b.deep<=2 ^ 8:=fj (by decide) (by omega);have hz:(512:Nat)<=sizeLine:=by decide
   refine su (g2.get h1) h2 (by rw[a_,a_,yg,yg];omega) (q _ _ ((g1.trans g2).trans Gr.push) ?_);rw[aK];simp[jb]
theorem KN(T:TopD K mg "load_below" Fg nN)(b:mg "sum"=none)(a:ay P w K mg base 9 "leaves_below" nM (av mg 2 (rT 8))):ay P w K mg base 10 "load_below" nN (av mg 2 (rV 6)):=by
 refine bO T Rf λi u d j nd=>⟨_,(aC (aO (cS (Ie rfl) Ji b boot_sum (aa (gq (some 2) (own:=["way","name"]) (frees:=["numbers"]) (ix:=[1]) rfl (ef (dL a i d (aa (vr 0) (aa bx ah)))) (λc=>(kB rfl (fG (pG 0 (show(["way","name","numbers"]:List Str).Nodup by decide+kernel)) (fG (pG 1 (show(["way","name","numbers"]:List Str).Nodup by decide+kernel)) kC)))) (λc=>(dX j (vr 2) (vr 1)))) ah)))),λds A R h v=>?_⟩;obtain⟨m,r,rs,rfl,k,l,hd,hn,q⟩:=h;refine⟨rfl,_,⟨m,_,rfl,by omega,by decide+kernel,by omega,rfl⟩,λy z g1 h1=>?_⟩;refine iy h1 ?_;have n1:=aP.ki m;have p1:2 ^ m.deep<=2 ^ 6:=fj (by decide) hd;have hz:(128:Nat)<=sizeLine:=by decide
 refine fQ (f:=λx=>match x with|.tup [_,.str n]=>.int (val rs n)|x=>x) h1 _ _ (λx d=>?_) (by simp[yg];omega) ?_
 .obtain⟨p,o,rfl⟩:=aS.mp d
  refine⟨[.str p.1,.str p.2],rfl,λQ s=>?_⟩;have t:p.2∈m.names:=by rw[<-kg m ""];exact kF o
  exact nD (g1.get k) rfl (nq rs p.2 (hn _ t)) s
 have e:((jb m "").map f6).map (λx=>match x with|.tup [_,.str n]=>D.int (val rs n)|x=>x)=m.names.map λn=>D.int (val rs n):=by
  rw[<-kg m "",b_,b_];rfl
 rw[fh,e];refine Sd (ns:=m.names.map (val rs)) aK (ints_map _ _) (λn g=>?_) (by simp;omega) ?_
 .obtain⟨x,d,rfl⟩:=aS.mp g
  have:=zB l (hn x d);omega
 .rw[x9]
  exact q _ (g1.trans Gr.push)
theorem Kq(T:TopD K mg "check_are_weights" yP lQ){a:Addr}(c:mg "NoWeights"=some (.ref a))(d:excIn K a iD "ValueError.__new__"=true)
  (b:ay P w K mg base 3 "is_weights" lT (av mg 1 As)):ay P w K mg base 4 "check_are_weights" lQ (av mg 1 Ai):=by
 refine bO T FG λe f g j nd=>⟨_,(aC (bz (dH (dI (dL b e g (aa (vr 0) ah)))) (aC (j6 f rfl c d (aa bx ah))) bG)),λds A R h k=>?_⟩;obtain⟨v,⟨rs,rfl,i,rfl⟩,q⟩:=h;exact⟨rfl,_,⟨rs,rfl,i,rfl⟩,λl g1=>q _ g1⟩
theorem Ku(T:TopD K mg "check_weights" yQ ko)(i:mg "dict"=none){d:Addr}(f:mg "NoWeights"=some (.ref d))(g:excIn K d iD "ValueError.__new__"=true)
  (c:ay P w K mg base 4 "check_are_weights" lQ (av mg 1 Ai))(e:ay P w K mg base 9 "leaves_below" nM (av mg 2 (rT 8))):ay P w K mg base 10 "check_weights" ko (av mg 2 wg):=by
 refine bO T FH λl r j s nd=>⟨_,(aF (eW (dL c l j (aa (vr 1) ah)))
  (aF (dS 2 nd (jw (lu rfl) lB i mC (aa (vr 1) ah)))
  (aC (pY lP rfl (ef (dL e l j (aa (vr 0) (aa bx ah)))) (sG rfl (jz (dG 3 nd) (jz (dG 4 nd) sH))) (aC (bz (zp s (vr 4) (vr 2)) (aC (j6 r rfl f g (aa (BE (vr 4)) ah))) bG)))))),λds A R h C=>?_⟩
 obtain⟨v,⟨m,rs,rfl,n,hd,hn,rfl⟩,q⟩:=h;refine⟨rfl,_,⟨rs,rfl,n,rfl⟩,λo g1=>?_⟩;refine m5 n ?_;refine⟨rfl,_,⟨m,_,rfl,by omega,by decide+kernel,by omega,rfl⟩,λt D g2 h2=>?_⟩;refine iy h2 ?_;have u:t[o.length]?=some (.dct (dJ rs)):=g2.get aK;refine BS h2 (λτ=>∃a b,τ=[some (enc m),some (bV rs),some (.ref o.length),a,b]) _ _ ⟨none,none,rfl⟩ (λx j τ k E y=>?_) (λτ _=>q _ ((g1.trans Gr.push).trans g2));obtain⟨a,b,rfl⟩:=k;obtain⟨p,z,rfl⟩:=aS.mp j;have B:p.2∈m.names:=by rw[<-kg m ""];exact kF z
 refine⟨rfl,xV u rfl ?_⟩;rw[nq rs p.2 (hn _ B)];exact y _ ⟨_,_,rfl⟩
theorem K3(T:TopD K mg "rods_within" Fp uB)(g:mg "max"=none):∀d,ay P w K mg base (d+1) "rods_within" uB (av mg 1 (AK d)):=by
 intro d;induction d with
 |zero=>
  refine j8 T λds A R RE h=>?_;obtain⟨v,⟨m,_,h,_⟩,_⟩:=h;omega
 |succ d c=>
  refine gM T Rk rfl (by decide) λN RE f o B outer s H E j u k ds A R h x=>?_;have i:=j.units;refine⟨_,(aF (bz (gR i (dX i (vr 0) aq) bx) (aC (aO aq)) bG)
  (aC (aO (dz aq (cS (wN rfl) w_ g boot_max (aa (dL c j k (aa (dX i (vr 0) aq) ah)) (aa (dL c j k (aa (dX i (vr 0) aq) ah)) ah))))))),?_⟩
  obtain⟨v,⟨m,rfl,hd,rfl⟩,q⟩:=h;cases m with
  |wt n=>exact q _ Gr.refl
  |aG l r a b=>
   have p:max a.deep b.deep+1<d+1:=hd;refine⟨rfl,_,⟨a,rfl,by omega,rfl⟩,λy g1=>?_⟩;refine⟨rfl,_,⟨b,rfl,by omega,rfl⟩,λt g2=>?_⟩;have e:(1:Int)+(if (b.deep:Int)>a.deep then (b.deep:Int) else a.deep)=((max a.deep b.deep+1:Nat):Int):=by split<;>omega
   show R (.int (1+(if (b.deep:Int)>a.deep then (b.deep:Int) else a.deep))) t;rw[e];exact q _ (g1.trans g2)
theorem Ky(T:TopD K mg "greatest_divisor" E6 qq):ay P w K mg base 1 "greatest_divisor" qq (av mg 2 wh):=by
 refine bO T Q4 λo p s t nd=>⟨_,(aF (BY lP (kD (vr 1) aq) (aF (dS 2 nd (j3 (vr 0) (vr 1)))
  (aF (dS 0 nd (vr 1))
  (aC (dS 1 nd (vr 2))))))
  (aC (aO (vr 0)))),λds A R h u=>?_⟩
 obtain⟨v,⟨a,b,rfl,i,j,rfl⟩,q⟩:=h;refine⟨λn τ A'=>A'=A/\∃(x y:Int) (r:Option D),τ=[some (.int x),some (.int y),r]/\0<=x/\0<=y/\Int.gcd x y=Int.gcd a b/\n=y.toNat,⟨_,rfl,a,b,none,rfl,i,j,rfl,rfl⟩,?_⟩;rintro n τ A' ⟨rfl,x,y,r,rfl,h0,h1,g,rfl⟩;refine cD (λc=>?_) (λc=>?_)
 .refine⟨λτ k=>k=A'/\∃(f d:Int) (r:Option D),τ=[some (.int f),some (.int d),r]/\0<=f/\0<=d/\Int.gcd f d=Int.gcd a b/\d.toNat<y.toNat,λbU A' ⟨e,f,d,r',h1,h2,h3,l,m⟩=>⟨_,m,e,f,d,r',h1,h2,h3,l,rfl⟩,?_⟩
  have m0:=rL x (show y≠0 by omega);have z:=rK x (show 0<y by omega);exact⟨c,rfl,y,x%y,_,rfl,h1,m0,by rw[Cy h0 c];exact g,by omega⟩
 .have e:y=0:=by omega
  subst e;have:(x:Int)=(Int.gcd a b:Int):=by rw[<-g,Int.gcd_zero_right];omega
  show R (.int x) A';rw[this];exact q _ Gr.refl
theorem K2(T:TopD K mg "reduced" Fo qt)(c:ay P w K mg base 1 "greatest_divisor" qq (av mg 2 wh)):ay P w K mg base 2 "reduced" qt (av mg 2 rX):=by
 refine bO T Rj λf l g m nd=>⟨_,(aF (dS 2 nd (dL c f g (aa (vr 0) (aa (vr 1) ah))))
  (aC (aO (cK (aa (jx (vr 0) (vr 2)) (aa (jx (vr 1) (vr 2)) ah)))))),λds A R h i=>?_⟩
 obtain⟨v,⟨a,b,rfl,j,o,hz,rfl⟩,q⟩:=h;have d:0<(Int.gcd a b:Int):=by
  have:=rD b (show a≠0 by omega);omega
 have i:(Int.gcd a b:Int)<=a:=l0 j (kZ a b);have e:(Int.gcd a b:Int).natAbs.log2<9000:=by
  have h1:(Int.gcd a b:Int).natAbs<2 ^ 2000:=by omega
  have:=(log2_lt (n:=(Int.gcd a b:Int).natAbs) (k:=2000) (by omega)).mpr h1;omega
 refine⟨rfl,_,⟨a,b,rfl,by omega,by omega,rfl⟩,λp g1=>?_⟩;exact⟨⟨d,e⟩,⟨d,e⟩,show 2<=sizeLine by decide,q _ g1⟩
theorem K4(T:TopD K mg "still_arms" Fv uD)(d:ay P w K mg base 2 "reduced" qt (av mg 2 rX))(c:ay P w K mg base 10 "load_below" nN (av mg 2 (rV 6))):ay P w K mg base 11 "still_arms" uD (av mg 3 AL):=by
 refine bO T Rn λf l g m nd=>⟨_,(aC (aO (dL d f g (aa (dL c f g (aa (vr 1) (aa (vr 2) ah))) (aa (dL c f g (aa (vr 0) (aa (vr 2) ah))) ah))))),λds A R h n=>?_⟩;obtain⟨a,b,r,rs,rfl,j,i,e,k,db,q⟩:=h;refine⟨rfl,b,r,rs,rfl,j,e.ok,db,e.nm,λo g1=>?_⟩;refine⟨rfl,a,r,rs,rfl,g1.get j,i.ok,k,i.nm,λp g2=>?_⟩;have s:=lH i;have t:=lH e;have lb:=x8 e db;have big:(2:Int) ^ 40<2 ^ 2000:=by decide+kernel
 exact⟨rfl,_,⟨_,_,rfl,by omega,by omega,by omega,rfl⟩,λu g3=>q _ ((g1.trans g2).trans g3)⟩
theorem K7(T:TopD K mg "still_rod" Fw uE)(j:mg "max"=none){t:Tok}(d:mg "LONGEST_ARM"=some (.int 9 t)){e:Addr}(g:mg "TooLong"=some (.ref e))(i:excIn K e iD "ValueError.__new__"=true)
  (f:ay P w K mg base 11 "still_arms" uD (av mg 3 AL)):ay P w K mg base 12 "still_rod" uE (av mg 3 AN):=by
 refine bO T Ro λm n o l nd=>⟨_,(aF (dS 3 nd (dL f m o (aa (vr 0) (aa (vr 1) (aa (vr 2) ah)))))
  (aF (bz (kD (cS (Bh rfl) BA j boot_max (aa (vr 3) ah)) (jy d)) (aC (j6 n rfl g i (aa bx ah))) bG)
  (aC (aO (cK (aa bx (aa (dX l (vr 3) aq) (aa (dX l (vr 3) aq) (aa (vr 0) (aa (vr 1) ah)))))))))),λds A R h y=>?_⟩
 obtain⟨a,b,r,rs,rfl,p,s,u,v,db,q⟩:=h;refine⟨rfl,a,b,r,rs,rfl,p,s,u,v,db,λx g1=>?_⟩;have k:=q x g1;refine Nr ?_;refine cD (λc=>?_) (λc=>?_)
 .rw[ai (show ¬mx (arm (val rs) a b)<=9 by unfold mx;omega)] at k
  exact⟨by decide,k⟩
 .rw[aj (show mx (arm (val rs) a b)<=9 by unfold mx;omega)] at k
  exact⟨show 5<=sizeLine by decide,k⟩
theorem Kr(T:TopD K mg "_law_cell_at" EW ua)(a:mg "len"=none):ay P w K mg base 1 "_law_cell_at" ua (av mg 2 Ak):=by
 refine bO T QW λg i j d nd=>⟨_,(aF (bz (Gd (vr 1) (cS gm fT a gF (aa (vr 0) ah))) (aC (aO (dX d (vr 0) (vr 1)))) bG)
  (aF (bz (gR d (vr 0) (fB ah)) (aC (aO aq)) bG)
  (aC (aO (dz (gu (dX d (vr 0) (j3 (vr 1) (cS gm fT a gF (aa (vr 0) ah)))) aq) (vr 1)))))),λds A R h l=>?_⟩
 obtain⟨ns,k,rfl,hk,q⟩:=h;refine cD (λc=>?_) (λc=>?_)
 .obtain⟨v,e,_⟩:=wG hk c
  conv=>whnf
  rw[e];exact q v _ Gr.refl
 .refine⟨cH _,JY ?_⟩
  refine cD (λf=>?_) (λf=>?_)
  .exact q _ _ Gr.push
  .have b:0<(ns.length:Int):=by
    have:=vj.mpr f;omega
   obtain⟨v,e,_⟩:=wG (xs:=ns) (rL k (by omega)) (rK k b);refine⟨b,?_⟩;conv=>whnf
   rw[e];exact⟨.inr ⟨by decide,by decide⟩,q _ _ Gr.push⟩
theorem KU(T:TopD K mg "_law_mixed" E1 ue)(a:ay P w K mg base 1 "_law_cell_at" ua (av mg 2 Ak)):ay P w K mg base 2 "_law_mixed" ue (av mg 3 AB):=by
 refine bO T QZ λc e d f nd=>⟨_,(aF (dS 3 nd (j3 (gu (dz (dz (dL a c d (aa (vr 0) (aa (vr 1) ah))) (gu aq (vr 1))) aq) aq) aq))
  (aC (aO (j3 (j3 (dz (dz (gu (vr 3) (vr 3)) (gu aq (vr 3))) (vr 1)) aq) (vr 2))))),λds A R h j=>?_⟩
 obtain⟨ns,k,m,rfl,hk,b,q⟩:=h;refine⟨rfl,ns,k,rfl,hk,λi A' g=>?_⟩;refine⟨.inl ⟨by decide,by decide⟩,.inr ⟨by decide,by decide⟩,(by decide:(0:Int)<2147483647),?_⟩;have l:=rL ((i+7919*k+1)*48271) (show(2147483647:Int)≠0 by decide);have n:=rK ((i+7919*k+1)*48271) (show(0:Int)<2147483647 by decide);have o:(2147483647:Int)<2 ^ 64:=by decide
 refine⟨.inl ⟨by omega,by omega⟩,.inl ⟨by decide,by decide⟩,(by decide:(0:Int)<2147483629),b,?_⟩;exact q _ _ (rL _ (by omega)) (rK _ b) g
theorem Kw(T:TopD K mg "_law_draw" EY nL)(b:mg "len"=none)(a:ay P w K mg base 2 "_law_mixed" ue (av mg 3 AB)):ay P w K mg base 3 "_law_draw" nL (av mg 3 o9):=by
 refine bO T QX λe k f l nd=>⟨_,(aF (eW (j4 kO vK vR qj sA (vr 1) (aa aq ah)))
  (aC (aO (dL a e f (aa (vr 0) (aa (cS gm fT b gF (aa (vr 1) ah)) (aa (vr 2) ah))))))),λds A R h o=>?_⟩
 obtain⟨ns,t,m,n,rfl,⟨xs,d,hz⟩,hn,j,q⟩:=h;refine⟨f5 d,r8 d (by rw[sizeLine];omega) ?_⟩;have c:(A.set t (.lst (xs++[.int 0])))[t]?=some (.lst (xs++[.int 0])):=get_set d;refine tN c ⟨rfl,ns,_,m,rfl,by omega,j,λi A' h0 h1 g=>?_⟩;exact q i A' h0 h1 (cQ.set.trans g.but) (Tw.gr ⟨_,c,by simpa using hz⟩ g)
theorem KZ(T:TopD K mg "_law_pick" E2 qp)(c:mg "len"=none)(a:ay P w K mg base 3 "_law_draw" nL (av mg 3 o9)):ay P w K mg base 4 "_law_pick" qp (av mg 3 rW):=by
 refine bO T Q0 λd m e g nd=>⟨_,(aC (aO (dX g (vr 2) (dL a d e (aa (vr 0) (aa (vr 1) (aa (cS gm fT c gF (aa (vr 2) ah)) ah))))))),λds A R h o=>?_⟩;obtain⟨ns,t,r,xs,n,rfl,f,d,e,j,hn,q⟩:=h;have p:=vj.mpr e;refine tN d ⟨rfl,ns,t,_,n,rfl,j,hn,by omega,λi A' h0 h1 b t'=>?_⟩;obtain⟨v,k,l⟩:=wG h0 h1;exact jG (b r _ f d) k (q v A' l b t')
theorem Hu:("abcdefghijklmnopqrstuvwxyz":Str).cps.toList=(range 26).map (·+97):=by decide+kernel
end My
namespace DP
open L2 MA
def gx(j:Nat):Str:=⟨#[97+j%26,120+j/26]⟩
theorem NX{i j:Nat}(h:gx i=gx j):i=j:=by
 unfold gx at h;simp at h;omega
theorem NY{j:Nat}(h:j<78):Nm (gx j):=by
 refine⟨by show 1<=2;decide,by show 2<=3;decide,λc hc=>?_⟩;have:c=97+j%26\/c=120+j/26:=by simpa[gx] using hc
 omega
def iR(t c:Nat)(A A':Ar):Prop:=∀q x,q≠t->q≠c->A[q]?=some x->A'[q]?=some x
theorem iR.refl{t c:Nat}{A:Ar}:iR t c A A:=λ_ _ _ _ h=>h
theorem iR.trans{t c:Nat}{A B C:Ar}(a:iR t c A B)(b:iR t c B C):iR t c A C:=λq x h1 h2 h=>b q x h1 h2 (a q x h1 h2 h)
theorem cQ.two{t c:Nat}{A A':Ar}(b:cQ t A A'):iR t c A A':=λq x h1 _ h=>b q x h1 h
def Cn(c k:Nat)(A:Ar):Prop:=∃xs,A[c]?=some (.lst xs)/\xs.length=k
def ly:Nat->Nat
 |0=>0
 |d+1=>5+2*ly d
def Hs(d:Nat):Ct:=λds A R _=>∃ns t c n k,ds=[.fl ns,.ref t,.int ((d:Int) - 1),.ref c]/\0<d/\t≠c/\Tw t n A/\n+ly d<=1000000/\Cn c k A/\k+2 ^ (d - 1)<78/\
 ∀m A',Wf m->m.deep<d->m.names=(range m.names.length).map (λi=>gx (k+1+i))->iR t c A A'->Tw t (n+ly d) A'->Cn c (k+m.names.length) A'->R (enc m) A'
def AS(e:Nat):Ct:=λds A R E=>∃d,d<=e/\Hs d ds A R E
theorem TN:("xyz":Str).cps.toList=[120,121,122]:=by decide+kernel
theorem TM{j:Nat}(h:j<78):cJ ("xyz":Str).cps.toList ((j:Int)/26)=some (120+j/26):=by
 have e:((j:Int)/26)=((j/26:Nat):Int):=by omega
 rw[e,TN];have:j/26=0\/j/26=1\/j/26=2:=by omega
 rcases this with h|h|h<;>rw[h]<;>rfl
theorem Ht{j:Nat}:cJ ("abcdefghijklmnopqrstuvwxyz":Str).cps.toList ((j:Int)%26)=some (97+j%26):=by
 have e:((j:Int)%26)=((j%26:Nat):Int):=by omega
 rw[e,My.Hu];refine pI ?_;rw[cy,List.getElem?_range (by omega)];simp;omega
def Du:cg:=qE (EO (Bu wD (fS 3) (fR (dC (D.int 1)) jZ)))
 (ES (Bv (fR (dC (D.str "weight")) (fR (c9 pF (c9 lE (dC (D.str "abcdefghijklmnopqrstuvwxyz")) (c9 DC (lz tL (fR (fS 3) jZ)) (dC (D.int 26)))) (c9 lE (dC (D.str "xyz")) (c9 BR (lz tL (fR (fS 3) jZ)) (dC (D.int 26))))) jZ))))
theorem MZ{R:DK}{E:jq}(h:E.rt=R){a b e:Option D}{c k:Nat}{τ:bw}{A:Ar}(hc:Cn c k A)(hk:k+1<78)(q:∀A',(∀q x,q≠c->A[q]?=some x->A'[q]?=some x)->Cn c (k+1) A'->R (.tup [.str "weight",.str (gx (k+1))]) A'):Du E (a::b::e::some (.ref c)::τ) A:=by
 have hz:(1000000:Nat)<sizeLine:=by decide
 obtain⟨xs,f,rfl⟩:=hc;refine⟨f5 f,r8 f (by omega) ?_⟩;have d:(A.set c (.lst (xs++[.int 1])))[c]?=some (.lst (xs++[.int 1])):=get_set f;have g:(xs++[D.int 1]).length=xs.length+1:=by simp
 refine tN d ⟨(by decide:(0:Int)<26),?_⟩;rw[g];refine C2 Ht (by decide+kernel) ?_;refine tN d ⟨⟨by decide,by decide⟩,?_⟩;rw[g];refine C2 (TM hk) (by decide+kernel) ?_;refine⟨show 1+1<=sizeLine by decide,show 2<=sizeLine by decide,?_⟩;rw[h];exact q _ (λq x h1 h2=>by rw[oh (Ne.symm h1)];exact h2) ⟨_,d,g⟩
end DP
namespace My
open L2 DP MA
theorem La(T:TopD K mg "_law_unlike" E3 uf)(p:mg "len"=none)(l:mg "range"=none)(a:ay P w K mg base 3 "_law_draw" nL (av mg 3 o9))(j:ay P w K mg base 4 "_law_pick" qp (av mg 3 rW)):∀e,ay P w K mg base (e+4) "_law_unlike" uf (av mg 4 (AS e)):=by
 intro e;induction e with
 |zero=>
  refine j8 T λds A R RE h=>?_;obtain⟨d,hd,ns,t,c,n,k,_,h,_⟩:=h;omega
 |succ e g=>
  refine gM T FE rfl (by decide) λN RE f cdv B outer s H E L hR y ds A R h hl=>?_;have F:=L.units;have nd:=FE.nd;refine⟨_,(aF (bz (PW.pt (fD (gR F (vr 2) aq) (fY (gR F (dL a L y (aa (vr 0) (aa (vr 1) (aa aq ah)))) aq)))) (aF (eW (j4 kO vK vR qj sA (vr 3) (aa aq ah)))
  (aC (aO (cK (aa bx (aa (dz (dX F bx (j3 (cS gm fT p gF (aa (vr 3) ah)) aq)) (dX F bx (jx (cS gm fT p gF (aa (vr 3) ah)) aq))) ah)))))) bG)
  (aF (m6 none (own:=["_law_k"]) (frees:=["_law_script","_law_town"]) (ix:=[0,1]) (i:=4) nd rfl (by first|exact Or.inl rfl|exact Or.inr rfl) rfl (xq l (aa aq ah)) (λc=>(pG 0 (show(["_law_k","_law_script","_law_town"]:List Str).Nodup by decide+kernel))) (λc=>(dz aq (dL a L nO (aa (vr 1) (aa (vr 2) (aa (dL j L nO (aa (vr 1) (aa (vr 2) (aa (fB (aa aq (aa aq (aa aq ah)))) ah)))) ah)))))))
  (aF (m6 none (own:=["_law_k"]) (frees:=["_law_script","_law_town","_law_deep_here","_law_count"]) (ix:=[0,1,2,3]) (i:=5) nd rfl (by first|exact Or.inl rfl|exact Or.inr rfl) rfl (xq l (aa aq ah)) (λc=>(pG 0 (show(["_law_k","_law_script","_law_town","_law_deep_here","_law_count"]:List Str).Nodup by decide+kernel))) (λc=>(dL g L nO (aa (vr 1) (aa (vr 2) (aa (xj (vr 3) aq) (aa (vr 4) ah)))))))
  (aC (aO (cK (aa bx (aa (dX F (vr 4) aq) (aa (dX F (vr 4) aq) (aa (dX F (vr 5) aq) (aa (dX F (vr 5) aq) ah))))))))))),?_⟩
  obtain⟨d0,Uj,ns,t,c,n,k,rfl,Ui,u,ht,hn,hc,hk,q⟩:=h;obtain⟨d,rfl⟩:∃d,d0=d+1:=⟨d0 - 1,by omega⟩;have hz:(1000000:Nat)<sizeLine:=by decide
  have hcs:ly (d+1)=5+2*ly d:=rfl;have O:((d+1:Nat):Int) - 1=(d:Int):=by omega
  have hk:k+2 ^ d<78:=by simpa using hk
  have p0:0<2 ^ d:=Nat.pow_pos (by decide);have leaf:∀G n1,iR t c A G->Tw t n1 G->n1<=n+ly (d+1)->Cn c k G->Du {nx:=λx A'=>R D.aB A',rt:=R} [some (.fl ns),some (.ref t),some (.int (((d+1:Nat):Int) - 1)),some (.ref c),none,none] G:=λG n1 S t1 h1 c1=>by
   refine MZ (R:=R) rfl c1 (by omega) λA' f' c'=>?_;have one:∀z∈aP.names (aP.wt (gx (k+1))),z=gx (k+1):=λz hz=>by simpa[aP.names] using hz
   refine q (.wt (gx (k+1))) A' ⟨trivial,λz hz=>by rw[one z hz];exact NY (by omega)⟩ (succ_pos _) rfl (λq x h1 h2 h=>f' q x h2 (S q x h1 h2 h)) ?_ c';obtain⟨xs,y,hl'⟩:=t1;exact⟨xs,f' t _ u y,by omega⟩
  refine cD (λ_=>leaf A n iR.refl ht (by omega) hc) (λc0=>?_);have U:0<d:=by
   have c0:¬(((d+1:Nat):Int) - 1=0):=c0;omega
  refine⟨rfl,ns,t,3,n,rfl,ht,by omega,by decide,λi G _ _ S t1=>?_⟩;have cn:∀{A A':Ar},cQ t A A'->∀{k:Nat},Cn c k A->Cn c k A':=by
   rintro A A' b k ⟨xs,h1,h2⟩;exact⟨xs,b c _ (Ne.symm u) h1,h2⟩
  have gn:∀{A A':Ar},Gr A A'->∀{k:Nat},Cn c k A->Cn c k A':=by
   rintro A A' b k ⟨xs,h1,h2⟩;exact⟨xs,b.get h1,h2⟩
  refine cD (λ_=>leaf G (n+1) S.two t1 (by omega) (cn S hc)) (λ_=>?_);have r:∀(x0:D) (J:Ar) (n2:Nat) (Q:DK),Tw t n2 J->n2+2<=1000000->(∀(most:Int) (m:Ar),1<=most->most<=9->cQ t J m->Tw t (n2+2) m->Q (.int most) m)->c9 pF (dC (D.int 1)) (pP 3 o9 yo (fR (fS 1) (fR (fS 2) (fR (pP 3 rW yo (fR (fS 1) (fR (fS 2) (fR (Bt (fR (dC (D.int 2)) (fR (dC (D.int 3)) (fR (dC (D.int 9)) jZ)))) jZ)))) jZ)))) [some x0,some (.fl ns),some (.ref t)] J Q:=by
   intro x0 J n2 Q X hn2 hQ;obtain⟨UM,Y,_⟩:=id X;have l2:=ja Y;refine⟨show 3<=sizeLine by decide,rfl,ns,t,_,[.int 2,.int 3,.int 9],n2,rfl,by omega,aK,by simp,X.gr Gr.push,by omega,λx m y Z t3=>?_⟩;obtain⟨most,rfl,m0,m9⟩:∃k:Int,x=.int k/\2<=k/\k<=9:=by
    simp at y;rcases y with h|h|h<;>exact⟨_,h,by omega,by omega⟩
   refine⟨rfl,ns,t,most,n2+1,rfl,t3,by omega,by omega,λi A4 i0 i1 b4 t4=>?_⟩;exact hQ (1+i) A4 (by omega) (by omega) ((Gr.push.but.trans Z).trans b4) t4
  refine⟨by decide,by decide,trivial,r _ G (n+1) _ t1 (by omega) λa1 J u1 u2 b2 X=>⟨show 0<sizeLine by decide,trivial,r _ J (n+1+2) _ X (by omega) λa2 m u3 u4 Z t3=>⟨show 1<sizeLine by decide,trivial,?_⟩⟩⟩;have V:cQ t A m:=(S.trans b2).trans Z;have c3:=cn V hc;have t4:=t3.gr (Gr.push (T:=[C.lst [D.int a1,D.int a2]]));have c4:=gn (Gr.push (T:=[C.lst [D.int a1,D.int a2]])) c3;have h4:=aK (A:=m) (c:=C.lst [D.int a1,D.int a2]);obtain⟨xt,L4,_⟩:=id t3;obtain⟨xc,hxc,_⟩:=id c3;have Nb:=ja L4;have Ut:=ja hxc;have Lr:Gr m (m++[C.lst [D.int a1,D.int a2]]):=Gr.push;have l4:(m++[C.lst [D.int a1,D.int a2]]).length=m.length+1:=by simp
  have e4:[]++[D.int a1]++[D.int a2]=[D.int a1,D.int a2]:=rfl;rw[e4];have pd:2 ^ d=2*2 ^ (d - 1):=by rw[show d=(d - 1)+1 by omega,pow_succ];simp;omega
  refine⟨by decide,by decide,trivial,?_⟩;refine⟨rfl,d,by omega,ns,t,c,n+1+2+2,k,show [D.fl ns,D.ref t,D.int (((d+1:Nat):Int) - 1 - 1),D.ref c]=_ by rw[O],U,u,t4,by omega,c4,by omega,λo A5 w1 d1 e1 b5 t5 c5=>?_⟩;have n1:=aP.ki o;have p1:2 ^ o.deep<=2 ^ (d - 1):=fj (by decide) (by omega);refine⟨show 0<sizeLine by decide,trivial,?_⟩;refine⟨rfl,d,by omega,ns,t,c,_,_,show [D.fl ns,D.ref t,D.int (((d+1:Nat):Int) - 1 - 1),D.ref c]=_ by rw[O],U,u,t5,by omega,c5,by omega,λI A6 w2 d2 e2 b6 t6 c6=>?_⟩;refine⟨show 1<sizeLine by decide,trivial,?_⟩;have W:=(b5.trans b6) m.length _ (by omega) (by omega) h4;have e6:[]++[enc o]++[enc I]=[enc o,enc I]:=rfl;rw[e6];refine jG (getElem?_push W) (v:=.int a1) rfl ?_;refine jG (getElem?_push W) (v:=.int a2) rfl ?_;refine jG aK (v:=enc o) rfl ?_;refine jG aK (v:=enc I) rfl ?_;refine⟨show 5<=sizeLine by decide,?_⟩;have nn:(aP.aG a1 a2 o I:M).names=o.names++I.names:=rfl;refine q (.aG a1 a2 o I) _ ⟨⟨u1,u2,u3,u4,w1.arms,w2.arms⟩,λx y=>?_⟩ (show max o.deep I.deep+1<d+1 by omega) ?_ ?_ ?_ ?_
  .rcases br.mp (show x∈o.names++I.names from y) with h|h
   .exact w1.nm x h
   .exact w2.nm x h
  .rw[nn,cA,List.range_add,ff,b_,<-e1]
   congr 1;rw[e2];simp only[a_,om];refine oq λi _=>?_;show gx (k+o.names.length+1+i)=gx (k+1+(o.names.length+i));congr 1;omega
  .intro q x h1 h2 h
   exact getElem?_push ((b5.trans b6) q x h1 h2 (Lr.get (V q x h1 h)))
  .exact(t6.gr Gr.push).mono (by omega)
  .rw[nn,cA,<-Nat.add_assoc]
   exact gn Gr.push c6
end My
namespace DP
open L2 MA
mutual
def cM(A:Ar):D->Bool
 |.tup xs=>gy A xs
 |.exc _=>false
 |.str z=>decide (z.length<=sizeLine)
 |.ref r=>match A[r]? with
  |some (.lst _)=>true
  |some (.dct _)=>true
  |_=>false
 |_=>true
def gy(A:Ar):List D->Bool
 |[]=>true
 |x::xs=>cM A x&&gy A xs
end
def tE(x:D)(a b:Int):Bool:=match x with
 |.int i=>decide (a<=i)&&decide (i<=b)
 |_=>false
def mU:D->Bool
 |.str z=> !decide (z.cps.toList<("a":Str).cps.toList)&& !decide (("z":Str).cps.toList<z.cps.toList)
 |_=>false
def jE:D->Bool
 |.str n=>decide ((1:Int)<=(n.length:Nat))&&decide (((n.length:Nat):Int)<=3)&&(eZ n).all mU
 |_=>false
def AH:Ct:=λds A R _=>∃x a b,ds=[x,.int a,.int b]/\cM A x=true/\∀A',Gr A A'->R (.bl (tE x a b)) A'
def AF:Ct:=λds A R _=>∃x,ds=[x]/\cM A x=true/\∀A',Gr A A'->R (.bl (jE x)) A'
mutual
theorem qm{A A':Ar}(g:Gr A A'):∀x,cM A x=true->cM A' x=true
 |.tup xs,h=>by
  have h:gy A xs=true:=h;exact DV g xs h
 |.aB,h=>rfl
 |.bl _,h=>rfl
 |.int _,h=>rfl
 |.str _,h=>h
 |.fl _,h=>rfl
 |.exc _,h=>by cases h
 |.ref r,h=>by
  unfold cM at h ⊢;cases e:A[r]? with
  |none=>rw[e] at h;cases h
  |some c=>rw[e] at h;rw[g.get e];exact h
theorem DV{A A':Ar}(g:Gr A A'):∀xs,gy A xs=true->gy A' xs=true
 |[],h=>rfl
 |x::xs,h=>by
  have h:(cM A x&&gy A xs)=true:=h;rw[dh] at h;show(cM A' x&&gy A' xs)=true;rw[dh];exact⟨qm g x h.1,DV g xs h.2⟩
end
theorem tZ{A:Ar}{r:Nat}(h:cM A (.ref r)=true):je A (.ref r)=some "list"\/je A (.ref r)=some "dict":=by
 unfold cM at h;cases e:A[r]? with
 |none=>rw[e] at h;cases h
 |some c=>
  rw[e] at h;cases c with
  |lst xs=>exact .inl (by unfold je;simp only[e])
  |dct kvs=>exact .inr (by unfold je;simp only[e])
  |jB o kvs=>cases h
  |ins cl fs=>cases h
theorem Mi{n:Str}(h:Nm n):jE (.str n)=true:=by
 have h1:=h.lo;have h3:=h.hi;unfold jE;rw[dh,dh,jW,jW];refine⟨⟨by omega,by omega⟩,mw.mpr λx a=>?_⟩;obtain⟨c,hc,rfl⟩:=aS.mp a;obtain⟨e,f⟩:=h.az c hc;have b:¬((⟨#[c]⟩:Str).cps.toList<("a":Str).cps.toList):=by
  rw[My.yW];intro h;have:=My.qo.mp h;omega
 have d:¬(("z":Str).cps.toList<(⟨#[c]⟩:Str).cps.toList):=by
  rw[My.uU];intro h;have:=My.qo.mp h;omega
 show(!decide ((⟨#[c]⟩:Str).cps.toList<("a":Str).cps.toList)&& !decide (("z":Str).cps.toList<(⟨#[c]⟩:Str).cps.toList))=true;rw[eG b,eG d];rfl
theorem Oc{A:Ar}{n:Str}(h:Nm n):cM A (.str n)=true:=dj (cY h.hi (by decide))
end DP
namespace My
open L2 DP MA
theorem Km(T:TopD K mg "is_number" yT ku)(d:mg "isinstance"=none)(f:mg "bool"=none)(g:mg "int"=none):ay P w K mg base 1 "is_number" ku (av mg 3 AH):=by
 refine bO T FL λj k l m nd=>⟨_,(aF (bz (PW.pt (fD (dI (gJ C3 d f boot_bool (vr 0))) (fY (dH (dI (gJ C4 d g boot_int (vr 0))))))) (aC (aO eL)) bG)
  (aC (aO (sM (vr 1) (vr 0) (vr 2))))),λds A R h n=>?_⟩
 obtain⟨x,a,b,rfl,hk,q⟩:=h;cases x with
 |int i=>
  have q:∀A',Gr A A'->R (.bl (decide (a<=i)&&decide (i<=b))) A':=q;refine cD (λc=>?_) (λc=>?_)
  .have e:(decide (a<=i)&&decide (i<=b))=decide (i<=b):=by simp[c]
   rw[e] at q;exact q _ Gr.refl
  .have e:(decide (a<=i)&&decide (i<=b))=false:=by simp[c]
   rw[e] at q;exact q _ Gr.refl
 |exc c=>cases hk
 |ref r=>
  rcases tZ hk with e|e;all_goals
   conv=>whnf
   rw[e];conv=>whnf
   rw[e];exact q _ Gr.refl
 |_=>exact q _ Gr.refl
theorem Kh(T:TopD K mg "is_name" yR kr)(b:mg "isinstance"=none)(d:mg "str"=none)(g:mg "len"=none)(i:mg "all"=none){t:Tok}(a:mg "LONGEST_NAME"=some (.int 3 t)):ay P w K mg base 1 "is_name" kr (av mg 1 AF):=by
 refine bO T FI λp s o u nd=>⟨_,(aF (bz (PW.pt (fD (dH (dI (gJ xY b d boot_str (vr 0)))) (fY (dH (Gb aq (cS gm fT g gF (aa (vr 0) ah)) (jy a)))))) (aC (aO eL)) bG)
  (aC (aO (cS (pM rfl) pR i boot_all (aa (gq none (own:=["letter"]) (frees:=[]) (ix:=[]) rfl (BQ (vr 0)) (λc=>(pG 0 (show(["letter"]:List Str).Nodup by decide+kernel))) (λc=>(sM bx (vr 0) bx))) ah))))),λds A R h v=>?_⟩
 obtain⟨x,rfl,hk,q⟩:=h;cases x with
 |str n=>
  have hz:n.length<=sizeLine:=kK hk;have q:∀A',Gr A A'->R (.bl (decide ((1:Int)<=(n.length:Nat))&&decide (((n.length:Nat):Int)<=3)&&(eZ n).all mU)) A':=q;refine⟨hz,cD (λk=>?_) (λk=>?_)⟩
  .refine cN (λl=>?_) (λl=>?_)
   .rw[eG l] at q
    simp only[oj,vm] at q;exact q _ Gr.refl
   rw[dj k,dj l] at q;simp only[Bool.true_and] at q;refine fQ (f:=λx=>.bl (mU x)) trivial _ _ (λx o=>⟨[x],rfl,λQ j=>?_⟩) ?_ ?_
   .obtain⟨c,hc,rfl⟩:=aS.mp o
    have j:Q (.bl (!decide ((⟨#[c]⟩:Str).cps.toList<("a":Str).cps.toList)&& !decide (("z":Str).cps.toList<(⟨#[c]⟩:Str).cps.toList))) A:=j;refine cN (λm=>?_) (λm=>?_)
    .rw[eG m] at j
     exact j
    .rw[dj m] at j
     exact j
   .have:(eZ n).length=n.length:=by simp[eZ,Str.length]
    show 0+(eZ n).length<=sizeLine;omega
   .refine pH (bs:=(eZ n).map mU) aK (mW _ _) ?_
    have e:((eZ n).map mU).all id=(eZ n).all mU:=by simp
    rw[e];exact q _ Gr.push
  .rw[eG k] at q
   simp only[vm] at q;exact q _ Gr.refl
 |exc c=>cases hk
 |ref r=>
  rcases tZ hk with e|e;all_goals
   conv=>whnf
   rw[e];exact q _ Gr.refl
 |_=>exact q _ Gr.refl
end My
namespace DP
open L2 MA
def gO:D->Bool
 |.tup [a,b]=>jE a&&tE b 1 999999
 |_=>false
def v7(x:D):Prop:=∃rs,x=bV rs/\iY rs
def lV(x:D):Prop:=∀xs,x=.tup xs->xs.length<100
def AE:Ct:=λds A R _=>∃x,ds=[x]/\cM A x=true/\∀A',Gr A A'->R (.bl (gO x)) A'
def Au:Ct:=λds A R _=>∃x,ds=[x]/\cM A x=true/\lV x/\∀A',Gr A A'->∀b:Bool,(b=true↔v7 x)->R (.bl b) A'
def Aj:Ct:=λds A R E=>∃x,ds=[x]/\cM A x=true/\lV x/\(v7 x->∀A',Gr A A'->R .aB A')/\(¬v7 x->∀A',Gr A A'->E "NoWeights" A')
def Al:Ct:=λds A R E=>∃m x,ds=[enc m,x]/\m.deep<=5/\(∀n∈m.names,Nm n)/\cM A x=true/\lV x/\((∃rs,x=bV rs/\Bk rs m)->∀A',Gr A A'->R .aB A')/\((¬∃rs,x=bV rs/\Bk rs m)->∀A',Gr A A'->E "NoWeights" A')
theorem Mj{x:D}(h:jE x=true):∃n,x=.str n/\Nm n:=by
 cases x with
 |str n=>
  unfold jE at h;rw[dh,dh,jW,jW] at h;obtain⟨⟨h1,h2⟩,h3⟩:=h;refine⟨n,rfl,⟨by omega,by omega,λc hc=>?_⟩⟩;have:=mw.mp h3 (.str ⟨#[c]⟩) (aS.mpr ⟨c,hc,rfl⟩);have this:(!decide ((⟨#[c]⟩:Str).cps.toList<("a":Str).cps.toList)&& !decide (("z":Str).cps.toList<(⟨#[c]⟩:Str).cps.toList))=true:=this;rw[My.yW,My.uU] at this;simp only[dh,q9,zW] at this;have t1:¬([c]:List Nat)<[97]:=this.1;have a:¬([122]:List Nat)<[c]:=this.2;rw[My.qo] at t1 a;omega
 |_=>cases h
theorem Mh{x:D}(h:gO x=true):∃r:Str×Int,x=aJ r/\Nm r.1/\1<=r.2/\r.2<=999999:=by
 unfold gO at h;split at h
 .rename_i a b
  rw[dh] at h;obtain⟨n,rfl,hn⟩:=Mj h.1;cases b with
  |int i=>
   have h2:(decide ((1:Int)<=i)&&decide (i<=999999))=true:=h.2;simp only[dh,jW] at h2;exact⟨(n,i),rfl,hn,h2.1,h2.2⟩
  |_=>exact absurd h.2 (by simp[tE])
 .cases h
theorem QC{r:Str×Int}(hn:Nm r.1)(h1:1<=r.2)(h2:r.2<=999999):gO (aJ r)=true:=by
 show(jE (.str r.1)&&(decide ((1:Int)<=r.2)&&decide (r.2<=999999)))=true;rw[Mi hn,dj h1,dj h2];rfl
theorem EH:∀{xs:List D},(∀x∈xs,gO x=true)->∃rs:List (Str×Int),xs=rs.map aJ/\∀r∈rs,Nm r.1/\1<=r.2/\r.2<=999999
 |[],_=>⟨[],rfl,λ_ h=>by cases h⟩
 |x::xs,h=>by
  obtain⟨r,rfl,h1⟩:=Mh (h x (cB ..));obtain⟨rs,rfl,h2⟩:=EH λy a=>h y (b9 _ a);exact⟨r::rs,rfl,λq hq=>by
   rcases aX.mp hq with rfl|hq
   .exact h1
   .exact h2 q hq⟩
theorem lC{rs a:List (Str×Int)}(h:bV rs=bV a):rs=a:=by
 unfold bV at h;injection h with h;induction rs generalizing a with
 |nil=>cases a with
  |nil=>rfl
  |cons _ _=>cases h
 |cons r rs b=>cases a with
  |nil=>cases h
  |cons r' a=>
   simp only[dg,List.cons.injEq] at h;have e:=h.1;unfold aJ at e;simp at e;rw[b h.2,Prod.ext e.1 e.2]
theorem CA:∀(rs:List (Str×Int)) (n:Str),n∉rs.map (·.1)->ck (dJ rs) (Sum.inr n)=none
 |[],n,h=>rfl
 |r::rs,n,h=>by
  rw[dg,aX,jk] at h;show(if (Sum.inr r.1:Key)=Sum.inr n then some (D.int r.2) else ck (dJ rs) (Sum.inr n))=none;rw[ai (λz=>h.1 (Sum.inr.inj z).symm)];exact CA rs n h.2
theorem DW{A:Ar}:∀{xs:List D} {x:D},gy A xs=true->x∈xs->cM A x=true
 |y::xs,x,h,hx=>by
  have h:(cM A y&&gy A xs)=true:=h;rw[dh] at h;rcases aX.mp hx with rfl|hx
  .exact h.1
  .exact DW h.2 hx
end DP
namespace My
open L2 DP MA
theorem Kl(T:TopD K mg "is_named_number" yS lS)(d:mg "isinstance"=none)(j:mg "tuple"=none)(k:mg "len"=none){t:Tok}(g:mg "HEAVIEST"=some (.int 999999 t))
  (i:ay P w K mg base 1 "is_name" kr (av mg 1 AF))(f:ay P w K mg base 1 "is_number" ku (av mg 3 AH)):ay P w K mg base 2 "is_named_number" lS (av mg 1 AE):=by
 refine bO T FJ λn s o m nd=>⟨_,(aF (bz (PW.pt (fD (dH (dI (gJ kit_tuple d j mD (vr 0)))) (fY (jL m (cS gm fT k gF (aa (vr 0) ah)) aq)))) (aC (aO eL)) bG)
  (aC (aO (sE (dL i n o (aa (dX m (vr 0) aq) ah)) (sF (dL f n o (aa (dX m (vr 0) aq) (aa aq (aa (jy g) ah))))))))),λds A R h u=>?_⟩
 obtain⟨x,rfl,hk,q⟩:=h;cases x with
 |tup xs=>
  have hk:gy A xs=true:=hk;refine cN (λc=>?_) (λc=>?_)
  .have e:gO (.tup xs)=false:=by
    match xs,c with
    |[],_=>rfl
    |[_],_=>rfl
    |[a,b],c=>exact absurd rfl c
    |_::_::_::_,_=>rfl
   have:=q A Gr.refl;rw[e] at this;exact this
  .obtain⟨a,b,rfl⟩:∃a b,xs=[a,b]:=by
    have c:((xs.length:Nat):Int)=2:=c;match xs,c with
    |[a,b],_=>exact⟨a,b,rfl⟩
    |[],c=>simp at c
    |[_],c=>simp at c
    |_::_::_::_,c=>simp at c;omega
   have l:(cM A a&&(cM A b&&true))=true:=hk;simp only[dh,and_true] at l;have q:∀A',Gr A A'->R (.bl (jE a&&tE b 1 999999)) A':=q;refine⟨rfl,a,rfl,l.1,λv g1=>?_⟩;cases p:jE a with
   |false=>
    rw[p] at q;exact q _ g1
   |true=>
    rw[p] at q;exact⟨rfl,b,1,999999,rfl,qm g1 _ l.2,λy g2=>q _ (g1.trans g2)⟩
 |exc c=>cases hk
 |ref r=>
  rcases tZ hk with e|e;all_goals
   conv=>whnf
   rw[e];exact q _ Gr.refl
 |_=>exact q _ Gr.refl
theorem Kg(T:TopD K mg "is_weights" yU lT)(d:mg "isinstance"=none)(k:mg "tuple"=none)(o:mg "all"=none)(g:mg "sorted"=none)(p:mg "set"=none)
  (a:ay P w K mg base 2 "is_named_number" lS (av mg 1 AE)):ay P w K mg base 3 "is_weights" lT (av mg 1 Au):=by
 refine bO T FN λj O m H nd=>⟨_,(aF (bz (PW.pt (fD (dH (dI (gJ kit_tuple d k mD (vr 0)))) (fY (dH (dI (cS (pM rfl) pR o boot_all (aa (gq none (own:=["pair"]) (frees:=[]) (ix:=[]) rfl (ef (vr 0)) (λc=>(pG 0 (show(["pair"]:List Str).Nodup by decide+kernel))) (λc=>(dL a j nO (aa (vr 0) ah)))) ah))))))) (aC (aO eL)) bG)
  (aF (m6 none (own:=["pair"]) (frees:=[]) (ix:=[]) (i:=1) nd rfl (by first|exact Or.inl rfl|exact Or.inr rfl) rfl (ef (vr 0)) (λc=>(pG 0 (show(["pair"]:List Str).Nodup by decide+kernel))) (λc=>(dX H (vr 0) aq)))
  (aC (aO (m8 H (vr 1) (BG g p rfl (aa (vr 1) ah))))))),λds A R h S=>?_⟩
 obtain⟨x,rfl,hk,z,q⟩:=h;have l:(∀xs,x≠ .tup xs)->R (.bl false) A:=λh=>q _ Gr.refl false ⟨λe=>(by cases e),λ⟨rs,e,_⟩=>absurd e (h _)⟩;cases x with
 |tup xs=>
  have hk:gy A xs=true:=hk;have s:=z xs rfl;have hz:(1000:Nat)<=sizeLine:=by decide
  refine wW (λx=>.bl (gO x)) _ _ _ (λ_ _=>trivial) (λx m I g1=>⟨[x],rfl,λQ B=>?_⟩) (show 0+xs.length<=sizeLine by omega) (λI g1=>?_)
  .exact⟨rfl,x,rfl,qm g1 _ (DW hk m),λM g2=>B _ g2⟩
  rw[fh];refine pH (bs:=xs.map gO) aK (mW _ _) ?_;have g2:=g1.trans (Gr.push (T:=[C.lst (xs.map λx=>D.bl (gO x))]));generalize I++[C.lst (xs.map λx=>D.bl (gO x))]=M at*
  cases E:(xs.map gO).all id with
  |false=>
   refine q _ g2 false ⟨λe=>(by cases e),λ⟨rs,e,u⟩=>?_⟩;injection e with e;subst e;have:((rs.map aJ).map gO).all id=true:=mw.mpr λb N=>by
    obtain⟨x,m,rfl⟩:=aS.mp N;obtain⟨r,j,rfl⟩:=aS.mp m;exact QC (u.nm r j) (u.no r j).1 (u.no r j).2
   rw[this] at E;cases E
  |true=>
   obtain⟨rs,rfl,t⟩:=EH (xs:=xs) λx m=>mw.mp E _ (kF m);rw[a_] at s;refine fQ (f:=λx=>match x with|.tup (y::_)=>y|x=>x) trivial _ _ (λx m=>⟨[x],rfl,λQ B=>?_⟩) (show 0+(rs.map aJ).length<=sizeLine by rw[a_];omega) ?_
   .obtain⟨r,j,rfl⟩:=aS.mp m
    exact B
   have e:(rs.map aJ).map (λx=>match x with|.tup (y::_)=>y|x=>x)=(rs.map (·.1)).map D.str:=by
    rw[b_,b_];rfl
   rw[fh,e];have v:∀n∈rs.map (·.1),Nm n:=λn hn=>by
    obtain⟨r,j,rfl⟩:=aS.mp hn;exact(t r j).1
   refine F4 (ss:=rs.map (·.1)) aK (by have:=strs_map id (rs.map (·.1));simpa using this) (by simpa using s) λys J L=>?_;refine B8 (getElem?_push aK) aK v (λn hn=>v n ((L n).mp hn)) ?_;refine q _ ((g2.trans Gr.push).trans Gr.push) _ ?_;rw[jW];constructor
   .intro h
    exact⟨rs,rfl,λr j=>(t r j).1,λr j=>(t r j).2,by rw[h];exact J,s⟩
   .rintro ⟨F,G,u⟩
    have G:rs=F:=lC G;subst G;exact(pw_eq J u.up L).symm
 |exc c=>cases hk
 |ref r=>
  rcases tZ hk with e|e;all_goals
   conv=>whnf
   rw[e];exact l λxs h=>by cases h
 |_=>exact l λxs h=>by cases h
theorem Kd(T:TopD K mg "check_are_weights" yP lQ){a:Addr}(d:mg "NoWeights"=some (.ref a))(e:excIn K a iD "ValueError.__new__"=true)
  (c:ay P w K mg base 3 "is_weights" lT (av mg 1 Au)):ay P w K mg base 4 "check_are_weights" lQ (av mg 1 Aj):=by
 refine bO T FG λi j k n nd=>⟨_,(aC (bz (dH (dI (dL c i k (aa (vr 0) ah)))) (aC (j6 j rfl d e (aa bx ah))) bG)),λds A R h o=>?_⟩;obtain⟨x,rfl,hk,f,l,m⟩:=h;refine⟨rfl,x,rfl,hk,f,λp g1 b g=>?_⟩;cases b with
 |true=>exact l (g.mp rfl) _ g1
 |false=>exact⟨by decide,m (λh=>by cases g.mpr h) _ g1⟩
theorem Ke(T:TopD K mg "check_weights" yQ ko)(l:mg "dict"=none){d:Addr}(i:mg "NoWeights"=some (.ref d))(j:excIn K d iD "ValueError.__new__"=true)
  (c:ay P w K mg base 4 "check_are_weights" lQ (av mg 1 Aj))(g:ay P w K mg base 9 "leaves_below" nM (av mg 2 (rT 8))):ay P w K mg base 10 "check_weights" ko (av mg 2 Al):=by
 refine bO T FH λG L H M nd=>⟨_,(aF (eW (dL c G H (aa (vr 1) ah)))
  (aF (dS 2 nd (jw (lu rfl) lB l mC (aa (vr 1) ah)))
  (aC (pY lP rfl (ef (dL g G H (aa (vr 0) (aa bx ah)))) (sG rfl (jz (dG 3 nd) (jz (dG 4 nd) sH))) (aC (bz (zp M (vr 4) (vr 2)) (aC (j6 L rfl i j (aa (BE (vr 4)) ah))) bG)))))),λds A R h N=>?_⟩
 obtain⟨m,x,rfl,hd,z,hk,B,O,I⟩:=h;refine⟨rfl,x,rfl,hk,B,λs C g1=>?_,λs C g1=>?_⟩
 .obtain⟨rs,rfl,s⟩:=s
  refine m5 s ?_;refine⟨rfl,_,⟨m,_,rfl,by omega,by decide+kernel,by omega,rfl⟩,λJ W g2 h2=>?_⟩;refine iy h2 ?_;have Q:J[C.length]?=some (.dct (dJ rs)):=g2.get aK;have u:=(g1.trans Gr.push).trans g2;refine pV (λrest τ A'=>∃(o f:List (Str×Str)) (a b:Option D),rest=f.map f6/\o++f=jb m ""/\(∀p∈o,p.2∈rs.map (·.1))/\τ=[some (enc m),some (bV rs),some (.ref C.length),a,b]/\A'=J) ?_ ?_ ?_ _ _ _ ⟨[],jb m "",none,none,rfl,rfl,by simp,rfl,rfl⟩
  .rintro rest τ A' ⟨o,f,a,b,_,_,_,_,rfl⟩
   exact h2
  .rintro v rest τ A' ⟨o,f,a,b,e,k,r,rfl,rfl⟩ X S
   cases f with
   |nil=>cases e
   |cons p f=>
    cases e;refine⟨rfl,xV Q rfl ?_⟩;by_cases t:p.2∈rs.map (·.1)
    .rw[nq rs p.2 t]
     exact S _ _ ⟨o++[p],f,_,_,rfl,by simpa using k,λq U=>by
      rcases br.mp U with h|h
      .exact r q h
      .rw[bK.mp h];exact t,rfl,rfl⟩
    .rw[CA rs p.2 t]
     have y:p.2∈m.names:=by
      rw[<-kg m "",<-k];exact kF (by simp)
     have N:=(z _ y).hi;have Y:("there is no weight for ":Str).length=23:=by decide+kernel
     have hz:(1000:Nat)<=sizeLine:=by decide
     have no:=I (λ⟨E,F,V⟩=>t (by
      have F:rs=E:=lC F;rw[F];exact V.nm _ y)) _ u
     first
      |exact⟨by omega,Nat.le_of_ble_eq_true rfl,no⟩
      |exact⟨by omega,by decide,no⟩
      |exact⟨by omega,show 1<=sizeLine by decide,no⟩
  .rintro τ A' ⟨o,f,a,b,e,k,r,rfl,rfl⟩
   cases f with
   |cons _ _=>cases e
   |nil=>
    have k:o=jb m "":=by simpa using k
    exact O ⟨rs,rfl,s,λn hn=>by
     rw[<-kg m ""] at hn;obtain⟨p,t,rfl⟩:=aS.mp hn;exact r p (by rw[k];exact t)⟩ _ u
 .exact I (λ⟨rs,e,b⟩=>s ⟨rs,e,b.ok⟩) _ g1
end My
namespace DP
open L2 MA
def Aw:Ct:=rX
def Am(d:Nat):Ct:=SV λds v=>∃m,ds=[enc m]/\m.deep<d/\v=.int m.deep
def fO:M->M
 |.wt n=>.wt (("z":Str)++n)
 |.aG l r a b=>.aG l r (fO a) (fO b)
def Af(d:Nat):Ct:=SV λds v=>∃m,ds=[enc m]/\m.deep<d/\(∀n∈m.names,n.length<=3)/\v=enc (fO m)
theorem wB:∀m:M,(fO m).deep=m.deep
 |.wt n=>rfl
 |.aG l r a b=>by
  show max (fO a).deep (fO b).deep+1=max a.deep b.deep+1;rw[wB a,wB b]
theorem rY:∀m:M,(fO m).names=m.names.map λn=>("z":Str)++n
 |.wt n=>rfl
 |.aG l r a b=>by
  show(fO a).names++(fO b).names=(a.names++b.names).map λn=>("z":Str)++n;rw[rY a,rY b,ff]
theorem wA:∀m:M,m.arms->(fO m).arms
 |.wt n,h=>h
 |.aG l r a b,⟨h1,h2,h3,c,d,e⟩=>⟨h1,h2,h3,c,wA a d,wA b e⟩
theorem Hy{m:M}(h:Wf m)(h2:∀n∈m.names,n.length<=2):Wf (fO m):=by
 refine⟨wA m h.arms,λn hn=>?_⟩;rw[rY] at hn;obtain⟨x,a,rfl⟩:=aS.mp hn;have b:(("z":Str)++x).length=1+x.length:=by
  have:("z":Str).length=1:=by decide+kernel
  rw[<-this];exact ow
 have:=h2 x a;refine⟨by omega,by omega,λc hc=>?_⟩;have e:(("z":Str)++x).cps.toList=("z":Str).cps.toList++x.cps.toList:=eT;rw[e,My.uU] at hc;rcases br.mp hc with hc|hc
 .have:c=122:=by simpa using hc
  omega
 .exact(h.nm x a).az c hc
def An:Ct:=λds A R E=>∃a b x,ds=[enc a,enc b,x]/\Wf a/\Wf b/\a.deep<=5/\b.deep<=5/\cM A x=true/\lV x/\
 (∀rs,x=bV rs->Bk rs a->Bk rs b->∀A',Gr A A'->if mx (arm (val rs) a b)<=9 then (if max a.deep b.deep+1<=5 then R (enc (.aG (arm (val rs) a b).1 (arm (val rs) a b).2 a b)) A' else E "TooDeep" A') else E "TooLong" A')/\
 ((¬∃rs,x=bV rs/\Bk rs a/\Bk rs b)->∀A',Gr A A'->E "NoWeights" A')
end DP
namespace My
open L2 DP MA
theorem KJ(T:TopD K mg "_law_least" EZ ud):ay P w K mg base 1 "_law_least" ud (av mg 2 Aw):=by
 refine bO T QY λu z B C nd=>⟨_,(aF (BX (i:=2) (j:=3) rfl nd rfl rfl (by decide) rfl rfl (aa (vr 0) (aa (vr 1) ah)) rfl)
  (aF (BY lP (kD (vr 3) aq) (aC (BX (i:=2) (j:=3) rfl nd rfl rfl (by decide) rfl rfl (aa (vr 3) (aa (j3 (vr 2) (vr 3)) ah)) rfl)))
  (aC (aO (cK (aa (jx (vr 0) (vr 2)) (aa (jx (vr 1) (vr 2)) ah))))))),λds A R h o=>?_⟩
 obtain⟨v,⟨a,b,rfl,p,D,hz,rfl⟩,q⟩:=h;have l:0<(Int.gcd a b:Int):=by
  have:=rD b (show a≠0 by omega);omega
 have o:(Int.gcd a b:Int)<=a:=l0 p (kZ a b);have m:(Int.gcd a b:Int).natAbs.log2<9000:=by
  have h1:(Int.gcd a b:Int).natAbs<2 ^ 2000:=by omega
  have:=(log2_lt (n:=(Int.gcd a b:Int).natAbs) (k:=2000) (by omega)).mpr h1;omega
 refine⟨λn τ A'=>A'=A/\∃(x y:Int),τ=[some (.int a),some (.int b),some (.int x),some (.int y)]/\0<=x/\0<=y/\Int.gcd x y=Int.gcd a b/\n=y.toNat,⟨_,rfl,a,b,rfl,by omega,by omega,rfl,rfl⟩,?_⟩;rintro n τ A' ⟨rfl,x,y,rfl,h0,h1,f,rfl⟩;refine cD (λc=>?_) (λc=>?_)
 .refine⟨λτ r=>r=A'/\∃(g d:Int),τ=[some (.int a),some (.int b),some (.int g),some (.int d)]/\0<=g/\0<=d/\Int.gcd g d=Int.gcd a b/\d.toNat<y.toNat,λbU A' ⟨e,g,d,h1,h2,h3,s,t⟩=>⟨_,t,e,g,d,h1,h2,h3,s,rfl⟩,?_⟩
  have m0:=rL x (show y≠0 by omega);have E:=rK x (show 0<y by omega);exact⟨c,rfl,y,x%y,rfl,h1,m0,by rw[Cy h0 c];exact f,by omega⟩
 .have e:y=0:=by omega
  subst e;have ex:(x:Int)=(Int.gcd a b:Int):=by rw[<-f,Int.gcd_zero_right];omega
  subst ex;exact⟨⟨l,m⟩,⟨l,m⟩,show 2<=sizeLine by decide,q _ Gr.refl⟩
theorem Kv(T:TopD K mg "_law_deep" EX uc)(g:mg "max"=none):∀d,ay P w K mg base (d+1) "_law_deep" uc (av mg 1 (Am d)):=by
 intro d;induction d with
 |zero=>
  refine j8 T λds A R RE h=>?_;obtain⟨v,⟨m,_,h,_⟩,_⟩:=h;omega
 |succ d c=>
  refine gM T FD rfl (by decide) λN RE f o B outer s H E j u k ds A R h x=>?_;have i:=j.units;have nd:=FD.nd;refine⟨_,(aF (bz (gR i (dX i (vr 0) aq) bx) (aC (aO aq)) bG)
  (aC (aO (dz aq (cS (wN rfl) w_ g boot_max (aa (dL c j k (aa (dX i (vr 0) aq) ah)) (aa (dL c j k (aa (dX i (vr 0) aq) ah)) ah))))))),?_⟩
  obtain⟨v,⟨m,rfl,hd,rfl⟩,q⟩:=h;cases m with
  |wt n=>exact q _ Gr.refl
  |aG l r a b=>
   have p:max a.deep b.deep+1<d+1:=hd;refine⟨rfl,_,⟨a,rfl,by omega,rfl⟩,λy g1=>?_⟩;refine⟨rfl,_,⟨b,rfl,by omega,rfl⟩,λt g2=>?_⟩;have e:(1:Int)+(if (b.deep:Int)>a.deep then (b.deep:Int) else a.deep)=((max a.deep b.deep+1:Nat):Int):=by split<;>omega
   show R (.int (1+(if (b.deep:Int)>a.deep then (b.deep:Int) else a.deep))) t;rw[e];exact q _ (g1.trans g2)
theorem Kn(T:TopD K mg "_law_again" EU t9):∀d,ay P w K mg base (d+1) "_law_again" t9 (av mg 1 (Af d)):=by
 intro d;induction d with
 |zero=>
  refine j8 T λds A R RE h=>?_;obtain⟨v,⟨m,_,h,_⟩,_⟩:=h;omega
 |succ d c=>
  refine gM T Fz rfl (by decide) λN RE f j B outer s H E g p i ds A R h t=>?_;have e:=g.units;have nd:=Fz.nd;refine⟨_,(aF (bz (gR e (dX e (vr 0) aq) bx) (aC (aO (cK (aa bx (aa (dz bx (dX e (vr 0) aq)) ah))))) bG)
  (aC (aO (dz (xh (vr 0) xu (xw aq)) (cK (aa (dL c g i (aa (dX e (vr 0) aq) ah)) (aa (dL c g i (aa (dX e (vr 0) aq) ah)) ah))))))),?_⟩
  obtain⟨v,⟨m,rfl,hd,hn,rfl⟩,q⟩:=h;have hz:(100:Nat)<=sizeLine:=by decide
  have k:("z":Str).length=1:=by decide+kernel
  cases m with
  |wt n=>
   have:=hn n (by simp[aP.names]);exact⟨by omega,show 2<=sizeLine by decide,q _ Gr.refl⟩
  |aG l r a b=>
   have o:max a.deep b.deep+1<d+1:=hd;refine⟨show ¬(HT.aR 5 0 none=0/\HT.aR 5 5 (some 3)=5) by decide,?_⟩;refine⟨rfl,_,⟨a,rfl,by omega,λn h=>hn n (by simp[aP.names,h]),rfl⟩,λu g1=>?_⟩;refine⟨rfl,_,⟨b,rfl,by omega,λn h=>hn n (by simp[aP.names,h]),rfl⟩,λx g2=>?_⟩;exact⟨show 2<=sizeLine by decide,show 3+2<=sizeLine by decide,q _ (g1.trans g2)⟩
theorem Kf(T:TopD K mg "hung" E7 um)(n:mg "dict"=none){t:Tok}(j:mg "MOST_RODS"=some (.int 5 t)){g:Addr}(l:mg "TooDeep"=some (.ref g))(m:excIn K g iD "ValueError.__new__"=true)
  (f:ay P w K mg base 9 "check_mobile" lR (av mg 1 o8))(d:ay P w K mg base 10 "check_weights" ko (av mg 2 Al))(k:ay P w K mg base 12 "still_rod" uE (av mg 3 AN))(i:ay P w K mg base 8 "rods_within" uB (av mg 1 (AK 7))):ay P w K mg base 13 "hung" um (av mg 3 An):=by
 refine bO T Q5 λq M r Y nd=>⟨_,(aF (eW (dL f q r (aa (vr 0) ah)))
  (aF (eW (dL f q r (aa (vr 1) ah)))
  (aF (eW (dL d q r (aa (vr 0) (aa (vr 2) ah))))
  (aF (eW (dL d q r (aa (vr 1) (aa (vr 2) ah))))
  (aF (dS 3 nd (dL k q r (aa (vr 0) (aa (vr 1) (aa (jw (lu rfl) lB n mC (aa (vr 2) ah)) ah)))))
  (aF (bz (kD (dL i q r (aa (vr 3) ah)) (jy j)) (aC (j6 M rfl l m (aa bx ah))) bG)
  (aC (aO (vr 3))))))))),λds A R h Z=>?_⟩
 obtain⟨a,b,x,rfl,E,F,da,db,hk,G,H,I⟩:=h;refine⟨rfl,_,⟨a,rfl,E,by omega,rfl⟩,λA1 g1=>?_⟩;refine⟨rfl,_,⟨b,rfl,F,by omega,rfl⟩,λA2 g2=>?_⟩;have o:=g1.trans g2;refine⟨rfl,a,x,rfl,by omega,E.nm,qm o _ hk,G,λh3 N g3=>?_,λh3 N g3=>I (λ⟨rs,e,O,_⟩=>h3 ⟨rs,e,O⟩) _ (o.trans g3)⟩;have p:=o.trans g3;refine⟨rfl,b,x,rfl,by omega,F.nm,qm p _ hk,G,λy Q z=>?_,λy Q z=>I (λ⟨rs,e,_,S⟩=>y ⟨rs,e,S⟩) _ (p.trans z)⟩;obtain⟨rs,rfl,v⟩:=h3;obtain⟨U,B,C⟩:=y;have B:=lC B;subst B;refine m5 v.ok ?_;have s:=p.trans z;refine⟨rfl,a,b,_,rs,rfl,aK,v,C,by omega,by omega,λV J=>?_⟩;have L:=H rs rfl v C V ((s.trans Gr.push).trans J);by_cases D:mx (arm (val rs) a b)<=9
 .rw[aj D]
  refine⟨rfl,_,⟨_,rfl,show max a.deep b.deep+1<7 by omega,rfl⟩,λW X=>?_⟩;have u:=H rs rfl v C W (((s.trans Gr.push).trans J).trans X);rw[aj D] at u;refine cD (λc=>?_) (λc=>?_)
  .have c':(5:Int)<((max a.deep b.deep+1:Nat):Int):=c
   rw[ai (by omega)] at u;exact⟨by decide,u⟩
  .have c':¬(5:Int)<((max a.deep b.deep+1:Nat):Int):=c
   rw[aj (by omega)] at u;exact u
 .rw[ai D] at L ⊢
  exact L
end My
namespace DP
open L2
theorem HU:bootBuiltins "ValueError"=some (.type "ValueError"):=by decide+kernel
def wu(nm:Str)(j:Nat):Ct:=λds A R _=>ds=[.exc nm]/\∀A',Gr A A'->R (.tup [.str "refused",.int (j:Nat)]) A'
def fX:List (Str×Bool)->Str->Option Bool
 |[],_=>none
 |(n,b)::r,c=>if c=n then some b else fX r c
theorem aZ.nil{K:Frag}{mg:au}{a:Value}:aZ K mg a (fX []):=λc C b h _=>by cases h
theorem aZ.cons{K:Frag}{mg:au}{nm:Str}{C:Addr}{a:Value}{b:Bool}{r:List (Str×Bool)}(d:mg nm=some (.ref C))(f:k7 K C)(hk:kitOne K (.ref C) a=some b)(g:aZ K mg a (fX r)):aZ K mg a (fX ((nm,b)::r)):=λc i j h h'=>by
 unfold fX at h;split at h
 .rename_i e
  subst e;cases h;rw[d] at h';cases h';exact⟨f,hk⟩
 .exact g c i j h h'
def AU:Ct:=λds A R E=>wu "NoWeights" 2 ds A R E\/wu "TooLong" 6 ds A R E\/wu "TooDeep" 7 ds A R E
end DP
namespace My
open L2 DP MA
theorem Lb(T:TopD K mg "_law_which" yO ug)(a:mg "isinstance"=none)(k:mg "ValueError"=none){d n b t e u g i:Addr}
  (v:mg "NoMobile"=some (.ref d))(L:mg "NoHall"=some (.ref n))(o:mg "NoWeights"=some (.ref b))(Q:mg "NoWay"=some (.ref t))(x:mg "NoNumber"=some (.ref e))(S:mg "Never"=some (.ref u))(G:mg "TooLong"=some (.ref g))(I:mg "TooDeep"=some (.ref i))
  (p:aZ K mg (.ref d) (fX [("NoWeights",false),("TooLong",false),("TooDeep",false)]))(J:aZ K mg (.ref n) (fX [("NoWeights",false),("TooLong",false),("TooDeep",false)]))(l:aZ K mg (.ref b) (fX [("NoWeights",true),("TooLong",false),("TooDeep",false)]))(M:aZ K mg (.ref t) (fX [("NoWeights",false),("TooLong",false),("TooDeep",false)]))(r:aZ K mg (.ref e) (fX [("NoWeights",false),("TooLong",false),("TooDeep",false)]))(O:aZ K mg (.ref u) (fX [("NoWeights",false),("TooLong",false),("TooDeep",false)]))(y:aZ K mg (.ref g) (fX [("NoWeights",false),("TooLong",true),("TooDeep",false)]))(z:aZ K mg (.ref i) (fX [("NoWeights",false),("TooLong",false),("TooDeep",true)]))(j:aZ K mg (.type "ValueError") (fX [("NoWeights",true),("TooLong",true),("TooDeep",true)])):mO P w K mg base 1 "_law_which" ug (av mg 1 AU):=by
 refine Lh T FF rfl (by decide) λN f W B outer s H E X ds A R RE h Z=> ?_
 have Y:(B.deeper (envOfC "_law_which" (aE yO) s.heap.objs.size f W)).units+64<cLine:=by
  have:=X.un
  omega
 have nd:=FF.nd
 refine⟨_,(aF (dS 1 nd (fB (aa (j0 a v p (vr 0)) (aa (j0 a L J (vr 0)) (aa (j0 a o l (vr 0)) (aa (j0 a Q M (vr 0)) ah))))))
  (aF (eW (j4 kO PySem.F.slot_list_extend PySem.F.type_list_extend DE Bx (vr 1) (aa (fB (aa (j0 a x r (vr 0)) (aa (j0 a S O (vr 0)) (aa (j0 a G y (vr 0)) (aa (j0 a I z (vr 0)) ah))))) ah)))
  (aF (bz (PW.pt (fD (jL Y (j4 kO PySem.F.slot_list_count PySem.F.type_list_count NN IY (vr 1) (aa eL ah)) aq) (fY (dH (dI (Jr a k HU j (vr 0))))))) (aC (aO (cK (aa bx (aa (BF aq) ah))))) bG)
  (aC (aO (cK (aa bx (aa (j4 kO PySem.F.slot_list_index PySem.F.type_list_index NO I9 (vr 1) (aa eL ah)) ah)))))))),?_⟩
 rcases h with⟨rfl,q⟩|⟨rfl,q⟩|⟨rfl,q⟩
 .refine⟨show 4<=sizeLine by decide,f5 aK,show 4<=sizeLine by decide,sR (getElem?_push aK) aK (by decide) ?_⟩
  have h1:=get_set (ys:=[D.bl false,D.bl false,D.bl true,D.bl false]++[D.bl false,D.bl false,D.bl false,D.bl false]) (getElem?_push (T:=[C.lst [D.bl false,D.bl false,D.bl false,D.bl false]]) (aK (A:=A) (c:=C.lst [D.bl false,D.bl false,D.bl true,D.bl false])))
  have U:∀m,m<2->[false,false,true,false,false,false,false,false][m]? =some false:=by decide
  refine⟨f5 h1,wY (bs:=[false,false,true,false,false,false,false,false]) h1 rfl ?_⟩
  refine⟨f5 h1,xT (bs:=[false,false,true,false,false,false,false,false]) 2 h1 rfl rfl (λm c V h=>by rw[U m V] at h;cases h;decide) ⟨show 2<=sizeLine by decide,q _ ?_⟩⟩
  exact((Gr.push.trans Gr.push).set (aH _))
 .refine⟨show 4<=sizeLine by decide,f5 aK,show 4<=sizeLine by decide,sR (getElem?_push aK) aK (by decide) ?_⟩
  have h1:=get_set (ys:=[D.bl false,D.bl false,D.bl false,D.bl false]++[D.bl false,D.bl false,D.bl true,D.bl false]) (getElem?_push (T:=[C.lst [D.bl false,D.bl false,D.bl true,D.bl false]]) (aK (A:=A) (c:=C.lst [D.bl false,D.bl false,D.bl false,D.bl false])))
  have U:∀m,m<6->[false,false,false,false,false,false,true,false][m]? =some false:=by decide
  refine⟨f5 h1,wY (bs:=[false,false,false,false,false,false,true,false]) h1 rfl ?_⟩
  refine⟨f5 h1,xT (bs:=[false,false,false,false,false,false,true,false]) 6 h1 rfl rfl (λm c V h=>by rw[U m V] at h;cases h;decide) ⟨show 2<=sizeLine by decide,q _ ?_⟩⟩
  exact((Gr.push.trans Gr.push).set (aH _))
 .refine⟨show 4<=sizeLine by decide,f5 aK,show 4<=sizeLine by decide,sR (getElem?_push aK) aK (by decide) ?_⟩
  have h1:=get_set (ys:=[D.bl false,D.bl false,D.bl false,D.bl false]++[D.bl false,D.bl false,D.bl false,D.bl true]) (getElem?_push (T:=[C.lst [D.bl false,D.bl false,D.bl false,D.bl true]]) (aK (A:=A) (c:=C.lst [D.bl false,D.bl false,D.bl false,D.bl false])))
  have U:∀m,m<7->[false,false,false,false,false,false,false,true][m]? =some false:=by decide
  refine⟨f5 h1,wY (bs:=[false,false,false,false,false,false,false,true]) h1 rfl ?_⟩
  refine⟨f5 h1,xT (bs:=[false,false,false,false,false,false,false,true]) 7 h1 rfl rfl (λm c V h=>by rw[U m V] at h;cases h;decide) ⟨show 2<=sizeLine by decide,q _ ?_⟩⟩
  exact((Gr.push.trans Gr.push).set (aH _))
end My
namespace DP
open L2 MA
def fq(x:Rat):D:=.tup [.int (rf x).1,.int (rf x).2]
def uP(p:Str×Str×Rat):D:=.tup [.str p.1,.str p.2.1,fq p.2.2]
theorem Qt{a b:Int}(c:0<b):rd a b=rf ((a:Rat)/(b:Rat)):=yN c
def AJ:Ct:=λds A R _=>∃a b c d:Int,ds=[.tup [.int a,.int b],.tup [.int c,.int d]]/\0<a/\0<b/\0<c/\0<d/\c<2 ^ 64/\d<2 ^ 64/\a*c<2 ^ 2000/\∀A',Gr A A'->R (fq (((a:Rat)/(b:Rat))*((c:Rat)/(d:Rat)))) A'
theorem mul_div{a b c d:Int}(e:0<b)(hd:0<d):((a*c:Int):Rat)/((b*d:Int):Rat)=((a:Rat)/(b:Rat))*((c:Rat)/(d:Rat)):=by
 have h1:=mZ (jn e);have h2:=mZ (jn hd);rw[gf,gf];grind
def AM(d:Nat):Ct:=λds A R _=>∃m w x,ds=[enc m,.str w,fq x]/\m.arms/\m.deep<d/\d<=6/\w.length+d<=100/\0<x/\(rf x).1*18 ^ m.deep<=1000000000/\∀A' q,Gr A A'->A'[q]?=some (.lst ((bS m w x).map uP))->A.length<=q->R (.ref q) A'
def wm:Ct:=λds A R _=>∃m,ds=[enc m]/\Wf m/\m.deep<=5/\∀A' q,Gr A A'->A'[q]?=some (.lst ((bS m "" 1).map uP))->A.length<=q->R (.ref q) A'
theorem A_{a:Int}(h:a<=1000000000000):a<2 ^ 2000:=Int.lt_of_le_of_lt h (Int.lt_of_lt_of_le (show(1000000000000:Int)<2 ^ 64 by decide) (by
 have:(2:Nat) ^ 64<=2 ^ 2000:=fj (by decide) (by decide);exact_mod_cast this))
end DP
namespace My
open L2 DP MA
theorem K0(T:TopD K mg "product" Fj uz)(e:ay P w K mg base 2 "reduced" qt (av mg 2 rX)):ay P w K mg base 3 "product" uz (av mg 2 AJ):=by
 refine bO T Rh λj p k f nd=>⟨_,(aC (aO (dL e j k (aa (gu (dX f (vr 0) aq) (dX f (vr 1) aq)) (aa (gu (dX f (vr 0) aq) (dX f (vr 1) aq)) ah))))),λds A R h r=>?_⟩;obtain⟨a,b,c,d,rfl,h1,h2,h3,i,l,m,n,q⟩:=h;refine⟨.inr ⟨by omega,l⟩,.inr ⟨by omega,m⟩,rfl,_,⟨_,_,rfl,jQ h1 h3,jQ h2 i,n,rfl⟩,λo g1=>?_⟩;have g:=q o g1;rw[<-mul_div h2 i] at g;unfold fq at g;rw[<-Qt (jQ h2 i)] at g;exact g
theorem K6(T:TopD K mg "shares_below" Ft uC)(e:ay P w K mg base 3 "product" uz (av mg 2 AJ)):∀d,ay P w K mg base (d+3) "shares_below" uC (av mg 3 (AM d)):=by
 intro d;induction d with
 |zero=>
  refine j8 T λds A R RE h=>?_;obtain⟨m,w,x,_,_,h,_⟩:=h;omega
 |succ d c=>
  refine gM T FP rfl (by decide) λN RE f C B outer s H E j L k ds A R h M=>?_;have g:=j.units;have nd:=FP.nd;refine⟨_,(aF (bz (gR g (dX g (vr 0) aq) bx) (aC (aO (fB (aa (cK (aa (vr 1) (aa (dX g (vr 0) aq) (aa (vr 2) ah)))) ah)))) bG)
  (aF (dS 3 nd (dz (dX g (vr 0) aq) (dX g (vr 0) aq)))
  (aF (dS 4 nd (dL e j k (aa (vr 2) (aa (cK (aa (dX g (vr 0) aq) (aa (vr 3) ah))) ah))))
  (aF (dS 5 nd (dL e j k (aa (vr 2) (aa (cK (aa (dX g (vr 0) aq) (aa (vr 3) ah))) ah))))
  (aC (aO (dz (dL c j k (aa (dX g (vr 0) aq) (aa (dz (vr 1) bx) (aa (vr 4) ah)))) (dL c j k (aa (dX g (vr 0) aq) (aa (dz (vr 1) bx) (aa (vr 5) ah))))))))))),?_⟩
  obtain⟨m,w,x,rfl,D,hd,O,Q,i,hn,q⟩:=h;have S:(1000:Nat)<=sizeLine:=by decide
  cases m with
  |wt n=>exact⟨show 3<=sizeLine by decide,show 1<=sizeLine by decide,q _ _ Gr.push aK (aH _)⟩
  |aG l r a b=>
   have F:max a.deep b.deep+1<d+1:=hd;obtain⟨t,U,u,V,o,p⟩:=D;have W:("l":Str).length=1:=by decide+kernel
   have X:("r":Str).length=1:=by decide+kernel
   have al:∀x y:Str,(x++y).length=x.length+y.length:=λx y=>ow;have np:=nK i;have dp:=gA x;have hn:(rf x).1*18 ^ (max a.deep b.deep+1)<=1000000000:=hn;have n1:(rf (x*((r:Rat)/((l+r:Int):Rat)))).1<=(rf x).1*18:=d9 (num_mul (by omega) (mul_nonneg (by omega) (by omega))) (oH (by omega) (by omega));have n2:(rf (x*((l:Rat)/((l+r:Int):Rat)))).1<=(rf x).1*18:=d9 (num_mul (by omega) (mul_nonneg (by omega) (by omega))) (oH (by omega) (by omega));obtain⟨k1,_,k0⟩:=BL hn n1 np;obtain⟨_,k2,_⟩:=BL hn n2 np;have p1:0<x*((r:Rat)/((l+r:Int):Rat)):=aP.step_pos t u i;have p2:0<x*((l:Rat)/((l+r:Int):Rat)):=by
    have:=aP.step_pos (l:=r) (r:=l) u t i;rwa [add_comm r l] at this
   have Y:(rf x).1*r<=1000000000*18:=iG k0 (by omega) (by omega) (by omega);have Z:(rf x).1*l<=1000000000*18:=iG k0 (by omega) (by omega) (by omega);have G:(18:Int)<2 ^ 64:=by decide
   refine⟨show 2<=sizeLine by decide,rfl,_,_,_,_,rfl,np,dp,by omega,by omega,by omega,by omega,A_ (by omega),λA1 g1=>?_⟩;refine⟨show 2<=sizeLine by decide,rfl,_,_,_,_,rfl,np,dp,by omega,by omega,by omega,by omega,A_ (by omega),λA2 g2=>?_⟩;rw[nR];refine⟨by omega,rfl,a,_,_,rfl,o,by omega,by omega,by rw[al];omega,p1,k1,λA3 q3 g3 h3 _=>?_⟩;refine⟨by omega,rfl,b,_,_,rfl,p,by omega,by omega,by rw[al];omega,p2,k2,λI q4 v J _=>?_⟩;have z1:=kj (m:=a) (by omega);have z2:=kj (m:=b) (by omega);have z:Gr A I:=((g1.trans g2).trans g3).trans v;refine su (v.get h3) J (by simp[qH];omega) (q _ _ (z.trans Gr.push) ?_ z.len);rw[aK];simp[bS]
theorem K5(T:TopD K mg "shares" Fq qu)(a:ay P w K mg base 9 "check_mobile" lR (av mg 1 o8))(b:ay P w K mg base 9 "shares_below" uC (av mg 3 (AM 6))):ay P w K mg base 10 "shares" qu (av mg 1 wm):=by
 refine bO T Rm λc g d i nd=>⟨_,(aF (eW (dL a c d (aa (vr 0) ah)))
  (aC (aO (dL b c d (aa (vr 0) (aa bx (aa (cK (aa aq (aa aq ah))) ah))))))),λds A R h j=>?_⟩
 obtain⟨m,rfl,f,hd,q⟩:=h;refine⟨rfl,_,⟨m,rfl,f,hd,rfl⟩,λk g1=>?_⟩;have l:(D.tup [.int 1,.int 1])=fq 1:=rfl;refine⟨show 2<=sizeLine by decide,rfl,m,_,1,rfl,f.arms,by omega,by omega,by decide+kernel,by decide,?_,λn o g2 h2 l2=>q _ _ (g1.trans g2) h2 (cY g1.len l2)⟩;have p:=qx hd;have e:(18:Int) ^ 5=1889568:=by decide
 rw[e] at p;show(1:Int)*18 ^ m.deep<=1000000000;omega
end My
namespace DP
open L2 MA
def bD:Option (Str×Str)->D
 |some p=>.tup [.str p.1,.str p.2]
 |none=>.aB
def Ah:Ct:=λds A R _=>∃m,ds=[enc m]/\Wf m/\m.deep<=5/\∀A',Gr A A'->R (bD (cW [] (bS m "" 1))) A'
theorem xK(k:Key)(v:D)(b:Key):∀kvs:List (Key×D),ck (cO kvs k v) b=if k=b then some v else ck kvs b:=by
 intro kvs;by_cases d:(kvs.any λa=>decide (a.1=k))=true
 .have e:cO kvs k v=kvs.map λa=>if a.1=k then (a.1,v) else a:=by
   unfold cO;rw[aj d]
  rw[e];clear e;induction kvs with
  |nil=>simp at d
  |cons p r h=>
   by_cases c:p.1=k
   .rw[dg,aj c]
    unfold ck;by_cases hk:k=b
    .rw[aj hk,aj (by rw[<-hk];exact c)]
    .rw[ai hk,ai (λz=>hk (by rw[<-c];exact z))]
     rw[ai (λz=>hk (by rw[<-c];exact z))];by_cases f:(r.any λa=>decide (a.1=k))=true
     .rw[h f,ai hk]
     .have:r.map (λa=>if a.1=k then (a.1,v) else a)=r:=by
       rw[oq (g:=id)]
       .simp
       .intro q i
        rw[ai]
        .rfl
        .intro z
         exact f (any_eq_true.mpr ⟨q,i,dj z⟩)
      rw[this]
   .have f:(r.any λa=>decide (a.1=k))=true:=by simpa[c] using d
    rw[dg,ai c];unfold ck;by_cases hk:p.1=b
    .rw[aj hk,ai (λz=>c (by rw[z];exact hk)),aj hk]
    .rw[ai hk,ai hk]
     exact h f
 .have e:cO kvs k v=kvs++[(k,v)]:=by
   unfold cO;rw[ai d]
  rw[e];clear e;induction kvs with
  |nil=>simp[ck]
  |cons p r h=>
   have c:p.1≠k:=λz=>d (by simp[z]);have f:¬(r.any λa=>decide (a.1=k))=true:=λz=>d (by simp[z]);show(if p.1=b then some p.2 else ck (r++[(k,v)]) b)=if k=b then some v else (if p.1=b then some p.2 else ck r b)
   by_cases hk:p.1=b
   .rw[aj hk,ai (λz=>c (by rw[z];exact hk)),aj hk]
   .rw[ai hk,ai hk]
    exact h f
theorem P7(kvs:List (Key×D))(k:Key)(v:D):(cO kvs k v).length<=kvs.length+1:=by
 unfold cO;split<;>simp
theorem P9{A:Ar}{r:Nat}{kvs:List (Key×D)}{y v:D}{k:Key}{R:Ar->Prop}(h:A[r]?=some (.dct kvs))(hk:iz y=some k)(a:kvs.length<sizeLine)(q:R (A.set r (.dct (cO kvs k v)))):qz r y v A R:=by
 unfold qz;simp only[h,hk];exact⟨a,q⟩
theorem Lz{A:Ar}{r:Nat}{c c':C}(h:A[r]?=some c):(A.set r c')[r]?=some c':=by
 rw[lZ (bL.mp h).1]
theorem C_(x:Rat):(toQ (fq x)).canLay0=true:=by simp[fq,toQ,bY,canLay0,canLayAll0]
theorem Jx(x:Rat):(toQ (fq x)).depth<=64:=by simp[fq,toQ,bY,PyData.depth,depthAll]
theorem J2(x y:Rat):PyData.eqv (toQ (fq x)) (toQ (fq y))=decide (x=y):=by
 by_cases h:x=y
 .subst h
  simp[fq,toQ,bY,PyData.eqv,eqvAll]
 .rw[eG h]
  have:¬((rf x).1=(rf y).1/\(rf x).2=(rf y).2):=λz=>h (Qz (Prod.ext z.1 z.2));by_cases h1:(rf x).1=(rf y).1
  .have h2:¬(rf x).2=(rf y).2:=λz=>this ⟨h1,z⟩
   simp[fq,toQ,bY,PyData.eqv,eqvAll,h2]
  .simp[fq,toQ,bY,PyData.eqv,eqvAll,h1]
theorem NU{x y:Rat}{A:Ar}{R:DK}(k:R (.bl (!decide (x=y))) A):eK true (fq x) (fq y) A R:=by
 unfold eK;have h1:cE A (fq x)=toQ (fq x):=rfl;have h2:cE A (fq y)=toQ (fq y):=rfl;rw[h1,h2];have:=Jx x;refine⟨rfl,rfl,C_ x,C_ y,by omega,?_⟩;rw[J2];exact k
theorem Cb{pre:List (Str×Str×Rat)}{p:Str×Str×Rat}{n:Str}:(pre++[p]).find? (λq=>decide (q.2.1=n))=match pre.find? (λq=>decide (q.2.1=n)) with|some q=>some q|none=>if p.2.1=n then some p else none:=by
 rw[List.find?_append];cases pre.find? (λq=>decide (q.2.1=n)) with
 |some q=>rfl
 |none=>
  by_cases h:p.2.1=n
  .simp[h]
  .simp[h]
end DP
namespace My
open L2 DP MA
theorem Kp(T:TopD K mg "bar" E4 uh)(f:ay P w K mg base 10 "shares" qu (av mg 1 wm)):ay P w K mg base 11 "bar" uh (av mg 1 Ah):=by
 refine bO T Q2 λM V N o nd=>⟨_,(aF (dS 1 nd Jq)
  (aF (pY lP rfl (ef (dL f M N (aa (vr 0) ah))) (sG rfl (jz (dG 2 nd) (jz (dG 3 nd) (jz (dG 4 nd) sH)))) (aC (bz (zp o (vr 3) (vr 1)) (aC (JK o (vr 1) (vr 3) (cK (aa (vr 2) (aa (vr 4) ah))) rfl)) (aC (bz (jL o (dX o (dX o (vr 1) (vr 3)) aq) (vr 4)) (aC (aO (cK (aa (dX o (dX o (vr 1) (vr 3)) aq) (aa (vr 2) ah))))) bG)))))
  (aC (aO xg)))),λds A R h W=>?_⟩
 obtain⟨m,rfl,O,hd,q⟩:=h;obtain⟨r,k⟩:∃t,t=cW [] (bS m "" 1):=⟨_,rfl⟩;rw[<-k] at q;refine⟨rfl,m,rfl,O,hd,λQ J g1 h1 l1=>?_⟩;have l1:A.length+1<=J:=by simpa using l1
 refine iy h1 ?_;have ln:=qH m "" 1;have nl:=kj hd;have hz:(1000:Nat)<=sizeLine:=by decide
 have S:=g1.get (aK (A:=A) (c:=C.dct []));refine pV (λrest τ A'=>∃(pre a:List (Str×Str×Rat)) (kvs:List (Key×D)) (x y z:Option D),rest=a.map uP/\τ=[some (enc m),some (.ref A.length),x,y,z]/\pre++a=bS m "" 1/\cW pre a=r/\A'[A.length]?=some (.dct kvs)/\kvs.length<=pre.length/\(∀n:Str,ck kvs (Sum.inr n)=(pre.find? λq=>decide (q.2.1=n)).map λp=>.tup [.str p.1,fq p.2.2])/\cQ A.length Q A'/\A.length+1<=A'.length) ?_ ?_ ?_ _ _ _ ⟨[],bS m "" 1,[],none,none,none,rfl,rfl,rfl,k.symm,S,aH _,λn=>rfl,cQ.refl,by have:=g1.len;simpa using this⟩
 .rintro rest τ A' ⟨pre,a,kvs,x,y,z,_,_,_,_,_,_,_,b,_⟩
  exact b J _ (by omega) h1
 .rintro v rest τ A' ⟨pre,a,kvs,x,y,z,e,rfl,G,d,s,hk,H,b,u⟩ X L
  cases a with
  |nil=>cases e
  |cons p a=>
   cases e;obtain⟨l,n,i⟩:=p;have g:=H n;have U:pre.length<=32:=by
    have:(pre++(l,n,i)::a).length=(bS m "" 1).length:=by rw[G]
    simp at this;omega
   unfold cW at d;refine⟨rfl,xV s rfl ?_⟩;cases j:pre.find? (λq=>decide (q.2.1=n)) with
   |none=>
    rw[j] at g d;have g:ck kvs (Sum.inr n)=none:=g;rw[g];refine⟨show 2<=sizeLine by decide,P9 s rfl (by omega) ?_⟩;refine L _ _ ⟨pre++[(l,n,i)],a,_,_,_,_,rfl,rfl,by simpa using G,d,Lz s,?_,λn'=>?_,b.trans cQ.set,by simpa using u⟩
    .have:=P7 kvs (Sum.inr n) (.tup [.str l,fq i])
     simp;omega
    .rw[xK,Cb]
     by_cases hn:n=n'
     .subst hn
      rw[aj rfl,j];simp
     .rw[ai (λz=>hn (Sum.inr.inj z)),H n']
      cases pre.find? (λq=>decide (q.2.1=n')) with
      |some q=>rfl
      |none=>simp[hn]
   |some B=>
    rw[j] at g d;have g:ck kvs (Sum.inr n)=some (.tup [.str B.1,fq B.2.2]):=g;rw[g];refine nD s rfl g ?_;refine NU ?_;by_cases I:B.2.2=i
    .have d:(if B.2.2=i then cW (pre++[(l,n,i)]) a else some (B.1,l))=r:=d
     rw[aj I] at d;refine cN (λc=>absurd I c) (λ_=>?_);refine L _ _ ⟨pre++[(l,n,i)],a,kvs,_,_,_,rfl,rfl,by simpa using G,d,s,by simp;omega,λn'=>?_,b,u⟩;rw[Cb,H n'];cases E:pre.find? (λq=>decide (q.2.1=n')) with
     |some q=>rfl
     |none=>
      by_cases hn:n=n'
      .subst hn
       rw[j] at E;cases E
      .simp[hn]
    .have d:(if B.2.2=i then cW (pre++[(l,n,i)]) a else some (B.1,l))=r:=d
     rw[ai I] at d;refine cN (λ_=>?_) (λc=>absurd c I);refine nD s rfl g ?_;refine⟨show 2<=sizeLine by decide,?_⟩;have F:=q A' (Gr.DU (Gr.push.trans g1) (aH _) b);rw[<-d] at F;exact F
 .rintro τ A' ⟨pre,a,kvs,x,y,z,e,rfl,G,d,s,hk,H,b,u⟩
  cases a with
  |cons p a=>cases e
  |nil=>
   have F:=q A' (Gr.DU (Gr.push.trans g1) (aH _) b);rw[<-d] at F;exact F
end My
namespace L2
theorem jt.Oe{P:Program}{w:World}{K:Frag}{mg:au}{base:Heap}{x:Str}{st:Stmt}{N ps:List Str}{k:Nat}{sp:Sp}{f:Addr}{fd:FuncData}(F:jt K x x st f fd)(S:bf N ps (aE st))(len:∀vs H Q E,sp vs H Q E->vs.length=ps.length)
  (b:∀(f:Addr) (a:Value) (A:Around) (outer:List Env) (s:Shared) (H:Hp) (vs:List V) (Q:VK) (E:XK),cR k (A.deeper (envOfC x (aE st) s.heap.objs.size f a))->sp vs H Q E->
   ∃t,cj (bM (bu P w) P w K mg base N x (aE st) f a A outer s H E) (fC st) t/\t {nx:=λ_ H'=>Q .aB H',rt:=Q} (start N vs) H):fL P w K mg base (bu P w) (k+1) f fd ps sp:=by
 obtain⟨h,i,kV,doc,pm,an,a,ct,e,rfl,lk,c⟩:=F.ex;exact Ce lk c S len λA outer s H vs Q E g d=>b f a A outer s H vs Q E g d
end L2
namespace DP
open L2 MA
theorem Li{P:Program}{w:World}{K:Frag}{mg:au}{base:Heap}{x:Str}{st:Stmt}{Nm ps:List Str}{k n:Nat}{S:Ct}{y:Addr}{fd:FuncData}(T:jt K x x st y fd)(Sc:bf Nm ps (aE st))(hn:ps.length=n)(V:ps.length<=Nm.length)
  (j:∀(N:En) (RE:DX) (f:Addr) (g:Value) (B:Around) (outer:List Env) (s:Shared) (H:Hp) (E:XK),cR k (bM (bu P w) P w K mg base Nm x (aE st) f g B outer s H E).A->
   Raises (bM (bu P w) P w K mg base Nm x (aE st) f g B outer s H E) (EL mg N RE)->Passes (bu P w) (bM (bu P w) P w K mg base Nm x (aE st) f g B outer s H E) (EL mg N RE)->
   ∀ds A R,S ds A R RE->ds.length=n->∃m,cj (bM (bu P w) P w K mg base Nm x (aE st) f g B outer s H E) (fC st) (bZ mg N m)/\m {nx:=λ_ A'=>R .aB A',rt:=R} (iC (Nm.length - n) ds) A):fL P w K mg base (bu P w) (k+1) y fd ps (av mg n S):=by
 refine T.Oe Sc (λvs H Q E h=> ?_) λf g A outer s H vs Q E G h=> ?_
 .obtain⟨A,ι,ds,R,RE,t,_,o,_⟩:=h
  rw[<-ao.length o,t,hn]
 .obtain⟨p,l,ds,R,RE,t,ra,o,J,D,L⟩:=h
  have F:∀C a H',EL mg ⟨p,l,H⟩ RE C a H'->E C none H':=λC a H' z=>by
   obtain⟨c,A',ι',⟨b,rfl,hc⟩,ex,r,q⟩:=z
   exact L c A' ι' H' b q hc ex r
  obtain⟨m,M,O⟩:=j ⟨p,l,H⟩ RE f g A outer s H E G
   (λpins σ H1 u e h' C args I mx z=>EA pins σ H1 u e h' C args I mx (F _ _ _ z))
   (λpins σ H1 u e s' I z=>D5 pins σ H1 u e s' I (by
    obtain⟨a,C,H',h1,h2,h3⟩:=z
    exact⟨a,C,H',h1,h2,F _ _ _ h3⟩)) ds p R J t
  have U:=ao.length o
  refine⟨_,M,p,l,_,_,⟨ra,⟨?_,λi d q=> ?_⟩,ra.refl⟩,O,⟨λτ A' ι' σ H' q e r _=>D _ A' ι' H' _ q e r rfl,D,λ_ _ _ _ _ q _ _ _=>q.elim,λ_ _ _ _ _ q _ _ _=>q.elim⟩⟩
  .simp[iC,L2.start]
   omega
  .obtain⟨v,h1,h2⟩:=ao.get o (tO ds _ i d q)
   refine⟨v,?_,h2⟩
   have hi:=(bL.mp h1).1
   unfold L2.start
   rw[gU (by simpa using hi),cy,h1]
   rfl
def Av:Ct:=λds A R _=>∃ns,ds=[.fl ns]/\∀A',R (.bl true) A'
def nU:Sp:=λvs H Q _=>∃(a:Addr) (o:Obj) (ns:List Int),vs=[.ref a]/\H a=some (.cT o (.lst (ns.map V.int)))/\∀H',Q (.bl true) H'
theorem RT{mg:au}{vs:List V}{H:Hp}{Q:VK}{E:XK}(h:nU vs H Q E):av mg 1 Av vs H Q E:=by
 obtain⟨a,o,ns,rfl,h,q⟩:=h;refine⟨[],λ_=>a,[.fl ns],λv _=>v=.bl true,λ_ _=>False,rfl,⟨λr c h=>by simp at h,λr s b=>by simp at b⟩,⟨_,[],rfl,⟨a,o,rfl,h⟩,rfl⟩,⟨ns,rfl,λ_=>rfl⟩,λv A' ι' H' u e _ _ r=>?_,λ_ _ _ _ _ z=>z.elim⟩;subst e;cases r;exact q _
def lM(o:Obj):Bool:=match o.cls with
 |.type t=> !(decide (t="list"))
 |_=>true
theorem NZ{K:Frag}(h:K.all (λp=>lM p.2)=true){a:Addr}{o:Obj}(e:K.lookup a=some o):lM o=true:=by
 induction K with
 |nil=>cases e
 |cons p r b=>
  have h':lM p.2=true/\List.all r (λp=>lM p.2)=true:=by simpa using h
  rw[List.lookup] at e;split at e
  .cases e
   exact h'.1
  .exact b h'.2 e
theorem Lk{K:Frag}(b:K.all (λp=>lM p.2)=true){H:Hp}{a:Addr}{ns:List Int}(d:rS H)(f:aW K H a (ns.map V.int)):nU [.ref a] H (λv _=>v=.bl true) λ_ _ _=>False:=by
 rcases f with (e|⟨o,e⟩)|⟨o,its,n,e,c,_⟩
 .rcases d a with z|⟨o,xs,z⟩
  .rw[z] at e;cases e
  .rw[z] at e;cases e
 .exact⟨a,o,ns,rfl,e,λ_=>rfl⟩
 .have:=NZ b e
  unfold lM at this;rw[c] at this;simp at this
theorem pw_len:∀(ys ss:List Str),ys.Pairwise strLt->(∀x∈ys,x∈ss)->ys.length<=ss.length
 |[],_,_,_=>cH _
 |y::r,ss,d,a=>by
  have p:=l5.mp d;have b:=a y (cB ..);have:=pw_len r (ss.erase y) p.2 λx c=>(List.mem_erase_of_ne (zd (p.1 x c)).symm).mpr (a x (b9 _ c));rw[List.length_erase_of_mem b] at this;have:=List.length_pos_of_mem b;simp;omega
theorem qy:∀m:M,fH (enc m)=true
 |.wt n=>by simp[enc,fH,gz]
 |.aG l r a b=>by simp[enc,fH,gz,qy a,qy b]
theorem QB:canLay0 (.str "rod")=true:=by decide+kernel
theorem TH:canLay0 (.str "weight")=true:=by decide+kernel
theorem qb:∀m:M,(∀n∈m.names,Nm n)->(toQ (enc m)).canLay0=true
 |.wt n,h=>by
  have h1:=(h n (by simp[aP.names])).ok;have h2:=TH;simp only[enc,toQ,bY];simp only[canLay0,canLayAll0] at h1 h2 ⊢;simp[h1,h2]
 |.aG l r a b,h=>by
  have h1:=qb a λn hn=>h n (by simp[aP.names,hn]);have h2:=qb b λn hn=>h n (by simp[aP.names,hn]);have h3:=QB;simp only[enc,toQ,bY];simp only[canLay0] at h3;simp[canLay0,canLayAll0,h1,h2,h3]
theorem xo:∀m:M,(toQ (enc m)).depth<=m.deep+1
 |.wt n=>by
  simp only[enc,toQ,bY];simp[PyData.depth,depthAll]
 |.aG l r a b=>by
  have h1:=xo a;have h2:=xo b;simp only[enc,toQ,bY];simp[PyData.depth,depthAll,aP.deep];omega
theorem zu{A:Ar}:∀m:M,cE A (enc m)=toQ (enc m)
 |.wt n=>rfl
 |.aG l r a b=>rfl
theorem yu{A:Ar}:∀m:M,jc A (enc m)=fH (enc m)
 |.wt n=>rfl
 |.aG l r a b=>rfl
def Az:Ct:=λds A R _=>∃r xs,ds=[.ref r]/\A[r]?=some (.lst (xs.map fq))/\xs.length<=32/\(∀x∈xs,o4 x)/\xs≠[]/\∀A' q,Gr A A'->A'[q]?=some (.lst ((lw xs).map D.int))->A.length<=q->R (.ref q) A'
structure Fb(kvs:List (Key×D))(ns:List Str)(s:Str->Rat):Prop where
 keys:kvs.map (·.1)=ns.map Sum.inr
 nd:ns.Nodup
 get:∀n∈ns,ck kvs (Sum.inr n)=some (fq (s n))
def AG:Ct:=λds A R _=>∃m,ds=[enc m]/\Wf m/\m.deep<=5/\cW [] (bS m "" 1)=none/\∀(A':Ar) (q:Nat) (kvs:List (Key×D)) (ns:List Str),Gr A A'->A'[q]?=some (.dct kvs)->A.length<=q->Fb kvs ns (shr m)->(∀n,n∈ns↔n∈m.names)->R (.ref q) A'
def AA:Ct:=λds A R _=>∃(r:Nat) (kvs:List (Key×D)) (ns:List Str) (s:Str->Rat),ds=[.ref r]/\A[r]?=some (.dct kvs)/\Fb kvs ns s/\ns.length<=32/\ns≠[]/\(∀n∈ns,o4 (s n))/\∀(A':Ar) (ys:List Str),Gr A A'->ys.Pairwise strLt->(∀x,x∈ys↔x∈ns)->R (bV (ys.zip (lw (ys.map s)))) A'
def Ay:Ct:=λds A R RE=>∃m,ds=[enc m]/\Wf m/\m.deep<=5/\∀A',Gr A A'->if cW [] (bS m "" 1)=none then ∀ys:List Str,ys.Pairwise strLt->(∀x,x∈ys↔x∈m.names)->R (bV (ys.zip (lw (ys.map (shr m))))) A' else RE "Never" A'
theorem Cg:∀(ps:List (Str×D)) (acc:List (Key×D)) (ns:List Str),acc.map (·.1)=ns.map Sum.inr->ns.Nodup->
  ∃d:List Str,((ps.map λp=>((Sum.inr p.1:Key),p.2)).foldl (λacc p=>cO acc p.1 p.2) acc).map (·.1)=d.map Sum.inr/\d.Nodup/\(∀n,n∈d↔n∈ns\/n∈ps.map (·.1))
 |[],acc,ns,h1,h2=>⟨ns,h1,h2,λn=>by simp⟩
 |p::ps,acc,ns,h1,h2=>by
  have key:∃f:List Str,(cO acc (Sum.inr p.1) p.2).map (·.1)=f.map Sum.inr/\f.Nodup/\∀n,n∈f↔n∈ns\/n=p.1:=by
   by_cases j:(acc.any λc=>decide (c.1=(Sum.inr p.1:Key)))=true
   .have e:cO acc (Sum.inr p.1) p.2=acc.map λc=>if c.1=(Sum.inr p.1:Key) then (c.1,p.2) else c:=by
     unfold cO;rw[aj j]
    refine⟨ns,?_,h2,λn=>?_⟩
    .rw[e,b_,<-h1]
     refine oq λc _=>?_;show(if c.1=(Sum.inr p.1:Key) then (c.1,p.2) else c).1=c.1;split<;>rfl
    .have g:p.1∈ns:=by
      obtain⟨c,i,hk⟩:=any_eq_true.mp j;have:c.1∈acc.map (·.1):=kF i;rw[h1,kK hk] at this;obtain⟨x,m,e⟩:=aS.mp this;rw[<-Sum.inr.inj e];exact m
     constructor
     .exact .inl
     .rintro (h|rfl)
      .exact h
      .exact g
   .have e:cO acc (Sum.inr p.1) p.2=acc++[(Sum.inr p.1,p.2)]:=by
     unfold cO;rw[ai j]
    have k:p.1∉ns:=λg=>j (by
     have:(Sum.inr p.1:Key)∈acc.map (·.1):=by rw[h1];exact kF g
     obtain⟨c,i,e⟩:=aS.mp this;exact any_eq_true.mpr ⟨c,i,dj e⟩)
    refine⟨ns++[p.1],by rw[e];simp[h1],?_,λn=>by simp⟩;rw[ou];refine⟨h2,by simp,λa l b o=>?_⟩;rw[bK.mp o];exact λz=>k (by rw[<-z];exact l)
  obtain⟨f,k1,k2,k3⟩:=key;obtain⟨d,q,r,s⟩:=Cg ps _ f k1 k2;refine⟨d,q,r,λn=>?_⟩;rw[s,k3];simp[or_assoc]
theorem Cf(g:Str->D):∀(ps:List (Str×D)) (acc:List (Key×D)) (n:Str),(∀p∈ps,p.2=g p.1)->(n∈ps.map (·.1)\/ck acc (Sum.inr n)=some (g n))->ck ((ps.map λp=>((Sum.inr p.1:Key),p.2)).foldl (λacc p=>cO acc p.1 p.2) acc) (Sum.inr n)=some (g n)
 |[],acc,n,_,h=>by
  rcases h with h|h
  .simp at h
  .exact h
 |p::ps,acc,n,a,h=>by
  refine Cf g ps _ n (λq b=>a q (b9 _ b)) ?_;by_cases hn:p.1=n
  .right
   rw[xK,aj (show(Sum.inr p.1:Key)=Sum.inr n by rw[hn])];show some p.2=some (g n);rw[a p (cB ..),hn]
  .rcases h with h|h
   .rcases aX.mp (show n∈p.1::ps.map (·.1) from h) with e|e
    .exact absurd e.symm hn
    .exact .inl e
   .right
    rw[xK,ai (show ¬(Sum.inr p.1:Key)=Sum.inr n from λz=>hn (Sum.inr.inj z))];exact h
def yr(p:Str×Str×Rat):D:=.tup [.str p.2.1,fq p.2.2]
theorem D3:∀a:List (Str×Str×Rat),eB (a.map yr)=some ((a.map λp=>(p.2.1,fq p.2.2)).map λp=>((Sum.inr p.1:Key),p.2))
 |[]=>rfl
 |r::a=>by
  have:=D3 a;simp only[dg,yr,eB,iz,this]
theorem Jk{A:Ar}{r:Nat}{xs:List D}{ps:List (Key×D)}{R:DK}(h:A[r]?=some (.lst xs))(a:eB xs=some ps)(b:ps.length<=1000)(k:R (.ref A.length) (A++[.dct (yG ps)])):sD r A R:=by
 unfold sD;simp only[h];unfold dctP;rw[a];exact⟨b,k⟩
theorem nX{rs:List (Str×Int)}(hn:(rs.map (·.1)).Nodup){r:Str×Int}(h:r∈rs):val rs r.1=r.2:=by
 unfold val;induction rs with
 |nil=>cases h
 |cons p rs b=>
  have a:=jR.mp (show(p.1::rs.map (·.1)).Nodup from hn);rcases aX.mp h with rfl|h
  .simp
  .have:¬p.1=r.1:=λz=>a.1 (by rw[z];exact kF h)
   rw[List.find?_cons_of_neg (by simpa using this)];exact b a.2 h
theorem jI{xs:List Str}(h:xs.Pairwise strLt):xs.Nodup:=h.imp λz=>zd z
theorem ye{m:M}(s:m.arms)(t:m.deep<=5)(u:cW [] (bS m "" 1)=none){ys:List Str}(j:ys.Pairwise strLt)(a:∀x,x∈ys↔x∈m.names):Lst m (shr m) (val (ys.zip (lw (ys.map (shr m))))):=by
 have v:(lw (ys.map (shr m))).length=ys.length:=by rw[tP,a_]
 have f:((ys.zip (lw (ys.map (shr m)))).map (·.1)).Nodup:=by rw[vS v];exact jI j
 have o:∀x∈ys.map (shr m),0<x:=λx b=>by
  obtain⟨y,w,rfl⟩:=aS.mp b;exact(FY s t u ((a y).mp w)).pos
 have g:ys.map (shr m)≠[]:=λz=>by
  have A:ys=[]:=by simpa using z
  have hpos:=aP.tV m;cases e:m.names with
  |nil=>rw[e] at hpos;simp at hpos
  |cons n r=>
   have:=(a n).mpr (by rw[e];simp);rw[A] at this;simp at this
 have row:∀x∈m.names,∃i,∃k,ys[i]?=some x/\(lw (ys.map (shr m)))[i]?=some k/\val (ys.zip (lw (ys.map (shr m)))) x=k:=λx b=>by
  obtain⟨i,hi,e⟩:=fV ((a x).mpr b);have h:ys[i]?=some x:=by rw[aV hi,e]
  have d:(lw (ys.map (shr m)))[i]?=some ((lw (ys.map (shr m)))[i]'(by omega)):=aV _;have p:(ys.zip (lw (ys.map (shr m))))[i]?=some (x,(lw (ys.map (shr m)))[i]'(by omega)):=vM.mpr ⟨h,d⟩;exact⟨i,_,h,d,nX f (jj p)⟩
 refine⟨λx b=>?_,λk hk=>?_,?_⟩
 .obtain⟨i,k,_,d,q⟩:=row x b
  rw[q];exact Nh o k (jj d)
 .refine Ng o g λn hn=>?_
  obtain⟨i,hi,e⟩:=fV hn;have b:ys[i]?=some (ys[i]'(by omega)):=aV _;have p:(ys.zip (lw (ys.map (shr m))))[i]?=some (ys[i]'(by omega),n):=vM.mpr ⟨b,by rw[aV hi,e]⟩;have:=hk _ ((a _).mp (jj b));rw[nX f (jj p)] at this;exact this
 .obtain⟨c,hc,e⟩:=Ni o g
  refine⟨c,hc,λx b=>?_⟩;obtain⟨i,k,h,d,q⟩:=row x b;rw[q];have z:=c7 (λl=>l[i]?) e;simp only[cy,d,h,map_some] at z;exact Option.some.inj z
end DP
namespace My
open L2 DP MA
theorem KR(T:TopD K mg "least_whole" Fe uw)(k:ay P w K mg base 1 "greatest_divisor" qq (av mg 2 wh)):ay P w K mg base 2 "least_whole" uw (av mg 1 Az):=by
 refine bO T Ra λN hR O F nd=>⟨_,(aF (dS 1 nd aq)
  (aF (pY lP rfl (ef (vr 0)) (dG 2 nd) (aC (dS 1 nd (jx (gu (vr 1) (dX F (vr 2) aq)) (dL k N O (aa (vr 1) (aa (dX F (vr 2) aq) ah)))))))
  (aF (m6 none (own:=["fraction"]) (frees:=["bottom"]) (ix:=[1]) (i:=3) nd rfl (by first|exact Or.inl rfl|exact Or.inr rfl) rfl (ef (vr 0)) (λc=>(pG 0 (show(["fraction","bottom"]:List Str).Nodup by decide+kernel))) (λc=>(gu (dX F (vr 0) aq) (jx (vr 1) (dX F (vr 0) aq)))))
  (aF (dS 4 nd aq)
  (aF (pY lP rfl (ef (vr 3)) (dG 5 nd) (aC (dS 4 nd (dL k N O (aa (vr 4) (aa (vr 5) ah))))))
  (aC (aO (gq none (own:=["number"]) (frees:=["divisor"]) (ix:=[4]) rfl (ef (vr 3)) (λc=>(pG 0 (show(["number","divisor"]:List Str).Nodup by decide+kernel))) (λc=>(jx (vr 0) (vr 1))))))))))),λds A R h hl=>?_⟩
 obtain⟨r,xs,rfl,H,l,hok,I,q⟩:=h;have hz:(1000:Nat)<=sizeLine:=by decide
 have T_:(1152921504606846976:Int)<2 ^ 64:=by decide
 obtain⟨b0,_,b3⟩:=k_ xs 1 (by decide);refine iy H ?_;refine pV (λrest τ A'=>∃(pre j:List Rat) (x:Option D),rest=j.map fq/\τ=[some (.ref r),some (.int (bot pre 1)),x,none,none,none]/\pre++j=xs/\Gr A A') ?_ ?_ ?_ _ _ _ ⟨[],xs,none,rfl,rfl,rfl,Gr.refl⟩
 .rintro rest τ A' ⟨pre,j,x,_,_,_,g⟩
  exact g.get H
 .rintro v rest τ A' ⟨pre,j,x,e,rfl,o,g⟩ Nx J
  cases j with
  |nil=>cases e
  |cons y j=>
   cases e;have t:=hok y (by rw[<-o];simp);have G:=gA y;have S:=t.den;obtain⟨U,_,_⟩:=k_ pre 1 (by decide);have V:0<(Int.gcd (bot pre 1) (rf y).2:Int):=by
    have:=Int.gcd_pos_of_ne_zero_right (bot pre 1) (show(rf y).2≠0 by omega);omega
   have g1:(Int.gcd (bot pre 1) (rf y).2:Int)<=(rf y).2:=l0 G (mF _ _);refine⟨.inr ⟨by omega,by omega⟩,rfl,_,⟨_,_,rfl,by omega,by omega,rfl⟩,λs h1=>⟨⟨V,yd V (F2 (by omega))⟩,?_⟩⟩;refine J _ _ ⟨pre++[y],j,some (fq y),rfl,?_,by simpa using o,g.trans h1⟩;rw[Bf];rfl
 rintro τ s ⟨pre,j,x,e,rfl,o,g1⟩;cases j with
 |cons p j=>cases e
 |nil=>
 have o:pre=xs:=by simpa using o
 subst o;have u:=g1.get H;refine iy u ?_;refine fQ (f:=λd=>match d with|.tup [.int a,.int b]=>.int (a*(bot pre 1/b))|d=>d) u _ _ (λd hd=>?_) (by simp;omega) ?_
 .obtain⟨y,hy,rfl⟩:=aS.mp hd
  have t:=hok y hy;have x1:=nK t.pos;have G:=gA y;have S:=t.den;have x4:=t.num;exact⟨[fq y],rfl,λQ L=>⟨⟨G,yd G (F2 S)⟩,.inl ⟨by omega,by omega⟩,L⟩⟩
 have eu:(pre.map fq).map (λd=>match d with|.tup [.int a,.int b]=>D.int (a*(bot pre 1/b))|d=>d)=(ups pre).map D.int:=by
  unfold ups;rw[b_,b_];rfl
 rw[fh,eu];have z:(ups pre).length=pre.length:=by simp[ups]
 have M:=aK (A:=s) (c:=C.lst ((ups pre).map D.int));have g2:Gr s (s++[C.lst ((ups pre).map D.int)]):=Gr.push;generalize Uh:s++[C.lst ((ups pre).map D.int)]=A2 at*
 refine iy M ?_;refine pV (λrest τ A'=>∃(m j:List Int) (y:Option D),rest=j.map D.int/\τ=[some (.ref r),some (.int (bot pre 1)),x,some (.ref s.length),some (.int (c_ m 0)),y]/\m++j=ups pre/\Gr A2 A') ?_ ?_ ?_ _ _ _ ⟨[],ups pre,none,rfl,rfl,rfl,Gr.refl⟩
 .rintro rest τ A' ⟨m,j,y,_,_,_,g⟩
  exact g.get M
 .rintro v rest τ A' ⟨m,j,y,e,rfl,hd,g⟩ Nx J
  cases j with
  |nil=>cases e
  |cons n j=>
   cases e;obtain⟨W,_⟩:=Gq hok l (show n∈ups pre by rw[<-hd];simp);obtain⟨U,_⟩:=p6 m 0 (mu 0);refine⟨rfl,_,⟨_,_,rfl,U,by omega,rfl⟩,λX h3=>?_⟩;refine J _ _ ⟨m++[n],j,some (.int n),rfl,?_,by simpa using hd,g.trans h3⟩;rw[Cz];rfl
 rintro τ X ⟨m,j,y,e,rfl,hd,g3⟩;cases j with
 |cons p j=>cases e
 |nil=>
 have hd:m=ups pre:=by simpa using hd
 subst hd;obtain⟨n0,B⟩:∃n,n∈ups pre:=by
  cases e:ups pre with
  |nil=>
   rw[e] at z;exact absurd (List.length_eq_zero_iff.mp z.symm) I
  |cons n r=>exact⟨n,by simp⟩
 obtain⟨W,u1⟩:=Gq hok l B;obtain⟨Y,d1⟩:=sV (mu 0) B W;have E:=g3.get M;refine iy E ?_;refine fQ (f:=λd=>match d with|.int n=>.int (n/c_ (ups pre) 0)|d=>d) E _ _ (λd hd=>?_) (by simp;omega) ?_
 .obtain⟨n,hn,rfl⟩:=aS.mp hd
  exact⟨[.int n],rfl,λQ L=>⟨⟨Y,yd Y (d9 d1 u1)⟩,L⟩⟩
 have el:((ups pre).map D.int).map (λd=>match d with|.int n=>D.int (n/c_ (ups pre) 0)|d=>d)=(lw pre).map D.int:=by
  unfold lw;rw[b_,b_];rfl
 rw[fh,el];have Z:Gr A X:=(g1.trans g2).trans g3;exact q _ _ (Z.trans Gr.push) aK Z.len
theorem KY(T:TopD K mg "name_shares" Fi uy)(b:mg "dict"=none)(a:ay P w K mg base 10 "shares" qu (av mg 1 wm)):ay P w K mg base 11 "name_shares" uy (av mg 1 AG):=by
 refine bO T Rg λg t k u nd=>⟨_,(aC (aO (jw (lu rfl) lB b mC (aa (gq (some 3) (own:=["way","name","share"]) (frees:=[]) (ix:=[]) rfl (ef (dL a g k (aa (vr 0) ah))) (λc=>(kB rfl (fG (pG 0 (show(["way","name","share"]:List Str).Nodup by decide+kernel)) (fG (pG 1 (show(["way","name","share"]:List Str).Nodup by decide+kernel)) (fG (pG 2 (show(["way","name","share"]:List Str).Nodup by decide+kernel)) kC))))) (λc=>(cK (aa (vr 1) (aa (vr 2) ah))))) ah)))),λds A R h v=>?_⟩;obtain⟨m,rfl,l,hd,o,q⟩:=h;have hz:(1000:Nat)<=sizeLine:=by decide
 refine⟨rfl,m,rfl,l,hd,λy z g1 h1 l1=>?_⟩;refine iy h1 ?_;have ln:=qH m "" 1;have nl:=kj hd;refine fQ (f:=λd=>match d with|.tup [_,n,x]=>.tup [n,x]|d=>d) h1 _ _ (λd hd=>?_) (by simp;omega) ?_
 .obtain⟨p,j,rfl⟩:=aS.mp hd
  exact⟨[.str p.1,.str p.2.1,fq p.2.2],rfl,λQ s=>⟨show 2<=sizeLine by decide,s⟩⟩
 have e:((bS m "" 1).map uP).map (λd=>match d with|.tup [_,n,x]=>D.tup [n,x]|d=>d)=(bS m "" 1).map yr:=by
  rw[b_];rfl
 rw[fh,e];refine Jk aK (D3 _) (by simp;omega) ?_;obtain⟨k1,k2⟩:=qL o;obtain⟨ns,n1,n2,n3⟩:=Cg ((bS m "" 1).map λp=>(p.2.1,fq p.2.2)) [] [] rfl List.nodup_nil;have hn:((bS m "" 1).map λp=>(p.2.1,fq p.2.2)).map (·.1)=m.names:=by
  rw[b_,<-qI m "" 1];rfl
 rw[hn] at n3;refine q _ _ _ ns ((g1.trans Gr.push).trans Gr.push) aK (by have:=g1.len;simp;omega) ⟨n1,n2,λn i=>?_⟩ (λn=>by rw[n3];simp);refine Cf (λn=>fq (shr m n)) _ [] n (λp j=>?_) (.inl ?_)
 .obtain⟨r,g,rfl⟩:=aS.mp j
  show fq r.2.2=fq (shr m r.2.1);rw[<-k1 r g]
 .rw[hn]
  have:=(n3 n).mp i;simpa using this
theorem KS(T:TopD K mg "least_weights" Fd uv)(b:mg "sorted"=none)(g:mg "tuple"=none)(i:mg "zip"=none)(a:ay P w K mg base 2 "least_whole" uw (av mg 1 Az)):ay P w K mg base 3 "least_weights" uv (av mg 1 AA):=by
 refine bO T Q_ λy F k B nd=>⟨_,(aF (dS 1 nd (cS (Ib rfl) Jg b boot_sorted (aa (vr 0) ah)))
  (aC (aO (Ju g i rfl (aa (vr 1) (aa (dL a y k (aa (gq none (own:=["name"]) (frees:=["fractions"]) (ix:=[0]) rfl (ef (vr 1)) (λc=>(pG 0 (show(["name","fractions"]:List Str).Nodup by decide+kernel))) (λc=>(dX B (vr 1) (vr 0)))) ah)) ah)))))),λds A R h G=>?_⟩
 obtain⟨r,kvs,ns,j,rfl,s,fb,u,o,hok,q⟩:=h;have hz:(1000:Nat)<=sizeLine:=by decide
 refine Rr s fb.keys fb.nd (by omega) λys v l=>?_;have H:=pw_len ys ns v λx k=>(l x).mp k;refine iy aK ?_;refine fQ (f:=λd=>match d with|.str n=>fq (j n)|d=>d) aK _ _ (λd hd=>?_) (by simp;omega) ?_
 .obtain⟨n,hn,rfl⟩:=aS.mp hd
  exact⟨[.str n],rfl,λQ C=>nD (getElem?_push s) rfl (fb.get n ((l n).mp hn)) C⟩
 have e:(ys.map D.str).map (λd=>match d with|.str n=>fq (j n)|d=>d)=(ys.map j).map fq:=by
  rw[b_,b_];rfl
 rw[fh,e];have m:ys≠[]:=λz=>by
  cases e:ns with
  |nil=>exact o e
  |cons n t=>
   have:=(l n).mpr (by rw[e];simp);rw[z] at this;cases this
 refine⟨rfl,_,ys.map j,rfl,aK,by simp;omega,λx k=>?_,by simpa using m,λI J g3 h3 _=>?_⟩
 .obtain⟨n,hn,rfl⟩:=aS.mp k
  exact hok n ((l n).mp hn)
 refine Tn (g3.get (getElem?_push aK)) h3 ?_;have E:(((ys.map D.str).zip ((lw (ys.map j)).map D.int)).map λp=>D.tup [p.1,p.2])=(ys.zip (lw (ys.map j))).map aJ:=by
  rw[List.zip_map,b_];rfl
 rw[E];exact q _ ys (((Gr.push.trans Gr.push)).trans g3) v l
theorem KL(T:TopD K mg "least" Fc uu){c:Addr}(d:mg "Never"=some (.ref c))(f:excIn K c iD "ValueError.__new__"=true)(i:ay P w K mg base 11 "bar" uh (av mg 1 Ah))(b:ay P w K mg base 11 "name_shares" uy (av mg 1 AG))(a:ay P w K mg base 3 "least_weights" uv (av mg 1 AA)):ay P w K mg base 12 "least" uu (av mg 1 Ay):=by
 refine bO T Q9 λu D g I nd=>⟨_,(aF (bz (SY (dL i u g (aa (vr 0) ah)) xg) (aC (j6 D rfl d f (aa bx ah))) bG)
  (aC (aO (dL a u g (aa (dL b u g (aa (vr 0) ah)) ah))))),λds A R h J=>?_⟩
 obtain⟨m,rfl,v,hd,q⟩:=h;refine⟨rfl,m,rfl,v,hd,λE g1=>?_⟩;cases l:cW [] (bS m "" 1) with
 |some p=>
  have j:=q E g1;rw[ai (by rw[l];simp)] at j;exact⟨by decide,j⟩
 |none=>
  refine⟨rfl,m,rfl,v,hd,l,λL M kvs ns g2 h2 l2 fb o=>?_⟩;have nl:=kj hd;have l1:ns.length<=m.names.length:=by
   have key:∀(xs ys:List Str),xs.Nodup->(∀x∈xs,x∈ys)->xs.length<=ys.length:=by
    intro xs;induction xs with
    |nil=>intro ys _ _;exact cH _
    |cons x r F=>
     intro ys hn C;have k:=jR.mp hn;have g:=C x (cB ..);have:=F (ys.erase x) k.2 λy s=>(List.mem_erase_of_ne (λz=>k.1 (by rw[<-z];exact s))).mpr (C y (b9 _ s));rw[List.length_erase_of_mem g] at this;have:=List.length_pos_of_mem g;simp;omega
   exact key ns m.names fb.nd λx g=>(o x).mp g
  have B:ns≠[]:=λz=>by
   have hpos:=aP.tV m;cases e:m.names with
   |nil=>rw[e] at hpos;simp at hpos
   |cons n t=>
    have:=(o n).mpr (by rw[e];simp);rw[z] at this;cases this
  refine⟨rfl,_,kvs,ns,shr m,rfl,h2,fb,by omega,B,λn hn=>(FY v.arms hd l ((o n).mp hn)).w,λG ys g3 H s=>?_⟩;have j:=q G ((g1.trans g2).trans g3);rw[aj l] at j;exact j ys H λx=>by rw[s,o]
end My
namespace DP
open L2 MA
def AI:Ct:=λds A R _=>∃l r' a b r rs,ds=[enc (.aG l r' a b),.ref r]/\A[r]?=some (.dct (dJ rs))/\1<=l/\l<=9/\1<=r'/\r'<=9/\Bk rs a/\Bk rs b/\a.deep<=6/\b.deep<=6/\∀A',Gr A A'->R (.tup [.int (l*ld (val rs) a),.int (r'*ld (val rs) b)]) A'
def AQ(d:Nat):Ct:=λds A R _=>∃m w r rs,ds=[enc m,.str w,.ref r]/\A[r]?=some (.dct (dJ rs))/\Wf m/\Bk rs m/\m.deep<d/\d<=6/\w.length+d<=100/\∀A' q,Gr A A'->A'[q]?=some (.lst ((cF (val rs) m w).map f6))->A.length<=q->R (.ref q) A'
def AR:Ct:=λds A R _=>∃m rs,ds=[enc m,bV rs]/\Wf m/\Bk rs m/\m.deep<=5/\∀A' q,Gr A A'->A'[q]?=some (.lst ((cF (val rs) m "").map f6))->A.length<=q->R (.ref q) A'
def AO:Ct:=λds A R _=>∃m rs,ds=[enc m,bV rs]/\Wf m/\Bk rs m/\m.deep<=5/\∀A',Gr A A'->R (.bl (decide (cF (val rs) m ""=[]))) A'
theorem JZ{A:Ar}{p:Nat}{xs:List D}{R:DK}(h:A[p]?=some (.lst xs))(c:gz xs=true)(d:canLayAll0 (bY xs)=true)(k:R (.bl (decide (xs=[]))) (A++[.lst []])):eK false (.ref p) (.ref A.length) (A++[.lst []]) R:=by
 unfold eK;have b:cE (A++[.lst []]) (.ref p)=.list (bY xs):=by unfold cE;simp only[getElem?_push h]
 have a:cE (A++[.lst []]) (.ref A.length)=.list []:=by unfold cE;simp only[aK];rfl
 refine⟨?_,?_,?_,?_,?_,?_⟩
 .unfold jc;simp only[getElem?_push h];exact c
 .unfold jc;simp only[aK];rfl
 .rw[b];simpa[canLay0] using d
 .rw[a];simp[canLay0,canLayAll0]
 .rw[a];simp[PyData.depth,depthAll];omega
 .rw[b,a]
  have e:PyData.eqv (.list (bY xs)) (.list [])=decide (xs=[]):=by cases xs<;>simp[bY,PyData.eqv,eqvAll]
  rw[ai (by decide),e];exact k
def Wy(w:Str):Prop:=∀c∈w.cps.toList,c=108\/c=114
theorem Br(x y:Str):(x++y).cps.toList=x.cps.toList++y.cps.toList:=eT
theorem Wy.nil:Wy "":=λc h=>by
 have e:("":Str).cps.toList=[]:=by decide+kernel
 rw[e] at h;cases h
theorem IB:("l":Str).cps.toList=[108]:=by decide+kernel
theorem IC:("r":Str).cps.toList=[114]:=by decide+kernel
theorem Wy.l{w:Str}(h:Wy w):Wy (w++"l"):=λc hc=>by
 rw[Br,IB] at hc;rcases br.mp hc with h'|h'
 .exact h c h'
 .exact .inl (bK.mp h')
theorem Wy.r{w:Str}(h:Wy w):Wy (w++"r"):=λc hc=>by
 rw[Br,IC] at hc;rcases br.mp hc with h'|h'
 .exact h c h'
 .exact .inr (bK.mp h')
theorem Wy.ok{w:Str}(h:Wy w):canLay0 (.str w)=true:=by
 have e:w.cps.all (λc=>decide (c<0x110000))=true:=by
  rw[<-Array.all_toList,mw];intro c hc;have:=h c hc;exact dj (by omega)
 simpa[canLay0,strOk] using e
theorem M1:canLay0 (.str "left")=true:=by decide+kernel
theorem QA:canLay0 (.str "right")=true:=by decide+kernel
theorem zv(f:Str->Int):∀(m:M) (w:Str),Wy w->∀p∈cF f m w,Wy p.1/\(p.2="left"\/p.2="right")
 |.wt _,_,_,p,h=>by cases h
 |.aG l r a b,w,c,p,h=>by
  have h:p∈hr2 w (l*ld f a) (r*ld f b)++cF f a (w++"l")++cF f b (w++"r"):=h;rcases br.mp h with h|h
  .rcases br.mp h with h|h
   .unfold hr2 at h
    split at h
    .rw[bK.mp h];exact⟨c,.inl rfl⟩
    .split at h
     .rw[bK.mp h];exact⟨c,.inr rfl⟩
     .cases h
   .exact zv f a _ c.l p h
  .exact zv f b _ c.r p h
theorem Ea:∀ps:List (Str×Str),gz (ps.map f6)=true
 |[]=>rfl
 |p::r=>by simp[gz,f6,fH,Ea r]
theorem Dc:∀ps:List (Str×Str),(∀p∈ps,canLay0 (.str p.1)=true/\canLay0 (.str p.2)=true)->canLayAll0 (bY (ps.map f6))=true
 |[],_=>by simp[bY,canLayAll0]
 |p::r,h=>by
  have h1:=h p (cB ..);have h2:=Dc r λq a=>h q (b9 _ a);simp only[dg,bY,f6,toQ,canLayAll0,canLay0] at h1 h2 ⊢;simp[h1.1,h1.2,h2]
theorem MY{f:Str->Int}{m:M}:canLayAll0 (bY ((cF f m "").map f6))=true:=Dc _ λp a=>by
 obtain⟨h1,h2⟩:=zv f m "" .nil p a;refine⟨h1.ok,?_⟩;rcases h2 with e|e<;>rw[e]
 .exact M1
 .exact QA
end DP
namespace My
open L2 DP MA
theorem K1(T:TopD K mg "pulls" Fl uA)(c:ay P w K mg base 10 "load_below" nN (av mg 2 (rV 6))):ay P w K mg base 11 "pulls" uA (av mg 2 AI):=by
 refine bO T Ri λe m f d nd=>⟨_,(aC (aO (cK (aa (gu (dX d (vr 0) aq) (dL c e f (aa (dX d (vr 0) aq) (aa (vr 1) ah)))) (aa (gu (dX d (vr 0) aq) (dL c e f (aa (dX d (vr 0) aq) (aa (vr 1) ah)))) ah))))),λds A R h n=>?_⟩;obtain⟨l,r',a,b,r,rs,rfl,g,h1,h2,h3,o,i,j,k,db,q⟩:=h;refine⟨rfl,a,r,rs,rfl,g,i.ok,k,i.nm,λp g1=>⟨.inl ⟨by omega,by omega⟩,?_⟩⟩;refine⟨rfl,b,r,rs,rfl,g1.get g,j.ok,db,j.nm,λs g2=>⟨.inl ⟨by omega,by omega⟩,?_⟩⟩;exact⟨show 2<=sizeLine by decide,q _ (g1.trans g2)⟩
theorem K9(T:TopD K mg "tips_below" Fy uG)(i:ay P w K mg base 11 "pulls" uA (av mg 2 AI)):∀d,ay P w K mg base (d+11) "tips_below" uG (av mg 3 (AQ d)):=by
 intro d;induction d with
 |zero=>
  refine j8 T λds A R RE h=>?_;obtain⟨m,w,r,rs,_,_,_,_,h,_⟩:=h;omega
 |succ d e=>
  refine gM T FQ rfl (by decide) λN RE f O B outer s H E u Z z ds A R h hl=>?_;have j:=u.units;have nd:=FQ.nd;refine⟨_,(aF (bz (gR j (dX j (vr 0) aq) bx) (aC (aO (fB ah))) bG)
  (aF (dS 3 nd (dL i u z (aa (vr 0) (aa (vr 2) ah))))
  (aF (dS 4 nd (fB ah))
  (aF (bz (kD (dX j (vr 3) aq) (dX j (vr 3) aq)) (aC (eW (j4 kO vK vR qj sA (vr 4) (aa (cK (aa (vr 1) (aa bx ah))) ah)))) bG)
  (aF (bz (Gd (dX j (vr 3) aq) (dX j (vr 3) aq)) (aC (eW (j4 kO vK vR qj sA (vr 4) (aa (cK (aa (vr 1) (aa bx ah))) ah)))) bG)
  (aC (aO (dz (dz (vr 4) (dL e u z (aa (dX j (vr 0) aq) (aa (dz (vr 1) bx) (aa (vr 2) ah))))) (dL e u z (aa (dX j (vr 0) aq) (aa (dz (vr 1) bx) (aa (vr 2) ah)))))))))))),?_⟩
  obtain⟨m,w,r,rs,rfl,J,F,hk,hd,h6,G,q⟩:=h;have hs:(1000:Nat)<=sizeLine:=by decide
  cases m with
  |wt n=>exact⟨cH _,q _ _ Gr.push aK (aH _)⟩
  |aG l r' a b=>
   have Q:max a.deep b.deep+1<d+1:=hd;have I:=F.arms;obtain⟨S,U,V,W,_,_⟩:=I;have ll:("l":Str).length=1:=by decide+kernel
   have lr:("r":Str).length=1:=by decide+kernel
   have al:∀x y:Str,(x++y).length=x.length+y.length:=λx y=>ow;refine⟨rfl,l,r',a,b,r,rs,rfl,J,S,U,V,W,hk.left,hk.right,by omega,by omega,λg g1=>?_⟩;refine⟨cH _,?_⟩;have n0:=CN w (l*ld (val rs) a) (r'*ld (val rs) b);have n1:=uZ (val rs) a (w++"l");have n2:=uZ (val rs) b (w++"r");have p1:2 ^ a.deep<=2 ^ 6:=fj (by decide) (by omega);have p2:2 ^ b.deep<=2 ^ 6:=fj (by decide) (by omega);by_cases k:r'*ld (val rs) b<l*ld (val rs) a;case' pos=>
    have o:hr2 w (l*ld (val rs) a) (r'*ld (val rs) b)=[(w,("left":Str))]:=by unfold hr2;rw[aj k]
    refine cD (λ_=>?_) (λc=>absurd k c);refine⟨f5 aK,show 2<=sizeLine by decide,r8 aK (by decide) ?_⟩;have h2:=get_set (ys:=[]++[D.tup [.str w,.str "left"]]) (aK (A:=g) (c:=C.lst []));have g2:Gr g ((g++[C.lst []]).set g.length (.lst ([]++[D.tup [.str w,.str "left"]]))):=Gr.set Gr.push (aH _);refine cD (λc=>absurd k (by omega)) (λ_=>?_);generalize (g++[C.lst []]).set g.length (.lst ([]++[D.tup [.str w,.str "left"]]))=p at*
    have h2:p[g.length]?=some (.lst ((hr2 w (l*ld (val rs) a) (r'*ld (val rs) b)).map f6)):=by rw[h2,o];rfl
   case' neg=>
    refine cD (λc=>absurd c k) (λ_=>?_);by_cases v:l*ld (val rs) a<r'*ld (val rs) b;case' pos=>
     have o:hr2 w (l*ld (val rs) a) (r'*ld (val rs) b)=[(w,("right":Str))]:=by unfold hr2;rw[ai k,aj v]
     refine cD (λ_=>?_) (λc=>absurd v c);refine⟨f5 aK,show 2<=sizeLine by decide,r8 aK (by decide) ?_⟩;have h2:=get_set (ys:=[]++[D.tup [.str w,.str "right"]]) (aK (A:=g) (c:=C.lst []));have g2:Gr g ((g++[C.lst []]).set g.length (.lst ([]++[D.tup [.str w,.str "right"]]))):=Gr.set Gr.push (aH _);generalize (g++[C.lst []]).set g.length (.lst ([]++[D.tup [.str w,.str "right"]]))=p at*
     have h2:p[g.length]?=some (.lst ((hr2 w (l*ld (val rs) a) (r'*ld (val rs) b)).map f6)):=by rw[h2,o];rfl
    case' neg=>
     have o:hr2 w (l*ld (val rs) a) (r'*ld (val rs) b)=[]:=by unfold hr2;rw[ai k,ai v]
     refine cD (λc=>absurd c v) (λ_=>?_);have h2:=aK (A:=g) (c:=C.lst []);have g2:Gr g (g++[C.lst []]):=Gr.push;generalize g++[C.lst []]=p at*
     have h2:p[g.length]?=some (.lst ((hr2 w (l*ld (val rs) a) (r'*ld (val rs) b)).map f6)):=by rw[h2,o];rfl
   all_goals
    have t:=(g1.trans g2).get J;refine⟨by omega,rfl,a,_,r,rs,rfl,t,F.left,hk.left,by omega,by omega,by rw[al];omega,λA3 q3 g3 h3 _=>?_⟩;refine su (g3.get h2) h3 (by simp;omega) ?_;refine⟨by omega,rfl,b,_,r,rs,rfl,getElem?_push (g3.get t),F.right,hk.right,by omega,by omega,by rw[al];omega,λX q4 L Y _=>?_⟩;refine su (L.get aK) Y (by simp;omega) ?_;have M:Gr A X:=(((g1.trans g2).trans g3).trans Gr.push).trans L;refine q _ _ (M.trans Gr.push) ?_ M.len;rw[aK];simp[cF]
theorem K_(T:TopD K mg "tips" Fx uF)(d:mg "dict"=none)(b:ay P w K mg base 9 "check_mobile" lR (av mg 1 o8))(a:ay P w K mg base 10 "check_weights" ko (av mg 2 wg))(c:ay P w K mg base 17 "tips_below" uG (av mg 3 (AQ 6))):ay P w K mg base 18 "tips" uF (av mg 2 AR):=by
 refine bO T Rp λe k f l nd=>⟨_,(aF (eW (dL b e f (aa (vr 0) ah)))
  (aF (eW (dL a e f (aa (vr 0) (aa (vr 1) ah))))
  (aC (aO (dL c e f (aa (vr 0) (aa bx (aa (jw (lu rfl) lB d mC (aa (vr 1) ah)) ah)))))))),λds A R h n=>?_⟩
 obtain⟨m,rs,rfl,i,hk,hd,q⟩:=h;refine⟨rfl,_,⟨m,rfl,i,hd,rfl⟩,λo g1=>?_⟩;refine⟨rfl,_,⟨m,rs,rfl,hk.ok,hd,hk.nm,rfl⟩,λp g2=>?_⟩;refine m5 hk.ok ?_;have g:=(g1.trans g2).trans (Gr.push (T:=[C.dct (dJ rs)]));exact⟨rfl,m,_,_,rs,rfl,aK,i,hk,by omega,by omega,by decide+kernel,λr s g3 h3 j=>q _ _ (g.trans g3) h3 (cY g.len j)⟩
theorem K8(T:TopD K mg "is_still" E_ ur)(a:ay P w K mg base 18 "tips" uF (av mg 2 AR)):ay P w K mg base 19 "is_still" ur (av mg 2 AO):=by
 refine bO T Q8 λb g c d nd=>⟨_,(aC (aO (m8 d (dL a b c (aa (vr 0) (aa (vr 1) ah))) (fB ah)))),λds A R h i=>?_⟩;obtain⟨m,rs,rfl,f,hk,hd,q⟩:=h;refine⟨rfl,m,rs,rfl,f,hk,hd,λj k g1 h1 _=>?_⟩;refine⟨cH _,JZ h1 (Ea _) MY ?_⟩;have e:decide ((cF (val rs) m "").map f6=[])=decide (cF (val rs) m ""=[]):=by simp
 rw[e];exact q _ (g1.trans Gr.push)
end My
namespace DP
open L2 MA
def Ax:Ct:=SV λds v=>∃m rs,ds=[enc m,bV rs]/\Wf m/\Bk rs m/\m.deep<=5/\v=.int (ld (val rs) m)
end DP
namespace My
open L2 DP MA
theorem KQ(T:TopD K mg "load" s_load ux)(d:mg "dict"=none)(b:ay P w K mg base 9 "check_mobile" lR (av mg 1 o8))(a:ay P w K mg base 10 "check_weights" ko (av mg 2 wg))(c:ay P w K mg base 10 "load_below" nN (av mg 2 (rV 6))):ay P w K mg base 11 "load" ux (av mg 2 Ax):=by
 refine bO T Rc λe i f j nd=>⟨_,(aF (eW (dL b e f (aa (vr 0) ah)))
  (aF (eW (dL a e f (aa (vr 0) (aa (vr 1) ah))))
  (aC (aO (dL c e f (aa (vr 0) (aa (jw (lu rfl) lB d mC (aa (vr 1) ah)) ah))))))),λds A R h k=>?_⟩
 obtain⟨v,⟨m,rs,rfl,g,hk,hd,rfl⟩,q⟩:=h;refine⟨rfl,_,⟨m,rfl,g,hd,rfl⟩,λl g1=>?_⟩;refine⟨rfl,_,⟨m,rs,rfl,hk.ok,hd,hk.nm,rfl⟩,λn g2=>?_⟩;refine m5 hk.ok ?_;exact⟨rfl,m,_,rs,rfl,aK,hk.ok,by omega,hk.nm,λo g3=>q _ (((g1.trans g2).trans Gr.push).trans g3)⟩
end My
namespace DP
open L2 MA
def xm:∀x y:M,Decidable (x=y)
 |.wt a,.wt b=>if h:a=b then .isTrue (by rw[h]) else .isFalse λz=>h (by injection z)
 |.wt _,.aG _ _ _ _=>.isFalse λz=>by cases z
 |.aG _ _ _ _,.wt _=>.isFalse λz=>by cases z
 |.aG l r a b,.aG l' r' a' b'=>
  if h1:l=l' then if h2:r=r' then match xm a a',xm b b' with
   |.isTrue h3,.isTrue h4=>.isTrue (by rw[h1,h2,h3,h4])
   |.isFalse h3,_=>.isFalse λz=>h3 (by injection z)
   |_,.isFalse h4=>.isFalse λz=>h4 (by injection z)
  else .isFalse λz=>h2 (by injection z) else .isFalse λz=>h1 (by injection z)
instance:DecidableEq M:=xm
theorem tX:∀m:M,ez (toQ (enc m))=true
 |.wt n=>by simp[enc,toQ,bY,ez,iB]
 |.aG l r a b=>by simp[enc,toQ,bY,ez,iB,tX a,tX b]
theorem toQ_inj:∀x y:M,toQ (enc x)=toQ (enc y)->x=y
 |.wt n,.wt m,h=>by simp[enc,toQ,bY] at h;rw[h]
 |.wt n,.aG _ _ _ _,h=>by simp[enc,toQ,bY] at h
 |.aG _ _ _ _,.wt n,h=>by simp[enc,toQ,bY] at h
 |.aG l r a b,.aG f r' c d,h=>by
  simp only[enc,toQ,bY,PyData.tuple.injEq,List.cons.injEq,PyData.int.injEq,true_and,and_true] at h;obtain⟨h1,h2,h3,e⟩:=h;rw[h1,h2,toQ_inj a c h3,toQ_inj b d e]
theorem J1(x y:M):PyData.eqv (toQ (enc x)) (toQ (enc y))=decide (x=y):=by
 rw[q7,B9 _ _ (tX x) (tX y),jW];exact⟨toQ_inj x y,λh=>by rw[h]⟩
theorem Qv(l r:Int):rd r l=((rd l r).2,(rd l r).1):=by
 unfold rd;rw[Int.gcd_comm]
theorem NT{x y:M}{A:Ar}{R:DK}(a:∀n∈x.names,Nm n)(b:∀n∈y.names,Nm n)(hd:x.deep<=60)(k:R (.bl (!decide (x=y))) A):eK true (enc x) (enc y) A R:=by
 unfold eK;rw[zu,zu,yu,yu,qy,qy];have:=xo x;refine⟨rfl,rfl,qb x a,qb y b,by omega,?_⟩;rw[J1];exact k
theorem DL{x y:M}{A:Ar}{R:DK}(a:∀n∈x.names,Nm n)(b:∀n∈y.names,Nm n)(hd:x.deep<=60)(k:R (.bl (!decide (x=y))) A):ql (enc x) (enc y) A R:=by
 have h:=NT a b hd k;cases x<;>cases y<;>exact h
theorem Od{A:Ar}{r:Str×Int}(h:Nm r.1):cM A (aJ r)=true:=by
 show(cM A (.str r.1)&&(true&&true))=true;rw[Oc h];rfl
theorem yt{A:Ar}:∀{rs:List (Str×Int)},(∀r∈rs,Nm r.1)->cM A (bV rs)=true:=λ {rs} h=>by
 show gy A (rs.map aJ)=true;induction rs with
 |nil=>rfl
 |cons r rs a=>
  show(cM A (aJ r)&&gy A (rs.map aJ))=true;rw[Od (h r (cB ..)),a λq b=>h q (b9 _ b)];rfl
theorem Rz{rs:List (Str×Int)}(h:iY rs):lV (bV rs):=λxs e=>by
 injection e with e;rw[<-e,a_];exact h.len
theorem JP{i:Nat}{τ:bw}{A:Ar}{R:DK}{v:D}(h:lk τ i=some v)(q:R v A):fS i τ A R:=by
 unfold fS;rw[h];exact q
def dY(j:Nat):D:=.tup [.str "refused",.int j]
theorem Dd(j:Nat):(toQ (dY j)).canLay0=true:=by
 show canLay0 (.tuple [.str "refused",.int j])=true;simp only[canLay0,canLayAll0,Bool.and_true];decide+kernel
theorem Ed{neg:Bool}{j:Nat}{A:Ar}{R:DK}(k:R (.bl (!neg)) A):eK neg (dY j) (.tup [.str "refused",.int j]) A R:=by
 unfold eK;have c:=Dd j;have h1:cE A (dY j)=toQ (dY j):=rfl;have h2:cE A (.tup [.str "refused",.int j])=toQ (dY j):=rfl;rw[h1,h2];refine⟨rfl,rfl,c,c,?_,?_⟩
 .show min (PyData.depth (.tuple [.str "refused",.int j])) (PyData.depth (.tuple [.str "refused",.int j]))<=64
  simp[PyData.depth,depthAll]
 .rw[PySem.SeqAt.eqv_refl _ c]
  cases neg<;>exact k
def sW(f:Str->Int)(a b:M):D:=if mx (arm f a b)<=9 then (if max a.deep b.deep+1<=5 then enc (.aG (arm f a b).1 (arm f a b).2 a b) else dY 7) else dY 6
def Ag:Ct:=λds A R _=>∃a b x,ds=[enc a,enc b,x]/\Wf a/\Wf b/\a.deep<=5/\b.deep<=5/\cM A x=true/\lV x/\
 (∀rs,x=bV rs->Bk rs a->Bk rs b->∀A',Gr A A'->R (sW (val rs) a b) A')/\((¬∃rs,x=bV rs/\Bk rs a/\Bk rs b)->∀A',Gr A A'->R (dY 2) A')
end DP
namespace My
open L2 DP MA
theorem Ko(T:TopD K mg "_law_ask" EV t_){d j k l:Addr}(n:mg "HangError"=some (.ref d))(p:mg "NoWeights"=some (.ref j))(r:mg "TooLong"=some (.ref k))(t:mg "TooDeep"=some (.ref l))
  (Q:exmOne K (.ref j) (.ref d)=some true)(S:exmOne K (.ref k) (.ref d)=some true)(U:exmOne K (.ref l) (.ref d)=some true)
  (v:ay P w K mg base 13 "hung" um (av mg 3 An))(m:mO P w K mg base 1 "_law_which" ug (av mg 1 AU)):ay P w K mg base 14 "_law_ask" t_ (av mg 3 Ag):=by
 refine gM T FA rfl (by decide) λN RE f V B outer s H E D hR J ds A R h hl=> ?_
 have hu:=D.units
 have nd:=FA.nd
 obtain⟨u,hok⟩:∃o:List Str,o=[("NoWeights":Str),"TooLong","TooDeep"]:=⟨_,rfl⟩
 have z:∀c C,c∈u->mg c=some (.ref C)->exmOne K (.ref C) (.ref d)=some true:=λc C hc y=>by
  rw[hok] at hc
  rcases aX.mp hc with rfl|hc
  .rw[p] at y;cases y;exact Q
  rcases aX.mp hc with rfl|hc
  .rw[r] at y;cases y;exact S
  .rw[bK.mp hc,t] at y;cases y;exact U
 refine⟨_,(aC (JM (i:=3) u rfl rfl rfl nd rfl rfl n z (λM RE pn E J=>(aC (aO (dL v D J (aa (vr 0) (aa (vr 1) (aa (vr 2) ah))))))) (λM e=>(aC (aO (Jm m (ju.of (D.mono (by omega))) (aa (vr 3) ah))))))),?_⟩
 have F:("NoWeights":Str)∈u:=by rw[hok];simp
 have G:("TooLong":Str)∈u:=by rw[hok];simp
 have I:("TooDeep":Str)∈u:=by rw[hok];simp
 obtain⟨a,b,x,rfl,W,X,Y,db,hk,Z,q1,q2⟩:=h
 refine⟨rfl,a,b,x,rfl,W,X,Y,db,hk,Z,λrs e ka kb A' g=> ?_,λhn A' g=>⟨F,rfl,.inl ⟨rfl,λL g2=>q2 hn _ (g.trans g2)⟩⟩⟩
 have q:=λL g2=>q1 rs e ka kb L (g.trans g2)
 unfold sW at q
 by_cases c:mx (arm (val rs) a b)<=9
 .simp only[aj c] at q ⊢
  by_cases O:max a.deep b.deep+1<=5
  .simp only[aj O] at q ⊢
   exact q _ Gr.refl
  .simp only[ai O] at q ⊢
   exact⟨I,rfl,.inr (.inr ⟨rfl,q⟩)⟩
 .simp only[ai c] at q ⊢
  exact⟨G,rfl,.inr (.inl ⟨rfl,q⟩)⟩
end My
namespace DP
open L2 MA
abbrev uO:KeyOrd:=nP e9 (nP s_ qU)
def qC:D->uO.α
 |.tup [.str n,.int a]=>(n.cps.toList,a,())
 |_=>([],(0:Int),())
theorem QF(p q:Str×Int):ltQ (toQ (aJ p)) (toQ (aJ q))=some (uO.blt (qC (aJ p)) (qC (aJ q))):=
 Nf (O:=nP s_ qU) (Nc (O:=qU) Nd)
theorem QG{p:Str×Int}(h:Nm p.1):fH (aJ p)=true/\(toQ (aJ p)).canLay0=true/\(toQ (aJ p)).depth<=60/\∃x r,toQ (aJ p)=.tuple (.str x::r):=by
 have h1:=h.ok;refine⟨rfl,?_,?_,_,_,rfl⟩
 .simp[aJ,toQ,bY,canLay0,canLayAll0] at h1 ⊢
  exact h1
 .simp[aJ,toQ,bY,PyData.depth,depthAll]
theorem AW:∀{ds:List D},(∀d∈ds,∃p,d=aJ p)->∃rs:List (Str×Int),ds=rs.map aJ
 |[],_=>⟨[],rfl⟩
 |d::ds,h=>by
  obtain⟨rs,rfl⟩:=AW (ds:=ds) λx a=>h x (b9 _ a);obtain⟨p,rfl⟩:=h d (cB ..);exact⟨p::rs,rfl⟩
theorem Pd{rs qs:List (Str×Int)}(h:(rs.map aJ).Perm (qs.map aJ)):rs.Perm qs:=by
 have inv:∀l:List (Str×Int),(l.map aJ).map (λd=>match d with|.tup [.str n,.int a]=>(n,a)|_=>(("":Str),(0:Int)))=l:=λl=>by
  rw[b_];have:((λd=>match d with|D.tup [.str n,.int a]=>(n,a)|_=>(("":Str),(0:Int)))∘aJ)=id:=by
   funext p;rfl
  rw[this,List.map_id]
 have:=h.map (λd=>match d with|.tup [.str n,.int a]=>(n,a)|_=>(("":Str),(0:Int)));rw[inv,inv] at this;exact this
theorem Tq{rs:List (Str×Int)}(hn:(rs.map (·.1)).Nodup)(e:(rs.map aJ).Pairwise (λa b=>uO.kle (qC a) (qC b))):(rs.map (·.1)).Pairwise strLt:=by
 rw[jT] at e;have d:rs.Pairwise λa b=>a.1≠b.1:=jT.mp hn;refine jT.mpr ((e.and d).imp ?_);rintro a b ⟨k1,k2⟩;have k1:(e9.blt b.1.cps.toList a.1.cps.toList||(!e9.blt a.1.cps.toList b.1.cps.toList&&(nP s_ qU).blt (b.2,()) (a.2,())))=false:=k1;rw[Bool.or_eq_false_iff] at k1;have k3:e9.blt a.1.cps.toList b.1.cps.toList=true:=by
  cases c:e9.blt a.1.cps.toList b.1.cps.toList with
  |true=>rfl
  |false=>exact absurd (ze (e9.total _ _ c k1.1)) k2
 exact show a.1.cps.toList<b.1.cps.toList from kK k3
theorem RW{A:Ar}{r:Nat}{R:DK}{qs:List (Str×Int)}(h:A[r]?=some (.lst (qs.map aJ)))(c:qs.length<=1000)(hn:∀q∈qs,Nm q.1)(hd:(qs.map (·.1)).Nodup)
  (k:∀rs:List (Str×Int),rs.Perm qs->(rs.map (·.1)).Pairwise strLt->R (.ref A.length) (A++[.lst (rs.map aJ)])):qM r A R:=by
 refine RU uO qC h (by rw[a_];exact c) (λd hd=>?_) (λd hd e f=>?_) λes b g=>?_
 .obtain⟨p,b,rfl⟩:=aS.mp hd
  exact QG (hn p b)
 .obtain⟨p,_,rfl⟩:=aS.mp hd
  obtain⟨q,_,rfl⟩:=aS.mp f;exact QF p q
 .obtain⟨rs,rfl⟩:=AW (ds:=es) (λd hd=>let ⟨p,_,e⟩:=aS.mp (b.mem_iff.mp hd);⟨p,e.symm⟩)
  have a:=Pd b;exact k rs a (Tq ((a.map _).nodup_iff.mpr hd) g)
theorem DI{α β:Type}{f:α->β}:∀{l:List α},(l.map f).Nodup->∀a∈l,∀b∈l,f a=f b->a=b
 |[],_,_,h,_,_,_=>by cases h
 |x::l,h,a,g,b,i,e=>by
  obtain⟨h1,h2⟩:=jR.mp (show(f x::l.map f).Nodup from h);rcases aX.mp g with c|h3<;>rcases aX.mp i with d|h4
  .rw[c,d]
  .exact(h1 (aS.mpr ⟨b,h4,by rw[<-e,c]⟩)).elim
  .exact(h1 (aS.mpr ⟨a,h3,by rw[e,d]⟩)).elim
  .exact DI h2 a h3 b h4 e
theorem wI{m:M}(h:m.names.Nodup):cW [] (bS m "" 1)=none:=by
 refine Bq _ _ ?_;rw[fh];intro a c b d e;rw[DI (f:=λp:Str×Str×Rat=>p.2.1) (by rw[qI];exact h) a c b d e]
theorem DJ{α β:Type}{f:α->β}(a:∀x y,f x=f y->x=y){l:List α}(h:l.Nodup):(l.map f).Nodup:=by
 unfold List.Nodup;rw[jT];exact h.imp λne e=>ne (a _ _ e)
theorem Gj{m:M}(h:m.names=(range m.names.length).map λi=>gx (0+1+i)):m.names.Nodup/\∀n∈m.names,n.length=2:=by
 constructor
 .rw[h]
  exact DJ (λx y e=>by have:=NX e;omega) List.nodup_range
 .intro n hn
  rw[h] at hn;obtain⟨i,_,rfl⟩:=aS.mp hn;rfl
theorem TR(x:Str):(("z":Str)++x).cps.toList=("z":Str).cps.toList++x.cps.toList:=eT
theorem TQ{x y:Str}(h:("z":Str)++x=("z":Str)++y):x=y:=by
 have e:=c7 (λs:Str=>s.cps.toList) h;simp only[TR] at e;exact ze (List.append_cancel_left e)
theorem Hx{m:M}(h:m.names.Nodup)(h2:∀n∈m.names,n.length=2):(fO m).names.Nodup/\∀n∈(fO m).names,n.length=3:=by
 rw[rY];refine⟨DJ (λx y e=>TQ e) h,λn hn=>?_⟩;obtain⟨x,a,rfl⟩:=aS.mp hn;have b:(("z":Str)++x).length=1+x.length:=by
  have:("z":Str).length=1:=by decide+kernel
  rw[<-this];exact ow
 rw[b,h2 x a]
def bC(k:Int)(L:List (Str×Int)):List (Str×Int):=L.map λp=>(p.1,k*p.2)
theorem Gf(k:Int)(L:List (Str×Int)):(bC k L).map (·.1)=L.map (·.1):=by unfold bC;rw[b_];rfl
theorem EI{L rs:List (Str×Int)}{k:Int}(b:(L.map (·.1)).Nodup)(c:(rs.map (·.1)).Nodup)(d:∀p∈bC k L,p∈rs):∀n∈L.map (·.1),val rs n=k*val L n:=by
 intro n hn;obtain⟨p,a,rfl⟩:=aS.mp hn;have h2:=nX c (d (p.1,k*p.2) (aS.mpr ⟨p,a,rfl⟩));rw[nX b a];exact h2
theorem Qu{x y:Int}(e:0<x)(f:0<y):(rd y x).1*x=(rd y x).2*y:=by
 have h1:(Int.gcd y x:Int)∣y:=kZ y x;have h2:(Int.gcd y x:Int)∣x:=mF y x;obtain⟨a,c⟩:=h1;obtain⟨b,d⟩:=h2;have h:0<(Int.gcd y x:Int):=by
  have:=rD x (show y≠0 by omega);omega
 show y/(Int.gcd y x:Int)*x=x/(Int.gcd y x:Int)*y;generalize (Int.gcd y x:Int)=g at*
 subst c;subst d;rw[kJ _ (by omega),kJ _ (by omega)];grind
theorem R8{f:Str->Int}{a b:M}(c:cF f a ""=[])(d:cF f b ""=[])(e:0<ld f a)(g:0<ld f b):cF f (.aG (arm f a b).1 (arm f a b).2 a b) ""=[]:=by
 have h1:=(lW f a (("":Str)++"l")).mpr ((lW f a "").mp c);have h2:=(lW f b (("":Str)++"r")).mpr ((lW f b "").mp d);show hr2 "" ((arm f a b).1*ld f a) ((arm f a b).2*ld f b)++cF f a (("":Str)++"l")++cF f b (("":Str)++"r")=[];rw[h1,h2,show(arm f a b).1*ld f a=(arm f a b).2*ld f b from Qu e g];simp[hr2]
theorem Qf{x y u v:Int}(c:0<u)(d:0<v)(f:x%u=0)(g:y%v=0)(h:x*v=u*y):x/u=y/v:=by
 obtain⟨a,rfl⟩:=zJ f;obtain⟨b,rfl⟩:=zJ g;rw[kJ _ (by omega),kJ _ (by omega)];have e:u*v*a=u*v*b:=by grind
 exact zK (jn (jQ c d)) e
theorem Nt{A:Ar}{r:Nat}{xs:List D}{ns:List Int}{R:DK}(h:A[r]?=some (.lst xs))(hi:fE xs=some ns)(a:ns≠[])(k:∀m∈ns,(∀n∈ns,n<=m)->R (.int m) A):tQ r A R:=by
 unfold tQ;rw[h];show kh xs A R;unfold kh;rw[hi];exact⟨a,k⟩
theorem Rt{a b:cg}{K:jq}{τ:bw}{A:Ar}(J:bw->Ar->Prop)(c:∀τ A,J τ A->b K τ A)(d:(∀τ A,J τ A->b K τ A)->qE a b K τ A):qE a b K τ A:=d c
theorem Rv{i j:Nat}{v:D}{b:cg}{K:jq}{τ:bw}{A:Ar}(h:lk τ j=some v)(q:b K (τ.set i (some v)) A):qE (uR i (fS j)) b K τ A:=by
 show fS j τ A (λv a=>b K (τ.set i (some v)) a);unfold fS;rw[h];exact q
theorem J3(x:M)(j:Nat):PyData.eqv (toQ (dY j)) (toQ (enc x))=false:=by
 cases x with
 |wt n=>
  simp only[enc,dY,toQ,bY,PyData.eqv,eqvAll];rw[vm,oj]
 |aG l r a b=>
  simp only[enc,dY,toQ,bY,PyData.eqv,eqvAll];rw[oj,oj]
theorem N6{x:M}{j:Nat}{A:Ar}{R:DK}(hn:∀n∈x.names,Nm n)(k:R (.bl true) A):eK true (dY j) (enc x) A R:=by
 unfold eK;have c:=Dd j;have d:(toQ (dY j)).depth=1:=by
  show PyData.depth (.tuple [.str "refused",.int j])=1;simp[PyData.depth,depthAll]
 have h2:cE A (dY j)=toQ (dY j):=rfl;rw[zu,yu,h2];refine⟨rfl,qy x,c,qb x hn,by rw[d];exact cY (Nat.min_le_left _ _) (by decide),?_⟩;rw[J3];exact k
theorem ID(g:Str×Int)(pre:List (Str×Int)):cutD ((g::pre).map aJ) (some 1) none=pre.map aJ:=by
 unfold cutD HT.aR;simp;exact iI (by simp)
theorem IE(pre:List (Str×Int))(g:Str×Int):cutD ((pre++[g]).map aJ) none (some (-1))=pre.map aJ:=by
 unfold cutD HT.aR;simp;rw[show(-1+((pre.length:Int)+1)).toNat=(pre.map aJ).length by rw[a_];omega];simp
theorem Og{ys:List Int}{c:Int}(hn:ys.Nodup)(a:ys≠[])(h:∀x∈ys,x=c):ys.length=1:=by
 match ys,a with
 |[x],_=>rfl
 |x::y::r,_=>
  exfalso;obtain⟨h1,_⟩:=jR.mp hn;exact h1 (by rw[h x (by simp),<-h y (by simp)];simp)
theorem qk{a b:M}{x:D}(h:∀rs,x=bV rs->∃n,(n∈a.names\/n∈b.names)/\n∉rs.map (·.1)):¬∃rs,x=bV rs/\Bk rs a/\Bk rs b:=by
 rintro ⟨rs,e,d,f⟩;obtain⟨n,hn,c⟩:=h rs e;rcases hn with hn|hn
 .exact c (d.nm n hn)
 .exact c (f.nm n hn)
end DP
namespace My
open L2 DP MA
theorem KH{fo:Addr}{fd:FuncData}(T:jt K "law" "law" jK fo fd)(HJ:mg "len"=none)(HL:mg "range"=none)(AY:mg "max"=none)(HP:mg "tuple"=none)(HK:mg "list"=none)(HN:mg "sorted"=none)(HH:mg "dict"=none)(HG:mg "all"=none)(HM:mg "set"=none)(GD:ay P w K mg base 3 "_law_draw" nL (av mg 3 o9))(y:ay P w K mg base 4 "_law_pick" qp (av mg 3 rW))(I:ay P w K mg base 10 "_law_unlike" uf (av mg 4 (AS 6)))(GB:ay P w K mg base 8 "_law_again" t9 (av mg 1 (Af 7)))(GF:ay P w K mg base 1 "_law_least" ud (av mg 2 Aw))(GC:ay P w K mg base 9 "_law_deep" uc (av mg 1 (Am 8)))(V:ay P w K mg base 14 "_law_ask" t_ (av mg 3 Ag))(X:ay P w K mg base 12 "least" uu (av mg 1 Ay))(z7:ay P w K mg base 11 "load" ux (av mg 2 Ax))(GG:ay P w K mg base 19 "is_still" ur (av mg 2 AO)):fL P w K mg base (bu P w) 20 fo fd yx (av mg 1 Av):=by
 refine Li T FO rfl (by decide) λN RE f cdv B outer s H E u hR S ds A R h hl=>?_;have hu:=u.units;have nd:=FO.nd;refine⟨_,(@aF _ _ _ _ _ _ (dS 1 nd (fB ah)) (@aF _ _ _ _ _ _ (dS 2 nd (dL I u S (aa (vr 0) (aa (vr 1) (aa (dL y u S (aa (vr 0) (aa (vr 1) (aa (fB (aa aq (aa aq (aa aq (aa aq ah))))) ah)))) (aa (fB ah) ah)))))) (@aF _ _ _ _ _ _ (dS 3 nd (dL GB u S (aa (dL I u S (aa (vr 0) (aa (vr 1) (aa (dL y u S (aa (vr 0) (aa (vr 1) (aa (fB (aa aq (aa aq (aa aq (aa aq ah))))) ah)))) (aa (fB ah) ah))))) ah))) (@aF _ _ _ _ _ _ (dS 4 nd (gq none (own:=["_law_k"]) (frees:=["_law_script","_law_town"]) (ix:=[0,1]) rfl (xq HL (aa aq ah)) (λc=>(pG 0 (show(["_law_k","_law_script","_law_town"]:List Str).Nodup by decide+kernel))) (λc=>(dz aq (dL GD u nO (aa (vr 1) (aa (vr 2) (aa aq ah)))))))) (@aF _ _ _ _ _ _ (m6 (some 2) (own:=["_law_name","_law_number"]) (frees:=["_law_often"]) (ix:=[4]) (i:=5) nd rfl (by first|exact Or.inl rfl|exact Or.inr rfl) rfl (ef (dL X u S (aa (vr 2) ah))) (λc=>(kB rfl (fG (pG 0 (show(["_law_name","_law_number","_law_often"]:List Str).Nodup by decide+kernel)) (fG (pG 1 (show(["_law_name","_law_number","_law_often"]:List Str).Nodup by decide+kernel)) kC)))) (λc=>(cK (aa (vr 0) (aa (gu (dX hu (vr 2) aq) (vr 1)) ah))))) (@aF _ _ _ _ _ _ (eW (j4 kO PySem.F.slot_list_extend PySem.F.type_list_extend DE Bx (vr 5) (aa (gq (some 2) (own:=["_law_name","_law_number"]) (frees:=["_law_often"]) (ix:=[4]) rfl (ef (dL X u S (aa (vr 3) ah))) (λc=>(kB rfl (fG (pG 0 (show(["_law_name","_law_number","_law_often"]:List Str).Nodup by decide+kernel)) (fG (pG 1 (show(["_law_name","_law_number","_law_often"]:List Str).Nodup by decide+kernel)) kC)))) (λc=>(cK (aa (vr 0) (aa (gu (dX hu (vr 2) aq) (vr 1)) ah))))) ah))) (@aF _ _ _ _ _ _ (bz (kD (cS (Bh rfl) BA AY boot_max (aa (gq (some 2) (own:=["_law_name","_law_number"]) (frees:=[]) (ix:=[]) rfl (ef (vr 5)) (λc=>(kB rfl (fG (pG 0 (show(["_law_name","_law_number"]:List Str).Nodup by decide+kernel)) (fG (pG 1 (show(["_law_name","_law_number"]:List Str).Nodup by decide+kernel)) kC)))) (λc=>(vr 1))) ah)) aq) (@aC _ _ _ _ (aO eL)) bG) (@aF _ _ _ _ _ _ (dS 6 nd (jw Ig Jj HP mD (aa (cS (Ic rfl hu) Jh HN boot_sorted (aa (vr 5) ah)) ah))) (@aF _ _ _ _ _ _ (dS 7 nd (fB (aa (dL z7 u S (aa (vr 2) (aa (vr 6) ah))) (aa (dL z7 u S (aa (vr 3) (aa (vr 6) ah))) ah)))) (@aF _ _ _ _ _ _ (JJ (dL GF u S (aa (dX hu (vr 7) aq) (aa (dX hu (vr 7) aq) ah))) (sG rfl (jz (dG 8 nd) (jz (dG 9 nd) sH)))) (@aF _ _ _ _ _ _ (dS 10 nd (cK (aa bx (aa (vr 9) (aa (vr 8) (aa (vr 2) (aa (vr 3) ah))))))) (@aF _ _ _ _ _ _ (dS 11 nd (vr 10)) (@aF _ _ _ _ _ _ (bz (kD (cS (wN rfl) w_ AY boot_max (aa (vr 9) (aa (vr 8) ah))) aq) (@aC _ _ _ _ (dS 11 nd (cK (aa bx (aa aq ah))))) (@aC _ _ _ _ (bz (kD (dL GC u S (aa (vr 10) ah)) aq) (@aC _ _ _ _ (dS 11 nd (cK (aa bx (aa aq ah))))) bG))) (@aF _ _ _ _ _ _ (bz (jL hu (dL V u S (aa (vr 2) (aa (vr 3) (aa (vr 6) ah)))) (vr 11)) (@aC _ _ _ _ (aO eL)) bG) (@aF _ _ _ _ _ _ (dS 12 nd (dL y u S (aa (vr 0) (aa (vr 1) (aa (fB (aa xg (aa (xh (vr 6) (xw aq) xu) (aa (xh (vr 6) xu (xw (BF aq))) (aa (jw H_ Ja HK boot_list (aa (vr 6) ah)) (aa (cK ah) ah)))))) ah))))) (@aF _ _ _ _ _ _ (bz (jL hu (dL V u S (aa (vr 2) (aa (vr 3) (aa (vr 12) ah)))) (cK (aa bx (aa aq ah)))) (@aC _ _ _ _ (aO eL)) bG) (@aF _ _ _ _ _ _ (bz (jL hu (vr 11) (vr 10)) (@aC _ _ _ _ (aO eL)) bG) (@aF _ _ _ _ _ _ (dS 13 nd (jw (lu rfl) lB HH mC (aa (vr 6) ah))) (@aF _ _ _ _ _ _ (dS 14 nd (dL X u S (aa (vr 10) ah))) (@aF _ _ _ _ _ _ (bz (PW.pt (fD (dH (dI (dL GG u S (aa (vr 10) (aa (vr 6) ah))))) (fY (dH (dI (cS (pM rfl) pR HG boot_all (aa (gq (some 2) (own:=["_law_name","_law_number"]) (frees:=["_law_book"]) (ix:=[13]) rfl (ef (vr 14)) (λc=>(kB rfl (fG (pG 0 (show(["_law_name","_law_number","_law_book"]:List Str).Nodup by decide+kernel)) (fG (pG 1 (show(["_law_name","_law_number","_law_book"]:List Str).Nodup by decide+kernel)) kC)))) (λc=>(m8 hu (j3 (dX hu (vr 2) (vr 0)) (vr 1)) aq))) ah))))))) (@aC _ _ _ _ (aO eL)) bG) (@aC _ _ _ _ (aO (m8 hu (Jt HJ HM rfl (aa (gq (some 2) (own:=["_law_name","_law_number"]) (frees:=["_law_book"]) (ix:=[13]) rfl (ef (vr 14)) (λc=>(kB rfl (fG (pG 0 (show(["_law_name","_law_number","_law_book"]:List Str).Nodup by decide+kernel)) (fG (pG 1 (show(["_law_name","_law_number","_law_book"]:List Str).Nodup by decide+kernel)) kC)))) (λc=>(jx (dX hu (vr 2) (vr 0)) (vr 1)))) ah)) aq))))))))))))))))))))))),?_⟩;obtain⟨ns,rfl,q⟩:=h;have c6:∀d,d<=6->ly d<=315/\2 ^ (d - 1)<=32:=λd hd=>by
  have:d=0\/d=1\/d=2\/d=3\/d=4\/d=5\/d=6:=by omega
  rcases this with rfl|rfl|rfl|rfl|rfl|rfl|rfl<;>decide
 have pk:∀x:D,x∈([.int 1,.int 2,.int 2,.int 5]:List D)->∃d:Nat,x=.int (((d+1:Nat):Int) - 1)/\d+1<=6:=λx S=>by
  simp only[aX,d7,d8] at S;rcases S with rfl|rfl|rfl|rfl
  .exact⟨1,rfl,by decide⟩
  .exact⟨2,rfl,by decide⟩
  .exact⟨2,rfl,by decide⟩
  .exact⟨5,rfl,by decide⟩
 refine⟨cH _,show 4<=sizeLine by decide,rfl,ns,_,_,[.int 1,.int 2,.int 2,.int 5],0,rfl,by simp,aK,by simp,⟨[],getElem?_push aK,aH _⟩,by decide,λx A1 LZ b1 t1=>?_⟩;obtain⟨d1,rfl,hd1⟩:=pk x LZ;have Uy:=ja (rj t1).1;refine⟨cH _,rfl,d1+1,hd1,ns,_,_,_,0,rfl,succ_pos _,by omega,t1.gr Gr.push,by have:=c6 _ hd1;omega,⟨[],aK,rfl⟩,by have:=c6 _ hd1;omega,λl A2 w1 Ud e1 b2 t2 _=>?_⟩;have lK:=ja (rj t2).1;have Ua:=c6 _ hd1;refine⟨show 4<=sizeLine by decide,rfl,ns,_,_,[.int 1,.int 2,.int 2,.int 5],400,rfl,by omega,aK,by simp,(t2.mono (by omega)).gr Gr.push,by decide,λx A3 L0 b3 t3=>?_⟩;obtain⟨d2,rfl,hd2⟩:=pk x L0;have Ub:=c6 _ hd2;have Nb:=ja (rj t3).1;refine⟨cH _,rfl,d2+1,hd2,ns,_,_,_,0,rfl,succ_pos _,by omega,t3.gr Gr.push,by omega,⟨[],aK,rfl⟩,by omega,λm2 A4 w2 Ue e2 b4 t4 _=>?_⟩;obtain⟨DG,Dl⟩:=Gj e1;obtain⟨NR,yc⟩:=Gj e2;obtain⟨DH,ln2⟩:=Hx NR yc;refine⟨rfl,_,⟨m2,rfl,by omega,λn hn=>by rw[yc n hn];decide,rfl⟩,λA5 g5=>?_⟩;have wo:=Hy w2 (λn hn=>by rw[yc n hn];decide);have dO:(fO m2).deep<=5:=by rw[wB];omega
 generalize fO m2=o at*
 have t5:=(t4.mono (show _<=800 by omega)).gr g5;refine⟨by decide,by decide,trivial,rfl,ns,_,5,800,rfl,t5,by decide,by decide,λi1 A6 Uk Ul b6 t6=>⟨show 0<sizeLine by decide,trivial,rfl,ns,_,5,801,rfl,t6,by decide,by decide,λi2 A7 Um Uo b7 t7=>⟨show 1<sizeLine by decide,trivial,?_⟩⟩⟩;have h4:(A7++[C.lst ([]++[D.int (1+i1)]++[D.int (1+i2)])])[A7.length]?=some (C.lst [D.int (1+i1),D.int (1+i2)]):=aK;have t8:=t7.gr (Gr.push (T:=[C.lst ([]++[D.int (1+i1)]++[D.int (1+i2)])]));have UA:=ja (rj t7).1;have hb1:=wI DG;have hb2:=wI DH;have UE:=kj (show l.deep<=5 by omega);have UG:=kj dO;have hz:(1000:Nat)<=sizeLine:=by decide
 have tm:∀(k:Int) (L:List (Str×Int)),(L.map aJ).map (λd=>match d with|.tup [.str n,.int v]=>.tup [.str n,.int (k*v)]|d=>d)=(bC k L).map aJ:=λk L=>by
  unfold bC;rw[b_,b_];rfl
 refine⟨rfl,l,rfl,w1,by omega,λA9 g9=>?_⟩;rw[aj hb1];intro G p1 s1;have M4:(lw (G.map (shr l))).length=G.length:=by rw[tP,a_]
 have UB:=pw_len G l.names p1 λx S=>(s1 x).mp S;have L1:=ye w1.arms (by omega) hb1 p1 s1;have f1:(G.zip (lw (G.map (shr l)))).map (·.1)=G:=vS M4;have z1:(G.zip (lw (G.map (shr l)))).length=G.length:=by have:=c7 List.length f1;rwa [a_] at this
 generalize G.zip (lw (G.map (shr l)))=R1 at*
 refine fQ (f:=λd=>match d with|.tup [.str n,.int v]=>.tup [.str n,.int ((1+i1)*v)]|d=>d) trivial _ _ (λd hd=>?_) (by simp;omega) ?_
 .obtain⟨r,u,rfl⟩:=aS.mp hd
  exact⟨[.str r.1,.int r.2],rfl,λQ hQ=>jG (g9.get h4) (v:=.int (1+i1)) (pI (j:=0) rfl) ⟨.inl ⟨by omega,by omega⟩,show 2<=sizeLine by decide,hQ⟩⟩
 rw[fh,tm];have h5:=aK (A:=A9) (c:=C.lst ((bC (1+i1) R1).map aJ));have Cs:=g9.trans (Gr.push (T:=[C.lst ((bC (1+i1) R1).map aJ)]));have l9:A7.length<A9.length:=by
  have:=g9.len;simp at this;omega
 refine⟨f5 h5,rfl,o,rfl,wo,dO,λoW p5=>?_⟩;rw[aj hb2];intro J p2 s2;have M5:(lw (J.map (shr o))).length=J.length:=by rw[tP,a_]
 have UC:=pw_len J o.names p2 λx S=>(s2 x).mp S;have L2:=ye wo.arms dO hb2 p2 s2;have f2:(J.zip (lw (J.map (shr o)))).map (·.1)=J:=vS M5;have z2:(J.zip (lw (J.map (shr o)))).length=J.length:=by have:=c7 List.length f2;rwa [a_] at this
 generalize J.zip (lw (J.map (shr o)))=R2 at*
 refine fQ (f:=λd=>match d with|.tup [.str n,.int v]=>.tup [.str n,.int ((1+i2)*v)]|d=>d) trivial _ _ (λd hd=>?_) (by simp;omega) ?_
 .obtain⟨r,u,rfl⟩:=aS.mp hd
  exact⟨[.str r.1,.int r.2],rfl,λQ hQ=>jG ((Cs.trans p5).get h4) (v:=.int (1+i2)) (pI (j:=1) rfl) ⟨.inl ⟨by omega,by omega⟩,show 2<=sizeLine by decide,hQ⟩⟩
 rw[fh,tm];refine sR (getElem?_push (p5.get h5)) aK (by simp[bC];omega) ?_;have xS:((oW++[C.lst ((bC (1+i2) R2).map aJ)]).set A9.length (C.lst ((bC (1+i1) R1).map aJ++(bC (1+i2) R2).map aJ)))[A9.length]?=some (.lst ((bC (1+i1) R1++bC (1+i2) R2).map aJ)):=by
  rw[get_set (getElem?_push (p5.get h5)),ff]
 have Us:=ja (p5.get h5);have HE:cQ A9.length oW ((oW++[C.lst ((bC (1+i2) R2).map aJ)]).set A9.length (C.lst ((bC (1+i1) R1).map aJ++(bC (1+i2) R2).map aJ))):=cQ.push.trans cQ.set;have Se:Tw A.length 802 ((oW++[C.lst ((bC (1+i2) R2).map aJ)]).set A9.length (C.lst ((bC (1+i1) R1).map aJ++(bC (1+i2) R2).map aJ))):=by
  obtain⟨xs,S,hz'⟩:=t8.gr (Cs.trans p5);exact⟨xs,HE _ _ (by omega) S,hz'⟩
 generalize ((oW++[C.lst ((bC (1+i2) R2).map aJ)]).set A9.length (C.lst ((bC (1+i1) R1).map aJ++(bC (1+i2) R2).map aJ)))=z0 at*
 have hqn:((bC (1+i1) R1++bC (1+i2) R2).map (·.1))=G++J:=by rw[ff,Gf,Gf,f1,f2]
 have LO:(bC (1+i1) R1++bC (1+i2) R2).length=G.length+J.length:=by
  have:=c7 List.length hqn;rw[a_] at this;rw[this,cA]
 have q1:∀p∈bC (1+i1) R1,p∈bC (1+i1) R1++bC (1+i2) R2:=λp O=>br.mpr (.inl O);have q2:∀p∈bC (1+i2) R2,p∈bC (1+i1) R1++bC (1+i2) R2:=λp O=>br.mpr (.inr O);have Qe:∀p∈bC (1+i1) R1++bC (1+i2) R2,1<=p.2:=λp O=>by
  have key:∀(k:Int) (L:List (Str×Int)) (m:M) (sh:Str->Rat),1<=k->(L.map (·.1)).Nodup->(∀n∈L.map (·.1),n∈m.names)->Lst m sh (val L)->∀p∈bC k L,1<=p.2:=λk L m sh hk hn hm hL p O=>by
   obtain⟨r,u,rfl⟩:=aS.mp O;have:=hL.pos r.1 (hm _ (aS.mpr ⟨r,u,rfl⟩));rw[nX hn u] at this;show 1<=k*r.2;have:=iG hk this (by omega) (by omega);omega
  rcases br.mp O with h|h
  .exact key _ _ l _ (by omega) (by rw[f1];exact jI p1) (λn hn=>(s1 n).mp (by rw[f1] at hn;exact hn)) L1 p h
  .exact key _ _ o _ (by omega) (by rw[f2];exact jI p2) (λn hn=>(s2 n).mp (by rw[f2] at hn;exact hn)) L2 p h
 have Qd:(G++J).Nodup:=ou.mpr ⟨jI p1,jI p2,λa ha b hb e=>by
  have h1:=Dl a ((s1 a).mp ha);have h2:=ln2 b ((s2 b).mp hb);rw[e,h2] at h1;exact absurd h1 (by decide)⟩
 have Qg:∀rs:List (Str×Int),(rs.map (·.1)).Nodup->rs.Perm (bC (1+i1) R1++bC (1+i2) R2)->∀n∈l.names,val rs n=(1+i1)*val R1 n:=λrs hn O n hn'=>EI (by rw[f1];exact jI p1) hn (λp nu=>O.mem_iff.mpr (q1 p nu)) n (by rw[f1];exact(s1 n).mpr hn');have Qh:∀rs:List (Str×Int),(rs.map (·.1)).Nodup->rs.Perm (bC (1+i1) R1++bC (1+i2) R2)->∀n∈o.names,val rs n=(1+i2)*val R2 n:=λrs hn O n hn'=>EI (by rw[f2];exact jI p2) hn (λp nu=>O.mem_iff.mpr (q2 p nu)) n (by rw[f2];exact(s2 n).mpr hn');generalize bC (1+i1) R1++bC (1+i2) R2=qs at*
 refine iy xS ?_;refine fQ (f:=λd=>match d with|.tup [_,n]=>n|d=>d) xS _ _ (λd hd=>?_) (by simp;omega) ?_
 .obtain⟨r,u,rfl⟩:=aS.mp hd
  exact⟨[.str r.1,.int r.2],rfl,λQ hQ=>hQ⟩
 have em:(qs.map aJ).map (λd=>match d with|.tup [_,n]=>n|d=>d)=(qs.map (·.2)).map D.int:=by
  rw[b_,b_];rfl
 rw[fh,em];have LM:∃n,n∈l.names:=by
  have hpos:=aP.tV l;cases e:l.names with
  |nil=>rw[e] at hpos;simp at hpos
  |cons n t=>exact⟨n,by simp⟩
 obtain⟨n1,hn1⟩:=LM;have LP:qs≠[]:=λz=>by
  rw[z] at hqn;have h1:=(s1 n1).mpr hn1;have:G=[]:=(zO.mp hqn.symm).1;rw[this] at h1;cases h1
 refine Nt (ns:=qs.map (·.2)) aK (by have:=ints_map id (qs.map (·.2));simpa using this) (by simpa using LP) λk hk hall=>?_;refine cD (λc=>q _) (λc=>?_);have c:¬k>999999:=c;have Qc:∀p∈qs,p.2<=999999:=λp O=>by
  have:=hall p.2 (aS.mpr ⟨p,O,rfl⟩);omega
 have Ck:Gr z0 (z0++[C.lst ((qs.map (·.2)).map D.int)]):=Gr.push;have LN:=Ck.get xS;have Sf:=Se.gr Ck;have sX:∀n,n∈G++J->n∈l.names\/n∈o.names:=λn hn=>by
  rcases br.mp hn with h|h
  .exact .inl ((s1 n).mp h)
  .exact .inr ((s2 n).mp h)
 refine RW LN (by omega) (λp O=>?_) (by rw[hqn];exact Qd) λrs rp ru=>?_
 .rcases sX p.1 (by rw[<-hqn];exact aS.mpr ⟨p,O,rfl⟩) with h|h
  .exact w1.nm _ h
  .exact wo.nm _ h
 refine S6 aK ?_;have uL:(rs.map (·.1)).Nodup:=jI ru;have nS:∀n,n∈rs.map (·.1)↔n∈G++J:=λn=>by rw[(rp.map _).mem_iff,hqn]
 have UJ:rs.length=G.length+J.length:=by rw[rp.length_eq,LO]
 have Y:iY rs:=⟨λr u=>by
  rcases sX r.1 ((nS r.1).mp (aS.mpr ⟨r,u,rfl⟩)) with h|h
  .exact w1.nm _ h
  .exact wo.nm _ h,λr u=>⟨Qe r (rp.mem_iff.mp u),Qc r (rp.mem_iff.mp u)⟩,ru,by omega⟩
 have pJ:Bk rs l:=⟨Y,λn hn=>(nS n).mpr (br.mpr (.inl ((s1 n).mpr hn)))⟩;have pK:Bk rs o:=⟨Y,λn hn=>(nS n).mpr (br.mpr (.inr ((s2 n).mpr hn)))⟩;have st1:=L1.times w1.arms (qL hb1).2 (Qg rs uL rp);have st2:=L2.times wo.arms (qL hb2).2 (Qh rs uL rp);have Uu:=lH pJ;have Uv:=lH pK;have Uw:=x8 pJ (by omega);have Ux:=x8 pK (by omega);have T9:(2:Int) ^ 40<2 ^ 2000:=by decide+kernel
 refine⟨rfl,_,⟨l,rs,rfl,w1,pJ,by omega,rfl⟩,λT5 Ll=>⟨rfl,_,⟨o,rs,rfl,wo,pK,dO,rfl⟩,λGy Lm=>⟨show 2<=sizeLine by decide,?_⟩⟩⟩;refine jG aK (v:=.int (ld (val rs) l)) (pI (j:=0) rfl) ?_;refine jG aK (v:=.int (ld (val rs) o)) (pI (j:=1) rfl) ?_;refine⟨rfl,_,⟨ld (val rs) l,ld (val rs) o,rfl,by omega,by omega,by omega,rfl⟩,λT6 Ln=>?_⟩;refine⟨rfl,show 5<=sizeLine by decide,?_⟩;have JR:arm (val rs) l o=((rd (ld (val rs) l) (ld (val rs) o)).2,(rd (ld (val rs) l) (ld (val rs) o)).1):=Qv _ _;have zc:=R8 st1 st2 (by omega) (by omega);have hdg:sW (val rs) l o=if mx (arm (val rs) l o)<=9 then (if max l.deep o.deep+1<=5 then enc (.aG (arm (val rs) l o).1 (arm (val rs) l o).2 l o) else dY 7) else dY 6:=rfl
 have apos:=Qs (a:=ld (val rs) o) (b:=ld (val rs) l) (by omega) (by omega);have apos:1<=(arm (val rs) l o).1/\1<=(arm (val rs) l o).2:=apos;rw[JR] at zc hdg apos;have zg:=((((Sf.gr Gr.push).gr Ll).gr Lm).gr Gr.push).gr Ln;generalize (rd (ld (val rs) l) (ld (val rs) o)).2=le at*
 generalize (rd (ld (val rs) l) (ld (val rs) o)).1=W at*
 dsimp only;refine Rv (v:=enc (.aG le W l o)) rfl ?_;refine Rt (a:=ER _ _ _) (λτ A'=>∃dd,τ=[some (.fl ns),some (.ref A.length),some (enc l),some (enc o),some (.ref A7.length),some (.ref A9.length),some (bV rs),some (.ref Gy.length),some (.int W),some (.int le),some (enc (.aG le W l o)),some dd,none,none,none]/\Tw A.length 802 A'/\sW (val rs) l o=dd/\((dd=enc (.aG le W l o)/\le<=9/\W<=9/\max l.deep o.deep+1<=5)\/∃j,dd=dY j)) ?_ λfin=>?_
 .rintro τ Gz ⟨dd,rfl,Sg,LJ,hj⟩
  refine⟨rfl,l,o,bV rs,rfl,w1,wo,by omega,dO,yt Y.nm,Rz Y,λU e' ka kb z4 Lo=>?_,λhn=>absurd ⟨rs,rfl,pJ,pK⟩ hn⟩;obtain rfl:=lC e';rw[LJ];have nI:∀n∈(aP.aG le W l o:M).names,Nm n:=λn hn=>by
   rcases br.mp (show n∈l.names++o.names from hn) with h|h
   .exact w1.nm n h
   .exact wo.nm n h
  have BV:(aP.aG le W l o:M).deep<=60:=by show max l.deep o.deep+1<=60;omega
  have same:∀(A':Ar) (Q:DK),Q (.bl false) A'->ql dd dd A' Q:=λA' Q hQ=>by
   rcases hj with⟨rfl,_⟩|⟨j,rfl⟩
   .refine DL nI nI BV ?_
    rw[dj rfl];exact hQ
   .exact Ed (neg:=true) hQ
  refine JP (v:=dd) rfl (same _ _ ?_);have uM:rs≠[]:=λz=>by
   have:=(nS n1).mpr (br.mpr (.inl ((s1 n1).mpr hn1)));rw[z] at this;cases this
  have rpos:0<(rs.map aJ).length:=by rw[a_];exact vj.mpr uM
  have hw1:¬(HT.aR (rs.map aJ).length 0 (some 1)=0/\HT.aR (rs.map aJ).length (rs.map aJ).length none=(rs.map aJ).length):=by
   generalize (rs.map aJ).length=n at*
   unfold HT.aR;simp;omega
  have LY:¬(HT.aR (rs.map aJ).length 0 none=0/\HT.aR (rs.map aJ).length (rs.map aJ).length (some (-1))=(rs.map aJ).length):=by
   generalize (rs.map aJ).length=n at*
   unfold HT.aR;simp;omega
  have Cj:Tw A.length 802 z4:=Sg.gr Lo;have Uz:=ja (rj Cj).1;refine⟨hw1,LY,cH _,show 5<=sizeLine by decide,rfl,ns,_,_,_,802,rfl,by simp;omega,aK,by simp,(Cj.gr Gr.push).gr Gr.push,by decide,λx z5 S HF UL=>?_⟩;have odd:cM z5 x=true/\lV x/\¬∃U,x=bV U/\Bk U l/\Bk U o:=by
   simp only[aX,d7,d8] at S;rcases S with rfl|rfl|rfl|rfl|rfl
   .exact⟨rfl,(λxs e=>by cases e),qk λU e=>by cases e⟩
   .obtain⟨g,pre,e⟩:∃g pre,rs=g::pre:=by
     cases rs with
     |nil=>exact absurd rfl uM
     |cons g pre=>exact⟨g,pre,rfl⟩
    have ec:DP.cutD (rs.map aJ) (some 1) none=pre.map aJ:=by rw[e,ID]
    rw[ec];refine⟨yt (rs:=pre) λr u=>Y.nm r (by rw[e];exact b9 _ u),λxs ex=>?_,qk λU er=>⟨g.1,sX g.1 ((nS g.1).mp (by rw[e];simp)),?_⟩⟩
    .cases ex
     have:=Y.len;rw[e,gC] at this;rw[a_];omega
    .have er:bV pre=bV U:=er
     have h2:=uL;rw[e,dg] at h2;rw[<-lC er];exact(jR.mp h2).1
   .obtain⟨pre,g,e⟩:∃pre g,rs=pre++[g]:=⟨rs.dropLast,rs.getLast uM,(List.dropLast_concat_getLast uM).symm⟩
    have ec:DP.cutD (rs.map aJ) none (some (-1))=pre.map aJ:=by rw[e,IE]
    rw[ec];refine⟨yt (rs:=pre) λr u=>Y.nm r (by rw[e];exact br.mpr (.inl u)),λxs ex=>?_,qk λU er=>⟨g.1,sX g.1 ((nS g.1).mp (by rw[e];simp)),?_⟩⟩
    .cases ex
     have:=Y.len;rw[e,cA] at this;rw[a_];omega
    .have er:bV pre=bV U:=er
     have h2:=uL;rw[e,ff] at h2;rw[<-lC er];intro hg;exact(ou.mp h2).2.2 g.1 hg g.1 (by simp) rfl
   .have hA:z5[z4.length]?=some (.lst (rs.map aJ)):=HF _ _ (by omega) (getElem?_push aK)
    refine⟨?_,(λxs e=>by cases e),qk λU e=>by cases e⟩;unfold cM;rw[hA]
   .refine⟨rfl,(λxs e=>by cases e;decide),qk λU er=>⟨n1,.inl hn1,?_⟩⟩
    have er:bV []=bV U:=er;rw[<-lC er];simp
  refine⟨rfl,l,o,x,rfl,w1,wo,by omega,dO,odd.1,odd.2.1,λU e' ka kb=>absurd ⟨U,e',ka,kb⟩ odd.2.2,λ_ GA Ug=>?_⟩;refine⟨show 2<=sizeLine by decide,Ed (neg:=true) ?_⟩;rcases hj.symm with⟨j,rfl⟩|⟨rfl,h9,LC,h5⟩
  .exact N6 nI (q _)
  refine DL nI nI BV ?_;refine cN (λc=>absurd rfl c) (λ_=>?_);have ve:Wf (.aG le W l o):=⟨⟨apos.1,h9,apos.2,LC,w1.arms,wo.arms⟩,nI⟩;have NS:(aP.aG le W l o:M).names.Nodup:=ou.mpr ⟨DG,DH,λa ha b hb e=>by
   have h1:=Dl a ha;have h2:=ln2 b hb;rw[e,h2] at h1;exact absurd h1 (by decide)⟩
  have se:Bk rs (.aG le W l o):=⟨Y,λn hn=>by
   rcases br.mp (show n∈l.names++o.names from hn) with h|h
   .exact pJ.nm n h
   .exact pK.nm n h⟩
  have d5:(aP.aG le W l o:M).deep<=5:=h5;refine m5 Y ?_;have LI:=aK (A:=GA) (c:=C.dct (dJ rs));refine⟨rfl,.aG le W l o,rfl,ve,d5,λT7 Lp=>?_⟩;have xO:=wI NS;rw[aj xO];intro Z p3 s3;have M6:(lw (Z.map (shr (.aG le W l o)))).length=Z.length:=by rw[tP,a_]
  have UD:=pw_len Z _ p3 λx S=>(s3 x).mp S;have UH:=kj d5;have L3:=ye ve.arms d5 xO p3 s3;have f3:(Z.zip (lw (Z.map (shr (.aG le W l o))))).map (·.1)=Z:=vS M6;have z3:(Z.zip (lw (Z.map (shr (.aG le W l o))))).length=Z.length:=by have:=c7 List.length f3;rwa [a_] at this
  generalize Z.zip (lw (Z.map (shr (.aG le W l o))))=R3 at*
  have Qi:(R3.map (·.1)).Nodup:=by rw[f3];exact jI p3
  have nQ:∀p∈R3,p.1∈(aP.aG le W l o:M).names:=λp O=>(s3 p.1).mp (by rw[<-f3];exact aS.mpr ⟨p,O,rfl⟩);have uK:∀p∈R3,val R3 p.1=p.2:=λp O=>nX Qi O;have uJ:∀p∈R3,1<=p.2:=λp O=>by rw[<-uK p O];exact L3.pos _ (nQ p O)
  have qA:∀p∈R3,val rs p.1%p.2=0/\∀p'∈R3,val rs p'.1*p.2=p'.2*val rs p.1:=λp O=>by
   obtain⟨k1,k2⟩:=(L3.iff ve.arms (qL xO).2 (nQ p O)).mp zc;rw[uK p O] at k1;refine⟨k1,λp' nu=>?_⟩;have:=k2 p'.1 (nQ p' nu);rwa [uK p O,uK p' nu] at this
  have Qj:∀p∈R3,p.2<=999999:=λp O=>by
   have h1:=zB Y (se.nm p.1 (nQ p O));have h2:=l0 (by omega) (zJ (qA p O).1);omega
  refine⟨rfl,.aG le W l o,rs,rfl,ve,se,d5,λT8 Lq=>?_⟩;rw[dj zc];have CI:=(Lp.trans Lq).get LI;refine fQ (f:=λ_=>.bl true) trivial _ _ (λd hd=>?_) (by simp;omega) ?_
  .obtain⟨r,u,rfl⟩:=aS.mp hd
   refine⟨[.str r.1,.int r.2],rfl,λQ hQ=>nD CI rfl (nq rs r.1 (se.nm _ (nQ r u))) ⟨by have:=uJ r u;omega,?_⟩⟩;show Q (.bl (decide (val rs r.1%r.2=0))) _;rw[dj (qA r u).1];exact hQ
  rw[fh];refine pH (bs:=R3.map λ_=>true) aK (by rw[b_];exact mW (λ_=>true) R3) ?_;rw[show(R3.map λ_=>true).all id=true by simp];refine fQ (f:=λd=>match d with|.tup [.str n,.int v]=>.int (val rs n/v)|d=>d) trivial _ _ (λd hd=>?_) (by simp;omega) ?_
  .obtain⟨r,u,rfl⟩:=aS.mp hd
   have h1:=uJ r u;have h2:=Qj r u;exact⟨[.str r.1,.int r.2],rfl,λQ hQ=>nD (getElem?_push CI) rfl (nq rs r.1 (se.nm _ (nQ r u))) ⟨⟨by omega,by
    have:=(log2_lt (n:=r.2.natAbs) (k:=20) (by omega)).mpr (by omega);omega⟩,hQ⟩⟩
  have JS:(R3.map aJ).map (λd=>match d with|.tup [.str n,.int v]=>.int (val rs n/v)|d=>d)=(R3.map λp=>val rs p.1/p.2).map D.int:=by
   rw[b_,b_];rfl
  rw[fh,JS];refine M8 aK (by rw[a_];omega) λzs zn zm=>?_;obtain⟨p0,hp0⟩:∃p,p∈R3:=by
   have:n1∈R3.map (·.1):=by
    rw[f3];exact(s3 n1).mpr (br.mpr (.inl hn1))
   obtain⟨p,O,_⟩:=aS.mp this;exact⟨p,O⟩
  have hone:=Og (c:=val rs p0.1/p0.2) zn (λz=>by
   have:=(zm (val rs p0.1/p0.2)).mpr (aS.mpr ⟨p0,hp0,rfl⟩);rw[z] at this;cases this) λx S=>by
   obtain⟨p,O,rfl⟩:=aS.mp ((zm x).mp S);exact Qf (by have:=uJ p O;omega) (by have:=uJ p0 hp0;omega) (qA p O).1 (qA p0 hp0).1 ((qA p0 hp0).2 p O)
  show R (.bl (decide ((zs.length:Int)=1))) _;rw[dj (show((zs.length:Nat):Int)=1 by rw[hone];rfl)];exact q _
 .refine cD (λc=>?_) (λc=>?_)
  .have c:(if W>le then W else le)>9:=c
   rw[ai (by show ¬max le W<=9;split at c<;>omega)] at hdg;exact⟨show 2<=sizeLine by decide,fin _ _ ⟨dY 6,rfl,zg,hdg,.inr ⟨6,rfl⟩⟩⟩
  .have c:¬(if W>le then W else le)>9:=c
   rw[aj (by show max le W<=9;split at c<;>omega)] at hdg;refine⟨rfl,_,⟨.aG le W l o,rfl,show max l.deep o.deep+1<8 by omega,rfl⟩,λGz Cm=>?_⟩;refine cD (λc2=>?_) (λc2=>?_)
   .have c2:((max l.deep o.deep+1:Nat):Int)>5:=c2
    rw[ai (by omega)] at hdg;exact⟨show 2<=sizeLine by decide,fin _ _ ⟨dY 7,rfl,zg.gr Cm,hdg,.inr ⟨7,rfl⟩⟩⟩
   .have c2:¬((max l.deep o.deep+1:Nat):Int)>5:=c2
    rw[aj (by omega)] at hdg;exact fin _ _ ⟨_,rfl,zg.gr Cm,hdg,.inl ⟨rfl,by split at c<;>omega,by split at c<;>omega,by omega⟩⟩
end My
namespace L2
theorem tD{K:Frag}{h:Heap}{mg:au}{x:Str}{st:Stmt}{ps:List Str}{f:Addr}{g:Value}{i an:Option Addr}{e:Array (Option Value)}{kV doc pm b ct:Value}(X:K.In h)(G:h.Ns mainGlobals mg)
  (a:nsIn K mainGlobals x=some (some (.ref f)):=by k_is)(l:K.lookup f=some ⟨g,i,.func (fnOf x x (j5 st) (fC st) (aE st) .none kV doc pm an b ct),e⟩:=by k_is)(c:codeIn K b x=true:=by k_is)(k:keepIn K (.ref f)=true:=by k_is)
  (j:∀(kV doc pm:Value) (an:Option Addr) (b ct:Value) (d:List Value),d.length=ps.length->bindArgs (fnOf x x (j5 st) (fC st) (aE st) .none kV doc pm an b ct) ⟨d,[]⟩=pure (ps.zip d):=by(intro _ _ _ _ _ _ d m;rcases d with _|⟨_,_|⟨_,_|⟨_,_|⟨_,_|⟨_,_|⟨_,_⟩⟩⟩⟩⟩⟩<;>first|rfl|(simp at m))):TopD K mg x st ps:=
 ⟨f,_,xJ l c k,(xJ l c k).binds j,mg_of X G a⟩
theorem bN{K:Frag}{h:Heap}{mg:au}{x:Str}(X:K.In h)(G:h.Ns mainGlobals mg)(a:nsIn K mainGlobals x=some none:=by k_is):mg x=none:=PySem.W.mg_none_of X G a
theorem eX{K:Frag}{h:Heap}{mg:au}{x:Str}{v:Value}(X:K.In h)(G:h.Ns mainGlobals mg)(a:nsIn K mainGlobals x=some (some v):=by k_is):mg x=some v:=mg_of X G a
theorem Iq{K:Frag}{C:Addr}{a:List Value}{newId:String}(q:excIn K C a newId=true):(PySem.W.clsIn K C).isSome=true:=by
 unfold excIn at q;split at q
 .rename_i b
  unfold PySem.W.clsIn;rw[b];rfl
 .cases q
theorem xB{K:Frag}{h:Heap}{mg:au}{x:Str}{e:Addr}(X:K.In h)(m:mg x=some (.ref e))(h1:findIn K (.ref e) "__getattribute__"=some (some (.builtin "BaseException.__getattribute__")):=by k_is)(h2:findIn K (.ref e) "__getattr__"=some none:=by k_is)
 (h3:findIn K (.ref e) "__class__"=some (some (.builtin "object.__class__")):=by k_is)(a:specialIn K (.builtin "object.__class__") "__get__"=some (some (.builtin "getset_descriptor.__get__")):=by k_is)(b:takesIn K (.builtin "object.__class__")=some true:=by k_is)
 (c:mroIn K e (.type "object")=some true:=by k_is)(d:mroIn K e (.type "BaseException")=some true:=by k_is)(x:excIn K e iD "ValueError.__new__"=true:=by k_exc):k7 K e:=⟨h1,h2,h3,a,b,c,d,Iq x⟩
end L2
namespace My
open L2 DP MA
theorem walk{l:PySem.W.OpenLaw}{q:Program}{loose:List Str}{i:(au)->Heap->Prop}{c:World->Heap->Prop}{d:DefRec}{K:Params->Frag}(hn:l.most=some 63)(b:d.params.defaults=[])(j:∀p,(K p).all (λp=>lM p.2)=true)
  (m:∀(w:World) (h:Heap),c w h->(K w.params).In h)
  (F:∀(w:World) (mg:au) (g:Addr) (h:Heap),(K w.params).In h->h.Ns mainGlobals mg->mg d.name=some (.ref g)->
   ∃fd:FuncData,(∀(s:Shared) (u:Value),BindsTo s fd ⟨[u],[]⟩ [("_law_script",u)])/\∀base:Heap,(K w.params).In base->base.Ns mainGlobals mg->fL l.prog w (K w.params) mg base (bu l.prog w) 20 g fd ["_law_script"] nU):
  PySem.W.WalkO q loose i c l.row.toRowW d [] (λf vs=>PySem.call f vs):=
 L2.Tu (n:=63) (k:=20) (x:="_law_script") (CX:=λw=>bu l.prog w) (sp:=λ_=>nU) hn (by decide) b ⟨rfl,by decide,by decide⟩ m F (λw H a ns _ o r=>Lk (j w.params) o r) λw H s e s' z=>by
  obtain⟨_,_,_,_,_,z⟩:=z
  exact z
theorem MW{P:Program}{w:World}{K:Frag}{h:Heap}{mg:au}{o j:Addr}{k b:Option Addr}{l:Array (Option Value)}{m c d g a i:Value}(X:K.In h)(G:h.Ns mainGlobals mg)(n:mg "law"=some (.ref o))
  (p:nsIn K mainGlobals "law"=some (some (.ref j)))(q:K.lookup j=some ⟨m,k,.func (fnOf "law" "law" (j5 jK) (fC jK) (aE jK) .none c d g b a i),l⟩)(r:codeIn K a "law"=true)(k3:keepIn K (.ref j)=true)
  (go:∀(base:Heap) {f:Addr} {fd:FuncData},jt K "law" "law" jK f fd->fL P w K mg base (bu P w) 20 f fd yx nU):
  ∃fd:FuncData,(∀(s:Shared) (v:Value),BindsTo s fd ⟨[v],[]⟩ [("_law_script",v)])/\∀base:Heap,K.In base->base.Ns mainGlobals mg->fL P w K mg base (bu P w) 20 o fd ["_law_script"] nU:=by
 have e:=n.symm.trans (mg_of X G p)
 cases e
 exact⟨fnOf "law" "law" (j5 jK) (fC jK) (aE jK) .none c d g b a i,λs v=> .of_eq rfl,λbase _ _=>go base (xJ q r k3)⟩
end My
end
open PySem PySem.W PyProof.Rows
set_option maxHeartbeats 0
structure PySem.W.Fast:Prop where (tw6381214361051813054 tw861502493610598483 tw854247580281644437 tw7774113678449685934 tw11742634823869466090 tw705470853714331063 tw13519031799517361783 tw15251899222009183613 tw771822569319705768 tw17604482065379873290 tw17029562028150658980 tw14746253646979254834 tw14993981098963755598 tw14404928986312190071 tw17724038513149304489 tw1478030337931831861 tw18146532975450069615 tw2786648768249225349 tw6512149657230936976 tw16902440903046159558 tw15163409612377130007 tw1142673529048489019 tw977512076041815475 tw17653592248189364939 tw7485256538410118956 tw209982475168477708 tw2466311954974566718 tw11962351593759143498 tw9848817304349107530 tw6968137755033780318 tw13114645530532618160 tw8080008513338510535 tw14391293386007564604 tw13956191218907399338 tw12843764043397292189 tw726351398001015727 tw3681537716864247207 tw15173544498738437827 tw16756451883985382160 tw4804111812005502284 tw9784134513789038367 tw12903330217458380548 tw2135409205425526673 tw3475869608268796686 tw13946496683202179788 tw15861351967447197489 tw15779231459743154856 tw17590705303994421779 tw10159399881129095643 tw8285278889055680438 tw1205274952441263945 tw8159993647027272844 tw9950792792127014553 tw12670982853097334264 tw6427576097997697322 tw2080317491765294665 tw9806118890596472461 tw1725486776273817318 tw5344687154915797982 tw2741014181512449073 tw14611616552423853409 tw14903569129155370506 tw14226173905949225808 tw1840220198017710270 tw4493901809537577575 tw7480016910919988345 tw4171853373547519906 tw5994696166404524948 tw16728255500844073214 tw5217270863462422736 tw14537775516033599862 tw9387514328989991554 tw18073898193381586223 tw13034982811429478159 tw4309217394794523951 tw3300257896294614128 tw2595585439558603231 tw10295913840692754127 tw561727478393794602 tw4859391219904099992 tw11384182702204212275 tw1070438729232803039 tw9536688357841153863 tw3374319085511977134 tw14170518179582410385 tw4480162626587320490 tw1972164579936704799 tw6030501089693204938 tw6557801498797044033 tw15685335758407661847 tw15433366417846715934 tw1719895430356276633 tw16248296213531012650 tw2474200967059427378 tw547895379624588593 tw13855379610559885079 tw6148498323302512570 tw17817366049700826239 tw14689541978594310382 tw15805137534098808535 tw12960429369202013873 tw10698057553749749337 tw8157277791214410489 tw14664691819916384248 tw15254633091992210921 tw10042083083395451092 tw4906484309439969231 tw10910644110388302437 tw9404705873571188630 tw6858818405166986180 tw6105849179199505303 tw4734895289157585001 tw10624116801336726872 tw17214186515701724070 tw3419001889969749887 tw16723463757517087524 tw16279288168775177219 tw14842496431369740429 tw6356304189028158447 tw10510056951384868246 tw3300454383303005205 tw2483420100392427323 tw446995266069924076 tw4849480874435393781 tw6229817132586351632 tw3382625519597670723 tw2789304352393801511 tw2646887283097553488 tw2261719852989239553 tw18157406047293677543 tw14904681115217272601 tw13135312941875745310 tw140001813534094272 tw2107523057676978006 tw8739830900816887780 tw5101696844757716304 tw4075453323654395381 tw11898673842065290130 tw9860861378791804195 tw14424681132571578402 tw16864618592142003386 tw14935467056822913822 tw3239113980409921550 tw3543459598558145280 tw8733291241859026926 tw87601786513091389 tw11564986514327137767 tw12382822922155266910 tw2941924889016668590 tw4323258101793500111 tw8997383693586321770 tw896878414759379649 tw2827255003249426055 tw2931988195819169919 tw15227483606004533461 tw11266997524610791606 tw5622701340561072331 tw1467881925912835984 tw140236481695663071 tw740290905518256060 tw16682895059504647277 tw5000232492035539693 tw14387916025512776202 tw991626836265849350 tw1864683662541468164 tw16120054744476736488 tw6056707288978253535 tw3721919958574915784 tw13055953723892786844 tw6162269159774324313 tw11662115353561507501 tw10741264400317747893 tw3919386906821981792 tw772564365185477556 tw3778530596728393105 tw13547939009206843870 tw855453113358079251 tw9879335643197240621 tw3049343062529576306 tw15925456577456769635 tw2244103112122482387 tw9331231397406362311 tw14520296925931582552 tw5323657890516693427 tw9689729476882780088 tw14022695629967993375 tw13160504802963445071 tw10879749546641988924 tw4699756791338806529 tw2694234056635809718 tw11024694936033576346 tw10519837036962490867 tw8002303944043701648 tw9592521066531166775 tw6420159726195949164 tw13769103115541136327 tw10826640976665885199 tw13444670453868202053 tw9402243437249704421 tw7867829370405329436 tw16053306600634468012 tw8972062959192195235 tw2692750590507578028 tw10016166984437732892 tw4953865588907285216 tw4189273013823423559 tw9116068151291705539 tw13622603851894308203 tw13810262117814702294 tw14243238205550065757 tw6128145076113358165 tw11853640710764476214 tw16615150188913437886 tw13053770412826190925 tw4547051000311932777 tw16766683885213920930 tw13913613514976480042 tw9582823730064241283 tw15528221797031607849 tw938635154573522699 tw18437792190763421558 tw13469501207593853456 tw9464783005390448368 tw17744993626210230056 tw10341888390210383824 tw5002640475654186023 tw1915925776726481438 tw17435391645217708394 tw9456574344343218679 tw896239598344801917 tw8912161614967838395 tw5438652380644606353 tw4635989785427082552 tw3985964047577975286 tw16409965706819354750 tw13757698761724263525 tw12772213712371865176 tw6278996535519779258 tw14958820412457663293 tw17464319187374939960 tw12297992134047619483 tw17062427158221528723 tw1532491051758110099 tw15570361095968736674 tw643336161829623379 tw9947508896943372755 tw15240619367488684849 tw10374632558016547081 tw2228412568605170491 tw12269216009862288129 tw12099505692703838030 tw4548300405975405348 tw447263597446747957 tw16822532161544500889 tw11066385474520676512 tw8219003486749837733 tw8047209995159408440 tw7424060955962978353 tw5449601097390414333 tw3641951560692057861 tw3042748168174471775 tw17760279517084355780 tw14782755387869428366 tw11401859456886640639 tw6953138203311097117 tw8949853181751564097 tw8899516883271353254 tw7476452910721959123 tw4562827626845409882 tw2400638427578300857 tw17292613610259460706 tw17187875760726034783 tw12727641955093265886 tw10294118229990073760 tw4077048163395320219 tw9977182230042388008 tw5702276774652866934 tw3235425350174046738 tw2353497105660221152 tw18101783494082082527 tw17351735930882485243 tw16670775579421159206 tw11429584451438056573 tw9495317472360511255 tw7086961617601330827 tw5498123283257192965 tw2187251505897268136 tw2144661209622563809 tw16955839230299176341 tw11766667032028208565 tw11421057715548341654 tw10792498714594961201 tw9919008367099125623 tw9796564346219866840 tw9615563845995560447 tw866717566613908145 tw8535803893964050539 tw8431482922422412695 tw8422229294311615681 tw8374155422468719031 tw8186657734068701312 tw8171798328758944481 tw8060666987683057360 tw7217548393331319763 tw6822071536725586909 tw6549852094080907030 tw6548459193220583526 tw6522051377940421278 tw6472337539984862722 tw6469784823511061222 tw6170744672141170255 tw615563214671542189 tw5832305185047221409 tw5667099127317398114 tw5459702643516471331 tw539538531456391632 tw4684226298888400098 tw4683681711962371626 tw4436474186459923750 tw384561282630992784 tw3308634892276815127 tw3215387988796971590 tw2950685276103557050 tw28018229315631829 tw2455152089536381482 tw2358075552688931204 tw2314633323536394700 tw2295934692909999376 tw2259672571474061568 tw1979317910248211280 tw1956775160557780875 tw1950803216711332702 tw18418582437962087742 tw18293242582946804979 tw1825952489489211193 tw17613222154834848340 tw17518593693041627797 tw17483705464198625004 tw17338325484393633139 tw17318462890700432884 tw1717767836212652739 tw17170472223608059050 tw17013487888433625170 tw16654469307462801742 tw16636501806038632012 tw16203965252921439515 tw1599053048872161195 tw15752536640612570366 tw15621415185263527259 tw15590096980072825465 tw15402603294489630176 tw15401437161963490237 tw15235614512728720 tw15127105006835628225 tw15042883488752021643 tw14963028359598502718 tw1495895850433845275 tw14827714588952709054 tw14760874974797668852 tw14727194681476072466 tw14564479935002850509 tw14172470266813156586 tw13953587524928339648 tw1383625962624193546 tw13812277999558781770 tw13674586047789940208 tw13462424878891718212 tw13437419889732721216 tw13421457143807847188 tw1342123614928995077 tw12770481643036789091 tw12652081859355081885 tw12488014758255163090 tw12459912946257978736 tw12431713363859531893 tw12408111787983249662 tw1207101557538958131 tw11907897558876765624 tw11823594873375168262 tw11738243743197964597 tw11692469974320434101 tw11373181179767321252 tw10842938092177581297 tw10551173667578312727 tw10258873121960336067:True)
open L2 DP MA My
open_top hd for PySem.Challenge.rw_hangstill_k06_whole_hung
theorem PySem.Challenge.cw_hangstill_k06_whole_hung_holds : PySem.Challenge.rw_hangstill_k06_whole_hung.Holds := by
 refine hd ?_;k_fill;refine My.walk (l:=PySem.Challenge.rw_hangstill_k06_whole_hung) rfl rfl ?K (λw h Y=>PySem.W.kIn_of Y) ?F;case K=>exact λp=>(Eq.refl true:true=true)
 case F=>
  intro w mg fa h KX G hmg;refine' My.MW KX G hmg ?aL ?lL ?cL ?kL ?LA;(case aL=>k_is);(case lL=>k_is);(case cL=>k_is);(case kL=>k_is);case LA=>
   intro base f fd T;have Nk:mg "HangError"=some _:=eX KX G;have Dw:mg "NoMobile"=some _:=eX KX G;have Nl:mg "NoHall"=some _:=eX KX G;have fF:mg "NoWeights"=some _:=eX KX G;have Np:mg "NoWay"=some _:=eX KX G;have Nn:mg "NoNumber"=some _:=eX KX G;have Dv:mg "Never"=some _:=eX KX G;have gw:mg "TooLong"=some _:=eX KX G;have gv:mg "TooDeep"=some _:=eX KX G;have jM:=xB KX fF;have jO:=xB KX gw;have jN:=xB KX gv;have Aa:=KD (P:=PySem.Challenge.rw_hangstill_k06_whole_hung.prog) (w:=w) (base:=base) (tD KX G) (bN KX G) (bN KX G) (bN KX G);have z_:=KC (P:=PySem.Challenge.rw_hangstill_k06_whole_hung.prog) (w:=w) (base:=base) (tD KX G) (bN KX G) (bN KX G) (bN KX G) (bN KX G) (eX KX G);have GS:=Kz (tD KX G) (bN KX G) (bN KX G) (bN KX G) (bN KX G) (eX KX G) z_ Aa 6;have GR:=KA (tD KX G) (eX KX G) GS;have rN:=Ks (tD KX G) Dw (by k_exc) GR;have G3:=KW (tD KX G) (bN KX G) (bN KX G) (bN KX G) (eX KX G) z_ Aa;have GU:=KG (tD KX G) (bN KX G) (bN KX G) (bN KX G) (bN KX G) (bN KX G) G3;have vY:=KI (P:=PySem.Challenge.rw_hangstill_k06_whole_hung.prog) (w:=w) (base:=base) (tD KX G) 8;have vZ:=KN (tD KX G) (bN KX G) vY;have GK:=Kq (tD KX G) fF (by k_exc) GU;have z8:=Ku (tD KX G) (bN KX G) fF (by k_exc) GK vY;have G6:=Km (P:=PySem.Challenge.rw_hangstill_k06_whole_hung.prog) (w:=w) (base:=base) (tD KX G) (bN KX G) (bN KX G) (bN KX G);have G2:=Kh (P:=PySem.Challenge.rw_hangstill_k06_whole_hung.prog) (w:=w) (base:=base) (tD KX G) (bN KX G) (bN KX G) (bN KX G) (bN KX G) (eX KX G);have G4:=Kl (tD KX G) (bN KX G) (bN KX G) (bN KX G) (eX KX G) G2 G6;have GV:=Kg (tD KX G) (bN KX G) (bN KX G) (bN KX G) (bN KX G) (bN KX G) G4;have GL:=Kd (tD KX G) fF (by k_exc) GV;have GO:=Ke (tD KX G) (bN KX G) fF (by k_exc) GL vY;have G9:=K3 (P:=PySem.Challenge.rw_hangstill_k06_whole_hung.prog) (w:=w) (base:=base) (tD KX G) (bN KX G) 7;have z9:=Ky (P:=PySem.Challenge.rw_hangstill_k06_whole_hung.prog) (w:=w) (base:=base) (tD KX G);have Ac:=K2 (tD KX G) z9;have G_:=K4 (tD KX G) Ac vZ;have Hg:=K7 (tD KX G) (bN KX G) (eX KX G) gw (by k_exc) G_;have GQ:=Kf (tD KX G) (bN KX G) (eX KX G) gv (by k_exc) rN GO Hg G9;have G7:=K0 (tD KX G) Ac;have Hf:=K6 (tD KX G) G7 6;have Ad:=K5 (tD KX G) rN Hf;have GJ:=Kp (tD KX G) Ad;have GZ:=KR (tD KX G) z9;have G5:=KY (tD KX G) (bN KX G) Ad;have G0:=KS (tD KX G) (bN KX G) (bN KX G) (bN KX G) GZ;have GX:=KL (tD KX G) Dv (by k_exc) GJ G5 G0;have G8:=K1 (tD KX G) vZ;have Hi:=K9 (tD KX G) G8 6;have Hj:=K_ (tD KX G) (bN KX G) rN z8 Hi;have Hh:=K8 (tD KX G) Hj;have GY:=KQ (tD KX G) (bN KX G) rN z8 vZ;have GN:=Kr (P:=PySem.Challenge.rw_hangstill_k06_whole_hung.prog) (w:=w) (base:=base) (tD KX G) (bN KX G);have G1:=KU (tD KX G) GN;have vX:=Kw (tD KX G) (bN KX G) G1;have Ab:=KZ (tD KX G) (bN KX G) vX;have Hl:=La (tD KX G) (bN KX G) (bN KX G) vX Ab 6;have GW:=KJ (P:=PySem.Challenge.rw_hangstill_k06_whole_hung.prog) (w:=w) (base:=base) (tD KX G);have GP:=Kv (P:=PySem.Challenge.rw_hangstill_k06_whole_hung.prog) (w:=w) (base:=base) (tD KX G) (bN KX G) 8;have GH:=Kn (P:=PySem.Challenge.rw_hangstill_k06_whole_hung.prog) (w:=w) (base:=base) (tD KX G) 7;have Ho:=Lb (P:=PySem.Challenge.rw_hangstill_k06_whole_hung.prog) (w:=w) (base:=base) (tD KX G) (bN KX G) (bN KX G) Dw Nl fF Np Nn Dv gw gv (aZ.cons fF jM (by kit_is) (aZ.cons gw jO (by kit_is) (aZ.cons gv jN (by kit_is) aZ.nil))) (aZ.cons fF jM (by kit_is) (aZ.cons gw jO (by kit_is) (aZ.cons gv jN (by kit_is) aZ.nil))) (aZ.cons fF jM (by kit_is) (aZ.cons gw jO (by kit_is) (aZ.cons gv jN (by kit_is) aZ.nil))) (aZ.cons fF jM (by kit_is) (aZ.cons gw jO (by kit_is) (aZ.cons gv jN (by kit_is) aZ.nil))) (aZ.cons fF jM (by kit_is) (aZ.cons gw jO (by kit_is) (aZ.cons gv jN (by kit_is) aZ.nil))) (aZ.cons fF jM (by kit_is) (aZ.cons gw jO (by kit_is) (aZ.cons gv jN (by kit_is) aZ.nil))) (aZ.cons fF jM (by kit_is) (aZ.cons gw jO (by kit_is) (aZ.cons gv jN (by kit_is) aZ.nil))) (aZ.cons fF jM (by kit_is) (aZ.cons gw jO (by kit_is) (aZ.cons gv jN (by kit_is) aZ.nil))) (aZ.cons fF jM (by kit_is) (aZ.cons gw jO (by kit_is) (aZ.cons gv jN (by kit_is) aZ.nil)));have GI:=Ko (tD KX G) Nk fF gw gv (by kts_exm) (by kts_exm) (by kts_exm) GQ Ho;exact(KH T (bN KX G) (bN KX G) (bN KX G) (bN KX G) (bN KX G) (bN KX G) (bN KX G) (bN KX G) (bN KX G) vX Ab Hl GH GW GP GI GX GY Hh).imp λvs H Q E h=>RT h
