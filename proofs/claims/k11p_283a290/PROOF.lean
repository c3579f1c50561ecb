import PyProof.Rows.All
import Wide.All
import OpenK.AllK
import Wide.FinOn
import Lean
import PyProof.EqAt
import PyProof.EqKinds
import PyProof.NeKinds
import PyProof.TupleCall
import PyProof.ZipIter
import PyProof.ListNew
import PyProof.P3Eq
import PyProof.NeData
import PyProof.EnumFor
import PyProof.EnumMake
import PyProof.ExcBaseAll.ValueError
import PyProof.Rows.SetFrom
import PyProof.CollectWalk
import PyProof.SumWalk
import PyProof.FString
import KE.KDictOf
import PyProof.AttrMissHeap
import PyProof.TupleOfGen
import KE.KDictSum
import PyProof.ConsumeS
import PyProof.P3In
import PyProof.Rows.RuleN_abs
import PyProof.Rows.FactsN_abs
import PyProof.StrBlockI
import PyProof.SliceStr2
import PyProof.Rows.StrClose
import PyProof.FactsAll.tuple_2
import PyProof.MinMaxWalk
import PyProof.WalksMore
import PyProof.Rows.RowHeap
import PyProof.DictWalks
import KE.KSortTup
import PyProof.Rows.ListMul
import PyProof.ListRange
import PyProof.TupleOfStr
import KE.KRevSl
import KE.KDictList
import KE.KIntText
import PyProof.ReprStr
import KE.KRevIter
import PyProof.DictUpdate
import PyProof.StrOps
import KE.KEqDict
import KE.IntBitsLaws
import PySem.Challenge.RW_hangstill_k11_told_anew
import KE.RegKIsAll
import KE.RegKTryMore
set_option Elab.async false
set_option linter.all false
set_option maxRecDepth 100000
set_option maxHeartbeats 4000000
open PySem.Heap (DictOf ExtBut FlyingW SameBut get?_push_ne)
open Option (getD_none getD_some isSome_map map_some)
open PySem.W (Frag Looks callWith_K codeIn excIn exmOne findIn fnOf hideAll hideAll_get instObj keepIn kitOne kitx_dict kitx_list kitx_tuple lookIn methodObj mg_of nsIn of_hideAll plainGet)
open Nat (lt_trans succ_pos zero_add)
open List (Pairwise Perm all_cons append_assoc find?_append find?_some forIn_cons forIn_nil length_nil length_range map_id map_nil mem_filter mem_range not_lt range range_succ replicate reverse_cons set_set take_length)
open Array (toArray_toList toList)
open Bool (or_eq_true)
open Int (add_comm dvd_trans emod_nonneg one_mul pow_nonneg)
open PySem.F (args_tuple_add_2 called_tuple entry_tuple_add slot_dict_update slot_tuple_add)
open PySem.PyData (canLay0 canLayAll0 depthAll eqvAll strOk)
abbrev nG:= @_root_.PyProof.Rows.callWith_type1
abbrev iC:= @_root_.PySem.F.slot_list_append
abbrev AU:= @_root_.PySem.F.slot_list_getattribute
abbrev AV:= @_root_.PySem.F.slot_tuple_getattribute
abbrev iG:= @_root_.PySem.F.type_list_append
abbrev Bc:= @_root_.PySem.SeqAt.eqv_refl
abbrev jg:= @_root_.PySem.Around.under_plainId
abbrev gj:= @_root_.Array.getElem?_eq_getElem
abbrev qg:= @_root_.Array.getElem?_eq_none
abbrev xx:= @_root_.Array.getElem?_eq_some_iff
abbrev wQ:= @_root_.Bool.and_false
abbrev nH:= @_root_.Bool.eq_iff_iff
abbrev bZ:= @_root_.Bool.false_ne_true
abbrev wV:= @_root_.Bool.true_and
abbrev AM:= @_root_.PySem.Calls.callWith_builtin
abbrev AN:= @_root_.PySem.Calls.call_function_entry
abbrev AO:= @_root_.PySem.Calls.evalArgs_plain
abbrev wY:= @_root_.PySem.Calls.spliced_cons
abbrev AQ:= @_root_.Classical.choose_spec
abbrev AR:= @_root_.PyProof.Rows.F.plain_set_update_loop
abbrev xj:= @_root_.PySem.F.slot_zip_next
abbrev xm:= @_root_.Int.emod_lt_of_pos
abbrev dO:= @_root_.Int.le_of_lt
abbrev dZ:= @_root_.Int.le_trans
abbrev xo:= @_root_.Int.lt_of_lt_of_le
abbrev nM:= @_root_.Int.mul_le_mul_of_nonneg_left
abbrev xq:= @_root_.Int.mul_le_mul_of_nonneg_right
abbrev kg:= @_root_.Int.ne_of_gt
abbrev tu:= @_root_.PyProof.Rows.KeyOrd.kle_of_klt
abbrev nN:= @_root_.PyProof.Rows.KeyOrd.kle_refl
abbrev nO:= @_root_.PyProof.Rows.KeyOrd.kle_trans
abbrev xr:= @_root_.List.eraseIdx_eq_take_drop_succ
abbrev AW:= @_root_.List.filterMap_cons
abbrev AX:= @_root_.List.getElem?_cons_succ
abbrev b8:= @_root_.List.getElem?_eq_some_iff
abbrev AY:= @_root_.List.getElem?_zipIdx
abbrev AZ:= @_root_.List.length_erase_of_mem
abbrev A9:= @_root_.List.length_pos_of_mem
abbrev A_:= @_root_.List.length_reverse
abbrev kh:= @_root_.List.lt_irrefl
abbrev xu:= @_root_.List.lt_trans
abbrev Ba:= @_root_.List.mem_erase_of_ne
abbrev tE:= @_root_.List.mem_zipIdx_iff_getElem?
abbrev k_:= @_root_.PySem.Obj.data_mapFields
abbrev Bb:= @_root_.PySem.Obj.isFreed_of_fields
abbrev gD:= @_root_.PySem.boot_len
abbrev nP:= @_root_.PySem.mem_of_lookup
abbrev tF:= @_root_.Rat.div_def
abbrev nQ:= @_root_.Rat.intCast_mul
abbrev nR:= @_root_.Rat.mul_pos
abbrev tG:= @_root_.List.all_eq_true
abbrev dP:= @_root_.Bool.and_eq_true
abbrev nS:= @_root_.List.any_cons
abbrev mu:= @_root_.List.any_eq_true
abbrev lg:= @_root_.List.append_nil
abbrev mw:= @_root_.bne_self_eq_false
abbrev qb:= @_root_.PyProof.Rows.boot_dict
abbrev mz:= @_root_.PyProof.Rows.boot_tuple
abbrev nU:= @_root_.PySem.builtinLookup_eq_fast
abbrev nV:= @_root_.PySem.call_meets
abbrev mC:= @_root_.PySem.F.called_set
abbrev iU:= @_root_.PySem.codeAny_builtin
abbrev nW:= @_root_.PySem.codeAny_mono
abbrev cS:= @_root_.congrArg
abbrev d7:= @_root_.decide_eq_false
abbrev Bd:= @_root_.decide_eq_false_iff_not
abbrev dg:= @_root_.decide_eq_true
abbrev iH:= @_root_.decide_eq_true_eq
abbrev lu:= @_root_.List.drop_eq_getElem_cons
abbrev qc:= @_root_.List.drop_eq_nil_of_le
abbrev qd:= @_root_.Int.ediv_le_self
abbrev qe:= @_root_.List.ext_getElem?
abbrev jh:= @_root_.Bool.false_eq_true
abbrev mD:= @_root_.List.find?_cons
abbrev tH:= @_root_.List.find?_eq_none
abbrev xw:= @_root_.PySem.fits_of_scanBound
abbrev qf:= @_root_.List.flatMap_append
abbrev nX:= @_root_.List.flatMap_cons
abbrev nY:= @_root_.List.foldl_append
abbrev ji:= @_root_.List.foldl_cons
abbrev bw:= @_root_.PySem.Heap.get?_push_of_some
abbrev cA:= @_root_.PySem.Heap.get?_push_size
abbrev qh:= @_root_.PySem.Heap.get?_update_other
abbrev ki:= @_root_.PySem.Heap.get?_update_self
abbrev mE:= @_root_.Array.getD_eq_getD_getElem?
abbrev gk:= @_root_.List.getD_eq_getElem?_getD
abbrev iI:= @_root_.List.getElem?_append_left
abbrev tK:= @_root_.List.getElem?_append_right
abbrev br:= @_root_.List.getElem?_eq_getElem
abbrev nZ:= @_root_.List.getElem?_eq_none
abbrev bW:= @_root_.List.getElem?_map
abbrev dI:= @_root_.List.getElem?_set_ne
abbrev dJ:= @_root_.List.getElem?_set_self
abbrev n9:= @_root_.Array.getElem?_toList
abbrev lz:= @_root_.List.getElem_mem
abbrev qi:= @_root_.List.getElem_of_mem
abbrev gm:= @_root_.if_false
abbrev ay:= @_root_.if_neg
abbrev av:= @_root_.if_pos
abbrev mF:= @_root_.if_true
abbrev pS:= @_root_.Option.isSome_iff_exists
abbrev iT:= @_root_.PySem.W.kia_one
abbrev pT:= @_root_.Nat.le_add_right
abbrev pU:= @_root_.Nat.le_max_left
abbrev pV:= @_root_.Nat.le_max_right
abbrev jB:= @_root_.Nat.le_of_lt
abbrev aF:= @_root_.Nat.le_refl
abbrev lW:= @_root_.Nat.le_succ
abbrev cR:= @_root_.Nat.le_trans
abbrev dH:= @_root_.List.length_append
abbrev gC:= @_root_.List.length_cons
abbrev aP:= @_root_.List.length_map
abbrev wR:= @_root_.List.length_pos_iff
abbrev lX:= @_root_.List.length_take
abbrev gW:= @_root_.Array.length_toList
abbrev wU:= @_root_.List.length_zipIdx
abbrev iD:= @_root_.List.lookup_cons
abbrev fS:= @_root_.Nat.lt_irrefl
abbrev sQ:= @_root_.Int.lt_of_le_of_lt
abbrev cJ:= @_root_.Nat.lt_of_lt_of_le
abbrev aT:= @_root_.PySem.Heap.lt_size
abbrev gX:= @_root_.Nat.lt_succ_of_lt
abbrev lY:= @_root_.Nat.lt_succ_self
abbrev eB:= @_root_.List.map_append
abbrev sR:= @_root_.List.map_congr_left
abbrev cg:= @_root_.List.map_cons
abbrev bR:= @_root_.List.map_map
abbrev bV:= @_root_.List.mem_append
abbrev kW:= @_root_.List.mem_append_left
abbrev iE:= @_root_.List.mem_append_right
abbrev aY:= @_root_.List.mem_cons
abbrev aZ:= @_root_.List.mem_cons_of_mem
abbrev bh:= @_root_.List.mem_cons_self
abbrev sS:= @_root_.List.mem_filterMap
abbrev gY:= @_root_.List.mem_flatMap
abbrev aX:= @_root_.List.mem_map
abbrev eE:= @_root_.List.mem_map_of_mem
abbrev kX:= @_root_.List.mem_of_find?_eq_some
abbrev dc:= @_root_.List.mem_of_getElem?
abbrev pW:= @_root_.List.mem_of_mem_take
abbrev bM:= @_root_.List.mem_singleton
abbrev nI:= @_root_.Int.mul_assoc
abbrev lZ:= @_root_.Int.mul_comm
abbrev ee:= @_root_.Int.mul_le_mul
abbrev pX:= @_root_.Int.mul_nonneg
abbrev fu:= @_root_.Int.mul_pos
abbrev sU:= @_root_.Int.natCast_pow
abbrev kY:= @_root_.Nat.ne_of_gt
abbrev bE:= @_root_.Nat.ne_of_lt
abbrev gc:= @_root_.List.nil_append
abbrev l9:= @_root_.List.nodup_append
abbrev j9:= @_root_.List.nodup_cons
abbrev l_:= @_root_.List.nodup_nil
abbrev sV:= @_root_.Bool.not_eq_true'
abbrev gf:= @_root_.List.not_mem_nil
abbrev iF:= @_root_.of_decide_eq_true
abbrev pY:= @_root_.List.of_mem_zip
abbrev gh:= @_root_.or_false
abbrev jC:= @_root_.List.pairwise_cons
abbrev kZ:= @_root_.List.pairwise_map
abbrev fy:= @_root_.PySem.F.plainAttrs_list
abbrev jD:= @_root_.PySem.plainId_quiet
abbrev sW:= @_root_.PySem.F.plain_extend_loop
abbrev wW:= @_root_.PySem.F.plain_list_iadd
abbrev e9:= @_root_.Nat.pow_le_pow_right
abbrev j_:= @_root_.Int.pow_succ
abbrev wX:= @_root_.List.set_append_left
abbrev kc:= @_root_.PySem.sizeLine_eq
abbrev mh:= @_root_.Array.size_append
abbrev gi:= @_root_.PySem.Heap.size_push
abbrev b6:= @_root_.List.size_toArray
abbrev pZ:= @_root_.PySem.Heap.size_update
abbrev sX:= @_root_.PySem.F.slot_list_extend
abbrev sY:= @_root_.List.take_of_length_le
abbrev p5:= @_root_.List.take_succ
abbrev p6:= @_root_.Int.toNat_natCast
abbrev wZ:= @_root_.PySem.tupleKind_room_in1
abbrev nJ:= @_root_.PySem.typeLookup_type
abbrev w4:= @_root_.PySem.F.type_list_extend
abbrev mj:= @_root_.PySem.wpAny_Call_Name_kw
abbrev p7:= @_root_.PySem.wpAny_attempt
abbrev ah:= @_root_.PySem.wpAny_bind
abbrev p8:= @_root_.PySem.wpAny_callSpecial?_slot
abbrev jE:= @_root_.PySem.wpAny_call_entry
abbrev sZ:= @_root_.PySem.wpAny_execs_nil
abbrev mq:= @_root_.PySem.wpAny_field
abbrev w9:= @_root_.PySem.wpAny_fieldsOf
abbrev gZ:= @_root_.PySem.wpAny_holding
abbrev w_:= @_root_.PySem.wpAny_isInstance
abbrev xg:= @_root_.PySem.wpAny_loadPart'
abbrev je:= @_root_.PySem.wpAny_mono
abbrev xh:= @_root_.PySem.wpAny_newList
abbrev jf:= @_root_.PySem.wpAny_newObj_type
abbrev AS:= @_root_.PySem.wpAny_nextOf_list_item
abbrev nK:= @_root_.PySem.wpAny_passesOwn
abbrev aG:= @_root_.PySem.wpAny_pure
abbrev p9:= @_root_.PySem.wpAny_pyIter_list
abbrev k8:= @_root_.PySem.wpAny_rule
abbrev s8:= @_root_.PySem.wpAny_seqItems
abbrev s9:= @_root_.PySem.wpAny_setEntries_of
abbrev p_:= @_root_.PySem.wpAny_setField
abbrev qa:= @_root_.PySem.wpAny_setState_of
abbrev k9:= @_root_.PySem.wpAny_truthy_bool
abbrev nL:= @_root_.PySem.wpAny_typeOf
abbrev s_:= @_root_.PySem.wpAny_updateSeq
abbrev bG:= @_root_.Nat.zero_le
section
open PySem
abbrev au:=Str->Option Value
abbrev aQ:=Value->Shared->Prop
abbrev aS:=List (Addr×Obj)
end
section
open PySem PySem.Spec PyProof.Rows
namespace L2
abbrev Key:=Sum Int Str
def kM:Key->Value->Bool
 |.inl k,v=>Value.isInt k v
 |.inr x,v=>Value.isStrOf x v
def Pq(w:World):Key->Int
 |.inl k=>hashInt k
 |.inr x=>hashStr w x
theorem ja:∀{k:Key} {v:Value},kM k v=true->(∃i t,k=Sum.inl i/\v=Value.int i t)\/(∃x t,k=Sum.inr x/\v=Value.str x t)
 |.inl i,v,h=>by
  obtain⟨t,e⟩:=Value.isInt_shape (k:=i) (v:=v) h;exact .inl ⟨i,t,rfl,e⟩
 |.inr x,v,h=>by
  obtain⟨t,e⟩:=Value.isStrOf_shape (x:=x) (v:=v) h;exact .inr ⟨x,t,rfl,e⟩
theorem Pr(i:Int)(t:Tok):kM (.inl i) (.int i t)=true:=by simp[kM,Value.isInt]
theorem Pu(x:Str)(t:Tok):kM (.inr x) (.str x t)=true:=by simp[kM,Value.isStrOf]
theorem Pw(a b:Int):decide ((Sum.inl a:Key)=Sum.inl b)=(a==b):=by
 by_cases e:a=b
 .subst e;simp
 .have h:¬(Sum.inl a:Key)=Sum.inl b:=λq=>e (Sum.inl.inj q)
  rw[d7 h];exact(beq_eq_false_iff_ne.mpr e).symm
theorem PB(a b:Str):decide ((Sum.inr a:Key)=Sum.inr b)=decide (a=b):=by
 by_cases e:a=b
 .subst e;simp
 .have h:¬(Sum.inr a:Key)=Sum.inr b:=λq=>e (Sum.inr.inj q)
  rw[d7 h,d7 e]
theorem Px(a:Int)(b:Str):decide ((Sum.inl a:Key)=Sum.inr b)=false:=d7 (λq=>nomatch q)
theorem Pz(a:Str)(b:Int):decide ((Sum.inr a:Key)=Sum.inl b)=false:=d7 (λq=>nomatch q)
def cP(prog:Program)(w:World):PySem.KeyKind prog w Key where
 is:=kM
 hash:=Pq w
 inj:=λv a b ha hb=>by
  rcases ja ha with⟨i,t,rfl,rfl⟩|⟨x,t,rfl,rfl⟩
  .rcases ja hb with⟨j,u,rfl,e⟩|⟨y,u,rfl,e⟩
   .injection e with e1 _;rw[e1]
   .exact nomatch e
  .rcases ja hb with⟨j,u,rfl,e⟩|⟨y,u,rfl,e⟩
   .exact nomatch e
   .injection e with e1 _;rw[e1]
 byValue:=λk v h=>by
  rcases ja h with⟨i,t,rfl,rfl⟩|⟨x,t,rfl,rfl⟩<;>rfl
 pyHash:=λhv h=>by
  rcases ja hv with⟨i,t,rfl,rfl⟩|⟨x,t,rfl,rfl⟩
  .exact wpAny_pyHash_int h
  .exact wpAny_pyHash_str h
 eqBool:=λhu hv h=>by
  rcases ja hu with⟨i,t,rfl,rfl⟩|⟨x,t,rfl,rfl⟩
  .rcases ja hv with⟨j,u,rfl,rfl⟩|⟨y,u,rfl,rfl⟩
   .rw[Pw] at h;exact wpAny_eqBool_int h
   .rw[Px] at h;exact SeqAt.EqAt.int_str i t y u _ _ _ _ h
  .rcases ja hv with⟨j,u,rfl,rfl⟩|⟨y,u,rfl,rfl⟩
   .rw[Pz] at h;exact SeqAt.EqAt.str_int x t j u _ _ _ _ h
   .rw[PB] at h;exact wpAny_eqBool_str h
 «strs»:=λk x t v h=>by
  rcases ja h with⟨i,u,rfl,e⟩|⟨y,u,rfl,e⟩
  .exact nomatch e
  .injection e with e1 _
   subst e1
   cases v<;>rfl
theorem Qs(prog:Program)(w:World)(i:Int)(t:Tok):(cP prog w).is (.inl i) (.int i t)=true:=Pr i t
theorem Qt(prog:Program)(w:World)(x:Str)(t:Tok):(cP prog w).is (.inr x) (.str x t)=true:=Pu x t
inductive V where
 |aC|bl (b:Bool)|int (i:Int)|str (x:Str)|iM (b:Array UInt8)|oS (b:UInt64)|ref (a:Addr)|ty (n:String)
 deriving DecidableEq
def RelV:V->Value->Prop
 |.aC,u=>u=Value.none
 |.bl b,u=>u=Value.bool b
 |.int i,u=>∃t,u=Value.int i t
 |.str x,u=>∃t,u=Value.str x t
 |.iM b,u=>∃t,u=Value.bytes b t
 |.oS b,u=>∃t,u=Value.float b t
 |.ref a,u=>u=Value.ref a
 |.ty n,u=>u=Value.type n
abbrev Vals:List V->List Value->Prop:=Paired RelV
theorem Vals.length{xs:List V}{a:List Value}(r:Vals xs a):xs.length=a.length:=Paired.length r
theorem Vals.get:∀{xs:List V} {a:List Value} {i:Nat} {x:V},Vals xs a->xs[i]?=some x->∃u,a[i]?=some u/\RelV x u
 |_,_,_,_,.nil,e=>by simp at e
 |_,_,0,_,.cons r _,e=>by simp at e;subst e;exact⟨_,rfl,r⟩
 |_,_,i+1,x,.cons _ t,e=>by
  obtain⟨u,h1,h2⟩:=Vals.get (i:=i) (x:=x) t (by simpa using e);exact⟨u,by simpa using h1,h2⟩
theorem Vals.append:∀{xs ys:List V} {a ws:List Value},Vals xs a->Vals ys ws->Vals (xs++ys) (a++ws)
 |_,_,_,_,.nil,s=>s
 |_,_,_,_,.cons r t,s=>.cons r (Vals.append t s)
def jn:Option V->Option Value->Prop
 |some v,some u=>RelV v u
 |none,none=>True
 |_,_=>False
def KV{κ:Type}:List (κ×V)->List (κ×Value)->Prop:=Paired λ(p:κ×V) (q:κ×Value)=>p.1=q.1/\RelV p.2 q.2
def kV:Key->V
 |.inl i=>.int i
 |.inr x=>.str x
def mL(h:Heap)(a:Addr)(items:Array Value):Prop:=∃n,h.get? a=some {cls:=.type "tuple",data:=.seq items n}
theorem mL.is{h:Heap}{a:Addr}{b:Array Value}(x:mL h a b):IsTup h a b:=let ⟨n,e⟩:=x;⟨_,e,rfl,n,rfl⟩
theorem mL.new(h:Heap)(a:Array Value):mL (h.push {cls:=.type "tuple",data:=.seq a}) h.objs.size a:=⟨0,cA _ rfl⟩
inductive HO where
 |lst (xs:List V)
 |tup (xs:List V)
 |dK (kvs:List (Key×V))|dT (kvs:List (List Key×V))
 |set (S:Int->Bool) (n:Nat)
 |ins (C dx:Addr) (fs:List (Str×V))
 |own (x:Addr)
 |xd (fs:List (Str×V))
 |met (f x:Addr)
 |fP (lo hi:Int)
 |bK (o:Obj) (u:HO)
 |iR (ps:Array Value)
 |ext (φ:Heap->Prop)
abbrev Hp:=Addr->Option HO
def upd(H:Hp)(a:Addr)(o:HO):Hp:=λb=>if b=a then some o else H b
theorem eT{H:Hp}{a:Addr}{o:HO}:upd H a o a=some o:=by unfold upd;rw[av rfl]
theorem aW{H:Hp}{a b:Addr}{o:HO}(h:b≠a):upd H a o b=H b:=by unfold upd;rw[ay h]
theorem QE{H:Hp}{a b:Addr}{o u:HO}(h:H a=some o)(h':H b=some u)(d:o≠u):a≠b:=by
 intro e;subst e;rw[h] at h';exact d (Option.some.inj h')
theorem dB{H:Hp}{a b:Addr}{o:HO}(h:H a=some o)(h':H b=none):a≠b:=by
 intro e;subst e;rw[h] at h';cases h'
section
variable(P:Program)(w:World)
def bX(H:Hp)(h:Heap)(a:Addr):HO->Prop
 | .lst xs=>xs.length<=sizeLine/\∃(its:List Value) (n:Nat),Vals xs its/\h.get? a=some {cls:= .type "list",data:= .seq its.toArray n}
 | .tup xs=>xs.length<=sizeLine/\∃its:List Value,Vals xs its/\mL h a its.toArray
 | .dK kvs=>kvs.length<=sizeLine/\(a==sysModules)=false/\∃vs,KV kvs vs/\h.DictOf (cP P w) a vs
 | .dT kvs=>kvs.length<=sizeLine/\(a==sysModules)=false/\∃xs:List (List Key×Addr×Value),
  Paired (λ(p:List Key×V) (q:List Key×Addr×Value)=>p.1=q.1/\H q.2.1=some (.tup (p.1.map kV))/\RelV p.2 q.2.2) kvs xs/\
  ∃o es ep,h.get? a=some o/\o.ExactDict/\o.data= .dict es ep/\es.toList=xs.map (entryOfKey (tupleKind (cP P w)))/\(xs.map (·.1)).Nodup
 | .set S n=>h.SetOf (intKind P w) a S n
 | .ins C dx fs=>H dx=some (.own a)/\fs.length<=1000/\dx≠a/\h.get? a=some (instObj C dx)/\
  ∃mA,h.Ns1 dx mA/\(∀f,jn (fs.lookup f) (mA f))/\PySem.Within mA (fs.map (·.1))
 | .own _=>∃o,h.get? a=some o
 | .xd fs=>∃mA,h.Ns1 a mA/\∀f,jn (fs.lookup f) (mA f)
 | .fP lo hi=>∃t u v,h.get? a=some {cls:= .type "range",data:= .fields #[.int lo t,.int hi u,.int 1 v]}
 | .bK o u=>h.get? a=some o/\bX H h a u
 | .iR ps=>h.get? a=some {cls:= .none,data:= .fields ps}
 | .met f x=>h.get? a=some (methodObj (.ref f) (.ref x))
 | .ext φ=>φ h/\(∃o,h.get? a=some o)/\∀h1 h2:Heap,φ h1->(∀o,h1.get? a=some o->h2.get? a=some o)->φ h2
def cB(H:Hp)(h:Heap):Prop:=∀a o,H a=some o->bX P w H h a o
end
section
variable{P:Program}{w:World}{H H':Hp}{h h':Heap}{a:Addr}{o:HO}
theorem bX.lt(x:bX P w H h a o):a<h.objs.size:=by
 cases o with
 |lst xs=>obtain⟨_,_,_,_,e⟩:=x;exact aT e
 |tup xs=>obtain⟨_,_,_,p⟩:=x;exact p.is.lt
 |dK kvs=>obtain⟨_,_,_,_,o,_,_,e,_⟩:=x;exact aT e
 |dT kvs=>obtain⟨_,_,_,_,o,_,_,e,_⟩:=x;exact aT e
 |set S n=>obtain⟨o,_,_,_,e,_⟩:=x;exact aT e
 |ins C dx fs=>obtain⟨_,_,_,e,_⟩:=x;exact aT e
 |own y=>obtain⟨_,e⟩:=x;exact aT e
 |xd fs=>obtain⟨_,⟨_,_,_,e,_⟩,_⟩:=x;exact aT e
 |fP lo hi=>obtain⟨_,_,_,e⟩:=x;exact aT e
 |bK b u=>obtain⟨e,_⟩:=x;exact aT e
 |iR ps=>exact aT (show h.get? a=some _ from x)
 |met f y=>exact aT (show h.get? a=some _ from x)
 |ext c=>obtain⟨_,⟨_,e⟩,_⟩:=x;exact aT e
theorem Paired.jy{α β:Type}{F G:α->β->Prop}:∀{c:List α} {d:List β},Paired F c d->(∀a b,F a b->G a b)->Paired G c d
 |_,_,.nil,_=>.nil
 |_,_,.cons r t,f=>.cons (f _ _ r) (Paired.jy t f)
theorem bX.stay(x:bX P w H h a o)(k:∀b u,(b=a\/H b=some (.own a))->h.get? b=some u->h'.get? b=some u)
  (l:∀b,H b=some (.own a)->H' b=some (.own a))(m:∀b xs,H b=some (.tup xs)->H' b=some (.tup xs)):bX P w H' h' a o:=by
 induction o with
 |lst xs=>obtain⟨z,its,n,r,e⟩:=x;exact⟨z,its,n,r,k _ _ (.inl rfl) e⟩
 |tup xs=>obtain⟨z,its,r,n,e⟩:=x;exact⟨z,its,r,n,k _ _ (.inl rfl) e⟩
 |dK kvs=>obtain⟨z,y,vs,r,g,es,ep,e,c⟩:=x;exact⟨z,y,vs,r,g,es,ep,k _ _ (.inl rfl) e,c⟩
 |dT kvs=>
  obtain⟨z,y,xs,r,g,es,ep,e,c⟩:=x;exact⟨z,y,xs,Paired.jy r λp q z=>⟨z.1,m _ _ z.2.1,z.2.2⟩,g,es,ep,k _ _ (.inl rfl) e,c⟩
 |set S n=>obtain⟨g,es,ep,t,e,c⟩:=x;exact⟨g,es,ep,t,k _ _ (.inl rfl) e,c⟩
 |ins C dx fs=>
  obtain⟨d,z,ne,e,i,⟨j,es,ep,s,c⟩,r⟩:=x;exact⟨l _ d,z,ne,k _ _ (.inl rfl) e,i,⟨j,es,ep,k _ _ (.inr d) s,c⟩,r⟩
 |own y=>obtain⟨g,e⟩:=x;exact⟨g,k _ _ (.inl rfl) e⟩
 |xd fs=>obtain⟨i,⟨j,es,ep,e,c⟩,r⟩:=x;exact⟨i,⟨j,es,ep,k _ _ (.inl rfl) e,c⟩,r⟩
 |fP lo hi=>obtain⟨t,u,v,e⟩:=x;exact⟨t,u,v,k _ _ (.inl rfl) e⟩
 |bK g u A=>obtain⟨e,q⟩:=x;exact⟨k _ _ (.inl rfl) e,A q⟩
 |iR ps=>
  have e:h.get? a=some {cls:=.none,data:=.fields ps}:=x;show h'.get? a=some {cls:=.none,data:=.fields ps};exact k a _ (.inl rfl) e
 |met f y=>
  have e:h.get? a=some (methodObj (.ref f) (.ref y)):=x;show h'.get? a=some (methodObj (.ref f) (.ref y));exact k a _ (.inl rfl) e
 |ext B=>obtain⟨p,⟨o,e⟩,st⟩:=x;exact⟨st _ _ p λo q=>k _ _ (.inl rfl) q,⟨o,k _ _ (.inl rfl) e⟩,st⟩
theorem cB.lt(x:cB P w H h)(e:H a=some o):a<h.objs.size:=(x a o e).lt
theorem cB.fresh(x:cB P w H h)(e:h.objs.size<=a):H a=none:=by
 cases q:H a with
 |none=>rfl
 |some u=>exact absurd (cJ (x.lt q) e) (fS _)
theorem cB.kept(x:cB P w H h)(k:∀b u,h.get? b=some u->h'.get? b=some u):cB P w H h':=λa o e=>
 (x a o e).stay (λb u _ q=>k b u q) (λ_ q=>q) λ_ _ q=>q
theorem cB.laid(x:cB P w H h)(k:∀b u,h.get? b=some u->h'.get? b=some u)(g:h.objs.size<=a)(new:bX P w (upd H a o) h' a o):cB P w (upd H a o) h':=λb u e=>by
 have d:=x.fresh g;by_cases f:b=a
 .subst f;rw[eT] at e;cases e;exact new
 .rw[aW f] at e
  exact(x b u e).stay (λc v _ q=>k c v q) (λc q=>by rw[aW (dB q d)];exact q) λc xs q=>by rw[aW (dB q d)];exact q
end
def Rd(H:Hp)(a:Addr)(u:HO):Prop:=H a=some u\/∃o,H a=some (.bK o u)
theorem Rd.ok{P:Program}{w:World}{H:Hp}{h:Heap}{a:Addr}{u:HO}(r:Rd H a u)(x:cB P w H h):bX P w H h a u:=by
 rcases r with r|⟨o,r⟩
 .exact x a u r
 .obtain⟨_,q⟩:=x a _ r
  exact q
def qo:Option HO->Prop
 |some (.lst _)=>True
 |some (.dK _)=>True
 |some (.dT _)=>True
 |some (.set _ _)=>True
 |some (.ins _ _ _)=>True
 |some (.ext _)=>True
 |_=>False
section
variable{P:Program}{w:World}{H:Hp}{h h':Heap}{x e:Addr}{o':HO}
theorem cB.write(ok:cB P w H h)(g:qo (H x))(l:e=x\/H e=some (.own x))(k:∀b u,b≠e->h.get? b=some u->h'.get? b=some u)(j:∃u,h'.get? e=some u)
  (new:bX P w (upd H x o') h' x o'):cB P w (upd H x o') h':=λb u q=>by
 have d:∀c y,H c=some (.own y)->c≠x:=λc y r z=>by subst z;rw[r] at g;exact g
 have f:∀c xs,H c=some (.tup xs)->c≠x:=λc xs r z=>by subst z;rw[r] at g;exact g
 by_cases i:b=x
 .subst i;rw[eT] at q;cases q;exact new
 .rw[aW i] at q
  by_cases a:b=e
  .have m:H b=some (.own x):=by
    rcases l with z|z
    .exact absurd (a.trans z) i
    .rw[a];exact z
   rw[q] at m;cases m;obtain⟨v,n⟩:=j;exact⟨v,by rw[a];exact n⟩
  .refine(ok b u q).stay (λc v hc r=>k c v ?_ r) (λc r=>by rw[aW (d c b r)];exact r) λc xs r=>by rw[aW (f c xs r)];exact r
   rcases hc with rfl|hc
   .exact a
   .rintro rfl
    rcases l with z|z
    .exact d c b hc z
    .rw[hc] at z;cases z;exact i rfl
end
structure Un(fs ex:List Addr)(H H':Hp)(h h':Heap):Prop where
 keep:∀b o,h.get? b=some o->H b=none->b∉fs->b∉ex->h'.get? b=some o
 slot:∀b o,h.get? b=some o->H b=none->b∈fs->b∉ex->∃sl,h'.get? b=some {o with slots:=sl}
 free:∀b o,h.get? b=some o->H b=none->b∉ex->H' b=none
 there:∀b o,h.get? b=some o->b∉ex->∃o',h'.get? b=some o'
 tups:∀b xs,H b=some (.tup xs)->H' b=some (.tup xs)
 fG:∀b o u,H b=some (.bK o u)->H' b=some (.bK o u)
 gb:∀b ps,H b=some (.iR ps)->∃more,H' b=some (.iR (ps++more))
section
variable{fs fs' ex ex':List Addr}{H H1 H2:Hp}{h h1 h2 h':Heap}{a x e:Addr}{o:HO}
theorem Un.any(u:Un fs ex H H1 h h1){b:Addr}{a:Obj}(q:h.get? b=some a)(n:H b=none)(c:b∉ex):∃e,h1.get? b=some {a with slots:=e}:=by
 by_cases d:b∈fs
 .exact u.slot b a q n d c
 .exact⟨a.slots,u.keep b a q n d c⟩
theorem Un.kept(k:∀b u,h.get? b=some u->h'.get? b=some u):Un fs ex H H h h':=
 ⟨λb a q _ _ _=>k b a q,λb a q _ _ _=>⟨a.slots,k b a q⟩,λ_ _ _ n _=>n,λb a q _=>⟨a,k b a q⟩,λ_ _ q=>q,λ_ _ _ q=>q,λ_ ps q=>⟨#[],by rw[q];simp⟩⟩
theorem Un.refl:Un fs ex H H h h:=Un.kept λ_ _ q=>q
theorem Un.laid(k:∀b u,h.get? b=some u->h'.get? b=some u)(d:h.objs.size<=a)(c:H a=none):Un fs ex H (upd H a o) h h' where
 keep:=λb u q _ _ _=>k b u q
 slot:=λb u q _ _ _=>⟨u.slots,k b u q⟩
 free:=λb u q n _=>by rw[aW (bE (cJ (aT q) d))];exact n
 there:=λb u q _=>⟨u,k b u q⟩
 tups:=λb xs q=>by rw[aW (dB q c)];exact q
 fG:=λb u xs q=>by rw[aW (dB q c)];exact q
 gb:=λb ps q=>⟨#[],by rw[aW (dB q c),q];simp⟩
theorem Un.write(c:qo (H x))(j:e=x\/H e=some (.own x))(k:∀b u,b≠e->h.get? b=some u->h'.get? b=some u)(d:∃u,h'.get? e=some u):Un fs ex H (upd H x o) h h':=by
 have g:∀b,H b=none->b≠x:=λb n z=>by subst z;rw[n] at c;exact c
 have i:∀b,H b=none->b≠e:=λb n z=>by
  subst z;rcases j with r|r
  .exact g b n r
  .rw[n] at r;cases r
 have f:∀b u,H b=some u->¬qo (some u)->b≠x:=λb u q nm z=>by subst z;rw[q] at c;exact nm c
 refine⟨λb u q n _ _=>k b u (i b n) q,λb u q n _ _=>⟨u.slots,k b u (i b n) q⟩,λb u q n _=>by rw[aW (g b n)];exact n,λb u q _=>?_,
  λb xs q=>by rw[aW (f b _ q λz=>z)];exact q,λb u xs q=>by rw[aW (f b _ q λz=>z)];exact q,λb ps q=>⟨#[],by rw[aW (f b _ q λz=>z),q];simp⟩⟩
 by_cases a:b=e
 .subst a;exact d
 .exact⟨u,k b u a q⟩
end
def wH(h:Heap)(H:Hp):List Addr:=(range h.objs.size).filter λa=>(H a).isSome
def kI(h:Heap)(H:Hp):Heap:=hideAll h (wH h H)
theorem Ot(h:Heap)(H:Hp):(kI h H).objs.size=h.objs.size:=PySem.W.hideAll_size _ _
theorem Oq{h:Heap}{H:Hp}{b:Addr}{o:Obj}(e:h.get? b=some o)(n:H b=none):(kI h H).get? b=some o:=
 hideAll_get _ e λa=>by
  have q:(H b).isSome=true:=(mem_filter.mp a).2;rw[n] at q;simp at q
theorem QT{h:Heap}{H:Hp}{b:Addr}{o:Obj}(e:(kI h H).get? b=some o):h.get? b=some o/\H b=none:=by
 have a:h.get? b=some o:=of_hideAll (wH h H) e;refine⟨a,?_⟩;cases q:H b with
 |none=>rfl
 |some x=>
  have c:b∈wH h H:=mem_filter.mpr ⟨mem_range.mpr (aT a),by simp[q]⟩;have z:(kI h H).get? b=none:=PySem.W.hideAll_none (wH h H) c;rw[z] at e;cases e
structure Mod(K:Frag)(mg:au)(base:Heap):Prop where
 rA:K.In base
 glob:base.Ns mainGlobals mg
 blt:∃mb,base.Ns builtinsNs mb/\∀x:Str,x≠"__name__"->mb x=bootBuiltins x
 nolimit:base.NoLimit
structure Cx where
 prog:Program
 w:World
 K:Frag
 mg:au
 base:Heap
 A:Around
 N:List Str
 s₀:Shared
 H₀:Hp
 env:Env
 outer:List Env
 stack:List Env
 ex:List Addr
 fn:Str->Bool
 calm:Bool
 pn:aS
 xe:aQ
def frs(l:List Env):List Addr:=l.filterMap (·.frame)
abbrev Cx.fs(X:Cx):List Addr:=frs X.outer
def oA(sc:Scope)(x:Str):Prop:=sc.names.lookup x=some .local\/sc.names.lookup x=some .cell\/sc.names.lookup x=some .free
def Loc(sc:Scope)(x:Str):Prop:=sc.names.lookup x=some .local\/sc.names.lookup x=some .cell
def Look(env:Env)(h:Heap)(m:au)(x:Str)(u:Value):Prop:=
 (env.kindOf x=some .local/\m x=some u)\/((env.kindOf x=some .cell\/env.kindOf x=some .free)/\∃c,env.cells.lookup x=some c/\h.IsCell c (some u))
structure Cx.Ok(X:Cx):Prop where
 mod:Mod X.K X.mg X.base
 kind:X.env.scope.kind= .function
 glob:X.env.globals=mainGlobals
 blt:X.env.builtins=builtinsNs
 above:X.s₀.heap.objs.size<=X.env.locals
 inj:∀x y c,X.env.cells.lookup x=some c->X.env.cells.lookup y=some c->x=y
 has:∀x,(X.env.kindOf x=some .cell\/X.env.kindOf x=some .free)->∃c,X.env.cells.lookup x=some c
 oH:∀x c,X.fn x=true->X.env.cells.lookup x=some c->X.s₀.heap.objs.size<=c
 hd:X.calm=true->X.A.handled=none
 frames:X.A.frames=some X.stack
 stk:X.stack=X.outer\/(X.stack=X.env::X.outer/\X.env.frame=some X.env.locals)
 yQ:∀b∈X.ex,b≠X.env.locals/\∀x c,X.env.cells.lookup x=some c->c≠b
 bs:∀b o,X.base.get? b=some o->X.s₀.heap.get? b=some o/\X.H₀ b=none
 kB:X.base.objs.size<=X.s₀.heap.objs.size
 o8:∀b o,X.base.get? b=some o->b∉X.ex
 qU:∀b∈X.ex,b∉X.fs
 i_:X.s₀.heap.FunFrames X.base X.outer
 lN:∀b∈X.fs,X.H₀ b=none
structure Inv(X:Cx)(pins:aS)(σ:List (Option V))(H:Hp)(s:Shared):Prop where
 ok:X.Ok
 os:s.os=X.s₀.os
 bare:AllBare s.gens
 base:Un X.fs X.ex X.H₀ H X.s₀.heap s.heap
 loc:∃m,s.heap.Ns X.env.locals m/\∀(i:Nat) (x:Str) (v:V),X.N[i]? =some x->σ[i]? =some (some v)->oA X.env.scope x->∃u,RelV v u/\Look X.env s.heap m x u
 cell:∀x c,X.env.cells.lookup x=some c->∃v,s.heap.IsCell c v
 free:H X.env.locals=none
 iw:∀x c,X.env.cells.lookup x=some c->H c=none
 pin:∀p∈X.pn++pins,s.heap.get? p.1=some p.2/\H p.1=none/\p.1≠X.env.locals/\p.1∉X.fs/\∀v,p.2.data≠ .cell v
 hok:cB X.prog X.w H s.heap
 len:σ.length=X.N.length
section
variable{X:Cx}{pins:aS}{σ:List (Option V)}{H H':Hp}{s:Shared}{h':Heap}
theorem Cx.Ok.vd(ok:X.Ok){b:Addr}{o:Obj}(e:X.base.get? b=some o):b∉X.fs:=λa=>by
 have:=(ok.i_.mem a).1;rw[e] at this;cases this
theorem Inv.bs(I:Inv X pins σ H s):∀b o,X.base.get? b=some o->s.heap.get? b=some o/\H b=none:=λb o e=>
 ⟨I.base.keep b o (I.ok.bs b o e).1 (I.ok.bs b o e).2 (I.ok.vd e) (I.ok.o8 b o e),I.base.free b o (I.ok.bs b o e).1 (I.ok.bs b o e).2 (I.ok.o8 b o e)⟩
theorem Inv.bk(I:Inv X pins σ H s):∀b o,X.base.get? b=some o->s.heap.get? b=some o:=λb o e=>(I.bs b o e).1
theorem Inv.mod(I:Inv X pins σ H s):Mod X.K X.mg X.base:=I.ok.mod
theorem Inv.eO(I:Inv X pins σ H s):X.K.In s.heap:=I.ok.mod.rA.keeps I.bk
theorem Inv.lt(I:Inv X pins σ H s):X.env.locals<s.heap.objs.size:=let ⟨_,a,_⟩:=I.loc;a.lt
theorem Inv.sz(I:Inv X pins σ H s):X.s₀.heap.objs.size<=s.heap.objs.size:=cR I.ok.above (jB I.lt)
theorem Inv.QJ(I:Inv X pins σ H s){a:Addr}(h:s.heap.objs.size<=a):a∉X.fs:=λb=>by
 obtain⟨_,o,c,_⟩:=I.ok.i_.mem b;exact absurd (cJ (aT c) (cR I.sz h)) (fS _)
theorem Inv.mO(I:Inv X pins σ H s):∀x c,X.env.cells.lookup x=some c->c≠X.env.locals:=λx c e z=>by
 obtain⟨v,o,d,hd⟩:=I.cell x c e;obtain⟨m,⟨o',es,ep,a,b,_⟩,_⟩:=I.loc;rw[z,a] at d;cases d;rw[b] at hd;cases hd
theorem Inv.i_(I:Inv X pins σ H s):s.heap.FunFrames X.base X.outer:=by
 have all:∀(l:List Env),(∀b∈frs l,b∈X.fs)->X.s₀.heap.FunFrames X.base l->s.heap.FunFrames X.base l:=by
  intro l;induction l with
  |nil=>intro _ _;trivial
  |cons env r g=>
   intro f hl;obtain⟨h,⟨L,o,a,i,j,hd⟩,k⟩:=hl;have c:L∈X.fs:=f L (by unfold frs;rw[AW,a];exact bh);obtain⟨m,e⟩:=I.base.slot L o j (I.ok.lN L c) c λz=>I.ok.qU L z c;exact⟨h,⟨L,_,a,i,e,hd⟩,g (λb d=>f b (by unfold frs;rw[AW,a];exact aZ _ d)) k⟩
 exact all X.outer (λ_ d=>d) I.ok.i_
theorem Inv.stack(I:Inv X pins σ H s):s.heap.FunFrames X.base X.stack:=by
 rcases I.ok.stk with e|⟨e,a⟩
 .rw[e];exact I.i_
 .rw[e]
  obtain⟨m,b,_⟩:=I.loc;refine .cons (by rw[I.ok.kind];decide) a b ?_ I.i_;exact Heap.get?_none_of_le (cR I.ok.kB I.ok.above)
theorem Inv.pO(I:Inv X pins σ H s):∀b∈frs X.stack,b∈X.env.locals::X.fs:=λb a=>by
 rcases I.ok.stk with e|⟨e,c⟩
 .rw[e] at a;exact aZ _ a
 .rw[e] at a
  unfold frs at a;rw[AW,c] at a;exact a
theorem Inv.Al(I:Inv X pins σ H s):∀b∈frs X.stack,H b=none:=λb hb=>by
 rcases aY.mp (I.pO b hb) with e|hb
 .rw[e];exact I.free
 .obtain⟨_,o,a,_⟩:=I.ok.i_.mem hb
  exact I.base.free b o a (I.ok.lN b hb) λz=>I.ok.qU b z hb
theorem Inv.step{g':Array GenState}{t':Nat}{d':Drawn}{ch:List Addr}(I:Inv X pins σ H s)
  (f:∀b∈ch,(b∈X.ex\/X.s₀.heap.objs.size<=b)/\b≠X.env.locals/\(∀x c,X.env.cells.lookup x=some c->c≠b)/\∀p∈X.pn++pins,p.1≠b)
  (keep:∀b o,b≠X.env.locals->b∉X.fs->b∉ch->s.heap.get? b=some o->H b=none->h'.get? b=some o)
  (slot:∀b o,b≠X.env.locals->b∈X.fs->b∉ch->s.heap.get? b=some o->H b=none->∃D,h'.get? b=some {o with slots:=D})(free:∀b o,b∉ch->s.heap.get? b=some o->H b=none->H' b=none)
  (there:∀b o,b∉ch->s.heap.get? b=some o->∃o',h'.get? b=some o')
  (tups:∀b xs,H b=some (.tup xs)->H' b=some (.tup xs))(fG:∀b o u,H b=some (.bK o u)->H' b=some (.bK o u))(gb:∀b ps,H b=some (.iR ps)->∃A,H' b=some (.iR (ps++A)))
  (ns:∀m,s.heap.Ns X.env.locals m->h'.Ns X.env.locals m)(hok:cB X.prog X.w H' h')(J:AllBare g'):
  Inv X pins σ H' {s with heap:=h',gens:=g',drawn:=d',toks:=t'}:=by
 have B:∀b o,X.s₀.heap.get? b=some o->b≠X.env.locals:=λb o e=>bE (cJ (aT e) I.ok.above)
 have h:∀b o,X.s₀.heap.get? b=some o->b∉X.ex->b∉ch:=λb o e a t=>by
  rcases (f b t).1 with z|z
  .exact a z
  .exact absurd (cJ (aT e) z) (fS _)
 have cellK:∀x c,X.env.cells.lookup x=some c->∀v,s.heap.IsCell c v->h'.IsCell c v:=λx c e v ⟨o,y,hd⟩=>by
  have g:c∉ch:=λz=>(f c z).2.2.1 x c e rfl
  by_cases hc:c∈X.fs
  .obtain⟨D,q⟩:=slot c o (I.mO x c e) hc g y (I.iw x c e)
   exact⟨_,q,hd⟩
  .exact⟨o,keep c o (I.mO x c e) hc g y (I.iw x c e),hd⟩
 refine⟨I.ok,I.os,J,⟨λb o e n t a=> ?_,λb o e n t a=> ?_,λb o e n a=> ?_,λb o e a=> ?_,λb xs e=>tups b xs (I.base.tups b xs e),λb o xs e=>fG b o xs (I.base.fG b o xs e),λb ps e=> ?_⟩,?_,λx c e=> ?_,?_,λx c e=> ?_,λp F=> ?_,hok,I.len⟩
 .exact keep b o (B b o e) t (h b o e a) (I.base.keep b o e n t a) (I.base.free b o e n a)
 .obtain⟨D,j⟩:=I.base.slot b o e n t a
  obtain⟨E,C⟩:=slot b _ (B b o e) t (h b o e a) j (I.base.free b o e n a)
  exact⟨E,C⟩
 .obtain⟨o',j⟩:=I.base.there b o e a
  exact free b o' (h b o e a) j (I.base.free b o e n a)
 .obtain⟨o',j⟩:=I.base.there b o e a
  exact there b o' (h b o e a) j
 .obtain⟨K,j⟩:=I.base.gb b ps e
  obtain⟨L,C⟩:=gb b _ j
  exact⟨K++L,by rw[C,Array.append_assoc]⟩
 .obtain⟨m,M,hl⟩:=I.loc
  refine⟨m,ns m M,λi x v j C N=> ?_⟩
  obtain⟨u,r,l⟩:=hl i x v j C N
  refine⟨u,r,?_⟩
  rcases l with l|⟨k,c,e,z⟩
  .exact .inl l
  .exact .inr ⟨k,c,e,cellK x c e _ z⟩
 .obtain⟨v,z⟩:=I.cell x c e
  exact⟨v,cellK x c e v z⟩
 .obtain⟨m,⟨o,_,_,y,_⟩,_⟩:=I.loc
  exact free _ o (λz=>(f _ z).2.1 rfl) y I.free
 .obtain⟨v,o,y,hd⟩:=I.cell x c e
  exact free c o (λz=>(f c z).2.2.1 x c e rfl) y (I.iw x c e)
 .obtain⟨e,n,ne,G,d⟩:=I.pin p F
  have g:p.1∉ch:=λz=>(f p.1 z).2.2.2 p F rfl
  exact⟨keep p.1 p.2 ne G g e n,free p.1 p.2 g e n,ne,G,d⟩
theorem Inv.un{t':Nat}(I:Inv X pins σ H s)(u:Un X.fs [] H H' s.heap h')(hok:cB X.prog X.w H' h'):Inv X pins σ H' {s with heap:=h',toks:=t'}:=by
 obtain⟨m,⟨o,es,ep,g,r⟩,_⟩:=id I.loc;obtain⟨j,h⟩:=u.any g I.free (by simp);exact I.step (g':=s.gens) (d':=s.drawn) (ch:=[]) (λ_ z=>nomatch z) (λb o _ c _ e n=>u.keep b o e n c (by simp)) (λb o _ c _ e n=>u.slot b o e n c (by simp)) (λb o _ e n=>u.free b o e n (by simp)) (λb o _ e=>u.there b o e (by simp)) u.tups u.fG u.gb (λk i=>by
  obtain⟨o',d,f,a,r'⟩:=i;rw[g] at a;cases a;exact⟨_,d,f,h,r'⟩) hok I.bare
theorem Inv.call{g':Array GenState}{t':Nat}{d':Drawn}{ch:List Addr}(I:Inv X pins σ H s)(u:Un (frs X.stack) ch H H' s.heap h')(hok:cB X.prog X.w H' h')(j:AllBare g')
  (a:∀b∈ch,(b∈X.ex\/X.s₀.heap.objs.size<=b)/\b≠X.env.locals/\(∀x c,X.env.cells.lookup x=some c->c≠b)/\∀p∈X.pn++pins,p.1≠b):
  Inv X pins σ H' {s with heap:=h',gens:=g',drawn:=d',toks:=t'}:=by
 obtain⟨m,⟨o,es,ep,i,r⟩,_⟩:=id I.loc;obtain⟨q,f⟩:=u.any i I.free λz=>(a _ z).2.1 rfl;exact I.step (ch:=ch) a (λb o f k hc e n=>u.keep b o e n (λz=>(aY.mp (I.pO b z)).elim f k) hc) (λb o _ _ hc e n=>u.any e n hc) (λb o hc e n=>u.free b o e n hc) (λb o hc e=>u.there b o e hc) u.tups u.fG u.gb (λt l=>by
  obtain⟨o',g,h,d,r'⟩:=l;rw[i] at d;cases d;exact⟨_,g,h,f,r'⟩) hok j
theorem Inv.turned{t':Nat}{it:Addr}(I:Inv X pins σ H s)(k:∀b o,b≠it->s.heap.get? b=some o->h'.get? b=some o)(f:H it=none)(d:it≠X.env.locals)
  (h1:it∈X.ex\/X.s₀.heap.objs.size<=it)(h2:∀x c,X.env.cells.lookup x=some c->c≠it)(g:∀p∈X.pn++pins,p.1≠it):Inv X pins σ H {s with heap:=h',toks:=t'}:=by
 have a:∀b u,H b=some u->b≠it:=λb u e z=>by rw[z,f] at e;cases e
 refine I.step (g':=s.gens) (d':=s.drawn) (ch:=[it]) (λb h=>?_) (λb o _ _ hc e _=>k b o (λz=>hc (by simp[z])) e) (λb o _ _ hc e _=>⟨o.slots,k b o (λz=>hc (by simp[z])) e⟩) (λ_ _ _ _ n=>n)
  (λb o hc e=>⟨o,k b o (λz=>hc (by simp[z])) e⟩) (λ_ _ e=>e) (λ_ _ _ e=>e) (λb ps e=>⟨#[],by rw[e];simp⟩) (λm i=>?_) (λb u e=>?_) I.bare
 .have e:b=it:=by simpa using h
  subst e;exact⟨h1,d,h2,g⟩
 .obtain⟨o,es,ep,j,r⟩:=i
  exact⟨o,es,ep,k _ o (Ne.symm d) j,r⟩
 .refine(I.hok b u e).stay (λc v hc q=>k c v ?_ q) (λ_ q=>q) λ_ _ q=>q
  rcases hc with z|z
  .rw[z];exact a b u e
  .exact a c _ z
theorem Inv.tok(I:Inv X pins σ H s)(t:Nat):Inv X pins σ H {s with toks:=t}:=I.un (h':=s.heap) (t':=t) Un.refl I.hok
theorem Inv.kept{t':Nat}(I:Inv X pins σ H s)(k:∀b u,s.heap.get? b=some u->h'.get? b=some u):Inv X pins σ H {s with heap:=h',toks:=t'}:=I.un (Un.kept k) (I.hok.kept k)
theorem Inv.laid{a:Addr}{o:HO}{t':Nat}(I:Inv X pins σ H s)(k:∀b u,s.heap.get? b=some u->h'.get? b=some u)(c:s.heap.objs.size<=a)(new:bX X.prog X.w (upd H a o) h' a o):
 Inv X pins σ (upd H a o) {s with heap:=h',toks:=t'}:=I.un (Un.laid k c (I.hok.fresh c)) (I.hok.laid k c new)
theorem Inv.write{x e:Addr}{o:HO}{t':Nat}(I:Inv X pins σ H s)(c:qo (H x))(d:e=x\/H e=some (.own x))(k:∀b u,b≠e->s.heap.get? b=some u->h'.get? b=some u)(a:∃u,h'.get? e=some u)
 (new:bX X.prog X.w (upd H x o) h' x o):Inv X pins σ (upd H x o) {s with heap:=h',toks:=t'}:=I.un (Un.write c d k a) (I.hok.write c d k a new)
theorem Inv.weak{σ':List (Option V)}(I:Inv X pins σ H s)(hl:σ'.length=σ.length)(w:∀(i:Nat) v,σ'[i]?=some (some v)->σ[i]?=some (some v)):Inv X pins σ' H s:=
 ⟨I.ok,I.os,I.bare,I.base,let ⟨m,b,a⟩:=I.loc;⟨m,b,λi x v c d e=>a i x v c (w i v d) e⟩,I.cell,I.free,I.iw,I.pin,I.hok,hl.trans I.len⟩
theorem Inv.F8{a:aS}(I:Inv X pins σ H s)(h:∀p∈a,s.heap.get? p.1=some p.2/\H p.1=none/\p.1≠X.env.locals/\p.1∉X.fs/\∀v,p.2.data≠ .cell v):Inv X a σ H s:=
 ⟨I.ok,I.os,I.bare,I.base,I.loc,I.cell,I.free,I.iw,λp b=>(bV.mp b).elim (λz=>I.pin p (kW _ z)) (h p),I.hok,I.len⟩
theorem FF{N:List Str}(c:N.Nodup){i j:Nat}{x:Str}(a:N[i]?=some x)(b:N[j]?=some x):i=j:=by
 obtain⟨h1,d⟩:=b8.mp a;obtain⟨h2,e⟩:=b8.mp b;exact(List.getElem_inj c).mp (d.trans e.symm)
theorem IP {M : Model} {A : Around} {E : aQ} {i : Nat} {x : Str} {v : V} {u : Value} {Q : Unit → Shared → Prop} (I : Inv X pins σ H s) (hN : X.N.Nodup) (hi : X.N[i]? = some x) (l : Loc X.env.scope x) (r : RelV v u)
    (h : ∀ s', Inv X pins (σ.set i (some v)) H s' → (∃ a, SameBut a s.heap s'.heap ∧ (a = X.env.locals ∨ X.env.cells.lookup x = some a)) → Q () s') (hf : X.fn x = true ∨ X.env.scope.names.lookup x = some .local := by first | exact .inl rfl | exact .inr rfl | assumption) : wpAny M A (storeName X.env x u) Q E s := by
  obtain ⟨m, S, hl⟩ := id I.loc
  have J : (X.env.scope.kind == .class || (X.env.scope.kind == .module && X.env.locals != X.env.globals)) = false := by rw [I.ok.kind]; rfl
  have C : i < σ.length := by rw [I.len]; exact (b8.mp hi).1
  have mO := I.mO
  have tracked : ∀ {a : Addr} {h' : Heap}, (∃ o, s.heap.get? a = some o ∧ H a = none) → SameBut a s.heap h' → cB X.prog X.w H h' := fun {a h'} ha f b ob e => by
    obtain ⟨_, _, t⟩ := ha
    refine (I.hok b ob e).stay (fun c R hc q => (f.2 c ?_).trans q) (fun _ q => q) fun _ _ q => q
    rintro rfl
    rcases hc with rfl | hc
    · rw [t] at e; cases e
    · rw [t] at hc; cases hc
  rcases l with hk | hk
  · refine wpAny_storeName_local hk S (fun h' T f => ?_) J
    obtain ⟨oL, _, _, U, _⟩ := id S
    refine h _ ⟨I.ok, I.os, I.bare, ⟨fun b o e n D l => ?_, fun b o e n D l => ?_, I.base.free, fun b o e l => ?_, I.base.tups, I.base.fG, I.base.gb⟩, ⟨_, T, fun j y W g B Y => ?_⟩, fun y c e => ?_, I.free, I.iw, fun p Z => ?_, tracked ⟨oL, U, I.free⟩ f, by simpa using I.len⟩ ⟨_, f, .inl rfl⟩
    · exact (f.2 b (bE (cJ (aT e) I.ok.above))).trans (I.base.keep b o e n D l)
    · obtain ⟨sl, g⟩ := I.base.slot b o e n D l
      exact ⟨sl, (f.2 b (bE (cJ (aT e) I.ok.above))).trans g⟩
    · obtain ⟨o', g⟩ := I.base.there b o e l
      exact ⟨o', (f.2 b (bE (cJ (aT e) I.ok.above))).trans g⟩
    · by_cases F : j = i
      · subst F
        rw [hi] at g; cases g
        rw [dJ C] at B
        cases B
        exact ⟨u, r, .inl ⟨hk, by simp⟩⟩
      · rw [dI (Ne.symm F)] at B
        obtain ⟨u', r', q⟩ := hl j y W g B Y
        refine ⟨u', r', ?_⟩
        rcases q with ⟨k, e⟩ | ⟨k, c, e, z⟩
        · refine .inl ⟨k, ?_⟩
          have : y ≠ x := fun e => F (FF hN g (e ▸ hi))
          simp [this, e]
        · exact .inr ⟨k, c, e, z.sameBut f (mO y c e)⟩
    · obtain ⟨R, z⟩ := I.cell y c e
      exact ⟨R, z.sameBut f (mO y c e)⟩
    · obtain ⟨e, n, ne, nf, d⟩ := I.pin p Z
      exact ⟨(f.2 p.1 ne).trans e, n, ne, nf, d⟩
  · have G : X.fn x = true := by
      rcases hf with z | z
      · exact z
      · rw [z] at hk; cases hk
    obtain ⟨c, hc⟩ := I.ok.has x (.inl hk)
    obtain ⟨R, z⟩ := I.cell x c hc
    refine wpAny_storeName_cell I.ok.kind hk hc z (fun h' K f => ?_)
    obtain ⟨oc, L, O⟩ := id z
    refine h { s with heap := h' } ⟨I.ok, I.os, I.bare, ⟨fun b o e n D l => ?_, fun b o e n D l => ?_, I.base.free, fun b o e l => ?_, I.base.tups, I.base.fG, I.base.gb⟩, ⟨m, S.sameBut f (Ne.symm (mO x c hc)), fun j y W g B Y => ?_⟩, fun y c' e => ?_, I.free, I.iw, fun p Z => ?_, tracked ⟨oc, L, I.iw x c hc⟩ f, by simpa using I.len⟩ ⟨c, f, .inr hc⟩
    · exact (f.2 b (bE (cJ (aT e) (I.ok.oH x c G hc)))).trans (I.base.keep b o e n D l)
    · obtain ⟨sl, g⟩ := I.base.slot b o e n D l
      exact ⟨sl, (f.2 b (bE (cJ (aT e) (I.ok.oH x c G hc)))).trans g⟩
    · obtain ⟨o', g⟩ := I.base.there b o e l
      exact ⟨o', (f.2 b (bE (cJ (aT e) (I.ok.oH x c G hc)))).trans g⟩
    · by_cases F : j = i
      · subst F
        rw [hi] at g; cases g
        rw [dJ C] at B
        cases B
        exact ⟨u, r, .inr ⟨.inl hk, c, hc, K⟩⟩
      · rw [dI (Ne.symm F)] at B
        obtain ⟨u', r', q⟩ := hl j y W g B Y
        refine ⟨u', r', ?_⟩
        rcases q with q | ⟨k, c', e, z'⟩
        · exact .inl q
        · refine .inr ⟨k, c', e, z'.sameBut f ?_⟩
          rintro rfl
          exact F (FF hN g (I.ok.inj _ _ _ e hc ▸ hi))
    · by_cases P : c' = c
      · subst P; exact ⟨_, K⟩
      · obtain ⟨w2, z2⟩ := I.cell y c' e
        exact ⟨w2, z2.sameBut f P⟩
    · obtain ⟨e, n, ne, nf, d⟩ := I.pin p Z
      refine ⟨(f.2 p.1 ?_).trans e, n, ne, nf, d⟩
      intro q
      rw [q, L] at e
      have q' : oc = p.2 := Option.some.inj e
      exact d R (by rw [← q']; exact O)
theorem Am{M:Model}{A:Around}{E:aQ}{i:Nat}{x:Str}{v:V}{u:Value}{Q:Unit->Shared->Prop}(I:Inv X pins σ H s)(a:X.N.Nodup)(hi:X.N[i]?=some x)(b:Loc X.env.scope x)(r:RelV v u)
  (h:∀s',Inv X pins (σ.set i (some v)) H s'->Q () s')(c:X.fn x=true\/X.env.scope.names.lookup x=some .local:=by first|exact .inl rfl|exact .inr rfl|assumption):wpAny M A (storeName X.env x u) Q E s:=
 IP I a hi b r (λs' d _=>h s' d) c
theorem Inv.yo{s':Shared}{ch:List Addr}(I:Inv X pins σ H s)(d:s'.os=s.os)(u:Un (frs X.stack) ch H H' s.heap s'.heap)(hok:cB X.prog X.w H' s'.heap)(f:AllBare s'.gens)
  (a:∀b∈ch,(b∈X.ex\/X.s₀.heap.objs.size<=b)/\b≠X.env.locals/\(∀x c,X.env.cells.lookup x=some c->c≠b)/\∀p∈X.pn++pins,p.1≠b):Inv X pins σ H' s':=by
 obtain⟨h',g',d',t',o'⟩:=s';have e:o'=s.os:=d;subst e;exact I.call (g':=g') (t':=t') (d':=d') u hok f a
end
abbrev XK:=Value->Option Addr->Hp->Prop
abbrev St:=List (Option V)
abbrev VK:=V->Hp->Prop
abbrev TE:=St->Hp->VK->Prop
abbrev TT:=St->Hp->(Bool->Hp->Prop)->Prop
abbrev TA:=St->Hp->(List V->Hp->Prop)->Prop
structure Ends where
 nx:St->Hp->Prop
 rt:VK
 bk:St->Hp->Prop:=λ_ _=>False
 ct:St->Hp->Prop:=λ_ _=>False
abbrev TS:=Ends->St->Hp->Prop
def EP(X:Cx)(pins:aS)(σ:St)(Q:VK)(u:Value)(s':Shared):Prop:=∃v H',Inv X pins σ H' s'/\RelV v u/\Q v H'
def TP(X:Cx)(pins:aS)(σ:St)(Q:Bool->Hp->Prop)(b:Bool)(s':Shared):Prop:=∃H',Inv X pins σ H' s'/\Q b H'
def AP(X:Cx)(pins:aS)(σ:St)(Q:List V->Hp->Prop)(us:List Value)(s':Shared):Prop:=∃vs H',Inv X pins σ H' s'/\Vals vs us/\Q vs H'
def SP(X:Cx)(pins:aS)(D:Ends)(f:Flow)(s':Shared):Prop:=
 match f with
 |.next=>∃σ' H',Inv X pins σ' H' s'/\D.nx σ' H'
 |.brk=>∃σ' H',Inv X pins σ' H' s'/\D.bk σ' H'
 |.cont=>∃σ' H',Inv X pins σ' H' s'/\D.ct σ' H'
 |.ret u=>∃v σ' H',Inv X pins σ' H' s'/\RelV v u/\D.rt v H'
def PE(X:Cx)(e:Expr)(t:TE):Prop:=
 ∀(pins:aS) (s:Shared) (σ:St) (H:Hp) (Q:VK),Inv X pins σ H s->t σ H Q->wpAny (model X.prog X.w) X.A (eval e X.env) (EP X pins σ Q) X.xe s
def PT(X:Cx)(e:Expr)(t:TT):Prop:=
 ∀(pins:aS) (s:Shared) (σ:St) (H:Hp) (Q:Bool->Hp->Prop),Inv X pins σ H s->t σ H Q->wpAny (model X.prog X.w) X.A (isTrue e X.env (eval e X.env)) (TP X pins σ Q) X.xe s
def PW(X:Cx)(e:Expr)(t:TT):Prop:=
 ∀(whole:Sem Value) (pins:aS) (s:Shared) (σ:St) (H:Hp) (Q:Bool->Hp->Prop),Inv X pins σ H s->t σ H Q->wpAny (model X.prog X.w) X.A (isTrue e X.env whole) (TP X pins σ Q) X.xe s
theorem PW.pt{X:Cx}{e:Expr}{t:TT}(h:PW X e t):PT X e t:=h _
def PA(X:Cx)(es:List Expr)(t:TA):Prop:=
 ∀(pos:Pos) (pins:aS) (s:Shared) (σ:St) (H:Hp) (Q:List V->Hp->Prop),Inv X pins σ H s->t σ H Q->wpAny (model X.prog X.w) X.A (spliced (backTo pos (starEach es X.env))) (AP X pins σ Q) X.xe s
def PS(X:Cx)(st:Stmt)(t:TS):Prop:=
 ∀(pins:aS) (s:Shared) (σ:St) (H:Hp) (D:Ends),Inv X pins σ H s->t D σ H->wpAny (model X.prog X.w) X.A (exec st X.env) (SP X pins D) X.xe s
def dw(X:Cx)(st:List Stmt)(t:TS):Prop:=
 ∀(pins:aS) (s:Shared) (σ:St) (H:Hp) (D:Ends),Inv X pins σ H s->t D σ H->wpAny (model X.prog X.w) X.A (execs st X.env) (SP X pins D) X.xe s
theorem aK{α:Type}{t:Sem α}{Q b:α->Shared->Prop}{M:Model}{A:Around}{E:aQ}{s:Shared}(h:wpAny M A t Q E s)(c:∀a s,Q a s->b a s):wpAny M A t b E s:=je h c λ_ _ x=>x
section
variable{X:Cx}
def Vt(i:Nat):TE:=λσ H Q=>∃v,σ[i]?=some (some v)/\Q v H
def tC(v:V):TE:=λ_ H Q=>Q v H
theorem R1{i:Nat}{x:Str}{pos:Pos}(d:X.N[i]?=some x)(f:oA X.env.scope x)(hd:(x==("__debug__":Str))=false:=by decide)(b:(x==("__classdict__":Str))=false:=by decide):PE X (.Name x pos) (Vt i):=by
 intro pins s σ H Q I h;obtain⟨v,e,h⟩:=h;obtain⟨m,g,hl⟩:=I.loc;obtain⟨u,r,l⟩:=hl i x v d e f;have fin:EP X pins σ Q u s:=⟨v,H,I,r,h⟩;rcases l with⟨hk,j⟩|⟨hk,c,hc,a⟩
 .exact wpAny_Name (wpAny_loadName_local I.ok.kind hk g j fin) hd
 .rcases hk with hk|hk
  .exact wpAny_Name (wpAny_loadName_cell I.ok.kind hk hc a fin) hd
  .exact wpAny_Name (wpAny_loadName_free I.ok.kind hk hc a fin b) hd
theorem RM{i j pos}:PE X (.Constant (.int i) j pos) (tC (.int i)):=λ_ _ _ H _ I h=>wpAny_Constant_int ⟨.int i,H,I.tok _,⟨_,rfl⟩,h⟩
theorem Rt{b j pos}:PE X (.Constant (.bool b) j pos) (tC (.bl b)):=λ_ _ _ H _ I h=>Constant_bool ⟨.bl b,H,I,rfl,h⟩
theorem RQ{j pos}:PE X (.Constant .none j pos) (tC .aC):=λ_ _ _ H _ I h=>Constant_none ⟨.aC,H,I,rfl,h⟩
theorem RY{x j pos}:PE X (.Constant (.str x) j pos) (tC (.str x)):=λ_ _ _ H _ I h=>Calls.Constant_str ⟨.str x,H,I.tok _,⟨_,rfl⟩,h⟩
def Gl(X:Cx)(x:Str):Prop:=X.env.kindOf x=some .globalImplicit
theorem rC{E:aQ}{pins:aS}{s:Shared}{σ:St}{H:Hp}{x:Str}{u:Value}{pos:Pos}{Q:aQ}(I:Inv X pins σ H s)(a:Gl X x)(b:X.mg x=some u)(h:Q u s)
  (hd:(x==("__debug__":Str))=false:=by decide):wpAny (model X.prog X.w) X.A (eval (.Name x pos) X.env) Q E s:=
 Calls.Name_function_global I.ok.kind a (Calls.loadGlobal_global (by rw[I.ok.glob];exact I.mod.glob.keeps I.bk) b h) hd
theorem jV{E:aQ}{pins:aS}{s:Shared}{σ:St}{H:Hp}{x:Str}{u:Value}{pos:Pos}{Q:aQ}(I:Inv X pins σ H s)(a:Gl X x)(b:X.mg x=none)(c:bootBuiltins x=some u)(h:Q u s)
  (d:x≠"__name__":=by decide)(hd:(x==("__debug__":Str))=false:=by decide):wpAny (model X.prog X.w) X.A (eval (.Name x pos) X.env) Q E s:=by
 obtain⟨mb,h1,h2⟩:=I.mod.blt;exact Calls.Name_function_global I.ok.kind a (Calls.loadGlobal_builtin (by rw[I.ok.glob];exact I.mod.glob.keeps I.bk) b (by rw[I.ok.blt];exact h1.keeps I.bk) ((h2 x d).trans c) h) hd
theorem RL{x:Str}{v:V}{u:Value}{pos:Pos}(a:Gl X x)(b:X.mg x=some u)(r:RelV v u)(hd:(x==("__debug__":Str))=false:=by decide):PE X (.Name x pos) (tC v):=
 λ_ _ _ H _ I h=>rC I a b ⟨v,H,I,r,h⟩ hd
theorem Ru{x:Str}{v:V}{u:Value}{pos:Pos}(a:Gl X x)(b:X.mg x=none)(c:bootBuiltins x=some u)(r:RelV v u)(d:x≠"__name__":=by decide)(hd:(x==("__debug__":Str))=false:=by decide):PE X (.Name x pos) (tC v):=
 λ_ _ _ H _ I h=>jV I a b c ⟨v,H,I,r,h⟩ d hd
variable{a b:Expr}{ta tb:TE}{pos:Pos}
def tB(t:TE):TT:=λσ H Q=>t σ H λx H1=>∃c,x=.bl c/\Q c H1
theorem SO{e:Expr}{t:TE}(h:PE X e t)(a:∀whole,isTrue e X.env whole=(do let v <-whole;standAt e.pos;holding [v] (truthy v)):=by intro _;rfl):PT X e (tB t):=by
 intro pins s σ H Q I b;refine isTrue_plain (aK (h pins s σ H _ I b) λv i ⟨x,H1,c,f,g⟩=>?_) (a _);obtain⟨d,rfl,q⟩:=g;cases f;exact k9 ⟨H1,c,q⟩
variable{tA wC:TT}{rest:List Expr}
def U6(t u:TT):TT:=λσ H Q=>t σ H λc H1=>if c=true then u σ H1 Q else Q false H1
def Vk(t u:TT):TT:=λσ H Q=>t σ H λc H1=>if c=true then Q true H1 else u σ H1 Q
def Vj(t:TT):TT:=λσ H Q=>t σ H λc H1=>Q (!c) H1
theorem pw_and1(b:PT X a tA):PW X (.BoolOp .And [a] pos) tA:=by
 intro d pins s σ H Q I h;refine isTrue_and (aK (b pins s σ H Q I h) λc f e=>?_);cases c with
 |true=>exact isTrue_and_nil e
 |false=>exact e
theorem pw_or1(b:PT X a tA):PW X (.BoolOp .Or [a] pos) tA:=by
 intro d pins s σ H Q I h;refine isTrue_or (aK (b pins s σ H Q I h) λc f e=>?_);cases c with
 |false=>exact isTrue_or_nil e
 |true=>exact e
theorem pw_and(f:PT X a tA)(g:PW X (.BoolOp .And (b::rest) pos) wC):PW X (.BoolOp .And (a::b::rest) pos) (U6 tA wC):=by
 intro i pins s σ H Q I h;refine isTrue_and (aK (f pins s σ H _ I h) λc j ⟨H1,d,e⟩=>?_);cases c with
 |true=>exact g i pins j σ H1 Q d e
 |false=>exact⟨H1,d,e⟩
theorem pw_or(f:PT X a tA)(g:PW X (.BoolOp .Or (b::rest) pos) wC):PW X (.BoolOp .Or (a::b::rest) pos) (Vk tA wC):=by
 intro i pins s σ H Q I h;refine isTrue_or (aK (f pins s σ H _ I h) λc j ⟨H1,d,e⟩=>?_);cases c with
 |true=>exact⟨H1,d,e⟩
 |false=>exact g i pins j σ H1 Q d e
theorem SN(b:PT X a tA):PT X (.UnaryOp .Not a pos) (Vj tA):=by
 intro pins s σ H Q I h;exact isTrue_not (b pins s σ H (λc H1=>Q (!c) H1) I h)
def U7(ta tb:TE):TE:=λσ H Q=>ta σ H λx H1=>∃c,x=.bl c/\if c=true then tb σ H1 Q else Q (.bl false) H1
theorem RT{op}{t:TE}(h:PE X a t):PE X (.BoolOp op [a] pos) t:=λpins s σ H Q I b=>BoolOp_one (h pins s σ H Q I b)
theorem Rr(f:PE X a ta)(g:PE X (.BoolOp .And (b::rest) pos) tb):PE X (.BoolOp .And (a::b::rest) pos) (U7 ta tb):=by
 intro pins s σ H Q I h;refine BoolOp_and (aK (f pins s σ H _ I h) λv i ⟨x,H1,e,j,d⟩=>?_);obtain⟨c,rfl,d⟩:=d;cases j;refine k9 ?_;cases c with
 |true=>exact g pins i σ H1 Q e d
 |false=>exact⟨.bl false,H1,e,rfl,d⟩
end
def aR(K:Frag)(H:Hp)(a:Addr)(xs:List V):Prop:=
 Rd H a (.lst xs)\/
  ∃(o:Obj) (its:Array Value) (n:Nat),K.lookup a=some o/\o.cls=.type "list"/\o.dict=none/\o.data=.seq its n/\its.size<=sizeLine/\Vals xs its.toList
def bJ(K:Frag)(H:Hp)(a:Addr)(xs:List V):Prop:=
 Rd H a (.tup xs)\/
  ∃(o:Obj) (its:Array Value) (n:Nat),K.lookup a=some o/\o.cls=.type "tuple"/\o.data=.seq its n/\its.size<=sizeLine/\Vals xs its.toList
def Ka:Value->Option V
 |.none=>some .aC
 |.bool b=>some (.bl b)
 |.int i _=>some (.int i)
 |.str x _=>some (.str x)
 |.bytes b _=>some (.iM b)
 |.float b _=>some (.oS b)
 |.ref a=>some (.ref a)
 |.type n=>some (.ty n)
 |_=>none
theorem RelV.abs{x:V}{u:Value}(r:RelV x u):Ka u=some x:=by
 cases x with
 |aC=>cases r;rfl
 |bl _=>cases r;rfl
 |int _=>obtain⟨t,rfl⟩:=r;rfl
 |str _=>obtain⟨t,rfl⟩:=r;rfl
 |iM _=>obtain⟨t,rfl⟩:=r;rfl
 |oS _=>obtain⟨t,rfl⟩:=r;rfl
 |ref _=>cases r;rfl
 |ty _=>cases r;rfl
theorem RelV.inj{x y:V}{u:Value}(r:RelV x u)(q:RelV y u):x=y:=Option.some.inj (r.abs.symm.trans q.abs)
theorem Vals.inj:∀{xs ys:List V} {a:List Value},Vals xs a->Vals ys a->xs=ys
 |_,_,_,.nil,.nil=>rfl
 |_,_,_,.cons r t,.cons r' t'=>by rw[r.inj r',Vals.inj t t']
section
variable{X:Cx}{pins:aS}{σ:St}{H:Hp}{s:Shared}{a:Addr}{xs ys:List V}
theorem aR.of{K:Frag}(h:H a=some (.lst xs)):aR K H a xs:=.inl (.inl h)
theorem bJ.of{K:Frag}(h:H a=some (.tup xs)):bJ K H a xs:=.inl (.inl h)
theorem Inv.list(I:Inv X pins σ H s)(h:aR X.K H a xs):∃its:List Value,Vals xs its/\PlainL s.heap a its.toArray/\xs.length<=sizeLine:=by
 rcases h with h|⟨o,its,n,b,hc,hd,c,hz,r⟩
 .obtain⟨z,its,n,r,e⟩:=h.ok I.hok
  exact⟨its,r,⟨_,n,e,rfl,rfl,rfl⟩,z⟩
 .refine⟨its.toList,r,⟨o,n,I.eO a o b,hc,hd,by simpa using c⟩,?_⟩
  have e:=r.length;simp only[gW] at e;omega
theorem Inv.tuple(I:Inv X pins σ H s)(h:bJ X.K H a xs):∃its:List Value,Vals xs its/\IsTup s.heap a its.toArray/\xs.length<=sizeLine:=by
 rcases h with h|⟨o,its,n,b,hc,c,hz,r⟩
 .obtain⟨z,its,r,p⟩:=h.ok I.hok
  exact⟨its,r,p.is,z⟩
 .refine⟨its.toList,r,⟨o,I.eO a o b,hc,n,by simpa using c⟩,?_⟩
  have e:=r.length;simp only[gW] at e;omega
theorem Inv.Jb(I:Inv X pins σ H s)(h:H a=some (.tup xs)):∃(its:List Value) (n:Nat),Vals xs its/\s.heap.get? a=some {cls:=.type "tuple",data:=.seq its.toArray n}/\xs.length<=sizeLine:=by
 obtain⟨z,its,r,n,e⟩:=(show bX X.prog X.w H s.heap a (.tup xs) from I.hok a _ h);exact⟨its,n,r,e,z⟩
theorem Inv.zC(I:Inv X pins σ H s)(h:aR X.K H a xs)(h':aR X.K H a ys):xs=ys:=by
 obtain⟨its,r,⟨o,n,e,_,_,d⟩,_⟩:=I.list h;obtain⟨its',r',⟨o',n',b,_,_,d'⟩,_⟩:=I.list h';rw[e] at b;cases b;rw[d] at d';injection d' with c _;have:its=its':=by simpa using cS toList c
 subst this;exact r.inj r'
theorem Inv.VD(I:Inv X pins σ H s)(h:bJ X.K H a xs)(h':bJ X.K H a ys):xs=ys:=by
 obtain⟨its,r,⟨o,e,_,n,d⟩,_⟩:=I.tuple h;obtain⟨its',r',⟨o',b,_,n',d'⟩,_⟩:=I.tuple h';rw[e] at b;cases b;rw[d] at d';injection d' with c _;have:its=its':=by simpa using cS toList c
 subst this;exact r.inj r'
end
section
variable{X:Cx}{st:Stmt}{rest:List Stmt}{t u:TS}{e:Expr}{te:TE}{pos:Pos}
def Vh:TS:=λD σ H=>D.nx σ H
def Vo(t u:TS):TS:=λD σ H=>t {D with nx:=u D} σ H
theorem SJ:dw X [] Vh:=λ_ _ σ H _ I h=>sZ ⟨σ,H,I,h⟩
theorem SI(h1:PS X st t)(h2:dw X rest u):dw X (st::rest) (Vo t u):=by
 intro pins s σ H D I h;refine wpAny_execs_cons (aK (h1 pins s σ H {D with nx:=u D} I h) λf a q=>?_);cases f with
 |next=>
  obtain⟨σ',H',b,q⟩:=q;exact h2 pins a σ' H' D b q
 |ret v=>exact q
 |brk=>exact q
 |cont=>exact q
theorem Gb(h1:PS X st t):dw X [st] t:=by
 intro pins s σ H D I h;refine wpAny_execs_cons (aK (h1 pins s σ H D I h) λf a q=>?_);cases f with
 |next=>exact sZ q
 |ret v=>exact q
 |brk=>exact q
 |cont=>exact q
theorem Inv.quiet{pins:aS}{σ:St}{H:Hp}{s:Shared}(I:Inv X pins σ H s):interactive X.env=false:=by simp[interactive,I.ok.kind]
def Vc(te:TE):TS:=λD σ H=>te σ H λ_ H1=>D.nx σ H1
theorem Sw(a:PE X e te)(b:swapsWith e none pos.line X.env=pure false:=by rfl):PS X (.Expr e pos) (Vc te):=by
 intro pins s σ H D I h;exact wpAny_Expr_any (aK (a pins s σ H _ I h) λv f ⟨x,H1,c,g,d⟩=>⟨σ,H1,c,d⟩) I.quiet b
def Vn(te:TE):TS:=λD σ H=>te σ H D.rt
theorem SD(a:PE X e te):PS X (.Return (some e) pos) (Vn te):=by
 intro pins s σ H D I h;exact wpAny_Return_some (aK (a pins s σ H _ I h) λv f ⟨x,H1,b,c,d⟩=>⟨x,σ,H1,b,c,d⟩)
def Vf(c:TT)(t u:TS):TS:=λD σ H=>c σ H λb H1=>if b=true then t D σ H1 else u D σ H1
theorem Sz{c:Expr}{a b:List Stmt}{tc:TT}(hc:PT X c tc)(i:dw X a t)(j:dw X b u):PS X (.If c a b pos) (Vf tc t u):=by
 intro pins s σ H D I h;refine wpAny_If (aK (hc pins s σ H _ I h) λd e ⟨H1,f,g⟩=>?_);cases d with
 |true=>exact i pins e σ H1 D f g
 |false=>exact j pins e σ H1 D f g
end
abbrev TG:=V->St->Hp->(St->Hp->Prop)->Prop
abbrev jM:=List V->St->Hp->(St->Hp->Prop)->Prop
def PG(X:Cx)(target:Expr)(t:TG):Prop:=
 ∀(pins:aS) (s:Shared) (σ:St) (H:Hp) (v:V) (u:Value) (Q:St->Hp->Prop),Inv X pins σ H s->RelV v u->t v σ H Q->
  wpAny (model X.prog X.w) X.A (assign target X.env u) (λ_ s'=>∃σ' H',Inv X pins σ' H' s'/\Q σ' H') X.xe s
def jL(X:Cx)(ts:List Expr)(t:jM):Prop:=
 ∀(pins:aS) (s:Shared) (σ:St) (H:Hp) (vs:List V) (us:List Value) (Q:St->Hp->Prop),Inv X pins σ H s->Vals vs us->t vs σ H Q->
  wpAny (model X.prog X.w) X.A (assignInOrder ((assignEach ts X.env).map (·.2)) us) (λ_ s'=>∃σ' H',Inv X pins σ' H' s'/\Q σ' H') X.xe s
abbrev t9:=V->V->Hp->VK->Prop
def BC(X:Cx)(op:Operator)(t:t9):Prop:=
 ∀(pins:aS) (s:Shared) (σ:St) (H:Hp) (x y:V) (v u:Value) (Q:VK),Inv X pins σ H s->RelV x v->RelV y u->t x y H Q->
  wpAny (model X.prog X.w) X.A (inplaceOp op v u) (EP X pins σ Q) X.xe s
section
variable{X:Cx}{pos:Pos}
def oW(i:Nat):TG:=λv σ H Q=>Q (σ.set i (some v)) H
theorem F6{i:Nat}{x:Str}(a:X.N.Nodup)(hi:X.N[i]?=some x)(b:Loc X.env.scope x)(c:X.fn x=true\/X.env.scope.names.lookup x=some .local:=by first|exact .inl rfl|exact .inr rfl|assumption):PG X (.Name x pos) (oW i):=by
 intro pins s σ H v u Q I r h;exact wpAny_assign_Name (Am I a hi b r (λs' d=>⟨_,H,d,h⟩) c)
def D9:jM:=λvs σ H Q=>vs=[]/\Q σ H
def D8(t:TG)(u:jM):jM:=λvs σ H Q=>∃v r,vs=v::r/\t v σ H λσ' H'=>u r σ' H' Q
theorem pB:jL X [] D9:=by
 intro pins s σ H vs a Q I r h;obtain⟨e,h⟩:=h;subst e;cases r;exact assignInOrder_nil ⟨σ,H,I,h⟩
theorem iA{e:Expr}{es:List Expr}{t:TG}{u:jM}(h1:PG X e t)(h2:jL X es u)
  (b:(assignEach (e::es) X.env).map (·.2)=assign e X.env::(assignEach es X.env).map (·.2):=by rfl):jL X (e::es) (D8 t u):=by
 intro pins s σ H vs j Q I r h;obtain⟨v,vr,c,h⟩:=h;subst c;cases r with
 |cons r d=>
  rw[b];refine assignInOrder_cons (aK (h1 pins s σ H _ _ _ I r h) λ_ f ⟨a,H1,g,i⟩=>?_);exact h2 pins f a H1 _ _ Q g d i
def D_(K:Frag)(n:Nat)(t:jM):TG:=λv σ H Q=>∃a xs,v=.ref a/\bJ K H a xs/\xs.length=n/\t xs σ H Q
theorem pA{es:List Expr}{k:Nat}{t:jM}{n:Nat}(hc:X.calm=true)(h:jL X es t)
  (g:(assignEach es X.env).length=n:=by rfl)(c:(assignEach es X.env).findIdx? (·.1)=none:=by rfl):PG X (.Tuple es k pos) (D_ X.K n t):=by
 intro pins s σ H v u Q I r d;obtain⟨a,xs,i,j,hl,d⟩:=d;subst i;cases r;obtain⟨its,f,l,hz⟩:=I.tuple j;refine assign_Tuple_tuple (I.ok.hd hc) l (by simp[g,<-hl,f.length]) c λh' m=>?_;have p:Inv X pins σ H {s with heap:=h'}:=I.kept (t':=s.toks) λb o e=>m b o (bE (aT e)) e;exact h pins _ σ H xs _ Q p (by simpa using f) d
def IX(te:TE)(g:TG):TS:=λD σ H=>te σ H λx H1=>g x σ H1 D.nx
theorem SE{i:Nat}{x:Str}{e:Expr}{te:TE}{pos':Pos}(a:X.N.Nodup)(hi:X.N[i]?=some x)(b:Loc X.env.scope x)(c:PE X e te)(d:swapsWith e (some (.Name x pos')) pos.line X.env=pure false:=by rfl)(f:X.fn x=true\/X.env.scope.names.lookup x=some .local:=by first|exact .inl rfl|exact .inr rfl|assumption):
  PS X (.Assign [.Name x pos'] e pos) (IX te (oW i)):=by
 intro pins s σ H D I h;refine wpAny_Assign_Name (aK (c pins s σ H _ I h) λv m ⟨y,H1,g,j,k⟩=>?_) d;exact Am g a hi b j (λn l=>⟨_,H1,l,k⟩) f
def U8(i:Nat)(te:TE)(ti:t9):TS:=λD σ H=>∃x,σ[i]?=some (some x)/\te σ H λy H1=>ti x y H1 λz H2=>D.nx (σ.set i (some z)) H2
theorem Su{i:Nat}{x:Str}{e:Expr}{te:TE}{op:Operator}{ti:t9}{pos':Pos}(j:X.N.Nodup)(hi:X.N[i]?=some x)(f:Loc X.env.scope x)(n:PE X e te)(o:BC X op ti)(p:X.fn x=true\/X.env.scope.names.lookup x=some .local:=by first|exact .inl rfl|exact .inr rfl|assumption):
  PS X (.AugAssign (.Name x pos') op e pos) (U8 i te ti):=by
 intro pins s σ H D I h;obtain⟨v,q,h⟩:=h;obtain⟨m,t,hl⟩:=I.loc;have g:oA X.env.scope x:=by rcases f with k|k;exact .inl k;exact .inr (.inl k)
 obtain⟨u,r,l⟩:=hl i x v hi q g;refine wpAny_AugAssign_Name ?_;have go:wpAny (model X.prog X.w) X.A (eval e X.env) (λw b=>wpAny (model X.prog X.w) X.A (inplaceOp op u w) (λr d=>wpAny (model X.prog X.w) X.A (storeName X.env x r) (λ_=>SP X pins D .next) X.xe d) X.xe b) X.xe s:=by
  refine aK (n pins s σ H _ I h) λw B ⟨y,H1,C,E,F⟩=>?_;refine aK (o pins B σ H1 v y u w _ C r E F) λz O ⟨P,H2,G,J,K⟩=>?_;exact Am G j hi f J (λQ L=>⟨_,H2,L,K⟩) p
 rcases l with⟨hk,M⟩|⟨hk,c,hc,a⟩
 .exact wpAny_loadName_local I.ok.kind hk t M go
 .rcases hk with hk|hk
  .exact wpAny_loadName_cell I.ok.kind hk hc a go
  .rcases f with k|k
   .have:X.env.scope.names.lookup x=some .free:=hk
    rw[k] at this;cases this
   .have:X.env.scope.names.lookup x=some .free:=hk
    rw[k] at this;cases this
def OY(f:Int->Int->Int):t9:=λx y H Q=>∃i j,x=.int i/\y=.int j/\Q (.int (f i j)) H
theorem OZ:BC X .Add (OY λi j=>i+j):=by
 intro pins s σ H x y v u Q I a b h;obtain⟨i,j,c,d,q⟩:=h;subst c;subst d;obtain⟨t,rfl⟩:=a;obtain⟨t',rfl⟩:=b;exact iadd_int ⟨.int _,H,I.tok _,⟨_,rfl⟩,q⟩
end
section
variable{X:Cx}{pos:Pos}
def Vu(c:TT)(tb:TS):TS:=λD σ H=>∃W:Nat->St->Hp->Prop,(∃m,W m σ H)/\∀m σ H,W m σ H->
 c σ H λb H1=>if b=true then ∃N:St->Hp->Prop,(∀σ' H',N σ' H'->∃m',m'<m/\W m' σ' H')/\tb {D with nx:=N,ct:=N,bk:=D.nx} σ H1 else D.nx σ H1
theorem SH{c:Expr}{body:List Stmt}{tc:TT}{tb:TS}(o:PassesOwn (model X.prog X.w) X.A X.env X.xe)(hc:PT X c tc)(r:dw X body tb):PS X (.While c body [] pos) (Vu tc tb):=by
 intro pins s σ H D I h;obtain⟨W,⟨m0,t⟩,turn⟩:=h;refine wpAny_While (codeAny_whileLoop (λn s'=>∃σ' H',Inv X pins σ' H' s'/\W n σ' H') ?_ m0 ⟨σ,H,I,t⟩);rintro n u ⟨d,H1,x,y⟩;refine nK o (aK (hc pins u d H1 _ x (turn n d H1 y)) λb z ⟨H2,p,g⟩=>?_);cases b with
 |true=>
  obtain⟨N,q,g⟩:=g;rw[av rfl];refine nK o (aK (r pins z d H2 _ p g) λf B i=>?_);cases f with
  |next=>
   obtain⟨a,e,j,n3⟩:=i;obtain⟨k,l,m⟩:=q a e n3;exact⟨k,l,a,e,j,m⟩
  |cont=>
   obtain⟨a,e,j,n3⟩:=i;obtain⟨k,l,m⟩:=q a e n3;exact⟨k,l,a,e,j,m⟩
  |brk=>exact i
  |ret v=>exact i
 |false=>
  rw[ay bZ];exact sZ ⟨d,H2,p,g⟩
end
structure It where
 go:Nat->Hp->Prop
 wO:Nat->Hp->V->Hp->Prop
 stop:Nat->Hp->Prop
def gH(X:Cx)(pins:aS)(H:Hp)(b:Addr):Prop:=
 H b=none/\b≠X.env.locals/\b∉X.fs/\(b∈X.ex\/X.s₀.heap.objs.size<=b)/\(∀x c,X.env.cells.lookup x=some c->c≠b)/\∀p∈X.pn++pins,p.1≠b
theorem Inv.lM{X:Cx}{pins:aS}{σ:St}{H H':Hp}{s:Shared}{b:Addr}(I:Inv X pins σ H s)(a:s.heap.objs.size<=b)(d:H' b=none):gH X pins H' b:=by
 refine⟨d,kY (cJ I.lt a),I.QJ a,.inr (cR I.sz a),λx c e z=>?_,λp f z=>?_⟩
 .obtain⟨v,q⟩:=I.cell x c e
  exact absurd (cJ q.lt (by rw[z];exact a)) (fS _)
 .exact absurd (cJ (aT (I.pin p f).1) (by rw[z];exact a)) (fS _)
structure Turn(P:Program)(w:World)(K:Frag)(tg:Expr)(J:It)(fp:List Addr)(it:Addr)(tn:Nat->Heap->Prop):Prop where
 mem:it∈fp
 obj:∀i h,tn i h->∀b∈fp,∃o,h.get? b=some o/\∀v,o.data≠ .cell v
 keep:∀i h h',tn i h->(∀b∈fp,∀o,h.get? b=some o->h'.get? b=some o)->tn i h'
 item:∀(X:Cx),X.prog=P->X.w=w->X.K=K->X.calm=true->∀(i:Nat) (pins:aS) (s:Shared) (σ:St) (H:Hp) (E:aQ),Inv X pins σ H s->(∀b∈fp,gH X pins H b)->tn i s.heap->J.go i H->
  wpAny (model P w) X.A (pyNext (.ref it)) (λr s1=>∃u,r=some u/\
   wpAny (model P w) X.A (letOwnedTupleGo tg (.ref it) u) (λ_ s2=>∃x H',Inv X pins σ H' s2/\RelV x u/\J.wO i H x H'/\tn (i+1) s2.heap/\∀b∈fp,H' b=none) E s1) E s
 done:∀(X:Cx),X.prog=P->X.w=w->X.K=K->X.calm=true->∀(i:Nat) (pins:aS) (s:Shared) (σ:St) (H:Hp) (E:aQ),Inv X pins σ H s->(∀b∈fp,gH X pins H b)->tn i s.heap->J.stop i H->
  wpAny (model P w) X.A (pyNext (.ref it)) (λr s1=>r=none/\Inv X pins σ H s1) E s
 self:∀(A:Around) (i:Nat) (s:Shared) (Q:aQ) (E:aQ),tn i s.heap->Q (.ref it) s->wpAny (model P w) A (pyIter (.ref it)) Q E s
abbrev TI:=St->Hp->(It->Hp->Prop)->Prop
def xN(X:Cx)(pins:aS)(σ:St)(tg:Expr)(R:It->Hp->Prop)(itv:Value)(s2:Shared):Prop:=
 ∃(it:Addr) (fp:List Addr) (tn:Nat->Heap->Prop) (J:It) (H':Hp),itv=.ref it/\Inv X pins σ H' s2/\Turn X.prog X.w X.K tg J fp it tn/\tn 0 s2.heap/\(∀b∈fp,gH X pins H' b)/\R J H'
def PI(X:Cx)(tg iter:Expr)(wi:TI):Prop:=
 ∀(pins:aS) (s:Shared) (σ:St) (H:Hp) (R:It->Hp->Prop),Inv X pins σ H s->wi σ H R->
  wpAny (model X.prog X.w) X.A (eval iter X.env) (λv s1=>wpAny (model X.prog X.w) X.A (pyIter v) (xN X pins σ tg R) X.xe s1) X.xe s
theorem qX{M:Model}{A:Around}{E:aQ}{s:Shared}{tg:Expr}{it:Addr}{u:Value}{o:Obj}{n:String}{vs:Array Value}{Q:Unit->Shared->Prop}(b:s.heap.get? it=some o)(hc:o.cls=.type n)(hd:o.data=.fields vs)
  (c:["enumerate","zip","dict_itemiterator","dict_reverseitemiterator","odict_iterator","itertools.zip_longest","itertools.pairwise"].contains n=false)(a:Q () s):wpAny M A (letOwnedTupleGo tg (.ref it) u) Q E s:=by
 unfold letOwnedTupleGo;cases tg<;>first
  |exact aG a
  |(cases u<;>first
    |exact aG a
    |(refine ah (wpAny_load b ?_)
      rw[hc,hd];show wpAny M A (if (["enumerate","zip","dict_itemiterator","dict_reverseitemiterator","odict_iterator","itertools.zip_longest","itertools.pairwise"].contains n&&vs[0]? ==some (rawInt _))=true then _ else _) Q E s;rw[ay (by intro h;rw[c,Bool.false_and] at h;cases h)];exact aG a))
def tR(K:Frag)(a:Addr):It:=
 ⟨λi H=>∃xs x,aR K H a xs/\xs[i]?=some x,λi H x H'=>H'=H/\∀xs,aR K H a xs->xs[i]?=some x,λi H=>∃xs,aR K H a xs/\xs.length<=i⟩
def xJ(K:Frag)(a:Addr):It:=
 ⟨λi H=>∃xs x,bJ K H a xs/\xs[i]?=some x,λi H x H'=>H'=H/\∀xs,bJ K H a xs->xs[i]?=some x,λi H=>∃xs,bJ K H a xs/\xs.length<=i⟩
def tS(lo:Int)(n:Nat):It:=⟨λi _=>i<n,λi H x H'=>H'=H/\x=.int (lo+i),λi _=>n<=i⟩
theorem VI{P:Program}{w:World}{K:Frag}{tg:Expr}(a it:Addr):Turn P w K tg (tR K a) [it] it (λi h=>h.IsListIter it a i) where
 mem:=by simp
 obj:=λi h st b f=>by
  have e:b=it:=by simpa using f
  subst e
  obtain⟨o,e,c,d⟩:=st
  exact⟨o,e,λv z=>by rw[d] at z;cases z⟩
 keep:=λi h h' st k=>st.at λo e=>k it (by simp) o e
 item:=by
  intro X m n q hc i pins s σ H E I j st r
  subst m n q
  obtain⟨xs,x,l,t⟩:=r
  obtain⟨its,y,p,hz⟩:=I.list l
  obtain⟨u,C,D⟩:=y.get t
  obtain⟨f0,f1,f2,A,f4,B⟩:=j it (by simp)
  refine wpAny_pyNext_list_item st p.isList (x:=u) (by simpa using C) λh' g F=> ?_
  have G:Inv X pins σ H {s with heap:=h'}:=I.turned (t':=s.toks) (λb o f e=>(F.2 b f).trans e) f0 f1 A f4 B
  obtain⟨o,e,c,d⟩:=id g
  exact⟨u,rfl,qX (s:={s with heap:=h'}) e c d (by decide) ⟨x,H,G,D,⟨rfl,λys J=>by rw[I.zC J l];exact t⟩,g,λb f=>(j b f).1⟩⟩
 done:=by
  intro X m n q hc i pins s σ H E I j st r
  subst m n q
  obtain⟨xs,l,t⟩:=r
  obtain⟨its,y,p,hz⟩:=I.list l
  obtain⟨f0,f1,f2,A,f4,B⟩:=j it (by simp)
  have hl:=y.length
  exact wpAny_pyNext_list_end (I.ok.hd hc) st p.isList (by simp;omega) λh' L=>⟨rfl,I.turned (t':=s.toks) (λb o f e=>L b o f e) f0 f1 A f4 B⟩
 self:=λ_ _ _ _ _ st h=>wpAny_pyIter_listiter st h
theorem VN{P:Program}{w:World}{K:Frag}{tg:Expr}(a it:Addr):Turn P w K tg (xJ K a) [it] it (λi h=>h.IsTupleIter it a i) where
 mem:=by simp
 obj:=λi h st b f=>by
  have e:b=it:=by simpa using f
  subst e
  obtain⟨o,e,c,d⟩:=st
  exact⟨o,e,λv z=>by rw[d] at z;cases z⟩
 keep:=λi h h' st k=>st.at λo e=>k it (by simp) o e
 item:=by
  intro X m n q hc i pins s σ H E I j st r
  subst m n q
  obtain⟨xs,x,l,t⟩:=r
  obtain⟨its,y,p,hz⟩:=I.tuple l
  obtain⟨u,C,D⟩:=y.get t
  obtain⟨f0,f1,f2,A,f4,B⟩:=j it (by simp)
  refine wpAny_pyNext_tuple_item st (show s.heap.IsTuple a its.toArray from p) (x:=u) (by simpa using C) λh' g F=> ?_
  have G:Inv X pins σ H {s with heap:=h'}:=I.turned (t':=s.toks) (λb o f e=>(F.2 b f).trans e) f0 f1 A f4 B
  obtain⟨o,e,c,d⟩:=id g
  exact⟨u,rfl,qX (s:={s with heap:=h'}) e c d (by decide) ⟨x,H,G,D,⟨rfl,λys J=>by rw[I.VD J l];exact t⟩,g,λb f=>(j b f).1⟩⟩
 done:=by
  intro X m n q hc i pins s σ H E I j st r
  subst m n q
  obtain⟨xs,l,t⟩:=r
  obtain⟨its,y,p,hz⟩:=I.tuple l
  obtain⟨f0,f1,f2,A,f4,B⟩:=j it (by simp)
  have hl:=y.length
  exact wpAny_pyNext_tuple_end (I.ok.hd hc) st (show s.heap.IsTuple a its.toArray from p) (by simp;omega) λh' L=>⟨rfl,I.turned (t':=s.toks) (λb o f e=>L b o f e) f0 f1 A f4 B⟩
 self:=λ_ _ _ _ _ st h=>wpAny_pyIter_tupleiter st h
theorem VJ{P:Program}{w:World}{K:Frag}{tg:Expr}(it:Addr)(lo:Int)(n:Nat):Turn P w K tg (tS lo n) [it] it (λi h=>IsRangeIter h it (lo+(i:Nat)*1) ((n:Int) - (i:Nat)) 1) where
 mem:=by simp
 obj:=λi h st b a=>by
  have e:b=it:=by simpa using a
  subst e
  exact⟨_,st,λv z=>by
   have r:Data.fields _=Data.cell v:=z
   cases r⟩
 keep:=λi h h' st k=>k it (by simp) _ st
 item:=by
  intro X f g j hc i pins s σ H E I d st l
  subst f g j
  obtain⟨f0,f1,f2,m,f4,p⟩:=d it (by simp)
  have W:=Walks.range (prog:=X.prog) (w:=X.w) (I.ok.hd hc) it lo 1 n
  refine W.item i s _ _ l st λv h' q u c x=> ?_
  obtain⟨t,rfl⟩:=u
  have y:Inv X pins σ H {s with heap:=h',toks:=q}:=I.turned (λb o a e=>x b o (by simpa using a) e) f0 f1 m f4 p
  refine⟨_,rfl,qX (s:={s with heap:=h',toks:=q}) (n:="range_iterator") c rfl rfl (by decide) ⟨.int (lo+i),H,y,⟨t,?_⟩,⟨rfl,rfl⟩,c,λb a=>(d b a).1⟩⟩
  rw[Int.mul_one]
 done:=by
  intro X f g j hc i pins s σ H E I d st l
  subst f g j
  obtain⟨f0,f1,f2,m,f4,p⟩:=d it (by simp)
  exact wpAny_pyNext_range_end (I.ok.hd hc) st (by have:n<=i:=l;omega) λh' A=>⟨rfl,I.turned (t':=s.toks) (λb o a e=>A b o a e) f0 f1 m f4 p⟩
 self:=λ_ _ _ _ _ st h=>wpAny_pyIter_rangeiter st h
section
variable{X:Cx}{tg:Expr}
theorem S2{pins:aS}{σ:St}{H:Hp}{s:Shared}{R:It->Hp->Prop}{E:aQ}{lo hi:Int}{t u v:Tok}{a:Nat}(I:Inv X pins σ H s)(h1: -(2 ^ 62)<=lo)(h2:lo<2 ^ 62)(d: -(2 ^ 62)<=hi)(f:hi<2 ^ 62)
  (q:R (tS lo (hi - lo).toNat) H):wpAny (model X.prog X.w) X.A (pyIter (.ref s.heap.objs.size)) (xN X pins σ tg R) E {s with heap:=s.heap.push {cls:=.type "range",data:=.fields #[.int lo t,.int hi u,.int 1 v]},toks:=a}:=by
 refine wpAny_pyIter_range (IsRange.new ..) (small_one h1 h2 d f) ?_;have c:Inv X pins σ H {s with heap:=s.heap.push {cls:=.type "range",data:=.fields #[.int lo t,.int hi u,.int 1 v]},toks:=a}:=I.kept λb o e=>bw _ e;refine⟨(s.heap.push {cls:=.type "range",data:=.fields #[.int lo t,.int hi u,.int 1 v]}).objs.size,[(s.heap.push {cls:=.type "range",data:=.fields #[.int lo t,.int hi u,.int 1 v]}).objs.size],_,_,H,rfl,
  c.kept (t':=a) λb o e=>bw _ e,VJ _ lo (hi - lo).toNat,?_,λb g=>?_,q⟩
 .have h:lo+((0:Nat):Int)*1=lo:=by simp
  have i:(((hi - lo).toNat:Nat):Int) - ((0:Nat):Int)=Builtin.Range.rangeSize lo hi 1:=by rw[rangeSize_one];split<;>omega
  show IsRangeIter _ _ (lo+((0:Nat):Int)*1) ((((hi - lo).toNat:Nat):Int) - ((0:Nat):Int)) 1;rw[h,i];exact cA _ rfl
 .have e:b=(s.heap.push {cls:=.type "range",data:=.fields #[.int lo t,.int hi u,.int 1 v]}).objs.size:=by simpa using g
  subst e;exact c.lM (aF _) (c.hok.fresh (aF _))
def OO(ta:TA):TI:=λσ H R=>ta σ H λvs H1=>∃j:Int,vs=[.int j]/\-(2 ^ 62)<=j/\j<2 ^ 62/\R (tS 0 j.toNat) H1
theorem R8{a:Expr}{ta:TA}{p pos:Pos}(c:Gl X "range")(d:X.mg "range"=none)(f:PA X [a] ta)(g:starEach [a] X.env=[(false,eval a X.env)]:=by rfl):PI X tg (.Call (.Name "range" p) [a] [] pos) (OO ta):=by
 intro pins s σ H R I h;refine Call_ (jV I c d boot_range (nG (aK (f pos pins s σ H _ I h) λn o ⟨vs,H1,i,k,b⟩=>?_) g rfl));obtain⟨j,e,b,l,q⟩:=b;subst e;cases k with
 |cons r m=>
  cases m;obtain⟨t,rfl⟩:=r;exact call_range_1 (S2 i (by omega) (by omega) b l (by simpa using q))
def Ve(wi:TI)(g:TG)(tb:TS):TS:=λD σ H=>wi σ H λJ H1=>∃W:Nat->Nat->St->Hp->Prop,(∃m,W 0 m σ H1)/\∀i m σ H,W i m σ H->
 (J.stop i H/\D.nx σ H)\/(J.go i H/\∃N:St->Hp->Prop,(∀σ' H',N σ' H'->∃m',m'<m/\W (i+1) m' σ' H')/\∀x H',J.wO i H x H'->g x σ H' λσ2 H2=>tb {D with nx:=N,ct:=N,bk:=D.nx} σ2 H2)
def sf(fp:List Addr)(h:Heap):aS:=fp.filterMap λb=>(h.get? b).map λo=>(b,o)
theorem u9{fp:List Addr}{h:Heap}{b:Addr}{o:Obj}(a:b∈fp)(e:h.get? b=some o):(b,o)∈sf fp h:=sS.mpr ⟨b,a,by rw[e];rfl⟩
theorem QU{fp:List Addr}{h:Heap}{p:Addr×Obj}(a:p∈sf fp h):p.1∈fp/\h.get? p.1=some p.2:=by
 obtain⟨b,c,e⟩:=sS.mp a;cases q:h.get? b with
 |none=>rw[q] at e;cases e
 |some o=>
  rw[q] at e;have d:(b,o)=p:=Option.some.inj e;subst d;exact⟨c,q⟩
theorem Inv.pinned{pins:aS}{σ:St}{H:Hp}{s:Shared}{fp:List Addr}(I:Inv X pins σ H s)(f:∀b∈fp,gH X pins H b)(g:∀b∈fp,∃o,s.heap.get? b=some o/\∀v,o.data≠ .cell v):Inv X (pins++sf fp s.heap) σ H s:=
 I.F8 λp h=>(bV.mp h).elim (λz=>I.pin p (iE _ z)) λz=>by
  obtain⟨a,e⟩:=QU z;obtain⟨f0,f1,f2,_⟩:=f p.1 a;obtain⟨o,c,d⟩:=g p.1 a;rw[e] at c;cases c;exact⟨e,f0,f1,f2,d⟩
theorem Inv.sO{pins pl:aS}{σ:St}{H:Hp}{s:Shared}(I:Inv X (pins++pl) σ H s):Inv X pins σ H s:=I.F8 λp a=>I.pin p (iE _ (kW _ a))
theorem Sy{iter:Expr}{body:List Stmt}{wi:TI}{g:TG}{tb:TS}{pos:Pos}(y:PassesOwn (model X.prog X.w) X.A X.env X.xe)(hc:X.calm=true)(hi:PI X tg iter wi)(S:PG X tg g)(c:dw X body tb)
  (U:∀x,foldedSetIterable iter X.env x=pure x:=by intro _;rfl):PS X (.For tg iter body [] pos) (Ve wi g tb):=by
 intro pins s σ H D I h;refine wpAny_For (aK (hi pins s σ H _ I h) λv s1 h1=>aK h1 λV s2 h2=>?_) U;obtain⟨it,fp,O,J,H2,e,Y,T,E,f2,W,⟨m0,Z⟩,turn⟩:=h2;subst e;have j:∀{H':Hp},(∀b∈fp,H' b=none)->∀b∈fp,gH X pins H' b:=λhn b c=>⟨hn b c,(f2 b c).2⟩;refine codeAny_forLoop_any (λn s'=>∃i σ' H',Inv X pins σ' H' s'/\O i s'.heap/\(∀b∈fp,H' b=none)/\W i n σ' H') ?_ m0 ⟨0,σ,H2,Y,E,λb c=>(f2 b c).1,Z⟩;rintro n P ⟨i,k,C,Q,z,B,w3⟩;rcases turn i n k C w3 with⟨stop,qn⟩|⟨go,N,hN,step⟩
 .refine nK y (aK (T.done X rfl rfl rfl hc i pins P k C X.xe Q (j B) z stop) λr s4 ⟨F,I4⟩=>?_)
  subst F;exact sZ ⟨k,C,I4,qn⟩
 .refine nK y (aK (T.item X rfl rfl rfl hc i pins P k C X.xe Q (j B) z go) λr s4 ⟨u,F,h4⟩=>?_)
  subst F;refine nK y (aK h4 λ_ s5 ⟨x,R,I5,r5,y5,t,G⟩=>?_);have K:=I5.pinned (j G) (T.obj _ _ t);refine nK y (aK (S _ s5 k R x u _ K r5 (step x R y5)) λ_ s6 ⟨L,H6,I6,q6⟩=>?_);refine nK y (aK (c _ s6 L H6 _ I6 q6) λf M q=>?_);have again:∀{a:St} {l:Hp},Inv X (pins++sf fp s5.heap) a l M->N a l->∃m,m<n/\∃i σ' H',Inv X pins σ' H' M/\O i M.heap/\(∀b∈fp,H' b=none)/\W i m σ' H':=λ {a l} p n7=>by
   obtain⟨m',hm,w7⟩:=hN a l n7;refine⟨m',hm,i+1,a,l,p.sO,T.keep _ _ _ t λb c o e=>(p.pin (b,o) (iE _ (iE _ (u9 c e)))).1,λb c=>?_,w7⟩;obtain⟨o,e,d⟩:=T.obj _ _ t b c;exact(p.pin (b,o) (iE _ (iE _ (u9 c e)))).2.1
  cases f with
  |next=>obtain⟨a,l,p,n7⟩:=q;exact again p n7
  |cont=>obtain⟨a,l,p,n7⟩:=q;exact again p n7
  |brk=>obtain⟨a,l,p,q⟩:=q;exact⟨a,l,p.sO,q⟩
  |ret v=>obtain⟨x7,a,l,p,r7,q⟩:=q;exact⟨x7,a,l,p.sO,r7,q⟩
end
abbrev R2:=V->V->Hp->VK->Prop
def bA(X:Cx)(f:Value->Value->Sem Value)(r:R2):Prop:=
 ∀(pins:aS) (s:Shared) (σ:St) (H:Hp) (x y:V) (v u:Value) (Q:VK),Inv X pins σ H s->RelV x v->RelV y u->r x y H Q->
  wpAny (model X.prog X.w) X.A (f v u) (EP X pins σ Q) X.xe s
def eF(X:Cx)(f:Value)(r:List V->Hp->VK->Prop):Prop:=
 ∀(pins:aS) (s:Shared) (σ:St) (H:Hp) (xs:List V) (us:List Value) (Q:VK),Inv X pins σ H s->Vals xs us->r xs H Q->
  wpAny (model X.prog X.w) X.A (call f us) (EP X pins σ Q) X.xe s
def J_(X:Cx)(r:V->Hp->(Bool->Hp->Prop)->Prop):Prop:=
 ∀(pins:aS) (s:Shared) (σ:St) (H:Hp) (x:V) (v:Value) (Q:Bool->Hp->Prop),Inv X pins σ H s->RelV x v->r x H Q->
  wpAny (model X.prog X.w) X.A (truthy v) (TP X pins σ Q) X.xe s
def sH(r:R2)(ta tb:TE):TE:=λσ H Q=>ta σ H λx H1=>tb σ H1 λy H2=>r x y H2 Q
def rI(C:Int->Int->Prop)(g:Int->Int->V):R2:=λx y H Q=>∃i j,x=.int i/\y=.int j/\C i j/\Q (g i j) H
def jd(g:Int->Int->V):R2:=λx y H Q=>∃i j,x=.int i/\y=.int j/\Q (g i j) H
section
variable{X:Cx}{a b c:Expr}{ta tb tc:TE}{pos:Pos}
theorem yj(g:PE X a ta)(i:PE X b tb){pins:aS}{s:Shared}{σ:St}{H:Hp}{R:V->V->Hp->Prop}(I:Inv X pins σ H s)
  (h:ta σ H λx H1=>tb σ H1 λy H2=>R x y H2){Q:aQ}{f:Value->Value->Sem Value}
  (j:∀v u e x y H2,Inv X pins σ H2 e->RelV x v->RelV y u->R x y H2->wpAny (model X.prog X.w) X.A (f v u) Q X.xe e):
  wpAny (model X.prog X.w) X.A (eval a X.env) (λv c=>wpAny (model X.prog X.w) X.A (eval b X.env) (λu d=>wpAny (model X.prog X.w) X.A (f v u) Q X.xe d) X.xe c) X.xe s:=by
 refine aK (g pins s σ H _ I h) λv k ⟨x,H1,l,m,n⟩=> ?_
 refine aK (i pins k σ H1 _ l n) λu e ⟨y,H2,o,p,q⟩=> ?_
 exact j v u e x y H2 o m p q
theorem RU{op:Operator}{r:R2}(c:bA X (binaryOp op) r)(d:PE X a ta)(e:PE X b tb):PE X (.BinOp a op b pos) (sH r ta tb):=by
 intro pins s σ H Q I h;exact wpAny_BinOp (yj d e I h λv u f x y H2 g i j q=>c pins f σ H2 x y v u Q g i j q)
theorem zT{f:Value->Value->Sem Value}{C:Int->Int->Prop}{g:Int->Int->Int}
  (rule:∀(i j:Int) (t u:Tok) (s:Shared) (Q:aQ) (E:aQ),C i j->Q (.int (g i j) s.toks) {s with toks:=s.toks+1}->wpAny (model X.prog X.w) X.A (f (.int i t) (.int j u)) Q E s):
  bA X f (rI C λi j=>.int (g i j)):=by
 intro pins s σ H x y v u Q I a b h;obtain⟨i,j,rfl,rfl,hc,q⟩:=h;obtain⟨t,rfl⟩:=a;obtain⟨t',rfl⟩:=b;exact rule i j t t' s _ _ hc ⟨.int (g i j),H,I.tok _,⟨_,rfl⟩,q⟩
theorem FQ{f:Value->Value->Sem Value}{g:Int->Int->Int}
  (rule:∀(i j:Int) (t u:Tok) (s:Shared) (Q:aQ) (E:aQ),Q (.int (g i j) s.toks) {s with toks:=s.toks+1}->wpAny (model X.prog X.w) X.A (f (.int i t) (.int j u)) Q E s):
  bA X f (jd λi j=>.int (g i j)):=by
 intro pins s σ H x y v u Q I a b h;obtain⟨i,j,rfl,rfl,q⟩:=h;obtain⟨t,rfl⟩:=a;obtain⟨t',rfl⟩:=b;exact rule i j t t' s _ _ ⟨.int (g i j),H,I.tok _,⟨_,rfl⟩,q⟩
theorem zS{f:Value->Value->Sem Value}{g:Int->Int->Bool}
  (rule:∀(i j:Int) (t u:Tok) (s:Shared) (Q:aQ) (E:aQ),Q (.bool (g i j)) s->wpAny (model X.prog X.w) X.A (f (.int i t) (.int j u)) Q E s):
  bA X f (jd λi j=>.bl (g i j)):=by
 intro pins s σ H x y v u Q I a b h;obtain⟨i,j,rfl,rfl,q⟩:=h;obtain⟨t,rfl⟩:=a;obtain⟨t',rfl⟩:=b;exact rule i j t t' s _ _ ⟨.bl (g i j),H,I,rfl,q⟩
def tL(i j:Int):Prop:=(-(2 ^ 64)<i/\i<2 ^ 64)\/(-(2 ^ 64)<j/\j<2 ^ 64)
theorem tL.ok{i j:Int}(h:tL i j):IntMulOk i j:=by
 rcases h with⟨h1,h2⟩|⟨h1,h2⟩
 .exact .of_left (intBits_le_64 h1 h2)
 .exact .of_right (intBits_le_64 h1 h2)
theorem QY:bA X (binaryOp .Add) (jd λi j=>.int (i+j)):=FQ λ_ _ _ _ _ _ _ q=>add_int q
theorem Rk:bA X (binaryOp .Sub) (jd λi j=>.int (i - j)):=FQ λ_ _ _ _ _ _ _ q=>sub_int q
theorem Rh:bA X (binaryOp .Mult) (rI tL λi j=>.int (i*j)):=zT λ_ _ _ _ _ _ _ hc q=>mul_int q hc.ok
theorem Rg:bA X (binaryOp .Mod) (rI (λ_ j=>0<j) λi j=>.int (i%j)):=zT λi j _ _ _ _ _ hc q=>by
 have h1:(0:Int)<j:=hc;exact mod_int' (by omega) (by rw[Int.fmod_eq_emod_of_nonneg i (by omega)];exact q)
end
def Iw:V->V->Bool
 |.aC,.aC=>true|.aC,.int _=>true|.int _,.aC=>true|.aC,.bl _=>true|.bl _,.aC=>true|.aC,.str _=>true|.str _,.aC=>true
 |.int _,.int _=>true|.bl _,.bl _=>true|.str _,.str _=>true|.iM _,.iM _=>true
 |.int _,.str _=>true|.str _,.int _=>true|.bl _,.str _=>true|.str _,.bl _=>true
 |_,_=>false
def z6:R2:=λx y H Q=>Iw x y=true/\Q (.bl (decide (x=y))) H
def z9:R2:=λx y H Q=>Iw x y=true/\Q (.bl (!decide (x=y))) H
theorem Dg{i j:Int}:decide (V.int i=V.int j)=(i==j):=by
 rw[nH];simp
theorem De{i j:Bool}:decide (V.bl i=V.bl j)=(i==j):=by
 rw[nH];simp
theorem Dh{i j:Str}:decide (V.str i=V.str j)=(i==j):=by
 rw[nH];simp
theorem Df{i j:Array UInt8}:decide (V.iM i=V.iM j)=(i.toList==j.toList):=by
 rw[nH];cases i;cases j;simp
section
variable{X:Cx}{a b c:Expr}{ta tb tc:TE}{pos:Pos}
theorem cC{pins:aS}{σ:St}{H:Hp}{s:Shared}{Q:VK}{k a:Bool}(I:Inv X pins σ H s)(q:Q (.bl k) H)(e:k=a):EP X pins σ Q (.bool a) s:=by
 subst e;exact⟨.bl k,H,I,rfl,q⟩
theorem Q5:bA X (compareOp .Eq) z6:=by
 intro pins s σ H x y v u Q I c a h;obtain⟨b,q⟩:=h;cases x with
 |aC=>
  cases c;cases y with
  |aC=>cases a;exact PySem.EqNone.eq_none_none (cC I q (by simp))
  |bl j=>cases a;exact PySem.EqNone.eq_none_bool (cC I q (by simp))
  |int j=>obtain⟨t',rfl⟩:=a;exact PySem.EqNone.eq_none_int (cC I q (by simp))
  |str j=>obtain⟨t',rfl⟩:=a;exact PySem.EqNone.eq_none_str (cC I q (by simp))
  |_=>exact absurd (show false=true from b) bZ
 |bl i=>
  cases c;cases y with
  |aC=>cases a;exact PySem.EqNone.eq_bool_none (cC I q (by simp))
  |bl j=>cases a;exact eq_bool (cC I q De)
  |str j=>obtain⟨t',rfl⟩:=a;exact PySem.EqMixed.eq_bool_str (cC I q (by simp))
  |_=>exact absurd (show false=true from b) bZ
 |int i=>
  obtain⟨t,rfl⟩:=c;cases y with
  |aC=>cases a;exact PySem.EqNone.eq_int_none (cC I q (by simp))
  |int j=>obtain⟨t',rfl⟩:=a;exact eq_int (cC I q Dg)
  |str j=>obtain⟨t',rfl⟩:=a;exact PySem.EqMixed.eq_int_str (cC I q (by simp))
  |_=>exact absurd (show false=true from b) bZ
 |str i=>
  obtain⟨t,rfl⟩:=c;cases y with
  |aC=>cases a;exact PySem.EqNone.eq_str_none (cC I q (by simp))
  |bl j=>cases a;exact PySem.EqMixed.eq_str_bool (cC I q (by simp))
  |int j=>obtain⟨t',rfl⟩:=a;exact PySem.EqMixed.eq_str_int (cC I q (by simp))
  |str j=>obtain⟨t',rfl⟩:=a;exact eq_str (cC I q Dh)
  |_=>exact absurd (show false=true from b) bZ
 |iM i=>
  obtain⟨t,rfl⟩:=c;cases y with
  |iM j=>obtain⟨t',rfl⟩:=a;exact PySem.W.eq_bytes (cC I q Df)
  |_=>exact absurd (show false=true from b) bZ
 |_=>cases y<;>exact absurd (show false=true from b) bZ
theorem Ri:bA X (compareOp .NotEq) z9:=by
 intro pins s σ H x y v u Q I c a h;obtain⟨b,q⟩:=h;cases x with
 |aC=>
  cases c;cases y with
  |aC=>cases a;exact PySem.EqNone.ne_none_none (cC I q (by simp))
  |bl j=>cases a;exact PySem.EqNone.ne_none_bool (cC I q (by simp))
  |int j=>obtain⟨t',rfl⟩:=a;exact PySem.EqNone.ne_none_int (cC I q (by simp))
  |str j=>obtain⟨t',rfl⟩:=a;exact PySem.EqNone.ne_none_str (cC I q (by simp))
  |_=>exact absurd (show false=true from b) bZ
 |bl i=>
  cases c;cases y with
  |aC=>cases a;exact PySem.EqNone.ne_bool_none (cC I q (by simp))
  |bl j=>cases a;exact ne_bool (cC I q (cS not De))
  |str j=>obtain⟨t',rfl⟩:=a;exact PySem.EqMixed.ne_bool_str (cC I q (by simp))
  |_=>exact absurd (show false=true from b) bZ
 |int i=>
  obtain⟨t,rfl⟩:=c;cases y with
  |aC=>cases a;exact PySem.EqNone.ne_int_none (cC I q (by simp))
  |int j=>obtain⟨t',rfl⟩:=a;exact ne_int (cC I q (cS not Dg))
  |str j=>obtain⟨t',rfl⟩:=a;exact PySem.EqMixed.ne_int_str (cC I q (by simp))
  |_=>exact absurd (show false=true from b) bZ
 |str i=>
  obtain⟨t,rfl⟩:=c;cases y with
  |aC=>cases a;exact PySem.EqNone.ne_str_none (cC I q (by simp))
  |bl j=>cases a;exact PySem.EqMixed.ne_str_bool (cC I q (by simp))
  |int j=>obtain⟨t',rfl⟩:=a;exact PySem.EqMixed.ne_str_int (cC I q (by simp))
  |str j=>obtain⟨t',rfl⟩:=a;exact ne_str (cC I q (cS not Dh))
  |_=>exact absurd (show false=true from b) bZ
 |iM i=>
  obtain⟨t,rfl⟩:=c;cases y with
  |iM j=>obtain⟨t',rfl⟩:=a;exact PySem.W.ne_bytes (cC I q (cS not Df))
  |_=>exact absurd (show false=true from b) bZ
 |_=>cases y<;>exact absurd (show false=true from b) bZ
theorem Rc:bA X (compareOp .Lt) (jd λi j=>.bl (decide (i<j))):=zS λ_ _ _ _ _ _ _ q=>lt_int q
theorem Ra:bA X (compareOp .LtE) (jd λi j=>.bl (decide (i<=j))):=zS λ_ _ _ _ _ _ _ q=>le_int q
theorem Q8:bA X (compareOp .Gt) (jd λi j=>.bl (decide (j<i))):=zS λ_ _ _ _ _ _ _ q=>gt_int q
theorem Rf:bA X (compareOp .Lt) (λx y H Q=>∃i j,x=.str i/\y=.str j/\Q (.bl (decide (i.cps.toList<j.cps.toList))) H):=by
 intro pins s σ H x y v u Q I a b h;obtain⟨i,j,rfl,rfl,q⟩:=h;obtain⟨t,rfl⟩:=a;obtain⟨t',rfl⟩:=b;exact lt_str (cC I q rfl)
theorem Q_:bA X (compareOp .Is) (λx y H Q=>y=.aC/\Q (.bl (decide (x=.aC))) H):=by
 intro pins s σ H x y v u Q I a b h;obtain⟨rfl,q⟩:=h;cases b;refine is_none_gen (cC I q ?_);cases x<;>first
  |(cases a;rfl)
  |(obtain⟨t,rfl⟩:=a;rfl)
theorem FU:bA X (compareOp .IsNot) (λx y H Q=>y=.aC/\Q (.bl (!decide (x=.aC))) H):=by
 intro pins s σ H x y v u Q I a b h;obtain⟨rfl,q⟩:=h;cases b;refine isnot_none_gen (cC I q ?_);cases x<;>first
  |(cases a;rfl)
  |(obtain⟨t,rfl⟩:=a;rfl)
theorem bA.or{f:Value->Value->Sem Value}{r r':R2}(h:bA X f r)(h':bA X f r'):bA X f (λx y H Q=>r x y H Q\/r' x y H Q):=by
 intro pins s σ H x y v u Q I a b q;rcases q with q|q
 .exact h pins s σ H x y v u Q I a b q
 .exact h' pins s σ H x y v u Q I a b q
theorem jZ(b:Expr){op:CmpOp}(h:op≠ .In:=by decide)(h2:op≠ .NotIn:=by decide):behindInMarks op b=false:=by
 have a:(op==CmpOp.In)=false:=by cases op<;>first|rfl|exact absurd rfl h
 have c:(op==CmpOp.NotIn)=false:=by cases op<;>first|rfl|exact absurd rfl h2
 cases b<;>simp[behindInMarks,a,c]
theorem RD{op:CmpOp}{r:R2}(c:bA X (compareOp op) r)(d:PE X a ta)(e:PE X b tb)(f:behindInMarks op b=false):PE X (.Compare a [op] [b] pos) (sH r ta tb):=by
 intro pins s σ H Q I h;exact wpAny_Compare1 (yj d e I h λv u g x y H2 i j k q=>c pins g σ H2 x y v u Q i j k q) f
def Ay(t:TE):TT:=λσ H Q=>t σ H λx H'=>∃k,x=.bl k/\Q k H'
theorem SM{op:CmpOp}{r:R2}(d:bA X (compareOp op) r)(f:PE X a ta)(g:PE X b tb)(i:behindInMarks op b=false):PT X (.Compare a [op] [b] pos) (Ay (sH r ta tb)):=by
 intro pins s σ H Q I h;refine wpAny_isTrue_Compare1 (aK (f pins s σ H _ I h) λv j ⟨x,H1,l,m,n⟩=>aK (g pins j σ H1 _ l n) λu o ⟨y,H2,p,q,t⟩=>
  aK (d pins o σ H2 x y v u _ p m q t) λc D ⟨z,w,A,B,k,e,C⟩=>?_) i
 subst e;cases B;exact k9 ⟨w,A,C⟩
def Av(r r':R2)(ta tb tc:TE):TE:=λσ H Q=>ta σ H λx H1=>tb σ H1 λy H2=>r x y H2 λz H3=>∃k,z=.bl k/\
 (if k=true then tc σ H3 λw' H4=>r' y w' H4 Q else Q (.bl false) H3)
theorem RC{op f:CmpOp}{r r':R2}(n:bA X (compareOp op) r)(g:bA X (compareOp f) r')(o:PE X a ta)(p:PE X b tb)(hc:PE X c tc)
  (q:lastMarks [op,f] [b,c]=false:=by with_unfolding_all rfl):PE X (.Compare a [op,f] [b,c] pos) (Av r r' ta tb tc):=by
 intro pins s σ H Q I h;refine Compare_chain (aK (o pins s σ H _ I h) λv t ⟨x,H1,w,A,B⟩=>chain_link (aK (p pins t σ H1 _ w B) λu C ⟨y,H2,D,i,E⟩=>
  aK (n pins C σ H2 x y v u _ D A i E) λd F ⟨z,j,l,G,k,e,m⟩=>?_)) q
 subst e;cases G;refine k9 ?_;cases k with
 |false=>exact ite_ff ⟨.bl false,j,l,rfl,m⟩
 |true=>exact ite_tt (chain_last (aK (hc pins F σ j _ l m) λJ s4 ⟨K,L,M,N,O⟩=>g pins s4 σ L y K u J Q M i N O))
theorem SK{op f:CmpOp}{r r':R2}(n:bA X (compareOp op) r)(g:bA X (compareOp f) r')(o:PE X a ta)(p:PE X b tb)(hc:PE X c tc)
  (q:lastMarks [op,f] [b,c]=false:=by with_unfolding_all rfl):PT X (.Compare a [op,f] [b,c] pos) (Ay (Av r r' ta tb tc)):=by
 intro pins s σ H Q I h;refine isTrue_chain (aK (o pins s σ H _ I h) λv t ⟨x,H1,w,A,B⟩=>test_link (aK (p pins t σ H1 _ w B) λu C ⟨y,H2,D,i,E⟩=>
  aK (n pins C σ H2 x y v u _ D A i E) λd F ⟨z,j,l,G,k,e,m⟩=>?_)) q
 subst e;cases G;refine k9 ?_;cases k with
 |false=>
  obtain⟨Y,J,K⟩:=m;cases J;exact ite_ff ⟨j,l,K⟩
 |true=>
  refine ite_tt (test_last (aK (hc pins F σ j _ l m) λL s4 ⟨M,N,O,P,R⟩=>aK (g pins s4 σ N y M u L _ O i P R) λd' s5 ⟨Z,S,T,U,k2,V,W⟩=>?_));subst V;cases U;exact k9 ⟨S,T,W⟩
def Cg (K : Frag) (x : V) (H : Hp) (k : Bool) : Prop :=
  match x with
  | .aC => k = false
  | .bl b => k = b
  | .int i => k = (i != 0)
  | .str y => y.length ≤ sizeLine ∧ k = ((y.length : Int) != 0)
  | .iM y => y.size ≤ sizeLine ∧ k = ((y.size : Int) != 0)
  | .ref p => (∃ xs, aR K H p xs ∧ k = !xs.isEmpty) ∨ (∃ xs, bJ K H p xs ∧ k = !xs.isEmpty) ∨ ∃ kvs, H p = some (.dK kvs) ∧ k = !kvs.isEmpty
  | _ => False
theorem O0{κ:Type}{kvs:List (κ×V)}{vs:List (κ×Value)}(r:KV kvs vs):(!vs.isEmpty)= !kvs.isEmpty:=by
 cases r<;>rfl
theorem EG{xs:List V}{its:List Value}(r:Vals xs its):(!its.toArray.isEmpty)= !xs.isEmpty:=by
 cases r<;>simp
theorem o7:(sizeLine:Nat)<2 ^ 63:=by rw[kc];decide
theorem VC : J_ X (fun x H Q => ∃ k, Cg X.K x H k ∧ Q k H) := by
  intro pins s σ H x v Q I d h
  obtain ⟨k, e, q⟩ := h
  have hl := o7
  have l : sizeLine = 16777216 := kc
  cases x with
  | aC =>
    cases d
    have a : k = false := e
    subst a
    exact truthy_none ⟨H, I, q⟩
  | bl b =>
    cases d
    have a : k = b := e
    subst a
    exact k9 ⟨H, I, q⟩
  | int i =>
    obtain ⟨t, rfl⟩ := d
    have a : k = (i != 0) := e
    subst a
    exact PySem.P.truthy_int ⟨H, I, q⟩
  | str y =>
    obtain ⟨t, rfl⟩ := d
    obtain ⟨g, a⟩ : y.length ≤ sizeLine ∧ k = ((y.length : Int) != 0) := e
    subst a
    exact PySem.P.truthy_str (by omega) ⟨H, I.tok _, q⟩
  | iM y =>
    obtain ⟨t, rfl⟩ := d
    obtain ⟨g, a⟩ : y.size ≤ sizeLine ∧ k = ((y.size : Int) != 0) := e
    subst a
    exact PySem.W.truthy_bytes (by omega) ⟨H, I.tok _, q⟩
  | ref p =>
    cases d
    have a : (∃ xs, aR X.K H p xs ∧ k = !xs.isEmpty) ∨ (∃ xs, bJ X.K H p xs ∧ k = !xs.isEmpty) ∨ ∃ kvs, H p = some (.dK kvs) ∧ k = !kvs.isEmpty := e
    rcases a with ⟨xs, f, a⟩ | ⟨xs, f, a⟩ | ⟨kvs, f, a⟩
    · subst a
      obtain ⟨its, r, pl, hz⟩ := I.list f
      have c := r.length
      exact wpAny_truthy_list pl.isList (by simp only [b6]; omega) ⟨H, I.tok _, by rw [EG r]; exact q⟩
    · subst a
      obtain ⟨its, r, pl, hz⟩ := I.tuple f
      have c := r.length
      exact truthy_tuple pl (by simp only [b6]; omega) ⟨H, I.tok _, by rw [EG r]; exact q⟩
    · subst a
      obtain ⟨hz, j, vs, r, m⟩ : kvs.length ≤ sizeLine ∧ (p == sysModules) = false ∧ ∃ vs, KV kvs vs ∧ s.heap.DictOf (cP X.prog X.w) p vs := I.hok p _ f
      have c : kvs.length = vs.length := Paired.length r
      exact wpAny_truthy_dict j m (by omega) ⟨H, I.tok _, by rw [O0 r]; exact q⟩
  | _ => exact (show False from e).elim
theorem QZ:bA X (binaryOp .Add) (λx y H Q=>∃i j,x=.str i/\y=.str j/\i.length+j.length<=sizeLine/\Q (.str (i++j)) H):=by
 intro pins s σ H x y v u Q I a b h;obtain⟨i,j,rfl,rfl,hz,q⟩:=h;obtain⟨t,rfl⟩:=a;obtain⟨t',rfl⟩:=b;exact add_str (λt' c=>⟨.str (i++j),H,I.tok _,⟨_,rfl⟩,q⟩) hz
theorem vals1{x:V}{a:List Value}(r:Vals [x] a):∃u,a=[u]/\RelV x u:=by
 cases r with
 |cons b c=>cases c;exact⟨_,rfl,b⟩
theorem vals2{x y:V}{a:List Value}(r:Vals [x,y] a):∃u b,a=[u,b]/\RelV x u/\RelV y b:=by
 cases r with
 |cons c d=>
  cases d with
  |cons e f=>cases f;exact⟨_,_,rfl,c,e⟩
end
structure xM(h:Heap)(x dx C:Addr)(mA:au):Prop where
 obj:h.get? x=some (instObj C dx)
 ns:h.Ns1 dx mA
 ne:dx≠x
theorem Qa{h:Heap}{dx:Addr}{c:au}(n:h.Ns1 dx c):∃d,h.get? dx=some d/\∀name,lookIn name d=some (c name):=by
 obtain⟨o,es,ep,f,hd,g,_,i⟩:=n;refine⟨o,f,λname=>?_⟩;have e:=i name;unfold nsFind findBy at e;rw[<-Array.find?_toList] at e;unfold lookIn;rw[hd];dsimp only;split
 .rename_i y q
  rw[q] at e;exact cS some e
 .rename_i q
  rw[q] at e;have a:es.toList.any (·.refKey)=false:=by
   rw[List.any_eq_false];intro y j;obtain⟨z,t,b⟩:=g y (Array.mem_toList_iff.mp j);simp[DictEntry.refKey,b]
  have k:¬es.toList.any (·.refKey)=true:=by rw[a];exact bZ
  rw[ay k];exact cS some e
theorem xM.look{h:Heap}{x dx C:Addr}{b:au}(I:xM h x dx C b):∃a,PySem.W.InstAt h x (instObj C dx) C (some a)/\∀name,lookIn name a=some (b name):=
 let ⟨a,c,hl⟩:=Qa I.ns
 ⟨a,⟨I.obj,rfl,rfl,c⟩,hl⟩
theorem jn.some_of{v:V}{o:Option Value}(r:jn (some v) o):∃u,o=some u/\RelV v u:=by
 cases o with
 |none=>exact(show False from r).elim
 |some u=>exact⟨u,rfl,r⟩
section
variable{P:Program}{w:World}{H H':Hp}{h h':Heap}{a C dx:Addr}{fs fs':List (Str×V)}
theorem OV(hok:cB P w H h)(e:H a=some (.ins C dx fs)):∃b,xM h a dx C b/\(∀f,jn (fs.lookup f) (b f))/\PySem.Within b (fs.map (·.1))/\fs.length<=1000/\H dx=some (.own a):=by
 obtain⟨d,z,ne,c,b,n,r,q⟩:=(show bX P w H h a (.ins C dx fs) from hok a _ e);exact⟨b,⟨c,n,ne⟩,r,q,z,d⟩
end
structure xB(K:Frag)(C:Addr):Prop where
 pg:plainGet K C Str.empty=true
 hd:PySem.W.hasDictIn K C=true
 po:PySem.W.plainOver K C=true
 sa:findIn K (.ref C) "__setattr__"=some (some (.builtin "object.__setattr__"))
theorem xB.get{K:Frag}{C:Addr}(c:xB K C)(f:Str):plainGet K C f=true:=c.pg
section
variable{X:Cx}{pins:aS}{σ:St}{H:Hp}{s:Shared}{A:Around}{E:aQ}{Q:aQ}{c:Value}{b:Bool}
inductive iL(K:Frag)(H:Hp):V->Value->Prop where
 |aC:iL K H .aC (.type "NoneType")
 |bl (x:Bool):iL K H (.bl x) (.type "bool")
 |int (i:Int):iL K H (.int i) (.type "int")
 |str (x:Str):iL K H (.str x) (.type "str")
 |oS (x:UInt64):iL K H (.oS x) (.type "float")
 |lst {a:Addr} {xs:List V} (e:H a=some (.lst xs)):iL K H (.ref a) (.type "list")
 |bK {a:Addr} {o:Obj} {xs:List V} (e:H a=some (.bK o (.lst xs))):iL K H (.ref a) (.type "list")
 |tup {a:Addr} {xs:List V} (e:H a=some (.tup xs)):iL K H (.ref a) (.type "tuple")
 |dK {a:Addr} {kvs:List (Key×V)} (e:H a=some (.dK kvs)):iL K H (.ref a) (.type "dict")
 |dT {a:Addr} {kvs:List (List Key×V)} (e:H a=some (.dT kvs)):iL K H (.ref a) (.type "dict")
 |ins {a C dx:Addr} {fs:List (Str×V)} (e:H a=some (.ins C dx fs)) (cl:xB K C) (ha:findIn K (.ref C) "__class__"=some (some (.builtin "object.__class__")))
  (hn:PySem.W.specialIn K (.builtin "object.__class__") "__get__"=some (some (.builtin "getset_descriptor.__get__"))) (htk:PySem.W.takesIn K (.builtin "object.__class__")=some true)
  (hm:PySem.W.mroIn K C (.type "object")=some true):iL K H (.ref a) (.ref C)
theorem O4{x:V}{u t:Value}(I:Inv X pins σ H s)(d:RelV x u)(ty:iL X.K H x t)(e:kitOne X.K t c=some b)(h:∀j,Q (.bool b) {s with toks:=j}):
  wpAny (model X.prog X.w) A (call (.builtin "isinstance") [u,c]) Q E s:=by
 cases ty with
 |aC=>cases (show u=Value.none from d);exact iT PySem.W.kitx_none I.eO True.intro e (λz=>nomatch z) h
 |bl y=>cases (show u=Value.bool y from d);exact iT PySem.W.kitx_bool I.eO True.intro e (λz=>nomatch z) h
 |int i=>obtain⟨t,q⟩:=(show ∃t,u=Value.int i t from d);cases q;exact iT PySem.W.kitx_int I.eO True.intro e (λz=>nomatch z) h
 |str y=>obtain⟨t,q⟩:=(show ∃t,u=Value.str y t from d);cases q;exact iT PySem.W.kitx_str I.eO True.intro e (λz=>nomatch z) h
 |oS y=>obtain⟨t,q⟩:=(show ∃t,u=Value.float y t from d);cases q;exact iT PySem.W.kitx_float I.eO True.intro e (λz=>nomatch z) h
 | @lst a xs f=>
  cases (show u=Value.ref a from d);obtain⟨_,_,n,_,h1⟩:=(show bX X.prog X.w H s.heap a (.lst xs) from I.hok a _ f);exact iT kitx_list I.eO ⟨_,h1,rfl⟩ e (λz=>nomatch z) h
 | @bK a k xs f=>
  cases (show u=Value.ref a from d);obtain⟨_,_,_,n,_,h1⟩:=(show bX X.prog X.w H s.heap a (.bK k (.lst xs)) from I.hok a _ f);exact iT kitx_list I.eO ⟨_,h1,rfl⟩ e (λz=>nomatch z) h
 | @tup a xs f=>
  cases (show u=Value.ref a from d);obtain⟨_,_,_,p⟩:=(show bX X.prog X.w H s.heap a (.tup xs) from I.hok a _ f);obtain⟨o,h1,h2,_⟩:=p.is;exact iT kitx_tuple I.eO ⟨o,h1,h2⟩ e (λz=>nomatch z) h
 | @dK a kvs f=>
  cases (show u=Value.ref a from d);obtain⟨_,_,vs,_,p⟩:=(show bX X.prog X.w H s.heap a (.dK kvs) from I.hok a _ f);obtain⟨o,es,ep,h1,h2,_⟩:=p;exact iT kitx_dict I.eO ⟨o,h1,h2.1⟩ e (λz=>nomatch z) h
 | @dT a kvs f=>
  cases (show u=Value.ref a from d);obtain⟨_,_,xs,_,o,es,ep,h1,h2,_⟩:=(show bX X.prog X.w H s.heap a (.dT kvs) from I.hok a _ f);exact iT kitx_dict I.eO ⟨o,h1,h2.1⟩ e (λz=>nomatch z) h
 | @ins a C dx fs f cl l m g r=>
  cases (show u=Value.ref a from d);obtain⟨v,O,_⟩:=OV I.hok f;obtain⟨B,J,_⟩:=O.look;exact iT (PySem.W.kitx_own (cl.get _) cl.hd l m g r) I.eO J e (λz=>nomatch z) h
end
structure dz(k:Nat)(A:Around):Prop where
 hd:A.handled=none
 dp:A.depth+3*k+5<recursionLimit
 un:A.units+16*k+200<cLine
theorem dz.mono{j k:Nat}{A:Around}(r:dz k A)(h:j<=k):dz j A:=⟨r.hd,by have:=r.dp;omega,by have:=r.un;omega⟩
theorem dz.deeper{k:Nat}{A:Around}(r:dz (k+1) A)(env:Env):dz k (A.deeper env):=
 ⟨r.hd,by have:=r.dp;show A.depth+1+3*k+5<_;omega,by have:=r.un;show A.units+3+16*k+200<_;omega⟩
theorem dz.depth{k:Nat}{A:Around}(r:dz k A):A.depth<recursionLimit:=by have:=r.dp;omega
theorem dz.units{k:Nat}{A:Around}(r:dz k A):A.units+64<cLine:=by have:=r.un;omega
def Vi:TA:=λ_ H Q=>Q [] H
def U'(ta:TE)(tr:TA):TA:=λσ H Q=>ta σ H λx H1=>tr σ H1 λxs H2=>Q (x::xs) H2
section
variable{X:Cx}{e:Expr}{es:List Expr}{te:TE}{t:TA}{pos:Pos}
theorem zW:PA X [] Vi:=λ_ _ _ _ H Q I h=>Calls.spliced_nil ⟨[],H,I,.nil,h⟩
theorem zV(a:PE X e te)(b:PA X es t)(c:starEach (e::es) X.env=(false,eval e X.env)::starEach es X.env:=by rfl):PA X (e::es) (U' te t):=by
 intro pos pins s σ H Q I h;rw[c];show wpAny _ _ (spliced ((false,eval e X.env)::backTo pos (starEach es X.env))) _ _ s;refine wY (aK (a pins s σ H _ I h) λu d ⟨x,H1,f,g,i⟩=>?_);exact aK (b pos pins d σ H1 _ f i) λm n ⟨xs,H2,j,k,l⟩=>⟨x::xs,H2,j,.cons g k,l⟩
def Vr(t:TA):TE:=λσ H Q=>t σ H λxs H1=>xs.length<=sizeLine/\∀p,H1 p=none->Q (.ref p) (upd H1 p (.tup xs))
def Vg(t:TA):TE:=λσ H Q=>t σ H λxs H1=>xs.length<=sizeLine/\∀p,H1 p=none->Q (.ref p) (upd H1 p (.lst xs))
theorem RZ{d}(h:PA X es t):PE X (.Tuple es d pos) (Vr t):=by
 intro pins s σ H Q I f;refine wpAny_Tuple_spliced (aK (h pos pins s σ H _ I f) λg a ⟨xs,H1,c,r,z,q⟩=>⟨by rw[<-r.length];exact z,?_⟩);have i:H1 a.heap.objs.size=none:=c.hok.fresh (aF _);refine⟨.ref a.heap.objs.size,upd H1 a.heap.objs.size (.tup xs),c.laid (t':=a.toks) (λb u e=>bw _ e) (aF _) ?_,rfl,q _ i⟩;exact⟨z,g,r,⟨_,cA _ rfl⟩⟩
theorem RP(h:PA X es t):PE X (.List es pos) (Vg t):=by
 intro pins s σ H Q I d;refine wpAny_List_spliced (aK (h pos pins s σ H _ I d) λf a ⟨xs,H1,c,r,z,q⟩=>⟨by rw[<-r.length];exact z,?_⟩);have g:H1 a.heap.objs.size=none:=c.hok.fresh (aF _);refine⟨.ref a.heap.objs.size,upd H1 a.heap.objs.size (.lst xs),c.laid (t':=a.toks) (λb u e=>bw _ e) (aF _) ?_,rfl,q _ g⟩;exact⟨z,f,0,r,cA _ rfl⟩
end
abbrev Sp:=List V->Hp->VK->XK->Prop
abbrev iV:=List Env->Hp->Shared->XK->aQ
structure tM(P:Program)(w:World)(K:Frag)(mg:au)(base:Heap)(A:Around)(outer:List Env)(s:Shared)(H:Hp):Prop where
 frames:A.frames=some outer
 mod:Mod K mg base
 bs:∀b o,base.get? b=some o->s.heap.get? b=some o/\H b=none
 kB:base.objs.size<=s.heap.objs.size
 i_:s.heap.FunFrames base outer
 lN:∀b∈frs outer,H b=none
 hok:cB P w H s.heap
 bare:AllBare s.gens
def CE(outer:List Env)(P:Program)(w:World)(H:Hp)(s:Shared)(Q:VK)(u:Value)(s':Shared):Prop:=
 ∃v H',s'.os=s.os/\AllBare s'.gens/\Un (frs outer) [] H H' s.heap s'.heap/\cB P w H' s'.heap/\RelV v u/\Q v H'
def CR(CX:iV)(outer:List Env)(P:Program)(w:World)(H:Hp)(s:Shared)(Q:VK)(E:XK)(r:Result)(s':Shared):Prop:=
 match r with
 |.ok (.ret u)=>CE outer P w H s Q u s'
 |.ok _=>False
 |.error e=>CX outer H s E e s'
structure gG(P:Program)(w:World)(K:Frag)(mg:au)(base:Heap)(CX:iV)(k:Nat)(f:Addr)(fd:FuncData)(ps:List Str)(sp:Sp):Prop where
 len:∀vs H Q E,sp vs H Q E->vs.length=ps.length
 run:∀(A:Around) (outer:List Env) (s:Shared) (H:Hp) (args:Args) (us:List Value) (vs:List V) (Q:VK) (E:XK),dz k A->tM P w K mg base A outer s H->BindsTo s fd args (ps.zip us)->Vals vs us->sp vs H Q E->
  codeAny (model P w) A (.call (.ref f) args) (CR CX outer P w H s Q E) s
theorem gG.imp{P:Program}{w:World}{K:Frag}{mg:au}{base:Heap}{CX:iV}{k:Nat}{f:Addr}{fd:FuncData}{ps:List Str}{sp a:Sp}(F:gG P w K mg base CX k f fd ps sp)
  (h:∀vs H Q E,a vs H Q E->sp vs H Q E):gG P w K mg base CX k f fd ps a:=
 ⟨λvs H Q E q=>F.len vs H Q E (h _ _ _ _ q),λA outer s H args b vs Q E c d e g i=>F.run A outer s H args b vs Q E c d e g (h _ _ _ _ i)⟩
section
variable{X:Cx}{pins:aS}{σ:St}{H:Hp}{s s':Shared}
theorem Inv.DJ(I:Inv X pins σ H s):tM X.prog X.w X.K X.mg X.base X.A X.stack s H:=
 ⟨I.ok.frames,I.ok.mod,I.bs,cR I.ok.kB I.sz,I.stack,I.Al,I.hok,I.bare⟩
theorem Inv.after{Q:VK}{u:Value}(I:Inv X pins σ H s)(h:CE X.stack X.prog X.w H s Q u s'):EP X pins σ Q u s':=by
 obtain⟨v,H',os,bare,un,hok,r,q⟩:=h;obtain⟨c,g,d,t,a⟩:=s';obtain rfl:a=s.os:=os;exact⟨v,H',I.call (h':=c) (g':=g) (d':=d) (t':=t) (ch:=[]) un hok bare (λb z=>absurd z (by simp)),r,q⟩
end
def Au(sp:Sp)(lJ:List V)(E:XK)(t:TA):TE:=λσ H Q=>t σ H λvs H1=>sp (vs++lJ) H1 Q E
def Binds(K:Frag)(fd:FuncData)(ps:List Str)(ds:List Value):Prop:=
 ∀(s:Shared) (us:List Value),K.In s.heap->(us++ds).length=ps.length->BindsTo s fd ⟨us,[]⟩ (ps.zip (us++ds))
theorem Binds.all{K:Frag}{fd:FuncData}{ps:List Str}(h:∀a:List Value,a.length=ps.length->bindArgs fd ⟨a,[]⟩=pure (ps.zip a)):Binds K fd ps []:=λs a _ hl=>by
 rw[lg] at hl ⊢;exact .of_eq (h a hl)
def Passes(CX:iV)(X:Cx)(E:XK):Prop:=∀(pins:aS) (σ:St) (H:Hp) (s:Shared) (e:Value) (s':Shared),Inv X pins σ H s->CX X.stack H s E e s'->X.xe e s'
section
variable{X:Cx}{CX:iV}{k:Nat}{f C:Addr}{fd:FuncData}{ps:List Str}{sp:Sp}{lJ:List V}{ds:List Value}{E:XK}{x m:Str}{p pos apos:Pos}{e o:Expr}{es:List Expr}{ta:TE}{t:TA}
theorem To{pins:aS}{σ:St}{H:Hp}{s:Shared}{Q:VK}{a:List Value}{vs:List V}(F:gG X.prog X.w X.K X.mg X.base CX k f fd ps sp)(d:dz k X.A)(g:Binds X.K fd ps ds)(hd:Vals lJ ds)(i:Passes CX X E)
  (I:Inv X pins σ H s)(r:Vals vs a)(h:sp (vs++lJ) H Q E):wpAny (model X.prog X.w) X.A (call (.ref f) a) (EP X pins σ Q) X.xe s:=by
 have c:Vals (vs++lJ) (a++ds):=r.append hd;have hl:(a++ds).length=ps.length:=by rw[<-c.length];exact F.len _ _ _ _ h
 refine wpAny_call (nW (F.run X.A X.stack s H ⟨a,[]⟩ (a++ds) (vs++lJ) Q E d I.DJ (g s a I.eO hl) c h) λr s' b=>?_);cases r with
 |error e=>exact i pins σ H s e s' I b
 |ok fl=>
  cases fl with
  |ret u=>exact I.after b
  |next=>exact False.elim b
  |brk=>exact False.elim b
  |cont=>exact False.elim b
theorem Rx(F:gG X.prog X.w X.K X.mg X.base CX k f fd ps sp)(d:dz k X.A)(g:Gl X x)(i:X.mg x=some (.ref f))(j:keepIn X.K (.ref f)=true)(l:Binds X.K fd ps ds)(hd:Vals lJ ds)(m:Passes CX X E)
  (n:PA X (e::es) t)(a:(x==("__debug__":Str))=false:=by decide)(o:starEach (e::es) X.env=(false,eval e X.env)::starEach es X.env:=by rfl)(b:(backTo pos (starEach es X.env)).any (·.1)=false:=by rfl):
  PE X (.Call (.Name x p) (e::es) [] pos) (Au sp lJ E t):=by
 intro pins s σ H Q I h;refine mj (rC I g i ?_ a);refine callWith_K (h₀:=X.base) I.ok.mod.rA j (aK (n pos pins s σ H _ I h) λu v ⟨vs,H1,c,r,q⟩=>⟨c.eO,?_⟩) o b;exact To F d l hd m c r q
end
structure aV(N P:List Str)(sc:Scope):Prop where
 kind:sc.kind= .function
 co:sc.isCoroutine=false
 gen:sc.isGenerator=false
 nd:N.Nodup
 pre:N.take P.length=P
 par:∀x∈P,sc.names.lookup x=some .local\/sc.names.lookup x=some .cell
 zQ:∀y∈sc.names,y.2≠ .free
theorem CC{kindOf:Str->Option NameKind}{x:Str}:∀{binds:List (Str×Value)} {m:au},(∀v,(x,v)∉binds)->bindL kindOf binds m x=m x
 |[],_,_=>rfl
 |(n,v)::r,m,h=>by
  unfold bindL;rw[CC λw a=>h w (aZ _ a)];split
  .have:x≠n:=by rintro rfl;exact h v bh
   simp[this]
  .rfl
theorem CA{kindOf:Str->Option NameKind}{x:Str}:∀{binds:List (Str×Value)} {m:au},(∀v,(x,v)∉binds)->bindC kindOf binds m x=m x
 |[],_,_=>rfl
 |(n,v)::r,m,h=>by
  unfold bindC;rw[CA λw a=>h w (aZ _ a)];split
  .rfl
  .have:x≠n:=by rintro rfl;exact h v bh
   simp[this]
theorem CB{kindOf:Str->Option NameKind}{x:Str}{v:Value}:∀{P:List Str} {vs:List Value} {i:Nat} {m:au},P.Nodup->P[i]?=some x->vs[i]?=some v->kindOf x=some .local->
  bindL kindOf (P.zip vs) m x=some v
 |[],_,_,_,_,h,_,_=>by simp at h
 |_::_,[],_,_,_,_,h,_=>by simp at h
 |p::P,w::vs,0,m,nd,h1,h2,a=>by
  simp at h1 h2;subst h1;subst h2;show bindL kindOf ((p,w)::P.zip vs) m p=_;unfold bindL;rw[CC λv b=>(j9.mp nd).1 (pY b).1,av a];simp
 |p::P,w::vs,i+1,m,nd,h1,h2,a=>by
  show bindL kindOf ((p,w)::P.zip vs) m x=_;unfold bindL;exact CB (i:=i) (j9.mp nd).2 (by simpa using h1) (by simpa using h2) a
theorem Cz{kindOf:Str->Option NameKind}{x:Str}{v:Value}:∀{P:List Str} {vs:List Value} {i:Nat} {m:au},P.Nodup->P[i]?=some x->vs[i]?=some v->kindOf x≠some .local->
  bindC kindOf (P.zip vs) m x=some v
 |[],_,_,_,_,h,_,_=>by simp at h
 |_::_,[],_,_,_,_,h,_=>by simp at h
 |p::P,w::vs,0,m,nd,h1,h2,a=>by
  simp at h1 h2;subst h1;subst h2;show bindC kindOf ((p,w)::P.zip vs) m p=_;unfold bindC;rw[CA λv b=>(j9.mp nd).1 (pY b).1,ay a];simp
 |p::P,w::vs,i+1,m,nd,h1,h2,a=>by
  show bindC kindOf ((p,w)::P.zip vs) m x=_;unfold bindC;exact Cz (i:=i) (j9.mp nd).2 (by simpa using h1) (by simpa using h2) a
def start(N:List Str)(vs:List V):St:=vs.map some++replicate (N.length - vs.length) none
def cK(CX:iV)(P:Program)(w:World)(K:Frag)(mg:au)(base:Heap)(N:List Str)(qual:Str)(scope:Scope)(f:Addr)(cd:Value)(A:Around)(outer:List Env)(s:Shared)(H:Hp)(E:XK):Cx where
 prog:=P
 w:=w
 K:=K
 mg:=mg
 base:=base
 A:=A.deeper (envOfC qual scope s.heap.objs.size f cd)
 N:=N
 s₀:=s
 H₀:=H
 env:=envOfC qual scope s.heap.objs.size f cd
 outer:=outer
 stack:=envOfC qual scope s.heap.objs.size f cd::outer
 ex:=[]
 calm:=true
 fn:=λ_=>true
 pn:=[]
 xe:=λe s'=>wpAny (model P w) (A.deeper (envOfC qual scope s.heap.objs.size f cd)) (leaving (envOfC qual scope s.heap.objs.size f cd) e) (λ_ s''=>CX outer H s E e s'') (λe' s''=>CX outer H s E e' s'') s'
theorem CJ{sc:Scope}{n:Nat}{x:Str}(h:sc.names.lookup x=some .cell):∃c,(cellsFrom n sc.names []).lookup x=some c:=by
 have q:=PySem.W.cellsFrom_some sc.names n [] (.inl h);exact pS.mp q
theorem OX{CX:iV}{P:Program}{w:World}{K:Frag}{mg:au}{base:Heap}{N ps:List Str}{qual:Str}{scope:Scope}{f:Addr}{cd:Value}{A:Around}{outer:List Env}{s o:Shared}{H:Hp}{E:XK}{m:List Value}{vs:List V}
  (S:aV N ps scope)(hd:A.handled=none)(d:tM P w K mg base A outer s H)(hl:vs.length=ps.length)(r:Vals vs m)
  (x:InCallC s s.heap.objs.size (bindL (envOfC qual scope s.heap.objs.size f cd).kindOf (ps.zip m) λ_=>none) (cellsFrom (s.heap.objs.size+1) scope.names []) (bindC (envOfC qual scope s.heap.objs.size f cd).kindOf (ps.zip m) λ_=>none) o):
  Inv (cK CX P w K mg base N qual scope f cd A outer s H E) [] (start N vs) H o:=by
 have C:ps.length<=N.length:=by have:=cS List.length S.pre;rw[lX] at this;omega
 obtain⟨h1,G,rfl,t⟩:=x.done
 have g:∀b:Addr,b∉(cK CX P w K mg base N qual scope f cd A outer s H E).ex:=λb z=>absurd (show b∈([]:List Addr) from z) (by simp)
 refine⟨⟨d.mod,S.kind,rfl,rfl,aF _,λy z c h1 h2=> ?_,λy hy=> ?_,λy c _ h=> ?_,λ_=>hd,Around.frames_deeper d.frames,.inr ⟨rfl,rfl⟩,λb z=>absurd z (g b),d.bs,d.kB,λb _ _=>g b,λb z=>absurd z (g b),d.i_,d.lN⟩,
  rfl,d.bare,Un.kept t,⟨_,x.toInCall.ns,λi y v h1 h2 I=> ?_⟩,λy c h=>⟨_,x.cell y c h⟩,d.hok.fresh (aF _),λy c h=> ?_,λp j=>absurd (show p∈([]:aS) from j) (by simp),d.hok.kept t,?_⟩
 .exact name_of_addr x.apart (nP h1) (nP h2)
 .have hy:scope.names.lookup y=some .cell\/scope.names.lookup y=some .free:=hy
  rcases hy with hy|hy
  .exact CJ hy
  .exact absurd rfl (S.zQ _ (nP hy))
 .exact jB (x.above y c (nP h))
 .have hi:i<vs.length:=by
   unfold start at h2
   by_cases hi:i<vs.length
   .exact hi
   .rw[tK (by simpa using hi)] at h2
    rw[List.getElem?_replicate] at h2
    split at h2<;>cases h2
  have D:vs[i]? =some v:=by
   unfold start at h2
   rw[iI (by simpa using hi),bW] at h2
   cases e:vs[i]? with
   |none=>rw[e] at h2;cases h2
   |some a=>rw[e] at h2;cases h2;rfl
  obtain⟨u,B,F⟩:=r.get D
  have j:ps[i]? =some y:=by
   rw[<-S.pre,List.getElem?_take_of_lt (by omega)];exact h1
  have l:ps.Nodup:=by rw[<-S.pre];exact S.nd.sublist (List.take_sublist _ _)
  refine⟨u,F,?_⟩
  rcases S.par y (dc j) with k|k
  .exact .inl ⟨k,CB l j B k⟩
  .obtain⟨c,e⟩:=CJ (n:=s.heap.objs.size+1) k
   refine .inr ⟨.inl k,c,e,?_⟩
   have q:=x.cell y c e
   rw[Cz l j B (by show scope.names.lookup y≠_;rw[k];decide)] at q
   exact q
 .exact d.hok.fresh (jB (x.above y c (nP h)))
 .unfold start
  show _=N.length
  rw[dH,aP,List.length_replicate]
  omega
theorem DV{CX:iV}{P:Program}{w:World}{K:Frag}{mg:au}{base:Heap}{k:Nat}{f:Addr}{name qual:Str}{params:Arguments}{body:List Stmt}{scope:Scope}{z kV doc pm a ct D:Value}{an F:Option Addr}
  {j:Array (Option Value)}{N ps:List Str}{sp:Sp}(lk:K.lookup f=some ⟨D,F,.func (fnOf name qual params body scope z kV doc pm an a ct),j⟩)(l:codeIn K a qual=true)(S:aV N ps scope)
  (len:∀vs H Q E,sp vs H Q E->vs.length=ps.length)
  (c:∀(A:Around) (outer:List Env) (s:Shared) (H:Hp) (vs:List V) (Q:VK) (E:XK),dz k (A.deeper (envOfC qual scope s.heap.objs.size f a))->sp vs H Q E->
   ∃t,dw (cK CX P w K mg base N qual scope f a A outer s H E) body t/\t {nx:=λ_ H'=>Q .aC H',rt:=Q} (start N vs) H):
  gG P w K mg base CX (k+1) f (fnOf name qual params body scope z kV doc pm an a ct) ps sp:=by
 refine⟨len,λA outer s H args G vs Q E m h L r i=> ?_⟩
 have hl:=len _ _ _ _ i
 have B:K.In s.heap:=h.mod.rA.keeps λb o e=>(h.bs b o e).1
 have lim:s.heap.NoLimit:=h.mod.nolimit.keeps λb o e=>(h.bs b o e).1
 have d:∀y∈ps.zip G,scope.names.lookup y.1=some .local\/(scope.names.lookup y.1=some .cell/\((cellsFrom (s.heap.objs.size+1) scope.names []).lookup y.1).isSome=true):=λ⟨n,v⟩ M=>by
  rcases S.par n (pY M).1 with q|q
  .exact .inl q
  .exact .inr ⟨q,PySem.W.cellsFrom_some _ _ _ (.inl q)⟩
 refine codeAny_call_function m.depth (B _ _ lk) rfl S.co S.gen rfl (PySem.W.codeRec_of B l) (L _ _ _ _ ?_)
 refine wpAny_newFunctionEnv_cells S.kind d λenv O C x=> ?_
 subst O
 refine⟨lim.keeps x.toInCall.keep,codeAny_func ?_⟩
 obtain⟨t,R,T⟩:=c A outer s H vs Q E (m.deeper _) i
 have I:Inv (cK CX P w K mg base N qual scope f a A outer s H E) [] (start N vs) H C:=OX S m.hd h hl r x
 refine je (R [] C (start N vs) H _ I T) (λfl s' g=> ?_) λe s' g=>g
 have fin:∀{σ':St} {H':Hp} {v:V} {u:Value},Inv (cK CX P w K mg base N qual scope f a A outer s H E) [] σ' H' s'->RelV v u->Q v H'->CE outer P w H s Q u s':=
  λ {σ' H' v u} J p q=>⟨v,H',J.os,J.bare,J.base,J.hok,p,q⟩
 cases fl with
 |ret u=>
  obtain⟨v,σ',H',J,p,q⟩:=g
  exact fin J p q
 |next=>
  obtain⟨σ',H',J,q⟩:=g
  exact fin (v:=V.aC) (u:=Value.none) J rfl q
 |brk=>
  obtain⟨_,_,_,q⟩:=g
  exact False.elim q
 |cont=>
  obtain⟨_,_,_,q⟩:=g
  exact False.elim q
section
variable{X:Cx}{x:Str}{p pos:Pos}{e:Expr}{es:List Expr}{t:TA}{id T:String}{r:List V->Hp->VK->Prop}
def As(r:List V->Hp->VK->Prop)(t:TA):TE:=λσ H Q=>t σ H λvs H1=>r vs H1 Q
theorem F5(hc:eF X (.builtin id) r)(c:Gl X x)(d:X.mg x=none)(f:bootBuiltins x=some (.builtin id))(g:PA X (e::es) t)(i:x≠"__name__":=by decide)(a:(x==("__debug__":Str))=false:=by decide)
  (j:starEach (e::es) X.env=(false,eval e X.env)::starEach es X.env:=by rfl)(b:(backTo pos (starEach es X.env)).any (·.1)=false:=by rfl):PE X (.Call (.Name x p) (e::es) [] pos) (As r t):=by
 intro pins s σ H Q I h;refine mj (jV I c d f ?_ i a);exact PyProof.Rows.callWith_builtin1 (aK (g pos pins s σ H _ I h) λk l ⟨vs,H1,m,n,o⟩=>hc pins l σ H1 vs k Q m n o) j b
theorem Ry(hc:eF X (.type T) r)(c:Gl X x)(d:X.mg x=none)(f:bootBuiltins x=some (.type T))(g:PA X (e::es) t)(i:x≠"__name__":=by decide)(a:(x==("__debug__":Str))=false:=by decide)
  (j:starEach (e::es) X.env=(false,eval e X.env)::starEach es X.env:=by rfl)(b:(backTo pos (starEach es X.env)).any (·.1)=false:=by rfl):PE X (.Call (.Name x p) (e::es) [] pos) (As r t):=by
 intro pins s σ H Q I h;refine mj (jV I c d f ?_ i a);exact nG (aK (g pos pins s σ H _ I h) λk l ⟨vs,H1,m,n,o⟩=>hc pins l σ H1 vs k Q m n o) j b
end
end L2
end
namespace HT
open PySem PyProof.Rows
section
variable{prog:Program}{w:World}{A:Around}{E:aQ}{s:Shared}
theorem KY{t b:Addr}{vs ws:List Value}{Q:aQ}(l:IsTup s.heap t vs.toArray)(m:IsTup s.heap b ws.toArray)(i:vs≠[])
  (h1:ws=[]->Q (.ref t) s)(h2:ws≠[]->Q (.ref s.heap.objs.size) {s with heap:=s.heap.push {cls:= .type "tuple",data:= .seq (vs++ws).toArray}})
  (hsz:vs.length+ws.length<=sizeLine):wpAny (model prog w) A (binaryOp .Add (.ref t) (.ref b)) Q E s:=by
 obtain⟨⟨cls,dd,data,j⟩,g,hc,n,hd⟩:=id l
 obtain⟨⟨k,c,data2,d⟩,a,f,n2,hd2⟩:=id m
 simp only at hc hd f hd2
 subst hc hd f hd2
 have e:vs.toArray++ws.toArray=(vs++ws).toArray:=by simp
 by_cases h:ws=[]
 .exact concat_meets ⟨_,g,rfl⟩ ⟨_,a,rfl⟩ noFill_tuple_add seq_tuple_add slot_tuple_add entry_tuple_add (args_tuple_add_2 _ _)
   (tuple_addW1 t b vs.toArray ws.toArray n n2 dd c j d (by simpa using i) (by simp[h])) ⟨g,a,h1 h⟩
 .refine concat_meets ⟨_,g,rfl⟩ ⟨_,a,rfl⟩ noFill_tuple_add seq_tuple_add slot_tuple_add entry_tuple_add (args_tuple_add_2 _ _)
   (tuple_addW2 t b vs.toArray ws.toArray n n2 dd c j d (by simpa using i) (by simpa using h) (by rw[b6,b6];exact hsz)) ⟨g,a,?_⟩
  rw[e]
  exact h2 h
def iB(n d:Nat):Option Int->Nat
 |none=>d
 |some v=>if v<0 then (v+(n:Int)).toNat else min v.toNat n
end
end HT
section
open PySem PySem.Spec PyProof.Rows
namespace L2
section
variable{X:Cx}{e:Expr}{te:TE}{lo hi:Option Expr}{tl th:TO}{pos p2:Pos}
def SY(K:Frag):R2:=λx y H Q=>∃a b xs ys,x=.ref a/\y=.ref b/\bJ K H a xs/\bJ K H b ys/\xs≠[]/\xs.length+ys.length<=sizeLine/\
 (ys=[]->Q (.ref a) H)/\(ys≠[]->∀p,H p=none->Q (.ref p) (upd H p (.tup (xs++ys))))
theorem Vals.zP{xs:List V}{a:List Value}(r:Vals xs a):a=[]↔xs=[]:=by
 cases r with
 |nil=>simp
 |cons _ _=>simp
theorem Q3:bA X (binaryOp .Add) (SY X.K):=by
 intro pins s σ H x y v u Q I f g h;obtain⟨a,b,xs,ys,rfl,rfl,i,j,k,hz,l,m⟩:=h;cases f;cases g;obtain⟨its,d,n,_⟩:=I.tuple i;obtain⟨e,c,p2,_⟩:=I.tuple j;refine HT.KY n p2 (λz=>k (d.zP.mp z)) (λz=>⟨.ref a,H,I,rfl,l (c.zP.mp z)⟩) (λz=>?_) (by rw[<-d.length,<-c.length];exact hz);refine⟨.ref s.heap.objs.size,_,I.laid (t':=s.toks) (o:=.tup (xs++ys)) (λb p q=>bw _ q) (aF _) ?_,rfl,m (λw=>z (c.zP.mpr w)) _ (I.hok.fresh (aF _))⟩;exact⟨by rw[dH];exact hz,_,d.append c,mL.new _ _⟩
end
def kJ(n:Nat)(i:Int):Option Nat:=if 0<=i then (if i<n then some i.toNat else none) else if -(n:Int)<=i then some (i+n).toNat else none
def cX{α:Type}(xs:List α)(i:Int):Option α:=(kJ xs.length i).bind λj=>xs[j]?
theorem O8{n:Nat}{i:Int}{j:Nat}(h:kJ n i=some j):seqIndex? i n=some j/\j<n/\-(n:Int)<=i/\i<n:=by
 unfold kJ at h;by_cases h0:0<=i
 .rw[av h0] at h
  by_cases h1:i<n
  .rw[av h1] at h
   have e:i.toNat=j:=Option.some.inj h;exact⟨by rw[seqIndex_of h0 h1,e],by omega,by omega,h1⟩
  .rw[ay h1] at h;cases h
 .rw[ay h0] at h
  by_cases h1: -(n:Int)<=i
  .rw[av h1] at h
   have e:(i+n).toNat=j:=Option.some.inj h;exact⟨by rw[seqIndex_neg (by omega) h1,e],by omega,h1,by omega⟩
  .rw[ay h1] at h;cases h
theorem yf{α:Type}{xs:List α}{i:Int}{v:α}(h:cX xs i=some v):∃j,seqIndex? i xs.length=some j/\xs[j]?=some v/\j<xs.length/\-(xs.length:Int)<=i/\i<xs.length:=by
 unfold cX at h;cases e:kJ xs.length i with
 |none=>rw[e] at h;cases h
 |some j=>
  rw[e] at h;obtain⟨h1,h2,a,b⟩:=O8 e;exact⟨j,h1,h,h2,a,b⟩
theorem ua{α:Type}{xs:List α}{j:Nat}{v:α}(h:xs[j]?=some v):cX xs (j:Int)=some v:=by
 have a:j<xs.length:=(b8.mp h).1;have e:kJ xs.length (j:Int)=some j:=by
  unfold kJ;rw[av (by omega),av (by omega)];simp
 unfold cX;rw[e];exact h
def xO(b:Expr):Prop:=∀o i,subscripted b false o i=operate [o,i] (getItem o i)
def jj(X:Cx)(r:R2):Prop:=
 ∀(value slice:Expr) (pins:aS) (s:Shared) (σ:St) (H:Hp) (x y:V) (v u:Value) (Q:VK),Inv X pins σ H s->RelV x v->RelV y u->r x y H Q->
  subscripted slice false v u=operate [v,u] (getItem v u)->wpAny (model X.prog X.w) X.A (subscriptTail value slice v u) (EP X pins σ Q) X.xe s
def mJ(X:Cx)(id:String)(r:V->List V->Hp->VK->Prop):Prop:=
 ∀(pins:aS) (s:Shared) (σ:St) (H:Hp) (x:V) (xs:List V) (v:Value) (us:List Value) (Q:VK),Inv X pins σ H s->RelV x v->Vals xs us->r x xs H Q->
  wpAny (model X.prog X.w) X.A (call (.builtin id) (v::us)) (EP X pins σ Q) X.xe s
section
variable{X:Cx}{a b:Expr}{ta tb:TE}{pos:Pos}
theorem jj.or{r r':R2}(h:jj X r)(h':jj X r'):jj X (λx y H Q=>r x y H Q\/r' x y H Q):=by
 intro value slice pins s σ H x y v u Q I a b q c;rcases q with q|q
 .exact h value slice pins s σ H x y v u Q I a b q c
 .exact h' value slice pins s σ H x y v u Q I a b q c
theorem RN{r:R2}(c:jj X r)(d:PE X a ta)(e:PE X b tb)(f:xO b):PE X (.Subscript a b pos) (sH r ta tb):=by
 intro pins s σ H Q I h;exact Subscript_ (yj d e I h λv u g x y H2 i j k q=>c a b pins g σ H2 x y v u Q i j k q (f _ _))
def Gy(K:Frag):R2:=λx y H Q=>∃p xs i v,x=.ref p/\y=.int i/\aR K H p xs/\cX xs i=some v/\Q v H
def GA(K:Frag):R2:=λx y H Q=>∃p xs i v,x=.ref p/\y=.int i/\bJ K H p xs/\cX xs i=some v/\Q v H
def Gz:R2:=λx y H Q=>∃z i c,x=.str z/\y=.int i/\z.length<=sizeLine/\cX z.cps.toList i=some c/\Q (.str ⟨#[c]⟩) H
theorem O_:jj X (Gy X.K):=by
 intro value slice pins s σ H x y v u Q I e f h c;obtain⟨p,xs,i,z,rfl,rfl,g,k,q⟩:=h;cases e;obtain⟨t,rfl⟩:=f;obtain⟨its,r,pl,hz⟩:=I.list g;obtain⟨j,h1,h2,n,l,m⟩:=yf k;obtain⟨w,d,a⟩:=r.get h2;have hl:=r.length;have o:=o7;have fin:EP X pins σ Q w s:=⟨z,H,I,a,q⟩;by_cases h0:0<=i
 .have b:i.toNat=j:=by
   rw[seqIndex_of h0 m] at h1;exact Option.some.inj h1
  exact item_listR pl.isList h0 (by omega) (by rw[b];simpa using d) fin c
 .have b:(i+(its.toArray.size:Int)).toNat=j:=by
   rw[seqIndex_neg (by omega) l] at h1;rw[b6,<-hl];exact Option.some.inj h1
  exact subscriptTail_builtinR (x:=w) pl.isList.typeIs slot_list_getitem.lookup
   (wpAny_getItem_list_neg (Q:=λr s'=>r=w/\EP X pins σ Q r s') pl.isList (by omega) (by rw[b6]<;>omega) (by omega) (by rw[b];simpa using d) ⟨rfl,fin⟩) c
theorem Pc:jj X (GA X.K):=by
 intro value slice pins s σ H x y v u Q I b c h d;obtain⟨p,xs,i,z,rfl,rfl,e,f,q⟩:=h;cases b;obtain⟨t,rfl⟩:=c;obtain⟨its,r,pl,hz⟩:=I.tuple e;obtain⟨j,h1,h2,k,l,m⟩:=yf f;obtain⟨w,g,a⟩:=r.get h2;have hl:=r.length;have n:=o7;have fin:EP X pins σ Q w s:=⟨z,H,I,a,q⟩;exact subscriptTail_builtinR (x:=w) pl.typeIs slot_tuple_getitem.lookup
  (getItem_tuple (j:=j) (Q:=λr s'=>r=w/\EP X pins σ Q r s') pl (by omega) (by omega) (by rw[b6,<-hl];exact h1) (by simpa using g) ⟨rfl,fin⟩) d
theorem Pb:jj X Gz:=by
 intro value slice pins s σ H x y v u Q I a b h d;obtain⟨z,i,c,rfl,rfl,hz,e,q⟩:=h;obtain⟨t,rfl⟩:=a;obtain⟨t',rfl⟩:=b;obtain⟨j,h1,h2,m,f,g⟩:=yf e;have hl:z.cps.toList.length=z.length:=by simp[Str.length]
 rw[hl] at h1 f g;have n:=o7;exact tail_any (typeIs_str s z t) slot_str_getitem.lookup (getItem_str (c:=c) (by
  have k:decide (i< -(2 ^ 63:Int))=false:=d7 (by omega);have l:decide (i≥2 ^ 63)=false:=d7 (by omega);rw[k,l,Bool.or_false]) (by rw[h1];simpa using h2) ⟨.str ⟨#[c]⟩,H,I.tok _,⟨_,rfl⟩,q⟩) d
def Gv(K:Frag):R2:=λx y H Q=>Gy K x y H Q\/GA K x y H Q\/Gz x y H Q
theorem Pa:jj X (Gv X.K):=O_.or (Pc.or Pb)
theorem UL(lo hi:Option Int)(n:Nat):(sliceBounds lo hi none n).1=((HT.iB n 0 lo:Nat):Int)/\(sliceBounds lo hi none n).2.1=((HT.iB n n hi:Nat):Int)/\(sliceBounds lo hi none n).2.2=1:=by
 refine⟨?_,?_,rfl⟩
 .cases lo with
  |none=>simp[sliceBounds,HT.iB]
  |some i=>
   simp only[sliceBounds,HT.iB,getD_none,show(1:Int)>0 by decide,mF];by_cases h:i<0
   .simp only[h,mF]<;>omega
   .simp only[h,gm]<;>omega
 .cases hi with
  |none=>simp[sliceBounds,HT.iB]
  |some i=>
   simp only[sliceBounds,HT.iB,getD_none,show(1:Int)>0 by decide,mF];by_cases h:i<0
   .simp only[h,mF]<;>omega
   .simp only[h,gm]<;>omega
theorem WN(its:List Value)(lo hi:Option Int):slicePick its.toArray lo hi none=((its.drop (HT.iB its.length 0 lo)).take (HT.iB its.length its.length hi - HT.iB its.length 0 lo)).toArray:=by
 obtain⟨h1,h2,a⟩:=UL lo hi its.toArray.size;unfold slicePick;rw[h1,h2,a];simp only[sliceRange_one,pick_run,b6]<;>rfl
def jR:V->Bool
 |.aC=>true
 |.bl _=>true
 |.int _=>true
 |.str _=>true
 |_=>false
def i9:V->V->Bool
 |.aC,.aC=>true
 |.bl a,.bl b=>a==b
 |.bl a,.int b=>(if a then 1 else 0)==b
 |.int a,.bl b=>a==(if b then 1 else 0)
 |.int a,.int b=>a==b
 |.str a,.str b=>a==b
 |_,_=>false
theorem Mm{A:Around}{s:Shared}{y x:V}{u v:Value}(d:RelV y u)(c:RelV x v)(f:jR y=true)(e:jR x=true):SeqAt.EqAt A s u v (i9 y x):=by
 cases y with
 |aC=>
  cases d;cases x with
  |aC=>cases c;exact SeqAt.EqAt.same _
  |bl b=>cases c;exact SeqAt.EqAt.none_bool b
  |int b=>obtain⟨t,rfl⟩:=c;exact SeqAt.EqAt.none_int b t
  |str b=>obtain⟨t,rfl⟩:=c;exact SeqAt.EqAt.none_str b t
  |_=>exact absurd (show false=true from e) bZ
 |bl a=>
  cases d;cases x with
  |aC=>cases c;exact SeqAt.EqAt.bool_none a
  |bl b=>cases c;exact SeqAt.EqAt.bool_bool a b
  |int b=>obtain⟨t,rfl⟩:=c;exact SeqAt.EqAt.bool_int a b t
  |str b=>obtain⟨t,rfl⟩:=c;exact SeqAt.EqAt.bool_str a b t
  |_=>exact absurd (show false=true from e) bZ
 |int a=>
  obtain⟨t',rfl⟩:=d;cases x with
  |aC=>cases c;exact SeqAt.EqAt.int_none a t'
  |bl b=>cases c;exact SeqAt.EqAt.int_bool a t' b
  |int b=>obtain⟨t,rfl⟩:=c;exact SeqAt.EqAt.int_int a t' b t
  |str b=>obtain⟨t,rfl⟩:=c;exact SeqAt.EqAt.int_str a t' b t
  |_=>exact absurd (show false=true from e) bZ
 |str a=>
  obtain⟨t',rfl⟩:=d;cases x with
  |aC=>cases c;exact SeqAt.EqAt.str_none a t'
  |bl b=>cases c;exact SeqAt.EqAt.str_bool a t' b
  |int b=>obtain⟨t,rfl⟩:=c;exact SeqAt.EqAt.str_int a t' b t
  |str b=>obtain⟨t,rfl⟩:=c;exact SeqAt.EqAt.str_str a t' b t
  |_=>exact absurd (show false=true from e) bZ
 |_=>exact absurd (show false=true from f) bZ
def gP(x:V)(u:Value):Bool:=match u with
 |.none=>i9 .aC x
 |.bool b=>i9 (.bl b) x
 |.int i _=>i9 (.int i) x
 |.str z _=>i9 (.str z) x
 |_=>false
theorem DL{x y:V}{u:Value}(r:RelV y u)(f:jR y=true):gP x u=i9 y x:=by
 cases y with
 |aC=>cases r;rfl
 |bl b=>cases r;rfl
 |int i=>obtain⟨t,rfl⟩:=r;rfl
 |str z=>obtain⟨t,rfl⟩:=r;rfl
 |_=>exact absurd (show false=true from f) bZ
theorem qz{x:V}:∀{xs:List V} {a:List Value},Vals xs a->xs.all jR=true->a.any (gP x)=xs.any λy=>i9 y x
 |_,_,.nil,_=>rfl
 |y::xs,u::a,.cons r t,f=>by
  rw[all_cons,dP] at f;rw[nS,nS,DL r f.1,qz t f.2]
theorem rG{A:Around}{s:Shared}{x:V}{v:Value}(b:RelV x v)(c:jR x=true):∀{xs:List V} {a:List Value},Vals xs a->xs.all jR=true->∀u∈a,SeqAt.EqAt A s u v (gP x u)
 |_,_,.nil,_=>λu hu=>by cases hu
 |y::xs,u::a,.cons r t,f=>λd hu=>by
  rw[all_cons,dP] at f;rcases aY.mp hu with rfl|hu
  .rw[DL r f.1];exact Mm r b f.1 c
  .exact rG b c t f.2 d hu
def uP(x:V)(xs:List V):Bool:=xs.any λy=>i9 y x
def z8(K:Frag)(neg:Bool):R2:=λx y H Q=>∃p xs,y=.ref p/\(aR K H p xs\/bJ K H p xs)/\jR x=true/\xs.all jR=true/\Q (.bl (if neg then !uP x xs else uP x xs)) H
theorem Q9:bA X (compareOp .In) (z8 X.K false):=by
 intro pins s σ H x y v u Q I b d h;obtain⟨p,xs,rfl,hq,c,fs,q⟩:=h;cases d;rcases hq with hq|hq
 .obtain⟨its,r,pl,hz⟩:=I.list hq
  refine SeqAt.in_listAt (gP x) pl.isList (λw a=>rG b c r fs w (by simpa using a)) ⟨.bl _,H,I,rfl,?_⟩;rw[show its.toArray.any (gP x)=its.any (gP x) by simp,qz r fs];exact q
 .obtain⟨its,r,pl,hz⟩:=I.tuple hq
  refine SeqAt.in_tupleAt (gP x) pl (λw a=>rG b c r fs w (by simpa using a)) ⟨.bl _,H,I,rfl,?_⟩;rw[show its.toArray.any (gP x)=its.any (gP x) by simp,qz r fs];exact q
theorem Rj:bA X (compareOp .NotIn) (z8 X.K true):=by
 intro pins s σ H x y v u Q I b d h;obtain⟨p,xs,rfl,hq,c,fs,q⟩:=h;cases d;rcases hq with hq|hq
 .obtain⟨its,r,pl,hz⟩:=I.list hq
  refine SeqAt.notIn_listAt (gP x) pl.isList (λw a=>rG b c r fs w (by simpa using a)) ⟨.bl _,H,I,rfl,?_⟩;rw[show its.toArray.any (gP x)=its.any (gP x) by simp,qz r fs];exact q
 .obtain⟨its,r,pl,hz⟩:=I.tuple hq
  refine SeqAt.notIn_tupleAt (gP x) pl (λw a=>rG b c r fs w (by simpa using a)) ⟨.bl _,H,I,rfl,?_⟩;rw[show its.toArray.any (gP x)=its.any (gP x) by simp,qz r fs];exact q
theorem KG:eF X (.builtin "len") (λxs H Q=>∃p ys,xs=[.ref p]/\(aR X.K H p ys\/bJ X.K H p ys)/\Q (.int ys.length) H):=by
 intro pins s σ H xs c Q I r h;obtain⟨p,ys,rfl,hq,q⟩:=h;obtain⟨u,rfl,b⟩:=vals1 r;cases b;have d:=o7;rcases hq with hq|hq
 .obtain⟨its,r',pl,hz⟩:=I.list hq
  have a:=r'.length;exact Calls.call_len_list pl.isList (by simp only[b6]<;>omega) ⟨.int ys.length,H,I.tok _,⟨s.toks+1,by rw[b6,a]⟩,q⟩
 .obtain⟨its,r',pl,hz⟩:=I.tuple hq
  have a:=r'.length;exact len_tuple pl (by simp only[b6]<;>omega) ⟨.int ys.length,H,I.tok _,⟨s.toks+1,by rw[b6,a]⟩,q⟩
theorem KH:eF X (.builtin "len") (λxs H Q=>∃z,xs=[.str z]/\z.length<=sizeLine/\Q (.int z.length) H):=by
 intro pins s σ H xs a Q I r h;obtain⟨z,rfl,hz,q⟩:=h;obtain⟨u,rfl,t,rfl⟩:=vals1 r;have b:=o7;exact len_str (by omega) ⟨.int z.length,H,I.tok _,⟨_,rfl⟩,q⟩
theorem eF.or{f:Value}{r r':List V->Hp->VK->Prop}(h:eF X f r)(h':eF X f r'):eF X f (λxs H Q=>r xs H Q\/r' xs H Q):=by
 intro pins s σ H xs a Q I rs q;rcases q with q|q
 .exact h pins s σ H xs a Q I rs q
 .exact h' pins s σ H xs a Q I rs q
theorem CG:eF X (.type "list") (λxs H Q=>∃p ys,xs=[.ref p]/\(aR X.K H p ys\/bJ X.K H p ys)/\∀l,H l=none->Q (.ref l) (upd H l (.lst ys))):=by
 intro pins s σ H xs f Q I r h;obtain⟨p,ys,rfl,hq,q⟩:=h;obtain⟨u,rfl,d⟩:=vals1 r;cases d;have fin:∀(its:List Value),Vals ys its->ys.length<=sizeLine->∀(h':Heap) (c':Nat),(∀b o',s.heap.get? b=some o'->h'.get? b=some o')->
   h'.get? s.heap.objs.size=some {cls:=.type "list",dict:=none,data:=.seq its.toArray c',slots:= #[]}->EP X pins σ Q (.ref s.heap.objs.size) {s with heap:=h'}:=λits r' hz h' c' kp e=>
  ⟨.ref s.heap.objs.size,_,I.laid (t':=s.toks) kp (aF _) (show bX X.prog X.w _ h' _ (.lst ys) from⟨hz,its,c',r',e⟩),rfl,q _ (I.hok.fresh (aF _))⟩
 rcases hq with hq|hq
 .obtain⟨its,r',pl,hz⟩:=I.list hq
  have a:=r'.length;obtain⟨o,c,hc,n,hd⟩:=pl.isList;exact call_list_seq p (.inl rfl) c hc hd (λh' c' kp e=>fin its r' hz h' c' kp e) (by simp only[b6]<;>omega)
 .obtain⟨its,r',pl,hz⟩:=I.tuple hq
  have a:=r'.length;obtain⟨o,c,hc,n,hd⟩:=pl;exact call_list_seq p (.inr rfl) c hc hd (λh' c' kp e=>fin its r' hz h' c' kp e) (by simp only[b6]<;>omega)
theorem yq:eF X (.type "tuple") (λxs H Q=>∃p ys,xs=[.ref p]/\((aR X.K H p ys/\∀l,H l=none->Q (.ref l) (upd H l (.tup ys)))\/(bJ X.K H p ys/\Q (.ref p) H))):=by
 intro pins s σ H xs i Q I r h;obtain⟨p,ys,rfl,h⟩:=h;obtain⟨u,rfl,f⟩:=vals1 r;cases f;rcases h with⟨a,q⟩|⟨a,q⟩
 .obtain⟨its,r',pl,hz⟩:=I.list a
  have c:=r'.length;refine call_tuple_list pl.isList (λh' kp=>?_) (by simp only[b6]<;>omega);have d:Inv X pins σ H {s with heap:=h'}:=I.kept (t':=s.toks) kp;have g:Inv X pins σ (upd H h'.objs.size (.tup ys)) {s with heap:=h'.push {cls:=.type "tuple",data:=.seq its.toArray}}:=
   d.laid (t':=s.toks) (λb o e=>bw _ e) (aF _) (show bX X.prog X.w _ _ _ (.tup ys) from⟨hz,its,r',mL.new _ _⟩)
  exact⟨.ref h'.objs.size,_,g,rfl,q _ (d.hok.fresh (aF _))⟩
 .obtain⟨its,r',pl,hz⟩:=I.tuple a
  exact call_tuple_same pl ⟨.ref p,H,I,rfl,q⟩
def sL(K:Frag)(T:String)(x:V)(H:Hp):Prop:=match x with
 |.str _=>T="str"
 |.int _=>T="int"
 |.ref p=>(T="list"/\∃xs,aR K H p xs)\/(T="tuple"/\∃o,K.lookup p=some o/\o.cls=.type "tuple"/\o.dict=none)\/
  (T="dict"/\((∃kvs,H p=some (.dK kvs))\/∃kvs,H p=some (.dT kvs)))\/(T="set"/\∃S n,H p=some (.set S n))
 |_=>False
theorem AF{pins:aS}{σ:St}{H:Hp}{s:Shared}{T:String}{x:V}{v:Value}(I:Inv X pins σ H s)(r:RelV x v)(ty:sL X.K T x H):
  s.TypeIs v T/\∀a,v=.ref a->∃f,s.heap.get? a=some f/\f.dict=none:=by
 cases x with
 |str z=>
  obtain⟨t,rfl⟩:=r;cases (show T="str" from ty);exact⟨typeIs_str s z t,λ_ e=>nomatch e⟩
 |int i=>
  obtain⟨t,rfl⟩:=r;cases (show T="int" from ty);exact⟨typeIs_int s i t,λ_ e=>nomatch e⟩
 |ref p=>
  cases r;rcases ty with⟨rfl,xs,g⟩|⟨rfl,o,b,hc,hd⟩|⟨rfl,b⟩|⟨rfl,S,n,b⟩
  .obtain⟨its,_,pl,_⟩:=I.list g
   refine⟨pl.isList.typeIs,λa e=>?_⟩;cases e;obtain⟨o,n,e,c,hd,_⟩:=pl;exact⟨o,e,hd⟩
  .refine⟨⟨o,I.eO p o b,hc⟩,λa e=>?_⟩
   cases e;exact⟨o,I.eO _ o b,hd⟩
  .have z:∃o,s.heap.get? p=some o/\o.ExactDict:=by
    rcases b with⟨kvs,b⟩|⟨kvs,b⟩
    .obtain⟨_,_,_,_,o,_,_,e,ex,_⟩:=I.hok p _ b
     exact⟨o,e,ex⟩
    .obtain⟨_,_,_,_,o,_,_,e,ex,_⟩:=I.hok p _ b
     exact⟨o,e,ex⟩
   obtain⟨o,e,ex⟩:=z;refine⟨⟨o,e,ex.1⟩,λa d=>?_⟩;cases d;exact⟨o,e,ex.2.1⟩
  .obtain⟨o,_,_,_,e,ex,_⟩:=I.hok p _ b
   refine⟨⟨o,e,ex.1⟩,λa d=>?_⟩;cases d;exact⟨o,e,ex.2.1⟩
 |_=>exact False.elim ty
def U_(K:Frag)(T:String)(r:V->List V->Hp->VK->Prop)(to:TE):TE:=λσ H Q=>to σ H λx H1=>sL K T x H1/\r x [] H1 Q
def U9(K:Frag)(T:String)(r:V->List V->Hp->VK->Prop)(to:TE)(t:TA):TE:=λσ H Q=>to σ H λx H1=>sL K T x H1/\t σ H1 λxs H2=>r x xs H2 Q
variable{o e:Expr}{es:List Expr}{to:TE}{t:TA}{name:Str}{apos cpos:Pos}{T id:String}{r:V->List V->Hp->VK->Prop}
theorem Rv(f:PlainAttrs T)(slot:Slot T name id)(c:typeOf (.builtin id)=pure (.type "method_descriptor"))(g:mJ X id r)(i:PE X o to)
  (a:attributeBase o name X.env (eval o X.env)=eval o X.env:=by rfl)(b:(apos.endLine==cpos.line)=true:=by rfl):PE X (.Call (.Attribute o name apos) [] [] cpos) (U_ X.K T r to):=by
 intro pins s σ H Q I h;refine wpAny_Call_method0_late a b (aK (i pins s σ H _ I h) λv j ⟨x,H1,d,e,ty,k⟩=>?_);obtain⟨h1,h2⟩:=AF d e ty;exact⟨T,id,f,slot,c,h1,h2,AM rfl (PySem.evalArgs_none (g pins j σ H1 x [] v [] Q d e .nil k))⟩
theorem F4(k:PlainAttrs T)(slot:Slot T name id)(f:typeOf (.builtin id)=pure (.type "method_descriptor"))(l:mJ X id r)(m:PE X o to)(n:PA X (e::es) t)
  (b:attributeBase o name X.env (eval o X.env)=eval o X.env:=by rfl)
  (d:((backTo cpos (starEach (e::es) X.env)).all (λx=> !x.1)&&(backToKw cpos (keywordEach [] X.env)).all (λx=>x.1.isSome)
   &&decide ((e::es).length+([]:List Keyword).length+(if ([]:List Keyword).isEmpty then 0 else 1)<30))=true:=by rfl)
  (c:(apos.endLine==cpos.line)=true:=by rfl)(p:starEach (e::es) X.env=(false,eval e X.env)::starEach es X.env:=by rfl)(a:(backTo cpos (starEach es X.env)).any (·.1)=false:=by rfl):
  PE X (.Call (.Attribute o name apos) (e::es) [] cpos) (U9 X.K T r to t):=by
 intro pins s σ H Q I h
 refine wpAny_Call_method_late b d c rfl (aK (m pins s σ H _ I h) λv q ⟨x,H1,g,i,ty,u⟩=> ?_)
 obtain⟨h1,h2⟩:=AF g i ty
 refine⟨T,id,k,slot,f,h1,h2,?_⟩
 have j:=n cpos pins q σ H1 _ g u
 rw[p] at j ⊢
 refine AM (by show(false||(backTo cpos (starEach es X.env)).any (·.1))=false;rw[a]<;>rfl) (AO ?_)
 exact aK j λw y ⟨vs,H2,z,A,B⟩=>l pins y σ H2 x vs v w Q z i A B
end
def oq(X:Cx)(id:String)(r:V->List V->Hp->VK->Prop):Prop:=
 ∀(pins:aS) (s:Shared) (σ:St) (H:Hp) (x:V) (xs:List V) (v:Value) (us:List Value) (Q:VK),Inv X pins σ H s->RelV x v->Vals xs us->r x xs H Q->
  wpAny (model X.prog X.w) X.A (call (.builtin id) (v::us)) (EP X pins σ Q) X.xe s
theorem Vals.one:∀{x:V} {a:List Value},Vals [x] a->∃u,a=[u]/\RelV x u
 |_,_,.cons r .nil=>⟨_,rfl,r⟩
theorem Vals.zero:∀{a:List Value},Vals [] a->a=[]
 |_,.nil=>rfl
theorem Vals.eraseIdx:∀{xs:List V} {a:List Value} (i:Nat),Vals xs a->Vals (xs.eraseIdx i) (a.eraseIdx i)
 |_,_,_,.nil=>.nil
 |_,_,0,.cons _ t=>t
 |_,_,i+1,.cons r t=>.cons r (Vals.eraseIdx i t)
theorem Vals.reverse{xs:List V}{a:List Value}(h:Vals xs a):Vals xs.reverse a.reverse:=by
 induction h with
 |nil=>exact .nil
 |cons r t b=>rw[reverse_cons,reverse_cons];exact Vals.append b (.cons r .nil)
theorem E0{α:Type}:∀(l:List α) (i:Nat),(l.eraseIdx i).length<=l.length
 |[],_=>aF _
 |_::_,0=>lW _
 |_::r,i+1=>Nat.succ_le_succ (E0 r i)
section
variable{X:Cx}{pins:aS}{σ:St}{H:Hp}{s:Shared}{l b:Addr}{xs ys zs:List V}
theorem Inv.rE{its its':List Value}{n:Nat}{f:Array Value->Array Value}{t':Nat}(I:Inv X pins σ H s)(a:H l=some (.lst xs))
  (e:s.heap.get? l=some {cls:=.type "list",data:=.seq its.toArray n})(b:f its.toArray=its'.toArray)(c:Vals ys its')(hz:ys.length<=sizeLine):
  Inv X pins σ (upd H l (.lst ys)) {s with heap:=s.heap.update l (Obj.mapSeq f),toks:=t'}:=by
 have q:=PySem.IsL.update e f;rw[b] at q;refine I.write (x:=l) (e:=l) (by rw[a];exact trivial) (.inl rfl) (λh u d g=>(qh s.heap (Obj.mapSeq f) (Ne.symm d)).trans g) ⟨_,q⟩ ?_;exact⟨hz,its',_,c,q⟩
theorem Inv.E8{its:List Value}{t':Nat}(I:Inv X pins σ H s)(a:Vals ys its)(hz:ys.length<=sizeLine):
  Inv X pins σ (upd H s.heap.objs.size (.lst ys)) {s with heap:=s.heap.push {cls:=.type "list",data:=.seq its.toArray},toks:=t'}:=
 I.laid (λ_ _ q=>bw _ q) (aF _) ⟨hz,its,0,a,cA _ rfl⟩
theorem Inv.fresh(I:Inv X pins σ H s):H s.heap.objs.size=none:=I.hok.fresh (aF _)
theorem Inv.lT(I:Inv X pins σ H s)(a:H l=some (.lst xs)):xs.length<=sizeLine/\∃(its:List Value) (n:Nat),Vals xs its/\xs.length=its.length/\s.heap.get? l=some {cls:=.type "list",data:=.seq its.toArray n}:=by
 obtain⟨z,its,n,r,e⟩:=I.hok l _ a;exact⟨z,its,n,r,r.length,e⟩
theorem FH{n:Nat}(h:n<=sizeLine):Builtin.List.listTooLong n=false:=by
 unfold Builtin.List.listTooLong;exact d7 (by omega)
end
section
variable{X:Cx}
def Gm:V->List V->Hp->VK->Prop:=λx vs H Q=>∃l xs y,x=.ref l/\vs=[y]/\H l=some (.lst xs)/\xs.length<sizeLine/\Q .aC (upd H l (.lst (xs++[y])))
theorem gS:oq X "list.append" Gm:=by
 intro pins s σ H x vs v f Q I b c h;obtain⟨l,xs,y,rfl,rfl,a,hz,q⟩:=h;cases b;obtain⟨u,rfl,d⟩:=c.one;obtain⟨z,its,n,r,hl,e⟩:=I.lT a;refine nV F.slot_list_append ⟨_,e,rfl⟩ F.entry_list_append (F.args_list_append_2 _ _) (PySem.list_append l its.toArray n u (by rw[b6];omega)) ⟨e,?_⟩;refine⟨.aC,_,I.rE (its':=its++[u]) a e (by simp) (r.append (.cons d .nil)) ?_,rfl,q⟩;rw[dH,List.length_singleton];omega
def Gq:V->List V->Hp->VK->Prop:=λx vs H Q=>∃l b xs zs,x=.ref l/\vs=[.ref b]/\H l=some (.lst xs)/\H b=some (.lst zs)/\xs.length+zs.length<=sizeLine/\Q .aC (upd H l (.lst (xs++zs)))
theorem zK:oq X "list.extend" Gq:=by
 intro pins s σ H x vs v p Q I f g h;obtain⟨l,b,xs,zs,rfl,rfl,d,i,hz,q⟩:=h;cases f;obtain⟨u,rfl,j⟩:=g.one;cases j;obtain⟨z,its,n,r,hl,e⟩:=I.lT d;obtain⟨t,a,n2,k,m,o⟩:=I.lT i;have hsz:its.toArray.size+a.toArray.size<=sizeLine:=by rw[b6,b6];omega
 have c:¬(!its.toArray.isEmpty&&Builtin.List.listTooLong (its.toArray.size+a.toArray.size))=true:=by
  rw[FH hsz,wQ];exact bZ
 refine nV F.slot_list_extend ⟨_,e,rfl⟩ F.entry_list_extend (F.args_list_extend_2 _ _)
  (AutoSeq1.list_extend_list_list_0 l its.toArray n b a.toArray n2 c (by rw[b6];omega) (by omega)) ⟨e,o,?_⟩
 refine⟨.aC,_,I.rE (its':=its++a) d e (by simp) (r.append k) ?_,rfl,q⟩;rw[dH];omega
def GD:V->List V->Hp->VK->Prop:=λx vs H Q=>∃l xs i k y,x=.ref l/\vs=[.int i]/\H l=some (.lst xs)/\-(2 ^ 63)<=i/\i<2 ^ 63/\seqIndex? i xs.length=some k/\xs[k]?=some y/\Q y (upd H l (.lst (xs.eraseIdx k)))
theorem Qy:oq X "list.pop" GD:=by
 intro pins s σ H x vs v o Q I c d h;obtain⟨l,xs,i,k,y,rfl,rfl,b,h1,h2,f,g,q⟩:=h;cases c;obtain⟨u,rfl,j⟩:=d.one;obtain⟨t,rfl⟩:=j;obtain⟨z,its,n,r,hl,e⟩:=I.lT b;obtain⟨w,m,a⟩:=r.get g;refine nV F.slot_list_pop ⟨_,e,rfl⟩ F.entry_list_pop (F.args_list_pop_2 _ _)
  (MeetsSeq.list_pop_at l its.toArray n i t k w (fitsIndex_both h1 h2) (by rw[b6,<-hl];exact f) (by rw[<-n9];exact m) (by rw[b6];omega)) ⟨e,?_⟩
 refine⟨y,_,I.rE (its':=its.eraseIdx k) b e ?_ (r.eraseIdx k) ?_,a,q⟩
 .show its.toArray.eraseIdxIfInBounds k=(its.eraseIdx k).toArray
  rw[List.eraseIdxIfInBounds_toArray]
 .have:=E0 xs k
  omega
def GF:V->List V->Hp->VK->Prop:=λx vs H Q=>∃l xs,x=.ref l/\vs=[]/\H l=some (.lst xs)/\Q .aC (upd H l (.lst xs.reverse))
theorem Qz:oq X "list.reverse" GF:=by
 intro pins s σ H x vs v f Q I c d h;obtain⟨l,xs,rfl,rfl,b,q⟩:=h;cases c;have a:=d.zero;subst a;obtain⟨z,its,n,r,hl,e⟩:=I.lT b;refine nV F.slot_list_reverse ⟨_,e,rfl⟩ F.entry_list_reverse (F.args_list_reverse_1 _) (AutoSeq1.list_reverse_list_0 l its.toArray n (by rw[b6];omega)) ⟨e,?_⟩;refine⟨.aC,_,I.rE (its':=its.reverse) b e (by simp) r.reverse ?_,rfl,q⟩;rw[A_];omega
def Gn:R2:=λx y H Q=>∃l b xs zs,x=.ref l/\y=.ref b/\H l=some (.lst xs)/\H b=some (.lst zs)/\xs.length+zs.length<=sizeLine/\∀p,H p=none->Q (.ref p) (upd H p (.lst (xs++zs)))
theorem Q0:bA X (binaryOp .Add) Gn:=by
 intro pins s σ H x y v u Q I c d h;obtain⟨l,b,xs,zs,rfl,rfl,f,g,hz,q⟩:=h;cases c;cases d;obtain⟨z,its,n,r,hl,e⟩:=I.lT f;obtain⟨o,a,n2,i,j,k⟩:=I.lT g;refine PySem.P.add_list e k ?_ (by rw[b6,b6];omega);have m:its.toArray++a.toArray=(its++a).toArray:=by simp
 rw[m];exact⟨.ref _,_,I.E8 (t':=s.toks) (r.append i) (by rw[dH];omega),rfl,q _ I.fresh⟩
end
section
variable{κ:Type}[DecidableEq κ]
def eZ(kvs:List (κ×V))(k:κ):Option V:=(kvs.find? λkv=>decide (kv.1=k)).map (·.2)
def putK(kvs:List (κ×V))(k:κ)(v:V):List (κ×V):=
 if (kvs.any λkv=>decide (kv.1=k))=true then kvs.map (λkv=>if kv.1=k then (kv.1,v) else kv) else kvs++[(k,v)]
theorem AK{p:κ×V}{r:List (κ×V)}{k:κ}(e:p.1=k):eZ (p::r) k=some p.2:=by simp[eZ,mD,e]
theorem AJ{p:κ×V}{r:List (κ×V)}{k:κ}(e:¬p.1=k):eZ (p::r) k=eZ r k:=by simp[eZ,mD,e]
theorem Jh(k:κ):∀kvs:List (κ×V),(kvs.any λa=>decide (a.1=k))=(eZ kvs k).isSome
 |[]=>rfl
 |p::r=>by
  rw[nS];by_cases e:p.1=k
  .simp only[AK e,dg e,Bool.true_or,Option.isSome_some]
  .rw[AJ e,d7 e,Bool.false_or];exact Jh k r
theorem zA(kvs:List (κ×V))(k:κ)(v:V):(putK kvs k v).length<=kvs.length+1:=by
 unfold putK;split
 .rw[aP];omega
 .rw[dH,gC,length_nil];omega
theorem jn.rm{o:Option V}{u:Option Value}(r:jn o u):o.isSome=u.isSome:=by
 cases o with
 |none=>cases u with
  |none=>rfl
  |some _=>exact(show False from r).elim
 |some _=>cases u with
  |none=>exact(show False from r).elim
  |some _=>rfl
theorem KV.val{kvs:List (κ×V)}{vs:List (κ×Value)}(r:KV kvs vs)(k:κ):jn (eZ kvs k) (valueAt vs k):=by
 unfold KV at r;induction r with
 |nil=>exact True.intro
 | @cons p q ps qs h t c=>
  obtain⟨h1,h2⟩:=h;by_cases e:p.1=k
  .have a:q.1=k:=h1.symm.trans e
   have b:valueAt (q::qs) k=some q.2:=by simp[valueAt,mD,a]
   rw[AK e,b];exact h2
  .have a:¬q.1=k:=λz=>e (h1.trans z)
   have b:valueAt (q::qs) k=valueAt qs k:=by simp[valueAt,mD,a]
   rw[AJ e,b];exact c
theorem KV.any{kvs:List (κ×V)}{vs:List (κ×Value)}(r:KV kvs vs)(k:κ):(kvs.any λa=>decide (a.1=k))=vs.any λa=>decide (a.1=k):=by
 unfold KV at r;induction r with
 |nil=>rfl
 |cons h t b=>rw[nS,nS,b,h.1]
theorem KV.repl{kvs:List (κ×V)}{vs:List (κ×Value)}(r:KV kvs vs)(k:κ){y:V}{u:Value}(b:RelV y u):
  KV (kvs.map λa=>if a.1=k then (a.1,y) else a) (vs.map λa=>if a.1=k then (a.1,u) else a):=by
 unfold KV at r ⊢;induction r with
 |nil=>exact .nil
 | @cons p q ps qs h t c=>
  rw[cg,cg];refine .cons ?_ c;obtain⟨h1,h2⟩:=h;by_cases e:p.1=k
  .rw[av e,av (h1.symm.trans e)];exact⟨h1,b⟩
  .rw[ay e,ay (λz=>e (h1.trans z))];exact⟨h1,h2⟩
theorem KV.put{kvs:List (κ×V)}{vs:List (κ×Value)}(r:KV kvs vs)(k:κ){y:V}{u:Value}(a:RelV y u):KV (putK kvs k y) (stored vs k u):=by
 unfold putK stored;rw[r.any k];by_cases e:(vs.any λb=>decide (b.1=k))=true
 .rw[av e,av e];exact r.repl k a
 .rw[ay e,ay e];exact Paired.snoc r ⟨rfl,a⟩
theorem KV.keys{kvs:List (κ×V)}{vs:List (κ×Value)}(r:KV kvs vs):kvs.map (·.1)=vs.map (·.1):=by
 unfold KV at r;induction r with
 |nil=>rfl
 |cons h t a=>rw[cg,cg,a,h.1]
theorem KV.length{kvs:List (κ×V)}{vs:List (κ×Value)}(r:KV kvs vs):kvs.length=vs.length:=Paired.length r
end
theorem m5{P:Program}{w:World}{k:Key}{u:Value}(r:RelV (kV k) u):(cP P w).is k u=true:=by
 cases k with
 |inl i=>obtain⟨t,e⟩:=(show ∃t,u=Value.int i t from r);subst e;exact Qs P w i t
 |inr x=>obtain⟨t,e⟩:=(show ∃t,u=Value.str x t from r);subst e;exact Qt P w x t
theorem EI{P:Program}{w:World}:∀{ks:List Key} {a:List Value},Vals (ks.map kV) a->ItemsAre (cP P w) ks a
 |[],_,r=>by rw[map_nil] at r;cases r;exact .nil
 |k::ks,_,r=>by
  rw[cg] at r;cases r with
  |cons h t=>exact .cons (m5 h) (EI t)
abbrev KT(H:Hp):List (List Key×V)->List (List Key×Addr×Value)->Prop:=Paired λp q=>p.1=q.1/\H q.2.1=some (.tup (p.1.map kV))/\RelV p.2 q.2.2
theorem KT.val{H:Hp}{kvs:List (List Key×V)}{xs:List (List Key×Addr×Value)}(r:KT H kvs xs)(k:List Key):jn (eZ kvs k) ((atKey xs k).map (·.2)):=by
 induction r with
 |nil=>exact True.intro
 | @cons p q ps qs h t c=>
  obtain⟨h1,_,h2⟩:=h;by_cases e:p.1=k
  .have a:q.1=k:=h1.symm.trans e
   have b:atKey (q::qs) k=some q.2:=by simp[atKey,mD,a]
   rw[AK e,b];exact h2
  .have a:¬q.1=k:=λz=>e (h1.trans z)
   have b:atKey (q::qs) k=atKey qs k:=by simp[atKey,mD,a]
   rw[AJ e,b];exact c
theorem KT.repl{H:Hp}{kvs:List (List Key×V)}{xs:List (List Key×Addr×Value)}(r:KT H kvs xs)(k:List Key){y:V}{u:Value}(b:RelV y u):
  KT H (kvs.map λa=>if a.1=k then (a.1,y) else a) (xs.map (putAt k u)):=by
 induction r with
 |nil=>exact .nil
 | @cons p q ps qs h t c=>
  rw[cg,cg];refine .cons ?_ c;obtain⟨h1,h2,d⟩:=h;unfold putAt;by_cases e:p.1=k
  .rw[av e,av (h1.symm.trans e)];exact⟨h1,h2,b⟩
  .rw[ay e,ay (λz=>e (h1.trans z))];exact⟨h1,h2,d⟩
theorem KT.put{H:Hp}{kvs:List (List Key×V)}{xs:List (List Key×Addr×Value)}(r:KT H kvs xs)(k:List Key){b:Addr}{y:V}{u:Value}(c:H b=some (.tup (k.map kV)))(a:RelV y u):
  KT H (putK kvs k y) (storedH xs k b u):=by
 have e:(kvs.any λd=>decide (d.1=k))=(atKey xs k).isSome:=by
  rw[Jh,(r.val k).rm,isSome_map]
 unfold putK storedH;rw[e];by_cases q:(atKey xs k).isSome=true
 .rw[av q,av q];exact r.repl k a
 .rw[ay q,ay q];exact Paired.snoc r ⟨rfl,c,a⟩
theorem KT.keeps{H H':Hp}{kvs:List (List Key×V)}{xs:List (List Key×Addr×Value)}(r:KT H kvs xs)(a:∀b ys,H b=some (.tup ys)->H' b=some (.tup ys)):KT H' kvs xs:=
 Paired.jy r λ_ _ z=>⟨z.1,a _ _ z.2.1,z.2.2⟩
section
variable{P:Program}{w:World}{H:Hp}{h:Heap}{a:Addr}
theorem GI{u:HO}(ok:cB P w H h)(e:Rd H a u):bX P w H h a u:=e.ok ok
theorem mV{kvs:List (Key×V)}(ok:cB P w H h)(e:Rd H a (.dK kvs)):kvs.length<=sizeLine/\(a==sysModules)=false/\∃vs,KV kvs vs/\h.DictOf (cP P w) a vs:=
 show bX P w H h a (.dK kvs) from GI ok e
theorem uw{kvs:List (Key×V)}(ok:cB P w H h)(e:H a=some (.dK kvs)):kvs.length<=sizeLine/\(a==sysModules)=false/\∃vs,KV kvs vs/\h.DictOf (cP P w) a vs:=mV ok (.inl e)
theorem rz{ks:List Key}(ok:cB P w H h)(e:H a=some (.tup (ks.map kV))):(tupleKind (cP P w)).is h ks a:=by
 obtain⟨_,its,r,p⟩:=(show bX P w H h a (.tup (ks.map kV)) from ok a _ e);obtain⟨o,h1,h2,n,b⟩:=p.is;exact⟨o,its.toArray,n,h1,h2,b,by simpa using EI r⟩
theorem qR{kvs:List (List Key×V)}(ok:cB P w H h)(e:Rd H a (.dT kvs)):kvs.length<=sizeLine/\(a==sysModules)=false/\
  ∃xs,KT H kvs xs/\h.DictOfH (tupleKind (cP P w)) a xs:=by
 obtain⟨z,y,xs,r,o,es,ep,h1,h2,c,d,f⟩:=(show bX P w H h a (.dT kvs) from GI ok e);refine⟨z,y,xs,r,o,es,ep,h1,h2,c,d,λx hx=>?_,f⟩;have all:∀{l:List (List Key×V)} {m:List (List Key×Addr×Value)},KT H l m->∀x∈m,(tupleKind (cP P w)).is h x.1 x.2.1:=by
  intro l m q;induction q with
  |nil=>intro x hx;exact nomatch hx
  | @cons p q ps qs b t g=>
   intro x hx;rcases aY.mp hx with e|hx
   .subst e
    exact rz ok (by rw[<-b.1];exact b.2.1)
   .exact g x hx
 exact all r x hx
theorem Mc{kvs:List (List Key×V)}(ok:cB P w H h)(e:H a=some (.dT kvs)):kvs.length<=sizeLine/\(a==sysModules)=false/\
 ∃xs,KT H kvs xs/\h.DictOfH (tupleKind (cP P w)) a xs:=qR ok (.inl e)
end
def oh(H:Hp)(a:Addr)(y:V)(r:Option V):Prop:=
 (∃kvs k,Rd H a (.dK kvs)/\y=kV k/\r=eZ kvs k)\/∃kvs k b,Rd H a (.dT kvs)/\y=.ref b/\H b=some (.tup (k.map kV))/\r=eZ kvs k
def qk(H:Hp)(a:Addr)(y v:V)(H':Hp):Prop:=
 (∃kvs k,H a=some (.dK kvs)/\y=kV k/\kvs.length<sizeLine/\H'=upd H a (.dK (putK kvs k v)))\/
 ∃kvs k b,H a=some (.dT kvs)/\y= .ref b/\H b=some (.tup (k.map kV))/\kvs.length<sizeLine/\H'=upd H a (.dT (putK kvs k v))
theorem qk.k{H:Hp}{a:Addr}{kvs:List (Key×V)}{k:Key}{v:V}(e:H a=some (.dK kvs))(hl:kvs.length<sizeLine):qk H a (kV k) v (upd H a (.dK (putK kvs k v))):=.inl ⟨kvs,k,e,rfl,hl,rfl⟩
section
variable{X:Cx}{pins:aS}{σ:St}{H:Hp}{s:Shared}{a:Addr}{y v:V}{u r:Value}{o:Option V}{A:Around}{E:aQ}
theorem Inv.big(I:Inv X pins σ H s):sysModules<s.heap.objs.size:=by
 have h:mainGlobals<s.heap.objs.size:=(I.mod.glob.keeps I.bk).lt;exact lt_trans (by decide) h
theorem Lw{Q:aQ}(n:A.units+1<cLine)(I:Inv X pins σ H s)(g:oh H a y (some v))(m:RelV y u)(h:∀d s',Inv X pins σ H s'->RelV v d->Q d s'):
  wpAny (model X.prog X.w) A (getItem (.ref a) u) Q E s:=by
 rcases g with⟨kvs,k,e,f,l⟩|⟨kvs,k,b,e,f,q,l⟩
 .subst f
  obtain⟨z,hd,vs,rel,dd⟩:=mV I.hok e;obtain⟨d,i,c⟩:=jn.some_of (v:=v) (o:=valueAt vs k) (by rw[l];exact rel.val k);exact wpAny_getItem_of (m5 m) dd.mapOf i (h d _ (I.tok _) c)
 .subst f
  cases (show u=Value.ref b from m);obtain⟨z,hd,xs,rel,dd⟩:=qR I.hok e;obtain⟨d,i,c⟩:=jn.some_of (v:=v) (o:=(atKey xs k).map (·.2)) (by rw[l];exact rel.val k);obtain⟨p,r,j⟩:=Option.map_eq_some_iff.mp i;refine wpAny_getItem_heap (wZ n) (rz I.hok q) dd r ?_;rw[j];exact h d _ (I.tok _) c
theorem Ly{Q:aQ}(f:A.units+1<cLine)(I:Inv X pins σ H s)(g:oh H a y o)(d:RelV y u)(h:∀s',Inv X pins σ H s'->Q (.bool o.isSome) s'):
  wpAny (model X.prog X.w) A (compareOp .In u (.ref a)) Q E s:=by
 rcases g with⟨kvs,k,e,c,l⟩|⟨kvs,k,b,e,c,i,l⟩
 .subst c
  obtain⟨z,hd,vs,rel,dd⟩:=mV I.hok e;refine wpAny_in_of (m5 d) hd dd.mapOf ?_;rw[<-(rel.val k).rm,<-l];exact h _ (I.tok _)
 .subst c
  cases (show u=Value.ref b from d);obtain⟨z,hd,xs,rel,dd⟩:=qR I.hok e;refine wpAny_in_heap (wZ f) (rz I.hok i) hd dd ?_;have q:=(rel.val k).rm;rw[isSome_map] at q;rw[<-q,<-l];exact h _ (I.tok _)
theorem LF{Q:aQ}(f:A.units+1<cLine)(I:Inv X pins σ H s)(g:oh H a y o)(d:RelV y u)(h:∀s',Inv X pins σ H s'->Q (.bool (!o.isSome)) s'):
  wpAny (model X.prog X.w) A (compareOp .NotIn u (.ref a)) Q E s:=by
 rcases g with⟨kvs,k,e,c,l⟩|⟨kvs,k,b,e,c,i,l⟩
 .subst c
  obtain⟨z,hd,vs,rel,dd⟩:=mV I.hok e;refine wpAny_notIn_of (m5 d) hd dd.mapOf ?_;rw[<-(rel.val k).rm,<-l];exact h _ (I.tok _)
 .subst c
  cases (show u=Value.ref b from d);obtain⟨z,hd,xs,rel,dd⟩:=qR I.hok e;refine wpAny_notIn_heap (wZ f) (rz I.hok i) hd dd ?_;have q:=(rel.val k).rm;rw[isSome_map] at q;rw[<-q,<-l];exact h _ (I.tok _)
theorem uo{h':Heap}{t':Nat}{c:HO}(I:Inv X pins σ H s)(d:qo (H a))(f:SameBut a s.heap h')(g:∃q,h'.get? a=some q)(new:bX X.prog X.w (upd H a c) h' a c):
  Inv X pins σ (upd H a c) {s with heap:=h',toks:=t'}:=
 I.write (x:=a) (e:=a) d (.inl rfl) (λb q h z=>(f.2 b h).trans z) g new
theorem yH{P:Program}{w:World}{H':Hp}{h':Heap}{kvs:List (Key×V)}{vs:List (Key×Value)}(z:kvs.length<=sizeLine)(hd:(a==sysModules)=false)(rel:KV kvs vs)(dd:h'.DictOf (cP P w) a vs):
 bX P w H' h' a (.dK kvs):=⟨z,hd,vs,rel,dd⟩
theorem LI{H':Hp}{Q:Unit->Shared->Prop}(x:A.units+1<cLine)(I:Inv X pins σ H s)(g:qk H a y v H')(n:RelV y u)(o:RelV v r)(h:∀s',Inv X pins σ H' s'->Q () s'):
  wpAny (model X.prog X.w) A (setItem (.ref a) u r) Q E s:=by
 rcases g with⟨kvs,k,e,i,l,j⟩|⟨kvs,k,b,e,i,p,l,j⟩
 .subst i j
  obtain⟨z,hd,vs,rel,dd⟩:=uw I.hok e;have hz:vs.length<=sizeLine:=by rw[<-rel.length];exact z
  have hl:(putK kvs k v).length<=sizeLine:=by have:=zA kvs k v;omega
  refine wpAny_setItem_pairs (hsz:=hz) (m5 n) dd λh' d m=>h _ ?_;have B:∃q,h'.get? a=some q:=let ⟨q,_,_,f,_⟩:=d;⟨q,f⟩;exact uo I (by rw[e];exact True.intro) m B (yH hl hd (rel.put k o) d)
 .subst i j
  cases (show u=Value.ref b from n);obtain⟨z,hd,xs,rel,dd⟩:=Mc I.hok e;have hz:xs.length<=sizeLine:=by rw[<-Paired.length rel];exact z
  have hl:(putK kvs k v).length<=sizeLine:=by have:=zA kvs k v;omega
  refine wpAny_setItem_heap (hsz:=hz) (wZ x) (rz I.hok p) dd λh' d m=>h _ ?_;obtain⟨q,es,ep,f,h2,C,D,_,F⟩:=d;refine uo I (by rw[e];exact True.intro) m ⟨q,f⟩ ⟨hl,hd,_,(rel.put k p o).keeps λc ys t=>?_,q,es,ep,f,h2,C,D,F⟩;rw[aW (QE t e (λz=>nomatch z))];exact t
end
section
variable{X:Cx}{pins:aS}{σ:St}{H:Hp}{s:Shared}{a:Addr}{kvs:List (Key×V)}{k:Key}{u:Value}{A:Around}{E:aQ}
theorem fL{Q:aQ}(I:Inv X pins σ H s)(e:Rd H a (.dK kvs))(h:∀t s',Inv X pins σ H s'->Q (.int kvs.length t) s'):wpAny (model X.prog X.w) A (call (.builtin "len") [.ref a]) Q E s:=by
 obtain⟨z,hd,vs,rel,dd⟩:=mV I.hok e;refine call_len_dict hd dd (by rw[<-rel.length];rw[kc] at z;omega) ?_;rw[<-rel.length];exact h _ _ (I.tok _)
end
theorem L1{X:Cx}{pins:aS}{σ:St}{H:Hp}{s:Shared}{a:Addr}{y:V}{o:Option V}(I:Inv X pins σ H s)(g:oh H a y o):s.TypeIs (.ref a) "dict":=by
 rcases g with⟨kvs,k,e,_,_⟩|⟨kvs,k,b,e,_,_,_⟩
 .obtain⟨_,_,vs,_,dd⟩:=mV I.hok e
  exact dd.typeIs
 .obtain⟨_,_,xs,_,dd⟩:=qR I.hok e
  exact dd.typeIs
def Tr(td ty tv:TE):TS:=λD σ H=>tv σ H λv H1=>td σ H1 λx H2=>ty σ H2 λy H3=>∃a H4,x=.ref a/\qk H3 a y v H4/\D.nx σ H4
section
variable{X:Cx}{o i e value:Expr}{pos pos' tpos:Pos}{td ty tv:TE}
theorem Sv(b:X.A.units+1<cLine)(c:PE X o td)(hi:PE X i ty)(d:PE X value tv)(e:swapsWith value (some (.Subscript o i pos')) pos.line X.env=pure false):
  PS X (.Assign [.Subscript o i pos'] value pos) (Tr td ty tv):=by
 intro pins s σ H D I h;refine wpAny_Assign_Subscript (aK (d pins s σ H _ I h) λr f ⟨v,H1,j,k,l⟩=>aK (c pins f σ H1 _ j l) λu m ⟨x,H2,n,p,q⟩=>aK (hi pins m σ H2 _ n q) λE F ⟨y,G,t,w,a,z,ex,g,B⟩=>?_) e;subst ex;obtain rfl:u=Value.ref a:=p;exact LI b t g w k λs4 C=>⟨σ,z,C,B⟩
end
theorem Du{P:Program}{w:World}{H:Hp}(h:Heap)(a:sysModules<h.objs.size):bX P w H (h.push {cls:=.type "dict",data:=.dict #[]}) h.objs.size (.dK []):=
 ⟨bG _,beq_eq_false_iff_ne.mpr (Ne.symm (bE a)),[],.nil,DictOf.new h⟩
def Va:TE:=λ_ H Q=>∀p,H p=none->Q (.ref p) (upd H p (.dK []))
section
variable{X:Cx}{pos:Pos}
theorem RI:PE X (.Dict [] [] pos) Va:=λpins s σ H Q I h=>
 wpAny_Dict_empty ⟨.ref s.heap.objs.size,_,I.laid (a:=s.heap.objs.size) (o:=.dK []) (t':=s.toks) (λ_ _ q=>bw _ q) (aF _) (Du s.heap I.big),rfl,h _ (I.hok.fresh (aF _))⟩
end
def Ax:List (TE×TE)->St->Hp->(List (V×V)->Hp->Prop)->Prop
 |[],_,H,Q=>Q [] H
 |(tk,tv)::r,σ,H,Q=>tk σ H λx H1=>tv σ H1 λy H2=>Ax r σ H2 λps H3=>Q ((x,y)::ps) H3
abbrev VV:List (V×V)->List (Value×Value)->Prop:=Paired λp q=>RelV p.1 q.1/\RelV p.2 q.2
def tW(X:Cx)(pos:Pos)(keys:List (Option Expr))(values:List Expr)(AD:List (TE×TE)):Prop:=
 ∀(pins:aS) (s:Shared) (σ:St) (H:Hp) (Q:List (V×V)->Hp->Prop),Inv X pins σ H s->Ax AD σ H Q->
  wpAny (model X.prog X.w) X.A (evalPairs (pairTrees keys values X.env pos)) (λvs s'=>∃ps H',Inv X pins σ H' s'/\VV ps vs/\Q ps H') X.xe s
theorem So{X:Cx}{pos:Pos}:tW X pos [] [] []:=λpins s σ H Q I h=>pairTrees_nil_walk ⟨[],H,I,.nil,h⟩
theorem Sn{X:Cx}{pos:Pos}{k v:Expr}{ks:List (Option Expr)}{vs:List Expr}{b tv:TE}{a:List (TE×TE)}(c:PE X k b)(d:PE X v tv)(e:tW X pos ks vs a):
  tW X pos (some k::ks) (v::vs) ((b,tv)::a):=λpins s σ H Q I h=>
 pairTrees_cons_walk (aK (c pins s σ H _ I h) λu f ⟨x,H1,g,i,j⟩=>aK (d pins f σ H1 _ g j) λt l ⟨y,H2,m,n,o⟩=>
  aK (e pins l σ H2 _ m o) λws w ⟨ps,p,q,rel,r⟩=>⟨(x,y)::ps,p,q,.cons ⟨i,n⟩ rel,r⟩)
def jW(kvs more:List (Key×V)):List (Key×V):=more.foldl (λacc kv=>putK acc kv.1 kv.2) kvs
theorem KV.merge:∀{a:List (Key×V)} {rs:List (Key×Value)} {kvs:List (Key×V)} {vs:List (Key×Value)},KV a rs->KV kvs vs->KV (jW kvs a) (merged vs rs):=by
 intro a rs kvs vs r;unfold KV at r;induction r generalizing kvs vs with
 |nil=>intro q;exact q
 | @cons p q ps qs h t b=>
  intro c;have e:KV (putK kvs p.1 p.2) (stored vs q.1 q.2):=by
   have:=c.put p.1 h.2;rw[<-h.1];exact this
  exact b e
theorem zz:∀(a kvs:List (Key×V)),(jW kvs a).length<=kvs.length+a.length
 |[],kvs=>by show kvs.length<=kvs.length+0;omega
 |p::r,kvs=>by
  have h1:=zz r (putK kvs p.1 p.2);have h2:=zA kvs p.1 p.2;show(jW (putK kvs p.1 p.2) r).length<=_;rw[gC];omega
theorem CI{P:Program}{w:World}:∀{kvs:List (Key×V)} {ws:List (Value×Value)},VV (kvs.map λd=>(kV d.1,d.2)) ws->∃rs,Carries (cP P w) ws rs/\KV kvs rs
 |[],_,r=>by rw[map_nil] at r;cases r;exact⟨[],True.intro,.nil⟩
 |p::kvs,_,r=>by
  rw[cg] at r;cases r with
  | @cons a b as bs h t=>
   obtain⟨rs,c,q⟩:=CI (P:=P) (w:=w) t;obtain⟨f,e⟩:=b;exact⟨(p.1,e)::rs,⟨m5 h.1,rfl,c⟩,.cons ⟨rfl,h.2⟩ q⟩
def Vb(AD:List (TE×TE)):TE:=λσ H Q=>∀p,H p=none->Ax AD σ (upd H p (.dK [])) λps H2=>H2 p=some (.dK [])/\∃kvs:List (Key×V),ps=kvs.map (λkv=>(kV kv.1,kv.2))/\kvs.length<=15/\Q (.ref p) (upd H2 p (.dK (jW [] kvs)))
theorem RH{X:Cx}{pos:Pos}{keys:List (Option Expr)}{values:List Expr}{b:List (TE×TE)}(h:tW X pos keys values b)(d:keys.all (·.isSome)=true)(hl:keys.length=values.length)(h0:keys≠[])
  (g:keys.length<=15):PE X (.Dict keys values pos) (Vb b):=by
 intro pins s σ H Q I q;have j:=I.hok.fresh (aF s.heap.objs.size);have k:=I.laid (a:=s.heap.objs.size) (o:=.dK []) (h':=s.heap.push {cls:=.type "dict",data:=.dict #[]}) (t':=s.toks) (λ_ _ q=>bw _ q) (aF _) (Du s.heap I.big);refine wpAny_Dict_walk (knd:=cP X.prog X.w) d hl h0 g (aK (h pins _ σ _ _ k (q _ j)) λws v ⟨ps,H2,i,rel,e,kvs,ep,lk,l⟩=>?_);subst ep;obtain⟨rs,c,m⟩:=CI (P:=X.prog) (w:=X.w) rel;obtain⟨z,hd,n,p,dd⟩:=uw i.hok e;cases p;refine⟨rs,c,dd,λh' f r=>⟨.ref s.heap.objs.size,_,?_,rfl,l⟩⟩;have hz:(jW [] kvs).length<=sizeLine:=by
  have h1:=zz kvs [];rw[length_nil] at h1;rw[kc];omega
 have t:∃q,h'.get? s.heap.objs.size=some q:=let ⟨q,_,_,u,_⟩:=f;⟨q,u⟩;exact uo i (by rw[e];exact True.intro) r t (yH hz hd (m.merge .nil) f)
end L2
end
namespace Bh
open PySem PySem.W PySem.Calls PyProof.Rows
theorem OW{P:Params}{h:Heap}:∀(ns:List Int) (vs:List Value),WellAll P h vs (ns.map WData.int)->IntsAre vs ns:=by
 intro ns;induction ns with
 |nil=>
  intro vs w;rw[map_nil] at w;cases w;exact .nil
 |cons n ns c=>
  intro vs w;rw[cg] at w;cases w with
  |cons a b=>
   cases a;exact .cons _ _ (c _ b)
theorem UB{l:OpenLaw}{n:Nat}(k:l.most=some n){P:Params}{h:Heap}{args:List WData}{vals:List Value}
  (b:l.row.toRowW.claim.pre args=true)(i:WellAll P h vals args):
  ∃a vs ns,vals=[Value.ref a]/\args=[WData.list (ns.map WData.int)]/\h.get? a=some {cls:=.type "list",data:=.seq vs.toArray}/\IntsAre vs ns/\ns.length<=n:=by
 have j:WShape.hasAll [] args [.list .int]=true:=(pre_splitW b).1;have hc:l.pre.holds [] {args:=args}=true:=(pre_splitW b).2;obtain⟨d,r,rfl,h1,h2⟩:=hasAllW_cons j;obtain rfl:=hasAllW_nil h2;obtain⟨xs,rfl,m⟩:=hasW_list h1;obtain⟨ns,rfl⟩:=items_int m;have c:ns.length<=n:=by
  unfold OpenLaw.pre at hc;have f:(WTm.not (.lt (.lit (.int (n:Int))) (.len (.arg 0)))).holds [] {args:=[.list (ns.map .int)]}=true:=by
   have f:=(holds_andW hc).1;rw[k] at f;exact f
  have g:=condW_of f (w_not (w_lt w_lit (w_len_list (w_arg rfl))));rw[aP] at g;refine Nat.le_of_not_lt λq=>?_;have o:(n:Int)<((ns.length:Nat):Int):=by omega
  first
   |(rw[dg o] at g;exact absurd g (by decide))
   |(simp at g;omega)
 cases i with
 |cons p s=>
  cases s;cases p with
  |list t e=>exact⟨_,_,ns,rfl,rfl,t,OW ns _ e,c⟩
theorem Sl(l:OpenLaw)(args:List WData):l.row.toRowW.claim.post args (.bool true) args=true:=
 postW_of (r:=l.row.toRowW) (X:=(true==true))
  (show WShape.has [] (.bool true) .bool=true by first|rfl|decide|simp[WShape.has,WShape.arms,WShape.armsAll])
  (show(WTm.eq .res (.lit (.bool true))).value [] {args:=args,res:=some (.bool true),after:=args}=some (.bool (true==true)) from w_eq_bool (w_res rfl) w_lit) rfl
theorem Km{l:OpenLaw}{n:Nat}{q:Program}{loose:List Str}{p:(au)->Heap->Prop}{s:World->Heap->Prop}{d:DefRec}
  (v:l.most=some n)(i:d.params.defaults=[])
  (call:∀(w:World) (s₀ b:Shared) (mg mb:au) (c:Addr) (o:Obj) (pm cd doc:Value) (a:Addr) (vs:List Value) (ns:List Int),
   Ground q loose [] p w s₀ mg mb b.heap->s w b.heap->
   b.heap.get? c=some o->o.data= .func (docDef d.name d.params d.body d.scope pm cd doc)->b.heap.CodeRec cd d.name->mg d.name=some (.ref c)->
   b.heap.get? a=some {cls:= .type "list",data:= .seq vs.toArray}->IntsAre vs ns->ns.length<=n->b.gens= #[]->
   codeAny (model l.prog w) callerA (.call (.ref c) ⟨[.ref a],[]⟩) (λr s'=>r= .ok (.ret (.bool true))/\OldK b.heap s'.heap/\s'.os=b.os/\AllBare s'.gens) b):
  WalkO q loose p s l.row.toRowW d [] (λf vs=>PySem.call f vs):=by
 intro w s₀ b mg mb G Y c o pm cd doc x kV y hd j t k z args vals as e u A m B
 obtain rfl:x= .none:=Dflts.none t i
 obtain rfl:kV= .none:=Dflts.noKw t
 obtain⟨a,vs,ns,rfl,rfl,g,hints,h⟩:=UB v e m
 refine enter_call (nW (call w s₀ b mg mb c o pm cd doc a vs ns G Y y (fd_plain hd) j k g hints h z) λr s' C=> ?_)
 obtain⟨rfl,h2,D,E⟩:=C
 exact⟨.inl ⟨.bool true,.bool true,[],rfl,λ_=>rfl,.bool true,Sl l _,λ_=>⟨Pairwise.nil,λ_ F=>(nomatch F)⟩⟩,h2,D,E⟩
end Bh
section
open PySem PySem.Spec PyProof.Rows
namespace L2
theorem Ji:∀{vs:List Value} {ns:List Int},IntsAre vs ns->Vals (ns.map V.int) vs
 |_,_,.nil=>.nil
 |_,_,.cons n t h=>.cons ⟨t,rfl⟩ (Ji h)
def tV(H:Hp):Prop:=∀b,H b=none\/∃o xs,H b=some (.bK o (.lst xs))
theorem PO{P:Program}{w:World}{K:Frag}{mg mb:au}{CX:iV}{k:Nat}{D a:Addr}{fd:FuncData}{x:Str}{sp:Sp}{c:Shared}{vs:List Value}{ns:List Int}
  (N:K.In c.heap)(l:c.heap.Ns mainGlobals mg)(g:c.heap.Ns builtinsNs mb)(E:∀x:Str,x≠"__name__"->mb x=bootBuiltins x)(p:c.heap.NoLimit)(T:c.gens= #[])
  (C:c.heap.get? a=some {cls:= .type "list",data:= .seq vs.toArray})(hi:IntsAre vs ns)(hl:ns.length<=sizeLine)(U:dz k callerA)
  (F:∀base:Heap,K.In base->base.Ns mainGlobals mg->gG P w K mg base CX k D fd [x] sp)(j:∀(s:Shared) (u:Value),BindsTo s fd ⟨[u],[]⟩ [(x,u)])
  (G:∀H:Hp,tV H->aR K H a (ns.map V.int)->sp [.ref a] H (λv _=>v= .bl true) λ_ _ _=>False)
  (I:∀H e s',CX [] H c (λ_ _ _=>False) e s'->False):
  codeAny (model P w) callerA (.call (.ref D) ⟨[.ref a],[]⟩) (λr s'=>r= .ok (.ret (.bool true))/\OldK c.heap s'.heap/\s'.os=c.os/\AllBare s'.gens) c:=by
 have O:=Ji hi
 have t:=hi.length
 have core:∀H:Hp,tV H->aR K H a (ns.map V.int)->cB P w H c.heap->(∀b,H b≠none->b=a)->(H a≠none->K.lookup a=none)->
   codeAny (model P w) callerA (.call (.ref D) ⟨[.ref a],[]⟩) (λr s'=>r= .ok (.ret (.bool true))/\OldK c.heap s'.heap/\s'.os=c.os/\AllBare s'.gens) c:=by
  intro H Q W hok R X
  have f:∀{b:Addr} {o:Obj},c.heap.get? b=some o->H b=none->(kI c.heap H).get? b=some o:=λe n=>Oq e n
  have J:∀{b:Addr} {o:Obj} {es:Array DictEntry} {ep:Nat},c.heap.get? b=some o->o.data= .dict es ep->H b=none:=λ {b o es ep} e d=>by
   cases q:H b with
   |none=>rfl
   |some u=>
    have L:b=a:=R b (by rw[q];simp)
    subst L
    rw[C] at e;cases e
    have d':Data.seq vs.toArray _=Data.dict es ep:=d
    cases d'
  have i:∀{b:Addr} {m:au},c.heap.Ns b m->(kI c.heap H).Ns b m:=λ {b m} ⟨o,es,ep,e,d,r⟩=>⟨o,es,ep,f e (J e d),d,r⟩
  have y:K.In (kI c.heap H):=λb o e=>f (N b o e) (by
   cases q:H b with
   |none=>rfl
   |some u=>
    have L:b=a:=R b (by rw[q];simp)
    subst L
    rw[X (by rw[q];simp)] at e;cases e)
  have Y:Mod K mg (kI c.heap H):=⟨y,i l,⟨mb,i g,E⟩,let ⟨mc,h1,h2⟩:=p;⟨mc,i h1,h2⟩⟩
  have Z:tM P w K mg (kI c.heap H) callerA [] c H:=⟨rfl,Y,λb o e=>QT e,Nat.le_of_eq (Ot _ _),trivial,λb g=>absurd (show b∈([]:List Addr) from g) (by simp),hok,.of_eq T⟩
  refine nW ((F _ y (i l)).run callerA [] c H ⟨[.ref a],[]⟩ [.ref a] [.ref a] _ _ U Z (j c (.ref a)) (.cons rfl .nil) (G H Q W)) λr s' h=> ?_
  cases r with
  |error e=>exact(I H e s' h).elim
  |ok fl=>
   cases fl with
   |next=>exact False.elim h
   |brk=>exact False.elim h
   |cont=>exact False.elim h
   |ret u=>
    obtain⟨v,H',os,bare,un,A,r',q⟩:=h
    have q':v= .bl true:=q
    subst q'
    obtain rfl:u=Value.bool true:=r'
    refine⟨rfl,OldK.of_keep λb o e=> ?_,os,bare⟩
    cases q:H b with
    |none=>exact un.keep b o e q (by intro z;exact absurd (show b∈([]:List Addr) from z) (by simp)) (by simp)
    |some u=>
     rcases Q b with z|⟨ob,xs,z⟩
     .rw[q] at z;cases z
     .have z2:=un.fG b ob _ z
      obtain⟨S,_⟩:=hok b _ z
      obtain⟨e2,_⟩:=A b _ z2
      rw[e] at S;cases S
      exact e2
 cases M:K.lookup a with
 |some o=>
  have e:=N a o M
  rw[C] at e
  cases e
  refine core (λ_=>none) (λ_=> .inl rfl) (.inr ⟨_,vs.toArray,_,M,rfl,rfl,rfl,by rw[b6,t];exact hl,by simpa using O⟩) (λb u z=>by have B:(none:Option HO)=some u:=z;cases B) (λb z=>absurd rfl z) λz=>absurd rfl z
 |none=>
  refine core (λb=>if b=a then some (.bK {cls:= .type "list",data:= .seq vs.toArray} (.lst (ns.map V.int))) else none) (λb=> ?_) (.inl (.inr ⟨{cls:= .type "list",data:= .seq vs.toArray},av rfl⟩)) (λb u z=> ?_) (λb z=> ?_) λ_=>M
  .by_cases g:b=a
   .exact .inr ⟨_,_,av g⟩
   .exact .inl (ay g)
  .by_cases g:b=a
   .have B:=(av g).symm.trans z
    cases B
    subst g
    exact⟨C,by rw[aP];exact hl,vs,_,O,C⟩
   .have B:=(ay g).symm.trans z
    cases B
  .by_cases g:b=a
   .exact g
   .exact absurd (ay g) z
theorem VU{l:PySem.W.OpenLaw}{n k:Nat}{q:Program}{loose:List Str}{C:(au)->Heap->Prop}{A:World->Heap->Prop}{d:DefRec}{K:Params->Frag}{CX:World->iV}{sp:World->Sp}{x:Str}
  (D:l.most=some n)(p:n<=sizeLine)(r:d.params.defaults=[])(E:dz k callerA)
  (I:∀(w:World) (h:Heap),A w h->(K w.params).In h)
  (F:∀(w:World) (mg:au) (m:Addr) (h:Heap),(K w.params).In h->h.Ns mainGlobals mg->mg d.name=some (.ref m)->
   ∃fd:FuncData,(∀(s:Shared) (u:Value),BindsTo s fd ⟨[u],[]⟩ [(x,u)])/\
    ∀base:Heap,(K w.params).In base->base.Ns mainGlobals mg->gG l.prog w (K w.params) mg base (CX w) k m fd [x] (sp w))
  (t:∀(w:World) (H:Hp) (a:Addr) (ns:List Int),ns.length<=n->tV H->aR (K w.params) H a (ns.map V.int)->sp w [.ref a] H (λv _=>v= .bl true) λ_ _ _=>False)
  (y:∀(w:World) (H:Hp) (s:Shared) (e:Value) (s':Shared),CX w [] H s (λ_ _ _=>False) e s'->False):
  PySem.W.WalkO q loose C A l.row.toRowW d [] (λf vs=>PySem.call f vs):=by
 refine Bh.Km D r λw s₀ i mg mb m o pm cd doc a vs ns G Y Q hd J z j hints c L=> ?_
 have B:=I w _ Y
 obtain⟨fd,M,N⟩:=F w mg m _ B G.T.g z
 exact PO B G.T.g G.T.b G.T.builtins G.T.nolimit L j hints (cR c p) E N M (λH O P=>t w H a ns c O P) λH e s'=>y w H i e s'
def lI(s:Stmt):Arguments:=match s with
 |.FunctionDef _ a _ _ _ _ _ _ _ _=>a
 |_=>{posonlyargs:=[],args:=[],vararg:=none,kwonlyargs:=[],kw_defaults:=[],kwarg:=none,defaults:=[]}
def ig(s:Stmt):List Stmt:=match s with
 |.FunctionDef _ _ b _ _ _ _ _ _ _=>b
 |_=>[]
def aI(s:Stmt):Scope:=match s with
 |.FunctionDef _ _ _ _ _ _ sc _ _ _=>sc
 |_=>{kind:=.function,names:=[],isGenerator:=false,isCoroutine:=false}
structure kj(K:Frag)(x qual:Str)(st:Stmt)(f:Addr)(fd:FuncData):Prop where
 ex:∃(oc:Value) (od:Option Addr) (kV doc pm:Value) (an:Option Addr) (cdv ct:Value) (osl:Array (Option Value)),
  fd=fnOf x qual (lI st) (ig st) (aI st) .none kV doc pm an cdv ct/\K.lookup f=some ⟨oc,od,.func fd,osl⟩/\codeIn K cdv qual=true
 kp:keepIn K (.ref f)=true
section
variable{P:Program}{w:World}{K:Frag}{mg:au}{base:Heap}
theorem kj.binds{x qual:Str}{st:Stmt}{f:Addr}{fd:FuncData}{ps:List Str}(F:kj K x qual st f fd)
  (h:∀(kV doc pm:Value) (an:Option Addr) (a ct:Value) (b:List Value),b.length=ps.length->bindArgs (fnOf x qual (lI st) (ig st) (aI st) .none kV doc pm an a ct) ⟨b,[]⟩=pure (ps.zip b)):Binds K fd ps []:=by
 obtain⟨e,g,kV,doc,pm,an,a,ct,c,rfl,lk,d⟩:=F.ex;exact .all (h kV doc pm an a ct)
theorem yY{x qual:Str}{st:Stmt}{f:Addr}{d:Value}{e an:Option Addr}{b:Array (Option Value)}{kV doc pm a ct:Value}(l:K.lookup f=some ⟨d,e,.func (fnOf x qual (lI st) (ig st) (aI st) .none kV doc pm an a ct),b⟩)
 (c:codeIn K a qual=true)(k:keepIn K (.ref f)=true):kj K x qual st f (fnOf x qual (lI st) (ig st) (aI st) .none kV doc pm an a ct):=⟨⟨d,e,kV,doc,pm,an,a,ct,b,rfl,l,c⟩,k⟩
end
section
variable{X:Cx}
theorem KD:eF X (.builtin "len") (λxs H Q=>∃a kvs,xs=[V.ref a]/\H a=some (.dK kvs)/\Q (.int kvs.length) H):=by
 intro pins s σ H xs e Q I r h;obtain⟨a,kvs,rfl,b,q⟩:=h;obtain⟨u,rfl,c⟩:=vals1 r;cases c;exact fL I (.inl b) λt s' d=>⟨.int kvs.length,H,d,⟨t,rfl⟩,q⟩
end
theorem O5{A B:Prop}(h:B):if false=true then A else B:=by
 rw[ay bZ];exact h
theorem O6{A B:Prop}(h:A):if true=true then A else B:=by
 rw[av rfl];exact h
def ku(H H':Hp):Prop:=∀b o,H b=some o->H' b=some o
end L2
end
namespace PySem
open Sem (wp)
namespace ZL
abbrev jI(h:Heap)(z TI TO:Addr)(f0 f1:Value):Prop:=
 h.get? z=some {cls:=.type "zip",dict:=none,data:=.fields #[f0,f1,.bool false,.ref TI,.ref TO],slots:= #[]}
section
variable{prog:Program}{w:World}{A:Around}{E:aQ}{s:Shared}
theorem V4{z TI TO i1 i2 l1 l2 T:Addr}{F:Obj}{m:Bool}{k1 k2:Nat}{xs ys:Array Value}{x y:Value}{Q:aQ}(D:ZipApart z TI TO i1 i2 l1 l2)
  (hz:jI s.heap z TI TO (rawInt T) (.bool m))(H:s.heap.get? T=some F)(I:T≠z)(n:IsPair s.heap TI (.ref i1) (.ref i2))
  (h1:s.heap.IsListIter i1 l1 k1)(h2:s.heap.IsListIter i2 l2 k2)(q:s.heap.IsList l1 xs)(t:s.heap.IsList l2 ys)(J:xs[k1]? =some x)(K:ys[k2]? =some y)
  (L:∀h',jI h' z TI TO (rawInt T) (.bool true)->h'.IsListIter i1 l1 (k1+1)->h'.IsListIter i2 l2 (k2+1)->IsPair h' s.heap.objs.size x y->h'.objs.size=s.heap.objs.size+1->
   (∀c o,c≠z->c≠i1->c≠i2->s.heap.get? c=some o->h'.get? c=some o)->Q (.ref s.heap.objs.size) {s with heap:=h'}):
  wpAny (model prog w) A (Builtin.«zip.__next__» ⟨[.ref z],[]⟩) (λfin s'=>∃v,fin= .done (.ret v)/\Q v s') E s:=by
 show wpAny _ _ (field (.ref z) 2>>=_) _ _ _
 refine ah (mq hz rfl (x:= .bool false) rfl ?_)
 show wpAny _ _ (field (.ref z) 3>>=_) _ _ _
 refine ah (mq hz rfl (x:= .ref TI) rfl ?_)
 refine ah (s8 n rfl ?_)
 show wpAny _ _ (Builtin.SmallTypes.ownedTupleIsFree (.ref z)>>=_) _ _ _
 have first:wpAny (model prog w) A (Builtin.SmallTypes.ownedTupleIsFree (.ref z)) (λb s'=>b=false/\∃f,s'={s with heap:=f}/\jI f z TI TO (rawInt T) (.bool true)/\SameBut z s.heap f) E s:=by
  unfold Builtin.SmallTypes.ownedTupleIsFree
  refine ah (mq hz rfl (x:=rawInt T) rfl ?_)
  show wpAny _ _ (loadIfAlive ((T:Int)).toNat>>=_) _ _ _
  have M:∀{R:Option Obj->Shared->Prop},R (some F) s->wpAny (model prog w) A (loadIfAlive ((T:Int)).toNat) R E s:=λ {R} h=>by
   intro O p _
   unfold loadIfAlive
   rw[Sem.wp_loadIfAlive,p6,H]
   exact h
  refine ah (M ?_)
  rw[ay (by simp)]
  refine ah (mq hz rfl (x:= .bool m) rfl ?_)
  cases m with
  |true=>exact aG ⟨rfl,s.heap,rfl,hz,.refl ..⟩
  |false=>
   show wpAny _ _ (setField (.ref z) 1 (.bool true)>>=_) _ _ _
   exact ah (wpAny_setField_rec hz (by simp) λf i a=>aG ⟨rfl,f,rfl,i,a⟩)
 refine ah (je first (λb s' N=> ?_) λ_ _ e=>e)
 obtain⟨rfl,f,rfl,i,a⟩:=N
 show wpAny _ _ (forIn _ _ _>>=_) _ _ _
 refine ah ?_
 rw[<-Array.forIn_toList]
 simp only[forIn_cons,forIn_nil]
 refine ah (ah (gZ ?_))
 show wpAny _ _ (Builtin.SmallTypes.nextOf (.ref i1)>>=_) _ _ _
 refine ah (AS (h1.extBut a.extBut D.i1z) (q.extBut a.extBut D.l1z) J λG k d=>aG (aG ?_))
 refine ah (ah (gZ ?_))
 show wpAny _ _ (Builtin.SmallTypes.nextOf (.ref i2)>>=_) _ _ _
 refine ah (AS ((h2.extBut a.extBut D.i2z).extBut d.extBut D.i12.symm) ((t.extBut a.extBut D.l2z).extBut d.extBut D.l2i1) K λj l g=>aG (aG (aG ?_)))
 show wpAny _ _ (newTuple [x,y]>>=λr=>ret r) _ _ _
 have hsz:j.objs.size=s.heap.objs.size:=by rw[g.1,d.1,a.1]
 refine ah (jf (aG ⟨_,rfl,?_⟩) (by show 2<=sizeLine;decide))
 show Q (.ref j.objs.size) _
 rw[hsz]
 have up:∀c o,c≠z->c≠i1->c≠i2->s.heap.get? c=some o->j.get? c=some o:=λc o u B C e=>g.extBut _ _ C (d.extBut _ _ B (a.extBut _ _ u e))
 refine L _ (bw _ (g.extBut _ _ D.i2z.symm (d.extBut _ _ D.i1z.symm i))) ((k.extBut g.extBut D.i12).at λo e=>bw _ e) (l.at λo e=>bw _ e) ?_ (by rw[gi,hsz]) λc o u B C e=>bw _ (up c o u B C e)
 rw[<-hsz]
 exact cA _ rfl
theorem Rp{z TI TO T:Addr}{f:Obj}{e:Bool}(hz:jI s.heap z TI TO (rawInt T) (.bool e))(g:s.heap.get? T=some f):
  wpAny (model prog w) A (Builtin.SmallTypes.ownedTupleIsFree (.ref z)) (λb s'=>b=false/\∃a,s'={s with heap:=a}/\jI a z TI TO (rawInt T) (.bool true)/\SameBut z s.heap a) E s:=by
 unfold Builtin.SmallTypes.ownedTupleIsFree;refine ah (mq hz rfl (x:=rawInt T) rfl ?_);show wpAny _ _ (loadIfAlive ((T:Int)).toNat>>=_) _ _ _;have i:∀{R:Option Obj->Shared->Prop},R (some f) s->wpAny (model prog w) A (loadIfAlive ((T:Int)).toNat) R E s:=λ {R} h=>by
  intro j p _;unfold loadIfAlive;rw[Sem.wp_loadIfAlive,p6,g];exact h
 refine ah (i ?_);rw[ay (by simp)];refine ah (mq hz rfl (x:=.bool e) rfl ?_);cases e with
 |true=>exact aG ⟨rfl,s.heap,rfl,hz,.refl ..⟩
 |false=>
  show wpAny _ _ (setField (.ref z) 1 (.bool true)>>=_) _ _ _;exact ah (wpAny_setField_rec hz (by simp) λa c d=>aG ⟨rfl,a,rfl,c,d⟩)
theorem V3{z TI TO i1 i2 l1 l2 T:Addr}{C:Obj}{F:Bool}{k1 k2:Nat}{xs ys:Array Value}{Q:Fin->Shared->Prop}(v:A.handled=none)(D:ZipApart z TI TO i1 i2 l1 l2)
  (hz:jI s.heap z TI TO (rawInt T) (.bool F))(G:s.heap.get? T=some C)(l:IsPair s.heap TI (.ref i1) (.ref i2))
  (h1:s.heap.IsListIter i1 l1 k1)(h2:s.heap.IsListIter i2 l2 k2)(i:s.heap.IsList l1 xs)(m:s.heap.IsList l2 ys)(j:xs[k1]? =none\/ys[k2]? =none)
  (y:∀h' e,(∀c o,c≠z->c≠i1->c≠i2->s.heap.get? c=some o->h'.get? c=some o)->(∃o,h'.get? e=some o/\o.cls= .type "StopIteration")->E (.ref e) {s with heap:=h'}):
  wpAny (model prog w) A (Builtin.«zip.__next__» ⟨[.ref z],[]⟩) Q E s:=by
 show wpAny _ _ (field (.ref z) 2>>=_) _ _ _
 refine ah (mq hz rfl (x:= .bool false) rfl ?_)
 show wpAny _ _ (field (.ref z) 3>>=_) _ _ _
 refine ah (mq hz rfl (x:= .ref TI) rfl ?_)
 refine ah (s8 l rfl ?_)
 show wpAny _ _ (Builtin.SmallTypes.ownedTupleIsFree (.ref z)>>=_) _ _ _
 refine ah (je (Rp hz G) (λb s' H=> ?_) λ_ _ e=>e)
 obtain⟨rfl,B,rfl,n,a⟩:=H
 show wpAny _ _ (forIn _ _ _>>=_) _ _ _
 refine ah ?_
 rw[<-Array.forIn_toList]
 simp only[forIn_cons,forIn_nil]
 refine ah (ah (gZ ?_))
 show wpAny _ _ (Builtin.SmallTypes.nextOf (.ref i1)>>=_) _ _ _
 cases p:xs[k1]? with
 |none=>
  refine ah (wpAny_nextOf_list_end v (h1.extBut a.extBut D.i1z) (i.extBut a.extBut D.l1z) p λf e d q=> ?_)
  exact y f e (λc o r t _ x=>d _ _ t (a.extBut _ _ r x)) q
 |some x=>
  have I:ys[k2]? =none:=by rcases j with h|h;rw[p] at h;cases h;exact h
  refine ah (AS (h1.extBut a.extBut D.i1z) (i.extBut a.extBut D.l1z) p λf u d=>aG (aG ?_))
  refine ah (ah (gZ ?_))
  show wpAny _ _ (Builtin.SmallTypes.nextOf (.ref i2)>>=_) _ _ _
  refine ah (wpAny_nextOf_list_end v ((h2.extBut a.extBut D.i2z).extBut d.extBut D.i12.symm) ((m.extBut a.extBut D.l2z).extBut d.extBut D.l2i1) I λk e g q=> ?_)
  exact y k e (λc o r t J x=>g _ _ J (d.extBut _ _ t (a.extBut _ _ r x))) q
theorem SX{z TI TO i1 i2 l1 l2 T:Addr}{g:Obj}{h:Bool}{k1 k2:Nat}{xs ys:Array Value}{x y:Value}{Q:Option Value->Shared->Prop}(D:ZipApart z TI TO i1 i2 l1 l2)
  (hz:jI s.heap z TI TO (rawInt T) (.bool h))(i:s.heap.get? T=some g)(b:T≠z)(d:IsPair s.heap TI (.ref i1) (.ref i2))
  (h1:s.heap.IsListIter i1 l1 k1)(h2:s.heap.IsListIter i2 l2 k2)(e:s.heap.IsList l1 xs)(f:s.heap.IsList l2 ys)(j:xs[k1]? =some x)(k:ys[k2]? =some y)
  (l:∀h',jI h' z TI TO (rawInt T) (.bool true)->h'.IsListIter i1 l1 (k1+1)->h'.IsListIter i2 l2 (k2+1)->IsPair h' s.heap.objs.size x y->h'.objs.size=s.heap.objs.size+1->
   (∀c o,c≠z->c≠i1->c≠i2->s.heap.get? c=some o->h'.get? c=some o)->Q (some (.ref s.heap.objs.size)) {s with heap:=h'}):
  wpAny (model prog w) A (pyNext (.ref z)) Q E s:=by
 have a:s.TypeIs (.ref z) "zip":=⟨_,hz,rfl⟩
 unfold pyNext
 exact ah (p7 (p8 (name:=Str.ofString "__next__") a xj
  (jE xj a F.entry_zip_next
   (V4 D hz i b d h1 h2 e f j k λh' a1 a2 m n p q=>aG (l h' a1 a2 m n p q)) (F.args_zip_next_1 _))))
theorem SW{z TI TO i1 i2 l1 l2 T:Addr}{i:Obj}{j:Bool}{k1 k2:Nat}{xs ys:Array Value}{Q:Option Value->Shared->Prop}(k:A.handled=none)(D:ZipApart z TI TO i1 i2 l1 l2)
  (hz:jI s.heap z TI TO (rawInt T) (.bool j))(l:s.heap.get? T=some i)(f:IsPair s.heap TI (.ref i1) (.ref i2))
  (h1:s.heap.IsListIter i1 l1 k1)(h2:s.heap.IsListIter i2 l2 k2)(g:s.heap.IsList l1 xs)(h:s.heap.IsList l2 ys)(a:xs[k1]? =none\/ys[k2]? =none)
  (m:∀h',(∀c o,c≠z->c≠i1->c≠i2->s.heap.get? c=some o->h'.get? c=some o)->Q none {s with heap:=h'}):wpAny (model prog w) A (pyNext (.ref z)) Q E s:=by
 have d:s.TypeIs (.ref z) "zip":=⟨_,hz,rfl⟩
 unfold pyNext
 refine ah (p7 (p8 (name:=Str.ofString "__next__") d xj
  (jE xj d F.entry_zip_next (V3 k D hz l f h1 h2 g h a λh' e n p=> ?_) (F.args_zip_next_1 _))))
 obtain⟨o,q,hc⟩:=p
 refine ah (w_ (T:="StopIteration") (b:=true) ⟨o,q,hc⟩ isSubtype_stop ?_)
 exact aG (m _ n)
structure ZS(z TI TO i1 i2 l1 l2 base:Addr)(xs ys:Array Value)(k:Nat)(h:Heap):Prop where
 zip:(k=0/\IsZip h z TI TO .none)\/(0<k/\∃bb,jI h z TI TO (rawInt base) (.bool bb))
 ti:IsPair h TI (.ref i1) (.ref i2)
 to:∃a b,IsPair h TO a b
 o4:h.IsListIter i1 l1 k
 o5:h.IsListIter i2 l2 k
 iy:h.IsList l1 xs
 jx:h.IsList l2 ys
 sz:h.objs.size=base+k
 old:∀(j:Nat) x y,j<k->xs[j]? =some x->ys[j]? =some y->IsPair h (base+j) x y
structure oB(z TI TO i1 i2 l1 l2 base:Addr):Prop where
 z:z<base
 to:TO<base
 i1:i1<base
 i2:i2<base
theorem ZS.upd{z TI TO i1 i2 l1 l2 base S:Addr}{xs ys:Array Value}{k:Nat}{h h':Heap}(Z:ZS z TI TO i1 i2 l1 l2 base xs ys k h)(c:∀b o,b≠S->h.get? b=some o->h'.get? b=some o)(d:h'.objs.size=h.objs.size)
  (n1:z≠S)(n2:TI≠S)(n3:TO≠S)(n4:i1≠S)(n5:i2≠S)(n6:l1≠S)(n7:l2≠S)(n8:S<base):ZS z TI TO i1 i2 l1 l2 base xs ys k h' where
 zip:=by
  rcases Z.zip with⟨e,q⟩|⟨e,f,q⟩
  .exact .inl ⟨e,c _ _ n1 q⟩
  .exact .inr ⟨e,f,c _ _ n1 q⟩
 ti:=c _ _ n2 Z.ti
 to:=let ⟨a,b,q⟩:=Z.to;⟨a,b,c _ _ n3 q⟩
 o4:=Z.o4.at λo e=>c _ o n4 e
 o5:=Z.o5.at λo e=>c _ o n5 e
 iy:=Z.iy.at λo e=>c _ o n6 e
 jx:=Z.jx.at λo e=>c _ o n7 e
 sz:=d.trans Z.sz
 old:=λj x y g i l=>c _ _ (kY (cJ n8 (pT _ _))) (Z.old j x y g i l)
theorem V8{z TI TO i1 i2 l1 l2 base:Addr}{xs ys:Array Value}{k:Nat}{x y:Value}{Q:Option Value->Shared->Prop}(D:ZipApart z TI TO i1 i2 l1 l2)(L:oB z TI TO i1 i2 l1 l2 base)
  (Z:ZS z TI TO i1 i2 l1 l2 base xs ys k s.heap)(g:xs[k]? =some x)(h:ys[k]? =some y)
  (M:∀h',ZS z TI TO i1 i2 l1 l2 base xs ys (k+1) h'->(∀c o,c≠z->c≠TO->c≠i1->c≠i2->s.heap.get? c=some o->h'.get? c=some o)->Q (some (.ref (base+k))) {s with heap:=h'}):
  wpAny (model prog w) A (pyNext (.ref z)) Q E s:=by
 obtain⟨a,b,f⟩:=Z.to
 have new:∀h',(∀c o,c≠z->c≠TO->c≠i1->c≠i2->s.heap.get? c=some o->h'.get? c=some o)->IsPair h' s.heap.objs.size x y->∀(j:Nat) i l,j<k+1->xs[j]? =some i->ys[j]? =some l->IsPair h' (base+j) i l:=λh' d O j i l P m n=>by
  by_cases p:j=k
  .subst p
   rw[g] at m;rw[h] at n;cases m;cases n
   rw[<-Z.sz]
   exact O
  .have lo:∀c,c<base->base+j≠c:=λc hc e=>absurd (cJ hc (pT base j)) (by rw[e];exact fS _)
   exact d _ _ (lo _ L.z) (lo _ L.to) (lo _ L.i1) (lo _ L.i2) (Z.old j i l (by omega) m n)
 rcases Z.zip with⟨e,q⟩|⟨e,R,q⟩
 .subst e
  refine wpAny_pyNext_zip_item D q Z.ti f Z.o4 Z.o5 Z.iy Z.jx g h λh' a1 a2 t u v B d=> ?_
  have C:s.heap.objs.size=base:=Z.sz
  have r:=M h' ⟨.inr ⟨succ_pos _,false,by rw[C] at a1;exact a1⟩,d _ _ D.TIz D.TITO D.TIi1 D.TIi2 Z.ti,⟨_,_,a2⟩,t,u,Z.iy.at λo e=>d _ o D.l1z D.l1TO D.l1i1 D.l1i2 e,Z.jx.at λo e=>d _ o D.l2z D.l2TO D.l2i1 D.l2i2 e,
   by rw[B,C],new h' d v⟩ d
  rw[C]
  exact r
 .obtain⟨x0,F⟩:∃x0,xs[0]? =some x0:=⟨xs[0]'(by have:=(xx.mp g).1;omega),gj _⟩
  obtain⟨G,H⟩:∃G,ys[0]? =some G:=⟨ys[0]'(by have:=(xx.mp h).1;omega),gj _⟩
  have N:=Z.old 0 x0 G e F H
  rw[Nat.add_zero] at N
  refine SX D q N (kY L.z) Z.ti Z.o4 Z.o5 Z.iy Z.jx g h λh' a1 t u v B d=> ?_
  have r:=M h' ⟨.inr ⟨succ_pos _,true,a1⟩,d _ _ D.TIz D.TIi1 D.TIi2 Z.ti,⟨_,_,d _ _ D.TOz D.TOi1 D.TOi2 f⟩,t,u,Z.iy.at λo e=>d _ o D.l1z D.l1i1 D.l1i2 e,Z.jx.at λo e=>d _ o D.l2z D.l2i1 D.l2i2 e,
   by rw[B,Z.sz];rfl,new h' (λc o I _ J K e=>d c o I J K e) v⟩ λc o I _ J K e=>d c o I J K e
  rw[Z.sz]
  exact r
theorem V7{z TI TO i1 i2 l1 l2 base:Addr}{xs ys:Array Value}{k:Nat}{Q:Option Value->Shared->Prop}(j:A.handled=none)(D:ZipApart z TI TO i1 i2 l1 l2)
  (Z:ZS z TI TO i1 i2 l1 l2 base xs ys k s.heap)(d:k=min xs.size ys.size)
  (l:∀h',(∀c o,c≠z->c≠TO->c≠i1->c≠i2->s.heap.get? c=some o->h'.get? c=some o)->Q none {s with heap:=h'}):wpAny (model prog w) A (pyNext (.ref z)) Q E s:=by
 obtain⟨a,b,f⟩:=Z.to
 have m:xs[k]? =none\/ys[k]? =none:=by
  subst d
  rcases Nat.le_total xs.size ys.size with h|h
  .exact .inl (by rw[Nat.min_eq_left h];exact qg (aF _))
  .exact .inr (by rw[Nat.min_eq_right h];exact qg (aF _))
 rcases Z.zip with⟨e,q⟩|⟨e,v,q⟩
 .exact wpAny_pyNext_zip_end j D q Z.ti f Z.o4 Z.o5 Z.iy Z.jx m l
 .have g:0<xs.size:=by omega
  have i:0<ys.size:=by omega
  have n:=Z.old 0 _ _ e (gj g) (gj i)
  rw[Nat.add_zero] at n
  exact SW j D q n Z.ti Z.o4 Z.o5 Z.iy Z.jx m λh' p=>l h' λc o r _ t u e=>p c o r t u e
def fm(base k:Nat):Array Value:=((range k).map λj=>Value.ref (base+j)).toArray
theorem S5(base k:Nat):fm base (k+1)=(fm base k).push (.ref (base+k)):=by
 unfold fm;rw[range_succ,eB];simp
theorem z_(base k:Nat):(fm base k).size=k:=by simp[fm]
end
namespace F
theorem V6:typeLookup (.type "zip") "__len__"=pure none:=by rw[nJ,nU];kernel_rfl
theorem V5:typeLookup (.type "zip") "__length_hint__"=pure none:=by rw[nJ,nU];kernel_rfl
end F
section
variable{prog:Program}{w:World}{A:Around}{s:Shared}{R:Result->Shared->Prop}{z TI TO i1 i2 l1 l2 base S:Addr}{xs ys:Array Value}
structure qv(z TI TO i1 i2 l1 l2 base S:Addr):Prop where
 n1:z≠S
 n2:TI≠S
 n3:TO≠S
 n4:i1≠S
 n5:i2≠S
 n6:l1≠S
 n7:l2≠S
 n8:S<base
theorem MB(H:A.handled=none)(D:ZipApart z TI TO i1 i2 l1 l2)(L:oB z TI TO i1 i2 l1 l2 base)(O:qv z TI TO i1 i2 l1 l2 base S)(U:min xs.size ys.size<=sizeLine)(res:Value):
  ∀(m k:Nat) (s:Shared) (c:Nat),min xs.size ys.size - k=m->k<=min xs.size ys.size->ZS z TI TO i1 i2 l1 l2 base xs ys k s.heap->s.heap.get? S=some {cls:=.type "list",dict:=none,data:=.seq (fm base k) c,slots:= #[]}->
  (∀h' c',(∀(j:Nat) x y,xs[j]?=some x->ys[j]?=some y->IsPair h' (base+j) x y)->h'.get? S=some {cls:=.type "list",dict:=none,data:=.seq (fm base (min xs.size ys.size)) c',slots:= #[]}->
   (∀b o,b≠S->b≠z->b≠TO->b≠i1->b≠i2->s.heap.get? b=some o->h'.get? b=some o)->R (.ok (.ret res)) {s with heap:=h'})->
  codeAny (model prog w) A (.builtin "list.extend.loop" ⟨[.ref S,.ref z,res],[]⟩) R s:=by
 have lo:∀(c j:Nat),c<base->base+j≠c:=λc j hc e=>absurd (cJ hc (pT base j)) (by rw[e];exact fS _);intro m;induction m with
 |zero=>
  intro k s c I J i r t;have f:k=min xs.size ys.size:=by omega
  refine iU PySem.F.entry_extend_loop ?_;rw[jg sW _];show wpAny _ A.in1 (pyNext (.ref z)>>=_) _ _ s;refine ah (V7 (A:=A.in1) H D i f λh' a=>?_);refine aG (t h' c (λj x y E G=>?_) ?_ λb o u l n p q e=>a b o l n p q e)
  .have K:j<k:=by
    have V:=(xx.mp E).1;have W:=(xx.mp G).1;omega
   exact a _ _ (lo _ _ L.z) (lo _ _ L.to) (lo _ _ L.i1) (lo _ _ L.i2) (i.old j x y K E G)
  .rw[<-f]
   exact a _ _ O.n1.symm O.n3.symm O.n4.symm O.n5.symm r
 |succ m M=>
  intro k s c I J i r t;have v:k<min xs.size ys.size:=by omega
  have N:xs[k]?=some (xs[k]'(by omega)):=gj _;have P:ys[k]?=some (ys[k]'(by omega)):=gj _;refine iU PySem.F.entry_extend_loop ?_;rw[jg sW _];show wpAny _ A.in1 (pyNext (.ref z)>>=_) _ _ s;refine ah (V8 (A:=A.in1) D L i N P λh' B a=>?_);have g:=a _ _ O.n1.symm O.n3.symm O.n4.symm O.n5.symm r;show wpAny _ A.in1 (updateSeq S (·.push (.ref (base+k)))>>=_) _ _ _;refine ah ?_;have h:∀b o,b≠S->h'.get? b=some o->(h'.update S (Obj.mapSeq (·.push (.ref (base+k))))).get? b=some o:=λb o Q e=>(qh _ _ (Ne.symm Q)).trans e;have C:=ki (Obj.mapSeq (·.push (.ref (base+k)))) g rfl;have d:∃n',(h'.update S (Obj.mapSeq (·.push (.ref (base+k))))).get? S=some {cls:=.type "list",dict:=none,data:=.seq ((fm base k).push (.ref (base+k))) n',slots:= #[]}:=⟨_,C⟩;obtain⟨n',d⟩:=d;rw[<-S5] at d;refine s_ g rfl (aG ⟨jD sW _,M (k+1) _ n' (by omega) v (B.upd h (pZ ..) O.n1 O.n2 O.n3 O.n4 O.n5 O.n6 O.n7 O.n8) d λh'' c' a1 a2 T=>?_⟩)
   (by rw[z_];omega) (by show((fm base k).push _).size<=sizeLine+1;rw[Array.size_push,z_];omega)
  .exact t h'' c' a1 a2 λb o u l n p q e=>T b o u l n p q (h b o u (a b o l n p q e))
theorem Mz(n:A.handled=none)(D:ZipApart z TI TO i1 i2 l1 l2)(L:oB z TI TO i1 i2 l1 l2 base)(O:qv z TI TO i1 i2 l1 l2 base S)(p:min xs.size ys.size<=sizeLine)(res:Value)(c₀:Nat)
  (i:ZS z TI TO i1 i2 l1 l2 base xs ys 0 s.heap)(k:s.heap.get? S=some {cls:= .type "list",data:= .seq #[] c₀})
  (r:∀h' c',(∀(j:Nat) x y,xs[j]? =some x->ys[j]? =some y->IsPair h' (base+j) x y)->h'.get? S=some {cls:= .type "list",dict:=none,data:= .seq (fm base (min xs.size ys.size)) c',slots:= #[]}->
   (∀b o,b≠S->b≠z->b≠TO->b≠i1->b≠i2->s.heap.get? b=some o->h'.get? b=some o)->R (.ok (.ret res)) {s with heap:=h'}):
  wpAny (model prog w) A.in1 (Builtin.List.listExtendWith (.ref S) (.ref z) res)
   (λfin s'=>match fin with| .done f=>R (.ok f) s'| .again c'=>c'.quiet=true/\codeAny (model prog w) A c' R s') (λe s'=>R (.error e) s') s:=by
 have d:IsZip s.heap z TI TO .none:=by
  rcases i.zip with⟨_,q⟩|⟨e,_⟩
  .exact q
  .exact absurd e (fS _)
 have h:s.TypeIs (.ref z) "zip":=⟨_,d,rfl⟩
 unfold Builtin.List.listExtendWith
 refine ah (nL h ?_)
 have h1:Builtin.List.listSameRef (.ref S) (.ref z)=false:=by simp[Builtin.List.listSameRef,O.n1.symm]
 have h2:(Value.type "zip" ==Value.type "list")=false:=by decide
 have t:(Value.type "zip" ==Value.type "tuple")=false:=by decide
 simp only[h1,h2,t,Bool.or_false,jh,gm]
 refine ah (wpAny_pyIter_zip d ?_)
 refine ah (gZ ?_)
 unfold Builtin.List.listLengthHint
 refine ah (wpAny_specialOf h F.V6 ?_)
 show wpAny _ A.in1 (specialOf (Value.ref z) (Str.ofString "__length_hint__")>>=_) _ _ _
 refine ah (wpAny_specialOf h F.V5 ?_)
 refine aG ?_
 show wpAny _ A.in1 (rule "list.extend.makes-room">>=λ_=>Builtin.List.listTouch (.ref S)>>=λ_=>
  again (.builtin "list.extend.loop" ⟨[.ref S,.ref z,res],[]⟩)) _ _ _
 refine ah (k8 ?_)
 refine ah ?_
 show wpAny _ A.in1 (updateSeq S (·.push .none)>>=λ_=>updateSeq S (·.pop)) _ _ _
 refine ah (s_ k rfl ?_)
 have a:=ki (Obj.mapSeq (·.push Value.none)) k rfl
 refine s_ (hz:=by seq_fits) a rfl ?_
 have c:=ki (Obj.mapSeq (·.pop)) a rfl
 have g:∀b o,b≠S->s.heap.get? b=some o->((s.heap.update S (Obj.mapSeq (·.push Value.none))).update S (Obj.mapSeq (·.pop))).get? b=some o:=
  λb o l e=>(qh _ _ (Ne.symm l)).trans ((qh _ _ (Ne.symm l)).trans e)
 refine aG ⟨jD sW _,MB n D L O p res _ 0 _ _ rfl (bG _) (i.upd g (by rw[pZ,pZ]) O.n1 O.n2 O.n3 O.n4 O.n5 O.n6 O.n7 O.n8) c λh' c' a1 a2 u=> ?_⟩
 exact r h' c' a1 a2 λb o m v B C E e=>u b o m v B C E (g b o m e)
end
end ZL
end PySem
section
open PySem PySem.Spec PyProof.Rows
namespace L2
def cO:List (Str×NameKind)->List Str
 |[]=>[]
 |(n,k)::r=>if (k==NameKind.free)=true then n::cO r else cO r
def fD(env:Env):List (Str×NameKind)->List (Str×Addr)->List (Str×Addr)
 |[],acc=>acc
 |(n,k)::r,acc=>if (k==NameKind.free)=true then fD env r ((n,(env.cells.lookup n).getD 0)::acc) else fD env r acc
theorem yt{env:Env}{f:(Str×NameKind)->List (Str×Addr)->Sem (ForInStep (List (Str×Addr)))}
  (h1:∀n k cs c,(k==NameKind.free)=true->env.cells.lookup n=some c->f (n,k) cs=pure (.yield ((n,c)::cs)))(h2:∀n k cs,(k==NameKind.free)=false->f (n,k) cs=pure (.yield cs)):
  ∀(names:List (Str×NameKind)) (acc:List (Str×Addr)),(∀n∈cO names,∃c,env.cells.lookup n=some c)->forIn names acc f=pure (fD env names acc)
 |[],acc,_=>by rw[forIn_nil];rfl
 |(n,k)::r,acc,h=>by
  rw[forIn_cons];cases e:(k==NameKind.free) with
  |true=>
   have b:cO ((n,k)::r)=n::cO r:=by show(if (k==NameKind.free)=true then n::cO r else cO r)=_;rw[av e]
   obtain⟨c,hc⟩:=h n (by rw[b];exact bh);rw[h1 n k acc c e hc,pure_bind];show forIn r ((n,c)::acc) f=_;rw[yt h1 h2 r _ λm d=>h m (by rw[b];exact aZ _ d)];have a:fD env ((n,k)::r) acc=fD env r ((n,(env.cells.lookup n).getD 0)::acc):=by
    show(if (k==NameKind.free)=true then _ else _)=_;rw[av e]
   rw[a,hc];rfl
  |false=>
   have b:cO ((n,k)::r)=cO r:=by show(if (k==NameKind.free)=true then n::cO r else cO r)=_;rw[ay (by rw[e];decide)]
   rw[h2 n k acc e,pure_bind];show forIn r acc f=_;rw[yt h1 h2 r _ λm d=>h m (by rw[b];exact d)];have a:fD env ((n,k)::r) acc=fD env r acc:=by
    show(if (k==NameKind.free)=true then _ else _)=_;rw[ay (by rw[e];decide)]
   rw[a]
theorem CM{scope:Scope}{env:Env}(h:∀n∈cO scope.names,∃c,env.cells.lookup n=some c):closureFor scope env=pure (fD env scope.names []):=by
 unfold closureFor;show(forIn scope.names [] _>>=_)=_;rw[yt (env:=env) (λn k cs c a hc=>?_) (λn k cs a=>?_) scope.names [] h]
 .exact pure_bind _ _
 .dsimp only
  rw[av a];unfold cellOf;rw[hc];rfl
 .dsimp only
  rw[ay (by rw[a];decide)]
theorem qE{env:Env}{x:Str}:∀(names:List (Str×NameKind)) (acc:List (Str×Addr)),(∀n∈cO names,∃c,env.cells.lookup n=some c)->
  (fD env names acc).lookup x=if x∈cO names then env.cells.lookup x else acc.lookup x
 |[],acc,_=>by simp[fD,cO]
 |(n,k)::r,acc,h=>by
  cases e:(k==NameKind.free) with
  |true=>
   have b:cO ((n,k)::r)=n::cO r:=by show(if (k==NameKind.free)=true then n::cO r else cO r)=_;rw[av e]
   obtain⟨c,hc⟩:=h n (by rw[b];exact bh);have a:fD env ((n,k)::r) acc=fD env r ((n,(env.cells.lookup n).getD 0)::acc):=by
    show(if (k==NameKind.free)=true then _ else _)=_;rw[av e]
   rw[a,b,qE r _ λm f=>h m (by rw[b];exact aZ _ f)];by_cases d:x∈cO r
   .rw[av d,av (aZ _ d)]
   .rw[ay d]
    by_cases g:x=n
    .subst g
     rw[av bh,hc];simp
    .rw[ay (by intro z;rcases aY.mp z with z|z;exact g z;exact d z)]
     have i:(x==n)=false:=by simpa using g
     rw[iD,i]
  |false=>
   have b:cO ((n,k)::r)=cO r:=by show(if (k==NameKind.free)=true then n::cO r else cO r)=_;rw[ay (by rw[e];decide)]
   have a:fD env ((n,k)::r) acc=fD env r acc:=by
    show(if (k==NameKind.free)=true then _ else _)=_;rw[ay (by rw[e];decide)]
   rw[a,b,qE r _ λm f=>h m (by rw[b];exact f)]
structure gE(X:Cx)(scope:Scope)(frees:List Str):Prop where
 kind:scope.kind= .function
 FE:∀y∈scope.names,y.2≠ .cell
 locs:∀y∈scope.names,y.2= .local->scope.names.lookup y.1=some .local
 sub:∀n∈cO scope.names,n∈frees
 free:∀n∈frees,scope.names.lookup n=some .free
 kinds:(frees.all λn=>X.env.kindOf n==some .cell||X.env.kindOf n==some .free)=true
theorem gE.frees{X:Cx}{scope:Scope}{fr:List Str}(S:gE X scope fr):∀n∈cO scope.names,X.env.kindOf n=some .cell\/X.env.kindOf n=some .free:=λn a=>by
 have h:=tG.mp S.kinds n (S.sub n a);rcases or_eq_true _ _▸h with h|h
 .exact .inl (eq_of_beq h)
 .exact .inr (eq_of_beq h)
theorem u7{x:Str}:∀{names:List (Str×NameKind)},(x,NameKind.free)∈names->x∈cO names
 |(n,k)::r,h=>by
  unfold cO;rcases aY.mp h with e|e
  .injection e with a b
   subst a b;rw[av (by rfl)];exact bh
  .split
   .exact aZ _ (u7 e)
   .exact u7 e
theorem GL{env:Env}{x:Str}:∀{names:List (Str×NameKind)} {k:NameKind},(names.map λ(n,k)=>if (k==NameKind.free&&env.scope.kind== .function&&env.kindOf n==some .cell) then (n,NameKind.cell) else (n,k)).lookup x=some k->
  ∃k0,names.lookup x=some k0/\(k=k0\/(k0=.free/\k=.cell))
 |[],k,h=>by simp at h
 |(n,k1)::r,k,h=>by
  rw[cg] at h;by_cases b:(x==n)=true
  .by_cases hc:(k1==NameKind.free&&env.scope.kind== .function&&env.kindOf n==some .cell)=true
   .dsimp only at h
    rw[av hc,iD,b] at h;have e:k=.cell:=by injection h with h;exact h.symm
    have c:k1=.free:=by
     have:=(dP _ _▸(dP _ _▸hc).1).1;exact eq_of_beq this
    exact⟨k1,by rw[iD,b],.inr ⟨c,e⟩⟩
   .dsimp only at h
    rw[ay hc,iD,b] at h;injection h with h;exact⟨k1,by rw[iD,b],.inl h.symm⟩
  .have a:(x==n)=false:=by simpa using b
   have h':(List.map (λ(n,k)=>if (k==NameKind.free&&env.scope.kind== .function&&env.kindOf n==some .cell) then (n,NameKind.cell) else (n,k)) r).lookup x=some k:=by
    by_cases hc:(k1==NameKind.free&&env.scope.kind== .function&&env.kindOf n==some .cell)=true
    .dsimp only at h;rw[av hc,iD,a] at h;exact h
    .dsimp only at h;rw[ay hc,iD,a] at h;exact h
   obtain⟨k0,c,d⟩:=GL h';exact⟨k0,by rw[iD,a];exact c,d⟩
theorem GK{env:Env}{x:Str}:∀{names:List (Str×NameKind)},names.lookup x=some .free->
  (names.map λ(n,k)=>if (k==NameKind.free&&env.scope.kind== .function&&env.kindOf n==some .cell) then (n,NameKind.cell) else (n,k)).lookup x=some .cell\/
  (names.map λ(n,k)=>if (k==NameKind.free&&env.scope.kind== .function&&env.kindOf n==some .cell) then (n,NameKind.cell) else (n,k)).lookup x=some .free
 |[],h=>by simp at h
 |(n,k1)::r,h=>by
  rw[cg]
  by_cases b:(x==n)=true
  .rw[iD,b] at h
   injection h with h
   subst h
   by_cases hc:(NameKind.free==NameKind.free&&env.scope.kind== .function&&env.kindOf n==some .cell)=true
   .left;dsimp only;rw[av hc,iD,b]
   .right;dsimp only;rw[ay hc,iD,b]
  .have a:(x==n)=false:=by simpa using b
   rw[iD,a] at h
   have c:=GK (env:=env) h
   by_cases hc:(k1==NameKind.free&&env.scope.kind== .function&&env.kindOf n==some .cell)=true
   .dsimp only;rw[av hc,iD,a];exact c
   .dsimp only;rw[ay hc,iD,a];exact c
structure CP where
 C:Addr
 s:Shared
 H:Hp
 pins:aS
 fp:List Addr
def cj(X:Cx)(NC:List Str)(scope:Scope)(c:CP):Cx where
 prog:=X.prog
 w:=X.w
 K:=X.K
 mg:=X.mg
 base:=X.base
 A:=X.A
 N:=NC
 s₀:=c.s
 H₀:=c.H
 env:=compEnvC scope (fD X.env scope.names []) c.C X.env
 outer:=X.stack
 stack:=X.stack
 ex:=c.fp
 fn:=λ_=>false
 calm:=true
 pn:=X.pn++c.pins
 xe:=λ_ _=>False
section
variable{X:Cx}{scope:Scope}{frees:List Str}{NC:List Str}{pins:aS}{σ qj:St}{H H':Hp}{s s':Shared}{fp:List Addr}{C:Addr}
theorem gE.has(S:gE X scope frees)(ok:X.Ok):∀n∈cO scope.names,∃c,X.env.cells.lookup n=some c:=λn a=>ok.has n (S.frees n a)
theorem gE.cells(S:gE X scope frees)(ok:X.Ok){x:Str}{c:Addr}(h:(fD X.env scope.names []).lookup x=some c):x∈cO scope.names/\X.env.cells.lookup x=some c:=by
 rw[qE scope.names [] (S.has ok)] at h;by_cases a:x∈cO scope.names
 .rw[av a] at h;exact⟨a,h⟩
 .rw[ay a] at h;simp at h
theorem Lc(S:gE X scope frees)(hc:X.calm=true)(I:Inv X pins σ H s)(f:∀b∈fp,gH X pins H b/\b<s.heap.objs.size)(m:C=s.heap.objs.size):(cj X NC scope ⟨C,s,H,pins,fp⟩).Ok where
 mod:=I.ok.mod
 kind:=S.kind
 glob:=I.ok.glob
 blt:=I.ok.blt
 above:=by show s.heap.objs.size<=C;rw[m];exact aF _
 inj:=λx y c h1 h2=>I.ok.inj x y c (S.cells I.ok h1).2 (S.cells I.ok h2).2
 has:=λx p=>by
  have i:∃k,(relabel scope X.env).names.lookup x=some k/\(k= .cell\/k= .free):=by
   rcases p with h|h
   .exact⟨_,h,.inl rfl⟩
   .exact⟨_,h,.inr rfl⟩
  obtain⟨k,h,hk⟩:=i
  obtain⟨k0,q,d⟩:=GL h
  have n:=nP q
  have j:k0= .free:=by
   rcases d with d|⟨d,_⟩
   .rcases hk with hk|hk
    .exact absurd (d▸hk:k0= .cell) (S.FE _ n)
    .exact d▸hk
   .exact d
  subst j
  have g:=u7 n
  obtain⟨c,l⟩:=S.has I.ok x g
  exact⟨c,by show(fD X.env scope.names []).lookup x=some c;rw[qE scope.names [] (S.has I.ok),av g];exact l⟩
 oH:=λx c h=>nomatch h
 hd:=λ_=>I.ok.hd hc
 frames:=I.ok.frames
 stk:= .inl rfl
 yQ:=λb a=>⟨λz=>by have:=(f b a).2;rw[z] at this;exact absurd (m▸this) (fS _),λx c h=>(f b a).1.2.2.2.2.1 x c (S.cells I.ok h).2⟩
 bs:=I.bs
 kB:=cR I.ok.kB I.sz
 o8:=λb o e a=>by
  rcases (f b a).1.2.2.2.1 with z|z
  .exact I.ok.o8 b o e z
  .exact absurd (cJ (aT e) (cR I.ok.kB z)) (fS _)
 qU:=λb a z=>by
  rcases aY.mp (I.pO b z) with e|e
  .exact(f b a).1.2.1 e
  .exact(f b a).1.2.2.1 e
 i_:=I.stack
 lN:=I.Al
def stC(own:List Str)(ix:List Nat)(σ:St):St:=own.map (λ_=>none)++ix.map λi=>(σ[i]?).join
theorem UU{own frees:List Str}{ix:List Nat}{σ:St}{b:List Str}(c:ix.map (λi=>b[i]?)=frees.map some){j:Nat}{x:Str}{v:V}(h1:(own++frees)[j]?=some x)(h2:(stC own ix σ)[j]?=some (some v)):
  x∈frees/\∃i:Nat,b[i]?=some x/\σ[i]?=some (some v):=by
 have hl:ix.length=frees.length:=by have:=cS List.length c;simpa using this
 unfold stC at h2;by_cases d:j<own.length
 .rw[iI (by simpa using d),bW] at h2
  cases e:own[j]? with
  |none=>rw[e] at h2;simp at h2
  |some o=>rw[e] at h2;simp at h2
 .rw[tK (by simpa using d),bW,aP] at h2
  rw[tK (by omega)] at h1;have a:(ix.map (λi=>b[i]?))[j - own.length]?=(frees.map some)[j - own.length]? :=by rw[c]
  rw[bW,bW,h1] at a;cases e:ix[j - own.length]? with
  |none=>rw[e] at h2;simp at h2
  |some i=>
   rw[e] at h2 a;simp only[map_some,Option.some.injEq] at h2 a;refine⟨dc h1,i,a,?_⟩;cases q:σ[i]? with
   |none=>rw[q] at h2;simp at h2
   |some o=>rw[q] at h2;simp at h2;rw[h2]
theorem UW{own frees:List Str}{ix:List Nat}{σ:St}{a:List Str}(b:ix.map (λi=>a[i]?)=frees.map some):(stC own ix σ).length=(own++frees).length:=by
 have hl:ix.length=frees.length:=by have:=cS List.length b;simpa using this
 unfold stC;simp[hl]
theorem Lb{own:List Str}{ix:List Nat}{a:Heap}{G:Nat}(S:gE X scope frees)(hc:X.calm=true)(I:Inv X pins σ H s)(J:∀b∈fp,gH X pins H b/\b<s.heap.objs.size)(w:C=s.heap.objs.size)
  (E:ix.map (λi=>X.N[i]?)=frees.map some)(y:∃m,a.Ns C m)(g:∀b o,s.heap.get? b=some o->a.get? b=some o):
  Inv (cj X (own++frees) scope ⟨C,s,H,pins,fp⟩) [] (stC own ix σ) H {s with heap:=a,toks:=G}:=by
 obtain⟨m,K⟩:=y;refine⟨Lc S hc I J w,rfl,I.bare,Un.kept g,⟨m,K,λj x v h1 h2 U=>?_⟩,λx c h=>?_,?_,λx c h=>?_,λp L=>?_,I.hok.kept g,UW E⟩
 .obtain⟨M,i,O,P⟩:=UU E h1 h2
  have f:=S.free x M;have k:=u7 (nP f);have t:=S.frees x k;obtain⟨m0,_,hl⟩:=I.loc;have A:oA X.env.scope x:=by rcases t with z|z;exact .inr (.inl z);exact .inr (.inr z)
  obtain⟨u,r,l⟩:=hl i x v O P A;refine⟨u,r,?_⟩;rcases l with⟨F,_⟩|⟨_,c,Q,R⟩
  .rcases t with z|z
   .rw[F] at z;cases z
   .rw[F] at z;cases z
  .refine .inr ⟨GK (env:=X.env) f,c,?_,?_⟩
   .show(fD X.env scope.names []).lookup x=some c
    rw[qE scope.names [] (S.has I.ok),av k];exact Q
   .obtain⟨o,B,hd⟩:=R
    exact⟨o,g _ _ B,hd⟩
 .obtain⟨_,e⟩:=S.cells I.ok h
  obtain⟨v,o,B,hd⟩:=I.cell x c e;exact⟨v,o,g _ _ B,hd⟩
 .show H C=none
  rw[w];exact I.hok.fresh (aF _)
 .exact I.iw x c (S.cells I.ok h).2
 .have D:p∈X.pn++pins:=by
   have:p∈(X.pn++pins)++[]:=L;rwa [lg] at this
  obtain⟨e,n,ne,T,d⟩:=I.pin p D;refine⟨g _ _ e,n,?_,λz=>?_,d⟩
  .show p.1≠C
   rw[w];exact bE (aT e)
  .rcases aY.mp (I.pO p.1 z) with q|q
   .exact ne q
   .exact T q
theorem K_{NC:List Str}(S:gE X scope frees)(I:Inv X pins σ H s)(d:∀b∈fp,gH X pins H b/\b<s.heap.objs.size)(e:C=s.heap.objs.size){b:Addr}(a:b∈fp)(f:H' b=none):gH (cj X NC scope ⟨C,s,H,pins,fp⟩) [] H' b:=by
 refine⟨f,?_,λz=>?_,.inl a,λx c h=>(d b a).1.2.2.2.2.1 x c (S.cells I.ok h).2,λp g=>(d b a).1.2.2.2.2.2 p ?_⟩
 .show b≠C
  rw[e];exact bE (d b a).2
 .rcases aY.mp (I.pO b z) with q|q
  .exact(d b a).1.2.1 q
  .exact(d b a).1.2.2.1 q
 .have:p∈(X.pn++pins)++[]:=g
  rwa [lg] at this
theorem K9{NC:List Str}(I:Inv X pins σ H s)(a:∀b∈fp,gH X pins H b/\b<s.heap.objs.size)(J:Inv (cj X NC scope ⟨C,s,H,pins,fp⟩) [] qj H' s'):Inv X pins σ H' s':=
 I.yo J.os J.base J.hok J.bare λb c=>⟨(a b c).1.2.2.2.1,(a b c).1.2.1,(a b c).1.2.2.2.2.1,(a b c).1.2.2.2.2.2⟩
theorem La{h':Heap}(I:Inv X pins σ H s)(a:H C=none)(h1:C≠X.env.locals)(h2:X.s₀.heap.objs.size<=C)(d:∀x c,X.env.cells.lookup x=some c->c≠C)(f:∀p∈X.pn++pins,p.1≠C)(g:SameBut C s.heap h'):
 Inv X pins σ H {s with heap:=h'}:=I.turned (t':=s.toks) (λb o h e=>(g.2 b h).trans e) a h1 (.inr h2) d f
end
inductive gJ:St->St->Prop
 |nil:gJ [] []
 |own {o:Option V} {a b:St}:gJ a b->gJ (none::a) (o::b)
 |keep {o:Option V} {a b:St}:gJ a b->gJ (o::a) (o::b)
theorem gJ.len:∀{a b:St},gJ a b->b.length=a.length
 |_,_,.nil=>rfl
 |_,_,.own h=>cS (·+1) h.len
 |_,_,.keep h=>cS (·+1) h.len
theorem gJ.get:∀{a b:St},gJ a b->∀(i:Nat) v,a[i]?=some (some v)->b[i]?=some (some v)
 |_,_,.nil,i,v,e=>by simp at e
 |_,_,.own h,0,v,e=>by simp at e
 |_,_,.own h,i+1,v,e=>by
  rw[AX] at e ⊢;exact h.get i v e
 |_,_,.keep h,0,v,e=>by simpa using e
 |_,_,.keep h,i+1,v,e=>by
  rw[AX] at e ⊢;exact h.get i v e
theorem gJ.refl:∀a:St,gJ a a
 |[]=>.nil
 |_::r=>.keep (gJ.refl r)
inductive jm(X:Cx):List Expr->TT->Prop
 |nil:jm X [] (λ_ H Q=>Q true H)
 |one {c:Expr} {t:TT}:PT X c t->jm X [c] t
theorem jm.run{X:Cx}{ifs:List Expr}{t:TT}(h:jm X ifs t){pins:aS}{s:Shared}{σ:St}{H:Hp}{Q:Bool->Hp->Prop}(I:Inv X pins σ H s)(a:t σ H Q):
  wpAny (model X.prog X.w) X.A (forIn ifs true λc r=>if r=true then do let ok <-isTrue c X.env (eval c X.env);pure (ForInStep.yield ok) else pure (ForInStep.yield r)) (TP X pins σ Q) X.xe s:=by
 cases h with
 |nil=>exact wpAny_tests_nil ⟨H,I,a⟩
 |one h=>exact wpAny_tests_one (h pins s σ H Q I a)
def Kz(qj:St)(acc:Addr)(g:TG)(tt:TT)(te:TE)(x:V)(ys:List V)(H:Hp)(N:List V->Hp->Prop):Prop:=
 g x qj H λσ2 H2=>gJ qj σ2/\tt σ2 H2 λb H3=>if b=true then te σ2 H3 λy H4=>H4 acc=some (.lst ys)/\ys.length<sizeLine/\N (ys++[y]) (upd H4 acc (.lst (ys++[y]))) else N ys H3
def ym(J:It)(qj:St)(acc:Addr)(g:TG)(tt:TT)(te:TE)(H:Hp)(Q:VK):Prop:=
 ∃W:Nat->Nat->List V->Hp->Prop,(∃m,W 0 m [] H)/\∀i m ys H,W i m ys H->H acc=some (.lst ys)/\
  ((J.stop i H/\Q (.ref acc) H)\/(J.go i H/\∃N:List V->Hp->Prop,(∀ys' H',N ys' H'->∃m',m'<m/\W (i+1) m' ys' H')/\∀x H',J.wO i H x H'->Kz qj acc g tt te x ys H' N))
def Aw(own:List Str)(ix:List Nat)(wi:TI)(g:CP->TG)(tt:CP->TT)(te:CP->TE):TE:=λσ H Q=>
 wi σ H λJ H1=>∀(c:CP) (acc:Addr),H1 acc=none->ym J (stC own ix σ) acc (g c) (tt c) (te c) (upd H1 acc (.lst [])) Q
section
variable{X:Cx}{scope:Scope}{own frees:List Str}{ix:List Nat}{tg elt iter:Expr}{ifs:List Expr}{pos:Pos}{wi:TI}{g:CP->TG}{tt:CP->TT}{te:CP->TE}
theorem K5{J:It}{it acc:Addr}{fp:List Addr}{E:Nat->Heap->Prop}{c:CP}{σ:St}{H:Hp}{s:Shared}{Q:VK}{R:Result->Shared->Prop}
  (hfp:c.fp=fp)(T:Turn X.prog X.w X.K tg J fp it E)(hg:PG (cj X (own++frees) scope c) tg (g c))(ht:jm (cj X (own++frees) scope c) ifs (tt c))(he:PE (cj X (own++frees) scope c) elt (te c))
  (j:∀b∈fp,∀H':Hp,H' b=none->gH (cj X (own++frees) scope c) [] H' b)
  (I:Inv (cj X (own++frees) scope c) [] (stC own ix σ) H s)(st:E 0 s.heap)(fr:∀b∈fp,H b=none)(h:ym J (stC own ix σ) acc (g c) (tt c) (te c) H Q)
  (hR:∀s' H',Inv (cj X (own++frees) scope c) [] (stC own ix σ) H' s'->Q (.ref acc) H'->R (.ok .next) s'):
  codeAny (model X.prog X.w) X.A (.compLoop (.ListComp elt [⟨tg,iter,ifs,0⟩] scope pos) 0 (.ref it) (.ref acc) (cj X (own++frees) scope c).env) R s:=by
 obtain⟨W,⟨m0,w0⟩,turn⟩:=h
 refine codeAny_loop rfl (λn s'=>∃i ys H',Inv (cj X (own++frees) scope c) [] (stC own ix σ) H' s'/\E i s'.heap/\(∀b∈fp,H' b=none)/\W i n ys H') (λn L hI=> ?_) m0 ⟨0,[],H,I,st,fr,w0⟩
 obtain⟨i,ys,H1,I1,p,v,w1⟩:=hI
 show wpAny _ X.A ((compTurn (.ListComp elt [⟨tg,iter,ifs,0⟩] scope pos) 0 (.ref it) (.ref acc) (cj X (own++frees) scope c).env).onRaise (λx=>do noteFrame x (cj X (own++frees) scope c).env;theTreesLotGoes x)) _ _ L
 have k:∀{α:Type} {t:Sem α} {P:α->Shared->Prop} {s:Shared},wpAny (model X.prog X.w) X.A t P (λ_ _=>False) s->wpAny (model X.prog X.w) X.A t P (notedBy (model X.prog X.w) X.A (cj X (own++frees) scope c).env λe s'=>R (.error e) s') s:=
  λh=>je h (λ_ _ q=>q) λ_ _ z=>z.elim
 refine wpAny_noted ?_
 rw[compTurn_list]
 obtain⟨ha,hw⟩:=turn i n ys H1 w1
 rcases hw with⟨stop,q⟩|⟨go,N,hN,step⟩
 .refine ah (wpAny_standAt (ah (k (aK (T.done (cj X (own++frees) scope c) rfl rfl rfl rfl i [] L _ H1 (λ_ _=>False) I1 (λb f=>j b f H1 (v b f)) p stop) λr s2 ⟨M,I2⟩=> ?_))))
  subst M
  exact aG (hR s2 H1 I2 q)
 .refine ah (wpAny_standAt (ah (k (aK (T.item (cj X (own++frees) scope c) rfl rfl rfl rfl i [] L _ H1 (λ_ _=>False) I1 (λb f=>j b f H1 (v b f)) p go) λr s2 ⟨u,M,h2⟩=> ?_))))
  subst M
  refine ah (k (aK h2 λ_ s3 ⟨x,O,I3,r3,y3,l,S⟩=> ?_))
  have U:=I3.pinned (λb f=>j b f O (S b f)) (T.obj _ _ l)
  refine ah (k (aK (hg _ s3 _ O x u _ U r3 (step x O y3)) λ_ s4 ⟨V9,H4,I4,ks,q4⟩=> ?_))
  refine ah (k (aK (ht.run I4 q4) λok s5 ⟨H5,V,F⟩=> ?_))
  have a:∀{B:Shared} {C:St} {m:Hp},Inv (cj X (own++frees) scope c) ([]++sf fp s3.heap) C m B->E (i+1) B.heap/\∀b∈fp,m b=none:=λ {B C m} D=>
   ⟨T.keep _ _ _ l λb f o e=>(D.pin (b,o) (iE _ (iE _ (u9 f e)))).1,λb f=>by
    obtain⟨o,e,d⟩:=T.obj _ _ l b f
    exact(D.pin (b,o) (iE _ (iE _ (u9 f e)))).2.1⟩
  cases ok with
  |false=>
   rw[ay (by decide)] at F
   obtain⟨Y,Z,w5⟩:=hN _ _ F
   obtain⟨k1,k2⟩:=a V
   exact aG ⟨rfl,Y,Z,i+1,ys,H5,(V.sO).weak ks.len.symm ks.get,k1,k2,w5⟩
  |true=>
   rw[av rfl] at F
   refine ah (ah (k (aK (he _ s5 _ H5 _ V F) λy B ⟨G,m,D,r6,a6,l6,q6⟩=> ?_)))
   obtain⟨Y,Z,w6⟩:=hN _ _ q6
   obtain⟨k1,k2⟩:=a D
   refine ah (k (aK (gS (X:=cj X (own++frees) scope c) _ B _ m (.ref acc) [G] (.ref acc) [y] (λ_ H7=>H7=upd m acc (.lst (ys++[G]))) D rfl (.cons r6 .nil) ⟨acc,ys,G,rfl,rfl,a6,l6,rfl⟩) λ_ s7 ⟨_,H7,I7,_,e7⟩=> ?_))
   subst e7
   obtain⟨k1,k2⟩:=a I7
   exact aG (aG ⟨rfl,Y,Z,i+1,ys++[G],_,(I7.sO).weak ks.len.symm ks.get,k1,k2,w6⟩)
structure xA(X:Cx)(pins:aS)(C:Addr)(H:Hp):Prop where
 no:H C=none
 loc:C≠X.env.locals
 old:X.s₀.heap.objs.size<=C
 ia:∀x c,X.env.cells.lookup x=some c->c≠C
 pin:∀p∈X.pn++pins,p.1≠C
theorem xA.inv{pins:aS}{σ:St}{H:Hp}{s:Shared}{C:Addr}{h':Heap}(G:xA X pins C H)(I:Inv X pins σ H s)(a:SameBut C s.heap h'):Inv X pins σ H {s with heap:=h'}:=
 La I G.no G.loc G.old G.ia G.pin a
theorem CS{pins:aS}{σ:St}{H:Hp}{s:Shared}{Q:VK}{L:Value->Addr->Result->Shared->Prop}{E:aQ}{J:It}{it:Addr}{fp:List Addr}{M:Nat->Heap->Prop}
  (S:gE X scope frees)(hc:X.calm=true)(Z:ix.map (λi=>X.N[i]?)=frees.map some)
  (hg:∀c,PG (cj X (own++frees) scope c) tg (g c))(ht:∀c,jm (cj X (own++frees) scope c) ifs (tt c))(he:∀c,PE (cj X (own++frees) scope c) elt (te c))
  (I:Inv X pins σ H s)(T:Turn X.prog X.w X.K tg J fp it M)(st:M 0 s.heap)(W:∀b∈fp,gH X pins H b)
  (h:∀(c:CP) (acc:Addr),H acc=none->ym J (stC own ix σ) acc (g c) (tt c) (te c) (upd H acc (.lst [])) Q)
  (O:∀(acc C:Addr) s' H' m,Inv X pins σ H' s'->s'.heap.Ns C m->xA X pins C H'->Q (.ref acc) H'->L (.ref acc) C (.ok .next) s'):
  wpAny (model X.prog X.w) X.A (newList []) (λacc r=>wpAny (model X.prog X.w) X.A (newFunctionEnv scope X.env.globals (fD X.env scope.names []) [] X.env.qual none .none (some X.env)) (λl t=>
   codeAny (model X.prog X.w) X.A (.compStart (.ListComp elt [⟨tg,iter,ifs,0⟩] scope pos) 0 (.ref it) acc {l with scope:=relabel scope X.env}) (L acc l.locals) t) E r) E s:=by
 refine jf (wpAny_newFunctionEnv S.FE (by intro y hy;simp at hy) (λa u B=> ?_) S.kind)
 dsimp only at u B ⊢
 have P:H s.heap.objs.size=none:=I.hok.fresh (aF _)
 have n:Inv X pins σ (upd H s.heap.objs.size (.lst [])) {s with heap:=s.heap.push {cls:= .type "list",data:= .seq ([]:List Value).toArray}}:=I.E8 (its:=[]) (t':=s.toks) .nil (bG _)
 generalize D:({s with heap:=s.heap.push {cls:= .type "list",data:= .seq ([]:List Value).toArray}}:Shared)=f at n
 have F:f.heap=s.heap.push {cls:= .type "list",data:= .seq ([]:List Value).toArray}:=by rw[<-D]
 have Y:∀b∈fp,b<s.heap.objs.size:=λb j=>by
  obtain⟨o,e,_⟩:=T.obj _ _ st b j
  exact aT e
 have sz:f.heap.objs.size=s.heap.objs.size+1:=by rw[F,gi]
 have k:∀b∈fp,gH X pins (upd H s.heap.objs.size (.lst [])) b/\b<f.heap.objs.size:=λb j=>
  ⟨⟨by rw[aW (bE (Y b j))];exact(W b j).1,(W b j).2⟩,by rw[sz];exact gX (Y b j)⟩
 have kp:∀b o,f.heap.get? b=some o->a.get? b=some o:=λb o e=>by
  refine B.extBut b o ?_ (bw _ (F▸e))
  rw[<-F]
  exact bE (aT e)
 have R:a.Ns f.heap.objs.size (λx=>([]:List (Str×Value)).reverse.lookup x):=by rw[F];exact u
 have J0:Inv (cj X (own++frees) scope ⟨f.heap.objs.size,f,upd H s.heap.objs.size (.lst []),pins,fp⟩) [] (stC own ix σ) (upd H s.heap.objs.size (.lst [])) {f with heap:=a,toks:=s.toks+0}:=
  Lb S hc n k rfl Z ⟨_,R⟩ kp
 have U:∀b∈fp,∀H':Hp,H' b=none->gH (cj X (own++frees) scope ⟨f.heap.objs.size,f,upd H s.heap.objs.size (.lst []),pins,fp⟩) [] H' b:=λb j H' hn=>K_ S n k rfl j hn
 have G:M 0 a:=T.keep _ _ _ st λb j o e=>kp b o (by rw[F];exact bw _ e)
 have loop:codeAny (model X.prog X.w) X.A (.compLoop (.ListComp elt [⟨tg,iter,ifs,0⟩] scope pos) 0 (.ref it) (.ref s.heap.objs.size) (cj X (own++frees) scope ⟨f.heap.objs.size,f,upd H s.heap.objs.size (.lst []),pins,fp⟩).env)
   (L (.ref s.heap.objs.size) f.heap.objs.size) {f with heap:=a,toks:=s.toks+0}:=by
  refine K5 rfl T (hg _) (ht _) (he _) U J0 G (λb j=>(k b j).1.1) (h _ _ P) λs' H' V q=> ?_
  obtain⟨m,hm,_⟩:=V.loc
  refine O _ _ s' H' m (K9 n k V) hm ⟨V.free,kY n.lt,n.sz,λx c e z=> ?_,λp hp z=> ?_⟩ q
  .obtain⟨v,q⟩:=n.cell x c e
   exact absurd (cJ q.lt (by rw[z];exact aF _)) (fS _)
  .exact absurd (cJ (aT (n.pin p hp).1) (by rw[z];exact aF _)) (fS _)
 have d:=loop
 rw[<-D] at d
 exact codeAny_compStart_list d (T.self _ 0 _ _ _ G d)
theorem RG(hi:PI X tg iter wi)
  (d:∀c,PG (cj X (own++frees) scope c) tg (g c))(f:∀c,jm (cj X (own++frees) scope c) ifs (tt c))(j:∀c,PE (cj X (own++frees) scope c) elt (te c))(S:gE X scope frees:=by exact⟨rfl,by decide+kernel,by decide+kernel,by decide+kernel,by decide+kernel,rfl⟩)(hc:X.calm=true:=by rfl)(k:ix.map (λi=>X.N[i]?)=frees.map some:=by rfl)(l:∀x,foldedSetIterable iter X.env x=pure x:=by intro _;rfl):
  PE X (.ListComp elt [⟨tg,iter,ifs,0⟩] scope pos) (Aw own ix wi g tt te):=by
 intro pins s σ H Q I h;rw[eval_ListComp];refine wpAny_comprehension_free (use:=none) rfl l (CM (S.has I.ok)) S.kind S.locs (aK (hi pins s σ H _ I h) λv u h1=>aK h1 λn w h2=>?_);obtain⟨it,fp,y,J,H2,e,o,T,a,f2,p⟩:=h2;subst e;refine CS S hc k d f j o T a f2 p λacc C s' H' m r t G q=>?_;exact⟨m,t,λh' b=>⟨.ref acc,H',G.inv r b,rfl,q⟩⟩
theorem Ga{i:Nat}{x:Str}{pos' spos:Pos}(b:X.N.Nodup)(d:X.N[i]? =some x)(o:Loc X.env.scope x)(hi:PI X tg iter wi)
  (p:∀c,PG (cj X (own++frees) scope c) tg (g c))(r:∀c,jm (cj X (own++frees) scope c) ifs (tt c))(t:∀c,PE (cj X (own++frees) scope c) elt (te c))(S:gE X scope frees:=by exact⟨rfl,by decide+kernel,by decide+kernel,by decide+kernel,by decide+kernel,rfl⟩)(hc:X.calm=true:=by rfl)(u:ix.map (λi=>X.N[i]?)=frees.map some:=by rfl)(w:∀x,foldedSetIterable iter X.env x=pure x:=by intro _;rfl)
  (f:swapsWith (.ListComp elt [⟨tg,iter,ifs,0⟩] scope pos) (some (.Name x pos')) spos.line X.env=pure true:=by rfl)(y:X.fn x=true\/X.env.scope.names.lookup x=some .local:=by first|exact .inl rfl|exact .inr rfl|assumption):
  PS X (.Assign [.Name x pos'] (.ListComp elt [⟨tg,iter,ifs,0⟩] scope pos) spos) (IX (Aw own ix wi g tt te) (oW i)):=by
 intro pins s σ H D I h
 rw[exec_Assign_Name_used _ _ _ _ f]
 refine ah (wpAny_standAt (ah ?_))
 show wpAny _ X.A (do let _ <-comprehension (.ListComp elt [⟨tg,iter,ifs,0⟩] scope pos) scope X.env _ (newList []) false (eval iter X.env) (some (assign (.Name x pos') X.env))) _ _ s
 refine ah (je (wpAny_comprehension_free (use:=some (assign (.Name x pos') X.env)) (Q:=λ_ s'=>SP X pins D .next s') rfl w (CM (S.has I.ok)) S.kind S.locs
  (aK (hi pins s σ H _ I h) λv R h1=>aK h1 λz B h2=> ?_)) (λ_ s' E=>aG (aG E)) λ_ _ e=>e)
 obtain⟨it,fp,U,J,H2,e,F,T,j,f2,K⟩:=h2
 subst e
 refine CS S hc u p r t F T j f2 K λacc C s' H' m L M G q=> ?_
 show wpAny _ X.A (assign (.Name x pos') X.env (.ref acc)) _ _ _
 refine wpAny_assign_Name (IP L b d o (v:= .ref acc) rfl (λB k ch=> ?_) y)
 obtain⟨a,O,P⟩:=ch
 have l:C≠a:=by
  rcases P with e|e
  .rw[e];exact G.loc
  .exact(G.ia _ _ e).symm
 exact⟨m,M.sameBut O l,λh' n=>⟨_,H',G.inv k n,q⟩⟩
end
section
variable{X:Cx}
theorem yl:∀{bs:List Bool} {its:List Value},Vals (bs.map V.bl) its->LSm.BoolsAre its bs
 |[],_,.nil=>.nil
 |b::r,_,.cons q t=>by
  cases q;exact .cons b (yl t)
theorem yp(hc:X.calm=true):eF X (.builtin "all") (λxs H Q=>∃(p:Addr) (bs:List Bool),xs=[.ref p]/\aR X.K H p (bs.map V.bl)/\Q (.bl (bs.all id)) H):=by
 intro pins s σ H xs n Q I r h;obtain⟨p,bs,rfl,f,q⟩:=h;obtain⟨u,rfl,g⟩:=vals1 r;cases g;obtain⟨vs,j,pl,hz⟩:=I.list f;have c:=yl j;have hl:=pl.isList;have a:p<s.heap.objs.size:=by obtain⟨_,e,_⟩:=hl;exact aT e
 refine call_all_walk (p9 hl ?_);refine⟨s.heap.objs.size,[s.heap.objs.size,p],[s.heap.objs.size],vs.toArray.size,_,_,λi=>(bs[i]?).getD true,rfl,Walks.list (A:=X.A.in1) (I.ok.hd hc) _ p (bE a) vs.toArray,
  ⟨⟨_,cA _ rfl,rfl,rfl⟩,hl.push _⟩,λi v s' o t k d=>?_,λh' l m=>?_⟩
 .obtain⟨b,e,rfl⟩:=c.get i v (by simpa using k)
  simp only[e,getD_some] at d;exact k9 d
 .have e:((range vs.toArray.size).all λi=>(bs[i]?).getD true)=bs.all id:=by
   rw[b6,c.length];exact LSm.range_all bs
  rw[e];exact⟨.bl _,H,I.kept (h':=h') (t':=l) (LSm.kept_iter m),rfl,q⟩
theorem Q7:bA X (binaryOp .FloorDiv) (rI (λ_ j=>0<j/\j.natAbs.log2<9000) λi j=>.int (i/j)):=zT λi j _ _ _ _ _ hc q=>by
 have h1:(0:Int)<j:=hc.1;exact floordiv_int (by omega) (by rw[Int.fdiv_eq_ediv_of_nonneg i (by omega)];exact q) (.inl (PyProof.noPylong_of_log2 hc.2))
def xH(y:Str):It:=⟨λi _=>i<y.cps.size,λi H x H'=>H'=H/\∃c,y.cps[i]?=some c/\x=.str ⟨#[c]⟩,λi _=>i=y.cps.size⟩
theorem VM{P:Program}{w:World}{K:Frag}{nm:Str}{px:Pos}{ty:String}{y:Str}{t:Tok}(it:Addr)
  (W:∀A:Around,A.handled=none->Walks P w A it [it] [it] y.cps.size (SignAt y) (λi h=>h.IsStrIter it ty y t i))
  (F:∀(A:Around) (i:Nat) (s:Shared) (Q:aQ) (E:aQ),s.heap.IsStrIter it ty y t i->Q (.ref it) s->wpAny (model P w) A (pyIter (.ref it)) Q E s):Turn P w K (.Name nm px) (xH y) [it] it (λi h=>h.IsStrIter it ty y t i) where
 mem:=by simp
 obj:=λi h st b a=>by
  have e:b=it:=by simpa using a
  subst e
  obtain⟨o,e,c,d⟩:=st
  exact⟨o,e,λv z=>by rw[d] at z;cases z⟩
 keep:=λi h h' st k=>let ⟨o,G,r⟩:=st;⟨o,k it (by simp) o G,r⟩
 item:=by
  intro X f j l hc i pins s σ H E I g st m
  subst f j l
  obtain⟨f0,f1,f2,n,f4,p⟩:=g it (by simp)
  refine(W X.A (I.ok.hd hc)).item i s _ _ m st λv h' D f q x=> ?_
  obtain⟨c,u,B,rfl⟩:=f
  have J:Inv X pins σ H {s with heap:=h',toks:=D}:=I.turned (λb o a e=>x b o (by simpa using a) e) f0 f1 n f4 p
  exact⟨_,rfl,aG ⟨.str ⟨#[c]⟩,H,J,⟨u,rfl⟩,⟨rfl,c,B,rfl⟩,q,λb a=>(g b a).1⟩⟩
 done:=by
  intro X f j l hc i pins s σ H E I g st m
  subst f j l
  obtain⟨f0,f1,f2,n,f4,p⟩:=g it (by simp)
  have C:i=y.cps.size:=m
  subst C
  exact(W X.A (I.ok.hd hc)).done s _ _ st λh' D x=>⟨rfl,I.turned (λb o a e=>x b o (by simpa using a) e) f0 f1 n f4 p⟩
 self:=λA i s Q E st h=>F A i s Q E st h
def OS(tl:TE):TI:=λσ H R=>tl σ H λx H1=>∃y,x=.str y/\R (xH y) H1
theorem Sa{l:Expr}{tl:TE}{nm:Str}{px:Pos}(hl:PE X l tl):PI X (.Name nm px) l (OS tl):=by
 intro pins s σ H R I h;refine aK (hl pins s σ H _ I h) λv a ⟨x,H1,c,j,k⟩=>?_;obtain⟨y,e,q⟩:=k;subst e;obtain⟨t,rfl⟩:=j;have fin:∀(ty:String) (o:Obj) (W:∀A:Around,A.handled=none->Walks X.prog X.w A a.heap.objs.size [a.heap.objs.size] [a.heap.objs.size] y.cps.size (SignAt y) (λi h=>h.IsStrIter a.heap.objs.size ty y t i))
   (f:∀(A:Around) (i:Nat) (s:Shared) (Q:aQ) (E:aQ),s.heap.IsStrIter a.heap.objs.size ty y t i->Q (.ref a.heap.objs.size) s->wpAny (model X.prog X.w) A (pyIter (.ref a.heap.objs.size)) Q E s),
   (a.heap.push o).IsStrIter a.heap.objs.size ty y t 0->xN X pins σ (.Name nm px) R (.ref a.heap.objs.size) {a with heap:=a.heap.push o}:=λty o W f st=>by
  refine⟨a.heap.objs.size,[a.heap.objs.size],_,_,H1,rfl,c.kept (t':=a.toks) λb o e=>bw _ e,VM _ W f,st,λb m=>?_,q⟩;have e:b=a.heap.objs.size:=by simpa using m
  subst e;exact c.lM (aF _) (c.hok.fresh (aF _))
 cases g:y.cps.all (·<128)
 .exact wpAny_pyIter_wide g (fin _ _ (λA' d=>Walks.strWide d _ y t) (λ_ _ _ _ _ st h=>wpAny_pyIter_striter_wide st h) ⟨_,cA _ rfl,rfl,rfl⟩)
 .exact wpAny_pyIter_ascii g (fin _ _ (λA' d=>Walks.strAscii d _ y t) (λ_ _ _ _ _ st h=>wpAny_pyIter_striter_ascii st h) ⟨_,cA _ rfl,rfl,rfl⟩)
end
mutual
inductive Dp(K:Frag)(H:Hp):V->PyData->Prop
 |aC:Dp K H .aC .none
 |bl (b:Bool):Dp K H (.bl b) (.bool b)
 |int (i:Int):Dp K H (.int i) (.int i)
 |str (x:Str):Dp K H (.str x) (.str x)
 |lst {a:Addr} {xs:List V} {ds:List PyData}:aR K H a xs->fT K H xs ds->Dp K H (.ref a) (.list ds)
 |tup {a:Addr} {xs:List V} {ds:List PyData}:bJ K H a xs->fT K H xs ds->Dp K H (.ref a) (.tuple ds)
inductive fT(K:Frag)(H:Hp):List V->List PyData->Prop
 |nil:fT K H [] []
 |cons {v:V} {vs:List V} {d:PyData} {ds:List PyData}:Dp K H v d->fT K H vs ds->fT K H (v::vs) (d::ds)
end
section
variable{X:Cx}{pins:aS}{σ:St}{H H':Hp}{s:Shared}{K:Frag}
mutual
theorem Dp.reads(I:Inv X pins σ H s):∀(d:PyData) (v:V) (u:Value),Dp X.K H v d->RelV v u->∃as,Reads s.heap u d as
 |.none,_,_,h,r=>by cases h;cases r;exact⟨_,.none⟩
 |.bool b,_,_,h,r=>by cases h;cases r;exact⟨_,.bool b⟩
 |.int i,_,_,h,r=>by cases h;obtain⟨t,rfl⟩:=r;exact⟨_,.int i t⟩
 |.str x,_,_,h,r=>by cases h;obtain⟨t,rfl⟩:=r;exact⟨_,.str x t⟩
 |.list ds,_,_,h,r=>by
  cases h with
  |lst a c=>
   cases r;obtain⟨its,f,pl,hz⟩:=I.list a;obtain⟨as,ra⟩:=fT.reads I ds _ _ c f;obtain⟨o,e,hc,n,hd⟩:=pl.isList;exact⟨_,.list e hc hd (by simpa using ra)⟩
 |.tuple ds,_,_,h,r=>by
  cases h with
  |tup a c=>
   cases r;obtain⟨its,f,pl,hz⟩:=I.tuple a;obtain⟨as,ra⟩:=fT.reads I ds _ _ c f;obtain⟨o,e,hc,n,hd⟩:=pl;exact⟨_,.tuple e hc hd (by simpa using ra)⟩
 |.dict _,_,_,h,_=>nomatch h
theorem fT.reads(I:Inv X pins σ H s):∀(ds:List PyData) (vs:List V) (a:List Value),fT X.K H vs ds->Vals vs a->∃as,ReadsAll s.heap a ds as
 |[],_,_,h,r=>by cases h;cases r;exact⟨_,.nil⟩
 |d::ds,_,_,h,r=>by
  cases h with
  |cons h1 h2=>
   cases r with
   |cons b c=>
    obtain⟨as,a1⟩:=Dp.reads I d _ _ h1 b;obtain⟨bs,a2⟩:=fT.reads I ds _ _ h2 c;exact⟨_,.cons a1 a2⟩
end
def z7(K:Frag):R2:=λx y H Q=>∃d e,Dp K H x d/\Dp K H y e/\d.canLay0=true/\e.canLay0=true/\min d.depth e.depth<=64/\Q (.bl (PyData.eqv d e)) H
def v9(K:Frag):R2:=λx y H Q=>∃d e,Dp K H x d/\Dp K H y e/\d.canLay0=true/\e.canLay0=true/\min d.depth e.depth<=64/\Q (.bl (!PyData.eqv d e)) H
theorem Q6(i:X.A.units+64<cLine):bA X (compareOp .Eq) (z7 X.K):=by
 intro pins s σ H x y v u Q I a b h;obtain⟨d,e,h1,h2,c,f,hd,q⟩:=h;obtain⟨as,ra⟩:=Dp.reads I d x v h1 a;obtain⟨bs,g⟩:=Dp.reads I e y u h2 b;exact SeqAt.compareEq_reads ra g c f (by omega) ⟨.bl _,H,I,rfl,q⟩
theorem FT(i:X.A.units+64<cLine):bA X (compareOp .NotEq) (v9 X.K):=by
 intro pins s σ H x y v u Q I a b h;obtain⟨d,e,h1,h2,c,f,hd,q⟩:=h;obtain⟨as,ra⟩:=Dp.reads I d x v h1 a;obtain⟨bs,g⟩:=Dp.reads I e y u h2 b;exact SeqAt.compareNe_reads ra g c f (by omega) ⟨.bl _,H,I,rfl,q⟩
theorem ku.new{p:Addr}(h:H p=none)(o:HO):ku H (upd H p o):=λb u q=>by rw[aW (dB q h)];exact q
theorem fT.ints:∀(xs:List Int),fT K H (xs.map V.int) (xs.map PyData.int)
 |[]=>.nil
 |x::r=>.cons (.int x) (fT.ints r)
end
section
variable{P:Program}{w:World}{K:Frag}{mg:au}{base:Heap}
def TopD(K:Frag)(mg:au)(x:Str)(st:Stmt)(ps:List Str):Prop:=∃f fd,kj K x x st f fd/\Binds K fd ps []/\mg x=some (.ref f)
end
section
variable{X:Cx}{k:Nat}{x:Str}{ps:List Str}{sp:Sp}{e:Expr}{es:List Expr}{t:TA}{p pos:Pos}
theorem Rb:bA X (compareOp .LtE) (λx y H Q=>∃i j,x=.str i/\y=.str j/\Q (.bl (!decide (j.cps.toList<i.cps.toList))) H):=by
 intro pins s σ H x y v u Q I a b h;obtain⟨i,j,rfl,rfl,q⟩:=h;obtain⟨t,rfl⟩:=a;obtain⟨t',rfl⟩:=b;exact PySem.P.le_str (cC I q rfl)
end
def xF(K:Frag)(a:Addr):It:=
 ⟨λi H=>∃xs x,aR K H a xs/\xs[i]?=some x,λi H x H'=>∃p y,H p=none/\x=.ref p/\H'=upd H p (.tup [.int (i:Nat),y])/\∀xs,aR K H a xs->xs[i]?=some y,λi H=>∃xs,aR K H a xs/\xs.length<=i⟩
theorem VG{P:Program}{w:World}{K:Frag}{elts:List Expr}{k:Nat}{pos:Pos}(a e it:Addr)(B:e≠it):
  Turn P w K (.Tuple elts k pos) (xF K a) [e,it] e (λi h=>(∃old,IsEnum h e it i old)/\h.IsListIter it a i) where
 mem:=by simp
 obj:=λi h st b f=>by
  have j:b=e\/b=it:=by simpa using f
  obtain⟨⟨old,t⟩,o,e1,c,d⟩:=st
  rcases j with z|z
  .subst z
   exact⟨_,t,λv z=>nomatch (show Data.fields _=Data.cell v from z)⟩
  .subst z
   exact⟨o,e1,λv z=>by rw[d] at z;cases z⟩
 keep:=λi h h' st kp=>by
  obtain⟨⟨old,t⟩,st⟩:=st
  exact⟨⟨old,kp e (by simp) _ t⟩,st.at λo q=>kp it (by simp) o q⟩
 item:=by
  intro X N O Q hc i pins s σ H E I G st R
  subst N O Q
  obtain⟨xs,x,J,S⟩:=R
  obtain⟨its,T,p,hz⟩:=I.list J
  obtain⟨u,hu,ru⟩:=T.get S
  obtain⟨f0,f1,f2,f3,f4,f5⟩:=G e (by simp)
  obtain⟨L,M,g2,U,V,W⟩:=G it (by simp)
  obtain⟨⟨old,t⟩,y⟩:=st
  refine wpAny_pyNext_enum_item t y p.isList (x:=u) (by simpa using hu) B λh' ho C hT hsz hk=> ?_
  refine⟨_,rfl,wpAny_letOwnedTupleGo_enum ho λh'' D l=> ?_⟩
  have A:H s.heap.objs.size=none:=I.hok.fresh (aF _)
  have elt:e<s.heap.objs.size:=aT t
  have Y:it<s.heap.objs.size:=by obtain⟨_,q,_⟩:=y;exact aT q
  have kp:∀b o,b≠e->b≠it->s.heap.get? b=some o->h''.get? b=some o:=λb o n1 n2 q=>(l.2 b n1).trans (hk b o n1 n2 q)
  have Z:h''.get? s.heap.objs.size=some {cls:= .type "tuple",data:= .seq #[.int i s.toks,u]}:=(l.2 _ (kY elt)).trans hT
  have nb:∀b,b∉[e,it]->b≠e/\b≠it:=λb f=>⟨λz=>f (by simp[z]),λz=>f (by simp[z])⟩
  have nT:∀b o,s.heap.get? b=some o->b≠s.heap.objs.size:=λb o q=>bE (aT q)
  have I1:Inv X pins σ (upd H s.heap.objs.size (.tup [.int (i:Nat),x])) {s with heap:=h'',toks:=s.toks+1}:=by
   refine I.step (g':=s.gens) (d':=s.drawn) (ch:=[e,it]) (λb f=> ?_) (λb o _ _ f q _=>kp b o (nb b f).1 (nb b f).2 q) (λb o _ _ f q _=>⟨o.slots,kp b o (nb b f).1 (nb b f).2 q⟩)
    (λb o f q n=>by rw[aW (nT b o q)];exact n) (λb o f q=>⟨o,kp b o (nb b f).1 (nb b f).2 q⟩) (λb ys q=>by rw[aW (dB q A)];exact q) (λb o v q=>by rw[aW (dB q A)];exact q)
    (λb ps q=>⟨#[],by rw[aW (dB q A),q];simp⟩) (λm hm=> ?_) (λb v q=> ?_) I.bare
   .have j:b=e\/b=it:=by simpa using f
    rcases j with z|z
    .subst z;exact⟨f3,f1,f4,f5⟩
    .subst z;exact⟨U,M,V,W⟩
   .obtain⟨o,es,ep,q,r⟩:=hm
    exact⟨o,es,ep,kp _ o (Ne.symm f1) (Ne.symm M) q,r⟩
   .by_cases f:b=s.heap.objs.size
    .subst f
     rw[eT] at q
     cases q
     exact⟨by show 2<=sizeLine;decide,[.int i s.toks,u],.cons ⟨_,rfl⟩ (.cons ru .nil),_,Z⟩
    .rw[aW f] at q
     have ne1:∀c v',H c=some v'->c≠e/\c≠it:=λc v' g=>⟨λz=>(by rw[z,f0] at g;cases g),λz=>(by rw[z,L] at g;cases g)⟩
     refine(I.hok b v q).stay (λc w' F g=>kp c w' ?_ ?_ g) (λc g=>by rw[aW (dB g A)];exact g) λc ys g=>by rw[aW (dB g A)];exact g
     .rcases F with z|z
      .rw[z];exact(ne1 b v q).1
      .exact(ne1 c _ z).1
     .rcases F with z|z
      .rw[z];exact(ne1 b v q).2
      .exact(ne1 c _ z).2
  refine⟨.ref s.heap.objs.size,_,I1,rfl,⟨s.heap.objs.size,x,A,rfl,rfl,λys hy=>by rw[I.zC hy J];exact S⟩,⟨⟨u,by simpa using D⟩,C.at λo q=>(l.2 it B.symm).trans q⟩,λb f=> ?_⟩
  have j:b=e\/b=it:=by simpa using f
  rcases j with z|z
  .subst z;rw[aW (bE elt)];exact f0
  .subst z;rw[aW (bE Y)];exact L
 done:=by
  intro X N O Q hc i pins s σ H E I G st R
  subst N O Q
  obtain⟨xs,J,S⟩:=R
  obtain⟨its,T,p,hz⟩:=I.list J
  obtain⟨L,M,g2,U,V,W⟩:=G it (by simp)
  obtain⟨⟨old,t⟩,y⟩:=st
  have hl:=T.length
  exact wpAny_pyNext_enum_end (I.ok.hd hc) t y p.isList (by simp;omega) λh' eb=>⟨rfl,I.turned (t':=s.toks) (λb o f e=>eb b o f e) L M U V W⟩
 self:=λ_ _ _ _ _ st h=>by
  obtain⟨⟨old,t⟩,_⟩:=st
  exact wpAny_pyIter_enum t h
section
variable{X:Cx}
def OJ(K:Frag)(ta:TA):TI:=λσ H R=>ta σ H λvs H1=>∃a xs,vs=[.ref a]/\aR K H1 a xs/\R (xF K a) H1
theorem R6{l:Expr}{ta:TA}{elts:List Expr}{k:Nat}{tpos p pos:Pos}(j:Gl X "enumerate")(m:X.mg "enumerate"=none)(n:PA X [l] ta)(f:bootBuiltins "enumerate"=some (.type "enumerate"))(o:starEach [l] X.env=[(false,eval l X.env)]:=by rfl):
  PI X (.Tuple elts k tpos) (.Call (.Name "enumerate" p) [l] [] pos) (OJ X.K ta):=by
 intro pins s σ H R I h;refine Call_ (jV I j m f (nG (aK (n pos pins s σ H _ I h) λA c ⟨vs,H1,d,r,t⟩=>?_) o rfl));obtain⟨a,xs,e,v,q⟩:=t;subst e;obtain⟨u,rfl,w⟩:=vals1 r;cases w;obtain⟨its,B,pl,hz⟩:=d.list v;refine call_enumerate_list pl.isList λh' i hit hsz x=>?_;have y:Inv X pins σ H1 {c with heap:=h'}:=d.kept (t':=c.toks) x;refine wpAny_pyIter_enum i ⟨_,[c.heap.objs.size+1,c.heap.objs.size],_,_,H1,rfl,y,VG a _ _ (kY (lY _)),⟨⟨_,i⟩,hit⟩,λb f=>?_,q⟩;have g:b=c.heap.objs.size+1\/b=c.heap.objs.size:=by simpa using f
 rcases g with z|z
 .subst z
  exact d.lM (lW _) (d.hok.fresh (lW _))
 .subst z
  exact d.lM (aF _) (d.hok.fresh (aF _))
theorem Inv.many{pins:aS}{σ:St}{H H':Hp}{s:Shared}{h':Heap}{t':Nat}(I:Inv X pins σ H s)(kp:∀b o,s.heap.get? b=some o->h'.get? b=some o)(d:ku H H')
  (a:∀b o,H' b=some o->H b=some o\/(s.heap.objs.size<=b/\bX X.prog X.w H' h' b o)):Inv X pins σ H' {s with heap:=h',toks:=t'}:=by
 refine I.un (h':=h') (t':=t') ⟨λb o q _ _ _=>kp b o q,λb o q _ _ _=>⟨o.slots,kp b o q⟩,λb o q n _=>?_,λb o q _=>⟨o,kp b o q⟩,λb xs q=>d _ _ q,λb o u q=>d _ _ q,λb ps q=>⟨#[],by rw[d _ _ q];simp⟩⟩ λb o q=>?_
 .cases e:H' b with
  |none=>rfl
  |some u=>
   rcases a b u e with z|⟨z,_⟩
   .rw[n] at z;cases z
   .exact absurd (cJ (aT q) z) (fS _)
 .rcases a b o q with z|⟨_,z⟩
  .exact(I.hok b o z).stay (λc v _ r=>kp c v r) (λc r=>d _ _ r) λc xs r=>d _ _ r
  .exact z
end
inductive qu(K:Frag)(H:Hp):V->Value->Prop where
 |of {x:V} {t:Value} (h:iL K H x t):qu K H x t
 |tup {a:Addr} {xs:List V} (h:bJ K H a xs):qu K H (.ref a) (.type "tuple")
 |lst {a:Addr} {xs:List V} (h:aR K H a xs):qu K H (.ref a) (.type "list")
theorem KC{X:Cx}:eF X (.builtin "isinstance") (λxs H Q=>∃x c t b,xs=[x,.ty c]/\qu X.K H x t/\kitOne X.K t (.type c)=some b/\Q (.bl b) H):=by
 intro pins s σ H xs j Q I r h;obtain⟨x,c,t,b,rfl,ty,e,q⟩:=h;obtain⟨u,k,rfl,d,f⟩:=vals2 r;cases f;cases ty with
 |of ty=>exact O4 I d ty e λa=>⟨.bl b,H,I.tok a,rfl,q⟩
 |tup g=>
  cases d;obtain⟨its,i,⟨o,h1,h2,_⟩,_⟩:=I.tuple g;exact iT kitx_tuple I.eO ⟨o,h1,h2⟩ e (λz=>nomatch z) λa=>⟨.bl b,H,I.tok a,rfl,q⟩
 |lst g=>
  cases d;obtain⟨its,i,pl,_⟩:=I.list g;obtain⟨o,h1,h2,_⟩:=pl.isList;exact iT kitx_list I.eO ⟨o,h1,h2⟩ e (λz=>nomatch z) λa=>⟨.bl b,H,I.tok a,rfl,q⟩
end L2
end
namespace MA
theorem NX{a b:Int}(c:0<=a)(d:0<b):Int.gcd b (a%b)=Int.gcd a b:=by
 obtain⟨m,rfl⟩:=Int.eq_ofNat_of_zero_le c;obtain⟨n,rfl⟩:=Int.eq_ofNat_of_zero_le (dO d);rw[<-Int.natCast_emod,Int.gcd_natCast_natCast,Int.gcd_natCast_natCast,Nat.gcd_comm n (m%n),<-Nat.gcd_rec,Nat.gcd_comm]
def rf(x:Rat):Int×Int:=(x.num,(x.den:Int))
theorem c_(x:Rat):0<(rf x).2:=by
 have:=x.den_pos;show(0:Int)<(x.den:Int);omega
theorem gU(x:Rat):((rf x).1:Rat)/((rf x).2:Rat)=x:=by
 show(x.num:Rat)/((x.den:Int):Rat)=x;rw[<-Rat.divInt_eq_div,Rat.divInt_ofNat,Rat.mkRat_self]
theorem Tc{x y:Rat}(h:rf x=rf y):x=y:=by rw[<-gU x,<-gU y,h]
theorem we{a b:Int}(c:0<b):(a/(Int.gcd a b:Int),b/(Int.gcd a b:Int))=rf ((a:Rat)/(b:Rat)):=by
 rw[<-Rat.divInt_eq_div];unfold rf;have h1:=Rat.num_divInt a b;have h2:=Rat.den_divInt a b;rw[h1,h2];have d:b.sign=1:=Int.sign_eq_one_of_pos c;rw[d,ay (by omega),one_mul,Int.gcd_comm b a];congr 1;have:(b.natAbs:Int)=b:=by omega
 rw[Int.natCast_ediv,this]
inductive bz(N:Type) where
 |wt (n:N)
 |bQ (l r:Int) (a b:bz N)
namespace bz
variable{N:Type}
def arms:bz N->Prop
 |wt _=>True
 |bQ l r a b=>1<=l/\l<=9/\1<=r/\r<=9/\a.arms/\b.arms
def deep:bz N->Nat
 |wt _=>0
 |bQ _ _ a b=>max a.deep b.deep+1
def names:bz N->List N
 |wt n=>[n]
 |bQ _ _ a b=>a.names++b.names
def sh:bz N->Rat->List Rat
 |wt _,x=>[x]
 |bQ l r a b,x=>a.sh (x*((r:Rat)/((l+r:Int):Rat)))++b.sh (x*((l:Rat)/((l+r:Int):Rat)))
theorem jY:∀(m:bz N),m.names.length<=2 ^ m.deep
 |wt _=>aF 1
 |bQ _ _ a b=>by
  have h1:=jY a;have h2:=jY b;have c:2 ^ a.deep<=2 ^ max a.deep b.deep:=e9 (by decide) (pU _ _);have d:2 ^ b.deep<=2 ^ max a.deep b.deep:=e9 (by decide) (pV _ _);show List.length (_++_)<=2 ^ (max a.deep b.deep+1);rw[dH,Nat.pow_succ];omega
theorem zL:∀(m:bz N),0<m.names.length
 |wt _=>Nat.zero_lt_one
 |bQ _ _ a b=>by
  have h1:=zL a;show 0<List.length (_++_);rw[dH];omega
end bz
theorem Ab:rf 1=(1,1):=by rfl
theorem jO{a:Int}(h:a≠0):(a:Rat)≠0:=by
 intro z;exact h (by exact_mod_cast z)
theorem Aa(t:Rat)(a b:Int):rf ((((rf t).1*a:Int):Rat)/(((rf t).2*b:Int):Rat))=rf (t*((a:Rat)/(b:Rat))):=by
 have h1:=jO (kg (c_ t));congr 1;rw[nQ,nQ];have d:=gU t;by_cases c:(b:Rat)=0
 .rw[c];grind
 .grind
theorem GO(t s:Rat):rf ((((rf t).1*(rf s).1:Int):Rat)/(((rf t).2*(rf s).2:Int):Rat))=rf (t*s):=by
 rw[Aa,gU]
theorem LW{a b:Int}(c:0<b):(rf ((a:Rat)/(b:Rat))).2<=b:=by
 rw[<-we c];show b/(Int.gcd a b:Int)<=b;exact qd _ (dO c)
theorem den_mul{t:Rat}{a b:Int}(c:0<b):(rf (t*((a:Rat)/(b:Rat)))).2<=(rf t).2*b:=by
 rw[<-Aa];exact LW (fu (c_ t) c)
theorem dD{x:Rat}(h:0<x):0<(rf x).1:=by
 have h1:0<=(rf x).1:=Rat.num_nonneg.mpr (Rat.le_of_lt h);have h2:(rf x).1≠0:=λz=>by
  have e:=gU x;rw[z] at e;have a:x=0:=by rw[<-e,tF];grind
  rw[a] at h;exact absurd h (by decide)
 omega
namespace bz
variable{N:Type}
theorem step_pos{l r:Int}{x:Rat}(hl:1<=l)(a:1<=r)(h:0<x):0<x*((r:Rat)/((l+r:Int):Rat)):=by
 have h1:(0:Rat)<(r:Rat):=by exact_mod_cast (show(0:Int)<r by omega)
 have h2:(0:Rat)<((l+r:Int):Rat):=by exact_mod_cast (show(0:Int)<l+r by omega)
 exact nR h (by rw[tF];exact nR h1 (Rat.inv_pos.mpr h2))
theorem wu:∀(m:bz N) (x:Rat) (B:Int),m.arms->0<x->(rf x).2<=B->∀s∈m.sh x,0<s/\(rf s).2<=B*18 ^ m.deep
 |wt _,x,B,_,h1,h2,s,hs=>by
  have:s=x:=by simpa[sh] using hs
  subst this;exact⟨h1,by simpa[deep] using h2⟩
 |bQ l r a b,x,B,h,h1,h2,s,hs=>by
  obtain⟨f,u,g,v,i,j⟩:=h;have n:0<B:=xo (c_ x) h2;have o:(rf (x*((r:Rat)/((l+r:Int):Rat)))).2<=B*18:=by
   refine dZ (den_mul (by omega)) ?_;exact ee h2 (by omega) (by omega) (by omega)
  have p:(rf (x*((l:Rat)/((l+r:Int):Rat)))).2<=B*18:=by
   refine dZ (den_mul (by omega)) ?_;exact ee h2 (by omega) (by omega) (by omega)
  have q:0<x*((r:Rat)/((l+r:Int):Rat)):=step_pos f g h1;have p2:0<x*((l:Rat)/((l+r:Int):Rat)):=by
   have:=step_pos (l:=r) (r:=l) g f h1;rwa [add_comm r l] at this
  have up:∀k:Nat,k<=max a.deep b.deep->B*18*18 ^ k<=B*18 ^ (max a.deep b.deep+1):=λk t=>by
   rw[j_,nI,lZ 18 (18 ^ k)];refine nM ?_ (dO n);refine xq ?_ (by decide);have:(18:Nat) ^ k<=18 ^ max a.deep b.deep:=e9 (by decide) t;exact_mod_cast this
  have c:s∈a.sh (x*((r:Rat)/((l+r:Int):Rat)))\/s∈b.sh (x*((l:Rat)/((l+r:Int):Rat))):=bV.mp hs;rcases c with hs|hs
  .obtain⟨d,e⟩:=wu a _ _ i q o s hs
   exact⟨d,dZ e (up _ (pU _ _))⟩
  .obtain⟨d,e⟩:=wu b _ _ j p2 p s hs
   exact⟨d,dZ e (up _ (pV _ _))⟩
end bz
def b9{W N S:Type}[DecidableEq N][DecidableEq S](pre:List (W×N×S)):List (W×N×S)->Option (W×W)
 |[]=>none
 |(w,n,s)::r=>match pre.find? (λp=>decide (p.2.1=n)) with
  |some p=>if p.2.2=s then b9 (pre++[(w,n,s)]) r else some (p.1,w)
  |none=>b9 (pre++[(w,n,s)]) r
end MA
section
open PySem PySem.Spec PyProof.Rows
namespace L2
section
variable{P:Program}{w:World}{H H':Hp}{h:Heap}{a:Addr}{o:HO}
theorem bX.obj(x:bX P w H h a o):∃u,h.get? a=some u:=by
 cases o with
 |lst xs=>obtain⟨_,_,_,_,e⟩:=x;exact⟨_,e⟩
 |tup xs=>obtain⟨_,_,_,_,e⟩:=x;exact⟨_,e⟩
 |dK kvs=>obtain⟨_,_,_,_,o,_,_,e,_⟩:=x;exact⟨_,e⟩
 |dT kvs=>obtain⟨_,_,_,_,o,_,_,e,_⟩:=x;exact⟨_,e⟩
 |set S n=>obtain⟨o,_,_,_,e,_⟩:=x;exact⟨_,e⟩
 |ins C dx fs=>obtain⟨_,_,_,e,_⟩:=x;exact⟨_,e⟩
 |own y=>exact x
 |xd fs=>obtain⟨_,⟨_,_,_,e,_⟩,_⟩:=x;exact⟨_,e⟩
 |fP lo hi=>obtain⟨_,_,_,e⟩:=x;exact⟨_,e⟩
 |bK b u=>obtain⟨e,_⟩:=x;exact⟨_,e⟩
 |iR ps=>exact⟨_,(show h.get? a=some _ from x)⟩
 |met f y=>exact⟨_,(show h.get? a=some _ from x)⟩
 |ext c=>obtain⟨_,e,_⟩:=x;exact e
end
structure iX(P:Program)(w:World)(outer:List Env)(H H':Hp)(s s':Shared)(a:Addr)(C:Value):Prop where
 os:s'.os=s.os
 bare:AllBare s'.gens
 slot:∀b o,s.heap.get? b=some o->b∈frs outer->∃sl,s'.heap.get? b=some {o with slots:=sl}
 free:∀b o,s.heap.get? b=some o->H b=none->H' b=none
 tups:∀b xs,H b=some (.tup xs)->H' b=some (.tup xs)
 fG:∀b o u,H b=some (.bK o u)->H' b=some (.bK o u)
 gb:∀b ps,H b=some (.iR ps)->∃more,H' b=some (.iR (ps++more))
 fl:∃(B:Heap) (a0:Value),(∀b o,s.heap.get? b=some o->H b=none->b∉frs outer->B.get? b=some o)/\(∀b o,s.heap.get? b=some o->b∉frs outer->∃o',B.get? b=some o')/\cB P w H' B/\FlyingW B outer a C a0 s'.heap
section
variable{P:Program}{w:World}{outer:List Env}{H H':Hp}{s s':Shared}{a:Addr}{C:Value}
theorem iX.un(F:iX P w outer H H' s s' a C):Un (frs outer) [] H H' s.heap s'.heap where
 keep:=λb o q n c _=>by
  obtain⟨B,a0,k,_,_,f⟩:=F.fl
  exact f.1 b o (k b o q n c)
 slot:=λb o q n c _=>F.slot b o q c
 free:=λb o q n _=>F.free b o q n
 there:=λb o q _=>by
  by_cases c:b∈frs outer
  .obtain⟨d,e⟩:=F.slot b o q c
   exact⟨_,e⟩
  .obtain⟨B,a0,_,t,_,f⟩:=F.fl
   obtain⟨o',e⟩:=t b o q c
   exact⟨o',f.1 b o' e⟩
 tups:=F.tups
 fG:=F.fG
 gb:=F.gb
theorem iX.hok(F:iX P w outer H H' s s' a C):cB P w H' s'.heap:=by
 obtain⟨B,a0,_,_,h,f⟩:=F.fl;exact h.kept f.1
end
def bI(P:Program)(w:World):iV:=λouter H s E e s'=>∃(a:Addr) (C:Value) (H':Hp),e=.ref a/\iX P w outer H H' s s' a C/\E C none H'
section
variable{X:Cx}{pins:aS}{σ:St}{H H':Hp}{s s':Shared}{a:Addr}{C:Value}
theorem DU(I:Inv X pins σ H s)(hex:X.ex=[])(os:s'.os=s.os)(bare:AllBare s'.gens)(slot:∀b o,s.heap.get? b=some o->b∈frs X.outer->∃i,s'.heap.get? b=some {o with slots:=i})
  (free:∀b o,s.heap.get? b=some o->H b=none->H' b=none)(tups:∀b xs,H b=some (.tup xs)->H' b=some (.tup xs))(fG:∀b o u,H b=some (.bK o u)->H' b=some (.bK o u))
  (gb:∀b ps,H b=some (.iR ps)->∃d,H' b=some (.iR (ps++d)))
  (fl:∃(B:Heap) (a0:Value),(∀b o,s.heap.get? b=some o->H b=none->b∉frs X.stack->B.get? b=some o)/\(∀b o,s.heap.get? b=some o->b∉frs X.stack->∃o',B.get? b=some o')/\cB X.prog X.w H' B/\FlyingW B X.outer a C a0 s'.heap):
  iX X.prog X.w X.outer X.H₀ H' X.s₀ s' a C:=by
 have nx:∀b:Addr,b∉X.ex:=λb=>by rw[hex];simp
 have g:∀b o,X.s₀.heap.get? b=some o->b∉frs X.outer->b∉frs X.stack:=λb o q c z=>by
  rcases aY.mp (I.pO b z) with e|e
  .exact absurd (cJ (aT q) I.ok.above) (by rw[e];exact fS _)
  .exact c e
 refine⟨os.trans I.os,bare,λb o q c=> ?_,λb o q n=> ?_,λb xs q=>tups b xs (I.base.tups b xs q),λb o u q=>fG b o u (I.base.fG b o u q),λb ps q=> ?_,?_⟩
 .obtain⟨i,e⟩:=I.base.slot b o q (I.ok.lN b c) c (nx b)
  obtain⟨j,l⟩:=slot b _ e c
  exact⟨j,l⟩
 .obtain⟨i,e⟩:=I.base.any q n (nx b)
  exact free b _ e (I.base.free b o q n (nx b))
 .obtain⟨m,p⟩:=I.base.gb b ps q
  obtain⟨r,v⟩:=gb b _ p
  exact⟨m++r,by rw[v,Array.append_assoc]⟩
 .obtain⟨B,a0,k,t,h,f⟩:=fl
  refine⟨B,a0,λb o q n c=>k b o (I.base.keep b o q n c (nx b)) (I.base.free b o q n (nx b)) (g b o q c),λb o q c=> ?_,h,f⟩
  obtain⟨o',e⟩:=I.base.there b o q (nx b)
  exact t b o' e (g b o q c)
end
def Raises(X:Cx)(E:XK):Prop:=∀(pins:aS) (σ:St) (H:Hp) (s:Shared) (e:Addr) (h':Heap) (C:Value) (args:List Value),Inv X pins σ H s->Heap.MadeExcOf s.heap h' e C args->E C none H->X.xe (.ref e) {s with heap:=h'}
section
variable{P:Program}{w:World}{K:Frag}{mg:au}{base:Heap}{N:List Str}{qual:Str}{scope:Scope}{f:Addr}{cd:Value}{A:Around}{outer:List Env}{s:Shared}{H:Hp}{E:XK}
theorem D3{env:Env}{l:List Env}{b:Addr}(h:b∈frs l):b∈frs (env::l):=by
 obtain⟨e,a,c⟩:=sS.mp h;exact sS.mpr ⟨e,aZ _ a,c⟩
theorem GH:Raises (cK (bI P w) P w K mg base N qual scope f cd A outer s H E) E:=by
 intro pins σ H1 j e h' C args I i k;have stk:=I.stack;have vd:∀b o,H1 b=some o->b∉frs (cK (bI P w) P w K mg base N qual scope f cd A outer s H E).stack:=λb o q z=>by
  rw[I.Al b z] at q;cases q
 have h:∀a∈(cK (bI P w) P w K mg base N qual scope f cd A outer s H E).stack,∀b,a.frame=some b->b∈frs (cK (bI P w) P w K mg base N qual scope f cd A outer s H E).stack:=λa l b d=>sS.mpr ⟨a,l,d⟩;show wpAny (model P w) _ (leaving _ (.ref e)) _ _ _;refine wpAny_leaves_madeW (base:=hideAll j.heap (frs (cK (bI P w) P w K mg base N qual scope f cd A outer s H E).stack)) I.ok.frames rfl (λb o q=>of_hideAll _ q) (PySem.W.funFrames_hide stk h) i λh'' t fl tup m up=>?_;refine⟨e,C,H1,rfl,DU I rfl rfl I.bare (λb o q d=>?_) (λ_ _ _ n=>n) (λ_ _ q=>q) (λ_ _ _ q=>q) (λ_ ps q=>⟨#[],by rw[q];simp⟩) ⟨_,_,λb o q n d=>hideAll_get _ q d,λb o q d=>⟨o,hideAll_get _ q d⟩,λb o q=>?_,fl⟩,k⟩
 .obtain⟨_,o',g,hd⟩:=stk.mem (D3 (env:=envOfC qual scope s.heap.objs.size f cd) d)
  rw[q] at g;cases g;exact up b o (i.keeps b o q) hd
 .refine(I.hok b o q).stay (λc u hc r=>hideAll_get _ r ?_) (λ_ r=>r) λ_ _ r=>r
  rcases hc with z|z
  .rw[z];exact vd b o q
  .exact vd c _ z
theorem F2:Passes (bI P w) (cK (bI P w) P w K mg base N qual scope f cd A outer s H E) E:=by
 intro pins σ H1 n e s' I h;obtain⟨a,C,H',rfl,F,j⟩:=h;obtain⟨B,a0,k,th,hok,fl⟩:=F.fl;show wpAny (model P w) _ (leaving _ (.ref a)) _ _ _;refine wpAny_leaves_onW I.ok.frames rfl fl λh'' g up=>⟨a,C,H',rfl,DU I rfl F.os F.bare (λb o q l=>?_) F.free F.tups F.fG F.gb ⟨B,a0,k,th,hok,g⟩,j⟩;have c:=D3 (env:=envOfC qual scope s.heap.objs.size f cd) l;obtain⟨p,e⟩:=F.slot b o q c;obtain⟨_,o',d,hd⟩:=fl.2.2.1.mem c;rw[e] at d;cases d;obtain⟨i,m⟩:=up b _ e hd;exact⟨i,m⟩
theorem d_:PassesOwn (model P w) (cK (bI P w) P w K mg base N qual scope f cd A outer s H E).A (cK (bI P w) P w K mg base N qual scope f cd A outer s H E).env (cK (bI P w) P w K mg base N qual scope f cd A outer s H E).xe:=
 PassesOwn.leaving
end
abbrev j8:List Value:=[.type "ValueError",.type "Exception",.type "BaseException",.type "object"]
theorem Mv{K:Frag}{h:Heap}{C:Addr}{b:List Value}{newId:String}(X:K.In h)(q:excIn K C b newId=true):∃nm d N bs bm hdct sn sub ab col dd k0 k1 k2 k3 k5,∃mN:au,
  h.get? C=some (excClassObj nm d C N bs bm hdct sn sub ab col dd k0 k1 k2 k3 k5 newId)/\h.Ns N mN/\mN "__init__"=none/\OwnTail h b bm:=by
 unfold excIn at q;split at q
 .rename_i dd cd f j
  split at q
  .rename_i m bm k0 k1 k2 k3 n k5 g i
   simp only[dP,beq_iff_eq,sV] at q;obtain⟨⟨⟨⟨⟨rfl,rfl⟩,a⟩,k⟩,hok⟩,c⟩:=q;obtain⟨nm,bs,mro,ns,d,hd,sn,sub,ab,col,del⟩:=cd;dsimp only at g a hok c;subst g a;have e:f= #[k0,k1,k2,k3,some (.builtin n),k5]:=by
    obtain⟨l⟩:=f;simp only at i;rw[i]
   subst e;exact⟨nm,d,ns,bs,bm,hd,sn,sub,ab,col,dd,k0,k1,k2,k3,k5,_,X _ _ j,.of_isNs (PySem.W.isNs_of_in X hok),PySem.W.nsMap_none_of_in X hok c,PySem.W.tail_of_in X k⟩
  .cases q
 .cases q
section
variable{X:Cx}{E:XK}{x:Str}{C:Addr}{e:Expr}{t:TA}{np cpos pos:Pos}
def Vm(E:XK)(C:Addr)(t:TA):TS:=λ_ σ H=>t σ H λvs H1=>vs.length<=sizeLine/\E (.ref C) none H1
theorem SA(j:Raises X E)(hc:X.calm=true)(k:X.mg x=some (.ref C))(l:excIn X.K C j8 "ValueError.__new__"=true)(m:PA X [e] t)(n:Gl X x:=by rfl)(b:(x==("__debug__":Str))=false:=by decide)
  (f:starEach [e] X.env=[(false,eval e X.env)]:=by rfl):PS X (.Raise (some (.Call (.Name x np) [e] [] cpos)) none pos) (Vm E C t):=by
 intro pins s σ H D I h;obtain⟨nm,o,N,bs,bm,hdct,sn,sub,ab,col,dd,k0,k1,k2,k3,k5,mN,c,p,d,g⟩:=Mv I.mod.rA l;refine wpAny_Raise_call_subT (nm:=nm) (q:=o) (C:=C) (N:=N) (bs:=bs) (bm:=bm) (hdct:=hdct) (sn:=sn) (sub:=sub) (ab:=ab) (col:=col) (dd:=dd) (k0:=k0) (k1:=k1) (k2:=k2) (k3:=k3) (k5:=k5) (mN:=mN) PySem.F.excBase_ValueError (g.hasType (by decide+kernel)) (I.ok.hd hc) (by rw[f];rfl) d (rC I n k ⟨rfl,?_⟩ b);have h':=m cpos pins s σ H _ I h;rw[f] at h' ⊢;refine AO (aK h' λr w ⟨vs,H1,a,u,i⟩=>?_);have hl:=u.length;exact⟨rfl,by show r.length<=sizeLine;rw[<-hl];exact i.1,a.bk _ _ c,p.keeps a.bk,g.keeps a.bk,λh2 y v=>j _ _ _ _ _ _ _ _ a v i.2⟩
end
def excAt(a:Addr)(C:Value)(h:Heap):Prop:=∃o,h.get? a=some o/\o.cls=C
abbrev Mu(a C:Addr):HO:=.ext (excAt a (.ref C))
abbrev Cx.lO(X:Cx)(e:Addr):Cx:={X with A:=X.A.mark (some (.ref e)),calm:=false,xe:=λ_ _=>False}
abbrev Cx.tried(X:Cx)(pn:aS)(E:aQ):Cx:={X with pn:=pn,xe:=E}
section
variable{X:Cx}{pins:aS}{σ:St}{H:Hp}{s:Shared}
theorem Inv.lO(I:Inv X pins σ H s)(e:Addr):Inv (X.lO e) pins σ H s:=
 ⟨⟨I.ok.mod,I.ok.kind,I.ok.glob,I.ok.blt,I.ok.above,I.ok.inj,I.ok.has,I.ok.oH,(λz=>nomatch z),I.ok.frames,I.ok.stk,I.ok.yQ,I.ok.bs,I.ok.kB,I.ok.o8,I.ok.qU,I.ok.i_,I.ok.lN⟩,I.os,I.bare,I.base,I.loc,I.cell,I.free,I.iw,I.pin,I.hok,I.len⟩
theorem Inv.FW{e:Addr}(ok:X.Ok)(I:Inv (X.lO e) pins σ H s):Inv X pins σ H s:=
 ⟨ok,I.os,I.bare,I.base,I.loc,I.cell,I.free,I.iw,I.pin,I.hok,I.len⟩
theorem Inv.tried(I:Inv X pins σ H s)(E:aQ):Inv (X.tried (X.pn++pins) E) [] σ H s:=
 ⟨⟨I.ok.mod,I.ok.kind,I.ok.glob,I.ok.blt,I.ok.above,I.ok.inj,I.ok.has,I.ok.oH,I.ok.hd,I.ok.frames,I.ok.stk,I.ok.yQ,I.ok.bs,I.ok.kB,I.ok.o8,I.ok.qU,I.ok.i_,I.ok.lN⟩,I.os,I.bare,I.base,I.loc,I.cell,I.free,I.iw,
  λp a=>I.pin p ((bV.mp a).elim id λz=>absurd z (by simp)),I.hok,I.len⟩
theorem Inv.j7{E:aQ}{a:aS}(ok:X.Ok)(I:Inv (X.tried (X.pn++pins) E) a σ H s):Inv X pins σ H s:=
 ⟨ok,I.os,I.bare,I.base,I.loc,I.cell,I.free,I.iw,λp b=>I.pin p (kW _ b),I.hok,I.len⟩
theorem SP.j7{E:aQ}{a:aS}{D:Ends}{f:Flow}(ok:X.Ok)(h:SP (X.tried (X.pn++pins) E) a D f s):SP X pins D f s:=by
 cases f with
 |next=>obtain⟨σ',H',I,q⟩:=h;exact⟨σ',H',I.j7 ok,q⟩
 |brk=>obtain⟨σ',H',I,q⟩:=h;exact⟨σ',H',I.j7 ok,q⟩
 |cont=>obtain⟨σ',H',I,q⟩:=h;exact⟨σ',H',I.j7 ok,q⟩
 |ret u=>obtain⟨v,σ',H',I,r,q⟩:=h;exact⟨v,σ',H',I.j7 ok,r,q⟩
end
section
variable{P:Program}{w:World}{outer:List Env}{H H':Hp}{s s':Shared}{a:Addr}{C a0:Value}{B h'':Heap}
theorem iX.move(F:iX P w outer H H' s s' a C)(h:∀b o,s.heap.get? b=some o->H b=none->b∉frs outer->B.get? b=some o)(th:∀b o,s.heap.get? b=some o->b∉frs outer->∃o',B.get? b=some o')(hok:cB P w H' B)
  (fl:FlyingW B outer a C a0 s'.heap)(d:FlyingW B outer a C a0 h'')(up:s'.heap.UpToSlots h''):iX P w outer H H' s {s' with heap:=h''} a C:=by
 refine⟨F.os,F.bare,λb o q g=>?_,F.free,F.tups,F.fG,F.gb,B,a0,h,th,hok,d⟩;obtain⟨j,e⟩:=F.slot b o q g;obtain⟨_,o',c,hd⟩:=fl.2.2.1.mem g;rw[e] at c;cases c;obtain⟨f,i⟩:=up b _ e hd;exact⟨f,i⟩
end
section
variable{P:Program}{w:World}{K:Frag}{mg:au}{base:Heap}
def aj(P:Program)(w:World)(K:Frag)(mg:au)(base:Heap)(k:Nat)(x:Str)(ps:List Str)(sp:Sp):Prop:=
 ∃f fd,gG P w K mg base (bI P w) k f fd ps sp/\Binds K fd ps []/\keepIn K (.ref f)=true/\mg x=some (.ref f)
theorem TopD.fnX{x:Str}{st:Stmt}{N ps:List Str}{k:Nat}{sp:Sp}(T:TopD K mg x st ps)(S:aV N ps (aI st))(len:∀vs H Q E,sp vs H Q E->vs.length=ps.length)
  (c:∀(f:Addr) (a:Value) (A:Around) (outer:List Env) (s:Shared) (H:Hp) (vs:List V) (Q:VK) (E:XK),dz k (A.deeper (envOfC x (aI st) s.heap.objs.size f a))->sp vs H Q E->
   ∃t,dw (cK (bI P w) P w K mg base N x (aI st) f a A outer s H E) (ig st) t/\t {nx:=λ_ H'=>Q .aC H',rt:=Q} (start N vs) H):aj P w K mg base (k+1) x ps sp:=by
 obtain⟨f,fd,F,b,m⟩:=T;have kp:=F.kp;obtain⟨i,j,kV,doc,pm,an,a,ct,g,rfl,lk,d⟩:=F.ex;exact⟨f,_,DV lk d S len λA outer s H vs Q E h e=>c f a A outer s H vs Q E h e,b,kp,m⟩
end
section
variable{X:Cx}{k:Nat}{x:Str}{ps:List Str}{sp:Sp}{e fe:Expr}{es:List Expr}{t:TA}{tf:TE}{p pos:Pos}{E:XK}
theorem Rz(F:aj X.prog X.w X.K X.mg X.base k x ps sp)(d:dz k X.A)(g:Passes (bI X.prog X.w) X E)(h:PA X (e::es) t)(i:Gl X x:=by rfl)(a:(x==("__debug__":Str))=false:=by decide)
  (j:starEach (e::es) X.env=(false,eval e X.env)::starEach es X.env:=by rfl)(c:(backTo pos (starEach es X.env)).any (·.1)=false:=by rfl):
  PE X (.Call (.Name x p) (e::es) [] pos) (Au sp [] E t):=by
 obtain⟨f,fd,F,b,kp,m⟩:=F;exact Rx F d i m kp b .nil g h a j c
end
end L2
namespace SS
theorem Rn(t:SetTable)(n:Nat):(t.orStandIn n).led=t.led:=by
 unfold SetTable.orStandIn;split<;>rfl
theorem Ro(t:SetTable)(n:Nat)(h:t.plain=false):(t.orStandIn n).plain=false:=by
 unfold SetTable.orStandIn;split
 .exact h
 .rfl
theorem PU(t:SetTable)(es:Array (Int×Value))(h:Int)(x:Value):(layNew t es h x).2.1.led=t.led:=by
 unfold layNew;split
 .exact Rn _ _
 .rfl
theorem PV(t:SetTable)(es:Array (Int×Value))(h:Int)(x:Value)(a:t.plain=false):(layNew t es h x).2.1.plain=false:=by
 unfold layNew;split
 .exact Ro _ _ a
 .rfl
theorem ES{mask finger moves:Nat}{led plain:Bool}{a:Array Int}{t:SetTable}{o:Array Nat}(h:SetTable.laid mask finger moves led plain a=some (t,o)):t.led=led/\t.plain=plain:=by
 unfold SetTable.laid at h;obtain⟨w,_,h⟩:=Option.bind_eq_some_iff.mp h;cases h;exact⟨rfl,rfl⟩
theorem S7(t:SetTable)(es:Array (Int×Value))(n:Nat):(relayAll t es n).2.1.led=t.led:=by
 unfold relayAll;split
 .rename_i t' o e
  dsimp only;split
  .exact(ES e).1
  .rfl
 .rfl
theorem S8(t:SetTable)(es:Array (Int×Value))(n:Nat)(a:t.plain=false):(relayAll t es n).2.1.plain=false:=by
 unfold relayAll;split
 .rename_i t' o e
  dsimp only;split
  .exact(ES e).2.trans a
  .rfl
 .rfl
def strOf(v:Value):Str:=match v with|.str x _=>x|_=>⟨#[]⟩
def fc(prog:Program)(w:World)(h:Heap)(a:Addr)(es:Array (Int×Value)):Prop:=
 ∃o ep t,h.get? a=some o/\o.ExactSet/\o.data=.set es ep t/\ElemsOf (PySem.strKind prog w) es.toList/\(es.toList.map λe=>strOf e.2).Nodup/\es.size<scanBound/\t.fits es.size=true/\
  t.led= !w.params.followText "set-order"/\(es.size≠0->t.plain=false)
section
variable{prog:Program}{w:World}{A:Around}{E:aQ}{s:Shared}
theorem yN{l:List (Int×Value)}(h:ElemsOf (PySem.strKind prog w) l){e:Int×Value}(a:e∈l):∃t,e.2=.str (strOf e.2) t:=by
 obtain⟨⟨k,b,_⟩,_⟩:=h e a;obtain⟨t,q⟩:=Value.isStrOf_shape b;exact⟨t,by rw[q];rfl⟩
theorem EH{e:Int×Value}{x:Str}(h:∃t,e.2=.str (strOf e.2) t):(PySem.strKind prog w).is x e.2=decide (strOf e.2=x):=by
 obtain⟨t,q⟩:=h;rw[q];show Value.isStrOf x (.str (strOf e.2) t)=decide (strOf (.str (strOf e.2) t)=x);by_cases a:strOf e.2=x
 .rw[dg (by rw[<-a];rfl),a]
  simp[Value.isStrOf]
 .rw[d7 (by exact a)]
  simp only[Value.isStrOf];simpa[beq_iff_eq] using λz=>a (by first|exact z.symm|exact z)
theorem add{a:Addr}{es:Array (Int×Value)}{x:Str}{r:Tok}{Q:Bool->Shared->Prop}(hS:fc prog w s.heap a es)(M:es.size+1<scanBound)
  (h:∀h' l b,SameBut a s.heap h'->fc prog w h' a l->(x∈es.toList.map (λe=>strOf e.2)->l=es)->(x∉es.toList.map (λe=>strOf e.2)->l.toList.Perm (es.toList++[((PySem.strKind prog w).hash x,.str x r)]))->Q b {s with heap:=h'}):
  wpAny (model prog w) A (setAddHashed a (.str x r) ((PySem.strKind prog w).hash x)) Q E s:=by
 obtain⟨o,ep,t,U,hex,hd,n,V,hb,hf,v,hpl⟩:=hS
 have D:(PySem.strKind prog w).is x (.str x r)=true:=by show Value.isStrOf x (.str x r)=true;simp[Value.isStrOf]
 have N:(Value.str x r).scannable=true:=rfl
 unfold setAddHashed setAddHashedIn
 refine gZ (ah (qa U hd hf ?_))
 dsimp only
 rw[byScan_of N hb n]
 simp only[↓reduceIte]
 unfold setAddByScan
 refine ah ?_
 refine ah (k8 ?_)
 refine ah (wpAny_setScan_of D U hd hf n ?_)
 cases hr:List.findIdx? (λe=>(PySem.strKind prog w).is x e.2) es.toList with
 |some j=>
  dsimp only
  obtain⟨hj,W,_⟩:=List.findIdx?_eq_some_iff_getElem.mp hr
  have hin:x∈es.toList.map (λe=>strOf e.2):=by
   rw[EH (yN n (lz hj))] at W
   exact aX.mpr ⟨_,lz hj,iF W⟩
  refine aG (aG ?_)
  have e:s={s with heap:=s.heap}:=by cases s;rfl
  rw[e]
  exact h s.heap es _ (SameBut.refl a s.heap) ⟨o,ep,t,U,hex,hd,n,V,hb,hf,v,hpl⟩ (λ_=>rfl) λz=>absurd hin z
 |none=>
  dsimp only
  have F:x∉es.toList.map (λe=>strOf e.2):=λz=>by
   obtain⟨e,he,q⟩:=aX.mp z
   have:=List.findIdx?_eq_none_iff.mp hr e he
   rw[EH (yN n he),dg q] at this
   exact Bool.noConfusion this
  have Oo:∀(b:Bool) {f:Shared} {G:Unit->Shared->Prop},G () f->wpAny (model prog w) A (match b with|true=>rule "set.scan.the-table-gave-way"|false=>pure ()) G E f:=
   λb f G u=>by cases b<;>first|exact aG u|exact k8 u
  have d:=layNew_perm t es ((PySem.strKind prog w).hash x) (.str x r)
  have k:=layNew_fits t es ((PySem.strKind prog w).hash x) (.str x r)
  have C:=PU t es ((PySem.strKind prog w).hash x) (.str x r)
  have X:=PV t es ((PySem.strKind prog w).hash x) (.str x r)
  generalize hL:layNew t es ((PySem.strKind prog w).hash x) (.str x r)=L at d k C X ⊢
  obtain⟨c,t1,p,Wd⟩:=L
  dsimp only at d k C X ⊢
  rw[Array.toList_push] at d
  have H:ElemsOf (PySem.strKind prog w) c.toList:=(n.push D N).perm d
  have Y:((es.toList++[((PySem.strKind prog w).hash x,Value.str x r)]).map λe=>strOf e.2).Nodup:=by
   rw[eB]
   refine l9.mpr ⟨V,by simp,λy hy z hz=> ?_⟩
   have hz':z=x:=by simpa[strOf] using hz
   rw[hz']
   rintro rfl
   exact F hy
  have I:(c.toList.map λe=>strOf e.2).Nodup:=(d.map _).nodup_iff.mpr Y
  have Z:c.size=es.size+1:=by rw[<-gW,d.length_eq,dH,gW];rfl
  have B:c.size<scanBound:=by rw[Z];exact M
  refine ah (Oo _ ?_)
  have fin:∀{g:Bool->Sem Unit} {R:Option Bool->Shared->Prop},(∀(b:Bool) (f:Shared) (G:Unit->Shared->Prop),G () f->wpAny (model prog w) A (g b) G E f)->(∀h',Q true {s with heap:=h'}->R (some true) {s with heap:=h'})->
    ∀i:SetTable,i.fits c.size=true->i.led=t.led->i.plain=false->
    wpAny (model prog w) A (do
     storeSet a c i
     if (!p&&i.tooFull)=true then do
       g (relayAll i c (SetTable.grown c.size)).2.2
       storeSet a (relayAll i c (SetTable.grown c.size)).1 (relayAll i c (SetTable.grown c.size)).2.1
       pure (some true)
      else pure (some true)) R E s:=λ {g R} hg hR i hf2 hl2 hp2=>by
   have go:∀h' l,SameBut a s.heap h'->fc prog w h' a l->l.toList.Perm c.toList->R (some true) {s with heap:=h'}:=λh' l q1 q2 q3=>hR h' (h h' l true q1 q2 (λz=>absurd z F) λ_=>q3.trans d)
   refine ah (wpAny_storeSet_of U hd ?_ (xw B))
   have O:(s.heap.update a (Obj.putSet c i)).get? a=some {o with data:= .set c (ep+1) i}:=by
    have:=ki (Obj.putSet c i) U (by rw[putSet_of c i hd];rfl)
    rw[putSet_of c i hd] at this;exact this
   have J:=SameBut.update s.heap a (Obj.putSet c i)
   split
   .have K:=relayAll_perm i c (SetTable.grown c.size)
    have P:=relayAll_fits i c (SetTable.grown c.size)
    have S:=S7 i c (SetTable.grown c.size)
    have T:=S8 i c (SetTable.grown c.size) hp2
    generalize Wn:relayAll i c (SetTable.grown c.size)=Rl at K P S T ⊢
    obtain⟨m,t3,We⟩:=Rl
    dsimp only at K P S T ⊢
    have hsz:m.size=c.size:=by rw[<-gW,K.length_eq,gW]
    have hb2:m.size<scanBound:=by rw[hsz];exact B
    refine ah (hg _ _ _ ?_)
    refine ah (wpAny_storeSet_of O rfl ?_ (xw hb2))
    have Om:((s.heap.update a (Obj.putSet c i)).update a (Obj.putSet m t3)).get? a=some {o with data:= .set m (ep+1+1) t3}:=by
     have:=ki (Obj.putSet m t3) O (by rw[putSet_of (ep:=ep+1) (t:=i) m t3 rfl];rfl)
     rw[putSet_of (ep:=ep+1) (t:=i) m t3 rfl] at this;exact this
    refine aG (go _ m (J.trans (SameBut.update _ a _)) ⟨_,_,_,Om,hex,rfl,H.perm K,(K.map _).nodup_iff.mpr I,hb2,P,?_,λ_=>T⟩ K)
    rw[S,hl2];exact v
   .exact aG (go _ c J ⟨_,_,_,O,hex,rfl,H,I,B,hf2,by rw[hl2];exact v,λ_=>hp2⟩ .rfl)
  split
  .refine ah ?_
   rw[hashByValue_scannable 8 N]
   refine aG ?_
   simp only[show plainKind (Value.str x r)=false from rfl,jh,gm]
   refine fin ?_ ?_ {t1 with plain:=false} (SetTable.fits_plain_off k) C rfl
   .intro b f G u;cases b<;>first|exact aG u|exact k8 u
   .exact λh' u=>aG u
  .rename_i K
   refine ah (aG ?_)
   simp only[↓reduceIte]
   refine fin ?_ ?_ t1 k C (by simpa using K)
   .intro b f G u;cases b<;>first|exact aG u|exact k8 u
   .exact λh' u=>aG u
end
abbrev names(es:Array (Int×Value)):List Str:=es.toList.map λe=>strOf e.2
theorem fc.keeps{prog:Program}{w:World}{h h':Heap}{a:Addr}{es:Array (Int×Value)}(S:fc prog w h a es)(k:∀o,h.get? a=some o->h'.get? a=some o):fc prog w h' a es:=by
 obtain⟨o,ep,t,b,r⟩:=S;exact⟨o,ep,t,k o b,r⟩
section
variable{prog:Program}{w:World}{A:Around}{R:Result->Shared->Prop}{I:Addr}{fp wr:List Addr}{G:Array GenState->Array GenState->Prop}{n:Nat}{P:Nat->Value->Prop}{St:Nat->Shared->Prop}
theorem loop(W:WalksS prog w A.in1 I fp wr G n P St)(S:Addr)(q:S∉fp)(val:Nat->Str)(r:∀i v,P i v->∃t,v=.str (val i) t)(m:n+1<scanBound):
  ∀(k i:Nat) (s:Shared) (es:Array (Int×Value)),n - i=k->i<=n->St i s->fc prog w s.heap S es->es.size<=i->(∀x,x∈names es↔∃j,j<i/\val j=x)->
   (∀s' c,Moved (S::wr) G s s'->fc prog w s'.heap S c->c.size<=n->(∀x,x∈names c↔∃j,j<n/\val j=x)->R (.ok (.ret .none)) s')->
   codeAny (model prog w) A (.builtin "set.update.loop" ⟨[.ref S,.ref I],[]⟩) R s:=by
 have u:S∉wr:=λh=>q (W.sub _ h);have f:∀b∈wr,b∈S::wr:=λb m=>aZ _ m;intro k;induction k with
 |zero=>
  intro i s es hk hi g M hsz d N;have O:i=n:=by omega
  subst O;refine iU F.entry_set_update_loop ?_;rw[jg AR _];show wpAny _ A.in1 (pyNext (.ref I)>>=_) _ _ s;refine ah (W.done s _ _ g λs' B=>?_);show wpAny _ A.in1 (ret Value.none) _ _ s';exact aG (N s' es (B.mono f) (M.keeps λo Q=>B.heap S _ u Q) hsz d)
 |succ k ih=>
  intro i s es hk hi g M hsz d N;have C:i<n:=by omega
  refine iU F.entry_set_update_loop ?_;rw[jg AR _];show wpAny _ A.in1 (pyNext (.ref I)>>=_) _ _ s;refine ah (W.item i s _ _ C g λv s' hP D B=>?_);obtain⟨t,rfl⟩:=r i v hP;have T:fc prog w s'.heap S es:=M.keeps λo Q=>B.heap S _ u Q;show wpAny _ A.in1 (holding [Value.str (val i) t] (setAdd S (.str (val i) t))>>=_) _ _ s';refine ah (gZ ?_);unfold setAdd;refine gZ ?_;refine ah ((PySem.strKind prog w).pyHash (k:=val i) (by show Value.isStrOf (val i) (.str (val i) t)=true;simp[Value.isStrOf]) ?_);refine add (s:={s' with toks:=s'.toks+1}) T (by omega) λh' c b E U Z q2=>?_;have H:c.size<=i+1:=by
   by_cases p:val i∈es.toList.map (λe=>strOf e.2)
   .rw[Z p];omega
   .rw[<-gW,(q2 p).length_eq,dH,gW]
    simp only[gC,length_nil];omega
  have l:∀x,x∈names c↔∃j,j<i+1/\val j=x:=λx=>by
   have e1:x∈names c↔x∈names es\/x=val i:=by
    by_cases p:val i∈es.toList.map (λe=>strOf e.2)
    .rw[Z p]
     exact⟨.inl,λz=>z.elim id λe=>e▸p⟩
    .have hp:=((q2 p).map λe=>strOf e.2).mem_iff (a:=x)
     rw[eB,bV] at hp;refine hp.trans ⟨λz=>z.imp id λy=>by simpa[strOf] using y,λz=>z.imp id λy=>by simpa[strOf] using y⟩
   rw[e1,d x];constructor
   .rintro (⟨j,hj,e⟩|rfl)
    .exact⟨j,by omega,e⟩
    .exact⟨i,by omega,rfl⟩
   .rintro ⟨j,hj,e⟩
    by_cases V:j=i
    .exact .inr (by rw[<-e,V])
    .exact .inl ⟨j,by omega,e⟩
  refine aG ⟨jD AR _,ih (i+1) _ c (by omega) C (W.frame _ s' _ _ D (lW _) λb m o e=>?_) U H l λX J K L hz Y=>?_⟩
  .rw[E.2 b (λh:b=S=>q (by rw[<-h];exact m))];exact e
  .refine N X J (Moved.trans W.gtrans ((B.mono f).then_heap (lW _) λb o m e=>?_) K) L hz Y
   rw[E.2 b (λh:b=S=>m (by rw[h];exact bh))];exact e
end
section
variable{prog:Program}{w:World}{A:Around}{E:aQ}{s:Shared}
abbrev P1(w:World):Bool:= !w.params.followText "set-order"
abbrev jv(w:World):Obj:={cls:=.type "set",dict:=none,data:=.set #[] 0 (.fresh 0 0 (P1 w))}
theorem code_set_new(a:Value){Q₁:aQ}(h:Q₁ (.ref s.heap.objs.size) {s with heap:=s.heap.push (jv w)}):
  codeAny (model prog w) A (.call (.builtin "set.__new__") ⟨[.type "set",a],[]⟩) (wants Q₁ E) s:=by
 refine codeAny_of_tree ?_;show wpAny _ A.in1 (do checkBuiltinCall "set.__new__" ⟨[.type "set",a],[]⟩;again (.builtin "set.__new__" ⟨[.type "set",a],[]⟩)) _ _ s;refine ah (wpAny_of_eq (PySem.F.newCall_set_1 a) (aG ⟨jD PySem.F.plain_set_new _,iU PySem.F.entry_set_new ?_⟩));rw[jg PySem.F.plain_set_new _];unfold Builtin.«set.__new__» Builtin.Frozenset.newClass;have b:=sub_set_self;obtain⟨c,g,d,e,os⟩:=s;dsimp only;wp_walk;refine wpAny_askSetting (aG ?_);dsimp only;simp only[newObj];refine ah (wpAny_alloc (aG ?_));exact aG h
theorem fc.fresh{h:Heap}{a:Addr}(b:h.get? a=some (jv w)):fc prog w h a #[]:=
 ⟨_,_,_,b,⟨rfl,rfl,rfl⟩,rfl,λe c=>by simp at c,by simp,by decide,by rfl,rfl,λz=>absurd rfl z⟩
theorem KJ{l:Addr}{a:Array Value}{val:Nat->Str}{Q:aQ}
  (hh:A.handled=none)(hl:s.heap.IsList l a)(hi:∀(i:Nat) (v:Value),a[i]? =some v->∃t:Tok,v=Value.str (val i) t)(K:a.size+1<scanBound)
  (h:∀(h':Heap) (L:Nat) (es:Array (Int×Value)),fc prog w h' s.heap.objs.size es->es.size<=a.size->(∀x,x∈names es↔∃j,j<a.size/\val j=x)->
   (∀b o,b<s.heap.objs.size->s.heap.get? b=some o->h'.get? b=some o)->Q (.ref s.heap.objs.size) {s with heap:=h',toks:=L}):
  wpAny (model prog w) A (call (.type "set") [.ref l]) Q E s:=by
 obtain⟨c,tl,Wq⟩:=mC.mro
 have N:=mC.made
 have hsub:=mC.sub
 refine wpAny_call (codeAny_of_tree ?_)
 show wpAny _ _ (callAny (.type "set") _) _ _ _
 refine aG ⟨Code.quiet_builtin _ (by decide+kernel),iU PySem.F.entry_type_call ?_⟩
 rw[Around.under_plain (weight_type_call_type "set" [.ref l] []) rfl]
 have h1:=mC.notType
 have h2:=mC.canCreate
 have hct:=PySem.F.typeCall_set_1 (.ref l)
 repeat (any_goals (first|assumption|wp_step))
 refine nW (code_set_new (.ref l) (E:=E) (Q₁:=λobj g=>obj= .ref s.heap.objs.size/\g={s with heap:=s.heap.push (jv w)}) ⟨rfl,rfl⟩) λr g O=> ?_
 cases r with
 |error e=>exact O
 |ok fl=>
  cases fl with
  |ret obj=>
   obtain⟨rfl,rfl⟩:=O
   have hS:(s.heap.push (jv w)).get? s.heap.objs.size=some (jv w):=cA _ rfl
   have hT:Shared.TypeIs {s with heap:=s.heap.push (jv w)} (.ref s.heap.objs.size) "set":=⟨_,hS,rfl⟩
   have hli:=mC.init.lookup
   have hbi:=mC.init.bind (.ref s.heap.objs.size)
   repeat (any_goals (first|assumption|wp_step))
   refine nW (codeAny_call_builtin (R:=wants (λr k=>r= .none/\∃h' L es,k={s with heap:=h',toks:=L}/\
     fc prog w h' s.heap.objs.size es/\es.size<=a.size/\(∀x,x∈names es↔∃j,j<a.size/\val j=x)/\
     (∀b o,b<s.heap.objs.size->s.heap.get? b=some o->h'.get? b=some o)) E) mC.init.plain PySem.F.entry_set_init (check_set_init_1 hT ?_)) λy k d=> ?_
   .obtain⟨ol,B,C,nl,D⟩:=hl
    obtain⟨WH,m,P,f⟩:=ol
    simp only at C D
    subst C;subst D
    have G:(s.heap.push (jv w)).get? l=some {cls:= .type "list",dict:=m,data:= .seq a nl,slots:=f}:=bw _ B
    have Ws:=PySem.F.sub_list_set
    have Wr:=PySem.F.sub_list_frozenset
    have hne:(Value.type "list" ==Value.type "dict")=false:=by decide
    have H:(s.heap.push (jv w)).IsList l a:=⟨_,G,rfl,nl,rfl⟩
    unfold Builtin.«set.__init__» noKeywords Builtin.Frozenset.updateFrom
    generalize S:pyIter=PI
    wp_walk
    subst S
    refine p9 H ?_
    refine ah (wpAny_runValue ?_)
    have I:l<s.heap.objs.size:=aT B
    have T:A.in1.in1.in1.handled=none:=by simp[hh]
    have J:l≠(s.heap.push (jv w)).objs.size:=by
     rw[gi];exact bE (gX I)
    have U:s.heap.objs.size∉[(s.heap.push (jv w)).objs.size,l]:=by
     rw[gi];simp only[aY,bM,gf,gh,not_or]
     exact⟨bE (lY _),kY I⟩
    refine loop ((Walks.list T _ l J a).toS) s.heap.objs.size U val (λi v hv=>hi i v hv) K (a.size - 0) 0 _ #[] (by omega) (bG _)
     ⟨⟨_,cA _ rfl,rfl,rfl⟩,(H.push _)⟩ ?q8 (aF _) (λx=>⟨λz=>by simp[names] at z,λ⟨j,hj,_⟩=>absurd hj (Nat.not_lt_zero _)⟩) ?hR
    case q8=>exact fc.fresh (bw _ hS)
    case hR=>
     intro s' V M n p q
     obtain⟨h',g',d',W,X⟩:=s'
     have eg:g'=s.gens:=M.gens
     have ed:d'=s.drawn:=M.drawn
     have eo:X=s.os:=M.os
     subst eg;subst ed;subst eo
     show wpAny _ _ _ _ _ _
     refine aG ?_
     show wpAny _ _ (ret Value.none) _ _ _
     refine aG ⟨rfl,h',W,V,rfl,n,p,q,λb o K e=> ?_⟩
     have Y:b≠s.heap.objs.size:=bE K
     have Z:b≠(s.heap.push (jv w)).objs.size:=by
      rw[gi];exact bE (gX K)
     exact M.heap b o (by simp only[aY,bM,gf,gh,not_or];exact⟨Y,Z⟩) (bw _ (bw _ e))
   .cases y with
    |error e=>exact d
    |ok u=>
     cases u with
     |ret r=>
      obtain⟨rfl,h',L,es,rfl,n,p,q,hk'⟩:=d
      repeat (any_goals (first|assumption|wp_step))
      exact h _ _ es n p q hk'
     |_=>exact d.elim
  |_=>exact O.elim
end
theorem IE:Slot "set" "__iter__" "set.__iter__":=
 .of (owner:="set") (n:="__iter__") (by rw[nJ,nU];kernel_rfl) (by decide+kernel) (by decide+kernel) (by decide+kernel)
  (by first|exact .inl (by decide+kernel)|exact .inr (by decide+kernel)) (by rw[isSubtype_type];kernel_rfl)
theorem slot_next:Slot "set_iterator" "__next__" "set_iterator.__next__":=
 .of (owner:="set_iterator") (n:="__next__") (by rw[nJ,nU];kernel_rfl) (by decide+kernel) (by decide+kernel) (by decide+kernel)
  (by first|exact .inl (by decide+kernel)|exact .inr (by decide+kernel)) (by rw[isSubtype_type];kernel_rfl)
theorem IF:Slot "set_iterator" "__iter__" "set_iterator.__iter__":=
 .of (owner:="set_iterator") (n:="__iter__") (by rw[nJ,nU];kernel_rfl) (by decide+kernel) (by decide+kernel) (by decide+kernel)
  (by first|exact .inl (by decide+kernel)|exact .inr (by decide+kernel)) (by rw[isSubtype_type];kernel_rfl)
theorem Mk:entryFor table "set.__iter__"=some Builtin.«frozenset.__iter__»:=
 entryFor_alias (id':="frozenset.__iter__") (by kernel_rfl) (by first|rfl|decide+kernel) (by decide+kernel) (by kernel_rfl)
theorem entry_next:entryFor table "set_iterator.__next__"=some Builtin.«set_iterator.__next__»:=entryFor_of_fast (by kernel_rfl)
theorem Kg(a:Value):argsOk "set.__iter__" ⟨[a],[]⟩:=by unfold argsOk;kernel_rfl
theorem args_next(a:Value):argsOk "set_iterator.__next__" ⟨[a],[]⟩:=by unfold argsOk;kernel_rfl
theorem VZ{M:Model}{A:Around}{E:aQ}{s:Shared}{src:Source}{n:Nat}{Q:Nat->Shared->Prop}(a:n≠0)(h:∀i d,i<n->Q i {s with drawn:=d}):wpAny M A (choose src n) Q E s:=λb p _=>by
 unfold choose;rw[Sem.wp_choose];exact⟨a,h _ _ (Nat.mod_lt _ (Nat.pos_of_ne_zero a))⟩
theorem vW{α:Type}:∀(xs:List α) (i:Nat) (x:α),xs[i]?=some x->xs.Perm (x::xs.eraseIdx i)
 |[],i,x,h=>by simp at h
 |y::r,0,x,h=>by
  simp at h;subst h;simp
 |y::r,i+1,x,h=>by
  simp only[AX] at h;have:=vW r i x h;simp only[List.eraseIdx_cons_succ];exact(this.cons y).trans (Perm.swap x y _)
section
variable{M:Model}{A:Around}{E:aQ}{s:Shared}
theorem Dw{α:Type}:∀(n:Nat) (xs:List α) (s:Shared) (Q:List α->Shared->Prop),n=xs.length->(∀ys d,ys.Perm xs->Q ys {s with drawn:=d})->wpAny M A (drawOrder n xs) Q E s
 |0,xs,s,Q,a,h=>by
  cases xs with
  |nil=>unfold drawOrder;exact aG (h [] s.drawn .nil)
  |cons x r=>simp at a
 |n+1,[],s,Q,a,h=>by simp at a
 |n+1,x::r,s,Q,a,h=>by
  unfold drawOrder;refine ah (VZ (by simp) λi d hi=>?_);have e:(x::r)[i]?=some ((x::r)[i]'hi):=br hi;rw[e];dsimp only;have b:=vW (x::r) i _ e;refine ah (Dw n _ _ _ ?_ λys d' c=>aG ?_)
  .have:=b.length_eq
   simp only[gC] at this a ⊢;omega
  .exact h _ d' ((c.cons _).trans b.symm)
end
theorem F7{α:Type}(next:Nat->Nat):∀(fuel k:Nat) (left:List α) (out:Array α),fuel=left.length->(pickOrder.go next fuel k left out).toList.Perm (out.toList++left)
 |0,k,left,out,h=>by
  cases left with
  |nil=>unfold pickOrder.go;simp
  |cons x r=>simp at h
 |fuel+1,k,[],out,h=>by simp at h
 |fuel+1,k,x::r,out,h=>by
  unfold pickOrder.go;have hi:next k%(x::r).length<(x::r).length:=Nat.mod_lt _ (by simp);have e:(x::r)[next k%(x::r).length]?=some ((x::r)[next k%(x::r).length]'hi):=br hi;rw[e];dsimp only;have a:=vW (x::r) _ _ e;refine(F7 next fuel (k+1) _ _ ?_).trans ?_
  .have:=a.length_eq
   simp only[gC] at this h ⊢;omega
  .rw[Array.toList_push,append_assoc]
   exact Perm.append_left _ a.symm
theorem Sb{α:Type}(next:Nat->Nat)(xs:Array α):(pickOrder next xs).toList.Perm xs.toList:=by
 unfold pickOrder;exact(F7 next xs.size 0 xs.toList #[] (by simp)).trans (by simp)
def fU(h:Heap)(it a:Addr)(first:Value)(i n ep:Nat):Prop:=∃o,h.get? it=some o/\o.cls=.type "set_iterator"/\o.data=.fields #[first,.int i 0,.ref a,.int n 0,.int ep 0]
def iY(h:Heap)(a:Addr)(es:Array (Int×Value))(ep:Nat)(t:SetTable):Prop:=∃o,h.get? a=some o/\o.data=.set es ep t/\t.fits es.size=true
section
variable{prog:Program}{w:World}{A:Around}{E:aQ}{s:Shared}{it a:Addr}{es:Array (Int×Value)}{ep:Nat}{t:SetTable}
theorem fU.typeIs{first:Value}{i n:Nat}(h:fU s.heap it a first i n ep):s.TypeIs (.ref it) "set_iterator":=by
 obtain⟨o,h1,h2,_⟩:=h;exact⟨o,h1,h2⟩
theorem fU.put{first v:Value}{i n k:Nat}{h:Heap}(x:fU h it a first i n ep)(o:Obj)(b:h.get? it=some o):(h.update it (Obj.mapFields (·.setIfInBounds k v))).get? it=some (o.mapFields (·.setIfInBounds k v)):=by
 obtain⟨o',h1,h2,c⟩:=x;rw[h1] at b;cases b;exact ki _ h1 (Bb (k_ c _))
theorem FA{slot:Int}{i:Nat}{x:Value}{nx:Nat}{Q:Option Value->Shared->Prop}(hi:fU s.heap it a (.int slot 0) i es.size ep)(f:iY s.heap a es ep t)
  (g:∀(A:Around) (Q:Option (Value×Nat)->Shared->Prop) (E:aQ),Q (some (x,nx)) s->wpAny (model prog w) A (setNext a slot.toNat i ep) Q E s)
  (h:∀h',fU h' it a (.int nx 0) (i+1) es.size ep->SameBut it s.heap h'->Q (some x) {s with heap:=h'}):wpAny (model prog w) A (pyNext (.ref it)) Q E s:=by
 obtain⟨o,c,hc,hd⟩:=id hi
 obtain⟨os,d,e,j⟩:=f
 unfold pyNext
 refine ah (p7 (p8 (name:=Str.ofString "__next__") hi.typeIs slot_next (jE slot_next hi.typeIs entry_next ?_ (args_next _))))
 show wpAny _ _ (fieldsOf (.ref it)>>=_) _ _ s
 refine ah (w9 c hd ?_)
 show wpAny _ _ (setEntries a>>=_) _ _ s
 refine ah (s9 d e j ?_)
 simp only[mw,jh,gm]
 refine ah (g _ _ _ ?_)
 dsimp only
 refine ah (p_ c hd (by simp) ?_)
 have b:=hi.put (k:=0) (v:=rawInt nx) o c
 refine ah (p_ b (k_ hd _) (by simp) (aG ⟨x,rfl,aG (h _ ?_ ((SameBut.update ..).trans (SameBut.update ..)))⟩))
 refine⟨_,ki _ b (Bb (k_ (k_ hd _) _)),(Obj.cls_mapFields ..).trans ((Obj.cls_mapFields ..).trans hc),?_⟩
 rw[k_ (k_ hd _)]
 simp[rawInt]
end
theorem Ml:entryFor table "set_iterator.__iter__"=some Builtin.«dict_keyiterator.__iter__»:=
 entryFor_alias (id':="dict_keyiterator.__iter__") (by kernel_rfl) (by first|rfl|decide+kernel) (by decide+kernel) (by kernel_rfl)
theorem Kh(a:Value):argsOk "set_iterator.__iter__" ⟨[a],[]⟩:=by unfold argsOk;kernel_rfl
section
variable{prog:Program}{w:World}{A:Around}{E:aQ}{s:Shared}{it a:Addr}{es:Array (Int×Value)}{ep:Nat}{t:SetTable}
theorem zq{first:Value}{i n:Nat}{Q:aQ}(hi:fU s.heap it a first i n ep)(h:Q (.ref it) s):wpAny (model prog w) A (pyIter (.ref it)) Q E s:=by
 refine wpAny_pyIter_slot hi.typeIs IF (jE IF hi.typeIs Ml ?_ (Kh _));show wpAny _ _ (ret (.ref it)) _ _ s;exact aG ⟨_,rfl,"set_iterator",_,hi.typeIs,slot_next.lookup,h⟩
theorem DG{slot:Int}{i:Nat}{Q:Option Value->Shared->Prop}(f:A.handled=none)(hi:fU s.heap it a (.int slot 0) i es.size ep)(g:iY s.heap a es ep t)
  (h:∀(A:Around) (Q:Option (Value×Nat)->Shared->Prop) (E:aQ),Q none s->wpAny (model prog w) A (setNext a slot.toNat i ep) Q E s)
  (j:∀h',ExtBut it s.heap h'->Q none {s with heap:=h'}):wpAny (model prog w) A (pyNext (.ref it)) Q E s:=by
 obtain⟨o,e,hc,hd⟩:=id hi
 obtain⟨os,c,d,k⟩:=g
 unfold pyNext
 refine ah (p7 (p8 (name:=Str.ofString "__next__") hi.typeIs slot_next (jE slot_next hi.typeIs entry_next ?_ (args_next _))))
 show wpAny _ _ (fieldsOf (.ref it)>>=_) _ _ s
 refine ah (w9 e hd ?_)
 show wpAny _ _ (setEntries a>>=_) _ _ s
 refine ah (s9 c d k ?_)
 simp only[mw,jh,gm]
 refine ah (h _ _ _ ?_)
 dsimp only
 refine ah (p_ e hd (by simp) ?_)
 show wpAny _ _ (newExc (.type "StopIteration") []>>=_) _ _ _
 refine ah ?_
 simp only[newExc,newTuple]
 refine ah (jf ?_ (by size_fits))
 refine ah (m:=firstArgMember _ _) (wpAny_of_eq (a:=Value.none) (by first|rfl|(simp only[firstArgMember];rfl)) ?_)
 refine jf ?_ (by size_fits)
 simp only[raiseNew]
 refine ah (wpAny_handled ?_)
 rw[show A.in1.handled=none from f]
 refine ah (aG (wpAny_throw ?_))
 refine ah (w_ (T:="StopIteration") (b:=true) ⟨_,cA _ rfl,rfl⟩ isSubtype_stop ?_)
 exact aG (j _ (((SameBut.update ..).extBut.push _).push _))
theorem QG{d:Addr}{ps:List Nat}{i p:Nat}{h0:Int}{x:Value}{Q:Option Value->Shared->Prop}(hi:fU s.heap it a (.ref d) i es.size ep)(k:iY s.heap a es ep t)
  (l:∃o n,s.heap.get? d=some o/\o.data= .seq ((ps.map λ(i:Nat)=>rawInt i).toArray) n)(m:ps[i]? =some p)(q:es[p]? =some (h0,x))
  (r:∀h',fU h' it a (.ref d) (i+1) es.size ep->SameBut it s.heap h'->Q (some x) {s with heap:=h'}):wpAny (model prog w) A (pyNext (.ref it)) Q E s:=by
 obtain⟨o,f,hc,hd⟩:=id hi
 obtain⟨os,b,c,j⟩:=k
 obtain⟨u,v,g,h⟩:=l
 unfold pyNext
 refine ah (p7 (p8 (name:=Str.ofString "__next__") hi.typeIs slot_next (jE slot_next hi.typeIs entry_next ?_ (args_next _))))
 show wpAny _ _ (fieldsOf (.ref it)>>=_) _ _ s
 refine ah (w9 f hd ?_)
 show wpAny _ _ (setEntries a>>=_) _ _ s
 refine ah (s9 b c j ?_)
 simp only[mw,jh,gm]
 refine ah (s8 g h ?_)
 have e:((ps.map λ(i:Nat)=>rawInt i).toArray)[((i:Int)).toNat]? =some (Value.int (p:Int) 0):=by
  simp[m,rawInt]
 dsimp only
 rw[e]
 dsimp only
 refine ah ?_
 unfold setNextDrawn
 refine ah (qa b c j ?_)
 dsimp only
 simp only[p6,mw,jh,gm]
 rw[q]
 refine aG ?_
 refine ah (p_ f hd (by simp) (aG ⟨x,rfl,aG (r _ ?_ (SameBut.update ..))⟩))
 refine⟨_,ki _ f (Bb (k_ hd _)),(Obj.cls_mapFields ..).trans hc,?_⟩
 rw[k_ hd]
 simp[rawInt]
theorem Mi{l:Addr}{ps:List Nat}{i:Nat}{Q:Option Value->Shared->Prop}(p:A.handled=none)(hi:fU s.heap it a (.ref l) i es.size ep)(q:iY s.heap a es ep t)
  (r:∃o n,s.heap.get? l=some o/\o.data= .seq ((ps.map λ(i:Nat)=>rawInt i).toArray) n)(u:ps[i]? =none)
  (x:∀h',ExtBut it s.heap h'->Q none {s with heap:=h'}):wpAny (model prog w) A (pyNext (.ref it)) Q E s:=by
 obtain⟨o,c,hc,hd⟩:=id hi
 obtain⟨os,d,f,y⟩:=q
 obtain⟨z,B,g,h⟩:=r
 unfold pyNext
 refine ah (p7 (p8 (name:=Str.ofString "__next__") hi.typeIs slot_next (jE slot_next hi.typeIs entry_next ?_ (args_next _))))
 show wpAny _ _ (fieldsOf (.ref it)>>=_) _ _ s
 refine ah (w9 c hd ?_)
 show wpAny _ _ (setEntries a>>=_) _ _ s
 refine ah (s9 d f y ?_)
 simp only[mw,jh,gm]
 refine ah (s8 g h ?_)
 have e:((ps.map λ(i:Nat)=>rawInt i).toArray)[((i:Int)).toNat]? =none:=by
  simp only[p6,List.getElem?_toArray,bW,u,Option.map_none]
 dsimp only
 rw[e]
 dsimp only
 refine ah (p_ c hd (by simp) ?_)
 have j:=hi.put (k:=0) (v:=rawInt 0) o c
 refine ah (p_ j (k_ hd _) (by simp) ?_)
 show wpAny _ _ (newExc (.type "StopIteration") []>>=_) _ _ _
 refine ah ?_
 simp only[newExc,newTuple]
 refine ah (jf ?_ (by size_fits))
 refine ah (m:=firstArgMember _ _) (wpAny_of_eq (a:=Value.none) (by first|rfl|(simp only[firstArgMember];rfl)) ?_)
 refine jf ?_ (by size_fits)
 simp only[raiseNew]
 refine ah (wpAny_handled ?_)
 rw[show A.in1.handled=none from p]
 refine ah (aG (wpAny_throw ?_))
 refine ah (w_ (T:="StopIteration") (b:=true) ⟨_,cA _ rfl,rfl⟩ isSubtype_stop ?_)
 exact aG (x _ ((((SameBut.update ..).trans (SameBut.update ..)).extBut.push _).push _))
end
section
variable{prog:Program}{w:World}{A:Around}{E:aQ}{s:Shared}{it a:Addr}{es:Array (Int×Value)}{ep:Nat}{t:SetTable}
theorem ud{Q:Bool->Shared->Prop}(h:Q (w.params.followText "set-order") s):wpAny (model prog w) A setsByText Q E s:=by
 unfold setsByText;exact ah (wpAny_askSetting (aG h))
theorem iY.keep{h h':Heap}(x:iY h a es ep t)(k:∀o,h.get? a=some o->h'.get? a=some o):iY h' a es ep t:=by
 obtain⟨o,e,r⟩:=x;exact⟨o,k o e,r⟩
theorem fU.keep{h h':Heap}{first:Value}{i n:Nat}(x:fU h it a first i n ep)(k:∀o,h.get? it=some o->h'.get? it=some o):fU h' it a first i n ep:=by
 obtain⟨o,e,r⟩:=x;exact⟨o,k o e,r⟩
theorem nextT{slot i:Nat}{Q:Option (Value×Nat)->Shared->Prop}(d:w.params.followText "set-order"=true)(g:iY s.heap a es ep t)
  (h:Q (((pickOrder (w.params.setOrder a ep) es)[i]?).map λe=>(e.2,slot)) s):wpAny (model prog w) A (setNext a slot i ep) Q E s:=by
 obtain⟨os,b,c,f⟩:=g;unfold setNext;refine ah (qa b c f ?_);dsimp only;refine ah (ud ?_);rw[d,av rfl];simp only[mw,jh,gm];refine ah ?_;unfold setWalk;refine ah (qa b c f ?_);dsimp only;refine ah (ud ?_);rw[d,av rfl];exact ah (wpAny_askSetting (aG (aG h)))
theorem VY(p:w.params.followText "set-order"=true)(r:A.handled=none)(l:a≠it):
  Walks prog w A it [it,a] [it] ((pickOrder (w.params.setOrder a ep) es).toList.map (·.2)).length (λi v=>((pickOrder (w.params.setOrder a ep) es).toList.map (·.2))[i]? =some v) (λi h=>fU h it a (.int 0 0) i es.size ep/\iY h a es ep t) where
 sub:=λb d=>by simp at d;simp[d]
 frame:=λ_ _ _ st q=>⟨st.1.keep λo e=>q it (by simp) o e,st.2.keep λo e=>q a (by simp) o e⟩
 item:=λi s Q E hi st f=>by
  have c:i<(pickOrder (w.params.setOrder a ep) es).size:=by simpa using hi
  have k:(pickOrder (w.params.setOrder a ep) es)[i]? =some ((pickOrder (w.params.setOrder a ep) es)[i]'c):=gj c
  refine FA (slot:=0) (x:=((pickOrder (w.params.setOrder a ep) es)[i]'c).2) (nx:=0) st.1 st.2 (λA' u y m=>nextT p st.2 (by rw[k];exact m)) λh' g j=> ?_
  refine f _ h' s.toks ?_ ⟨g,st.2.keep λo e=>(j.2 a l).trans e⟩ λb o d e=>(j.2 b λz=>d (by simp[z])).trans e
  rw[bW,n9,k];rfl
 done:=λs Q E st f=>by
  have k:(pickOrder (w.params.setOrder a ep) es)[((pickOrder (w.params.setOrder a ep) es).toList.map (·.2)).length]? =none:=by simp
  exact DG (slot:=0) r st.1 st.2 (λA' u y m=>nextT p st.2 (by rw[k];exact m)) λh' n=>f h' s.toks λb o d e=>n b o (λz=>d (by simp[z])) e
 self:=λ_ _ _ _ st f=>zq st.1 f
theorem VW{g:Addr}{ps:List Nat}(D:A.handled=none)(m:a≠it)(q:g≠it)(u:ps.Perm (range es.size)):
  Walks prog w A it [it,a,g] [it] (ps.map λp=>((es[p]?).getD (0,.none)).2).length (λi v=>(ps.map λp=>((es[p]?).getD (0,.none)).2)[i]? =some v)
   (λi h=>fU h it a (.ref g) i es.size ep/\iY h a es ep t/\∃o n,h.get? g=some o/\o.data= .seq ((ps.map λ(i:Nat)=>rawInt i).toArray) n) where
 sub:=λb j=>by simp at j;simp[j]
 frame:=λ_ _ _ st x=>⟨st.1.keep λo e=>x it (by simp) o e,st.2.1.keep λo e=>x a (by simp) o e,by obtain⟨o,n,e,r⟩:=st.2.2;exact⟨o,n,x g (by simp) o e,r⟩⟩
 item:=λi s Q E hi st k=>by
  have c:i<ps.length:=by simpa using hi
  have B:ps[i]? =some (ps[i]'c):=br c
  have d:(ps[i]'c)<es.size:=mem_range.mp (u.mem_iff.mp (lz c))
  have C:es[ps[i]'c]? =some ((es[ps[i]'c]'d).1,(es[ps[i]'c]'d).2):=gj d
  refine QG st.1 st.2.1 st.2.2 B C λh' l f=> ?_
  refine k _ h' s.toks ?_ ⟨l,st.2.1.keep λo e=>(f.2 a m).trans e,by obtain⟨o,n,e,r⟩:=st.2.2;exact⟨o,n,(f.2 g q).trans e,r⟩⟩ λb o j e=>(f.2 b λz=>j (by simp[z])).trans e
  rw[bW,B]
  simp only[map_some,C,getD_some]
 done:=λs Q E st k=>by
  exact Mi D st.1 st.2.1 st.2.2 (by simp) λh' y=>k h' s.toks λb o j e=>y b o (λz=>j (by simp[z])) e
 self:=λ_ _ _ _ st k=>zq st.1 k
theorem Fz{slot i:Nat}{Q:Option (Value×Nat)->Shared->Prop}(d:w.params.followText "set-order"=false)(hl:t.led=true)(hz:es.size<=1)(e:iY s.heap a es ep t)
  (h:Q (match es[SetTable.below t.place slot]?,t.place[SetTable.below t.place slot]? with|some (_,x),some j=>some (x,j+1)|_,_=>none) s):wpAny (model prog w) A (setNext a slot i ep) Q E s:=by
 obtain⟨os,b,c,f⟩:=e;unfold setNext;refine ah (qa b c f ?_);dsimp only;refine ah (ud ?_);rw[d,ay (by decide)];show wpAny _ _ (if (!t.plain&&decide (es.size>1))=true then _ else _) _ _ _;rw[ay (by rw[d7 (Nat.not_lt.mpr hz),wQ];decide)];show wpAny _ _ ((if (!t.led&& !es.isEmpty)=true then _ else _)>>=_) _ _ _;rw[hl,ay (by simp)];exact ah (aG (aG h))
theorem Cp(xs:Array Nat)(h:xs.size<=1):SetTable.below xs 0=0:=by
 unfold SetTable.below;have:xs.size=0\/xs.size=1:=by omega
 rcases this with z|z
 .rw[z];rfl
 .rw[z]
  unfold SetTable.below.go;rw[av (by decide)];dsimp only;rw[ay (by omega)];rfl
theorem below_1(xs:Array Nat)(j:Nat)(h:xs.size=1)(a:xs[0]?=some j):SetTable.below xs (j+1)=1:=by
 unfold SetTable.below;rw[h];unfold SetTable.below.go;rw[av (by decide)];dsimp only;have e:xs.getD ((0+1)/2) (j+1)=j:=by
  show xs.getD 0 (j+1)=j;rw[mE,a];rfl
 rw[e,av (by omega)];rfl
theorem VX(y:w.params.followText "set-order"=false)(hl:t.led=true)(hz:es.size<=1)(n:t.fits es.size=true)(D:A.handled=none)(q:a≠it):
  Walks prog w A it [it,a] [it] (es.toList.map (·.2)).length (λi v=>(es.toList.map (·.2))[i]? =some v) (λi h=>fU h it a (.int (if i=0 then 0 else t.place.getD 0 0+1:Nat) 0) i es.size ep/\iY h a es ep t) where
 sub:=λb d=>by simp at d;simp[d]
 frame:=λ_ _ _ st B=>⟨st.1.keep λo e=>B it (by simp) o e,st.2.keep λo e=>B a (by simp) o e⟩
 item:=λi s Q E hi st f=>by
  have c:i<es.size:=by simpa using hi
  have h0:i=0:=by omega
  subst h0
  have F:t.place.size=es.size:=by simp only[SetTable.fits,dP,beq_iff_eq] at n;exact n.1
  have C:es[0]? =some (es[0]'c):=gj c
  have g:t.place[0]? =some (t.place[0]'(by omega)):=gj (by omega)
  have r:t.place.getD 0 0=t.place[0]'(by omega):=by rw[mE,g];rfl
  refine FA (slot:=((if (0:Nat)=0 then 0 else t.place.getD 0 0+1:Nat):Int)) (x:=(es[0]'c).2) (nx:=(t.place[0]'(by omega))+1) st.1 st.2 (λA' G H p=> ?_) λh' j k=> ?_
  .refine Fz y hl hz st.2 ?_
   simp only[mF,p6]
   rw[Cp _ (by omega),C,g]
   exact p
  .refine f _ h' s.toks ?_ ⟨?_,st.2.keep λo e=>(k.2 a q).trans e⟩ λb o d e=>(k.2 b λz=>d (by simp[z])).trans e
   .rw[bW,n9,C];rfl
   .rw[ay (by omega),r];exact j
 done:=λs Q E st f=>by
  have F:t.place.size=es.size:=by simp only[SetTable.fits,dP,beq_iff_eq] at n;exact n.1
  have l:(es.toList.map (·.2)).length=es.size:=by simp
  rw[l] at st
  refine DG D st.1 st.2 (λA' G H p=>Fz y hl hz st.2 ?_) λh' u=>f h' s.toks λb o d e=>u b o (λz=>d (by simp[z])) e
  simp only[p6]
  by_cases m:es.size=0
  .rw[av m,Cp _ (by omega),qg (by omega)]
   exact p
  .have g:t.place[0]? =some (t.place[0]'(by omega)):=gj (by omega)
   have r:t.place.getD 0 0=t.place[0]'(by omega):=by rw[mE,g];rfl
   rw[ay m,r,below_1 _ _ (by omega) g,qg (by omega)]
   exact p
 self:=λ_ _ _ _ st f=>zq st.1 f
end
section
variable{prog:Program}{w:World}{A:Around}{E:aQ}{s:Shared}{it a:Addr}{es:Array (Int×Value)}{ep:Nat}{t:SetTable}
theorem R3{ps:List Nat}(a:ps.Perm (range es.size)):(ps.map λp=>((es[p]?).getD (0,.none)).2).Perm (es.toList.map (·.2)):=by
 refine(a.map _).trans ?_;have:((range es.size).map λp=>((es[p]?).getD (0,.none)).2)=es.toList.map (·.2):=by
  apply qe;intro i;simp only[bW,n9];by_cases hi:i<es.size
  .rw[List.getElem?_range hi,gj hi]
   simp[gj hi]
  .rw[nZ (by simpa using hi),qg (by omega)];rfl
 rw[this]
theorem O7{Q:aQ}(B:fc prog w s.heap a es)
  (h:∀(h':Heap) (d:Drawn) (it:Addr) (zs:List Value) (fp:List Addr) (St:Nat->Heap->Prop),zs.Perm (es.toList.map (·.2))->(∀A':Around,A'.handled=none->Walks prog w A' it fp [it] zs.length (λi v=>zs[i]?=some v) St)->St 0 h'->
   it∈fp->(∀b∈fp,b=a\/s.heap.objs.size<=b)->(∀b∈fp,b<h'.objs.size)->s.heap.objs.size<=it->(∀b o,s.heap.get? b=some o->h'.get? b=some o)->Q (.ref it) {s with heap:=h',drawn:=d}):wpAny (model prog w) A (pyIter (.ref a)) Q E s:=by
 obtain⟨o,ep,t,f,hex,hd,C,D,F,g,k,x⟩:=B;have y:s.TypeIs (.ref a) "set":=⟨o,f,hex.1⟩;have alt:a<s.heap.objs.size:=aT f;refine wpAny_pyIter_slot y IE (jE IE y Mk ?_ (Kg _));show wpAny _ _ (Builtin.Frozenset.sizeOf a>>=_) _ _ s;unfold Builtin.Frozenset.sizeOf;refine ah (ah (s9 f hd g (aG ?_)));refine ah ?_;unfold setDrawn;refine ah (qa f hd g ?_);dsimp only;refine ah (ud (aG ?_));show wpAny _ _ (if (!w.params.followText "set-order"&&(!t.plain&&decide (es.size>1)))=true then _ else _) _ _ _;by_cases hc:(!w.params.followText "set-order"&&(!t.plain&&decide (es.size>1)))=true
 .rw[av hc]
  refine ah (Dw _ _ _ _ (by simp) λys d j=>?_);unfold newTuple;have hsz:sizeOk (.seq ((ys.map λ(i:Nat)=>rawInt i).toArray) 0):=by
   show((ys.map λ(i:Nat)=>rawInt i).toArray).size<=sizeLine;rw[b6,aP,j.length_eq,length_range];exact xw F
  refine ah (jf ?_ hsz);have l:=λb o (e:s.heap.get? b=some o)=>bw {cls:=.type "tuple",data:=.seq ((ys.map λ(i:Nat)=>rawInt i).toArray)} e;have m:=l a o f;refine ah (wpAny_setEpoch_of m hd g ?_);refine ah (jf (aG ⟨_,rfl,"set_iterator",_,⟨_,cA _ rfl,rfl⟩,slot_next.lookup,?_⟩) (by size_fits));have ne1:a≠(s.heap.push {cls:=.type "tuple",data:=.seq ((ys.map λ(i:Nat)=>rawInt i).toArray)}).objs.size:=by rw[gi];exact bE (gX alt)
  have ne2:s.heap.objs.size≠(s.heap.push {cls:=.type "tuple",data:=.seq ((ys.map λ(i:Nat)=>rawInt i).toArray)}).objs.size:=by rw[gi];exact bE (lY _)
  refine h _ d _ (ys.map λp=>((es[p]?).getD (0,.none)).2) [_,a,s.heap.objs.size] _ (R3 j) (λA' n=>VW (t:=t) (ep:=ep) n ne1 ne2 j) ⟨⟨_,cA _ rfl,rfl,rfl⟩,⟨o,bw _ m,hd,g⟩,⟨_,_,bw _ (cA _ rfl),rfl⟩⟩ (by simp) (λb c=>by
   simp only[aY,gf,gh] at c;rcases c with z|z|z
   .exact .inr (by rw[z,gi];exact lW _)
   .exact .inl z
   .exact .inr (by rw[z];exact aF _)) (λb c=>?_) (by rw[gi];exact lW _) λb o e=>bw _ (l b o e)
  rw[gi,gi];simp only[aY,gf,gh] at c;rcases c with z|z|z
  .rw[z,gi];exact lY _
  .rw[z];exact gX (gX alt)
  .rw[z];exact gX (lY _)
 .rw[ay hc]
  refine ah (aG ?_);refine ah (wpAny_setEpoch_of f hd g ?_);refine ah (jf (aG ⟨_,rfl,"set_iterator",_,⟨_,cA _ rfl,rfl⟩,slot_next.lookup,?_⟩) (by size_fits));have ne1:a≠s.heap.objs.size:=bE alt;have q:∀b∈[s.heap.objs.size,a],b<(s.heap.push {cls:=.type "set_iterator",data:=.fields [rawInt 0,rawInt 0,.ref a,rawInt (es.size:Nat),rawInt (ep:Nat)].toArray}).objs.size:=λb c=>by
   rw[gi];simp only[aY,gf,gh] at c;rcases c with z|z
   .rw[z];exact lY _
   .rw[z];exact gX alt
  have r:∀b∈[s.heap.objs.size,a],b=a\/s.heap.objs.size<=b:=λb c=>by
   simp only[aY,gf,gh] at c;rcases c with z|z
   .exact .inr (by rw[z];exact aF _)
   .exact .inl z
  cases u:w.params.followText "set-order" with
  |true=>
   exact h _ s.drawn _ ((pickOrder (w.params.setOrder a ep) es).toList.map (·.2)) [_,a] _ ((Sb _ es).map _) (λA' n=>VY (t:=t) u n ne1) ⟨⟨_,cA _ rfl,rfl,rfl⟩,⟨o,bw _ f,hd,g⟩⟩ (by simp) r q (aF _) λb o e=>bw _ e
  |false=>
   have hz:es.size<=1:=by
    rw[u] at hc;by_cases hz:es.size<=1
    .exact hz
    .rw[x (by omega),dg (by omega)] at hc
     exact absurd rfl hc
   have hl:t.led=true:=by rw[k,u];rfl
   exact h _ s.drawn _ (es.toList.map (·.2)) [_,a] _ (.refl _) (λA' n=>VX (t:=t) (ep:=ep) u hl hz g n ne1) ⟨⟨_,cA _ rfl,rfl,rfl⟩,⟨o,bw _ f,hd,g⟩⟩ (by simp) r q (aF _) λb o e=>bw _ e
end
section
variable{prog:Program}{w:World}{A:Around}{E:aQ}{s:Shared}{a:Addr}{es:Array (Int×Value)}
theorem K3{Q:List Value->Shared->Prop}(J:A.handled=none)(B:fc prog w s.heap a es)
  (N:∀(h':Heap) (d:Drawn) (O:Nat) (zs:List Value),zs.Perm (es.toList.map (·.2))->s.heap.objs.size<=h'.objs.size->(∀b o,s.heap.get? b=some o->h'.get? b=some o)->Q zs {s with heap:=h',drawn:=d,toks:=O}):
  wpAny (model prog w) A (collect (.ref a)) Q E s:=by
 have alt:a<s.heap.objs.size:=by obtain⟨o,_,_,C,_⟩:=B;exact aT C
 have hz:es.size<scanBound:=by obtain⟨_,_,_,_,_,_,_,_,f,_⟩:=B;exact f
 unfold collect;refine ah (wpAny_runValue (iU PySem.F.entry_proto_collect ?_));rw[jg PySem.F.plain_proto_collect _];show wpAny _ A.in1 (newList []>>=λl=>again (.builtin "list.__iadd__" ⟨[l,.ref a],[]⟩)) _ _ s;refine ah (jf ?_);refine aG ⟨jD wW _,iU PySem.F.entry_list_iadd ?_⟩;rw[jg wW _];have i:fc prog w (s.heap.push {cls:=.type "list",data:=.seq ([]:List Value).toArray}) a es:=B.keeps λo e=>bw _ e;have v:∀{s':Shared},fc prog w s'.heap a es->s'.TypeIs (.ref a) "set":=λ {s'} x=>by obtain⟨o,_,_,C,hex,_⟩:=x;exact⟨o,C,hex.1⟩
 show wpAny _ A.in1 (Builtin.List.listExtendWith (.ref s.heap.objs.size) (.ref a) (.ref s.heap.objs.size)) _ _ _;unfold Builtin.List.listExtendWith;refine ah (nL (v (s':={s with heap:=s.heap.push {cls:=.type "list",data:=.seq ([]:List Value).toArray}}) i) ?_);have h1:Builtin.List.listSameRef (.ref s.heap.objs.size) (.ref a)=false:=by simp[Builtin.List.listSameRef,kY alt]
 have h2:(Value.type "set" ==Value.type "list")=false:=by decide
 have P:(Value.type "set" ==Value.type "tuple")=false:=by decide
 simp only[h1,h2,P,Bool.or_false,jh,gm];refine ah (O7 (s:={s with heap:=s.heap.push {cls:=.type "list",data:=.seq ([]:List Value).toArray}}) i λh2 d it zs fp St m W D hit G R n k2=>?_);have k:fc prog w h2 a es:=i.keeps λo e=>k2 _ _ e;refine ah (gZ ?_);unfold Builtin.List.listLengthHint;refine ah (wpAny_specialOf (v (s':={s with heap:=h2,drawn:=d}) k) PySem.F.slot_set_len.lookup ?_);dsimp only;have g:splitId "set.__len__"=some ("set","__len__"):=by decide+kernel
 rw[g];dsimp only;refine ah (w_ (v (s':={s with heap:=h2,drawn:=d}) k) sub_set_self ?_);simp only[Bool.not_true,jh,gm];rw[av (by decide+kernel)];refine ah (nL (v (s':={s with heap:=h2,drawn:=d}) k) ?_);refine aG ?_;rw[av (by decide+kernel)];refine ah (k8 ?_);have S:(s.heap.push {cls:=.type "list",data:=.seq ([]:List Value).toArray}).get? s.heap.objs.size=some {cls:=.type "list",data:=.seq ([]:List Value).toArray}:=cA _ rfl;have K:=k2 _ _ S;have p:s.heap.objs.size∉fp:=λz=>by
  rcases G _ z with e|e
  .exact absurd alt (by rw[<-e];exact fS _)
  .rw[gi] at e
   exact absurd e (Nat.not_succ_le_self _)
 have q:s.heap.objs.size<it:=by rw[gi] at n;exact n
 refine ah ?_;show wpAny _ A.in1 (updateSeq s.heap.objs.size (·.push .none)>>=λ_=>updateSeq s.heap.objs.size (·.pop)) _ _ _;refine ah (s_ K rfl ?_);have L2:=ki (Obj.mapSeq (·.push Value.none)) K rfl;refine s_ L2 rfl ?_;have T:=ki (Obj.mapSeq (·.pop)) L2 rfl;have r:∀b o,b≠s.heap.objs.size->h2.get? b=some o->((h2.update s.heap.objs.size (Obj.mapSeq (·.push Value.none))).update s.heap.objs.size (Obj.mapSeq (·.pop))).get? b=some o:=
  λb o f e=>(qh _ _ (Ne.symm f)).trans ((qh _ _ (Ne.symm f)).trans e)
 have U:=(W A.in1 J).toS;have V:zs.length<=sizeLine:=by rw[m.length_eq,aP,gW];exact xw hz
 refine aG ⟨jD sW _,codeAny_extend_loopS U V _ p _ zs.length 0 _ _ _ rfl (bG _) ((W A.in1 J).frame 0 _ _ D λb f o e=>r b o (λz=>p (z▸f)) e) T (ItemsOf.nil _) λs' c c' y t h=>?_⟩;show wpAny _ A (load s.heap.objs.size>>=_) _ _ s';refine ah (wpAny_load t ?_);have u:c.toList=zs:=by
  apply qe;intro j;rw[n9];by_cases L:j<c.size
  .have M:c[j]?=some (c[j]'L):=gj L
   rw[M];exact(h.2 j _ M).symm
  .rw[qg (by omega),nZ (by rw[<-h.1];omega)]
 obtain⟨h',g',d',H,I⟩:=s';have X:g'=s.gens:=y.gens;have Y:d'=d:=y.drawn;have Z:I=s.os:=y.os;subst X;subst Y;subst Z;refine aG ?_;show Q c.toList _;rw[u];have kp:∀b o,s.heap.get? b=some o->h'.get? b=some o:=λb o e=>by
  have f:b<s.heap.objs.size:=aT e;refine y.heap b o ?_ (r b o (bE f) (k2 _ _ (bw _ e)));simp only[aY,gf,gh,not_or];exact⟨bE f,bE (lt_trans f q)⟩
 exact N h' d' H zs m (jB (aT t)) kp
theorem U3{l:List (Int×Value)}(h:ElemsOf (PySem.strKind prog w) l):∀{zs:List Value},zs.Perm (l.map (·.2))->StrsAre zs (zs.map strOf):=λ {zs} a=>by
 have:∀v∈zs,∃t,v=Value.str (strOf v) t:=λv b=>by
  obtain⟨e,c,rfl⟩:=aX.mp (a.mem_iff.mp b);exact yN h c
 clear a;induction zs with
 |nil=>exact .nil
 |cons v r d=>
  obtain⟨t,e⟩:=this v (by simp);have r':=d λf h'=>this f (by simp[h']);rw[cg];rw[e];exact .cons _ t r'
theorem UO{Q:aQ}(x:A.handled=none)(t:fc prog w s.heap a es)(n:es.size<64)
  (h:∀(h':Heap) (d:Drawn) (k:Nat) (l:Addr) (e:Nat) (out:List Value) (ss:List Str),s.heap.objs.size<=l->h'.get? l=some (seqObj "list" out.toArray e)->StrsAre out ss->ss.Perm (names es)->sortedS ss=true->
   (∀b o,s.heap.get? b=some o->h'.get? b=some o)->Q (.ref l) {s with heap:=h',drawn:=d,toks:=k}):
  wpAny (model prog w) A (call (.builtin "sorted") [.ref a]) Q E s:=by
 have c:ElemsOf (PySem.strKind prog w) es.toList:=by obtain⟨_,_,_,_,_,_,c,_⟩:=t;exact c
 refine AN kind_sorted plain_sorted entry_sorted (args_sorted1 _) ?_;unfold Builtin.«sorted»;refine ah (m:=checkCount "sorted" 1 1 _) (aG ?_);refine ah (K3 x t λh1 d k zs hz hsz k1=>?_);have f:StrsAre zs (zs.map strOf):=U3 c hz;have i:zs.length<64:=by rw[hz.length_eq,aP,gW];exact n
 refine ah (xh ?_);have g:(h1.push (seqObj "list" zs.toArray 0)).get? h1.objs.size=some (seqObj "list" zs.toArray 0):=cA _ rfl;show wpAny _ _ _ _ _ {s with heap:=h1.push (seqObj "list" zs.toArray 0),drawn:=d,toks:=k};refine ah (gZ (jE slot_list_sort ⟨_,g,rfl⟩ entry_list_sort (list_sort_treeK strKind_oneLt g f.keysOf (λu v rest e=>keyKind_strs (by rw[<-e];exact f)) i λj a1 a2=>⟨_,rfl,?_⟩) (args_list_sort _)));obtain⟨p,y,z,B⟩:=sorted_out_str f a1 a2;obtain⟨e,C⟩:=sortedHeap_at (out:=(arrOf j).map (·.2)) g;refine aG ⟨_,rfl,h _ d k h1.objs.size e ((arrOf j).map (·.2)).toList p hsz (by rw[toArray_toList];exact C) y (z.trans ?_) B λb o q=>?_⟩
 .have:=hz.map strOf
  rw[bR] at this;exact this
 .have r:=k1 b o q
  rw[sortedHeap_old (bE (aT r)) (by rw[size_push'];exact gX (aT r))];exact bw _ r
end
end SS
namespace L2
section
variable{X:Cx}
theorem U0{xs:List Str}{its:List Value}(r:Vals (xs.map V.str) its):∀(i:Nat) (v:Value),its.toArray[i]?=some v->∃t:Tok,v=Value.str (xs.getD i ⟨#[]⟩) t:=λi v h=>by
 have h':its[i]?=some v:=by simpa using h
 have hl:=r.length;have hi:i<its.length:=(b8.mp h').1;have b:(xs.map V.str)[i]?=some (V.str (xs.getD i ⟨#[]⟩)):=by
  rw[bW,gk];have:i<xs.length:=by rw[<-hl,aP] at hi;exact hi
  rw[br this];rfl
 obtain⟨u,a,c⟩:=r.get b;rw[h'] at a;cases a;exact c
def strLt(a b:Str):Prop:=a.cps.toList<b.cps.toList
theorem GR:∀(p:Str) (l:List Str),risingS p l=true->(p::l).Pairwise (λa b=>¬b.cps.toList<a.cps.toList)
 |p,[],_=>List.pairwise_singleton _ _
 |p,x::r,h=>by
  simp only[risingS,dP,sV,ltCps_eq,Bd] at h;have c:=GR x r h.2;refine jC.mpr ⟨λy d=>?_,c⟩;rcases aY.mp d with e|e
  .rw[e];exact h.1
  .have:=(jC.mp c).1 y e
   exact λz=>(not_lt.mp this)|>λq=>absurd z (not_lt.mpr (List.le_trans (not_lt.mp h.1) q))
theorem II{l:List Str}(h:sortedS l=true):l.Pairwise (λa b=>¬b.cps.toList<a.cps.toList):=by
 cases l with
 |nil=>exact .nil
 |cons x r=>exact GR x r h
theorem IS{l:List Str}(h:l.Pairwise (λa b=>¬b.cps.toList<a.cps.toList))(nd:l.Nodup):l.Pairwise strLt:=by
 refine(h.and nd).imp λ {a b} q=>?_;by_cases z:a.cps.toList<b.cps.toList
 .exact z
 .have e:a.cps.toList=b.cps.toList:=List.le_antisymm (not_lt.mp q.1) (not_lt.mp z)
  refine absurd ?_ q.2;obtain⟨⟨c⟩⟩:=a;obtain⟨⟨d⟩⟩:=b;have f:c=d:=e;rw[f]
def Vp(K:Frag)(ta:TA):TE:=λσ H Q=>ta σ H λvs H1=>∃(a:Addr) (xs:List Str),vs=[.ref a]/\aR K H1 a (xs.map V.str)/\xs.length<64/\
 ∀(l:Addr) (ys:List Str),H1 l=none->ys.Pairwise strLt->(∀x,x∈ys↔x∈xs)->Q (.ref l) (upd H1 l (.lst (ys.map V.str)))
theorem AL:∀{out:List Value} {ss:List Str},StrsAre out ss->Vals (ss.map V.str) out
 |_,_,.nil=>.nil
 |_,_,.cons x t h=>.cons ⟨t,rfl⟩ (AL h)
theorem RX{e:Expr}{ta:TA}{U p2 w f:Pos}(F:X.mg "sorted"=none)(G:X.mg "set"=none)(hc:X.calm=true)(W:PA X [e] ta)(J:Gl X "sorted":=by rfl)(L:Gl X "set":=by rfl)
  (Y:starEach [e] X.env=[(false,eval e X.env)]:=by rfl)(hz:starEach [.Call (.Name "set" p2) [e] [] f] X.env=[(false,eval (.Call (.Name "set" p2) [e] [] f) X.env)]:=by rfl):
  PE X (.Call (.Name "sorted" U) [.Call (.Name "set" p2) [e] [] f] [] w) (Vp X.K ta):=by
 intro pins s σ H Q I h;refine mj (jV I J F (show bootBuiltins "sorted"=some (.builtin "sorted") by with_unfolding_all rfl) ?_);refine PyProof.Rows.callWith_builtin1 ?_ hz rfl;rw[hz];refine wY (mj (jV I L G (show bootBuiltins "set"=some (.type "set") by with_unfolding_all rfl) (nG (aK (W f pins s σ H _ I h) λus y ⟨vs,H1,m,Z,q1⟩=>?_) Y rfl)));obtain⟨a,xs,e,hq,h64,q⟩:=q1;subst e;obtain⟨u,rfl,ru⟩:=vals1 Z;cases ru;obtain⟨its,R,pl,Wu⟩:=m.list hq;have hl:=R.length;have hsz:its.toArray.size=xs.length:=by rw[b6,<-hl,aP]
 refine SS.KJ (val:=λi=>xs.getD i ⟨#[]⟩) (m.ok.hd hc) pl.isList (λi v hv=>U0 R i v hv) (by rw[hsz,show scanBound=4096 from rfl];omega) λh2 tk es M S A k2=>?_;have k:es.size<64:=by omega
 have g:∀b o,y.heap.get? b=some o->h2.get? b=some o:=λb o e=>k2 b o (aT e) e;refine Calls.spliced_nil ?_;refine SS.UO (s:={y with heap:=h2,toks:=tk}) (m.ok.hd hc) M k λT d B l ep out ss p N O c r k3=>?_;have alt:y.heap.objs.size<h2.objs.size:=by obtain⟨o,_,_,ho,_⟩:=M;exact aT ho
 have E:H1 l=none:=m.hok.fresh (cR (jB alt) p);have nd:ss.Nodup:=c.nodup_iff.mpr (by obtain⟨_,_,_,_,_,_,_,P,_⟩:=M;exact P);have t:∀x,x∈ss↔x∈xs:=λx=>by
  rw[c.mem_iff,A x,hsz];constructor
  .rintro ⟨j,C,rfl⟩
   rw[gk,br C];exact lz C
  .intro hx
   obtain⟨j,C,e⟩:=qi hx;exact⟨j,C,by rw[gk,br C];exact e⟩
 have D:ss.length=es.size:=by rw[c.length_eq,aP,gW]
 have I2:Inv X pins σ (upd H1 l (.lst (ss.map V.str))) {y with heap:=T,drawn:=d,toks:=B}:=by
  refine m.call (ch:=[]) (g':=y.gens) (d':=d) (t':=B) (h':=T) (H':=upd H1 l (.lst (ss.map V.str))) ⟨λb o q _ _ _=>k3 b o (g b o q),λb o q _ _ _=>⟨o.slots,k3 b o (g b o q)⟩,λb o q n _=>?_,λb o q _=>⟨o,k3 b o (g b o q)⟩,λb xs q=>?_,λb o u q=>?_,λb ps q=>⟨#[],?_⟩⟩ ?_ m.bare λb z=>absurd z (by simp)
  .rw[aW (bE (cJ (aT q) (cR (jB alt) p)))];exact n
  .rw[aW (dB q E)];exact q
  .rw[aW (dB q E)];exact q
  .rw[aW (dB q E),q];simp
  .exact m.hok.laid (λb u q=>k3 b u (g b u q)) (cR (jB alt) p) ⟨by rw[aP,D];exact jB (cJ k (by decide)),out,ep,AL O,N⟩
 exact⟨.ref l,_,I2,rfl,q l ss E (IS (II r) nd) t⟩
end
theorem z5(ns:List Int):∀k,k<=ns.length->preSum (λi=>ns.getD i 0) k=(ns.take k).sum
 |0,_=>by simp[preSum]
 |k+1,h=>by
  have e:preSum (λi=>ns.getD i 0) (k+1)=preSum (λi=>ns.getD i 0) k+ns.getD k 0:=by
   first|rfl|(unfold preSum;simp[range_succ])
  rw[e,z5 ns k (by omega),List.take_add_one,br (by omega),List.sum_append,gk,br (by omega)];simp
theorem IW:∀(ns:List Int) (b:Int),(∀n∈ns,0<=n/\n<=b)->0<=ns.sum/\ns.sum<=b*ns.length
 |[],b,_=>by simp
 |x::r,b,h=>by
  obtain⟨h1,h2⟩:=h x (by simp);obtain⟨c,d⟩:=IW r b λn a=>h n (by simp[a]);rw[List.sum_cons,gC];refine⟨by omega,?_⟩;have:b*((r.length+1:Nat):Int)=b*(r.length:Int)+b:=by rw[Int.natCast_add,Int.mul_add];simp
  rw[this];omega
section
variable{X:Cx}
theorem KN(hc:X.calm=true):eF X (.builtin "sum") (λxs H Q=>∃(p:Addr) (ns:List Int),xs=[.ref p]/\aR X.K H p (ns.map V.int)/\(∀n∈ns,0<=n/\n<=2 ^ 40)/\ns.length<=1000/\Q (.int ns.sum) H):=by
 intro pins s σ H xs G Q I r h;obtain⟨p,ns,rfl,y,o,hl,q⟩:=h;obtain⟨u,rfl,l⟩:=vals1 r;cases l;obtain⟨vs,t,pl,hz⟩:=I.list y;have a:vs.length=ns.length:=by rw[<-t.length,aP]
 have c:=pl.isList;have d:p<s.heap.objs.size:=by obtain⟨_,e,_⟩:=c;exact aT e
 have small:∀k,k<=ns.length->InLong (preSum (λi=>ns.getD i 0) k):=λk m=>by
  rw[z5 ns k m];obtain⟨h1,h2⟩:=IW (ns.take k) (2 ^ 40) λn B=>o n (pW B);have C:((ns.take k).length:Int)<=1000:=by rw[lX];omega
  have J:(2 ^ 40:Int)*((ns.take k).length:Int)<=2 ^ 40*1000:=nM C (by decide);unfold InLong;first|(constructor<;>omega)|omega
 refine call_sum_walk (p9 c ?_);refine⟨s.heap.objs.size,[s.heap.objs.size,p],[s.heap.objs.size],vs.toArray.size,_,_,λi=>ns.getD i 0,rfl,Walks.list (A:=X.A.in1) (I.ok.hd hc) _ p (bE d) vs.toArray,
  ⟨⟨_,cA _ rfl,rfl,rfl⟩,c.push _⟩,λb f=>?_,λi v D=>?_,λj w=>⟨?_,small (j+1) (by simp at w;omega)⟩,λh' E t' m=>?_⟩
 .rw[gi]
  simp only[aY,gf,gh] at f;rcases f with z|z
  .rw[z];exact lY _
  .rw[z];exact gX d
 .have h':vs[i]?=some v:=by simpa using D
  have hi:i<ns.length:=by rw[<-a];exact(b8.mp h').1
  have F:(ns.map V.int)[i]?=some (V.int (ns.getD i 0)):=by
   rw[bW,gk,br hi];rfl
  obtain⟨u,x,l⟩:=t.get F;rw[h'] at x;cases x;exact l
 .have g:j<ns.length:=by simp at w;omega
  obtain⟨h1,h2⟩:=o (ns.getD j 0) (by rw[gk,br g];exact lz g);show InLong (ns.getD j 0);unfold InLong;first|(constructor<;>omega)|omega
 .have e:preSum (λi=>ns.getD i 0) vs.toArray.size=ns.sum:=by
   rw[b6,a,z5 ns _ (aF _),take_length]
  rw[e];exact⟨.int _,H,I.kept (h':=h') (t':=E) (LSm.kept_iter m),⟨_,rfl⟩,q⟩
end
section
variable{X:Cx}
theorem empty_app(x:Str):Str.empty++x=x:=by
 obtain⟨c⟩:=x;show Str.mk (#[]++c)=⟨c⟩;rw[Array.empty_append]
def Vd(x:Str)(te:TE):TE:=λσ H Q=>te σ H λv H1=>∃y,v=.str y/\x.length+y.length<=sizeLine/\Q (.str (x++y)) H1
theorem RJ{e:Expr}{te:TE}{x:Str}{k:Nat}{b p2 pos:Pos}(d:PE X e te)(f:x.length<=sizeLine:=by decide):PE X (.JoinedStr [.Constant (.str x) k b,.FormattedValue e (-1) none p2] pos) (Vd x te):=by
 intro pins s σ H Q I h;refine wpAny_JoinedStr ?_;show wpAny _ _ (eval (.Constant (.str x) k b) X.env) _ _ _;refine Calls.Constant_str ⟨x,_,rfl,?_,?_⟩
 .show(Str.empty++x).length<=sizeLine
  rw[empty_app];exact f
 show wpAny _ _ (eval (.FormattedValue e (-1) none p2) X.env) _ _ _;refine wpAny_FormattedValue_plain (aK (d pins _ σ H _ (I.tok _) h) λu j ⟨v,H1,c,g,y,i,hl,q⟩=>?_);subst i;obtain⟨t,rfl⟩:=g;have a:Str.empty++x=x:=empty_app x;have hz:(x++y).length<=sizeLine:=by
  have:(x++y).length=x.length+y.length:=by show(x.cps++y.cps).size=x.cps.size+y.cps.size;exact mh
  rw[this];exact hl
 refine wpAny_formatField_str ?_ ?_ (by omega)
 .refine⟨y,t,rfl,?_,?_⟩
  .rw[a];exact hz
  .rw[a]
   exact⟨hz,.str (x++y),H1,c.tok _,⟨_,rfl⟩,q⟩
 .refine⟨y,_,rfl,?_,?_⟩
  .rw[a];exact hz
  .rw[a]
   exact⟨hz,.str (x++y),H1,(c.tok _).tok _,⟨_,rfl⟩,q⟩
end
section
variable{prog:Program}{w:World}{A:Around}{E:aQ}{s:Shared}
theorem tuple_addW0(l b:Addr)(a c:Array Value)(n n2:Nat)(dd e:Option Addr)(i f:Array (Option Value))(j:a.isEmpty=true):
  Meets (Builtin.«tuple.__add__» ⟨[.ref l,.ref b],[]⟩) (λ_ R s=>s.heap.get? l=some {cls:=.type "tuple",dict:=dd,data:=.seq a n,slots:=i}/\s.heap.get? b=some {cls:=.type "tuple",dict:=e,data:=.seq c n2,slots:=f}/\R (.ok (.ret (Value.ref b))) {s with heap:=s.heap,toks:=s.toks}):=
 .of_wp λprog w A R s h=>by obtain⟨m,g,d,o,os⟩:=s;obtain⟨hl,k,h⟩:=h;have f1:=AutoSeq1.idx_int;have f2:=AutoSeq1.sub_tuple_tuple;have p:=AutoSeq1.sub_list_list;have f4:=AutoSeq1.sub_tuple_list;have q:=AutoSeq1.sub_list_tuple;wp_walk using xg hl,xg k;exact⟨_,rfl,h⟩
end
section
variable{X:Cx}
def S0(K:Frag):R2:=λx y H Q=>∃a b ys,x=.ref a/\y=.ref b/\bJ K H a []/\bJ K H b ys/\Q (.ref b) H
theorem Q4:bA X (binaryOp .Add) (S0 X.K):=by
 intro pins s σ H x y v u Q I k l h;obtain⟨a,b,ys,rfl,rfl,m,o,q⟩:=h;cases k;cases l;obtain⟨its,p,r,_⟩:=I.tuple m;obtain⟨c,w,p2,_⟩:=I.tuple o;cases p;obtain⟨⟨cls,dd,data,t⟩,i,hc,n,hd⟩:=id r;obtain⟨⟨j,f,data2,g⟩,d,e,n2,hd2⟩:=id p2;simp only at hc hd e hd2;subst hc hd e hd2;exact concat_meets ⟨_,i,rfl⟩ ⟨_,d,rfl⟩ noFill_tuple_add seq_tuple_add slot_tuple_add entry_tuple_add (args_tuple_add_2 _ _)
  (tuple_addW0 a b #[] c.toArray n n2 dd f t g rfl) ⟨i,d,⟨.ref b,H,I,rfl,q⟩⟩
def Gp(K:Frag):R2:=λx y H Q=>∃a b xs ys,x=.ref a/\y=.ref b/\bJ K H a xs/\bJ K H b ys/\xs.length+ys.length<=sizeLine/\
 (xs=[]->Q (.ref b) H)/\(xs≠[]->ys=[]->Q (.ref a) H)/\(xs≠[]->ys≠[]->∀p,H p=none->Q (.ref p) (upd H p (.tup (xs++ys))))
theorem Q2:bA X (binaryOp .Add) (Gp X.K):=by
 intro pins s σ H x y v u Q I d e h;obtain⟨a,b,xs,ys,rfl,rfl,f,g,hz,i,j,k⟩:=h;by_cases c:xs=[]
 .subst c
  exact Q4 pins s σ H _ _ v u Q I d e ⟨a,b,ys,rfl,rfl,f,g,i rfl⟩
 .exact Q3 pins s σ H _ _ v u Q I d e ⟨a,b,xs,ys,rfl,rfl,f,g,c,hz,j c,k c⟩
end
end L2
namespace DP
theorem Qp:typeLookup (.type "list") "keys"=pure none:=by rw[nJ,nU];kernel_rfl
theorem Qq:typeLookup (.type "tuple") "keys"=pure none:=by rw[nJ,nU];kernel_rfl
section
variable{prog:Program}{w:World}{A:Around}{E:aQ}{s:Shared}
theorem QK{a:Addr}{xs:Array Value}{k:Nat}{Q:Option Value->Shared->Prop}(i:s.heap.get? a=some {cls:=.type "list",data:=.seq xs k})(m:A.handled=none)
  (h:∀h' j,(∀b o,s.heap.get? b=some o->h'.get? b=some o)->Q none {s with heap:=h',toks:=j}):wpAny (model prog w) A (getAttr? (.ref a) "keys") Q E s:=by
 obtain⟨n,g,d,j,os⟩:=s;have l:∀c,(⟨n,g,d,c,os⟩:Shared).TypeIs (.ref a) "list":=λ_=>⟨_,i,rfl⟩;have f1:=sub_AttributeError;have p:=AU.lookup;have f4:=AU.bind (.ref a);have q:=am_list_getattr_none;unfold getAttr? getAttrBy? getAttrBy;repeat (any_goals (first|assumption|exact l _|((with_reducible show wpAny _ _ (call (Value.builtin "list.__getattribute__") _ _) _ _ _);refine nV AU (l _) am_entry_list_getattribute (PySem.F.args_list_getattribute_2 _ _) (meets_getattribute_miss_list a xs k #[] "keys" _ Qp (by decide) (by decide)) ⟨i,m,λh' c e f=>?_⟩)|wp_step))
 obtain⟨t',r,t⟩:=f.there;show wpAny _ _ (getattributeRaised _ _ _ _ _ _ _) _ _ _;unfold getattributeRaised;repeat (any_goals (first|assumption|wp_step))
 exact h _ _ f.keeps
theorem QL{a:Addr}{xs:Array Value}{k:Nat}{Q:Option Value->Shared->Prop}(i:s.heap.get? a=some {cls:=.type "tuple",data:=.seq xs k})(m:A.handled=none)
  (h:∀h' j,(∀b o,s.heap.get? b=some o->h'.get? b=some o)->Q none {s with heap:=h',toks:=j}):wpAny (model prog w) A (getAttr? (.ref a) "keys") Q E s:=by
 obtain⟨n,g,d,j,os⟩:=s;have l:∀c,(⟨n,g,d,c,os⟩:Shared).TypeIs (.ref a) "tuple":=λ_=>⟨_,i,rfl⟩;have f1:=sub_AttributeError;have p:=AV.lookup;have f4:=AV.bind (.ref a);have q:=am_tuple_getattr_none;unfold getAttr? getAttrBy? getAttrBy;repeat (any_goals (first|assumption|exact l _|((with_reducible show wpAny _ _ (call (Value.builtin "tuple.__getattribute__") _ _) _ _ _);refine nV AV (l _) am_entry_tuple_getattribute (PySem.F.args_tuple_getattribute_2 _ _) (meets_getattribute_miss_tuple a xs k #[] "keys" _ Qq (by decide) (by decide)) ⟨i,m,λh' c e f=>?_⟩)|wp_step))
 obtain⟨t',r,t⟩:=f.there;show wpAny _ _ (getattributeRaised _ _ _ _ _ _ _) _ _ _;unfold getattributeRaised;repeat (any_goals (first|assumption|wp_step))
 exact h _ _ f.keeps
end
theorem DI:entryFor table "dict.update.loop"=some Builtin.«dict.update.loop»:=entryFor_of_tree (by kernel_rfl)
theorem sj:plainId "dict.update.loop"=true:=by decide+kernel
section
variable{prog:Program}{w:World}{A:Around}{R:Result->Shared->Prop}{I:Addr}{fp wr:List Addr}{n:Nat}{P:Nat->Value->Prop}{St:Nat->Heap->Prop}
theorem loop(W:Walks prog w A.in1 I fp wr n P St)(D:Addr)(p:D∉fp)(h₀:Heap)(key:Nat->L2.Key)(E q:Nat->Value)
  (u:∀i v,i<n->P i v->∃t,v=.ref t/\t≠D/\t∉wr/\IsTup h₀ t #[E i,q i])(x:∀i,i<n->(L2.cP prog w).is (key i) (E i)=true)(hn:n<=sizeLine):
  ∀(k i:Nat) (s:Shared) (kvs:List (L2.Key×Value)),n - i=k->i<=n->St i s.heap->s.heap.DictOf (L2.cP prog w) D kvs->kvs.length<=i->(∀b o,b≠D->b∉wr->h₀.get? b=some o->s.heap.get? b=some o)->
   (∀h' y,h'.DictOf (L2.cP prog w) D (((range n).drop i).foldl (λacc j=>stored acc (key j) (q j)) kvs)->(∀b o,b≠D->b∉wr->s.heap.get? b=some o->h'.get? b=some o)->R (.ok (.ret .none)) {s with heap:=h',toks:=y})->
   codeAny (model prog w) A (.builtin "dict.update.loop" ⟨[.ref D,.ref I,rawInt (i:Nat),.none],[]⟩) R s:=by
 have B:D∉wr:=λh=>p (W.sub _ h);intro k;induction k with
 |zero=>
  intro i s kvs Z hi g G hl H J;have K:i=n:=by omega
  subst K;refine iU DI ?_;rw[jg sj _];show wpAny _ A.in1 (pyNext (.ref I)>>=_) _ _ s;refine ah (W.done s _ _ g λh' y l=>?_);show wpAny _ A.in1 (Builtin.Dict.addKeywords D []>>=_) _ _ _;refine ah (aG (aG (J h' y ?_ λb o d a e=>l b o a e)));rw[qc (by simp),List.foldl_nil];obtain⟨o,es,ep,L,r⟩:=G;exact⟨o,es,ep,l D o B L,r⟩
 |succ k ih=>
  intro i s kvs Z hi g G hl H J;have c:i<n:=by omega
  refine iU DI ?_;rw[jg sj _];show wpAny _ A.in1 (pyNext (.ref I)>>=_) _ _ s;refine ah (W.item i s _ _ c g λv h1 y hP C l=>?_);obtain⟨t,rfl,tD,tw,ht⟩:=u i v c hP;obtain⟨F,M,N,nt,O⟩:=ht;have f:h1.get? t=some F:=l t F tw (H t F tD tw M);refine ah (gZ ?_);refine ah (wpAny_tryCatch ?_);unfold Builtin.Dict.pairItems;refine ah (nL (T:="tuple") ⟨F,f,N⟩ ?_);rw[av (by decide)];refine ah (s8 f O (aG ?_));show wpAny _ _ (holding [E i,q i] (dictSet D (E i) (q i))) _ _ _;have Q:h1.DictOf (L2.cP prog w) D kvs:=by
   obtain⟨o,es,ep,L,r⟩:=G;exact⟨o,es,ep,l D o B L,r⟩
  refine gZ (wpAny_dictSet_pairs (s:={s with heap:=h1,toks:=y}) (x i c) Q (λh2 S m=>?_) (by omega));have U:St (i+1) h2:=W.frame _ _ _ C λb d o e=>(m.2 b λz=>p (z▸d)).trans e;have e1:((i:Nat):Int)+1=((i+1:Nat):Int):=by omega
  refine aG ⟨jD sj _,?_⟩;show codeAny _ _ (.builtin "dict.update.loop" ⟨[.ref D,.ref I,rawInt (((i:Nat):Int)+1),.none],[]⟩) _ _;rw[e1];refine ih (i+1) _ _ (by omega) c U S ?_ (λb o d a e=>(m.2 b d).trans (l b o a (H b o d a e))) λh' V X Y=>?_
  .have:=stored_length_le kvs (key i) (q i)
   omega
  .refine J h' V ?_ λb o d a e=>Y b o d a ((m.2 b d).trans (l b o a e))
   have e2:(range n).drop i=i::(range n).drop (i+1):=by
    rw[lu (by simpa using c)];simp
   rw[e2,ji];exact X
end
end DP
namespace L2
def putAll(ps:List (Key×V)):List (Key×V):=ps.foldl (λacc p=>putK acc p.1 p.2) []
theorem SQ(ps acc:List (Key×V)):(ps.foldl (λacc p=>putK acc p.1 p.2) acc).length<=acc.length+ps.length:=by
 induction ps generalizing acc with
 |nil=>simp
 |cons p r a=>
  rw[ji,gC];refine cR (a _) ?_;have:(putK acc p.1 p.2).length<=acc.length+1:=by
   unfold putK;split
   .rw[aP];omega
   .rw[dH];simp
  omega
theorem PL{ps:List (Key×V)}{n:Nat}{key:Nat->Key}{a:Nat->Value}(b:n=ps.length)(h:∀i p,ps[i]?=some p->key i=p.1/\RelV p.2 (a i)):KV (putAll ps) ((range n).foldl (λacc j=>stored acc (key j) (a j)) []):=by
 subst b;unfold putAll;have gen:∀(m:Nat),m<=ps.length->KV ((ps.take m).foldl (λacc p=>putK acc p.1 p.2) []) ((range m).foldl (λacc j=>stored acc (key j) (a j)) []):=λm=>by
  induction m with
  |zero=>intro _;simp;exact .nil
  |succ m c=>
   intro d;have e:ps[m]?=some (ps[m]'(by omega)):=br (by omega);obtain⟨h1,h2⟩:=h m _ e;rw[List.take_add_one,e,range_succ,nY,nY];simp only[Option.toList_some,ji,List.foldl_nil];rw[h1];exact KV.put (c (by omega)) _ h2
 have:=gen ps.length (aF _);rwa [take_length] at this
section
variable{X:Cx}
def Pairs(K:Frag)(H:Hp)(ts:List V)(ps:List (Key×V)):Prop:=ts.length=ps.length/\∀(i:Nat) (x:V) (p:Key×V),ts[i]?=some x->ps[i]?=some p->∃t,x=.ref t/\bJ K H t [kV p.1,p.2]
theorem oJ(hc:X.calm=true):eF X (.type "dict") (λxs H Q=>∃(p:Addr) (D:List V) (ps:List (Key×V)),xs=[.ref p]/\(H p=some (.lst D)\/H p=some (.tup D))/\Pairs X.K H D ps/\ps.length<=1000/\∀d,H d=none->Q (.ref d) (upd H d (.dK (putAll ps)))):=by
 intro pins s σ H xs us Q I r h;obtain⟨p,D,ps,rfl,hp,hP,hl,q⟩:=h;obtain⟨u,rfl,ru⟩:=vals1 r;cases ru;have hh:=I.ok.hd hc;obtain⟨its,hv,E⟩:∃its:List Value,Vals D its/\((∃n,s.heap.get? p=some {cls:=.type "list",data:=.seq its.toArray n})\/∃n,s.heap.get? p=some {cls:=.type "tuple",data:=.seq its.toArray n}):=by
  rcases hp with hp|hp
  .obtain⟨_,its,n,y,e⟩:=(show bX X.prog X.w H s.heap p (.lst D) from I.hok p _ hp)
   exact⟨its,y,.inl ⟨n,e⟩⟩
  .obtain⟨its,n,y,e,_⟩:=I.Jb hp
   exact⟨its,y,.inr ⟨n,e⟩⟩
 have l:its.length=ps.length:=by rw[<-hv.length];exact hP.1
 have Sj:p<s.heap.objs.size:=by rcases E with⟨_,e⟩|⟨_,e⟩<;>exact aT e
 have pair:∀i,i<ps.length->∃t k v,its[i]?=some (.ref t)/\IsTup s.heap t #[k,v]/\∃p,ps[i]?=some p/\RelV (kV p.1) k/\RelV p.2 v:=λi hi=>by
  have z:ps[i]?=some (ps[i]'hi):=br hi;have B:D[i]?=some (D[i]'(by rw[hP.1];exact hi)):=br _;obtain⟨t,ex,hq⟩:=hP.2 i _ _ B z;obtain⟨u,hu,ru⟩:=hv.get B;rw[ex] at ru;cases ru;obtain⟨its2,r2,p2,_⟩:=I.tuple hq;obtain⟨k,v,rfl,N,y⟩:=vals2 r2;exact⟨t,k,v,hu,p2,_,z,N,y⟩
 let P:Nat->Value:=λi=>match its[i]? with|some (.ref t)=>(match s.heap.get? t with|some o=>(match o.data with|.seq a _=>a.getD 0 .none|_=>.none)|none=>.none)|_=>.none
 let O:Nat->Value:=λi=>match its[i]? with|some (.ref t)=>(match s.heap.get? t with|some o=>(match o.data with|.seq a _=>a.getD 1 .none|_=>.none)|none=>.none)|_=>.none
 let key:Nat->Key:=λi=>((ps[i]?).map (·.1)).getD (.inl 0);have g:∀i,i<ps.length->∃t p,its[i]?=some (.ref t)/\IsTup s.heap t #[P i,O i]/\ps[i]?=some p/\key i=p.1/\RelV (kV p.1) (P i)/\RelV p.2 (O i):=λi hi=>by
  obtain⟨t,k,v,z,L,pp,B,N,y⟩:=pair i hi;obtain⟨o,G,hcl,n,hd⟩:=id L;have R:P i=k:=by simp only[P,z,G,hd];rfl
  have ev:O i=v:=by simp only[O,z,G,hd];rfl
  have ey:key i=pp.1:=by simp only[key,B];rfl
  rw[R,ev,ey];exact⟨t,pp,z,L,B,rfl,N,y⟩
 have hsz:ps.length<=sizeLine:=cR hl (by decide);refine callType_codes (Q₁:=λobj J=>obj=.ref s.heap.objs.size/\J={s with heap:=s.heap.push {cls:=.type "dict",data:=.dict #[]}}) PySem.F.kt_called_dict (PySem.F.kt_typeCall_dict_1 _) PySem.F.entry_dict_init (kt_code_dict_new _ ⟨rfl,rfl⟩) ?_;rintro obj J ⟨rfl,rfl⟩;have c:(s.heap.push {cls:=.type "dict",data:=.dict #[]}).DictOf (cP X.prog X.w) s.heap.objs.size []:=DictOf.new s.heap;refine⟨c.typeIs,PySem.F.args_dict_init_2 _ _,?_⟩;unfold Builtin.«dict.__init__»;refine ah ?_;unfold Builtin.Dict.selfAndRest;refine ah (wpAny_notOrdered_dict c.typeIs ?_);show wpAny _ _ (pure (s.heap.objs.size,[Value.ref p])) _ _ _;refine aG ?_;show wpAny _ _ (Builtin.Dict.updateFrom "dict.__init__" s.heap.objs.size (.ref p) [] .none) _ _ _;unfold Builtin.Dict.updateFrom;have k0:∀b o,s.heap.get? b=some o->(s.heap.push {cls:=.type "dict",data:=.dict #[]}).get? b=some o:=λb o e=>bw _ e;have pD:p≠s.heap.objs.size:=bE Sj;have go:∀(h1:Heap) (tk:Nat) (S:Addr) (fp:List Addr) (St:Nat->Heap->Prop),(∀b o,(s.heap.push {cls:=.type "dict",data:=.dict #[]}).get? b=some o->h1.get? b=some o)->s.heap.objs.size<S->
   Walks X.prog X.w X.A.in1.in1 S fp [S] its.length (λi v=>its.toArray[i]?=some v) St->St 0 h1->s.heap.objs.size∉fp->
   codeAny (model X.prog X.w) X.A.in1 (.builtin "dict.update.loop" ⟨[.ref s.heap.objs.size,.ref S,rawInt 0,.none],[]⟩) (wants (λr U=>r=.none/\EP X pins σ Q (.ref s.heap.objs.size) U) X.xe) {s with heap:=h1,toks:=tk}:=by
  intro h1 tk S fp St k1 hI W UT hDf;have Oa:h1.DictOf (cP X.prog X.w) s.heap.objs.size []:=by
   obtain⟨o,es,ep,G,r⟩:=c;exact⟨o,es,ep,k1 _ o G,r⟩
  refine DP.loop W s.heap.objs.size hDf s.heap key P O (λi v hi hv'=>?_) (λi hi=>?_) (by rw[l];exact hsz) its.length 0 _ [] rfl (bG _) UT Oa (bG _) (λb o _ _ e=>k1 b o (k0 b o e)) λh2 VB Y k2=>?_
  .obtain⟨t,pp,z,L,_⟩:=g i (by rw[<-l];exact hi)
   have e:its[i]?=some v:=by simpa using hv'
   rw[z] at e;cases e;have Z:t<s.heap.objs.size:=L.lt;exact⟨t,rfl,bE Z,by simp only[bM];exact bE (lt_trans Z hI),L⟩
  .obtain⟨t,pp,z,L,B,R,N,y⟩:=g i (by rw[<-l];exact hi)
   rw[R];exact m5 N
  .have hn:H s.heap.objs.size=none:=I.hok.fresh (aF _)
   have PD:∀b o,s.heap.get? b=some o->h2.get? b=some o:=λb o e=>by
    have hb:b<s.heap.objs.size:=aT e;exact k2 b o (bE hb) (by simp only[bM];exact bE (lt_trans hb hI)) (k1 b o (k0 b o e))
   rw[List.drop_zero,l] at Y;have hkv:KV (putAll ps) ((range ps.length).foldl (λacc j=>stored acc (key j) (O j)) []):=PL rfl λi pp e=>by
    obtain⟨t,pp',z,L,B,R,N,y⟩:=g i (b8.mp e).1;rw[e] at B;cases B;exact⟨R,y⟩
   have hns:(s.heap.objs.size==sysModules)=false:=beq_false_of_ne (kY I.big);refine⟨rfl,.ref s.heap.objs.size,_,I.laid (t':=VB) (o:=.dK (putAll ps)) PD (aF _) ⟨?_,hns,_,hkv,Y⟩,rfl,q _ hn⟩;have:=SQ ps [];unfold putAll;simp only[length_nil,zero_add] at this;omega
 rcases E with⟨n,e⟩|⟨n,e⟩
 .have C:=k0 _ _ e
  refine ah (nL (T:="list") ⟨_,C,rfl⟩ ?_);rw[av (by decide)];refine ah (DP.QK (s:={s with heap:=s.heap.push {cls:=.type "dict",data:=.dict #[]}}) C hh λh1 M k1=>?_);rw[av (show(none:Option Value).isNone=true from rfl)];refine ah (k8 ?_);have m:h1.IsList p its.toArray:=⟨_,k1 _ _ C,rfl,n,rfl⟩;have x:p<h1.objs.size:=aT (k1 _ _ C);have f:s.heap.objs.size<h1.objs.size:=by obtain⟨o,_,_,G,_⟩:=c;exact aT (k1 _ _ G)
  refine ah (p9 (s:={s with heap:=h1,toks:=M}) m ?_);have W:=Walks.list (prog:=X.prog) (w:=X.w) (A:=X.A.in1.in1) hh h1.objs.size p (bE x) its.toArray;rw[b6] at W;refine aG ⟨jD DP.sj _,go _ _ _ _ _ (λb o q=>bw _ (k1 b o q)) f W ⟨⟨_,cA _ rfl,rfl,rfl⟩,m.push _⟩ ?_⟩;simp only[aY,gf,gh,not_or];exact⟨bE f,Ne.symm pD⟩
 .have C:=k0 _ _ e
  refine ah (nL (T:="tuple") ⟨_,C,rfl⟩ ?_);rw[av (by decide)];refine ah (DP.QL (s:={s with heap:=s.heap.push {cls:=.type "dict",data:=.dict #[]}}) C hh λh1 M k1=>?_);rw[av (show(none:Option Value).isNone=true from rfl)];refine ah (k8 ?_);have m:h1.IsTuple p its.toArray:=⟨_,k1 _ _ C,rfl,n,rfl⟩;have x:p<h1.objs.size:=aT (k1 _ _ C);have f:s.heap.objs.size<h1.objs.size:=by obtain⟨o,_,_,G,_⟩:=c;exact aT (k1 _ _ G)
  refine ah (wpAny_pyIter_tuple (s:={s with heap:=h1,toks:=M}) m ?_);have W:=Walks.tuple (prog:=X.prog) (w:=X.w) (A:=X.A.in1.in1) hh h1.objs.size p (bE x) its.toArray;rw[b6] at W;refine aG ⟨jD DP.sj _,go _ _ _ _ _ (λb o q=>bw _ (k1 b o q)) f W ⟨⟨_,cA _ rfl,rfl,rfl⟩,m.push _⟩ ?_⟩;simp only[aY,gf,gh,not_or];exact⟨bE f,Ne.symm pD⟩
end
end L2
end
namespace PySem
open Sem (wp)
namespace ZL
section
variable{prog:Program}{w:World}{A:Around}{E:aQ}{s:Shared}{z TI TO i1 i2 l1 l2:Addr}{xs ys:Array Value}
theorem K4{R:List Value->Shared->Prop}(k:A.handled=none)(D:ZipApart z TI TO i1 i2 l1 l2)(L:oB z TI TO i1 i2 l1 l2 (s.heap.objs.size+1))(O:qv z TI TO i1 i2 l1 l2 (s.heap.objs.size+1) s.heap.objs.size)(m:min xs.size ys.size<=sizeLine)
  (n:ZS z TI TO i1 i2 l1 l2 (s.heap.objs.size+1) xs ys 0 (s.heap.push {cls:= .type "list",data:= .seq #[]}))
  (h:∀h':Heap,(∀(j:Nat) x y,xs[j]? =some x->ys[j]? =some y->IsPair h' (s.heap.objs.size+1+j) x y)->s.heap.objs.size<h'.objs.size->
   (∀b o,b≠z->b≠TO->b≠i1->b≠i2->s.heap.get? b=some o->h'.get? b=some o)->R (fm (s.heap.objs.size+1) (min xs.size ys.size)).toList {s with heap:=h'}):
  wpAny (model prog w) A (collect (.ref z)) R E s:=by
 unfold collect
 refine ah (wpAny_runValue (iU PySem.F.entry_proto_collect ?_))
 rw[jg PySem.F.plain_proto_collect _]
 show wpAny _ A.in1 (newList []>>=λl=>again (.builtin "list.__iadd__" ⟨[l,.ref z],[]⟩)) _ _ s
 refine ah (jf ?_)
 refine aG ⟨jD wW _,iU PySem.F.entry_list_iadd ?_⟩
 rw[jg wW _]
 have c:(s.heap.push {cls:= .type "list",data:= .seq ([]:List Value).toArray}).get? s.heap.objs.size=some {cls:= .type "list",data:= .seq #[]}:=cA _ rfl
 show wpAny _ A.in1 (Builtin.List.listExtendWith (.ref s.heap.objs.size) (.ref z) (.ref s.heap.objs.size)) _ _ _
 have key:=Mz (prog:=prog) (w:=w) (A:=A) (s:={s with heap:=s.heap.push {cls:= .type "list",data:= .seq ([]:List Value).toArray}})
  (R:=λ(q:Result) (s':Shared)=>∃(h':Heap) (c':Nat),q= .ok (.ret (.ref s.heap.objs.size))/\s'={s with heap:=h'}/\
   (∀(j:Nat) x y,xs[j]? =some x->ys[j]? =some y->IsPair h' (s.heap.objs.size+1+j) x y)/\h'.get? s.heap.objs.size=some {cls:= .type "list",dict:=none,data:= .seq (fm (s.heap.objs.size+1) (min xs.size ys.size)) c',slots:= #[]}/\
   ∀b o,b≠z->b≠TO->b≠i1->b≠i2->s.heap.get? b=some o->h'.get? b=some o)
  k D L O m (.ref s.heap.objs.size) 0 n c
  (λh' c' a1 a2 p=>⟨h',c',rfl,rfl,a1,a2,λb o r t u v e=>p b o (bE (aT e)) r t u v (bw _ e)⟩)
 refine je key (λfin s' x=> ?_) λe s' x=> ?_
 .cases fin with
  |done f=>
   obtain⟨h',c',e,rfl,d,a,g⟩:=x
   cases e
   show wpAny _ A (load s.heap.objs.size>>=_) _ _ _
   refine ah (wpAny_load a ?_)
   exact aG (h h' d (aT a) g)
  |again c₁=>
   refine⟨x.1,nW x.2 λq i y=> ?_⟩
   obtain⟨h',c',rfl,rfl,d,a,g⟩:=y
   show wpAny _ A (load s.heap.objs.size>>=_) _ _ _
   refine ah (wpAny_load a ?_)
   exact aG (h h' d (aT a) g)
 .obtain⟨_,_,B,_⟩:=x
  cases B
theorem K2{Q₁:aQ}(g:A.handled=none)(i:s.TypeIs (.ref z) "zip")(D:ZipApart z TI TO i1 i2 l1 l2)(L:oB z TI TO i1 i2 l1 l2 (s.heap.objs.size+1))(O:qv z TI TO i1 i2 l1 l2 (s.heap.objs.size+1) s.heap.objs.size)(d:min xs.size ys.size<=sizeLine)
  (k:ZS z TI TO i1 i2 l1 l2 (s.heap.objs.size+1) xs ys 0 (s.heap.push {cls:= .type "list",data:= .seq #[]}))
  (h:∀h':Heap,(∀(j:Nat) x y,xs[j]? =some x->ys[j]? =some y->IsPair h' (s.heap.objs.size+1+j) x y)->s.heap.objs.size<h'.objs.size->
   (∀b o,b≠z->b≠TO->b≠i1->b≠i2->s.heap.get? b=some o->h'.get? b=some o)->Q₁ (.ref h'.objs.size) {s with heap:=h'.push {cls:= .type "tuple",data:= .seq (fm (s.heap.objs.size+1) (min xs.size ys.size))}}):
  codeAny (model prog w) A (.call (.builtin "tuple.__new__") ⟨[.type "tuple",.ref z],[]⟩) (wants Q₁ E) s:=by
 refine codeAny_of_tree ?_
 show wpAny _ A.in1 (do checkBuiltinCall "tuple.__new__" ⟨[.type "tuple",.ref z],[]⟩;again (.builtin "tuple.__new__" ⟨[.type "tuple",.ref z],[]⟩)) _ _ s
 refine ah (wpAny_of_eq (PySem.F.newCall_tuple_1 _) (aG ⟨jD PySem.F.plain_tuple_new _,iU PySem.F.entry_tuple_new ?_⟩))
 rw[jg PySem.F.plain_tuple_new _]
 have f:=sub_tuple_self
 have a:=init_tuple_lookup
 have l:=madeHere_tuple
 wp_walk using nL i,K4 (A:=A.in1) g D L O d k
 intro h' m c n
 show wpAny _ _ (Builtin.Tuple.tupleExact (fm (s.heap.objs.size+1) (min xs.size ys.size)).toList.toArray>>=λv=>ret v) _ _ _
 unfold Builtin.Tuple.tupleExact
 refine ah (jf ?_ (by show(fm (s.heap.objs.size+1) (min xs.size ys.size)).toList.toArray.size<=sizeLine;simp only[toArray_toList];rw[z_];exact d))
 refine aG ?_
 have e:(fm (s.heap.objs.size+1) (min xs.size ys.size)).toList.toArray=fm (s.heap.objs.size+1) (min xs.size ys.size):=by simp
 rw[e]
 exact h h' m c n
end
section
variable{prog:Program}{w:World}{A:Around}{E:aQ}{s:Shared}
theorem VF{l1 l2:Addr}{xs ys:Array Value}{Q:aQ}(u:A.handled=none)(f:s.heap.IsList l1 xs)(g:s.heap.IsList l2 ys)(v:min xs.size ys.size<=sizeLine)
  (B:∀(h':Heap) (T:Addr),(∀(j:Nat) x y,xs[j]?=some x->ys[j]?=some y->IsPair h' (s.heap.objs.size+6+j) x y/\@LT.lt Nat _ (s.heap.objs.size+6+j) T)->@LT.lt Nat _ (s.heap.objs.size+5) T->
   h'.get? T=some {cls:=.type "tuple",data:=.seq (fm (s.heap.objs.size+6) (min xs.size ys.size))}->
   (∀b o,s.heap.get? b=some o->h'.get? b=some o)->Q (.ref T) {s with heap:=h'}):
  wpAny (model prog w) A (call (.type "zip") [.ref l1,.ref l2]) (λz c=>wpAny (model prog w) A (call (.type "tuple") [z]) Q E c) E s:=by
 have C: @LT.lt Nat _ l1 s.heap.objs.size:=by obtain⟨_,e,_⟩:=f;exact aT e
 have G: @LT.lt Nat _ l2 s.heap.objs.size:=by obtain⟨_,e,_⟩:=g;exact aT e
 refine call_zip_2 f g λa hz h i k l hsz m=>?_;have hsz: @Eq Nat a.objs.size (s.heap.objs.size+5):=hsz;have D:ZipApart (s.heap.objs.size+4) (s.heap.objs.size+2) (s.heap.objs.size+3) s.heap.objs.size (s.heap.objs.size+1) l1 l2:=by
  constructor<;>first|(show(_:Nat)<(_:Nat);omega)|(intro e;have r: @Eq Nat _ _:=e;omega)
 have L:oB (s.heap.objs.size+4) (s.heap.objs.size+2) (s.heap.objs.size+3) s.heap.objs.size (s.heap.objs.size+1) l1 l2 (a.objs.size+1):=by
  rw[hsz];constructor<;>first|(show(_:Nat)<(_:Nat);omega)|(intro e;have r: @Eq Nat _ _:=e;omega)
 have O:qv (s.heap.objs.size+4) (s.heap.objs.size+2) (s.heap.objs.size+3) s.heap.objs.size (s.heap.objs.size+1) l1 l2 (a.objs.size+1) a.objs.size:=by
  rw[hsz];constructor<;>first|(show(_:Nat)<(_:Nat);omega)|(intro e;have r: @Eq Nat _ _:=e;omega)
 have H:ZS (s.heap.objs.size+4) (s.heap.objs.size+2) (s.heap.objs.size+3) s.heap.objs.size (s.heap.objs.size+1) l1 l2 (a.objs.size+1) xs ys 0 (a.push {cls:=.type "list",data:=.seq #[]}):=
  ⟨.inl ⟨rfl,bw _ hz⟩,bw _ h,⟨_,_,bw _ i⟩,k.at λo e=>bw _ e,l.at λo e=>bw _ e,
   f.at λo e=>bw _ (m _ o e),g.at λo e=>bw _ (m _ o e),by rw[gi],λj x y I=>absurd I (Nat.not_lt_zero _)⟩
 refine callType_codes (Q₁:=λobj c=>c.TypeIs obj "tuple"/\Q obj c) called_tuple (PySem.F.typeCall_tuple_1 _) PySem.F.entry_object_init
  (K2 (s:={s with heap:=a}) (xs:=xs) (ys:=ys) u ⟨_,hz,rfl⟩ D L O v H λh' J n p=>⟨⟨_,cA _ rfl,rfl⟩,?_⟩) λobj c d=>?_
 .have t:a.objs.size+1=s.heap.objs.size+6:=by rw[hsz]
  have q:=B (h'.push {cls:=.type "tuple",data:=.seq (fm (s.heap.objs.size+6) (min xs.size ys.size))}) h'.objs.size (λj x y K M=>?_) (by rw[<-hsz];exact n) (cA _ rfl) λb o e=>?_
  .show Q (.ref h'.objs.size) {s with heap:=h'.push {cls:=.type "tuple",data:=.seq (fm (a.objs.size+1) (min xs.size ys.size))}}
   rw[t];exact q
  .have pr:=J j x y K M
   have pr:IsPair h' (a.objs.size+1+j) x y:=pr;rw[t] at pr;exact⟨bw _ pr,aT pr⟩
  .have N: @LT.lt Nat _ b s.heap.objs.size:=aT e
   have ne:∀j:Nat,b≠s.heap.objs.size+j:=λj z=>by have P: @Eq Nat b (s.heap.objs.size+j):=z;omega
   exact bw _ (p b o (ne 4) (ne 3) (ne 0) (ne 1) (m b o e))
 .exact⟨d.1,PySem.F.args_object_init_2 obj _,object_init_meets called_tuple.init.lookup called_tuple.made (by decide) prog w A.in1 _ c ⟨d.1,rfl,d.2⟩⟩
end
end ZL
end PySem
section
open PySem PySem.Spec PyProof.Rows
namespace L2
section
variable{X:Cx}
def Vs(K:Frag)(ta:TA):TE:=λσ H Q=>ta σ H λvs H1=>∃a b xs ys,vs=[.ref a,.ref b]/\aR K H1 a xs/\aR K H1 b ys/\
 ∀(l:Addr) (H':Hp) (ps:List V),ku H1 H'->H1 l=none->H' l=some (.tup ps)->ps.length=min xs.length ys.length->(∀(j:Nat) p,ps[j]?=some p->∃t x y,p=.ref t/\xs[j]?=some x/\ys[j]?=some y/\H' t=some (.tup [x,y]))->Q (.ref l) H'
theorem R0{a b:Expr}{ta:TA}{p1 p2 C d:Pos}(S:Gl X "tuple")(U:X.mg "tuple"=none)(W:bootBuiltins "tuple"=some (.type "tuple"))(Y:Gl X "zip")(Z:X.mg "zip"=none)(hbz:bootBuiltins "zip"=some (.type "zip"))(hc:X.calm=true)(ha:PA X [a,b] ta)
  (hs:starEach [a,b] X.env=[(false,eval a X.env),(false,eval b X.env)]:=by rfl)(D:starEach [b] X.env=[(false,eval b X.env)]:=by rfl)
  (hz:starEach [.Call (.Name "zip" p2) [a,b] [] d] X.env=[(false,eval (.Call (.Name "zip" p2) [a,b] [] d) X.env)]:=by rfl):
  PE X (.Call (.Name "tuple" p1) [.Call (.Name "zip" p2) [a,b] [] d] [] C) (Vs X.K ta):=by
 intro pins s σ H Q I h
 refine mj (jV I S U W ?_)
 refine nG ?_ hz rfl
 rw[hz]
 refine wY (mj (jV I Y Z hbz (nG (aK (ha d pins s σ H _ I h) λus c ⟨vs,H1,i,r1,q1⟩=> ?_) (by rw[hs,D]) (by rw[D];rfl))))
 obtain⟨pa,pb,xs,ys,e,hx,hy,q⟩:=q1
 subst e
 obtain⟨u1,u2,rfl,Tj,Tn⟩:=vals2 r1
 cases Tj
 cases Tn
 obtain⟨F,k,Sg,hz1⟩:=i.list hx
 obtain⟨G,m,Sh,hz2⟩:=i.list hy
 have l1:=k.length
 have l2:=m.length
 refine aK (ZL.VF (E:=X.xe) (Q:=EP X pins σ Q) (i.ok.hd hc) Sg.isList Sh.isList (by simp only[b6];omega) λh' T J n hS kp=> ?_) λz s2 hq=>Calls.spliced_nil hq
 have em:min F.toArray.size G.toArray.size=min xs.length ys.length:=by simp only[b6];omega
 rw[em] at hS
 have hn:∀j:Nat,H1 (c.heap.objs.size+j)=none:=λj=>i.hok.fresh (pT _ _)
 have Oh:∀j:Nat,j<min xs.length ys.length->@LT.lt Nat _ (c.heap.objs.size+6+j) T:=λj hj=>by
  have f:xs[j]? =some (xs[j]'(by omega)):=br _
  have g:ys[j]? =some (ys[j]'(by omega)):=br _
  obtain⟨u,hu,_⟩:=k.get f
  obtain⟨v,hv,_⟩:=m.get g
  exact(J j u v (by simpa using hu) (by simpa using hv)).2
 have Oi:H1 T=none:=i.hok.fresh (by show @LE.le Nat _ c.heap.objs.size T;have: @LT.lt Nat _ (c.heap.objs.size+5) T:=n;omega)
 have pair:∀j:Nat,j<min xs.length ys.length->∃x y u v,xs[j]? =some x/\ys[j]? =some y/\RelV x u/\RelV y v/\IsPair h' (c.heap.objs.size+6+j) u v:=λj hj=>by
  have f:xs[j]? =some (xs[j]'(by omega)):=br _
  have g:ys[j]? =some (ys[j]'(by omega)):=br _
  obtain⟨u,hu,ru⟩:=k.get f
  obtain⟨v,hv,t⟩:=m.get g
  exact⟨_,_,u,v,f,g,ru,t,(J j u v (by simpa using hu) (by simpa using hv)).1⟩
 let H':Hp:=λb=>if b=T then some (.tup ((range (min xs.length ys.length)).map λj=>V.ref (c.heap.objs.size+6+j))) else
  if c.heap.objs.size+6<=b/\b - (c.heap.objs.size+6)<min xs.length ys.length then some (.tup [(xs[b - (c.heap.objs.size+6)]?).getD .aC,(ys[b - (c.heap.objs.size+6)]?).getD .aC]) else H1 b
 have L:H' (T)=some (.tup ((range (min xs.length ys.length)).map λj=>V.ref (c.heap.objs.size+6+j))):=by
  show(if _ then _ else _)=_
  rw[av rfl]
 have M:∀(j:Nat) x y,xs[j]? =some x->ys[j]? =some y->H' (c.heap.objs.size+6+j)=some (.tup [x,y]):=λj x y A B=>by
  have j1:=(b8.mp A).1
  have j2:=(b8.mp B).1
  have N:c.heap.objs.size+6+j - (c.heap.objs.size+6)=j:=Nat.add_sub_cancel_left _ _
  have O:j<min xs.length ys.length:=Nat.lt_min.mpr ⟨j1,j2⟩
  show(if _ then _ else if _ then _ else _)=_
  rw[ay (λz=>by have z': @Eq Nat (c.heap.objs.size+6+j) (T):=z;have:=Oh j O;omega),av ⟨pT _ _,by rw[N];exact O⟩,N,A,B]
  rfl
 have hold:ku H1 H':=λb o e=>by
  have hb: @LT.lt Nat _ b c.heap.objs.size:=i.hok.lt e
  show(if _ then _ else if _ then _ else _)=_
  rw[ay (λz=>by have z': @Eq Nat b (T):=z;have: @LT.lt Nat _ (c.heap.objs.size+5) T:=n;omega),ay (λz=>by have z': @LE.le Nat _ (c.heap.objs.size+6) b:=z.1;omega)]
  exact e
 have P:∀b o,H' b=some o->H1 b=some o\/(c.heap.objs.size<=b/\bX X.prog X.w H' h' b o):=λb o e=>by
  by_cases hb:b=T
  .subst hb
   rw[L] at e
   cases e
   refine .inr ⟨by show @LE.le Nat _ c.heap.objs.size b;have: @LT.lt Nat _ (c.heap.objs.size+5) b:=n;omega,by rw[aP,length_range];omega,(range (min xs.length ys.length)).map λj=>Value.ref (c.heap.objs.size+6+j),?_,⟨_,hS⟩⟩
   have:∀l:List Nat,Vals (l.map λj=>V.ref (c.heap.objs.size+6+j)) (l.map λj=>Value.ref (c.heap.objs.size+6+j)):=λl=>by
    induction l with
    |nil=>exact .nil
    |cons j r ih=>exact .cons rfl ih
   exact this _
  .by_cases R:c.heap.objs.size+6<=b/\b - (c.heap.objs.size+6)<min xs.length ys.length
   .obtain⟨g1,g2⟩:=R
    have eb:b=c.heap.objs.size+6+(b - (c.heap.objs.size+6)):=(Nat.add_sub_cancel' g1).symm
    obtain⟨x,y,u,v,A,B,ru,t,pr⟩:=pair _ g2
    rw[eb,M _ x y A B] at e
    cases e
    refine .inr ⟨cR (pT _ 6) g1,by show 2<=sizeLine;decide,[u,v],.cons ru (.cons t .nil),?_⟩
    rw[eb]
    exact⟨_,pr⟩
   .left
    have e':(if b=T then some (HO.tup ((range (min xs.length ys.length)).map λj=>V.ref (c.heap.objs.size+6+j))) else
     if c.heap.objs.size+6<=b/\b - (c.heap.objs.size+6)<min xs.length ys.length then some (.tup [(xs[b - (c.heap.objs.size+6)]?).getD .aC,(ys[b - (c.heap.objs.size+6)]?).getD .aC]) else H1 b)=some o:=e
    rw[ay hb,ay R] at e'
    exact e'
 refine⟨.ref (T),H',i.many (h':=h') (t':=c.toks) kp hold P,rfl,q _ H' _ hold Oi L (by rw[aP,length_range]) λj p e=> ?_⟩
 rw[bW] at e
 cases er:(range (min xs.length ys.length))[j]? with
 |none=>rw[er] at e;cases e
 |some j'=>
  rw[er] at e
  obtain⟨hj,N⟩:=b8.mp er
  rw[List.getElem_range] at N
  subst N
  cases e
  have hj':j<min xs.length ys.length:=by simpa using hj
  obtain⟨x,y,u,v,A,B,_⟩:=pair j hj'
  exact⟨_,x,y,rfl,A,B,M j x y A B⟩
end
theorem IU:∀{vs:List Value} {ss:List Str},vs.length=ss.length->(∀(i:Nat) v x,vs[i]?=some v->ss[i]?=some x->∃t,v=Value.str x t)->StrsAre vs ss
 |[],[],_,_=>.nil
 |v::vs,x::ss,hl,h=>by
  obtain⟨t,rfl⟩:=h 0 v x rfl rfl;exact .cons x t (IU (by simpa using hl) λi a b c d=>h (i+1) a b (by simpa using c) (by simpa using d))
theorem KV.at{kvs:List (Key×V)}{vs:List (Key×Value)}(r:KV kvs vs):∀{i:Nat} {q:Key×Value},vs[i]?=some q->∃p,kvs[i]?=some p/\p.1=q.1/\RelV p.2 q.2:=by
 induction r with
 |nil=>intro i q h;simp at h
 |cons h1 h2 a=>
  intro i q h;cases i with
  |zero=>simp at h;subst h;exact⟨_,rfl,h1⟩
  |succ i=>exact a (by simpa using h)
theorem KV.len{kvs:List (Key×V)}{vs:List (Key×Value)}(r:KV kvs vs):kvs.length=vs.length:=by
 induction r with
 |nil=>rfl
 |cons h1 h2 a=>simp[a]
section
variable{X:Cx}
theorem Inv.Fg{pins:aS}{σ:St}{H H':Hp}{s:Shared}{h':Heap}{t':Nat}(I:Inv X pins σ H s)(kp:∀b o,s.heap.get? b=some o->h'.get? b=some o)(d:ku H H')
  (a:∀b o,H' b=some o->H b=some o\/((∀u,s.heap.get? b≠some u)/\bX X.prog X.w H' h' b o)):Inv X pins σ H' {s with heap:=h',toks:=t'}:=by
 refine I.un (h':=h') (t':=t') ⟨λb o q _ _ _=>kp b o q,λb o q _ _ _=>⟨o.slots,kp b o q⟩,λb o q n _=>?_,λb o q _=>⟨o,kp b o q⟩,λb xs q=>d _ _ q,λb o u q=>d _ _ q,λb ps q=>⟨#[],by rw[d _ _ q];simp⟩⟩ λb o q=>?_
 .cases e:H' b with
  |none=>rfl
  |some u=>
   rcases a b u e with z|⟨z,_⟩
   .rw[n] at z;cases z
   .exact absurd q (z _)
 .rcases a b o q with z|⟨_,z⟩
  .exact(I.hok b o z).stay (λc v _ r=>kp c v r) (λc r=>d _ _ r) λc xs r=>d _ _ r
  .exact z
theorem KL(hc:X.calm=true):eF X (.builtin "sorted") (λxs H Q=>∃(d:Addr) (kvs:List (Key×V)) (ns:List Str),xs=[.ref d]/\H d=some (.dK kvs)/\kvs.map (·.1)=ns.map Sum.inr/\ns.Nodup/\ns.length<64/\
  ∀(l:Addr) (ys:List Str),H l=none->ys.Pairwise strLt->(∀x,x∈ys↔x∈ns)->Q (.ref l) (upd H l (.lst (ys.map V.str)))):=by
 intro pins s σ H xs us Q I r h;obtain⟨d,kvs,ns,rfl,hd,M,G,B,q⟩:=h;obtain⟨u,rfl,Y⟩:=vals1 r;cases Y;obtain⟨hz,Z,vs,rel,dd⟩:=(show bX X.prog X.w H s.heap d (.dK kvs) from I.hok d _ hd);obtain⟨ep,J⟩:=dd.dictAt;have C:kvs.length=ns.length:=by
  have:=cS List.length M;simpa using this
 have c:vs.length=ns.length:=by rw[<-rel.len,C]
 refine AN kind_sorted plain_sorted entry_sorted (args_sorted1 _) ?_;unfold Builtin.«sorted»;refine ah (m:=checkCount "sorted" 1 1 _) (aG ?_);refine ah (PySem.W.kdu_collect (A:=X.A.in1) (PySem.W.kdl_dict (knd:=cP X.prog X.w) (kvs:=vs) (ep:=ep) Z) (I.ok.hd hc) J (by rw[c];omega) λh1 N acc k1 a=>?_);have f:StrsAre acc.toList ns:=by
  refine IU (by rw[gW,a.1,c]) λi v x O e2=>?_;rw[n9] at O;obtain⟨k,y,e3,P⟩:=a.2 i v O;obtain⟨p,e5,e6,_⟩:=rel.at e3;have R:(kvs.map (·.1))[i]?=some k:=by rw[bW,e5];exact cS some e6
  rw[M,bW,e2] at R;have e8:k=Sum.inr x:=(Option.some.inj R).symm;rw[e8] at P;rcases ja (show kM (Sum.inr x) v=true from P) with⟨_,_,z,_⟩|⟨x',t,z,z2⟩
  .cases z
  .cases z;exact⟨t,z2⟩
 have K:acc.toList.length<64:=by rw[gW,a.1,c];exact B
 refine ah (xh ?_);have g:(h1.push (seqObj "list" acc.toList.toArray 0)).get? h1.objs.size=some (seqObj "list" acc.toList.toArray 0):=cA _ rfl;show wpAny _ _ _ _ _ {s with heap:=h1.push (seqObj "list" acc.toList.toArray 0),toks:=N};refine ah (gZ (jE slot_list_sort ⟨_,g,rfl⟩ entry_list_sort (list_sort_treeK strKind_oneLt g f.keysOf (λS T rest e=>keyKind_strs (by rw[<-e];exact f)) K λj a1 a2=>⟨_,rfl,?_⟩) (args_list_sort _)));obtain⟨D,q1,L,q3⟩:=sorted_out_str f a1 a2;obtain⟨e,he⟩:=sortedHeap_at (out:=(arrOf j).map (·.2)) g;have kp:∀b o,s.heap.get? b=some o->(sortedHeap (h1.push (seqObj "list" acc.toList.toArray 0)) h1.objs.size acc.toList ((arrOf j).map (·.2))).get? b=some o:=λb o q=>by
  have n:=k1 b o q;rw[sortedHeap_old (bE (aT n)) (by rw[size_push'];exact gX (aT n))];exact bw _ n
 have E:∀u,s.heap.get? h1.objs.size≠some u:=λu z=>fS _ (aT (k1 _ _ z));have U:H h1.objs.size=none:=by
  cases e0:H h1.objs.size with
  |none=>rfl
  |some o=>
   obtain⟨u,z⟩:=(I.hok _ _ e0).obj;exact absurd z (E u)
 refine aG ⟨_,rfl,.ref h1.objs.size,upd H h1.objs.size (.lst (D.map V.str)),?_,rfl,q _ D U (IS (II q3) (L.nodup_iff.mpr G)) λx=>L.mem_iff⟩;refine I.Fg (t':=N) kp (ku.new U _) λb o F=>?_;by_cases n:b=h1.objs.size
 .subst n
  rw[eT] at F;cases F;refine .inr ⟨E,?_⟩;refine⟨by rw[aP,L.length_eq];exact jB (cJ B (by decide)),((arrOf j).map (·.2)).toList,e,AL q1,?_⟩;rw[toArray_toList];exact he
 .rw[aW n] at F
  exact .inl F
end
end L2
end
namespace MA
theorem EV{b d:Int}(g:0<b)(hd:0<d):0<b*d/(Int.gcd b d:Int)/\b∣b*d/(Int.gcd b d:Int)/\d∣b*d/(Int.gcd b d:Int)/\b*d/(Int.gcd b d:Int)<=b*d:=by
 have i:0<(Int.gcd b d:Int):=by
  have:0<Int.gcd b d:=Int.gcd_pos_of_ne_zero_right _ (by omega);omega
 obtain⟨a,c⟩:=Int.gcd_dvd_left b d;obtain⟨d',e⟩:=Int.gcd_dvd_right b d;have f:b*d/(Int.gcd b d:Int)=a*d:=by
  conv=>lhs;lhs;lhs;rw[c]
  rw[nI,Int.mul_ediv_cancel_left _ (by omega)]
 have j:b*d/(Int.gcd b d:Int)=b*d':=by
  conv=>lhs;lhs;rhs;rw[e]
  rw[lZ (Int.gcd b d:Int) d',<-nI,Int.mul_ediv_cancel _ (by omega)]
 refine⟨?_,⟨d',j⟩,⟨a,by rw[f,lZ]⟩,qd _ (dO (fu g hd))⟩;rw[f];refine fu ?_ hd;rcases Int.lt_or_le 0 a with h|h
 .exact h
 .have:(Int.gcd b d:Int)*a<=0:=Int.mul_nonpos_of_nonneg_of_nonpos (dO i) h
  omega
def bot:List Rat->Int->Int
 |[],b=>b
 |x::r,b=>bot r (b*(rf x).2/(Int.gcd b (rf x).2:Int))
theorem qD:∀(xs:List Rat) (b:Int),0<b->0<bot xs b/\b∣bot xs b/\∀x∈xs,(rf x).2∣bot xs b
 |[],b,h=>⟨h,Int.dvd_refl _,by simp⟩
 |x::r,b,h=>by
  obtain⟨h1,h2,c,_⟩:=EV h (c_ x);obtain⟨d,a,e⟩:=qD r _ h1;refine⟨d,dvd_trans h2 a,λy hy=>?_⟩;rcases aY.mp hy with rfl|hy
  .exact dvd_trans c a
  .exact e y hy
theorem bot_le(D:Int)(c:1<=D):∀(xs:List Rat) (b:Int),0<b->(∀x∈xs,(rf x).2<=D)->bot xs b<=b*D ^ xs.length
 |[],b,_,_=>by simp[bot]
 |x::r,b,h,a=>by
  obtain⟨h1,h2,f,d⟩:=EV h (c_ x);have:=bot_le D c r _ h1 λy e=>a y (aZ _ e);refine dZ this ?_;rw[gC,j_,lZ (D ^ r.length) D,<-nI];refine xq ?_ (pow_nonneg (by omega));exact dZ d (nM (a x (by simp)) (dO h))
def gv:List Int->Int->Int
 |[],d=>d
 |n::r,d=>gv r (Int.gcd d n:Int)
theorem za:∀(ns:List Int) (d:Int),0<=d->0<=gv ns d/\gv ns d∣d/\(∀n∈ns,gv ns d∣n)/\∀k,k∣d->(∀n∈ns,k∣n)->k∣gv ns d
 |[],d,h=>⟨h,Int.dvd_refl _,by simp,λk a _=>a⟩
 |n::r,d,h=>by
  obtain⟨e,b,f,g⟩:=za r (Int.gcd d n:Int) (by omega);refine⟨e,dvd_trans b (Int.gcd_dvd_left d n),λm hm=>?_,λk a c=>g k (Int.dvd_coe_gcd a (c n (by simp))) λm hm=>c m (aZ _ hm)⟩;rcases aY.mp hm with rfl|hm
  .exact dvd_trans b (Int.gcd_dvd_right d m)
  .exact f m hm
theorem NY{ns:List Int}{d:Int}(h:0<=d){n:Int}(a:n∈ns)(b:0<n):0<gv ns d/\gv ns d<=n:=by
 obtain⟨f,g,c,i⟩:=za ns d h;have hd:=c n a;have hle:=Int.le_of_dvd b hd;refine⟨?_,hle⟩;rcases Int.lt_or_le 0 (gv ns d) with z|z
 .exact z
 .have e:gv ns d=0:=by omega
  rw[e] at hd;have:=Int.zero_dvd.mp hd;omega
def ups(xs:List Rat):List Int:=xs.map λx=>(rf x).1*(bot xs 1/(rf x).2)
def lw(xs:List Rat):List Int:=(ups xs).map (·/gv (ups xs) 0)
theorem VS{xs:List Rat}{x:Rat}(a:x∈xs)(b:0<x):0<(rf x).1*(bot xs 1/(rf x).2):=by
 obtain⟨h1,_,c⟩:=qD xs 1 (by decide);refine fu (dD b) ?_;exact Int.ediv_pos_of_pos_of_dvd h1 (dO (c_ x)) (c x a)
theorem Qj(xs:List Rat):(lw xs).length=xs.length:=by simp[lw,ups]
end MA
section
open PySem PySem.Spec PyProof.Rows
namespace DP
open L2
inductive D where
 |aC|bl (b:Bool)|int (i:Int)|str (x:Str)|tup (xs:List D)|ref (r:Nat)|fl (xs:List Int)|exc (c:Str)
inductive C where
 |lst (xs:List D)|dct (kvs:List (Key×D))|bC (o:Obj) (kvs:List (Key×D))|ins (cl:Str) (fs:List (Str×D))
abbrev Ar:=List C
abbrev Io:=Nat->Addr
section
variable(mg:au)
mutual
def RV(ι:Io)(n:Nat)(H:Hp):D->V->Prop
 |.aC,v=>v=.aC
 |.bl b,v=>v=.bl b
 |.int i,v=>v=.int i
 |.str x,v=>v=.str x
 |.tup ds,v=>∃a xs,v=.ref a/\H a=some (.tup xs)/\ak ι n H ds xs
 |.ref r,v=>r<n/\v=.ref (ι r)
 |.fl ns,v=>∃a o,v=.ref a/\H a=some (.bK o (.lst (ns.map V.int)))
 |.exc c,v=>∃a C,v=.ref a/\mg c=some (.ref C)/\H a=some (Mu a C)
def ak(ι:Io)(n:Nat)(H:Hp):List D->List V->Prop
 |[],xs=>xs=[]
 |d::ds,xs=>∃x r,xs=x::r/\RV ι n H d x/\ak ι n H ds r
end
def RK(ι:Io)(n:Nat)(H:Hp):List (Key×D)->List (Key×V)->Prop
 |[],xs=>xs=[]
 |p::ds,xs=>∃x r,xs=(p.1,x)::r/\RV mg ι n H p.2 x/\RK ι n H ds r
def RF(ι:Io)(n:Nat)(H:Hp):List (Str×D)->List (Str×V)->Prop
 |[],xs=>xs=[]
 |p::ds,xs=>∃x r,xs=(p.1,x)::r/\RV mg ι n H p.2 x/\RF ι n H ds r
def CO(ι:Io)(n:Nat)(H:Hp)(a:Addr):C->Prop
 |.lst ds=>∃xs,H a=some (.lst xs)/\ak mg ι n H ds xs
 |.dct kvs=>∃xs,H a=some (.dK xs)/\RK mg ι n H kvs xs
 |.bC o kvs=>∃xs,H a=some (.bK o (.dK xs))/\RK mg ι n H kvs xs
 |.ins cl fs=>∃Cc dx xs,mg cl=some (.ref Cc)/\H a=some (.ins Cc dx xs)/\RF mg ι n H fs xs
structure RA(ι:Io)(H:Hp)(A:Ar):Prop where
 ia:∀r c,A[r]? =some c->CO mg ι A.length H (ι r) c
 inj:∀r q,r<A.length->q<A.length->ι r=ι q->r=q
end
def jc:HO->Bool
 |.lst _|.dK _|.bK _ (.dK _)|.ins _ _ _=>true
 |_=>false
structure Ext(A:Ar)(ι:Io)(H:Hp)(A':Ar)(ι':Io)(H':Hp):Prop where
 len:A.length<=A'.length
 ag:∀r,r<A.length->ι' r=ι r
 im:∀r,r<A.length->∃o,H (ι r)=some o/\jc o=true
 mo:∀b o,H b=some o->(∀r,r<A.length->ι r≠b)->H' b=some o
 nw:∀r,A.length<=r->r<A'.length->H (ι' r)=none
 al:∀b o,H b=some o->∃o',H' b=some o'
theorem Ext.fix{A A':Ar}{ι ι':Io}{H H':Hp}(e:Ext A ι H A' ι' H'){b:Addr}{o:HO}(a:jc o=false)(h:H b=some o):H' b=some o:=e.mo b o h λr c z=>by
 obtain⟨u,h1,h2⟩:=e.im r c;rw[z,h] at h1;cases h1;rw[a] at h2;cases h2
theorem Ext.trans{A f g:Ar}{ι e d:Io}{H H1 H2:Hp}(a:Ext A ι H f e H1)(b:Ext f e H1 g d H2):Ext A ι H g d H2 where
 len:=cR a.len b.len
 ag:=λr h=>(b.ag r (cJ h a.len)).trans (a.ag r h)
 im:=a.im
 mo:=λc o h i=>b.mo c o (a.mo c o h i) λr j z=>by
  by_cases hl:r<A.length
  .rw[a.ag r hl] at z;exact i r hl z
  .have:=a.nw r (by omega) j
   rw[z,h] at this;cases this
 nw:=λr h1 h2=>by
  by_cases hl:r<f.length
  .rw[b.ag r hl];exact a.nw r h1 hl
  .have n1:=b.nw r (by omega) h2
   cases q:H (d r) with
   |none=>rfl
   |some o=>
    obtain⟨o',h'⟩:=a.al _ o q
    rw[h'] at n1;cases n1
 al:=λc o h=>by
  obtain⟨k,h1⟩:=a.al c o h
  exact b.al c k h1
section
variable{mg:au}{A A':Ar}{ι ι':Io}{H H':Hp}
section
variable{n n':Nat}
mutual
theorem RV.ag(k:n<=n')(e:∀r,r<n->ι' r=ι r)(i:∀b o,jc o=false->H b=some o->H' b=some o):∀(d:D) (v:V),RV mg ι n H d v->RV mg ι' n' H' d v
 |.aC,_,h=>h
 |.bl _,_,h=>h
 |.int _,_,h=>h
 |.str _,_,h=>h
 |.tup ds,v,h=>by
  obtain⟨a,xs,f,g,j⟩:=h;exact⟨a,xs,f,i _ _ rfl g,ak.ag k e i ds xs j⟩
 |.ref r,v,h=>⟨cJ h.1 k,by rw[e r h.1];exact h.2⟩
 |.fl ns,v,h=>by
  obtain⟨a,o,f,g⟩:=h;exact⟨a,o,f,i _ _ rfl g⟩
 |.exc c,v,h=>by
  obtain⟨a,C,f,g,j⟩:=h;exact⟨a,C,f,g,i _ _ rfl j⟩
theorem ak.ag(c:n<=n')(a:∀r,r<n->ι' r=ι r)(e:∀b o,jc o=false->H b=some o->H' b=some o):∀(ds:List D) (vs:List V),ak mg ι n H ds vs->ak mg ι' n' H' ds vs
 |[],_,h=>h
 |d::ds,vs,h=>by
  obtain⟨x,r,f,g,i⟩:=h;exact⟨x,r,f,RV.ag c a e d x g,ak.ag c a e ds r i⟩
end
theorem RK.ag(c:n<=n')(a:∀r,r<n->ι' r=ι r)(e:∀b o,jc o=false->H b=some o->H' b=some o):∀(ds:List (Key×D)) (vs:List (Key×V)),RK mg ι n H ds vs->RK mg ι' n' H' ds vs
 |[],_,h=>h
 |d::ds,vs,h=>by
  obtain⟨x,r,f,g,i⟩:=h;exact⟨x,r,f,RV.ag c a e _ x g,RK.ag c a e ds r i⟩
theorem RF.ag(c:n<=n')(a:∀r,r<n->ι' r=ι r)(e:∀b o,jc o=false->H b=some o->H' b=some o):∀(ds:List (Str×D)) (vs:List (Str×V)),RF mg ι n H ds vs->RF mg ι' n' H' ds vs
 |[],_,h=>h
 |d::ds,vs,h=>by
  obtain⟨x,r,f,g,i⟩:=h;exact⟨x,r,f,RV.ag c a e _ x g,RF.ag c a e ds r i⟩
theorem CO.ag{a:Addr}(g:n<=n')(d:∀r,r<n->ι' r=ι r)(i:∀b o,jc o=false->H b=some o->H' b=some o)(j:∀o,H a=some o->H' a=some o):∀(c:C),CO mg ι n H a c->CO mg ι' n' H' a c
 |.lst ds,h=>by
  obtain⟨xs,e,f⟩:=h;exact⟨xs,j _ e,ak.ag g d i ds xs f⟩
 |.dct ds,h=>by
  obtain⟨xs,e,f⟩:=h;exact⟨xs,j _ e,RK.ag g d i ds xs f⟩
 |.bC o ds,h=>by
  obtain⟨xs,e,f⟩:=h;exact⟨xs,j _ e,RK.ag g d i ds xs f⟩
 |.ins cl ds,h=>by
  obtain⟨k,dx,xs,l,e,f⟩:=h;exact⟨k,dx,xs,l,j _ e,RF.ag g d i ds xs f⟩
end
theorem RV.ext(e:Ext A ι H A' ι' H')(d:D)(v:V)(h:RV mg ι A.length H d v):RV mg ι' A'.length H' d v:=RV.ag e.len e.ag (λ_ _ m h=>e.fix m h) d v h
theorem ak.ext(e:Ext A ι H A' ι' H')(d:List D)(v:List V)(h:ak mg ι A.length H d v):ak mg ι' A'.length H' d v:=ak.ag e.len e.ag (λ_ _ m h=>e.fix m h) d v h
theorem RK.ext(e:Ext A ι H A' ι' H')(d:List (Key×D))(v:List (Key×V))(h:RK mg ι A.length H d v):RK mg ι' A'.length H' d v:=RK.ag e.len e.ag (λ_ _ m h=>e.fix m h) d v h
theorem CO.ext{a:Addr}(e:Ext A ι H A' ι' H')(b:∀o,H a=some o->H' a=some o)(c:C)(h:CO mg ι A.length H a c):CO mg ι' A'.length H' a c:=CO.ag (a:=a) (H:=H) (H':=H') e.len e.ag (λ_ _ m h=>e.fix m h) b c h
theorem ak.length:∀{ds:List D} {vs:List V} {n:Nat},ak mg ι n H ds vs->ds.length=vs.length
 |[],vs,_,h=>by have h':vs=[]:=h;rw[h'];rfl
 |d::ds,vs,n,h=>by
  obtain⟨x,r,rfl,_,a⟩:=h;simp[ak.length a]
theorem ak.get:∀{ds:List D} {vs:List V} {n i:Nat} {d:D},ak mg ι n H ds vs->ds[i]?=some d->∃v,vs[i]?=some v/\RV mg ι n H d v
 |[],_,_,_,_,_,e=>by simp at e
 |d::ds,vs,n,0,d',h,e=>by
  obtain⟨x,r,rfl,a,_⟩:=h;simp at e;subst e;exact⟨x,rfl,a⟩
 |d::ds,vs,n,i+1,d',h,e=>by
  obtain⟨x,r,rfl,_,b⟩:=h;obtain⟨v,h1,h2⟩:=ak.get (i:=i) b (by simpa using e);exact⟨v,by simpa using h1,h2⟩
theorem ak.app:∀{ds es:List D} {vs ws:List V} {n:Nat},ak mg ι n H ds vs->ak mg ι n H es ws->ak mg ι n H (ds++es) (vs++ws)
 |[],_,vs,_,_,h,q=>by have h':vs=[]:=h;rw[h'];exact q
 |d::ds,es,vs,ws,n,h,q=>by
  obtain⟨x,r,rfl,a,b⟩:=h;exact⟨x,r++ws,rfl,a,ak.app b q⟩
theorem ak.take:∀{ds:List D} {vs:List V} {n:Nat} (k:Nat),ak mg ι n H ds vs->ak mg ι n H (ds.take k) (vs.take k)
 |ds,vs,n,0,h=>by simp[ak]
 |[],vs,n,k+1,h=>by have h':vs=[]:=h;rw[h'];simp[ak]
 |d::ds,vs,n,k+1,h=>by
  obtain⟨x,r,rfl,a,b⟩:=h;exact⟨x,r.take k,rfl,a,ak.take k b⟩
theorem ak.drop:∀{ds:List D} {vs:List V} {n:Nat} (k:Nat),ak mg ι n H ds vs->ak mg ι n H (ds.drop k) (vs.drop k)
 |ds,vs,n,0,h=>by simpa using h
 |[],vs,n,k+1,h=>by have h':vs=[]:=h;rw[h'];simp[ak]
 |d::ds,vs,n,k+1,h=>by
  obtain⟨x,r,rfl,b,a⟩:=h;exact ak.drop k a
theorem RA.im(R:RA mg ι H A):∀r,r<A.length->∃o,H (ι r)=some o/\jc o=true:=λr h=>by
 obtain⟨c',b⟩:∃c',A[r]?=some c':=⟨A[r],by rw[br h]⟩;have:=R.ia r c' b;cases c' with
 |lst ds=>obtain⟨xs,a,_⟩:=this;exact⟨_,a,rfl⟩
 |dct ds=>obtain⟨xs,a,_⟩:=this;exact⟨_,a,rfl⟩
 |bC o ds=>obtain⟨xs,a,_⟩:=this;exact⟨_,a,rfl⟩
 |ins cl ds=>obtain⟨c,dx,xs,_,a,_⟩:=this;exact⟨_,a,rfl⟩
theorem RA.refl(R:RA mg ι H A):Ext A ι H A ι H:=⟨aF _,λ_ _=>rfl,R.im,λ_ _ h _=>h,λr h1 h2=>absurd h2 (by omega),λ_ o h=>⟨o,h⟩⟩
theorem RA.uF(R:RA mg ι H A){p:Addr}{o:HO}(a:H p=none):Ext A ι H A ι (upd H p o):=
 ⟨aF _,λ_ _=>rfl,R.im,λb u h _=>by rw[aW (dB h a)];exact h,λr h1 h2=>absurd h2 (by omega),λb u h=>⟨u,by rw[aW (dB h a)];exact h⟩⟩
theorem RA.yS(R:RA mg ι H A){p:Addr}{o:HO}{c:C}(a:H p=none):Ext A ι H (A++[c]) (λr=>if r=A.length then p else ι r) (upd H p o):=
 ⟨by simp,λr h=>by
  show(if r=A.length then p else ι r)=ι r;rw[ay (by omega)],R.im,λb u h _=>by rw[aW (dB h a)];exact h,λr h1 h2=>by
  have e:r=A.length:=by simp at h2;omega
  show H (if r=A.length then p else ι r)=none;rw[av e];exact a,λb u h=>⟨u,by rw[aW (dB h a)];exact h⟩⟩
theorem RA.mX(R:RA mg ι H A){r:Nat}{o:HO}{c:C}(d:r<A.length):Ext A ι H (A.set r c) ι (upd H (ι r) o):=
 ⟨by simp,λ_ _=>rfl,R.im,λb u h f=>by rw[aW (λe=>f r d e.symm)];exact h,λq h1 h2=>absurd h2 (by simp;omega),λb u h=>by
  by_cases a:b=ι r
  .subst a;exact⟨o,eT⟩
  .exact⟨u,by rw[aW a];exact h⟩⟩
theorem RA.fix(R:RA mg ι H A)(e:Ext A ι H A ι H')(k:∀b o,H b=some o->H' b=some o):RA mg ι H' A:=⟨λr c h=>CO.ext e (λo q=>k _ o q) c (R.ia r c h),R.inj⟩
theorem RA.push{p:Addr}{o:HO}{c:C}(R:RA mg ι H A)(e:H p=none)(hc:CO mg (λr=>if r=A.length then p else ι r) (A.length+1) (upd H p o) p c):
  RA mg (λr=>if r=A.length then p else ι r) (upd H p o) (A++[c])/\Ext A ι H (A++[c]) (λr=>if r=A.length then p else ι r) (upd H p o):=by
 have E:Ext A ι H (A++[c]) (λr=>if r=A.length then p else ι r) (upd H p o):=R.yS e;have i:∀r,r<A.length->∃u,H (ι r)=some u:=λr h=>by
  obtain⟨c',f⟩:∃c',A[r]?=some c':=⟨A[r],by rw[br h]⟩;have:=R.ia r c' f;cases c' with
  |lst ds=>obtain⟨xs,b,_⟩:=this;exact⟨_,b⟩
  |dct ds=>obtain⟨xs,b,_⟩:=this;exact⟨_,b⟩
  |bC o ds=>obtain⟨xs,b,_⟩:=this;exact⟨_,b⟩
  |ins cl ds=>obtain⟨k,dx,xs,_,b,_⟩:=this;exact⟨_,b⟩
 refine⟨⟨λr c' h=>?_,λr q g j h=>?_⟩,E⟩
 .by_cases g:r<A.length
  .rw[iI g] at h
   have:=CO.ext E (a:=ι r) (λo' q=>by rw[aW (dB q e)];exact q) c' (R.ia r c' h);show CO mg _ _ _ (if r=A.length then p else ι r) c';rw[ay (by omega)];exact this
  .have hl:r=A.length:=by
    have:=(b8.mp h).1;simp at this;omega
   subst hl;simp at h;subst h;show CO mg _ _ _ (if A.length=A.length then p else ι A.length) c;rw[av rfl];simpa using hc
 .simp at g j
  have h':(if r=A.length then p else ι r)=(if q=A.length then p else ι q):=h;by_cases h1:r=A.length
  .by_cases h2:q=A.length
   .rw[h1,h2]
   .rw[av h1,ay h2] at h'
    obtain⟨u,d⟩:=i q (by omega);rw[<-h',e] at d;cases d
  .by_cases h2:q=A.length
   .rw[ay h1,av h2] at h'
    obtain⟨u,d⟩:=i r (by omega);rw[h',e] at d;cases d
   .rw[ay h1,ay h2] at h'
    exact R.inj r q (by omega) (by omega) h'
theorem RA.put{r:Nat}{u o:HO}{c c':C}(R:RA mg ι H A)(i:A[r]?=some c)(m:H (ι r)=some u)(n:jc u=true)(hc:CO mg ι A.length (upd H (ι r) o) (ι r) c'):
  RA mg ι (upd H (ι r) o) (A.set r c')/\Ext A ι H (A.set r c') ι (upd H (ι r) o):=by
 have f:=(b8.mp i).1;have E:Ext A ι H (A.set r c') ι (upd H (ι r) o):=R.mX f;refine⟨⟨λq d h=>?_,λa b j k=>R.inj a b (by simpa using j) (by simpa using k)⟩,E⟩;by_cases g:q=r
 .subst g
  rw[dJ f] at h;cases h;simpa using hc
 .rw[dI (Ne.symm g)] at h
  have l:=(b8.mp h).1;have:=CO.ext E (a:=ι q) (λo' z=>by rw[aW (λe=>g (R.inj q r l f e))];exact z) d (R.ia q d h);simpa using this
end
abbrev bL:=List (Option D)
def lk:bL->Nat->Option D
 |[],_=>none
 |x::_,0=>x
 |_::r,i+1=>lk r i
theorem u5:∀(τ:bL) (i:Nat),lk τ i=(τ[i]?).join
 |[],i=>by simp[lk]
 |x::r,0=>by simp[lk]
 |x::r,i+1=>by simp[lk,u5 r i]
structure En where
 A:Ar
 ι:Io
 H:Hp
structure RS(mg:au)(ι:Io)(n:Nat)(H:Hp)(τ:bL)(σ:L2.St):Prop where
 len:τ.length=σ.length
 at':∀i d,lk τ i=some d->∃v,σ[i]?=some (some v)/\RV mg ι n H d v
structure dM(mg:au)(N:En)(A:Ar)(ι:Io)(τ:bL)(σ:L2.St)(H:Hp):Prop where
 ra:RA mg ι H A
 rs:RS mg ι A.length H τ σ
 ex:Ext N.A N.ι N.H A ι H
abbrev DK:=D->Ar->Prop
abbrev aM:=bL->Ar->DK->Prop
abbrev fB:=bL->Ar->(Bool->Ar->Prop)->Prop
abbrev dj:=bL->Ar->(List D->Ar->Prop)->Prop
def Kt(mg:au)(A:Ar)(ι:Io)(H:Hp)(R:DK)(Q:VK):Prop:=∀v A' ι' H' u,R v A'->Ext A ι H A' ι' H'->RA mg ι' H' A'->RV mg ι' A'.length H' v u->Q u H'
def om(mg:au)(A:Ar)(ι:Io)(H:Hp)(R:Bool->Ar->Prop)(Q:Bool->Hp->Prop):Prop:=∀v A' ι' H',R v A'->Ext A ι H A' ι' H'->RA mg ι' H' A'->Q v H'
def J3(mg:au)(A:Ar)(ι:Io)(H:Hp)(R:List D->Ar->Prop)(Q:List V->Hp->Prop):Prop:=∀v A' ι' H' u,R v A'->Ext A ι H A' ι' H'->RA mg ι' H' A'->ak mg ι' A'.length H' v u->Q u H'
def up(mg:au)(N:En)(m:aM):TE:=λσ H Q=>∃A ι τ R,dM mg N A ι τ σ H/\m τ A R/\Kt mg A ι H R Q
def cW(mg:au)(N:En)(m:fB):TT:=λσ H Q=>∃A ι τ R,dM mg N A ι τ σ H/\m τ A R/\om mg A ι H R Q
def fJ(mg:au)(N:En)(m:dj):TA:=λσ H Q=>∃A ι τ R,dM mg N A ι τ σ H/\m τ A R/\J3 mg A ι H R Q
section
variable{mg:au}{N:En}{A A':Ar}{ι ι':Io}{τ:bL}{σ:L2.St}{H H':Hp}
theorem RS.ext(e:Ext A ι H A' ι' H')(r:RS mg ι A.length H τ σ):RS mg ι' A'.length H' τ σ:=⟨r.len,λi d h=>by
 obtain⟨v,h1,h2⟩:=r.at' i d h;exact⟨v,h1,RV.ext e d v h2⟩⟩
theorem dM.next(S:dM mg N A ι τ σ H)(e:Ext A ι H A' ι' H')(r:RA mg ι' H' A'):dM mg N A' ι' τ σ H':=⟨r,S.rs.ext e,S.ex.trans e⟩
theorem Kt.from{R:DK}{Q:VK}(k:Kt mg A ι H R Q)(e:Ext A ι H A' ι' H'):Kt mg A' ι' H' R Q:=λv b a H2 u q c=>k v b a H2 u q (e.trans c)
theorem om.from{R:Bool->Ar->Prop}{Q:Bool->Hp->Prop}(k:om mg A ι H R Q)(e:Ext A ι H A' ι' H'):om mg A' ι' H' R Q:=λv b a H2 q c=>k v b a H2 q (e.trans c)
theorem Kt.here{R:DK}{Q:VK}{d:D}{v:V}(k:Kt mg A ι H R Q)(r:RA mg ι H A)(q:R d A)(h:RV mg ι A.length H d v):Q v H:=k d A ι H v q r.refl r h
theorem om.here{R:Bool->Ar->Prop}{Q:Bool->Hp->Prop}{b:Bool}(k:om mg A ι H R Q)(r:RA mg ι H A)(q:R b A):Q b H:=k b A ι H q r.refl r
end
section
variable{X:Cx}{e:Expr}
theorem d9{t t':TE}(h:PE X e t)(w:∀σ H Q,t' σ H Q->t σ H Q):PE X e t':=λpins s σ H Q I q=>h pins s σ H Q I (w σ H Q q)
theorem uz{t t':TT}(h:PT X e t)(w:∀σ H Q,t' σ H Q->t σ H Q):PT X e t':=λpins s σ H Q I q=>h pins s σ H Q I (w σ H Q q)
theorem DB{t t':TT}(h:PW X e t)(w:∀σ H Q,t' σ H Q->t σ H Q):PW X e t':=λwhole pins s σ H Q I q=>h whole pins s σ H Q I (w σ H Q q)
theorem C8{es:List Expr}{t t':TA}(h:PA X es t)(w:∀σ H Q,t' σ H Q->t σ H Q):PA X es t':=λpos pins s σ H Q I q=>h pos pins s σ H Q I (w σ H Q q)
theorem jt{st:Stmt}{t t':TS}(h:PS X st t)(w:∀D σ H,t' D σ H->t D σ H):PS X st t':=λpins s σ H D I q=>h pins s σ H D I (w D σ H q)
theorem DA{st:List Stmt}{t t':TS}(h:dw X st t)(w:∀D σ H,t' D σ H->t D σ H):dw X st t':=λpins s σ H D I q=>h pins s σ H D I (w D σ H q)
end
def cF(i:Nat):aM:=λτ A R=>match lk τ i with
 |some v=>R v A
 |none=>False
def dC(d:D):aM:=λ_ A R=>R d A
section
variable{X:Cx}{N:En}{pos:Pos}
theorem LV{i:Nat}{x:Str}(b:X.N[i]?=some x)(c:oA X.env.scope x)(hd:(x==("__debug__":Str))=false:=by decide)(a:(x==("__classdict__":Str))=false:=by decide):PE X (.Name x pos) (up X.mg N (cF i)):=
 d9 (R1 b c hd a) λσ H Q h=>by
  obtain⟨A,ι,τ,R,S,h,k⟩:=h;unfold cF at h;split at h
  .rename_i v e
   obtain⟨u,h1,h2⟩:=S.rs.at' i v e;exact⟨u,h1,k.here S.ra h h2⟩
  .exact h.elim
theorem qI{e:Expr}{d:D}{v:V}(h:PE X e (tC v))(r:∀ι n H,RV X.mg ι n H d v):PE X e (up X.mg N (dC d)):=
 d9 h λσ H Q h=>by
  obtain⟨A,ι,τ,R,S,h,k⟩:=h;exact k.here S.ra h (r _ _ _)
theorem ao{i j}:PE X (.Constant (.int i) j pos) (up X.mg N (dC (.int i))):=qI RM λ_ _ _=>rfl
theorem jo{b j}:PE X (.Constant (.bool b) j pos) (up X.mg N (dC (.bl b))):=qI Rt λ_ _ _=>rfl
theorem jQ{j}:PE X (.Constant .none j pos) (up X.mg N (dC .aC)):=qI RQ λ_ _ _=>rfl
theorem a_{x j}:PE X (.Constant (.str x) j pos) (up X.mg N (dC (.str x))):=qI RY λ_ _ _=>rfl
theorem mR{x:Str}{i:Int}{t:Tok}(a:X.mg x=some (.int i t))(b:Gl X x:=by rfl)(hd:(x==("__debug__":Str))=false:=by decide):PE X (.Name x pos) (up X.mg N (dC (.int i))):=
 qI (RL (v:=.int i) b a ⟨_,rfl⟩ hd) λ_ _ _=>rfl
end
abbrev eG:=D->D->Ar->DK->Prop
def d8(mg:au)(r:R2)(f:eG):Prop:=∀x y A ι H u v R Q,RA mg ι H A->RV mg ι A.length H x u->RV mg ι A.length H y v->f x y A R->Kt mg A ι H R Q->r u v H Q
def cE(f:eG)(ma mb:aM):aM:=λτ A R=>ma τ A λx A1=>mb τ A1 λy A2=>f x y A2 R
section
variable{X:Cx}{N:En}{pos:Pos}{a b c:Expr}{ma mb mc:aM}{f f':eG}{r r':R2}
theorem wM(h:d8 X.mg r f){σ:L2.St}{H:Hp}{Q:VK}(q:up X.mg N (cE f ma mb) σ H Q):sH r (up X.mg N ma) (up X.mg N mb) σ H Q:=by
 obtain⟨A,ι,τ,R,S,q,k⟩:=q;have q:ma τ A (λx a=>mb τ a λy b=>f x y b R):=q;refine⟨A,ι,τ,_,S,q,λx a c H1 u i e j l=>?_⟩;refine⟨a,c,τ,_,S.next e j,i,λy b d H2 v m g n v2=>?_⟩;exact h x y b d H2 u v R Q n (RV.ext g x u l) v2 m (k.from (e.trans g))
theorem qM{op:Operator}(c:bA X (binaryOp op) r)(hd:d8 X.mg r f)(d:PE X a (up X.mg N ma))(e:PE X b (up X.mg N mb)):PE X (.BinOp a op b pos) (up X.mg N (cE f ma mb)):=
 d9 (RU c d e) λ_ _ _ h=>wM hd h
theorem qH{op:CmpOp}(c:bA X (compareOp op) r)(hd:d8 X.mg r f)(d:PE X a (up X.mg N ma))(e:PE X b (up X.mg N mb))(g:behindInMarks op b=false):PE X (.Compare a [op] [b] pos) (up X.mg N (cE f ma mb)):=
 d9 (RD c d e g) λ_ _ _ h=>wM hd h
def gM(m:aM):fB:=λτ A R=>m τ A λx A1=>match x with
 |.bl k=>R k A1
 |_=>False
theorem AH{t:TE}{m:aM}(d:∀σ H Q,up X.mg N m σ H Q->t σ H Q){σ:L2.St}{H:Hp}{Q:Bool->Hp->Prop}(q:cW X.mg N (gM m) σ H Q):Ay t σ H Q:=by
 obtain⟨A,ι,τ,R,S,q,k⟩:=q;refine d _ _ _ ⟨A,ι,τ,_,S,q,λx e a H1 u c f g h=>?_⟩;cases x with
 |bl b=>exact⟨b,h,k b e a H1 c f g⟩
 |_=>exact c.elim
theorem kG{op:CmpOp}(c:bA X (compareOp op) r)(hd:d8 X.mg r f)(d:PE X a (up X.mg N ma))(e:PE X b (up X.mg N mb))(g:behindInMarks op b=false):PT X (.Compare a [op] [b] pos) (cW X.mg N (gM (cE f ma mb))):=
 uz (SM c d e g) λ_ _ _ h=>AH (λ_ _ _ h=>wM hd h) h
def qG(f f':eG)(ma mb mc:aM):aM:=λτ A R=>ma τ A λx A1=>mb τ A1 λy A2=>f x y A2 λz A3=>match z with
 |.bl k=>cond k (mc τ A3 λw A4=>f' y w A4 R) (R (.bl false) A3)
 |_=>False
theorem Je(h:d8 X.mg r f)(h':d8 X.mg r' f'){σ:L2.St}{H:Hp}{Q:VK}(q:up X.mg N (qG f f' ma mb mc) σ H Q):Av r r' (up X.mg N ma) (up X.mg N mb) (up X.mg N mc) σ H Q:=by
 obtain⟨A,ι,τ,R,S,q,k⟩:=q;refine⟨A,ι,τ,_,S,q,λx s e H1 u t a m B=>?_⟩;refine⟨s,e,τ,_,S.next a m,t,λy C g H2 v D c n v2=>?_⟩;refine h x y C g H2 u v _ _ n (RV.ext c x u B) v2 D λz E i L w j d o F=>?_;cases z with
 |bl b=>
  refine⟨b,F,?_⟩;cases b with
  |true=>
   rw[av rfl];refine⟨E,i,τ,_,((S.next a m).next c n).next d o,j,λz G l I w J p K v4=>?_⟩;exact h' y z G l I v w R Q K (RV.ext (d.trans p) y v v2) v4 J (k.from (((a.trans c).trans d).trans p))
  |false=>
   rw[ay bZ];exact(k.from ((a.trans c).trans d)).here o j rfl
 |_=>exact j.elim
theorem LM{op d:CmpOp}(i:bA X (compareOp op) r)(e:bA X (compareOp d) r')(hd:d8 X.mg r f)(g:d8 X.mg r' f')(j:PE X a (up X.mg N ma))(k:PE X b (up X.mg N mb))(hc:PE X c (up X.mg N mc))
  (l:lastMarks [op,d] [b,c]=false:=by with_unfolding_all rfl):PE X (.Compare a [op,d] [b,c] pos) (up X.mg N (qG f f' ma mb mc)):=
 d9 (RC i e j k hc l) λ_ _ _ h=>Je hd g h
theorem Mb{op d:CmpOp}(i:bA X (compareOp op) r)(e:bA X (compareOp d) r')(hd:d8 X.mg r f)(g:d8 X.mg r' f')(j:PE X a (up X.mg N ma))(k:PE X b (up X.mg N mb))(hc:PE X c (up X.mg N mc))
  (l:lastMarks [op,d] [b,c]=false:=by with_unfolding_all rfl):PT X (.Compare a [op,d] [b,c] pos) (cW X.mg N (gM (qG f f' ma mb mc))):=
 uz (SK i e j k hc l) λ_ _ _ h=>AH (λ_ _ _ h=>Je hd g h) h
theorem ff{m:aM}(h:PE X a (up X.mg N m))(b:∀whole,isTrue a X.env whole=(do let v <-whole;standAt a.pos;holding [v] (truthy v)):=by intro _;rfl):PT X a (cW X.mg N (gM m)):=
 uz (SO h b) λ_ _ _ q=>AH (λ_ _ _ h=>h) q
def Ld(t u:fB):fB:=λτ A R=>t τ A λc A1=>cond c (u τ A1 R) (R false A1)
def Lp(t u:fB):fB:=λτ A R=>t τ A λc A1=>cond c (R true A1) (u τ A1 R)
def Lo(t:fB):fB:=λτ A R=>t τ A λc A1=>R (!c) A1
variable{tA tB:fB}{rest:List Expr}
theorem Mf(b:PT X a (cW X.mg N tA)):PW X (.BoolOp .And [a] pos) (cW X.mg N tA):=pw_and1 b
theorem gO(b:PT X a (cW X.mg N tA)):PW X (.BoolOp .Or [a] pos) (cW X.mg N tA):=pw_or1 b
theorem Me(g:PT X a (cW X.mg N tA))(h:PW X (.BoolOp .And (b::rest) pos) (cW X.mg N tB)):PW X (.BoolOp .And (a::b::rest) pos) (cW X.mg N (Ld tA tB)):=
 DB (pw_and g h) λσ H Q q=>by
  obtain⟨A,ι,τ,R,S,q,k⟩:=q;refine⟨A,ι,τ,_,S,q,λx i c H1 e d f=>?_⟩;cases x with
  |true=>rw[av rfl];exact⟨i,c,τ,_,S.next d f,e,k.from d⟩
  |false=>rw[ay bZ];exact(k.from d).here f e
theorem fX(g:PT X a (cW X.mg N tA))(h:PW X (.BoolOp .Or (b::rest) pos) (cW X.mg N tB)):PW X (.BoolOp .Or (a::b::rest) pos) (cW X.mg N (Lp tA tB)):=
 DB (pw_or g h) λσ H Q q=>by
  obtain⟨A,ι,τ,R,S,q,k⟩:=q;refine⟨A,ι,τ,_,S,q,λx i c H1 e d f=>?_⟩;cases x with
  |true=>rw[av rfl];exact(k.from d).here f e
  |false=>rw[ay bZ];exact⟨i,c,τ,_,S.next d f,e,k.from d⟩
theorem fF(b:PT X a (cW X.mg N tA)):PT X (.UnaryOp .Not a pos) (cW X.mg N (Lo tA)):=
 uz (SN b) λσ H Q q=>by
  obtain⟨A,ι,τ,R,S,q,k⟩:=q;exact⟨A,ι,τ,_,S,q,λx g c H1 d e f=>(k.from e).here f d⟩
def Le(ma mb:aM):aM:=λτ A R=>ma τ A λx A1=>match x with
 |.bl c=>cond c (mb τ A1 R) (R (.bl false) A1)
 |_=>False
theorem qL{op}(h:PE X a (up X.mg N ma)):PE X (.BoolOp op [a] pos) (up X.mg N ma):=RT h
theorem ur(h:PE X a (up X.mg N ma))(i:PE X (.BoolOp .And (b::rest) pos) (up X.mg N mb)):PE X (.BoolOp .And (a::b::rest) pos) (up X.mg N (Le ma mb)):=
 d9 (Rr h i) λσ H Q q=>by
  obtain⟨A,ι,τ,R,S,q,k⟩:=q;refine⟨A,ι,τ,_,S,q,λx j d H1 u e f g l=>?_⟩;cases x with
  |bl c=>
   refine⟨c,l,?_⟩;cases c with
   |true=>rw[av rfl];exact⟨j,d,τ,_,S.next f g,e,k.from f⟩
   |false=>rw[ay bZ];exact(k.from f).here g e rfl
  |_=>exact e.elim
end
def fV:dj:=λ_ A R=>R [] A
def cT(m:aM)(n:dj):dj:=λτ A R=>m τ A λx A1=>n τ A1 λxs A2=>R (x::xs) A2
def Lq(n:dj):aM:=λτ A R=>n τ A λxs A1=>xs.length<=sizeLine/\R (.tup xs) A1
def uh(n:dj):aM:=λτ A R=>n τ A λxs A1=>xs.length<=sizeLine/\R (.ref A1.length) (A1++[.lst xs])
section
variable{X:Cx}{N:En}{pos:Pos}{e:Expr}{es:List Expr}{m:aM}{n:dj}
theorem af:PA X [] (fJ X.mg N fV):=C8 zW λσ H Q q=>by
 obtain⟨A,ι,τ,R,S,q,k⟩:=q;exact k [] A ι H [] q S.ra.refl S.ra rfl
theorem aa(f:PE X e (up X.mg N m))(g:PA X es (fJ X.mg N n))(h:starEach (e::es) X.env=(false,eval e X.env)::starEach es X.env:=by rfl):PA X (e::es) (fJ X.mg N (cT m n)):=
 C8 (zV f g h) λσ H Q q=>by
  obtain⟨A,ι,τ,R,S,q,k⟩:=q;refine⟨A,ι,τ,_,S,q,λx i a H1 u j c l o=>?_⟩;refine⟨i,a,τ,_,S.next c l,j,λy p b H2 v r d s v2=>?_⟩;exact k _ p b H2 _ r (c.trans d) s ⟨u,v,rfl,RV.ext d x u o,v2⟩
theorem zO{mg:au}{A:Ar}{ι:Io}{H:Hp}{R:DK}{Q:VK}{ds:List D}{xs:List V}{p:Addr}(k:Kt mg A ι H R Q)(r:RA mg ι H A)(h:ak mg ι A.length H ds xs)(q:R (.tup ds) A)(a:H p=none):Q (.ref p) (upd H p (.tup xs)):=by
 have E:Ext A ι H A ι (upd H p (.tup xs)):=r.uF a;exact k _ A ι _ _ q E (r.fix E λb o z=>by rw[aW (dB z a)];exact z) ⟨p,xs,rfl,eT,ak.ext E ds xs h⟩
theorem lU{mg:au}{A:Ar}{ι:Io}{H:Hp}{R:DK}{Q:VK}{ds:List D}{xs:List V}{p:Addr}(k:Kt mg A ι H R Q)(r:RA mg ι H A)(h:ak mg ι A.length H ds xs)(q:R (.ref A.length) (A++[.lst ds]))(a:H p=none):Q (.ref p) (upd H p (.lst xs)):=by
 have E:Ext A ι H (A++[.lst ds]) (λr=>if r=A.length then p else ι r) (upd H p (.lst xs)):=r.yS a;obtain⟨b,d⟩:=r.push (c:=.lst ds) (o:=.lst xs) a ⟨xs,eT,by simpa using ak.ext E ds xs h⟩;refine k _ _ _ _ _ q d b ⟨by simp,?_⟩;show V.ref p=V.ref (if A.length=A.length then p else ι A.length);rw[av rfl]
theorem cU{c}(h:PA X es (fJ X.mg N n)):PE X (.Tuple es c pos) (up X.mg N (Lq n)):=d9 (RZ h) λσ H Q q=>by
 obtain⟨A,ι,τ,R,S,q,k⟩:=q;refine⟨A,ι,τ,_,S,q,λx i d H1 u a e f b=>?_⟩;exact⟨by rw[<-ak.length b];exact a.1,λp g=>zO (k.from e) f b a.2 g⟩
theorem cG(h:PA X es (fJ X.mg N n)):PE X (.List es pos) (up X.mg N (uh n)):=d9 (RP h) λσ H Q q=>by
 obtain⟨A,ι,τ,R,S,q,k⟩:=q;refine⟨A,ι,τ,_,S,q,λx g c H1 u a d e b=>?_⟩;exact⟨by rw[<-ak.length b];exact a.1,λp f=>lU (k.from d) e b a.2 f⟩
end
section
variable{mg:au}{K:Frag}{A:Ar}{ι:Io}{H:Hp}
theorem RA.lst(r:RA mg ι H A){q:Nat}{ds:List D}(h:A[q]?=some (.lst ds)):∃xs,H (ι q)=some (.lst xs)/\ak mg ι A.length H ds xs:=r.ia q _ h
theorem RA.dct(r:RA mg ι H A){q:Nat}{ds:List (Key×D)}(h:A[q]?=some (.dct ds)):∃xs,H (ι q)=some (.dK xs)/\RK mg ι A.length H ds xs:=r.ia q _ h
theorem RA.bC(r:RA mg ι H A){q:Nat}{o:Obj}{ds:List (Key×D)}(h:A[q]?=some (.bC o ds)):∃xs,H (ι q)=some (.bK o (.dK xs))/\RK mg ι A.length H ds xs:=r.ia q _ h
theorem ak.ints:∀(ns:List Int) {n:Nat},ak mg ι n H (ns.map D.int) (ns.map V.int)
 |[],_=>rfl
 |i::r,n=>⟨_,_,rfl,rfl,ak.ints r⟩
theorem ak.FD{n:Nat}{ds:List D}(h:ak mg ι n H ds []):ds=[]:=by
 cases ds with
 |nil=>rfl
 |cons d r=>obtain⟨x,r,e,_⟩:=h;cases e
end
abbrev Gk(K:Frag):R2:=λx y H Q=>jd (λi j=>.int (i+j)) x y H Q\/(∃i j,x=.str i/\y=.str j/\i.length+j.length<=sizeLine/\Q (.str (i++j)) H)\/Gp K x y H Q\/Gn x y H Q
theorem QN{X:Cx}:bA X (binaryOp .Add) (Gk X.K):=QY.or (QZ.or (Q2.or Q0))
@[irreducible] def ue(r q:Nat)(A:Ar)(R:DK):Prop:=match A[r]?,A[q]? with
 |some (.lst xs),some (.lst ys)=>xs.length+ys.length<=sizeLine/\R (.ref A.length) (A++[.lst (xs++ys)])
 |_,_=>False
def qx:eG:=λx y A R=>match x,y with
 |.int i,.int j=>R (.int (i+j)) A
 |.str a,.str b=>a.length+b.length<=sizeLine/\R (.str (a++b)) A
 |.tup xs,.tup ys=>xs.length+ys.length<=sizeLine/\R (.tup (xs++ys)) A
 |.ref r,.ref q=>ue r q A R
 |_,_=>False
theorem Ls{mg:au}{K:Frag}:d8 mg (Gk K) qx:=by
 intro x y A ι H u v R Q ra e f h k;unfold qx at h;split at h
 .cases e;cases f
  exact .inl ⟨_,_,rfl,rfl,k.here ra h rfl⟩
 .cases e;cases f
  exact .inr (.inl ⟨_,_,rfl,rfl,h.1,k.here ra h.2 rfl⟩)
 .obtain⟨a,xs,rfl,g,c⟩:=e
  obtain⟨b,ys,rfl,i,d⟩:=f;refine .inr (.inr (.inl ⟨a,b,xs,ys,rfl,rfl,bJ.of g,bJ.of i,by rw[<-ak.length c,<-ak.length d];exact h.1,λz=>?_,λ_ z=>?_,λ_ _ p j=>zO k ra (c.app d) h.2 j⟩))
  .subst z
   obtain rfl:=ak.FD c;exact k.here ra h.2 ⟨b,ys,rfl,i,d⟩
  .subst z
   obtain rfl:=ak.FD d;exact k.here ra h.2 ⟨a,xs,rfl,g,by rw[lg];exact c⟩
 .rename_i r q
  unfold ue at h;split at h
  .rename_i xs ys g i
   obtain⟨l,h1,c⟩:=ra.lst g;obtain⟨vs,h2,d⟩:=ra.lst i;obtain⟨_,rfl⟩:=e;obtain⟨_,rfl⟩:=f;exact .inr (.inr (.inr ⟨_,_,l,vs,rfl,rfl,h1,h2,by rw[<-ak.length c,<-ak.length d];exact h.1,λp j=>lU k ra (c.app d) h.2 j⟩))
  .exact h.elim
 .exact h.elim
def intD(C:Int->Int->Prop)(g:Int->Int->D):eG:=λx y A R=>match x,y with
 |.int i,.int j=>C i j/\R (g i j) A
 |_,_=>False
def uQ(g:Int->Int->D):eG:=λx y A R=>match x,y with
 |.int i,.int j=>R (g i j) A
 |_,_=>False
theorem yx{mg:au}{C:Int->Int->Prop}{g:Int->Int->V}{g':Int->Int->D}(a:∀i j ι n H,RV mg ι n H (g' i j) (g i j)):d8 mg (rI C g) (intD C g'):=by
 intro x y A ι H u v R Q ra b c h k;unfold intD at h;split at h
 .cases b;cases c
  exact⟨_,_,rfl,rfl,h.1,k.here ra h.2 (a _ _ _ _ _)⟩
 .exact h.elim
theorem C2{mg:au}{g:Int->Int->V}{g':Int->Int->D}(a:∀i j ι n H,RV mg ι n H (g' i j) (g i j)):d8 mg (jd g) (uQ g'):=by
 intro x y A ι H u v R Q ra b c h k;unfold uQ at h;split at h
 .cases b;cases c
  exact⟨_,_,rfl,rfl,k.here ra h (a _ _ _ _ _)⟩
 .exact h.elim
abbrev U4:eG:=uQ λi j=>.int (i - j)
abbrev QA:eG:=intD tL λi j=>.int (i*j)
abbrev L3:eG:=intD (λ_ j=>0<j/\j.natAbs.log2<9000) λi j=>.int (i/j)
abbrev Qw:eG:=intD (λ_ j=>0<j) λi j=>.int (i%j)
section
variable{X:Cx}{N:En}{pos:Pos}{a b c:Expr}{ma mb mc:aM}
theorem cM(c:PE X a (up X.mg N ma))(d:PE X b (up X.mg N mb)):PE X (.BinOp a .Add b pos) (up X.mg N (cE qx ma mb)):=qM QN Ls c d
theorem qN(c:PE X a (up X.mg N ma))(d:PE X b (up X.mg N mb)):PE X (.BinOp a .Sub b pos) (up X.mg N (cE U4 ma mb)):=qM Rk (C2 λ_ _ _ _ _=>rfl) c d
theorem iO(c:PE X a (up X.mg N ma))(d:PE X b (up X.mg N mb)):PE X (.BinOp a .Mult b pos) (up X.mg N (cE QA ma mb)):=qM Rh (yx λ_ _ _ _ _=>rfl) c d
theorem qJ(c:PE X a (up X.mg N ma))(d:PE X b (up X.mg N mb)):PE X (.BinOp a .FloorDiv b pos) (up X.mg N (cE L3 ma mb)):=qM Q7 (yx λ_ _ _ _ _=>rfl) c d
theorem qK(c:PE X a (up X.mg N ma))(d:PE X b (up X.mg N mb)):PE X (.BinOp a .Mod b pos) (up X.mg N (cE Qw ma mb)):=qM Rg (yx λ_ _ _ _ _=>rfl) c d
end
abbrev GC:R2:=λx y H Q=>jd (λi j=>.bl (decide (i<j))) x y H Q\/∃i j,x=.str i/\y=.str j/\Q (.bl (decide (i.cps.toList<j.cps.toList))) H
abbrev GB:R2:=λx y H Q=>jd (λi j=>.bl (decide (i<=j))) x y H Q\/∃i j,x=.str i/\y=.str j/\Q (.bl (!decide (j.cps.toList<i.cps.toList))) H
theorem QO{X:Cx}:bA X (compareOp .Lt) GC:=Rc.or Rf
theorem vg{X:Cx}:bA X (compareOp .LtE) GB:=Ra.or Rb
def zF:eG:=λx y A R=>match x,y with
 |.int i,.int j=>R (.bl (decide (i<j))) A
 |.str a,.str b=>R (.bl (decide (a.cps.toList<b.cps.toList))) A
 |_,_=>False
def o6:eG:=λx y A R=>match x,y with
 |.int i,.int j=>R (.bl (decide (i<=j))) A
 |.str a,.str b=>R (.bl (!decide (b.cps.toList<a.cps.toList))) A
 |_,_=>False
theorem LB{mg:au}:d8 mg GC zF:=by
 intro x y A ι H u v R Q ra a b h k;unfold zF at h;split at h
 .cases a;cases b;exact .inl ⟨_,_,rfl,rfl,k.here ra h rfl⟩
 .cases a;cases b;exact .inr ⟨_,_,rfl,rfl,k.here ra h rfl⟩
 .exact h.elim
theorem um{mg:au}:d8 mg GB o6:=by
 intro x y A ι H u v R Q ra a b h k;unfold o6 at h;split at h
 .cases a;cases b;exact .inl ⟨_,_,rfl,rfl,k.here ra h rfl⟩
 .cases a;cases b;exact .inr ⟨_,_,rfl,rfl,k.here ra h rfl⟩
 .exact h.elim
abbrev Em:eG:=uQ λi j=>.bl (decide (j<i))
theorem Lx{mg:au}:d8 mg (jd λi j=>.bl (decide (j<i))) Em:=C2 λ_ _ _ _ _=>rfl
def zo:D->Bool
 |.aC=>true
 |_=>false
def uT:eG:=λx y A R=>match y with
 |.aC=>R (.bl (zo x)) A
 |_=>False
def ve:eG:=λx y A R=>match y with
 |.aC=>R (.bl (!zo x)) A
 |_=>False
theorem RV.FG{mg:au}{ι:Io}{n:Nat}{H:Hp}{x:D}{u:V}(r:RV mg ι n H x u):decide (u=.aC)=zo x:=by
 cases x with
 |aC=>cases r;rfl
 |bl b=>cases r;rfl
 |int b=>cases r;rfl
 |str b=>cases r;rfl
 |tup ds=>obtain⟨a,xs,rfl,_⟩:=r;rfl
 |ref q=>obtain⟨_,rfl⟩:=r;rfl
 |fl ns=>obtain⟨a,o,rfl,_⟩:=r;rfl
 |exc c=>obtain⟨a,C,rfl,_⟩:=r;rfl
theorem Lz{mg:au}:d8 mg (λx y H Q=>y=.aC/\Q (.bl (decide (x=.aC))) H) uT:=by
 intro x y A ι H u v R Q ra a b h k;unfold uT at h;split at h
 .cases b
  refine⟨rfl,?_⟩;rw[a.FG];exact k.here ra h rfl
 .exact h.elim
theorem C5{mg:au}:d8 mg (λx y H Q=>y=.aC/\Q (.bl (!decide (x=.aC))) H) ve:=by
 intro x y A ι H u v R Q ra a b h k;unfold ve at h;split at h
 .cases b
  refine⟨rfl,?_⟩;rw[a.FG];exact k.here ra h rfl
 .exact h.elim
mutual
def toQ:D->PyData
 |.aC=>.none
 |.bl b=>.bool b
 |.int i=>.int i
 |.str x=>.str x
 |.tup xs=>.tuple (bF xs)
 |.ref _=>.none
 |.fl ns=>.list (ns.map .int)
 |.exc _=>.none
def bF:List D->List PyData
 |[]=>[]
 |d::r=>toQ d::bF r
end
mutual
def f6:D->Bool
 |.tup xs=>fk xs
 |.ref _=>false
 |.exc _=>false
 |_=>true
def fk:List D->Bool
 |[]=>true
 |d::r=>f6 d&&fk r
end
def bO(A:Ar):D->PyData
 |.ref r=>match A[r]? with
  |some (.lst xs)=>.list (bF xs)
  |_=>.none
 |d=>toQ d
def fj(A:Ar):D->Bool
 |.ref r=>match A[r]? with
  |some (.lst xs)=>fk xs
  |_=>false
 |d=>f6 d
section
variable{mg:au}{K:Frag}{A:Ar}{ι:Io}{H:Hp}
theorem L6:∀ns:List Int,fT K H (ns.map V.int) (ns.map PyData.int):=fT.ints
mutual
theorem RV.dp{n:Nat}:∀(d:D) (v:V),f6 d=true->RV mg ι n H d v->Dp K H v (toQ d)
 |.aC,_,_,h=>by cases h;exact .aC
 |.bl b,_,_,h=>by cases h;exact .bl b
 |.int i,_,_,h=>by cases h;exact .int i
 |.str x,_,_,h=>by cases h;exact .str x
 |.tup ds,v,p,h=>by
  obtain⟨a,xs,rfl,e,r⟩:=h;exact .tup (bJ.of e) (ak.dp ds xs (by simpa[f6] using p) r)
 |.ref _,_,p,_=>by simp[f6] at p
 |.fl ns,v,_,h=>by
  obtain⟨a,o,rfl,e⟩:=h;exact .lst (.inl (.inr ⟨o,e⟩)) (L6 ns)
 |.exc _,_,p,_=>by simp[f6] at p
theorem ak.dp{n:Nat}:∀(ds:List D) (vs:List V),fk ds=true->ak mg ι n H ds vs->fT K H vs (bF ds)
 |[],vs,_,h=>by cases (show vs=[] from h);exact .nil
 |d::ds,vs,p,h=>by
  obtain⟨x,r,rfl,h1,h2⟩:=h;have a:f6 d=true/\fk ds=true:=by simpa[fk] using p
  exact .cons (RV.dp d x a.1 h1) (ak.dp ds r a.2 h2)
end
theorem RA.dp(ra:RA mg ι H A){d:D}{v:V}(p:fj A d=true)(h:RV mg ι A.length H d v):Dp K H v (bO A d):=by
 cases d with
 |ref r=>
  obtain⟨_,rfl⟩:=h;unfold fj at p;unfold bO;simp only at p ⊢;split at p
  .rename_i xs e
   obtain⟨a,h1,b⟩:=ra.lst e;exact .lst (aR.of h1) (ak.dp xs a p b)
  .cases p
 |_=>exact RV.dp _ v p h
end
@[irreducible] def fE(neg:Bool)(x y:D)(A:Ar)(R:DK):Prop:=fj A x=true/\fj A y=true/\(bO A x).canLay0=true/\(bO A y).canLay0=true/\min (bO A x).depth (bO A y).depth<=64/\R (.bl (if neg then !PyData.eqv (bO A x) (bO A y) else PyData.eqv (bO A x) (bO A y))) A
def qS:eG:=λx y A R=>match x,y with
 |.int i,.int j=>R (.bl (decide (i=j))) A
 |.str a,.str b=>R (.bl (decide (a=b))) A
 |.bl a,.bl b=>R (.bl (decide (a=b))) A
 |x,y=>fE false x y A R
def rH:eG:=λx y A R=>match x,y with
 |.int i,.int j=>R (.bl (!decide (i=j))) A
 |.str a,.str b=>R (.bl (!decide (a=b))) A
 |.bl a,.bl b=>R (.bl (!decide (a=b))) A
 |x,y=>fE true x y A R
theorem FJ{X:Cx}(a:X.A.units+64<cLine):bA X (compareOp .Eq) (λx y H Q=>z6 x y H Q\/z7 X.K x y H Q):=Q5.or (Q6 a)
theorem FL{X:Cx}(a:X.A.units+64<cLine):bA X (compareOp .NotEq) (λx y H Q=>z9 x y H Q\/v9 X.K x y H Q):=Ri.or (FT a)
theorem CZ{mg:au}{K:Frag}:d8 mg (λx y H Q=>z6 x y H Q\/z7 K x y H Q) qS:=by
 intro x y A ι H u v R Q ra a b h k;unfold qS at h;split at h
 .cases a;cases b
  rename_i i j;refine .inl ⟨rfl,?_⟩;have e:decide (V.int i=V.int j)=decide (i=j):=by simp
  rw[e];exact k.here ra h rfl
 .cases a;cases b
  rename_i i j;refine .inl ⟨rfl,?_⟩;have e:decide (V.str i=V.str j)=decide (i=j):=by simp
  rw[e];exact k.here ra h rfl
 .cases a;cases b
  rename_i i j;refine .inl ⟨rfl,?_⟩;have e:decide (V.bl i=V.bl j)=decide (i=j):=by simp
  rw[e];exact k.here ra h rfl
 .unfold fE at h
  obtain⟨c,p2,d,f,hd,q⟩:=h;exact .inr ⟨_,_,ra.dp c a,ra.dp p2 b,d,f,hd,k.here ra q rfl⟩
theorem C4{mg:au}{K:Frag}:d8 mg (λx y H Q=>z9 x y H Q\/v9 K x y H Q) rH:=by
 intro x y A ι H u v R Q ra a b h k;unfold rH at h;split at h
 .cases a;cases b
  rename_i i j;refine .inl ⟨rfl,?_⟩;have e:decide (V.int i=V.int j)=decide (i=j):=by simp
  rw[e];exact k.here ra h rfl
 .cases a;cases b
  rename_i i j;refine .inl ⟨rfl,?_⟩;have e:decide (V.str i=V.str j)=decide (i=j):=by simp
  rw[e];exact k.here ra h rfl
 .cases a;cases b
  rename_i i j;refine .inl ⟨rfl,?_⟩;have e:decide (V.bl i=V.bl j)=decide (i=j):=by simp
  rw[e];exact k.here ra h rfl
 .unfold fE at h
  obtain⟨c,p2,d,f,hd,q⟩:=h;exact .inr ⟨_,_,ra.dp c a,ra.dp p2 b,d,f,hd,k.here ra q rfl⟩
def fM:D->Option Key
 |.int i=>some (.inl i)
 |.str x=>some (.inr x)
 |_=>none
def bf:List (Key×D)->Key->Option D
 |[],_=>none
 |p::r,k=>if p.1=k then some p.2 else bf r k
@[irreducible] def kK(r:Nat)(y:D)(A:Ar)(R:DK):Prop:=match A[r]? with
 |some (.lst xs)=>(match y with
  |.int i=>(match cX xs i with
   |some v=>R v A
   |none=>False)
  |_=>False)
 |some (.dct kvs)=>(match fM y with
  |some k=>(match bf kvs k with
   |some v=>R v A
   |none=>False)
  |none=>False)
 |some (.bC _ kvs)=>(match fM y with
  |some k=>(match bf kvs k with
   |some v=>R v A
   |none=>False)
  |none=>False)
 |_=>False
def mZ:eG:=λx y A R=>match x,y with
 |.tup xs,.int i=>match cX xs i with
  |some v=>R v A
  |none=>False
 |.str z,.int i=>match cX z.cps.toList i with
  |some c=>z.length<=sizeLine/\R (.str ⟨#[c]⟩) A
  |none=>False
 |.fl ns,.int i=>match cX ns i with
  |some c=>R (.int c) A
  |none=>False
 |.ref r,y=>kK r y A R
 |_,_=>False
section
variable{mg:au}{K:Frag}{A:Ar}{ι:Io}{H:Hp}
theorem ak.cX{n:Nat}{ds:List D}{vs:List V}{i:Int}{d:D}(r:ak mg ι n H ds vs)(h:L2.cX ds i=some d):∃v,L2.cX vs i=some v/\RV mg ι n H d v:=by
 unfold L2.cX at h ⊢;rw[<-ak.length r];cases q:kJ ds.length i with
 |none=>rw[q] at h;cases h
 |some j=>
  rw[q] at h;exact ak.get r h
theorem Kl{α β:Type}(f:α->β)(xs:List α)(i:Int):L2.cX (xs.map f) i=(L2.cX xs i).map f:=by
 unfold L2.cX;rw[aP];cases kJ xs.length i with
 |none=>rfl
 |some j=>simp
theorem RK.get{n:Nat}:∀{kvs:List (Key×D)} {xs:List (Key×V)} {k:Key},RK mg ι n H kvs xs->(∀d,bf kvs k=some d->∃v,eZ xs k=some v/\RV mg ι n H d v)/\(bf kvs k=none->eZ xs k=none)
 |[],xs,k,h=>by
  cases (show xs=[] from h);exact⟨λd e=>by simp[bf] at e,λ_=>rfl⟩
 |p::r,xs,k,h=>by
  obtain⟨x,r',rfl,h1,h2⟩:=h;obtain⟨b,c⟩:=RK.get (k:=k) h2;unfold bf;by_cases a:p.1=k
  .rw[av a]
   have e:eZ ((p.1,x)::r') k=some x:=by simp[eZ,a]
   rw[e];exact⟨λd z=>by cases z;exact⟨x,rfl,h1⟩,λz=>by cases z⟩
  .rw[ay a]
   have e:eZ ((p.1,x)::r') k=eZ r' k:=by simp[eZ,mD,a]
   rw[e];exact⟨b,c⟩
theorem m6{n:Nat}{y:D}{v:V}{k:Key}(h:fM y=some k)(r:RV mg ι n H y v):v=kV k:=by
 cases y with
 |int i=>cases h;exact r
 |str x=>cases h;exact r
 |_=>cases h
end
def Gx:R2:=λx y H Q=>∃a v,x=.ref a/\oh H a y (some v)/\Q v H
theorem O9{X:Cx}(i:X.A.units+64<cLine):jj X Gx:=by
 intro value slice pins s σ H x y v u Q I c d h e;obtain⟨a,z,rfl,g,q⟩:=h;cases c;exact tail_any (L1 I g) PySem.F.slot_dict_getitem.lookup (Lw (by omega) I g d λj k f b=>⟨z,H,f,b,q⟩) e
abbrev Gw(K:Frag):R2:=λx y H Q=>Gv K x y H Q\/Gx x y H Q
theorem OU{X:Cx}(a:X.A.units+64<cLine):jj X (Gw X.K):=Pa.or (O9 a)
theorem LA{mg:au}{K:Frag}:d8 mg (Gw K) mZ:=by
 intro x y A ι H u v R Q ra i f h k;unfold mZ at h;split at h
 .obtain⟨a,xs,rfl,j,b⟩:=i
  cases f;split at h
  .rename_i d e
   obtain⟨z,hz,c⟩:=b.cX e;exact .inl (.inr (.inl ⟨a,xs,_,z,rfl,rfl,bJ.of j,hz,k.here ra h c⟩))
  .exact h.elim
 .cases i;cases f
  split at h
  .rename_i d e
   exact .inl (.inr (.inr ⟨_,_,_,rfl,rfl,h.1,e,k.here ra h.2 rfl⟩))
  .exact h.elim
 .obtain⟨a,o,rfl,j⟩:=i
  cases f;split at h
  .rename_i d e
   exact .inl (.inl ⟨a,_,_,_,rfl,rfl,.inl (.inr ⟨o,j⟩),by rw[Kl,e];rfl,k.here ra h rfl⟩)
  .exact h.elim
 .obtain⟨_,rfl⟩:=i
  unfold kK at h;split at h
  .rename_i xs e
   obtain⟨g,h1,b⟩:=ra.lst e;split at h
   .cases f
    split at h
    .rename_i d e
     obtain⟨z,hz,c⟩:=b.cX e;exact .inl (.inl ⟨_,g,_,z,rfl,rfl,aR.of h1,hz,k.here ra h c⟩)
    .exact h.elim
   .exact h.elim
  .rename_i kvs e
   obtain⟨g,h1,b⟩:=ra.dct e;split at h
   .rename_i l m
    cases m6 m f;split at h
    .rename_i d n
     obtain⟨z,hz,c⟩:=(RK.get b).1 d n;exact .inr ⟨_,z,rfl,.inl ⟨g,l,.inl h1,rfl,hz.symm⟩,k.here ra h c⟩
    .exact h.elim
   .exact h.elim
  .rename_i o kvs e
   obtain⟨g,h1,b⟩:=ra.bC e;split at h
   .rename_i l m
    cases m6 m f;split at h
    .rename_i d n
     obtain⟨z,hz,c⟩:=(RK.get b).1 d n;exact .inr ⟨_,z,rfl,.inl ⟨g,l,.inr ⟨o,h1⟩,rfl,hz.symm⟩,k.here ra h c⟩
    .exact h.elim
   .exact h.elim
  .exact h.elim
 .exact h.elim
theorem LP{X:Cx}{N:En}{pos:Pos}{a b:Expr}{ma mb:aM}(c:X.A.units+64<cLine)(d:PE X a (up X.mg N ma))(e:PE X b (up X.mg N mb))(f:xO b):PE X (.Subscript a b pos) (up X.mg N (cE mZ ma mb)):=
 d9 (RN (OU c) d e f) λ_ _ _ h=>wM LA h
structure lC where
 nx:bL->Ar->Prop
 rt:DK
 bk:bL->Ar->Prop:=λ_ _=>False
 ct:bL->Ar->Prop:=λ_ _=>False
abbrev dh:=lC->bL->Ar->Prop
def jJ(mg:au)(A:Ar)(ι:Io)(H:Hp)(R:bL->Ar->Prop)(Q:L2.St->Hp->Prop):Prop:=∀τ A' ι' σ H',R τ A'->Ext A ι H A' ι' H'->RA mg ι' H' A'->RS mg ι' A'.length H' τ σ->Q σ H'
structure tU(mg:au)(A:Ar)(ι:Io)(H:Hp)(R:lC)(Q:Ends):Prop where
 nx:jJ mg A ι H R.nx Q.nx
 rt:Kt mg A ι H R.rt Q.rt
 bk:jJ mg A ι H R.bk Q.bk
 ct:jJ mg A ι H R.ct Q.ct
def cQ(mg:au)(N:En)(m:dh):TS:=λQ σ H=>∃A ι τ R,dM mg N A ι τ σ H/\m R τ A/\tU mg A ι H R Q
section
variable{mg:au}{N:En}{A A':Ar}{ι ι':Io}{τ bS:bL}{σ σ':L2.St}{H H':Hp}
theorem jJ.from{R:bL->Ar->Prop}{Q:L2.St->Hp->Prop}(k:jJ mg A ι H R Q)(e:Ext A ι H A' ι' H'):jJ mg A' ι' H' R Q:=λτ b a σ H2 q c=>k τ b a σ H2 q (e.trans c)
theorem tU.from{R:lC}{Q:Ends}(k:tU mg A ι H R Q)(e:Ext A ι H A' ι' H'):tU mg A' ι' H' R Q:=⟨k.nx.from e,k.rt.from e,k.bk.from e,k.ct.from e⟩
theorem jJ.here{R:bL->Ar->Prop}{Q:L2.St->Hp->Prop}(k:jJ mg A ι H R Q)(S:dM mg N A ι τ σ H)(q:R τ A):Q σ H:=k τ A ι σ H q S.ra.refl S.ra S.rs
theorem dM.to(S:dM mg N A ι τ σ H)(e:Ext A ι H A' ι' H')(r:RA mg ι' H' A')(s:RS mg ι' A'.length H' bS σ'):dM mg N A' ι' bS σ' H':=⟨r,s,S.ex.trans e⟩
theorem E7:∀(τ:bL) (i:Nat) (d:D),i<τ.length->lk (τ.set i (some d)) i=some d
 |[],i,d,h=>by simp at h
 |x::r,0,d,_=>rfl
 |x::r,i+1,d,h=>E7 r i d (by simpa using h)
theorem E6:∀(τ:bL) (i j:Nat) (d:Option D),j≠i->lk (τ.set i d) j=lk τ j
 |[],i,j,d,_=>rfl
 |x::r,0,0,d,h=>absurd rfl h
 |x::r,0,j+1,d,_=>rfl
 |x::r,i+1,0,d,_=>rfl
 |x::r,i+1,j+1,d,h=>E6 r i j d (by omega)
theorem RS.set{n:Nat}{i:Nat}{d:D}{v:V}(r:RS mg ι n H τ σ)(h:RV mg ι n H d v):RS mg ι n H (τ.set i (some d)) (σ.set i (some v)):=⟨by simp[r.len],λj e q=>by
 by_cases a:j=i
 .subst a
  by_cases hl:j<τ.length
  .rw[E7 _ _ _ hl] at q
   cases q;refine⟨v,?_,h⟩;rw[dJ (by rw[<-r.len];exact hl)]
  .rw[List.set_eq_of_length_le (by omega)] at q
   rw[u5,nZ (by omega)] at q;cases q
 .rw[E6 _ _ _ _ a] at q
  obtain⟨w,h1,h2⟩:=r.at' j e q;exact⟨w,by rw[dI (Ne.symm a)];exact h1,h2⟩⟩
theorem dM.set{i:Nat}{d:D}{v:V}(S:dM mg N A ι τ σ H)(h:RV mg ι A.length H d v):dM mg N A ι (τ.set i (some d)) (σ.set i (some v)) H:=⟨S.ra,S.rs.set h,S.ex⟩
end
def G1:dh:=λR τ A=>R.nx τ A
def wh(t u:dh):dh:=λR τ A=>t {R with nx:=u R} τ A
def sA(m:aM):dh:=λR τ A=>m τ A λ_ A1=>R.nx τ A1
def G2(m:aM):dh:=λR τ A=>m τ A R.rt
def G0(c:fB)(t u:dh):dh:=λR τ A=>c τ A λb A1=>cond b (t R τ A1) (u R τ A1)
section
variable{X:Cx}{N:En}{pos:Pos}{st:Stmt}{rest:List Stmt}{t u:dh}{e:Expr}{m:aM}
theorem bT:dw X [] (cQ X.mg N G1):=DA SJ λQ σ H q=>by
 obtain⟨A,ι,τ,R,S,q,k⟩:=q;exact k.nx.here S q
theorem aD(h1:PS X st (cQ X.mg N t))(h2:dw X rest (cQ X.mg N u)):dw X (st::rest) (cQ X.mg N (wh t u)):=DA (SI h1 h2) λQ σ H q=>by
 obtain⟨A,ι,τ,R,S,q,k⟩:=q;exact⟨A,ι,τ,_,S,q,⟨λa d b e H1 f c g h=>⟨d,b,a,R,S.to c g h,f,k.from c⟩,k.rt,k.bk,k.ct⟩⟩
theorem aA(h1:PS X st (cQ X.mg N t)):dw X [st] (cQ X.mg N t):=Gb h1
theorem cV(b:PE X e (up X.mg N m))(c:swapsWith e none pos.line X.env=pure false:=by rfl):PS X (.Expr e pos) (cQ X.mg N (sA m)):=jt (Sw b c) λQ σ H q=>by
 obtain⟨A,ι,τ,R,S,q,k⟩:=q;exact⟨A,ι,τ,_,S,q,λv h d H1 u f a g i=>(k.nx.from a).here (S.next a g) f⟩
theorem aN(a:PE X e (up X.mg N m)):PS X (.Return (some e) pos) (cQ X.mg N (G2 m)):=jt (SD a) λQ σ H q=>by
 obtain⟨A,ι,τ,R,S,q,k⟩:=q;exact⟨A,ι,τ,_,S,q,k.rt⟩
theorem bP{c:Expr}{a b:List Stmt}{tc:fB}(hc:PT X c (cW X.mg N tc))(i:dw X a (cQ X.mg N t))(j:dw X b (cQ X.mg N u)):PS X (.If c a b pos) (cQ X.mg N (G0 tc t u)):=jt (Sz hc i j) λQ σ H q=>by
 obtain⟨A,ι,τ,R,S,q,k⟩:=q;refine⟨A,ι,τ,_,S,q,λx f d H1 g e h=>?_⟩;cases x with
 |true=>rw[av rfl];exact⟨f,d,τ,R,S.next e h,g,k.from e⟩
 |false=>rw[ay bZ];exact⟨f,d,τ,R,S.next e h,g,k.from e⟩
end
abbrev jG:=D->bL->Ar->(bL->Ar->Prop)->Prop
abbrev oi:=List D->bL->Ar->(bL->Ar->Prop)->Prop
def sP(mg:au)(N:En)(g:jG):TG:=λv σ H Q=>∃A ι τ d R,dM mg N A ι τ σ H/\RV mg ι A.length H d v/\g d τ A R/\jJ mg A ι H R Q
def wJ(mg:au)(N:En)(g:oi):jM:=λvs σ H Q=>∃A ι τ ds R,dM mg N A ι τ σ H/\ak mg ι A.length H ds vs/\g ds τ A R/\jJ mg A ι H R Q
def gN(i:Nat):jG:=λd τ A R=>R (τ.set i (some d)) A
def Ek:oi:=λds τ A R=>match ds with
 |[]=>R τ A
 |_=>False
def N4(g:jG)(h:oi):oi:=λds τ A R=>match ds with
 |d::r=>g d τ A λBe A1=>h r Be A1 R
 |[]=>False
def gT(n:Nat)(g:oi):jG:=λd τ A R=>match d with
 |.tup ds=>ds.length=n/\g ds τ A R
 |_=>False
section
variable{X:Cx}{N:En}{pos:Pos}{e tg:Expr}{es:List Expr}{m:aM}{g:jG}{gs:oi}
theorem Dl{t t':TG}(h:PG X tg t)(w:∀v σ H Q,t' v σ H Q->t v σ H Q):PG X tg t':=λpins s σ H v u Q I r q=>h pins s σ H v u Q I r (w v σ H Q q)
theorem Dm{t t':jM}(h:jL X es t)(w:∀v σ H Q,t' v σ H Q->t v σ H Q):jL X es t':=λpins s σ H v u Q I r q=>h pins s σ H v u Q I r (w v σ H Q q)
theorem LZ{i:Nat}{x:Str}(a:X.N.Nodup)(hi:X.N[i]?=some x)(b:Loc X.env.scope x)(c:X.fn x=true\/X.env.scope.names.lookup x=some .local:=by first|exact .inl rfl|exact .inr rfl|assumption):PG X (.Name x pos) (sP X.mg N (gN i)):=
 Dl (F6 a hi b c) λv σ H Q q=>by
  obtain⟨A,ι,τ,d,R,S,r,q,k⟩:=q;exact k.here (S.set r) q
theorem mT:jL X [] (wJ X.mg N Ek):=Dm pB λv σ H Q q=>by
 obtain⟨A,ι,τ,ds,R,S,r,q,k⟩:=q;unfold Ek at q;split at q
 .exact⟨r,k.here S q⟩
 .exact q.elim
theorem gu(h1:PG X e (sP X.mg N g))(h2:jL X es (wJ X.mg N gs))(f:(assignEach (e::es) X.env).map (·.2)=assign e X.env::(assignEach es X.env).map (·.2):=by rfl):jL X (e::es) (wJ X.mg N (N4 g gs)):=
 Dm (iA h1 h2 f) λv σ H Q q=>by
  obtain⟨A,ι,τ,ds,R,S,r,q,k⟩:=q;cases ds with
  |nil=>exact q.elim
  |cons d ds=>
   obtain⟨x,xs,rfl,h,i⟩:=r;refine⟨x,xs,rfl,A,ι,τ,d,_,S,h,q,λa j b l H1 m c a1 n=>?_⟩;exact⟨j,b,a,ds,R,S.to c a1 n,ak.ext c ds xs i,m,k.from c⟩
theorem mS{k n:Nat}(hc:X.calm=true)(h:jL X es (wJ X.mg N gs))(c:(assignEach es X.env).length=n:=by rfl)(b:(assignEach es X.env).findIdx? (·.1)=none:=by rfl):PG X (.Tuple es k pos) (sP X.mg N (gT n gs)):=
 Dl (pA hc h c b) λv σ H Q q=>by
  obtain⟨A,ι,τ,d,R,S,r,q,k⟩:=q;cases d with
  |tup ds=>
   obtain⟨a,xs,rfl,h1,h2⟩:=r;exact⟨a,xs,rfl,bJ.of h1,by rw[<-ak.length h2];exact q.1,A,ι,τ,ds,R,S,h2,q.2,k⟩
  |_=>exact q.elim
def sC(i:Nat)(m:aM):dh:=λR τ A=>m τ A λv A1=>R.nx (τ.set i (some v)) A1
theorem Ma{i:Nat}{x:Str}{pos':Pos}(b:X.N.Nodup)(hi:X.N[i]?=some x)(c:Loc X.env.scope x)(d:PE X e (up X.mg N m))(f:swapsWith e (some (.Name x pos')) pos.line X.env=pure false:=by rfl)(g:X.fn x=true\/X.env.scope.names.lookup x=some .local:=by first|exact .inl rfl|exact .inr rfl|assumption):
  PS X (.Assign [.Name x pos'] e pos) (cQ X.mg N (sC i m)):=jt (SE b hi c d f g) λQ σ H q=>by
 obtain⟨A,ι,τ,R,S,q,k⟩:=q;exact⟨A,ι,τ,_,S,q,λv o h H1 u j a l n=>(k.nx.from a).here ((S.next a l).set n) j⟩
end
abbrev DX:=Str->Ar->Prop
abbrev Ct:=List D->Ar->DK->DX->Prop
def J4(mg:au)(A:Ar)(ι:Io)(H:Hp)(R:DX)(E:XK):Prop:=∀c A' ι' H' C,R c A'->mg c=some (.ref C)->Ext A ι H A' ι' H'->RA mg ι' H' A'->E (.ref C) none H'
def ai(mg:au)(n:Nat)(S:Ct):Sp:=λvs H Q E=>∃A ι ds R RE,ds.length=n/\RA mg ι H A/\ak mg ι A.length H ds vs/\S ds A R RE/\Kt mg A ι H R Q/\J4 mg A ι H RE E
def EL(mg:au)(N:En)(R:DX):XK:=λC _ H'=>∃c A' ι',(∃a,C=.ref a/\mg c=some (.ref a))/\Ext N.A N.ι N.H A' ι' H'/\RA mg ι' H' A'/\R c A'
def jP(n:Nat)(S:Ct)(RE:DX)(m:dj):aM:=λτ A R=>m τ A λvs A1=>vs.length=n/\S vs A1 R RE
section
variable{X:Cx}{N:En}{k n:Nat}{x:Str}{ps:List Str}{S:Ct}{RE:DX}{e:Expr}{es:List Expr}{m:dj}{p pos:Pos}
theorem LL(F:aj X.prog X.w X.K X.mg X.base k x ps (ai X.mg n S))(i:dz k X.A)(j:Passes (bI X.prog X.w) X (EL X.mg N RE))(l:PA X (e::es) (fJ X.mg N m))(o:Gl X x:=by rfl)(a:(x==("__debug__":Str))=false:=by decide)
  (r:starEach (e::es) X.env=(false,eval e X.env)::starEach es X.env:=by rfl)(b:(backTo pos (starEach es X.env)).any (·.1)=false:=by rfl):
  PE X (.Call (.Name x p) (e::es) [] pos) (up X.mg N (jP n S RE m)):=d9 (Rz F i j l o a r b) λσ H Q q=>by
 obtain⟨A,ι,τ,R,Z,q,k⟩:=q;refine⟨A,ι,τ,_,Z,q,λvs s d H1 t g h u v=>?_⟩;show ai X.mg n S (t++[]) H1 Q (EL X.mg N RE);rw[lg];exact⟨s,d,vs,R,RE,g.1,u,v,g.2,k.from h,λc y f H2 C z hc B D=>⟨c,y,f,⟨C,rfl,hc⟩,(Z.ex.trans h).trans B,D,z⟩⟩
end
def kU(n:Nat)(ds:List D):bL:=ds.map some++replicate n none
theorem zD:∀(ds:List D) (n i:Nat) (d:D),lk (kU n ds) i=some d->ds[i]?=some d
 |[],n,i,d,h=>by
  rw[u5] at h;simp[kU,List.getElem?_replicate] at h;split at h<;>simp at h
 |x::r,n,0,d,h=>by simpa[kU,lk] using h
 |x::r,n,i+1,d,h=>by simpa using zD r n i d h
theorem TopD.gQ{P:Program}{w:World}{K:Frag}{mg:au}{base:Heap}{x:Str}{st:Stmt}{Nm ps:List Str}{k n:Nat}{S:Ct}(T:TopD K mg x st ps)(Sc:aV Nm ps (aI st))(B:ps.length=n)(V:ps.length<=Nm.length)
  (g:∀(N:En) (RE:DX) (X:Cx),X.prog=P->X.w=w->X.K=K->X.mg=mg->X.base=base->X.N=Nm->X.calm=true->X.ex=[]->(∃f j A outer s H E,X=cK (bI P w) P w K mg base Nm x (aI st) f j A outer s H E)->dz k X.A->Raises X (EL X.mg N RE)->Passes (bI X.prog X.w) X (EL X.mg N RE)->
   ∀ds A R,S ds A R RE->ds.length=n->∃m,dw X (ig st) (cQ X.mg N m)/\m {nx:=λ_ A'=>R .aC A',rt:=R} (kU (Nm.length - n) ds) A):aj P w K mg base (k+1) x ps (ai mg n S):=by
 refine T.fnX Sc (λvs H Q E h=> ?_) λf j A outer s H vs Q E D h=> ?_
 .obtain⟨A,ι,ds,R,RE,hl,_,o,_⟩:=h
  rw[<-ak.length o,hl,B]
 .obtain⟨p,l,ds,R,RE,hl,ra,o,F,u,G⟩:=h
  have y:∀C a H',EL mg ⟨p,l,H⟩ RE C a H'->E C none H':=λC a H' z=>by
   obtain⟨c,A',ι',⟨b,rfl,hc⟩,ex,r,q⟩:=z
   exact G c A' ι' H' b q hc ex r
  obtain⟨m,J,L⟩:=g ⟨p,l,H⟩ RE (cK (bI P w) P w K mg base Nm x (aI st) f j A outer s H E) rfl rfl rfl rfl rfl rfl rfl rfl ⟨_,_,_,_,_,_,_,rfl⟩ D
   (λpins σ H1 t e h' C args I M z=>GH pins σ H1 t e h' C args I M (y _ _ _ z))
   (λpins σ H1 t e s' I z=>F2 pins σ H1 t e s' I (by
    obtain⟨a,C,H',h1,h2,O⟩:=z
    exact⟨a,C,H',h1,h2,y _ _ _ O⟩)) ds p R F hl
  have U:=ak.length o
  refine⟨_,J,p,l,_,_,⟨ra,⟨?_,λi d q=> ?_⟩,ra.refl⟩,L,⟨λτ A' ι' σ H' q e r _=>u _ A' ι' H' _ q e r rfl,u,λ_ _ _ _ _ q _ _ _=>q.elim,λ_ _ _ _ _ q _ _ _=>q.elim⟩⟩
  .simp[kU,L2.start]
   omega
  .obtain⟨v,h1,h2⟩:=ak.get o (zD ds _ i d q)
   refine⟨v,?_,h2⟩
   have hi:=(b8.mp h1).1
   unfold L2.start
   rw[iI (by simpa using hi),bW,h1]
   rfl
abbrev g_:=List D->Ar->DK->Prop
def iJ(mg:au)(r:List V->Hp->VK->Prop)(f:g_):Prop:=∀ds A ι H us R Q,RA mg ι H A->ak mg ι A.length H ds us->f ds A R->Kt mg A ι H R Q->r us H Q
def ug(f:g_)(m:dj):aM:=λτ A R=>m τ A λvs A1=>f vs A1 R
section
variable{X:Cx}{N:En}{e:Expr}{es:List Expr}{m:dj}{p pos:Pos}{f:g_}{r:List V->Hp->VK->Prop}{x:Str}{id T:String}
theorem Jd(h:iJ X.mg r f){σ:L2.St}{H:Hp}{Q:VK}(q:up X.mg N (ug f m) σ H Q):As r (fJ X.mg N m) σ H Q:=by
 obtain⟨A,ι,τ,R,S,q,k⟩:=q;exact⟨A,ι,τ,_,S,q,λvs b a H1 c d e g i=>h vs b a H1 c R Q g i d (k.from e)⟩
theorem dQ(hc:eF X (.builtin id) r)(hd:iJ X.mg r f)(c:X.mg x=none)(d:bootBuiltins x=some (.builtin id))(g:PA X (e::es) (fJ X.mg N m))(i:Gl X x:=by rfl)(j:x≠"__name__":=by decide)(a:(x==("__debug__":Str))=false:=by decide)
 (k:starEach (e::es) X.env=(false,eval e X.env)::starEach es X.env:=by rfl)(b:(backTo pos (starEach es X.env)).any (·.1)=false:=by rfl):PE X (.Call (.Name x p) (e::es) [] pos) (up X.mg N (ug f m)):=d9 (F5 hc i c d g j a k b) λ_ _ _ h=>Jd hd h
theorem jq(hc:eF X (.type T) r)(hd:iJ X.mg r f)(c:X.mg x=none)(d:bootBuiltins x=some (.type T))(g:PA X (e::es) (fJ X.mg N m))(i:Gl X x:=by rfl)(j:x≠"__name__":=by decide)(a:(x==("__debug__":Str))=false:=by decide)
 (k:starEach (e::es) X.env=(false,eval e X.env)::starEach es X.env:=by rfl)(b:(backTo pos (starEach es X.env)).any (·.1)=false:=by rfl):PE X (.Call (.Name x p) (e::es) [] pos) (up X.mg N (ug f m)):=d9 (Ry hc i c d g j a k b) λ_ _ _ h=>Jd hd h
end
@[irreducible] def uZ(r:Nat)(A:Ar)(R:DK):Prop:=match A[r]? with
 |some (.lst xs)=>R (.int xs.length) A
 |some (.dct kvs)=>R (.int kvs.length) A
 |_=>False
def EY:g_:=λvs A R=>match vs with
 |[.tup xs]=>R (.int xs.length) A
 |[.str z]=>z.length<=sizeLine/\R (.int z.length) A
 |[.fl ns]=>R (.int ns.length) A
 |[.ref r]=>uZ r A R
 |_=>False
theorem RK.length{mg:au}{ι:Io}{H:Hp}:∀{ds:List (Key×D)} {vs:List (Key×V)} {n:Nat},RK mg ι n H ds vs->ds.length=vs.length
 |[],vs,_,h=>by have h':vs=[]:=h;rw[h'];rfl
 |d::ds,vs,n,h=>by
  obtain⟨x,r,rfl,_,a⟩:=h;simp[RK.length a]
theorem gp{X:Cx}:eF X (.builtin "len") (λxs H Q=>(∃p ys,xs=[.ref p]/\(aR X.K H p ys\/bJ X.K H p ys)/\Q (.int ys.length) H)\/(∃z,xs=[.str z]/\z.length<=sizeLine/\Q (.int z.length) H)\/∃a kvs,xs=[V.ref a]/\H a=some (.dK kvs)/\Q (.int kvs.length) H):=KG.or (KH.or KD)
theorem fL{mg:au}{K:Frag}:iJ mg (λxs H Q=>(∃p ys,xs=[.ref p]/\(aR K H p ys\/bJ K H p ys)/\Q (.int ys.length) H)\/(∃z,xs=[.str z]/\z.length<=sizeLine/\Q (.int z.length) H)\/∃a kvs,xs=[V.ref a]/\H a=some (.dK kvs)/\Q (.int kvs.length) H) EY:=by
 intro ds A ι H c R Q ra rs h k;unfold EY at h;split at h
 .obtain⟨_,_,rfl,⟨a,xs,rfl,d,b⟩,rfl⟩:=rs
  exact .inl ⟨a,xs,rfl,.inr (bJ.of d),k.here ra h (by rw[ak.length b];rfl)⟩
 .obtain⟨_,_,rfl,rfl,rfl⟩:=rs
  exact .inr (.inl ⟨_,rfl,h.1,k.here ra h.2 rfl⟩)
 .obtain⟨_,_,rfl,⟨a,o,rfl,d⟩,rfl⟩:=rs
  exact .inl ⟨a,_,rfl,.inl (.inl (.inr ⟨o,d⟩)),k.here ra h (by rw[aP];rfl)⟩
 .obtain⟨_,_,rfl,⟨_,rfl⟩,rfl⟩:=rs
  unfold uZ at h;split at h
  .rename_i xs e
   obtain⟨c,h1,b⟩:=ra.lst e;exact .inl ⟨_,c,rfl,.inl (aR.of h1),k.here ra h (by rw[ak.length b];rfl)⟩
  .rename_i xs e
   obtain⟨c,h1,b⟩:=ra.dct e;exact .inr (.inr ⟨_,c,rfl,h1,k.here ra h (by rw[RK.length b];rfl)⟩)
  .exact h.elim
 .exact h.elim
@[irreducible] def u6(r:Nat)(A:Ar)(R:DK):Prop:=match A[r]? with
 |some (.lst xs)=>R (.ref A.length) (A++[.lst xs])
 |_=>False
def Fd:g_:=λvs A R=>match vs with
 |[.tup xs]=>R (.ref A.length) (A++[.lst xs])
 |[.fl ns]=>R (.ref A.length) (A++[.lst (ns.map .int)])
 |[.ref r]=>u6 r A R
 |_=>False
theorem C3{mg:au}{K:Frag}:iJ mg (λxs H Q=>∃p ys,xs=[.ref p]/\(aR K H p ys\/bJ K H p ys)/\∀l,H l=none->Q (.ref l) (upd H l (.lst ys))) Fd:=by
 intro ds A ι H f R Q ra rs h k;unfold Fd at h;split at h
 .obtain⟨_,_,rfl,⟨a,xs,rfl,c,d⟩,rfl⟩:=rs
  exact⟨a,xs,rfl,.inr (bJ.of c),λp b=>lU k ra d h b⟩
 .obtain⟨_,_,rfl,⟨a,o,rfl,c⟩,rfl⟩:=rs
  exact⟨a,_,rfl,.inl (.inl (.inr ⟨o,c⟩)),λp b=>lU k ra (ak.ints _) h b⟩
 .obtain⟨_,_,rfl,⟨_,rfl⟩,rfl⟩:=rs
  unfold u6 at h;split at h
  .rename_i xs e
   obtain⟨f,h1,d⟩:=ra.lst e;exact⟨_,f,rfl,.inl (aR.of h1),λp b=>lU k ra d h b⟩
  .exact h.elim
 .exact h.elim
@[irreducible] def wI(r:Nat)(A:Ar)(R:DK):Prop:=match A[r]? with
 |some (.lst xs)=>R (.tup xs) A
 |_=>False
def Ja:g_:=λvs A R=>match vs with
 |[.tup xs]=>R (.tup xs) A
 |[.ref r]=>wI r A R
 |_=>False
theorem yy{mg:au}{K:Frag}:iJ mg (λxs H Q=>∃p ys,xs=[.ref p]/\((aR K H p ys/\∀l,H l=none->Q (.ref l) (upd H l (.tup ys)))\/(bJ K H p ys/\Q (.ref p) H))) Ja:=by
 intro ds A ι H c R Q ra rs h k;unfold Ja at h;split at h
 .obtain⟨_,_,rfl,⟨a,xs,rfl,d,b⟩,rfl⟩:=rs
  exact⟨a,xs,rfl,.inr ⟨bJ.of d,k.here ra h ⟨a,xs,rfl,d,b⟩⟩⟩
 .obtain⟨_,_,rfl,⟨_,rfl⟩,rfl⟩:=rs
  unfold wI at h;split at h
  .rename_i xs e
   obtain⟨c,h1,b⟩:=ra.lst e;exact⟨_,c,rfl,.inl ⟨aR.of h1,λp f=>zO k ra b h f⟩⟩
  .exact h.elim
 .exact h.elim
def i7:List D->Option (List Bool)
 |[]=>some []
 |.bl b::r=>(i7 r).map (b::·)
 |_::_=>none
def jS:List D->Option (List Int)
 |[]=>some []
 |.int b::r=>(jS r).map (b::·)
 |_::_=>none
theorem yk{mg:au}{ι:Io}{n:Nat}{H:Hp}:∀{ds:List D} {a:List V} {bs:List Bool},i7 ds=some bs->ak mg ι n H ds a->a=bs.map V.bl
 |[],a,bs,h,r=>by cases h;exact r
 |d::ds,a,bs,h,r=>by
  obtain⟨x,r',rfl,h1,h2⟩:=r;cases d with
  |bl b=>
   cases q:i7 ds with
   |none=>simp[i7,q] at h
   |some l=>
    simp[i7,q] at h;subst h;rw[yk q h2];cases h1;rfl
  |_=>simp[i7] at h
theorem EE{mg:au}{ι:Io}{n:Nat}{H:Hp}:∀{ds:List D} {a:List V} {bs:List Int},jS ds=some bs->ak mg ι n H ds a->a=bs.map V.int
 |[],a,bs,h,r=>by cases h;exact r
 |d::ds,a,bs,h,r=>by
  obtain⟨x,r',rfl,h1,h2⟩:=r;cases d with
  |int b=>
   cases q:jS ds with
   |none=>simp[jS,q] at h
   |some l=>
    simp[jS,q] at h;subst h;rw[EE q h2];cases h1;rfl
  |_=>simp[jS] at h
@[irreducible] def allR(r:Nat)(A:Ar)(R:DK):Prop:=match A[r]? with
 |some (.lst xs)=>(match i7 xs with
  |some bs=>R (.bl (bs.all id)) A
  |none=>False)
 |_=>False
def Cj:g_:=λvs A R=>match vs with
 |[.ref r]=>allR r A R
 |_=>False
theorem yv{mg:au}{K:Frag}:iJ mg (λxs H Q=>∃(p:Addr) (bs:List Bool),xs=[.ref p]/\aR K H p (bs.map V.bl)/\Q (.bl (bs.all id)) H) Cj:=by
 intro ds A ι H a R Q ra rs h k;unfold Cj at h;split at h
 .obtain⟨_,_,rfl,⟨_,rfl⟩,rfl⟩:=rs
  unfold allR at h;split at h
  .rename_i xs e
   split at h
   .rename_i bs b
    obtain⟨a,h1,c⟩:=ra.lst e;exact⟨_,bs,rfl,aR.of (by rw[h1,yk b c]),k.here ra h rfl⟩
   .exact h.elim
  .exact h.elim
 .exact h.elim
@[irreducible] def wB(r:Nat)(A:Ar)(R:DK):Prop:=match A[r]? with
 |some (.lst xs)=>(match jS xs with
  |some ns=>(∀n∈ns,0<=n/\n<=2 ^ 40)/\ns.length<=1000/\R (.int ns.sum) A
  |none=>False)
 |_=>False
def IV:g_:=λvs A R=>match vs with
 |[.ref r]=>wB r A R
 |_=>False
theorem LK{mg:au}{K:Frag}:iJ mg (λxs H Q=>∃(p:Addr) (ns:List Int),xs=[.ref p]/\aR K H p (ns.map V.int)/\(∀n∈ns,0<=n/\n<=2 ^ 40)/\ns.length<=1000/\Q (.int ns.sum) H) IV:=by
 intro ds A ι H a R Q ra rs h k;unfold IV at h;split at h
 .obtain⟨_,_,rfl,⟨_,rfl⟩,rfl⟩:=rs
  unfold wB at h;split at h
  .rename_i xs e
   split at h
   .rename_i bs b
    obtain⟨a,h1,c⟩:=ra.lst e;exact⟨_,bs,rfl,aR.of (by rw[h1,EE b c]),h.1,h.2.1,k.here ra h.2.2 rfl⟩
   .exact h.elim
  .exact h.elim
 .exact h.elim
def j6(A:Ar):D->Option String
 |.aC=>some "NoneType"
 |.bl _=>some "bool"
 |.int _=>some "int"
 |.str _=>some "str"
 |.tup _=>some "tuple"
 |.fl _=>some "list"
 |.exc _=>none
 |.ref r=>match A[r]? with
  |some (.lst _)=>some "list"
  |some (.dct _)=>some "dict"
  |_=>none
def lQ(t c:String):Bool:=t==c||(t=="bool"&&c=="int")
def Lh(c:String)(m:aM):aM:=λτ A R=>m τ A λx A1=>match j6 A1 x with
 |some t=>R (.bl (lQ t c)) A1
 |none=>False
def tys:List String:=["NoneType","bool","int","str","tuple","list","dict"]
theorem VO{A:Ar}{d:D}{t:String}(h:j6 A d=some t):t∈tys:=by
 cases d with
 |ref r=>
  unfold j6 at h;simp only at h;split at h<;>first|(cases h;decide)|cases h
 |exc c=>cases h
 |_=>cases h;decide
theorem RA.ty{mg:au}{K:Frag}{A:Ar}{ι:Io}{H:Hp}(ra:RA mg ι H A){d:D}{v:V}{t:String}(h:j6 A d=some t)(r:RV mg ι A.length H d v):qu K H v (.type t):=by
 cases d with
 |aC=>cases h;cases r;exact .of .aC
 |bl b=>cases h;cases r;exact .of (.bl b)
 |int b=>cases h;cases r;exact .of (.int b)
 |str b=>cases h;cases r;exact .of (.str b)
 |tup ds=>cases h;obtain⟨a,xs,rfl,e,_⟩:=r;exact .of (.tup e)
 |fl ns=>cases h;obtain⟨a,o,rfl,e⟩:=r;exact .of (.bK e)
 |exc c=>cases h
 |ref q=>
  obtain⟨_,rfl⟩:=r;unfold j6 at h;simp only at h;split at h
  .rename_i xs e
   cases h;obtain⟨f,h1,_⟩:=ra.lst e;exact .of (.lst h1)
  .rename_i xs e
   cases h;obtain⟨f,h1,_⟩:=ra.dct e;exact .of (.dK h1)
  .cases h
section
variable{X:Cx}{N:En}{e:Expr}{es:List Expr}{m:aM}{p p2 pos:Pos}{x:Str}{c:String}
theorem jr(n:∀t∈tys,kitOne X.K (.type t) (.type c)=some (lQ t c))(o:X.mg "isinstance"=none)(b:X.mg x=none)(d:bootBuiltins x=some (.type c))(r:PE X e (up X.mg N m))(s:Gl X "isinstance":=by rfl)(f:Gl X x:=by rfl)(w:x≠"__name__":=by decide)(g:(x==("__debug__":Str))=false:=by decide)
  (h:starEach [e,.Name x p2] X.env=[(false,eval e X.env),(false,eval (.Name x p2) X.env)]:=by rfl):
  PE X (.Call (.Name "isinstance" p) [e,.Name x p2] [] pos) (up X.mg N (Lh c m)):=by
 have y:PE X (.Name x p2) (tC (.ty c)):=Ru f b d rfl w g;refine d9 (F5 KC s o boot_isinstance (zV r (zV y zW rfl) (by rw[h];rfl)) (by decide) (by decide) (by rw[h];rfl) rfl) λσ H Q q=>?_;obtain⟨A,ι,τ,R,S,q,k⟩:=q;refine⟨A,ι,τ,_,S,q,λv i z H1 u a B j C=>?_⟩;have a:(match j6 i v with|some t=>R (.bl (lQ t c)) i|none=>False):=a;split at a
 .rename_i t l
  exact⟨u,c,.type t,lQ t c,rfl,j.ty l C,n t (VO l),(k.from B).here j a rfl⟩
 .exact a.elim
end
abbrev h_:=D->List D->Ar->DK->Prop
def jK(mg:au)(K:Frag)(T:String)(r:V->List V->Hp->VK->Prop)(f:h_):Prop:=∀x ds A ι H u us R Q,RA mg ι H A->RV mg ι A.length H x u->ak mg ι A.length H ds us->f x ds A R->Kt mg A ι H R Q->r u us H Q
def jT(A:Ar):D->Bool
 |.ref r=>match A[r]? with
  |some (.lst _)=>true
  |_=>false
 |_=>false
def oK(f:h_)(mo:aM)(m:dj):aM:=λτ A R=>mo τ A λx A1=>jT A1 x=true/\m τ A1 λvs A2=>f x vs A2 R
theorem RA.jT{mg:au}{K:Frag}{A:Ar}{ι:Io}{H:Hp}(ra:RA mg ι H A){d:D}{v:V}(h:jT A d=true)(r:RV mg ι A.length H d v):sL K "list" v H:=by
 cases d with
 |ref q=>
  obtain⟨_,rfl⟩:=r;unfold DP.jT at h;simp only at h;split at h
  .rename_i xs e
   obtain⟨a,h1,_⟩:=ra.lst e;exact .inl ⟨rfl,a,aR.of h1⟩
  .cases h
 |_=>cases h
section
variable{X:Cx}{N:En}{e o:Expr}{es:List Expr}{mo:aM}{m:dj}{apos cpos:Pos}{f:h_}{r:V->List V->Hp->VK->Prop}{name:Str}{id:String}
theorem gq(t:PlainAttrs "list")(slot:Slot "list" name id)(g:typeOf (.builtin id)=pure (.type "method_descriptor"))(v:mJ X id r)(hd:jK X.mg X.K "list" r f)(w:PE X o (up X.mg N mo))(y:PA X (e::es) (fJ X.mg N m))
  (b:attributeBase o name X.env (eval o X.env)=eval o X.env:=by rfl)
  (d:((backTo cpos (starEach (e::es) X.env)).all (λx=> !x.1)&&(backToKw cpos (keywordEach [] X.env)).all (λx=>x.1.isSome)
   &&decide ((e::es).length+([]:List Keyword).length+(if ([]:List Keyword).isEmpty then 0 else 1)<30))=true:=by rfl)
  (c:(apos.endLine==cpos.line)=true:=by rfl)(z:starEach (e::es) X.env=(false,eval e X.env)::starEach es X.env:=by rfl)(a:(backTo cpos (starEach es X.env)).any (·.1)=false:=by rfl):
  PE X (.Call (.Attribute o name apos) (e::es) [] cpos) (up X.mg N (oK f mo m)):=d9 (F4 t slot g v w y b d c z a) λσ H Q q=>by
 obtain⟨A,ι,τ,R,S,q,k⟩:=q
 refine⟨A,ι,τ,_,S,q,λx B h H1 u j l n p=> ?_⟩
 refine⟨n.jT j.1 p,B,h,τ,_,S.next l n,j.2,λys C i H2 D E s F v2=> ?_⟩
 exact hd x ys C i H2 u D R Q F (RV.ext s x u p) v2 E (k.from (l.trans s))
end
theorem vZ{mg:au}{A:Ar}{ι:Io}{H:Hp}{R:DK}{Q:VK}{ds es:List D}{xs ys:List V}{q:Nat}{d:D}{v:V}(k:Kt mg A ι H R Q)(r:RA mg ι H A)(a:A[q]?=some (.lst ds))(b:H (ι q)=some (.lst xs))(h:ak mg ι A.length H es ys)
  (c:R d (A.set q (.lst es)))(hd:∀H',RV mg ι A.length H' d v):Q v (upd H (ι q) (.lst ys)):=by
 have E:Ext A ι H (A.set q (.lst es)) ι (upd H (ι q) (.lst ys)):=r.mX (b8.mp a).1;obtain⟨e,f⟩:=r.put (c':=.lst es) (o:=.lst ys) a b rfl ⟨ys,eT,by simpa using ak.ext E es ys h⟩;exact k _ _ _ _ _ c f e (by simpa using hd _)
@[irreducible] def oF(r:Nat)(y:D)(A:Ar)(R:DK):Prop:=match A[r]? with
 |some (.lst xs)=>xs.length<sizeLine/\R .aC (A.set r (.lst (xs++[y])))
 |_=>False
def oE:h_:=λx vs A R=>match x,vs with
 |.ref r,[y]=>oF r y A R
 |_,_=>False
theorem ie{mg:au}{K:Frag}:jK mg K "list" Gm oE:=by
 intro x ds A ι H u d R Q ra b rs h k;unfold oE at h;split at h
 .obtain⟨_,rfl⟩:=b
  obtain⟨v,_,rfl,c,rfl⟩:=rs;unfold oF at h;split at h
  .rename_i xs e
   obtain⟨ws,h1,a⟩:=ra.lst e;exact⟨_,ws,v,rfl,rfl,h1,by rw[<-ak.length a];exact h.1,vZ k ra e h1 (a.app (es:=[_]) (ws:=[v]) ⟨v,[],rfl,c,rfl⟩) h.2 λ_=>rfl⟩
  .exact h.elim
 .exact h.elim
@[irreducible] def qV(r q:Nat)(A:Ar)(R:DK):Prop:=match A[r]?,A[q]? with
 |some (.lst xs),some (.lst ys)=>xs.length+ys.length<=sizeLine/\R .aC (A.set r (.lst (xs++ys)))
 |_,_=>False
def DN:h_:=λx vs A R=>match x,vs with
 |.ref r,[.ref q]=>qV r q A R
 |_,_=>False
theorem yw{mg:au}{K:Frag}:jK mg K "list" Gq DN:=by
 intro x ds A ι H u f R Q ra c rs h k;unfold DN at h;split at h
 .obtain⟨_,rfl⟩:=c
  obtain⟨v,_,rfl,⟨_,rfl⟩,rfl⟩:=rs;unfold qV at h;split at h
  .rename_i xs ys e d
   obtain⟨ws,h1,a⟩:=ra.lst e;obtain⟨zs,h2,b⟩:=ra.lst d;exact⟨_,_,ws,zs,rfl,rfl,h1,h2,by rw[<-ak.length a,<-ak.length b];exact h.1,vZ k ra e h1 (a.app b) h.2 λ_=>rfl⟩
  .exact h.elim
 .exact h.elim
def Tv(RE:DX)(c:Str)(m:dj):dh:=λ_ τ A=>m τ A λvs A1=>vs.length<=sizeLine/\RE c A1
theorem kF{X:Cx}{N:En}{RE:DX}{x:Str}{C:Addr}{e:Expr}{m:dj}{np cpos pos:Pos}(f:Raises X (EL X.mg N RE))(hc:X.calm=true)(c:X.mg x=some (.ref C))(g:excIn X.K C j8 "ValueError.__new__"=true)(h:PA X [e] (fJ X.mg N m))(i:Gl X x:=by rfl)(a:(x==("__debug__":Str))=false:=by decide)
  (j:starEach [e] X.env=[(false,eval e X.env)]:=by rfl):PS X (.Raise (some (.Call (.Name x np) [e] [] cpos)) none pos) (cQ X.mg N (Tv RE x m)):=jt (SA f hc c g h i a j) λQ σ H q=>by
 obtain⟨A,ι,τ,R,S,q,k⟩:=q;exact⟨A,ι,τ,_,S,q,λvs l b H1 r d n o p=>⟨by rw[<-ak.length p];exact d.1,x,l,b,⟨C,rfl,c⟩,S.ex.trans n,o,d.2⟩⟩
def ju:D->Bool
 |.int _|.str _=>true
 |_=>false
def qT:D->D->Bool
 |.int i,.int j=>decide (i=j)
 |.str a,.str b=>decide (a=b)
 |_,_=>false
def oZ(x:D)(xs:List D):Bool:=xs.any λy=>qT y x
section
variable{mg:au}{K:Frag}{A:Ar}{ι:Io}{H:Hp}{n:Nat}
theorem yT{d:D}{v:V}(h:ju d=true)(r:RV mg ι n H d v):jR v=true:=by
 cases d with
 |int i=>cases r;rfl
 |str i=>cases r;rfl
 |_=>cases h
theorem Mn{d e:D}{u v:V}(h1:ju d=true)(h2:ju e=true)(b:RV mg ι n H d u)(a:RV mg ι n H e v):i9 u v=qT d e:=by
 cases d with
 |int i=>
  cases b;cases e with
  |int j=>cases a;simp[i9,qT,Bool.beq_eq_decide_eq]
  |str j=>cases a;rfl
  |_=>cases h2
 |str i=>
  cases b;cases e with
  |int j=>cases a;rfl
  |str j=>cases a;simp[i9,qT,Bool.beq_eq_decide_eq]
  |_=>cases h2
 |_=>cases h1
theorem zl{x:D}{v:V}(a:ju x=true)(b:RV mg ι n H x v):∀{ds:List D} {vs:List V},ds.all ju=true->ak mg ι n H ds vs->uP v vs=oZ x ds/\vs.all jR=true
 |[],vs,_,r=>by cases (show vs=[] from r);exact⟨rfl,rfl⟩
 |d::ds,vs,h,r=>by
  obtain⟨y,r',rfl,h1,h2⟩:=r;have h':ju d=true/\ds.all ju=true:=by simpa using h
  obtain⟨c,e⟩:=zl a b h'.2 h2;constructor
  .show(i9 y v||uP v r')=(qT d x||oZ x ds)
   rw[Mn h'.1 a h1 b,c]
  .simp[yT h'.1 h1,e]
end
abbrev sr(neg:Bool):R2:=λx y H Q=>∃a o,y=.ref a/\oh H a x o/\Q (.bl (if neg then !o.isSome else o.isSome)) H
theorem zR{X:Cx}(e:X.A.units+64<cLine):bA X (compareOp .In) (sr false):=by
 intro pins s σ H x y v u Q I b c h;obtain⟨a,o,rfl,g,q⟩:=h;cases c;exact Ly (by omega) I g b λf d=>⟨.bl o.isSome,H,d,rfl,q⟩
theorem QS{X:Cx}(e:X.A.units+64<cLine):bA X (compareOp .NotIn) (sr true):=by
 intro pins s σ H x y v u Q I b c h;obtain⟨a,o,rfl,g,q⟩:=h;cases c;exact LF (by omega) I g b λf d=>⟨.bl (!o.isSome),H,d,rfl,q⟩
@[irreducible] def inR(neg:Bool)(x:D)(r:Nat)(A:Ar)(R:DK):Prop:=match A[r]? with
 |some (.lst xs)=>ju x=true/\xs.all ju=true/\R (.bl (if neg then !oZ x xs else oZ x xs)) A
 |some (.dct kvs)=>(match fM x with
  |some k=>R (.bl (if neg then !(bf kvs k).isSome else (bf kvs k).isSome)) A
  |none=>False)
 |_=>False
def inD(neg:Bool):eG:=λx y A R=>match y with
 |.tup xs=>ju x=true/\xs.all ju=true/\R (.bl (if neg then !oZ x xs else oZ x xs)) A
 |.ref r=>inR neg x r A R
 |_=>False
theorem C0{mg:au}{K:Frag}(neg:Bool):d8 mg (λx y H Q=>z8 K neg x y H Q\/sr neg x y H Q) (inD neg):=by
 intro x y A ι H u v R Q ra c l h k;unfold inD at h;split at h
 .obtain⟨a,xs,rfl,m,f⟩:=l
  obtain⟨g,i⟩:=zl h.1 c h.2.1 f;exact .inl ⟨a,xs,rfl,.inr (bJ.of m),yT h.1 c,i,by rw[g];exact k.here ra h.2.2 rfl⟩
 .obtain⟨_,rfl⟩:=l
  unfold inR at h;split at h
  .rename_i xs e
   obtain⟨j,h1,f⟩:=ra.lst e;obtain⟨g,i⟩:=zl h.1 c h.2.1 f;exact .inl ⟨_,j,rfl,.inl (aR.of h1),yT h.1 c,i,by rw[g];exact k.here ra h.2.2 rfl⟩
  .rename_i kvs e
   obtain⟨j,h1,f⟩:=ra.dct e;split at h
   .rename_i b n
    cases m6 n c;obtain⟨g,i⟩:=RK.get (k:=b) f;refine .inr ⟨_,eZ j b,rfl,.inl ⟨j,b,.inl h1,rfl,rfl⟩,?_⟩;have o:(eZ j b).isSome=(bf kvs b).isSome:=by
     cases q:bf kvs b with
     |none=>rw[i q];rfl
     |some d=>obtain⟨z,hz,_⟩:=g d q;rw[hz];rfl
    rw[o];exact k.here ra h rfl
   .exact h.elim
  .exact h.elim
 .exact h.elim
section
variable{X:Cx}{N:En}{pos:Pos}{a b c:Expr}{ma mb mc:aM}{x:Str}
theorem vr(i:Nat)(b:X.N[i]?=some x:=by rfl)(c:oA X.env.scope x:=by first|exact Or.inl rfl|exact Or.inr (Or.inl rfl)|exact Or.inr (Or.inr rfl))(hd:(x==("__debug__":Str))=false:=by decide)
 (a:(x==("__classdict__":Str))=false:=by decide):PE X (.Name x pos) (up X.mg N (cF i)):=LV b c hd a
theorem mW(c:X.A.units+64<cLine)(d:PE X a (up X.mg N ma))(e:PE X b (up X.mg N mb)):PE X (.Compare a [.Eq] [b] pos) (up X.mg N (cE qS ma mb)):=qH (FJ c) CZ d e (jZ _)
theorem f_(c:X.A.units+64<cLine)(d:PE X a (up X.mg N ma))(e:PE X b (up X.mg N mb)):PT X (.Compare a [.Eq] [b] pos) (cW X.mg N (gM (cE qS ma mb))):=kG (FJ c) CZ d e (jZ _)
theorem DE(c:X.A.units+64<cLine)(d:PE X a (up X.mg N ma))(e:PE X b (up X.mg N mb)):PE X (.Compare a [.NotEq] [b] pos) (up X.mg N (cE rH ma mb)):=qH (FL c) C4 d e (jZ _)
theorem nE(c:X.A.units+64<cLine)(d:PE X a (up X.mg N ma))(e:PE X b (up X.mg N mb)):PT X (.Compare a [.NotEq] [b] pos) (cW X.mg N (gM (cE rH ma mb))):=kG (FL c) C4 d e (jZ _)
theorem wD(c:PE X a (up X.mg N ma))(d:PE X b (up X.mg N mb)):PT X (.Compare a [.Lt] [b] pos) (cW X.mg N (gM (cE zF ma mb))):=kG QO LB c d (jZ _)
theorem IY(c:PE X a (up X.mg N ma))(d:PE X b (up X.mg N mb)):PT X (.Compare a [.Gt] [b] pos) (cW X.mg N (gM (cE Em ma mb))):=kG Q8 Lx c d (jZ _)
theorem e_is(c:PE X a (up X.mg N ma))(d:PE X b (up X.mg N mb)):PE X (.Compare a [.Is] [b] pos) (up X.mg N (cE uT ma mb)):=qH Q_ Lz c d (jZ _)
theorem DC(c:PE X a (up X.mg N ma))(d:PE X b (up X.mg N mb)):PE X (.Compare a [.IsNot] [b] pos) (up X.mg N (cE ve ma mb)):=qH FU C5 c d (jZ _)
theorem Az(c:PE X a (up X.mg N ma))(d:PE X b (up X.mg N mb)):PT X (.Compare a [.IsNot] [b] pos) (cW X.mg N (gM (cE ve ma mb))):=kG FU C5 c d (jZ _)
theorem Vv(c:X.A.units+64<cLine)(d:PE X a (up X.mg N ma))(e:PE X b (up X.mg N mb))(f:behindInMarks .In b=false:=by rfl):PT X (.Compare a [.In] [b] pos) (cW X.mg N (gM (cE (inD false) ma mb))):=kG (Q9.or (zR c)) (C0 false) d e f
theorem wF(c:X.A.units+64<cLine)(d:PE X a (up X.mg N ma))(e:PE X b (up X.mg N mb))(f:behindInMarks .NotIn b=false:=by rfl):PT X (.Compare a [.NotIn] [b] pos) (cW X.mg N (gM (cE (inD true) ma mb))):=kG (Rj.or (QS c)) (C0 true) d e f
theorem uC(d:PE X a (up X.mg N ma))(e:PE X b (up X.mg N mb))(hc:PE X c (up X.mg N mc))(f:lastMarks [.LtE,.LtE] [b,c]=false:=by with_unfolding_all rfl):PE X (.Compare a [.LtE,.LtE] [b,c] pos) (up X.mg N (qG o6 o6 ma mb mc)):=LM vg vg um um d e hc f
theorem AA(d:PE X a (up X.mg N ma))(e:PE X b (up X.mg N mb))(hc:PE X c (up X.mg N mc))(f:lastMarks [.LtE,.LtE] [b,c]=false:=by with_unfolding_all rfl):PT X (.Compare a [.LtE,.LtE] [b,c] pos) (cW X.mg N (gM (qG o6 o6 ma mb mc))):=Mb vg vg um um d e hc f
end
theorem gQ{P:Program}{w:World}{K:Frag}{mg:au}{base:Heap}{x:Str}{st:Stmt}{Nm ps:List Str}{k n:Nat}{S:Ct}(T:TopD K mg x st ps)(Sc:aV Nm ps (aI st))(c:ps.length=n)(d:ps.length<=Nm.length)
  (b:∀(N:En) (RE:DX) (f:Addr) (a:Value) (B:Around) (outer:List Env) (s:Shared) (H:Hp) (E:XK),dz k (cK (bI P w) P w K mg base Nm x (aI st) f a B outer s H E).A->
   Raises (cK (bI P w) P w K mg base Nm x (aI st) f a B outer s H E) (EL mg N RE)->Passes (bI P w) (cK (bI P w) P w K mg base Nm x (aI st) f a B outer s H E) (EL mg N RE)->
   ∀ds A R,S ds A R RE->ds.length=n->∃m,dw (cK (bI P w) P w K mg base Nm x (aI st) f a B outer s H E) (ig st) (cQ mg N m)/\m {nx:=λ_ A'=>R .aC A',rt:=R} (kU (Nm.length - n) ds) A):aj P w K mg base (k+1) x ps (ai mg n S):=by
 refine TopD.gQ T Sc c d λN RE X _ _ _ _ _ _ _ _ e g i j ds A R h hl=>?_;obtain⟨f,a,B,outer,s,H,E,rfl⟩:=e;exact b N RE f a B outer s H E g i j ds A R h hl
def Tz(c:fB)(b:dh):dh:=λR τ A=>∃W:Nat->bL->Ar->Prop,(∃n,W n τ A)/\∀n τ A,W n τ A->c τ A λk A1=>cond k (∃Nx:bL->Ar->Prop,(∀bS A',Nx bS A'->∃n',n'<n/\W n' bS A')/\b {R with nx:=Nx,ct:=Nx,bk:=R.nx} τ A1) (R.nx τ A1)
section
variable{X:Cx}{N:En}{pos:Pos}{c:Expr}{body:List Stmt}{tc:fB}{tb:dh}
theorem Dz(y:PassesOwn (model X.prog X.w) X.A X.env X.xe)(hc:PT X c (cW X.mg N tc))(B:dw X body (cQ X.mg N tb)):PS X (.While c body [] pos) (cQ X.mg N (Tz tc tb)):=jt (SH y hc B) λQ σ H q=>by
 obtain⟨A,ι,τ,R,S,⟨W,⟨n,C⟩,turn⟩,k⟩:=q;refine⟨λn σ' H'=>∃A' ι' bS,dM X.mg N A' ι' bS σ' H'/\Ext A ι H A' ι' H'/\W n bS A',⟨n,A,ι,τ,S,S.ra.refl,C⟩,?_⟩;rintro m D H1 ⟨x,o,d,g,h,E⟩;refine⟨x,o,d,_,g,turn m d x E,λb F p H2 j a l=>?_⟩;cases b with
 |true=>
  rw[av rfl];obtain⟨G,I,j⟩:=j;refine⟨λσ' H'=>∃A' ι' bS,dM X.mg N A' ι' bS σ' H'/\Ext A ι H A' ι' H'/\G bS A',λσ' H' ⟨A',ι',bS,J,K,z⟩=>?_,?_⟩
  .obtain⟨L,M,O⟩:=I bS A' z
   exact⟨L,M,A',ι',bS,J,K,O⟩
  .refine⟨F,p,d,_,g.next a l,j,⟨?_,k.rt.from (h.trans a),k.nx.from (h.trans a),?_⟩⟩
   .exact λe r f s P t i u v=>⟨r,f,e,(g.next a l).to i u v,(h.trans a).trans i,t⟩
   .exact λe r f s P t i u v=>⟨r,f,e,(g.next a l).to i u v,(h.trans a).trans i,t⟩
 |false=>
  rw[ay bZ];exact(k.nx.from (h.trans a)).here (g.next a l) j
end
structure ko(mg:au)(A0:Ar)(Jk:Io)(H0:Hp)(J:It)(items:List D)(fC:Ar->Prop):Prop where
 go:∀(i:Nat) d A ι H,items[i]? =some d->Ext A0 Jk H0 A ι H->RA mg ι H A->fC A->J.go i H/\∀x H',J.wO i H x H'->Ext A ι H A ι H'/\RA mg ι H' A/\RV mg ι A.length H' d x
 stop:∀A ι H,Ext A0 Jk H0 A ι H->RA mg ι H A->fC A->J.stop items.length H
abbrev iW:=bL->Ar->(List D->(Ar->Prop)->Ar->Prop)->Prop
def jA(mg:au)(N:En)(m:iW):TI:=λσ H Q=>∃A ι τ R,dM mg N A ι τ σ H/\m τ A R/\∀items fC A' ι' H' J,R items fC A'->Ext A ι H A' ι' H'->RA mg ι' H' A'->ko mg A' ι' H' J items fC->Q J H'
theorem oN{X:Cx}{tg e:Expr}{t t':TI}(h:PI X tg e t)(w:∀σ H Q,t' σ H Q->t σ H Q):PI X tg e t':=λpins s σ H Q I q=>h pins s σ H Q I (w σ H Q q)
section
variable{mg:au}{K:Frag}{A:Ar}{ι:Io}{H:Hp}
theorem Pp{a:Addr}{ds:List D}{xs:List V}(f:H a=some (.tup xs))(g:ak mg ι A.length H ds xs):ko mg A ι H (xJ K a) ds (λ_=>True) where
 go:=λi d h c H1 hd e r _=>by
  have b:=e.fix rfl f;obtain⟨v,h1,h2⟩:=ak.get (ak.ext e ds xs g) hd;refine⟨⟨xs,v,bJ.of b,h1⟩,λx H' y=>?_⟩;obtain⟨rfl,y⟩:=y;have:=y xs (bJ.of b);rw[h1] at this;cases this;exact⟨r.refl,r,h2⟩
 stop:=λh c H1 e r _=>⟨xs,bJ.of (e.fix rfl f),by rw[ak.length g];exact aF _⟩
theorem Pf{a:Addr}{o:Obj}{ns:List Int}(f:H a=some (.bK o (.lst (ns.map V.int)))):ko mg A ι H (tR K a) (ns.map D.int) (λ_=>True) where
 go:=λi d g b H1 hd e r _=>by
  have c:aR K H1 a (ns.map V.int):=.inl (.inr ⟨o,e.fix rfl f⟩);obtain⟨v,h1,h2⟩:=ak.get (ak.ints (mg:=mg) (ι:=b) (H:=H1) ns (n:=g.length)) hd;refine⟨⟨_,v,c,h1⟩,λx H' y=>?_⟩;obtain⟨rfl,y⟩:=y;have:=y _ c;rw[h1] at this;cases this;exact⟨r.refl,r,h2⟩
 stop:=λg b H1 e r _=>⟨_,.inl (.inr ⟨o,e.fix rfl f⟩),by simp⟩
theorem Pj{q:Nat}{ds:List D}(b:q<A.length):ko mg A ι H (tR K (ι q)) ds (λA'=>A'[q]?=some (.lst ds)) where
 go:=λi d f a H1 hd e r hc=>by
  obtain⟨xs,h1,h2⟩:=r.lst hc;rw[e.ag q b] at h1;obtain⟨v,c,g⟩:=ak.get h2 hd;refine⟨⟨xs,v,aR.of h1,c⟩,λx H' y=>?_⟩;obtain⟨rfl,y⟩:=y;have:=y xs (aR.of h1);rw[c] at this;cases this;exact⟨r.refl,r,g⟩
 stop:=λf a H1 e r hc=>by
  obtain⟨xs,h1,h2⟩:=r.lst hc;rw[e.ag q b] at h1;exact⟨xs,aR.of h1,by rw[ak.length h2];exact aF _⟩
def fP(lo:Int)(n:Nat):List D:=(range n).map λ(i:Nat)=>D.int (lo+i)
theorem Pn{lo:Int}{n:Nat}:ko mg A ι H (tS lo n) (fP lo n) (λ_=>True) where
 go:=λi d c a H1 hd e r _=>by
  unfold fP at hd;rw[bW] at hd;cases q:(range n)[i]? with
  |none=>rw[q] at hd;cases hd
  |some j=>
   rw[q] at hd;have hi:=(b8.mp q).1;have b:=(b8.mp q).2;simp at hi b;subst b;cases hd;refine⟨hi,λx H' y=>?_⟩;obtain⟨rfl,rfl⟩:=y;exact⟨r.refl,r,rfl⟩
 stop:=λc a H1 e r _=>by
  show n<=_;simp[fP]
def f7(z:Str):List D:=z.cps.toList.map λc=>D.str ⟨#[c]⟩
theorem Po{z:Str}:ko mg A ι H (xH z) (f7 z) (λ_=>True) where
 go:=λi d b a H1 hd e r _=>by
  unfold f7 at hd;rw[bW] at hd;cases q:z.cps.toList[i]? with
  |none=>rw[q] at hd;cases hd
  |some j=>
   rw[q] at hd;cases hd;have hi:=(b8.mp q).1;refine⟨show i<z.cps.size by simpa using hi,λx H' y=>?_⟩;obtain⟨rfl,c,hc,rfl⟩:=y;have:z.cps.toList[i]?=some c:=by simpa using hc
   rw[q] at this;cases this;exact⟨r.refl,r,rfl⟩
 stop:=λb a H1 e r _=>by
  show _=_;simp[f7]
end
def OR(K:Frag)(tl:TE):TI:=λσ H R=>tl σ H λx H1=>(∃a,x=.ref a/\(∃xs,aR K H1 a xs)/\R (tR K a) H1)\/(∃a,x=.ref a/\(∃xs,bJ K H1 a xs)/\R (xJ K a) H1)
theorem R_{X:Cx}{tg l:Expr}{tl:TE}(hl:PE X l tl):PI X tg l (OR X.K tl):=by
 intro pins s σ H R I h;refine aK (hl pins s σ H _ I h) λv c ⟨x,H1,d,i,j⟩=>?_;rcases j with⟨a,e,⟨xs,f⟩,q⟩|⟨a,e,⟨xs,f⟩,q⟩
 .subst e
  cases i;obtain⟨its,k,p,hz⟩:=d.list f;refine p9 p.isList ?_;refine⟨c.heap.objs.size,[c.heap.objs.size],_,_,H1,rfl,d.kept (t':=c.toks) λb o e=>bw _ e,VI a _,⟨_,cA _ rfl,rfl,rfl⟩,λb g=>?_,q⟩;have e:b=c.heap.objs.size:=by simpa using g
  subst e;exact d.lM (aF _) (d.hok.fresh (aF _))
 .subst e
  cases i;obtain⟨its,k,p,hz⟩:=d.tuple f;refine wpAny_pyIter_tuple (show c.heap.IsTuple a its.toArray from p) ?_;refine⟨c.heap.objs.size,[c.heap.objs.size],_,_,H1,rfl,d.kept (t':=c.toks) λb o e=>bw _ e,VN a _,⟨_,cA _ rfl,rfl,rfl⟩,λb g=>?_,q⟩;have e:b=c.heap.objs.size:=by simpa using g
  subst e;exact d.lM (aF _) (d.hok.fresh (aF _))
@[irreducible] def itR(r:Nat)(A:Ar)(R:List D->(Ar->Prop)->Ar->Prop):Prop:=match A[r]? with
 |some (.lst xs)=>R xs (λA'=>A'[r]?=some (.lst xs)) A
 |_=>False
def OQ(m:aM):iW:=λτ A R=>m τ A λx A1=>match x with
 |.tup xs=>R xs (λ_=>True) A1
 |.fl ns=>R (ns.map .int) (λ_=>True) A1
 |.ref r=>itR r A1 R
 |_=>False
def OT(m:aM):iW:=λτ A R=>m τ A λx A1=>match x with
 |.str z=>R (f7 z) (λ_=>True) A1
 |_=>False
def OM(n:dj):iW:=λτ A R=>n τ A λvs A1=>match vs with
 |[.int j]=> -(2 ^ 62)<=j/\j<2 ^ 62/\R (fP 0 j.toNat) (λ_=>True) A1
 |_=>False
section
variable{X:Cx}{N:En}{pos p:Pos}{tg e a b:Expr}{m:aM}{n:dj}{nm:Str}{px:Pos}
theorem cY(i:PE X e (up X.mg N m)):PI X tg e (jA X.mg N (OQ m)):=oN (R_ i) λσ H Q q=>by
 obtain⟨A,ι,τ,R,S,q,k⟩:=q;refine⟨A,ι,τ,_,S,q,λx d c H1 u a g f h=>?_⟩;cases x with
 |tup ds=>
  obtain⟨b,xs,rfl,h1,h2⟩:=h;exact .inr ⟨b,rfl,⟨xs,bJ.of h1⟩,k ds _ d c H1 _ a g f (Pp h1 h2)⟩
 |fl ns=>
  obtain⟨b,o,rfl,h1⟩:=h;exact .inl ⟨b,rfl,⟨_,.inl (.inr ⟨o,h1⟩)⟩,k _ _ d c H1 _ a g f (Pf h1)⟩
 |ref r=>
  obtain⟨j,rfl⟩:=h;have a:itR r d R:=a;unfold itR at a;split at a
  .rename_i xs e
   obtain⟨l,h1,_⟩:=f.lst e;exact .inl ⟨_,rfl,⟨l,aR.of h1⟩,k _ _ d c H1 _ a g f (Pj j)⟩
  .exact a.elim
 |_=>exact a.elim
theorem Ds(c:PE X e (up X.mg N m)):PI X (.Name nm px) e (jA X.mg N (OT m)):=oN (Sa c) λσ H Q q=>by
 obtain⟨A,ι,τ,R,S,q,k⟩:=q;refine⟨A,ι,τ,_,S,q,λx d a H1 u b f g h=>?_⟩;cases x with
 |str z=>exact⟨z,h,k _ _ d a H1 _ b f g Po⟩
 |_=>exact b.elim
theorem mU(e:X.mg "range"=none)(f:PA X [a] (fJ X.mg N n))(g:Gl X "range":=by rfl)(h:starEach [a] X.env=[(false,eval a X.env)]:=by rfl):PI X tg (.Call (.Name "range" p) [a] [] pos) (jA X.mg N (OM n)):=oN (R8 g e f h) λσ H Q q=>by
 obtain⟨A,ι,τ,R,S,q,k⟩:=q;refine⟨A,ι,τ,_,S,q,λx i c H1 u b l m d=>?_⟩;match x,b,d with
 |[.int j],b,d=>
  obtain⟨_,_,rfl,rfl,rfl⟩:=d;exact⟨j,rfl,b.1,b.2.1,k _ _ i c H1 _ b.2.2 l m Pn⟩
end
def mQ(fC:Ar->Prop)(g:jG)(b:dh)(R:lC):List D->bL->Ar->Prop
 |[],τ,A=>fC A/\R.nx τ A
 |x::xs,τ,A=>fC A/\g x τ A λBe A1=>b {R with nx:=mQ fC g b R xs,ct:=mQ fC g b R xs,bk:=R.nx} Be A1
def GZ(it:iW)(g:jG)(b:dh):dh:=λR τ A=>it τ A λitems fC A1=>mQ fC g b R items τ A1
theorem eN{X:Cx}{N:En}{pos:Pos}{tg iter:Expr}{body:List Stmt}{it:iW}{g:jG}{tb:dh}(T:PassesOwn (model X.prog X.w) X.A X.env X.xe)(hc:X.calm=true)(hi:PI X tg iter (jA X.mg N it))(U:PG X tg (sP X.mg N g))(V:dw X body (cQ X.mg N tb))
  (W:∀x,foldedSetIterable iter X.env x=pure x:=by intro _;rfl):PS X (.For tg iter body [] pos) (cQ X.mg N (GZ it g tb)):=jt (Sy T hc hi U V W) λQ σ H q=>by
 obtain⟨A,ι,τ,R,S,q,k⟩:=q;refine⟨A,ι,τ,_,S,q,λa o B c H1 J Y t O P=>?_⟩;have Z:=S.next t O;refine⟨λi m σ' H'=>m=a.length - i/\i<=a.length/\∃A' ι' bS,dM X.mg N A' ι' bS σ' H'/\Ext B c H1 A' ι' H'/\mQ o g tb R (a.drop i) bS A',⟨_,rfl,bG _,B,c,τ,Z,O.refl,by simpa using Y⟩,?_⟩;rintro i m σ2 H2 ⟨rfl,hi,C,d,D,f,h,j⟩;by_cases hl:i<a.length
 .right
  have hd:a.drop i=a[i]::a.drop (i+1):=by rw[lu hl]
  rw[hd] at j;obtain⟨p,j⟩:=j;obtain⟨g1,g2⟩:=P.go i a[i] C d H2 (by rw[br hl]) h f.ra p;refine⟨g1,λσ' H'=>∃A' ι' bS,dM X.mg N A' ι' bS σ' H'/\Ext B c H1 A' ι' H'/\mQ o g tb R (a.drop (i+1)) bS A',λσ' H' ⟨A',ι',bS,z⟩=>⟨_,by omega,rfl,hl,A',ι',bS,z⟩,λx H3 y=>?_⟩;obtain⟨r,u,v3⟩:=g2 x H3 y;refine⟨C,d,D,a[i],_,f.next r u,v3,j,λE A4 F V9 H4 q4 v G s4=>?_⟩;have b:=r.trans v;refine⟨A4,F,E,_,(f.next r u).to v G s4,q4,⟨?_,k.rt.from ((t.trans h).trans b),k.nx.from ((t.trans h).trans b),?_⟩⟩
  .exact λl I n K H5 L s M s5=>⟨I,n,l,((f.next r u).to v G s4).to s M s5,(h.trans b).trans s,L⟩
  .exact λl I n K H5 L s M s5=>⟨I,n,l,((f.next r u).to v G s4).to s M s5,(h.trans b).trans s,L⟩
 .left
  have e:i=a.length:=by omega
  subst e;rw[List.drop_length] at j;exact⟨P.stop C d H2 h f.ra j.1,(k.nx.from (t.trans h)).here f j.2⟩
def pQ:Option Nat->D->Option (List D)
 |none,x=>some [x]
 |some k,.tup ds=>if ds.length=k then some ds else none
 |some _,_=>none
def kC(fC:Ar->Prop)(k:Option Nat)(fr:bL)(tt:fB)(te:aM)(R:List D->Ar->Prop):List D->List D->Ar->Prop
 |[],ys,A=>fC A/\R ys A
 |x::xs,ys,A=>fC A/\match pQ k x with
  |some vs=>tt (vs.map some++fr) A λb A3=>cond b (te (vs.map some++fr) A3 λy A4=>ys.length<sizeLine/\kC fC k fr tt te R xs (ys++[y]) A4) (kC fC k fr tt te R xs ys A3)
  |none=>False
def mP(k:Option Nat)(ix:List Nat)(it:iW)(tt:fB)(te:aM):aM:=λτ A R=>it τ A λitems fC A1=>kC fC k (ix.map (lk τ)) tt te (λys A2=>R (.ref A2.length) (A2++[.lst ys])) items [] A1
def qY:Nat->Nat->jM
 |_,0=>D9
 |i,n+1=>D8 (oW i) (qY (i+1) n)
def sI(K:Frag):Option Nat->TG
 |none=>oW 0
 |some k=>D_ K k (qY 0 k)
theorem El{Q:L2.St->Hp->Prop}{H:Hp}{fs:L2.St}:∀(xs:List V) (a:L2.St),Q (a++(xs.map some++fs)) H->qY a.length xs.length xs (a++(replicate xs.length none++fs)) H Q
 |[],a,h=>⟨rfl,by simpa using h⟩
 |x::r,a,h=>by
  refine⟨x,r,rfl,?_⟩;show qY (a.length+1) r.length r ((a++(replicate (r.length+1) none++fs)).set a.length (some x)) H Q;have e:(a++(replicate (r.length+1) none++fs)).set a.length (some x)=(a++[some x])++(replicate r.length none++fs):=by
   rw[List.set_append_right _ _ (aF _)];simp[List.replicate_succ]
  rw[e];have:=El r (a++[some x]) (by simpa using h);simpa using this
theorem EN{fs:L2.St}:∀(xs:L2.St),gJ (replicate xs.length none++fs) (xs++fs)
 |[]=>gJ.refl fs
 |x::r=>.own (EN r)
section
variable{mg:au}{K:Frag}{A:Ar}{ι:Io}{H:Hp}
theorem VA{k:Option Nat}{d:D}{vs:List D}{x:V}{n:Nat}(b:pQ k d=some vs)(r:RV mg ι n H d x):∃xs,ak mg ι n H vs xs/\vs.length=k.getD 1/\∀(fs:L2.St) (Q:L2.St->Hp->Prop),Q (xs.map some++fs) H->sI K k x (replicate (k.getD 1) none++fs) H Q:=by
 cases k with
 |none=>
  cases b;exact⟨[x],⟨x,[],rfl,r,rfl⟩,rfl,λfs Q q=>q⟩
 |some k=>
  cases d with
  |tup ds=>
   have b:(if ds.length=k then some ds else none)=some vs:=b;by_cases hl:ds.length=k
   .rw[av hl] at b
    cases b;obtain⟨a,xs,rfl,h1,h2⟩:=r;have c:=ak.length h2;refine⟨xs,h2,hl,λfs Q q=>⟨a,xs,rfl,bJ.of h1,by rw[<-c];exact hl,?_⟩⟩;have:=El (Q:=Q) (H:=H) (fs:=fs) xs [] q;show qY 0 k xs (replicate k none++fs) H Q;have e:k=xs.length:=by rw[<-c,hl]
    rw[e];exact this
   .rw[ay hl] at b
    cases b
  |_=>cases b
theorem RA.off(R:RA mg ι H A){p:Addr}{o u:HO}(a:∀r,r<A.length->ι r≠p)(d:H p=some u)(e:jc u=true):RA mg ι (upd H p o) A:=
 ⟨λr c h=>CO.ag (aF _) (λ_ _=>rfl) (λb q m z=>by
  rw[aW]
  .exact z
  .rintro rfl
   rw[d] at z;cases z;rw[e] at m;cases m) (λq z=>by rw[aW (a r (b8.mp h).1)];exact z) c (R.ia r c h),R.inj⟩
end
theorem UX{own:List Str}{ix:List Nat}{σ:L2.St}:L2.stC own ix σ=replicate own.length none++ix.map λi=>(σ[i]?).join:=by
 unfold L2.stC;rw[List.map_const']
theorem E5:∀(ds:List D) (fr:bL) (i:Nat) (d:D),lk (ds.map some++fr) i=some d->(ds[i]?=some d)\/(ds.length<=i/\lk fr (i - ds.length)=some d)
 |[],fr,i,d,h=>.inr ⟨bG _,by simpa using h⟩
 |x::r,fr,0,d,h=>.inl (by simpa[lk] using h)
 |x::r,fr,i+1,d,h=>by
  rcases E5 r fr i d (by simpa[lk] using h) with q|⟨a,b⟩
  .exact .inl (by simpa using q)
  .exact .inr ⟨by simpa using a,by simpa using b⟩
theorem RS.block{mg:au}{ι:Io}{n:Nat}{H:Hp}{τ:bL}{σ:L2.St}{ix:List Nat}{vs:List D}{xs:List V}(r:RS mg ι n H τ σ)(h:ak mg ι n H vs xs):RS mg ι n H (vs.map some++ix.map (lk τ)) (xs.map some++ix.map λi=>(σ[i]?).join):=⟨by simp[ak.length h],λi d q=>by
 have hl:=ak.length h;rcases E5 vs _ i d q with q|⟨b,a⟩
 .obtain⟨v,h1,h2⟩:=ak.get h q
  have hi:=(b8.mp h1).1;exact⟨v,by rw[iI (by simpa using hi),bW,h1];rfl,h2⟩
 .rw[u5,bW] at a
  cases e:ix[i - vs.length]? with
  |none=>rw[e] at a;simp at a
  |some j=>
   rw[e] at a;have a:lk τ j=some d:=by simpa using a
   obtain⟨v,h1,h2⟩:=r.at' j d a;refine⟨v,?_,h2⟩;rw[tK (by simpa[<-hl] using b),bW,aP,<-hl,e];simp[h1]⟩
section
variable{X:Cx}{N:En}{own frees:List Str}{ix:List Nat}{it:iW}{tt:fB}{te:aM}{k:Option Nat}
theorem AG(hk:own.length=k.getD 1){tT:CP->TT}(hT:∀c σ H Q,cW X.mg N tt σ H Q->tT c σ H Q){σ:L2.St}{H:Hp}{Q:VK}(q:up X.mg N (mP k ix it tt te) σ H Q):Aw own ix (jA X.mg N it) (λ_=>sI X.K k) tT (λ_=>up X.mg N te) σ H Q:=by
 obtain⟨A,ι,τ,R,S,q,kq⟩:=q;refine⟨A,ι,τ,_,S,q,λa W A1 G H1 J q1 e1 r1 j1 c acc g=>?_⟩;have S1:=S.next e1 r1;rw[UX,hk];have Y:∀r,r<A1.length->G r≠acc:=λr p z=>by
  obtain⟨o,h1,_⟩:=r1.im r p;rw[z,g] at h1;cases h1
 have rn:=r1.uF (o:=.lst []) g;refine⟨λi m ys H'=>m=a.length - i/\i<=a.length/\∃A' ι' f,RA X.mg ι' H' A'/\Ext A1 G H1 A' ι' H'/\(∀r,r<A'.length->ι' r≠acc)/\H' acc=some (.lst ys)/\ak X.mg ι' A'.length H' f ys/\kC W k (ix.map (lk τ)) tt te (λys d=>R (.ref d.length) (d++[.lst ys])) (a.drop i) f A',
  ⟨_,rfl,bG _,A1,G,[],r1.fix rn (λb o z=>by rw[aW (dB z g)];exact z),rn,Y,eT,rfl,by simpa using q1⟩,?_⟩
 rintro i m ys H2 ⟨rfl,hi,d,j,f,r2,E,n,hy,ry,F⟩;refine⟨hy,?_⟩;by_cases hl:i<a.length
 .right
  have hd:a.drop i=a[i]::a.drop (i+1):=by rw[lu hl]
  rw[hd] at F;obtain⟨w,F⟩:=F;obtain⟨g1,g2⟩:=j1.go i a[i] d j H2 (by rw[br hl]) E r2 w;refine⟨g1,λO H'=>∃A' ι' L,RA X.mg ι' H' A'/\Ext A1 G H1 A' ι' H'/\(∀r,r<A'.length->ι' r≠acc)/\H' acc=some (.lst O)/\ak X.mg ι' A'.length H' L O/\kC W k (ix.map (lk τ)) tt te (λys d=>R (.ref d.length) (d++[.lst ys])) (a.drop (i+1)) L A',λO H' z=>⟨_,by omega,rfl,hl,z⟩,λx H3 y=>?_⟩;obtain⟨e3,r3,v3⟩:=g2 x H3 y;split at F
  .rename_i vs hu
   obtain⟨xs,h1,h2,h3⟩:=VA (K:=X.K) hu v3;refine h3 _ _ ⟨by have:=EN (fs:=ix.map λi=>(σ[i]?).join) (xs.map some);rw[aP,<-ak.length h1,h2] at this;exact this,?_⟩;have I:=E.trans e3;have S3:dM X.mg N d j (vs.map some++ix.map (lk τ)) (xs.map some++ix.map λi=>(σ[i]?).join) H3:=⟨r3,RS.block (S1.rs.ext I) h1,S1.ex.trans I⟩;have Z:H3 acc=some (.lst ys):=e3.mo acc _ hy n;refine hT _ _ _ _ ⟨d,j,_,_,S3,F,λb A4 P H4 q4 T r4=>?_⟩;have B:∀r,r<A4.length->P r≠acc:=λr p z=>by
    by_cases hl:r<d.length
    .rw[T.ag r hl] at z;exact n r hl z
    .have:=T.nw r (by omega) p
     rw[z,Z] at this;cases this
   have U:H4 acc=some (.lst ys):=T.mo acc _ Z n;have GW:=ak.ext (e3.trans T) f ys ry;cases b with
   |true=>
    refine O6 ?_;refine⟨A4,P,_,_,S3.next T r4,q4,λv A5 Jl H5 u q5 e5 r5 v5=>?_⟩;have V:H5 acc=some (.lst ys):=e5.mo acc _ U B;have M:∀r,r<A5.length->Jl r≠acc:=λr p z=>by
     by_cases hl:r<A4.length
     .rw[e5.ag r hl] at z;exact B r hl z
     .have:=e5.nw r (by omega) p
      rw[z,U] at this;cases this
    have GX:=ak.ext e5 f ys GW;have t:=(I.trans T).trans e5;have fx:∀b o,jc o=false->H5 b=some o->upd H5 acc (.lst (ys++[u])) b=some o:=λb o m z=>by
     rw[aW]
     .exact z
     .rintro rfl
      rw[V] at z;cases z;cases m
    refine⟨V,by rw[<-ak.length GX];exact q5.1,A5,Jl,f++[v],r5.off M V rfl,⟨t.len,t.ag,t.im,λb o z hn=>?_,t.nw,λb o z=>?_⟩,M,eT,?_,q5.2⟩
    .rw[aW (dB z g)];exact t.mo b o z hn
    .obtain⟨o',h'⟩:=t.al b o z
     exact⟨o',by rw[aW (dB z g)];exact h'⟩
    .exact ak.ag (aF _) (λ_ _=>rfl) fx _ _ (GX.app (es:=[v]) (ws:=[u]) ⟨u,[],rfl,v5,rfl⟩)
   |false=>
    refine O5 ?_;exact⟨A4,P,f,r4,I.trans T,B,U,GW,q4⟩
  .exact F.elim
 .left
  have e:i=a.length:=by omega
  subst e;rw[List.drop_length] at F;obtain⟨w,F⟩:=F;refine⟨j1.stop d j H2 E r2 w,?_⟩;obtain⟨D,l,at2⟩:∃D:Io,(∀r,r<d.length->D r=j r)/\D d.length=acc:=⟨λr=>if r=d.length then acc else j r,λr h=>by
   show(if r=d.length then acc else j r)=j r;rw[ay (by omega)],by
   show(if d.length=d.length then acc else j d.length)=acc;rw[av rfl]⟩
  refine kq (.ref d.length) (d++[.lst f]) D H2 _ F (e1.trans ⟨by have:=E.len;simp;omega,λr h=>by rw[l r (cJ h E.len)];exact E.ag r h,E.im,E.mo,λr h1 h2=>?_,E.al⟩) ⟨λr c h=>?_,λr s p hs h=>?_⟩ ⟨by simp,by rw[at2]⟩
  .by_cases p:r<d.length
   .rw[l r p];exact E.nw r h1 p
   .have:r=d.length:=by simp at h2;omega
    subst this;rw[at2];exact g
  .by_cases p:r<d.length
   .rw[iI p] at h
    have:=CO.ag (n':=(d++[C.lst f]).length) (ι':=D) (H':=H2) (by simp) l (λ_ _ _ z=>z) (λ_ z=>z) c (r2.ia r c h);rw[l r p];exact this
   .have hr':r=d.length:=by
     have:=(b8.mp h).1;simp at this;omega
    subst hr';simp at h;subst h;rw[at2];exact⟨ys,hy,ak.ag (by simp) l (λ_ _ _ z=>z) f ys ry⟩
  .simp at p hs
   by_cases h1:r=d.length
   .by_cases h2:s=d.length
    .rw[h1,h2]
    .subst h1
     rw[at2,l s (by omega)] at h;exact absurd h.symm (n s (by omega))
   .by_cases h2:s=d.length
    .subst h2
     rw[at2,l r (by omega)] at h;exact absurd h (n r (by omega))
    .rw[l r (by omega),l s (by omega)] at h
     exact r2.inj r s (by omega) (by omega) h
end
def nF:fB:=λ_ A R=>R true A
section
variable{X:Cx}{N:En}{own frees:List Str}{ix:List Nat}{it:iW}{tt:fB}{te:aM}(k:Option Nat){tg iter elt yu:Expr}{scope:Scope}{pos:Pos}
theorem fW(a:own.length=k.getD 1)(hi:PI X tg iter (jA X.mg N it))(b:∀c,PG (cj X (own++frees) scope c) tg (sI X.K k))(d:∀c,PE (cj X (own++frees) scope c) elt (up X.mg N te))(S:gE X scope frees:=by exact⟨rfl,by decide+kernel,by decide+kernel,by decide+kernel,by decide+kernel,rfl⟩)(hc:X.calm=true:=by rfl)(e:ix.map (λi=>X.N[i]?)=frees.map some:=by rfl)(f:∀x,foldedSetIterable iter X.env x=pure x:=by intro _;rfl):
  PE X (.ListComp elt [⟨tg,iter,[],0⟩] scope pos) (up X.mg N (mP k ix it nF te)):=
 d9 (RG hi b (λc=>jm.nil) d S hc e f) λσ H Q q=>AG (own:=own) a (λ_ σ H Q h=>by
  obtain⟨A,ι,τ,R,S,h,k⟩:=h;exact k.here S.ra h) q
variable{i:Nat}{x:Str}{pos' spos:Pos}
theorem oO(a:X.N.Nodup)(b:X.N[i]?=some x)(f:Loc X.env.scope x)(g:own.length=k.getD 1)(hi:PI X tg iter (jA X.mg N it))(j:∀c,PG (cj X (own++frees) scope c) tg (sI X.K k))(l:∀c,PE (cj X (own++frees) scope c) elt (up X.mg N te))(S:gE X scope frees:=by exact⟨rfl,by decide+kernel,by decide+kernel,by decide+kernel,by decide+kernel,rfl⟩)(hc:X.calm=true:=by rfl)(m:ix.map (λi=>X.N[i]?)=frees.map some:=by rfl)(n:∀x,foldedSetIterable iter X.env x=pure x:=by intro _;rfl)
  (d:swapsWith (.ListComp elt [⟨tg,iter,[],0⟩] scope pos) (some (.Name x pos')) spos.line X.env=pure true:=by rfl)(o:X.fn x=true\/X.env.scope.names.lookup x=some .local:=by first|exact .inl rfl|exact .inr rfl|assumption):
  PS X (.Assign [.Name x pos'] (.ListComp elt [⟨tg,iter,[],0⟩] scope pos) spos) (cQ X.mg N (sC i (mP k ix it nF te))):=
 jt (Ga a b f hi j (λc=>jm.nil) l S hc m n d o) λQ σ H q=>by
  obtain⟨A,ι,τ,R,Z,q,k⟩:=q;exact AG (own:=own) g (λ_ σ H Q h=>by
   obtain⟨A,ι,τ,R,S,h,k⟩:=h;exact k.here S.ra h) ⟨A,ι,τ,_,Z,q,λv w p H1 u r e s t=>(k.nx.from e).here ((Z.next e s).set t) r⟩
theorem L8(a:X.N.Nodup)(b:X.N[i]?=some x)(f:Loc X.env.scope x)(g:own.length=k.getD 1)(hi:PI X tg iter (jA X.mg N it))(j:∀c,PG (cj X (own++frees) scope c) tg (sI X.K k))(l:∀c,PT (cj X (own++frees) scope c) yu (cW X.mg N tt))(m:∀c,PE (cj X (own++frees) scope c) elt (up X.mg N te))(S:gE X scope frees:=by exact⟨rfl,by decide+kernel,by decide+kernel,by decide+kernel,by decide+kernel,rfl⟩)(hc:X.calm=true:=by rfl)(n:ix.map (λi=>X.N[i]?)=frees.map some:=by rfl)(o:∀x,foldedSetIterable iter X.env x=pure x:=by intro _;rfl)
  (d:swapsWith (.ListComp elt [⟨tg,iter,[yu],0⟩] scope pos) (some (.Name x pos')) spos.line X.env=pure true:=by rfl)(p:X.fn x=true\/X.env.scope.names.lookup x=some .local:=by first|exact .inl rfl|exact .inr rfl|assumption):
  PS X (.Assign [.Name x pos'] (.ListComp elt [⟨tg,iter,[yu],0⟩] scope pos) spos) (cQ X.mg N (sC i (mP k ix it tt te))):=
 jt (Ga a b f hi j (λc=>jm.one (l c)) m S hc n o d p) λQ σ H q=>by
  obtain⟨A,ι,τ,R,Z,q,k⟩:=q;exact AG (own:=own) g (λ_ σ H Q h=>h) ⟨A,ι,τ,_,Z,q,λv y r H1 u s e t w=>(k.nx.from e).here ((Z.next e t).set w) s⟩
end
def cutD(xs:List D)(lo hi:Option Int):List D:=(xs.drop (HT.iB xs.length 0 lo)).take (HT.iB xs.length xs.length hi - HT.iB xs.length 0 lo)
@[irreducible] def UK(r:Nat)(lo hi:Option Int)(A:Ar)(R:DK):Prop:=match A[r]? with
 |some (.lst xs)=>R (.ref A.length) (A++[.lst (cutD xs lo hi)])
 |_=>False
def WM(x:D)(lo hi:Option Int)(A:Ar)(R:DK):Prop:=match x with
 |.tup xs=>¬(HT.iB xs.length 0 lo=0/\HT.iB xs.length xs.length hi=xs.length)/\R (.tup (cutD xs lo hi)) A
 |.ref r=>UK r lo hi A R
 |_=>False
def j5:List D->Option (List Str)
 |[]=>some []
 |.str b::r=>(j5 r).map (b::·)
 |_::_=>none
theorem IT{mg:au}{ι:Io}{n:Nat}{H:Hp}:∀{ds:List D} {a:List V} {bs:List Str},j5 ds=some bs->ak mg ι n H ds a->a=bs.map V.str
 |[],a,bs,h,r=>by cases h;exact r
 |d::ds,a,bs,h,r=>by
  obtain⟨x,r',rfl,h1,h2⟩:=r;cases d with
  |str b=>
   cases q:j5 ds with
   |none=>simp[j5,q] at h
   |some l=>
    simp[j5,q] at h;subst h;rw[IT q h2];cases h1;rfl
  |_=>simp[j5] at h
theorem ak.strs{mg:au}{ι:Io}{H:Hp}:∀(ns:List Str) {n:Nat},ak mg ι n H (ns.map D.str) (ns.map V.str)
 |[],_=>rfl
 |i::r,n=>⟨_,_,rfl,rfl,ak.strs r⟩
@[irreducible] def sG(r:Nat)(A:Ar)(R:DK):Prop:=match A[r]? with
 |some (.lst xs)=>(match j5 xs with
  |some ss=>ss.length<64/\∀ys:List Str,ys.Pairwise strLt->(∀x,x∈ys↔x∈ss)->R (.ref A.length) (A++[.lst (ys.map D.str)])
  |none=>False)
 |_=>False
def US:g_:=λvs A R=>match vs with
 |[.ref r]=>sG r A R
 |_=>False
theorem Dc{X:Cx}{N:En}{e:Expr}{n:dj}{m p2 c a:Pos}(d:X.mg "sorted"=none)(f:X.mg "set"=none)(hc:X.calm=true)(o:PA X [e] (fJ X.mg N n))(g:Gl X "sorted":=by rfl)(h:Gl X "set":=by rfl)
  (p:starEach [e] X.env=[(false,eval e X.env)]:=by rfl)(hz:starEach [.Call (.Name "set" p2) [e] [] a] X.env=[(false,eval (.Call (.Name "set" p2) [e] [] a) X.env)]:=by rfl):
  PE X (.Call (.Name "sorted" m) [.Call (.Name "set" p2) [e] [] a] [] c) (up X.mg N (ug US n)):=d9 (RX d f hc o g h p hz) λσ H Q q=>by
 obtain⟨A,ι,τ,R,S,q,k⟩:=q;refine⟨A,ι,τ,_,S,q,λvs s t H1 u b v j i=>?_⟩;match vs,b,i with
 |[.ref r],b,i=>
  obtain⟨_,_,rfl,⟨_,rfl⟩,rfl⟩:=i;have b:sG r s R:=b;unfold sG at b;split at b
  .rename_i xs e
   split at b
   .rename_i ss es
    obtain⟨u,h1,h2⟩:=j.lst e;exact⟨_,ss,rfl,aR.of (by rw[h1,IT es h2]),b.1,λl ys hl w x=>lU (k.from v) j (ak.strs ys) (b.2 ys w x) hl⟩
   .exact b.elim
  .exact b.elim
def cy{β:Type}(kvs:List (Key×β))(k:Key)(v:β):List (Key×β):=
 if (kvs.any λkv=>decide (kv.1=k))=true then kvs.map (λkv=>if kv.1=k then (kv.1,v) else kv) else kvs++[(k,v)]
section
variable{mg:au}{ι:Io}{H:Hp}{n:Nat}
theorem RK.any{k:Key}:∀{kvs:List (Key×D)} {xs:List (Key×V)},RK mg ι n H kvs xs->(kvs.any λa=>decide (a.1=k))=(xs.any λa=>decide (a.1=k))
 |[],xs,h=>by cases (show xs=[] from h);rfl
 |p::r,xs,h=>by
  obtain⟨x,r',rfl,h1,h2⟩:=h;rw[nS,nS,RK.any h2]
theorem RK.zI{k:Key}{d:D}{v:V}(c:RV mg ι n H d v):∀{kvs:List (Key×D)} {xs:List (Key×V)},RK mg ι n H kvs xs->RK mg ι n H (kvs.map λa=>if a.1=k then (a.1,d) else a) (xs.map λa=>if a.1=k then (a.1,v) else a)
 |[],xs,h=>by cases (show xs=[] from h);rfl
 |p::r,xs,h=>by
  obtain⟨x,r',rfl,h1,h2⟩:=h;rw[cg,cg];by_cases b:p.1=k
  .rw[av b,av b];exact⟨v,_,rfl,c,RK.zI c h2⟩
  .rw[ay b,ay b];exact⟨x,_,rfl,h1,RK.zI c h2⟩
theorem RK.app:∀{ds es:List (Key×D)} {vs ws:List (Key×V)},RK mg ι n H ds vs->RK mg ι n H es ws->RK mg ι n H (ds++es) (vs++ws)
 |[],_,vs,_,h,q=>by have h':vs=[]:=h;rw[h'];exact q
 |d::ds,es,vs,ws,h,q=>by
  obtain⟨x,r,rfl,a,b⟩:=h;exact⟨x,r++ws,rfl,a,RK.app b q⟩
theorem RK.put{k:Key}{d:D}{v:V}(a:RV mg ι n H d v){kvs:List (Key×D)}{xs:List (Key×V)}(h:RK mg ι n H kvs xs):RK mg ι n H (cy kvs k d) (putK xs k v):=by
 unfold cy putK;rw[RK.any h];split
 .exact RK.zI a h
 .exact h.app (es:=[(k,d)]) (ws:=[(k,v)]) ⟨v,[],rfl,a,rfl⟩
end
def eW:List D->Option (List (Key×D))
 |[]=>some []
 |.tup [a,b]::r=>(match fM a,eW r with
  |some k,some l=>some ((k,b)::l)
  |_,_=>none)
 |_::_=>none
def pI(ps:List (Key×D)):List (Key×D):=ps.foldl (λacc p=>cy acc p.1 p.2) []
section
variable{mg:au}{K:Frag}{ι:Io}{H:Hp}{n:Nat}
theorem FY:∀{ds:List D} {c:List V} {ps:List (Key×D)},eW ds=some ps->ak mg ι n H ds c->∃qs,RK mg ι n H ps qs/\c.length=qs.length/\∀(i:Nat) (x:V) (p:Key×V),c[i]?=some x->qs[i]?=some p->∃t,x=.ref t/\bJ K H t [kV p.1,p.2]
 |[],c,ps,h,r=>by
  cases h;cases (show c=[] from r);exact⟨[],rfl,rfl,λi x p e=>by simp at e⟩
 |.tup [a,b]::ds,c,ps,h,r=>by
  obtain⟨x,r',rfl,h1,h2⟩:=r;unfold eW at h;split at h
  .rename_i k l m o
   cases h;obtain⟨qs,q,s,u⟩:=FY o h2;obtain⟨t,xs,rfl,v,B,_,rfl,w,d,_,rfl,y,A⟩:=h1;obtain rfl:=A;cases m6 m w;refine⟨(k,d)::qs,⟨d,qs,rfl,y,q⟩,by simp[s],λi z p hz j=>?_⟩;cases i with
   |zero=>
    have f:V.ref t=z:=by simpa using hz
    have g:(k,d)=p:=by simpa using j
    subst f g;exact⟨t,rfl,bJ.of v⟩
   |succ i=>exact u i z p (by simpa using hz) (by simpa using j)
  .cases h
 |.aC::_,_,_,h,_=>by simp[eW] at h
 |.bl _::_,_,_,h,_=>by simp[eW] at h
 |.int _::_,_,_,h,_=>by simp[eW] at h
 |.str _::_,_,_,h,_=>by simp[eW] at h
 |.ref _::_,_,_,h,_=>by simp[eW] at h
 |.fl _::_,_,_,h,_=>by simp[eW] at h
 |.exc _::_,_,_,h,_=>by simp[eW] at h
 |.tup []::_,_,_,h,_=>by simp[eW] at h
 |.tup [_]::_,_,_,h,_=>by simp[eW] at h
 |.tup (_::_::_::_)::_,_,_,h,_=>by simp[eW] at h
theorem RK.fold{ps:List (Key×D)}{qs:List (Key×V)}(h:RK mg ι n H ps qs):∀{acc:List (Key×D)} {qw:List (Key×V)},RK mg ι n H acc qw->RK mg ι n H (ps.foldl (λacc p=>cy acc p.1 p.2) acc) (qs.foldl (λacc p=>putK acc p.1 p.2) qw):=by
 induction ps generalizing qs with
 |nil=>intro acc qw a;cases (show qs=[] from h);exact a
 |cons p r b=>
  intro acc qw a;obtain⟨x,r',rfl,h1,h2⟩:=h;exact b h2 (RK.put h1 a)
end
theorem Fy{mg:au}{A:Ar}{ι:Io}{H:Hp}{R:DK}{Q:VK}{ds:List (Key×D)}{xs:List (Key×V)}{p:Addr}(k:Kt mg A ι H R Q)(r:RA mg ι H A)(h:RK mg ι A.length H ds xs)(q:R (.ref A.length) (A++[.dct ds]))(a:H p=none):Q (.ref p) (upd H p (.dK xs)):=by
 have E:Ext A ι H (A++[.dct ds]) (λr=>if r=A.length then p else ι r) (upd H p (.dK xs)):=r.yS a;obtain⟨b,d⟩:=r.push (c:=.dct ds) (o:=.dK xs) a ⟨xs,eT,by simpa using RK.ext E ds xs h⟩;refine k _ _ _ _ _ q d b ⟨by simp,?_⟩;show V.ref p=V.ref (if A.length=A.length then p else ι A.length);rw[av rfl]
@[irreducible] def dctP(xs:List D)(A:Ar)(R:DK):Prop:=match eW xs with
 |some ps=>ps.length<=1000/\R (.ref A.length) (A++[.dct (pI ps)])
 |none=>False
@[irreducible] def uq(r:Nat)(A:Ar)(R:DK):Prop:=match A[r]? with
 |some (.lst xs)=>dctP xs A R
 |_=>False
def C9:g_:=λvs A R=>match vs with
 |[.tup xs]=>dctP xs A R
 |[.ref r]=>uq r A R
 |_=>False
theorem RK.len'{mg:au}{ι:Io}{H:Hp}{n:Nat}{ds:List (Key×D)}{vs:List (Key×V)}(h:RK mg ι n H ds vs):vs.length=ds.length:=(RK.length h).symm
theorem oM{mg:au}{K:Frag}:iJ mg (λxs H Q=>∃(p:Addr) (b:List V) (ps:List (Key×V)),xs=[.ref p]/\(H p=some (.lst b)\/H p=some (.tup b))/\Pairs K H b ps/\ps.length<=1000/\∀d,H d=none->Q (.ref d) (upd H d (.dK (putAll ps)))) C9:=by
 intro ds A ι H f R Q ra rs h k;have fin:∀(xs:List D) (b:List V) (p:Addr),ak mg ι A.length H xs b->(H p=some (.lst b)\/H p=some (.tup b))->dctP xs A R->∃(q:Addr) (b:List V) (ps:List (Key×V)),[V.ref p]=[.ref q]/\(H q=some (.lst b)\/H q=some (.tup b))/\Pairs K H b ps/\ps.length<=1000/\∀d,H d=none->Q (.ref d) (upd H d (.dK (putAll ps))):=λxs b p r i h=>by
  unfold dctP at h;split at h
  .rename_i ps ep
   obtain⟨qs,g,j,l⟩:=FY (K:=K) ep r;exact⟨p,b,qs,rfl,i,⟨j,l⟩,by rw[RK.len' g];exact h.1,λd hd=>Fy k ra (RK.fold g (acc:=[]) (qw:=[]) rfl) h.2 hd⟩
  .exact h.elim
 unfold C9 at h;split at h
 .obtain⟨_,_,rfl,⟨a,xs,rfl,m,c⟩,rfl⟩:=rs
  exact fin _ xs a c (.inr m) h
 .obtain⟨_,_,rfl,⟨_,rfl⟩,rfl⟩:=rs
  unfold uq at h;split at h
  .rename_i xs e
   obtain⟨f,h1,c⟩:=ra.lst e;exact fin _ f _ c (.inl h1) h
  .exact h.elim
 .exact h.elim
def Ln:aM:=λ_ A R=>R (.ref A.length) (A++[.dct []])
theorem yD{X:Cx}{N:En}{pos:Pos}:PE X (.Dict [] [] pos) (up X.mg N Ln):=d9 RI λσ H Q q=>by
 obtain⟨A,ι,τ,R,S,q,k⟩:=q;exact λp a=>Fy (ds:=[]) (xs:=[]) k S.ra rfl q a
@[irreducible] def sq(r:Nat)(y v:D)(A:Ar)(R:Ar->Prop):Prop:=match A[r]?,fM y with
 |some (.dct kvs),some k=>kvs.length<sizeLine/\R (A.set r (.dct (cy kvs k v)))
 |_,_=>False
def Tu(mo mi mv:aM):dh:=λR τ A=>mv τ A λv A1=>mo τ A1 λx A2=>mi τ A2 λy A3=>match x with
 |.ref r=>sq r y v A3 λA4=>R.nx τ A4
 |_=>False
theorem Dy{X:Cx}{N:En}{pos pos':Pos}{o i value:Expr}{mo s t:aM}(Y:X.A.units+64<cLine)(D:PE X o (up X.mg N mo))(hi:PE X i (up X.mg N s))(F:PE X value (up X.mg N t))(G:swapsWith value (some (.Subscript o i pos')) pos.line X.env=pure false):
  PS X (.Assign [.Subscript o i pos'] value pos) (cQ X.mg N (Tu mo s t)):=jt (Sv (by omega) D hi F G) λQ σ H q=>by
 obtain⟨A,ι,τ,R,S,q,k⟩:=q;refine⟨A,ι,τ,_,S,q,λv I j H1 w J b l K=>?_⟩;refine⟨I,j,τ,_,S.next b l,J,λx L m H2 u M d B v2=>?_⟩;refine⟨L,m,τ,_,(S.next b l).next d B,M,λy O P Z z a f g T=>?_⟩;have n:=RV.ext (d.trans f) v w K;have p:=RV.ext f x u v2;cases x with
 |ref r=>
  obtain⟨_,rfl⟩:=p;have a:sq r y v O (λU=>R.nx τ U):=a;unfold sq at a;split at a
  .rename_i kvs h e V
   obtain⟨xs,h1,h2⟩:=g.dct e;cases m6 V T;refine⟨_,_,rfl,qk.k h1 (by rw[<-RK.length h2];exact a.1),?_⟩;have hl:=(b8.mp e).1;have E:=g.mX (o:=.dK (putK xs h w)) (c:=.dct (cy kvs h v)) hl;obtain⟨W,C⟩:=g.put (c':=.dct (cy kvs h v)) (o:=.dK (putK xs h w)) e h1 rfl ⟨_,eT,by simpa using RK.ext E _ _ (RK.put n h2)⟩;exact(k.nx.from (((b.trans d).trans f).trans C)).here ((((S.next b l).next d B).next f g).next C W) a.2
  .exact a.elim
 |_=>exact a.elim
def Lg(x:Str)(m:aM):aM:=λτ A R=>m τ A λv A1=>match v with
 |.str y=>x.length+y.length<=sizeLine/\R (.str (x++y)) A1
 |_=>False
theorem LO{X:Cx}{N:En}{e:Expr}{m:aM}{x:Str}{k:Nat}{b p2 pos:Pos}(c:PE X e (up X.mg N m))(d:x.length<=sizeLine:=by decide):PE X (.JoinedStr [.Constant (.str x) k b,.FormattedValue e (-1) none p2] pos) (up X.mg N (Lg x m)):=
 d9 (RJ c d) λσ H Q q=>by
  obtain⟨A,ι,τ,R,S,q,k⟩:=q;refine⟨A,ι,τ,_,S,q,λv j f H1 u a g h i=>?_⟩;cases v with
  |str y=>cases i;exact⟨y,rfl,a.1,(k.from g).here h a.2 rfl⟩
  |_=>exact a.elim
def rK:DX:=λ_ _=>False
theorem j4{X:Cx}{N:En}{P:Program}{w:World}:Passes (bI P w) X (EL X.mg N rK):=λpins σ H s e s' I h=>by
 obtain⟨a,C,H',_,_,c,A',ι',_,_,_,z⟩:=h;exact z.elim
theorem EK{K:Frag}:∀t∈tys,kitOne K (.type t) (.type "bool")=some (lQ t "bool"):=by
 intro t a;simp only[tys,aY,gf,gh] at a;rcases a with rfl|rfl|rfl|rfl|rfl|rfl|rfl<;>rfl
theorem EM{K:Frag}:∀t∈tys,kitOne K (.type t) (.type "int")=some (lQ t "int"):=by
 intro t a;simp only[tys,aY,gf,gh] at a;rcases a with rfl|rfl|rfl|rfl|rfl|rfl|rfl<;>rfl
theorem zv{K:Frag}:∀t∈tys,kitOne K (.type t) (.type "str")=some (lQ t "str"):=by
 intro t a;simp only[tys,aY,gf,gh] at a;rcases a with rfl|rfl|rfl|rfl|rfl|rfl|rfl<;>rfl
theorem kit_tuple{K:Frag}:∀t∈tys,kitOne K (.type t) (.type "tuple")=some (lQ t "tuple"):=by
 intro t a;simp only[tys,aY,gf,gh] at a;rcases a with rfl|rfl|rfl|rfl|rfl|rfl|rfl<;>rfl
theorem cI{b:Bool}{X Y:Prop}(h1:b=true->X)(h2:b=false->Y):cond b X Y:=by
 cases b with
 |true=>exact h1 rfl
 |false=>exact h2 rfl
theorem cD{p:Prop}[Decidable p]{X Y:Prop}(h1:p->X)(h2:¬p->Y):cond (decide p) X Y:=cI (λe=>h1 (iF e)) λe=>h2 (of_decide_eq_false e)
theorem cN{p:Prop}[Decidable p]{X Y:Prop}(h1:¬p->X)(h2:p->Y):cond (!decide p) X Y:=cI (λe=>h1 (of_decide_eq_false (by simpa using e))) λe=>h2 (iF (by simpa using e))
def cz(t:Nat)(A A':Ar):Prop:=∀q c,q≠t->A[q]?=some c->A'[q]?=some c
theorem cz.refl{t:Nat}{A:Ar}:cz t A A:=λ_ _ _ h=>h
theorem cz.trans{t:Nat}{A B C:Ar}(a:cz t A B)(b:cz t B C):cz t A C:=λq c n h=>b q c n (a q c n h)
theorem cz.set{t:Nat}{A:Ar}{c:C}:cz t A (A.set t c):=λq d n h=>by rw[dI (Ne.symm n)];exact h
def Tw(t n:Nat)(A:Ar):Prop:=∃xs,A[t]?=some (.lst xs)/\xs.length<=n
theorem Tw.mono{t n m:Nat}{A:Ar}(h:Tw t n A)(l:n<=m):Tw t m A:=let ⟨xs,a,b⟩:=h;⟨xs,a,cR b l⟩
theorem getElem?_push{A T:Ar}{q:Nat}{c:C}(h:A[q]?=some c):(A++T)[q]?=some c:=by
 have:=(b8.mp h).1;rw[iI this];exact h
def Gr(A A':Ar):Prop:=∃T,A'=A++T
theorem Gr.refl{A:Ar}:Gr A A:=⟨[],by simp⟩
theorem Gr.push{A T:Ar}:Gr A (A++T):=⟨T,rfl⟩
theorem Gr.trans{A B C:Ar}(a:Gr A B)(b:Gr B C):Gr A C:=by
 obtain⟨T,rfl⟩:=a;obtain⟨c,rfl⟩:=b;exact⟨T++c,by simp⟩
theorem Gr.get{A B:Ar}(a:Gr A B){q:Nat}{c:C}(h:A[q]?=some c):B[q]?=some c:=by
 obtain⟨T,rfl⟩:=a;exact getElem?_push h
theorem Gr.but{A B:Ar}{t:Nat}(a:Gr A B):cz t A B:=λ_ _ _ h=>a.get h
theorem Tw.gr{A B:Ar}{t n:Nat}(h:Tw t n A)(a:Gr A B):Tw t n B:=let ⟨xs,x,y⟩:=h;⟨xs,a.get x,y⟩
def BF:Ct:=λds A R _=>∃ns k,ds=[.fl ns,.int k]/\0<=k/\∀i A',Gr A A'->R (.int i) A'
def BU:Ct:=λds A R _=>∃ns k m,ds=[.fl ns,.int k,.int m]/\0<=k/\0<m/\∀i A',0<=i->i<m->Gr A A'->R (.int i) A'
def kr:Ct:=λds A R _=>∃ns t m n,ds=[.fl ns,.ref t,.int m]/\Tw t n A/\n<1000000/\0<m/\∀i A',0<=i->i<m->cz t A A'->Tw t (n+1) A'->R (.int i) A'
def lF:Ct:=λds A R _=>∃ns t q xs n,ds=[.fl ns,.ref t,.ref q]/\q≠t/\A[q]?=some (.lst xs)/\xs≠[]/\Tw t n A/\n<1000000/\∀x A',x∈xs->cz t A A'->Tw t (n+1) A'->R x A'
theorem uc{α:Type}{xs:List α}{k:Int}(h0:0<=k)(h:k<(xs.length:Int)):∃v,cX xs k=some v/\v∈xs:=by
 have a:k.toNat<xs.length:=by omega
 refine⟨xs[k.toNat],?_,lz a⟩;unfold cX kJ;rw[av h0,av h];simp[br a]
theorem lay_ints:∀ns:List Int,canLayAll0 (ns.map PyData.int)=true
 |[]=>by simp[canLayAll0]
 |n::r=>by simp[canLayAll0,canLay0,lay_ints r]
theorem aH{A:Ar}{c:C}:(A++[c])[A.length]?=some c:=by simp
theorem Mq{ns:List Int}{A:Ar}{R:DK}(h:R (.bl (decide (ns=[]))) (A++[.lst []])):fE false (.fl ns) (.ref A.length) (A++[.lst []]) R:=by
 unfold fE;have a:bO (A++[.lst []]) (.ref A.length)=.list []:=by unfold bO;simp only[aH];rfl
 have b:bO (A++[.lst []]) (.fl ns)=.list (ns.map PyData.int):=by unfold bO;rfl
 refine⟨rfl,?_,?_,?_,?_,?_⟩
 .unfold fj;simp only[aH];rfl
 .rw[b];simpa[canLay0] using lay_ints ns
 .rw[a];simp[canLay0,canLayAll0]
 .rw[a];simp[PyData.depth,depthAll];omega
 .rw[b,a]
  have e:PyData.eqv (.list (ns.map PyData.int)) (.list [])=decide (ns=[]):=by cases ns<;>simp[PyData.eqv,eqvAll]
  rw[ay bZ,e];exact h
section
variable{A:Ar}{r q t:Nat}{xs ys:List D}{kvs:List (Key×D)}{R:DK}
theorem fh(h:A[r]?=some (.lst xs)):jT A (.ref r)=true:=by unfold jT;simp only[h]
theorem iZ{y:D}(h:A[r]?=some (.lst xs))(hz:xs.length<sizeLine)(k:R .aC (A.set r (.lst (xs++[y])))):oF r y A R:=by
 unfold oF;simp only[h];exact⟨hz,k⟩
theorem yR(h:A[r]?=some (.lst xs))(h2:A[q]?=some (.lst ys))(hz:xs.length+ys.length<=sizeLine)(k:R .aC (A.set r (.lst (xs++ys)))):qV r q A R:=by
 unfold qV;simp only[h,h2];exact⟨hz,k⟩
theorem kD(h:A[r]?=some (.lst xs))(h2:A[q]?=some (.lst ys))(hz:xs.length+ys.length<=sizeLine)(k:R (.ref A.length) (A++[.lst (xs++ys)])):ue r q A R:=by
 unfold ue;simp only[h,h2];exact⟨hz,k⟩
theorem rD(h:A[r]?=some (.lst xs))(k:R (.int xs.length) A):uZ r A R:=by
 unfold uZ;simp only[h];exact k
theorem fY{i:Int}{v:D}(h:A[r]?=some (.lst xs))(hi:cX xs i=some v)(k:R v A):kK r (.int i) A R:=by
 unfold kK;simp only[h,hi];exact k
theorem AE(h:A[r]?=some (.lst xs))(k:R (.tup xs) A):wI r A R:=by
 unfold wI;simp only[h];exact k
theorem Fe(h:A[r]?=some (.lst xs))(k:R (.ref A.length) (A++[.lst xs])):u6 r A R:=by
 unfold u6;simp only[h];exact k
theorem get_set(h:A[t]?=some (.lst xs)):(A.set t (.lst ys))[t]?=some (.lst ys):=by
 rw[dJ (b8.mp h).1]
theorem b_{c:C}(h:A[t]?=some c):t<A.length:=(b8.mp h).1
end
open MA
abbrev M:=bz Str
def enc:M->D
 |.wt n=>.tup [.str "weight",.str n]
 |.bQ l r a b=>.tup [.str "rod",.int l,.int r,enc a,enc b]
theorem iN{k:Option Nat}{fr:bL}{te:aM}{b:Ar->Prop}{R:List D->Ar->Prop}{A:Ar}(hc:b A)(f:D->D):∀(a ys:List D),(∀x∈a,∃vs,pQ k x=some vs/\∀Q:DK,Q (f x) A->te (vs.map some++fr) A Q)->ys.length+a.length<=sizeLine->R (ys++a.map f) A->kC b k fr nF te R a ys A
 |[],ys,_,_,h=>⟨hc,by simpa using h⟩
 |x::xs,ys,c,hl,h=>by
  obtain⟨vs,d,e⟩:=c x (bh ..);refine⟨hc,?_⟩;rw[d];refine e _ ⟨by simp at hl;omega,iN hc f xs (ys++[f x]) (λy g=>c y (aZ _ g)) (by simp at hl ⊢;omega) (by simpa using h)⟩
theorem qC{α:Type}(f:α->Bool):∀xs:List α,i7 (xs.map λx=>D.bl (f x))=some (xs.map f)
 |[]=>rfl
 |x::r=>by simp[i7,qC f r]
theorem ints_map{α:Type}(f:α->Int):∀xs:List α,jS (xs.map λx=>D.int (f x))=some (xs.map f)
 |[]=>rfl
 |x::r=>by simp[jS,ints_map f r]
theorem strs_map{α:Type}(f:α->Str):∀xs:List α,j5 (xs.map λx=>D.str (f x))=some (xs.map f)
 |[]=>rfl
 |x::r=>by simp[j5,strs_map f r]
theorem yd{A:Ar}{r:Nat}{xs:List D}{bs:List Bool}{R:DK}(h:A[r]?=some (.lst xs))(a:i7 xs=some bs)(k:R (.bl (bs.all id)) A):allR r A R:=by
 unfold allR;simp only[h,a];exact k
theorem U5{A:Ar}{r:Nat}{xs:List D}{ns:List Int}{R:DK}(h:A[r]?=some (.lst xs))(a:jS xs=some ns)(h1:∀n∈ns,0<=n/\n<=2 ^ 40)(h2:ns.length<=1000)(k:R (.int ns.sum) A):wB r A R:=by
 unfold wB;simp only[h,a];exact⟨h1,h2,k⟩
theorem IM{A:Ar}{r:Nat}{xs:List D}{ss:List Str}{R:DK}(h:A[r]?=some (.lst xs))(a:j5 xs=some ss)(h2:ss.length<64)(k:∀ys:List Str,ys.Pairwise strLt->(∀x,x∈ys↔x∈ss)->R (.ref A.length) (A++[.lst (ys.map D.str)])):sG r A R:=by
 unfold sG;simp only[h,a];exact⟨h2,k⟩
theorem ef{A:Ar}{r:Nat}{xs:List D}{R:List D->(Ar->Prop)->Ar->Prop}(h:A[r]?=some (.lst xs))(k:R xs (λA'=>A'[r]?=some (.lst xs)) A):itR r A R:=by
 unfold itR;simp only[h];exact k
structure Nm(n:Str):Prop where
 lo:1<=n.length
 hi:n.length<=3
 az:∀c∈n.cps.toList,97<=c/\c<=122
structure Wf(m:M):Prop where
 arms:m.arms
 nm:∀n∈m.names,Nm n
def SV(dom:List D->D->Prop):Ct:=λds A R _=>∃v,dom ds v/\∀A',Gr A A'->R v A'
def SL(dom:List D->List D->Prop):Ct:=λds A R _=>∃v,dom ds v/\∀A' r,Gr A A'->A'[r]?=some (.lst v)->R (.ref r) A'
abbrev B5:Ct:=SV λds v=>∃i a b,ds=[.int i,.int a,.int b]/\v=.bl (decide (a<=i)&&decide (i<=b))
abbrev BX:Ct:=SV λds v=>∃n,ds=[.str n]/\Nm n/\v=.bl true
abbrev oz:Ct:=SV λds v=>∃m,ds=[enc m]/\Wf m/\m.deep<=5/\v=.aC
theorem lK{P:Program}{w:World}{K:Frag}{mg:au}{base:Heap}{x:Str}{st:Stmt}{ps:List Str}{k n:Nat}{S:Ct}(T:TopD K mg x st ps)(no:∀ds A R RE,¬S ds A R RE):aj P w K mg base k x ps (ai mg n S):=by
 obtain⟨f,fd,F,b,m⟩:=T;have a:∀vs H Q E,¬ai mg n S vs H Q E:=λvs H Q E h=>by
  obtain⟨A,ι,ds,R,RE,_,_,_,z,_⟩:=h;exact no _ _ _ _ z
 exact⟨f,fd,⟨λvs H Q E h=>absurd h (a vs H Q E),λA outer s H args c vs Q E _ _ _ _ h=>absurd h (a vs H Q E)⟩,b,F.kp,m⟩
def bx(r:Str×Int):D:=.tup [.str r.1,.int r.2]
def di(rs:List (Str×Int)):D:=.tup (rs.map bx)
def gw(rs:List (Str×Int)):List (Key×D):=rs.map λr=>(Sum.inr r.1,.int r.2)
structure jN(rs:List (Str×Int)):Prop where
 nm:∀r∈rs,Nm r.1
 no:∀r∈rs,1<=r.2/\r.2<=999999
 up:(rs.map (·.1)).Pairwise strLt
 len:rs.length<64
def val(rs:List (Str×Int))(n:Str):Int:=((rs.find? λr=>r.1=n).map (·.2)).getD 0
def ld(f:Str->Int):M->Int
 |.wt n=>f n
 |.bQ _ _ a b=>ld f a+ld f b
theorem Ao{a b:Str}(h:strLt a b):a≠b:=λe=>by
 subst e;exact kh _ h
theorem zc:∀(rs:List (Str×Int)) (n:Str),n∈rs.map (·.1)->bf (gw rs) (Sum.inr n)=some (.int (val rs n))
 |[],n,h=>by simp at h
 |r::rs,n,h=>by
  unfold gw bf val;by_cases e:r.1=n
  .simp[e]
  .have h':n∈rs.map (·.1):=by
    rcases aY.mp (show n∈r.1::rs.map (·.1) from h) with q|q
    .exact absurd q.symm e
    .exact q
   have a:¬(Sum.inr r.1:Key)=Sum.inr n:=λz=>e (Sum.inr.inj z);have:=zc rs n h';simp only[cg,a,gm,mD,e,decide_false];exact this
theorem VT{rs:List (Str×Int)}(a:jN rs){n:Str}(h:n∈rs.map (·.1)):1<=val rs n/\val rs n<=999999:=by
 unfold val;cases q:rs.find? λr=>r.1=n with
 |none=>
  obtain⟨r,b,e⟩:=aX.mp h;have:=tH.mp q r b;simp[e] at this
 |some r=>
  have:=kX q;exact a.no r this
theorem Gh{kvs:List (Key×D)}{k:Key}{v:D}(h:∀p∈kvs,p.1≠k):cy kvs k v=kvs++[(k,v)]:=by
 unfold cy;rw[ay];intro z;obtain⟨p,a,e⟩:=mu.mp z;exact h p a (iF e)
theorem Gf:∀(rs:List (Str×Int)) (acc:List (Key×D)),(rs.map (·.1)).Pairwise strLt->(∀p∈acc,∀r∈rs,p.1≠Sum.inr r.1)->(gw rs).foldl (λacc p=>cy acc p.1 p.2) acc=acc++gw rs
 |[],acc,_,_=>by simp[gw]
 |r::rs,acc,f,c=>by
  have b:=jC.mp (show(r.1::rs.map (·.1)).Pairwise strLt from f);have e:cy acc (Sum.inr r.1) (.int r.2)=acc++[(Sum.inr r.1,.int r.2)]:=Gh λp a=>c p a r (bh ..);show(gw rs).foldl _ (cy acc (Sum.inr r.1) (.int r.2))=_;rw[e,Gf rs _ b.2]
  .simp[gw]
  .intro p a q d
   rcases bV.mp a with z|z
   .exact c p z q (aZ _ d)
   .have g:p=(Sum.inr r.1,.int r.2):=by simpa using z
    subst g;exact λe=>Ao (b.1 q.1 (eE d)) (Sum.inr.inj e)
theorem FZ:∀rs:List (Str×Int),eW (rs.map bx)=some (gw rs)
 |[]=>rfl
 |r::rs=>by
  have:=FZ rs;simp only[cg,bx,eW,fM,this,gw]
theorem yF{rs:List (Str×Int)}(a:jN rs){A:Ar}{R:DK}(k:R (.ref A.length) (A++[.dct (gw rs)])):dctP (rs.map bx) A R:=by
 unfold dctP;rw[FZ];refine⟨by simp[gw];have:=a.len;omega,?_⟩;unfold pI;rw[Gf rs [] a.up (λp h=>by simp at h)];exact k
theorem Dv{c:Ar->Prop}{g:jG}{b:dh}{R:lC}{A:Ar}(hc:c A)(I:bL->Prop):∀(a:List D) (τ:bL),I τ->(∀x∈a,∀τ,I τ->∀d:bL->Ar->Prop,(∀bS,I bS->d bS A)->g x τ A λe k=>b {R with nx:=d,ct:=d,bk:=R.nx} e k)->(∀τ,I τ->R.nx τ A)->mQ c g b R a τ A
 |[],τ,f,_,h=>⟨hc,h τ f⟩
 |x::xs,τ,f,j,h=>⟨hc,j x (bh ..) τ f _ λbS i=>Dv hc I xs bS i (λy l=>j y (aZ _ l)) h⟩
def gx:M->Str->List (Str×Str)
 |.wt n,w=>[(w,n)]
 |.bQ _ _ a b,w=>gx a (w++"l")++gx b (w++"r")
theorem m_:∀(m:M) (w:Str),(gx m w).map (·.2)=m.names
 |.wt n,w=>rfl
 |.bQ _ _ a b,w=>by
  show List.map _ (_++_)=a.names++b.names;rw[eB,m_ a,m_ b]
theorem kN(m:M)(w:Str):(gx m w).length=m.names.length:=by rw[<-m_ m w,aP]
def fN(p:Str×Str):D:=.tup [.str p.1,.str p.2]
abbrev BW:Ct:=SV λds v=>∃r:Str×Int,ds=[bx r]/\Nm r.1/\(1<=r.2/\r.2<=999999)/\v=.bl true
abbrev BL:Ct:=SV λds v=>∃rs,ds=[di rs]/\jN rs/\v=.bl true
abbrev xS:Ct:=SV λds v=>∃m rs,ds=[enc m,di rs]/\jN rs/\m.deep<=5/\(∀n∈m.names,n∈rs.map (·.1))/\v=.aC
abbrev qq(d:Nat):Ct:=SL λds v=>∃m w,ds=[enc m,.str w]/\m.deep<d/\w.length+d<=100/\d<=8/\v=(gx m w).map fN
def xV(d:Nat):Ct:=λds A R _=>∃m r rs,ds=[enc m,.ref r]/\A[r]?=some (.dct (gw rs))/\jN rs/\m.deep<=d/\(∀n∈m.names,n∈rs.map (·.1))/\∀A',Gr A A'->R (.int (ld (val rs) m)) A'
theorem zy(f:Str->Int):∀m:M,(m.names.map f).sum=ld f m
 |.wt n=>by simp[bz.names,ld]
 |.bQ _ _ a b=>by
  show List.sum (List.map f (a.names++b.names))=ld f a+ld f b;rw[eB,List.sum_append,zy f a,zy f b]
theorem uf{k:Option Nat}{fr:bL}{te:aM}{b:Ar->Prop}{R:List D->Ar->Prop}(f:D->D):∀(a ys:List D) (A:Ar),(∀A',Gr A A'->b A')->(∀x∈a,∀A',Gr A A'->∃vs,pQ k x=some vs/\∀Q:DK,(∀c,Gr A' c->Q (f x) c)->te (vs.map some++fr) A' Q)->ys.length+a.length<=sizeLine->(∀A',Gr A A'->R (ys++a.map f) A')->kC b k fr nF te R a ys A
 |[],ys,A,hc,_,_,h=>⟨hc A Gr.refl,by simpa using h A Gr.refl⟩
 |x::xs,ys,A,hc,e,hl,h=>by
  obtain⟨vs,i,j⟩:=e x (bh ..) A Gr.refl;refine⟨hc A Gr.refl,?_⟩;rw[i];refine j _ λl d=>⟨by simp at hl;omega,uf f xs (ys++[f x]) l (λA' g=>hc A' (d.trans g)) (λy m A' g=>e y (aZ _ m) A' (d.trans g)) (by simp at hl ⊢;omega) (λA' g=>by simpa using h A' (d.trans g))⟩
theorem Nm.ok{n:Str}(h:Nm n):canLay0 (.str n)=true:=by
 have e:n.cps.all (λc=>decide (c<0x110000))=true:=by
  rw[<-Array.all_toList,tG];intro c hc;have:=h.az c hc;exact dg (by omega)
 simpa[canLay0,strOk] using e
theorem vY:∀ss:List Str,fk (ss.map D.str)=true
 |[]=>rfl
 |s::r=>by simp[fk,f6,vY r]
theorem v8:∀ss:List Str,bF (ss.map D.str)=ss.map PyData.str
 |[]=>rfl
 |s::r=>by simp[bF,toQ,v8 r]
theorem uY:∀ss:List Str,(∀n∈ss,Nm n)->canLayAll0 (ss.map PyData.str)=true
 |[],_=>by simp[canLayAll0]
 |s::r,h=>by
  have h1:=(h s (bh ..)).ok;have h2:=uY r λn a=>h n (aZ _ a);simp[canLayAll0,h1,h2]
theorem Dj:∀ss:List Str,depthAll (ss.map PyData.str)=0
 |[]=>by simp[depthAll]
 |s::r=>by simp[depthAll,PyData.depth,Dj r]
theorem DM:∀ss a:List Str,eqvAll (ss.map PyData.str) (a.map PyData.str)=decide (ss=a)
 |[],[]=>by simp[eqvAll]
 |[],_::_=>by simp[eqvAll]
 |_::_,[]=>by simp[eqvAll]
 |s::r,t::u=>by
  simp only[cg,eqvAll,PyData.eqv,DM r u];by_cases h1:s=t
  .by_cases h2:r=u<;>simp[h1,h2]
  .simp[h1]
theorem Mr{A:Ar}{r q:Nat}{ss a:List Str}{R:DK}(h1:A[r]?=some (.lst (ss.map D.str)))(h2:A[q]?=some (.lst (a.map D.str)))(n1:∀n∈ss,Nm n)(n2:∀n∈a,Nm n)(k:R (.bl (decide (ss=a))) A):fE false (.ref r) (.ref q) A R:=by
 have b:bO A (.ref r)=.list (ss.map PyData.str):=by unfold bO;simp only[h1,v8]
 have c:bO A (.ref q)=.list (a.map PyData.str):=by unfold bO;simp only[h2,v8]
 unfold fE;rw[b,c];refine⟨by unfold fj;simp only[h1,vY],by unfold fj;simp only[h2,vY],by simpa[canLay0] using uY ss n1,by simpa[canLay0] using uY a n2,by simp[PyData.depth,Dj],?_⟩;rw[ay bZ];show R (.bl (PyData.eqv (.list _) (.list _))) A;rw[show PyData.eqv (.list (ss.map PyData.str)) (.list (a.map PyData.str))=decide (ss=a) by simp only[PyData.eqv,DM]];exact k
theorem jU{A:Ar}{r:Nat}{kvs:List (Key×D)}{y v:D}{k:Key}{R:DK}(h:A[r]?=some (.dct kvs))(a:fM y=some k)(b:bf kvs k=some v)(q:R v A):kK r y A R:=by
 unfold kK;simp only[h,a,b];exact q
theorem rj{A:Ar}{r:Nat}{kvs:List (Key×D)}{y:D}{k:Key}{R:DK}{neg:Bool}(h:A[r]?=some (.dct kvs))(a:fM y=some k)(q:R (.bl (if neg then !(bf kvs k).isSome else (bf kvs k).isSome)) A):inR neg y r A R:=by
 unfold inR;simp only[h,a];exact q
def rd(a b:Int):Int×Int:=(a/(Int.gcd a b:Int),b/(Int.gcd a b:Int))
abbrev xT:Ct:=SV λds v=>∃a b:Int,ds=[.int a,.int b]/\0<=a/\0<=b/\v=.int (Int.gcd a b:Int)
abbrev x_:Ct:=SV λds v=>∃a b:Int,ds=[.int a,.int b]/\0<a/\0<b/\a<2 ^ 2000/\v=.tup [.int (rd a b).1,.int (rd a b).2]
structure Bk(rs:List (Str×Int))(m:M):Prop where
 ok:jN rs
 nm:∀n∈m.names,n∈rs.map (·.1)
theorem Bk.left{rs:List (Str×Int)}{l r:Int}{a b:M}(h:Bk rs (.bQ l r a b)):Bk rs a:=⟨h.ok,λn c=>h.nm n (by simp[bz.names,c])⟩
theorem Bk.right{rs:List (Str×Int)}{l r:Int}{a b:M}(h:Bk rs (.bQ l r a b)):Bk rs b:=⟨h.ok,λn c=>h.nm n (by simp[bz.names,c])⟩
theorem Gr.len{A B:Ar}(a:Gr A B):A.length<=B.length:=by
 obtain⟨T,rfl⟩:=a;simp
structure Dr(t:Nat)(A A':Ar)(n k:Nat):Prop where
 but:cz t A A'
 tw:Tw t (n+k) A'
theorem Pd{z:Str}{i:Int}{c:Nat}{A:Ar}{R:DK}(h:cX z.cps.toList i=some c)(hz:z.length<=sizeLine)(k:R (.str ⟨#[c]⟩) A):mZ (.str z) (.int i) A R:=by
 show(match cX z.cps.toList i with|some c=>z.length<=sizeLine/\R (.str ⟨#[c]⟩) A|none=>False);rw[h];exact⟨hz,k⟩
end DP
namespace DP
open L2
theorem yr{α:Type}{k:Option Nat}{fr:bL}{tt:fB}{te:aM}{d:Ar->Prop}{R:List D->Ar->Prop}(g:α->D)(p:α->Bool)(f:α->D):∀(xs:List α) (ys:List D) (A:Ar),(∀a,Gr A a->d a)->(∀x∈xs,∀a,Gr A a->∃vs,pQ k (g x)=some vs/\(∀Q:Bool->Ar->Prop,(∀b,Gr a b->Q (p x) b)->tt (vs.map some++fr) a Q)/\∀b,Gr a b->∀Q:DK,(∀e,Gr b e->Q (f x) e)->te (vs.map some++fr) b Q)->ys.length+xs.length<=sizeLine->(∀a,Gr A a->R (ys++(xs.filter p).map f) a)->kC d k fr tt te R (xs.map g) ys A
 |[],ys,A,hc,_,_,h=>⟨hc A Gr.refl,by simpa using h A Gr.refl⟩
 |x::xs,ys,A,hc,i,hl,h=>by
  obtain⟨vs,n,o,q⟩:=i x (bh ..) A Gr.refl;refine⟨hc A Gr.refl,?_⟩;rw[n];simp at hl;refine o _ λb c=>?_;cases m:p x with
  |true=>
   rw[List.filter_cons_of_pos m] at h;exact q b c _ λe j=>⟨by omega,yr g p f xs (ys++[f x]) e (λa z=>hc a ((c.trans j).trans z)) (λy l a z=>i y (aZ _ l) a ((c.trans j).trans z)) (by simp;omega) λa z=>by simpa using h a ((c.trans j).trans z)⟩
  |false=>
   rw[List.filter_cons_of_neg (by simp[m])] at h;exact yr g p f xs ys b (λa z=>hc a (c.trans z)) (λy l a z=>i y (aZ _ l) a (c.trans z)) (by omega) λa z=>h a (c.trans z)
theorem Gr.set{A B:Ar}{r:Nat}{c:C}(g:Gr A B)(h:A.length<=r):Gr A (B.set r c):=by
 obtain⟨T,rfl⟩:=g;exact⟨T.set (r - A.length) c,by rw[List.set_append_right _ _ h]⟩
open MA
theorem Wf.left{l r:Int}{a b:M}(h:Wf (.bQ l r a b)):Wf a:=⟨h.arms.2.2.2.2.1,λn c=>h.nm n (by simp[bz.names,c])⟩
theorem Wf.right{l r:Int}{a b:M}(h:Wf (.bQ l r a b)):Wf b:=⟨h.arms.2.2.2.2.2,λn c=>h.nm n (by simp[bz.names,c])⟩
theorem ak.of_get{mg:au}{ι:Io}{H:Hp}{n:Nat}:∀{ds:List D} {vs:List V},ds.length=vs.length->(∀(i:Nat) d v,ds[i]?=some d->vs[i]?=some v->RV mg ι n H d v)->ak mg ι n H ds vs
 |[],[],_,_=>rfl
 |[],_::_,h,_=>by cases h
 |_::_,[],h,_=>by cases h
 |d::ds,v::vs,h,k=>⟨v,vs,rfl,k 0 d v rfl rfl,ak.of_get (by simpa using h) λi d v h1 h2=>k (i+1) d v (by simpa using h1) (by simpa using h2)⟩
theorem RA.Mx{mg:au}{A:Ar}{ι:Io}{H H':Hp}(R:RA mg ι H A)(g:ku H H'):Ext A ι H A ι H':=⟨aF _,λ_ _=>rfl,R.im,λb u h _=>g b u h,λr h1 h2=>absurd h2 (by omega),λb u h=>⟨u,g b u h⟩⟩
@[irreducible] def sM(a b:Nat)(A:Ar)(R:DK):Prop:=match A[a]?,A[b]? with
 |some (.lst xs),some (.lst ys)=>R (.tup ((xs.zip ys).map λp=>.tup [p.1,p.2])) A
 |_,_=>False
def Lr(n:dj):aM:=λτ A R=>n τ A λvs A1=>match vs with
 |[.ref a,.ref b]=>sM a b A1 R
 |_=>False
theorem LU{X:Cx}{N:En}{a b:Expr}{n:dj}{T p2 g e:Pos}(u:X.mg "tuple"=none)(v:X.mg "zip"=none)(hc:X.calm=true)(U:PA X [a,b] (fJ X.mg N n))(w:Gl X "tuple":=by rfl)(z:Gl X "zip":=by rfl)
  (V:starEach [a,b] X.env=[(false,eval a X.env),(false,eval b X.env)]:=by rfl)(B:starEach [b] X.env=[(false,eval b X.env)]:=by rfl)
  (hz:starEach [.Call (.Name "zip" p2) [a,b] [] e] X.env=[(false,eval (.Call (.Name "zip" p2) [a,b] [] e) X.env)]:=by rfl):
  PE X (.Call (.Name "tuple" T) [.Call (.Name "zip" p2) [a,b] [] e] [] g) (up X.mg N (Lr n)):=
 d9 (R0 w u mz z v (by decide+kernel) hc U V B hz) λσ H Q q=>by
  obtain⟨A,ι,τ,R,S,q,k⟩:=q
  refine⟨A,ι,τ,_,S,q,λvs K C H1 us f W r s=> ?_⟩
  match vs,f,s with
  |[.ref x,.ref y],f,s=>
   obtain⟨_,_,rfl,⟨_,rfl⟩,_,_,rfl,⟨_,rfl⟩,rfl⟩:=s
   have f:sM x y K R:=f
   unfold sM at f
   split at f
   .rename_i ds es Y Z
    obtain⟨xs,h1,L⟩:=r.lst Y
    obtain⟨ys,h2,M⟩:=r.lst Z
    refine⟨_,_,xs,ys,rfl,aR.of h1,aR.of h2,λl H' ps O hl hp h j=> ?_⟩
    have E:=r.Mx O
    refine k _ K C H' _ f (W.trans E) (r.fix E O) ⟨l,ps,rfl,hp,ak.of_get ?_ λi d p hd D=> ?_⟩
    .rw[h,aP,List.length_zip,ak.length L,ak.length M]
    .obtain⟨t,P,F,rfl,hx,hy,ht⟩:=j i p D
     rw[bW] at hd
     cases c:(ds.zip es)[i]? with
     |none=>rw[c] at hd;cases hd
     |some pr=>
      rw[c] at hd
      cases hd
      have G:ds[i]? =some pr.1:=by
       rw[List.getElem?_zip_eq_some] at c
       exact c.1
      have hd2:es[i]? =some pr.2:=by
       rw[List.getElem?_zip_eq_some] at c
       exact c.2
      obtain⟨s,m,I⟩:=ak.get L G
      obtain⟨v2,o,J⟩:=ak.get M hd2
      rw[hx] at m
      rw[hy] at o
      cases m
      cases o
      exact⟨t,[P,F],rfl,ht,P,[F],rfl,RV.ext E _ _ I,F,[],rfl,RV.ext E _ _ J,rfl⟩
   .exact f.elim
@[irreducible] def wj(r:Nat)(A:Ar)(R:DK):Prop:=match A[r]? with
 |some (.dct kvs)=>∃ns:List Str,kvs.map (·.1)=ns.map Sum.inr/\ns.Nodup/\ns.length<64/\∀ys:List Str,ys.Pairwise strLt->(∀x,x∈ys↔x∈ns)->R (.ref A.length) (A++[.lst (ys.map D.str)])
 |_=>False
def Iz:g_:=λvs A R=>match vs with
 |[.ref r]=>wj r A R
 |_=>False
theorem RK.keys{mg:au}{ι:Io}{H:Hp}{n:Nat}:∀{ds:List (Key×D)} {vs:List (Key×V)},RK mg ι n H ds vs->vs.map (·.1)=ds.map (·.1)
 |[],vs,h=>by have h':vs=[]:=h;rw[h'];rfl
 |d::ds,vs,h=>by
  obtain⟨x,r,rfl,_,a⟩:=h;simp[RK.keys a]
theorem LJ{mg:au}:iJ mg (λxs H Q=>∃(d:Addr) (kvs:List (Key×V)) (ns:List Str),xs=[.ref d]/\H d=some (.dK kvs)/\kvs.map (·.1)=ns.map Sum.inr/\ns.Nodup/\ns.length<64/\
  ∀(l:Addr) (ys:List Str),H l=none->ys.Pairwise strLt->(∀x,x∈ys↔x∈ns)->Q (.ref l) (upd H l (.lst (ys.map V.str)))) Iz:=by
 intro ds A ι H j R Q ra rs h k;unfold Iz at h;split at h
 .obtain⟨_,_,rfl,⟨_,rfl⟩,rfl⟩:=rs
  unfold wj at h;split at h
  .rename_i kvs e
   obtain⟨ns,h1,h2,a,b⟩:=h;obtain⟨xs,c,f⟩:=ra.dct e;exact⟨_,xs,ns,rfl,c,by rw[RK.keys f,h1],h2,a,λl ys hl g i=>lU k ra (ak.strs ys) (b ys g i) hl⟩
  .exact h.elim
 .exact h.elim
theorem UC{A:Ar}{r:Nat}{kvs:List (Key×D)}{ns:List Str}{R:DK}(h:A[r]?=some (.dct kvs))(b:kvs.map (·.1)=ns.map Sum.inr)(c:ns.Nodup)(a:ns.length<64)(k:∀ys:List Str,ys.Pairwise strLt->(∀x,x∈ys↔x∈ns)->R (.ref A.length) (A++[.lst (ys.map D.str)])):wj r A R:=by
 unfold wj;simp only[h];exact⟨ns,b,c,a,k⟩
theorem VP{A:Ar}{a b:Nat}{xs ys:List D}{R:DK}(h1:A[a]?=some (.lst xs))(h2:A[b]?=some (.lst ys))(k:R (.tup ((xs.zip ys).map λp=>.tup [p.1,p.2])) A):sM a b A R:=by
 unfold sM;simp only[h1,h2];exact k
open MA
def hr2(w:Str)(x y:Int):List (Str×Str):=if y<x then [(w,"left")] else if x<y then [(w,"right")] else []
def eY(f:Str->Int):M->Str->List (Str×Str)
 |.wt _,_=>[]
 |.bQ l r a b,w=>hr2 w (l*ld f a) (r*ld f b)++eY f a (w++"l")++eY f b (w++"r")
theorem Ex(w:Str)(x y:Int):(hr2 w x y).length<=1:=by
 unfold hr2;split
 .simp
 .split<;>simp
theorem sJ(f:Str->Int):∀(m:M) (w:Str),(eY f m w).length+1<=2 ^ m.deep
 |.wt _,_=>by simp[eY,bz.deep]
 |.bQ l r a b,w=>by
  show(hr2 w (l*ld f a) (r*ld f b)++eY f a (w++"l")++eY f b (w++"r")).length+1<=2 ^ (max a.deep b.deep+1);rw[dH,dH,Nat.pow_succ];have h1:=Ex w (l*ld f a) (r*ld f b);have h2:=sJ f a (w++"l");have c:=sJ f b (w++"r");have d:2 ^ a.deep<=2 ^ max a.deep b.deep:=e9 (by decide) (pU _ _);have e:2 ^ b.deep<=2 ^ max a.deep b.deep:=e9 (by decide) (pV _ _);omega
def bg:M->Str->Rat->List (Str×Str×Rat)
 |.wt n,w,x=>[(w,n,x)]
 |.bQ l r a b,w,x=>bg a (w++("l":Str)) (x*((r:Rat)/((l+r:Int):Rat)))++bg b (w++("r":Str)) (x*((l:Rat)/((l+r:Int):Rat)))
theorem nD:∀(m:M) (w:Str) (x:Rat),(bg m w x).length=m.names.length
 |.wt _,_,_=>rfl
 |.bQ _ _ a b,w,x=>by
  show List.length (_++_)=List.length (_++_);rw[dH,dH,nD a,nD b]
theorem kO{m:M}(h:m.deep<=5):m.names.length<=32:=
 cR (bz.jY m) (e9 (by decide) h:2 ^ m.deep<=2 ^ 5)
theorem pF{j k:Nat}(h:j<=k):(18:Int) ^ j<=18 ^ k:=by
 have:(18:Nat) ^ j<=18 ^ k:=e9 (by decide) h;exact_mod_cast this
theorem z4(k:Nat):(1:Int)<=18 ^ k:=by
 have:1<=(18:Nat) ^ k:=Nat.one_le_pow _ _ (by decide);exact_mod_cast this
theorem Di{D a:Int}{j k:Nat}(h:D*18 ^ (max j k+1)<=1000000000)(hd:a<=D*18)(d:0<D):a*18 ^ j<=1000000000/\a*18 ^ k<=1000000000/\D<=1000000000:=by
 have e:D*18 ^ (max j k+1)=D*18*18 ^ max j k:=by rw[j_,lZ (18 ^ max j k) 18,<-nI]
 rw[e] at h;have b:=pF (pU j k);have p2:=pF (pV j k);have c:=z4 (max j k);have f:=z4 j;have g:=z4 k;refine⟨dZ (ee hd b (by omega) (by omega)) h,dZ (ee hd p2 (by omega) (by omega)) h,?_⟩;have:D*1<=D*18*18 ^ max j k:=ee (by omega) c (by omega) (by omega);omega
theorem P_{n:Nat}(h:n<2 ^ 2000):n.log2<9000:=by
 by_cases h0:n=0
 .rw[h0];decide+kernel
 .exact(Nat.log2_lt h0).mpr (cJ h (e9 (by decide) (by decide)))
theorem CF:∀(xs:List Rat) (x:Rat) (b:Int),bot (xs++[x]) b=bot xs b*(rf x).2/(Int.gcd (bot xs b) (rf x).2:Int)
 |[],x,b=>rfl
 |y::r,x,b=>by
  show bot (r++[x]) _=_;rw[CF r x];rfl
theorem Ea:∀(ns:List Int) (n d:Int),gv (ns++[n]) d=(Int.gcd (gv ns d) n:Int)
 |[],n,d=>rfl
 |m::r,n,d=>by
  show gv (r++[n]) _=_;rw[Ea r n];rfl
structure ql(x:Rat):Prop where
 pos:0<x
 num:(rf x).1<=2000000
 den:(rf x).2<=2000000
theorem z3{c a b:Nat}(hc:0<c)(h:a<=b):(c:Int) ^ a<=(c:Int) ^ b:=by
 rw[<-sU,<-sU];exact Int.ofNat_le.mpr (e9 hc h)
theorem QB{n:Int}{c k:Nat}(h0:0<n)(h:n<=(c:Int) ^ k):n.natAbs<=c ^ k:=by
 have:(n.natAbs:Int)<=(c:Int) ^ k:=by omega
 rw[<-sU] at this;exact Int.ofNat_le.mp this
def Cons{W N S:Type}(l:List (W×N×S)):Prop:=∀a∈l,∀b∈l,a.2.1=b.2.1->a.2.2=b.2.2
theorem found{W N S:Type}[DecidableEq N]{l:List (W×N×S)}{n:N}{p:W×N×S}(h:l.find? (λp=>decide (p.2.1=n))=some p):p.2.1=n:=by
 have:=find?_some h;simpa using this
theorem yh{W N S:Type}[DecidableEq N][DecidableEq S]:∀(r pre:List (W×N×S)),b9 pre r=none->Cons pre->Cons (pre++r)
 |[],pre,_,h=>by rw[lg];exact h
 |(g,n,s)::r,pre,l,h=>by
  have e:pre++(g,n,s)::r=(pre++[(g,n,s)])++r:=by simp
  rw[e];cases j:pre.find? (λp=>decide (p.2.1=n)) with
  |none=>
   have i:b9 (pre++[(g,n,s)]) r=none:=by
    have:=l;unfold b9 at this;rw[j] at this;exact this
   refine yh r _ i λa ha b hbm d=>?_;have no:∀c∈pre,c.2.1≠n:=λc hc z=>by
    have:=tH.mp j c hc;exact this (dg z)
   rcases bV.mp ha with ha|ha<;>rcases bV.mp hbm with hbm|hbm
   .exact h a ha b hbm d
   .rw[bM.mp hbm] at d
    exact absurd d (no a ha)
   .rw[bM.mp ha] at d
    exact absurd d.symm (no b hbm)
   .rw[bM.mp ha,bM.mp hbm]
  |some p=>
   have f:=l;unfold b9 at f;rw[j] at f;by_cases es:p.2.2=s
   .have i:b9 (pre++[(g,n,s)]) r=none:=by
     have:(if p.2.2=s then b9 (pre++[(g,n,s)]) r else some (p.1,g))=none:=f;rwa [av es] at this
    have m:=kX j;have k:p.2.1=n:=found j;refine yh r _ i λa ha b hbm d=>?_;have to:∀c∈pre,c.2.1=n->c.2.2=s:=λc hc z=>by rw[h c hc p m (by rw[z,k]),es]
    rcases bV.mp ha with ha|ha<;>rcases bV.mp hbm with hbm|hbm
    .exact h a ha b hbm d
    .rw[bM.mp hbm] at d ⊢
     exact to a ha d
    .rw[bM.mp ha] at d ⊢
     exact(to b hbm d.symm).symm
    .rw[bM.mp ha,bM.mp hbm]
   .have:(if p.2.2=s then b9 (pre++[(g,n,s)]) r else some (p.1,g))=none:=f
    rw[ay es] at this;cases this
theorem CT{W N S:Type}[DecidableEq N][DecidableEq S]:∀(r pre:List (W×N×S)),Cons (pre++r)->b9 pre r=none
 |[],pre,_=>by unfold b9;rfl
 |(a,n,s)::r,pre,h=>by
  have e:pre++(a,n,s)::r=(pre++[(a,n,s)])++r:=by simp
  have c:=CT r (pre++[(a,n,s)]) (by rw[<-e];exact h);unfold b9;cases d:pre.find? (λp=>decide (p.2.1=n)) with
  |none=>exact c
  |some p=>
   have f:=kX d;have b:p.2.1=n:=found d;have es:p.2.2=s:=h p (kW _ f) (a,n,s) (by simp) b;show(if p.2.2=s then _ else _)=none;rw[av es];exact c
theorem pL:∀(m:M) (w:Str) (x:Rat),(bg m w x).map (·.2.1)=m.names
 |.wt _,_,_=>rfl
 |.bQ _ _ a b,w,x=>by
  show((bg a _ _++bg b _ _).map (·.2.1))=a.names++b.names;rw[eB,pL a,pL b]
theorem Ai:∀(m:M) (w:Str) (x:Rat),(bg m w x).map (·.2.2)=m.sh x
 |.wt _,_,_=>rfl
 |.bQ _ _ a b,w,x=>by
  show((bg a _ _++bg b _ _).map (·.2.2))=a.sh _++b.sh _;rw[eB,Ai a,Ai b]
noncomputable def shr(m:M):Str->Rat:=λx=>match (bg m "" 1).find? (λp=>decide (p.2.1=x)) with|some p=>p.2.2|none=>0
theorem wz{m:M}(h:b9 [] (bg m "" 1)=none):(∀a∈bg m "" 1,a.2.2=shr m a.2.1)/\m.names.map (shr m)=m.sh 1:=by
 have hc:=yh (bg m "" 1) [] h (by intro a b;simp at b);rw[gc] at hc;have key:∀a∈bg m "" 1,a.2.2=shr m a.2.1:=λa b=>by
  show _=(match (bg m "" 1).find? (λp=>decide (p.2.1=a.2.1)) with|some p=>p.2.2|none=>0);cases c:(bg m "" 1).find? (λp=>decide (p.2.1=a.2.1)) with
  |none=>exact absurd (dg rfl) (tH.mp c a b)
  |some p=>exact(hc p (kX c) a b (found c)).symm
 refine⟨key,?_⟩;rw[<-pL m "" 1,<-Ai m "" 1,bR];exact sR λa b=>(key a b).symm
theorem num_mul{t:Rat}{a b:Int}(c:0<b)(d:0<=(rf t).1*a):(rf (t*((a:Rat)/(b:Rat)))).1<=(rf t).1*a:=by
 rw[<-Aa,<-we (fu (c_ t) c)];exact qd _ d
theorem Aj:∀(m:M) (x:Rat) (B:Int),m.arms->0<x->(rf x).1<=B->∀s∈m.sh x,(rf s).1<=B*18 ^ m.deep
 |.wt _,x,B,_,h1,h2,s,hs=>by
  have:s=x:=by simpa[bz.sh] using hs
  subst this;simpa[bz.deep] using h2
 |.bQ l r a b,x,B,h,h1,h2,s,hs=>by
  obtain⟨c,p,d,q,e,f⟩:=h;have g:0<B:=xo (dD h1) h2;have np:=dD h1;have i:(rf (x*((r:Rat)/((l+r:Int):Rat)))).1<=B*18:=by
   refine dZ (num_mul (by omega) (pX (by omega) (by omega))) ?_;exact ee h2 (by omega) (by omega) (by omega)
  have j:(rf (x*((l:Rat)/((l+r:Int):Rat)))).1<=B*18:=by
   refine dZ (num_mul (by omega) (pX (by omega) (by omega))) ?_;exact ee h2 (by omega) (by omega) (by omega)
  have n:0<x*((r:Rat)/((l+r:Int):Rat)):=bz.step_pos c d h1;have p2:0<x*((l:Rat)/((l+r:Int):Rat)):=by
   have:=bz.step_pos (l:=r) (r:=l) d c h1;rwa [add_comm r l] at this
  have up:∀k:Nat,k<=max a.deep b.deep->B*18*18 ^ k<=B*18 ^ (max a.deep b.deep+1):=λk o=>by
   rw[j_,nI,lZ 18 (18 ^ k)];refine nM ?_ (dO g);exact xq (pF o) (by decide)
  rcases bV.mp (show s∈a.sh _++b.sh _ from hs) with hs|hs
  .exact dZ (Aj a _ _ e n i s hs) (up _ (pU _ _))
  .exact dZ (Aj b _ _ f p2 j s hs) (up _ (pV _ _))
theorem UJ{m:M}(a:m.arms)(f:m.deep<=5):∀s∈m.sh 1,0<s/\(rf s).1<=1889568/\(rf s).2<=1889568:=λs b=>by
 obtain⟨g,c⟩:=bz.wu m 1 1 a (by decide) (by decide) s b;have d:=Aj m 1 1 a (by decide) (by decide) s b;have p:=pF f;have e:(18:Int) ^ 5=1889568:=by decide
 rw[e] at p;rw[one_mul] at c d;exact⟨g,dZ d p,dZ c p⟩
theorem ID{m:M}(a:m.arms)(b:m.deep<=5)(h:b9 [] (bg m "" 1)=none){x:Str}(c:x∈m.names):ql (shr m x):=by
 have:shr m x∈m.sh 1:=by
  rw[<-(wz h).2];exact aX.mpr ⟨x,c,rfl⟩
 obtain⟨h1,h2,d⟩:=UJ a b _ this;exact⟨h1,by omega,by omega⟩
theorem eL{c:Ar->Prop}{g:jG}{b:dh}{R:lC}(J:List D->bL->Ar->Prop)(hc:∀rest τ A,J rest τ A->c A)
  (f:∀x rest τ A,J (x::rest) τ A->∀d:bL->Ar->Prop,(∀bS A',J rest bS A'->d bS A')->g x τ A λe i=>b {R with nx:=d,ct:=d,bk:=R.nx} e i)(h:∀τ A,J [] τ A->R.nx τ A):∀(a:List D) (τ:bL) (A:Ar),J a τ A->mQ c g b R a τ A
 |[],τ,A,j=>⟨hc _ _ _ j,h _ _ j⟩
 |x::rest,τ,A,j=>⟨hc _ _ _ j,f _ _ _ _ j _ λbS A' k=>eL J hc f h rest bS A' k⟩
theorem qF{k:Option Nat}{fr:bL}{te:aM}{b:Ar->Prop}{R:List D->Ar->Prop}(J:List D->List D->Ar->Prop)(hc:∀rest ys A,J rest ys A->b A)(hl:∀rest ys A,J rest ys A->ys.length<=sizeLine)
  (d:∀x rest ys A,J (x::rest) ys A->∃vs,pQ k x=some vs/\∀Q:DK,(∀y c,J rest (ys++[y]) c->Q y c)->te (vs.map some++fr) A Q)(e:∀ys A,J [] ys A->R ys A):∀a ys A,J a ys A->kC b k fr nF te R a ys A
 |[],ys,A,j=>⟨hc _ _ _ j,e _ _ j⟩
 |x::rest,ys,A,j=>by
  obtain⟨vs,g,q⟩:=d _ _ _ _ j;refine⟨hc _ _ _ j,?_⟩;rw[g];refine q _ λy c f=>⟨?_,qF J hc hl d e rest _ _ f⟩;have:=hl _ _ _ f;simp at this;omega
theorem Gr.FN{A d A':Ar}{t:Nat}(g:Gr A d)(e:A.length<=t)(b:cz t d A'):Gr A A':=by
 have key:∀q c,A[q]?=some c->A'[q]?=some c:=λq c h=>b q c (by have:=b_ h;omega) (g.get h);refine⟨A'.drop A.length,qe λq=>?_⟩;by_cases a:q<A.length
 .rw[iI a,br a]
  exact key q _ (br a)
 .rw[tK (by omega),List.getElem?_drop]
  congr 1;omega
end DP
namespace L2
open PySem.SeqAt
def n_(op:CmpOp)(A:Around)(s:Shared)(y x:Value)(b:Bool):Prop:=∀(prog:Program) (w:World) (E:aQ) (Q:aQ),Q (.bool b) s->wpAny (model prog w) A (richCompare op y x) Q E s
inductive jk(op:CmpOp)(A:Around)(s:Shared)(fin b:Bool):List (Value×Value)->Prop
 |nil:fin=b->jk op A s fin b []
 |eq {y x:Value} {r:List (Value×Value)}:EqAt A s y x true->jk op A s fin b r->jk op A s fin b ((y,x)::r)
 |ne {y x:Value} {r:List (Value×Value)}:EqAt A s y x false->n_ op A s y x b->jk op A s fin b ((y,x)::r)
open MeetsSeq MeetsSeq2 MeetsSeq3 SeqRoads2
theorem VE(l b:Addr)(c a:Array Value)(n n2:Nat)(dd i:Option Addr)(p j:Array (Option Value))(res:Bool):
  Meets (Builtin.«tuple.__lt__» ⟨[.ref l,.ref b],[]⟩)
   (λA R s=>s.heap.get? l=some {cls:=.type "tuple",dict:=dd,data:=.seq c n,slots:=p}/\s.heap.get? b=some {cls:=.type "tuple",dict:=i,data:=.seq a n2,slots:=j}/\
    jk .Lt A.in1 s (decide (c.size<a.size)) res (c.toList.zip a.toList)/\R (.ok (.ret (.bool res))) s):=
 .of_wp λprog w A R s h=>by
  obtain⟨m,g,d,o,os⟩:=s;obtain⟨hl,q,r,h⟩:=h;have f2:=AutoSeq1.sub_tuple_tuple;wp_walk using xg hl,xg q,wpAny_forIn_list _ (λrest b s'=>b.1=none/\s'=⟨m,g,d,o,os⟩/\jk .Lt A.in1 ⟨m,g,d,o,os⟩ (decide (c.size<a.size)) res rest) _;case turn=>
   rintro ⟨y,x⟩ rest b s' ⟨f,rfl,k⟩;cases k with
   |eq h1 h2=>
    refine ah (h1 prog w _ _ ?_);wp_walk;exact⟨rfl,rfl,h2⟩
   |ne h1 h2=>
    refine ah (h1 prog w _ _ ?_);simp only[Bool.not_false,mF];refine ah (k8 ?_);refine ah (h2 prog w _ _ ?_);wp_walk;exact⟨_,rfl,h⟩
  case fin=>
   rintro ⟨t,u⟩ s' ⟨f,rfl,k⟩;simp only at f;subst f;cases k with
   |nil e=>
    wp_walk;exact⟨_,rfl,by rw[<-e] at h;simpa[Builtin.Tuple.tupleCompareSizes] using h⟩
  case h=>
   exact⟨rfl,rfl,r⟩
mutual
def ltQ:PyData->PyData->Option Bool
 |.int i,.int j=>some (decide (i<j))
 |.str x,.str y=>some (decide (x.cps.toList<y.cps.toList))
 |.tuple xs,.tuple ys=>eS xs ys
 |_,_=>none
def eS:List PyData->List PyData->Option Bool
 |[],[]=>some false
 |[],_::_=>some true
 |_::_,[]=>some false
 |x::xs,y::ys=>match PyData.eqv x y with
  |true=>eS xs ys
  |false=>ltQ x y
end
theorem KQ(i j:Int)(A:Around)(s:Shared)(a b:Value)(as bs:List Addr)(r:Bool)(e:ltQ (.int i) (.int j)=some r)(ra:Reads s.heap a (.int i) as)(c:Reads s.heap b (.int j) bs):n_ .Lt A s a b r:=by
 cases ra;cases c;rw[ltQ] at e;cases e;intro prog w E Q q;exact lt_int q
theorem KR(xs ys:List PyData)(A:Around)(s:Shared)(a b:Value)(as bs:List Addr)(r:Bool)(i:A.units+min (PyData.tuple xs).depth (PyData.tuple ys).depth<cLine)(L:∀d vs as bs,ReadsAll s.heap d xs as->ReadsAll s.heap vs ys bs->A.in1.units+min (depthAll xs) (depthAll ys)<cLine->jk .Lt A.in1 s (decide (d.length<vs.length)) r (d.zip vs))(ra:Reads s.heap a (.tuple xs) as)(m:Reads s.heap b (.tuple ys) bs):n_ .Lt A s a b r:=by
 cases ra with
 | @tuple l o vs n _ e h1 h2 j p=>
  cases m with
  | @tuple t o' c n' _ f k1 k2 k3 u=>
   obtain⟨cls,dd,data,v⟩:=o;obtain⟨k,g,data2,h⟩:=o';simp only at h2 j k2 k3;subst h2 j k2 k3;have L:=L vs.toList c.toList _ _ p u (room_in i);intro prog w E Q q;exact richCompare_meets_room (op:=.Lt) ⟨_,h1,rfl⟩ ⟨_,k1,rfl⟩ F.slot_tuple_lt F.entry_tuple_lt (F.args_tuple_lt_2 _ _) (VE l t vs c n n' dd g v h r)
    ⟨h1,k1,by simpa using L,show Value.bool r≠Value.notImplemented/\Q (.bool r) s from⟨(λx=>nomatch x),q⟩⟩ (room_here i)
theorem KU(i j:Str)(A:Around)(s:Shared)(a b:Value)(as bs:List Addr)(r:Bool)(e:ltQ (.str i) (.str j)=some r)(ra:Reads s.heap a (.str i) as)(c:Reads s.heap b (.str j) bs):n_ .Lt A s a b r:=by
 cases ra;cases c;rw[ltQ] at e;cases e;intro prog w E Q q;exact lt_str q
theorem EZ{α β:Type}{a:α}{b:β}{u:List α}{v:List β}:decide ((a::u).length<(b::v).length)=decide (u.length<v.length):=by simp
theorem KS(x y:PyData)(xs ys:List PyData)(A:Around)(s:Shared)(a vs:List Value)(as bs:List Addr)(r:Bool)(e:eS (x::xs) (y::ys)=some r)(ra:ReadsAll s.heap a (x::xs) as)(i:ReadsAll s.heap vs (y::ys) bs)(j:canLayAll0 (x::xs)=true)(k:canLayAll0 (y::ys)=true)
 (g:A.units+min (depthAll (x::xs)) (depthAll (y::ys))<cLine)
 (l:∀a vs as bs,eS xs ys=some r->ReadsAll s.heap a xs as->ReadsAll s.heap vs ys bs->canLayAll0 xs=true->canLayAll0 ys=true->A.units+min (depthAll xs) (depthAll ys)<cLine->jk .Lt A s (decide (a.length<vs.length)) r (a.zip vs))
 (L2:∀u v as bs,ltQ x y=some r->Reads s.heap u x as->Reads s.heap v y bs->x.canLay0=true->y.canLay0=true->A.units+min x.depth y.depth<cLine->n_ .Lt A s u v r):jk .Lt A s (decide (a.length<vs.length)) r (a.zip vs):=by
  have b:x.canLay0=true/\canLayAll0 xs=true:=by simpa[canLayAll0] using j
  have d:y.canLay0=true/\canLayAll0 ys=true:=by simpa[canLayAll0] using k
  cases ra with
  |cons a1 a2=>
   cases i with
   |cons h m=>
    have f:=eqAt_reads x y A s _ _ _ _ a1 h b.1 d.1 (room_head g)
    rw[eS] at e
    cases c:PyData.eqv x y with
    |true=>
     rw[c] at e f
     have L:=l _ _ _ _ e a2 m b.2 d.2 (room_tail g)
     rw[EZ]
     exact .eq f L
    |false=>
     rw[c] at e f
     exact .ne f (L2 _ _ _ _ e a1 h b.1 d.1 (room_head g))
mutual
theorem KW:∀(d db:PyData) (A:Around) (s:Shared) (a b:Value) (as bs:List Addr) (r:Bool),ltQ d db=some r->Reads s.heap a d as->Reads s.heap b db bs->d.canLay0=true->db.canLay0=true->
  A.units+min d.depth db.depth<cLine->n_ .Lt A s a b r
 |.none,db,A,s,_,_,_,_,r,e,ra,c,_,_,_=>by simp[ltQ] at e
 |.bool _,db,A,s,_,_,_,_,r,e,ra,c,_,_,_=>by simp[ltQ] at e
 |.list _,db,A,s,_,_,_,_,r,e,ra,c,_,_,_=>by simp[ltQ] at e
 |.dict _,db,A,s,_,_,_,_,r,e,ra,c,_,_,_=>by simp[ltQ] at e
 |.int i,db,A,s,_,_,_,_,r,e,ra,c,_,_,_=>by
  cases db with
  |int j=>exact KQ i j A s _ _ _ _ r e ra c
  |_=>simp[ltQ] at e
 |.str i,db,A,s,_,_,_,_,r,e,ra,c,_,_,_=>by
  cases db with
  |str j=>exact KU i j A s _ _ _ _ r e ra c
  |_=>simp[ltQ] at e
 |.tuple xs,db,A,s,_,_,_,_,r,e,ra,c,f,g,h=>by
  cases db with
  |tuple ys=>exact KR xs ys A s _ _ _ _ r h (λk vs as bs h1 h2 l=>zB xs ys A.in1 s k vs as bs r (by rw[ltQ] at e;exact e) h1 h2 f g l) ra c
  |_=>simp[ltQ] at e
theorem zB:∀(xs ys:List PyData) (A:Around) (s:Shared) (a vs:List Value) (as bs:List Addr) (r:Bool),eS xs ys=some r->ReadsAll s.heap a xs as->ReadsAll s.heap vs ys bs->canLayAll0 xs=true->canLayAll0 ys=true->
  A.units+min (depthAll xs) (depthAll ys)<cLine->jk .Lt A s (decide (a.length<vs.length)) r (a.zip vs)
 |[],ys,A,s,_,_,_,_,r,e,ra,b,_,_,_=>by
  cases ys with
  |nil=>cases ra;cases b;rw[eS] at e;cases e;exact .nil (by simp)
  |cons y ys=>cases ra;cases b;rw[eS] at e;cases e;exact .nil (by simp)
 |x::xs,ys,A,s,a,vs,as,bs,r,e,ra,b,h,i,j=>by
  cases ys with
  |nil=>cases ra;cases b;rw[eS] at e;cases e;exact .nil (by simp)
  |cons y ys=>exact KS x y xs ys A s a vs as bs r e ra b h i j (λa vs as bs h1 h2 c d f g=>zB xs ys A s a vs as bs r h1 h2 c d f g) (λu v as bs h1 h2 c d f g=>KW x y A s u v as bs r h1 h2 c d f g)
end
end L2
namespace L2
section
variable{X:Cx}{pins:aS}{σ:St}{H:Hp}{s:Shared}{d:Addr}{kvs:List (Key×V)}
theorem Inv.swap{u g:HO}(I:Inv X pins σ H s)(hd:H d=some u)(j:∀xs,u≠ .tup xs)(k:∀ps,u≠ .iR ps)(l:∀a,u≠ .own a)(m:∀o v,X.H₀ d=some (.bK o v)->False)(q:bX X.prog X.w H s.heap d g):Inv X pins σ (upd H d g) s:=by
 have nn:∀b,H b=none->upd H d g b=none:=λb h=>by
  rw[aW (λz=>by rw[z,hd] at h;cases h)];exact h
 have st:∀(a:Addr) (o:HO),bX X.prog X.w H s.heap a o->bX X.prog X.w (upd H d g) s.heap a o:=λa o x=>
  x.stay (λb v _ e=>e) (λb h=>by rw[aW (λz=>by rw[z,hd] at h;exact l a (Option.some.inj h))];exact h) λb xs h=>by rw[aW (λz=>by rw[z,hd] at h;exact j xs (Option.some.inj h))];exact h
 refine⟨I.ok,I.os,I.bare,⟨I.base.keep,I.base.slot,λb o e n r=>nn b (I.base.free b o e n r),I.base.there,λb xs h=>?_,λb o v h=>?_,λb ps h=>?_⟩,I.loc,I.cell,nn _ I.free,λx c e=>nn _ (I.iw x c e),λp i=>?_,λa o h=>?_,I.len⟩
 .have h':=I.base.tups b xs h
  rw[aW (λz=>by rw[z,hd] at h';exact j xs (Option.some.inj h'))];exact h'
 .have h':=I.base.fG b o v h
  rw[aW (λz=>by rw[z] at h;exact m o v h)];exact h'
 .obtain⟨f,h'⟩:=I.base.gb b ps h
  exact⟨f,by rw[aW (λz=>by rw[z,hd] at h';exact k _ (Option.some.inj h'))];exact h'⟩
 .obtain⟨h1,h2,t⟩:=I.pin p i
  exact⟨h1,nn _ h2,t⟩
 .by_cases z:a=d
  .subst z
   rw[eT] at h;cases h;exact st _ _ q
  .rw[aW z] at h
   exact st _ _ (I.hok a o h)
theorem Inv.fz(I:Inv X pins σ H s)(hd:H d=some (.dK kvs)):(∀o v,X.H₀ d=some (.bK o v)->False)/\∃o,Inv X pins σ (upd H d (.bK o (.dK kvs))) s:=by
 have a:∀o v,X.H₀ d=some (.bK o v)->False:=λo v h=>by
  have:=I.base.fG d o v h;rw[hd] at this;cases this
 have b:=I.hok d _ hd;obtain⟨h1,h2,vs,f,c⟩:=id b;obtain⟨o,es,ep,e,r⟩:=id c;exact⟨a,o,I.swap hd (λ_ z=>by cases z) (λ_ z=>by cases z) (λ_ z=>by cases z) a ⟨e,b⟩⟩
theorem Inv.Jc{o:Obj}(I:Inv X pins σ H s)(hd:H d=some (.bK o (.dK kvs)))(a:∀o v,X.H₀ d=some (.bK o v)->False):Inv X pins σ (upd H d (.dK kvs)) s:=
 I.swap hd (λ_ z=>by cases z) (λ_ z=>by cases z) (λ_ z=>by cases z) a (I.hok d _ hd).2
end
def xG(a:Addr)(o:Obj)(ks:List Key):It:=
 ⟨λi H=>∃kvs,H a=some (.bK o (.dK kvs))/\kvs.map (·.1)=ks/\i<ks.length,λi H x H'=>H'=H/\∃k,ks[i]?=some k/\x=kV k,λi H=>∃kvs,H a=some (.bK o (.dK kvs))/\kvs.map (·.1)=ks/\ks.length<=i⟩
theorem S6{k:Key}{v:Value}(h:kM k v=true):RelV (kV k) v:=by
 rcases ja h with⟨i,t,rfl,rfl⟩|⟨x,t,rfl,rfl⟩
 .exact⟨t,rfl⟩
 .exact⟨t,rfl⟩
theorem yX{X:Cx}{pins:aS}{σ:St}{H:Hp}{s:Shared}{a:Addr}{o:Obj}{kvs:List (Key×V)}{es:Array DictEntry}{ep:Nat}(I:Inv X pins σ H s)(h:H a=some (.bK o (.dK kvs)))(b:o.data=.dict es ep):(a==sysModules)=false/\∃vs:List (Key×Value),vs.map (·.1)=kvs.map (·.1)/\s.heap.DictAt (cP X.prog X.w) a vs ep:=by
 obtain⟨e,hz,h2,vs,c,f⟩:=(show bX X.prog X.w H s.heap a (.bK o (.dK kvs)) from I.hok a _ h);obtain⟨o',g,i,d,hc,hd,r⟩:=f;rw[e] at d;cases d;rw[b] at hd;cases hd;refine⟨h2,vs,?_,⟨o,es,e,hc,b,r⟩⟩;clear r h2 h e hz;unfold KV at c;induction c with
 |nil=>rfl
 |cons p t j=>rw[cg,cg,j,p.1]
theorem VH{P:Program}{w:World}{K:Frag}{tg:Expr}(a it:Addr){o:Obj}{ks:List Key}{es:Array DictEntry}{ep:Nat}(A:o.data= .dict es ep):Turn P w K tg (xG a o ks) [it] it (λi h=>h.IsKeyIter it a i ks.length ep) where
 mem:=by simp
 obj:=λi h st b f=>by
  have e:b=it:=by simpa using f
  subst e
  obtain⟨o,e,c,d⟩:=st
  exact⟨o,e,λv z=>by rw[d] at z;cases z⟩
 keep:=λi h h' st k=>st.at λo e=>k it (by simp) o e
 item:=by
  intro X p q r hc i pins s σ H E I m st t
  subst p q r
  obtain⟨kvs,h1,h2,C⟩:=t
  obtain⟨D,vs,n,g⟩:=yX I h1 A
  have hl:vs.length=ks.length:=by rw[<-h2,<-n,aP]
  obtain⟨f0,f1,f2,u,f4,x⟩:=m it (by simp)
  obtain⟨y,B⟩:∃y,vs[i]? =some y:=⟨vs[i]'(by omega),br _⟩
  have F:ks[i]? =some y.1:=by rw[<-h2,<-n,bW,B];rfl
  rw[<-hl] at st
  refine wpAny_pyNext_dict_item (knd:=cP X.prog X.w) st g B λkey h' l j G=> ?_
  have J:Inv X pins σ H {s with heap:=h'}:=I.turned (t':=s.toks) (λb o f e=>(G.2 b f).trans e) f0 f1 u f4 x
  obtain⟨o',e,c,d⟩:=id j
  rw[hl] at j
  exact⟨key,rfl,qX (s:={s with heap:=h'}) e c d (by decide) ⟨_,H,J,S6 l,⟨rfl,_,F,rfl⟩,j,λb f=>(m b f).1⟩⟩
 done:=by
  intro X p q r hc i pins s σ H E I m st t
  subst p q r
  obtain⟨kvs,h1,h2,C⟩:=t
  obtain⟨D,vs,n,g⟩:=yX I h1 A
  have hl:vs.length=ks.length:=by rw[<-h2,<-n,aP]
  obtain⟨f0,f1,f2,u,f4,x⟩:=m it (by simp)
  rw[<-hl] at st
  exact wpAny_pyNext_dict_end (knd:=cP X.prog X.w) (I.ok.hd hc) st g (nZ (by omega)) λh' L=>⟨rfl,I.turned (t':=s.toks) (λb o f e=>L b o f e) f0 f1 u f4 x⟩
 self:=λ_ _ _ _ _ st h=>wpAny_pyIter_keyiter st h
def OL(tl:TE):TI:=λσ H R=>tl σ H λx H1=>∃a o kvs,x=.ref a/\H1 a=some (.bK o (.dK kvs))/\R (xG a o (kvs.map (·.1))) H1
theorem R7{X:Cx}{tg l:Expr}{tl:TE}(hl:PE X l tl):PI X tg l (OL tl):=by
 intro pins s σ H R I h;refine aK (hl pins s σ H _ I h) λv c ⟨x,H1,d,j,k⟩=>?_;obtain⟨a,o,kvs,e,g,q⟩:=k;subst e;cases j;obtain⟨e,_,h2,vs,u,m⟩:=(show bX X.prog X.w H1 c.heap a (.bK o (.dK kvs)) from d.hok a _ g);obtain⟨o',es,ep,i,hc,hd,r⟩:=id m;rw[e] at i;cases i;obtain⟨n,vs,p,f⟩:=yX d g hd;have hl:(kvs.map (·.1)).length=vs.length:=by rw[<-p,aP]
 refine wpAny_pyIter_dict (knd:=cP X.prog X.w) n f ?_;refine⟨c.heap.objs.size,[c.heap.objs.size],_,_,H1,rfl,d.kept (t':=c.toks) λb o e=>bw _ e,VH a _ hd,⟨_,cA _ rfl,rfl,by rw[hl];rfl⟩,λb t=>?_,q⟩;have e:b=c.heap.objs.size:=by simpa using t
 subst e;exact d.lM (aF _) (d.hok.fresh (aF _))
end L2
namespace DP
open L2
def keyOf:Key->D
 |.inl i=>.int i
 |.inr x=>.str x
theorem Tp{mg:au}{ι:Io}{n:Nat}{H:Hp}(k:Key):RV mg ι n H (keyOf k) (kV k):=by
 cases k<;>rfl
theorem RK.oU{mg:au}{ι:Io}{H:Hp}:∀{ds:List (Key×D)} {vs:List (Key×V)} {n:Nat},RK mg ι n H ds vs->vs.map (·.1)=ds.map (·.1)
 |[],vs,_,h=>by have h':vs=[]:=h;rw[h'];rfl
 |d::ds,vs,n,h=>by
  obtain⟨x,r,rfl,_,a⟩:=h;rw[cg,cg,RK.oU a]
theorem Ph{mg:au}{A:Ar}{ι:Io}{H:Hp}{q:Nat}{o:Obj}{kvs:List (Key×D)}(b:q<A.length):ko mg A ι H (xG (ι q) o (kvs.map (·.1))) (kvs.map λp=>keyOf p.1) (λA'=>A'[q]?=some (.bC o kvs)) where
 go:=λi d f a H1 hd e r hc=>by
  obtain⟨xs,h1,h2⟩:=r.bC hc;rw[e.ag q b] at h1;have hi:=(b8.mp hd).1;rw[aP] at hi;refine⟨⟨xs,h1,RK.oU h2,by rw[aP];exact hi⟩,λx H' y=>?_⟩;obtain⟨rfl,k,c,rfl⟩:=y;refine⟨r.refl,r,?_⟩;rw[bW,br hi] at hd c;cases hd;cases c;exact Tp _
 stop:=λf a H1 e r hc=>by
  obtain⟨xs,h1,h2⟩:=r.bC hc;rw[e.ag q b] at h1;exact⟨xs,h1,RK.oU h2,by simp⟩
@[irreducible] def rq(r:Nat)(A:Ar)(R:List D->(Ar->Prop)->Ar->Prop):Prop:=match A[r]? with
 |some (.bC o kvs)=>R (kvs.map λp=>keyOf p.1) (λA'=>A'[r]?=some (.bC o kvs)) A
 |_=>False
def ri(m:aM):iW:=λτ A R=>m τ A λx A1=>match x with
 |.ref r=>rq r A1 R
 |_=>False
section
variable{X:Cx}{N:En}{tg e:Expr}{m:aM}
theorem qO(f:PE X e (up X.mg N m)):PI X tg e (jA X.mg N (ri m)):=oN (R7 f) λσ H Q q=>by
 obtain⟨A,ι,τ,R,S,q,k⟩:=q;refine⟨A,ι,τ,_,S,q,λx c b H1 u a g d h=>?_⟩;cases x with
 |ref r=>
  obtain⟨i,rfl⟩:=h;have a:rq r c R:=a;unfold rq at a;split at a
  .rename_i o kvs e
   obtain⟨xs,h1,h2⟩:=d.bC e;refine⟨_,o,xs,rfl,h1,?_⟩;rw[RK.oU h2];exact k _ _ c b H1 _ a g d (Ph i)
  .exact a.elim
 |_=>exact a.elim
def I9(r:Nat)(o:Obj)(A2:Ar)(Q:Ar->Prop):Prop:=∃kvs,A2[r]?=some (.bC o kvs)/\Q (A2.set r (.dct kvs))
theorem D5{σ:L2.St}{H:Hp}{A:Ar}{ι:Io}{τ:bL}{r:Nat}{kvs:List (Key×D)}{xs:List (Key×V)}{o:Obj}(S:dM X.mg N A ι τ σ H)(e:A[r]?=some (.dct kvs))(h1:H (ι r)=some (.dK xs))(h2:RK X.mg ι A.length H kvs xs):
  dM X.mg N (A.set r (.bC o kvs)) ι τ σ (upd H (ι r) (.bK o (.dK xs)))/\Ext A ι H (A.set r (.bC o kvs)) ι (upd H (ι r) (.bK o (.dK xs))):=by
 have hl:=(b8.mp e).1;have E:=S.ra.mX (o:=.bK o (.dK xs)) (c:=.bC o kvs) hl;obtain⟨ra,a⟩:=S.ra.put (c':=.bC o kvs) (o:=.bK o (.dK xs)) e h1 rfl ⟨_,eT,by simpa using RK.ext E kvs xs h2⟩;exact⟨S.next a ra,a⟩
theorem D4{mg:au}{H:Hp}{A:Ar}{ι:Io}{r:Nat}{kvs:List (Key×D)}{o:Obj}(ra:RA mg ι H A)(e:A[r]?=some (.bC o kvs)):∃xs,H (ι r)=some (.bK o (.dK xs))/\RA mg ι (upd H (ι r) (.dK xs)) (A.set r (.dct kvs))/\Ext A ι H (A.set r (.dct kvs)) ι (upd H (ι r) (.dK xs)):=by
 obtain⟨xs,h1,h2⟩:=ra.bC e;have hl:=(b8.mp e).1;have E:=ra.mX (o:=.dK xs) (c:=.dct kvs) hl;obtain⟨a,b⟩:=ra.put (c':=.dct kvs) (o:=.dK xs) e h1 rfl ⟨_,eT,by simpa using RK.ext E kvs xs h2⟩;exact⟨xs,h1,a,b⟩
end
theorem uV{A:Ar}{r:Nat}{o:Obj}{kvs:List (Key×D)}{R:List D->(Ar->Prop)->Ar->Prop}(h:A[r]?=some (.bC o kvs))(k:R (kvs.map λp=>keyOf p.1) (λA'=>A'[r]?=some (.bC o kvs)) A):rq r A R:=by
 unfold rq;rw[h];exact k
theorem zu{A:Ar}{r:Nat}{o:Obj}{kvs:List (Key×D)}{y v:D}{k:Key}{R:DK}(h:A[r]?=some (.bC o kvs))(a:fM y=some k)(b:bf kvs k=some v)(q:R v A):kK r y A R:=by
 unfold kK;rw[h];simp only[a,b];exact q
end DP
namespace L2
theorem range_any(bs:List Bool):((range bs.length).any λi=>(bs[i]?).getD false)=bs.any id:=by
 rw[nH,mu,mu];constructor
 .rintro ⟨i,hi,h⟩
  have hi:i<bs.length:=by simpa using hi
  rw[br hi] at h;exact⟨_,lz hi,h⟩
 .rintro ⟨b,a,h⟩
  obtain⟨i,hi,e⟩:=qi a;exact⟨i,by simpa using hi,by rw[br hi,e];exact h⟩
section
variable{X:Cx}
theorem KA(hc:X.calm=true):eF X (.builtin "any") (λxs H Q=>∃(p:Addr) (bs:List Bool),xs=[.ref p]/\aR X.K H p (bs.map V.bl)/\Q (.bl (bs.any id)) H):=by
 intro pins s σ H xs n Q I r h;obtain⟨p,bs,rfl,f,q⟩:=h;obtain⟨u,rfl,g⟩:=vals1 r;cases g;obtain⟨vs,j,pl,hz⟩:=I.list f;have c:=yl j;have hl:=pl.isList;have a:p<s.heap.objs.size:=by obtain⟨_,e,_⟩:=hl;exact aT e
 refine call_any_walk (p9 hl ?_);refine⟨s.heap.objs.size,[s.heap.objs.size,p],[s.heap.objs.size],vs.toArray.size,_,_,λi=>(bs[i]?).getD false,rfl,Walks.list (A:=X.A.in1) (I.ok.hd hc) _ p (bE a) vs.toArray,
  ⟨⟨_,cA _ rfl,rfl,rfl⟩,hl.push _⟩,λi v s' o t k d=>?_,λh' l m=>?_⟩
 .obtain⟨b,e,rfl⟩:=c.get i v (by simpa using k)
  simp only[e,getD_some] at d;exact k9 d
 .have e:((range vs.toArray.size).any λi=>(bs[i]?).getD false)=bs.any id:=by
   rw[b6,c.length];exact range_any bs
  rw[e];exact⟨.bl _,H,I.kept (h':=h') (t':=l) (LSm.kept_iter m),rfl,q⟩
end
end L2
namespace DP
open L2
theorem Kv:bootBuiltins "any"=some (.builtin "any"):=by with_unfolding_all rfl
@[irreducible] def anyR(r:Nat)(A:Ar)(R:DK):Prop:=match A[r]? with
 |some (.lst xs)=>(match i7 xs with
  |some bs=>R (.bl (bs.any id)) A
  |none=>False)
 |_=>False
def Ck:g_:=λvs A R=>match vs with
 |[.ref r]=>anyR r A R
 |_=>False
theorem Lu{mg:au}{K:Frag}:iJ mg (λxs H Q=>∃(p:Addr) (bs:List Bool),xs=[.ref p]/\aR K H p (bs.map V.bl)/\Q (.bl (bs.any id)) H) Ck:=by
 intro ds A ι H a R Q ra rs h k;unfold Ck at h;split at h
 .obtain⟨_,_,rfl,⟨_,rfl⟩,rfl⟩:=rs
  unfold anyR at h;split at h
  .rename_i xs e
   split at h
   .rename_i bs b
    obtain⟨a,h1,c⟩:=ra.lst e;exact⟨_,bs,rfl,aR.of (by rw[h1,yk b c]),k.here ra h rfl⟩
   .exact h.elim
  .exact h.elim
 .exact h.elim
theorem Kf{A:Ar}{r:Nat}{xs:List D}{bs:List Bool}{R:DK}(h:A[r]?=some (.lst xs))(a:i7 xs=some bs)(k:R (.bl (bs.any id)) A):anyR r A R:=by
 unfold anyR;simp only[h,a];exact k
end DP
end
namespace KO
open PySem PySem.W PyProof.Rows
section
variable{O:KeyOrd}{key:Nat->O.α}{n:Nat}{cmp:Nat->Nat->(Bool->Shared->Prop)->Shared->Prop}{s:Shared}
def kp(O:KeyOrd)(key:Nat->O.α)(p:Array Nat)(i:Nat):O.α:=key (p.getD i 0)
def Up(O:KeyOrd)(key:Nat->O.α)(p:Array Nat)(k:Nat):Prop:=∀i j,i<=j->j<k->O.kle (kp O key p i) (kp O key p j)
def Dn(O:KeyOrd)(key:Nat->O.α)(p:Array Nat)(k:Nat):Prop:=∀i j,i<=j->j<k->O.kle (kp O key p j) (kp O key p i)
def Pm(n:Nat)(p:Array Nat):Prop:=p.Perm (range n).toArray
theorem Pm.size{p:Array Nat}(h:Pm n p):p.size=n:=by
 have:=Array.Perm.size_eq h;simpa using this
theorem Pm.lt{p:Array Nat}(h:Pm n p){i:Nat}(hi:i<n):p.getD i 0<n:=by
 have hz:=h.size;have a:p[i]'(by omega)∈p:=Array.getElem_mem _;have:=(Array.Perm.mem_iff h).mp a;rw[mE,gj (by omega)];simpa using this
theorem rB{p q:Array Nat}{i j:Nat}(h:p[i]?=q[j]?):kp O key p i=kp O key q j:=by
 unfold kp;rw[mE,mE,h]
theorem zx{p:Array Nat}{i j:Nat}(a:j<=p.size)(k:Nat):kp O key (kas_rev p i j) k=if i<=k/\k<j then kp O key p (i+j - 1 - k) else kp O key p k:=by
 have e:=getElem?_mirror_all (xs:=p) (i:=i) a k;split
 .rename_i h;rw[av h] at e;exact rB e
 .rename_i h;rw[ay h] at e;exact rB e
theorem zw{p:Array Nat}{i j:Nat}(b:j<=p.size)(a:∀k,i<=k->k<j->kp O key p k=kp O key p (j - 1))(k:Nat):kp O key (kas_rev p i j) k=kp O key p k:=by
 rw[zx b];split
 .rw[a _ (by omega) (by omega),a k (by omega) (by omega)]
 .rfl
theorem Pm.rev{p:Array Nat}(h:Pm n p)(i j:Nat):Pm n (kas_rev p i j):=(mirror_perm _ _ _ _).trans h
theorem Up.snoc{p:Array Nat}{x:Nat}(h:Up O key p x)(h1:1<=x)(c:O.blt (kp O key p x) (kp O key p (x - 1))=false):Up O key p (x+1):=λi j a d=>by
 by_cases b:j<x
 .exact h i j a b
 .have e:j=x:=by omega
  subst e;by_cases hi:i=j
  .subst hi;exact nN _
  .exact nO (h i (j - 1) (by omega) (by omega)) c
theorem Dn.snoc{p:Array Nat}{x:Nat}(h:Dn O key p x)(h1:1<=x)(c:O.kle (kp O key p x) (kp O key p (x - 1))):Dn O key p (x+1):=λi j a d=>by
 by_cases b:j<x
 .exact h i j a b
 .have e:j=x:=by omega
  subst e;by_cases hi:i=j
  .subst hi;exact nN _
  .exact nO c (h i (j - 1) (by omega) (by omega))
variable(hc:∀i j,i<n->j<n->∀C:Bool->Shared->Prop,C (O.blt (key i) (key j)) s->cmp i j C s)
include hc
theorem qA{α:Type}{p:Array Nat}(a:Pm n p){i j:Nat}(hi:i<n)(b:j<n){k:Bool->KasT α}{G:α->Shared->Prop}(h:(k (O.blt (kp O key p i) (kp O key p j))).kasWp cmp G s):(KasT.ask (p.getD i 0) (p.getD j 0) k).kasWp cmp G s:=
 hc _ _ (a.lt hi) (a.lt b) _ h
theorem ye{p:Array Nat}(d:Pm n p){b:Nat}(k:b<=n){G:Nat->Shared->Prop}:∀(f a:Nat),1<=a->a+f=b->Up O key p a->
  (∀m,a<=m->m<=b->Up O key p m->(m=b\/O.klt (kp O key p m) (kp O key p (m - 1)))->G m s)->(kas_asc p f a).kasWp cmp G s
 |0,a,h1,e,c,h=>h a (aF _) (by omega) c (.inl (by omega))
 |f+1,a,h1,e,c,h=>by
  refine qA hc d (i:=a) (j:=a - 1) (by omega) (by omega) ?_;cases g:O.blt (kp O key p a) (kp O key p (a - 1)) with
  |true=>rw[av rfl];exact h a (aF _) (by omega) c (.inr g)
  |false=>
   rw[ay bZ];exact ye d k f (a+1) (by omega) (by omega) (c.snoc h1 g) λm l=>h m (by omega)
theorem uv{a:Nat}(r:a<=n){G:Array Nat×Nat×Nat->Shared->Prop}:∀(f:Nat) (p:Array Nat) (x q:Nat),Pm n p->1<=x->x+f=a->Dn O key p x->q+1<=x->(∀i,x - (q+1)<=i->i<x->kp O key p i=kp O key p (x - 1))->
  (∀b m d,Pm n b->x<=m->m<=a->Dn O key b m->d+1<=m->(∀i,m - (d+1)<=i->i<m->kp O key b i=kp O key b (m - 1))->G (b,m,d) s)->(kas_desc f p x q).kasWp cmp G s
 |0,p,x,q,g,h1,e,k,t,l,h=>h p x q g (aF _) (by omega) k t l
 |f+1,p,x,q,g,h1,e,k,t,l,h=>by
  have hz:=g.size;refine qA hc g (i:=x) (j:=x - 1) (by omega) (by omega) ?_;cases u:O.blt (kp O key p x) (kp O key p (x - 1)) with
  |true=>
   rw[av rfl];by_cases o:q>0
   .rw[av o]
    have y:=zw (O:=O) (key:=key) (p:=p) (i:=x - (q+1)) (j:=x) (by omega) l;refine uv r f _ (x+1) 0 (g.rev _ _) (by omega) (by omega) (λi j v A=>?_) (by omega) (λi i1 i2=>by congr 1;omega) λb m d c z=>h b m d c (by omega);rw[y,y];exact(k.snoc h1 (tu u)) i j v A
   .rw[ay o]
    exact uv r f p (x+1) 0 g (by omega) (by omega) (k.snoc h1 (tu u)) (by omega) (λi i1 i2=>by congr 1;omega) λb m d c z=>h b m d c (by omega)
  |false=>
   rw[ay bZ];refine qA hc g (i:=x - 1) (j:=x) (by omega) (by omega) ?_;cases hd:O.blt (kp O key p (x - 1)) (kp O key p x) with
   |true=>rw[av rfl];exact h p x q g (aF _) (by omega) k t l
   |false=>
    rw[ay bZ];have ex:kp O key p x=kp O key p (x - 1):=KeyOrd.kle_antisymm hd u;refine uv r f p (x+1) (q+1) g (by omega) (by omega) (k.snoc h1 hd) (by omega) (λi i1 i2=>?_) λb m d c z=>h b m d c (by omega);rw[show x+1 - 1=x by omega];by_cases w:i=x
    .rw[w]
    .rw[ex];exact l i (by omega) (by omega)
theorem IZ{p:Array Nat}(b:Pm n p){m a:Nat}(e:a<=n)(h1:1<=m)(q:m<=a)(f:Dn O key p m){G:Nat×Array Nat->Shared->Prop}(h:∀k c,Pm n c->1<=k->k<=a->Up O key c k->G (k,c) s):(kas_tail3 m a p).kasWp cmp G s:=by
 have hz:=b.size;unfold kas_tail3;rw[KasT.kasWp_bind];refine ye hc (b.rev 0 m) e _ m h1 (by omega) (λi j g r=>?_) λk l d o _=>h k _ (b.rev 0 m) (by omega) d o;rw[zx (by omega),zx (by omega),av (by omega),av (by omega)];exact f _ _ (by omega) (by omega)
theorem F1{p:Array Nat}(r:Pm n p){m a:Nat}(g:a<=n)(x:m+1<=a)(t:Dn O key p (m+1)){G:Nat×Array Nat->Shared->Prop}(h:∀k c,Pm n c->1<=k->k<=a->Up O key c k->G (k,c) s):(kas_descPart m a p).kasWp cmp G s:=by
 unfold kas_descPart;rw[KasT.kasWp_bind];refine uv hc g _ p (m+1) 0 r (by omega) (by omega) t (by omega) (λi i1 i2=>by congr 1;omega) λc k q b u d e y v=>?_;have hz:=b.size;by_cases f:q>0
 .simp only[f,mF]
  have o:=zw (O:=O) (key:=key) (p:=c) (i:=k - (q+1)) (j:=k) (by omega) v;refine IZ hc (b.rev _ _) g (by omega) d (λi j l w=>?_) h;rw[o,o];exact e i j l w
 .simp only[f,gm]
  exact IZ hc b g (by omega) d e h
theorem K6{p:Array Nat}(b:Pm n p)(h1:1<=n){G:Nat×Array Nat->Shared->Prop}(h:∀k r,Pm n r->1<=k->k<=n->Up O key r k->G (k,r) s):(kas_count n p).kasWp cmp G s:=by
 have hz:=b.size;unfold kas_count;rw[KasT.kasWp_bind];refine ye hc b (aF n) _ 1 (aF _) (by omega) (λi j a f=>by have e:i=j:=(by omega);rw[e];exact nN _) λm c g o t=>?_;by_cases d:m=n
 .rw[av (by simpa using d)]
  exact h m p b c g o
 .rw[ay (by simpa using d)]
  have l:=t.resolve_left d;by_cases v:m>1
  .rw[av v]
   refine qA hc b (i:=0) (j:=m - 1) (by omega) (by omega) ?_;cases w:O.blt (kp O key p 0) (kp O key p (m - 1)) with
   |true=>rw[av rfl];exact h m p b c g o
   |false=>
    rw[ay bZ];have u:∀k,0<=k->k<m->kp O key p k=kp O key p (m - 1):=λk _ q=>
     KeyOrd.kle_antisymm (o k (m - 1) (by omega) (by omega)) (nO w (o 0 k (by omega) q))
    have q:=zw (O:=O) (key:=key) (p:=p) (i:=0) (j:=m) (by omega) u;refine F1 hc (b.rev 0 m) (aF n) (by omega) (λi j a f=>?_) h;rw[q,q];have hd:Dn O key p m:=λi j a f=>by rw[u i (by omega) (by omega),u j (by omega) f];exact nN _
    exact(hd.snoc c (tu l)) i j a f
  .rw[ay v]
   have e:m=1:=by omega
   subst e;have hd:Dn O key p 1:=λi j a f=>by have e:i=j:=(by omega);rw[e];exact nN _
   exact F1 hc b (aF n) (by omega) (hd.snoc (aF _) (tu l)) h
theorem zZ{p:Array Nat}(g:Pm n p){k:Nat}(m:k<n)(d:Up O key p k){G:Nat->Shared->Prop}:∀(f l r:Nat),l<=r->r<=k->r - l<=f->(∀i,i<l->O.kle (kp O key p i) (kp O key p k))->(∀i,r<=i->i<k->O.klt (kp O key p k) (kp O key p i))->
  (∀l,l<=k->(∀i,i<l->O.kle (kp O key p i) (kp O key p k))->(∀i,l<=i->i<k->O.klt (kp O key p k) (kp O key p i))->G l s)->(kas_place p k f l r).kasWp cmp G s
 |0,l,r,o,q,u,a,b,h=>by
  have e:l=r:=by omega
  exact h l (by omega) a (e▸b)
 |f+1,l,r,o,q,u,a,b,h=>by
  unfold kas_place;by_cases c:l≥r
  .rw[av c]
   have e:l=r:=by omega
   exact h l (by omega) a (e▸b)
  .rw[ay c]
   refine qA hc g (i:=k) (j:=(l+r)/2) m (by omega) ?_;cases t:O.blt (kp O key p k) (kp O key p ((l+r)/2)) with
   |true=>
    rw[av rfl];exact zZ g m d f l ((l+r)/2) (by omega) (by omega) (by omega) a (λi i1 i2=>KeyOrd.klt_of_klt_of_kle t (d _ _ i1 i2)) h
   |false=>
    rw[ay bZ];exact zZ g m d f ((l+r)/2+1) r (by omega) (by omega) (by omega) (λi i1=>nO (d i ((l+r)/2) (by omega) (by omega)) t) b h
theorem Cy{G:Array Nat->Shared->Prop}(h:∀g,Pm n g->Up O key g n->G g s):∀(f:Nat) (p:Array Nat) (k:Nat),Pm n p->k+f=n->Up O key p k->(kas_bin f p k).kasWp cmp G s
 |0,p,k,b,e,d=>h p b (by rw[<-e];exact d)
 |f+1,p,k,b,e,d=>by
  have hz:=b.size;unfold kas_bin;rw[KasT.kasWp_bind];refine zZ hc b (by omega) d k 0 k (by omega) (aF _) (by omega) (λi hi=>by omega) (λi i1 i2=>by omega) λl hl m o=>?_;refine Cy h f _ (k+1) ((bubble_perm _ _ _).trans b) (by omega) λi j q r=>?_;have c:∀x,kp O key (bubble p k (k - l)) x=if x=l then kp O key p k else if l<x/\x<=k then kp O key p (x - 1) else kp O key p x:=λx=>by
   have a:=getElem?_bubble (xs:=p) (src:=k) (by omega) (k - l) (by omega) x;rw[show k - (k - l)=l by omega] at a;split
   .rename_i h1;rw[av h1] at a;exact rB a
   .rename_i h1
    rw[ay h1] at a;split
    .rename_i h2;rw[av h2] at a;exact rB a
    .rename_i h2;rw[ay h2] at a;exact rB a
  rw[c,c];repeat' split
  all_goals first
   |(exfalso;omega)
   |exact nN _
   |exact m _ (by omega)
   |exact tu (o _ (by omega) (by omega))
   |exact d _ _ (by omega) (by omega)
theorem UM{G:Array Nat->Shared->Prop}(h1:1<=n)(h:∀a,Pm n a->Up O key a n->G a s):(kas_sort n).kasWp cmp G s:=by
 unfold kas_sort;rw[KasT.kasWp_bind];refine K6 hc (Array.Perm.refl _) h1 λk p b e f c=>?_;by_cases d:k<n
 .simp only[d,mF]
  rw[show max k 1=k by omega];exact Cy hc h _ p k b (by omega) c
 .simp only[d,gm]
  exact h p b (by rw[show n=k by omega];exact c)
end
end KO
namespace KP
open PySem PySem.W PySem.Spec PyProof.Rows KO
section
variable{prog:Program}{w:World}{A:Around}{E:aQ}{s:Shared}
theorem P4{κ:SortKind}{O:KeyOrd}{key:Nat->O.α}{a:Addr}{vs:List Value}{n:Nat}{P:PySem.Fin->Shared->Prop}(m:s.heap.get? a=some (seqObj "list" vs.toArray n))(r:vs.length<64)
  (I:∀s':Shared,(∀b o,b≠a->s.heap.get? b=some o->s'.heap.get? b=some o)->2<=vs.length->∀R:SortKind->Shared->Prop,R κ s'->wpAny (model prog w) A (keyKind' vs.toArray) R (λ_ _=>False) s')
  (hc:∀s':Shared,(∀b o,b≠a->s.heap.get? b=some o->s'.heap.get? b=some o)->∀i j,i<vs.length->j<vs.length->∀C:Bool->Shared->Prop,C (O.blt (key i) (key j)) s'->kas_ask prog w A κ vs i j C s')
  (h:∀p:Array Nat,Pm vs.length p->Up O key p vs.length->P (.done (.ret .none)) {s with heap:=sortedHeap s.heap a vs (p.toList.map λi=>vs.getD i Value.none).toArray}):
  wpAny (model prog w) A (Builtin.«list.sort» ⟨[.ref a],[]⟩) P E s:=by
 rw[list_sort_plain]
 have H:a<s.heap.objs.size:=aT m
 refine ah (listItems_at m rfl ?_)
 refine ah (listUpdate_at m rfl ?_ (by rw[b6,kc];omega) (bG _))
 obtain⟨t,g⟩:∃t,(s.heap.update a (Obj.mapSeq λ_=>(#[]:Array Value))).get? a=some (seqObj "list" #[] t):=⟨_,get?_update_seq m λ_=> #[]⟩
 refine ah (seqEpoch_at g rfl ?_)
 refine ah (wpAny_newTuple ?_ (by show vs.length<=_;rw[kc];omega))
 refine ah (xh ?_ (bG _))
 refine gZ ?_
 have c:(((s.heap.update a (Obj.mapSeq λ_=>(#[]:Array Value))).push (seqObj "tuple" vs.toArray 0)).push (seqObj "list" #[] 0)).get? a=some (seqObj "list" #[] t):=by
  rw[get?_push_ne _ _ _ (by rw[size_push',pZ];exact bE (gX H)),get?_push_ne _ _ _ (by rw[pZ];exact bE H)]
  exact g
 have kp:∀b o,b≠a->s.heap.get? b=some o->(((s.heap.update a (Obj.mapSeq λ_=>(#[]:Array Value))).push (seqObj "tuple" vs.toArray 0)).push (seqObj "list" #[] 0)).get? b=some o:=λb o J q=>
  bw _ (bw _ (by rw[Heap.get?_update_ne _ _ _ _ J];exact q))
 show wpAny (model prog w) A _ P E {s with heap:=((s.heap.update a (Obj.mapSeq λ_=>(#[]:Array Value))).push (seqObj "tuple" vs.toArray 0)).push (seqObj "list" #[] 0)}
 dsimp only
 by_cases h2:vs.toArray.size<2
 .rw[av h2,av h2]
  refine ah (aG ?_)
  rw[StateT.run_pure]
  refine ah (aG ?_)
  dsimp only
  have u:vs.length<2:=by simpa using h2
  have e:=h (range vs.length).toArray (Array.Perm.refl _) λi j K Y=>by
   have L:i=j:=by omega
   rw[L];exact nN _
  have M:(arrOf (SortSt.mk' general' (vs.toArray.zip vs.toArray) #[] 7 none)).map (·.2)=((range vs.length).toArray.toList.map λi=>vs.getD i Value.none).toArray:=by
   refine kat_snds (ks:=vs) rfl ?_
   have e:=kas_range (vs.toArray.zip vs.toArray)
   rw[show(vs.toArray.zip vs.toArray).size=vs.length by simp] at e
   exact e.symm
  rw[M]
  refine ah (seqEpoch_at c rfl ?_)
  refine ah (listUpdate_at c rfl ?_ (bG _) (by rw[b6,aP,length_range,kc];omega))
  simp only[mw,jh,gm]
  exact aG e
 .rw[ay h2,ay h2]
  have u:2<=vs.length:=by
   have:vs.toArray.size=vs.length:=by simp
   omega
  obtain⟨f,v⟩:∃f:Shared,f={s with heap:=((s.heap.update a (Obj.mapSeq λ_=>(#[]:Array Value))).push (seqObj "tuple" vs.toArray 0)).push (seqObj "list" #[] 0)}:=⟨_,rfl⟩
  have k:∀b o,b≠a->s.heap.get? b=some o->f.heap.get? b=some o:=by rw[v];exact kp
  rw[<-v]
  refine ah (je (I f k u (λl s'=>l=κ/\s'=f) ⟨rfl,rfl⟩) ?_ λ_ _ x=>x.elim)
  rintro l s' ⟨N,es⟩
  rw[N,es]
  refine ah (je (kat_run (ks:=vs) (vs:=vs) (Q:=λd s'=>∃p:Array Nat,p.size=vs.length/\arrOf d=p.map (kas_item (vs.toArray.zip vs.toArray))/\failedOf d=none/\Pm vs.length p/\Up O key p vs.length/\s'=f)
   (G:=λp s'=>Pm vs.length p/\Up O key p vs.length/\s'=f) rfl u r (λS d s' a1 a2 T U=>⟨S,a1,a2,T,U⟩)
   (UM (O:=O) (key:=key) (hc f k) (by omega) λp y V=>⟨y,V,rfl⟩)) ?_ λ_ _ e=>e)
  rintro ⟨⟨⟩,d⟩ W ⟨p,y,z,X,B,D,F⟩
  dsimp only
  rw[F]
  rw[kat_snds rfl z]
  subst v
  refine ah (seqEpoch_at c rfl ?_)
  refine ah (listUpdate_at c rfl ?_ (bG _) (by rw[b6,aP,gW,y,kc];omega))
  rw[X]
  simp only[mw,jh,gm]
  exact aG (h p B D)
theorem UN{κ:SortKind}{O:KeyOrd}{key:Nat->O.α}{l:Addr}{vs:List Value}{Q:aQ}(hl:s.heap.IsList l vs.toArray)(d:vs.length<64)
  (f:∀s':Shared,(∀b o,s.heap.get? b=some o->s'.heap.get? b=some o)->2<=vs.length->∀R:SortKind->Shared->Prop,R κ s'->wpAny (model prog w) A.in1.in1 (keyKind' vs.toArray) R (λ_ _=>False) s')
  (hc:∀s':Shared,(∀b o,s.heap.get? b=some o->s'.heap.get? b=some o)->∀i j,i<vs.length->j<vs.length->∀C:Bool->Shared->Prop,C (O.blt (key i) (key j)) s'->kas_ask prog w A.in1.in1 κ vs i j C s')
  (h:∀(p:Array Nat) (h':Heap) (D:Addr) (e:Nat),Pm vs.length p->Up O key p vs.length->s.heap.objs.size<=D->h'.get? D=some (seqObj "list" (p.toList.map λi=>vs.getD i Value.none).toArray e)->(∀b o,s.heap.get? b=some o->h'.get? b=some o)->Q (.ref D) {s with heap:=h'}):
  wpAny (model prog w) A (call (.builtin "sorted") [.ref l]) Q E s:=by
 refine AN kind_sorted plain_sorted entry_sorted (args_sorted1 _) ?_
 unfold Builtin.«sorted»
 refine ah (m:=checkCount "sorted" 1 1 _) (aG ?_)
 refine ah (collect_list hl ?_ (by rw[kc];omega))
 refine ah (xh ?_ (by rw[kc];omega))
 have hsz:((s.heap.push (seqObj "list" #[] 0)).update s.heap.objs.size (Obj.mapSeq (·++vs.toArray))).objs.size=s.heap.objs.size+1:=by
  rw[pZ,size_push']
 have a:(((s.heap.push (seqObj "list" #[] 0)).update s.heap.objs.size (Obj.mapSeq (·++vs.toArray))).push (seqObj "list" vs.toArray 0)).get? (s.heap.objs.size+1)=some (seqObj "list" vs.toArray 0):=by
  rw[<-hsz];exact cA _ rfl
 have keep:∀b o,s.heap.get? b=some o->(((s.heap.push (seqObj "list" #[] 0)).update s.heap.objs.size (Obj.mapSeq (·++vs.toArray))).push (seqObj "list" vs.toArray 0)).get? b=some o:=λb o q=>by
  have c:b<s.heap.objs.size:=aT q
  rw[get?_push_ne _ _ _ (by rw[hsz];exact bE (gX c)),Heap.get?_update_ne _ _ _ _ (bE c),get?_push_ne _ _ _ (bE c)]
  exact q
 have ne:∀b o,s.heap.get? b=some o->b≠s.heap.objs.size+1:=λb o q=>bE (gX (aT q))
 show wpAny _ _ _ _ _ {s with heap:=((s.heap.push (seqObj "list" #[] 0)).update s.heap.objs.size (Obj.mapSeq (·++vs.toArray))).push (seqObj "list" vs.toArray 0)}
 rw[hsz]
 refine ah (gZ (jE slot_list_sort ⟨_,a,rfl⟩ entry_list_sort ?body (args_list_sort _)))
 case body=>
  refine P4 (κ:=κ) (O:=O) (key:=key) (s:={s with heap:=((s.heap.push (seqObj "list" #[] 0)).update s.heap.objs.size (Obj.mapSeq (·++vs.toArray))).push (seqObj "list" vs.toArray 0)})
   a d (λs' k=>f s' λb o q=>k b o (ne b o q) (keep b o q)) (λs' k=>hc s' λb o q=>k b o (ne b o q) (keep b o q)) λp g n=>⟨_,rfl,aG ⟨_,rfl,?_⟩⟩
  obtain⟨e,r⟩:=sortedHeap_at (out:=(p.toList.map λi=>vs.getD i Value.none).toArray) a
  refine h p _ _ e g n (lW _) r λb o q=> ?_
  rw[sortedHeap_old (ne b o q) (aT (keep b o q))]
  exact keep b o q
theorem E1{b fin r:Bool}{Q:Bool->Shared->Prop}(q:Q r s):∀{zs:List (Value×Value)} {i:Nat},0<i->L2.jk .Lt A s fin r zs->KatLex prog w A b fin Q zs i s
 |[],i,hi,h=>by
  cases h with
  |nil e=>exact kat_nil (by rw[e];exact q)
 |(y,x)::zs,i,hi,h=>by
  refine kat_cons ?_;cases h with
  |eq h1 h2=>exact h1 prog w _ _ (kat_yes (E1 q (by omega) h2))
  |ne h1 h2=>
   refine h1 prog w _ _ (kat_no ?_);have e:(b&&i==0)=false:=by
    cases i with
    |zero=>omega
    |succ i=>simp
   rw[e];exact kat_one _ _ (h2 prog w _ _ q)
theorem Py{x y:Value}{a c:Str}{xs ys:List PyData}{as bs:List Addr}{r:Bool}{Q:Bool->Shared->Prop}(e:L2.ltQ (.tuple (.str a::xs)) (.tuple (.str c::ys))=some r)(t:Reads s.heap x (.tuple (.str a::xs)) as)(u:Reads s.heap y (.tuple (.str c::ys)) bs)
  (v:canLay0 (.tuple (.str a::xs))=true)(z:canLay0 (.tuple (.str c::ys))=true)(j:A.units+min (depthAll (.str a::xs)) (depthAll (.str c::ys))<cLine)(q:Q r s):wpAny (model prog w) A (keyLt' (tuples' true) x y) Q E s:=by
 cases t with
 | @tuple l o vs n _ h h1 h2 B k=>
  cases u with
  | @tuple F o' b n' _ i k1 k2 k3 m=>
   refine kat_lt h1 B k1 k3 ?_;rw[L2.ltQ] at e;have hsz:decide (vs.size<b.size)=decide (vs.toList.length<b.toList.length):=by simp
   rw[hsz];generalize vs.toList=G at k ⊢;generalize b.toList=C at m ⊢;have d:canLay0 (.str a)=true/\canLayAll0 xs=true:=by simpa[canLay0,canLayAll0] using v
   have f:canLay0 (.str c)=true/\canLayAll0 ys=true:=by simpa[canLay0,canLayAll0] using z
   cases k with
   |cons a1 a2=>
    cases m with
    |cons p D=>
     have g:=SeqAt.eqAt_reads (.str a) (.str c) A s _ _ _ _ a1 p d.1 f.1 (SeqAt.room_head j);cases a1;cases p;rw[List.zip_cons_cons,L2.EZ];refine kat_cons ?_;rw[L2.eS] at e;cases ce:PyData.eqv (.str a) (.str c) with
     |true=>
      rw[ce] at e g;exact g prog w _ _ (kat_yes (E1 q (by omega) (L2.zB xs ys A s _ _ _ _ r e a2 D d.2 f.2 (SeqAt.room_tail j))))
     |false=>
      rw[ce] at e g;refine g prog w _ _ (kat_no (oneLt_str ?_));have e:L2.ltQ (.str a) (.str c)=some r:=e;rw[L2.ltQ] at e;cases e;exact q
end
end KP
section
open PySem PySem.Spec PyProof.Rows
namespace L2
open PySem.SeqAt
theorem LY{xs ys:List PyData}{u:Nat}(h1:(PyData.tuple xs).depth<=60)(a:u+64<cLine):u+2+min (depthAll xs) (depthAll ys)<cLine:=by
 have e:(PyData.tuple xs).depth=depthAll xs+1:=rfl;omega
theorem kat_tups{h:Heap}:∀{vs:List Value} {qs:List PyData},vs.length=qs.length->(∀(i:Nat) v q,vs[i]?=some v->qs[i]?=some q->∃as x r,Reads h v q as/\q=.tuple (.str x::r))->∃fs:List Value,fs.length=vs.length/\PySem.W.KatTups h vs fs/\∀v∈fs,∃x t,v=Value.str x t
 |[],[],_,_=>⟨[],rfl,.nil,λ_ h=>by cases h⟩
 |v::vs,q::qs,e,k=>by
  obtain⟨fs,h1,h2,c⟩:=kat_tups (vs:=vs) (qs:=qs) (by simpa using e) λi d f g j=>k (i+1) d f (by simpa using g) (by simpa using j);obtain⟨as,x,r,rd,rfl⟩:=k 0 v q rfl rfl;cases rd with
  | @tuple l o m n _ a p s u b=>
   generalize w:m.toList=ul at b;cases b with
   | @cons y vr _ _ _ _ a1 a2=>
    cases a1 with
    |str _ t=>
     refine⟨Value.str x t::fs,by simp[h1],.cons p s u ?_ h2,λv hv=>?_⟩
     .rw[<-n9,w];rfl
     .rcases aY.mp hv with rfl|hv
      .exact⟨x,t,rfl⟩
      .exact c v hv
section
variable{X:Cx}
theorem CH(hc:X.calm=true)(hu:X.A.units+64<cLine):eF X (.builtin "sorted") (λxs H Q=>∃(a:Addr) (vs:List V) (qs:List PyData) (O:KeyOrd) (key:Nat->O.α),xs=[.ref a]/\aR X.K H a vs/\vs.length<64/\vs.length=qs.length/\
  (∀(i:Nat) v q,vs[i]? =some v->qs[i]? =some q->Dp X.K H v q/\q.canLay0=true/\q.depth<=60/\∃x r,q= .tuple (.str x::r))/\(∀(i j:Nat) p q,qs[i]? =some p->qs[j]? =some q->ltQ p q=some (O.blt (key i) (key j)))/\
  ∀(l:Addr) (p:Array Nat),H l=none->KO.Pm vs.length p->KO.Up O key p vs.length->Q (.ref l) (upd H l (.lst (p.toList.map λi=>vs.getD i .aC)))):=by
 intro pins s σ H xs us Q I r h
 obtain⟨a,vs,qs,O,key,rfl,hq,B,hl,hd,hk,q⟩:=h
 obtain⟨u,rfl,ru⟩:=vals1 r
 cases ru
 obtain⟨its,E,pl,hz⟩:=I.list hq
 have F:=E.length
 have rd:∀(i:Nat) u p,its[i]? =some u->qs[i]? =some p->∃as x r,Reads s.heap u p as/\p= .tuple (.str x::r)/\p.canLay0=true/\p.depth<=60:=λi u p k G=>by
  have hi:i<its.length:=(b8.mp k).1
  obtain⟨u',m,J⟩:=Vals.get E (br (show i<vs.length by omega))
  rw[k] at m
  cases m
  obtain⟨d1,d2,d3,x,r,d4⟩:=hd i _ p (br (show i<vs.length by omega)) G
  obtain⟨as,d5⟩:=Dp.reads I p _ u d1 J
  exact⟨as,x,r,d5,d4,d2,d3⟩
 refine KP.UN (κ:=tuples' true) (O:=O) (key:=key) (vs:=its) pl.isList (by omega) (λs' kp h2 R hR=> ?_) (λs' kp i j hi hj C hC=> ?_) λp h' D e L d hD ho kp=> ?_
 .obtain⟨fs,f1,f2,f3⟩:=kat_tups (h:=s'.heap) (vs:=its) (qs:=qs) (by omega) λi v q k G=>by
   obtain⟨as,x,r,n,M,_⟩:=rd i v q k G
   exact⟨as,x,r,PyProof.Rows.Reads.keeps kp n,M⟩
  refine PySem.W.kat_kind (T:=Value.type "str") f2 (by omega) (λv hv=> ?_) (by decide) hR
  obtain⟨x,t,rfl⟩:=f3 v hv
  exact Looks.of_pure rfl
 .have N:=br hi
  have P:=br hj
  have S:=br (show i<qs.length by omega)
  have U:=br (show j<qs.length by omega)
  obtain⟨as,x,r,n,M,Y,Z⟩:=rd i _ _ N S
  obtain⟨bs,y,t,k1,k2,k3,k4⟩:=rd j _ _ P U
  have c:=hk i j _ _ S U
  rw[M] at n Y Z c
  rw[k2] at k1 k3 c
  unfold PySem.W.kas_ask
  rw[gk,gk,N,P]
  exact KP.Py c (PyProof.Rows.Reads.keeps kp n) (PyProof.Rows.Reads.keeps kp k1) Y k3 (LY Z hu) hC
 .have f:∀u,s.heap.get? D≠some u:=λu z=>absurd (cJ (aT z) hD) (fS _)
  have hn:H D=none:=by
   cases e0:H D with
   |none=>rfl
   |some o=>
    obtain⟨u,z⟩:=(I.hok _ _ e0).obj
    exact absurd z (f u)
  rw[<-F] at L d
  refine⟨.ref D,upd H D (.lst (p.toList.map λi=>vs.getD i .aC)),?_,rfl,q D p hn L d⟩
  refine I.Fg (t':=s.toks) kp (ku.new hn _) λb o w=> ?_
  by_cases hb:b=D
  .subst hb
   rw[eT] at w
   cases w
   refine .inr ⟨f,?_⟩
   refine⟨by rw[aP,gW,L.size];exact jB (cJ B (by decide)),p.toList.map λi=>its.getD i Value.none,e,?_,ho⟩
   generalize p.toList=g
   induction g with
   |nil=>exact .nil
   |cons i g ih=>
    refine .cons ?_ ih
    show RelV (vs.getD i .aC) (its.getD i Value.none)
    rw[gk,gk]
    by_cases hi:i<vs.length
    .obtain⟨u',m,J⟩:=Vals.get E (br hi)
     rw[br hi,m]
     exact J
    .rw[nZ (by omega),nZ (by omega)]
     rfl
  .rw[aW hb] at w
   exact .inl w
end
end L2
namespace DP
open L2
@[irreducible] def wA(r:Nat)(A:Ar)(R:DK):Prop:=match A[r]? with
 |some (.lst ds)=>ds.length<64/\(∀d∈ds,f6 d=true/\(toQ d).canLay0=true/\(toQ d).depth<=60/\∃x r,toQ d=.tuple (.str x::r))/\
  ∃(O:KeyOrd) (key:D->O.α),(∀d∈ds,∀e∈ds,ltQ (toQ d) (toQ e)=some (O.blt (key d) (key e)))/\∀es:List D,es.Perm ds->es.Pairwise (λa b=>O.kle (key a) (key b))->R (.ref A.length) (A++[.lst es])
 |_=>False
def IK:g_:=λvs A R=>match vs with
 |[.ref r]=>wA r A R
 |_=>False
theorem Qn{α:Type}(d:α):∀(l:List α),(range l.length).map (λi=>l.getD i d)=l:=λl=>by
 apply List.ext_getElem
 .simp
 .intro i h1 h2
  simp[h2]
theorem C6{mg:au}{K:Frag}:iJ mg (λxs H Q=>∃(a:Addr) (vs:List V) (qs:List PyData) (O:KeyOrd) (key:Nat->O.α),xs=[.ref a]/\aR K H a vs/\vs.length<64/\vs.length=qs.length/\
  (∀(i:Nat) v q,vs[i]? =some v->qs[i]? =some q->Dp K H v q/\q.canLay0=true/\q.depth<=60/\∃x r,q= .tuple (.str x::r))/\(∀(i j:Nat) p q,qs[i]? =some p->qs[j]? =some q->ltQ p q=some (O.blt (key i) (key j)))/\
  ∀(l:Addr) (p:Array Nat),H l=none->KO.Pm vs.length p->KO.Up O key p vs.length->Q (.ref l) (upd H l (.lst (p.toList.map λi=>vs.getD i .aC)))) IK:=by
 intro ds A ι H T R Q ra rs h k
 unfold IK at h
 split at h
 .obtain⟨_,_,rfl,⟨_,rfl⟩,rfl⟩:=rs
  unfold wA at h
  split at h
  .rename_i ds e
   obtain⟨C,hd,O,key,E,q⟩:=h
   obtain⟨xs,F,t⟩:=ra.lst e
   have hl:=ak.length t
   refine⟨_,xs,ds.map toQ,O,λi=>key (ds.getD i .aC),rfl,aR.of F,by omega,by simp[hl],λi v p c b=> ?_,λi j p U c b=> ?_,λl p G n g=> ?_⟩
   .rw[bW] at b
    cases f:ds[i]? with
    |none=>rw[f] at b;cases b
    |some d=>
     rw[f] at b
     cases b
     obtain⟨I,o,u⟩:=ak.get t f
     rw[c] at o
     cases o
     obtain⟨J,p2,L,M⟩:=hd d (dc f)
     exact⟨RV.dp _ _ J u,p2,L,M⟩
   .rw[bW] at c b
    cases f:ds[i]? with
    |none=>rw[f] at c;cases c
    |some d=>
     cases s:ds[j]? with
     |none=>rw[s] at b;cases b
     |some d'=>
      rw[f] at c
      rw[s] at b
      cases c
      cases b
      show ltQ (toQ d) (toQ d')=some (O.blt (key (ds.getD i .aC)) (key (ds.getD j .aC)))
      rw[gk,gk,f,s]
      exact E d (dc f) d' (dc s)
   .rw[<-hl] at n g
    have hz:=n.size
    have w:(p.toList.map λi=>ds.getD i .aC).Perm ds:=by
     have:=(Array.perm_iff_toList_perm.mp n).map λi=>ds.getD i D.aC
     rwa [Qn] at this
    refine lU k ra (ds:=p.toList.map λi=>ds.getD i .aC) ?_ (q _ w ?_) G
    .refine ak.of_get (by simp) λi d v c b=> ?_
     rw[bW] at c b
     cases ep:p.toList[i]? with
     |none=>rw[ep] at c;cases c
     |some m=>
      rw[ep] at c b
      have N:m<ds.length:=by
       have:=(Array.perm_iff_toList_perm.mp n).mem_iff.mp (dc ep)
       simpa using this
      have z:=br N
      obtain⟨I,o,u⟩:=ak.get t z
      have c:some (ds.getD m .aC)=some d:=c
      have b:some (xs.getD m .aC)=some v:=b
      rw[gk,z] at c
      rw[gk,o] at b
      cases c
      cases b
      exact u
    .rw[kZ,List.pairwise_iff_getElem]
     intro i j hi B y
     have:=g i j (jB y) (by simpa[hz] using B)
     unfold KO.kp at this
     have P:p.getD i 0=p.toList[i]:=by
      rw[mE,gj (by simpa using hi)]
      simp
     have S:p.getD j 0=p.toList[j]:=by
      rw[mE,gj (by simpa using B)]
      simp
     rw[P,S] at this
     exact this
  .exact h.elim
 .exact h.elim
theorem IL{A:Ar}{r:Nat}{ds:List D}{R:DK}(O:KeyOrd)(key:D->O.α)(h:A[r]?=some (.lst ds))(c:ds.length<64)(hd:∀d∈ds,f6 d=true/\(toQ d).canLay0=true/\(toQ d).depth<=60/\∃x r,toQ d=.tuple (.str x::r))
  (f:∀d∈ds,∀e∈ds,ltQ (toQ d) (toQ e)=some (O.blt (key d) (key e)))(k:∀es:List D,es.Perm ds->es.Pairwise (λa b=>O.kle (key a) (key b))->R (.ref A.length) (A++[.lst es])):wA r A R:=by
 unfold wA;simp only[h];exact⟨c,hd,O,key,f,k⟩
def pH(P Q:KeyOrd):KeyOrd where
 α:=P.α×Q.α
 blt a b:=P.blt a.1 b.1||(!P.blt b.1 a.1&&Q.blt a.2 b.2)
 irrefl a:=by simp[P.irrefl,Q.irrefl]
 trans a b c h1 h2:=by
  obtain⟨a1,a2⟩:=a
  obtain⟨b1,b2⟩:=b
  obtain⟨c1,c2⟩:=c
  simp only[or_eq_true,dP,sV] at h1 h2 ⊢
  rcases h1 with h1|⟨h1,k1⟩
  .refine .inl ?_
   rcases h2 with h2|⟨h2,_⟩
   .exact P.trans _ _ _ h1 h2
   .exact KeyOrd.klt_of_klt_of_kle h1 h2
  .rcases h2 with h2|⟨h2,k2⟩
   .exact .inl (KeyOrd.klt_of_kle_of_klt h1 h2)
   .exact .inr ⟨nO h1 h2,Q.trans _ _ _ k1 k2⟩
 negTrans a b c h:=by
  obtain⟨a1,a2⟩:=a
  obtain⟨b1,b2⟩:=b
  obtain⟨c1,c2⟩:=c
  simp only[or_eq_true,dP,sV] at h ⊢
  rcases h with h|⟨h,k⟩
  .rcases P.negTrans _ b1 _ h with h|h
   .exact .inl (.inl h)
   .exact .inr (.inl h)
  .cases e1:P.blt a1 b1 with
   |true=>exact .inl (.inl rfl)
   |false=>
    cases e2:P.blt b1 c1 with
    |true=>exact .inr (.inl rfl)
    |false=>
     have x1:P.blt b1 a1=false:=nO (O:=P) (a:=a1) (b:=c1) (c:=b1) h e2
     have x2:P.blt c1 b1=false:=nO (O:=P) (a:=b1) (b:=a1) (c:=c1) e1 h
     rcases Q.negTrans _ b2 _ k with k|k
     .exact .inl (.inr ⟨x1,k⟩)
     .exact .inr (.inr ⟨x2,k⟩)
 total a b h1 h2:=by
  obtain⟨a1,a2⟩:=a
  obtain⟨b1,b2⟩:=b
  simp only[Bool.or_eq_false_iff] at h1 h2
  have e:=P.total _ _ h1.1 h2.1
  subst e
  simp only[P.irrefl,Bool.not_false,wV,true_and] at h1 h2
  rw[Q.total _ _ h1 h2]
def uN:KeyOrd where
 α:=Int
 blt a b:=decide (a<b)
 irrefl a:=by simp
 trans a b c h1 h2:=by simp only[iH] at*;omega
 negTrans a b c h:=by simp only[iH] at*;omega
 total a b h1 h2:=by simp only[Bd] at*;omega
abbrev dF:KeyOrd:=strKind.toKeyOrd
theorem Aq{a b:Str}(h:a.cps.toList=b.cps.toList):a=b:=by
 cases a;cases b;simp at h;simpa using Array.toList_inj.mp (by simpa using h)
theorem Qh{a b:Str}{O:KeyOrd}{x y:O.α}{xs ys:List PyData}(h:eS xs ys=some (O.blt x y)):ltQ (.tuple (.str a::xs)) (.tuple (.str b::ys))=some ((pH dF O).blt (a.cps.toList,x) (b.cps.toList,y)):=by
 rw[ltQ,eS];cases c:PyData.eqv (.str a) (.str b) with
 |true=>
  have e:a=b:=by simpa[PyData.eqv] using c
  subst e;show eS xs ys=_;rw[h];show some (O.blt x y)=some (dF.blt a.cps.toList a.cps.toList||(!dF.blt a.cps.toList a.cps.toList&&O.blt x y));have d:dF.blt a.cps.toList a.cps.toList=false:=dF.irrefl _;rw[d];simp
 |false=>
  have e:a≠b:=by
   intro z;subst z;simp[PyData.eqv] at c
  show ltQ (.str a) (.str b)=some (dF.blt a.cps.toList b.cps.toList||(!dF.blt b.cps.toList a.cps.toList&&O.blt x y));rw[ltQ];show some (dF.blt a.cps.toList b.cps.toList)=_;cases f:dF.blt a.cps.toList b.cps.toList with
  |true=>rfl
  |false=>
   cases g:dF.blt b.cps.toList a.cps.toList with
   |true=>rfl
   |false=>exact absurd (Aq (dF.total _ _ f g)) e
theorem Qf{i j:Int}{O:KeyOrd}{x y:O.α}{xs ys:List PyData}(h:eS xs ys=some (O.blt x y)):eS (.int i::xs) (.int j::ys)=some ((pH uN O).blt (i,x) (j,y)):=by
 rw[eS];show _=some (decide (i<j)||(!decide (j<i)&&O.blt x y));cases c:PyData.eqv (.int i) (.int j) with
 |true=>
  have e:i=j:=by simpa[PyData.eqv] using c
  subst e;show eS xs ys=_;rw[h];simp
 |false=>
  have e:i≠j:=by simpa[PyData.eqv] using c
  show ltQ (.int i) (.int j)=_;rw[ltQ];by_cases a:i<j
  .simp[a]
  .have b:j<i:=by omega
   simp[a,b]
def sN:KeyOrd where
 α:=Unit
 blt _ _:=false
 irrefl _:=rfl
 trans _ _ _ h _:=by cases h
 negTrans _ _ _ h:=by cases h
 total _ _ _ _:=rfl
theorem Qg:eS [] []=some (sN.blt () ()):=rfl
section
variable{es:List Expr}{env:Env}{p:Pos}
theorem pK{c i}:starEach (.Constant c i p::es) env=(false,eval (.Constant c i p) env)::starEach es env:=rfl
end
section
variable{X:Cx}{N:En}{o:Expr}{mo:aM}{apos cpos:Pos}{f:h_}{r:V->List V->Hp->VK->Prop}{name:Str}{id:String}
def Lm(f:h_)(mo:aM):aM:=λτ A R=>mo τ A λx A1=>jT A1 x=true/\f x [] A1 R
theorem LR(i:PlainAttrs "list")(slot:Slot "list" name id)(c:typeOf (.builtin id)=pure (.type "method_descriptor"))(j:mJ X id r)(hd:jK X.mg X.K "list" r f)(l:PE X o (up X.mg N mo))
  (a:attributeBase o name X.env (eval o X.env)=eval o X.env:=by rfl)(b:(apos.endLine==cpos.line)=true:=by rfl):
  PE X (.Call (.Attribute o name apos) [] [] cpos) (up X.mg N (Lm f mo)):=d9 (Rv i slot c j l a b) λσ H Q q=>by
 obtain⟨A,ι,τ,R,S,q,k⟩:=q;refine⟨A,ι,τ,_,S,q,λx m d H1 u e n g h=>?_⟩;exact⟨g.jT e.1 h,hd x [] m d H1 u [] R Q g h rfl e.2 (k.from n)⟩
end
end DP
namespace L2
abbrev TJ:=St->Hp->Str->(Str->Hp->Prop)->Prop
def PJ(X:Cx)(es:List Expr)(t:TJ):Prop:=∀(pins:aS) (s:Shared) (σ:St) (H:Hp) (acc:Str) (Q:Str->Hp->Prop),Inv X pins σ H s->t σ H acc Q->
 Joins (model X.prog X.w) X.A X.xe (evalEach es X.env) acc (λout s'=>∃H',Inv X pins σ H' s'/\Q out H') s
def yU:V->Option Str
 |.str y=>some y
 |.int i=>if i.natAbs.log2<1920 then some (Str.ofString (toString i)) else none
 |_=>none
section
variable{X:Cx}{es:List Expr}{t:TJ}{te:TE}{e:Expr}{p pos:Pos}
theorem t_(x y:Str):(x++y).length=x.length+y.length:=mh
theorem Se:PJ X [] (λσ H acc Q=>Q acc H):=λpins s σ H acc Q I h=>⟨H,I,h⟩
theorem Sd{x:Str}{k:Nat}(h:PJ X es t):PJ X (.Constant (.str x) k p::es) (λσ H acc Q=>acc.length+x.length<=sizeLine/\t σ H (acc++x) Q):=λpins s σ H acc Q I q=>by
 show wpAny _ _ (eval (.Constant (.str x) k p) X.env) _ _ _;exact Calls.Constant_str ⟨x,_,rfl,by rw[t_];exact q.1,h pins _ σ H (acc++x) Q (I.tok _) q.2⟩
theorem Sf(g:PE X e te)(h:PJ X es t):PJ X (.FormattedValue e (-1) none p::es) (λσ H acc Q=>te σ H λv H1=>∃y,yU v=some y/\y.length<=sizeLine/\acc.length+y.length<=sizeLine/\t σ H1 (acc++y) Q):=λpins s σ H acc Q I q=>by
 show wpAny _ _ (eval (.FormattedValue e (-1) none p) X.env) _ _ _;refine wpAny_FormattedValue_plain (aK (g pins s σ H _ I q) λu k ⟨v,H1,b,d,y,a,j,hl,c⟩=>?_);cases v with
 |str z=>
  cases (show some z=some y from a);obtain⟨f,rfl⟩:=d;refine wpAny_formatField_str ?_ ?_ j
  .exact⟨_,f,rfl,by rw[t_];exact hl,h pins _ σ H1 _ Q b c⟩
  .exact⟨_,_,rfl,by rw[t_];exact hl,h pins _ σ H1 _ Q (b.tok _) c⟩
 |int i=>
  obtain⟨f,rfl⟩:=d;unfold yU at a;simp only at a;split at a
  .rename_i hi
   cases a;refine wpAny_formatField_int hi ?_;exact⟨_,_,rfl,by rw[t_];exact hl,h pins _ σ H1 _ Q ((b.tok _).tok _) c⟩
  .cases a
 |_=>cases a
theorem RO{c v2:Expr}{rest:List Expr}(h:PJ X (c::v2::rest) t):PE X (.JoinedStr (c::v2::rest) pos) (λσ H Q=>t σ H Str.empty λout H'=>out.length<=sizeLine/\Q (.str out) H'):=λpins s σ H Q I q=>by
 refine wpAny_JoinedStr (a (h pins s σ H _ _ I q) ?_);rintro out s' ⟨H',d,hl,f⟩;exact⟨hl,.str out,H',d.tok _,⟨_,rfl⟩,f⟩
where
 a {M:Model} {A:Around} {E:aQ}:∀{ps:List (Sem Value)} {acc:Str} {Q b:Str->Shared->Prop} {s:Shared},Joins M A E ps acc Q s->(∀o s',Q o s'->b o s')->Joins M A E ps acc b s
  |[],acc,Q,b,s,h,k=>k _ _ h
  |x::ps,acc,Q,b,s,h,k=>je h (λv g ⟨y,t,e,hl,r⟩=>⟨y,t,e,hl,a r k⟩) λ_ _ z=>z
end
end L2
namespace DP
open L2
abbrev lD:=bL->Ar->Str->(Str->Ar->Prop)->Prop
def pR(mg:au)(N:En)(m:lD):TJ:=λσ H acc Q=>∃A ι τ R,dM mg N A ι τ σ H/\m τ A acc R/\∀out A' ι' H',R out A'->Ext A ι H A' ι' H'->RA mg ι' H' A'->Q out H'
def mY:D->Option Str
 |.str y=>some y
 |.int i=>if i.natAbs.log2<1920 then some (Str.ofString (toString i)) else none
 |_=>none
def Lj:lD:=λ_ A acc R=>R acc A
def Li(x:Str)(m:lD):lD:=λτ A acc R=>acc.length+x.length<=sizeLine/\m τ A (acc++x) R
def Ll(me:aM)(m:lD):lD:=λτ A acc R=>me τ A λv A1=>match mY v with
 |some y=>y.length<=sizeLine/\acc.length+y.length<=sizeLine/\m τ A1 (acc++y) R
 |none=>False
def Lk(m:lD):aM:=λτ A R=>m τ A Str.empty λout A1=>out.length<=sizeLine/\R (.str out) A1
section
variable{X:Cx}{N:En}{es:List Expr}{m:lD}{me:aM}{e:Expr}{p pos:Pos}
theorem PJ.w{t t':TJ}(h:PJ X es t)(w:∀σ H acc Q,t' σ H acc Q->t σ H acc Q):PJ X es t':=λpins s σ H acc Q I q=>h pins s σ H acc Q I (w σ H acc Q q)
theorem L4:PJ X [] (pR X.mg N Lj):=PJ.w Se λσ H acc Q q=>by
 obtain⟨A,ι,τ,R,S,q,k⟩:=q;exact k acc A ι H q S.ra.refl S.ra
theorem Dt{x:Str}{k:Nat}(h:PJ X es (pR X.mg N m)):PJ X (.Constant (.str x) k p::es) (pR X.mg N (Li x m)):=PJ.w (Sd h) λσ H acc Q q=>by
 obtain⟨A,ι,τ,R,S,q,k⟩:=q;exact⟨q.1,A,ι,τ,R,S,q.2,k⟩
theorem L5(l:PE X e (up X.mg N me))(h:PJ X es (pR X.mg N m)):PJ X (.FormattedValue e (-1) none p::es) (pR X.mg N (Ll me m)):=PJ.w (Sf l h) λσ H acc Q q=>by
 obtain⟨A,ι,τ,R,S,q,k⟩:=q;refine⟨A,ι,τ,_,S,q,λv b c H1 u a g n j=>?_⟩;have ev:yU u=mY v\/mY v=none:=by
  cases v with
  |str y=>cases j;exact .inl rfl
  |int i=>cases j;exact .inl rfl
  |_=>exact .inr rfl
 rcases ev with ev|ev
 .cases d:mY v with
  |none=>
   have a:(match mY v with|some y=>y.length<=sizeLine/\acc.length+y.length<=sizeLine/\m τ b (acc++y) R|none=>False):=a;rw[d] at a;exact a.elim
  |some y=>
   have a:(match mY v with|some y=>y.length<=sizeLine/\acc.length+y.length<=sizeLine/\m τ b (acc++y) R|none=>False):=a;rw[d] at a;exact⟨y,ev.trans d,a.1,a.2.1,b,c,τ,R,S.next g n,a.2.2,λout o f H2 r s t=>k out o f H2 r (g.trans s) t⟩
 .have a:(match mY v with|some y=>y.length<=sizeLine/\acc.length+y.length<=sizeLine/\m τ b (acc++y) R|none=>False):=a
  rw[ev] at a;exact a.elim
theorem LQ{a v2:Expr}{rest:List Expr}(h:PJ X (a::v2::rest) (pR X.mg N m)):PE X (.JoinedStr (a::v2::rest) pos) (up X.mg N (Lk m)):=d9 (RO h) λσ H Q q=>by
 obtain⟨A,ι,τ,R,S,q,k⟩:=q;refine⟨A,ι,τ,_,S,q,λout f c H1 b d e=>⟨b.1,(k.from d).here e b.2 rfl⟩⟩
def GY(i:Nat)(m:aM):dh:=λR τ A=>match lk τ i with
 |some (.int a)=>m τ A λy A1=>match y with
  |.int b=>R.nx (τ.set i (some (.int (a+b)))) A1
  |_=>False
 |_=>False
theorem L7{i:Nat}{x:Str}{pos':Pos}(h:X.N.Nodup)(hi:X.N[i]?=some x)(j:Loc X.env.scope x)(l:PE X e (up X.mg N me))(m:X.fn x=true\/X.env.scope.names.lookup x=some .local:=by first|exact .inl rfl|exact .inr rfl|assumption):
  PS X (.AugAssign (.Name x pos') .Add e pos) (cQ X.mg N (GY i me)):=jt (Su h hi j l OZ m) λQ σ H q=>by
 obtain⟨A,ι,τ,R,S,q,k⟩:=q;unfold GY at q;cases c:lk τ i with
 |none=>rw[c] at q;exact q.elim
 |some d=>
  rw[c] at q;cases d with
  |int a=>
   obtain⟨v,h1,h2⟩:=S.rs.at' i _ c;cases h2;refine⟨.int a,h1,A,ι,τ,_,S,q,λy r n H1 u f g o p=>?_⟩;cases y with
   |int b=>
    cases p;exact⟨a,b,rfl,rfl,(k.nx.from g).here ((S.next g o).set (d:=.int (a+b)) (v:=.int (a+b)) rfl) f⟩
   |_=>exact f.elim
  |_=>exact q.elim
end
end DP
namespace L2
theorem boot_reversed:bootBuiltins "reversed"=some (.type "reversed"):=by decide+kernel
def xK(K:Frag)(a:Addr)(n:Nat):It:=
 ⟨λi H=>∃xs,aR K H a xs/\xs.length=n/\i<n,λi H x H'=>H'=H/\∀xs,aR K H a xs->xs[n - 1 - i]?=some x,λi H=>n<=i⟩
theorem VL{P:Program}{w:World}{K:Frag}{tg:Expr}(a it:Addr)(n:Nat):Turn P w K tg (xK K a n) [it] it (λi h=>PySem.Heap.IsRevIter h it a ((n:Int) - 1 - i)/\i<=n) where
 mem:=by simp
 obj:=λi h st b g=>by
  have e:b=it:=by simpa using g
  subst e
  obtain⟨⟨o,e,c,d⟩,_⟩:=st
  exact⟨o,e,λv z=>by rw[d] at z;cases z⟩
 keep:=λi h h' st k=>⟨st.1.at λo e=>k it (by simp) o e,st.2⟩
 item:=by
  intro X q r t hc i pins s σ H E I l st m
  subst q r t
  obtain⟨xs,C,S,hi⟩:=m
  obtain⟨its,F,p,hz⟩:=I.list C
  have D:xs[n - 1 - i]? =some (xs[n - 1 - i]'(by omega)):=br (by omega)
  obtain⟨u,G,J⟩:=F.get D
  obtain⟨f0,f1,f2,y,f4,A⟩:=l it (by simp)
  have B:(n:Int) - 1 - i=((n - 1 - i:Nat):Int):=by omega
  have f:=st.1
  rw[B] at f
  refine PySem.wpAny_pyNext_rev_item f p.isList (x:=u) (by simpa using G) λh' j L=> ?_
  have M:Inv X pins σ H {s with heap:=h'}:=I.turned (t':=s.toks) (λb o g e=>(L.2 b g).trans e) f0 f1 y f4 A
  obtain⟨o,e,c,d⟩:=id j
  refine⟨u,rfl,qX (s:={s with heap:=h'}) e c d (by decide) ⟨_,H,M,J,⟨rfl,λys N=>by rw[I.zC N C];exact D⟩,⟨?_,by omega⟩,λb g=>(l b g).1⟩⟩
  have O:(n:Int) - 1 - ((i+1:Nat):Int)=((n - 1 - i:Nat):Int) - 1:=by omega
  rw[O]
  exact j
 done:=by
  intro X q r t hc i pins s σ H E I l st m
  subst q r t
  have m:n<=i:=m
  obtain⟨f0,f1,f2,y,f4,A⟩:=l it (by simp)
  obtain⟨f,Q⟩:=st
  have B:(n:Int) - 1 - i= -1:=by omega
  rw[B] at f
  exact PySem.wpAny_pyNext_rev_end (I.ok.hd hc) f λh' R=>⟨rfl,I.turned (t':=s.toks) (λb o g e=>R b o g e) f0 f1 y f4 A⟩
 self:=λ_ _ _ _ _ st h=>PySem.wpAny_pyIter_revIter st.1 h
section
variable{X:Cx}
def ON(K:Frag)(ta:TA):TI:=λσ H R=>ta σ H λvs H1=>∃a xs,vs=[.ref a]/\aR K H1 a xs/\R (xK K a xs.length) H1
theorem R9{tg l:Expr}{ta:TA}{p pos:Pos}(f:Gl X "reversed")(g:X.mg "reversed"=none)(i:PA X [l] ta)(j:starEach [l] X.env=[(false,eval l X.env)]:=by rfl):
  PI X tg (.Call (.Name "reversed" p) [l] [] pos) (ON X.K ta):=by
 intro pins s σ H R I h;refine Call_ (jV I f g boot_reversed (nG (aK (i pos pins s σ H _ I h) λw c ⟨vs,H1,d,k,m⟩=>?_) j rfl));obtain⟨a,xs,e,n,q⟩:=m;subst e;obtain⟨u,rfl,r⟩:=vals1 k;cases r;obtain⟨its,t,pl,hz⟩:=d.list n;have hl:=t.length;refine PySem.call_reversed_list pl.isList ?_;have st:PySem.Heap.IsRevIter (c.heap.push (PySem.revObj a ((its.toArray.size:Int) - 1))) c.heap.objs.size a ((xs.length:Int) - 1 - (0:Nat)):=by
  refine⟨_,cA _ rfl,rfl,?_⟩;have e:((its.toArray.size:Int) - 1)=((xs.length:Int) - 1 - (0:Nat)):=by simp;omega
  rw[<-e];rfl
 refine PySem.wpAny_pyIter_revIter st ⟨c.heap.objs.size,[c.heap.objs.size],_,_,H1,rfl,d.kept (t':=c.toks) λb o e=>bw _ e,VL a _ _,⟨st,bG _⟩,λb v=>?_,q⟩;have e:b=c.heap.objs.size:=by simpa using v
 subst e;exact d.lM (aF _) (d.hok.fresh (aF _))
end
end L2
namespace DP
open L2
section
variable{mg:au}{K:Frag}{A:Ar}{ι:Io}{H:Hp}
def iu(ds:List D):List D:=ds.zipIdx.map λp=>D.tup [.int ((p.2:Nat):Int),p.1]
theorem Mj{ds:List D}{i:Nat}{d:D}(h:(iu ds)[i]?=some d):∃x,ds[i]?=some x/\d=.tup [.int ((i:Nat):Int),x]:=by
 unfold iu at h;rw[bW,AY] at h;cases e:ds[i]? with
 |none=>rw[e] at h;cases h
 |some x=>
  rw[e] at h;simp at h;exact⟨x,rfl,h.symm⟩
theorem Pe{q:Nat}{ds:List D}(f:q<A.length):ko mg A ι H (xF K (ι q)) (iu ds) (λA'=>A'[q]?=some (.lst ds)) where
 go:=λi d c a H1 hd e r hc=>by
  obtain⟨xs,h1,h2⟩:=r.lst hc;rw[e.ag q f] at h1;obtain⟨x,j,rfl⟩:=Mj hd;obtain⟨v,g,k⟩:=ak.get h2 j;refine⟨⟨xs,v,aR.of h1,g⟩,λy H' z=>?_⟩;obtain⟨p,m,h,rfl,rfl,l⟩:=z;have:=l xs (aR.of h1);rw[g] at this;cases this;have E:Ext c a H1 c a (upd H1 p (.tup [.int (i:Nat),v])):=r.uF h;exact⟨E,r.fix E λb o z=>by rw[aW (dB z h)];exact z,p,[.int (i:Nat),v],rfl,eT,_,_,rfl,rfl,_,_,rfl,RV.ext E _ _ k,rfl⟩
 stop:=λc a H1 e r hc=>by
  obtain⟨xs,h1,h2⟩:=r.lst hc;rw[e.ag q f] at h1;exact⟨xs,aR.of h1,by rw[<-ak.length h2];simp[iu]⟩
theorem Pk{q:Nat}{ds:List D}{n:Nat}(b:n=ds.length)(c:q<A.length):ko mg A ι H (xK K (ι q) n) ds.reverse (λA'=>A'[q]?=some (.lst ds)) where
 go:=λi d f a H1 hd e r hc=>by
  obtain⟨xs,h1,h2⟩:=r.lst hc;rw[e.ag q c] at h1;have hl:=ak.length h2;have hi:=(b8.mp hd).1;rw[A_] at hi;rw[List.getElem?_reverse hi] at hd;obtain⟨v,g,h⟩:=ak.get h2 hd;refine⟨⟨xs,aR.of h1,by omega,by omega⟩,λx H' y=>?_⟩;obtain⟨rfl,y⟩:=y;have:=y xs (aR.of h1);rw[b,g] at this;cases this;exact⟨r.refl,r,h⟩
 stop:=λf a H1 e r hc=>by
  show n<=ds.reverse.length;rw[A_];omega
end
@[irreducible] def lR(f:List D->List D)(r:Nat)(A:Ar)(R:List D->(Ar->Prop)->Ar->Prop):Prop:=match A[r]? with
 |some (.lst ds)=>R (f ds) (λA'=>A'[r]?=some (.lst ds)) A
 |_=>False
theorem zp{f:List D->List D}{r:Nat}{A:Ar}{ds:List D}{R:List D->(Ar->Prop)->Ar->Prop}(h:A[r]?=some (.lst ds))(k:R (f ds) (λA'=>A'[r]?=some (.lst ds)) A):lR f r A R:=by
 unfold lR;rw[h];exact k
def OI(n:dj):iW:=λτ A R=>n τ A λvs A1=>match vs with
 |[.ref r]=>lR iu r A1 R
 |_=>False
def OP(n:dj):iW:=λτ A R=>n τ A λvs A1=>match vs with
 |[.ref r]=>lR List.reverse r A1 R
 |_=>False
section
variable{X:Cx}{N:En}{tg l:Expr}{n:dj}{p pos:Pos}
theorem Dq{elts:List Expr}{k:Nat}{tpos:Pos}(g:X.mg "enumerate"=none)(h:PA X [l] (fJ X.mg N n))(i:Gl X "enumerate":=by rfl)(j:starEach [l] X.env=[(false,eval l X.env)]:=by rfl):PI X (.Tuple elts k tpos) (.Call (.Name "enumerate" p) [l] [] pos) (jA X.mg N (OI n)):=oN (R6 i g h boot_enumerate j) λσ H Q q=>by
 obtain⟨A,ι,τ,R,S,q,k⟩:=q;refine⟨A,ι,τ,_,S,q,λvs d b H1 s a m f c=>?_⟩;match vs,a,c with
 |[.ref r],a,c=>
  obtain⟨_,_,rfl,⟨o,rfl⟩,rfl⟩:=c;have a:lR iu r d R:=a;unfold lR at a;split at a
  .rename_i ds e
   obtain⟨xs,h1,h2⟩:=f.lst e;exact⟨_,xs,rfl,aR.of h1,k _ _ d b H1 _ a m f (Pe o)⟩
  .exact a.elim
theorem L0(g:X.mg "reversed"=none)(h:PA X [l] (fJ X.mg N n))(i:Gl X "reversed":=by rfl)(j:starEach [l] X.env=[(false,eval l X.env)]:=by rfl):PI X tg (.Call (.Name "reversed" p) [l] [] pos) (jA X.mg N (OP n)):=oN (R9 i g h j) λσ H Q q=>by
 obtain⟨A,ι,τ,R,S,q,k⟩:=q;refine⟨A,ι,τ,_,S,q,λvs d b H1 s a m f c=>?_⟩;match vs,a,c with
 |[.ref r],a,c=>
  obtain⟨_,_,rfl,⟨o,rfl⟩,rfl⟩:=c;have a:lR List.reverse r d R:=a;unfold lR at a;split at a
  .rename_i ds e
   obtain⟨xs,h1,h2⟩:=f.lst e;exact⟨_,xs,rfl,aR.of h1,k _ _ d b H1 _ a m f (Pk (ak.length h2).symm o)⟩
  .exact a.elim
end
end DP
namespace L2
section
variable{X:Cx}
def GG:V->List V->Hp->VK->Prop:=λx vs H Q=>∃d o kvs more,x=.ref d/\vs=[.ref o]/\d≠o/\H d=some (.dK kvs)/\H o=some (.dK more)/\kvs.length+more.length<=1000/\Q .aC (upd H d (.dK (jW kvs more)))
theorem Fp:oq X "dict.update" GG:=by
 intro pins s σ H x vs v y Q I i j h;obtain⟨d,o,kvs,a,rfl,rfl,b,hd,k,hz,q⟩:=h;cases i;obtain⟨u,rfl,l⟩:=j.one;cases l;obtain⟨z,m,c,k1,dd⟩:=uw I.hok hd;obtain⟨A,n,e,k2,f⟩:=uw I.hok k;have g:(1000:Nat)<=sizeLine:=by decide
 have l1:=k1.length;have l2:=k2.length;have lm:=zz a kvs;refine call_meetsIn slot_dict_update (dd.typeIs) PySem.F.entry_dict_update (PySem.F.args_dict_update_2 _ _) (PySem.meets_dict_update (cP X.prog X.w) d o b n) ?_;refine⟨c,e,dd,f,by omega,λh' h1 h2 p=>?_⟩;have r:∃q,h'.get? d=some q:=let ⟨q,_,_,t,_⟩:=h1;⟨q,t⟩;exact⟨.aC,_,uo I (by rw[hd];exact True.intro) p r (yH (by omega) m (k2.merge k1) h1),rfl,q⟩
theorem CmpOf.U1{prog:Program}{w:World}{A:Around}{P:Nat->Value->Prop}(val:Nat->Str)(a:∀i v,P i v->∃t,v=.str (val i) t):
  CmpOf prog w A .Lt P (λi j=>decide ((val i).cps.toList<(val j).cps.toList)):=λi j b c s Q E hi d h=>by
 obtain⟨t,rfl⟩:=a i b hi;obtain⟨u,rfl⟩:=a j c d;exact PySem.P.lt_str h
theorem Cq(val:Nat->Str):∀k,argBest (λi j=>decide ((val i).cps.toList<(val j).cps.toList)) k<=k/\∀j,j<=k->¬(val j).cps.toList<(val (argBest (λi j=>decide ((val i).cps.toList<(val j).cps.toList)) k)).cps.toList
 |0=>⟨aF _,λj c=>by
  have:j=0:=by omega
  subst this;exact kh _⟩
 |k+1=>by
  obtain⟨h1,h2⟩:=Cq val k;have e:argBest (λi j=>decide ((val i).cps.toList<(val j).cps.toList)) (k+1)=if decide ((val (k+1)).cps.toList<(val (argBest (λi j=>decide ((val i).cps.toList<(val j).cps.toList)) k)).cps.toList)=true then k+1 else argBest (λi j=>decide ((val i).cps.toList<(val j).cps.toList)) k:=rfl
  rw[e];split
  .rename_i h
   rw[iH] at h;refine⟨aF _,λj c a=>?_⟩;by_cases b:j=k+1
   .subst b
    exact kh _ a
   .exact h2 j (by omega) (xu a h)
  .rename_i h
   rw[iH] at h;refine⟨by omega,λj c=>?_⟩;by_cases b:j=k+1
   .subst b
    exact h
   .exact h2 j (by omega)
theorem KI(hc:X.calm=true):eF X (.builtin "min") (λxs H Q=>∃(d:Addr) (kvs:List (Key×V)) (ns:List Str),xs=[.ref d]/\Rd H d (.dK kvs)/\kvs.map (·.1)=ns.map Sum.inr/\ns≠[]/\∀m∈ns,(∀n∈ns,¬n.cps.toList<m.cps.toList)->Q (.str m) H):=by
 intro pins s σ H xs S Q I r h;obtain⟨d,kvs,ns,rfl,hd,C,p,q⟩:=h;obtain⟨u,rfl,E⟩:=vals1 r;cases E;have D:=wR.mpr p;obtain⟨hz,F,vs,rel,dd⟩:=mV I.hok hd;obtain⟨ep,a⟩:=dd.dictAt;have f:kvs.length=ns.length:=by
  have:=cS List.length C;simpa using this
 have G:vs.length=ns.length:=by rw[<-rel.length,f]
 have g:d<s.heap.objs.size:=by obtain⟨o,_,y,_⟩:=a;exact aT y
 have keys:∀i v,(∃k x,vs[i]?=some (k,x)/\(cP X.prog X.w).is k v=true)->∃t:Tok,v=.str (ns.getD i default) t:=λi v ⟨k,x,h1,h2⟩=>by
  have J:=rel.keys;have c:(vs.map (·.1))[i]?=some k:=by rw[bW,h1];rfl
  rw[<-J,C,bW] at c;cases e:ns[i]? with
  |none=>rw[e] at c;cases c
  |some n=>
   rw[e] at c;have c:k=Sum.inr n:=(Option.some.inj c).symm;subst c;rcases ja (show kM (Sum.inr n) v=true from h2) with⟨_,_,z,_⟩|⟨T,t,z,K⟩
   .cases z
   .cases z
    refine⟨t,?_⟩;rw[gk,e];exact K
 refine call_min_walk ?_;refine wpAny_pyIter_dict (knd:=cP X.prog X.w) F a ⟨s.heap.objs.size,_,_,_,_,_,_,rfl,Walks.dictKeys (knd:=cP X.prog X.w) (A:=X.A.in1) (I.ok.hd hc) s.heap.objs.size d (bE g) vs ep,⟨⟨_,cA _ rfl,rfl,rfl⟩,?_⟩,λb hb=>?_,by omega,CmpOf.U1 (λi=>ns.getD i default) keys,λv h' U L B=>?_⟩
 .obtain⟨o,es,y,r⟩:=a
  exact⟨o,es,bw _ y,r⟩
 .show b<(s.heap.push _).objs.size
  rw[size_push'];rcases aY.mp hb with e|hb
  .rw[e];exact lY _
  .rw[bM.mp hb];exact gX g
 .obtain⟨t,rfl⟩:=keys _ v L
  obtain⟨W,M⟩:=Cq (λi=>ns.getD i default) (vs.length - 1);have hi:argBest (λi j=>decide ((ns.getD i default).cps.toList<(ns.getD j default).cps.toList)) (vs.length - 1)<ns.length:=by omega
  have l:ns.getD (argBest (λi j=>decide ((ns.getD i default).cps.toList<(ns.getD j default).cps.toList)) (vs.length - 1)) default∈ns:=by
   rw[gk,br hi];exact lz hi
  have N:=q _ l λn O=>by
   obtain⟨j,P,e⟩:=qi O;have:=M j (by omega);rw[gk,br P] at this;rw[<-e];exact this
  exact⟨.str _,H,I.kept λb o e=>B b o (λz=>by
   have R:b=s.heap.objs.size:=by simpa using z
   exact absurd (aT e) (by rw[R];exact fS _)) (bw _ e),⟨_,rfl⟩,N⟩
end
end L2
namespace DP
open L2
def Lf(mk mv:aM):aM:=λτ A R=>mk τ A λk A1=>mv τ A1 λv A2=>match fM k with
 |some ky=>R (.ref A2.length) (A2++[.dct [(ky,v)]])
 |none=>False
theorem LN{X:Cx}{N:En}{pos:Pos}{k v:Expr}{mk F:aM}(P:PE X k (up X.mg N mk))(T:PE X v (up X.mg N F)):PE X (.Dict [some k] [v] pos) (up X.mg N (Lf mk F)):=
 d9 (RH (Sn P T So) rfl rfl (by simp) (show 1<=15 by decide)) λσ H Q q=>by
  obtain⟨A,ι,τ,R,S,q,U⟩:=q;intro p n;have G:=S.ra.uF (o:=.dK []) n;have I:dM X.mg N A ι τ σ (upd H p (.dK [])):=S.next G (S.ra.fix G λb o z=>by rw[aW (dB z n)];exact z);have off:∀r,r<A.length->ι r≠p:=λr g z=>by
   obtain⟨o,h1,_⟩:=S.ra.im r g;rw[z,n] at h1;cases h1
  refine⟨A,ι,τ,_,I,q,λJ V B H1 x W K Y Z=>?_⟩;refine⟨V,B,τ,_,I.next K Y,W,λw a i H2 y t e2 L v2=>?_⟩;have d:=K.trans e2;have M:H2 p=some (.dK []):=d.mo p _ eT off;have f:∀r,r<a.length->i r≠p:=λr g z=>by
   by_cases hl:r<A.length
   .rw[d.ag r hl] at z;exact off r hl z
   .have:=d.nw r (by omega) g
    rw[z,eT] at this;cases this
  have t:(match fM J with|some l=>R (.ref a.length) (a++[.dct [(l,w)]])|none=>False):=t;cases D:fM J with
  |none=>rw[D] at t;exact t.elim
  |some l=>
  rw[D] at t;have ex:x=kV l:=m6 D Z;subst ex;refine⟨M,[(l,y)],rfl,show 1<=15 by decide,?_⟩;have em:jW [] [(l,y)]=[(l,y)]:=rfl;rw[em];obtain⟨j,e,at2⟩:∃j:Io,(∀r,r<a.length->j r=i r)/\j a.length=p:=⟨λr=>if r=a.length then p else i r,λr h=>by
   show(if r=a.length then p else i r)=i r;rw[ay (by omega)],by
   show(if a.length=a.length then p else i a.length)=p;rw[av rfl]⟩
  have O:∀b o,jc o=false->H2 b=some o->upd H2 p (.dK [(l,y)]) b=some o:=λb o m z=>by
   rw[aW]
   .exact z
   .rintro rfl
    rw[M] at z;cases z;cases m
  refine U (.ref a.length) (a++[.dct [(l,w)]]) j _ _ t ⟨?_,λr h=>?_,S.ra.im,λb o h hn=>?_,λr h1 h2=>?_,λb o h=>?_⟩ ⟨λr c h=>?_,λr s g hs h=>?_⟩ ⟨by simp,by rw[at2]⟩
  .have:=d.len;simp;omega
  .rw[e r (cJ h d.len)];exact d.ag r h
  .have u:b≠p:=dB h n
   rw[aW u];exact d.mo b o (by rw[aW u];exact h) hn
  .by_cases g:r<a.length
   .rw[e r g]
    have:=d.nw r h1 g;rw[aW (f r g)] at this;exact this
   .have:r=a.length:=by simp at h2;omega
    subst this;rw[at2];exact n
  .have u:b≠p:=dB h n
   obtain⟨o',h'⟩:=d.al b o (by rw[aW u];exact h);exact⟨o',by rw[aW u];exact h'⟩
  .by_cases g:r<a.length
   .rw[iI g] at h
    have:=CO.ag (n':=(a++[C.dct [(l,w)]]).length) (ι':=j) (H':=upd H2 p (.dK [(l,y)])) (by simp) e O (λo z=>by rw[aW (f r g)];exact z) c (L.ia r c h);rw[e r g];exact this
   .have E:r=a.length:=by
     have:=(b8.mp h).1;simp at this;omega
    subst E;simp at h;subst h;rw[at2];exact⟨_,eT,y,[],rfl,RV.ag (by simp) e O w y v2,rfl⟩
  .simp at g hs
   by_cases h1:r=a.length
   .by_cases h2:s=a.length
    .rw[h1,h2]
    .subst h1
     rw[at2,e s (by omega)] at h;exact absurd h.symm (f s (by omega))
   .by_cases h2:s=a.length
    .subst h2
     rw[at2,e r (by omega)] at h;exact absurd h (f r (by omega))
    .rw[e r (by omega),e s (by omega)] at h
     exact L.inj r s (by omega) (by omega) h
def uR(A:Ar):D->Bool
 |.ref r=>match A[r]? with
  |some (.dct _)=>true
  |_=>false
 |_=>false
def CW(f:h_)(mo:aM)(m:dj):aM:=λτ A R=>mo τ A λx A1=>uR A1 x=true/\m τ A1 λvs A2=>f x vs A2 R
theorem EF{A:Ar}{r:Nat}{kvs:List (Key×D)}(h:A[r]?=some (.dct kvs)):uR A (.ref r)=true:=by unfold uR;simp only[h]
section
variable{X:Cx}{N:En}{e o:Expr}{es:List Expr}{mo:aM}{m:dj}{apos cpos:Pos}{f:h_}{r:V->List V->Hp->VK->Prop}{name:Str}{id:String}
theorem C_(w:PlainAttrs "dict")(slot:Slot "dict" name id)(h:typeOf (.builtin id)=pure (.type "method_descriptor"))(y:mJ X id r)(hd:jK X.mg X.K "dict" r f)(z:PE X o (up X.mg N mo))(B:PA X (e::es) (fJ X.mg N m))
  (b:attributeBase o name X.env (eval o X.env)=eval o X.env:=by rfl)
  (d:((backTo cpos (starEach (e::es) X.env)).all (λx=> !x.1)&&(backToKw cpos (keywordEach [] X.env)).all (λx=>x.1.isSome)
   &&decide ((e::es).length+([]:List Keyword).length+(if ([]:List Keyword).isEmpty then 0 else 1)<30))=true:=by rfl)
  (c:(apos.endLine==cpos.line)=true:=by rfl)(C:starEach (e::es) X.env=(false,eval e X.env)::starEach es X.env:=by rfl)(a:(backTo cpos (starEach es X.env)).any (·.1)=false:=by rfl):
  PE X (.Call (.Attribute o name apos) (e::es) [] cpos) (up X.mg N (CW f mo m)):=d9 (F4 w slot h y z B b d c C a) λσ H Q q=>by
 obtain⟨A,ι,τ,R,S,q,k⟩:=q
 refine⟨A,ι,τ,_,S,q,λx D i H1 u j p s t=> ?_⟩
 obtain⟨g,j⟩:=j
 refine⟨?_,D,i,τ,_,S.next p s,j,λys E l H2 n F v G v2=> ?_⟩
 .cases x with
  |ref q=>
   obtain⟨_,rfl⟩:=t
   unfold uR at g
   simp only at g
   split at g
   .rename_i kvs I
    obtain⟨n,h1,_⟩:=s.dct I
    exact .inr (.inr (.inl ⟨rfl,.inl ⟨n,h1⟩⟩))
   .cases g
  |_=>cases g
 .exact hd x ys E l H2 _ n R Q G (RV.ext v x u t) v2 F (k.from (p.trans v))
end
def jX(kvs more:List (Key×D)):List (Key×D):=more.foldl (λacc p=>cy acc p.1 p.2) kvs
@[irreducible] def wN(r q:Nat)(A:Ar)(R:DK):Prop:=match A[r]?,A[q]? with
 |some (.dct kvs),some (.dct more)=>r≠q/\kvs.length+more.length<=1000/\R .aC (A.set r (.dct (jX kvs more)))
 |_,_=>False
theorem Jg{A:Ar}{r q:Nat}{kvs a:List (Key×D)}{R:DK}(h1:A[r]?=some (.dct kvs))(h2:A[q]?=some (.dct a))(b:r≠q)(hz:kvs.length+a.length<=1000)(k:R .aC (A.set r (.dct (jX kvs a)))):wN r q A R:=by
 unfold wN;simp only[h1,h2];exact⟨b,hz,k⟩
def AI:h_:=λx vs A R=>match x,vs with
 |.ref r,[.ref q]=>wN r q A R
 |_,_=>False
theorem C7{mg:au}{K:Frag}:jK mg K "dict" GG AI:=by
 intro x ds A ι H u s R Q ra j rs h k;unfold AI at h;split at h
 .rename_i r q
  obtain⟨e,rfl⟩:=j;obtain⟨_,_,rfl,⟨l,rfl⟩,rfl⟩:=rs;unfold wN at h;split at h
  .rename_i kvs a f m
   obtain⟨b,hz,h⟩:=h;obtain⟨xs,h1,g⟩:=ra.dct f;obtain⟨ys,h2,i⟩:=ra.dct m;have l1:=RK.length g;have l2:=RK.length i;refine⟨_,_,xs,ys,rfl,rfl,λz=>b (ra.inj r q e l z),h1,h2,by omega,?_⟩;have E:=ra.mX (o:=.dK (jW xs ys)) (c:=.dct (jX kvs a)) e;have n:RK mg ι A.length H (jX kvs a) (jW xs ys):=RK.fold i g;obtain⟨d,p⟩:=ra.put (c':=.dct (jX kvs a)) (o:=.dK (jW xs ys)) f h1 rfl ⟨_,eT,by simpa using RK.ext E _ _ n⟩;exact k _ _ ι _ _ h p d rfl
  .exact h.elim
 .exact h.elim
@[irreducible] def u_(r:Nat)(A:Ar)(R:DK):Prop:=∃(kvs:List (Key×D)) (ns:List Str),(A[r]?=some (.dct kvs)\/∃o,A[r]?=some (.bC o kvs))/\kvs.map (·.1)=ns.map Sum.inr/\ns≠[]/\∀m∈ns,(∀n∈ns,¬n.cps.toList<m.cps.toList)->R (.str m) A
def Fi:g_:=λvs A R=>match vs with
 |[.ref r]=>u_ r A R
 |_=>False
theorem Qo{A:Ar}{r:Nat}{kvs:List (Key×D)}{ns:List Str}{R:DK}(h:A[r]?=some (.dct kvs)\/∃o,A[r]?=some (.bC o kvs))(b:kvs.map (·.1)=ns.map Sum.inr)(a:ns≠[])(k:∀m∈ns,(∀n∈ns,¬n.cps.toList<m.cps.toList)->R (.str m) A):u_ r A R:=by
 unfold u_;exact⟨kvs,ns,h,b,a,k⟩
theorem LC{mg:au}:iJ mg (λxs H Q=>∃(d:Addr) (kvs:List (Key×V)) (ns:List Str),xs=[.ref d]/\Rd H d (.dK kvs)/\kvs.map (·.1)=ns.map Sum.inr/\ns≠[]/\∀m∈ns,(∀n∈ns,¬n.cps.toList<m.cps.toList)->Q (.str m) H) Fi:=by
 intro ds A ι H i R Q ra rs h k;unfold Fi at h;split at h
 .obtain⟨_,_,rfl,⟨_,rfl⟩,rfl⟩:=rs
  unfold u_ at h;obtain⟨kvs,ns,h1,h2,f,g⟩:=h;rcases h1 with h1|⟨o,h1⟩
  .obtain⟨xs,b,c⟩:=ra.dct h1
   exact⟨_,xs,ns,rfl,.inl b,by rw[RK.oU c];exact h2,f,λm e a=>k.here ra (g m e a) rfl⟩
  .obtain⟨xs,b,c⟩:=ra.bC h1
   exact⟨_,xs,ns,rfl,.inr ⟨o,b⟩,by rw[RK.oU c];exact h2,f,λm e a=>k.here ra (g m e a) rfl⟩
 .exact h.elim
@[irreducible] def uO(neg:Bool)(x:D)(r:Nat)(A:Ar)(R:DK):Prop:=∃(kvs:List (Key×D)) (k:Key),(A[r]?=some (.dct kvs)\/∃o,A[r]?=some (.bC o kvs))/\fM x=some k/\R (.bl (if neg then !(bf kvs k).isSome else (bf kvs k).isSome)) A
def uM(neg:Bool):eG:=λx y A R=>match y with
 |.ref r=>uO neg x r A R
 |_=>False
theorem EC{neg:Bool}{x:D}{r:Nat}{A:Ar}{R:DK}{kvs:List (Key×D)}{k:Key}(h:A[r]?=some (.dct kvs)\/∃o,A[r]?=some (.bC o kvs))(a:fM x=some k)(q:R (.bl (if neg then !(bf kvs k).isSome else (bf kvs k).isSome)) A):uO neg x r A R:=by
 unfold uO;exact⟨kvs,k,h,a,q⟩
theorem C1{mg:au}(neg:Bool):d8 mg (sr neg) (uM neg):=by
 intro x y A ι H u v R Q ra g i h k;unfold uM at h;split at h
 .rename_i f
  obtain⟨_,rfl⟩:=i;unfold uO at h;obtain⟨kvs,b,h1,j,h2⟩:=h;have ex:=m6 j g;subst ex;have fin:∀a,RK mg ι A.length H kvs a->Rd H (ι f) (.dK a)->sr neg (kV b) (.ref (ι f)) H Q:=λa c l=>by
   obtain⟨m,n⟩:=RK.get (k:=b) c;refine⟨_,eZ a b,rfl,.inl ⟨a,b,l,rfl,rfl⟩,?_⟩;have p:(eZ a b).isSome=(bf kvs b).isSome:=by
    cases q:bf kvs b with
    |none=>rw[n q];rfl
    |some d=>obtain⟨z,hz,_⟩:=m d q;rw[hz];rfl
   rw[p];exact k.here ra h2 rfl
  rcases h1 with h1|⟨o,h1⟩
  .obtain⟨a,e,c⟩:=ra.dct h1
   exact fin a c (.inl e)
  .obtain⟨a,e,c⟩:=ra.bC h1
   exact fin a c (.inr ⟨o,e⟩)
 .exact h.elim
section
variable{X:Cx}{N:En}{pos:Pos}{a b:Expr}{ma mb:aM}
theorem Mh(c:X.A.units+64<cLine)(d:PE X a (up X.mg N ma))(e:PE X b (up X.mg N mb))(f:behindInMarks .In b=false:=by rfl):PE X (.Compare a [.In] [b] pos) (up X.mg N (cE (uM false) ma mb)):=qH (zR c) (C1 false) d e f
theorem Vw(c:X.A.units+64<cLine)(d:PE X a (up X.mg N ma))(e:PE X b (up X.mg N mb))(f:behindInMarks .In b=false:=by rfl):PT X (.Compare a [.In] [b] pos) (cW X.mg N (gM (cE (uM false) ma mb))):=kG (zR c) (C1 false) d e f
end
def CV(m:aM):aM:=λτ A R=>(∃r kvs,A[r]?=some (.dct kvs)/\∀o,m τ (A.set r (.bC o kvs)) λx A2=>I9 r o A2 (R x))\/m τ A R
def Tt(m:dh):dh:=λR τ A=>(∃r kvs,A[r]?=some (.dct kvs)/\∀o,m {nx:=λbS A2=>I9 r o A2 (R.nx bS),rt:=λ_ _=>False} τ (A.set r (.bC o kvs)))\/m R τ A
section
variable{X:Cx}{N:En}{e:Expr}{m:aM}
theorem uu(g:PE X e (up X.mg N m)):PE X e (up X.mg N (CV m)):=by
 intro pins s σ H Q I q;obtain⟨A,ι,τ,R,S,q,k⟩:=q;rcases q with⟨r,kvs,a,q⟩|q
 .obtain⟨xs,h1,h2⟩:=S.ra.dct a
  have hl:=(b8.mp a).1;obtain⟨n,o,p⟩:=I.fz h1;obtain⟨t,w⟩:=D5 (o:=o) S a h1 h2;refine aK (g pins s σ _ (λu H'=>∃xs,H' (ι r)=some (.bK o (.dK xs))/\Q u (upd H' (ι r) (.dK xs))) p ⟨_,ι,τ,_,t,q o,λv A' ι' H' u b h x v2=>?_⟩) λv s' ⟨u,H',y,z,B,h',C⟩=>⟨u,_,y.Jc h' n,z,C⟩;obtain⟨i,c,b⟩:=b;have D:ι' r=ι r:=h.ag r (by simpa using hl);obtain⟨d,j,l,f⟩:=D4 x c;rw[D] at j l f;exact⟨d,j,k v _ ι' _ u b ((w.trans h).trans f) l (RV.ext f v u v2)⟩
 .exact g pins s σ H Q I ⟨A,ι,τ,R,S,q,k⟩
theorem L_{st:Stmt}{f:dh}(g:PS X st (cQ X.mg N f)):PS X st (cQ X.mg N (Tt f)):=by
 intro pins s σ H Q I q;obtain⟨A,ι,τ,R,S,q,k⟩:=q;rcases q with⟨r,kvs,a,q⟩|q
 .obtain⟨xs,h1,h2⟩:=S.ra.dct a
  have hl:=(b8.mp a).1;obtain⟨n,o,p⟩:=I.fz h1;obtain⟨t,v⟩:=D5 (o:=o) S a h1 h2;refine aK (g pins s σ _ {nx:=λσ' H'=>∃xs,H' (ι r)=some (.bK o (.dK xs))/\Q.nx σ' (upd H' (ι r) (.dK xs)),rt:=λ_ _=>False,bk:=λ_ _=>False,ct:=λ_ _=>False} p ⟨_,ι,τ,_,t,q o,⟨λbS A' ι' σ' H' b i w x=>?_,λ_ _ _ _ _ z=>z.elim,λ_ _ _ _ _ z=>z.elim,λ_ _ _ _ _ z=>z.elim⟩⟩) λfl s' h=>?_
  .obtain⟨j,c,b⟩:=b
   have y:ι' r=ι r:=i.ag r (by simpa using hl);obtain⟨d,l,m,e⟩:=D4 w c;rw[y] at l m e;exact⟨d,l,k.nx bS _ ι' σ' _ b ((v.trans i).trans e) m (x.ext e)⟩
  .cases fl with
   |next=>
    obtain⟨σ',H',B,C,h',D⟩:=h;exact⟨σ',_,B.Jc h' n,D⟩
   |brk=>obtain⟨_,_,_,z⟩:=h;exact z.elim
   |cont=>obtain⟨_,_,_,z⟩:=h;exact z.elim
   |ret u=>obtain⟨_,_,_,_,_,z⟩:=h;exact z.elim
 .exact g pins s σ H Q I ⟨A,ι,τ,R,S,q,k⟩
end
section
variable{mg:au}{K:Frag}{A:Ar}{ι:Io}{H:Hp}
theorem RA.yI(ra:RA mg ι H A):∀{ds:List D} {vs:List V},ds.all (fj A)=true->ak mg ι A.length H ds vs->fT K H vs (ds.map (bO A))
 |[],vs,_,h=>by cases (show vs=[] from h);exact .nil
 |d::ds,vs,p,h=>by
  obtain⟨x,r,rfl,h1,h2⟩:=h;have a:fj A d=true/\ds.all (fj A)=true:=by simpa using p
  exact .cons (ra.dp a.1 h1) (RA.yI ra a.2 h2)
end
end DP
namespace L2
section
variable{X:Cx}
def Gu:V->List V->Hp->VK->Prop:=λx vs H Q=>∃l b xs zs,x=.ref l/\vs=[.ref b]/\H l=some (.lst xs)/\H b=some (.tup zs)/\xs.length+zs.length<=sizeLine/\Q .aC (upd H l (.lst (xs++zs)))
theorem Qx:oq X "list.extend" Gu:=by
 intro pins s σ H x vs v p Q I g i h;obtain⟨l,b,xs,zs,rfl,rfl,d,j,hz,q⟩:=h;cases g;obtain⟨u,rfl,k⟩:=i.one;cases k;obtain⟨z,its,n,r,hl,e⟩:=I.lT d;obtain⟨a,n2,f,m,_⟩:=I.Jb j;have o:=f.length;have hsz:its.toArray.size+a.toArray.size<=sizeLine:=by rw[b6,b6];omega
 have c:¬(!its.toArray.isEmpty&&Builtin.List.listTooLong (its.toArray.size+a.toArray.size))=true:=by
  rw[FH hsz,wQ];exact bZ
 refine nV sX ⟨_,e,rfl⟩ PySem.F.entry_list_extend (PySem.F.args_list_extend_2 _ _)
  (AutoSeq1.list_extend_list_tuple_0 l its.toArray n b a.toArray n2 c (by rw[b6];omega) (by omega)) ⟨e,m,?_⟩
 refine⟨.aC,_,I.rE (its':=its++a) d e (by simp) (r.append f) ?_,rfl,q⟩;rw[dH];omega
end
end L2
namespace DP
open L2
@[irreducible] def uE(r:Nat)(ys:List D)(A:Ar)(R:DK):Prop:=match A[r]? with
 |some (.lst xs)=>xs.length+ys.length<=sizeLine/\R .aC (A.set r (.lst (xs++ys)))
 |_=>False
def DO:h_:=λx vs A R=>match x,vs with
 |.ref r,[.tup ys]=>uE r ys A R
 |_,_=>False
theorem Lv{mg:au}{K:Frag}:jK mg K "list" Gu DO:=by
 intro x ds A ι H u g R Q ra d rs h k;unfold DO at h;split at h
 .obtain⟨_,rfl⟩:=d
  obtain⟨v,_,rfl,⟨a,zs,rfl,f,b⟩,rfl⟩:=rs;unfold uE at h;split at h
  .rename_i xs e
   obtain⟨ws,h1,c⟩:=ra.lst e;exact⟨_,_,ws,zs,rfl,rfl,h1,f,by rw[<-ak.length c,<-ak.length b];exact h.1,vZ k ra e h1 (c.app b) h.2 λ_=>rfl⟩
  .exact h.elim
 .exact h.elim
theorem Mw{A:Ar}{r:Nat}{xs ys:List D}{R:DK}(h:A[r]?=some (.lst xs))(hz:xs.length+ys.length<=sizeLine)(k:R .aC (A.set r (.lst (xs++ys)))):uE r ys A R:=by
 unfold uE;simp only[h];exact⟨hz,k⟩
end DP
end
namespace L2
theorem bq{N P:List PySem.Str}{sc:PySem.Scope}(kind:sc.kind=.function:=by rfl)(co:sc.isCoroutine=false:=by rfl)(gen:sc.isGenerator=false:=by rfl)(nd:N.Nodup:=by decide+kernel)(pre:N.take P.length=P:=by rfl)
 (par:∀x∈P,sc.names.lookup x=some .local\/sc.names.lookup x=some .cell:=by decide+kernel)(zQ:∀y∈sc.names,y.2≠ .free:=by decide+kernel):aV N P sc:=⟨kind,co,gen,nd,pre,par,zQ⟩
end L2
section
open PySem PySem.Spec PyProof.Rows
namespace DP
open L2
section
variable{X:Cx}{N:En}{pos pos':Pos}{e a b:Expr}{m ma mb:aM}{x:Str}(i:Nat)
theorem dS(a:X.N.Nodup)(b:PE X e (up X.mg N m))(hi:X.N[i]?=some x:=by rfl)(c:Loc X.env.scope x:=by first|exact .inl rfl|exact .inr rfl)(d:swapsWith e (some (.Name x pos')) pos.line X.env=pure false:=by rfl)(f:X.fn x=true\/X.env.scope.names.lookup x=some .local:=by first|exact .inl rfl|exact .inr rfl|assumption):
 PS X (.Assign [.Name x pos'] e pos) (cQ X.mg N (sC i m)):=Ma a hi c b d f
theorem dG(a:X.N.Nodup)(hi:X.N[i]?=some x:=by rfl)(b:Loc X.env.scope x:=by first|exact .inl rfl|exact .inr rfl)(c:X.fn x=true\/X.env.scope.names.lookup x=some .local:=by first|exact .inl rfl|exact .inr rfl|assumption):PG X (.Name x pos) (sP X.mg N (gN i)):=LZ a hi b c
theorem pG(a:X.N.Nodup)(hi:X.N[i]?=some x:=by rfl)(b:Loc X.env.scope x:=by first|exact .inl rfl|exact .inr rfl)(c:X.fn x=true\/X.env.scope.names.lookup x=some .local:=by first|exact .inl rfl|exact .inr rfl|assumption):PG X (.Name x pos) (oW i):=F6 a hi b c
end
section
variable{X:Cx}{N:En}{pos p:Pos}{e a b:Expr}{ma mb:aM}{x:Str}{es:List Expr}{k r n:Nat}{ps:List Str}{S:Ct}{RE:DX}{m:dj}
theorem dX(c:X.A.units+64<cLine)(d:PE X a (up X.mg N ma))(e:PE X b (up X.mg N mb))(f:xO b:=by exact λ_ _=>rfl):PE X (.Subscript a b pos) (up X.mg N (cE mZ ma mb)):=LP c d e f
theorem dL(F:aj X.prog X.w X.K X.mg X.base k x ps (ai X.mg n S))(c:dz r X.A)(d:Passes (bI X.prog X.w) X (EL X.mg N RE))(f:PA X (e::es) (fJ X.mg N m))(g:k<=r:=by omega)(h:Gl X x:=by rfl)(a:(x==("__debug__":Str))=false:=by decide)
 (i:starEach (e::es) X.env=(false,eval e X.env)::starEach es X.env:=by rfl)(b:(backTo pos (starEach es X.env)).any (·.1)=false:=by rfl):
 PE X (.Call (.Name x p) (e::es) [] pos) (up X.mg N (jP n S RE m)):=LL F (c.mono g) d f h a i b
end
theorem bH{P:Program}{w:World}{K:Frag}{mg:au}{base:Heap}{x:Str}{st:Stmt}{Nm ps:List Str}{k n:Nat}{S:Ct}(T:TopD K mg x st ps)(Sc:aV Nm ps (aI st))
  (b:∀{N:En} {RE:DX} {f:Addr} {a:Value} {B:Around} {outer:List Env} {s:Shared} {H:Hp} {E:XK},dz k (cK (bI P w) P w K mg base Nm x (aI st) f a B outer s H E).A->
   Raises (cK (bI P w) P w K mg base Nm x (aI st) f a B outer s H E) (EL mg N RE)->Passes (bI P w) (cK (bI P w) P w K mg base Nm x (aI st) f a B outer s H E) (EL mg N RE)->
   (cK (bI P w) P w K mg base Nm x (aI st) f a B outer s H E).A.units+64<cLine->Nm.Nodup->
   ∃m,dw (cK (bI P w) P w K mg base Nm x (aI st) f a B outer s H E) (ig st) (cQ mg N m)/\∀ds A R,S ds A R RE->ds.length=n->m {nx:=λ_ A'=>R .aC A',rt:=R} (kU (Nm.length - n) ds) A)(d:ps.length=n:=by rfl)(e:ps.length<=Nm.length:=by decide):aj P w K mg base (k+1) x ps (ai mg n S):=
 gQ T Sc d e λN RE f a B outer s H E c g i ds A R h hl=>by
  obtain⟨m,h1,h2⟩:=b c g i c.units Sc.nd;exact⟨m,h1,h2 ds A R h hl⟩
open MA
structure jH(x:Rat):Prop where
 pos:0<x
 num:(rf x).1<=1152921504606846976
 den:(rf x).2<=1152921504606846976
theorem ql.w{x:Rat}(h:ql x):jH x:=⟨h.pos,by have:=h.num;omega,by have:=h.den;omega⟩
theorem Kw{xs:List Rat}(h:∀x∈xs,jH x)(hl:xs.length<=32):bot xs 1<=1152921504606846976 ^ 32:=by
 have:=bot_le 1152921504606846976 (by decide) xs 1 (by decide) λx a=>(h x a).den;rw[one_mul] at this;exact dZ this (z3 (c:=1152921504606846976) (by decide) hl)
theorem Jf{xs:List Rat}(h:∀x∈xs,jH x)(hl:xs.length<=32){n:Int}(c:n∈ups xs):0<n/\n<=1152921504606846976 ^ 33:=by
 obtain⟨x,a,rfl⟩:=aX.mp c;have f:=h x a;refine⟨VS a f.pos,?_⟩;have d:=Kw h hl;obtain⟨b,_,_⟩:=qD xs 1 (by decide);have h1:bot xs 1/(rf x).2<=bot xs 1:=qd _ (dO b);have h0:0<=bot xs 1/(rf x).2:=Int.ediv_nonneg (dO b) (dO (c_ x));have e:=dD f.pos;rw[show(33:Nat)=32+1 from rfl,j_,lZ _ (1152921504606846976:Int)];exact ee f.num (dZ h1 d) h0 (by decide)
theorem zE{n:Int}(h0:0<n)(h:n<=1152921504606846976 ^ 33):n.natAbs.log2<9000:=
 P_ (Nat.lt_of_le_of_lt (QB (c:=1152921504606846976) h0 h) (by decide+kernel))
theorem IG{n:Int}(h:n<=1152921504606846976):n<=1152921504606846976 ^ 33:=dZ h (by decide+kernel)
end DP
namespace DP
open L2
@[irreducible] def vX(r:Nat)(i:Int)(A:Ar)(R:DK):Prop:=match A[r]? with
 |some (.lst xs)=>∃(k:Nat) (y:D),i=(k:Int)/\k<1000000/\xs[k]?=some y/\R y (A.set r (.lst (xs.eraseIdx k)))
 |_=>False
def F9:h_:=λx vs A R=>match x,vs with
 |.ref r,[.int i]=>vX r i A R
 |_,_=>False
theorem Sk{A:Ar}{r k:Nat}{i:Int}{xs:List D}{y:D}{R:DK}(h:A[r]?=some (.lst xs))(hi:i=(k:Int))(a:k<1000000)(b:xs[k]?=some y)(q:R y (A.set r (.lst (xs.eraseIdx k)))):vX r i A R:=by
 unfold vX;rw[h];exact⟨k,y,hi,a,b,q⟩
theorem ak.erase{mg:au}{ι:Io}{H:Hp}{n:Nat}{ds:List D}{vs:List V}(h:ak mg ι n H ds vs)(k:Nat):ak mg ι n H (ds.eraseIdx k) (vs.eraseIdx k):=by
 rw[xr,xr];exact(h.take k).app (h.drop (k+1))
theorem LG{mg:au}{K:Frag}:jK mg K "list" GD F9:=by
 intro x ds A ι H u n R Q ra d rs h k;unfold F9 at h;split at h
 .obtain⟨_,rfl⟩:=d
  obtain⟨v,_,rfl,f,rfl⟩:=rs;cases f;unfold vX at h;split at h
  .rename_i xs e
   obtain⟨j,y,rfl,p,g,q⟩:=h;obtain⟨ws,h1,a⟩:=ra.lst e;obtain⟨v,h2,i⟩:=ak.get a g;have l:=(b8.mp e).1;have r:=(b8.mp h2).1;have E:=ra.mX (o:=.lst (ws.eraseIdx j)) (c:=.lst (xs.eraseIdx j)) l;obtain⟨m,b⟩:=ra.put (c':=.lst (xs.eraseIdx j)) (o:=.lst (ws.eraseIdx j)) e h1 rfl ⟨_,eT,by simpa using ak.ext E _ _ (ak.erase a j)⟩;refine⟨_,ws,_,j,v,rfl,rfl,h1,by omega,by omega,?_,h2,k _ _ _ _ _ q b m (by simpa using RV.ext b _ _ i)⟩;rw[seqIndex_of (by omega) (by omega)];simp
  .exact h.elim
 .exact h.elim
@[irreducible] def wc(r:Nat)(A:Ar)(R:DK):Prop:=match A[r]? with
 |some (.lst xs)=>R .aC (A.set r (.lst xs.reverse))
 |_=>False
def GN:h_:=λx vs A R=>match x,vs with
 |.ref r,[]=>wc r A R
 |_,_=>False
theorem S_{A:Ar}{r:Nat}{xs:List D}{R:DK}(h:A[r]?=some (.lst xs))(q:R .aC (A.set r (.lst xs.reverse))):wc r A R:=by
 unfold wc;rw[h];exact q
theorem ak.rev{mg:au}{ι:Io}{H:Hp}{n:Nat}:∀{ds:List D} {vs:List V},ak mg ι n H ds vs->ak mg ι n H ds.reverse vs.reverse
 |[],vs,h=>by cases (show vs=[] from h);rfl
 |d::ds,vs,h=>by
  obtain⟨x,r,rfl,h1,h2⟩:=h;rw[reverse_cons,reverse_cons];exact(ak.rev h2).app (es:=[d]) (ws:=[x]) ⟨x,[],rfl,h1,rfl⟩
theorem LH{mg:au}{K:Frag}:jK mg K "list" GF GN:=by
 intro x ds A ι H u a R Q ra b rs h k;unfold GN at h;split at h
 .obtain⟨_,rfl⟩:=b
  have rs:a=[]:=rs;subst rs;unfold wc at h;split at h
  .rename_i xs e
   obtain⟨ws,h1,c⟩:=ra.lst e;exact⟨_,ws,rfl,rfl,h1,vZ k ra e h1 (ak.rev c) h λ_=>rfl⟩
  .exact h.elim
 .exact h.elim
@[irreducible] def vc(p q:Nat)(A:Ar)(R:DK):Prop:=match A[p]?,A[q]? with
 |some (.lst xs),some (.lst ys)=>xs.all (fj A)=true/\ys.all (fj A)=true/\(PyData.list (xs.map (bO A))).canLay0=true/\(PyData.list (ys.map (bO A))).canLay0=true/\min (PyData.list (xs.map (bO A))).depth (PyData.list (ys.map (bO A))).depth<=64/\R (.bl (!PyData.eqv (.list (xs.map (bO A))) (.list (ys.map (bO A))))) A
 |_,_=>False
def zM:eG:=λx y A R=>match x,y with
 |.ref p,.ref q=>vc p q A R
 |_,_=>False
theorem LD{mg:au}{K:Frag}:d8 mg (v9 K) zM:=by
 intro x y A ι H u v R Q ra a b h k;unfold zM at h;split at h
 .obtain⟨_,rfl⟩:=a
  obtain⟨_,rfl⟩:=b;unfold vc at h;split at h
  .rename_i xs ys c d
   obtain⟨l,h1,e⟩:=ra.lst c;obtain⟨ws,h2,f⟩:=ra.lst d;obtain⟨g,p2,i,j,hd,q⟩:=h;exact⟨_,_,.lst (aR.of h1) (RA.yI ra g e),.lst (aR.of h2) (RA.yI ra p2 f),i,j,hd,k.here ra q rfl⟩
  .exact h.elim
 .exact h.elim
section
variable{X:Cx}{N:En}{pos:Pos}{a b:Expr}{ma mb:aM}
theorem Vx(c:X.A.units+64<cLine)(d:PE X a (up X.mg N ma))(e:PE X b (up X.mg N mb)):PT X (.Compare a [.NotEq] [b] pos) (cW X.mg N (gM (cE zM ma mb))):=kG (FT c) LD d e (jZ _)
end
def e_(A:Ar):List Nat->List (List D)->Prop
 |[],[]=>True
 |p::ps,xs::xss=>A[p]?=some (.lst xs)/\e_ A ps xss
 |_,_=>False
theorem e_.gr{A B:Ar}(g:Gr A B):∀{ps:List Nat} {a:List (List D)},e_ A ps a->e_ B ps a
 |[],[],_=>trivial
 |p::ps,xs::a,h=>⟨g.get h.1,e_.gr g h.2⟩
 |[],_::_,h=>h.elim
 |_::_,[],h=>h.elim
theorem e_.bO{A:Ar}:∀{ps:List Nat} {a:List (List D)},e_ A ps a->(∀xs∈a,fk xs=true)->((ps.map D.ref).all (fj A)=true)/\(ps.map D.ref).map (bO A)=a.map λxs=>PyData.list (bF xs)
 |[],[],_,_=>⟨rfl,rfl⟩
 |p::ps,xs::a,h,b=>by
  obtain⟨h1,h2⟩:=e_.bO h.2 λx c=>b x (aZ _ c);have d:fj A (.ref p)=true:=by
   unfold fj;simp only[h.1];exact b xs (bh ..)
  have e:DP.bO A (.ref p)=PyData.list (bF xs):=by
   unfold DP.bO;simp only[h.1]
  refine⟨?_,?_⟩
  .rw[cg,all_cons,d,h1]
   rfl
  .rw[cg,cg,e,h2]
   rfl
 |[],_::_,h,_=>h.elim
 |_::_,[],h,_=>h.elim
theorem QD{A:Ar}{p q:Nat}{ps qs:List Nat}{a:List (List D)}{R:DK}(h1:A[p]?=some (.lst (ps.map D.ref)))(h2:A[q]?=some (.lst (qs.map D.ref)))(l1:e_ A ps a)(l2:e_ A qs a)(d:∀xs∈a,fk xs=true/\canLayAll0 (bF xs)=true/\depthAll (bF xs)<=60)(k:R (.bl false) A):vc p q A R:=by
 obtain⟨a1,a2⟩:=l1.bO λxs b=>(d xs b).1;obtain⟨f,e⟩:=l2.bO λxs b=>(d xs b).1;unfold vc;rw[h1,h2];have key:∀a:List (List D),(∀xs∈a,fk xs=true/\canLayAll0 (bF xs)=true/\depthAll (bF xs)<=60)->canLayAll0 (a.map λxs=>PyData.list (bF xs))=true/\depthAll (a.map λxs=>PyData.list (bF xs))<=61:=by
  intro a;induction a with
  |nil=>intro _;exact⟨rfl,by simp[depthAll]⟩
  |cons xs a g=>
   intro h;obtain⟨i1,i2⟩:=g λx b=>h x (aZ _ b);obtain⟨j,i,l⟩:=h xs (bh ..);refine⟨?_,?_⟩
   .rw[cg]
    simp[canLayAll0,canLay0,i1,i]
   .rw[cg]
    simp only[depthAll,PyData.depth];omega
 obtain⟨k1,k2⟩:=key a d;have c:(PyData.list (a.map λxs=>PyData.list (bF xs))).canLay0=true:=by simpa[canLay0] using k1
 refine⟨a1,f,by rw[a2];exact c,by rw[e];exact c,?_,?_⟩
 .rw[a2,e]
  simp only[PyData.depth];omega
 .rw[a2,e,Bc _ c]
  exact k
end DP
namespace L2
section
variable{X:Cx}{a b:Expr}{rest:List Expr}{pos:Pos}{ta tb:TE}
def Vl(K:Frag)(ta tb:TE):TE:=λσ H Q=>ta σ H λx H1=>∃k,Cg K x H1 k/\(if k=true then Q x H1 else tb σ H1 Q)
theorem RW(i:PE X a ta)(j:PE X (.BoolOp .Or (b::rest) pos) tb):PE X (.BoolOp .Or (a::b::rest) pos) (Vl X.K ta tb):=by
 intro pins s σ H Q I h;refine BoolOp_or (aK (i pins s σ H _ I h) λv l ⟨x,H1,m,e,d⟩=>?_);obtain⟨k,n,d⟩:=d;refine aK (VC pins l σ H1 x v (λc H'=>if c=true then Q x H' else tb σ H' Q) m e ⟨k,n,?_⟩) λc o ⟨H2,f,g⟩=>?_
 .exact d
 .cases c with
  |false=>exact j pins o σ H2 Q f g
  |true=>exact⟨x,H2,f,e,g⟩
end
end L2
namespace DP
open L2
@[irreducible] def rO(r:Nat)(A:Ar)(R:DK)(u:Prop):Prop:=match A[r]? with
 |some (.lst xs)=>if xs.isEmpty=true then u else R (.ref r) A
 |_=>False
def CY(ma mb:aM):aM:=λτ A R=>ma τ A λx A1=>match x with
 |.aC=>mb τ A1 R
 |.ref r=>rO r A1 R (mb τ A1 R)
 |_=>False
theorem LS{X:Cx}{N:En}{a b:Expr}{rest:List Expr}{pos:Pos}{ma mb:aM}(m:PE X a (up X.mg N ma))(n:PE X (.BoolOp .Or (b::rest) pos) (up X.mg N mb)):PE X (.BoolOp .Or (a::b::rest) pos) (up X.mg N (CY ma mb)):=
 d9 (RW m n) λσ H Q q=>by
  obtain⟨A,ι,τ,R,S,q,k⟩:=q;refine⟨A,ι,τ,_,S,q,λx d f H1 u c g h j=>?_⟩;cases x with
  |aC=>
   cases j;refine⟨false,rfl,?_⟩;rw[ay bZ];exact⟨d,f,τ,_,S.next g h,c,k.from g⟩
  |ref r=>
   have l:=j;obtain⟨_,rfl⟩:=j;have c:rO r d R (mb τ d R):=c;unfold rO at c;split at c
   .rename_i xs e
    obtain⟨i,h1,h2⟩:=h.lst e;have hl:=ak.length h2;refine⟨!i.isEmpty,.inl ⟨i,aR.of h1,rfl⟩,?_⟩;cases xs with
    |nil=>
     cases i with
     |nil=>
      have c:mb τ d R:=c;rw[ay (by simp)];exact⟨d,f,τ,_,S.next g h,c,k.from g⟩
     |cons _ _=>simp at hl
    |cons x xs=>
     cases i with
     |nil=>simp at hl
     |cons _ _=>
      have c:R (D.ref r) d:=c;rw[av (by simp)];exact(k.from g).here h c l
   .exact c.elim
  |_=>exact c.elim
theorem Rm{A:Ar}{r:Nat}{xs:List D}{R:DK}{u:Prop}(h:A[r]?=some (.lst xs))(h0:xs=[]->u)(h1:xs≠[]->R (.ref r) A):rO r A R u:=by
 unfold rO;rw[h];cases xs with
 |nil=>exact h0 rfl
 |cons x xs=>exact h1 (by simp)
end DP
namespace L2
def tX(CX:iV)(X:Cx)(σ:St)(E:XK):Prop:=∀(pins:aS) (H:Hp) (s:Shared) (e:Value) (s':Shared),Inv X pins σ H s->CX X.stack H s E e s'->X.xe e s'
def jl(X:Cx)(σ:St)(e:Expr)(t:TE):Prop:=∀(pins:aS) (s:Shared) (H:Hp) (Q:VK),Inv X pins σ H s->t σ H Q->wpAny (model X.prog X.w) X.A (eval e X.env) (EP X pins σ Q) X.xe s
section
variable{X:Cx}{σ:St}{k:Nat}{ps:List Str}{sp:Sp}{E:XK}{x:Str}{p pos:Pos}{e:Expr}{es:List Expr}{t:TA}
theorem RB(F:aj X.prog X.w X.K X.mg X.base k x ps sp)(l:dz k X.A)(m:tX (bI X.prog X.w) X σ E)(n:PA X (e::es) t)(o:Gl X x:=by rfl)(d:(x==("__debug__":Str))=false:=by decide)
  (v:starEach (e::es) X.env=(false,eval e X.env)::starEach es X.env:=by rfl)(g:(backTo pos (starEach es X.env)).any (·.1)=false:=by rfl):
  jl X σ (.Call (.Name x p) (e::es) [] pos) (Au sp [] E t):=by
 obtain⟨f,fd,F,y,z,B⟩:=F;intro pins s H Q I h;refine mj (rC I o B ?_ d);refine callWith_K (h₀:=X.base) I.ok.mod.rA z (aK (n pos pins s σ H _ I h) λa i ⟨vs,H1,b,r,q⟩=>⟨b.eO,?_⟩) v g;have j:Vals (vs++[]) (a++[]):=r.append .nil;have hl:(a++[]).length=ps.length:=by rw[<-j.length];exact F.len _ _ _ _ q
 refine wpAny_call (nW (F.run X.A X.stack i H1 ⟨a,[]⟩ (a++[]) (vs++[]) Q E l b.DJ (y i a b.eO hl) j q) λr s' c=>?_);cases r with
 |error e=>exact m pins H1 i e s' b c
 |ok fl=>
  cases fl with
  |ret u=>exact b.after c
  |next=>exact False.elim c
  |brk=>exact False.elim c
  |cont=>exact False.elim c
variable{o:Expr}{to te:TE}{name:Str}{apos cpos:Pos}{T id:String}{r:V->List V->Hp->VK->Prop}
theorem Rw(k:PlainAttrs T)(slot:Slot T name id)(f:typeOf (.builtin id)=pure (.type "method_descriptor"))(l:mJ X id r)(m:PE X o to)(n:jl X σ e te)
  (b:attributeBase o name X.env (eval o X.env)=eval o X.env:=by rfl)
  (d:((backTo cpos (starEach [e] X.env)).all (λx=> !x.1)&&(backToKw cpos (keywordEach [] X.env)).all (λx=>x.1.isSome)
   &&decide ([e].length+([]:List Keyword).length+(if ([]:List Keyword).isEmpty then 0 else 1)<30))=true:=by rfl)
  (c:(apos.endLine==cpos.line)=true:=by rfl)(p:starEach [e] X.env=(false,eval e X.env)::starEach [] X.env:=by rfl)(a:(backTo cpos (starEach [] X.env)).any (·.1)=false:=by rfl):
  jl X σ (.Call (.Attribute o name apos) [e] [] cpos) (λσ H Q=>to σ H λx H1=>sL X.K T x H1/\te σ H1 λy H2=>r x [y] H2 Q):=by
 intro pins s H Q I h
 refine wpAny_Call_method_late b d c rfl (aK (m pins s σ H _ I h) λv g ⟨x,H1,i,j,ty,q⟩=> ?_)
 obtain⟨h1,h2⟩:=AF i j ty
 refine⟨T,id,k,slot,f,h1,h2,?_⟩
 rw[p]
 refine AM (by show(false||(backTo cpos (starEach [] X.env)).any (·.1))=false;rw[a]<;>rfl) (AO ?_)
 show wpAny _ _ (spliced ((false,eval e X.env)::backTo cpos (starEach [] X.env))) _ _ g
 refine wY (aK (n pins g H1 _ i q) λu t ⟨y,H2,w,z,A⟩=> ?_)
 exact aK (zW cpos pins t σ H2 (λxs H'=>xs=[]/\H'=H2) w ⟨rfl,rfl⟩) λB C ⟨xs,D,E,F,G⟩=>by
  obtain⟨rfl,rfl⟩:=G
  exact l pins C σ D x [y] v (u::B) Q E j (.cons z F) A
end
theorem Sx{X:Cx}{σ:St}{e:Expr}{te:TE}{epos:Pos}(a:jl X σ e te)(b:swapsWith e none epos.line X.env=pure false):PS X (.Expr e epos) (λD σ' H=>σ'=σ/\te σ H λ_ H1=>D.nx σ H1):=by
 intro pins s σ' H D I h;obtain⟨rfl,h⟩:=h;exact wpAny_Expr_any (aK (a pins s H _ I h) λv f ⟨x,H1,c,g,d⟩=>⟨_,H1,c,d⟩) I.quiet b
def Vq(K:Frag)(D:Addr)(te:List (Addr×Obj)->(aQ)->XK->TE)(th:TS):TS:=λDn σ H=>
 ∀(pn:aS) (E:aQ),te pn E (λC _ H'=>∃c:Addr,C=.ref c/\exmOne K (.ref c) (.ref D)=some true/\th {nx:=Dn.nx,rt:=Dn.rt} σ H') σ H λ_ H1=>Dn.nx σ H1
section
variable{X:Cx}{D:Addr}{cn:Str}{b₀:Stmt}{suite:List Stmt}{e:Expr}{te:List (Addr×Obj)->(aQ)->XK->TE}{th:TS}{np hpos pos epos:Pos}
theorem SG(hex:X.ex=[])(i:X.stack=X.env::X.outer)(L:X.env.frame=some X.env.locals)(hm:X.mg cn=some (.ref D))
  (hb:∀(pn:aS) (E:aQ) (T:XK) (σ:St),tX (bI X.prog X.w) (X.tried pn E) σ T->jl (X.tried pn E) σ e (te pn E T))(hh:∀e:Addr,dw (X.lO e) (b₀::suite) th)
  (hg:Gl X cn:=by rfl)(M:(cn==("__debug__":Str))=false:=by decide)(N:swapsWith e none epos.line X.env=pure false:=by rfl):
  PS X (.Try [.Expr e epos] [.ExceptHandler (some (.Name cn np)) none (b₀::suite) hpos] [] [] pos) (Vq X.K D te th):=by
 intro pins s σ H Dn I h
 refine wpAny_Try_except ?_
 refine je (Gb (Sx (hb (X.pn++pins) _ _ σ ?_) N) [] s σ H Dn (I.tried _) ⟨rfl,h _ _⟩) (λf r q=> ?_) λe r q=>q
 .intro O H1 G e s' I1 hx
  obtain⟨a,C,H',rfl,F,c,rfl,t,P⟩:=hx
  have U:Inv X pins σ H1 G:=I1.j7 I.ok
  have F:iX X.prog X.w X.stack H1 H' G s' a (.ref c):=F
  obtain⟨B,a0,V,x,hok,fl⟩:=F.fl
  have Q:=fl
  rw[i] at fl
  refine wpAny_looks_onW (by rw[<-i];exact I.ok.frames) L fl λY g k=> ?_
  refine wpAny_landsW g λj d l=> ?_
  have y:iX X.prog X.w X.stack H1 H' G {s' with heap:=j} a (.ref c):=F.move V x hok Q (by rw[i];exact d) (k.trans l)
  have Z:Inv X pins σ H' {s' with heap:=j}:=U.yo y.os y.un y.hok y.bare λb z=>absurd z (by simp)
  have LT:Looks (model X.prog X.w) j (typeOf (.ref a)) (.ref c):=by
   obtain⟨ob,R,hc⟩:=d.there
   exact hc▸(Looks.ld R).andThen .now
  refine wpAny_handleBy_cons (codeAny_handlers_test (rC (X:=X.lO a) (Z.lO a) hg hm ((PySem.W.exm_one (Z.eO) LT t).here ?_) M)) (by intro q;cases q)
  refine codeAny_handlers_suite ?_
  refine lands_againW d λn o m=> ?_
  have J:iX X.prog X.w X.stack H1 H' G {s' with heap:=n} a (.ref c):=y.move V x hok (by rw[i];exact d) (by rw[i];exact o) m
  have J6:Inv X pins σ H' {s' with heap:=n}:=U.yo J.os J.un J.hok J.bare λb z=>absurd z (by simp)
  refine je (hh a pins _ _ _ _ (J6.lO a) P) (λfl A q=> ?_) λe A z=>False.elim z
  cases fl with
  |next=>
   obtain⟨p,H2,S,z⟩:=q
   exact⟨p,H2,S.FW I.ok,z⟩
  |brk=>obtain⟨_,_,_,z⟩:=q;exact False.elim z
  |cont=>obtain⟨_,_,_,z⟩:=q;exact False.elim z
  |ret u=>
   obtain⟨v,p,H2,S,rv,z⟩:=q
   exact⟨v,p,H2,S.FW I.ok,rv,z⟩
 .cases f with
  |next=>exact sZ (SP.j7 I.ok q)
  |brk=>exact SP.j7 I.ok q
  |cont=>exact SP.j7 I.ok q
  |ret u=>exact SP.j7 I.ok q
end
end L2
namespace DP
open L2
theorem Dd{X:Cx}{σ:L2.St}{e:Expr}{t t':TE}(h:jl X σ e t)(w:∀H Q,t' σ H Q->t σ H Q):jl X σ e t':=λpins s H Q I q=>h pins s H Q I (w H Q q)
section
variable{X:Cx}{N:En}{σ:L2.St}{k n:Nat}{x:Str}{ps:List Str}{S:Ct}{RE:DX}{e:Expr}{es:List Expr}{m:dj}{p pos:Pos}
theorem yC(F:aj X.prog X.w X.K X.mg X.base k x ps (ai X.mg n S))(i:dz k X.A)(j:tX (bI X.prog X.w) X σ (EL X.mg N RE))(l:PA X (e::es) (fJ X.mg N m))(o:Gl X x:=by rfl)(a:(x==("__debug__":Str))=false:=by decide)
  (r:starEach (e::es) X.env=(false,eval e X.env)::starEach es X.env:=by rfl)(b:(backTo pos (starEach es X.env)).any (·.1)=false:=by rfl):
  jl X σ (.Call (.Name x p) (e::es) [] pos) (up X.mg N (jP n S RE m)):=Dd (RB F i j l o a r b) λH Q q=>by
 obtain⟨A,ι,τ,R,Z,q,k⟩:=q;refine⟨A,ι,τ,_,Z,q,λvs s d H1 t g h u v=>?_⟩;show ai X.mg n S (t++[]) H1 Q (EL X.mg N RE);rw[lg];exact⟨s,d,vs,R,RE,g.1,u,v,g.2,k.from h,λc y f H2 C z hc B D=>⟨c,y,f,⟨C,rfl,hc⟩,(Z.ex.trans h).trans B,D,z⟩⟩
variable{o:Expr}{mo me:aM}{apos cpos:Pos}{f:h_}{r:V->List V->Hp->VK->Prop}{name:Str}{id:String}
theorem yE(s:PlainAttrs "list")(slot:Slot "list" name id)(g:typeOf (.builtin id)=pure (.type "method_descriptor"))(t:mJ X id r)(hd:jK X.mg X.K "list" r f)(v:PE X o (up X.mg N mo))(z:jl X σ e (up X.mg N me))
  (b:attributeBase o name X.env (eval o X.env)=eval o X.env:=by rfl)
  (d:((backTo cpos (starEach [e] X.env)).all (λx=> !x.1)&&(backToKw cpos (keywordEach [] X.env)).all (λx=>x.1.isSome)
   &&decide ([e].length+([]:List Keyword).length+(if ([]:List Keyword).isEmpty then 0 else 1)<30))=true:=by rfl)
  (c:(apos.endLine==cpos.line)=true:=by rfl)(B:starEach [e] X.env=(false,eval e X.env)::starEach [] X.env:=by rfl)(a:(backTo cpos (starEach [] X.env)).any (·.1)=false:=by rfl):
  jl X σ (.Call (.Attribute o name apos) [e] [] cpos) (up X.mg N (oK f mo (cT me fV))):=Dd (Rw s slot g t v z b d c B a) λH Q q=>by
 obtain⟨A,ι,τ,R,S,q,k⟩:=q
 refine⟨A,ι,τ,_,S,q,λx C h H1 u j l m n=> ?_⟩
 refine⟨m.jT j.1 n,C,h,τ,_,S.next l m,j.2,λy D i H2 w E p F v2=> ?_⟩
 exact hd x [y] D i H2 u [w] R Q F (RV.ext p x u n) ⟨w,[],rfl,v2,rfl⟩ E (k.from (l.trans p))
end
def G4(QX:List Str)(m:DX->aM)(th:dh):dh:=λR τ A=>m (λc A'=>c∈QX/\th {nx:=R.nx,rt:=R.rt} τ A') τ A λ_ A1=>R.nx τ A1
theorem yJ{X:Cx}{N:En}{D:Addr}{cn:Str}{b₀:Stmt}{suite:List Stmt}{e:Expr}{m:DX->aM}{th:dh}{np hpos pos epos:Pos}(d:List Str)(hex:X.ex=[])(f:X.stack=X.env::X.outer)(g:X.env.frame=some X.env.locals)(p:X.mg cn=some (.ref D))
  (hok:∀c C,c∈d->X.mg c=some (.ref C)->exmOne X.K (.ref C) (.ref D)=some true)
  (t:∀(M:En) (RE:DX) (pn:aS) (E:aQ) (σ:L2.St),tX (bI X.prog X.w) (X.tried pn E) σ (EL X.mg M RE)->jl (X.tried pn E) σ e (up X.mg M (m RE)))(x:∀(M:En) (e:Addr),dw (X.lO e) (b₀::suite) (cQ X.mg M th))
  (y:Gl X cn:=by rfl)(h:(cn==("__debug__":Str))=false:=by decide)(i:swapsWith e none epos.line X.env=pure false:=by rfl):
  PS X (.Try [.Expr e epos] [.ExceptHandler (some (.Name cn np)) none (b₀::suite) hpos] [] [] pos) (cQ X.mg N (G4 d m th)):=by
 intro pins s σ H Dn I q
 obtain⟨A,ι,τ,R,S,q,k⟩:=q
 refine SG (te:=λpn E l σ' H' Q=>∃RE:DX,(∀C a H',EL X.mg ⟨A,ι,H⟩ RE C a H'->l C none H')/\up X.mg ⟨A,ι,H⟩ (m RE) σ' H' Q) (th:=cQ X.mg ⟨A,ι,H⟩ th) hex f g p (λpn E l σ' B=> ?_) (x ⟨A,ι,H⟩) y h i pins s σ H Dn I ?_
 .intro b s' H' Q F z
  obtain⟨RE,G,z⟩:=z
  exact t ⟨A,ι,H⟩ RE pn E σ' (λpins H1 J e s' I z=>B pins H1 J e s' I (by
   obtain⟨a,C,H2,h1,h2,L⟩:=z
   exact⟨a,C,H2,h1,h2,G _ _ _ L⟩)) b s' H' Q F z
 .intro pn E
  refine⟨_,λC a0 H' z=> ?_,A,ι,τ,_,⟨S.ra,S.rs,S.ra.refl⟩,q,λv V O H1 u P n T W=>(k.nx.from n).here (S.next n T) P⟩
  obtain⟨c,A',ι',⟨o,rfl,hc⟩,e,r,j,U⟩:=z
  exact⟨o,rfl,hok c o j hc,A',ι',τ,_,⟨r,S.rs.ext e,e⟩,U,⟨k.nx.from e,k.rt.from e,λ_ _ _ _ _ z _ _ _=>z.elim,λ_ _ _ _ _ z _ _ _=>z.elim⟩⟩
end DP
variable{P:Program}{w:World}{K:Frag}{mg:au}{base:Heap}
namespace My
open L2 DP
def top(i:Nat):Stmt:=PySem.Challenge.pw_hangstill_k11_told_anew.main.body.getD i (.Pass ⟨0,0,0,0⟩)
abbrev Ad:Stmt:=top 11
abbrev nv:List Str:=["thing","first","last"]
theorem Im:aV ["thing","first","last"] nv (aI Ad):=bq
abbrev Ac:Stmt:=top 12
abbrev nu:List Str:=["thing"]
theorem Il:aV ["thing"] nu (aI Ac):=bq
abbrev HG:Stmt:=top 13
abbrev vG:List Str:=["thing","rods"]
theorem Uc:aV ["thing","rods"] vG (aI HG):=bq
abbrev HF:Stmt:=top 14
abbrev rW:List Str:=["thing"]
theorem Ub:aV ["thing"] rW (aI HF):=bq
abbrev Hu:Stmt:=top 15
abbrev kR:List Str:=["thing"]
theorem TZ:aV ["thing"] kR (aI Hu):=bq
abbrev HH:Stmt:=top 16
abbrev vH:List Str:=["thing"]
theorem Ud:aV ["thing"] vH (aI HH):=bq
abbrev HK:Stmt:=top 17
abbrev vJ:List Str:=["thing"]
theorem Ug:aV ["thing","names"] vJ (aI HK):=bq
abbrev Hs:Stmt:=top 18
abbrev rP:List Str:=["thing"]
theorem TY:aV ["thing"] rP (aI Hs):=bq
abbrev Hx:Stmt:=top 19
abbrev rR:List Str:=["mobile","weights"]
theorem T5:aV ["mobile","weights","numbers","way","name"] rR (aI Hx):=bq
abbrev Ae:Stmt:=top 20
abbrev lV:List Str:=["mobile","way"]
theorem Iq:aV ["mobile","way"] lV (aI Ae):=bq
abbrev HQ:Stmt:=top 21
abbrev rZ:List Str:=["mobile","numbers"]
theorem Um:aV ["mobile","numbers"] rZ (aI HQ):=bq
abbrev HU:Stmt:=top 22
abbrev vO:List Str:=["rod","numbers"]
theorem Ur:aV ["rod","numbers"] vO (aI HU):=bq
abbrev Ib:Stmt:=top 23
abbrev vU:List Str:=["mobile","way","numbers"]
theorem Iv:aV ["mobile","way","numbers","both","told"] vU (aI Ib):=bq
abbrev HP:Stmt:=top 24
abbrev vL:List Str:=["mobile"]
theorem Uk:aV ["mobile"] vL (aI HP):=bq
abbrev s_load:Stmt:=top 25
abbrev vM:List Str:=["mobile","weights"]
theorem Ul:aV ["mobile","weights"] vM (aI s_load):=bq
abbrev Ia:Stmt:=top 26
abbrev sd:List Str:=["mobile","weights"]
theorem Uz:aV ["mobile","weights"] sd (aI Ia):=bq
abbrev HJ:Stmt:=top 27
abbrev vI:List Str:=["mobile","weights"]
theorem Ue:aV ["mobile","weights"] vI (aI HJ):=bq
abbrev HB:Stmt:=top 29
abbrev rU:List Str:=["one","other"]
theorem T9:aV ["one","other","rest"] rU (aI HB):=bq
abbrev HW:Stmt:=top 30
abbrev r9:List Str:=["top","bottom"]
theorem Ut:aV ["top","bottom","divisor"] r9 (aI HW):=bq
abbrev HS:Stmt:=top 31
abbrev pq:List Str:=["one","other"]
theorem Uq:aV ["one","other"] pq (aI HS):=bq
abbrev HV:Stmt:=top 32
abbrev r8:List Str:=["one","other"]
theorem Us:aV ["one","other"] r8 (aI HV):=bq
abbrev HN:Stmt:=top 33
abbrev vK:List Str:=["fractions"]
theorem Uj:aV ["fractions","bottom","fraction","numbers","divisor","number"] vK (aI HN):=bq
abbrev H9:Stmt:=top 35
abbrev vR:List Str:=["mobile","way","share"]
theorem Iu:aV ["mobile","way","share","both","left","right"] vR (aI H9):=bq
abbrev Af:Stmt:=top 36
abbrev ny:List Str:=["mobile"]
theorem Ir:aV ["mobile"] ny (aI Af):=bq
abbrev HM:Stmt:=top 37
abbrev rY:List Str:=["fractions"]
theorem Ui:aV ["fractions","names"] rY (aI HM):=bq
abbrev H8:Stmt:=top 38
abbrev nA:List Str:=["mobile"]
theorem Ux:aV ["mobile"] nA (aI H8):=bq
abbrev Hr:Stmt:=top 39
abbrev nk:List Str:=["mobile"]
theorem TX:aV ["mobile","first","way","name","share"] nk (aI Hr):=bq
abbrev HL:Stmt:=top 40
abbrev rX:List Str:=["mobile"]
theorem Uh:aV ["mobile"] rX (aI HL):=bq
abbrev Ho:Stmt:=top 41
abbrev vB:List Str:=["one","other"]
theorem TU:aV ["one","other","one_barred","other_barred","weights","others"] vB (aI Ho):=bq
abbrev Ht:Stmt:=top 44
abbrev vD:List Str:=["thing"]
theorem Ij:aV ["thing","mobile"] vD (aI Ht):=bq
abbrev HE:Stmt:=top 45
abbrev o_:List Str:=["hall"]
theorem Ua:aV ["hall"] o_ (aI HE):=bq
abbrev H_:Stmt:=top 46
abbrev vS:List Str:=["by_place","name"]
theorem Uy:aV ["by_place","name","steps","place","table"] vS (aI H_):=bq
abbrev HR:Stmt:=top 47
abbrev vN:List Str:=["by_place","start"]
theorem Uo:aV ["by_place","start","paths","reached","at","step"] vN (aI HR):=bq
abbrev HD:Stmt:=top 48
abbrev o9:List Str:=["by_place"]
theorem Ik:aV ["by_place","told","seen","table","name","paths"] o9 (aI HD):=bq
abbrev Hq:Stmt:=top 49
abbrev vC:List Str:=["steps"]
theorem TV:aV ["steps"] vC (aI Hq):=bq
abbrev Hz:Stmt:=top 50
abbrev rS:List Str:=["by_place","steps"]
theorem T7:aV ["by_place","steps","ratio","place","one","other"] rS (aI Hz):=bq
abbrev Hy:Stmt:=top 51
abbrev vF:List Str:=["by_place"]
theorem T6:aV ["by_place","steps","place","table","first"] vF (aI Hy):=bq
abbrev HA:Stmt:=top 52
abbrev rT:List Str:=["by_place"]
theorem T8:aV ["by_place","paths","group","step","steps"] rT (aI HA):=bq
abbrev Hv:Stmt:=top 53
abbrev rQ:List Str:=["by_place"]
theorem T3:aV ["by_place"] rQ (aI Hv):=bq
abbrev HC:Stmt:=top 54
abbrev rV:List Str:=["by_place","paths"]
theorem T_:aV ["by_place","paths"] rV (aI HC):=bq
abbrev Hw:Stmt:=top 55
abbrev vE:List Str:=["by_place","told"]
theorem T4:aV ["by_place","told","name","number"] vE (aI Hw):=bq
abbrev HZ:Stmt:=top 56
abbrev vQ:List Str:=["weights","told"]
theorem Uw:aV ["weights","told","scale","name","number"] vQ (aI HZ):=bq
abbrev HX:Stmt:=top 57
abbrev r_:List Str:=["hall"]
theorem Uu:aV ["hall"] r_ (aI HX):=bq
abbrev Ic:Stmt:=top 58
abbrev vV:List Str:=["hall"]
theorem UA:aV ["hall","by_place","told","paths"] vV (aI Ic):=bq
abbrev HY:Stmt:=top 59
abbrev vP:List Str:=["hall","told"]
theorem Uv:aV ["hall","told","by_place","answer","paths","known"] vP (aI HY):=bq
abbrev G5:Stmt:=top 61
abbrev vm:List Str:=["_law_script","_law_k"]
theorem TF:aV ["_law_script","_law_k"] vm (aI G5):=bq
abbrev G_:Stmt:=top 62
abbrev vq:List Str:=["_law_script","_law_k","_law_many"]
theorem TN:aV ["_law_script","_law_k","_law_many","_law_drawn"] vq (aI G_):=bq
abbrev G6:Stmt:=top 63
abbrev kQ:List Str:=["_law_script","_law_town","_law_many"]
theorem TH:aV ["_law_script","_law_town","_law_many"] kQ (aI G6):=bq
abbrev Hi:Stmt:=top 64
abbrev nj:List Str:=["_law_script","_law_town","_law_some"]
theorem TR:aV ["_law_script","_law_town","_law_some"] nj (aI Hi):=bq
abbrev Hf:Stmt:=top 65
abbrev vt:List Str:=["_law_script","_law_town","_law_names_here","_law_deep"]
theorem Ig:aV ["_law_script","_law_town","_law_names_here","_law_deep","_law_arms","_law_parts"] vt (aI Hf):=bq
abbrev Hg:Stmt:=top 66
abbrev vv:List Str:=["_law_script","_law_town","_law_many"]
theorem TQ:aV ["_law_script","_law_town","_law_many","_law_made","_law_k","_law_name","_law_turn"] vv (aI Hg):=bq
abbrev G7:Stmt:=top 67
abbrev vn:List Str:=["_law_script","_law_town"]
theorem TL:aV ["_law_script","_law_town","_law_pool","_law_made","_law_k","_law_left","_law_deep"] vn (aI G7):=bq
abbrev Hh:Stmt:=top 68
abbrev vz:List Str:=["_law_script","_law_town","_law_left","_law_deep"]
theorem Ih:aV ["_law_script","_law_town","_law_left","_law_deep","_law_arms","_law_one"] vz (aI Hh):=bq
abbrev G8:Stmt:=top 69
abbrev vo:List Str:=["_law_mobile_here","_law_way"]
theorem TM:aV ["_law_mobile_here","_law_way"] vo (aI G8):=bq
abbrev G9:Stmt:=top 70
abbrev vp:List Str:=["_law_mobile_here","_law_weights","_law_hall_here"]
theorem Ie:aV ["_law_mobile_here","_law_weights","_law_hall_here","_law_made"] vp (aI G9):=bq
abbrev Hj:Stmt:=top 71
abbrev vA:List Str:=["_law_mobile_here","_law_weights","_law_hall_here"]
theorem Ii:aV ["_law_mobile_here","_law_weights","_law_hall_here","_law_made"] vA (aI Hj):=bq
abbrev kT:Stmt:=top 72
abbrev zU:List Str:=["_law_script"]
theorem Ip:aV ["_law_script","_law_town","_law_mobile_here","_law_names_here","_law_weights","_law_hall_here","_law_first","_law_rest_here","_law_turn","_law_told"] zU (aI kT):=bq
open MA
theorem M0(T:TopD K mg "is_number" Ad nv)(d:mg "isinstance"=none)(f:mg "bool"=none)(g:mg "int"=none):aj P w K mg base 1 "is_number" nv (ai mg 3 B5):=by
 refine bH T Im λj k l m nd=>⟨_,(aD (bP (PW.pt (fX (ff (jr EK d f boot_bool (vr 0))) (gO (fF (ff (jr EM d g boot_int (vr 0))))))) (aA (aN jo)) bT)
  (aA (aN (uC (vr 1) (vr 0) (vr 2))))),λds A R h hl=>?_⟩
 obtain⟨v,⟨i,a,b,rfl,rfl⟩,q⟩:=h;refine cD (λc=>?_) (λc=>?_)
 .have e:(decide (a<=i)&&decide (i<=b))=decide (i<=b):=by simp[c]
  rw[e] at q;exact q _ Gr.refl
 .have e:(decide (a<=i)&&decide (i<=b))=false:=by simp[c]
  rw[e] at q;exact q _ Gr.refl
theorem rN{c d:Nat}:([c]:List Nat)<[d]↔c<d:=by simp[List.cons_lt_cons_iff]
theorem Ag:("a":Str).cps.toList=[97]:=by decide+kernel
theorem Ah:("z":Str).cps.toList=[122]:=by decide+kernel
theorem MZ(T:TopD K mg "is_name" Ac nu)(b:mg "isinstance"=none)(d:mg "str"=none)(g:mg "len"=none)(i:mg "all"=none){t:Tok}(a:mg "LONGEST_NAME"=some (.int 3 t)):aj P w K mg base 1 "is_name" nu (ai mg 1 BX):=by
 refine bH T Il λr s k u nd=>⟨_,(aD (bP (PW.pt (fX (fF (ff (jr zv b d boot_str (vr 0)))) (gO (fF (AA ao (dQ gp fL g gD (aa (vr 0) af)) (mR a)))))) (aA (aN jo)) bT)
  (aA (aN (dQ (yp rfl) yv i boot_all (aa (fW none (own:=["letter"]) (frees:=[]) (ix:=[]) rfl (Ds (vr 0)) (λc=>(pG 0 (show(["letter"]:List Str).Nodup by decide+kernel))) (λc=>(uC a_ (vr 0) a_))) af))))),λds A R h hl=>?_⟩
 obtain⟨v,⟨n,rfl,j,rfl⟩,q⟩:=h;have hz:n.length<=sizeLine:=cR j.hi (by decide);have h1:=j.lo;have y:=j.hi;refine⟨hz,cD (λ_=>?_) (λc=>absurd (show(1:Int)<=(n.length:Nat) by omega) c)⟩;refine cN (λc=>absurd (show((n.length:Nat):Int)<=3 by omega) c) (λ_=>?_);refine iN (f:=λ_=>.bl true) trivial _ _ (λx k=>⟨[x],rfl,λQ l=>?_⟩) ?_ ?_
 .obtain⟨c,hc,rfl⟩:=aX.mp k
  obtain⟨z,B⟩:=j.az c hc;have m:¬((⟨#[c]⟩:Str).cps.toList<("a":Str).cps.toList):=by
   rw[Ag];intro h;have:=rN.mp h;omega
  have o:¬(("z":Str).cps.toList<(⟨#[c]⟩:Str).cps.toList):=by
   rw[Ah];intro h;have:=rN.mp h;omega
  refine cN (λ_=>?_) (λh=>absurd h m);have p:(!decide (("z":Str).cps.toList<(⟨#[c]⟩:Str).cps.toList))=true:=by rw[d7 o];rfl
  show Q (.bl (!decide (("z":Str).cps.toList<(⟨#[c]⟩:Str).cps.toList))) A;rw[p];exact l
 .have:(f7 n).length=n.length:=by simp[f7,Str.length]
  show 0+(f7 n).length<=sizeLine;omega
 .refine yd (bs:=(f7 n).map λ_=>true) aH (qC _ _) ?_
  have e:((f7 n).map λ_=>true).all id=true:=by simp
  rw[e];exact q _ Gr.push
end My
namespace DP
open L2 MA
abbrev xP:Ct:=SV λds v=>∃rs,ds=[di rs]/\jN rs/\v=.aC
end DP
namespace My
open L2 DP MA
theorem Nh(T:TopD K mg "is_named_number" HH vH)(a:mg "isinstance"=none)(e:mg "tuple"=none)(f:mg "len"=none){t:Tok}(c:mg "HEAVIEST"=some (.int 999999 t))
  (d:aj P w K mg base 1 "is_name" nu (ai mg 1 BX))(b:aj P w K mg base 1 "is_number" nv (ai mg 3 B5)):aj P w K mg base 2 "is_named_number" vH (ai mg 1 BW):=by
 refine bH T Ud λi n j g nd=>⟨_,(aD (bP (PW.pt (fX (fF (ff (jr kit_tuple a e mz (vr 0)))) (gO (nE g (dQ gp fL f gD (aa (vr 0) af)) ao)))) (aA (aN jo)) bT)
  (aA (aN (ur (dL d i j (aa (dX g (vr 0) ao) af)) (qL (dL b i j (aa (dX g (vr 0) ao) (aa ao (aa (mR c) af))))))))),λds A R h hl=>?_⟩
 obtain⟨v,⟨r,rfl,k,⟨h1,h2⟩,rfl⟩,q⟩:=h;refine⟨rfl,_,⟨r.1,rfl,k,rfl⟩,λo l=>?_⟩;refine⟨rfl,_,⟨r.2,1,999999,rfl,rfl⟩,λp m=>?_⟩;rw[show(decide (1<=r.2)&&decide (r.2<=999999))=true by simp[h1,h2]];exact q _ (l.trans m)
theorem pw_eq{ys ss:List Str}(h1:ys.Pairwise strLt)(h2:ss.Pairwise strLt)(b:∀x,x∈ys↔x∈ss):ys=ss:=by
 induction ys generalizing ss with
 |nil=>
  cases ss with
  |nil=>rfl
  |cons a r=>exact absurd ((b a).mpr (bh ..)) (by simp)
 |cons y ys f=>
  cases ss with
  |nil=>exact absurd ((b y).mp (bh ..)) (by simp)
  |cons a r=>
   have d:=jC.mp h1;have p2:=jC.mp h2;have e:y=a:=by
    have g:=(b y).mp (bh ..);have h:=(b a).mpr (bh ..);rcases aY.mp g with q|q
    .exact q
    rcases aY.mp h with q'|q'
    .exact q'.symm
    exact absurd (xu (p2.1 y q) (d.1 a q')) (kh _)
   subst e;rw[f d.2 p2.2 λx=>?_];constructor
   .intro c
    rcases aY.mp ((b x).mp (aZ _ c)) with q|q
    .subst q;exact absurd (d.1 x c) (kh _)
    .exact q
   .intro c
    rcases aY.mp ((b x).mpr (aZ _ c)) with q|q
    .subst q;exact absurd (p2.1 x c) (kh _)
    .exact q
theorem M1(T:TopD K mg "is_weights" HK vJ)(b:mg "isinstance"=none)(g:mg "tuple"=none)(j:mg "all"=none)(d:mg "sorted"=none)(k:mg "set"=none)
  (a:aj P w K mg base 2 "is_named_number" vH (ai mg 1 BW)):aj P w K mg base 3 "is_weights" vJ (ai mg 1 BL):=by
 refine bH T Ug λl G p t nd=>⟨_,(aD (bP (PW.pt (fX (fF (ff (jr kit_tuple b g mz (vr 0)))) (gO (fF (ff (dQ (yp rfl) yv j boot_all (aa (fW none (own:=["pair"]) (frees:=[]) (ix:=[]) rfl (cY (vr 0)) (λc=>(pG 0 (show(["pair"]:List Str).Nodup by decide+kernel))) (λc=>(dL a l j4 (aa (vr 0) af)))) af))))))) (aA (aN jo)) bT)
  (aD (oO none (own:=["pair"]) (frees:=[]) (ix:=[]) (i:=1) nd rfl (by first|exact Or.inl rfl|exact Or.inr rfl) rfl (cY (vr 0)) (λc=>(pG 0 (show(["pair"]:List Str).Nodup by decide+kernel))) (λc=>(dX t (vr 0) ao)))
  (aA (aN (mW t (vr 1) (Dc d k rfl (aa (vr 1) af))))))),λds A R h hl=>?_⟩
 obtain⟨v,⟨rs,rfl,m,rfl⟩,q⟩:=h;have hz:0+(rs.map bx).length<=sizeLine:=by
  have:=m.len;have:(64:Nat)<=sizeLine:=by decide
  simp;omega
 have o:∀n∈rs.map (·.1),Nm n:=λn z=>by
  obtain⟨r,l,rfl⟩:=aX.mp z;exact m.nm r l
 refine uf (λ_=>.bl true) _ _ _ (λ_ _=>trivial) (λx p B u=>⟨[x],rfl,λQ s=>?_⟩) hz (λB u=>?_)
 .obtain⟨r,l,rfl⟩:=aX.mp p
  exact⟨rfl,_,⟨r,rfl,m.nm r l,m.no r l,rfl⟩,s⟩
 refine yd (bs:=(rs.map bx).map λ_=>true) aH (qC _ _) ?_;rw[show((rs.map bx).map λ_=>true).all id=true by simp];refine iN (f:=λx=>match x with|.tup (y::_)=>y|x=>x) trivial _ _ (λx p=>⟨[x],rfl,λQ s=>?_⟩) hz ?_
 .obtain⟨r,l,rfl⟩:=aX.mp p
  exact s
 have e:(rs.map bx).map (λx=>match x with|.tup (y::_)=>y|x=>x)=(rs.map (·.1)).map D.str:=by
  rw[bR,bR];rfl
 rw[gc,e];refine IM (ss:=rs.map (·.1)) aH (by have:=strs_map id (rs.map (·.1));simpa using this) (by have:=m.len;simpa using this) λys C E=>?_;have F:=pw_eq C m.up E;subst F;refine Mr (getElem?_push aH) aH o o ?_;rw[dg rfl];exact q _ (((u.trans Gr.push).trans Gr.push).trans Gr.push)
theorem M4(T:TopD K mg "leaves_below" Ae lV):∀d,aj P w K mg base (d+1) "leaves_below" lV (ai mg 2 (qq d)):=by
 intro d;induction d with
 |zero=>
  refine lK T λds A R RE h=>?_;obtain⟨v,⟨m,w,_,h,_⟩,_⟩:=h;omega
 |succ d c=>
  refine gQ T Iq rfl (by decide) λN RE f k B outer s H E g t i ds A R h hl=>?_;have e:=g.units;refine⟨_,(aD (bP (f_ e (dX e (vr 0) ao) a_) (aA (aN (cG (aa (cU (aa (vr 1) (aa (dX e (vr 0) ao) af))) af)))) bT)
  (aA (aN (cM (dL c g i (aa (dX e (vr 0) ao) (aa (cM (vr 1) a_) af))) (dL c g i (aa (dX e (vr 0) ao) (aa (cM (vr 1) a_) af))))))),?_⟩
  obtain⟨v,⟨m,w,rfl,hd,u,z,rfl⟩,q⟩:=h;have C:(100:Nat)<=sizeLine:=by decide
  cases m with
  |wt n=>exact⟨by show 2<=sizeLine;omega,by show 1<=sizeLine;omega,q _ _ Gr.push aH⟩
  |bQ l r a b=>
   have o:max a.deep b.deep+1<d+1:=hd;have D:("l":Str).length=1:=by decide+kernel
   have F:("r":Str).length=1:=by decide+kernel
   have al:∀x y:Str,(x++y).length=x.length+y.length:=λx y=>mh;refine⟨by omega,rfl,_,⟨a,_,rfl,by omega,by rw[al];omega,by omega,rfl⟩,λG I p h1=>?_⟩;refine⟨by omega,rfl,_,⟨b,_,rfl,by omega,by rw[al];omega,by omega,rfl⟩,λJ L j h2=>?_⟩;have n1:=bz.jY a;have n2:=bz.jY b;have M:2 ^ a.deep<=2 ^ 8:=e9 (by decide) (by omega);have p2:2 ^ b.deep<=2 ^ 8:=e9 (by decide) (by omega);have hz:(512:Nat)<=sizeLine:=by decide
   refine kD (j.get h1) h2 (by rw[aP,aP,kN,kN];omega) (q _ _ ((p.trans j).trans Gr.push) ?_);rw[aH];simp[gx]
theorem M9(T:TopD K mg "load_below" HQ rZ)(b:mg "sum"=none)(a:aj P w K mg base 9 "leaves_below" lV (ai mg 2 (qq 8))):aj P w K mg base 10 "load_below" rZ (ai mg 2 (xV 6)):=by
 refine bH T Um λk y d l nd=>⟨_,(aA (aN (dQ (KN rfl) LK b boot_sum (aa (fW (some 2) (own:=["way","name"]) (frees:=["numbers"]) (ix:=[1]) rfl (cY (dL a k d (aa (vr 0) (aa a_ af)))) (λc=>(pA rfl (iA (pG 0 (show(["way","name","numbers"]:List Str).Nodup by decide+kernel)) (iA (pG 1 (show(["way","name","numbers"]:List Str).Nodup by decide+kernel)) pB)))) (λc=>(dX l (vr 2) (vr 1)))) af)))),λds A R h hl=>?_⟩;obtain⟨m,r,rs,rfl,o,s,hd,i,q⟩:=h;refine⟨rfl,_,⟨m,_,rfl,by omega,by decide+kernel,by omega,rfl⟩,λz B j h1=>?_⟩;refine ef h1 ?_;have n1:=bz.jY m;have C:2 ^ m.deep<=2 ^ 6:=e9 (by decide) hd;have hz:(64:Nat)<=sizeLine:=by decide
 refine iN (f:=λx=>match x with|.tup [_,.str n]=>.int (val rs n)|x=>x) h1 _ _ (λx d=>?_) (by simp[kN];omega) ?_
 .obtain⟨p,t,rfl⟩:=aX.mp d
  refine⟨[.str p.1,.str p.2],rfl,λQ u=>?_⟩;have v:p.2∈m.names:=by rw[<-m_ m ""];exact eE t
  exact jU (j.get o) rfl (zc rs p.2 (i _ v)) u
 have e:((gx m "").map fN).map (λx=>match x with|.tup [_,.str n]=>D.int (val rs n)|x=>x)=m.names.map λn=>D.int (val rs n):=by
  rw[<-m_ m "",bR,bR];rfl
 rw[gc,e];refine U5 (ns:=m.names.map (val rs)) aH (ints_map _ _) (λn g=>?_) (by simp;omega) ?_
 .obtain⟨x,d,rfl⟩:=aX.mp g
  have:=VT s (i x d);omega
 .rw[zy]
  exact q _ (j.trans Gr.push)
theorem ML(T:TopD K mg "check_are_weights" Hs rP){a:Addr}(c:mg "NoWeights"=some (.ref a))(d:excIn K a j8 "ValueError.__new__"=true)
  (b:aj P w K mg base 3 "is_weights" vJ (ai mg 1 BL)):aj P w K mg base 4 "check_are_weights" rP (ai mg 1 xP):=by
 refine bH T TY λe f g k nd=>⟨_,(aA (bP (fF (ff (dL b e g (aa (vr 0) af)))) (aA (kF f rfl c d (aa a_ af))) bT)),λds A R h hl=>?_⟩;obtain⟨v,⟨rs,rfl,i,rfl⟩,q⟩:=h;exact⟨rfl,_,⟨rs,rfl,i,rfl⟩,λl j=>q _ j⟩
theorem MS(T:TopD K mg "check_weights" Hx rR)(i:mg "dict"=none){d:Addr}(f:mg "NoWeights"=some (.ref d))(g:excIn K d j8 "ValueError.__new__"=true)
  (c:aj P w K mg base 4 "check_are_weights" rP (ai mg 1 xP))(e:aj P w K mg base 9 "leaves_below" lV (ai mg 2 (qq 8))):aj P w K mg base 10 "check_weights" rR (ai mg 2 xS):=by
 refine bH T T5 λl s j t nd=>⟨_,(aD (cV (dL c l j (aa (vr 1) af)))
  (aD (dS 2 nd (jq (oJ rfl) oM i qb (aa (vr 1) af)))
  (aA (eN d_ rfl (cY (dL e l j (aa (vr 0) (aa a_ af)))) (mS rfl (gu (dG 3 nd) (gu (dG 4 nd) mT))) (aA (bP (wF t (vr 4) (vr 2)) (aA (kF s rfl f g (aa (LO (vr 4)) af))) bT)))))),λds A R h hl=>?_⟩
 obtain⟨v,⟨m,rs,rfl,n,hd,u,rfl⟩,q⟩:=h;refine⟨rfl,_,⟨rs,rfl,n,rfl⟩,λo y=>?_⟩;refine yF n ?_;refine⟨rfl,_,⟨m,_,rfl,by omega,by decide+kernel,by omega,rfl⟩,λz F r h2=>?_⟩;refine ef h2 ?_;have B:z[o.length]?=some (.dct (gw rs)):=r.get aH;refine Dv h2 (λτ=>∃a b,τ=[some (enc m),some (di rs),some (.ref o.length),a,b]) _ _ ⟨none,none,rfl⟩ (λx j τ k G C=>?_) (λτ _=>q _ ((y.trans Gr.push).trans r));obtain⟨a,b,rfl⟩:=k;obtain⟨p,D,rfl⟩:=aX.mp j;have E:p.2∈m.names:=by rw[<-m_ m ""];exact eE D
 refine⟨rfl,rj B rfl ?_⟩;rw[zc rs p.2 (u _ E)];exact C _ ⟨_,_,rfl⟩
theorem MU(T:TopD K mg "greatest_divisor" HB rU):aj P w K mg base 1 "greatest_divisor" rU (ai mg 2 xT):=by
 refine bH T T9 λp s t u nd=>⟨_,(aD (Dz d_ (IY (vr 1) ao) (aD (dS 2 nd (qK (vr 0) (vr 1)))
  (aD (dS 0 nd (vr 1))
  (aA (dS 1 nd (vr 2))))))
  (aA (aN (vr 0)))),λds A R h hl=>?_⟩
 obtain⟨v,⟨a,b,rfl,i,j,rfl⟩,q⟩:=h;refine⟨λn τ A'=>A'=A/\∃(x y:Int) (r:Option D),τ=[some (.int x),some (.int y),r]/\0<=x/\0<=y/\Int.gcd x y=Int.gcd a b/\n=y.toNat,⟨_,rfl,a,b,none,rfl,i,j,rfl,rfl⟩,?_⟩;rintro n τ A' ⟨rfl,x,y,r,rfl,h0,h1,g,rfl⟩;refine cD (λc=>?_) (λc=>?_)
 .refine⟨λτ k=>k=A'/\∃(f d:Int) (r:Option D),τ=[some (.int f),some (.int d),r]/\0<=f/\0<=d/\Int.gcd f d=Int.gcd a b/\d.toNat<y.toNat,λbS A' ⟨e,f,d,r',h1,h2,l,m,o⟩=>⟨_,o,e,f,d,r',h1,h2,l,m,rfl⟩,?_⟩
  have m0:=emod_nonneg x (show y≠0 by omega);have z:=xm x (show 0<y by omega);exact⟨c,rfl,y,x%y,_,rfl,h1,m0,by rw[NX h0 c];exact g,by omega⟩
 .have e:y=0:=by omega
  subst e;have:(x:Int)=(Int.gcd a b:Int):=by rw[<-g,Int.gcd_zero_right];omega
  show R (.int x) A';rw[this];exact q _ Gr.refl
theorem Nu(T:TopD K mg "reduced" HW r9)(c:aj P w K mg base 1 "greatest_divisor" rU (ai mg 2 xT)):aj P w K mg base 2 "reduced" r9 (ai mg 2 x_):=by
 refine bH T Ut λf l g m nd=>⟨_,(aD (dS 2 nd (dL c f g (aa (vr 0) (aa (vr 1) af))))
  (aA (aN (cU (aa (qJ (vr 0) (vr 2)) (aa (qJ (vr 1) (vr 2)) af)))))),λds A R h hl=>?_⟩
 obtain⟨v,⟨a,b,rfl,i,o,hz,rfl⟩,q⟩:=h;have d:0<(Int.gcd a b:Int):=by
  have:=Int.gcd_pos_of_ne_zero_left b (show a≠0 by omega);omega
 have hl:(Int.gcd a b:Int)<=a:=Int.le_of_dvd i (Int.gcd_dvd_left a b);have e:(Int.gcd a b:Int).natAbs.log2<9000:=by
  have h1:(Int.gcd a b:Int).natAbs<2 ^ 2000:=by omega
  have:=(Nat.log2_lt (n:=(Int.gcd a b:Int).natAbs) (k:=2000) (by omega)).mpr h1;omega
 refine⟨rfl,_,⟨a,b,rfl,by omega,by omega,rfl⟩,λp j=>?_⟩;exact⟨⟨d,e⟩,⟨d,e⟩,show 2<=sizeLine by decide,q _ j⟩
end My
namespace DP
open L2 MA
def fq(x:Rat):D:=.tup [.int (rf x).1,.int (rf x).2]
def nB(p:Str×Str×Rat):D:=.tup [.str p.1,.str p.2.1,fq p.2.2]
theorem GJ{a b:Int}(c:0<b):rd a b=rf ((a:Rat)/(b:Rat)):=we c
def lG:Ct:=λds A R _=>∃a b c d:Int,ds=[.tup [.int a,.int b],.tup [.int c,.int d]]/\0<a/\0<b/\0<c/\0<d/\c<2 ^ 64/\d<2 ^ 64/\a*c<2 ^ 2000/\∀A',Gr A A'->R (fq (((a:Rat)/(b:Rat))*((c:Rat)/(d:Rat)))) A'
theorem mul_div{a b c d:Int}(e:0<b)(hd:0<d):((a*c:Int):Rat)/((b*d:Int):Rat)=((a:Rat)/(b:Rat))*((c:Rat)/(d:Rat)):=by
 have h1:=jO (kg e);have h2:=jO (kg hd);rw[nQ,nQ];grind
def B_(d:Nat):Ct:=λds A R _=>∃m w x,ds=[enc m,.str w,fq x]/\m.arms/\m.deep<d/\d<=6/\w.length+d<=100/\0<x/\(rf x).1*18 ^ m.deep<=1000000000/\∀A' q,Gr A A'->A'[q]?=some (.lst ((bg m w x).map nB))->A.length<=q->R (.ref q) A'
def qt:Ct:=λds A R _=>∃m,ds=[enc m]/\Wf m/\m.deep<=5/\∀A' q,Gr A A'->A'[q]?=some (.lst ((bg m "" 1).map nB))->A.length<=q->R (.ref q) A'
theorem Cw{a:Int}(h:a<=1000000000000):a<2 ^ 2000:=sQ h (xo (show(1000000000000:Int)<2 ^ 64 by decide) (by
 have:(2:Nat) ^ 64<=2 ^ 2000:=e9 (by decide) (by decide);exact_mod_cast this))
end DP
namespace My
open L2 DP MA
theorem Np(T:TopD K mg "product" HS pq)(e:aj P w K mg base 2 "reduced" r9 (ai mg 2 x_)):aj P w K mg base 3 "product" pq (ai mg 2 lG):=by
 refine bH T Uq λj s k f nd=>⟨_,(aA (aN (dL e j k (aa (iO (dX f (vr 0) ao) (dX f (vr 1) ao)) (aa (iO (dX f (vr 0) ao) (dX f (vr 1) ao)) af))))),λds A R h hl=>?_⟩;obtain⟨a,b,c,d,rfl,h1,h2,l,i,m,n,o,q⟩:=h;refine⟨.inr ⟨by omega,m⟩,.inr ⟨by omega,n⟩,rfl,_,⟨_,_,rfl,fu h1 l,fu h2 i,o,rfl⟩,λp r=>?_⟩;have g:=q p r;rw[<-mul_div h2 i] at g;unfold fq at g;rw[<-GJ (fu h2 i)] at g;exact g
theorem Nt(T:TopD K mg "quotient" HV r8)(f:aj P w K mg base 2 "reduced" r9 (ai mg 2 x_)):aj P w K mg base 3 "quotient" r8 (ai mg 2 (λds A R E=>∃a b c d:Int,ds=[.tup [.int a,.int b],.tup [.int c,.int d]]/\lG [.tup [.int a,.int b],.tup [.int d,.int c]] A R E)):=by
 refine bH T Us λk t l g nd=>⟨_,(aA (aN (dL f k l (aa (iO (dX g (vr 0) ao) (dX g (vr 1) ao)) (aa (iO (dX g (vr 0) ao) (dX g (vr 1) ao)) af))))),λds A R h hl=>?_⟩;obtain⟨a,b,c,d,rfl,u,v,d',c',e,h1,h2,m,j,n,o,p,q⟩:=h;cases e;refine⟨.inr ⟨by omega,n⟩,.inr ⟨by omega,o⟩,rfl,_,⟨_,_,rfl,fu h1 m,fu h2 j,p,rfl⟩,λr s=>?_⟩;have i:=q r s;rw[<-mul_div h2 j] at i;unfold fq at i;rw[<-GJ (fu h2 j)] at i;exact i
theorem NG(T:TopD K mg "shares_below" H9 vR)(e:aj P w K mg base 3 "product" pq (ai mg 2 lG)):∀d,aj P w K mg base (d+3) "shares_below" vR (ai mg 3 (B_ d)):=by
 intro d;induction d with
 |zero=>
  refine lK T λds A R RE h=>?_;obtain⟨m,w,x,_,_,h,_⟩:=h;omega
 |succ d c=>
  refine gQ T Iu rfl (by decide) λN RE f D B outer s H E j V k ds A R h hl=>?_;have g:=j.units;have nd:=Iu.nd;refine⟨_,(aD (bP (f_ g (dX g (vr 0) ao) a_) (aA (aN (cG (aa (cU (aa (vr 1) (aa (dX g (vr 0) ao) (aa (vr 2) af)))) af)))) bT)
  (aD (dS 3 nd (cM (dX g (vr 0) ao) (dX g (vr 0) ao)))
  (aD (dS 4 nd (dL e j k (aa (vr 2) (aa (cU (aa (dX g (vr 0) ao) (aa (vr 3) af))) af))))
  (aD (dS 5 nd (dL e j k (aa (vr 2) (aa (cU (aa (dX g (vr 0) ao) (aa (vr 3) af))) af))))
  (aA (aN (cM (dL c j k (aa (dX g (vr 0) ao) (aa (cM (vr 1) a_) (aa (vr 4) af)))) (dL c j k (aa (dX g (vr 0) ao) (aa (cM (vr 1) a_) (aa (vr 5) af))))))))))),?_⟩
  obtain⟨m,w,x,rfl,F,hd,W,X,i,o,q⟩:=h;have Y:(1000:Nat)<=sizeLine:=by decide
  cases m with
  |wt n=>exact⟨show 3<=sizeLine by decide,show 1<=sizeLine by decide,q _ _ Gr.push aH (aF _)⟩
  |bQ l r a b=>
   have G:max a.deep b.deep+1<d+1:=hd;obtain⟨u,Z,v,r4,p,t⟩:=F;have ll:("l":Str).length=1:=by decide+kernel
   have lr:("r":Str).length=1:=by decide+kernel
   have al:∀x y:Str,(x++y).length=x.length+y.length:=λx y=>mh;have np:=dD i;have dp:=c_ x;have o:(rf x).1*18 ^ (max a.deep b.deep+1)<=1000000000:=o;have n1:(rf (x*((r:Rat)/((l+r:Int):Rat)))).1<=(rf x).1*18:=dZ (num_mul (by omega) (pX (by omega) (by omega))) (nM (by omega) (by omega));have n2:(rf (x*((l:Rat)/((l+r:Int):Rat)))).1<=(rf x).1*18:=dZ (num_mul (by omega) (pX (by omega) (by omega))) (nM (by omega) (by omega));obtain⟨k1,_,k0⟩:=Di o n1 np;obtain⟨_,k2,_⟩:=Di o n2 np;have I:0<x*((r:Rat)/((l+r:Int):Rat)):=bz.step_pos u v i;have p2:0<x*((l:Rat)/((l+r:Int):Rat)):=by
    have:=bz.step_pos (l:=r) (r:=l) v u i;rwa [add_comm r l] at this
   have m1:(rf x).1*r<=1000000000*18:=ee k0 (by omega) (by omega) (by omega);have m2:(rf x).1*l<=1000000000*18:=ee k0 (by omega) (by omega) (by omega);have J:(18:Int)<2 ^ 64:=by decide
   refine⟨show 2<=sizeLine by decide,rfl,_,_,_,_,rfl,np,dp,by omega,by omega,by omega,by omega,Cw (by omega),λA1 L=>?_⟩;refine⟨show 2<=sizeLine by decide,rfl,_,_,_,_,rfl,np,dp,by omega,by omega,by omega,by omega,Cw (by omega),λA2 M=>?_⟩;rw[gU];refine⟨by omega,rfl,a,_,_,rfl,p,by omega,by omega,by rw[al];omega,I,k1,λA3 q3 O Q _=>?_⟩;refine⟨by omega,rfl,b,_,_,rfl,t,by omega,by omega,by rw[al];omega,p2,k2,λS q4 z U _=>?_⟩;have z1:=kO (m:=a) (by omega);have z2:=kO (m:=b) (by omega);have C:Gr A S:=((L.trans M).trans O).trans z;refine kD (z.get Q) U (by simp[nD];omega) (q _ _ (C.trans Gr.push) ?_ C.len);rw[aH];simp[bg]
theorem NF(T:TopD K mg "shares" H8 nA)(a:aj P w K mg base 9 "check_mobile" kR (ai mg 1 oz))(b:aj P w K mg base 9 "shares_below" vR (ai mg 3 (B_ 6))):aj P w K mg base 10 "shares" nA (ai mg 1 qt):=by
 refine bH T Ux λc j d k nd=>⟨_,(aD (cV (dL a c d (aa (vr 0) af)))
  (aA (aN (dL b c d (aa (vr 0) (aa a_ (aa (cU (aa ao (aa ao af))) af))))))),λds A R h hl=>?_⟩
 obtain⟨m,rfl,f,hd,q⟩:=h;refine⟨rfl,_,⟨m,rfl,f,hd,rfl⟩,λl g=>?_⟩;have n:(D.tup [.int 1,.int 1])=fq 1:=rfl;refine⟨show 2<=sizeLine by decide,rfl,m,_,1,rfl,f.arms,by omega,by omega,by decide+kernel,by decide,?_,λo r i h2 l2=>q _ _ (g.trans i) h2 (cR g.len l2)⟩;have p:=pF hd;have e:(18:Int) ^ 5=1889568:=by decide
 rw[e] at p;show(1:Int)*18 ^ m.deep<=1000000000;omega
end My
namespace DP
open L2 MA
def bD:Option (Str×Str)->D
 |some p=>.tup [.str p.1,.str p.2]
 |none=>.aC
def qp:Ct:=λds A R _=>∃m,ds=[enc m]/\Wf m/\m.deep<=5/\∀A',Gr A A'->R (bD (b9 [] (bg m "" 1))) A'
theorem oX(k:Key)(v:D)(c:Key):∀kvs:List (Key×D),bf (cy kvs k v) c=if k=c then some v else bf kvs c:=by
 intro kvs;by_cases f:(kvs.any λb=>decide (b.1=k))=true
 .have e:cy kvs k v=kvs.map λb=>if b.1=k then (b.1,v) else b:=by
   unfold cy;rw[av f]
  rw[e];clear e;induction kvs with
  |nil=>simp at f
  |cons p r i=>
   by_cases d:p.1=k
   .rw[cg,av d]
    unfold bf;by_cases a:k=c
    .rw[av a,av (by rw[<-a];exact d)]
    .rw[ay a,ay (λz=>a (by rw[<-d];exact z))]
     rw[ay (λz=>a (by rw[<-d];exact z))];by_cases h:(r.any λb=>decide (b.1=k))=true
     .rw[i h,ay a]
     .have:r.map (λb=>if b.1=k then (b.1,v) else b)=r:=by
       rw[sR (g:=id)]
       .simp
       .intro q j
        rw[ay]
        .rfl
        .intro z
         exact h (mu.mpr ⟨q,j,dg z⟩)
      rw[this]
   .have h:(r.any λb=>decide (b.1=k))=true:=by simpa[d] using f
    rw[cg,ay d];unfold bf;by_cases a:p.1=c
    .rw[av a,ay (λz=>d (by rw[z];exact a)),av a]
    .rw[ay a,ay a]
     exact i h
 .have e:cy kvs k v=kvs++[(k,v)]:=by
   unfold cy;rw[ay f]
  rw[e];clear e;induction kvs with
  |nil=>simp[bf]
  |cons p r i=>
   have d:p.1≠k:=λz=>f (by simp[z]);have h:¬(r.any λb=>decide (b.1=k))=true:=λz=>f (by simp[z]);show(if p.1=c then some p.2 else bf (r++[(k,v)]) c)=if k=c then some v else (if p.1=c then some p.2 else bf r c)
   by_cases a:p.1=c
   .rw[av a,ay (λz=>d (by rw[z];exact a)),av a]
   .rw[ay a,ay a]
    exact i h
theorem SR(kvs:List (Key×D))(k:Key)(v:D):(cy kvs k v).length<=kvs.length+1:=by
 unfold cy;split<;>simp
theorem Gi{A:Ar}{r:Nat}{kvs:List (Key×D)}{y v:D}{k:Key}{R:Ar->Prop}(h:A[r]?=some (.dct kvs))(a:fM y=some k)(hl:kvs.length<sizeLine)(q:R (A.set r (.dct (cy kvs k v)))):sq r y v A R:=by
 unfold sq;simp only[h,a];exact⟨hl,q⟩
theorem NZ{A:Ar}{r:Nat}{c c':C}(h:A[r]?=some c):(A.set r c')[r]?=some c':=by
 rw[dJ (b8.mp h).1]
theorem ET(x:Rat):(toQ (fq x)).canLay0=true:=by simp[fq,toQ,bF,canLay0,canLayAll0]
theorem LX(x:Rat):(toQ (fq x)).depth<=64:=by simp[fq,toQ,bF,PyData.depth,depthAll]
theorem Ms(x y:Rat):PyData.eqv (toQ (fq x)) (toQ (fq y))=decide (x=y):=by
 by_cases h:x=y
 .subst h
  simp[fq,toQ,bF,PyData.eqv,eqvAll]
 .rw[d7 h]
  have:¬((rf x).1=(rf y).1/\(rf x).2=(rf y).2):=λz=>h (Tc (Prod.ext z.1 z.2));by_cases h1:(rf x).1=(rf y).1
  .have h2:¬(rf x).2=(rf y).2:=λz=>this ⟨h1,z⟩
   simp[fq,toQ,bF,PyData.eqv,eqvAll,h2]
  .simp[fq,toQ,bF,PyData.eqv,eqvAll,h1]
theorem zN{x y:Rat}{A:Ar}{R:DK}(k:R (.bl (!decide (x=y))) A):fE true (fq x) (fq y) A R:=by
 unfold fE;have h1:bO A (fq x)=toQ (fq x):=rfl;have h2:bO A (fq y)=toQ (fq y):=rfl;rw[h1,h2];have:=LX x;refine⟨rfl,rfl,ET x,ET y,by omega,?_⟩;rw[Ms];exact k
theorem DQ{pre:List (Str×Str×Rat)}{p:Str×Str×Rat}{n:Str}:(pre++[p]).find? (λq=>decide (q.2.1=n))=match pre.find? (λq=>decide (q.2.1=n)) with|some q=>some q|none=>if p.2.1=n then some p else none:=by
 rw[find?_append];cases pre.find? (λq=>decide (q.2.1=n)) with
 |some q=>rfl
 |none=>
  by_cases h:p.2.1=n
  .simp[h]
  .simp[h]
end DP
namespace My
open L2 DP MA
theorem MJ(T:TopD K mg "bar" Hr nk)(f:aj P w K mg base 10 "shares" nA (ai mg 1 qt)):aj P w K mg base 11 "bar" nk (ai mg 1 qp):=by
 refine bH T TX λO Y Q o nd=>⟨_,(aD (dS 1 nd yD)
  (aD (eN d_ rfl (cY (dL f O Q (aa (vr 0) af))) (mS rfl (gu (dG 2 nd) (gu (dG 3 nd) (gu (dG 4 nd) mT)))) (aA (bP (wF o (vr 3) (vr 1)) (aA (Dy o (vr 1) (vr 3) (cU (aa (vr 2) (aa (vr 4) af))) rfl)) (aA (bP (nE o (dX o (dX o (vr 1) (vr 3)) ao) (vr 4)) (aA (aN (cU (aa (dX o (dX o (vr 1) (vr 3)) ao) (aa (vr 2) af))))) bT)))))
  (aA (aN jQ)))),λds A R h hl=>?_⟩
 obtain⟨m,rfl,S,hd,q⟩:=h;obtain⟨r,k⟩:∃t,t=b9 [] (bg m "" 1):=⟨_,rfl⟩;rw[<-k] at q;refine⟨rfl,m,rfl,S,hd,λU M H h1 l1=>?_⟩;have l1:A.length+1<=M:=by simpa using l1
 refine ef h1 ?_;have ln:=nD m "" 1;have nl:=kO hd;have hz:(1000:Nat)<=sizeLine:=by decide
 have V:=H.get (aH (A:=A) (c:=C.dct []));refine eL (λrest τ A'=>∃(pre a:List (Str×Str×Rat)) (kvs:List (Key×D)) (x y z:Option D),rest=a.map nB/\τ=[some (enc m),some (.ref A.length),x,y,z]/\pre++a=bg m "" 1/\b9 pre a=r/\A'[A.length]?=some (.dct kvs)/\kvs.length<=pre.length/\(∀n:Str,bf kvs (Sum.inr n)=(pre.find? λq=>decide (q.2.1=n)).map λp=>.tup [.str p.1,fq p.2.2])/\cz A.length U A'/\A.length+1<=A'.length) ?_ ?_ ?_ _ _ _ ⟨[],bg m "" 1,[],none,none,none,rfl,rfl,rfl,k.symm,V,aF _,λn=>rfl,cz.refl,by have:=H.len;simpa using this⟩
 .rintro rest τ A' ⟨pre,a,kvs,x,y,z,_,_,_,_,_,_,_,b,_⟩
  exact b M _ (by omega) h1
 .rintro v rest τ A' ⟨pre,a,kvs,x,y,z,e,rfl,I,d,s,W,J,b,u⟩ Z N
  cases a with
  |nil=>cases e
  |cons p a=>
   cases e;obtain⟨l,n,i⟩:=p;have g:=J n;have X:pre.length<=32:=by
    have:(pre++(l,n,i)::a).length=(bg m "" 1).length:=by rw[I]
    simp at this;omega
   unfold b9 at d;refine⟨rfl,rj s rfl ?_⟩;cases j:pre.find? (λq=>decide (q.2.1=n)) with
   |none=>
    rw[j] at g d;have g:bf kvs (Sum.inr n)=none:=g;rw[g];refine⟨show 2<=sizeLine by decide,Gi s rfl (by omega) ?_⟩;refine N _ _ ⟨pre++[(l,n,i)],a,_,_,_,_,rfl,rfl,by simpa using I,d,NZ s,?_,λn'=>?_,b.trans cz.set,by simpa using u⟩
    .have:=SR kvs (Sum.inr n) (.tup [.str l,fq i])
     simp;omega
    .rw[oX,DQ]
     by_cases E:n=n'
     .subst E
      rw[av rfl,j];simp
     .rw[ay (λz=>E (Sum.inr.inj z)),J n']
      cases pre.find? (λq=>decide (q.2.1=n')) with
      |some q=>rfl
      |none=>simp[E]
   |some B=>
    rw[j] at g d;have g:bf kvs (Sum.inr n)=some (.tup [.str B.1,fq B.2.2]):=g;rw[g];refine jU s rfl g ?_;refine zN ?_;by_cases L:B.2.2=i
    .have d:(if B.2.2=i then b9 (pre++[(l,n,i)]) a else some (B.1,l))=r:=d
     rw[av L] at d;refine cN (λc=>absurd L c) (λ_=>?_);refine N _ _ ⟨pre++[(l,n,i)],a,kvs,_,_,_,rfl,rfl,by simpa using I,d,s,by simp;omega,λn'=>?_,b,u⟩;rw[DQ,J n'];cases F:pre.find? (λq=>decide (q.2.1=n')) with
     |some q=>rfl
     |none=>
      by_cases E:n=n'
      .subst E
       rw[j] at F;cases F
      .simp[E]
    .have d:(if B.2.2=i then b9 (pre++[(l,n,i)]) a else some (B.1,l))=r:=d
     rw[ay L] at d;refine cN (λ_=>?_) (λc=>absurd c L);refine jU s rfl g ?_;refine⟨show 2<=sizeLine by decide,?_⟩;have G:=q A' (Gr.FN (Gr.push.trans H) (aF _) b);rw[<-d] at G;exact G
 .rintro τ A' ⟨pre,a,kvs,x,y,z,e,rfl,I,d,s,W,J,b,u⟩
  cases a with
  |cons p a=>cases e
  |nil=>
   have G:=q A' (Gr.FN (Gr.push.trans H) (aF _) b);rw[<-d] at G;exact G
theorem MM(T:TopD K mg "_law_cell_at" G5 vm)(a:mg "len"=none):aj P w K mg base 1 "_law_cell_at" vm (ai mg 2 BF):=by
 refine bH T TF λi j l d nd=>⟨_,(aD (bP (wD (vr 1) (dQ gp fL a gD (aa (vr 0) af))) (aA (aN (dX d (vr 0) (vr 1)))) bT)
  (aD (bP (f_ d (vr 0) (cG af)) (aA (aN ao)) bT)
  (aA (aN (cM (iO (dX d (vr 0) (qK (vr 1) (dQ gp fL a gD (aa (vr 0) af)))) ao) (vr 1)))))),λds A R h hl=>?_⟩
 obtain⟨ns,k,rfl,g,q⟩:=h;refine cD (λc=>?_) (λc=>?_)
 .obtain⟨v,e,_⟩:=uc g c
  conv=>whnf
  rw[e];exact q v _ Gr.refl
 .refine⟨bG _,Mq ?_⟩
  refine cD (λf=>?_) (λf=>?_)
  .exact q _ _ Gr.push
  .have b:0<(ns.length:Int):=by
    have:=wR.mpr f;omega
   obtain⟨v,e,_⟩:=uc (xs:=ns) (emod_nonneg k (by omega)) (xm k b);refine⟨b,?_⟩;conv=>whnf
   rw[e];exact⟨.inr ⟨by decide,by decide⟩,q _ _ Gr.push⟩
theorem Nd(T:TopD K mg "_law_mixed" G_ vq)(a:aj P w K mg base 1 "_law_cell_at" vm (ai mg 2 BF)):aj P w K mg base 2 "_law_mixed" vq (ai mg 3 BU):=by
 refine bH T TN λc f d j nd=>⟨_,(aD (dS 3 nd (qK (iO (cM (cM (dL a c d (aa (vr 0) (aa (vr 1) af))) (iO ao (vr 1))) ao) ao) ao))
  (aA (aN (qK (qK (cM (cM (iO (vr 3) (vr 3)) (iO ao (vr 3))) (vr 1)) ao) (vr 2))))),λds A R h hl=>?_⟩
 obtain⟨ns,k,m,rfl,e,b,q⟩:=h;refine⟨rfl,ns,k,rfl,e,λi A' g=>?_⟩;refine⟨.inl ⟨by decide,by decide⟩,.inr ⟨by decide,by decide⟩,(by decide:(0:Int)<2147483647),?_⟩;have l:=emod_nonneg ((i+7919*k+1)*48271) (show(2147483647:Int)≠0 by decide);have n:=xm ((i+7919*k+1)*48271) (show(0:Int)<2147483647 by decide);have o:(2147483647:Int)<2 ^ 64:=by decide
 refine⟨.inl ⟨by omega,by omega⟩,.inl ⟨by decide,by decide⟩,(by decide:(0:Int)<2147483629),b,?_⟩;exact q _ _ (emod_nonneg _ (by omega)) (xm _ b) g
theorem MT(T:TopD K mg "_law_draw" G6 kQ)(b:mg "len"=none)(a:aj P w K mg base 2 "_law_mixed" vq (ai mg 3 BU)):aj P w K mg base 3 "_law_draw" kQ (ai mg 3 kr):=by
 refine bH T TH λe k f l nd=>⟨_,(aD (cV (gq fy iC iG gS ie (vr 1) (aa ao af)))
  (aA (aN (dL a e f (aa (vr 0) (aa (dQ gp fL b gD (aa (vr 1) af)) (aa (vr 2) af))))))),λds A R h hl=>?_⟩
 obtain⟨ns,t,m,n,rfl,⟨xs,d,hz⟩,o,j,q⟩:=h;refine⟨fh d,iZ d (by rw[sizeLine];omega) ?_⟩;have c:(A.set t (.lst (xs++[.int 0])))[t]?=some (.lst (xs++[.int 0])):=get_set d;refine rD c ⟨rfl,ns,_,m,rfl,by omega,j,λi A' h0 h1 g=>?_⟩;exact q i A' h0 h1 (cz.set.trans g.but) (Tw.gr ⟨_,c,by simpa using hz⟩ g)
theorem Nn(T:TopD K mg "_law_pick" Hi nj)(c:mg "len"=none)(a:aj P w K mg base 3 "_law_draw" kQ (ai mg 3 kr)):aj P w K mg base 4 "_law_pick" nj (ai mg 3 lF):=by
 refine bH T TR λd o e g nd=>⟨_,(aA (aN (dX g (vr 2) (dL a d e (aa (vr 0) (aa (vr 1) (aa (dQ gp fL c gD (aa (vr 2) af)) af))))))),λds A R h hl=>?_⟩;obtain⟨ns,t,r,xs,n,rfl,f,d,e,j,k,q⟩:=h;have p:=wR.mpr e;refine rD d ⟨rfl,ns,t,_,n,rfl,j,k,by omega,λi A' h0 h1 b t'=>?_⟩;obtain⟨v,l,m⟩:=uc h0 h1;exact fY (b r _ f d) l (q v A' m b t')
theorem Ci:("abcdefghijklmnopqrstuvwxyz":Str).cps.toList=(range 26).map (·+97):=by decide+kernel
theorem J'{k:Int}(h0:0<=k)(h1:k<26):∃c,cX ("abcdefghijklmnopqrstuvwxyz":Str).cps.toList k=some c/\97<=c/\c<=122:=by
 obtain⟨c,hc,a⟩:=uc (xs:=("abcdefghijklmnopqrstuvwxyz":Str).cps.toList) h0 (by rw[Ci];simpa using h1);refine⟨c,hc,?_⟩;rw[Ci] at a;obtain⟨j,b,rfl⟩:=aX.mp a;have:=mem_range.mp b;omega
end My
namespace L2
theorem kj.QW{P:Program}{w:World}{K:Frag}{mg:au}{base:Heap}{x:Str}{st:Stmt}{N ps:List Str}{k:Nat}{sp:Sp}{f:Addr}{fd:FuncData}(F:kj K x x st f fd)(S:aV N ps (aI st))(len:∀vs H Q E,sp vs H Q E->vs.length=ps.length)
  (b:∀(f:Addr) (a:Value) (A:Around) (outer:List Env) (s:Shared) (H:Hp) (vs:List V) (Q:VK) (E:XK),dz k (A.deeper (envOfC x (aI st) s.heap.objs.size f a))->sp vs H Q E->
   ∃t,dw (cK (bI P w) P w K mg base N x (aI st) f a A outer s H E) (ig st) t/\t {nx:=λ_ H'=>Q .aC H',rt:=Q} (start N vs) H):gG P w K mg base (bI P w) (k+1) f fd ps sp:=by
 obtain⟨h,i,kV,doc,pm,an,a,ct,e,rfl,lk,c⟩:=F.ex;exact DV lk c S len λA outer s H vs Q E g d=>b f a A outer s H vs Q E g d
end L2
namespace DP
open L2 MA
theorem NO{P:Program}{w:World}{K:Frag}{mg:au}{base:Heap}{x:Str}{st:Stmt}{Nm ps:List Str}{k n:Nat}{S:Ct}{u:Addr}{fd:FuncData}(T:kj K x x st u fd)(Sc:aV Nm ps (aI st))(F:ps.length=n)(X:ps.length<=Nm.length)
  (j:∀(N:En) (RE:DX) (f:Addr) (g:Value) (B:Around) (outer:List Env) (s:Shared) (H:Hp) (E:XK),dz k (cK (bI P w) P w K mg base Nm x (aI st) f g B outer s H E).A->
   Raises (cK (bI P w) P w K mg base Nm x (aI st) f g B outer s H E) (EL mg N RE)->Passes (bI P w) (cK (bI P w) P w K mg base Nm x (aI st) f g B outer s H E) (EL mg N RE)->
   ∀ds A R,S ds A R RE->ds.length=n->∃m,dw (cK (bI P w) P w K mg base Nm x (aI st) f g B outer s H E) (ig st) (cQ mg N m)/\m {nx:=λ_ A'=>R .aC A',rt:=R} (kU (Nm.length - n) ds) A):gG P w K mg base (bI P w) (k+1) u fd ps (ai mg n S):=by
 refine T.QW Sc (λvs H Q E h=> ?_) λf g A outer s H vs Q E G h=> ?_
 .obtain⟨A,ι,ds,R,RE,hl,_,o,_⟩:=h
  rw[<-ak.length o,hl,F]
 .obtain⟨p,l,ds,R,RE,hl,ra,o,J,y,L⟩:=h
  have D:∀C a H',EL mg ⟨p,l,H⟩ RE C a H'->E C none H':=λC a H' z=>by
   obtain⟨c,A',ι',⟨b,rfl,hc⟩,ex,r,q⟩:=z
   exact L c A' ι' H' b q hc ex r
  obtain⟨m,M,O⟩:=j ⟨p,l,H⟩ RE f g A outer s H E G
   (λpins σ H1 t e h' C args I U z=>GH pins σ H1 t e h' C args I U (D _ _ _ z))
   (λpins σ H1 t e s' I z=>F2 pins σ H1 t e s' I (by
    obtain⟨a,C,H',h1,h2,V⟩:=z
    exact⟨a,C,H',h1,h2,D _ _ _ V⟩)) ds p R J hl
  have W:=ak.length o
  refine⟨_,M,p,l,_,_,⟨ra,⟨?_,λi d q=> ?_⟩,ra.refl⟩,O,⟨λτ A' ι' σ H' q e r _=>y _ A' ι' H' _ q e r rfl,y,λ_ _ _ _ _ q _ _ _=>q.elim,λ_ _ _ _ _ q _ _ _=>q.elim⟩⟩
  .simp[kU,L2.start]
   omega
  .obtain⟨v,h1,h2⟩:=ak.get o (zD ds _ i d q)
   refine⟨v,?_,h2⟩
   have hi:=(b8.mp h1).1
   unfold L2.start
   rw[iI (by simpa using hi),bW,h1]
   rfl
def BN:Ct:=λds A R _=>∃ns,ds=[.fl ns]/\∀A',R (.bl true) A'
def pN:Sp:=λvs H Q _=>∃(a:Addr) (o:Obj) (ns:List Int),vs=[.ref a]/\H a=some (.bK o (.lst (ns.map V.int)))/\∀H',Q (.bl true) H'
theorem UQ{mg:au}{vs:List V}{H:Hp}{Q:VK}{E:XK}(h:pN vs H Q E):ai mg 1 BN vs H Q E:=by
 obtain⟨a,o,ns,rfl,h,q⟩:=h;refine⟨[],λ_=>a,[.fl ns],λv _=>v=.bl true,λ_ _=>False,rfl,⟨λr c h=>by simp at h,λr s b=>by simp at b⟩,⟨_,[],rfl,⟨a,o,rfl,h⟩,rfl⟩,⟨ns,rfl,λ_=>rfl⟩,λv A' ι' H' u e _ _ r=>?_,λ_ _ _ _ _ z=>z.elim⟩;subst e;cases r;exact q _
def ni(o:Obj):Bool:=match o.cls with
 |.type t=> !(decide (t="list"))
 |_=>true
theorem QI{K:Frag}(h:K.all (λp=>ni p.2)=true){a:Addr}{o:Obj}(e:K.lookup a=some o):ni o=true:=by
 induction K with
 |nil=>cases e
 |cons p r b=>
  have h':ni p.2=true/\List.all r (λp=>ni p.2)=true:=by simpa using h
  rw[List.lookup] at e;split at e
  .cases e
   exact h'.1
  .exact b h'.2 e
theorem NR{K:Frag}(b:K.all (λp=>ni p.2)=true){H:Hp}{a:Addr}{ns:List Int}(d:tV H)(f:aR K H a (ns.map V.int)):pN [.ref a] H (λv _=>v=.bl true) λ_ _ _=>False:=by
 rcases f with (e|⟨o,e⟩)|⟨o,its,n,e,c,_⟩
 .rcases d a with z|⟨o,xs,z⟩
  .rw[z] at e;cases e
  .rw[z] at e;cases e
 .exact⟨a,o,ns,rfl,e,λ_=>rfl⟩
 .have:=QI b e
  unfold ni at this;rw[c] at this;simp at this
theorem pw_len:∀(ys ss:List Str),ys.Pairwise strLt->(∀x∈ys,x∈ss)->ys.length<=ss.length
 |[],_,_,_=>bG _
 |y::r,ss,d,a=>by
  have p:=jC.mp d;have b:=a y (bh ..);have:=pw_len r (ss.erase y) p.2 λx c=>(Ba (Ao (p.1 x c)).symm).mpr (a x (aZ _ c));rw[AZ b] at this;have:=A9 b;simp;omega
def BS:Ct:=λds A R _=>∃r xs,ds=[.ref r]/\A[r]?=some (.lst (xs.map fq))/\xs.length<=32/\(∀x∈xs,jH x)/\xs≠[]/\∀A' q,Gr A A'->A'[q]?=some (.lst ((lw xs).map D.int))->A.length<=q->R (.ref q) A'
structure Fb(kvs:List (Key×D))(ns:List Str)(s:Str->Rat):Prop where
 keys:kvs.map (·.1)=ns.map Sum.inr
 nd:ns.Nodup
 get:∀n∈ns,bf kvs (Sum.inr n)=some (fq (s n))
def B0:Ct:=λds A R _=>∃m,ds=[enc m]/\Wf m/\m.deep<=5/\b9 [] (bg m "" 1)=none/\∀(A':Ar) (q:Nat) (kvs:List (Key×D)) (ns:List Str),Gr A A'->A'[q]?=some (.dct kvs)->A.length<=q->Fb kvs ns (shr m)->(∀n,n∈ns↔n∈m.names)->R (.ref q) A'
def xX:Ct:=λds A R _=>∃(r:Nat) (kvs:List (Key×D)) (ns:List Str) (s:Str->Rat),ds=[.ref r]/\A[r]?=some (.dct kvs)/\Fb kvs ns s/\ns.length<=32/\ns≠[]/\(∀n∈ns,jH (s n))/\∀(A':Ar) (ys:List Str),Gr A A'->ys.Pairwise strLt->(∀x,x∈ys↔x∈ns)->R (di (ys.zip (lw (ys.map s)))) A'
def xW:Ct:=λds A R RE=>∃m,ds=[enc m]/\Wf m/\m.deep<=5/\∀A',Gr A A'->if b9 [] (bg m "" 1)=none then ∀ys:List Str,ys.Pairwise strLt->(∀x,x∈ys↔x∈m.names)->R (di (ys.zip (lw (ys.map (shr m))))) A' else RE "Never" A'
theorem yW:∀(ps:List (Str×D)) (acc:List (Key×D)) (ns:List Str),acc.map (·.1)=ns.map Sum.inr->ns.Nodup->
  ∃d:List Str,((ps.map λp=>((Sum.inr p.1:Key),p.2)).foldl (λacc p=>cy acc p.1 p.2) acc).map (·.1)=d.map Sum.inr/\d.Nodup/\(∀n,n∈d↔n∈ns\/n∈ps.map (·.1))
 |[],acc,ns,h1,h2=>⟨ns,h1,h2,λn=>by simp⟩
 |p::ps,acc,ns,h1,h2=>by
  have key:∃f:List Str,(cy acc (Sum.inr p.1) p.2).map (·.1)=f.map Sum.inr/\f.Nodup/\∀n,n∈f↔n∈ns\/n=p.1:=by
   by_cases j:(acc.any λc=>decide (c.1=(Sum.inr p.1:Key)))=true
   .have e:cy acc (Sum.inr p.1) p.2=acc.map λc=>if c.1=(Sum.inr p.1:Key) then (c.1,p.2) else c:=by
     unfold cy;rw[av j]
    refine⟨ns,?_,h2,λn=>?_⟩
    .rw[e,bR,<-h1]
     refine sR λc _=>?_;show(if c.1=(Sum.inr p.1:Key) then (c.1,p.2) else c).1=c.1;split<;>rfl
    .have g:p.1∈ns:=by
      obtain⟨c,i,m⟩:=mu.mp j;have:c.1∈acc.map (·.1):=eE i;rw[h1,iF m] at this;obtain⟨x,o,e⟩:=aX.mp this;rw[<-Sum.inr.inj e];exact o
     constructor
     .exact .inl
     .rintro (h|rfl)
      .exact h
      .exact g
   .have e:cy acc (Sum.inr p.1) p.2=acc++[(Sum.inr p.1,p.2)]:=by
     unfold cy;rw[ay j]
    have k:p.1∉ns:=λg=>j (by
     have:(Sum.inr p.1:Key)∈acc.map (·.1):=by rw[h1];exact eE g
     obtain⟨c,i,e⟩:=aX.mp this;exact mu.mpr ⟨c,i,dg e⟩)
    refine⟨ns++[p.1],by rw[e];simp[h1],?_,λn=>by simp⟩;rw[l9];refine⟨h2,by simp,λa l b q=>?_⟩;rw[bM.mp q];exact λz=>k (by rw[<-z];exact l)
  obtain⟨f,k1,k2,k3⟩:=key;obtain⟨d,r,s,t⟩:=yW ps _ f k1 k2;refine⟨d,r,s,λn=>?_⟩;rw[t,k3];simp[or_assoc]
theorem DZ(g:Str->D):∀(ps:List (Str×D)) (acc:List (Key×D)) (n:Str),(∀p∈ps,p.2=g p.1)->(n∈ps.map (·.1)\/bf acc (Sum.inr n)=some (g n))->bf ((ps.map λp=>((Sum.inr p.1:Key),p.2)).foldl (λacc p=>cy acc p.1 p.2) acc) (Sum.inr n)=some (g n)
 |[],acc,n,_,h=>by
  rcases h with h|h
  .simp at h
  .exact h
 |p::ps,acc,n,b,h=>by
  refine DZ g ps _ n (λq c=>b q (aZ _ c)) ?_;by_cases a:p.1=n
  .right
   rw[oX,av (show(Sum.inr p.1:Key)=Sum.inr n by rw[a])];show some p.2=some (g n);rw[b p (bh ..),a]
  .rcases h with h|h
   .rcases aY.mp (show n∈p.1::ps.map (·.1) from h) with e|e
    .exact absurd e.symm a
    .exact .inl e
   .right
    rw[oX,ay (show ¬(Sum.inr p.1:Key)=Sum.inr n from λz=>a (Sum.inr.inj z))];exact h
def vf(p:Str×Str×Rat):D:=.tup [.str p.2.1,fq p.2.2]
theorem zX:∀a:List (Str×Str×Rat),eW (a.map vf)=some ((a.map λp=>(p.2.1,fq p.2.2)).map λp=>((Sum.inr p.1:Key),p.2))
 |[]=>rfl
 |r::a=>by
  have:=zX a;simp only[cg,vf,eW,fM,this]
theorem yz{A:Ar}{r:Nat}{xs:List D}{ps:List (Key×D)}{R:DK}(h:A[r]?=some (.lst xs))(a:eW xs=some ps)(hl:ps.length<=1000)(k:R (.ref A.length) (A++[.dct (pI ps)])):uq r A R:=by
 unfold uq;simp only[h];unfold dctP;rw[a];exact⟨hl,k⟩
end DP
namespace My
open L2 DP MA
theorem Nb(T:TopD K mg "least_whole" HN vK)(k:aj P w K mg base 1 "greatest_divisor" rU (ai mg 2 xT)):aj P w K mg base 2 "least_whole" vK (ai mg 1 BS):=by
 refine bH T Uj λO hR S F nd=>⟨_,(aD (dS 1 nd ao)
  (aD (eN d_ rfl (cY (vr 0)) (dG 2 nd) (aA (dS 1 nd (qJ (iO (vr 1) (dX F (vr 2) ao)) (dL k O S (aa (vr 1) (aa (dX F (vr 2) ao) af)))))))
  (aD (oO none (own:=["fraction"]) (frees:=["bottom"]) (ix:=[1]) (i:=3) nd rfl (by first|exact Or.inl rfl|exact Or.inr rfl) rfl (cY (vr 0)) (λc=>(pG 0 (show(["fraction","bottom"]:List Str).Nodup by decide+kernel))) (λc=>(iO (dX F (vr 0) ao) (qJ (vr 1) (dX F (vr 0) ao)))))
  (aD (dS 4 nd ao)
  (aD (eN d_ rfl (cY (vr 3)) (dG 5 nd) (aA (dS 4 nd (dL k O S (aa (vr 4) (aa (vr 5) af))))))
  (aA (aN (fW none (own:=["number"]) (frees:=["divisor"]) (ix:=[4]) rfl (cY (vr 3)) (λc=>(pG 0 (show(["number","divisor"]:List Str).Nodup by decide+kernel))) (λc=>(qJ (vr 0) (vr 1))))))))))),λds A R h hl=>?_⟩
 obtain⟨r,xs,rfl,H,l,hok,I,q⟩:=h;have hz:(1000:Nat)<=sizeLine:=by decide
 have Co:(1152921504606846976:Int)<2 ^ 64:=by decide
 obtain⟨b0,_,b3⟩:=qD xs 1 (by decide);refine ef H ?_;refine eL (λrest τ A'=>∃(pre j:List Rat) (x:Option D),rest=j.map fq/\τ=[some (.ref r),some (.int (bot pre 1)),x,none,none,none]/\pre++j=xs/\Gr A A') ?_ ?_ ?_ _ _ _ ⟨[],xs,none,rfl,rfl,rfl,Gr.refl⟩
 .rintro rest τ A' ⟨pre,j,x,_,_,_,g⟩
  exact g.get H
 .rintro v rest τ A' ⟨pre,j,x,e,rfl,o,g⟩ Nx J
  cases j with
  |nil=>cases e
  |cons y j=>
   cases e;have t:=hok y (by rw[<-o];simp);have G:=c_ y;have U:=t.den;obtain⟨V,_,_⟩:=qD pre 1 (by decide);have W:0<(Int.gcd (bot pre 1) (rf y).2:Int):=by
    have:=Int.gcd_pos_of_ne_zero_right (bot pre 1) (show(rf y).2≠0 by omega);omega
   have L:(Int.gcd (bot pre 1) (rf y).2:Int)<=(rf y).2:=Int.le_of_dvd G (Int.gcd_dvd_right _ _);refine⟨.inr ⟨by omega,by omega⟩,rfl,_,⟨_,_,rfl,by omega,by omega,rfl⟩,λs h1=>⟨⟨W,zE W (IG (by omega))⟩,?_⟩⟩;refine J _ _ ⟨pre++[y],j,some (fq y),rfl,?_,by simpa using o,g.trans h1⟩;rw[CF];rfl
 rintro τ s ⟨pre,j,x,e,rfl,o,L⟩;cases j with
 |cons p j=>cases e
 |nil=>
 have o:pre=xs:=by simpa using o
 subst o;have u:=L.get H;refine ef u ?_;refine iN (f:=λd=>match d with|.tup [.int a,.int b]=>.int (a*(bot pre 1/b))|d=>d) u _ _ (λd hd=>?_) (by simp;omega) ?_
 .obtain⟨y,hy,rfl⟩:=aX.mp hd
  have t:=hok y hy;have x1:=dD t.pos;have G:=c_ y;have U:=t.den;have x4:=t.num;exact⟨[fq y],rfl,λQ M=>⟨⟨G,zE G (IG U)⟩,.inl ⟨by omega,by omega⟩,M⟩⟩
 have eu:(pre.map fq).map (λd=>match d with|.tup [.int a,.int b]=>D.int (a*(bot pre 1/b))|d=>d)=(ups pre).map D.int:=by
  unfold ups;rw[bR,bR];rfl
 rw[gc,eu];have z:(ups pre).length=pre.length:=by simp[ups]
 have N:=aH (A:=s) (c:=C.lst ((ups pre).map D.int));have g2:Gr s (s++[C.lst ((ups pre).map D.int)]):=Gr.push;generalize Wl:s++[C.lst ((ups pre).map D.int)]=A2 at*
 refine ef N ?_;refine eL (λrest τ A'=>∃(m j:List Int) (y:Option D),rest=j.map D.int/\τ=[some (.ref r),some (.int (bot pre 1)),x,some (.ref s.length),some (.int (gv m 0)),y]/\m++j=ups pre/\Gr A2 A') ?_ ?_ ?_ _ _ _ ⟨[],ups pre,none,rfl,rfl,rfl,Gr.refl⟩
 .rintro rest τ A' ⟨m,j,y,_,_,_,g⟩
  exact g.get N
 .rintro v rest τ A' ⟨m,j,y,e,rfl,hd,g⟩ Nx J
  cases j with
  |nil=>cases e
  |cons n j=>
   cases e;obtain⟨X,_⟩:=Jf hok l (show n∈ups pre by rw[<-hd];simp);obtain⟨V,_⟩:=za m 0 (Int.le_refl 0);refine⟨rfl,_,⟨_,_,rfl,V,by omega,rfl⟩,λY h3=>?_⟩;refine J _ _ ⟨m++[n],j,some (.int n),rfl,?_,by simpa using hd,g.trans h3⟩;rw[Ea];rfl
 rintro τ Y ⟨m,j,y,e,rfl,hd,Z⟩;cases j with
 |cons p j=>cases e
 |nil=>
 have hd:m=ups pre:=by simpa using hd
 subst hd;obtain⟨n0,B⟩:∃n,n∈ups pre:=by
  cases e:ups pre with
  |nil=>
   rw[e] at z;exact absurd (List.length_eq_zero_iff.mp z.symm) I
  |cons n r=>exact⟨n,by simp⟩
 obtain⟨X,u1⟩:=Jf hok l B;obtain⟨d0,d1⟩:=NY (Int.le_refl 0) B X;have E:=Z.get N;refine ef E ?_;refine iN (f:=λd=>match d with|.int n=>.int (n/gv (ups pre) 0)|d=>d) E _ _ (λd hd=>?_) (by simp;omega) ?_
 .obtain⟨n,hn,rfl⟩:=aX.mp hd
  exact⟨[.int n],rfl,λQ M=>⟨⟨d0,zE d0 (dZ d1 u1)⟩,M⟩⟩
 have el:((ups pre).map D.int).map (λd=>match d with|.int n=>D.int (n/gv (ups pre) 0)|d=>d)=(lw pre).map D.int:=by
  unfold lw;rw[bR,bR];rfl
 rw[gc,el];have gg:Gr A Y:=(L.trans g2).trans Z;exact q _ _ (gg.trans Gr.push) aH gg.len
theorem Nj(T:TopD K mg "name_shares" Af ny)(b:mg "dict"=none)(a:aj P w K mg base 10 "shares" nA (ai mg 1 qt)):aj P w K mg base 11 "name_shares" ny (ai mg 1 B0):=by
 refine bH T Ir λg v o y nd=>⟨_,(aA (aN (jq (oJ rfl) oM b qb (aa (fW (some 3) (own:=["way","name","share"]) (frees:=[]) (ix:=[]) rfl (cY (dL a g o (aa (vr 0) af))) (λc=>(pA rfl (iA (pG 0 (show(["way","name","share"]:List Str).Nodup by decide+kernel)) (iA (pG 1 (show(["way","name","share"]:List Str).Nodup by decide+kernel)) (iA (pG 2 (show(["way","name","share"]:List Str).Nodup by decide+kernel)) pB))))) (λc=>(cU (aa (vr 1) (aa (vr 2) af))))) af)))),λds A R h hl=>?_⟩;obtain⟨m,rfl,s,hd,t,q⟩:=h;have hz:(1000:Nat)<=sizeLine:=by decide
 refine⟨rfl,m,rfl,s,hd,λz B j h1 l1=>?_⟩;refine ef h1 ?_;have ln:=nD m "" 1;have nl:=kO hd;refine iN (f:=λd=>match d with|.tup [_,n,x]=>.tup [n,x]|d=>d) h1 _ _ (λd hd=>?_) (by simp;omega) ?_
 .obtain⟨p,k,rfl⟩:=aX.mp hd
  exact⟨[.str p.1,.str p.2.1,fq p.2.2],rfl,λQ u=>⟨show 2<=sizeLine by decide,u⟩⟩
 have e:((bg m "" 1).map nB).map (λd=>match d with|.tup [_,n,x]=>D.tup [n,x]|d=>d)=(bg m "" 1).map vf:=by
  rw[bR];rfl
 rw[gc,e];refine yz aH (zX _) (by simp;omega) ?_;obtain⟨k1,k2⟩:=wz t;obtain⟨ns,n1,n2,n3⟩:=yW ((bg m "" 1).map λp=>(p.2.1,fq p.2.2)) [] [] rfl l_;have l:((bg m "" 1).map λp=>(p.2.1,fq p.2.2)).map (·.1)=m.names:=by
  rw[bR,<-pL m "" 1];rfl
 rw[l] at n3;refine q _ _ _ ns ((j.trans Gr.push).trans Gr.push) aH (by have:=j.len;simp;omega) ⟨n1,n2,λn i=>?_⟩ (λn=>by rw[n3];simp);refine DZ (λn=>fq (shr m n)) _ [] n (λp k=>?_) (.inl ?_)
 .obtain⟨r,g,rfl⟩:=aX.mp k
  show fq r.2.2=fq (shr m r.2.1);rw[<-k1 r g]
 .rw[l]
  have:=(n3 n).mp i;simpa using this
theorem Nc(T:TopD K mg "least_weights" HM rY)(b:mg "sorted"=none)(g:mg "tuple"=none)(i:mg "zip"=none)(a:aj P w K mg base 2 "least_whole" vK (ai mg 1 BS)):aj P w K mg base 3 "least_weights" rY (ai mg 1 xX):=by
 refine bH T Ui λE J k F nd=>⟨_,(aD (dS 1 nd (dQ (KL rfl) LJ b boot_sorted (aa (vr 0) af)))
  (aA (aN (LU g i rfl (aa (vr 1) (aa (dL a E k (aa (fW none (own:=["name"]) (frees:=["fractions"]) (ix:=[0]) rfl (cY (vr 1)) (λc=>(pG 0 (show(["name","fractions"]:List Str).Nodup by decide+kernel))) (λc=>(dX F (vr 1) (vr 0)))) af)) af)))))),λds A R h hl=>?_⟩
 obtain⟨r,kvs,ns,j,rfl,v,o,y,s,hok,q⟩:=h;have hz:(1000:Nat)<=sizeLine:=by decide
 refine UC v o.keys o.nd (by omega) λys B l=>?_;have L:=pw_len ys ns B λx k=>(l x).mp k;refine ef aH ?_;refine iN (f:=λd=>match d with|.str n=>fq (j n)|d=>d) aH _ _ (λd hd=>?_) (by simp;omega) ?_
 .obtain⟨n,u,rfl⟩:=aX.mp hd
  exact⟨[.str n],rfl,λQ G=>jU (getElem?_push v) rfl (o.get n ((l n).mp u)) G⟩
 have e:(ys.map D.str).map (λd=>match d with|.str n=>fq (j n)|d=>d)=(ys.map j).map fq:=by
  rw[bR,bR];rfl
 rw[gc,e];have m:ys≠[]:=λz=>by
  cases e:ns with
  |nil=>exact s e
  |cons n t=>
   have:=(l n).mpr (by rw[e];simp);rw[z] at this;cases this
 refine⟨rfl,_,ys.map j,rfl,aH,by simp;omega,λx k=>?_,by simpa using m,λM N C H _=>?_⟩
 .obtain⟨n,u,rfl⟩:=aX.mp k
  exact hok n ((l n).mp u)
 refine VP (C.get (getElem?_push aH)) H ?_;have I:(((ys.map D.str).zip ((lw (ys.map j)).map D.int)).map λp=>D.tup [p.1,p.2])=(ys.zip (lw (ys.map j))).map bx:=by
  rw[List.zip_map,bR];rfl
 rw[I];exact q _ ys (((Gr.push.trans Gr.push)).trans C) B l
theorem M6(T:TopD K mg "least" HL rX){c:Addr}(d:mg "Never"=some (.ref c))(f:excIn K c j8 "ValueError.__new__"=true)(i:aj P w K mg base 11 "bar" nk (ai mg 1 qp))(b:aj P w K mg base 11 "name_shares" ny (ai mg 1 B0))(a:aj P w K mg base 3 "least_weights" rY (ai mg 1 xX)):aj P w K mg base 12 "least" rX (ai mg 1 xW):=by
 refine bH T Uh λu G g O nd=>⟨_,(aD (bP (Az (dL i u g (aa (vr 0) af)) jQ) (aA (kF G rfl d f (aa a_ af))) bT)
  (aA (aN (dL a u g (aa (dL b u g (aa (vr 0) af)) af))))),λds A R h hl=>?_⟩
 obtain⟨m,rfl,v,hd,q⟩:=h;refine⟨rfl,m,rfl,v,hd,λH D=>?_⟩;cases l:b9 [] (bg m "" 1) with
 |some p=>
  have j:=q H D;rw[ay (by rw[l];simp)] at j;exact⟨by decide,j⟩
 |none=>
  refine⟨rfl,m,rfl,v,hd,l,λQ S kvs ns I h2 l2 E o=>?_⟩;have nl:=kO hd;have l1:ns.length<=m.names.length:=by
   have key:∀(xs ys:List Str),xs.Nodup->(∀x∈xs,x∈ys)->xs.length<=ys.length:=by
    intro xs;induction xs with
    |nil=>intro ys _ _;exact bG _
    |cons x r J=>
     intro ys B F;have k:=j9.mp B;have g:=F x (bh ..);have:=J (ys.erase x) k.2 λy s=>(Ba (λz=>k.1 (by rw[<-z];exact s))).mpr (F y (aZ _ s));rw[AZ g] at this;have:=A9 g;simp;omega
   exact key ns m.names E.nd λx g=>(o x).mp g
  have C:ns≠[]:=λz=>by
   have hpos:=bz.zL m;cases e:m.names with
   |nil=>rw[e] at hpos;simp at hpos
   |cons n t=>
    have:=(o n).mpr (by rw[e];simp);rw[z] at this;cases this
  refine⟨rfl,_,kvs,ns,shr m,rfl,h2,E,by omega,C,λn B=>(ID v.arms hd l ((o n).mp B)).w,λL ys M N s=>?_⟩;have j:=q L ((D.trans I).trans M);rw[av l] at j;exact j ys N λx=>by rw[s,o]
end My
namespace DP
open L2 MA
abbrev Tb:=List (Str×Rat)
abbrev bB:=Nat×Str×Str
abbrev aO:=List (Str×List bB)
def bU(s:bB):D:=.tup [.int ((s.1:Nat):Int),.str s.2.1,.str s.2.2]
def aE(T:Tb):List Str:=T.map (·.1)
def bY(T:Tb):List (Key×D):=T.map λp=>((Sum.inr p.1:Key),fq p.2)
noncomputable def dU(T:Tb)(n:Str):Rat:=match T.find? (λp=>decide (p.1=n)) with
 |some p=>p.2
 |none=>0
def gB(n:Str)(p:Tb×Nat):List bB:=if n∈aE p.1 then (aE p.1).map (λo=>(p.2,n,o)) else []
def dY(Ts:List Tb)(n:Str):List bB:=Ts.zipIdx.flatMap (gB n)
def c9(P:aO)(n:Str):List bB:=match P.find? (λp=>decide (p.1=n)) with
 |some p=>p.2
 |none=>[]
def aB(P:aO):List Str:=P.map (·.1)
def ck(P:aO)(s:bB):aO:=if s.2.2∈aB P then P else P++[(s.2.2,c9 P s.2.1++[s])]
def dN(Ts:List Tb):Nat->Nat->aO->aO
 |0,_,P=>P
 |f+1,i,P=>match P[i]? with
  |some p=>dN Ts f (i+1) ((dY Ts p.1).foldl ck P)
  |none=>P
def aJ(Ts:List Tb)(n:Str):aO:=dN Ts 14 0 [(n,[])]
structure lH(T:Tb):Prop where
 nd:(aE T).Nodup
 ne:T≠[]
 len:T.length<=32
 NP:∀p∈T,ql p.2
structure eH(Ts:List Tb)(NN:List Str):Prop where
 len:Ts.length<=7
 tok:∀T∈Ts,lH T
 nn:NN.length<=12
 sub:∀T∈Ts,∀n∈aE T,n∈NN
theorem zb:∀(T:Tb) (n:Str),bf (bY T) (Sum.inr n)=(T.find? (λp=>decide (p.1=n))).map (λp=>fq p.2)
 |[],n=>rfl
 |p::T,n=>by
  show(if (Sum.inr p.1:Key)=Sum.inr n then some (fq p.2) else bf (bY T) (Sum.inr n))=_;by_cases h:p.1=n
  .rw[av (by rw[h]),List.find?_cons_of_pos (by simpa using h)]
   rfl
  .rw[ay (λz=>h (Sum.inr.inj z)),List.find?_cons_of_neg (by simpa using h)]
   exact zb T n
theorem find_some{β:Type}{T:List (Str×β)}{n:Str}:(T.find? (λp=>decide (p.1=n))).isSome=decide (n∈T.map (·.1)):=by
 rw[nH,List.find?_isSome,iH];constructor
 .rintro ⟨p,a,h⟩
  rw[<-iF h];exact eE a
 .intro h
  obtain⟨p,a,e⟩:=aX.mp h;exact⟨p,a,dg e⟩
theorem Eb(T:Tb)(n:Str):(bf (bY T) (Sum.inr n)).isSome=decide (n∈aE T):=by
 rw[zb,isSome_map];exact find_some
theorem Ed{T:Tb}{n:Str}(h:n∈aE T):bf (bY T) (Sum.inr n)=some (fq (dU T n)):=by
 have:=find_some (T:=T) (n:=n);rw[dg (show n∈T.map (·.1) from h)] at this;obtain⟨p,a⟩:=pS.mp this;rw[zb,a];unfold dU;rw[a];rfl
theorem PF(T:Tb):(bY T).map (·.1)=(aE T).map Sum.inr:=by
 unfold bY aE;rw[bR,bR];rfl
theorem ER(T:Tb):((bY T).map λp=>keyOf p.1)=(aE T).map D.str:=by
 unfold bY aE;rw[bR,bR];rfl
theorem wo{T:Tb}(h:lH T){n:Str}(b:n∈aE T):ql (dU T n):=by
 have:=find_some (T:=T) (n:=n);rw[dg (show n∈T.map (·.1) from b)] at this;obtain⟨p,a⟩:=pS.mp this;unfold dU;rw[a];exact h.NP p (kX a)
theorem qy(P:aO)(s:bB):∀n,n∈aB (ck P s)↔n∈aB P\/n=s.2.2:=λn=>by
 unfold ck;split
 .rename_i h
  constructor
  .exact .inl
  .rintro (h'|rfl)
   .exact h'
   .exact h
 .simp[aB]
theorem Kc{P:aO}(s:bB)(h:(aB P).Nodup):(aB (ck P s)).Nodup:=by
 unfold ck;split
 .exact h
 .rename_i d
  unfold aB;rw[eB,l9];refine⟨h,by simp,λa e b c=>?_⟩;simp at c;rw[c];exact λz=>d (by rw[<-z];exact e)
theorem kP:∀(xs ys:List Str),xs.Nodup->(∀x∈xs,x∈ys)->xs.length<=ys.length:=by
 intro xs;induction xs with
 |nil=>intro ys _ _;exact bG _
 |cons x r e=>
  intro ys f b;have a:=j9.mp f;have c:=b x (bh ..);have:=e (ys.erase x) a.2 λy d=>(Ba (λz=>a.1 (by rw[<-z];exact d))).mpr (b y (aZ _ d));rw[AZ c] at this;have:=A9 c;simp;omega
theorem nc{Ts:List Tb}{n:Str}{s:bB}:s∈dY Ts n↔∃T,Ts[s.1]?=some T/\n∈aE T/\s.2.1=n/\s.2.2∈aE T:=by
 unfold dY;rw[gY];constructor
 .rintro ⟨⟨T,i⟩,b,a⟩
  have b:=tE.mp b;unfold gB at a;split at a
  .rename_i c
   obtain⟨o,d,rfl⟩:=aX.mp a;exact⟨T,b,c,rfl,d⟩
  .cases a
 .rintro ⟨T,f,c,e,d⟩
  refine⟨(T,s.1),tE.mpr f,?_⟩;unfold gB;rw[av c];exact aX.mpr ⟨s.2.2,d,by rw[<-e]⟩
theorem yV:∀(ss:List bB) (P:aO) (n:Str),n∈aB (ss.foldl ck P)↔n∈aB P\/n∈ss.map (·.2.2)
 |[],P,n=>by simp
 |s::ss,P,n=>by
  rw[ji,yV ss,qy];simp[or_assoc]
theorem Kd(P:aO)(s:bB):∃X,ck P s=P++X:=by
 unfold ck;split
 .exact⟨[],by simp⟩
 .exact⟨_,rfl⟩
theorem uG:∀(ss:List bB) (P:aO),∃X,ss.foldl ck P=P++X
 |[],P=>⟨[],by simp⟩
 |s::ss,P=>by
  obtain⟨X,e⟩:=Kd P s;obtain⟨Y,a⟩:=uG ss (ck P s);exact⟨X++Y,by rw[ji,a,e,append_assoc]⟩
def TabAt(A:Ar)(t:Nat)(T:Tb):Prop:=A[t]?=some (.dct (bY T))\/∃o,A[t]?=some (.bC o (bY T))
def TabsAt(A:Ar):List Nat->List Tb->Prop
 |[],[]=>True
 |t::ts,T::Ts=>TabAt A t T/\TabsAt A ts Ts
 |_,_=>False
def g9(A:Ar)(r:Nat)(Ts:List Tb):Prop:=∃ts,A[r]?=some (.lst (ts.map D.ref))/\TabsAt A ts Ts
theorem TabAt.gr{A B:Ar}{t:Nat}{T:Tb}(h:TabAt A t T)(g:Gr A B):TabAt B t T:=by
 rcases h with h|⟨o,h⟩
 .exact .inl (g.get h)
 .exact .inr ⟨o,g.get h⟩
theorem TabsAt.gr{A B:Ar}(g:Gr A B):∀{a:List Nat} {Ts:List Tb},TabsAt A a Ts->TabsAt B a Ts
 |[],[],_=>trivial
 |t::a,T::Ts,h=>⟨h.1.gr g,TabsAt.gr g h.2⟩
 |[],_::_,h=>h.elim
 |_::_,[],h=>h.elim
theorem TabsAt.len{A:Ar}:∀{a:List Nat} {Ts:List Tb},TabsAt A a Ts->a.length=Ts.length
 |[],[],_=>rfl
 |t::a,T::Ts,h=>by simp[TabsAt.len h.2]
 |[],_::_,h=>h.elim
 |_::_,[],h=>h.elim
theorem TabsAt.get{A:Ar}:∀{a:List Nat} {Ts:List Tb} {i t:Nat},TabsAt A a Ts->a[i]?=some t->∃T,Ts[i]?=some T/\TabAt A t T
 |[],[],i,t,_,e=>by simp at e
 |t::a,T::Ts,0,_,h,e=>by
  simp at e;subst e;exact⟨T,rfl,h.1⟩
 |t::a,T::Ts,i+1,_,h,e=>by
  obtain⟨b,h1,h2⟩:=TabsAt.get (i:=i) h.2 (by simpa using e);exact⟨b,by simpa using h1,h2⟩
 |[],_::_,_,_,h,_=>h.elim
 |_::_,[],_,_,h,_=>h.elim
theorem g9.gr{A B:Ar}{r:Nat}{Ts:List Tb}(h:g9 A r Ts)(g:Gr A B):g9 B r Ts:=by
 obtain⟨a,h1,h2⟩:=h;exact⟨a,g.get h1,h2.gr g⟩
theorem D0{τ:bL}{A:Ar}{j t:Nat}{ix:List Nat}{te:aM}{R:DK}{T:Tb}(f:D->D)(g:lk τ j=some (.ref t))(l:TabAt A t T)(hl:T.length<=1000)
  (b:∀A':Ar,∀o∈aE T,∀Q:DK,Q (f (.str o)) A'->te ([some (.str o)]++ix.map (lk τ)) A' Q)(k:R (.ref A.length) (A++[.lst ((aE T).map λo=>f (.str o))])):CV (mP none ix (ri (cF j)) nF te) τ A R:=by
 have hz:(1000:Nat)<=sizeLine:=by decide
 have c:(aE T).length=T.length:=by simp[aE]
 have em:((bY T).map λp=>keyOf p.1)=(aE T).map D.str:=ER T;have go:∀(A':Ar) (o:Obj) (d:DK),A'[t]?=some (.bC o (bY T))->d (.ref A'.length) (A'++[.lst ((aE T).map λo=>f (.str o))])->mP none ix (ri (cF j)) nF te τ A' d:=λA' o d h' m=>by
  unfold mP ri cF;rw[g];refine uV h' ?_;rw[em];refine iN (f:=f) h' _ _ (λx q=>?_) (by simp[c];omega) ?_
  .obtain⟨n,r,rfl⟩:=aX.mp q
   exact⟨[.str n],rfl,λQ s=>b A' n r Q s⟩
  .rw[gc,bR]
   exact m
 rcases l with h|⟨o,h⟩
 .have a:=b_ h
  refine .inl ⟨t,bY T,h,λo=>go _ o _ (dJ a) ⟨bY T,?_,?_⟩⟩
  .rw[iI (by simpa using a)]
   exact dJ a
  .have e:(A.set t (.bC o (bY T))++[C.lst ((aE T).map λo=>f (.str o))]).set t (.dct (bY T))=A++[.lst ((aE T).map λo=>f (.str o))]:=by
    rw[wX _ _ (by simpa using a),set_set];congr 1;refine qe λi=>?_;by_cases hi:i=t
    .rw[hi,dJ a,h]
    .rw[dI (Ne.symm hi)]
   rw[e];have u:(A.set t (C.bC o (bY T))).length=A.length:=by simp
   rw[u];exact k
 .exact .inr (go A o R h k)
def Cd:Ct:=λds A R _=>∃r n Ts,ds=[.ref r,.str n]/\g9 A r Ts/\Ts.length<=7/\(∀T∈Ts,T.length<=32)/\∀A' q,Gr A A'->A'[q]?=some (.lst ((dY Ts n).map bU))->A.length<=q->R (.ref q) A'
theorem oQ(ds:List D):(iu ds).length=ds.length:=by simp[iu]
theorem DH{ds:List D}{i:Nat}{x:D}(h:ds[i]?=some x):(iu ds)[i]?=some (.tup [.int ((i:Nat):Int),x]):=by
 unfold iu;rw[bW,AY,h];simp
theorem Jj{Ts:List Tb}{i:Nat}{T:Tb}(h:Ts[i]?=some T):Ts.zipIdx.take (i+1)=Ts.zipIdx.take i++[(T,i)]:=by
 rw[p5,AY,h];simp
theorem UZ(n:Str)(p:Tb×Nat)(h:p.1.length<=32):(gB n p).length<=32:=by
 unfold gB;split
 .simp[aE];exact h
 .simp
theorem DT(n:Str):∀(l:List (Tb×Nat)),(∀p∈l,p.1.length<=32)->(l.flatMap (gB n)).length<=32*l.length
 |[],_=>by simp
 |p::l,h=>by
  have h1:=DT n l λq a=>h q (aZ _ a);have h2:=UZ n p (h p (bh ..));rw[nX,dH,gC];omega
end DP
namespace My
open L2 DP MA
theorem NI(T:TopD K mg "steps_from" H_ vS)(a:mg "enumerate"=none):aj P w K mg base 1 "steps_from" vS (ai mg 2 Cd):=by
 refine bH T Uy λO S U E nd=>⟨_,(aD (dS 2 nd (cG af))
  (aD (eN d_ rfl (Dq a (aa (vr 0) af)) (mS rfl (gu (dG 3 nd) (gu (dG 4 nd) mT))) (aA (bP (Vw E (vr 1) (vr 4)) (aA (cV (gq fy sX w4 zK yw (vr 2) (aa (uu (fW none (own:=["other"]) (frees:=["place","name"]) (ix:=[3,1]) rfl (qO (vr 4)) (λc=>(pG 0 (show(["other","place","name"]:List Str).Nodup by decide+kernel))) (λc=>(cU (aa (vr 1) (aa (vr 2) (aa (vr 0) af))))))) af)))) bT)))
  (aA (aN (vr 2))))),λds A R h hl=>?_⟩
 obtain⟨r,n,Ts,rfl,F,V,f,q⟩:=h;obtain⟨b,h1,h2⟩:=F;have hz:(1000:Nat)<=sizeLine:=by decide
 have m:=h2.len;have len:∀i,((Ts.zipIdx.take i).flatMap (gB n)).length<=224:=λi=>by
  have:=DT n (Ts.zipIdx.take i) λp G=>by
   have:=tE.mp (pW G);exact f _ (dc this)
  rw[lX,wU] at this;omega
 refine⟨bG _,zp (getElem?_push h1) ?_⟩;refine eL (λrest τ A'=>∃(i:Nat) (x y:Option D),i<=b.length/\rest=(iu (b.map D.ref)).drop i/\τ=[some (.ref r),some (.str n),some (.ref A.length),x,y]/\A'[A.length]?=some (.lst (((Ts.zipIdx.take i).flatMap (gB n)).map bU))/\Gr A A') ?_ ?_ ?_ _ _ _ ⟨0,none,none,bG _,rfl,rfl,aH,Gr.push⟩
 .rintro rest τ A' ⟨i,x,y,_,_,_,_,g⟩
  exact g.get h1
 .rintro v rest τ H ⟨i,x,y,hi,e,rfl,hc,g⟩ W z
  by_cases j:i<b.length
  .obtain⟨t,B⟩:∃t,b[i]?=some t:=⟨b[i],br j⟩
   obtain⟨T,C,I⟩:=h2.get B;have k:=I.gr g;have d:i<(iu (b.map D.ref)).length:=by rw[oQ,aP];exact j
   have ev:=DH (ds:=b.map D.ref) (i:=i) (x:=.ref t) (by rw[bW,B];rfl);rw[lu d] at e;rw[br d] at ev;have ev:=Option.some.inj ev;rw[ev] at e;cases e;have l:∀L,L=gB n (T,i)->((Ts.zipIdx.take (i+1)).flatMap (gB n))=((Ts.zipIdx.take i).flatMap (gB n))++L:=λL J=>by
    rw[Jj C,qf,J];simp
   have ln:=len i;refine⟨rfl,EC k rfl ?_⟩;rw[ay bZ,Eb];refine cD (λc=>?_) (λc=>?_)
   .have s:gB n (T,i)=(aE T).map (λo=>(i,n,o)):=by unfold gB;rw[av c]
    have M:=f T (dc C);have u:(aE T).length=T.length:=by simp[aE]
    refine⟨fh hc,D0 (λo=>.tup [.int ((i:Nat):Int),.str n,o]) rfl k (by omega) (λA' o X Q N=>⟨show 3<=sizeLine by omega,N⟩) ?_⟩;refine yR (getElem?_push hc) aH (by rw[aP,aP,u];omega) ?_;have em:((aE T).map λo=>D.tup [.int ((i:Nat):Int),.str n,.str o])=(gB n (T,i)).map bU:=by
     rw[s,bR];rfl
    refine z _ _ ⟨i+1,_,_,by omega,rfl,rfl,?_,(g.trans Gr.push).set (aF _)⟩;rw[l _ rfl,eB,em];exact get_set (getElem?_push hc)
   .have s:gB n (T,i)=[]:=by unfold gB;rw[ay c]
    refine z _ _ ⟨i+1,_,_,by omega,rfl,rfl,?_,g⟩;rw[l _ rfl,s,lg];exact hc
  .rw[qc (by rw[oQ,aP];omega)] at e
   cases e
 .rintro τ H ⟨i,x,y,hi,e,rfl,hc,g⟩
  have hi:i=b.length:=by
   have:=cS List.length e;simp[oQ] at this;omega
  rw[hi,m,sY (by rw[wU];exact aF _)] at hc;exact q _ _ g hc (aF _)
end My
namespace DP
open L2 MA
theorem E4{P X:aO}{n:Str}(h:n∈aB P):c9 (P++X) n=c9 P n:=by
 have:=find_some (T:=P) (n:=n);rw[dg (show n∈P.map (·.1) from h)] at this;obtain⟨p,a⟩:=pS.mp this;unfold c9;rw[find?_append,a];rfl
theorem P8{P:aO}{n:Str}{l:List bB}(h:n∉aB P):c9 (P++[(n,l)]) n=l:=by
 have:=find_some (T:=P) (n:=n);rw[d7 (show ¬n∈P.map (·.1) from h)] at this;have e:P.find? (λp=>decide (p.1=n))=none:=by
  cases e:P.find? (λp=>decide (p.1=n)) with
  |none=>rfl
  |some p=>rw[e] at this;cases this
 unfold c9;rw[find?_append,e];simp
theorem m8{P:aO}{n:Str}(h:n∈aB P):(n,c9 P n)∈P:=by
 have:=find_some (T:=P) (n:=n);rw[dg (show n∈P.map (·.1) from h)] at this;obtain⟨p,a⟩:=pS.mp this;have h1:=kX a;have h2:=find?_some a;unfold c9;rw[a];have h2:p.1=n:=iF h2;rw[<-h2];exact h1
def mK(b:Nat)(A:Ar)(P:aO):Prop:=∃kvs,A[b+1]?=some (.dct kvs)/\A[b+2]?=some (.lst ((aB P).map D.str))/\kvs.map (·.1)=(aB P).map Sum.inr/\∀n∈aB P,∃a,a≠b+2/\b<=a/\bf kvs (Sum.inr n)=some (.ref a)/\A[a]?=some (.lst ((c9 P n).map bU))
structure fK(P:aO)(NN:List Str):Prop where
 nd:(aB P).Nodup
 sub:∀n∈aB P,n∈NN
 pl:∀p∈P,p.2.length+1<=P.length
theorem fK.len{P:aO}{NN:List Str}(h:fK P NN):P.length<=NN.length:=by
 have:=kP (aB P) NN h.nd h.sub;simpa[aB] using this
theorem fK.add{P:aO}{NN:List Str}(h:fK P NN){s:bB}(h1:s.2.1∈aB P)(h2:s.2.2∈NN):fK (ck P s) NN:=by
 refine⟨Kc s h.nd,λn a=>?_,λp hp=>?_⟩
 .rcases (qy P s n).mp a with h'|rfl
  .exact h.sub n h'
  .exact h2
 .unfold ck at hp ⊢
  split at hp
  .rename_i hc
   rw[av hc];exact h.pl p hp
  .rename_i hc
   rw[ay hc,dH];rcases bV.mp hp with hp|hp
   .have:=h.pl p hp
    simp;omega
   .rw[bM.mp hp]
    have:=h.pl _ (m8 h1);simp at this ⊢;omega
def gn(lo:Nat)(A:Ar)(q:Nat)(P:aO):Prop:=lo<=q/\∃kvs,A[q]?=some (.dct kvs)/\kvs.map (·.1)=(aB P).map Sum.inr/\∀n∈aB P,∃a,lo<=a/\bf kvs (Sum.inr n)=some (.ref a)/\A[a]?=some (.lst ((c9 P n).map bU))
theorem gn.gr{A B:Ar}{lo q:Nat}{P:aO}(h:gn lo A q P)(g:Gr A B):gn lo B q P:=by
 obtain⟨h0,kvs,h1,h2,b⟩:=h;exact⟨h0,kvs,g.get h1,h2,λn c=>by obtain⟨a,z,x,y⟩:=b n c;exact⟨a,z,x,g.get y⟩⟩
theorem gn.set{A:Ar}{lo q t:Nat}{P:aO}{c:C}(h:gn lo A q P)(g:t<lo):gn lo (A.set t c) q P:=by
 obtain⟨h0,kvs,h1,h2,e⟩:=h;have b:∀(j:Nat) (d:C),lo<=j->A[j]?=some d->(A.set t c)[j]?=some d:=λj d i hd=>by
  rw[dI (by omega)];exact hd
 exact⟨h0,kvs,b _ _ h0 h1,h2,λn f=>by obtain⟨a,z,x,y⟩:=e n f;exact⟨a,z,x,b _ _ z y⟩⟩
theorem gn.lo{A:Ar}{lo b q:Nat}{P:aO}(h:gn lo A q P)(hl:b<=lo):gn b A q P:=by
 obtain⟨h0,kvs,h1,h2,c⟩:=h;exact⟨by omega,kvs,h1,h2,λn d=>by obtain⟨a,z,x,y⟩:=c n d;exact⟨a,by omega,x,y⟩⟩
theorem mK.gr{A B:Ar}{b:Nat}{P:aO}(h:mK b A P)(g:Gr A B):mK b B P:=by
 obtain⟨kvs,h1,h2,c,d⟩:=h;exact⟨kvs,g.get h1,g.get h2,c,λn e=>by obtain⟨a,z,f,x,y⟩:=d n e;exact⟨a,z,f,x,g.get y⟩⟩
theorem uW{kvs:List (Key×D)}{ns:List Str}{n:Str}(h:kvs.map (·.1)=ns.map Sum.inr):(bf kvs (Sum.inr n)).isSome=decide (n∈ns):=by
 induction kvs generalizing ns with
 |nil=>
  cases ns with
  |nil=>rfl
  |cons _ _=>cases h
 |cons p kvs a=>
  cases ns with
  |nil=>cases h
  |cons m ns=>
   rw[cg,cg,List.cons.injEq] at h;show(if p.1=Sum.inr n then some p.2 else bf kvs (Sum.inr n)).isSome=_;rw[h.1];by_cases e:m=n
   .rw[av (by rw[e])]
    simp[e]
   .rw[ay (λz=>e (Sum.inr.inj z)),a h.2]
    simp[Ne.symm e]
theorem qB{Ts:List Tb}{f i:Nat}{P:aO}{p:Str×List bB}(h:P[i]?=some p):dN Ts (f+1) i P=dN Ts f (i+1) ((dY Ts p.1).foldl ck P):=by
 show(match P[i]? with|some p=>dN Ts f (i+1) ((dY Ts p.1).foldl ck P)|none=>P)=_;rw[h]
theorem Ku{Ts:List Tb}{f i:Nat}{P:aO}(h:P.length<=i):dN Ts f i P=P:=by
 cases f with
 |zero=>rfl
 |succ f=>
  show(match P[i]? with|some p=>dN Ts f (i+1) ((dY Ts p.1).foldl ck P)|none=>P)=_;rw[nZ h]
def x6:Ct:=λds A R _=>∃r n Ts NN,ds=[.ref r,.str n]/\g9 A r Ts/\eH Ts NN/\n∈NN/\∀A' q,Gr A A'->gn A.length A' q (aJ Ts n)->R (.ref q) A'
theorem fQ{A:Ar}{i j:Nat}{c d:C}(a:i≠j)(h:A[j]?=some d):(A.set i c)[j]?=some d:=by
 rw[dI a];exact h
theorem sE{A:Ar}{i:Nat}{c d:C}(h:A[i]?=some d):(A.set i c)[i]?=some c:=dJ (b_ h)
theorem PC{kvs:List (Key×D)}{ns:List Str}{n:Str}{v:D}(h:kvs.map (·.1)=ns.map Sum.inr)(a:n∉ns):(cy kvs (Sum.inr n) v).map (·.1)=(ns++[n]).map Sum.inr:=by
 rw[Gh (λp b z=>?_)]
 .simp[h]
 .have:p.1∈kvs.map (·.1):=eE b
  rw[h,z] at this;obtain⟨m,c,e⟩:=aX.mp this;rw[<-Sum.inr.inj e] at a;exact a c
end DP
namespace My
open L2 DP MA
theorem Nq(T:TopD K mg "paths_from" HR vN)(B:mg "len"=none)(d:aj P w K mg base 1 "steps_from" vS (ai mg 2 Cd)):aj P w K mg base 2 "paths_from" vN (ai mg 2 x6):=by
 refine bH T Uo λhr hR hx u nd=>⟨_,(aD (dS 2 nd (LN (vr 1) (cG af)))
  (aD (dS 3 nd (cG (aa (vr 1) af)))
  (aD (dS 4 nd ao)
  (aD (Dz d_ (wD (vr 4) (dQ gp fL B gD (aa (vr 3) af))) (aD (eN d_ rfl (cY (dL d hr hx (aa (vr 0) (aa (dX u (vr 3) (vr 4)) af)))) (dG 5 nd) (aA (bP (wF u (dX u (vr 5) ao) (vr 2)) (aD (Dy u (vr 2) (dX u (vr 5) ao) (cM (dX u (vr 2) (dX u (vr 5) ao)) (cG (aa (vr 5) af))) rfl)
  (aA (cV (gq fy iC iG gS ie (vr 3) (aa (dX u (vr 5) ao) af))))) bT)))
  (aA (L7 (i:=4) nd rfl (by first|exact Or.inl rfl|exact Or.inr rfl) ao))))
  (aA (aN (vr 2))))))),λds A R h hl=>?_⟩
 obtain⟨r,n,Ts,NN,rfl,hB,hok,hn,q⟩:=h;have hz:(1000:Nat)<=sizeLine:=by decide
 have e1:(A++[C.lst []]).length=A.length+1:=by simp
 have e2:(A++[C.lst []]++[C.dct [(Sum.inr n,D.ref A.length)]]).length=A.length+2:=by simp
 refine⟨bG _,show 1<=sizeLine by omega,?_⟩;have q8:mK A.length (A++[C.lst []]++[C.dct [(Sum.inr n,D.ref A.length)]]++[C.lst [D.str n]]) [(n,[])]:=by
  refine⟨[(Sum.inr n,D.ref A.length)],?_,?_,rfl,λm hm=>⟨A.length,by omega,aF _,?_,?_⟩⟩
  .rw[<-e1];exact getElem?_push aH
  .rw[<-e2];exact aH
  .have:m=n:=by simpa[aB] using hm
   subst this;exact av rfl
  .have:m=n:=by simpa[aB] using hm
   subst this;have e:c9 [(m,[])] m=[]:=by simp[c9]
   rw[e];exact getElem?_push (getElem?_push aH)
 refine⟨λk τ A'=>∃(i:Nat) (Q:aO) (x:Option D),k=13 - i/\τ=[some (.ref r),some (.str n),some (.ref (A++[C.lst []]).length),some (.ref (A++[C.lst []]++[C.dct [(Sum.inr n,D.ref A.length)]]).length),some (.int ((i:Nat):Int)),x]/\i<=Q.length/\mK A.length A' Q/\fK Q NN/\dN Ts (14 - i) i Q=aJ Ts n/\Gr A A',⟨13,0,[(n,[])],none,rfl,rfl,by simp,q8,⟨by simp[aB],λm hm=>by
   have:m=n:=by simpa[aB] using hm
   rw[this];exact hn,λp L=>by
   have:p=(n,[]):=by simpa using L
   rw[this];simp⟩,rfl,((Gr.push.trans Gr.push).trans Gr.push)⟩,?_⟩
 rw[e1,e2];rintro k τ A1 ⟨i,Q,x,rfl,rfl,hi,hS,hP,hb,Z⟩;have uX:Q.length<=12:=cR hP.len hok.nn;obtain⟨M,hd0,E,hk0,hv0⟩:=id hS;refine rD E ?_;have N:((aB Q).map D.str).length=Q.length:=by simp[aB]
 refine cD (λc=>?_) (λc=>?_)
 .rw[N] at c
  have c:i<Q.length:=by omega
  obtain⟨p,L⟩:∃p,Q[i]?=some p:=⟨Q[i],br c⟩;have OB:p.1∈aB Q:=eE (dc L);refine⟨λτ A'=>∃(H:aO) (x:Option D),τ=[some (.ref r),some (.str n),some (.ref (A.length+1)),some (.ref (A.length+2)),some (.int ((i+1:Nat):Int)),x]/\i+1<=H.length/\mK A.length A' H/\fK H NN/\dN Ts (14 - (i+1)) (i+1) H=aJ Ts n/\Gr A A',λbS A' ⟨H,x,h1,h2,O,h4,h5,h6⟩=>⟨13 - (i+1),by omega,i+1,H,x,rfl,h1,h2,O,h4,h5,h6⟩,?_⟩;refine fY E (v:=.str p.1) (ua (by rw[bW];unfold aB;rw[bW,L];rfl)) ?_;refine⟨rfl,r,p.1,Ts,rfl,hB.gr Z,hok.len,λT hT=>(hok.tok T hT).len,λA2 q2 g2 h2 l2=>?_⟩;have gl:=Z.len;have lr:=b_ E;refine ef h2 ?_;refine eL (λrest τ A'=>∃(l b:List bB) (x:Option D),rest=b.map bU/\l++b=dY Ts p.1/\τ=[some (.ref r),some (.str n),some (.ref (A.length+1)),some (.ref (A.length+2)),some (.int ((i:Nat):Int)),x]/\mK A.length A' (l.foldl ck Q)/\fK (l.foldl ck Q) NN/\A'[q2]?=some (.lst ((dY Ts p.1).map bU))/\Gr A A') ?_ ?_ ?_ _ _ _ ⟨[],dY Ts p.1,x,rfl,rfl,rfl,hS.gr g2,hP,h2,Z.trans g2⟩
  .rintro rest τ A' ⟨l,b,x,_,_,_,_,_,h,_⟩
   exact h
  .rintro v rest τ S ⟨l,b,x,e,g,rfl,t,j,O,g3⟩ Nx hN
   cases b with
   |nil=>cases e
   |cons st b=>
   cases e;have hst:st∈dY Ts p.1:=by rw[<-g];simp
   obtain⟨T,hT,hn1,hn2,Ow⟩:=nc.mp hst;obtain⟨kvs,hd,U,hk,hv⟩:=id t;have f:(l++[st]).foldl ck Q=ck (l.foldl ck Q) st:=by rw[nY];rfl
   generalize Oe:l.foldl ck Q=o at*
   have F:st.2.1∈aB o:=by
    rw[<-Oe,yV,hn2];exact .inl OB
   have Tq:st.2.2∈NN:=hok.sub T (dc hT) _ Ow;have l3:o.length<=12:=cR j.len hok.nn;refine rj hd rfl ?_;rw[av rfl,uW hk];refine cN (λI=>?_) (λI=>?_)
   .obtain⟨a1,na,WG,ga,ha⟩:=hv _ F
    refine jU hd rfl ga ?_;have hpl:=j.pl _ (m8 F);simp at hpl;refine⟨show 1<=sizeLine by omega,kD (getElem?_push ha) aH (by simp;omega) ?_⟩;have WC:kvs.length=o.length:=by
     have:=cS List.length hk;simpa[aB] using this
    refine Gi (getElem?_push (getElem?_push hd)) rfl (by omega) ?_;have V:=getElem?_push (T:=[C.lst ((c9 o st.2.1).map bU++[bU st])]) (getElem?_push (T:=[C.lst [bU st]]) U);have hd2:=getElem?_push (T:=[C.lst ((c9 o st.2.1).map bU++[bU st])]) (getElem?_push (T:=[C.lst [bU st]]) hd);have s:=fQ (i:=A.length+1) (c:=C.dct (cy kvs (Sum.inr st.2.2) (D.ref (S++[C.lst [bU st]]).length))) (by omega) V;refine⟨fh s,iZ s (by simp[aB];omega) ?_⟩;have WL:A1.length<=q2:=l2;have nq:A.length+2≠q2:=by omega
    have QM:A.length+1≠q2:=by omega
    have J:ck o st=o++[(st.2.2,c9 o st.2.1++[st])]:=by unfold ck;rw[ay I]
    have ek:aB (ck o st)=aB o++[st.2.2]:=by rw[J];simp[aB]
    refine hN _ _ ⟨l++[st],b,_,rfl,by simpa using g,rfl,?_,?_,?_,?_⟩
    .rw[f]
     refine⟨_,fQ (by omega) (sE hd2),?_,?_,λm hm=>?_⟩
     .rw[ek,eB]
      exact sE s
     .rw[ek]
      exact PC hk I
     .rw[ek] at hm
      have la:(S++[C.lst [bU st]]).length=S.length+1:=by simp
      have Ff:=b_ U;rcases bV.mp hm with hm|hm
      .obtain⟨a,W,Y,NU,G⟩:=hv m hm
       have hne:¬(Sum.inr st.2.2:Key)=Sum.inr m:=λz=>I (by rw[Sum.inr.inj z];exact hm);refine⟨a,W,Y,by rw[oX,ay hne];exact NU,?_⟩;rw[J,E4 hm];have hd':A.length+1≠a:=λz=>by rw[<-z,hd] at G;cases G
       exact fQ (Ne.symm W) (fQ hd' (getElem?_push (getElem?_push G)))
      .have hm:m=st.2.2:=by simpa using hm
       subst hm;refine⟨(S++[C.lst [bU st]]).length,by omega,by omega,by rw[oX,av rfl],?_⟩;rw[J,P8 I,eB];exact fQ (by omega) (fQ (by omega) aH)
    .rw[f]
     exact j.add F Tq
    .exact fQ nq (fQ QM (getElem?_push (getElem?_push O)))
    .exact((((g3.trans Gr.push).trans Gr.push).set (by omega)).set (by omega))
   .have J:ck o st=o:=by unfold ck;rw[av I]
    refine hN _ _ ⟨l++[st],b,_,rfl,by simpa using g,rfl,?_,?_,O,g3⟩
    .rw[f,J];exact t
    .rw[f,J];exact j
  .rintro τ S ⟨l,b,x,e,g,rfl,t,j,O,g3⟩
   cases b with
   |cons _ _=>cases e
   |nil=>
   have g:l=dY Ts p.1:=by simpa using g
   subst g;refine⟨_,x,by rfl,?_,t,j,?_,g3⟩
   .obtain⟨X,e⟩:=uG (dY Ts p.1) Q
    rw[e,dH];omega
   .rw[<-hb,show 14 - i=(14 - (i+1))+1 by omega,qB L]
 .rw[N] at c
  have c:Q.length<=i:=by omega
  rw[Ku c] at hb;rw[<-hb] at q;refine q A1 _ Z ⟨by omega,M,hd0,hk0,λm hm=>?_⟩;obtain⟨a,_,z,x,y⟩:=hv0 m hm;exact⟨a,z,x,y⟩
end My
namespace DP
open L2 MA
def J7(dom:List D->List D->Prop):Ct:=λds A R _=>∃v,dom ds v/\∀A' r,Gr A A'->A'[r]?=some (.lst v)->A.length<=r->R (.ref r) A'
def B8:Ct:=λds A R _=>∃l r' a b r rs,ds=[enc (.bQ l r' a b),.ref r]/\A[r]?=some (.dct (gw rs))/\1<=l/\l<=9/\1<=r'/\r'<=9/\Bk rs a/\Bk rs b/\a.deep<=6/\b.deep<=6/\∀A',Gr A A'->R (.tup [.int (l*ld (val rs) a),.int (r'*ld (val rs) b)]) A'
def Ce(d:Nat):Ct:=λds A R _=>∃m w r rs,ds=[enc m,.str w,.ref r]/\A[r]?=some (.dct (gw rs))/\Wf m/\Bk rs m/\m.deep<d/\d<=6/\w.length+d<=100/\∀A' q,Gr A A'->A'[q]?=some (.lst ((eY (val rs) m w).map fN))->A.length<=q->R (.ref q) A'
def yc:Ct:=λds A R _=>∃m rs,ds=[enc m,di rs]/\Wf m/\Bk rs m/\m.deep<=5/\∀A' q,Gr A A'->A'[q]?=some (.lst ((eY (val rs) m "").map fN))->A.length<=q->R (.ref q) A'
def Cb:Ct:=λds A R _=>∃m rs,ds=[enc m,di rs]/\Wf m/\Bk rs m/\m.deep<=5/\∀A',Gr A A'->R (.bl (decide (eY (val rs) m ""=[]))) A'
theorem yP{A:Ar}{p:Nat}{xs:List D}{R:DK}(h:A[p]?=some (.lst xs))(c:fk xs=true)(hl:canLayAll0 (bF xs)=true)(k:R (.bl (decide (xs=[]))) (A++[.lst []])):fE false (.ref p) (.ref A.length) (A++[.lst []]) R:=by
 unfold fE;have b:bO (A++[.lst []]) (.ref p)=.list (bF xs):=by unfold bO;simp only[getElem?_push h]
 have a:bO (A++[.lst []]) (.ref A.length)=.list []:=by unfold bO;simp only[aH];rfl
 refine⟨?_,?_,?_,?_,?_,?_⟩
 .unfold fj;simp only[getElem?_push h];exact c
 .unfold fj;simp only[aH];rfl
 .rw[b];simpa[canLay0] using hl
 .rw[a];simp[canLay0,canLayAll0]
 .rw[a];simp[PyData.depth,depthAll];omega
 .rw[b,a]
  have e:PyData.eqv (.list (bF xs)) (.list [])=decide (xs=[]):=by cases xs<;>simp[bF,PyData.eqv,eqvAll]
  rw[ay (by decide),e];exact k
def Wy(w:Str):Prop:=∀c∈w.cps.toList,c=108\/c=114
theorem CU(x y:Str):(x++y).cps.toList=x.cps.toList++y.cps.toList:=Array.toList_append
theorem Wy.nil:Wy "":=λc h=>by
 have e:("":Str).cps.toList=[]:=by decide+kernel
 rw[e] at h;cases h
theorem K7:("l":Str).cps.toList=[108]:=by decide+kernel
theorem K8:("r":Str).cps.toList=[114]:=by decide+kernel
theorem Wy.l{w:Str}(h:Wy w):Wy (w++"l"):=λc hc=>by
 rw[CU,K7] at hc;rcases bV.mp hc with h'|h'
 .exact h c h'
 .exact .inl (bM.mp h')
theorem Wy.r{w:Str}(h:Wy w):Wy (w++"r"):=λc hc=>by
 rw[CU,K8] at hc;rcases bV.mp hc with h'|h'
 .exact h c h'
 .exact .inr (bM.mp h')
theorem Wy.ok{w:Str}(h:Wy w):canLay0 (.str w)=true:=by
 have e:w.cps.all (λc=>decide (c<0x110000))=true:=by
  rw[<-Array.all_toList,tG];intro c hc;have:=h c hc;exact dg (by omega)
 simpa[canLay0,strOk] using e
theorem EW:canLay0 (.str "left")=true:=by decide+kernel
theorem GQ:canLay0 (.str "right")=true:=by decide+kernel
theorem wG(f:Str->Int):∀(m:M) (w:Str),Wy w->∀p∈eY f m w,Wy p.1/\(p.2="left"\/p.2="right")
 |.wt _,_,_,p,h=>by cases h
 |.bQ l r a b,w,c,p,h=>by
  have h:p∈hr2 w (l*ld f a) (r*ld f b)++eY f a (w++"l")++eY f b (w++"r"):=h;rcases bV.mp h with h|h
  .rcases bV.mp h with h|h
   .unfold hr2 at h
    split at h
    .rw[bM.mp h];exact⟨c,.inl rfl⟩
    .split at h
     .rw[bM.mp h];exact⟨c,.inr rfl⟩
     .cases h
   .exact wG f a _ c.l p h
  .exact wG f b _ c.r p h
theorem Gd:∀ps:List (Str×Str),fk (ps.map fN)=true
 |[]=>rfl
 |p::r=>by simp[fk,fN,f6,Gd r]
theorem EU:∀ps:List (Str×Str),(∀p∈ps,canLay0 (.str p.1)=true/\canLay0 (.str p.2)=true)->canLayAll0 (bF (ps.map fN))=true
 |[],_=>by simp[bF,canLayAll0]
 |p::r,h=>by
  have h1:=h p (bh ..);have h2:=EU r λq a=>h q (aZ _ a);simp only[cg,bF,fN,toQ,canLayAll0,canLay0] at h1 h2 ⊢;simp[h1.1,h1.2,h2]
theorem PX{f:Str->Int}{m:M}:canLayAll0 (bF ((eY f m "").map fN))=true:=EU _ λp a=>by
 obtain⟨h1,h2⟩:=wG f m "" .nil p a;refine⟨h1.ok,?_⟩;rcases h2 with e|e<;>rw[e]
 .exact EW
 .exact GQ
end DP
namespace My
open L2 DP MA
theorem Nr(T:TopD K mg "pulls" HU vO)(c:aj P w K mg base 10 "load_below" rZ (ai mg 2 (xV 6))):aj P w K mg base 11 "pulls" vO (ai mg 2 B8):=by
 refine bH T Ur λe o f d nd=>⟨_,(aA (aN (cU (aa (iO (dX d (vr 0) ao) (dL c e f (aa (dX d (vr 0) ao) (aa (vr 1) af)))) (aa (iO (dX d (vr 0) ao) (dL c e f (aa (dX d (vr 0) ao) (aa (vr 1) af)))) af))))),λds A R h hl=>?_⟩;obtain⟨l,r',a,b,r,rs,rfl,g,h1,h2,p,s,i,j,m,db,q⟩:=h;refine⟨rfl,a,r,rs,rfl,g,i.ok,m,i.nm,λt k=>⟨.inl ⟨by omega,by omega⟩,?_⟩⟩;refine⟨rfl,b,r,rs,rfl,k.get g,j.ok,db,j.nm,λu n=>⟨.inl ⟨by omega,by omega⟩,?_⟩⟩;exact⟨show 2<=sizeLine by decide,q _ (k.trans n)⟩
theorem NJ(T:TopD K mg "tips_below" Ib vU)(i:aj P w K mg base 11 "pulls" vO (ai mg 2 B8)):∀d,aj P w K mg base (d+11) "tips_below" vU (ai mg 3 (Ce d)):=by
 intro d;induction d with
 |zero=>
  refine lK T λds A R RE h=>?_;obtain⟨m,w,r,rs,_,_,_,_,h,_⟩:=h;omega
 |succ d e=>
  refine gQ T Iv rfl (by decide) λN RE f V B outer s H E u hR G ds A R h hl=>?_;have j:=u.units;have nd:=Iv.nd;refine⟨_,(aD (bP (f_ j (dX j (vr 0) ao) a_) (aA (aN (cG af))) bT)
  (aD (dS 3 nd (dL i u G (aa (vr 0) (aa (vr 2) af))))
  (aD (dS 4 nd (cG af))
  (aD (bP (IY (dX j (vr 3) ao) (dX j (vr 3) ao)) (aA (cV (gq fy iC iG gS ie (vr 4) (aa (cU (aa (vr 1) (aa a_ af))) af)))) bT)
  (aD (bP (wD (dX j (vr 3) ao) (dX j (vr 3) ao)) (aA (cV (gq fy iC iG gS ie (vr 4) (aa (cU (aa (vr 1) (aa a_ af))) af)))) bT)
  (aA (aN (cM (cM (vr 4) (dL e u G (aa (dX j (vr 0) ao) (aa (cM (vr 1) a_) (aa (vr 2) af))))) (dL e u G (aa (dX j (vr 0) ao) (aa (cM (vr 1) a_) (aa (vr 2) af)))))))))))),?_⟩
  obtain⟨m,w,r,rs,rfl,O,I,v,hd,h6,J,q⟩:=h;have hs:(1000:Nat)<=sizeLine:=by decide
  cases m with
  |wt n=>exact⟨bG _,q _ _ Gr.push aH (aF _)⟩
  |bQ l r' a b=>
   have W:max a.deep b.deep+1<d+1:=hd;have L:=I.arms;obtain⟨X,Y,Z,r4,_,_⟩:=L;have ll:("l":Str).length=1:=by decide+kernel
   have lr:("r":Str).length=1:=by decide+kernel
   have al:∀x y:Str,(x++y).length=x.length+y.length:=λx y=>mh;refine⟨rfl,l,r',a,b,r,rs,rfl,O,X,Y,Z,r4,v.left,v.right,by omega,by omega,λg Q=>?_⟩;refine⟨bG _,?_⟩;have n0:=Ex w (l*ld (val rs) a) (r'*ld (val rs) b);have n1:=sJ (val rs) a (w++"l");have n2:=sJ (val rs) b (w++"r");have p1:2 ^ a.deep<=2 ^ 6:=e9 (by decide) (by omega);have p2:2 ^ b.deep<=2 ^ 6:=e9 (by decide) (by omega);by_cases k:r'*ld (val rs) b<l*ld (val rs) a;case' pos=>
    have o:hr2 w (l*ld (val rs) a) (r'*ld (val rs) b)=[(w,("left":Str))]:=by unfold hr2;rw[av k]
    refine cD (λ_=>?_) (λc=>absurd k c);refine⟨fh aH,show 2<=sizeLine by decide,iZ aH (by decide) ?_⟩;have h2:=get_set (ys:=[]++[D.tup [.str w,.str "left"]]) (aH (A:=g) (c:=C.lst []));have z:Gr g ((g++[C.lst []]).set g.length (.lst ([]++[D.tup [.str w,.str "left"]]))):=Gr.set Gr.push (aF _);refine cD (λc=>absurd k (by omega)) (λ_=>?_);generalize (g++[C.lst []]).set g.length (.lst ([]++[D.tup [.str w,.str "left"]]))=p at*
    have h2:p[g.length]?=some (.lst ((hr2 w (l*ld (val rs) a) (r'*ld (val rs) b)).map fN)):=by rw[h2,o];rfl
   case' neg=>
    refine cD (λc=>absurd c k) (λ_=>?_);by_cases F:l*ld (val rs) a<r'*ld (val rs) b;case' pos=>
     have o:hr2 w (l*ld (val rs) a) (r'*ld (val rs) b)=[(w,("right":Str))]:=by unfold hr2;rw[ay k,av F]
     refine cD (λ_=>?_) (λc=>absurd F c);refine⟨fh aH,show 2<=sizeLine by decide,iZ aH (by decide) ?_⟩;have h2:=get_set (ys:=[]++[D.tup [.str w,.str "right"]]) (aH (A:=g) (c:=C.lst []));have z:Gr g ((g++[C.lst []]).set g.length (.lst ([]++[D.tup [.str w,.str "right"]]))):=Gr.set Gr.push (aF _);generalize (g++[C.lst []]).set g.length (.lst ([]++[D.tup [.str w,.str "right"]]))=p at*
     have h2:p[g.length]?=some (.lst ((hr2 w (l*ld (val rs) a) (r'*ld (val rs) b)).map fN)):=by rw[h2,o];rfl
    case' neg=>
     have o:hr2 w (l*ld (val rs) a) (r'*ld (val rs) b)=[]:=by unfold hr2;rw[ay k,ay F]
     refine cD (λc=>absurd c F) (λ_=>?_);have h2:=aH (A:=g) (c:=C.lst []);have z:Gr g (g++[C.lst []]):=Gr.push;generalize g++[C.lst []]=p at*
     have h2:p[g.length]?=some (.lst ((hr2 w (l*ld (val rs) a) (r'*ld (val rs) b)).map fN)):=by rw[h2,o];rfl
   all_goals
    have t:=(Q.trans z).get O;refine⟨by omega,rfl,a,_,r,rs,rfl,t,I.left,v.left,by omega,by omega,by rw[al];omega,λA3 q3 M h3 _=>?_⟩;refine kD (M.get h2) h3 (by simp;omega) ?_;refine⟨by omega,rfl,b,_,r,rs,rfl,getElem?_push (M.get t),I.right,v.right,by omega,by omega,by rw[al];omega,λA4 q4 S h4 _=>?_⟩;refine kD (S.get aH) h4 (by simp;omega) ?_;have U:Gr A A4:=(((Q.trans z).trans M).trans Gr.push).trans S;refine q _ _ (U.trans Gr.push) ?_ U.len;rw[aH];simp[eY]
theorem NK(T:TopD K mg "tips" Ia sd)(d:mg "dict"=none)(b:aj P w K mg base 9 "check_mobile" kR (ai mg 1 oz))(a:aj P w K mg base 10 "check_weights" rR (ai mg 2 xS))(c:aj P w K mg base 17 "tips_below" vU (ai mg 3 (Ce 6))):aj P w K mg base 18 "tips" sd (ai mg 2 yc):=by
 refine bH T Uz λf r i s nd=>⟨_,(aD (cV (dL b f i (aa (vr 0) af)))
  (aD (cV (dL a f i (aa (vr 0) (aa (vr 1) af))))
  (aA (aN (dL c f i (aa (vr 0) (aa a_ (aa (jq (oJ rfl) oM d qb (aa (vr 1) af)) af)))))))),λds A R h hl=>?_⟩
 obtain⟨m,rs,rfl,j,e,hd,q⟩:=h;refine⟨rfl,_,⟨m,rfl,j,hd,rfl⟩,λt k=>?_⟩;refine⟨rfl,_,⟨m,rs,rfl,e.ok,hd,e.nm,rfl⟩,λu l=>?_⟩;refine yF e.ok ?_;have g:=(k.trans l).trans (Gr.push (T:=[C.dct (gw rs)]));exact⟨rfl,m,_,_,rs,rfl,aH,j,e,by omega,by omega,by decide+kernel,λv x n o p=>q _ _ (g.trans n) o (cR g.len p)⟩
theorem NH(T:TopD K mg "is_still" HJ vI)(a:aj P w K mg base 18 "tips" sd (ai mg 2 yc)):aj P w K mg base 19 "is_still" vI (ai mg 2 Cb):=by
 refine bH T Ue λb j c d nd=>⟨_,(aA (aN (mW d (dL a b c (aa (vr 0) (aa (vr 1) af))) (cG af)))),λds A R h hl=>?_⟩;obtain⟨m,rs,rfl,f,g,hd,q⟩:=h;refine⟨rfl,m,rs,rfl,f,g,hd,λk l i h1 _=>?_⟩;refine⟨bG _,yP h1 (Gd _) PX ?_⟩;have e:decide ((eY (val rs) m "").map fN=[])=decide (eY (val rs) m ""=[]):=by simp
 rw[e];exact q _ (i.trans Gr.push)
end My
namespace DP
open L2 MA
theorem N2{A a:Ar}{r:Nat}{o:Obj}{kvs:List (Key×D)}(h:A[r]?=some (.dct kvs))(g:Gr (A.set r (.bC o kvs)) a):a[r]?=some (.bC o kvs)/\Gr A (a.set r (.dct kvs)):=by
 obtain⟨T,rfl⟩:=g;have hl:=(b8.mp h).1;refine⟨by rw[iI (by simpa using hl),dJ hl],T,?_⟩;rw[wX _ _ (by simpa using hl),set_set];congr 1;apply qe;intro i;by_cases e:i=r
 .subst e;rw[dJ hl,h]
 .rw[dI (Ne.symm e)]
theorem Gg:∀(ps acc:List (Key×D)),((acc++ps).map (·.1)).Nodup->ps.foldl (λacc p=>cy acc p.1 p.2) acc=acc++ps
 |[],acc,_=>by simp
 |p::ps,acc,h=>by
  rw[ji];have c:(acc.any λa=>decide (a.1=p.1))=false:=by
   rw[List.any_eq_false];intro a b z;rw[eB] at h;exact(l9.mp h).2.2 a.1 (eE b) p.1 (by simp) (iF z)
  have e:cy acc p.1 p.2=acc++[p]:=by
   unfold cy;rw[c];rfl
  rw[e,Gg ps (acc++[p]) (by simpa using h)];simp
theorem Ec(g:Str->D):∀(ns:List Str) (n:Str),n∈ns->bf (ns.map λn=>((Sum.inr n:Key),g n)) (Sum.inr n)=some (g n)
 |[],n,h=>by cases h
 |x::ns,n,h=>by
  show(if (Sum.inr x:Key)=Sum.inr n then some (g x) else bf _ _)=_;by_cases e:x=n
  .rw[av (by rw[e]),e]
  .rw[ay (λz=>e (Sum.inr.inj z))]
   rcases aY.mp h with z|z
   .exact absurd z.symm e
   .exact Ec g ns n z
def gy(g:Str->Rat)(n:Str):D:=.tup [.str n,fq (g n)]
theorem F0(g:Str->Rat):∀ns:List Str,eW (ns.map (gy g))=some (ns.map λn=>((Sum.inr n:Key),fq (g n)))
 |[]=>rfl
 |n::ns=>by
  have:=F0 g ns;simp[gy,eW,this,fM]
def ez(Gs:List aO):List Str:=Gs.flatMap aB
def cH(Ts:List Tb)(Gs:List aO)(n:Str):List aO:=if n∈ez Gs then Gs else Gs++[aJ Ts n]
def bu(Ts:List Tb):List aO:=(Ts.flatMap aE).foldl (cH Ts) []
def eV(lo:Nat)(A:Ar):List Nat->List aO->Prop
 |[],[]=>True
 |q::qs,P::Ps=>gn lo A q P/\eV lo A qs Ps
 |_,_=>False
theorem eV.jy{lo a:Nat}{A B:Ar}(f:∀q P,gn lo A q P->gn a B q P):∀{qs:List Nat} {Ps:List aO},eV lo A qs Ps->eV a B qs Ps
 |[],[],_=>trivial
 |q::qs,P::Ps,h=>⟨f q P h.1,eV.jy f h.2⟩
 |[],_::_,h=>h.elim
 |_::_,[],h=>h.elim
theorem eV.snoc{lo:Nat}{A:Ar}{q:Nat}{P:aO}(a:gn lo A q P):∀{qs:List Nat} {Ps:List aO},eV lo A qs Ps->eV lo A (qs++[q]) (Ps++[P])
 |[],[],_=>⟨a,trivial⟩
 |_::qs,_::Ps,h=>⟨h.1,eV.snoc a h.2⟩
 |[],_::_,h=>h.elim
 |_::_,[],h=>h.elim
theorem eV.len{lo:Nat}{A:Ar}:∀{qs:List Nat} {Ps:List aO},eV lo A qs Ps->qs.length=Ps.length
 |[],[],_=>rfl
 |q::qs,P::Ps,h=>by simp[eV.len h.2]
 |[],_::_,h=>h.elim
 |_::_,[],h=>h.elim
def J2(lo:Nat)(A:Ar)(q:Nat)(Gs:List aO):Prop:=lo<=q/\∃gs,A[q]?=some (.lst (gs.map D.ref))/\eV lo A gs Gs
def lE(b:Nat)(NN:List Str)(A:Ar)(Gs:List aO):Prop:=∃(gs:List Nat) (kvs:List (Key×D)) (ns:List Str),A[b]?=some (.lst (gs.map D.ref))/\eV (b+2) A gs Gs/\A[b+1]?=some (.dct kvs)/\kvs.map (·.1)=ns.map Sum.inr/\ns.Nodup/\(∀n,n∈ns↔n∈ez Gs)/\∀n∈ns,n∈NN
theorem lE.set{b t:Nat}{NN:List Str}{A:Ar}{Gs:List aO}{c:C}(h:lE b NN A Gs)(e:t<b):lE b NN (A.set t c) Gs:=by
 obtain⟨gs,kvs,ns,h1,h2,a,d⟩:=h;exact⟨gs,kvs,ns,fQ (by omega) h1,h2.jy λq P z=>z.set (by omega),fQ (by omega) a,d⟩
theorem PM{kvs:List (Key×D)}{ns:List Str}(h:kvs.map (·.1)=ns.map Sum.inr):∃ps:List (Str×D),kvs=ps.map (λp=>((Sum.inr p.1:Key),p.2))/\ps.map (·.1)=ns:=by
 induction kvs generalizing ns with
 |nil=>
  cases ns with
  |nil=>exact⟨[],rfl,rfl⟩
  |cons _ _=>cases h
 |cons p kvs a=>
  cases ns with
  |nil=>cases h
  |cons m ns=>
   rw[cg,cg,List.cons.injEq] at h;obtain⟨ps,b,c⟩:=a h.2;exact⟨(m,p.2)::ps,by rw[cg,<-b,<-h.1],by rw[cg,c]⟩
theorem Fo{kvs b:List (Key×D)}{ns c:List Str}(h1:kvs.map (·.1)=ns.map Sum.inr)(h2:b.map (·.1)=c.map Sum.inr)(d:ns.Nodup):∃a:List Str,(jX kvs b).map (·.1)=a.map Sum.inr/\a.Nodup/\∀n,n∈a↔n∈ns\/n∈c:=by
 obtain⟨ps,e,f⟩:=PM h2;obtain⟨a,k1,k2,k3⟩:=yW ps kvs ns h1 d;refine⟨a,?_,k2,λn=>by rw[k3,f]⟩;unfold jX;rw[e];exact k1
theorem Cu{Ts:List Tb}{NN:List Str}(hok:eH Ts NN):∀(f i:Nat) (P:aO),fK P NN->fK (dN Ts f i P) NN/\∃X,dN Ts f i P=P++X
 |0,i,P,h=>⟨h,[],by simp[dN]⟩
 |f+1,i,P,h=>by
  cases e:P[i]? with
  |none=>
   have:dN Ts (f+1) i P=P:=by
    show(match P[i]? with|some p=>dN Ts f (i+1) ((dY Ts p.1).foldl ck P)|none=>P)=_;rw[e]
   rw[this];exact⟨h,[],by simp⟩
  |some p=>
   rw[qB e];have key:∀(ss:List bB) (Q:aO),(∀s∈ss,s∈dY Ts p.1)->fK Q NN->p.1∈aB Q->fK (ss.foldl ck Q) NN:=by
    intro ss;induction ss with
    |nil=>intro Q _ h _;exact h
    |cons s ss c=>
     intro Q b d a;obtain⟨T,g,_,j,k⟩:=nc.mp (b s (bh ..));refine c _ (λx l=>b x (aZ _ l)) (d.add (by rw[j];exact a) (hok.sub T (dc g) _ k)) ?_;exact(qy Q s p.1).mpr (.inl a)
   have a:p.1∈aB P:=eE (dc e);obtain⟨h1,X,h2⟩:=Cu hok f (i+1) _ (key (dY Ts p.1) P (λs h=>h) h a);obtain⟨Y,m⟩:=uG (dY Ts p.1) P;exact⟨h1,Y++X,by rw[h2,m,append_assoc]⟩
theorem fZ{Ts:List Tb}{NN:List Str}(hok:eH Ts NN){n:Str}(a:n∈NN):fK (aJ Ts n) NN/\n∈aB (aJ Ts n)/\c9 (aJ Ts n) n=[]:=by
 have h0:fK [(n,[])] NN:=⟨by simp[aB],λm b=>by
  have:m=n:=by simpa[aB] using b
  rw[this];exact a,λp c=>by
  have:p=(n,[]):=by simpa using c
  rw[this];simp⟩
 obtain⟨h1,X,h2⟩:=Cu hok 14 0 _ h0;have d:n∈aB [(n,([]:List bB))]:=by simp[aB]
 refine⟨h1,?_,?_⟩
 .show n∈aB (dN Ts 14 0 [(n,[])])
  rw[h2];simp[aB]
 .show c9 (dN Ts 14 0 [(n,[])]) n=[]
  rw[h2,E4 d];simp[c9]
theorem N3{Ts:List Tb}{NN:List Str}(hok:eH Ts NN){Gs:List aO}{n:Str}(a:n∈NN):n∈ez (cH Ts Gs n)/\∀m∈ez Gs,m∈ez (cH Ts Gs n):=by
 unfold cH;split
 .rename_i h
  exact⟨h,λ_ h=>h⟩
 .unfold ez
  rw[qf];refine⟨iE _ ?_,λm b=>kW _ b⟩;simp;exact(fZ hok a).2.1
theorem Eh{Ts:List Tb}{NN:List Str}(hok:eH Ts NN):∀(ns:List Str) (Gs:List aO),(∀n∈ns,n∈NN)->(∀n∈ns,n∈ez (ns.foldl (cH Ts) Gs))/\∀m∈ez Gs,m∈ez (ns.foldl (cH Ts) Gs)
 |[],Gs,_=>⟨(λ_ h=>by cases h),λ_ h=>h⟩
 |n::ns,Gs,h=>by
  obtain⟨k1,k2⟩:=N3 hok (Gs:=Gs) (h n (bh ..));obtain⟨b,a⟩:=Eh hok ns (cH Ts Gs n) λm hm=>h m (aZ _ hm);refine⟨λm hm=>?_,λm hm=>a m (k2 m hm)⟩;rcases aY.mp hm with rfl|hm
  .exact a _ k1
  .exact b m hm
theorem Ef{Ts:List Tb}{NN:List Str}(hok:eH Ts NN){T:Tb}(a:T∈Ts){n:Str}(b:n∈aE T):n∈ez (bu Ts):=by
 refine(Eh hok (Ts.flatMap aE) [] λm c=>?_).1 n (gY.mpr ⟨T,a,b⟩);obtain⟨d,h1,h2⟩:=gY.mp c;exact hok.sub d h1 m h2
theorem zd(Ts:List Tb):∀(ns:List Str) (Gs:List aO),(ns.foldl (cH Ts) Gs).length<=Gs.length+ns.length
 |[],Gs=>aF _
 |n::ns,Gs=>by
  have h:=zd Ts ns (cH Ts Gs n);have h2:(cH Ts Gs n).length<=Gs.length+1:=by
   unfold cH;split
   .omega
   .simp
  rw[ji,gC];omega
theorem Ft:∀(Ts:List Tb),(∀T∈Ts,T.length<=32)->(Ts.flatMap aE).length<=32*Ts.length
 |[],_=>by simp
 |T::Ts,h=>by
  have h1:=Ft Ts λq a=>h q (aZ _ a);have h2:=h T (bh ..);have e:(aE T).length=T.length:=by simp[aE]
  rw[nX,dH,gC];omega
def tY:Ct:=λds A R _=>∃r Ts NN,ds=[.ref r]/\g9 A r Ts/\eH Ts NN/\∀A' q,Gr A A'->J2 A.length A' q (bu Ts)->R (.ref q) A'
theorem TabsAt.fz{A:Ar}{t:Nat}{o:Obj}{T0:Tb}(h0:A[t]?=some (.dct (bY T0))):∀{a:List Nat} {Ts:List Tb},TabsAt A a Ts->TabsAt (A.set t (.bC o (bY T0))) a Ts
 |[],[],_=>trivial
 |q::qs,T::Ts,h=>by
  refine⟨?_,TabsAt.fz h0 h.2⟩;by_cases e:t=q
  .subst e
   rcases h.1 with h'|⟨o',h'⟩
   .rw[h0] at h'
    have b:bY T0=bY T:=by
     have h':=Option.some.inj h';injection h'
    exact .inr ⟨o,by rw[dJ (b_ h0),b]⟩
   .rw[h0] at h'
    cases h'
  .rcases h.1 with h'|⟨o',h'⟩
   .exact .inl (fQ e h')
   .exact .inr ⟨o',fQ e h'⟩
 |[],_::_,h=>h.elim
 |_::_,[],h=>h.elim
end DP
namespace My
open L2 DP MA
theorem MV(T:TopD K mg "groups" HD o9)(b:aj P w K mg base 2 "paths_from" vN (ai mg 2 x6)):aj P w K mg base 3 "groups" o9 (ai mg 1 tY):=by
 refine gQ T Ik rfl (by decide) λN RE f cdv B outer s H E hr hR hx ds A R h hl=>?_;have hu:=hr.units;have nd:=Ik.nd;refine⟨_,(aD (dS 1 nd (cG af))
  (aD (dS 2 nd yD)
  (aD (eN d_ rfl (cY (vr 0)) (dG 3 nd) (aA (L_ (eN d_ rfl (qO (vr 3)) (dG 4 nd) (aA (bP (wF hu (vr 4) (vr 2)) (aD (dS 5 nd (dL b hr hx (aa (vr 0) (aa (vr 4) af))))
  (aD (cV (C_ PySem.F.plainAttrs_dict slot_dict_update PySem.F.type_dict_update Fp C7 (vr 2) (aa (vr 5) af)))
  (aA (cV (gq fy iC iG gS ie (vr 1) (aa (vr 5) af)))))) bT))))))
  (aA (aN (vr 1)))))),?_⟩
 obtain⟨r,Ts,NN,rfl,hB,hok,q⟩:=h;obtain⟨J,h1,h2⟩:=id hB;have hz:(1000:Nat)<=sizeLine:=by decide
 have e1:(A++[C.lst []]).length=A.length+1:=by simp
 have g0:Gr A (A++[C.lst []]++[C.dct []]):=Gr.push.trans Gr.push;refine⟨bG _,ef (g0.get h1) ?_⟩;rw[e1];have q8:lE A.length NN (A++[C.lst []]++[C.dct []]) []:=⟨[],[],[],getElem?_push aH,trivial,by rw[<-e1];exact aH,rfl,l_,λn=>by simp[ez],λn h=>by cases h⟩;refine eL (λrest τ A'=>∃(i:Nat) (x y z:Option D),i<=J.length/\rest=(J.map D.ref).drop i/\τ=[some (.ref r),some (.ref A.length),some (.ref (A.length+1)),x,y,z]/\lE A.length NN A' (((Ts.take i).flatMap aE).foldl (cH Ts) [])/\Gr A A') ?_ ?_ ?_ _ _ _ ⟨0,none,none,none,bG _,rfl,rfl,q8,g0⟩
 .rintro rest τ A' ⟨i,x,y,z,_,_,_,_,g⟩
  exact g.get h1
 .rintro v rest τ A1 ⟨i,x,y,z,hi,e,rfl,Y,g⟩ Nx hN
  by_cases hlt:i<J.length
  .obtain⟨t,ht⟩:∃t,J[i]?=some t:=⟨J[i],br hlt⟩
   obtain⟨T0,hT,hA⟩:=h2.get ht;have ze:=hA.gr g;have M:i<(J.map D.ref).length:=by rw[aP];exact hlt
   have ev:(J.map D.ref)[i]?=some (.ref t):=by rw[bW,ht];rfl
   rw[lu M] at e;rw[br M] at ev;have ev:=Option.some.inj ev;rw[ev] at e;cases e;have EB:T0∈Ts:=dc hT;have tl:t<A.length:=by
    rcases hA with h'|⟨_,h'⟩
    .exact b_ h'
    .exact b_ h'
   have oR:(Ts.take (i+1)).flatMap aE=(Ts.take i).flatMap aE++aE T0:=by
    rw[p5,hT,qf];simp
   obtain⟨O,S⟩:∃G,G=((Ts.take i).flatMap aE).foldl (cH Ts) []:=⟨_,rfl⟩;have Q:((Ts.take (i+1)).flatMap aE).foldl (cH Ts) []=(aE T0).foldl (cH Ts) O:=by rw[oR,nY,S]
   rw[<-S] at Y;have em:((bY T0).map λp=>keyOf p.1)=(aE T0).map D.str:=ER T0;have go:∀(o:Obj) (U B1:Ar) (Dn:lC),U.length=A.length->U[t]?=some (.bC o (bY T0))->g9 U r Ts->Gr U B1->lE A.length NN B1 O->(∀(Z:Ar) (y z:Option D),lE A.length NN Z ((aE T0).foldl (cH Ts) O)->Gr U Z->Dn.nx [some (.ref r),some (.ref A.length),some (.ref (A.length+1)),some (.ref t),y,z] Z)->
     GZ (ri (cF 3)) (gN 4) (G0 (gM (cE (inD true) (cF 4) (cF 2))) (wh (sC 5 (jP 2 x6 RE (cT (cF 0) (cT (cF 4) fV)))) (wh (sA (CW AI (cF 2) (cT (cF 5) fV))) (sA (oK oE (cF 1) (cT (cF 5) fV))))) G1) Dn [some (.ref r),some (.ref A.length),some (.ref (A.length+1)),some (.ref t),y,z] B1:=λo U B1 Dn Wo hf N_ g1 Of fin=>by
    refine uV (g1.get hf) ?_;rw[em];refine eL (λrest τ B'=>∃(k a:List Str) (y z:Option D),rest=a.map D.str/\k++a=aE T0/\τ=[some (.ref r),some (.ref A.length),some (.ref (A.length+1)),some (.ref t),y,z]/\lE A.length NN B' (k.foldl (cH Ts) O)/\Gr U B') ?_ ?_ ?_ _ _ _ ⟨[],aE T0,y,z,rfl,rfl,rfl,Of,g1⟩
    .rintro rest τ B' ⟨_,_,_,_,_,_,_,_,g'⟩
     exact g'.get hf
    .rintro v rest τ B' ⟨k,a,y,z,e,d,rfl,L,g'⟩ J5 uI
     cases a with
     |nil=>cases e
     |cons n a=>
     cases e;have Ox:n∈aE T0:=by rw[<-d];simp
     have Et:n∈NN:=hok.sub T0 EB n Ox;have l:(k++[n]).foldl (cH Ts) O=cH Ts (k.foldl (cH Ts) O) n:=by rw[nY];rfl
     generalize Ob:k.foldl (cH Ts) O=G3 at*
     obtain⟨gs,kvs,ns,k1,k2,k3,k4,k5,k6,k7⟩:=id L;refine rj k3 rfl ?_;rw[av rfl,uW k4];refine cN (λc=>?_) (λc=>?_)
     .have V:n∉ez G3:=λz=>c ((k6 n).mpr z)
      obtain⟨pC,_,_⟩:=fZ hok Et;refine⟨rfl,r,n,Ts,NN,rfl,N_.gr g',hok,Et,λZ q2 I h2=>?_⟩;obtain⟨lq,u,m1,m2,m3⟩:=id h2;have lB:=b_ k3;have ln:ns.length<=12:=cR (kP ns NN k5 k7) hok.nn;have P5:kvs.length=ns.length:=by
       have:=cS List.length k4;simpa using this
      have P6:u.length=(aJ Ts n).length:=by
       have:=cS List.length m2;simpa[aB] using this
      have lP:=pC.len;have QH:=hok.nn;refine⟨EF (I.get k3),Jg (I.get k3) m1 (by omega) (by omega) ?_⟩;have hb:=fQ (i:=A.length+1) (j:=A.length) (c:=C.dct (jX kvs u)) (by omega) (I.get k1);have m7:=k2.len;refine⟨fh hb,iZ hb ?_ ?_⟩
      .rw[aP,m7]
       have l1:=zd Ts k O;have l2:=zd Ts ((Ts.take i).flatMap aE) [];have l3:=Ft (Ts.take i) λT' Og=>(hok.tok T' (pW Og)).len;have l4:k.length<=32:=by
        have h1:=cS List.length d;have h2:=(hok.tok T0 EB).len;have e:(aE T0).length=T0.length:=by simp[aE]
        rw[dH] at h1;omega
       rw[lX] at l3;have h7:=hok.len;rw[Ob] at l1;rw[<-S] at l2;rw[length_nil,zero_add] at l2;omega
      obtain⟨ns',j1,j2,j3⟩:=Fo k4 m2 k5;have eg:cH Ts G3 n=G3++[aJ Ts n]:=by unfold cH;rw[ay V]
      refine uI _ _ ⟨k++[n],a,_,_,rfl,by simpa using d,rfl,?_,?_⟩
      .rw[l,eg]
       refine⟨gs++[q2],_,ns',?_,?_,fQ (by omega) (sE (I.get k3)),j1,j2,λm=>?_,λm hm=>?_⟩
       .rw[eB]
        exact sE hb
       .refine eV.snoc ?_ (k2.jy λq P z=>((z.gr I).set (by omega)).set (by omega))
        exact((h2.lo (by omega)).set (by omega)).set (by omega)
       .rw[j3,k6]
        simp[ez]
       .rcases (j3 m).mp hm with h'|h'
        .exact k7 m h'
        .exact pC.sub m h'
      .exact(((g'.trans I).set (by omega)).set (by omega))
     .have V:n∈ez G3:=(k6 n).mp c
      have eg:cH Ts G3 n=G3:=by unfold cH;rw[av V]
      refine uI _ _ ⟨k++[n],a,_,_,rfl,by simpa using d,rfl,?_,g'⟩;rw[l,eg];exact L
    .rintro τ B' ⟨k,a,y,z,e,d,rfl,L,g'⟩
     cases a with
     |cons _ _=>cases e
     |nil=>
     have d:k=aE T0:=by simpa using d
     subst d;exact fin B' y z L g'
   rcases hA with hd|⟨o,hd⟩
   .refine .inl ⟨t,bY T0,g.get hd,λo=>?_⟩
    have Wc:A1.set t (.bC o (bY T0))=A1.set t (.bC o (bY T0)):=rfl;have N6:Gr (A.set t (.bC o (bY T0))) (A1.set t (.bC o (bY T0))):=by
     obtain⟨X,rfl⟩:=g;exact⟨X,by rw[wX _ _ tl]⟩
    refine go o (A.set t (.bC o (bY T0))) _ _ (by simp) (dJ tl) ⟨J,?_,h2.fz hd⟩ N6 (Y.set tl) λZ y z W I=>?_
    .have:t≠r:=λz=>by rw[z,h1] at hd;cases hd
     exact fQ this h1
    .obtain⟨u1,u2⟩:=N2 hd I
     refine⟨bY T0,u1,hN _ _ ⟨i+1,_,_,_,by omega,rfl,rfl,?_,u2⟩⟩;rw[Q];exact W.set tl
   .refine .inr (go o A _ _ rfl hd hB g Y λZ y z W I=>hN _ _ ⟨i+1,_,_,_,by omega,rfl,rfl,?_,I⟩)
    rw[Q];exact W
  .rw[qc (by rw[aP];omega)] at e
   cases e
 .rintro τ A1 ⟨i,x,y,z,hi,e,rfl,Y,g⟩
  have hi:i=J.length:=by
   have:=cS List.length e;simp at this;omega
  have Qi:=h2.len;rw[hi,Qi,take_length] at Y;obtain⟨gs,kvs,ns,k1,k2,_⟩:=Y;exact q _ _ g ⟨aF _,gs,k1,k2.jy λq P z=>z.lo (by omega)⟩
end My
namespace DP
open L2 MA
def bwd(ss:List bB):List bB:=ss.reverse.map λs=>(s.1,s.2.2,s.2.1)
noncomputable def wk(Ts:List Tb)(i:Nat)(n:Str):Rat:=match Ts[i]? with
 |some T=>dU T n
 |none=>0
noncomputable def dW(Ts:List Tb)(s:bB):Rat:=wk Ts s.1 s.2.2/wk Ts s.1 s.2.1
noncomputable def gK(Ts:List Tb)(ss:List bB):Rat:=ss.foldl (λx s=>x*dW Ts s) 1
def eK(Ts:List Tb)(s:bB):Prop:=∃T,Ts[s.1]?=some T/\s.2.1∈aE T/\s.2.2∈aE T
theorem pM{Ts:List Tb}{i:Nat}{T:Tb}(h:Ts[i]?=some T)(n:Str):wk Ts i n=dU T n:=by
 unfold wk;rw[h]
theorem su{a b:Int}(d:0<a)(c:0<b):(rf ((a:Rat)/(b:Rat))).1<=a/\(rf ((a:Rat)/(b:Rat))).2<=b:=by
 rw[<-we c];exact⟨qd _ (dO d),qd _ (dO c)⟩
theorem Td{x y:Rat}(a:0<x)(b:0<y):(rf (x*y)).1<=(rf x).1*(rf y).1:=by
 rw[<-GO];exact(su (fu (dD a) (dD b)) (fu (c_ x) (c_ y))).1
theorem yG{x y:Rat}(b:0<x)(a:0<y):x/y=(((rf x).1*(rf y).2:Int):Rat)/(((rf x).2*(rf y).1:Int):Rat):=by
 have h1:=jO (kg (c_ x));have h2:=jO (kg (c_ y));have c:=jO (kg (dD a));conv=>lhs;rw[<-gU x,<-gU y]
 rw[nQ,nQ];grind
theorem IJ{Ts:List Tb}{s:bB}(d:∀T∈Ts,lH T)(h:eK Ts s):0<dW Ts s/\(rf (dW Ts s)).1<=4000000000000/\(rf (dW Ts s)).2<=4000000000000:=by
 obtain⟨T,h1,h2,e⟩:=h;have b:=d T (dc h1);have f2:=wo b h2;have a:=wo b e;unfold dW;rw[pM h1,pM h1];have p2:=dD f2.pos;have f:=dD a.pos;have c:=c_ (dU T s.2.1);have g:=c_ (dU T s.2.2);have hpos:0<dU T s.2.2/dU T s.2.1:=by
  rw[tF];exact nR a.pos (Rat.inv_pos.mpr f2.pos)
 refine⟨hpos,?_⟩;rw[yG a.pos f2.pos];obtain⟨k1,k2⟩:=su (fu f c) (fu g p2);have i:(rf (dU T s.2.2)).1*(rf (dU T s.2.1)).2<=2000000*2000000:=ee a.num f2.den (dO c) (by decide);have j:(rf (dU T s.2.2)).2*(rf (dU T s.2.1)).1<=2000000*2000000:=ee a.den f2.num (dO p2) (by decide);exact⟨by omega,by omega⟩
theorem CQ{Ts:List Tb}(a:∀T∈Ts,lH T):∀(ss:List bB) (x:Rat) (k:Nat),(∀s∈ss,eK Ts s)->0<x->(rf x).1<=(4000000000000:Int) ^ k->0<ss.foldl (λx s=>x*dW Ts s) x/\(rf (ss.foldl (λx s=>x*dW Ts s) x)).1<=(4000000000000:Int) ^ (k+ss.length)
 |[],x,k,_,h1,h2=>⟨h1,h2⟩
 |s::ss,x,k,b,h1,h2=>by
  obtain⟨p,q,_⟩:=IJ a (b s (bh ..));have c:(rf (x*dW Ts s)).1<=(4000000000000:Int) ^ (k+1):=by
   refine dZ (Td h1 p) ?_;rw[j_];exact ee h2 q (dO (dD p)) (pow_nonneg (by decide))
  have:=CQ a ss (x*dW Ts s) (k+1) (λy d=>b y (aZ _ d)) (nR h1 p) c;rw[ji,gC,show k+(ss.length+1)=k+1+ss.length by omega];exact this
theorem K0{Ts:List Tb}(a:∀T∈Ts,lH T){ss:List bB}(b:∀s∈ss,eK Ts s):0<gK Ts ss/\(rf (gK Ts ss)).1<=(4000000000000:Int) ^ ss.length:=by
 have:=CQ a ss 1 0 b (by decide) (by rw[Ab];decide);rw[zero_add] at this;exact this
theorem K1(Ts:List Tb)(ss:List bB)(s:bB):gK Ts (ss++[s])=gK Ts ss*dW Ts s:=by
 unfold gK;rw[nY];rfl
theorem EJ{A:Ar}{t:Nat}{T:Tb}{n:Str}{R:DK}(h:TabAt A t T)(a:n∈aE T)(k:R (fq (dU T n)) A):kK t (.str n) A R:=by
 rcases h with h|⟨o,h⟩
 .exact jU h rfl (Ed a) k
 .exact zu h rfl (Ed a) k
def BE:Ct:=λds A R _=>∃q ss,ds=[.ref q]/\A[q]?=some (.lst (ss.map bU))/\ss.length<=100/\∀A' p,Gr A A'->A'[p]?=some (.lst ((bwd ss).map bU))->A.length<=p->R (.ref p) A'
def xR:Ct:=λds A R _=>∃r q Ts ss,ds=[.ref r,.ref q]/\g9 A r Ts/\(∀T∈Ts,lH T)/\A[q]?=some (.lst (ss.map bU))/\(∀s∈ss,eK Ts s)/\ss.length<=40/\∀A',Gr A A'->R (fq (gK Ts ss)) A'
theorem Sm{c k:Nat}(h:c ^ (k+1)<2 ^ 2000):(c:Int) ^ k*(c:Int)<2 ^ 2000:=by
 have e:(c:Int) ^ k*(c:Int)=((c ^ (k+1):Nat):Int):=by rw[sU,j_]
 rw[e];have h2:((2 ^ 2000:Nat):Int)=(2:Int) ^ 2000:=sU 2 2000;rw[<-h2];exact Int.ofNat_lt.mpr h
theorem z0{k:Nat}(h:k<=40):(4000000000000:Int) ^ k*4000000000000<2 ^ 2000:=
 Sm (c:=4000000000000) (Nat.lt_of_le_of_lt (e9 (by decide) (show k+1<=41 by omega)) (by decide+kernel))
noncomputable def ng(T:Tb):Str:=open Classical in if h:∃m,m∈aE T/\∀n∈aE T,¬n.cps.toList<m.cps.toList then Classical.choose h else default
theorem Fl{T:Tb}{m:Str}(h1:m∈aE T)(h2:∀n∈aE T,¬n.cps.toList<m.cps.toList):ng T=m:=by
 have h:∃m,m∈aE T/\∀n∈aE T,¬n.cps.toList<m.cps.toList:=⟨m,h1,h2⟩;have e:ng T=Classical.choose h:=by unfold ng;rw[dif_pos h]
 obtain⟨k1,k2⟩:=AQ h;rw[e];generalize Classical.choose h=x at k1 k2;have a:=h2 x k1;have b:=k2 m h1;have c:x.cps.toList=m.cps.toList:=List.le_antisymm (not_lt.mp b) (not_lt.mp a);obtain⟨⟨x⟩⟩:=x;obtain⟨⟨m⟩⟩:=m;simp at c;rw[c]
noncomputable def i8(p:Tb×Nat):List bB:=(aE p.1).map (λo=>(p.2,ng p.1,o))
noncomputable def kE(Ts:List Tb):List bB:=Ts.zipIdx.flatMap i8
def BH:Ct:=λds A R _=>∃r Ts,ds=[.ref r]/\g9 A r Ts/\Ts.length<=7/\(∀T∈Ts,lH T)/\∀A' q,Gr A A'->A'[q]?=some (.lst ((kE Ts).map bU))->A.length<=q->R (.ref q) A'
theorem CL:∀(l:List (Tb×Nat)),(∀p∈l,p.1.length<=32)->(l.flatMap i8).length<=32*l.length
 |[],_=>by simp
 |p::l,h=>by
  have h1:=CL l λq a=>h q (aZ _ a);have h2:(i8 p).length<=32:=by
   unfold i8;rw[aP];have:=h p (bh ..);simpa[aE] using this
  rw[nX,dH,gC];omega
end DP
namespace My
open L2 DP MA
theorem MK(T:TopD K mg "backward" Hq vC)(g:mg "reversed"=none):aj P w K mg base 1 "backward" vC (ai mg 1 BE):=by
 refine bH T TV λk l m n nd=>⟨_,(aA (aN (fW (some 3) (own:=["place","one","other"]) (frees:=[]) (ix:=[]) rfl (L0 g (aa (vr 0) af)) (λc=>(pA rfl (iA (pG 0 (show(["place","one","other"]:List Str).Nodup by decide+kernel)) (iA (pG 1 (show(["place","one","other"]:List Str).Nodup by decide+kernel)) (iA (pG 2 (show(["place","one","other"]:List Str).Nodup by decide+kernel)) pB))))) (λc=>(cU (aa (vr 0) (aa (vr 2) (aa (vr 1) af)))))))),λds A R h hl=>?_⟩;obtain⟨o,ss,rfl,h1,i,q⟩:=h;have hz:(1000:Nat)<=sizeLine:=by decide
 refine zp h1 ?_;refine iN (f:=λd=>match d with|.tup [a,b,c]=>.tup [a,c,b]|d=>d) h1 _ _ (λd hd=>?_) (by simp;omega) ?_
 .rw[List.mem_reverse] at hd
  obtain⟨st,_,rfl⟩:=aX.mp hd;exact⟨[.int ((st.1:Nat):Int),.str st.2.1,.str st.2.2],rfl,λQ j=>⟨show 3<=sizeLine by omega,j⟩⟩
 have e:((ss.map bU).reverse.map λd=>match d with|.tup [a,b,c]=>D.tup [a,c,b]|d=>d)=(bwd ss).map bU:=by
  unfold bwd;rw[<-List.map_reverse,bR,bR];rfl
 rw[gc,e];exact q _ _ Gr.push aH (aF _)
theorem MQ(T:TopD K mg "comes_to" Hz rS)(k:aj P w K mg base 3 "product" pq (ai mg 2 lG))(i:aj P w K mg base 3 "quotient" r8 (ai mg 2 (λds A R E=>∃a b c d:Int,ds=[.tup [.int a,.int b],.tup [.int c,.int d]]/\lG [.tup [.int a,.int b],.tup [.int d,.int c]] A R E))):aj P w K mg base 4 "comes_to" rS (ai mg 2 xR):=by
 refine bH T T7 λN hR O H nd=>⟨_,(aD (dS 2 nd (cU (aa ao (aa ao af))))
  (aD (eN d_ rfl (cY (vr 1)) (mS rfl (gu (dG 3 nd) (gu (dG 4 nd) (gu (dG 5 nd) mT)))) (aA (dS 2 nd (dL k N O (aa (vr 2) (aa (dL i N O (aa (dX H (dX H (vr 0) (vr 3)) (vr 5)) (aa (dX H (dX H (vr 0) (vr 3)) (vr 4)) af))) af))))))
  (aA (aN (vr 2))))),λds A R h hl=>?_⟩
 obtain⟨r,q0,Ts,ss,rfl,hB,J,h1,Q,S,q⟩:=h;obtain⟨I,n,o⟩:=hB;have hz:(1000:Nat)<=sizeLine:=by decide
 refine⟨show 2<=sizeLine by omega,ef h1 ?_⟩;refine eL (λrest τ A'=>∃(l f:List bB) (x y z:Option D),rest=f.map bU/\l++f=ss/\τ=[some (.ref r),some (.ref q0),some (fq (gK Ts l)),x,y,z]/\Gr A A') ?_ ?_ ?_ _ _ _ ⟨[],ss,none,none,none,rfl,rfl,rfl,Gr.refl⟩
 .rintro rest τ A' ⟨_,_,_,_,_,_,_,_,g⟩
  exact g.get h1
 .rintro v rest τ A1 ⟨l,f,x,y,z,e,j,rfl,g⟩ Nx hN
  cases f with
  |nil=>cases e
  |cons st f=>
  cases e;have p:=Q st (by rw[<-j];simp);have L:∀s∈l,eK Ts s:=λs h=>Q s (by rw[<-j];simp[h]);obtain⟨c1,c2⟩:=K0 J L;obtain⟨U,d2,d3⟩:=IJ J p;have ldn:l.length<=40:=by
   have:=cS List.length j;simp at this;omega
  obtain⟨T0,u,V,W⟩:=p;have M:st.1<I.length:=by rw[o.len];exact(b8.mp u).1
  obtain⟨t,B⟩:∃t,I[st.1]?=some t:=⟨I[st.1],br M⟩;obtain⟨T1,C,hA⟩:=o.get B;rw[u] at C;cases C;have F:=hA.gr g;have G:cX (I.map D.ref) ((st.1:Nat):Int)=some (.ref t):=ua (by rw[bW,B];rfl);have m:=J T0 (dc u);have f1:=wo m V;have f2:=wo m W;have X:=dD f1.pos;have p2:=dD f2.pos;have Y:=c_ (dU T0 st.2.1);have Z:=c_ (dU T0 st.2.2);have Co:(2000000:Int)<2 ^ 64:=by decide
  have n1:=f1.num;have n2:=f2.num;have k1:=f1.den;have k2:=f2.den;refine⟨rfl,fY (g.get n) G (EJ F W (fY (g.get n) G (EJ F V ?_)))⟩;refine⟨rfl,_,_,_,_,rfl,_,_,_,_,rfl,p2,Z,Y,X,by omega,by omega,?_,λA2 g2=>?_⟩
  .have:(rf (dU T0 st.2.2)).1*(rf (dU T0 st.2.1)).2<=2000000*2000000:=ee n2 k1 (dO Y) (by decide)
   exact sQ (show _<=(4000000000000:Int) ^ 0*4000000000000 by rw[Int.pow_zero];omega) (z0 (by decide))
  have eq:((rf (dU T0 st.2.2)).1:Rat)/((rf (dU T0 st.2.2)).2:Rat)*(((rf (dU T0 st.2.1)).2:Rat)/((rf (dU T0 st.2.1)).1:Rat))=dW Ts st:=by
   unfold dW;rw[pM u,pM u,<-mul_div Z X,<-yG f2.pos f1.pos]
  rw[eq];refine⟨rfl,_,_,_,_,rfl,dD c1,c_ _,dD U,c_ _,by omega,by omega,?_,λA3 g3=>?_⟩
  .refine sQ ?_ (z0 ldn)
   exact ee c2 d2 (dO (dD U)) (pow_nonneg (by decide))
  rw[gU,gU];exact hN _ _ ⟨l++[st],f,_,_,_,rfl,by simpa using j,by rw[K1];rfl,(g.trans g2).trans g3⟩
 .rintro τ A1 ⟨l,f,x,y,z,e,j,rfl,g⟩
  cases f with
  |cons _ _=>cases e
  |nil=>
  have j:l=ss:=by simpa using j
  subst j;exact q _ g
theorem MP(T:TopD K mg "closing_steps" Hy vF)(a:mg "enumerate"=none)(k:mg "min"=none):aj P w K mg base 1 "closing_steps" vF (ai mg 1 BH):=by
 refine bH T T6 λW X Y Z nd=>⟨_,(aD (dS 1 nd (cG af))
  (aD (eN d_ rfl (Dq a (aa (vr 0) af)) (mS rfl (gu (dG 2 nd) (gu (dG 3 nd) mT))) (aD (dS 4 nd (dQ (KI rfl) LC k boot_min (aa (vr 3) af)))
  (aA (cV (gq fy sX w4 zK yw (vr 1) (aa (uu (fW none (own:=["other"]) (frees:=["place","first"]) (ix:=[2,4]) rfl (qO (vr 3)) (λc=>(pG 0 (show(["other","place","first"]:List Str).Nodup by decide+kernel))) (λc=>(cU (aa (vr 1) (aa (vr 2) (aa (vr 0) af))))))) af))))))
  (aA (aN (vr 1))))),λds A R h hl=>?_⟩
 obtain⟨r,Ts,rfl,J,h7,b,q⟩:=h;obtain⟨d,h1,h2⟩:=J;have hz:(1000:Nat)<=sizeLine:=by decide
 have B:=h2.len;have C:∀T∈Ts,T.length<=32:=λT u=>(b T u).len;have len:∀i,((Ts.zipIdx.take i).flatMap i8).length<=224:=λi=>by
  have:=CL (Ts.zipIdx.take i) λp L=>by
   have:=tE.mp (pW L);exact C _ (dc this)
  rw[lX,wU] at this;omega
 refine⟨bG _,zp (getElem?_push h1) ?_⟩;refine eL (λrest τ A'=>∃(i:Nat) (x y z:Option D),i<=d.length/\rest=(iu (d.map D.ref)).drop i/\τ=[some (.ref r),some (.ref A.length),x,y,z]/\A'[A.length]?=some (.lst (((Ts.zipIdx.take i).flatMap i8).map bU))/\Gr A A') ?_ ?_ ?_ _ _ _ ⟨0,none,none,none,bG _,rfl,rfl,aH,Gr.push⟩
 .rintro rest τ A' ⟨i,x,y,z,_,_,_,_,g⟩
  exact g.get h1
 .rintro v rest τ M ⟨i,x,y,z,hi,e,rfl,hc,g⟩ Nx N
  by_cases l:i<d.length
  .obtain⟨t,I⟩:∃t,d[i]?=some t:=⟨d[i],br l⟩
   obtain⟨T0,u,O⟩:=h2.get I;have n:=O.gr g;have f:i<(iu (d.map D.ref)).length:=by rw[oQ,aP];exact l
   have ev:=DH (ds:=d.map D.ref) (i:=i) (x:=.ref t) (by rw[bW,I];rfl);rw[lu f] at e;rw[br f] at ev;have ev:=Option.some.inj ev;rw[ev] at e;cases e;have j:=b T0 (dc u);have E:((Ts.zipIdx.take (i+1)).flatMap i8)=((Ts.zipIdx.take i).flatMap i8)++i8 (T0,i):=by
    rw[Jj u,qf];simp
   have ln:=len i;have F:aE T0≠[]:=λz=>j.ne (by simpa[aE] using z);have S:=j.len;have G:(aE T0).length=T0.length:=by simp[aE]
   refine⟨rfl,Qo n (PF T0) F λm U s=>?_⟩;have H:=Fl U s;refine⟨fh hc,D0 (λo=>.tup [.int ((i:Nat):Int),.str m,o]) rfl n (by omega) (λA' o ho Q V=>⟨show 3<=sizeLine by omega,V⟩) ?_⟩;refine yR (getElem?_push hc) aH (by rw[aP,aP,G];omega) ?_;have em:((aE T0).map λo=>D.tup [.int ((i:Nat):Int),.str m,.str o])=(i8 (T0,i)).map bU:=by
    unfold i8;rw[bR,H];rfl
   refine N _ _ ⟨i+1,_,_,_,by omega,rfl,rfl,?_,(g.trans Gr.push).set (aF _)⟩;rw[E,eB,em];exact get_set (getElem?_push hc)
  .rw[qc (by rw[oQ,aP];omega)] at e
   cases e
 .rintro τ M ⟨i,x,y,z,hi,e,rfl,hc,g⟩
  have hi:i=d.length:=by
   have:=cS List.length e;simp[oQ] at this;omega
  rw[hi,B,sY (by rw[wU];exact aF _)] at hc;exact q _ _ g hc (aF _)
end My
namespace DP
open L2 MA
def jb(Gs:List aO)(n:Str):List bB:=Gs.foldl (λacc P=>if n∈aB P then c9 P n else acc) []
theorem P7(Gs:List aO)(P:aO)(n:Str):jb (Gs++[P]) n=if n∈aB P then c9 P n else jb Gs n:=by
 unfold jb;rw[nY];rfl
noncomputable def jz(Ts:List Tb)(s:bB):List bB:=jb (bu Ts) s.2.1++[s]++bwd (jb (bu Ts) s.2.2)
noncomputable def fO(Ts:List Tb):Option (List bB):=((kE Ts).map (jz Ts)).find? (λss=> !decide (gK Ts ss=1))
theorem eV.get{lo:Nat}{A:Ar}:∀{qs:List Nat} {Ps:List aO} {i q:Nat},eV lo A qs Ps->qs[i]?=some q->∃P,Ps[i]?=some P/\gn lo A q P
 |[],[],i,t,_,e=>by simp at e
 |t::a,T::Ts,0,_,h,e=>by
  simp at e;subst e;exact⟨T,rfl,h.1⟩
 |t::a,T::Ts,i+1,_,h,e=>by
  obtain⟨b,h1,h2⟩:=eV.get (i:=i) h.2 (by simpa using e);exact⟨b,by simpa using h1,h2⟩
 |[],_::_,_,_,h,_=>h.elim
 |_::_,[],_,_,h,_=>h.elim
theorem Ei{Ts:List Tb}:∀(ns:List Str) (Gs:List aO) (P:aO),P∈ns.foldl (cH Ts) Gs->P∈Gs\/∃n∈ns,P=aJ Ts n
 |[],Gs,P,h=>.inl h
 |n::ns,Gs,P,h=>by
  rcases Ei ns (cH Ts Gs n) P h with h|⟨m,h1,h2⟩
  .unfold cH at h
   split at h
   .exact .inl h
   .rcases bV.mp h with h|h
    .exact .inl h
    .exact .inr ⟨n,bh ..,bM.mp h⟩
  .exact .inr ⟨m,aZ _ h1,h2⟩
theorem iP{Ts:List Tb}{NN:List Str}(hok:eH Ts NN){P:aO}(h:P∈bu Ts):∃n∈NN,(∃T∈Ts,n∈aE T)/\P=aJ Ts n:=by
 rcases Ei _ _ P h with h|⟨n,h1,h2⟩
 .cases h
 .obtain⟨T,a,b⟩:=gY.mp h1
  exact⟨n,hok.sub T a n b,⟨T,a,b⟩,h2⟩
theorem Cv{Ts:List Tb}:∀(f i:Nat) (P:aO),(∀p∈P,∀s∈p.2,eK Ts s)->∀p∈dN Ts f i P,∀s∈p.2,eK Ts s
 |0,i,P,h=>h
 |f+1,i,P,h=>by
  cases e:P[i]? with
  |none=>
   have:dN Ts (f+1) i P=P:=by
    show(match P[i]? with|some p=>dN Ts f (i+1) ((dY Ts p.1).foldl ck P)|none=>P)=_;rw[e]
   rw[this];exact h
  |some d=>
   rw[qB e];refine Cv f (i+1) _ ?_;have key:∀(ss:List bB) (Q:aO),(∀s∈ss,s∈dY Ts d.1)->(∀p∈Q,∀s∈p.2,eK Ts s)->∀p∈ss.foldl ck Q,∀s∈p.2,eK Ts s:=by
    intro ss;induction ss with
    |nil=>intro Q _ h;exact h
    |cons s ss g=>
     intro Q b a;refine g _ (λx j=>b x (aZ _ j)) λp hp s' hs'=>?_;unfold ck at hp;split at hp
     .exact a p hp s' hs'
     .rcases bV.mp hp with hp|hp
      .exact a p hp s' hs'
      .rw[bM.mp hp] at hs'
       rcases bV.mp hs' with hs'|hs'
       .by_cases c:s.2.1∈aB Q
        .exact a _ (m8 c) s' hs'
        .have k:c9 Q s.2.1=[]:=by
          have:=find_some (T:=Q) (n:=s.2.1);rw[d7 (show ¬s.2.1∈Q.map (·.1) from c)] at this;unfold c9;cases e:Q.find? (λp=>decide (p.1=s.2.1)) with
          |none=>rfl
          |some p=>rw[e] at this;cases this
         rw[k] at hs';cases hs'
       .rw[bM.mp hs']
        obtain⟨T,h1,h2,l,m⟩:=nc.mp (b s (bh ..));exact⟨T,h1,by rw[l];exact h2,m⟩
   exact key _ _ (λs h=>h) h
theorem zY{Ts:List Tb}{n:Str}:∀p∈aJ Ts n,∀s∈p.2,eK Ts s:=
 Cv 14 0 _ λp b s a=>by
  have:p=(n,[]):=by simpa using b
  rw[this] at a;cases a
theorem E3{Ts:List Tb}{NN:List Str}(hok:eH Ts NN)(n:Str):∀(Gs:List aO) (acc:List bB),(∀P∈Gs,P∈bu Ts)->((∀s∈acc,eK Ts s)/\acc.length<=11)->(∀s∈Gs.foldl (λacc P=>if n∈aB P then c9 P n else acc) acc,eK Ts s)/\(Gs.foldl (λacc P=>if n∈aB P then c9 P n else acc) acc).length<=11
 |[],acc,_,h=>h
 |P::Gs,acc,h,c=>by
  rw[ji];refine E3 hok n Gs _ (λQ d=>h Q (aZ _ d)) ?_;split
  .rename_i e
   obtain⟨m,f,_,rfl⟩:=iP hok (h P (bh ..));obtain⟨b,_,_⟩:=fZ hok f;have a:=m8 e;refine⟨zY _ a,?_⟩;have h1:=b.pl _ a;have h2:=b.len;have g:=hok.nn;simp at h1;omega
  .exact c
theorem u0{Ts:List Tb}{NN:List Str}(hok:eH Ts NN)(Gs:List aO)(n:Str)(h:∀P∈Gs,P∈bu Ts):(∀s∈jb Gs n,eK Ts s)/\(jb Gs n).length<=11:=
 E3 hok n Gs [] h ⟨(λs h=>by cases h),bG _⟩
theorem Ky{Ts:List Tb}{ss:List bB}(h:∀s∈ss,eK Ts s):∀s∈bwd ss,eK Ts s:=λs d=>by
 unfold bwd at d;obtain⟨s',h1,rfl⟩:=aX.mp d;obtain⟨T,a,b,c⟩:=h s' (List.mem_reverse.mp h1);exact⟨T,a,c,b⟩
theorem CK{Ts:List Tb}{s:bB}(h:s∈kE Ts):∃T,Ts[s.1]?=some T/\s.2.1=ng T/\s.2.2∈aE T:=by
 unfold kE at h;obtain⟨⟨T,i⟩,a,b⟩:=gY.mp h;have a:=tE.mp a;unfold i8 at b;obtain⟨o,c,rfl⟩:=aX.mp b;exact⟨T,a,rfl,c⟩
theorem Fj{T:Tb}(h:T≠[]):ng T∈aE T/\∀n∈aE T,¬n.cps.toList<(ng T).cps.toList:=by
 have key:∀ns:List Str,ns≠[]->∃m,m∈ns/\∀n∈ns,¬n.cps.toList<m.cps.toList:=by
  intro ns;induction ns with
  |nil=>intro h;exact absurd rfl h
  |cons a ns c=>
   intro _;by_cases hn:ns=[]
   .subst hn
    exact⟨a,by simp,λn hn=>by
     have:n=a:=by simpa using hn
     rw[this];exact kh _⟩
   .obtain⟨m,h1,h2⟩:=c hn
    by_cases b:a.cps.toList<m.cps.toList
    .refine⟨a,by simp,λn hn=>?_⟩
     rcases aY.mp hn with rfl|hn
     .exact kh _
     .exact λz=>h2 n hn (xu z b)
    .refine⟨m,by simp[h1],λn hn=>?_⟩
     rcases aY.mp hn with rfl|hn
     .exact b
     .exact h2 n hn
 obtain⟨m,h1,h2⟩:=key (aE T) (λz=>h (by simpa[aE] using z));rw[Fl h1 h2];exact⟨h1,h2⟩
theorem GP{Ts:List Tb}{NN:List Str}(hok:eH Ts NN){s:bB}(h:s∈kE Ts):(∀x∈jz Ts s,eK Ts x)/\(jz Ts s).length<=40:=by
 obtain⟨T,h1,h2,a⟩:=CK h;have b:=dc h1;obtain⟨a1,a2⟩:=u0 hok (bu Ts) s.2.1 λP h=>h;obtain⟨c,e⟩:=u0 hok (bu Ts) s.2.2 λP h=>h;have d:eK Ts s:=⟨T,h1,by rw[h2];exact(Fj (hok.tok T b).ne).1,a⟩;unfold jz;constructor
 .intro x hx
  rcases bV.mp hx with hx|hx
  .rcases bV.mp hx with hx|hx
   .exact a1 x hx
   .rw[bM.mp hx]
    exact d
  .exact Ky c x hx
 .simp[bwd]
  omega
def ya:Ct:=λds A R _=>∃r Ts NN,ds=[.ref r]/\g9 A r Ts/\eH Ts NN/\(fO Ts=none->∀A',Gr A A'->R .aC A')/\∀ss,fO Ts=some ss->∀A' q,Gr A A'->A'[q]?=some (.lst (ss.map bU))->A.length<=q->R (.ref q) A'
def xZ:Ct:=λds A R E=>∃r Ts NN,ds=[.ref r]/\g9 A r Ts/\eH Ts NN/\(fO Ts=none->∀A',Gr A A'->R .aC A')/\(fO Ts≠none->∀A',Gr A A'->E "Never" A')
theorem zJ:∀(a kvs:List (Key×D)) (k:Key),(a.map (·.1)).Nodup->bf (jX kvs a) k=match bf a k with|some v=>some v|none=>bf kvs k
 |[],kvs,k,_=>rfl
 |p::a,kvs,k,c=>by
  have b:=j9.mp (show(p.1::a.map (·.1)).Nodup from c);show bf (jX (cy kvs p.1 p.2) a) k=_;rw[zJ a _ k b.2,oX];show _=match (if p.1=k then some p.2 else bf a k) with|some v=>some v|none=>bf kvs k
  by_cases e:p.1=k
  .rw[av e,av e]
   have:bf a k=none:=by
    cases h:bf a k with
    |none=>rfl
    |some v=>
     exfalso;refine b.1 ?_;rw[e];clear zJ c b;induction a with
     |nil=>cases h
     |cons q a f=>
      have h:(if q.1=k then some q.2 else bf a k)=some v:=h;by_cases d:q.1=k
      .simp[d]
      .rw[ay d] at h
       simp[f h]
   rw[this]
  .rw[ay e,ay e]
def qm(b:Nat)(NN:List Str)(A:Ar)(Gs:List aO):Prop:=∃(kvs:List (Key×D)) (ns:List Str),A[b]?=some (.dct kvs)/\kvs.map (·.1)=ns.map Sum.inr/\ns.Nodup/\(∀n,n∈ns↔n∈ez Gs)/\(∀n∈ns,n∈NN)/\∀n∈ns,∃a,b<a/\bf kvs (Sum.inr n)=some (.ref a)/\A[a]?=some (.lst ((jb Gs n).map bU))
theorem qm.gr{b:Nat}{NN:List Str}{A B:Ar}{Gs:List aO}(h:qm b NN A Gs)(g:Gr A B):qm b NN B Gs:=by
 obtain⟨kvs,ns,h1,h2,c,d,e,f⟩:=h;exact⟨kvs,ns,g.get h1,h2,c,d,e,λn i=>by obtain⟨a,x,y,z⟩:=f n i;exact⟨a,x,y,g.get z⟩⟩
theorem Fv{ns:List Str}(h:ns.Nodup):(ns.map (Sum.inr:Str->Key)).Nodup:=by
 exact Pairwise.map _ (λa b c e=>c (Sum.inr.inj e)) h
end DP
namespace My
open L2 DP MA
theorem Nz(T:TopD K mg "find_ring" HA rT)(l:aj P w K mg base 3 "groups" o9 (ai mg 1 tY))(d:aj P w K mg base 1 "closing_steps" vF (ai mg 1 BH))(f:aj P w K mg base 1 "backward" vC (ai mg 1 BE))(j:aj P w K mg base 4 "comes_to" rS (ai mg 2 xR)):aj P w K mg base 5 "find_ring" rT (ai mg 1 ya):=by
 refine bH T T8 λX hR Y L nd=>⟨_,(aD (dS 1 nd yD)
  (aD (eN d_ rfl (cY (dL l X Y (aa (vr 0) af))) (dG 2 nd) (aA (cV (C_ PySem.F.plainAttrs_dict slot_dict_update PySem.F.type_dict_update Fp C7 (vr 1) (aa (vr 2) af)))))
  (aD (eN d_ rfl (cY (dL d X Y (aa (vr 0) af))) (dG 3 nd) (aD (dS 4 nd (cM (cM (dX L (vr 1) (dX L (vr 3) ao)) (cG (aa (vr 3) af))) (dL f X Y (aa (dX L (vr 1) (dX L (vr 3) ao)) af))))
  (aA (bP (nE L (dL j X Y (aa (vr 0) (aa (vr 4) af))) (cU (aa ao (aa ao af)))) (aA (aN (vr 4))) bT))))
  (aA (aN jQ))))),λds A R h hl=>?_⟩
 obtain⟨r,Ts,NN,rfl,hB,hok,q1,q2⟩:=h;have hz:(1000:Nat)<=sizeLine:=by decide
 have e1:(A++[C.dct []]).length=A.length+1:=by simp
 refine⟨rfl,r,Ts,NN,rfl,hB.gr Gr.push,hok,λA1 q0 g1 hG=>?_⟩;obtain⟨lq,gs,M,B⟩:=hG;rw[e1] at lq B;have m7:=B.len;have Oc:qm A.length NN A1 []:=⟨[],[],g1.get aH,rfl,l_,λn=>by simp[ez],(λn h=>by cases h),(λn h=>by cases h)⟩;have NT:Gr A A1:=Gr.push.trans g1;refine ef M ?_;refine eL (λrest τ A'=>∃(i:Nat) (x:Option D),i<=gs.length/\rest=(gs.map D.ref).drop i/\τ=[some (.ref r),some (.ref A.length),x,none,none]/\qm A.length NN A' ((bu Ts).take i)/\A'[q0]?=some (.lst (gs.map D.ref))/\eV (A.length+1) A' gs (bu Ts)/\Gr A A') ?_ ?_ ?_ _ _ _ ⟨0,none,bG _,rfl,rfl,Oc,M,B,NT⟩
 .rintro rest τ A' ⟨_,_,_,_,_,_,h,_,_⟩
  exact h
 .rintro v rest τ A2 ⟨i,x,hi,e,rfl,Z,hq,hP,E⟩ Nx hN
  by_cases N:i<gs.length
  .obtain⟨t,ht⟩:∃t,gs[i]?=some t:=⟨gs[i],br N⟩
   obtain⟨P0,O,Od⟩:=hP.get ht;have u:i<(gs.map D.ref).length:=by rw[aP];exact N
   have ev:(gs.map D.ref)[i]?=some (.ref t):=by rw[bW,ht];rfl
   rw[lu u] at e;rw[br u] at ev;have ev:=Option.some.inj ev;rw[ev] at e;cases e;obtain⟨m,hm,_,eP⟩:=iP hok (dc O);obtain⟨p,_,_⟩:=fZ hok hm;rw[<-eP] at p;obtain⟨Qe,b,m1,m2,m3⟩:=id Od;obtain⟨kvs,ns,k1,k2,k3,k4,k5,k6⟩:=Z;have oR:(bu Ts).take (i+1)=(bu Ts).take i++[P0]:=by rw[p5,O];rfl
   have ln:ns.length<=12:=cR (kP ns NN k3 k5) hok.nn;have P5:kvs.length=ns.length:=by
    have:=cS List.length k2;simpa using this
   have P6:b.length=P0.length:=by
    have:=cS List.length m2;simpa[aB] using this
   have lP:=p.len;have QH:=hok.nn;obtain⟨ns',j1,j2,j3⟩:=Fo k2 m2 k3;have Qu:(b.map (·.1)).Nodup:=by rw[m2];exact Fv p.nd
   refine⟨EF k1,Jg k1 m1 (by omega) (by omega) ?_⟩;refine hN _ _ ⟨i+1,_,by omega,rfl,rfl,?_,fQ (by omega) hq,hP.jy λq P z=>z.set (by omega),E.set (aF _)⟩;rw[oR];refine⟨_,ns',sE k1,j1,j2,λn=>?_,λn hn=>?_,λn hn=>?_⟩
   .rw[j3,k4]
    simp[ez]
   .rcases (j3 n).mp hn with h'|h'
    .exact k5 n h'
    .exact p.sub n h'
   .rw[zJ _ _ _ Qu,P7]
    by_cases o:n∈aB P0
    .obtain⟨a,z,ga,ha⟩:=m3 n o
     rw[ga,av o];exact⟨a,by omega,rfl,fQ (by omega) ha⟩
    .have hn1:n∈ns:=by
      rcases (j3 n).mp hn with h'|h'
      .exact h'
      .exact absurd h' o
     have e0:bf b (Sum.inr n)=none:=by
      have:=uW (n:=n) m2;rw[d7 o] at this;cases e:bf b (Sum.inr n) with
      |none=>rfl
      |some v=>rw[e] at this;cases this
     obtain⟨a,z,ga,ha⟩:=k6 n hn1;rw[e0,ay o];exact⟨a,z,ga,fQ (by omega) ha⟩
  .rw[qc (by rw[aP];omega)] at e
   cases e
 rintro τ A2 ⟨i,x,hi,e,rfl,Z,hq,hP,E⟩;have hi:i=gs.length:=by
  have:=cS List.length e;simp at this;omega
 rw[hi,m7,take_length] at Z;refine⟨rfl,r,Ts,rfl,hB.gr E,hok.len,hok.tok,λA3 q3 g3 h3 l3=>?_⟩;refine ef h3 ?_;refine eL (λrest τ A'=>∃(G b:List bB) (y z:Option D),rest=b.map bU/\G++b=kE Ts/\(∀s∈G,gK Ts (jz Ts s)=1)/\τ=[some (.ref r),some (.ref A.length),x,y,z]/\Gr A3 A') ?_ ?_ ?_ _ _ _ ⟨[],kE Ts,none,none,rfl,rfl,(λ_ h=>by cases h),rfl,Gr.refl⟩
 .rintro rest τ A' ⟨_,_,_,_,_,_,_,_,g⟩
  exact g.get h3
 .rintro v rest τ A4 ⟨G,b,y,z,e,k,h1,rfl,J⟩ Nx hN
  cases b with
  |nil=>cases e
  |cons st b=>
  cases e;have Q:st∈kE Ts:=by rw[<-k];simp
  obtain⟨T0,hT,c1,c2⟩:=CK Q;have H:=dc hT;have n1:st.2.1∈ez (bu Ts):=Ef hok H (by rw[c1];exact(Fj (hok.tok T0 H).ne).1);have n2:st.2.2∈ez (bu Ts):=Ef hok H c2;obtain⟨kvs,ns,k1,k2,k3,k4,k5,k6⟩:=Z.gr (g3.trans J);obtain⟨a1,_,NV,ha1⟩:=k6 _ ((k4 _).mpr n1);obtain⟨a2,_,NW,ha2⟩:=k6 _ ((k4 _).mpr n2);obtain⟨_,b1⟩:=u0 hok (bu Ts) st.2.1 λP h=>h;obtain⟨_,b2⟩:=u0 hok (bu Ts) st.2.2 λP h=>h;obtain⟨r1,r2⟩:=GP hok Q;refine jU k1 rfl NV ⟨show 1<=sizeLine by omega,kD (getElem?_push ha1) aH (by simp;omega) ?_⟩;refine jU (getElem?_push (getElem?_push k1)) rfl NW ?_;refine⟨rfl,a2,_,rfl,getElem?_push (getElem?_push ha2),by omega,λA5 q5 g5 h5 l5=>?_⟩;have S:A5[(A4++[C.lst [bU st]]).length]?=some (.lst ((jb (bu Ts) st.2.1).map bU++[bU st])):=g5.get aH;have WA:(bwd (jb (bu Ts) st.2.2)).length<=11:=by simp[bwd];exact b2
  refine kD S h5 (by simp;omega) ?_;have em:(jb (bu Ts) st.2.1).map bU++[bU st]++(bwd (jb (bu Ts) st.2.2)).map bU=(jz Ts st).map bU:=by
   unfold jz;simp
  rw[em];have U:Gr A4 (A5++[C.lst ((jz Ts st).map bU)]):=((Gr.push.trans Gr.push).trans g5).trans Gr.push;have V:=(g3.trans J).trans U;refine⟨rfl,r,A5.length,Ts,jz Ts st,rfl,hB.gr (E.trans V),hok.tok,aH,r1,r2,λA6 g6=>⟨show 2<=sizeLine by omega,zN (y:=1) ?_⟩⟩;refine cN (λc=>?_) (λc=>?_)
  .have er:fO Ts=some (jz Ts st):=by
    unfold fO;rw[<-k,eB,find?_append,cg];have e0:(G.map (jz Ts)).find? (λss=> !decide (gK Ts ss=1))=none:=by
     rw[tH];intro ss I;obtain⟨s,W,rfl⟩:=aX.mp I;simp[h1 s W]
    rw[e0,List.find?_cons_of_pos (by simpa using c)];rfl
   have ll:=(E.trans (g3.trans J)).len;have PN:=g5.len;simp at PN;exact q2 _ er A6 _ ((E.trans V).trans g6) (g6.get aH) (by omega)
  .refine hN _ _ ⟨G++[st],b,_,_,rfl,by simpa using k,λs W=>?_,rfl,(J.trans U).trans g6⟩
   rcases bV.mp W with h'|h'
   .exact h1 s h'
   .rw[bM.mp h']
    exact c
 .rintro τ A4 ⟨G,b,y,z,e,k,h1,rfl,J⟩
  cases b with
  |cons _ _=>cases e
  |nil=>
  have k:G=kE Ts:=by simpa using k
  subst k;refine q1 ?_ _ ((E.trans g3).trans J);unfold fO;rw[tH];intro ss I;obtain⟨s,W,rfl⟩:=aX.mp I;simp[h1 s W]
theorem Ni(T:TopD K mg "check_no_ring" Hv rQ){b:Addr}(c:mg "Never"=some (.ref b))(d:excIn K b j8 "ValueError.__new__"=true)(a:aj P w K mg base 5 "find_ring" rT (ai mg 1 ya)):aj P w K mg base 6 "check_no_ring" rQ (ai mg 1 xZ):=by
 refine bH T T3 λi j k o nd=>⟨_,(aA (bP (Az (dL a i k (aa (vr 0) af)) jQ) (aA (kF j rfl c d (aa a_ af))) bT)),λds A R h hl=>?_⟩;obtain⟨r,Ts,NN,rfl,l,hok,m,n⟩:=h;exact⟨rfl,r,Ts,NN,rfl,l,hok,λe f g=>m e f g,λss e f p g h1 l1=>⟨show 1<=sizeLine by decide,n (by rw[e];simp) f g⟩⟩
end My
namespace DP
open L2 MA
mutual
def cu(A:Ar):D->Bool
 |.tup xs=>iz A xs
 |.exc _=>false
 |.str z=>decide (z.length<=sizeLine)
 |.ref r=>match A[r]? with
  |some (.lst _)=>true
  |some (.dct _)=>true
  |_=>false
 |_=>true
def iz(A:Ar):List D->Bool
 |[]=>true
 |x::xs=>cu A x&&iz A xs
end
def gR(x:D)(a b:Int):Bool:=match x with
 |.int i=>decide (a<=i)&&decide (i<=b)
 |_=>false
def oG:D->Bool
 |.str z=> !decide (z.cps.toList<("a":Str).cps.toList)&& !decide (("z":Str).cps.toList<z.cps.toList)
 |_=>false
def jw:D->Bool
 |.str n=>decide ((1:Int)<=(n.length:Nat))&&decide (((n.length:Nat):Int)<=3)&&(f7 n).all oG
 |_=>false
def c8:Nat->D->Bool
 |_,.tup [.str k,n]=>decide (k="weight")&&jw n
 |d+1,.tup [.str k,l,r,a,b]=>decide (k="rod")&&gR l 1 9&&gR r 1 9&&c8 d a&&c8 d b
 |_,_=>false
def B6:Ct:=λds A R _=>∃x a b,ds=[x,.int a,.int b]/\cu A x=true/\∀A',Gr A A'->R (.bl (gR x a b)) A'
def BY:Ct:=λds A R _=>∃x,ds=[x]/\cu A x=true/\∀A',Gr A A'->R (.bl (jw x)) A'
def BK(d:Nat):Ct:=λds A R _=>∃x,ds=[x,.int ((d:Int) - 1)]/\0<d/\cu A x=true/\∀A',Gr A A'->R (.bl (c8 (d - 1) x)) A'
def xY:Ct:=λds A R _=>∃x,ds=[x]/\cu A x=true/\∀A',Gr A A'->R (.bl (c8 5 x)) A'
def xQ:Ct:=λds A R E=>∃x,ds=[x]/\cu A x=true/\∀A',Gr A A'->if c8 5 x=true then R .aC A' else E "NoMobile" A'
mutual
theorem rL{A A':Ar}(g:Gr A A'):∀x,cu A x=true->cu A' x=true
 |.tup xs,h=>by
  have h:iz A xs=true:=h;exact FO g xs h
 |.aC,h=>rfl
 |.bl _,h=>rfl
 |.int _,h=>rfl
 |.str _,h=>h
 |.fl _,h=>rfl
 |.exc _,h=>by cases h
 |.ref r,h=>by
  unfold cu at h ⊢;cases e:A[r]? with
  |none=>rw[e] at h;cases h
  |some c=>rw[e] at h;rw[g.get e];exact h
theorem FO{A A':Ar}(g:Gr A A'):∀xs,iz A xs=true->iz A' xs=true
 |[],h=>rfl
 |x::xs,h=>by
  have h:(cu A x&&iz A xs)=true:=h;rw[dP] at h;show(cu A' x&&iz A' xs)=true;rw[dP];exact⟨rL g x h.1,FO g xs h.2⟩
end
theorem yg{α:Type}(y:α)(ys:List α):cX (y::ys) 0=some y:=ua (j:=0) rfl
theorem zm{d:Nat}{k:Str}{ys:List D}(h1:∀n,ys=[n]->¬k="weight")(h2:∀l r a b,ys=[l,r,a,b]->¬k="rod"):c8 d (.tup (.str k::ys))=false:=by
 match ys with
 |[]=>cases d<;>rfl
 |[n]=>
  have e:c8 d (.tup [.str k,n])=(decide (k="weight")&&jw n):=by cases d<;>rfl
  rw[e,d7 (h1 n rfl)];rfl
 |[_,_]=>cases d<;>rfl
 |[_,_,_]=>cases d<;>rfl
 |[l,r,a,b]=>
  cases d with
  |zero=>rfl
  |succ d=>
   show(decide (k="rod")&&gR l 1 9&&gR r 1 9&&c8 d a&&c8 d b)=false;rw[d7 (h2 l r a b rfl)];rfl
 |_::_::_::_::_::_=>cases d<;>rfl
theorem O1{d:Nat}{k:Str}{ys:List D}(h1:¬k="weight")(h2:¬k="rod"):c8 d (.tup (.str k::ys))=false:=zm (λ_ _=>h1) λ_ _ _ _ _=>h2
theorem rM{A:Ar}{r:Nat}(h:cu A (.ref r)=true):j6 A (.ref r)=some "list"\/j6 A (.ref r)=some "dict":=by
 unfold cu at h;cases e:A[r]? with
 |none=>rw[e] at h;cases h
 |some c=>
  rw[e] at h;cases c with
  |lst xs=>exact .inl (by unfold j6;simp only[e])
  |dct kvs=>exact .inr (by unfold j6;simp only[e])
  |bC o kvs=>cases h
  |ins cl fs=>cases h
theorem O2{n:Str}(h:Nm n):jw (.str n)=true:=by
 have h1:=h.lo;have e:=h.hi;unfold jw;rw[dP,dP,iH,iH];refine⟨⟨by omega,by omega⟩,tG.mpr λx a=>?_⟩;obtain⟨c,hc,rfl⟩:=aX.mp a;obtain⟨f,g⟩:=h.az c hc;have b:¬((⟨#[c]⟩:Str).cps.toList<("a":Str).cps.toList):=by
  rw[My.Ag];intro h;have:=My.rN.mp h;omega
 have d:¬(("z":Str).cps.toList<(⟨#[c]⟩:Str).cps.toList):=by
  rw[My.Ah];intro h;have:=My.rN.mp h;omega
 show(!decide ((⟨#[c]⟩:Str).cps.toList<("a":Str).cps.toList)&& !decide (("z":Str).cps.toList<(⟨#[c]⟩:Str).cps.toList))=true;rw[d7 b,d7 d];rfl
theorem QV{A:Ar}{n:Str}(h:Nm n):cu A (.str n)=true:=dg (cR h.hi (by decide))
theorem vh{A:Ar}:∀{m:M},(∀n∈m.names,Nm n)->cu A (enc m)=true
 |.wt n,h=>by
  have c:=QV (A:=A) (h n (by simp[bz.names]));have e:cu A (.str "weight")=true:=show decide (("weight":Str).length<=sizeLine)=true by decide+kernel
  show(cu A (.str "weight")&&(cu A (.str n)&&true))=true;rw[c,e];rfl
 |.bQ l r a b,h=>by
  have d:=vh (A:=A) (m:=a) λn c=>h n (by simp[bz.names,c]);have f:=vh (A:=A) (m:=b) λn c=>h n (by simp[bz.names,c]);have e:cu A (.str "rod")=true:=show decide (("rod":Str).length<=sizeLine)=true by decide+kernel
  show(cu A (.str "rod")&&(true&&(true&&(cu A (enc a)&&(cu A (enc b)&&true)))))=true;rw[d,f,e];rfl
theorem uS:∀{m:M} {d:Nat},Wf m->m.deep<=d->c8 d (enc m)=true
 |.wt n,d,c,_=>by
  have e:=O2 (c.nm n (by simp[bz.names]));cases d<;>(show(decide (("weight":Str)="weight")&&jw (.str n))=true;rw[e];decide+kernel)
 |.bQ l r a b,d,c,hd=>by
  have hd:max a.deep b.deep+1<=d:=hd;cases d with
  |zero=>omega
  |succ d=>
   obtain⟨h1,h2,f,g,h,i⟩:=c.arms;show(decide (("rod":Str)="rod")&&gR (.int l) 1 9&&gR (.int r) 1 9&&c8 d (enc a)&&c8 d (enc b))=true;rw[uS c.left (by omega),uS c.right (by omega)];simp[gR,h1,h2,f,g]
end DP
namespace My
open L2 DP MA
theorem MH(T:TopD K mg "is_number" Ad nv)(d:mg "isinstance"=none)(f:mg "bool"=none)(g:mg "int"=none):aj P w K mg base 1 "is_number" nv (ai mg 3 B6):=by
 refine bH T Im λk l m n nd=>⟨_,(aD (bP (PW.pt (fX (ff (jr EK d f boot_bool (vr 0))) (gO (fF (ff (jr EM d g boot_int (vr 0))))))) (aA (aN jo)) bT)
  (aA (aN (uC (vr 1) (vr 0) (vr 2))))),λds A R h hl=>?_⟩
 obtain⟨x,a,b,rfl,j,q⟩:=h;cases x with
 |int i=>
  have q:∀A',Gr A A'->R (.bl (decide (a<=i)&&decide (i<=b))) A':=q;refine cD (λc=>?_) (λc=>?_)
  .have e:(decide (a<=i)&&decide (i<=b))=decide (i<=b):=by simp[c]
   rw[e] at q;exact q _ Gr.refl
  .have e:(decide (a<=i)&&decide (i<=b))=false:=by simp[c]
   rw[e] at q;exact q _ Gr.refl
 |exc c=>cases j
 |ref r=>
  rcases rM j with e|e;all_goals
   conv=>whnf
   rw[e];conv=>whnf
   rw[e];exact q _ Gr.refl
 |_=>exact q _ Gr.refl
theorem MG(T:TopD K mg "is_name" Ac nu)(b:mg "isinstance"=none)(d:mg "str"=none)(g:mg "len"=none)(i:mg "all"=none){t:Tok}(a:mg "LONGEST_NAME"=some (.int 3 t)):aj P w K mg base 1 "is_name" nu (ai mg 1 BY):=by
 refine bH T Il λs u p v nd=>⟨_,(aD (bP (PW.pt (fX (fF (ff (jr zv b d boot_str (vr 0)))) (gO (fF (AA ao (dQ gp fL g gD (aa (vr 0) af)) (mR a)))))) (aA (aN jo)) bT)
  (aA (aN (dQ (yp rfl) yv i boot_all (aa (fW none (own:=["letter"]) (frees:=[]) (ix:=[]) rfl (Ds (vr 0)) (λc=>(pG 0 (show(["letter"]:List Str).Nodup by decide+kernel))) (λc=>(uC a_ (vr 0) a_))) af))))),λds A R h hl=>?_⟩
 obtain⟨x,rfl,k,q⟩:=h;cases x with
 |str n=>
  have hz:n.length<=sizeLine:=iF k;have q:∀A',Gr A A'->R (.bl (decide ((1:Int)<=(n.length:Nat))&&decide (((n.length:Nat):Int)<=3)&&(f7 n).all oG)) A':=q;refine⟨hz,cD (λl=>?_) (λl=>?_)⟩
  .refine cN (λm=>?_) (λm=>?_)
   .rw[d7 m] at q
    simp only[wQ,Bool.false_and] at q;exact q _ Gr.refl
   rw[dg l,dg m] at q;simp only[wV] at q;refine iN (f:=λx=>.bl (oG x)) trivial _ _ (λx p=>⟨[x],rfl,λQ j=>?_⟩) ?_ ?_
   .obtain⟨c,hc,rfl⟩:=aX.mp p
    have j:Q (.bl (!decide ((⟨#[c]⟩:Str).cps.toList<("a":Str).cps.toList)&& !decide (("z":Str).cps.toList<(⟨#[c]⟩:Str).cps.toList))) A:=j;refine cN (λo=>?_) (λo=>?_)
    .rw[d7 o] at j
     exact j
    .rw[dg o] at j
     exact j
   .have:(f7 n).length=n.length:=by simp[f7,Str.length]
    show 0+(f7 n).length<=sizeLine;omega
   .refine yd (bs:=(f7 n).map oG) aH (qC _ _) ?_
    have e:((f7 n).map oG).all id=(f7 n).all oG:=by simp
    rw[e];exact q _ Gr.push
  .rw[d7 l] at q
   simp only[Bool.false_and] at q;exact q _ Gr.refl
 |exc c=>cases k
 |ref r=>
  rcases rM k with e|e;all_goals
   conv=>whnf
   rw[e];exact q _ Gr.refl
 |_=>exact q _ Gr.refl
theorem ME (T : TopD K mg "is_mobile_within" HG vG) (j : mg "isinstance" = none) (F : mg "str" = none) (z : mg "tuple" = none) (p : mg "len" = none) {t : Tok} (i : mg "LONGEST_ARM" = some (.int 9 t))
    (u:aj P w K mg base 1 "is_name" nu (ai mg 1 BY))(m:aj P w K mg base 1 "is_number" nv (ai mg 3 B6)):∀d,aj P w K mg base (d+1) "is_mobile_within" vG (ai mg 2 (BK d)):=by
  intro d
  induction d with
  | zero =>
    refine lK T λds A R RE h=> ?_
    obtain⟨x,_,h,_⟩:=h
    omega
  | succ d g =>
    refine gQ T Uc rfl (by decide) λN RE f Z B outer s H E J hR L ds A R h hl=> ?_
    have v:=J.units
    refine⟨_,(aD (bP (PW.pt (fX (fF (ff (jr kit_tuple j z mz (vr 0)))) (fX (f_ v (dQ gp fL p gD (aa (vr 0) af)) ao) (gO (fF (ff (jr zv j F boot_str (dX v (vr 0) ao)))))))) (aA (aN jo)) bT)
    (aD (bP (f_ v (dX v (vr 0) ao) a_) (aA (aN (ur (mW v (dQ gp fL p gD (aa (vr 0) af)) ao) (qL (dL u J L (aa (dX v (vr 0) ao) af)))))) bT)
    (aD (bP (PW.pt (fX (nE v (dX v (vr 0) ao) a_) (fX (nE v (dQ gp fL p gD (aa (vr 0) af)) ao) (gO (f_ v (vr 1) ao))))) (aA (aN jo)) bT)
    (aD (bP (PW.pt (fX (fF (ff (dL m J L (aa (dX v (vr 0) ao) (aa ao (aa (mR i) af)))))) (gO (fF (ff (dL m J L (aa (dX v (vr 0) ao) (aa ao (aa (mR i) af))))))))) (aA (aN jo)) bT)
    (aA (aN (ur (dL g J L (aa (dX v (vr 0) ao) (aa (qN (vr 1) ao) af))) (qL (dL g J L (aa (dX v (vr 0) ao) (aa (qN (vr 1) ao) af))))))))))),?_⟩
    obtain⟨x,rfl,_,C,q⟩:=h
    have q:∀A',Gr A A'->R (.bl (c8 d x)) A':=q
    have no : c8 d x = false → R (.bl false) A := fun e => by
      have:=q A Gr.refl
      rwa [e] at this
    cases x with
    | tup xs =>
      cases xs with
      |nil=>exact no (by cases d<;>rfl)
      | cons y ys =>
        have C:(cu A y&&iz A ys)=true:=C
        rw[dP] at C
        have ln:(((y::ys).length:Nat):Int)=(ys.length:Int)+1:=by simp
        conv=>whnf
        rw[yg]
        cases y with
        | str k =>
          conv=>whnf
          rw[yg]
          refine cD (λM=> ?_) (λM=> ?_)
          · refine cD (fun o => ?_) (fun o => ?_)
            · have o : (((D.str k :: ys).length : Nat) : Int) = 2 := o
              obtain ⟨n, rfl⟩ : ∃ n, ys = [n] := by
                match ys,ln,o with
                |[],ln,o=>simp at o
                |[n],_,_=>exact⟨n,rfl⟩
                |_::_::_,ln,o=>simp at o;omega
              refine⟨rfl,n,rfl,?_,λA1 O=> ?_⟩
              · have := C.2
                simp only[iz,Bool.and_true] at this
                exact this
              · have e : c8 d (.tup [.str k, n]) = jw n := by
                  have:c8 d (.tup [.str k,n])=(decide (k="weight")&&jw n):=by cases d<;>rfl
                  rw[this,dg M,wV]
                rw[<-e]
                exact q _ O
            · refine no (zm (fun n e => ?_) fun l r a b e => ?_)
              · exact absurd (by rw[e];rfl) o
              · rw[M];decide+kernel
          · conv => whnf
            rw[yg]
            refine cN (λU=> ?_) (λU=> ?_)
            · exact no (O1 M U)
            · refine cN (fun o => ?_) (fun o => ?_)
              · refine no (zm (fun n e => ?_) fun l r a b e => ?_)
                · exact M
                · exact absurd (by rw[e];rfl) o
              · have o : (((D.str k :: ys).length : Nat) : Int) = 5 := o
                obtain ⟨l, r, a, b, rfl⟩ : ∃ l r a b, ys = [l, r, a, b] := by
                  match ys,o with
                  |[l,r,a,b],_=>exact⟨l,r,a,b,rfl⟩
                  |[],o=>simp at o
                  |[_],o=>simp at o
                  |[_,_],o=>simp at o
                  |[_,_,_],o=>simp at o
                  |_::_::_::_::_::_,o=>simp at o;omega
                have Q:(cu A l&&(cu A r&&(cu A a&&(cu A b&&true))))=true:=C.2
                simp only[dP,and_true] at Q
                obtain⟨k1,k2,k3,k4⟩:=Q
                refine cD (λS=> ?_) (λS=> ?_)
                · have : d = 0 := by have S : ((d + 1 : Nat) : Int) - 1 = 0 := S
                                     omega
                  subst this
                  exact no rfl
                · cases d with
                  |zero=>exact absurd rfl S
                  | succ d =>
                    have V:((d+1+1:Nat):Int) - 1 - 1=((d+1:Nat):Int) - 1:=by omega
                    have eM : c8 (d + 1) (.tup [.str k, l, r, a, b]) = (gR l 1 9 && gR r 1 9 && c8 d a && c8 d b) := by
                      show(decide (k="rod")&&gR l 1 9&&gR r 1 9&&c8 d a&&c8 d b)=_
                      rw[dg U,wV]
                    rw[eM] at q
                    refine⟨rfl,l,1,9,rfl,k1,λA1 O=> ?_⟩
                    cases W:gR l 1 9 with
                    | false =>
                      rw[W] at q
                      exact q _ O
                    | true =>
                      refine⟨rfl,r,1,9,rfl,rL O _ k2,λA2 g2=> ?_⟩
                      rw[W] at q
                      have G:=O.trans g2
                      cases X:gR r 1 9 with
                      | false =>
                        rw[X] at q
                        exact q _ G
                      | true =>
                        rw[X] at q
                        refine⟨rfl,a,show [a,D.int (((d+1+1:Nat):Int) - 1 - 1)]=_ by rw[V],by omega,rL G _ k3,λA3 g3=> ?_⟩
                        have I:=G.trans g3
                        show cond (c8 d a) _ _
                        cases Y:c8 d a with
                        | false =>
                          rw[Y] at q
                          exact q _ I
                        | true =>
                          rw[Y] at q
                          refine⟨rfl,b,show [b,D.int (((d+1+1:Nat):Int) - 1 - 1)]=_ by rw[V],by omega,rL I _ k4,λA4 g4=> ?_⟩
                          exact q _ (I.trans g4)
        |exc c=>exact absurd C.1 (by simp[cu])
        | ref r =>
          rcases rM C.1 with e|e
          all_goals
            conv=>whnf
            rw[e]
            exact no (by cases d<;>rfl)
        |_=>exact no (by cases d<;>rfl)
    |exc c=>cases C
    | ref r =>
      rcases rM C with e|e
      all_goals
        conv=>whnf
        rw[e]
        exact no (by cases d<;>rfl)
    |_=>exact no (by cases d<;>rfl)
theorem MF(T:TopD K mg "is_mobile" HF rW){t:Tok}(b:mg "MOST_RODS"=some (.int 5 t))(a:aj P w K mg base 7 "is_mobile_within" vG (ai mg 2 (BK 6))):aj P w K mg base 8 "is_mobile" rW (ai mg 1 xY):=by
 refine bH T Ub λc f d g nd=>⟨_,(aA (aN (dL a c d (aa (vr 0) (aa (mR b) af))))),λds A R h hl=>?_⟩;obtain⟨x,rfl,e,q⟩:=h;exact⟨rfl,x,rfl,by decide,e,q⟩
theorem MD(T:TopD K mg "check_mobile" Hu kR){a:Addr}(c:mg "NoMobile"=some (.ref a))(d:excIn K a j8 "ValueError.__new__"=true)(b:aj P w K mg base 8 "is_mobile" rW (ai mg 1 xY)):aj P w K mg base 9 "check_mobile" kR (ai mg 1 xQ):=by
 refine bH T TZ λf g i m nd=>⟨_,(aA (bP (fF (ff (dL b f i (aa (vr 0) af)))) (aA (kF g rfl c d (aa a_ af))) bT)),λds A R h hl=>?_⟩;obtain⟨x,rfl,j,q⟩:=h;refine⟨rfl,x,rfl,j,λk l=>?_⟩;have q:=q k l;cases e:c8 5 x with
 |true=>rw[e] at q;exact q
 |false=>rw[e] at q;exact⟨by decide,q⟩
end My
namespace DP
open L2 MA
theorem O3{x:D}(h:jw x=true):∃n,x=.str n/\Nm n:=by
 cases x with
 |str n=>
  unfold jw at h;rw[dP,dP,iH,iH] at h;obtain⟨⟨h1,h2⟩,a⟩:=h;refine⟨n,rfl,⟨by omega,by omega,λc hc=>?_⟩⟩;have:=tG.mp a (.str ⟨#[c]⟩) (aX.mpr ⟨c,hc,rfl⟩);have this:(!decide ((⟨#[c]⟩:Str).cps.toList<("a":Str).cps.toList)&& !decide (("z":Str).cps.toList<(⟨#[c]⟩:Str).cps.toList))=true:=this;rw[My.Ag,My.Ah] at this;simp only[dP,sV,Bd] at this;have t1:¬([c]:List Nat)<[97]:=this.1;have b:¬([122]:List Nat)<[c]:=this.2;rw[My.rN] at t1 b;omega
 |_=>cases h
theorem FP{A:Ar}:∀{xs:List D} {x:D},iz A xs=true->x∈xs->cu A x=true
 |y::xs,x,h,hx=>by
  have h:(cu A y&&iz A xs)=true:=h;rw[dP] at h;rcases aY.mp hx with rfl|hx
  .exact h.1
  .exact FP h.2 hx
theorem FI{x:D}{a b:Int}(h:gR x a b=true):∃i,x=.int i/\a<=i/\i<=b:=by
 cases x with
 |int i=>
  have h:(decide (a<=i)&&decide (i<=b))=true:=h;rw[dP,iH,iH] at h;exact⟨i,rfl,h.1,h.2⟩
 |_=>cases h
theorem Qv:∀(d:Nat) (x:D),c8 d x=true->∃m:M,x=enc m/\Wf m/\m.deep<=d:=by
 have leaf:∀(d:Nat) (k:Str) (n:D),(decide (k="weight")&&jw n)=true->∃m:M,D.tup [.str k,n]=enc m/\Wf m/\m.deep<=d:=λd k n h=>by
  rw[dP,iH] at h;obtain⟨rfl,h⟩:=h;obtain⟨n,rfl,i⟩:=O3 h;exact⟨.wt n,rfl,⟨trivial,λz hz=>by rw[show z=n by simpa[bz.names] using hz];exact i⟩,bG _⟩
 intro d;induction d with
 |zero=>
  intro x h;unfold c8 at h;split at h
  .exact leaf _ _ _ h
  .rename_i e
   cases e
  .cases h
 |succ d c=>
  intro x h;unfold c8 at h;split at h
  .exact leaf _ _ _ h
  .rename_i d' k l r a b e
   cases e;rw[dP,dP,dP,dP,iH] at h;obtain⟨⟨⟨⟨rfl,hl⟩,j⟩,o⟩,p⟩:=h;obtain⟨l,rfl,l1,l2⟩:=FI hl;obtain⟨r,rfl,q,s⟩:=FI j;obtain⟨a,rfl,f,t⟩:=c a o;obtain⟨b,rfl,g,db⟩:=c b p;refine⟨.bQ l r a b,rfl,⟨⟨l1,l2,q,s,f.arms,g.arms⟩,λz hz=>?_⟩,?_⟩
   .have hz:z∈a.names++b.names:=hz
    rcases bV.mp hz with hz|hz
    .exact f.nm z hz
    .exact g.nm z hz
   .show max a.deep b.deep+1<=d+1
    omega
  .cases h
def iQ(T:Tb)(n:Str)(x:Rat):Tb:=if (T.any λp=>decide (p.1=n))=true then T.map (λp=>if p.1=n then (p.1,x) else p) else T++[(n,x)]
def aU(m:M):Tb:=(bg m "" 1).foldl (λT p=>iQ T p.2.1 p.2.2) []
theorem PK(T:Tb)(n:Str)(x:Rat):bY (iQ T n x)=cy (bY T) (Sum.inr n) (fq x):=by
 have e:((bY T).any λa=>decide (a.1=(Sum.inr n:Key)))=T.any λp=>decide (p.1=n):=by
  unfold bY;rw[List.any_map];congr 1;funext p;show decide ((Sum.inr p.1:Key)=Sum.inr n)=decide (p.1=n);by_cases h:p.1=n
  .rw[dg h,dg (by rw[h])]
  .rw[d7 h,d7 (λz=>h (Sum.inr.inj z))]
 unfold iQ cy;rw[e];split
 .unfold bY
  rw[bR,bR];refine sR λp _=>?_;show((Sum.inr (if p.1=n then (p.1,x) else p).1:Key),fq (if p.1=n then (p.1,x) else p).2)=if (Sum.inr p.1:Key)=Sum.inr n then (Sum.inr p.1,fq x) else (Sum.inr p.1,fq p.2)
  by_cases h:p.1=n
  .rw[av h,av (by rw[h])]
  .rw[ay h,ay (λz=>h (Sum.inr.inj z))]
 .unfold bY
  simp
theorem EO:∀(a:List (Str×Str×Rat)) (T:Tb),bY (a.foldl (λT p=>iQ T p.2.1 p.2.2) T)=((a.map λp=>(p.2.1,fq p.2.2)).map λp=>((Sum.inr p.1:Key),p.2)).foldl (λacc p=>cy acc p.1 p.2) (bY T)
 |[],T=>rfl
 |p::a,T=>by
  rw[ji,EO a,PK];rfl
theorem Ge(T:Tb)(n:Str)(x:Rat):aE (iQ T n x)=if n∈aE T then aE T else aE T++[n]:=by
 have e:(T.any λp=>decide (p.1=n))=decide (n∈aE T):=by
  rw[nH,mu,iH];constructor
  .rintro ⟨p,a,h⟩
   rw[<-iF h];exact eE a
  .intro h
   obtain⟨p,a,e⟩:=aX.mp h;exact⟨p,a,dg e⟩
 unfold iQ;rw[e];by_cases h:n∈aE T
 .rw[av (dg h),av h]
  unfold aE;rw[bR];refine sR λp _=>?_;show(if p.1=n then (p.1,x) else p).1=p.1;split<;>rfl
 .rw[ay (by simpa using h),ay h]
  simp[aE]
theorem DY:∀(c:List (Str×Str×Rat)) (T:Tb) (g:Str->Rat),(aE T).Nodup->(∀p∈T,p.2=g p.1)->(∀r∈c,r.2.2=g r.2.1)->
  (aE (c.foldl (λT p=>iQ T p.2.1 p.2.2) T)).Nodup/\(∀p∈c.foldl (λT p=>iQ T p.2.1 p.2.2) T,p.2=g p.1)/\∀n,n∈aE (c.foldl (λT p=>iQ T p.2.1 p.2.2) T)↔n∈aE T\/n∈c.map (·.2.1)
 |[],T,g,h1,h2,_=>⟨h1,h2,λn=>by simp⟩
 |r::c,T,g,h1,h2,i=>by
  have k1:(aE (iQ T r.2.1 r.2.2)).Nodup:=by
   rw[Ge];split
   .exact h1
   .rename_i k
    rw[l9];refine⟨h1,by simp,λa l b j=>?_⟩;simp at j;rw[j];exact λz=>k (by rw[<-z];exact l)
  have k2:∀p∈iQ T r.2.1 r.2.2,p.2=g p.1:=λp hp=>by
   have e:=i r (bh ..);unfold iQ at hp;split at hp
   .obtain⟨d,f,rfl⟩:=aX.mp hp
    by_cases hc:d.1=r.2.1
    .rw[av hc]
     show r.2.2=g d.1;rw[e,hc]
    .rw[ay hc]
     exact h2 d f
   .rcases bV.mp hp with hp|hp
    .exact h2 p hp
    .rw[bM.mp hp]
     exact e
  obtain⟨m,o,q⟩:=DY c _ g k1 k2 λx s=>i x (aZ _ s);refine⟨m,o,λn=>?_⟩;rw[ji,q,Ge];by_cases h:r.2.1∈aE T
  .rw[av h]
   simp;constructor
   .rintro (h'|h')
    .exact .inl h'
    .exact .inr (.inr h')
   .rintro (h'|rfl|h')
    .exact .inl h'
    .exact .inl h
    .exact .inr h'
  .rw[ay h]
   simp[or_assoc]
structure Hl(m:M):Prop where
 wf:Wf m
 deep:m.deep<=5
 bar:b9 [] (bg m "" 1)=none
theorem AB{m:M}(h:Hl m):lH (aU m)/\(∀n,n∈aE (aU m)↔n∈m.names)/\∀n∈aE (aU m),dU (aU m) n=shr m n:=by
 obtain⟨k1,k2⟩:=wz h.bar;obtain⟨c,d,f⟩:=DY (bg m "" 1) [] (shr m) l_ (λp a=>by cases a) k1;have g:(bg m "" 1).map (·.2.1)=m.names:=pL m "" 1;have mem:∀n,n∈aE (aU m)↔n∈m.names:=λn=>by
  show n∈aE ((bg m "" 1).foldl (λT p=>iQ T p.2.1 p.2.2) [])↔_;rw[f,g];simp[aE]
 have i:(aE (aU m)).length=(aU m).length:=by simp[aE]
 have nl:=kO h.deep;refine⟨⟨c,λz=>?_,?_,λp a=>?_⟩,mem,λn b=>?_⟩
 .have hpos:=bz.zL m
  cases e:m.names with
  |nil=>rw[e] at hpos;simp at hpos
  |cons n t=>
   have:=(mem n).mpr (by rw[e];simp);rw[z] at this;cases this
 .have:=kP (aE (aU m)) m.names c λx j=>(mem x).mp j
  omega
 .have e:p.2=shr m p.1:=d p a
  rw[e];exact ID h.wf.arms h.deep h.bar ((mem p.1).mp (eE a))
 .have:=find_some (T:=aU m) (n:=n)
  rw[dg (show n∈(aU m).map (·.1) from b)] at this;obtain⟨p,a⟩:=pS.mp this;unfold dU;rw[a];have h2:=find?_some a;have k:p.1=n:=iF h2;rw[<-k];exact d p (kX a)
def B4:Ct:=λds A R _=>∃m,ds=[enc m]/\Hl m/\∀A' q,Gr A A'->A'[q]?=some (.dct (bY (aU m)))->A.length<=q->R (.ref q) A'
def gI(x:D)(ms:List M):Prop:=x=.tup (ms.map enc)/\1<=ms.length/\ms.length<=6/\∀m∈ms,Hl m
def BG:Ct:=λds A R E=>∃x,ds=[x]/\cu A x=true/\((∃ms,gI x ms)->∀A',Gr A A'->R .aC A')/\((¬∃ms,gI x ms)->∀A',Gr A A'->E "NoHall" A')
def tZ:Ct:=λds A R E=>∃x,ds=[x]/\cu A x=true/\(∀ms,gI x ms->∀A' q,Gr A A'->g9 A' q (ms.map aU)->A.length<=q->R (.ref q) A')/\((¬∃ms,gI x ms)->∀A',Gr A A'->E "NoHall" A')
theorem uD:∀{a b:M},enc a=enc b->a=b
 |.wt n,.wt k,h=>by
  have h:D.tup [.str "weight",.str n]=.tup [.str "weight",.str k]:=h;simp at h;rw[h]
 |.wt n,.bQ l r a b,h=>by
  have h:D.tup [.str "weight",.str n]=.tup [.str "rod",.int l,.int r,enc a,enc b]:=h;simp at h
 |.bQ l r a b,.wt n,h=>by
  have h:D.tup [.str "rod",.int l,.int r,enc a,enc b]=.tup [.str "weight",.str n]:=h;simp at h
 |.bQ l r a b,.bQ c r' d e,h=>by
  have h:D.tup [.str "rod",.int l,.int r,enc a,enc b]=.tup [.str "rod",.int c,.int r',enc d,enc e]:=h;simp at h;obtain⟨h1,h2,f,g⟩:=h;rw[h1,h2,uD f,uD g]
theorem DF:∀{b a:List M},b.map enc=a.map enc->b=a
 |[],[],_=>rfl
 |[],_::_,h=>by cases h
 |_::_,[],h=>by cases h
 |m::b,c::a,h=>by
  rw[cg,cg,List.cons.injEq] at h;rw[uD h.1,DF h.2]
theorem TabsAt.snoc{A:Ar}{q:Nat}{T:Tb}(a:TabAt A q T):∀{qs:List Nat} {Ts:List Tb},TabsAt A qs Ts->TabsAt A (qs++[q]) (Ts++[T])
 |[],[],_=>⟨a,trivial⟩
 |_::qs,_::Ts,h=>⟨h.1,TabsAt.snoc a h.2⟩
 |[],_::_,h=>h.elim
 |_::_,[],h=>h.elim
end DP
namespace My
open L2 DP MA
theorem Nk(T:TopD K mg "name_shares" Af ny)(b:mg "dict"=none)(a:aj P w K mg base 10 "shares" nA (ai mg 1 qt)):aj P w K mg base 11 "name_shares" ny (ai mg 1 B4):=by
 refine bH T Ir λj r k s nd=>⟨_,(aA (aN (jq (oJ rfl) oM b qb (aa (fW (some 3) (own:=["way","name","share"]) (frees:=[]) (ix:=[]) rfl (cY (dL a j k (aa (vr 0) af))) (λc=>(pA rfl (iA (pG 0 (show(["way","name","share"]:List Str).Nodup by decide+kernel)) (iA (pG 1 (show(["way","name","share"]:List Str).Nodup by decide+kernel)) (iA (pG 2 (show(["way","name","share"]:List Str).Nodup by decide+kernel)) pB))))) (λc=>(cU (aa (vr 1) (aa (vr 2) af))))) af)))),λds A R h hl=>?_⟩;obtain⟨m,rfl,g,q⟩:=h;have hd:=g.deep;have hz:(1000:Nat)<=sizeLine:=by decide
 refine⟨rfl,m,rfl,g.wf,hd,λt u i h1 l1=>?_⟩;refine ef h1 ?_;have ln:=nD m "" 1;have nl:=kO hd;refine iN (f:=λd=>match d with|.tup [_,n,x]=>.tup [n,x]|d=>d) h1 _ _ (λd hd=>?_) (by simp;omega) ?_
 .obtain⟨p,v,rfl⟩:=aX.mp hd
  exact⟨[.str p.1,.str p.2.1,fq p.2.2],rfl,λQ l=>⟨show 2<=sizeLine by decide,l⟩⟩
 have e:((bg m "" 1).map nB).map (λd=>match d with|.tup [_,n,x]=>D.tup [n,x]|d=>d)=(bg m "" 1).map vf:=by
  rw[bR];rfl
 rw[gc,e];refine yz aH (zX _) (by simp;omega) ?_;refine q _ _ ((i.trans Gr.push).trans Gr.push) ?_ (by have:=i.len;simp;omega);have o:bY (aU m)=pI (((bg m "" 1).map λp=>(p.2.1,fq p.2.2)).map λp=>((Sum.inr p.1:Key),p.2)):=EO _ [];rw[o];exact aH
theorem MN(T:TopD K mg "check_hall" Ht vD)(b:mg "isinstance"=none)(o:mg "tuple"=none)(z:mg "len"=none){t:Tok}(a:mg "MOST_MOBILES"=some (.int 6 t)){d:Addr}(i:mg "NoHall"=some (.ref d))(j:excIn K d j8 "ValueError.__new__"=true)
  (k:aj P w K mg base 8 "is_mobile" rW (ai mg 1 xY))(C:aj P w K mg base 11 "bar" nk (ai mg 1 qp)):aj P w K mg base 12 "check_hall" vD (ai mg 1 BG):=by
 refine gQ T Ij rfl (by decide) λN RE f cdv B outer s H E S Y Z ds A R h hl=>?_;have hu:=S.units;have nd:=Ij.nd;refine⟨_,(aD (bP (PW.pt (fX (fF (ff (jr kit_tuple b o mz (vr 0)))) (gO (fF (AA ao (dQ gp fL z gD (aa (vr 0) af)) (mR a)))))) (aA (kF Y rfl i j (aa a_ af))) bT)
  (aA (eN d_ rfl (cY (vr 0)) (dG 1 nd) (aA (bP (PW.pt (fX (fF (ff (dL k S Z (aa (vr 1) af)))) (gO (Az (dL C S Z (aa (vr 1) af)) jQ)))) (aA (kF Y rfl i j (aa a_ af))) bT))))),?_⟩
 obtain⟨x,rfl,J,q1,q2⟩:=h;have hz:(1000:Nat)<=sizeLine:=by decide
 have no:(¬∃u,gI x u)->∀A',Gr A A'->1<=sizeLine/\RE "NoHall" A':=λh A' g=>⟨by omega,q2 h A' g⟩;have q:(∀xs,x≠ .tup xs)->¬∃u,gI x u:=λh ⟨u,e,_⟩=>h _ e;cases x with
 |tup xs=>
  have J:iz A xs=true:=J;refine cD (λF=>?_) (λF=>?_);rotate_left
  .have F:¬(1:Int)<=((xs.length:Nat):Int):=F
   exact no (λ⟨u,e,h1,_,_⟩=>by
    have e:=D.tup.inj e;rw[e,aP] at F;omega) _ Gr.refl
  refine cN (λG=>?_) (λG=>?_)
  .have G:¬((xs.length:Nat):Int)<=6:=G
   exact no (λ⟨u,e,_,h2,_⟩=>by
    have e:=D.tup.inj e;rw[e,aP] at G;omega) _ Gr.refl
  have F:(1:Int)<=((xs.length:Nat):Int):=F;have G:((xs.length:Nat):Int)<=6:=G;refine eL (λrest τ A'=>∃(I:List M) (n:List D) (y:Option D),rest=n/\I.map enc++n=xs/\(∀m∈I,Hl m)/\τ=[some (.tup xs),y]/\Gr A A') ?_ ?_ ?_ _ _ _ ⟨[],xs,none,rfl,rfl,(λ_ h=>by cases h),rfl,Gr.refl⟩
  .intro _ _ _ _
   trivial
  .rintro v rest τ A1 ⟨I,n,y,rfl,l,U,rfl,g⟩ Nx hN
   have V:v∈xs:=by rw[<-l];simp
   have bad:(¬∃m,v=enc m/\Hl m)->¬∃u,gI (.tup xs) u:=λQ ⟨u,e,_,_,h4⟩=>by
    have e:=D.tup.inj e;rw[e] at V;obtain⟨m,L,rfl⟩:=aX.mp V;exact Q ⟨m,rfl,h4 m L⟩
   refine⟨rfl,v,rfl,rL g _ (FP J V),λA2 W=>?_⟩;cases L:c8 5 v with
   |false=>
    refine no (bad λ⟨m,e,h⟩=>?_) _ (g.trans W);rw[e,uS h.wf h.deep] at L;cases L
   |true=>
    obtain⟨m,rfl,wm,dm⟩:=Qv 5 v L;refine⟨rfl,m,rfl,wm,dm,λA3 g3=>?_⟩;cases Q:b9 [] (bg m "" 1) with
    |some p=>
     refine no (bad λ⟨m',e,h⟩=>?_) _ ((g.trans W).trans g3);rw[<-uD e] at h;have O:=h.bar;rw[Q] at O;cases O
    |none=>
     exact hN _ _ ⟨I++[m],rest,_,rfl,by simpa using l,λm' X=>by
      rcases bV.mp X with h|h
      .exact U m' h
      .rw[bM.mp h]
       exact⟨wm,dm,Q⟩,rfl,(g.trans W).trans g3⟩
  .rintro τ A1 ⟨I,n,y,e,l,U,rfl,g⟩
   subst e;rw[lg] at l;refine q1 ⟨I,by rw[l],?_,?_,U⟩ _ g
   .rw[<-l,aP] at F
    omega
   .rw[<-l,aP] at G
    omega
 |exc c=>cases J
 |ref r=>
  rcases rM J with e|e;all_goals
   conv=>whnf
   rw[e];exact no (q λxs h=>by cases h) _ Gr.refl
 |_=>exact no (q λxs h=>by cases h) _ Gr.refl
theorem MY(T:TopD K mg "hall_shares" HE o_)(d:aj P w K mg base 12 "check_hall" vD (ai mg 1 BG))(b:aj P w K mg base 11 "name_shares" ny (ai mg 1 B4)):aj P w K mg base 13 "hall_shares" o_ (ai mg 1 tZ):=by
 refine bH T Ua λq G u H nd=>⟨_,(aD (cV (dL d q u (aa (vr 0) af)))
  (aA (aN (fW none (own:=["mobile"]) (frees:=[]) (ix:=[]) rfl (cY (vr 0)) (λc=>(pG 0 (show(["mobile"]:List Str).Nodup by decide+kernel))) (λc=>(dL b q j4 (aa (vr 0) af))))))),λds A R h hl=>?_⟩
 obtain⟨x,rfl,v,r,p⟩:=h;have hz:(1000:Nat)<=sizeLine:=by decide
 refine⟨rfl,x,rfl,v,λ⟨l,s⟩ t n=>?_,λz t n=>p z _ n⟩;have B:=r l s;clear r;obtain⟨rfl,h1,I,E⟩:=s;refine qF (λrest ys A'=>∃(j a:List M) (i:List Nat),rest=a.map enc/\j++a=l/\ys=i.map D.ref/\TabsAt A' i (j.map aU)/\Gr t A') ?_ ?_ ?_ ?_ _ _ _ ⟨[],l,[],rfl,rfl,rfl,trivial,Gr.refl⟩
 .intro _ _ _ _
  trivial
 .rintro rest ys A' ⟨j,a,i,_,e,rfl,k,_⟩
  have l1:=k.len;have l2:=cS List.length e;rw[dH] at l2;rw[aP] at l1 ⊢;omega
 .rintro y rest ys A' ⟨j,a,i,e,f,rfl,k,g⟩
  cases a with
  |nil=>cases e
  |cons m a=>
   cases e;refine⟨[enc m],rfl,λQ F=>⟨rfl,m,rfl,E m (by rw[<-f];simp),λJ p o h2 l2=>F _ _ ⟨j++[m],a,i++[p],rfl,by simpa using f,by simp,?_,g.trans o⟩⟩⟩;rw[eB];exact TabsAt.snoc (.inl h2) (k.gr o)
 .rintro ys A' ⟨j,a,i,e,f,rfl,k,g⟩
  cases a with
  |cons _ _=>cases e
  |nil=>
   have f:j=l:=by simpa using f
   subst f;have o:=(n.trans g).trans (Gr.push (T:=[C.lst (i.map D.ref)]));exact B _ _ o ⟨i,aH,k.gr Gr.push⟩ (n.trans g).len
end My
namespace DP
open L2 MA
def mH(t c:Nat)(A A':Ar):Prop:=∀q x,q≠t->q≠c->A[q]?=some x->A'[q]?=some x
theorem mH.trans{t c:Nat}{A B C:Ar}(a:mH t c A B)(b:mH t c B C):mH t c A C:=λq x h1 h2 h=>b q x h1 h2 (a q x h1 h2 h)
theorem cz.two{t c:Nat}{A A':Ar}(b:cz t A A'):mH t c A A':=λq x h1 _ h=>b q x h1 h
def ic:Nat->Nat
 |0=>0
 |d+1=>5+2*ic d
def N5:List Str:=["a","b","c","d","e"]
structure Fw(m:M):Prop where
 arms:m.arms
 deep:m.deep<=2
 nd:m.names.Nodup
 sub:∀x∈m.names,x∈N5
theorem nh:∀n∈N5,Nm n:=λn a=>by
 simp only[N5,aY,gf,gh] at a;rcases a with rfl|rfl|rfl|rfl|rfl<;>exact⟨by decide+kernel,by decide+kernel,by decide+kernel⟩
theorem Fw.wf{m:M}(h:Fw m):Wf m:=⟨h.arms,λx a=>nh x (h.sub x a)⟩
def J9(d:Nat):Ct:=λds A R _=>∃ns t c n ls,ds=[.fl ns,.ref t,.ref c,.int ((d:Int) - 1)]/\0<d/\t≠c/\Tw t n A/\n+ic d<=1000000/\A[c]?=some (.lst (ls.map D.str))/\ls≠[]/\ls.length<=10/\(∀x∈ls,Nm x)/\
 ∀m A' ls',m.arms->m.deep<d->(m.names++ls').Perm ls->mH t c A A'->Tw t (n+ic d) A'->A'[c]?=some (.lst (ls'.map D.str))->R (enc m) A'
def B7(e:Nat):Ct:=λds A R E=>∃d,d<=e/\J9 d ds A R E
def BJ:Ct:=λds A R _=>∃ns t n,ds=[.fl ns,.ref t]/\Tw t n A/\n+300<=1000000/\∀(ms:List M) A',1<=ms.length->ms.length<=6->(∀m∈ms,Fw m)->Dr t A A' n 300->R (.tup (ms.map enc)) A'
end DP
namespace My
open L2 DP MA
theorem Nl(T:TopD K mg "_law_of" Hh vz)(l:mg "len"=none)(m:mg "range"=none)(a:aj P w K mg base 3 "_law_draw" kQ (ai mg 3 kr))(g:aj P w K mg base 4 "_law_pick" nj (ai mg 3 lF)):∀e,aj P w K mg base (e+4) "_law_of" vz (ai mg 4 (B7 e)):=by
 intro e;induction e with
 |zero=>
  refine lK T λds A R RE h=>?_;obtain⟨d,hd,ns,t,c,n,k,_,h,_⟩:=h;omega
 |succ e b=>
  refine gQ T Ih rfl (by decide) λN RE f cdv B outer s H E I hR u ds A R h hl=>?_;have hu:=I.units;have nd:=Ih.nd;refine⟨_,(aD (bP (PW.pt (fX (f_ hu (vr 3) ao) (gO (wD (dQ gp fL l gD (aa (vr 2) af)) ao)))) (aA (aN (cU (aa a_ (aa (gq fy PySem.F.slot_list_pop PySem.F.type_list_pop Qy LG (vr 2) (aa (dL a I u (aa (vr 0) (aa (vr 1) (aa (dQ gp fL l gD (aa (vr 2) af)) af)))) af)) af))))) bT)
  (aD (oO none (own:=["_law_k"]) (frees:=["_law_script","_law_town"]) (ix:=[0,1]) (i:=4) nd rfl (by first|exact Or.inl rfl|exact Or.inr rfl) rfl (mU m (aa ao af)) (λc=>(pG 0 (show(["_law_k","_law_script","_law_town"]:List Str).Nodup by decide+kernel))) (λc=>(cM ao (dL a I j4 (aa (vr 1) (aa (vr 2) (aa (dL g I j4 (aa (vr 1) (aa (vr 2) (aa (cG (aa ao (aa ao (aa ao (aa ao af))))) af)))) af)))))))
  (aD (dS 5 nd (dL b I u (aa (vr 0) (aa (vr 1) (aa (vr 2) (aa (qN (vr 3) ao) af))))))
  (aD (bP (f_ hu (vr 2) (cG af)) (aA (aN (vr 5))) bT)
  (aA (aN (cU (aa a_ (aa (dX hu (vr 4) ao) (aa (dX hu (vr 4) ao) (aa (vr 5) (aa (dL b I u (aa (vr 0) (aa (vr 1) (aa (vr 2) (aa (qN (vr 3) ao) af))))) af)))))))))))),?_⟩
  obtain⟨d0,hd0,ns,t,c,n,ls,rfl,hd1,o,ht,hn,L,M,O,S,q⟩:=h;obtain⟨d,rfl⟩:∃d,d0=d+1:=⟨d0 - 1,by omega⟩;have hz:(1000000:Nat)<sizeLine:=by decide
  have hcs:ic (d+1)=5+2*ic d:=rfl;have U:((d+1:Nat):Int) - 1=(d:Int):=by omega
  have l0:0<ls.length:=wR.mpr M;have V:(ls.map D.str).length=ls.length:=aP ..;refine cD (λc0=>?lA) (λc0=>rD L (cD (λc2=>?lB) (λc2=>?rd)));case rd=>
   have W:0<d:=by
    have c0:¬(((d+1:Nat):Int) - 1=0):=c0;omega
   have p:∀(x0:D) (J:Ar) (n2:Nat) (Q:DK),Tw t n2 J->n2+2<=1000000->(∀(most:Int) (G:Ar),1<=most->most<=9->cz t J G->Tw t (n2+2) G->Q (.int most) G)->cE qx (dC (D.int 1)) (jP 3 kr rK (cT (cF 1) (cT (cF 2) (cT (jP 3 lF rK (cT (cF 1) (cT (cF 2) (cT (uh (cT (dC (D.int 1)) (cT (dC (D.int 2)) (cT (dC (D.int 2)) (cT (dC (D.int 9)) fV))))) fV)))) fV)))) [some x0,some (.fl ns),some (.ref t)] J Q:=by
    intro x0 J n2 Q t2 hn2 hQ;obtain⟨V2,q_,_⟩:=id t2;have l2:=b_ q_;refine⟨show 4<=sizeLine by decide,rfl,ns,t,_,[.int 1,.int 2,.int 2,.int 9],n2,rfl,by omega,aH,by simp,t2.gr Gr.push,by omega,λx G u b3 t3=>?_⟩;obtain⟨most,rfl,m0,m9⟩:∃k:Int,x=.int k/\1<=k/\k<=9:=by
     simp at u;rcases u with h|h|h<;>exact⟨_,h,by omega,by omega⟩
    refine⟨rfl,ns,t,most,n2+1,rfl,t3,by omega,by omega,λi A4 i0 i1 b4 t4=>?_⟩;exact hQ (1+i) A4 (by omega) (by omega) ((Gr.push.but.trans b3).trans b4) t4
   refine⟨by decide,by decide,trivial,p _ A n _ ht (by omega) λa1 J u1 u2 b2 t2=>⟨show 0<sizeLine by decide,trivial,p _ J (n+2) _ t2 (by omega) λa2 G u3 u4 b3 t3=>⟨show 1<sizeLine by decide,trivial,?_⟩⟩⟩;have X:cz t A G:=b2.trans b3;have t4:=t3.gr (Gr.push (T:=[C.lst [D.int a1,D.int a2]]));have h4:=aH (A:=G) (c:=C.lst [D.int a1,D.int a2]);obtain⟨xt,zj,_⟩:=id t3;have Ff:=b_ zj;have c3:=X c _ (Ne.symm o) L;have WB:=b_ c3;have c4:=getElem?_push (T:=[C.lst [D.int a1,D.int a2]]) c3;have e4:[]++[D.int a1]++[D.int a2]=[D.int a1,D.int a2]:=rfl;rw[e4];have Kn:mH t c A (G++[C.lst [D.int a1,D.int a2]]):=(X.trans Gr.push.but).two;refine⟨rfl,d,by omega,ns,t,c,n+2+2,ls,show [D.fl ns,D.ref t,D.ref c,D.int (((d+1:Nat):Int) - 1 - 1)]=_ by rw[U],W,o,t4,by omega,c4,M,O,S,λm1 A5 iy w1 d1 p1 b5 t5 c5=>?_⟩;have Y:∀x∈iy,Nm x:=λx u=>S x (p1.mem_iff.mp (iE _ u));refine⟨bG _,yP c5 (vY _) (by rw[v8];exact uY _ Y) ?_⟩;have r:Gr A5 (A5++[C.lst []]):=Gr.push;generalize (A5++[C.lst []]:Ar)=A6 at r ⊢;have Z:=(Kn.trans b5).trans r.but.two;have qZ:=r.get (b5 G.length _ (by omega) (by omega) h4);have t6:=t5.gr r;have c6:=r.get c5;refine cD (λcn=>?_) (λcn=>?_)
   .have:iy=[]:=List.map_eq_nil_iff.mp cn
    subst this;exact q m1 _ [] w1 (by omega) p1 Z (t6.mono (by omega)) c6
   .have ne1:iy≠[]:=λz=>cn (by rw[z];rfl)
    have l1:iy.length<=10:=by
     have:=p1.length_eq;rw[dH] at this;omega
    refine fY qZ (v:=.int a1) rfl ?_;refine fY qZ (v:=.int a2) rfl ?_;refine⟨rfl,d,by omega,ns,t,c,_,iy,show [D.fl ns,D.ref t,D.ref c,D.int (((d+1:Nat):Int) - 1 - 1)]=_ by rw[U],W,o,t6,by omega,c6,ne1,l1,Y,λm2 A7 jx w2 d2 p2 b7 t7 c7=>?_⟩;refine⟨show 5<=sizeLine by decide,q (.bQ a1 a2 m1 m2) _ jx ⟨u1,u2,u3,u4,w1,w2⟩ (show max m1.deep m2.deep+1<d+1 by omega) ?_ (Z.trans b7) (t7.mono (by omega)) c7⟩;show((m1.names++m2.names)++jx).Perm ls;rw[append_assoc];exact(Perm.append_left _ p2).trans p1
  all_goals
   refine⟨fh L,rD L ⟨rfl,ns,t,_,n,rfl,ht,by omega,by rw[V];omega,λi A1 i0 i1 b1 t1=>?_⟩⟩;rw[V] at i1;obtain⟨j,rfl⟩:∃j:Nat,i=(j:Int):=⟨i.toNat,by omega⟩;have hj:j<ls.length:=by omega
   have ze:=b1 c _ (Ne.symm o) L;refine Sk ze (k:=j) (y:=.str ls[j]) rfl (by omega) (by rw[bW,br hj];rfl) ?_;have u:ls[j]∈ls:=lz hj;refine⟨show 2<=sizeLine by decide,q (.wt ls[j]) _ (ls.eraseIdx j) trivial (succ_pos _) ?_ (λq x h1 h2 h=>by rw[dI (Ne.symm h2)];exact b1 q x h1 h) ?_ ?_⟩
   .show([ls[j]]++ls.eraseIdx j).Perm ls
    exact(SS.vW ls j _ (br hj)).symm
   .obtain⟨xs,hx',hl'⟩:=t1
    exact⟨xs,by rw[dI (Ne.symm o)];exact hx',by omega⟩
   .rw[dJ (b_ ze)]
    rw[xr,xr,eB,List.map_take,List.map_drop]
theorem MX(T:TopD K mg "_law_hall" G7 vn)(p:mg "list"=none)(l:mg "range"=none)(o:mg "tuple"=none)(f:aj P w K mg base 3 "_law_draw" kQ (ai mg 3 kr))(g:aj P w K mg base 4 "_law_pick" nj (ai mg 3 lF))(j:aj P w K mg base 7 "_law_of" vz (ai mg 4 (B7 3))):aj P w K mg base 8 "_law_hall" vn (ai mg 2 BJ):=by
 refine bH T TL λN hR u hu nd=>⟨_,(aD (dS 2 nd (cG (aa a_ (aa a_ (aa a_ (aa a_ (aa a_ af)))))))
  (aD (dS 3 nd (cG af))
  (aD (eN d_ rfl (mU l (aa (cM ao (dL f N u (aa (vr 0) (aa (vr 1) (aa ao af))))) af)) (dG 4 nd) (aD (dS 5 nd (jq CG C3 p boot_list (aa (vr 2) af)))
  (aD (dS 6 nd (dL g N u (aa (vr 0) (aa (vr 1) (aa (cG (aa ao (aa ao (aa ao (aa ao af))))) af)))))
  (aA (cV (gq fy iC iG gS ie (vr 3) (aa (dL j N u (aa (vr 0) (aa (vr 1) (aa (vr 5) (aa (vr 6) af))))) af)))))))
  (aA (aN (jq yq yy o mz (aa (vr 3) af))))))),λds A R h hl=>?_⟩
 obtain⟨ns,t,n,rfl,ht,hn,q⟩:=h;have hz:(1000:Nat)<=sizeLine:=by decide
 obtain⟨xt,O,_⟩:=id ht;have Qe:=b_ O;have e5:[D.str "a",D.str "b",D.str "c",D.str "d",D.str "e"]=N5.map D.str:=rfl;refine⟨show 5<=sizeLine by decide,bG _,rfl,ns,t,6,n,rfl,(ht.gr Gr.push).gr Gr.push,by omega,by decide,λi A1 i0 i6 Q t1=>?_⟩;have S:(A++[C.lst (N5.map D.str)]++[C.lst []])[A.length]?=some (.lst (N5.map D.str)):=getElem?_push aH;have U:(A++[C.lst (N5.map D.str)]++[C.lst []])[(A++[C.lst (N5.map D.str)]).length]?=some (.lst []):=aH;have la:(A++[C.lst (N5.map D.str)]).length=A.length+1:=by simp
 have V:=Q _ _ (by omega) S;have F:=Q _ _ (by omega) U;have W:cz t A A1:=(Gr.push.but.trans Gr.push.but).trans Q;rw[la] at F;obtain⟨k,rfl⟩:∃k:Nat,i=(k:Int):=⟨i.toNat,by omega⟩;refine⟨by omega,by omega,?_⟩;rw[show(A++[C.lst [D.str "a",D.str "b",D.str "c",D.str "d",D.str "e"]]).length=A.length+1 by simp];refine eL (λrest τ A'=>∃(r:List M) (a b c:Option D),τ=[some (.fl ns),some (.ref t),some (.ref A.length),some (.ref (A.length+1)),a,b,c]/\rest.length+r.length=k+1/\cz t A A'/\Tw t (n+1+40*r.length) A'/\A'[A.length]?=some (.lst (N5.map D.str))/\A'[A.length+1]?=some (.lst (r.map enc))/\∀m∈r,Fw m) ?_ ?_ ?_ _ _ _ ⟨[],none,none,none,rfl,by simp[fP];omega,W,t1,V,F,λm h=>by cases h⟩
 .intro _ _ _ _
  trivial
 .rintro v rest τ y ⟨r,a,b,c,rfl,e,X,L,z,s,B⟩ Nx hN
  simp at e;refine Fe z ?_;have Y:(y++[C.lst (N5.map D.str)])[y.length]?=some (.lst (N5.map D.str)):=aH;have l2:=b_ s;obtain⟨WR,G,_⟩:=id L;have WE:=b_ G;have g3:Gr y (y++[C.lst (N5.map D.str)]):=Gr.push;refine⟨show 4<=sizeLine by decide,rfl,ns,t,_,[.int 0,.int 1,.int 1,.int 2],_,rfl,by simp;omega,aH,by simp,(L.gr g3).gr Gr.push,by omega,λx A4 u b4 t4=>?_⟩;obtain⟨d,rfl,d2⟩:∃d:Nat,x=.int (((d+1:Nat):Int) - 1)/\d<=2:=by
   simp at u;rcases u with rfl|rfl|rfl
   .exact⟨0,by simp,by omega⟩
   .exact⟨1,by simp,by omega⟩
   .exact⟨2,by simp,by omega⟩
  have E:cz t y A4:=(g3.but.trans Gr.push.but).trans b4;have Z:=b4 y.length _ (by omega) ((Gr.push (T:=[C.lst [D.int 0,D.int 1,D.int 1,D.int 2]])).get Y);have H:=E _ _ (by omega) s;have Oz:=E _ _ (by omega) z;have cs:ic (d+1)<=35:=by
   have:d=0\/d=1\/d=2:=by omega
   rcases this with rfl|rfl|rfl<;>decide
  have n5:N5.length=5:=rfl;refine⟨fh H,rfl,d+1,by omega,ns,t,y.length,_,N5,rfl,by omega,by omega,t4,by omega,Z,by simp[N5],by omega,nh,λm A5 ls' ma md mp b5 t5 c5=>?_⟩;have I:=b5 _ _ (by omega) (by omega) H;have OA:=b5 _ _ (by omega) (by omega) Oz;have fw:Fw m:=⟨ma,by omega,?_,λx u=>mp.mem_iff.mp (kW _ u)⟩
  .refine iZ I (by rw[aP];omega) ?_
   have J:∀(A':Ar) (k:Nat),Tw t k A'->Tw t k (A'.set (A.length+1) (.lst (r.map enc++[enc m]))):=λA' k ⟨xs,h1,h2⟩=>⟨xs,by rw[dI (by omega)];exact h1,h2⟩;refine hN _ _ ⟨r++[m],_,_,_,rfl,by simp;omega,λq c hq h=>?_,?_,?_,?_,λm' hm'=>?_⟩
   .have:=b_ h
    rw[dI (by omega)];exact b5 q c hq (by omega) (E q c hq (X q c hq h))
   .exact(J _ _ t5).mono (by simp;omega)
   .rw[dI (by omega)]
    exact OA
   .rw[dJ (b_ I),eB]
    rfl
   .rcases bV.mp hm' with h|h
    .exact B m' h
    .rw[bM.mp h];exact fw
  .have:(m.names++ls').Nodup:=mp.nodup_iff.mpr (by decide+kernel)
   exact(l9.mp this).1
 .rintro τ y ⟨r,a,b,c,rfl,e,X,L,z,s,B⟩
  simp at e;refine AE s ?_;exact q r _ (by omega) (by omega) B ⟨X,L.mono (by omega)⟩
end My
namespace DP
open L2 MA
def Dk(k:Nat)(d:D):Prop:=f6 d=true/\(toQ d).canLay0=true/\(toQ d).depth<=k
theorem uy{k:Nat}:∀{xs:List D},(∀d∈xs,Dk k d)->fk xs=true/\canLayAll0 (bF xs)=true/\depthAll (bF xs)<=k
 |[],_=>⟨rfl,rfl,by simp[bF,depthAll]⟩
 |d::xs,h=>by
  obtain⟨a1,a2,e⟩:=h d (bh ..);obtain⟨a,b,f⟩:=uy λx c=>h x (aZ _ c);refine⟨by show(f6 d&&fk xs)=true;rw[a1,a];rfl,?_,?_⟩
  .simp[bF,canLayAll0,a2,b]
  .simp only[bF,depthAll]
   omega
theorem ux{k:Nat}{xs:List D}(h:∀d∈xs,Dk k d):Dk (k+1) (.tup xs):=by
 obtain⟨a,b,c⟩:=uy h;refine⟨a,?_,?_⟩
 .show canLay0 (.tuple (bF xs))=true
  simpa[canLay0] using b
 .show PyData.depth (.tuple (bF xs))<=k+1
  simp only[PyData.depth];omega
theorem ir{s:Str}(h:canLay0 (.str s)=true){k:Nat}:Dk k (.str s):=⟨rfl,h,by simp[toQ,PyData.depth]⟩
theorem qQ{i:Int}{k:Nat}:Dk k (.int i):=⟨rfl,by simp[toQ,canLay0],by simp[toQ,PyData.depth]⟩
theorem qP{k:Nat}{a b:D}(c:Dk k a)(e:Dk k b):Dk (k+1) (.tup [a,b]):=ux λd hd=>by
 rcases aY.mp hd with rfl|hd
 .exact c
 .rw[bM.mp hd];exact e
theorem Dk.up{k j:Nat}{d:D}(h:Dk k d)(l:k<=j):Dk j d:=⟨h.1,h.2.1,cR h.2.2 l⟩
theorem zG:∀(m:M) (w:Str),Wy w->(∀n∈m.names,Nm n)->∀p∈gx m w,Wy p.1/\Nm p.2
 |.wt n,w,h,c,p,hp=>by
  have hp:p∈[(w,n)]:=hp;rw[bM.mp hp];exact⟨h,c n (by simp[bz.names])⟩
 |.bQ l r a b,w,h,c,p,hp=>by
  have hp:p∈gx a (w++"l")++gx b (w++"r"):=hp;have c:∀n∈a.names++b.names,Nm n:=c;rcases bV.mp hp with hp|hp
  .exact zG a _ h.l (λn d=>c n (kW _ d)) p hp
  .exact zG b _ h.r (λn d=>c n (iE _ d)) p hp
theorem sF:∀(m:M) (w:Str) (x:Rat),Wy w->(∀n∈m.names,Nm n)->∀p∈bg m w x,Wy p.1/\Nm p.2.1
 |.wt n,w,x,h,c,p,hp=>by
  have hp:p∈[(w,n,x)]:=hp;rw[bM.mp hp];exact⟨h,c n (by simp[bz.names])⟩
 |.bQ l r a b,w,x,h,c,p,hp=>by
  have hp:p∈bg a (w++"l") _++bg b (w++"r") _:=hp;have c:∀n∈a.names++b.names,Nm n:=c;rcases bV.mp hp with hp|hp
  .exact sF a _ _ h.l (λn d=>c n (kW _ d)) p hp
  .exact sF b _ _ h.r (λn d=>c n (iE _ d)) p hp
theorem Tf{r:Str×Int}(h:Nm r.1):Dk 1 (bx r):=qP (ir h.ok) qQ
theorem Mp{k:Nat}{d:D}{A:Ar}{R:DK}(h:Dk k d)(a:k<=64)(hd:∀r,d≠ .ref r)(q:R (.bl true) A):fE false d d A R:=by
 have e:bO A d=toQ d:=by cases d<;>first|rfl|exact absurd rfl (hd _)
 have o:fj A d=f6 d:=by cases d<;>first|rfl|exact absurd rfl (hd _)
 unfold fE;rw[e,o];refine⟨h.1,h.1,h.2.1,h.2.1,?_,?_⟩
 .have:=h.2.2
  omega
 .rw[Bc _ h.2.1]
  exact q
theorem yO{l:List (Str×Int)}(a:∀r∈l,Nm r.1):Dk 2 (di l):=ux λd hd=>by
 obtain⟨r,b,rfl⟩:=aX.mp hd;exact Tf (a r b)
def J8(d:Nat):Ct:=λds A R _=>∃ns t q nms n,ds=[.fl ns,.ref t,.ref q,.int ((d:Int) - 1)]/\0<d/\q≠t/\A[q]?=some (.lst (nms.map D.str))/\nms≠[]/\(∀x∈nms,Nm x)/\Tw t n A/\n+ic d<=1000000/\∀m A',Wf m->m.deep<d->Dr t A A' n (ic d)->R (enc m) A'
def BV(e:Nat):Ct:=λds A R E=>∃d,d<=e/\J8 d ds A R E
def BZ:Ct:=λds A R _=>∃ns t n k,ds=[.fl ns,.ref t,.int ((k:Nat):Int)]/\k<=10/\Tw t n A/\n+6*k<=1000000/\∀(A':Ar) (q:Nat) (xs:List Str),cz t A A'->Tw t (n+6*k) A'->A.length<=q->A'[q]?=some (.lst (xs.map D.str))->xs.length=k->(∀x∈xs,Nm x)->R (.ref q) A'
def BQ:Ct:=SV λds v=>∃m rs,ds=[enc m,di rs]/\Wf m/\Bk rs m/\m.deep<=5/\v=.int (ld (val rs) m)
def BO(d:Nat):Ct:=J7 λds v=>∃m w,ds=[enc m,.str w]/\m.deep<d/\w.length+d<=100/\d<=8/\v=(gx m w).map fN
def BR:Ct:=λds A R _=>∃m,ds=[enc m]/\Wf m/\m.deep<=5/\∀A' q,Gr A A'->A'[q]?=some (.lst ((gx m "").map fN))->A.length<=q->R (.ref q) A'
def BD:Ct:=SV λds v=>∃x,ds=[enc x,enc x]/\Wf x/\x.deep<=5/\v=.bl true
end DP
namespace My
open L2 DP MA
theorem Nf(T:TopD K mg "_law_mobile" Hf vt)(l:mg "range"=none)(a:aj P w K mg base 3 "_law_draw" kQ (ai mg 3 kr))(g:aj P w K mg base 4 "_law_pick" nj (ai mg 3 lF)):∀e,aj P w K mg base (e+4) "_law_mobile" vt (ai mg 4 (BV e)):=by
 intro e;induction e with
 |zero=>
  refine lK T λds A R RE h=>?_;obtain⟨d,hd,ns,t,q,F,n,_,h,_⟩:=h;omega
 |succ e j=>
  refine gQ T Ig rfl (by decide) λN RE f cdv B outer s H E L hR p ds A R h hl=>?_;have M:=L.units;have nd:=Ig.nd;refine⟨_,(aD (bP (PW.pt (fX (f_ M (vr 3) ao) (gO (f_ M (dL a L p (aa (vr 0) (aa (vr 1) (aa ao af)))) ao)))) (aA (aN (cU (aa a_ (aa (dL g L p (aa (vr 0) (aa (vr 1) (aa (vr 2) af)))) af))))) bT)
  (aD (oO none (own:=["_law_k"]) (frees:=["_law_script","_law_town"]) (ix:=[0,1]) (i:=4) nd rfl (by first|exact Or.inl rfl|exact Or.inr rfl) rfl (mU l (aa ao af)) (λc=>(pG 0 (show(["_law_k","_law_script","_law_town"]:List Str).Nodup by decide+kernel))) (λc=>(cM ao (dL a L j4 (aa (vr 1) (aa (vr 2) (aa (dL g L j4 (aa (vr 1) (aa (vr 2) (aa (cG (aa ao (aa ao (aa ao af)))) af)))) af)))))))
  (aD (oO none (own:=["_law_k"]) (frees:=["_law_script","_law_town","_law_names_here","_law_deep"]) (ix:=[0,1,2,3]) (i:=5) nd rfl (by first|exact Or.inl rfl|exact Or.inr rfl) rfl (mU l (aa ao af)) (λc=>(pG 0 (show(["_law_k","_law_script","_law_town","_law_names_here","_law_deep"]:List Str).Nodup by decide+kernel))) (λc=>(dL j L j4 (aa (vr 1) (aa (vr 2) (aa (vr 3) (aa (qN (vr 4) ao) af)))))))
  (aA (aN (cU (aa a_ (aa (dX M (vr 4) ao) (aa (dX M (vr 4) ao) (aa (dX M (vr 5) ao) (aa (dX M (vr 5) ao) af))))))))))),?_⟩
  obtain⟨d0,hd0,ns,t,r,F,n,rfl,hd1,m,hA,G,I,ht,hc,q⟩:=h;obtain⟨d,rfl⟩:∃d,d0=d+1:=⟨d0 - 1,by omega⟩;have hcs:ic (d+1)=5+2*ic d:=rfl;have V:((d+1:Nat):Int) - 1=(d:Int):=by omega
  have leaf:∀J n1,cz t A J->Tw t n1 J->n<=n1->n1+1<=n+ic (d+1)->lF [.fl ns,.ref t,.ref r] J (λx A'=>2<=sizeLine/\R (.tup [.str "weight",x]) A') RE:=λJ n1 W t1 h0 h1=>by
   refine⟨ns,t,r,_,n1,rfl,m,W r _ m hA,by simpa using G,t1,by omega,λx A' p b t'=>⟨by decide,?_⟩⟩;obtain⟨y,hy,rfl⟩:=aX.mp p;have one:∀z∈bz.names (bz.wt y),z=y:=λz hz=>by simpa[bz.names] using hz
   exact q (.wt y) A' ⟨trivial,λz hz=>by rw[one z hz];exact I y hy⟩ (succ_pos _) ⟨W.trans b,t'.mono (by omega)⟩
  refine cD (λc=>⟨rfl,leaf A n cz.refl ht (by omega) (by omega)⟩) (λc=>?_);refine⟨rfl,ns,t,4,n,rfl,ht,by omega,by decide,λi J _ _ W t1=>?_⟩;refine cD (λc2=>⟨rfl,leaf J (n+1) W t1 (by omega) (by omega)⟩) (λc2=>?_);have X:0<d:=by
   have c:¬(((d+1:Nat):Int) - 1=0):=c;omega
  have o:∀(x0:D) (O:Ar) (n2:Nat) (Q:DK),Tw t n2 O->n2+2<=1000000->(∀(most:Int) (u:Ar),1<=most->most<=9->cz t O u->Tw t (n2+2) u->Q (.int most) u)->cE qx (dC (D.int 1)) (jP 3 kr rK (cT (cF 1) (cT (cF 2) (cT (jP 3 lF rK (cT (cF 1) (cT (cF 2) (cT (uh (cT (dC (D.int 2)) (cT (dC (D.int 3)) (cT (dC (D.int 9)) fV)))) fV)))) fV)))) [some x0,some (.fl ns),some (.ref t)] O Q:=by
   intro x0 O n2 Q t2 hn2 hQ;obtain⟨V2,q_,_⟩:=id t2;have l2:=b_ q_;refine⟨show 3<=sizeLine by decide,rfl,ns,t,_,[.int 2,.int 3,.int 9],n2,rfl,by omega,aH,by simp,t2.gr Gr.push,by omega,λx u p b3 t3=>?_⟩;obtain⟨most,rfl,m0,m9⟩:∃k:Int,x=.int k/\2<=k/\k<=9:=by
    simp at p;rcases p with h|h|h<;>exact⟨_,h,by omega,by omega⟩
   refine⟨rfl,ns,t,most,n2+1,rfl,t3,by omega,by omega,λi A4 i0 i1 b4 t4=>?_⟩;exact hQ (1+i) A4 (by omega) (by omega) ((Gr.push.but.trans b3).trans b4) t4
  refine⟨by decide,by decide,trivial,o _ J (n+1) _ t1 (by omega) λa1 O u1 u2 b2 t2=>⟨show 0<sizeLine by decide,trivial,o _ O (n+1+2) _ t2 (by omega) λa2 u u3 u4 b3 t3=>⟨show 1<sizeLine by decide,trivial,?_⟩⟩⟩;have Y:cz t A u:=(W.trans b2).trans b3;have t4:=t3.gr (Gr.push (T:=[C.lst [D.int a1,D.int a2]]));have h4:=aH (A:=u) (c:=C.lst [D.int a1,D.int a2]);obtain⟨xt,zj,_⟩:=id t3;have Ff:=b_ zj;have e4:[]++[D.int a1]++[D.int a2]=[D.int a1,D.int a2]:=rfl;rw[e4];have Z:=getElem?_push (T:=[C.lst [D.int a1,D.int a2]]) (Y r _ m hA);refine⟨by decide,by decide,trivial,?_⟩;refine⟨rfl,d,by omega,ns,t,r,F,n+1+2+2,show [D.fl ns,D.ref t,D.ref r,D.int (((d+1:Nat):Int) - 1 - 1)]=_ by rw[V],X,m,Z,G,I,t4,by omega,λS A5 w1 d1 r1=>?_⟩;refine⟨show 0<sizeLine by decide,trivial,?_⟩;refine⟨rfl,d,by omega,ns,t,r,F,_,show [D.fl ns,D.ref t,D.ref r,D.int (((d+1:Nat):Int) - 1 - 1)]=_ by rw[V],X,m,r1.but r _ m Z,G,I,r1.tw,by omega,λU A6 w2 d2 r2=>?_⟩;refine⟨show 1<sizeLine by decide,trivial,?_⟩;have qZ:=(r1.but.trans r2.but) u.length _ (by omega) h4;have e6:[]++[enc S]++[enc U]=[enc S,enc U]:=rfl;rw[e6];refine fY (getElem?_push qZ) (v:=.int a1) rfl ?_;refine fY (getElem?_push qZ) (v:=.int a2) rfl ?_;refine fY aH (v:=enc S) rfl ?_;refine fY aH (v:=enc U) rfl ?_;refine⟨show 5<=sizeLine by decide,q (.bQ a1 a2 S U) _ ⟨⟨u1,u2,u3,u4,w1.arms,w2.arms⟩,λx p=>?_⟩ (show max S.deep U.deep+1<d+1 by omega) ⟨(((Y.trans Gr.push.but).trans r1.but).trans r2.but).trans Gr.push.but,(r2.tw.gr Gr.push).mono (by omega)⟩⟩;rcases bV.mp (show x∈S.names++U.names from p) with h|h
  .exact w1.nm x h
  .exact w2.nm x h
theorem Ng(T:TopD K mg "_law_names" Hg vv)(g:mg "range"=none)(d:aj P w K mg base 3 "_law_draw" kQ (ai mg 3 kr))(f:aj P w K mg base 4 "_law_pick" nj (ai mg 3 lF)):aj P w K mg base 5 "_law_names" vv (ai mg 3 BZ):=by
 refine bH T TQ λC hR E X nd=>⟨_,(aD (dS 3 nd (cG af))
  (aD (eN d_ rfl (mU g (aa (vr 2) af)) (dG 4 nd) (aD (dS 5 nd (dL f C E (aa (vr 0) (aa (vr 1) (aa (cG (@aa _ _ _ _ _ _ a_ (@aa _ _ _ _ _ _ a_ (@aa _ _ _ _ _ _ a_ (@aa _ _ _ _ _ _ a_ (@aa _ _ _ _ _ _ a_ (@aa _ _ _ _ _ _ a_ af pK) pK) pK) pK) pK) pK)) af)))))
  (aD (bP (f_ X (dL d C E (aa (vr 0) (aa (vr 1) (aa ao af)))) ao) (aD (dS 5 nd a_)
  (aA (eN d_ rfl (mU g (aa (cM ao (dL d C E (aa (vr 0) (aa (vr 1) (aa ao af))))) af)) (dG 6 nd) (aA (dS 5 nd (cM (vr 5) (dX X a_ (dL d C E (aa (vr 0) (aa (vr 1) (aa ao af))))))))))) bT)
  (aA (cV (gq fy iC iG gS ie (vr 3) (aa (vr 5) af)))))))
  (aA (aN (vr 3))))),λds A R h hl=>?_⟩
 obtain⟨ns,t,n,k,rfl,hk,Y,hn,q⟩:=h;obtain⟨WO,J,_⟩:=id Y;have l0:=b_ J;have hz:(1000:Nat)<=sizeLine:=by decide
 have Wb:(100:Int)<2 ^ 62:=by decide
 have al:∀x y:Str,(x++y).length=x.length+y.length:=λx y=>mh;refine⟨bG _,by omega,by omega,?_⟩;refine eL (λrest τ A'=>∃(xs:List Str) (a b c:Option D),τ=[some (.fl ns),some (.ref t),some (.int k),some (.ref A.length),a,b,c]/\rest.length+xs.length=k/\cz t A A'/\Tw t (n+6*xs.length) A'/\A'[A.length]?=some (.lst (xs.map D.str))/\∀x∈xs,Nm x) ?_ ?_ ?_ _ _ _ ⟨[],none,none,none,rfl,by simp[fP],Gr.push.but,Y.gr Gr.push,aH,by simp⟩
 .intro _ _ _ _
  trivial
 .rintro x rest τ A' ⟨xs,a,b,c,rfl,e,L,tt,M,o⟩ Nx hN
  simp at e;have fin:∀(nm:Str) (r:Ar) (F:Option D) (G:lC),G.nx=Nx->Nm nm->cz t A' r->Tw t (n+6*xs.length+6) r->sA (oK oE (cF 3) (cT (cF 5) fV)) G [some (.fl ns),some (.ref t),some (.int k),some (.ref A.length),some x,some (.str nm),F] r:=λnm r F G hE h1 u H=>by
   have p:=u A.length _ (by omega) M;refine⟨fh p,iZ p (by simp;omega) ?_⟩;show G.nx _ _;rw[hE];refine hN _ _ ⟨xs++[nm],_,_,_,rfl,by simp;omega,λq c Z h=>?_,?_,?_,λy I=>?_⟩
   .have:=b_ h
    rw[dI (by omega)];exact u q c Z (L q c Z h)
   .obtain⟨ys,h2,h3⟩:=H
    refine⟨ys,?_,by simp;omega⟩;rw[dI (by omega)];exact h2
   .rw[get_set p]
    simp
   .rcases bV.mp I with h|h
    .exact o y h
    .rw[bM.mp h]
     exact h1
  obtain⟨WS,N,_⟩:=id tt;have WD:=b_ N;refine⟨show 6<=sizeLine by decide,rfl,ns,t,_,[.str "a",.str "b",.str "c",.str "d",.str "e",.str "f"],n+6*xs.length,rfl,by omega,aH,by simp,tt.gr Gr.push,by omega,λy A1 I b1 t1=>?_⟩;obtain⟨nm,rfl,O⟩:∃s:Str,y=.str s/\Nm s:=by
   simp at I;rcases I with h|h|h|h|h|h
   .exact⟨_,h,by decide+kernel,by decide+kernel,by decide+kernel⟩
   .exact⟨_,h,by decide+kernel,by decide+kernel,by decide+kernel⟩
   .exact⟨_,h,by decide+kernel,by decide+kernel,by decide+kernel⟩
   .exact⟨_,h,by decide+kernel,by decide+kernel,by decide+kernel⟩
   .exact⟨_,h,by decide+kernel,by decide+kernel,by decide+kernel⟩
   .exact⟨_,h,by decide+kernel,by decide+kernel,by decide+kernel⟩
  have z:cz t A' A1:=Gr.push.but.trans b1;refine⟨rfl,ns,t,4,_,rfl,t1,by omega,by decide,λi r _ _ u H=>?_⟩;refine cD (λc=>?_) (λc=>fin nm r _ _ rfl O (z.trans u) (H.mono (by omega)));refine⟨rfl,ns,t,3,_,rfl,H,by omega,by decide,λj A3 j0 j1 b3 t3=>?_⟩;refine⟨by omega,by omega,?_⟩;refine eL (λl τ B=>∃(nm:Str) (c:Option D),τ=[some (.fl ns),some (.ref t),some (.int k),some (.ref A.length),some x,some (.str nm),c]/\nm.length+l.length=(1+j).toNat/\(∀c∈nm.cps.toList,97<=c/\c<=122)/\cz t A' B/\Tw t (n+6*xs.length+1+1+1+nm.length) B) ?_ ?_ ?_ _ _ _ ⟨"",_,rfl,by simp[fP];rfl,by decide+kernel,(z.trans u).trans b3,t3⟩
  .intro _ _ _ _
   trivial
  .rintro v l τ B ⟨m,c3,rfl,Q,az,S,U⟩ Wa V
   simp at Q;refine⟨rfl,ns,t,26,_,rfl,U,by omega,by decide,λi5 A5 i0 i1 b5 t5=>?_⟩;obtain⟨ch,W,c1,F⟩:=J' i0 i1;refine Pd W (by decide+kernel) ?_;have l1:(⟨#[ch]⟩:Str).length=1:=rfl;refine⟨by rw[l1];omega,V _ _ ⟨m++⟨#[ch]⟩,_,rfl,by rw[al,l1];omega,λc hc=>?_,S.trans b5,by rw[al,l1];exact t5⟩⟩;rw[show(m++(⟨#[ch]⟩:Str)).cps.toList=m.cps.toList++[ch] from Array.toList_append] at hc;rcases bV.mp hc with h|h
   .exact az c h
   .rw[bM.mp h]
    exact⟨c1,F⟩
  .rintro τ B ⟨m,c3,rfl,Q,az,S,U⟩
   simp at Q;exact fin m B _ _ rfl ⟨by omega,by omega,az⟩ S (U.mono (by omega))
 .rintro τ A' ⟨xs,a,b,c,rfl,e,L,tt,M,o⟩
  have e:xs.length=k:=by simpa using e
  exact q _ _ xs L (by rw[<-e];exact tt) (aF _) M e o
theorem M8(T:TopD K mg "_law_leaves" G8 vo):∀d,aj P w K mg base (d+1) "_law_leaves" vo (ai mg 2 (qq d)):=by
 intro d;induction d with
 |zero=>
  refine lK T λds A R RE h=>?_;obtain⟨v,⟨m,w,_,h,_⟩,_⟩:=h;omega
 |succ d c=>
  refine gQ T TM rfl (by decide) λN RE f k B outer s H E g t i ds A R h hl=>?_;have e:=g.units;refine⟨_,(aD (bP (f_ e (dX e (vr 0) ao) a_) (aA (aN (cG (aa (cU (aa (vr 1) (aa (dX e (vr 0) ao) af))) af)))) bT)
  (aA (aN (cM (dL c g i (aa (dX e (vr 0) ao) (aa (cM (vr 1) a_) af))) (dL c g i (aa (dX e (vr 0) ao) (aa (cM (vr 1) a_) af))))))),?_⟩
  obtain⟨v,⟨m,w,rfl,hd,u,z,rfl⟩,q⟩:=h;have C:(100:Nat)<=sizeLine:=by decide
  cases m with
  |wt n=>exact⟨by show 2<=sizeLine;omega,by show 1<=sizeLine;omega,q _ _ Gr.push aH⟩
  |bQ l r a b=>
   have o:max a.deep b.deep+1<d+1:=hd;have D:("l":Str).length=1:=by decide+kernel
   have F:("r":Str).length=1:=by decide+kernel
   have al:∀x y:Str,(x++y).length=x.length+y.length:=λx y=>mh;refine⟨by omega,rfl,_,⟨a,_,rfl,by omega,by rw[al];omega,by omega,rfl⟩,λG I p h1=>?_⟩;refine⟨by omega,rfl,_,⟨b,_,rfl,by omega,by rw[al];omega,by omega,rfl⟩,λJ L j h2=>?_⟩;have n1:=bz.jY a;have n2:=bz.jY b;have M:2 ^ a.deep<=2 ^ 8:=e9 (by decide) (by omega);have p2:2 ^ b.deep<=2 ^ 8:=e9 (by decide) (by omega);have hz:(512:Nat)<=sizeLine:=by decide
   refine kD (j.get h1) h2 (by rw[aP,aP,kN,kN];omega) (q _ _ ((p.trans j).trans Gr.push) ?_);rw[aH];simp[gx]
theorem M5(T:TopD K mg "leaves_below" Ae lV):∀d,aj P w K mg base (d+1) "leaves_below" lV (ai mg 2 (BO d)):=by
 intro d;induction d with
 |zero=>
  refine lK T λds A R RE h=>?_;obtain⟨v,⟨m,w,_,h,_⟩,_⟩:=h;omega
 |succ d c=>
  refine gQ T Iq rfl (by decide) λN RE f o B outer s H E g t j ds A R h hl=>?_;have e:=g.units;refine⟨_,(aD (bP (f_ e (dX e (vr 0) ao) a_) (aA (aN (cG (aa (cU (aa (vr 1) (aa (dX e (vr 0) ao) af))) af)))) bT)
  (aA (aN (cM (dL c g j (aa (dX e (vr 0) ao) (aa (cM (vr 1) a_) af))) (dL c g j (aa (dX e (vr 0) ao) (aa (cM (vr 1) a_) af))))))),?_⟩
  obtain⟨v,⟨m,w,rfl,hd,u,z,rfl⟩,q⟩:=h;have C:(100:Nat)<=sizeLine:=by decide
  cases m with
  |wt n=>exact⟨by show 2<=sizeLine;omega,by show 1<=sizeLine;omega,q _ _ Gr.push aH (aF _)⟩
  |bQ l r a b=>
   have p:max a.deep b.deep+1<d+1:=hd;have D:("l":Str).length=1:=by decide+kernel
   have F:("r":Str).length=1:=by decide+kernel
   have al:∀x y:Str,(x++y).length=x.length+y.length:=λx y=>mh;refine⟨by omega,rfl,_,⟨a,_,rfl,by omega,by rw[al];omega,by omega,rfl⟩,λG I k h1 _=>?_⟩;refine⟨by omega,rfl,_,⟨b,_,rfl,by omega,by rw[al];omega,by omega,rfl⟩,λJ L i h2 _=>?_⟩;have n1:=bz.jY a;have n2:=bz.jY b;have M:2 ^ a.deep<=2 ^ 8:=e9 (by decide) (by omega);have p2:2 ^ b.deep<=2 ^ 8:=e9 (by decide) (by omega);have hz:(512:Nat)<=sizeLine:=by decide
   refine kD (i.get h1) h2 (by rw[aP,aP,kN,kN];omega) (q _ _ ((k.trans i).trans Gr.push) ?_ (k.trans i).len);rw[aH];simp[gx]
theorem M_(T:TopD K mg "load" s_load vM)(d:mg "dict"=none)(b:aj P w K mg base 9 "check_mobile" kR (ai mg 1 oz))(a:aj P w K mg base 10 "check_weights" rR (ai mg 2 xS))(c:aj P w K mg base 10 "load_below" rZ (ai mg 2 (xV 6))):aj P w K mg base 11 "load" vM (ai mg 2 BQ):=by
 refine bH T Ul λf n g o nd=>⟨_,(aD (cV (dL b f g (aa (vr 0) af)))
  (aD (cV (dL a f g (aa (vr 0) (aa (vr 1) af))))
  (aA (aN (dL c f g (aa (vr 0) (aa (jq (oJ rfl) oM d qb (aa (vr 1) af)) af))))))),λds A R h hl=>?_⟩
 obtain⟨v,⟨m,rs,rfl,i,e,hd,rfl⟩,q⟩:=h;refine⟨rfl,_,⟨m,rfl,i,hd,rfl⟩,λp j=>?_⟩;refine⟨rfl,_,⟨m,rs,rfl,e.ok,hd,e.nm,rfl⟩,λr k=>?_⟩;refine yF e.ok ?_;exact⟨rfl,m,_,rs,rfl,aH,e.ok,by omega,e.nm,λs l=>q _ (((j.trans k).trans Gr.push).trans l)⟩
theorem Na(T:TopD K mg "leaves" HP vL)(a:aj P w K mg base 9 "check_mobile" kR (ai mg 1 oz))(b:aj P w K mg base 9 "leaves_below" lV (ai mg 2 (BO 8))):aj P w K mg base 10 "leaves" vL (ai mg 1 BR):=by
 refine bH T Uk λc j d k nd=>⟨_,(aD (cV (dL a c d (aa (vr 0) af)))
  (aA (aN (dL b c d (aa (vr 0) (aa a_ af)))))),λds A R h hl=>?_⟩
 obtain⟨m,rfl,f,g,q⟩:=h;refine⟨rfl,_,⟨m,rfl,f,g,rfl⟩,λl e=>?_⟩;exact⟨rfl,_,⟨m,"",rfl,by omega,by decide+kernel,by decide,rfl⟩,λn o i h2 l2=>q _ _ (e.trans i) h2 (cR e.len l2)⟩
theorem MI(T:TopD K mg "alike" Ho vB)(b:mg "len"=none)(d:aj P w K mg base 11 "bar" nk (ai mg 1 qp))(a:aj P w K mg base 12 "least" rX (ai mg 1 xW)):aj P w K mg base 13 "alike" vB (ai mg 2 BD):=by
 refine bH T TU λf F j k nd=>⟨_,(aD (dS 2 nd (DC (dL d f j (aa (vr 0) af)) jQ))
  (aD (dS 3 nd (DC (dL d f j (aa (vr 1) af)) jQ))
  (aD (bP (PW.pt (fX (ff (vr 2)) (gO (ff (vr 3))))) (aA (aN (mW k (vr 2) (vr 3)))) bT)
  (aD (dS 4 nd (dL a f j (aa (vr 0) af)))
  (aD (dS 5 nd (dL a f j (aa (vr 1) af)))
  (aD (bP (PW.pt (Me (f_ k (dQ gp fL b gD (aa (vr 4) af)) ao) (Mf (f_ k (dQ gp fL b gD (aa (vr 5) af)) ao)))) (aA (aN jo)) bT)
  (aA (aN (mW k (vr 4) (vr 5)))))))))),λds A R h hl=>?_⟩
 obtain⟨v,⟨x,rfl,i,dx,rfl⟩,q⟩:=h;refine⟨rfl,x,rfl,i,dx,λG o=>?_⟩;cases l:b9 [] (bg x "" 1) with
 |some p=>
  refine⟨rfl,x,rfl,i,dx,λu m=>?_⟩;rw[l];exact q _ (o.trans m)
 |none=>
  refine⟨rfl,x,rfl,i,dx,λu m=>?_⟩;rw[l];refine⟨rfl,x,rfl,i,dx,λH y=>?_⟩;rw[av l];intro ys B s;refine⟨rfl,x,rfl,i,dx,λt C=>?_⟩;rw[av l];intro e p2 D;have E:e=ys:=pw_eq p2 B λn=>by rw[s,D]
  subst E;have g:=((o.trans m).trans y).trans C;have fin:R (.bl true) t:=q _ g;have fin2:fE false (di (e.zip (lw (e.map (shr x))))) (di (e.zip (lw (e.map (shr x))))) t R:=Mp (yO λr f=>i.nm _ ((s _).mp (pY (show(r.1,r.2)∈_ from f)).1)) (by decide) (λr z=>by cases z) fin;refine cD (λc=>?_) (λc=>fin2);refine cD (λc=>fin) (λc=>fin2)
end My
namespace DP
open L2 MA
def t8:Ct:=λds A R E=>∃x NN,ds=[x]/\cu A x=true/\(∀ms,gI x ms->eH (ms.map aU) NN/\(fO (ms.map aU)=none->∀A',Gr A A'->R .aC A')/\∀ss,fO (ms.map aU)=some ss->∀A' q,Gr A A'->A'[q]?=some (.lst (ss.map bU))->A.length<=q->R (.ref q) A')/\((¬∃ms,gI x ms)->∀A',Gr A A'->E "NoHall" A')
end DP
namespace My
open L2 DP MA
theorem Ny(T:TopD K mg "ring" HX r_)(a:aj P w K mg base 13 "hall_shares" o_ (ai mg 1 tZ))(b:aj P w K mg base 5 "find_ring" rT (ai mg 1 ya)):aj P w K mg base 14 "ring" r_ (ai mg 1 t8):=by
 refine bH T Uu λf v g y nd=>⟨_,(aA (aN (dL b f g (aa (dL a f g (aa (vr 0) af)) af)))),λds A R h hl=>?_⟩;obtain⟨x,NN,rfl,i,j,k⟩:=h;refine⟨rfl,x,rfl,i,λl m n o c q l1=>?_,λr n c=>k r _ c⟩;obtain⟨hok,s,t⟩:=j l m;exact⟨rfl,o,_,NN,rfl,q,hok,λe u d=>s e _ (c.trans d),λss e u p d h2 l2=>t ss e _ _ (c.trans d) h2 (by have:=c.len;omega)⟩
end My
namespace DP
open L2 MA
def mG(Ts:List Tb)(a b:Str):Prop:=∃T∈Ts,a∈aE T/\b∈aE T
inductive iK(Ts:List Tb):Str->Str->Prop
 |refl (a:Str):iK Ts a a
 |step {a b c:Str}:iK Ts a b->mG Ts b c->iK Ts a c
theorem mG.symm{Ts:List Tb}{a b:Str}(h:mG Ts a b):mG Ts b a:=by
 obtain⟨T,h1,h2,c⟩:=h;exact⟨T,h1,c,h2⟩
theorem iK.trans{Ts:List Tb}{a b c:Str}(h:iK Ts a b)(k:iK Ts b c):iK Ts a c:=by
 induction k with
 |refl=>exact h
 |step _ e d=>exact .step d e
theorem iK.symm{Ts:List Tb}{a b:Str}(h:iK Ts a b):iK Ts b a:=by
 induction h with
 |refl=>exact .refl _
 |step _ e c=>exact(iK.step (.refl _) e.symm).trans c
theorem Ke{Ts:List Tb}{a b:Str}:mG Ts a b↔∃s∈dY Ts a,s.2.2=b:=by
 constructor
 .rintro ⟨T,c,h1,h2⟩
  obtain⟨i,hi,e⟩:=qi c;exact⟨(i,a,b),nc.mpr ⟨T,by rw[br hi,e],h1,rfl,h2⟩,rfl⟩
 .rintro ⟨s,d,rfl⟩
  obtain⟨T,h1,h2,g,f⟩:=nc.mp d;exact⟨T,dc h1,h2,f⟩
inductive jF(Ts:List Tb):Str->List bB->Str->Prop
 |nil (a:Str):jF Ts a [] a
 |snoc {a b:Str} {l:List bB} {s:bB}:jF Ts a l s.2.1->eK Ts s->s.2.2=b->jF Ts a (l++[s]) b
theorem jF.S4{Ts:List Tb}{a b:Str}{l:List bB}(h:jF Ts a l b):iK Ts a b:=by
 induction h with
 |nil=>exact .refl _
 |snoc _ c e d=>
  obtain⟨T,h1,h2,f⟩:=c;exact .step d ⟨T,dc h1,h2,by rw[<-e];exact f⟩
theorem DW{Ts:List Tb}{a:Str}:∀(ss:List bB) (P:aO),(∀s∈ss,eK Ts s/\s.2.1∈aB P)->(∀p∈P,jF Ts a p.2 p.1)->∀p∈ss.foldl ck P,jF Ts a p.2 p.1
 |[],P,_,h=>h
 |s::ss,P,b,h=>by
  obtain⟨d,e⟩:=b s (bh ..);refine DW ss (ck P s) (λx c=>⟨(b x (aZ _ c)).1,(qy P s _).mpr (.inl (b x (aZ _ c)).2)⟩) λp hp=>?_;unfold ck at hp;split at hp
  .exact h p hp
  .rcases bV.mp hp with hp|hp
   .exact h p hp
   .rw[bM.mp hp]
    exact .snoc (h _ (m8 e)) d rfl
theorem UY{Ts:List Tb}{n:Str}{s:bB}(h:s∈dY Ts n):eK Ts s/\s.2.1=n:=by
 obtain⟨T,h1,h2,a,b⟩:=nc.mp h;exact⟨⟨T,h1,by rw[a];exact h2,b⟩,a⟩
theorem Cr{Ts:List Tb}{a:Str}:∀(f i:Nat) (P:aO),(∀p∈P,jF Ts a p.2 p.1)->∀p∈dN Ts f i P,jF Ts a p.2 p.1
 |0,i,P,h=>h
 |f+1,i,P,h=>by
  cases e:P[i]? with
  |none=>
   have:dN Ts (f+1) i P=P:=by
    show(match P[i]? with|some p=>dN Ts f (i+1) ((dY Ts p.1).foldl ck P)|none=>P)=_;rw[e]
   rw[this];exact h
  |some c=>
   rw[qB e];refine Cr f (i+1) _ (DW _ _ (λs b=>?_) h);obtain⟨h1,h2⟩:=UY b;exact⟨h1,by rw[h2];exact eE (dc e)⟩
theorem Cs{Ts:List Tb}{NN:List Str}(hok:eH Ts NN):∀(f i:Nat) (P:aO),fK P NN->13<=f+i->(∀j,j<i->∀p,P[j]?=some p->∀b,mG Ts p.1 b->b∈aB P)->∀p∈dN Ts f i P,∀b,mG Ts p.1 b->b∈aB (dN Ts f i P)
 |0,i,P,l,r,hc=>λp a b c=>by
  have hl:=cR l.len hok.nn;obtain⟨j,g,e⟩:=qi (show p∈P from a);exact hc j (by omega) p (by rw[br g,e]) b c
 |f+1,i,P,l,r,hc=>by
  cases e:P[i]? with
  |none=>
   have t:dN Ts (f+1) i P=P:=by
    show(match P[i]? with|some p=>dN Ts f (i+1) ((dY Ts p.1).foldl ck P)|none=>P)=_;rw[e]
   rw[t];intro p a b c;obtain⟨j,g,m⟩:=qi a;have:P.length<=i:=List.getElem?_eq_none_iff.mp e;exact hc j (by omega) p (by rw[br g,m]) b c
  |some d=>
   rw[qB e];obtain⟨X,eX⟩:=uG (dY Ts d.1) P;have n:d.1∈aB P:=eE (dc e);have o:=(b8.mp e).1;have key:∀(ss:List bB) (Q:aO),(∀s∈ss,s∈dY Ts d.1)->fK Q NN->d.1∈aB Q->fK (ss.foldl ck Q) NN:=by
    intro ss;induction ss with
    |nil=>intro Q _ h _;exact h
    |cons s ss u=>
     intro Q k v a;obtain⟨T,w,_,m,y⟩:=nc.mp (k s (bh ..));exact u _ (λx z=>k x (aZ _ z)) (v.add (by rw[m];exact a) (hok.sub T (dc w) _ y)) ((qy Q s d.1).mpr (.inl a))
   refine Cs hok f (i+1) _ (key _ _ (λs h=>h) l n) (by omega) λj g p a b c=>?_;rw[yV];by_cases q:j<i
   .rw[eX,iI (by omega)] at a
    exact .inl (hc j q p a b c)
   .have:j=i:=by omega
    subst this;rw[eX,iI o,e] at a;cases a;obtain⟨s,k,rfl⟩:=Ke.mp c;exact .inr (eE k)
theorem Rq{Ts:List Tb}{n:Str}:∀p∈aJ Ts n,jF Ts n p.2 p.1:=Cr 14 0 _ λp a=>by
 have:p=(n,[]):=by simpa using a
 rw[this];exact .nil _
theorem F3{Ts:List Tb}{NN:List Str}(hok:eH Ts NN){n:Str}(c:n∈NN){m:Str}:m∈aB (aJ Ts n)↔iK Ts n m:=by
 constructor
 .intro h
  obtain⟨p,a,rfl⟩:=aX.mp h;exact(Rq p a).S4
 .intro h
  have h0:fK [(n,[])] NN:=⟨by simp[aB],λm d=>by
   have:m=n:=by simpa[aB] using d
   rw[this];exact c,λp a=>by
   have:p=(n,[]):=by simpa using a
   rw[this];simp⟩
  have b:=Cs hok 14 0 [(n,[])] h0 (by omega) λj g=>by omega
  induction h with
  |refl=>exact(fZ hok c).2.1
  |step _ e f=>
   obtain⟨p,a,rfl⟩:=aX.mp f;exact b p a _ e
theorem Eg{Ts:List Tb}{NN:List Str}(hok:eH Ts NN):∀(ns:List Str) (Gs:List aO),(∀n∈ns,n∈NN)->(∀P∈Gs,∃n∈NN,P=aJ Ts n)->Gs.Pairwise (λP Q=>∀m,m∈aB P->m∉aB Q)->(ns.foldl (cH Ts) Gs).Pairwise (λP Q=>∀m,m∈aB P->m∉aB Q)
 |[],Gs,_,_,h=>h
 |n::ns,Gs,f,e,h=>by
  have b:=f n (bh ..);refine Eg hok ns (cH Ts Gs n) (λm d=>f m (aZ _ d)) (λP hP=>?_) ?_
  .unfold cH at hP
   split at hP
   .exact e P hP
   .rcases bV.mp hP with hP|hP
    .exact e P hP
    .exact⟨n,b,bM.mp hP⟩
  .unfold cH
   split
   .exact h
   .rename_i c
    rw[List.pairwise_append];refine⟨h,by simp,λP hP Q g m d a=>?_⟩;rw[bM.mp g] at a;obtain⟨k,i,rfl⟩:=e P hP;refine c (gY.mpr ⟨_,hP,?_⟩);rw[F3 hok i] at d ⊢;rw[F3 hok b] at a;exact d.trans a.symm
theorem uH{Ts:List Tb}{NN:List Str}(hok:eH Ts NN):(bu Ts).Pairwise (λP Q=>∀m,m∈aB P->m∉aB Q):=
 Eg hok _ [] (λm a=>by
  obtain⟨T,h1,h2⟩:=gY.mp a;exact hok.sub T h1 m h2) (λP h=>by cases h) Pairwise.nil
def q9(d:D):dF.α:=match d with
 |.tup (.str n::_)=>n.cps.toList
 |_=>[]
theorem Ej:∀{Gs:List aO} {NN:List Str},(∀P∈Gs,∃n∈aB P,n∈NN)->Gs.Pairwise (λP Q=>∀m,m∈aB P->m∉aB Q)->Gs.length<=NN.length:=by
 intro Gs NN h hd;have:∃a:List Str,a.length=Gs.length/\a.Nodup/\(∀x∈a,x∈NN)/\∀x∈a,∃P∈Gs,x∈aB P:=by
  induction Gs with
  |nil=>exact⟨[],rfl,l_,(λ_ h=>by cases h),(λ_ h=>by cases h)⟩
  |cons P Gs e=>
   obtain⟨f,g⟩:=jC.mp hd;obtain⟨a,k1,k2,k3,d⟩:=e (λQ b=>h Q (aZ _ b)) g;obtain⟨n,n1,n2⟩:=h P (bh ..);refine⟨n::a,by simp[k1],j9.mpr ⟨λi=>?_,k2⟩,λx hx=>?_,λx hx=>?_⟩
   .obtain⟨Q,b,c⟩:=d n i
    exact f Q b n n1 c
   .rcases aY.mp hx with rfl|hx
    .exact n2
    .exact k3 x hx
   .rcases aY.mp hx with rfl|hx
    .exact⟨P,bh ..,n1⟩
    .obtain⟨Q,b,c⟩:=d x hx
     exact⟨Q,aZ _ b,c⟩
 obtain⟨a,k1,k2,k3,_⟩:=this;have:=kP a NN k2 k3;omega
theorem I_{A B:Ar}{q:Nat}{c d:C}(h:A[q]?=some d)(g:Gr (A.set q c) B):Gr A (B.set q d):=by
 obtain⟨T,rfl⟩:=g;refine⟨T,?_⟩;have a:=b_ h;rw[wX _ _ (by simpa using a),set_set];congr 1;refine qe λi=>?_;by_cases hi:i=q
 .rw[hi,dJ a,h]
 .rw[dI (Ne.symm hi)]
noncomputable def cZ(Ts:List Tb)(P:aO)(n:Str):Rat:=gK Ts (c9 P n)
def xU:Ct:=λds A R _=>∃r q Ts NN n A0,ds=[.ref r,.ref q]/\g9 A0 r Ts/\Gr A0 A/\eH Ts NN/\n∈NN/\gn A0.length A q (aJ Ts n)/\∀A' p kvs,Gr A A'->A'[p]?=some (.dct kvs)->A.length<=p->Fb kvs (aB (aJ Ts n)) (cZ Ts (aJ Ts n))->R (.ref p) A'
end DP
namespace My
open L2 DP MA
theorem MW(T:TopD K mg "group_weights" HC rV)(f:mg "dict"=none)(b:aj P w K mg base 4 "comes_to" rS (ai mg 2 xR)):aj P w K mg base 5 "group_weights" rV (ai mg 2 xU):=by
 refine bH T T_ λO hR hx S nd=>⟨_,(aA (aN (jq (oJ rfl) oM f qb (aa (uu (fW none (own:=["name"]) (frees:=["by_place","paths"]) (ix:=[0,1]) rfl (qO (vr 1)) (λc=>(pG 0 (show(["name","by_place","paths"]:List Str).Nodup by decide+kernel))) (λc=>(cU (aa (vr 0) (aa (dL b O j4 (aa (vr 1) (aa (dX S (vr 2) (vr 0)) af))) af)))))) af)))),λds A R h hl=>?_⟩;obtain⟨r,q,Ts,NN,n,U,rfl,V,W,hok,X,Y,k⟩:=h;obtain⟨Z,kvs,hd,hk,hv⟩:=Y;have hz:(1000:Nat)<=sizeLine:=by decide
 obtain⟨i,_,_⟩:=fZ hok X;have pl:=i.len;have Fq:=hok.nn;have t:(aB (aJ Ts n)).length=(aJ Ts n).length:=by simp[aB]
 have y:=b_ hd;refine .inl ⟨q,kvs,hd,λo=>?_⟩;generalize e:A.set q (.bC o kvs)=u;have j:u[q]?=some (.bC o kvs):=by rw[<-e];exact dJ y
 have B:Gr U u:=by rw[<-e];exact W.set Z
 have E:=V.gr B;refine uV j ?_;have ek:(kvs.map λp=>keyOf p.1)=(aB (aJ Ts n)).map D.str:=by
  have:(kvs.map λp=>keyOf p.1)=(kvs.map (·.1)).map keyOf:=by rw[bR];rfl
  rw[this,hk,bR];rfl
 rw[ek];refine uf (λd=>match d with|.str m=>gy (cZ Ts (aJ Ts n)) m|d=>d) _ [] u (λA' g=>g.get j) (λd F l s=>?_) (by simp[t];omega) (λl s=>?_)
 .obtain⟨m,x,rfl⟩:=aX.mp F
  obtain⟨a,la,ga,G⟩:=hv m x;have aq:a≠q:=λz=>by rw[z,hd] at G;cases G
  have H:u[a]?=some (.lst ((c9 (aJ Ts n) m).map bU)):=by
   rw[<-e,dI (Ne.symm aq)];exact G
  refine⟨[.str m],rfl,λQ hQ=>?_⟩;refine zu (s.get j) rfl ga ?_;have pm:=m8 x;have I:=i.pl _ pm;refine⟨rfl,r,a,Ts,_,rfl,E.gr s,hok.tok,s.get H,λst J=>zY _ pm st J,by simp at I;omega,λA3 g3=>⟨show 2<=sizeLine by omega,hQ _ g3⟩⟩
 have em:((aB (aJ Ts n)).map D.str).map (λd=>match d with|.str m=>gy (cZ Ts (aJ Ts n)) m|d=>d)=(aB (aJ Ts n)).map (gy (cZ Ts (aJ Ts n))):=by
  rw[bR];rfl
 rw[gc,em];have v:Gr u (l++[C.lst ((aB (aJ Ts n)).map (gy (cZ Ts (aJ Ts n))))]):=s.trans Gr.push;have l2:A.length<=l.length:=by
  have:=s.len;rw[<-e,List.length_set] at this;exact this
 refine⟨kvs,v.get j,?_⟩;have M:Gr A ((l++[C.lst ((aB (aJ Ts n)).map (gy (cZ Ts (aJ Ts n))))]).set q (.dct kvs)):=I_ hd (by rw[e];exact v);have hL:((l++[C.lst ((aB (aJ Ts n)).map (gy (cZ Ts (aJ Ts n))))]).set q (.dct kvs))[l.length]?=some (.lst ((aB (aJ Ts n)).map (gy (cZ Ts (aJ Ts n))))):=by
  rw[dI (by omega)];exact aH
 generalize ((l++[C.lst ((aB (aJ Ts n)).map (gy (cZ Ts (aJ Ts n))))]).set q (.dct kvs):Ar)=A3 at*
 refine yz hL (F0 _ _) (by simp[t];omega) ?_;have N:(((aB (aJ Ts n)).map λm=>((Sum.inr m:Key),fq (cZ Ts (aJ Ts n) m))).map (·.1))=(aB (aJ Ts n)).map Sum.inr:=by
  rw[bR];rfl
 have L:=Fv i.nd;have ep:pI ((aB (aJ Ts n)).map λm=>((Sum.inr m:Key),fq (cZ Ts (aJ Ts n) m)))=(aB (aJ Ts n)).map λm=>((Sum.inr m:Key),fq (cZ Ts (aJ Ts n) m)):=by
  have:=Gg ((aB (aJ Ts n)).map λm=>((Sum.inr m:Key),fq (cZ Ts (aJ Ts n) m))) [] (by rw[gc,N];exact L);simpa[pI] using this
 rw[ep];exact k _ _ _ (M.trans Gr.push) aH M.len ⟨N,i.nd,λm x=>Ec (λm=>fq (cZ Ts (aJ Ts n) m)) _ m x⟩
end My
namespace DP
open L2 MA
theorem IQ(a:Str):¬strLt a a:=λh=>kh _ (show a.cps.toList<a.cps.toList from h)
theorem An{a b:Str}(h:strLt a b):¬strLt b a:=λk=>kh _ (xu (show a.cps.toList<b.cps.toList from h) (show b.cps.toList<a.cps.toList from k))
theorem wK{α:Type}{r:α->α->Prop}(as:∀a b,r a b->¬r b a):∀{xs ys:List α},xs.Pairwise r->ys.Pairwise r->(∀x,x∈xs↔x∈ys)->xs=ys
 |[],[],_,_,_=>rfl
 |[],y::ys,_,_,h=>by have:=(h y).mpr (bh ..);cases this
 |x::xs,[],_,_,h=>by have:=(h x).mp (bh ..);cases this
 |x::xs,y::ys,g,i,h=>by
  obtain⟨d,j⟩:=jC.mp g;obtain⟨f,l⟩:=jC.mp i;have e:x=y:=by
   rcases aY.mp ((h x).mp (bh ..)) with e|m1
   .exact e
   rcases aY.mp ((h y).mpr (bh ..)) with e|m2
   .exact e.symm
   exact absurd (d y m2) (as _ _ (f x m1))
  subst e;have c:∀z,¬r z z:=λz k=>as _ _ k k;rw[wK as j l λz=>⟨λhz=>?_,λhz=>?_⟩]
  .rcases aY.mp ((h z).mp (aZ _ hz)) with rfl|k
   .exact absurd (d _ hz) (c _)
   .exact k
  .rcases aY.mp ((h z).mpr (aZ _ hz)) with rfl|k
   .exact absurd (f _ hz) (c _)
   .exact k
noncomputable def iS(ns:List Str):List Str:=open Classical in if h:∃ys:List Str,ys.Pairwise strLt/\∀x,x∈ys↔x∈ns then Classical.choose h else []
theorem wL{ns ys:List Str}(h1:ys.Pairwise strLt)(h2:∀x,x∈ys↔x∈ns):iS ns=ys:=by
 have h:∃ys:List Str,ys.Pairwise strLt/\∀x,x∈ys↔x∈ns:=⟨ys,h1,h2⟩;have e:iS ns=Classical.choose h:=by unfold iS;rw[dif_pos h]
 obtain⟨k1,k2⟩:=AQ h;rw[e];exact wK (λ_ _=>An) k1 h1 λx=>by rw[k2,h2]
noncomputable def gV(Ts:List Tb)(P:aO):List (Str×Int):=(iS (aB P)).zip (lw ((iS (aB P)).map (cZ Ts P)))
noncomputable def pP(Ts:List Tb):List (Str×Int):=(bu Ts).flatMap (gV Ts)
def yb:Ct:=λds A R E=>∃x NN,ds=[x]/\cu A x=true/\(∀n∈NN,Nm n)/\(∀ms,gI x ms->eH (ms.map aU) NN/\(fO (ms.map aU)=none->(∀P∈bu (ms.map aU),∀n∈aB P,jH (cZ (ms.map aU) P n))/\∀A' rs,Gr A A'->rs.Perm (pP (ms.map aU))->(rs.map (·.1)).Pairwise strLt->R (di rs) A')/\(fO (ms.map aU)≠none->∀A',Gr A A'->E "Never" A'))/\((¬∃ms,gI x ms)->∀A',Gr A A'->E "NoHall" A')
abbrev wg:KeyOrd:=pH dF (pH uN sN)
def sy:D->wg.α
 |.tup [.str n,.int a]=>(n.cps.toList,a,())
 |_=>([],(0:Int),())
theorem rw_ltU(p q:Str×Int):ltQ (toQ (bx p)) (toQ (bx q))=some (wg.blt (sy (bx p)) (sy (bx q))):=
 Qh (O:=pH uN sN) (Qf (O:=sN) Qg)
theorem rw_okU{p:Str×Int}(h:Nm p.1):f6 (bx p)=true/\(toQ (bx p)).canLay0=true/\(toQ (bx p)).depth<=60/\∃x r,toQ (bx p)=.tuple (.str x::r):=by
 have h1:=h.ok;refine⟨rfl,?_,?_,_,_,rfl⟩
 .simp[bx,toQ,bF,canLay0,canLayAll0] at h1 ⊢
  exact h1
 .simp[bx,toQ,bF,PyData.depth,depthAll]
theorem Cm:∀{ds:List D},(∀d∈ds,∃p,d=bx p)->∃rs:List (Str×Int),ds=rs.map bx
 |[],_=>⟨[],rfl⟩
 |d::ds,h=>by
  obtain⟨rs,rfl⟩:=Cm (ds:=ds) λx a=>h x (aZ _ a);obtain⟨p,rfl⟩:=h d (bh ..);exact⟨p::rs,rfl⟩
theorem R4{rs qs:List (Str×Int)}(h:(rs.map bx).Perm (qs.map bx)):rs.Perm qs:=by
 have inv:∀l:List (Str×Int),(l.map bx).map (λd=>match d with|.tup [.str n,.int a]=>(n,a)|_=>(("":Str),(0:Int)))=l:=λl=>by
  rw[bR];have:((λd=>match d with|D.tup [.str n,.int a]=>(n,a)|_=>(("":Str),(0:Int)))∘bx)=id:=by
   funext p;rfl
  rw[this,map_id]
 have:=h.map (λd=>match d with|.tup [.str n,.int a]=>(n,a)|_=>(("":Str),(0:Int)));rw[inv,inv] at this;exact this
theorem Vy{Ts:List Tb}{P:aO}(h:∃ys:List Str,ys.Pairwise strLt/\∀x,x∈ys↔x∈aB P):(gV Ts P).map (·.1)=iS (aB P)/\(iS (aB P)).Pairwise strLt/\∀x,x∈iS (aB P)↔x∈aB P:=by
 obtain⟨ys,h1,h2⟩:=h;rw[wL h1 h2];refine⟨?_,h1,h2⟩;unfold gV;rw[wL h1 h2];exact List.map_fst_zip (by rw[Qj,aP];exact aF _)
theorem VQ(ns:List Str):(iS ns).length<=ns.length:=by
 by_cases h:∃ys:List Str,ys.Pairwise strLt/\∀x,x∈ys↔x∈ns
 .obtain⟨ys,h1,h2⟩:=h
  rw[wL h1 h2];refine kP ys ns (Pairwise.imp (S:=λa b:Str=>a≠b) (λ {a b} c (z:a=b)=>IQ b (by rw[z] at c;exact c)) h1) λx d=>(h2 x).mp d
 .have:iS ns=[]:=by unfold iS;rw[dif_neg h]
  rw[this];exact bG _
theorem I0(Ts:List Tb)(P:aO):(gV Ts P).length<=(aB P).length:=by
 have:=VQ (aB P);unfold gV;rw[List.length_zip];omega
theorem DR{f:aO->List (Str×Int)}{k:Nat}:∀{l:List aO},(∀P∈l,(f P).length<=k)->(l.flatMap f).length<=k*l.length
 |[],_=>by simp
 |P::l,h=>by
  have h1:=DR (l:=l) λQ a=>h Q (aZ _ a);have h2:=h P (bh ..);rw[nX,dH,gC,Nat.mul_succ];omega
theorem I8{Ts:List Tb}:∀{Gs:List aO},Gs.Pairwise (λP Q=>∀m,m∈aB P->m∉aB Q)->(∀P∈Gs,∃ys:List Str,ys.Pairwise strLt/\∀x,x∈ys↔x∈aB P)->((Gs.flatMap (gV Ts)).map (·.1)).Nodup/\∀x,x∈(Gs.flatMap (gV Ts)).map (·.1)↔x∈ez Gs
 |[],_,_=>⟨l_,λx=>by simp[ez]⟩
 |P::Gs,hd,e=>by
  obtain⟨f,g⟩:=jC.mp hd;obtain⟨i1,i2⟩:=I8 (Ts:=Ts) g λQ d=>e Q (aZ _ d);obtain⟨n1,n2,n3⟩:=Vy (Ts:=Ts) (e P (bh ..));rw[nX,eB,n1];constructor
  .rw[l9]
   refine⟨Pairwise.imp (S:=λa b:Str=>a≠b) (λ {a b} c (z:a=b)=>IQ b (by rw[z] at c;exact c)) n2,i1,λa h b i z=>?_⟩;subst z;obtain⟨Q,d,j⟩:=gY.mp (show a∈Gs.flatMap aB from (i2 a).mp i);exact f Q d a ((n3 a).mp h) j
  .intro x
   rw[bV,n3,i2];simp[ez]
theorem Tg{rs:List (Str×Int)}(f:(rs.map (·.1)).Nodup)(e:(rs.map bx).Pairwise (λa b=>wg.kle (sy a) (sy b))):(rs.map (·.1)).Pairwise strLt:=by
 rw[kZ] at e;have d:rs.Pairwise λa b=>a.1≠b.1:=kZ.mp f;refine kZ.mpr ((e.and d).imp ?_);rintro a b ⟨k1,k2⟩;have k1:(dF.blt b.1.cps.toList a.1.cps.toList||(!dF.blt a.1.cps.toList b.1.cps.toList&&(pH uN sN).blt (b.2,()) (a.2,())))=false:=k1;rw[Bool.or_eq_false_iff] at k1;have k3:dF.blt a.1.cps.toList b.1.cps.toList=true:=by
  cases c:dF.blt a.1.cps.toList b.1.cps.toList with
  |true=>rfl
  |false=>exact absurd (Aq (dF.total _ _ c k1.1)) k2
 exact show a.1.cps.toList<b.1.cps.toList from iF k3
end DP
namespace My
open L2 DP MA
theorem NL(T:TopD K mg "together" Ic vV)(k:mg "sorted"=none)(s:mg "tuple"=none)(g:aj P w K mg base 13 "hall_shares" o_ (ai mg 1 tZ))(a:aj P w K mg base 6 "check_no_ring" rQ (ai mg 1 xZ))(l:aj P w K mg base 3 "groups" o9 (ai mg 1 tY))(b:aj P w K mg base 3 "least_weights" rY (ai mg 1 xX))(c:aj P w K mg base 5 "group_weights" rV (ai mg 2 xU)):aj P w K mg base 14 "together" vV (ai mg 1 yb):=by
 refine bH T UA λM hR E hu nd=>⟨_,(aD (dS 1 nd (dL g M E (aa (vr 0) af)))
  (aD (cV (dL a M E (aa (vr 1) af)))
  (aD (dS 2 nd (cG af))
  (aD (eN d_ rfl (cY (dL l M E (aa (vr 1) af))) (dG 3 nd) (aA (cV (gq fy sX w4 Qx Lv (vr 2) (aa (dL b M E (aa (dL c M E (aa (vr 1) (aa (vr 3) af))) af)) af)))))
  (aA (aN (jq yq yy s mz (aa (dQ (CH rfl hu) C6 k boot_sorted (aa (vr 2) af)) af)))))))),λds A R h hl=>?_⟩
 obtain⟨x,NN,rfl,hk,zf,q1,q2⟩:=h;have hz:(1000:Nat)<=sizeLine:=by decide
 refine⟨rfl,x,rfl,hk,λms hH A1 r Z hB l1=>?_,λF A1 Z=>q2 F _ Z⟩;obtain⟨hok,q4,q5⟩:=q1 ms hH;refine⟨rfl,r,_,NN,rfl,hB,hok,λe u g2=>?_,λe u g2=>q5 e _ (Z.trans g2)⟩;obtain⟨hF,q6⟩:=q4 e;have N:=hB.gr g2;clear q1 q2 q4 q5;generalize Oj:ms.map aU=Ts at*
 refine⟨bG _,rfl,r,Ts,NN,rfl,N.gr Gr.push,hok,λA3 q3 g3 hG=>?_⟩;obtain⟨lq,gs,O,G⟩:=hG;have m7:=G.len;have H:(u++[C.lst []]).length=u.length+1:=by simp
 rw[H] at G lq;have gl:(bu Ts).length<=12:=by
  have:=Ej (Gs:=bu Ts) (NN:=NN) (λP hP=>?_) (uH hok)
  .have:=hok.nn
   omega
  .obtain⟨n,F,_,rfl⟩:=iP hok hP
   exact⟨n,(fZ hok F).2.1,F⟩
 have zg:A3[u.length]?=some (.lst []):=g3.get aH;refine ef O ?_;refine eL (λrest τ A'=>∃(L f:List Nat) (i:Nat) (x3:Option D),rest=f.map D.ref/\L++f=gs/\i=L.length/\τ=[some x,some (.ref r),some (.ref u.length),x3]/\A'[u.length]?=some (.lst ((((bu Ts).take i).flatMap (gV Ts)).map bx))/\A'[q3]?=some (.lst (gs.map D.ref))/\eV (u.length+1) A' gs (bu Ts)/\Gr u A'/\(∀P∈(bu Ts).take i,∃ys:List Str,ys.Pairwise strLt/\∀x,x∈ys↔x∈aB P)) ?_ ?_ ?_ _ _ _ ⟨[],gs,0,none,rfl,rfl,rfl,rfl,zg,O,G,Gr.push.trans g3,λP h=>by simp at h⟩
 .rintro rest τ A' ⟨_,_,_,_,_,_,_,_,_,h,_⟩
  exact h
 .rintro v rest τ A4 ⟨L,f,i,x3,e1,o,hi,rfl,j,S,I,g4,y⟩ Nx hN
  cases f with
  |nil=>cases e1
  |cons t f=>
  cases e1;have hgt:gs[i]?=some t:=by rw[hi,<-o];simp
  obtain⟨Pg,U,uJ⟩:=I.get hgt;have B:=dc U;obtain⟨n,F,_,yM⟩:=iP hok B;subst yM;obtain⟨pC,pin,_⟩:=fZ hok F;refine⟨fh j,rfl,r,t,Ts,NN,n,u,rfl,N,g4,hok,F,uJ.lo (by omega),λA5 p kvs g5 h5 l5 fb=>?_⟩;have Si:=pC.len;have Fq:=hok.nn;have P9:(aB (aJ Ts n)).length=(aJ Ts n).length:=by simp[aB]
  refine⟨rfl,p,kvs,_,_,rfl,h5,fb,by omega,(λz=>by rw[z] at pin;cases pin),λm hm=>hF _ B m hm,λA6 ys g6 y1 y2=>?_⟩;have eU:=wL y1 y2;have et:ys.zip (lw (ys.map (cZ Ts (aJ Ts n))))=gV Ts (aJ Ts n):=by
   unfold gV;rw[eU]
  rw[et];have V:=g6.get (g5.get j);have W:((bu Ts).take (i+1))=(bu Ts).take i++[aJ Ts n]:=by
   rw[p5,U];rfl
  have X:=(g4.trans g5).trans g6;have sz:((((bu Ts).take i).flatMap (gV Ts)).map bx).length+((gV Ts (aJ Ts n)).map bx).length<=sizeLine:=by
   have b1:(((bu Ts).take i).flatMap (gV Ts)).length<=12*((bu Ts).take i).length:=DR λQ hQ=>by
    obtain⟨n',J,_,rfl⟩:=iP hok (pW hQ);have:=I0 Ts (aJ Ts n');have:=(fZ hok J).1.len;simp[aB] at*
    omega
   have b2:=I0 Ts (aJ Ts n);have b3:((bu Ts).take i).length<=12:=by rw[lX];omega
   rw[aP,aP];omega
  refine Mw V sz ?_;refine hN _ _ ⟨L++[t],f,i+1,_,rfl,by simpa using o,by simp[hi],rfl,?_,?_,?_,X.set (aF _),λP hP=>?_⟩
  .rw[W,qf,eB]
   have:([aJ Ts n].flatMap (gV Ts))=gV Ts (aJ Ts n):=by simp
   rw[this];exact dJ (b_ V)
  .rw[dI (by omega)]
   exact g6.get (g5.get S)
  .exact I.jy λq P hP=>(hP.gr (g5.trans g6)).set (by omega)
  .rw[W] at hP
   rcases bV.mp hP with hP|hP
   .exact y P hP
   .rw[bM.mp hP]
    exact⟨ys,y1,y2⟩
 .rintro τ A4 ⟨L,f,i,x3,e1,o,hi,rfl,j,S,I,g4,y⟩
  cases f with
  |cons _ _=>cases e1
  |nil=>
  have o:L=gs:=by simpa using o
  have hil:i=(bu Ts).length:=by rw[hi,o,m7]
  rw[hil,sY (aF _)] at j y;have j:A4[u.length]?=some (.lst ((pP Ts).map bx)):=j;obtain⟨t1,t2⟩:=I8 (Ts:=Ts) (uH hok) y;have Y:∀x∈(pP Ts).map (·.1),x∈NN:=λx E=>by
   obtain⟨Q,hQ,hq⟩:=gY.mp (show x∈(bu Ts).flatMap aB from (t2 x).mp E);obtain⟨n',J,_,rfl⟩:=iP hok hQ;exact(fZ hok J).1.sub x hq
  have uX:(pP Ts).length<=12:=by
   have:=kP _ NN t1 Y;have:=hok.nn;rw[aP] at*
   exact cR (by assumption) (by assumption)
  refine IL wg sy j (by rw[aP];omega) (λd hd=>?_) (λd hd e he=>?_) λes pe se=>?_
  .obtain⟨p,hp,rfl⟩:=aX.mp hd
   exact rw_okU (zf _ (Y _ (eE hp)))
  .obtain⟨p,hp,rfl⟩:=aX.mp hd
   obtain⟨p',oY,rfl⟩:=aX.mp he;exact rw_ltU p p'
  obtain⟨rs,rfl⟩:=Cm (ds:=es) λd hd=>by
   obtain⟨p,_,rfl⟩:=aX.mp (pe.mem_iff.mp hd);exact⟨p,rfl⟩
  have pr:=R4 pe;refine AE aH ?_;exact q6 _ rs (((Z.trans g2).trans g4).trans Gr.push) pr (Tg ((pr.map (·.1)).nodup_iff.mpr t1) se)
end My
namespace DP
open L2 MA
def BI:Ct:=λds A R _=>∃r Ts rs,ds=[.ref r,di rs]/\g9 A r Ts/\Ts.length<=7/\jN rs/\(∀p∈rs,∃T∈Ts,p.1∈aE T)/\∀A',Gr A A'->R .aC A'
noncomputable def fR(s:Str->Rat)(p:Str×Int):Rat:=(p.2:Rat)/s p.1
def Ca:Ct:=λds A R E=>∃(q:Nat) (kvs:List (Key×D)) (ns:List Str) (s:Str->Rat) (t:Nat) (rows:List (Str×Int)),ds=[.ref q,.ref t]/\A[q]? =some (.dct kvs)/\Fb kvs ns s/\ns.length<=32/\(∀n∈ns,jH (s n))/\A[t]? =some (.lst (rows.map bx))/\(∀p∈rows,p.1∈ns/\Nm p.1/\1<=p.2/\p.2<=999999)/\
 (rows=[]->∀A' p,Gr A A'->A'[p]? =some (.lst [])->A.length<=p->R (.ref p) A')/\
 ∀p0 more,rows=p0::more->((∀p∈rows,fR s p0*s p.1=(p.2:Rat))->∀A' p,Gr A A'->A'[p]? =some (.lst (ns.map (gy λn=>fR s p0*s n)))->A.length<=p->R (.ref p) A')/\((¬∀p∈rows,fR s p0*s p.1=(p.2:Rat))->∀A',Gr A A'->E "Never" A')
theorem GS:∀{a:List (Str×Int)},(∀p∈a,Nm p.1)->fk (a.map bx)=true/\canLayAll0 (bF (a.map bx))=true
 |[],_=>⟨rfl,rfl⟩
 |p::a,h=>by
  obtain⟨a1,a2,_,_⟩:=rw_okU (h p (bh ..));obtain⟨b,c⟩:=GS λx d=>h x (aZ _ d);refine⟨by show(f6 (bx p)&&fk (a.map bx))=true;rw[a1,b];rfl,?_⟩;simp[bF,canLayAll0,a2,c]
theorem NQ(i:Int):fq ((i:Int):Rat)=.tup [.int i,.int 1]:=by
 have h:rf ((i:Int):Rat)=(i,1):=by
  unfold rf;simp
 unfold fq;rw[h]
end DP
namespace My
open L2 DP MA
theorem MR(T:TopD K mg "check_told" Hw vE)(l:mg "any"=none){b:Addr}(f:mg "NoWeights"=some (.ref b))(g:excIn K b j8 "ValueError.__new__"=true)(a:aj P w K mg base 4 "check_are_weights" rP (ai mg 1 xP)):aj P w K mg base 5 "check_told" vE (ai mg 2 BI):=by
 refine bH T T4 λH I J L nd=>⟨_,(aD (cV (dL a H J (aa (vr 1) af)))
  (aA (eN d_ rfl (cY (vr 1)) (mS rfl (gu (dG 2 nd) (gu (dG 3 nd) mT))) (aA (bP (fF (ff (dQ (KA rfl) Lu l Kv (aa (fW none (own:=["table"]) (frees:=["name"]) (ix:=[2]) rfl (cY (vr 0)) (λc=>(pG 0 (show(["table","name"]:List Str).Nodup by decide+kernel))) (λc=>(Mh L (vr 1) (vr 0)))) af)))) (aA (kF I rfl f g (aa (LQ (Dt (L5 (vr 2) (Dt L4)))) af))) bT))))),λds A R h hl=>?_⟩
 obtain⟨r,Ts,rs,rfl,M,Z,N,u,q⟩:=h;obtain⟨j,h1,h2⟩:=M;have hz:(1000:Nat)<=sizeLine:=by decide
 have x:=h2.len;refine⟨rfl,_,⟨rs,rfl,N,rfl⟩,λA1 O=>?_⟩;refine eL (λrest τ A'=>∃(s d:List (Str×Int)) (z B:Option D),rest=d.map bx/\s++d=rs/\τ=[some (.ref r),some (di rs),z,B]/\Gr A A') ?_ ?_ ?_ _ _ _ ⟨[],rs,none,none,rfl,rfl,rfl,O⟩
 .intro _ _ _ _
  trivial
 .rintro v rest τ F ⟨s,d,z,B,e,m,rfl,n⟩ Nx S
  cases d with
  |nil=>cases e
  |cons p d=>
  cases e;have U:p∈rs:=by rw[<-m];simp
  refine⟨rfl,ef (n.get h1) ?_⟩;refine qF (λrest ys A'=>∃i,i<=j.length/\rest=(j.map D.ref).drop i/\ys=(Ts.take i).map (λT=>D.bl (decide (p.1∈aE T)))/\A'=F) ?_ ?_ ?_ ?_ _ _ _ ⟨0,bG _,rfl,rfl,rfl⟩
  .rintro rest ys A' ⟨_,_,_,_,rfl⟩
   exact n.get h1
  .rintro rest ys A' ⟨i,hi,_,rfl,_⟩
   rw[aP,lX];omega
  .rintro y rest ys A' ⟨i,hi,e,rfl,rfl⟩
   by_cases o:i<j.length
   .obtain⟨t,G⟩:∃t,j[i]?=some t:=⟨j[i],br o⟩
    obtain⟨T0,V,W⟩:=h2.get G;have k:i<(j.map D.ref).length:=by rw[aP];exact o
    have ev:(j.map D.ref)[i]?=some (.ref t):=by rw[bW,G];rfl
    rw[lu k] at e;rw[br k] at ev;have ev:=Option.some.inj ev;rw[ev] at e;cases e;refine⟨[.ref t],rfl,λQ X=>EC (W.gr n) rfl ?_⟩;rw[ay bZ,Eb];refine X _ _ ⟨i+1,by omega,rfl,?_,rfl⟩;rw[p5,V,eB];rfl
   .rw[qc (by rw[aP];omega)] at e
    cases e
  .rintro ys A' ⟨i,hi,e,rfl,rfl⟩
   have hi:i=j.length:=by
    have:=cS List.length e;simp at this;omega
   rw[hi,x,sY (aF _)];refine Kf aH (qC (λT=>decide (p.1∈aE T)) Ts) ?_;obtain⟨T0,C,E⟩:=u p U;have Y:((Ts.map λT=>decide (p.1∈aE T)).any id)=true:=by
    rw[List.any_map,mu];exact⟨T0,C,dg E⟩
   rw[Y];exact S _ _ ⟨s++[p],d,_,_,rfl,by simpa using m,rfl,n.trans Gr.push⟩
 .rintro τ F ⟨s,d,z,B,e,m,rfl,n⟩
  exact q _ n
end My
namespace DP
open L2 MA
theorem UI{s:Str->Rat}{p:Str×Int}(d:jH (s p.1))(h1:1<=p.2)(h2:p.2<=999999):0<fR s p/\(rf (fR s p)).1<=1152920351685342369153024/\(rf (fR s p)).2<=1152921504606846976:=by
 have pn:=dD d.pos;have f:=c_ (s p.1);have c:(0:Rat)<(p.2:Rat):=by
  have:((0:Int):Rat)<(p.2:Rat):=Rat.intCast_lt_intCast.mpr (by omega);simpa using this
 have hpos:0<fR s p:=by
  unfold fR;rw[tF];exact nR c (Rat.inv_pos.mpr d.pos)
 refine⟨hpos,?_⟩;have e:fR s p=((p.2*(rf (s p.1)).2:Int):Rat)/((rf (s p.1)).1:Rat):=by
  unfold fR;have h1:=jO (kg f);have h2:=jO (kg pn);conv=>lhs;rw[<-gU (s p.1)]
  rw[nQ];grind
 rw[e];obtain⟨k1,k2⟩:=su (a:=p.2*(rf (s p.1)).2) (b:=(rf (s p.1)).1) (fu (by omega) f) pn;have m:p.2*(rf (s p.1)).2<=999999*1152921504606846976:=ee h2 d.den (dO f) (by decide);have n:=d.num;exact⟨by omega,by omega⟩
end DP
namespace My
open L2 DP MA
theorem ND(T:TopD K mg "settled_group" HZ vQ){r:Addr}(F:mg "Never"=some (.ref r))(G:excIn K r j8 "ValueError.__new__"=true)(f:aj P w K mg base 3 "product" pq (ai mg 2 lG))(u:aj P w K mg base 3 "quotient" r8 (ai mg 2 (λds A R E=>∃a b c d:Int,ds=[.tup [.int a,.int b],.tup [.int c,.int d]]/\lG [.tup [.int a,.int b],.tup [.int d,.int c]] A R E))):aj P w K mg base 4 "settled_group" vQ (ai mg 2 Ca):=by
 refine bH T Uw λhr hR hx I nd=>⟨_,(aD (bP (f_ I (vr 1) (cG af)) (aA (aN (cG af))) bT)
  (aD (dS 2 nd (dL u hr hx (aa (cU (aa (dX I (dX I (vr 1) ao) ao) (aa ao af))) (aa (dX I (vr 0) (dX I (dX I (vr 1) ao) ao)) af))))
  (aD (eN d_ rfl (cY (vr 1)) (mS rfl (gu (dG 3 nd) (gu (dG 4 nd) mT))) (aA (bP (nE I (dL f hr hx (aa (vr 2) (aa (dX I (vr 0) (vr 3)) af))) (cU (aa (vr 4) (aa ao af)))) (aA (kF hR rfl F G (aa a_ af))) bT)))
  (aA (aN (uu (fW none (own:=["name"]) (frees:=["scale","weights"]) (ix:=[2,0]) rfl (qO (vr 0)) (λc=>(pG 0 (show(["name","scale","weights"]:List Str).Nodup by decide+kernel))) (λc=>(cU (aa (vr 0) (aa (dL f hr j4 (aa (vr 1) (aa (dX I (vr 2) (vr 0)) af))) af))))))))))),λds A R h hl=>?_⟩
 obtain⟨q,kvs,ns,l,t,Y,rfl,hq,fb,n32,hF,ht,z,k0,k1⟩:=h;have hz:(1000:Nat)<=sizeLine:=by decide
 obtain⟨Sq,Ss⟩:=GS λp hp=>(z p hp).2.1;refine⟨bG _,yP ht Sq Ss ?_⟩;cases Y with
 |nil=>exact⟨bG _,k0 rfl _ _ (Gr.push.trans Gr.push) aH (by simp)⟩
 |cons i k=>
 obtain⟨k2,k3⟩:=k1 i k rfl;clear k0 k1;refine cD (λc=>by cases c) (λ_=>?_);have O:=getElem?_push (T:=[C.lst []]) ht;have Z:=getElem?_push (T:=[C.lst []]) hq;have g1:Gr A (A++[C.lst []]):=Gr.push;generalize (A++[C.lst []]:Ar)=A1 at*
 obtain⟨r1,r2,r3,r4⟩:=z i (bh ..);have f0:=hF _ r1;have pn:=dD f0.pos;have pd:=c_ (l i.1);have a0:cX ((i::k).map bx) 0=some (bx i):=ua (j:=0) rfl;refine fY O a0 ⟨show 2<=sizeLine by omega,fY O a0 ?_⟩;refine jU Z rfl (fb.get _ r1) ?_;have Co:(1152921504606846976:Int)<2 ^ 64:=by decide
 have n1:=f0.num;have n2:=f0.den;have big:∀x:Int,x<=1329226666556920087987934156473284295655424->x<2 ^ 2000:=λx hx=>sQ hx (by
  have:(1329226666556920087987934156473284295655424:Int)<=(4000000000000:Int) ^ 5*4000000000000:=by decide
  exact sQ this (z0 (by decide)))
 refine⟨rfl,i.2,1,(rf (l i.1)).1,(rf (l i.1)).2,rfl,_,_,_,_,rfl,by omega,by decide,pd,pn,by omega,by omega,?_,λA2 g2=>?_⟩
 .refine big _ ?_
  have:i.2*(rf (l i.1)).2<=999999*1152921504606846976:=ee r4 n2 (dO pd) (by decide);omega
 have ec:((i.2:Rat)/((1:Int):Rat))*(((rf (l i.1)).2:Rat)/((rf (l i.1)).1:Rat))=fR l i:=by
  unfold fR;have h1:=jO (kg pd);have h2:=jO (kg pn);have h3:((1:Int):Rat)=1:=rfl;conv=>rhs;rw[<-gU (l i.1)]
  rw[h3];grind
 rw[ec];obtain⟨c1,c2,c3⟩:=UI (s:=l) (p:=i) f0 r3 r4;generalize hc:fR l i=c at*
 have H:∀(n:Str) (A':Ar) (Q:DK) (EX:DX),n∈ns->(∀S,Gr A' S->Q (fq (c*l n)) S)->lG [fq c,fq (l n)] A' Q EX:=λn A' Q EX hn hQ=>by
  have fn:=hF n hn;have m1:=dD fn.pos;have m2:=c_ (l n);have m3:=fn.num;have m4:=fn.den;refine⟨_,_,_,_,rfl,dD c1,c_ c,m1,m2,by omega,by omega,?_,λS g=>?_⟩
  .refine big _ ?_
   have:(rf c).1*(rf (l n)).1<=1152920351685342369153024*1152921504606846976:=ee c2 m3 (dO m1) (by decide);omega
  .rw[gU,gU]
   exact hQ _ g
 have hq2:=g2.get Z;have Ey:=g2.get O;refine ef Ey ?_;have oV:=g1.trans g2;refine eL (λrest τ A'=>∃(W mo:List (Str×Int)) (x3 x4:Option D),rest=mo.map bx/\W++mo=i::k/\τ=[some (.ref q),some (.ref t),some (fq c),x3,x4]/\(∀p∈W,c*l p.1=(p.2:Rat))/\Gr A2 A') ?_ ?_ ?_ _ _ _ ⟨[],i::k,none,none,rfl,rfl,rfl,λ_ h=>(by cases h),Gr.refl⟩
 .rintro rest τ A' ⟨_,_,_,_,_,_,_,_,g⟩
  exact g.get Ey
 .rintro v rest τ A3 ⟨W,mo,x3,x4,e,B,rfl,J,X⟩ Nx hN
  cases mo with
  |nil=>cases e
  |cons p mo=>
  cases e;have hp:p∈i::k:=by rw[<-B];simp
  obtain⟨pr,_,_,_⟩:=z p hp;refine⟨rfl,jU (X.get hq2) rfl (fb.get _ pr) ⟨rfl,H p.1 A3 _ _ pr λA4 g4=>⟨show 2<=sizeLine by omega,?_⟩⟩⟩;have e1:D.tup [.int p.2,.int 1]=fq ((p.2:Int):Rat):=(NQ p.2).symm;rw[e1];refine zN ?_;refine cN (λc5=>?_) (λc5=>?_)
  .exact⟨show 1<=sizeLine by omega,k3 (λhall=>c5 (hall p hp)) _ ((oV.trans X).trans g4)⟩
  .exact hN _ _ ⟨W++[p],mo,_,_,rfl,by simpa using B,rfl,λy hy=>by
    rcases bV.mp hy with h|h
    .exact J y h
    .rw[bM.mp h]
     exact c5,X.trans g4⟩
 .rintro τ A3 ⟨W,mo,x3,x4,e,B,rfl,J,X⟩
  cases mo with
  |cons _ _=>cases e
  |nil=>
  have B:W=i::k:=by simpa using B
  rw[B] at J;have k4:=k2 J;have U:=X.get hq2;have hlt:=b_ U;have D7:=oV.trans X;refine .inl ⟨q,kvs,U,λo=>?_⟩;generalize V:A3.set q (.bC o kvs)=B1;have L:B1[q]?=some (.bC o kvs):=by rw[<-V];exact dJ hlt
  refine uV L ?_;have ek:(kvs.map λp=>keyOf p.1)=ns.map D.str:=by
   have:(kvs.map λp=>keyOf p.1)=(kvs.map (·.1)).map keyOf:=by rw[bR];rfl
   rw[this,fb.keys,bR];rfl
  rw[ek];refine uf (λd=>match d with|.str m=>gy (λn=>c*l n) m|d=>d) _ [] B1 (λA' g=>g.get L) (λd hd' B2 M=>?_) (by simp;omega) (λB2 M=>?_)
  .obtain⟨m,hm,rfl⟩:=aX.mp hd'
   refine⟨[.str m],rfl,λQ hQ=>?_⟩;refine zu (M.get L) rfl (fb.get m hm) ⟨rfl,H m B2 _ _ hm λB3 NS=>⟨show 2<=sizeLine by omega,hQ _ NS⟩⟩
  have em:(ns.map D.str).map (λd=>match d with|.str m=>gy (λn=>c*l n) m|d=>d)=ns.map (gy λn=>c*l n):=by
   rw[bR];rfl
  rw[gc,em];have N:Gr B1 (B2++[C.lst (ns.map (gy λn=>c*l n))]):=M.trans Gr.push;have l2:A3.length<=B2.length:=by
   have:=M.len;rw[<-V,List.length_set] at this;exact this
  refine⟨kvs,N.get L,?_⟩;have gF:=I_ U (by rw[V];exact N);refine k4 _ _ (D7.trans gF) ?_ (by have:=D7.len;omega);rw[dI (by omega)];exact aH
end My
namespace DP
open L2 MA
def gz(rs:List (Str×Int))(P:aO):List (Str×Int):=rs.filter λp=>decide (p.1∈aB P)
noncomputable def fH(Ts:List Tb)(rs:List (Str×Int))(P:aO):List (Str×Rat):=match gz rs P with
 |[]=>[]
 |p0::_=>(aB P).map λn=>(n,fR (cZ Ts P) p0*cZ Ts P n)
noncomputable def nC(Ts:List Tb)(rs:List (Str×Int)):List (Str×Rat):=(bu Ts).flatMap (fH Ts rs)
def dR(p:Str×Rat):D:=.tup [.str p.1,fq p.2]
def Cf(Ts:List Tb)(rs:List (Str×Int)):Prop:=∀P∈bu Ts,∀p0 more,gz rs P=p0::more->∀p∈gz rs P,fR (cZ Ts P) p0*cZ Ts P p.1=(p.2:Rat)
def SSet:Ct:=λds A R E=>∃x NN rs,ds=[x,di rs]/\cu A x=true/\(∀n∈NN,Nm n)/\jN rs/\(∀ms,gI x ms->eH (ms.map aU) NN/\(∀p∈rs,∃T∈ms.map aU,p.1∈aE T)/\(fO (ms.map aU)≠none->∀A',Gr A A'->E "Never" A')/\(fO (ms.map aU)=none->(∀P∈bu (ms.map aU),∀n∈aB P,jH (cZ (ms.map aU) P n))/\
 (Cf (ms.map aU) rs->∀A' q (es:List (Str×Rat)),Gr A A'->es.Perm (nC (ms.map aU) rs)->(es.map (·.1)).Pairwise strLt->A'[q]?=some (.lst (es.map dR))->A.length<=q->R (.ref q) A')/\(¬Cf (ms.map aU) rs->∀A',Gr A A'->E "Never" A')))/\((¬∃ms,gI x ms)->∀A',Gr A A'->E "NoHall" A')
theorem UG{p:Str×Rat}(h:Nm p.1):f6 (dR p)=true/\(toQ (dR p)).canLay0=true/\(toQ (dR p)).depth<=60/\∃x r,toQ (dR p)=.tuple (.str x::r):=by
 have h1:=h.ok;refine⟨rfl,?_,?_,_,_,rfl⟩
 .simp[dR,fq,toQ,bF,canLay0,canLayAll0] at h1 ⊢
  exact h1
 .simp[dR,fq,toQ,bF,PyData.depth,depthAll]
theorem UE{a b:Str×Rat}(h:a.1=b.1->a=b):ltQ (toQ (dR a)) (toQ (dR b))=some (dF.blt (q9 (dR a)) (q9 (dR b))):=by
 show ltQ (.tuple [.str a.1,toQ (fq a.2)]) (.tuple [.str b.1,toQ (fq b.2)])=some (dF.blt a.1.cps.toList b.1.cps.toList);by_cases c:a.1=b.1
 .have e:=h c
  subst e;rw[ltQ,dF.irrefl,eS];have d:PyData.eqv (.str a.1) (.str a.1)=true:=by simp[PyData.eqv]
  rw[d];show eS [toQ (fq a.2)] [toQ (fq a.2)]=_;rw[eS];have f:PyData.eqv (toQ (fq a.2)) (toQ (fq a.2))=true:=by simp[fq,toQ,bF,PyData.eqv,eqvAll]
  rw[f];rfl
 .rw[ltQ,eS]
  have c':PyData.eqv (.str a.1) (.str b.1)=false:=by simpa[PyData.eqv] using c
  rw[c'];show ltQ (.str a.1) (.str b.1)=_;rw[ltQ]
theorem Cn:∀{ds:List D},(∀d∈ds,∃p,d=dR p)->∃rs:List (Str×Rat),ds=rs.map dR
 |[],_=>⟨[],rfl⟩
 |d::ds,h=>by
  obtain⟨rs,rfl⟩:=Cn (ds:=ds) λx a=>h x (aZ _ a);obtain⟨p,rfl⟩:=h d (bh ..);exact⟨p::rs,rfl⟩
theorem R5{rs qs:List (Str×Rat)}(h:(rs.map dR).Perm (qs.map dR)):rs.Perm qs:=by
 have inv:∀l:List (Str×Rat),(l.map dR).map (λd=>match d with|.tup [.str n,.tup [.int a,.int b]]=>(n,(a:Rat)/(b:Rat))|_=>(("":Str),(0:Rat)))=l:=λl=>by
  rw[bR];have:((λd=>match d with|D.tup [.str n,.tup [.int a,.int b]]=>(n,(a:Rat)/(b:Rat))|_=>(("":Str),(0:Rat)))∘dR)=id:=by
   funext p;show(p.1,((rf p.2).1:Rat)/((rf p.2).2:Rat))=p;rw[gU]
  rw[this,map_id]
 have:=h.map (λd=>match d with|.tup [.str n,.tup [.int a,.int b]]=>(n,(a:Rat)/(b:Rat))|_=>(("":Str),(0:Rat)));rw[inv,inv] at this;exact this
theorem IB(Ts:List Tb)(rs:List (Str×Int))(P:aO):(fH Ts rs P).map (·.1)=if gz rs P=[] then [] else aB P:=by
 unfold fH;cases gz rs P with
 |nil=>rfl
 |cons a m=>
  rw[ay (by simp)];show((aB P).map _).map _=_;rw[bR];exact map_id _
theorem IC{Ts:List Tb}{rs:List (Str×Int)}:∀{Gs:List aO},Gs.Pairwise (λP Q=>∀m,m∈aB P->m∉aB Q)->(∀P∈Gs,(aB P).Nodup)->((Gs.flatMap (fH Ts rs)).map (·.1)).Nodup/\∀x,x∈(Gs.flatMap (fH Ts rs)).map (·.1)->x∈ez Gs
 |[],_,_=>⟨l_,λx h=>by simp at h⟩
 |P::Gs,hd,e=>by
  obtain⟨f,g⟩:=jC.mp hd;obtain⟨i1,i2⟩:=IC (Ts:=Ts) (rs:=rs) g λQ c=>e Q (aZ _ c);have n1:=IB Ts rs P;have sub:∀x∈(fH Ts rs P).map (·.1),x∈aB P:=λx hx=>by
   rw[n1] at hx;split at hx
   .cases hx
   .exact hx
  rw[nX,eB];constructor
  .rw[l9]
   refine⟨?_,i1,λa i b j z=>?_⟩
   .rw[n1]
    split
    .exact l_
    .exact e P (bh ..)
   .subst z
    obtain⟨Q,c,d⟩:=gY.mp (show a∈Gs.flatMap aB from i2 a j);exact f Q c a (sub a i) d
  .intro x hx
   rcases bV.mp hx with hx|hx
   .exact gY.mpr ⟨P,bh ..,sub x hx⟩
   .obtain⟨Q,c,d⟩:=gY.mp (show x∈Gs.flatMap aB from i2 x hx)
    exact gY.mpr ⟨Q,aZ _ c,d⟩
theorem IA(Ts:List Tb)(rs:List (Str×Int))(P:aO):(fH Ts rs P).length<=(aB P).length:=by
 have:=cS List.length (IB Ts rs P);rw[aP] at this;rw[this];split
 .exact bG _
 .exact aF _
theorem DS{f:aO->List (Str×Rat)}{k:Nat}:∀{l:List aO},(∀P∈l,(f P).length<=k)->(l.flatMap f).length<=k*l.length
 |[],_=>by simp
 |P::l,h=>by
  have h1:=DS (l:=l) λQ a=>h Q (aZ _ a);have h2:=h P (bh ..);rw[nX,dH,gC,Nat.mul_succ];omega
theorem QC{l:List (Str×Rat)}(h:(l.map (·.1)).Nodup):∀a∈l,∀b∈l,a.1=b.1->a=b:=by
 induction l with
 |nil=>intro a d;cases d
 |cons x l g=>
  obtain⟨h1,h2⟩:=j9.mp (show(x.1::l.map (·.1)).Nodup from h);intro a d b i c;rcases aY.mp d with e|ha'<;>rcases aY.mp i with f|hb'
  .rw[e,f]
  .exact absurd (by rw[<-e,c];exact eE hb') h1
  .exact absurd (by rw[<-f,<-c];exact eE ha') h1
  .exact g h2 a ha' b hb' c
theorem UH{rs:List (Str×Rat)}(f:(rs.map (·.1)).Nodup)(e:(rs.map dR).Pairwise (λa b=>dF.kle (q9 a) (q9 b))):(rs.map (·.1)).Pairwise strLt:=by
 rw[kZ] at e;have d:rs.Pairwise λa b=>a.1≠b.1:=kZ.mp f;refine kZ.mpr ((e.and d).imp ?_);rintro a b ⟨k1,k2⟩;have k1:dF.blt b.1.cps.toList a.1.cps.toList=false:=k1;have k3:dF.blt a.1.cps.toList b.1.cps.toList=true:=by
  cases c:dF.blt a.1.cps.toList b.1.cps.toList with
  |true=>rfl
  |false=>exact absurd (Aq (dF.total _ _ c k1)) k2
 exact show a.1.cps.toList<b.1.cps.toList from iF k3
end DP
namespace My
open L2 DP MA
theorem NB(T:TopD K mg "settled" HY vP)(s:mg "sorted"=none)(j:aj P w K mg base 13 "hall_shares" o_ (ai mg 1 tZ))(k:aj P w K mg base 5 "check_told" vE (ai mg 2 BI))(b:aj P w K mg base 6 "check_no_ring" rQ (ai mg 1 xZ))(u:aj P w K mg base 3 "groups" o9 (ai mg 1 tY))(f:aj P w K mg base 4 "settled_group" vQ (ai mg 2 Ca))(g:aj P w K mg base 5 "group_weights" rV (ai mg 2 xU)):aj P w K mg base 14 "settled" vP (ai mg 2 SSet):=by
 refine bH T Uv λhr hR M hu nd=>⟨_,(aD (dS 2 nd (dL j hr M (aa (vr 0) af)))
  (aD (cV (dL k hr M (aa (vr 2) (aa (vr 1) af))))
  (aD (cV (dL b hr M (aa (vr 2) af)))
  (aD (dS 3 nd (cG af))
  (aD (eN d_ rfl (cY (dL u hr M (aa (vr 2) af))) (dG 4 nd) (aD (L8 none (own:=["pair"]) (frees:=["paths"]) (ix:=[4]) (i:=5) nd rfl (by first|exact Or.inl rfl|exact Or.inr rfl) rfl (cY (vr 1)) (λc=>(pG 0 (show(["pair","paths"]:List Str).Nodup by decide+kernel))) (λc=>(Vv hu (dX hu (vr 0) ao) (vr 1))) (λc=>(vr 0)))
  (aA (cV (gq fy sX w4 zK yw (vr 3) (aa (dL f hr M (aa (dL g hr M (aa (vr 2) (aa (vr 4) af))) (aa (vr 5) af))) af))))))
  (aA (aN (dQ (CH rfl hu) C6 s boot_sorted (aa (vr 3) af))))))))),λds A R h hl=>?_⟩
 obtain⟨x,NN,rs,rfl,hk,zf,hW,q1,q2⟩:=h;have hz:(1000:Nat)<=sizeLine:=by decide
 refine⟨rfl,x,rfl,hk,λms hH A1 r g1 hB l1=>?_,λS A1 g1=>q2 S _ g1⟩;obtain⟨hok,hin,q5,q4⟩:=q1 ms hH;refine⟨rfl,r,_,rs,rfl,hB,hok.len,hW,hin,λV_ U=>?_⟩;have Ep:=hB.gr U;refine⟨rfl,r,_,NN,rfl,Ep,hok,λe E g2=>?_,λe E g2=>q5 e _ ((g1.trans U).trans g2)⟩;obtain⟨hF,q6,q7⟩:=q4 e;have hB2:=Ep.gr g2;have V:=(g1.trans U).trans g2;clear q1 q2 q4 q5;generalize Oj:ms.map aU=Ts at*
 refine⟨bG _,rfl,r,Ts,NN,rfl,hB2.gr Gr.push,hok,λA3 q3 g3 hG=>?_⟩;obtain⟨lq,gs,Es,W⟩:=hG;have m7:=W.len;have X:(E++[C.lst []]).length=E.length+1:=by simp
 rw[X] at W lq;have gl:(bu Ts).length<=12:=by
  have:=Ej (Gs:=bu Ts) (NN:=NN) (λP hP=>?_) (uH hok)
  .have:=hok.nn
   omega
  .obtain⟨n,S,_,rfl⟩:=iP hok hP
   exact⟨n,(fZ hok S).2.1,S⟩
 have zg:A3[E.length]?=some (.lst []):=g3.get aH;have lrs:=hW.len;refine ef Es ?_;refine eL (λrest τ A'=>∃(dn a:List Nat) (i:Nat) (x4 x5:Option D),rest=a.map D.ref/\dn++a=gs/\i=dn.length/\τ=[some x,some (di rs),some (.ref r),some (.ref E.length),x4,x5]/\A'[E.length]?=some (.lst ((((bu Ts).take i).flatMap (fH Ts rs)).map dR))/\A'[q3]?=some (.lst (gs.map D.ref))/\eV (E.length+1) A' gs (bu Ts)/\Gr E A'/\(∀P∈(bu Ts).take i,∀I a,gz rs P=I::a->∀p∈gz rs P,fR (cZ Ts P) I*cZ Ts P p.1=(p.2:Rat))) ?_ ?_ ?_ _ _ _ ⟨[],gs,0,none,none,rfl,rfl,rfl,rfl,zg,Es,W,Gr.push.trans g3,λP h=>by simp at h⟩
 .rintro rest τ A' ⟨_,_,_,_,_,_,_,_,_,_,h,_⟩
  exact h
 .rintro v rest τ A4 ⟨dn,a,i,x4,x5,e1,y,hi,rfl,B,Ew,Y,g4,J⟩ Nx hN
  cases a with
  |nil=>cases e1
  |cons t a=>
  cases e1;have hgt:gs[i]?=some t:=by rw[hi,<-y];simp
  obtain⟨Pg,Er,uJ⟩:=Y.get hgt;have F:=dc Er;obtain⟨n,S,_,yM⟩:=iP hok F;subst yM;obtain⟨pC,pin,_⟩:=fZ hok S;have Si:=pC.len;have Fq:=hok.nn;have P9:(aB (aJ Ts n)).length=(aJ Ts n).length:=by simp[aB]
  obtain⟨lt',Wv,Ol,Ou,Wt⟩:=id uJ;refine yr bx (λp=>decide (p.1∈aB (aJ Ts n))) bx rs [] A4 (λ_ _=>trivial) (λp hp Z g5=>?_) (by simp;omega) (λZ g5=>?_)
  .refine⟨[bx p],rfl,λQ hQ=>?_,λA6 g6 Q hQ=>hQ _ Gr.refl⟩
   refine rj (g5.get Ol) rfl ?_;rw[ay bZ,uW Ou];exact hQ _ Gr.refl
  rw[gc];have Ov:(Z++[C.lst ((gz rs (aJ Ts n)).map bx)])[Z.length]?=some (.lst ((gz rs (aJ Ts n)).map bx)):=aH;have G:=g5.trans (Gr.push (T:=[C.lst ((gz rs (aJ Ts n)).map bx)]));have N9:(Z++[C.lst ((rs.filter λp=>decide (p.1∈aB (aJ Ts n))).map bx)]:Ar)=Z++[C.lst ((gz rs (aJ Ts n)).map bx)]:=rfl;rw[N9];generalize Wm:(Z++[C.lst ((gz rs (aJ Ts n)).map bx)]:Ar)=A6 at*
  have Ez:=G.get B;refine⟨fh Ez,rfl,r,t,Ts,NN,n,E,rfl,hB2,g4.trans G,hok,S,(uJ.gr G).lo (by omega),λA7 p kvs g7 h7 l7 fb=>?_⟩;have oR:((bu Ts).take (i+1))=(bu Ts).take i++[aJ Ts n]:=by
   rw[p5,Er];rfl
  have fin:∀(L:Ar) (N:Nat) (x5:Option D) (bS:bL),Gr A7 L->L[N]?=some (.lst ((fH Ts rs (aJ Ts n)).map dR))->A7.length<=N->(∀I a,gz rs (aJ Ts n)=I::a->∀p∈gz rs (aJ Ts n),fR (cZ Ts (aJ Ts n)) I*cZ Ts (aJ Ts n) p.1=(p.2:Rat))->bS=[some x,some (di rs),some (.ref r),some (.ref E.length),some (.ref t),x5]->qV E.length N L λ_ A'=>Nx bS A':=λL N x5 bS O h8 l8 o OH=>by
   have EA:=O.get (g7.get Ez);have y_:=(G.trans g7).trans O;have sz:((((bu Ts).take i).flatMap (fH Ts rs)).map dR).length+((fH Ts rs (aJ Ts n)).map dR).length<=sizeLine:=by
    have b1:(((bu Ts).take i).flatMap (fH Ts rs)).length<=12*((bu Ts).take i).length:=DS λQ hQ=>by
     obtain⟨n',H,_,rfl⟩:=iP hok (pW hQ);have:=IA Ts rs (aJ Ts n');have:=(fZ hok H).1.len;simp[aB] at*
     omega
    have b2:=IA Ts rs (aJ Ts n);have b3:((bu Ts).take i).length<=12:=by rw[lX];omega
    rw[aP,aP];omega
   refine yR EA h8 sz ?_;refine hN _ _ ⟨dn++[t],a,i+1,_,_,rfl,by simpa using y,by simp[hi],OH,?_,?_,?_,(g4.trans y_).set (aF _),λP hP=>?_⟩
   .rw[oR,qf,eB]
    have:([aJ Ts n].flatMap (fH Ts rs))=fH Ts rs (aJ Ts n):=by simp
    rw[this];exact dJ (b_ EA)
   .rw[dI (by omega)]
    exact y_.get Ew
   .exact Y.jy λq P hP=>(hP.gr y_).set (by omega)
   .rw[oR] at hP
    rcases bV.mp hP with hP|hP
    .exact J P hP
    .rw[bM.mp hP]
     exact o
  refine⟨rfl,p,kvs,_,_,Z.length,gz rs (aJ Ts n),rfl,h7,fb,by omega,λm hm=>hF _ F m hm,g7.get Ov,λp' oY=>?_,λh0 L N O h8 l8=>?_,λI mo h0=>⟨λo L N O h8 l8=>?_,λhbad L O=>?_⟩⟩
  .obtain⟨m1,m2⟩:=mem_filter.mp oY
   exact⟨iF m2,hW.nm _ m1,hW.no _ m1⟩
  .refine fin L N _ _ O ?_ l8 (λI mo z=>by rw[h0] at z;cases z) rfl
   have:fH Ts rs (aJ Ts n)=[]:=by unfold fH;rw[h0]
   rw[this];exact h8
  .refine fin L N _ _ O ?_ l8 (λWI mo' z=>by rw[h0] at z;cases z;exact o) rfl
   have:(fH Ts rs (aJ Ts n)).map dR=(aB (aJ Ts n)).map (gy λm=>fR (cZ Ts (aJ Ts n)) I*cZ Ts (aJ Ts n) m):=by
    unfold fH;rw[h0];show((aB (aJ Ts n)).map _).map dR=_;rw[bR];rfl
   rw[this];exact h8
  .exact q7 (λOC=>hbad (OC _ F I mo h0)) _ (((V.trans g4).trans G).trans (g7.trans O))
 .rintro τ A4 ⟨dn,a,i,x4,x5,e1,y,hi,rfl,B,Ew,Y,g4,J⟩
  cases a with
  |cons _ _=>cases e1
  |nil=>
  have y:dn=gs:=by simpa using y
  have hil:i=(bu Ts).length:=by rw[hi,y,m7]
  rw[hil,sY (aF _)] at B J;have B:A4[E.length]?=some (.lst ((nC Ts rs).map dR)):=B;obtain⟨t1,t2⟩:=IC (Ts:=Ts) (rs:=rs) (uH hok) λP hP=>by
   obtain⟨n',H,_,rfl⟩:=iP hok hP;exact(fZ hok H).1.nd
  have inN:∀x∈(nC Ts rs).map (·.1),x∈NN:=λx M=>by
   obtain⟨Q,hQ,hq⟩:=gY.mp (show x∈(bu Ts).flatMap aB from t2 x M);obtain⟨n',H,_,rfl⟩:=iP hok hQ;exact(fZ hok H).1.sub x hq
  have uX:(nC Ts rs).length<=12:=by
   have:=kP _ NN t1 inN;have:=hok.nn;rw[aP] at*
   exact cR (by assumption) (by assumption)
  have same:=QC (l:=nC Ts rs) t1;refine IL dF q9 B (by rw[aP];omega) (λd hd=>?_) (λd hd e he=>?_) λes pe se=>?_
  .obtain⟨p,hp,rfl⟩:=aX.mp hd
   exact UG (zf _ (inN _ (eE hp)))
  .obtain⟨p,hp,rfl⟩:=aX.mp hd
   obtain⟨p',oY,rfl⟩:=aX.mp he;exact UE (same p hp p' oY)
  obtain⟨zs,rfl⟩:=Cn (ds:=es) λd hd=>by
   obtain⟨p,_,rfl⟩:=aX.mp (pe.mem_iff.mp hd);exact⟨p,rfl⟩
  have pr:=R5 pe;exact q6 J _ _ zs ((V.trans g4).trans Gr.push) pr (UH ((pr.map (·.1)).nodup_iff.mpr t1) se) aH (by have:=(V.trans g4).len;omega)
end My
namespace DP
open L2 MA
theorem ED{α β:Type}{f:α->β}:∀{l:List α},(l.map f).Nodup->∀a∈l,∀b∈l,f a=f b->a=b
 |[],_,a,ha,_,_,_=>by cases ha
 |x::l,h,a,ha,b,hb,e=>by
  obtain⟨h1,h2⟩:=j9.mp (show(f x::l.map f).Nodup from h);rcases aY.mp ha with c|ha<;>rcases aY.mp hb with d|hb
  .rw[c,d]
  .exact absurd (by rw[<-c,e];exact eE hb) h1
  .exact absurd (by rw[<-d,<-e];exact eE ha) h1
  .exact ED h2 a ha b hb e
theorem Fw.hl{m:M}(h:Fw m):Hl m:=⟨h.wf,by have:=h.deep;omega,CT _ [] λa c b d e=>by
 rw[gc] at c d;have nd:((bg m "" 1).map (·.2.1)).Nodup:=by rw[pL];exact h.nd
 rw[ED nd a c b d e]⟩
theorem kH{b:List M}(e:b.length<=6)(h:∀m∈b,Fw m):eH (b.map aU) N5:=by
 refine⟨by rw[aP];omega,λT c=>?_,by decide,λT c n d=>?_⟩
 .obtain⟨m,a,rfl⟩:=aX.mp c
  exact(AB (h m a).hl).1
 .obtain⟨m,a,rfl⟩:=aX.mp c
  exact(h m a).sub n (((AB (h m a).hl).2.1 n).mp d)
theorem uU{a:List M}(h1:1<=a.length)(b:a.length<=6)(h:∀m∈a,Fw m):gI (.tup (a.map enc)) a:=⟨rfl,h1,b,λm c=>(h m c).hl⟩
theorem uK{b a:List M}(h:gI (.tup (b.map enc)) a):a=b:=(DF (D.tup.inj h.1)).symm
theorem vj{B:Ar}:∀{ls:List M},(∀m∈ls,Fw m)->cu B (.tup (ls.map enc))=true:=λ {ls} a=>by
 show iz B (ls.map enc)=true;induction ls with
 |nil=>rfl
 |cons m ls b=>
  show(cu B (enc m)&&iz B (ls.map enc))=true;rw[vh (a m (bh ..)).wf.nm,b λx c=>a x (aZ _ c)];rfl
theorem F_{j k:Nat}(h:j<=k):(9:Int) ^ j<=9 ^ k:=z3 (c:=9) (by decide) h
theorem Ak:∀(m:M) (x:Rat) (B:Int),m.arms->0<x->(rf x).1<=B->∀s∈m.sh x,(rf s).1<=B*9 ^ m.deep
 |.wt _,x,B,_,h1,h2,s,hs=>by
  have:s=x:=by simpa[bz.sh] using hs
  subst this;simpa[bz.deep] using h2
 |.bQ l r a b,x,B,h,h1,h2,s,hs=>by
  obtain⟨c,p,d,q,e,f⟩:=h;have g:0<B:=xo (dD h1) h2;have np:=dD h1;have i:(rf (x*((r:Rat)/((l+r:Int):Rat)))).1<=B*9:=by
   refine dZ (num_mul (by omega) (pX (by omega) (by omega))) ?_;exact ee h2 (by omega) (by omega) (by omega)
  have j:(rf (x*((l:Rat)/((l+r:Int):Rat)))).1<=B*9:=by
   refine dZ (num_mul (by omega) (pX (by omega) (by omega))) ?_;exact ee h2 (by omega) (by omega) (by omega)
  have n:0<x*((r:Rat)/((l+r:Int):Rat)):=bz.step_pos c d h1;have p2:0<x*((l:Rat)/((l+r:Int):Rat)):=by
   have:=bz.step_pos (l:=r) (r:=l) d c h1;rwa [add_comm r l] at this
  have up:∀k:Nat,k<=max a.deep b.deep->B*9*9 ^ k<=B*9 ^ (max a.deep b.deep+1):=λk o=>by
   rw[j_,nI,lZ 9 (9 ^ k)];refine nM ?_ (dO g);exact xq (F_ o) (by decide)
  rcases bV.mp (show s∈a.sh _++b.sh _ from hs) with hs|hs
  .exact dZ (Ak a _ _ e n i s hs) (up _ (pU _ _))
  .exact dZ (Ak b _ _ f p2 j s hs) (up _ (pV _ _))
theorem Fw.sh{m:M}(h:Fw m){n:Str}(b:n∈m.names):0<shr m n/\(rf (shr m n)).1<=81/\(rf (shr m n)).2<=324:=by
 have a:shr m n∈m.sh 1:=by
  rw[<-(wz h.hl.bar).2];exact eE b
 obtain⟨c,d⟩:=bz.wu m 1 1 h.arms (by decide) (by decide) _ a;have e:=Ak m 1 1 h.arms (by decide) (by decide) _ a;have p:=pF h.deep;have q:=F_ h.deep;rw[one_mul] at d e;have f:(18:Int) ^ 2=324:=by decide
 have g:(9:Int) ^ 2=81:=by decide
 exact⟨c,by omega,by omega⟩
theorem UP{a:List M}(h:∀m∈a,Fw m){s:bB}(i:eK (a.map aU) s):0<dW (a.map aU) s/\(rf (dW (a.map aU) s)).1<=26244/\(rf (dW (a.map aU) s)).2<=26244:=by
 obtain⟨T,h1,h2,f⟩:=i;unfold dW;rw[pM h1,pM h1];obtain⟨m,c,rfl⟩:=aX.mp (dc h1);have b:=AB (h m c).hl;rw[b.2.2 _ h2,b.2.2 _ f];obtain⟨d,j,k⟩:=(h m c).sh ((b.2.1 _).mp h2);obtain⟨e,l,n⟩:=(h m c).sh ((b.2.1 _).mp f);have p2:=dD d;have o:=dD e;have g:=c_ (shr m s.2.1);have p:=c_ (shr m s.2.2);refine⟨by rw[tF];exact nR e (Rat.inv_pos.mpr d),?_⟩;rw[yG e d];obtain⟨k1,k2⟩:=su (fu o g) (fu p p2);have q:(rf (shr m s.2.2)).1*(rf (shr m s.2.1)).2<=81*324:=ee l k (dO g) (by decide);have r:(rf (shr m s.2.2)).2*(rf (shr m s.2.1)).1<=324*81:=ee n j (dO p2) (by decide);exact⟨by omega,by omega⟩
theorem CN{c:List M}(h:∀m∈c,Fw m):∀(ss:List bB) (x:Rat) (k:Nat),(∀s∈ss,eK (c.map aU) s)->0<x->(rf x).1<=(26244:Int) ^ k->(rf x).2<=(26244:Int) ^ k->0<ss.foldl (λx s=>x*dW (c.map aU) s) x/\(rf (ss.foldl (λx s=>x*dW (c.map aU) s) x)).1<=(26244:Int) ^ (k+ss.length)/\(rf (ss.foldl (λx s=>x*dW (c.map aU) s) x)).2<=(26244:Int) ^ (k+ss.length)
 |[],x,k,_,h1,h2,d=>⟨h1,h2,d⟩
 |s::ss,x,k,e,h1,h2,d=>by
  obtain⟨pos,i,j⟩:=UP h (e s (bh ..));have z:(0:Int)<=26244 ^ k:=pow_nonneg (by decide);have l:=dD h1;have xd:=c_ x;have f:=dD pos;have g:=c_ (dW (c.map aU) s);obtain⟨n,o⟩:=su (a:=(rf x).1*(rf (dW (c.map aU) s)).1) (b:=(rf x).2*(rf (dW (c.map aU) s)).2) (fu l f) (fu xd g);rw[GO] at n o;have q:(rf x).1*(rf (dW (c.map aU) s)).1<=26244 ^ k*26244:=ee h2 i (dO f) z;have r:(rf x).2*(rf (dW (c.map aU) s)).2<=26244 ^ k*26244:=ee d j (dO g) z;have:=CN h ss (x*dW (c.map aU) s) (k+1) (λy p=>e y (aZ _ p)) (nR h1 pos) (by rw[j_];omega) (by rw[j_];omega);rw[ji,gC,show k+(ss.length+1)=k+1+ss.length by omega];exact this
theorem Eo{a:List M}(f:a.length<=6)(h:∀m∈a,Fw m):∀P∈bu (a.map aU),∀n∈aB P,jH (cZ (a.map aU) P n):=λP g n i=>by
 have hok:=kH f h;obtain⟨d,e,_,rfl⟩:=iP hok g;have b:=(fZ hok e).1;have pm:=m8 i;have pl:=b.pl _ pm;have pn:=b.len;have o:N5.length=5:=rfl;obtain⟨k1,k2,k3⟩:=CN h (c9 (aJ (a.map aU) d) n) 1 0 (λs j=>zY _ pm s j) (by decide) (by rw[Ab];decide) (by rw[Ab];decide);have k:0+(c9 (aJ (a.map aU) d) n).length<=4:=by
  simp at pl;omega
 have p:=z3 (c:=26244) (by decide) k;have l:((26244:Nat):Int) ^ 4=474373168346071296:=by decide
 rw[l] at p;have p:(26244:Int) ^ (0+(c9 (aJ (a.map aU) d) n).length)<=474373168346071296:=p;exact⟨k1,by show(rf (gK _ _)).1<=_;unfold gK;omega,by show(rf (gK _ _)).2<=_;unfold gK;omega⟩
theorem UR{mg:au}{n:Nat}{S a:Ct}(h:∀ds A R E,a ds A R E->S ds A R E):∀vs H Q E,ai mg n a vs H Q E->ai mg n S vs H Q E:=λvs H Q E ⟨A,ι,ds,R,RE,h1,h2,b,c,d⟩=>⟨A,ι,ds,R,RE,h1,h2,b,h _ _ _ _ c,d⟩
theorem KZ:∀ds A R E,oz ds A R E->xQ ds A R E:=λds A R E ⟨v,⟨m,e,a,hd,ev⟩,q⟩=>⟨enc m,e,vh a.nm,λA' g=>by
 rw[av (uS a hd),<-ev];exact q A' g⟩
end DP
namespace My
open L2 DP MA
theorem MO(F:aj P w K mg base 9 "check_mobile" kR (ai mg 1 xQ)):aj P w K mg base 9 "check_mobile" kR (ai mg 1 oz):=by
 obtain⟨f,fd,a,h1,h2⟩:=F;exact⟨f,fd,a.imp (UR KZ),h1,h2⟩
end My
namespace DP
open L2 MA
noncomputable def pJ(Ts:List Tb):List D:=match fO Ts with
 |none=>[]
 |some ss=>ss.map bU
noncomputable def sD(Ts:List Tb):List D:=if fO Ts=none then [] else [.str "never"]
noncomputable def lS(m:M)(rs:List (Str×Int))(Ts:List Tb):List (List D):=[(gx m "").map fN,(eY (val rs) m "").map fN,(bg m "" 1).map nB,pJ Ts,sD Ts]
def BP:Ct:=λds A R _=>∃(m:M) (rs:List (Str×Int)) (ms:List M),ds=[enc m,di rs,.tup (ms.map enc)]/\Wf m/\m.deep<=5/\Bk rs m/\1<=ms.length/\ms.length<=6/\(∀m∈ms,Fw m)/\
 ∀(A':Ar) (q:Nat) (ps:List Nat),Gr A A'->A'[q]?=some (.lst (ps.map D.ref))->A.length<=q->(∀p∈ps,A.length<=p/\p≠q)->e_ A' ps (lS m rs (ms.map aU))->R (.ref q) A'
theorem UD(Ts:List Tb):nC Ts []=[]:=by
 unfold nC;rw[List.flatMap_eq_nil_iff];intro P _;unfold fH gz;rfl
def ou(m:M)(x:D):Prop:=(b9 [] (bg m "" 1)=none/\∃ys:List Str,ys.Pairwise strLt/\(∀n,n∈ys↔n∈m.names)/\x=di (ys.zip (lw (ys.map (shr m)))))\/(b9 [] (bg m "" 1)≠none/\x=.str "never")
def ow(Ts:List Tb)(x:D):Prop:=(fO Ts=none/\∃ws:List (Str×Int),ws.Perm (pP Ts)/\(ws.map (·.1)).Pairwise strLt/\x=di ws)\/(fO Ts≠none/\x=.str "never")
def v_(m:M)(rs:List (Str×Int))(x y:D):List D:=[.int (ld (val rs) m),.bl (decide (eY (val rs) m ""=[])),bD (b9 [] (bg m "" 1)),.bl true,x,y]
def B9:Ct:=λds A R _=>∃(m:M) (rs:List (Str×Int)) (ms:List M),ds=[enc m,di rs,.tup (ms.map enc)]/\Wf m/\m.deep<=5/\Bk rs m/\1<=ms.length/\ms.length<=6/\(∀m∈ms,Fw m)/\
 ∀(A':Ar) (q:Nat) (x y:D),Gr A A'->A'[q]?=some (.lst (v_ m rs x y))->A.length<=q->ou m x->ow (ms.map aU) y->R (.ref q) A'
end DP
namespace My
open L2 DP MA
theorem M7(T:TopD K mg "_law_lists" G9 vp){a:Addr}(b:mg "Never"=some (.ref a))(V1:exmOne K (.ref a) (.ref a)=some true)
  (j:aj P w K mg base 10 "leaves" vL (ai mg 1 BR))(x:aj P w K mg base 18 "tips" sd (ai mg 2 yc))(l:aj P w K mg base 10 "shares" nA (ai mg 1 qt))(y:aj P w K mg base 14 "ring" r_ (ai mg 1 t8))(d:aj P w K mg base 14 "settled" vP (ai mg 2 SSet)):aj P w K mg base 20 "_law_lists" vp (ai mg 3 BP):=by
 refine gQ T Ie rfl (by decide) λN RE f cdv B outer s H E i hR V ds A R h hl=>?_;have hu:=i.units;have nd:=Ie.nd;obtain⟨I,hok⟩:∃o:List Str,o=[("Never":Str)]:=⟨_,rfl⟩;have X:∀c C,c∈I->mg c=some (.ref C)->exmOne K (.ref C) (.ref a)=some true:=λc C hc hm=>by
  rw[hok] at hc;rw[bM.mp hc,b] at hm;cases hm;exact V1
 refine⟨_,(aD (dS 3 nd (cG (aa (dL j i V (aa (vr 0) af)) (aa (dL x i V (aa (vr 0) (aa (vr 1) af))) (aa (dL l i V (aa (vr 0) af)) (aa (LS (dL y i V (aa (vr 2) af)) (qL (cG af))) af))))))
  (aD (yJ I rfl rfl rfl b X (λM RE pn E σ V=>(yE fy iC iG gS ie (vr 3) (yC d (i.mono (by omega)) V (aa (vr 2) (aa (cU af) af))))) (λM e=>(aA (cV (gq fy iC iG gS ie (vr 3) (aa (cG (aa a_ af)) af))))))
  (aA (aN (vr 3))))),?_⟩
 have hin:("Never":Str)∈I:=by rw[hok];simp
 obtain⟨m,rs,W,rfl,wm,dm,bm,h1,Y,J,q⟩:=h;have hz:(1000:Nat)<=sizeLine:=by decide
 refine⟨rfl,m,rfl,wm,dm,λA1 L g1 e1 l1=>?_⟩;refine⟨rfl,m,rs,rfl,wm,bm,dm,λA2 O g2 e2 l2=>?_⟩;refine⟨rfl,m,rfl,wm,dm,λA3 S g3 e3 l3=>?_⟩;have key:∀(Q:DK),(∀A' p xs,Gr A3 A'->A'[p]?=some (.lst xs)->A3.length<=p->xs=pJ (W.map aU)->Q (.ref p) A')->CY (jP 1 t8 RE (cT (cF 2) fV)) (uh fV) [some (enc m),some (di rs),some (.tup (W.map enc)),none] A3 Q:=λQ k=>by
  refine⟨rfl,_,N5,rfl,vj J,λms' hH=>?_,λZ=>absurd ⟨W,uU h1 Y J⟩ Z⟩;have e:=(uK hH).symm;subst e;refine⟨kH Y J,λi g u=>?_,λss i g G u h4 l4=>?_⟩
  .exact⟨bG _,k _ _ _ (u.trans Gr.push) aH u.len (by unfold pJ;rw[i])⟩
  .have e:ss.map bU=pJ (W.map aU):=by unfold pJ;rw[i]
   refine Rm h4 (λz=>⟨bG _,k _ _ _ (u.trans Gr.push) aH u.len (by rw[<-e,z])⟩) (λ_=>k _ _ _ u h4 l4 e)
 refine key _ λg G WQ u e4 l4 Mt=>?_;refine⟨show 4<=sizeLine by decide,?_⟩;have e5:(g++[C.lst [D.ref L,D.ref O,D.ref S,D.ref G]])[g.length]?=some (.lst [D.ref L,D.ref O,D.ref S,D.ref G]):=aH;have v:Gr g (g++[C.lst [D.ref L,D.ref O,D.ref S,D.ref G]]):=Gr.push;have Wg:=g1.len;have Wh:=g2.len;have Wi:=g3.len;have Wj:=u.len;have k1:=b_ e1;have k2:=b_ e2;have k3:=b_ e3;have k4:=b_ e4;have fin:∀(F:Ar) (U:Nat),Gr (g++[C.lst [D.ref L,D.ref O,D.ref S,D.ref G]]) F->F[U]?=some (.lst (sD (W.map aU)))->g.length<U->oF g.length (.ref U) F λ_ A'=>R (.ref g.length) A':=λF U t e6 l6=>by
  have gA:Gr A F:=(((g1.trans g2).trans g3).trans u).trans (v.trans t);refine iZ (t.get e5) (by simp;omega) ?_;have st:∀{p:Nat} {xs:List D},F[p]?=some (.lst xs)->p≠g.length->(F.set g.length (.lst ([D.ref L,D.ref O,D.ref S,D.ref G]++[.ref U])))[p]?=some (.lst xs):=λh n=>by rw[dI (Ne.symm n)];exact h
  refine q _ g.length [L,O,S,G,U] (gA.set (by omega)) (dJ (b_ (t.get e5))) (by omega) (λp hp=>?_) ?_
  .simp at hp
   omega
  .refine⟨st (t.get (v.get (u.get (g3.get (g2.get e1))))) (by omega),st (t.get (v.get (u.get (g3.get e2)))) (by omega),st (t.get (v.get (u.get e3))) (by omega),?_,st e6 (by omega),trivial⟩
   rw[<-Mt];exact st (t.get (v.get e4)) (by omega)
 have l5:(g++[C.lst [D.ref L,D.ref O,D.ref S,D.ref G]]).length=g.length+1:=by simp
 refine⟨fh e5,bG _,rfl,_,N5,[],rfl,vj J,nh,⟨λr h=>(by cases h),λr h=>(by cases h),by simp,by simp⟩,λms' hH=>?_,λZ=>absurd ⟨W,uU h1 Y J⟩ Z⟩;have e:=(uK hH).symm;subst e;refine⟨kH Y J,λp h=>(by cases h),λi F t=>?_,λi=>⟨Eo Y J,λ_ F U es t pe pw N8 l6=>?_,λZ=>absurd (λP hP p0 more e=>(by cases e)) Z⟩⟩
 .refine⟨hin,fh (t.get e5),show 1<=sizeLine by decide,fin _ _ (t.trans Gr.push) ?_ (by have:=t.len;omega)⟩
  unfold sD;rw[ay i];exact aH
 .rw[UD] at pe
  have:=pe.eq_nil;subst this;refine fin _ _ t ?_ (by omega);unfold sD;rw[av i];exact N8
theorem Nv(T:TopD K mg "_law_rest" Hj vA){a:Addr}(b:mg "Never"=some (.ref a))(W:exmOne K (.ref a) (.ref a)=some true)
  (n:aj P w K mg base 11 "load" vM (ai mg 2 BQ))(d:aj P w K mg base 19 "is_still" vI (ai mg 2 Cb))(u:aj P w K mg base 11 "bar" nk (ai mg 1 qp))(i:aj P w K mg base 13 "alike" vB (ai mg 2 BD))(j:aj P w K mg base 12 "least" rX (ai mg 1 xW))(g:aj P w K mg base 14 "together" vV (ai mg 1 yb)):aj P w K mg base 20 "_law_rest" vA (ai mg 3 B9):=by
 refine gQ T Ii rfl (by decide) λN RE f cdv B outer s H E k hR p ds A R h hl=>?_;have hu:=k.units;have nd:=Ii.nd;obtain⟨l,hok⟩:∃o:List Str,o=[("Never":Str)]:=⟨_,rfl⟩;have r:∀c C,c∈l->mg c=some (.ref C)->exmOne K (.ref C) (.ref a)=some true:=λc C hc hm=>by
  rw[hok] at hc;rw[bM.mp hc,b] at hm;cases hm;exact W
 refine⟨_,(aD (dS 3 nd (cG (aa (dL n k p (aa (vr 0) (aa (vr 1) af))) (aa (dL d k p (aa (vr 0) (aa (vr 1) af))) (aa (dL u k p (aa (vr 0) af)) (aa (dL i k p (aa (vr 0) (aa (vr 0) af))) af))))))
  (aD (yJ l rfl rfl rfl b r (λM RE pn E σ p=>(yE fy iC iG gS ie (vr 3) (yC j (k.mono (by omega)) p (aa (vr 0) af)))) (λM e=>(aA (cV (gq fy iC iG gS ie (vr 3) (aa a_ af))))))
  (aD (yJ l rfl rfl rfl b r (λM RE pn E σ p=>(yE fy iC iG gS ie (vr 3) (yC g (k.mono (by omega)) p (aa (vr 2) af)))) (λM e=>(aA (cV (gq fy iC iG gS ie (vr 3) (aa a_ af))))))
  (aA (aN (vr 3)))))),?_⟩
 have x:("Never":Str)∈l:=by rw[hok];simp
 obtain⟨m,rs,X,rfl,z,F,bm,h1,Y,O,q⟩:=h;have hz:(1000:Nat)<=sizeLine:=by decide
 refine⟨rfl,_,⟨m,rs,rfl,z,bm,F,rfl⟩,λA1 g1=>?_⟩;refine⟨rfl,m,rs,rfl,z,bm,F,λA2 g2=>?_⟩;refine⟨rfl,m,rfl,z,F,λA3 g3=>?_⟩;refine⟨rfl,_,⟨m,rfl,z,F,rfl⟩,λv g4=>?_⟩;refine⟨show 4<=sizeLine by decide,?_⟩;have gA:=((g1.trans g2).trans g3).trans g4;have e5:=aH (A:=v) (c:=C.lst [.int (ld (val rs) m),.bl (decide (eY (val rs) m ""=[])),bD (b9 [] (bg m "" 1)),.bl true]);have g5:Gr A (v++[C.lst [.int (ld (val rs) m),.bl (decide (eY (val rs) m ""=[])),bD (b9 [] (bg m "" 1)),.bl true]]):=gA.trans Gr.push;have Q:=gA.len;have sec:∀(S:D) (G:Ar),G[v.length]?=some (.lst ([.int (ld (val rs) m),.bl (decide (eY (val rs) m ""=[])),bD (b9 [] (bg m "" 1)),.bl true]++[S]))->Gr A G->ou m S->
   wh (G4 l (λRE=>oK oE (cF 3) (cT (jP 1 yb RE (cT (cF 2) fV)) fV)) (sA (oK oE (cF 3) (cT (dC (D.str "never")) fV)))) (G2 (cF 3)) {nx:=λ_ A'=>R D.aC A',rt:=R} [some (enc m),some (di rs),some (.tup (X.map enc)),some (.ref v.length)] G:=λS G U g7 Z=>by
  refine⟨fh U,rfl,_,N5,rfl,vj O,nh,λms' hH=>?_,λhn=>absurd ⟨X,uU h1 Y O⟩ hn⟩;have e:=(uK hH).symm;subst e;have fin:∀(I:Ar) (y:D),Gr G I->ow (X.map aU) y->oF v.length y I λ_ A'=>R (.ref v.length) A':=λI y t hy=>by
   refine iZ (t.get U) (by simp;omega) ?_;exact q _ v.length S y ((g7.trans t).set Q) (dJ (b_ (t.get U))) Q Z hy
  exact⟨kH Y O,λk=>⟨Eo Y O,λI ws t pe pw=>fin _ _ t (.inl ⟨k,ws,pe,pw,rfl⟩)⟩,λk I t=>⟨x,fh (t.get U),fin _ _ t (.inr ⟨k,rfl⟩)⟩⟩
 refine⟨fh e5,rfl,m,rfl,z,F,λA6 g6=>?_⟩;have J:=g6.get e5;have L:=g5.trans g6;by_cases V:b9 [] (bg m "" 1)=none
 .rw[av V]
  intro ys p1 m1;exact iZ J (by simp;omega) (sec _ _ (dJ (b_ J)) (L.set Q) (.inl ⟨V,ys,p1,m1,rfl⟩))
 .rw[ay V]
  exact⟨x,fh J,iZ J (by simp;omega) (sec _ _ (dJ (b_ J)) (L.set Q) (.inr ⟨V,rfl⟩))⟩
end My
namespace DP
open L2 MA
theorem yi{S:Type}[DecidableEq S]:∀(r pre:List (Str×Str×S)) (p:Str×Str),b9 pre r=some p->(∃a∈pre++r,a.1=p.1)/\∃b∈pre++r,b.1=p.2
 |[],pre,p,h=>by cases h
 |(c,n,s)::r,pre,p,h=>by
  have e:pre++(c,n,s)::r=(pre++[(c,n,s)])++r:=by simp
  unfold b9 at h;split at h
  .rename_i q d
   split at h
   .rw[e]
    exact yi r _ p h
   .cases h
    exact⟨⟨q,kW _ (kX d),rfl⟩,⟨(c,n,s),by simp,rfl⟩⟩
  .rw[e]
   exact yi r _ p h
theorem Th{m:M}{x y:D}(h:ou m x)(h':ou m y):x=y:=by
 rcases h with⟨b,ys,e,f,rfl⟩|⟨b,rfl⟩<;>rcases h' with⟨a,g,c,d,rfl⟩|⟨a,rfl⟩
 .rw[wK (r:=strLt) (λ_ _=>An) e c λn=>(f n).trans (d n).symm]
 .exact absurd b a
 .exact absurd a b
 .rfl
theorem Ti{Ts:List Tb}{x y:D}(h:ow Ts x)(h':ow Ts y):x=y:=by
 rcases h with⟨d,ys,g,i,rfl⟩|⟨d,rfl⟩<;>rcases h' with⟨c,j,e,f,rfl⟩|⟨c,rfl⟩
 .rw[wK (r:=λa b:Str×Int=>strLt a.1 b.1) (λ_ _=>An) (kZ.mp i) (kZ.mp f) λn=>g.mem_iff.trans e.mem_iff.symm]
 .exact absurd d c
 .exact absurd c d
 .rfl
theorem rJ:canLay0 (.str "never")=true:=by decide+kernel
theorem GU{m:M}(a:Wf m){x:D}(h:ou m x):Dk 2 x:=by
 rcases h with⟨_,ys,_,b,rfl⟩|⟨_,rfl⟩
 .exact yO λr c=>a.nm _ ((b _).mp (pY (show(r.1,r.2)∈_ from c)).1)
 .exact ir rJ
theorem VR{ns:List Str}{x:Str}(h:x∈iS ns):x∈ns:=by
 unfold iS at h;split at h
 .rename_i e
  exact((AQ e).2 x).mp h
 .cases h
theorem Vz{a:List M}(d:a.length<=6)(h:∀m∈a,Fw m){r:Str×Int}(b:r∈pP (a.map aU)):Nm r.1:=by
 obtain⟨P,e,b⟩:=gY.mp b;obtain⟨f,c,_,rfl⟩:=iP (kH d h) e;exact nh _ ((fZ (kH d h) c).1.sub _ (VR (pY (show(r.1,r.2)∈_ from b)).1))
theorem GV{a:List M}(b:a.length<=6)(h:∀m∈a,Fw m){x:D}(h':ow (a.map aU) x):Dk 2 x:=by
 rcases h' with⟨_,ws,c,_,rfl⟩|⟨_,rfl⟩
 .exact yO λr d=>Vz b h (c.mem_iff.mp d)
 .exact ir rJ
theorem Ko{m:M}(c:Wf m):Dk 2 (bD (b9 [] (bg m "" 1))):=by
 cases e:b9 [] (bg m "" 1) with
 |none=>exact⟨rfl,rfl,by simp[bD,toQ,PyData.depth]⟩
 |some p=>
  obtain⟨⟨a,d,g⟩,⟨b,f,h⟩⟩:=yi _ _ _ e;rw[gc] at d f;refine(qP (k:=0) (ir ?_) (ir ?_)).up (by decide)
  .rw[<-g];exact(sF m "" 1 Wy.nil c.nm a d).1.ok
  .rw[<-h];exact(sF m "" 1 Wy.nil c.nm b f).1.ok
theorem CD{b:Bool}{k:Nat}:Dk k (.bl b):=⟨rfl,by simp[toQ,canLay0],by simp[toQ,PyData.depth]⟩
theorem S9{m:M}{rs:List (Str×Int)}{a:List M}{x y:D}(b:Wf m)(c:a.length<=6)(h:∀m∈a,Fw m)(e:ou m x)(f:ow (a.map aU) y):∀d∈v_ m rs x y,Dk 2 d:=λd hd=>by
 simp only[v_,aY,gf,gh] at hd;rcases hd with rfl|rfl|rfl|rfl|rfl|rfl
 .exact qQ
 .exact CD
 .exact Ko b
 .exact CD
 .exact GU b e
 .exact GV c h f
theorem E2{m:M}{rs:List (Str×Int)}{f:List M}(i:Wf m)(j:m.deep<=5)(l:f.length<=6)(h:∀m∈f,Fw m):∀xs∈lS m rs (f.map aU),xs.length<=100/\∀d∈xs,Dk 2 d:=λxs n=>by
 have ln:=kO j;simp only[lS,aY,gf,gh] at n;rcases n with rfl|rfl|rfl|rfl|rfl
 .refine⟨by rw[aP,kN];omega,λd hd=>?_⟩
  obtain⟨p,c,rfl⟩:=aX.mp hd;obtain⟨a,b⟩:=zG m "" Wy.nil i.nm p c;exact(qP (k:=0) (ir a.ok) (ir b.ok)).up (by decide)
 .refine⟨?_,λd hd=>?_⟩
  .have lt:=sJ (val rs) m ""
   have t:2 ^ m.deep<=2 ^ 5:=e9 (by decide) j;rw[aP];omega
  .obtain⟨p,c,rfl⟩:=aX.mp hd
   obtain⟨a,b⟩:=wG (val rs) m "" Wy.nil p c;refine(qP (k:=0) (ir a.ok) (ir ?_)).up (by decide);rcases b with b|b<;>rw[b]
   .exact EW
   .exact GQ
 .refine⟨by rw[aP,nD];omega,λd hd=>?_⟩
  obtain⟨p,c,rfl⟩:=aX.mp hd;obtain⟨a,b⟩:=sF m "" 1 Wy.nil i.nm p c;refine(ux (k:=1) λd hd=>?_:Dk 2 (nB p));rcases aY.mp hd with rfl|hd
  .exact ir a.ok
  rcases aY.mp hd with rfl|hd
  .exact ir b.ok
  rw[bM.mp hd];exact qP qQ qQ
 .unfold pJ
  cases e:fO (f.map aU) with
  |none=>exact⟨bG _,λd hd=>by cases hd⟩
  |some ss=>
   obtain⟨s0,g,rfl⟩:=aX.mp (kX e);obtain⟨k1,k2⟩:=GP (kH l h) g;refine⟨by rw[aP];omega,λd hd=>?_⟩;obtain⟨s,o,rfl⟩:=aX.mp hd;obtain⟨T,t1,q,t3⟩:=k1 s o;have r:=dc t1;have sub:=(kH l h).sub T r;refine((ux (k:=0) λd hd=>?_:Dk 1 (bU s))).up (by decide);rcases aY.mp hd with rfl|hd
   .exact qQ
   rcases aY.mp hd with rfl|hd
   .exact ir (nh _ (sub _ q)).ok
   rw[bM.mp hd];exact ir (nh _ (sub _ t3)).ok
 .unfold sD
  split
  .exact⟨bG _,λd hd=>by cases hd⟩
  .exact⟨by simp,λd hd=>by rw[bM.mp hd];exact ir rJ⟩
theorem Fx{xs:List D}{k:Nat}{s:Str}{A:Ar}{R:DK}(h:Dk k (.tup xs))(b:k<=64)(a:canLay0 (.str s)=true)(q:R (.bl true) A):fE true (.tup xs) (.str s) A R:=by
 unfold fE;refine⟨h.1,rfl,h.2.1,a,?_,?_⟩
 .have:=h.2.2
  show min (PyData.depth (toQ (.tup xs))) _<=64;omega
 .have e:PyData.eqv (bO A (.tup xs)) (bO A (.str s))=false:=by
   show PyData.eqv (.tuple (bF xs)) (.str s)=false;simp[PyData.eqv]
  rw[e];exact q
theorem E_{A:Ar}:∀{ps:List Nat} {a:List (List D)} {p:Nat},e_ A ps a->p∈ps->∃xs∈a,A[p]?=some (.lst xs)
 |[],_,_,_,hp=>by cases hp
 |_::_,[],_,h,_=>h.elim
 |q::ps,xs::a,p,h,hp=>by
  rcases aY.mp hp with rfl|hp
  .exact⟨xs,bh ..,h.1⟩
  .obtain⟨ys,h1,h2⟩:=E_ h.2 hp
   exact⟨ys,aZ _ h1,h2⟩
theorem QF{A:Ar}{p q:Nat}{xs:List D}{R:DK}(h:A[p]?=some (.lst xs))(h':A[q]?=some (.lst xs))(b:fk xs=true)(hl:canLayAll0 (bF xs)=true)(hd:depthAll (bF xs)<=60)(k:R (.bl false) A):fE true (.ref p) (.ref q) A R:=by
 have a:∀{r:Nat},A[r]?=some (.lst xs)->bO A (.ref r)=.list (bF xs)/\fj A (.ref r)=true:=λ {r} z=>by
  refine⟨?_,?_⟩
  .unfold bO
   simp only[z]
  .unfold fj
   simp only[z];exact b
 have c:(PyData.list (bF xs)).canLay0=true:=by simpa[canLay0] using hl
 unfold fE;rw[(a h).1,(a h').1];refine⟨(a h).2,(a h').2,c,c,?_,?_⟩
 .simp only[PyData.depth]
  omega
 .rw[Bc _ c]
  exact k
theorem Te{k i:Nat}{v:D}{rest:List D}(h:v::rest=(fP 0 k).drop i):v=.int ((i:Nat):Int)/\rest=(fP 0 k).drop (i+1)/\i<k:=by
 have l:(fP 0 k).length=k:=by simp[fP]
 have hi:i<k:=by
  have:=cS List.length h;rw[List.length_drop,l] at this;simp at this;omega
 rw[lu (by omega),List.cons.injEq] at h;refine⟨?_,h.2,hi⟩;rw[h.1];simp[fP]
theorem Fc{A:Ar}{p:Nat}{xs:List D}(b:A[p]?=some (.lst xs)):∀{ps:List Nat} {a:List (List D)},e_ A ps a->e_ A (ps++[p]) (a++[xs])
 |[],[],_=>⟨b,trivial⟩
 |_::_,_::_,h=>⟨h.1,Fc b h.2⟩
 |[],_::_,h=>h.elim
 |_::_,[],h=>h.elim
theorem Qd{A:Ar}{p:Nat}{ps:List Nat}{b:List (List D)}(h:e_ A (p::ps) b):∃xs a,b=xs::a/\A[p]?=some (.lst xs)/\e_ A ps a:=by
 cases b with
 |nil=>exact h.elim
 |cons xs a=>exact⟨xs,a,rfl,h.1,h.2⟩
end DP
namespace My
open L2 DP MA
theorem M3{fo:Addr}{fd:FuncData}(T:kj K "law" "law" kT fo fd)(Kp:mg "list"=none)(Kq:mg "range"=none)(Ks:mg "tuple"=none)(W:mg "sorted"=none)(Kr:mg "set"=none)(I:aj P w K mg base 3 "_law_draw" kQ (ai mg 3 kr))(u:aj P w K mg base 5 "_law_names" vv (ai mg 3 BZ))(r:aj P w K mg base 10 "_law_mobile" vt (ai mg 4 (BV 6)))(t:aj P w K mg base 9 "_law_leaves" vo (ai mg 2 (qq 8)))(J:aj P w K mg base 8 "_law_hall" vn (ai mg 2 BJ))(k:aj P w K mg base 20 "_law_lists" vp (ai mg 3 BP))(l:aj P w K mg base 20 "_law_rest" vA (ai mg 3 B9))(Jp:aj P w K mg base 14 "ring" r_ (ai mg 1 t8)):gG P w K mg base (bI P w) 26 fo fd zU (ai mg 1 BN):=by
 refine NO T Ip rfl (by decide) λN RE f cdv B outer s H E L hR U ds A R h hl=>?_;have hu:=L.units;have nd:=Ip.nd;refine⟨_,(@aD _ _ _ _ _ _ (dS 1 nd (cG af)) (@aD _ _ _ _ _ _ (dS 2 nd (dL r L U (aa (vr 0) (aa (vr 1) (aa (dL u L U (aa (vr 0) (aa (vr 1) (aa ao af)))) (aa ao af)))))) (@aD _ _ _ _ _ _ (dS 3 nd (Dc W Kr rfl (aa (fW (some 2) (own:=["_law_way","_law_name"]) (frees:=[]) (ix:=[]) rfl (cY (dL t L U (aa (vr 2) (aa a_ af)))) (λc=>(pA rfl (iA (pG 0 (show(["_law_way","_law_name"]:List Str).Nodup by decide+kernel)) (iA (pG 1 (show(["_law_way","_law_name"]:List Str).Nodup by decide+kernel)) pB)))) (λc=>(vr 1))) af))) (@aD _ _ _ _ _ _ (dS 4 nd (jq yq yy Ks mz (aa (fW none (own:=["_law_name"]) (frees:=["_law_script","_law_town"]) (ix:=[0,1]) rfl (cY (vr 3)) (λc=>(pG 0 (show(["_law_name","_law_script","_law_town"]:List Str).Nodup by decide+kernel))) (λc=>(cU (aa (vr 0) (aa (cM ao (dL I L j4 (aa (vr 1) (aa (vr 2) (aa ao af))))) af))))) af))) (@aD _ _ _ _ _ _ (dS 5 nd (dL J L U (aa (vr 0) (aa (vr 1) af)))) (@aD _ _ _ _ _ _ (oO none (own:=["_law_one"]) (frees:=[]) (ix:=[]) (i:=6) nd rfl (by first|exact Or.inl rfl|exact Or.inr rfl) rfl (cY (dL k L U (aa (vr 2) (aa (vr 4) (aa (vr 5) af))))) (λc=>(pG 0 (show(["_law_one"]:List Str).Nodup by decide+kernel))) (λc=>(jq CG C3 Kp boot_list (aa (vr 0) af)))) (@aD _ _ _ _ _ _ (dS 7 nd (dL l L U (aa (vr 2) (aa (vr 4) (aa (vr 5) af))))) (@aD _ _ _ _ _ _ (eN d_ rfl (mU Kq (aa ao af)) (dG 8 nd) (@aA _ _ _ _ (eN d_ rfl (cY (dL k L U (aa (vr 2) (aa (vr 4) (aa (vr 5) af))))) (dG 9 nd) (@aD _ _ _ _ _ _ (cV (gq fy iC iG gS ie (vr 9) (aa jQ af))) (@aA _ _ _ _ (cV (LR fy PySem.F.slot_list_reverse PySem.F.type_list_reverse Qz LH (vr 9)))))))) (@aD _ _ _ _ _ _ (bP (PW.pt (fX (Vx hu (dL k L U (aa (vr 2) (aa (vr 4) (aa (vr 5) af)))) (vr 6)) (gO (nE hu (dL l L U (aa (vr 2) (aa (vr 4) (aa (vr 5) af)))) (vr 7))))) (@aA _ _ _ _ (aN jo)) bT) (@aA _ _ _ _ (aN (ur (mW hu (e_is (dL Jp L U (aa (vr 5) af)) jQ) (DE hu (dX hu (vr 7) ao) a_)) (qL (mW hu (e_is (dX hu (vr 7) ao) jQ) (DE hu (dX hu (vr 7) ao) a_))))))))))))))),?_⟩;obtain⟨ns,rfl,q⟩:=h;have hz:(3000:Nat)<=sizeLine:=by decide
 refine⟨bG _,rfl,ns,_,0,3,rfl,by decide,⟨[],aH,aF _⟩,by decide,λA1 q1 xs b1 t1 l1 e1 xl xn=>?_⟩;have n1:q1≠A.length:=λz=>by
  simp at l1;omega
 refine⟨rfl,5,by decide,ns,_,q1,xs,_,rfl,by decide,n1,e1,(λz=>by rw[z] at xl;cases xl),xn,t1,by decide,λm A2 wm dm d2=>?_⟩;have M:m.deep<=5:=by omega
 have ln:=kO M;refine⟨rfl,_,⟨m,"",rfl,by omega,by decide+kernel,by decide,rfl⟩,λA3 q3 g3 e3=>?_⟩;refine ef e3 ?_;refine iN (f:=λd=>match d with|.tup [_,y]=>y|d=>d) e3 _ _ (λd hd=>?_) (by simp[kN];omega) ?_
 .obtain⟨p,O,rfl⟩:=aX.mp hd
  exact⟨[.str p.1,.str p.2],rfl,λQ hQ=>hQ⟩
 have en:((gx m "").map fN).map (λd=>match d with|.tup [_,y]=>y|d=>d)=m.names.map D.str:=by
  rw[bR,<-m_ m "",bR];rfl
 rw[gc,en];refine IM (ss:=m.names) aH (by have:=strs_map id m.names;simpa using this) (by omega) λys O zk=>?_;have ly:ys.length<=32:=cR (kP ys m.names (O.imp λz=>Ao z) λx U=>(zk x).mp U) ln;have e4:(A3++[C.lst (m.names.map D.str)]++[C.lst (ys.map D.str)])[(A3++[C.lst (m.names.map D.str)]).length]?=some (.lst (ys.map D.str)):=aH;have t4:=((d2.tw.gr g3).gr (Gr.push (T:=[C.lst (m.names.map D.str)]))).gr (Gr.push (T:=[C.lst (ys.map D.str)]));have l3:A.length<A3.length:=by
  obtain⟨_,z,_⟩:=d2.tw.gr g3;exact b_ z
 refine ef e4 ?_;refine qF (λrest zs A'=>∃(rs:List (Str×Int)) (a:List Str),rest=a.map D.str/\zs=rs.map bx/\rs.map (·.1)++a=ys/\(∀p∈rs,1<=p.2/\p.2<=12)/\cz A.length (A3++[C.lst (m.names.map D.str)]++[C.lst (ys.map D.str)]) A'/\Tw A.length (0+6*3+ic 5+rs.length) A') ?_ ?_ ?_ ?_ _ _ _ ⟨[],ys,rfl,rfl,rfl,λ_ h=>(by cases h),cz.refl,t4⟩
 .rintro rest zs A' ⟨rs,a,_,_,_,_,b,_⟩
  exact b _ _ (by simp;omega) e4
 .rintro rest zs A' ⟨rs,a,_,rfl,e,_,_,_⟩
  have:(rs.map (·.1)++a).length=ys.length:=by rw[e]
  simp at this ⊢;omega
 .rintro x rest zs A' ⟨rs,a,e1,rfl,e,hb,b,t'⟩
  cases a with
  |nil=>cases e1
  |cons y a=>
   cases e1;have:(rs.map (·.1)++y::a).length=ys.length:=by rw[e]
   simp at this;have c5:ic 5=155:=rfl;refine⟨[.str y],rfl,λQ hQ=>⟨rfl,ns,_,5,_,rfl,t',by omega,by omega,λi A5 i0 i1 b2 t2=>⟨show 2<=sizeLine by decide,hQ _ _ ⟨rs++[(y,1+i)],a,rfl,by simp[bx],by simpa using e,λp O=>?_,b.trans b2,by rw[dH];exact t2⟩⟩⟩⟩;rcases bV.mp O with h|h
   .exact hb p h
   .rw[bM.mp h]
    exact⟨show 1<=1+i by omega,show 1+i<=12 by omega⟩
 rintro zs A5 ⟨rs,a,e1,rfl,e,hb,b5,t5⟩;cases a with
 |cons y a=>cases e1
 |nil=>
 have e:rs.map (·.1)=ys:=by simpa using e
 have el:rs.length=ys.length:=by rw[<-e];simp
 have c5:ic 5=155:=rfl;refine AE aH ?_;have hW:jN rs:=⟨λp O=>wm.nm _ ((zk _).mp (by rw[<-e];exact eE O)),λp O=>(by have:=hb p O;omega),by rw[e];exact O,by omega⟩;have bm:Bk rs m:=⟨hW,λn hn=>by rw[e];exact(zk n).mpr hn⟩;refine⟨rfl,ns,_,_,rfl,t5.gr Gr.push,by omega,λY A6 h1 h6 Z d6=>?_⟩;have dat:∀xs∈lS m rs (Y.map aU),fk xs=true/\canLayAll0 (bF xs)=true/\depthAll (bF xs)<=60:=λxs U=>by
  obtain⟨s1,s2,s3⟩:=uy (E2 wm M h6 Z xs U).2;exact⟨s1,s2,by omega⟩
 refine⟨rfl,m,rs,Y,rfl,wm,M,bm,h1,h6,Z,λA7 q7 ps g7 e7 l7 hps E9=>?_⟩;refine ef e7 ?_;have Qc:ps.length<=5:=by
  have key:∀{ps:List Nat} {o:List (List D)},e_ A7 ps o->ps.length=o.length:=by
   intro ps;induction ps with
   |nil=>intro o h;cases o with|nil=>rfl|cons _ _=>exact h.elim
   |cons p ps ih=>intro o h;cases o with|nil=>exact h.elim|cons _ _=>simp[ih h.2]
  rw[key E9];simp[lS]
 refine qF (λrest zs A'=>∃(a cps:List Nat) (dn td:List (List D)),rest=a.map D.ref/\zs=cps.map D.ref/\dn++td=lS m rs (Y.map aU)/\e_ A' a td/\e_ A' cps dn/\Gr A7 A'/\cps.length+a.length<=5) ?_ ?_ ?_ ?_ _ _ _ ⟨ps,[],[],_,rfl,rfl,rfl,E9,trivial,Gr.refl,by simpa using Qc⟩
 .rintro rest zs A' ⟨_,_,_,_,_,_,_,_,_,g,_⟩
  exact g.get e7
 .rintro rest zs A' ⟨_,_,_,_,_,rfl,_,_,_,_,h⟩
  rw[aP];omega
 .rintro x rest zs A' ⟨a,cps,dn,td,e1,rfl,e2,la,lb,g,hl⟩
  cases a with
  |nil=>cases e1
  |cons p a=>
   cases e1;obtain⟨xs,td,rfl,O,la⟩:=Qd la;refine⟨[.ref p],rfl,λQ hQ=>Fe O (hQ _ _ ⟨a,cps++[A'.length],dn++[xs],td,rfl,by simp,by simpa using e2,la.gr Gr.push,Fc aH (lb.gr Gr.push),g.trans Gr.push,by simp at hl ⊢;omega⟩)⟩
 rintro zs A8 ⟨a,cps,dn,td,e1,rfl,e2,la,lb,g8,hl⟩;cases a with
 |cons p a=>cases e1
 |nil=>
 cases td with
 |cons _ _=>exact la.elim
 |nil=>
 have e2:dn=lS m rs (Y.map aU):=by simpa using e2
 subst e2;have f9:(A8++[C.lst (cps.map D.ref)])[A8.length]?=some (.lst (cps.map D.ref)):=aH;have PZ:=lb.gr (Gr.push (T:=[C.lst (cps.map D.ref)]));refine⟨rfl,m,rs,Y,rfl,wm,M,bm,h1,h6,Z,λJm v7 x y D6 Mg Ww zh uL=>?_⟩;have MC:=D6.get f9;have PY:=PZ.gr D6;have dr:=S9 (rs:=rs) wm h6 Z zh uL;refine⟨by decide,by decide,?_⟩;refine eL (λrest τ A'=>∃(j:Nat) (x8 x9:Option D),j<=2/\rest=(fP 0 2).drop j/\τ=[some (.fl ns),some (.ref A.length),some (enc m),some (.ref (A3++[C.lst (m.names.map D.str)]).length),some (di rs),some (.tup (Y.map enc)),some (.ref A8.length),some (.ref v7),x8,x9]/\Gr Jm A') ?_ ?_ ?_ _ _ _ ⟨0,none,none,bG _,rfl,rfl,Gr.refl⟩
 .intro _ _ _ _
  trivial
 .rintro v rest τ Bf ⟨j,x8,x9,hj,e,rfl,yZ⟩ Nx hN
  obtain⟨rfl,rfl,hlt⟩:=Te e;refine⟨rfl,m,rs,Y,rfl,wm,M,bm,h1,h6,Z,λBg Gj G oV uA uX Eu V=>?_⟩;refine ef uA ?_;refine eL (λrest τ A'=>∃(a:List Nat) (x9:Option D),rest=a.map D.ref/\(∀p∈a,p∈G)/\τ=[some (.fl ns),some (.ref A.length),some (enc m),some (.ref (A3++[C.lst (m.names.map D.str)]).length),some (di rs),some (.tup (Y.map enc)),some (.ref A8.length),some (.ref v7),some (.int ((j:Nat):Int)),x9]/\A'[Gj]?=some (.lst (G.map D.ref))/\(∀p∈G,∃xs,A'[p]?=some (.lst xs)/\xs.length+a.length<=200)/\Gr Bf A') ?_ ?_ ?_ _ _ _ ⟨G,x9,rfl,λ_ h=>h,rfl,uA,λp O=>?_,oV⟩
  .rintro rest τ A' ⟨_,_,_,_,_,h,_⟩
   exact h
  .rintro v rest τ xy ⟨a,V0,e',hm',rfl,uB,hc,qW⟩ J5 uI
   cases a with
   |nil=>cases e'
   |cons p a=>
   cases e';have hpp:=hm' p (bh ..);obtain⟨xs,hxs,OF⟩:=hc p hpp;obtain⟨pl,pn⟩:=Eu p hpp;simp at OF;refine⟨fh hxs,iZ hxs (by omega) ?_⟩;have yL:(xy.set p (.lst (xs++[D.aC])))[p]?=some (.lst (xs++[D.aC])):=dJ (b_ hxs);refine⟨fh yL,S_ yL ?_⟩;refine uI _ _ ⟨a,_,rfl,λp O=>hm' p (aZ _ O),rfl,?_,λp' oY=>?_,(qW.set pl).set pl⟩
   .rw[dI pn,dI pn]
    exact uB
   .by_cases z:p'=p
    .subst z
     refine⟨_,dJ (b_ yL),?_⟩;simp;omega
    .obtain⟨xs',N7,h2'⟩:=hc p' oY
     simp at h2';exact⟨xs',by rw[dI (Ne.symm z),dI (Ne.symm z)];exact N7,by omega⟩
  .rintro τ xy ⟨a,V0,e',hm',rfl,uB,hc,qW⟩
   exact hN _ _ ⟨j+1,_,_,by omega,rfl,rfl,yZ.trans qW⟩
  .obtain⟨xs,OD,q_⟩:=E_ V O
   have:=(E2 wm M h6 Z xs OD).1;have l5:G.length<=5:=by
    have key:∀{ps:List Nat} {o:List (List D)},e_ Bg ps o->ps.length=o.length:=by
     intro ps;induction ps with
     |nil=>intro o h;cases o with|nil=>rfl|cons _ _=>exact h.elim
     |cons p ps ih=>intro o h;cases o with|nil=>exact h.elim|cons _ _=>simp[ih h.2]
    rw[key V];simp[lS]
   exact⟨xs,q_,by omega⟩
 .rintro τ Bf ⟨j,x8,x9,hj,e,rfl,yZ⟩
  refine⟨rfl,m,rs,Y,rfl,wm,M,bm,h1,h6,Z,λBg Gj G oV uA uX Eu V=>?_⟩;have S:=yZ.trans oV;refine QD uA (S.get MC) V (PY.gr S) dat ?_;refine⟨rfl,m,rs,Y,rfl,wm,M,bm,h1,h6,Z,λxy WJ x' y' qW uB Wx OE OG=>?_⟩;have ex:=Th OE zh;have ey:=Ti OG uL;subst ex ey;have yK:=(S.trans qW).get Mg;obtain⟨s1,s2,s3⟩:=uy dr;refine QF uB yK s1 s2 (by omega) ?_;have second:∀(A':Ar) (Q:DK),A'[v7]?=some (.lst (v_ m rs x' y'))->Q (.bl true) A'->cE qS (cE uT (cE mZ (cF 7) (dC (D.int 2))) (dC D.aC)) (cE rH (cE mZ (cF 7) (dC (D.int 4))) (dC (D.str "never"))) [some (.fl ns),some (.ref A.length),some (enc m),some (.ref (A3++[C.lst (m.names.map D.str)]).length),some (di rs),some (.tup (Y.map enc)),some (.ref A8.length),some (.ref v7),x8,x9] A' Q:=λA' Q ha hQ=>by
   refine fY ha (v:=bD (b9 [] (bg m "" 1))) rfl ?_;rcases zh with⟨hb0,ys',p1',Qk,rfl⟩|⟨hb0,rfl⟩
   .rw[hb0]
    refine fY ha (v:=di (ys'.zip (lw (ys'.map (shr m))))) rfl ?_;exact Fx (GU wm (.inl ⟨hb0,ys',p1',Qk,rfl⟩)) (by decide) rJ hQ
   .cases eb:b9 [] (bg m "" 1) with
    |none=>exact absurd eb hb0
    |some p=>
     refine fY ha (v:=.str "never") rfl ?_;exact hQ
  refine⟨rfl,_,N5,rfl,vj Z,λms' hH=>?_,λhn=>absurd ⟨Y,uU h1 h6 Z⟩ hn⟩;have eh:=(uK hH).symm;subst eh;refine⟨kH h6 Z,λL Jo y9=>?_,λss L Jo WK y9 Wk Wz=>?_⟩
  .have ha:=y9.get yK
   refine fY ha (v:=y') rfl ?_;rcases uL with⟨X,ws,pe,pw,rfl⟩|⟨X,rfl⟩
   .exact Fx (GV h6 Z (.inl ⟨X,ws,pe,pw,rfl⟩)) (by decide) rJ (second _ _ ha (q _))
   .exact absurd L X
  .have ha:=y9.get yK
   refine fY ha (v:=y') rfl ?_;rcases uL with⟨X,ws,pe,pw,rfl⟩|⟨X,rfl⟩
   .rw[X] at L;cases L
   .exact second _ _ ha (q _)
end My
namespace L2
theorem tD{K:Frag}{h:Heap}{mg:au}{x:Str}{st:Stmt}{ps:List Str}{f:Addr}{g:Value}{i an:Option Addr}{e:Array (Option Value)}{kV doc pm d ct:Value}(X:K.In h)(G:h.Ns mainGlobals mg)
  (a:nsIn K mainGlobals x=some (some (.ref f)):=by k_is)(l:K.lookup f=some ⟨g,i,.func (fnOf x x (lI st) (ig st) (aI st) .none kV doc pm an d ct),e⟩:=by k_is)(c:codeIn K d x=true:=by k_is)(k:keepIn K (.ref f)=true:=by k_is)
  (j:∀(kV doc pm:Value) (an:Option Addr) (d ct:Value) (b:List Value),b.length=ps.length->bindArgs (fnOf x x (lI st) (ig st) (aI st) .none kV doc pm an d ct) ⟨b,[]⟩=pure (ps.zip b):=by first|(exact λ_ _ _ _ _ _ b hl=>match b,hl with|[_],_=>rfl)|(exact λ_ _ _ _ _ _ b hl=>match b,hl with|[_,_],_=>rfl)|(exact λ_ _ _ _ _ _ b hl=>match b,hl with|[_,_,_],_=>rfl)|(exact λ_ _ _ _ _ _ b hl=>match b,hl with|[_,_,_,_],_=>rfl)|(exact λ_ _ _ _ _ _ b hl=>match b,hl with|[_,_,_,_,_],_=>rfl)|(exact λ_ _ _ _ _ _ b hl=>match b,hl with|[],_=>rfl)):TopD K mg x st ps:=
 ⟨f,_,yY l c k,(yY l c k).binds j,mg_of X G a⟩
theorem bN{K:Frag}{h:Heap}{mg:au}{x:Str}(X:K.In h)(G:h.Ns mainGlobals mg)(a:nsIn K mainGlobals x=some none:=by k_is):mg x=none:=PySem.W.mg_none_of X G a
theorem eX{K:Frag}{h:Heap}{mg:au}{x:Str}{v:Value}(X:K.In h)(G:h.Ns mainGlobals mg)(a:nsIn K mainGlobals x=some (some v):=by k_is):mg x=some v:=mg_of X G a
end L2
namespace My
open L2 DP MA
theorem walk{l:PySem.W.OpenLaw}{q:Program}{loose:List Str}{i:(au)->Heap->Prop}{c:World->Heap->Prop}{d:DefRec}{K:Params->Frag}(j:l.most=some 63)(b:d.params.defaults=[])(m:∀p,(K p).all (λp=>ni p.2)=true)
  (o:∀(w:World) (h:Heap),c w h->(K w.params).In h)
  (F:∀(w:World) (mg:au) (g:Addr) (h:Heap),(K w.params).In h->h.Ns mainGlobals mg->mg d.name=some (.ref g)->
   ∃fd:FuncData,(∀(s:Shared) (u:Value),BindsTo s fd ⟨[u],[]⟩ [("_law_script",u)])/\∀base:Heap,(K w.params).In base->base.Ns mainGlobals mg->gG l.prog w (K w.params) mg base (bI l.prog w) 26 g fd ["_law_script"] pN):
  PySem.W.WalkO q loose i c l.row.toRowW d [] (λf vs=>PySem.call f vs):=
 L2.VU (n:=63) (k:=26) (x:="_law_script") (CX:=λw=>bI l.prog w) (sp:=λ_=>pN) j (by decide) b ⟨rfl,by decide,by decide⟩ o F (λw H a ns _ r t=>NR (m w.params) r t) λw H s e s' z=>by
  obtain⟨_,_,_,_,_,z⟩:=z
  exact z
theorem PR{P:Program}{w:World}{K:Frag}{h:Heap}{mg:au}{o j:Addr}{k b:Option Addr}{l:Array (Option Value)}{m c d g a i:Value}(X:K.In h)(G:h.Ns mainGlobals mg)(n:mg "law"=some (.ref o))
  (p:nsIn K mainGlobals "law"=some (some (.ref j)))(q:K.lookup j=some ⟨m,k,.func (fnOf "law" "law" (lI kT) (ig kT) (aI kT) .none c d g b a i),l⟩)(r:codeIn K a "law"=true)(k3:keepIn K (.ref j)=true)
  (go:∀(base:Heap) {f:Addr} {fd:FuncData},kj K "law" "law" kT f fd->gG P w K mg base (bI P w) 26 f fd zU pN):
  ∃fd:FuncData,(∀(s:Shared) (v:Value),BindsTo s fd ⟨[v],[]⟩ [("_law_script",v)])/\∀base:Heap,K.In base->base.Ns mainGlobals mg->gG P w K mg base (bI P w) 26 o fd ["_law_script"] pN:=by
 have e:=n.symm.trans (mg_of X G p)
 cases e
 exact⟨fnOf "law" "law" (lI kT) (ig kT) (aI kT) .none c d g b a i,λs v=> .of_eq rfl,λbase _ _=>go base (yY q r k3)⟩
end My
end
open PySem PySem.W PyProof.Rows
set_option maxHeartbeats 0
namespace PySem.W.Fast
def tw14071324341268282375:=()
def tw861502493610598483:=()
def tw18168846237328670995:=()
def tw7597207336037581707:=()
def tw7774113678449685934:=()
def tw10391361485623816885:=()
def tw66635256119213503:=()
def tw15330094304956249610:=()
def tw15795137049058576456:=()
def tw17278321391252981032:=()
def tw16930134210191867210:=()
def tw5725222548895626118:=()
def tw14727194681476072466:=()
def tw8247596551190957481:=()
def tw1405931916929532232:=()
def tw2798354288661578230:=()
def tw6105849179199505303:=()
def tw15617008699501574997:=()
def tw12188032599808994241:=()
def tw12887044766017154078:=()
def tw16721508838639397229:=()
def tw18437792190763421558:=()
def tw13135312941875745310:=()
def tw8498532028676091811:=()
def tw14993981098963755598:=()
def tw3303267245142563540:=()
def tw17653592248189364939:=()
def tw15240619367488684849:=()
def tw18293242582946804979:=()
def tw8186657734068701312:=()
def tw14961746396406840608:=()
def tw977512076041815475:=()
def tw16873086082458093902:=()
def tw12408111787983249662:=()
def tw17351735930882485243:=()
def tw6782663255696616371:=()
def tw4039707410889071942:=()
def tw8159993647027272844:=()
def tw16902440903046159558:=()
def tw1467881925912835984:=()
def tw5872530126848033075:=()
def tw13114645530532618160:=()
def tw17170472223608059050:=()
def tw3721919958574915784:=()
def tw5002640475654186023:=()
def tw256976265262469064:=()
def tw2474200967059427378:=()
def tw8422229294311615681:=()
def tw17318462890700432884:=()
def tw2827255003249426055:=()
def tw547895379624588593:=()
def tw8760152093665844161:=()
def tw384561282630992784:=()
def tw6702445572142316249:=()
def tw15590096980072825465:=()
def tw10341888390210383824:=()
def tw11692469974320434101:=()
def tw772564365185477556:=()
def tw17338325484393633139:=()
def tw6472337539984862722:=()
def tw14172470266813156586:=()
def tw17292613610259460706:=()
def tw12431713363859531893:=()
def tw6128145076113358165:=()
def tw12768989823518198380:=()
def tw3382625519597670723:=()
def tw18367749455379333440:=()
def tw16226643914720891334:=()
def tw18328257000508772394:=()
def tw539538531456391632:=()
def tw2144661209622563809:=()
def tw9461873434466728008:=()
def tw896239598344801917:=()
def tw6056707288978253535:=()
def tw13444670453868202053:=()
def tw8737599933303070863:=()
def tw15402603294489630176:=()
def tw12652081859355081885:=()
def tw9615563845995560447:=()
def tw2399617604181995578:=()
def tw14904681115217272601:=()
def tw6427576097997697322:=()
def tw13674586047789940208:=()
def tw1725486776273817318:=()
def tw10519837036962490867:=()
def tw9387514328989991554:=()
def tw12960429369202013873:=()
def tw1937721966566455358:=()
def tw15438627641174518403:=()
def tw14226173905949225808:=()
def tw4015202173357781934:=()
def tw17518593693041627797:=()
def tw13757698761724263525:=()
def tw8002303944043701648:=()
def tw11738243743197964597:=()
def tw3374319085511977134:=()
def tw6522051377940421278:=()
def tw5217270863462422736:=()
def tw2466311954974566718:=()
def tw11373181179767321252:=()
def tw17339309145561079191:=()
def tw140236481695663071:=()
def tw9947508896943372755:=()
def tw14391293386007564604:=()
def tw3919386906821981792:=()
def tw10295913840692754127:=()
def tw6557801498797044033:=()
def tw15925456577456769635:=()
def tw18073898193381586223:=()
def tw7424060955962978353:=()
def tw10879749546641988924:=()
def tw4096438862311573950:=()
def tw14760874974797668852:=()
def tw3215387988796971590:=()
def tw6278996535519779258:=()
def tw12297992134047619483:=()
def tw12770481643036789091:=()
def tw3671519592330383864:=()
def tw991626836265849350:=()
def tw5000232492035539693:=()
def tw12269216009862288129:=()
def tw9116068151291705539:=()
def tw5344687154915797982:=()
def tw8157277791214410489:=()
def tw8219003486749837733:=()
def tw4699756791338806529:=()
def tw11266997524610791606:=()
def tw16120054744476736488:=()
def tw14564479935002850509:=()
def tw17334828202450815106:=()
end PySem.W.Fast
open L2 DP MA My
open_top hd for PySem.Challenge.rw_hangstill_k11_told_anew
theorem PySem.Challenge.cw_hangstill_k11_told_anew_holds : PySem.Challenge.rw_hangstill_k11_told_anew.Holds := by
 refine hd ?_;k_fill;refine My.walk (l:=PySem.Challenge.rw_hangstill_k11_told_anew) rfl rfl ?K (λw h Y=>PySem.W.kIn_of Y) ?F;case K=>exact λp=>(Eq.refl true:true=true)
 case F=>
  intro w mg fa h KX G hmg;refine' My.PR KX G hmg ?aL ?lL ?cL ?kL ?N1;(case aL=>k_is);(case lL=>k_is);(case cL=>k_is);(case kL=>k_is);case N1=>
   intro base f fd T;have Qm:mg "NoMobile"=some _:=eX KX G;have Ql:mg "NoHall"=some _:=eX KX G;have zH:mg "NoWeights"=some _:=eX KX G;have rF:mg "Never"=some _:=eX KX G;have JP:=MH (P:=PySem.Challenge.rw_hangstill_k11_told_anew.prog) (w:=w) (base:=base) (tD KX G) (bN KX G) (bN KX G) (bN KX G);have JJ:=MG (P:=PySem.Challenge.rw_hangstill_k11_told_anew.prog) (w:=w) (base:=base) (tD KX G) (bN KX G) (bN KX G) (bN KX G) (bN KX G) (eX KX G);have Jy:=ME (tD KX G) (bN KX G) (bN KX G) (bN KX G) (bN KX G) (eX KX G) JJ JP 6;have Bu:=MF (tD KX G) (eX KX G) Jy;have Ju:=MD (tD KX G) Qm (by k_exc) Bu;have tO:=MO Ju;have JO:=M0 (P:=PySem.Challenge.rw_hangstill_k11_told_anew.prog) (w:=w) (base:=base) (tD KX G) (bN KX G) (bN KX G) (bN KX G);have JI:=MZ (P:=PySem.Challenge.rw_hangstill_k11_told_anew.prog) (w:=w) (base:=base) (tD KX G) (bN KX G) (bN KX G) (bN KX G) (bN KX G) (eX KX G);have Bo:=MU (P:=PySem.Challenge.rw_hangstill_k11_told_anew.prog) (w:=w) (base:=base) (tD KX G);have Bx:=Nu (tD KX G) Bo;have xE:=Np (tD KX G) Bx;have Bw:=Nt (tD KX G) Bx;have JW:=NG (tD KX G) xE 6;have tQ:=NF (tD KX G) tO JW;have tN:=MJ (tD KX G) tQ;have JN:=Nk (tD KX G) (bN KX G) tQ;have JY:=NI (P:=PySem.Challenge.rw_hangstill_k11_told_anew.prog) (w:=w) (base:=base) (tD KX G) (bN KX G);have JR:=Nq (tD KX G) (bN KX G) JY;have xC:=MV (tD KX G) JR;have Jr:=MK (P:=PySem.Challenge.rw_hangstill_k11_told_anew.prog) (w:=w) (base:=base) (tD KX G) (bN KX G);have Bl:=MQ (tD KX G) xE Bw;have Jv:=MP (P:=PySem.Challenge.rw_hangstill_k11_told_anew.prog) (w:=w) (base:=base) (tD KX G) (bN KX G) (bN KX G);have BA:=Nz (tD KX G) xC Jv Jr Bl;have Bv:=Ni (tD KX G) rF (by k_exc) BA;have Jt:=MN (tD KX G) (bN KX G) (bN KX G) (bN KX G) (eX KX G) Ql (by k_exc) Bu tN;have xD:=MY (tD KX G) Jt JN;have JL:=Nh (tD KX G) (bN KX G) (bN KX G) (bN KX G) (eX KX G) JI JO;have Jz:=M1 (tD KX G) (bN KX G) (bN KX G) (bN KX G) (bN KX G) (bN KX G) JL;have Bq:=M4 (P:=PySem.Challenge.rw_hangstill_k11_told_anew.prog) (w:=w) (base:=base) (tD KX G) 8;have Br:=M9 (tD KX G) (bN KX G) Bq;have Bj:=ML (tD KX G) zH (by k_exc) Jz;have Bm:=MS (tD KX G) (bN KX G) zH (by k_exc) Bj Bq;have JS:=Nr (tD KX G) Br;have JZ:=NJ (tD KX G) JS 6;have BB:=NK (tD KX G) (bN KX G) tO Bm JZ;have JX:=NH (tD KX G) BB;have JD:=M_ (tD KX G) (bN KX G) tO Bm Br;have JF:=Nb (tD KX G) Bo;have JM:=Nj (tD KX G) (bN KX G) tQ;have Bt:=Nc (tD KX G) (bN KX G) (bN KX G) (bN KX G) JF;have Bs:=M6 (tD KX G) rF (by k_exc) tN JM Bt;have Jq:=MI (tD KX G) (bN KX G) tN Bs;have Bp:=MW (tD KX G) (bN KX G) Bl;have J1:=NL (tD KX G) (bN KX G) (bN KX G) xD Bv xC Bt Bp;have Jw:=MR (tD KX G) (bN KX G) zH (by k_exc) Bj;have JV:=ND (tD KX G) rF (by k_exc) xE Bw;have JU:=NB (tD KX G) (bN KX G) xD Jw Bv xC JV Bp;have By:=Ny (tD KX G) xD BA;have JA:=M5 (P:=PySem.Challenge.rw_hangstill_k11_told_anew.prog) (w:=w) (base:=base) (tD KX G) 8;have JE:=Na (tD KX G) tO JA;have Js:=MM (P:=PySem.Challenge.rw_hangstill_k11_told_anew.prog) (w:=w) (base:=base) (tD KX G) (bN KX G);have JG:=Nd (tD KX G) Js;have oj:=MT (tD KX G) (bN KX G) JG;have tP:=Nn (tD KX G) (bN KX G) oj;have JK:=Ng (tD KX G) (bN KX G) oj tP;have JH:=Nf (tD KX G) (bN KX G) oj tP 6;have JC:=M8 (P:=PySem.Challenge.rw_hangstill_k11_told_anew.prog) (w:=w) (base:=base) (tD KX G) 8;have JQ:=Nl (tD KX G) (bN KX G) (bN KX G) oj tP 3;have Jx:=MX (tD KX G) (bN KX G) (bN KX G) (bN KX G) oj tP JQ;have JB:=M7 (tD KX G) rF (by kts_exm) JE BB tQ By JU;have JT:=Nv (tD KX G) rF (by kts_exm) JD JX tN Jq Bs J1;exact(M3 T (bN KX G) (bN KX G) (bN KX G) (bN KX G) (bN KX G) oj JK JH JC Jx JB JT By).imp λvs H Q E h=>UQ h
