import PyProof.Rows.All
import Wide.All
import OpenK.AllK
import PySem.Challenge.RW_hangstill_k24_whole_spare_and_settled
set_option Elab.async false
set_option linter.all false
set_option maxRecDepth 100000
set_option maxHeartbeats 4000000
noncomputable section
theorem ω{p:Prop}(h:p:=by omega):p:=h
theorem δ{p:Prop}(h:p:=by decide):p:=h
theorem η{p:Prop}(h:p:=by decide+kernel):p:=h
theorem θ{p:Prop}(h:p:=by simp):p:=h
open PySem.Heap (DictOf ExtBut FlyingW SameBut get?_push_ne)
open Option (getD_none getD_some isSome_map map_some)
open PySem.W (Frag Looks callWith_K codeIn excIn exmOne findIn fnOf hideAll hideAll_get instObj keepIn kitOne kitx_dict kitx_list kitx_tuple lookIn methodObj mg_of nsIn of_hideAll plainGet)
open Nat (le_succ lt_trans pow_succ succ_pos zero_add)
open List (Pairwise Perm all_cons any_map find?_append find?_some forIn_cons forIn_nil le_antisymm length_drop length_nil length_range map_nil mem_range nodup_nil not_lt of_mem_zip range range_succ replicate set_set take_length take_succ)
open Array (toArray_toList toList)
open Bool (or_eq_true)
open Int (add_comm dvd_trans emod_nonneg le_of_dvd mul_one one_mul pow_nonneg)
open PySem.F (args_tuple_add_2 called_tuple entry_tuple_add slot_dict_update slot_tuple_add type_list_extend)
open PySem.PyData (canLay0 canLayAll0 depthAll eqvAll strOk)
abbrev nc:= @_root_.PyProof.Rows.callWith_type1
abbrev Af:= @_root_.PyProof.Rows.slot_tuple_getitem
abbrev sD:= @_root_.PySem.F.slot_list_append
abbrev Ak:= @_root_.PySem.F.slot_list_getattribute
abbrev Aq:= @_root_.PySem.F.slot_tuple_getattribute
abbrev sI:= @_root_.PySem.F.type_list_append
abbrev je:= @_root_.PySem.Around.under_plainId
abbrev gf:= @_root_.Array.getElem?_eq_getElem
abbrev pX:= @_root_.Array.getElem?_eq_none
abbrev wJ:= @_root_.Array.getElem?_eq_some_iff
abbrev jY:= @_root_.Bool.eq_iff_iff
abbrev b6:= @_root_.Bool.false_ne_true
abbrev Ag:= @_root_.PySem.Calls.call_function_entry
abbrev Ah:= @_root_.PyProof.Rows.F.plain_set_update_loop
abbrev v_:= @_root_.PySem.F.slot_zip_next
abbrev wc:= @_root_.Int.emod_lt_of_pos
abbrev d9:= @_root_.Int.le_of_lt
abbrev gO:= @_root_.Int.le_refl
abbrev dN:= @_root_.Int.le_trans
abbrev wu:= @_root_.Int.lt_of_lt_of_le
abbrev wA:= @_root_.Int.mul_ediv_cancel_left
abbrev ny:= @_root_.Int.mul_le_mul_of_nonneg_left
abbrev sF:= @_root_.Int.mul_le_mul_of_nonneg_right
abbrev jc:= @_root_.Int.ne_of_gt
abbrev j6:= @_root_.Int.pow_succ
abbrev sG:= @_root_.PyProof.Rows.KeyOrd.kle_of_klt
abbrev nA:= @_root_.PyProof.Rows.KeyOrd.kle_refl
abbrev nB:= @_root_.PyProof.Rows.KeyOrd.kle_trans
abbrev Aj:= @_root_.List.filterMap_cons
abbrev wB:= @_root_.List.filter_cons_of_neg
abbrev wC:= @_root_.List.filter_cons_of_pos
abbrev Al:= @_root_.List.filter_eq_nil_iff
abbrev Am:= @_root_.List.getElem?_cons_succ
abbrev bW:= @_root_.List.getElem?_eq_some_iff
abbrev An:= @_root_.List.getElem?_replicate
abbrev Ao:= @_root_.List.getElem?_zipIdx
abbrev wD:= @_root_.List.getElem?_zip_eq_some
abbrev wF:= @_root_.List.length_pos_of_mem
abbrev j7:= @_root_.List.lt_irrefl
abbrev sH:= @_root_.List.lt_trans
abbrev wG:= @_root_.List.pairwise_iff_getElem
abbrev wH:= @_root_.List.take_of_length_le
abbrev kX:= @_root_.PySem.Obj.data_mapFields
abbrev As:= @_root_.PySem.Obj.isFreed_of_fields
abbrev h_:= @_root_.PySem.boot_len
abbrev l8:= @_root_.PySem.mem_of_lookup
abbrev iI:= @_root_.Rat.div_def
abbrev eW:= @_root_.Rat.intCast_mul
abbrev jd:= @_root_.Rat.inv_pos
abbrev eY:= @_root_.Rat.mul_pos
abbrev nC:= @_root_.Rat.one_mul
abbrev pS:= @_root_.List.all_eq_true
abbrev ia:= @_root_.Bool.and_eq_true
abbrev nD:= @_root_.List.any_cons
abbrev nE:= @_root_.List.any_eq_true
abbrev l_:= @_root_.List.append_nil
abbrev j8:= @_root_.beq_iff_eq
abbrev mh:= @_root_.bne_self_eq_false
abbrev kY:= @_root_.PyProof.Rows.boot_tuple
abbrev nF:= @_root_.PySem.builtinLookup_eq_fast
abbrev mj:= @_root_.PySem.F.called_set
abbrev iJ:= @_root_.PySem.codeAny_builtin
abbrev pT:= @_root_.PySem.codeAny_mono
abbrev cB:= @_root_.congrArg
abbrev fM:= @_root_.decide_eq_false
abbrev Au:= @_root_.decide_eq_false_iff_not
abbrev cW:= @_root_.decide_eq_true
abbrev kZ:= @_root_.decide_eq_true_eq
abbrev mq:= @_root_.List.drop_eq_getElem_cons
abbrev sJ:= @_root_.List.drop_eq_nil_of_le
abbrev pU:= @_root_.Int.ediv_le_self
abbrev pV:= @_root_.LawfulBEq.eq_of_beq
abbrev pW:= @_root_.List.eraseIdx_sublist
abbrev nG:= @_root_.List.ext_getElem?
abbrev jf:= @_root_.Bool.false_eq_true
abbrev mu:= @_root_.List.find?_cons
abbrev nH:= @_root_.List.find?_eq_none
abbrev wI:= @_root_.PySem.fits_of_scanBound
abbrev sL:= @_root_.List.flatMap_append
abbrev sM:= @_root_.List.flatMap_cons
abbrev mw:= @_root_.List.foldl_append
abbrev gA:= @_root_.List.foldl_cons
abbrev bA:= @_root_.PySem.Heap.get?_push_of_some
abbrev cu:= @_root_.PySem.Heap.get?_push_size
abbrev pY:= @_root_.PySem.Heap.get?_update_other
abbrev j9:= @_root_.PySem.Heap.get?_update_self
abbrev mz:= @_root_.Array.getD_eq_getD_getElem?
abbrev gh:= @_root_.List.getD_eq_getElem?_getD
abbrev gB:= @_root_.List.getElem?_append_left
abbrev pZ:= @_root_.List.getElem?_append_right
abbrev aW:= @_root_.List.getElem?_eq_getElem
abbrev nI:= @_root_.List.getElem?_eq_none
abbrev bO:= @_root_.List.getElem?_map
abbrev gP:= @_root_.List.getElem?_set_ne
abbrev fB:= @_root_.List.getElem?_set_self
abbrev p5:= @_root_.Array.getElem?_toList
abbrev mC:= @_root_.List.getElem_mem
abbrev j_:= @_root_.List.getElem_of_mem
abbrev fT:= @_root_.if_false
abbrev ak:= @_root_.if_neg
abbrev ao:= @_root_.if_pos
abbrev jZ:= @_root_.if_true
abbrev pF:= @_root_.Option.isSome_iff_exists
abbrev iG:= @_root_.PySem.W.kia_one
abbrev pH:= @_root_.Nat.le_add_right
abbrev pI:= @_root_.Nat.le_max_left
abbrev pJ:= @_root_.Nat.le_max_right
abbrev jx:= @_root_.Nat.le_of_lt
abbrev aG:= @_root_.Nat.le_refl
abbrev cV:= @_root_.Nat.le_trans
abbrev dc:= @_root_.List.length_append
abbrev gv:= @_root_.List.length_cons
abbrev aS:= @_root_.List.length_map
abbrev rX:= @_root_.List.length_pos_iff
abbrev lW:= @_root_.List.length_take
abbrev gw:= @_root_.Array.length_toList
abbrev v9:= @_root_.List.length_zipIdx
abbrev eT:= @_root_.List.lookup_cons
abbrev fy:= @_root_.Nat.lt_irrefl
abbrev cK:= @_root_.Nat.lt_of_lt_of_le
abbrev aV:= @_root_.PySem.Heap.lt_size
abbrev gb:= @_root_.Nat.lt_succ_of_lt
abbrev kO:= @_root_.Nat.lt_succ_self
abbrev eV:= @_root_.List.map_append
abbrev ng:= @_root_.List.map_congr_left
abbrev ck:= @_root_.List.map_cons
abbrev pK:= @_root_.List.map_eq_nil_iff
abbrev bY:= @_root_.List.map_map
abbrev b_:= @_root_.List.mem_append
abbrev kP:= @_root_.List.mem_append_left
abbrev gx:= @_root_.List.mem_append_right
abbrev bz:= @_root_.List.mem_cons
abbrev bq:= @_root_.List.mem_cons_of_mem
abbrev br:= @_root_.List.mem_cons_self
abbrev iH:= @_root_.List.mem_filter
abbrev rY:= @_root_.List.mem_filterMap
abbrev gy:= @_root_.List.mem_flatMap
abbrev aN:= @_root_.List.mem_map
abbrev c9:= @_root_.List.mem_map_of_mem
abbrev pL:= @_root_.List.mem_of_find?_eq_some
abbrev bP:= @_root_.List.mem_of_getElem?
abbrev rZ:= @_root_.List.mem_of_mem_take
abbrev bH:= @_root_.List.mem_singleton
abbrev pM:= @_root_.List.mem_zipIdx_iff_getElem?
abbrev kQ:= @_root_.Int.mul_assoc
abbrev kR:= @_root_.Int.mul_comm
abbrev d8:= @_root_.Int.mul_le_mul
abbrev pN:= @_root_.Int.mul_nonneg
abbrev fK:= @_root_.Int.mul_pos
abbrev r8:= @_root_.Int.natCast_pow
abbrev jy:= @_root_.Nat.ne_of_gt
abbrev bI:= @_root_.Nat.ne_of_lt
abbrev fL:= @_root_.List.nil_append
abbrev nh:= @_root_.List.nodup_append
abbrev kT:= @_root_.List.nodup_cons
abbrev r_:= @_root_.Bool.not_eq_true'
abbrev gK:= @_root_.List.not_mem_nil
abbrev fS:= @_root_.of_decide_eq_true
abbrev gM:= @_root_.or_false
abbrev g_:= @_root_.List.pairwise_cons
abbrev lX:= @_root_.List.pairwise_map
abbrev lY:= @_root_.PySem.F.plainAttrs_list
abbrev jz:= @_root_.PySem.plainId_quiet
abbrev sd:= @_root_.PySem.F.plain_extend_loop
abbrev we:= @_root_.PySem.F.plain_list_iadd
abbrev dR:= @_root_.Nat.pow_le_pow_right
abbrev sj:= @_root_.List.set_append_left
abbrev kU:= @_root_.PySem.sizeLine_eq
abbrev sq:= @_root_.Array.size_append
abbrev eF:= @_root_.PySem.Heap.size_push
abbrev cA:= @_root_.List.size_toArray
abbrev pO:= @_root_.PySem.Heap.size_update
abbrev wg:= @_root_.PySem.F.slot_list_extend
abbrev kW:= @_root_.Int.toNat_natCast
abbrev wh:= @_root_.PySem.tupleKind_room_in1
abbrev ni:= @_root_.PySem.typeLookup_type
abbrev nj:= @_root_.PySem.wpAny_Call_Name_kw
abbrev pP:= @_root_.PySem.wpAny_attempt
abbrev af:= @_root_.PySem.wpAny_bind
abbrev nk:= @_root_.PySem.wpAny_callSpecial?_slot
abbrev jb:= @_root_.PySem.wpAny_call_entry
abbrev sr:= @_root_.PySem.wpAny_execs_nil
abbrev jA:= @_root_.PySem.wpAny_field
abbrev wj:= @_root_.PySem.wpAny_fieldsOf
abbrev gz:= @_root_.PySem.wpAny_holding
abbrev wk:= @_root_.PySem.wpAny_isInstance
abbrev wm:= @_root_.PySem.wpAny_loadPart'
abbrev jB:= @_root_.PySem.wpAny_mono
abbrev wo:= @_root_.PySem.wpAny_newList
abbrev gc:= @_root_.PySem.wpAny_newObj_type
abbrev Ai:= @_root_.PySem.wpAny_nextOf_list_item
abbrev nu:= @_root_.PySem.wpAny_passesOwn
abbrev aD:= @_root_.PySem.wpAny_pure
abbrev su:= @_root_.PySem.wpAny_pyIter_list
abbrev j5:= @_root_.PySem.wpAny_rule
abbrev sA:= @_root_.PySem.wpAny_seqItems
abbrev sC:= @_root_.PySem.wpAny_setEntries_of
abbrev pQ:= @_root_.PySem.wpAny_setField
abbrev pR:= @_root_.PySem.wpAny_setState_of
abbrev wz:= @_root_.PySem.wpAny_standAt
abbrev nv:= @_root_.PySem.wpAny_truthy_bool
abbrev lZ:= @_root_.PySem.wpAny_typeOf
abbrev sE:= @_root_.PySem.wpAny_updateSeq
abbrev bV:= @_root_.Nat.zero_le
section
open PySem
abbrev aB:=Str->Option Value
abbrev aR:=Value->Shared->Prop
abbrev aT:=List (Addr×Obj)
end
section
open PySem PySem.Spec PyProof.Rows
namespace L2
abbrev Key:=Sum Int Str
noncomputable def kH:Key->Value->Bool
 |.inl k,v=>Value.isInt k v
 |.inr x,v=>Value.isStrOf x v
noncomputable def Np(w:World):Key->Int
 |.inl k=>hashInt k
 |.inr x=>hashStr w x
theorem iZ:∀{k:Key} {v:Value},kH k v=true->(∃i t,k=Sum.inl i/\v=Value.int i t)\/(∃x t,k=Sum.inr x/\v=Value.str x t)
 |.inl i,v,h=>by
  obtain⟨t,e⟩:=Value.isInt_shape (k:=i) (v:=v) h;exact .inl ⟨i,t,rfl,e⟩
 |.inr x,v,h=>by
  obtain⟨t,e⟩:=Value.isStrOf_shape (x:=x) (v:=v) h;exact .inr ⟨x,t,rfl,e⟩
theorem Nq(i:Int)(t:Tok):kH (.inl i) (.int i t)=true:=by simp[kH,Value.isInt]
theorem Nr(x:Str)(t:Tok):kH (.inr x) (.str x t)=true:=by simp[kH,Value.isStrOf]
theorem Nt(a b:Int):decide ((Sum.inl a:Key)=Sum.inl b)=(a==b):=by
 by_cases e:a=b
 .subst e;simp
 .have h:¬(Sum.inl a:Key)=Sum.inl b:=λq=>e (Sum.inl.inj q)
  rw[fM h];exact(beq_eq_false_iff_ne.mpr e).symm
theorem Nz(a b:Str):decide ((Sum.inr a:Key)=Sum.inr b)=decide (a=b):=by
 by_cases e:a=b
 .subst e;simp
 .have h:¬(Sum.inr a:Key)=Sum.inr b:=λq=>e (Sum.inr.inj q)
  rw[fM h,fM e]
theorem Nu(a:Int)(b:Str):decide ((Sum.inl a:Key)=Sum.inr b)=false:=fM (λq=>nomatch q)
theorem Ny(a:Str)(b:Int):decide ((Sum.inr a:Key)=Sum.inl b)=false:=fM (λq=>nomatch q)
noncomputable def c5(prog:Program)(w:World):PySem.KeyKind prog w Key where
 is:=kH
 hash:=Np w
 inj:=λv a b ha hb=>by
  rcases iZ ha with⟨i,t,rfl,rfl⟩|⟨x,t,rfl,rfl⟩
  .rcases iZ hb with⟨j,u,rfl,e⟩|⟨y,u,rfl,e⟩
   .injection e with e1 _;rw[e1]
   .exact nomatch e
  .rcases iZ hb with⟨j,u,rfl,e⟩|⟨y,u,rfl,e⟩
   .exact nomatch e
   .injection e with e1 _;rw[e1]
 byValue:=λk v h=>by
  rcases iZ h with⟨i,t,rfl,rfl⟩|⟨x,t,rfl,rfl⟩<;>rfl
 pyHash:=λhv h=>by
  rcases iZ hv with⟨i,t,rfl,rfl⟩|⟨x,t,rfl,rfl⟩
  .exact wpAny_pyHash_int h
  .exact wpAny_pyHash_str h
 eqBool:=λhu hv h=>by
  rcases iZ hu with⟨i,t,rfl,rfl⟩|⟨x,t,rfl,rfl⟩
  .rcases iZ hv with⟨j,u,rfl,rfl⟩|⟨y,u,rfl,rfl⟩
   .rw[Nt] at h;exact wpAny_eqBool_int h
   .rw[Nu] at h;exact SeqAt.EqAt.int_str i t y u _ _ _ _ h
  .rcases iZ hv with⟨j,u,rfl,rfl⟩|⟨y,u,rfl,rfl⟩
   .rw[Ny] at h;exact SeqAt.EqAt.str_int x t j u _ _ _ _ h
   .rw[Nz] at h;exact wpAny_eqBool_str h
 «strs»:=λk x t v h=>by
  rcases iZ h with⟨i,u,rfl,e⟩|⟨y,u,rfl,e⟩
  .exact nomatch e
  .injection e with e1 _
   subst e1
   cases v<;>rfl
theorem Ol(prog:Program)(w:World)(i:Int)(t:Tok):(c5 prog w).is (.inl i) (.int i t)=true:=Nq i t
theorem Om(prog:Program)(w:World)(x:Str)(t:Tok):(c5 prog w).is (.inr x) (.str x t)=true:=Nr x t
inductive V where
 |aE|bl (b:Bool)|int (i:Int)|str (x:Str)|jn (b:Array UInt8)|om (b:UInt64)|ref (a:Addr)|ty (n:String)
 deriving DecidableEq
noncomputable def RelV:V->Value->Prop
 |.aE,u=>u=Value.none
 |.bl b,u=>u=Value.bool b
 |.int i,u=>∃t,u=Value.int i t
 |.str x,u=>∃t,u=Value.str x t
 |.jn b,u=>∃t,u=Value.bytes b t
 |.om b,u=>∃t,u=Value.float b t
 |.ref a,u=>u=Value.ref a
 |.ty n,u=>u=Value.type n
abbrev Vals:List V->List Value->Prop:=Paired RelV
theorem Vals.length{xs:List V}{a:List Value}(r:Vals xs a):xs.length=a.length:=Paired.length r
theorem Vals.get:∀{xs:List V} {a:List Value} {i:Nat} {x:V},Vals xs a->xs[i]?=some x->∃u,a[i]?=some u/\RelV x u
 |_,_,_,_,.nil,e=>by simp at e
 |_,_,0,_,.cons r _,e=>by simp at e;subst e;exact⟨_,rfl,r⟩
 |_,_,i+1,x,.cons _ t,e=>by
  obtain⟨u,h1,h2⟩:=Vals.get (i:=i) (x:=x) t (by simpa using e);exact⟨u,by simpa using h1,h2⟩
theorem Vals.append:∀{xs ys:List V} {a ws:List Value},Vals xs a->Vals ys ws->Vals (xs++ys) (a++ws)
 |_,_,_,_,.nil,s=>s
 |_,_,_,_,.cons r t,s=>.cons r (Vals.append t s)
theorem Vals.take:∀{xs:List V} {a:List Value} (n:Nat),Vals xs a->Vals (xs.take n) (a.take n)
 |_,_,0,_=>.nil
 |_,_,_+1,.nil=>.nil
 |_,_,n+1,.cons r t=>.cons r (Vals.take n t)
theorem Vals.drop:∀{xs:List V} {a:List Value} (n:Nat),Vals xs a->Vals (xs.drop n) (a.drop n)
 |_,_,0,r=>r
 |_,_,_+1,.nil=>.nil
 |_,_,n+1,.cons _ t=>Vals.drop n t
noncomputable def jk:Option V->Option Value->Prop
 |some v,some u=>RelV v u
 |none,none=>True
 |_,_=>False
noncomputable def KV{κ:Type}:List (κ×V)->List (κ×Value)->Prop:=Paired λ(p:κ×V) (q:κ×Value)=>p.1=q.1/\RelV p.2 q.2
noncomputable def kV:Key->V
 |.inl i=>.int i
 |.inr x=>.str x
def k_(h:Heap)(a:Addr)(items:Array Value):Prop:=∃n,h.get? a=some {cls:=.type "tuple",data:=.seq items n}
theorem k_.is{h:Heap}{a:Addr}{items:Array Value}(x:k_ h a items):IsTup h a items:=let ⟨n,e⟩:=x;⟨_,e,rfl,n,rfl⟩
theorem k_.new(h:Heap)(items:Array Value):k_ (h.push {cls:=.type "tuple",data:=.seq items}) h.objs.size items:=⟨0,cu _ rfl⟩
inductive HO where
 |lst (xs:List V)
 |tup (xs:List V)
 |dK (kvs:List (Key×V))|dT (kvs:List (List Key×V))
 |set (S:Int->Bool) (n:Nat)
 |ins (C dx:Addr) (fs:List (Str×V))
 |own (x:Addr)
 |xd (fs:List (Str×V))
 |met (f x:Addr)
 |eN (lo hi:Int)
 |bM (o:Obj) (u:HO)
 |iF (ps:Array Value)
 |ext (φ:Heap->Prop)
abbrev Hp:=Addr->Option HO
noncomputable def upd(H:Hp)(a:Addr)(o:HO):Hp:=λb=>if b=a then some o else H b
theorem eE{H:Hp}{a:Addr}{o:HO}:upd H a o a=some o:=by unfold upd;rw[ao rfl]
theorem a_{H:Hp}{a b:Addr}{o:HO}(h:b≠a):upd H a o b=H b:=by unfold upd;rw[ak h]
theorem Ox{H:Hp}{a b:Addr}{o u:HO}(h:H a=some o)(h':H b=some u)(d:o≠u):a≠b:=by
 intro e;subst e;rw[h] at h';exact d (Option.some.inj h')
theorem c_{H:Hp}{a b:Addr}{o:HO}(h:H a=some o)(h':H b=none):a≠b:=by
 intro e;subst e;rw[h] at h';cases h'
section
variable(P:Program)(w:World)
noncomputable def bZ(H:Hp)(h:Heap)(a:Addr):HO->Prop
 | .lst xs=>xs.length<=sizeLine/\∃(its:List Value) (n:Nat),Vals xs its/\h.get? a=some {cls:= .type "list",data:= .seq its.toArray n}
 | .tup xs=>xs.length<=sizeLine/\∃its:List Value,Vals xs its/\k_ h a its.toArray
 | .dK kvs=>kvs.length<=sizeLine/\(a==sysModules)=false/\∃vs,KV kvs vs/\h.DictOf (c5 P w) a vs
 | .dT kvs=>kvs.length<=sizeLine/\(a==sysModules)=false/\∃xs:List (List Key×Addr×Value),
  Paired (λ(p:List Key×V) (q:List Key×Addr×Value)=>p.1=q.1/\H q.2.1=some (.tup (p.1.map kV))/\RelV p.2 q.2.2) kvs xs/\
  ∃o es ep,h.get? a=some o/\o.ExactDict/\o.data= .dict es ep/\es.toList=xs.map (entryOfKey (tupleKind (c5 P w)))/\(xs.map (·.1)).Nodup
 | .set S n=>h.SetOf (intKind P w) a S n
 | .ins C dx fs=>H dx=some (.own a)/\fs.length<=1000/\dx≠a/\h.get? a=some (instObj C dx)/\
  ∃mA,h.Ns1 dx mA/\(∀f,jk (fs.lookup f) (mA f))/\PySem.Within mA (fs.map (·.1))
 | .own _=>∃o,h.get? a=some o
 | .xd fs=>∃mA,h.Ns1 a mA/\∀f,jk (fs.lookup f) (mA f)
 | .eN lo hi=>∃t u v,h.get? a=some {cls:= .type "range",data:= .fields #[.int lo t,.int hi u,.int 1 v]}
 | .bM o u=>h.get? a=some o/\bZ H h a u
 | .iF ps=>h.get? a=some {cls:= .none,data:= .fields ps}
 | .met f x=>h.get? a=some (methodObj (.ref f) (.ref x))
 | .ext φ=>φ h/\(∃o,h.get? a=some o)/\∀h1 h2:Heap,φ h1->(∀o,h1.get? a=some o->h2.get? a=some o)->φ h2
def cE(H:Hp)(h:Heap):Prop:=∀a o,H a=some o->bZ P w H h a o
end
section
variable{P:Program}{w:World}{H H':Hp}{h h':Heap}{a:Addr}{o:HO}
theorem bZ.lt(x:bZ P w H h a o):a<h.objs.size:=by
 cases o with
 |lst xs=>obtain⟨_,_,_,_,e⟩:=x;exact aV e
 |tup xs=>obtain⟨_,_,_,p⟩:=x;exact p.is.lt
 |dK kvs=>obtain⟨_,_,_,_,o,_,_,e,_⟩:=x;exact aV e
 |dT kvs=>obtain⟨_,_,_,_,o,_,_,e,_⟩:=x;exact aV e
 |set S n=>obtain⟨o,_,_,_,e,_⟩:=x;exact aV e
 |ins C dx fs=>obtain⟨_,_,_,e,_⟩:=x;exact aV e
 |own y=>obtain⟨_,e⟩:=x;exact aV e
 |xd fs=>obtain⟨_,⟨_,_,_,e,_⟩,_⟩:=x;exact aV e
 |eN lo hi=>obtain⟨_,_,_,e⟩:=x;exact aV e
 |bM b u=>obtain⟨e,_⟩:=x;exact aV e
 |iF ps=>exact aV (show h.get? a=some _ from x)
 |met f y=>exact aV (show h.get? a=some _ from x)
 |ext c=>obtain⟨_,⟨_,e⟩,_⟩:=x;exact aV e
theorem Paired.jO{α β:Type}{F G:α->β->Prop}:∀{c:List α} {d:List β},Paired F c d->(∀a b,F a b->G a b)->Paired G c d
 |_,_,.nil,_=>.nil
 |_,_,.cons r t,f=>.cons (f _ _ r) (Paired.jO t f)
theorem bZ.stay(x:bZ P w H h a o)(k:∀b u,(b=a\/H b=some (.own a))->h.get? b=some u->h'.get? b=some u)
  (l:∀b,H b=some (.own a)->H' b=some (.own a))(m:∀b xs,H b=some (.tup xs)->H' b=some (.tup xs)):bZ P w H' h' a o:=by
 induction o with
 |lst xs=>obtain⟨z,its,n,r,e⟩:=x;exact⟨z,its,n,r,k _ _ (.inl rfl) e⟩
 |tup xs=>obtain⟨z,its,r,n,e⟩:=x;exact⟨z,its,r,n,k _ _ (.inl rfl) e⟩
 |dK kvs=>obtain⟨z,y,vs,r,g,es,ep,e,c⟩:=x;exact⟨z,y,vs,r,g,es,ep,k _ _ (.inl rfl) e,c⟩
 |dT kvs=>
  obtain⟨z,y,xs,r,g,es,ep,e,c⟩:=x;exact⟨z,y,xs,Paired.jO r λp q z=>⟨z.1,m _ _ z.2.1,z.2.2⟩,g,es,ep,k _ _ (.inl rfl) e,c⟩
 |set S n=>obtain⟨g,es,ep,t,e,c⟩:=x;exact⟨g,es,ep,t,k _ _ (.inl rfl) e,c⟩
 |ins C dx fs=>
  obtain⟨d,z,ne,e,i,⟨j,es,ep,s,c⟩,r⟩:=x;exact⟨l _ d,z,ne,k _ _ (.inl rfl) e,i,⟨j,es,ep,k _ _ (.inr d) s,c⟩,r⟩
 |own y=>obtain⟨g,e⟩:=x;exact⟨g,k _ _ (.inl rfl) e⟩
 |xd fs=>obtain⟨i,⟨j,es,ep,e,c⟩,r⟩:=x;exact⟨i,⟨j,es,ep,k _ _ (.inl rfl) e,c⟩,r⟩
 |eN lo hi=>obtain⟨t,u,v,e⟩:=x;exact⟨t,u,v,k _ _ (.inl rfl) e⟩
 |bM g u A=>obtain⟨e,q⟩:=x;exact⟨k _ _ (.inl rfl) e,A q⟩
 |iF ps=>
  have e:h.get? a=some {cls:=.none,data:=.fields ps}:=x;show h'.get? a=some {cls:=.none,data:=.fields ps};exact k a _ (.inl rfl) e
 |met f y=>
  have e:h.get? a=some (methodObj (.ref f) (.ref y)):=x;show h'.get? a=some (methodObj (.ref f) (.ref y));exact k a _ (.inl rfl) e
 |ext B=>obtain⟨p,⟨o,e⟩,st⟩:=x;exact⟨st _ _ p λo q=>k _ _ (.inl rfl) q,⟨o,k _ _ (.inl rfl) e⟩,st⟩
theorem cE.lt(x:cE P w H h)(e:H a=some o):a<h.objs.size:=(x a o e).lt
theorem cE.fresh(x:cE P w H h)(e:h.objs.size<=a):H a=none:=by
 cases q:H a with
 |none=>rfl
 |some u=>exact absurd (cK (x.lt q) e) (fy _)
theorem cE.kept(x:cE P w H h)(k:∀b u,h.get? b=some u->h'.get? b=some u):cE P w H h':=λa o e=>
 (x a o e).stay (λb u _ q=>k b u q) (λ_ q=>q) λ_ _ q=>q
theorem cE.laid(x:cE P w H h)(k:∀b u,h.get? b=some u->h'.get? b=some u)(g:h.objs.size<=a)(new:bZ P w (upd H a o) h' a o):cE P w (upd H a o) h':=λb u e=>by
 have d:=x.fresh g;by_cases f:b=a
 .subst f;rw[eE] at e;cases e;exact new
 .rw[a_ f] at e
  exact(x b u e).stay (λc v _ q=>k c v q) (λc q=>by rw[a_ (c_ q d)];exact q) λc xs q=>by rw[a_ (c_ q d)];exact q
end
def Rd(H:Hp)(a:Addr)(u:HO):Prop:=H a=some u\/∃o,H a=some (.bM o u)
theorem Rd.ok{P:Program}{w:World}{H:Hp}{h:Heap}{a:Addr}{u:HO}(r:Rd H a u)(x:cE P w H h):bZ P w H h a u:=by
 rcases r with r|⟨o,r⟩
 .exact x a u r
 .obtain⟨_,q⟩:=x a _ r
  exact q
noncomputable def p_:Option HO->Prop
 |some (.lst _)=>True
 |some (.dK _)=>True
 |some (.dT _)=>True
 |some (.set _ _)=>True
 |some (.ins _ _ _)=>True
 |some (.ext _)=>True
 |_=>False
section
variable{P:Program}{w:World}{H:Hp}{h h':Heap}{x e:Addr}{o':HO}
theorem cE.write(ok:cE P w H h)(g:p_ (H x))(l:e=x\/H e=some (.own x))(k:∀b u,b≠e->h.get? b=some u->h'.get? b=some u)(j:∃u,h'.get? e=some u)
  (new:bZ P w (upd H x o') h' x o'):cE P w (upd H x o') h':=λb u q=>by
 have d:∀c y,H c=some (.own y)->c≠x:=λc y r z=>by subst z;rw[r] at g;exact g
 have f:∀c xs,H c=some (.tup xs)->c≠x:=λc xs r z=>by subst z;rw[r] at g;exact g
 by_cases i:b=x
 .subst i;rw[eE] at q;cases q;exact new
 .rw[a_ i] at q
  by_cases a:b=e
  .have m:H b=some (.own x):=by
    rcases l with z|z
    .exact absurd (a.trans z) i
    .rw[a];exact z
   rw[q] at m;cases m;obtain⟨v,n⟩:=j;exact⟨v,by rw[a];exact n⟩
  .refine(ok b u q).stay (λc v hc r=>k c v ?_ r) (λc r=>by rw[a_ (d c b r)];exact r) λc xs r=>by rw[a_ (f c xs r)];exact r
   rcases hc with rfl|hc
   .exact a
   .rintro rfl
    rcases l with z|z
    .exact d c b hc z
    .rw[hc] at z;cases z;exact i rfl
end
structure Un(fs ex:List Addr)(H H':Hp)(h h':Heap):Prop where
 keep:∀b o,h.get? b=some o->H b=none->b∉fs->b∉ex->h'.get? b=some o
 slot:∀b o,h.get? b=some o->H b=none->b∈fs->b∉ex->∃sl,h'.get? b=some {o with slots:=sl}
 free:∀b o,h.get? b=some o->H b=none->b∉ex->H' b=none
 there:∀b o,h.get? b=some o->b∉ex->∃o',h'.get? b=some o'
 tups:∀b xs,H b=some (.tup xs)->H' b=some (.tup xs)
 fG:∀b o u,H b=some (.bM o u)->H' b=some (.bM o u)
 f_:∀b ps,H b=some (.iF ps)->∃more,H' b=some (.iF (ps++more))
section
variable{fs fs' ex ex':List Addr}{H H1 H2:Hp}{h h1 h2 h':Heap}{a x e:Addr}{o:HO}
theorem Un.any(u:Un fs ex H H1 h h1){b:Addr}{a:Obj}(q:h.get? b=some a)(n:H b=none)(hx:b∉ex):∃d,h1.get? b=some {a with slots:=d}:=by
 by_cases c:b∈fs
 .exact u.slot b a q n c hx
 .exact⟨a.slots,u.keep b a q n c hx⟩
theorem Un.kept(k:∀b u,h.get? b=some u->h'.get? b=some u):Un fs ex H H h h':=
 ⟨λb a q _ _ _=>k b a q,λb a q _ _ _=>⟨a.slots,k b a q⟩,λ_ _ _ n _=>n,λb a q _=>⟨a,k b a q⟩,λ_ _ q=>q,λ_ _ _ q=>q,λ_ ps q=>⟨#[],by rw[q];simp⟩⟩
theorem Un.refl:Un fs ex H H h h:=Un.kept λ_ _ q=>q
theorem Un.laid(k:∀b u,h.get? b=some u->h'.get? b=some u)(d:h.objs.size<=a)(c:H a=none):Un fs ex H (upd H a o) h h' where
 keep:=λb u q _ _ _=>k b u q
 slot:=λb u q _ _ _=>⟨u.slots,k b u q⟩
 free:=λb u q n _=>by rw[a_ (bI (cK (aV q) d))];exact n
 there:=λb u q _=>⟨u,k b u q⟩
 tups:=λb xs q=>by rw[a_ (c_ q c)];exact q
 fG:=λb u xs q=>by rw[a_ (c_ q c)];exact q
 f_:=λb ps q=>⟨#[],by rw[a_ (c_ q c),q];simp⟩
theorem Un.write(c:p_ (H x))(i:e=x\/H e=some (.own x))(k:∀b u,b≠e->h.get? b=some u->h'.get? b=some u)(d:∃u,h'.get? e=some u):Un fs ex H (upd H x o) h h':=by
 have hx:∀b,H b=none->b≠x:=λb n z=>by subst z;rw[n] at c;exact c
 have g:∀b,H b=none->b≠e:=λb n z=>by
  subst z;rcases i with r|r
  .exact hx b n r
  .rw[n] at r;cases r
 have f:∀b u,H b=some u->¬p_ (some u)->b≠x:=λb u q nm z=>by subst z;rw[q] at c;exact nm c
 refine⟨λb u q n _ _=>k b u (g b n) q,λb u q n _ _=>⟨u.slots,k b u (g b n) q⟩,λb u q n _=>by rw[a_ (hx b n)];exact n,λb u q _=>?_,
  λb xs q=>by rw[a_ (f b _ q λz=>z)];exact q,λb u xs q=>by rw[a_ (f b _ q λz=>z)];exact q,λb ps q=>⟨#[],by rw[a_ (f b _ q λz=>z),q];simp⟩⟩
 by_cases a:b=e
 .subst a;exact d
 .exact⟨u,k b u a q⟩
end
noncomputable def vP(h:Heap)(H:Hp):List Addr:=(range h.objs.size).filter λa=>(H a).isSome
noncomputable def kE(h:Heap)(H:Hp):Heap:=hideAll h (vP h H)
theorem MH(h:Heap)(H:Hp):(kE h H).objs.size=h.objs.size:=PySem.W.hideAll_size _ _
theorem MG{h:Heap}{H:Hp}{b:Addr}{o:Obj}(e:h.get? b=some o)(n:H b=none):(kE h H).get? b=some o:=
 hideAll_get _ e λa=>by
  have q:(H b).isSome=true:=(iH.mp a).2;rw[n] at q;simp at q
theorem OO{h:Heap}{H:Hp}{b:Addr}{o:Obj}(e:(kE h H).get? b=some o):h.get? b=some o/\H b=none:=by
 have a:h.get? b=some o:=of_hideAll (vP h H) e;refine⟨a,?_⟩;cases q:H b with
 |none=>rfl
 |some x=>
  have c:b∈vP h H:=iH.mpr ⟨mem_range.mpr (aV a),by simp[q]⟩;have z:(kE h H).get? b=none:=PySem.W.hideAll_none (vP h H) c;rw[z] at e;cases e
structure Mod(K:Frag)(mg:aB)(base:Heap):Prop where
 qN:K.In base
 glob:base.Ns mainGlobals mg
 blt:∃mb,base.Ns builtinsNs mb/\∀x:Str,x≠"__name__"->mb x=bootBuiltins x
 nolimit:base.NoLimit
structure Cx where
 prog:Program
 w:World
 K:Frag
 mg:aB
 base:Heap
 A:Around
 N:List Str
 s₀:Shared
 H₀:Hp
 env:Env
 outer:List Env
 stack:List Env
 ex:List Addr
 fn:Str->Bool
 calm:Bool
 pn:aT
 xe:aR
noncomputable def frs(l:List Env):List Addr:=l.filterMap (·.frame)
abbrev Cx.fs(X:Cx):List Addr:=frs X.outer
def nQ(sc:Scope)(x:Str):Prop:=sc.names.lookup x=some .local\/sc.names.lookup x=some .cell\/sc.names.lookup x=some .free
def Loc(sc:Scope)(x:Str):Prop:=sc.names.lookup x=some .local\/sc.names.lookup x=some .cell
def Look(env:Env)(h:Heap)(m:aB)(x:Str)(u:Value):Prop:=
 (env.kindOf x=some .local/\m x=some u)\/((env.kindOf x=some .cell\/env.kindOf x=some .free)/\∃c,env.cells.lookup x=some c/\h.IsCell c (some u))
structure Cx.Ok(X:Cx):Prop where
 mod:Mod X.K X.mg X.base
 kind:X.env.scope.kind= .function
 glob:X.env.globals=mainGlobals
 blt:X.env.builtins=builtinsNs
 above:X.s₀.heap.objs.size<=X.env.locals
 inj:∀x y c,X.env.cells.lookup x=some c->X.env.cells.lookup y=some c->x=y
 has:∀x,(X.env.kindOf x=some .cell\/X.env.kindOf x=some .free)->∃c,X.env.cells.lookup x=some c
 nV:∀x c,X.fn x=true->X.env.cells.lookup x=some c->X.s₀.heap.objs.size<=c
 hd:X.calm=true->X.A.handled=none
 frames:X.A.frames=some X.stack
 stk:X.stack=X.outer\/(X.stack=X.env::X.outer/\X.env.frame=some X.env.locals)
 yy:∀b∈X.ex,b≠X.env.locals/\∀x c,X.env.cells.lookup x=some c->c≠b
 bs:∀b o,X.base.get? b=some o->X.s₀.heap.get? b=some o/\X.H₀ b=none
 kj:X.base.objs.size<=X.s₀.heap.objs.size
 oU:∀b o,X.base.get? b=some o->b∉X.ex
 qC:∀b∈X.ex,b∉X.fs
 iY:X.s₀.heap.FunFrames X.base X.outer
 lD:∀b∈X.fs,X.H₀ b=none
structure Inv(X:Cx)(pins:aT)(σ:List (Option V))(H:Hp)(s:Shared):Prop where
 ok:X.Ok
 os:s.os=X.s₀.os
 bare:AllBare s.gens
 base:Un X.fs X.ex X.H₀ H X.s₀.heap s.heap
 loc:∃m,s.heap.Ns X.env.locals m/\∀(i:Nat) (x:Str) (v:V),X.N[i]? =some x->σ[i]? =some (some v)->nQ X.env.scope x->∃u,RelV v u/\Look X.env s.heap m x u
 cell:∀x c,X.env.cells.lookup x=some c->∃v,s.heap.IsCell c v
 free:H X.env.locals=none
 gX:∀x c,X.env.cells.lookup x=some c->H c=none
 pin:∀p∈X.pn++pins,s.heap.get? p.1=some p.2/\H p.1=none/\p.1≠X.env.locals/\p.1∉X.fs/\∀v,p.2.data≠ .cell v
 hok:cE X.prog X.w H s.heap
 len:σ.length=X.N.length
section
variable{X:Cx}{pins:aT}{σ:List (Option V)}{H H':Hp}{s:Shared}{h':Heap}
theorem Cx.Ok.mY(ok:X.Ok){b:Addr}{o:Obj}(e:X.base.get? b=some o):b∉X.fs:=λa=>by
 have:=(ok.iY.mem a).1;rw[e] at this;cases this
theorem Inv.bs(I:Inv X pins σ H s):∀b o,X.base.get? b=some o->s.heap.get? b=some o/\H b=none:=λb o e=>
 ⟨I.base.keep b o (I.ok.bs b o e).1 (I.ok.bs b o e).2 (I.ok.mY e) (I.ok.oU b o e),I.base.free b o (I.ok.bs b o e).1 (I.ok.bs b o e).2 (I.ok.oU b o e)⟩
theorem Inv.bk(I:Inv X pins σ H s):∀b o,X.base.get? b=some o->s.heap.get? b=some o:=λb o e=>(I.bs b o e).1
theorem Inv.mod(I:Inv X pins σ H s):Mod X.K X.mg X.base:=I.ok.mod
theorem Inv.eG(I:Inv X pins σ H s):X.K.In s.heap:=I.ok.mod.qN.keeps I.bk
theorem Inv.lt(I:Inv X pins σ H s):X.env.locals<s.heap.objs.size:=let ⟨_,a,_⟩:=I.loc;a.lt
theorem Inv.sz(I:Inv X pins σ H s):X.s₀.heap.objs.size<=s.heap.objs.size:=cV I.ok.above (jx I.lt)
theorem Inv.OE(I:Inv X pins σ H s){a:Addr}(h:s.heap.objs.size<=a):a∉X.fs:=λb=>by
 obtain⟨_,o,c,_⟩:=I.ok.iY.mem b;exact absurd (cK (aV c) (cV I.sz h)) (fy _)
theorem Inv.mH(I:Inv X pins σ H s):∀x c,X.env.cells.lookup x=some c->c≠X.env.locals:=λx c e z=>by
 obtain⟨v,o,d,hd⟩:=I.cell x c e;obtain⟨m,⟨o',es,ep,a,b,_⟩,_⟩:=I.loc;rw[z,a] at d;cases d;rw[b] at hd;cases hd
theorem Inv.iY(I:Inv X pins σ H s):s.heap.FunFrames X.base X.outer:=by
 have all:∀(l:List Env),(∀b∈frs l,b∈X.fs)->X.s₀.heap.FunFrames X.base l->s.heap.FunFrames X.base l:=by
  intro l;induction l with
  |nil=>intro _ _;trivial
  |cons env r g=>
   intro f hl;obtain⟨h,⟨L,o,a,i,j,hd⟩,k⟩:=hl;have c:L∈X.fs:=f L (by unfold frs;rw[Aj,a];exact br);obtain⟨m,e⟩:=I.base.slot L o j (I.ok.lD L c) c λz=>I.ok.qC L z c;exact⟨h,⟨L,_,a,i,e,hd⟩,g (λb d=>f b (by unfold frs;rw[Aj,a];exact bq _ d)) k⟩
 exact all X.outer (λ_ d=>d) I.ok.iY
theorem Inv.stack(I:Inv X pins σ H s):s.heap.FunFrames X.base X.stack:=by
 rcases I.ok.stk with e|⟨e,a⟩
 .rw[e];exact I.iY
 .rw[e]
  obtain⟨m,b,_⟩:=I.loc;refine .cons (by rw[I.ok.kind];decide) a b ?_ I.iY;exact Heap.get?_none_of_le (cV I.ok.kj I.ok.above)
theorem Inv.pq(I:Inv X pins σ H s):∀b∈frs X.stack,b∈X.env.locals::X.fs:=λb a=>by
 rcases I.ok.stk with e|⟨e,c⟩
 .rw[e] at a;exact bq _ a
 .rw[e] at a
  unfold frs at a;rw[Aj,c] at a;exact a
theorem Inv.zV(I:Inv X pins σ H s):∀b∈frs X.stack,H b=none:=λb hb=>by
 rcases bz.mp (I.pq b hb) with e|hb
 .rw[e];exact I.free
 .obtain⟨_,o,a,_⟩:=I.ok.iY.mem hb
  exact I.base.free b o a (I.ok.lD b hb) λz=>I.ok.qC b z hb
theorem Inv.step{g':Array GenState}{t':Nat}{d':Drawn}{ch:List Addr}(I:Inv X pins σ H s)
  (a:∀b∈ch,(b∈X.ex\/X.s₀.heap.objs.size<=b)/\b≠X.env.locals/\(∀x c,X.env.cells.lookup x=some c->c≠b)/\∀p∈X.pn++pins,p.1≠b)
  (keep:∀b o,b≠X.env.locals->b∉X.fs->b∉ch->s.heap.get? b=some o->H b=none->h'.get? b=some o)
  (slot:∀b o,b≠X.env.locals->b∈X.fs->b∉ch->s.heap.get? b=some o->H b=none->∃C,h'.get? b=some {o with slots:=C})(free:∀b o,b∉ch->s.heap.get? b=some o->H b=none->H' b=none)
  (there:∀b o,b∉ch->s.heap.get? b=some o->∃o',h'.get? b=some o')
  (tups:∀b xs,H b=some (.tup xs)->H' b=some (.tup xs))(fG:∀b o u,H b=some (.bM o u)->H' b=some (.bM o u))(f_:∀b ps,H b=some (.iF ps)->∃y,H' b=some (.iF (ps++y)))
  (ns:∀m,s.heap.Ns X.env.locals m->h'.Ns X.env.locals m)(hok:cE X.prog X.w H' h')(G:AllBare g'):
  Inv X pins σ H' {s with heap:=h',gens:=g',drawn:=d',toks:=t'}:=by
 have A:∀b o,X.s₀.heap.get? b=some o->b≠X.env.locals:=λb o e=>bI (cK (aV e) I.ok.above)
 have g:∀b o,X.s₀.heap.get? b=some o->b∉X.ex->b∉ch:=λb o e hx j=>by
  rcases (a b j).1 with z|z
  .exact hx z
  .exact absurd (cK (aV e) z) (fy _)
 have cellK:∀x c,X.env.cells.lookup x=some c->∀v,s.heap.IsCell c v->h'.IsCell c v:=λx c e v ⟨o,t,hd⟩=>by
  have f:c∉ch:=λz=>(a c z).2.2.1 x c e rfl
  by_cases hc:c∈X.fs
  .obtain⟨C,q⟩:=slot c o (I.mH x c e) hc f t (I.gX x c e)
   exact⟨_,q,hd⟩
  .exact⟨o,keep c o (I.mH x c e) hc f t (I.gX x c e),hd⟩
 refine⟨I.ok,I.os,G,⟨λb o e n j hx=> ?_,λb o e n j hx=> ?_,λb o e n hx=> ?_,λb o e hx=> ?_,λb xs e=>tups b xs (I.base.tups b xs e),λb o xs e=>fG b o xs (I.base.fG b o xs e),λb ps e=> ?_⟩,?_,λx c e=> ?_,?_,λx c e=> ?_,λp E=> ?_,hok,I.len⟩
 .exact keep b o (A b o e) j (g b o e hx) (I.base.keep b o e n j hx) (I.base.free b o e n hx)
 .obtain⟨C,h⟩:=I.base.slot b o e n j hx
  obtain⟨D,B⟩:=slot b _ (A b o e) j (g b o e hx) h (I.base.free b o e n hx)
  exact⟨D,B⟩
 .obtain⟨o',h⟩:=I.base.there b o e hx
  exact free b o' (g b o e hx) h (I.base.free b o e n hx)
 .obtain⟨o',h⟩:=I.base.there b o e hx
  exact there b o' (g b o e hx) h
 .obtain⟨J,h⟩:=I.base.f_ b ps e
  obtain⟨K,B⟩:=f_ b _ h
  exact⟨J++K,by rw[B,Array.append_assoc]⟩
 .obtain⟨m,L,hl⟩:=I.loc
  refine⟨m,ns m L,λi x v h B M=> ?_⟩
  obtain⟨u,r,l⟩:=hl i x v h B M
  refine⟨u,r,?_⟩
  rcases l with l|⟨k,c,e,z⟩
  .exact .inl l
  .exact .inr ⟨k,c,e,cellK x c e _ z⟩
 .obtain⟨v,z⟩:=I.cell x c e
  exact⟨v,cellK x c e v z⟩
 .obtain⟨m,⟨o,_,_,t,_⟩,_⟩:=I.loc
  exact free _ o (λz=>(a _ z).2.1 rfl) t I.free
 .obtain⟨v,o,t,hd⟩:=I.cell x c e
  exact free c o (λz=>(a c z).2.2.1 x c e rfl) t (I.gX x c e)
 .obtain⟨e,n,ne,F,d⟩:=I.pin p E
  have f:p.1∉ch:=λz=>(a p.1 z).2.2.2 p E rfl
  exact⟨keep p.1 p.2 ne F f e n,free p.1 p.2 f e n,ne,F,d⟩
theorem Inv.un{t':Nat}(I:Inv X pins σ H s)(u:Un X.fs [] H H' s.heap h')(hok:cE X.prog X.w H' h'):Inv X pins σ H' {s with heap:=h',toks:=t'}:=by
 obtain⟨m,⟨o,es,ep,g,r⟩,_⟩:=id I.loc;obtain⟨j,h⟩:=u.any g I.free θ;exact I.step (g':=s.gens) (d':=s.drawn) (ch:=[]) (λ_ z=>nomatch z) (λb o _ c _ e n=>u.keep b o e n c θ) (λb o _ c _ e n=>u.slot b o e n c θ) (λb o _ e n=>u.free b o e n θ) (λb o _ e=>u.there b o e θ) u.tups u.fG u.f_ (λk i=>by
  obtain⟨o',d,f,a,r'⟩:=i;rw[g] at a;cases a;exact⟨_,d,f,h,r'⟩) hok I.bare
theorem Inv.call{g':Array GenState}{t':Nat}{d':Drawn}{ch:List Addr}(I:Inv X pins σ H s)(u:Un (frs X.stack) ch H H' s.heap h')(hok:cE X.prog X.w H' h')(j:AllBare g')
  (a:∀b∈ch,(b∈X.ex\/X.s₀.heap.objs.size<=b)/\b≠X.env.locals/\(∀x c,X.env.cells.lookup x=some c->c≠b)/\∀p∈X.pn++pins,p.1≠b):
  Inv X pins σ H' {s with heap:=h',gens:=g',drawn:=d',toks:=t'}:=by
 obtain⟨m,⟨o,es,ep,i,r⟩,_⟩:=id I.loc;obtain⟨q,f⟩:=u.any i I.free λz=>(a _ z).2.1 rfl;exact I.step (ch:=ch) a (λb o f k hc e n=>u.keep b o e n (λz=>(bz.mp (I.pq b z)).elim f k) hc) (λb o _ _ hc e n=>u.any e n hc) (λb o hc e n=>u.free b o e n hc) (λb o hc e=>u.there b o e hc) u.tups u.fG u.f_ (λt l=>by
  obtain⟨o',g,h,d,r'⟩:=l;rw[i] at d;cases d;exact⟨_,g,h,f,r'⟩) hok j
theorem Inv.turned{t':Nat}{it:Addr}(I:Inv X pins σ H s)(k:∀b o,b≠it->s.heap.get? b=some o->h'.get? b=some o)(f:H it=none)(d:it≠X.env.locals)
  (h1:it∈X.ex\/X.s₀.heap.objs.size<=it)(h2:∀x c,X.env.cells.lookup x=some c->c≠it)(g:∀p∈X.pn++pins,p.1≠it):Inv X pins σ H {s with heap:=h',toks:=t'}:=by
 have a:∀b u,H b=some u->b≠it:=λb u e z=>by rw[z,f] at e;cases e
 refine I.step (g':=s.gens) (d':=s.drawn) (ch:=[it]) (λb h=>?_) (λb o _ _ hc e _=>k b o (λz=>hc (by simp[z])) e) (λb o _ _ hc e _=>⟨o.slots,k b o (λz=>hc (by simp[z])) e⟩) (λ_ _ _ _ n=>n)
  (λb o hc e=>⟨o,k b o (λz=>hc (by simp[z])) e⟩) (λ_ _ e=>e) (λ_ _ _ e=>e) (λb ps e=>⟨#[],by rw[e];simp⟩) (λm i=>?_) (λb u e=>?_) I.bare
 .have e:b=it:=by simpa using h
  subst e;exact⟨h1,d,h2,g⟩
 .obtain⟨o,es,ep,j,r⟩:=i
  exact⟨o,es,ep,k _ o (Ne.symm d) j,r⟩
 .refine(I.hok b u e).stay (λc v hc q=>k c v ?_ q) (λ_ q=>q) λ_ _ q=>q
  rcases hc with z|z
  .rw[z];exact a b u e
  .exact a c _ z
theorem Inv.tok(I:Inv X pins σ H s)(t:Nat):Inv X pins σ H {s with toks:=t}:=I.un (h':=s.heap) (t':=t) Un.refl I.hok
theorem Inv.kept{t':Nat}(I:Inv X pins σ H s)(k:∀b u,s.heap.get? b=some u->h'.get? b=some u):Inv X pins σ H {s with heap:=h',toks:=t'}:=I.un (Un.kept k) (I.hok.kept k)
theorem Inv.laid{a:Addr}{o:HO}{t':Nat}(I:Inv X pins σ H s)(k:∀b u,s.heap.get? b=some u->h'.get? b=some u)(c:s.heap.objs.size<=a)(new:bZ X.prog X.w (upd H a o) h' a o):
 Inv X pins σ (upd H a o) {s with heap:=h',toks:=t'}:=I.un (Un.laid k c (I.hok.fresh c)) (I.hok.laid k c new)
theorem Inv.write{x e:Addr}{o:HO}{t':Nat}(I:Inv X pins σ H s)(c:p_ (H x))(d:e=x\/H e=some (.own x))(k:∀b u,b≠e->s.heap.get? b=some u->h'.get? b=some u)(a:∃u,h'.get? e=some u)
 (new:bZ X.prog X.w (upd H x o) h' x o):Inv X pins σ (upd H x o) {s with heap:=h',toks:=t'}:=I.un (Un.write c d k a) (I.hok.write c d k a new)
theorem Inv.weak{σ':List (Option V)}(I:Inv X pins σ H s)(hl:σ'.length=σ.length)(w:∀(i:Nat) v,σ'[i]?=some (some v)->σ[i]?=some (some v)):Inv X pins σ' H s:=
 ⟨I.ok,I.os,I.bare,I.base,let ⟨m,b,a⟩:=I.loc;⟨m,b,λi x v c d e=>a i x v c (w i v d) e⟩,I.cell,I.free,I.gX,I.pin,I.hok,hl.trans I.len⟩
theorem Inv.EV{a:aT}(I:Inv X pins σ H s)(h:∀p∈a,s.heap.get? p.1=some p.2/\H p.1=none/\p.1≠X.env.locals/\p.1∉X.fs/\∀v,p.2.data≠ .cell v):Inv X a σ H s:=
 ⟨I.ok,I.os,I.bare,I.base,I.loc,I.cell,I.free,I.gX,λp b=>(b_.mp b).elim (λz=>I.pin p (kP _ z)) (h p),I.hok,I.len⟩
theorem Eu{N:List Str}(c:N.Nodup){i j:Nat}{x:Str}(a:N[i]?=some x)(b:N[j]?=some x):i=j:=by
 obtain⟨h1,d⟩:=bW.mp a;obtain⟨h2,e⟩:=bW.mp b;exact(List.getElem_inj c).mp (d.trans e.symm)
theorem G9 {M : Model} {A : Around} {E : aR} {i : Nat} {x : Str} {v : V} {u : Value} {Q : Unit → Shared → Prop} (I : Inv X pins σ H s) (hN : X.N.Nodup) (hi : X.N[i]? = some x) (hx : Loc X.env.scope x) (r : RelV v u)
    (h : ∀ s', Inv X pins (σ.set i (some v)) H s' → (∃ a, SameBut a s.heap s'.heap ∧ (a = X.env.locals ∨ X.env.cells.lookup x = some a)) → Q () s') (hf : X.fn x = true ∨ X.env.scope.names.lookup x = some .local := by first | exact .inl rfl | exact .inr rfl | assumption) : wpAny M A (storeName X.env x u) Q E s := by
  obtain ⟨m, R, hl⟩ := id I.loc
  have G : (X.env.scope.kind == .class || (X.env.scope.kind == .module && X.env.locals != X.env.globals)) = false := by rw [I.ok.kind]; rfl
  have B : i < σ.length := by rw [I.len]; exact (bW.mp hi).1
  have mH := I.mH
  have tracked : ∀ {a : Addr} {h' : Heap}, (∃ o, s.heap.get? a = some o ∧ H a = none) → SameBut a s.heap h' → cE X.prog X.w H h' := fun {a h'} ha f b ob e => by
    obtain ⟨_, _, l⟩ := ha
    refine (I.hok b ob e).stay (fun c P hc q => (f.2 c ?_).trans q) (fun _ q => q) fun _ _ q => q
    rintro rfl
    rcases hc with rfl | hc
    · rw [l] at e; cases e
    · rw [l] at hc; cases hc
  rcases hx with hk | hk
  · refine wpAny_storeName_local hk R (fun h' S f => ?_) G
    obtain ⟨oL, _, _, T, _⟩ := id R
    refine h _ ⟨I.ok, I.os, I.bare, ⟨fun b o e n C hx => ?_, fun b o e n C hx => ?_, I.base.free, fun b o e hx => ?_, I.base.tups, I.base.fG, I.base.f_⟩, ⟨_, S, fun j y U g t W => ?_⟩, fun y c e => ?_, I.free, I.gX, fun p Y => ?_, tracked ⟨oL, T, I.free⟩ f, by simpa using I.len⟩ ⟨_, f, .inl rfl⟩
    · exact (f.2 b (bI (cK (aV e) I.ok.above))).trans (I.base.keep b o e n C hx)
    · obtain ⟨Z, g⟩ := I.base.slot b o e n C hx
      exact ⟨Z, (f.2 b (bI (cK (aV e) I.ok.above))).trans g⟩
    · obtain ⟨o', g⟩ := I.base.there b o e hx
      exact ⟨o', (f.2 b (bI (cK (aV e) I.ok.above))).trans g⟩
    · by_cases D : j = i
      · subst D
        rw [hi] at g; cases g
        rw [fB B] at t
        cases t
        exact ⟨u, r, .inl ⟨hk, by simp⟩⟩
      · rw [gP (Ne.symm D)] at t
        obtain ⟨u', r', q⟩ := hl j y U g t W
        refine ⟨u', r', ?_⟩
        rcases q with ⟨k, e⟩ | ⟨k, c, e, z⟩
        · refine .inl ⟨k, ?_⟩
          have : y ≠ x := fun e => D (Eu hN g (e ▸ hi))
          simp [this, e]
        · exact .inr ⟨k, c, e, z.sameBut f (mH y c e)⟩
    · obtain ⟨P, z⟩ := I.cell y c e
      exact ⟨P, z.sameBut f (mH y c e)⟩
    · obtain ⟨e, n, ne, nf, d⟩ := I.pin p Y
      exact ⟨(f.2 p.1 ne).trans e, n, ne, nf, d⟩
  · have F : X.fn x = true := by
      rcases hf with z | z
      · exact z
      · rw [z] at hk; cases hk
    obtain ⟨c, hc⟩ := I.ok.has x (.inl hk)
    obtain ⟨P, z⟩ := I.cell x c hc
    refine wpAny_storeName_cell I.ok.kind hk hc z (fun h' J f => ?_)
    obtain ⟨oc, K, L⟩ := id z
    refine h { s with heap := h' } ⟨I.ok, I.os, I.bare, ⟨fun b o e n C hx => ?_, fun b o e n C hx => ?_, I.base.free, fun b o e hx => ?_, I.base.tups, I.base.fG, I.base.f_⟩, ⟨m, R.sameBut f (Ne.symm (mH x c hc)), fun j y U g t W => ?_⟩, fun y c' e => ?_, I.free, I.gX, fun p Y => ?_, tracked ⟨oc, K, I.gX x c hc⟩ f, by simpa using I.len⟩ ⟨c, f, .inr hc⟩
    · exact (f.2 b (bI (cK (aV e) (I.ok.nV x c F hc)))).trans (I.base.keep b o e n C hx)
    · obtain ⟨Z, g⟩ := I.base.slot b o e n C hx
      exact ⟨Z, (f.2 b (bI (cK (aV e) (I.ok.nV x c F hc)))).trans g⟩
    · obtain ⟨o', g⟩ := I.base.there b o e hx
      exact ⟨o', (f.2 b (bI (cK (aV e) (I.ok.nV x c F hc)))).trans g⟩
    · by_cases D : j = i
      · subst D
        rw [hi] at g; cases g
        rw [fB B] at t
        cases t
        exact ⟨u, r, .inr ⟨.inl hk, c, hc, J⟩⟩
      · rw [gP (Ne.symm D)] at t
        obtain ⟨u', r', q⟩ := hl j y U g t W
        refine ⟨u', r', ?_⟩
        rcases q with q | ⟨k, c', e, z'⟩
        · exact .inl q
        · refine .inr ⟨k, c', e, z'.sameBut f ?_⟩
          rintro rfl
          exact D (Eu hN g (I.ok.inj _ _ _ e hc ▸ hi))
    · by_cases O : c' = c
      · subst O; exact ⟨_, J⟩
      · obtain ⟨w2, z2⟩ := I.cell y c' e
        exact ⟨w2, z2.sameBut f O⟩
    · obtain ⟨e, n, ne, nf, d⟩ := I.pin p Y
      refine ⟨(f.2 p.1 ?_).trans e, n, ne, nf, d⟩
      intro q
      rw [q, K] at e
      have q' : oc = p.2 := Option.some.inj e
      exact d P (by rw [← q']; exact L)
theorem rP{M:Model}{A:Around}{E:aR}{i:Nat}{x:Str}{v:V}{u:Value}{Q:Unit->Shared->Prop}(I:Inv X pins σ H s)(a:X.N.Nodup)(hi:X.N[i]?=some x)(hx:Loc X.env.scope x)(r:RelV v u)
  (h:∀s',Inv X pins (σ.set i (some v)) H s'->Q () s')(b:X.fn x=true\/X.env.scope.names.lookup x=some .local:=by first|exact .inl rfl|exact .inr rfl|assumption):wpAny M A (storeName X.env x u) Q E s:=
 G9 I a hi hx r (λs' c _=>h s' c) b
theorem Inv.xN{s':Shared}{ch:List Addr}(I:Inv X pins σ H s)(d:s'.os=s.os)(u:Un (frs X.stack) ch H H' s.heap s'.heap)(hok:cE X.prog X.w H' s'.heap)(f:AllBare s'.gens)
  (a:∀b∈ch,(b∈X.ex\/X.s₀.heap.objs.size<=b)/\b≠X.env.locals/\(∀x c,X.env.cells.lookup x=some c->c≠b)/\∀p∈X.pn++pins,p.1≠b):Inv X pins σ H' s':=by
 obtain⟨h',g',d',t',o'⟩:=s';have e:o'=s.os:=d;subst e;exact I.call (g':=g') (t':=t') (d':=d') u hok f a
end
abbrev XK:=Value->Option Addr->Hp->Prop
abbrev St:=List (Option V)
abbrev VK:=V->Hp->Prop
abbrev TE:=St->Hp->VK->Prop
abbrev TT:=St->Hp->(Bool->Hp->Prop)->Prop
abbrev TA:=St->Hp->(List V->Hp->Prop)->Prop
structure Ends where
 nx:St->Hp->Prop
 rt:VK
 bk:St->Hp->Prop:=λ_ _=>False
 ct:St->Hp->Prop:=λ_ _=>False
abbrev TS:=Ends->St->Hp->Prop
def EP(X:Cx)(pins:aT)(σ:St)(Q:VK)(u:Value)(s':Shared):Prop:=∃v H',Inv X pins σ H' s'/\RelV v u/\Q v H'
def TP(X:Cx)(pins:aT)(σ:St)(Q:Bool->Hp->Prop)(b:Bool)(s':Shared):Prop:=∃H',Inv X pins σ H' s'/\Q b H'
def AP(X:Cx)(pins:aT)(σ:St)(Q:List V->Hp->Prop)(us:List Value)(s':Shared):Prop:=∃vs H',Inv X pins σ H' s'/\Vals vs us/\Q vs H'
def SP(X:Cx)(pins:aT)(D:Ends)(f:Flow)(s':Shared):Prop:=
 match f with
 |.next=>∃σ' H',Inv X pins σ' H' s'/\D.nx σ' H'
 |.brk=>∃σ' H',Inv X pins σ' H' s'/\D.bk σ' H'
 |.cont=>∃σ' H',Inv X pins σ' H' s'/\D.ct σ' H'
 |.ret u=>∃v σ' H',Inv X pins σ' H' s'/\RelV v u/\D.rt v H'
def PE(X:Cx)(e:Expr)(t:TE):Prop:=
 ∀(pins:aT) (s:Shared) (σ:St) (H:Hp) (Q:VK),Inv X pins σ H s->t σ H Q->wpAny (model X.prog X.w) X.A (eval e X.env) (EP X pins σ Q) X.xe s
def PT(X:Cx)(e:Expr)(t:TT):Prop:=
 ∀(pins:aT) (s:Shared) (σ:St) (H:Hp) (Q:Bool->Hp->Prop),Inv X pins σ H s->t σ H Q->wpAny (model X.prog X.w) X.A (isTrue e X.env (eval e X.env)) (TP X pins σ Q) X.xe s
def PW(X:Cx)(e:Expr)(t:TT):Prop:=
 ∀(whole:Sem Value) (pins:aT) (s:Shared) (σ:St) (H:Hp) (Q:Bool->Hp->Prop),Inv X pins σ H s->t σ H Q->wpAny (model X.prog X.w) X.A (isTrue e X.env whole) (TP X pins σ Q) X.xe s
theorem PW.pt{X:Cx}{e:Expr}{t:TT}(h:PW X e t):PT X e t:=h _
def PA(X:Cx)(es:List Expr)(t:TA):Prop:=
 ∀(pos:Pos) (pins:aT) (s:Shared) (σ:St) (H:Hp) (Q:List V->Hp->Prop),Inv X pins σ H s->t σ H Q->wpAny (model X.prog X.w) X.A (spliced (backTo pos (starEach es X.env))) (AP X pins σ Q) X.xe s
def PS(X:Cx)(st:Stmt)(t:TS):Prop:=
 ∀(pins:aT) (s:Shared) (σ:St) (H:Hp) (D:Ends),Inv X pins σ H s->t D σ H->wpAny (model X.prog X.w) X.A (exec st X.env) (SP X pins D) X.xe s
def c6(X:Cx)(st:List Stmt)(t:TS):Prop:=
 ∀(pins:aT) (s:Shared) (σ:St) (H:Hp) (D:Ends),Inv X pins σ H s->t D σ H->wpAny (model X.prog X.w) X.A (execs st X.env) (SP X pins D) X.xe s
theorem aJ{α:Type}{t:Sem α}{Q b:α->Shared->Prop}{M:Model}{A:Around}{E:aR}{s:Shared}(h:wpAny M A t Q E s)(c:∀a s,Q a s->b a s):wpAny M A t b E s:=jB h c λ_ _ x=>x
section
variable{X:Cx}
def TZ(i:Nat):TE:=λσ H Q=>∃v,σ[i]?=some (some v)/\Q v H
def tC(v:V):TE:=λ_ H Q=>Q v H
theorem PX{i:Nat}{x:Str}{pos:Pos}(d:X.N[i]?=some x)(f:nQ X.env.scope x)(hd:(x==("__debug__":Str))=false:=by decide)(b:(x==("__classdict__":Str))=false:=by decide):PE X (.Name x pos) (TZ i):=by
 intro pins s σ H Q I h;obtain⟨v,e,h⟩:=h;obtain⟨m,g,hl⟩:=I.loc;obtain⟨u,r,l⟩:=hl i x v d e f;have fin:EP X pins σ Q u s:=⟨v,H,I,r,h⟩;rcases l with⟨hk,j⟩|⟨hk,c,hc,a⟩
 .exact wpAny_Name (wpAny_loadName_local I.ok.kind hk g j fin) hd
 .rcases hk with hk|hk
  .exact wpAny_Name (wpAny_loadName_cell I.ok.kind hk hc a fin) hd
  .exact wpAny_Name (wpAny_loadName_free I.ok.kind hk hc a fin b) hd
theorem PF{i j pos}:PE X (.Constant (.int i) j pos) (tC (.int i)):=λ_ _ _ H _ I h=>wpAny_Constant_int ⟨.int i,H,I.tok _,⟨_,rfl⟩,h⟩
theorem Po{b j pos}:PE X (.Constant (.bool b) j pos) (tC (.bl b)):=λ_ _ _ H _ I h=>Constant_bool ⟨.bl b,H,I,rfl,h⟩
theorem PJ{j pos}:PE X (.Constant .none j pos) (tC .aE):=λ_ _ _ H _ I h=>Constant_none ⟨.aE,H,I,rfl,h⟩
theorem PR{x j pos}:PE X (.Constant (.str x) j pos) (tC (.str x)):=λ_ _ _ H _ I h=>Calls.Constant_str ⟨.str x,H,I.tok _,⟨_,rfl⟩,h⟩
def Gl(X:Cx)(x:Str):Prop:=X.env.kindOf x=some .globalImplicit
theorem ux{E:aR}{pins:aT}{s:Shared}{σ:St}{H:Hp}{x:Str}{u:Value}{pos:Pos}{Q:aR}(I:Inv X pins σ H s)(a:Gl X x)(b:X.mg x=some u)(h:Q u s)
  (hd:(x==("__debug__":Str))=false:=by decide):wpAny (model X.prog X.w) X.A (eval (.Name x pos) X.env) Q E s:=
 Calls.Name_function_global I.ok.kind a (Calls.loadGlobal_global (by rw[I.ok.glob];exact I.mod.glob.keeps I.bk) b h) hd
theorem jN{E:aR}{pins:aT}{s:Shared}{σ:St}{H:Hp}{x:Str}{u:Value}{pos:Pos}{Q:aR}(I:Inv X pins σ H s)(a:Gl X x)(b:X.mg x=none)(c:bootBuiltins x=some u)(h:Q u s)
  (d:x≠"__name__":=by decide)(hd:(x==("__debug__":Str))=false:=by decide):wpAny (model X.prog X.w) X.A (eval (.Name x pos) X.env) Q E s:=by
 obtain⟨mb,h1,h2⟩:=I.mod.blt;exact Calls.Name_function_global I.ok.kind a (Calls.loadGlobal_builtin (by rw[I.ok.glob];exact I.mod.glob.keeps I.bk) b (by rw[I.ok.blt];exact h1.keeps I.bk) ((h2 x d).trans c) h) hd
theorem EO{x:Str}{v:V}{u:Value}{pos:Pos}(a:Gl X x)(b:X.mg x=some u)(r:RelV v u)(hd:(x==("__debug__":Str))=false:=by decide):PE X (.Name x pos) (tC v):=
 λ_ _ _ H _ I h=>ux I a b ⟨v,H,I,r,h⟩ hd
theorem Pp{x:Str}{v:V}{u:Value}{pos:Pos}(a:Gl X x)(b:X.mg x=none)(c:bootBuiltins x=some u)(r:RelV v u)(d:x≠"__name__":=by decide)(hd:(x==("__debug__":Str))=false:=by decide):PE X (.Name x pos) (tC v):=
 λ_ _ _ H _ I h=>jN I a b c ⟨v,H,I,r,h⟩ d hd
variable{a b:Expr}{ta tb:TE}{pos:Pos}
def tB(t:TE):TT:=λσ H Q=>t σ H λx H1=>∃c,x=.bl c/\Q c H1
theorem QE{e:Expr}{t:TE}(h:PE X e t)(a:∀whole,isTrue e X.env whole=(do let v <-whole;standAt e.pos;holding [v] (truthy v)):=by intro _;rfl):PT X e (tB t):=by
 intro pins s σ H Q I b;refine isTrue_plain (aJ (h pins s σ H _ I b) λv g ⟨x,H1,c,r1,f⟩=>?_) (a _);obtain⟨d,rfl,q⟩:=f;cases r1;exact nv ⟨H1,c,q⟩
variable{tA vM:TT}{rest:List Expr}
def S_(t u:TT):TT:=λσ H Q=>t σ H λc H1=>if c=true then u σ H1 Q else Q false H1
def TH(t u:TT):TT:=λσ H Q=>t σ H λc H1=>if c=true then Q true H1 else u σ H1 Q
def TF(t:TT):TT:=λσ H Q=>t σ H λc H1=>Q (!c) H1
theorem pw_and1(b:PT X a tA):PW X (.BoolOp .And [a] pos) tA:=by
 intro d pins s σ H Q I h;refine isTrue_and (aJ (b pins s σ H Q I h) λc f e=>?_);cases c with
 |true=>exact isTrue_and_nil e
 |false=>exact e
theorem pw_or1(b:PT X a tA):PW X (.BoolOp .Or [a] pos) tA:=by
 intro d pins s σ H Q I h;refine isTrue_or (aJ (b pins s σ H Q I h) λc f e=>?_);cases c with
 |false=>exact isTrue_or_nil e
 |true=>exact e
theorem pw_and(f:PT X a tA)(g:PW X (.BoolOp .And (b::rest) pos) vM):PW X (.BoolOp .And (a::b::rest) pos) (S_ tA vM):=by
 intro i pins s σ H Q I h;refine isTrue_and (aJ (f pins s σ H _ I h) λc j ⟨H1,d,e⟩=>?_);cases c with
 |true=>exact g i pins j σ H1 Q d e
 |false=>exact⟨H1,d,e⟩
theorem pw_or(f:PT X a tA)(g:PW X (.BoolOp .Or (b::rest) pos) vM):PW X (.BoolOp .Or (a::b::rest) pos) (TH tA vM):=by
 intro i pins s σ H Q I h;refine isTrue_or (aJ (f pins s σ H _ I h) λc j ⟨H1,d,e⟩=>?_);cases c with
 |true=>exact⟨H1,d,e⟩
 |false=>exact g i pins j σ H1 Q d e
theorem QD(b:PT X a tA):PT X (.UnaryOp .Not a pos) (TF tA):=by
 intro pins s σ H Q I h;exact isTrue_not (b pins s σ H (λc H1=>Q (!c) H1) I h)
def Tc(ta tb:TE):TE:=λσ H Q=>ta σ H λx H1=>∃c,x=.bl c/\if c=true then tb σ H1 Q else Q (.bl false) H1
theorem PK{op}{t:TE}(h:PE X a t):PE X (.BoolOp op [a] pos) t:=λpins s σ H Q I b=>BoolOp_one (h pins s σ H Q I b)
theorem Pn(f:PE X a ta)(g:PE X (.BoolOp .And (b::rest) pos) tb):PE X (.BoolOp .And (a::b::rest) pos) (Tc ta tb):=by
 intro pins s σ H Q I h;refine BoolOp_and (aJ (f pins s σ H _ I h) λv i ⟨x,H1,e,r1,d⟩=>?_);obtain⟨c,rfl,d⟩:=d;cases r1;refine nv ?_;cases c with
 |true=>exact g pins i σ H1 Q e d
 |false=>exact⟨.bl false,H1,e,rfl,d⟩
def Tq(t:TT)(ta tb:TE):TE:=λσ H Q=>t σ H λc H1=>if c=true then ta σ H1 Q else tb σ H1 Q
theorem PD{c:Expr}(hc:PT X c tA)(i:PE X a ta)(j:PE X b tb):PE X (.IfExp c a b pos) (Tq tA ta tb):=by
 intro pins s σ H Q I h;refine wpAny_IfExp (aJ (hc pins s σ H _ I h) λd e ⟨H1,f,g⟩=>?_);cases d with
 |true=>exact i pins e σ H1 Q f g
 |false=>exact j pins e σ H1 Q f g
end
def aY(K:Frag)(H:Hp)(a:Addr)(xs:List V):Prop:=
 Rd H a (.lst xs)\/
  ∃(o:Obj) (its:Array Value) (n:Nat),K.lookup a=some o/\o.cls=.type "list"/\o.dict=none/\o.data=.seq its n/\its.size<=sizeLine/\Vals xs its.toList
def bQ(K:Frag)(H:Hp)(a:Addr)(xs:List V):Prop:=
 Rd H a (.tup xs)\/
  ∃(o:Obj) (its:Array Value) (n:Nat),K.lookup a=some o/\o.cls=.type "tuple"/\o.data=.seq its n/\its.size<=sizeLine/\Vals xs its.toList
noncomputable def IL:Value->Option V
 |.none=>some .aE
 |.bool b=>some (.bl b)
 |.int i _=>some (.int i)
 |.str x _=>some (.str x)
 |.bytes b _=>some (.jn b)
 |.float b _=>some (.om b)
 |.ref a=>some (.ref a)
 |.type n=>some (.ty n)
 |_=>none
theorem RelV.abs{x:V}{u:Value}(r:RelV x u):IL u=some x:=by
 cases x with
 |aE=>cases r;rfl
 |bl _=>cases r;rfl
 |int _=>obtain⟨t,rfl⟩:=r;rfl
 |str _=>obtain⟨t,rfl⟩:=r;rfl
 |jn _=>obtain⟨t,rfl⟩:=r;rfl
 |om _=>obtain⟨t,rfl⟩:=r;rfl
 |ref _=>cases r;rfl
 |ty _=>cases r;rfl
theorem RelV.inj{x y:V}{u:Value}(r:RelV x u)(q:RelV y u):x=y:=Option.some.inj (r.abs.symm.trans q.abs)
theorem Vals.inj:∀{xs ys:List V} {a:List Value},Vals xs a->Vals ys a->xs=ys
 |_,_,_,.nil,.nil=>rfl
 |_,_,_,.cons r t,.cons r' t'=>by rw[r.inj r',Vals.inj t t']
section
variable{X:Cx}{pins:aT}{σ:St}{H:Hp}{s:Shared}{a:Addr}{xs ys:List V}
theorem aY.of{K:Frag}(h:H a=some (.lst xs)):aY K H a xs:=.inl (.inl h)
theorem bQ.of{K:Frag}(h:H a=some (.tup xs)):bQ K H a xs:=.inl (.inl h)
theorem Inv.list(I:Inv X pins σ H s)(h:aY X.K H a xs):∃its:List Value,Vals xs its/\PlainL s.heap a its.toArray/\xs.length<=sizeLine:=by
 rcases h with h|⟨o,its,n,b,hc,hd,c,hz,r⟩
 .obtain⟨z,its,n,r,e⟩:=h.ok I.hok
  exact⟨its,r,⟨_,n,e,rfl,rfl,rfl⟩,z⟩
 .refine⟨its.toList,r,⟨o,n,I.eG a o b,hc,hd,by simpa using c⟩,?_⟩
  have e:=r.length;simp only[gw] at e;omega
theorem Inv.tuple(I:Inv X pins σ H s)(h:bQ X.K H a xs):∃its:List Value,Vals xs its/\IsTup s.heap a its.toArray/\xs.length<=sizeLine:=by
 rcases h with h|⟨o,its,n,b,hc,c,hz,r⟩
 .obtain⟨z,its,r,p⟩:=h.ok I.hok
  exact⟨its,r,p.is,z⟩
 .refine⟨its.toList,r,⟨o,I.eG a o b,hc,n,by simpa using c⟩,?_⟩
  have e:=r.length;simp only[gw] at e;omega
theorem Inv.HC(I:Inv X pins σ H s)(h:H a=some (.tup xs)):∃(its:List Value) (n:Nat),Vals xs its/\s.heap.get? a=some {cls:=.type "tuple",data:=.seq its.toArray n}/\xs.length<=sizeLine:=by
 obtain⟨z,its,r,n,e⟩:=(show bZ X.prog X.w H s.heap a (.tup xs) from I.hok a _ h);exact⟨its,n,r,e,z⟩
theorem Inv.yY(I:Inv X pins σ H s)(h:aY X.K H a xs)(h':aY X.K H a ys):xs=ys:=by
 obtain⟨its,r,⟨o,n,e,_,_,d⟩,_⟩:=I.list h;obtain⟨its',r',⟨o',n',b,_,_,d'⟩,_⟩:=I.list h';rw[e] at b;cases b;rw[d] at d';injection d' with c _;have:its=its':=by simpa using cB toList c
 subst this;exact r.inj r'
theorem Inv.Ue(I:Inv X pins σ H s)(h:bQ X.K H a xs)(h':bQ X.K H a ys):xs=ys:=by
 obtain⟨its,r,⟨o,e,_,n,d⟩,_⟩:=I.tuple h;obtain⟨its',r',⟨o',b,_,n',d'⟩,_⟩:=I.tuple h';rw[e] at b;cases b;rw[d] at d';injection d' with c _;have:its=its':=by simpa using cB toList c
 subst this;exact r.inj r'
end
section
variable{X:Cx}{st:Stmt}{rest:List Stmt}{t u:TS}{e:Expr}{te:TE}{pos:Pos}
def Tu:TS:=λD σ H=>D.nx σ H
def TQ(t u:TS):TS:=λD σ H=>t {D with nx:=u D} σ H
theorem Qz:c6 X [] Tu:=λ_ _ σ H _ I h=>sr ⟨σ,H,I,h⟩
theorem Qy(h1:PS X st t)(h2:c6 X rest u):c6 X (st::rest) (TQ t u):=by
 intro pins s σ H D I h;refine wpAny_execs_cons (aJ (h1 pins s σ H {D with nx:=u D} I h) λf a q=>?_);cases f with
 |next=>
  obtain⟨σ',H',b,q⟩:=q;exact h2 pins a σ' H' D b q
 |ret v=>exact q
 |brk=>exact q
 |cont=>exact q
theorem QA(h1:PS X st t):c6 X [st] t:=by
 intro pins s σ H D I h;refine wpAny_execs_cons (aJ (h1 pins s σ H D I h) λf a q=>?_);cases f with
 |next=>exact sr q
 |ret v=>exact q
 |brk=>exact q
 |cont=>exact q
theorem Inv.quiet{pins:aT}{σ:St}{H:Hp}{s:Shared}(I:Inv X pins σ H s):interactive X.env=false:=by simp[interactive,I.ok.kind]
def Tj(te:TE):TS:=λD σ H=>te σ H λ_ H1=>D.nx σ H1
theorem Qo(a:PE X e te)(b:swapsWith e none pos.line X.env=pure false:=by rfl):PS X (.Expr e pos) (Tj te):=by
 intro pins s σ H D I h;exact wpAny_Expr_any (aJ (a pins s σ H _ I h) λv f ⟨x,H1,c,r1,d⟩=>⟨σ,H1,c,d⟩) I.quiet b
def TN(te:TE):TS:=λD σ H=>te σ H D.rt
theorem Qu(a:PE X e te):PS X (.Return (some e) pos) (TN te):=by
 intro pins s σ H D I h;exact wpAny_Return_some (aJ (a pins s σ H _ I h) λv d ⟨x,H1,b,r1,c⟩=>⟨x,σ,H1,b,r1,c⟩)
def Tr(c:TT)(t u:TS):TS:=λD σ H=>c σ H λb H1=>if b=true then t D σ H1 else u D σ H1
theorem Qq{c:Expr}{a b:List Stmt}{tc:TT}(hc:PT X c tc)(i:c6 X a t)(j:c6 X b u):PS X (.If c a b pos) (Tr tc t u):=by
 intro pins s σ H D I h;refine wpAny_If (aJ (hc pins s σ H _ I h) λd e ⟨H1,f,g⟩=>?_);cases d with
 |true=>exact i pins e σ H1 D f g
 |false=>exact j pins e σ H1 D f g
end
abbrev TG:=V->St->Hp->(St->Hp->Prop)->Prop
abbrev jH:=List V->St->Hp->(St->Hp->Prop)->Prop
def PG(X:Cx)(target:Expr)(t:TG):Prop:=
 ∀(pins:aT) (s:Shared) (σ:St) (H:Hp) (v:V) (u:Value) (Q:St->Hp->Prop),Inv X pins σ H s->RelV v u->t v σ H Q->
  wpAny (model X.prog X.w) X.A (assign target X.env u) (λ_ s'=>∃σ' H',Inv X pins σ' H' s'/\Q σ' H') X.xe s
def jG(X:Cx)(ts:List Expr)(t:jH):Prop:=
 ∀(pins:aT) (s:Shared) (σ:St) (H:Hp) (vs:List V) (us:List Value) (Q:St->Hp->Prop),Inv X pins σ H s->Vals vs us->t vs σ H Q->
  wpAny (model X.prog X.w) X.A (assignInOrder ((assignEach ts X.env).map (·.2)) us) (λ_ s'=>∃σ' H',Inv X pins σ' H' s'/\Q σ' H') X.xe s
abbrev tE:=V->V->Hp->VK->Prop
def AO(X:Cx)(op:Operator)(t:tE):Prop:=
 ∀(pins:aT) (s:Shared) (σ:St) (H:Hp) (x y:V) (v u:Value) (Q:VK),Inv X pins σ H s->RelV x v->RelV y u->t x y H Q->
  wpAny (model X.prog X.w) X.A (inplaceOp op v u) (EP X pins σ Q) X.xe s
section
variable{X:Cx}{pos:Pos}
noncomputable def ou(i:Nat):TG:=λv σ H Q=>Q (σ.set i (some v)) H
theorem ET{i:Nat}{x:Str}(a:X.N.Nodup)(hi:X.N[i]?=some x)(hx:Loc X.env.scope x)(b:X.fn x=true\/X.env.scope.names.lookup x=some .local:=by first|exact .inl rfl|exact .inr rfl|assumption):PG X (.Name x pos) (ou i):=by
 intro pins s σ H v u Q I r h;exact wpAny_assign_Name (rP I a hi hx r (λs' c=>⟨_,H,c,h⟩) b)
noncomputable def Dg:jH:=λvs σ H Q=>vs=[]/\Q σ H
noncomputable def Df(t:TG)(u:jH):jH:=λvs σ H Q=>∃v r,vs=v::r/\t v σ H λσ' H'=>u r σ' H' Q
theorem vt:jG X [] Dg:=by
 intro pins s σ H vs a Q I r h;obtain⟨e,h⟩:=h;subst e;cases r;exact assignInOrder_nil ⟨σ,H,I,h⟩
theorem kI{e:Expr}{es:List Expr}{t:TG}{u:jH}(h1:PG X e t)(h2:jG X es u)
  (b:(assignEach (e::es) X.env).map (·.2)=assign e X.env::(assignEach es X.env).map (·.2):=by rfl):jG X (e::es) (Df t u):=by
 intro pins s σ H vs j Q I r h;obtain⟨v,vr,c,h⟩:=h;subst c;cases r with
 |cons r d=>
  rw[b];refine assignInOrder_cons (aJ (h1 pins s σ H _ _ _ I r h) λ_ f ⟨a,H1,g,i⟩=>?_);exact h2 pins f a H1 _ _ Q g d i
noncomputable def Dh(K:Frag)(n:Nat)(t:jH):TG:=λv σ H Q=>∃a xs,v=.ref a/\bQ K H a xs/\xs.length=n/\t xs σ H Q
theorem vq{es:List Expr}{k:Nat}{t:jH}{n:Nat}(hc:X.calm=true)(h:jG X es t)
  (g:(assignEach es X.env).length=n:=by rfl)(c:(assignEach es X.env).findIdx? (·.1)=none:=by rfl):PG X (.Tuple es k pos) (Dh X.K n t):=by
 intro pins s σ H v u Q I r d;obtain⟨a,xs,i,j,hl,d⟩:=d;subst i;cases r;obtain⟨its,f,l,hz⟩:=I.tuple j;refine assign_Tuple_tuple (I.ok.hd hc) l (by simp[g,<-hl,f.length]) c λh' hx=>?_;have m:Inv X pins σ H {s with heap:=h'}:=I.kept (t':=s.toks) λb o e=>hx b o (bI (aV e)) e;exact h pins _ σ H xs _ Q m (by simpa using f) d
def Hq(te:TE)(g:TG):TS:=λD σ H=>te σ H λx H1=>g x σ H1 D.nx
theorem Qv{i:Nat}{x:Str}{e:Expr}{te:TE}{pos':Pos}(a:X.N.Nodup)(hi:X.N[i]?=some x)(hx:Loc X.env.scope x)(b:PE X e te)(c:swapsWith e (some (.Name x pos')) pos.line X.env=pure false:=by rfl)(d:X.fn x=true\/X.env.scope.names.lookup x=some .local:=by first|exact .inl rfl|exact .inr rfl|assumption):
  PS X (.Assign [.Name x pos'] e pos) (Hq te (ou i)):=by
 intro pins s σ H D I h;refine wpAny_Assign_Name (aJ (b pins s σ H _ I h) λv k ⟨y,H1,f,r1,g⟩=>?_) c;exact rP f a hi hx r1 (λl j=>⟨_,H1,j,g⟩) d
def TJ(i j:Nat)(ta:TA):TS:=λD σ H=>ta σ H λvs H1=>∃v w,vs=[v,w]/\D.nx ((σ.set i (some v)).set j (some w)) H1
theorem Qs{i j:Nat}{x y:Str}{a b:Expr}{ta:TA}{px py pt:Pos}{kt k2 c}(hc:X.calm=true)(r:X.N.Nodup)(hi:X.N[i]? =some x)(u:X.N[j]? =some y)(k:i≠j)
  (hx:X.env.scope.names.lookup x=some .local)(hy:X.env.scope.names.lookup y=some .local)(z:PA X [a,b] ta)
  (B:swappedStores [.Tuple [.Name x px,.Name y py] kt pt] (.Tuple [a,b] k2 c) X.env=pure (some [x,y]))
  (C:swapsWithSole [.Tuple [.Name x px,.Name y py] kt pt] (.Tuple [a,b] k2 c) pos.line X.env=pure false:=by rfl):
  PS X (.Assign [.Tuple [.Name x px,.Name y py] kt pt] (.Tuple [a,b] k2 c) pos) (TJ i j ta):=by
 intro pins s σ H D I h
 rw[exec_Assign_arm]
 refine af (wz ?_)
 rw[C]
 refine af (aD ?_)
 rw[ak δ]
 refine af (Tuple_ (aJ (z _ pins s σ H _ I h) λE d ⟨vs,H1,F,r1,l⟩=> ?_))
 obtain⟨v,w,G,l⟩:=l
 subst G
 obtain⟨f,g,rfl,J,m⟩:∃f g,E=[f,g]/\RelV v f/\RelV w g:=by
  cases r1 with
  |cons p q=>
   cases q with
   |cons K L=>
    cases L
    exact⟨_,_,rfl,p,K⟩
 refine gc ?_ (by show 2<=sizeLine;decide)
 have M:Inv X pins σ H1 {d with heap:=d.heap.push {cls:= .type "tuple",data:= .seq [f,g].toArray}}:=F.kept (t':=d.toks) λb o e=>bA _ e
 rw[B]
 refine af (aD ?_)
 show wpAny (model X.prog X.w) X.A (do rule "assign.swapped-stores";let items <-unpackItems (.ref d.heap.objs.size) 2 none;assignInOrder [λv=>bindName X.env y v,λv=>bindName X.env x v] items.reverse;pure Flow.next) _ _ _
 refine af (j5 (af (unpackItems_tuple (items:= #[f,g]) (I.ok.hd hc) (IsTup.new d.heap _) λh' n=> ?_)))
 have O:=M.kept (h':=h') (t':=d.toks) λb o e=>n b o (bI (aV e)) e
 show wpAny _ _ (assignInOrder [λv=>bindName X.env y v,λv=>bindName X.env x v] [g,f]>>=λ_=>pure Flow.next) _ _ _
 refine af (assignInOrder_cons (wpAny_bindName (rP O r u (.inl hy) m (λQ P=> ?_) (.inr hy))))
 refine assignInOrder_cons (wpAny_bindName (rP P r hi (.inl hx) J (λR t=>assignInOrder_nil (aD ?_)) (.inr hx)))
 rw[List.set_comm _ _ (Ne.symm k)] at t
 exact⟨_,H1,t,l⟩
def Td(i:Nat)(te:TE)(ti:tE):TS:=λD σ H=>∃x,σ[i]?=some (some x)/\te σ H λy H1=>ti x y H1 λz H2=>D.nx (σ.set i (some z)) H2
theorem Qm{i:Nat}{x:Str}{e:Expr}{te:TE}{op:Operator}{ti:tE}{pos':Pos}(g:X.N.Nodup)(hi:X.N[i]?=some x)(hx:Loc X.env.scope x)(j:PE X e te)(n:AO X op ti)(o:X.fn x=true\/X.env.scope.names.lookup x=some .local:=by first|exact .inl rfl|exact .inr rfl|assumption):
  PS X (.AugAssign (.Name x pos') op e pos) (Td i te ti):=by
 intro pins s σ H D I h;obtain⟨v,p,h⟩:=h;obtain⟨m,q,hl⟩:=I.loc;have f:nQ X.env.scope x:=by rcases hx with k|k;exact .inl k;exact .inr (.inl k)
 obtain⟨u,r,l⟩:=hl i x v hi p f;refine wpAny_AugAssign_Name ?_;have go:wpAny (model X.prog X.w) X.A (eval e X.env) (λw b=>wpAny (model X.prog X.w) X.A (inplaceOp op u w) (λr d=>wpAny (model X.prog X.w) X.A (storeName X.env x r) (λ_=>SP X pins D .next) X.xe d) X.xe b) X.xe s:=by
  refine aJ (j pins s σ H _ I h) λw t ⟨y,H1,B,r1,C⟩=>?_;refine aJ (n pins t σ H1 v y u w _ B r r1 C) λz L ⟨M,H2,E,F,G⟩=>?_;exact rP E g hi hx F (λO J=>⟨_,H2,J,G⟩) o
 rcases l with⟨hk,K⟩|⟨hk,c,hc,a⟩
 .exact wpAny_loadName_local I.ok.kind hk q K go
 .rcases hk with hk|hk
  .exact wpAny_loadName_cell I.ok.kind hk hc a go
  .rcases hx with k|k
   .have:X.env.scope.names.lookup x=some .free:=hk
    rw[k] at this;cases this
   .have:X.env.scope.names.lookup x=some .free:=hk
    rw[k] at this;cases this
noncomputable def M3(f:Int->Int->Int):tE:=λx y H Q=>∃i j,x=.int i/\y=.int j/\Q (.int (f i j)) H
theorem M4:AO X .Add (M3 λi j=>i+j):=by
 intro pins s σ H x y v u Q I r1 a h;obtain⟨i,j,b,c,q⟩:=h;subst b;subst c;obtain⟨t,rfl⟩:=r1;obtain⟨t',rfl⟩:=a;exact iadd_int ⟨.int _,H,I.tok _,⟨_,rfl⟩,q⟩
end
section
variable{X:Cx}{pos:Pos}
def T3(c:TT)(tb:TS):TS:=λD σ H=>∃W:Nat->St->Hp->Prop,(∃m,W m σ H)/\∀m σ H,W m σ H->
 c σ H λb H1=>if b=true then ∃N:St->Hp->Prop,(∀σ' H',N σ' H'->∃m',m'<m/\W m' σ' H')/\tb {D with nx:=N,ct:=N,bk:=D.nx} σ H1 else D.nx σ H1
theorem Qx{c:Expr}{body:List Stmt}{tc:TT}{tb:TS}(o:PassesOwn (model X.prog X.w) X.A X.env X.xe)(hc:PT X c tc)(r:c6 X body tb):PS X (.While c body [] pos) (T3 tc tb):=by
 intro pins s σ H D I h;obtain⟨W,⟨m0,t⟩,turn⟩:=h;refine wpAny_While (codeAny_whileLoop (λn s'=>∃σ' H',Inv X pins σ' H' s'/\W n σ' H') ?_ m0 ⟨σ,H,I,t⟩);rintro n u ⟨d,H1,x,y⟩;refine nu o (aJ (hc pins u d H1 _ x (turn n d H1 y)) λb z ⟨H2,p,g⟩=>?_);cases b with
 |true=>
  obtain⟨N,q,g⟩:=g;rw[ao rfl];refine nu o (aJ (r pins z d H2 _ p g) λf B i=>?_);cases f with
  |next=>
   obtain⟨a,e,j,n3⟩:=i;obtain⟨k,l,m⟩:=q a e n3;exact⟨k,l,a,e,j,m⟩
  |cont=>
   obtain⟨a,e,j,n3⟩:=i;obtain⟨k,l,m⟩:=q a e n3;exact⟨k,l,a,e,j,m⟩
  |brk=>exact i
  |ret v=>exact i
 |false=>
  rw[ak b6];exact sr ⟨d,H2,p,g⟩
end
structure It where
 go:Nat->Hp->Prop
 v8:Nat->Hp->V->Hp->Prop
 stop:Nat->Hp->Prop
def gC(X:Cx)(pins:aT)(H:Hp)(b:Addr):Prop:=
 H b=none/\b≠X.env.locals/\b∉X.fs/\(b∈X.ex\/X.s₀.heap.objs.size<=b)/\(∀x c,X.env.cells.lookup x=some c->c≠b)/\∀p∈X.pn++pins,p.1≠b
theorem Inv.lC{X:Cx}{pins:aT}{σ:St}{H H':Hp}{s:Shared}{b:Addr}(I:Inv X pins σ H s)(a:s.heap.objs.size<=b)(d:H' b=none):gC X pins H' b:=by
 refine⟨d,jy (cK I.lt a),I.OE a,.inr (cV I.sz a),λx c e z=>?_,λp f z=>?_⟩
 .obtain⟨v,q⟩:=I.cell x c e
  exact absurd (cK q.lt (by rw[z];exact a)) (fy _)
 .exact absurd (cK (aV (I.pin p f).1) (by rw[z];exact a)) (fy _)
structure Turn(P:Program)(w:World)(K:Frag)(tg:Expr)(J:It)(fp:List Addr)(it:Addr)(tn:Nat->Heap->Prop):Prop where
 mem:it∈fp
 obj:∀i h,tn i h->∀b∈fp,∃o,h.get? b=some o/\∀v,o.data≠ .cell v
 keep:∀i h h',tn i h->(∀b∈fp,∀o,h.get? b=some o->h'.get? b=some o)->tn i h'
 item:∀(X:Cx),X.prog=P->X.w=w->X.K=K->X.calm=true->∀(i:Nat) (pins:aT) (s:Shared) (σ:St) (H:Hp) (E:aR),Inv X pins σ H s->(∀b∈fp,gC X pins H b)->tn i s.heap->J.go i H->
  wpAny (model P w) X.A (pyNext (.ref it)) (λr s1=>∃u,r=some u/\
   wpAny (model P w) X.A (letOwnedTupleGo tg (.ref it) u) (λ_ s2=>∃x H',Inv X pins σ H' s2/\RelV x u/\J.v8 i H x H'/\tn (i+1) s2.heap/\∀b∈fp,H' b=none) E s1) E s
 done:∀(X:Cx),X.prog=P->X.w=w->X.K=K->X.calm=true->∀(i:Nat) (pins:aT) (s:Shared) (σ:St) (H:Hp) (E:aR),Inv X pins σ H s->(∀b∈fp,gC X pins H b)->tn i s.heap->J.stop i H->
  wpAny (model P w) X.A (pyNext (.ref it)) (λr s1=>r=none/\Inv X pins σ H s1) E s
 self:∀(A:Around) (i:Nat) (s:Shared) (Q:aR) (E:aR),tn i s.heap->Q (.ref it) s->wpAny (model P w) A (pyIter (.ref it)) Q E s
abbrev TI:=St->Hp->(It->Hp->Prop)->Prop
def w4(X:Cx)(pins:aT)(σ:St)(tg:Expr)(R:It->Hp->Prop)(itv:Value)(s2:Shared):Prop:=
 ∃(it:Addr) (fp:List Addr) (tn:Nat->Heap->Prop) (J:It) (H':Hp),itv=.ref it/\Inv X pins σ H' s2/\Turn X.prog X.w X.K tg J fp it tn/\tn 0 s2.heap/\(∀b∈fp,gC X pins H' b)/\R J H'
def PI(X:Cx)(tg iter:Expr)(wi:TI):Prop:=
 ∀(pins:aT) (s:Shared) (σ:St) (H:Hp) (R:It->Hp->Prop),Inv X pins σ H s->wi σ H R->
  wpAny (model X.prog X.w) X.A (eval iter X.env) (λv s1=>wpAny (model X.prog X.w) X.A (pyIter v) (w4 X pins σ tg R) X.xe s1) X.xe s
theorem qF{M:Model}{A:Around}{E:aR}{s:Shared}{tg:Expr}{it:Addr}{u:Value}{o:Obj}{n:String}{vs:Array Value}{Q:Unit->Shared->Prop}(b:s.heap.get? it=some o)(hc:o.cls=.type n)(hd:o.data=.fields vs)
  (c:["enumerate","zip","dict_itemiterator","dict_reverseitemiterator","odict_iterator","itertools.zip_longest","itertools.pairwise"].contains n=false)(a:Q () s):wpAny M A (letOwnedTupleGo tg (.ref it) u) Q E s:=by
 unfold letOwnedTupleGo;cases tg<;>first
  |exact aD a
  |(cases u<;>first
    |exact aD a
    |(refine af (wpAny_load b ?_)
      rw[hc,hd];show wpAny M A (if (["enumerate","zip","dict_itemiterator","dict_reverseitemiterator","odict_iterator","itertools.zip_longest","itertools.pairwise"].contains n&&vs[0]? ==some (rawInt _))=true then _ else _) Q E s;rw[ak (by intro h;rw[c,Bool.false_and] at h;cases h)];exact aD a))
noncomputable def sR(K:Frag)(a:Addr):It:=
 ⟨λi H=>∃xs x,aY K H a xs/\xs[i]?=some x,λi H x H'=>H'=H/\∀xs,aY K H a xs->xs[i]?=some x,λi H=>∃xs,aY K H a xs/\xs.length<=i⟩
noncomputable def wW(K:Frag)(a:Addr):It:=
 ⟨λi H=>∃xs x,bQ K H a xs/\xs[i]?=some x,λi H x H'=>H'=H/\∀xs,bQ K H a xs->xs[i]?=some x,λi H=>∃xs,bQ K H a xs/\xs.length<=i⟩
noncomputable def sS(lo:Int)(n:Nat):It:=⟨λi _=>i<n,λi H x H'=>H'=H/\x=.int (lo+i),λi _=>n<=i⟩
theorem Uk{P:Program}{w:World}{K:Frag}{tg:Expr}(a it:Addr):Turn P w K tg (sR K a) [it] it (λi h=>h.IsListIter it a i) where
 mem:=θ
 obj:=λi h st b f=>by
  have e:b=it:=by simpa using f
  subst e
  obtain⟨o,e,c,d⟩:=st
  exact⟨o,e,λv z=>by rw[d] at z;cases z⟩
 keep:=λi h h' st k=>st.at λo e=>k it θ o e
 item:=by
  intro X m n q hc i pins s σ H E I j st r
  subst m n q
  obtain⟨xs,x,l,hx⟩:=r
  obtain⟨its,t,p,hz⟩:=I.list l
  obtain⟨u,B,C⟩:=t.get hx
  obtain⟨f0,f1,f2,y,f4,A⟩:=j it θ
  refine wpAny_pyNext_list_item st p.isList (x:=u) (by simpa using B) λh' g D=> ?_
  have F:Inv X pins σ H {s with heap:=h'}:=I.turned (t':=s.toks) (λb o f e=>(D.2 b f).trans e) f0 f1 y f4 A
  obtain⟨o,e,c,d⟩:=id g
  exact⟨u,rfl,qF (s:={s with heap:=h'}) e c d δ ⟨x,H,F,C,⟨rfl,λys hy=>by rw[I.yY hy l];exact hx⟩,g,λb f=>(j b f).1⟩⟩
 done:=by
  intro X m n q hc i pins s σ H E I j st r
  subst m n q
  obtain⟨xs,l,hx⟩:=r
  obtain⟨its,t,p,hz⟩:=I.list l
  obtain⟨f0,f1,f2,y,f4,A⟩:=j it θ
  have hl:=t.length
  exact wpAny_pyNext_list_end (I.ok.hd hc) st p.isList (by simp;omega) λh' G=>⟨rfl,I.turned (t':=s.toks) (λb o f e=>G b o f e) f0 f1 y f4 A⟩
 self:=λ_ _ _ _ _ st h=>wpAny_pyIter_listiter st h
theorem Uq{P:Program}{w:World}{K:Frag}{tg:Expr}(a it:Addr):Turn P w K tg (wW K a) [it] it (λi h=>h.IsTupleIter it a i) where
 mem:=θ
 obj:=λi h st b f=>by
  have e:b=it:=by simpa using f
  subst e
  obtain⟨o,e,c,d⟩:=st
  exact⟨o,e,λv z=>by rw[d] at z;cases z⟩
 keep:=λi h h' st k=>st.at λo e=>k it θ o e
 item:=by
  intro X m n q hc i pins s σ H E I j st r
  subst m n q
  obtain⟨xs,x,l,hx⟩:=r
  obtain⟨its,t,p,hz⟩:=I.tuple l
  obtain⟨u,B,C⟩:=t.get hx
  obtain⟨f0,f1,f2,y,f4,A⟩:=j it θ
  refine wpAny_pyNext_tuple_item st (show s.heap.IsTuple a its.toArray from p) (x:=u) (by simpa using B) λh' g D=> ?_
  have F:Inv X pins σ H {s with heap:=h'}:=I.turned (t':=s.toks) (λb o f e=>(D.2 b f).trans e) f0 f1 y f4 A
  obtain⟨o,e,c,d⟩:=id g
  exact⟨u,rfl,qF (s:={s with heap:=h'}) e c d δ ⟨x,H,F,C,⟨rfl,λys hy=>by rw[I.Ue hy l];exact hx⟩,g,λb f=>(j b f).1⟩⟩
 done:=by
  intro X m n q hc i pins s σ H E I j st r
  subst m n q
  obtain⟨xs,l,hx⟩:=r
  obtain⟨its,t,p,hz⟩:=I.tuple l
  obtain⟨f0,f1,f2,y,f4,A⟩:=j it θ
  have hl:=t.length
  exact wpAny_pyNext_tuple_end (I.ok.hd hc) st (show s.heap.IsTuple a its.toArray from p) (by simp;omega) λh' G=>⟨rfl,I.turned (t':=s.toks) (λb o f e=>G b o f e) f0 f1 y f4 A⟩
 self:=λ_ _ _ _ _ st h=>wpAny_pyIter_tupleiter st h
theorem Ul{P:Program}{w:World}{K:Frag}{tg:Expr}(it:Addr)(lo:Int)(n:Nat):Turn P w K tg (sS lo n) [it] it (λi h=>IsRangeIter h it (lo+(i:Nat)*1) ((n:Int) - (i:Nat)) 1) where
 mem:=θ
 obj:=λi h st b a=>by
  have e:b=it:=by simpa using a
  subst e
  exact⟨_,st,λv z=>by
   have q:Data.fields _=Data.cell v:=z
   cases q⟩
 keep:=λi h h' st k=>k it θ _ st
 item:=by
  intro X f g j hc i pins s σ H E I d st l
  subst f g j
  obtain⟨f0,f1,f2,m,f4,p⟩:=d it θ
  have W:=Walks.range (prog:=X.prog) (w:=X.w) (I.ok.hd hc) it lo 1 n
  refine W.item i s _ _ l st λv h' tk r c u=> ?_
  obtain⟨t,rfl⟩:=r
  have x:Inv X pins σ H {s with heap:=h',toks:=tk}:=I.turned (λb o a e=>u b o (by simpa using a) e) f0 f1 m f4 p
  refine⟨_,rfl,qF (s:={s with heap:=h',toks:=tk}) (n:="range_iterator") c rfl rfl δ ⟨.int (lo+i),H,x,⟨t,?_⟩,⟨rfl,rfl⟩,c,λb a=>(d b a).1⟩⟩
  rw[mul_one]
 done:=by
  intro X f g j hc i pins s σ H E I d st l
  subst f g j
  obtain⟨f0,f1,f2,m,f4,p⟩:=d it θ
  exact wpAny_pyNext_range_end (I.ok.hd hc) st (by have:n<=i:=l;omega) λh' y=>⟨rfl,I.turned (t':=s.toks) (λb o a e=>y b o a e) f0 f1 m f4 p⟩
 self:=λ_ _ _ _ _ st h=>wpAny_pyIter_rangeiter st h
section
variable{X:Cx}{tg:Expr}
theorem QN{pins:aT}{σ:St}{H:Hp}{s:Shared}{R:It->Hp->Prop}{E:aR}{lo hi:Int}{t u v:Tok}{tk:Nat}(I:Inv X pins σ H s)(h1: -(2 ^ 62)<=lo)(h2:lo<2 ^ 62)(c: -(2 ^ 62)<=hi)(d:hi<2 ^ 62)
  (q:R (sS lo (hi - lo).toNat) H):wpAny (model X.prog X.w) X.A (pyIter (.ref s.heap.objs.size)) (w4 X pins σ tg R) E {s with heap:=s.heap.push {cls:=.type "range",data:=.fields #[.int lo t,.int hi u,.int 1 v]},toks:=tk}:=by
 refine wpAny_pyIter_range (IsRange.new ..) (small_one h1 h2 c d) ?_;have a:Inv X pins σ H {s with heap:=s.heap.push {cls:=.type "range",data:=.fields #[.int lo t,.int hi u,.int 1 v]},toks:=tk}:=I.kept λb o e=>bA _ e;refine⟨(s.heap.push {cls:=.type "range",data:=.fields #[.int lo t,.int hi u,.int 1 v]}).objs.size,[(s.heap.push {cls:=.type "range",data:=.fields #[.int lo t,.int hi u,.int 1 v]}).objs.size],_,_,H,rfl,
  a.kept (t':=tk) λb o e=>bA _ e,Ul _ lo (hi - lo).toNat,?_,λb f=>?_,q⟩
 .have g:lo+((0:Nat):Int)*1=lo:=θ
  have h:(((hi - lo).toNat:Nat):Int) - ((0:Nat):Int)=Builtin.Range.rangeSize lo hi 1:=by rw[rangeSize_one];split<;>omega
  show IsRangeIter _ _ (lo+((0:Nat):Int)*1) ((((hi - lo).toNat:Nat):Int) - ((0:Nat):Int)) 1;rw[g,h];exact cu _ rfl
 .have e:b=(s.heap.push {cls:=.type "range",data:=.fields #[.int lo t,.int hi u,.int 1 v]}).objs.size:=by simpa using f
  subst e;exact a.lC (aG _) (a.hok.fresh (aG _))
noncomputable def MS(ta:TA):TI:=λσ H R=>ta σ H λvs H1=>∃j:Int,vs=[.int j]/\-(2 ^ 62)<=j/\j<2 ^ 62/\R (sS 0 j.toNat) H1
theorem P5{a:Expr}{ta:TA}{p pos:Pos}(c:Gl X "range")(d:X.mg "range"=none)(f:PA X [a] ta)(g:starEach [a] X.env=[(false,eval a X.env)]:=by rfl):PI X tg (.Call (.Name "range" p) [a] [] pos) (MS ta):=by
 intro pins s σ H R I h;refine Call_ (jN I c d boot_range (nc (aJ (f pos pins s σ H _ I h) λm n ⟨vs,H1,i,r1,b⟩=>?_) g rfl));obtain⟨j,e,b,k,q⟩:=b;subst e;cases r1 with
 |cons r l=>
  cases l;obtain⟨t,rfl⟩:=r;exact call_range_1 (QN i ω ω b k (by simpa using q))
def To(wi:TI)(g:TG)(tb:TS):TS:=λD σ H=>wi σ H λJ H1=>∃W:Nat->Nat->St->Hp->Prop,(∃m,W 0 m σ H1)/\∀i m σ H,W i m σ H->
 (J.stop i H/\D.nx σ H)\/(J.go i H/\∃N:St->Hp->Prop,(∀σ' H',N σ' H'->∃m',m'<m/\W (i+1) m' σ' H')/\∀x H',J.v8 i H x H'->g x σ H' λσ2 H2=>tb {D with nx:=N,ct:=N,bk:=D.nx} σ2 H2)
noncomputable def rD(fp:List Addr)(h:Heap):aT:=fp.filterMap λb=>(h.get? b).map λo=>(b,o)
theorem uC{fp:List Addr}{h:Heap}{b:Addr}{o:Obj}(a:b∈fp)(e:h.get? b=some o):(b,o)∈rD fp h:=rY.mpr ⟨b,a,by rw[e];rfl⟩
theorem OP{fp:List Addr}{h:Heap}{p:Addr×Obj}(a:p∈rD fp h):p.1∈fp/\h.get? p.1=some p.2:=by
 obtain⟨b,c,e⟩:=rY.mp a;cases q:h.get? b with
 |none=>rw[q] at e;cases e
 |some o=>
  rw[q] at e;have d:(b,o)=p:=Option.some.inj e;subst d;exact⟨c,q⟩
theorem Inv.pinned{pins:aT}{σ:St}{H:Hp}{s:Shared}{fp:List Addr}(I:Inv X pins σ H s)(f:∀b∈fp,gC X pins H b)(g:∀b∈fp,∃o,s.heap.get? b=some o/\∀v,o.data≠ .cell v):Inv X (pins++rD fp s.heap) σ H s:=
 I.EV λp h=>(b_.mp h).elim (λz=>I.pin p (gx _ z)) λz=>by
  obtain⟨a,e⟩:=OP z;obtain⟨f0,f1,f2,_⟩:=f p.1 a;obtain⟨o,c,d⟩:=g p.1 a;rw[e] at c;cases c;exact⟨e,f0,f1,f2,d⟩
theorem Inv.rV{pins pl:aT}{σ:St}{H:Hp}{s:Shared}(I:Inv X (pins++pl) σ H s):Inv X pins σ H s:=I.EV λp a=>I.pin p (gx _ (kP _ a))
theorem Qp{iter:Expr}{body:List Stmt}{wi:TI}{g:TG}{tb:TS}{pos:Pos}(y:PassesOwn (model X.prog X.w) X.A X.env X.xe)(hc:X.calm=true)(hi:PI X tg iter wi)(S:PG X tg g)(c:c6 X body tb)
  (U:∀x,foldedSetIterable iter X.env x=pure x:=by intro _;rfl):PS X (.For tg iter body [] pos) (To wi g tb):=by
 intro pins s σ H D I h;refine wpAny_For (aJ (hi pins s σ H _ I h) λv s1 h1=>aJ h1 λV s2 h2=>?_) U;obtain⟨it,fp,O,J,H2,e,Y,T,E,f2,W,⟨m0,Z⟩,turn⟩:=h2;subst e;have j:∀{H':Hp},(∀b∈fp,H' b=none)->∀b∈fp,gC X pins H' b:=λhn b c=>⟨hn b c,(f2 b c).2⟩;refine codeAny_forLoop_any (λn s'=>∃i σ' H',Inv X pins σ' H' s'/\O i s'.heap/\(∀b∈fp,H' b=none)/\W i n σ' H') ?_ m0 ⟨0,σ,H2,Y,E,λb c=>(f2 b c).1,Z⟩;rintro n P ⟨i,k,C,Q,z,B,w3⟩;rcases turn i n k C w3 with⟨stop,qn⟩|⟨go,N,hN,step⟩
 .refine nu y (aJ (T.done X rfl rfl rfl hc i pins P k C X.xe Q (j B) z stop) λr s4 ⟨F,I4⟩=>?_)
  subst F;exact sr ⟨k,C,I4,qn⟩
 .refine nu y (aJ (T.item X rfl rfl rfl hc i pins P k C X.xe Q (j B) z go) λr s4 ⟨u,F,h4⟩=>?_)
  subst F;refine nu y (aJ h4 λ_ s5 ⟨x,R,I5,r5,y5,t,G⟩=>?_);have K:=I5.pinned (j G) (T.obj _ _ t);refine nu y (aJ (S _ s5 k R x u _ K r5 (step x R y5)) λ_ s6 ⟨L,H6,I6,q6⟩=>?_);refine nu y (aJ (c _ s6 L H6 _ I6 q6) λf M q=>?_);have again:∀{a:St} {l:Hp},Inv X (pins++rD fp s5.heap) a l M->N a l->∃m,m<n/\∃i σ' H',Inv X pins σ' H' M/\O i M.heap/\(∀b∈fp,H' b=none)/\W i m σ' H':=λ {a l} p n7=>by
   obtain⟨m',hm,w7⟩:=hN a l n7;refine⟨m',hm,i+1,a,l,p.rV,T.keep _ _ _ t λb c o e=>(p.pin (b,o) (gx _ (gx _ (uC c e)))).1,λb c=>?_,w7⟩;obtain⟨o,e,d⟩:=T.obj _ _ t b c;exact(p.pin (b,o) (gx _ (gx _ (uC c e)))).2.1
  cases f with
  |next=>obtain⟨a,l,p,n7⟩:=q;exact again p n7
  |cont=>obtain⟨a,l,p,n7⟩:=q;exact again p n7
  |brk=>obtain⟨a,l,p,q⟩:=q;exact⟨a,l,p.rV,q⟩
  |ret v=>obtain⟨x7,a,l,p,r7,q⟩:=q;exact⟨x7,a,l,p.rV,r7,q⟩
end
abbrev R2:=V->V->Hp->VK->Prop
def bC(X:Cx)(f:Value->Value->Sem Value)(r:R2):Prop:=
 ∀(pins:aT) (s:Shared) (σ:St) (H:Hp) (x y:V) (v u:Value) (Q:VK),Inv X pins σ H s->RelV x v->RelV y u->r x y H Q->
  wpAny (model X.prog X.w) X.A (f v u) (EP X pins σ Q) X.xe s
def e_(X:Cx)(f:Value)(r:List V->Hp->VK->Prop):Prop:=
 ∀(pins:aT) (s:Shared) (σ:St) (H:Hp) (xs:List V) (us:List Value) (Q:VK),Inv X pins σ H s->Vals xs us->r xs H Q->
  wpAny (model X.prog X.w) X.A (call f us) (EP X pins σ Q) X.xe s
def rR(r:R2)(ta tb:TE):TE:=λσ H Q=>ta σ H λx H1=>tb σ H1 λy H2=>r x y H2 Q
noncomputable def rI(C:Int->Int->Prop)(g:Int->Int->V):R2:=λx y H Q=>∃i j,x=.int i/\y=.int j/\C i j/\Q (g i j) H
noncomputable def i7(g:Int->Int->V):R2:=λx y H Q=>∃i j,x=.int i/\y=.int j/\Q (g i j) H
section
variable{X:Cx}{a b c:Expr}{ta tb tc:TE}{pos:Pos}
theorem xK(g:PE X a ta)(i:PE X b tb){pins:aT}{s:Shared}{σ:St}{H:Hp}{R:V->V->Hp->Prop}(I:Inv X pins σ H s)
  (h:ta σ H λx H1=>tb σ H1 λy H2=>R x y H2){Q:aR}{f:Value->Value->Sem Value}
  (j:∀v u e x y H2,Inv X pins σ H2 e->RelV x v->RelV y u->R x y H2->wpAny (model X.prog X.w) X.A (f v u) Q X.xe e):
  wpAny (model X.prog X.w) X.A (eval a X.env) (λv c=>wpAny (model X.prog X.w) X.A (eval b X.env) (λu d=>wpAny (model X.prog X.w) X.A (f v u) Q X.xe d) X.xe c) X.xe s:=by
 refine aJ (g pins s σ H _ I h) λv k ⟨x,H1,l,r1,m⟩=> ?_
 refine aJ (i pins k σ H1 _ l m) λu e ⟨y,H2,n,o,p⟩=> ?_
 exact j v u e x y H2 n r1 o p
theorem PL{op:Operator}{r:R2}(c:bC X (binaryOp op) r)(d:PE X a ta)(e:PE X b tb):PE X (.BinOp a op b pos) (rR r ta tb):=by
 intro pins s σ H Q I h;exact wpAny_BinOp (xK d e I h λv u f x y H2 g i j q=>c pins f σ H2 x y v u Q g i j q)
theorem uI{f:Value->Value->Sem Value}{C:Int->Int->Prop}{g:Int->Int->Int}
  (rule:∀(i j:Int) (t u:Tok) (s:Shared) (Q:aR) (E:aR),C i j->Q (.int (g i j) s.toks) {s with toks:=s.toks+1}->wpAny (model X.prog X.w) X.A (f (.int i t) (.int j u)) Q E s):
  bC X f (rI C λi j=>.int (g i j)):=by
 intro pins s σ H x y v u Q I a b h;obtain⟨i,j,rfl,rfl,hc,q⟩:=h;obtain⟨t,rfl⟩:=a;obtain⟨t',rfl⟩:=b;exact rule i j t t' s _ _ hc ⟨.int (g i j),H,I.tok _,⟨_,rfl⟩,q⟩
theorem EC{f:Value->Value->Sem Value}{g:Int->Int->Int}
  (rule:∀(i j:Int) (t u:Tok) (s:Shared) (Q:aR) (E:aR),Q (.int (g i j) s.toks) {s with toks:=s.toks+1}->wpAny (model X.prog X.w) X.A (f (.int i t) (.int j u)) Q E s):
  bC X f (i7 λi j=>.int (g i j)):=by
 intro pins s σ H x y v u Q I a b h;obtain⟨i,j,rfl,rfl,q⟩:=h;obtain⟨t,rfl⟩:=a;obtain⟨t',rfl⟩:=b;exact rule i j t t' s _ _ ⟨.int (g i j),H,I.tok _,⟨_,rfl⟩,q⟩
theorem zo{f:Value->Value->Sem Value}{g:Int->Int->Bool}
  (rule:∀(i j:Int) (t u:Tok) (s:Shared) (Q:aR) (E:aR),Q (.bool (g i j)) s->wpAny (model X.prog X.w) X.A (f (.int i t) (.int j u)) Q E s):
  bC X f (i7 λi j=>.bl (g i j)):=by
 intro pins s σ H x y v u Q I a b h;obtain⟨i,j,rfl,rfl,q⟩:=h;obtain⟨t,rfl⟩:=a;obtain⟨t',rfl⟩:=b;exact rule i j t t' s _ _ ⟨.bl (g i j),H,I,rfl,q⟩
def Ax(i j:Int):Prop:=0<=j/\j<=1000000/\i.natAbs<2 ^ 64
def sO(i j:Int):Prop:=(-(2 ^ 64)<i/\i<2 ^ 64)\/(-(2 ^ 64)<j/\j<2 ^ 64)
theorem sO.ok{i j:Int}(h:sO i j):IntMulOk i j:=by
 rcases h with⟨h1,h2⟩|⟨h1,h2⟩
 .exact .of_left (intBits_le_64 h1 h2)
 .exact .of_right (intBits_le_64 h1 h2)
theorem OT:bC X (binaryOp .Add) (i7 λi j=>.int (i+j)):=EC λ_ _ _ _ _ _ _ q=>add_int q
theorem Pe:bC X (binaryOp .Sub) (i7 λi j=>.int (i - j)):=EC λ_ _ _ _ _ _ _ q=>sub_int q
theorem O9:bC X (binaryOp .Mult) (rI sO λi j=>.int (i*j)):=uI λ_ _ _ _ _ _ _ hc q=>mul_int q hc.ok
theorem O8:bC X (binaryOp .Mod) (rI (λ_ j=>0<j) λi j=>.int (i%j)):=uI λi j _ _ _ _ _ hc q=>by
 have h1:(0:Int)<j:=hc;exact mod_int' ω (by rw[Int.fmod_eq_emod_of_nonneg i ω];exact q)
theorem Pd:bC X (binaryOp .Pow) (rI Ax λi j=>.int (i ^ j.toNat)):=uI λ_ _ _ _ _ _ _ hc q=>pow_int_small hc.1 hc.2.1 hc.2.2 q
end
noncomputable def GS:V->V->Bool
 |.aE,.aE=>true|.aE,.int _=>true|.int _,.aE=>true|.aE,.bl _=>true|.bl _,.aE=>true|.aE,.str _=>true|.str _,.aE=>true
 |.int _,.int _=>true|.bl _,.bl _=>true|.str _,.str _=>true|.jn _,.jn _=>true
 |.int _,.str _=>true|.str _,.int _=>true|.bl _,.str _=>true|.str _,.bl _=>true
 |_,_=>false
noncomputable def zC:R2:=λx y H Q=>GS x y=true/\Q (.bl (decide (x=y))) H
noncomputable def zF:R2:=λx y H Q=>GS x y=true/\Q (.bl (!decide (x=y))) H
theorem Cq{i j:Int}:decide (V.int i=V.int j)=(i==j):=by
 rw[jY];simp
theorem Co{i j:Bool}:decide (V.bl i=V.bl j)=(i==j):=by
 rw[jY];simp
theorem Cr{i j:Str}:decide (V.str i=V.str j)=(i==j):=by
 rw[jY];simp
theorem Cp{i j:Array UInt8}:decide (V.jn i=V.jn j)=(i.toList==j.toList):=by
 rw[jY];cases i;cases j;simp
section
variable{X:Cx}{a b c:Expr}{ta tb tc:TE}{pos:Pos}
theorem cG{pins:aT}{σ:St}{H:Hp}{s:Shared}{Q:VK}{k a:Bool}(I:Inv X pins σ H s)(q:Q (.bl k) H)(e:k=a):EP X pins σ Q (.bool a) s:=by
 subst e;exact⟨.bl k,H,I,rfl,q⟩
theorem OZ:bC X (compareOp .Eq) zC:=by
 intro pins s σ H x y v u Q I c a h;obtain⟨b,q⟩:=h;cases x with
 |aE=>
  cases c;cases y with
  |aE=>cases a;exact PySem.EqNone.eq_none_none (cG I q θ)
  |bl j=>cases a;exact PySem.EqNone.eq_none_bool (cG I q θ)
  |int j=>obtain⟨t',rfl⟩:=a;exact PySem.EqNone.eq_none_int (cG I q θ)
  |str j=>obtain⟨t',rfl⟩:=a;exact PySem.EqNone.eq_none_str (cG I q θ)
  |_=>exact absurd (show false=true from b) b6
 |bl i=>
  cases c;cases y with
  |aE=>cases a;exact PySem.EqNone.eq_bool_none (cG I q θ)
  |bl j=>cases a;exact eq_bool (cG I q Co)
  |str j=>obtain⟨t',rfl⟩:=a;exact PySem.EqMixed.eq_bool_str (cG I q θ)
  |_=>exact absurd (show false=true from b) b6
 |int i=>
  obtain⟨t,rfl⟩:=c;cases y with
  |aE=>cases a;exact PySem.EqNone.eq_int_none (cG I q θ)
  |int j=>obtain⟨t',rfl⟩:=a;exact eq_int (cG I q Cq)
  |str j=>obtain⟨t',rfl⟩:=a;exact PySem.EqMixed.eq_int_str (cG I q θ)
  |_=>exact absurd (show false=true from b) b6
 |str i=>
  obtain⟨t,rfl⟩:=c;cases y with
  |aE=>cases a;exact PySem.EqNone.eq_str_none (cG I q θ)
  |bl j=>cases a;exact PySem.EqMixed.eq_str_bool (cG I q θ)
  |int j=>obtain⟨t',rfl⟩:=a;exact PySem.EqMixed.eq_str_int (cG I q θ)
  |str j=>obtain⟨t',rfl⟩:=a;exact eq_str (cG I q Cr)
  |_=>exact absurd (show false=true from b) b6
 |jn i=>
  obtain⟨t,rfl⟩:=c;cases y with
  |jn j=>obtain⟨t',rfl⟩:=a;exact PySem.W.eq_bytes (cG I q Cp)
  |_=>exact absurd (show false=true from b) b6
 |_=>cases y<;>exact absurd (show false=true from b) b6
theorem O_:bC X (compareOp .NotEq) zF:=by
 intro pins s σ H x y v u Q I c a h;obtain⟨b,q⟩:=h;cases x with
 |aE=>
  cases c;cases y with
  |aE=>cases a;exact PySem.EqNone.ne_none_none (cG I q θ)
  |bl j=>cases a;exact PySem.EqNone.ne_none_bool (cG I q θ)
  |int j=>obtain⟨t',rfl⟩:=a;exact PySem.EqNone.ne_none_int (cG I q θ)
  |str j=>obtain⟨t',rfl⟩:=a;exact PySem.EqNone.ne_none_str (cG I q θ)
  |_=>exact absurd (show false=true from b) b6
 |bl i=>
  cases c;cases y with
  |aE=>cases a;exact PySem.EqNone.ne_bool_none (cG I q θ)
  |bl j=>cases a;exact ne_bool (cG I q (cB not Co))
  |str j=>obtain⟨t',rfl⟩:=a;exact PySem.EqMixed.ne_bool_str (cG I q θ)
  |_=>exact absurd (show false=true from b) b6
 |int i=>
  obtain⟨t,rfl⟩:=c;cases y with
  |aE=>cases a;exact PySem.EqNone.ne_int_none (cG I q θ)
  |int j=>obtain⟨t',rfl⟩:=a;exact ne_int (cG I q (cB not Cq))
  |str j=>obtain⟨t',rfl⟩:=a;exact PySem.EqMixed.ne_int_str (cG I q θ)
  |_=>exact absurd (show false=true from b) b6
 |str i=>
  obtain⟨t,rfl⟩:=c;cases y with
  |aE=>cases a;exact PySem.EqNone.ne_str_none (cG I q θ)
  |bl j=>cases a;exact PySem.EqMixed.ne_str_bool (cG I q θ)
  |int j=>obtain⟨t',rfl⟩:=a;exact PySem.EqMixed.ne_str_int (cG I q θ)
  |str j=>obtain⟨t',rfl⟩:=a;exact ne_str (cG I q (cB not Cr))
  |_=>exact absurd (show false=true from b) b6
 |jn i=>
  obtain⟨t,rfl⟩:=c;cases y with
  |jn j=>obtain⟨t',rfl⟩:=a;exact PySem.W.ne_bytes (cG I q (cB not Cp))
  |_=>exact absurd (show false=true from b) b6
 |_=>cases y<;>exact absurd (show false=true from b) b6
theorem O6:bC X (compareOp .Lt) (i7 λi j=>.bl (decide (i<j))):=zo λ_ _ _ _ _ _ _ q=>lt_int q
theorem O4:bC X (compareOp .LtE) (i7 λi j=>.bl (decide (i<=j))):=zo λ_ _ _ _ _ _ _ q=>le_int q
theorem O2:bC X (compareOp .Gt) (i7 λi j=>.bl (decide (j<i))):=zo λ_ _ _ _ _ _ _ q=>gt_int q
theorem O7:bC X (compareOp .Lt) (λx y H Q=>∃i j,x=.str i/\y=.str j/\Q (.bl (decide (i.cps.toList<j.cps.toList))) H):=by
 intro pins s σ H x y v u Q I a b h;obtain⟨i,j,rfl,rfl,q⟩:=h;obtain⟨t,rfl⟩:=a;obtain⟨t',rfl⟩:=b;exact lt_str (cG I q rfl)
theorem O3:bC X (compareOp .Is) (λx y H Q=>y=.aE/\Q (.bl (decide (x=.aE))) H):=by
 intro pins s σ H x y v u Q I a b h;obtain⟨rfl,q⟩:=h;cases b;refine is_none_gen (cG I q ?_);cases x<;>first
  |(cases a;rfl)
  |(obtain⟨t,rfl⟩:=a;rfl)
theorem Pc:bC X (compareOp .IsNot) (λx y H Q=>y=.aE/\Q (.bl (!decide (x=.aE))) H):=by
 intro pins s σ H x y v u Q I a b h;obtain⟨rfl,q⟩:=h;cases b;refine isnot_none_gen (cG I q ?_);cases x<;>first
  |(cases a;rfl)
  |(obtain⟨t,rfl⟩:=a;rfl)
theorem bC.or{f:Value->Value->Sem Value}{r r':R2}(h:bC X f r)(h':bC X f r'):bC X f (λx y H Q=>r x y H Q\/r' x y H Q):=by
 intro pins s σ H x y v u Q I a b q;rcases q with q|q
 .exact h pins s σ H x y v u Q I a b q
 .exact h' pins s σ H x y v u Q I a b q
theorem lS(b:Expr){op:CmpOp}(h:op≠ .In:=by decide)(h2:op≠ .NotIn:=by decide):behindInMarks op b=false:=by
 have a:(op==CmpOp.In)=false:=by cases op<;>first|rfl|exact absurd rfl h
 have c:(op==CmpOp.NotIn)=false:=by cases op<;>first|rfl|exact absurd rfl h2
 cases b<;>simp[behindInMarks,a,c]
theorem Py{op:CmpOp}{r:R2}(c:bC X (compareOp op) r)(d:PE X a ta)(e:PE X b tb)(f:behindInMarks op b=false):PE X (.Compare a [op] [b] pos) (rR r ta tb):=by
 intro pins s σ H Q I h;exact wpAny_Compare1 (xK d e I h λv u g x y H2 i j k q=>c pins g σ H2 x y v u Q i j k q) f
def z3(t:TE):TT:=λσ H Q=>t σ H λx H'=>∃k,x=.bl k/\Q k H'
theorem QC{op:CmpOp}{r:R2}(d:bC X (compareOp op) r)(f:PE X a ta)(g:PE X b tb)(i:behindInMarks op b=false):PT X (.Compare a [op] [b] pos) (z3 (rR r ta tb)):=by
 intro pins s σ H Q I h;refine wpAny_isTrue_Compare1 (aJ (f pins s σ H _ I h) λv j ⟨x,H1,l,r1,m⟩=>aJ (g pins j σ H1 _ l m) λu n ⟨y,H2,o,p,q⟩=>
  aJ (d pins n σ H2 x y v u _ o r1 p q) λc C ⟨z,t,w,A,k,e,B⟩=>?_) i
 subst e;cases A;exact nv ⟨t,w,B⟩
def zY(r r':R2)(ta tb tc:TE):TE:=λσ H Q=>ta σ H λx H1=>tb σ H1 λy H2=>r x y H2 λz H3=>∃k,z=.bl k/\
 (if k=true then tc σ H3 λw' H4=>r' y w' H4 Q else Q (.bl false) H3)
theorem Px{op f:CmpOp}{r r':R2}(n:bC X (compareOp op) r)(g:bC X (compareOp f) r')(o:PE X a ta)(p:PE X b tb)(hc:PE X c tc)
  (q:lastMarks [op,f] [b,c]=false:=by with_unfolding_all rfl):PE X (.Compare a [op,f] [b,c] pos) (zY r r' ta tb tc):=by
 intro pins s σ H Q I h;refine Compare_chain (aJ (o pins s σ H _ I h) λv t ⟨x,H1,w,r1,A⟩=>chain_link (aJ (p pins t σ H1 _ w A) λu B ⟨y,H2,C,i,D⟩=>
  aJ (n pins B σ H2 x y v u _ C r1 i D) λd E ⟨z,j,l,F,k,e,m⟩=>?_)) q
 subst e;cases F;refine nv ?_;cases k with
 |false=>exact ite_ff ⟨.bl false,j,l,rfl,m⟩
 |true=>exact ite_tt (chain_last (aJ (hc pins E σ j _ l m) λG s4 ⟨J,K,L,M,N⟩=>g pins s4 σ K y J u G Q L i M N))
theorem QB{op f:CmpOp}{r r':R2}(n:bC X (compareOp op) r)(g:bC X (compareOp f) r')(o:PE X a ta)(p:PE X b tb)(hc:PE X c tc)
  (q:lastMarks [op,f] [b,c]=false:=by with_unfolding_all rfl):PT X (.Compare a [op,f] [b,c] pos) (z3 (zY r r' ta tb tc)):=by
 intro pins s σ H Q I h;refine isTrue_chain (aJ (o pins s σ H _ I h) λv t ⟨x,H1,w,r1,A⟩=>test_link (aJ (p pins t σ H1 _ w A) λu B ⟨y,H2,C,i,D⟩=>
  aJ (n pins B σ H2 x y v u _ C r1 i D) λd E ⟨z,j,l,F,k,e,m⟩=>?_)) q
 subst e;cases F;refine nv ?_;cases k with
 |false=>
  obtain⟨V,G,J⟩:=m;cases G;exact ite_ff ⟨j,l,J⟩
 |true=>
  refine ite_tt (test_last (aJ (hc pins E σ j _ l m) λK s4 ⟨L,M,N,O,P⟩=>aJ (g pins s4 σ M y L u K _ N i O P) λd' s5 ⟨W,R,S,T,k2,U,q5⟩=>?_));subst U;cases T;exact nv ⟨R,S,q5⟩
theorem U3{κ:Type}{kvs:List (κ×V)}{vs:List (κ×Value)}(r:KV kvs vs):(!vs.isEmpty)= !kvs.isEmpty:=by
 cases r<;>rfl
theorem U4{xs:List V}{its:List Value}(r:Vals xs its):(!its.toArray.isEmpty)= !xs.isEmpty:=by
 cases r<;>simp
theorem qQ:(sizeLine:Nat)<2 ^ 63:=by rw[kU];decide
theorem OU:bC X (binaryOp .Add) (λx y H Q=>∃i j,x=.str i/\y=.str j/\i.length+j.length<=sizeLine/\Q (.str (i++j)) H):=by
 intro pins s σ H x y v u Q I a b h;obtain⟨i,j,rfl,rfl,hz,q⟩:=h;obtain⟨t,rfl⟩:=a;obtain⟨t',rfl⟩:=b;exact add_str (λt' tk=>⟨.str (i++j),H,I.tok _,⟨_,rfl⟩,q⟩) hz
theorem vals1{x:V}{a:List Value}(r:Vals [x] a):∃u,a=[u]/\RelV x u:=by
 cases r with
 |cons r1 b=>cases b;exact⟨_,rfl,r1⟩
theorem vals2{x y:V}{a:List Value}(r:Vals [x,y] a):∃u b,a=[u,b]/\RelV x u/\RelV y b:=by
 cases r with
 |cons r1 c=>
  cases c with
  |cons d e=>cases e;exact⟨_,_,rfl,r1,d⟩
end
structure wZ(h:Heap)(x dx C:Addr)(mA:aB):Prop where
 obj:h.get? x=some (instObj C dx)
 ns:h.Ns1 dx mA
 ne:dx≠x
theorem N6{h:Heap}{dx:Addr}{c:aB}(n:h.Ns1 dx c):∃d,h.get? dx=some d/\∀name,lookIn name d=some (c name):=by
 obtain⟨o,es,ep,f,hd,g,_,i⟩:=n;refine⟨o,f,λname=>?_⟩;have e:=i name;unfold nsFind findBy at e;rw[<-Array.find?_toList] at e;unfold lookIn;rw[hd];dsimp only;split
 .rename_i y q
  rw[q] at e;exact cB some e
 .rename_i q
  rw[q] at e;have a:es.toList.any (·.refKey)=false:=by
   rw[List.any_eq_false];intro y hy;obtain⟨z,t,b⟩:=g y (Array.mem_toList_iff.mp hy);simp[DictEntry.refKey,b]
  have j:¬es.toList.any (·.refKey)=true:=by rw[a];exact b6
  rw[ak j];exact cB some e
theorem wZ.look{h:Heap}{x dx C:Addr}{b:aB}(I:wZ h x dx C b):∃a,PySem.W.InstAt h x (instObj C dx) C (some a)/\∀name,lookIn name a=some (b name):=
 let ⟨a,c,hl⟩:=N6 I.ns
 ⟨a,⟨I.obj,rfl,rfl,c⟩,hl⟩
theorem jk.some_of{v:V}{o:Option Value}(r:jk (some v) o):∃u,o=some u/\RelV v u:=by
 cases o with
 |none=>exact(show False from r).elim
 |some u=>exact⟨u,rfl,r⟩
section
variable{P:Program}{w:World}{H H':Hp}{h h':Heap}{a C dx:Addr}{fs fs':List (Str×V)}
theorem MZ(hok:cE P w H h)(e:H a=some (.ins C dx fs)):∃b,wZ h a dx C b/\(∀f,jk (fs.lookup f) (b f))/\PySem.Within b (fs.map (·.1))/\fs.length<=1000/\H dx=some (.own a):=by
 obtain⟨d,z,ne,c,b,n,r,q⟩:=(show bZ P w H h a (.ins C dx fs) from hok a _ e);exact⟨b,⟨c,n,ne⟩,r,q,z,d⟩
end
structure wL(K:Frag)(C:Addr):Prop where
 pg:plainGet K C Str.empty=true
 hd:PySem.W.hasDictIn K C=true
 po:PySem.W.plainOver K C=true
 sa:findIn K (.ref C) "__setattr__"=some (some (.builtin "object.__setattr__"))
theorem wL.get{K:Frag}{C:Addr}(c:wL K C)(f:Str):plainGet K C f=true:=c.pg
section
variable{X:Cx}{pins:aT}{σ:St}{H:Hp}{s:Shared}{A:Around}{E:aR}{Q:aR}{c:Value}{b:Bool}
inductive ic(K:Frag)(H:Hp):V->Value->Prop where
 |aE:ic K H .aE (.type "NoneType")
 |bl (x:Bool):ic K H (.bl x) (.type "bool")
 |int (i:Int):ic K H (.int i) (.type "int")
 |str (x:Str):ic K H (.str x) (.type "str")
 |om (x:UInt64):ic K H (.om x) (.type "float")
 |lst {a:Addr} {xs:List V} (e:H a=some (.lst xs)):ic K H (.ref a) (.type "list")
 |bM {a:Addr} {o:Obj} {xs:List V} (e:H a=some (.bM o (.lst xs))):ic K H (.ref a) (.type "list")
 |tup {a:Addr} {xs:List V} (e:H a=some (.tup xs)):ic K H (.ref a) (.type "tuple")
 |dK {a:Addr} {kvs:List (Key×V)} (e:H a=some (.dK kvs)):ic K H (.ref a) (.type "dict")
 |dT {a:Addr} {kvs:List (List Key×V)} (e:H a=some (.dT kvs)):ic K H (.ref a) (.type "dict")
 |ins {a C dx:Addr} {fs:List (Str×V)} (e:H a=some (.ins C dx fs)) (cl:wL K C) (ha:findIn K (.ref C) "__class__"=some (some (.builtin "object.__class__")))
  (hn:PySem.W.specialIn K (.builtin "object.__class__") "__get__"=some (some (.builtin "getset_descriptor.__get__"))) (htk:PySem.W.takesIn K (.builtin "object.__class__")=some true)
  (hm:PySem.W.mroIn K C (.type "object")=some true):ic K H (.ref a) (.ref C)
theorem M5{x:V}{u t:Value}(I:Inv X pins σ H s)(d:RelV x u)(ty:ic X.K H x t)(e:kitOne X.K t c=some b)(h:∀tk,Q (.bool b) {s with toks:=tk}):
  wpAny (model X.prog X.w) A (call (.builtin "isinstance") [u,c]) Q E s:=by
 cases ty with
 |aE=>cases (show u=Value.none from d);exact iG PySem.W.kitx_none I.eG True.intro e (λz=>nomatch z) h
 |bl y=>cases (show u=Value.bool y from d);exact iG PySem.W.kitx_bool I.eG True.intro e (λz=>nomatch z) h
 |int i=>obtain⟨t,q⟩:=(show ∃t,u=Value.int i t from d);cases q;exact iG PySem.W.kitx_int I.eG True.intro e (λz=>nomatch z) h
 |str y=>obtain⟨t,q⟩:=(show ∃t,u=Value.str y t from d);cases q;exact iG PySem.W.kitx_str I.eG True.intro e (λz=>nomatch z) h
 |om y=>obtain⟨t,q⟩:=(show ∃t,u=Value.float y t from d);cases q;exact iG PySem.W.kitx_float I.eG True.intro e (λz=>nomatch z) h
 | @lst a xs f=>
  cases (show u=Value.ref a from d);obtain⟨_,_,n,_,h1⟩:=(show bZ X.prog X.w H s.heap a (.lst xs) from I.hok a _ f);exact iG kitx_list I.eG ⟨_,h1,rfl⟩ e (λz=>nomatch z) h
 | @bM a j xs f=>
  cases (show u=Value.ref a from d);obtain⟨_,_,_,n,_,h1⟩:=(show bZ X.prog X.w H s.heap a (.bM j (.lst xs)) from I.hok a _ f);exact iG kitx_list I.eG ⟨_,h1,rfl⟩ e (λz=>nomatch z) h
 | @tup a xs f=>
  cases (show u=Value.ref a from d);obtain⟨_,_,_,p⟩:=(show bZ X.prog X.w H s.heap a (.tup xs) from I.hok a _ f);obtain⟨o,h1,h2,_⟩:=p.is;exact iG kitx_tuple I.eG ⟨o,h1,h2⟩ e (λz=>nomatch z) h
 | @dK a kvs f=>
  cases (show u=Value.ref a from d);obtain⟨_,_,vs,_,p⟩:=(show bZ X.prog X.w H s.heap a (.dK kvs) from I.hok a _ f);obtain⟨o,es,ep,h1,h2,_⟩:=p;exact iG kitx_dict I.eG ⟨o,h1,h2.1⟩ e (λz=>nomatch z) h
 | @dT a kvs f=>
  cases (show u=Value.ref a from d);obtain⟨_,_,xs,_,o,es,ep,h1,h2,_⟩:=(show bZ X.prog X.w H s.heap a (.dT kvs) from I.hok a _ f);exact iG kitx_dict I.eG ⟨o,h1,h2.1⟩ e (λz=>nomatch z) h
 | @ins a C dx fs f cl k l g m=>
  cases (show u=Value.ref a from d);obtain⟨r,O,_⟩:=MZ I.hok f;obtain⟨v,J,_⟩:=O.look;exact iG (PySem.W.kitx_own (cl.get _) cl.hd k l g m) I.eG J e (λz=>nomatch z) h
end
structure dg(k:Nat)(A:Around):Prop where
 hd:A.handled=none
 dp:A.depth+3*k+5<recursionLimit
 un:A.units+16*k+200<cLine
theorem dg.mono{j k:Nat}{A:Around}(r:dg k A)(h:j<=k):dg j A:=⟨r.hd,by have:=r.dp;omega,by have:=r.un;omega⟩
theorem dg.deeper{k:Nat}{A:Around}(r:dg (k+1) A)(env:Env):dg k (A.deeper env):=
 ⟨r.hd,by have:=r.dp;show A.depth+1+3*k+5<_;omega,by have:=r.un;show A.units+3+16*k+200<_;omega⟩
theorem dg.depth{k:Nat}{A:Around}(r:dg k A):A.depth<recursionLimit:=by have:=r.dp;omega
theorem dg.units{k:Nat}{A:Around}(r:dg k A):A.units+64<cLine:=by have:=r.un;omega
noncomputable def Tv:TA:=λ_ H Q=>Q [] H
noncomputable def Tg(ta:TE)(tr:TA):TA:=λσ H Q=>ta σ H λx H1=>tr σ H1 λxs H2=>Q (x::xs) H2
section
variable{X:Cx}{e:Expr}{es:List Expr}{te:TE}{t:TA}{pos:Pos}
theorem zq:PA X [] Tv:=λ_ _ _ _ H Q I h=>Calls.spliced_nil ⟨[],H,I,.nil,h⟩
theorem vp(a:PE X e te)(b:PA X es t)(c:starEach (e::es) X.env=(false,eval e X.env)::starEach es X.env:=by rfl):PA X (e::es) (Tg te t):=by
 intro pos pins s σ H Q I h;rw[c];show wpAny _ _ (spliced ((false,eval e X.env)::backTo pos (starEach es X.env))) _ _ s;refine Calls.spliced_cons (aJ (a pins s σ H _ I h) λu d ⟨x,H1,f,r1,g⟩=>?_);exact aJ (b pos pins d σ H1 _ f g) λl m ⟨xs,H2,i,j,k⟩=>⟨x::xs,H2,i,.cons r1 j,k⟩
def TX(t:TA):TE:=λσ H Q=>t σ H λxs H1=>xs.length<=sizeLine/\∀p,H1 p=none->Q (.ref p) (upd H1 p (.tup xs))
def Tt(t:TA):TE:=λσ H Q=>t σ H λxs H1=>xs.length<=sizeLine/\∀p,H1 p=none->Q (.ref p) (upd H1 p (.lst xs))
theorem PU{d}(h:PA X es t):PE X (.Tuple es d pos) (TX t):=by
 intro pins s σ H Q I f;refine wpAny_Tuple_spliced (aJ (h pos pins s σ H _ I f) λg a ⟨xs,H1,c,r,z,q⟩=>⟨by rw[<-r.length];exact z,?_⟩);have i:H1 a.heap.objs.size=none:=c.hok.fresh (aG _);refine⟨.ref a.heap.objs.size,upd H1 a.heap.objs.size (.tup xs),c.laid (t':=a.toks) (λb u e=>bA _ e) (aG _) ?_,rfl,q _ i⟩;exact⟨z,g,r,⟨_,cu _ rfl⟩⟩
theorem ES(h:PA X es t):PE X (.List es pos) (Tt t):=by
 intro pins s σ H Q I d;refine wpAny_List_spliced (aJ (h pos pins s σ H _ I d) λf a ⟨xs,H1,c,r,z,q⟩=>⟨by rw[<-r.length];exact z,?_⟩);have g:H1 a.heap.objs.size=none:=c.hok.fresh (aG _);refine⟨.ref a.heap.objs.size,upd H1 a.heap.objs.size (.lst xs),c.laid (t':=a.toks) (λb u e=>bA _ e) (aG _) ?_,rfl,q _ g⟩;exact⟨z,f,0,r,cu _ rfl⟩
end
abbrev Sp:=List V->Hp->VK->XK->Prop
abbrev iK:=List Env->Hp->Shared->XK->aR
structure sP(P:Program)(w:World)(K:Frag)(mg:aB)(base:Heap)(A:Around)(outer:List Env)(s:Shared)(H:Hp):Prop where
 frames:A.frames=some outer
 mod:Mod K mg base
 bs:∀b o,base.get? b=some o->s.heap.get? b=some o/\H b=none
 kj:base.objs.size<=s.heap.objs.size
 iY:s.heap.FunFrames base outer
 lD:∀b∈frs outer,H b=none
 hok:cE P w H s.heap
 bare:AllBare s.gens
def CE(outer:List Env)(P:Program)(w:World)(H:Hp)(s:Shared)(Q:VK)(u:Value)(s':Shared):Prop:=
 ∃v H',s'.os=s.os/\AllBare s'.gens/\Un (frs outer) [] H H' s.heap s'.heap/\cE P w H' s'.heap/\RelV v u/\Q v H'
def CR(CX:iK)(outer:List Env)(P:Program)(w:World)(H:Hp)(s:Shared)(Q:VK)(E:XK)(r:Result)(s':Shared):Prop:=
 match r with
 |.ok (.ret u)=>CE outer P w H s Q u s'
 |.ok _=>False
 |.error e=>CX outer H s E e s'
structure fC(P:Program)(w:World)(K:Frag)(mg:aB)(base:Heap)(CX:iK)(k:Nat)(f:Addr)(fd:FuncData)(ps:List Str)(sp:Sp):Prop where
 len:∀vs H Q E,sp vs H Q E->vs.length=ps.length
 run:∀(A:Around) (outer:List Env) (s:Shared) (H:Hp) (args:Args) (us:List Value) (vs:List V) (Q:VK) (E:XK),dg k A->sP P w K mg base A outer s H->BindsTo s fd args (ps.zip us)->Vals vs us->sp vs H Q E->
  codeAny (model P w) A (.call (.ref f) args) (CR CX outer P w H s Q E) s
theorem fC.mono{P:Program}{w:World}{K:Frag}{mg:aB}{base:Heap}{CX:iK}{j k:Nat}{f:Addr}{fd:FuncData}{ps:List Str}{sp:Sp}(F:fC P w K mg base CX j f fd ps sp)(h:j<=k):
 fC P w K mg base CX k f fd ps sp:=⟨F.len,λA outer s H args a vs Q E b=>F.run A outer s H args a vs Q E (b.mono h)⟩
theorem fC.imp{P:Program}{w:World}{K:Frag}{mg:aB}{base:Heap}{CX:iK}{k:Nat}{f:Addr}{fd:FuncData}{ps:List Str}{sp a:Sp}(F:fC P w K mg base CX k f fd ps sp)
  (h:∀vs H Q E,a vs H Q E->sp vs H Q E):fC P w K mg base CX k f fd ps a:=
 ⟨λvs H Q E q=>F.len vs H Q E (h _ _ _ _ q),λA outer s H args b vs Q E c d e g i=>F.run A outer s H args b vs Q E c d e g (h _ _ _ _ i)⟩
section
variable{X:Cx}{pins:aT}{σ:St}{H:Hp}{s s':Shared}
theorem Inv.KC(I:Inv X pins σ H s):sP X.prog X.w X.K X.mg X.base X.A X.stack s H:=
 ⟨I.ok.frames,I.ok.mod,I.bs,cV I.ok.kj I.sz,I.stack,I.zV,I.hok,I.bare⟩
theorem Inv.after{Q:VK}{u:Value}(I:Inv X pins σ H s)(h:CE X.stack X.prog X.w H s Q u s'):EP X pins σ Q u s':=by
 obtain⟨v,H',os,bare,un,hok,r,q⟩:=h;obtain⟨c,g,d,t,a⟩:=s';obtain rfl:a=s.os:=os;exact⟨v,H',I.call (h':=c) (g':=g) (d':=d) (t':=t) (ch:=[]) un hok bare (λb z=>absurd z θ),r,q⟩
end
def Hr(sp:Sp)(kC:List V)(E:XK)(t:TA):TE:=λσ H Q=>t σ H λvs H1=>sp (vs++kC) H1 Q E
def Binds(K:Frag)(fd:FuncData)(ps:List Str)(ds:List Value):Prop:=
 ∀(s:Shared) (us:List Value),K.In s.heap->(us++ds).length=ps.length->BindsTo s fd ⟨us,[]⟩ (ps.zip (us++ds))
theorem Binds.all{K:Frag}{fd:FuncData}{ps:List Str}(h:∀a:List Value,a.length=ps.length->bindArgs fd ⟨a,[]⟩=pure (ps.zip a)):Binds K fd ps []:=λs a _ hl=>by
 rw[l_] at hl ⊢;exact .of_eq (h a hl)
def Passes(CX:iK)(X:Cx)(E:XK):Prop:=∀(pins:aT) (σ:St) (H:Hp) (s:Shared) (e:Value) (s':Shared),Inv X pins σ H s->CX X.stack H s E e s'->X.xe e s'
section
variable{X:Cx}{CX:iK}{k:Nat}{f C:Addr}{fd:FuncData}{ps:List Str}{sp:Sp}{kC:List V}{ds:List Value}{E:XK}{x m:Str}{p pos apos:Pos}{e o:Expr}{es:List Expr}{ta:TE}{t:TA}
theorem FD{pins:aT}{σ:St}{H:Hp}{s:Shared}{Q:VK}{a:List Value}{vs:List V}(F:fC X.prog X.w X.K X.mg X.base CX k f fd ps sp)(d:dg k X.A)(g:Binds X.K fd ps ds)(hd:Vals kC ds)(hx:Passes CX X E)
  (I:Inv X pins σ H s)(r:Vals vs a)(h:sp (vs++kC) H Q E):wpAny (model X.prog X.w) X.A (call (.ref f) a) (EP X pins σ Q) X.xe s:=by
 have c:Vals (vs++kC) (a++ds):=r.append hd;have hl:(a++ds).length=ps.length:=by rw[<-c.length];exact F.len _ _ _ _ h
 refine wpAny_call (pT (F.run X.A X.stack s H ⟨a,[]⟩ (a++ds) (vs++kC) Q E d I.KC (g s a I.eG hl) c h) λr s' b=>?_);cases r with
 |error e=>exact hx pins σ H s e s' I b
 |ok fl=>
  cases fl with
  |ret u=>exact I.after b
  |next=>exact False.elim b
  |brk=>exact False.elim b
  |cont=>exact False.elim b
theorem Pq(F:fC X.prog X.w X.K X.mg X.base CX k f fd ps sp)(d:dg k X.A)(g:Gl X x)(i:X.mg x=some (.ref f))(j:keepIn X.K (.ref f)=true)(l:Binds X.K fd ps ds)(hd:Vals kC ds)(hx:Passes CX X E)
  (m:PA X (e::es) t)(a:(x==("__debug__":Str))=false:=by decide)(n:starEach (e::es) X.env=(false,eval e X.env)::starEach es X.env:=by rfl)(b:(backTo pos (starEach es X.env)).any (·.1)=false:=by rfl):
  PE X (.Call (.Name x p) (e::es) [] pos) (Hr sp kC E t):=by
 intro pins s σ H Q I h;refine nj (ux I g i ?_ a);refine callWith_K (h₀:=X.base) I.ok.mod.qN j (aJ (m pos pins s σ H _ I h) λo u ⟨vs,H1,c,r,q⟩=>⟨c.eG,?_⟩) n b;exact FD F d l hd hx c r q
end
structure bh(N P:List Str)(sc:Scope):Prop where
 kind:sc.kind= .function
 co:sc.isCoroutine=false
 gen:sc.isGenerator=false
 nd:N.Nodup
 pre:N.take P.length=P
 par:∀x∈P,sc.names.lookup x=some .local\/sc.names.lookup x=some .cell
 zj:∀y∈sc.names,y.2≠ .free
theorem BG{kindOf:Str->Option NameKind}{x:Str}:∀{binds:List (Str×Value)} {m:aB},(∀v,(x,v)∉binds)->bindL kindOf binds m x=m x
 |[],_,_=>rfl
 |(n,v)::r,m,h=>by
  unfold bindL;rw[BG λw a=>h w (bq _ a)];split
  .have:x≠n:=by rintro rfl;exact h v br
   simp[this]
  .rfl
theorem BE{kindOf:Str->Option NameKind}{x:Str}:∀{binds:List (Str×Value)} {m:aB},(∀v,(x,v)∉binds)->bindC kindOf binds m x=m x
 |[],_,_=>rfl
 |(n,v)::r,m,h=>by
  unfold bindC;rw[BE λw a=>h w (bq _ a)];split
  .rfl
  .have:x≠n:=by rintro rfl;exact h v br
   simp[this]
theorem BF{kindOf:Str->Option NameKind}{x:Str}{v:Value}:∀{P:List Str} {vs:List Value} {i:Nat} {m:aB},P.Nodup->P[i]?=some x->vs[i]?=some v->kindOf x=some .local->
  bindL kindOf (P.zip vs) m x=some v
 |[],_,_,_,_,h,_,_=>by simp at h
 |_::_,[],_,_,_,_,h,_=>by simp at h
 |p::P,w::vs,0,m,nd,h1,h2,a=>by
  simp at h1 h2;subst h1;subst h2;show bindL kindOf ((p,w)::P.zip vs) m p=_;unfold bindL;rw[BG λv b=>(kT.mp nd).1 (of_mem_zip b).1,ao a];simp
 |p::P,w::vs,i+1,m,nd,h1,h2,a=>by
  show bindL kindOf ((p,w)::P.zip vs) m x=_;unfold bindL;exact BF (i:=i) (kT.mp nd).2 (by simpa using h1) (by simpa using h2) a
theorem BD{kindOf:Str->Option NameKind}{x:Str}{v:Value}:∀{P:List Str} {vs:List Value} {i:Nat} {m:aB},P.Nodup->P[i]?=some x->vs[i]?=some v->kindOf x≠some .local->
  bindC kindOf (P.zip vs) m x=some v
 |[],_,_,_,_,h,_,_=>by simp at h
 |_::_,[],_,_,_,_,h,_=>by simp at h
 |p::P,w::vs,0,m,nd,h1,h2,a=>by
  simp at h1 h2;subst h1;subst h2;show bindC kindOf ((p,w)::P.zip vs) m p=_;unfold bindC;rw[BE λv b=>(kT.mp nd).1 (of_mem_zip b).1,ak a];simp
 |p::P,w::vs,i+1,m,nd,h1,h2,a=>by
  show bindC kindOf ((p,w)::P.zip vs) m x=_;unfold bindC;exact BD (i:=i) (kT.mp nd).2 (by simpa using h1) (by simpa using h2) a
noncomputable def start(N:List Str)(vs:List V):St:=vs.map some++replicate (N.length - vs.length) none
noncomputable def cS(CX:iK)(P:Program)(w:World)(K:Frag)(mg:aB)(base:Heap)(N:List Str)(qual:Str)(scope:Scope)(f:Addr)(cd:Value)(A:Around)(outer:List Env)(s:Shared)(H:Hp)(E:XK):Cx where
 prog:=P
 w:=w
 K:=K
 mg:=mg
 base:=base
 A:=A.deeper (envOfC qual scope s.heap.objs.size f cd)
 N:=N
 s₀:=s
 H₀:=H
 env:=envOfC qual scope s.heap.objs.size f cd
 outer:=outer
 stack:=envOfC qual scope s.heap.objs.size f cd::outer
 ex:=[]
 calm:=true
 fn:=λ_=>true
 pn:=[]
 xe:=λe s'=>wpAny (model P w) (A.deeper (envOfC qual scope s.heap.objs.size f cd)) (leaving (envOfC qual scope s.heap.objs.size f cd) e) (λ_ s''=>CX outer H s E e s'') (λe' s''=>CX outer H s E e' s'') s'
theorem BQ{sc:Scope}{n:Nat}{x:Str}(h:sc.names.lookup x=some .cell):∃c,(cellsFrom n sc.names []).lookup x=some c:=by
 have q:=PySem.W.cellsFrom_some sc.names n [] (.inl h);exact pF.mp q
theorem M1{CX:iK}{P:Program}{w:World}{K:Frag}{mg:aB}{base:Heap}{N ps:List Str}{qual:Str}{scope:Scope}{f:Addr}{cd:Value}{A:Around}{outer:List Env}{s o:Shared}{H:Hp}{E:XK}{m:List Value}{vs:List V}
  (S:bh N ps scope)(hd:A.handled=none)(d:sP P w K mg base A outer s H)(hl:vs.length=ps.length)(r:Vals vs m)
  (x:InCallC s s.heap.objs.size (bindL (envOfC qual scope s.heap.objs.size f cd).kindOf (ps.zip m) λ_=>none) (cellsFrom (s.heap.objs.size+1) scope.names []) (bindC (envOfC qual scope s.heap.objs.size f cd).kindOf (ps.zip m) λ_=>none) o):
  Inv (cS CX P w K mg base N qual scope f cd A outer s H E) [] (start N vs) H o:=by
 have C:ps.length<=N.length:=by have:=cB List.length S.pre;rw[lW] at this;omega
 obtain⟨h1,tk,rfl,t⟩:=x.done
 have g:∀b:Addr,b∉(cS CX P w K mg base N qual scope f cd A outer s H E).ex:=λb z=>absurd (show b∈([]:List Addr) from z) θ
 refine⟨⟨d.mod,S.kind,rfl,rfl,aG _,λy z c h1 h2=> ?_,λy hy=> ?_,λy c _ h=> ?_,λ_=>hd,Around.frames_deeper d.frames,.inr ⟨rfl,rfl⟩,λb z=>absurd z (g b),d.bs,d.kj,λb _ _=>g b,λb z=>absurd z (g b),d.iY,d.lD⟩,
  rfl,d.bare,Un.kept t,⟨_,x.toInCall.ns,λi y v h1 h2 G=> ?_⟩,λy c h=>⟨_,x.cell y c h⟩,d.hok.fresh (aG _),λy c h=> ?_,λp j=>absurd (show p∈([]:aT) from j) θ,d.hok.kept t,?_⟩
 .exact name_of_addr x.apart (l8 h1) (l8 h2)
 .have hy:scope.names.lookup y=some .cell\/scope.names.lookup y=some .free:=hy
  rcases hy with hy|hy
  .exact BQ hy
  .exact absurd rfl (S.zj _ (l8 hy))
 .exact jx (x.above y c (l8 h))
 .have hi:i<vs.length:=by
   unfold start at h2
   by_cases hi:i<vs.length
   .exact hi
   .rw[pZ (by simpa using hi)] at h2
    rw[An] at h2
    split at h2<;>cases h2
  have D:vs[i]? =some v:=by
   unfold start at h2
   rw[gB (by simpa using hi),bO] at h2
   cases e:vs[i]? with
   |none=>rw[e] at h2;cases h2
   |some a=>rw[e] at h2;cases h2;rfl
  obtain⟨u,B,F⟩:=r.get D
  have j:ps[i]? =some y:=by
   rw[<-S.pre,List.getElem?_take_of_lt ω];exact h1
  have l:ps.Nodup:=by rw[<-S.pre];exact S.nd.sublist (List.take_sublist _ _)
  refine⟨u,F,?_⟩
  rcases S.par y (bP j) with k|k
  .exact .inl ⟨k,BF l j B k⟩
  .obtain⟨c,e⟩:=BQ (n:=s.heap.objs.size+1) k
   refine .inr ⟨.inl k,c,e,?_⟩
   have q:=x.cell y c e
   rw[BD l j B (by show scope.names.lookup y≠_;rw[k];decide)] at q
   exact q
 .exact d.hok.fresh (jx (x.above y c (l8 h)))
 .unfold start
  show _=N.length
  rw[dc,aS,List.length_replicate]
  omega
theorem C5{CX:iK}{P:Program}{w:World}{K:Frag}{mg:aB}{base:Heap}{k:Nat}{f:Addr}{name qual:Str}{params:Arguments}{body:List Stmt}{scope:Scope}{z kV doc pm a ct D:Value}{an F:Option Addr}
  {j:Array (Option Value)}{N ps:List Str}{sp:Sp}(lk:K.lookup f=some ⟨D,F,.func (fnOf name qual params body scope z kV doc pm an a ct),j⟩)(l:codeIn K a qual=true)(S:bh N ps scope)
  (len:∀vs H Q E,sp vs H Q E->vs.length=ps.length)
  (c:∀(A:Around) (outer:List Env) (s:Shared) (H:Hp) (vs:List V) (Q:VK) (E:XK),dg k (A.deeper (envOfC qual scope s.heap.objs.size f a))->sp vs H Q E->
   ∃t,c6 (cS CX P w K mg base N qual scope f a A outer s H E) body t/\t {nx:=λ_ H'=>Q .aE H',rt:=Q} (start N vs) H):
  fC P w K mg base CX (k+1) f (fnOf name qual params body scope z kV doc pm an a ct) ps sp:=by
 refine⟨len,λA outer s H args G vs Q E m h L r i=> ?_⟩
 have hl:=len _ _ _ _ i
 have B:K.In s.heap:=h.mod.qN.keeps λb o e=>(h.bs b o e).1
 have lim:s.heap.NoLimit:=h.mod.nolimit.keeps λb o e=>(h.bs b o e).1
 have d:∀y∈ps.zip G,scope.names.lookup y.1=some .local\/(scope.names.lookup y.1=some .cell/\((cellsFrom (s.heap.objs.size+1) scope.names []).lookup y.1).isSome=true):=λ⟨n,v⟩ hy=>by
  rcases S.par n (of_mem_zip hy).1 with q|q
  .exact .inl q
  .exact .inr ⟨q,PySem.W.cellsFrom_some _ _ _ (.inl q)⟩
 refine codeAny_call_function m.depth (B _ _ lk) rfl S.co S.gen rfl (PySem.W.codeRec_of B l) (L _ _ _ _ ?_)
 refine wpAny_newFunctionEnv_cells S.kind d λenv M C x=> ?_
 subst M
 refine⟨lim.keeps x.toInCall.keep,codeAny_func ?_⟩
 obtain⟨t,O,R⟩:=c A outer s H vs Q E (m.deeper _) i
 have I:Inv (cS CX P w K mg base N qual scope f a A outer s H E) [] (start N vs) H C:=M1 S m.hd h hl r x
 refine jB (O [] C (start N vs) H _ I R) (λfl s' g=> ?_) λe s' g=>g
 have fin:∀{σ':St} {H':Hp} {v:V} {u:Value},Inv (cS CX P w K mg base N qual scope f a A outer s H E) [] σ' H' s'->RelV v u->Q v H'->CE outer P w H s Q u s':=
  λ {σ' H' v u} J p q=>⟨v,H',J.os,J.bare,J.base,J.hok,p,q⟩
 cases fl with
 |ret u=>
  obtain⟨v,σ',H',J,p,q⟩:=g
  exact fin J p q
 |next=>
  obtain⟨σ',H',J,q⟩:=g
  exact fin (v:=V.aE) (u:=Value.none) J rfl q
 |brk=>
  obtain⟨_,_,_,q⟩:=g
  exact False.elim q
 |cont=>
  obtain⟨_,_,_,q⟩:=g
  exact False.elim q
section
variable{X:Cx}{x:Str}{p pos:Pos}{e:Expr}{es:List Expr}{t:TA}{id T:String}{r:List V->Hp->VK->Prop}
def zX(r:List V->Hp->VK->Prop)(t:TA):TE:=λσ H Q=>t σ H λvs H1=>r vs H1 Q
theorem EM(hc:e_ X (.builtin id) r)(c:Gl X x)(d:X.mg x=none)(f:bootBuiltins x=some (.builtin id))(g:PA X (e::es) t)(i:x≠"__name__":=by decide)(a:(x==("__debug__":Str))=false:=by decide)
  (j:starEach (e::es) X.env=(false,eval e X.env)::starEach es X.env:=by rfl)(b:(backTo pos (starEach es X.env)).any (·.1)=false:=by rfl):PE X (.Call (.Name x p) (e::es) [] pos) (zX r t):=by
 intro pins s σ H Q I h;refine nj (jN I c d f ?_ i a);exact PyProof.Rows.callWith_builtin1 (aJ (g pos pins s σ H _ I h) λk l ⟨vs,H1,m,r1,n⟩=>hc pins l σ H1 vs k Q m r1 n) j b
theorem Pu(hc:e_ X (.type T) r)(c:Gl X x)(d:X.mg x=none)(f:bootBuiltins x=some (.type T))(g:PA X (e::es) t)(i:x≠"__name__":=by decide)(a:(x==("__debug__":Str))=false:=by decide)
  (j:starEach (e::es) X.env=(false,eval e X.env)::starEach es X.env:=by rfl)(b:(backTo pos (starEach es X.env)).any (·.1)=false:=by rfl):PE X (.Call (.Name x p) (e::es) [] pos) (zX r t):=by
 intro pins s σ H Q I h;refine nj (jN I c d f ?_ i a);exact nc (aJ (g pos pins s σ H _ I h) λk l ⟨vs,H1,m,r1,n⟩=>hc pins l σ H1 vs k Q m r1 n) j b
end
end L2
end
namespace HT
open PySem PyProof.Rows
section
variable{prog:Program}{w:World}{A:Around}{E:aR}{s:Shared}
theorem Jl{t b:Addr}{vs ws:List Value}{Q:aR}(l:IsTup s.heap t vs.toArray)(m:IsTup s.heap b ws.toArray)(i:vs≠[])
  (h1:ws=[]->Q (.ref t) s)(h2:ws≠[]->Q (.ref s.heap.objs.size) {s with heap:=s.heap.push {cls:= .type "tuple",data:= .seq (vs++ws).toArray}})
  (hsz:vs.length+ws.length<=sizeLine):wpAny (model prog w) A (binaryOp .Add (.ref t) (.ref b)) Q E s:=by
 obtain⟨⟨cls,dd,data,j⟩,g,hc,n,hd⟩:=id l
 obtain⟨⟨k,c,data2,d⟩,a,f,n2,hd2⟩:=id m
 simp only at hc hd f hd2
 subst hc hd f hd2
 have e:vs.toArray++ws.toArray=(vs++ws).toArray:=θ
 by_cases h:ws=[]
 .exact concat_meets ⟨_,g,rfl⟩ ⟨_,a,rfl⟩ noFill_tuple_add seq_tuple_add slot_tuple_add entry_tuple_add (args_tuple_add_2 _ _)
   (tuple_addW1 t b vs.toArray ws.toArray n n2 dd c j d (by simpa using i) (by simp[h])) ⟨g,a,h1 h⟩
 .refine concat_meets ⟨_,g,rfl⟩ ⟨_,a,rfl⟩ noFill_tuple_add seq_tuple_add slot_tuple_add entry_tuple_add (args_tuple_add_2 _ _)
   (tuple_addW2 t b vs.toArray ws.toArray n n2 dd c j d (by simpa using i) (by simpa using h) (by rw[cA,cA];exact hsz)) ⟨g,a,?_⟩
  rw[e]
  exact h2 h
noncomputable def aX(n d:Nat):Option Int->Nat
 |none=>d
 |some v=>if v<0 then (v+(n:Int)).toNat else min v.toNat n
theorem FG(n d k:Nat):aX n d (some (k:Int))=min k n:=by
 show(if (k:Int)<0 then ((k:Int)+(n:Int)).toNat else min (k:Int).toNat n)=min k n;rw[ak ω,kW]
theorem Rb(n d:Nat)(hd:d<=n)(o:Option Int):aX n d o<=n:=by
 cases o with
 |none=>exact hd
 |some v=>
  show(if v<0 then (v+(n:Int)).toNat else min v.toNat n)<=n;by_cases a:v<0
  .rw[ao a];omega
  .rw[ak a];exact Nat.min_le_right _ _
theorem BS(v:Int)(n d:Nat):(if v<0 then max (v+(n:Int)) 0 else min v (n:Int))=((aX n d (some v):Nat):Int):=by
 show(if v<0 then max (v+(n:Int)) 0 else min v (n:Int))=(((if v<0 then (v+(n:Int)).toNat else min v.toNat n):Nat):Int);by_cases a:v<0
 .simp only[ao a];omega
 .simp only[ak a];omega
theorem IS(lo hi:Option Int)(n:Nat):Builtin.Slice.sliceAdjust lo hi 1 (n:Int)=(((aX n 0 lo:Nat):Int),((aX n n hi:Nat):Int)):=by
 have h1:¬((1:Int)<0):=ω
 unfold Builtin.Slice.sliceAdjust;simp only[h1,fT];refine Prod.ext ?_ ?_
 .cases lo with
  |none=>rfl
  |some v=>exact BS v n 0
 .cases hi with
  |none=>rfl
  |some v=>exact BS v n n
theorem Qd(i j:Nat):Builtin.Slice.slicePlaces (i:Int) (j:Int) 1=j - i:=by
 unfold Builtin.Slice.slicePlaces;have h1:(1:Int)>0:=ω
 simp only[h1,jZ,Int.ediv_one];split<;>omega
theorem GY{v:Value}{o:Option Int}{Q:Option Int->Shared->Prop}(p:IsPart v o)(h:Q o s):wpAny (model prog w) A (Builtin.Slice.slicePartIndex v) Q E s:=by
 cases p with
 |none=>exact slicePart_none h
 |int i t=>exact slicePart_int h
theorem Sw{e:Addr}{c d:Value}{lo hi:Option Int}{n:Nat}{Q:Int×Int×Nat->Shared->Prop}(f:s.heap.IsSliceOf e c d .none)(pl:IsPart c lo)(pu:IsPart d hi)
  (h:Q (((aX n 0 lo:Nat):Int),1,aX n n hi - aX n 0 lo) s):wpAny (model prog w) A (Builtin.Slice.sliceApplied (.ref e) (pure (n:Int))) Q E s:=by
 obtain⟨os,a,g,b⟩:=id f;unfold Builtin.Slice.sliceApplied Builtin.Slice.sliceFields;refine af (af (jA a b (x:=c) rfl (af (jA a b (x:=d) rfl (af (jA a b (x:=.none) rfl (aD ?_)))))));refine af (slicePart_none ?_);show wpAny _ _ (if ((1:Int)==0)=true then _ else _) _ _ s;rw[ak δ];refine af (GY pl (af (GY pu (af (aD ?_)))));show wpAny _ _ (match Builtin.Slice.sliceAdjust lo hi 1 (n:Int) with|(lo,hi)=>pure (lo,(1:Int),Builtin.Slice.slicePlaces lo hi 1)) _ _ s;rw[IS lo hi n];show wpAny _ _ (pure (((aX n 0 lo:Nat):Int),(1:Int),Builtin.Slice.slicePlaces ((aX n 0 lo:Nat):Int) ((aX n n hi:Nat):Int) 1)) _ _ s;rw[Qd];exact aD h
theorem P_(xs:Array Value)(i k:Nat):((range k).filterMap λ(m:Nat)=>xs[((i:Int)+(m:Int)*1).toNat]?).toArray=((xs.toList.drop i).take k).toArray:=by
 have e:(λ(m:Nat)=>xs[((i:Int)+(m:Int)*1).toNat]?)=λm=>xs[i+m]? :=by
  funext m;have:((i:Int)+(m:Int)*1).toNat=i+m:=ω
  rw[this]
 rw[e];have:=pick_run xs i k;rw[List.filterMap_map] at this;have a:((λx=>xs[x]?)∘λx=>i+x)=λm=>xs[i+m]? :=rfl;rw[a] at this;rw[this]
theorem L7{t c:Addr}{items:Array Value}{i j:Value}{lo hi:Option Int}{Q:aR}(b:IsTup s.heap t items)(k:s.heap.IsSliceOf c i j .none)(pl:IsPart i lo)(pu:IsPart j hi)
  (l:¬(aX items.size 0 lo=0/\aX items.size items.size hi=items.size))
  (h:Q (.ref s.heap.objs.size) {s with heap:=s.heap.push {cls:= .type "tuple",data:= .seq ((items.toList.drop (aX items.size 0 lo)).take (aX items.size items.size hi - aX items.size 0 lo)).toArray}})
  (hsz:items.size<=sizeLine):wpAny (model prog w) A (getItem (.ref t) (.ref c)) Q E s:=by
 have a:sizeOk (.seq ((items.toList.drop (aX items.size 0 lo)).take (aX items.size items.size hi - aX items.size 0 lo)).toArray):=by
  show((items.toList.drop (aX items.size 0 lo)).take (aX items.size items.size hi - aX items.size 0 lo)).toArray.size<=sizeLine
  rw[cA,lW,length_drop,gw]
  omega
 have o:aX items.size items.size hi<=items.size:=Rb _ _ (aG _) hi
 obtain⟨os,d,e,n⟩:=id k
 have f:s.TypeIs (.ref c) "slice":=⟨os,d,e⟩
 unfold getItem
 try with_reducible refine gz ?_
 first|refine af (aD ?_)|skip
 refine af (wpAny_sequenceKey b.typeIs δ ?_)
 refine af (nk (name:=Str.ofString "__getitem__") b.typeIs Af
  (jb Af b.typeIs entry_tuple_getitem ?_ (args_tuple_getitem _ _)))
 show wpAny _ _ (Builtin.Tuple.tupleItemsOf (.ref t)>>=_) _ _ s
 refine af (tupleItemsOf_ b ?_)
 refine af (lZ f ?_)
 rw[ao δ]
 refine af (Sw k pl pu ?_)
 have g:¬((((aX items.size 0 lo:Nat):Int)==0&&(1:Int)==1&&(aX items.size items.size hi - aX items.size 0 lo)==items.size)=true):=by
  intro q
  rw[ia,ia] at q
  have p:((aX items.size 0 lo:Nat):Int)=0:=pV q.1.1
  have r:aX items.size items.size hi - aX items.size 0 lo=items.size:=pV q.2
  exact l ⟨ω,ω⟩
 show wpAny _ _ (if (((aX items.size 0 lo:Nat):Int)==0&&(1:Int)==1&&(aX items.size items.size hi - aX items.size 0 lo)==items.size)=true then _ else _) _ _ s
 rw[ak g,P_]
 first
  |exact af (m:=Builtin.Tuple.tupleExact _) (gc (aD ⟨_,rfl,aD h⟩) a)
  |exact af (m:=Builtin.Tuple.tupleExact _) (gc (af (aD (aD ⟨_,rfl,aD h⟩))) a)
  |exact af (af (m:=Builtin.Tuple.tupleExact _) (gc (aD (aD ⟨_,rfl,aD h⟩)) a))
  |exact af (af (m:=Builtin.Tuple.tupleExact _) (gc (aD ⟨_,rfl,aD h⟩) a))
end
end HT
section
open PySem PySem.Spec PyProof.Rows
namespace L2
abbrev TO:=St->Hp->(Option Int->Hp->Prop)->Prop
def PO(X:Cx)(e:Option Expr)(t:TO):Prop:=
 ∀(pins:aT) (s:Shared) (σ:St) (H:Hp) (Q:Option Int->Hp->Prop),Inv X pins σ H s->t σ H Q->
  wpAny (model X.prog X.w) X.A (evalPart e X.env) (λu s'=>∃o H',Inv X pins σ H' s'/\IsPart u o/\Q o H') X.xe s
noncomputable def Tz:TO:=λ_ H Q=>Q none H
noncomputable def TL(t:TE):TO:=λσ H Q=>t σ H λx H1=>∃i,x=.int i/\Q (some i) H1
section
variable{X:Cx}{e:Expr}{te:TE}{lo hi:Option Expr}{tl th:TO}{pos p2:Pos}
theorem Qf:PO X none Tz:=by
 intro pins s σ H Q I h;rw[evalPart_none];exact aD ⟨none,H,I,.none,h⟩
theorem Qg(h:PE X e te):PO X (some e) (TL te):=by
 intro pins s σ H Q I a;rw[evalPart_some];refine aJ (h pins s σ H _ I a) λu d ⟨x,H1,b,r1,c⟩=>?_;obtain⟨i,rfl,q⟩:=c;obtain⟨t,rfl⟩:=r1;exact⟨some i,H1,b,.int i t,q⟩
def mE(X:Cx)(r:V->Option Int->Option Int->Hp->VK->Prop):Prop:=
 ∀(pins:aT) (s:Shared) (σ:St) (H:Hp) (x:V) (v vl vu:Value) (lo hi:Option Int) (sl:Addr) (Q:VK),Inv X pins σ H s->RelV x v->s.heap.IsSliceOf sl vl vu .none->IsPart vl lo->IsPart vu hi->r x lo hi H Q->
  ∃T id,typeLookup (.type T) "__getitem__"=pure (some (.builtin id))/\s.TypeIs v T/\wpAny (model X.prog X.w) X.A (getItem v (.ref sl)) (EP X pins σ Q) X.xe s
theorem mE.or{r r':V->Option Int->Option Int->Hp->VK->Prop}(h:mE X r)(h':mE X r'):mE X (λx lo hi H Q=>r x lo hi H Q\/r' x lo hi H Q):=by
 intro pins s σ H x v a b lo hi c Q I d e pl pu q;rcases q with q|q
 .exact h pins s σ H x v a b lo hi c Q I d e pl pu q
 .exact h' pins s σ H x v a b lo hi c Q I d e pl pu q
def TR(r:V->Option Int->Option Int->Hp->VK->Prop)(te:TE)(tl th:TO):TE:=λσ H Q=>te σ H λx H1=>tl σ H1 λl H2=>th σ H2 λu H3=>r x l u H3 Q
theorem PM{r:V->Option Int->Option Int->Hp->VK->Prop}(g:mE X r)(i:PE X e te)(hl:PO X lo tl)(j:PO X hi th):PE X (.Subscript e (.Slice lo hi none p2) pos) (TR r te tl th):=by
 intro pins s σ H Q I h;refine Subscript_ (aJ (i pins s σ H _ I h) λv k ⟨x,H1,m,r1,n⟩=>?_);refine wpAny_Slice (aJ (hl pins k σ H1 _ m n) λc o ⟨l,H2,p,pl,t⟩=>aJ (j pins o σ H2 _ p t) λd a ⟨u,f,y,pu,z⟩=>?_);rw[evalPart_none];refine aD ?_;have B:Inv X pins σ f {a with heap:=a.heap.push {cls:=.type "slice",data:=.fields #[c,d,.none]}}:=y.kept (t':=a.toks) λb F q=>bA _ q;obtain⟨T,id,C,D,E⟩:=g pins {a with heap:=a.heap.push {cls:=.type "slice",data:=.fields #[c,d,.none]}} σ f x v c d l u a.heap.objs.size Q B r1 (Heap.IsSliceOf.new ..) pl pu z;show wpAny (model X.prog X.w) X.A (subscriptTail e (.Slice lo hi none p2) v (.ref a.heap.objs.size)) (EP X pins σ Q) X.xe {a with heap:=a.heap.push {cls:=.type "slice",data:=.fields #[c,d,.none]}};exact tail_any (ops:=[.ref a.heap.objs.size,v]) D C E (by with_unfolding_all rfl)
noncomputable def lu(xs:List V)(lo hi:Option Int):List V:=(xs.drop (HT.aX xs.length 0 lo)).take (HT.aX xs.length xs.length hi - HT.aX xs.length 0 lo)
theorem BZ(xs:List V)(lo hi:Option Int):(lu xs lo hi).length<=xs.length:=by
 unfold lu;rw[lW,length_drop];omega
noncomputable def QM(K:Frag):V->Option Int->Option Int->Hp->VK->Prop:=λx lo hi H Q=>∃a xs,x=.ref a/\bQ K H a xs/\
 ¬(HT.aX xs.length 0 lo=0/\HT.aX xs.length xs.length hi=xs.length)/\∀p,H p=none->Q (.ref p) (upd H p (.tup (lu xs lo hi)))
theorem Sv:mE X (QM X.K):=by
 intro pins s σ H x v i j lo hi k Q I e f pl pu h;obtain⟨a,xs,rfl,hx,g,q⟩:=h;cases e;obtain⟨its,r,d,hz⟩:=I.tuple hx;have c:its.toArray.size=xs.length:=by rw[cA];exact r.length.symm
 refine⟨"tuple",_,Af.lookup,d.typeIs,?_⟩;refine HT.L7 d f pl pu (by rw[c];exact g) ?_ (by rw[c];exact hz);rw[c];refine⟨.ref s.heap.objs.size,_,I.laid (t':=s.toks) (o:=.tup (lu xs lo hi)) (λb l q=>bA _ q) (aG _) ?_,rfl,q _ (I.hok.fresh (aG _))⟩;exact⟨cV (BZ xs lo hi) hz,_,(r.drop (HT.aX xs.length 0 lo)).take (HT.aX xs.length xs.length hi - HT.aX xs.length 0 lo),k_.new _ _⟩
noncomputable def QJ(K:Frag):R2:=λx y H Q=>∃a b xs ys,x=.ref a/\y=.ref b/\bQ K H a xs/\bQ K H b ys/\xs≠[]/\xs.length+ys.length<=sizeLine/\
 (ys=[]->Q (.ref a) H)/\(ys≠[]->∀p,H p=none->Q (.ref p) (upd H p (.tup (xs++ys))))
theorem Vals.zg{xs:List V}{a:List Value}(r:Vals xs a):a=[]↔xs=[]:=by
 cases r with
 |nil=>simp
 |cons _ _=>simp
theorem OX:bC X (binaryOp .Add) (QJ X.K):=by
 intro pins s σ H x y v u Q I e f h;obtain⟨a,b,xs,ys,rfl,rfl,g,i,hx,hz,j,k⟩:=h;cases e;cases f;obtain⟨its,r1,l,_⟩:=I.tuple g;obtain⟨d,c,p2,_⟩:=I.tuple i;refine HT.Jl l p2 (λz=>hx (r1.zg.mp z)) (λz=>⟨.ref a,H,I,rfl,j (c.zg.mp z)⟩) (λz=>?_) (by rw[<-r1.length,<-c.length];exact hz);refine⟨.ref s.heap.objs.size,_,I.laid (t':=s.toks) (o:=.tup (xs++ys)) (λb m q=>bA _ q) (aG _) ?_,rfl,k (λw=>z (c.zg.mpr w)) _ (I.hok.fresh (aG _))⟩;exact⟨by rw[dc];exact hz,_,r1.append c,k_.new _ _⟩
end
noncomputable def jM(n:Nat)(i:Int):Option Nat:=if 0<=i then (if i<n then some i.toNat else none) else if -(n:Int)<=i then some (i+n).toNat else none
noncomputable def cM{α:Type}(xs:List α)(i:Int):Option α:=(jM xs.length i).bind λj=>xs[j]?
theorem M9{n:Nat}{i:Int}{j:Nat}(h:jM n i=some j):seqIndex? i n=some j/\j<n/\-(n:Int)<=i/\i<n:=by
 unfold jM at h;by_cases h0:0<=i
 .rw[ao h0] at h
  by_cases h1:i<n
  .rw[ao h1] at h
   have e:i.toNat=j:=Option.some.inj h;exact⟨by rw[seqIndex_of h0 h1,e],ω,ω,h1⟩
  .rw[ak h1] at h;cases h
 .rw[ak h0] at h
  by_cases h1: -(n:Int)<=i
  .rw[ao h1] at h
   have e:(i+n).toNat=j:=Option.some.inj h;exact⟨by rw[seqIndex_neg ω h1,e],ω,h1,ω⟩
  .rw[ak h1] at h;cases h
theorem xG{α:Type}{xs:List α}{i:Int}{v:α}(h:cM xs i=some v):∃j,seqIndex? i xs.length=some j/\xs[j]?=some v/\j<xs.length/\-(xs.length:Int)<=i/\i<xs.length:=by
 unfold cM at h;cases e:jM xs.length i with
 |none=>rw[e] at h;cases h
 |some j=>
  rw[e] at h;obtain⟨h1,h2,a,b⟩:=M9 e;exact⟨j,h1,h,h2,a,b⟩
theorem nS{α:Type}{xs:List α}{j:Nat}{v:α}(h:xs[j]?=some v):cM xs (j:Int)=some v:=by
 have a:j<xs.length:=(bW.mp h).1;have e:jM xs.length (j:Int)=some j:=by
  unfold jM;rw[ao ω,ao ω];simp
 unfold cM;rw[e];exact h
def sY(b:Expr):Prop:=∀o i,subscripted b false o i=operate [o,i] (getItem o i)
def ji(X:Cx)(r:R2):Prop:=
 ∀(value slice:Expr) (pins:aT) (s:Shared) (σ:St) (H:Hp) (x y:V) (v u:Value) (Q:VK),Inv X pins σ H s->RelV x v->RelV y u->r x y H Q->
  subscripted slice false v u=operate [v,u] (getItem v u)->wpAny (model X.prog X.w) X.A (subscriptTail value slice v u) (EP X pins σ Q) X.xe s
def wY(X:Cx)(id:String)(r:V->List V->Hp->VK->Prop):Prop:=
 ∀(pins:aT) (s:Shared) (σ:St) (H:Hp) (x:V) (xs:List V) (v:Value) (us:List Value) (Q:VK),Inv X pins σ H s->RelV x v->Vals xs us->r x xs H Q->
  wpAny (model X.prog X.w) X.A (call (.builtin id) (v::us)) (EP X pins σ Q) X.xe s
section
variable{X:Cx}{a b:Expr}{ta tb:TE}{pos:Pos}
theorem ji.or{r r':R2}(h:ji X r)(h':ji X r'):ji X (λx y H Q=>r x y H Q\/r' x y H Q):=by
 intro value slice pins s σ H x y v u Q I a b q c;rcases q with q|q
 .exact h value slice pins s σ H x y v u Q I a b q c
 .exact h' value slice pins s σ H x y v u Q I a b q c
theorem ER{r:R2}(c:ji X r)(d:PE X a ta)(e:PE X b tb)(f:sY b):PE X (.Subscript a b pos) (rR r ta tb):=by
 intro pins s σ H Q I h;exact Subscript_ (xK d e I h λv u g x y H2 i j k q=>c a b pins g σ H2 x y v u Q i j k q (f _ _))
noncomputable def Ff(K:Frag):R2:=λx y H Q=>∃p xs i v,x=.ref p/\y=.int i/\aY K H p xs/\cM xs i=some v/\Q v H
noncomputable def Fi(K:Frag):R2:=λx y H Q=>∃p xs i v,x=.ref p/\y=.int i/\bQ K H p xs/\cM xs i=some v/\Q v H
noncomputable def Fg:R2:=λx y H Q=>∃z i c,x=.str z/\y=.int i/\z.length<=sizeLine/\cM z.cps.toList i=some c/\Q (.str ⟨#[c]⟩) H
theorem DN:ji X (Ff X.K):=by
 intro value slice pins s σ H x y v u Q I e f h c;obtain⟨p,xs,i,z,rfl,rfl,g,k,q⟩:=h;cases e;obtain⟨t,rfl⟩:=f;obtain⟨its,r,pl,hz⟩:=I.list g;obtain⟨j,h1,h2,n,l,m⟩:=xG k;obtain⟨w,d,a⟩:=r.get h2;have hl:=r.length;have o:=qQ;have fin:EP X pins σ Q w s:=⟨z,H,I,a,q⟩;by_cases h0:0<=i
 .have b:i.toNat=j:=by
   rw[seqIndex_of h0 m] at h1;exact Option.some.inj h1
  exact item_listR pl.isList h0 ω (by rw[b];simpa using d) fin c
 .have b:(i+(its.toArray.size:Int)).toNat=j:=by
   rw[seqIndex_neg ω l] at h1;rw[cA,<-hl];exact Option.some.inj h1
  exact subscriptTail_builtinR (x:=w) pl.isList.typeIs slot_list_getitem.lookup
   (wpAny_getItem_list_neg (Q:=λr s'=>r=w/\EP X pins σ Q r s') pl.isList ω (by rw[cA]<;>omega) ω (by rw[b];simpa using d) ⟨rfl,fin⟩) c
theorem Nc:ji X (Fi X.K):=by
 intro value slice pins s σ H x y v u Q I b c h d;obtain⟨p,xs,i,z,rfl,rfl,e,f,q⟩:=h;cases b;obtain⟨t,rfl⟩:=c;obtain⟨its,r,pl,hz⟩:=I.tuple e;obtain⟨j,h1,h2,k,l,m⟩:=xG f;obtain⟨w,g,a⟩:=r.get h2;have hl:=r.length;have n:=qQ;have fin:EP X pins σ Q w s:=⟨z,H,I,a,q⟩;exact subscriptTail_builtinR (x:=w) pl.typeIs slot_tuple_getitem.lookup
  (getItem_tuple (j:=j) (Q:=λr s'=>r=w/\EP X pins σ Q r s') pl ω ω (by rw[cA,<-hl];exact h1) (by simpa using g) ⟨rfl,fin⟩) d
theorem Nb:ji X Fg:=by
 intro value slice pins s σ H x y v u Q I a b h d;obtain⟨z,i,c,rfl,rfl,hz,e,q⟩:=h;obtain⟨t,rfl⟩:=a;obtain⟨t',rfl⟩:=b;obtain⟨j,h1,h2,m,f,g⟩:=xG e;have hl:z.cps.toList.length=z.length:=by simp[Str.length]
 rw[hl] at h1 f g;have n:=qQ;exact tail_any (typeIs_str s z t) slot_str_getitem.lookup (getItem_str (c:=c) (by
  have k:decide (i< -(2 ^ 63:Int))=false:=fM ω;have l:decide (i≥2 ^ 63)=false:=fM ω;rw[k,l,Bool.or_false]) (by rw[h1];simpa using h2) ⟨.str ⟨#[c]⟩,H,I.tok _,⟨_,rfl⟩,q⟩) d
noncomputable def Fc(K:Frag):R2:=λx y H Q=>Ff K x y H Q\/Fi K x y H Q\/Fg x y H Q
theorem Na:ji X (Fc X.K):=DN.or (Nc.or Nb)
theorem SA(lo hi:Option Int)(n:Nat):(sliceBounds lo hi none n).1=((HT.aX n 0 lo:Nat):Int)/\(sliceBounds lo hi none n).2.1=((HT.aX n n hi:Nat):Int)/\(sliceBounds lo hi none n).2.2=1:=by
 refine⟨?_,?_,rfl⟩
 .cases lo with
  |none=>simp[sliceBounds,HT.aX]
  |some i=>
   simp only[sliceBounds,HT.aX,getD_none,show(1:Int)>0 by decide,jZ];by_cases h:i<0
   .simp only[h,jZ]<;>omega
   .simp only[h,fT]<;>omega
 .cases hi with
  |none=>simp[sliceBounds,HT.aX]
  |some i=>
   simp only[sliceBounds,HT.aX,getD_none,show(1:Int)>0 by decide,jZ];by_cases h:i<0
   .simp only[h,jZ]<;>omega
   .simp only[h,fT]<;>omega
theorem Sz(its:List Value)(lo hi:Option Int):slicePick its.toArray lo hi none=((its.drop (HT.aX its.length 0 lo)).take (HT.aX its.length its.length hi - HT.aX its.length 0 lo)).toArray:=by
 obtain⟨h1,h2,a⟩:=SA lo hi its.toArray.size;unfold slicePick;rw[h1,h2,a];simp only[sliceRange_one,pick_run,cA]<;>rfl
noncomputable def QL(K:Frag):V->Option Int->Option Int->Hp->VK->Prop:=λx lo hi H Q=>∃a xs,x=.ref a/\aY K H a xs/\∀p,H p=none->Q (.ref p) (upd H p (.lst (lu xs lo hi)))
theorem Su:mE X (QL X.K):=by
 intro pins s σ H x v g i lo hi j Q I e f pl pu h;obtain⟨a,xs,rfl,hx,q⟩:=h;cases e;obtain⟨its,r,d,hz⟩:=I.list hx;have c:=r.length;refine⟨"list",_,slot_list_getitem.lookup,d.isList.typeIs,?_⟩;refine wpAny_getItem_list_slice d.isList f pl pu .none θ ?_ (by rw[cA]<;>omega);rw[Sz,<-c];refine⟨.ref s.heap.objs.size,_,I.laid (t':=s.toks) (o:=.lst (lu xs lo hi)) (λb k q=>bA _ q) (aG _) ?_,rfl,q _ (I.hok.fresh (aG _))⟩;exact⟨cV (BZ xs lo hi) hz,_,0,(r.drop (HT.aX xs.length 0 lo)).take (HT.aX xs.length xs.length hi - HT.aX xs.length 0 lo),cu _ rfl⟩
noncomputable def jJ:V->Bool
 |.aE=>true
 |.bl _=>true
 |.int _=>true
 |.str _=>true
 |_=>false
noncomputable def iW:V->V->Bool
 |.aE,.aE=>true
 |.bl a,.bl b=>a==b
 |.bl a,.int b=>(if a then 1 else 0)==b
 |.int a,.bl b=>a==(if b then 1 else 0)
 |.int a,.int b=>a==b
 |.str a,.str b=>a==b
 |_,_=>false
theorem KD{A:Around}{s:Shared}{y x:V}{u v:Value}(d:RelV y u)(c:RelV x v)(f:jJ y=true)(e:jJ x=true):SeqAt.EqAt A s u v (iW y x):=by
 cases y with
 |aE=>
  cases d;cases x with
  |aE=>cases c;exact SeqAt.EqAt.same _
  |bl b=>cases c;exact SeqAt.EqAt.none_bool b
  |int b=>obtain⟨t,rfl⟩:=c;exact SeqAt.EqAt.none_int b t
  |str b=>obtain⟨t,rfl⟩:=c;exact SeqAt.EqAt.none_str b t
  |_=>exact absurd (show false=true from e) b6
 |bl a=>
  cases d;cases x with
  |aE=>cases c;exact SeqAt.EqAt.bool_none a
  |bl b=>cases c;exact SeqAt.EqAt.bool_bool a b
  |int b=>obtain⟨t,rfl⟩:=c;exact SeqAt.EqAt.bool_int a b t
  |str b=>obtain⟨t,rfl⟩:=c;exact SeqAt.EqAt.bool_str a b t
  |_=>exact absurd (show false=true from e) b6
 |int a=>
  obtain⟨t',rfl⟩:=d;cases x with
  |aE=>cases c;exact SeqAt.EqAt.int_none a t'
  |bl b=>cases c;exact SeqAt.EqAt.int_bool a t' b
  |int b=>obtain⟨t,rfl⟩:=c;exact SeqAt.EqAt.int_int a t' b t
  |str b=>obtain⟨t,rfl⟩:=c;exact SeqAt.EqAt.int_str a t' b t
  |_=>exact absurd (show false=true from e) b6
 |str a=>
  obtain⟨t',rfl⟩:=d;cases x with
  |aE=>cases c;exact SeqAt.EqAt.str_none a t'
  |bl b=>cases c;exact SeqAt.EqAt.str_bool a t' b
  |int b=>obtain⟨t,rfl⟩:=c;exact SeqAt.EqAt.str_int a t' b t
  |str b=>obtain⟨t,rfl⟩:=c;exact SeqAt.EqAt.str_str a t' b t
  |_=>exact absurd (show false=true from e) b6
 |_=>exact absurd (show false=true from f) b6
noncomputable def gG(x:V)(u:Value):Bool:=match u with
 |.none=>iW .aE x
 |.bool b=>iW (.bl b) x
 |.int i _=>iW (.int i) x
 |.str z _=>iW (.str z) x
 |_=>false
theorem CT{x y:V}{u:Value}(r:RelV y u)(f:jJ y=true):gG x u=iW y x:=by
 cases y with
 |aE=>cases r;rfl
 |bl b=>cases r;rfl
 |int i=>obtain⟨t,rfl⟩:=r;rfl
 |str z=>obtain⟨t,rfl⟩:=r;rfl
 |_=>exact absurd (show false=true from f) b6
theorem qh{x:V}:∀{xs:List V} {a:List Value},Vals xs a->xs.all jJ=true->a.any (gG x)=xs.any λy=>iW y x
 |_,_,.nil,_=>rfl
 |y::xs,u::a,.cons r t,f=>by
  rw[all_cons,ia] at f;rw[nD,nD,CT r f.1,qh t f.2]
theorem qS{A:Around}{s:Shared}{x:V}{v:Value}(b:RelV x v)(c:jJ x=true):∀{xs:List V} {a:List Value},Vals xs a->xs.all jJ=true->∀u∈a,SeqAt.EqAt A s u v (gG x u)
 |_,_,.nil,_=>λu hu=>by cases hu
 |y::xs,u::a,.cons r t,f=>λd hu=>by
  rw[all_cons,ia] at f;rcases bz.mp hu with rfl|hu
  .rw[CT r f.1];exact KD r b f.1 c
  .exact qS b c t f.2 d hu
noncomputable def ur(x:V)(xs:List V):Bool:=xs.any λy=>iW y x
noncomputable def zE(K:Frag)(neg:Bool):R2:=λx y H Q=>∃p xs,y=.ref p/\(aY K H p xs\/bQ K H p xs)/\jJ x=true/\xs.all jJ=true/\Q (.bl (if neg then !ur x xs else ur x xs)) H
theorem ED:bC X (compareOp .In) (zE X.K false):=by
 intro pins s σ H x y v u Q I b d h;obtain⟨p,xs,rfl,hq,c,fs,q⟩:=h;cases d;rcases hq with hq|hq
 .obtain⟨its,r,pl,hz⟩:=I.list hq
  refine SeqAt.in_listAt (gG x) pl.isList (λw a=>qS b c r fs w (by simpa using a)) ⟨.bl _,H,I,rfl,?_⟩;rw[show its.toArray.any (gG x)=its.any (gG x) by simp,qh r fs];exact q
 .obtain⟨its,r,pl,hz⟩:=I.tuple hq
  refine SeqAt.in_tupleAt (gG x) pl (λw a=>qS b c r fs w (by simpa using a)) ⟨.bl _,H,I,rfl,?_⟩;rw[show its.toArray.any (gG x)=its.any (gG x) by simp,qh r fs];exact q
theorem Pb:bC X (compareOp .NotIn) (zE X.K true):=by
 intro pins s σ H x y v u Q I b d h;obtain⟨p,xs,rfl,hq,c,fs,q⟩:=h;cases d;rcases hq with hq|hq
 .obtain⟨its,r,pl,hz⟩:=I.list hq
  refine SeqAt.notIn_listAt (gG x) pl.isList (λw a=>qS b c r fs w (by simpa using a)) ⟨.bl _,H,I,rfl,?_⟩;rw[show its.toArray.any (gG x)=its.any (gG x) by simp,qh r fs];exact q
 .obtain⟨its,r,pl,hz⟩:=I.tuple hq
  refine SeqAt.notIn_tupleAt (gG x) pl (λw a=>qS b c r fs w (by simpa using a)) ⟨.bl _,H,I,rfl,?_⟩;rw[show its.toArray.any (gG x)=its.any (gG x) by simp,qh r fs];exact q
theorem Jd:e_ X (.builtin "len") (λxs H Q=>∃p ys,xs=[.ref p]/\(aY X.K H p ys\/bQ X.K H p ys)/\Q (.int ys.length) H):=by
 intro pins s σ H xs c Q I r h;obtain⟨p,ys,rfl,hq,q⟩:=h;obtain⟨u,rfl,b⟩:=vals1 r;cases b;have d:=qQ;rcases hq with hq|hq
 .obtain⟨its,r',pl,hz⟩:=I.list hq
  have a:=r'.length;exact Calls.call_len_list pl.isList (by simp only[cA]<;>omega) ⟨.int ys.length,H,I.tok _,⟨s.toks+1,by rw[cA,a]⟩,q⟩
 .obtain⟨its,r',pl,hz⟩:=I.tuple hq
  have a:=r'.length;exact len_tuple pl (by simp only[cA]<;>omega) ⟨.int ys.length,H,I.tok _,⟨s.toks+1,by rw[cA,a]⟩,q⟩
theorem Je:e_ X (.builtin "len") (λxs H Q=>∃z,xs=[.str z]/\z.length<=sizeLine/\Q (.int z.length) H):=by
 intro pins s σ H xs a Q I r h;obtain⟨z,rfl,hz,q⟩:=h;obtain⟨u,rfl,t,rfl⟩:=vals1 r;have b:=qQ;exact len_str ω ⟨.int z.length,H,I.tok _,⟨_,rfl⟩,q⟩
theorem e_.or{f:Value}{r r':List V->Hp->VK->Prop}(h:e_ X f r)(h':e_ X f r'):e_ X f (λxs H Q=>r xs H Q\/r' xs H Q):=by
 intro pins s σ H xs a Q I rs q;rcases q with q|q
 .exact h pins s σ H xs a Q I rs q
 .exact h' pins s σ H xs a Q I rs q
theorem tK:e_ X (.type "tuple") (λxs H Q=>∃p ys,xs=[.ref p]/\((aY X.K H p ys/\∀l,H l=none->Q (.ref l) (upd H l (.tup ys)))\/(bQ X.K H p ys/\Q (.ref p) H))):=by
 intro pins s σ H xs i Q I r h;obtain⟨p,ys,rfl,h⟩:=h;obtain⟨u,rfl,f⟩:=vals1 r;cases f;rcases h with⟨a,q⟩|⟨a,q⟩
 .obtain⟨its,r',pl,hz⟩:=I.list a
  have c:=r'.length;refine call_tuple_list pl.isList (λh' kp=>?_) (by simp only[cA]<;>omega);have d:Inv X pins σ H {s with heap:=h'}:=I.kept (t':=s.toks) kp;have g:Inv X pins σ (upd H h'.objs.size (.tup ys)) {s with heap:=h'.push {cls:=.type "tuple",data:=.seq its.toArray}}:=
   d.laid (t':=s.toks) (λb o e=>bA _ e) (aG _) (show bZ X.prog X.w _ _ _ (.tup ys) from⟨hz,its,r',k_.new _ _⟩)
  exact⟨.ref h'.objs.size,_,g,rfl,q _ (d.hok.fresh (aG _))⟩
 .obtain⟨its,r',pl,hz⟩:=I.tuple a
  exact call_tuple_same pl ⟨.ref p,H,I,rfl,q⟩
def z9(K:Frag)(T:String)(x:V)(H:Hp):Prop:=match x with
 |.str _=>T="str"
 |.int _=>T="int"
 |.ref p=>(T="list"/\∃xs,aY K H p xs)\/(T="tuple"/\∃o,K.lookup p=some o/\o.cls=.type "tuple"/\o.dict=none)\/
  (T="dict"/\((∃kvs,H p=some (.dK kvs))\/∃kvs,H p=some (.dT kvs)))\/(T="set"/\∃S n,H p=some (.set S n))
 |_=>False
theorem Us{pins:aT}{σ:St}{H:Hp}{s:Shared}{T:String}{x:V}{v:Value}(I:Inv X pins σ H s)(r:RelV x v)(ty:z9 X.K T x H):
  s.TypeIs v T/\∀a,v=.ref a->∃f,s.heap.get? a=some f/\f.dict=none:=by
 cases x with
 |str z=>
  obtain⟨t,rfl⟩:=r;cases (show T="str" from ty);exact⟨typeIs_str s z t,λ_ e=>nomatch e⟩
 |int i=>
  obtain⟨t,rfl⟩:=r;cases (show T="int" from ty);exact⟨typeIs_int s i t,λ_ e=>nomatch e⟩
 |ref p=>
  cases r;rcases ty with⟨rfl,xs,g⟩|⟨rfl,o,b,hc,hd⟩|⟨rfl,b⟩|⟨rfl,S,n,b⟩
  .obtain⟨its,_,pl,_⟩:=I.list g
   refine⟨pl.isList.typeIs,λa e=>?_⟩;cases e;obtain⟨o,n,e,c,hd,_⟩:=pl;exact⟨o,e,hd⟩
  .refine⟨⟨o,I.eG p o b,hc⟩,λa e=>?_⟩
   cases e;exact⟨o,I.eG _ o b,hd⟩
  .have z:∃o,s.heap.get? p=some o/\o.ExactDict:=by
    rcases b with⟨kvs,b⟩|⟨kvs,b⟩
    .obtain⟨_,_,_,_,o,_,_,e,ex,_⟩:=I.hok p _ b
     exact⟨o,e,ex⟩
    .obtain⟨_,_,_,_,o,_,_,e,ex,_⟩:=I.hok p _ b
     exact⟨o,e,ex⟩
   obtain⟨o,e,ex⟩:=z;refine⟨⟨o,e,ex.1⟩,λa d=>?_⟩;cases d;exact⟨o,e,ex.2.1⟩
  .obtain⟨o,_,_,_,e,ex,_⟩:=I.hok p _ b
   refine⟨⟨o,e,ex.1⟩,λa d=>?_⟩;cases d;exact⟨o,e,ex.2.1⟩
 |_=>exact False.elim ty
def Te(K:Frag)(T:String)(r:V->List V->Hp->VK->Prop)(to:TE)(t:TA):TE:=λσ H Q=>to σ H λx H1=>z9 K T x H1/\t σ H1 λxs H2=>r x xs H2 Q
variable{o e:Expr}{es:List Expr}{to:TE}{t:TA}{name:Str}{apos cpos:Pos}{T id:String}{r:V->List V->Hp->VK->Prop}
theorem EK(j:PlainAttrs T)(slot:Slot T name id)(f:typeOf (.builtin id)=pure (.type "method_descriptor"))(k:wY X id r)(l:PE X o to)(m:PA X (e::es) t)
  (b:attributeBase o name X.env (eval o X.env)=eval o X.env:=by rfl)
  (d:((backTo cpos (starEach (e::es) X.env)).all (λx=> !x.1)&&(backToKw cpos (keywordEach [] X.env)).all (λx=>x.1.isSome)
   &&decide ((e::es).length+([]:List Keyword).length+(if ([]:List Keyword).isEmpty then 0 else 1)<30))=true:=by rfl)
  (c:(apos.endLine==cpos.line)=true:=by rfl)(n:starEach (e::es) X.env=(false,eval e X.env)::starEach es X.env:=by rfl)(a:(backTo cpos (starEach es X.env)).any (·.1)=false:=by rfl):
  PE X (.Call (.Attribute o name apos) (e::es) [] cpos) (Te X.K T r to t):=by
 intro pins s σ H Q I h
 refine wpAny_Call_method_late b d c rfl (aJ (l pins s σ H _ I h) λv p ⟨x,H1,g,r1,ty,q⟩=> ?_)
 obtain⟨h1,h2⟩:=Us g r1 ty
 refine⟨T,id,j,slot,f,h1,h2,?_⟩
 have i:=m cpos pins p σ H1 _ g q
 rw[n] at i ⊢
 refine Calls.callWith_builtin (by show(false||(backTo cpos (starEach es X.env)).any (·.1))=false;rw[a]<;>rfl) (Calls.evalArgs_plain ?_)
 exact aJ i λu w ⟨vs,H2,y,z,A⟩=>k pins w σ H2 x vs v u Q y r1 z A
end
def sV(X:Cx)(id:String)(r:V->List V->Hp->VK->Prop):Prop:=
 ∀(pins:aT) (s:Shared) (σ:St) (H:Hp) (x:V) (xs:List V) (v:Value) (us:List Value) (Q:VK),Inv X pins σ H s->RelV x v->Vals xs us->r x xs H Q->
  wpAny (model X.prog X.w) X.A (call (.builtin id) (v::us)) (EP X pins σ Q) X.xe s
theorem Vals.one:∀{x:V} {a:List Value},Vals [x] a->∃u,a=[u]/\RelV x u
 |_,_,.cons r .nil=>⟨_,rfl,r⟩
section
variable{X:Cx}{pins:aT}{σ:St}{H:Hp}{s:Shared}{l b:Addr}{xs ys zs:List V}
theorem Inv.za{its its':List Value}{n:Nat}{f:Array Value->Array Value}{t':Nat}(I:Inv X pins σ H s)(a:H l=some (.lst xs))
  (e:s.heap.get? l=some {cls:=.type "list",data:=.seq its.toArray n})(b:f its.toArray=its'.toArray)(c:Vals ys its')(hz:ys.length<=sizeLine):
  Inv X pins σ (upd H l (.lst ys)) {s with heap:=s.heap.update l (Obj.mapSeq f),toks:=t'}:=by
 have q:=PySem.IsL.update e f;rw[b] at q;refine I.write (x:=l) (e:=l) (by rw[a];exact trivial) (.inl rfl) (λh u d g=>(pY s.heap (Obj.mapSeq f) (Ne.symm d)).trans g) ⟨_,q⟩ ?_;exact⟨hz,its',_,c,q⟩
theorem Inv.D7{its:List Value}{t':Nat}(I:Inv X pins σ H s)(a:Vals ys its)(hz:ys.length<=sizeLine):
  Inv X pins σ (upd H s.heap.objs.size (.lst ys)) {s with heap:=s.heap.push {cls:=.type "list",data:=.seq its.toArray},toks:=t'}:=
 I.laid (λ_ _ q=>bA _ q) (aG _) ⟨hz,its,0,a,cu _ rfl⟩
theorem Inv.fresh(I:Inv X pins σ H s):H s.heap.objs.size=none:=I.hok.fresh (aG _)
theorem Inv.oK(I:Inv X pins σ H s)(a:H l=some (.lst xs)):xs.length<=sizeLine/\∃(its:List Value) (n:Nat),Vals xs its/\xs.length=its.length/\s.heap.get? l=some {cls:=.type "list",data:=.seq its.toArray n}:=by
 obtain⟨z,its,n,r,e⟩:=I.hok l _ a;exact⟨z,its,n,r,r.length,e⟩
theorem Ex{n:Nat}(h:n<=sizeLine):Builtin.List.listTooLong n=false:=by
 unfold Builtin.List.listTooLong;exact fM ω
end
section
variable{X:Cx}
noncomputable def E6:V->List V->Hp->VK->Prop:=λx vs H Q=>∃l xs y,x=.ref l/\vs=[y]/\H l=some (.lst xs)/\xs.length<sizeLine/\Q .aE (upd H l (.lst (xs++[y])))
theorem oO:sV X "list.append" E6:=by
 intro pins s σ H x vs v f Q I b c h;obtain⟨l,xs,y,rfl,rfl,a,hz,q⟩:=h;cases b;obtain⟨u,rfl,d⟩:=c.one;obtain⟨z,its,n,r,hl,e⟩:=I.oK a;refine call_meets F.slot_list_append ⟨_,e,rfl⟩ F.entry_list_append (F.args_list_append_2 _ _) (PySem.list_append l its.toArray n u (by rw[cA];omega)) ⟨e,?_⟩;refine⟨.aE,_,I.za (its':=its++[u]) a e θ (r.append (.cons d .nil)) ?_,rfl,q⟩;rw[dc,List.length_singleton];omega
noncomputable def E9:V->List V->Hp->VK->Prop:=λx vs H Q=>∃l b xs zs,x=.ref l/\vs=[.ref b]/\H l=some (.lst xs)/\H b=some (.lst zs)/\xs.length+zs.length<=sizeLine/\Q .aE (upd H l (.lst (xs++zs)))
theorem Ei:sV X "list.extend" E9:=by
 intro pins s σ H x vs v p Q I f g h;obtain⟨l,b,xs,zs,rfl,rfl,d,i,hz,q⟩:=h;cases f;obtain⟨u,rfl,j⟩:=g.one;cases j;obtain⟨z,its,n,r,hl,e⟩:=I.oK d;obtain⟨t,a,n2,k,m,o⟩:=I.oK i;have hsz:its.toArray.size+a.toArray.size<=sizeLine:=by rw[cA,cA];omega
 have c:¬(!its.toArray.isEmpty&&Builtin.List.listTooLong (its.toArray.size+a.toArray.size))=true:=by
  rw[Ex hsz,Bool.and_false];exact b6
 refine call_meets F.slot_list_extend ⟨_,e,rfl⟩ F.entry_list_extend (F.args_list_extend_2 _ _)
  (AutoSeq1.list_extend_list_list_0 l its.toArray n b a.toArray n2 c (by rw[cA];omega) ω) ⟨e,o,?_⟩
 refine⟨.aE,_,I.za (its':=its++a) d e θ (r.append k) ?_,rfl,q⟩;rw[dc];omega
noncomputable def E7:R2:=λx y H Q=>∃l b xs zs,x=.ref l/\y=.ref b/\H l=some (.lst xs)/\H b=some (.lst zs)/\xs.length+zs.length<=sizeLine/\∀p,H p=none->Q (.ref p) (upd H p (.lst (xs++zs)))
theorem OV:bC X (binaryOp .Add) E7:=by
 intro pins s σ H x y v u Q I c d h;obtain⟨l,b,xs,zs,rfl,rfl,f,g,hz,q⟩:=h;cases c;cases d;obtain⟨z,its,n,r,hl,e⟩:=I.oK f;obtain⟨o,a,n2,i,j,k⟩:=I.oK g;refine PySem.P.add_list e k ?_ (by rw[cA,cA];omega);have m:its.toArray++a.toArray=(its++a).toArray:=θ
 rw[m];exact⟨.ref _,_,I.D7 (t':=s.toks) (r.append i) (by rw[dc];omega),rfl,q _ I.fresh⟩
end
section
variable{κ:Type}[DecidableEq κ]
noncomputable def eO(kvs:List (κ×V))(k:κ):Option V:=(kvs.find? λkv=>decide (kv.1=k)).map (·.2)
noncomputable def putK(kvs:List (κ×V))(k:κ)(v:V):List (κ×V):=
 if (kvs.any λkv=>decide (kv.1=k))=true then kvs.map (λkv=>if kv.1=k then (kv.1,v) else kv) else kvs++[(k,v)]
theorem Ac{p:κ×V}{r:List (κ×V)}{k:κ}(e:p.1=k):eO (p::r) k=some p.2:=by simp[eO,mu,e]
theorem Ab{p:κ×V}{r:List (κ×V)}{k:κ}(e:¬p.1=k):eO (p::r) k=eO r k:=by simp[eO,mu,e]
theorem HK(k:κ):∀kvs:List (κ×V),(kvs.any λa=>decide (a.1=k))=(eO kvs k).isSome
 |[]=>rfl
 |p::r=>by
  rw[nD];by_cases e:p.1=k
  .simp only[Ac e,cW e,Bool.true_or,Option.isSome_some]
  .rw[Ab e,fM e,Bool.false_or];exact HK k r
theorem yW(kvs:List (κ×V))(k:κ)(v:V):(putK kvs k v).length<=kvs.length+1:=by
 unfold putK;split
 .rw[aS];omega
 .rw[dc,gv,length_nil];omega
theorem jk.qJ{o:Option V}{u:Option Value}(r:jk o u):o.isSome=u.isSome:=by
 cases o with
 |none=>cases u with
  |none=>rfl
  |some _=>exact(show False from r).elim
 |some _=>cases u with
  |none=>exact(show False from r).elim
  |some _=>rfl
theorem KV.val{kvs:List (κ×V)}{vs:List (κ×Value)}(r:KV kvs vs)(k:κ):jk (eO kvs k) (valueAt vs k):=by
 unfold KV at r;induction r with
 |nil=>exact True.intro
 | @cons p q ps qs h t c=>
  obtain⟨h1,h2⟩:=h;by_cases e:p.1=k
  .have a:q.1=k:=h1.symm.trans e
   have b:valueAt (q::qs) k=some q.2:=by simp[valueAt,mu,a]
   rw[Ac e,b];exact h2
  .have a:¬q.1=k:=λz=>e (h1.trans z)
   have b:valueAt (q::qs) k=valueAt qs k:=by simp[valueAt,mu,a]
   rw[Ab e,b];exact c
theorem KV.any{kvs:List (κ×V)}{vs:List (κ×Value)}(r:KV kvs vs)(k:κ):(kvs.any λa=>decide (a.1=k))=vs.any λa=>decide (a.1=k):=by
 unfold KV at r;induction r with
 |nil=>rfl
 |cons h t b=>rw[nD,nD,b,h.1]
theorem KV.repl{kvs:List (κ×V)}{vs:List (κ×Value)}(r:KV kvs vs)(k:κ){y:V}{u:Value}(b:RelV y u):
  KV (kvs.map λa=>if a.1=k then (a.1,y) else a) (vs.map λa=>if a.1=k then (a.1,u) else a):=by
 unfold KV at r ⊢;induction r with
 |nil=>exact .nil
 | @cons p q ps qs h t c=>
  rw[ck,ck];refine .cons ?_ c;obtain⟨h1,h2⟩:=h;by_cases e:p.1=k
  .rw[ao e,ao (h1.symm.trans e)];exact⟨h1,b⟩
  .rw[ak e,ak (λz=>e (h1.trans z))];exact⟨h1,h2⟩
theorem KV.put{kvs:List (κ×V)}{vs:List (κ×Value)}(r:KV kvs vs)(k:κ){y:V}{u:Value}(a:RelV y u):KV (putK kvs k y) (stored vs k u):=by
 unfold putK stored;rw[r.any k];by_cases e:(vs.any λb=>decide (b.1=k))=true
 .rw[ao e,ao e];exact r.repl k a
 .rw[ak e,ak e];exact Paired.snoc r ⟨rfl,a⟩
theorem KV.keys{kvs:List (κ×V)}{vs:List (κ×Value)}(r:KV kvs vs):kvs.map (·.1)=vs.map (·.1):=by
 unfold KV at r;induction r with
 |nil=>rfl
 |cons h t a=>rw[ck,ck,a,h.1]
theorem KV.length{kvs:List (κ×V)}{vs:List (κ×Value)}(r:KV kvs vs):kvs.length=vs.length:=Paired.length r
end
theorem mS{P:Program}{w:World}{k:Key}{u:Value}(r:RelV (kV k) u):(c5 P w).is k u=true:=by
 cases k with
 |inl i=>obtain⟨t,e⟩:=(show ∃t,u=Value.int i t from r);subst e;exact Ol P w i t
 |inr x=>obtain⟨t,e⟩:=(show ∃t,u=Value.str x t from r);subst e;exact Om P w x t
theorem DL{P:Program}{w:World}:∀{ks:List Key} {a:List Value},Vals (ks.map kV) a->ItemsAre (c5 P w) ks a
 |[],_,r=>by rw[map_nil] at r;cases r;exact .nil
 |k::ks,_,r=>by
  rw[ck] at r;cases r with
  |cons h t=>exact .cons (mS h) (DL t)
abbrev KT(H:Hp):List (List Key×V)->List (List Key×Addr×Value)->Prop:=Paired λp q=>p.1=q.1/\H q.2.1=some (.tup (p.1.map kV))/\RelV p.2 q.2.2
theorem KT.val{H:Hp}{kvs:List (List Key×V)}{xs:List (List Key×Addr×Value)}(r:KT H kvs xs)(k:List Key):jk (eO kvs k) ((atKey xs k).map (·.2)):=by
 induction r with
 |nil=>exact True.intro
 | @cons p q ps qs h t c=>
  obtain⟨h1,_,h2⟩:=h;by_cases e:p.1=k
  .have a:q.1=k:=h1.symm.trans e
   have b:atKey (q::qs) k=some q.2:=by simp[atKey,mu,a]
   rw[Ac e,b];exact h2
  .have a:¬q.1=k:=λz=>e (h1.trans z)
   have b:atKey (q::qs) k=atKey qs k:=by simp[atKey,mu,a]
   rw[Ab e,b];exact c
theorem KT.repl{H:Hp}{kvs:List (List Key×V)}{xs:List (List Key×Addr×Value)}(r:KT H kvs xs)(k:List Key){y:V}{u:Value}(b:RelV y u):
  KT H (kvs.map λa=>if a.1=k then (a.1,y) else a) (xs.map (putAt k u)):=by
 induction r with
 |nil=>exact .nil
 | @cons p q ps qs h t c=>
  rw[ck,ck];refine .cons ?_ c;obtain⟨h1,h2,d⟩:=h;unfold putAt;by_cases e:p.1=k
  .rw[ao e,ao (h1.symm.trans e)];exact⟨h1,h2,b⟩
  .rw[ak e,ak (λz=>e (h1.trans z))];exact⟨h1,h2,d⟩
theorem KT.put{H:Hp}{kvs:List (List Key×V)}{xs:List (List Key×Addr×Value)}(r:KT H kvs xs)(k:List Key){b:Addr}{y:V}{u:Value}(c:H b=some (.tup (k.map kV)))(a:RelV y u):
  KT H (putK kvs k y) (storedH xs k b u):=by
 have e:(kvs.any λd=>decide (d.1=k))=(atKey xs k).isSome:=by
  rw[HK,(r.val k).qJ,isSome_map]
 unfold putK storedH;rw[e];by_cases q:(atKey xs k).isSome=true
 .rw[ao q,ao q];exact r.repl k a
 .rw[ak q,ak q];exact Paired.snoc r ⟨rfl,c,a⟩
theorem KT.keeps{H H':Hp}{kvs:List (List Key×V)}{xs:List (List Key×Addr×Value)}(r:KT H kvs xs)(a:∀b ys,H b=some (.tup ys)->H' b=some (.tup ys)):KT H' kvs xs:=
 Paired.jO r λ_ _ z=>⟨z.1,a _ _ z.2.1,z.2.2⟩
section
variable{P:Program}{w:World}{H:Hp}{h:Heap}{a:Addr}
theorem Fq{u:HO}(ok:cE P w H h)(e:Rd H a u):bZ P w H h a u:=e.ok ok
theorem mL{kvs:List (Key×V)}(ok:cE P w H h)(e:Rd H a (.dK kvs)):kvs.length<=sizeLine/\(a==sysModules)=false/\∃vs,KV kvs vs/\h.DictOf (c5 P w) a vs:=
 show bZ P w H h a (.dK kvs) from Fq ok e
theorem t8{kvs:List (Key×V)}(ok:cE P w H h)(e:H a=some (.dK kvs)):kvs.length<=sizeLine/\(a==sysModules)=false/\∃vs,KV kvs vs/\h.DictOf (c5 P w) a vs:=mL ok (.inl e)
theorem qL{ks:List Key}(ok:cE P w H h)(e:H a=some (.tup (ks.map kV))):(tupleKind (c5 P w)).is h ks a:=by
 obtain⟨_,its,r,p⟩:=(show bZ P w H h a (.tup (ks.map kV)) from ok a _ e);obtain⟨o,h1,h2,n,b⟩:=p.is;exact⟨o,its.toArray,n,h1,h2,b,by simpa using DL r⟩
theorem qz{kvs:List (List Key×V)}(ok:cE P w H h)(e:Rd H a (.dT kvs)):kvs.length<=sizeLine/\(a==sysModules)=false/\
  ∃xs,KT H kvs xs/\h.DictOfH (tupleKind (c5 P w)) a xs:=by
 obtain⟨z,y,xs,r,o,es,ep,h1,h2,c,d,f⟩:=(show bZ P w H h a (.dT kvs) from Fq ok e);refine⟨z,y,xs,r,o,es,ep,h1,h2,c,d,λx hx=>?_,f⟩;have all:∀{l:List (List Key×V)} {m:List (List Key×Addr×Value)},KT H l m->∀x∈m,(tupleKind (c5 P w)).is h x.1 x.2.1:=by
  intro l m q;induction q with
  |nil=>intro x hx;exact nomatch hx
  | @cons p q ps qs b t g=>
   intro x hx;rcases bz.mp hx with e|hx
   .subst e
    exact qL ok (by rw[<-b.1];exact b.2.1)
   .exact g x hx
 exact all r x hx
theorem Kq{kvs:List (List Key×V)}(ok:cE P w H h)(e:H a=some (.dT kvs)):kvs.length<=sizeLine/\(a==sysModules)=false/\
 ∃xs,KT H kvs xs/\h.DictOfH (tupleKind (c5 P w)) a xs:=qz ok (.inl e)
end
def nK(H:Hp)(a:Addr)(y:V)(r:Option V):Prop:=
 (∃kvs k,Rd H a (.dK kvs)/\y=kV k/\r=eO kvs k)\/∃kvs k b,Rd H a (.dT kvs)/\y=.ref b/\H b=some (.tup (k.map kV))/\r=eO kvs k
def p7(H:Hp)(a:Addr)(y v:V)(H':Hp):Prop:=
 (∃kvs k,H a=some (.dK kvs)/\y=kV k/\kvs.length<sizeLine/\H'=upd H a (.dK (putK kvs k v)))\/
 ∃kvs k b,H a=some (.dT kvs)/\y= .ref b/\H b=some (.tup (k.map kV))/\kvs.length<sizeLine/\H'=upd H a (.dT (putK kvs k v))
theorem p7.k{H:Hp}{a:Addr}{kvs:List (Key×V)}{k:Key}{v:V}(e:H a=some (.dK kvs))(hl:kvs.length<sizeLine):p7 H a (kV k) v (upd H a (.dK (putK kvs k v))):=.inl ⟨kvs,k,e,rfl,hl,rfl⟩
section
variable{X:Cx}{pins:aT}{σ:St}{H:Hp}{s:Shared}{a:Addr}{y v:V}{u r:Value}{o:Option V}{A:Around}{E:aR}
theorem Inv.big(I:Inv X pins σ H s):sysModules<s.heap.objs.size:=by
 have h:mainGlobals<s.heap.objs.size:=(I.mod.glob.keeps I.bk).lt;exact lt_trans δ h
theorem JM{Q:aR}(n:A.units+1<cLine)(I:Inv X pins σ H s)(g:nK H a y (some v))(m:RelV y u)(h:∀d s',Inv X pins σ H s'->RelV v d->Q d s'):
  wpAny (model X.prog X.w) A (getItem (.ref a) u) Q E s:=by
 rcases g with⟨kvs,k,e,f,l⟩|⟨kvs,k,b,e,f,q,l⟩
 .subst f
  obtain⟨z,hd,vs,rel,dd⟩:=mL I.hok e;obtain⟨d,i,c⟩:=jk.some_of (v:=v) (o:=valueAt vs k) (by rw[l];exact rel.val k);exact wpAny_getItem_of (mS m) dd.mapOf i (h d _ (I.tok _) c)
 .subst f
  cases (show u=Value.ref b from m);obtain⟨z,hd,xs,rel,dd⟩:=qz I.hok e;obtain⟨d,i,c⟩:=jk.some_of (v:=v) (o:=(atKey xs k).map (·.2)) (by rw[l];exact rel.val k);obtain⟨p,r,j⟩:=Option.map_eq_some_iff.mp i;refine wpAny_getItem_heap (wh n) (qL I.hok q) dd r ?_;rw[j];exact h d _ (I.tok _) c
theorem JO{Q:aR}(f:A.units+1<cLine)(I:Inv X pins σ H s)(g:nK H a y o)(d:RelV y u)(h:∀s',Inv X pins σ H s'->Q (.bool o.isSome) s'):
  wpAny (model X.prog X.w) A (compareOp .In u (.ref a)) Q E s:=by
 rcases g with⟨kvs,k,e,c,l⟩|⟨kvs,k,b,e,c,i,l⟩
 .subst c
  obtain⟨z,hd,vs,rel,dd⟩:=mL I.hok e;refine wpAny_in_of (mS d) hd dd.mapOf ?_;rw[<-(rel.val k).qJ,<-l];exact h _ (I.tok _)
 .subst c
  cases (show u=Value.ref b from d);obtain⟨z,hd,xs,rel,dd⟩:=qz I.hok e;refine wpAny_in_heap (wh f) (qL I.hok i) hd dd ?_;have q:=(rel.val k).qJ;rw[isSome_map] at q;rw[<-q,<-l];exact h _ (I.tok _)
theorem JT{Q:aR}(f:A.units+1<cLine)(I:Inv X pins σ H s)(g:nK H a y o)(d:RelV y u)(h:∀s',Inv X pins σ H s'->Q (.bool (!o.isSome)) s'):
  wpAny (model X.prog X.w) A (compareOp .NotIn u (.ref a)) Q E s:=by
 rcases g with⟨kvs,k,e,c,l⟩|⟨kvs,k,b,e,c,i,l⟩
 .subst c
  obtain⟨z,hd,vs,rel,dd⟩:=mL I.hok e;refine wpAny_notIn_of (mS d) hd dd.mapOf ?_;rw[<-(rel.val k).qJ,<-l];exact h _ (I.tok _)
 .subst c
  cases (show u=Value.ref b from d);obtain⟨z,hd,xs,rel,dd⟩:=qz I.hok e;refine wpAny_notIn_heap (wh f) (qL I.hok i) hd dd ?_;have q:=(rel.val k).qJ;rw[isSome_map] at q;rw[<-q,<-l];exact h _ (I.tok _)
theorem tV{h':Heap}{t':Nat}{c:HO}(I:Inv X pins σ H s)(d:p_ (H a))(f:SameBut a s.heap h')(g:∃q,h'.get? a=some q)(new:bZ X.prog X.w (upd H a c) h' a c):
  Inv X pins σ (upd H a c) {s with heap:=h',toks:=t'}:=
 I.write (x:=a) (e:=a) d (.inl rfl) (λb q h z=>(f.2 b h).trans z) g new
theorem yq{P:Program}{w:World}{H':Hp}{h':Heap}{kvs:List (Key×V)}{vs:List (Key×Value)}(z:kvs.length<=sizeLine)(hd:(a==sysModules)=false)(rel:KV kvs vs)(dd:h'.DictOf (c5 P w) a vs):
 bZ P w H' h' a (.dK kvs):=⟨z,hd,vs,rel,dd⟩
theorem JV{H':Hp}{Q:Unit->Shared->Prop}(x:A.units+1<cLine)(I:Inv X pins σ H s)(g:p7 H a y v H')(n:RelV y u)(o:RelV v r)(h:∀s',Inv X pins σ H' s'->Q () s'):
  wpAny (model X.prog X.w) A (setItem (.ref a) u r) Q E s:=by
 rcases g with⟨kvs,k,e,i,l,j⟩|⟨kvs,k,b,e,i,p,l,j⟩
 .subst i j
  obtain⟨z,hd,vs,rel,dd⟩:=t8 I.hok e;have hz:vs.length<=sizeLine:=by rw[<-rel.length];exact z
  have hl:(putK kvs k v).length<=sizeLine:=by have:=yW kvs k v;omega
  refine wpAny_setItem_pairs (hsz:=hz) (mS n) dd λh' d m=>h _ ?_;have B:∃q,h'.get? a=some q:=let ⟨q,_,_,f,_⟩:=d;⟨q,f⟩;exact tV I (by rw[e];exact True.intro) m B (yq hl hd (rel.put k o) d)
 .subst i j
  cases (show u=Value.ref b from n);obtain⟨z,hd,xs,rel,dd⟩:=Kq I.hok e;have hz:xs.length<=sizeLine:=by rw[<-Paired.length rel];exact z
  have hl:(putK kvs k v).length<=sizeLine:=by have:=yW kvs k v;omega
  refine wpAny_setItem_heap (hsz:=hz) (wh x) (qL I.hok p) dd λh' d m=>h _ ?_;obtain⟨q,es,ep,f,h2,C,D,_,F⟩:=d;refine tV I (by rw[e];exact True.intro) m ⟨q,f⟩ ⟨hl,hd,_,(rel.put k p o).keeps λc ys t=>?_,q,es,ep,f,h2,C,D,F⟩;rw[a_ (Ox t e (λz=>nomatch z))];exact t
end
section
variable{X:Cx}{pins:aT}{σ:St}{H:Hp}{s:Shared}{a:Addr}{kvs:List (Key×V)}{k:Key}{u:Value}{A:Around}{E:aR}
theorem gj{Q:aR}(I:Inv X pins σ H s)(e:Rd H a (.dK kvs))(h:∀t s',Inv X pins σ H s'->Q (.int kvs.length t) s'):wpAny (model X.prog X.w) A (call (.builtin "len") [.ref a]) Q E s:=by
 obtain⟨z,hd,vs,rel,dd⟩:=mL I.hok e;refine call_len_dict hd dd (by rw[<-rel.length];rw[kU] at z;omega) ?_;rw[<-rel.length];exact h _ _ (I.tok _)
end
theorem Kd{X:Cx}{pins:aT}{σ:St}{H:Hp}{s:Shared}{a:Addr}{y:V}{o:Option V}(I:Inv X pins σ H s)(g:nK H a y o):s.TypeIs (.ref a) "dict":=by
 rcases g with⟨kvs,k,e,_,_⟩|⟨kvs,k,b,e,_,_,_⟩
 .obtain⟨_,_,vs,_,dd⟩:=mL I.hok e
  exact dd.typeIs
 .obtain⟨_,_,xs,_,dd⟩:=qz I.hok e
  exact dd.typeIs
def Q_(td ty tv:TE):TS:=λD σ H=>tv σ H λv H1=>td σ H1 λx H2=>ty σ H2 λy H3=>∃a H4,x=.ref a/\p7 H3 a y v H4/\D.nx σ H4
section
variable{X:Cx}{o i e value:Expr}{pos pos' tpos:Pos}{td ty tv:TE}
theorem Qn(b:X.A.units+1<cLine)(c:PE X o td)(hi:PE X i ty)(d:PE X value tv)(e:swapsWith value (some (.Subscript o i pos')) pos.line X.env=pure false):
  PS X (.Assign [.Subscript o i pos'] value pos) (Q_ td ty tv):=by
 intro pins s σ H D I h;refine wpAny_Assign_Subscript (aJ (d pins s σ H _ I h) λr f ⟨v,H1,j,k,l⟩=>aJ (c pins f σ H1 _ j l) λu m ⟨x,H2,n,p,q⟩=>aJ (hi pins m σ H2 _ n q) λE F ⟨y,G,t,w,a,z,ex,g,B⟩=>?_) e;subst ex;obtain rfl:u=Value.ref a:=p;exact JV b t g w k λs4 C=>⟨σ,z,C,B⟩
end
theorem Cz{P:Program}{w:World}{H:Hp}(h:Heap)(a:sysModules<h.objs.size):bZ P w H (h.push {cls:=.type "dict",data:=.dict #[]}) h.objs.size (.dK []):=
 ⟨bV _,beq_eq_false_iff_ne.mpr (Ne.symm (bI a)),[],.nil,DictOf.new h⟩
def Th:TE:=λ_ H Q=>∀p,H p=none->Q (.ref p) (upd H p (.dK []))
section
variable{X:Cx}{pos:Pos}
theorem PB:PE X (.Dict [] [] pos) Th:=λpins s σ H Q I h=>
 wpAny_Dict_empty ⟨.ref s.heap.objs.size,_,I.laid (a:=s.heap.objs.size) (o:=.dK []) (t':=s.toks) (λ_ _ q=>bA _ q) (aG _) (Cz s.heap I.big),rfl,h _ (I.hok.fresh (aG _))⟩
end
noncomputable def z0:List (TE×TE)->St->Hp->(List (V×V)->Hp->Prop)->Prop
 |[],_,H,Q=>Q [] H
 |(tk,tv)::r,σ,H,Q=>tk σ H λx H1=>tv σ H1 λy H2=>z0 r σ H2 λps H3=>Q ((x,y)::ps) H3
abbrev VV:List (V×V)->List (Value×Value)->Prop:=Paired λp q=>RelV p.1 q.1/\RelV p.2 q.2
def sX(X:Cx)(pos:Pos)(keys:List (Option Expr))(values:List Expr)(z8:List (TE×TE)):Prop:=
 ∀(pins:aT) (s:Shared) (σ:St) (H:Hp) (Q:List (V×V)->Hp->Prop),Inv X pins σ H s->z0 z8 σ H Q->
  wpAny (model X.prog X.w) X.A (evalPairs (pairTrees keys values X.env pos)) (λvs s'=>∃ps H',Inv X pins σ H' s'/\VV ps vs/\Q ps H') X.xe s
theorem Ql{X:Cx}{pos:Pos}:sX X pos [] [] []:=λpins s σ H Q I h=>pairTrees_nil_walk ⟨[],H,I,.nil,h⟩
theorem Qk{X:Cx}{pos:Pos}{k v:Expr}{ks:List (Option Expr)}{vs:List Expr}{tk tv:TE}{a:List (TE×TE)}(b:PE X k tk)(c:PE X v tv)(d:sX X pos ks vs a):
  sX X pos (some k::ks) (v::vs) ((tk,tv)::a):=λpins s σ H Q I h=>
 pairTrees_cons_walk (aJ (b pins s σ H _ I h) λu e ⟨x,H1,f,g,i⟩=>aJ (c pins e σ H1 _ f i) λr j ⟨y,H2,l,m,n⟩=>
  aJ (d pins j σ H2 _ l n) λws t ⟨ps,o,p,rel,q⟩=>⟨(x,y)::ps,o,p,.cons ⟨g,m⟩ rel,q⟩)
noncomputable def jP(kvs more:List (Key×V)):List (Key×V):=more.foldl (λacc kv=>putK acc kv.1 kv.2) kvs
theorem KV.merge:∀{a:List (Key×V)} {rs:List (Key×Value)} {kvs:List (Key×V)} {vs:List (Key×Value)},KV a rs->KV kvs vs->KV (jP kvs a) (merged vs rs):=by
 intro a rs kvs vs r;unfold KV at r;induction r generalizing kvs vs with
 |nil=>intro q;exact q
 | @cons p q ps qs h t b=>
  intro c;have e:KV (putK kvs p.1 p.2) (stored vs q.1 q.2):=by
   have:=c.put p.1 h.2;rw[<-h.1];exact this
  exact b e
theorem yV:∀(a kvs:List (Key×V)),(jP kvs a).length<=kvs.length+a.length
 |[],kvs=>by show kvs.length<=kvs.length+0;omega
 |p::r,kvs=>by
  have h1:=yV r (putK kvs p.1 p.2);have h2:=yW kvs p.1 p.2;show(jP (putK kvs p.1 p.2) r).length<=_;rw[gv];omega
theorem BP{P:Program}{w:World}:∀{kvs:List (Key×V)} {ws:List (Value×Value)},VV (kvs.map λd=>(kV d.1,d.2)) ws->∃rs,Carries (c5 P w) ws rs/\KV kvs rs
 |[],_,r=>by rw[map_nil] at r;cases r;exact⟨[],True.intro,.nil⟩
 |p::kvs,_,r=>by
  rw[ck] at r;cases r with
  | @cons a b as bs h t=>
   obtain⟨rs,c,q⟩:=BP (P:=P) (w:=w) t;obtain⟨f,e⟩:=b;exact⟨(p.1,e)::rs,⟨mS h.1,rfl,c⟩,.cons ⟨rfl,h.2⟩ q⟩
def Ti(z8:List (TE×TE)):TE:=λσ H Q=>∀p,H p=none->z0 z8 σ (upd H p (.dK [])) λps H2=>H2 p=some (.dK [])/\∃kvs:List (Key×V),ps=kvs.map (λkv=>(kV kv.1,kv.2))/\kvs.length<=15/\Q (.ref p) (upd H2 p (.dK (jP [] kvs)))
theorem Pz{X:Cx}{pos:Pos}{keys:List (Option Expr)}{values:List Expr}{b:List (TE×TE)}(h:sX X pos keys values b)(d:keys.all (·.isSome)=true)(hl:keys.length=values.length)(h0:keys≠[])
  (g:keys.length<=15):PE X (.Dict keys values pos) (Ti b):=by
 intro pins s σ H Q I q;have j:=I.hok.fresh (aG s.heap.objs.size);have k:=I.laid (a:=s.heap.objs.size) (o:=.dK []) (h':=s.heap.push {cls:=.type "dict",data:=.dict #[]}) (t':=s.toks) (λ_ _ q=>bA _ q) (aG _) (Cz s.heap I.big);refine wpAny_Dict_walk (knd:=c5 X.prog X.w) d hl h0 g (aJ (h pins _ σ _ _ k (q _ j)) λws v ⟨ps,H2,i,rel,e,kvs,ep,lk,l⟩=>?_);subst ep;obtain⟨rs,c,m⟩:=BP (P:=X.prog) (w:=X.w) rel;obtain⟨z,hd,n,p,dd⟩:=t8 i.hok e;cases p;refine⟨rs,c,dd,λh' f r=>⟨.ref s.heap.objs.size,_,?_,rfl,l⟩⟩;have hz:(jP [] kvs).length<=sizeLine:=by
  have h1:=yV kvs [];rw[length_nil] at h1;rw[kU];omega
 have t:∃q,h'.get? s.heap.objs.size=some q:=let ⟨q,_,_,u,_⟩:=f;⟨q,u⟩;exact tV i (by rw[e];exact True.intro) r t (yq hz hd (m.merge .nil) f)
end L2
end
namespace Aw
open PySem PySem.W PySem.Calls PyProof.Rows
theorem M0{P:Params}{h:Heap}:∀(ns:List Int) (vs:List Value),WellAll P h vs (ns.map WData.int)->IntsAre vs ns:=by
 intro ns;induction ns with
 |nil=>
  intro vs w;rw[map_nil] at w;cases w;exact .nil
 |cons n ns c=>
  intro vs w;rw[ck] at w;cases w with
  |cons a b=>
   cases a;exact .cons _ _ (c _ b)
theorem Sk{l:OpenLaw}{n:Nat}(k:l.most=some n){P:Params}{h:Heap}{args:List WData}{vals:List Value}
  (b:l.row.toRowW.claim.pre args=true)(i:WellAll P h vals args):
  ∃a vs ns,vals=[Value.ref a]/\args=[WData.list (ns.map WData.int)]/\h.get? a=some {cls:=.type "list",data:=.seq vs.toArray}/\IntsAre vs ns/\ns.length<=n:=by
 have j:WShape.hasAll [] args [.list .int]=true:=(pre_splitW b).1;have hc:l.pre.holds [] {args:=args}=true:=(pre_splitW b).2;obtain⟨d,r,rfl,h1,h2⟩:=hasAllW_cons j;obtain rfl:=hasAllW_nil h2;obtain⟨xs,rfl,m⟩:=hasW_list h1;obtain⟨ns,rfl⟩:=items_int m;have c:ns.length<=n:=by
  unfold OpenLaw.pre at hc;have f:(WTm.not (.lt (.lit (.int (n:Int))) (.len (.arg 0)))).holds [] {args:=[.list (ns.map .int)]}=true:=by
   have f:=(holds_andW hc).1;rw[k] at f;exact f
  have g:=condW_of f (w_not (w_lt w_lit (w_len_list (w_arg rfl))));rw[aS] at g;refine Nat.le_of_not_lt λq=>?_;have o:(n:Int)<((ns.length:Nat):Int):=ω
  first
   |(rw[cW o] at g;exact absurd g δ)
   |(simp at g;omega)
 cases i with
 |cons p s=>
  cases s;cases p with
  |list t e=>exact⟨_,_,ns,rfl,rfl,t,M0 ns _ e,c⟩
theorem Qh(l:OpenLaw)(args:List WData):l.row.toRowW.claim.post args (.bool true) args=true:=
 postW_of (r:=l.row.toRowW) (X:=(true==true))
  (show WShape.has [] (.bool true) .bool=true by first|rfl|decide|simp[WShape.has,WShape.arms,WShape.armsAll])
  (show(WTm.eq .res (.lit (.bool true))).value [] {args:=args,res:=some (.bool true),after:=args}=some (.bool (true==true)) from w_eq_bool (w_res rfl) w_lit) rfl
theorem IX{l:OpenLaw}{n:Nat}{q:Program}{loose:List Str}{p:(aB)->Heap->Prop}{s:World->Heap->Prop}{d:DefRec}
  (v:l.most=some n)(i:d.params.defaults=[])
  (call:∀(w:World) (s₀ b:Shared) (mg mb:aB) (c:Addr) (o:Obj) (pm cd doc:Value) (a:Addr) (vs:List Value) (ns:List Int),
   Ground q loose [] p w s₀ mg mb b.heap->s w b.heap->
   b.heap.get? c=some o->o.data= .func (docDef d.name d.params d.body d.scope pm cd doc)->b.heap.CodeRec cd d.name->mg d.name=some (.ref c)->
   b.heap.get? a=some {cls:= .type "list",data:= .seq vs.toArray}->IntsAre vs ns->ns.length<=n->b.gens= #[]->
   codeAny (model l.prog w) callerA (.call (.ref c) ⟨[.ref a],[]⟩) (λr s'=>r= .ok (.ret (.bool true))/\OldK b.heap s'.heap/\s'.os=b.os/\AllBare s'.gens) b):
  WalkO q loose p s l.row.toRowW d [] (λf vs=>PySem.call f vs):=by
 intro w s₀ b mg mb G Y c o pm cd doc x kV y hd j t k z args vals as e u A m B
 obtain rfl:x= .none:=Dflts.none t i
 obtain rfl:kV= .none:=Dflts.noKw t
 obtain⟨a,vs,ns,rfl,rfl,g,hints,h⟩:=Sk v e m
 refine enter_call (pT (call w s₀ b mg mb c o pm cd doc a vs ns G Y y (fd_plain hd) j k g hints h z) λr s' C=> ?_)
 obtain⟨rfl,h2,D,E⟩:=C
 exact⟨.inl ⟨.bool true,.bool true,[],rfl,λ_=>rfl,.bool true,Qh l _,λ_=>⟨Pairwise.nil,λ_ F=>(nomatch F)⟩⟩,h2,D,E⟩
end Aw
section
open PySem PySem.Spec PyProof.Rows
namespace L2
theorem HM:∀{vs:List Value} {ns:List Int},IntsAre vs ns->Vals (ns.map V.int) vs
 |_,_,.nil=>.nil
 |_,_,.cons n t h=>.cons ⟨t,rfl⟩ (HM h)
def sW(H:Hp):Prop:=∀b,H b=none\/∃o xs,H b=some (.bM o (.lst xs))
theorem NR{P:Program}{w:World}{K:Frag}{mg mb:aB}{CX:iK}{k:Nat}{D a:Addr}{fd:FuncData}{x:Str}{sp:Sp}{c:Shared}{vs:List Value}{ns:List Int}
  (N:K.In c.heap)(l:c.heap.Ns mainGlobals mg)(g:c.heap.Ns builtinsNs mb)(E:∀x:Str,x≠"__name__"->mb x=bootBuiltins x)(p:c.heap.NoLimit)(T:c.gens= #[])
  (C:c.heap.get? a=some {cls:= .type "list",data:= .seq vs.toArray})(hi:IntsAre vs ns)(hl:ns.length<=sizeLine)(U:dg k callerA)
  (F:∀base:Heap,K.In base->base.Ns mainGlobals mg->fC P w K mg base CX k D fd [x] sp)(j:∀(s:Shared) (u:Value),BindsTo s fd ⟨[u],[]⟩ [(x,u)])
  (G:∀H:Hp,sW H->aY K H a (ns.map V.int)->sp [.ref a] H (λv _=>v= .bl true) λ_ _ _=>False)
  (I:∀H e s',CX [] H c (λ_ _ _=>False) e s'->False):
  codeAny (model P w) callerA (.call (.ref D) ⟨[.ref a],[]⟩) (λr s'=>r= .ok (.ret (.bool true))/\OldK c.heap s'.heap/\s'.os=c.os/\AllBare s'.gens) c:=by
 have O:=HM hi
 have t:=hi.length
 have core:∀H:Hp,sW H->aY K H a (ns.map V.int)->cE P w H c.heap->(∀b,H b≠none->b=a)->(H a≠none->K.lookup a=none)->
   codeAny (model P w) callerA (.call (.ref D) ⟨[.ref a],[]⟩) (λr s'=>r= .ok (.ret (.bool true))/\OldK c.heap s'.heap/\s'.os=c.os/\AllBare s'.gens) c:=by
  intro H Q W hok R X
  have f:∀{b:Addr} {o:Obj},c.heap.get? b=some o->H b=none->(kE c.heap H).get? b=some o:=λe n=>MG e n
  have J:∀{b:Addr} {o:Obj} {es:Array DictEntry} {ep:Nat},c.heap.get? b=some o->o.data= .dict es ep->H b=none:=λ {b o es ep} e d=>by
   cases q:H b with
   |none=>rfl
   |some u=>
    have L:b=a:=R b (by rw[q];simp)
    subst L
    rw[C] at e;cases e
    have d':Data.seq vs.toArray _=Data.dict es ep:=d
    cases d'
  have i:∀{b:Addr} {m:aB},c.heap.Ns b m->(kE c.heap H).Ns b m:=λ {b m} ⟨o,es,ep,e,d,r⟩=>⟨o,es,ep,f e (J e d),d,r⟩
  have y:K.In (kE c.heap H):=λb o e=>f (N b o e) (by
   cases q:H b with
   |none=>rfl
   |some u=>
    have L:b=a:=R b (by rw[q];simp)
    subst L
    rw[X (by rw[q];simp)] at e;cases e)
  have Y:Mod K mg (kE c.heap H):=⟨y,i l,⟨mb,i g,E⟩,let ⟨mc,h1,h2⟩:=p;⟨mc,i h1,h2⟩⟩
  have Z:sP P w K mg (kE c.heap H) callerA [] c H:=⟨rfl,Y,λb o e=>OO e,Nat.le_of_eq (MH _ _),trivial,λb g=>absurd (show b∈([]:List Addr) from g) θ,hok,.of_eq T⟩
  refine pT ((F _ y (i l)).run callerA [] c H ⟨[.ref a],[]⟩ [.ref a] [.ref a] _ _ U Z (j c (.ref a)) (.cons rfl .nil) (G H Q W)) λr s' h=> ?_
  cases r with
  |error e=>exact(I H e s' h).elim
  |ok fl=>
   cases fl with
   |next=>exact False.elim h
   |brk=>exact False.elim h
   |cont=>exact False.elim h
   |ret u=>
    obtain⟨v,H',os,bare,un,A,r',q⟩:=h
    have q':v= .bl true:=q
    subst q'
    obtain rfl:u=Value.bool true:=r'
    refine⟨rfl,OldK.of_keep λb o e=> ?_,os,bare⟩
    cases q:H b with
    |none=>exact un.keep b o e q (by intro z;exact absurd (show b∈([]:List Addr) from z) θ) θ
    |some u=>
     rcases Q b with z|⟨ob,xs,z⟩
     .rw[q] at z;cases z
     .have z2:=un.fG b ob _ z
      obtain⟨S,_⟩:=hok b _ z
      obtain⟨e2,_⟩:=A b _ z2
      rw[e] at S;cases S
      exact e2
 cases M:K.lookup a with
 |some o=>
  have e:=N a o M
  rw[C] at e
  cases e
  refine core (λ_=>none) (λ_=> .inl rfl) (.inr ⟨_,vs.toArray,_,M,rfl,rfl,rfl,by rw[cA,t];exact hl,by simpa using O⟩) (λb u z=>by have B:(none:Option HO)=some u:=z;cases B) (λb z=>absurd rfl z) λz=>absurd rfl z
 |none=>
  refine core (λb=>if b=a then some (.bM {cls:= .type "list",data:= .seq vs.toArray} (.lst (ns.map V.int))) else none) (λb=> ?_) (.inl (.inr ⟨{cls:= .type "list",data:= .seq vs.toArray},ao rfl⟩)) (λb u z=> ?_) (λb z=> ?_) λ_=>M
  .by_cases g:b=a
   .exact .inr ⟨_,_,ao g⟩
   .exact .inl (ak g)
  .by_cases g:b=a
   .have B:=(ao g).symm.trans z
    cases B
    subst g
    exact⟨C,by rw[aS];exact hl,vs,_,O,C⟩
   .have B:=(ak g).symm.trans z
    cases B
  .by_cases g:b=a
   .exact g
   .exact absurd (ak g) z
theorem Uw{l:PySem.W.OpenLaw}{n k:Nat}{q:Program}{loose:List Str}{C:(aB)->Heap->Prop}{A:World->Heap->Prop}{d:DefRec}{K:Params->Frag}{CX:World->iK}{sp:World->Sp}{x:Str}
  (D:l.most=some n)(p:n<=sizeLine)(r:d.params.defaults=[])(E:dg k callerA)
  (I:∀(w:World) (h:Heap),A w h->(K w.params).In h)
  (F:∀(w:World) (mg:aB) (m:Addr) (h:Heap),(K w.params).In h->h.Ns mainGlobals mg->mg d.name=some (.ref m)->
   ∃fd:FuncData,(∀(s:Shared) (u:Value),BindsTo s fd ⟨[u],[]⟩ [(x,u)])/\
    ∀base:Heap,(K w.params).In base->base.Ns mainGlobals mg->fC l.prog w (K w.params) mg base (CX w) k m fd [x] (sp w))
  (t:∀(w:World) (H:Hp) (a:Addr) (ns:List Int),ns.length<=n->sW H->aY (K w.params) H a (ns.map V.int)->sp w [.ref a] H (λv _=>v= .bl true) λ_ _ _=>False)
  (y:∀(w:World) (H:Hp) (s:Shared) (e:Value) (s':Shared),CX w [] H s (λ_ _ _=>False) e s'->False):
  PySem.W.WalkO q loose C A l.row.toRowW d [] (λf vs=>PySem.call f vs):=by
 refine Aw.IX D r λw s₀ i mg mb m o pm cd doc a vs ns G Y Q hd J z j hints c L=> ?_
 have B:=I w _ Y
 obtain⟨fd,M,N⟩:=F w mg m _ B G.T.g z
 exact NR B G.T.g G.T.b G.T.builtins G.T.nolimit L j hints (cV c p) E N M (λH O P=>t w H a ns c O P) λH e s'=>y w H i e s'
noncomputable def lA(s:Stmt):Arguments:=match s with
 |.FunctionDef _ a _ _ _ _ _ _ _ _=>a
 |_=>{posonlyargs:=[],args:=[],vararg:=none,kwonlyargs:=[],kw_defaults:=[],kwarg:=none,defaults:=[]}
noncomputable def gU(s:Stmt):List Stmt:=match s with
 |.FunctionDef _ _ b _ _ _ _ _ _ _=>b
 |_=>[]
noncomputable def aK(s:Stmt):Scope:=match s with
 |.FunctionDef _ _ _ _ _ _ sc _ _ _=>sc
 |_=>{kind:=.function,names:=[],isGenerator:=false,isCoroutine:=false}
structure kg(K:Frag)(x qual:Str)(st:Stmt)(f:Addr)(fd:FuncData):Prop where
 ex:∃(oc:Value) (od:Option Addr) (kV doc pm:Value) (an:Option Addr) (cdv ct:Value) (osl:Array (Option Value)),
  fd=fnOf x qual (lA st) (gU st) (aK st) .none kV doc pm an cdv ct/\K.lookup f=some ⟨oc,od,.func fd,osl⟩/\codeIn K cdv qual=true
 kp:keepIn K (.ref f)=true
section
variable{P:Program}{w:World}{K:Frag}{mg:aB}{base:Heap}
theorem kg.binds{x qual:Str}{st:Stmt}{f:Addr}{fd:FuncData}{ps:List Str}(F:kg K x qual st f fd)
  (h:∀(kV doc pm:Value) (an:Option Addr) (a ct:Value) (b:List Value),b.length=ps.length->bindArgs (fnOf x qual (lA st) (gU st) (aK st) .none kV doc pm an a ct) ⟨b,[]⟩=pure (ps.zip b)):Binds K fd ps []:=by
 obtain⟨e,g,kV,doc,pm,an,a,ct,c,rfl,lk,d⟩:=F.ex;exact .all (h kV doc pm an a ct)
theorem yF{x qual:Str}{st:Stmt}{f:Addr}{d:Value}{e an:Option Addr}{b:Array (Option Value)}{kV doc pm a ct:Value}(l:K.lookup f=some ⟨d,e,.func (fnOf x qual (lA st) (gU st) (aK st) .none kV doc pm an a ct),b⟩)
 (c:codeIn K a qual=true)(k:keepIn K (.ref f)=true):kg K x qual st f (fnOf x qual (lA st) (gU st) (aK st) .none kV doc pm an a ct):=⟨⟨d,e,kV,doc,pm,an,a,ct,b,rfl,l,c⟩,k⟩
end
section
variable{X:Cx}
theorem Jc:e_ X (.builtin "len") (λxs H Q=>∃a kvs,xs=[V.ref a]/\H a=some (.dK kvs)/\Q (.int kvs.length) H):=by
 intro pins s σ H xs e Q I r h;obtain⟨a,kvs,rfl,b,q⟩:=h;obtain⟨u,rfl,c⟩:=vals1 r;cases c;exact gj I (.inl b) λt s' d=>⟨.int kvs.length,H,d,⟨t,rfl⟩,q⟩
end
theorem M6{A B:Prop}(h:B):if false=true then A else B:=by
 rw[ak b6];exact h
theorem M7{A B:Prop}(h:A):if true=true then A else B:=by
 rw[ao rfl];exact h
def ki(H H':Hp):Prop:=∀b o,H b=some o->H' b=some o
end L2
end
namespace PySem
open Sem (wp)
namespace ZL
abbrev jE(h:Heap)(z TI TO:Addr)(f0 f1:Value):Prop:=
 h.get? z=some {cls:=.type "zip",dict:=none,data:=.fields #[f0,f1,.bool false,.ref TI,.ref TO],slots:= #[]}
section
variable{prog:Program}{w:World}{A:Around}{E:aR}{s:Shared}
theorem UE{z TI TO i1 i2 l1 l2 T:Addr}{F:Obj}{m:Bool}{k1 k2:Nat}{xs ys:Array Value}{x y:Value}{Q:aR}(D:ZipApart z TI TO i1 i2 l1 l2)
  (hz:jE s.heap z TI TO (rawInt T) (.bool m))(H:s.heap.get? T=some F)(I:T≠z)(n:IsPair s.heap TI (.ref i1) (.ref i2))
  (h1:s.heap.IsListIter i1 l1 k1)(h2:s.heap.IsListIter i2 l2 k2)(q:s.heap.IsList l1 xs)(t:s.heap.IsList l2 ys)(hx:xs[k1]? =some x)(hy:ys[k2]? =some y)
  (J:∀h',jE h' z TI TO (rawInt T) (.bool true)->h'.IsListIter i1 l1 (k1+1)->h'.IsListIter i2 l2 (k2+1)->IsPair h' s.heap.objs.size x y->h'.objs.size=s.heap.objs.size+1->
   (∀c o,c≠z->c≠i1->c≠i2->s.heap.get? c=some o->h'.get? c=some o)->Q (.ref s.heap.objs.size) {s with heap:=h'}):
  wpAny (model prog w) A (Builtin.«zip.__next__» ⟨[.ref z],[]⟩) (λfin s'=>∃v,fin= .done (.ret v)/\Q v s') E s:=by
 show wpAny _ _ (field (.ref z) 2>>=_) _ _ _
 refine af (jA hz rfl (x:= .bool false) rfl ?_)
 show wpAny _ _ (field (.ref z) 3>>=_) _ _ _
 refine af (jA hz rfl (x:= .ref TI) rfl ?_)
 refine af (sA n rfl ?_)
 show wpAny _ _ (Builtin.SmallTypes.ownedTupleIsFree (.ref z)>>=_) _ _ _
 have first:wpAny (model prog w) A (Builtin.SmallTypes.ownedTupleIsFree (.ref z)) (λb s'=>b=false/\∃f,s'={s with heap:=f}/\jE f z TI TO (rawInt T) (.bool true)/\SameBut z s.heap f) E s:=by
  unfold Builtin.SmallTypes.ownedTupleIsFree
  refine af (jA hz rfl (x:=rawInt T) rfl ?_)
  show wpAny _ _ (loadIfAlive ((T:Int)).toNat>>=_) _ _ _
  have K:∀{R:Option Obj->Shared->Prop},R (some F) s->wpAny (model prog w) A (loadIfAlive ((T:Int)).toNat) R E s:=λ {R} h=>by
   intro M p _
   unfold loadIfAlive
   rw[Sem.wp_loadIfAlive,kW,H]
   exact h
  refine af (K ?_)
  rw[ak θ]
  refine af (jA hz rfl (x:= .bool m) rfl ?_)
  cases m with
  |true=>exact aD ⟨rfl,s.heap,rfl,hz,.refl ..⟩
  |false=>
   show wpAny _ _ (setField (.ref z) 1 (.bool true)>>=_) _ _ _
   exact af (wpAny_setField_rec hz θ λf i a=>aD ⟨rfl,f,rfl,i,a⟩)
 refine af (jB first (λb s' L=> ?_) λ_ _ e=>e)
 obtain⟨rfl,f,rfl,i,a⟩:=L
 show wpAny _ _ (forIn _ _ _>>=_) _ _ _
 refine af ?_
 rw[<-Array.forIn_toList]
 simp only[forIn_cons,forIn_nil]
 refine af (af (gz ?_))
 show wpAny _ _ (Builtin.SmallTypes.nextOf (.ref i1)>>=_) _ _ _
 refine af (Ai (h1.extBut a.extBut D.i1z) (q.extBut a.extBut D.l1z) hx λG k d=>aD (aD ?_))
 refine af (af (gz ?_))
 show wpAny _ _ (Builtin.SmallTypes.nextOf (.ref i2)>>=_) _ _ _
 refine af (Ai ((h2.extBut a.extBut D.i2z).extBut d.extBut D.i12.symm) ((t.extBut a.extBut D.l2z).extBut d.extBut D.l2i1) hy λj l g=>aD (aD (aD ?_)))
 show wpAny _ _ (newTuple [x,y]>>=λr=>ret r) _ _ _
 have hsz:j.objs.size=s.heap.objs.size:=by rw[g.1,d.1,a.1]
 refine af (gc (aD ⟨_,rfl,?_⟩) (by show 2<=sizeLine;decide))
 show Q (.ref j.objs.size) _
 rw[hsz]
 have up:∀c o,c≠z->c≠i1->c≠i2->s.heap.get? c=some o->j.get? c=some o:=λc o u B C e=>g.extBut _ _ C (d.extBut _ _ B (a.extBut _ _ u e))
 refine J _ (bA _ (g.extBut _ _ D.i2z.symm (d.extBut _ _ D.i1z.symm i))) ((k.extBut g.extBut D.i12).at λo e=>bA _ e) (l.at λo e=>bA _ e) ?_ (by rw[eF,hsz]) λc o u B C e=>bA _ (up c o u B C e)
 rw[<-hsz]
 exact cu _ rfl
theorem Pk{z TI TO T:Addr}{f:Obj}{e:Bool}(hz:jE s.heap z TI TO (rawInt T) (.bool e))(g:s.heap.get? T=some f):
  wpAny (model prog w) A (Builtin.SmallTypes.ownedTupleIsFree (.ref z)) (λb s'=>b=false/\∃a,s'={s with heap:=a}/\jE a z TI TO (rawInt T) (.bool true)/\SameBut z s.heap a) E s:=by
 unfold Builtin.SmallTypes.ownedTupleIsFree;refine af (jA hz rfl (x:=rawInt T) rfl ?_);show wpAny _ _ (loadIfAlive ((T:Int)).toNat>>=_) _ _ _;have i:∀{R:Option Obj->Shared->Prop},R (some f) s->wpAny (model prog w) A (loadIfAlive ((T:Int)).toNat) R E s:=λ {R} h=>by
  intro j p _;unfold loadIfAlive;rw[Sem.wp_loadIfAlive,kW,g];exact h
 refine af (i ?_);rw[ak θ];refine af (jA hz rfl (x:=.bool e) rfl ?_);cases e with
 |true=>exact aD ⟨rfl,s.heap,rfl,hz,.refl ..⟩
 |false=>
  show wpAny _ _ (setField (.ref z) 1 (.bool true)>>=_) _ _ _;exact af (wpAny_setField_rec hz θ λa c d=>aD ⟨rfl,a,rfl,c,d⟩)
theorem UD{z TI TO i1 i2 l1 l2 T:Addr}{B:Obj}{C:Bool}{k1 k2:Nat}{xs ys:Array Value}{Q:Fin->Shared->Prop}(u:A.handled=none)(D:ZipApart z TI TO i1 i2 l1 l2)
  (hz:jE s.heap z TI TO (rawInt T) (.bool C))(F:s.heap.get? T=some B)(l:IsPair s.heap TI (.ref i1) (.ref i2))
  (h1:s.heap.IsListIter i1 l1 k1)(h2:s.heap.IsListIter i2 l2 k2)(i:s.heap.IsList l1 xs)(m:s.heap.IsList l2 ys)(j:xs[k1]? =none\/ys[k2]? =none)
  (v:∀h' e,(∀c o,c≠z->c≠i1->c≠i2->s.heap.get? c=some o->h'.get? c=some o)->(∃o,h'.get? e=some o/\o.cls= .type "StopIteration")->E (.ref e) {s with heap:=h'}):
  wpAny (model prog w) A (Builtin.«zip.__next__» ⟨[.ref z],[]⟩) Q E s:=by
 show wpAny _ _ (field (.ref z) 2>>=_) _ _ _
 refine af (jA hz rfl (x:= .bool false) rfl ?_)
 show wpAny _ _ (field (.ref z) 3>>=_) _ _ _
 refine af (jA hz rfl (x:= .ref TI) rfl ?_)
 refine af (sA l rfl ?_)
 show wpAny _ _ (Builtin.SmallTypes.ownedTupleIsFree (.ref z)>>=_) _ _ _
 refine af (jB (Pk hz F) (λb s' G=> ?_) λ_ _ e=>e)
 obtain⟨rfl,y,rfl,n,a⟩:=G
 show wpAny _ _ (forIn _ _ _>>=_) _ _ _
 refine af ?_
 rw[<-Array.forIn_toList]
 simp only[forIn_cons,forIn_nil]
 refine af (af (gz ?_))
 show wpAny _ _ (Builtin.SmallTypes.nextOf (.ref i1)>>=_) _ _ _
 cases hx:xs[k1]? with
 |none=>
  refine af (wpAny_nextOf_list_end u (h1.extBut a.extBut D.i1z) (i.extBut a.extBut D.l1z) hx λf e d p=> ?_)
  exact v f e (λc o q r _ x=>d _ _ r (a.extBut _ _ q x)) p
 |some x=>
  have hy:ys[k2]? =none:=by rcases j with h|h;rw[hx] at h;cases h;exact h
  refine af (Ai (h1.extBut a.extBut D.i1z) (i.extBut a.extBut D.l1z) hx λf t d=>aD (aD ?_))
  refine af (af (gz ?_))
  show wpAny _ _ (Builtin.SmallTypes.nextOf (.ref i2)>>=_) _ _ _
  refine af (wpAny_nextOf_list_end u ((h2.extBut a.extBut D.i2z).extBut d.extBut D.i12.symm) ((m.extBut a.extBut D.l2z).extBut d.extBut D.l2i1) hy λk e g p=> ?_)
  exact v k e (λc o q r H x=>g _ _ H (d.extBut _ _ r (a.extBut _ _ q x))) p
theorem QI{z TI TO i1 i2 l1 l2 T:Addr}{g:Obj}{h:Bool}{k1 k2:Nat}{xs ys:Array Value}{x y:Value}{Q:Option Value->Shared->Prop}(D:ZipApart z TI TO i1 i2 l1 l2)
  (hz:jE s.heap z TI TO (rawInt T) (.bool h))(i:s.heap.get? T=some g)(b:T≠z)(d:IsPair s.heap TI (.ref i1) (.ref i2))
  (h1:s.heap.IsListIter i1 l1 k1)(h2:s.heap.IsListIter i2 l2 k2)(e:s.heap.IsList l1 xs)(f:s.heap.IsList l2 ys)(hx:xs[k1]? =some x)(hy:ys[k2]? =some y)
  (j:∀h',jE h' z TI TO (rawInt T) (.bool true)->h'.IsListIter i1 l1 (k1+1)->h'.IsListIter i2 l2 (k2+1)->IsPair h' s.heap.objs.size x y->h'.objs.size=s.heap.objs.size+1->
   (∀c o,c≠z->c≠i1->c≠i2->s.heap.get? c=some o->h'.get? c=some o)->Q (some (.ref s.heap.objs.size)) {s with heap:=h'}):
  wpAny (model prog w) A (pyNext (.ref z)) Q E s:=by
 have a:s.TypeIs (.ref z) "zip":=⟨_,hz,rfl⟩
 unfold pyNext
 exact af (pP (nk (name:=Str.ofString "__next__") a v_
  (jb v_ a F.entry_zip_next
   (UE D hz i b d h1 h2 e f hx hy λh' a1 a2 k l m n=>aD (j h' a1 a2 k l m n)) (F.args_zip_next_1 _))))
theorem QH{z TI TO i1 i2 l1 l2 T:Addr}{i:Obj}{j:Bool}{k1 k2:Nat}{xs ys:Array Value}{Q:Option Value->Shared->Prop}(k:A.handled=none)(D:ZipApart z TI TO i1 i2 l1 l2)
  (hz:jE s.heap z TI TO (rawInt T) (.bool j))(l:s.heap.get? T=some i)(f:IsPair s.heap TI (.ref i1) (.ref i2))
  (h1:s.heap.IsListIter i1 l1 k1)(h2:s.heap.IsListIter i2 l2 k2)(g:s.heap.IsList l1 xs)(h:s.heap.IsList l2 ys)(a:xs[k1]? =none\/ys[k2]? =none)
  (m:∀h',(∀c o,c≠z->c≠i1->c≠i2->s.heap.get? c=some o->h'.get? c=some o)->Q none {s with heap:=h'}):wpAny (model prog w) A (pyNext (.ref z)) Q E s:=by
 have d:s.TypeIs (.ref z) "zip":=⟨_,hz,rfl⟩
 unfold pyNext
 refine af (pP (nk (name:=Str.ofString "__next__") d v_
  (jb v_ d F.entry_zip_next (UD k D hz l f h1 h2 g h a λh' e n p=> ?_) (F.args_zip_next_1 _))))
 obtain⟨o,q,hc⟩:=p
 refine af (wk (T:="StopIteration") (b:=true) ⟨o,q,hc⟩ isSubtype_stop ?_)
 exact aD (m _ n)
structure ZS(z TI TO i1 i2 l1 l2 base:Addr)(xs ys:Array Value)(k:Nat)(h:Heap):Prop where
 zip:(k=0/\IsZip h z TI TO .none)\/(0<k/\∃bb,jE h z TI TO (rawInt base) (.bool bb))
 ti:IsPair h TI (.ref i1) (.ref i2)
 to:∃a b,IsPair h TO a b
 oA:h.IsListIter i1 l1 k
 oB:h.IsListIter i2 l2 k
 lM:h.IsList l1 xs
 lO:h.IsList l2 ys
 sz:h.objs.size=base+k
 old:∀(j:Nat) x y,j<k->xs[j]? =some x->ys[j]? =some y->IsPair h (base+j) x y
structure nR(z TI TO i1 i2 l1 l2 base:Addr):Prop where
 z:z<base
 to:TO<base
 i1:i1<base
 i2:i2<base
theorem ZS.upd{z TI TO i1 i2 l1 l2 base S:Addr}{xs ys:Array Value}{k:Nat}{h h':Heap}(Z:ZS z TI TO i1 i2 l1 l2 base xs ys k h)(c:∀b o,b≠S->h.get? b=some o->h'.get? b=some o)(d:h'.objs.size=h.objs.size)
  (n1:z≠S)(n2:TI≠S)(n3:TO≠S)(n4:i1≠S)(n5:i2≠S)(n6:l1≠S)(n7:l2≠S)(n8:S<base):ZS z TI TO i1 i2 l1 l2 base xs ys k h' where
 zip:=by
  rcases Z.zip with⟨e,q⟩|⟨e,f,q⟩
  .exact .inl ⟨e,c _ _ n1 q⟩
  .exact .inr ⟨e,f,c _ _ n1 q⟩
 ti:=c _ _ n2 Z.ti
 to:=let ⟨a,b,q⟩:=Z.to;⟨a,b,c _ _ n3 q⟩
 oA:=Z.oA.at λo e=>c _ o n4 e
 oB:=Z.oB.at λo e=>c _ o n5 e
 lM:=Z.lM.at λo e=>c _ o n6 e
 lO:=Z.lO.at λo e=>c _ o n7 e
 sz:=d.trans Z.sz
 old:=λj x y g hx hy=>c _ _ (jy (cK n8 (pH _ _))) (Z.old j x y g hx hy)
theorem UJ{z TI TO i1 i2 l1 l2 base:Addr}{xs ys:Array Value}{k:Nat}{x y:Value}{Q:Option Value->Shared->Prop}(D:ZipApart z TI TO i1 i2 l1 l2)(L:nR z TI TO i1 i2 l1 l2 base)
  (Z:ZS z TI TO i1 i2 l1 l2 base xs ys k s.heap)(hx:xs[k]? =some x)(hy:ys[k]? =some y)
  (J:∀h',ZS z TI TO i1 i2 l1 l2 base xs ys (k+1) h'->(∀c o,c≠z->c≠TO->c≠i1->c≠i2->s.heap.get? c=some o->h'.get? c=some o)->Q (some (.ref (base+k))) {s with heap:=h'}):
  wpAny (model prog w) A (pyNext (.ref z)) Q E s:=by
 obtain⟨a,b,f⟩:=Z.to
 have new:∀h',(∀c o,c≠z->c≠TO->c≠i1->c≠i2->s.heap.get? c=some o->h'.get? c=some o)->IsPair h' s.heap.objs.size x y->∀(j:Nat) g h,j<k+1->xs[j]? =some g->ys[j]? =some h->IsPair h' (base+j) g h:=λh' d M j g h N i l=>by
  by_cases m:j=k
  .subst m
   rw[hx] at i;rw[hy] at l;cases i;cases l
   rw[<-Z.sz]
   exact M
  .have lo:∀c,c<base->base+j≠c:=λc hc e=>absurd (cK hc (pH base j)) (by rw[e];exact fy _)
   exact d _ _ (lo _ L.z) (lo _ L.to) (lo _ L.i1) (lo _ L.i2) (Z.old j g h ω i l)
 rcases Z.zip with⟨e,q⟩|⟨e,O,q⟩
 .subst e
  refine wpAny_pyNext_zip_item D q Z.ti f Z.oA Z.oB Z.lM Z.lO hx hy λh' a1 a2 n p t u d=> ?_
  have v:s.heap.objs.size=base:=Z.sz
  have r:=J h' ⟨.inr ⟨succ_pos _,false,by rw[v] at a1;exact a1⟩,d _ _ D.TIz D.TITO D.TIi1 D.TIi2 Z.ti,⟨_,_,a2⟩,n,p,Z.lM.at λo e=>d _ o D.l1z D.l1TO D.l1i1 D.l1i2 e,Z.lO.at λo e=>d _ o D.l2z D.l2TO D.l2i1 D.l2i2 e,
   by rw[u,v],new h' d t⟩ d
  rw[v]
  exact r
 .obtain⟨x0,B⟩:∃x0,xs[0]? =some x0:=⟨xs[0]'(by have:=(wJ.mp hx).1;omega),gf _⟩
  obtain⟨C,F⟩:∃C,ys[0]? =some C:=⟨ys[0]'(by have:=(wJ.mp hy).1;omega),gf _⟩
  have K:=Z.old 0 x0 C e B F
  rw[Nat.add_zero] at K
  refine QI D q K (jy L.z) Z.ti Z.oA Z.oB Z.lM Z.lO hx hy λh' a1 n p t u d=> ?_
  have r:=J h' ⟨.inr ⟨succ_pos _,true,a1⟩,d _ _ D.TIz D.TIi1 D.TIi2 Z.ti,⟨_,_,d _ _ D.TOz D.TOi1 D.TOi2 f⟩,n,p,Z.lM.at λo e=>d _ o D.l1z D.l1i1 D.l1i2 e,Z.lO.at λo e=>d _ o D.l2z D.l2i1 D.l2i2 e,
   by rw[u,Z.sz];rfl,new h' (λc o G _ H I e=>d c o G H I e) t⟩ λc o G _ H I e=>d c o G H I e
  rw[Z.sz]
  exact r
theorem UI{z TI TO i1 i2 l1 l2 base:Addr}{xs ys:Array Value}{k:Nat}{Q:Option Value->Shared->Prop}(j:A.handled=none)(D:ZipApart z TI TO i1 i2 l1 l2)
  (Z:ZS z TI TO i1 i2 l1 l2 base xs ys k s.heap)(d:k=min xs.size ys.size)
  (l:∀h',(∀c o,c≠z->c≠TO->c≠i1->c≠i2->s.heap.get? c=some o->h'.get? c=some o)->Q none {s with heap:=h'}):wpAny (model prog w) A (pyNext (.ref z)) Q E s:=by
 obtain⟨a,b,f⟩:=Z.to
 have m:xs[k]? =none\/ys[k]? =none:=by
  subst d
  rcases Nat.le_total xs.size ys.size with h|h
  .exact .inl (by rw[Nat.min_eq_left h];exact pX (aG _))
  .exact .inr (by rw[Nat.min_eq_right h];exact pX (aG _))
 rcases Z.zip with⟨e,q⟩|⟨e,v,q⟩
 .exact wpAny_pyNext_zip_end j D q Z.ti f Z.oA Z.oB Z.lM Z.lO m l
 .have g:0<xs.size:=ω
  have i:0<ys.size:=ω
  have n:=Z.old 0 _ _ e (gf g) (gf i)
  rw[Nat.add_zero] at n
  exact QH j D q n Z.ti Z.oA Z.oB Z.lM Z.lO m λh' p=>l h' λc o r _ t u e=>p c o r t u e
noncomputable def fm(base k:Nat):Array Value:=((range k).map λj=>Value.ref (base+j)).toArray
theorem QT(base k:Nat):fm base (k+1)=(fm base k).push (.ref (base+k)):=by
 unfold fm;rw[range_succ,eV];simp
theorem zI(base k:Nat):(fm base k).size=k:=by simp[fm]
end
namespace F
theorem UH:typeLookup (.type "zip") "__len__"=pure none:=by rw[ni,nF];kernel_rfl
theorem UG:typeLookup (.type "zip") "__length_hint__"=pure none:=by rw[ni,nF];kernel_rfl
end F
section
variable{prog:Program}{w:World}{A:Around}{s:Shared}{R:Result->Shared->Prop}{z TI TO i1 i2 l1 l2 base S:Addr}{xs ys:Array Value}
structure qe(z TI TO i1 i2 l1 l2 base S:Addr):Prop where
 n1:z≠S
 n2:TI≠S
 n3:TO≠S
 n4:i1≠S
 n5:i2≠S
 n6:l1≠S
 n7:l2≠S
 n8:S<base
theorem KY(H:A.handled=none)(D:ZipApart z TI TO i1 i2 l1 l2)(L:nR z TI TO i1 i2 l1 l2 base)(O:qe z TI TO i1 i2 l1 l2 base S)(Q:min xs.size ys.size<=sizeLine)(res:Value):
  ∀(m k:Nat) (s:Shared) (c:Nat),min xs.size ys.size - k=m->k<=min xs.size ys.size->ZS z TI TO i1 i2 l1 l2 base xs ys k s.heap->s.heap.get? S=some {cls:=.type "list",dict:=none,data:=.seq (fm base k) c,slots:= #[]}->
  (∀h' c',(∀(j:Nat) x y,xs[j]?=some x->ys[j]?=some y->IsPair h' (base+j) x y)->h'.get? S=some {cls:=.type "list",dict:=none,data:=.seq (fm base (min xs.size ys.size)) c',slots:= #[]}->
   (∀b o,b≠S->b≠z->b≠TO->b≠i1->b≠i2->s.heap.get? b=some o->h'.get? b=some o)->R (.ok (.ret res)) {s with heap:=h'})->
  codeAny (model prog w) A (.builtin "list.extend.loop" ⟨[.ref S,.ref z,res],[]⟩) R s:=by
 have lo:∀(c j:Nat),c<base->base+j≠c:=λc j hc e=>absurd (cK hc (pH base j)) (by rw[e];exact fy _);intro m;induction m with
 |zero=>
  intro k s c I J i r t;have f:k=min xs.size ys.size:=ω
  refine iJ PySem.F.entry_extend_loop ?_;rw[je sd _];show wpAny _ A.in1 (pyNext (.ref z)>>=_) _ _ s;refine af (UI (A:=A.in1) H D i f λh' a=>?_);refine aD (t h' c (λj x y E G=>?_) ?_ λb o u l n p q e=>a b o l n p q e)
  .have K:j<k:=by
    have T:=(wJ.mp E).1;have U:=(wJ.mp G).1;omega
   exact a _ _ (lo _ _ L.z) (lo _ _ L.to) (lo _ _ L.i1) (lo _ _ L.i2) (i.old j x y K E G)
  .rw[<-f]
   exact a _ _ O.n1.symm O.n3.symm O.n4.symm O.n5.symm r
 |succ m M=>
  intro k s c I J i r t;have v:k<min xs.size ys.size:=ω
  have hx:xs[k]?=some (xs[k]' ω):=gf _;have hy:ys[k]?=some (ys[k]' ω):=gf _;refine iJ PySem.F.entry_extend_loop ?_;rw[je sd _];show wpAny _ A.in1 (pyNext (.ref z)>>=_) _ _ s;refine af (UJ (A:=A.in1) D L i hx hy λh' B a=>?_);have g:=a _ _ O.n1.symm O.n3.symm O.n4.symm O.n5.symm r;show wpAny _ A.in1 (updateSeq S (·.push (.ref (base+k)))>>=_) _ _ _;refine af ?_;have h:∀b o,b≠S->h'.get? b=some o->(h'.update S (Obj.mapSeq (·.push (.ref (base+k))))).get? b=some o:=λb o N e=>(pY _ _ (Ne.symm N)).trans e;have C:=j9 (Obj.mapSeq (·.push (.ref (base+k)))) g rfl;have d:∃n',(h'.update S (Obj.mapSeq (·.push (.ref (base+k))))).get? S=some {cls:=.type "list",dict:=none,data:=.seq ((fm base k).push (.ref (base+k))) n',slots:= #[]}:=⟨_,C⟩;obtain⟨n',d⟩:=d;rw[<-QT] at d;refine sE g rfl (aD ⟨jz sd _,M (k+1) _ n' ω v (B.upd h (pO ..) O.n1 O.n2 O.n3 O.n4 O.n5 O.n6 O.n7 O.n8) d λh'' c' a1 a2 P=>?_⟩)
   (by rw[zI];omega) (by show((fm base k).push _).size<=sizeLine+1;rw[Array.size_push,zI];omega)
  .exact t h'' c' a1 a2 λb o u l n p q e=>P b o u l n p q (h b o u (a b o l n p q e))
theorem KW(n:A.handled=none)(D:ZipApart z TI TO i1 i2 l1 l2)(L:nR z TI TO i1 i2 l1 l2 base)(O:qe z TI TO i1 i2 l1 l2 base S)(p:min xs.size ys.size<=sizeLine)(res:Value)(c₀:Nat)
  (i:ZS z TI TO i1 i2 l1 l2 base xs ys 0 s.heap)(k:s.heap.get? S=some {cls:= .type "list",data:= .seq #[] c₀})
  (r:∀h' c',(∀(j:Nat) x y,xs[j]? =some x->ys[j]? =some y->IsPair h' (base+j) x y)->h'.get? S=some {cls:= .type "list",dict:=none,data:= .seq (fm base (min xs.size ys.size)) c',slots:= #[]}->
   (∀b o,b≠S->b≠z->b≠TO->b≠i1->b≠i2->s.heap.get? b=some o->h'.get? b=some o)->R (.ok (.ret res)) {s with heap:=h'}):
  wpAny (model prog w) A.in1 (Builtin.List.listExtendWith (.ref S) (.ref z) res)
   (λfin s'=>match fin with| .done f=>R (.ok f) s'| .again c'=>c'.quiet=true/\codeAny (model prog w) A c' R s') (λe s'=>R (.error e) s') s:=by
 have d:IsZip s.heap z TI TO .none:=by
  rcases i.zip with⟨_,q⟩|⟨e,_⟩
  .exact q
  .exact absurd e (fy _)
 have h:s.TypeIs (.ref z) "zip":=⟨_,d,rfl⟩
 unfold Builtin.List.listExtendWith
 refine af (lZ h ?_)
 have h1:Builtin.List.listSameRef (.ref S) (.ref z)=false:=by simp[Builtin.List.listSameRef,O.n1.symm]
 have h2:(Value.type "zip" ==Value.type "list")=false:=δ
 have t:(Value.type "zip" ==Value.type "tuple")=false:=δ
 simp only[h1,h2,t,Bool.or_false,jf,fT]
 refine af (wpAny_pyIter_zip d ?_)
 refine af (gz ?_)
 unfold Builtin.List.listLengthHint
 refine af (wpAny_specialOf h F.UH ?_)
 show wpAny _ A.in1 (specialOf (Value.ref z) (Str.ofString "__length_hint__")>>=_) _ _ _
 refine af (wpAny_specialOf h F.UG ?_)
 refine aD ?_
 show wpAny _ A.in1 (rule "list.extend.makes-room">>=λ_=>Builtin.List.listTouch (.ref S)>>=λ_=>
  again (.builtin "list.extend.loop" ⟨[.ref S,.ref z,res],[]⟩)) _ _ _
 refine af (j5 ?_)
 refine af ?_
 show wpAny _ A.in1 (updateSeq S (·.push .none)>>=λ_=>updateSeq S (·.pop)) _ _ _
 refine af (sE k rfl ?_)
 have a:=j9 (Obj.mapSeq (·.push Value.none)) k rfl
 refine sE (hz:=by seq_fits) a rfl ?_
 have c:=j9 (Obj.mapSeq (·.pop)) a rfl
 have g:∀b o,b≠S->s.heap.get? b=some o->((s.heap.update S (Obj.mapSeq (·.push Value.none))).update S (Obj.mapSeq (·.pop))).get? b=some o:=
  λb o l e=>(pY _ _ (Ne.symm l)).trans ((pY _ _ (Ne.symm l)).trans e)
 refine aD ⟨jz sd _,KY n D L O p res _ 0 _ _ rfl (bV _) (i.upd g (by rw[pO,pO]) O.n1 O.n2 O.n3 O.n4 O.n5 O.n6 O.n7 O.n8) c λh' c' a1 a2 u=> ?_⟩
 exact r h' c' a1 a2 λb o m v B C E e=>u b o m v B C E (g b o m e)
end
end ZL
end PySem
section
open PySem PySem.Spec PyProof.Rows
namespace L2
noncomputable def cP:List (Str×NameKind)->List Str
 |[]=>[]
 |(n,k)::r=>if (k==NameKind.free)=true then n::cP r else cP r
noncomputable def dO(env:Env):List (Str×NameKind)->List (Str×Addr)->List (Str×Addr)
 |[],acc=>acc
 |(n,k)::r,acc=>if (k==NameKind.free)=true then dO env r ((n,(env.cells.lookup n).getD 0)::acc) else dO env r acc
theorem xV{env:Env}{f:(Str×NameKind)->List (Str×Addr)->Sem (ForInStep (List (Str×Addr)))}
  (h1:∀n k cs c,(k==NameKind.free)=true->env.cells.lookup n=some c->f (n,k) cs=pure (.yield ((n,c)::cs)))(h2:∀n k cs,(k==NameKind.free)=false->f (n,k) cs=pure (.yield cs)):
  ∀(names:List (Str×NameKind)) (acc:List (Str×Addr)),(∀n∈cP names,∃c,env.cells.lookup n=some c)->forIn names acc f=pure (dO env names acc)
 |[],acc,_=>by rw[forIn_nil];rfl
 |(n,k)::r,acc,h=>by
  rw[forIn_cons];cases e:(k==NameKind.free) with
  |true=>
   have b:cP ((n,k)::r)=n::cP r:=by show(if (k==NameKind.free)=true then n::cP r else cP r)=_;rw[ao e]
   obtain⟨c,hc⟩:=h n (by rw[b];exact br);rw[h1 n k acc c e hc,pure_bind];show forIn r ((n,c)::acc) f=_;rw[xV h1 h2 r _ λm d=>h m (by rw[b];exact bq _ d)];have a:dO env ((n,k)::r) acc=dO env r ((n,(env.cells.lookup n).getD 0)::acc):=by
    show(if (k==NameKind.free)=true then _ else _)=_;rw[ao e]
   rw[a,hc];rfl
  |false=>
   have b:cP ((n,k)::r)=cP r:=by show(if (k==NameKind.free)=true then n::cP r else cP r)=_;rw[ak (by rw[e];decide)]
   rw[h2 n k acc e,pure_bind];show forIn r acc f=_;rw[xV h1 h2 r _ λm d=>h m (by rw[b];exact d)];have a:dO env ((n,k)::r) acc=dO env r acc:=by
    show(if (k==NameKind.free)=true then _ else _)=_;rw[ak (by rw[e];decide)]
   rw[a]
theorem BU{scope:Scope}{env:Env}(h:∀n∈cP scope.names,∃c,env.cells.lookup n=some c):closureFor scope env=pure (dO env scope.names []):=by
 unfold closureFor;show(forIn scope.names [] _>>=_)=_;rw[xV (env:=env) (λn k cs c a hc=>?_) (λn k cs a=>?_) scope.names [] h]
 .exact pure_bind _ _
 .dsimp only
  rw[ao a];unfold cellOf;rw[hc];rfl
 .dsimp only
  rw[ak (by rw[a];decide)]
theorem qo{env:Env}{x:Str}:∀(names:List (Str×NameKind)) (acc:List (Str×Addr)),(∀n∈cP names,∃c,env.cells.lookup n=some c)->
  (dO env names acc).lookup x=if x∈cP names then env.cells.lookup x else acc.lookup x
 |[],acc,_=>by simp[dO,cP]
 |(n,k)::r,acc,h=>by
  cases e:(k==NameKind.free) with
  |true=>
   have b:cP ((n,k)::r)=n::cP r:=by show(if (k==NameKind.free)=true then n::cP r else cP r)=_;rw[ao e]
   obtain⟨c,hc⟩:=h n (by rw[b];exact br);have a:dO env ((n,k)::r) acc=dO env r ((n,(env.cells.lookup n).getD 0)::acc):=by
    show(if (k==NameKind.free)=true then _ else _)=_;rw[ao e]
   rw[a,b,qo r _ λm f=>h m (by rw[b];exact bq _ f)];by_cases d:x∈cP r
   .rw[ao d,ao (bq _ d)]
   .rw[ak d]
    by_cases hx:x=n
    .subst hx
     rw[ao br,hc];simp
    .rw[ak (by intro z;rcases bz.mp z with z|z;exact hx z;exact d z)]
     have g:(x==n)=false:=by simpa using hx
     rw[eT,g]
  |false=>
   have b:cP ((n,k)::r)=cP r:=by show(if (k==NameKind.free)=true then n::cP r else cP r)=_;rw[ak (by rw[e];decide)]
   have a:dO env ((n,k)::r) acc=dO env r acc:=by
    show(if (k==NameKind.free)=true then _ else _)=_;rw[ak (by rw[e];decide)]
   rw[a,b,qo r _ λm f=>h m (by rw[b];exact f)]
theorem xR{x:Str}{c:Addr}:∀(names:List (Str×NameKind)) (n:Nat) (acc:List (Str×Addr)),(cellsFrom n names acc).lookup x=some c->(n<=c/\(x,NameKind.cell)∈names)\/acc.lookup x=some c
 |[],n,acc,h=>.inr h
 |(m,k)::r,n,acc,h=>by
  unfold cellsFrom at h;split at h
  .rename_i a
   rcases xR r _ _ h with⟨h1,h2⟩|h1
   .exact .inl ⟨ω,bq _ h2⟩
   .rw[eT] at h1
    split at h1
    .rename_i hx
     cases h1;exact .inl ⟨aG _,by rw[j8.mp hx,<-j8.mp a];exact br⟩
    .exact .inr h1
  .rcases xR r _ _ h with⟨h1,h2⟩|h1
   .exact .inl ⟨h1,bq _ h2⟩
   .exact .inr h1
theorem xQ:∀(names:List (Str×NameKind)) (n:Nat) (acc:List (Str×Addr)),(∀x y c,acc.lookup x=some c->acc.lookup y=some c->x=y)->(∀x c,acc.lookup x=some c->c<n)->
  ∀x y c,(cellsFrom n names acc).lookup x=some c->(cellsFrom n names acc).lookup y=some c->x=y
 |[],_,_,h,_=>h
 |(m,k)::r,n,acc,h,hl=>by
  unfold cellsFrom;split
  .refine xQ r _ _ (λx y c hx hy=>?_) λx c hx=>?_
   .rw[eT] at hx hy
    split at hx<;>split at hy
    .rename_i _ a _ b
     rw[j8.mp a,j8.mp b]
    .cases hx
     exact absurd (hl _ _ hy) (fy _)
    .cases hy
     exact absurd (hl _ _ hx) (fy _)
    .exact h x y c hx hy
   .rw[eT] at hx
    split at hx
    .cases hx;exact kO _
    .exact gb (hl _ _ hx)
  .exact xQ r _ _ h hl
theorem xS{x:Str}:∀(names:List (Str×NameKind)) (n:Nat) (acc:List (Str×Addr)),(x,NameKind.cell)∉names->(cellsFrom n names acc).lookup x=acc.lookup x
 |[],_,_,_=>rfl
 |(m,k)::r,n,acc,h=>by
  have a:(x,NameKind.cell)∉r:=λz=>h (bq _ z);unfold cellsFrom;split
  .rename_i b
   rw[xS r _ _ a,eT];split
   .rename_i hx
    exact absurd (by rw[j8.mp hx,<-j8.mp b];exact br) h
   .rfl
  .exact xS r _ _ a
theorem xP{x:Str}:∀(names:List (Str×NameKind)) (n:Nat) (acc:List (Str×Addr)),((∃c,acc.lookup x=some c)\/(x,NameKind.cell)∈names)->∃c,(cellsFrom n names acc).lookup x=some c
 |[],_,_,h=>by
  rcases h with h|h
  .exact h
  .cases h
 |(m,k)::r,n,acc,h=>by
  unfold cellsFrom;split
  .rename_i a
   refine xP r _ _ ?_;rcases h with⟨c,h⟩|h
   .left
    rw[eT];split
    .exact⟨_,rfl⟩
    .exact⟨c,h⟩
   .rcases bz.mp h with e|e
    .cases e
     exact .inl ⟨n,by rw[eT,beq_self_eq_true]⟩
    .exact .inr e
  .rename_i a
   refine xP r _ _ (h.imp id λe=>?_);rcases bz.mp e with e|e
   .cases e
    exact absurd rfl a
   .exact e
theorem zu{x:Str}{c:Addr}:∀(names:List (Str×NameKind)) (h:Heap) (acc:List (Str×Addr)),(cellsFrom h.objs.size names acc).lookup x=some c->acc.lookup x=some c\/(h.objs.size<=c/\(pushCells h names).IsCell c none)
 |[],h,acc,e=>.inl e
 |(m,k)::r,h,acc,e=>by
  unfold cellsFrom at e;unfold pushCells;split at e
  .rename_i a
   rw[ao a];have ih:=zu (x:=x) (c:=c) r (h.push {cls:=.type "cell",data:=.cell none}) ((m,h.objs.size)::acc) (by rw[eF];exact e);rw[eF] at ih;rcases ih with ih|ih
   .rw[eT] at ih
    split at ih
    .cases ih
     exact .inr ⟨aG _,_,pushCells_keeps r _ _ _ (cu _ rfl),rfl⟩
    .exact .inl ih
   .exact .inr ⟨ω,ih.2⟩
  .rename_i a
   rw[ak a];exact zu r h acc e
theorem UC{M:Model}{A:Around}{E:aR}{s:Shared}{scope:Scope}{globals:Addr}{closure:List (Str×Addr)}{qual:Str}{func:Option Addr}{code:Value}{env:Env}{builtins:Addr}{Q:Env->Shared->Prop}
  (b:Q (newEnv scope s.heap.objs.size globals (cellsFrom (s.heap.objs.size+1) scope.names closure) qual func code (some env) builtins) {s with heap:=pushCells (s.heap.push {cls:=.type "dict",data:=.dict #[]}) scope.names}):
  wpAny M A (newFunctionEnv scope globals closure [] qual func code (some env) builtins) Q E s:=by
 simp only[newFunctionEnv,Option.isSome_some,jZ];refine af (wpAny_alloc ?_);refine af (wpAny_layCells _ (λname kind cells=>by cases a:kind==NameKind.cell<;>simp[a]) _ _ _ _ ?_);rw[show({s with heap:=s.heap.push {cls:=.type "dict",data:=.dict #[]}}:Shared).heap.objs.size=s.heap.objs.size+1 from eF ..];rw[forIn_nil];exact af (aD (aD b))
structure e9(X:Cx)(scope:Scope)(frees:List Str):Prop where
 kind:scope.kind= .function
 Jm:∀y∈scope.names,y.2= .cell->scope.names.lookup y.1=some .cell
 locs:∀y∈scope.names,y.2= .local->scope.names.lookup y.1=some .local
 sub:∀n∈cP scope.names,n∈frees
 free:∀n∈frees,scope.names.lookup n=some .free
 kinds:(frees.all λn=>X.env.kindOf n==some .cell||X.env.kindOf n==some .free)=true
theorem e9.frees{X:Cx}{scope:Scope}{fr:List Str}(S:e9 X scope fr):∀n∈cP scope.names,X.env.kindOf n=some .cell\/X.env.kindOf n=some .free:=λn a=>by
 have h:=pS.mp S.kinds n (S.sub n a);rcases or_eq_true _ _▸h with h|h
 .exact .inl (pV h)
 .exact .inr (pV h)
theorem uB{x:Str}:∀{names:List (Str×NameKind)},(x,NameKind.free)∈names->x∈cP names
 |(n,k)::r,h=>by
  unfold cP;rcases bz.mp h with e|e
  .injection e with a b
   subst a b;rw[ao (by rfl)];exact br
  .split
   .exact bq _ (uB e)
   .exact uB e
theorem Fx{env:Env}{x:Str}:∀{names:List (Str×NameKind)} {k:NameKind},(names.map λ(n,k)=>if (k==NameKind.free&&env.scope.kind== .function&&env.kindOf n==some .cell) then (n,NameKind.cell) else (n,k)).lookup x=some k->
  ∃k0,names.lookup x=some k0/\(k=k0\/(k0=.free/\k=.cell))
 |[],k,h=>by simp at h
 |(n,k1)::r,k,h=>by
  rw[ck] at h;by_cases hx:(x==n)=true
  .by_cases hc:(k1==NameKind.free&&env.scope.kind== .function&&env.kindOf n==some .cell)=true
   .dsimp only at h
    rw[ao hc,eT,hx] at h;have e:k=.cell:=by injection h with h;exact h.symm
    have b:k1=.free:=by
     have:=(ia _ _▸(ia _ _▸hc).1).1;exact pV this
    exact⟨k1,by rw[eT,hx],.inr ⟨b,e⟩⟩
   .dsimp only at h
    rw[ak hc,eT,hx] at h;injection h with h;exact⟨k1,by rw[eT,hx],.inl h.symm⟩
  .have a:(x==n)=false:=by simpa using hx
   have h':(List.map (λ(n,k)=>if (k==NameKind.free&&env.scope.kind== .function&&env.kindOf n==some .cell) then (n,NameKind.cell) else (n,k)) r).lookup x=some k:=by
    by_cases hc:(k1==NameKind.free&&env.scope.kind== .function&&env.kindOf n==some .cell)=true
    .dsimp only at h;rw[ao hc,eT,a] at h;exact h
    .dsimp only at h;rw[ak hc,eT,a] at h;exact h
   obtain⟨k0,b,c⟩:=Fx h';exact⟨k0,by rw[eT,a];exact b,c⟩
theorem Fw{env:Env}{x:Str}:∀{names:List (Str×NameKind)},names.lookup x=some .free->
  (names.map λ(n,k)=>if (k==NameKind.free&&env.scope.kind== .function&&env.kindOf n==some .cell) then (n,NameKind.cell) else (n,k)).lookup x=some .cell\/
  (names.map λ(n,k)=>if (k==NameKind.free&&env.scope.kind== .function&&env.kindOf n==some .cell) then (n,NameKind.cell) else (n,k)).lookup x=some .free
 |[],h=>by simp at h
 |(n,k1)::r,h=>by
  rw[ck]
  by_cases hx:(x==n)=true
  .rw[eT,hx] at h
   injection h with h
   subst h
   by_cases hc:(NameKind.free==NameKind.free&&env.scope.kind== .function&&env.kindOf n==some .cell)=true
   .left;dsimp only;rw[ao hc,eT,hx]
   .right;dsimp only;rw[ak hc,eT,hx]
  .have a:(x==n)=false:=by simpa using hx
   rw[eT,a] at h
   have b:=Fw (env:=env) h
   by_cases hc:(k1==NameKind.free&&env.scope.kind== .function&&env.kindOf n==some .cell)=true
   .dsimp only;rw[ao hc,eT,a];exact b
   .dsimp only;rw[ak hc,eT,a];exact b
structure CP where
 C:Addr
 s:Shared
 H:Hp
 pins:aT
 fp:List Addr
noncomputable def bU(X:Cx)(NC:List Str)(scope:Scope)(c:CP):Cx where
 prog:=X.prog
 w:=X.w
 K:=X.K
 mg:=X.mg
 base:=X.base
 A:=X.A
 N:=NC
 s₀:=c.s
 H₀:=c.H
 env:=compEnvC scope (cellsFrom (c.C+1) scope.names (dO X.env scope.names [])) c.C X.env
 outer:=X.stack
 stack:=X.stack
 ex:=c.fp
 fn:=λx=>scope.names.lookup x==some .cell
 calm:=true
 pn:=X.pn++c.pins
 xe:=λ_ _=>False
section
variable{X:Cx}{scope:Scope}{frees:List Str}{NC:List Str}{pins:aT}{σ p6:St}{H H':Hp}{s s':Shared}{fp:List Addr}{C:Addr}
theorem e9.has(S:e9 X scope frees)(ok:X.Ok):∀n∈cP scope.names,∃c,X.env.cells.lookup n=some c:=λn a=>ok.has n (S.frees n a)
theorem e9.qm(S:e9 X scope frees)(ok:X.Ok){x:Str}{c:Addr}(h:(dO X.env scope.names []).lookup x=some c):x∈cP scope.names/\X.env.cells.lookup x=some c:=by
 rw[qo scope.names [] (S.has ok)] at h;by_cases hx:x∈cP scope.names
 .rw[ao hx] at h;exact⟨hx,h⟩
 .rw[ak hx] at h;simp at h
theorem e9.cells(S:e9 X scope frees)(ok:X.Ok){x:Str}{c:Addr}{n:Nat}(h:(cellsFrom n scope.names (dO X.env scope.names [])).lookup x=some c):n<=c\/(x∈cP scope.names/\X.env.cells.lookup x=some c):=
 (xR _ _ _ h).imp And.left (S.qm ok)
theorem e9.mY(S:e9 X scope frees){x:Str}(h:(x,NameKind.cell)∈scope.names)(hx:x∈cP scope.names):False:=by
 have h1:=S.Jm _ h rfl;rw[S.free x (S.sub x hx)] at h1;cases h1
theorem JC(S:e9 X scope frees)(hc:X.calm=true)(I:Inv X pins σ H s)(d:∀b∈fp,gC X pins H b/\b<s.heap.objs.size)(g:C=s.heap.objs.size):(bU X NC scope ⟨C,s,H,pins,fp⟩).Ok where
 mod:=I.ok.mod
 kind:=S.kind
 glob:=I.ok.glob
 blt:=I.ok.blt
 above:=by show s.heap.objs.size<=C;rw[g];exact aG _
 inj:=xQ _ _ _ (λx y c h1 h2=>I.ok.inj x y c (S.qm I.ok h1).2 (S.qm I.ok h2).2) λx c h=>by
  obtain⟨v,q⟩:=I.cell x c (S.qm I.ok h).2
  rw[g]
  exact gb q.lt
 has:=λx hx=>by
  have l:∃k,(relabel scope X.env).names.lookup x=some k/\(k= .cell\/k= .free):=by
   rcases hx with h|h
   .exact⟨_,h,.inl rfl⟩
   .exact⟨_,h,.inr rfl⟩
  obtain⟨k,h,hk⟩:=l
  obtain⟨k0,p,f⟩:=Fx h
  have j:=l8 p
  have m:k0= .free\/k0= .cell:=by
   rcases f with f|⟨f,_⟩
   .rcases hk with hk|hk
    .exact .inr (f▸hk)
    .exact .inl (f▸hk)
   .exact .inl f
  refine xP _ _ _ ?_
  rcases m with rfl|rfl
  .have i:=uB j
   obtain⟨c,n⟩:=S.has I.ok x i
   exact .inl ⟨c,by rw[qo scope.names [] (S.has I.ok),ao i];exact n⟩
  .exact .inr j
 nV:=λx c h h2=>by
  have j:(x,NameKind.cell)∈scope.names:=l8 (pV h)
  show s.heap.objs.size<=c
  rcases S.cells I.ok h2 with z|⟨z,_⟩
  .rw[g] at z
   exact Nat.le_of_succ_le z
  .exact(S.mY j z).elim
 hd:=λ_=>I.ok.hd hc
 frames:=I.ok.frames
 stk:= .inl rfl
 yy:=λb a=>⟨λz=>by have:=(d b a).2;rw[z] at this;exact absurd (g▸this) (fy _),λx c h=>by
  rcases S.cells I.ok h with z|⟨_,z⟩
  .exact jy (cK (d b a).2 (Nat.le_of_succ_le (g▸z:s.heap.objs.size+1<=c)))
  .exact(d b a).1.2.2.2.2.1 x c z⟩
 bs:=I.bs
 kj:=cV I.ok.kj I.sz
 oU:=λb o e a=>by
  rcases (d b a).1.2.2.2.1 with z|z
  .exact I.ok.oU b o e z
  .exact absurd (cK (aV e) (cV I.ok.kj z)) (fy _)
 qC:=λb a z=>by
  rcases bz.mp (I.pq b z) with e|e
  .exact(d b a).1.2.1 e
  .exact(d b a).1.2.2.1 e
 iY:=I.stack
 lD:=I.zV
noncomputable def stC(own:List Str)(ix:List Nat)(σ:St):St:=own.map (λ_=>none)++ix.map λi=>(σ[i]?).join
theorem SO{own frees:List Str}{ix:List Nat}{σ:St}{b:List Str}(c:ix.map (λi=>b[i]?)=frees.map some){j:Nat}{x:Str}{v:V}(h1:(own++frees)[j]?=some x)(h2:(stC own ix σ)[j]?=some (some v)):
  x∈frees/\∃i:Nat,b[i]?=some x/\σ[i]?=some (some v):=by
 have hl:ix.length=frees.length:=by have:=cB List.length c;simpa using this
 unfold stC at h2;by_cases d:j<own.length
 .rw[gB (by simpa using d),bO] at h2
  cases e:own[j]? with
  |none=>rw[e] at h2;simp at h2
  |some o=>rw[e] at h2;simp at h2
 .rw[pZ (by simpa using d),bO,aS] at h2
  rw[pZ ω] at h1;have a:(ix.map (λi=>b[i]?))[j - own.length]?=(frees.map some)[j - own.length]? :=by rw[c]
  rw[bO,bO,h1] at a;cases e:ix[j - own.length]? with
  |none=>rw[e] at h2;simp at h2
  |some i=>
   rw[e] at h2 a;simp only[map_some,Option.some.injEq] at h2 a;refine⟨bP h1,i,a,?_⟩;cases q:σ[i]? with
   |none=>rw[q] at h2;simp at h2
   |some o=>rw[q] at h2;simp at h2;rw[h2]
theorem SQ{own frees:List Str}{ix:List Nat}{σ:St}{a:List Str}(b:ix.map (λi=>a[i]?)=frees.map some):(stC own ix σ).length=(own++frees).length:=by
 have hl:ix.length=frees.length:=by have:=cB List.length b;simpa using this
 unfold stC;simp[hl]
theorem JB{own:List Str}{ix:List Nat}{a:Heap}{tk:Nat}(S:e9 X scope frees)(hc:X.calm=true)(I:Inv X pins σ H s)(J:∀b∈fp,gC X pins H b/\b<s.heap.objs.size)(w:C=s.heap.objs.size)
  (F:ix.map (λi=>X.N[i]?)=frees.map some)(y:∃m,a.Ns C m)(k:∀b o,s.heap.get? b=some o->a.get? b=some o)
  (A:∀x c,(cellsFrom (C+1) scope.names (dO X.env scope.names [])).lookup x=some c->(dO X.env scope.names []).lookup x=some c\/(C+1<=c/\a.IsCell c none)):
  Inv (bU X (own++frees) scope ⟨C,s,H,pins,fp⟩) [] (stC own ix σ) H {s with heap:=a,toks:=tk}:=by
 obtain⟨m,K⟩:=y
 refine⟨JC S hc I J w,rfl,I.bare,Un.kept k,⟨m,K,λj x v h1 h2 T=> ?_⟩,λx c h=> ?_,?_,λx c h=> ?_,λp L=> ?_,I.hok.kept k,SQ F⟩
 .obtain⟨hx,i,M,O⟩:=SO F h1 h2
  have f:=S.free x hx
  have g:=uB (l8 f)
  have t:=S.frees x g
  obtain⟨m0,_,hl⟩:=I.loc
  have B:nQ X.env.scope x:=by rcases t with z|z;exact .inr (.inl z);exact .inr (.inr z)
  obtain⟨u,r,l⟩:=hl i x v M O B
  refine⟨u,r,?_⟩
  rcases l with⟨G,_⟩|⟨_,c,P,Q⟩
  .rcases t with z|z
   .rw[G] at z;cases z
   .rw[G] at z;cases z
  .refine .inr ⟨Fw (env:=X.env) f,c,?_,?_⟩
   .show(cellsFrom _ scope.names (dO X.env scope.names [])).lookup x=some c
    rw[xS _ _ _ λz=>S.mY z g,qo scope.names [] (S.has I.ok),ao g]
    exact P
   .obtain⟨o,D,hd⟩:=Q
    exact⟨o,k _ _ D,hd⟩
 .rcases A x c h with h|h
  .obtain⟨_,e⟩:=S.qm I.ok h
   obtain⟨v,o,D,hd⟩:=I.cell x c e
   exact⟨v,o,k _ _ D,hd⟩
  .exact⟨none,h.2⟩
 .show H C=none
  rw[w]
  exact I.hok.fresh (aG _)
 .rcases S.cells I.ok h with z|⟨_,z⟩
  .refine I.hok.fresh ?_
   have z:s.heap.objs.size+1<=c:=w▸z
   omega
  .exact I.gX x c z
 .have E:p∈X.pn++pins:=by
   have:p∈(X.pn++pins)++[]:=L
   rwa [l_] at this
  obtain⟨e,n,ne,R,d⟩:=I.pin p E
  refine⟨k _ _ e,n,?_,λz=> ?_,d⟩
  .show p.1≠C
   rw[w]
   exact bI (aV e)
  .rcases bz.mp (I.pq p.1 z) with q|q
   .exact ne q
   .exact R q
theorem Jz{NC:List Str}(S:e9 X scope frees)(I:Inv X pins σ H s)(d:∀b∈fp,gC X pins H b/\b<s.heap.objs.size)(e:C=s.heap.objs.size){b:Addr}(a:b∈fp)(f:H' b=none):gC (bU X NC scope ⟨C,s,H,pins,fp⟩) [] H' b:=by
 refine⟨f,?_,λz=>?_,.inl a,λx c h=>by
  rcases S.cells I.ok h with z|⟨_,z⟩
  .exact jy (cK (d b a).2 (Nat.le_of_succ_le (e▸z:s.heap.objs.size+1<=c)))
  .exact(d b a).1.2.2.2.2.1 x c z,λp g=>(d b a).1.2.2.2.2.2 p ?_⟩
 .show b≠C
  rw[e];exact bI (d b a).2
 .rcases bz.mp (I.pq b z) with q|q
  .exact(d b a).1.2.1 q
  .exact(d b a).1.2.2.1 q
 .have:p∈(X.pn++pins)++[]:=g
  rwa [l_] at this
theorem Jy{NC:List Str}(I:Inv X pins σ H s)(a:∀b∈fp,gC X pins H b/\b<s.heap.objs.size)(J:Inv (bU X NC scope ⟨C,s,H,pins,fp⟩) [] p6 H' s'):Inv X pins σ H' s':=
 I.xN J.os J.base J.hok J.bare λb c=>⟨(a b c).1.2.2.2.1,(a b c).1.2.1,(a b c).1.2.2.2.2.1,(a b c).1.2.2.2.2.2⟩
theorem JA{h':Heap}(I:Inv X pins σ H s)(a:H C=none)(h1:C≠X.env.locals)(h2:X.s₀.heap.objs.size<=C)(d:∀x c,X.env.cells.lookup x=some c->c≠C)(f:∀p∈X.pn++pins,p.1≠C)(g:SameBut C s.heap h'):
 Inv X pins σ H {s with heap:=h'}:=I.turned (t':=s.toks) (λb o h e=>(g.2 b h).trans e) a h1 (.inr h2) d f
end
inductive gD:St->St->Prop
 |nil:gD [] []
 |own {o:Option V} {a b:St}:gD a b->gD (none::a) (o::b)
 |keep {o:Option V} {a b:St}:gD a b->gD (o::a) (o::b)
theorem gD.len:∀{a b:St},gD a b->b.length=a.length
 |_,_,.nil=>rfl
 |_,_,.own h=>cB (·+1) h.len
 |_,_,.keep h=>cB (·+1) h.len
theorem gD.get:∀{a b:St},gD a b->∀(i:Nat) v,a[i]?=some (some v)->b[i]?=some (some v)
 |_,_,.nil,i,v,e=>by simp at e
 |_,_,.own h,0,v,e=>by simp at e
 |_,_,.own h,i+1,v,e=>by
  rw[Am] at e ⊢;exact h.get i v e
 |_,_,.keep h,0,v,e=>by simpa using e
 |_,_,.keep h,i+1,v,e=>by
  rw[Am] at e ⊢;exact h.get i v e
theorem gD.refl:∀a:St,gD a a
 |[]=>.nil
 |_::r=>.keep (gD.refl r)
inductive iO(X:Cx):List Expr->TT->Prop
 |nil:iO X [] (λ_ H Q=>Q true H)
 |one {c:Expr} {t:TT}:PT X c t->iO X [c] t
theorem iO.run{X:Cx}{ifs:List Expr}{t:TT}(h:iO X ifs t){pins:aT}{s:Shared}{σ:St}{H:Hp}{Q:Bool->Hp->Prop}(I:Inv X pins σ H s)(a:t σ H Q):
  wpAny (model X.prog X.w) X.A (forIn ifs true λc r=>if r=true then do let ok <-isTrue c X.env (eval c X.env);pure (ForInStep.yield ok) else pure (ForInStep.yield r)) (TP X pins σ Q) X.xe s:=by
 cases h with
 |nil=>exact wpAny_tests_nil ⟨H,I,a⟩
 |one h=>exact wpAny_tests_one (h pins s σ H Q I a)
def Ja(p6:St)(acc:Addr)(g:TG)(tt:TT)(te:TE)(x:V)(ys:List V)(H:Hp)(N:List V->Hp->Prop):Prop:=
 g x p6 H λσ2 H2=>gD p6 σ2/\tt σ2 H2 λb H3=>if b=true then te σ2 H3 λy H4=>H4 acc=some (.lst ys)/\ys.length<sizeLine/\N (ys++[y]) (upd H4 acc (.lst (ys++[y]))) else N ys H3
def xM(J:It)(p6:St)(acc:Addr)(g:TG)(tt:TT)(te:TE)(H:Hp)(Q:VK):Prop:=
 ∃W:Nat->Nat->List V->Hp->Prop,(∃m,W 0 m [] H)/\∀i m ys H,W i m ys H->H acc=some (.lst ys)/\
  ((J.stop i H/\Q (.ref acc) H)\/(J.go i H/\∃N:List V->Hp->Prop,(∀ys' H',N ys' H'->∃m',m'<m/\W (i+1) m' ys' H')/\∀x H',J.v8 i H x H'->Ja p6 acc g tt te x ys H' N))
def zZ(own:List Str)(ix:List Nat)(wi:TI)(g:CP->TG)(tt:CP->TT)(te:CP->TE):TE:=λσ H Q=>
 wi σ H λJ H1=>∀(c:CP) (acc:Addr),H1 acc=none->xM J (stC own ix σ) acc (g c) (tt c) (te c) (upd H1 acc (.lst [])) Q
section
variable{X:Cx}{scope:Scope}{own frees:List Str}{ix:List Nat}{tg elt iter:Expr}{ifs:List Expr}{pos:Pos}{wi:TI}{g:CP->TG}{tt:CP->TT}{te:CP->TE}
theorem Jr{J:It}{it acc:Addr}{fp:List Addr}{E:Nat->Heap->Prop}{c:CP}{σ:St}{H:Hp}{s:Shared}{Q:VK}{R:Result->Shared->Prop}
  (hfp:c.fp=fp)(T:Turn X.prog X.w X.K tg J fp it E)(hg:PG (bU X (own++frees) scope c) tg (g c))(ht:iO (bU X (own++frees) scope c) ifs (tt c))(he:PE (bU X (own++frees) scope c) elt (te c))
  (j:∀b∈fp,∀H':Hp,H' b=none->gC (bU X (own++frees) scope c) [] H' b)
  (I:Inv (bU X (own++frees) scope c) [] (stC own ix σ) H s)(st:E 0 s.heap)(fr:∀b∈fp,H b=none)(h:xM J (stC own ix σ) acc (g c) (tt c) (te c) H Q)
  (hR:∀s' H',Inv (bU X (own++frees) scope c) [] (stC own ix σ) H' s'->Q (.ref acc) H'->R (.ok .next) s'):
  codeAny (model X.prog X.w) X.A (.compLoop (.ListComp elt [⟨tg,iter,ifs,0⟩] scope pos) 0 (.ref it) (.ref acc) (bU X (own++frees) scope c).env) R s:=by
 obtain⟨W,⟨m0,w0⟩,turn⟩:=h
 refine codeAny_loop rfl (λn s'=>∃i ys H',Inv (bU X (own++frees) scope c) [] (stC own ix σ) H' s'/\E i s'.heap/\(∀b∈fp,H' b=none)/\W i n ys H') (λn G hI=> ?_) m0 ⟨0,[],H,I,st,fr,w0⟩
 obtain⟨i,ys,H1,Z,p,v,w1⟩:=hI
 show wpAny _ X.A ((compTurn (.ListComp elt [⟨tg,iter,ifs,0⟩] scope pos) 0 (.ref it) (.ref acc) (bU X (own++frees) scope c).env).onRaise (λx=>do noteFrame x (bU X (own++frees) scope c).env;theTreesLotGoes x)) _ _ G
 have k:∀{α:Type} {t:Sem α} {P:α->Shared->Prop} {s:Shared},wpAny (model X.prog X.w) X.A t P (λ_ _=>False) s->wpAny (model X.prog X.w) X.A t P (notedBy (model X.prog X.w) X.A (bU X (own++frees) scope c).env λe s'=>R (.error e) s') s:=
  λh=>jB h (λ_ _ q=>q) λ_ _ z=>z.elim
 refine wpAny_noted ?_
 rw[compTurn_list]
 obtain⟨ha,hw⟩:=turn i n ys H1 w1
 rcases hw with⟨stop,q⟩|⟨go,N,hN,step⟩
 .refine af (wz (af (k (aJ (T.done (bU X (own++frees) scope c) rfl rfl rfl rfl i [] G _ H1 (λ_ _=>False) Z (λb f=>j b f H1 (v b f)) p stop) λr s2 ⟨L,I2⟩=> ?_))))
  subst L
  exact aD (hR s2 H1 I2 q)
 .refine af (wz (af (k (aJ (T.item (bU X (own++frees) scope c) rfl rfl rfl rfl i [] G _ H1 (λ_ _=>False) Z (λb f=>j b f H1 (v b f)) p go) λr s2 ⟨u,L,h2⟩=> ?_))))
  subst L
  refine af (k (aJ h2 λ_ s3 ⟨x,M,I3,r3,y3,l,O⟩=> ?_))
  have S:=I3.pinned (λb f=>j b f M (O b f)) (T.obj _ _ l)
  refine af (k (aJ (hg _ s3 _ M x u _ S r3 (step x M y3)) λ_ s4 ⟨UM,H4,I4,ks,q4⟩=> ?_))
  refine af (k (aJ (ht.run I4 q4) λok s5 ⟨H5,U,q5⟩=> ?_))
  have a:∀{B:Shared} {C:St} {m:Hp},Inv (bU X (own++frees) scope c) ([]++rD fp s3.heap) C m B->E (i+1) B.heap/\∀b∈fp,m b=none:=λ {B C m} D=>
   ⟨T.keep _ _ _ l λb f o e=>(D.pin (b,o) (gx _ (gx _ (uC f e)))).1,λb f=>by
    obtain⟨o,e,d⟩:=T.obj _ _ l b f
    exact(D.pin (b,o) (gx _ (gx _ (uC f e)))).2.1⟩
  cases ok with
  |false=>
   rw[ak δ] at q5
   obtain⟨V,Y,w5⟩:=hN _ _ q5
   obtain⟨k1,k2⟩:=a U
   exact aD ⟨rfl,V,Y,i+1,ys,H5,(U.rV).weak ks.len.symm ks.get,k1,k2,w5⟩
  |true=>
   rw[ao rfl] at q5
   refine af (af (k (aJ (he _ s5 _ H5 _ U q5) λy B ⟨F,m,D,r6,a6,l6,q6⟩=> ?_)))
   obtain⟨V,Y,w6⟩:=hN _ _ q6
   obtain⟨k1,k2⟩:=a D
   refine af (k (aJ (oO (X:=bU X (own++frees) scope c) _ B _ m (.ref acc) [F] (.ref acc) [y] (λ_ H7=>H7=upd m acc (.lst (ys++[F]))) D rfl (.cons r6 .nil) ⟨acc,ys,F,rfl,rfl,a6,l6,rfl⟩) λ_ s7 ⟨_,H7,I7,_,e7⟩=> ?_))
   subst e7
   obtain⟨k1,k2⟩:=a I7
   exact aD (aD ⟨rfl,V,Y,i+1,ys++[F],_,(I7.rV).weak ks.len.symm ks.get,k1,k2,w6⟩)
structure wK(X:Cx)(pins:aT)(C:Addr)(H:Hp):Prop where
 no:H C=none
 loc:C≠X.env.locals
 old:X.s₀.heap.objs.size<=C
 gS:∀x c,X.env.cells.lookup x=some c->c≠C
 pin:∀p∈X.pn++pins,p.1≠C
theorem wK.inv{pins:aT}{σ:St}{H:Hp}{s:Shared}{C:Addr}{h':Heap}(G:wK X pins C H)(I:Inv X pins σ H s)(a:SameBut C s.heap h'):Inv X pins σ H {s with heap:=h'}:=
 JA I G.no G.loc G.old G.gS G.pin a
theorem BX{pins:aT}{σ:St}{H:Hp}{s:Shared}{Q:VK}{D:Value->Addr->Result->Shared->Prop}{E:aR}{J:It}{it:Addr}{fp:List Addr}{F:Nat->Heap->Prop}
  (S:e9 X scope frees)(hc:X.calm=true)(W:ix.map (λi=>X.N[i]?)=frees.map some)
  (Y:∀c,PG (bU X (own++frees) scope c) tg (g c))(Z:∀c,iO (bU X (own++frees) scope c) ifs (tt c))(he:∀c,PE (bU X (own++frees) scope c) elt (te c))
  (I:Inv X pins σ H s)(T:Turn X.prog X.w X.K tg J fp it F)(st:F 0 s.heap)(R:∀b∈fp,gC X pins H b)
  (h:∀(c:CP) (acc:Addr),H acc=none->xM J (stC own ix σ) acc (g c) (tt c) (te c) (upd H acc (.lst [])) Q)
  (G:∀(acc C:Addr) s' H' m,Inv X pins σ H' s'->s'.heap.Ns C m->wK X pins C H'->Q (.ref acc) H'->D (.ref acc) C (.ok .next) s'):
  wpAny (model X.prog X.w) X.A (newList []) (λacc u=>wpAny (model X.prog X.w) X.A (newFunctionEnv scope X.env.globals (dO X.env scope.names []) [] X.env.qual none .none (some X.env)) (λl y=>
   codeAny (model X.prog X.w) X.A (.compStart (.ListComp elt [⟨tg,iter,ifs,0⟩] scope pos) 0 (.ref it) acc {l with scope:=relabel scope X.env}) (D acc l.locals) y) E u) E s:=by
 refine gc (UC ?_)
 dsimp only
 have L:H s.heap.objs.size=none:=I.hok.fresh (aG _)
 have n:Inv X pins σ (upd H s.heap.objs.size (.lst [])) {s with heap:=s.heap.push {cls:= .type "list",data:= .seq ([]:List Value).toArray}}:=I.D7 (its:=[]) (t':=s.toks) .nil (bV _)
 generalize r:({s with heap:=s.heap.push {cls:= .type "list",data:= .seq ([]:List Value).toArray}}:Shared)=d at n
 have U:d.heap=s.heap.push {cls:= .type "list",data:= .seq ([]:List Value).toArray}:=by rw[<-r]
 have V:∀b∈fp,b<s.heap.objs.size:=λb j=>by
  obtain⟨o,e,_⟩:=T.obj _ _ st b j
  exact aV e
 have sz:d.heap.objs.size=s.heap.objs.size+1:=by rw[U,eF]
 have k:∀b∈fp,gC X pins (upd H s.heap.objs.size (.lst [])) b/\b<d.heap.objs.size:=λb j=>
  ⟨⟨by rw[a_ (bI (V b j))];exact(R b j).1,(R b j).2⟩,by rw[sz];exact gb (V b j)⟩
 obtain⟨a,B⟩:∃a,a=pushCells (d.heap.push {cls:= .type "dict",data:= .dict #[]}) scope.names:=⟨_,rfl⟩
 have kp:∀b o,d.heap.get? b=some o->a.get? b=some o:=λb o e=>by
  rw[B]
  exact pushCells_keeps _ _ b o (bA _ e)
 have M:∃m,a.Ns d.heap.objs.size m:=by
  rw[B]
  exact⟨_,(Heap.Ns.new d.heap (.type "dict")).keeps (pushCells_keeps _ _)⟩
 have cl:∀x c,(cellsFrom (d.heap.objs.size+1) scope.names (dO X.env scope.names [])).lookup x=some c->(dO X.env scope.names []).lookup x=some c\/(d.heap.objs.size+1<=c/\a.IsCell c none):=λx c e=>by
  have:=zu (x:=x) (c:=c) scope.names (d.heap.push {cls:= .type "dict",data:= .dict #[]}) (dO X.env scope.names []) (by rw[eF];exact e)
  rw[eF,<-B] at this
  exact this
 have J0:Inv (bU X (own++frees) scope ⟨d.heap.objs.size,d,upd H s.heap.objs.size (.lst []),pins,fp⟩) [] (stC own ix σ) (upd H s.heap.objs.size (.lst [])) {d with heap:=a}:=
  JB (tk:=d.toks) S hc n k rfl W M kp cl
 have O:∀b∈fp,∀H':Hp,H' b=none->gC (bU X (own++frees) scope ⟨d.heap.objs.size,d,upd H s.heap.objs.size (.lst []),pins,fp⟩) [] H' b:=λb j H' hn=>Jz S n k rfl j hn
 have t:F 0 a:=T.keep _ _ _ st λb j o e=>kp b o (by rw[U];exact bA _ e)
 have loop:codeAny (model X.prog X.w) X.A (.compLoop (.ListComp elt [⟨tg,iter,ifs,0⟩] scope pos) 0 (.ref it) (.ref s.heap.objs.size) (bU X (own++frees) scope ⟨d.heap.objs.size,d,upd H s.heap.objs.size (.lst []),pins,fp⟩).env)
   (D (.ref s.heap.objs.size) d.heap.objs.size) {d with heap:=a}:=by
  refine Jr rfl T (Y _) (Z _) (he _) O J0 t (λb j=>(k b j).1.1) (h _ _ L) λs' H' P q=> ?_
  obtain⟨m,hm,_⟩:=P.loc
  refine G _ _ s' H' m (Jy n k P) hm ⟨P.free,jy n.lt,n.sz,λx c e z=> ?_,λp hp z=> ?_⟩ q
  .obtain⟨v,q⟩:=n.cell x c e
   exact absurd (cK q.lt (by rw[z];exact aG _)) (fy _)
  .exact absurd (cK (aV (n.pin p hp).1) (by rw[z];exact aG _)) (fy _)
 have f:=loop
 rw[B,<-r] at f
 exact codeAny_compStart_list f (T.self _ 0 _ _ _ (by rw[B,<-r] at t;exact t) f)
theorem EN(hi:PI X tg iter wi)
  (d:∀c,PG (bU X (own++frees) scope c) tg (g c))(f:∀c,iO (bU X (own++frees) scope c) ifs (tt c))(j:∀c,PE (bU X (own++frees) scope c) elt (te c))(S:e9 X scope frees:=by exact⟨rfl,η,η,η,η,rfl⟩)(hc:X.calm=true:=by rfl)(k:ix.map (λi=>X.N[i]?)=frees.map some:=by rfl)(l:∀x,foldedSetIterable iter X.env x=pure x:=by intro _;rfl):
  PE X (.ListComp elt [⟨tg,iter,ifs,0⟩] scope pos) (zZ own ix wi g tt te):=by
 intro pins s σ H Q I h;rw[eval_ListComp];refine wpAny_comprehension_free (use:=none) rfl l (BU (S.has I.ok)) S.kind S.locs (aJ (hi pins s σ H _ I h) λv u h1=>aJ h1 λn w h2=>?_);obtain⟨it,fp,y,J,H2,e,o,T,a,f2,p⟩:=h2;subst e;refine BX S hc k d f j o T a f2 p λacc C s' H' m r t G q=>?_;exact⟨m,t,λh' b=>⟨.ref acc,H',G.inv r b,rfl,q⟩⟩
theorem EY{i:Nat}{x:Str}{pos' spos:Pos}(b:X.N.Nodup)(d:X.N[i]? =some x)(hx:Loc X.env.scope x)(hi:PI X tg iter wi)
  (o:∀c,PG (bU X (own++frees) scope c) tg (g c))(p:∀c,iO (bU X (own++frees) scope c) ifs (tt c))(r:∀c,PE (bU X (own++frees) scope c) elt (te c))(S:e9 X scope frees:=by exact⟨rfl,η,η,η,η,rfl⟩)(hc:X.calm=true:=by rfl)(t:ix.map (λi=>X.N[i]?)=frees.map some:=by rfl)(u:∀x,foldedSetIterable iter X.env x=pure x:=by intro _;rfl)
  (f:swapsWith (.ListComp elt [⟨tg,iter,ifs,0⟩] scope pos) (some (.Name x pos')) spos.line X.env=pure true:=by rfl)(w:X.fn x=true\/X.env.scope.names.lookup x=some .local:=by first|exact .inl rfl|exact .inr rfl|assumption):
  PS X (.Assign [.Name x pos'] (.ListComp elt [⟨tg,iter,ifs,0⟩] scope pos) spos) (Hq (zZ own ix wi g tt te) (ou i)):=by
 intro pins s σ H D I h
 rw[exec_Assign_Name_used _ _ _ _ f]
 refine af (wz (af ?_))
 show wpAny _ X.A (do let _ <-comprehension (.ListComp elt [⟨tg,iter,ifs,0⟩] scope pos) scope X.env _ (newList []) false (eval iter X.env) (some (assign (.Name x pos') X.env))) _ _ s
 refine af (jB (wpAny_comprehension_free (use:=some (assign (.Name x pos') X.env)) (Q:=λ_ s'=>SP X pins D .next s') rfl u (BU (S.has I.ok)) S.kind S.locs
  (aJ (hi pins s σ H _ I h) λv P h1=>aJ h1 λy z h2=> ?_)) (λ_ s' B=>aD (aD B)) λ_ _ e=>e)
 obtain⟨it,fp,R,J,H2,e,E,T,j,f2,F⟩:=h2
 subst e
 refine BX S hc t o p r E T j f2 F λacc C s' H' m K L G q=> ?_
 show wpAny _ X.A (assign (.Name x pos') X.env (.ref acc)) _ _ _
 refine wpAny_assign_Name (G9 K b d hx (v:= .ref acc) rfl (λz k ch=> ?_) w)
 obtain⟨a,M,O⟩:=ch
 have l:C≠a:=by
  rcases O with e|e
  .rw[e];exact G.loc
  .exact(G.gS _ _ e).symm
 exact⟨m,L.sameBut M l,λh' n=>⟨_,H',G.inv k n,q⟩⟩
end
section
variable{X:Cx}
theorem BI:∀{bs:List Bool} {its:List Value},Vals (bs.map V.bl) its->LSm.BoolsAre its bs
 |[],_,.nil=>.nil
 |b::r,_,.cons q t=>by
  cases q;exact .cons b (BI t)
theorem xO(hc:X.calm=true):e_ X (.builtin "all") (λxs H Q=>∃(p:Addr) (bs:List Bool),xs=[.ref p]/\aY X.K H p (bs.map V.bl)/\Q (.bl (bs.all id)) H):=by
 intro pins s σ H xs m Q I r h;obtain⟨p,bs,rfl,f,q⟩:=h;obtain⟨u,rfl,g⟩:=vals1 r;cases g;obtain⟨vs,j,pl,hz⟩:=I.list f;have c:=BI j;have hl:=pl.isList;have a:p<s.heap.objs.size:=by obtain⟨_,e,_⟩:=hl;exact aV e
 refine call_all_walk (su hl ?_);refine⟨s.heap.objs.size,[s.heap.objs.size,p],[s.heap.objs.size],vs.toArray.size,_,_,λi=>(bs[i]?).getD true,rfl,Walks.list (A:=X.A.in1) (I.ok.hd hc) _ p (bI a) vs.toArray,
  ⟨⟨_,cu _ rfl,rfl,rfl⟩,hl.push _⟩,λi v s' n o k d=>?_,λh' tk l=>?_⟩
 .obtain⟨b,e,rfl⟩:=c.get i v (by simpa using k)
  simp only[e,getD_some] at d;exact nv d
 .have e:((range vs.toArray.size).all λi=>(bs[i]?).getD true)=bs.all id:=by
   rw[cA,c.length];exact LSm.range_all bs
  rw[e];exact⟨.bl _,H,I.kept (h':=h') (t':=tk) (LSm.kept_iter l),rfl,q⟩
theorem O1:bC X (binaryOp .FloorDiv) (rI (λ_ j=>0<j/\j.natAbs.log2<9000) λi j=>.int (i/j)):=uI λi j _ _ _ _ _ hc q=>by
 have h1:(0:Int)<j:=hc.1;exact floordiv_int ω (by rw[Int.fdiv_eq_ediv_of_nonneg i ω];exact q) (.inl (PyProof.noPylong_of_log2 hc.2))
noncomputable def wV(y:Str):It:=⟨λi _=>i<y.cps.size,λi H x H'=>H'=H/\∃c,y.cps[i]?=some c/\x=.str ⟨#[c]⟩,λi _=>i=y.cps.size⟩
theorem Uo{P:Program}{w:World}{K:Frag}{nm:Str}{px:Pos}{ty:String}{y:Str}{t:Tok}(it:Addr)
  (W:∀A:Around,A.handled=none->Walks P w A it [it] [it] y.cps.size (SignAt y) (λi h=>h.IsStrIter it ty y t i))
  (D:∀(A:Around) (i:Nat) (s:Shared) (Q:aR) (E:aR),s.heap.IsStrIter it ty y t i->Q (.ref it) s->wpAny (model P w) A (pyIter (.ref it)) Q E s):Turn P w K (.Name nm px) (wV y) [it] it (λi h=>h.IsStrIter it ty y t i) where
 mem:=θ
 obj:=λi h st b a=>by
  have e:b=it:=by simpa using a
  subst e
  obtain⟨o,e,c,d⟩:=st
  exact⟨o,e,λv z=>by rw[d] at z;cases z⟩
 keep:=λi h h' st k=>let ⟨o,F,r⟩:=st;⟨o,k it θ o F,r⟩
 item:=by
  intro X f j l hc i pins s σ H E I g st m
  subst f j l
  obtain⟨f0,f1,f2,n,f4,p⟩:=g it θ
  refine(W X.A (I.ok.hd hc)).item i s _ _ m st λv h' tk f q x=> ?_
  obtain⟨c,u,B,rfl⟩:=f
  have G:Inv X pins σ H {s with heap:=h',toks:=tk}:=I.turned (λb o a e=>x b o (by simpa using a) e) f0 f1 n f4 p
  exact⟨_,rfl,aD ⟨.str ⟨#[c]⟩,H,G,⟨u,rfl⟩,⟨rfl,c,B,rfl⟩,q,λb a=>(g b a).1⟩⟩
 done:=by
  intro X f j l hc i pins s σ H E I g st m
  subst f j l
  obtain⟨f0,f1,f2,n,f4,p⟩:=g it θ
  have C:i=y.cps.size:=m
  subst C
  exact(W X.A (I.ok.hd hc)).done s _ _ st λh' tk x=>⟨rfl,I.turned (λb o a e=>x b o (by simpa using a) e) f0 f1 n f4 p⟩
 self:=λA i s Q E st h=>D A i s Q E st h
noncomputable def MV(tl:TE):TI:=λσ H R=>tl σ H λx H1=>∃y,x=.str y/\R (wV y) H1
theorem P8{l:Expr}{tl:TE}{nm:Str}{px:Pos}(hl:PE X l tl):PI X (.Name nm px) l (MV tl):=by
 intro pins s σ H R I h;refine aJ (hl pins s σ H _ I h) λv a ⟨x,H1,c,r1,j⟩=>?_;obtain⟨y,e,q⟩:=j;subst e;obtain⟨t,rfl⟩:=r1;have fin:∀(ty:String) (o:Obj) (W:∀A:Around,A.handled=none->Walks X.prog X.w A a.heap.objs.size [a.heap.objs.size] [a.heap.objs.size] y.cps.size (SignAt y) (λi h=>h.IsStrIter a.heap.objs.size ty y t i))
   (f:∀(A:Around) (i:Nat) (s:Shared) (Q:aR) (E:aR),s.heap.IsStrIter a.heap.objs.size ty y t i->Q (.ref a.heap.objs.size) s->wpAny (model X.prog X.w) A (pyIter (.ref a.heap.objs.size)) Q E s),
   (a.heap.push o).IsStrIter a.heap.objs.size ty y t 0->w4 X pins σ (.Name nm px) R (.ref a.heap.objs.size) {a with heap:=a.heap.push o}:=λty o W f st=>by
  refine⟨a.heap.objs.size,[a.heap.objs.size],_,_,H1,rfl,c.kept (t':=a.toks) λb o e=>bA _ e,Uo _ W f,st,λb k=>?_,q⟩;have e:b=a.heap.objs.size:=by simpa using k
  subst e;exact c.lC (aG _) (c.hok.fresh (aG _))
 cases g:y.cps.all (·<128)
 .exact wpAny_pyIter_wide g (fin _ _ (λA' d=>Walks.strWide d _ y t) (λ_ _ _ _ _ st h=>wpAny_pyIter_striter_wide st h) ⟨_,cu _ rfl,rfl,rfl⟩)
 .exact wpAny_pyIter_ascii g (fin _ _ (λA' d=>Walks.strAscii d _ y t) (λ_ _ _ _ _ st h=>wpAny_pyIter_striter_ascii st h) ⟨_,cu _ rfl,rfl,rfl⟩)
end
mutual
inductive Dp(K:Frag)(H:Hp):V->PyData->Prop
 |aE:Dp K H .aE .none
 |bl (b:Bool):Dp K H (.bl b) (.bool b)
 |int (i:Int):Dp K H (.int i) (.int i)
 |str (x:Str):Dp K H (.str x) (.str x)
 |lst {a:Addr} {xs:List V} {ds:List PyData}:aY K H a xs->gi K H xs ds->Dp K H (.ref a) (.list ds)
 |tup {a:Addr} {xs:List V} {ds:List PyData}:bQ K H a xs->gi K H xs ds->Dp K H (.ref a) (.tuple ds)
inductive gi(K:Frag)(H:Hp):List V->List PyData->Prop
 |nil:gi K H [] []
 |cons {v:V} {vs:List V} {d:PyData} {ds:List PyData}:Dp K H v d->gi K H vs ds->gi K H (v::vs) (d::ds)
end
section
variable{X:Cx}{pins:aT}{σ:St}{H H':Hp}{s:Shared}{K:Frag}
mutual
theorem Dp.reads(I:Inv X pins σ H s):∀(d:PyData) (v:V) (u:Value),Dp X.K H v d->RelV v u->∃as,Reads s.heap u d as
 |.none,_,_,h,r=>by cases h;cases r;exact⟨_,.none⟩
 |.bool b,_,_,h,r=>by cases h;cases r;exact⟨_,.bool b⟩
 |.int i,_,_,h,r=>by cases h;obtain⟨t,rfl⟩:=r;exact⟨_,.int i t⟩
 |.str x,_,_,h,r=>by cases h;obtain⟨t,rfl⟩:=r;exact⟨_,.str x t⟩
 |.list ds,_,_,h,r=>by
  cases h with
  |lst a c=>
   cases r;obtain⟨its,f,pl,hz⟩:=I.list a;obtain⟨as,ra⟩:=gi.reads I ds _ _ c f;obtain⟨o,e,hc,n,hd⟩:=pl.isList;exact⟨_,.list e hc hd (by simpa using ra)⟩
 |.tuple ds,_,_,h,r=>by
  cases h with
  |tup a c=>
   cases r;obtain⟨its,f,pl,hz⟩:=I.tuple a;obtain⟨as,ra⟩:=gi.reads I ds _ _ c f;obtain⟨o,e,hc,n,hd⟩:=pl;exact⟨_,.tuple e hc hd (by simpa using ra)⟩
 |.dict _,_,_,h,_=>nomatch h
theorem gi.reads(I:Inv X pins σ H s):∀(ds:List PyData) (vs:List V) (a:List Value),gi X.K H vs ds->Vals vs a->∃as,ReadsAll s.heap a ds as
 |[],_,_,h,r=>by cases h;cases r;exact⟨_,.nil⟩
 |d::ds,_,_,h,r=>by
  cases h with
  |cons h1 h2=>
   cases r with
   |cons r1 b=>
    obtain⟨as,a1⟩:=Dp.reads I d _ _ h1 r1;obtain⟨bs,a2⟩:=gi.reads I ds _ _ h2 b;exact⟨_,.cons a1 a2⟩
end
noncomputable def zD(K:Frag):R2:=λx y H Q=>∃d e,Dp K H x d/\Dp K H y e/\d.canLay0=true/\e.canLay0=true/\min d.depth e.depth<=64/\Q (.bl (PyData.eqv d e)) H
noncomputable def zG(K:Frag):R2:=λx y H Q=>∃d e,Dp K H x d/\Dp K H y e/\d.canLay0=true/\e.canLay0=true/\min d.depth e.depth<=64/\Q (.bl (!PyData.eqv d e)) H
theorem O0(i:X.A.units+64<cLine):bC X (compareOp .Eq) (zD X.K):=by
 intro pins s σ H x y v u Q I a b h;obtain⟨d,e,h1,h2,c,f,hd,q⟩:=h;obtain⟨as,ra⟩:=Dp.reads I d x v h1 a;obtain⟨bs,g⟩:=Dp.reads I e y u h2 b;exact SeqAt.compareEq_reads ra g c f ω ⟨.bl _,H,I,rfl,q⟩
theorem Pa(i:X.A.units+64<cLine):bC X (compareOp .NotEq) (zG X.K):=by
 intro pins s σ H x y v u Q I a b h;obtain⟨d,e,h1,h2,c,f,hd,q⟩:=h;obtain⟨as,ra⟩:=Dp.reads I d x v h1 a;obtain⟨bs,g⟩:=Dp.reads I e y u h2 b;exact SeqAt.compareNe_reads ra g c f ω ⟨.bl _,H,I,rfl,q⟩
theorem ki.new{p:Addr}(h:H p=none)(o:HO):ki H (upd H p o):=λb u q=>by rw[a_ (c_ q h)];exact q
theorem gi.ints:∀(xs:List Int),gi K H (xs.map V.int) (xs.map PyData.int)
 |[]=>.nil
 |x::r=>.cons (.int x) (gi.ints r)
end
section
variable{P:Program}{w:World}{K:Frag}{mg:aB}{base:Heap}
def TopD(K:Frag)(mg:aB)(x:Str)(st:Stmt)(ps:List Str):Prop:=∃f fd,kg K x x st f fd/\Binds K fd ps []/\mg x=some (.ref f)
end
section
variable{X:Cx}{k:Nat}{x:Str}{ps:List Str}{sp:Sp}{e:Expr}{es:List Expr}{t:TA}{p pos:Pos}
theorem O5:bC X (compareOp .LtE) (λx y H Q=>∃i j,x=.str i/\y=.str j/\Q (.bl (!decide (j.cps.toList<i.cps.toList))) H):=by
 intro pins s σ H x y v u Q I a b h;obtain⟨i,j,rfl,rfl,q⟩:=h;obtain⟨t,rfl⟩:=a;obtain⟨t',rfl⟩:=b;exact PySem.P.le_str (cG I q rfl)
end
noncomputable def wR(K:Frag)(a:Addr):It:=
 ⟨λi H=>∃xs x,aY K H a xs/\xs[i]?=some x,λi H x H'=>∃p y,H p=none/\x=.ref p/\H'=upd H p (.tup [.int (i:Nat),y])/\∀xs,aY K H a xs->xs[i]?=some y,λi H=>∃xs,aY K H a xs/\xs.length<=i⟩
theorem Ui{P:Program}{w:World}{K:Frag}{elts:List Expr}{k:Nat}{pos:Pos}(a e it:Addr)(B:e≠it):
  Turn P w K (.Tuple elts k pos) (wR K a) [e,it] e (λi h=>(∃old,IsEnum h e it i old)/\h.IsListIter it a i) where
 mem:=θ
 obj:=λi h st b f=>by
  have j:b=e\/b=it:=by simpa using f
  obtain⟨⟨old,t⟩,o,e1,c,d⟩:=st
  rcases j with z|z
  .subst z
   exact⟨_,t,λv z=>nomatch (show Data.fields _=Data.cell v from z)⟩
  .subst z
   exact⟨o,e1,λv z=>by rw[d] at z;cases z⟩
 keep:=λi h h' st kp=>by
  obtain⟨⟨old,t⟩,st⟩:=st
  exact⟨⟨old,kp e θ _ t⟩,st.at λo q=>kp it θ o q⟩
 item:=by
  intro X N O Q hc i pins s σ H E I G st R
  subst N O Q
  obtain⟨xs,x,J,hx⟩:=R
  obtain⟨its,S,p,hz⟩:=I.list J
  obtain⟨u,hu,ru⟩:=S.get hx
  obtain⟨f0,f1,f2,f3,f4,f5⟩:=G e θ
  obtain⟨L,M,g2,T,U,V⟩:=G it θ
  obtain⟨⟨old,t⟩,y⟩:=st
  refine wpAny_pyNext_enum_item t y p.isList (x:=u) (by simpa using hu) B λh' ho C hT hsz hk=> ?_
  refine⟨_,rfl,wpAny_letOwnedTupleGo_enum ho λh'' D l=> ?_⟩
  have A:H s.heap.objs.size=none:=I.hok.fresh (aG _)
  have elt:e<s.heap.objs.size:=aV t
  have W:it<s.heap.objs.size:=by obtain⟨_,q,_⟩:=y;exact aV q
  have kp:∀b o,b≠e->b≠it->s.heap.get? b=some o->h''.get? b=some o:=λb o n1 n2 q=>(l.2 b n1).trans (hk b o n1 n2 q)
  have Y:h''.get? s.heap.objs.size=some {cls:= .type "tuple",data:= .seq #[.int i s.toks,u]}:=(l.2 _ (jy elt)).trans hT
  have nb:∀b,b∉[e,it]->b≠e/\b≠it:=λb f=>⟨λz=>f (by simp[z]),λz=>f (by simp[z])⟩
  have nT:∀b o,s.heap.get? b=some o->b≠s.heap.objs.size:=λb o q=>bI (aV q)
  have I1:Inv X pins σ (upd H s.heap.objs.size (.tup [.int (i:Nat),x])) {s with heap:=h'',toks:=s.toks+1}:=by
   refine I.step (g':=s.gens) (d':=s.drawn) (ch:=[e,it]) (λb f=> ?_) (λb o _ _ f q _=>kp b o (nb b f).1 (nb b f).2 q) (λb o _ _ f q _=>⟨o.slots,kp b o (nb b f).1 (nb b f).2 q⟩)
    (λb o f q n=>by rw[a_ (nT b o q)];exact n) (λb o f q=>⟨o,kp b o (nb b f).1 (nb b f).2 q⟩) (λb ys q=>by rw[a_ (c_ q A)];exact q) (λb o v q=>by rw[a_ (c_ q A)];exact q)
    (λb ps q=>⟨#[],by rw[a_ (c_ q A),q];simp⟩) (λm hm=> ?_) (λb v q=> ?_) I.bare
   .have j:b=e\/b=it:=by simpa using f
    rcases j with z|z
    .subst z;exact⟨f3,f1,f4,f5⟩
    .subst z;exact⟨T,M,U,V⟩
   .obtain⟨o,es,ep,q,r⟩:=hm
    exact⟨o,es,ep,kp _ o (Ne.symm f1) (Ne.symm M) q,r⟩
   .by_cases f:b=s.heap.objs.size
    .subst f
     rw[eE] at q
     cases q
     exact⟨by show 2<=sizeLine;decide,[.int i s.toks,u],.cons ⟨_,rfl⟩ (.cons ru .nil),_,Y⟩
    .rw[a_ f] at q
     have ne1:∀c Z,H c=some Z->c≠e/\c≠it:=λc Z g=>⟨λz=>(by rw[z,f0] at g;cases g),λz=>(by rw[z,L] at g;cases g)⟩
     refine(I.hok b v q).stay (λc w' F g=>kp c w' ?_ ?_ g) (λc g=>by rw[a_ (c_ g A)];exact g) λc ys g=>by rw[a_ (c_ g A)];exact g
     .rcases F with z|z
      .rw[z];exact(ne1 b v q).1
      .exact(ne1 c _ z).1
     .rcases F with z|z
      .rw[z];exact(ne1 b v q).2
      .exact(ne1 c _ z).2
  refine⟨.ref s.heap.objs.size,_,I1,rfl,⟨s.heap.objs.size,x,A,rfl,rfl,λys hy=>by rw[I.yY hy J];exact hx⟩,⟨⟨u,by simpa using D⟩,C.at λo q=>(l.2 it B.symm).trans q⟩,λb f=> ?_⟩
  have j:b=e\/b=it:=by simpa using f
  rcases j with z|z
  .subst z;rw[a_ (bI elt)];exact f0
  .subst z;rw[a_ (bI W)];exact L
 done:=by
  intro X N O Q hc i pins s σ H E I G st R
  subst N O Q
  obtain⟨xs,J,hx⟩:=R
  obtain⟨its,S,p,hz⟩:=I.list J
  obtain⟨L,M,g2,T,U,V⟩:=G it θ
  obtain⟨⟨old,t⟩,y⟩:=st
  have hl:=S.length
  exact wpAny_pyNext_enum_end (I.ok.hd hc) t y p.isList (by simp;omega) λh' eb=>⟨rfl,I.turned (t':=s.toks) (λb o f e=>eb b o f e) L M T U V⟩
 self:=λ_ _ _ _ _ st h=>by
  obtain⟨⟨old,t⟩,_⟩:=st
  exact wpAny_pyIter_enum t h
section
variable{X:Cx}
noncomputable def MP(K:Frag)(ta:TA):TI:=λσ H R=>ta σ H λvs H1=>∃a xs,vs=[.ref a]/\aY K H1 a xs/\R (wR K a) H1
theorem P1{l:Expr}{ta:TA}{elts:List Expr}{k:Nat}{tpos p pos:Pos}(j:Gl X "enumerate")(m:X.mg "enumerate"=none)(n:PA X [l] ta)(f:bootBuiltins "enumerate"=some (.type "enumerate"))(o:starEach [l] X.env=[(false,eval l X.env)]:=by rfl):
  PI X (.Tuple elts k tpos) (.Call (.Name "enumerate" p) [l] [] pos) (MP X.K ta):=by
 intro pins s σ H R I h;refine Call_ (jN I j m f (nc (aJ (n pos pins s σ H _ I h) λy c ⟨vs,H1,d,r1,r⟩=>?_) o rfl));obtain⟨a,xs,e,t,q⟩:=r;subst e;obtain⟨u,rfl,v⟩:=vals1 r1;cases v;obtain⟨its,A,pl,hz⟩:=d.list t;refine call_enumerate_list pl.isList λh' i hit hsz w=>?_;have x:Inv X pins σ H1 {c with heap:=h'}:=d.kept (t':=c.toks) w;refine wpAny_pyIter_enum i ⟨_,[c.heap.objs.size+1,c.heap.objs.size],_,_,H1,rfl,x,Ui a _ _ (jy (kO _)),⟨⟨_,i⟩,hit⟩,λb f=>?_,q⟩;have g:b=c.heap.objs.size+1\/b=c.heap.objs.size:=by simpa using f
 rcases g with z|z
 .subst z
  exact d.lC (le_succ _) (d.hok.fresh (le_succ _))
 .subst z
  exact d.lC (aG _) (d.hok.fresh (aG _))
theorem Inv.many{pins:aT}{σ:St}{H H':Hp}{s:Shared}{h':Heap}{t':Nat}(I:Inv X pins σ H s)(kp:∀b o,s.heap.get? b=some o->h'.get? b=some o)(d:ki H H')
  (a:∀b o,H' b=some o->H b=some o\/(s.heap.objs.size<=b/\bZ X.prog X.w H' h' b o)):Inv X pins σ H' {s with heap:=h',toks:=t'}:=by
 refine I.un (h':=h') (t':=t') ⟨λb o q _ _ _=>kp b o q,λb o q _ _ _=>⟨o.slots,kp b o q⟩,λb o q n _=>?_,λb o q _=>⟨o,kp b o q⟩,λb xs q=>d _ _ q,λb o u q=>d _ _ q,λb ps q=>⟨#[],by rw[d _ _ q];simp⟩⟩ λb o q=>?_
 .cases e:H' b with
  |none=>rfl
  |some u=>
   rcases a b u e with z|⟨z,_⟩
   .rw[n] at z;cases z
   .exact absurd (cK (aV q) z) (fy _)
 .rcases a b o q with z|⟨_,z⟩
  .exact(I.hok b o z).stay (λc v _ r=>kp c v r) (λc r=>d _ _ r) λc xs r=>d _ _ r
  .exact z
end
inductive qd(K:Frag)(H:Hp):V->Value->Prop where
 |of {x:V} {t:Value} (h:ic K H x t):qd K H x t
 |tup {a:Addr} {xs:List V} (h:bQ K H a xs):qd K H (.ref a) (.type "tuple")
 |lst {a:Addr} {xs:List V} (h:aY K H a xs):qd K H (.ref a) (.type "list")
theorem Jb{X:Cx}:e_ X (.builtin "isinstance") (λxs H Q=>∃x c t b,xs=[x,.ty c]/\qd X.K H x t/\kitOne X.K t (.type c)=some b/\Q (.bl b) H):=by
 intro pins s σ H xs i Q I r h;obtain⟨x,c,t,b,rfl,ty,e,q⟩:=h;obtain⟨u,j,rfl,a,d⟩:=vals2 r;cases d;cases ty with
 |of ty=>exact M5 I a ty e λtk=>⟨.bl b,H,I.tok tk,rfl,q⟩
 |tup f=>
  cases a;obtain⟨its,g,⟨o,h1,h2,_⟩,_⟩:=I.tuple f;exact iG kitx_tuple I.eG ⟨o,h1,h2⟩ e (λz=>nomatch z) λtk=>⟨.bl b,H,I.tok tk,rfl,q⟩
 |lst f=>
  cases a;obtain⟨its,g,pl,_⟩:=I.list f;obtain⟨o,h1,h2,_⟩:=pl.isList;exact iG kitx_list I.eG ⟨o,h1,h2⟩ e (λz=>nomatch z) λtk=>⟨.bl b,H,I.tok tk,rfl,q⟩
end L2
end
namespace MA
theorem L6{a b:Int}(c:0<=a)(d:0<b):Int.gcd b (a%b)=Int.gcd a b:=by
 obtain⟨m,rfl⟩:=Int.eq_ofNat_of_zero_le c;obtain⟨n,rfl⟩:=Int.eq_ofNat_of_zero_le (d9 d);rw[<-Int.natCast_emod,Int.gcd_natCast_natCast,Int.gcd_natCast_natCast,Nat.gcd_comm n (m%n),<-Nat.gcd_rec,Nat.gcd_comm]
noncomputable def rf(x:Rat):Int×Int:=(x.num,(x.den:Int))
theorem dj(x:Rat):0<(rf x).2:=by
 have:=x.den_pos;show(0:Int)<(x.den:Int);omega
theorem jv(x:Rat):((rf x).1:Rat)/((rf x).2:Rat)=x:=by
 show(x.num:Rat)/((x.den:Int):Rat)=x;rw[<-Rat.divInt_eq_div,Rat.divInt_ofNat,Rat.mkRat_self]
theorem QX{x y:Rat}(h:rf x=rf y):x=y:=by rw[<-jv x,<-jv y,h]
theorem vA{a b:Int}(c:0<b):(a/(Int.gcd a b:Int),b/(Int.gcd a b:Int))=rf ((a:Rat)/(b:Rat)):=by
 rw[<-Rat.divInt_eq_div];unfold rf;have h1:=Rat.num_divInt a b;have h2:=Rat.den_divInt a b;rw[h1,h2];have d:b.sign=1:=Int.sign_eq_one_of_pos c;rw[d,ak ω,one_mul,Int.gcd_comm b a];congr 1;have:(b.natAbs:Int)=b:=ω
 rw[Int.natCast_ediv,this]
inductive aZ(N:Type) where
 |wt (n:N)
 |aQ (l r:Int) (a b:aZ N)
namespace aZ
variable{N:Type}
noncomputable def arms:aZ N->Prop
 |wt _=>True
 |aQ l r a b=>1<=l/\l<=9/\1<=r/\r<=9/\a.arms/\b.arms
noncomputable def deep:aZ N->Nat
 |wt _=>0
 |aQ _ _ a b=>max a.deep b.deep+1
noncomputable def names:aZ N->List N
 |wt n=>[n]
 |aQ _ _ a b=>a.names++b.names
noncomputable def sh:aZ N->Rat->List Rat
 |wt _,x=>[x]
 |aQ l r a b,x=>a.sh (x*((r:Rat)/((l+r:Int):Rat)))++b.sh (x*((l:Rat)/((l+r:Int):Rat)))
theorem jR:∀(m:aZ N),m.names.length<=2 ^ m.deep
 |wt _=>aG 1
 |aQ _ _ a b=>by
  have h1:=jR a;have h2:=jR b;have c:2 ^ a.deep<=2 ^ max a.deep b.deep:=dR δ (pI _ _);have d:2 ^ b.deep<=2 ^ max a.deep b.deep:=dR δ (pJ _ _);show List.length (_++_)<=2 ^ (max a.deep b.deep+1);rw[dc,pow_succ];omega
theorem El:∀(m:aZ N),0<m.names.length
 |wt _=>Nat.zero_lt_one
 |aQ _ _ a b=>by
  have h1:=El a;show 0<List.length (_++_);rw[dc];omega
end aZ
theorem zK:rf 1=(1,1):=by rfl
theorem ko{a:Int}(h:a≠0):(a:Rat)≠0:=by
 intro z;exact h (by exact_mod_cast z)
theorem zJ(t:Rat)(a b:Int):rf ((((rf t).1*a:Int):Rat)/(((rf t).2*b:Int):Rat))=rf (t*((a:Rat)/(b:Rat))):=by
 have h1:=ko (jc (dj t));congr 1;rw[eW,eW];have d:=jv t;by_cases c:(b:Rat)=0
 .rw[c];grind
 .grind
theorem Fy(t s:Rat):rf ((((rf t).1*(rf s).1:Int):Rat)/(((rf t).2*(rf s).2:Int):Rat))=rf (t*s):=by
 rw[zJ,jv]
theorem J7{a b:Int}(c:0<b):(rf ((a:Rat)/(b:Rat))).2<=b:=by
 rw[<-vA c];show b/(Int.gcd a b:Int)<=b;exact pU _ (d9 c)
theorem den_mul{t:Rat}{a b:Int}(c:0<b):(rf (t*((a:Rat)/(b:Rat)))).2<=(rf t).2*b:=by
 rw[<-zJ];exact J7 (fK (dj t) c)
theorem dQ{x:Rat}(h:0<x):0<(rf x).1:=by
 have h1:0<=(rf x).1:=Rat.num_nonneg.mpr (Rat.le_of_lt h);have h2:(rf x).1≠0:=λz=>by
  have e:=jv x;rw[z] at e;have a:x=0:=by rw[<-e,iI];grind
  rw[a] at h;exact absurd h δ
 omega
namespace aZ
variable{N:Type}
theorem step_pos{l r:Int}{x:Rat}(hl:1<=l)(a:1<=r)(h:0<x):0<x*((r:Rat)/((l+r:Int):Rat)):=by
 have h1:(0:Rat)<(r:Rat):=by exact_mod_cast (show(0:Int)<r by omega)
 have h2:(0:Rat)<((l+r:Int):Rat):=by exact_mod_cast (show(0:Int)<l+r by omega)
 exact eY h (by rw[iI];exact eY h1 (jd.mpr h2))
theorem vI:∀(m:aZ N) (x:Rat) (B:Int),m.arms->0<x->(rf x).2<=B->∀s∈m.sh x,0<s/\(rf s).2<=B*18 ^ m.deep
 |wt _,x,B,_,h1,h2,s,hs=>by
  have:s=x:=by simpa[sh] using hs
  subst this;exact⟨h1,by simpa[deep] using h2⟩
 |aQ l r a b,x,B,h,h1,h2,s,hs=>by
  obtain⟨f,t,g,u,i,j⟩:=h;have n:0<B:=wu (dj x) h2;have o:(rf (x*((r:Rat)/((l+r:Int):Rat)))).2<=B*18:=by
   refine dN (den_mul ω) ?_;exact d8 h2 ω ω ω
  have d2:(rf (x*((l:Rat)/((l+r:Int):Rat)))).2<=B*18:=by
   refine dN (den_mul ω) ?_;exact d8 h2 ω ω ω
  have p:0<x*((r:Rat)/((l+r:Int):Rat)):=step_pos f g h1;have p2:0<x*((l:Rat)/((l+r:Int):Rat)):=by
   have:=step_pos (l:=r) (r:=l) g f h1;rwa [add_comm r l] at this
  have up:∀k:Nat,k<=max a.deep b.deep->B*18*18 ^ k<=B*18 ^ (max a.deep b.deep+1):=λk q=>by
   rw[j6,kQ,kR 18 (18 ^ k)];refine ny ?_ (d9 n);refine sF ?_ δ;have:(18:Nat) ^ k<=18 ^ max a.deep b.deep:=dR δ q;exact_mod_cast this
  have c:s∈a.sh (x*((r:Rat)/((l+r:Int):Rat)))\/s∈b.sh (x*((l:Rat)/((l+r:Int):Rat))):=b_.mp hs;rcases c with hs|hs
  .obtain⟨d,e⟩:=vI a _ _ i p o s hs
   exact⟨d,dN e (up _ (pI _ _))⟩
  .obtain⟨d,e⟩:=vI b _ _ j p2 d2 s hs
   exact⟨d,dN e (up _ (pJ _ _))⟩
end aZ
noncomputable def ez{W N S:Type}[DecidableEq N][DecidableEq S](pre:List (W×N×S)):List (W×N×S)->Option (W×W)
 |[]=>none
 |(w,n,s)::r=>match pre.find? (λp=>decide (p.2.1=n)) with
  |some p=>if p.2.2=s then ez (pre++[(w,n,s)]) r else some (p.1,w)
  |none=>ez (pre++[(w,n,s)]) r
end MA
section
open PySem PySem.Spec PyProof.Rows
namespace L2
section
variable{P:Program}{w:World}{H H':Hp}{h:Heap}{a:Addr}{o:HO}
theorem bZ.obj(x:bZ P w H h a o):∃u,h.get? a=some u:=by
 cases o with
 |lst xs=>obtain⟨_,_,_,_,e⟩:=x;exact⟨_,e⟩
 |tup xs=>obtain⟨_,_,_,_,e⟩:=x;exact⟨_,e⟩
 |dK kvs=>obtain⟨_,_,_,_,o,_,_,e,_⟩:=x;exact⟨_,e⟩
 |dT kvs=>obtain⟨_,_,_,_,o,_,_,e,_⟩:=x;exact⟨_,e⟩
 |set S n=>obtain⟨o,_,_,_,e,_⟩:=x;exact⟨_,e⟩
 |ins C dx fs=>obtain⟨_,_,_,e,_⟩:=x;exact⟨_,e⟩
 |own y=>exact x
 |xd fs=>obtain⟨_,⟨_,_,_,e,_⟩,_⟩:=x;exact⟨_,e⟩
 |eN lo hi=>obtain⟨_,_,_,e⟩:=x;exact⟨_,e⟩
 |bM b u=>obtain⟨e,_⟩:=x;exact⟨_,e⟩
 |iF ps=>exact⟨_,(show h.get? a=some _ from x)⟩
 |met f y=>exact⟨_,(show h.get? a=some _ from x)⟩
 |ext c=>obtain⟨_,e,_⟩:=x;exact e
end
structure iN(P:Program)(w:World)(outer:List Env)(H H':Hp)(s s':Shared)(a:Addr)(C:Value):Prop where
 os:s'.os=s.os
 bare:AllBare s'.gens
 slot:∀b o,s.heap.get? b=some o->b∈frs outer->∃sl,s'.heap.get? b=some {o with slots:=sl}
 free:∀b o,s.heap.get? b=some o->H b=none->H' b=none
 tups:∀b xs,H b=some (.tup xs)->H' b=some (.tup xs)
 fG:∀b o u,H b=some (.bM o u)->H' b=some (.bM o u)
 f_:∀b ps,H b=some (.iF ps)->∃more,H' b=some (.iF (ps++more))
 fl:∃(B:Heap) (a0:Value),(∀b o,s.heap.get? b=some o->H b=none->b∉frs outer->B.get? b=some o)/\(∀b o,s.heap.get? b=some o->b∉frs outer->∃o',B.get? b=some o')/\cE P w H' B/\FlyingW B outer a C a0 s'.heap
section
variable{P:Program}{w:World}{outer:List Env}{H H':Hp}{s s':Shared}{a:Addr}{C:Value}
theorem iN.un(F:iN P w outer H H' s s' a C):Un (frs outer) [] H H' s.heap s'.heap where
 keep:=λb o q n c _=>by
  obtain⟨B,a0,k,_,_,f⟩:=F.fl
  exact f.1 b o (k b o q n c)
 slot:=λb o q n c _=>F.slot b o q c
 free:=λb o q n _=>F.free b o q n
 there:=λb o q _=>by
  by_cases c:b∈frs outer
  .obtain⟨d,e⟩:=F.slot b o q c
   exact⟨_,e⟩
  .obtain⟨B,a0,_,t,_,f⟩:=F.fl
   obtain⟨o',e⟩:=t b o q c
   exact⟨o',f.1 b o' e⟩
 tups:=F.tups
 fG:=F.fG
 f_:=F.f_
theorem iN.hok(F:iN P w outer H H' s s' a C):cE P w H' s'.heap:=by
 obtain⟨B,a0,_,_,h,f⟩:=F.fl;exact h.kept f.1
end
noncomputable def bJ(P:Program)(w:World):iK:=λouter H s E e s'=>∃(a:Addr) (C:Value) (H':Hp),e=.ref a/\iN P w outer H H' s s' a C/\E C none H'
section
variable{X:Cx}{pins:aT}{σ:St}{H H':Hp}{s s':Shared}{a:Addr}{C:Value}
theorem C4(I:Inv X pins σ H s)(hex:X.ex=[])(os:s'.os=s.os)(bare:AllBare s'.gens)(slot:∀b o,s.heap.get? b=some o->b∈frs X.outer->∃i,s'.heap.get? b=some {o with slots:=i})
  (free:∀b o,s.heap.get? b=some o->H b=none->H' b=none)(tups:∀b xs,H b=some (.tup xs)->H' b=some (.tup xs))(fG:∀b o u,H b=some (.bM o u)->H' b=some (.bM o u))
  (f_:∀b ps,H b=some (.iF ps)->∃d,H' b=some (.iF (ps++d)))
  (fl:∃(B:Heap) (a0:Value),(∀b o,s.heap.get? b=some o->H b=none->b∉frs X.stack->B.get? b=some o)/\(∀b o,s.heap.get? b=some o->b∉frs X.stack->∃o',B.get? b=some o')/\cE X.prog X.w H' B/\FlyingW B X.outer a C a0 s'.heap):
  iN X.prog X.w X.outer X.H₀ H' X.s₀ s' a C:=by
 have nx:∀b:Addr,b∉X.ex:=λb=>by rw[hex];simp
 have g:∀b o,X.s₀.heap.get? b=some o->b∉frs X.outer->b∉frs X.stack:=λb o q c z=>by
  rcases bz.mp (I.pq b z) with e|e
  .exact absurd (cK (aV q) I.ok.above) (by rw[e];exact fy _)
  .exact c e
 refine⟨os.trans I.os,bare,λb o q c=> ?_,λb o q n=> ?_,λb xs q=>tups b xs (I.base.tups b xs q),λb o u q=>fG b o u (I.base.fG b o u q),λb ps q=> ?_,?_⟩
 .obtain⟨i,e⟩:=I.base.slot b o q (I.ok.lD b c) c (nx b)
  obtain⟨j,l⟩:=slot b _ e c
  exact⟨j,l⟩
 .obtain⟨i,e⟩:=I.base.any q n (nx b)
  exact free b _ e (I.base.free b o q n (nx b))
 .obtain⟨m,p⟩:=I.base.f_ b ps q
  obtain⟨r,v⟩:=f_ b _ p
  exact⟨m++r,by rw[v,Array.append_assoc]⟩
 .obtain⟨B,a0,k,t,h,f⟩:=fl
  refine⟨B,a0,λb o q n c=>k b o (I.base.keep b o q n c (nx b)) (I.base.free b o q n (nx b)) (g b o q c),λb o q c=> ?_,h,f⟩
  obtain⟨o',e⟩:=I.base.there b o q (nx b)
  exact t b o' e (g b o q c)
end
def Raises(X:Cx)(E:XK):Prop:=∀(pins:aT) (σ:St) (H:Hp) (s:Shared) (e:Addr) (h':Heap) (C:Value) (args:List Value),Inv X pins σ H s->Heap.MadeExcOf s.heap h' e C args->E C none H->X.xe (.ref e) {s with heap:=h'}
section
variable{P:Program}{w:World}{K:Frag}{mg:aB}{base:Heap}{N:List Str}{qual:Str}{scope:Scope}{f:Addr}{cd:Value}{A:Around}{outer:List Env}{s:Shared}{H:Hp}{E:XK}
theorem C_{env:Env}{l:List Env}{b:Addr}(h:b∈frs l):b∈frs (env::l):=by
 obtain⟨e,a,c⟩:=rY.mp h;exact rY.mpr ⟨e,bq _ a,c⟩
theorem Fp:Raises (cS (bJ P w) P w K mg base N qual scope f cd A outer s H E) E:=by
 intro pins σ H1 j e h' C args I i k;have stk:=I.stack;have mY:∀b o,H1 b=some o->b∉frs (cS (bJ P w) P w K mg base N qual scope f cd A outer s H E).stack:=λb o q z=>by
  rw[I.zV b z] at q;cases q
 have h:∀a∈(cS (bJ P w) P w K mg base N qual scope f cd A outer s H E).stack,∀b,a.frame=some b->b∈frs (cS (bJ P w) P w K mg base N qual scope f cd A outer s H E).stack:=λa l b d=>rY.mpr ⟨a,l,d⟩;show wpAny (model P w) _ (leaving _ (.ref e)) _ _ _;refine wpAny_leaves_madeW (base:=hideAll j.heap (frs (cS (bJ P w) P w K mg base N qual scope f cd A outer s H E).stack)) I.ok.frames rfl (λb o q=>of_hideAll _ q) (PySem.W.funFrames_hide stk h) i λh'' t fl tup bt up=>?_;refine⟨e,C,H1,rfl,C4 I rfl rfl I.bare (λb o q d=>?_) (λ_ _ _ n=>n) (λ_ _ q=>q) (λ_ _ _ q=>q) (λ_ ps q=>⟨#[],by rw[q];simp⟩) ⟨_,_,λb o q n d=>hideAll_get _ q d,λb o q d=>⟨o,hideAll_get _ q d⟩,λb o q=>?_,fl⟩,k⟩
 .obtain⟨_,o',g,hd⟩:=stk.mem (C_ (env:=envOfC qual scope s.heap.objs.size f cd) d)
  rw[q] at g;cases g;exact up b o (i.keeps b o q) hd
 .refine(I.hok b o q).stay (λc u hc r=>hideAll_get _ r ?_) (λ_ r=>r) λ_ _ r=>r
  rcases hc with z|z
  .rw[z];exact mY b o q
  .exact mY c _ z
theorem EJ:Passes (bJ P w) (cS (bJ P w) P w K mg base N qual scope f cd A outer s H E) E:=by
 intro pins σ H1 n e s' I h;obtain⟨a,C,H',rfl,F,j⟩:=h;obtain⟨B,a0,k,th,hok,fl⟩:=F.fl;show wpAny (model P w) _ (leaving _ (.ref a)) _ _ _;refine wpAny_leaves_onW I.ok.frames rfl fl λh'' g up=>⟨a,C,H',rfl,C4 I rfl F.os F.bare (λb o q l=>?_) F.free F.tups F.fG F.f_ ⟨B,a0,k,th,hok,g⟩,j⟩;have c:=C_ (env:=envOfC qual scope s.heap.objs.size f cd) l;obtain⟨p,e⟩:=F.slot b o q c;obtain⟨_,o',d,hd⟩:=fl.2.2.1.mem c;rw[e] at d;cases d;obtain⟨i,m⟩:=up b _ e hd;exact⟨i,m⟩
theorem fQ:PassesOwn (model P w) (cS (bJ P w) P w K mg base N qual scope f cd A outer s H E).A (cS (bJ P w) P w K mg base N qual scope f cd A outer s H E).env (cS (bJ P w) P w K mg base N qual scope f cd A outer s H E).xe:=
 PassesOwn.leaving
end
abbrev m_:List Value:=[.type "ValueError",.type "Exception",.type "BaseException",.type "object"]
theorem KR{K:Frag}{h:Heap}{C:Addr}{b:List Value}{newId:String}(X:K.In h)(q:excIn K C b newId=true):∃nm d N bs bm hdct sn sub ab col dd k0 k1 k2 k3 k5,∃mN:aB,
  h.get? C=some (excClassObj nm d C N bs bm hdct sn sub ab col dd k0 k1 k2 k3 k5 newId)/\h.Ns N mN/\mN "__init__"=none/\OwnTail h b bm:=by
 unfold excIn at q;split at q
 .rename_i dd cd f j
  split at q
  .rename_i m bm k0 k1 k2 k3 n k5 g i
   simp only[ia,j8,r_] at q;obtain⟨⟨⟨⟨⟨rfl,rfl⟩,a⟩,k⟩,hok⟩,c⟩:=q;obtain⟨nm,bs,mro,ns,d,hd,sn,sub,ab,col,del⟩:=cd;dsimp only at g a hok c;subst g a;have e:f= #[k0,k1,k2,k3,some (.builtin n),k5]:=by
    obtain⟨l⟩:=f;simp only at i;rw[i]
   subst e;exact⟨nm,d,ns,bs,bm,hd,sn,sub,ab,col,dd,k0,k1,k2,k3,k5,_,X _ _ j,.of_isNs (PySem.W.isNs_of_in X hok),PySem.W.nsMap_none_of_in X hok c,PySem.W.tail_of_in X k⟩
  .cases q
 .cases q
section
variable{X:Cx}{E:XK}{x:Str}{C:Addr}{e:Expr}{t:TA}{np cpos pos:Pos}
def TM(E:XK)(C:Addr)(t:TA):TS:=λ_ σ H=>t σ H λvs H1=>vs.length<=sizeLine/\E (.ref C) none H1
theorem Qt(j:Raises X E)(hc:X.calm=true)(k:X.mg x=some (.ref C))(l:excIn X.K C m_ "ValueError.__new__"=true)(m:PA X [e] t)(n:Gl X x:=by rfl)(b:(x==("__debug__":Str))=false:=by decide)
  (f:starEach [e] X.env=[(false,eval e X.env)]:=by rfl):PS X (.Raise (some (.Call (.Name x np) [e] [] cpos)) none pos) (TM E C t):=by
 intro pins s σ H D I h;obtain⟨nm,o,N,bs,bm,hdct,sn,sub,ab,col,dd,k0,k1,k2,k3,k5,mN,c,p,d,g⟩:=KR I.mod.qN l;refine wpAny_Raise_call_subT (nm:=nm) (q:=o) (C:=C) (N:=N) (bs:=bs) (bm:=bm) (hdct:=hdct) (sn:=sn) (sub:=sub) (ab:=ab) (col:=col) (dd:=dd) (k0:=k0) (k1:=k1) (k2:=k2) (k3:=k3) (k5:=k5) (mN:=mN) PySem.F.excBase_ValueError (g.hasType η) (I.ok.hd hc) (by rw[f];rfl) d (ux I n k ⟨rfl,?_⟩ b);have h':=m cpos pins s σ H _ I h;rw[f] at h' ⊢;refine Calls.evalArgs_plain (aJ h' λr v ⟨vs,H1,a,r1,i⟩=>?_);have hl:=r1.length;exact⟨rfl,by show r.length<=sizeLine;rw[<-hl];exact i.1,a.bk _ _ c,p.keeps a.bk,g.keeps a.bk,λh2 w u=>j _ _ _ _ _ _ _ _ a u i.2⟩
end
def excAt(a:Addr)(C:Value)(h:Heap):Prop:=∃o,h.get? a=some o/\o.cls=C
abbrev KQ(a C:Addr):HO:=.ext (excAt a (.ref C))
abbrev Cx.lG(X:Cx)(e:Addr):Cx:={X with A:=X.A.mark (some (.ref e)),calm:=false,xe:=λ_ _=>False}
abbrev Cx.tried(X:Cx)(pn:aT)(E:aR):Cx:={X with pn:=pn,xe:=E}
section
variable{X:Cx}{pins:aT}{σ:St}{H:Hp}{s:Shared}
theorem Inv.lG(I:Inv X pins σ H s)(e:Addr):Inv (X.lG e) pins σ H s:=
 ⟨⟨I.ok.mod,I.ok.kind,I.ok.glob,I.ok.blt,I.ok.above,I.ok.inj,I.ok.has,I.ok.nV,(λz=>nomatch z),I.ok.frames,I.ok.stk,I.ok.yy,I.ok.bs,I.ok.kj,I.ok.oU,I.ok.qC,I.ok.iY,I.ok.lD⟩,I.os,I.bare,I.base,I.loc,I.cell,I.free,I.gX,I.pin,I.hok,I.len⟩
theorem Inv.Pj{e:Addr}(ok:X.Ok)(I:Inv (X.lG e) pins σ H s):Inv X pins σ H s:=
 ⟨ok,I.os,I.bare,I.base,I.loc,I.cell,I.free,I.gX,I.pin,I.hok,I.len⟩
theorem Inv.tried(I:Inv X pins σ H s)(E:aR):Inv (X.tried (X.pn++pins) E) [] σ H s:=
 ⟨⟨I.ok.mod,I.ok.kind,I.ok.glob,I.ok.blt,I.ok.above,I.ok.inj,I.ok.has,I.ok.nV,I.ok.hd,I.ok.frames,I.ok.stk,I.ok.yy,I.ok.bs,I.ok.kj,I.ok.oU,I.ok.qC,I.ok.iY,I.ok.lD⟩,I.os,I.bare,I.base,I.loc,I.cell,I.free,I.gX,
  λp a=>I.pin p ((b_.mp a).elim id λz=>absurd z θ),I.hok,I.len⟩
theorem Inv.jV{E:aR}{a:aT}(ok:X.Ok)(I:Inv (X.tried (X.pn++pins) E) a σ H s):Inv X pins σ H s:=
 ⟨ok,I.os,I.bare,I.base,I.loc,I.cell,I.free,I.gX,λp b=>I.pin p (kP _ b),I.hok,I.len⟩
theorem SP.jV{E:aR}{a:aT}{D:Ends}{f:Flow}(ok:X.Ok)(h:SP (X.tried (X.pn++pins) E) a D f s):SP X pins D f s:=by
 cases f with
 |next=>obtain⟨σ',H',I,q⟩:=h;exact⟨σ',H',I.jV ok,q⟩
 |brk=>obtain⟨σ',H',I,q⟩:=h;exact⟨σ',H',I.jV ok,q⟩
 |cont=>obtain⟨σ',H',I,q⟩:=h;exact⟨σ',H',I.jV ok,q⟩
 |ret u=>obtain⟨v,σ',H',I,r,q⟩:=h;exact⟨v,σ',H',I.jV ok,r,q⟩
end
section
variable{P:Program}{w:World}{outer:List Env}{H H':Hp}{s s':Shared}{a:Addr}{C a0:Value}{B h'':Heap}
theorem iN.move(F:iN P w outer H H' s s' a C)(h:∀b o,s.heap.get? b=some o->H b=none->b∉frs outer->B.get? b=some o)(th:∀b o,s.heap.get? b=some o->b∉frs outer->∃o',B.get? b=some o')(hok:cE P w H' B)
  (fl:FlyingW B outer a C a0 s'.heap)(d:FlyingW B outer a C a0 h'')(up:s'.heap.UpToSlots h''):iN P w outer H H' s {s' with heap:=h''} a C:=by
 refine⟨F.os,F.bare,λb o q g=>?_,F.free,F.tups,F.fG,F.f_,B,a0,h,th,hok,d⟩;obtain⟨j,e⟩:=F.slot b o q g;obtain⟨_,o',c,hd⟩:=fl.2.2.1.mem g;rw[e] at c;cases c;obtain⟨f,i⟩:=up b _ e hd;exact⟨f,i⟩
end
section
variable{P:Program}{w:World}{K:Frag}{mg:aB}{base:Heap}
def ay(P:Program)(w:World)(K:Frag)(mg:aB)(base:Heap)(k:Nat)(x:Str)(ps:List Str)(sp:Sp):Prop:=
 ∃f fd,fC P w K mg base (bJ P w) k f fd ps sp/\Binds K fd ps []/\keepIn K (.ref f)=true/\mg x=some (.ref f)
theorem ay.mono{j k:Nat}{x:Str}{ps:List Str}{sp:Sp}(F:ay P w K mg base j x ps sp)(h:j<=k):ay P w K mg base k x ps sp:=by
 obtain⟨f,fd,F,r⟩:=F;exact⟨f,fd,F.mono h,r⟩
theorem TopD.fnX{x:Str}{st:Stmt}{N ps:List Str}{k:Nat}{sp:Sp}(T:TopD K mg x st ps)(S:bh N ps (aK st))(len:∀vs H Q E,sp vs H Q E->vs.length=ps.length)
  (c:∀(f:Addr) (a:Value) (A:Around) (outer:List Env) (s:Shared) (H:Hp) (vs:List V) (Q:VK) (E:XK),dg k (A.deeper (envOfC x (aK st) s.heap.objs.size f a))->sp vs H Q E->
   ∃t,c6 (cS (bJ P w) P w K mg base N x (aK st) f a A outer s H E) (gU st) t/\t {nx:=λ_ H'=>Q .aE H',rt:=Q} (start N vs) H):ay P w K mg base (k+1) x ps sp:=by
 obtain⟨f,fd,F,b,m⟩:=T;have kp:=F.kp;obtain⟨i,j,kV,doc,pm,an,a,ct,g,rfl,lk,d⟩:=F.ex;exact⟨f,_,C5 lk d S len λA outer s H vs Q E h e=>c f a A outer s H vs Q E h e,b,kp,m⟩
end
section
variable{X:Cx}{k:Nat}{x:Str}{ps:List Str}{sp:Sp}{e fe:Expr}{es:List Expr}{t:TA}{tf:TE}{p pos:Pos}{E:XK}
theorem Pw(F:ay X.prog X.w X.K X.mg X.base k x ps sp)(d:dg k X.A)(hx:Passes (bJ X.prog X.w) X E)(g:PA X (e::es) t)(h:Gl X x:=by rfl)(a:(x==("__debug__":Str))=false:=by decide)
  (i:starEach (e::es) X.env=(false,eval e X.env)::starEach es X.env:=by rfl)(c:(backTo pos (starEach es X.env)).any (·.1)=false:=by rfl):
  PE X (.Call (.Name x p) (e::es) [] pos) (Hr sp [] E t):=by
 obtain⟨f,fd,F,b,kp,m⟩:=F;exact Pq F d h m kp b .nil hx g a i c
def FnAt(X:Cx)(k:Nat)(v:V)(sp:Sp):Prop:=∃f fd ps,v=.ref f/\fC X.prog X.w X.K X.mg X.base (bJ X.prog X.w) k f fd ps sp/\Binds X.K fd ps []/\keepIn X.K (.ref f)=true
def Tf(X:Cx)(k:Nat)(E:XK)(tf:TE)(t:TA):TE:=λσ H Q=>tf σ H λv H1=>∃sp,FnAt X k v sp/\t σ H1 λvs H2=>sp vs H2 Q E
theorem Pr(d:PE X fe tf)(g:dg k X.A)(hx:Passes (bJ X.prog X.w) X E)(i:PA X (e::es) t)
  (hc:eval (.Call fe (e::es) [] pos) X.env=(do callWith pos (<-eval fe X.env) [] (backTo pos (starEach (e::es) X.env)) (backToKw pos (keywordEach [] X.env))):=by rfl)
  (j:starEach (e::es) X.env=(false,eval e X.env)::starEach es X.env:=by rfl)(a:(backTo pos (starEach es X.env)).any (·.1)=false:=by rfl):
  PE X (.Call fe (e::es) [] pos) (Tf X k E tf t):=by
 intro pins s σ H Q I h
 refine Call_ (aJ (d pins s σ H _ I h) λu l ⟨v,H1,m,n,q⟩=> ?_) hc
 obtain⟨sp,⟨f,fd,ps,rfl,F,b,kp⟩,q⟩:=q
 cases n
 refine callWith_K (h₀:=X.base) I.ok.mod.qN kp (aJ (i pos pins l σ H1 _ m q) λp x ⟨vs,H2,c,r,o⟩=>⟨c.eG,?_⟩) j a
 exact FD (kC:=[]) F g b .nil hx c r (by rw[l_];exact o)
end
end L2
namespace SS
theorem Pf(t:SetTable)(n:Nat):(t.orStandIn n).led=t.led:=by
 unfold SetTable.orStandIn;split<;>rfl
theorem Ph(t:SetTable)(n:Nat)(h:t.plain=false):(t.orStandIn n).plain=false:=by
 unfold SetTable.orStandIn;split
 .exact h
 .rfl
theorem NT(t:SetTable)(es:Array (Int×Value))(h:Int)(x:Value):(layNew t es h x).2.1.led=t.led:=by
 unfold layNew;split
 .exact Pf _ _
 .rfl
theorem NU(t:SetTable)(es:Array (Int×Value))(h:Int)(x:Value)(a:t.plain=false):(layNew t es h x).2.1.plain=false:=by
 unfold layNew;split
 .exact Ph _ _ a
 .rfl
theorem DT{mask finger moves:Nat}{led plain:Bool}{a:Array Int}{t:SetTable}{o:Array Nat}(h:SetTable.laid mask finger moves led plain a=some (t,o)):t.led=led/\t.plain=plain:=by
 unfold SetTable.laid at h;obtain⟨w,_,h⟩:=Option.bind_eq_some_iff.mp h;cases h;exact⟨rfl,rfl⟩
theorem QV(t:SetTable)(es:Array (Int×Value))(n:Nat):(relayAll t es n).2.1.led=t.led:=by
 unfold relayAll;split
 .rename_i t' o e
  dsimp only;split
  .exact(DT e).1
  .rfl
 .rfl
theorem QW(t:SetTable)(es:Array (Int×Value))(n:Nat)(a:t.plain=false):(relayAll t es n).2.1.plain=false:=by
 unfold relayAll;split
 .rename_i t' o e
  dsimp only;split
  .exact(DT e).2.trans a
  .rfl
 .rfl
noncomputable def strOf(v:Value):Str:=match v with|.str x _=>x|_=>⟨#[]⟩
def ff(prog:Program)(w:World)(h:Heap)(a:Addr)(es:Array (Int×Value)):Prop:=
 ∃o ep t,h.get? a=some o/\o.ExactSet/\o.data=.set es ep t/\ElemsOf (PySem.strKind prog w) es.toList/\(es.toList.map λe=>strOf e.2).Nodup/\es.size<scanBound/\t.fits es.size=true/\
  t.led= !w.params.followText "set-order"/\(es.size≠0->t.plain=false)
section
variable{prog:Program}{w:World}{A:Around}{E:aR}{s:Shared}
theorem yt{l:List (Int×Value)}(h:ElemsOf (PySem.strKind prog w) l){e:Int×Value}(a:e∈l):∃t,e.2=.str (strOf e.2) t:=by
 obtain⟨⟨k,b,_⟩,_⟩:=h e a;obtain⟨t,q⟩:=Value.isStrOf_shape b;exact⟨t,by rw[q];rfl⟩
theorem DJ{e:Int×Value}{x:Str}(h:∃t,e.2=.str (strOf e.2) t):(PySem.strKind prog w).is x e.2=decide (strOf e.2=x):=by
 obtain⟨t,q⟩:=h;rw[q];show Value.isStrOf x (.str (strOf e.2) t)=decide (strOf (.str (strOf e.2) t)=x);by_cases hx:strOf e.2=x
 .rw[cW (by rw[<-hx];rfl),hx]
  simp[Value.isStrOf]
 .rw[fM (by exact hx)]
  simp only[Value.isStrOf];simpa[j8] using λz=>hx (by first|exact z.symm|exact z)
theorem add{a:Addr}{es:Array (Int×Value)}{x:Str}{tk:Tok}{Q:Bool->Shared->Prop}(hS:ff prog w s.heap a es)(K:es.size+1<scanBound)
  (h:∀h' l b,SameBut a s.heap h'->ff prog w h' a l->(x∈es.toList.map (λe=>strOf e.2)->l=es)->(x∉es.toList.map (λe=>strOf e.2)->l.toList.Perm (es.toList++[((PySem.strKind prog w).hash x,.str x tk)]))->Q b {s with heap:=h'}):
  wpAny (model prog w) A (setAddHashed a (.str x tk) ((PySem.strKind prog w).hash x)) Q E s:=by
 obtain⟨o,ep,t,T,hex,hd,n,U,hb,hf,u,hpl⟩:=hS
 have C:(PySem.strKind prog w).is x (.str x tk)=true:=by show Value.isStrOf x (.str x tk)=true;simp[Value.isStrOf]
 have M:(Value.str x tk).scannable=true:=rfl
 unfold setAddHashed setAddHashedIn
 refine gz (af (pR T hd hf ?_))
 dsimp only
 rw[byScan_of M hb n]
 simp only[↓reduceIte]
 unfold setAddByScan
 refine af ?_
 refine af (j5 ?_)
 refine af (wpAny_setScan_of C T hd hf n ?_)
 cases hr:List.findIdx? (λe=>(PySem.strKind prog w).is x e.2) es.toList with
 |some j=>
  dsimp only
  obtain⟨hj,V,_⟩:=List.findIdx?_eq_some_iff_getElem.mp hr
  have hin:x∈es.toList.map (λe=>strOf e.2):=by
   rw[DJ (yt n (mC hj))] at V
   exact aN.mpr ⟨_,mC hj,fS V⟩
  refine aD (aD ?_)
  have e:s={s with heap:=s.heap}:=by cases s;rfl
  rw[e]
  exact h s.heap es _ (SameBut.refl a s.heap) ⟨o,ep,t,T,hex,hd,n,U,hb,hf,u,hpl⟩ (λ_=>rfl) λz=>absurd hin z
 |none=>
  dsimp only
  have D:x∉es.toList.map (λe=>strOf e.2):=λz=>by
   obtain⟨e,he,q⟩:=aN.mp z
   have:=List.findIdx?_eq_none_iff.mp hr e he
   rw[DJ (yt n he),cW q] at this
   exact Bool.noConfusion this
  have MF:∀(b:Bool) {f:Shared} {F:Unit->Shared->Prop},F () f->wpAny (model prog w) A (match b with|true=>rule "set.scan.the-table-gave-way"|false=>pure ()) F E f:=
   λb f F r=>by cases b<;>first|exact aD r|exact j5 r
  have d:=layNew_perm t es ((PySem.strKind prog w).hash x) (.str x tk)
  have k:=layNew_fits t es ((PySem.strKind prog w).hash x) (.str x tk)
  have B:=NT t es ((PySem.strKind prog w).hash x) (.str x tk)
  have W:=NU t es ((PySem.strKind prog w).hash x) (.str x tk)
  generalize hL:layNew t es ((PySem.strKind prog w).hash x) (.str x tk)=L at d k B W ⊢
  obtain⟨c,t1,p,UQ⟩:=L
  dsimp only at d k B W ⊢
  rw[Array.toList_push] at d
  have G:ElemsOf (PySem.strKind prog w) c.toList:=(n.push C M).perm d
  have X:((es.toList++[((PySem.strKind prog w).hash x,Value.str x tk)]).map λe=>strOf e.2).Nodup:=by
   rw[eV]
   refine nh.mpr ⟨U,θ,λy hy z hz=> ?_⟩
   have hz':z=x:=by simpa[strOf] using hz
   rw[hz']
   rintro rfl
   exact D hy
  have H:(c.toList.map λe=>strOf e.2).Nodup:=(d.map _).nodup_iff.mpr X
  have Y:c.size=es.size+1:=by rw[<-gw,d.length_eq,dc,gw];rfl
  have v:c.size<scanBound:=by rw[Y];exact K
  refine af (MF _ ?_)
  have fin:∀{g:Bool->Sem Unit} {R:Option Bool->Shared->Prop},(∀(b:Bool) (f:Shared) (F:Unit->Shared->Prop),F () f->wpAny (model prog w) A (g b) F E f)->(∀h',Q true {s with heap:=h'}->R (some true) {s with heap:=h'})->
    ∀i:SetTable,i.fits c.size=true->i.led=t.led->i.plain=false->
    wpAny (model prog w) A (do
     storeSet a c i
     if (!p&&i.tooFull)=true then do
       g (relayAll i c (SetTable.grown c.size)).2.2
       storeSet a (relayAll i c (SetTable.grown c.size)).1 (relayAll i c (SetTable.grown c.size)).2.1
       pure (some true)
      else pure (some true)) R E s:=λ {g R} hg hR i hf2 Z hp2=>by
   have go:∀h' l,SameBut a s.heap h'->ff prog w h' a l->l.toList.Perm c.toList->R (some true) {s with heap:=h'}:=λh' l q1 q2 q3=>hR h' (h h' l true q1 q2 (λz=>absurd z D) λ_=>q3.trans d)
   refine af (wpAny_storeSet_of T hd ?_ (wI v))
   have N:(s.heap.update a (Obj.putSet c i)).get? a=some {o with data:= .set c (ep+1) i}:=by
    have:=j9 (Obj.putSet c i) T (by rw[putSet_of c i hd];rfl)
    rw[putSet_of c i hd] at this;exact this
   have I:=SameBut.update s.heap a (Obj.putSet c i)
   split
   .have J:=relayAll_perm i c (SetTable.grown c.size)
    have O:=relayAll_fits i c (SetTable.grown c.size)
    have P:=QV i c (SetTable.grown c.size)
    have S:=QW i c (SetTable.grown c.size) hp2
    generalize UU:relayAll i c (SetTable.grown c.size)=Rl at J O P S ⊢
    obtain⟨m,t3,UR⟩:=Rl
    dsimp only at J O P S ⊢
    have hsz:m.size=c.size:=by rw[<-gw,J.length_eq,gw]
    have hb2:m.size<scanBound:=by rw[hsz];exact v
    refine af (hg _ _ _ ?_)
    refine af (wpAny_storeSet_of N rfl ?_ (wI hb2))
    have ME:((s.heap.update a (Obj.putSet c i)).update a (Obj.putSet m t3)).get? a=some {o with data:= .set m (ep+1+1) t3}:=by
     have:=j9 (Obj.putSet m t3) N (by rw[putSet_of (ep:=ep+1) (t:=i) m t3 rfl];rfl)
     rw[putSet_of (ep:=ep+1) (t:=i) m t3 rfl] at this;exact this
    refine aD (go _ m (I.trans (SameBut.update _ a _)) ⟨_,_,_,ME,hex,rfl,G.perm J,(J.map _).nodup_iff.mpr H,hb2,O,?_,λ_=>S⟩ J)
    rw[P,Z];exact u
   .exact aD (go _ c I ⟨_,_,_,N,hex,rfl,G,H,v,hf2,by rw[Z];exact u,λ_=>hp2⟩ .rfl)
  split
  .refine af ?_
   rw[hashByValue_scannable 8 M]
   refine aD ?_
   simp only[show plainKind (Value.str x tk)=false from rfl,jf,fT]
   refine fin ?_ ?_ {t1 with plain:=false} (SetTable.fits_plain_off k) B rfl
   .intro b f F r;cases b<;>first|exact aD r|exact j5 r
   .exact λh' r=>aD r
  .rename_i J
   refine af (aD ?_)
   simp only[↓reduceIte]
   refine fin ?_ ?_ t1 k B (by simpa using J)
   .intro b f F r;cases b<;>first|exact aD r|exact j5 r
   .exact λh' r=>aD r
end
abbrev names(es:Array (Int×Value)):List Str:=es.toList.map λe=>strOf e.2
theorem ff.keeps{prog:Program}{w:World}{h h':Heap}{a:Addr}{es:Array (Int×Value)}(S:ff prog w h a es)(k:∀o,h.get? a=some o->h'.get? a=some o):ff prog w h' a es:=by
 obtain⟨o,ep,t,b,r⟩:=S;exact⟨o,ep,t,k o b,r⟩
section
variable{prog:Program}{w:World}{A:Around}{R:Result->Shared->Prop}{I:Addr}{fp wr:List Addr}{G:Array GenState->Array GenState->Prop}{n:Nat}{P:Nat->Value->Prop}{St:Nat->Shared->Prop}
theorem loop(W:WalksS prog w A.in1 I fp wr G n P St)(S:Addr)(p:S∉fp)(val:Nat->Str)(q:∀i v,P i v->∃t,v=.str (val i) t)(m:n+1<scanBound):
  ∀(k i:Nat) (s:Shared) (es:Array (Int×Value)),n - i=k->i<=n->St i s->ff prog w s.heap S es->es.size<=i->(∀x,x∈names es↔∃j,j<i/\val j=x)->
   (∀s' c,Moved (S::wr) G s s'->ff prog w s'.heap S c->c.size<=n->(∀x,x∈names c↔∃j,j<n/\val j=x)->R (.ok (.ret .none)) s')->
   codeAny (model prog w) A (.builtin "set.update.loop" ⟨[.ref S,.ref I],[]⟩) R s:=by
 have r:S∉wr:=λh=>p (W.sub _ h);have f:∀b∈wr,b∈S::wr:=λb m=>bq _ m;intro k;induction k with
 |zero=>
  intro i s es hk hi g L hsz d M;have N:i=n:=ω
  subst N;refine iJ F.entry_set_update_loop ?_;rw[je Ah _];show wpAny _ A.in1 (pyNext (.ref I)>>=_) _ _ s;refine af (W.done s _ _ g λs' u=>?_);show wpAny _ A.in1 (ret Value.none) _ _ s';exact aD (M s' es (u.mono f) (L.keeps λo O=>u.heap S _ r O) hsz d)
 |succ k ih=>
  intro i s es hk hi g L hsz d M;have B:i<n:=ω
  refine iJ F.entry_set_update_loop ?_;rw[je Ah _];show wpAny _ A.in1 (pyNext (.ref I)>>=_) _ _ s;refine af (W.item i s _ _ B g λv s' hP C u=>?_);obtain⟨t,rfl⟩:=q i v hP;have Q:ff prog w s'.heap S es:=L.keeps λo O=>u.heap S _ r O;show wpAny _ A.in1 (holding [Value.str (val i) t] (setAdd S (.str (val i) t))>>=_) _ _ s';refine af (gz ?_);unfold setAdd;refine gz ?_;refine af ((PySem.strKind prog w).pyHash (k:=val i) (by show Value.isStrOf (val i) (.str (val i) t)=true;simp[Value.isStrOf]) ?_);refine add (s:={s' with toks:=s'.toks+1}) Q ω λh' c b D T Y Z=>?_;have E:c.size<=i+1:=by
   by_cases hx:val i∈es.toList.map (λe=>strOf e.2)
   .rw[Y hx];omega
   .rw[<-gw,(Z hx).length_eq,dc,gw]
    simp only[gv,length_nil];omega
  have l:∀x,x∈names c↔∃j,j<i+1/\val j=x:=λx=>by
   have e1:x∈names c↔x∈names es\/x=val i:=by
    by_cases hx:val i∈es.toList.map (λe=>strOf e.2)
    .rw[Y hx]
     exact⟨.inl,λz=>z.elim id λe=>e▸hx⟩
    .have hp:=((Z hx).map λe=>strOf e.2).mem_iff (a:=x)
     rw[eV,b_] at hp;refine hp.trans ⟨λz=>z.imp id λy=>by simpa[strOf] using y,λz=>z.imp id λy=>by simpa[strOf] using y⟩
   rw[e1,d x];constructor
   .rintro (⟨j,hj,e⟩|rfl)
    .exact⟨j,ω,e⟩
    .exact⟨i,ω,rfl⟩
   .rintro ⟨j,hj,e⟩
    by_cases U:j=i
    .exact .inr (by rw[<-e,U])
    .exact .inl ⟨j,ω,e⟩
  refine aD ⟨jz Ah _,ih (i+1) _ c ω B (W.frame _ s' _ _ C (le_succ _) λb m o e=>?_) T E l λV H J K hz X=>?_⟩
  .rw[D.2 b (λh:b=S=>p (by rw[<-h];exact m))];exact e
  .refine M V H (Moved.trans W.gtrans ((u.mono f).then_heap (le_succ _) λb o m e=>?_) J) K hz X
   rw[D.2 b (λh:b=S=>m (by rw[h];exact br))];exact e
end
section
variable{prog:Program}{w:World}{A:Around}{E:aR}{s:Shared}
abbrev NW(w:World):Bool:= !w.params.followText "set-order"
abbrev ju(w:World):Obj:={cls:=.type "set",dict:=none,data:=.set #[] 0 (.fresh 0 0 (NW w))}
theorem code_set_new(a:Value){Q₁:aR}(h:Q₁ (.ref s.heap.objs.size) {s with heap:=s.heap.push (ju w)}):
  codeAny (model prog w) A (.call (.builtin "set.__new__") ⟨[.type "set",a],[]⟩) (wants Q₁ E) s:=by
 refine codeAny_of_tree ?_;show wpAny _ A.in1 (do checkBuiltinCall "set.__new__" ⟨[.type "set",a],[]⟩;again (.builtin "set.__new__" ⟨[.type "set",a],[]⟩)) _ _ s;refine af (wpAny_of_eq (PySem.F.newCall_set_1 a) (aD ⟨jz PySem.F.plain_set_new _,iJ PySem.F.entry_set_new ?_⟩));rw[je PySem.F.plain_set_new _];unfold Builtin.«set.__new__» Builtin.Frozenset.newClass;have b:=sub_set_self;obtain⟨c,g,d,tk,os⟩:=s;dsimp only;wp_walk;refine wpAny_askSetting (aD ?_);dsimp only;simp only[newObj];refine af (wpAny_alloc (aD ?_));exact aD h
theorem ff.fresh{h:Heap}{a:Addr}(b:h.get? a=some (ju w)):ff prog w h a #[]:=
 ⟨_,_,_,b,⟨rfl,rfl,rfl⟩,rfl,λe c=>by simp at c,θ,δ,by rfl,rfl,λz=>absurd rfl z⟩
theorem Jf{l:Addr}{items:Array Value}{val:Nat->Str}{Q:aR}
  (hh:A.handled=none)(hl:s.heap.IsList l items)(hi:∀(i:Nat) (v:Value),items[i]? =some v->∃t:Tok,v=Value.str (val i) t)(J:items.size+1<scanBound)
  (h:∀(h':Heap) (tk:Nat) (es:Array (Int×Value)),ff prog w h' s.heap.objs.size es->es.size<=items.size->(∀x,x∈names es↔∃j,j<items.size/\val j=x)->
   (∀b o,b<s.heap.objs.size->s.heap.get? b=some o->h'.get? b=some o)->Q (.ref s.heap.objs.size) {s with heap:=h',toks:=tk}):
  wpAny (model prog w) A (call (.type "set") [.ref l]) Q E s:=by
 obtain⟨c,tl,Z⟩:=mj.mro
 have L:=mj.made
 have hsub:=mj.sub
 refine wpAny_call (codeAny_of_tree ?_)
 show wpAny _ _ (callAny (.type "set") _) _ _ _
 refine aD ⟨Code.quiet_builtin _ η,iJ PySem.F.entry_type_call ?_⟩
 rw[Around.under_plain (weight_type_call_type "set" [.ref l] []) rfl]
 have h1:=mj.notType
 have h2:=mj.canCreate
 have hct:=PySem.F.typeCall_set_1 (.ref l)
 repeat (any_goals (first|assumption|wp_step))
 refine pT (code_set_new (.ref l) (E:=E) (Q₁:=λobj f=>obj= .ref s.heap.objs.size/\f={s with heap:=s.heap.push (ju w)}) ⟨rfl,rfl⟩) λr f M=> ?_
 cases r with
 |error e=>exact M
 |ok fl=>
  cases fl with
  |ret obj=>
   obtain⟨rfl,rfl⟩:=M
   have hS:(s.heap.push (ju w)).get? s.heap.objs.size=some (ju w):=cu _ rfl
   have hT:Shared.TypeIs {s with heap:=s.heap.push (ju w)} (.ref s.heap.objs.size) "set":=⟨_,hS,rfl⟩
   have hli:=mj.init.lookup
   have hbi:=mj.init.bind (.ref s.heap.objs.size)
   repeat (any_goals (first|assumption|wp_step))
   refine pT (codeAny_call_builtin (R:=wants (λr g=>r= .none/\∃h' tk es,g={s with heap:=h',toks:=tk}/\
     ff prog w h' s.heap.objs.size es/\es.size<=items.size/\(∀x,x∈names es↔∃j,j<items.size/\val j=x)/\
     (∀b o,b<s.heap.objs.size->s.heap.get? b=some o->h'.get? b=some o)) E) mj.init.plain PySem.F.entry_set_init (check_set_init_1 hT ?_)) λu g a=> ?_
   .obtain⟨ol,y,B,nl,C⟩:=hl
    obtain⟨Vc,k,N,d⟩:=ol
    simp only at B C
    subst B;subst C
    have D:(s.heap.push (ju w)).get? l=some {cls:= .type "list",dict:=k,data:= .seq items nl,slots:=d}:=bA _ y
    have U0:=PySem.F.sub_list_set
    have UZ:=PySem.F.sub_list_frozenset
    have hne:(Value.type "list" ==Value.type "dict")=false:=δ
    have G:(s.heap.push (ju w)).IsList l items:=⟨_,D,rfl,nl,rfl⟩
    unfold Builtin.«set.__init__» noKeywords Builtin.Frozenset.updateFrom
    generalize O:pyIter=PI
    wp_walk
    subst O
    refine su G ?_
    refine af (wpAny_runValue ?_)
    have H:l<s.heap.objs.size:=aV y
    have P:A.in1.in1.in1.handled=none:=by simp[hh]
    have I:l≠(s.heap.push (ju w)).objs.size:=by
     rw[eF];exact bI (gb H)
    have S:s.heap.objs.size∉[(s.heap.push (ju w)).objs.size,l]:=by
     rw[eF];simp only[bz,bH,gK,gM,not_or]
     exact⟨bI (kO _),jy H⟩
    refine loop ((Walks.list P _ l I items).toS) s.heap.objs.size S val (λi v hv=>hi i v hv) J (items.size - 0) 0 _ #[] ω (bV _)
     ⟨⟨_,cu _ rfl,rfl,rfl⟩,(G.push _)⟩ ?qH (aG _) (λx=>⟨λz=>by simp[names] at z,λ⟨j,hj,_⟩=>absurd hj (Nat.not_lt_zero _)⟩) ?hR
    case qH=>exact ff.fresh (bA _ hS)
    case hR=>
     intro s' T K m n p
     obtain⟨h',g',d',U,V⟩:=s'
     have eg:g'=s.gens:=K.gens
     have ed:d'=s.drawn:=K.drawn
     have eo:V=s.os:=K.os
     subst eg;subst ed;subst eo
     show wpAny _ _ _ _ _ _
     refine aD ?_
     show wpAny _ _ (ret Value.none) _ _ _
     refine aD ⟨rfl,h',U,T,rfl,m,n,p,λb o J e=> ?_⟩
     have W:b≠s.heap.objs.size:=bI J
     have X:b≠(s.heap.push (ju w)).objs.size:=by
      rw[eF];exact bI (gb J)
     exact K.heap b o (by simp only[bz,bH,gK,gM,not_or];exact⟨W,X⟩) (bA _ (bA _ e))
   .cases u with
    |error e=>exact a
    |ok q=>
     cases q with
     |ret r=>
      obtain⟨rfl,h',tk,es,rfl,m,n,p,Y⟩:=a
      repeat (any_goals (first|assumption|wp_step))
      exact h _ _ es m n p Y
     |_=>exact a.elim
  |_=>exact M.elim
end
theorem GZ:Slot "set" "__iter__" "set.__iter__":=
 .of (owner:="set") (n:="__iter__") (by rw[ni,nF];kernel_rfl) η η η
  (by first|exact .inl η|exact .inr η) (by rw[isSubtype_type];kernel_rfl)
theorem slot_next:Slot "set_iterator" "__next__" "set_iterator.__next__":=
 .of (owner:="set_iterator") (n:="__next__") (by rw[ni,nF];kernel_rfl) η η η
  (by first|exact .inl η|exact .inr η) (by rw[isSubtype_type];kernel_rfl)
theorem G0:Slot "set_iterator" "__iter__" "set_iterator.__iter__":=
 .of (owner:="set_iterator") (n:="__iter__") (by rw[ni,nF];kernel_rfl) η η η
  (by first|exact .inl η|exact .inr η) (by rw[isSubtype_type];kernel_rfl)
theorem Kz:entryFor table "set.__iter__"=some Builtin.«frozenset.__iter__»:=
 entryFor_alias (id':="frozenset.__iter__") (by kernel_rfl) (by first|rfl|decide+kernel) η (by kernel_rfl)
theorem entry_next:entryFor table "set_iterator.__next__"=some Builtin.«set_iterator.__next__»:=entryFor_of_fast (by kernel_rfl)
theorem IT(a:Value):argsOk "set.__iter__" ⟨[a],[]⟩:=by unfold argsOk;kernel_rfl
theorem args_next(a:Value):argsOk "set_iterator.__next__" ⟨[a],[]⟩:=by unfold argsOk;kernel_rfl
theorem UB{M:Model}{A:Around}{E:aR}{s:Shared}{src:Source}{n:Nat}{Q:Nat->Shared->Prop}(a:n≠0)(h:∀i d,i<n->Q i {s with drawn:=d}):wpAny M A (choose src n) Q E s:=λb p _=>by
 unfold choose;rw[Sem.wp_choose];exact⟨a,h _ _ (Nat.mod_lt _ (Nat.pos_of_ne_zero a))⟩
theorem zv{α:Type}:∀(xs:List α) (i:Nat) (x:α),xs[i]?=some x->xs.Perm (x::xs.eraseIdx i)
 |[],i,x,h=>by simp at h
 |y::r,0,x,h=>by
  simp at h;subst h;simp
 |y::r,i+1,x,h=>by
  simp only[Am] at h;have:=zv r i x h;simp only[List.eraseIdx_cons_succ];exact(this.cons y).trans (Perm.swap x y _)
section
variable{M:Model}{A:Around}{E:aR}{s:Shared}
theorem CC{α:Type}:∀(n:Nat) (xs:List α) (s:Shared) (Q:List α->Shared->Prop),n=xs.length->(∀ys d,ys.Perm xs->Q ys {s with drawn:=d})->wpAny M A (drawOrder n xs) Q E s
 |0,xs,s,Q,a,h=>by
  cases xs with
  |nil=>unfold drawOrder;exact aD (h [] s.drawn .nil)
  |cons x r=>simp at a
 |n+1,[],s,Q,a,h=>by simp at a
 |n+1,x::r,s,Q,a,h=>by
  unfold drawOrder;refine af (UB θ λi d hi=>?_);have e:(x::r)[i]?=some ((x::r)[i]'hi):=aW hi;rw[e];dsimp only;have b:=zv (x::r) i _ e;refine af (CC n _ _ _ ?_ λys d' hy=>aD ?_)
  .have:=b.length_eq
   simp only[gv] at this a ⊢;omega
  .exact h _ d' ((hy.cons _).trans b.symm)
end
theorem EU{α:Type}(next:Nat->Nat):∀(fuel k:Nat) (left:List α) (out:Array α),fuel=left.length->(pickOrder.go next fuel k left out).toList.Perm (out.toList++left)
 |0,k,left,out,h=>by
  cases left with
  |nil=>unfold pickOrder.go;simp
  |cons x r=>simp at h
 |fuel+1,k,[],out,h=>by simp at h
 |fuel+1,k,x::r,out,h=>by
  unfold pickOrder.go;have hi:next k%(x::r).length<(x::r).length:=Nat.mod_lt _ θ;have e:(x::r)[next k%(x::r).length]?=some ((x::r)[next k%(x::r).length]'hi):=aW hi;rw[e];dsimp only;have a:=zv (x::r) _ _ e;refine(EU next fuel (k+1) _ _ ?_).trans ?_
  .have:=a.length_eq
   simp only[gv] at this h ⊢;omega
  .rw[Array.toList_push,List.append_assoc]
   exact Perm.append_left _ a.symm
theorem P9{α:Type}(next:Nat->Nat)(xs:Array α):(pickOrder next xs).toList.Perm xs.toList:=by
 unfold pickOrder;exact(EU next xs.size 0 xs.toList #[] θ).trans θ
def fV(h:Heap)(it a:Addr)(first:Value)(i n ep:Nat):Prop:=∃o,h.get? it=some o/\o.cls=.type "set_iterator"/\o.data=.fields #[first,.int i 0,.ref a,.int n 0,.int ep 0]
def iP(h:Heap)(a:Addr)(es:Array (Int×Value))(ep:Nat)(t:SetTable):Prop:=∃o,h.get? a=some o/\o.data=.set es ep t/\t.fits es.size=true
section
variable{prog:Program}{w:World}{A:Around}{E:aR}{s:Shared}{it a:Addr}{es:Array (Int×Value)}{ep:Nat}{t:SetTable}
theorem fV.typeIs{first:Value}{i n:Nat}(h:fV s.heap it a first i n ep):s.TypeIs (.ref it) "set_iterator":=by
 obtain⟨o,h1,h2,_⟩:=h;exact⟨o,h1,h2⟩
theorem fV.put{first v:Value}{i n k:Nat}{h:Heap}(x:fV h it a first i n ep)(o:Obj)(b:h.get? it=some o):(h.update it (Obj.mapFields (·.setIfInBounds k v))).get? it=some (o.mapFields (·.setIfInBounds k v)):=by
 obtain⟨o',h1,h2,c⟩:=x;rw[h1] at b;cases b;exact j9 _ h1 (As (kX c _))
theorem Es{slot:Int}{i:Nat}{x:Value}{nx:Nat}{Q:Option Value->Shared->Prop}(hi:fV s.heap it a (.int slot 0) i es.size ep)(f:iP s.heap a es ep t)
  (g:∀(A:Around) (Q:Option (Value×Nat)->Shared->Prop) (E:aR),Q (some (x,nx)) s->wpAny (model prog w) A (setNext a slot.toNat i ep) Q E s)
  (h:∀h',fV h' it a (.int nx 0) (i+1) es.size ep->SameBut it s.heap h'->Q (some x) {s with heap:=h'}):wpAny (model prog w) A (pyNext (.ref it)) Q E s:=by
 obtain⟨o,c,hc,hd⟩:=id hi
 obtain⟨os,d,e,j⟩:=f
 unfold pyNext
 refine af (pP (nk (name:=Str.ofString "__next__") hi.typeIs slot_next (jb slot_next hi.typeIs entry_next ?_ (args_next _))))
 show wpAny _ _ (fieldsOf (.ref it)>>=_) _ _ s
 refine af (wj c hd ?_)
 show wpAny _ _ (setEntries a>>=_) _ _ s
 refine af (sC d e j ?_)
 simp only[mh,jf,fT]
 refine af (g _ _ _ ?_)
 dsimp only
 refine af (pQ c hd θ ?_)
 have b:=hi.put (k:=0) (v:=rawInt nx) o c
 refine af (pQ b (kX hd _) θ (aD ⟨x,rfl,aD (h _ ?_ ((SameBut.update ..).trans (SameBut.update ..)))⟩))
 refine⟨_,j9 _ b (As (kX (kX hd _) _)),(Obj.cls_mapFields ..).trans ((Obj.cls_mapFields ..).trans hc),?_⟩
 rw[kX (kX hd _)]
 simp[rawInt]
end
theorem KA:entryFor table "set_iterator.__iter__"=some Builtin.«dict_keyiterator.__iter__»:=
 entryFor_alias (id':="dict_keyiterator.__iter__") (by kernel_rfl) (by first|rfl|decide+kernel) η (by kernel_rfl)
theorem IU(a:Value):argsOk "set_iterator.__iter__" ⟨[a],[]⟩:=by unfold argsOk;kernel_rfl
section
variable{prog:Program}{w:World}{A:Around}{E:aR}{s:Shared}{it a:Addr}{es:Array (Int×Value)}{ep:Nat}{t:SetTable}
theorem yQ{first:Value}{i n:Nat}{Q:aR}(hi:fV s.heap it a first i n ep)(h:Q (.ref it) s):wpAny (model prog w) A (pyIter (.ref it)) Q E s:=by
 refine wpAny_pyIter_slot hi.typeIs G0 (jb G0 hi.typeIs KA ?_ (IU _));show wpAny _ _ (ret (.ref it)) _ _ s;exact aD ⟨_,rfl,"set_iterator",_,hi.typeIs,slot_next.lookup,h⟩
theorem CN{slot:Int}{i:Nat}{Q:Option Value->Shared->Prop}(f:A.handled=none)(hi:fV s.heap it a (.int slot 0) i es.size ep)(g:iP s.heap a es ep t)
  (h:∀(A:Around) (Q:Option (Value×Nat)->Shared->Prop) (E:aR),Q none s->wpAny (model prog w) A (setNext a slot.toNat i ep) Q E s)
  (j:∀h',ExtBut it s.heap h'->Q none {s with heap:=h'}):wpAny (model prog w) A (pyNext (.ref it)) Q E s:=by
 obtain⟨o,e,hc,hd⟩:=id hi
 obtain⟨os,c,d,k⟩:=g
 unfold pyNext
 refine af (pP (nk (name:=Str.ofString "__next__") hi.typeIs slot_next (jb slot_next hi.typeIs entry_next ?_ (args_next _))))
 show wpAny _ _ (fieldsOf (.ref it)>>=_) _ _ s
 refine af (wj e hd ?_)
 show wpAny _ _ (setEntries a>>=_) _ _ s
 refine af (sC c d k ?_)
 simp only[mh,jf,fT]
 refine af (h _ _ _ ?_)
 dsimp only
 refine af (pQ e hd θ ?_)
 show wpAny _ _ (newExc (.type "StopIteration") []>>=_) _ _ _
 refine af ?_
 simp only[newExc,newTuple]
 refine af (gc ?_ (by size_fits))
 refine af (m:=firstArgMember _ _) (wpAny_of_eq (a:=Value.none) (by first|rfl|(simp only[firstArgMember];rfl)) ?_)
 refine gc ?_ (by size_fits)
 simp only[raiseNew]
 refine af (wpAny_handled ?_)
 rw[show A.in1.handled=none from f]
 refine af (aD (wpAny_throw ?_))
 refine af (wk (T:="StopIteration") (b:=true) ⟨_,cu _ rfl,rfl⟩ isSubtype_stop ?_)
 exact aD (j _ (((SameBut.update ..).extBut.push _).push _))
theorem OA{d:Addr}{ps:List Nat}{i p:Nat}{h0:Int}{x:Value}{Q:Option Value->Shared->Prop}(hi:fV s.heap it a (.ref d) i es.size ep)(k:iP s.heap a es ep t)
  (l:∃o n,s.heap.get? d=some o/\o.data= .seq ((ps.map λ(i:Nat)=>rawInt i).toArray) n)(m:ps[i]? =some p)(hx:es[p]? =some (h0,x))
  (q:∀h',fV h' it a (.ref d) (i+1) es.size ep->SameBut it s.heap h'->Q (some x) {s with heap:=h'}):wpAny (model prog w) A (pyNext (.ref it)) Q E s:=by
 obtain⟨o,f,hc,hd⟩:=id hi
 obtain⟨os,b,c,j⟩:=k
 obtain⟨r,u,g,h⟩:=l
 unfold pyNext
 refine af (pP (nk (name:=Str.ofString "__next__") hi.typeIs slot_next (jb slot_next hi.typeIs entry_next ?_ (args_next _))))
 show wpAny _ _ (fieldsOf (.ref it)>>=_) _ _ s
 refine af (wj f hd ?_)
 show wpAny _ _ (setEntries a>>=_) _ _ s
 refine af (sC b c j ?_)
 simp only[mh,jf,fT]
 refine af (sA g h ?_)
 have e:((ps.map λ(i:Nat)=>rawInt i).toArray)[((i:Int)).toNat]? =some (Value.int (p:Int) 0):=by
  simp[m,rawInt]
 dsimp only
 rw[e]
 dsimp only
 refine af ?_
 unfold setNextDrawn
 refine af (pR b c j ?_)
 dsimp only
 simp only[kW,mh,jf,fT]
 rw[hx]
 refine aD ?_
 refine af (pQ f hd θ (aD ⟨x,rfl,aD (q _ ?_ (SameBut.update ..))⟩))
 refine⟨_,j9 _ f (As (kX hd _)),(Obj.cls_mapFields ..).trans hc,?_⟩
 rw[kX hd]
 simp[rawInt]
theorem Kw{l:Addr}{ps:List Nat}{i:Nat}{Q:Option Value->Shared->Prop}(p:A.handled=none)(hi:fV s.heap it a (.ref l) i es.size ep)(q:iP s.heap a es ep t)
  (r:∃o n,s.heap.get? l=some o/\o.data= .seq ((ps.map λ(i:Nat)=>rawInt i).toArray) n)(u:ps[i]? =none)
  (x:∀h',ExtBut it s.heap h'->Q none {s with heap:=h'}):wpAny (model prog w) A (pyNext (.ref it)) Q E s:=by
 obtain⟨o,c,hc,hd⟩:=id hi
 obtain⟨os,d,f,y⟩:=q
 obtain⟨z,B,g,h⟩:=r
 unfold pyNext
 refine af (pP (nk (name:=Str.ofString "__next__") hi.typeIs slot_next (jb slot_next hi.typeIs entry_next ?_ (args_next _))))
 show wpAny _ _ (fieldsOf (.ref it)>>=_) _ _ s
 refine af (wj c hd ?_)
 show wpAny _ _ (setEntries a>>=_) _ _ s
 refine af (sC d f y ?_)
 simp only[mh,jf,fT]
 refine af (sA g h ?_)
 have e:((ps.map λ(i:Nat)=>rawInt i).toArray)[((i:Int)).toNat]? =none:=by
  simp only[kW,List.getElem?_toArray,bO,u,Option.map_none]
 dsimp only
 rw[e]
 dsimp only
 refine af (pQ c hd θ ?_)
 have j:=hi.put (k:=0) (v:=rawInt 0) o c
 refine af (pQ j (kX hd _) θ ?_)
 show wpAny _ _ (newExc (.type "StopIteration") []>>=_) _ _ _
 refine af ?_
 simp only[newExc,newTuple]
 refine af (gc ?_ (by size_fits))
 refine af (m:=firstArgMember _ _) (wpAny_of_eq (a:=Value.none) (by first|rfl|(simp only[firstArgMember];rfl)) ?_)
 refine gc ?_ (by size_fits)
 simp only[raiseNew]
 refine af (wpAny_handled ?_)
 rw[show A.in1.handled=none from p]
 refine af (aD (wpAny_throw ?_))
 refine af (wk (T:="StopIteration") (b:=true) ⟨_,cu _ rfl,rfl⟩ isSubtype_stop ?_)
 exact aD (x _ ((((SameBut.update ..).trans (SameBut.update ..)).extBut.push _).push _))
end
section
variable{prog:Program}{w:World}{A:Around}{E:aR}{s:Shared}{it a:Addr}{es:Array (Int×Value)}{ep:Nat}{t:SetTable}
theorem tH{Q:Bool->Shared->Prop}(h:Q (w.params.followText "set-order") s):wpAny (model prog w) A setsByText Q E s:=by
 unfold setsByText;exact af (wpAny_askSetting (aD h))
theorem iP.keep{h h':Heap}(x:iP h a es ep t)(k:∀o,h.get? a=some o->h'.get? a=some o):iP h' a es ep t:=by
 obtain⟨o,e,r⟩:=x;exact⟨o,k o e,r⟩
theorem fV.keep{h h':Heap}{first:Value}{i n:Nat}(x:fV h it a first i n ep)(k:∀o,h.get? it=some o->h'.get? it=some o):fV h' it a first i n ep:=by
 obtain⟨o,e,r⟩:=x;exact⟨o,k o e,r⟩
theorem nextT{slot i:Nat}{Q:Option (Value×Nat)->Shared->Prop}(d:w.params.followText "set-order"=true)(g:iP s.heap a es ep t)
  (h:Q (((pickOrder (w.params.setOrder a ep) es)[i]?).map λe=>(e.2,slot)) s):wpAny (model prog w) A (setNext a slot i ep) Q E s:=by
 obtain⟨os,b,c,f⟩:=g;unfold setNext;refine af (pR b c f ?_);dsimp only;refine af (tH ?_);rw[d,ao rfl];simp only[mh,jf,fT];refine af ?_;unfold setWalk;refine af (pR b c f ?_);dsimp only;refine af (tH ?_);rw[d,ao rfl];exact af (wpAny_askSetting (aD (aD h)))
theorem Uz(p:w.params.followText "set-order"=true)(r:A.handled=none)(l:a≠it):
  Walks prog w A it [it,a] [it] ((pickOrder (w.params.setOrder a ep) es).toList.map (·.2)).length (λi v=>((pickOrder (w.params.setOrder a ep) es).toList.map (·.2))[i]? =some v) (λi h=>fV h it a (.int 0 0) i es.size ep/\iP h a es ep t) where
 sub:=λb d=>by simp at d;simp[d]
 frame:=λ_ _ _ st q=>⟨st.1.keep λo e=>q it θ o e,st.2.keep λo e=>q a θ o e⟩
 item:=λi s Q E hi st f=>by
  have c:i<(pickOrder (w.params.setOrder a ep) es).size:=by simpa using hi
  have k:(pickOrder (w.params.setOrder a ep) es)[i]? =some ((pickOrder (w.params.setOrder a ep) es)[i]'c):=gf c
  refine Es (slot:=0) (x:=((pickOrder (w.params.setOrder a ep) es)[i]'c).2) (nx:=0) st.1 st.2 (λA' u y m=>nextT p st.2 (by rw[k];exact m)) λh' g j=> ?_
  refine f _ h' s.toks ?_ ⟨g,st.2.keep λo e=>(j.2 a l).trans e⟩ λb o d e=>(j.2 b λz=>d (by simp[z])).trans e
  rw[bO,p5,k];rfl
 done:=λs Q E st f=>by
  have k:(pickOrder (w.params.setOrder a ep) es)[((pickOrder (w.params.setOrder a ep) es).toList.map (·.2)).length]? =none:=θ
  exact CN (slot:=0) r st.1 st.2 (λA' u y m=>nextT p st.2 (by rw[k];exact m)) λh' n=>f h' s.toks λb o d e=>n b o (λz=>d (by simp[z])) e
 self:=λ_ _ _ _ st f=>yQ st.1 f
theorem Ux{g:Addr}{ps:List Nat}(D:A.handled=none)(m:a≠it)(q:g≠it)(u:ps.Perm (range es.size)):
  Walks prog w A it [it,a,g] [it] (ps.map λp=>((es[p]?).getD (0,.none)).2).length (λi v=>(ps.map λp=>((es[p]?).getD (0,.none)).2)[i]? =some v)
   (λi h=>fV h it a (.ref g) i es.size ep/\iP h a es ep t/\∃o n,h.get? g=some o/\o.data= .seq ((ps.map λ(i:Nat)=>rawInt i).toArray) n) where
 sub:=λb j=>by simp at j;simp[j]
 frame:=λ_ _ _ st x=>⟨st.1.keep λo e=>x it θ o e,st.2.1.keep λo e=>x a θ o e,by obtain⟨o,n,e,r⟩:=st.2.2;exact⟨o,n,x g θ o e,r⟩⟩
 item:=λi s Q E hi st k=>by
  have c:i<ps.length:=by simpa using hi
  have B:ps[i]? =some (ps[i]'c):=aW c
  have d:(ps[i]'c)<es.size:=mem_range.mp (u.mem_iff.mp (mC c))
  have C:es[ps[i]'c]? =some ((es[ps[i]'c]'d).1,(es[ps[i]'c]'d).2):=gf d
  refine OA st.1 st.2.1 st.2.2 B C λh' l f=> ?_
  refine k _ h' s.toks ?_ ⟨l,st.2.1.keep λo e=>(f.2 a m).trans e,by obtain⟨o,n,e,r⟩:=st.2.2;exact⟨o,n,(f.2 g q).trans e,r⟩⟩ λb o j e=>(f.2 b λz=>j (by simp[z])).trans e
  rw[bO,B]
  simp only[map_some,C,getD_some]
 done:=λs Q E st k=>by
  exact Kw D st.1 st.2.1 st.2.2 θ λh' y=>k h' s.toks λb o j e=>y b o (λz=>j (by simp[z])) e
 self:=λ_ _ _ _ st k=>yQ st.1 k
theorem Er{slot i:Nat}{Q:Option (Value×Nat)->Shared->Prop}(d:w.params.followText "set-order"=false)(hl:t.led=true)(hz:es.size<=1)(e:iP s.heap a es ep t)
  (h:Q (match es[SetTable.below t.place slot]?,t.place[SetTable.below t.place slot]? with|some (_,x),some j=>some (x,j+1)|_,_=>none) s):wpAny (model prog w) A (setNext a slot i ep) Q E s:=by
 obtain⟨os,b,c,f⟩:=e;unfold setNext;refine af (pR b c f ?_);dsimp only;refine af (tH ?_);rw[d,ak δ];show wpAny _ _ (if (!t.plain&&decide (es.size>1))=true then _ else _) _ _ _;rw[ak (by rw[fM (Nat.not_lt.mpr hz),Bool.and_false];decide)];show wpAny _ _ ((if (!t.led&& !es.isEmpty)=true then _ else _)>>=_) _ _ _;rw[hl,ak θ];exact af (aD (aD h))
theorem Bu(xs:Array Nat)(h:xs.size<=1):SetTable.below xs 0=0:=by
 unfold SetTable.below;have:xs.size=0\/xs.size=1:=ω
 rcases this with z|z
 .rw[z];rfl
 .rw[z]
  unfold SetTable.below.go;rw[ao δ];dsimp only;rw[ak ω];rfl
theorem below_1(xs:Array Nat)(j:Nat)(h:xs.size=1)(a:xs[0]?=some j):SetTable.below xs (j+1)=1:=by
 unfold SetTable.below;rw[h];unfold SetTable.below.go;rw[ao δ];dsimp only;have e:xs.getD ((0+1)/2) (j+1)=j:=by
  show xs.getD 0 (j+1)=j;rw[mz,a];rfl
 rw[e,ao ω];rfl
theorem Uy(y:w.params.followText "set-order"=false)(hl:t.led=true)(hz:es.size<=1)(n:t.fits es.size=true)(D:A.handled=none)(q:a≠it):
  Walks prog w A it [it,a] [it] (es.toList.map (·.2)).length (λi v=>(es.toList.map (·.2))[i]? =some v) (λi h=>fV h it a (.int (if i=0 then 0 else t.place.getD 0 0+1:Nat) 0) i es.size ep/\iP h a es ep t) where
 sub:=λb d=>by simp at d;simp[d]
 frame:=λ_ _ _ st B=>⟨st.1.keep λo e=>B it θ o e,st.2.keep λo e=>B a θ o e⟩
 item:=λi s Q E hi st f=>by
  have c:i<es.size:=by simpa using hi
  have h0:i=0:=ω
  subst h0
  have F:t.place.size=es.size:=by simp only[SetTable.fits,ia,j8] at n;exact n.1
  have C:es[0]? =some (es[0]'c):=gf c
  have g:t.place[0]? =some (t.place[0]' ω):=gf ω
  have r:t.place.getD 0 0=t.place[0]' ω:=by rw[mz,g];rfl
  refine Es (slot:=((if (0:Nat)=0 then 0 else t.place.getD 0 0+1:Nat):Int)) (x:=(es[0]'c).2) (nx:=(t.place[0]' ω)+1) st.1 st.2 (λA' G H p=> ?_) λh' j k=> ?_
  .refine Er y hl hz st.2 ?_
   simp only[jZ,kW]
   rw[Bu _ ω,C,g]
   exact p
  .refine f _ h' s.toks ?_ ⟨?_,st.2.keep λo e=>(k.2 a q).trans e⟩ λb o d e=>(k.2 b λz=>d (by simp[z])).trans e
   .rw[bO,p5,C];rfl
   .rw[ak ω,r];exact j
 done:=λs Q E st f=>by
  have F:t.place.size=es.size:=by simp only[SetTable.fits,ia,j8] at n;exact n.1
  have l:(es.toList.map (·.2)).length=es.size:=θ
  rw[l] at st
  refine CN D st.1 st.2 (λA' G H p=>Er y hl hz st.2 ?_) λh' u=>f h' s.toks λb o d e=>u b o (λz=>d (by simp[z])) e
  simp only[kW]
  by_cases m:es.size=0
  .rw[ao m,Bu _ ω,pX ω]
   exact p
  .have g:t.place[0]? =some (t.place[0]' ω):=gf ω
   have r:t.place.getD 0 0=t.place[0]' ω:=by rw[mz,g];rfl
   rw[ak m,r,below_1 _ _ ω g,pX ω]
   exact p
 self:=λ_ _ _ _ st f=>yQ st.1 f
end
section
variable{prog:Program}{w:World}{A:Around}{E:aR}{s:Shared}{it a:Addr}{es:Array (Int×Value)}{ep:Nat}{t:SetTable}
theorem PY{ps:List Nat}(a:ps.Perm (range es.size)):(ps.map λp=>((es[p]?).getD (0,.none)).2).Perm (es.toList.map (·.2)):=by
 refine(a.map _).trans ?_;have:((range es.size).map λp=>((es[p]?).getD (0,.none)).2)=es.toList.map (·.2):=by
  apply nG;intro i;simp only[bO,p5];by_cases hi:i<es.size
  .rw[List.getElem?_range hi,gf hi]
   simp[gf hi]
  .rw[nI (by simpa using hi),pX ω];rfl
 rw[this]
theorem M8{Q:aR}(B:ff prog w s.heap a es)
  (h:∀(h':Heap) (d:Drawn) (it:Addr) (zs:List Value) (fp:List Addr) (St:Nat->Heap->Prop),zs.Perm (es.toList.map (·.2))->(∀A':Around,A'.handled=none->Walks prog w A' it fp [it] zs.length (λi v=>zs[i]?=some v) St)->St 0 h'->
   it∈fp->(∀b∈fp,b=a\/s.heap.objs.size<=b)->(∀b∈fp,b<h'.objs.size)->s.heap.objs.size<=it->(∀b o,s.heap.get? b=some o->h'.get? b=some o)->Q (.ref it) {s with heap:=h',drawn:=d}):wpAny (model prog w) A (pyIter (.ref a)) Q E s:=by
 obtain⟨o,ep,t,f,hex,hd,C,D,F,g,k,x⟩:=B;have y:s.TypeIs (.ref a) "set":=⟨o,f,hex.1⟩;have alt:a<s.heap.objs.size:=aV f;refine wpAny_pyIter_slot y GZ (jb GZ y Kz ?_ (IT _));show wpAny _ _ (Builtin.Frozenset.sizeOf a>>=_) _ _ s;unfold Builtin.Frozenset.sizeOf;refine af (af (sC f hd g (aD ?_)));refine af ?_;unfold setDrawn;refine af (pR f hd g ?_);dsimp only;refine af (tH (aD ?_));show wpAny _ _ (if (!w.params.followText "set-order"&&(!t.plain&&decide (es.size>1)))=true then _ else _) _ _ _;by_cases hc:(!w.params.followText "set-order"&&(!t.plain&&decide (es.size>1)))=true
 .rw[ao hc]
  refine af (CC _ _ _ _ θ λys d j=>?_);unfold newTuple;have hsz:sizeOk (.seq ((ys.map λ(i:Nat)=>rawInt i).toArray) 0):=by
   show((ys.map λ(i:Nat)=>rawInt i).toArray).size<=sizeLine;rw[cA,aS,j.length_eq,length_range];exact wI F
  refine af (gc ?_ hsz);have l:=λb o (e:s.heap.get? b=some o)=>bA {cls:=.type "tuple",data:=.seq ((ys.map λ(i:Nat)=>rawInt i).toArray)} e;have m:=l a o f;refine af (wpAny_setEpoch_of m hd g ?_);refine af (gc (aD ⟨_,rfl,"set_iterator",_,⟨_,cu _ rfl,rfl⟩,slot_next.lookup,?_⟩) (by size_fits));have ne1:a≠(s.heap.push {cls:=.type "tuple",data:=.seq ((ys.map λ(i:Nat)=>rawInt i).toArray)}).objs.size:=by rw[eF];exact bI (gb alt)
  have ne2:s.heap.objs.size≠(s.heap.push {cls:=.type "tuple",data:=.seq ((ys.map λ(i:Nat)=>rawInt i).toArray)}).objs.size:=by rw[eF];exact bI (kO _)
  refine h _ d _ (ys.map λp=>((es[p]?).getD (0,.none)).2) [_,a,s.heap.objs.size] _ (PY j) (λA' n=>Ux (t:=t) (ep:=ep) n ne1 ne2 j) ⟨⟨_,cu _ rfl,rfl,rfl⟩,⟨o,bA _ m,hd,g⟩,⟨_,_,bA _ (cu _ rfl),rfl⟩⟩ θ (λb c=>by
   simp only[bz,gK,gM] at c;rcases c with z|z|z
   .exact .inr (by rw[z,eF];exact le_succ _)
   .exact .inl z
   .exact .inr (by rw[z];exact aG _)) (λb c=>?_) (by rw[eF];exact le_succ _) λb o e=>bA _ (l b o e)
  rw[eF,eF];simp only[bz,gK,gM] at c;rcases c with z|z|z
  .rw[z,eF];exact kO _
  .rw[z];exact gb (gb alt)
  .rw[z];exact gb (kO _)
 .rw[ak hc]
  refine af (aD ?_);refine af (wpAny_setEpoch_of f hd g ?_);refine af (gc (aD ⟨_,rfl,"set_iterator",_,⟨_,cu _ rfl,rfl⟩,slot_next.lookup,?_⟩) (by size_fits));have ne1:a≠s.heap.objs.size:=bI alt;have q:∀b∈[s.heap.objs.size,a],b<(s.heap.push {cls:=.type "set_iterator",data:=.fields [rawInt 0,rawInt 0,.ref a,rawInt (es.size:Nat),rawInt (ep:Nat)].toArray}).objs.size:=λb c=>by
   rw[eF];simp only[bz,gK,gM] at c;rcases c with z|z
   .rw[z];exact kO _
   .rw[z];exact gb alt
  have r:∀b∈[s.heap.objs.size,a],b=a\/s.heap.objs.size<=b:=λb c=>by
   simp only[bz,gK,gM] at c;rcases c with z|z
   .exact .inr (by rw[z];exact aG _)
   .exact .inl z
  cases u:w.params.followText "set-order" with
  |true=>
   exact h _ s.drawn _ ((pickOrder (w.params.setOrder a ep) es).toList.map (·.2)) [_,a] _ ((P9 _ es).map _) (λA' n=>Uz (t:=t) u n ne1) ⟨⟨_,cu _ rfl,rfl,rfl⟩,⟨o,bA _ f,hd,g⟩⟩ θ r q (aG _) λb o e=>bA _ e
  |false=>
   have hz:es.size<=1:=by
    rw[u] at hc;by_cases hz:es.size<=1
    .exact hz
    .rw[x ω,cW ω] at hc
     exact absurd rfl hc
   have hl:t.led=true:=by rw[k,u];rfl
   exact h _ s.drawn _ (es.toList.map (·.2)) [_,a] _ (.refl _) (λA' n=>Uy (t:=t) (ep:=ep) u hl hz g n ne1) ⟨⟨_,cu _ rfl,rfl,rfl⟩,⟨o,bA _ f,hd,g⟩⟩ θ r q (aG _) λb o e=>bA _ e
end
section
variable{prog:Program}{w:World}{A:Around}{E:aR}{s:Shared}{a:Addr}{es:Array (Int×Value)}
theorem Jp{Q:List Value->Shared->Prop}(J:A.handled=none)(B:ff prog w s.heap a es)
  (N:∀(h':Heap) (d:Drawn) (tk:Nat) (zs:List Value),zs.Perm (es.toList.map (·.2))->s.heap.objs.size<=h'.objs.size->(∀b o,s.heap.get? b=some o->h'.get? b=some o)->Q zs {s with heap:=h',drawn:=d,toks:=tk}):
  wpAny (model prog w) A (collect (.ref a)) Q E s:=by
 have alt:a<s.heap.objs.size:=by obtain⟨o,_,_,C,_⟩:=B;exact aV C
 have hz:es.size<scanBound:=by obtain⟨_,_,_,_,_,_,_,_,f,_⟩:=B;exact f
 unfold collect;refine af (wpAny_runValue (iJ PySem.F.entry_proto_collect ?_));rw[je PySem.F.plain_proto_collect _];show wpAny _ A.in1 (newList []>>=λl=>again (.builtin "list.__iadd__" ⟨[l,.ref a],[]⟩)) _ _ s;refine af (gc ?_);refine aD ⟨jz we _,iJ PySem.F.entry_list_iadd ?_⟩;rw[je we _];have i:ff prog w (s.heap.push {cls:=.type "list",data:=.seq ([]:List Value).toArray}) a es:=B.keeps λo e=>bA _ e;have v:∀{s':Shared},ff prog w s'.heap a es->s'.TypeIs (.ref a) "set":=λ {s'} x=>by obtain⟨o,_,_,C,hex,_⟩:=x;exact⟨o,C,hex.1⟩
 show wpAny _ A.in1 (Builtin.List.listExtendWith (.ref s.heap.objs.size) (.ref a) (.ref s.heap.objs.size)) _ _ _;unfold Builtin.List.listExtendWith;refine af (lZ (v (s':={s with heap:=s.heap.push {cls:=.type "list",data:=.seq ([]:List Value).toArray}}) i) ?_);have h1:Builtin.List.listSameRef (.ref s.heap.objs.size) (.ref a)=false:=by simp[Builtin.List.listSameRef,jy alt]
 have h2:(Value.type "set" ==Value.type "list")=false:=δ
 have O:(Value.type "set" ==Value.type "tuple")=false:=δ
 simp only[h1,h2,O,Bool.or_false,jf,fT];refine af (M8 (s:={s with heap:=s.heap.push {cls:=.type "list",data:=.seq ([]:List Value).toArray}}) i λh2 d it zs fp St m W D hit G P n k2=>?_);have k:ff prog w h2 a es:=i.keeps λo e=>k2 _ _ e;refine af (gz ?_);unfold Builtin.List.listLengthHint;refine af (wpAny_specialOf (v (s':={s with heap:=h2,drawn:=d}) k) PySem.F.slot_set_len.lookup ?_);dsimp only;have g:splitId "set.__len__"=some ("set","__len__"):=η
 rw[g];dsimp only;refine af (wk (v (s':={s with heap:=h2,drawn:=d}) k) sub_set_self ?_);simp only[Bool.not_true,jf,fT];rw[ao η];refine af (lZ (v (s':={s with heap:=h2,drawn:=d}) k) ?_);refine aD ?_;rw[ao η];refine af (j5 ?_);have R:(s.heap.push {cls:=.type "list",data:=.seq ([]:List Value).toArray}).get? s.heap.objs.size=some {cls:=.type "list",data:=.seq ([]:List Value).toArray}:=cu _ rfl;have K:=k2 _ _ R;have p:s.heap.objs.size∉fp:=λz=>by
  rcases G _ z with e|e
  .exact absurd alt (by rw[<-e];exact fy _)
  .rw[eF] at e
   exact absurd e (Nat.not_succ_le_self _)
 have q:s.heap.objs.size<it:=by rw[eF] at n;exact n
 refine af ?_;show wpAny _ A.in1 (updateSeq s.heap.objs.size (·.push .none)>>=λ_=>updateSeq s.heap.objs.size (·.pop)) _ _ _;refine af (sE K rfl ?_);have L2:=j9 (Obj.mapSeq (·.push Value.none)) K rfl;refine sE L2 rfl ?_;have S:=j9 (Obj.mapSeq (·.pop)) L2 rfl;have r:∀b o,b≠s.heap.objs.size->h2.get? b=some o->((h2.update s.heap.objs.size (Obj.mapSeq (·.push Value.none))).update s.heap.objs.size (Obj.mapSeq (·.pop))).get? b=some o:=
  λb o f e=>(pY _ _ (Ne.symm f)).trans ((pY _ _ (Ne.symm f)).trans e)
 have T:=(W A.in1 J).toS;have U:zs.length<=sizeLine:=by rw[m.length_eq,aS,gw];exact wI hz
 refine aD ⟨jz sd _,codeAny_extend_loopS T U _ p _ zs.length 0 _ _ _ rfl (bV _) ((W A.in1 J).frame 0 _ _ D λb f o e=>r b o (λz=>p (z▸f)) e) S (ItemsOf.nil _) λs' c c' y t h=>?_⟩;show wpAny _ A (load s.heap.objs.size>>=_) _ _ s';refine af (wpAny_load t ?_);have u:c.toList=zs:=by
  apply nG;intro j;rw[p5];by_cases L:j<c.size
  .have M:c[j]?=some (c[j]'L):=gf L
   rw[M];exact(h.2 j _ M).symm
  .rw[pX ω,nI (by rw[<-h.1];omega)]
 obtain⟨h',g',d',H,I⟩:=s';have V:g'=s.gens:=y.gens;have X:d'=d:=y.drawn;have Y:I=s.os:=y.os;subst V;subst X;subst Y;refine aD ?_;show Q c.toList _;rw[u];have kp:∀b o,s.heap.get? b=some o->h'.get? b=some o:=λb o e=>by
  have f:b<s.heap.objs.size:=aV e;refine y.heap b o ?_ (r b o (bI f) (k2 _ _ (bA _ e)));simp only[bz,gK,gM,not_or];exact⟨bI f,bI (lt_trans f q)⟩
 exact N h' d' H zs m (jx (aV t)) kp
theorem S8{l:List (Int×Value)}(h:ElemsOf (PySem.strKind prog w) l):∀{zs:List Value},zs.Perm (l.map (·.2))->StrsAre zs (zs.map strOf):=λ {zs} a=>by
 have:∀v∈zs,∃t,v=Value.str (strOf v) t:=λv b=>by
  obtain⟨e,c,rfl⟩:=aN.mp (a.mem_iff.mp b);exact yt h c
 clear a;induction zs with
 |nil=>exact .nil
 |cons v r d=>
  obtain⟨t,e⟩:=this v θ;have r':=d λf h'=>this f (by simp[h']);rw[ck];rw[e];exact .cons _ t r'
theorem SG{Q:aR}(v:A.handled=none)(r:ff prog w s.heap a es)(k:es.size<64)
  (h:∀(h':Heap) (d:Drawn) (tk:Nat) (l:Addr) (e:Nat) (out:List Value) (ss:List Str),s.heap.objs.size<=l->h'.get? l=some (seqObj "list" out.toArray e)->StrsAre out ss->ss.Perm (names es)->sortedS ss=true->
   (∀b o,s.heap.get? b=some o->h'.get? b=some o)->Q (.ref l) {s with heap:=h',drawn:=d,toks:=tk}):
  wpAny (model prog w) A (call (.builtin "sorted") [.ref a]) Q E s:=by
 have c:ElemsOf (PySem.strKind prog w) es.toList:=by obtain⟨_,_,_,_,_,_,c,_⟩:=r;exact c
 refine Ag kind_sorted plain_sorted entry_sorted (args_sorted1 _) ?_;unfold Builtin.«sorted»;refine af (m:=checkCount "sorted" 1 1 _) (aD ?_);refine af (Jp v r λh1 d tk zs hz hsz k1=>?_);have f:StrsAre zs (zs.map strOf):=S8 c hz;have i:zs.length<64:=by rw[hz.length_eq,aS,gw];exact k
 refine af (wo ?_);have g:(h1.push (seqObj "list" zs.toArray 0)).get? h1.objs.size=some (seqObj "list" zs.toArray 0):=cu _ rfl;show wpAny _ _ _ _ _ {s with heap:=h1.push (seqObj "list" zs.toArray 0),drawn:=d,toks:=tk};refine af (gz (jb slot_list_sort ⟨_,g,rfl⟩ entry_list_sort (list_sort_treeK strKind_oneLt g f.keysOf (λt u rest e=>keyKind_strs (by rw[<-e];exact f)) i λj a1 a2=>⟨_,rfl,?_⟩) (args_list_sort _)));obtain⟨n,x,y,z⟩:=sorted_out_str f a1 a2;obtain⟨e,B⟩:=sortedHeap_at (out:=(arrOf j).map (·.2)) g;refine aD ⟨_,rfl,h _ d tk h1.objs.size e ((arrOf j).map (·.2)).toList n hsz (by rw[toArray_toList];exact B) x (y.trans ?_) z λb o q=>?_⟩
 .have:=hz.map strOf
  rw[bY] at this;exact this
 .have p:=k1 b o q
  rw[sortedHeap_old (bI (aV p)) (by rw[size_push'];exact gb (aV p))];exact bA _ p
end
end SS
namespace L2
section
variable{X:Cx}
theorem S6{xs:List Str}{its:List Value}(r:Vals (xs.map V.str) its):∀(i:Nat) (v:Value),its.toArray[i]?=some v->∃t:Tok,v=Value.str (xs.getD i ⟨#[]⟩) t:=λi v h=>by
 have h':its[i]?=some v:=by simpa using h
 have hl:=r.length;have hi:i<its.length:=(bW.mp h').1;have hx:(xs.map V.str)[i]?=some (V.str (xs.getD i ⟨#[]⟩)):=by
  rw[bO,gh];have:i<xs.length:=by rw[<-hl,aS] at hi;exact hi
  rw[aW this];rfl
 obtain⟨u,a,b⟩:=r.get hx;rw[h'] at a;cases a;exact b
def strLt(a b:Str):Prop:=a.cps.toList<b.cps.toList
theorem FA:∀(p:Str) (l:List Str),risingS p l=true->(p::l).Pairwise (λa b=>¬b.cps.toList<a.cps.toList)
 |p,[],_=>List.pairwise_singleton _ _
 |p,x::r,h=>by
  simp only[risingS,ia,r_,ltCps_eq,Au] at h;have c:=FA x r h.2;refine g_.mpr ⟨λy hy=>?_,c⟩;rcases bz.mp hy with e|e
  .rw[e];exact h.1
  .have:=(g_.mp c).1 y e
   exact λz=>(not_lt.mp this)|>λq=>absurd z (not_lt.mpr (List.le_trans (not_lt.mp h.1) q))
theorem G2{l:List Str}(h:sortedS l=true):l.Pairwise (λa b=>¬b.cps.toList<a.cps.toList):=by
 cases l with
 |nil=>exact .nil
 |cons x r=>exact FA x r h
theorem Hf{l:List Str}(h:l.Pairwise (λa b=>¬b.cps.toList<a.cps.toList))(nd:l.Nodup):l.Pairwise strLt:=by
 refine(h.and nd).imp λ {a b} q=>?_;by_cases z:a.cps.toList<b.cps.toList
 .exact z
 .have e:a.cps.toList=b.cps.toList:=le_antisymm (not_lt.mp q.1) (not_lt.mp z)
  refine absurd ?_ q.2;obtain⟨⟨c⟩⟩:=a;obtain⟨⟨d⟩⟩:=b;have f:c=d:=e;rw[f]
def TU(K:Frag)(ta:TA):TE:=λσ H Q=>ta σ H λvs H1=>∃(a:Addr) (xs:List Str),vs=[.ref a]/\aY K H1 a (xs.map V.str)/\xs.length<64/\
 ∀(l:Addr) (ys:List Str),H1 l=none->ys.Pairwise strLt->(∀x,x∈ys↔x∈xs)->Q (.ref l) (upd H1 l (.lst (ys.map V.str)))
theorem Ae:∀{out:List Value} {ss:List Str},StrsAre out ss->Vals (ss.map V.str) out
 |_,_,.nil=>.nil
 |_,_,.cons x t h=>.cons ⟨t,rfl⟩ (Ae h)
theorem PN{e:Expr}{ta:TA}{U p2 w f:Pos}(F:X.mg "sorted"=none)(G:X.mg "set"=none)(hc:X.calm=true)(W:PA X [e] ta)(J:Gl X "sorted":=by rfl)(L:Gl X "set":=by rfl)
  (Y:starEach [e] X.env=[(false,eval e X.env)]:=by rfl)(hz:starEach [.Call (.Name "set" p2) [e] [] f] X.env=[(false,eval (.Call (.Name "set" p2) [e] [] f) X.env)]:=by rfl):
  PE X (.Call (.Name "sorted" U) [.Call (.Name "set" p2) [e] [] f] [] w) (TU X.K ta):=by
 intro pins s σ H Q I h;refine nj (jN I J F (show bootBuiltins "sorted"=some (.builtin "sorted") by with_unfolding_all rfl) ?_);refine PyProof.Rows.callWith_builtin1 ?_ hz rfl;rw[hz];refine Calls.spliced_cons (nj (jN I L G (show bootBuiltins "set"=some (.type "set") by with_unfolding_all rfl) (nc (aJ (W f pins s σ H _ I h) λus y ⟨vs,H1,m,r1,Z⟩=>?_) Y rfl)));obtain⟨a,xs,e,hq,h64,q⟩:=Z;subst e;obtain⟨u,rfl,ru⟩:=vals1 r1;cases ru;obtain⟨its,R,pl,U1⟩:=m.list hq;have hl:=R.length;have hsz:its.toArray.size=xs.length:=by rw[cA,<-hl,aS]
 refine SS.Jf (val:=λi=>xs.getD i ⟨#[]⟩) (m.ok.hd hc) pl.isList (λi v hv=>S6 R i v hv) (by rw[hsz,show scanBound=4096 from rfl];omega) λh2 tk es M S A k2=>?_;have k:es.size<64:=ω
 have g:∀b o,y.heap.get? b=some o->h2.get? b=some o:=λb o e=>k2 b o (aV e) e;refine Calls.spliced_nil ?_;refine SS.SG (s:={y with heap:=h2,toks:=tk}) (m.ok.hd hc) M k λT d B l ep out ss p N O c r k3=>?_;have alt:y.heap.objs.size<h2.objs.size:=by obtain⟨o,_,_,ho,_⟩:=M;exact aV ho
 have E:H1 l=none:=m.hok.fresh (cV (jx alt) p);have nd:ss.Nodup:=c.nodup_iff.mpr (by obtain⟨_,_,_,_,_,_,_,P,_⟩:=M;exact P);have t:∀x,x∈ss↔x∈xs:=λx=>by
  rw[c.mem_iff,A x,hsz];constructor
  .rintro ⟨j,C,rfl⟩
   rw[gh,aW C];exact mC C
  .intro hx
   obtain⟨j,C,e⟩:=j_ hx;exact⟨j,C,by rw[gh,aW C];exact e⟩
 have D:ss.length=es.size:=by rw[c.length_eq,aS,gw]
 have I2:Inv X pins σ (upd H1 l (.lst (ss.map V.str))) {y with heap:=T,drawn:=d,toks:=B}:=by
  refine m.call (ch:=[]) (g':=y.gens) (d':=d) (t':=B) (h':=T) (H':=upd H1 l (.lst (ss.map V.str))) ⟨λb o q _ _ _=>k3 b o (g b o q),λb o q _ _ _=>⟨o.slots,k3 b o (g b o q)⟩,λb o q n _=>?_,λb o q _=>⟨o,k3 b o (g b o q)⟩,λb xs q=>?_,λb o u q=>?_,λb ps q=>⟨#[],?_⟩⟩ ?_ m.bare λb z=>absurd z θ
  .rw[a_ (bI (cK (aV q) (cV (jx alt) p)))];exact n
  .rw[a_ (c_ q E)];exact q
  .rw[a_ (c_ q E)];exact q
  .rw[a_ (c_ q E),q];simp
  .exact m.hok.laid (λb u q=>k3 b u (g b u q)) (cV (jx alt) p) ⟨by rw[aS,D];exact jx (cK k δ),out,ep,Ae O,N⟩
 exact⟨.ref l,_,I2,rfl,q l ss E (Hf (G2 r) nd) t⟩
end
theorem zz(ns:List Int):∀k,k<=ns.length->preSum (λi=>ns.getD i 0) k=(ns.take k).sum
 |0,_=>by simp[preSum]
 |k+1,h=>by
  have e:preSum (λi=>ns.getD i 0) (k+1)=preSum (λi=>ns.getD i 0) k+ns.getD k 0:=by
   first|rfl|(unfold preSum;simp[range_succ])
  rw[e,zz ns k ω,List.take_add_one,aW ω,List.sum_append,gh,aW ω];simp
theorem Ho:∀(ns:List Int) (b:Int),(∀n∈ns,0<=n/\n<=b)->0<=ns.sum/\ns.sum<=b*ns.length
 |[],b,_=>by simp
 |x::r,b,h=>by
  obtain⟨h1,h2⟩:=h x θ;obtain⟨c,d⟩:=Ho r b λn a=>h n (by simp[a]);rw[List.sum_cons,gv];refine⟨ω,?_⟩;have:b*((r.length+1:Nat):Int)=b*(r.length:Int)+b:=by rw[Int.natCast_add,Int.mul_add];simp
  rw[this];omega
section
variable{X:Cx}
theorem BO(hc:X.calm=true):e_ X (.builtin "sum") (λxs H Q=>∃(p:Addr) (ns:List Int),xs=[.ref p]/\aY X.K H p (ns.map V.int)/\(∀n∈ns,0<=n/\n<=2 ^ 40)/\ns.length<=1000/\Q (.int ns.sum) H):=by
 intro pins s σ H xs E Q I r h;obtain⟨p,ns,rfl,y,o,hl,q⟩:=h;obtain⟨u,rfl,l⟩:=vals1 r;cases l;obtain⟨vs,t,pl,hz⟩:=I.list y;have a:vs.length=ns.length:=by rw[<-t.length,aS]
 have c:=pl.isList;have d:p<s.heap.objs.size:=by obtain⟨_,e,_⟩:=c;exact aV e
 have small:∀k,k<=ns.length->InLong (preSum (λi=>ns.getD i 0) k):=λk m=>by
  rw[zz ns k m];obtain⟨h1,h2⟩:=Ho (ns.take k) (2 ^ 40) λn B=>o n (rZ B);have C:((ns.take k).length:Int)<=1000:=by rw[lW];omega
  have F:(2 ^ 40:Int)*((ns.take k).length:Int)<=2 ^ 40*1000:=ny C δ;unfold InLong;first|(constructor<;>omega)|omega
 refine call_sum_walk (su c ?_);refine⟨s.heap.objs.size,[s.heap.objs.size,p],[s.heap.objs.size],vs.toArray.size,_,_,λi=>ns.getD i 0,rfl,Walks.list (A:=X.A.in1) (I.ok.hd hc) _ p (bI d) vs.toArray,
  ⟨⟨_,cu _ rfl,rfl,rfl⟩,c.push _⟩,λb f=>?_,λi v D=>?_,λj w=>⟨?_,small (j+1) (by simp at w;omega)⟩,λh' tk t' m=>?_⟩
 .rw[eF]
  simp only[bz,gK,gM] at f;rcases f with z|z
  .rw[z];exact kO _
  .rw[z];exact gb d
 .have h':vs[i]?=some v:=by simpa using D
  have hi:i<ns.length:=by rw[<-a];exact(bW.mp h').1
  have hx:(ns.map V.int)[i]?=some (V.int (ns.getD i 0)):=by
   rw[bO,gh,aW hi];rfl
  obtain⟨u,x,l⟩:=t.get hx;rw[h'] at x;cases x;exact l
 .have g:j<ns.length:=by simp at w;omega
  obtain⟨h1,h2⟩:=o (ns.getD j 0) (by rw[gh,aW g];exact mC g);show InLong (ns.getD j 0);unfold InLong;first|(constructor<;>omega)|omega
 .have e:preSum (λi=>ns.getD i 0) vs.toArray.size=ns.sum:=by
   rw[cA,a,zz ns _ (aG _),take_length]
  rw[e];exact⟨.int _,H,I.kept (h':=h') (t':=tk) (LSm.kept_iter m),⟨_,rfl⟩,q⟩
end
section
variable{X:Cx}
theorem empty_app(x:Str):Str.empty++x=x:=by
 obtain⟨c⟩:=x;show Str.mk (#[]++c)=⟨c⟩;rw[Array.empty_append]
def Tn(x:Str)(te:TE):TE:=λσ H Q=>te σ H λv H1=>∃y,v=.str y/\x.length+y.length<=sizeLine/\Q (.str (x++y)) H1
theorem PC{e:Expr}{te:TE}{x:Str}{k:Nat}{b p2 pos:Pos}(d:PE X e te)(hx:x.length<=sizeLine:=by decide):PE X (.JoinedStr [.Constant (.str x) k b,.FormattedValue e (-1) none p2] pos) (Tn x te):=by
 intro pins s σ H Q I h;refine wpAny_JoinedStr ?_;show wpAny _ _ (eval (.Constant (.str x) k b) X.env) _ _ _;refine Calls.Constant_str ⟨x,_,rfl,?_,?_⟩
 .show(Str.empty++x).length<=sizeLine
  rw[empty_app];exact hx
 show wpAny _ _ (eval (.FormattedValue e (-1) none p2) X.env) _ _ _;refine wpAny_FormattedValue_plain (aJ (d pins _ σ H _ (I.tok _) h) λu i ⟨v,H1,c,f,y,g,hl,q⟩=>?_);subst g;obtain⟨t,rfl⟩:=f;have a:Str.empty++x=x:=empty_app x;have hz:(x++y).length<=sizeLine:=by
  have:(x++y).length=x.length+y.length:=by show(x.cps++y.cps).size=x.cps.size+y.cps.size;exact sq
  rw[this];exact hl
 refine wpAny_formatField_str ?_ ?_ ω
 .refine⟨y,t,rfl,?_,?_⟩
  .rw[a];exact hz
  .rw[a]
   exact⟨hz,.str (x++y),H1,c.tok _,⟨_,rfl⟩,q⟩
 .refine⟨y,_,rfl,?_,?_⟩
  .rw[a];exact hz
  .rw[a]
   exact⟨hz,.str (x++y),H1,(c.tok _).tok _,⟨_,rfl⟩,q⟩
end
section
variable{prog:Program}{w:World}{A:Around}{E:aR}{s:Shared}
theorem tuple_addW0(l b:Addr)(items a:Array Value)(n n2:Nat)(dd c:Option Addr)(f e:Array (Option Value))(i:items.isEmpty=true):
  Meets (Builtin.«tuple.__add__» ⟨[.ref l,.ref b],[]⟩) (λ_ R s=>s.heap.get? l=some {cls:=.type "tuple",dict:=dd,data:=.seq items n,slots:=f}/\s.heap.get? b=some {cls:=.type "tuple",dict:=c,data:=.seq a n2,slots:=e}/\R (.ok (.ret (Value.ref b))) {s with heap:=s.heap,toks:=s.toks}):=
 .of_wp λprog w A R s h=>by obtain⟨k,g,d,tk,os⟩:=s;obtain⟨hl,j,h⟩:=h;have f1:=AutoSeq1.idx_int;have f2:=AutoSeq1.sub_tuple_tuple;have m:=AutoSeq1.sub_list_list;have f4:=AutoSeq1.sub_tuple_list;have o:=AutoSeq1.sub_list_tuple;wp_walk using wm hl,wm j;exact⟨_,rfl,h⟩
end
section
variable{X:Cx}
noncomputable def QK(K:Frag):R2:=λx y H Q=>∃a b ys,x=.ref a/\y=.ref b/\bQ K H a []/\bQ K H b ys/\Q (.ref b) H
theorem OY:bC X (binaryOp .Add) (QK X.K):=by
 intro pins s σ H x y v u Q I k l h;obtain⟨a,b,ys,rfl,rfl,m,o,q⟩:=h;cases k;cases l;obtain⟨its,r1,p,_⟩:=I.tuple m;obtain⟨c,t,p2,_⟩:=I.tuple o;cases r1;obtain⟨⟨cls,dd,data,r⟩,i,hc,n,hd⟩:=id p;obtain⟨⟨j,f,data2,g⟩,d,e,n2,hd2⟩:=id p2;simp only at hc hd e hd2;subst hc hd e hd2;exact concat_meets ⟨_,i,rfl⟩ ⟨_,d,rfl⟩ noFill_tuple_add seq_tuple_add slot_tuple_add entry_tuple_add (args_tuple_add_2 _ _)
  (tuple_addW0 a b #[] c.toArray n n2 dd f r g rfl) ⟨i,d,⟨.ref b,H,I,rfl,q⟩⟩
noncomputable def E8(K:Frag):R2:=λx y H Q=>∃a b xs ys,x=.ref a/\y=.ref b/\bQ K H a xs/\bQ K H b ys/\xs.length+ys.length<=sizeLine/\
 (xs=[]->Q (.ref b) H)/\(xs≠[]->ys=[]->Q (.ref a) H)/\(xs≠[]->ys≠[]->∀p,H p=none->Q (.ref p) (upd H p (.tup (xs++ys))))
theorem OW:bC X (binaryOp .Add) (E8 X.K):=by
 intro pins s σ H x y v u Q I c d h;obtain⟨a,b,xs,ys,rfl,rfl,e,f,hz,g,i,j⟩:=h;by_cases hx:xs=[]
 .subst hx
  exact OY pins s σ H _ _ v u Q I c d ⟨a,b,ys,rfl,rfl,e,f,g rfl⟩
 .exact OX pins s σ H _ _ v u Q I c d ⟨a,b,xs,ys,rfl,rfl,e,f,hx,hz,i hx,j hx⟩
end
end L2
namespace DP
theorem Oi:typeLookup (.type "list") "keys"=pure none:=by rw[ni,nF];kernel_rfl
theorem Oj:typeLookup (.type "tuple") "keys"=pure none:=by rw[ni,nF];kernel_rfl
section
variable{prog:Program}{w:World}{A:Around}{E:aR}{s:Shared}
theorem OF{a:Addr}{xs:Array Value}{k:Nat}{Q:Option Value->Shared->Prop}(hx:s.heap.get? a=some {cls:=.type "list",data:=.seq xs k})(j:A.handled=none)
  (h:∀h' tk,(∀b o,s.heap.get? b=some o->h'.get? b=some o)->Q none {s with heap:=h',toks:=tk}):wpAny (model prog w) A (getAttr? (.ref a) "keys") Q E s:=by
 obtain⟨l,g,d,tk,os⟩:=s;have i:∀c,(⟨l,g,d,c,os⟩:Shared).TypeIs (.ref a) "list":=λ_=>⟨_,hx,rfl⟩;have f1:=sub_AttributeError;have m:=Ak.lookup;have f4:=Ak.bind (.ref a);have n:=am_list_getattr_none;unfold getAttr? getAttrBy? getAttrBy;repeat (any_goals (first|assumption|exact i _|((with_reducible show wpAny _ _ (call (Value.builtin "list.__getattribute__") _ _) _ _ _);refine call_meets Ak (i _) am_entry_list_getattribute (PySem.F.args_list_getattribute_2 _ _) (meets_getattribute_miss_list a xs k #[] "keys" _ Oi δ δ) ⟨hx,j,λh' c e f=>?_⟩)|wp_step))
 obtain⟨t',p,q⟩:=f.there;show wpAny _ _ (getattributeRaised _ _ _ _ _ _ _) _ _ _;unfold getattributeRaised;repeat (any_goals (first|assumption|wp_step))
 exact h _ _ f.keeps
theorem OG{a:Addr}{xs:Array Value}{k:Nat}{Q:Option Value->Shared->Prop}(hx:s.heap.get? a=some {cls:=.type "tuple",data:=.seq xs k})(j:A.handled=none)
  (h:∀h' tk,(∀b o,s.heap.get? b=some o->h'.get? b=some o)->Q none {s with heap:=h',toks:=tk}):wpAny (model prog w) A (getAttr? (.ref a) "keys") Q E s:=by
 obtain⟨l,g,d,tk,os⟩:=s;have i:∀c,(⟨l,g,d,c,os⟩:Shared).TypeIs (.ref a) "tuple":=λ_=>⟨_,hx,rfl⟩;have f1:=sub_AttributeError;have m:=Aq.lookup;have f4:=Aq.bind (.ref a);have n:=am_tuple_getattr_none;unfold getAttr? getAttrBy? getAttrBy;repeat (any_goals (first|assumption|exact i _|((with_reducible show wpAny _ _ (call (Value.builtin "tuple.__getattribute__") _ _) _ _ _);refine call_meets Aq (i _) am_entry_tuple_getattribute (PySem.F.args_tuple_getattribute_2 _ _) (meets_getattribute_miss_tuple a xs k #[] "keys" _ Oj δ δ) ⟨hx,j,λh' c e f=>?_⟩)|wp_step))
 obtain⟨t',p,q⟩:=f.there;show wpAny _ _ (getattributeRaised _ _ _ _ _ _ _) _ _ _;unfold getattributeRaised;repeat (any_goals (first|assumption|wp_step))
 exact h _ _ f.keeps
end
theorem CS:entryFor table "dict.update.loop"=some Builtin.«dict.update.loop»:=entryFor_of_tree (by kernel_rfl)
theorem rE:plainId "dict.update.loop"=true:=η
section
variable{prog:Program}{w:World}{A:Around}{R:Result->Shared->Prop}{I:Addr}{fp wr:List Addr}{n:Nat}{P:Nat->Value->Prop}{St:Nat->Heap->Prop}
theorem loop(W:Walks prog w A.in1 I fp wr n P St)(D:Addr)(p:D∉fp)(h₀:Heap)(key:Nat->L2.Key)(C q:Nat->Value)
  (u:∀i v,i<n->P i v->∃t,v=.ref t/\t≠D/\t∉wr/\IsTup h₀ t #[C i,q i])(x:∀i,i<n->(L2.c5 prog w).is (key i) (C i)=true)(hn:n<=sizeLine):
  ∀(k i:Nat) (s:Shared) (kvs:List (L2.Key×Value)),n - i=k->i<=n->St i s.heap->s.heap.DictOf (L2.c5 prog w) D kvs->kvs.length<=i->(∀b o,b≠D->b∉wr->h₀.get? b=some o->s.heap.get? b=some o)->
   (∀h' tk,h'.DictOf (L2.c5 prog w) D (((range n).drop i).foldl (λacc j=>stored acc (key j) (q j)) kvs)->(∀b o,b≠D->b∉wr->s.heap.get? b=some o->h'.get? b=some o)->R (.ok (.ret .none)) {s with heap:=h',toks:=tk})->
   codeAny (model prog w) A (.builtin "dict.update.loop" ⟨[.ref D,.ref I,rawInt (i:Nat),.none],[]⟩) R s:=by
 have y:D∉wr:=λh=>p (W.sub _ h);intro k;induction k with
 |zero=>
  intro i s kvs Y hi g F hl G H;have J:i=n:=ω
  subst J;refine iJ CS ?_;rw[je rE _];show wpAny _ A.in1 (pyNext (.ref I)>>=_) _ _ s;refine af (W.done s _ _ g λh' tk l=>?_);show wpAny _ A.in1 (Builtin.Dict.addKeywords D []>>=_) _ _ _;refine af (aD (aD (H h' tk ?_ λb o d a e=>l b o a e)));rw[sJ θ,List.foldl_nil];obtain⟨o,es,ep,K,r⟩:=F;exact⟨o,es,ep,l D o y K,r⟩
 |succ k Z=>
  intro i s kvs Y hi g F hl G H;have c:i<n:=ω
  refine iJ CS ?_;rw[je rE _];show wpAny _ A.in1 (pyNext (.ref I)>>=_) _ _ s;refine af (W.item i s _ _ c g λv h1 tk hP B l=>?_);obtain⟨t,rfl,tD,tw,ht⟩:=u i v c hP;obtain⟨E,L,M,nt,N⟩:=ht;have f:h1.get? t=some E:=l t E tw (G t E tD tw L);refine af (gz ?_);refine af (wpAny_tryCatch ?_);unfold Builtin.Dict.pairItems;refine af (lZ (T:="tuple") ⟨E,f,M⟩ ?_);rw[ao δ];refine af (sA f N (aD ?_));show wpAny _ _ (holding [C i,q i] (dictSet D (C i) (q i))) _ _ _;have O:h1.DictOf (L2.c5 prog w) D kvs:=by
   obtain⟨o,es,ep,K,r⟩:=F;exact⟨o,es,ep,l D o y K,r⟩
  refine gz (wpAny_dictSet_pairs (s:={s with heap:=h1,toks:=tk}) (x i c) O (λh2 Q m=>?_) ω);have S:St (i+1) h2:=W.frame _ _ _ B λb d o e=>(m.2 b λz=>p (z▸d)).trans e;have e1:((i:Nat):Int)+1=((i+1:Nat):Int):=ω
  refine aD ⟨jz rE _,?_⟩;show codeAny _ _ (.builtin "dict.update.loop" ⟨[.ref D,.ref I,rawInt (((i:Nat):Int)+1),.none],[]⟩) _ _;rw[e1];refine Z (i+1) _ _ ω c S Q ?_ (λb o d a e=>(m.2 b d).trans (l b o a (G b o d a e))) λh' U V X=>?_
  .have:=stored_length_le kvs (key i) (q i)
   omega
  .refine H h' U ?_ λb o d a e=>X b o d a ((m.2 b d).trans (l b o a e))
   have e2:(range n).drop i=i::(range n).drop (i+1):=by
    rw[mq (by simpa using c)];simp
   rw[e2,gA];exact V
end
end DP
namespace L2
noncomputable def putAll(ps:List (Key×V)):List (Key×V):=ps.foldl (λacc p=>putK acc p.1 p.2) []
theorem QF(ps acc:List (Key×V)):(ps.foldl (λacc p=>putK acc p.1 p.2) acc).length<=acc.length+ps.length:=by
 induction ps generalizing acc with
 |nil=>simp
 |cons p r a=>
  rw[gA,gv];refine cV (a _) ?_;have:(putK acc p.1 p.2).length<=acc.length+1:=by
   unfold putK;split
   .rw[aS];omega
   .rw[dc];simp
  omega
theorem NK{ps:List (Key×V)}{n:Nat}{key:Nat->Key}{a:Nat->Value}(b:n=ps.length)(h:∀i p,ps[i]?=some p->key i=p.1/\RelV p.2 (a i)):KV (putAll ps) ((range n).foldl (λacc j=>stored acc (key j) (a j)) []):=by
 subst b;unfold putAll;have gen:∀(m:Nat),m<=ps.length->KV ((ps.take m).foldl (λacc p=>putK acc p.1 p.2) []) ((range m).foldl (λacc j=>stored acc (key j) (a j)) []):=λm=>by
  induction m with
  |zero=>intro _;simp;exact .nil
  |succ m c=>
   intro d;have e:ps[m]?=some (ps[m]' ω):=aW ω;obtain⟨h1,h2⟩:=h m _ e;rw[List.take_add_one,e,range_succ,mw,mw];simp only[Option.toList_some,gA,List.foldl_nil];rw[h1];exact KV.put (c ω) _ h2
 have:=gen ps.length (aG _);rwa [take_length] at this
section
variable{X:Cx}
def Pairs(K:Frag)(H:Hp)(ts:List V)(ps:List (Key×V)):Prop:=ts.length=ps.length/\∀(i:Nat) (x:V) (p:Key×V),ts[i]?=some x->ps[i]?=some p->∃t,x=.ref t/\bQ K H t [kV p.1,p.2]
theorem ql(hc:X.calm=true):e_ X (.type "dict") (λxs H Q=>∃(p:Addr) (D:List V) (ps:List (Key×V)),xs=[.ref p]/\(H p=some (.lst D)\/H p=some (.tup D))/\Pairs X.K H D ps/\ps.length<=1000/\∀d,H d=none->Q (.ref d) (upd H d (.dK (putAll ps)))):=by
 intro pins s σ H xs us Q I r h;obtain⟨p,D,ps,rfl,hp,hP,hl,q⟩:=h;obtain⟨u,rfl,ru⟩:=vals1 r;cases ru;have hh:=I.ok.hd hc;obtain⟨its,hv,E⟩:∃its:List Value,Vals D its/\((∃n,s.heap.get? p=some {cls:=.type "list",data:=.seq its.toArray n})\/∃n,s.heap.get? p=some {cls:=.type "tuple",data:=.seq its.toArray n}):=by
  rcases hp with hp|hp
  .obtain⟨_,its,n,y,e⟩:=(show bZ X.prog X.w H s.heap p (.lst D) from I.hok p _ hp)
   exact⟨its,y,.inl ⟨n,e⟩⟩
  .obtain⟨its,n,y,e,_⟩:=I.HC hp
   exact⟨its,y,.inr ⟨n,e⟩⟩
 have l:its.length=ps.length:=by rw[<-hv.length];exact hP.1
 have Qe:p<s.heap.objs.size:=by rcases E with⟨_,e⟩|⟨_,e⟩<;>exact aV e
 have pair:∀i,i<ps.length->∃t k v,its[i]?=some (.ref t)/\IsTup s.heap t #[k,v]/\∃p,ps[i]?=some p/\RelV (kV p.1) k/\RelV p.2 v:=λi hi=>by
  have z:ps[i]?=some (ps[i]'hi):=aW hi;have B:D[i]?=some (D[i]'(by rw[hP.1];exact hi)):=aW _;obtain⟨t,ex,hq⟩:=hP.2 i _ _ B z;obtain⟨u,hu,ru⟩:=hv.get B;rw[ex] at ru;cases ru;obtain⟨its2,r2,p2,_⟩:=I.tuple hq;obtain⟨k,v,rfl,N,y⟩:=vals2 r2;exact⟨t,k,v,hu,p2,_,z,N,y⟩
 let P:Nat->Value:=λi=>match its[i]? with|some (.ref t)=>(match s.heap.get? t with|some o=>(match o.data with|.seq a _=>a.getD 0 .none|_=>.none)|none=>.none)|_=>.none
 let O:Nat->Value:=λi=>match its[i]? with|some (.ref t)=>(match s.heap.get? t with|some o=>(match o.data with|.seq a _=>a.getD 1 .none|_=>.none)|none=>.none)|_=>.none
 let key:Nat->Key:=λi=>((ps[i]?).map (·.1)).getD (.inl 0);have g:∀i,i<ps.length->∃t p,its[i]?=some (.ref t)/\IsTup s.heap t #[P i,O i]/\ps[i]?=some p/\key i=p.1/\RelV (kV p.1) (P i)/\RelV p.2 (O i):=λi hi=>by
  obtain⟨t,k,v,z,L,pp,B,N,y⟩:=pair i hi;obtain⟨o,G,hcl,n,hd⟩:=id L;have R:P i=k:=by simp only[P,z,G,hd];rfl
  have ev:O i=v:=by simp only[O,z,G,hd];rfl
  have ey:key i=pp.1:=by simp only[key,B];rfl
  rw[R,ev,ey];exact⟨t,pp,z,L,B,rfl,N,y⟩
 have hsz:ps.length<=sizeLine:=cV hl δ;refine callType_codes (Q₁:=λobj J=>obj=.ref s.heap.objs.size/\J={s with heap:=s.heap.push {cls:=.type "dict",data:=.dict #[]}}) PySem.F.kt_called_dict (PySem.F.kt_typeCall_dict_1 _) PySem.F.entry_dict_init (kt_code_dict_new _ ⟨rfl,rfl⟩) ?_;rintro obj J ⟨rfl,rfl⟩;have c:(s.heap.push {cls:=.type "dict",data:=.dict #[]}).DictOf (c5 X.prog X.w) s.heap.objs.size []:=DictOf.new s.heap;refine⟨c.typeIs,PySem.F.args_dict_init_2 _ _,?_⟩;unfold Builtin.«dict.__init__»;refine af ?_;unfold Builtin.Dict.selfAndRest;refine af (wpAny_notOrdered_dict c.typeIs ?_);show wpAny _ _ (pure (s.heap.objs.size,[Value.ref p])) _ _ _;refine aD ?_;show wpAny _ _ (Builtin.Dict.updateFrom "dict.__init__" s.heap.objs.size (.ref p) [] .none) _ _ _;unfold Builtin.Dict.updateFrom;have k0:∀b o,s.heap.get? b=some o->(s.heap.push {cls:=.type "dict",data:=.dict #[]}).get? b=some o:=λb o e=>bA _ e;have pD:p≠s.heap.objs.size:=bI Qe;have go:∀(h1:Heap) (tk:Nat) (S:Addr) (fp:List Addr) (St:Nat->Heap->Prop),(∀b o,(s.heap.push {cls:=.type "dict",data:=.dict #[]}).get? b=some o->h1.get? b=some o)->s.heap.objs.size<S->
   Walks X.prog X.w X.A.in1.in1 S fp [S] its.length (λi v=>its.toArray[i]?=some v) St->St 0 h1->s.heap.objs.size∉fp->
   codeAny (model X.prog X.w) X.A.in1 (.builtin "dict.update.loop" ⟨[.ref s.heap.objs.size,.ref S,rawInt 0,.none],[]⟩) (wants (λr U=>r=.none/\EP X pins σ Q (.ref s.heap.objs.size) U) X.xe) {s with heap:=h1,toks:=tk}:=by
  intro h1 tk S fp St k1 hI W SN hDf;have Mm:h1.DictOf (c5 X.prog X.w) s.heap.objs.size []:=by
   obtain⟨o,es,ep,G,r⟩:=c;exact⟨o,es,ep,k1 _ o G,r⟩
  refine DP.loop W s.heap.objs.size hDf s.heap key P O (λi v hi hv'=>?_) (λi hi=>?_) (by rw[l];exact hsz) its.length 0 _ [] rfl (bV _) SN Mm (bV _) (λb o _ _ e=>k1 b o (k0 b o e)) λh2 T_ Y k2=>?_
  .obtain⟨t,pp,z,L,_⟩:=g i (by rw[<-l];exact hi)
   have e:its[i]?=some v:=by simpa using hv'
   rw[z] at e;cases e;have Z:t<s.heap.objs.size:=L.lt;exact⟨t,rfl,bI Z,by simp only[bH];exact bI (lt_trans Z hI),L⟩
  .obtain⟨t,pp,z,L,B,R,N,y⟩:=g i (by rw[<-l];exact hi)
   rw[R];exact mS N
  .have hn:H s.heap.objs.size=none:=I.hok.fresh (aG _)
   have NG:∀b o,s.heap.get? b=some o->h2.get? b=some o:=λb o e=>by
    have hb:b<s.heap.objs.size:=aV e;exact k2 b o (bI hb) (by simp only[bH];exact bI (lt_trans hb hI)) (k1 b o (k0 b o e))
   rw[List.drop_zero,l] at Y;have hkv:KV (putAll ps) ((range ps.length).foldl (λacc j=>stored acc (key j) (O j)) []):=NK rfl λi pp e=>by
    obtain⟨t,pp',z,L,B,R,N,y⟩:=g i (bW.mp e).1;rw[e] at B;cases B;exact⟨R,y⟩
   have hns:(s.heap.objs.size==sysModules)=false:=beq_false_of_ne (jy I.big);refine⟨rfl,.ref s.heap.objs.size,_,I.laid (t':=T_) (o:=.dK (putAll ps)) NG (aG _) ⟨?_,hns,_,hkv,Y⟩,rfl,q _ hn⟩;have:=QF ps [];unfold putAll;simp only[length_nil,zero_add] at this;omega
 rcases E with⟨n,e⟩|⟨n,e⟩
 .have C:=k0 _ _ e
  refine af (lZ (T:="list") ⟨_,C,rfl⟩ ?_);rw[ao δ];refine af (DP.OF (s:={s with heap:=s.heap.push {cls:=.type "dict",data:=.dict #[]}}) C hh λh1 M k1=>?_);rw[ao (show(none:Option Value).isNone=true from rfl)];refine af (j5 ?_);have m:h1.IsList p its.toArray:=⟨_,k1 _ _ C,rfl,n,rfl⟩;have x:p<h1.objs.size:=aV (k1 _ _ C);have f:s.heap.objs.size<h1.objs.size:=by obtain⟨o,_,_,G,_⟩:=c;exact aV (k1 _ _ G)
  refine af (su (s:={s with heap:=h1,toks:=M}) m ?_);have W:=Walks.list (prog:=X.prog) (w:=X.w) (A:=X.A.in1.in1) hh h1.objs.size p (bI x) its.toArray;rw[cA] at W;refine aD ⟨jz DP.rE _,go _ _ _ _ _ (λb o q=>bA _ (k1 b o q)) f W ⟨⟨_,cu _ rfl,rfl,rfl⟩,m.push _⟩ ?_⟩;simp only[bz,gK,gM,not_or];exact⟨bI f,Ne.symm pD⟩
 .have C:=k0 _ _ e
  refine af (lZ (T:="tuple") ⟨_,C,rfl⟩ ?_);rw[ao δ];refine af (DP.OG (s:={s with heap:=s.heap.push {cls:=.type "dict",data:=.dict #[]}}) C hh λh1 M k1=>?_);rw[ao (show(none:Option Value).isNone=true from rfl)];refine af (j5 ?_);have m:h1.IsTuple p its.toArray:=⟨_,k1 _ _ C,rfl,n,rfl⟩;have x:p<h1.objs.size:=aV (k1 _ _ C);have f:s.heap.objs.size<h1.objs.size:=by obtain⟨o,_,_,G,_⟩:=c;exact aV (k1 _ _ G)
  refine af (wpAny_pyIter_tuple (s:={s with heap:=h1,toks:=M}) m ?_);have W:=Walks.tuple (prog:=X.prog) (w:=X.w) (A:=X.A.in1.in1) hh h1.objs.size p (bI x) its.toArray;rw[cA] at W;refine aD ⟨jz DP.rE _,go _ _ _ _ _ (λb o q=>bA _ (k1 b o q)) f W ⟨⟨_,cu _ rfl,rfl,rfl⟩,m.push _⟩ ?_⟩;simp only[bz,gK,gM,not_or];exact⟨bI f,Ne.symm pD⟩
end
end L2
end
namespace PySem
open Sem (wp)
namespace ZL
section
variable{prog:Program}{w:World}{A:Around}{E:aR}{s:Shared}{z TI TO i1 i2 l1 l2:Addr}{xs ys:Array Value}
theorem Jq{R:List Value->Shared->Prop}(k:A.handled=none)(D:ZipApart z TI TO i1 i2 l1 l2)(L:nR z TI TO i1 i2 l1 l2 (s.heap.objs.size+1))(O:qe z TI TO i1 i2 l1 l2 (s.heap.objs.size+1) s.heap.objs.size)(m:min xs.size ys.size<=sizeLine)
  (n:ZS z TI TO i1 i2 l1 l2 (s.heap.objs.size+1) xs ys 0 (s.heap.push {cls:= .type "list",data:= .seq #[]}))
  (h:∀h':Heap,(∀(j:Nat) x y,xs[j]? =some x->ys[j]? =some y->IsPair h' (s.heap.objs.size+1+j) x y)->s.heap.objs.size<h'.objs.size->
   (∀b o,b≠z->b≠TO->b≠i1->b≠i2->s.heap.get? b=some o->h'.get? b=some o)->R (fm (s.heap.objs.size+1) (min xs.size ys.size)).toList {s with heap:=h'}):
  wpAny (model prog w) A (collect (.ref z)) R E s:=by
 unfold collect
 refine af (wpAny_runValue (iJ PySem.F.entry_proto_collect ?_))
 rw[je PySem.F.plain_proto_collect _]
 show wpAny _ A.in1 (newList []>>=λl=>again (.builtin "list.__iadd__" ⟨[l,.ref z],[]⟩)) _ _ s
 refine af (gc ?_)
 refine aD ⟨jz we _,iJ PySem.F.entry_list_iadd ?_⟩
 rw[je we _]
 have c:(s.heap.push {cls:= .type "list",data:= .seq ([]:List Value).toArray}).get? s.heap.objs.size=some {cls:= .type "list",data:= .seq #[]}:=cu _ rfl
 show wpAny _ A.in1 (Builtin.List.listExtendWith (.ref s.heap.objs.size) (.ref z) (.ref s.heap.objs.size)) _ _ _
 have key:=KW (prog:=prog) (w:=w) (A:=A) (s:={s with heap:=s.heap.push {cls:= .type "list",data:= .seq ([]:List Value).toArray}})
  (R:=λ(q:Result) (s':Shared)=>∃(h':Heap) (c':Nat),q= .ok (.ret (.ref s.heap.objs.size))/\s'={s with heap:=h'}/\
   (∀(j:Nat) x y,xs[j]? =some x->ys[j]? =some y->IsPair h' (s.heap.objs.size+1+j) x y)/\h'.get? s.heap.objs.size=some {cls:= .type "list",dict:=none,data:= .seq (fm (s.heap.objs.size+1) (min xs.size ys.size)) c',slots:= #[]}/\
   ∀b o,b≠z->b≠TO->b≠i1->b≠i2->s.heap.get? b=some o->h'.get? b=some o)
  k D L O m (.ref s.heap.objs.size) 0 n c
  (λh' c' a1 a2 p=>⟨h',c',rfl,rfl,a1,a2,λb o r t u v e=>p b o (bI (aV e)) r t u v (bA _ e)⟩)
 refine jB key (λfin s' x=> ?_) λe s' x=> ?_
 .cases fin with
  |done f=>
   obtain⟨h',c',e,rfl,d,a,g⟩:=x
   cases e
   show wpAny _ A (load s.heap.objs.size>>=_) _ _ _
   refine af (wpAny_load a ?_)
   exact aD (h h' d (aV a) g)
  |again c₁=>
   refine⟨x.1,pT x.2 λq i y=> ?_⟩
   obtain⟨h',c',rfl,rfl,d,a,g⟩:=y
   show wpAny _ A (load s.heap.objs.size>>=_) _ _ _
   refine af (wpAny_load a ?_)
   exact aD (h h' d (aV a) g)
 .obtain⟨_,_,B,_⟩:=x
  cases B
theorem Jo{Q₁:aR}(g:A.handled=none)(i:s.TypeIs (.ref z) "zip")(D:ZipApart z TI TO i1 i2 l1 l2)(L:nR z TI TO i1 i2 l1 l2 (s.heap.objs.size+1))(O:qe z TI TO i1 i2 l1 l2 (s.heap.objs.size+1) s.heap.objs.size)(d:min xs.size ys.size<=sizeLine)
  (k:ZS z TI TO i1 i2 l1 l2 (s.heap.objs.size+1) xs ys 0 (s.heap.push {cls:= .type "list",data:= .seq #[]}))
  (h:∀h':Heap,(∀(j:Nat) x y,xs[j]? =some x->ys[j]? =some y->IsPair h' (s.heap.objs.size+1+j) x y)->s.heap.objs.size<h'.objs.size->
   (∀b o,b≠z->b≠TO->b≠i1->b≠i2->s.heap.get? b=some o->h'.get? b=some o)->Q₁ (.ref h'.objs.size) {s with heap:=h'.push {cls:= .type "tuple",data:= .seq (fm (s.heap.objs.size+1) (min xs.size ys.size))}}):
  codeAny (model prog w) A (.call (.builtin "tuple.__new__") ⟨[.type "tuple",.ref z],[]⟩) (wants Q₁ E) s:=by
 refine codeAny_of_tree ?_
 show wpAny _ A.in1 (do checkBuiltinCall "tuple.__new__" ⟨[.type "tuple",.ref z],[]⟩;again (.builtin "tuple.__new__" ⟨[.type "tuple",.ref z],[]⟩)) _ _ s
 refine af (wpAny_of_eq (PySem.F.newCall_tuple_1 _) (aD ⟨jz PySem.F.plain_tuple_new _,iJ PySem.F.entry_tuple_new ?_⟩))
 rw[je PySem.F.plain_tuple_new _]
 have f:=sub_tuple_self
 have a:=init_tuple_lookup
 have l:=madeHere_tuple
 wp_walk using lZ i,Jq (A:=A.in1) g D L O d k
 intro h' m c n
 show wpAny _ _ (Builtin.Tuple.tupleExact (fm (s.heap.objs.size+1) (min xs.size ys.size)).toList.toArray>>=λv=>ret v) _ _ _
 unfold Builtin.Tuple.tupleExact
 refine af (gc ?_ (by show(fm (s.heap.objs.size+1) (min xs.size ys.size)).toList.toArray.size<=sizeLine;simp only[toArray_toList];rw[zI];exact d))
 refine aD ?_
 have e:(fm (s.heap.objs.size+1) (min xs.size ys.size)).toList.toArray=fm (s.heap.objs.size+1) (min xs.size ys.size):=θ
 rw[e]
 exact h h' m c n
end
section
variable{prog:Program}{w:World}{A:Around}{E:aR}{s:Shared}
theorem Uh{l1 l2:Addr}{xs ys:Array Value}{Q:aR}(u:A.handled=none)(f:s.heap.IsList l1 xs)(g:s.heap.IsList l2 ys)(v:min xs.size ys.size<=sizeLine)
  (B:∀(h':Heap) (T:Addr),(∀(j:Nat) x y,xs[j]?=some x->ys[j]?=some y->IsPair h' (s.heap.objs.size+6+j) x y/\@LT.lt Nat _ (s.heap.objs.size+6+j) T)->@LT.lt Nat _ (s.heap.objs.size+5) T->
   h'.get? T=some {cls:=.type "tuple",data:=.seq (fm (s.heap.objs.size+6) (min xs.size ys.size))}->
   (∀b o,s.heap.get? b=some o->h'.get? b=some o)->Q (.ref T) {s with heap:=h'}):
  wpAny (model prog w) A (call (.type "zip") [.ref l1,.ref l2]) (λz c=>wpAny (model prog w) A (call (.type "tuple") [z]) Q E c) E s:=by
 have C: @LT.lt Nat _ l1 s.heap.objs.size:=by obtain⟨_,e,_⟩:=f;exact aV e
 have G: @LT.lt Nat _ l2 s.heap.objs.size:=by obtain⟨_,e,_⟩:=g;exact aV e
 refine call_zip_2 f g λa hz h i k l hsz m=>?_;have hsz: @Eq Nat a.objs.size (s.heap.objs.size+5):=hsz;have D:ZipApart (s.heap.objs.size+4) (s.heap.objs.size+2) (s.heap.objs.size+3) s.heap.objs.size (s.heap.objs.size+1) l1 l2:=by
  constructor<;>first|(show(_:Nat)<(_:Nat);omega)|(intro e;have r: @Eq Nat _ _:=e;omega)
 have L:nR (s.heap.objs.size+4) (s.heap.objs.size+2) (s.heap.objs.size+3) s.heap.objs.size (s.heap.objs.size+1) l1 l2 (a.objs.size+1):=by
  rw[hsz];constructor<;>first|(show(_:Nat)<(_:Nat);omega)|(intro e;have r: @Eq Nat _ _:=e;omega)
 have O:qe (s.heap.objs.size+4) (s.heap.objs.size+2) (s.heap.objs.size+3) s.heap.objs.size (s.heap.objs.size+1) l1 l2 (a.objs.size+1) a.objs.size:=by
  rw[hsz];constructor<;>first|(show(_:Nat)<(_:Nat);omega)|(intro e;have r: @Eq Nat _ _:=e;omega)
 have H:ZS (s.heap.objs.size+4) (s.heap.objs.size+2) (s.heap.objs.size+3) s.heap.objs.size (s.heap.objs.size+1) l1 l2 (a.objs.size+1) xs ys 0 (a.push {cls:=.type "list",data:=.seq #[]}):=
  ⟨.inl ⟨rfl,bA _ hz⟩,bA _ h,⟨_,_,bA _ i⟩,k.at λo e=>bA _ e,l.at λo e=>bA _ e,
   f.at λo e=>bA _ (m _ o e),g.at λo e=>bA _ (m _ o e),by rw[eF],λj x y I=>absurd I (Nat.not_lt_zero _)⟩
 refine callType_codes (Q₁:=λobj c=>c.TypeIs obj "tuple"/\Q obj c) called_tuple (PySem.F.typeCall_tuple_1 _) PySem.F.entry_object_init
  (Jo (s:={s with heap:=a}) (xs:=xs) (ys:=ys) u ⟨_,hz,rfl⟩ D L O v H λh' J n p=>⟨⟨_,cu _ rfl,rfl⟩,?_⟩) λobj c d=>?_
 .have t:a.objs.size+1=s.heap.objs.size+6:=by rw[hsz]
  have q:=B (h'.push {cls:=.type "tuple",data:=.seq (fm (s.heap.objs.size+6) (min xs.size ys.size))}) h'.objs.size (λj x y K M=>?_) (by rw[<-hsz];exact n) (cu _ rfl) λb o e=>?_
  .show Q (.ref h'.objs.size) {s with heap:=h'.push {cls:=.type "tuple",data:=.seq (fm (a.objs.size+1) (min xs.size ys.size))}}
   rw[t];exact q
  .have pr:=J j x y K M
   have pr:IsPair h' (a.objs.size+1+j) x y:=pr;rw[t] at pr;exact⟨bA _ pr,aV pr⟩
  .have N: @LT.lt Nat _ b s.heap.objs.size:=aV e
   have ne:∀j:Nat,b≠s.heap.objs.size+j:=λj z=>by have P: @Eq Nat b (s.heap.objs.size+j):=z;omega
   exact bA _ (p b o (ne 4) (ne 3) (ne 0) (ne 1) (m b o e))
 .exact⟨d.1,PySem.F.args_object_init_2 obj _,object_init_meets called_tuple.init.lookup called_tuple.made δ prog w A.in1 _ c ⟨d.1,rfl,d.2⟩⟩
end
end ZL
end PySem
section
open PySem PySem.Spec PyProof.Rows
namespace L2
section
variable{X:Cx}
def TY(K:Frag)(ta:TA):TE:=λσ H Q=>ta σ H λvs H1=>∃a b xs ys,vs=[.ref a,.ref b]/\aY K H1 a xs/\aY K H1 b ys/\
 ∀(l:Addr) (H':Hp) (ps:List V),ki H1 H'->H1 l=none->H' l=some (.tup ps)->ps.length=min xs.length ys.length->(∀(j:Nat) p,ps[j]?=some p->∃t x y,p=.ref t/\xs[j]?=some x/\ys[j]?=some y/\H' t=some (.tup [x,y]))->Q (.ref l) H'
theorem PV{a b:Expr}{ta:TA}{p1 p2 C d:Pos}(S:Gl X "tuple")(U:X.mg "tuple"=none)(W:bootBuiltins "tuple"=some (.type "tuple"))(Y:Gl X "zip")(Z:X.mg "zip"=none)(hbz:bootBuiltins "zip"=some (.type "zip"))(hc:X.calm=true)(ha:PA X [a,b] ta)
  (hs:starEach [a,b] X.env=[(false,eval a X.env),(false,eval b X.env)]:=by rfl)(D:starEach [b] X.env=[(false,eval b X.env)]:=by rfl)
  (hz:starEach [.Call (.Name "zip" p2) [a,b] [] d] X.env=[(false,eval (.Call (.Name "zip" p2) [a,b] [] d) X.env)]:=by rfl):
  PE X (.Call (.Name "tuple" p1) [.Call (.Name "zip" p2) [a,b] [] d] [] C) (TY X.K ta):=by
 intro pins s σ H Q I h
 refine nj (jN I S U W ?_)
 refine nc ?_ hz rfl
 rw[hz]
 refine Calls.spliced_cons (nj (jN I Y Z hbz (nc (aJ (ha d pins s σ H _ I h) λus c ⟨vs,H1,i,r1,q1⟩=> ?_) (by rw[hs,D]) (by rw[D];rfl))))
 obtain⟨pa,pb,xs,ys,e,hx,hy,q⟩:=q1
 subst e
 obtain⟨u1,u2,rfl,Q6,Q7⟩:=vals2 r1
 cases Q6
 cases Q7
 obtain⟨F,k,Qa,hz1⟩:=i.list hx
 obtain⟨G,m,Qc,hz2⟩:=i.list hy
 have l1:=k.length
 have l2:=m.length
 refine aJ (ZL.Uh (E:=X.xe) (Q:=EP X pins σ Q) (i.ok.hd hc) Qa.isList Qc.isList (by simp only[cA];omega) λh' T J n hS kp=> ?_) λz s2 hq=>Calls.spliced_nil hq
 have em:min F.toArray.size G.toArray.size=min xs.length ys.length:=by simp only[cA];omega
 rw[em] at hS
 have hn:∀j:Nat,H1 (c.heap.objs.size+j)=none:=λj=>i.hok.fresh (pH _ _)
 have Mz:∀j:Nat,j<min xs.length ys.length->@LT.lt Nat _ (c.heap.objs.size+6+j) T:=λj hj=>by
  have f:xs[j]? =some (xs[j]' ω):=aW _
  have g:ys[j]? =some (ys[j]' ω):=aW _
  obtain⟨u,hu,_⟩:=k.get f
  obtain⟨v,hv,_⟩:=m.get g
  exact(J j u v (by simpa using hu) (by simpa using hv)).2
 have MB:H1 T=none:=i.hok.fresh (by show @LE.le Nat _ c.heap.objs.size T;have: @LT.lt Nat _ (c.heap.objs.size+5) T:=n;omega)
 have pair:∀j:Nat,j<min xs.length ys.length->∃x y u v,xs[j]? =some x/\ys[j]? =some y/\RelV x u/\RelV y v/\IsPair h' (c.heap.objs.size+6+j) u v:=λj hj=>by
  have f:xs[j]? =some (xs[j]' ω):=aW _
  have g:ys[j]? =some (ys[j]' ω):=aW _
  obtain⟨u,hu,ru⟩:=k.get f
  obtain⟨v,hv,t⟩:=m.get g
  exact⟨_,_,u,v,f,g,ru,t,(J j u v (by simpa using hu) (by simpa using hv)).1⟩
 let H':Hp:=λb=>if b=T then some (.tup ((range (min xs.length ys.length)).map λj=>V.ref (c.heap.objs.size+6+j))) else
  if c.heap.objs.size+6<=b/\b - (c.heap.objs.size+6)<min xs.length ys.length then some (.tup [(xs[b - (c.heap.objs.size+6)]?).getD .aE,(ys[b - (c.heap.objs.size+6)]?).getD .aE]) else H1 b
 have L:H' (T)=some (.tup ((range (min xs.length ys.length)).map λj=>V.ref (c.heap.objs.size+6+j))):=by
  show(if _ then _ else _)=_
  rw[ao rfl]
 have M:∀(j:Nat) x y,xs[j]? =some x->ys[j]? =some y->H' (c.heap.objs.size+6+j)=some (.tup [x,y]):=λj x y A B=>by
  have j1:=(bW.mp A).1
  have j2:=(bW.mp B).1
  have N:c.heap.objs.size+6+j - (c.heap.objs.size+6)=j:=Nat.add_sub_cancel_left _ _
  have O:j<min xs.length ys.length:=Nat.lt_min.mpr ⟨j1,j2⟩
  show(if _ then _ else if _ then _ else _)=_
  rw[ak (λz=>by have z': @Eq Nat (c.heap.objs.size+6+j) (T):=z;have:=Mz j O;omega),ao ⟨pH _ _,by rw[N];exact O⟩,N,A,B]
  rfl
 have hold:ki H1 H':=λb o e=>by
  have hb: @LT.lt Nat _ b c.heap.objs.size:=i.hok.lt e
  show(if _ then _ else if _ then _ else _)=_
  rw[ak (λz=>by have z': @Eq Nat b (T):=z;have: @LT.lt Nat _ (c.heap.objs.size+5) T:=n;omega),ak (λz=>by have z': @LE.le Nat _ (c.heap.objs.size+6) b:=z.1;omega)]
  exact e
 have P:∀b o,H' b=some o->H1 b=some o\/(c.heap.objs.size<=b/\bZ X.prog X.w H' h' b o):=λb o e=>by
  by_cases hb:b=T
  .subst hb
   rw[L] at e
   cases e
   refine .inr ⟨by show @LE.le Nat _ c.heap.objs.size b;have: @LT.lt Nat _ (c.heap.objs.size+5) b:=n;omega,by rw[aS,length_range];omega,(range (min xs.length ys.length)).map λj=>Value.ref (c.heap.objs.size+6+j),?_,⟨_,hS⟩⟩
   have:∀l:List Nat,Vals (l.map λj=>V.ref (c.heap.objs.size+6+j)) (l.map λj=>Value.ref (c.heap.objs.size+6+j)):=λl=>by
    induction l with
    |nil=>exact .nil
    |cons j r ih=>exact .cons rfl ih
   exact this _
  .by_cases R:c.heap.objs.size+6<=b/\b - (c.heap.objs.size+6)<min xs.length ys.length
   .obtain⟨g1,g2⟩:=R
    have eb:b=c.heap.objs.size+6+(b - (c.heap.objs.size+6)):=(Nat.add_sub_cancel' g1).symm
    obtain⟨x,y,u,v,A,B,ru,t,pr⟩:=pair _ g2
    rw[eb,M _ x y A B] at e
    cases e
    refine .inr ⟨cV (pH _ 6) g1,by show 2<=sizeLine;decide,[u,v],.cons ru (.cons t .nil),?_⟩
    rw[eb]
    exact⟨_,pr⟩
   .left
    have e':(if b=T then some (HO.tup ((range (min xs.length ys.length)).map λj=>V.ref (c.heap.objs.size+6+j))) else
     if c.heap.objs.size+6<=b/\b - (c.heap.objs.size+6)<min xs.length ys.length then some (.tup [(xs[b - (c.heap.objs.size+6)]?).getD .aE,(ys[b - (c.heap.objs.size+6)]?).getD .aE]) else H1 b)=some o:=e
    rw[ak hb,ak R] at e'
    exact e'
 refine⟨.ref (T),H',i.many (h':=h') (t':=c.toks) kp hold P,rfl,q _ H' _ hold MB L (by rw[aS,length_range]) λj p e=> ?_⟩
 rw[bO] at e
 cases er:(range (min xs.length ys.length))[j]? with
 |none=>rw[er] at e;cases e
 |some j'=>
  rw[er] at e
  obtain⟨hj,N⟩:=bW.mp er
  rw[List.getElem_range] at N
  subst N
  cases e
  have hj':j<min xs.length ys.length:=by simpa using hj
  obtain⟨x,y,u,v,A,B,_⟩:=pair j hj'
  exact⟨_,x,y,rfl,A,B,M j x y A B⟩
end
theorem Hh:∀{vs:List Value} {ss:List Str},vs.length=ss.length->(∀(i:Nat) v x,vs[i]?=some v->ss[i]?=some x->∃t,v=Value.str x t)->StrsAre vs ss
 |[],[],_,_=>.nil
 |v::vs,x::ss,hl,h=>by
  obtain⟨t,rfl⟩:=h 0 v x rfl rfl;exact .cons x t (Hh (by simpa using hl) λi a b c d=>h (i+1) a b (by simpa using c) (by simpa using d))
theorem KV.at{kvs:List (Key×V)}{vs:List (Key×Value)}(r:KV kvs vs):∀{i:Nat} {q:Key×Value},vs[i]?=some q->∃p,kvs[i]?=some p/\p.1=q.1/\RelV p.2 q.2:=by
 induction r with
 |nil=>intro i q h;simp at h
 |cons h1 h2 a=>
  intro i q h;cases i with
  |zero=>simp at h;subst h;exact⟨_,rfl,h1⟩
  |succ i=>exact a (by simpa using h)
theorem KV.len{kvs:List (Key×V)}{vs:List (Key×Value)}(r:KV kvs vs):kvs.length=vs.length:=by
 induction r with
 |nil=>rfl
 |cons h1 h2 a=>simp[a]
section
variable{X:Cx}
theorem Inv.Ed{pins:aT}{σ:St}{H H':Hp}{s:Shared}{h':Heap}{t':Nat}(I:Inv X pins σ H s)(kp:∀b o,s.heap.get? b=some o->h'.get? b=some o)(d:ki H H')
  (a:∀b o,H' b=some o->H b=some o\/((∀u,s.heap.get? b≠some u)/\bZ X.prog X.w H' h' b o)):Inv X pins σ H' {s with heap:=h',toks:=t'}:=by
 refine I.un (h':=h') (t':=t') ⟨λb o q _ _ _=>kp b o q,λb o q _ _ _=>⟨o.slots,kp b o q⟩,λb o q n _=>?_,λb o q _=>⟨o,kp b o q⟩,λb xs q=>d _ _ q,λb o u q=>d _ _ q,λb ps q=>⟨#[],by rw[d _ _ q];simp⟩⟩ λb o q=>?_
 .cases e:H' b with
  |none=>rfl
  |some u=>
   rcases a b u e with z|⟨z,_⟩
   .rw[n] at z;cases z
   .exact absurd q (z _)
 .rcases a b o q with z|⟨_,z⟩
  .exact(I.hok b o z).stay (λc v _ r=>kp c v r) (λc r=>d _ _ r) λc xs r=>d _ _ r
  .exact z
theorem BL(hc:X.calm=true):e_ X (.builtin "sorted") (λxs H Q=>∃(d:Addr) (kvs:List (Key×V)) (ns:List Str),xs=[.ref d]/\H d=some (.dK kvs)/\kvs.map (·.1)=ns.map Sum.inr/\ns.Nodup/\ns.length<64/\
  ∀(l:Addr) (ys:List Str),H l=none->ys.Pairwise strLt->(∀x,x∈ys↔x∈ns)->Q (.ref l) (upd H l (.lst (ys.map V.str)))):=by
 intro pins s σ H xs us Q I r h;obtain⟨d,kvs,ns,rfl,hd,M,G,B,q⟩:=h;obtain⟨u,rfl,U⟩:=vals1 r;cases U;obtain⟨hz,Y,vs,rel,dd⟩:=(show bZ X.prog X.w H s.heap d (.dK kvs) from I.hok d _ hd);obtain⟨ep,J⟩:=dd.dictAt;have C:kvs.length=ns.length:=by
  have:=cB List.length M;simpa using this
 have c:vs.length=ns.length:=by rw[<-rel.len,C]
 refine Ag kind_sorted plain_sorted entry_sorted (args_sorted1 _) ?_;unfold Builtin.«sorted»;refine af (m:=checkCount "sorted" 1 1 _) (aD ?_);refine af (PySem.W.kdu_collect (A:=X.A.in1) (PySem.W.kdl_dict (knd:=c5 X.prog X.w) (kvs:=vs) (ep:=ep) Y) (I.ok.hd hc) J (by rw[c];omega) λh1 tk acc k1 a=>?_);have f:StrsAre acc.toList ns:=by
  refine Hh (by rw[gw,a.1,c]) λi v x N Z=>?_;rw[p5] at N;obtain⟨k,y,e3,O⟩:=a.2 i v N;obtain⟨p,e5,e6,_⟩:=rel.at e3;have P:(kvs.map (·.1))[i]?=some k:=by rw[bO,e5];exact cB some e6
  rw[M,bO,Z] at P;have e8:k=Sum.inr x:=(Option.some.inj P).symm;rw[e8] at O;rcases iZ (show kH (Sum.inr x) v=true from O) with⟨_,_,z,_⟩|⟨x',t,z,z2⟩
  .cases z
  .cases z;exact⟨t,z2⟩
 have K:acc.toList.length<64:=by rw[gw,a.1,c];exact B
 refine af (wo ?_);have g:(h1.push (seqObj "list" acc.toList.toArray 0)).get? h1.objs.size=some (seqObj "list" acc.toList.toArray 0):=cu _ rfl;show wpAny _ _ _ _ _ {s with heap:=h1.push (seqObj "list" acc.toList.toArray 0),toks:=tk};refine af (gz (jb slot_list_sort ⟨_,g,rfl⟩ entry_list_sort (list_sort_treeK strKind_oneLt g f.keysOf (λR S rest e=>keyKind_strs (by rw[<-e];exact f)) K λj a1 a2=>⟨_,rfl,?_⟩) (args_list_sort _)));obtain⟨D,q1,L,q3⟩:=sorted_out_str f a1 a2;obtain⟨e,he⟩:=sortedHeap_at (out:=(arrOf j).map (·.2)) g;have kp:∀b o,s.heap.get? b=some o->(sortedHeap (h1.push (seqObj "list" acc.toList.toArray 0)) h1.objs.size acc.toList ((arrOf j).map (·.2))).get? b=some o:=λb o q=>by
  have n:=k1 b o q;rw[sortedHeap_old (bI (aV n)) (by rw[size_push'];exact gb (aV n))];exact bA _ n
 have E:∀u,s.heap.get? h1.objs.size≠some u:=λu z=>fy _ (aV (k1 _ _ z));have T:H h1.objs.size=none:=by
  cases e0:H h1.objs.size with
  |none=>rfl
  |some o=>
   obtain⟨u,z⟩:=(I.hok _ _ e0).obj;exact absurd z (E u)
 refine aD ⟨_,rfl,.ref h1.objs.size,upd H h1.objs.size (.lst (D.map V.str)),?_,rfl,q _ D T (Hf (G2 q3) (L.nodup_iff.mpr G)) λx=>L.mem_iff⟩;refine I.Ed (t':=tk) kp (ki.new T _) λb o F=>?_;by_cases n:b=h1.objs.size
 .subst n
  rw[eE] at F;cases F;refine .inr ⟨E,?_⟩;refine⟨by rw[aS,L.length_eq];exact jx (cK B δ),((arrOf j).map (·.2)).toList,e,Ae q1,?_⟩;rw[toArray_toList];exact he
 .rw[a_ n] at F
  exact .inl F
end
end L2
end
namespace MA
theorem DW{b d:Int}(g:0<b)(hd:0<d):0<b*d/(Int.gcd b d:Int)/\b∣b*d/(Int.gcd b d:Int)/\d∣b*d/(Int.gcd b d:Int)/\b*d/(Int.gcd b d:Int)<=b*d:=by
 have i:0<(Int.gcd b d:Int):=by
  have:0<Int.gcd b d:=Int.gcd_pos_of_ne_zero_right _ ω;omega
 obtain⟨a,c⟩:=Int.gcd_dvd_left b d;obtain⟨d',e⟩:=Int.gcd_dvd_right b d;have f:b*d/(Int.gcd b d:Int)=a*d:=by
  conv=>lhs;lhs;lhs;rw[c]
  rw[kQ,wA _ ω]
 have j:b*d/(Int.gcd b d:Int)=b*d':=by
  conv=>lhs;lhs;rhs;rw[e]
  rw[kR (Int.gcd b d:Int) d',<-kQ,Int.mul_ediv_cancel _ ω]
 refine⟨?_,⟨d',j⟩,⟨a,by rw[f,kR]⟩,pU _ (d9 (fK g hd))⟩;rw[f];refine fK ?_ hd;rcases Int.lt_or_le 0 a with h|h
 .exact h
 .have:(Int.gcd b d:Int)*a<=0:=Int.mul_nonpos_of_nonneg_of_nonpos (d9 i) h
  omega
noncomputable def bot:List Rat->Int->Int
 |[],b=>b
 |x::r,b=>bot r (b*(rf x).2/(Int.gcd b (rf x).2:Int))
theorem mG:∀(xs:List Rat) (b:Int),0<b->0<bot xs b/\b∣bot xs b/\∀x∈xs,(rf x).2∣bot xs b
 |[],b,h=>⟨h,Int.dvd_refl _,θ⟩
 |x::r,b,h=>by
  obtain⟨h1,h2,c,_⟩:=DW h (dj x);obtain⟨d,a,e⟩:=mG r _ h1;refine⟨d,dvd_trans h2 a,λy hy=>?_⟩;rcases bz.mp hy with rfl|hy
  .exact dvd_trans c a
  .exact e y hy
theorem bot_le(D:Int)(a:1<=D):∀(xs:List Rat) (b:Int),0<b->(∀x∈xs,(rf x).2<=D)->bot xs b<=b*D ^ xs.length
 |[],b,_,_=>by simp[bot]
 |x::r,b,h,hx=>by
  obtain⟨h1,h2,d,c⟩:=DW h (dj x);have:=bot_le D a r _ h1 λy hy=>hx y (bq _ hy);refine dN this ?_;rw[gv,j6,kR (D ^ r.length) D,<-kQ];refine sF ?_ (pow_nonneg ω);exact dN c (ny (hx x θ) (d9 h))
noncomputable def dP:List Int->Int->Int
 |[],d=>d
 |n::r,d=>dP r (Int.gcd d n:Int)
theorem qE:∀(ns:List Int) (d:Int),0<=d->0<=dP ns d/\dP ns d∣d/\(∀n∈ns,dP ns d∣n)/\∀k,k∣d->(∀n∈ns,k∣n)->k∣dP ns d
 |[],d,h=>⟨h,Int.dvd_refl _,θ,λk a _=>a⟩
 |n::r,d,h=>by
  obtain⟨e,b,f,g⟩:=qE r (Int.gcd d n:Int) ω;refine⟨e,dvd_trans b (Int.gcd_dvd_left d n),λm hm=>?_,λk a c=>g k (Int.dvd_coe_gcd a (c n θ)) λm hm=>c m (bq _ hm)⟩;rcases bz.mp hm with rfl|hm
  .exact dvd_trans b (Int.gcd_dvd_right d m)
  .exact f m hm
theorem ug{ns:List Int}{d:Int}(h:0<=d){n:Int}(a:n∈ns)(b:0<n):0<dP ns d/\dP ns d<=n:=by
 obtain⟨f,g,c,i⟩:=qE ns d h;have hd:=c n a;have hle:=le_of_dvd b hd;refine⟨?_,hle⟩;rcases Int.lt_or_le 0 (dP ns d) with z|z
 .exact z
 .have e:dP ns d=0:=ω
  rw[e] at hd;have:=Int.zero_dvd.mp hd;omega
noncomputable def ups(xs:List Rat):List Int:=xs.map λx=>(rf x).1*(bot xs 1/(rf x).2)
noncomputable def lw(xs:List Rat):List Int:=(ups xs).map (·/dP (ups xs) 0)
theorem Uv{xs:List Rat}{x:Rat}(hx:x∈xs):(((rf x).1*(bot xs 1/(rf x).2):Int):Rat)=(bot xs 1:Rat)*x:=by
 obtain⟨h1,_,a⟩:=mG xs 1 δ;obtain⟨k,b⟩:=a x hx;have c:=ko (jc (dj x));rw[b,wA _ (jc (dj x)),eW,eW];have e:=jv x;grind
theorem v7{xs:List Rat}{x:Rat}(hx:x∈xs)(a:0<x):0<(rf x).1*(bot xs 1/(rf x).2):=by
 obtain⟨h1,_,b⟩:=mG xs 1 δ;refine fK (dQ a) ?_;exact Int.ediv_pos_of_pos_of_dvd h1 (d9 (dj x)) (b x hx)
theorem D9(xs:List Rat):(lw xs).length=xs.length:=by simp[lw,ups]
theorem Oc{xs:List Rat}(e:∀x∈xs,0<x)(b:xs≠[]):∃c:Rat,0<c/\(lw xs).map (λn:Int=>(n:Rat))=xs.map (c*·):=by
 obtain⟨x0,a⟩:∃x,x∈xs:=by
  cases xs with
  |nil=>exact absurd rfl b
  |cons x r=>exact⟨x,θ⟩
 have m0:(rf x0).1*(bot xs 1/(rf x0).2)∈ups xs:=aN.mpr ⟨x0,a,rfl⟩;obtain⟨d,_⟩:=ug (gO 0) m0 (v7 a (e x0 a));obtain⟨_,_,f,_⟩:=qE (ups xs) 0 (gO 0);have g:=ko (jc d);obtain⟨h,_,_⟩:=mG xs 1 δ;refine⟨(bot xs 1:Rat)/(dP (ups xs) 0:Rat),?_,?_⟩
 .rw[iI]
  exact eY (by exact_mod_cast h) (jd.mpr (by exact_mod_cast d))
 .unfold lw
  rw[bY];conv=>lhs;rw[show ups xs=xs.map (λx=>(rf x).1*(bot xs 1/(rf x).2)) from rfl]
  rw[bY];refine ng λx hx=>?_;have i:(rf x).1*(bot xs 1/(rf x).2)∈ups xs:=aN.mpr ⟨x,hx,rfl⟩;obtain⟨k,j⟩:=f _ i;have ev:=Uv hx;show((((rf x).1*(bot xs 1/(rf x).2))/dP (ups xs) 0:Int):Rat)=_;rw[j] at ev ⊢;rw[wA _ (jc d)];rw[eW] at ev;grind
theorem Ob{xs:List Rat}(c:∀x∈xs,0<x):∀n∈lw xs,1<=n:=by
 intro n d;obtain⟨u,b,rfl⟩:=aN.mp d;obtain⟨x,hx,rfl⟩:=aN.mp b;have a:=v7 hx (c x hx);obtain⟨e,gl⟩:=ug (gO 0) b a;have:=(Int.le_ediv_iff_mul_le e).mpr (by rw[one_mul];exact gl:1*dP (ups xs) 0<=_);exact this
theorem Oa{xs:List Rat}(f:∀x∈xs,0<x)(b:xs≠[]){k:Int}(g:∀n∈lw xs,k∣n):k∣1:=by
 obtain⟨x0,a⟩:∃x,x∈xs:=by
  cases xs with
  |nil=>exact absurd rfl b
  |cons x r=>exact⟨x,θ⟩
 have m0:(rf x0).1*(bot xs 1/(rf x0).2)∈ups xs:=aN.mpr ⟨x0,a,rfl⟩;obtain⟨c,_⟩:=ug (gO 0) m0 (v7 a (f x0 a));obtain⟨_,_,l,m⟩:=qE (ups xs) 0 (gO 0);have h:dP (ups xs) 0*k∣dP (ups xs) 0:=by
  refine m _ (Int.dvd_zero _) λn d=>?_;obtain⟨j,e⟩:=l n d;have h1:n/dP (ups xs) 0∈lw xs:=aN.mpr ⟨n,d,rfl⟩;obtain⟨i,hi⟩:=g _ h1;rw[e,wA _ (jc c)] at hi;exact⟨i,by rw[e,hi,kQ]⟩
 obtain⟨i,hi⟩:=h;refine⟨i,?_⟩;have:dP (ups xs) 0*1=dP (ups xs) 0*(k*i):=by rw[mul_one,<-kQ];exact hi
 exact Int.eq_of_mul_eq_mul_left (jc c) this
end MA
section
open PySem PySem.Spec PyProof.Rows
namespace DP
open L2
inductive D where
 |aE|bl (b:Bool)|int (i:Int)|str (x:Str)|tup (xs:List D)|ref (r:Nat)|fl (xs:List Int)|exc (c:Str)
inductive C where
 |lst (xs:List D)|dct (kvs:List (Key×D))|bB (o:Obj) (kvs:List (Key×D))|ins (cl:Str) (fs:List (Str×D))
abbrev Ar:=List C
abbrev Io:=Nat->Addr
section
variable(mg:aB)
mutual
noncomputable def RV(ι:Io)(n:Nat)(H:Hp):D->V->Prop
 |.aE,v=>v=.aE
 |.bl b,v=>v=.bl b
 |.int i,v=>v=.int i
 |.str x,v=>v=.str x
 |.tup ds,v=>∃a xs,v=.ref a/\H a=some (.tup xs)/\aj ι n H ds xs
 |.ref r,v=>r<n/\v=.ref (ι r)
 |.fl ns,v=>∃a o,v=.ref a/\H a=some (.bM o (.lst (ns.map V.int)))
 |.exc c,v=>∃a C,v=.ref a/\mg c=some (.ref C)/\H a=some (KQ a C)
noncomputable def aj(ι:Io)(n:Nat)(H:Hp):List D->List V->Prop
 |[],xs=>xs=[]
 |d::ds,xs=>∃x r,xs=x::r/\RV ι n H d x/\aj ι n H ds r
end
noncomputable def RK(ι:Io)(n:Nat)(H:Hp):List (Key×D)->List (Key×V)->Prop
 |[],xs=>xs=[]
 |p::ds,xs=>∃x r,xs=(p.1,x)::r/\RV mg ι n H p.2 x/\RK ι n H ds r
noncomputable def RF(ι:Io)(n:Nat)(H:Hp):List (Str×D)->List (Str×V)->Prop
 |[],xs=>xs=[]
 |p::ds,xs=>∃x r,xs=(p.1,x)::r/\RV mg ι n H p.2 x/\RF ι n H ds r
noncomputable def CO(ι:Io)(n:Nat)(H:Hp)(a:Addr):C->Prop
 |.lst ds=>∃xs,H a=some (.lst xs)/\aj mg ι n H ds xs
 |.dct kvs=>∃xs,H a=some (.dK xs)/\RK mg ι n H kvs xs
 |.bB o kvs=>∃xs,H a=some (.bM o (.dK xs))/\RK mg ι n H kvs xs
 |.ins cl fs=>∃Cc dx xs,mg cl=some (.ref Cc)/\H a=some (.ins Cc dx xs)/\RF mg ι n H fs xs
structure RA(ι:Io)(H:Hp)(A:Ar):Prop where
 gS:∀r c,A[r]? =some c->CO mg ι A.length H (ι r) c
 inj:∀r q,r<A.length->q<A.length->ι r=ι q->r=q
end
noncomputable def i6:HO->Bool
 |.lst _|.dK _|.bM _ (.dK _)|.ins _ _ _=>true
 |_=>false
structure Ext(A:Ar)(ι:Io)(H:Hp)(A':Ar)(ι':Io)(H':Hp):Prop where
 len:A.length<=A'.length
 ag:∀r,r<A.length->ι' r=ι r
 im:∀r,r<A.length->∃o,H (ι r)=some o/\i6 o=true
 mo:∀b o,H b=some o->(∀r,r<A.length->ι r≠b)->H' b=some o
 nw:∀r,A.length<=r->r<A'.length->H (ι' r)=none
 al:∀b o,H b=some o->∃o',H' b=some o'
theorem Ext.fix{A A':Ar}{ι ι':Io}{H H':Hp}(e:Ext A ι H A' ι' H'){b:Addr}{o:HO}(a:i6 o=false)(h:H b=some o):H' b=some o:=e.mo b o h λr c z=>by
 obtain⟨u,h1,h2⟩:=e.im r c;rw[z,h] at h1;cases h1;rw[a] at h2;cases h2
theorem Ext.trans{A f g:Ar}{ι e d:Io}{H H1 H2:Hp}(a:Ext A ι H f e H1)(b:Ext f e H1 g d H2):Ext A ι H g d H2 where
 len:=cV a.len b.len
 ag:=λr h=>(b.ag r (cK h a.len)).trans (a.ag r h)
 im:=a.im
 mo:=λc o h i=>b.mo c o (a.mo c o h i) λr j z=>by
  by_cases hl:r<A.length
  .rw[a.ag r hl] at z;exact i r hl z
  .have:=a.nw r ω j
   rw[z,h] at this;cases this
 nw:=λr h1 h2=>by
  by_cases hl:r<f.length
  .rw[b.ag r hl];exact a.nw r h1 hl
  .have n1:=b.nw r ω h2
   cases q:H (d r) with
   |none=>rfl
   |some o=>
    obtain⟨o',h'⟩:=a.al _ o q
    rw[h'] at n1;cases n1
 al:=λc o h=>by
  obtain⟨k,h1⟩:=a.al c o h
  exact b.al c k h1
section
variable{mg:aB}{A A':Ar}{ι ι':Io}{H H':Hp}
section
variable{n n':Nat}
mutual
theorem RV.ag(k:n<=n')(e:∀r,r<n->ι' r=ι r)(i:∀b o,i6 o=false->H b=some o->H' b=some o):∀(d:D) (v:V),RV mg ι n H d v->RV mg ι' n' H' d v
 |.aE,_,h=>h
 |.bl _,_,h=>h
 |.int _,_,h=>h
 |.str _,_,h=>h
 |.tup ds,v,h=>by
  obtain⟨a,xs,f,g,j⟩:=h;exact⟨a,xs,f,i _ _ rfl g,aj.ag k e i ds xs j⟩
 |.ref r,v,h=>⟨cK h.1 k,by rw[e r h.1];exact h.2⟩
 |.fl ns,v,h=>by
  obtain⟨a,o,f,g⟩:=h;exact⟨a,o,f,i _ _ rfl g⟩
 |.exc c,v,h=>by
  obtain⟨a,C,f,g,j⟩:=h;exact⟨a,C,f,g,i _ _ rfl j⟩
theorem aj.ag(c:n<=n')(a:∀r,r<n->ι' r=ι r)(e:∀b o,i6 o=false->H b=some o->H' b=some o):∀(ds:List D) (vs:List V),aj mg ι n H ds vs->aj mg ι' n' H' ds vs
 |[],_,h=>h
 |d::ds,vs,h=>by
  obtain⟨x,r,f,g,i⟩:=h;exact⟨x,r,f,RV.ag c a e d x g,aj.ag c a e ds r i⟩
end
theorem RK.ag(c:n<=n')(a:∀r,r<n->ι' r=ι r)(e:∀b o,i6 o=false->H b=some o->H' b=some o):∀(ds:List (Key×D)) (vs:List (Key×V)),RK mg ι n H ds vs->RK mg ι' n' H' ds vs
 |[],_,h=>h
 |d::ds,vs,h=>by
  obtain⟨x,r,f,g,i⟩:=h;exact⟨x,r,f,RV.ag c a e _ x g,RK.ag c a e ds r i⟩
theorem RF.ag(c:n<=n')(a:∀r,r<n->ι' r=ι r)(e:∀b o,i6 o=false->H b=some o->H' b=some o):∀(ds:List (Str×D)) (vs:List (Str×V)),RF mg ι n H ds vs->RF mg ι' n' H' ds vs
 |[],_,h=>h
 |d::ds,vs,h=>by
  obtain⟨x,r,f,g,i⟩:=h;exact⟨x,r,f,RV.ag c a e _ x g,RF.ag c a e ds r i⟩
theorem CO.ag{a:Addr}(g:n<=n')(d:∀r,r<n->ι' r=ι r)(i:∀b o,i6 o=false->H b=some o->H' b=some o)(j:∀o,H a=some o->H' a=some o):∀(c:C),CO mg ι n H a c->CO mg ι' n' H' a c
 |.lst ds,h=>by
  obtain⟨xs,e,f⟩:=h;exact⟨xs,j _ e,aj.ag g d i ds xs f⟩
 |.dct ds,h=>by
  obtain⟨xs,e,f⟩:=h;exact⟨xs,j _ e,RK.ag g d i ds xs f⟩
 |.bB o ds,h=>by
  obtain⟨xs,e,f⟩:=h;exact⟨xs,j _ e,RK.ag g d i ds xs f⟩
 |.ins cl ds,h=>by
  obtain⟨k,dx,xs,l,e,f⟩:=h;exact⟨k,dx,xs,l,j _ e,RF.ag g d i ds xs f⟩
end
theorem RV.ext(e:Ext A ι H A' ι' H')(d:D)(v:V)(h:RV mg ι A.length H d v):RV mg ι' A'.length H' d v:=RV.ag e.len e.ag (λ_ _ m h=>e.fix m h) d v h
theorem aj.ext(e:Ext A ι H A' ι' H')(d:List D)(v:List V)(h:aj mg ι A.length H d v):aj mg ι' A'.length H' d v:=aj.ag e.len e.ag (λ_ _ m h=>e.fix m h) d v h
theorem RK.ext(e:Ext A ι H A' ι' H')(d:List (Key×D))(v:List (Key×V))(h:RK mg ι A.length H d v):RK mg ι' A'.length H' d v:=RK.ag e.len e.ag (λ_ _ m h=>e.fix m h) d v h
theorem CO.ext{a:Addr}(e:Ext A ι H A' ι' H')(b:∀o,H a=some o->H' a=some o)(c:C)(h:CO mg ι A.length H a c):CO mg ι' A'.length H' a c:=CO.ag (a:=a) (H:=H) (H':=H') e.len e.ag (λ_ _ m h=>e.fix m h) b c h
theorem aj.length:∀{ds:List D} {vs:List V} {n:Nat},aj mg ι n H ds vs->ds.length=vs.length
 |[],vs,_,h=>by have h':vs=[]:=h;rw[h'];rfl
 |d::ds,vs,n,h=>by
  obtain⟨x,r,rfl,_,a⟩:=h;simp[aj.length a]
theorem aj.get:∀{ds:List D} {vs:List V} {n i:Nat} {d:D},aj mg ι n H ds vs->ds[i]?=some d->∃v,vs[i]?=some v/\RV mg ι n H d v
 |[],_,_,_,_,_,e=>by simp at e
 |d::ds,vs,n,0,d',h,e=>by
  obtain⟨x,r,rfl,a,_⟩:=h;simp at e;subst e;exact⟨x,rfl,a⟩
 |d::ds,vs,n,i+1,d',h,e=>by
  obtain⟨x,r,rfl,_,b⟩:=h;obtain⟨v,h1,h2⟩:=aj.get (i:=i) b (by simpa using e);exact⟨v,by simpa using h1,h2⟩
theorem aj.app:∀{ds es:List D} {vs ws:List V} {n:Nat},aj mg ι n H ds vs->aj mg ι n H es ws->aj mg ι n H (ds++es) (vs++ws)
 |[],_,vs,_,_,h,q=>by have h':vs=[]:=h;rw[h'];exact q
 |d::ds,es,vs,ws,n,h,q=>by
  obtain⟨x,r,rfl,a,b⟩:=h;exact⟨x,r++ws,rfl,a,aj.app b q⟩
theorem aj.take:∀{ds:List D} {vs:List V} {n:Nat} (k:Nat),aj mg ι n H ds vs->aj mg ι n H (ds.take k) (vs.take k)
 |ds,vs,n,0,h=>by simp[aj]
 |[],vs,n,k+1,h=>by have h':vs=[]:=h;rw[h'];simp[aj]
 |d::ds,vs,n,k+1,h=>by
  obtain⟨x,r,rfl,a,b⟩:=h;exact⟨x,r.take k,rfl,a,aj.take k b⟩
theorem aj.drop:∀{ds:List D} {vs:List V} {n:Nat} (k:Nat),aj mg ι n H ds vs->aj mg ι n H (ds.drop k) (vs.drop k)
 |ds,vs,n,0,h=>by simpa using h
 |[],vs,n,k+1,h=>by have h':vs=[]:=h;rw[h'];simp[aj]
 |d::ds,vs,n,k+1,h=>by
  obtain⟨x,r,rfl,b,a⟩:=h;exact aj.drop k a
theorem RA.im(R:RA mg ι H A):∀r,r<A.length->∃o,H (ι r)=some o/\i6 o=true:=λr h=>by
 obtain⟨c',b⟩:∃c',A[r]?=some c':=⟨A[r],by rw[aW h]⟩;have:=R.gS r c' b;cases c' with
 |lst ds=>obtain⟨xs,a,_⟩:=this;exact⟨_,a,rfl⟩
 |dct ds=>obtain⟨xs,a,_⟩:=this;exact⟨_,a,rfl⟩
 |bB o ds=>obtain⟨xs,a,_⟩:=this;exact⟨_,a,rfl⟩
 |ins cl ds=>obtain⟨c,dx,xs,_,a,_⟩:=this;exact⟨_,a,rfl⟩
theorem RA.refl(R:RA mg ι H A):Ext A ι H A ι H:=⟨aG _,λ_ _=>rfl,R.im,λ_ _ h _=>h,λr h1 h2=>absurd h2 ω,λ_ o h=>⟨o,h⟩⟩
theorem RA.qD(R:RA mg ι H A){p:Addr}{o:HO}(a:H p=none):Ext A ι H A ι (upd H p o):=
 ⟨aG _,λ_ _=>rfl,R.im,λb u h _=>by rw[a_ (c_ h a)];exact h,λr h1 h2=>absurd h2 ω,λb u h=>⟨u,by rw[a_ (c_ h a)];exact h⟩⟩
theorem RA.yz(R:RA mg ι H A){p:Addr}{o:HO}{c:C}(a:H p=none):Ext A ι H (A++[c]) (λr=>if r=A.length then p else ι r) (upd H p o):=
 ⟨θ,λr h=>by
  show(if r=A.length then p else ι r)=ι r;rw[ak ω],R.im,λb u h _=>by rw[a_ (c_ h a)];exact h,λr h1 h2=>by
  have e:r=A.length:=by simp at h2;omega
  show H (if r=A.length then p else ι r)=none;rw[ao e];exact a,λb u h=>⟨u,by rw[a_ (c_ h a)];exact h⟩⟩
theorem RA.oj(R:RA mg ι H A){r:Nat}{o:HO}{c:C}(d:r<A.length):Ext A ι H (A.set r c) ι (upd H (ι r) o):=
 ⟨θ,λ_ _=>rfl,R.im,λb u h f=>by rw[a_ (λe=>f r d e.symm)];exact h,λq h1 h2=>absurd h2 (by simp;omega),λb u h=>by
  by_cases a:b=ι r
  .subst a;exact⟨o,eE⟩
  .exact⟨u,by rw[a_ a];exact h⟩⟩
theorem RA.fix(R:RA mg ι H A)(e:Ext A ι H A ι H')(k:∀b o,H b=some o->H' b=some o):RA mg ι H' A:=⟨λr c h=>CO.ext e (λo q=>k _ o q) c (R.gS r c h),R.inj⟩
theorem RA.push{p:Addr}{o:HO}{c:C}(R:RA mg ι H A)(e:H p=none)(hc:CO mg (λr=>if r=A.length then p else ι r) (A.length+1) (upd H p o) p c):
  RA mg (λr=>if r=A.length then p else ι r) (upd H p o) (A++[c])/\Ext A ι H (A++[c]) (λr=>if r=A.length then p else ι r) (upd H p o):=by
 have E:Ext A ι H (A++[c]) (λr=>if r=A.length then p else ι r) (upd H p o):=R.yz e;have i:∀r,r<A.length->∃u,H (ι r)=some u:=λr h=>by
  obtain⟨c',f⟩:∃c',A[r]?=some c':=⟨A[r],by rw[aW h]⟩;have:=R.gS r c' f;cases c' with
  |lst ds=>obtain⟨xs,b,_⟩:=this;exact⟨_,b⟩
  |dct ds=>obtain⟨xs,b,_⟩:=this;exact⟨_,b⟩
  |bB o ds=>obtain⟨xs,b,_⟩:=this;exact⟨_,b⟩
  |ins cl ds=>obtain⟨k,dx,xs,_,b,_⟩:=this;exact⟨_,b⟩
 refine⟨⟨λr c' h=>?_,λr q g j h=>?_⟩,E⟩
 .by_cases g:r<A.length
  .rw[gB g] at h
   have:=CO.ext E (a:=ι r) (λo' q=>by rw[a_ (c_ q e)];exact q) c' (R.gS r c' h);show CO mg _ _ _ (if r=A.length then p else ι r) c';rw[ak ω];exact this
  .have hl:r=A.length:=by
    have:=(bW.mp h).1;simp at this;omega
   subst hl;simp at h;subst h;show CO mg _ _ _ (if A.length=A.length then p else ι A.length) c;rw[ao rfl];simpa using hc
 .simp at g j
  have h':(if r=A.length then p else ι r)=(if q=A.length then p else ι q):=h;by_cases h1:r=A.length
  .by_cases h2:q=A.length
   .rw[h1,h2]
   .rw[ao h1,ak h2] at h'
    obtain⟨u,d⟩:=i q ω;rw[<-h',e] at d;cases d
  .by_cases h2:q=A.length
   .rw[ak h1,ao h2] at h'
    obtain⟨u,d⟩:=i r ω;rw[h',e] at d;cases d
   .rw[ak h1,ak h2] at h'
    exact R.inj r q ω ω h'
theorem RA.put{r:Nat}{u o:HO}{c c':C}(R:RA mg ι H A)(i:A[r]?=some c)(m:H (ι r)=some u)(n:i6 u=true)(hc:CO mg ι A.length (upd H (ι r) o) (ι r) c'):
  RA mg ι (upd H (ι r) o) (A.set r c')/\Ext A ι H (A.set r c') ι (upd H (ι r) o):=by
 have f:=(bW.mp i).1;have E:Ext A ι H (A.set r c') ι (upd H (ι r) o):=R.oj f;refine⟨⟨λq d h=>?_,λa b j k=>R.inj a b (by simpa using j) (by simpa using k)⟩,E⟩;by_cases g:q=r
 .subst g
  rw[fB f] at h;cases h;simpa using hc
 .rw[gP (Ne.symm g)] at h
  have l:=(bW.mp h).1;have:=CO.ext E (a:=ι q) (λo' z=>by rw[a_ (λe=>g (R.inj q r l f e))];exact z) d (R.gS q d h);simpa using this
end
abbrev bK:=List (Option D)
noncomputable def lk:bK->Nat->Option D
 |[],_=>none
 |x::_,0=>x
 |_::r,i+1=>lk r i
theorem qR:∀(τ:bK) (i:Nat),lk τ i=(τ[i]?).join
 |[],i=>by simp[lk]
 |x::r,0=>by simp[lk]
 |x::r,i+1=>by simp[lk,qR r i]
structure En where
 A:Ar
 ι:Io
 H:Hp
structure RS(mg:aB)(ι:Io)(n:Nat)(H:Hp)(τ:bK)(σ:L2.St):Prop where
 len:τ.length=σ.length
 at':∀i d,lk τ i=some d->∃v,σ[i]?=some (some v)/\RV mg ι n H d v
structure dB(mg:aB)(N:En)(A:Ar)(ι:Io)(τ:bK)(σ:L2.St)(H:Hp):Prop where
 ra:RA mg ι H A
 rs:RS mg ι A.length H τ σ
 ex:Ext N.A N.ι N.H A ι H
abbrev DK:=D->Ar->Prop
abbrev aM:=bK->Ar->DK->Prop
abbrev ee:=bK->Ar->(Bool->Ar->Prop)->Prop
abbrev cX:=bK->Ar->(List D->Ar->Prop)->Prop
def Kt(mg:aB)(A:Ar)(ι:Io)(H:Hp)(R:DK)(Q:VK):Prop:=∀v A' ι' H' u,R v A'->Ext A ι H A' ι' H'->RA mg ι' H' A'->RV mg ι' A'.length H' v u->Q u H'
def nN(mg:aB)(A:Ar)(ι:Io)(H:Hp)(R:Bool->Ar->Prop)(Q:Bool->Hp->Prop):Prop:=∀v A' ι' H',R v A'->Ext A ι H A' ι' H'->RA mg ι' H' A'->Q v H'
def II(mg:aB)(A:Ar)(ι:Io)(H:Hp)(R:List D->Ar->Prop)(Q:List V->Hp->Prop):Prop:=∀v A' ι' H' u,R v A'->Ext A ι H A' ι' H'->RA mg ι' H' A'->aj mg ι' A'.length H' v u->Q u H'
def up(mg:aB)(N:En)(m:aM):TE:=λσ H Q=>∃A ι τ R,dB mg N A ι τ σ H/\m τ A R/\Kt mg A ι H R Q
def cR(mg:aB)(N:En)(m:ee):TT:=λσ H Q=>∃A ι τ R,dB mg N A ι τ σ H/\m τ A R/\nN mg A ι H R Q
noncomputable def fu(mg:aB)(N:En)(m:cX):TA:=λσ H Q=>∃A ι τ R,dB mg N A ι τ σ H/\m τ A R/\II mg A ι H R Q
section
variable{mg:aB}{N:En}{A A':Ar}{ι ι':Io}{τ:bK}{σ:L2.St}{H H':Hp}
theorem RS.ext(e:Ext A ι H A' ι' H')(r:RS mg ι A.length H τ σ):RS mg ι' A'.length H' τ σ:=⟨r.len,λi d h=>by
 obtain⟨v,h1,h2⟩:=r.at' i d h;exact⟨v,h1,RV.ext e d v h2⟩⟩
theorem dB.next(S:dB mg N A ι τ σ H)(e:Ext A ι H A' ι' H')(r:RA mg ι' H' A'):dB mg N A' ι' τ σ H':=⟨r,S.rs.ext e,S.ex.trans e⟩
theorem Kt.from{R:DK}{Q:VK}(k:Kt mg A ι H R Q)(e:Ext A ι H A' ι' H'):Kt mg A' ι' H' R Q:=λv b a H2 u q c=>k v b a H2 u q (e.trans c)
theorem nN.from{R:Bool->Ar->Prop}{Q:Bool->Hp->Prop}(k:nN mg A ι H R Q)(e:Ext A ι H A' ι' H'):nN mg A' ι' H' R Q:=λv b a H2 q c=>k v b a H2 q (e.trans c)
theorem Kt.here{R:DK}{Q:VK}{d:D}{v:V}(k:Kt mg A ι H R Q)(r:RA mg ι H A)(q:R d A)(h:RV mg ι A.length H d v):Q v H:=k d A ι H v q r.refl r h
theorem nN.here{R:Bool->Ar->Prop}{Q:Bool->Hp->Prop}{b:Bool}(k:nN mg A ι H R Q)(r:RA mg ι H A)(q:R b A):Q b H:=k b A ι H q r.refl r
end
section
variable{X:Cx}{e:Expr}
theorem dJ{t t':TE}(h:PE X e t)(w:∀σ H Q,t' σ H Q->t σ H Q):PE X e t':=λpins s σ H Q I q=>h pins s σ H Q I (w σ H Q q)
theorem ua{t t':TT}(h:PT X e t)(w:∀σ H Q,t' σ H Q->t σ H Q):PT X e t':=λpins s σ H Q I q=>h pins s σ H Q I (w σ H Q q)
theorem CI{t t':TT}(h:PW X e t)(w:∀σ H Q,t' σ H Q->t σ H Q):PW X e t':=λwhole pins s σ H Q I q=>h whole pins s σ H Q I (w σ H Q q)
theorem ye{es:List Expr}{t t':TA}(h:PA X es t)(w:∀σ H Q,t' σ H Q->t σ H Q):PA X es t':=λpos pins s σ H Q I q=>h pos pins s σ H Q I (w σ H Q q)
theorem iV{st:Stmt}{t t':TS}(h:PS X st t)(w:∀D σ H,t' D σ H->t D σ H):PS X st t':=λpins s σ H D I q=>h pins s σ H D I (w D σ H q)
theorem CG{st:List Stmt}{t t':TS}(h:c6 X st t)(w:∀D σ H,t' D σ H->t D σ H):c6 X st t':=λpins s σ H D I q=>h pins s σ H D I (w D σ H q)
end
noncomputable def bf(i:Nat):aM:=λτ A R=>match lk τ i with
 |some v=>R v A
 |none=>False
noncomputable def dC(d:D):aM:=λ_ A R=>R d A
section
variable{X:Cx}{N:En}{pos:Pos}
theorem J5{i:Nat}{x:Str}(b:X.N[i]?=some x)(c:nQ X.env.scope x)(hd:(x==("__debug__":Str))=false:=by decide)(a:(x==("__classdict__":Str))=false:=by decide):PE X (.Name x pos) (up X.mg N (bf i)):=
 dJ (PX b c hd a) λσ H Q h=>by
  obtain⟨A,ι,τ,R,S,h,k⟩:=h;unfold bf at h;split at h
  .rename_i v e
   obtain⟨u,h1,h2⟩:=S.rs.at' i v e;exact⟨u,h1,k.here S.ra h h2⟩
  .exact h.elim
theorem qw{e:Expr}{d:D}{v:V}(h:PE X e (tC v))(r:∀ι n H,RV X.mg ι n H d v):PE X e (up X.mg N (dC d)):=
 dJ h λσ H Q h=>by
  obtain⟨A,ι,τ,R,S,h,k⟩:=h;exact k.here S.ra h (r _ _ _)
theorem aC{i j}:PE X (.Constant (.int i) j pos) (up X.mg N (dC (.int i))):=qw PF λ_ _ _=>rfl
theorem iU{b j}:PE X (.Constant (.bool b) j pos) (up X.mg N (dC (.bl b))):=qw Po λ_ _ _=>rfl
theorem mK{j}:PE X (.Constant .none j pos) (up X.mg N (dC .aE)):=qw PJ λ_ _ _=>rfl
theorem bX{x j}:PE X (.Constant (.str x) j pos) (up X.mg N (dC (.str x))):=qw PR λ_ _ _=>rfl
theorem nX{x:Str}{i:Int}{t:Tok}(a:X.mg x=some (.int i t))(b:Gl X x:=by rfl)(hd:(x==("__debug__":Str))=false:=by decide):PE X (.Name x pos) (up X.mg N (dC (.int i))):=
 qw (EO (v:=.int i) b a ⟨_,rfl⟩ hd) λ_ _ _=>rfl
end
abbrev d_:=D->D->Ar->DK->Prop
def dU(mg:aB)(r:R2)(f:d_):Prop:=∀x y A ι H u v R Q,RA mg ι H A->RV mg ι A.length H x u->RV mg ι A.length H y v->f x y A R->Kt mg A ι H R Q->r u v H Q
noncomputable def bL(f:d_)(ma mb:aM):aM:=λτ A R=>ma τ A λx A1=>mb τ A1 λy A2=>f x y A2 R
section
variable{X:Cx}{N:En}{pos:Pos}{a b c:Expr}{ma mb mc:aM}{f f':d_}{r r':R2}
theorem vY(h:dU X.mg r f){σ:L2.St}{H:Hp}{Q:VK}(q:up X.mg N (bL f ma mb) σ H Q):rR r (up X.mg N ma) (up X.mg N mb) σ H Q:=by
 obtain⟨A,ι,τ,R,S,q,k⟩:=q;have q:ma τ A (λx a=>mb τ a λy b=>f x y b R):=q;refine⟨A,ι,τ,_,S,q,λx a c H1 u i e r1 j=>?_⟩;refine⟨a,c,τ,_,S.next e r1,i,λy b d H2 v l g m v2=>?_⟩;exact h x y b d H2 u v R Q m (RV.ext g x u j) v2 l (k.from (e.trans g))
theorem nY{op:Operator}(c:bC X (binaryOp op) r)(hd:dU X.mg r f)(d:PE X a (up X.mg N ma))(e:PE X b (up X.mg N mb)):PE X (.BinOp a op b pos) (up X.mg N (bL f ma mb)):=
 dJ (PL c d e) λ_ _ _ h=>vY hd h
theorem yh{op:CmpOp}(c:bC X (compareOp op) r)(hd:dU X.mg r f)(d:PE X a (up X.mg N ma))(e:PE X b (up X.mg N mb))(g:behindInMarks op b=false):PE X (.Compare a [op] [b] pos) (up X.mg N (bL f ma mb)):=
 dJ (Py c d e g) λ_ _ _ h=>vY hd h
noncomputable def dh(m:aM):ee:=λτ A R=>m τ A λx A1=>match x with
 |.bl k=>R k A1
 |_=>False
theorem z_{t:TE}{m:aM}(d:∀σ H Q,up X.mg N m σ H Q->t σ H Q){σ:L2.St}{H:Hp}{Q:Bool->Hp->Prop}(q:cR X.mg N (dh m) σ H Q):z3 t σ H Q:=by
 obtain⟨A,ι,τ,R,S,q,k⟩:=q;refine d _ _ _ ⟨A,ι,τ,_,S,q,λx e a H1 u c f r1 g=>?_⟩;cases x with
 |bl b=>exact⟨b,g,k b e a H1 c f r1⟩
 |_=>exact c.elim
theorem kB{op:CmpOp}(c:bC X (compareOp op) r)(hd:dU X.mg r f)(d:PE X a (up X.mg N ma))(e:PE X b (up X.mg N mb))(g:behindInMarks op b=false):PT X (.Compare a [op] [b] pos) (cR X.mg N (dh (bL f ma mb))):=
 ua (QC c d e g) λ_ _ _ h=>z_ (λ_ _ _ h=>vY hd h) h
noncomputable def qt(f f':d_)(ma mb mc:aM):aM:=λτ A R=>ma τ A λx A1=>mb τ A1 λy A2=>f x y A2 λz A3=>match z with
 |.bl k=>cond k (mc τ A3 λw A4=>f' y w A4 R) (R (.bl false) A3)
 |_=>False
theorem HF(h:dU X.mg r f)(h':dU X.mg r' f'){σ:L2.St}{H:Hp}{Q:VK}(q:up X.mg N (qt f f' ma mb mc) σ H Q):zY r r' (up X.mg N ma) (up X.mg N mb) (up X.mg N mc) σ H Q:=by
 obtain⟨A,ι,τ,R,S,q,k⟩:=q;refine⟨A,ι,τ,_,S,q,λx p e H1 u s a r1 t=>?_⟩;refine⟨p,e,τ,_,S.next a r1,s,λy B g H2 v C c m v2=>?_⟩;refine h x y B g H2 u v _ _ m (RV.ext c x u t) v2 C λz D i K w j d n E=>?_;cases z with
 |bl b=>
  refine⟨b,E,?_⟩;cases b with
  |true=>
   rw[ao rfl];refine⟨D,i,τ,_,((S.next a r1).next c m).next d n,j,λz F l G w I o J v4=>?_⟩;exact h' y z F l G v w R Q J (RV.ext (d.trans o) y v v2) v4 I (k.from (((a.trans c).trans d).trans o))
  |false=>
   rw[ak b6];exact(k.from ((a.trans c).trans d)).here n j rfl
 |_=>exact j.elim
theorem JX{op d:CmpOp}(i:bC X (compareOp op) r)(e:bC X (compareOp d) r')(hd:dU X.mg r f)(g:dU X.mg r' f')(j:PE X a (up X.mg N ma))(k:PE X b (up X.mg N mb))(hc:PE X c (up X.mg N mc))
  (l:lastMarks [op,d] [b,c]=false:=by with_unfolding_all rfl):PE X (.Compare a [op,d] [b,c] pos) (up X.mg N (qt f f' ma mb mc)):=
 dJ (Px i e j k hc l) λ_ _ _ h=>HF hd g h
theorem Kp{op d:CmpOp}(i:bC X (compareOp op) r)(e:bC X (compareOp d) r')(hd:dU X.mg r f)(g:dU X.mg r' f')(j:PE X a (up X.mg N ma))(k:PE X b (up X.mg N mb))(hc:PE X c (up X.mg N mc))
  (l:lastMarks [op,d] [b,c]=false:=by with_unfolding_all rfl):PT X (.Compare a [op,d] [b,c] pos) (cR X.mg N (dh (qt f f' ma mb mc))):=
 ua (QB i e j k hc l) λ_ _ _ h=>z_ (λ_ _ _ h=>HF hd g h) h
theorem gp{m:aM}(h:PE X a (up X.mg N m))(b:∀whole,isTrue a X.env whole=(do let v <-whole;standAt a.pos;holding [v] (truthy v)):=by intro _;rfl):PT X a (cR X.mg N (dh m)):=
 ua (QE h b) λ_ _ _ q=>z_ (λ_ _ _ h=>h) q
noncomputable def xZ(t u:ee):ee:=λτ A R=>t τ A λc A1=>cond c (u τ A1 R) (R false A1)
noncomputable def B8(t u:ee):ee:=λτ A R=>t τ A λc A1=>cond c (R true A1) (u τ A1 R)
noncomputable def B7(t:ee):ee:=λτ A R=>t τ A λc A1=>R (!c) A1
variable{tA tB:ee}{rest:List Expr}
theorem Kr(b:PT X a (cR X.mg N tA)):PW X (.BoolOp .And [a] pos) (cR X.mg N tA):=pw_and1 b
theorem jr(b:PT X a (cR X.mg N tA)):PW X (.BoolOp .Or [a] pos) (cR X.mg N tA):=pw_or1 b
theorem CH(f:PT X a (cR X.mg N tA))(g:PW X (.BoolOp .And (b::rest) pos) (cR X.mg N tB)):PW X (.BoolOp .And (a::b::rest) pos) (cR X.mg N (xZ tA tB)):=
 CI (pw_and f g) λσ H Q q=>by
  obtain⟨A,ι,τ,R,S,q,k⟩:=q;refine⟨A,ι,τ,_,S,q,λx h c H1 e d r1=>?_⟩;cases x with
  |true=>rw[ao rfl];exact⟨h,c,τ,_,S.next d r1,e,k.from d⟩
  |false=>rw[ak b6];exact(k.from d).here r1 e
theorem ig(f:PT X a (cR X.mg N tA))(g:PW X (.BoolOp .Or (b::rest) pos) (cR X.mg N tB)):PW X (.BoolOp .Or (a::b::rest) pos) (cR X.mg N (B8 tA tB)):=
 CI (pw_or f g) λσ H Q q=>by
  obtain⟨A,ι,τ,R,S,q,k⟩:=q;refine⟨A,ι,τ,_,S,q,λx h c H1 e d r1=>?_⟩;cases x with
  |true=>rw[ao rfl];exact(k.from d).here r1 e
  |false=>rw[ak b6];exact⟨h,c,τ,_,S.next d r1,e,k.from d⟩
theorem gn(b:PT X a (cR X.mg N tA)):PT X (.UnaryOp .Not a pos) (cR X.mg N (B7 tA)):=
 ua (QD b) λσ H Q q=>by
  obtain⟨A,ι,τ,R,S,q,k⟩:=q;exact⟨A,ι,τ,_,S,q,λx f c H1 d e r1=>(k.from e).here r1 d⟩
noncomputable def JD(ma mb:aM):aM:=λτ A R=>ma τ A λx A1=>match x with
 |.bl c=>cond c (mb τ A1 R) (R (.bl false) A1)
 |_=>False
theorem yj{op}(h:PE X a (up X.mg N ma)):PE X (.BoolOp op [a] pos) (up X.mg N ma):=PK h
theorem yg(g:PE X a (up X.mg N ma))(h:PE X (.BoolOp .And (b::rest) pos) (up X.mg N mb)):PE X (.BoolOp .And (a::b::rest) pos) (up X.mg N (JD ma mb)):=
 dJ (Pn g h) λσ H Q q=>by
  obtain⟨A,ι,τ,R,S,q,k⟩:=q;refine⟨A,ι,τ,_,S,q,λx i d H1 u e f r1 j=>?_⟩;cases x with
  |bl c=>
   refine⟨c,j,?_⟩;cases c with
   |true=>rw[ao rfl];exact⟨i,d,τ,_,S.next f r1,e,k.from f⟩
   |false=>rw[ak b6];exact(k.from f).here r1 e rfl
  |_=>exact e.elim
noncomputable def B4(t:ee)(ma mb:aM):aM:=λτ A R=>t τ A λc A1=>cond c (ma τ A1 R) (mb τ A1 R)
theorem Ck(hc:PT X c (cR X.mg N tA))(h:PE X a (up X.mg N ma))(i:PE X b (up X.mg N mb)):PE X (.IfExp c a b pos) (up X.mg N (B4 tA ma mb)):=
 dJ (PD hc h i) λσ H Q q=>by
  obtain⟨A,ι,τ,R,S,q,k⟩:=q;refine⟨A,ι,τ,_,S,q,λx f d H1 g e r1=>?_⟩;cases x with
  |true=>rw[ao rfl];exact⟨f,d,τ,_,S.next e r1,g,k.from e⟩
  |false=>rw[ak b6];exact⟨f,d,τ,_,S.next e r1,g,k.from e⟩
end
noncomputable def cg:cX:=λ_ A R=>R [] A
noncomputable def bG(m:aM)(n:cX):cX:=λτ A R=>m τ A λx A1=>n τ A1 λxs A2=>R (x::xs) A2
noncomputable def yb(n:cX):aM:=λτ A R=>n τ A λxs A1=>xs.length<=sizeLine/\R (.tup xs) A1
noncomputable def iT(n:cX):aM:=λτ A R=>n τ A λxs A1=>xs.length<=sizeLine/\R (.ref A1.length) (A1++[.lst xs])
section
variable{X:Cx}{N:En}{pos:Pos}{e:Expr}{es:List Expr}{m:aM}{n:cX}
theorem ah:PA X [] (fu X.mg N cg):=ye zq λσ H Q q=>by
 obtain⟨A,ι,τ,R,S,q,k⟩:=q;exact k [] A ι H [] q S.ra.refl S.ra rfl
theorem aa(f:PE X e (up X.mg N m))(g:PA X es (fu X.mg N n))(h:starEach (e::es) X.env=(false,eval e X.env)::starEach es X.env:=by rfl):PA X (e::es) (fu X.mg N (bG m n)):=
 ye (vp f g h) λσ H Q q=>by
  obtain⟨A,ι,τ,R,S,q,k⟩:=q;refine⟨A,ι,τ,_,S,q,λx i a H1 u j c r1 l=>?_⟩;refine⟨i,a,τ,_,S.next c r1,j,λy o b H2 v p d r v2=>?_⟩;exact k _ o b H2 _ p (c.trans d) r ⟨u,v,rfl,RV.ext d x u l,v2⟩
theorem uE{mg:aB}{A:Ar}{ι:Io}{H:Hp}{R:DK}{Q:VK}{ds:List D}{xs:List V}{p:Addr}(k:Kt mg A ι H R Q)(r:RA mg ι H A)(h:aj mg ι A.length H ds xs)(q:R (.tup ds) A)(a:H p=none):Q (.ref p) (upd H p (.tup xs)):=by
 have E:Ext A ι H A ι (upd H p (.tup xs)):=r.qD a;exact k _ A ι _ _ q E (r.fix E λb o z=>by rw[a_ (c_ z a)];exact z) ⟨p,xs,rfl,eE,aj.ext E ds xs h⟩
theorem oR{mg:aB}{A:Ar}{ι:Io}{H:Hp}{R:DK}{Q:VK}{ds:List D}{xs:List V}{p:Addr}(k:Kt mg A ι H R Q)(r:RA mg ι H A)(h:aj mg ι A.length H ds xs)(q:R (.ref A.length) (A++[.lst ds]))(a:H p=none):Q (.ref p) (upd H p (.lst xs)):=by
 have E:Ext A ι H (A++[.lst ds]) (λr=>if r=A.length then p else ι r) (upd H p (.lst xs)):=r.yz a;obtain⟨r1,b⟩:=r.push (c:=.lst ds) (o:=.lst xs) a ⟨xs,eE,by simpa using aj.ext E ds xs h⟩;refine k _ _ _ _ _ q b r1 ⟨θ,?_⟩;show V.ref p=V.ref (if A.length=A.length then p else ι A.length);rw[ao rfl]
theorem dW{c}(h:PA X es (fu X.mg N n)):PE X (.Tuple es c pos) (up X.mg N (yb n)):=dJ (PU h) λσ H Q q=>by
 obtain⟨A,ι,τ,R,S,q,k⟩:=q;refine⟨A,ι,τ,_,S,q,λx g d H1 u a e r1 b=>?_⟩;exact⟨by rw[<-aj.length b];exact a.1,λp f=>uE (k.from e) r1 b a.2 f⟩
theorem c8(h:PA X es (fu X.mg N n)):PE X (.List es pos) (up X.mg N (iT n)):=dJ (ES h) λσ H Q q=>by
 obtain⟨A,ι,τ,R,S,q,k⟩:=q;refine⟨A,ι,τ,_,S,q,λx f c H1 u a d r1 b=>?_⟩;exact⟨by rw[<-aj.length b];exact a.1,λp e=>oR (k.from d) r1 b a.2 e⟩
end
section
variable{mg:aB}{K:Frag}{A:Ar}{ι:Io}{H:Hp}
theorem RA.lst(r:RA mg ι H A){q:Nat}{ds:List D}(h:A[q]?=some (.lst ds)):∃xs,H (ι q)=some (.lst xs)/\aj mg ι A.length H ds xs:=r.gS q _ h
theorem RA.dct(r:RA mg ι H A){q:Nat}{ds:List (Key×D)}(h:A[q]?=some (.dct ds)):∃xs,H (ι q)=some (.dK xs)/\RK mg ι A.length H ds xs:=r.gS q _ h
theorem RA.bB(r:RA mg ι H A){q:Nat}{o:Obj}{ds:List (Key×D)}(h:A[q]?=some (.bB o ds)):∃xs,H (ι q)=some (.bM o (.dK xs))/\RK mg ι A.length H ds xs:=r.gS q _ h
theorem aj.ints:∀(ns:List Int) {n:Nat},aj mg ι n H (ns.map D.int) (ns.map V.int)
 |[],_=>rfl
 |i::r,n=>⟨_,_,rfl,rfl,aj.ints r⟩
theorem aj.Et{n:Nat}{ds:List D}(h:aj mg ι n H ds []):ds=[]:=by
 cases ds with
 |nil=>rfl
 |cons d r=>obtain⟨x,r,e,_⟩:=h;cases e
end
abbrev E5(K:Frag):R2:=λx y H Q=>i7 (λi j=>.int (i+j)) x y H Q\/(∃i j,x=.str i/\y=.str j/\i.length+j.length<=sizeLine/\Q (.str (i++j)) H)\/E8 K x y H Q\/E7 x y H Q
theorem OL{X:Cx}:bC X (binaryOp .Add) (E5 X.K):=OT.or (OU.or (OW.or OV))
@[irreducible] def tL(r q:Nat)(A:Ar)(R:DK):Prop:=match A[r]?,A[q]? with
 |some (.lst xs),some (.lst ys)=>xs.length+ys.length<=sizeLine/\R (.ref A.length) (A++[.lst (xs++ys)])
 |_,_=>False
noncomputable def mF:d_:=λx y A R=>match x,y with
 |.int i,.int j=>R (.int (i+j)) A
 |.str a,.str b=>a.length+b.length<=sizeLine/\R (.str (a++b)) A
 |.tup xs,.tup ys=>xs.length+ys.length<=sizeLine/\R (.tup (xs++ys)) A
 |.ref r,.ref q=>tL r q A R
 |_,_=>False
theorem JK{mg:aB}{K:Frag}:dU mg (E5 K) mF:=by
 intro x y A ι H u v R Q ra d e h k;unfold mF at h;split at h
 .cases d;cases e
  exact .inl ⟨_,_,rfl,rfl,k.here ra h rfl⟩
 .cases d;cases e
  exact .inr (.inl ⟨_,_,rfl,rfl,h.1,k.here ra h.2 rfl⟩)
 .obtain⟨a,xs,rfl,f,r1⟩:=d
  obtain⟨b,ys,rfl,g,c⟩:=e;refine .inr (.inr (.inl ⟨a,b,xs,ys,rfl,rfl,bQ.of f,bQ.of g,by rw[<-aj.length r1,<-aj.length c];exact h.1,λz=>?_,λ_ z=>?_,λ_ _ p i=>uE k ra (r1.app c) h.2 i⟩))
  .subst z
   obtain rfl:=aj.Et r1;exact k.here ra h.2 ⟨b,ys,rfl,g,c⟩
  .subst z
   obtain rfl:=aj.Et c;exact k.here ra h.2 ⟨a,xs,rfl,f,by rw[l_];exact r1⟩
 .rename_i r q
  unfold tL at h;split at h
  .rename_i xs ys f g
   obtain⟨j,h1,r1⟩:=ra.lst f;obtain⟨vs,h2,c⟩:=ra.lst g;obtain⟨_,rfl⟩:=d;obtain⟨_,rfl⟩:=e;exact .inr (.inr (.inr ⟨_,_,j,vs,rfl,rfl,h1,h2,by rw[<-aj.length r1,<-aj.length c];exact h.1,λp i=>oR k ra (r1.app c) h.2 i⟩))
  .exact h.elim
 .exact h.elim
noncomputable def intD(C:Int->Int->Prop)(g:Int->Int->D):d_:=λx y A R=>match x,y with
 |.int i,.int j=>C i j/\R (g i j) A
 |_,_=>False
noncomputable def uu(g:Int->Int->D):d_:=λx y A R=>match x,y with
 |.int i,.int j=>R (g i j) A
 |_,_=>False
theorem tR{mg:aB}{C:Int->Int->Prop}{g:Int->Int->V}{g':Int->Int->D}(a:∀i j ι n H,RV mg ι n H (g' i j) (g i j)):dU mg (rI C g) (intD C g'):=by
 intro x y A ι H u v R Q ra b c h k;unfold intD at h;split at h
 .cases b;cases c
  exact⟨_,_,rfl,rfl,h.1,k.here ra h.2 (a _ _ _ _ _)⟩
 .exact h.elim
theorem Ca{mg:aB}{g:Int->Int->V}{g':Int->Int->D}(a:∀i j ι n H,RV mg ι n H (g' i j) (g i j)):dU mg (i7 g) (uu g'):=by
 intro x y A ι H u v R Q ra b c h k;unfold uu at h;split at h
 .cases b;cases c
  exact⟨_,_,rfl,rfl,k.here ra h (a _ _ _ _ _)⟩
 .exact h.elim
abbrev S9:d_:=uu λi j=>.int (i - j)
abbrev Ou:d_:=intD sO λi j=>.int (i*j)
abbrev Ke:d_:=intD (λ_ j=>0<j/\j.natAbs.log2<9000) λi j=>.int (i/j)
abbrev Oq:d_:=intD (λ_ j=>0<j) λi j=>.int (i%j)
abbrev Qi:d_:=intD Ax λi j=>.int (i ^ j.toNat)
section
variable{X:Cx}{N:En}{pos:Pos}{a b c:Expr}{ma mb mc:aM}
theorem cZ(c:PE X a (up X.mg N ma))(d:PE X b (up X.mg N mb)):PE X (.BinOp a .Add b pos) (up X.mg N (bL mF ma mb)):=nY OL JK c d
theorem t6(c:PE X a (up X.mg N ma))(d:PE X b (up X.mg N mb)):PE X (.BinOp a .Sub b pos) (up X.mg N (bL S9 ma mb)):=nY Pe (Ca λ_ _ _ _ _=>rfl) c d
theorem ie(c:PE X a (up X.mg N ma))(d:PE X b (up X.mg N mb)):PE X (.BinOp a .Mult b pos) (up X.mg N (bL Ou ma mb)):=nY O9 (tR λ_ _ _ _ _=>rfl) c d
theorem qx(c:PE X a (up X.mg N ma))(d:PE X b (up X.mg N mb)):PE X (.BinOp a .FloorDiv b pos) (up X.mg N (bL Ke ma mb)):=nY O1 (tR λ_ _ _ _ _=>rfl) c d
theorem nW(c:PE X a (up X.mg N ma))(d:PE X b (up X.mg N mb)):PE X (.BinOp a .Mod b pos) (up X.mg N (bL Oq ma mb)):=nY O8 (tR λ_ _ _ _ _=>rfl) c d
theorem J3(c:PE X a (up X.mg N ma))(d:PE X b (up X.mg N mb)):PE X (.BinOp a .Pow b pos) (up X.mg N (bL Qi ma mb)):=nY Pd (tR λ_ _ _ _ _=>rfl) c d
end
abbrev Fl:R2:=λx y H Q=>i7 (λi j=>.bl (decide (i<j))) x y H Q\/∃i j,x=.str i/\y=.str j/\Q (.bl (decide (i.cps.toList<j.cps.toList))) H
abbrev Fj:R2:=λx y H Q=>i7 (λi j=>.bl (decide (i<=j))) x y H Q\/∃i j,x=.str i/\y=.str j/\Q (.bl (!decide (j.cps.toList<i.cps.toList))) H
theorem OM{X:Cx}:bC X (compareOp .Lt) Fl:=O6.or O7
theorem uF{X:Cx}:bC X (compareOp .LtE) Fj:=O4.or O5
noncomputable def zb:d_:=λx y A R=>match x,y with
 |.int i,.int j=>R (.bl (decide (i<j))) A
 |.str a,.str b=>R (.bl (decide (a.cps.toList<b.cps.toList))) A
 |_,_=>False
noncomputable def oF:d_:=λx y A R=>match x,y with
 |.int i,.int j=>R (.bl (decide (i<=j))) A
 |.str a,.str b=>R (.bl (!decide (b.cps.toList<a.cps.toList))) A
 |_,_=>False
theorem JS{mg:aB}:dU mg Fl zb:=by
 intro x y A ι H u v R Q ra a b h k;unfold zb at h;split at h
 .cases a;cases b;exact .inl ⟨_,_,rfl,rfl,k.here ra h rfl⟩
 .cases a;cases b;exact .inr ⟨_,_,rfl,rfl,k.here ra h rfl⟩
 .exact h.elim
theorem tS{mg:aB}:dU mg Fj oF:=by
 intro x y A ι H u v R Q ra a b h k;unfold oF at h;split at h
 .cases a;cases b;exact .inl ⟨_,_,rfl,rfl,k.here ra h rfl⟩
 .cases a;cases b;exact .inr ⟨_,_,rfl,rfl,k.here ra h rfl⟩
 .exact h.elim
abbrev Dy:d_:=uu λi j=>.bl (decide (j<i))
theorem JN{mg:aB}:dU mg (i7 λi j=>.bl (decide (j<i))) Dy:=Ca λ_ _ _ _ _=>rfl
noncomputable def yO:D->Bool
 |.aE=>true
 |_=>false
noncomputable def qI:d_:=λx y A R=>match y with
 |.aE=>R (.bl (yO x)) A
 |_=>False
noncomputable def zk:d_:=λx y A R=>match y with
 |.aE=>R (.bl (!yO x)) A
 |_=>False
theorem RV.Ew{mg:aB}{ι:Io}{n:Nat}{H:Hp}{x:D}{u:V}(r:RV mg ι n H x u):decide (u=.aE)=yO x:=by
 cases x with
 |aE=>cases r;rfl
 |bl b=>cases r;rfl
 |int b=>cases r;rfl
 |str b=>cases r;rfl
 |tup ds=>obtain⟨a,xs,rfl,_⟩:=r;rfl
 |ref q=>obtain⟨_,rfl⟩:=r;rfl
 |fl ns=>obtain⟨a,o,rfl,_⟩:=r;rfl
 |exc c=>obtain⟨a,C,rfl,_⟩:=r;rfl
theorem JQ{mg:aB}:dU mg (λx y H Q=>y=.aE/\Q (.bl (decide (x=.aE))) H) qI:=by
 intro x y A ι H u v R Q ra a b h k;unfold qI at h;split at h
 .cases b
  refine⟨rfl,?_⟩;rw[a.Ew];exact k.here ra h rfl
 .exact h.elim
theorem JU{mg:aB}:dU mg (λx y H Q=>y=.aE/\Q (.bl (!decide (x=.aE))) H) zk:=by
 intro x y A ι H u v R Q ra a b h k;unfold zk at h;split at h
 .cases b
  refine⟨rfl,?_⟩;rw[a.Ew];exact k.here ra h rfl
 .exact h.elim
mutual
noncomputable def toQ:D->PyData
 |.aE=>.none
 |.bl b=>.bool b
 |.int i=>.int i
 |.str x=>.str x
 |.tup xs=>.tuple (bS xs)
 |.ref _=>.none
 |.fl ns=>.list (ns.map .int)
 |.exc _=>.none
noncomputable def bS:List D->List PyData
 |[]=>[]
 |d::r=>toQ d::bS r
end
mutual
noncomputable def f7:D->Bool
 |.tup xs=>fk xs
 |.ref _=>false
 |.exc _=>false
 |_=>true
noncomputable def fk:List D->Bool
 |[]=>true
 |d::r=>f7 d&&fk r
end
noncomputable def cH(A:Ar):D->PyData
 |.ref r=>match A[r]? with
  |some (.lst xs)=>.list (bS xs)
  |_=>.none
 |d=>toQ d
noncomputable def iB(A:Ar):D->Bool
 |.ref r=>match A[r]? with
  |some (.lst xs)=>fk xs
  |_=>false
 |d=>f7 d
section
variable{mg:aB}{K:Frag}{A:Ar}{ι:Io}{H:Hp}
theorem Kf:∀ns:List Int,gi K H (ns.map V.int) (ns.map PyData.int):=gi.ints
mutual
theorem RV.dp{n:Nat}:∀(d:D) (v:V),f7 d=true->RV mg ι n H d v->Dp K H v (toQ d)
 |.aE,_,_,h=>by cases h;exact .aE
 |.bl b,_,_,h=>by cases h;exact .bl b
 |.int i,_,_,h=>by cases h;exact .int i
 |.str x,_,_,h=>by cases h;exact .str x
 |.tup ds,v,p,h=>by
  obtain⟨a,xs,rfl,e,r⟩:=h;exact .tup (bQ.of e) (aj.dp ds xs (by simpa[f7] using p) r)
 |.ref _,_,p,_=>by simp[f7] at p
 |.fl ns,v,_,h=>by
  obtain⟨a,o,rfl,e⟩:=h;exact .lst (.inl (.inr ⟨o,e⟩)) (Kf ns)
 |.exc _,_,p,_=>by simp[f7] at p
theorem aj.dp{n:Nat}:∀(ds:List D) (vs:List V),fk ds=true->aj mg ι n H ds vs->gi K H vs (bS ds)
 |[],vs,_,h=>by cases (show vs=[] from h);exact .nil
 |d::ds,vs,p,h=>by
  obtain⟨x,r,rfl,h1,h2⟩:=h;have a:f7 d=true/\fk ds=true:=by simpa[fk] using p
  exact .cons (RV.dp d x a.1 h1) (aj.dp ds r a.2 h2)
end
theorem RA.dp(ra:RA mg ι H A){d:D}{v:V}(p:iB A d=true)(h:RV mg ι A.length H d v):Dp K H v (cH A d):=by
 cases d with
 |ref r=>
  obtain⟨_,rfl⟩:=h;unfold iB at p;unfold cH;simp only at p ⊢;split at p
  .rename_i xs e
   obtain⟨a,h1,r1⟩:=ra.lst e;exact .lst (aY.of h1) (aj.dp xs a p r1)
  .cases p
 |_=>exact RV.dp _ v p h
end
@[irreducible] def fN(neg:Bool)(x y:D)(A:Ar)(R:DK):Prop:=iB A x=true/\iB A y=true/\(cH A x).canLay0=true/\(cH A y).canLay0=true/\min (cH A x).depth (cH A y).depth<=64/\R (.bl (if neg then !PyData.eqv (cH A x) (cH A y) else PyData.eqv (cH A x) (cH A y))) A
noncomputable def jI:d_:=λx y A R=>match x,y with
 |.int i,.int j=>R (.bl (decide (i=j))) A
 |.str a,.str b=>R (.bl (decide (a=b))) A
 |.bl a,.bl b=>R (.bl (decide (a=b))) A
 |x,y=>fN false x y A R
noncomputable def oQ:d_:=λx y A R=>match x,y with
 |.int i,.int j=>R (.bl (!decide (i=j))) A
 |.str a,.str b=>R (.bl (!decide (a=b))) A
 |.bl a,.bl b=>R (.bl (!decide (a=b))) A
 |x,y=>fN true x y A R
theorem Ey{X:Cx}(a:X.A.units+64<cLine):bC X (compareOp .Eq) (λx y H Q=>zC x y H Q\/zD X.K x y H Q):=OZ.or (O0 a)
theorem Ez{X:Cx}(a:X.A.units+64<cLine):bC X (compareOp .NotEq) (λx y H Q=>zF x y H Q\/zG X.K x y H Q):=O_.or (Pa a)
theorem B9{mg:aB}{K:Frag}:dU mg (λx y H Q=>zC x y H Q\/zD K x y H Q) jI:=by
 intro x y A ι H u v R Q ra a b h k;unfold jI at h;split at h
 .cases a;cases b
  rename_i i j;refine .inl ⟨rfl,?_⟩;have e:decide (V.int i=V.int j)=decide (i=j):=θ
  rw[e];exact k.here ra h rfl
 .cases a;cases b
  rename_i i j;refine .inl ⟨rfl,?_⟩;have e:decide (V.str i=V.str j)=decide (i=j):=θ
  rw[e];exact k.here ra h rfl
 .cases a;cases b
  rename_i i j;refine .inl ⟨rfl,?_⟩;have e:decide (V.bl i=V.bl j)=decide (i=j):=θ
  rw[e];exact k.here ra h rfl
 .unfold fN at h
  obtain⟨c,p2,d,f,hd,q⟩:=h;exact .inr ⟨_,_,ra.dp c a,ra.dp p2 b,d,f,hd,k.here ra q rfl⟩
theorem Cd{mg:aB}{K:Frag}:dU mg (λx y H Q=>zF x y H Q\/zG K x y H Q) oQ:=by
 intro x y A ι H u v R Q ra a b h k;unfold oQ at h;split at h
 .cases a;cases b
  rename_i i j;refine .inl ⟨rfl,?_⟩;have e:decide (V.int i=V.int j)=decide (i=j):=θ
  rw[e];exact k.here ra h rfl
 .cases a;cases b
  rename_i i j;refine .inl ⟨rfl,?_⟩;have e:decide (V.str i=V.str j)=decide (i=j):=θ
  rw[e];exact k.here ra h rfl
 .cases a;cases b
  rename_i i j;refine .inl ⟨rfl,?_⟩;have e:decide (V.bl i=V.bl j)=decide (i=j):=θ
  rw[e];exact k.here ra h rfl
 .unfold fN at h
  obtain⟨c,p2,d,f,hd,q⟩:=h;exact .inr ⟨_,_,ra.dp c a,ra.dp p2 b,d,f,hd,k.here ra q rfl⟩
noncomputable def fO:D->Option Key
 |.int i=>some (.inl i)
 |.str x=>some (.inr x)
 |_=>none
noncomputable def bw:List (Key×D)->Key->Option D
 |[],_=>none
 |p::r,k=>if p.1=k then some p.2 else bw r k
@[irreducible] def kF(r:Nat)(y:D)(A:Ar)(R:DK):Prop:=match A[r]? with
 |some (.lst xs)=>(match y with
  |.int i=>(match cM xs i with
   |some v=>R v A
   |none=>False)
  |_=>False)
 |some (.dct kvs)=>(match fO y with
  |some k=>(match bw kvs k with
   |some v=>R v A
   |none=>False)
  |none=>False)
 |some (.bB _ kvs)=>(match fO y with
  |some k=>(match bw kvs k with
   |some v=>R v A
   |none=>False)
  |none=>False)
 |_=>False
noncomputable def lK:d_:=λx y A R=>match x,y with
 |.tup xs,.int i=>match cM xs i with
  |some v=>R v A
  |none=>False
 |.str z,.int i=>match cM z.cps.toList i with
  |some c=>z.length<=sizeLine/\R (.str ⟨#[c]⟩) A
  |none=>False
 |.fl ns,.int i=>match cM ns i with
  |some c=>R (.int c) A
  |none=>False
 |.ref r,y=>kF r y A R
 |_,_=>False
section
variable{mg:aB}{K:Frag}{A:Ar}{ι:Io}{H:Hp}
theorem aj.cM{n:Nat}{ds:List D}{vs:List V}{i:Int}{d:D}(r:aj mg ι n H ds vs)(h:L2.cM ds i=some d):∃v,L2.cM vs i=some v/\RV mg ι n H d v:=by
 unfold L2.cM at h ⊢;rw[<-aj.length r];cases q:jM ds.length i with
 |none=>rw[q] at h;cases h
 |some j=>
  rw[q] at h;exact aj.get r h
theorem IV{α β:Type}(f:α->β)(xs:List α)(i:Int):L2.cM (xs.map f) i=(L2.cM xs i).map f:=by
 unfold L2.cM;rw[aS];cases jM xs.length i with
 |none=>rfl
 |some j=>simp
theorem RK.get{n:Nat}:∀{kvs:List (Key×D)} {xs:List (Key×V)} {k:Key},RK mg ι n H kvs xs->(∀d,bw kvs k=some d->∃v,eO xs k=some v/\RV mg ι n H d v)/\(bw kvs k=none->eO xs k=none)
 |[],xs,k,h=>by
  cases (show xs=[] from h);exact⟨λd e=>by simp[bw] at e,λ_=>rfl⟩
 |p::r,xs,k,h=>by
  obtain⟨x,r',rfl,h1,h2⟩:=h;obtain⟨b,c⟩:=RK.get (k:=k) h2;unfold bw;by_cases a:p.1=k
  .rw[ao a]
   have e:eO ((p.1,x)::r') k=some x:=by simp[eO,a]
   rw[e];exact⟨λd z=>by cases z;exact⟨x,rfl,h1⟩,λz=>by cases z⟩
  .rw[ak a]
   have e:eO ((p.1,x)::r') k=eO r' k:=by simp[eO,mu,a]
   rw[e];exact⟨b,c⟩
theorem mT{n:Nat}{y:D}{v:V}{k:Key}(h:fO y=some k)(r:RV mg ι n H y v):v=kV k:=by
 cases y with
 |int i=>cases h;exact r
 |str x=>cases h;exact r
 |_=>cases h
end
noncomputable def Fe:R2:=λx y H Q=>∃a v,x=.ref a/\nK H a y (some v)/\Q v H
theorem M_{X:Cx}(i:X.A.units+64<cLine):ji X Fe:=by
 intro value slice pins s σ H x y v u Q I c d h e;obtain⟨a,z,rfl,g,q⟩:=h;cases c;exact tail_any (Kd I g) PySem.F.slot_dict_getitem.lookup (JM ω I g d λj k f b=>⟨z,H,f,b,q⟩) e
abbrev Fd(K:Frag):R2:=λx y H Q=>Fc K x y H Q\/Fe x y H Q
theorem MX{X:Cx}(a:X.A.units+64<cLine):ji X (Fd X.K):=Na.or (M_ a)
theorem JR{mg:aB}{K:Frag}:dU mg (Fd K) lK:=by
 intro x y A ι H u v R Q ra g c h k;unfold lK at h;split at h
 .obtain⟨a,xs,rfl,i,r1⟩:=g
  cases c;split at h
  .rename_i d e
   obtain⟨z,hz,b⟩:=r1.cM e;exact .inl (.inr (.inl ⟨a,xs,_,z,rfl,rfl,bQ.of i,hz,k.here ra h b⟩))
  .exact h.elim
 .cases g;cases c
  split at h
  .rename_i d e
   exact .inl (.inr (.inr ⟨_,_,_,rfl,rfl,h.1,e,k.here ra h.2 rfl⟩))
  .exact h.elim
 .obtain⟨a,o,rfl,i⟩:=g
  cases c;split at h
  .rename_i d e
   exact .inl (.inl ⟨a,_,_,_,rfl,rfl,.inl (.inr ⟨o,i⟩),by rw[IV,e];rfl,k.here ra h rfl⟩)
  .exact h.elim
 .obtain⟨_,rfl⟩:=g
  unfold kF at h;split at h
  .rename_i xs e
   obtain⟨f,h1,r1⟩:=ra.lst e;split at h
   .cases c
    split at h
    .rename_i d e
     obtain⟨z,hz,b⟩:=r1.cM e;exact .inl (.inl ⟨_,f,_,z,rfl,rfl,aY.of h1,hz,k.here ra h b⟩)
    .exact h.elim
   .exact h.elim
  .rename_i kvs e
   obtain⟨f,h1,r1⟩:=ra.dct e;split at h
   .rename_i j l
    cases mT l c;split at h
    .rename_i d m
     obtain⟨z,hz,b⟩:=(RK.get r1).1 d m;exact .inr ⟨_,z,rfl,.inl ⟨f,j,.inl h1,rfl,hz.symm⟩,k.here ra h b⟩
    .exact h.elim
   .exact h.elim
  .rename_i o kvs e
   obtain⟨f,h1,r1⟩:=ra.bB e;split at h
   .rename_i j l
    cases mT l c;split at h
    .rename_i d m
     obtain⟨z,hz,b⟩:=(RK.get r1).1 d m;exact .inr ⟨_,z,rfl,.inl ⟨f,j,.inr ⟨o,h1⟩,rfl,hz.symm⟩,k.here ra h b⟩
    .exact h.elim
   .exact h.elim
  .exact h.elim
 .exact h.elim
theorem J1{X:Cx}{N:En}{pos:Pos}{a b:Expr}{ma mb:aM}(c:X.A.units+64<cLine)(d:PE X a (up X.mg N ma))(e:PE X b (up X.mg N mb))(f:sY b):PE X (.Subscript a b pos) (up X.mg N (bL lK ma mb)):=
 dJ (ER (MX c) d e f) λ_ _ _ h=>vY JR h
structure k8 where
 nx:bK->Ar->Prop
 rt:DK
 bk:bK->Ar->Prop:=λ_ _=>False
 ct:bK->Ar->Prop:=λ_ _=>False
abbrev cC:=k8->bK->Ar->Prop
def jF(mg:aB)(A:Ar)(ι:Io)(H:Hp)(R:bK->Ar->Prop)(Q:L2.St->Hp->Prop):Prop:=∀τ A' ι' σ H',R τ A'->Ext A ι H A' ι' H'->RA mg ι' H' A'->RS mg ι' A'.length H' τ σ->Q σ H'
structure sU(mg:aB)(A:Ar)(ι:Io)(H:Hp)(R:k8)(Q:Ends):Prop where
 nx:jF mg A ι H R.nx Q.nx
 rt:Kt mg A ι H R.rt Q.rt
 bk:jF mg A ι H R.bk Q.bk
 ct:jF mg A ι H R.ct Q.ct
def cJ(mg:aB)(N:En)(m:cC):TS:=λQ σ H=>∃A ι τ R,dB mg N A ι τ σ H/\m R τ A/\sU mg A ι H R Q
section
variable{mg:aB}{N:En}{A A':Ar}{ι ι':Io}{τ b7:bK}{σ σ':L2.St}{H H':Hp}
theorem jF.from{R:bK->Ar->Prop}{Q:L2.St->Hp->Prop}(k:jF mg A ι H R Q)(e:Ext A ι H A' ι' H'):jF mg A' ι' H' R Q:=λτ b a σ H2 q c=>k τ b a σ H2 q (e.trans c)
theorem sU.from{R:k8}{Q:Ends}(k:sU mg A ι H R Q)(e:Ext A ι H A' ι' H'):sU mg A' ι' H' R Q:=⟨k.nx.from e,k.rt.from e,k.bk.from e,k.ct.from e⟩
theorem jF.here{R:bK->Ar->Prop}{Q:L2.St->Hp->Prop}(k:jF mg A ι H R Q)(S:dB mg N A ι τ σ H)(q:R τ A):Q σ H:=k τ A ι σ H q S.ra.refl S.ra S.rs
theorem dB.to(S:dB mg N A ι τ σ H)(e:Ext A ι H A' ι' H')(r:RA mg ι' H' A')(s:RS mg ι' A'.length H' b7 σ'):dB mg N A' ι' b7 σ' H':=⟨r,s,S.ex.trans e⟩
theorem D6:∀(τ:bK) (i:Nat) (d:D),i<τ.length->lk (τ.set i (some d)) i=some d
 |[],i,d,h=>by simp at h
 |x::r,0,d,_=>rfl
 |x::r,i+1,d,h=>D6 r i d (by simpa using h)
theorem D5:∀(τ:bK) (i j:Nat) (d:Option D),j≠i->lk (τ.set i d) j=lk τ j
 |[],i,j,d,_=>rfl
 |x::r,0,0,d,h=>absurd rfl h
 |x::r,0,j+1,d,_=>rfl
 |x::r,i+1,0,d,_=>rfl
 |x::r,i+1,j+1,d,h=>D5 r i j d ω
theorem RS.set{n:Nat}{i:Nat}{d:D}{v:V}(r:RS mg ι n H τ σ)(h:RV mg ι n H d v):RS mg ι n H (τ.set i (some d)) (σ.set i (some v)):=⟨by simp[r.len],λj e q=>by
 by_cases a:j=i
 .subst a
  by_cases hl:j<τ.length
  .rw[D6 _ _ _ hl] at q
   cases q;refine⟨v,?_,h⟩;rw[fB (by rw[<-r.len];exact hl)]
  .rw[List.set_eq_of_length_le ω] at q
   rw[qR,nI ω] at q;cases q
 .rw[D5 _ _ _ _ a] at q
  obtain⟨w,h1,h2⟩:=r.at' j e q;exact⟨w,by rw[gP (Ne.symm a)];exact h1,h2⟩⟩
theorem dB.set{i:Nat}{d:D}{v:V}(S:dB mg N A ι τ σ H)(h:RV mg ι A.length H d v):dB mg N A ι (τ.set i (some d)) (σ.set i (some v)) H:=⟨S.ra,S.rs.set h,S.ex⟩
end
noncomputable def o7:cC:=λR τ A=>R.nx τ A
noncomputable def f9(t u:cC):cC:=λR τ A=>t {R with nx:=u R} τ A
noncomputable def zL(m:aM):cC:=λR τ A=>m τ A λ_ A1=>R.nx τ A1
noncomputable def o8(m:aM):cC:=λR τ A=>m τ A R.rt
noncomputable def o6(c:ee)(t u:cC):cC:=λR τ A=>c τ A λb A1=>cond b (t R τ A1) (u R τ A1)
section
variable{X:Cx}{N:En}{pos:Pos}{st:Stmt}{rest:List Stmt}{t u:cC}{e:Expr}{m:aM}
theorem cO:c6 X [] (cJ X.mg N o7):=CG Qz λQ σ H q=>by
 obtain⟨A,ι,τ,R,S,q,k⟩:=q;exact k.nx.here S q
theorem aI(h1:PS X st (cJ X.mg N t))(h2:c6 X rest (cJ X.mg N u)):c6 X (st::rest) (cJ X.mg N (f9 t u)):=CG (Qy h1 h2) λQ σ H q=>by
 obtain⟨A,ι,τ,R,S,q,k⟩:=q;exact⟨A,ι,τ,_,S,q,⟨λa d b e H1 f c r1 g=>⟨d,b,a,R,S.to c r1 g,f,k.from c⟩,k.rt,k.bk,k.ct⟩⟩
theorem aF(h1:PS X st (cJ X.mg N t)):c6 X [st] (cJ X.mg N t):=QA h1
theorem fY(b:PE X e (up X.mg N m))(c:swapsWith e none pos.line X.env=pure false:=by rfl):PS X (.Expr e pos) (cJ X.mg N (zL m)):=iV (Qo b c) λQ σ H q=>by
 obtain⟨A,ι,τ,R,S,q,k⟩:=q;exact⟨A,ι,τ,_,S,q,λv g d H1 u f a r1 h=>(k.nx.from a).here (S.next a r1) f⟩
theorem aU(a:PE X e (up X.mg N m)):PS X (.Return (some e) pos) (cJ X.mg N (o8 m)):=iV (Qu a) λQ σ H q=>by
 obtain⟨A,ι,τ,R,S,q,k⟩:=q;exact⟨A,ι,τ,_,S,q,k.rt⟩
theorem cF{c:Expr}{a b:List Stmt}{tc:ee}(hc:PT X c (cR X.mg N tc))(h:c6 X a (cJ X.mg N t))(i:c6 X b (cJ X.mg N u)):PS X (.If c a b pos) (cJ X.mg N (o6 tc t u)):=iV (Qq hc h i) λQ σ H q=>by
 obtain⟨A,ι,τ,R,S,q,k⟩:=q;refine⟨A,ι,τ,_,S,q,λx f d H1 g e r1=>?_⟩;cases x with
 |true=>rw[ao rfl];exact⟨f,d,τ,R,S.next e r1,g,k.from e⟩
 |false=>rw[ak b6];exact⟨f,d,τ,R,S.next e r1,g,k.from e⟩
end
abbrev jD:=D->bK->Ar->(bK->Ar->Prop)->Prop
abbrev nL:=List D->bK->Ar->(bK->Ar->Prop)->Prop
noncomputable def rW(mg:aB)(N:En)(g:jD):TG:=λv σ H Q=>∃A ι τ d R,dB mg N A ι τ σ H/\RV mg ι A.length H d v/\g d τ A R/\jF mg A ι H R Q
noncomputable def vU(mg:aB)(N:En)(g:nL):jH:=λvs σ H Q=>∃A ι τ ds R,dB mg N A ι τ σ H/\aj mg ι A.length H ds vs/\g ds τ A R/\jF mg A ι H R Q
noncomputable def gN(i:Nat):jD:=λd τ A R=>R (τ.set i (some d)) A
noncomputable def Dv:nL:=λds τ A R=>match ds with
 |[]=>R τ A
 |_=>False
noncomputable def Mf(g:jD)(h:nL):nL:=λds τ A R=>match ds with
 |d::r=>g d τ A λAv A1=>h r Av A1 R
 |[]=>False
noncomputable def gT(n:Nat)(g:nL):jD:=λd τ A R=>match d with
 |.tup ds=>ds.length=n/\g ds τ A R
 |_=>False
section
variable{X:Cx}{N:En}{pos:Pos}{e tg:Expr}{es:List Expr}{m:aM}{g:jD}{gs:nL}
theorem Cv{t t':TG}(h:PG X tg t)(w:∀v σ H Q,t' v σ H Q->t v σ H Q):PG X tg t':=λpins s σ H v u Q I r q=>h pins s σ H v u Q I r (w v σ H Q q)
theorem Cw{t t':jH}(h:jG X es t)(w:∀v σ H Q,t' v σ H Q->t v σ H Q):jG X es t':=λpins s σ H v u Q I r q=>h pins s σ H v u Q I r (w v σ H Q q)
theorem J'{i:Nat}{x:Str}(a:X.N.Nodup)(hi:X.N[i]?=some x)(hx:Loc X.env.scope x)(b:X.fn x=true\/X.env.scope.names.lookup x=some .local:=by first|exact .inl rfl|exact .inr rfl|assumption):PG X (.Name x pos) (rW X.mg N (gN i)):=
 Cv (ET a hi hx b) λv σ H Q q=>by
  obtain⟨A,ι,τ,d,R,S,r,q,k⟩:=q;exact k.here (S.set r) q
theorem n9:jG X [] (vU X.mg N Dv):=Cw vt λv σ H Q q=>by
 obtain⟨A,ι,τ,ds,R,S,r,q,k⟩:=q;unfold Dv at q;split at q
 .exact⟨r,k.here S q⟩
 .exact q.elim
theorem gV(h1:PG X e (rW X.mg N g))(h2:jG X es (vU X.mg N gs))(f:(assignEach (e::es) X.env).map (·.2)=assign e X.env::(assignEach es X.env).map (·.2):=by rfl):jG X (e::es) (vU X.mg N (Mf g gs)):=
 Cw (kI h1 h2 f) λv σ H Q q=>by
  obtain⟨A,ι,τ,ds,R,S,r,q,k⟩:=q;cases ds with
  |nil=>exact q.elim
  |cons d ds=>
   obtain⟨x,xs,rfl,r1,h⟩:=r;refine⟨x,xs,rfl,A,ι,τ,d,_,S,r1,q,λa i b j H1 l c a1 m=>?_⟩;exact⟨i,b,a,ds,R,S.to c a1 m,aj.ext c ds xs h,l,k.from c⟩
theorem nZ{k n:Nat}(hc:X.calm=true)(h:jG X es (vU X.mg N gs))(c:(assignEach es X.env).length=n:=by rfl)(b:(assignEach es X.env).findIdx? (·.1)=none:=by rfl):PG X (.Tuple es k pos) (rW X.mg N (gT n gs)):=
 Cv (vq hc h c b) λv σ H Q q=>by
  obtain⟨A,ι,τ,d,R,S,r,q,k⟩:=q;cases d with
  |tup ds=>
   obtain⟨a,xs,rfl,h1,h2⟩:=r;exact⟨a,xs,rfl,bQ.of h1,by rw[<-aj.length h2];exact q.1,A,ι,τ,ds,R,S,h2,q.2,k⟩
  |_=>exact q.elim
noncomputable def gI(i:Nat)(m:aM):cC:=λR τ A=>m τ A λv A1=>R.nx (τ.set i (some v)) A1
theorem Kn{i:Nat}{x:Str}{pos':Pos}(b:X.N.Nodup)(hi:X.N[i]?=some x)(hx:Loc X.env.scope x)(c:PE X e (up X.mg N m))(d:swapsWith e (some (.Name x pos')) pos.line X.env=pure false:=by rfl)(f:X.fn x=true\/X.env.scope.names.lookup x=some .local:=by first|exact .inl rfl|exact .inr rfl|assumption):
  PS X (.Assign [.Name x pos'] e pos) (cJ X.mg N (gI i m)):=iV (Qv b hi hx c d f) λQ σ H q=>by
 obtain⟨A,ι,τ,R,S,q,k⟩:=q;exact⟨A,ι,τ,_,S,q,λv l g H1 u h a r1 j=>(k.nx.from a).here ((S.next a r1).set j) h⟩
noncomputable def Rc(i j:Nat)(n:cX):cC:=λR τ A=>n τ A λvs A1=>match vs with
 |[v,w]=>R.nx ((τ.set i (some v)).set j (some w)) A1
 |_=>False
theorem Km{i j:Nat}{x y:Str}{a b:Expr}{n:cX}{px py pt:Pos}{kt k2 d}(hc:X.calm=true)(h:X.N.Nodup)(hi:X.N[i]? =some x)(l:X.N[j]? =some y)(e:i≠j)
  (hx:X.env.scope.names.lookup x=some .local)(hy:X.env.scope.names.lookup y=some .local)(m:PA X [a,b] (fu X.mg N n))
  (o:swappedStores [.Tuple [.Name x px,.Name y py] kt pt] (.Tuple [a,b] k2 d) X.env=pure (some [x,y]))
  (p:swapsWithSole [.Tuple [.Name x px,.Name y py] kt pt] (.Tuple [a,b] k2 d) pos.line X.env=pure false:=by rfl):
  PS X (.Assign [.Tuple [.Name x px,.Name y py] kt pt] (.Tuple [a,b] k2 d) pos) (cJ X.mg N (Rc i j n)):=iV (Qs hc h hi l e hx hy m o p) λQ σ H q=>by
 obtain⟨A,ι,τ,R,S,q,k⟩:=q
 refine⟨A,ι,τ,_,S,q,λvs z r H1 B c g r1 f=> ?_⟩
 match vs,c,f with
 |[v,w],c,f=>
  obtain⟨s,_,rfl,h1,t,_,rfl,h2,u⟩:=f
  obtain rfl:=u
  exact⟨s,t,rfl,(k.nx.from g).here (((S.next g r1).set h1).set h2) c⟩
 |[],c,_=>exact c.elim
 |[_],c,_=>exact c.elim
 |_::_::_::_,c,_=>exact c.elim
end
abbrev DX:=Str->Ar->Prop
abbrev Ct:=List D->Ar->DK->DX->Prop
def IJ(mg:aB)(A:Ar)(ι:Io)(H:Hp)(R:DX)(E:XK):Prop:=∀c A' ι' H' C,R c A'->mg c=some (.ref C)->Ext A ι H A' ι' H'->RA mg ι' H' A'->E (.ref C) none H'
noncomputable def av(mg:aB)(n:Nat)(S:Ct):Sp:=λvs H Q E=>∃A ι ds R RE,ds.length=n/\RA mg ι H A/\aj mg ι A.length H ds vs/\S ds A R RE/\Kt mg A ι H R Q/\IJ mg A ι H RE E
noncomputable def EL(mg:aB)(N:En)(R:DX):XK:=λC _ H'=>∃c A' ι',(∃a,C=.ref a/\mg c=some (.ref a))/\Ext N.A N.ι N.H A' ι' H'/\RA mg ι' H' A'/\R c A'
noncomputable def gE(n:Nat)(S:Ct)(RE:DX)(m:cX):aM:=λτ A R=>m τ A λvs A1=>vs.length=n/\S vs A1 R RE
section
variable{X:Cx}{N:En}{k n:Nat}{x:Str}{ps:List Str}{S:Ct}{RE:DX}{e:Expr}{es:List Expr}{m:cX}{p pos:Pos}
theorem JW(F:ay X.prog X.w X.K X.mg X.base k x ps (av X.mg n S))(i:dg k X.A)(hx:Passes (bJ X.prog X.w) X (EL X.mg N RE))(j:PA X (e::es) (fu X.mg N m))(l:Gl X x:=by rfl)(a:(x==("__debug__":Str))=false:=by decide)
  (o:starEach (e::es) X.env=(false,eval e X.env)::starEach es X.env:=by rfl)(b:(backTo pos (starEach es X.env)).any (·.1)=false:=by rfl):
  PE X (.Call (.Name x p) (e::es) [] pos) (up X.mg N (gE n S RE m)):=dJ (Pw F i hx j l a o b) λσ H Q q=>by
 obtain⟨A,ι,τ,R,Z,q,k⟩:=q;refine⟨A,ι,τ,_,Z,q,λvs r d H1 s g h r1 t=>?_⟩;show av X.mg n S (s++[]) H1 Q (EL X.mg N RE);rw[l_];exact⟨r,d,vs,R,RE,g.1,r1,t,g.2,k.from h,λc u f H2 C v hc y z=>⟨c,u,f,⟨C,rfl,hc⟩,(Z.ex.trans h).trans y,z,v⟩⟩
end
noncomputable def kN(n:Nat)(ds:List D):bK:=ds.map some++replicate n none
theorem y9:∀(ds:List D) (n i:Nat) (d:D),lk (kN n ds) i=some d->ds[i]?=some d
 |[],n,i,d,h=>by
  rw[qR] at h;simp[kN,An] at h;split at h<;>simp at h
 |x::r,n,0,d,h=>by simpa[kN,lk] using h
 |x::r,n,i+1,d,h=>by simpa using y9 r n i d h
theorem TopD.iX{P:Program}{w:World}{K:Frag}{mg:aB}{base:Heap}{x:Str}{st:Stmt}{Nm ps:List Str}{k n:Nat}{S:Ct}(T:TopD K mg x st ps)(Sc:bh Nm ps (aK st))(B:ps.length=n)(V:ps.length<=Nm.length)
  (g:∀(N:En) (RE:DX) (X:Cx),X.prog=P->X.w=w->X.K=K->X.mg=mg->X.base=base->X.N=Nm->X.calm=true->X.ex=[]->(∃f j A outer s H E,X=cS (bJ P w) P w K mg base Nm x (aK st) f j A outer s H E)->dg k X.A->Raises X (EL X.mg N RE)->Passes (bJ X.prog X.w) X (EL X.mg N RE)->
   ∀ds A R,S ds A R RE->ds.length=n->∃m,c6 X (gU st) (cJ X.mg N m)/\m {nx:=λ_ A'=>R .aE A',rt:=R} (kN (Nm.length - n) ds) A):ay P w K mg base (k+1) x ps (av mg n S):=by
 refine T.fnX Sc (λvs H Q E h=> ?_) λf j A outer s H vs Q E D h=> ?_
 .obtain⟨A,ι,ds,R,RE,hl,_,o,_⟩:=h
  rw[<-aj.length o,hl,B]
 .obtain⟨p,l,ds,R,RE,hl,ra,o,F,u,G⟩:=h
  have y:∀C a H',EL mg ⟨p,l,H⟩ RE C a H'->E C none H':=λC a H' z=>by
   obtain⟨c,A',ι',⟨b,rfl,hc⟩,ex,r,q⟩:=z
   exact G c A' ι' H' b q hc ex r
  obtain⟨m,J,L⟩:=g ⟨p,l,H⟩ RE (cS (bJ P w) P w K mg base Nm x (aK st) f j A outer s H E) rfl rfl rfl rfl rfl rfl rfl rfl ⟨_,_,_,_,_,_,_,rfl⟩ D
   (λpins σ H1 t e h' C args I M z=>Fp pins σ H1 t e h' C args I M (y _ _ _ z))
   (λpins σ H1 t e s' I z=>EJ pins σ H1 t e s' I (by
    obtain⟨a,C,H',h1,h2,O⟩:=z
    exact⟨a,C,H',h1,h2,y _ _ _ O⟩)) ds p R F hl
  have U:=aj.length o
  refine⟨_,J,p,l,_,_,⟨ra,⟨?_,λi d q=> ?_⟩,ra.refl⟩,L,⟨λτ A' ι' σ H' q e r _=>u _ A' ι' H' _ q e r rfl,u,λ_ _ _ _ _ q _ _ _=>q.elim,λ_ _ _ _ _ q _ _ _=>q.elim⟩⟩
  .simp[kN,L2.start]
   omega
  .obtain⟨v,h1,h2⟩:=aj.get o (y9 ds _ i d q)
   refine⟨v,?_,h2⟩
   have hi:=(bW.mp h1).1
   unfold L2.start
   rw[gB (by simpa using hi),bO,h1]
   rfl
abbrev iL:=List D->Ar->DK->Prop
def jg(mg:aB)(r:List V->Hp->VK->Prop)(f:iL):Prop:=∀ds A ι H us R Q,RA mg ι H A->aj mg ι A.length H ds us->f ds A R->Kt mg A ι H R Q->r us H Q
noncomputable def kr(f:iL)(m:cX):aM:=λτ A R=>m τ A λvs A1=>f vs A1 R
section
variable{X:Cx}{N:En}{e:Expr}{es:List Expr}{m:cX}{p pos:Pos}{f:iL}{r:List V->Hp->VK->Prop}{x:Str}{id T:String}
theorem HE(h:jg X.mg r f){σ:L2.St}{H:Hp}{Q:VK}(q:up X.mg N (kr f m) σ H Q):zX r (fu X.mg N m) σ H Q:=by
 obtain⟨A,ι,τ,R,S,q,k⟩:=q;exact⟨A,ι,τ,_,S,q,λvs b a H1 c d e r1 g=>h vs b a H1 c R Q r1 g d (k.from e)⟩
theorem dI(hc:e_ X (.builtin id) r)(hd:jg X.mg r f)(c:X.mg x=none)(d:bootBuiltins x=some (.builtin id))(g:PA X (e::es) (fu X.mg N m))(i:Gl X x:=by rfl)(j:x≠"__name__":=by decide)(a:(x==("__debug__":Str))=false:=by decide)
 (k:starEach (e::es) X.env=(false,eval e X.env)::starEach es X.env:=by rfl)(b:(backTo pos (starEach es X.env)).any (·.1)=false:=by rfl):PE X (.Call (.Name x p) (e::es) [] pos) (up X.mg N (kr f m)):=dJ (EM hc i c d g j a k b) λ_ _ _ h=>HE hd h
theorem ku(hc:e_ X (.type T) r)(hd:jg X.mg r f)(c:X.mg x=none)(d:bootBuiltins x=some (.type T))(g:PA X (e::es) (fu X.mg N m))(i:Gl X x:=by rfl)(j:x≠"__name__":=by decide)(a:(x==("__debug__":Str))=false:=by decide)
 (k:starEach (e::es) X.env=(false,eval e X.env)::starEach es X.env:=by rfl)(b:(backTo pos (starEach es X.env)).any (·.1)=false:=by rfl):PE X (.Call (.Name x p) (e::es) [] pos) (up X.mg N (kr f m)):=dJ (Pu hc i c d g j a k b) λ_ _ _ h=>HE hd h
end
@[irreducible] def uA(r:Nat)(A:Ar)(R:DK):Prop:=match A[r]? with
 |some (.lst xs)=>R (.int xs.length) A
 |some (.dct kvs)=>R (.int kvs.length) A
 |_=>False
noncomputable def uz:iL:=λvs A R=>match vs with
 |[.tup xs]=>R (.int xs.length) A
 |[.str z]=>z.length<=sizeLine/\R (.int z.length) A
 |[.fl ns]=>R (.int ns.length) A
 |[.ref r]=>uA r A R
 |_=>False
theorem RK.length{mg:aB}{ι:Io}{H:Hp}:∀{ds:List (Key×D)} {vs:List (Key×V)} {n:Nat},RK mg ι n H ds vs->ds.length=vs.length
 |[],vs,_,h=>by have h':vs=[]:=h;rw[h'];rfl
 |d::ds,vs,n,h=>by
  obtain⟨x,r,rfl,_,a⟩:=h;simp[RK.length a]
theorem gR{X:Cx}:e_ X (.builtin "len") (λxs H Q=>(∃p ys,xs=[.ref p]/\(aY X.K H p ys\/bQ X.K H p ys)/\Q (.int ys.length) H)\/(∃z,xs=[.str z]/\z.length<=sizeLine/\Q (.int z.length) H)\/∃a kvs,xs=[V.ref a]/\H a=some (.dK kvs)/\Q (.int kvs.length) H):=Jd.or (Je.or Jc)
theorem gj{mg:aB}{K:Frag}:jg mg (λxs H Q=>(∃p ys,xs=[.ref p]/\(aY K H p ys\/bQ K H p ys)/\Q (.int ys.length) H)\/(∃z,xs=[.str z]/\z.length<=sizeLine/\Q (.int z.length) H)\/∃a kvs,xs=[V.ref a]/\H a=some (.dK kvs)/\Q (.int kvs.length) H) uz:=by
 intro ds A ι H b R Q ra rs h k;unfold uz at h;split at h
 .obtain⟨_,_,rfl,⟨a,xs,rfl,c,r1⟩,rfl⟩:=rs
  exact .inl ⟨a,xs,rfl,.inr (bQ.of c),k.here ra h (by rw[aj.length r1];rfl)⟩
 .obtain⟨_,_,rfl,rfl,rfl⟩:=rs
  exact .inr (.inl ⟨_,rfl,h.1,k.here ra h.2 rfl⟩)
 .obtain⟨_,_,rfl,⟨a,o,rfl,c⟩,rfl⟩:=rs
  exact .inl ⟨a,_,rfl,.inl (.inl (.inr ⟨o,c⟩)),k.here ra h (by rw[aS];rfl)⟩
 .obtain⟨_,_,rfl,⟨_,rfl⟩,rfl⟩:=rs
  unfold uA at h;split at h
  .rename_i xs e
   obtain⟨b,h1,r1⟩:=ra.lst e;exact .inl ⟨_,b,rfl,.inl (aY.of h1),k.here ra h (by rw[aj.length r1];rfl)⟩
  .rename_i xs e
   obtain⟨b,h1,r1⟩:=ra.dct e;exact .inr (.inr ⟨_,b,rfl,h1,k.here ra h (by rw[RK.length r1];rfl)⟩)
  .exact h.elim
 .exact h.elim
@[irreducible] def U9(r:Nat)(A:Ar)(R:DK):Prop:=match A[r]? with
 |some (.lst xs)=>R (.ref A.length) (A++[.lst xs])
 |_=>False
@[irreducible] def vR(r:Nat)(A:Ar)(R:DK):Prop:=match A[r]? with
 |some (.lst xs)=>R (.tup xs) A
 |_=>False
noncomputable def vQ:iL:=λvs A R=>match vs with
 |[.tup xs]=>R (.tup xs) A
 |[.ref r]=>vR r A R
 |_=>False
theorem tU{mg:aB}{K:Frag}:jg mg (λxs H Q=>∃p ys,xs=[.ref p]/\((aY K H p ys/\∀l,H l=none->Q (.ref l) (upd H l (.tup ys)))\/(bQ K H p ys/\Q (.ref p) H))) vQ:=by
 intro ds A ι H b R Q ra rs h k;unfold vQ at h;split at h
 .obtain⟨_,_,rfl,⟨a,xs,rfl,c,r1⟩,rfl⟩:=rs
  exact⟨a,xs,rfl,.inr ⟨bQ.of c,k.here ra h ⟨a,xs,rfl,c,r1⟩⟩⟩
 .obtain⟨_,_,rfl,⟨_,rfl⟩,rfl⟩:=rs
  unfold vR at h;split at h
  .rename_i xs e
   obtain⟨b,h1,r1⟩:=ra.lst e;exact⟨_,b,rfl,.inl ⟨aY.of h1,λp d=>uE k ra r1 h d⟩⟩
  .exact h.elim
 .exact h.elim
noncomputable def jm:List D->Option (List Bool)
 |[]=>some []
 |.bl b::r=>(jm r).map (b::·)
 |_::_=>none
noncomputable def jL:List D->Option (List Int)
 |[]=>some []
 |.int b::r=>(jL r).map (b::·)
 |_::_=>none
theorem BH{mg:aB}{ι:Io}{n:Nat}{H:Hp}:∀{ds:List D} {a:List V} {bs:List Bool},jm ds=some bs->aj mg ι n H ds a->a=bs.map V.bl
 |[],a,bs,h,r=>by cases h;exact r
 |d::ds,a,bs,h,r=>by
  obtain⟨x,r',rfl,h1,h2⟩:=r;cases d with
  |bl b=>
   cases q:jm ds with
   |none=>simp[jm,q] at h
   |some l=>
    simp[jm,q] at h;subst h;rw[BH q h2];cases h1;rfl
  |_=>simp[jm] at h
theorem DG{mg:aB}{ι:Io}{n:Nat}{H:Hp}:∀{ds:List D} {a:List V} {bs:List Int},jL ds=some bs->aj mg ι n H ds a->a=bs.map V.int
 |[],a,bs,h,r=>by cases h;exact r
 |d::ds,a,bs,h,r=>by
  obtain⟨x,r',rfl,h1,h2⟩:=r;cases d with
  |int b=>
   cases q:jL ds with
   |none=>simp[jL,q] at h
   |some l=>
    simp[jL,q] at h;subst h;rw[DG q h2];cases h1;rfl
  |_=>simp[jL] at h
@[irreducible] def allR(r:Nat)(A:Ar)(R:DK):Prop:=match A[r]? with
 |some (.lst xs)=>(match jm xs with
  |some bs=>R (.bl (bs.all id)) A
  |none=>False)
 |_=>False
noncomputable def Br:iL:=λvs A R=>match vs with
 |[.ref r]=>allR r A R
 |_=>False
theorem yc{mg:aB}{K:Frag}:jg mg (λxs H Q=>∃(p:Addr) (bs:List Bool),xs=[.ref p]/\aY K H p (bs.map V.bl)/\Q (.bl (bs.all id)) H) Br:=by
 intro ds A ι H a R Q ra rs h k;unfold Br at h;split at h
 .obtain⟨_,_,rfl,⟨_,rfl⟩,rfl⟩:=rs
  unfold allR at h;split at h
  .rename_i xs e
   split at h
   .rename_i bs b
    obtain⟨a,h1,r1⟩:=ra.lst e;exact⟨_,bs,rfl,aY.of (by rw[h1,BH b r1]),k.here ra h rfl⟩
   .exact h.elim
  .exact h.elim
 .exact h.elim
@[irreducible] def vL(r:Nat)(A:Ar)(R:DK):Prop:=match A[r]? with
 |some (.lst xs)=>(match jL xs with
  |some ns=>(∀n∈ns,0<=n/\n<=2 ^ 40)/\ns.length<=1000/\R (.int ns.sum) A
  |none=>False)
 |_=>False
noncomputable def Hi:iL:=λvs A R=>match vs with
 |[.ref r]=>vL r A R
 |_=>False
theorem Cg{mg:aB}{K:Frag}:jg mg (λxs H Q=>∃(p:Addr) (ns:List Int),xs=[.ref p]/\aY K H p (ns.map V.int)/\(∀n∈ns,0<=n/\n<=2 ^ 40)/\ns.length<=1000/\Q (.int ns.sum) H) Hi:=by
 intro ds A ι H a R Q ra rs h k;unfold Hi at h;split at h
 .obtain⟨_,_,rfl,⟨_,rfl⟩,rfl⟩:=rs
  unfold vL at h;split at h
  .rename_i xs e
   split at h
   .rename_i bs b
    obtain⟨a,h1,r1⟩:=ra.lst e;exact⟨_,bs,rfl,aY.of (by rw[h1,DG b r1]),h.1,h.2.1,k.here ra h.2.2 rfl⟩
   .exact h.elim
  .exact h.elim
 .exact h.elim
noncomputable def pC(A:Ar):D->Option String
 |.aE=>some "NoneType"
 |.bl _=>some "bool"
 |.int _=>some "int"
 |.str _=>some "str"
 |.tup _=>some "tuple"
 |.fl _=>some "list"
 |.exc _=>none
 |.ref r=>match A[r]? with
  |some (.lst _)=>some "list"
  |some (.dct _)=>some "dict"
  |_=>none
noncomputable def lI(t c:String):Bool:=t==c||(t=="bool"&&c=="int")
noncomputable def JG(c:String)(m:aM):aM:=λτ A R=>m τ A λx A1=>match pC A1 x with
 |some t=>R (.bl (lI t c)) A1
 |none=>False
noncomputable def tys:List String:=["NoneType","bool","int","str","tuple","list","dict"]
theorem Ur{A:Ar}{d:D}{t:String}(h:pC A d=some t):t∈tys:=by
 cases d with
 |ref r=>
  unfold pC at h;simp only at h;split at h<;>first|(cases h;decide)|cases h
 |exc c=>cases h
 |_=>cases h;decide
theorem RA.ty{mg:aB}{K:Frag}{A:Ar}{ι:Io}{H:Hp}(ra:RA mg ι H A){d:D}{v:V}{t:String}(h:pC A d=some t)(r:RV mg ι A.length H d v):qd K H v (.type t):=by
 cases d with
 |aE=>cases h;cases r;exact .of .aE
 |bl b=>cases h;cases r;exact .of (.bl b)
 |int b=>cases h;cases r;exact .of (.int b)
 |str b=>cases h;cases r;exact .of (.str b)
 |tup ds=>cases h;obtain⟨a,xs,rfl,e,_⟩:=r;exact .of (.tup e)
 |fl ns=>cases h;obtain⟨a,o,rfl,e⟩:=r;exact .of (.bM e)
 |exc c=>cases h
 |ref q=>
  obtain⟨_,rfl⟩:=r;unfold pC at h;simp only at h;split at h
  .rename_i xs e
   cases h;obtain⟨f,h1,_⟩:=ra.lst e;exact .of (.lst h1)
  .rename_i xs e
   cases h;obtain⟨f,h1,_⟩:=ra.dct e;exact .of (.dK h1)
  .cases h
section
variable{X:Cx}{N:En}{e:Expr}{es:List Expr}{m:aM}{p p2 pos:Pos}{x:Str}{c:String}
theorem ly(l:∀t∈tys,kitOne X.K (.type t) (.type c)=some (lI t c))(n:X.mg "isinstance"=none)(b:X.mg x=none)(d:bootBuiltins x=some (.type c))(o:PE X e (up X.mg N m))(r:Gl X "isinstance":=by rfl)(f:Gl X x:=by rfl)(s:x≠"__name__":=by decide)(g:(x==("__debug__":Str))=false:=by decide)
  (h:starEach [e,.Name x p2] X.env=[(false,eval e X.env),(false,eval (.Name x p2) X.env)]:=by rfl):
  PE X (.Call (.Name "isinstance" p) [e,.Name x p2] [] pos) (up X.mg N (JG c m)):=by
 have w:PE X (.Name x p2) (tC (.ty c)):=Pp f b d rfl s g;refine dJ (EM Jb r n boot_isinstance (vp o (vp w zq rfl) (by rw[h];rfl)) δ δ (by rw[h];rfl) rfl) λσ H Q q=>?_;obtain⟨A,ι,τ,R,S,q,k⟩:=q;refine⟨A,ι,τ,_,S,q,λv i y H1 u a z r1 B=>?_⟩;have a:(match pC i v with|some t=>R (.bl (lI t c)) i|none=>False):=a;split at a
 .rename_i t j
  exact⟨u,c,.type t,lI t c,rfl,r1.ty j B,l t (Ur j),(k.from z).here r1 a rfl⟩
 .exact a.elim
end
abbrev kc:=D->List D->Ar->DK->Prop
def nO(mg:aB)(K:Frag)(T:String)(r:V->List V->Hp->VK->Prop)(f:kc):Prop:=∀x ds A ι H u us R Q,RA mg ι H A->RV mg ι A.length H x u->aj mg ι A.length H ds us->f x ds A R->Kt mg A ι H R Q->r u us H Q
noncomputable def mR(A:Ar):D->Bool
 |.ref r=>match A[r]? with
  |some (.lst _)=>true
  |_=>false
 |_=>false
noncomputable def B5(f:kc)(mo:aM)(m:cX):aM:=λτ A R=>mo τ A λx A1=>mR A1 x=true/\m τ A1 λvs A2=>f x vs A2 R
theorem RA.mR{mg:aB}{K:Frag}{A:Ar}{ι:Io}{H:Hp}(ra:RA mg ι H A){d:D}{v:V}(h:mR A d=true)(r:RV mg ι A.length H d v):z9 K "list" v H:=by
 cases d with
 |ref q=>
  obtain⟨_,rfl⟩:=r;unfold DP.mR at h;simp only at h;split at h
  .rename_i xs e
   obtain⟨a,h1,_⟩:=ra.lst e;exact .inl ⟨rfl,a,aY.of h1⟩
  .cases h
 |_=>cases h
section
variable{X:Cx}{N:En}{e o:Expr}{es:List Expr}{mo:aM}{m:cX}{apos cpos:Pos}{f:kc}{r:V->List V->Hp->VK->Prop}{name:Str}{id:String}
theorem lz(s:PlainAttrs "list")(slot:Slot "list" name id)(g:typeOf (.builtin id)=pure (.type "method_descriptor"))(t:wY X id r)(hd:nO X.mg X.K "list" r f)(v:PE X o (up X.mg N mo))(w:PA X (e::es) (fu X.mg N m))
  (b:attributeBase o name X.env (eval o X.env)=eval o X.env:=by rfl)
  (d:((backTo cpos (starEach (e::es) X.env)).all (λx=> !x.1)&&(backToKw cpos (keywordEach [] X.env)).all (λx=>x.1.isSome)
   &&decide ((e::es).length+([]:List Keyword).length+(if ([]:List Keyword).isEmpty then 0 else 1)<30))=true:=by rfl)
  (c:(apos.endLine==cpos.line)=true:=by rfl)(y:starEach (e::es) X.env=(false,eval e X.env)::starEach es X.env:=by rfl)(a:(backTo cpos (starEach es X.env)).any (·.1)=false:=by rfl):
  PE X (.Call (.Attribute o name apos) (e::es) [] cpos) (up X.mg N (B5 f mo m)):=dJ (EK s slot g t v w b d c y a) λσ H Q q=>by
 obtain⟨A,ι,τ,R,S,q,k⟩:=q
 refine⟨A,ι,τ,_,S,q,λx z h H1 u j l r1 n=> ?_⟩
 refine⟨r1.mR j.1 n,z,h,τ,_,S.next l r1,j.2,λys B i H2 C D p E v2=> ?_⟩
 exact hd x ys B i H2 u C R Q E (RV.ext p x u n) v2 D (k.from (l.trans p))
end
theorem zB{mg:aB}{A:Ar}{ι:Io}{H:Hp}{R:DK}{Q:VK}{ds es:List D}{xs ys:List V}{q:Nat}{d:D}{v:V}(k:Kt mg A ι H R Q)(r:RA mg ι H A)(a:A[q]?=some (.lst ds))(b:H (ι q)=some (.lst xs))(h:aj mg ι A.length H es ys)
  (c:R d (A.set q (.lst es)))(hd:∀H',RV mg ι A.length H' d v):Q v (upd H (ι q) (.lst ys)):=by
 have E:Ext A ι H (A.set q (.lst es)) ι (upd H (ι q) (.lst ys)):=r.oj (bW.mp a).1;obtain⟨r1,e⟩:=r.put (c':=.lst es) (o:=.lst ys) a b rfl ⟨ys,eE,by simpa using aj.ext E es ys h⟩;exact k _ _ _ _ _ c e r1 (by simpa using hd _)
@[irreducible] def tF(r:Nat)(y:D)(A:Ar)(R:DK):Prop:=match A[r]? with
 |some (.lst xs)=>xs.length<sizeLine/\R .aE (A.set r (.lst (xs++[y])))
 |_=>False
noncomputable def xE:kc:=λx vs A R=>match x,vs with
 |.ref r,[y]=>tF r y A R
 |_,_=>False
theorem qu{mg:aB}{K:Frag}:nO mg K "list" E6 xE:=by
 intro x ds A ι H u c R Q ra a rs h k;unfold xE at h;split at h
 .obtain⟨_,rfl⟩:=a
  obtain⟨v,_,rfl,b,rfl⟩:=rs;unfold tF at h;split at h
  .rename_i xs e
   obtain⟨ws,h1,r1⟩:=ra.lst e;exact⟨_,ws,v,rfl,rfl,h1,by rw[<-aj.length r1];exact h.1,zB k ra e h1 (r1.app (es:=[_]) (ws:=[v]) ⟨v,[],rfl,b,rfl⟩) h.2 λ_=>rfl⟩
  .exact h.elim
 .exact h.elim
@[irreducible] def ud(r q:Nat)(A:Ar)(R:DK):Prop:=match A[r]?,A[q]? with
 |some (.lst xs),some (.lst ys)=>xs.length+ys.length<=sizeLine/\R .aE (A.set r (.lst (xs++ys)))
 |_,_=>False
noncomputable def CY:kc:=λx vs A R=>match x,vs with
 |.ref r,[.ref q]=>ud r q A R
 |_,_=>False
theorem B_{mg:aB}{K:Frag}:nO mg K "list" E9 CY:=by
 intro x ds A ι H u d R Q ra b rs h k;unfold CY at h;split at h
 .obtain⟨_,rfl⟩:=b
  obtain⟨v,_,rfl,⟨_,rfl⟩,rfl⟩:=rs;unfold ud at h;split at h
  .rename_i xs ys e c
   obtain⟨ws,h1,r1⟩:=ra.lst e;obtain⟨zs,h2,a⟩:=ra.lst c;exact⟨_,_,ws,zs,rfl,rfl,h1,h2,by rw[<-aj.length r1,<-aj.length a];exact h.1,zB k ra e h1 (r1.app a) h.2 λ_=>rfl⟩
  .exact h.elim
 .exact h.elim
noncomputable def Rg(RE:DX)(c:Str)(m:cX):cC:=λ_ τ A=>m τ A λvs A1=>vs.length<=sizeLine/\RE c A1
theorem oh{X:Cx}{N:En}{RE:DX}{x:Str}{C:Addr}{e:Expr}{m:cX}{np cpos pos:Pos}(f:Raises X (EL X.mg N RE))(hc:X.calm=true)(c:X.mg x=some (.ref C))(g:excIn X.K C m_ "ValueError.__new__"=true)(h:PA X [e] (fu X.mg N m))(i:Gl X x:=by rfl)(a:(x==("__debug__":Str))=false:=by decide)
  (j:starEach [e] X.env=[(false,eval e X.env)]:=by rfl):PS X (.Raise (some (.Call (.Name x np) [e] [] cpos)) none pos) (cJ X.mg N (Rg RE x m)):=iV (Qt f hc c g h i a j) λQ σ H q=>by
 obtain⟨A,ι,τ,R,S,q,k⟩:=q;exact⟨A,ι,τ,_,S,q,λvs l b H1 p d n r1 o=>⟨by rw[<-aj.length o];exact d.1,x,l,b,⟨C,rfl,c⟩,S.ex.trans n,r1,d.2⟩⟩
noncomputable def jt:D->Bool
 |.int _|.str _=>true
 |_=>false
noncomputable def qA:D->D->Bool
 |.int i,.int j=>decide (i=j)
 |.str a,.str b=>decide (a=b)
 |_,_=>false
noncomputable def jK(x:D)(xs:List D):Bool:=xs.any λy=>qA y x
section
variable{mg:aB}{K:Frag}{A:Ar}{ι:Io}{H:Hp}{n:Nat}
theorem yC{d:D}{v:V}(h:jt d=true)(r:RV mg ι n H d v):jJ v=true:=by
 cases d with
 |int i=>cases r;rfl
 |str i=>cases r;rfl
 |_=>cases h
theorem KG{d e:D}{u v:V}(h1:jt d=true)(h2:jt e=true)(r1:RV mg ι n H d u)(a:RV mg ι n H e v):iW u v=qA d e:=by
 cases d with
 |int i=>
  cases r1;cases e with
  |int j=>cases a;simp[iW,qA,Bool.beq_eq_decide_eq]
  |str j=>cases a;rfl
  |_=>cases h2
 |str i=>
  cases r1;cases e with
  |int j=>cases a;rfl
  |str j=>cases a;simp[iW,qA,Bool.beq_eq_decide_eq]
  |_=>cases h2
 |_=>cases h1
theorem yN{x:D}{v:V}(hx:jt x=true)(a:RV mg ι n H x v):∀{ds:List D} {vs:List V},ds.all jt=true->aj mg ι n H ds vs->ur v vs=jK x ds/\vs.all jJ=true
 |[],vs,_,r=>by cases (show vs=[] from r);exact⟨rfl,rfl⟩
 |d::ds,vs,h,r=>by
  obtain⟨y,r',rfl,h1,h2⟩:=r;have h':jt d=true/\ds.all jt=true:=by simpa using h
  obtain⟨b,c⟩:=yN hx a h'.2 h2;constructor
  .show(iW y v||ur v r')=(qA d x||jK x ds)
   rw[KG h'.1 hx h1 a,b]
  .simp[yC h'.1 h1,c]
end
abbrev rG(neg:Bool):R2:=λx y H Q=>∃a o,y=.ref a/\nK H a x o/\Q (.bl (if neg then !o.isSome else o.isSome)) H
theorem zm{X:Cx}(e:X.A.units+64<cLine):bC X (compareOp .In) (rG false):=by
 intro pins s σ H x y v u Q I b c h;obtain⟨a,o,rfl,g,q⟩:=h;cases c;exact JO ω I g b λf d=>⟨.bl o.isSome,H,d,rfl,q⟩
theorem ON{X:Cx}(e:X.A.units+64<cLine):bC X (compareOp .NotIn) (rG true):=by
 intro pins s σ H x y v u Q I b c h;obtain⟨a,o,rfl,g,q⟩:=h;cases c;exact JT ω I g b λf d=>⟨.bl (!o.isSome),H,d,rfl,q⟩
@[irreducible] def inR(neg:Bool)(x:D)(r:Nat)(A:Ar)(R:DK):Prop:=match A[r]? with
 |some (.lst xs)=>jt x=true/\xs.all jt=true/\R (.bl (if neg then !jK x xs else jK x xs)) A
 |some (.dct kvs)=>(match fO x with
  |some k=>R (.bl (if neg then !(bw kvs k).isSome else (bw kvs k).isSome)) A
  |none=>False)
 |_=>False
noncomputable def inD(neg:Bool):d_:=λx y A R=>match y with
 |.tup xs=>jt x=true/\xs.all jt=true/\R (.bl (if neg then !jK x xs else jK x xs)) A
 |.ref r=>inR neg x r A R
 |_=>False
theorem yd{mg:aB}{K:Frag}(neg:Bool):dU mg (λx y H Q=>zE K neg x y H Q\/rG neg x y H Q) (inD neg):=by
 intro x y A ι H u v R Q ra c j h k;unfold inD at h;split at h
 .obtain⟨a,xs,rfl,l,r1⟩:=j
  obtain⟨f,g⟩:=yN h.1 c h.2.1 r1;exact .inl ⟨a,xs,rfl,.inr (bQ.of l),yC h.1 c,g,by rw[f];exact k.here ra h.2.2 rfl⟩
 .obtain⟨_,rfl⟩:=j
  unfold inR at h;split at h
  .rename_i xs e
   obtain⟨i,h1,r1⟩:=ra.lst e;obtain⟨f,g⟩:=yN h.1 c h.2.1 r1;exact .inl ⟨_,i,rfl,.inl (aY.of h1),yC h.1 c,g,by rw[f];exact k.here ra h.2.2 rfl⟩
  .rename_i kvs e
   obtain⟨i,h1,r1⟩:=ra.dct e;split at h
   .rename_i b m
    cases mT m c;obtain⟨f,g⟩:=RK.get (k:=b) r1;refine .inr ⟨_,eO i b,rfl,.inl ⟨i,b,.inl h1,rfl,rfl⟩,?_⟩;have n:(eO i b).isSome=(bw kvs b).isSome:=by
     cases q:bw kvs b with
     |none=>rw[g q];rfl
     |some d=>obtain⟨z,hz,_⟩:=f d q;rw[hz];rfl
    rw[n];exact k.here ra h rfl
   .exact h.elim
  .exact h.elim
 .exact h.elim
section
variable{X:Cx}{N:En}{pos:Pos}{a b c:Expr}{ma mb mc:aM}{x:Str}
theorem vr(i:Nat)(b:X.N[i]?=some x:=by rfl)(c:nQ X.env.scope x:=by first|exact Or.inl rfl|exact Or.inr (Or.inl rfl)|exact Or.inr (Or.inr rfl))(hd:(x==("__debug__":Str))=false:=by decide)
 (a:(x==("__classdict__":Str))=false:=by decide):PE X (.Name x pos) (up X.mg N (bf i)):=J5 b c hd a
theorem uc(c:X.A.units+64<cLine)(d:PE X a (up X.mg N ma))(e:PE X b (up X.mg N mb)):PE X (.Compare a [.Eq] [b] pos) (up X.mg N (bL jI ma mb)):=yh (Ey c) B9 d e (lS _)
theorem gu(c:X.A.units+64<cLine)(d:PE X a (up X.mg N ma))(e:PE X b (up X.mg N mb)):PT X (.Compare a [.Eq] [b] pos) (cR X.mg N (dh (bL jI ma mb))):=kB (Ey c) B9 d e (lS _)
theorem Ku(c:X.A.units+64<cLine)(d:PE X a (up X.mg N ma))(e:PE X b (up X.mg N mb)):PE X (.Compare a [.NotEq] [b] pos) (up X.mg N (bL oQ ma mb)):=yh (Ez c) Cd d e (lS _)
theorem m8(c:X.A.units+64<cLine)(d:PE X a (up X.mg N ma))(e:PE X b (up X.mg N mb)):PT X (.Compare a [.NotEq] [b] pos) (cR X.mg N (dh (bL oQ ma mb))):=kB (Ez c) Cd d e (lS _)
theorem z4(c:PE X a (up X.mg N ma))(d:PE X b (up X.mg N mb)):PT X (.Compare a [.Lt] [b] pos) (cR X.mg N (dh (bL zb ma mb))):=kB OM JS c d (lS _)
theorem Hs(c:PE X a (up X.mg N ma))(d:PE X b (up X.mg N mb)):PT X (.Compare a [.Gt] [b] pos) (cR X.mg N (dh (bL Dy ma mb))):=kB O2 JN c d (lS _)
theorem Ht(c:PE X a (up X.mg N ma))(d:PE X b (up X.mg N mb)):PT X (.Compare a [.Is] [b] pos) (cR X.mg N (dh (bL qI ma mb))):=kB O3 JQ c d (lS _)
theorem Hu(c:PE X a (up X.mg N ma))(d:PE X b (up X.mg N mb)):PT X (.Compare a [.IsNot] [b] pos) (cR X.mg N (dh (bL zk ma mb))):=kB Pc JU c d (lS _)
theorem CJ(c:X.A.units+64<cLine)(d:PE X a (up X.mg N ma))(e:PE X b (up X.mg N mb))(f:behindInMarks .In b=false:=by rfl):PE X (.Compare a [.In] [b] pos) (up X.mg N (bL (inD false) ma mb)):=yh (ED.or (zm c)) (yd false) d e f
theorem T4(c:X.A.units+64<cLine)(d:PE X a (up X.mg N ma))(e:PE X b (up X.mg N mb))(f:behindInMarks .In b=false:=by rfl):PT X (.Compare a [.In] [b] pos) (cR X.mg N (dh (bL (inD false) ma mb))):=kB (ED.or (zm c)) (yd false) d e f
theorem pA(c:X.A.units+64<cLine)(d:PE X a (up X.mg N ma))(e:PE X b (up X.mg N mb))(f:behindInMarks .NotIn b=false:=by rfl):PT X (.Compare a [.NotIn] [b] pos) (cR X.mg N (dh (bL (inD true) ma mb))):=kB (Pb.or (ON c)) (yd true) d e f
theorem CK(d:PE X a (up X.mg N ma))(e:PE X b (up X.mg N mb))(hc:PE X c (up X.mg N mc))(f:lastMarks [.LtE,.LtE] [b,c]=false:=by with_unfolding_all rfl):PE X (.Compare a [.LtE,.LtE] [b,c] pos) (up X.mg N (qt oF oF ma mb mc)):=JX uF uF tS tS d e hc f
theorem Hv(d:PE X a (up X.mg N ma))(e:PE X b (up X.mg N mb))(hc:PE X c (up X.mg N mc))(f:lastMarks [.LtE,.LtE] [b,c]=false:=by with_unfolding_all rfl):PT X (.Compare a [.LtE,.LtE] [b,c] pos) (cR X.mg N (dh (qt oF oF ma mb mc))):=Kp uF uF tS tS d e hc f
end
theorem iX{P:Program}{w:World}{K:Frag}{mg:aB}{base:Heap}{x:Str}{st:Stmt}{Nm ps:List Str}{k n:Nat}{S:Ct}(T:TopD K mg x st ps)(Sc:bh Nm ps (aK st))(c:ps.length=n)(d:ps.length<=Nm.length)
  (b:∀(N:En) (RE:DX) (f:Addr) (a:Value) (B:Around) (outer:List Env) (s:Shared) (H:Hp) (E:XK),dg k (cS (bJ P w) P w K mg base Nm x (aK st) f a B outer s H E).A->
   Raises (cS (bJ P w) P w K mg base Nm x (aK st) f a B outer s H E) (EL mg N RE)->Passes (bJ P w) (cS (bJ P w) P w K mg base Nm x (aK st) f a B outer s H E) (EL mg N RE)->
   ∀ds A R,S ds A R RE->ds.length=n->∃m,c6 (cS (bJ P w) P w K mg base Nm x (aK st) f a B outer s H E) (gU st) (cJ mg N m)/\m {nx:=λ_ A'=>R .aE A',rt:=R} (kN (Nm.length - n) ds) A):ay P w K mg base (k+1) x ps (av mg n S):=by
 refine TopD.iX T Sc c d λN RE X _ _ _ _ _ _ _ _ e g i hx ds A R h hl=>?_;obtain⟨f,a,B,outer,s,H,E,rfl⟩:=e;exact b N RE f a B outer s H E g i hx ds A R h hl
noncomputable def Ri(c:ee)(b:cC):cC:=λR τ A=>∃W:Nat->bK->Ar->Prop,(∃n,W n τ A)/\∀n τ A,W n τ A->c τ A λk A1=>cond k (∃Nx:bK->Ar->Prop,(∀b7 A',Nx b7 A'->∃n',n'<n/\W n' b7 A')/\b {R with nx:=Nx,ct:=Nx,bk:=R.nx} τ A1) (R.nx τ A1)
section
variable{X:Cx}{N:En}{pos:Pos}{c:Expr}{body:List Stmt}{tc:ee}{tb:cC}
theorem CF(y:PassesOwn (model X.prog X.w) X.A X.env X.xe)(hc:PT X c (cR X.mg N tc))(B:c6 X body (cJ X.mg N tb)):PS X (.While c body [] pos) (cJ X.mg N (Ri tc tb)):=iV (Qx y hc B) λQ σ H q=>by
 obtain⟨A,ι,τ,R,S,⟨W,⟨n,C⟩,turn⟩,k⟩:=q;refine⟨λn σ' H'=>∃A' ι' b7,dB X.mg N A' ι' b7 σ' H'/\Ext A ι H A' ι' H'/\W n b7 A',⟨n,A,ι,τ,S,S.ra.refl,C⟩,?_⟩;rintro m D H1 ⟨x,o,d,g,h,E⟩;refine⟨x,o,d,_,g,turn m d x E,λb F p H2 j a l=>?_⟩;cases b with
 |true=>
  rw[ao rfl];obtain⟨G,I,j⟩:=j;refine⟨λσ' H'=>∃A' ι' b7,dB X.mg N A' ι' b7 σ' H'/\Ext A ι H A' ι' H'/\G b7 A',λσ' H' ⟨A',ι',b7,J,K,z⟩=>?_,?_⟩
  .obtain⟨L,M,O⟩:=I b7 A' z
   exact⟨L,M,A',ι',b7,J,K,O⟩
  .refine⟨F,p,d,_,g.next a l,j,⟨?_,k.rt.from (h.trans a),k.nx.from (h.trans a),?_⟩⟩
   .exact λe r f s P t i u v=>⟨r,f,e,(g.next a l).to i u v,(h.trans a).trans i,t⟩
   .exact λe r f s P t i u v=>⟨r,f,e,(g.next a l).to i u v,(h.trans a).trans i,t⟩
 |false=>
  rw[ak b6];exact(k.nx.from (h.trans a)).here (g.next a l) j
end
structure kh(mg:aB)(A0:Ar)(HR:Io)(H0:Hp)(J:It)(items:List D)(fF:Ar->Prop):Prop where
 go:∀(i:Nat) d A ι H,items[i]? =some d->Ext A0 HR H0 A ι H->RA mg ι H A->fF A->J.go i H/\∀x H',J.v8 i H x H'->Ext A ι H A ι H'/\RA mg ι H' A/\RV mg ι A.length H' d x
 stop:∀A ι H,Ext A0 HR H0 A ι H->RA mg ι H A->fF A->J.stop items.length H
abbrev iM:=bK->Ar->(List D->(Ar->Prop)->Ar->Prop)->Prop
noncomputable def i_(mg:aB)(N:En)(m:iM):TI:=λσ H Q=>∃A ι τ R,dB mg N A ι τ σ H/\m τ A R/\∀items fF A' ι' H' J,R items fF A'->Ext A ι H A' ι' H'->RA mg ι' H' A'->kh mg A' ι' H' J items fF->Q J H'
theorem n_{X:Cx}{tg e:Expr}{t t':TI}(h:PI X tg e t)(w:∀σ H Q,t' σ H Q->t σ H Q):PI X tg e t':=λpins s σ H Q I q=>h pins s σ H Q I (w σ H Q q)
section
variable{mg:aB}{K:Frag}{A:Ar}{ι:Io}{H:Hp}
theorem Nn{a:Addr}{ds:List D}{xs:List V}(f:H a=some (.tup xs))(g:aj mg ι A.length H ds xs):kh mg A ι H (wW K a) ds (λ_=>True) where
 go:=λi d h c H1 hd e r _=>by
  have b:=e.fix rfl f;obtain⟨v,h1,h2⟩:=aj.get (aj.ext e ds xs g) hd;refine⟨⟨xs,v,bQ.of b,h1⟩,λx H' y=>?_⟩;obtain⟨rfl,y⟩:=y;have:=y xs (bQ.of b);rw[h1] at this;cases this;exact⟨r.refl,r,h2⟩
 stop:=λh c H1 e r _=>⟨xs,bQ.of (e.fix rfl f),by rw[aj.length g];exact aG _⟩
theorem Ng{a:Addr}{o:Obj}{ns:List Int}(f:H a=some (.bM o (.lst (ns.map V.int)))):kh mg A ι H (sR K a) (ns.map D.int) (λ_=>True) where
 go:=λi d g b H1 hd e r _=>by
  have c:aY K H1 a (ns.map V.int):=.inl (.inr ⟨o,e.fix rfl f⟩);obtain⟨v,h1,h2⟩:=aj.get (aj.ints (mg:=mg) (ι:=b) (H:=H1) ns (n:=g.length)) hd;refine⟨⟨_,v,c,h1⟩,λx H' y=>?_⟩;obtain⟨rfl,y⟩:=y;have:=y _ c;rw[h1] at this;cases this;exact⟨r.refl,r,h2⟩
 stop:=λg b H1 e r _=>⟨_,.inl (.inr ⟨o,e.fix rfl f⟩),θ⟩
theorem Ni{q:Nat}{ds:List D}(b:q<A.length):kh mg A ι H (sR K (ι q)) ds (λA'=>A'[q]?=some (.lst ds)) where
 go:=λi d f a H1 hd e r hc=>by
  obtain⟨xs,h1,h2⟩:=r.lst hc;rw[e.ag q b] at h1;obtain⟨v,c,g⟩:=aj.get h2 hd;refine⟨⟨xs,v,aY.of h1,c⟩,λx H' y=>?_⟩;obtain⟨rfl,y⟩:=y;have:=y xs (aY.of h1);rw[c] at this;cases this;exact⟨r.refl,r,g⟩
 stop:=λf a H1 e r hc=>by
  obtain⟨xs,h1,h2⟩:=r.lst hc;rw[e.ag q b] at h1;exact⟨xs,aY.of h1,by rw[aj.length h2];exact aG _⟩
noncomputable def eN(lo:Int)(n:Nat):List D:=(range n).map λ(i:Nat)=>D.int (lo+i)
theorem Nk{lo:Int}{n:Nat}:kh mg A ι H (sS lo n) (eN lo n) (λ_=>True) where
 go:=λi d c a H1 hd e r _=>by
  unfold eN at hd;rw[bO] at hd;cases q:(range n)[i]? with
  |none=>rw[q] at hd;cases hd
  |some j=>
   rw[q] at hd;have hi:=(bW.mp q).1;have b:=(bW.mp q).2;simp at hi b;subst b;cases hd;refine⟨hi,λx H' y=>?_⟩;obtain⟨rfl,rfl⟩:=y;exact⟨r.refl,r,rfl⟩
 stop:=λc a H1 e r _=>by
  show n<=_;simp[eN]
noncomputable def kK(z:Str):List D:=z.cps.toList.map λc=>D.str ⟨#[c]⟩
theorem Nl{z:Str}:kh mg A ι H (wV z) (kK z) (λ_=>True) where
 go:=λi d b a H1 hd e r _=>by
  unfold kK at hd;rw[bO] at hd;cases q:z.cps.toList[i]? with
  |none=>rw[q] at hd;cases hd
  |some j=>
   rw[q] at hd;cases hd;have hi:=(bW.mp q).1;refine⟨show i<z.cps.size by simpa using hi,λx H' y=>?_⟩;obtain⟨rfl,c,hc,rfl⟩:=y;have:z.cps.toList[i]?=some c:=by simpa using hc
   rw[q] at this;cases this;exact⟨r.refl,r,rfl⟩
 stop:=λb a H1 e r _=>by
  show _=_;simp[kK]
end
noncomputable def MU(K:Frag)(tl:TE):TI:=λσ H R=>tl σ H λx H1=>(∃a,x=.ref a/\(∃xs,aY K H1 a xs)/\R (sR K a) H1)\/(∃a,x=.ref a/\(∃xs,bQ K H1 a xs)/\R (wW K a) H1)
theorem P7{X:Cx}{tg l:Expr}{tl:TE}(hl:PE X l tl):PI X tg l (MU X.K tl):=by
 intro pins s σ H R I h;refine aJ (hl pins s σ H _ I h) λv c ⟨x,H1,d,r1,i⟩=>?_;rcases i with⟨a,e,⟨xs,f⟩,q⟩|⟨a,e,⟨xs,f⟩,q⟩
 .subst e
  cases r1;obtain⟨its,j,p,hz⟩:=d.list f;refine su p.isList ?_;refine⟨c.heap.objs.size,[c.heap.objs.size],_,_,H1,rfl,d.kept (t':=c.toks) λb o e=>bA _ e,Uk a _,⟨_,cu _ rfl,rfl,rfl⟩,λb g=>?_,q⟩;have e:b=c.heap.objs.size:=by simpa using g
  subst e;exact d.lC (aG _) (d.hok.fresh (aG _))
 .subst e
  cases r1;obtain⟨its,j,p,hz⟩:=d.tuple f;refine wpAny_pyIter_tuple (show c.heap.IsTuple a its.toArray from p) ?_;refine⟨c.heap.objs.size,[c.heap.objs.size],_,_,H1,rfl,d.kept (t':=c.toks) λb o e=>bA _ e,Uq a _,⟨_,cu _ rfl,rfl,rfl⟩,λb g=>?_,q⟩;have e:b=c.heap.objs.size:=by simpa using g
  subst e;exact d.lC (aG _) (d.hok.fresh (aG _))
@[irreducible] def itR(r:Nat)(A:Ar)(R:List D->(Ar->Prop)->Ar->Prop):Prop:=match A[r]? with
 |some (.lst xs)=>R xs (λA'=>A'[r]?=some (.lst xs)) A
 |_=>False
noncomputable def ow(m:aM):iM:=λτ A R=>m τ A λx A1=>match x with
 |.tup xs=>R xs (λ_=>True) A1
 |.fl ns=>R (ns.map .int) (λ_=>True) A1
 |.ref r=>itR r A1 R
 |_=>False
noncomputable def MW(m:aM):iM:=λτ A R=>m τ A λx A1=>match x with
 |.str z=>R (kK z) (λ_=>True) A1
 |_=>False
noncomputable def yL(n:cX):iM:=λτ A R=>n τ A λvs A1=>match vs with
 |[.int j]=> -(2 ^ 62)<=j/\j<2 ^ 62/\R (eN 0 j.toNat) (λ_=>True) A1
 |_=>False
section
variable{X:Cx}{N:En}{pos p:Pos}{tg e a b:Expr}{m:aM}{n:cX}{nm:Str}{px:Pos}
theorem di(h:PE X e (up X.mg N m)):PI X tg e (i_ X.mg N (ow m)):=n_ (P7 h) λσ H Q q=>by
 obtain⟨A,ι,τ,R,S,q,k⟩:=q;refine⟨A,ι,τ,_,S,q,λx d c H1 u a f r1 g=>?_⟩;cases x with
 |tup ds=>
  obtain⟨b,xs,rfl,h1,h2⟩:=g;exact .inr ⟨b,rfl,⟨xs,bQ.of h1⟩,k ds _ d c H1 _ a f r1 (Nn h1 h2)⟩
 |fl ns=>
  obtain⟨b,o,rfl,h1⟩:=g;exact .inl ⟨b,rfl,⟨_,.inl (.inr ⟨o,h1⟩)⟩,k _ _ d c H1 _ a f r1 (Ng h1)⟩
 |ref r=>
  obtain⟨i,rfl⟩:=g;have a:itR r d R:=a;unfold itR at a;split at a
  .rename_i xs e
   obtain⟨j,h1,_⟩:=r1.lst e;exact .inl ⟨_,rfl,⟨j,aY.of h1⟩,k _ _ d c H1 _ a f r1 (Ni i)⟩
  .exact a.elim
 |_=>exact a.elim
theorem Kc(c:PE X e (up X.mg N m)):PI X (.Name nm px) e (i_ X.mg N (MW m)):=n_ (P8 c) λσ H Q q=>by
 obtain⟨A,ι,τ,R,S,q,k⟩:=q;refine⟨A,ι,τ,_,S,q,λx d a H1 u b f r1 g=>?_⟩;cases x with
 |str z=>exact⟨z,g,k _ _ d a H1 _ b f r1 Nl⟩
 |_=>exact b.elim
theorem ym(e:X.mg "range"=none)(f:PA X [a] (fu X.mg N n))(g:Gl X "range":=by rfl)(h:starEach [a] X.env=[(false,eval a X.env)]:=by rfl):PI X tg (.Call (.Name "range" p) [a] [] pos) (i_ X.mg N (yL n)):=n_ (P5 g e f h) λσ H Q q=>by
 obtain⟨A,ι,τ,R,S,q,k⟩:=q;refine⟨A,ι,τ,_,S,q,λx i c H1 u b l r1 d=>?_⟩;match x,b,d with
 |[.int j],b,d=>
  obtain⟨_,_,rfl,rfl,rfl⟩:=d;exact⟨j,rfl,b.1,b.2.1,k _ _ i c H1 _ b.2.2 l r1 Nk⟩
end
noncomputable def mJ(fF:Ar->Prop)(g:jD)(b:cC)(R:k8):List D->bK->Ar->Prop
 |[],τ,A=>fF A/\R.nx τ A
 |x::xs,τ,A=>fF A/\g x τ A λAv A1=>b {R with nx:=mJ fF g b R xs,ct:=mJ fF g b R xs,bk:=R.nx} Av A1
noncomputable def zM(it:iM)(g:jD)(b:cC):cC:=λR τ A=>it τ A λitems fF A1=>mJ fF g b R items τ A1
theorem gm{X:Cx}{N:En}{pos:Pos}{tg iter:Expr}{body:List Stmt}{it:iM}{g:jD}{tb:cC}(M:PassesOwn (model X.prog X.w) X.A X.env X.xe)(hc:X.calm=true)(hi:PI X tg iter (i_ X.mg N it))(O:PG X tg (rW X.mg N g))(P:c6 X body (cJ X.mg N tb))
  (T:∀x,foldedSetIterable iter X.env x=pure x:=by intro _;rfl):PS X (.For tg iter body [] pos) (cJ X.mg N (zM it g tb)):=iV (Qp M hc hi O P T) λQ σ H q=>by
 obtain⟨A,ι,τ,R,S,q,k⟩:=q;refine⟨A,ι,τ,_,S,q,λitems n v b H1 J U s r1 L=>?_⟩;have V:=S.next s r1;refine⟨λi m σ' H'=>m=items.length - i/\i<=items.length/\∃A' ι' b7,dB X.mg N A' ι' b7 σ' H'/\Ext v b H1 A' ι' H'/\mJ n g tb R (items.drop i) b7 A',⟨_,rfl,bV _,v,b,τ,V,r1.refl,by simpa using U⟩,?_⟩;rintro i m W H2 ⟨rfl,hi,B,c,C,d,f,h⟩;by_cases hl:i<items.length
 .right
  have hd:items.drop i=items[i]::items.drop (i+1):=by rw[mq hl]
  rw[hd] at h;obtain⟨o,h⟩:=h;obtain⟨Y,Z⟩:=L.go i items[i] B c H2 (by rw[aW hl]) f d.ra o;refine⟨Y,λσ' H'=>∃A' ι' b7,dB X.mg N A' ι' b7 σ' H'/\Ext v b H1 A' ι' H'/\mJ n g tb R (items.drop (i+1)) b7 A',λσ' H' ⟨A',ι',b7,z⟩=>⟨_,ω,rfl,hl,A',ι',b7,z⟩,λx H3 y=>?_⟩;obtain⟨p,t,v3⟩:=Z x H3 y;refine⟨B,c,C,items[i],_,d.next p t,v3,h,λD A4 E UM H4 q4 u F s4=>?_⟩;have a:=p.trans u;refine⟨A4,E,D,_,(d.next p t).to u F s4,q4,⟨?_,k.rt.from ((s.trans f).trans a),k.nx.from ((s.trans f).trans a),?_⟩⟩
  .exact λj G l I H5 q5 r K s5=>⟨G,l,j,((d.next p t).to u F s4).to r K s5,(f.trans a).trans r,q5⟩
  .exact λj G l I H5 q5 r K s5=>⟨G,l,j,((d.next p t).to u F s4).to r K s5,(f.trans a).trans r,q5⟩
 .left
  have e:i=items.length:=ω
  subst e;rw[List.drop_length] at h;exact⟨L.stop B c H2 f d.ra h.1,(k.nx.from (s.trans f)).here d h.2⟩
noncomputable def lV:Option Nat->D->Option (List D)
 |none,x=>some [x]
 |some k,.tup ds=>if ds.length=k then some ds else none
 |some _,_=>none
noncomputable def jo(fF:Ar->Prop)(k:Option Nat)(fr:bK)(tt:ee)(te:aM)(R:List D->Ar->Prop):List D->List D->Ar->Prop
 |[],ys,A=>fF A/\R ys A
 |x::xs,ys,A=>fF A/\match lV k x with
  |some vs=>tt (vs.map some++fr) A λb A3=>cond b (te (vs.map some++fr) A3 λy A4=>ys.length<sizeLine/\jo fF k fr tt te R xs (ys++[y]) A4) (jo fF k fr tt te R xs ys A3)
  |none=>False
noncomputable def fX(k:Option Nat)(ix:List Nat)(it:iM)(tt:ee)(te:aM):aM:=λτ A R=>it τ A λitems fF A1=>jo fF k (ix.map (lk τ)) tt te (λys A2=>R (.ref A2.length) (A2++[.lst ys])) items [] A1
noncomputable def qG:Nat->Nat->jH
 |_,0=>Dg
 |i,n+1=>Df (ou i) (qG (i+1) n)
noncomputable def pB(K:Frag):Option Nat->TG
 |none=>ou 0
 |some k=>Dh K k (qG 0 k)
theorem Dw{Q:L2.St->Hp->Prop}{H:Hp}{fs:L2.St}:∀(xs:List V) (a:L2.St),Q (a++(xs.map some++fs)) H->qG a.length xs.length xs (a++(replicate xs.length none++fs)) H Q
 |[],a,h=>⟨rfl,by simpa using h⟩
 |x::r,a,h=>by
  refine⟨x,r,rfl,?_⟩;show qG (a.length+1) r.length r ((a++(replicate (r.length+1) none++fs)).set a.length (some x)) H Q;have e:(a++(replicate (r.length+1) none++fs)).set a.length (some x)=(a++[some x])++(replicate r.length none++fs):=by
   rw[List.set_append_right _ _ (aG _)];simp[List.replicate_succ]
  rw[e];have:=Dw r (a++[some x]) (by simpa using h);simpa using this
theorem DR{fs:L2.St}:∀(xs:L2.St),gD (replicate xs.length none++fs) (xs++fs)
 |[]=>gD.refl fs
 |x::r=>.own (DR r)
section
variable{mg:aB}{K:Frag}{A:Ar}{ι:Io}{H:Hp}
theorem T6{k:Option Nat}{d:D}{vs:List D}{x:V}{n:Nat}(b:lV k d=some vs)(r:RV mg ι n H d x):∃xs,aj mg ι n H vs xs/\vs.length=k.getD 1/\∀(fs:L2.St) (Q:L2.St->Hp->Prop),Q (xs.map some++fs) H->pB K k x (replicate (k.getD 1) none++fs) H Q:=by
 cases k with
 |none=>
  cases b;exact⟨[x],⟨x,[],rfl,r,rfl⟩,rfl,λfs Q q=>q⟩
 |some k=>
  cases d with
  |tup ds=>
   have b:(if ds.length=k then some ds else none)=some vs:=b;by_cases hl:ds.length=k
   .rw[ao hl] at b
    cases b;obtain⟨a,xs,rfl,h1,h2⟩:=r;have hx:=aj.length h2;refine⟨xs,h2,hl,λfs Q q=>⟨a,xs,rfl,bQ.of h1,by rw[<-hx];exact hl,?_⟩⟩;have:=Dw (Q:=Q) (H:=H) (fs:=fs) xs [] q;show qG 0 k xs (replicate k none++fs) H Q;have e:k=xs.length:=by rw[<-hx,hl]
    rw[e];exact this
   .rw[ak hl] at b
    cases b
  |_=>cases b
theorem RA.off(R:RA mg ι H A){p:Addr}{o u:HO}(a:∀r,r<A.length->ι r≠p)(d:H p=some u)(e:i6 u=true):RA mg ι (upd H p o) A:=
 ⟨λr c h=>CO.ag (aG _) (λ_ _=>rfl) (λb q m z=>by
  rw[a_]
  .exact z
  .rintro rfl
   rw[d] at z;cases z;rw[e] at m;cases m) (λq z=>by rw[a_ (a r (bW.mp h).1)];exact z) c (R.gS r c h),R.inj⟩
end
theorem SR{own:List Str}{ix:List Nat}{σ:L2.St}:L2.stC own ix σ=replicate own.length none++ix.map λi=>(σ[i]?).join:=by
 unfold L2.stC;rw[List.map_const']
theorem D4:∀(ds:List D) (fr:bK) (i:Nat) (d:D),lk (ds.map some++fr) i=some d->(ds[i]?=some d)\/(ds.length<=i/\lk fr (i - ds.length)=some d)
 |[],fr,i,d,h=>.inr ⟨bV _,by simpa using h⟩
 |x::r,fr,0,d,h=>.inl (by simpa[lk] using h)
 |x::r,fr,i+1,d,h=>by
  rcases D4 r fr i d (by simpa[lk] using h) with q|⟨a,b⟩
  .exact .inl (by simpa using q)
  .exact .inr ⟨by simpa using a,by simpa using b⟩
theorem RS.block{mg:aB}{ι:Io}{n:Nat}{H:Hp}{τ:bK}{σ:L2.St}{ix:List Nat}{vs:List D}{xs:List V}(r:RS mg ι n H τ σ)(h:aj mg ι n H vs xs):RS mg ι n H (vs.map some++ix.map (lk τ)) (xs.map some++ix.map λi=>(σ[i]?).join):=⟨by simp[aj.length h],λi d q=>by
 have hl:=aj.length h;rcases D4 vs _ i d q with q|⟨b,a⟩
 .obtain⟨v,h1,h2⟩:=aj.get h q
  have hi:=(bW.mp h1).1;exact⟨v,by rw[gB (by simpa using hi),bO,h1];rfl,h2⟩
 .rw[qR,bO] at a
  cases e:ix[i - vs.length]? with
  |none=>rw[e] at a;simp at a
  |some j=>
   rw[e] at a;have a:lk τ j=some d:=by simpa using a
   obtain⟨v,h1,h2⟩:=r.at' j d a;refine⟨v,?_,h2⟩;rw[pZ (by simpa[<-hl] using b),bO,aS,<-hl,e];simp[h1]⟩
section
variable{X:Cx}{N:En}{own frees:List Str}{ix:List Nat}{it:iM}{tt:ee}{te:aM}{k:Option Nat}
theorem vW(hk:own.length=k.getD 1){tT:CP->TT}(hT:∀c σ H Q,cR X.mg N tt σ H Q->tT c σ H Q){σ:L2.St}{H:Hp}{Q:VK}(q:up X.mg N (fX k ix it tt te) σ H Q):zZ own ix (i_ X.mg N it) (λ_=>pB X.K k) tT (λ_=>up X.mg N te) σ H Q:=by
 obtain⟨A,ι,τ,R,S,q,kq⟩:=q;refine⟨A,ι,τ,_,S,q,λitems V A1 F H1 J q1 e1 r1 j1 c acc f=>?_⟩;have S1:=S.next e1 r1;rw[SR,hk];have W:∀r,r<A1.length->F r≠acc:=λr n z=>by
  obtain⟨o,h1,_⟩:=r1.im r n;rw[z,f] at h1;cases h1
 have rn:=r1.qD (o:=.lst []) f;refine⟨λi m ys H'=>m=items.length - i/\i<=items.length/\∃A' ι' d,RA X.mg ι' H' A'/\Ext A1 F H1 A' ι' H'/\(∀r,r<A'.length->ι' r≠acc)/\H' acc=some (.lst ys)/\aj X.mg ι' A'.length H' d ys/\jo V k (ix.map (lk τ)) tt te (λys a=>R (.ref a.length) (a++[.lst ys])) (items.drop i) d A',
  ⟨_,rfl,bV _,A1,F,[],r1.fix rn (λb o z=>by rw[a_ (c_ z f)];exact z),rn,W,eE,rfl,by simpa using q1⟩,?_⟩
 rintro i m ys H2 ⟨rfl,hi,a,g,d,r2,D,l,hy,ry,E⟩;refine⟨hy,?_⟩;by_cases hl:i<items.length
 .right
  have hd:items.drop i=items[i]::items.drop (i+1):=by rw[mq hl]
  rw[hd] at E;obtain⟨t,E⟩:=E;obtain⟨g1,g2⟩:=j1.go i items[i] a g H2 (by rw[aW hl]) D r2 t;refine⟨g1,λM H'=>∃A' ι' I,RA X.mg ι' H' A'/\Ext A1 F H1 A' ι' H'/\(∀r,r<A'.length->ι' r≠acc)/\H' acc=some (.lst M)/\aj X.mg ι' A'.length H' I M/\jo V k (ix.map (lk τ)) tt te (λys a=>R (.ref a.length) (a++[.lst ys])) (items.drop (i+1)) I A',λM H' z=>⟨_,ω,rfl,hl,z⟩,λx H3 y=>?_⟩;obtain⟨e3,r3,v3⟩:=g2 x H3 y;split at E
  .rename_i vs hu
   obtain⟨xs,h1,h2,h3⟩:=T6 (K:=X.K) hu v3;refine h3 _ _ ⟨by have:=DR (fs:=ix.map λi=>(σ[i]?).join) (xs.map some);rw[aS,<-aj.length h1,h2] at this;exact this,?_⟩;have G:=D.trans e3;have S3:dB X.mg N a g (vs.map some++ix.map (lk τ)) (xs.map some++ix.map λi=>(σ[i]?).join) H3:=⟨r3,RS.block (S1.rs.ext G) h1,S1.ex.trans G⟩;have Y:H3 acc=some (.lst ys):=e3.mo acc _ hy l;refine hT _ _ _ _ ⟨a,g,_,_,S3,E,λb A4 O H4 q4 P r4=>?_⟩;have w:∀r,r<A4.length->O r≠acc:=λr n z=>by
    by_cases hl:r<a.length
    .rw[P.ag r hl] at z;exact l r hl z
    .have:=P.nw r ω n
     rw[z,Y] at this;cases this
   have T:H4 acc=some (.lst ys):=P.mo acc _ Y l;have Z:=aj.ext (e3.trans P) d ys ry;cases b with
   |true=>
    refine M7 ?_;refine⟨A4,O,_,_,S3.next P r4,q4,λv A5 HS H5 u q5 e5 r5 v5=>?_⟩;have U:H5 acc=some (.lst ys):=e5.mo acc _ T w;have L:∀r,r<A5.length->HS r≠acc:=λr n z=>by
     by_cases hl:r<A4.length
     .rw[e5.ag r hl] at z;exact w r hl z
     .have:=e5.nw r ω n
      rw[z,T] at this;cases this
    have FE:=aj.ext e5 d ys Z;have p:=(G.trans P).trans e5;have fx:∀b o,i6 o=false->H5 b=some o->upd H5 acc (.lst (ys++[u])) b=some o:=λb o m z=>by
     rw[a_]
     .exact z
     .rintro rfl
      rw[U] at z;cases z;cases m
    refine⟨U,by rw[<-aj.length FE];exact q5.1,A5,HS,d++[v],r5.off L U rfl,⟨p.len,p.ag,p.im,λb o z hn=>?_,p.nw,λb o z=>?_⟩,L,eE,?_,q5.2⟩
    .rw[a_ (c_ z f)];exact p.mo b o z hn
    .obtain⟨o',h'⟩:=p.al b o z
     exact⟨o',by rw[a_ (c_ z f)];exact h'⟩
    .exact aj.ag (aG _) (λ_ _=>rfl) fx _ _ (FE.app (es:=[v]) (ws:=[u]) ⟨u,[],rfl,v5,rfl⟩)
   |false=>
    refine M6 ?_;exact⟨A4,O,d,r4,G.trans P,w,T,Z,q4⟩
  .exact E.elim
 .left
  have e:i=items.length:=ω
  subst e;rw[List.drop_length] at E;obtain⟨t,E⟩:=E;refine⟨j1.stop a g H2 D r2 t,?_⟩;obtain⟨B,j,at2⟩:∃B:Io,(∀r,r<a.length->B r=g r)/\B a.length=acc:=⟨λr=>if r=a.length then acc else g r,λr h=>by
   show(if r=a.length then acc else g r)=g r;rw[ak ω],by
   show(if a.length=a.length then acc else g a.length)=acc;rw[ao rfl]⟩
  refine kq (.ref a.length) (a++[.lst d]) B H2 _ E (e1.trans ⟨by have:=D.len;simp;omega,λr h=>by rw[j r (cK h D.len)];exact D.ag r h,D.im,D.mo,λr h1 h2=>?_,D.al⟩) ⟨λr c h=>?_,λr s n hs h=>?_⟩ ⟨θ,by rw[at2]⟩
  .by_cases n:r<a.length
   .rw[j r n];exact D.nw r h1 n
   .have:r=a.length:=by simp at h2;omega
    subst this;rw[at2];exact f
  .by_cases n:r<a.length
   .rw[gB n] at h
    have:=CO.ag (n':=(a++[C.lst d]).length) (ι':=B) (H':=H2) θ j (λ_ _ _ z=>z) (λ_ z=>z) c (r2.gS r c h);rw[j r n];exact this
   .have hr':r=a.length:=by
     have:=(bW.mp h).1;simp at this;omega
    subst hr';simp at h;subst h;rw[at2];exact⟨ys,hy,aj.ag θ j (λ_ _ _ z=>z) d ys ry⟩
  .simp at n hs
   by_cases h1:r=a.length
   .by_cases h2:s=a.length
    .rw[h1,h2]
    .subst h1
     rw[at2,j s ω] at h;exact absurd h.symm (l s ω)
   .by_cases h2:s=a.length
    .subst h2
     rw[at2,j r ω] at h;exact absurd h (l r ω)
    .rw[j r ω,j s ω] at h
     exact r2.inj r s ω ω h
end
noncomputable def jw:ee:=λ_ A R=>R true A
section
variable{X:Cx}{N:En}{own frees:List Str}{ix:List Nat}{it:iM}{tt:ee}{te:aM}(k:Option Nat){tg iter elt qq:Expr}{scope:Scope}{pos:Pos}
theorem gF(a:own.length=k.getD 1)(hi:PI X tg iter (i_ X.mg N it))(b:∀c,PG (bU X (own++frees) scope c) tg (pB X.K k))(d:∀c,PE (bU X (own++frees) scope c) elt (up X.mg N te))(S:e9 X scope frees:=by exact⟨rfl,η,η,η,η,rfl⟩)(hc:X.calm=true:=by rfl)(e:ix.map (λi=>X.N[i]?)=frees.map some:=by rfl)(f:∀x,foldedSetIterable iter X.env x=pure x:=by intro _;rfl):
  PE X (.ListComp elt [⟨tg,iter,[],0⟩] scope pos) (up X.mg N (fX k ix it jw te)):=
 dJ (EN hi b (λc=>iO.nil) d S hc e f) λσ H Q q=>vW (own:=own) a (λ_ σ H Q h=>by
  obtain⟨A,ι,τ,R,S,h,k⟩:=h;exact k.here S.ra h) q
theorem tX(a:own.length=k.getD 1)(hi:PI X tg iter (i_ X.mg N it))(b:∀c,PG (bU X (own++frees) scope c) tg (pB X.K k))(d:∀c,PT (bU X (own++frees) scope c) qq (cR X.mg N tt))(e:∀c,PE (bU X (own++frees) scope c) elt (up X.mg N te))(S:e9 X scope frees:=by exact⟨rfl,η,η,η,η,rfl⟩)(hc:X.calm=true:=by rfl)(f:ix.map (λi=>X.N[i]?)=frees.map some:=by rfl)(g:∀x,foldedSetIterable iter X.env x=pure x:=by intro _;rfl):
  PE X (.ListComp elt [⟨tg,iter,[qq],0⟩] scope pos) (up X.mg N (fX k ix it tt te)):=
 dJ (EN hi b (λc=>iO.one (d c)) e S hc f g) λσ H Q q=>vW (own:=own) a (λ_ σ H Q h=>h) q
variable{i:Nat}{x:Str}{pos' spos:Pos}
theorem yr(a:X.N.Nodup)(b:X.N[i]?=some x)(hx:Loc X.env.scope x)(f:own.length=k.getD 1)(hi:PI X tg iter (i_ X.mg N it))(g:∀c,PG (bU X (own++frees) scope c) tg (pB X.K k))(j:∀c,PE (bU X (own++frees) scope c) elt (up X.mg N te))(S:e9 X scope frees:=by exact⟨rfl,η,η,η,η,rfl⟩)(hc:X.calm=true:=by rfl)(l:ix.map (λi=>X.N[i]?)=frees.map some:=by rfl)(m:∀x,foldedSetIterable iter X.env x=pure x:=by intro _;rfl)
  (d:swapsWith (.ListComp elt [⟨tg,iter,[],0⟩] scope pos) (some (.Name x pos')) spos.line X.env=pure true:=by rfl)(n:X.fn x=true\/X.env.scope.names.lookup x=some .local:=by first|exact .inl rfl|exact .inr rfl|assumption):
  PS X (.Assign [.Name x pos'] (.ListComp elt [⟨tg,iter,[],0⟩] scope pos) spos) (cJ X.mg N (gI i (fX k ix it jw te))):=
 iV (EY a b hx hi g (λc=>iO.nil) j S hc l m d n) λQ σ H q=>by
  obtain⟨A,ι,τ,R,Z,q,k⟩:=q;exact vW (own:=own) f (λ_ σ H Q h=>by
   obtain⟨A,ι,τ,R,S,h,k⟩:=h;exact k.here S.ra h) ⟨A,ι,τ,_,Z,q,λv s o H1 u p e r1 r=>(k.nx.from e).here ((Z.next e r1).set r) p⟩
theorem Kh(a:X.N.Nodup)(b:X.N[i]?=some x)(hx:Loc X.env.scope x)(f:own.length=k.getD 1)(hi:PI X tg iter (i_ X.mg N it))(g:∀c,PG (bU X (own++frees) scope c) tg (pB X.K k))(j:∀c,PT (bU X (own++frees) scope c) qq (cR X.mg N tt))(l:∀c,PE (bU X (own++frees) scope c) elt (up X.mg N te))(S:e9 X scope frees:=by exact⟨rfl,η,η,η,η,rfl⟩)(hc:X.calm=true:=by rfl)(m:ix.map (λi=>X.N[i]?)=frees.map some:=by rfl)(n:∀x,foldedSetIterable iter X.env x=pure x:=by intro _;rfl)
  (d:swapsWith (.ListComp elt [⟨tg,iter,[qq],0⟩] scope pos) (some (.Name x pos')) spos.line X.env=pure true:=by rfl)(o:X.fn x=true\/X.env.scope.names.lookup x=some .local:=by first|exact .inl rfl|exact .inr rfl|assumption):
  PS X (.Assign [.Name x pos'] (.ListComp elt [⟨tg,iter,[qq],0⟩] scope pos) spos) (cJ X.mg N (gI i (fX k ix it tt te))):=
 iV (EY a b hx hi g (λc=>iO.one (j c)) l S hc m n d o) λQ σ H q=>by
  obtain⟨A,ι,τ,R,Z,q,k⟩:=q;exact vW (own:=own) f (λ_ σ H Q h=>h) ⟨A,ι,τ,_,Z,q,λv t p H1 u r e r1 s=>(k.nx.from e).here ((Z.next e r1).set s) r⟩
end
abbrev p8:=bK->Ar->(Option Int->Ar->Prop)->Prop
noncomputable def vV(mg:aB)(N:En)(m:p8):TO:=λσ H Q=>∃A ι τ R,dB mg N A ι τ σ H/\m τ A R/\∀o A' ι' H',R o A'->Ext A ι H A' ι' H'->RA mg ι' H' A'->Q o H'
noncomputable def oN:p8:=λ_ A R=>R none A
noncomputable def oS(m:aM):p8:=λτ A R=>m τ A λx A1=>match x with
 |.int i=>R (some i) A1
 |_=>False
noncomputable def cutD(xs:List D)(lo hi:Option Int):List D:=(xs.drop (HT.aX xs.length 0 lo)).take (HT.aX xs.length xs.length hi - HT.aX xs.length 0 lo)
theorem aj.cut{mg:aB}{ι:Io}{H:Hp}{n:Nat}{ds:List D}{vs:List V}(r:aj mg ι n H ds vs)(lo hi:Option Int):aj mg ι n H (cutD ds lo hi) (lu vs lo hi):=by
 unfold cutD lu;rw[<-aj.length r];exact(r.drop _).take _
@[irreducible] def rN(r:Nat)(lo hi:Option Int)(A:Ar)(R:DK):Prop:=match A[r]? with
 |some (.lst xs)=>R (.ref A.length) (A++[.lst (cutD xs lo hi)])
 |_=>False
def Sq(x:D)(lo hi:Option Int)(A:Ar)(R:DK):Prop:=match x with
 |.tup xs=>¬(HT.aX xs.length 0 lo=0/\HT.aX xs.length xs.length hi=xs.length)/\R (.tup (cutD xs lo hi)) A
 |.ref r=>rN r lo hi A R
 |_=>False
noncomputable def ya(m:aM)(l u:p8):aM:=λτ A R=>m τ A λx A1=>l τ A1 λlo A2=>u τ A2 λhi A3=>Sq x lo hi A3 R
section
variable{X:Cx}{N:En}{pos p2:Pos}{e:Expr}{lo hi:Option Expr}{m:aM}{l u:p8}
theorem CB{t t':TO}(h:PO X lo t)(w:∀σ H Q,t' σ H Q->t σ H Q):PO X lo t':=λpins s σ H Q I q=>h pins s σ H Q I (w σ H Q q)
theorem t9:PO X none (vV X.mg N oN):=CB Qf λσ H Q q=>by
 obtain⟨A,ι,τ,R,S,q,k⟩:=q;exact k none A ι H q S.ra.refl S.ra
theorem t_(h:PE X e (up X.mg N m)):PO X (some e) (vV X.mg N (oS m)):=CB (Qg h) λσ H Q q=>by
 obtain⟨A,ι,τ,R,S,q,k⟩:=q;refine⟨A,ι,τ,_,S,q,λx c a H1 u b d r1 f=>?_⟩;cases x with
 |int i=>exact⟨i,f,k (some i) c a H1 b d r1⟩
 |_=>exact b.elim
theorem tZ(s:PE X e (up X.mg N m))(hl:PO X lo (vV X.mg N l))(t:PO X hi (vV X.mg N u)):PE X (.Subscript e (.Slice lo hi none p2) pos) (up X.mg N (ya m l u)):=
 dJ (PM (Sv.or Su) s hl t) λσ H Q q=>by
  obtain⟨A,ι,τ,R,S,q,k⟩:=q;refine⟨A,ι,τ,_,S,q,λx w d H1 v y f r1 z=>?_⟩;refine⟨w,d,τ,_,S.next f r1,y,λB C g H2 D h E=>?_⟩;refine⟨C,g,τ,_,(S.next f r1).next h E,D,λF G I K b n i=>?_⟩;have c:=(f.trans h).trans n;have o:=RV.ext (h.trans n) x v z;cases x with
  |tup ds=>
   obtain⟨a,xs,rfl,h1,h2⟩:=o;refine .inl ⟨a,xs,rfl,bQ.of h1,by rw[<-aj.length h2];exact b.1,λp j=>uE (k.from c) i (h2.cut _ _) b.2 j⟩
  |ref r=>
   obtain⟨_,rfl⟩:=o;have b:rN r B F G R:=b;unfold rN at b;split at b
   .rename_i xs e
    obtain⟨J,h1,h2⟩:=i.lst e;exact .inr ⟨_,J,rfl,aY.of h1,λp j=>oR (k.from c) i (h2.cut _ _) b j⟩
   .exact b.elim
  |_=>exact b.elim
end
noncomputable def jU:List D->Option (List Str)
 |[]=>some []
 |.str b::r=>(jU r).map (b::·)
 |_::_=>none
theorem Hg{mg:aB}{ι:Io}{n:Nat}{H:Hp}:∀{ds:List D} {a:List V} {bs:List Str},jU ds=some bs->aj mg ι n H ds a->a=bs.map V.str
 |[],a,bs,h,r=>by cases h;exact r
 |d::ds,a,bs,h,r=>by
  obtain⟨x,r',rfl,h1,h2⟩:=r;cases d with
  |str b=>
   cases q:jU ds with
   |none=>simp[jU,q] at h
   |some l=>
    simp[jU,q] at h;subst h;rw[Hg q h2];cases h1;rfl
  |_=>simp[jU] at h
theorem aj.strs{mg:aB}{ι:Io}{H:Hp}:∀(ns:List Str) {n:Nat},aj mg ι n H (ns.map D.str) (ns.map V.str)
 |[],_=>rfl
 |i::r,n=>⟨_,_,rfl,rfl,aj.strs r⟩
@[irreducible] def rO(r:Nat)(A:Ar)(R:DK):Prop:=match A[r]? with
 |some (.lst xs)=>(match jU xs with
  |some ss=>ss.length<64/\∀ys:List Str,ys.Pairwise strLt->(∀x,x∈ys↔x∈ss)->R (.ref A.length) (A++[.lst (ys.map D.str)])
  |none=>False)
 |_=>False
noncomputable def SM:iL:=λvs A R=>match vs with
 |[.ref r]=>rO r A R
 |_=>False
theorem Cn{X:Cx}{N:En}{e:Expr}{n:cX}{j p2 c a:Pos}(d:X.mg "sorted"=none)(f:X.mg "set"=none)(hc:X.calm=true)(m:PA X [e] (fu X.mg N n))(g:Gl X "sorted":=by rfl)(h:Gl X "set":=by rfl)
  (o:starEach [e] X.env=[(false,eval e X.env)]:=by rfl)(hz:starEach [.Call (.Name "set" p2) [e] [] a] X.env=[(false,eval (.Call (.Name "set" p2) [e] [] a) X.env)]:=by rfl):
  PE X (.Call (.Name "sorted" j) [.Call (.Name "set" p2) [e] [] a] [] c) (up X.mg N (kr SM n)):=dJ (PN d f hc m g h o hz) λσ H Q q=>by
 obtain⟨A,ι,τ,R,S,q,k⟩:=q;refine⟨A,ι,τ,_,S,q,λvs p s H1 t b u r1 i=>?_⟩;match vs,b,i with
 |[.ref r],b,i=>
  obtain⟨_,_,rfl,⟨_,rfl⟩,rfl⟩:=i;have b:rO r p R:=b;unfold rO at b;split at b
  .rename_i xs e
   split at b
   .rename_i ss es
    obtain⟨t,h1,h2⟩:=r1.lst e;exact⟨_,ss,rfl,aY.of (by rw[h1,Hg es h2]),b.1,λl ys hl v w=>oR (k.from u) r1 (aj.strs ys) (b.2 ys v w) hl⟩
   .exact b.elim
  .exact b.elim
noncomputable def cj{β:Type}(kvs:List (Key×β))(k:Key)(v:β):List (Key×β):=
 if (kvs.any λkv=>decide (kv.1=k))=true then kvs.map (λkv=>if kv.1=k then (kv.1,v) else kv) else kvs++[(k,v)]
section
variable{mg:aB}{ι:Io}{H:Hp}{n:Nat}
theorem RK.any{k:Key}:∀{kvs:List (Key×D)} {xs:List (Key×V)},RK mg ι n H kvs xs->(kvs.any λa=>decide (a.1=k))=(xs.any λa=>decide (a.1=k))
 |[],xs,h=>by cases (show xs=[] from h);rfl
 |p::r,xs,h=>by
  obtain⟨x,r',rfl,h1,h2⟩:=h;rw[nD,nD,RK.any h2]
theorem RK.zd{k:Key}{d:D}{v:V}(c:RV mg ι n H d v):∀{kvs:List (Key×D)} {xs:List (Key×V)},RK mg ι n H kvs xs->RK mg ι n H (kvs.map λa=>if a.1=k then (a.1,d) else a) (xs.map λa=>if a.1=k then (a.1,v) else a)
 |[],xs,h=>by cases (show xs=[] from h);rfl
 |p::r,xs,h=>by
  obtain⟨x,r',rfl,h1,h2⟩:=h;rw[ck,ck];by_cases b:p.1=k
  .rw[ao b,ao b];exact⟨v,_,rfl,c,RK.zd c h2⟩
  .rw[ak b,ak b];exact⟨x,_,rfl,h1,RK.zd c h2⟩
theorem RK.app:∀{ds es:List (Key×D)} {vs ws:List (Key×V)},RK mg ι n H ds vs->RK mg ι n H es ws->RK mg ι n H (ds++es) (vs++ws)
 |[],_,vs,_,h,q=>by have h':vs=[]:=h;rw[h'];exact q
 |d::ds,es,vs,ws,h,q=>by
  obtain⟨x,r,rfl,a,b⟩:=h;exact⟨x,r++ws,rfl,a,RK.app b q⟩
theorem RK.put{k:Key}{d:D}{v:V}(a:RV mg ι n H d v){kvs:List (Key×D)}{xs:List (Key×V)}(h:RK mg ι n H kvs xs):RK mg ι n H (cj kvs k d) (putK xs k v):=by
 unfold cj putK;rw[RK.any h];split
 .exact RK.zd a h
 .exact h.app (es:=[(k,d)]) (ws:=[(k,v)]) ⟨v,[],rfl,a,rfl⟩
end
noncomputable def eK:List D->Option (List (Key×D))
 |[]=>some []
 |.tup [a,b]::r=>(match fO a,eK r with
  |some k,some l=>some ((k,b)::l)
  |_,_=>none)
 |_::_=>none
noncomputable def o5(ps:List (Key×D)):List (Key×D):=ps.foldl (λacc p=>cj acc p.1 p.2) []
section
variable{mg:aB}{K:Frag}{ι:Io}{H:Hp}{n:Nat}
theorem EE:∀{ds:List D} {c:List V} {ps:List (Key×D)},eK ds=some ps->aj mg ι n H ds c->∃qs,RK mg ι n H ps qs/\c.length=qs.length/\∀(i:Nat) (x:V) (p:Key×V),c[i]?=some x->qs[i]?=some p->∃t,x=.ref t/\bQ K H t [kV p.1,p.2]
 |[],c,ps,h,r=>by
  cases h;cases (show c=[] from r);exact⟨[],rfl,rfl,λi x p e=>by simp at e⟩
 |.tup [a,b]::ds,c,ps,h,r=>by
  obtain⟨x,r',rfl,h1,h2⟩:=r;unfold eK at h;split at h
  .rename_i k l m o
   cases h;obtain⟨qs,q,s,u⟩:=EE o h2;obtain⟨t,xs,rfl,v,B,_,rfl,w,d,_,rfl,y,A⟩:=h1;obtain rfl:=A;cases mT m w;refine⟨(k,d)::qs,⟨d,qs,rfl,y,q⟩,by simp[s],λi z p hz j=>?_⟩;cases i with
   |zero=>
    have f:V.ref t=z:=by simpa using hz
    have g:(k,d)=p:=by simpa using j
    subst f g;exact⟨t,rfl,bQ.of v⟩
   |succ i=>exact u i z p (by simpa using hz) (by simpa using j)
  .cases h
 |.aE::_,_,_,h,_=>by simp[eK] at h
 |.bl _::_,_,_,h,_=>by simp[eK] at h
 |.int _::_,_,_,h,_=>by simp[eK] at h
 |.str _::_,_,_,h,_=>by simp[eK] at h
 |.ref _::_,_,_,h,_=>by simp[eK] at h
 |.fl _::_,_,_,h,_=>by simp[eK] at h
 |.exc _::_,_,_,h,_=>by simp[eK] at h
 |.tup []::_,_,_,h,_=>by simp[eK] at h
 |.tup [_]::_,_,_,h,_=>by simp[eK] at h
 |.tup (_::_::_::_)::_,_,_,h,_=>by simp[eK] at h
theorem RK.fold{ps:List (Key×D)}{qs:List (Key×V)}(h:RK mg ι n H ps qs):∀{acc:List (Key×D)} {qf:List (Key×V)},RK mg ι n H acc qf->RK mg ι n H (ps.foldl (λacc p=>cj acc p.1 p.2) acc) (qs.foldl (λacc p=>putK acc p.1 p.2) qf):=by
 induction ps generalizing qs with
 |nil=>intro acc qf a;cases (show qs=[] from h);exact a
 |cons p r b=>
  intro acc qf a;obtain⟨x,r',rfl,h1,h2⟩:=h;exact b h2 (RK.put h1 a)
end
theorem Ep{mg:aB}{A:Ar}{ι:Io}{H:Hp}{R:DK}{Q:VK}{ds:List (Key×D)}{xs:List (Key×V)}{p:Addr}(k:Kt mg A ι H R Q)(r:RA mg ι H A)(h:RK mg ι A.length H ds xs)(q:R (.ref A.length) (A++[.dct ds]))(a:H p=none):Q (.ref p) (upd H p (.dK xs)):=by
 have E:Ext A ι H (A++[.dct ds]) (λr=>if r=A.length then p else ι r) (upd H p (.dK xs)):=r.yz a;obtain⟨r1,b⟩:=r.push (c:=.dct ds) (o:=.dK xs) a ⟨xs,eE,by simpa using RK.ext E ds xs h⟩;refine k _ _ _ _ _ q b r1 ⟨θ,?_⟩;show V.ref p=V.ref (if A.length=A.length then p else ι A.length);rw[ao rfl]
@[irreducible] def dctP(xs:List D)(A:Ar)(R:DK):Prop:=match eK xs with
 |some ps=>ps.length<=1000/\R (.ref A.length) (A++[.dct (o5 ps)])
 |none=>False
@[irreducible] def tW(r:Nat)(A:Ar)(R:DK):Prop:=match A[r]? with
 |some (.lst xs)=>dctP xs A R
 |_=>False
noncomputable def yf:iL:=λvs A R=>match vs with
 |[.tup xs]=>dctP xs A R
 |[.ref r]=>tW r A R
 |_=>False
theorem RK.len'{mg:aB}{ι:Io}{H:Hp}{n:Nat}{ds:List (Key×D)}{vs:List (Key×V)}(h:RK mg ι n H ds vs):vs.length=ds.length:=(RK.length h).symm
theorem qv{mg:aB}{K:Frag}:jg mg (λxs H Q=>∃(p:Addr) (b:List V) (ps:List (Key×V)),xs=[.ref p]/\(H p=some (.lst b)\/H p=some (.tup b))/\Pairs K H b ps/\ps.length<=1000/\∀d,H d=none->Q (.ref d) (upd H d (.dK (putAll ps)))) yf:=by
 intro ds A ι H c R Q ra rs h k;have fin:∀(xs:List D) (b:List V) (p:Addr),aj mg ι A.length H xs b->(H p=some (.lst b)\/H p=some (.tup b))->dctP xs A R->∃(q:Addr) (b:List V) (ps:List (Key×V)),[V.ref p]=[.ref q]/\(H q=some (.lst b)\/H q=some (.tup b))/\Pairs K H b ps/\ps.length<=1000/\∀d,H d=none->Q (.ref d) (upd H d (.dK (putAll ps))):=λxs b p r g h=>by
  unfold dctP at h;split at h
  .rename_i ps ep
   obtain⟨qs,f,i,j⟩:=EE (K:=K) ep r;exact⟨p,b,qs,rfl,g,⟨i,j⟩,by rw[RK.len' f];exact h.1,λd hd=>Ep k ra (RK.fold f (acc:=[]) (qf:=[]) rfl) h.2 hd⟩
  .exact h.elim
 unfold yf at h;split at h
 .obtain⟨_,_,rfl,⟨a,xs,rfl,l,r1⟩,rfl⟩:=rs
  exact fin _ xs a r1 (.inr l) h
 .obtain⟨_,_,rfl,⟨_,rfl⟩,rfl⟩:=rs
  unfold tW at h;split at h
  .rename_i xs e
   obtain⟨c,h1,r1⟩:=ra.lst e;exact fin _ c _ r1 (.inl h1) h
  .exact h.elim
 .exact h.elim
noncomputable def JH:aM:=λ_ A R=>R (.ref A.length) (A++[.dct []])
theorem yi{X:Cx}{N:En}{pos:Pos}:PE X (.Dict [] [] pos) (up X.mg N JH):=dJ PB λσ H Q q=>by
 obtain⟨A,ι,τ,R,S,q,k⟩:=q;exact λp a=>Ep (ds:=[]) (xs:=[]) k S.ra rfl q a
@[irreducible] def rF(r:Nat)(y v:D)(A:Ar)(R:Ar->Prop):Prop:=match A[r]?,fO y with
 |some (.dct kvs),some k=>kvs.length<sizeLine/\R (A.set r (.dct (cj kvs k v)))
 |_,_=>False
noncomputable def Rf(mo mi mv:aM):cC:=λR τ A=>mv τ A λv A1=>mo τ A1 λx A2=>mi τ A2 λy A3=>match x with
 |.ref r=>rF r y v A3 λA4=>R.nx τ A4
 |_=>False
theorem CD{X:Cx}{N:En}{pos pos':Pos}{o i value:Expr}{mo p s:aM}(W:X.A.units+64<cLine)(C:PE X o (up X.mg N mo))(hi:PE X i (up X.mg N p))(D:PE X value (up X.mg N s))(F:swapsWith value (some (.Subscript o i pos')) pos.line X.env=pure false):
  PS X (.Assign [.Subscript o i pos'] value pos) (cJ X.mg N (Rf mo p s)):=iV (Qn ω C hi D F) λQ σ H q=>by
 obtain⟨A,ι,τ,R,S,q,k⟩:=q;refine⟨A,ι,τ,_,S,q,λv G j H1 w I b r1 J=>?_⟩;refine⟨G,j,τ,_,S.next b r1,I,λx K l H2 u L d t v2=>?_⟩;refine⟨K,l,τ,_,(S.next b r1).next d t,L,λy M O Y z a f g P=>?_⟩;have m:=RV.ext (d.trans f) v w J;have n:=RV.ext f x u v2;cases x with
 |ref r=>
  obtain⟨_,rfl⟩:=n;have a:rF r y v M (λT=>R.nx τ T):=a;unfold rF at a;split at a
  .rename_i kvs h e U
   obtain⟨xs,h1,h2⟩:=g.dct e;cases mT U P;refine⟨_,_,rfl,p7.k h1 (by rw[<-RK.length h2];exact a.1),?_⟩;have hl:=(bW.mp e).1;have E:=g.oj (o:=.dK (putK xs h w)) (c:=.dct (cj kvs h v)) hl;obtain⟨V,B⟩:=g.put (c':=.dct (cj kvs h v)) (o:=.dK (putK xs h w)) e h1 rfl ⟨_,eE,by simpa using RK.ext E _ _ (RK.put m h2)⟩;exact(k.nx.from (((b.trans d).trans f).trans B)).here ((((S.next b r1).next d t).next f g).next B V) a.2
  .exact a.elim
 |_=>exact a.elim
noncomputable def JF(x:Str)(m:aM):aM:=λτ A R=>m τ A λv A1=>match v with
 |.str y=>x.length+y.length<=sizeLine/\R (.str (x++y)) A1
 |_=>False
theorem JZ{X:Cx}{N:En}{e:Expr}{m:aM}{x:Str}{k:Nat}{b p2 pos:Pos}(c:PE X e (up X.mg N m))(hx:x.length<=sizeLine:=by decide):PE X (.JoinedStr [.Constant (.str x) k b,.FormattedValue e (-1) none p2] pos) (up X.mg N (JF x m)):=
 dJ (PC c hx) λσ H Q q=>by
  obtain⟨A,ι,τ,R,S,q,k⟩:=q;refine⟨A,ι,τ,_,S,q,λv h d H1 u a f r1 g=>?_⟩;cases v with
  |str y=>cases g;exact⟨y,rfl,a.1,(k.from f).here r1 a.2 rfl⟩
  |_=>exact a.elim
noncomputable def zh:DX:=λ_ _=>False
theorem oY{X:Cx}{N:En}{P:Program}{w:World}:Passes (bJ P w) X (EL X.mg N zh):=λpins σ H s e s' I h=>by
 obtain⟨a,C,H',_,_,c,A',ι',_,_,_,z⟩:=h;exact z.elim
theorem ND{K:Frag}:∀t∈tys,kitOne K (.type t) (.type "bool")=some (lI t "bool"):=by
 intro t a;simp only[tys,bz,gK,gM] at a;rcases a with rfl|rfl|rfl|rfl|rfl|rfl|rfl<;>rfl
theorem NF{K:Frag}:∀t∈tys,kitOne K (.type t) (.type "int")=some (lI t "int"):=by
 intro t a;simp only[tys,bz,gK,gM] at a;rcases a with rfl|rfl|rfl|rfl|rfl|rfl|rfl<;>rfl
theorem DQ{K:Frag}:∀t∈tys,kitOne K (.type t) (.type "str")=some (lI t "str"):=by
 intro t a;simp only[tys,bz,gK,gM] at a;rcases a with rfl|rfl|rfl|rfl|rfl|rfl|rfl<;>rfl
theorem kit_tuple{K:Frag}:∀t∈tys,kitOne K (.type t) (.type "tuple")=some (lI t "tuple"):=by
 intro t a;simp only[tys,bz,gK,gM] at a;rcases a with rfl|rfl|rfl|rfl|rfl|rfl|rfl<;>rfl
theorem cI{b:Bool}{X Y:Prop}(h1:b=true->X)(h2:b=false->Y):cond b X Y:=by
 cases b with
 |true=>exact h1 rfl
 |false=>exact h2 rfl
theorem cD{p:Prop}[Decidable p]{X Y:Prop}(h1:p->X)(h2:¬p->Y):cond (decide p) X Y:=cI (λe=>h1 (fS e)) λe=>h2 (of_decide_eq_false e)
theorem cN{p:Prop}[Decidable p]{X Y:Prop}(h1:¬p->X)(h2:p->Y):cond (!decide p) X Y:=cI (λe=>h1 (of_decide_eq_false (by simpa using e))) λe=>h2 (fS (by simpa using e))
def eZ(t:Nat)(A A':Ar):Prop:=∀q c,q≠t->A[q]?=some c->A'[q]?=some c
theorem eZ.refl{t:Nat}{A:Ar}:eZ t A A:=λ_ _ _ h=>h
theorem eZ.trans{t:Nat}{A B C:Ar}(a:eZ t A B)(b:eZ t B C):eZ t A C:=λq c n h=>b q c n (a q c n h)
theorem eZ.set{t:Nat}{A:Ar}{c:C}:eZ t A (A.set t c):=λq d n h=>by rw[gP (Ne.symm n)];exact h
def Tw(t n:Nat)(A:Ar):Prop:=∃xs,A[t]?=some (.lst xs)/\xs.length<=n
theorem Tw.mono{t n m:Nat}{A:Ar}(h:Tw t n A)(l:n<=m):Tw t m A:=let ⟨xs,a,b⟩:=h;⟨xs,a,cV b l⟩
theorem getElem?_push{A T:Ar}{q:Nat}{c:C}(h:A[q]?=some c):(A++T)[q]?=some c:=by
 have:=(bW.mp h).1;rw[gB this];exact h
def Gr(A A':Ar):Prop:=∃T,A'=A++T
theorem Gr.refl{A:Ar}:Gr A A:=⟨[],θ⟩
theorem Gr.push{A T:Ar}:Gr A (A++T):=⟨T,rfl⟩
theorem Gr.trans{A B C:Ar}(a:Gr A B)(b:Gr B C):Gr A C:=by
 obtain⟨T,rfl⟩:=a;obtain⟨c,rfl⟩:=b;exact⟨T++c,θ⟩
theorem Gr.get{A B:Ar}(a:Gr A B){q:Nat}{c:C}(h:A[q]?=some c):B[q]?=some c:=by
 obtain⟨T,rfl⟩:=a;exact getElem?_push h
theorem Gr.but{A B:Ar}{t:Nat}(a:Gr A B):eZ t A B:=λ_ _ _ h=>a.get h
theorem Tw.gr{A B:Ar}{t n:Nat}(h:Tw t n A)(a:Gr A B):Tw t n B:=let ⟨xs,x,y⟩:=h;⟨xs,a.get x,y⟩
def AS:Ct:=λds A R _=>∃ns k,ds=[.fl ns,.int k]/\0<=k/\∀i A',Gr A A'->R (.int i) A'
def Bc:Ct:=λds A R _=>∃ns k m,ds=[.fl ns,.int k,.int m]/\0<=k/\0<m/\∀i A',0<=i->i<m->Gr A A'->R (.int i) A'
def qa:Ct:=λds A R _=>∃ns t m n,ds=[.fl ns,.ref t,.int m]/\Tw t n A/\n<1000000/\0<m/\∀i A',0<=i->i<m->eZ t A A'->Tw t (n+1) A'->R (.int i) A'
def qb:Ct:=λds A R _=>∃ns t q xs n,ds=[.fl ns,.ref t,.ref q]/\q≠t/\A[q]?=some (.lst xs)/\xs≠[]/\Tw t n A/\n<1000000/\∀x A',x∈xs->eZ t A A'->Tw t (n+1) A'->R x A'
theorem xH{α:Type}{xs:List α}{k:Int}(h0:0<=k)(h:k<(xs.length:Int)):∃v,cM xs k=some v/\v∈xs:=by
 have a:k.toNat<xs.length:=ω
 refine⟨xs[k.toNat],?_,mC a⟩;unfold cM jM;rw[ao h0,ao h];simp[aW a]
theorem lay_ints:∀ns:List Int,canLayAll0 (ns.map PyData.int)=true
 |[]=>by simp[canLayAll0]
 |n::r=>by simp[canLayAll0,canLay0,lay_ints r]
theorem aH{A:Ar}{c:C}:(A++[c])[A.length]?=some c:=θ
theorem KH{ns:List Int}{A:Ar}{R:DK}(h:R (.bl (decide (ns=[]))) (A++[.lst []])):fN false (.fl ns) (.ref A.length) (A++[.lst []]) R:=by
 unfold fN;have a:cH (A++[.lst []]) (.ref A.length)=.list []:=by unfold cH;simp only[aH];rfl
 have b:cH (A++[.lst []]) (.fl ns)=.list (ns.map PyData.int):=by unfold cH;rfl
 refine⟨rfl,?_,?_,?_,?_,?_⟩
 .unfold iB;simp only[aH];rfl
 .rw[b];simpa[canLay0] using lay_ints ns
 .rw[a];simp[canLay0,canLayAll0]
 .rw[a];simp[PyData.depth,depthAll];omega
 .rw[b,a]
  have e:PyData.eqv (.list (ns.map PyData.int)) (.list [])=decide (ns=[]):=by cases ns<;>simp[PyData.eqv,eqvAll]
  rw[ak b6,e];exact h
section
variable{A:Ar}{r q t:Nat}{xs ys:List D}{kvs:List (Key×D)}{R:DK}
theorem lH(h:A[r]?=some (.lst xs)):mR A (.ref r)=true:=by unfold mR;simp only[h]
theorem qi{y:D}(h:A[r]?=some (.lst xs))(hz:xs.length<sizeLine)(k:R .aE (A.set r (.lst (xs++[y])))):tF r y A R:=by
 unfold tF;simp only[h];exact⟨hz,k⟩
theorem C0(h:A[r]?=some (.lst xs))(h2:A[q]?=some (.lst ys))(hz:xs.length+ys.length<=sizeLine)(k:R .aE (A.set r (.lst (xs++ys)))):ud r q A R:=by
 unfold ud;simp only[h,h2];exact⟨hz,k⟩
theorem iQ(h:A[r]?=some (.lst xs))(h2:A[q]?=some (.lst ys))(hz:xs.length+ys.length<=sizeLine)(k:R (.ref A.length) (A++[.lst (xs++ys)])):tL r q A R:=by
 unfold tL;simp only[h,h2];exact⟨hz,k⟩
theorem qP(h:A[r]?=some (.lst xs))(k:R (.int xs.length) A):uA r A R:=by
 unfold uA;simp only[h];exact k
theorem oE{i:Int}{v:D}(h:A[r]?=some (.lst xs))(hi:cM xs i=some v)(k:R v A):kF r (.int i) A R:=by
 unfold kF;simp only[h,hi];exact k
theorem vS(h:A[r]?=some (.lst xs))(k:R (.tup xs) A):vR r A R:=by
 unfold vR;simp only[h];exact k
theorem get_set(h:A[t]?=some (.lst xs)):(A.set t (.lst ys))[t]?=some (.lst ys):=by
 rw[fB (bW.mp h).1]
theorem gH{c:C}(h:A[t]?=some c):t<A.length:=(bW.mp h).1
end
end DP
namespace L2
def TV(K:Frag)(len:Nat)(D:Addr)(tb:List (Addr×Obj)->(aR)->XK->TS)(th:TS):TS:=λDn σ H=>
 ∀(pn:aT) (E:aR),tb pn E (λC _ H'=>∃c:Addr,C=.ref c/\exmOne K (.ref c) (.ref D)=some true/\∀(σ':L2.St),σ'.length=len->th {nx:=λ_ _=>False,rt:=Dn.rt} σ' H') Dn σ H
section
variable{X:Cx}{D:Addr}{cn:Str}{b₀:Stmt}{suite body:List Stmt}{tb:List (Addr×Obj)->(aR)->XK->TS}{th:TS}{np hpos pos:Pos}
theorem Qw(hex:X.ex=[])(i:X.stack=X.env::X.outer)(J:X.env.frame=some X.env.locals)(Z:X.mg cn=some (.ref D))
  (hb:∀(pn:aT) (E:aR) (T:XK),Passes (bJ X.prog X.w) (X.tried pn E) T->c6 (X.tried pn E) body (tb pn E T))(hh:∀e:Addr,c6 (X.lG e) (b₀::suite) th)
  (hg:Gl X cn:=by rfl)(L:(cn==("__debug__":Str))=false:=by decide):
  PS X (.Try body [.ExceptHandler (some (.Name cn np)) none (b₀::suite) hpos] [] [] pos) (TV X.K X.N.length D tb th):=by
 intro pins s σ H Dn I h
 refine wpAny_Try_except ?_
 refine jB (hb (X.pn++pins) _ _ ?_ [] s σ H Dn (I.tried _) (h _ _)) (λf p q=> ?_) λe p q=>q
 .intro M σ' H1 A e s' I1 hx
  obtain⟨a,C,H',rfl,F,c,rfl,r,O⟩:=hx
  have P:Inv X pins σ' H1 A:=I1.jV I.ok
  have F:iN X.prog X.w X.stack H1 H' A s' a (.ref c):=F
  obtain⟨B,a0,U,t,hok,fl⟩:=F.fl
  have Q:=fl
  rw[i] at fl
  refine wpAny_looks_onW (by rw[<-i];exact I.ok.frames) J fl λV g k=> ?_
  refine wpAny_landsW g λj d l=> ?_
  have x:iN X.prog X.w X.stack H1 H' A {s' with heap:=j} a (.ref c):=F.move U t hok Q (by rw[i];exact d) (k.trans l)
  have Y:Inv X pins σ' H' {s' with heap:=j}:=P.xN x.os x.un x.hok x.bare λb z=>absurd z θ
  have LT:Looks (model X.prog X.w) j (typeOf (.ref a)) (.ref c):=by
   obtain⟨ob,R,hc⟩:=d.there
   exact hc▸(Looks.ld R).andThen .now
  refine wpAny_handleBy_cons (codeAny_handlers_test (ux (X:=X.lG a) (Y.lG a) hg Z ((PySem.W.exm_one (Y.eG) LT r).here ?_) L)) (by intro q;cases q)
  refine codeAny_handlers_suite ?_
  refine lands_againW d λn o m=> ?_
  have G:iN X.prog X.w X.stack H1 H' A {s' with heap:=n} a (.ref c):=x.move U t hok (by rw[i];exact d) (by rw[i];exact o) m
  have J6:Inv X pins σ' H' {s' with heap:=n}:=P.xN G.os G.un G.hok G.bare λb z=>absurd z θ
  refine jB (hh a pins _ _ _ _ (J6.lG a) (O σ' P.len)) (λfl y q=> ?_) λe y z=>False.elim z
  cases fl with
  |next=>obtain⟨_,_,_,z⟩:=q;exact False.elim z
  |brk=>obtain⟨_,_,_,z⟩:=q;exact False.elim z
  |cont=>obtain⟨_,_,_,z⟩:=q;exact False.elim z
  |ret u=>
   obtain⟨v,S,H2,J9,rv,z⟩:=q
   exact⟨v,S,H2,J9.Pj I.ok,rv,z⟩
 .cases f with
  |next=>exact sr (SP.jV I.ok q)
  |brk=>exact SP.jV I.ok q
  |cont=>exact SP.jV I.ok q
  |ret u=>exact SP.jV I.ok q
end
end L2
namespace DP
open L2
noncomputable def Rh(OR:List Str)(len:Nat)(m:DX->cC)(th:cC):cC:=λR τ A=>m (λc A'=>c∈OR/\th {nx:=λ_ _=>False,rt:=R.rt} (replicate len none) A') R τ A
theorem Ko{X:Cx}{N:En}{D:Addr}{cn:Str}{b₀:Stmt}{suite body:List Stmt}{m:DX->cC}{th:cC}{np hpos pos:Pos}(f:List Str)(hex:X.ex=[])(h:X.stack=X.env::X.outer)(i:X.env.frame=some X.env.locals)(u:X.mg cn=some (.ref D))
  (hok:∀c C,c∈f->X.mg c=some (.ref C)->exmOne X.K (.ref C) (.ref D)=some true)
  (v:∀(M:En) (RE:DX) (pn:aT) (E:aR),Passes (bJ X.prog X.w) (X.tried pn E) (EL X.mg M RE)->c6 (X.tried pn E) body (cJ X.mg M (m RE)))(x:∀(M:En) (e:Addr),c6 (X.lG e) (b₀::suite) (cJ X.mg M th))
  (y:Gl X cn:=by rfl)(l:(cn==("__debug__":Str))=false:=by decide):
  PS X (.Try body [.ExceptHandler (some (.Name cn np)) none (b₀::suite) hpos] [] [] pos) (cJ X.mg N (Rh f X.N.length m th)):=by
 intro pins s σ H Dn I q
 obtain⟨A,ι,τ,R,S,q,k⟩:=q
 refine Qw (tb:=λpn E p Q σ' H'=>∃RE:DX,(∀C a H',EL X.mg ⟨A,ι,H⟩ RE C a H'->p C none H')/\cJ X.mg ⟨A,ι,H⟩ (m RE) Q σ' H') (th:=cJ X.mg ⟨A,ι,H⟩ th) hex h i u (λpn E p hx=> ?_) (x ⟨A,ι,H⟩) y l pins s σ H Dn I ?_
 .intro b s' σ' H' Q B z
  obtain⟨RE,F,z⟩:=z
  exact v ⟨A,ι,H⟩ RE pn E (λpins σ H1 G e s' I z=>hx pins σ H1 G e s' I (by
   obtain⟨a,C,H2,h1,h2,J⟩:=z
   exact⟨a,C,H2,h1,h2,F _ _ _ J⟩)) b s' σ' H' Q B z
 .intro pn E
  refine⟨_,λC a0 H' z=> ?_,A,ι,τ,R,⟨S.ra,S.rs,S.ra.refl⟩,q,k⟩
  obtain⟨c,A',ι',⟨t,rfl,hc⟩,e,r,n,L⟩:=z
  refine⟨t,rfl,hok c t n hc,λσ' g=> ?_⟩
  refine⟨A',ι',_,_,⟨r,⟨by simp[g],λj d o=> ?_⟩,e⟩,L,⟨λ_ _ _ _ _ z _ _ _=>z.elim,k.rt.from e,λ_ _ _ _ _ z _ _ _=>z.elim,λ_ _ _ _ _ z _ _ _=>z.elim⟩⟩
  rw[qR,An] at o
  split at o<;>simp at o
open MA
abbrev M:=aZ Str
noncomputable def enc:M->D
 |.wt n=>.tup [.str "weight",.str n]
 |.aQ l r a b=>.tup [.str "rod",.int l,.int r,enc a,enc b]
theorem iS{k:Option Nat}{fr:bK}{te:aM}{a:Ar->Prop}{R:List D->Ar->Prop}{A:Ar}(hc:a A)(f:D->D):∀(items ys:List D),(∀x∈items,∃vs,lV k x=some vs/\∀Q:DK,Q (f x) A->te (vs.map some++fr) A Q)->ys.length+items.length<=sizeLine->R (ys++items.map f) A->jo a k fr jw te R items ys A
 |[],ys,_,_,h=>⟨hc,by simpa using h⟩
 |x::xs,ys,hx,hl,h=>by
  obtain⟨vs,b,c⟩:=hx x (br ..);refine⟨hc,?_⟩;rw[b];refine c _ ⟨by simp at hl;omega,iS hc f xs (ys++[f x]) (λy hy=>hx y (bq _ hy)) (by simp at hl ⊢;omega) (by simpa using h)⟩
theorem tG{α:Type}(f:α->Bool):∀xs:List α,jm (xs.map λx=>D.bl (f x))=some (xs.map f)
 |[]=>rfl
 |x::r=>by simp[jm,tG f r]
theorem ints_map{α:Type}(f:α->Int):∀xs:List α,jL (xs.map λx=>D.int (f x))=some (xs.map f)
 |[]=>rfl
 |x::r=>by simp[jL,ints_map f r]
theorem strs_map{α:Type}(f:α->Str):∀xs:List α,jU (xs.map λx=>D.str (f x))=some (xs.map f)
 |[]=>rfl
 |x::r=>by simp[jU,strs_map f r]
theorem xD{A:Ar}{r:Nat}{xs:List D}{bs:List Bool}{R:DK}(h:A[r]?=some (.lst xs))(a:jm xs=some bs)(k:R (.bl (bs.all id)) A):allR r A R:=by
 unfold allR;simp only[h,a];exact k
theorem Hj{A:Ar}{r:Nat}{xs:List D}{ns:List Int}{R:DK}(h:A[r]?=some (.lst xs))(a:jL xs=some ns)(h1:∀n∈ns,0<=n/\n<=2 ^ 40)(h2:ns.length<=1000)(k:R (.int ns.sum) A):vL r A R:=by
 unfold vL;simp only[h,a];exact⟨h1,h2,k⟩
theorem G8{A:Ar}{r:Nat}{xs:List D}{ss:List Str}{R:DK}(h:A[r]?=some (.lst xs))(a:jU xs=some ss)(h2:ss.length<64)(k:∀ys:List Str,ys.Pairwise strLt->(∀x,x∈ys↔x∈ss)->R (.ref A.length) (A++[.lst (ys.map D.str)])):rO r A R:=by
 unfold rO;simp only[h,a];exact⟨h2,k⟩
theorem dY{A:Ar}{r:Nat}{xs:List D}{R:List D->(Ar->Prop)->Ar->Prop}(h:A[r]?=some (.lst xs))(k:R xs (λA'=>A'[r]?=some (.lst xs)) A):itR r A R:=by
 unfold itR;simp only[h];exact k
structure Nm(n:Str):Prop where
 lo:1<=n.length
 hi:n.length<=3
 az:∀c∈n.cps.toList,97<=c/\c<=122
structure Wf(m:M):Prop where
 arms:m.arms
 nm:∀n∈m.names,Nm n
def SV(dom:List D->D->Prop):Ct:=λds A R _=>∃v,dom ds v/\∀A',Gr A A'->R v A'
def SL(dom:List D->List D->Prop):Ct:=λds A R _=>∃v,dom ds v/\∀A' r,Gr A A'->A'[r]?=some (.lst v)->R (.ref r) A'
abbrev xx:Ct:=SV λds v=>∃i a b,ds=[.int i,.int a,.int b]/\v=.bl (decide (a<=i)&&decide (i<=b))
abbrev xr:Ct:=SV λds v=>∃n,ds=[.str n]/\Nm n/\v=.bl true
abbrev AY(d:Nat):Ct:=SV λds v=>∃m,ds=[enc m,.int ((d:Int) - 1)]/\Wf m/\m.deep<d/\v=.bl true
abbrev xj:Ct:=SV λds v=>∃m,ds=[enc m]/\Wf m/\m.deep<=5/\v=.bl true
abbrev w_:Ct:=SV λds v=>∃m,ds=[enc m]/\Wf m/\m.deep<=5/\v=.aE
theorem mO{P:Program}{w:World}{K:Frag}{mg:aB}{base:Heap}{x:Str}{st:Stmt}{ps:List Str}{k n:Nat}{S:Ct}(T:TopD K mg x st ps)(no:∀ds A R RE,¬S ds A R RE):ay P w K mg base k x ps (av mg n S):=by
 obtain⟨f,fd,F,b,m⟩:=T;have a:∀vs H Q E,¬av mg n S vs H Q E:=λvs H Q E h=>by
  obtain⟨A,ι,ds,R,RE,_,_,_,z,_⟩:=h;exact no _ _ _ _ z
 exact⟨f,fd,⟨λvs H Q E h=>absurd h (a vs H Q E),λA outer s H args c vs Q E _ _ _ _ h=>absurd h (a vs H Q E)⟩,b,F.kp,m⟩
noncomputable def cT(r:Str×Int):D:=.tup [.str r.1,.int r.2]
noncomputable def kD(rs:List (Str×Int)):D:=.tup (rs.map cT)
noncomputable def fh(rs:List (Str×Int)):List (Key×D):=rs.map λr=>(Sum.inr r.1,.int r.2)
structure lg(rs:List (Str×Int)):Prop where
 nm:∀r∈rs,Nm r.1
 no:∀r∈rs,1<=r.2/\r.2<=999999
 up:(rs.map (·.1)).Pairwise strLt
 len:rs.length<64
noncomputable def val(rs:List (Str×Int))(n:Str):Int:=((rs.find? λr=>r.1=n).map (·.2)).getD 0
noncomputable def ld(f:Str->Int):M->Int
 |.wt n=>f n
 |.aQ _ _ a b=>ld f a+ld f b
theorem rQ{a b:Str}(h:strLt a b):a≠b:=λe=>by
 subst e;exact j7 _ h
theorem uh:∀(rs:List (Str×Int)) (n:Str),n∈rs.map (·.1)->bw (fh rs) (Sum.inr n)=some (.int (val rs n))
 |[],n,h=>by simp at h
 |r::rs,n,h=>by
  unfold fh bw val;by_cases e:r.1=n
  .simp[e]
  .have h':n∈rs.map (·.1):=by
    rcases bz.mp (show n∈r.1::rs.map (·.1) from h) with q|q
    .exact absurd q.symm e
    .exact q
   have a:¬(Sum.inr r.1:Key)=Sum.inr n:=λz=>e (Sum.inr.inj z);have:=uh rs n h';simp only[ck,a,fT,mu,e,decide_false];exact this
theorem HL{rs:List (Str×Int)}(a:lg rs){n:Str}(h:n∈rs.map (·.1)):1<=val rs n/\val rs n<=999999:=by
 unfold val;cases q:rs.find? λr=>r.1=n with
 |none=>
  obtain⟨r,b,e⟩:=aN.mp h;have:=nH.mp q r b;simp[e] at this
 |some r=>
  have:=pL q;exact a.no r this
theorem E3{kvs:List (Key×D)}{k:Key}{v:D}(h:∀p∈kvs,p.1≠k):cj kvs k v=kvs++[(k,v)]:=by
 unfold cj;rw[ak];intro z;obtain⟨p,a,e⟩:=nE.mp z;exact h p a (fS e)
theorem E1:∀(rs:List (Str×Int)) (acc:List (Key×D)),(rs.map (·.1)).Pairwise strLt->(∀p∈acc,∀r∈rs,p.1≠Sum.inr r.1)->(fh rs).foldl (λacc p=>cj acc p.1 p.2) acc=acc++fh rs
 |[],acc,_,_=>by simp[fh]
 |r::rs,acc,f,c=>by
  have b:=g_.mp (show(r.1::rs.map (·.1)).Pairwise strLt from f);have e:cj acc (Sum.inr r.1) (.int r.2)=acc++[(Sum.inr r.1,.int r.2)]:=E3 λp a=>c p a r (br ..);show(fh rs).foldl _ (cj acc (Sum.inr r.1) (.int r.2))=_;rw[e,E1 rs _ b.2]
  .simp[fh]
  .intro p a q d
   rcases b_.mp a with z|z
   .exact c p z q (bq _ d)
   .have g:p=(Sum.inr r.1,.int r.2):=by simpa using z
    subst g;exact λe=>rQ (b.1 q.1 (c9 d)) (Sum.inr.inj e)
theorem EF:∀rs:List (Str×Int),eK (rs.map cT)=some (fh rs)
 |[]=>rfl
 |r::rs=>by
  have:=EF rs;simp only[ck,cT,eK,fO,this,fh]
theorem yo{rs:List (Str×Int)}(a:lg rs){A:Ar}{R:DK}(k:R (.ref A.length) (A++[.dct (fh rs)])):dctP (rs.map cT) A R:=by
 unfold dctP;rw[EF];refine⟨by simp[fh];have:=a.len;omega,?_⟩;unfold o5;rw[E1 rs [] a.up (λp h=>by simp at h)];exact k
theorem CA{a:Ar->Prop}{g:jD}{b:cC}{R:k8}{A:Ar}(hc:a A)(I:bK->Prop):∀(items:List D) (τ:bK),I τ->(∀x∈items,∀τ,I τ->∀c:bK->Ar->Prop,(∀b7,I b7->c b7 A)->g x τ A λd j=>b {R with nx:=c,ct:=c,bk:=R.nx} d j)->(∀τ,I τ->R.nx τ A)->mJ a g b R items τ A
 |[],τ,e,_,h=>⟨hc,h τ e⟩
 |x::xs,τ,e,i,h=>⟨hc,i x (br ..) τ e _ λb7 f=>CA hc I xs b7 f (λy hy=>i y (bq _ hy)) h⟩
noncomputable def mV:M->Str->List (Str×Str)
 |.wt n,w=>[(w,n)]
 |.aQ _ _ a b,w=>mV a (w++"l")++mV b (w++"r")
theorem oM:∀(m:M) (w:Str),(mV m w).map (·.2)=m.names
 |.wt n,w=>rfl
 |.aQ _ _ a b,w=>by
  show List.map _ (_++_)=a.names++b.names;rw[eV,oM a,oM b]
theorem zc(m:M)(w:Str):(mV m w).length=m.names.length:=by rw[<-oM m w,aS]
noncomputable def iz(p:Str×Str):D:=.tup [.str p.1,.str p.2]
abbrev Bd:Ct:=SV λds v=>∃r:Str×Int,ds=[cT r]/\Nm r.1/\(1<=r.2/\r.2<=999999)/\v=.bl true
abbrev A8:Ct:=SV λds v=>∃rs,ds=[kD rs]/\lg rs/\v=.bl true
abbrev AW:Ct:=SV λds v=>∃m rs,ds=[enc m,kD rs]/\lg rs/\m.deep<=5/\(∀n∈m.names,n∈rs.map (·.1))/\v=.aE
abbrev xm(d:Nat):Ct:=SL λds v=>∃m w,ds=[enc m,.str w]/\m.deep<d/\w.length+d<=100/\d<=8/\v=(mV m w).map iz
def s_(d:Nat):Ct:=λds A R _=>∃m r rs,ds=[enc m,.ref r]/\A[r]?=some (.dct (fh rs))/\lg rs/\m.deep<=d/\(∀n∈m.names,n∈rs.map (·.1))/\∀A',Gr A A'->R (.int (ld (val rs) m)) A'
theorem uy(f:Str->Int):∀m:M,(m.names.map f).sum=ld f m
 |.wt n=>by simp[aZ.names,ld]
 |.aQ _ _ a b=>by
  show List.sum (List.map f (a.names++b.names))=ld f a+ld f b;rw[eV,List.sum_append,uy f a,uy f b]
theorem tQ{k:Option Nat}{fr:bK}{te:aM}{a:Ar->Prop}{R:List D->Ar->Prop}(f:D->D):∀(items ys:List D) (A:Ar),(∀A',Gr A A'->a A')->(∀x∈items,∀A',Gr A A'->∃vs,lV k x=some vs/\∀Q:DK,(∀b,Gr A' b->Q (f x) b)->te (vs.map some++fr) A' Q)->ys.length+items.length<=sizeLine->(∀A',Gr A A'->R (ys++items.map f) A')->jo a k fr jw te R items ys A
 |[],ys,A,hc,_,_,h=>⟨hc A Gr.refl,by simpa using h A Gr.refl⟩
 |x::xs,ys,A,hc,hx,hl,h=>by
  obtain⟨vs,d,e⟩:=hx x (br ..) A Gr.refl;refine⟨hc A Gr.refl,?_⟩;rw[d];refine e _ λi c=>⟨by simp at hl;omega,tQ f xs (ys++[f x]) i (λA' g=>hc A' (c.trans g)) (λy hy A' g=>hx y (bq _ hy) A' (c.trans g)) (by simp at hl ⊢;omega) (λA' g=>by simpa using h A' (c.trans g))⟩
theorem Nm.ok{n:Str}(h:Nm n):canLay0 (.str n)=true:=by
 have e:n.cps.all (λc=>decide (c<0x110000))=true:=by
  rw[<-Array.all_toList,pS];intro c hc;have:=h.az c hc;exact cW ω
 simpa[canLay0,strOk] using e
theorem m5:∀ss:List Str,fk (ss.map D.str)=true
 |[]=>rfl
 |s::r=>by simp[fk,f7,m5 r]
theorem lT:∀ss:List Str,bS (ss.map D.str)=ss.map PyData.str
 |[]=>rfl
 |s::r=>by simp[bS,toQ,lT r]
theorem mU:∀ss:List Str,(∀n∈ss,Nm n)->canLayAll0 (ss.map PyData.str)=true
 |[],_=>by simp[canLayAll0]
 |s::r,h=>by
  have h1:=(h s (br ..)).ok;have h2:=mU r λn a=>h n (bq _ a);simp[canLayAll0,h1,h2]
theorem yk:∀ss:List Str,depthAll (ss.map PyData.str)=0
 |[]=>by simp[depthAll]
 |s::r=>by simp[depthAll,PyData.depth,yk r]
theorem CW:∀ss a:List Str,eqvAll (ss.map PyData.str) (a.map PyData.str)=decide (ss=a)
 |[],[]=>by simp[eqvAll]
 |[],_::_=>by simp[eqvAll]
 |_::_,[]=>by simp[eqvAll]
 |s::r,t::u=>by
  simp only[ck,eqvAll,PyData.eqv,CW r u];by_cases h1:s=t
  .by_cases h2:r=u<;>simp[h1,h2]
  .simp[h1]
theorem KI{A:Ar}{r q:Nat}{ss a:List Str}{R:DK}(h1:A[r]?=some (.lst (ss.map D.str)))(h2:A[q]?=some (.lst (a.map D.str)))(n1:∀n∈ss,Nm n)(n2:∀n∈a,Nm n)(k:R (.bl (decide (ss=a))) A):fN false (.ref r) (.ref q) A R:=by
 have b:cH A (.ref r)=.list (ss.map PyData.str):=by unfold cH;simp only[h1,lT]
 have c:cH A (.ref q)=.list (a.map PyData.str):=by unfold cH;simp only[h2,lT]
 unfold fN;rw[b,c];refine⟨by unfold iB;simp only[h1,m5],by unfold iB;simp only[h2,m5],by simpa[canLay0] using mU ss n1,by simpa[canLay0] using mU a n2,by simp[PyData.depth,yk],?_⟩;rw[ak b6];show R (.bl (PyData.eqv (.list _) (.list _))) A;rw[show PyData.eqv (.list (ss.map PyData.str)) (.list (a.map PyData.str))=decide (ss=a) by simp only[PyData.eqv,CW]];exact k
theorem kG{A:Ar}{r:Nat}{kvs:List (Key×D)}{y v:D}{k:Key}{R:DK}(h:A[r]?=some (.dct kvs))(a:fO y=some k)(b:bw kvs k=some v)(q:R v A):kF r y A R:=by
 unfold kF;simp only[h,a,b];exact q
theorem oz{A:Ar}{r:Nat}{kvs:List (Key×D)}{y:D}{k:Key}{R:DK}{neg:Bool}(h:A[r]?=some (.dct kvs))(a:fO y=some k)(q:R (.bl (if neg then !(bw kvs k).isSome else (bw kvs k).isSome)) A):inR neg y r A R:=by
 unfold inR;simp only[h,a];exact q
noncomputable def rd(a b:Int):Int×Int:=(a/(Int.gcd a b:Int),b/(Int.gcd a b:Int))
abbrev xh:Ct:=SV λds v=>∃a b:Int,ds=[.int a,.int b]/\0<=a/\0<=b/\v=.int (Int.gcd a b:Int)
abbrev xy:Ct:=SV λds v=>∃a b:Int,ds=[.int a,.int b]/\0<a/\0<b/\a<2 ^ 2000/\v=.tup [.int (rd a b).1,.int (rd a b).2]
structure Bk(rs:List (Str×Int))(m:M):Prop where
 ok:lg rs
 nm:∀n∈m.names,n∈rs.map (·.1)
theorem Bk.left{rs:List (Str×Int)}{l r:Int}{a b:M}(h:Bk rs (.aQ l r a b)):Bk rs a:=⟨h.ok,λn c=>h.nm n (by simp[aZ.names,c])⟩
theorem Bk.right{rs:List (Str×Int)}{l r:Int}{a b:M}(h:Bk rs (.aQ l r a b)):Bk rs b:=⟨h.ok,λn c=>h.nm n (by simp[aZ.names,c])⟩
theorem Gr.len{A B:Ar}(a:Gr A B):A.length<=B.length:=by
 obtain⟨T,rfl⟩:=a;simp
noncomputable def cst(d:Nat):Nat:=5*2 ^ d - 4
theorem Jw(d:Nat):cst (d+1)=4+2*cst d:=by
 unfold cst;have:0<2 ^ d:=Nat.pow_pos δ;rw[pow_succ];omega
theorem Jv(d:Nat):1<=cst d:=by
 unfold cst;have:0<2 ^ d:=Nat.pow_pos δ;omega
structure Dr(t:Nat)(A A':Ar)(n k:Nat):Prop where
 but:eZ t A A'
 tw:Tw t (n+k) A'
theorem Dr.get{t:Nat}{A A':Ar}{n k q:Nat}{c:C}(h:Dr t A A' n k)(a:q≠t)(g:A[q]?=some c):A'[q]?=some c:=h.but q c a g
def xq(d:Nat):Ct:=λds A R _=>∃ns t q nms n,ds=[.fl ns,.ref t,.ref q,.int ((d:Int) - 1)]/\0<d/\q≠t/\A[q]?=some (.lst (nms.map D.str))/\nms≠[]/\(∀x∈nms,Nm x)/\Tw t n A/\n+cst d<=1000000/\∀m A',Wf m->m.deep<d->(∀x∈m.names,x∈nms)->Dr t A A' n (cst d)->R (enc m) A'
abbrev xo(d:Nat):Ct:=SL λds v=>∃m,ds=[enc m]/\m.deep<d/\d<=8/\v=m.names.map D.str
def xw:Ct:=λds A R _=>∃m,ds=[enc m]/\m.deep<=5/\∀(A':Ar) (r:Nat) (ys:List Str),Gr A A'->A.length<=r->A'[r]?=some (.lst (ys.map D.str))->ys.Pairwise strLt->(∀x,x∈ys↔x∈m.names)->R (.ref r) A'
end DP
namespace DP
open L2
theorem Oz{A:Ar}{p:Nat}{xs:List D}{R:DK}(h:A[p]?=some (.lst xs))(c:fk xs=true)(hl:canLayAll0 (bS xs)=true)(k:R (.bl (!decide (xs=[]))) (A++[.lst []])):fN true (.ref p) (.ref A.length) (A++[.lst []]) R:=by
 unfold fN;have b:cH (A++[.lst []]) (.ref p)=.list (bS xs):=by unfold cH;simp only[getElem?_push h]
 have a:cH (A++[.lst []]) (.ref A.length)=.list []:=by unfold cH;simp only[aH];rfl
 refine⟨?_,?_,?_,?_,?_,?_⟩
 .unfold iB;simp only[getElem?_push h];exact c
 .unfold iB;simp only[aH];rfl
 .rw[b];simpa[canLay0] using hl
 .rw[a];simp[canLay0,canLayAll0]
 .rw[a];simp[PyData.depth,depthAll];omega
 .rw[b,a]
  have e:PyData.eqv (.list (bS xs)) (.list [])=decide (xs=[]):=by cases xs<;>simp[bS,PyData.eqv,eqvAll]
  rw[ao rfl,e];exact k
theorem xU{α:Type}{k:Option Nat}{fr:bK}{tt:ee}{te:aM}{d:Ar->Prop}{R:List D->Ar->Prop}(g:α->D)(p:α->Bool)(f:α->D):∀(xs:List α) (ys:List D) (A:Ar),(∀a,Gr A a->d a)->(∀x∈xs,∀a,Gr A a->∃vs,lV k (g x)=some vs/\(∀Q:Bool->Ar->Prop,(∀b,Gr a b->Q (p x) b)->tt (vs.map some++fr) a Q)/\∀b,Gr a b->∀Q:DK,(∀e,Gr b e->Q (f x) e)->te (vs.map some++fr) b Q)->ys.length+xs.length<=sizeLine->(∀a,Gr A a->R (ys++(xs.filter p).map f) a)->jo d k fr tt te R (xs.map g) ys A
 |[],ys,A,hc,_,_,h=>⟨hc A Gr.refl,by simpa using h A Gr.refl⟩
 |x::xs,ys,A,hc,hx,hl,h=>by
  obtain⟨vs,l,m,n⟩:=hx x (br ..) A Gr.refl;refine⟨hc A Gr.refl,?_⟩;rw[l];simp at hl;refine m _ λb c=>?_;cases j:p x with
  |true=>
   rw[wC j] at h;exact n b c _ λe i=>⟨ω,xU g p f xs (ys++[f x]) e (λa z=>hc a ((c.trans i).trans z)) (λy hy a z=>hx y (bq _ hy) a ((c.trans i).trans z)) (by simp;omega) λa z=>by simpa using h a ((c.trans i).trans z)⟩
  |false=>
   rw[wB (by simp[j])] at h;exact xU g p f xs ys b (λa z=>hc a (c.trans z)) (λy hy a z=>hx y (bq _ hy) a (c.trans z)) ω λa z=>h a (c.trans z)
theorem Gr.set{A B:Ar}{r:Nat}{c:C}(g:Gr A B)(h:A.length<=r):Gr A (B.set r c):=by
 obtain⟨T,rfl⟩:=g;exact⟨T.set (r - A.length) c,by rw[List.set_append_right _ _ h]⟩
open MA
theorem Wf.left{l r:Int}{a b:M}(h:Wf (.aQ l r a b)):Wf a:=⟨h.arms.2.2.2.2.1,λn c=>h.nm n (by simp[aZ.names,c])⟩
theorem Wf.right{l r:Int}{a b:M}(h:Wf (.aQ l r a b)):Wf b:=⟨h.arms.2.2.2.2.2,λn c=>h.nm n (by simp[aZ.names,c])⟩
theorem aj.of_get{mg:aB}{ι:Io}{H:Hp}{n:Nat}:∀{ds:List D} {vs:List V},ds.length=vs.length->(∀(i:Nat) d v,ds[i]?=some d->vs[i]?=some v->RV mg ι n H d v)->aj mg ι n H ds vs
 |[],[],_,_=>rfl
 |[],_::_,h,_=>by cases h
 |_::_,[],h,_=>by cases h
 |d::ds,v::vs,h,k=>⟨v,vs,rfl,k 0 d v rfl rfl,aj.of_get (by simpa using h) λi d v h1 h2=>k (i+1) d v (by simpa using h1) (by simpa using h2)⟩
theorem RA.KU{mg:aB}{A:Ar}{ι:Io}{H H':Hp}(R:RA mg ι H A)(g:ki H H'):Ext A ι H A ι H':=⟨aG _,λ_ _=>rfl,R.im,λb u h _=>g b u h,λr h1 h2=>absurd h2 ω,λb u h=>⟨u,g b u h⟩⟩
@[irreducible] def rT(a b:Nat)(A:Ar)(R:DK):Prop:=match A[a]?,A[b]? with
 |some (.lst xs),some (.lst ys)=>R (.tup ((xs.zip ys).map λp=>.tup [p.1,p.2])) A
 |_,_=>False
noncomputable def JJ(n:cX):aM:=λτ A R=>n τ A λvs A1=>match vs with
 |[.ref a,.ref b]=>rT a b A1 R
 |_=>False
theorem J4{X:Cx}{N:En}{a b:Expr}{n:cX}{P p2 g e:Pos}(s:X.mg "tuple"=none)(u:X.mg "zip"=none)(hc:X.calm=true)(T:PA X [a,b] (fu X.mg N n))(v:Gl X "tuple":=by rfl)(w:Gl X "zip":=by rfl)
  (U:starEach [a,b] X.env=[(false,eval a X.env),(false,eval b X.env)]:=by rfl)(z:starEach [b] X.env=[(false,eval b X.env)]:=by rfl)
  (hz:starEach [.Call (.Name "zip" p2) [a,b] [] e] X.env=[(false,eval (.Call (.Name "zip" p2) [a,b] [] e) X.env)]:=by rfl):
  PE X (.Call (.Name "tuple" P) [.Call (.Name "zip" p2) [a,b] [] e] [] g) (up X.mg N (JJ n)):=
 dJ (PV v s kY w u η hc T U z hz) λσ H Q q=>by
  obtain⟨A,ι,τ,R,S,q,k⟩:=q
  refine⟨A,ι,τ,_,S,q,λvs J B H1 us f V r1 r=> ?_⟩
  match vs,f,r with
  |[.ref x,.ref y],f,r=>
   obtain⟨_,_,rfl,⟨_,rfl⟩,_,_,rfl,⟨_,rfl⟩,rfl⟩:=r
   have f:rT x y J R:=f
   unfold rT at f
   split at f
   .rename_i ds es W Y
    obtain⟨xs,h1,K⟩:=r1.lst W
    obtain⟨ys,h2,L⟩:=r1.lst Y
    refine⟨_,_,xs,ys,rfl,aY.of h1,aY.of h2,λl H' ps M hl Z h j=> ?_⟩
    have E:=r1.KU M
    refine k _ J B H' _ f (V.trans E) (r1.fix E M) ⟨l,ps,rfl,Z,aj.of_get ?_ λi d p hd C=> ?_⟩
    .rw[h,aS,List.length_zip,aj.length K,aj.length L]
    .obtain⟨t,O,D,rfl,hx,hy,ht⟩:=j i p C
     rw[bO] at hd
     cases c:(ds.zip es)[i]? with
     |none=>rw[c] at hd;cases hd
     |some pr=>
      rw[c] at hd
      cases hd
      have F:ds[i]? =some pr.1:=by
       rw[wD] at c
       exact c.1
      have hd2:es[i]? =some pr.2:=by
       rw[wD] at c
       exact c.2
      obtain⟨r,m,G⟩:=aj.get K F
      obtain⟨v2,o,I⟩:=aj.get L hd2
      rw[hx] at m
      rw[hy] at o
      cases m
      cases o
      exact⟨t,[O,D],rfl,ht,O,[D],rfl,RV.ext E _ _ G,D,[],rfl,RV.ext E _ _ I,rfl⟩
   .exact f.elim
@[irreducible] def vG(r:Nat)(A:Ar)(R:DK):Prop:=match A[r]? with
 |some (.dct kvs)=>∃ns:List Str,kvs.map (·.1)=ns.map Sum.inr/\ns.Nodup/\ns.length<64/\∀ys:List Str,ys.Pairwise strLt->(∀x,x∈ys↔x∈ns)->R (.ref A.length) (A++[.lst (ys.map D.str)])
 |_=>False
noncomputable def GU:iL:=λvs A R=>match vs with
 |[.ref r]=>vG r A R
 |_=>False
theorem RK.keys{mg:aB}{ι:Io}{H:Hp}{n:Nat}:∀{ds:List (Key×D)} {vs:List (Key×V)},RK mg ι n H ds vs->vs.map (·.1)=ds.map (·.1)
 |[],vs,h=>by have h':vs=[]:=h;rw[h'];rfl
 |d::ds,vs,h=>by
  obtain⟨x,r,rfl,_,a⟩:=h;simp[RK.keys a]
theorem Ce{mg:aB}:jg mg (λxs H Q=>∃(d:Addr) (kvs:List (Key×V)) (ns:List Str),xs=[.ref d]/\H d=some (.dK kvs)/\kvs.map (·.1)=ns.map Sum.inr/\ns.Nodup/\ns.length<64/\
  ∀(l:Addr) (ys:List Str),H l=none->ys.Pairwise strLt->(∀x,x∈ys↔x∈ns)->Q (.ref l) (upd H l (.lst (ys.map V.str)))) GU:=by
 intro ds A ι H i R Q ra rs h k;unfold GU at h;split at h
 .obtain⟨_,_,rfl,⟨_,rfl⟩,rfl⟩:=rs
  unfold vG at h;split at h
  .rename_i kvs e
   obtain⟨ns,h1,h2,a,b⟩:=h;obtain⟨xs,hx,c⟩:=ra.dct e;exact⟨_,xs,ns,rfl,hx,by rw[RK.keys c,h1],h2,a,λl ys hl f g=>oR k ra (aj.strs ys) (b ys f g) hl⟩
  .exact h.elim
 .exact h.elim
theorem GV{A:Ar}{r:Nat}{kvs:List (Key×D)}{ns:List Str}{R:DK}(h:A[r]?=some (.dct kvs))(b:kvs.map (·.1)=ns.map Sum.inr)(c:ns.Nodup)(a:ns.length<64)(k:∀ys:List Str,ys.Pairwise strLt->(∀x,x∈ys↔x∈ns)->R (.ref A.length) (A++[.lst (ys.map D.str)])):vG r A R:=by
 unfold vG;simp only[h];exact⟨ns,b,c,a,k⟩
theorem Ut{A:Ar}{a b:Nat}{xs ys:List D}{R:DK}(h1:A[a]?=some (.lst xs))(h2:A[b]?=some (.lst ys))(k:R (.tup ((xs.zip ys).map λp=>.tup [p.1,p.2])) A):rT a b A R:=by
 unfold rT;simp only[h1,h2];exact k
open MA
noncomputable def hr2(w:Str)(x y:Int):List (Str×Str):=if y<x then [(w,"left")] else if x<y then [(w,"right")] else []
noncomputable def dz(f:Str->Int):M->Str->List (Str×Str)
 |.wt _,_=>[]
 |.aQ l r a b,w=>hr2 w (l*ld f a) (r*ld f b)++dz f a (w++"l")++dz f b (w++"r")
theorem DB(w:Str)(x y:Int):(hr2 w x y).length<=1:=by
 unfold hr2;split
 .simp
 .split<;>simp
theorem vO(f:Str->Int):∀(m:M) (w:Str),(dz f m w).length+1<=2 ^ m.deep
 |.wt _,_=>by simp[dz,aZ.deep]
 |.aQ l r a b,w=>by
  show(hr2 w (l*ld f a) (r*ld f b)++dz f a (w++"l")++dz f b (w++"r")).length+1<=2 ^ (max a.deep b.deep+1);rw[dc,dc,pow_succ];have h1:=DB w (l*ld f a) (r*ld f b);have h2:=vO f a (w++"l");have c:=vO f b (w++"r");have d:2 ^ a.deep<=2 ^ max a.deep b.deep:=dR δ (pI _ _);have e:2 ^ b.deep<=2 ^ max a.deep b.deep:=dR δ (pJ _ _);omega
noncomputable def bR:M->Str->Rat->List (Str×Str×Rat)
 |.wt n,w,x=>[(w,n,x)]
 |.aQ l r a b,w,x=>bR a (w++("l":Str)) (x*((r:Rat)/((l+r:Int):Rat)))++bR b (w++("r":Str)) (x*((l:Rat)/((l+r:Int):Rat)))
theorem rL:∀(m:M) (w:Str) (x:Rat),(bR m w x).length=m.names.length
 |.wt _,_,_=>rfl
 |.aQ _ _ a b,w,x=>by
  show List.length (_++_)=List.length (_++_);rw[dc,dc,rL a,rL b]
theorem qT{m:M}(h:m.deep<=5):m.names.length<=32:=
 cV (aZ.jR m) (dR δ h:2 ^ m.deep<=2 ^ 5)
theorem oZ{j k:Nat}(h:j<=k):(18:Int) ^ j<=18 ^ k:=by
 have:(18:Nat) ^ j<=18 ^ k:=dR δ h;exact_mod_cast this
theorem zy(k:Nat):(1:Int)<=18 ^ k:=by
 have:1<=(18:Nat) ^ k:=Nat.one_le_pow _ _ δ;exact_mod_cast this
theorem Cu{D a:Int}{j k:Nat}(h:D*18 ^ (max j k+1)<=1000000000)(hd:a<=D*18)(d:0<D):a*18 ^ j<=1000000000/\a*18 ^ k<=1000000000/\D<=1000000000:=by
 have e:D*18 ^ (max j k+1)=D*18*18 ^ max j k:=by rw[j6,kR (18 ^ max j k) 18,<-kQ]
 rw[e] at h;have b:=oZ (pI j k);have p2:=oZ (pJ j k);have c:=zy (max j k);have f:=zy j;have g:=zy k;refine⟨dN (d8 hd b ω ω) h,dN (d8 hd p2 ω ω) h,?_⟩;have:D*1<=D*18*18 ^ max j k:=d8 ω c ω ω;omega
theorem N5{n:Nat}(h:n<2 ^ 2000):n.log2<9000:=by
 by_cases h0:n=0
 .rw[h0];decide+kernel
 .exact(Nat.log2_lt h0).mpr (cK h (dR δ δ))
theorem BJ:∀(xs:List Rat) (x:Rat) (b:Int),bot (xs++[x]) b=bot xs b*(rf x).2/(Int.gcd (bot xs b) (rf x).2:Int)
 |[],x,b=>rfl
 |y::r,x,b=>by
  show bot (r++[x]) _=_;rw[BJ r x];rfl
theorem Di:∀(ns:List Int) (n d:Int),dP (ns++[n]) d=(Int.gcd (dP ns d) n:Int)
 |[],n,d=>rfl
 |m::r,n,d=>by
  show dP (r++[n]) _=_;rw[Di r n];rfl
structure wM(x:Rat):Prop where
 pos:0<x
 num:(rf x).1<=2000000
 den:(rf x).2<=2000000
theorem zx{c a b:Nat}(hc:0<c)(h:a<=b):(c:Int) ^ a<=(c:Int) ^ b:=by
 rw[<-r8,<-r8];exact Int.ofNat_le.mpr (dR hc h)
theorem Ow{n:Int}{c k:Nat}(h0:0<n)(h:n<=(c:Int) ^ k):n.natAbs<=c ^ k:=by
 have:(n.natAbs:Int)<=(c:Int) ^ k:=ω
 rw[<-r8] at this;exact Int.ofNat_le.mp this
def Cons{W N S:Type}(l:List (W×N×S)):Prop:=∀a∈l,∀b∈l,a.2.1=b.2.1->a.2.2=b.2.2
theorem found{W N S:Type}[DecidableEq N]{l:List (W×N×S)}{n:N}{p:W×N×S}(h:l.find? (λp=>decide (p.2.1=n))=some p):p.2.1=n:=by
 have:=find?_some h;simpa using this
theorem xJ{W N S:Type}[DecidableEq N][DecidableEq S]:∀(r pre:List (W×N×S)),ez pre r=none->Cons pre->Cons (pre++r)
 |[],pre,_,h=>by rw[l_];exact h
 |(g,n,s)::r,pre,l,h=>by
  have e:pre++(g,n,s)::r=(pre++[(g,n,s)])++r:=θ
  rw[e];cases j:pre.find? (λp=>decide (p.2.1=n)) with
  |none=>
   have i:ez (pre++[(g,n,s)]) r=none:=by
    have:=l;unfold ez at this;rw[j] at this;exact this
   refine xJ r _ i λa ha b hbm d=>?_;have no:∀c∈pre,c.2.1≠n:=λc hc z=>by
    have:=nH.mp j c hc;exact this (cW z)
   rcases b_.mp ha with ha|ha<;>rcases b_.mp hbm with hbm|hbm
   .exact h a ha b hbm d
   .rw[bH.mp hbm] at d
    exact absurd d (no a ha)
   .rw[bH.mp ha] at d
    exact absurd d.symm (no b hbm)
   .rw[bH.mp ha,bH.mp hbm]
  |some p=>
   have f:=l;unfold ez at f;rw[j] at f;by_cases es:p.2.2=s
   .have i:ez (pre++[(g,n,s)]) r=none:=by
     have:(if p.2.2=s then ez (pre++[(g,n,s)]) r else some (p.1,g))=none:=f;rwa [ao es] at this
    have m:=pL j;have k:p.2.1=n:=found j;refine xJ r _ i λa ha b hbm d=>?_;have to:∀c∈pre,c.2.1=n->c.2.2=s:=λc hc z=>by rw[h c hc p m (by rw[z,k]),es]
    rcases b_.mp ha with ha|ha<;>rcases b_.mp hbm with hbm|hbm
    .exact h a ha b hbm d
    .rw[bH.mp hbm] at d ⊢
     exact to a ha d
    .rw[bH.mp ha] at d ⊢
     exact(to b hbm d.symm).symm
    .rw[bH.mp ha,bH.mp hbm]
   .have:(if p.2.2=s then ez (pre++[(g,n,s)]) r else some (p.1,g))=none:=f
    rw[ak es] at this;cases this
theorem rM:∀(m:M) (w:Str) (x:Rat),(bR m w x).map (·.2.1)=m.names
 |.wt _,_,_=>rfl
 |.aQ _ _ a b,w,x=>by
  show((bR a _ _++bR b _ _).map (·.2.1))=a.names++b.names;rw[eV,rM a,rM b]
theorem zO:∀(m:M) (w:Str) (x:Rat),(bR m w x).map (·.2.2)=m.sh x
 |.wt _,_,_=>rfl
 |.aQ _ _ a b,w,x=>by
  show((bR a _ _++bR b _ _).map (·.2.2))=a.sh _++b.sh _;rw[eV,zO a,zO b]
noncomputable def shr(m:M):Str->Rat:=λx=>match (bR m "" 1).find? (λp=>decide (p.2.1=x)) with|some p=>p.2.2|none=>0
theorem o9{m:M}(h:ez [] (bR m "" 1)=none):(∀a∈bR m "" 1,a.2.2=shr m a.2.1)/\m.names.map (shr m)=m.sh 1:=by
 have hc:=xJ (bR m "" 1) [] h (by intro a b;simp at b);rw[fL] at hc;have key:∀a∈bR m "" 1,a.2.2=shr m a.2.1:=λa b=>by
  show _=(match (bR m "" 1).find? (λp=>decide (p.2.1=a.2.1)) with|some p=>p.2.2|none=>0);cases c:(bR m "" 1).find? (λp=>decide (p.2.1=a.2.1)) with
  |none=>exact absurd (cW rfl) (nH.mp c a b)
  |some p=>exact(hc p (pL c) a b (found c)).symm
 refine⟨key,?_⟩;rw[<-rM m "" 1,<-zO m "" 1,bY];exact ng λa b=>(key a b).symm
theorem num_mul{t:Rat}{a b:Int}(c:0<b)(d:0<=(rf t).1*a):(rf (t*((a:Rat)/(b:Rat)))).1<=(rf t).1*a:=by
 rw[<-zJ,<-vA (fK (dj t) c)];exact pU _ d
theorem zP:∀(m:M) (x:Rat) (B:Int),m.arms->0<x->(rf x).1<=B->∀s∈m.sh x,(rf s).1<=B*18 ^ m.deep
 |.wt _,x,B,_,h1,h2,s,hs=>by
  have:s=x:=by simpa[aZ.sh] using hs
  subst this;simpa[aZ.deep] using h2
 |.aQ l r a b,x,B,h,h1,h2,s,hs=>by
  obtain⟨c,o,d,p,e,f⟩:=h;have g:0<B:=wu (dQ h1) h2;have np:=dQ h1;have i:(rf (x*((r:Rat)/((l+r:Int):Rat)))).1<=B*18:=by
   refine dN (num_mul ω (pN ω ω)) ?_;exact d8 h2 ω ω ω
  have d2:(rf (x*((l:Rat)/((l+r:Int):Rat)))).1<=B*18:=by
   refine dN (num_mul ω (pN ω ω)) ?_;exact d8 h2 ω ω ω
  have j:0<x*((r:Rat)/((l+r:Int):Rat)):=aZ.step_pos c d h1;have p2:0<x*((l:Rat)/((l+r:Int):Rat)):=by
   have:=aZ.step_pos (l:=r) (r:=l) d c h1;rwa [add_comm r l] at this
  have up:∀k:Nat,k<=max a.deep b.deep->B*18*18 ^ k<=B*18 ^ (max a.deep b.deep+1):=λk n=>by
   rw[j6,kQ,kR 18 (18 ^ k)];refine ny ?_ (d9 g);exact sF (oZ n) δ
  rcases b_.mp (show s∈a.sh _++b.sh _ from hs) with hs|hs
  .exact dN (zP a _ _ e j i s hs) (up _ (pI _ _))
  .exact dN (zP b _ _ f p2 d2 s hs) (up _ (pJ _ _))
theorem Sn{m:M}(a:m.arms)(f:m.deep<=5):∀s∈m.sh 1,0<s/\(rf s).1<=1889568/\(rf s).2<=1889568:=λs b=>by
 obtain⟨g,c⟩:=aZ.vI m 1 1 a δ δ s b;have d:=zP m 1 1 a δ δ s b;have p:=oZ f;have e:(18:Int) ^ 5=1889568:=δ
 rw[e] at p;rw[one_mul] at c d;exact⟨g,dN d p,dN c p⟩
theorem So{m:M}(a:m.arms)(b:m.deep<=5)(h:ez [] (bR m "" 1)=none){x:Str}(hx:x∈m.names):wM (shr m x):=by
 have:shr m x∈m.sh 1:=by
  rw[<-(o9 h).2];exact aN.mpr ⟨x,hx,rfl⟩
 obtain⟨h1,h2,c⟩:=Sn a b _ this;exact⟨h1,ω,ω⟩
theorem MM{w:Str}{x y:Int}:hr2 w x y=[]↔x=y:=by
 unfold hr2;constructor
 .intro h
  by_cases h1:y<x
  .rw[ao h1] at h;cases h
  .rw[ak h1] at h
   by_cases h2:x<y
   .rw[ao h2] at h;cases h
   .omega
 .rintro rfl
  rw[ak (Int.lt_irrefl _),ak (Int.lt_irrefl _)]
theorem gk{a:Ar->Prop}{g:jD}{b:cC}{R:k8}(J:List D->bK->Ar->Prop)(hc:∀rest τ A,J rest τ A->a A)
  (e:∀x rest τ A,J (x::rest) τ A->∀c:bK->Ar->Prop,(∀b7 A',J rest b7 A'->c b7 A')->g x τ A λd h=>b {R with nx:=c,ct:=c,bk:=R.nx} d h)(f:∀τ A,J [] τ A->R.nx τ A):∀(items:List D) (τ:bK) (A:Ar),J items τ A->mJ a g b R items τ A
 |[],τ,A,j=>⟨hc _ _ _ j,f _ _ j⟩
 |x::rest,τ,A,j=>⟨hc _ _ _ j,e _ _ _ _ j _ λb7 A' i=>gk J hc e f rest b7 A' i⟩
theorem tN{k:Option Nat}{fr:bK}{te:aM}{a:Ar->Prop}{R:List D->Ar->Prop}(J:List D->List D->Ar->Prop)(hc:∀rest ys A,J rest ys A->a A)(hl:∀rest ys A,J rest ys A->ys.length<=sizeLine)
  (c:∀x rest ys A,J (x::rest) ys A->∃vs,lV k x=some vs/\∀Q:DK,(∀y b,J rest (ys++[y]) b->Q y b)->te (vs.map some++fr) A Q)(d:∀ys A,J [] ys A->R ys A):∀items ys A,J items ys A->jo a k fr jw te R items ys A
 |[],ys,A,j=>⟨hc _ _ _ j,d _ _ j⟩
 |x::rest,ys,A,j=>by
  obtain⟨vs,f,q⟩:=c _ _ _ _ j;refine⟨hc _ _ _ j,?_⟩;rw[f];refine q _ λy b e=>⟨?_,tN J hc hl c d rest _ _ e⟩;have:=hl _ _ _ e;simp at this;omega
theorem tO{k:Option Nat}{fr:bK}{tt:ee}{te:aM}{a:Ar->Prop}{R:List D->Ar->Prop}{A:Ar}(hc:a A)(p:D->Bool)(f:D->D):∀(items ys:List D),(∀x∈items,∃vs,lV k x=some vs/\(∀Q:Bool->Ar->Prop,Q (p x) A->tt (vs.map some++fr) A Q)/\∀Q:DK,Q (f x) A->te (vs.map some++fr) A Q)->ys.length+items.length<=sizeLine->R (ys++(items.filter p).map f) A->jo a k fr tt te R items ys A
 |[],ys,_,_,h=>⟨hc,by simpa using h⟩
 |x::xs,ys,hx,hl,h=>by
  obtain⟨vs,c,d,e⟩:=hx x (br ..);refine⟨hc,?_⟩;rw[c];simp at hl;refine d _ ?_;cases b:p x with
  |true=>
   rw[wC b] at h;exact e _ ⟨ω,tO hc p f xs (ys++[f x]) (λy hy=>hx y (bq _ hy)) (by simp;omega) (by simpa using h)⟩
  |false=>
   rw[wB (by simp[b])] at h;exact tO hc p f xs ys (λy hy=>hx y (bq _ hy)) ω h
theorem Gr.EA{A d A':Ar}{t:Nat}(g:Gr A d)(e:A.length<=t)(b:eZ t d A'):Gr A A':=by
 have key:∀q c,A[q]?=some c->A'[q]?=some c:=λq c h=>b q c (by have:=gH h;omega) (g.get h);refine⟨A'.drop A.length,nG λq=>?_⟩;by_cases a:q<A.length
 .rw[gB a,aW a]
  exact key q _ (aW a)
 .rw[pZ ω,List.getElem?_drop]
  congr 1;omega
end DP
namespace L2
open PySem.SeqAt
def nJ(op:CmpOp)(A:Around)(s:Shared)(y x:Value)(b:Bool):Prop:=∀(prog:Program) (w:World) (E:aR) (Q:aR),Q (.bool b) s->wpAny (model prog w) A (richCompare op y x) Q E s
inductive jj(op:CmpOp)(A:Around)(s:Shared)(fin b:Bool):List (Value×Value)->Prop
 |nil:fin=b->jj op A s fin b []
 |eq {y x:Value} {r:List (Value×Value)}:EqAt A s y x true->jj op A s fin b r->jj op A s fin b ((y,x)::r)
 |ne {y x:Value} {r:List (Value×Value)}:EqAt A s y x false->nJ op A s y x b->jj op A s fin b ((y,x)::r)
open MeetsSeq MeetsSeq2 MeetsSeq3 SeqRoads2
theorem Ug(l b:Addr)(items a:Array Value)(n n2:Nat)(dd f:Option Addr)(k i:Array (Option Value))(res:Bool):
  Meets (Builtin.«tuple.__lt__» ⟨[.ref l,.ref b],[]⟩)
   (λA R s=>s.heap.get? l=some {cls:=.type "tuple",dict:=dd,data:=.seq items n,slots:=k}/\s.heap.get? b=some {cls:=.type "tuple",dict:=f,data:=.seq a n2,slots:=i}/\
    jj .Lt A.in1 s (decide (items.size<a.size)) res (items.toList.zip a.toList)/\R (.ok (.ret (.bool res))) s):=
 .of_wp λprog w A R s h=>by
  obtain⟨j,g,d,tk,os⟩:=s;obtain⟨hl,m,o,h⟩:=h;have f2:=AutoSeq1.sub_tuple_tuple;wp_walk using wm hl,wm m,wpAny_forIn_list _ (λrest b s'=>b.1=none/\s'=⟨j,g,d,tk,os⟩/\jj .Lt A.in1 ⟨j,g,d,tk,os⟩ (decide (items.size<a.size)) res rest) _;case turn=>
   rintro ⟨y,x⟩ rest b s' ⟨c,rfl,hx⟩;cases hx with
   |eq h1 h2=>
    refine af (h1 prog w _ _ ?_);wp_walk;exact⟨rfl,rfl,h2⟩
   |ne h1 h2=>
    refine af (h1 prog w _ _ ?_);simp only[Bool.not_false,jZ];refine af (j5 ?_);refine af (h2 prog w _ _ ?_);wp_walk;exact⟨_,rfl,h⟩
  case fin=>
   rintro ⟨p,q⟩ s' ⟨c,rfl,hx⟩;simp only at c;subst c;cases hx with
   |nil e=>
    wp_walk;exact⟨_,rfl,by rw[<-e] at h;simpa[Builtin.Tuple.tupleCompareSizes] using h⟩
  case h=>
   exact⟨rfl,rfl,o⟩
mutual
noncomputable def ltQ:PyData->PyData->Option Bool
 |.int i,.int j=>some (decide (i<j))
 |.str x,.str y=>some (decide (x.cps.toList<y.cps.toList))
 |.tuple xs,.tuple ys=>eH xs ys
 |_,_=>none
noncomputable def eH:List PyData->List PyData->Option Bool
 |[],[]=>some false
 |[],_::_=>some true
 |_::_,[]=>some false
 |x::xs,y::ys=>match PyData.eqv x y with
  |true=>eH xs ys
  |false=>ltQ x y
end
theorem Jg(i j:Int)(A:Around)(s:Shared)(a b:Value)(as bs:List Addr)(r:Bool)(e:ltQ (.int i) (.int j)=some r)(ra:Reads s.heap a (.int i) as)(c:Reads s.heap b (.int j) bs):nJ .Lt A s a b r:=by
 cases ra;cases c;rw[ltQ] at e;cases e;intro prog w E Q q;exact lt_int q
theorem Jh(xs ys:List PyData)(A:Around)(s:Shared)(a b:Value)(as bs:List Addr)(r:Bool)(i:A.units+min (PyData.tuple xs).depth (PyData.tuple ys).depth<cLine)(L:∀d vs as bs,ReadsAll s.heap d xs as->ReadsAll s.heap vs ys bs->A.in1.units+min (depthAll xs) (depthAll ys)<cLine->jj .Lt A.in1 s (decide (d.length<vs.length)) r (d.zip vs))(ra:Reads s.heap a (.tuple xs) as)(m:Reads s.heap b (.tuple ys) bs):nJ .Lt A s a b r:=by
 cases ra with
 | @tuple l o vs n _ e h1 h2 j p=>
  cases m with
  | @tuple t o' c n' _ f k1 k2 k3 u=>
   obtain⟨cls,dd,data,v⟩:=o;obtain⟨k,g,data2,h⟩:=o';simp only at h2 j k2 k3;subst h2 j k2 k3;have L:=L vs.toList c.toList _ _ p u (room_in i);intro prog w E Q q;exact richCompare_meets_room (op:=.Lt) ⟨_,h1,rfl⟩ ⟨_,k1,rfl⟩ F.slot_tuple_lt F.entry_tuple_lt (F.args_tuple_lt_2 _ _) (Ug l t vs c n n' dd g v h r)
    ⟨h1,k1,by simpa using L,show Value.bool r≠Value.notImplemented/\Q (.bool r) s from⟨(λx=>nomatch x),q⟩⟩ (room_here i)
theorem Jj(i j:Str)(A:Around)(s:Shared)(a b:Value)(as bs:List Addr)(r:Bool)(e:ltQ (.str i) (.str j)=some r)(ra:Reads s.heap a (.str i) as)(c:Reads s.heap b (.str j) bs):nJ .Lt A s a b r:=by
 cases ra;cases c;rw[ltQ] at e;cases e;intro prog w E Q q;exact lt_str q
theorem DY{α β:Type}{a:α}{b:β}{u:List α}{v:List β}:decide ((a::u).length<(b::v).length)=decide (u.length<v.length):=θ
theorem Ji(x y:PyData)(xs ys:List PyData)(A:Around)(s:Shared)(a vs:List Value)(as bs:List Addr)(r:Bool)(e:eH (x::xs) (y::ys)=some r)(ra:ReadsAll s.heap a (x::xs) as)(i:ReadsAll s.heap vs (y::ys) bs)(j:canLayAll0 (x::xs)=true)(k:canLayAll0 (y::ys)=true)
 (g:A.units+min (depthAll (x::xs)) (depthAll (y::ys))<cLine)
 (l:∀a vs as bs,eH xs ys=some r->ReadsAll s.heap a xs as->ReadsAll s.heap vs ys bs->canLayAll0 xs=true->canLayAll0 ys=true->A.units+min (depthAll xs) (depthAll ys)<cLine->jj .Lt A s (decide (a.length<vs.length)) r (a.zip vs))
 (L2:∀u v as bs,ltQ x y=some r->Reads s.heap u x as->Reads s.heap v y bs->x.canLay0=true->y.canLay0=true->A.units+min x.depth y.depth<cLine->nJ .Lt A s u v r):jj .Lt A s (decide (a.length<vs.length)) r (a.zip vs):=by
  have b:x.canLay0=true/\canLayAll0 xs=true:=by simpa[canLayAll0] using j
  have d:y.canLay0=true/\canLayAll0 ys=true:=by simpa[canLayAll0] using k
  cases ra with
  |cons a1 a2=>
   cases i with
   |cons h m=>
    have f:=eqAt_reads x y A s _ _ _ _ a1 h b.1 d.1 (room_head g)
    rw[eH] at e
    cases c:PyData.eqv x y with
    |true=>
     rw[c] at e f
     have L:=l _ _ _ _ e a2 m b.2 d.2 (room_tail g)
     rw[DY]
     exact .eq f L
    |false=>
     rw[c] at e f
     exact .ne f (L2 _ _ _ _ e a1 h b.1 d.1 (room_head g))
mutual
theorem Jk:∀(d db:PyData) (A:Around) (s:Shared) (a b:Value) (as bs:List Addr) (r:Bool),ltQ d db=some r->Reads s.heap a d as->Reads s.heap b db bs->d.canLay0=true->db.canLay0=true->
  A.units+min d.depth db.depth<cLine->nJ .Lt A s a b r
 |.none,db,A,s,_,_,_,_,r,e,ra,c,_,_,_=>by simp[ltQ] at e
 |.bool _,db,A,s,_,_,_,_,r,e,ra,c,_,_,_=>by simp[ltQ] at e
 |.list _,db,A,s,_,_,_,_,r,e,ra,c,_,_,_=>by simp[ltQ] at e
 |.dict _,db,A,s,_,_,_,_,r,e,ra,c,_,_,_=>by simp[ltQ] at e
 |.int i,db,A,s,_,_,_,_,r,e,ra,c,_,_,_=>by
  cases db with
  |int j=>exact Jg i j A s _ _ _ _ r e ra c
  |_=>simp[ltQ] at e
 |.str i,db,A,s,_,_,_,_,r,e,ra,c,_,_,_=>by
  cases db with
  |str j=>exact Jj i j A s _ _ _ _ r e ra c
  |_=>simp[ltQ] at e
 |.tuple xs,db,A,s,_,_,_,_,r,e,ra,c,f,g,h=>by
  cases db with
  |tuple ys=>exact Jh xs ys A s _ _ _ _ r h (λk vs as bs h1 h2 l=>yX xs ys A.in1 s k vs as bs r (by rw[ltQ] at e;exact e) h1 h2 f g l) ra c
  |_=>simp[ltQ] at e
theorem yX:∀(xs ys:List PyData) (A:Around) (s:Shared) (a vs:List Value) (as bs:List Addr) (r:Bool),eH xs ys=some r->ReadsAll s.heap a xs as->ReadsAll s.heap vs ys bs->canLayAll0 xs=true->canLayAll0 ys=true->
  A.units+min (depthAll xs) (depthAll ys)<cLine->jj .Lt A s (decide (a.length<vs.length)) r (a.zip vs)
 |[],ys,A,s,_,_,_,_,r,e,ra,b,_,_,_=>by
  cases ys with
  |nil=>cases ra;cases b;rw[eH] at e;cases e;exact .nil θ
  |cons y ys=>cases ra;cases b;rw[eH] at e;cases e;exact .nil θ
 |x::xs,ys,A,s,a,vs,as,bs,r,e,ra,b,h,i,j=>by
  cases ys with
  |nil=>cases ra;cases b;rw[eH] at e;cases e;exact .nil θ
  |cons y ys=>exact Ji x y xs ys A s a vs as bs r e ra b h i j (λa vs as bs h1 h2 c d f g=>yX xs ys A s a vs as bs r h1 h2 c d f g) (λu v as bs h1 h2 c d f g=>Jk x y A s u v as bs r h1 h2 c d f g)
end
end L2
namespace L2
section
variable{X:Cx}{pins:aT}{σ:St}{H:Hp}{s:Shared}{d:Addr}{kvs:List (Key×V)}
theorem Inv.swap{u g:HO}(I:Inv X pins σ H s)(hd:H d=some u)(j:∀xs,u≠ .tup xs)(k:∀ps,u≠ .iF ps)(l:∀a,u≠ .own a)(m:∀o v,X.H₀ d=some (.bM o v)->False)(q:bZ X.prog X.w H s.heap d g):Inv X pins σ (upd H d g) s:=by
 have nn:∀b,H b=none->upd H d g b=none:=λb h=>by
  rw[a_ (λz=>by rw[z,hd] at h;cases h)];exact h
 have st:∀(a:Addr) (o:HO),bZ X.prog X.w H s.heap a o->bZ X.prog X.w (upd H d g) s.heap a o:=λa o x=>
  x.stay (λb v _ e=>e) (λb h=>by rw[a_ (λz=>by rw[z,hd] at h;exact l a (Option.some.inj h))];exact h) λb xs h=>by rw[a_ (λz=>by rw[z,hd] at h;exact j xs (Option.some.inj h))];exact h
 refine⟨I.ok,I.os,I.bare,⟨I.base.keep,I.base.slot,λb o e n hx=>nn b (I.base.free b o e n hx),I.base.there,λb xs h=>?_,λb o v h=>?_,λb ps h=>?_⟩,I.loc,I.cell,nn _ I.free,λx c e=>nn _ (I.gX x c e),λp i=>?_,λa o h=>?_,I.len⟩
 .have h':=I.base.tups b xs h
  rw[a_ (λz=>by rw[z,hd] at h';exact j xs (Option.some.inj h'))];exact h'
 .have h':=I.base.fG b o v h
  rw[a_ (λz=>by rw[z] at h;exact m o v h)];exact h'
 .obtain⟨f,h'⟩:=I.base.f_ b ps h
  exact⟨f,by rw[a_ (λz=>by rw[z,hd] at h';exact k _ (Option.some.inj h'))];exact h'⟩
 .obtain⟨h1,h2,r⟩:=I.pin p i
  exact⟨h1,nn _ h2,r⟩
 .by_cases z:a=d
  .subst z
   rw[eE] at h;cases h;exact st _ _ q
  .rw[a_ z] at h
   exact st _ _ (I.hok a o h)
theorem Inv.fz(I:Inv X pins σ H s)(hd:H d=some (.dK kvs)):(∀o v,X.H₀ d=some (.bM o v)->False)/\∃o,Inv X pins σ (upd H d (.bM o (.dK kvs))) s:=by
 have a:∀o v,X.H₀ d=some (.bM o v)->False:=λo v h=>by
  have:=I.base.fG d o v h;rw[hd] at this;cases this
 have b:=I.hok d _ hd;obtain⟨h1,h2,vs,f,c⟩:=id b;obtain⟨o,es,ep,e,r⟩:=id c;exact⟨a,o,I.swap hd (λ_ z=>by cases z) (λ_ z=>by cases z) (λ_ z=>by cases z) a ⟨e,b⟩⟩
theorem Inv.HD{o:Obj}(I:Inv X pins σ H s)(hd:H d=some (.bM o (.dK kvs)))(a:∀o v,X.H₀ d=some (.bM o v)->False):Inv X pins σ (upd H d (.dK kvs)) s:=
 I.swap hd (λ_ z=>by cases z) (λ_ z=>by cases z) (λ_ z=>by cases z) a (I.hok d _ hd).2
end
noncomputable def wU(a:Addr)(o:Obj)(ks:List Key):It:=
 ⟨λi H=>∃kvs,H a=some (.bM o (.dK kvs))/\kvs.map (·.1)=ks/\i<ks.length,λi H x H'=>H'=H/\∃k,ks[i]?=some k/\x=kV k,λi H=>∃kvs,H a=some (.bM o (.dK kvs))/\kvs.map (·.1)=ks/\ks.length<=i⟩
theorem QU{k:Key}{v:Value}(h:kH k v=true):RelV (kV k) v:=by
 rcases iZ h with⟨i,t,rfl,rfl⟩|⟨x,t,rfl,rfl⟩
 .exact⟨t,rfl⟩
 .exact⟨t,rfl⟩
theorem yE{X:Cx}{pins:aT}{σ:St}{H:Hp}{s:Shared}{a:Addr}{o:Obj}{kvs:List (Key×V)}{es:Array DictEntry}{ep:Nat}(I:Inv X pins σ H s)(h:H a=some (.bM o (.dK kvs)))(b:o.data=.dict es ep):(a==sysModules)=false/\∃vs:List (Key×Value),vs.map (·.1)=kvs.map (·.1)/\s.heap.DictAt (c5 X.prog X.w) a vs ep:=by
 obtain⟨e,hz,h2,vs,c,f⟩:=(show bZ X.prog X.w H s.heap a (.bM o (.dK kvs)) from I.hok a _ h);obtain⟨o',g,i,d,hc,hd,r⟩:=f;rw[e] at d;cases d;rw[b] at hd;cases hd;refine⟨h2,vs,?_,⟨o,es,e,hc,b,r⟩⟩;clear r h2 h e hz;unfold KV at c;induction c with
 |nil=>rfl
 |cons p t j=>rw[ck,ck,j,p.1]
theorem Uj{P:Program}{w:World}{K:Frag}{tg:Expr}(a it:Addr){o:Obj}{ks:List Key}{es:Array DictEntry}{ep:Nat}(A:o.data= .dict es ep):Turn P w K tg (wU a o ks) [it] it (λi h=>h.IsKeyIter it a i ks.length ep) where
 mem:=θ
 obj:=λi h st b f=>by
  have e:b=it:=by simpa using f
  subst e
  obtain⟨o,e,c,d⟩:=st
  exact⟨o,e,λv z=>by rw[d] at z;cases z⟩
 keep:=λi h h' st k=>st.at λo e=>k it θ o e
 item:=by
  intro X p q r hc i pins s σ H E I m st t
  subst p q r
  obtain⟨kvs,h1,h2,B⟩:=t
  obtain⟨C,vs,n,g⟩:=yE I h1 A
  have hl:vs.length=ks.length:=by rw[<-h2,<-n,aS]
  obtain⟨f0,f1,f2,u,f4,x⟩:=m it θ
  obtain⟨y,hx⟩:∃y,vs[i]? =some y:=⟨vs[i]' ω,aW _⟩
  have D:ks[i]? =some y.1:=by rw[<-h2,<-n,bO,hx];rfl
  rw[<-hl] at st
  refine wpAny_pyNext_dict_item (knd:=c5 X.prog X.w) st g hx λkey h' l j F=> ?_
  have G:Inv X pins σ H {s with heap:=h'}:=I.turned (t':=s.toks) (λb o f e=>(F.2 b f).trans e) f0 f1 u f4 x
  obtain⟨o',e,c,d⟩:=id j
  rw[hl] at j
  exact⟨key,rfl,qF (s:={s with heap:=h'}) e c d δ ⟨_,H,G,QU l,⟨rfl,_,D,rfl⟩,j,λb f=>(m b f).1⟩⟩
 done:=by
  intro X p q r hc i pins s σ H E I m st t
  subst p q r
  obtain⟨kvs,h1,h2,B⟩:=t
  obtain⟨C,vs,n,g⟩:=yE I h1 A
  have hl:vs.length=ks.length:=by rw[<-h2,<-n,aS]
  obtain⟨f0,f1,f2,u,f4,x⟩:=m it θ
  rw[<-hl] at st
  exact wpAny_pyNext_dict_end (knd:=c5 X.prog X.w) (I.ok.hd hc) st g (nI ω) λh' J=>⟨rfl,I.turned (t':=s.toks) (λb o f e=>J b o f e) f0 f1 u f4 x⟩
 self:=λ_ _ _ _ _ st h=>wpAny_pyIter_keyiter st h
noncomputable def MQ(tl:TE):TI:=λσ H R=>tl σ H λx H1=>∃a o kvs,x=.ref a/\H1 a=some (.bM o (.dK kvs))/\R (wU a o (kvs.map (·.1))) H1
theorem P4{X:Cx}{tg l:Expr}{tl:TE}(hl:PE X l tl):PI X tg l (MQ tl):=by
 intro pins s σ H R I h;refine aJ (hl pins s σ H _ I h) λv c ⟨x,H1,d,r1,j⟩=>?_;obtain⟨a,o,kvs,e,g,q⟩:=j;subst e;cases r1;obtain⟨e,_,h2,vs,t,k⟩:=(show bZ X.prog X.w H1 c.heap a (.bM o (.dK kvs)) from d.hok a _ g);obtain⟨o',es,ep,i,hc,hd,r⟩:=id k;rw[e] at i;cases i;obtain⟨m,vs,n,f⟩:=yE d g hd;have hl:(kvs.map (·.1)).length=vs.length:=by rw[<-n,aS]
 refine wpAny_pyIter_dict (knd:=c5 X.prog X.w) m f ?_;refine⟨c.heap.objs.size,[c.heap.objs.size],_,_,H1,rfl,d.kept (t':=c.toks) λb o e=>bA _ e,Uj a _ hd,⟨_,cu _ rfl,rfl,by rw[hl];rfl⟩,λb p=>?_,q⟩;have e:b=c.heap.objs.size:=by simpa using p
 subst e;exact d.lC (aG _) (d.hok.fresh (aG _))
end L2
namespace DP
open L2
noncomputable def keyOf:Key->D
 |.inl i=>.int i
 |.inr x=>.str x
theorem Q8{mg:aB}{ι:Io}{n:Nat}{H:Hp}(k:Key):RV mg ι n H (keyOf k) (kV k):=by
 cases k<;>rfl
theorem RK.oq{mg:aB}{ι:Io}{H:Hp}:∀{ds:List (Key×D)} {vs:List (Key×V)} {n:Nat},RK mg ι n H ds vs->vs.map (·.1)=ds.map (·.1)
 |[],vs,_,h=>by have h':vs=[]:=h;rw[h'];rfl
 |d::ds,vs,n,h=>by
  obtain⟨x,r,rfl,_,a⟩:=h;rw[ck,ck,RK.oq a]
theorem Nh{mg:aB}{A:Ar}{ι:Io}{H:Hp}{q:Nat}{o:Obj}{kvs:List (Key×D)}(b:q<A.length):kh mg A ι H (wU (ι q) o (kvs.map (·.1))) (kvs.map λp=>keyOf p.1) (λA'=>A'[q]?=some (.bB o kvs)) where
 go:=λi d f a H1 hd e r hc=>by
  obtain⟨xs,h1,h2⟩:=r.bB hc;rw[e.ag q b] at h1;have hi:=(bW.mp hd).1;rw[aS] at hi;refine⟨⟨xs,h1,RK.oq h2,by rw[aS];exact hi⟩,λx H' y=>?_⟩;obtain⟨rfl,k,c,rfl⟩:=y;refine⟨r.refl,r,?_⟩;rw[bO,aW hi] at hd c;cases hd;cases c;exact Q8 _
 stop:=λf a H1 e r hc=>by
  obtain⟨xs,h1,h2⟩:=r.bB hc;rw[e.ag q b] at h1;exact⟨xs,h1,RK.oq h2,θ⟩
@[irreducible] def qK(r:Nat)(A:Ar)(R:List D->(Ar->Prop)->Ar->Prop):Prop:=match A[r]? with
 |some (.bB o kvs)=>R (kvs.map λp=>keyOf p.1) (λA'=>A'[r]?=some (.bB o kvs)) A
 |_=>False
noncomputable def lE(m:aM):iM:=λτ A R=>m τ A λx A1=>match x with
 |.ref r=>qK r A1 R
 |_=>False
section
variable{X:Cx}{N:En}{tg e:Expr}{m:aM}
theorem qy(d:PE X e (up X.mg N m)):PI X tg e (i_ X.mg N (lE m)):=n_ (P4 d) λσ H Q q=>by
 obtain⟨A,ι,τ,R,S,q,k⟩:=q;refine⟨A,ι,τ,_,S,q,λx c b H1 u a f r1 g=>?_⟩;cases x with
 |ref r=>
  obtain⟨h,rfl⟩:=g;have a:qK r c R:=a;unfold qK at a;split at a
  .rename_i o kvs e
   obtain⟨xs,h1,h2⟩:=r1.bB e;refine⟨_,o,xs,rfl,h1,?_⟩;rw[RK.oq h2];exact k _ _ c b H1 _ a f r1 (Nh h)
  .exact a.elim
 |_=>exact a.elim
def HB(r:Nat)(o:Obj)(A2:Ar)(Q:Ar->Prop):Prop:=∃kvs,A2[r]?=some (.bB o kvs)/\Q (A2.set r (.dct kvs))
theorem De{σ:L2.St}{H:Hp}{A:Ar}{ι:Io}{τ:bK}{r:Nat}{kvs:List (Key×D)}{xs:List (Key×V)}{o:Obj}(S:dB X.mg N A ι τ σ H)(e:A[r]?=some (.dct kvs))(h1:H (ι r)=some (.dK xs))(h2:RK X.mg ι A.length H kvs xs):
  dB X.mg N (A.set r (.bB o kvs)) ι τ σ (upd H (ι r) (.bM o (.dK xs)))/\Ext A ι H (A.set r (.bB o kvs)) ι (upd H (ι r) (.bM o (.dK xs))):=by
 have hl:=(bW.mp e).1;have E:=S.ra.oj (o:=.bM o (.dK xs)) (c:=.bB o kvs) hl;obtain⟨ra,a⟩:=S.ra.put (c':=.bB o kvs) (o:=.bM o (.dK xs)) e h1 rfl ⟨_,eE,by simpa using RK.ext E kvs xs h2⟩;exact⟨S.next a ra,a⟩
theorem Dd{mg:aB}{H:Hp}{A:Ar}{ι:Io}{r:Nat}{kvs:List (Key×D)}{o:Obj}(ra:RA mg ι H A)(e:A[r]?=some (.bB o kvs)):∃xs,H (ι r)=some (.bM o (.dK xs))/\RA mg ι (upd H (ι r) (.dK xs)) (A.set r (.dct kvs))/\Ext A ι H (A.set r (.dct kvs)) ι (upd H (ι r) (.dK xs)):=by
 obtain⟨xs,h1,h2⟩:=ra.bB e;have hl:=(bW.mp e).1;have E:=ra.oj (o:=.dK xs) (c:=.dct kvs) hl;obtain⟨r1,a⟩:=ra.put (c':=.dct kvs) (o:=.dK xs) e h1 rfl ⟨_,eE,by simpa using RK.ext E kvs xs h2⟩;exact⟨xs,h1,r1,a⟩
end
theorem uw{A:Ar}{r:Nat}{o:Obj}{kvs:List (Key×D)}{R:List D->(Ar->Prop)->Ar->Prop}(h:A[r]?=some (.bB o kvs))(k:R (kvs.map λp=>keyOf p.1) (λA'=>A'[r]?=some (.bB o kvs)) A):qK r A R:=by
 unfold qK;rw[h];exact k
theorem DO{A:Ar}{r:Nat}{o:Obj}{kvs:List (Key×D)}{y v:D}{k:Key}{R:DK}(h:A[r]?=some (.bB o kvs))(a:fO y=some k)(b:bw kvs k=some v)(q:R v A):kF r y A R:=by
 unfold kF;rw[h];simp only[a,b];exact q
@[irreducible] def anyR(r:Nat)(A:Ar)(R:DK):Prop:=match A[r]? with
 |some (.lst xs)=>(match jm xs with
  |some bs=>R (.bl (bs.any id)) A
  |none=>False)
 |_=>False
end DP
end
namespace KO
open PySem PySem.W PyProof.Rows
section
variable{O:KeyOrd}{key:Nat->O.α}{n:Nat}{cmp:Nat->Nat->(Bool->Shared->Prop)->Shared->Prop}{s:Shared}
noncomputable def kp(O:KeyOrd)(key:Nat->O.α)(p:Array Nat)(i:Nat):O.α:=key (p.getD i 0)
def Up(O:KeyOrd)(key:Nat->O.α)(p:Array Nat)(k:Nat):Prop:=∀i j,i<=j->j<k->O.kle (kp O key p i) (kp O key p j)
def Dn(O:KeyOrd)(key:Nat->O.α)(p:Array Nat)(k:Nat):Prop:=∀i j,i<=j->j<k->O.kle (kp O key p j) (kp O key p i)
def Pm(n:Nat)(p:Array Nat):Prop:=p.Perm (range n).toArray
theorem Pm.size{p:Array Nat}(h:Pm n p):p.size=n:=by
 have:=Array.Perm.size_eq h;simpa using this
theorem Pm.lt{p:Array Nat}(h:Pm n p){i:Nat}(hi:i<n):p.getD i 0<n:=by
 have hz:=h.size;have a:p[i]' ω∈p:=Array.getElem_mem _;have:=(Array.Perm.mem_iff h).mp a;rw[mz,gf ω];simpa using this
theorem qO{p q:Array Nat}{i j:Nat}(h:p[i]?=q[j]?):kp O key p i=kp O key q j:=by
 unfold kp;rw[mz,mz,h]
theorem yS{p:Array Nat}{i j:Nat}(a:j<=p.size)(k:Nat):kp O key (kas_rev p i j) k=if i<=k/\k<j then kp O key p (i+j - 1 - k) else kp O key p k:=by
 have e:=getElem?_mirror_all (xs:=p) (i:=i) a k;split
 .rename_i h;rw[ao h] at e;exact qO e
 .rename_i h;rw[ak h] at e;exact qO e
theorem yR{p:Array Nat}{i j:Nat}(b:j<=p.size)(a:∀k,i<=k->k<j->kp O key p k=kp O key p (j - 1))(k:Nat):kp O key (kas_rev p i j) k=kp O key p k:=by
 rw[yS b];split
 .rw[a _ ω ω,a k ω ω]
 .rfl
theorem Pm.rev{p:Array Nat}(h:Pm n p)(i j:Nat):Pm n (kas_rev p i j):=(mirror_perm _ _ _ _).trans h
theorem Up.snoc{p:Array Nat}{x:Nat}(h:Up O key p x)(h1:1<=x)(hx:O.blt (kp O key p x) (kp O key p (x - 1))=false):Up O key p (x+1):=λi j a c=>by
 by_cases b:j<x
 .exact h i j a b
 .have e:j=x:=ω
  subst e;by_cases hi:i=j
  .subst hi;exact nA _
  .exact nB (h i (j - 1) ω ω) hx
theorem Dn.snoc{p:Array Nat}{x:Nat}(h:Dn O key p x)(h1:1<=x)(hx:O.kle (kp O key p x) (kp O key p (x - 1))):Dn O key p (x+1):=λi j a c=>by
 by_cases b:j<x
 .exact h i j a b
 .have e:j=x:=ω
  subst e;by_cases hi:i=j
  .subst hi;exact nA _
  .exact nB hx (h i (j - 1) ω ω)
variable(hc:∀i j,i<n->j<n->∀C:Bool->Shared->Prop,C (O.blt (key i) (key j)) s->cmp i j C s)
include hc
theorem qj{α:Type}{p:Array Nat}(a:Pm n p){i j:Nat}(hi:i<n)(b:j<n){k:Bool->KasT α}{G:α->Shared->Prop}(h:(k (O.blt (kp O key p i) (kp O key p j))).kasWp cmp G s):(KasT.ask (p.getD i 0) (p.getD j 0) k).kasWp cmp G s:=
 hc _ _ (a.lt hi) (a.lt b) _ h
theorem xF{p:Array Nat}(d:Pm n p){b:Nat}(k:b<=n){G:Nat->Shared->Prop}:∀(f a:Nat),1<=a->a+f=b->Up O key p a->
  (∀m,a<=m->m<=b->Up O key p m->(m=b\/O.klt (kp O key p m) (kp O key p (m - 1)))->G m s)->(kas_asc p f a).kasWp cmp G s
 |0,a,h1,e,c,h=>h a (aG _) ω c (.inl ω)
 |f+1,a,h1,e,c,h=>by
  refine qj hc d (i:=a) (j:=a - 1) ω ω ?_;cases g:O.blt (kp O key p a) (kp O key p (a - 1)) with
  |true=>rw[ao rfl];exact h a (aG _) ω c (.inr g)
  |false=>
   rw[ak b6];exact xF d k f (a+1) ω ω (c.snoc h1 g) λm l=>h m ω
theorem t7{a:Nat}(r:a<=n){G:Array Nat×Nat×Nat->Shared->Prop}:∀(f:Nat) (p:Array Nat) (x q:Nat),Pm n p->1<=x->x+f=a->Dn O key p x->q+1<=x->(∀i,x - (q+1)<=i->i<x->kp O key p i=kp O key p (x - 1))->
  (∀b m d,Pm n b->x<=m->m<=a->Dn O key b m->d+1<=m->(∀i,m - (d+1)<=i->i<m->kp O key b i=kp O key b (m - 1))->G (b,m,d) s)->(kas_desc f p x q).kasWp cmp G s
 |0,p,x,q,g,h1,e,k,t,l,h=>h p x q g (aG _) ω k t l
 |f+1,p,x,q,g,h1,e,k,t,l,h=>by
  have hz:=g.size;refine qj hc g (i:=x) (j:=x - 1) ω ω ?_;cases u:O.blt (kp O key p x) (kp O key p (x - 1)) with
  |true=>
   rw[ao rfl];by_cases o:q>0
   .rw[ao o]
    have y:=yR (O:=O) (key:=key) (p:=p) (i:=x - (q+1)) (j:=x) ω l;refine t7 r f _ (x+1) 0 (g.rev _ _) ω ω (λi j v A=>?_) ω (λi i1 i2=>by congr 1;omega) λb m d c z=>h b m d c ω;rw[y,y];exact(k.snoc h1 (sG u)) i j v A
   .rw[ak o]
    exact t7 r f p (x+1) 0 g ω ω (k.snoc h1 (sG u)) ω (λi i1 i2=>by congr 1;omega) λb m d c z=>h b m d c ω
  |false=>
   rw[ak b6];refine qj hc g (i:=x - 1) (j:=x) ω ω ?_;cases hd:O.blt (kp O key p (x - 1)) (kp O key p x) with
   |true=>rw[ao rfl];exact h p x q g (aG _) ω k t l
   |false=>
    rw[ak b6];have ex:kp O key p x=kp O key p (x - 1):=KeyOrd.kle_antisymm hd u;refine t7 r f p (x+1) (q+1) g ω ω (k.snoc h1 hd) ω (λi i1 i2=>?_) λb m d c z=>h b m d c ω;rw[show x+1 - 1=x by omega];by_cases w:i=x
    .rw[w]
    .rw[ex];exact l i ω ω
theorem Hw{p:Array Nat}(b:Pm n p){m a:Nat}(e:a<=n)(h1:1<=m)(q:m<=a)(f:Dn O key p m){G:Nat×Array Nat->Shared->Prop}(h:∀k c,Pm n c->1<=k->k<=a->Up O key c k->G (k,c) s):(kas_tail3 m a p).kasWp cmp G s:=by
 have hz:=b.size;unfold kas_tail3;rw[KasT.kasWp_bind];refine xF hc (b.rev 0 m) e _ m h1 ω (λi j g r=>?_) λk l d o _=>h k _ (b.rev 0 m) ω d o;rw[yS ω,yS ω,ao ω,ao ω];exact f _ _ ω ω
theorem EI{p:Array Nat}(r:Pm n p){m a:Nat}(g:a<=n)(x:m+1<=a)(t:Dn O key p (m+1)){G:Nat×Array Nat->Shared->Prop}(h:∀k c,Pm n c->1<=k->k<=a->Up O key c k->G (k,c) s):(kas_descPart m a p).kasWp cmp G s:=by
 unfold kas_descPart;rw[KasT.kasWp_bind];refine t7 hc g _ p (m+1) 0 r ω ω t ω (λi i1 i2=>by congr 1;omega) λc k q b u d e y v=>?_;have hz:=b.size;by_cases f:q>0
 .simp only[f,jZ]
  have o:=yR (O:=O) (key:=key) (p:=c) (i:=k - (q+1)) (j:=k) ω v;refine Hw hc (b.rev _ _) g ω d (λi j l w=>?_) h;rw[o,o];exact e i j l w
 .simp only[f,fT]
  exact Hw hc b g ω d e h
theorem Js{p:Array Nat}(b:Pm n p)(h1:1<=n){G:Nat×Array Nat->Shared->Prop}(h:∀k r,Pm n r->1<=k->k<=n->Up O key r k->G (k,r) s):(kas_count n p).kasWp cmp G s:=by
 have hz:=b.size;unfold kas_count;rw[KasT.kasWp_bind];refine xF hc b (aG n) _ 1 (aG _) ω (λi j a f=>by have e:i=j:=ω;rw[e];exact nA _) λm c g o t=>?_;by_cases d:m=n
 .rw[ao (by simpa using d)]
  exact h m p b c g o
 .rw[ak (by simpa using d)]
  have l:=t.resolve_left d;by_cases v:m>1
  .rw[ao v]
   refine qj hc b (i:=0) (j:=m - 1) ω ω ?_;cases w:O.blt (kp O key p 0) (kp O key p (m - 1)) with
   |true=>rw[ao rfl];exact h m p b c g o
   |false=>
    rw[ak b6];have u:∀k,0<=k->k<m->kp O key p k=kp O key p (m - 1):=λk _ q=>
     KeyOrd.kle_antisymm (o k (m - 1) ω ω) (nB w (o 0 k ω q))
    have q:=yR (O:=O) (key:=key) (p:=p) (i:=0) (j:=m) ω u;refine EI hc (b.rev 0 m) (aG n) ω (λi j a f=>?_) h;rw[q,q];have hd:Dn O key p m:=λi j a f=>by rw[u i ω ω,u j ω f];exact nA _
    exact(hd.snoc c (sG l)) i j a f
  .rw[ak v]
   have e:m=1:=ω
   subst e;have hd:Dn O key p 1:=λi j a f=>by have e:i=j:=ω;rw[e];exact nA _
   exact EI hc b (aG n) ω (hd.snoc (aG _) (sG l)) h
theorem zw{p:Array Nat}(g:Pm n p){k:Nat}(m:k<n)(d:Up O key p k){G:Nat->Shared->Prop}:∀(f l r:Nat),l<=r->r<=k->r - l<=f->(∀i,i<l->O.kle (kp O key p i) (kp O key p k))->(∀i,r<=i->i<k->O.klt (kp O key p k) (kp O key p i))->
  (∀l,l<=k->(∀i,i<l->O.kle (kp O key p i) (kp O key p k))->(∀i,l<=i->i<k->O.klt (kp O key p k) (kp O key p i))->G l s)->(kas_place p k f l r).kasWp cmp G s
 |0,l,r,o,q,u,a,b,h=>by
  have e:l=r:=ω
  exact h l ω a (e▸b)
 |f+1,l,r,o,q,u,a,b,h=>by
  unfold kas_place;by_cases c:l≥r
  .rw[ao c]
   have e:l=r:=ω
   exact h l ω a (e▸b)
  .rw[ak c]
   refine qj hc g (i:=k) (j:=(l+r)/2) m ω ?_;cases t:O.blt (kp O key p k) (kp O key p ((l+r)/2)) with
   |true=>
    rw[ao rfl];exact zw g m d f l ((l+r)/2) ω ω ω a (λi i1 i2=>KeyOrd.klt_of_klt_of_kle t (d _ _ i1 i2)) h
   |false=>
    rw[ak b6];exact zw g m d f ((l+r)/2+1) r ω ω ω (λi i1=>nB (d i ((l+r)/2) ω ω) t) b h
theorem BC{G:Array Nat->Shared->Prop}(h:∀g,Pm n g->Up O key g n->G g s):∀(f:Nat) (p:Array Nat) (k:Nat),Pm n p->k+f=n->Up O key p k->(kas_bin f p k).kasWp cmp G s
 |0,p,k,b,e,d=>h p b (by rw[<-e];exact d)
 |f+1,p,k,b,e,d=>by
  have hz:=b.size;unfold kas_bin;rw[KasT.kasWp_bind];refine zw hc b ω d k 0 k ω (aG _) ω (λi hi=>ω) (λi i1 i2=>ω) λl hl m o=>?_;refine BC h f _ (k+1) ((bubble_perm _ _ _).trans b) ω λi j q r=>?_;have c:∀x,kp O key (bubble p k (k - l)) x=if x=l then kp O key p k else if l<x/\x<=k then kp O key p (x - 1) else kp O key p x:=λx=>by
   have a:=getElem?_bubble (xs:=p) (src:=k) ω (k - l) ω x;rw[show k - (k - l)=l by omega] at a;split
   .rename_i h1;rw[ao h1] at a;exact qO a
   .rename_i h1
    rw[ak h1] at a;split
    .rename_i h2;rw[ao h2] at a;exact qO a
    .rename_i h2;rw[ak h2] at a;exact qO a
  rw[c,c];repeat' split
  all_goals first
   |(exfalso;omega)
   |exact nA _
   |exact m _ ω
   |exact sG (o _ ω ω)
   |exact d _ _ ω ω
theorem SD{G:Array Nat->Shared->Prop}(h1:1<=n)(h:∀a,Pm n a->Up O key a n->G a s):(kas_sort n).kasWp cmp G s:=by
 unfold kas_sort;rw[KasT.kasWp_bind];refine Js hc (Array.Perm.refl _) h1 λk p b e f c=>?_;by_cases d:k<n
 .simp only[d,jZ]
  rw[show max k 1=k by omega];exact BC hc h _ p k b ω c
 .simp only[d,fT]
  exact h p b (by rw[show n=k by omega];exact c)
end
end KO
namespace KP
open PySem PySem.W PySem.Spec PyProof.Rows KO
section
variable{prog:Program}{w:World}{A:Around}{E:aR}{s:Shared}
theorem NY{κ:SortKind}{O:KeyOrd}{key:Nat->O.α}{a:Addr}{vs:List Value}{n:Nat}{P:PySem.Fin->Shared->Prop}(m:s.heap.get? a=some (seqObj "list" vs.toArray n))(r:vs.length<64)
  (I:∀s':Shared,(∀b o,b≠a->s.heap.get? b=some o->s'.heap.get? b=some o)->2<=vs.length->∀R:SortKind->Shared->Prop,R κ s'->wpAny (model prog w) A (keyKind' vs.toArray) R (λ_ _=>False) s')
  (hc:∀s':Shared,(∀b o,b≠a->s.heap.get? b=some o->s'.heap.get? b=some o)->∀i j,i<vs.length->j<vs.length->∀C:Bool->Shared->Prop,C (O.blt (key i) (key j)) s'->kas_ask prog w A κ vs i j C s')
  (h:∀p:Array Nat,Pm vs.length p->Up O key p vs.length->P (.done (.ret .none)) {s with heap:=sortedHeap s.heap a vs (p.toList.map λi=>vs.getD i Value.none).toArray}):
  wpAny (model prog w) A (Builtin.«list.sort» ⟨[.ref a],[]⟩) P E s:=by
 rw[list_sort_plain]
 have H:a<s.heap.objs.size:=aV m
 refine af (listItems_at m rfl ?_)
 refine af (listUpdate_at m rfl ?_ (by rw[cA,kU];omega) (bV _))
 obtain⟨t,g⟩:∃t,(s.heap.update a (Obj.mapSeq λ_=>(#[]:Array Value))).get? a=some (seqObj "list" #[] t):=⟨_,get?_update_seq m λ_=> #[]⟩
 refine af (seqEpoch_at g rfl ?_)
 refine af (wpAny_newTuple ?_ (by show vs.length<=_;rw[kU];omega))
 refine af (wo ?_ (bV _))
 refine gz ?_
 have c:(((s.heap.update a (Obj.mapSeq λ_=>(#[]:Array Value))).push (seqObj "tuple" vs.toArray 0)).push (seqObj "list" #[] 0)).get? a=some (seqObj "list" #[] t):=by
  rw[get?_push_ne _ _ _ (by rw[size_push',pO];exact bI (gb H)),get?_push_ne _ _ _ (by rw[pO];exact bI H)]
  exact g
 have kp:∀b o,b≠a->s.heap.get? b=some o->(((s.heap.update a (Obj.mapSeq λ_=>(#[]:Array Value))).push (seqObj "tuple" vs.toArray 0)).push (seqObj "list" #[] 0)).get? b=some o:=λb o J q=>
  bA _ (bA _ (by rw[Heap.get?_update_ne _ _ _ _ J];exact q))
 show wpAny (model prog w) A _ P E {s with heap:=((s.heap.update a (Obj.mapSeq λ_=>(#[]:Array Value))).push (seqObj "tuple" vs.toArray 0)).push (seqObj "list" #[] 0)}
 dsimp only
 by_cases h2:vs.toArray.size<2
 .rw[ao h2,ao h2]
  refine af (aD ?_)
  rw[StateT.run_pure]
  refine af (aD ?_)
  dsimp only
  have u:vs.length<2:=by simpa using h2
  have e:=h (range vs.length).toArray (Array.Perm.refl _) λi j K Y=>by
   have L:i=j:=ω
   rw[L];exact nA _
  have M:(arrOf (SortSt.mk' general' (vs.toArray.zip vs.toArray) #[] 7 none)).map (·.2)=((range vs.length).toArray.toList.map λi=>vs.getD i Value.none).toArray:=by
   refine kat_snds (ks:=vs) rfl ?_
   have e:=kas_range (vs.toArray.zip vs.toArray)
   rw[show(vs.toArray.zip vs.toArray).size=vs.length by simp] at e
   exact e.symm
  rw[M]
  refine af (seqEpoch_at c rfl ?_)
  refine af (listUpdate_at c rfl ?_ (bV _) (by rw[cA,aS,length_range,kU];omega))
  simp only[mh,jf,fT]
  exact aD e
 .rw[ak h2,ak h2]
  have u:2<=vs.length:=by
   have:vs.toArray.size=vs.length:=θ
   omega
  obtain⟨f,v⟩:∃f:Shared,f={s with heap:=((s.heap.update a (Obj.mapSeq λ_=>(#[]:Array Value))).push (seqObj "tuple" vs.toArray 0)).push (seqObj "list" #[] 0)}:=⟨_,rfl⟩
  have k:∀b o,b≠a->s.heap.get? b=some o->f.heap.get? b=some o:=by rw[v];exact kp
  rw[<-v]
  refine af (jB (I f k u (λl s'=>l=κ/\s'=f) ⟨rfl,rfl⟩) ?_ λ_ _ x=>x.elim)
  rintro l s' ⟨N,es⟩
  rw[N,es]
  refine af (jB (kat_run (ks:=vs) (vs:=vs) (Q:=λd s'=>∃p:Array Nat,p.size=vs.length/\arrOf d=p.map (kas_item (vs.toArray.zip vs.toArray))/\failedOf d=none/\Pm vs.length p/\Up O key p vs.length/\s'=f)
   (G:=λp s'=>Pm vs.length p/\Up O key p vs.length/\s'=f) rfl u r (λS d s' a1 a2 T U=>⟨S,a1,a2,T,U⟩)
   (SD (O:=O) (key:=key) (hc f k) ω λp y V=>⟨y,V,rfl⟩)) ?_ λ_ _ e=>e)
  rintro ⟨⟨⟩,d⟩ W ⟨p,y,z,X,B,D,F⟩
  dsimp only
  rw[F]
  rw[kat_snds rfl z]
  subst v
  refine af (seqEpoch_at c rfl ?_)
  refine af (listUpdate_at c rfl ?_ (bV _) (by rw[cA,aS,gw,y,kU];omega))
  rw[X]
  simp only[mh,jf,fT]
  exact aD (h p B D)
theorem SE{κ:SortKind}{O:KeyOrd}{key:Nat->O.α}{l:Addr}{vs:List Value}{Q:aR}(hl:s.heap.IsList l vs.toArray)(d:vs.length<64)
  (f:∀s':Shared,(∀b o,s.heap.get? b=some o->s'.heap.get? b=some o)->2<=vs.length->∀R:SortKind->Shared->Prop,R κ s'->wpAny (model prog w) A.in1.in1 (keyKind' vs.toArray) R (λ_ _=>False) s')
  (hc:∀s':Shared,(∀b o,s.heap.get? b=some o->s'.heap.get? b=some o)->∀i j,i<vs.length->j<vs.length->∀C:Bool->Shared->Prop,C (O.blt (key i) (key j)) s'->kas_ask prog w A.in1.in1 κ vs i j C s')
  (h:∀(p:Array Nat) (h':Heap) (D:Addr) (e:Nat),Pm vs.length p->Up O key p vs.length->s.heap.objs.size<=D->h'.get? D=some (seqObj "list" (p.toList.map λi=>vs.getD i Value.none).toArray e)->(∀b o,s.heap.get? b=some o->h'.get? b=some o)->Q (.ref D) {s with heap:=h'}):
  wpAny (model prog w) A (call (.builtin "sorted") [.ref l]) Q E s:=by
 refine Ag kind_sorted plain_sorted entry_sorted (args_sorted1 _) ?_
 unfold Builtin.«sorted»
 refine af (m:=checkCount "sorted" 1 1 _) (aD ?_)
 refine af (collect_list hl ?_ (by rw[kU];omega))
 refine af (wo ?_ (by rw[kU];omega))
 have hsz:((s.heap.push (seqObj "list" #[] 0)).update s.heap.objs.size (Obj.mapSeq (·++vs.toArray))).objs.size=s.heap.objs.size+1:=by
  rw[pO,size_push']
 have a:(((s.heap.push (seqObj "list" #[] 0)).update s.heap.objs.size (Obj.mapSeq (·++vs.toArray))).push (seqObj "list" vs.toArray 0)).get? (s.heap.objs.size+1)=some (seqObj "list" vs.toArray 0):=by
  rw[<-hsz];exact cu _ rfl
 have keep:∀b o,s.heap.get? b=some o->(((s.heap.push (seqObj "list" #[] 0)).update s.heap.objs.size (Obj.mapSeq (·++vs.toArray))).push (seqObj "list" vs.toArray 0)).get? b=some o:=λb o q=>by
  have c:b<s.heap.objs.size:=aV q
  rw[get?_push_ne _ _ _ (by rw[hsz];exact bI (gb c)),Heap.get?_update_ne _ _ _ _ (bI c),get?_push_ne _ _ _ (bI c)]
  exact q
 have ne:∀b o,s.heap.get? b=some o->b≠s.heap.objs.size+1:=λb o q=>bI (gb (aV q))
 show wpAny _ _ _ _ _ {s with heap:=((s.heap.push (seqObj "list" #[] 0)).update s.heap.objs.size (Obj.mapSeq (·++vs.toArray))).push (seqObj "list" vs.toArray 0)}
 rw[hsz]
 refine af (gz (jb slot_list_sort ⟨_,a,rfl⟩ entry_list_sort ?body (args_list_sort _)))
 case body=>
  refine NY (κ:=κ) (O:=O) (key:=key) (s:={s with heap:=((s.heap.push (seqObj "list" #[] 0)).update s.heap.objs.size (Obj.mapSeq (·++vs.toArray))).push (seqObj "list" vs.toArray 0)})
   a d (λs' k=>f s' λb o q=>k b o (ne b o q) (keep b o q)) (λs' k=>hc s' λb o q=>k b o (ne b o q) (keep b o q)) λp g n=>⟨_,rfl,aD ⟨_,rfl,?_⟩⟩
  obtain⟨e,r⟩:=sortedHeap_at (out:=(p.toList.map λi=>vs.getD i Value.none).toArray) a
  refine h p _ _ e g n (le_succ _) r λb o q=> ?_
  rw[sortedHeap_old (ne b o q) (aV (keep b o q))]
  exact keep b o q
theorem DZ{b fin r:Bool}{Q:Bool->Shared->Prop}(q:Q r s):∀{zs:List (Value×Value)} {i:Nat},0<i->L2.jj .Lt A s fin r zs->KatLex prog w A b fin Q zs i s
 |[],i,hi,h=>by
  cases h with
  |nil e=>exact kat_nil (by rw[e];exact q)
 |(y,x)::zs,i,hi,h=>by
  refine kat_cons ?_;cases h with
  |eq h1 h2=>exact h1 prog w _ _ (kat_yes (DZ q ω h2))
  |ne h1 h2=>
   refine h1 prog w _ _ (kat_no ?_);have e:(b&&i==0)=false:=by
    cases i with
    |zero=>omega
    |succ i=>simp
   rw[e];exact kat_one _ _ (h2 prog w _ _ q)
theorem Nv{x y:Value}{a c:Str}{xs ys:List PyData}{as bs:List Addr}{r:Bool}{Q:Bool->Shared->Prop}(e:L2.ltQ (.tuple (.str a::xs)) (.tuple (.str c::ys))=some r)(t:Reads s.heap x (.tuple (.str a::xs)) as)(u:Reads s.heap y (.tuple (.str c::ys)) bs)
  (v:canLay0 (.tuple (.str a::xs))=true)(z:canLay0 (.tuple (.str c::ys))=true)(j:A.units+min (depthAll (.str a::xs)) (depthAll (.str c::ys))<cLine)(q:Q r s):wpAny (model prog w) A (keyLt' (tuples' true) x y) Q E s:=by
 cases t with
 | @tuple l o vs n _ h h1 h2 B k=>
  cases u with
  | @tuple F o' b n' _ i k1 k2 k3 m=>
   refine kat_lt h1 B k1 k3 ?_;rw[L2.ltQ] at e;have hsz:decide (vs.size<b.size)=decide (vs.toList.length<b.toList.length):=θ
   rw[hsz];generalize vs.toList=G at k ⊢;generalize b.toList=C at m ⊢;have d:canLay0 (.str a)=true/\canLayAll0 xs=true:=by simpa[canLay0,canLayAll0] using v
   have f:canLay0 (.str c)=true/\canLayAll0 ys=true:=by simpa[canLay0,canLayAll0] using z
   cases k with
   |cons a1 a2=>
    cases m with
    |cons p D=>
     have g:=SeqAt.eqAt_reads (.str a) (.str c) A s _ _ _ _ a1 p d.1 f.1 (SeqAt.room_head j);cases a1;cases p;rw[List.zip_cons_cons,L2.DY];refine kat_cons ?_;rw[L2.eH] at e;cases ce:PyData.eqv (.str a) (.str c) with
     |true=>
      rw[ce] at e g;exact g prog w _ _ (kat_yes (DZ q ω (L2.yX xs ys A s _ _ _ _ r e a2 D d.2 f.2 (SeqAt.room_tail j))))
     |false=>
      rw[ce] at e g;refine g prog w _ _ (kat_no (oneLt_str ?_));have e:L2.ltQ (.str a) (.str c)=some r:=e;rw[L2.ltQ] at e;cases e;exact q
end
end KP
section
open PySem PySem.Spec PyProof.Rows
namespace L2
open PySem.SeqAt
theorem J_{xs ys:List PyData}{u:Nat}(h1:(PyData.tuple xs).depth<=60)(a:u+64<cLine):u+2+min (depthAll xs) (depthAll ys)<cLine:=by
 have e:(PyData.tuple xs).depth=depthAll xs+1:=rfl;omega
theorem kat_tups{h:Heap}:∀{vs:List Value} {qs:List PyData},vs.length=qs.length->(∀(i:Nat) v q,vs[i]?=some v->qs[i]?=some q->∃as x r,Reads h v q as/\q=.tuple (.str x::r))->∃fs:List Value,fs.length=vs.length/\PySem.W.KatTups h vs fs/\∀v∈fs,∃x t,v=Value.str x t
 |[],[],_,_=>⟨[],rfl,.nil,λ_ h=>by cases h⟩
 |v::vs,q::qs,e,k=>by
  obtain⟨fs,h1,h2,c⟩:=kat_tups (vs:=vs) (qs:=qs) (by simpa using e) λi d f g j=>k (i+1) d f (by simpa using g) (by simpa using j);obtain⟨as,x,r,rd,rfl⟩:=k 0 v q rfl rfl;cases rd with
  | @tuple l o m n _ a p s u b=>
   generalize w:m.toList=ul at b;cases b with
   | @cons y vr _ _ _ _ a1 a2=>
    cases a1 with
    |str _ t=>
     refine⟨Value.str x t::fs,by simp[h1],.cons p s u ?_ h2,λv hv=>?_⟩
     .rw[<-p5,w];rfl
     .rcases bz.mp hv with rfl|hv
      .exact⟨x,t,rfl⟩
      .exact c v hv
section
variable{X:Cx}
theorem BN(hc:X.calm=true)(hu:X.A.units+64<cLine):e_ X (.builtin "sorted") (λxs H Q=>∃(a:Addr) (vs:List V) (qs:List PyData) (O:KeyOrd) (key:Nat->O.α),xs=[.ref a]/\aY X.K H a vs/\vs.length<64/\vs.length=qs.length/\
  (∀(i:Nat) v q,vs[i]? =some v->qs[i]? =some q->Dp X.K H v q/\q.canLay0=true/\q.depth<=60/\∃x r,q= .tuple (.str x::r))/\(∀(i j:Nat) p q,qs[i]? =some p->qs[j]? =some q->ltQ p q=some (O.blt (key i) (key j)))/\
  ∀(l:Addr) (p:Array Nat),H l=none->KO.Pm vs.length p->KO.Up O key p vs.length->Q (.ref l) (upd H l (.lst (p.toList.map λi=>vs.getD i .aE)))):=by
 intro pins s σ H xs us Q I r h
 obtain⟨a,vs,qs,O,key,rfl,hq,B,hl,hd,hk,q⟩:=h
 obtain⟨u,rfl,ru⟩:=vals1 r
 cases ru
 obtain⟨its,E,pl,hz⟩:=I.list hq
 have F:=E.length
 have rd:∀(i:Nat) u p,its[i]? =some u->qs[i]? =some p->∃as x r,Reads s.heap u p as/\p= .tuple (.str x::r)/\p.canLay0=true/\p.depth<=60:=λi u p k G=>by
  have hi:i<its.length:=(bW.mp k).1
  obtain⟨u',m,J⟩:=Vals.get E (aW (show i<vs.length by omega))
  rw[k] at m
  cases m
  obtain⟨d1,d2,d3,x,r,d4⟩:=hd i _ p (aW (show i<vs.length by omega)) G
  obtain⟨as,d5⟩:=Dp.reads I p _ u d1 J
  exact⟨as,x,r,d5,d4,d2,d3⟩
 refine KP.SE (κ:=tuples' true) (O:=O) (key:=key) (vs:=its) pl.isList ω (λs' kp h2 R hR=> ?_) (λs' kp i j hi hj C hC=> ?_) λp h' D e L d hD ho kp=> ?_
 .obtain⟨fs,f1,f2,f3⟩:=kat_tups (h:=s'.heap) (vs:=its) (qs:=qs) ω λi v q k G=>by
   obtain⟨as,x,r,n,M,_⟩:=rd i v q k G
   exact⟨as,x,r,PyProof.Rows.Reads.keeps kp n,M⟩
  refine PySem.W.kat_kind (T:=Value.type "str") f2 ω (λv hv=> ?_) δ hR
  obtain⟨x,t,rfl⟩:=f3 v hv
  exact Looks.of_pure rfl
 .have N:=aW hi
  have P:=aW hj
  have S:=aW (show i<qs.length by omega)
  have U:=aW (show j<qs.length by omega)
  obtain⟨as,x,r,n,M,Y,Z⟩:=rd i _ _ N S
  obtain⟨bs,y,t,k1,k2,k3,k4⟩:=rd j _ _ P U
  have c:=hk i j _ _ S U
  rw[M] at n Y Z c
  rw[k2] at k1 k3 c
  unfold PySem.W.kas_ask
  rw[gh,gh,N,P]
  exact KP.Nv c (PyProof.Rows.Reads.keeps kp n) (PyProof.Rows.Reads.keeps kp k1) Y k3 (J_ Z hu) hC
 .have f:∀u,s.heap.get? D≠some u:=λu z=>absurd (cK (aV z) hD) (fy _)
  have hn:H D=none:=by
   cases e0:H D with
   |none=>rfl
   |some o=>
    obtain⟨u,z⟩:=(I.hok _ _ e0).obj
    exact absurd z (f u)
  rw[<-F] at L d
  refine⟨.ref D,upd H D (.lst (p.toList.map λi=>vs.getD i .aE)),?_,rfl,q D p hn L d⟩
  refine I.Ed (t':=s.toks) kp (ki.new hn _) λb o w=> ?_
  by_cases hb:b=D
  .subst hb
   rw[eE] at w
   cases w
   refine .inr ⟨f,?_⟩
   refine⟨by rw[aS,gw,L.size];exact jx (cK B δ),p.toList.map λi=>its.getD i Value.none,e,?_,ho⟩
   generalize p.toList=g
   induction g with
   |nil=>exact .nil
   |cons i g ih=>
    refine .cons ?_ ih
    show RelV (vs.getD i .aE) (its.getD i Value.none)
    rw[gh,gh]
    by_cases hi:i<vs.length
    .obtain⟨u',m,J⟩:=Vals.get E (aW hi)
     rw[aW hi,m]
     exact J
    .rw[nI ω,nI ω]
     rfl
  .rw[a_ hb] at w
   exact .inl w
end
end L2
namespace DP
open L2
@[irreducible] def vK(r:Nat)(A:Ar)(R:DK):Prop:=match A[r]? with
 |some (.lst ds)=>ds.length<64/\(∀d∈ds,f7 d=true/\(toQ d).canLay0=true/\(toQ d).depth<=60/\∃x r,toQ d=.tuple (.str x::r))/\
  ∃(O:KeyOrd) (key:D->O.α),(∀d∈ds,∀e∈ds,ltQ (toQ d) (toQ e)=some (O.blt (key d) (key e)))/\∀es:List D,es.Perm ds->es.Pairwise (λa b=>O.kle (key a) (key b))->R (.ref A.length) (A++[.lst es])
 |_=>False
noncomputable def G6:iL:=λvs A R=>match vs with
 |[.ref r]=>vK r A R
 |_=>False
theorem Oh{α:Type}(d:α):∀(l:List α),(range l.length).map (λi=>l.getD i d)=l:=λl=>by
 apply List.ext_getElem
 .simp
 .intro i h1 h2
  simp[h2]
theorem Cf{mg:aB}{K:Frag}:jg mg (λxs H Q=>∃(a:Addr) (vs:List V) (qs:List PyData) (O:KeyOrd) (key:Nat->O.α),xs=[.ref a]/\aY K H a vs/\vs.length<64/\vs.length=qs.length/\
  (∀(i:Nat) v q,vs[i]? =some v->qs[i]? =some q->Dp K H v q/\q.canLay0=true/\q.depth<=60/\∃x r,q= .tuple (.str x::r))/\(∀(i j:Nat) p q,qs[i]? =some p->qs[j]? =some q->ltQ p q=some (O.blt (key i) (key j)))/\
  ∀(l:Addr) (p:Array Nat),H l=none->KO.Pm vs.length p->KO.Up O key p vs.length->Q (.ref l) (upd H l (.lst (p.toList.map λi=>vs.getD i .aE)))) G6:=by
 intro ds A ι H S R Q ra rs h k
 unfold G6 at h
 split at h
 .obtain⟨_,_,rfl,⟨_,rfl⟩,rfl⟩:=rs
  unfold vK at h
  split at h
  .rename_i ds e
   obtain⟨C,hd,O,key,E,q⟩:=h
   obtain⟨xs,hx,t⟩:=ra.lst e
   have hl:=aj.length t
   refine⟨_,xs,ds.map toQ,O,λi=>key (ds.getD i .aE),rfl,aY.of hx,ω,by simp[hl],λi v p c b=> ?_,λi j p T c b=> ?_,λl p F n g=> ?_⟩
   .rw[bO] at b
    cases f:ds[i]? with
    |none=>rw[f] at b;cases b
    |some d=>
     rw[f] at b
     cases b
     obtain⟨G,o,u⟩:=aj.get t f
     rw[c] at o
     cases o
     obtain⟨I,p2,J,L⟩:=hd d (bP f)
     exact⟨RV.dp _ _ I u,p2,J,L⟩
   .rw[bO] at c b
    cases f:ds[i]? with
    |none=>rw[f] at c;cases c
    |some d=>
     cases s:ds[j]? with
     |none=>rw[s] at b;cases b
     |some d'=>
      rw[f] at c
      rw[s] at b
      cases c
      cases b
      show ltQ (toQ d) (toQ d')=some (O.blt (key (ds.getD i .aE)) (key (ds.getD j .aE)))
      rw[gh,gh,f,s]
      exact E d (bP f) d' (bP s)
   .rw[<-hl] at n g
    have hz:=n.size
    have w:(p.toList.map λi=>ds.getD i .aE).Perm ds:=by
     have:=(Array.perm_iff_toList_perm.mp n).map λi=>ds.getD i D.aE
     rwa [Oh] at this
    refine oR k ra (ds:=p.toList.map λi=>ds.getD i .aE) ?_ (q _ w ?_) F
    .refine aj.of_get θ λi d v c b=> ?_
     rw[bO] at c b
     cases ep:p.toList[i]? with
     |none=>rw[ep] at c;cases c
     |some m=>
      rw[ep] at c b
      have M:m<ds.length:=by
       have:=(Array.perm_iff_toList_perm.mp n).mem_iff.mp (bP ep)
       simpa using this
      have z:=aW M
      obtain⟨G,o,u⟩:=aj.get t z
      have c:some (ds.getD m .aE)=some d:=c
      have b:some (xs.getD m .aE)=some v:=b
      rw[gh,z] at c
      rw[gh,o] at b
      cases c
      cases b
      exact u
    .rw[lX,wG]
     intro i j hi B y
     have:=g i j (jx y) (by simpa[hz] using B)
     unfold KO.kp at this
     have N:p.getD i 0=p.toList[i]:=by
      rw[mz,gf (by simpa using hi)]
      simp
     have P:p.getD j 0=p.toList[j]:=by
      rw[mz,gf (by simpa using B)]
      simp
     rw[N,P] at this
     exact this
  .exact h.elim
 .exact h.elim
theorem G7{A:Ar}{r:Nat}{ds:List D}{R:DK}(O:KeyOrd)(key:D->O.α)(h:A[r]?=some (.lst ds))(c:ds.length<64)(hd:∀d∈ds,f7 d=true/\(toQ d).canLay0=true/\(toQ d).depth<=60/\∃x r,toQ d=.tuple (.str x::r))
  (f:∀d∈ds,∀e∈ds,ltQ (toQ d) (toQ e)=some (O.blt (key d) (key e)))(k:∀es:List D,es.Perm ds->es.Pairwise (λa b=>O.kle (key a) (key b))->R (.ref A.length) (A++[.lst es])):vK r A R:=by
 unfold vK;simp only[h];exact⟨c,hd,O,key,f,k⟩
noncomputable def o4(P Q:KeyOrd):KeyOrd where
 α:=P.α×Q.α
 blt a b:=P.blt a.1 b.1||(!P.blt b.1 a.1&&Q.blt a.2 b.2)
 irrefl a:=by simp[P.irrefl,Q.irrefl]
 trans a b c h1 h2:=by
  obtain⟨a1,a2⟩:=a
  obtain⟨b1,b2⟩:=b
  obtain⟨c1,c2⟩:=c
  simp only[or_eq_true,ia,r_] at h1 h2 ⊢
  rcases h1 with h1|⟨h1,k1⟩
  .refine .inl ?_
   rcases h2 with h2|⟨h2,_⟩
   .exact P.trans _ _ _ h1 h2
   .exact KeyOrd.klt_of_klt_of_kle h1 h2
  .rcases h2 with h2|⟨h2,k2⟩
   .exact .inl (KeyOrd.klt_of_kle_of_klt h1 h2)
   .exact .inr ⟨nB h1 h2,Q.trans _ _ _ k1 k2⟩
 negTrans a b c h:=by
  obtain⟨a1,a2⟩:=a
  obtain⟨b1,b2⟩:=b
  obtain⟨c1,c2⟩:=c
  simp only[or_eq_true,ia,r_] at h ⊢
  rcases h with h|⟨h,k⟩
  .rcases P.negTrans _ b1 _ h with h|h
   .exact .inl (.inl h)
   .exact .inr (.inl h)
  .cases e1:P.blt a1 b1 with
   |true=>exact .inl (.inl rfl)
   |false=>
    cases e2:P.blt b1 c1 with
    |true=>exact .inr (.inl rfl)
    |false=>
     have x1:P.blt b1 a1=false:=nB (O:=P) (a:=a1) (b:=c1) (c:=b1) h e2
     have x2:P.blt c1 b1=false:=nB (O:=P) (a:=b1) (b:=a1) (c:=c1) e1 h
     rcases Q.negTrans _ b2 _ k with k|k
     .exact .inl (.inr ⟨x1,k⟩)
     .exact .inr (.inr ⟨x2,k⟩)
 total a b h1 h2:=by
  obtain⟨a1,a2⟩:=a
  obtain⟨b1,b2⟩:=b
  simp only[Bool.or_eq_false_iff] at h1 h2
  have e:=P.total _ _ h1.1 h2.1
  subst e
  simp only[P.irrefl,Bool.not_false,Bool.true_and,true_and] at h1 h2
  rw[Q.total _ _ h1 h2]
noncomputable def uo:KeyOrd where
 α:=Int
 blt a b:=decide (a<b)
 irrefl a:=θ
 trans a b c h1 h2:=by simp only[kZ] at*;omega
 negTrans a b c h:=by simp only[kZ] at*;omega
 total a b h1 h2:=by simp only[Au] at*;omega
abbrev dF:KeyOrd:=strKind.toKeyOrd
theorem zW{a b:Str}(h:a.cps.toList=b.cps.toList):a=b:=by
 cases a;cases b;simp at h;simpa using Array.toList_inj.mp (by simpa using h)
theorem N9{a b:Str}{O:KeyOrd}{x y:O.α}{xs ys:List PyData}(h:eH xs ys=some (O.blt x y)):ltQ (.tuple (.str a::xs)) (.tuple (.str b::ys))=some ((o4 dF O).blt (a.cps.toList,x) (b.cps.toList,y)):=by
 rw[ltQ,eH];cases c:PyData.eqv (.str a) (.str b) with
 |true=>
  have e:a=b:=by simpa[PyData.eqv] using c
  subst e;show eH xs ys=_;rw[h];show some (O.blt x y)=some (dF.blt a.cps.toList a.cps.toList||(!dF.blt a.cps.toList a.cps.toList&&O.blt x y));have d:dF.blt a.cps.toList a.cps.toList=false:=dF.irrefl _;rw[d];simp
 |false=>
  have e:a≠b:=by
   intro z;subst z;simp[PyData.eqv] at c
  show ltQ (.str a) (.str b)=some (dF.blt a.cps.toList b.cps.toList||(!dF.blt b.cps.toList a.cps.toList&&O.blt x y));rw[ltQ];show some (dF.blt a.cps.toList b.cps.toList)=_;cases f:dF.blt a.cps.toList b.cps.toList with
  |true=>rfl
  |false=>
   cases g:dF.blt b.cps.toList a.cps.toList with
   |true=>rfl
   |false=>exact absurd (zW (dF.total _ _ f g)) e
theorem N7{i j:Int}{O:KeyOrd}{x y:O.α}{xs ys:List PyData}(h:eH xs ys=some (O.blt x y)):eH (.int i::xs) (.int j::ys)=some ((o4 uo O).blt (i,x) (j,y)):=by
 rw[eH];show _=some (decide (i<j)||(!decide (j<i)&&O.blt x y));cases c:PyData.eqv (.int i) (.int j) with
 |true=>
  have e:i=j:=by simpa[PyData.eqv] using c
  subst e;show eH xs ys=_;rw[h];simp
 |false=>
  have e:i≠j:=by simpa[PyData.eqv] using c
  show ltQ (.int i) (.int j)=_;rw[ltQ];by_cases a:i<j
  .simp[a]
  .have b:j<i:=ω
   simp[a,b]
noncomputable def rU:KeyOrd where
 α:=Unit
 blt _ _:=false
 irrefl _:=rfl
 trans _ _ _ h _:=by cases h
 negTrans _ _ _ h:=by cases h
 total _ _ _ _:=rfl
theorem N8:eH [] []=some (rU.blt () ()):=rfl
section
variable{es:List Expr}{env:Env}{p:Pos}
theorem R6{x}:starEach (.Name x p::es) env=(false,eval (.Name x p) env)::starEach es env:=rfl
end
def sQ(X:Cx)(k n:Nat)(es:List Expr)(Ss:List Ct):Prop:=∃vs:List V,PA X es (λ_ H Q=>Q vs H)/\vs.length=Ss.length/\vs.length<=100/\∀(i:Nat) v S,vs[i]?=some v->Ss[i]?=some S->FnAt X k v (av X.mg n S)
section
variable{X:Cx}{k n:Nat}
theorem LW:sQ X k n [] []:=⟨[],zq,rfl,δ,λi v S h=>by simp at h⟩
theorem Dc{x:Str}{ps:List Str}{S:Ct}{p:Pos}{es:List Expr}{c:List Ct}(F:ay X.prog X.w X.K X.mg X.base k x ps (av X.mg n S))(h:sQ X k n es c)(hz:c.length<100)(d:Gl X x:=by rfl)(hd:(x==("__debug__":Str))=false:=by decide)
  (e:starEach (.Name x p::es) X.env=(false,eval (.Name x p) X.env)::starEach es X.env:=by exact R6):sQ X k n (.Name x p::es) (S::c):=by
 obtain⟨f,fd,F,b,kp,g⟩:=F;obtain⟨vs,j,hl,l,a⟩:=h;refine⟨.ref f::vs,ye (vp (EO (v:=.ref f) d g rfl hd) j e) λσ H Q q=>q,by simp[hl],by simp;omega,λi v m h1 h2=>?_⟩;cases i with
 |zero=>
  cases h1;cases h2;exact⟨f,fd,ps,rfl,F,b,kp⟩
 |succ i=>exact a i v m (by simpa using h1) (by simpa using h2)
noncomputable def JI(n:Nat)(Ss:List Ct)(RE:DX)(mi:aM)(m:cX):aM:=λτ A R=>mi τ A λx A1=>match x with
 |.int i=>match cM Ss i with
  |some S=>m τ A1 λvs A2=>vs.length=n/\S vs A2 R RE
  |none=>False
 |_=>False
theorem IW{α β:Type}{xs:List α}{ys:List β}{i:Int}{b:β}(hl:xs.length=ys.length)(h:cM ys i=some b):∃(j:Nat) (a:α),cM xs i=some a/\xs[j]?=some a/\ys[j]?=some b:=by
 unfold cM at h ⊢;rw[hl];cases e:jM ys.length i with
 |none=>rw[e] at h;cases h
 |some j=>
  rw[e] at h;have h:ys[j]?=some b:=h;have c:j<ys.length:=(bW.mp h).1;exact⟨j,xs[j]' ω,by show xs[j]?=_;exact aW ω,aW ω,h⟩
theorem J2{N:En}{RE:DX}{es as:List Expr}{d e:Expr}{l:List Ct}{O:aM}{m:cX}{s p2 pos:Pos}(W:sQ X k n es l)(hi:PE X d (up X.mg N O))(t:sY d)(y:dg k X.A)(hx:Passes (bJ X.prog X.w) X (EL X.mg N RE))(Y:PA X (e::as) (fu X.mg N m))
  (hc:eval (.Call (.Subscript (.List es s) d p2) (e::as) [] pos) X.env=(do callWith pos (<-eval (.Subscript (.List es s) d p2) X.env) [] (backTo pos (starEach (e::as) X.env)) (backToKw pos (keywordEach [] X.env))):=by rfl)
  (Z:starEach (e::as) X.env=(false,eval e X.env)::starEach as X.env:=by rfl)(B:(backTo pos (starEach as X.env)).any (·.1)=false:=by rfl):
  PE X (.Call (.Subscript (.List es s) d p2) (e::as) [] pos) (up X.mg N (JI n l RE O m)):=by
 obtain⟨vs,hv,hl,D,f⟩:=W
 refine dJ (Pr (ER DN (ES hv) hi t) y hx Y hc Z B) λσ H Q q=> ?_
 obtain⟨A,ι,τ,R,S,q,k'⟩:=q
 refine⟨cV D δ,λp F=> ?_⟩
 have E:Ext A ι H A ι (upd H p (.lst vs)):=S.ra.qD F
 have r1:RA X.mg ι (upd H p (.lst vs)) A:=S.ra.fix E λb o z=>by rw[a_ (c_ z F)];exact z
 refine⟨A,ι,τ,_,S.next E r1,q,λx P G H1 u a h r2 I=> ?_⟩
 match x,a,I with
 | .int i,a,I=>
  cases I
  have a:(match cM l i with|some S=>m τ P λvs J=>vs.length=n/\S vs J R RE|none=>False):=a
  split at a
  .rename_i S' eS
   obtain⟨j,v,h1,h2,h3⟩:=IW hl eS
   have g:H1 p=some (.lst vs):=h.mo p _ eE λr y z=>by
    obtain⟨o,T,_⟩:=E.im r y
    rw[z,F] at T
    cases T
   refine⟨p,vs,i,v,rfl,rfl,aY.of g,h1,_,f j v S' h2 h3,?_⟩
   refine⟨P,G,τ,_,(S.next E r1).next h r2,a,λds J K H2 us U V r3 v2=> ?_⟩
   exact⟨J,K,ds,R,RE,U.1,r3,v2,U.2,(k'.from ((E.trans h).trans V)),λc A3 L H3 C q3 M e3 r4=>⟨c,A3,L,⟨C,rfl,M⟩,((S.ex.trans E).trans (h.trans V)).trans e3,r4,q3⟩⟩
  .exact a.elim
end
section
variable{X:Cx}{N:En}{es:List Expr}{m:UN}{me:aM}{e:Expr}{p pos:Pos}
noncomputable def FF(i:Nat)(m:aM):cC:=λR τ A=>match lk τ i with
 |some (.int a)=>m τ A λy A1=>match y with
  |.int b=>R.nx (τ.set i (some (.int (a+b)))) A1
  |_=>False
 |_=>False
theorem Kg{i:Nat}{x:Str}{pos':Pos}(h:X.N.Nodup)(hi:X.N[i]?=some x)(hx:Loc X.env.scope x)(j:PE X e (up X.mg N me))(l:X.fn x=true\/X.env.scope.names.lookup x=some .local:=by first|exact .inl rfl|exact .inr rfl|assumption):
  PS X (.AugAssign (.Name x pos') .Add e pos) (cJ X.mg N (FF i me)):=iV (Qm h hi hx j M4 l) λQ σ H q=>by
 obtain⟨A,ι,τ,R,S,q,k⟩:=q;unfold FF at q;cases c:lk τ i with
 |none=>rw[c] at q;exact q.elim
 |some d=>
  rw[c] at q;cases d with
  |int a=>
   obtain⟨v,h1,h2⟩:=S.rs.at' i _ c;cases h2;refine⟨.int a,h1,A,ι,τ,_,S,q,λy o m H1 u f g r1 n=>?_⟩;cases y with
   |int b=>
    cases n;exact⟨a,b,rfl,rfl,(k.nx.from g).here ((S.next g r1).set (d:=.int (a+b)) (v:=.int (a+b)) rfl) f⟩
   |_=>exact f.elim
  |_=>exact q.elim
end
end DP
namespace L2
theorem boot_reversed:bootBuiltins "reversed"=some (.type "reversed"):=η
noncomputable def wX(K:Frag)(a:Addr)(n:Nat):It:=
 ⟨λi H=>∃xs,aY K H a xs/\xs.length=n/\i<n,λi H x H'=>H'=H/\∀xs,aY K H a xs->xs[n - 1 - i]?=some x,λi H=>n<=i⟩
theorem Um{P:Program}{w:World}{K:Frag}{tg:Expr}(a it:Addr)(n:Nat):Turn P w K tg (wX K a n) [it] it (λi h=>PySem.Heap.IsRevIter h it a ((n:Int) - 1 - i)/\i<=n) where
 mem:=θ
 obj:=λi h st b g=>by
  have e:b=it:=by simpa using g
  subst e
  obtain⟨⟨o,e,c,d⟩,_⟩:=st
  exact⟨o,e,λv z=>by rw[d] at z;cases z⟩
 keep:=λi h h' st k=>⟨st.1.at λo e=>k it θ o e,st.2⟩
 item:=by
  intro X q r t hc i pins s σ H E I l st m
  subst q r t
  obtain⟨xs,C,Q,hi⟩:=m
  obtain⟨its,D,p,hz⟩:=I.list C
  have hx:xs[n - 1 - i]? =some (xs[n - 1 - i]' ω):=aW ω
  obtain⟨u,F,G⟩:=D.get hx
  obtain⟨f0,f1,f2,y,f4,A⟩:=l it θ
  have B:(n:Int) - 1 - i=((n - 1 - i:Nat):Int):=ω
  have f:=st.1
  rw[B] at f
  refine PySem.wpAny_pyNext_rev_item f p.isList (x:=u) (by simpa using F) λh' j J=> ?_
  have L:Inv X pins σ H {s with heap:=h'}:=I.turned (t':=s.toks) (λb o g e=>(J.2 b g).trans e) f0 f1 y f4 A
  obtain⟨o,e,c,d⟩:=id j
  refine⟨u,rfl,qF (s:={s with heap:=h'}) e c d δ ⟨_,H,L,G,⟨rfl,λys hy=>by rw[I.yY hy C];exact hx⟩,⟨?_,ω⟩,λb g=>(l b g).1⟩⟩
  have M:(n:Int) - 1 - ((i+1:Nat):Int)=((n - 1 - i:Nat):Int) - 1:=ω
  rw[M]
  exact j
 done:=by
  intro X q r t hc i pins s σ H E I l st m
  subst q r t
  have m:n<=i:=m
  obtain⟨f0,f1,f2,y,f4,A⟩:=l it θ
  obtain⟨f,N⟩:=st
  have B:(n:Int) - 1 - i= -1:=ω
  rw[B] at f
  exact PySem.wpAny_pyNext_rev_end (I.ok.hd hc) f λh' O=>⟨rfl,I.turned (t':=s.toks) (λb o g e=>O b o g e) f0 f1 y f4 A⟩
 self:=λ_ _ _ _ _ st h=>PySem.wpAny_pyIter_revIter st.1 h
section
variable{X:Cx}
noncomputable def MR(K:Frag)(ta:TA):TI:=λσ H R=>ta σ H λvs H1=>∃a xs,vs=[.ref a]/\aY K H1 a xs/\R (wX K a xs.length) H1
theorem P6{tg l:Expr}{ta:TA}{p pos:Pos}(f:Gl X "reversed")(g:X.mg "reversed"=none)(i:PA X [l] ta)(j:starEach [l] X.env=[(false,eval l X.env)]:=by rfl):
  PI X tg (.Call (.Name "reversed" p) [l] [] pos) (MR X.K ta):=by
 intro pins s σ H R I h;refine Call_ (jN I f g boot_reversed (nc (aJ (i pos pins s σ H _ I h) λv c ⟨vs,H1,d,r1,k⟩=>?_) j rfl));obtain⟨a,xs,e,m,q⟩:=k;subst e;obtain⟨u,rfl,n⟩:=vals1 r1;cases n;obtain⟨its,r,pl,hz⟩:=d.list m;have hl:=r.length;refine PySem.call_reversed_list pl.isList ?_;have st:PySem.Heap.IsRevIter (c.heap.push (PySem.revObj a ((its.toArray.size:Int) - 1))) c.heap.objs.size a ((xs.length:Int) - 1 - (0:Nat)):=by
  refine⟨_,cu _ rfl,rfl,?_⟩;have e:((its.toArray.size:Int) - 1)=((xs.length:Int) - 1 - (0:Nat)):=by simp;omega
  rw[<-e];rfl
 refine PySem.wpAny_pyIter_revIter st ⟨c.heap.objs.size,[c.heap.objs.size],_,_,H1,rfl,d.kept (t':=c.toks) λb o e=>bA _ e,Um a _ _,⟨st,bV _⟩,λb t=>?_,q⟩;have e:b=c.heap.objs.size:=by simpa using t
 subst e;exact d.lC (aG _) (d.hok.fresh (aG _))
end
end L2
namespace DP
open L2
section
variable{mg:aB}{K:Frag}{A:Ar}{ι:Io}{H:Hp}
noncomputable def gW(ds:List D):List D:=ds.zipIdx.map λp=>D.tup [.int ((p.2:Nat):Int),p.1]
theorem Ky{ds:List D}{i:Nat}{d:D}(h:(gW ds)[i]?=some d):∃x,ds[i]?=some x/\d=.tup [.int ((i:Nat):Int),x]:=by
 unfold gW at h;rw[bO,Ao] at h;cases e:ds[i]? with
 |none=>rw[e] at h;cases h
 |some x=>
  rw[e] at h;simp at h;exact⟨x,rfl,h.symm⟩
theorem Nf{q:Nat}{ds:List D}(f:q<A.length):kh mg A ι H (wR K (ι q)) (gW ds) (λA'=>A'[q]?=some (.lst ds)) where
 go:=λi d c a H1 hd e r hc=>by
  obtain⟨xs,h1,h2⟩:=r.lst hc;rw[e.ag q f] at h1;obtain⟨x,hx,rfl⟩:=Ky hd;obtain⟨v,g,j⟩:=aj.get h2 hx;refine⟨⟨xs,v,aY.of h1,g⟩,λy H' z=>?_⟩;obtain⟨p,k,h,rfl,rfl,hy⟩:=z;have:=hy xs (aY.of h1);rw[g] at this;cases this;have E:Ext c a H1 c a (upd H1 p (.tup [.int (i:Nat),v])):=r.qD h;exact⟨E,r.fix E λb o z=>by rw[a_ (c_ z h)];exact z,p,[.int (i:Nat),v],rfl,eE,_,_,rfl,rfl,_,_,rfl,RV.ext E _ _ j,rfl⟩
 stop:=λc a H1 e r hc=>by
  obtain⟨xs,h1,h2⟩:=r.lst hc;rw[e.ag q f] at h1;exact⟨xs,aY.of h1,by rw[<-aj.length h2];simp[gW]⟩
theorem Nj{q:Nat}{ds:List D}{n:Nat}(b:n=ds.length)(c:q<A.length):kh mg A ι H (wX K (ι q) n) ds.reverse (λA'=>A'[q]?=some (.lst ds)) where
 go:=λi d f a H1 hd e r hc=>by
  obtain⟨xs,h1,h2⟩:=r.lst hc;rw[e.ag q c] at h1;have hl:=aj.length h2;have hi:=(bW.mp hd).1;rw[List.length_reverse] at hi;rw[List.getElem?_reverse hi] at hd;obtain⟨v,g,h⟩:=aj.get h2 hd;refine⟨⟨xs,aY.of h1,ω,ω⟩,λx H' y=>?_⟩;obtain⟨rfl,y⟩:=y;have:=y xs (aY.of h1);rw[b,g] at this;cases this;exact⟨r.refl,r,h⟩
 stop:=λf a H1 e r hc=>by
  show n<=ds.reverse.length;rw[List.length_reverse];omega
end
@[irreducible] def lJ(f:List D->List D)(r:Nat)(A:Ar)(R:List D->(Ar->Prop)->Ar->Prop):Prop:=match A[r]? with
 |some (.lst ds)=>R (f ds) (λA'=>A'[r]?=some (.lst ds)) A
 |_=>False
theorem yP{f:List D->List D}{r:Nat}{A:Ar}{ds:List D}{R:List D->(Ar->Prop)->Ar->Prop}(h:A[r]?=some (.lst ds))(k:R (f ds) (λA'=>A'[r]?=some (.lst ds)) A):lJ f r A R:=by
 unfold lJ;rw[h];exact k
noncomputable def MO(n:cX):iM:=λτ A R=>n τ A λvs A1=>match vs with
 |[.ref r]=>lJ gW r A1 R
 |_=>False
noncomputable def MT(n:cX):iM:=λτ A R=>n τ A λvs A1=>match vs with
 |[.ref r]=>lJ List.reverse r A1 R
 |_=>False
section
variable{X:Cx}{N:En}{tg l:Expr}{n:cX}{p pos:Pos}
theorem Cy{elts:List Expr}{k:Nat}{tpos:Pos}(f:X.mg "enumerate"=none)(g:PA X [l] (fu X.mg N n))(h:Gl X "enumerate":=by rfl)(i:starEach [l] X.env=[(false,eval l X.env)]:=by rfl):PI X (.Tuple elts k tpos) (.Call (.Name "enumerate" p) [l] [] pos) (i_ X.mg N (MO n)):=n_ (P1 h f g boot_enumerate i) λσ H Q q=>by
 obtain⟨A,ι,τ,R,S,q,k⟩:=q;refine⟨A,ι,τ,_,S,q,λvs d b H1 o a j r1 c=>?_⟩;match vs,a,c with
 |[.ref r],a,c=>
  obtain⟨_,_,rfl,⟨m,rfl⟩,rfl⟩:=c;have a:lJ gW r d R:=a;unfold lJ at a;split at a
  .rename_i ds e
   obtain⟨xs,h1,h2⟩:=r1.lst e;exact⟨_,xs,rfl,aY.of h1,k _ _ d b H1 _ a j r1 (Nf m)⟩
  .exact a.elim
theorem Ka(f:X.mg "reversed"=none)(g:PA X [l] (fu X.mg N n))(h:Gl X "reversed":=by rfl)(i:starEach [l] X.env=[(false,eval l X.env)]:=by rfl):PI X tg (.Call (.Name "reversed" p) [l] [] pos) (i_ X.mg N (MT n)):=n_ (P6 h f g i) λσ H Q q=>by
 obtain⟨A,ι,τ,R,S,q,k⟩:=q;refine⟨A,ι,τ,_,S,q,λvs d b H1 o a j r1 c=>?_⟩;match vs,a,c with
 |[.ref r],a,c=>
  obtain⟨_,_,rfl,⟨m,rfl⟩,rfl⟩:=c;have a:lJ List.reverse r d R:=a;unfold lJ at a;split at a
  .rename_i ds e
   obtain⟨xs,h1,h2⟩:=r1.lst e;exact⟨_,xs,rfl,aY.of h1,k _ _ d b H1 _ a j r1 (Nj (aj.length h2).symm m)⟩
  .exact a.elim
end
end DP
namespace L2
section
variable{X:Cx}
noncomputable def Fo:V->List V->Hp->VK->Prop:=λx vs H Q=>∃d o kvs more,x=.ref d/\vs=[.ref o]/\d≠o/\H d=some (.dK kvs)/\H o=some (.dK more)/\kvs.length+more.length<=1000/\Q .aE (upd H d (.dK (jP kvs more)))
theorem Ej:sV X "dict.update" Fo:=by
 intro pins s σ H x vs v y Q I i j h;obtain⟨d,o,kvs,a,rfl,rfl,b,hd,k,hz,q⟩:=h;cases i;obtain⟨u,rfl,l⟩:=j.one;cases l;obtain⟨z,m,c,k1,dd⟩:=t8 I.hok hd;obtain⟨A,n,e,k2,f⟩:=t8 I.hok k;have g:(1000:Nat)<=sizeLine:=δ
 have l1:=k1.length;have l2:=k2.length;have lm:=yV a kvs;refine call_meetsIn slot_dict_update (dd.typeIs) PySem.F.entry_dict_update (PySem.F.args_dict_update_2 _ _) (PySem.meets_dict_update (c5 X.prog X.w) d o b n) ?_;refine⟨c,e,dd,f,ω,λh' h1 h2 p=>?_⟩;have r:∃q,h'.get? d=some q:=let ⟨q,_,_,t,_⟩:=h1;⟨q,t⟩;exact⟨.aE,_,tV I (by rw[hd];exact True.intro) p r (yq ω m (k2.merge k1) h1),rfl,q⟩
theorem CmpOf.S7{prog:Program}{w:World}{A:Around}{P:Nat->Value->Prop}(val:Nat->Str)(a:∀i v,P i v->∃t,v=.str (val i) t):
  CmpOf prog w A .Lt P (λi j=>decide ((val i).cps.toList<(val j).cps.toList)):=λi j b c s Q E hi d h=>by
 obtain⟨t,rfl⟩:=a i b hi;obtain⟨u,rfl⟩:=a j c d;exact PySem.P.lt_str h
theorem Bv(val:Nat->Str):∀k,argBest (λi j=>decide ((val i).cps.toList<(val j).cps.toList)) k<=k/\∀j,j<=k->¬(val j).cps.toList<(val (argBest (λi j=>decide ((val i).cps.toList<(val j).cps.toList)) k)).cps.toList
 |0=>⟨aG _,λj c=>by
  have:j=0:=ω
  subst this;exact j7 _⟩
 |k+1=>by
  obtain⟨h1,h2⟩:=Bv val k;have e:argBest (λi j=>decide ((val i).cps.toList<(val j).cps.toList)) (k+1)=if decide ((val (k+1)).cps.toList<(val (argBest (λi j=>decide ((val i).cps.toList<(val j).cps.toList)) k)).cps.toList)=true then k+1 else argBest (λi j=>decide ((val i).cps.toList<(val j).cps.toList)) k:=rfl
  rw[e];split
  .rename_i h
   rw[kZ] at h;refine⟨aG _,λj c a=>?_⟩;by_cases b:j=k+1
   .subst b
    exact j7 _ a
   .exact h2 j ω (sH a h)
  .rename_i h
   rw[kZ] at h;refine⟨ω,λj c=>?_⟩;by_cases b:j=k+1
   .subst b
    exact h
   .exact h2 j ω
theorem BK(hc:X.calm=true):e_ X (.builtin "min") (λxs H Q=>∃(d:Addr) (kvs:List (Key×V)) (ns:List Str),xs=[.ref d]/\Rd H d (.dK kvs)/\kvs.map (·.1)=ns.map Sum.inr/\ns≠[]/\∀m∈ns,(∀n∈ns,¬n.cps.toList<m.cps.toList)->Q (.str m) H):=by
 intro pins s σ H xs S Q I r h;obtain⟨d,kvs,ns,rfl,hd,C,p,q⟩:=h;obtain⟨u,rfl,E⟩:=vals1 r;cases E;have D:=rX.mpr p;obtain⟨hz,F,vs,rel,dd⟩:=mL I.hok hd;obtain⟨ep,a⟩:=dd.dictAt;have f:kvs.length=ns.length:=by
  have:=cB List.length C;simpa using this
 have G:vs.length=ns.length:=by rw[<-rel.length,f]
 have g:d<s.heap.objs.size:=by obtain⟨o,_,y,_⟩:=a;exact aV y
 have keys:∀i v,(∃k x,vs[i]?=some (k,x)/\(c5 X.prog X.w).is k v=true)->∃t:Tok,v=.str (ns.getD i default) t:=λi v ⟨k,x,h1,h2⟩=>by
  have J:=rel.keys;have c:(vs.map (·.1))[i]?=some k:=by rw[bO,h1];rfl
  rw[<-J,C,bO] at c;cases e:ns[i]? with
  |none=>rw[e] at c;cases c
  |some n=>
   rw[e] at c;have c:k=Sum.inr n:=(Option.some.inj c).symm;subst c;rcases iZ (show kH (Sum.inr n) v=true from h2) with⟨_,_,z,_⟩|⟨T,t,z,K⟩
   .cases z
   .cases z
    refine⟨t,?_⟩;rw[gh,e];exact K
 refine call_min_walk ?_;refine wpAny_pyIter_dict (knd:=c5 X.prog X.w) F a ⟨s.heap.objs.size,_,_,_,_,_,_,rfl,Walks.dictKeys (knd:=c5 X.prog X.w) (A:=X.A.in1) (I.ok.hd hc) s.heap.objs.size d (bI g) vs ep,⟨⟨_,cu _ rfl,rfl,rfl⟩,?_⟩,λb hb=>?_,ω,CmpOf.S7 (λi=>ns.getD i default) keys,λv h' tk L B=>?_⟩
 .obtain⟨o,es,y,r⟩:=a
  exact⟨o,es,bA _ y,r⟩
 .show b<(s.heap.push _).objs.size
  rw[size_push'];rcases bz.mp hb with e|hb
  .rw[e];exact kO _
  .rw[bH.mp hb];exact gb g
 .obtain⟨t,rfl⟩:=keys _ v L
  obtain⟨U,M⟩:=Bv (λi=>ns.getD i default) (vs.length - 1);have hi:argBest (λi j=>decide ((ns.getD i default).cps.toList<(ns.getD j default).cps.toList)) (vs.length - 1)<ns.length:=ω
  have l:ns.getD (argBest (λi j=>decide ((ns.getD i default).cps.toList<(ns.getD j default).cps.toList)) (vs.length - 1)) default∈ns:=by
   rw[gh,aW hi];exact mC hi
  have N:=q _ l λn O=>by
   obtain⟨j,P,e⟩:=j_ O;have:=M j ω;rw[gh,aW P] at this;rw[<-e];exact this
  exact⟨.str _,H,I.kept λb o e=>B b o (λz=>by
   have R:b=s.heap.objs.size:=by simpa using z
   exact absurd (aV e) (by rw[R];exact fy _)) (bA _ e),⟨_,rfl⟩,N⟩
end
end L2
namespace DP
open L2
noncomputable def JE(mk mv:aM):aM:=λτ A R=>mk τ A λk A1=>mv τ A1 λv A2=>match fO k with
 |some ky=>R (.ref A2.length) (A2++[.dct [(ky,v)]])
 |none=>False
theorem JY{X:Cx}{N:En}{pos:Pos}{k v:Expr}{mk F:aM}(O:PE X k (up X.mg N mk))(P:PE X v (up X.mg N F)):PE X (.Dict [some k] [v] pos) (up X.mg N (JE mk F)):=
 dJ (Pz (Qk O P Ql) rfl rfl θ (show 1<=15 by decide)) λσ H Q q=>by
  obtain⟨A,ι,τ,R,S,q,T⟩:=q;intro p n;have G:=S.ra.qD (o:=.dK []) n;have I:dB X.mg N A ι τ σ (upd H p (.dK [])):=S.next G (S.ra.fix G λb o z=>by rw[a_ (c_ z n)];exact z);have off:∀r,r<A.length->ι r≠p:=λr g z=>by
   obtain⟨o,h1,_⟩:=S.ra.im r g;rw[z,n] at h1;cases h1
  refine⟨A,ι,τ,_,I,q,λJ U B H1 x V K r1 W=>?_⟩;refine⟨U,B,τ,_,I.next K r1,V,λw a i H2 y t Y L v2=>?_⟩;have d:=K.trans Y;have hy:H2 p=some (.dK []):=d.mo p _ eE off;have f:∀r,r<a.length->i r≠p:=λr g z=>by
   by_cases hl:r<A.length
   .rw[d.ag r hl] at z;exact off r hl z
   .have:=d.nw r ω g
    rw[z,eE] at this;cases this
  have t:(match fO J with|some l=>R (.ref a.length) (a++[.dct [(l,w)]])|none=>False):=t;cases D:fO J with
  |none=>rw[D] at t;exact t.elim
  |some l=>
  rw[D] at t;have ex:x=kV l:=mT D W;subst ex;refine⟨hy,[(l,y)],rfl,show 1<=15 by decide,?_⟩;have em:jP [] [(l,y)]=[(l,y)]:=rfl;rw[em];obtain⟨j,e,at2⟩:∃j:Io,(∀r,r<a.length->j r=i r)/\j a.length=p:=⟨λr=>if r=a.length then p else i r,λr h=>by
   show(if r=a.length then p else i r)=i r;rw[ak ω],by
   show(if a.length=a.length then p else i a.length)=p;rw[ao rfl]⟩
  have M:∀b o,i6 o=false->H2 b=some o->upd H2 p (.dK [(l,y)]) b=some o:=λb o m z=>by
   rw[a_]
   .exact z
   .rintro rfl
    rw[hy] at z;cases z;cases m
  refine T (.ref a.length) (a++[.dct [(l,w)]]) j _ _ t ⟨?_,λr h=>?_,S.ra.im,λb o h Z=>?_,λr h1 h2=>?_,λb o h=>?_⟩ ⟨λr c h=>?_,λr s g hs h=>?_⟩ ⟨θ,by rw[at2]⟩
  .have:=d.len;simp;omega
  .rw[e r (cK h d.len)];exact d.ag r h
  .have u:b≠p:=c_ h n
   rw[a_ u];exact d.mo b o (by rw[a_ u];exact h) Z
  .by_cases g:r<a.length
   .rw[e r g]
    have:=d.nw r h1 g;rw[a_ (f r g)] at this;exact this
   .have:r=a.length:=by simp at h2;omega
    subst this;rw[at2];exact n
  .have u:b≠p:=c_ h n
   obtain⟨o',h'⟩:=d.al b o (by rw[a_ u];exact h);exact⟨o',by rw[a_ u];exact h'⟩
  .by_cases g:r<a.length
   .rw[gB g] at h
    have:=CO.ag (n':=(a++[C.dct [(l,w)]]).length) (ι':=j) (H':=upd H2 p (.dK [(l,y)])) θ e M (λo z=>by rw[a_ (f r g)];exact z) c (L.gS r c h);rw[e r g];exact this
   .have E:r=a.length:=by
     have:=(bW.mp h).1;simp at this;omega
    subst E;simp at h;subst h;rw[at2];exact⟨_,eE,y,[],rfl,RV.ag θ e M w y v2,rfl⟩
  .simp at g hs
   by_cases h1:r=a.length
   .by_cases h2:s=a.length
    .rw[h1,h2]
    .subst h1
     rw[at2,e s ω] at h;exact absurd h.symm (f s ω)
   .by_cases h2:s=a.length
    .subst h2
     rw[at2,e r ω] at h;exact absurd h (f r ω)
    .rw[e r ω,e s ω] at h
     exact L.inj r s ω ω h
noncomputable def uv(A:Ar):D->Bool
 |.ref r=>match A[r]? with
  |some (.dct _)=>true
  |_=>false
 |_=>false
noncomputable def B6(f:kc)(mo:aM)(m:cX):aM:=λτ A R=>mo τ A λx A1=>uv A1 x=true/\m τ A1 λvs A2=>f x vs A2 R
theorem DH{A:Ar}{r:Nat}{kvs:List (Key×D)}(h:A[r]?=some (.dct kvs)):uv A (.ref r)=true:=by unfold uv;simp only[h]
section
variable{X:Cx}{N:En}{e o:Expr}{es:List Expr}{mo:aM}{m:cX}{apos cpos:Pos}{f:kc}{r:V->List V->Hp->VK->Prop}{name:Str}{id:String}
theorem Cm(v:PlainAttrs "dict")(slot:Slot "dict" name id)(h:typeOf (.builtin id)=pure (.type "method_descriptor"))(w:wY X id r)(hd:nO X.mg X.K "dict" r f)(y:PE X o (up X.mg N mo))(z:PA X (e::es) (fu X.mg N m))
  (b:attributeBase o name X.env (eval o X.env)=eval o X.env:=by rfl)
  (d:((backTo cpos (starEach (e::es) X.env)).all (λx=> !x.1)&&(backToKw cpos (keywordEach [] X.env)).all (λx=>x.1.isSome)
   &&decide ((e::es).length+([]:List Keyword).length+(if ([]:List Keyword).isEmpty then 0 else 1)<30))=true:=by rfl)
  (c:(apos.endLine==cpos.line)=true:=by rfl)(B:starEach (e::es) X.env=(false,eval e X.env)::starEach es X.env:=by rfl)(a:(backTo cpos (starEach es X.env)).any (·.1)=false:=by rfl):
  PE X (.Call (.Attribute o name apos) (e::es) [] cpos) (up X.mg N (B6 f mo m)):=dJ (EK v slot h w y z b d c B a) λσ H Q q=>by
 obtain⟨A,ι,τ,R,S,q,k⟩:=q
 refine⟨A,ι,τ,_,S,q,λx C i H1 u j p r1 s=> ?_⟩
 obtain⟨g,j⟩:=j
 refine⟨?_,C,i,τ,_,S.next p r1,j,λys D l H2 n E t F v2=> ?_⟩
 .cases x with
  |ref q=>
   obtain⟨_,rfl⟩:=s
   unfold uv at g
   simp only at g
   split at g
   .rename_i kvs G
    obtain⟨n,h1,_⟩:=r1.dct G
    exact .inr (.inr (.inl ⟨rfl,.inl ⟨n,h1⟩⟩))
   .cases g
  |_=>cases g
 .exact hd x ys D l H2 _ n R Q F (RV.ext t x u s) v2 E (k.from (p.trans t))
end
noncomputable def jQ(kvs more:List (Key×D)):List (Key×D):=more.foldl (λacc p=>cj acc p.1 p.2) kvs
@[irreducible] def vZ(r q:Nat)(A:Ar)(R:DK):Prop:=match A[r]?,A[q]? with
 |some (.dct kvs),some (.dct more)=>r≠q/\kvs.length+more.length<=1000/\R .aE (A.set r (.dct (jQ kvs more)))
 |_,_=>False
theorem HJ{A:Ar}{r q:Nat}{kvs a:List (Key×D)}{R:DK}(h1:A[r]?=some (.dct kvs))(h2:A[q]?=some (.dct a))(b:r≠q)(hz:kvs.length+a.length<=1000)(k:R .aE (A.set r (.dct (jQ kvs a)))):vZ r q A R:=by
 unfold vZ;simp only[h1,h2];exact⟨b,hz,k⟩
noncomputable def Aa:kc:=λx vs A R=>match x,vs with
 |.ref r,[.ref q]=>vZ r q A R
 |_,_=>False
theorem Ci{mg:aB}{K:Frag}:nO mg K "dict" Fo Aa:=by
 intro x ds A ι H u p R Q ra i rs h k;unfold Aa at h;split at h
 .rename_i r q
  obtain⟨e,rfl⟩:=i;obtain⟨_,_,rfl,⟨j,rfl⟩,rfl⟩:=rs;unfold vZ at h;split at h
  .rename_i kvs a f l
   obtain⟨b,hz,h⟩:=h;obtain⟨xs,h1,r1⟩:=ra.dct f;obtain⟨ys,h2,g⟩:=ra.dct l;have l1:=RK.length r1;have l2:=RK.length g;refine⟨_,_,xs,ys,rfl,rfl,λz=>b (ra.inj r q e j z),h1,h2,ω,?_⟩;have E:=ra.oj (o:=.dK (jP xs ys)) (c:=.dct (jQ kvs a)) e;have m:RK mg ι A.length H (jQ kvs a) (jP xs ys):=RK.fold g r1;obtain⟨d,n⟩:=ra.put (c':=.dct (jQ kvs a)) (o:=.dK (jP xs ys)) f h1 rfl ⟨_,eE,by simpa using RK.ext E _ _ m⟩;exact k _ _ ι _ _ h n d rfl
  .exact h.elim
 .exact h.elim
@[irreducible] def uD(r:Nat)(A:Ar)(R:DK):Prop:=∃(kvs:List (Key×D)) (ns:List Str),(A[r]?=some (.dct kvs)\/∃o,A[r]?=some (.bB o kvs))/\kvs.map (·.1)=ns.map Sum.inr/\ns≠[]/\∀m∈ns,(∀n∈ns,¬n.cps.toList<m.cps.toList)->R (.str m) A
noncomputable def Ef:iL:=λvs A R=>match vs with
 |[.ref r]=>uD r A R
 |_=>False
theorem Eg{A:Ar}{r:Nat}{kvs:List (Key×D)}{ns:List Str}{R:DK}(h:A[r]?=some (.dct kvs)\/∃o,A[r]?=some (.bB o kvs))(b:kvs.map (·.1)=ns.map Sum.inr)(a:ns≠[])(k:∀m∈ns,(∀n∈ns,¬n.cps.toList<m.cps.toList)->R (.str m) A):uD r A R:=by
 unfold uD;exact⟨kvs,ns,h,b,a,k⟩
theorem Cb{mg:aB}:jg mg (λxs H Q=>∃(d:Addr) (kvs:List (Key×V)) (ns:List Str),xs=[.ref d]/\Rd H d (.dK kvs)/\kvs.map (·.1)=ns.map Sum.inr/\ns≠[]/\∀m∈ns,(∀n∈ns,¬n.cps.toList<m.cps.toList)->Q (.str m) H) Ef:=by
 intro ds A ι H g R Q ra rs h k;unfold Ef at h;split at h
 .obtain⟨_,_,rfl,⟨_,rfl⟩,rfl⟩:=rs
  unfold uD at h;obtain⟨kvs,ns,h1,h2,e,f⟩:=h;rcases h1 with h1|⟨o,h1⟩
  .obtain⟨xs,b,r1⟩:=ra.dct h1
   exact⟨_,xs,ns,rfl,.inl b,by rw[RK.oq r1];exact h2,e,λm c a=>k.here ra (f m c a) rfl⟩
  .obtain⟨xs,b,r1⟩:=ra.bB h1
   exact⟨_,xs,ns,rfl,.inr ⟨o,b⟩,by rw[RK.oq r1];exact h2,e,λm c a=>k.here ra (f m c a) rfl⟩
 .exact h.elim
@[irreducible] def uq(neg:Bool)(x:D)(r:Nat)(A:Ar)(R:DK):Prop:=∃(kvs:List (Key×D)) (k:Key),(A[r]?=some (.dct kvs)\/∃o,A[r]?=some (.bB o kvs))/\fO x=some k/\R (.bl (if neg then !(bw kvs k).isSome else (bw kvs k).isSome)) A
noncomputable def yM(neg:Bool):d_:=λx y A R=>match y with
 |.ref r=>uq neg x r A R
 |_=>False
theorem MY{neg:Bool}{x:D}{r:Nat}{A:Ar}{R:DK}{kvs:List (Key×D)}{k:Key}(h:A[r]?=some (.dct kvs)\/∃o,A[r]?=some (.bB o kvs))(a:fO x=some k)(q:R (.bl (if neg then !(bw kvs k).isSome else (bw kvs k).isSome)) A):uq neg x r A R:=by
 unfold uq;exact⟨kvs,k,h,a,q⟩
theorem JP{mg:aB}(neg:Bool):dU mg (rG neg) (yM neg):=by
 intro x y A ι H u v R Q ra f g h k;unfold yM at h;split at h
 .rename_i e
  obtain⟨_,rfl⟩:=g;unfold uq at h;obtain⟨kvs,b,h1,i,h2⟩:=h;have ex:=mT i f;subst ex;have fin:∀a,RK mg ι A.length H kvs a->Rd H (ι e) (.dK a)->rG neg (kV b) (.ref (ι e)) H Q:=λa r1 j=>by
   obtain⟨l,m⟩:=RK.get (k:=b) r1;refine⟨_,eO a b,rfl,.inl ⟨a,b,j,rfl,rfl⟩,?_⟩;have n:(eO a b).isSome=(bw kvs b).isSome:=by
    cases q:bw kvs b with
    |none=>rw[m q];rfl
    |some d=>obtain⟨z,hz,_⟩:=l d q;rw[hz];rfl
   rw[n];exact k.here ra h2 rfl
  rcases h1 with h1|⟨o,h1⟩
  .obtain⟨a,c,r1⟩:=ra.dct h1
   exact fin a r1 (.inl c)
  .obtain⟨a,c,r1⟩:=ra.bB h1
   exact fin a r1 (.inr ⟨o,c⟩)
 .exact h.elim
section
variable{X:Cx}{N:En}{pos:Pos}{a b:Expr}{ma mb:aM}
theorem T5(c:X.A.units+64<cLine)(d:PE X a (up X.mg N ma))(e:PE X b (up X.mg N mb))(f:behindInMarks .In b=false:=by rfl):PT X (.Compare a [.In] [b] pos) (cR X.mg N (dh (bL (yM false) ma mb))):=kB (zm c) (JP false) d e f
end
noncomputable def x_(m:aM):aM:=λτ A R=>(∃r kvs,A[r]?=some (.dct kvs)/\∀o,m τ (A.set r (.bB o kvs)) λx A2=>HB r o A2 (R x))\/m τ A R
noncomputable def Ra(m:cC):cC:=λR τ A=>(∃r kvs,A[r]?=some (.dct kvs)/\∀o,m {nx:=λb7 A2=>HB r o A2 (R.nx b7),rt:=λ_ _=>False} τ (A.set r (.bB o kvs)))\/m R τ A
section
variable{X:Cx}{N:En}{e:Expr}{m:aM}
theorem tY(g:PE X e (up X.mg N m)):PE X e (up X.mg N (x_ m)):=by
 intro pins s σ H Q I q;obtain⟨A,ι,τ,R,S,q,k⟩:=q;rcases q with⟨r,kvs,a,q⟩|q
 .obtain⟨xs,h1,h2⟩:=S.ra.dct a
  have hl:=(bW.mp a).1;obtain⟨n,o,p⟩:=I.fz h1;obtain⟨t,w⟩:=De (o:=o) S a h1 h2;refine aJ (g pins s σ _ (λu H'=>∃xs,H' (ι r)=some (.bM o (.dK xs))/\Q u (upd H' (ι r) (.dK xs))) p ⟨_,ι,τ,_,t,q o,λv A' ι' H' u b h x v2=>?_⟩) λv s' ⟨u,H',y,z,B,h',C⟩=>⟨u,_,y.HD h' n,z,C⟩;obtain⟨i,c,b⟩:=b;have er:ι' r=ι r:=h.ag r (by simpa using hl);obtain⟨d,j,l,f⟩:=Dd x c;rw[er] at j l f;exact⟨d,j,k v _ ι' _ u b ((w.trans h).trans f) l (RV.ext f v u v2)⟩
 .exact g pins s σ H Q I ⟨A,ι,τ,R,S,q,k⟩
theorem Kl{st:Stmt}{ms:cC}(f:PS X st (cJ X.mg N ms)):PS X st (cJ X.mg N (Ra ms)):=by
 intro pins s σ H Q I q;obtain⟨A,ι,τ,R,S,q,k⟩:=q;rcases q with⟨r,kvs,a,q⟩|q
 .obtain⟨xs,h1,h2⟩:=S.ra.dct a
  have hl:=(bW.mp a).1;obtain⟨m,o,n⟩:=I.fz h1;obtain⟨p,t⟩:=De (o:=o) S a h1 h2;refine aJ (f pins s σ _ {nx:=λσ' H'=>∃xs,H' (ι r)=some (.bM o (.dK xs))/\Q.nx σ' (upd H' (ι r) (.dK xs)),rt:=λ_ _=>False,bk:=λ_ _=>False,ct:=λ_ _=>False} n ⟨_,ι,τ,_,p,q o,⟨λb7 A' ι' σ' H' b g v w=>?_,λ_ _ _ _ _ z=>z.elim,λ_ _ _ _ _ z=>z.elim,λ_ _ _ _ _ z=>z.elim⟩⟩) λfl s' h=>?_
  .obtain⟨i,c,b⟩:=b
   have er:ι' r=ι r:=g.ag r (by simpa using hl);obtain⟨d,j,l,e⟩:=Dd v c;rw[er] at j l e;exact⟨d,j,k.nx b7 _ ι' σ' _ b ((t.trans g).trans e) l (w.ext e)⟩
  .cases fl with
   |next=>
    obtain⟨σ',H',x,y,h',B⟩:=h;exact⟨σ',_,x.HD h' m,B⟩
   |brk=>obtain⟨_,_,_,z⟩:=h;exact z.elim
   |cont=>obtain⟨_,_,_,z⟩:=h;exact z.elim
   |ret u=>obtain⟨_,_,_,_,_,z⟩:=h;exact z.elim
 .exact f pins s σ H Q I ⟨A,ι,τ,R,S,q,k⟩
end
end DP
namespace L2
section
variable{X:Cx}
noncomputable def E_:V->List V->Hp->VK->Prop:=λx vs H Q=>∃l b xs zs,x=.ref l/\vs=[.ref b]/\H l=some (.lst xs)/\H b=some (.tup zs)/\xs.length+zs.length<=sizeLine/\Q .aE (upd H l (.lst (xs++zs)))
theorem Ot:sV X "list.extend" E_:=by
 intro pins s σ H x vs v p Q I g i h;obtain⟨l,b,xs,zs,rfl,rfl,d,j,hz,q⟩:=h;cases g;obtain⟨u,rfl,k⟩:=i.one;cases k;obtain⟨z,its,n,r,hl,e⟩:=I.oK d;obtain⟨a,n2,f,m,_⟩:=I.HC j;have o:=f.length;have hsz:its.toArray.size+a.toArray.size<=sizeLine:=by rw[cA,cA];omega
 have c:¬(!its.toArray.isEmpty&&Builtin.List.listTooLong (its.toArray.size+a.toArray.size))=true:=by
  rw[Ex hsz,Bool.and_false];exact b6
 refine call_meets wg ⟨_,e,rfl⟩ PySem.F.entry_list_extend (PySem.F.args_list_extend_2 _ _)
  (AutoSeq1.list_extend_list_tuple_0 l its.toArray n b a.toArray n2 c (by rw[cA];omega) ω) ⟨e,m,?_⟩
 refine⟨.aE,_,I.za (its':=its++a) d e θ (r.append f) ?_,rfl,q⟩;rw[dc];omega
end
end L2
namespace DP
open L2
@[irreducible] def ue(r:Nat)(ys:List D)(A:Ar)(R:DK):Prop:=match A[r]? with
 |some (.lst xs)=>xs.length+ys.length<=sizeLine/\R .aE (A.set r (.lst (xs++ys)))
 |_=>False
noncomputable def CZ:kc:=λx vs A R=>match x,vs with
 |.ref r,[.tup ys]=>ue r ys A R
 |_,_=>False
theorem JL{mg:aB}{K:Frag}:nO mg K "list" E_ CZ:=by
 intro x ds A ι H u f R Q ra c rs h k;unfold CZ at h;split at h
 .obtain⟨_,rfl⟩:=c
  obtain⟨v,_,rfl,⟨a,zs,rfl,d,b⟩,rfl⟩:=rs;unfold ue at h;split at h
  .rename_i xs e
   obtain⟨ws,h1,r1⟩:=ra.lst e;exact⟨_,_,ws,zs,rfl,rfl,h1,d,by rw[<-aj.length r1,<-aj.length b];exact h.1,zB k ra e h1 (r1.app b) h.2 λ_=>rfl⟩
  .exact h.elim
 .exact h.elim
theorem KS{A:Ar}{r:Nat}{xs ys:List D}{R:DK}(h:A[r]?=some (.lst xs))(hz:xs.length+ys.length<=sizeLine)(k:R .aE (A.set r (.lst (xs++ys)))):ue r ys A R:=by
 unfold ue;simp only[h];exact⟨hz,k⟩
end DP
end
namespace L2
theorem bF{N P:List PySem.Str}{sc:PySem.Scope}(kind:sc.kind=.function:=by rfl)(co:sc.isCoroutine=false:=by rfl)(gen:sc.isGenerator=false:=by rfl)(nd:N.Nodup:=by decide+kernel)(pre:N.take P.length=P:=by rfl)
 (par:∀x∈P,sc.names.lookup x=some .local\/sc.names.lookup x=some .cell:=by decide+kernel)(zj:∀y∈sc.names,y.2≠ .free:=by decide+kernel):bh N P sc:=⟨kind,co,gen,nd,pre,par,zj⟩
end L2
section
open PySem PySem.Spec PyProof.Rows
namespace DP
open L2
section
variable{X:Cx}{N:En}{pos pos':Pos}{e a b:Expr}{m ma mb:aM}{x:Str}(i:Nat)
theorem dS(a:X.N.Nodup)(b:PE X e (up X.mg N m))(hi:X.N[i]?=some x:=by rfl)(hx:Loc X.env.scope x:=by first|exact .inl rfl|exact .inr rfl)(c:swapsWith e (some (.Name x pos')) pos.line X.env=pure false:=by rfl)(d:X.fn x=true\/X.env.scope.names.lookup x=some .local:=by first|exact .inl rfl|exact .inr rfl|assumption):
 PS X (.Assign [.Name x pos'] e pos) (cJ X.mg N (gI i m)):=Kn a hi hx b c d
theorem dG(a:X.N.Nodup)(hi:X.N[i]?=some x:=by rfl)(hx:Loc X.env.scope x:=by first|exact .inl rfl|exact .inr rfl)(b:X.fn x=true\/X.env.scope.names.lookup x=some .local:=by first|exact .inl rfl|exact .inr rfl|assumption):PG X (.Name x pos) (rW X.mg N (gN i)):=J' a hi hx b
theorem pG(a:X.N.Nodup)(hi:X.N[i]?=some x:=by rfl)(hx:Loc X.env.scope x:=by first|exact .inl rfl|exact .inr rfl)(b:X.fn x=true\/X.env.scope.names.lookup x=some .local:=by first|exact .inl rfl|exact .inr rfl|assumption):PG X (.Name x pos) (ou i):=ET a hi hx b
end
section
variable{X:Cx}{N:En}{pos p:Pos}{e a b:Expr}{ma mb:aM}{x:Str}{es:List Expr}{k r n:Nat}{ps:List Str}{S:Ct}{RE:DX}{m:cX}
theorem dX(c:X.A.units+64<cLine)(d:PE X a (up X.mg N ma))(e:PE X b (up X.mg N mb))(f:sY b:=by exact λ_ _=>rfl):PE X (.Subscript a b pos) (up X.mg N (bL lK ma mb)):=J1 c d e f
theorem dL(F:ay X.prog X.w X.K X.mg X.base k x ps (av X.mg n S))(c:dg r X.A)(hx:Passes (bJ X.prog X.w) X (EL X.mg N RE))(d:PA X (e::es) (fu X.mg N m))(f:k<=r:=by omega)(g:Gl X x:=by rfl)(a:(x==("__debug__":Str))=false:=by decide)
 (h:starEach (e::es) X.env=(false,eval e X.env)::starEach es X.env:=by rfl)(b:(backTo pos (starEach es X.env)).any (·.1)=false:=by rfl):
 PE X (.Call (.Name x p) (e::es) [] pos) (up X.mg N (gE n S RE m)):=JW F (c.mono f) hx d g a h b
end
theorem bT{P:Program}{w:World}{K:Frag}{mg:aB}{base:Heap}{x:Str}{st:Stmt}{Nm ps:List Str}{k n:Nat}{S:Ct}(T:TopD K mg x st ps)(Sc:bh Nm ps (aK st))
  (b:∀{N:En} {RE:DX} {f:Addr} {a:Value} {B:Around} {outer:List Env} {s:Shared} {H:Hp} {E:XK},dg k (cS (bJ P w) P w K mg base Nm x (aK st) f a B outer s H E).A->
   Raises (cS (bJ P w) P w K mg base Nm x (aK st) f a B outer s H E) (EL mg N RE)->Passes (bJ P w) (cS (bJ P w) P w K mg base Nm x (aK st) f a B outer s H E) (EL mg N RE)->
   (cS (bJ P w) P w K mg base Nm x (aK st) f a B outer s H E).A.units+64<cLine->Nm.Nodup->
   ∃m,c6 (cS (bJ P w) P w K mg base Nm x (aK st) f a B outer s H E) (gU st) (cJ mg N m)/\∀ds A R,S ds A R RE->ds.length=n->m {nx:=λ_ A'=>R .aE A',rt:=R} (kN (Nm.length - n) ds) A)(d:ps.length=n:=by rfl)(e:ps.length<=Nm.length:=by decide):ay P w K mg base (k+1) x ps (av mg n S):=
 iX T Sc d e λN RE f a B outer s H E c g hx ds A R h hl=>by
  obtain⟨m,h1,h2⟩:=b c g hx c.units Sc.nd;exact⟨m,h1,h2 ds A R h hl⟩
open MA
structure nM(x:Rat):Prop where
 pos:0<x
 num:(rf x).1<=1152921504606846976
 den:(rf x).2<=1152921504606846976
theorem I9{xs:List Rat}(h:∀x∈xs,nM x)(hl:xs.length<=32):bot xs 1<=1152921504606846976 ^ 32:=by
 have:=bot_le 1152921504606846976 δ xs 1 δ λx hx=>(h x hx).den;rw[one_mul] at this;exact dN this (zx (c:=1152921504606846976) δ hl)
theorem HH{xs:List Rat}(h:∀x∈xs,nM x)(hl:xs.length<=32){n:Int}(b:n∈ups xs):0<n/\n<=1152921504606846976 ^ 33:=by
 obtain⟨x,hx,rfl⟩:=aN.mp b;have f:=h x hx;refine⟨v7 hx f.pos,?_⟩;have c:=I9 h hl;obtain⟨a,_,_⟩:=mG xs 1 δ;have h1:bot xs 1/(rf x).2<=bot xs 1:=pU _ (d9 a);have h0:0<=bot xs 1/(rf x).2:=Int.ediv_nonneg (d9 a) (d9 (dj x));have d:=dQ f.pos;rw[show(33:Nat)=32+1 from rfl,j6,kR _ (1152921504606846976:Int)];exact d8 f.num (dN h1 c) h0 δ
theorem y_{n:Int}(h0:0<n)(h:n<=1152921504606846976 ^ 33):n.natAbs.log2<9000:=
 N5 (Nat.lt_of_le_of_lt (Ow (c:=1152921504606846976) h0 h) η)
theorem G1{n:Int}(h:n<=1152921504606846976):n<=1152921504606846976 ^ 33:=dN h η
end DP
variable{P:Program}{w:World}{K:Frag}{mg:aB}{base:Heap}
namespace My
open L2 DP
noncomputable def top(i:Nat):Stmt:=PySem.Challenge.pw_hangstill_k24_whole_spare_and_settled.main.body.getD i (.Pass ⟨0,0,0,0⟩)
abbrev Gh:Stmt:=top 11
abbrev ri:List Str:=["thing","first","last"]
theorem RX:bh ["thing","first","last"] ri (aK Gh):=bF
abbrev Gf:Stmt:=top 12
abbrev q_:List Str:=["thing"]
theorem RU:bh ["thing"] q_ (aK Gf):=bF
abbrev Ge:Stmt:=top 13
abbrev uZ:List Str:=["thing","rods"]
theorem RT:bh ["thing","rods"] uZ (aK Ge):=bF
abbrev Gd:Stmt:=top 14
abbrev q9:List Str:=["thing"]
theorem RQ:bh ["thing"] q9 (aK Gd):=bF
abbrev F3:Stmt:=top 15
abbrev qX:List Str:=["thing"]
theorem RG:bh ["thing"] qX (aK F3):=bF
abbrev Gg:Stmt:=top 16
abbrev u0:List Str:=["thing"]
theorem RW:bh ["thing"] u0 (aK Gg):=bF
abbrev Gk:Stmt:=top 17
abbrev u7:List Str:=["thing"]
theorem R0:bh ["thing","names"] u7 (aK Gk):=bF
abbrev F1:Stmt:=top 18
abbrev uT:List Str:=["thing"]
theorem RC:bh ["thing"] uT (aK F1):=bF
abbrev F5:Stmt:=top 19
abbrev uV:List Str:=["mobile","weights"]
theorem RI:bh ["mobile","weights","numbers","way","name"] uV (aK F5):=bF
abbrev Gp:Stmt:=top 20
abbrev rj:List Str:=["mobile","way"]
theorem R4:bh ["mobile","way"] rj (aK Gp):=bF
abbrev Gq:Stmt:=top 21
abbrev vc:List Str:=["mobile","numbers"]
theorem R5:bh ["mobile","numbers"] vc (aK Gq):=bF
abbrev Gx:Stmt:=top 22
abbrev ve:List Str:=["rod","numbers"]
theorem R_:bh ["rod","numbers"] ve (aK Gx):=bF
abbrev GG:Stmt:=top 23
abbrev vn:List Str:=["mobile","way","numbers"]
theorem GR:bh ["mobile","way","numbers","both","told"] vn (aK GG):=bF
abbrev GF:Stmt:=top 24
abbrev vm:List Str:=["mobile","weights"]
theorem Si:bh ["mobile","weights"] vm (aK GF):=bF
abbrev Gj:Stmt:=top 25
abbrev u6:List Str:=["mobile","weights"]
theorem RZ:bh ["mobile","weights"] u6 (aK Gj):=bF
abbrev F9:Stmt:=top 27
abbrev q7:List Str:=["one","other"]
theorem RN:bh ["one","other","rest"] q7 (aK F9):=bF
abbrev Gz:Stmt:=top 28
abbrev rz:List Str:=["top","bottom"]
theorem Se:bh ["top","bottom","divisor"] rz (aK Gz):=bF
abbrev Gw:Stmt:=top 29
abbrev rq:List Str:=["one","other"]
theorem R9:bh ["one","other"] rq (aK Gw):=bF
abbrev Gy:Stmt:=top 30
abbrev vf:List Str:=["one","other"]
theorem Sa:bh ["one","other"] vf (aK Gy):=bF
abbrev Gn:Stmt:=top 31
abbrev u_:List Str:=["fractions"]
theorem R3:bh ["fractions","bottom","fraction","numbers","divisor","number"] u_ (aK Gn):=bF
abbrev GB:Stmt:=top 33
abbrev vg:List Str:=["mobile","way","share"]
theorem GQ:bh ["mobile","way","share","both","left","right"] vg (aK GB):=bF
abbrev Gu:Stmt:=top 34
abbrev vd:List Str:=["mobile"]
theorem R7:bh ["mobile"] vd (aK Gu):=bF
abbrev Gm:Stmt:=top 35
abbrev u9:List Str:=["fractions"]
theorem R1:bh ["fractions","names"] u9 (aK Gm):=bF
abbrev GA:Stmt:=top 36
abbrev rA:List Str:=["mobile"]
theorem Sf:bh ["mobile"] rA (aK GA):=bF
abbrev FZ:Stmt:=top 37
abbrev qW:List Str:=["mobile"]
theorem Rz:bh ["mobile","first","way","name","share"] qW (aK FZ):=bF
abbrev F2:Stmt:=top 40
abbrev uU:List Str:=["thing"]
theorem RD:bh ["thing","mobile"] uU (aK F2):=bF
abbrev Gb:Stmt:=top 41
abbrev oX:List Str:=["hall"]
theorem RP:bh ["hall"] oX (aK Gb):=bF
abbrev GD:Stmt:=top 42
abbrev vj:List Str:=["by_place","name"]
theorem Sh:bh ["by_place","name","steps","place","table"] vj (aK GD):=bF
abbrev Gv:Stmt:=top 43
abbrev rm:List Str:=["by_place","start"]
theorem R8:bh ["by_place","start","paths","reached","at","step"] rm (aK Gv):=bF
abbrev Ga:Stmt:=top 44
abbrev oW:List Str:=["by_place"]
theorem GO:bh ["by_place","told","seen","table","name","paths"] oW (aK Ga):=bF
abbrev FY:Stmt:=top 45
abbrev uR:List Str:=["steps"]
theorem Ry:bh ["steps"] uR (aK FY):=bF
abbrev F7:Stmt:=top 46
abbrev qZ:List Str:=["by_place","steps"]
theorem RL:bh ["by_place","steps","ratio","place","one","other"] qZ (aK F7):=bF
abbrev F6:Stmt:=top 47
abbrev uW:List Str:=["by_place"]
theorem RJ:bh ["by_place","steps","place","table","first"] uW (aK F6):=bF
abbrev F8:Stmt:=top 48
abbrev uX:List Str:=["by_place"]
theorem RM:bh ["by_place","paths","group","step","steps"] uX (aK F8):=bF
abbrev F4:Stmt:=top 49
abbrev qY:List Str:=["by_place"]
theorem RH:bh ["by_place"] qY (aK F4):=bF
abbrev F_:Stmt:=top 50
abbrev uY:List Str:=["by_place","paths"]
theorem RO:bh ["by_place","paths"] uY (aK F_):=bF
abbrev GH:Stmt:=top 51
abbrev vo:List Str:=["hall"]
theorem Sj:bh ["hall","by_place","told","paths"] vo (aK GH):=bF
abbrev Gi:Stmt:=top 53
abbrev u5:List Str:=["by_place","place"]
theorem RY:bh ["by_place","place","others","reached"] u5 (aK Gi):=bF
abbrev F0:Stmt:=top 54
abbrev uS:List Str:=["hall"]
theorem RB:bh ["hall"] uS (aK F0):=bF
abbrev GC:Stmt:=top 55
abbrev vh:List Str:=["hall"]
theorem Sg:bh ["hall","by_place"] vh (aK GC):=bF
abbrev FH:Stmt:=top 57
abbrev uJ:List Str:=["_law_script","_law_k"]
theorem Ro:bh ["_law_script","_law_k"] uJ (aK FH):=bF
abbrev FN:Stmt:=top 58
abbrev uL:List Str:=["_law_script","_law_k","_law_many"]
theorem Rt:bh ["_law_script","_law_k","_law_many","_law_drawn"] uL (aK FN):=bF
abbrev FI:Stmt:=top 59
abbrev oV:List Str:=["_law_script","_law_town","_law_many"]
theorem Rp:bh ["_law_script","_law_town","_law_many"] oV (aK FI):=bF
abbrev FQ:Stmt:=top 60
abbrev qV:List Str:=["_law_script","_law_town","_law_some_here"]
theorem Rv:bh ["_law_script","_law_town","_law_some_here"] qV (aK FQ):=bF
abbrev FO:Stmt:=top 61
abbrev uM:List Str:=["_law_script","_law_town","_law_names_here","_law_deep"]
theorem GK:bh ["_law_script","_law_town","_law_names_here","_law_deep","_law_most","_law_left","_law_right","_law_one"] uM (aK FO):=bF
abbrev FT:Stmt:=top 64
abbrev uO:List Str:=["_law_part","_law_way"]
theorem Rw:bh ["_law_part","_law_way"] uO (aK FT):=bF
abbrev FJ:Stmt:=top 65
abbrev qU:List Str:=["_law_part"]
theorem Rq:bh ["_law_part"] qU (aK FJ):=bF
abbrev FP:Stmt:=top 66
abbrev uN:List Str:=["_law_part"]
theorem Ru:bh ["_law_part"] uN (aK FP):=bF
abbrev FL:Stmt:=top 67
abbrev uK:List Str:=["_law_part","_law_book"]
theorem Rr:bh ["_law_part","_law_book"] uK (aK FL):=bF
abbrev FU:Stmt:=top 68
abbrev uP:List Str:=["_law_part","_law_book"]
theorem Rx:bh ["_law_part","_law_book","_law_way","_law_rod"] uP (aK FU):=bF
abbrev FW:Stmt:=top 69
abbrev uQ:List Str:=["_law_what","_law_hall"]
theorem GL:bh ["_law_what","_law_hall"] uQ (aK FW):=bF
abbrev kJ:Stmt:=top 70
abbrev zp:List Str:=["_law_script"]
theorem GP:bh ["_law_script","_law_town","_law_names_here","_law_some_here","_law_hall","_law_made","_law_place","_law_others","_law_mine","_law_groups","_law_tied","_law_book"] zp (aK kJ):=bF
open MA
theorem Lg(T:TopD K mg "is_number" Gh ri)(d:mg "isinstance"=none)(f:mg "bool"=none)(g:mg "int"=none):ay P w K mg base 1 "is_number" ri (av mg 3 xx):=by
 refine bT T RX λj k hx l nd=>⟨_,(aI (cF (PW.pt (ig (gp (ly ND d f boot_bool (vr 0))) (jr (gn (gp (ly NF d g boot_int (vr 0))))))) (aF (aU iU)) cO)
  (aF (aU (CK (vr 1) (vr 0) (vr 2))))),λds A R h hl=>?_⟩
 obtain⟨v,⟨i,a,b,rfl,rfl⟩,q⟩:=h;refine cD (λc=>?_) (λc=>?_)
 .have e:(decide (a<=i)&&decide (i<=b))=decide (i<=b):=by simp[c]
  rw[e] at q;exact q _ Gr.refl
 .have e:(decide (a<=i)&&decide (i<=b))=false:=by simp[c]
  rw[e] at q;exact q _ Gr.refl
theorem EB{c d:Nat}:([c]:List Nat)<[d]↔c<d:=by simp[List.cons_lt_cons_iff]
theorem Sl:("a":Str).cps.toList=[97]:=η
theorem Sm:("z":Str).cps.toList=[122]:=η
theorem Lf(T:TopD K mg "is_name" Gf q_)(b:mg "isinstance"=none)(d:mg "str"=none)(g:mg "len"=none)(i:mg "all"=none){t:Tok}(a:mg "LONGEST_NAME"=some (.int 3 t)):ay P w K mg base 1 "is_name" q_ (av mg 1 xr):=by
 refine bT T RU λp r hx s nd=>⟨_,(aI (cF (PW.pt (ig (gn (gp (ly DQ b d boot_str (vr 0)))) (jr (gn (Hv aC (dI gR gj g h_ (aa (vr 0) ah)) (nX a)))))) (aF (aU iU)) cO)
  (aF (aU (dI (xO rfl) yc i boot_all (aa (gF none (own:=["letter"]) (frees:=[]) (ix:=[]) rfl (Kc (vr 0)) (λc=>(pG 0 (show(["letter"]:List Str).Nodup by decide+kernel))) (λc=>(CK bX (vr 0) bX))) ah))))),λds A R h hl=>?_⟩
 obtain⟨v,⟨n,rfl,j,rfl⟩,q⟩:=h;have hz:n.length<=sizeLine:=cV j.hi δ;have h1:=j.lo;have u:=j.hi;refine⟨hz,cD (λ_=>?_) (λc=>absurd (show(1:Int)<=(n.length:Nat) by omega) c)⟩;refine cN (λc=>absurd (show((n.length:Nat):Int)<=3 by omega) c) (λ_=>?_);refine iS (f:=λ_=>.bl true) trivial _ _ (λx hx=>⟨[x],rfl,λQ k=>?_⟩) ?_ ?_
 .obtain⟨c,hc,rfl⟩:=aN.mp hx
  obtain⟨y,z⟩:=j.az c hc;have l:¬((⟨#[c]⟩:Str).cps.toList<("a":Str).cps.toList):=by
   rw[Sl];intro h;have:=EB.mp h;omega
  have m:¬(("z":Str).cps.toList<(⟨#[c]⟩:Str).cps.toList):=by
   rw[Sm];intro h;have:=EB.mp h;omega
  refine cN (λ_=>?_) (λh=>absurd h l);have o:(!decide (("z":Str).cps.toList<(⟨#[c]⟩:Str).cps.toList))=true:=by rw[fM m];rfl
  show Q (.bl (!decide (("z":Str).cps.toList<(⟨#[c]⟩:Str).cps.toList))) A;rw[o];exact k
 .have:(kK n).length=n.length:=by simp[kK,Str.length]
  show 0+(kK n).length<=sizeLine;omega
 .refine xD (bs:=(kK n).map λ_=>true) aH (tG _ _) ?_
  have e:((kK n).map λ_=>true).all id=true:=θ
  rw[e];exact q _ Gr.push
theorem Ld(T:TopD K mg "is_mobile_within" Ge uZ)(i:mg "isinstance"=none)(x:mg "str"=none)(u:mg "tuple"=none)(k:mg "len"=none){t:Tok}(g:mg "LONGEST_ARM"=some (.int 9 t))
  (o:ay P w K mg base 1 "is_name" q_ (av mg 1 xr))(j:ay P w K mg base 1 "is_number" ri (av mg 3 xx)):∀d,ay P w K mg base (d+1) "is_mobile_within" uZ (av mg 2 (AY d)):=by
 intro d;induction d with
 |zero=>
  refine mO T λds A R RE h=>?_;obtain⟨v,⟨m,_,_,h,_⟩,_⟩:=h;omega
 |succ d e=>
  refine iX T RT rfl δ λN RE f G B outer s H E y Y hx ds A R h hl=>?_;have p:=y.units;refine⟨_,(aI (cF (PW.pt (ig (gn (gp (ly kit_tuple i u kY (vr 0)))) (ig (gu p (dI gR gj k h_ (aa (vr 0) ah)) aC) (jr (gn (gp (ly DQ i x boot_str (dX p (vr 0) aC)))))))) (aF (aU iU)) cO)
  (aI (cF (gu p (dX p (vr 0) aC) bX) (aF (aU (yg (uc p (dI gR gj k h_ (aa (vr 0) ah)) aC) (yj (dL o y hx (aa (dX p (vr 0) aC) ah)))))) cO)
  (aI (cF (PW.pt (ig (m8 p (dX p (vr 0) aC) bX) (ig (m8 p (dI gR gj k h_ (aa (vr 0) ah)) aC) (jr (gu p (vr 1) aC))))) (aF (aU iU)) cO)
  (aI (cF (PW.pt (ig (gn (gp (dL j y hx (aa (dX p (vr 0) aC) (aa aC (aa (nX g) ah)))))) (jr (gn (gp (dL j y hx (aa (dX p (vr 0) aC) (aa aC (aa (nX g) ah))))))))) (aF (aU iU)) cO)
  (aF (aU (yg (dL e y hx (aa (dX p (vr 0) aC) (aa (t6 (vr 1) aC) ah))) (yj (dL e y hx (aa (dX p (vr 0) aC) (aa (t6 (vr 1) aC) ah))))))))))),?_⟩
  obtain⟨v,⟨m,rfl,z,hd,rfl⟩,q⟩:=h;cases m with
  |wt n=>
   exact⟨rfl,_,⟨n,rfl,z.nm n (by simp[aZ.names]),rfl⟩,q⟩
  |aQ l r a b=>
   obtain⟨⟨h1,h2,I,J,L,M⟩,C⟩:=z;have O:max a.deep b.deep+1<d+1:=hd;have F:((d+1:Nat):Int) - 1 - 1=(d:Int) - 1:=ω
   have Q:(decide (1<=l)&&decide (l<=9))=true:=by simp[h1,h2]
   have S:(decide (1<=r)&&decide (r<=9))=true:=by simp[I,J]
   refine cD (λc=>absurd c ω) (λ_=>?_);refine⟨rfl,_,⟨l,1,9,rfl,rfl⟩,λZ U=>?_⟩;rw[Q];refine⟨rfl,_,⟨r,1,9,rfl,rfl⟩,λA2 V=>?_⟩;rw[S];refine⟨rfl,_,⟨a,show [enc a,D.int (((d+1:Nat):Int) - 1 - 1)]=_ by rw[F],⟨L,λn h=>C n (by simp[aZ.names,h])⟩,ω,rfl⟩,λA3 W=>?_⟩;refine⟨rfl,_,⟨b,show [enc b,D.int (((d+1:Nat):Int) - 1 - 1)]=_ by rw[F],⟨M,λn h=>C n (by simp[aZ.names,h])⟩,ω,rfl⟩,λA4 X=>?_⟩;exact q _ (((U.trans V).trans W).trans X)
theorem Le(T:TopD K mg "is_mobile" Gd q9){t:Tok}(b:mg "MOST_RODS"=some (.int 5 t))(a:ay P w K mg base 7 "is_mobile_within" uZ (av mg 2 (AY 6))):ay P w K mg base 8 "is_mobile" q9 (av mg 1 xj):=by
 refine bT T RQ λc e hx f nd=>⟨_,(aF (aU (dL a c hx (aa (vr 0) (aa (nX b) ah))))),λds A R h hl=>?_⟩;obtain⟨v,⟨m,rfl,d,hd,rfl⟩,q⟩:=h;exact⟨rfl,_,⟨m,rfl,d,ω,rfl⟩,q⟩
theorem K4(T:TopD K mg "check_mobile" F3 qX){a:Addr}(c:mg "NoMobile"=some (.ref a))(d:excIn K a m_ "ValueError.__new__"=true)(b:ay P w K mg base 8 "is_mobile" q9 (av mg 1 xj)):ay P w K mg base 9 "check_mobile" qX (av mg 1 w_):=by
 refine bT T RG λe f hx j nd=>⟨_,(aF (cF (gn (gp (dL b e hx (aa (vr 0) ah)))) (aF (oh f rfl c d (aa bX ah))) cO)),λds A R h hl=>?_⟩;obtain⟨v,⟨m,rfl,g,hd,rfl⟩,q⟩:=h;exact⟨rfl,_,⟨m,rfl,g,hd,rfl⟩,λk i=>q _ i⟩
end My
namespace DP
open L2 MA
abbrev AR:Ct:=SV λds v=>∃rs,ds=[kD rs]/\lg rs/\v=.aE
end DP
namespace My
open L2 DP MA
theorem Lu(T:TopD K mg "is_named_number" Gg u0)(a:mg "isinstance"=none)(e:mg "tuple"=none)(f:mg "len"=none){t:Tok}(c:mg "HEAVIEST"=some (.int 999999 t))
  (d:ay P w K mg base 1 "is_name" q_ (av mg 1 xr))(b:ay P w K mg base 1 "is_number" ri (av mg 3 xx)):ay P w K mg base 2 "is_named_number" u0 (av mg 1 Bd):=by
 refine bT T RW λi m hx g nd=>⟨_,(aI (cF (PW.pt (ig (gn (gp (ly kit_tuple a e kY (vr 0)))) (jr (m8 g (dI gR gj f h_ (aa (vr 0) ah)) aC)))) (aF (aU iU)) cO)
  (aF (aU (yg (dL d i hx (aa (dX g (vr 0) aC) ah)) (yj (dL b i hx (aa (dX g (vr 0) aC) (aa aC (aa (nX c) ah))))))))),λds A R h hl=>?_⟩
 obtain⟨v,⟨r,rfl,j,⟨h1,h2⟩,rfl⟩,q⟩:=h;refine⟨rfl,_,⟨r.1,rfl,j,rfl⟩,λn k=>?_⟩;refine⟨rfl,_,⟨r.2,1,999999,rfl,rfl⟩,λo l=>?_⟩;rw[show(decide (1<=r.2)&&decide (r.2<=999999))=true by simp[h1,h2]];exact q _ (k.trans l)
theorem pw_eq{ys ss:List Str}(h1:ys.Pairwise strLt)(h2:ss.Pairwise strLt)(b:∀x,x∈ys↔x∈ss):ys=ss:=by
 induction ys generalizing ss with
 |nil=>
  cases ss with
  |nil=>rfl
  |cons a r=>exact absurd ((b a).mpr (br ..)) θ
 |cons y ys d=>
  cases ss with
  |nil=>exact absurd ((b y).mp (br ..)) θ
  |cons a r=>
   have c:=g_.mp h1;have p2:=g_.mp h2;have e:y=a:=by
    have f:=(b y).mp (br ..);have g:=(b a).mpr (br ..);rcases bz.mp f with q|q
    .exact q
    rcases bz.mp g with q'|q'
    .exact q'.symm
    exact absurd (sH (p2.1 y q) (c.1 a q')) (j7 _)
   subst e;rw[d c.2 p2.2 λx=>?_];constructor
   .intro hx
    rcases bz.mp ((b x).mp (bq _ hx)) with q|q
    .subst q;exact absurd (c.1 x hx) (j7 _)
    .exact q
   .intro hx
    rcases bz.mp ((b x).mpr (bq _ hx)) with q|q
    .subst q;exact absurd (p2.1 x hx) (j7 _)
    .exact q
theorem Li(T:TopD K mg "is_weights" Gk u7)(b:mg "isinstance"=none)(g:mg "tuple"=none)(j:mg "all"=none)(d:mg "sorted"=none)(k:mg "set"=none)
  (a:ay P w K mg base 2 "is_named_number" u0 (av mg 1 Bd)):ay P w K mg base 3 "is_weights" u7 (av mg 1 A8):=by
 refine bT T R0 λl E hx s nd=>⟨_,(aI (cF (PW.pt (ig (gn (gp (ly kit_tuple b g kY (vr 0)))) (jr (gn (gp (dI (xO rfl) yc j boot_all (aa (gF none (own:=["pair"]) (frees:=[]) (ix:=[]) rfl (di (vr 0)) (λc=>(pG 0 (show(["pair"]:List Str).Nodup by decide+kernel))) (λc=>(dL a l oY (aa (vr 0) ah)))) ah))))))) (aF (aU iU)) cO)
  (aI (yr none (own:=["pair"]) (frees:=[]) (ix:=[]) (i:=1) nd rfl (by first|exact Or.inl rfl|exact Or.inr rfl) rfl (di (vr 0)) (λc=>(pG 0 (show(["pair"]:List Str).Nodup by decide+kernel))) (λc=>(dX s (vr 0) aC)))
  (aF (aU (uc s (vr 1) (Cn d k rfl (aa (vr 1) ah))))))),λds A R h hl=>?_⟩
 obtain⟨v,⟨rs,rfl,m,rfl⟩,q⟩:=h;have hz:0+(rs.map cT).length<=sizeLine:=by
  have:=m.len;have:(64:Nat)<=sizeLine:=δ
  simp;omega
 have o:∀n∈rs.map (·.1),Nm n:=λn u=>by
  obtain⟨r,l,rfl⟩:=aN.mp u;exact m.nm r l
 refine tQ (λ_=>.bl true) _ _ _ (λ_ _=>trivial) (λx hx z t=>⟨[x],rfl,λQ p=>?_⟩) hz (λz t=>?_)
 .obtain⟨r,l,rfl⟩:=aN.mp hx
  exact⟨rfl,_,⟨r,rfl,m.nm r l,m.no r l,rfl⟩,p⟩
 refine xD (bs:=(rs.map cT).map λ_=>true) aH (tG _ _) ?_;rw[show((rs.map cT).map λ_=>true).all id=true by simp];refine iS (f:=λx=>match x with|.tup (y::_)=>y|x=>x) trivial _ _ (λx hx=>⟨[x],rfl,λQ p=>?_⟩) hz ?_
 .obtain⟨r,l,rfl⟩:=aN.mp hx
  exact p
 have e:(rs.map cT).map (λx=>match x with|.tup (y::_)=>y|x=>x)=(rs.map (·.1)).map D.str:=by
  rw[bY,bY];rfl
 rw[fL,e];refine G8 (ss:=rs.map (·.1)) aH (by have:=strs_map id (rs.map (·.1));simpa using this) (by have:=m.len;simpa using this) λys B C=>?_;have hy:=pw_eq B m.up C;subst hy;refine KI (getElem?_push aH) aH o o ?_;rw[cW rfl];exact q _ (((t.trans Gr.push).trans Gr.push).trans Gr.push)
theorem Lk(T:TopD K mg "leaves_below" Gp rj):∀d,ay P w K mg base (d+1) "leaves_below" rj (av mg 2 (xm d)):=by
 intro d;induction d with
 |zero=>
  refine mO T λds A R RE h=>?_;obtain⟨v,⟨m,w,_,h,_⟩,_⟩:=h;omega
 |succ d c=>
  refine iX T R4 rfl δ λN RE f j B outer s H E g p hx ds A R h hl=>?_;have e:=g.units;refine⟨_,(aI (cF (gu e (dX e (vr 0) aC) bX) (aF (aU (c8 (aa (dW (aa (vr 1) (aa (dX e (vr 0) aC) ah))) ah)))) cO)
  (aF (aU (cZ (dL c g hx (aa (dX e (vr 0) aC) (aa (cZ (vr 1) bX) ah))) (dL c g hx (aa (dX e (vr 0) aC) (aa (cZ (vr 1) bX) ah))))))),?_⟩
  obtain⟨v,⟨m,w,rfl,hd,t,u,rfl⟩,q⟩:=h;have z:(100:Nat)<=sizeLine:=δ
  cases m with
  |wt n=>exact⟨by show 2<=sizeLine;omega,by show 1<=sizeLine;omega,q _ _ Gr.push aH⟩
  |aQ l r a b=>
   have k:max a.deep b.deep+1<d+1:=hd;have C:("l":Str).length=1:=η
   have D:("r":Str).length=1:=η
   have al:∀x y:Str,(x++y).length=x.length+y.length:=λx y=>sq;refine⟨ω,rfl,_,⟨a,_,rfl,ω,by rw[al];omega,ω,rfl⟩,λF r1 o h1=>?_⟩;refine⟨ω,rfl,_,⟨b,_,rfl,ω,by rw[al];omega,ω,rfl⟩,λG I i h2=>?_⟩;have n1:=aZ.jR a;have n2:=aZ.jR b;have J:2 ^ a.deep<=2 ^ 8:=dR δ ω;have p2:2 ^ b.deep<=2 ^ 8:=dR δ ω;have hz:(512:Nat)<=sizeLine:=δ
   refine iQ (i.get h1) h2 (by rw[aS,aS,zc,zc];omega) (q _ _ ((o.trans i).trans Gr.push) ?_);rw[aH];simp[mV]
theorem Lm(T:TopD K mg "load_below" Gq vc)(b:mg "sum"=none)(a:ay P w K mg base 9 "leaves_below" rj (av mg 2 (xm 8))):ay P w K mg base 10 "load_below" vc (av mg 2 (s_ 6)):=by
 refine bT T R5 λj v hx k nd=>⟨_,(aF (aU (dI (BO rfl) Cg b boot_sum (aa (gF (some 2) (own:=["way","name"]) (frees:=["numbers"]) (ix:=[1]) rfl (di (dL a j hx (aa (vr 0) (aa bX ah)))) (λc=>(vq rfl (kI (pG 0 (show(["way","name","numbers"]:List Str).Nodup by decide+kernel)) (kI (pG 1 (show(["way","name","numbers"]:List Str).Nodup by decide+kernel)) vt)))) (λc=>(dX k (vr 2) (vr 1)))) ah)))),λds A R h hl=>?_⟩;obtain⟨m,r,rs,rfl,l,o,hd,g,q⟩:=h;refine⟨rfl,_,⟨m,_,rfl,ω,η,ω,rfl⟩,λy r1 i h1=>?_⟩;refine dY h1 ?_;have n1:=aZ.jR m;have z:2 ^ m.deep<=2 ^ 6:=dR δ hd;have hz:(64:Nat)<=sizeLine:=δ
 refine iS (f:=λx=>match x with|.tup [_,.str n]=>.int (val rs n)|x=>x) h1 _ _ (λx hx=>?_) (by simp[zc];omega) ?_
 .obtain⟨p,s,rfl⟩:=aN.mp hx
  refine⟨[.str p.1,.str p.2],rfl,λQ t=>?_⟩;have u:p.2∈m.names:=by rw[<-oM m ""];exact c9 s
  exact kG (i.get l) rfl (uh rs p.2 (g _ u)) t
 have e:((mV m "").map iz).map (λx=>match x with|.tup [_,.str n]=>D.int (val rs n)|x=>x)=m.names.map λn=>D.int (val rs n):=by
  rw[<-oM m "",bY,bY];rfl
 rw[fL,e];refine Hj (ns:=m.names.map (val rs)) aH (ints_map _ _) (λn d=>?_) (by simp;omega) ?_
 .obtain⟨x,hx,rfl⟩:=aN.mp d
  have:=HL o (g x hx);omega
 .rw[uy]
  exact q _ (i.trans Gr.push)
theorem K2(T:TopD K mg "check_are_weights" F1 uT){a:Addr}(c:mg "NoWeights"=some (.ref a))(d:excIn K a m_ "ValueError.__new__"=true)
  (b:ay P w K mg base 3 "is_weights" u7 (av mg 1 A8)):ay P w K mg base 4 "check_are_weights" uT (av mg 1 AR):=by
 refine bT T RC λe f hx j nd=>⟨_,(aF (cF (gn (gp (dL b e hx (aa (vr 0) ah)))) (aF (oh f rfl c d (aa bX ah))) cO)),λds A R h hl=>?_⟩;obtain⟨v,⟨rs,rfl,g,rfl⟩,q⟩:=h;exact⟨rfl,_,⟨rs,rfl,g,rfl⟩,λk i=>q _ i⟩
theorem K8(T:TopD K mg "check_weights" F5 uV)(i:mg "dict"=none){d:Addr}(f:mg "NoWeights"=some (.ref d))(g:excIn K d m_ "ValueError.__new__"=true)
  (c:ay P w K mg base 4 "check_are_weights" uT (av mg 1 AR))(e:ay P w K mg base 9 "leaves_below" rj (av mg 2 (xm 8))):ay P w K mg base 10 "check_weights" uV (av mg 2 AW):=by
 refine bT T RI λk r hx s nd=>⟨_,(aI (fY (dL c k hx (aa (vr 1) ah)))
  (aI (dS 2 nd (ku (ql rfl) qv i boot_dict (aa (vr 1) ah)))
  (aF (gm fQ rfl (di (dL e k hx (aa (vr 0) (aa bX ah)))) (nZ rfl (gV (dG 3 nd) (gV (dG 4 nd) n9))) (aF (cF (pA s (vr 4) (vr 2)) (aF (oh r rfl f g (aa (JZ (vr 4)) ah))) cO)))))),λds A R h hl=>?_⟩
 obtain⟨v,⟨m,rs,rfl,l,hd,t,rfl⟩,q⟩:=h;refine⟨rfl,_,⟨rs,rfl,l,rfl⟩,λn u=>?_⟩;refine yo l ?_;refine⟨rfl,_,⟨m,_,rfl,ω,η,ω,rfl⟩,λy E o h2=>?_⟩;refine dY h2 ?_;have z:y[n.length]?=some (.dct (fh rs)):=o.get aH;refine CA h2 (λτ=>∃a b,τ=[some (enc m),some (kD rs),some (.ref n.length),a,b]) _ _ ⟨none,none,rfl⟩ (λx hx τ j F B=>?_) (λτ _=>q _ ((u.trans Gr.push).trans o));obtain⟨a,b,rfl⟩:=j;obtain⟨p,C,rfl⟩:=aN.mp hx;have D:p.2∈m.names:=by rw[<-oM m ""];exact c9 C
 refine⟨rfl,oz z rfl ?_⟩;rw[uh rs p.2 (t _ D)];exact B _ ⟨_,_,rfl⟩
theorem K_(T:TopD K mg "greatest_divisor" F9 q7):ay P w K mg base 1 "greatest_divisor" q7 (av mg 2 xh):=by
 refine bT T RN λp s hx t nd=>⟨_,(aI (CF fQ (Hs (vr 1) aC) (aI (dS 2 nd (nW (vr 0) (vr 1)))
  (aI (dS 0 nd (vr 1))
  (aF (dS 1 nd (vr 2))))))
  (aF (aU (vr 0)))),λds A R h hl=>?_⟩
 obtain⟨v,⟨a,b,rfl,i,j,rfl⟩,q⟩:=h;refine⟨λn τ A'=>A'=A/\∃(x y:Int) (r:Option D),τ=[some (.int x),some (.int y),r]/\0<=x/\0<=y/\Int.gcd x y=Int.gcd a b/\n=y.toNat,⟨_,rfl,a,b,none,rfl,i,j,rfl,rfl⟩,?_⟩;rintro n τ A' ⟨rfl,x,y,r,rfl,h0,h1,g,rfl⟩;refine cD (λc=>?_) (λc=>?_)
 .refine⟨λτ k=>k=A'/\∃(f d:Int) (r:Option D),τ=[some (.int f),some (.int d),r]/\0<=f/\0<=d/\Int.gcd f d=Int.gcd a b/\d.toNat<y.toNat,λb7 A' ⟨e,f,d,r',h1,h2,l,m,o⟩=>⟨_,o,e,f,d,r',h1,h2,l,m,rfl⟩,?_⟩
  have m0:=emod_nonneg x (show y≠0 by omega);have u:=wc x (show 0<y by omega);exact⟨c,rfl,y,x%y,_,rfl,h1,m0,by rw[L6 h0 c];exact g,ω⟩
 .have e:y=0:=ω
  subst e;have:(x:Int)=(Int.gcd a b:Int):=by rw[<-g,Int.gcd_zero_right];omega
  show R (.int x) A';rw[this];exact q _ Gr.refl
theorem LH(T:TopD K mg "reduced" Gz rz)(c:ay P w K mg base 1 "greatest_divisor" q7 (av mg 2 xh)):ay P w K mg base 2 "reduced" rz (av mg 2 xy):=by
 refine bT T Se λf j hx l nd=>⟨_,(aI (dS 2 nd (dL c f hx (aa (vr 0) (aa (vr 1) ah))))
  (aF (aU (dW (aa (qx (vr 0) (vr 2)) (aa (qx (vr 1) (vr 2)) ah)))))),λds A R h hl=>?_⟩
 obtain⟨v,⟨a,b,rfl,g,m,hz,rfl⟩,q⟩:=h;have d:0<(Int.gcd a b:Int):=by
  have:=Int.gcd_pos_of_ne_zero_left b (show a≠0 by omega);omega
 have hl:(Int.gcd a b:Int)<=a:=le_of_dvd g (Int.gcd_dvd_left a b);have e:(Int.gcd a b:Int).natAbs.log2<9000:=by
  have h1:(Int.gcd a b:Int).natAbs<2 ^ 2000:=ω
  have:=(Nat.log2_lt (n:=(Int.gcd a b:Int).natAbs) (k:=2000) ω).mpr h1;omega
 refine⟨rfl,_,⟨a,b,rfl,ω,ω,rfl⟩,λo i=>?_⟩;exact⟨⟨d,e⟩,⟨d,e⟩,show 2<=sizeLine by decide,q _ i⟩
end My
namespace DP
open L2 MA
noncomputable def fq(x:Rat):D:=.tup [.int (rf x).1,.int (rf x).2]
noncomputable def vC(p:Str×Str×Rat):D:=.tup [.str p.1,.str p.2.1,fq p.2.2]
theorem Ft{a b:Int}(c:0<b):rd a b=rf ((a:Rat)/(b:Rat)):=vA c
def qc:Ct:=λds A R _=>∃a b c d:Int,ds=[.tup [.int a,.int b],.tup [.int c,.int d]]/\0<a/\0<b/\0<c/\0<d/\c<2 ^ 64/\d<2 ^ 64/\a*c<2 ^ 2000/\∀A',Gr A A'->R (fq (((a:Rat)/(b:Rat))*((c:Rat)/(d:Rat)))) A'
theorem mul_div{a b c d:Int}(e:0<b)(hd:0<d):((a*c:Int):Rat)/((b*d:Int):Rat)=((a:Rat)/(b:Rat))*((c:Rat)/(d:Rat)):=by
 have h1:=ko (jc e);have h2:=ko (jc hd);rw[eW,eW];grind
def Bj(d:Nat):Ct:=λds A R _=>∃m w x,ds=[enc m,.str w,fq x]/\m.arms/\m.deep<d/\d<=6/\w.length+d<=100/\0<x/\(rf x).1*18 ^ m.deep<=1000000000/\∀A' q,Gr A A'->A'[q]?=some (.lst ((bR m w x).map vC))->A.length<=q->R (.ref q) A'
def xA:Ct:=λds A R _=>∃m,ds=[enc m]/\Wf m/\m.deep<=5/\∀A' q,Gr A A'->A'[q]?=some (.lst ((bR m "" 1).map vC))->A.length<=q->R (.ref q) A'
theorem BB{a:Int}(h:a<=1000000000000):a<2 ^ 2000:=Int.lt_of_le_of_lt h (wu (show(1000000000000:Int)<2 ^ 64 by decide) (by
 have:(2:Nat) ^ 64<=2 ^ 2000:=dR δ δ;exact_mod_cast this))
end DP
namespace My
open L2 DP MA
theorem LB(T:TopD K mg "product" Gw rq)(e:ay P w K mg base 2 "reduced" rz (av mg 2 xy)):ay P w K mg base 3 "product" rq (av mg 2 qc):=by
 refine bT T R9 λj r hx f nd=>⟨_,(aF (aU (dL e j hx (aa (ie (dX f (vr 0) aC) (dX f (vr 1) aC)) (aa (ie (dX f (vr 0) aC) (dX f (vr 1) aC)) ah))))),λds A R h hl=>?_⟩;obtain⟨a,b,c,d,rfl,h1,h2,k,i,l,m,n,q⟩:=h;refine⟨.inr ⟨ω,l⟩,.inr ⟨ω,m⟩,rfl,_,⟨_,_,rfl,fK h1 k,fK h2 i,n,rfl⟩,λo p=>?_⟩;have g:=q o p;rw[<-mul_div h2 i] at g;unfold fq at g;rw[<-Ft (fK h2 i)] at g;exact g
theorem LF(T:TopD K mg "quotient" Gy vf)(f:ay P w K mg base 2 "reduced" rz (av mg 2 xy)):ay P w K mg base 3 "quotient" vf (av mg 2 (λds A R E=>∃a b c d:Int,ds=[.tup [.int a,.int b],.tup [.int c,.int d]]/\qc [.tup [.int a,.int b],.tup [.int d,.int c]] A R E)):=by
 refine bT T Sa λk s hx g nd=>⟨_,(aF (aU (dL f k hx (aa (ie (dX g (vr 0) aC) (dX g (vr 1) aC)) (aa (ie (dX g (vr 0) aC) (dX g (vr 1) aC)) ah))))),λds A R h hl=>?_⟩;obtain⟨a,b,c,d,rfl,t,u,d',c',e,h1,h2,l,j,m,n,o,q⟩:=h;cases e;refine⟨.inr ⟨ω,m⟩,.inr ⟨ω,n⟩,rfl,_,⟨_,_,rfl,fK h1 l,fK h2 j,o,rfl⟩,λp r=>?_⟩;have i:=q p r;rw[<-mul_div h2 j] at i;unfold fq at i;rw[<-Ft (fK h2 j)] at i;exact i
theorem LK(T:TopD K mg "shares_below" GB vg)(e:ay P w K mg base 3 "product" rq (av mg 2 qc)):∀d,ay P w K mg base (d+3) "shares_below" vg (av mg 3 (Bj d)):=by
 intro d;induction d with
 |zero=>
  refine mO T λds A R RE h=>?_;obtain⟨m,w,x,_,_,h,_⟩:=h;omega
 |succ d c=>
  refine iX T GQ rfl δ λN RE f z B outer s H E j S hx ds A R h hl=>?_;have g:=j.units;have nd:=GQ.nd;refine⟨_,(aI (cF (gu g (dX g (vr 0) aC) bX) (aF (aU (c8 (aa (dW (aa (vr 1) (aa (dX g (vr 0) aC) (aa (vr 2) ah)))) ah)))) cO)
  (aI (dS 3 nd (cZ (dX g (vr 0) aC) (dX g (vr 0) aC)))
  (aI (dS 4 nd (dL e j hx (aa (vr 2) (aa (dW (aa (dX g (vr 0) aC) (aa (vr 3) ah))) ah))))
  (aI (dS 5 nd (dL e j hx (aa (vr 2) (aa (dW (aa (dX g (vr 0) aC) (aa (vr 3) ah))) ah))))
  (aF (aU (cZ (dL c j hx (aa (dX g (vr 0) aC) (aa (cZ (vr 1) bX) (aa (vr 4) ah)))) (dL c j hx (aa (dX g (vr 0) aC) (aa (cZ (vr 1) bX) (aa (vr 5) ah))))))))))),?_⟩
  obtain⟨m,w,x,rfl,C,hd,U,V,i,k,q⟩:=h;have W:(1000:Nat)<=sizeLine:=δ
  cases m with
  |wt n=>exact⟨show 3<=sizeLine by decide,show 1<=sizeLine by decide,q _ _ Gr.push aH (aG _)⟩
  |aQ l r a b=>
   have D:max a.deep b.deep+1<d+1:=hd;obtain⟨r1,X,t,Y,o,p⟩:=C;have Z:("l":Str).length=1:=η
   have lr:("r":Str).length=1:=η
   have al:∀x y:Str,(x++y).length=x.length+y.length:=λx y=>sq;have np:=dQ i;have dp:=dj x;have k:(rf x).1*18 ^ (max a.deep b.deep+1)<=1000000000:=k;have n1:(rf (x*((r:Rat)/((l+r:Int):Rat)))).1<=(rf x).1*18:=dN (num_mul ω (pN ω ω)) (ny ω ω);have n2:(rf (x*((l:Rat)/((l+r:Int):Rat)))).1<=(rf x).1*18:=dN (num_mul ω (pN ω ω)) (ny ω ω);obtain⟨k1,_,k0⟩:=Cu k n1 np;obtain⟨_,k2,_⟩:=Cu k n2 np;have F:0<x*((r:Rat)/((l+r:Int):Rat)):=aZ.step_pos r1 t i;have p2:0<x*((l:Rat)/((l+r:Int):Rat)):=by
    have:=aZ.step_pos (l:=r) (r:=l) t r1 i;rwa [add_comm r l] at this
   have m1:(rf x).1*r<=1000000000*18:=d8 k0 ω ω ω;have m2:(rf x).1*l<=1000000000*18:=d8 k0 ω ω ω;have G:(18:Int)<2 ^ 64:=δ
   refine⟨show 2<=sizeLine by decide,rfl,_,_,_,_,rfl,np,dp,ω,ω,ω,ω,BB ω,λA1 I=>?_⟩;refine⟨show 2<=sizeLine by decide,rfl,_,_,_,_,rfl,np,dp,ω,ω,ω,ω,BB ω,λA2 J=>?_⟩;rw[jv];refine⟨ω,rfl,a,_,_,rfl,o,ω,ω,by rw[al];omega,F,k1,λA3 q3 L M _=>?_⟩;refine⟨ω,rfl,b,_,_,rfl,p,ω,ω,by rw[al];omega,p2,k2,λO q4 u Q _=>?_⟩;have z1:=qT (m:=a) ω;have z2:=qT (m:=b) ω;have v:Gr A O:=((I.trans J).trans L).trans u;refine iQ (u.get M) Q (by simp[rL];omega) (q _ _ (v.trans Gr.push) ?_ v.len);rw[aH];simp[bR]
theorem LJ(T:TopD K mg "shares" GA rA)(a:ay P w K mg base 9 "check_mobile" qX (av mg 1 w_))(b:ay P w K mg base 9 "shares_below" vg (av mg 3 (Bj 6))):ay P w K mg base 10 "shares" rA (av mg 1 xA):=by
 refine bT T Sf λc i hx j nd=>⟨_,(aI (fY (dL a c hx (aa (vr 0) ah)))
  (aF (aU (dL b c hx (aa (vr 0) (aa bX (aa (dW (aa aC (aa aC ah))) ah))))))),λds A R h hl=>?_⟩
 obtain⟨m,rfl,d,hd,q⟩:=h;refine⟨rfl,_,⟨m,rfl,d,hd,rfl⟩,λk f=>?_⟩;have l:(D.tup [.int 1,.int 1])=fq 1:=rfl;refine⟨show 2<=sizeLine by decide,rfl,m,_,1,rfl,d.arms,ω,ω,η,δ,?_,λn o g h2 l2=>q _ _ (f.trans g) h2 (cV f.len l2)⟩;have p:=oZ hd;have e:(18:Int) ^ 5=1889568:=δ
 rw[e] at p;show(1:Int)*18 ^ m.deep<=1000000000;omega
end My
namespace DP
open L2 MA
noncomputable def bD:Option (Str×Str)->D
 |some p=>.tup [.str p.1,.str p.2]
 |none=>.aE
def sZ:Ct:=λds A R _=>∃m,ds=[enc m]/\Wf m/\m.deep<=5/\∀A',Gr A A'->R (bD (ez [] (bR m "" 1))) A'
theorem um(k:Key)(v:D)(c:Key):∀kvs:List (Key×D),bw (cj kvs k v) c=if k=c then some v else bw kvs c:=by
 intro kvs;by_cases f:(kvs.any λb=>decide (b.1=k))=true
 .have e:cj kvs k v=kvs.map λb=>if b.1=k then (b.1,v) else b:=by
   unfold cj;rw[ao f]
  rw[e];clear e;induction kvs with
  |nil=>simp at f
  |cons p r i=>
   by_cases d:p.1=k
   .rw[ck,ao d]
    unfold bw;by_cases a:k=c
    .rw[ao a,ao (by rw[<-a];exact d)]
    .rw[ak a,ak (λz=>a (by rw[<-d];exact z))]
     rw[ak (λz=>a (by rw[<-d];exact z))];by_cases h:(r.any λb=>decide (b.1=k))=true
     .rw[i h,ak a]
     .have:r.map (λb=>if b.1=k then (b.1,v) else b)=r:=by
       rw[ng (g:=id)]
       .simp
       .intro q j
        rw[ak]
        .rfl
        .intro z
         exact h (nE.mpr ⟨q,j,cW z⟩)
      rw[this]
   .have h:(r.any λb=>decide (b.1=k))=true:=by simpa[d] using f
    rw[ck,ak d];unfold bw;by_cases a:p.1=c
    .rw[ao a,ak (λz=>d (by rw[z];exact a)),ao a]
    .rw[ak a,ak a]
     exact i h
 .have e:cj kvs k v=kvs++[(k,v)]:=by
   unfold cj;rw[ak f]
  rw[e];clear e;induction kvs with
  |nil=>simp[bw]
  |cons p r i=>
   have d:p.1≠k:=λz=>f (by simp[z]);have h:¬(r.any λb=>decide (b.1=k))=true:=λz=>f (by simp[z]);show(if p.1=c then some p.2 else bw (r++[(k,v)]) c)=if k=c then some v else (if p.1=c then some p.2 else bw r c)
   by_cases a:p.1=c
   .rw[ao a,ak (λz=>d (by rw[z];exact a)),ao a]
   .rw[ak a,ak a]
    exact i h
theorem QG(kvs:List (Key×D))(k:Key)(v:D):(cj kvs k v).length<=kvs.length+1:=by
 unfold cj;split<;>simp
theorem E4{A:Ar}{r:Nat}{kvs:List (Key×D)}{y v:D}{k:Key}{R:Ar->Prop}(h:A[r]?=some (.dct kvs))(a:fO y=some k)(hl:kvs.length<sizeLine)(q:R (A.set r (.dct (cj kvs k v)))):rF r y v A R:=by
 unfold rF;simp only[h,a];exact⟨hl,q⟩
theorem L_{A:Ar}{r:Nat}{c c':C}(h:A[r]?=some c):(A.set r c')[r]?=some c':=by
 rw[fB (bW.mp h).1]
theorem DU(x:Rat):(toQ (fq x)).canLay0=true:=by simp[fq,toQ,bS,canLay0,canLayAll0]
theorem J8(x:Rat):(toQ (fq x)).depth<=64:=by simp[fq,toQ,bS,PyData.depth,depthAll]
theorem KJ(x y:Rat):PyData.eqv (toQ (fq x)) (toQ (fq y))=decide (x=y):=by
 by_cases h:x=y
 .subst h
  simp[fq,toQ,bS,PyData.eqv,eqvAll]
 .rw[fM h]
  have:¬((rf x).1=(rf y).1/\(rf x).2=(rf y).2):=λz=>h (QX (Prod.ext z.1 z.2));by_cases h1:(rf x).1=(rf y).1
  .have h2:¬(rf x).2=(rf y).2:=λz=>this ⟨h1,z⟩
   simp[fq,toQ,bS,PyData.eqv,eqvAll,h2]
  .simp[fq,toQ,bS,PyData.eqv,eqvAll,h1]
theorem Eo{x y:Rat}{A:Ar}{R:DK}(k:R (.bl (!decide (x=y))) A):fN true (fq x) (fq y) A R:=by
 unfold fN;have h1:cH A (fq x)=toQ (fq x):=rfl;have h2:cH A (fq y)=toQ (fq y):=rfl;rw[h1,h2];have:=J8 x;refine⟨rfl,rfl,DU x,DU y,ω,?_⟩;rw[KJ];exact k
theorem C1{pre:List (Str×Str×Rat)}{p:Str×Str×Rat}{n:Str}:(pre++[p]).find? (λq=>decide (q.2.1=n))=match pre.find? (λq=>decide (q.2.1=n)) with|some q=>some q|none=>if p.2.1=n then some p else none:=by
 rw[find?_append];cases pre.find? (λq=>decide (q.2.1=n)) with
 |some q=>rfl
 |none=>
  by_cases h:p.2.1=n
  .simp[h]
  .simp[h]
end DP
namespace My
open L2 DP MA
theorem KZ(T:TopD K mg "bar" FZ qW)(f:ay P w K mg base 10 "shares" rA (av mg 1 xA)):ay P w K mg base 11 "bar" qW (av mg 1 sZ):=by
 refine bT T Rz λN W hx l nd=>⟨_,(aI (dS 1 nd yi)
  (aI (gm fQ rfl (di (dL f N hx (aa (vr 0) ah))) (nZ rfl (gV (dG 2 nd) (gV (dG 3 nd) (gV (dG 4 nd) n9)))) (aF (cF (pA l (vr 3) (vr 1)) (aF (CD l (vr 1) (vr 3) (dW (aa (vr 2) (aa (vr 4) ah))) rfl)) (aF (cF (m8 l (dX l (dX l (vr 1) (vr 3)) aC) (vr 4)) (aF (aU (dW (aa (dX l (dX l (vr 1) (vr 3)) aC) (aa (vr 2) ah))))) cO)))))
  (aF (aU mK)))),λds A R h hl=>?_⟩
 obtain⟨m,rfl,O,hd,q⟩:=h;obtain⟨o,j⟩:∃t,t=ez [] (bR m "" 1):=⟨_,rfl⟩;rw[<-j] at q;refine⟨rfl,m,rfl,O,hd,λQ L G h1 l1=>?_⟩;have l1:A.length+1<=L:=by simpa using l1
 refine dY h1 ?_;have ln:=rL m "" 1;have nl:=qT hd;have hz:(1000:Nat)<=sizeLine:=δ
 have S:=G.get (aH (A:=A) (c:=C.dct []));refine gk (λrest τ A'=>∃(pre a:List (Str×Str×Rat)) (kvs:List (Key×D)) (x y z:Option D),rest=a.map vC/\τ=[some (enc m),some (.ref A.length),x,y,z]/\pre++a=bR m "" 1/\ez pre a=o/\A'[A.length]?=some (.dct kvs)/\kvs.length<=pre.length/\(∀n:Str,bw kvs (Sum.inr n)=(pre.find? λq=>decide (q.2.1=n)).map λp=>.tup [.str p.1,fq p.2.2])/\eZ A.length Q A'/\A.length+1<=A'.length) ?_ ?_ ?_ _ _ _ ⟨[],bR m "" 1,[],none,none,none,rfl,rfl,rfl,j.symm,S,aG _,λn=>rfl,eZ.refl,by have:=G.len;simpa using this⟩
 .rintro rest τ A' ⟨pre,a,kvs,x,y,z,_,_,_,_,_,_,_,b,_⟩
  exact b L _ ω h1
 .rintro v rest τ A' ⟨pre,a,kvs,x,y,z,e,rfl,H,d,r,U,I,b,s⟩ X M
  cases a with
  |nil=>cases e
  |cons p a=>
   cases e;obtain⟨k,n,sx⟩:=p;have g:=I n;have V:pre.length<=32:=by
    have:(pre++(k,n,sx)::a).length=(bR m "" 1).length:=by rw[H]
    simp at this;omega
   unfold ez at d;refine⟨rfl,oz r rfl ?_⟩;cases i:pre.find? (λq=>decide (q.2.1=n)) with
   |none=>
    rw[i] at g d;have g:bw kvs (Sum.inr n)=none:=g;rw[g];refine⟨show 2<=sizeLine by decide,E4 r rfl ω ?_⟩;refine M _ _ ⟨pre++[(k,n,sx)],a,_,_,_,_,rfl,rfl,by simpa using H,d,L_ r,?_,λn'=>?_,b.trans eZ.set,by simpa using s⟩
    .have:=QG kvs (Sum.inr n) (.tup [.str k,fq sx])
     simp;omega
    .rw[um,C1]
     by_cases B:n=n'
     .subst B
      rw[ao rfl,i];simp
     .rw[ak (λz=>B (Sum.inr.inj z)),I n']
      cases pre.find? (λq=>decide (q.2.1=n')) with
      |some q=>rfl
      |none=>simp[B]
   |some u=>
    rw[i] at g d;have g:bw kvs (Sum.inr n)=some (.tup [.str u.1,fq u.2.2]):=g;rw[g];refine kG r rfl g ?_;refine Eo ?_;by_cases J:u.2.2=sx
    .have d:(if u.2.2=sx then ez (pre++[(k,n,sx)]) a else some (u.1,k))=o:=d
     rw[ao J] at d;refine cN (λc=>absurd J c) (λ_=>?_);refine M _ _ ⟨pre++[(k,n,sx)],a,kvs,_,_,_,rfl,rfl,by simpa using H,d,r,by simp;omega,λn'=>?_,b,s⟩;rw[C1,I n'];cases E:pre.find? (λq=>decide (q.2.1=n')) with
     |some q=>rfl
     |none=>
      by_cases B:n=n'
      .subst B
       rw[i] at E;cases E
      .simp[B]
    .have d:(if u.2.2=sx then ez (pre++[(k,n,sx)]) a else some (u.1,k))=o:=d
     rw[ak J] at d;refine cN (λ_=>?_) (λc=>absurd c J);refine kG r rfl g ?_;refine⟨show 2<=sizeLine by decide,?_⟩;have F:=q A' (Gr.EA (Gr.push.trans G) (aG _) b);rw[<-d] at F;exact F
 .rintro τ A' ⟨pre,a,kvs,x,y,z,e,rfl,H,d,r,U,I,b,s⟩
  cases a with
  |cons p a=>cases e
  |nil=>
   have F:=q A' (Gr.EA (Gr.push.trans G) (aG _) b);rw[<-d] at F;exact F
theorem K3(T:TopD K mg "_law_cell_at" FH uJ)(a:mg "len"=none):ay P w K mg base 1 "_law_cell_at" uJ (av mg 2 AS):=by
 refine bT T Ro λi j hx d nd=>⟨_,(aI (cF (z4 (vr 1) (dI gR gj a h_ (aa (vr 0) ah))) (aF (aU (dX d (vr 0) (vr 1)))) cO)
  (aI (cF (gu d (vr 0) (c8 ah)) (aF (aU aC)) cO)
  (aF (aU (cZ (ie (dX d (vr 0) (nW (vr 1) (dI gR gj a h_ (aa (vr 0) ah)))) aC) (vr 1)))))),λds A R h hl=>?_⟩
 obtain⟨ns,k,rfl,g,q⟩:=h;refine cD (λc=>?_) (λc=>?_)
 .obtain⟨v,e,_⟩:=xH g c
  conv=>whnf
  rw[e];exact q v _ Gr.refl
 .refine⟨bV _,KH ?_⟩
  refine cD (λf=>?_) (λf=>?_)
  .exact q _ _ Gr.push
  .have b:0<(ns.length:Int):=by
    have:=rX.mpr f;omega
   obtain⟨v,e,_⟩:=xH (xs:=ns) (emod_nonneg k ω) (wc k b);refine⟨b,?_⟩;conv=>whnf
   rw[e];exact⟨.inr ⟨δ,δ⟩,q _ _ Gr.push⟩
theorem Lr(T:TopD K mg "_law_mixed" FN uL)(a:ay P w K mg base 1 "_law_cell_at" uJ (av mg 2 AS)):ay P w K mg base 2 "_law_mixed" uL (av mg 3 Bc):=by
 refine bT T Rt λc e hx f nd=>⟨_,(aI (dS 3 nd (nW (cZ (cZ (ie (dL a c hx (aa (vr 0) (aa (vr 1) ah))) aC) (ie aC (vr 1))) aC) aC))
  (aF (aU (nW (nW (nW (J3 (vr 3) aC) aC) aC) (vr 2))))),λds A R h hl=>?_⟩
 obtain⟨ns,k,m,rfl,d,b,q⟩:=h;refine⟨rfl,ns,k,rfl,d,λi A' g=>?_⟩;refine⟨.inr ⟨δ,δ⟩,.inl ⟨δ,δ⟩,(by decide:(0:Int)<2147483647),?_⟩;have j:=emod_nonneg (i*1103515245+7919*k+12345) (show(2147483647:Int)≠0 by decide);have l:=wc (i*1103515245+7919*k+12345) (show(0:Int)<2147483647 by decide);refine⟨⟨δ,δ,?_⟩,(by decide:(0:Int)<2147483647),(by decide:(0:Int)<999983),b,?_⟩
 .have:(2147483647:Nat)<2 ^ 64:=δ
  omega
 exact q _ _ (emod_nonneg _ ω) (wc _ b) g
theorem K9(T:TopD K mg "_law_draw" FI oV)(b:mg "len"=none)(a:ay P w K mg base 2 "_law_mixed" uL (av mg 3 Bc)):ay P w K mg base 3 "_law_draw" oV (av mg 3 qa):=by
 refine bT T Rp λe j hx k nd=>⟨_,(aI (fY (lz lY sD sI oO qu (vr 1) (aa aC ah)))
  (aF (aU (dL a e hx (aa (vr 0) (aa (dI gR gj b h_ (aa (vr 1) ah)) (aa (vr 2) ah))))))),λds A R h hl=>?_⟩
 obtain⟨ns,t,m,n,rfl,⟨xs,d,hz⟩,l,f,q⟩:=h;refine⟨lH d,qi d (by rw[sizeLine];omega) ?_⟩;have c:(A.set t (.lst (xs++[.int 0])))[t]?=some (.lst (xs++[.int 0])):=get_set d;refine qP c ⟨rfl,ns,_,m,rfl,ω,f,λi A' h0 h1 g=>?_⟩;exact q i A' h0 h1 (eZ.set.trans g.but) (Tw.gr ⟨_,c,by simpa using hz⟩ g)
theorem LA(T:TopD K mg "_law_pick" FQ qV)(c:mg "len"=none)(a:ay P w K mg base 3 "_law_draw" oV (av mg 3 qa)):ay P w K mg base 4 "_law_pick" qV (av mg 3 qb):=by
 refine bT T Rv λd m hx f nd=>⟨_,(aF (aU (dX f (vr 2) (dL a d hx (aa (vr 0) (aa (vr 1) (aa (dI gR gj c h_ (aa (vr 2) ah)) ah))))))),λds A R h hl=>?_⟩;obtain⟨ns,t,r,xs,n,rfl,e,d,hx,g,j,q⟩:=h;have o:=rX.mpr hx;refine qP d ⟨rfl,ns,t,_,n,rfl,g,j,ω,λi A' h0 h1 b t'=>?_⟩;obtain⟨v,k,l⟩:=xH h0 h1;exact oE (b r _ e d) k (q v A' l b t')
theorem Ls(T:TopD K mg "_law_mobile" FO uM)(a:ay P w K mg base 3 "_law_draw" oV (av mg 3 qa))(g:ay P w K mg base 4 "_law_pick" qV (av mg 3 qb)):∀d,ay P w K mg base (d+4) "_law_mobile" uM (av mg 4 (xq d)):=by
 intro d;induction d with
 |zero=>
  refine mO T λds A R RE h=>?_;obtain⟨ns,t,q,o,n,_,h,_⟩:=h;omega
 |succ d e=>
  refine iX T GK rfl δ λN RE f X B outer s H E m hR hx ds A R h hl=>?_;have Q:=m.units;have nd:=GK.nd;refine⟨_,(aI (cF (PW.pt (ig (gu Q (vr 3) aC) (jr (gu Q (dL a m hx (aa (vr 0) (aa (vr 1) (aa aC ah)))) aC)))) (aF (aU (dW (aa bX (aa (dL g m hx (aa (vr 0) (aa (vr 1) (aa (vr 2) ah)))) ah))))) cO)
  (aI (dS 4 nd (dL g m hx (aa (vr 0) (aa (vr 1) (aa (c8 (aa aC (aa aC (aa aC (aa aC ah))))) ah)))))
  (aI (Km (i:=5) (j:=6) rfl nd rfl rfl δ rfl rfl (aa (cZ aC (dL a m hx (aa (vr 0) (aa (vr 1) (aa (vr 4) ah))))) (aa (cZ aC (dL a m hx (aa (vr 0) (aa (vr 1) (aa (vr 4) ah))))) ah)) rfl)
  (aI (dS 7 nd (dL e m hx (aa (vr 0) (aa (vr 1) (aa (vr 2) (aa (t6 (vr 3) aC) ah))))))
  (aF (aU (dW (aa bX (aa (vr 5) (aa (vr 6) (aa (vr 7) (aa (dL e m hx (aa (vr 0) (aa (vr 1) (aa (vr 2) (aa (t6 (vr 3) aC) ah))))) ah)))))))))))),?_⟩
  obtain⟨ns,t,r,o,n,rfl,_,l,M,p,u,S,hc,q⟩:=h;have Y:=Jw d;have Z:=Jv (d+1);have F:((d+1:Nat):Int) - 1=(d:Int):=ω
  have leaf:∀C n1,eZ t A C->Tw t n1 C->n<=n1->n1+1<=n+cst (d+1)->qb [.fl ns,.ref t,.ref r] C (λx A'=>2<=sizeLine/\R (.tup [.str "weight",x]) A') RE:=λC n1 G t1 h0 h1=>by
   refine⟨ns,t,r,_,n1,rfl,l,G r _ l M,by simpa using p,t1,ω,λx A' hx b t'=>⟨δ,?_⟩⟩;obtain⟨y,hy,rfl⟩:=aN.mp hx;have one:∀z∈aZ.names (aZ.wt y),z=y:=λz hz=>by simpa[aZ.names] using hz
   exact q (.wt y) A' ⟨trivial,λz hz=>by rw[one z hz];exact u y hy⟩ (succ_pos _) (λz hz=>by rw[one z hz];exact hy) ⟨G.trans b,t'.mono ω⟩
  refine cD (λc=>⟨rfl,leaf A n eZ.refl S ω ω⟩) (λc=>?_);refine⟨rfl,ns,t,4,n,rfl,S,ω,δ,λi C _ _ G t1=>?_⟩;refine cD (λc2=>⟨rfl,leaf C (n+1) G t1 ω ω⟩) (λc2=>?_);obtain⟨Vf,O,_⟩:=id t1;have I:0<d:=ω
  have l1:=gH O;refine⟨show 4<=sizeLine by decide,rfl,ns,t,_,[.int 2,.int 3,.int 4,.int 9],n+1,rfl,ω,aH,θ,t1.gr Gr.push,ω,λx A2 hx b2 t2=>?_⟩;obtain⟨most,rfl,m0,m9⟩:∃k:Int,x=.int k/\2<=k/\k<=9:=by
   simp at hx;rcases hx with h|h|h|h<;>exact⟨_,h,ω,ω⟩
  refine⟨rfl,ns,t,most,n+2,rfl,t2,ω,ω,λi3 A3 i0 i1 b3 t3=>?_⟩;refine⟨rfl,ns,t,most,n+3,rfl,t3,ω,ω,λi4 A4 j0 j1 b4 t4=>?_⟩;have v:eZ t A A4:=(((G.trans (Gr.push.but)).trans b2).trans b3).trans b4;refine⟨rfl,ns,t,r,o,n+4,show [D.fl ns,D.ref t,D.ref r,D.int (((d+1:Nat):Int) - 1 - 1)]=_ by rw[F],I,l,v r _ l M,p,u,t4,ω,λJ A5 U d1 s1 r1=>?_⟩;refine⟨rfl,ns,t,r,o,n+4+cst d,show [D.fl ns,D.ref t,D.ref r,D.int (((d+1:Nat):Int) - 1 - 1)]=_ by rw[F],I,l,r1.but r _ l (v r _ l M),p,u,r1.tw,ω,λL A6 V d2 s2 W=>?_⟩;refine⟨show 5<=sizeLine by decide,q (.aQ (1+i3) (1+i4) J L) A6 ⟨⟨ω,ω,ω,ω,U.arms,V.arms⟩,λx hx=>?_⟩ (show max J.deep L.deep+1<d+1 by omega) (λx hx=>?_) ⟨(v.trans r1.but).trans W.but,W.tw.mono ω⟩⟩
  .rcases b_.mp (show x∈J.names++L.names from hx) with h|h
   .exact U.nm x h
   .exact V.nm x h
  .rcases b_.mp (show x∈J.names++L.names from hx) with h|h
   .exact s1 x h
   .exact s2 x h
theorem Lo(T:TopD K mg "_law_leaves" FJ qU):∀d,ay P w K mg base (d+1) "_law_leaves" qU (av mg 1 (xo d)):=by
 intro d;induction d with
 |zero=>
  refine mO T λds A R RE h=>?_;obtain⟨v,⟨m,_,h,_⟩,_⟩:=h;omega
 |succ d c=>
  refine iX T Rq rfl δ λN RE f j B outer s H E g p hx ds A R h hl=>?_;have e:=g.units;refine⟨_,(aF (aU (Ck (gu e (dX e (vr 0) aC) bX) (c8 (aa (dX e (vr 0) aC) ah)) (cZ (dL c g hx (aa (dX e (vr 0) aC) ah)) (dL c g hx (aa (dX e (vr 0) aC) ah)))))),?_⟩;obtain⟨v,⟨m,rfl,hd,t,rfl⟩,q⟩:=h;cases m with
  |wt n=>exact⟨show 1<=sizeLine by decide,q _ _ Gr.push aH⟩
  |aQ l r a b=>
   have k:max a.deep b.deep+1<d+1:=hd;refine⟨rfl,_,⟨a,rfl,ω,ω,rfl⟩,λu r1 o h1=>?_⟩;refine⟨rfl,_,⟨b,rfl,ω,ω,rfl⟩,λx y i h2=>?_⟩;have n1:=aZ.jR a;have n2:=aZ.jR b;have z:2 ^ a.deep<=2 ^ 8:=dR δ ω;have p2:2 ^ b.deep<=2 ^ 8:=dR δ ω;have hz:(512:Nat)<=sizeLine:=δ
   refine iQ (i.get h1) h2 (by rw[aS,aS];omega) (q _ _ ((o.trans i).trans Gr.push) ?_);rw[aH];simp[aZ.names]
theorem Lw(T:TopD K mg "_law_names" FP uN)(b:mg "sorted"=none)(c:mg "set"=none)(a:ay P w K mg base 9 "_law_leaves" qU (av mg 1 (xo 8))):ay P w K mg base 10 "_law_names" uN (av mg 1 xw):=by
 refine bT T Ru λe i hx j nd=>⟨_,(aF (aU (Cn b c rfl (aa (dL a e hx (aa (vr 0) ah)) ah)))),λds A R h hl=>?_⟩;obtain⟨m,rfl,hd,q⟩:=h;refine⟨rfl,_,⟨m,rfl,ω,ω,rfl⟩,λk r1 d h1=>?_⟩;have n1:=aZ.jR m;have l:2 ^ m.deep<=2 ^ 5:=dR δ hd;refine G8 (ss:=m.names) h1 (by have:=strs_map id m.names;simpa using this) ω λys f g=>?_;exact q _ _ ys (d.trans Gr.push) d.len aH f g
end My
namespace L2
theorem kg.OQ{P:Program}{w:World}{K:Frag}{mg:aB}{base:Heap}{x:Str}{st:Stmt}{N ps:List Str}{k:Nat}{sp:Sp}{f:Addr}{fd:FuncData}(F:kg K x x st f fd)(S:bh N ps (aK st))(len:∀vs H Q E,sp vs H Q E->vs.length=ps.length)
  (b:∀(f:Addr) (a:Value) (A:Around) (outer:List Env) (s:Shared) (H:Hp) (vs:List V) (Q:VK) (E:XK),dg k (A.deeper (envOfC x (aK st) s.heap.objs.size f a))->sp vs H Q E->
   ∃t,c6 (cS (bJ P w) P w K mg base N x (aK st) f a A outer s H E) (gU st) t/\t {nx:=λ_ H'=>Q .aE H',rt:=Q} (start N vs) H):fC P w K mg base (bJ P w) (k+1) f fd ps sp:=by
 obtain⟨h,i,kV,doc,pm,an,a,ct,e,rfl,lk,c⟩:=F.ex;exact C5 lk c S len λA outer s H vs Q E g d=>b f a A outer s H vs Q E g d
end L2
namespace DP
open L2 MA
theorem LS{P:Program}{w:World}{K:Frag}{mg:aB}{base:Heap}{x:Str}{st:Stmt}{Nm ps:List Str}{k n:Nat}{S:Ct}{u:Addr}{fd:FuncData}(T:kg K x x st u fd)(Sc:bh Nm ps (aK st))(F:ps.length=n)(X:ps.length<=Nm.length)
  (j:∀(N:En) (RE:DX) (f:Addr) (g:Value) (B:Around) (outer:List Env) (s:Shared) (H:Hp) (E:XK),dg k (cS (bJ P w) P w K mg base Nm x (aK st) f g B outer s H E).A->
   Raises (cS (bJ P w) P w K mg base Nm x (aK st) f g B outer s H E) (EL mg N RE)->Passes (bJ P w) (cS (bJ P w) P w K mg base Nm x (aK st) f g B outer s H E) (EL mg N RE)->
   ∀ds A R,S ds A R RE->ds.length=n->∃m,c6 (cS (bJ P w) P w K mg base Nm x (aK st) f g B outer s H E) (gU st) (cJ mg N m)/\m {nx:=λ_ A'=>R .aE A',rt:=R} (kN (Nm.length - n) ds) A):fC P w K mg base (bJ P w) (k+1) u fd ps (av mg n S):=by
 refine T.OQ Sc (λvs H Q E h=> ?_) λf g A outer s H vs Q E G h=> ?_
 .obtain⟨A,ι,ds,R,RE,hl,_,o,_⟩:=h
  rw[<-aj.length o,hl,F]
 .obtain⟨p,l,ds,R,RE,hl,ra,o,J,y,L⟩:=h
  have D:∀C a H',EL mg ⟨p,l,H⟩ RE C a H'->E C none H':=λC a H' z=>by
   obtain⟨c,A',ι',⟨b,rfl,hc⟩,ex,r,q⟩:=z
   exact L c A' ι' H' b q hc ex r
  obtain⟨m,M,O⟩:=j ⟨p,l,H⟩ RE f g A outer s H E G
   (λpins σ H1 t e h' C args I U z=>Fp pins σ H1 t e h' C args I U (D _ _ _ z))
   (λpins σ H1 t e s' I z=>EJ pins σ H1 t e s' I (by
    obtain⟨a,C,H',h1,h2,V⟩:=z
    exact⟨a,C,H',h1,h2,D _ _ _ V⟩)) ds p R J hl
  have W:=aj.length o
  refine⟨_,M,p,l,_,_,⟨ra,⟨?_,λi d q=> ?_⟩,ra.refl⟩,O,⟨λτ A' ι' σ H' q e r _=>y _ A' ι' H' _ q e r rfl,y,λ_ _ _ _ _ q _ _ _=>q.elim,λ_ _ _ _ _ q _ _ _=>q.elim⟩⟩
  .simp[kN,L2.start]
   omega
  .obtain⟨v,h1,h2⟩:=aj.get o (y9 ds _ i d q)
   refine⟨v,?_,h2⟩
   have hi:=(bW.mp h1).1
   unfold L2.start
   rw[gB (by simpa using hi),bO,h1]
   rfl
def A_:Ct:=λds A R _=>∃ns,ds=[.fl ns]/\∀A',R (.bl true) A'
noncomputable def o_:Sp:=λvs H Q _=>∃(a:Addr) (o:Obj) (ns:List Int),vs=[.ref a]/\H a=some (.bM o (.lst (ns.map V.int)))/\∀H',Q (.bl true) H'
theorem SI{mg:aB}{vs:List V}{H:Hp}{Q:VK}{E:XK}(h:o_ vs H Q E):av mg 1 A_ vs H Q E:=by
 obtain⟨a,o,ns,rfl,h,q⟩:=h;refine⟨[],λ_=>a,[.fl ns],λv _=>v=.bl true,λ_ _=>False,rfl,⟨λr c h=>by simp at h,λr s b=>by simp at b⟩,⟨_,[],rfl,⟨a,o,rfl,h⟩,rfl⟩,⟨ns,rfl,λ_=>rfl⟩,λv A' ι' H' u e _ _ r=>?_,λ_ _ _ _ _ z=>z.elim⟩;subst e;cases r;exact q _
noncomputable def mX(o:Obj):Bool:=match o.cls with
 |.type t=> !(decide (t="list"))
 |_=>true
theorem OD{K:Frag}(h:K.all (λp=>mX p.2)=true){a:Addr}{o:Obj}(e:K.lookup a=some o):mX o=true:=by
 induction K with
 |nil=>cases e
 |cons p r b=>
  have h':mX p.2=true/\List.all r (λp=>mX p.2)=true:=by simpa using h
  rw[List.lookup] at e;split at e
  .cases e
   exact h'.1
  .exact b h'.2 e
theorem LX{K:Frag}(b:K.all (λp=>mX p.2)=true){H:Hp}{a:Addr}{ns:List Int}(d:sW H)(f:aY K H a (ns.map V.int)):o_ [.ref a] H (λv _=>v=.bl true) λ_ _ _=>False:=by
 rcases f with (e|⟨o,e⟩)|⟨o,its,n,e,c,_⟩
 .rcases d a with z|⟨o,xs,z⟩
  .rw[z] at e;cases e
  .rw[z] at e;cases e
 .exact⟨a,o,ns,rfl,e,λ_=>rfl⟩
 .have:=OD b e
  unfold mX at this;rw[c] at this;simp at this
theorem pw_len:∀(ys ss:List Str),ys.Pairwise strLt->(∀x∈ys,x∈ss)->ys.length<=ss.length
 |[],_,_,_=>bV _
 |y::r,ss,b,a=>by
  have p:=g_.mp b;have hy:=a y (br ..);have:=pw_len r (ss.erase y) p.2 λx hx=>(List.mem_erase_of_ne (rQ (p.1 x hx)).symm).mpr (a x (bq _ hx));rw[List.length_erase_of_mem hy] at this;have:=wF hy;simp;omega
theorem zA:∀m:M,f7 (enc m)=true
 |.wt n=>by simp[enc,f7,fk]
 |.aQ l r a b=>by simp[enc,f7,fk,zA a,zA b]
theorem Q4:canLay0 (.str "rod")=true:=η
theorem UA:canLay0 (.str "weight")=true:=η
theorem yU:∀m:M,(∀n∈m.names,Nm n)->(toQ (enc m)).canLay0=true
 |.wt n,h=>by
  have h1:=(h n (by simp[aZ.names])).ok;have h2:=UA;simp only[enc,toQ,bS];simp only[canLay0,canLayAll0] at h1 h2 ⊢;simp[h1,h2]
 |.aQ l r a b,h=>by
  have h1:=yU a λn c=>h n (by simp[aZ.names,c]);have h2:=yU b λn c=>h n (by simp[aZ.names,c]);have d:=Q4;simp only[enc,toQ,bS];simp only[canLay0] at d;simp[canLay0,canLayAll0,h1,h2,d]
def Ba:Ct:=λds A R _=>∃r xs,ds=[.ref r]/\A[r]?=some (.lst (xs.map fq))/\xs.length<=32/\(∀x∈xs,nM x)/\xs≠[]/\∀A' q,Gr A A'->A'[q]?=some (.lst ((lw xs).map D.int))->A.length<=q->R (.ref q) A'
structure Fb(kvs:List (Key×D))(ns:List Str)(s:Str->Rat):Prop where
 keys:kvs.map (·.1)=ns.map Sum.inr
 nd:ns.Nodup
 get:∀n∈ns,bw kvs (Sum.inr n)=some (fq (s n))
def Bb:Ct:=λds A R _=>∃(r:Nat) (kvs:List (Key×D)) (ns:List Str) (s:Str->Rat),ds=[.ref r]/\A[r]?=some (.dct kvs)/\Fb kvs ns s/\ns.length<=32/\ns≠[]/\(∀n∈ns,nM (s n))/\∀(A':Ar) (ys:List Str),Gr A A'->ys.Pairwise strLt->(∀x,x∈ys↔x∈ns)->R (kD (ys.zip (lw (ys.map s)))) A'
theorem C8:∀(ps:List (Str×D)) (acc:List (Key×D)) (ns:List Str),acc.map (·.1)=ns.map Sum.inr->ns.Nodup->
  ∃d:List Str,((ps.map λp=>((Sum.inr p.1:Key),p.2)).foldl (λacc p=>cj acc p.1 p.2) acc).map (·.1)=d.map Sum.inr/\d.Nodup/\(∀n,n∈d↔n∈ns\/n∈ps.map (·.1))
 |[],acc,ns,h1,h2=>⟨ns,h1,h2,λn=>θ⟩
 |p::ps,acc,ns,h1,h2=>by
  have key:∃f:List Str,(cj acc (Sum.inr p.1) p.2).map (·.1)=f.map Sum.inr/\f.Nodup/\∀n,n∈f↔n∈ns\/n=p.1:=by
   by_cases j:(acc.any λc=>decide (c.1=(Sum.inr p.1:Key)))=true
   .have e:cj acc (Sum.inr p.1) p.2=acc.map λc=>if c.1=(Sum.inr p.1:Key) then (c.1,p.2) else c:=by
     unfold cj;rw[ao j]
    refine⟨ns,?_,h2,λn=>?_⟩
    .rw[e,bY,<-h1]
     refine ng λc _=>?_;show(if c.1=(Sum.inr p.1:Key) then (c.1,p.2) else c).1=c.1;split<;>rfl
    .have g:p.1∈ns:=by
      obtain⟨c,i,m⟩:=nE.mp j;have:c.1∈acc.map (·.1):=c9 i;rw[h1,fS m] at this;obtain⟨x,hx,e⟩:=aN.mp this;rw[<-Sum.inr.inj e];exact hx
     constructor
     .exact .inl
     .rintro (h|rfl)
      .exact h
      .exact g
   .have e:cj acc (Sum.inr p.1) p.2=acc++[(Sum.inr p.1,p.2)]:=by
     unfold cj;rw[ak j]
    have k:p.1∉ns:=λg=>j (by
     have:(Sum.inr p.1:Key)∈acc.map (·.1):=by rw[h1];exact c9 g
     obtain⟨c,i,e⟩:=aN.mp this;exact nE.mpr ⟨c,i,cW e⟩)
    refine⟨ns++[p.1],by rw[e];simp[h1],?_,λn=>θ⟩;rw[nh];refine⟨h2,θ,λa l b o=>?_⟩;rw[bH.mp o];exact λz=>k (by rw[<-z];exact l)
  obtain⟨f,k1,k2,k3⟩:=key;obtain⟨d,r1,q,r⟩:=C8 ps _ f k1 k2;refine⟨d,r1,q,λn=>?_⟩;rw[r,k3];simp[or_assoc]
noncomputable def zl(p:Str×Str×Rat):D:=.tup [.str p.2.1,fq p.2.2]
theorem EG:∀a:List (Str×Str×Rat),eK (a.map zl)=some ((a.map λp=>(p.2.1,fq p.2.2)).map λp=>((Sum.inr p.1:Key),p.2))
 |[]=>rfl
 |r::a=>by
  have:=EG a;simp only[ck,zl,eK,fO,this]
theorem Cj{A:Ar}{r:Nat}{xs:List D}{ps:List (Key×D)}{R:DK}(h:A[r]?=some (.lst xs))(a:eK xs=some ps)(hl:ps.length<=1000)(k:R (.ref A.length) (A++[.dct (o5 ps)])):tW r A R:=by
 unfold tW;simp only[h];unfold dctP;rw[a];exact⟨hl,k⟩
theorem Ad{rs:List (Str×Int)}(b:(rs.map (·.1)).Nodup){r:Str×Int}(h:r∈rs):val rs r.1=r.2:=by
 unfold val;induction rs with
 |nil=>cases h
 |cons p rs c=>
  have a:=kT.mp (show(p.1::rs.map (·.1)).Nodup from b);rcases bz.mp h with rfl|h
  .simp
  .have:¬p.1=r.1:=λz=>a.1 (by rw[z];exact c9 h)
   rw[List.find?_cons_of_neg (by simpa using this)];exact c a.2 h
end DP
namespace My
open L2 DP MA
theorem Lp(T:TopD K mg "least_whole" Gn u_)(k:ay P w K mg base 1 "greatest_divisor" q7 (av mg 2 xh)):ay P w K mg base 2 "least_whole" u_ (av mg 1 Ba):=by
 refine bT T R3 λO hR hx F nd=>⟨_,(aI (dS 1 nd aC)
  (aI (gm fQ rfl (di (vr 0)) (dG 2 nd) (aF (dS 1 nd (qx (ie (vr 1) (dX F (vr 2) aC)) (dL k O hx (aa (vr 1) (aa (dX F (vr 2) aC) ah)))))))
  (aI (yr none (own:=["fraction"]) (frees:=["bottom"]) (ix:=[1]) (i:=3) nd rfl (by first|exact Or.inl rfl|exact Or.inr rfl) rfl (di (vr 0)) (λc=>(pG 0 (show(["fraction","bottom"]:List Str).Nodup by decide+kernel))) (λc=>(ie (dX F (vr 0) aC) (qx (vr 1) (dX F (vr 0) aC)))))
  (aI (dS 4 nd aC)
  (aI (gm fQ rfl (di (vr 3)) (dG 5 nd) (aF (dS 4 nd (dL k O hx (aa (vr 4) (aa (vr 5) ah))))))
  (aF (aU (gF none (own:=["number"]) (frees:=["divisor"]) (ix:=[4]) rfl (di (vr 3)) (λc=>(pG 0 (show(["number","divisor"]:List Str).Nodup by decide+kernel))) (λc=>(qx (vr 0) (vr 1))))))))))),λds A R h hl=>?_⟩
 obtain⟨r,xs,rfl,H,l,hok,I,q⟩:=h;have hz:(1000:Nat)<=sizeLine:=δ
 have IY:(1152921504606846976:Int)<2 ^ 64:=δ
 obtain⟨b0,_,b3⟩:=mG xs 1 δ;refine dY H ?_;refine gk (λrest τ A'=>∃(pre j:List Rat) (x:Option D),rest=j.map fq/\τ=[some (.ref r),some (.int (bot pre 1)),x,none,none,none]/\pre++j=xs/\Gr A A') ?_ ?_ ?_ _ _ _ ⟨[],xs,none,rfl,rfl,rfl,Gr.refl⟩
 .rintro rest τ A' ⟨pre,j,x,_,_,_,g⟩
  exact g.get H
 .rintro v rest τ A' ⟨pre,j,x,e,rfl,o,g⟩ Nx J
  cases j with
  |nil=>cases e
  |cons y j=>
   cases e;have t:=hok y (by rw[<-o];simp);have G:=dj y;have S:=t.den;obtain⟨U,_,_⟩:=mG pre 1 δ;have V:0<(Int.gcd (bot pre 1) (rf y).2:Int):=by
    have:=Int.gcd_pos_of_ne_zero_right (bot pre 1) (show(rf y).2≠0 by omega);omega
   have L:(Int.gcd (bot pre 1) (rf y).2:Int)<=(rf y).2:=le_of_dvd G (Int.gcd_dvd_right _ _);refine⟨.inr ⟨ω,ω⟩,rfl,_,⟨_,_,rfl,ω,ω,rfl⟩,λs h1=>⟨⟨V,y_ V (G1 ω)⟩,?_⟩⟩;refine J _ _ ⟨pre++[y],j,some (fq y),rfl,?_,by simpa using o,g.trans h1⟩;rw[BJ];rfl
 rintro τ s ⟨pre,j,x,e,rfl,o,L⟩;cases j with
 |cons p j=>cases e
 |nil=>
 have o:pre=xs:=by simpa using o
 subst o;have u:=L.get H;refine dY u ?_;refine iS (f:=λd=>match d with|.tup [.int a,.int b]=>.int (a*(bot pre 1/b))|d=>d) u _ _ (λd hd=>?_) (by simp;omega) ?_
 .obtain⟨y,hy,rfl⟩:=aN.mp hd
  have t:=hok y hy;have x1:=dQ t.pos;have G:=dj y;have S:=t.den;have x4:=t.num;exact⟨[fq y],rfl,λQ M=>⟨⟨G,y_ G (G1 S)⟩,.inl ⟨ω,ω⟩,M⟩⟩
 have eu:(pre.map fq).map (λd=>match d with|.tup [.int a,.int b]=>D.int (a*(bot pre 1/b))|d=>d)=(ups pre).map D.int:=by
  unfold ups;rw[bY,bY];rfl
 rw[fL,eu];have z:(ups pre).length=pre.length:=by simp[ups]
 have N:=aH (A:=s) (c:=C.lst ((ups pre).map D.int));have g2:Gr s (s++[C.lst ((ups pre).map D.int)]):=Gr.push;generalize UT:s++[C.lst ((ups pre).map D.int)]=A2 at*
 refine dY N ?_;refine gk (λrest τ A'=>∃(m j:List Int) (y:Option D),rest=j.map D.int/\τ=[some (.ref r),some (.int (bot pre 1)),x,some (.ref s.length),some (.int (dP m 0)),y]/\m++j=ups pre/\Gr A2 A') ?_ ?_ ?_ _ _ _ ⟨[],ups pre,none,rfl,rfl,rfl,Gr.refl⟩
 .rintro rest τ A' ⟨m,j,y,_,_,_,g⟩
  exact g.get N
 .rintro v rest τ A' ⟨m,j,y,e,rfl,hd,g⟩ Nx J
  cases j with
  |nil=>cases e
  |cons n j=>
   cases e;obtain⟨W,_⟩:=HH hok l (show n∈ups pre by rw[<-hd];simp);obtain⟨U,_⟩:=qE m 0 (gO 0);refine⟨rfl,_,⟨_,_,rfl,U,ω,rfl⟩,λX h3=>?_⟩;refine J _ _ ⟨m++[n],j,some (.int n),rfl,?_,by simpa using hd,g.trans h3⟩;rw[Di];rfl
 rintro τ X ⟨m,j,y,e,rfl,hd,Y⟩;cases j with
 |cons p j=>cases e
 |nil=>
 have hd:m=ups pre:=by simpa using hd
 subst hd;obtain⟨n0,B⟩:∃n,n∈ups pre:=by
  cases e:ups pre with
  |nil=>
   rw[e] at z;exact absurd (List.length_eq_zero_iff.mp z.symm) I
  |cons n r=>exact⟨n,θ⟩
 obtain⟨W,u1⟩:=HH hok l B;obtain⟨Z,d1⟩:=ug (gO 0) B W;have E:=Y.get N;refine dY E ?_;refine iS (f:=λd=>match d with|.int n=>.int (n/dP (ups pre) 0)|d=>d) E _ _ (λd hd=>?_) (by simp;omega) ?_
 .obtain⟨n,hn,rfl⟩:=aN.mp hd
  exact⟨[.int n],rfl,λQ M=>⟨⟨Z,y_ Z (dN d1 u1)⟩,M⟩⟩
 have el:((ups pre).map D.int).map (λd=>match d with|.int n=>D.int (n/dP (ups pre) 0)|d=>d)=(lw pre).map D.int:=by
  unfold lw;rw[bY,bY];rfl
 rw[fL,el];have gg:Gr A X:=(L.trans g2).trans Y;exact q _ _ (gg.trans Gr.push) aH gg.len
theorem Lq(T:TopD K mg "least_weights" Gm u9)(b:mg "sorted"=none)(g:mg "tuple"=none)(i:mg "zip"=none)(a:ay P w K mg base 2 "least_whole" u_ (av mg 1 Ba)):ay P w K mg base 3 "least_weights" u9 (av mg 1 Bb):=by
 refine bT T R1 λC I hx E nd=>⟨_,(aI (dS 1 nd (dI (BL rfl) Ce b boot_sorted (aa (vr 0) ah)))
  (aF (aU (J4 g i rfl (aa (vr 1) (aa (dL a C hx (aa (gF none (own:=["name"]) (frees:=["fractions"]) (ix:=[0]) rfl (di (vr 1)) (λc=>(pG 0 (show(["name","fractions"]:List Str).Nodup by decide+kernel))) (λc=>(dX E (vr 1) (vr 0)))) ah)) ah)))))),λds A R h hl=>?_⟩
 obtain⟨r,kvs,ns,j,rfl,u,m,v,o,hok,q⟩:=h;have hz:(1000:Nat)<=sizeLine:=δ
 refine GV u m.keys m.nd ω λys y k=>?_;have J:=pw_len ys ns y λx hx=>(k x).mp hx;refine dY aH ?_;refine iS (f:=λd=>match d with|.str n=>fq (j n)|d=>d) aH _ _ (λd hd=>?_) (by simp;omega) ?_
 .obtain⟨n,s,rfl⟩:=aN.mp hd
  exact⟨[.str n],rfl,λQ F=>kG (getElem?_push u) rfl (m.get n ((k n).mp s)) F⟩
 have e:(ys.map D.str).map (λd=>match d with|.str n=>fq (j n)|d=>d)=(ys.map j).map fq:=by
  rw[bY,bY];rfl
 rw[fL,e];have l:ys≠[]:=λz=>by
  cases e:ns with
  |nil=>exact o e
  |cons n t=>
   have:=(k n).mpr (by rw[e];simp);rw[z] at this;cases this
 refine⟨rfl,_,ys.map j,rfl,aH,by simp;omega,λx hx=>?_,by simpa using l,λL M B G _=>?_⟩
 .obtain⟨n,s,rfl⟩:=aN.mp hx
  exact hok n ((k n).mp s)
 refine Ut (B.get (getElem?_push aH)) G ?_;have H:(((ys.map D.str).zip ((lw (ys.map j)).map D.int)).map λp=>D.tup [p.1,p.2])=(ys.zip (lw (ys.map j))).map cT:=by
  rw[List.zip_map,bY];rfl
 rw[H];exact q _ ys (((Gr.push.trans Gr.push)).trans B) y k
end My
namespace DP
open L2 MA
abbrev Tb:=List (Str×Rat)
abbrev bu:=Nat×Str×Str
abbrev aP:=List (Str×List bu)
noncomputable def b9(s:bu):D:=.tup [.int ((s.1:Nat):Int),.str s.2.1,.str s.2.2]
noncomputable def aA(T:Tb):List Str:=T.map (·.1)
noncomputable def bE(T:Tb):List (Key×D):=T.map λp=>((Sum.inr p.1:Key),fq p.2)
noncomputable def cU(T:Tb)(n:Str):Rat:=match T.find? (λp=>decide (p.1=n)) with
 |some p=>p.2
 |none=>0
noncomputable def gq(n:Str)(p:Tb×Nat):List bu:=if n∈aA p.1 then (aA p.1).map (λo=>(p.2,n,o)) else []
noncomputable def dM(Ts:List Tb)(n:Str):List bu:=Ts.zipIdx.flatMap (gq n)
noncomputable def cy(P:aP)(n:Str):List bu:=match P.find? (λp=>decide (p.1=n)) with
 |some p=>p.2
 |none=>[]
noncomputable def au(P:aP):List Str:=P.map (·.1)
noncomputable def b8(P:aP)(s:bu):aP:=if s.2.2∈au P then P else P++[(s.2.2,cy P s.2.1++[s])]
noncomputable def dD(Ts:List Tb):Nat->Nat->aP->aP
 |0,_,P=>P
 |f+1,i,P=>match P[i]? with
  |some p=>dD Ts f (i+1) ((dM Ts p.1).foldl b8 P)
  |none=>P
noncomputable def aO(Ts:List Tb)(n:Str):aP:=dD Ts 14 0 [(n,[])]
structure jl(T:Tb):Prop where
 nd:(aA T).Nodup
 ne:T≠[]
 len:T.length<=32
 LU:∀p∈T,wM p.2
structure cY(Ts:List Tb)(NN:List Str):Prop where
 len:Ts.length<=7
 tok:∀T∈Ts,jl T
 nn:NN.length<=12
 sub:∀T∈Ts,∀n∈aA T,n∈NN
theorem yG:∀(T:Tb) (n:Str),bw (bE T) (Sum.inr n)=(T.find? (λp=>decide (p.1=n))).map (λp=>fq p.2)
 |[],n=>rfl
 |p::T,n=>by
  show(if (Sum.inr p.1:Key)=Sum.inr n then some (fq p.2) else bw (bE T) (Sum.inr n))=_;by_cases h:p.1=n
  .rw[ao (by rw[h]),List.find?_cons_of_pos (by simpa using h)]
   rfl
  .rw[ak (λz=>h (Sum.inr.inj z)),List.find?_cons_of_neg (by simpa using h)]
   exact yG T n
theorem find_some{β:Type}{T:List (Str×β)}{n:Str}:(T.find? (λp=>decide (p.1=n))).isSome=decide (n∈T.map (·.1)):=by
 rw[jY,List.find?_isSome,kZ];constructor
 .rintro ⟨p,a,h⟩
  rw[<-fS h];exact c9 a
 .intro h
  obtain⟨p,a,e⟩:=aN.mp h;exact⟨p,a,cW e⟩
theorem L8(T:Tb)(n:Str):(bw (bE T) (Sum.inr n)).isSome=decide (n∈aA T):=by
 rw[yG,isSome_map];exact find_some
theorem Dk{T:Tb}{n:Str}(h:n∈aA T):bw (bE T) (Sum.inr n)=some (fq (cU T n)):=by
 have:=find_some (T:=T) (n:=n);rw[cW (show n∈T.map (·.1) from h)] at this;obtain⟨p,a⟩:=pF.mp this;rw[yG,a];unfold cU;rw[a];rfl
theorem NH(T:Tb):(bE T).map (·.1)=(aA T).map Sum.inr:=by
 unfold bE aA;rw[bY,bY];rfl
theorem yT(T:Tb):((bE T).map λp=>keyOf p.1)=(aA T).map D.str:=by
 unfold bE aA;rw[bY,bY];rfl
theorem kM{T:Tb}(h:jl T){n:Str}(b:n∈aA T):wM (cU T n):=by
 have:=find_some (T:=T) (n:=n);rw[cW (show n∈T.map (·.1) from b)] at this;obtain⟨p,a⟩:=pF.mp this;unfold cU;rw[a];exact h.LU p (pL a)
theorem qg(P:aP)(s:bu):∀n,n∈au (b8 P s)↔n∈au P\/n=s.2.2:=λn=>by
 unfold b8;split
 .rename_i h
  constructor
  .exact .inl
  .rintro (h'|rfl)
   .exact h'
   .exact h
 .simp[au]
theorem IM{P:aP}(s:bu)(h:(au P).Nodup):(au (b8 P s)).Nodup:=by
 unfold b8;split
 .exact h
 .rename_i d
  unfold au;rw[eV,nh];refine⟨h,θ,λa e b c=>?_⟩;simp at c;rw[c];exact λz=>d (by rw[<-z];exact e)
theorem iA:∀(xs ys:List Str),xs.Nodup->(∀x∈xs,x∈ys)->xs.length<=ys.length:=by
 intro xs;induction xs with
 |nil=>intro ys _ _;exact bV _
 |cons x r c=>
  intro ys d b;have a:=kT.mp d;have hx:=b x (br ..);have:=c (ys.erase x) a.2 λy hy=>(List.mem_erase_of_ne (λz=>a.1 (by rw[<-z];exact hy))).mpr (b y (bq _ hy));rw[List.length_erase_of_mem hx] at this;have:=wF hx;simp;omega
theorem mW{Ts:List Tb}{n:Str}{s:bu}:s∈dM Ts n↔∃T,Ts[s.1]?=some T/\n∈aA T/\s.2.1=n/\s.2.2∈aA T:=by
 unfold dM;rw[gy];constructor
 .rintro ⟨⟨T,i⟩,b,a⟩
  have b:=pM.mp b;unfold gq at a;split at a
  .rename_i c
   obtain⟨o,d,rfl⟩:=aN.mp a;exact⟨T,b,c,rfl,d⟩
  .cases a
 .rintro ⟨T,f,c,e,d⟩
  refine⟨(T,s.1),pM.mpr f,?_⟩;unfold gq;rw[ao c];exact aN.mpr ⟨s.2.2,d,by rw[<-e]⟩
theorem yD:∀(ss:List bu) (P:aP) (n:Str),n∈au (ss.foldl b8 P)↔n∈au P\/n∈ss.map (·.2.2)
 |[],P,n=>by simp
 |s::ss,P,n=>by
  rw[gA,yD ss,qg];simp[or_assoc]
theorem IP(P:aP)(s:bu):∃X,b8 P s=P++X:=by
 unfold b8;split
 .exact⟨[],θ⟩
 .exact⟨_,rfl⟩
theorem uf:∀(ss:List bu) (P:aP),∃X,ss.foldl b8 P=P++X
 |[],P=>⟨[],θ⟩
 |s::ss,P=>by
  obtain⟨X,e⟩:=IP P s;obtain⟨Y,a⟩:=uf ss (b8 P s);exact⟨X++Y,by rw[gA,a,e,List.append_assoc]⟩
def TabAt(A:Ar)(t:Nat)(T:Tb):Prop:=A[t]?=some (.dct (bE T))\/∃o,A[t]?=some (.bB o (bE T))
noncomputable def TabsAt(A:Ar):List Nat->List Tb->Prop
 |[],[]=>True
 |t::ts,T::Ts=>TabAt A t T/\TabsAt A ts Ts
 |_,_=>False
def gQ(A:Ar)(r:Nat)(Ts:List Tb):Prop:=∃ts,A[r]?=some (.lst (ts.map D.ref))/\TabsAt A ts Ts
theorem TabAt.gr{A B:Ar}{t:Nat}{T:Tb}(h:TabAt A t T)(g:Gr A B):TabAt B t T:=by
 rcases h with h|⟨o,h⟩
 .exact .inl (g.get h)
 .exact .inr ⟨o,g.get h⟩
theorem TabsAt.gr{A B:Ar}(g:Gr A B):∀{a:List Nat} {Ts:List Tb},TabsAt A a Ts->TabsAt B a Ts
 |[],[],_=>trivial
 |t::a,T::Ts,h=>⟨h.1.gr g,TabsAt.gr g h.2⟩
 |[],_::_,h=>h.elim
 |_::_,[],h=>h.elim
theorem TabsAt.len{A:Ar}:∀{a:List Nat} {Ts:List Tb},TabsAt A a Ts->a.length=Ts.length
 |[],[],_=>rfl
 |t::a,T::Ts,h=>by simp[TabsAt.len h.2]
 |[],_::_,h=>h.elim
 |_::_,[],h=>h.elim
theorem TabsAt.get{A:Ar}:∀{a:List Nat} {Ts:List Tb} {i t:Nat},TabsAt A a Ts->a[i]?=some t->∃T,Ts[i]?=some T/\TabAt A t T
 |[],[],i,t,_,e=>by simp at e
 |t::a,T::Ts,0,_,h,e=>by
  simp at e;subst e;exact⟨T,rfl,h.1⟩
 |t::a,T::Ts,i+1,_,h,e=>by
  obtain⟨b,h1,h2⟩:=TabsAt.get (i:=i) h.2 (by simpa using e);exact⟨b,by simpa using h1,h2⟩
 |[],_::_,_,_,h,_=>h.elim
 |_::_,[],_,_,h,_=>h.elim
theorem gQ.gr{A B:Ar}{r:Nat}{Ts:List Tb}(h:gQ A r Ts)(g:Gr A B):gQ B r Ts:=by
 obtain⟨a,h1,h2⟩:=h;exact⟨a,g.get h1,h2.gr g⟩
theorem C9{τ:bK}{A:Ar}{j t:Nat}{ix:List Nat}{te:aM}{R:DK}{T:Tb}(f:D->D)(g:lk τ j=some (.ref t))(l:TabAt A t T)(hl:T.length<=1000)
  (b:∀A':Ar,∀o∈aA T,∀Q:DK,Q (f (.str o)) A'->te ([some (.str o)]++ix.map (lk τ)) A' Q)(k:R (.ref A.length) (A++[.lst ((aA T).map λo=>f (.str o))])):x_ (fX none ix (lE (bf j)) jw te) τ A R:=by
 have hz:(1000:Nat)<=sizeLine:=δ
 have c:(aA T).length=T.length:=by simp[aA]
 have em:((bE T).map λp=>keyOf p.1)=(aA T).map D.str:=yT T;have go:∀(A':Ar) (o:Obj) (d:DK),A'[t]?=some (.bB o (bE T))->d (.ref A'.length) (A'++[.lst ((aA T).map λo=>f (.str o))])->fX none ix (lE (bf j)) jw te τ A' d:=λA' o d h' m=>by
  unfold fX lE bf;rw[g];refine uw h' ?_;rw[em];refine iS (f:=f) h' _ _ (λx hx=>?_) (by simp[c];omega) ?_
  .obtain⟨n,q,rfl⟩:=aN.mp hx
   exact⟨[.str n],rfl,λQ r=>b A' n q Q r⟩
  .rw[fL,bY]
   exact m
 rcases l with h|⟨o,h⟩
 .have a:=gH h
  refine .inl ⟨t,bE T,h,λo=>go _ o _ (fB a) ⟨bE T,?_,?_⟩⟩
  .rw[gB (by simpa using a)]
   exact fB a
  .have e:(A.set t (.bB o (bE T))++[C.lst ((aA T).map λo=>f (.str o))]).set t (.dct (bE T))=A++[.lst ((aA T).map λo=>f (.str o))]:=by
    rw[sj _ _ (by simpa using a),set_set];congr 1;refine nG λi=>?_;by_cases hi:i=t
    .rw[hi,fB a,h]
    .rw[gP (Ne.symm hi)]
   rw[e];have s:(A.set t (C.bB o (bE T))).length=A.length:=θ
   rw[s];exact k
 .exact .inr (go A o R h k)
def Bm:Ct:=λds A R _=>∃r n Ts,ds=[.ref r,.str n]/\gQ A r Ts/\Ts.length<=7/\(∀T∈Ts,T.length<=32)/\∀A' q,Gr A A'->A'[q]?=some (.lst ((dM Ts n).map b9))->A.length<=q->R (.ref q) A'
theorem oi(ds:List D):(gW ds).length=ds.length:=by simp[gW]
theorem CQ{ds:List D}{i:Nat}{x:D}(h:ds[i]?=some x):(gW ds)[i]?=some (.tup [.int ((i:Nat):Int),x]):=by
 unfold gW;rw[bO,Ao,h];simp
theorem HQ{Ts:List Tb}{i:Nat}{T:Tb}(h:Ts[i]?=some T):Ts.zipIdx.take (i+1)=Ts.zipIdx.take i++[(T,i)]:=by
 rw[take_succ,Ao,h];simp
theorem SX(n:Str)(p:Tb×Nat)(h:p.1.length<=32):(gq n p).length<=32:=by
 unfold gq;split
 .simp[aA];exact h
 .simp
theorem C3(n:Str):∀(l:List (Tb×Nat)),(∀p∈l,p.1.length<=32)->(l.flatMap (gq n)).length<=32*l.length
 |[],_=>by simp
 |p::l,h=>by
  have h1:=C3 n l λq a=>h q (bq _ a);have h2:=SX n p (h p (br ..));rw[sM,dc,gv];omega
end DP
namespace My
open L2 DP MA
theorem LN(T:TopD K mg "steps_from" GD vj)(a:mg "enumerate"=none):ay P w K mg base 1 "steps_from" vj (av mg 2 Bm):=by
 refine bT T Sh λO S hx E nd=>⟨_,(aI (dS 2 nd (c8 ah))
  (aI (gm fQ rfl (Cy a (aa (vr 0) ah)) (nZ rfl (gV (dG 3 nd) (gV (dG 4 nd) n9))) (aF (cF (T5 E (vr 1) (vr 4)) (aF (fY (lz lY wg type_list_extend Ei B_ (vr 2) (aa (tY (gF none (own:=["other"]) (frees:=["place","name"]) (ix:=[3,1]) rfl (qy (vr 4)) (λc=>(pG 0 (show(["other","place","name"]:List Str).Nodup by decide+kernel))) (λc=>(dW (aa (vr 1) (aa (vr 2) (aa (vr 0) ah))))))) ah)))) cO)))
  (aF (aU (vr 2))))),λds A R h hl=>?_⟩
 obtain⟨r,n,Ts,rfl,F,U,f,q⟩:=h;obtain⟨b,h1,h2⟩:=F;have hz:(1000:Nat)<=sizeLine:=δ
 have m:=h2.len;have len:∀i,((Ts.zipIdx.take i).flatMap (gq n)).length<=224:=λi=>by
  have:=C3 n (Ts.zipIdx.take i) λp G=>by
   have:=pM.mp (rZ G);exact f _ (bP this)
  rw[lW,v9] at this;omega
 refine⟨bV _,yP (getElem?_push h1) ?_⟩;refine gk (λrest τ A'=>∃(i:Nat) (x y:Option D),i<=b.length/\rest=(gW (b.map D.ref)).drop i/\τ=[some (.ref r),some (.str n),some (.ref A.length),x,y]/\A'[A.length]?=some (.lst (((Ts.zipIdx.take i).flatMap (gq n)).map b9))/\Gr A A') ?_ ?_ ?_ _ _ _ ⟨0,none,none,bV _,rfl,rfl,aH,Gr.push⟩
 .rintro rest τ A' ⟨i,x,y,_,_,_,_,g⟩
  exact g.get h1
 .rintro v rest τ H ⟨i,x,y,hi,e,rfl,hc,g⟩ V z
  by_cases j:i<b.length
  .obtain⟨t,B⟩:∃t,b[i]?=some t:=⟨b[i],aW j⟩
   obtain⟨T,C,I⟩:=h2.get B;have k:=I.gr g;have d:i<(gW (b.map D.ref)).length:=by rw[oi,aS];exact j
   have ev:=CQ (ds:=b.map D.ref) (i:=i) (x:=.ref t) (by rw[bO,B];rfl);rw[mq d] at e;rw[aW d] at ev;have ev:=Option.some.inj ev;rw[ev] at e;cases e;have l:∀L,L=gq n (T,i)->((Ts.zipIdx.take (i+1)).flatMap (gq n))=((Ts.zipIdx.take i).flatMap (gq n))++L:=λL J=>by
    rw[HQ C,sL,J];simp
   have ln:=len i;refine⟨rfl,MY k rfl ?_⟩;rw[ak b6,L8];refine cD (λc=>?_) (λc=>?_)
   .have s:gq n (T,i)=(aA T).map (λo=>(i,n,o)):=by unfold gq;rw[ao c]
    have M:=f T (bP C);have u:(aA T).length=T.length:=by simp[aA]
    refine⟨lH hc,C9 (λo=>.tup [.int ((i:Nat):Int),.str n,o]) rfl k ω (λA' o W Q N=>⟨show 3<=sizeLine by omega,N⟩) ?_⟩;refine C0 (getElem?_push hc) aH (by rw[aS,aS,u];omega) ?_;have em:((aA T).map λo=>D.tup [.int ((i:Nat):Int),.str n,.str o])=(gq n (T,i)).map b9:=by
     rw[s,bY];rfl
    refine z _ _ ⟨i+1,_,_,ω,rfl,rfl,?_,(g.trans Gr.push).set (aG _)⟩;rw[l _ rfl,eV,em];exact get_set (getElem?_push hc)
   .have s:gq n (T,i)=[]:=by unfold gq;rw[ak c]
    refine z _ _ ⟨i+1,_,_,ω,rfl,rfl,?_,g⟩;rw[l _ rfl,s,l_];exact hc
  .rw[sJ (by rw[oi,aS];omega)] at e
   cases e
 .rintro τ H ⟨i,x,y,hi,e,rfl,hc,g⟩
  have hi:i=b.length:=by
   have:=cB List.length e;simp[oi] at this;omega
  rw[hi,m,wH (by rw[v9];exact aG _)] at hc;exact q _ _ g hc (aG _)
end My
namespace DP
open L2 MA
theorem D3{P X:aP}{n:Str}(h:n∈au P):cy (P++X) n=cy P n:=by
 have:=find_some (T:=P) (n:=n);rw[cW (show n∈P.map (·.1) from h)] at this;obtain⟨p,a⟩:=pF.mp this;unfold cy;rw[find?_append,a];rfl
theorem N3{P:aP}{n:Str}{l:List bu}(h:n∉au P):cy (P++[(n,l)]) n=l:=by
 have:=find_some (T:=P) (n:=n);rw[fM (show ¬n∈P.map (·.1) from h)] at this;have e:P.find? (λp=>decide (p.1=n))=none:=by
  cases e:P.find? (λp=>decide (p.1=n)) with
  |none=>rfl
  |some p=>rw[e] at this;cases this
 unfold cy;rw[find?_append,e];simp
theorem iw{P:aP}{n:Str}(h:n∈au P):(n,cy P n)∈P:=by
 have:=find_some (T:=P) (n:=n);rw[cW (show n∈P.map (·.1) from h)] at this;obtain⟨p,a⟩:=pF.mp this;have h1:=pL a;have h2:=find?_some a;unfold cy;rw[a];have h2:p.1=n:=fS h2;rw[<-h2];exact h1
def mD(b:Nat)(A:Ar)(P:aP):Prop:=∃kvs,A[b+1]?=some (.dct kvs)/\A[b+2]?=some (.lst ((au P).map D.str))/\kvs.map (·.1)=(au P).map Sum.inr/\∀n∈au P,∃a,a≠b+2/\b<=a/\bw kvs (Sum.inr n)=some (.ref a)/\A[a]?=some (.lst ((cy P n).map b9))
structure fD(P:aP)(NN:List Str):Prop where
 nd:(au P).Nodup
 sub:∀n∈au P,n∈NN
 pl:∀p∈P,p.2.length+1<=P.length
theorem fD.len{P:aP}{NN:List Str}(h:fD P NN):P.length<=NN.length:=by
 have:=iA (au P) NN h.nd h.sub;simpa[au] using this
theorem fD.add{P:aP}{NN:List Str}(h:fD P NN){s:bu}(h1:s.2.1∈au P)(h2:s.2.2∈NN):fD (b8 P s) NN:=by
 refine⟨IM s h.nd,λn a=>?_,λp hp=>?_⟩
 .rcases (qg P s n).mp a with h'|rfl
  .exact h.sub n h'
  .exact h2
 .unfold b8 at hp ⊢
  split at hp
  .rename_i hc
   rw[ao hc];exact h.pl p hp
  .rename_i hc
   rw[ak hc,dc];rcases b_.mp hp with hp|hp
   .have:=h.pl p hp
    simp;omega
   .rw[bH.mp hp]
    have:=h.pl _ (iw h1);simp at this ⊢;omega
def fW(lo:Nat)(A:Ar)(q:Nat)(P:aP):Prop:=lo<=q/\∃kvs,A[q]?=some (.dct kvs)/\kvs.map (·.1)=(au P).map Sum.inr/\∀n∈au P,∃a,lo<=a/\bw kvs (Sum.inr n)=some (.ref a)/\A[a]?=some (.lst ((cy P n).map b9))
theorem fW.gr{A B:Ar}{lo q:Nat}{P:aP}(h:fW lo A q P)(g:Gr A B):fW lo B q P:=by
 obtain⟨h0,kvs,h1,h2,b⟩:=h;exact⟨h0,kvs,g.get h1,h2,λn c=>by obtain⟨a,z,x,y⟩:=b n c;exact⟨a,z,x,g.get y⟩⟩
theorem fW.set{A:Ar}{lo q t:Nat}{P:aP}{c:C}(h:fW lo A q P)(g:t<lo):fW lo (A.set t c) q P:=by
 obtain⟨h0,kvs,h1,h2,e⟩:=h;have b:∀(j:Nat) (d:C),lo<=j->A[j]?=some d->(A.set t c)[j]?=some d:=λj d i hd=>by
  rw[gP ω];exact hd
 exact⟨h0,kvs,b _ _ h0 h1,h2,λn f=>by obtain⟨a,z,x,y⟩:=e n f;exact⟨a,z,x,b _ _ z y⟩⟩
theorem fW.lo{A:Ar}{lo b q:Nat}{P:aP}(h:fW lo A q P)(hl:b<=lo):fW b A q P:=by
 obtain⟨h0,kvs,h1,h2,c⟩:=h;exact⟨ω,kvs,h1,h2,λn d=>by obtain⟨a,z,x,y⟩:=c n d;exact⟨a,ω,x,y⟩⟩
theorem mD.gr{A B:Ar}{b:Nat}{P:aP}(h:mD b A P)(g:Gr A B):mD b B P:=by
 obtain⟨kvs,h1,h2,c,d⟩:=h;exact⟨kvs,g.get h1,g.get h2,c,λn e=>by obtain⟨a,z,f,x,y⟩:=d n e;exact⟨a,z,f,x,g.get y⟩⟩
theorem qM{kvs:List (Key×D)}{ns:List Str}{n:Str}(h:kvs.map (·.1)=ns.map Sum.inr):(bw kvs (Sum.inr n)).isSome=decide (n∈ns):=by
 induction kvs generalizing ns with
 |nil=>
  cases ns with
  |nil=>rfl
  |cons _ _=>cases h
 |cons p kvs a=>
  cases ns with
  |nil=>cases h
  |cons m ns=>
   rw[ck,ck,List.cons.injEq] at h;show(if p.1=Sum.inr n then some p.2 else bw kvs (Sum.inr n)).isSome=_;rw[h.1];by_cases e:m=n
   .rw[ao (by rw[e])]
    simp[e]
   .rw[ak (λz=>e (Sum.inr.inj z)),a h.2]
    simp[Ne.symm e]
theorem qk{Ts:List Tb}{f i:Nat}{P:aP}{p:Str×List bu}(h:P[i]?=some p):dD Ts (f+1) i P=dD Ts f (i+1) ((dM Ts p.1).foldl b8 P):=by
 show(match P[i]? with|some p=>dD Ts f (i+1) ((dM Ts p.1).foldl b8 P)|none=>P)=_;rw[h]
theorem IZ{Ts:List Tb}{f i:Nat}{P:aP}(h:P.length<=i):dD Ts f i P=P:=by
 cases f with
 |zero=>rfl
 |succ f=>
  show(match P[i]? with|some p=>dD Ts f (i+1) ((dM Ts p.1).foldl b8 P)|none=>P)=_;rw[nI h]
def tu:Ct:=λds A R _=>∃r n Ts NN,ds=[.ref r,.str n]/\gQ A r Ts/\cY Ts NN/\n∈NN/\∀A' q,Gr A A'->fW A.length A' q (aO Ts n)->R (.ref q) A'
theorem fR{A:Ar}{i j:Nat}{c d:C}(a:i≠j)(h:A[j]?=some d):(A.set i c)[j]?=some d:=by
 rw[gP a];exact h
theorem rK{A:Ar}{i:Nat}{c d:C}(h:A[i]?=some d):(A.set i c)[i]?=some c:=fB (gH h)
theorem NB{kvs:List (Key×D)}{ns:List Str}{n:Str}{v:D}(h:kvs.map (·.1)=ns.map Sum.inr)(a:n∉ns):(cj kvs (Sum.inr n) v).map (·.1)=(ns++[n]).map Sum.inr:=by
 rw[E3 (λp b z=>?_)]
 .simp[h]
 .have:p.1∈kvs.map (·.1):=c9 b
  rw[h,z] at this;obtain⟨m,c,e⟩:=aN.mp this;rw[<-Sum.inr.inj e] at a;exact a c
end DP
namespace My
open L2 DP MA
theorem LC(T:TopD K mg "paths_from" Gv rm)(B:mg "len"=none)(d:ay P w K mg base 1 "steps_from" vj (av mg 2 Bm)):ay P w K mg base 2 "paths_from" rm (av mg 2 tu):=by
 refine bT T R8 λhr hR hx u nd=>⟨_,(aI (dS 2 nd (JY (vr 1) (c8 ah)))
  (aI (dS 3 nd (c8 (aa (vr 1) ah)))
  (aI (dS 4 nd aC)
  (aI (CF fQ (z4 (vr 4) (dI gR gj B h_ (aa (vr 3) ah))) (aI (gm fQ rfl (di (dL d hr hx (aa (vr 0) (aa (dX u (vr 3) (vr 4)) ah)))) (dG 5 nd) (aF (cF (pA u (dX u (vr 5) aC) (vr 2)) (aI (CD u (vr 2) (dX u (vr 5) aC) (cZ (dX u (vr 2) (dX u (vr 5) aC)) (c8 (aa (vr 5) ah))) rfl)
  (aF (fY (lz lY sD sI oO qu (vr 3) (aa (dX u (vr 5) aC) ah))))) cO)))
  (aF (Kg (i:=4) nd rfl (by first|exact Or.inl rfl|exact Or.inr rfl) aC))))
  (aF (aU (vr 2))))))),λds A R h hl=>?_⟩
 obtain⟨r,n,Ts,NN,rfl,hB,hok,hn,q⟩:=h;have hz:(1000:Nat)<=sizeLine:=δ
 have e1:(A++[C.lst []]).length=A.length+1:=θ
 have e2:(A++[C.lst []]++[C.dct [(Sum.inr n,D.ref A.length)]]).length=A.length+2:=θ
 refine⟨bV _,show 1<=sizeLine by omega,?_⟩;have qH:mD A.length (A++[C.lst []]++[C.dct [(Sum.inr n,D.ref A.length)]]++[C.lst [D.str n]]) [(n,[])]:=by
  refine⟨[(Sum.inr n,D.ref A.length)],?_,?_,rfl,λm hm=>⟨A.length,ω,aG _,?_,?_⟩⟩
  .rw[<-e1];exact getElem?_push aH
  .rw[<-e2];exact aH
  .have:m=n:=by simpa[au] using hm
   subst this;exact ao rfl
  .have:m=n:=by simpa[au] using hm
   subst this;have e:cy [(m,[])] m=[]:=by simp[cy]
   rw[e];exact getElem?_push (getElem?_push aH)
 refine⟨λk τ A'=>∃(i:Nat) (Q:aP) (x:Option D),k=13 - i/\τ=[some (.ref r),some (.str n),some (.ref (A++[C.lst []]).length),some (.ref (A++[C.lst []]++[C.dct [(Sum.inr n,D.ref A.length)]]).length),some (.int ((i:Nat):Int)),x]/\i<=Q.length/\mD A.length A' Q/\fD Q NN/\dD Ts (14 - i) i Q=aO Ts n/\Gr A A',⟨13,0,[(n,[])],none,rfl,rfl,θ,qH,⟨by simp[au],λm hm=>by
   have:m=n:=by simpa[au] using hm
   rw[this];exact hn,λp L=>by
   have:p=(n,[]):=by simpa using L
   rw[this];simp⟩,rfl,((Gr.push.trans Gr.push).trans Gr.push)⟩,?_⟩
 rw[e1,e2];rintro k τ A1 ⟨i,Q,x,rfl,rfl,hi,hS,hP,hb,Z⟩;have NO:Q.length<=12:=cV hP.len hok.nn;obtain⟨M,hd0,E,hk0,hv0⟩:=id hS;refine qP E ?_;have N:((au Q).map D.str).length=Q.length:=by simp[au]
 refine cD (λc=>?_) (λc=>?_)
 .rw[N] at c
  have c:i<Q.length:=ω
  obtain⟨p,L⟩:∃p,Q[i]?=some p:=⟨Q[i],aW c⟩;have ML:p.1∈au Q:=c9 (bP L);refine⟨λτ A'=>∃(H:aP) (x:Option D),τ=[some (.ref r),some (.str n),some (.ref (A.length+1)),some (.ref (A.length+2)),some (.int ((i+1:Nat):Int)),x]/\i+1<=H.length/\mD A.length A' H/\fD H NN/\dD Ts (14 - (i+1)) (i+1) H=aO Ts n/\Gr A A',λb7 A' ⟨H,x,h1,h2,O,h4,h5,h6⟩=>⟨13 - (i+1),ω,i+1,H,x,rfl,h1,h2,O,h4,h5,h6⟩,?_⟩;refine oE E (v:=.str p.1) (nS (by rw[bO];unfold au;rw[bO,L];rfl)) ?_;refine⟨rfl,r,p.1,Ts,rfl,hB.gr Z,hok.len,λT hT=>(hok.tok T hT).len,λA2 q2 g2 h2 l2=>?_⟩;have gl:=Z.len;have lr:=gH E;refine dY h2 ?_;refine gk (λrest τ A'=>∃(l b:List bu) (x:Option D),rest=b.map b9/\l++b=dM Ts p.1/\τ=[some (.ref r),some (.str n),some (.ref (A.length+1)),some (.ref (A.length+2)),some (.int ((i:Nat):Int)),x]/\mD A.length A' (l.foldl b8 Q)/\fD (l.foldl b8 Q) NN/\A'[q2]?=some (.lst ((dM Ts p.1).map b9))/\Gr A A') ?_ ?_ ?_ _ _ _ ⟨[],dM Ts p.1,x,rfl,rfl,rfl,hS.gr g2,hP,h2,Z.trans g2⟩
  .rintro rest τ A' ⟨l,b,x,_,_,_,_,_,h,_⟩
   exact h
  .rintro v rest τ S ⟨l,b,x,e,g,rfl,t,j,O,g3⟩ Nx hN
   cases b with
   |nil=>cases e
   |cons st b=>
   cases e;have hst:st∈dM Ts p.1:=by rw[<-g];simp
   obtain⟨T,hT,hn1,hn2,MJ⟩:=mW.mp hst;obtain⟨kvs,hd,U,hk,hv⟩:=id t;have f:(l++[st]).foldl b8 Q=b8 (l.foldl b8 Q) st:=by rw[mw];rfl
   generalize Mv:l.foldl b8 Q=o at*
   have F:st.2.1∈au o:=by
    rw[<-Mv,yD,hn2];exact .inl ML
   have Q9:st.2.2∈NN:=hok.sub T (bP hT) _ MJ;have l3:o.length<=12:=cV j.len hok.nn;refine oz hd rfl ?_;rw[ao rfl,qM hk];refine cN (λI=>?_) (λI=>?_)
   .obtain⟨a1,na,Va,ga,ha⟩:=hv _ F
    refine kG hd rfl ga ?_;have hpl:=j.pl _ (iw F);simp at hpl;refine⟨show 1<=sizeLine by omega,iQ (getElem?_push ha) aH (by simp;omega) ?_⟩;have U8:kvs.length=o.length:=by
     have:=cB List.length hk;simpa[au] using this
    refine E4 (getElem?_push (getElem?_push hd)) rfl ω ?_;have V:=getElem?_push (T:=[C.lst ((cy o st.2.1).map b9++[b9 st])]) (getElem?_push (T:=[C.lst [b9 st]]) U);have hd2:=getElem?_push (T:=[C.lst ((cy o st.2.1).map b9++[b9 st])]) (getElem?_push (T:=[C.lst [b9 st]]) hd);have s:=fR (i:=A.length+1) (c:=C.dct (cj kvs (Sum.inr st.2.2) (D.ref (S++[C.lst [b9 st]]).length))) ω V;refine⟨lH s,qi s (by simp[au];omega) ?_⟩;have Ve:A1.length<=q2:=l2;have nq:A.length+2≠q2:=ω
    have OH:A.length+1≠q2:=ω
    have J:b8 o st=o++[(st.2.2,cy o st.2.1++[st])]:=by unfold b8;rw[ak I]
    have ek:au (b8 o st)=au o++[st.2.2]:=by rw[J];simp[au]
    refine hN _ _ ⟨l++[st],b,_,rfl,by simpa using g,rfl,?_,?_,?_,?_⟩
    .rw[f]
     refine⟨_,fR ω (rK hd2),?_,?_,λm hm=>?_⟩
     .rw[ek,eV]
      exact rK s
     .rw[ek]
      exact NB hk I
     .rw[ek] at hm
      have la:(S++[C.lst [b9 st]]).length=S.length+1:=θ
      have U':=gH U;rcases b_.mp hm with hm|hm
      .obtain⟨a,W,Y,L3,G⟩:=hv m hm
       have hne:¬(Sum.inr st.2.2:Key)=Sum.inr m:=λz=>I (by rw[Sum.inr.inj z];exact hm);refine⟨a,W,Y,by rw[um,ak hne];exact L3,?_⟩;rw[J,D3 hm];have hd':A.length+1≠a:=λz=>by rw[<-z,hd] at G;cases G
       exact fR (Ne.symm W) (fR hd' (getElem?_push (getElem?_push G)))
      .have hm:m=st.2.2:=by simpa using hm
       subst hm;refine⟨(S++[C.lst [b9 st]]).length,ω,ω,by rw[um,ao rfl],?_⟩;rw[J,N3 I,eV];exact fR ω (fR ω aH)
    .rw[f]
     exact j.add F Q9
    .exact fR nq (fR OH (getElem?_push (getElem?_push O)))
    .exact((((g3.trans Gr.push).trans Gr.push).set ω).set ω)
   .have J:b8 o st=o:=by unfold b8;rw[ao I]
    refine hN _ _ ⟨l++[st],b,_,rfl,by simpa using g,rfl,?_,?_,O,g3⟩
    .rw[f,J];exact t
    .rw[f,J];exact j
  .rintro τ S ⟨l,b,x,e,g,rfl,t,j,O,g3⟩
   cases b with
   |cons _ _=>cases e
   |nil=>
   have g:l=dM Ts p.1:=by simpa using g
   subst g;refine⟨_,x,by rfl,?_,t,j,?_,g3⟩
   .obtain⟨X,e⟩:=uf (dM Ts p.1) Q
    rw[e,dc];omega
   .rw[<-hb,show 14 - i=(14 - (i+1))+1 by omega,qk L]
 .rw[N] at c
  have c:Q.length<=i:=ω
  rw[IZ c] at hb;rw[<-hb] at q;refine q A1 _ Z ⟨ω,M,hd0,hk0,λm hm=>?_⟩;obtain⟨a,_,z,x,y⟩:=hv0 m hm;exact⟨a,z,x,y⟩
end My
namespace DP
open L2 MA
noncomputable def eL:M->Str->List (Str×M)
 |.wt _,_=>[]
 |.aQ l r a b,w=>(w,.aQ l r a b)::(eL a (w++"l")++eL b (w++"r"))
noncomputable def rH(p:Str×M):D:=.tup [.str p.1,enc p.2]
theorem vv:∀(m:M) (w:Str),(eL m w).length+1<=2 ^ m.deep
 |.wt n,w=>by simp[eL,aZ.deep]
 |.aQ l r a b,w=>by
  have h1:=vv a (w++"l");have h2:=vv b (w++"r");have c:2 ^ a.deep<=2 ^ max a.deep b.deep:=dR δ ω;have d:2 ^ b.deep<=2 ^ max a.deep b.deep:=dR δ ω;show(eL a (w++"l")++eL b (w++"r")).length+1+1<=2 ^ (max a.deep b.deep+1);rw[pow_succ,dc];omega
def IK(dom:List D->List D->Prop):Ct:=λds A R _=>∃v,dom ds v/\∀A' r,Gr A A'->A'[r]?=some (.lst v)->A.length<=r->R (.ref r) A'
abbrev Bg(d:Nat):Ct:=IK λds v=>∃m w,ds=[enc m,.str w]/\m.deep<d/\w.length+d<=100/\d<=8/\v=(eL m w).map rH
end DP
namespace My
open L2 DP MA
theorem LG(T:TopD K mg "_law_rods" FT uO):∀d,ay P w K mg base (d+1) "_law_rods" uO (av mg 2 (Bg d)):=by
 intro d;induction d with
 |zero=>
  refine mO T λds A R RE h=>?_;obtain⟨v,⟨m,w,_,h,_⟩,_⟩:=h;omega
 |succ d c=>
  refine iX T Rw rfl δ λN RE f o B outer s H E g u hx ds A R h hl=>?_;have e:=g.units;refine⟨_,(aI (cF (gu e (dX e (vr 0) aC) bX) (aF (aU (c8 ah))) cO)
  (aF (aU (cZ (cZ (c8 (aa (dW (aa (vr 1) (aa (vr 0) ah))) ah)) (dL c g hx (aa (dX e (vr 0) aC) (aa (cZ (vr 1) bX) ah)))) (dL c g hx (aa (dX e (vr 0) aC) (aa (cZ (vr 1) bX) ah))))))),?_⟩
  obtain⟨v,⟨m,w,rfl,hd,z,C,rfl⟩,q⟩:=h;have D:(100:Nat)<=sizeLine:=δ
  cases m with
  |wt n=>exact⟨bV _,q _ _ Gr.push aH (aG _)⟩
  |aQ l r a b=>
   have p:max a.deep b.deep+1<d+1:=hd;have F:("l":Str).length=1:=η
   have G:("r":Str).length=1:=η
   have al:∀x y:Str,(x++y).length=x.length+y.length:=λx y=>sq;have n1:=vv a (w++"l");have n2:=vv b (w++"r");have I:2 ^ a.deep<=2 ^ 8:=dR δ ω;have p2:2 ^ b.deep<=2 ^ 8:=dR δ ω;have hz:(1024:Nat)<=sizeLine:=δ
   refine⟨show 2<=sizeLine by decide,show 1<=sizeLine by decide,ω,rfl,_,⟨a,_,rfl,ω,by rw[al];omega,ω,rfl⟩,λJ r1 i h1 _=>?_⟩;refine iQ (i.get aH) h1 (by simp;omega) ?_;refine⟨ω,rfl,_,⟨b,_,rfl,ω,by rw[al];omega,ω,rfl⟩,λt L j h2 _=>?_⟩;have k:Gr A t:=((Gr.push.trans i).trans Gr.push).trans j;refine iQ (j.get aH) h2 (by simp;omega) (q _ _ (k.trans Gr.push) ?_ k.len);rw[aH];simp[eL,rH,enc]
theorem Ll(T:TopD K mg "_law_load" FL uK)(b:mg "sum"=none)(a:ay P w K mg base 9 "_law_leaves" qU (av mg 1 (xo 8))):ay P w K mg base 10 "_law_load" uK (av mg 2 (s_ 6)):=by
 refine bT T Rr λj u hx k nd=>⟨_,(aF (aU (dI (BO rfl) Cg b boot_sum (aa (gF none (own:=["_law_name"]) (frees:=["_law_book"]) (ix:=[1]) rfl (di (dL a j hx (aa (vr 0) ah))) (λc=>(pG 0 (show(["_law_name","_law_book"]:List Str).Nodup by decide+kernel))) (λc=>(dX k (vr 1) (vr 0)))) ah)))),λds A R h hl=>?_⟩;obtain⟨m,r,rs,rfl,l,o,hd,g,q⟩:=h;refine⟨rfl,_,⟨m,rfl,ω,ω,rfl⟩,λv r1 i h1=>?_⟩;refine dY h1 ?_;have n1:=aZ.jR m;have y:2 ^ m.deep<=2 ^ 6:=dR δ hd;have hz:(64:Nat)<=sizeLine:=δ
 refine iS (f:=λx=>match x with|.str n=>.int (val rs n)|x=>x) h1 _ _ (λx hx=>?_) (by simp;omega) ?_
 .obtain⟨p,s,rfl⟩:=aN.mp hx
  exact⟨[.str p],rfl,λQ t=>kG (i.get l) rfl (uh rs p (g _ s)) t⟩
 have e:(m.names.map D.str).map (λx=>match x with|.str n=>D.int (val rs n)|x=>x)=m.names.map λn=>D.int (val rs n):=by
  rw[bY];rfl
 rw[fL,e];refine Hj (ns:=m.names.map (val rs)) aH (ints_map _ _) (λn d=>?_) (by simp;omega) ?_
 .obtain⟨x,hx,rfl⟩:=aN.mp d
  have:=HL o (g x hx);omega
 .rw[uy]
  exact q _ (i.trans Gr.push)
end My
namespace DP
open L2 MA
theorem zH:∀(m:M) (w:Str),Wf m->∀p∈eL m w,∃l r a b,p.2=.aQ l r a b/\1<=l/\l<=9/\1<=r/\r<=9/\a.deep<m.deep/\b.deep<m.deep/\(∀n∈a.names,n∈m.names)/\∀n∈b.names,n∈m.names
 |.wt n,w,_,p,h=>by simp[eL] at h
 |.aQ l r a b,w,k,p,h=>by
  obtain⟨⟨h1,h2,o,q,s,t⟩,j⟩:=k;have u:Wf a:=⟨s,λn h=>j n (by simp[aZ.names,h])⟩;have v:Wf b:=⟨t,λn h=>j n (by simp[aZ.names,h])⟩;have sa:∀n∈a.names,n∈(aZ.aQ l r a b:M).names:=λn h=>by simp[aZ.names,h]
  have c:∀n∈b.names,n∈(aZ.aQ l r a b:M).names:=λn h=>by simp[aZ.names,h]
  have dd:(aZ.aQ l r a b:M).deep=max a.deep b.deep+1:=rfl;rcases bz.mp (show p∈(w,aZ.aQ l r a b)::(eL a (w++"l")++eL b (w++"r")) from h) with rfl|h
  .exact⟨l,r,a,b,rfl,h1,h2,o,q,ω,ω,sa,c⟩
  rcases b_.mp h with h|h
  .obtain⟨d,r',x,y,e,k1,k2,k3,f,k5,z,g,i⟩:=zH a _ u p h
   exact⟨d,r',x,y,e,k1,k2,k3,f,ω,ω,λn h=>sa n (g n h),λn h=>sa n (i n h)⟩
  .obtain⟨d,r',x,y,e,k1,k2,k3,f,k5,z,g,i⟩:=zH b _ v p h
   exact⟨d,r',x,y,e,k1,k2,k3,f,ω,ω,λn h=>c n (g n h),λn h=>c n (i n h)⟩
noncomputable def m7(f:Str->Int):M->Bool
 |.aQ l r a b=>decide (l*ld f a=r*ld f b)
 |_=>true
def xC:Ct:=λds A R _=>∃m r rs,ds=[enc m,.ref r]/\A[r]?=some (.dct (fh rs))/\Wf m/\Bk rs m/\m.deep<=5/\∀A',Gr A A'->R (.bl ((eL m "").all λp=>m7 (val rs) p.2)) A'
end DP
namespace My
open L2 DP MA
theorem Ln(T:TopD K mg "_law_still" FU uP)(i:ay P w K mg base 9 "_law_rods" uO (av mg 2 (Bg 8)))(f:ay P w K mg base 10 "_law_load" uK (av mg 2 (s_ 6))):ay P w K mg base 11 "_law_still" uP (av mg 2 xC):=by
 refine bT T Rx λu Q hx j nd=>⟨_,(aI (gm fQ rfl (di (dL i u hx (aa (vr 0) (aa bX ah)))) (nZ rfl (gV (dG 2 nd) (gV (dG 3 nd) n9))) (aF (cF (m8 j (ie (dX j (vr 3) aC) (dL f u hx (aa (dX j (vr 3) aC) (aa (vr 1) ah)))) (ie (dX j (vr 3) aC) (dL f u hx (aa (dX j (vr 3) aC) (aa (vr 1) ah))))) (aF (aU iU)) cO)))
  (aF (aU iU))),λds A R h hl=>?_⟩
 obtain⟨m,r,rs,rfl,F,G,s,hd,q⟩:=h;refine⟨rfl,_,⟨m,_,rfl,ω,η,ω,rfl⟩,λH r1 v h1 _=>?_⟩;refine dY h1 ?_;refine gk (λrest τ A'=>∃(d:List (Str×M)) (x y:Option D),rest=d.map rH/\τ=[some (enc m),some (.ref r),x,y]/\(∀p∈d,p∈eL m "")/\((eL m "").all λp=>m7 (val rs) p.2)=d.all (λp=>m7 (val rs) p.2)/\Gr H A') ?_ ?_ ?_ _ _ _ ⟨eL m "",none,none,rfl,rfl,λ_ h=>h,rfl,Gr.refl⟩
 .rintro rest τ A' ⟨d,x,y,_,_,_,_,g⟩
  exact g.get h1
 .rintro z rest τ A' ⟨d,x,y,e,rfl,B,t,g⟩ S I
  cases d with
  |nil=>cases e
  |cons p d=>
   cases e;obtain⟨l,r',a,b,ep,k1,k2,k3,U,k5,V,J,L⟩:=zH m "" G p (B p (br ..));have k:=(v.trans g).get F;have big:(9:Int)<2 ^ 64:=δ
   have N:rH p=.tup [.str p.1,enc (.aQ l r' a b)]:=by unfold rH;rw[ep]
   rw[N];refine⟨rfl,rfl,a,r,rs,rfl,k,s.ok,ω,λn h=>s.nm n (J n h),λW C=>⟨.inl ⟨ω,ω⟩,?_⟩⟩;refine⟨rfl,b,r,rs,rfl,C.get k,s.ok,ω,λn h=>s.nm n (L n h),λO E=>⟨.inl ⟨ω,ω⟩,?_⟩⟩;have es:m7 (val rs) p.2=decide (l*ld (val rs) a=r'*ld (val rs) b):=by rw[ep];rfl
   refine cN (λc=>?_) (λc=>?_)
   .have:((eL m "").all λp=>m7 (val rs) p.2)=false:=by rw[t];simp[es,c]
    have o:=q O (((v.trans g).trans C).trans E);rw[this] at o;exact o
   .refine I _ _ ⟨d,_,_,rfl,rfl,λp h=>B p (bq _ h),?_,(g.trans C).trans E⟩
    rw[t];simp[es,c]
 .rintro τ A' ⟨d,x,y,e,rfl,B,t,g⟩
  cases d with
  |cons p d=>cases e
  |nil=>
   have o:=q A' (v.trans g);rw[t] at o;exact o
end My
namespace DP
open L2 MA
def Bf:Ct:=λds A R _=>∃l r' a b r rs,ds=[enc (.aQ l r' a b),.ref r]/\A[r]?=some (.dct (fh rs))/\1<=l/\l<=9/\1<=r'/\r'<=9/\Bk rs a/\Bk rs b/\a.deep<=6/\b.deep<=6/\∀A',Gr A A'->R (.tup [.int (l*ld (val rs) a),.int (r'*ld (val rs) b)]) A'
def Bo(d:Nat):Ct:=λds A R _=>∃m w r rs,ds=[enc m,.str w,.ref r]/\A[r]?=some (.dct (fh rs))/\Wf m/\Bk rs m/\m.deep<d/\d<=6/\w.length+d<=100/\∀A' q,Gr A A'->A'[q]?=some (.lst ((dz (val rs) m w).map iz))->A.length<=q->R (.ref q) A'
def Bq:Ct:=λds A R _=>∃m rs,ds=[enc m,kD rs]/\Wf m/\Bk rs m/\m.deep<=5/\∀A' q,Gr A A'->A'[q]?=some (.lst ((dz (val rs) m "").map iz))->A.length<=q->R (.ref q) A'
def xB:Ct:=λds A R _=>∃m rs,ds=[enc m,kD rs]/\Wf m/\Bk rs m/\m.deep<=5/\∀A',Gr A A'->R (.bl (decide (dz (val rs) m ""=[]))) A'
theorem yv{A:Ar}{p:Nat}{xs:List D}{R:DK}(h:A[p]?=some (.lst xs))(c:fk xs=true)(hl:canLayAll0 (bS xs)=true)(k:R (.bl (decide (xs=[]))) (A++[.lst []])):fN false (.ref p) (.ref A.length) (A++[.lst []]) R:=by
 unfold fN;have b:cH (A++[.lst []]) (.ref p)=.list (bS xs):=by unfold cH;simp only[getElem?_push h]
 have a:cH (A++[.lst []]) (.ref A.length)=.list []:=by unfold cH;simp only[aH];rfl
 refine⟨?_,?_,?_,?_,?_,?_⟩
 .unfold iB;simp only[getElem?_push h];exact c
 .unfold iB;simp only[aH];rfl
 .rw[b];simpa[canLay0] using hl
 .rw[a];simp[canLay0,canLayAll0]
 .rw[a];simp[PyData.depth,depthAll];omega
 .rw[b,a]
  have e:PyData.eqv (.list (bS xs)) (.list [])=decide (xs=[]):=by cases xs<;>simp[bS,PyData.eqv,eqvAll]
  rw[ak δ,e];exact k
def Wy(w:Str):Prop:=∀c∈w.cps.toList,c=108\/c=114
theorem BY(x y:Str):(x++y).cps.toList=x.cps.toList++y.cps.toList:=Array.toList_append
theorem Wy.nil:Wy "":=λc h=>by
 have e:("":Str).cps.toList=[]:=η
 rw[e] at h;cases h
theorem Jt:("l":Str).cps.toList=[108]:=η
theorem Ju:("r":Str).cps.toList=[114]:=η
theorem Wy.l{w:Str}(h:Wy w):Wy (w++"l"):=λc hc=>by
 rw[BY,Jt] at hc;rcases b_.mp hc with h'|h'
 .exact h c h'
 .exact .inl (bH.mp h')
theorem Wy.r{w:Str}(h:Wy w):Wy (w++"r"):=λc hc=>by
 rw[BY,Ju] at hc;rcases b_.mp hc with h'|h'
 .exact h c h'
 .exact .inr (bH.mp h')
theorem Wy.ok{w:Str}(h:Wy w):canLay0 (.str w)=true:=by
 have e:w.cps.all (λc=>decide (c<0x110000))=true:=by
  rw[<-Array.all_toList,pS];intro c hc;have:=h c hc;exact cW ω
 simpa[canLay0,strOk] using e
theorem NX:canLay0 (.str "left")=true:=η
theorem Q0:canLay0 (.str "right")=true:=η
theorem z6(f:Str->Int):∀(m:M) (w:Str),Wy w->∀p∈dz f m w,Wy p.1/\(p.2="left"\/p.2="right")
 |.wt _,_,_,p,h=>by cases h
 |.aQ l r a b,w,c,p,h=>by
  have h:p∈hr2 w (l*ld f a) (r*ld f b)++dz f a (w++"l")++dz f b (w++"r"):=h;rcases b_.mp h with h|h
  .rcases b_.mp h with h|h
   .unfold hr2 at h
    split at h
    .rw[bH.mp h];exact⟨c,.inl rfl⟩
    .split at h
     .rw[bH.mp h];exact⟨c,.inr rfl⟩
     .cases h
   .exact z6 f a _ c.l p h
  .exact z6 f b _ c.r p h
theorem EZ:∀ps:List (Str×Str),fk (ps.map iz)=true
 |[]=>rfl
 |p::r=>by simp[fk,iz,f7,EZ r]
theorem DV:∀ps:List (Str×Str),(∀p∈ps,canLay0 (.str p.1)=true/\canLay0 (.str p.2)=true)->canLayAll0 (bS (ps.map iz))=true
 |[],_=>by simp[bS,canLayAll0]
 |p::r,h=>by
  have h1:=h p (br ..);have h2:=DV r λq a=>h q (bq _ a);simp only[ck,bS,iz,toQ,canLayAll0,canLay0] at h1 h2 ⊢;simp[h1.1,h1.2,h2]
theorem NV{f:Str->Int}{m:M}:canLayAll0 (bS ((dz f m "").map iz))=true:=DV _ λp a=>by
 obtain⟨h1,h2⟩:=z6 f m "" .nil p a;refine⟨h1.ok,?_⟩;rcases h2 with e|e<;>rw[e]
 .exact NX
 .exact Q0
end DP
namespace My
open L2 DP MA
theorem LD(T:TopD K mg "pulls" Gx ve)(c:ay P w K mg base 10 "load_below" vc (av mg 2 (s_ 6))):ay P w K mg base 11 "pulls" ve (av mg 2 Bf):=by
 refine bT T R_ λe n hx d nd=>⟨_,(aF (aU (dW (aa (ie (dX d (vr 0) aC) (dL c e hx (aa (dX d (vr 0) aC) (aa (vr 1) ah)))) (aa (ie (dX d (vr 0) aC) (dL c e hx (aa (dX d (vr 0) aC) (aa (vr 1) ah)))) ah))))),λds A R h hl=>?_⟩;obtain⟨l,r',a,b,r,rs,rfl,f,h1,h2,o,p,g,i,k,db,q⟩:=h;refine⟨rfl,a,r,rs,rfl,f,g.ok,k,g.nm,λs j=>⟨.inl ⟨ω,ω⟩,?_⟩⟩;refine⟨rfl,b,r,rs,rfl,j.get f,i.ok,db,i.nm,λt m=>⟨.inl ⟨ω,ω⟩,?_⟩⟩;exact⟨show 2<=sizeLine by decide,q _ (j.trans m)⟩
theorem LO(T:TopD K mg "tips_below" GG vn)(i:ay P w K mg base 11 "pulls" ve (av mg 2 Bf)):∀d,ay P w K mg base (d+11) "tips_below" vn (av mg 3 (Bo d)):=by
 intro d;induction d with
 |zero=>
  refine mO T λds A R RE h=>?_;obtain⟨m,w,r,rs,_,_,_,_,h,_⟩:=h;omega
 |succ d e=>
  refine iX T GR rfl δ λN RE f U B outer s H E u hR hx ds A R h hl=>?_;have j:=u.units;have nd:=GR.nd;refine⟨_,(aI (cF (gu j (dX j (vr 0) aC) bX) (aF (aU (c8 ah))) cO)
  (aI (dS 3 nd (dL i u hx (aa (vr 0) (aa (vr 2) ah))))
  (aI (dS 4 nd (c8 ah))
  (aI (cF (Hs (dX j (vr 3) aC) (dX j (vr 3) aC)) (aF (fY (lz lY sD sI oO qu (vr 4) (aa (dW (aa (vr 1) (aa bX ah))) ah)))) cO)
  (aI (cF (z4 (dX j (vr 3) aC) (dX j (vr 3) aC)) (aF (fY (lz lY sD sI oO qu (vr 4) (aa (dW (aa (vr 1) (aa bX ah))) ah)))) cO)
  (aF (aU (cZ (cZ (vr 4) (dL e u hx (aa (dX j (vr 0) aC) (aa (cZ (vr 1) bX) (aa (vr 2) ah))))) (dL e u hx (aa (dX j (vr 0) aC) (aa (cZ (vr 1) bX) (aa (vr 2) ah)))))))))))),?_⟩
  obtain⟨m,w,r,rs,rfl,M,G,v,hd,h6,I,q⟩:=h;have hs:(1000:Nat)<=sizeLine:=δ
  cases m with
  |wt n=>exact⟨bV _,q _ _ Gr.push aH (aG _)⟩
  |aQ l r' a b=>
   have V:max a.deep b.deep+1<d+1:=hd;have J:=G.arms;obtain⟨r1,W,X,Y,_,_⟩:=J;have ll:("l":Str).length=1:=η
   have lr:("r":Str).length=1:=η
   have al:∀x y:Str,(x++y).length=x.length+y.length:=λx y=>sq;refine⟨rfl,l,r',a,b,r,rs,rfl,M,r1,W,X,Y,v.left,v.right,ω,ω,λg O=>?_⟩;refine⟨bV _,?_⟩;have n0:=DB w (l*ld (val rs) a) (r'*ld (val rs) b);have n1:=vO (val rs) a (w++"l");have n2:=vO (val rs) b (w++"r");have p1:2 ^ a.deep<=2 ^ 6:=dR δ ω;have p2:2 ^ b.deep<=2 ^ 6:=dR δ ω;by_cases k:r'*ld (val rs) b<l*ld (val rs) a;case' pos=>
    have o:hr2 w (l*ld (val rs) a) (r'*ld (val rs) b)=[(w,("left":Str))]:=by unfold hr2;rw[ao k]
    refine cD (λ_=>?_) (λc=>absurd k c);refine⟨lH aH,show 2<=sizeLine by decide,qi aH δ ?_⟩;have h2:=get_set (ys:=[]++[D.tup [.str w,.str "left"]]) (aH (A:=g) (c:=C.lst []));have z:Gr g ((g++[C.lst []]).set g.length (.lst ([]++[D.tup [.str w,.str "left"]]))):=Gr.set Gr.push (aG _);refine cD (λc=>absurd k ω) (λ_=>?_);generalize (g++[C.lst []]).set g.length (.lst ([]++[D.tup [.str w,.str "left"]]))=p at*
    have h2:p[g.length]?=some (.lst ((hr2 w (l*ld (val rs) a) (r'*ld (val rs) b)).map iz)):=by rw[h2,o];rfl
   case' neg=>
    refine cD (λc=>absurd c k) (λ_=>?_);by_cases F:l*ld (val rs) a<r'*ld (val rs) b;case' pos=>
     have o:hr2 w (l*ld (val rs) a) (r'*ld (val rs) b)=[(w,("right":Str))]:=by unfold hr2;rw[ak k,ao F]
     refine cD (λ_=>?_) (λc=>absurd F c);refine⟨lH aH,show 2<=sizeLine by decide,qi aH δ ?_⟩;have h2:=get_set (ys:=[]++[D.tup [.str w,.str "right"]]) (aH (A:=g) (c:=C.lst []));have z:Gr g ((g++[C.lst []]).set g.length (.lst ([]++[D.tup [.str w,.str "right"]]))):=Gr.set Gr.push (aG _);generalize (g++[C.lst []]).set g.length (.lst ([]++[D.tup [.str w,.str "right"]]))=p at*
     have h2:p[g.length]?=some (.lst ((hr2 w (l*ld (val rs) a) (r'*ld (val rs) b)).map iz)):=by rw[h2,o];rfl
    case' neg=>
     have o:hr2 w (l*ld (val rs) a) (r'*ld (val rs) b)=[]:=by unfold hr2;rw[ak k,ak F]
     refine cD (λc=>absurd c F) (λ_=>?_);have h2:=aH (A:=g) (c:=C.lst []);have z:Gr g (g++[C.lst []]):=Gr.push;generalize g++[C.lst []]=p at*
     have h2:p[g.length]?=some (.lst ((hr2 w (l*ld (val rs) a) (r'*ld (val rs) b)).map iz)):=by rw[h2,o];rfl
   all_goals
    have t:=(O.trans z).get M;refine⟨ω,rfl,a,_,r,rs,rfl,t,G.left,v.left,ω,ω,by rw[al];omega,λA3 q3 L Z _=>?_⟩;refine iQ (L.get h2) Z (by simp;omega) ?_;refine⟨ω,rfl,b,_,r,rs,rfl,getElem?_push (L.get t),G.right,v.right,ω,ω,by rw[al];omega,λA4 q4 Q h4 _=>?_⟩;refine iQ (Q.get aH) h4 (by simp;omega) ?_;have S:Gr A A4:=(((O.trans z).trans L).trans Gr.push).trans Q;refine q _ _ (S.trans Gr.push) ?_ S.len;rw[aH];simp[dz]
theorem LP(T:TopD K mg "tips" GF vm)(d:mg "dict"=none)(b:ay P w K mg base 9 "check_mobile" qX (av mg 1 w_))(a:ay P w K mg base 10 "check_weights" uV (av mg 2 AW))(c:ay P w K mg base 17 "tips_below" vn (av mg 3 (Bo 6))):ay P w K mg base 18 "tips" vm (av mg 2 Bq):=by
 refine bT T Si λf p hx r nd=>⟨_,(aI (fY (dL b f hx (aa (vr 0) ah)))
  (aI (fY (dL a f hx (aa (vr 0) (aa (vr 1) ah))))
  (aF (aU (dL c f hx (aa (vr 0) (aa bX (aa (ku (ql rfl) qv d boot_dict (aa (vr 1) ah)) ah)))))))),λds A R h hl=>?_⟩
 obtain⟨m,rs,rfl,i,e,hd,q⟩:=h;refine⟨rfl,_,⟨m,rfl,i,hd,rfl⟩,λs j=>?_⟩;refine⟨rfl,_,⟨m,rs,rfl,e.ok,hd,e.nm,rfl⟩,λt k=>?_⟩;refine yo e.ok ?_;have g:=(j.trans k).trans (Gr.push (T:=[C.dct (fh rs)]));exact⟨rfl,m,_,_,rs,rfl,aH,i,e,ω,ω,η,λu v l n o=>q _ _ (g.trans l) n (cV g.len o)⟩
theorem LM(T:TopD K mg "is_still" Gj u6)(a:ay P w K mg base 18 "tips" vm (av mg 2 Bq)):ay P w K mg base 19 "is_still" u6 (av mg 2 xB):=by
 refine bT T RZ λb i hx c nd=>⟨_,(aF (aU (uc c (dL a b hx (aa (vr 0) (aa (vr 1) ah))) (c8 ah)))),λds A R h hl=>?_⟩;obtain⟨m,rs,rfl,d,f,hd,q⟩:=h;refine⟨rfl,m,rs,rfl,d,f,hd,λj k g h1 _=>?_⟩;refine⟨bV _,yv h1 (EZ _) NV ?_⟩;have e:decide ((dz (val rs) m "").map iz=[])=decide (dz (val rs) m ""=[]):=θ
 rw[e];exact q _ (g.trans Gr.push)
end My
namespace DP
open L2 MA
theorem Mb{A a:Ar}{r:Nat}{o:Obj}{kvs:List (Key×D)}(h:A[r]?=some (.dct kvs))(g:Gr (A.set r (.bB o kvs)) a):a[r]?=some (.bB o kvs)/\Gr A (a.set r (.dct kvs)):=by
 obtain⟨T,rfl⟩:=g;have hl:=(bW.mp h).1;refine⟨by rw[gB (by simpa using hl),fB hl],T,?_⟩;rw[sj _ _ (by simpa using hl),set_set];congr 1;apply nG;intro i;by_cases e:i=r
 .subst e;rw[fB hl,h]
 .rw[gP (Ne.symm e)]
theorem E2:∀(ps acc:List (Key×D)),((acc++ps).map (·.1)).Nodup->ps.foldl (λacc p=>cj acc p.1 p.2) acc=acc++ps
 |[],acc,_=>by simp
 |p::ps,acc,h=>by
  rw[gA];have c:(acc.any λa=>decide (a.1=p.1))=false:=by
   rw[List.any_eq_false];intro a b z;rw[eV] at h;exact(nh.mp h).2.2 a.1 (c9 b) p.1 θ (fS z)
  have e:cj acc p.1 p.2=acc++[p]:=by
   unfold cj;rw[c];rfl
  rw[e,E2 ps (acc++[p]) (by simpa using h)];simp
theorem Dj(g:Str->D):∀(ns:List Str) (n:Str),n∈ns->bw (ns.map λn=>((Sum.inr n:Key),g n)) (Sum.inr n)=some (g n)
 |[],n,h=>by cases h
 |x::ns,n,h=>by
  show(if (Sum.inr x:Key)=Sum.inr n then some (g x) else bw _ _)=_;by_cases e:x=n
  .rw[ao (by rw[e]),e]
  .rw[ak (λz=>e (Sum.inr.inj z))]
   rcases bz.mp h with z|z
   .exact absurd z.symm e
   .exact Dj g ns n z
noncomputable def jS(g:Str->Rat)(n:Str):D:=.tup [.str n,fq (g n)]
theorem EH(g:Str->Rat):∀ns:List Str,eK (ns.map (jS g))=some (ns.map λn=>((Sum.inr n:Key),fq (g n)))
 |[]=>rfl
 |n::ns=>by
  have:=EH g ns;simp[jS,eK,this,fO]
noncomputable def dZ(Gs:List aP):List Str:=Gs.flatMap au
noncomputable def cQ(Ts:List Tb)(Gs:List aP)(n:Str):List aP:=if n∈dZ Gs then Gs else Gs++[aO Ts n]
noncomputable def bg(Ts:List Tb):List aP:=(Ts.flatMap aA).foldl (cQ Ts) []
noncomputable def fc(lo:Nat)(A:Ar):List Nat->List aP->Prop
 |[],[]=>True
 |q::qs,P::Ps=>fW lo A q P/\fc lo A qs Ps
 |_,_=>False
theorem fc.jO{lo a:Nat}{A B:Ar}(f:∀q P,fW lo A q P->fW a B q P):∀{qs:List Nat} {Ps:List aP},fc lo A qs Ps->fc a B qs Ps
 |[],[],_=>trivial
 |q::qs,P::Ps,h=>⟨f q P h.1,fc.jO f h.2⟩
 |[],_::_,h=>h.elim
 |_::_,[],h=>h.elim
theorem fc.snoc{lo:Nat}{A:Ar}{q:Nat}{P:aP}(a:fW lo A q P):∀{qs:List Nat} {Ps:List aP},fc lo A qs Ps->fc lo A (qs++[q]) (Ps++[P])
 |[],[],_=>⟨a,trivial⟩
 |_::qs,_::Ps,h=>⟨h.1,fc.snoc a h.2⟩
 |[],_::_,h=>h.elim
 |_::_,[],h=>h.elim
theorem fc.len{lo:Nat}{A:Ar}:∀{qs:List Nat} {Ps:List aP},fc lo A qs Ps->qs.length=Ps.length
 |[],[],_=>rfl
 |q::qs,P::Ps,h=>by simp[fc.len h.2]
 |[],_::_,h=>h.elim
 |_::_,[],h=>h.elim
def IG(lo:Nat)(A:Ar)(q:Nat)(Gs:List aP):Prop:=lo<=q/\∃gs,A[q]?=some (.lst (gs.map D.ref))/\fc lo A gs Gs
def k9(b:Nat)(NN:List Str)(A:Ar)(Gs:List aP):Prop:=∃(gs:List Nat) (kvs:List (Key×D)) (ns:List Str),A[b]?=some (.lst (gs.map D.ref))/\fc (b+2) A gs Gs/\A[b+1]?=some (.dct kvs)/\kvs.map (·.1)=ns.map Sum.inr/\ns.Nodup/\(∀n,n∈ns↔n∈dZ Gs)/\∀n∈ns,n∈NN
theorem k9.set{b t:Nat}{NN:List Str}{A:Ar}{Gs:List aP}{c:C}(h:k9 b NN A Gs)(e:t<b):k9 b NN (A.set t c) Gs:=by
 obtain⟨gs,kvs,ns,h1,h2,a,d⟩:=h;exact⟨gs,kvs,ns,fR ω h1,h2.jO λq P z=>z.set ω,fR ω a,d⟩
theorem NL{kvs:List (Key×D)}{ns:List Str}(h:kvs.map (·.1)=ns.map Sum.inr):∃ps:List (Str×D),kvs=ps.map (λp=>((Sum.inr p.1:Key),p.2))/\ps.map (·.1)=ns:=by
 induction kvs generalizing ns with
 |nil=>
  cases ns with
  |nil=>exact⟨[],rfl,rfl⟩
  |cons _ _=>cases h
 |cons p kvs a=>
  cases ns with
  |nil=>cases h
  |cons m ns=>
   rw[ck,ck,List.cons.injEq] at h;obtain⟨ps,b,c⟩:=a h.2;exact⟨(m,p.2)::ps,by rw[ck,<-b,<-h.1],by rw[ck,c]⟩
theorem Eh{kvs b:List (Key×D)}{ns ms:List Str}(h1:kvs.map (·.1)=ns.map Sum.inr)(h2:b.map (·.1)=ms.map Sum.inr)(c:ns.Nodup):∃a:List Str,(jQ kvs b).map (·.1)=a.map Sum.inr/\a.Nodup/\∀n,n∈a↔n∈ns\/n∈ms:=by
 obtain⟨ps,d,e⟩:=NL h2;obtain⟨a,k1,k2,k3⟩:=C8 ps kvs ns h1 c;refine⟨a,?_,k2,λn=>by rw[k3,e]⟩;unfold jQ;rw[d];exact k1
theorem By{Ts:List Tb}{NN:List Str}(hok:cY Ts NN):∀(f i:Nat) (P:aP),fD P NN->fD (dD Ts f i P) NN/\∃X,dD Ts f i P=P++X
 |0,i,P,h=>⟨h,[],by simp[dD]⟩
 |f+1,i,P,h=>by
  cases e:P[i]? with
  |none=>
   have:dD Ts (f+1) i P=P:=by
    show(match P[i]? with|some p=>dD Ts f (i+1) ((dM Ts p.1).foldl b8 P)|none=>P)=_;rw[e]
   rw[this];exact⟨h,[],θ⟩
  |some p=>
   rw[qk e];have key:∀(ss:List bu) (Q:aP),(∀s∈ss,s∈dM Ts p.1)->fD Q NN->p.1∈au Q->fD (ss.foldl b8 Q) NN:=by
    intro ss;induction ss with
    |nil=>intro Q _ h _;exact h
    |cons s ss c=>
     intro Q b d a;obtain⟨T,g,_,j,k⟩:=mW.mp (b s (br ..));refine c _ (λx hx=>b x (bq _ hx)) (d.add (by rw[j];exact a) (hok.sub T (bP g) _ k)) ?_;exact(qg Q s p.1).mpr (.inl a)
   have a:p.1∈au P:=c9 (bP e);obtain⟨h1,X,h2⟩:=By hok f (i+1) _ (key (dM Ts p.1) P (λs h=>h) h a);obtain⟨Y,l⟩:=uf (dM Ts p.1) P;exact⟨h1,Y++X,by rw[h2,l,List.append_assoc]⟩
theorem gY{Ts:List Tb}{NN:List Str}(hok:cY Ts NN){n:Str}(a:n∈NN):fD (aO Ts n) NN/\n∈au (aO Ts n)/\cy (aO Ts n) n=[]:=by
 have h0:fD [(n,[])] NN:=⟨by simp[au],λm b=>by
  have:m=n:=by simpa[au] using b
  rw[this];exact a,λp c=>by
  have:p=(n,[]):=by simpa using c
  rw[this];simp⟩
 obtain⟨h1,X,h2⟩:=By hok 14 0 _ h0;have d:n∈au [(n,([]:List bu))]:=by simp[au]
 refine⟨h1,?_,?_⟩
 .show n∈au (dD Ts 14 0 [(n,[])])
  rw[h2];simp[au]
 .show cy (dD Ts 14 0 [(n,[])]) n=[]
  rw[h2,D3 d];simp[cy]
theorem Me{Ts:List Tb}{NN:List Str}(hok:cY Ts NN){Gs:List aP}{n:Str}(a:n∈NN):n∈dZ (cQ Ts Gs n)/\∀m∈dZ Gs,m∈dZ (cQ Ts Gs n):=by
 unfold cQ;split
 .rename_i h
  exact⟨h,λ_ h=>h⟩
 .unfold dZ
  rw[sL];refine⟨gx _ ?_,λm b=>kP _ b⟩;simp;exact(gY hok a).2.1
theorem Dq{Ts:List Tb}{NN:List Str}(hok:cY Ts NN):∀(ns:List Str) (Gs:List aP),(∀n∈ns,n∈NN)->(∀n∈ns,n∈dZ (ns.foldl (cQ Ts) Gs))/\∀m∈dZ Gs,m∈dZ (ns.foldl (cQ Ts) Gs)
 |[],Gs,_=>⟨(λ_ h=>by cases h),λ_ h=>h⟩
 |n::ns,Gs,h=>by
  obtain⟨k1,k2⟩:=Me hok (Gs:=Gs) (h n (br ..));obtain⟨b,a⟩:=Dq hok ns (cQ Ts Gs n) λm hm=>h m (bq _ hm);refine⟨λm hm=>?_,λm hm=>a m (k2 m hm)⟩;rcases bz.mp hm with rfl|hm
  .exact a _ k1
  .exact b m hm
theorem mP{Ts:List Tb}{NN:List Str}(hok:cY Ts NN){T:Tb}(a:T∈Ts){n:Str}(b:n∈aA T):n∈dZ (bg Ts):=by
 refine(Dq hok (Ts.flatMap aA) [] λm c=>?_).1 n (gy.mpr ⟨T,a,b⟩);obtain⟨d,h1,h2⟩:=gy.mp c;exact hok.sub d h1 m h2
theorem yH(Ts:List Tb):∀(ns:List Str) (Gs:List aP),(ns.foldl (cQ Ts) Gs).length<=Gs.length+ns.length
 |[],Gs=>aG _
 |n::ns,Gs=>by
  have h:=yH Ts ns (cQ Ts Gs n);have h2:(cQ Ts Gs n).length<=Gs.length+1:=by
   unfold cQ;split
   .omega
   .simp
  rw[gA,gv];omega
theorem Ek:∀(Ts:List Tb),(∀T∈Ts,T.length<=32)->(Ts.flatMap aA).length<=32*Ts.length
 |[],_=>by simp
 |T::Ts,h=>by
  have h1:=Ek Ts λq a=>h q (bq _ a);have h2:=h T (br ..);have e:(aA T).length=T.length:=by simp[aA]
  rw[sM,dc,gv];omega
def s8:Ct:=λds A R _=>∃r Ts NN,ds=[.ref r]/\gQ A r Ts/\cY Ts NN/\∀A' q,Gr A A'->IG A.length A' q (bg Ts)->R (.ref q) A'
theorem TabsAt.fz{A:Ar}{t:Nat}{o:Obj}{T0:Tb}(h0:A[t]?=some (.dct (bE T0))):∀{a:List Nat} {Ts:List Tb},TabsAt A a Ts->TabsAt (A.set t (.bB o (bE T0))) a Ts
 |[],[],_=>trivial
 |q::qs,T::Ts,h=>by
  refine⟨?_,TabsAt.fz h0 h.2⟩;by_cases e:t=q
  .subst e
   rcases h.1 with h'|⟨o',h'⟩
   .rw[h0] at h'
    have b:bE T0=bE T:=by
     have h':=Option.some.inj h';injection h'
    exact .inr ⟨o,by rw[fB (gH h0),b]⟩
   .rw[h0] at h'
    cases h'
  .rcases h.1 with h'|⟨o',h'⟩
   .exact .inl (fR e h')
   .exact .inr ⟨o',fR e h'⟩
 |[],_::_,h=>h.elim
 |_::_,[],h=>h.elim
end DP
namespace My
open L2 DP MA
theorem La(T:TopD K mg "groups" Ga oW)(b:ay P w K mg base 2 "paths_from" rm (av mg 2 tu)):ay P w K mg base 3 "groups" oW (av mg 1 s8):=by
 refine iX T GO rfl δ λN RE f cdv B outer s H E hr hR hx ds A R h hl=>?_;have hu:=hr.units;have nd:=GO.nd;refine⟨_,(aI (dS 1 nd (c8 ah))
  (aI (dS 2 nd yi)
  (aI (gm fQ rfl (di (vr 0)) (dG 3 nd) (aF (Kl (gm fQ rfl (qy (vr 3)) (dG 4 nd) (aF (cF (pA hu (vr 4) (vr 2)) (aI (dS 5 nd (dL b hr hx (aa (vr 0) (aa (vr 4) ah))))
  (aI (fY (Cm PySem.F.plainAttrs_dict slot_dict_update PySem.F.type_dict_update Ej Ci (vr 2) (aa (vr 5) ah)))
  (aF (fY (lz lY sD sI oO qu (vr 1) (aa (vr 5) ah)))))) cO))))))
  (aF (aU (vr 1)))))),?_⟩
 obtain⟨r,Ts,NN,rfl,hB,hok,q⟩:=h;obtain⟨J,h1,h2⟩:=id hB;have hz:(1000:Nat)<=sizeLine:=δ
 have e1:(A++[C.lst []]).length=A.length+1:=θ
 have g0:Gr A (A++[C.lst []]++[C.dct []]):=Gr.push.trans Gr.push;refine⟨bV _,dY (g0.get h1) ?_⟩;rw[e1];have qH:k9 A.length NN (A++[C.lst []]++[C.dct []]) []:=⟨[],[],[],getElem?_push aH,trivial,by rw[<-e1];exact aH,rfl,nodup_nil,λn=>by simp[dZ],λn h=>by cases h⟩;refine gk (λrest τ A'=>∃(i:Nat) (x y z:Option D),i<=J.length/\rest=(J.map D.ref).drop i/\τ=[some (.ref r),some (.ref A.length),some (.ref (A.length+1)),x,y,z]/\k9 A.length NN A' (((Ts.take i).flatMap aA).foldl (cQ Ts) [])/\Gr A A') ?_ ?_ ?_ _ _ _ ⟨0,none,none,none,bV _,rfl,rfl,qH,g0⟩
 .rintro rest τ A' ⟨i,x,y,z,_,_,_,_,g⟩
  exact g.get h1
 .rintro v rest τ A1 ⟨i,x,y,z,hi,e,rfl,Y,g⟩ Nx hN
  by_cases hlt:i<J.length
  .obtain⟨t,ht⟩:∃t,J[i]?=some t:=⟨J[i],aW hlt⟩
   obtain⟨T0,hT,hA⟩:=h2.get ht;have US:=hA.gr g;have M:i<(J.map D.ref).length:=by rw[aS];exact hlt
   have ev:(J.map D.ref)[i]?=some (.ref t):=by rw[bO,ht];rfl
   rw[mq M] at e;rw[aW M] at ev;have ev:=Option.some.inj ev;rw[ev] at e;cases e;have DC:T0∈Ts:=bP hT;have tl:t<A.length:=by
    rcases hA with h'|⟨_,h'⟩
    .exact gH h'
    .exact gH h'
   have yw:(Ts.take (i+1)).flatMap aA=(Ts.take i).flatMap aA++aA T0:=by
    rw[take_succ,hT,sL];simp
   obtain⟨O,S⟩:∃G,G=((Ts.take i).flatMap aA).foldl (cQ Ts) []:=⟨_,rfl⟩;have Q:((Ts.take (i+1)).flatMap aA).foldl (cQ Ts) []=(aA T0).foldl (cQ Ts) O:=by rw[yw,mw,S]
   rw[<-S] at Y;have em:((bE T0).map λp=>keyOf p.1)=(aA T0).map D.str:=yT T0;have go:∀(o:Obj) (U B1:Ar) (Dn:k8),U.length=A.length->U[t]?=some (.bB o (bE T0))->gQ U r Ts->Gr U B1->k9 A.length NN B1 O->(∀(Z:Ar) (y z:Option D),k9 A.length NN Z ((aA T0).foldl (cQ Ts) O)->Gr U Z->Dn.nx [some (.ref r),some (.ref A.length),some (.ref (A.length+1)),some (.ref t),y,z] Z)->
     zM (lE (bf 3)) (gN 4) (o6 (dh (bL (inD true) (bf 4) (bf 2))) (f9 (gI 5 (gE 2 tu RE (bG (bf 0) (bG (bf 4) cg)))) (f9 (zL (B6 Aa (bf 2) (bG (bf 5) cg))) (zL (B5 xE (bf 1) (bG (bf 5) cg))))) o7) Dn [some (.ref r),some (.ref A.length),some (.ref (A.length+1)),some (.ref t),y,z] B1:=λo U B1 Dn UX hf Ml g1 Mw fin=>by
    refine uw (g1.get hf) ?_;rw[em];refine gk (λrest τ B'=>∃(k a:List Str) (y z:Option D),rest=a.map D.str/\k++a=aA T0/\τ=[some (.ref r),some (.ref A.length),some (.ref (A.length+1)),some (.ref t),y,z]/\k9 A.length NN B' (k.foldl (cQ Ts) O)/\Gr U B') ?_ ?_ ?_ _ _ _ ⟨[],aA T0,y,z,rfl,rfl,rfl,Mw,g1⟩
    .rintro rest τ B' ⟨_,_,_,_,_,_,_,_,g'⟩
     exact g'.get hf
    .rintro v rest τ B' ⟨k,a,y,z,e,d,rfl,L,g'⟩ UO Dz
     cases a with
     |nil=>cases e
     |cons n a=>
     cases e;have MK:n∈aA T0:=by rw[<-d];simp
     have DA:n∈NN:=hok.sub T0 DC n MK;have l:(k++[n]).foldl (cQ Ts) O=cQ Ts (k.foldl (cQ Ts) O) n:=by rw[mw];rfl
     generalize Mn:k.foldl (cQ Ts) O=G3 at*
     obtain⟨gs,kvs,ns,k1,k2,k3,k4,k5,k6,k7⟩:=id L;refine oz k3 rfl ?_;rw[ao rfl,qM k4];refine cN (λc=>?_) (λc=>?_)
     .have V:n∉dZ G3:=λz=>c ((k6 n).mpr z)
      obtain⟨mZ,_,_⟩:=gY hok DA;refine⟨rfl,r,n,Ts,NN,rfl,Ml.gr g',hok,DA,λZ q2 I h2=>?_⟩;obtain⟨lq,u,m1,m2,m3⟩:=id h2;have lB:=gH k3;have ln:ns.length<=12:=cV (iA ns NN k5 k7) hok.nn;have NZ:kvs.length=ns.length:=by
       have:=cB List.length k4;simpa using this
      have N1:u.length=(aO Ts n).length:=by
       have:=cB List.length m2;simpa[au] using this
      have lP:=mZ.len;have OC:=hok.nn;refine⟨DH (I.get k3),HJ (I.get k3) m1 ω ω ?_⟩;have hb:=fR (i:=A.length+1) (j:=A.length) (c:=C.dct (jQ kvs u)) ω (I.get k1);have oG:=k2.len;refine⟨lH hb,qi hb ?_ ?_⟩
      .rw[aS,oG]
       have l1:=yH Ts k O;have l2:=yH Ts ((Ts.take i).flatMap aA) [];have l3:=Ek (Ts.take i) λT' Mx=>(hok.tok T' (rZ Mx)).len;have l4:k.length<=32:=by
        have h1:=cB List.length d;have h2:=(hok.tok T0 DC).len;have e:(aA T0).length=T0.length:=by simp[aA]
        rw[dc] at h1;omega
       rw[lW] at l3;have h7:=hok.len;rw[Mn] at l1;rw[<-S] at l2;rw[length_nil,zero_add] at l2;omega
      obtain⟨ns',j1,j2,j3⟩:=Eh k4 m2 k5;have eg:cQ Ts G3 n=G3++[aO Ts n]:=by unfold cQ;rw[ak V]
      refine Dz _ _ ⟨k++[n],a,_,_,rfl,by simpa using d,rfl,?_,?_⟩
      .rw[l,eg]
       refine⟨gs++[q2],_,ns',?_,?_,fR ω (rK (I.get k3)),j1,j2,λm=>?_,λm hm=>?_⟩
       .rw[eV]
        exact rK hb
       .refine fc.snoc ?_ (k2.jO λq P z=>((z.gr I).set ω).set ω)
        exact((h2.lo ω).set ω).set ω
       .rw[j3,k6]
        simp[dZ]
       .rcases (j3 m).mp hm with h'|h'
        .exact k7 m h'
        .exact mZ.sub m h'
      .exact(((g'.trans I).set ω).set ω)
     .have V:n∈dZ G3:=(k6 n).mp c
      have eg:cQ Ts G3 n=G3:=by unfold cQ;rw[ao V]
      refine Dz _ _ ⟨k++[n],a,_,_,rfl,by simpa using d,rfl,?_,g'⟩;rw[l,eg];exact L
    .rintro τ B' ⟨k,a,y,z,e,d,rfl,L,g'⟩
     cases a with
     |cons _ _=>cases e
     |nil=>
     have d:k=aA T0:=by simpa using d
     subst d;exact fin B' y z L g'
   rcases hA with hd|⟨o,hd⟩
   .refine .inl ⟨t,bE T0,g.get hd,λo=>?_⟩
    have UP:A1.set t (.bB o (bE T0))=A1.set t (.bB o (bE T0)):=rfl;have Mg:Gr (A.set t (.bB o (bE T0))) (A1.set t (.bB o (bE T0))):=by
     obtain⟨X,rfl⟩:=g;exact⟨X,by rw[sj _ _ tl]⟩
    refine go o (A.set t (.bB o (bE T0))) _ _ θ (fB tl) ⟨J,?_,h2.fz hd⟩ Mg (Y.set tl) λZ y z W I=>?_
    .have:t≠r:=λz=>by rw[z,h1] at hd;cases hd
     exact fR this h1
    .obtain⟨u1,u2⟩:=Mb hd I
     refine⟨bE T0,u1,hN _ _ ⟨i+1,_,_,_,ω,rfl,rfl,?_,u2⟩⟩;rw[Q];exact W.set tl
   .refine .inr (go o A _ _ rfl hd hB g Y λZ y z W I=>hN _ _ ⟨i+1,_,_,_,ω,rfl,rfl,?_,I⟩)
    rw[Q];exact W
  .rw[sJ (by rw[aS];omega)] at e
   cases e
 .rintro τ A1 ⟨i,x,y,z,hi,e,rfl,Y,g⟩
  have hi:i=J.length:=by
   have:=cB List.length e;simp at this;omega
  have N_:=h2.len;rw[hi,N_,take_length] at Y;obtain⟨gs,kvs,ns,k1,k2,_⟩:=Y;exact q _ _ g ⟨aG _,gs,k1,k2.jO λq P z=>z.lo ω⟩
end My
namespace DP
open L2 MA
noncomputable def bwd(ss:List bu):List bu:=ss.reverse.map λs=>(s.1,s.2.2,s.2.1)
noncomputable def vH(Ts:List Tb)(i:Nat)(n:Str):Rat:=match Ts[i]? with
 |some T=>cU T n
 |none=>0
noncomputable def b5(Ts:List Tb)(s:bu):Rat:=vH Ts s.1 s.2.2/vH Ts s.1 s.2.1
noncomputable def c7(Ts:List Tb)(ss:List bu):Rat:=ss.foldl (λx s=>x*b5 Ts s) 1
def dH(Ts:List Tb)(s:bu):Prop:=∃T,Ts[s.1]?=some T/\s.2.1∈aA T/\s.2.2∈aA T
theorem jT{Ts:List Tb}{i:Nat}{T:Tb}(h:Ts[i]?=some T)(n:Str):vH Ts i n=cU T n:=by
 unfold vH;rw[h]
theorem vz{a b:Int}(d:0<a)(c:0<b):(rf ((a:Rat)/(b:Rat))).1<=a/\(rf ((a:Rat)/(b:Rat))).2<=b:=by
 rw[<-vA c];exact⟨pU _ (d9 d),pU _ (d9 c)⟩
theorem QY{x y:Rat}(hx:0<x)(hy:0<y):(rf (x*y)).1<=(rf x).1*(rf y).1:=by
 rw[<-Fy];exact(vz (fK (dQ hx) (dQ hy)) (fK (dj x) (dj y))).1
theorem yp{x y:Rat}(hx:0<x)(hy:0<y):x/y=(((rf x).1*(rf y).2:Int):Rat)/(((rf x).2*(rf y).1:Int):Rat):=by
 have h1:=ko (jc (dj x));have h2:=ko (jc (dj y));have a:=ko (jc (dQ hy));conv=>lhs;rw[<-jv x,<-jv y]
 rw[eW,eW];grind
theorem G4{Ts:List Tb}{s:bu}(c:∀T∈Ts,jl T)(h:dH Ts s):0<b5 Ts s/\(rf (b5 Ts s)).1<=4000000000000/\(rf (b5 Ts s)).2<=4000000000000:=by
 obtain⟨T,h1,h2,d⟩:=h;have b:=c T (bP h1);have f2:=kM b h2;have a:=kM b d;unfold b5;rw[jT h1,jT h1];have p2:=dQ f2.pos;have e:=dQ a.pos;have d2:=dj (cU T s.2.1);have d3:=dj (cU T s.2.2);have hpos:0<cU T s.2.2/cU T s.2.1:=by
  rw[iI];exact eY a.pos (jd.mpr f2.pos)
 refine⟨hpos,?_⟩;rw[yp a.pos f2.pos];obtain⟨k1,k2⟩:=vz (fK e d2) (fK d3 p2);have f:(rf (cU T s.2.2)).1*(rf (cU T s.2.1)).2<=2000000*2000000:=d8 a.num f2.den (d9 d2) δ;have g:(rf (cU T s.2.2)).2*(rf (cU T s.2.1)).1<=2000000*2000000:=d8 a.den f2.num (d9 p2) δ;exact⟨ω,ω⟩
theorem BW{Ts:List Tb}(a:∀T∈Ts,jl T):∀(ss:List bu) (x:Rat) (k:Nat),(∀s∈ss,dH Ts s)->0<x->(rf x).1<=(4000000000000:Int) ^ k->0<ss.foldl (λx s=>x*b5 Ts s) x/\(rf (ss.foldl (λx s=>x*b5 Ts s) x)).1<=(4000000000000:Int) ^ (k+ss.length)
 |[],x,k,_,h1,h2=>⟨h1,h2⟩
 |s::ss,x,k,b,h1,h2=>by
  obtain⟨p,q,_⟩:=G4 a (b s (br ..));have hx:(rf (x*b5 Ts s)).1<=(4000000000000:Int) ^ (k+1):=by
   refine dN (QY h1 p) ?_;rw[j6];exact d8 h2 q (d9 (dQ p)) (pow_nonneg δ)
  have:=BW a ss (x*b5 Ts s) (k+1) (λy hy=>b y (bq _ hy)) (eY h1 p) hx;rw[gA,gv,show k+(ss.length+1)=k+1+ss.length by omega];exact this
theorem xX{Ts:List Tb}(a:∀T∈Ts,jl T){ss:List bu}(b:∀s∈ss,dH Ts s):0<c7 Ts ss/\(rf (c7 Ts ss)).1<=(4000000000000:Int) ^ ss.length:=by
 have:=BW a ss 1 0 b δ (by rw[zK];decide);rw[zero_add] at this;exact this
theorem qp(Ts:List Tb)(ss:List bu)(s:bu):c7 Ts (ss++[s])=c7 Ts ss*b5 Ts s:=by
 unfold c7;rw[mw];rfl
theorem DM{A:Ar}{t:Nat}{T:Tb}{n:Str}{R:DK}(h:TabAt A t T)(a:n∈aA T)(k:R (fq (cU T n)) A):kF t (.str n) A R:=by
 rcases h with h|⟨o,h⟩
 .exact kG h rfl (Dk a) k
 .exact DO h rfl (Dk a) k
def AQ:Ct:=λds A R _=>∃q ss,ds=[.ref q]/\A[q]?=some (.lst (ss.map b9))/\ss.length<=100/\∀A' p,Gr A A'->A'[p]?=some (.lst ((bwd ss).map b9))->A.length<=p->R (.ref p) A'
def xg:Ct:=λds A R _=>∃r q Ts ss,ds=[.ref r,.ref q]/\gQ A r Ts/\(∀T∈Ts,jl T)/\A[q]?=some (.lst (ss.map b9))/\(∀s∈ss,dH Ts s)/\ss.length<=45/\∀A',Gr A A'->R (fq (c7 Ts ss)) A'
theorem Qj{c k:Nat}(h:c ^ (k+1)<2 ^ 2000):(c:Int) ^ k*(c:Int)<2 ^ 2000:=by
 have e:(c:Int) ^ k*(c:Int)=((c ^ (k+1):Nat):Int):=by rw[r8,j6]
 rw[e];have h2:((2 ^ 2000:Nat):Int)=(2:Int) ^ 2000:=r8 2 2000;rw[<-h2];exact Int.ofNat_lt.mpr h
theorem EW{k:Nat}(h:k<=45):(4000000000000:Int) ^ k*4000000000000<2 ^ 2000:=
 Qj (c:=4000000000000) (Nat.lt_of_le_of_lt (dR δ (show k+1<=46 by omega)) η)
noncomputable def fJ(T:Tb):Str:=open Classical in if h:∃m,m∈aA T/\∀n∈aA T,¬n.cps.toList<m.cps.toList then Classical.choose h else default
theorem ze{T:Tb}{m:Str}(h1:m∈aA T)(h2:∀n∈aA T,¬n.cps.toList<m.cps.toList):fJ T=m:=by
 have h:∃m,m∈aA T/\∀n∈aA T,¬n.cps.toList<m.cps.toList:=⟨m,h1,h2⟩;have e:fJ T=Classical.choose h:=by unfold fJ;rw[dif_pos h]
 obtain⟨k1,k2⟩:=Classical.choose_spec h;rw[e];generalize Classical.choose h=x at k1 k2;have a:=h2 x k1;have b:=k2 m h1;have c:x.cps.toList=m.cps.toList:=le_antisymm (not_lt.mp b) (not_lt.mp a);obtain⟨⟨x⟩⟩:=x;obtain⟨⟨m⟩⟩:=m;simp at c;rw[c]
noncomputable def iR(p:Tb×Nat):List bu:=(aA p.1).map (λo=>(p.2,fJ p.1,o))
noncomputable def jq(Ts:List Tb):List bu:=Ts.zipIdx.flatMap iR
def AV:Ct:=λds A R _=>∃r Ts,ds=[.ref r]/\gQ A r Ts/\Ts.length<=7/\(∀T∈Ts,jl T)/\∀A' q,Gr A A'->A'[q]?=some (.lst ((jq Ts).map b9))->A.length<=q->R (.ref q) A'
theorem BR:∀(l:List (Tb×Nat)),(∀p∈l,p.1.length<=32)->(l.flatMap iR).length<=32*l.length
 |[],_=>by simp
 |p::l,h=>by
  have h1:=BR l λq a=>h q (bq _ a);have h2:(iR p).length<=32:=by
   unfold iR;rw[aS];have:=h p (br ..);simpa[aA] using this
  rw[sM,dc,gv];omega
end DP
namespace My
open L2 DP MA
theorem K1(T:TopD K mg "backward" FY uR)(g:mg "reversed"=none):ay P w K mg base 1 "backward" uR (av mg 1 AQ):=by
 refine bT T Ry λk l hx m nd=>⟨_,(aF (aU (gF (some 3) (own:=["place","one","other"]) (frees:=[]) (ix:=[]) rfl (Ka g (aa (vr 0) ah)) (λc=>(vq rfl (kI (pG 0 (show(["place","one","other"]:List Str).Nodup by decide+kernel)) (kI (pG 1 (show(["place","one","other"]:List Str).Nodup by decide+kernel)) (kI (pG 2 (show(["place","one","other"]:List Str).Nodup by decide+kernel)) vt))))) (λc=>(dW (aa (vr 0) (aa (vr 2) (aa (vr 1) ah)))))))),λds A R h hl=>?_⟩;obtain⟨n,ss,rfl,h1,i,q⟩:=h;have hz:(1000:Nat)<=sizeLine:=δ
 refine yP h1 ?_;refine iS (f:=λd=>match d with|.tup [a,b,c]=>.tup [a,c,b]|d=>d) h1 _ _ (λd hd=>?_) (by simp;omega) ?_
 .rw[List.mem_reverse] at hd
  obtain⟨st,_,rfl⟩:=aN.mp hd;exact⟨[.int ((st.1:Nat):Int),.str st.2.1,.str st.2.2],rfl,λQ j=>⟨show 3<=sizeLine by omega,j⟩⟩
 have e:((ss.map b9).reverse.map λd=>match d with|.tup [a,b,c]=>D.tup [a,c,b]|d=>d)=(bwd ss).map b9:=by
  unfold bwd;rw[<-List.map_reverse,bY,bY];rfl
 rw[fL,e];exact q _ _ Gr.push aH (aG _)
theorem K7(T:TopD K mg "comes_to" F7 qZ)(k:ay P w K mg base 3 "product" rq (av mg 2 qc))(i:ay P w K mg base 3 "quotient" vf (av mg 2 (λds A R E=>∃a b c d:Int,ds=[.tup [.int a,.int b],.tup [.int c,.int d]]/\qc [.tup [.int a,.int b],.tup [.int d,.int c]] A R E))):ay P w K mg base 4 "comes_to" qZ (av mg 2 xg):=by
 refine bT T RL λN hR hx H nd=>⟨_,(aI (dS 2 nd (dW (aa aC (aa aC ah))))
  (aI (gm fQ rfl (di (vr 1)) (nZ rfl (gV (dG 3 nd) (gV (dG 4 nd) (gV (dG 5 nd) n9)))) (aF (dS 2 nd (dL k N hx (aa (vr 2) (aa (dL i N hx (aa (dX H (dX H (vr 0) (vr 3)) (vr 5)) (aa (dX H (dX H (vr 0) (vr 3)) (vr 4)) ah))) ah))))))
  (aF (aU (vr 2))))),λds A R h hl=>?_⟩
 obtain⟨r,Z,Ts,ss,rfl,hB,J,h1,O,Q,q⟩:=h;obtain⟨I,n,o⟩:=hB;have hz:(1000:Nat)<=sizeLine:=δ
 refine⟨show 2<=sizeLine by omega,dY h1 ?_⟩;refine gk (λrest τ A'=>∃(l f:List bu) (x y z:Option D),rest=f.map b9/\l++f=ss/\τ=[some (.ref r),some (.ref Z),some (fq (c7 Ts l)),x,y,z]/\Gr A A') ?_ ?_ ?_ _ _ _ ⟨[],ss,none,none,none,rfl,rfl,rfl,Gr.refl⟩
 .rintro rest τ A' ⟨_,_,_,_,_,_,_,_,g⟩
  exact g.get h1
 .rintro v rest τ A1 ⟨l,f,x,y,z,e,j,rfl,g⟩ Nx hN
  cases f with
  |nil=>cases e
  |cons st f=>
  cases e;have p:=O st (by rw[<-j];simp);have L:∀s∈l,dH Ts s:=λs h=>O s (by rw[<-j];simp[h]);obtain⟨c1,c2⟩:=xX J L;obtain⟨S,d2,d3⟩:=G4 J p;have ldn:l.length<=45:=by
   have:=cB List.length j;simp at this;omega
  obtain⟨T0,u,U,V⟩:=p;have M:st.1<I.length:=by rw[o.len];exact(bW.mp u).1
  obtain⟨t,B⟩:∃t,I[st.1]?=some t:=⟨I[st.1],aW M⟩;obtain⟨T1,C,hA⟩:=o.get B;rw[u] at C;cases C;have F:=hA.gr g;have G:cM (I.map D.ref) ((st.1:Nat):Int)=some (.ref t):=nS (by rw[bO,B];rfl);have m:=J T0 (bP u);have f1:=kM m U;have f2:=kM m V;have W:=dQ f1.pos;have p2:=dQ f2.pos;have X:=dj (cU T0 st.2.1);have Y:=dj (cU T0 st.2.2);have IY:(2000000:Int)<2 ^ 64:=δ
  have n1:=f1.num;have n2:=f2.num;have k1:=f1.den;have k2:=f2.den;refine⟨rfl,oE (g.get n) G (DM F V (oE (g.get n) G (DM F U ?_)))⟩;refine⟨rfl,_,_,_,_,rfl,_,_,_,_,rfl,p2,Y,X,W,ω,ω,?_,λA2 g2=>?_⟩
  .have:(rf (cU T0 st.2.2)).1*(rf (cU T0 st.2.1)).2<=2000000*2000000:=d8 n2 k1 (d9 X) δ
   exact Int.lt_of_le_of_lt (show _<=(4000000000000:Int) ^ 0*4000000000000 by rw[Int.pow_zero];omega) (EW δ)
  have eq:((rf (cU T0 st.2.2)).1:Rat)/((rf (cU T0 st.2.2)).2:Rat)*(((rf (cU T0 st.2.1)).2:Rat)/((rf (cU T0 st.2.1)).1:Rat))=b5 Ts st:=by
   unfold b5;rw[jT u,jT u,<-mul_div Y W,<-yp f2.pos f1.pos]
  rw[eq];refine⟨rfl,_,_,_,_,rfl,dQ c1,dj _,dQ S,dj _,ω,ω,?_,λA3 g3=>?_⟩
  .refine Int.lt_of_le_of_lt ?_ (EW ldn)
   exact d8 c2 d2 (d9 (dQ S)) (pow_nonneg δ)
  rw[jv,jv];exact hN _ _ ⟨l++[st],f,_,_,_,rfl,by simpa using j,by rw[qp];rfl,(g.trans g2).trans g3⟩
 .rintro τ A1 ⟨l,f,x,y,z,e,j,rfl,g⟩
  cases f with
  |cons _ _=>cases e
  |nil=>
  have j:l=ss:=by simpa using j
  subst j;exact q _ g
theorem K6(T:TopD K mg "closing_steps" F6 uW)(a:mg "enumerate"=none)(k:mg "min"=none):ay P w K mg base 1 "closing_steps" uW (av mg 1 AV):=by
 refine bT T RJ λW X hx Y nd=>⟨_,(aI (dS 1 nd (c8 ah))
  (aI (gm fQ rfl (Cy a (aa (vr 0) ah)) (nZ rfl (gV (dG 2 nd) (gV (dG 3 nd) n9))) (aI (dS 4 nd (dI (BK rfl) Cb k boot_min (aa (vr 3) ah)))
  (aF (fY (lz lY wg type_list_extend Ei B_ (vr 1) (aa (tY (gF none (own:=["other"]) (frees:=["place","first"]) (ix:=[2,4]) rfl (qy (vr 3)) (λc=>(pG 0 (show(["other","place","first"]:List Str).Nodup by decide+kernel))) (λc=>(dW (aa (vr 1) (aa (vr 2) (aa (vr 0) ah))))))) ah))))))
  (aF (aU (vr 1))))),λds A R h hl=>?_⟩
 obtain⟨r,Ts,rfl,J,Z,b,q⟩:=h;obtain⟨d,h1,h2⟩:=J;have hz:(1000:Nat)<=sizeLine:=δ
 have B:=h2.len;have C:∀T∈Ts,T.length<=32:=λT u=>(b T u).len;have len:∀i,((Ts.zipIdx.take i).flatMap iR).length<=224:=λi=>by
  have:=BR (Ts.zipIdx.take i) λp L=>by
   have:=pM.mp (rZ L);exact C _ (bP this)
  rw[lW,v9] at this;omega
 refine⟨bV _,yP (getElem?_push h1) ?_⟩;refine gk (λrest τ A'=>∃(i:Nat) (x y z:Option D),i<=d.length/\rest=(gW (d.map D.ref)).drop i/\τ=[some (.ref r),some (.ref A.length),x,y,z]/\A'[A.length]?=some (.lst (((Ts.zipIdx.take i).flatMap iR).map b9))/\Gr A A') ?_ ?_ ?_ _ _ _ ⟨0,none,none,none,bV _,rfl,rfl,aH,Gr.push⟩
 .rintro rest τ A' ⟨i,x,y,z,_,_,_,_,g⟩
  exact g.get h1
 .rintro v rest τ M ⟨i,x,y,z,hi,e,rfl,hc,g⟩ Nx N
  by_cases l:i<d.length
  .obtain⟨t,I⟩:∃t,d[i]?=some t:=⟨d[i],aW l⟩
   obtain⟨T0,u,O⟩:=h2.get I;have n:=O.gr g;have f:i<(gW (d.map D.ref)).length:=by rw[oi,aS];exact l
   have ev:=CQ (ds:=d.map D.ref) (i:=i) (x:=.ref t) (by rw[bO,I];rfl);rw[mq f] at e;rw[aW f] at ev;have ev:=Option.some.inj ev;rw[ev] at e;cases e;have j:=b T0 (bP u);have E:((Ts.zipIdx.take (i+1)).flatMap iR)=((Ts.zipIdx.take i).flatMap iR)++iR (T0,i):=by
    rw[HQ u,sL];simp
   have ln:=len i;have F:aA T0≠[]:=λz=>j.ne (by simpa[aA] using z);have S:=j.len;have G:(aA T0).length=T0.length:=by simp[aA]
   refine⟨rfl,Eg n (NH T0) F λm U s=>?_⟩;have H:=ze U s;refine⟨lH hc,C9 (λo=>.tup [.int ((i:Nat):Int),.str m,o]) rfl n ω (λA' o ho Q V=>⟨show 3<=sizeLine by omega,V⟩) ?_⟩;refine C0 (getElem?_push hc) aH (by rw[aS,aS,G];omega) ?_;have em:((aA T0).map λo=>D.tup [.int ((i:Nat):Int),.str m,.str o])=(iR (T0,i)).map b9:=by
    unfold iR;rw[bY,H];rfl
   refine N _ _ ⟨i+1,_,_,_,ω,rfl,rfl,?_,(g.trans Gr.push).set (aG _)⟩;rw[E,eV,em];exact get_set (getElem?_push hc)
  .rw[sJ (by rw[oi,aS];omega)] at e
   cases e
 .rintro τ M ⟨i,x,y,z,hi,e,rfl,hc,g⟩
  have hi:i=d.length:=by
   have:=cB List.length e;simp[oi] at this;omega
  rw[hi,B,wH (by rw[v9];exact aG _)] at hc;exact q _ _ g hc (aG _)
end My
namespace DP
open L2 MA
noncomputable def fH(Gs:List aP)(n:Str):List bu:=Gs.foldl (λacc P=>if n∈au P then cy P n else acc) []
theorem N2(Gs:List aP)(P:aP)(n:Str):fH (Gs++[P]) n=if n∈au P then cy P n else fH Gs n:=by
 unfold fH;rw[mw];rfl
noncomputable def gZ(Ts:List Tb)(s:bu):List bu:=fH (bg Ts) s.2.1++[s]++bwd (fH (bg Ts) s.2.2)
noncomputable def dw(Ts:List Tb):Option (List bu):=((jq Ts).map (gZ Ts)).find? (λss=> !decide (c7 Ts ss=1))
theorem fc.get{lo:Nat}{A:Ar}:∀{qs:List Nat} {Ps:List aP} {i q:Nat},fc lo A qs Ps->qs[i]?=some q->∃P,Ps[i]?=some P/\fW lo A q P
 |[],[],i,t,_,e=>by simp at e
 |t::a,T::Ts,0,_,h,e=>by
  simp at e;subst e;exact⟨T,rfl,h.1⟩
 |t::a,T::Ts,i+1,_,h,e=>by
  obtain⟨b,h1,h2⟩:=fc.get (i:=i) h.2 (by simpa using e);exact⟨b,by simpa using h1,h2⟩
 |[],_::_,_,_,h,_=>h.elim
 |_::_,[],_,_,h,_=>h.elim
theorem Ds{Ts:List Tb}:∀(ns:List Str) (Gs:List aP) (P:aP),P∈ns.foldl (cQ Ts) Gs->P∈Gs\/∃n∈ns,P=aO Ts n
 |[],Gs,P,h=>.inl h
 |n::ns,Gs,P,h=>by
  rcases Ds ns (cQ Ts Gs n) P h with h|⟨m,h1,h2⟩
  .unfold cQ at h
   split at h
   .exact .inl h
   .rcases b_.mp h with h|h
    .exact .inl h
    .exact .inr ⟨n,br ..,bH.mp h⟩
  .exact .inr ⟨m,bq _ h1,h2⟩
theorem fZ{Ts:List Tb}{NN:List Str}(hok:cY Ts NN){P:aP}(h:P∈bg Ts):∃n∈NN,(∃T∈Ts,n∈aA T)/\P=aO Ts n:=by
 rcases Ds _ _ P h with h|⟨n,h1,h2⟩
 .cases h
 .obtain⟨T,a,b⟩:=gy.mp h1
  exact⟨n,hok.sub T a n b,⟨T,a,b⟩,h2⟩
theorem BA{Ts:List Tb}:∀(f i:Nat) (P:aP),(∀p∈P,∀s∈p.2,dH Ts s)->∀p∈dD Ts f i P,∀s∈p.2,dH Ts s
 |0,i,P,h=>h
 |f+1,i,P,h=>by
  cases e:P[i]? with
  |none=>
   have:dD Ts (f+1) i P=P:=by
    show(match P[i]? with|some p=>dD Ts f (i+1) ((dM Ts p.1).foldl b8 P)|none=>P)=_;rw[e]
   rw[this];exact h
  |some d=>
   rw[qk e];refine BA f (i+1) _ ?_;have key:∀(ss:List bu) (Q:aP),(∀s∈ss,s∈dM Ts d.1)->(∀p∈Q,∀s∈p.2,dH Ts s)->∀p∈ss.foldl b8 Q,∀s∈p.2,dH Ts s:=by
    intro ss;induction ss with
    |nil=>intro Q _ h;exact h
    |cons s ss g=>
     intro Q b a;refine g _ (λx hx=>b x (bq _ hx)) λp hp s' hs'=>?_;unfold b8 at hp;split at hp
     .exact a p hp s' hs'
     .rcases b_.mp hp with hp|hp
      .exact a p hp s' hs'
      .rw[bH.mp hp] at hs'
       rcases b_.mp hs' with hs'|hs'
       .by_cases c:s.2.1∈au Q
        .exact a _ (iw c) s' hs'
        .have j:cy Q s.2.1=[]:=by
          have:=find_some (T:=Q) (n:=s.2.1);rw[fM (show ¬s.2.1∈Q.map (·.1) from c)] at this;unfold cy;cases e:Q.find? (λp=>decide (p.1=s.2.1)) with
          |none=>rfl
          |some p=>rw[e] at this;cases this
         rw[j] at hs';cases hs'
       .rw[bH.mp hs']
        obtain⟨T,h1,h2,k,l⟩:=mW.mp (b s (br ..));exact⟨T,h1,by rw[k];exact h2,l⟩
   exact key _ _ (λs h=>h) h
theorem rB{Ts:List Tb}{n:Str}:∀p∈aO Ts n,∀s∈p.2,dH Ts s:=
 BA 14 0 _ λp b s a=>by
  have:p=(n,[]):=by simpa using b
  rw[this] at a;cases a
theorem D0{Ts:List Tb}{NN:List Str}(hok:cY Ts NN)(n:Str):∀(Gs:List aP) (acc:List bu),(∀P∈Gs,P∈bg Ts)->((∀s∈acc,dH Ts s)/\acc.length<=NN.length - 1)->(∀s∈Gs.foldl (λacc P=>if n∈au P then cy P n else acc) acc,dH Ts s)/\(Gs.foldl (λacc P=>if n∈au P then cy P n else acc) acc).length<=NN.length - 1
 |[],acc,_,h=>h
 |P::Gs,acc,h,c=>by
  rw[gA];refine D0 hok n Gs _ (λQ d=>h Q (bq _ d)) ?_;split
  .rename_i e
   obtain⟨m,f,_,rfl⟩:=fZ hok (h P (br ..));obtain⟨b,_,_⟩:=gY hok f;have a:=iw e;refine⟨rB _ a,?_⟩;have h1:=b.pl _ a;have h2:=b.len;simp at h1;omega
  .exact c
theorem oJ{Ts:List Tb}{NN:List Str}(hok:cY Ts NN)(Gs:List aP)(n:Str)(h:∀P∈Gs,P∈bg Ts):(∀s∈fH Gs n,dH Ts s)/\(fH Gs n).length<=NN.length - 1:=
 D0 hok n Gs [] h ⟨(λs h=>by cases h),bV _⟩
theorem I_{Ts:List Tb}{ss:List bu}(h:∀s∈ss,dH Ts s):∀s∈bwd ss,dH Ts s:=λs d=>by
 unfold bwd at d;obtain⟨s',h1,rfl⟩:=aN.mp d;obtain⟨T,a,b,c⟩:=h s' (List.mem_reverse.mp h1);exact⟨T,a,c,b⟩
theorem xT{Ts:List Tb}{s:bu}(h:s∈jq Ts):∃T,Ts[s.1]?=some T/\s.2.1=fJ T/\s.2.2∈aA T:=by
 unfold jq at h;obtain⟨⟨T,i⟩,a,b⟩:=gy.mp h;have a:=pM.mp a;unfold iR at b;obtain⟨o,c,rfl⟩:=aN.mp b;exact⟨T,a,rfl,c⟩
theorem lQ{T:Tb}(h:T≠[]):fJ T∈aA T/\∀n∈aA T,¬n.cps.toList<(fJ T).cps.toList:=by
 have key:∀ns:List Str,ns≠[]->∃m,m∈ns/\∀n∈ns,¬n.cps.toList<m.cps.toList:=by
  intro ns;induction ns with
  |nil=>intro h;exact absurd rfl h
  |cons a ns c=>
   intro _;by_cases hn:ns=[]
   .subst hn
    exact⟨a,θ,λn hn=>by
     have:n=a:=by simpa using hn
     rw[this];exact j7 _⟩
   .obtain⟨m,h1,h2⟩:=c hn
    by_cases b:a.cps.toList<m.cps.toList
    .refine⟨a,θ,λn hn=>?_⟩
     rcases bz.mp hn with rfl|hn
     .exact j7 _
     .exact λz=>h2 n hn (sH z b)
    .refine⟨m,by simp[h1],λn hn=>?_⟩
     rcases bz.mp hn with rfl|hn
     .exact b
     .exact h2 n hn
 obtain⟨m,h1,h2⟩:=key (aA T) (λz=>h (by simpa[aA] using z));rw[ze h1 h2];exact⟨h1,h2⟩
theorem QZ{Ts:List Tb}{NN:List Str}(hok:cY Ts NN){s:bu}(h:s∈jq Ts):(∀x∈gZ Ts s,dH Ts x)/\(gZ Ts s).length<=2*(NN.length - 1)+1:=by
 obtain⟨T,h1,h2,a⟩:=xT h;have b:=bP h1;obtain⟨a1,a2⟩:=oJ hok (bg Ts) s.2.1 λP h=>h;obtain⟨c,e⟩:=oJ hok (bg Ts) s.2.2 λP h=>h;have d:dH Ts s:=⟨T,h1,by rw[h2];exact(lQ (hok.tok T b).ne).1,a⟩;unfold gZ;constructor
 .intro x hx
  rcases b_.mp hx with hx|hx
  .rcases b_.mp hx with hx|hx
   .exact a1 x hx
   .rw[bH.mp hx]
    exact d
  .exact I_ c x hx
 .simp[bwd]
  omega
def Bh:Ct:=λds A R _=>∃r Ts NN,ds=[.ref r]/\gQ A r Ts/\cY Ts NN/\(dw Ts=none->∀A',Gr A A'->R .aE A')/\∀ss,dw Ts=some ss->∀A' q,Gr A A'->A'[q]?=some (.lst (ss.map b9))->A.length<=q->R (.ref q) A'
def xu:Ct:=λds A R E=>∃r Ts NN,ds=[.ref r]/\gQ A r Ts/\cY Ts NN/\(dw Ts=none->∀A',Gr A A'->R .aE A')/\(dw Ts≠none->∀A',Gr A A'->E "Never" A')
theorem zf:∀(a kvs:List (Key×D)) (k:Key),(a.map (·.1)).Nodup->bw (jQ kvs a) k=match bw a k with|some v=>some v|none=>bw kvs k
 |[],kvs,k,_=>rfl
 |p::a,kvs,k,c=>by
  have b:=kT.mp (show(p.1::a.map (·.1)).Nodup from c);show bw (jQ (cj kvs p.1 p.2) a) k=_;rw[zf a _ k b.2,um];show _=match (if p.1=k then some p.2 else bw a k) with|some v=>some v|none=>bw kvs k
  by_cases e:p.1=k
  .rw[ao e,ao e]
   have:bw a k=none:=by
    cases h:bw a k with
    |none=>rfl
    |some v=>
     exfalso;refine b.1 ?_;rw[e];clear zf c b;induction a with
     |nil=>cases h
     |cons q a f=>
      have h:(if q.1=k then some q.2 else bw a k)=some v:=h;by_cases d:q.1=k
      .simp[d]
      .rw[ak d] at h
       simp[f h]
   rw[this]
  .rw[ak e,ak e]
def p9(b:Nat)(NN:List Str)(A:Ar)(Gs:List aP):Prop:=∃(kvs:List (Key×D)) (ns:List Str),A[b]?=some (.dct kvs)/\kvs.map (·.1)=ns.map Sum.inr/\ns.Nodup/\(∀n,n∈ns↔n∈dZ Gs)/\(∀n∈ns,n∈NN)/\∀n∈ns,∃a,b<a/\bw kvs (Sum.inr n)=some (.ref a)/\A[a]?=some (.lst ((fH Gs n).map b9))
theorem p9.gr{b:Nat}{NN:List Str}{A B:Ar}{Gs:List aP}(h:p9 b NN A Gs)(g:Gr A B):p9 b NN B Gs:=by
 obtain⟨kvs,ns,h1,h2,c,d,e,f⟩:=h;exact⟨kvs,ns,g.get h1,h2,c,d,e,λn i=>by obtain⟨a,x,y,z⟩:=f n i;exact⟨a,x,y,g.get z⟩⟩
theorem Em{ns:List Str}(h:ns.Nodup):(ns.map (Sum.inr:Str->Key)).Nodup:=by
 exact Pairwise.map _ (λa b c e=>c (Sum.inr.inj e)) h
end DP
namespace My
open L2 DP MA
theorem LI(T:TopD K mg "find_ring" F8 uX)(l:ay P w K mg base 3 "groups" oW (av mg 1 s8))(d:ay P w K mg base 1 "closing_steps" uW (av mg 1 AV))(f:ay P w K mg base 1 "backward" uR (av mg 1 AQ))(j:ay P w K mg base 4 "comes_to" qZ (av mg 2 xg)):ay P w K mg base 5 "find_ring" uX (av mg 1 Bh):=by
 refine bT T RM λX hR hx L nd=>⟨_,(aI (dS 1 nd yi)
  (aI (gm fQ rfl (di (dL l X hx (aa (vr 0) ah))) (dG 2 nd) (aF (fY (Cm PySem.F.plainAttrs_dict slot_dict_update PySem.F.type_dict_update Ej Ci (vr 1) (aa (vr 2) ah)))))
  (aI (gm fQ rfl (di (dL d X hx (aa (vr 0) ah))) (dG 3 nd) (aI (dS 4 nd (cZ (cZ (dX L (vr 1) (dX L (vr 3) aC)) (c8 (aa (vr 3) ah))) (dL f X hx (aa (dX L (vr 1) (dX L (vr 3) aC)) ah))))
  (aF (cF (m8 L (dL j X hx (aa (vr 0) (aa (vr 4) ah))) (dW (aa aC (aa aC ah)))) (aF (aU (vr 4))) cO))))
  (aF (aU mK))))),λds A R h hl=>?_⟩
 obtain⟨r,Ts,NN,rfl,hB,hok,q1,q2⟩:=h;have hz:(1000:Nat)<=sizeLine:=δ
 have e1:(A++[C.dct []]).length=A.length+1:=θ
 refine⟨rfl,r,Ts,NN,rfl,hB.gr Gr.push,hok,λA1 q0 g1 hG=>?_⟩;obtain⟨lq,gs,M,B⟩:=hG;rw[e1] at lq B;have oG:=B.len;have Mq:p9 A.length NN A1 []:=⟨[],[],g1.get aH,rfl,nodup_nil,λn=>by simp[dZ],(λn h=>by cases h),(λn h=>by cases h)⟩;have L1:Gr A A1:=Gr.push.trans g1;refine dY M ?_;refine gk (λrest τ A'=>∃(i:Nat) (x:Option D),i<=gs.length/\rest=(gs.map D.ref).drop i/\τ=[some (.ref r),some (.ref A.length),x,none,none]/\p9 A.length NN A' ((bg Ts).take i)/\A'[q0]?=some (.lst (gs.map D.ref))/\fc (A.length+1) A' gs (bg Ts)/\Gr A A') ?_ ?_ ?_ _ _ _ ⟨0,none,bV _,rfl,rfl,Mq,M,B,L1⟩
 .rintro rest τ A' ⟨_,_,_,_,_,_,h,_,_⟩
  exact h
 .rintro v rest τ A2 ⟨i,x,hi,e,rfl,Y,hq,hP,E⟩ Nx hN
  by_cases N:i<gs.length
  .obtain⟨t,ht⟩:∃t,gs[i]?=some t:=⟨gs[i],aW N⟩
   obtain⟨P0,O,Mr⟩:=hP.get ht;have u:i<(gs.map D.ref).length:=by rw[aS];exact N
   have ev:(gs.map D.ref)[i]?=some (.ref t):=by rw[bO,ht];rfl
   rw[mq u] at e;rw[aW u] at ev;have ev:=Option.some.inj ev;rw[ev] at e;cases e;obtain⟨m,hm,_,eP⟩:=fZ hok (bP O);obtain⟨p,_,_⟩:=gY hok hm;rw[<-eP] at p;obtain⟨U_,b,m1,Z,m3⟩:=id Mr;obtain⟨kvs,ns,k1,k2,k3,k4,k5,k6⟩:=Y;have yw:(bg Ts).take (i+1)=(bg Ts).take i++[P0]:=by rw[take_succ,O];rfl
   have ln:ns.length<=12:=cV (iA ns NN k3 k5) hok.nn;have NZ:kvs.length=ns.length:=by
    have:=cB List.length k2;simpa using this
   have N1:b.length=P0.length:=by
    have:=cB List.length Z;simpa[au] using this
   have lP:=p.len;have OC:=hok.nn;obtain⟨ns',j1,j2,j3⟩:=Eh k2 Z k3;have Oo:(b.map (·.1)).Nodup:=by rw[Z];exact Em p.nd
   refine⟨DH k1,HJ k1 m1 ω ω ?_⟩;refine hN _ _ ⟨i+1,_,ω,rfl,rfl,?_,fR ω hq,hP.jO λq P z=>z.set ω,E.set (aG _)⟩;rw[yw];refine⟨_,ns',rK k1,j1,j2,λn=>?_,λn hn=>?_,λn hn=>?_⟩
   .rw[j3,k4]
    simp[dZ]
   .rcases (j3 n).mp hn with h'|h'
    .exact k5 n h'
    .exact p.sub n h'
   .rw[zf _ _ _ Oo,N2]
    by_cases o:n∈au P0
    .obtain⟨a,z,ga,ha⟩:=m3 n o
     rw[ga,ao o];exact⟨a,ω,rfl,fR ω ha⟩
    .have hn1:n∈ns:=by
      rcases (j3 n).mp hn with h'|h'
      .exact h'
      .exact absurd h' o
     have e0:bw b (Sum.inr n)=none:=by
      have:=qM (n:=n) Z;rw[fM o] at this;cases e:bw b (Sum.inr n) with
      |none=>rfl
      |some v=>rw[e] at this;cases this
     obtain⟨a,z,ga,ha⟩:=k6 n hn1;rw[e0,ak o];exact⟨a,z,ga,fR ω ha⟩
  .rw[sJ (by rw[aS];omega)] at e
   cases e
 rintro τ A2 ⟨i,x,hi,e,rfl,Y,hq,hP,E⟩;have hi:i=gs.length:=by
  have:=cB List.length e;simp at this;omega
 rw[hi,oG,take_length] at Y;refine⟨rfl,r,Ts,rfl,hB.gr E,hok.len,hok.tok,λA3 q3 g3 h3 l3=>?_⟩;refine dY h3 ?_;refine gk (λrest τ A'=>∃(G b:List bu) (y z:Option D),rest=b.map b9/\G++b=jq Ts/\(∀s∈G,c7 Ts (gZ Ts s)=1)/\τ=[some (.ref r),some (.ref A.length),x,y,z]/\Gr A3 A') ?_ ?_ ?_ _ _ _ ⟨[],jq Ts,none,none,rfl,rfl,(λ_ h=>by cases h),rfl,Gr.refl⟩
 .rintro rest τ A' ⟨_,_,_,_,_,_,_,_,g⟩
  exact g.get h3
 .rintro v rest τ A4 ⟨G,b,y,z,e,k,h1,rfl,J⟩ Nx hN
  cases b with
  |nil=>cases e
  |cons st b=>
  cases e;have Q:st∈jq Ts:=by rw[<-k];simp
  obtain⟨T0,hT,c1,c2⟩:=xT Q;have H:=bP hT;have n1:st.2.1∈dZ (bg Ts):=mP hok H (by rw[c1];exact(lQ (hok.tok T0 H).ne).1);have n2:st.2.2∈dZ (bg Ts):=mP hok H c2;obtain⟨kvs,ns,k1,k2,k3,k4,k5,k6⟩:=Y.gr (g3.trans J);obtain⟨a1,_,L4,ha1⟩:=k6 _ ((k4 _).mpr n1);obtain⟨a2,_,L5,ha2⟩:=k6 _ ((k4 _).mpr n2);obtain⟨_,b1⟩:=oJ hok (bg Ts) st.2.1 λP h=>h;obtain⟨_,b2⟩:=oJ hok (bg Ts) st.2.2 λP h=>h;obtain⟨r1,r2⟩:=QZ hok Q;have nn:=hok.nn;refine kG k1 rfl L4 ⟨show 1<=sizeLine by omega,iQ (getElem?_push ha1) aH (by simp;omega) ?_⟩;refine kG (getElem?_push (getElem?_push k1)) rfl L5 ?_;refine⟨rfl,a2,_,rfl,getElem?_push (getElem?_push ha2),ω,λA5 q5 g5 h5 l5=>?_⟩;have S:A5[(A4++[C.lst [b9 st]]).length]?=some (.lst ((fH (bg Ts) st.2.1).map b9++[b9 st])):=g5.get aH;have U5:(bwd (fH (bg Ts) st.2.2)).length<=11:=by simp[bwd];omega
  refine iQ S h5 (by simp;omega) ?_;have em:(fH (bg Ts) st.2.1).map b9++[b9 st]++(bwd (fH (bg Ts) st.2.2)).map b9=(gZ Ts st).map b9:=by
   unfold gZ;simp
  rw[em];have U:Gr A4 (A5++[C.lst ((gZ Ts st).map b9)]):=((Gr.push.trans Gr.push).trans g5).trans Gr.push;have V:=(g3.trans J).trans U;refine⟨rfl,r,A5.length,Ts,gZ Ts st,rfl,hB.gr (E.trans V),hok.tok,aH,r1,ω,λA6 g6=>⟨show 2<=sizeLine by omega,Eo (y:=1) ?_⟩⟩;refine cN (λc=>?_) (λc=>?_)
  .have er:dw Ts=some (gZ Ts st):=by
    unfold dw;rw[<-k,eV,find?_append,ck];have e0:(G.map (gZ Ts)).find? (λss=> !decide (c7 Ts ss=1))=none:=by
     rw[nH];intro ss I;obtain⟨s,W,rfl⟩:=aN.mp I;simp[h1 s W]
    rw[e0,List.find?_cons_of_pos (by simpa using c)];rfl
   have ll:=(E.trans (g3.trans J)).len;have NP:=g5.len;simp at NP;exact q2 _ er A6 _ ((E.trans V).trans g6) (g6.get aH) ω
  .refine hN _ _ ⟨G++[st],b,_,_,rfl,by simpa using k,λs W=>?_,rfl,(J.trans U).trans g6⟩
   rcases b_.mp W with h'|h'
   .exact h1 s h'
   .rw[bH.mp h']
    exact c
 .rintro τ A4 ⟨G,b,y,z,e,k,h1,rfl,J⟩
  cases b with
  |cons _ _=>cases e
  |nil=>
  have k:G=jq Ts:=by simpa using k
  subst k;refine q1 ?_ _ ((E.trans g3).trans J);unfold dw;rw[nH];intro ss I;obtain⟨s,W,rfl⟩:=aN.mp I;simp[h1 s W]
theorem Lv(T:TopD K mg "check_no_ring" F4 qY){b:Addr}(c:mg "Never"=some (.ref b))(d:excIn K b m_ "ValueError.__new__"=true)(a:ay P w K mg base 5 "find_ring" uX (av mg 1 Bh)):ay P w K mg base 6 "check_no_ring" qY (av mg 1 xu):=by
 refine bT T RH λi j hx n nd=>⟨_,(aF (cF (Hu (dL a i hx (aa (vr 0) ah)) mK) (aF (oh j rfl c d (aa bX ah))) cO)),λds A R h hl=>?_⟩;obtain⟨r,Ts,NN,rfl,k,hok,l,m⟩:=h;exact⟨rfl,r,Ts,NN,rfl,k,hok,λe f g=>l e f g,λss e f o g h1 l1=>⟨show 1<=sizeLine by decide,m (by rw[e];simp) f g⟩⟩
end My
namespace DP
open L2 MA
noncomputable def iD(T:Tb)(n:Str)(x:Rat):Tb:=if (T.any λp=>decide (p.1=n))=true then T.map (λp=>if p.1=n then (p.1,x) else p) else T++[(n,x)]
noncomputable def ai(m:M):Tb:=(bR m "" 1).foldl (λT p=>iD T p.2.1 p.2.2) []
theorem NI(T:Tb)(n:Str)(x:Rat):bE (iD T n x)=cj (bE T) (Sum.inr n) (fq x):=by
 have e:((bE T).any λa=>decide (a.1=(Sum.inr n:Key)))=T.any λp=>decide (p.1=n):=by
  unfold bE;rw[any_map];congr 1;funext p;show decide ((Sum.inr p.1:Key)=Sum.inr n)=decide (p.1=n);by_cases h:p.1=n
  .rw[cW h,cW (by rw[h])]
  .rw[fM h,fM (λz=>h (Sum.inr.inj z))]
 unfold iD cj;rw[e];split
 .unfold bE
  rw[bY,bY];refine ng λp _=>?_;show((Sum.inr (if p.1=n then (p.1,x) else p).1:Key),fq (if p.1=n then (p.1,x) else p).2)=if (Sum.inr p.1:Key)=Sum.inr n then (Sum.inr p.1,fq x) else (Sum.inr p.1,fq p.2)
  by_cases h:p.1=n
  .rw[ao h,ao (by rw[h])]
  .rw[ak h,ak (λz=>h (Sum.inr.inj z))]
 .unfold bE
  simp
theorem DS:∀(a:List (Str×Str×Rat)) (T:Tb),bE (a.foldl (λT p=>iD T p.2.1 p.2.2) T)=((a.map λp=>(p.2.1,fq p.2.2)).map λp=>((Sum.inr p.1:Key),p.2)).foldl (λacc p=>cj acc p.1 p.2) (bE T)
 |[],T=>rfl
 |p::a,T=>by
  rw[gA,DS a,NI];rfl
theorem E0(T:Tb)(n:Str)(x:Rat):aA (iD T n x)=if n∈aA T then aA T else aA T++[n]:=by
 have e:(T.any λp=>decide (p.1=n))=decide (n∈aA T):=by
  rw[jY,nE,kZ];constructor
  .rintro ⟨p,a,h⟩
   rw[<-fS h];exact c9 a
  .intro h
   obtain⟨p,a,e⟩:=aN.mp h;exact⟨p,a,cW e⟩
 unfold iD;rw[e];by_cases h:n∈aA T
 .rw[ao (cW h),ao h]
  unfold aA;rw[bY];refine ng λp _=>?_;show(if p.1=n then (p.1,x) else p).1=p.1;split<;>rfl
 .rw[ak (by simpa using h),ak h]
  simp[aA]
theorem C7:∀(c:List (Str×Str×Rat)) (T:Tb) (g:Str->Rat),(aA T).Nodup->(∀p∈T,p.2=g p.1)->(∀r∈c,r.2.2=g r.2.1)->
  (aA (c.foldl (λT p=>iD T p.2.1 p.2.2) T)).Nodup/\(∀p∈c.foldl (λT p=>iD T p.2.1 p.2.2) T,p.2=g p.1)/\∀n,n∈aA (c.foldl (λT p=>iD T p.2.1 p.2.2) T)↔n∈aA T\/n∈c.map (·.2.1)
 |[],T,g,h1,h2,_=>⟨h1,h2,λn=>θ⟩
 |r::c,T,g,h1,h2,i=>by
  have k1:(aA (iD T r.2.1 r.2.2)).Nodup:=by
   rw[E0];split
   .exact h1
   .rename_i k
    rw[nh];refine⟨h1,θ,λa l b j=>?_⟩;simp at j;rw[j];exact λz=>k (by rw[<-z];exact l)
  have k2:∀p∈iD T r.2.1 r.2.2,p.2=g p.1:=λp hp=>by
   have e:=i r (br ..);unfold iD at hp;split at hp
   .obtain⟨d,f,rfl⟩:=aN.mp hp
    by_cases hc:d.1=r.2.1
    .rw[ao hc]
     show r.2.2=g d.1;rw[e,hc]
    .rw[ak hc]
     exact h2 d f
   .rcases b_.mp hp with hp|hp
    .exact h2 p hp
    .rw[bH.mp hp]
     exact e
  obtain⟨m,o,q⟩:=C7 c _ g k1 k2 λx hx=>i x (bq _ hx);refine⟨m,o,λn=>?_⟩;rw[gA,q,E0];by_cases h:r.2.1∈aA T
  .rw[ao h]
   simp;constructor
   .rintro (h'|h')
    .exact .inl h'
    .exact .inr (.inr h')
   .rintro (h'|rfl|h')
    .exact .inl h'
    .exact .inl h
    .exact .inr h'
  .rw[ak h]
   simp[or_assoc]
structure Hl(m:M):Prop where
 wf:Wf m
 deep:m.deep<=5
 bar:ez [] (bR m "" 1)=none
theorem g8{m:M}(h:Hl m):jl (ai m)/\(∀n,n∈aA (ai m)↔n∈m.names)/\∀n∈aA (ai m),cU (ai m) n=shr m n:=by
 obtain⟨k1,k2⟩:=o9 h.bar;obtain⟨c,d,f⟩:=C7 (bR m "" 1) [] (shr m) nodup_nil (λp a=>by cases a) k1;have g:(bR m "" 1).map (·.2.1)=m.names:=rM m "" 1;have mem:∀n,n∈aA (ai m)↔n∈m.names:=λn=>by
  show n∈aA ((bR m "" 1).foldl (λT p=>iD T p.2.1 p.2.2) [])↔_;rw[f,g];simp[aA]
 have i:(aA (ai m)).length=(ai m).length:=by simp[aA]
 have nl:=qT h.deep;refine⟨⟨c,λz=>?_,?_,λp a=>?_⟩,mem,λn b=>?_⟩
 .have hpos:=aZ.El m
  cases e:m.names with
  |nil=>rw[e] at hpos;simp at hpos
  |cons n t=>
   have:=(mem n).mpr (by rw[e];simp);rw[z] at this;cases this
 .have:=iA (aA (ai m)) m.names c λx hx=>(mem x).mp hx
  omega
 .have e:p.2=shr m p.1:=d p a
  rw[e];exact So h.wf.arms h.deep h.bar ((mem p.1).mp (c9 a))
 .have:=find_some (T:=ai m) (n:=n)
  rw[cW (show n∈(ai m).map (·.1) from b)] at this;obtain⟨p,a⟩:=pF.mp this;unfold cU;rw[a];have h2:=find?_some a;have j:p.1=n:=fS h2;rw[<-j];exact d p (pL a)
def Be:Ct:=λds A R _=>∃m,ds=[enc m]/\Hl m/\∀A' q,Gr A A'->A'[q]?=some (.dct (bE (ai m)))->A.length<=q->R (.ref q) A'
def fU(x:D)(ms:List M):Prop:=x=.tup (ms.map enc)/\1<=ms.length/\ms.length<=6/\∀m∈ms,Hl m
def AU:Ct:=λds A R E=>∃x,ds=[x]/\(∃ms,fU x ms)/\((∃ms,fU x ms)->∀A',Gr A A'->R .aE A')/\((¬∃ms,fU x ms)->∀A',Gr A A'->E "NoHall" A')
def s9:Ct:=λds A R E=>∃x,ds=[x]/\(∃ms,fU x ms)/\(∀ms,fU x ms->∀A' q,Gr A A'->gQ A' q (ms.map ai)->A.length<=q->R (.ref q) A')/\((¬∃ms,fU x ms)->∀A',Gr A A'->E "NoHall" A')
theorem yu:∀{a b:M},enc a=enc b->a=b
 |.wt n,.wt k,h=>by
  have h:D.tup [.str "weight",.str n]=.tup [.str "weight",.str k]:=h;simp at h;rw[h]
 |.wt n,.aQ l r a b,h=>by
  have h:D.tup [.str "weight",.str n]=.tup [.str "rod",.int l,.int r,enc a,enc b]:=h;simp at h
 |.aQ l r a b,.wt n,h=>by
  have h:D.tup [.str "rod",.int l,.int r,enc a,enc b]=.tup [.str "weight",.str n]:=h;simp at h
 |.aQ l r a b,.aQ c r' d e,h=>by
  have h:D.tup [.str "rod",.int l,.int r,enc a,enc b]=.tup [.str "rod",.int c,.int r',enc d,enc e]:=h;simp at h;obtain⟨h1,h2,f,g⟩:=h;rw[h1,h2,yu f,yu g]
theorem CL:∀{ms a:List M},ms.map enc=a.map enc->ms=a
 |[],[],_=>rfl
 |[],_::_,h=>by cases h
 |_::_,[],h=>by cases h
 |m::ms,b::a,h=>by
  rw[ck,ck,List.cons.injEq] at h;rw[yu h.1,CL h.2]
theorem TabsAt.snoc{A:Ar}{q:Nat}{T:Tb}(a:TabAt A q T):∀{qs:List Nat} {Ts:List Tb},TabsAt A qs Ts->TabsAt A (qs++[q]) (Ts++[T])
 |[],[],_=>⟨a,trivial⟩
 |_::qs,_::Ts,h=>⟨h.1,TabsAt.snoc a h.2⟩
 |[],_::_,h=>h.elim
 |_::_,[],h=>h.elim
end DP
namespace My
open L2 DP MA
theorem Lz(T:TopD K mg "name_shares" Gu vd)(b:mg "dict"=none)(a:ay P w K mg base 10 "shares" rA (av mg 1 xA)):ay P w K mg base 11 "name_shares" vd (av mg 1 Be):=by
 refine bT T R7 λj o hx r nd=>⟨_,(aF (aU (ku (ql rfl) qv b boot_dict (aa (gF (some 3) (own:=["way","name","share"]) (frees:=[]) (ix:=[]) rfl (di (dL a j hx (aa (vr 0) ah))) (λc=>(vq rfl (kI (pG 0 (show(["way","name","share"]:List Str).Nodup by decide+kernel)) (kI (pG 1 (show(["way","name","share"]:List Str).Nodup by decide+kernel)) (kI (pG 2 (show(["way","name","share"]:List Str).Nodup by decide+kernel)) vt))))) (λc=>(dW (aa (vr 1) (aa (vr 2) ah))))) ah)))),λds A R h hl=>?_⟩;obtain⟨m,rfl,g,q⟩:=h;have hd:=g.deep;have hz:(1000:Nat)<=sizeLine:=δ
 refine⟨rfl,m,rfl,g.wf,hd,λs t i h1 l1=>?_⟩;refine dY h1 ?_;have ln:=rL m "" 1;have nl:=qT hd;refine iS (f:=λd=>match d with|.tup [_,n,x]=>.tup [n,x]|d=>d) h1 _ _ (λd hd=>?_) (by simp;omega) ?_
 .obtain⟨p,u,rfl⟩:=aN.mp hd
  exact⟨[.str p.1,.str p.2.1,fq p.2.2],rfl,λQ k=>⟨show 2<=sizeLine by decide,k⟩⟩
 have e:((bR m "" 1).map vC).map (λd=>match d with|.tup [_,n,x]=>D.tup [n,x]|d=>d)=(bR m "" 1).map zl:=by
  rw[bY];rfl
 rw[fL,e];refine Cj aH (EG _) (by simp;omega) ?_;refine q _ _ ((i.trans Gr.push).trans Gr.push) ?_ (by have:=i.len;simp;omega);have l:bE (ai m)=o5 (((bR m "" 1).map λp=>(p.2.1,fq p.2.2)).map λp=>((Sum.inr p.1:Key),p.2)):=DS _ [];rw[l];exact aH
theorem K5(T:TopD K mg "check_hall" F2 uU)(c:mg "isinstance"=none)(k:mg "tuple"=none)(l:mg "len"=none){t:Tok}(a:mg "MOST_MOBILES"=some (.int 6 t)){d:Addr}(f:mg "NoHall"=some (.ref d))(i:excIn K d m_ "ValueError.__new__"=true)
  (j:ay P w K mg base 8 "is_mobile" q9 (av mg 1 xj))(n:ay P w K mg base 11 "bar" qW (av mg 1 sZ)):ay P w K mg base 12 "check_hall" uU (av mg 1 AU):=by
 refine bT T RD λr s hx J nd=>⟨_,(aI (cF (PW.pt (ig (gn (gp (ly kit_tuple c k kY (vr 0)))) (jr (gn (Hv aC (dI gR gj l h_ (aa (vr 0) ah)) (nX a)))))) (aF (oh s rfl f i (aa bX ah))) cO)
  (aF (gm fQ rfl (di (vr 0)) (dG 1 nd) (aF (cF (PW.pt (ig (gn (gp (dL j r hx (aa (vr 1) ah)))) (jr (Hu (dL n r hx (aa (vr 1) ah)) mK)))) (aF (oh s rfl f i (aa bX ah))) cO))))),λds A R h hl=>?_⟩
 obtain⟨x,rfl,⟨ms,u⟩,C,L⟩:=h;obtain⟨rfl,h1,N,E⟩:=id u;have lm:(ms.map enc).length=ms.length:=aS ..;refine cD (λz=>?_) (λz=>absurd (show(1:Int)<=(((ms.map enc).length:Nat):Int) by omega) z);refine cN (λB=>absurd (show(((ms.map enc).length:Nat):Int)<=6 by omega) B) (λB=>?_);refine gk (λrest τ A'=>∃(q b:List M) (y:Option D),rest=b.map enc/\q++b=ms/\τ=[some (.tup (ms.map enc)),y]/\Gr A A') ?_ ?_ ?_ _ _ _ ⟨[],ms,none,rfl,rfl,rfl,Gr.refl⟩
 .intro _ _ _ _
  trivial
 .rintro v rest τ F ⟨q,b,y,e,o,rfl,g⟩ O G
  cases b with
  |nil=>cases e
  |cons m b=>
   cases e;have p:=E m (by rw[<-o];simp);refine⟨rfl,_,⟨m,rfl,p.wf,p.deep,rfl⟩,λQ H=>⟨rfl,m,rfl,p.wf,p.deep,λS I=>?_⟩⟩;rw[p.bar];exact G _ _ ⟨q++[m],b,_,rfl,by simpa using o,rfl,(g.trans H).trans I⟩
 .rintro τ F ⟨q,b,y,e,o,rfl,g⟩
  exact C ⟨ms,u⟩ _ g
theorem Lc(T:TopD K mg "hall_shares" Gb oX)(d:ay P w K mg base 12 "check_hall" uU (av mg 1 AU))(b:ay P w K mg base 11 "name_shares" vd (av mg 1 Be)):ay P w K mg base 13 "hall_shares" oX (av mg 1 s9):=by
 refine bT T RP λp E hx F nd=>⟨_,(aI (fY (dL d p hx (aa (vr 0) ah)))
  (aF (aU (gF none (own:=["mobile"]) (frees:=[]) (ix:=[]) rfl (di (vr 0)) (λc=>(pG 0 (show(["mobile"]:List Str).Nodup by decide+kernel))) (λc=>(dL b p oY (aa (vr 0) ah))))))),λds A R h hl=>?_⟩
 obtain⟨x,rfl,t,q,o⟩:=h;have hz:(1000:Nat)<=sizeLine:=δ
 refine⟨rfl,x,rfl,t,λ⟨ms,r⟩ s l=>?_,λu s l=>o u _ l⟩;have v:=q ms r;clear q;obtain⟨rfl,h1,G,z⟩:=r;refine tN (λrest ys A'=>∃(j a:List M) (i:List Nat),rest=a.map enc/\j++a=ms/\ys=i.map D.ref/\TabsAt A' i (j.map ai)/\Gr s A') ?_ ?_ ?_ ?_ _ _ _ ⟨[],ms,[],rfl,rfl,rfl,trivial,Gr.refl⟩
 .intro _ _ _ _
  trivial
 .rintro rest ys A' ⟨j,a,i,_,e,rfl,k,_⟩
  have l1:=k.len;have l2:=cB List.length e;rw[dc] at l2;rw[aS] at l1 ⊢;omega
 .rintro y rest ys A' ⟨j,a,i,e,f,rfl,k,g⟩
  cases a with
  |nil=>cases e
  |cons m a=>
   cases e;refine⟨[enc m],rfl,λQ B=>⟨rfl,m,rfl,z m (by rw[<-f];simp),λH o n h2 l2=>B _ _ ⟨j++[m],a,i++[o],rfl,by simpa using f,θ,?_,g.trans n⟩⟩⟩;rw[eV];exact TabsAt.snoc (.inl h2) (k.gr n)
 .rintro ys A' ⟨j,a,i,e,f,rfl,k,g⟩
  cases a with
  |cons _ _=>cases e
  |nil=>
   have f:j=ms:=by simpa using f
   subst f;have n:=(l.trans g).trans (Gr.push (T:=[C.lst (i.map D.ref)]));exact v _ _ n ⟨i,aH,k.gr Gr.push⟩ (l.trans g).len
end My
namespace DP
open L2 MA
def jC(Ts:List Tb)(a b:Str):Prop:=∃T∈Ts,a∈aA T/\b∈aA T
inductive fE(Ts:List Tb):Str->Str->Prop
 |refl (a:Str):fE Ts a a
 |step {a b c:Str}:fE Ts a b->jC Ts b c->fE Ts a c
theorem jC.symm{Ts:List Tb}{a b:Str}(h:jC Ts a b):jC Ts b a:=by
 obtain⟨T,h1,h2,c⟩:=h;exact⟨T,h1,c,h2⟩
theorem fE.trans{Ts:List Tb}{a b c:Str}(h:fE Ts a b)(k:fE Ts b c):fE Ts a c:=by
 induction k with
 |refl=>exact h
 |step _ e d=>exact .step d e
theorem fE.symm{Ts:List Tb}{a b:Str}(h:fE Ts a b):fE Ts b a:=by
 induction h with
 |refl=>exact .refl _
 |step _ e c=>exact(fE.step (.refl _) e.symm).trans c
theorem IQ{Ts:List Tb}{a b:Str}:jC Ts a b↔∃s∈dM Ts a,s.2.2=b:=by
 constructor
 .rintro ⟨T,c,h1,h2⟩
  obtain⟨i,hi,e⟩:=j_ c;exact⟨(i,a,b),mW.mpr ⟨T,by rw[aW hi,e],h1,rfl,h2⟩,rfl⟩
 .rintro ⟨s,d,rfl⟩
  obtain⟨T,h1,h2,g,f⟩:=mW.mp d;exact⟨T,bP h1,h2,f⟩
inductive jh(Ts:List Tb):Str->List bu->Str->Prop
 |nil (a:Str):jh Ts a [] a
 |snoc {a b:Str} {l:List bu} {s:bu}:jh Ts a l s.2.1->dH Ts s->s.2.2=b->jh Ts a (l++[s]) b
theorem jh.QO{Ts:List Tb}{a b:Str}{l:List bu}(h:jh Ts a l b):fE Ts a b:=by
 induction h with
 |nil=>exact .refl _
 |snoc _ c e d=>
  obtain⟨T,h1,h2,f⟩:=c;exact .step d ⟨T,bP h1,h2,by rw[<-e];exact f⟩
theorem C6{Ts:List Tb}{a:Str}:∀(ss:List bu) (P:aP),(∀s∈ss,dH Ts s/\s.2.1∈au P)->(∀p∈P,jh Ts a p.2 p.1)->∀p∈ss.foldl b8 P,jh Ts a p.2 p.1
 |[],P,_,h=>h
 |s::ss,P,b,h=>by
  obtain⟨c,d⟩:=b s (br ..);refine C6 ss (b8 P s) (λx hx=>⟨(b x (bq _ hx)).1,(qg P s _).mpr (.inl (b x (bq _ hx)).2)⟩) λp hp=>?_;unfold b8 at hp;split at hp
  .exact h p hp
  .rcases b_.mp hp with hp|hp
   .exact h p hp
   .rw[bH.mp hp]
    exact .snoc (h _ (iw d)) c rfl
theorem SW{Ts:List Tb}{n:Str}{s:bu}(h:s∈dM Ts n):dH Ts s/\s.2.1=n:=by
 obtain⟨T,h1,h2,a,b⟩:=mW.mp h;exact⟨⟨T,h1,by rw[a];exact h2,b⟩,a⟩
theorem Bw{Ts:List Tb}{a:Str}:∀(f i:Nat) (P:aP),(∀p∈P,jh Ts a p.2 p.1)->∀p∈dD Ts f i P,jh Ts a p.2 p.1
 |0,i,P,h=>h
 |f+1,i,P,h=>by
  cases e:P[i]? with
  |none=>
   have:dD Ts (f+1) i P=P:=by
    show(match P[i]? with|some p=>dD Ts f (i+1) ((dM Ts p.1).foldl b8 P)|none=>P)=_;rw[e]
   rw[this];exact h
  |some c=>
   rw[qk e];refine Bw f (i+1) _ (C6 _ _ (λs b=>?_) h);obtain⟨h1,h2⟩:=SW b;exact⟨h1,by rw[h2];exact c9 (bP e)⟩
theorem Bx{Ts:List Tb}{NN:List Str}(hok:cY Ts NN):∀(f i:Nat) (P:aP),fD P NN->13<=f+i->(∀j,j<i->∀p,P[j]?=some p->∀b,jC Ts p.1 b->b∈au P)->∀p∈dD Ts f i P,∀b,jC Ts p.1 b->b∈au (dD Ts f i P)
 |0,i,P,l,r,hc=>λp a b c=>by
  have hl:=cV l.len hok.nn;obtain⟨j,g,e⟩:=j_ (show p∈P from a);exact hc j ω p (by rw[aW g,e]) b c
 |f+1,i,P,l,r,hc=>by
  cases e:P[i]? with
  |none=>
   have t:dD Ts (f+1) i P=P:=by
    show(match P[i]? with|some p=>dD Ts f (i+1) ((dM Ts p.1).foldl b8 P)|none=>P)=_;rw[e]
   rw[t];intro p a b c;obtain⟨j,g,m⟩:=j_ a;have:P.length<=i:=List.getElem?_eq_none_iff.mp e;exact hc j ω p (by rw[aW g,m]) b c
  |some d=>
   rw[qk e];obtain⟨X,eX⟩:=uf (dM Ts d.1) P;have n:d.1∈au P:=c9 (bP e);have o:=(bW.mp e).1;have key:∀(ss:List bu) (Q:aP),(∀s∈ss,s∈dM Ts d.1)->fD Q NN->d.1∈au Q->fD (ss.foldl b8 Q) NN:=by
    intro ss;induction ss with
    |nil=>intro Q _ h _;exact h
    |cons s ss u=>
     intro Q k v a;obtain⟨T,w,_,m,y⟩:=mW.mp (k s (br ..));exact u _ (λx hx=>k x (bq _ hx)) (v.add (by rw[m];exact a) (hok.sub T (bP w) _ y)) ((qg Q s d.1).mpr (.inl a))
   refine Bx hok f (i+1) _ (key _ _ (λs h=>h) l n) ω λj g p a b c=>?_;rw[yD];by_cases q:j<i
   .rw[eX,gB ω] at a
    exact .inl (hc j q p a b c)
   .have:j=i:=ω
    subst this;rw[eX,gB o,e] at a;cases a;obtain⟨s,k,rfl⟩:=IQ.mp c;exact .inr (c9 k)
theorem rC{Ts:List Tb}{n:Str}:∀p∈aO Ts n,jh Ts n p.2 p.1:=Bw 14 0 _ λp a=>by
 have:p=(n,[]):=by simpa using a
 rw[this];exact .nil _
theorem iC{Ts:List Tb}{NN:List Str}(hok:cY Ts NN){n:Str}(c:n∈NN){m:Str}:m∈au (aO Ts n)↔fE Ts n m:=by
 constructor
 .intro h
  obtain⟨p,a,rfl⟩:=aN.mp h;exact(rC p a).QO
 .intro h
  have h0:fD [(n,[])] NN:=⟨by simp[au],λm d=>by
   have:m=n:=by simpa[au] using d
   rw[this];exact c,λp a=>by
   have:p=(n,[]):=by simpa using a
   rw[this];simp⟩
  have b:=Bx hok 14 0 [(n,[])] h0 ω λj g=>by omega
  induction h with
  |refl=>exact(gY hok c).2.1
  |step _ e f=>
   obtain⟨p,a,rfl⟩:=aN.mp f;exact b p a _ e
theorem Dm{Ts:List Tb}{NN:List Str}(hok:cY Ts NN):∀(ns:List Str) (Gs:List aP),(∀n∈ns,n∈NN)->(∀P∈Gs,∃n∈NN,P=aO Ts n)->Gs.Pairwise (λP Q=>∀m,m∈au P->m∉au Q)->(ns.foldl (cQ Ts) Gs).Pairwise (λP Q=>∀m,m∈au P->m∉au Q)
 |[],Gs,_,_,h=>h
 |n::ns,Gs,f,e,h=>by
  have b:=f n (br ..);refine Dm hok ns (cQ Ts Gs n) (λm d=>f m (bq _ d)) (λP hP=>?_) ?_
  .unfold cQ at hP
   split at hP
   .exact e P hP
   .rcases b_.mp hP with hP|hP
    .exact e P hP
    .exact⟨n,b,bH.mp hP⟩
  .unfold cQ
   split
   .exact h
   .rename_i c
    rw[List.pairwise_append];refine⟨h,θ,λP hP Q g m d a=>?_⟩;rw[bH.mp g] at a;obtain⟨k,i,rfl⟩:=e P hP;refine c (gy.mpr ⟨_,hP,?_⟩);rw[iC hok i] at d ⊢;rw[iC hok b] at a;exact d.trans a.symm
theorem mQ{Ts:List Tb}{NN:List Str}(hok:cY Ts NN):(bg Ts).Pairwise (λP Q=>∀m,m∈au P->m∉au Q):=
 Dm hok _ [] (λm a=>by
  obtain⟨T,h1,h2⟩:=gy.mp a;exact hok.sub T h1 m h2) (λP h=>by cases h) Pairwise.nil
theorem yZ{n:Str}:∀(Gs:List aP) (acc:List bu) (P:aP),Gs.Pairwise (λP Q=>∀m,m∈au P->m∉au Q)->P∈Gs->n∈au P->Gs.foldl (λacc P=>if n∈au P then cy P n else acc) acc=cy P n
 |[],acc,P,_,h,_=>by cases h
 |Q::Gs,acc,P,hd,hP,a=>by
  obtain⟨h1,h2⟩:=g_.mp hd;rw[gA];rcases bz.mp hP with rfl|hP
  .rw[ao a]
   have:∀(Gs:List aP) (acc:List bu),(∀Q∈Gs,n∉au Q)->Gs.foldl (λacc P=>if n∈au P then cy P n else acc) acc=acc:=by
    intro Gs;induction Gs with
    |nil=>intro acc _;rfl
    |cons Q Gs c=>
     intro acc h;rw[gA,ak (h Q (br ..))];exact c acc λd b=>h d (bq _ b)
   exact this Gs _ λQ e=>h1 Q e n a
  .exact yZ Gs _ P h2 hP a
structure Cs(Ts:List Tb)(w:Str->Rat):Prop where
 pos:∀n,0<w n
 eq:∀T∈Ts,∀a∈aA T,∀b∈aA T,w a*cU T b=w b*cU T a
theorem fP{x:Rat}(h:0<x):x≠0:=λe=>by rw[e] at h;exact absurd h δ
theorem G5{Ts:List Tb}{w:Str->Rat}(b:∀T∈Ts,jl T)(h:Cs Ts w){s:bu}(c:dH Ts s):b5 Ts s*w s.2.1=w s.2.2:=by
 obtain⟨T,h1,h2,d⟩:=c;have a:=bP h1;have e:=h.eq T a _ h2 _ d;have f:=fP (kM (b T a) h2).pos;unfold b5;rw[jT h1,jT h1];grind
theorem xW(Ts:List Tb)(a:List bu):∀b:List bu,c7 Ts (a++b)=c7 Ts a*c7 Ts b:=by
 have key:∀(b:List bu) (x:Rat),b.foldl (λx s=>x*b5 Ts s) x=x*b.foldl (λx s=>x*b5 Ts s) 1:=by
  intro b;induction b with
  |nil=>intro x;simp[Rat.mul_one]
  |cons s b c=>
   intro x;rw[gA,gA,c (x*b5 Ts s),c (1*b5 Ts s),nC,Rat.mul_assoc]
 intro b;unfold c7;rw[mw,key]
theorem tM{Ts:List Tb}{w:Str->Rat}(c:∀T∈Ts,jl T)(h:Cs Ts w){a b:Str}{l:List bu}(hc:jh Ts a l b):c7 Ts l*w a=w b:=by
 induction hc with
 |nil=>exact nC _
 |snoc hc d e f=>
  rw[qp,<-e,<-G5 c h d,<-f];grind
theorem xY{Ts:List Tb}(a:∀T∈Ts,jl T):∀(l:List bu),(∀s∈l,dH Ts s)->c7 Ts (bwd l)*c7 Ts l=1
 |[],_=>by show(1:Rat)*1=1;exact nC _
 |s::l,b=>by
  have g:=xY a l λx hx=>b x (bq _ hx);have d:bwd (s::l)=bwd l++[(s.1,s.2.2,s.2.1)]:=by
   unfold bwd;simp
  have e:c7 Ts (s::l)=b5 Ts s*c7 Ts l:=by
   rw[show s::l=[s]++l from rfl,xW];congr 1;show(1:Rat)*b5 Ts s=b5 Ts s;exact nC _
  obtain⟨T,h1,h2,f⟩:=b s (br ..);have c:=a T (bP h1);have p2:=fP (kM c h2).pos;have h:=fP (kM c f).pos;have i:b5 Ts (s.1,s.2.2,s.2.1)*b5 Ts s=1:=by
   unfold b5;simp only[jT h1];grind
  rw[d,qp,e];grind
theorem Q2{Ts:List Tb}{NN:List Str}(hok:cY Ts NN){w:Str->Rat}(h:Cs Ts w):dw Ts=none:=by
 unfold dw;rw[nH];intro ss g;obtain⟨s,m,rfl⟩:=aN.mp g;obtain⟨T,h1,h2,l⟩:=xT m;have i:=bP h1;have c:=(lQ (hok.tok T i).ne).1;have f:dH Ts s:=⟨T,h1,by rw[h2];exact c,l⟩;have n1:s.2.1∈dZ (bg Ts):=mP hok i (by rw[h2];exact c);obtain⟨P,j,b⟩:=gy.mp n1;obtain⟨k,n,_,rfl⟩:=fZ hok j;have a:s.2.2∈au (aO Ts k):=by
  rw[iC hok n] at b ⊢;exact .step b ⟨T,i,by rw[h2];exact c,l⟩
 have d:=mQ hok;have l1:fH (bg Ts) s.2.1=cy (aO Ts k) s.2.1:=yZ _ _ _ d j b;have l2:fH (bg Ts) s.2.2=cy (aO Ts k) s.2.2:=yZ _ _ _ d j a;have o:=tM hok.tok h (rC _ (iw b));have p:=tM hok.tok h (rC _ (iw a));have q:=xY hok.tok (cy (aO Ts k) s.2.2) (rB _ (iw a));have r:=G5 hok.tok h f;simp only at o p;have e:c7 Ts (gZ Ts s)=1:=by
  unfold gZ;rw[l1,l2,xW,qp];have t:=fP (h.pos k);have u:=fP (h.pos s.2.2);have v:=fP (h.pos s.2.1);grind
 simp[e]
theorem uG{Ts:List Tb}{NN:List Str}(hok:cY Ts NN)(h:dw Ts=none):∃w,Cs Ts w:=by
 have pos:∀n,0<c7 Ts (fH (bg Ts) n):=λn=>(xX hok.tok (oJ hok (bg Ts) n λP h=>h).1).1;refine⟨λn=>c7 Ts (fH (bg Ts) n),pos,λT g a j b k=>?_⟩;obtain⟨i,hi,e⟩:=j_ g;have c:Ts[i]?=some T:=by rw[aW hi,e]
 have d:=(lQ (hok.tok T g).ne).1;have key:∀o∈aA T,c7 Ts (fH (bg Ts) o)*cU T (fJ T)=c7 Ts (fH (bg Ts) (fJ T))*cU T o:=λo l=>by
  have m:(i,fJ T,o)∈jq Ts:=by
   unfold jq;exact gy.mpr ⟨(T,i),pM.mpr c,aN.mpr ⟨o,l,rfl⟩⟩
  unfold dw at h;rw[nH] at h;have f:=h _ (c9 m);simp at f;unfold gZ at f;rw[xW,qp] at f;have q:=xY hok.tok (fH (bg Ts) o) (oJ hok (bg Ts) o λP h=>h).1;have p:=fP (kM (hok.tok T g) d).pos;have es:b5 Ts (i,fJ T,o)=cU T o/cU T (fJ T):=by
   unfold b5;simp only[jT c]
  rw[es] at f;simp only at f;grind
 have r:=key a j;have s:=key b k;have p:=fP (kM (hok.tok T g) d).pos;grind
theorem GX{A:Ar}{r:Nat}{lo hi:Option Int}{xs:List D}{R:DK}(h:A[r]?=some (.lst xs))(k:R (.ref A.length) (A++[.lst (cutD xs lo hi)])):rN r lo hi A R:=by
 unfold rN;simp only[h];exact k
theorem B3{xs:List D}{i:Nat}(h:i<=xs.length):cutD xs none (some ((i:Nat):Int))=xs.take i:=by
 unfold cutD;have a:HT.aX xs.length 0 none=0:=rfl;have b:HT.aX xs.length xs.length (some ((i:Nat):Int))=i:=by
  unfold HT.aX;simp;rw[ak ω];omega
 rw[a,b];rfl
theorem B0{xs:List D}{i:Nat}(h:i<=xs.length):cutD xs (some ((i:Nat):Int)) none=xs.drop i:=by
 unfold cutD;have a:HT.aX xs.length xs.length none=xs.length:=rfl;have b:HT.aX xs.length 0 (some ((i:Nat):Int))=i:=by
  unfold HT.aX;simp;rw[ak ω];omega
 rw[a,b];exact wH θ
theorem LV{τ:bK}{A:Ar}{t:Nat}{m:aM}{ix:List Nat}{te:aM}{R:DK}{T:Tb}(f:D->D)(j:TabAt A t T)(hl:T.length<=1000)
  (l:∀A':Ar,(A'=A\/∃o,A'=A.set t (.bB o (bE T)))->∀Q:DK,Q (.ref t) A'->m τ A' Q)
  (b:∀A':Ar,(A'=A\/∃o,A'=A.set t (.bB o (bE T)))->∀o∈aA T,∀Q:DK,Q (f (.str o)) A'->te ([some (.str o)]++ix.map (lk τ)) A' Q)(k:R (.ref A.length) (A++[.lst ((aA T).map λo=>f (.str o))])):x_ (fX none ix (lE m) jw te) τ A R:=by
 have hz:(1000:Nat)<=sizeLine:=δ
 have c:(aA T).length=T.length:=by simp[aA]
 have em:((bE T).map λp=>keyOf p.1)=(aA T).map D.str:=yT T
 have go:∀(A':Ar) (o:Obj) (d:DK),(A'=A\/∃o,A'=A.set t (.bB o (bE T)))->A'[t]? =some (.bB o (bE T))->d (.ref A'.length) (A'++[.lst ((aA T).map λo=>f (.str o))])->fX none ix (lE m) jw te τ A' d:=λA' o d g h' q=>by
  unfold fX lE
  refine l A' g _ ?_
  refine uw h' ?_
  rw[em]
  refine iS (f:=f) h' _ _ (λx hx=> ?_) (by simp[c];omega) ?_
  .obtain⟨n,r,rfl⟩:=aN.mp hx
   exact⟨[.str n],rfl,λQ s=>b A' g n r Q s⟩
  .rw[fL,bY]
   exact q
 rcases j with h|⟨o,h⟩
 .have a:=gH h
  refine .inl ⟨t,bE T,h,λo=>go _ o _ (.inr ⟨o,rfl⟩) (fB a) ⟨bE T,?_,?_⟩⟩
  .rw[gB (by simpa using a)]
   exact fB a
  .have e:(A.set t (.bB o (bE T))++[C.lst ((aA T).map λo=>f (.str o))]).set t (.dct (bE T))=A++[.lst ((aA T).map λo=>f (.str o))]:=by
    rw[sj _ _ (by simpa using a),set_set]
    congr 1
    refine nG λi=> ?_
    by_cases hi:i=t
    .rw[hi,fB a,h]
    .rw[gP (Ne.symm hi)]
   rw[e]
   have u:(A.set t (C.bB o (bE T))).length=A.length:=θ
   rw[u]
   exact k
 .exact .inr (go A o R (.inl rfl) h k)
theorem TabsAt.erase{A:Ar}:∀{a:List Nat} {Ts:List Tb} (i:Nat),TabsAt A a Ts->TabsAt A (a.eraseIdx i) (Ts.eraseIdx i)
 |[],[],_,_=>trivial
 |t::a,T::Ts,0,h=>h.2
 |t::a,T::Ts,i+1,h=>⟨h.1,TabsAt.erase i h.2⟩
 |[],_::_,_,h=>h.elim
 |_::_,[],_,h=>h.elim
theorem cY.erase{Ts:List Tb}{NN:List Str}(h:cY Ts NN)(i:Nat):cY (Ts.eraseIdx i) NN:=by
 have sub:∀T∈Ts.eraseIdx i,T∈Ts:=λT a=>(pW ..).subset a;refine⟨cV (pW ..).length_le h.len,λT a=>h.tok T (sub T a),h.nn,λT a=>h.sub T (sub T a)⟩
noncomputable def iE(Ts:List Tb)(i:Nat):Bool:=match Ts[i]? with
 |some T=>(aA T).all λn=>decide (n∈au (aO (Ts.eraseIdx i) (fJ T)))
 |none=>false
noncomputable def m6(Ts:List Tb):List Nat:=(range Ts.length).filter (iE Ts)
def AZ:Ct:=λds A R _=>∃r i Ts NN,ds=[.ref r,.int ((i:Nat):Int)]/\gQ A r Ts/\cY Ts NN/\i<Ts.length/\∀A',Gr A A'->R (.bl (iE Ts i)) A'
def Bl:Ct:=λds A R E=>∃x NN,ds=[x]/\(∃ms,fU x ms)/\(∀ms,fU x ms->cY (ms.map ai) NN/\(dw (ms.map ai)=none->∀A' q,Gr A A'->A'[q]?=some (.lst ((m6 (ms.map ai)).map λi=>D.int ((i:Nat):Int)))->A.length<=q->R (.ref q) A')/\(dw (ms.map ai)≠none->∀A',Gr A A'->E "Never" A'))/\((¬∃ms,fU x ms)->∀A',Gr A A'->E "NoHall" A')
structure sN(Ts:List Tb)(es:List (List Str)):Prop where
 SK:∀e∈es,e.Pairwise strLt/\e≠[]
 ord:es.Pairwise λa b=>strLt (a.headD default) (b.headD default)
 Dl:∀e∈es,∃P∈bg Ts,∀x,x∈e↔x∈au P
 all:∀P∈bg Ts,∃e∈es,∀x,x∈e↔x∈au P
def w9:Ct:=λds A R E=>∃x NN,ds=[x]/\(∃ms,fU x ms)/\(∀n∈NN,Nm n)/\(∀ms,fU x ms->cY (ms.map ai) NN/\∀A' q es,sN (ms.map ai) es->Gr A A'->A'[q]?=some (.lst (es.map λe=>D.tup (e.map D.str)))->A.length<=q->R (.ref q) A')/\((¬∃ms,fU x ms)->∀A',Gr A A'->E "NoHall" A')
noncomputable def yK(d:D):dF.α:=match d with
 |.tup (.str n::_)=>n.cps.toList
 |_=>[]
theorem Dt:∀{Gs:List aP} {NN:List Str},(∀P∈Gs,∃n∈au P,n∈NN)->Gs.Pairwise (λP Q=>∀m,m∈au P->m∉au Q)->Gs.length<=NN.length:=by
 intro Gs NN h hd;have:∃a:List Str,a.length=Gs.length/\a.Nodup/\(∀x∈a,x∈NN)/\∀x∈a,∃P∈Gs,x∈au P:=by
  induction Gs with
  |nil=>exact⟨[],rfl,nodup_nil,(λ_ h=>by cases h),(λ_ h=>by cases h)⟩
  |cons P Gs e=>
   obtain⟨f,d2⟩:=g_.mp hd;obtain⟨a,k1,k2,k3,d⟩:=e (λQ b=>h Q (bq _ b)) d2;obtain⟨n,n1,n2⟩:=h P (br ..);refine⟨n::a,by simp[k1],kT.mpr ⟨λg=>?_,k2⟩,λx hx=>?_,λx hx=>?_⟩
   .obtain⟨Q,b,c⟩:=d n g
    exact f Q b n n1 c
   .rcases bz.mp hx with rfl|hx
    .exact n2
    .exact k3 x hx
   .rcases bz.mp hx with rfl|hx
    .exact⟨P,br ..,n1⟩
    .obtain⟨Q,b,c⟩:=d x hx
     exact⟨Q,bq _ b,c⟩
 obtain⟨a,k1,k2,k3,_⟩:=this;have:=iA a NN k2 k3;omega
noncomputable def d7(e:List Str):D:=.tup (e.map D.str)
theorem z5{a b:List Str}(h:d7 a=d7 b):a=b:=by
 have h:=D.tup.inj h;exact(List.map_inj_right λx y e=>D.str.inj e).mp h
theorem Ud{e:List Str}(h:∀n∈e,Nm n)(ne:e≠[]):f7 (d7 e)=true/\(toQ (d7 e)).canLay0=true/\(toQ (d7 e)).depth<=60/\∃x r,toQ (d7 e)=.tuple (.str x::r):=by
 have eq:toQ (d7 e)=.tuple (e.map PyData.str):=by
  show PyData.tuple (bS (e.map D.str))=_;rw[lT]
 refine⟨m5 e,?_,?_,?_⟩
 .rw[eq]
  simpa[canLay0] using mU e h
 .rw[eq]
  simp[PyData.depth,yk]
 .cases e with
  |nil=>exact absurd rfl ne
  |cons x r=>exact⟨x,r.map PyData.str,eq⟩
theorem D8:∀xs:List Str,eH (xs.map PyData.str) (xs.map PyData.str)=some false
 |[]=>rfl
 |x::xs=>by
  rw[ck,eH];have c:PyData.eqv (.str x) (.str x)=true:=by simp[PyData.eqv]
  rw[c];exact D8 xs
theorem Uc{a b:List Str}(d:a≠[])(f:b≠[])(h:a.headD default=b.headD default->a=b):ltQ (toQ (d7 a)) (toQ (d7 b))=some (dF.blt (yK (d7 a)) (yK (d7 b))):=by
 cases a with
 |nil=>exact absurd rfl d
 |cons x a=>
 cases b with
 |nil=>exact absurd rfl f
 |cons y b=>
 have eq:∀(x:Str) (e:List Str),toQ (d7 (x::e))=.tuple (.str x::e.map PyData.str):=λx e=>by
  show PyData.tuple (bS ((x::e).map D.str))=_;rw[lT];rfl
 rw[eq,eq];show _=some (dF.blt x.cps.toList y.cps.toList);by_cases c:x=y
 .have e:=h c
  cases e;rw[ltQ,dF.irrefl];exact D8 (x::a)
 .rw[ltQ,eH]
  have c':PyData.eqv (.str x) (.str y)=false:=by simpa[PyData.eqv] using c
  rw[c'];show ltQ (.str x) (.str y)=_;rw[ltQ]
theorem Bs{f:List Str->D}:∀{ds:List D},(∀d∈ds,∃e,d=f e)->∃es:List (List Str),ds=es.map f
 |[],_=>⟨[],rfl⟩
 |d::ds,h=>by
  obtain⟨es,rfl⟩:=Bs (ds:=ds) λx hx=>h x (bq _ hx);obtain⟨e,rfl⟩:=h d (br ..);exact⟨e::es,rfl⟩
end DP
namespace My
open L2 DP MA
theorem Lh(T:TopD K mg "is_spare" Gi u5)(f:mg "min"=none)(g:mg "all"=none)(a:ay P w K mg base 2 "paths_from" rm (av mg 2 tu)):ay P w K mg base 3 "is_spare" u5 (av mg 2 AZ):=by
 refine bT T RY λM hR hx u nd=>⟨_,(aI (dS 2 nd (cZ (tZ (vr 0) t9 (t_ (vr 1))) (tZ (vr 0) (t_ (cZ (vr 1) aC)) t9)))
  (aI (dS 3 nd (dL a M hx (aa (vr 2) (aa (dI (BK rfl) Cb f boot_min (aa (dX u (vr 0) (vr 1)) ah)) ah))))
  (aF (aU (dI (xO rfl) yc g boot_all (aa (tY (gF none (own:=["name"]) (frees:=["reached"]) (ix:=[3]) rfl (qy (dX u (vr 0) (vr 1))) (λc=>(pG 0 (show(["name","reached"]:List Str).Nodup by decide+kernel))) (λc=>(CJ u (vr 0) (vr 1))))) ah)))))),λds A R h hl=>?_⟩
 obtain⟨r,i,Ts,NN,rfl,N,hok,hi,q⟩:=h;obtain⟨b,h1,h2⟩:=N;have hz:(1000:Nat)<=sizeLine:=δ
 have O:=h2.len;have l7:=hok.len;refine GX h1 ?_;refine GX (getElem?_push h1) ?_;have S:cutD (b.map D.ref) none (some ((i:Nat):Int))=(b.take i).map D.ref:=by rw[B3 (by simp;omega),List.map_take]
 have U:cutD (b.map D.ref) (some (((i:Nat):Int)+1)) none=(b.drop (i+1)).map D.ref:=by
  rw[show(((i:Nat):Int)+1)=((i+1:Nat):Int) from rfl,B0 (by simp;omega),List.map_drop]
 rw[S,U];refine iQ (getElem?_push aH) aH (by simp;omega) ?_;rw[<-eV,<-List.eraseIdx_eq_take_drop_succ];generalize V:(A++[C.lst ((b.take i).map D.ref)]++[C.lst ((b.drop (i+1)).map D.ref)]:Ar)=x;have s:Gr A (x++[C.lst ((b.eraseIdx i).map D.ref)]):=by
  rw[<-V];exact(Gr.push.trans Gr.push).trans Gr.push
 have l:=s.get h1;obtain⟨t,y⟩:∃t,b[i]?=some t:=⟨b[i],aW ω⟩;obtain⟨T,B,E⟩:=h2.get y;have tok:=hok.tok T (bP B);have j:=E.gr s;refine oE l (v:=.ref t) (nS (by rw[bO,y];rfl)) ?_;refine Eg (kvs:=bE T) (ns:=aA T) j (by simp[bE,aA]) (λz=>tok.ne (by simpa[aA] using z)) λm J p=>?_;have em:=ze J p;have mN:m∈NN:=hok.sub T (bP B) m J;refine⟨rfl,_,m,Ts.eraseIdx i,NN,rfl,⟨b.eraseIdx i,aH,(h2.gr s).erase i⟩,hok.erase i,mN,λA2 W F L=>?_⟩;have d:=F.get l;have G:=j.gr F;have tl:t<(x++[C.lst ((b.eraseIdx i).map D.ref)]).length:=by
  rcases j with h|⟨o,h⟩<;>exact gH h
 have X:t≠r:=λz=>by
  rw[z] at E;rcases E with h|⟨o,h⟩<;>(rw[h1] at h;cases h)
 refine LV (t:=t) (λo=>.bl (match o with|.str n=>decide (n∈au (aO (Ts.eraseIdx i) m))|_=>false)) G (by have:=tok.len;omega) (λA' k Q H=>?_) (λA' k o ho Q H=>?_) ?_
 .have:A'[r]?=some (.lst (b.map D.ref)):=by
   rcases k with rfl|⟨o,rfl⟩
   .exact d
   .rw[gP X]
    exact d
  exact oE this (v:=.ref t) (nS (by rw[bO,y];rfl)) H
 .have I:fW (x++[C.lst ((b.eraseIdx i).map D.ref)]).length A' W (aO (Ts.eraseIdx i) m):=by
   rcases k with rfl|⟨o,rfl⟩
   .exact L
   .exact L.set tl
  obtain⟨_,kvs,hd,Y,_⟩:=I;refine oz hd rfl ?_;rw[ak b6,qM Y];exact H
 have e:((aA T).map λo=>D.bl (match D.str o with|.str n=>decide (n∈au (aO (Ts.eraseIdx i) m))|_=>false))=(aA T).map λo=>D.bl ((λn=>decide (n∈au (aO (Ts.eraseIdx i) m))) o):=rfl;rw[e];refine xD aH (tG _ _) ?_;have Z:(((aA T).map λn=>decide (n∈au (aO (Ts.eraseIdx i) m))).all id)=iE Ts i:=by
  unfold iE;rw[B];show _=(aA T).all λn=>decide (n∈au (aO (Ts.eraseIdx i) (fJ T)));rw[em,List.all_map];rfl
 rw[Z];exact q _ ((s.trans F).trans Gr.push)
theorem LL(T:TopD K mg "spare" GC vh)(f:mg "range"=none)(g:mg "len"=none)(b:ay P w K mg base 13 "hall_shares" oX (av mg 1 s9))(a:ay P w K mg base 6 "check_no_ring" qY (av mg 1 xu))(d:ay P w K mg base 3 "is_spare" u5 (av mg 2 AZ)):ay P w K mg base 14 "spare" vh (av mg 1 Bl):=by
 refine bT T Sg λm L hx M nd=>⟨_,(aI (dS 1 nd (dL b m hx (aa (vr 0) ah)))
  (aI (fY (dL a m hx (aa (vr 1) ah)))
  (aF (aU (tX none (own:=["place"]) (frees:=["by_place"]) (ix:=[1]) rfl (ym f (aa (dI gR gj g h_ (aa (vr 1) ah)) ah)) (λc=>(pG 0 (show(["place","by_place"]:List Str).Nodup by decide+kernel))) (λc=>(gp (dL d m oY (aa (vr 1) (aa (vr 0) ah))))) (λc=>(vr 0))))))),λds A R h hl=>?_⟩
 obtain⟨x,NN,rfl,y,z,B⟩:=h;have hz:(1000:Nat)<=sizeLine:=δ
 refine⟨rfl,x,rfl,y,λms C E s k n l1=>?_,λF E k=>B F _ k⟩;obtain⟨hok,G,q5⟩:=z ms C;refine⟨rfl,s,_,NN,rfl,n,hok,λe t j=>?_,λe t j=>q5 e _ (k.trans j)⟩;obtain⟨u,o,p⟩:=n.gr j;have q:=p.len;have H:=hok.len;refine qP o ?_;have ln:(u.map D.ref).length=ms.length:=by simpa using q
 rw[aS] at H;refine⟨ω,ω,?_⟩;have er:eN 0 (((u.map D.ref).length:Nat):Int).toNat=(range (ms.map ai).length).map λi=>D.int ((i:Nat):Int):=by
  rw[kW,ln,aS];unfold eN;refine ng λi _=>?_;rw[Int.zero_add]
 rw[er];refine xU (λi:Nat=>D.int ((i:Nat):Int)) (iE (ms.map ai)) (λi:Nat=>D.int ((i:Nat):Int)) (range (ms.map ai).length) [] t (λ_ _=>trivial) (λi hi I l=>?_) (by simp;omega) (λI l=>?_)
 .have hi:=mem_range.mp hi
  refine⟨[.int ((i:Nat):Int)],rfl,λQ r=>?_,λJ v Q r=>r _ Gr.refl⟩;exact⟨rfl,s,i,_,NN,rfl,(n.gr j).gr l,hok,hi,λJ v=>r _ v⟩
 .rw[fL]
  exact G e _ _ (((k.trans j).trans l).trans Gr.push) aH (by have:=((k.trans j).trans l).len;omega)
theorem K0(T:TopD K mg "bound" F0 uS)(q:mg "sorted"=none)(H:mg "tuple"=none)(p:ay P w K mg base 13 "hall_shares" oX (av mg 1 s9))(F:ay P w K mg base 3 "groups" oW (av mg 1 s8)):ay P w K mg base 14 "bound" uS (av mg 1 w9):=by
 refine bT T RB λhr hR hx hu nd=>⟨_,(aF (aU (dI (BN rfl hu) Cf q boot_sorted (aa (gF none (own:=["paths"]) (frees:=[]) (ix:=[]) rfl (di (dL F hr hx (aa (dL p hr hx (aa (vr 0) ah)) ah))) (λc=>(pG 0 (show(["paths"]:List Str).Nodup by decide+kernel))) (λc=>(ku tK tU H kY (aa (dI (BL rfl) Ce q boot_sorted (aa (vr 0) ah)) ah)))) ah)))),λds A R h hl=>?_⟩;obtain⟨x,NN,rfl,hk,yI,q1,q2⟩:=h;have hz:(1000:Nat)<=sizeLine:=δ
 refine⟨rfl,x,rfl,hk,λms hH A1 q3 g1 hB l1=>?_,λL A1 g1=>q2 L _ g1⟩;obtain⟨hok,q4⟩:=q1 ms hH;refine⟨rfl,q3,_,NN,rfl,hB,hok,λA2 q5 g2 hG=>?_⟩;obtain⟨_,gs,Y,Z⟩:=hG;have oG:=Z.len;refine dY Y ?_;have gl:(bg (ms.map ai)).length<64:=by
  have:=Dt (Gs:=bg (ms.map ai)) (NN:=NN) (λP u=>?_) (mQ hok)
  .have:=hok.nn
   omega
  .obtain⟨n,L,_,rfl⟩:=fZ hok u
   exact⟨n,(gY hok L).2.1,L⟩
 have M:∀P∈bg (ms.map ai),fD P NN/\au P≠[]:=λP u=>by
  obtain⟨n,L,_,rfl⟩:=fZ hok u;obtain⟨k1,k2,_⟩:=gY hok L;exact⟨k1,λz=>by rw[z] at k2;cases k2⟩
 refine tN (λrest ys A'=>∃(I m:List Nat) (es:List (List Str)),rest=m.map D.ref/\I++m=gs/\ys=es.map (λe=>D.tup (e.map D.str))/\es.length=I.length/\(∀(i:Nat) (e:List Str) (P:aP),es[i]?=some e->(bg (ms.map ai))[i]?=some P->e.Pairwise strLt/\∀x,x∈e↔x∈au P)/\Gr A2 A') ?_ ?_ ?_ ?_ _ _ _ ⟨[],gs,[],rfl,rfl,rfl,rfl,(λi e P h=>by simp at h),Gr.refl⟩
 .rintro rest ys A' ⟨_,_,_,_,_,_,_,_,g⟩
  exact g.get Y
 .rintro rest ys A' ⟨I,m,es,_,v,rfl,N,_,g⟩
  have:=cB List.length v;rw[dc] at this;rw[aS];omega
 .rintro y rest ys A' ⟨I,m,es,e,v,rfl,N,W,g⟩
  cases m with
  |nil=>cases e
  |cons t m=>
   cases e;have ht:gs[I.length]?=some t:=by rw[<-v];simp
   obtain⟨P,u,hA⟩:=Z.get ht;have hA:=hA.gr g;obtain⟨_,kvs,hd,hk',_⟩:=hA;have mZ:=(M P (bP u)).1;refine⟨[.ref t],rfl,λQ hQ=>?_⟩;refine GV hd hk' mZ.nd (by have:=mZ.len;have:=hok.nn;simp[au];omega) λzs z1 z2=>?_;refine vS aH ?_;refine hQ _ _ ⟨I++[t],m,es++[zs],rfl,by simpa using v,θ,by simp[N],λi e P' h1 h2=>?_,g.trans Gr.push⟩;by_cases hi:i<es.length
   .rw[gB hi] at h1
    exact W i e P' h1 h2
   .rw[pZ ω] at h1
    have hi0:i - es.length=0:=by
     cases hh:i - es.length with
     |zero=>rfl
     |succ k=>rw[hh] at h1;simp at h1
    rw[hi0] at h1;simp at h1;have MI:i=I.length:=ω
    rw[MI,u] at h2;cases h2;rw[<-h1];exact⟨z1,z2⟩
 .rintro ys A' ⟨I,m,es,e,v,rfl,N,W,g⟩
  cases m with
  |cons _ _=>cases e
  |nil=>
   have v:I=gs:=by simpa using v
   subst v;have U6:es.length=(bg (ms.map ai)).length:=ω
   have at_:∀e∈es,∃(i:Nat) (P:aP),es[i]?=some e/\(bg (ms.map ai))[i]?=some P/\e.Pairwise strLt/\(∀x,x∈e↔x∈au P)/\P∈bg (ms.map ai):=λe o=>by
    obtain⟨i,hi,rfl⟩:=j_ o;have u:=aW (l:=bg (ms.map ai)) (i:=i) ω;have o:=aW (l:=es) (i:=i) hi;obtain⟨k1,k2⟩:=W i _ _ o u;exact⟨i,_,o,u,k1,k2,bP u⟩
   have ne:∀e∈es,e≠[]:=λe o z=>by
    obtain⟨i,P,_,_,_,k,u⟩:=at_ e o;have:=(M P u).2;cases hk:au P with
    |nil=>exact this hk
    |cons n t=>
     have:=(k n).mpr (by rw[hk];simp);rw[z] at this;cases this
   have E:=mQ hok;have same:∀e∈es,∀G∈es,∀x,x∈e->x∈G->e=G:=λe o G B x h1 h2=>by
    obtain⟨i,P,k1,k2,k3,k4,_⟩:=at_ e o;obtain⟨j,P',j1,j2,j3,j4,_⟩:=at_ G B;have O:i=j:=by
     rw[wG] at E;obtain⟨hi,ei⟩:=bW.mp k2;obtain⟨hj,ej⟩:=bW.mp j2;rcases Nat.lt_trichotomy i j with h|h|h
     .exact absurd ((j4 x).mp h2) (by have:=E i j hi hj h x (by rw[ei];exact(k4 x).mp h1);rw[ej] at this;exact this)
     .exact h
     .exact absurd ((k4 x).mp h1) (by have:=E j i hj hi h x (by rw[ej];exact(j4 x).mp h2);rw[ei] at this;exact this)
    subst O;rw[k1] at j1;exact Option.some.inj j1
   have s:∀e:List Str,e≠[]->e.headD default∈e:=λe o=>by
    cases e with
    |nil=>exact absurd rfl o
    |cons x r=>exact br ..
   have hh:∀e∈es,∀G∈es,e.headD default=G.headD default->e=G:=λe o G B h=>
    same e o G B _ (s e (ne e o)) (by rw[h];exact s G (ne G B))
   have nm:∀e∈es,∀n∈e,Nm n:=λe o n L=>by
    obtain⟨i,P,_,_,_,k,u⟩:=at_ e o;exact yI n ((M P u).1.sub n ((k n).mp L))
   refine G7 (ds:=es.map d7) dF yK aH (by rw[aS];omega) (λd hd=>?_) (λd hd e o=>?_) λfs pf sf=>?_
   .obtain⟨e,o,rfl⟩:=aN.mp hd
    exact Ud (nm e o) (ne e o)
   .obtain⟨a,U,rfl⟩:=aN.mp hd
    obtain⟨b,J,rfl⟩:=aN.mp o;exact Uc (ne a U) (ne b J) (hh a U b J)
   obtain⟨zs,rfl⟩:=Bs (f:=d7) (ds:=fs) λd hd=>by
    obtain⟨e,_,rfl⟩:=aN.mp (pf.mem_iff.mp hd);exact⟨e,rfl⟩
   have X:∀e,e∈zs↔e∈es:=λe=>by
    have h1:e∈zs↔d7 e∈zs.map d7:=by
     constructor
     .exact λh=>c9 h
     .intro h
      obtain⟨G,B,h⟩:=aN.mp h;rw[<-z5 h];exact B
    have h2:e∈es↔d7 e∈es.map d7:=by
     constructor
     .exact λh=>c9 h
     .intro h
      obtain⟨G,B,h⟩:=aN.mp h;rw[<-z5 h];exact B
    rw[h1,h2,pf.mem_iff]
   have KL:es.Nodup:=by
    rw[List.Nodup,wG];intro i j hi hj O z;have Ms:=aW (l:=bg (ms.map ai)) (i:=i) ω;have Mt:=aW (l:=bg (ms.map ai)) (i:=j) ω;obtain⟨_,k1⟩:=W i _ _ (aW hi) Ms;obtain⟨_,k2⟩:=W j _ _ (aW hj) Mt;have hm:=s es[i] (ne _ (mC hi));have m1:=(k1 _).mp hm;rw[z] at hm;have m2:=(k2 _).mp hm;rw[<-z] at m2;exact(wG.mp E) i j ω ω O _ m1 m2
   have UL:zs.Nodup:=by
    have h1:(es.map d7).Nodup:=lX.mpr (KL.imp λ {a b} V z=>V (z5 z));have h2:(zs.map d7).Nodup:=pf.nodup_iff.mpr h1;exact Pairwise.imp (R:=λa b=>d7 a≠d7 b) (S:=λa b:List Str=>a≠b) (λ {a b} V (z:a=b)=>V (by rw[z])) (lX.mp h2)
   have J:sN (ms.map ai) zs:=by
    refine⟨λe o=>?_,?_,λe o=>?_,λP u=>?_⟩
    .obtain⟨_,_,_,_,k,_,_⟩:=at_ e ((X e).mp o)
     exact⟨k,ne e ((X e).mp o)⟩
    .refine(Pairwise.and_mem.mp ((lX.mp sf).and UL)).imp ?_
     rintro a b ⟨U,J,k1,k2⟩;have U:=(X a).mp U;have J:=(X b).mp J;have na:=ne a U;have nb:=ne b J;have h1:=hh a U b J;cases a with
     |nil=>exact absurd rfl na
     |cons x a=>
     cases b with
     |nil=>exact absurd rfl nb
     |cons y b=>
     show strLt x y;have k1:dF.blt y.cps.toList x.cps.toList=false:=k1;have k3:dF.blt x.cps.toList y.cps.toList=true:=by
      cases c:dF.blt x.cps.toList y.cps.toList with
      |true=>rfl
      |false=>exact absurd (h1 (zW (dF.total _ _ c k1))) k2
     exact show x.cps.toList<y.cps.toList from fS k3
    .obtain⟨_,P,_,_,_,k,u⟩:=at_ e ((X e).mp o)
     exact⟨P,u,k⟩
    .obtain⟨i,hi,rfl⟩:=j_ u
     have o:=aW (l:=es) (i:=i) ω;obtain⟨_,k⟩:=W i _ _ o (aW hi);exact⟨_,(X _).mpr (bP o),k⟩
   have gg:=((g1.trans g2).trans g).trans (Gr.push (T:=[C.lst (es.map d7)]));exact q4 _ _ zs J (gg.trans Gr.push) aH gg.len
end My
namespace DP
open L2 MA
theorem T8{A B:Ar}{q:Nat}{c d:C}(h:A[q]?=some d)(g:Gr (A.set q c) B):Gr A (B.set q d):=by
 obtain⟨T,rfl⟩:=g;refine⟨T,?_⟩;have a:=gH h;rw[sj _ _ (by simpa using a),set_set];congr 1;refine nG λi=>?_;by_cases hi:i=q
 .rw[hi,fB a,h]
 .rw[gP (Ne.symm hi)]
noncomputable def eB(Ts:List Tb)(P:aP)(n:Str):Rat:=c7 Ts (cy P n)
def AX:Ct:=λds A R _=>∃r q Ts NN n A0,ds=[.ref r,.ref q]/\gQ A0 r Ts/\Gr A0 A/\cY Ts NN/\n∈NN/\fW A0.length A q (aO Ts n)/\∀A' p kvs,Gr A A'->A'[p]?=some (.dct kvs)->A.length<=p->Fb kvs (au (aO Ts n)) (eB Ts (aO Ts n))->R (.ref p) A'
end DP
namespace My
open L2 DP MA
theorem Lb(T:TopD K mg "group_weights" F_ uY)(f:mg "dict"=none)(b:ay P w K mg base 4 "comes_to" qZ (av mg 2 xg)):ay P w K mg base 5 "group_weights" uY (av mg 2 AX):=by
 refine bT T RO λO hR hx S nd=>⟨_,(aF (aU (ku (ql rfl) qv f boot_dict (aa (tY (gF none (own:=["name"]) (frees:=["by_place","paths"]) (ix:=[0,1]) rfl (qy (vr 1)) (λc=>(pG 0 (show(["name","by_place","paths"]:List Str).Nodup by decide+kernel))) (λc=>(dW (aa (vr 0) (aa (dL b O oY (aa (vr 1) (aa (dX S (vr 2) (vr 0)) ah))) ah)))))) ah)))),λds A R h hl=>?_⟩;obtain⟨r,q,Ts,NN,n,U,rfl,V,W,hok,X,Y,k⟩:=h;obtain⟨Z,kvs,hd,hk,hv⟩:=Y;have hz:(1000:Nat)<=sizeLine:=δ
 obtain⟨i,_,_⟩:=gY hok X;have pl:=i.len;have Ov:=hok.nn;have t:(au (aO Ts n)).length=(aO Ts n).length:=by simp[au]
 have y:=gH hd;refine .inl ⟨q,kvs,hd,λo=>?_⟩;generalize e:A.set q (.bB o kvs)=u;have j:u[q]?=some (.bB o kvs):=by rw[<-e];exact fB y
 have B:Gr U u:=by rw[<-e];exact W.set Z
 have E:=V.gr B;refine uw j ?_;have ek:(kvs.map λp=>keyOf p.1)=(au (aO Ts n)).map D.str:=by
  have:(kvs.map λp=>keyOf p.1)=(kvs.map (·.1)).map keyOf:=by rw[bY];rfl
  rw[this,hk,bY];rfl
 rw[ek];refine tQ (λd=>match d with|.str m=>jS (eB Ts (aO Ts n)) m|d=>d) _ [] u (λA' g=>g.get j) (λd F l s=>?_) (by simp[t];omega) (λl s=>?_)
 .obtain⟨m,x,rfl⟩:=aN.mp F
  obtain⟨a,la,ga,G⟩:=hv m x;have aq:a≠q:=λz=>by rw[z,hd] at G;cases G
  have H:u[a]?=some (.lst ((cy (aO Ts n) m).map b9)):=by
   rw[<-e,gP (Ne.symm aq)];exact G
  refine⟨[.str m],rfl,λQ hQ=>?_⟩;refine DO (s.get j) rfl ga ?_;have pm:=iw x;have I:=i.pl _ pm;refine⟨rfl,r,a,Ts,_,rfl,E.gr s,hok.tok,s.get H,λst J=>rB _ pm st J,by simp at I;omega,λA3 g3=>⟨show 2<=sizeLine by omega,hQ _ g3⟩⟩
 have em:((au (aO Ts n)).map D.str).map (λd=>match d with|.str m=>jS (eB Ts (aO Ts n)) m|d=>d)=(au (aO Ts n)).map (jS (eB Ts (aO Ts n))):=by
  rw[bY];rfl
 rw[fL,em];have v:Gr u (l++[C.lst ((au (aO Ts n)).map (jS (eB Ts (aO Ts n))))]):=s.trans Gr.push;have l2:A.length<=l.length:=by
  have:=s.len;rw[<-e,List.length_set] at this;exact this
 refine⟨kvs,v.get j,?_⟩;have M:Gr A ((l++[C.lst ((au (aO Ts n)).map (jS (eB Ts (aO Ts n))))]).set q (.dct kvs)):=T8 hd (by rw[e];exact v);have hL:((l++[C.lst ((au (aO Ts n)).map (jS (eB Ts (aO Ts n))))]).set q (.dct kvs))[l.length]?=some (.lst ((au (aO Ts n)).map (jS (eB Ts (aO Ts n))))):=by
  rw[gP ω];exact aH
 generalize ((l++[C.lst ((au (aO Ts n)).map (jS (eB Ts (aO Ts n))))]).set q (.dct kvs):Ar)=A3 at*
 refine Cj hL (EH _ _) (by simp[t];omega) ?_;have N:(((au (aO Ts n)).map λm=>((Sum.inr m:Key),fq (eB Ts (aO Ts n) m))).map (·.1))=(au (aO Ts n)).map Sum.inr:=by
  rw[bY];rfl
 have L:=Em i.nd;have ep:o5 ((au (aO Ts n)).map λm=>((Sum.inr m:Key),fq (eB Ts (aO Ts n) m)))=(au (aO Ts n)).map λm=>((Sum.inr m:Key),fq (eB Ts (aO Ts n) m)):=by
  have:=E2 ((au (aO Ts n)).map λm=>((Sum.inr m:Key),fq (eB Ts (aO Ts n) m))) [] (by rw[fL,N];exact L);simpa[o5] using this
 rw[ep];exact k _ _ _ (M.trans Gr.push) aH M.len ⟨N,i.nd,λm x=>Dj (λm=>fq (eB Ts (aO Ts n) m)) _ m x⟩
end My
namespace DP
open L2 MA
theorem G_(a:Str):¬strLt a a:=λh=>j7 _ (show a.cps.toList<a.cps.toList from h)
theorem S2{a b:Str}(h:strLt a b):¬strLt b a:=λk=>j7 _ (sH (show a.cps.toList<b.cps.toList from h) (show b.cps.toList<a.cps.toList from k))
theorem HG{α:Type}{r:α->α->Prop}(as:∀a b,r a b->¬r b a):∀{xs ys:List α},xs.Pairwise r->ys.Pairwise r->(∀x,x∈xs↔x∈ys)->xs=ys
 |[],[],_,_,_=>rfl
 |[],y::ys,_,_,h=>by have:=(h y).mpr (br ..);cases this
 |x::xs,[],_,_,h=>by have:=(h x).mp (br ..);cases this
 |x::xs,y::ys,hx,hy,h=>by
  obtain⟨d,g⟩:=g_.mp hx;obtain⟨f,i⟩:=g_.mp hy;have e:x=y:=by
   rcases bz.mp ((h x).mp (br ..)) with e|m1
   .exact e
   rcases bz.mp ((h y).mpr (br ..)) with e|m2
   .exact e.symm
   exact absurd (d y m2) (as _ _ (f x m1))
  subst e;have c:∀z,¬r z z:=λz k=>as _ _ k k;rw[HG as g i λz=>⟨λhz=>?_,λhz=>?_⟩]
  .rcases bz.mp ((h z).mp (bq _ hz)) with rfl|k
   .exact absurd (d _ hz) (c _)
   .exact k
  .rcases bz.mp ((h z).mpr (bq _ hz)) with rfl|k
   .exact absurd (f _ hz) (c _)
   .exact k
noncomputable def ja(ns:List Str):List Str:=open Classical in if h:∃ys:List Str,ys.Pairwise strLt/\∀x,x∈ys↔x∈ns then Classical.choose h else []
theorem vX{ns ys:List Str}(h1:ys.Pairwise strLt)(h2:∀x,x∈ys↔x∈ns):ja ns=ys:=by
 have h:∃ys:List Str,ys.Pairwise strLt/\∀x,x∈ys↔x∈ns:=⟨ys,h1,h2⟩;have e:ja ns=Classical.choose h:=by unfold ja;rw[dif_pos h]
 obtain⟨k1,k2⟩:=Classical.choose_spec h;rw[e];exact HG (λ_ _=>S2) k1 h1 λx=>by rw[k2,h2]
noncomputable def gJ(Ts:List Tb)(P:aP):List (Str×Int):=(ja (au P)).zip (lw ((ja (au P)).map (eB Ts P)))
noncomputable def i9(Ts:List Tb):List (Str×Int):=(bg Ts).flatMap (gJ Ts)
def Bp:Ct:=λds A R E=>∃x NN,ds=[x]/\(∃ms,fU x ms)/\(∀n∈NN,Nm n)/\(∀ms,fU x ms->cY (ms.map ai) NN/\(dw (ms.map ai)=none->(∀P∈bg (ms.map ai),∀n∈au P,nM (eB (ms.map ai) P n))/\∀A' rs,Gr A A'->rs.Perm (i9 (ms.map ai))->(rs.map (·.1)).Pairwise strLt->R (kD rs) A')/\(dw (ms.map ai)≠none->∀A',Gr A A'->E "Never" A'))/\((¬∃ms,fU x ms)->∀A',Gr A A'->E "NoHall" A')
abbrev vB:KeyOrd:=o4 dF (o4 uo rU)
noncomputable def rJ:D->vB.α
 |.tup [.str n,.int a]=>(n.cps.toList,a,())
 |_=>([],(0:Int),())
theorem rw_ltU(p q:Str×Int):ltQ (toQ (cT p)) (toQ (cT q))=some (vB.blt (rJ (cT p)) (rJ (cT q))):=
 N9 (O:=o4 uo rU) (N7 (O:=rU) N8)
theorem rw_okU{p:Str×Int}(h:Nm p.1):f7 (cT p)=true/\(toQ (cT p)).canLay0=true/\(toQ (cT p)).depth<=60/\∃x r,toQ (cT p)=.tuple (.str x::r):=by
 have h1:=h.ok;refine⟨rfl,?_,?_,_,_,rfl⟩
 .simp[cT,toQ,bS,canLay0,canLayAll0] at h1 ⊢
  exact h1
 .simp[cT,toQ,bS,PyData.depth,depthAll]
theorem Bt:∀{ds:List D},(∀d∈ds,∃p,d=cT p)->∃rs:List (Str×Int),ds=rs.map cT
 |[],_=>⟨[],rfl⟩
 |d::ds,h=>by
  obtain⟨rs,rfl⟩:=Bt (ds:=ds) λx hx=>h x (bq _ hx);obtain⟨p,rfl⟩:=h d (br ..);exact⟨p::rs,rfl⟩
theorem PZ{rs qs:List (Str×Int)}(h:(rs.map cT).Perm (qs.map cT)):rs.Perm qs:=by
 have inv:∀l:List (Str×Int),(l.map cT).map (λd=>match d with|.tup [.str n,.int a]=>(n,a)|_=>(("":Str),(0:Int)))=l:=λl=>by
  rw[bY];have:((λd=>match d with|D.tup [.str n,.int a]=>(n,a)|_=>(("":Str),(0:Int)))∘cT)=id:=by
   funext p;rfl
  rw[this,List.map_id]
 have:=h.map (λd=>match d with|.tup [.str n,.int a]=>(n,a)|_=>(("":Str),(0:Int)));rw[inv,inv] at this;exact this
theorem Hy{Ts:List Tb}{P:aP}(h:∃ys:List Str,ys.Pairwise strLt/\∀x,x∈ys↔x∈au P):(gJ Ts P).map (·.1)=ja (au P)/\(ja (au P)).Pairwise strLt/\∀x,x∈ja (au P)↔x∈au P:=by
 obtain⟨ys,h1,h2⟩:=h;rw[vX h1 h2];refine⟨?_,h1,h2⟩;unfold gJ;rw[vX h1 h2];exact List.map_fst_zip (by rw[D9,aS];exact aG _)
theorem Uu(ns:List Str):(ja ns).length<=ns.length:=by
 by_cases h:∃ys:List Str,ys.Pairwise strLt/\∀x,x∈ys↔x∈ns
 .obtain⟨ys,h1,h2⟩:=h
  rw[vX h1 h2];refine iA ys ns (Pairwise.imp (S:=λa b:Str=>a≠b) (λ {a b} c (z:a=b)=>G_ b (by rw[z] at c;exact c)) h1) λx hx=>(h2 x).mp hx
 .have:ja ns=[]:=by unfold ja;rw[dif_neg h]
  rw[this];exact bV _
theorem Hx(Ts:List Tb)(P:aP):(gJ Ts P).length<=(au P).length:=by
 have:=Uu (au P);unfold gJ;rw[List.length_zip];omega
theorem C2{f:aP->List (Str×Int)}{k:Nat}:∀{l:List aP},(∀P∈l,(f P).length<=k)->(l.flatMap f).length<=k*l.length
 |[],_=>by simp
 |P::l,h=>by
  have h1:=C2 (l:=l) λQ a=>h Q (bq _ a);have h2:=h P (br ..);rw[sM,dc,gv,Nat.mul_succ];omega
theorem vN{Ts:List Tb}:∀{Gs:List aP},Gs.Pairwise (λP Q=>∀m,m∈au P->m∉au Q)->(∀P∈Gs,∃ys:List Str,ys.Pairwise strLt/\∀x,x∈ys↔x∈au P)->((Gs.flatMap (gJ Ts)).map (·.1)).Nodup/\∀x,x∈(Gs.flatMap (gJ Ts)).map (·.1)↔x∈dZ Gs
 |[],_,_=>⟨nodup_nil,λx=>by simp[dZ]⟩
 |P::Gs,hd,hy=>by
  obtain⟨e,d2⟩:=g_.mp hd;obtain⟨i1,i2⟩:=vN (Ts:=Ts) d2 λQ d=>hy Q (bq _ d);obtain⟨n1,n2,n3⟩:=Hy (Ts:=Ts) (hy P (br ..));rw[sM,eV,n1];constructor
  .rw[nh]
   refine⟨Pairwise.imp (S:=λa b:Str=>a≠b) (λ {a b} c (z:a=b)=>G_ b (by rw[z] at c;exact c)) n2,i1,λa f b g z=>?_⟩;subst z;obtain⟨Q,d,h⟩:=gy.mp (show a∈Gs.flatMap au from (i2 a).mp g);exact e Q d a ((n3 a).mp f) h
  .intro x
   rw[b_,n3,i2];simp[dZ]
theorem Q5{rs:List (Str×Int)}(f:(rs.map (·.1)).Nodup)(e:(rs.map cT).Pairwise (λa b=>vB.kle (rJ a) (rJ b))):(rs.map (·.1)).Pairwise strLt:=by
 rw[lX] at e;have d:rs.Pairwise λa b=>a.1≠b.1:=lX.mp f;refine lX.mpr ((e.and d).imp ?_);rintro a b ⟨k1,k2⟩;have k1:(dF.blt b.1.cps.toList a.1.cps.toList||(!dF.blt a.1.cps.toList b.1.cps.toList&&(o4 uo rU).blt (b.2,()) (a.2,())))=false:=k1;rw[Bool.or_eq_false_iff] at k1;have k3:dF.blt a.1.cps.toList b.1.cps.toList=true:=by
  cases c:dF.blt a.1.cps.toList b.1.cps.toList with
  |true=>rfl
  |false=>exact absurd (zW (dF.total _ _ c k1.1)) k2
 exact show a.1.cps.toList<b.1.cps.toList from fS k3
end DP
namespace My
open L2 DP MA
theorem LQ(T:TopD K mg "together" GH vo)(k:mg "sorted"=none)(s:mg "tuple"=none)(g:ay P w K mg base 13 "hall_shares" oX (av mg 1 s9))(a:ay P w K mg base 6 "check_no_ring" qY (av mg 1 xu))(l:ay P w K mg base 3 "groups" oW (av mg 1 s8))(b:ay P w K mg base 3 "least_weights" u9 (av mg 1 Bb))(c:ay P w K mg base 5 "group_weights" uY (av mg 2 AX)):ay P w K mg base 14 "together" vo (av mg 1 Bp):=by
 refine bT T Sj λL hR hx hu nd=>⟨_,(aI (dS 1 nd (dL g L hx (aa (vr 0) ah)))
  (aI (fY (dL a L hx (aa (vr 1) ah)))
  (aI (dS 2 nd (c8 ah))
  (aI (gm fQ rfl (di (dL l L hx (aa (vr 1) ah))) (dG 3 nd) (aF (fY (lz lY wg type_list_extend Ot JL (vr 2) (aa (dL b L hx (aa (dL c L hx (aa (vr 1) (aa (vr 3) ah))) ah)) ah)))))
  (aF (aU (ku tK tU s kY (aa (dI (BN rfl hu) Cf k boot_sorted (aa (vr 2) ah)) ah)))))))),λds A R h hl=>?_⟩
 obtain⟨x,NN,rfl,hk,yI,q1,q2⟩:=h;have hz:(1000:Nat)<=sizeLine:=δ
 refine⟨rfl,x,rfl,hk,λms hH A1 r Y hB l1=>?_,λE A1 Y=>q2 E _ Y⟩;obtain⟨hok,q4,q5⟩:=q1 ms hH;refine⟨rfl,r,_,NN,rfl,hB,hok,λe u Z=>?_,λe u Z=>q5 e _ (Y.trans Z)⟩;obtain⟨hF,q6⟩:=q4 e;have M:=hB.gr Z;clear q1 q2 q4 q5;generalize UW:ms.map ai=Ts at*
 refine⟨bV _,rfl,r,Ts,NN,rfl,M.gr Gr.push,hok,λA3 q3 g3 hG=>?_⟩;obtain⟨lq,gs,N,F⟩:=hG;have oG:=F.len;have G:(u++[C.lst []]).length=u.length+1:=θ
 rw[G] at F lq;have gl:(bg Ts).length<=12:=by
  have:=Dt (Gs:=bg Ts) (NN:=NN) (λP hP=>?_) (mQ hok)
  .have:=hok.nn
   omega
  .obtain⟨n,E,_,rfl⟩:=fZ hok hP
   exact⟨n,(gY hok E).2.1,E⟩
 have MN:A3[u.length]?=some (.lst []):=g3.get aH;refine dY N ?_;refine gk (λrest τ A'=>∃(J f:List Nat) (i:Nat) (x3:Option D),rest=f.map D.ref/\J++f=gs/\i=J.length/\τ=[some x,some (.ref r),some (.ref u.length),x3]/\A'[u.length]?=some (.lst ((((bg Ts).take i).flatMap (gJ Ts)).map cT))/\A'[q3]?=some (.lst (gs.map D.ref))/\fc (u.length+1) A' gs (bg Ts)/\Gr u A'/\(∀P∈(bg Ts).take i,∃ys:List Str,ys.Pairwise strLt/\∀x,x∈ys↔x∈au P)) ?_ ?_ ?_ _ _ _ ⟨[],gs,0,none,rfl,rfl,rfl,rfl,MN,N,F,Gr.push.trans g3,λP h=>by simp at h⟩
 .rintro rest τ A' ⟨_,_,_,_,_,_,_,_,_,h,_⟩
  exact h
 .rintro v rest τ A4 ⟨J,f,i,x3,e1,o,hi,rfl,j,O,H,g4,y⟩ Nx hN
  cases f with
  |nil=>cases e1
  |cons t f=>
  cases e1;have hgt:gs[i]?=some t:=by rw[hi,<-o];simp
  obtain⟨Pg,S,Mu⟩:=H.get hgt;have B:=bP S;obtain⟨n,E,_,Ks⟩:=fZ hok B;subst Ks;obtain⟨mZ,pin,_⟩:=gY hok E;refine⟨lH j,rfl,r,t,Ts,NN,n,u,rfl,M,g4,hok,E,Mu.lo ω,λA5 p kvs g5 h5 l5 fb=>?_⟩;have Vd:=mZ.len;have Ov:=hok.nn;have U7:(au (aO Ts n)).length=(aO Ts n).length:=by simp[au]
  refine⟨rfl,p,kvs,_,_,rfl,h5,fb,ω,(λz=>by rw[z] at pin;cases pin),λm hm=>hF _ B m hm,λA6 ys g6 y1 y2=>?_⟩;have eU:=vX y1 y2;have et:ys.zip (lw (ys.map (eB Ts (aO Ts n))))=gJ Ts (aO Ts n):=by
   unfold gJ;rw[eU]
  rw[et];have U:=g6.get (g5.get j);have V:((bg Ts).take (i+1))=(bg Ts).take i++[aO Ts n]:=by
   rw[take_succ,S];rfl
  have W:=(g4.trans g5).trans g6;have sz:((((bg Ts).take i).flatMap (gJ Ts)).map cT).length+((gJ Ts (aO Ts n)).map cT).length<=sizeLine:=by
   have b1:(((bg Ts).take i).flatMap (gJ Ts)).length<=12*((bg Ts).take i).length:=C2 λQ hQ=>by
    obtain⟨n',I,_,rfl⟩:=fZ hok (rZ hQ);have:=Hx Ts (aO Ts n');have:=(gY hok I).1.len;simp[au] at*
    omega
   have b2:=Hx Ts (aO Ts n);have b3:((bg Ts).take i).length<=12:=by rw[lW];omega
   rw[aS,aS];omega
  refine KS U sz ?_;refine hN _ _ ⟨J++[t],f,i+1,_,rfl,by simpa using o,by simp[hi],rfl,?_,?_,?_,W.set (aG _),λP hP=>?_⟩
  .rw[V,sL,eV]
   have:([aO Ts n].flatMap (gJ Ts))=gJ Ts (aO Ts n):=θ
   rw[this];exact fB (gH U)
  .rw[gP ω]
   exact g6.get (g5.get O)
  .exact H.jO λq P hP=>(hP.gr (g5.trans g6)).set ω
  .rw[V] at hP
   rcases b_.mp hP with hP|hP
   .exact y P hP
   .rw[bH.mp hP]
    exact⟨ys,y1,y2⟩
 .rintro τ A4 ⟨J,f,i,x3,e1,o,hi,rfl,j,O,H,g4,y⟩
  cases f with
  |cons _ _=>cases e1
  |nil=>
  have o:J=gs:=by simpa using o
  have hil:i=(bg Ts).length:=by rw[hi,o,oG]
  rw[hil,wH (aG _)] at j y;have j:A4[u.length]?=some (.lst ((i9 Ts).map cT)):=j;obtain⟨t1,t2⟩:=vN (Ts:=Ts) (mQ hok) y;have X:∀x∈(i9 Ts).map (·.1),x∈NN:=λx hx=>by
   obtain⟨Q,hQ,hq⟩:=gy.mp (show x∈(bg Ts).flatMap au from (t2 x).mp hx);obtain⟨n',I,_,rfl⟩:=fZ hok hQ;exact(gY hok I).1.sub x hq
  have NO:(i9 Ts).length<=12:=by
   have:=iA _ NN t1 X;have:=hok.nn;rw[aS] at*
   exact cV (by assumption) (by assumption)
  refine G7 vB rJ j (by rw[aS];omega) (λd hd=>?_) (λd hd e he=>?_) λes pe se=>?_
  .obtain⟨p,hp,rfl⟩:=aN.mp hd
   exact rw_okU (yI _ (X _ (c9 hp)))
  .obtain⟨p,hp,rfl⟩:=aN.mp hd
   obtain⟨p',UY,rfl⟩:=aN.mp he;exact rw_ltU p p'
  obtain⟨rs,rfl⟩:=Bt (ds:=es) λd hd=>by
   obtain⟨p,_,rfl⟩:=aN.mp (pe.mem_iff.mp hd);exact⟨p,rfl⟩
  have pr:=PZ pe;refine vS aH ?_;exact q6 _ rs (((Y.trans Z).trans g4).trans Gr.push) pr (Q5 ((pr.map (·.1)).nodup_iff.mpr t1) se)
end My
namespace DP
open L2 MA
noncomputable def N4:List Str:=["a","b","c","d"]
structure Fv(m:M):Prop where
 hl:Hl m
 deep:m.deep<=2
 sub:∀x∈m.names,x∈N4
theorem lR:∀n∈N4,Nm n:=λn a=>by
 simp only[N4,bz,gK,gM] at a;rcases a with rfl|rfl|rfl|rfl<;>exact⟨η,η,η⟩
theorem ir{ms:List M}(d:ms.length<=6)(h:∀m∈ms,Fv m):cY (ms.map ai) N4:=by
 refine⟨by rw[aS];omega,λT b=>?_,δ,λT b n c=>?_⟩
 .obtain⟨m,a,rfl⟩:=aN.mp b
  exact(g8 (h m a).hl).1
 .obtain⟨m,a,rfl⟩:=aN.mp b
  exact(h m a).sub n (((g8 (h m a).hl).2.1 n).mp c)
theorem DI{ms:List M}(h1:1<=ms.length)(a:ms.length<=6)(h:∀m∈ms,Fv m):fU (.tup (ms.map enc)) ms:=⟨rfl,h1,a,λm b=>(h m b).hl⟩
theorem yJ{ms a:List M}(h:fU (.tup (ms.map enc)) a):a=ms:=(CL (D.tup.inj h.1)).symm
theorem EX{j k:Nat}(h:j<=k):(9:Int) ^ j<=9 ^ k:=zx (c:=9) δ h
theorem zQ:∀(m:M) (x:Rat) (B:Int),m.arms->0<x->(rf x).1<=B->∀s∈m.sh x,(rf s).1<=B*9 ^ m.deep
 |.wt _,x,B,_,h1,h2,s,hs=>by
  have:s=x:=by simpa[aZ.sh] using hs
  subst this;simpa[aZ.deep] using h2
 |.aQ l r a b,x,B,h,h1,h2,s,hs=>by
  obtain⟨c,o,d,p,e,f⟩:=h;have g:0<B:=wu (dQ h1) h2;have np:=dQ h1;have i:(rf (x*((r:Rat)/((l+r:Int):Rat)))).1<=B*9:=by
   refine dN (num_mul ω (pN ω ω)) ?_;exact d8 h2 ω ω ω
  have d2:(rf (x*((l:Rat)/((l+r:Int):Rat)))).1<=B*9:=by
   refine dN (num_mul ω (pN ω ω)) ?_;exact d8 h2 ω ω ω
  have j:0<x*((r:Rat)/((l+r:Int):Rat)):=aZ.step_pos c d h1;have p2:0<x*((l:Rat)/((l+r:Int):Rat)):=by
   have:=aZ.step_pos (l:=r) (r:=l) d c h1;rwa [add_comm r l] at this
  have up:∀k:Nat,k<=max a.deep b.deep->B*9*9 ^ k<=B*9 ^ (max a.deep b.deep+1):=λk n=>by
   rw[j6,kQ,kR 9 (9 ^ k)];refine ny ?_ (d9 g);exact sF (EX n) δ
  rcases b_.mp (show s∈a.sh _++b.sh _ from hs) with hs|hs
  .exact dN (zQ a _ _ e j i s hs) (up _ (pI _ _))
  .exact dN (zQ b _ _ f p2 d2 s hs) (up _ (pJ _ _))
theorem Fv.sh{m:M}(h:Fv m){n:Str}(b:n∈m.names):0<shr m n/\(rf (shr m n)).1<=81/\(rf (shr m n)).2<=324:=by
 have a:shr m n∈m.sh 1:=by
  rw[<-(o9 h.hl.bar).2];exact c9 b
 obtain⟨c,d⟩:=aZ.vI m 1 1 h.hl.wf.arms δ δ _ a;have e:=zQ m 1 1 h.hl.wf.arms δ δ _ a;have p:=oZ h.deep;have q:=EX h.deep;rw[one_mul] at d e;have f:(18:Int) ^ 2=324:=δ
 have g:(9:Int) ^ 2=81:=δ
 exact⟨c,ω,ω⟩
theorem SH{ms:List M}(h:∀m∈ms,Fv m){s:bu}(f:dH (ms.map ai) s):0<b5 (ms.map ai) s/\(rf (b5 (ms.map ai) s)).1<=26244/\(rf (b5 (ms.map ai) s)).2<=26244:=by
 obtain⟨T,h1,h2,e⟩:=f;unfold b5;rw[jT h1,jT h1];obtain⟨m,b,rfl⟩:=aN.mp (bP h1);have a:=g8 (h m b).hl;rw[a.2.2 _ h2,a.2.2 _ e];obtain⟨c,g,i⟩:=(h m b).sh ((a.2.1 _).mp h2);obtain⟨d,j,k⟩:=(h m b).sh ((a.2.1 _).mp e);have p2:=dQ c;have l:=dQ d;have d2:=dj (shr m s.2.1);have d3:=dj (shr m s.2.2);refine⟨by rw[iI];exact eY d (jd.mpr c),?_⟩;rw[yp d c];obtain⟨k1,k2⟩:=vz (fK l d2) (fK d3 p2);have n:(rf (shr m s.2.2)).1*(rf (shr m s.2.1)).2<=81*324:=d8 j i (d9 d2) δ;have o:(rf (shr m s.2.2)).2*(rf (shr m s.2.1)).1<=324*81:=d8 k g (d9 p2) δ;exact⟨ω,ω⟩
theorem BV{ms:List M}(h:∀m∈ms,Fv m):∀(ss:List bu) (x:Rat) (k:Nat),(∀s∈ss,dH (ms.map ai) s)->0<x->(rf x).1<=(26244:Int) ^ k->(rf x).2<=(26244:Int) ^ k->0<ss.foldl (λx s=>x*b5 (ms.map ai) s) x/\(rf (ss.foldl (λx s=>x*b5 (ms.map ai) s) x)).1<=(26244:Int) ^ (k+ss.length)/\(rf (ss.foldl (λx s=>x*b5 (ms.map ai) s) x)).2<=(26244:Int) ^ (k+ss.length)
 |[],x,k,_,h1,h2,c=>⟨h1,h2,c⟩
 |s::ss,x,k,d,h1,h2,c=>by
  obtain⟨pos,g,d2⟩:=SH h (d s (br ..));have z:(0:Int)<=26244 ^ k:=pow_nonneg δ;have i:=dQ h1;have xd:=dj x;have e:=dQ pos;have f:=dj (b5 (ms.map ai) s);obtain⟨j,l⟩:=vz (a:=(rf x).1*(rf (b5 (ms.map ai) s)).1) (b:=(rf x).2*(rf (b5 (ms.map ai) s)).2) (fK i e) (fK xd f);rw[Fy] at j l;have n:(rf x).1*(rf (b5 (ms.map ai) s)).1<=26244 ^ k*26244:=d8 h2 g (d9 e) z;have o:(rf x).2*(rf (b5 (ms.map ai) s)).2<=26244 ^ k*26244:=d8 c d2 (d9 f) z;have:=BV h ss (x*b5 (ms.map ai) s) (k+1) (λy hy=>d y (bq _ hy)) (eY h1 pos) (by rw[j6];omega) (by rw[j6];omega);rw[gA,gv,show k+(ss.length+1)=k+1+ss.length by omega];exact this
theorem Mh{ms:List M}(e:ms.length<=6)(h:∀m∈ms,Fv m):∀P∈bg (ms.map ai),∀n∈au P,nM (eB (ms.map ai) P n):=λP f n g=>by
 have hok:=ir e h;obtain⟨b,d,_,rfl⟩:=fZ hok f;have a:=(gY hok d).1;have pm:=iw g;have pl:=a.pl _ pm;have pn:=a.len;have l:N4.length=4:=rfl;obtain⟨k1,k2,k3⟩:=BV h (cy (aO (ms.map ai) b) n) 1 0 (λs i=>rB _ pm s i) δ (by rw[zK];decide) (by rw[zK];decide);have j:0+(cy (aO (ms.map ai) b) n).length<=4:=by
  simp at pl;omega
 have p:=zx (c:=26244) δ j;have k:((26244:Nat):Int) ^ 4=474373168346071296:=δ
 rw[k] at p;have p:(26244:Int) ^ (0+(cy (aO (ms.map ai) b) n).length)<=474373168346071296:=p;exact⟨k1,by show(rf (c7 _ _)).1<=_;unfold c7;omega,by show(rf (c7 _ _)).2<=_;unfold c7;omega⟩
theorem S5(a b:Str):strLt a b\/a=b\/strLt b a:=by
 by_cases h1:a.cps.toList<b.cps.toList
 .exact .inl h1
 .by_cases h2:b.cps.toList<a.cps.toList
  .exact .inr (.inr h2)
  .refine .inr (.inl ?_)
   have e:a.cps.toList=b.cps.toList:=le_antisymm (not_lt.mp h2) (not_lt.mp h1);obtain⟨⟨a⟩⟩:=a;obtain⟨⟨b⟩⟩:=b;simp at e;rw[e]
theorem S4{a b c:Str}(h:strLt a b)(k:strLt b c):strLt a c:=sH (show a.cps.toList<b.cps.toList from h) (show b.cps.toList<c.cps.toList from k)
theorem DF(a:Str):∀ys:List Str,ys.Pairwise strLt->∃zs:List Str,zs.Pairwise strLt/\∀x,x∈zs↔x=a\/x∈ys
 |[],_=>⟨[a],θ,λx=>θ⟩
 |y::r,h=>by
  obtain⟨h1,h2⟩:=g_.mp h;rcases S5 a y with c|c|c
  .refine⟨a::y::r,g_.mpr ⟨λx hx=>?_,h⟩,λx=>θ⟩
   rcases bz.mp hx with rfl|hx
   .exact c
   .exact S4 c (h1 x hx)
  .subst c
   exact⟨a::r,h,λx=>θ⟩
  .obtain⟨zs,d,b⟩:=DF a r h2
   refine⟨y::zs,g_.mpr ⟨λx hx=>?_,d⟩,λx=>?_⟩
   .rcases (b x).mp hx with rfl|hx
    .exact c
    .exact h1 x hx
   .rw[bz,bz,b x]
    constructor
    .rintro (h|h|h)
     .exact .inr (.inl h)
     .exact .inl h
     .exact .inr (.inr h)
    .rintro (h|h|h)
     .exact .inr (.inl h)
     .exact .inl h
     .exact .inr (.inr h)
theorem yx:∀ns:List Str,∃ys:List Str,ys.Pairwise strLt/\∀x,x∈ys↔x∈ns
 |[]=>⟨[],Pairwise.nil,λx=>Iff.rfl⟩
 |a::ns=>by
  obtain⟨ys,h1,h2⟩:=yx ns;obtain⟨zs,b,c⟩:=DF a ys h1;exact⟨zs,b,λx=>by rw[c,h2,bz]⟩
theorem UK{ys:List Str}{s:Str->Rat}{rs:List (Str×Int)}(r:(rs.map (·.1)).Nodup)(a:∀p∈ys.zip (lw (ys.map s)),p∈rs)(t:∀y∈ys,0<s y)(j:ys≠[]):
  (∀y∈ys,0<val rs y)/\(∀d:Int,(∀y∈ys,d∣val rs y)->d∣1)/\∃c:Rat,0<c/\∀y∈ys,(val rs y:Rat)=c*s y:=by
 have hl:(lw (ys.map s)).length=ys.length:=by rw[D9,aS]
 have f:∀x∈ys.map s,0<x:=λx hx=>by
  obtain⟨y,hy,rfl⟩:=aN.mp hx;exact t y hy
 have b:ys.map s≠[]:=λz=>j (by simpa using z);have row:∀x∈ys,∃i,∃k,ys[i]?=some x/\(lw (ys.map s))[i]?=some k/\val rs x=k:=λx hx=>by
  obtain⟨i,hi,e⟩:=j_ hx;have h:ys[i]?=some x:=by rw[aW hi,e]
  have g:(lw (ys.map s))[i]?=some ((lw (ys.map s))[i]' ω):=aW _;have m:(ys.zip (lw (ys.map s)))[i]?=some (x,(lw (ys.map s))[i]' ω):=wD.mpr ⟨h,g⟩;exact⟨i,_,h,g,Ad r (a _ (bP m))⟩
 refine⟨λx hx=>?_,λk u=>?_,?_⟩
 .obtain⟨i,k,_,g,o⟩:=row x hx
  rw[o];exact Ob f k (bP g)
 .refine Oa f b λn q=>?_
  obtain⟨i,hi,e⟩:=j_ q;have hx:ys[i]?=some (ys[i]' ω):=aW _;have m:(ys.zip (lw (ys.map s)))[i]?=some (ys[i]' ω,n):=wD.mpr ⟨hx,by rw[aW hi,e]⟩;have:=u _ (bP hx);rw[Ad r (a _ (bP m))] at this;exact this
 .obtain⟨c,hc,e⟩:=Oc f b
  refine⟨c,hc,λx hx=>?_⟩;obtain⟨i,k,h,g,o⟩:=row x hx;rw[o];have z:=cB (λl=>l[i]?) e;simp only[bO,g,h,map_some] at z;exact Option.some.inj z
theorem Hz{Ts:List Tb}{NN:List Str}(hok:cY Ts NN){rs:List (Str×Int)}(g:rs.Perm (i9 Ts)){P:aP}(b:P∈bg Ts):
  (∀y∈au P,0<val rs y)/\(∀d:Int,(∀y∈au P,d∣val rs y)->d∣1)/\∃c:Rat,0<c/\∀y∈au P,(val rs y:Rat)=c*eB Ts P y:=by
 have a:∀P∈bg Ts,∃ys:List Str,ys.Pairwise strLt/\∀x,x∈ys↔x∈au P:=λP _=>yx _;obtain⟨t1,j⟩:=vN (Ts:=Ts) (mQ hok) a;have h:(rs.map (·.1)).Nodup:=(g.map (·.1)).nodup_iff.mpr t1;obtain⟨n1,n2,n3⟩:=Hy (Ts:=Ts) (a P b);obtain⟨k,i,_,rfl⟩:=fZ hok b;have e:k∈au (aO Ts k):=(iC hok i).mpr (.refl _);have:=UK (ys:=ja (au (aO Ts k))) (s:=eB Ts (aO Ts k)) h (λp f=>g.mem_iff.mpr (gy.mpr ⟨_,b,f⟩)) (λy hy=>(xX hok.tok (rB _ (iw ((n3 y).mp hy)))).1) (λz=>by
  have:=(n3 k).mpr e;rw[z] at this;cases this)
 simp only[n3] at this;exact this
theorem rS{Ts:List Tb}{NN:List Str}(hok:cY Ts NN){rs:List (Str×Int)}(d:rs.Perm (i9 Ts))(x:Str):x∈rs.map (·.1)↔∃T∈Ts,x∈aA T:=by
 obtain⟨t1,e⟩:=vN (Ts:=Ts) (mQ hok) λP _=>yx _;rw[(d.map (·.1)).mem_iff];refine(e x).trans ⟨λh=>?_,λ⟨T,b,hx⟩=>mP hok b hx⟩;obtain⟨P,f,hx⟩:=gy.mp h;obtain⟨k,g,⟨T,b,c⟩,rfl⟩:=fZ hok f;have r:=(iC hok g).mp hx;cases r with
 |refl=>exact⟨T,b,c⟩
 |step _ a=>
  obtain⟨i,h1,h2,j⟩:=a;exact⟨i,h1,j⟩
def Sc(m:M)(B:Int):Prop:=∃d:Rat,0<d/\∀n∈m.names,∃k:Int,1<=k/\k<=B/\(k:Rat)=d*shr m n
theorem f6{i:Int}(h:1<=i):(0:Rat)<(i:Rat):=Rat.intCast_pos.mpr ω
theorem iu{i:Int}(h:1<=i):(i:Rat)≠0:=fP (f6 h)
theorem fj{a b x y:Int}(h1:1<=a)(h2:a<=x)(c:1<=b)(d:b<=y):1<=a*b/\a*b<=x*y:=
 ⟨by have:=d8 (a:=1) (b:=1) h1 c δ ω;omega,d8 h2 d ω ω⟩
inductive Sb:M->Prop
 |wt (p:Str):Sb (.wt p)
 |aQ (l r:Int) (p q:Str):1<=l->l<=9->1<=r->r<=9->Sb (.aQ l r (.wt p) (.wt q))
theorem GI{m:M}(c:m.arms)(hd:m.deep<=1):Sb m:=by
 cases m with
 |wt p=>exact .wt p
 |aQ l r a b=>
  obtain⟨d,e,f,g,h,i⟩:=c;have hd:max a.deep b.deep+1<=1:=hd;cases a with
  |aQ _ _ _ _=>simp only[aZ.deep] at hd;omega
  |wt p=>
   cases b with
   |aQ _ _ _ _=>simp only[aZ.deep] at hd;omega
   |wt q=>exact .aQ l r p q d e f g
noncomputable def i8:M->List (Str×Int)
 |.wt p=>[(p,1)]
 |.aQ l r (.wt p) (.wt q)=>[(p,r),(q,l)]
 |_=>[]
noncomputable def lU:M->Int
 |.aQ l r _ _=>l+r
 |_=>1
theorem GJ{m:M}(h:Sb m)(w:Str)(x:Rat):(bR m w x).map (λp=>(p.2.1,p.2.2))=(i8 m).map λp=>(p.1,x*((p.2:Rat)/(lU m:Rat))):=by
 cases h with
 |wt p=>
  show [(p,x)]=[(p,x*(((1:Int):Rat)/((1:Int):Rat)))];have:x*(((1:Int):Rat)/((1:Int):Rat))=x:=by
   have e:((1:Int):Rat)=1:=rfl;rw[e];grind
  rw[this]
 |aQ l r p q=>rfl
theorem Rj{m:M}(h:Sb m):1<=lU m/\lU m<=18/\∀p∈i8 m,1<=p.2/\p.2<=9:=by
 cases h with
 |wt p=>exact⟨show(1:Int)<=1 by decide,show(1:Int)<=18 by decide,λp a=>by rw[bH.mp a];exact⟨show(1:Int)<=1 by decide,show(1:Int)<=9 by decide⟩⟩
 |aQ l r p q h1 h2 b c=>
  refine⟨show 1<=l+r by omega,show l+r<=18 by omega,λz hz=>?_⟩;have hz:z=(p,r)\/z=(q,l):=by simpa[i8] using hz
  rcases hz with rfl|rfl
  .exact⟨b,c⟩
  .exact⟨h1,h2⟩
theorem vD{m:M}(h:Sb m):m.names=(i8 m).map (·.1):=by
 cases h<;>rfl
section
variable{l r:Int}{x y:M}
structure Top(l r:Int)(x y:M):Prop where
 l1:1<=l
 l9:l<=9
 r1:1<=r
 r9:r<=9
 sx:Sb x
 sy:Sb y
 hx:∀p∈i8 x,shr (.aQ l r x y) p.1=(r:Rat)/((l+r:Int):Rat)*((p.2:Rat)/(lU x:Rat))
 hy:∀p∈i8 y,shr (.aQ l r x y) p.1=(l:Rat)/((l+r:Int):Rat)*((p.2:Rat)/(lU y:Rat))
theorem Ub(h:Fv (.aQ l r x y)):Top l r x y:=by
 obtain⟨g,i,j,m,n,o⟩:=h.hl.wf.arms;have hd:max x.deep y.deep+1<=2:=h.deep;have sx:=GI n ω;have sy:=GI o ω;have k:=(o9 h.hl.bar).1;have one:∀z:Rat,1*z=z:=λz=>nC z;refine⟨g,i,j,m,sx,sy,λp c=>?_,λp c=>?_⟩
 .have d:(p.1,(1:Rat)*((r:Rat)/((l+r:Int):Rat))*((p.2:Rat)/(lU x:Rat)))∈(bR x (""++"l") (1*((r:Rat)/((l+r:Int):Rat)))).map (λp=>(p.2.1,p.2.2)):=by
   rw[GJ sx];exact aN.mpr ⟨p,c,rfl⟩
  obtain⟨q,f,e⟩:=aN.mp d;have:=k q (kP _ f);have a:=cB Prod.fst e;have b:=cB Prod.snd e;simp only at a b;rw[<-a,<-this,b,one]
 .have d:(p.1,(1:Rat)*((l:Rat)/((l+r:Int):Rat))*((p.2:Rat)/(lU y:Rat)))∈(bR y (""++"r") (1*((l:Rat)/((l+r:Int):Rat)))).map (λp=>(p.2.1,p.2.2)):=by
   rw[GJ sy];exact aN.mpr ⟨p,c,rfl⟩
  obtain⟨q,f,e⟩:=aN.mp d;have:=k q (gx _ f);have a:=cB Prod.fst e;have b:=cB Prod.snd e;simp only at a b;rw[<-a,<-this,b,one]
theorem Ua(h:Top l r x y){n:Str}(hn:n∈(aZ.aQ l r x y).names):(∃p∈i8 x,p.1=n)\/∃p∈i8 y,p.1=n:=by
 have hn:n∈x.names++y.names:=hn;rw[vD h.sx,vD h.sy] at hn;rcases b_.mp hn with hn|hn
 .exact .inl (aN.mp hn)
 .exact .inr (aN.mp hn)
structure Tp(m:M)(l r:Int)(Lx:List (Str×Int))(Sx:Int)(Ly:List (Str×Int))(Sy:Int):Prop where
 l1:1<=l
 l9:l<=9
 r1:1<=r
 r9:r<=9
 sx:1<=Sx
 sy:1<=Sy
 bx:∀p∈Lx,1<=p.2/\p.2<=9
 nU:∀p∈Ly,1<=p.2/\p.2<=9
 nm:∀n∈m.names,(∃p∈Lx,p.1=n)\/∃p∈Ly,p.1=n
 hx:∀p∈Lx,shr m p.1=(r:Rat)/((l+r:Int):Rat)*((p.2:Rat)/(Sx:Rat))
 hy:∀p∈Ly,shr m p.1=(l:Rat)/((l+r:Int):Rat)*((p.2:Rat)/(Sy:Rat))
 ix:∀p∈Lx,p.1∈m.names
 iy:∀p∈Ly,p.1∈m.names
def Sd(L:List (Str×Int))(S:Int):Prop:=(∃p,L=[(p,1)]/\S<=2)\/∃p q u v,p≠q/\L=[(p,u),(q,v)]/\S<=18
theorem MC{R:Rat}{a b:Int}(c:0<R)(d:1<=a)(e:1<=b)(h:R*((a:Rat)/((b+a:Int):Rat))=R*((b:Rat)/((b+a:Int):Rat))):a=b:=by
 have s:=iu (show 1<=b+a by omega);have f:=fP c;refine Rat.intCast_inj.mp ?_;grind
theorem MD{R:Rat}{a:Int}(b:1<=a):R*((a:Rat)/((a+a:Int):Rat))=R*(((1:Int):Rat)/((2:Int):Rat)):=by
 have s:=iu b;have c:((1:Int):Rat)=1:=rfl;have d:((2:Int):Rat)=2:=rfl;rw[Rat.intCast_add,c,d];grind
theorem GW{f:Str->Rat}{R:Rat}(j:0<R){x:M}(sx:Sb x)(hx:∀p∈i8 x,f p.1=R*((p.2:Rat)/(lU x:Rat))):∃L S,Sd L S/\1<=S/\(∀p∈L,1<=p.2/\p.2<=9)/\(∀n,(∃p∈i8 x,p.1=n)->∃p∈L,p.1=n)/\(∀p∈L,f p.1=R*((p.2:Rat)/(S:Rat)))/\∀p∈L,∃z∈i8 x,z.1=p.1:=by
 obtain⟨c,k,d⟩:=Rj sx;cases sx with
 |wt p=>exact⟨_,_,.inl ⟨p,rfl,show(1:Int)<=2 by decide⟩,c,d,λn h=>h,hx,λz hz=>⟨z,hz,rfl⟩⟩
 |aQ l r p q h1 h2 g t=>
  by_cases a:p=q
  .subst a
   have i:f p=R*((r:Rat)/((l+r:Int):Rat)):=hx (p,r) (br ..);have m:f p=R*((l:Rat)/((l+r:Int):Rat)):=hx (p,l) (bq _ (br ..));have e:=MC j g h1 (i.symm.trans m);subst e;refine⟨[(p,1)],2,.inl ⟨p,rfl,δ⟩,δ,λp b=>?_,λn o=>?_,λs b=>?_,λs b=>⟨(p,r),br ..,by rw[bH.mp b]⟩⟩
   .rw[bH.mp b]
    exact⟨show(1:Int)<=1 by decide,show(1:Int)<=9 by decide⟩
   .obtain⟨z,hz,rfl⟩:=o
    have hz:z=(p,r)\/z=(p,r):=by simpa[i8] using hz
    refine⟨_,bH.mpr rfl,?_⟩;rcases hz with rfl|rfl<;>rfl
   .rw[bH.mp b]
    rw[i];exact MD g
  .exact⟨_,_,.inr ⟨p,q,r,l,a,rfl,k⟩,c,d,λn h=>h,hx,λz hz=>⟨z,hz,rfl⟩⟩
theorem z7(h:Fv (.aQ l r x y)):∃Lx Sx Ly Sy,Tp (.aQ l r x y) l r Lx Sx Ly Sy/\Sd Lx Sx/\Sd Ly Sy:=by
 have t:=Ub h;have d:1<=l+r:=by have:=t.l1;have:=t.r1;omega
 have div:∀{a b:Rat},0<a->0<b->0<a/b:=λ {a b} f g=>by rw[iI];exact eY f (jd.mpr g)
 obtain⟨Lx,Sx,a1,a2,i,j,k,m⟩:=GW (div (f6 t.r1) (f6 d)) t.sx t.hx;obtain⟨Ly,Sy,o,q,s,u,v,w⟩:=GW (div (f6 t.l1) (f6 d)) t.sy t.hy;refine⟨Lx,Sx,Ly,Sy,⟨t.l1,t.l9,t.r1,t.r9,a2,q,i,s,λn A=>(Ua t A).imp (j n) (u n),k,v,λp c=>?_,λp c=>?_⟩,a1,o⟩
 .obtain⟨z,hz,e⟩:=m p c
  show p.1∈x.names++y.names;rw[vD t.sx,<-e];exact kP _ (c9 hz)
 .obtain⟨z,hz,e⟩:=w p c
  show p.1∈x.names++y.names;rw[vD t.sy,<-e];exact gx _ (c9 hz)
end
section
variable{m:M}{l r Sx Sy:Int}{Lx Ly:List (Str×Int)}
theorem vF(h:Tp m l r Lx Sx Ly Sy){B:Int}(g:∀p∈Lx,r*p.2*Sy<=B)(e:∀p∈Ly,l*p.2*Sx<=B):Sc m B:=by
 have a:=h.sx;have c:=h.sy;have f:1<=l+r:=by have:=h.l1;have:=h.r1;omega
 refine⟨((l+r:Int):Rat)*(Sx:Rat)*(Sy:Rat),eY (eY (f6 f) (f6 a)) (f6 c),λn i=>?_⟩;have j:=iu f;have n1:=iu a;have n2:=iu c;rcases h.nm n i with⟨p,d,rfl⟩|⟨p,d,rfl⟩
 .have b:=(h.bx p d).1
  refine⟨r*p.2*Sy,(fj (fj h.r1 (gO _) b (gO _)).1 (gO _) c (gO _)).1,g p d,?_⟩;rw[h.hx p d,eW,eW];grind
 .have b:=(h.nU p d).1
  refine⟨l*p.2*Sx,(fj (fj h.l1 (gO _) b (gO _)).1 (gO _) a (gO _)).1,e p d,?_⟩;rw[h.hy p d,eW,eW];grind
theorem GN{R:Rat}{L:List (Str×Int)}{S:Int}(b:0<R)(c:1<=S)(d:∀p∈L,1<=p.2/\p.2<=9)(e:∀p∈L,shr m p.1=R*((p.2:Rat)/(S:Rat)))(f:∀n∈m.names,∃p∈L,p.1=n):Sc m 9:=by
 have g:=fP b;have s0:=iu c;refine⟨(S:Rat)/R,by rw[iI];exact eY (f6 c) (jd.mpr b),λn h=>?_⟩;obtain⟨p,a,rfl⟩:=f n h;refine⟨p.2,(d p a).1,(d p a).2,?_⟩;rw[e p a];grind
theorem vE(h:Tp m l r Lx Sx Ly Sy){p q:Str×Int}(d:p∈Lx)(f:q∈Ly)(e:p.1=q.1):Sc m 81:=by
 have g:1<=l+r:=by have:=h.l1;have:=h.r1;omega
 have i:=h.hx p d;have j:=h.hy q f;have c:=h.bx p d;have b:=h.nU q f;have o:=iu g;have n1:=iu h.sx;have n2:=iu h.sy;have n3:=iu c.1;have n4:=iu b.1;have n5:=iu h.r1;have n6:=iu h.l1;refine⟨(q.2:Rat)*(Sx:Rat)*((l+r:Int):Rat)/(r:Rat),?_,λn k=>?_⟩
 .rw[iI]
  exact eY (eY (eY (f6 b.1) (f6 h.sx)) (f6 g)) (jd.mpr (f6 h.r1))
 rcases h.nm n k with⟨z,hz,rfl⟩|⟨z,hz,rfl⟩
 .have a:=h.bx z hz
  have mb:=fj a.1 a.2 b.1 b.2;refine⟨z.2*q.2,mb.1,mb.2,?_⟩;rw[h.hx z hz,eW];grind
 .have a:=h.nU z hz
  have mb:=fj a.1 a.2 c.1 c.2;refine⟨z.2*p.2,mb.1,mb.2,?_⟩;rw[h.hy z hz,eW];rw[e,j] at i;grind
theorem Sc.mono{B a:Int}(h:Sc m B)(c:B<=a):Sc m a:=by
 obtain⟨d,h1,h2⟩:=h;exact⟨d,h1,λn b=>by obtain⟨k,k1,k2,k3⟩:=h2 n b;exact⟨k,k1,ω,k3⟩⟩
theorem zN{p:Str}(h:Fv (.wt p)):Sc (.wt p) 1:=by
 have e:shr (.wt p) p=1:=((o9 h.hl.bar).1 ("",p,1) (bH.mpr rfl)).symm;refine⟨1,δ,λn a=>⟨1,δ,δ,?_⟩⟩;rw[bH.mp a,e,nC];rfl
theorem Sd.s{L:List (Str×Int)}{S:Int}(h:Sd L S):S<=18:=by
 rcases h with⟨_,_,h⟩|⟨_,_,_,_,_,_,h⟩
 .omega
 .exact h
theorem uH{p:Str}{k z:Int}{q:Str×Int}{L:List (Str×Int)}(e:L=[(p,1)])(a:q∈L):q.2=1:=by
 rw[e] at a;rw[bH.mp a]
theorem Rn(h:Fv m):Sc m 1458:=by
 cases m with
 |wt p=>exact(zN h).mono δ
 |aQ l r x y=>
  obtain⟨Lx,Sx,Ly,Sy,t,dx,d⟩:=z7 h;have:=dx.s;have:=d.s;refine vF t (λp c=>?_) (λp c=>?_)
  .have b:=t.bx p c
   have a:=fj t.r1 t.r9 b.1 b.2;exact(fj a.1 a.2 t.sy d.s).2
  .have b:=t.nU p c
   have a:=fj t.l1 t.l9 b.1 b.2;exact(fj a.1 a.2 t.sx dx.s).2
theorem Rm(h:Fv m){a b c:Str}(E:∀n∈m.names,n=a\/n=b\/n=c):Sc m 162:=by
 cases m with
 |wt p=>exact(zN h).mono δ
 |aQ l r x y=>
  obtain⟨Lx,Sx,Ly,Sy,t,dx,F⟩:=z7 h;have d:∀{p},Lx=[(p,1)]->Sx<=2->Sc (.aQ l r x y) 162:=λ {p} e s=>by
   refine vF t (λz hz=>?_) (λz hz=>?_)
   .rw[uH (k:=0) (z:=0) e hz,mul_one]
    exact(fj t.r1 t.r9 t.sy F.s).2
   .have b:=t.nU z hz
    have f:=fj t.l1 t.l9 b.1 b.2;exact(fj f.1 f.2 t.sx s).2
  have g:∀{p},Ly=[(p,1)]->Sy<=2->Sc (.aQ l r x y) 162:=λ {p} e s=>by
   refine vF t (λz hz=>?_) (λz hz=>?_)
   .have b:=t.bx z hz
    have f:=fj t.r1 t.r9 b.1 b.2;exact(fj f.1 f.2 t.sy s).2
   .rw[uH (k:=0) (z:=0) e hz,mul_one]
    exact(fj t.l1 t.l9 t.sx dx.s).2
  rcases id dx with⟨p,e,s⟩|⟨p,q,u,v,ne,e,s⟩
  .exact d e s
  .rcases id F with⟨o,w,s'⟩|⟨o,A,G,H,ne',w,s'⟩
   .exact g w s'
   .have i:∀z∈Lx,z.1=a\/z.1=b\/z.1=c:=λz hz=>E _ (t.ix z hz)
    have j:∀z∈Ly,z.1=a\/z.1=b\/z.1=c:=λz hz=>E _ (t.iy z hz);have B:(p,u)∈Lx:=by rw[e];simp
    have C:(q,v)∈Lx:=by rw[e];simp
    have p2:(o,G)∈Ly:=by rw[w];simp
    have D:(A,H)∈Ly:=by rw[w];simp
    have I:=i _ B;have J:=i _ C;have K:=j _ p2;have L:=j _ D;simp only at I J K L;have:p=o\/p=A\/q=o\/q=A:=by grind
    rcases this with z|z|z|z
    .exact(vE t B p2 z).mono δ
    .exact(vE t B D z).mono δ
    .exact(vE t C p2 z).mono δ
    .exact(vE t C D z).mono δ
theorem Rk(h:Fv m){a b:Str}(d:∀n∈m.names,n=a\/n=b):Sc m 18:=by
 cases m with
 |wt p=>exact(zN h).mono δ
 |aQ l r x y=>
  obtain⟨Lx,Sx,Ly,Sy,t,dx,o⟩:=z7 h;have g:1<=l+r:=by have:=t.l1;have:=t.r1;omega
  have div:∀{a b:Rat},0<a->0<b->0<a/b:=λ {a b} w A=>by rw[iI];exact eY w (jd.mpr A)
  have c:∀{L:List (Str×Int)} {p q:Str} {u v:Int},p≠q->L=[(p,u),(q,v)]->(∀z∈L,z.1∈(aZ.aQ l r x y).names)->∀n∈(aZ.aQ l r x y).names,∃z∈L,z.1=n:=λ {L p q u v} ne e hi n B=>by
   have i:(p,u)∈L:=by rw[e];simp
   have j:(q,v)∈L:=by rw[e];simp
   have C:=d _ (hi _ i);have D:=d _ (hi _ j);have F:=d n B;simp only at C D;have:n=p\/n=q:=by grind
   rcases this with z|z
   .exact⟨_,i,z.symm⟩
   .exact⟨_,j,z.symm⟩
  rcases id dx with⟨p,e,s⟩|⟨p,q,u,v,ne,e,s⟩
  .rcases id o with⟨E,f,s'⟩|⟨E,G,H,I,ne',f,s'⟩
   .refine vF t (λz hz=>?_) (λz hz=>?_)
    .rw[uH (k:=0) (z:=0) e hz,mul_one]
     exact(fj t.r1 t.r9 t.sy s').2
    .rw[uH (k:=0) (z:=0) f hz,mul_one]
     exact(fj t.l1 t.l9 t.sx s).2
   .exact(GN (div (f6 t.l1) (f6 g)) t.sy t.nU t.hy (c ne' f t.iy)).mono δ
  .exact(GN (div (f6 t.r1) (f6 g)) t.sx t.bx t.hx (c ne e t.ix)).mono δ
end
def Vb(w:Str->Rat)(L:List Str)(b:Int):Prop:=∃c:Rat,0<c/\∀n∈L,∃k:Int,1<=k/\k<=b/\(k:Rat)=c*w n
theorem Vb.mono{w:Str->Rat}{L:List Str}{b a:Int}(h:Vb w L b)(e:b<=a):Vb w L a:=by
 obtain⟨d,h1,h2⟩:=h;exact⟨d,h1,λn c=>by obtain⟨k,k1,k2,k3⟩:=h2 n c;exact⟨k,k1,ω,k3⟩⟩
theorem Vb.join{w:Str->Rat}(g:∀n,0<w n){L a N:List Str}{b f:Int}(h:Vb w L b)(h':Vb w a f){z:Str}(hz:z∈L)(e:z∈a)(i:∀n∈N,n∈L\/n∈a):Vb w N (b*f):=by
 obtain⟨c,j,h1⟩:=h;obtain⟨d,l,h2⟩:=h';obtain⟨m,a1,a2,o⟩:=h1 z hz;obtain⟨p,q,r,s⟩:=h2 z e;refine⟨c*d*w z,eY (eY j l) (g z),λn hn=>?_⟩;rcases i n hn with hn|hn
 .obtain⟨k,k1,k2,k3⟩:=h1 n hn
  have:=fj k1 k2 q r;refine⟨k*p,this.1,this.2,?_⟩;rw[eW,k3,s];grind
 .obtain⟨k,k1,k2,k3⟩:=h2 n hn
  have:=fj a1 a2 k1 k2;refine⟨m*k,this.1,this.2,?_⟩;rw[eW,k3,o];grind
theorem Vb.one{w:Str->Rat}(a:∀n,0<w n)(s:Str):Vb w [s] 1:=by
 have s0:=fP (a s);refine⟨1/w s,by rw[iI,nC];exact jd.mpr (a s),λn b=>⟨1,δ,δ,?_⟩⟩;rw[bH.mp b];show(1:Rat)=_;grind
theorem Sc.vb{Ts:List Tb}{w:Str->Rat}(c:Cs Ts w){m:M}(g:Fv m)(o:ai m∈Ts){B:Int}(h:Sc m B):Vb w (aA (ai m)) B:=by
 obtain⟨tk,i,j⟩:=g8 g.hl;obtain⟨d,p,h⟩:=h;obtain⟨b,a⟩:∃n,n∈aA (ai m):=by
  cases e:aA (ai m) with
  |nil=>exact absurd (pK.mp e) tk.ne
  |cons n r=>exact⟨n,θ⟩
 have l:=(g.sh ((i b).mp a)).1;have s0:=fP l;have q:=fP (c.pos b);refine⟨d*shr m b/w b,?_,λn f=>?_⟩
 .rw[iI]
  exact eY (eY p l) (jd.mpr (c.pos b))
 obtain⟨k,k1,k2,k3⟩:=h n ((i n).mp f);refine⟨k,k1,k2,?_⟩;have e:=c.eq _ o _ a _ f;rw[j _ f,j _ a] at e;rw[k3];grind
noncomputable def bt(n:Nat):Int:=if n=1 then 1 else if n=2 then 18 else if n=3 then 2916 else 472392
theorem KN{T:List Str}(f:T.Nodup)(g:∀n∈T,n∈N4)(h:¬∀n∈N4,n∈T):∃a b c:Str,∀n∈T,n=a\/n=b\/n=c:=by
 have h:∃n∈N4,n∉T:=Classical.byContradiction λk=>h λn d=>Classical.byContradiction λz=>k ⟨n,d,z⟩;obtain⟨x,hx,e⟩:=h;have mem:∀n∈T,n="a"\/n="b"\/n="c"\/n="d":=λn d=>by simpa[N4] using g n d
 have hx:x="a"\/x="b"\/x="c"\/x="d":=by simpa[N4] using hx
 have ne:∀n∈T,n≠x:=λn d z=>e (z▸d);rcases hx with rfl|rfl|rfl|rfl
 .exact⟨"b","c","d",λn d=>(mem n d).resolve_left (ne n d)⟩
 .exact⟨"a","c","d",λn d=>by
   rcases mem n d with h|h|h
   .exact .inl h
   .exact absurd h (ne n d)
   .exact .inr h⟩
 .exact⟨"a","b","d",λn d=>by
   rcases mem n d with h|h|h|h
   .exact .inl h
   .exact .inr (.inl h)
   .exact absurd h (ne n d)
   .exact .inr (.inr h)⟩
 .exact⟨"a","b","c",λn d=>by
   rcases mem n d with h|h|h|h
   .exact .inl h
   .exact .inr (.inl h)
   .exact .inr (.inr h)
   .exact absurd h (ne n d)⟩
theorem Mc{ms:List M}(r:∀m∈ms,Fv m){w:Str->Rat}(g:Cs (ms.map ai) w):∀(f:Nat) (L:List Str),L≠[]->L.Nodup->(∀n∈L,n∈N4)->4 - L.length<=f->Vb w L (bt L.length)->
  ∃q,(∀n∈L,n∈q)/\(∀n∈q,∀b,jC (ms.map ai) n b->b∈q)/\Vb w q 472392:=by
 intro f;induction f with
 |zero=>
  intro L ne nd sub K c;have l4:L.length<=4:=by have:=iA L N4 nd sub;simpa[N4] using this
  have all:∀b∈N4,b∈L:=λb E=>Classical.byContradiction λz=>by
   have:=iA (b::L) N4 (kT.mpr ⟨z,nd⟩) λx hx=>by
    rcases bz.mp hx with rfl|hx
    .exact E
    .exact sub x hx
   simp[N4] at this;omega
  refine⟨L,λ_ h=>h,λn i b ⟨T,j,_,s⟩=>all b ?_,c.mono (by unfold bt;split<;>(try split)<;>(try split)<;>omega)⟩;obtain⟨m,C,rfl⟩:=aN.mp j;exact(r m C).sub b (((g8 (r m C).hl).2.1 b).mp s)
 |succ f O=>
  intro L ne nd sub K c;by_cases hc:∀n∈L,∀b,jC (ms.map ai) n b->b∈L
  .exact⟨L,λ_ h=>h,hc,c.mono (by unfold bt;split<;>(try split)<;>(try split)<;>omega)⟩
  have:∃n∈L,∃b,jC (ms.map ai) n b/\b∉L:=Classical.byContradiction λk=>hc λn i b e=>Classical.byContradiction λz=>k ⟨n,i,b,e,z⟩;obtain⟨n,i,b,⟨T,j,t1,P⟩,E⟩:=this;obtain⟨m,C,rfl⟩:=aN.mp j;have d:=r m C;obtain⟨tk,F,ts⟩:=g8 d.hl;have l:∀x∈aA (ai m),x∈N4:=λx hx=>d.sub x ((F x).mp hx);by_cases G:∀x∈N4,x∈aA (ai m)
  .refine⟨aA (ai m),λx hx=>G x (sub x hx),λx hx y ⟨T',H,_,s⟩=>G y ?_,((Rn d).vb g d j).mono δ⟩
   obtain⟨J,t,rfl⟩:=aN.mp H;exact(r J t).sub y (((g8 (r J t).hl).2.1 y).mp s)
  obtain⟨x1,x2,x3,s⟩:=KN tk.nd l G;have I:Sc m 162:=Rm d λx hx=>s x ((F x).mpr hx);let N:=L++(aA (ai m)).filter λx=>decide (x∉L);have u:∀x∈N,x∈L\/x∈aA (ai m):=λx hx=>by
   rcases b_.mp hx with h|h
   .exact .inl h
   .exact .inr (iH.mp h).1
  have v:N.Nodup:=by
   refine nh.mpr ⟨nd,tk.nd.filter _,λx hx y hy=>?_⟩;have:=fS (iH.mp hy).2;rintro rfl;exact this hx
  have o:∀x∈N,x∈N4:=λx hx=>(u x hx).elim (sub x) (l x);have Q:N.length<=4:=by have:=iA N N4 v o;simpa[N4] using this
  have R:b∈(aA (ai m)).filter λx=>decide (x∉L):=iH.mpr ⟨P,cW E⟩;have lF:1<=((aA (ai m)).filter λx=>decide (x∉L)).length:=wF R;have lN:N.length=L.length+((aA (ai m)).filter λx=>decide (x∉L)).length:=dc;have l0:1<=L.length:=wF i;have p:∀x∈L,x∈N:=λx hx=>kP _ hx;have S:∀x∈aA (ai m),x∈N:=λx hx=>by
   by_cases h:x∈L
   .exact p x h
   .exact gx _ (iH.mpr ⟨hx,cW h⟩)
  have U:Vb w N (bt N.length):=by
   by_cases V:L.length=1
   .rw[V] at c
    by_cases D:N.length=2
    .-- two names
     obtain⟨A,B,W⟩:∃A B,N=[A,B]:=by
      match hh:N,D with
      |[A,B],_=>exact⟨A,B,rfl⟩
     have X:Sc m 18:=Rk d (a:=A) (b:=B) λx hx=>by
      have:=S x ((F x).mpr hx);rw[W] at this;simpa using this
     have:=c.join g.pos (X.vb g d j) i t1 u;rw[D];exact this
    .have:=c.join g.pos (I.vb g d j) i t1 u
     refine this.mono ?_;have:N.length=3\/N.length=4:=ω
     rcases this with e|e<;>rw[e]<;>decide
   .by_cases D:L.length=2
    .rw[D] at c
     refine(c.join g.pos (I.vb g d j) i t1 u).mono ?_;have:N.length=3\/N.length=4:=ω
     rcases this with e|e<;>rw[e]<;>decide
    .have Y:L.length=3:=ω
     rw[Y] at c;refine(c.join g.pos (I.vb g d j) i t1 u).mono ?_;have Z:N.length=4:=ω
     rw[Z];decide
  obtain⟨q,k1,k2,k3⟩:=O N (List.ne_nil_of_mem (p n i)) v o ω U;exact⟨q,λx hx=>k1 x (p x hx),k2,k3⟩
theorem least_le{S:List Str}{v:Str->Int}{w:Str->Rat}{c c':Rat}(i:∀y∈S,0<v y)(j:∀d:Int,(∀y∈S,d∣v y)->d∣1)(h:0<c)(hc:∀y∈S,(v y:Rat)=c*w y)(l:0<c'){B:Int}(b:∀y∈S,∃k:Int,k<=B/\(k:Rat)=c'*w y):∀y∈S,v y<=B:=λy hy=>by
 let a:Rat:=c'/c;have f:0<a:=by show 0<c'/c;rw[iI];exact eY l (jd.mpr h)
 have cn:=fP h;have key:∀y∈S,∀k:Int,(k:Rat)=c'*w y->k*(a.den:Int)=a.num*v y:=λy hy k b=>by
  have g:(k:Rat)=a*(v y:Rat):=by
   rw[b,hc y hy];show _=c'/c*_;grind
  have m:a=(a.num:Rat)/((a.den:Nat):Rat):=by rw[<-Rat.mkRat_eq_div,Rat.mkRat_self]
  have q:((a.den:Nat):Rat)≠0:=by
   intro z;exact a.den_nz (by exact_mod_cast z)
  refine Rat.intCast_inj.mp ?_;rw[eW,eW,g];have n:(((a.den:Nat):Int):Rat)=((a.den:Nat):Rat):=rfl;rw[n];generalize (v y:Rat)=V;generalize hd:((a.den:Nat):Rat)=dd at*
  generalize r:(a.num:Rat)=nn at*
  rw[m];grind
 have o:∀y∈S,(a.den:Int)∣v y:=λy hy=>by
  obtain⟨k,_,b⟩:=b y hy;have e:=key y hy k b;have h1:(a.den:Int)∣a.num*v y:=⟨k,by rw[<-e,kR]⟩;have h2:a.den∣(a.num*v y).natAbs:=Int.ofNat_dvd_left.mp h1;rw[Int.natAbs_mul] at h2;have p:=Nat.Coprime.dvd_of_dvd_mul_left (Nat.Coprime.symm a.reduced) h2;exact Int.ofNat_dvd_left.mpr p
 have s:=le_of_dvd δ (j _ o);have dp:=a.den_pos;have g:(a.den:Int)=1:=ω
 obtain⟨k,t,b⟩:=b y hy;have e:=key y hy k b;rw[g,mul_one] at e;have u:0<a.num:=dQ f;have v0:=i y hy;have:1*v y<=a.num*v y:=sF ω ω;omega
theorem T7{ms:List M}(p:ms.length<=6)(h:∀m∈ms,Fv m)(q:dw (ms.map ai)=none){rs:List (Str×Int)}(i:rs.Perm (i9 (ms.map ai))){x:Str}(hx:x∈rs.map (·.1)):1<=val rs x/\val rs x<=999999:=by
 have hok:=ir p h;obtain⟨w,b⟩:=uG hok q;obtain⟨T,s,f⟩:=(rS hok i x).mp hx;obtain⟨P,j,e⟩:=gy.mp (mP hok s f);obtain⟨k,l,_,rfl⟩:=fZ hok j;obtain⟨o,p2,c,t,u⟩:=Hz hok i j;have K:=fP (b.pos k);obtain⟨v,A,C,d,D,E⟩:=Mc h b 3 [k] θ θ (λn F=>by rw[bH.mp F];exact l) (show 4 - 1<=3 by decide) (Vb.one b.pos k);have g:∀y∈au (aO (ms.map ai) k),y∈v:=λy hy=>by
  have r:=(iC hok l).mp hy;clear hy;induction r with
  |refl=>exact A k (bH.mpr rfl)
  |step _ a G=>exact C _ G _ a
 have:=least_le (w:=w) (c:=c/w k) (c':=d) (B:=472392) o p2 (by rw[iI];exact eY t (jd.mpr (b.pos k))) (λy hy=>?_) D (λy hy=>?_) x e
 .have:=o x e
  omega
 .have H:eB (ms.map ai) (aO (ms.map ai) k) y*w k=w y:=tM hok.tok b (rC _ (iw hy))
  rw[u y hy,<-H];grind
 .obtain⟨z,_,I,J⟩:=E y (g y hy)
  exact⟨z,I,J⟩
noncomputable def vJ(Ts:List Tb):List D:=(m6 Ts).map λi=>D.int ((i:Nat):Int)
def nP:Ct:=λds A R _=>∃(i:Nat) (ms:List M),ds=[.int (i:Nat),.tup (ms.map enc)]/\1<=ms.length/\ms.length<=6/\(∀m∈ms,Fv m)/\
 ((i=0/\dw (ms.map ai)=none/\∀A' q,Gr A A'->A'[q]?=some (.lst (vJ (ms.map ai)))->A.length<=q->R (.ref q) A')\/
  (i=1/\(dw (ms.map ai)=none->∀A' rs,Gr A A'->rs.Perm (i9 (ms.map ai))->(rs.map (·.1)).Pairwise strLt->R (kD rs) A')/\(dw (ms.map ai)≠none->∀A',Gr A A'->R .aE A')))
end DP
namespace My
open L2 DP MA
theorem LR(T:TopD K mg "_law_try" FW uQ){a d:Addr}(b:mg "HangError"=some (.ref a))(m:mg "Never"=some (.ref d))(O:exmOne K (.ref d) (.ref a)=some true)
  (p:ay P w K mg base 14 "spare" vh (av mg 1 Bl))(j:ay P w K mg base 14 "together" vo (av mg 1 Bp)):ay P w K mg base 24 "_law_try" uQ (av mg 2 nP):=by
 refine iX T GL rfl δ λN RE f Q B outer s H E u Y hx ds A R h hl=>?_;have Z:=u.units;have nd:=GL.nd;obtain⟨r,hok⟩:∃o:List Str,o=[("Never":Str)]:=⟨_,rfl⟩;have v:∀c C,c∈r->mg c=some (.ref C)->exmOne K (.ref C) (.ref a)=some true:=λc C hc L=>by
  rw[hok] at hc;rw[bH.mp hc,m] at L;cases L;exact O
 refine⟨_,(aF (Ko r rfl rfl rfl b v (λM RE pn E hx=>(aF (aU (J2 (k:=22) (n:=1) (Dc (p.mono δ) (Dc (j.mono δ) LW δ) δ) (vr 0) (λ_ _=>rfl) (u.mono ω) hx (aa (vr 1) ah))))) (λM e=>(aF (aU mK))))),?_⟩;have y:("Never":Str)∈r:=by rw[hok];simp
 obtain⟨i,ms,rfl,h1,D,F,h⟩:=h;have x:=DI h1 D F;have ok:=ir D F;rcases h with⟨rfl,G,q⟩|⟨rfl,S,U⟩
 .refine⟨rfl,_,N4,rfl,⟨ms,x⟩,λI t=>?_,λJ=>absurd ⟨ms,x⟩ J⟩
  have e:=yJ t;subst e;exact⟨ok,λ_ A' q' g V l=>q _ _ g V l,λz=>absurd G z⟩
 .refine⟨rfl,_,N4,rfl,⟨ms,x⟩,lR,λI t=>?_,λJ=>absurd ⟨ms,x⟩ J⟩
  have e:=yJ t;subst e;exact⟨ok,λu=>⟨Mh D F,λA' rs g W X=>S u _ _ g W X⟩,λu A' g=>⟨y,U u _ g⟩⟩
end My
namespace DP
open L2 MA
theorem zU{f:Str->Int}{c:Rat}:∀(m:M) (w d:Str) (x:Rat),m.arms->(∀p∈bR m w x,(f p.2.1:Rat)=c*p.2.2)->(ld f m:Rat)=c*x/\dz f m d=[]
 |.wt n,w,d,x,_,h=>⟨h (w,n,x) (bH.mpr rfl),rfl⟩
 |.aQ l r a b,w,d,x,i,h=>by
  obtain⟨s,t,u,v,j,o⟩:=i;have h:∀p∈bR a (w++"l") (x*((r:Rat)/((l+r:Int):Rat)))++bR b (w++"r") (x*((l:Rat)/((l+r:Int):Rat))),(f p.2.1:Rat)=c*p.2.2:=h;obtain⟨a1,a2⟩:=zU a (w++"l") (d++"l") _ j λp e=>h p (kP _ e);obtain⟨g,q⟩:=zU b (w++"r") (d++"r") _ o λp e=>h p (gx _ e);have s0:=ko (show l+r≠0 by omega);have es:((l+r:Int):Rat)=(l:Rat)+(r:Rat):=Rat.intCast_add l r;rw[es] at a1 g s0;have k:l*ld f a=r*ld f b:=by
   refine Rat.intCast_inj.mp ?_;rw[eW,eW,a1,g];grind
  constructor
  .show((ld f a+ld f b:Int):Rat)=c*x
   rw[Rat.intCast_add,a1,g];grind
  .show hr2 d (l*ld f a) (r*ld f b)++dz f a _++dz f b _=[]
   rw[a2,q,k];unfold hr2;simp
theorem zT(f:Str->Int):∀(m:M) (w c:Str),((eL m w).all λp=>m7 f p.2)=true↔dz f m c=[]
 |.wt n,w,c=>by simp[eL,dz]
 |.aQ l r a b,w,c=>by
  show(((w,aZ.aQ l r a b)::(eL a (w++"l")++eL b (w++"r"))).all λp=>m7 f p.2)=true↔hr2 c (l*ld f a) (r*ld f b)++dz f a (c++"l")++dz f b (c++"r")=[];rw[all_cons,List.all_append,ia,ia,zT f a _ (c++"l"),zT f b _ (c++"r"),List.append_eq_nil_iff,List.append_eq_nil_iff,MM];show decide (l*ld f a=r*ld f b)=true/\_↔_;rw[kZ];exact⟨λh=>⟨⟨h.1,h.2.1⟩,h.2.2⟩,λh=>⟨h.1.1,h.1.2,h.2⟩⟩
theorem still_of{m:M}(b:Fv m){f:Str->Int}{c:Rat}(h:∀n∈m.names,(f n:Rat)=c*shr m n):dz f m ""=[]:=by
 obtain⟨k1,_⟩:=o9 b.hl.bar;refine(zU (c:=c) m "" "" 1 b.hl.wf.arms λp d=>?_).2;have a:p.2.1∈m.names:=by
  rw[<-rM m "" 1];exact c9 d
 rw[h _ a,k1 p d]
theorem HA{ms:List M}(i:ms.length<=6)(j:∀m∈ms,Fv m)(p:dw (ms.map ai)=none){rs:List (Str×Int)}(e:rs.Perm (i9 (ms.map ai))){w:Str->Rat}(f:Cs (ms.map ai) w){x:Str}(hx:x∈rs.map (·.1)):∃c:Rat,∀y,fE (ms.map ai) x y->(val rs y:Rat)=c*w y:=by
 have hok:=ir i j;obtain⟨T,l,b⟩:=(rS hok e x).mp hx;obtain⟨P,g,d⟩:=gy.mp (mP hok l b);obtain⟨k,h,_,rfl⟩:=fZ hok g;obtain⟨q,p2,c,r,n⟩:=Hz hok e g;have s:=fP (f.pos k);refine⟨c/w k,λy hy=>?_⟩;have a:y∈au (aO (ms.map ai) k):=(iC hok h).mpr (((iC hok h).mp d).trans hy);have o:eB (ms.map ai) (aO (ms.map ai) k) y*w k=w y:=tM hok.tok f (rC _ (iw a));rw[n y a,<-o];grind
theorem HN{Ts:List Tb}{w:Str->Rat}(k:Cs Ts w){m:M}(b:Fv m)(l:ai m∈Ts){c:Rat}{f:Str->Int}(h:∀n∈m.names,(f n:Rat)=c*w n):dz f m ""=[]:=by
 obtain⟨tk,d,j⟩:=g8 b.hl;obtain⟨g,a⟩:∃n,n∈aA (ai m):=by
  cases e:aA (ai m) with
  |nil=>exact absurd (pK.mp e) tk.ne
  |cons n r=>exact⟨n,θ⟩
 have s0:=fP (b.sh ((d g).mp a)).1;refine still_of b (c:=c*w g/shr m g) λn i=>?_;have e:=k.eq _ l _ a _ ((d n).mpr i);rw[j _ ((d n).mpr i),j _ a] at e;rw[h n i];grind
theorem OS{Ts:List Tb}{T:Tb}(c:T∈Ts){a b:Str}(d:a∈aA T)(e:b∈aA T):fE Ts a b:=.step (.refl _) ⟨T,c,d,e⟩
theorem SY{ms:List M}(f:ms.length<=6)(b:∀m∈ms,Fv m)(g:dw (ms.map ai)=none){rs:List (Str×Int)}(h:rs.Perm (i9 (ms.map ai))){m:M}(i:m∈ms):dz (val rs) m ""=[]:=by
 have hok:=ir f b;obtain⟨w,j⟩:=uG hok g;have k:=b m i;obtain⟨tk,l,q⟩:=g8 k.hl;have d:ai m∈ms.map ai:=c9 i;obtain⟨o,a⟩:∃n,n∈aA (ai m):=by
  cases e:aA (ai m) with
  |nil=>exact absurd (pK.mp e) tk.ne
  |cons n r=>exact⟨n,θ⟩
 obtain⟨c,hc⟩:=HA f b g h j ((rS hok h o).mpr ⟨_,d,a⟩);exact HN j k d λn p=>hc n (OS d a ((l n).mpr p))
theorem Cs.er{Ts:List Tb}{w:Str->Rat}(h:Cs Ts w)(i:Nat):Cs (Ts.eraseIdx i) w:=⟨h.pos,λT a=>h.eq T ((pW ..).subset a)⟩
theorem qB:∀{ms:List M} (i:Nat),(ms.eraseIdx i).map ai=(ms.map ai).eraseIdx i
 |[],_=>rfl
 |_::_,0=>rfl
 |m::ms,i+1=>by
  show ai m::(ms.eraseIdx i).map ai=ai m::(ms.map ai).eraseIdx i;rw[qB i]
theorem Fz{ms:List M}(a:ms.length<=6)(b:∀m∈ms,Fv m)(c:dw (ms.map ai)=none)(i:Nat):dw ((ms.eraseIdx i).map ai)=none:=by
 have hok:=ir a b;obtain⟨w,d⟩:=uG hok c;rw[qB];exact Q2 (hok.erase i) (d.er i)
theorem zR{ms:List M}(l:ms.length<=6)(g:∀m∈ms,Fv m){i:Nat}{m:M}(hi:ms[i]?=some m):iE (ms.map ai) i=true↔∀a∈m.names,∀b∈m.names,fE ((ms.eraseIdx i).map ai) a b:=by
 have hok:=ir l g;have j:=g m (bP hi);obtain⟨tk,d,q⟩:=g8 j.hl;have c:=(lQ tk.ne).1;have e:(ms.map ai)[i]?=some (ai m):=by rw[bO,hi];rfl
 have k:fJ (ai m)∈N4:=j.sub _ ((d _).mp c);unfold iE;rw[e,qB];dsimp only;rw[pS];constructor
 .intro h a o b p
  have r:∀n∈m.names,fE ((ms.map ai).eraseIdx i) (fJ (ai m)) n:=λn f=>(iC (hok.erase i) k).mp (fS (h n ((d n).mpr f)));exact(r a o).symm.trans (r b p)
 .intro h n f
  exact cW ((iC (hok.erase i) k).mpr (h _ ((d _).mp c) n ((d n).mp f)))
theorem T9{ms:List M}(v:ms.length<=6)(l:∀m∈ms,Fv m){i:Nat}{m:M}(hi:ms[i]?=some m){es:List (List Str)}(o:sN ((ms.eraseIdx i).map ai) es):((∃e∈es,∀n∈m.names,n∈e)\/∃a∈m.names,∀n∈m.names,n=a)↔iE (ms.map ai) i=true:=by
 have hok:=ir v l;have b:=hok.erase i;rw[zR v l hi];rw[qB] at o ⊢;constructor
 .rintro (⟨e,p,h⟩|⟨a,D,h⟩) x hx y hy
  .obtain⟨P,g,q⟩:=o.Dl e p
   obtain⟨k,j,_,rfl⟩:=fZ b g;have r:∀n∈m.names,fE ((ms.map ai).eraseIdx i) k n:=λn f=>(iC b j).mp ((q n).mp (h n f));exact(r x hx).symm.trans (r y hy)
  .rw[h x hx,h y hy]
   exact .refl _
 .intro h
  have w:=l m (bP hi);obtain⟨tk,A,E⟩:=g8 w.hl;have d:=(A _).mp (lQ tk.ne).1;by_cases c:∀n∈m.names,n=fJ (ai m)
  .exact .inr ⟨_,d,c⟩
  .have:∃n∈m.names,n≠fJ (ai m):=Classical.byContradiction λk=>c λn f=>Classical.byContradiction λz=>k ⟨n,f,z⟩
   obtain⟨n,f,s⟩:=this;have r:=(h _ d n f).symm;have:∃T∈(ms.map ai).eraseIdx i,fJ (ai m)∈aA T:=by
    cases r with
    |refl=>exact absurd rfl s
    |step _ a=>
     obtain⟨T,h1,_,B⟩:=a;exact⟨T,h1,B⟩
   obtain⟨T,C,q⟩:=this;obtain⟨P,g,t⟩:=gy.mp (mP b C q);obtain⟨k,j,_,rfl⟩:=fZ b g;obtain⟨e,p,u⟩:=o.all _ g;exact .inl ⟨e,p,λx hx=>(u x).mpr ((iC b j).mpr (((iC b j).mp t).trans (h _ d x hx)))⟩
theorem S0{ms:List M}(d:ms.length<=6)(a:∀m∈ms,Fv m)(j:dw (ms.map ai)=none){i:Nat}{m:M}(hi:ms[i]?=some m)(o:iE (ms.map ai) i=true){rs:List (Str×Int)}(p:rs.Perm (i9 ((ms.eraseIdx i).map ai)))(f:∀n∈m.names,n∈rs.map (·.1)):dz (val rs) m ""=[]:=by
 have hok:=ir d a;obtain⟨w,k⟩:=uG hok j;have e:=bP hi;have l:=a m e;obtain⟨tk,q,s⟩:=g8 l.hl;have b:=(q _).mp (lQ tk.ne).1;have r:ai m∈ms.map ai:=c9 e;have g:(ms.eraseIdx i).length<=6:=cV (pW ..).length_le d;have h:∀m∈ms.eraseIdx i,Fv m:=λm e=>a m ((pW ..).subset e);obtain⟨c,hc⟩:=HA g h (Fz d a j i) p (by rw[qB];exact k.er i) (f _ b);exact HN k l r λn f=>hc n ((zR d a hi).mp o _ b n f)
theorem HP{ms:List M}(c:ms.length<=6)(d:∀m∈ms,Fv m)(g:dw (ms.map ai)=none){rs:List (Str×Int)}(e:rs.Perm (i9 (ms.map ai)))(f:(rs.map (·.1)).Pairwise strLt):lg rs:=by
 have hok:=ir c d;have nd:(rs.map (·.1)).Nodup:=f.imp λh=>rQ h;have n4:∀x∈rs.map (·.1),x∈N4:=λx hx=>by
  obtain⟨T,i,b⟩:=(rS hok e x).mp hx;exact hok.sub T i x b
 refine⟨λr a=>lR _ (n4 _ (c9 a)),λr a=>?_,f,?_⟩
 .have:=T7 c d g e (c9 a)
  rw[Ad nd a] at this;exact this
 .have:=iA _ _ nd n4
  simp[N4] at this;omega
theorem tP{α:Type}{k:Option Nat}{fr:bK}{tt:ee}{te:aM}{d:Ar->Prop}{R:List D->Ar->Prop}(g:α->D)(p:α->Bool)(f:α->D):∀(xs:List α) (ys:List D) (A:Ar),(∀a,Gr A a->d a)->(∀x∈xs,∀a,Gr A a->∃vs,lV k (g x)=some vs/\(∀Q:Bool->Ar->Prop,(∀b,Gr a b->Q (p x) b)->tt (vs.map some++fr) a Q)/\(p x=true->∀b,Gr a b->∀Q:DK,(∀e,Gr b e->Q (f x) e)->te (vs.map some++fr) b Q))->ys.length+xs.length<=sizeLine->(∀a,Gr A a->R (ys++(xs.filter p).map f) a)->jo d k fr tt te R (xs.map g) ys A
 |[],ys,A,hc,_,_,h=>⟨hc A Gr.refl,by simpa using h A Gr.refl⟩
 |x::xs,ys,A,hc,hx,hl,h=>by
  obtain⟨vs,l,m,n⟩:=hx x (br ..) A Gr.refl;refine⟨hc A Gr.refl,?_⟩;rw[l];simp at hl;refine m _ λb c=>?_;cases i:p x with
  |true=>
   rw[wC i] at h;exact n i b c _ λe j=>⟨ω,tP g p f xs (ys++[f x]) e (λa z=>hc a ((c.trans j).trans z)) (λy hy a z=>hx y (bq _ hy) a ((c.trans j).trans z)) (by simp;omega) λa z=>by simpa using h a ((c.trans j).trans z)⟩
  |false=>
   rw[wB (by simp[i])] at h;exact tP g p f xs ys b (λa z=>hc a (c.trans z)) (λy hy a z=>hx y (bq _ hy) a (c.trans z)) ω λa z=>h a (c.trans z)
theorem CU{A:Ar}{p q:Nat}{xs:List D}{R:DK}(h:A[p]?=some (.lst xs))(h':A[q]?=some (.lst xs))(d:fk xs=true)(hl:canLayAll0 (bS xs)=true)(hd:depthAll (bS xs)<=60)(k:R (.bl true) A):fN false (.ref p) (.ref q) A R:=by
 unfold fN;have a:cH A (.ref p)=.list (bS xs):=by unfold cH;simp only[h]
 have b:cH A (.ref q)=.list (bS xs):=by unfold cH;simp only[h']
 have c:canLay0 (.list (bS xs))=true:=by simpa[canLay0] using hl
 refine⟨?_,?_,?_,?_,?_,?_⟩
 .unfold iB;simp only[h];exact d
 .unfold iB;simp only[h'];exact d
 .rw[a];exact c
 .rw[b];exact c
 .rw[a,b];simp only[PyData.depth];omega
 .rw[a,b,PySem.SeqAt.eqv_refl _ c]
  exact k
theorem Q3{k i:Nat}{v:D}{rest:List D}(h:v::rest=(eN 0 k).drop i):v=.int ((i:Nat):Int)/\rest=(eN 0 k).drop (i+1)/\i<k:=by
 have l:(eN 0 k).length=k:=by simp[eN]
 have hi:i<k:=by
  have:=cB List.length h;rw[length_drop,l] at this;simp at this;omega
 rw[mq ω,List.cons.injEq] at h;refine⟨?_,h.2,hi⟩;rw[h.1];simp[eN]
theorem Nd{xs:List D}{i:Int}{v:D}{A:Ar}{R:DK}(h:cM xs i=some v)(k:R v A):lK (.tup xs) (.int i) A R:=by
 show(match cM xs i with|some v=>R v A|none=>False);rw[h];exact k
theorem Jx{ms:List M}{i:Nat}(hi:i<ms.length):cutD (ms.map enc) none (some ((i:Nat):Int))++cutD (ms.map enc) (some (((i:Nat):Int)+1)) none=(ms.eraseIdx i).map enc:=by
 rw[show(((i:Nat):Int)+1)=((i+1:Nat):Int) from rfl,B3 (by rw[aS];omega),B0 (by rw[aS];omega),List.eraseIdx_eq_take_drop_succ,eV,List.map_take,List.map_drop]
theorem CM:∀{ms:List M},(∀m∈ms,Fv m)->fk (ms.map enc)=true/\canLayAll0 (bS (ms.map enc))=true
 |[],_=>⟨rfl,rfl⟩
 |m::ms,h=>by
  obtain⟨a,b⟩:=CM λx hx=>h x (bq _ hx);refine⟨by show(f7 (enc m)&&fk (ms.map enc))=true;rw[zA,a];rfl,?_⟩;simp[bS,canLayAll0,yU m (h m (br ..)).hl.wf.nm,b]
theorem CV{ms:List M}(h:∀m∈ms,Fv m){A:Ar}{R:DK}(k:R (.bl (decide (ms=[]))) A):fN false (.tup (ms.map enc)) (.tup []) A R:=by
 obtain⟨h1,h2⟩:=CM h;unfold fN;have a:cH A (.tup (ms.map enc))=.tuple (bS (ms.map enc)):=rfl;have b:cH A (.tup [])=.tuple []:=rfl;rw[a,b];refine⟨h1,rfl,by simpa[canLay0] using h2,by simp[canLay0,canLayAll0],by simp[PyData.depth,depthAll],?_⟩;have e:PyData.eqv (.tuple (bS (ms.map enc))) (.tuple [])=decide (ms=[]):=by cases ms<;>simp[bS,PyData.eqv,eqvAll]
 rw[e];exact k
theorem DE{A:Ar}{r i:Nat}{l:List Nat}{R:DK}(h:A[r]?=some (.lst (l.map λi=>D.int ((i:Nat):Int))))(k:R (.bl (decide (i∈l))) A):inR false (.int ((i:Nat):Int)) r A R:=by
 unfold inR;simp only[h];refine⟨rfl,?_,?_⟩
 .rw[pS]
  intro x hx;obtain⟨i,_,rfl⟩:=aN.mp hx;rfl
 .have:jK (.int ((i:Nat):Int)) (l.map λi=>D.int ((i:Nat):Int))=decide (i∈l):=by
   unfold jK;rw[any_map,jY,nE,kZ];constructor
   .rintro ⟨y,hy,e⟩
    have e:(y:Int)=(i:Int):=fS (show decide ((y:Int)=(i:Int))=true from e);rw[<-Int.ofNat.inj e];exact hy
   .intro a
    exact⟨i,a,cW rfl⟩
  rw[this];exact k
theorem OB{n:Str}{e:List Str}{A:Ar}{R:DK}(k:R (.bl (!decide (n∈e))) A):inD true (.str n) (.tup (e.map D.str)) A R:=by
 refine⟨rfl,?_,?_⟩
 .rw[pS]
  intro x hx;obtain⟨i,_,rfl⟩:=aN.mp hx;rfl
 .have:jK (.str n) (e.map D.str)=decide (n∈e):=by
   unfold jK;rw[any_map,jY,nE,kZ];constructor
   .rintro ⟨y,hy,e⟩
    rw[<-fS (show decide (y=n)=true from e)];exact hy
   .intro a
    exact⟨n,a,cW rfl⟩
  rw[ao rfl,this];exact k
theorem NJ{rs:List (Str×Int)}{n:Str}:(bw (fh rs) (Sum.inr n)).isSome=decide (n∈rs.map (·.1)):=qM (by
 unfold fh;rw[bY,bY];rfl)
theorem Du:∀es:List (List Str),(∀e∈es,∀n∈e,Nm n)->fk (es.map λe=>D.tup (e.map D.str))=true/\canLayAll0 (bS (es.map λe=>D.tup (e.map D.str)))=true
 |[],_=>⟨rfl,rfl⟩
 |e::es,h=>by
  obtain⟨a,b⟩:=Du es λx hx=>h x (bq _ hx);refine⟨by show(fk (e.map D.str)&&fk _)=true;rw[m5,a];rfl,?_⟩;have l1:=mU e (h e (br ..));simp only[ck,bS,toQ,canLayAll0,lT,canLay0,l1,b,Bool.and_self]
theorem I0{ms:List M}(d:ms.length<=6)(f:∀m∈ms,Fv m){es:List (List Str)}(c:sN (ms.map ai) es):es.length<=4/\∀e∈es,∀n∈e,n∈N4:=by
 have hok:=ir d f;have sub:∀e∈es,∀n∈e,n∈N4:=λe b n g=>by
  obtain⟨P,i,j⟩:=c.Dl e b;obtain⟨k,l,_,rfl⟩:=fZ hok i;exact(gY hok l).1.sub n ((j n).mp g)
 refine⟨?_,sub⟩;have hd:(es.map λe=>e.headD default).Nodup:=(lX.mpr c.ord).imp λh=>rQ h;have:=iA _ N4 hd λx hx=>by
  obtain⟨e,b,rfl⟩:=aN.mp hx;obtain⟨_,ne⟩:=c.SK e b;cases e with
  |nil=>exact absurd rfl ne
  |cons a r=>exact sub _ b a (br ..)
 simpa[N4] using this
theorem QS{a b:Str}(h:fE [] a b):a=b:=by
 cases h with
 |refl=>rfl
 |step _ e=>
  obtain⟨T,c,_⟩:=e;cases c
theorem SJ{ms:List M}(j:ms.length<=6)(g:∀m∈ms,Fv m){m:M}(e:ms=[m]){ys:List Str}(f:ys.Nodup)(d:∀x,x∈ys↔x∈m.names):vJ (ms.map ai)=if ys.length=1 then [.int 0] else []:=by
 have t:=zR j g (i:=0) (m:=m) (by rw[e];rfl);have k:ms.eraseIdx 0=[]:=by rw[e];rfl
 rw[k] at t;have key:iE (ms.map ai) 0=true↔ys.length=1:=by
  rw[t];constructor
  .intro h
   match ys,f,d with
   |[],_,d=>
    have l:=g m (by rw[e];simp);obtain⟨tk,n,_⟩:=g8 l.hl;have:=(d _).mpr ((n _).mp (lQ tk.ne).1);cases this
   |[_],_,_=>rfl
   |a::b::r,f,d=>
    have:=QS (h a ((d a).mp θ) b ((d b).mp θ));rw[this] at f;simp at f
  .intro h a o b p
   match ys,h,d with
   |[y],_,d=>
    have q:=(d a).mpr o;have s:=(d b).mpr p;rw[bH.mp q,bH.mp s];exact .refl _
 have u:(ms.map ai).length=1:=by rw[e];rfl
 unfold vJ m6;rw[u];show((([0]:List Nat).filter (iE (ms.map ai))).map λi=>D.int ((i:Nat):Int))=_;by_cases c:ys.length=1
 .rw[ao c,wC (key.mpr c)]
  rfl
 .rw[ak c,wB (λz=>c (key.mp z))]
  rfl
noncomputable def D_(RE:DX):cC:=f9 (gI 7 (bL mF (ya (bf 4) oN (oS (bf 6))) (ya (bf 4) (oS (bL mF (bf 6) (dC (.int 1)))) oN)))
 (f9 (gI 8 (gE 1 xw RE (bG (bL lK (bf 4) (bf 6)) cg)))
 (f9 (o6 (dh (bL jI (bf 7) (yb cg))) (o8 (bL jI (bf 5) (B4 (dh (bL jI (kr uz (bG (bf 8) cg)) (dC (.int 1)))) (iT (bG (dC (.int 0)) cg)) (iT cg)))) o7)
 (f9 (gI 9 (bL mF (gE 1 w9 RE (bG (bf 7) cg)) (fX none [] (ow (bf 8)) jw (kr vQ (bG (iT (bG (bf 0) cg)) cg)))))
 (f9 (gI 10 (fX none [8] (ow (bf 9)) (dh (bL jI (fX none [0] (ow (bf 1)) (dh (bL (inD true) (bf 0) (bf 1))) (bf 0)) (iT cg))) (bf 0)))
 (f9 (o6 (dh (bL oQ (bL (inD false) (bf 6) (bf 5)) (bL oQ (bf 10) (iT cg)))) (o8 (dC (.bl false))) o7)
 (f9 (gI 11 (kr yf (bG (gE 2 nP RE (bG (dC (.int 1)) (bG (bf 7) cg))) cg)))
  (o6 (xZ (dh (bL (inD false) (bf 6) (bf 5))) (xZ (dh (bL jI (fX none [11] (ow (bf 8)) (dh (bL (inD true) (bf 0) (bf 1))) (bf 0)) (iT cg))) (B7 (dh (gE 2 xC RE (bG (bL lK (bf 4) (bf 6)) (bG (bf 11) cg)))))))
   (o8 (dC (.bl false))) o7)))))))
abbrev zS(ns:List Int)(t:Nat)(d2 d3:D)(ms:List M)(q5:Nat)(x6 x7 x8 x9 jW jX:Option D):bK:=[some (.fl ns),some (.ref t),some d2,some d3,some (.tup (ms.map enc)),some (.ref q5),x6,x7,x8,x9,jW,jX]
section
variable{RE:DX}{K:k8}{ms:List M}{A:Ar}{ns:List Int}{t q5 i:Nat}{d2 d3:D}{x6 x7 x8 x9 jW jX:Option D}
theorem I8(S:ms.length<=6)(r:∀m∈ms,Fv m)(hr:dw (ms.map ai)=none)(hi:i<ms.length)(h5:A[q5]?=some (.lst (vJ (ms.map ai))))(hR:∀A',K.rt (.bl true) A')(k:∀x7 x8 x9 jW jX A',Gr A A'->K.nx (zS ns t d2 d3 ms q5 (some (.int ((i:Nat):Int))) x7 x8 x9 jW jX) A'):
  D_ RE K (zS ns t d2 d3 ms q5 (some (.int ((i:Nat):Int))) x7 x8 x9 jW jX) A:=by
 have hz:(1000:Nat)<=sizeLine:=δ
 obtain⟨m,em⟩:∃m,ms[i]?=some m:=⟨ms[i],aW hi⟩;have hm:=bP em;have T:=r m hm;have w:cM (ms.map enc) ((i:Nat):Int)=some (enc m):=nS (by rw[bO,em];rfl);have eo:=Jx hi;have le:=List.length_eraseIdx_of_lt hi;have hl:(ms.map enc).length=ms.length:=aS ..;have OI:¬(HT.aX (ms.map enc).length 0 none=0/\HT.aX (ms.map enc).length (ms.map enc).length (some ((i:Nat):Int))=(ms.map enc).length):=λ⟨_,z⟩=>by
  rw[HT.FG] at z;omega
 have OJ:¬(HT.aX (ms.map enc).length 0 (some (((i:Nat):Int)+1))=0/\HT.aX (ms.map enc).length (ms.map enc).length none=(ms.map enc).length):=λ⟨z,_⟩=>by
  rw[show((i:Nat):Int)+1=((i+1:Nat):Int) by omega,HT.FG] at z;omega
 refine⟨OI,OJ,?_,?_⟩
 .show(cutD (ms.map enc) none (some ((i:Nat):Int))).length+(cutD (ms.map enc) (some (((i:Nat):Int)+1)) none).length<=sizeLine
  rw[<-dc,eo,aS];omega
 rw[eo];refine Nd w ?_;refine⟨rfl,m,rfl,T.hl.deep,λB q8 ys s l1 U u f=>?_⟩;have E:ys.Nodup:=u.imp λh=>rQ h;have V:∀n∈ys,n∈N4:=λn b=>T.sub n ((f n).mp b);have yl:ys.length<=4:=by have:=iA ys N4 E V;simpa[N4] using this
 have F:(ms.eraseIdx i).length<=6:=ω
 have v:∀m∈ms.eraseIdx i,Fv m:=λm hm=>r m ((pW ..).subset hm);have G:=Fz S r hr i;refine⟨bV _,CV v ?_⟩;refine cD (λc=>?_) (λc=>?_)
 .-- it is alone
  have W:ms=[m]:=by
   have:ms.length=1:=by
    have l0:(ms.eraseIdx i).length=0:=by rw[c];rfl
    omega
   match ms,this with
   |[x],_=>
    have:i=0:=by simp at hi;omega
    subst this;cases em;rfl
  have hi0:i=0:=by rw[W] at hi;simp at hi;exact hi
  have l:=s.get h5;rw[SJ S r W E f] at l;refine qP U ?_;refine cD (λp=>?_) (λp=>?_)
  .have p:ys.length=1:=by rw[aS] at p;omega
   rw[ao p] at l;refine⟨show 1<=sizeLine by decide,?_⟩;exact CU (getElem?_push l) aH rfl rfl (by simp[bS,toQ,depthAll,PyData.depth]) (hR _)
  .have p:¬ys.length=1:=by rw[aS] at p;omega
   rw[ak p] at l;refine⟨bV _,?_⟩;exact CU (getElem?_push l) aH rfl rfl (by simp[bS,depthAll]) (hR _)
 have o1:1<=(ms.eraseIdx i).length:=rX.mpr c;have oH:=DI o1 F v;refine⟨rfl,_,N4,rfl,⟨_,oH⟩,lR,λms' Mp=>?_,λb=>absurd ⟨_,oH⟩ b⟩;have e:=yJ Mp;subst e;refine⟨ir F v,λA2 q2 es hB g2 h2 l2=>?_⟩;have el:es.length<=4/\∀e∈es,∀n∈e,n∈N4:=I0 F v hB;have H:=g2.get U;refine dY H ?_;refine tQ (λd=>.tup [d]) _ _ _ (λA' g=>g.get H) (λd hd X g3=>?_) (by simp;omega) (λX g3=>?_)
 .obtain⟨n,b,rfl⟩:=aN.mp hd
  exact⟨[.str n],rfl,λQ j=>⟨show 1<=sizeLine by decide,vS aH (j _ Gr.push)⟩⟩
 have eg:es.map (λe=>D.tup (e.map D.str))++([]++(ys.map D.str).map (λd=>D.tup [d]))=(es++ys.map λn=>[n]).map λe=>D.tup (e.map D.str):=by
  rw[fL,eV,bY,bY];rfl
 refine iQ (getElem?_push (g3.get h2)) aH (by simp;omega) ?_;rw[eg];generalize o:(es++ys.map λn=>[n])=gs;have gl:gs.length<=8:=by rw[<-o];simp;omega
 have g4:∀e∈gs,∀n∈e,Nm n:=λe he n b=>by
  rw[<-o] at he;rcases b_.mp he with he|he
  .exact lR n (el.2 e he n b)
  .obtain⟨y,hy,rfl⟩:=aN.mp he
   rw[bH.mp b];exact lR y (V y hy)
 generalize I:(X++[C.lst ([]++(ys.map D.str).map (λd=>D.tup [d]))]++[C.lst (gs.map λe=>D.tup (e.map D.str))]:Ar)=Y;have LZ:Gr X Y:=by rw[<-I];exact Gr.push.trans Gr.push
 have h9:Y[(X++[C.lst ([]++(ys.map D.str).map (λd=>D.tup [d]))]:Ar).length]?=some (.lst (gs.map λe=>D.tup (e.map D.str))):=by rw[<-I];exact aH
 have q:Gr B Y:=(g2.trans g3).trans LZ;refine dY h9 ?_;refine tP (λe:List Str=>D.tup (e.map D.str)) (λe=>decide (∀n∈ys,n∈e)) (λe=>D.tup (e.map D.str)) gs [] Y (λA' g=>g.get h9) (λe he A5 Z=>?_) (by simp;omega) (λA5 Z=>?_)
 .refine⟨[.tup (e.map D.str)],rfl,λQ j=>?_,λ_ A6 g6 Q j=>j _ Gr.refl⟩
  have J:=(q.trans Z).get U;refine dY J ?_;refine tO J (λd=>match d with|.str n=> !decide (n∈e)|_=>false) (λd=>d) _ _ (λd hd=>?_) (by simp;omega) ?_
  .obtain⟨n,b,rfl⟩:=aN.mp hd
   exact⟨[.str n],rfl,λQ j=>OB (R:=λx B=>match x with|.bl k=>Q k B|_=>False) j,λQ j=>j⟩
  have ef:([]:List D)++((ys.map D.str).filter (λd=>match d with|.str n=> !decide (n∈e)|_=>false)).map (λd=>d)=(ys.filter λn=> !decide (n∈e)).map D.str:=by
   rw[fL,List.map_id',List.filter_map];rfl
  rw[ef];refine⟨bV _,yv aH (m5 _) (by rw[lT];exact mU _ λn b=>lR n (V n (iH.mp b).1)) ?_⟩;have ed:decide ((ys.filter λn=> !decide (n∈e)).map D.str=[])=decide (∀n∈ys,n∈e):=by
   rw[jY,decide_eq_true_iff,decide_eq_true_iff,pK,Al];constructor
   .intro h n b
    have:=h n b;simpa using this
   .intro h n b
    simpa using h n b
  rw[ed];exact j _ (Gr.push.trans Gr.push)
 rw[show([]:List D)++(gs.filter λe=>decide (∀n∈ys,n∈e)).map (λe=>D.tup (e.map D.str))=(gs.filter λe=>decide (∀n∈ys,n∈e)).map (λe=>D.tup (e.map D.str)) from fL _];have Mj:=(((s.trans q).trans Z)).get h5;refine DE (getElem?_push Mj) ?_;obtain⟨lp,ll⟩:=Du (gs.filter λe=>decide (∀n∈ys,n∈e)) λe he=>g4 e (iH.mp he).1;refine⟨bV _,Oz aH lp ll ?_⟩;have et:decide (i∈m6 (ms.map ai))= !decide ((gs.filter λe=>decide (∀n∈ys,n∈e)).map (λe=>D.tup (e.map D.str))=[]):=by
  have t:=T9 S r em hB;have W:i∈m6 (ms.map ai)↔iE (ms.map ai) i=true:=by
   unfold m6;rw[iH,mem_range,aS];exact⟨λh=>h.2,λh=>⟨hi,h⟩⟩
  rw[jY,decide_eq_true_iff,W,<-t,r_,Au,pK];constructor
  .intro h z
   have no:=Al.mp z;rcases h with⟨e,he,h⟩|⟨a,ha,h⟩
   .exact no e (by rw[<-o];exact kP _ he) (cW λn b=>h n ((f n).mp b))
   .exact no [a] (by rw[<-o];exact gx _ (aN.mpr ⟨a,(f a).mpr ha,rfl⟩)) (cW λn b=>bH.mpr (h n ((f n).mp b)))
  .intro z
   obtain⟨e,he⟩:=List.exists_mem_of_ne_nil _ z;obtain⟨he,u⟩:=iH.mp he;have u:=fS u;rw[<-o] at he;rcases b_.mp he with he|he
   .exact .inl ⟨e,he,λn b=>u n ((f n).mpr b)⟩
   .obtain⟨y,hy,rfl⟩:=aN.mp he
    exact .inr ⟨y,(f y).mp hy,λn b=>bH.mp (u n ((f n).mpr b))⟩
 refine cN (λz=>absurd et z) (λ_=>?_);generalize Mk:(A5++[C.lst ((gs.filter λe=>decide (∀n∈ys,n∈e)).map (λe=>D.tup (e.map D.str)))]++[C.lst []]:Ar)=A6;have L0:Gr A5 A6:=by rw[<-Mk];exact Gr.push.trans Gr.push
 have LY:Gr B A6:=(q.trans Z).trans L0;refine⟨rfl,1,ms.eraseIdx i,rfl,o1,F,v,.inr ⟨rfl,λ_ A7 rs g7 L hup=>?_,λz=>absurd G z⟩⟩;have M:=HP F v G L hup;refine yo M ?_;have N:Gr B (A7++[C.dct (fh rs)]):=LY.trans (g7.trans Gr.push);have Mi:=(s.trans N).get h5;refine DE Mi ?_;have O:=N.get U;refine cD (λcs=>?_) (λ_=>k _ _ _ _ _ _ (s.trans N));have hs:iE (ms.map ai) i=true:=by
  unfold m6 at cs;exact(iH.mp cs).2
 refine dY O ?_;refine tO O (λd=>match d with|.str n=> !decide (n∈rs.map (·.1))|_=>false) (λd=>d) _ _ (λd hd=>?_) (by simp;omega) ?_
 .obtain⟨n,b,rfl⟩:=aN.mp hd
  refine⟨[.str n],rfl,λQ j=>oz (neg:=true) aH rfl ?_,λQ j=>j⟩;rw[ao rfl,NJ];exact j
 have ef:([]:List D)++((ys.map D.str).filter (λd=>match d with|.str n=> !decide (n∈rs.map (·.1))|_=>false)).map (λd=>d)=(ys.filter λn=> !decide (n∈rs.map (·.1))).map D.str:=by
  rw[fL,List.map_id',List.filter_map];rfl
 rw[ef];refine⟨bV _,yv aH (m5 _) (by rw[lT];exact mU _ λn b=>lR n (V n (iH.mp b).1)) ?_⟩;refine cD (λcz=>?_) (λ_=>k _ _ _ _ _ _ ((s.trans N).trans (Gr.push.trans Gr.push)));have P:∀n∈m.names,n∈rs.map (·.1):=λn b=>by
  have:=Al.mp (pK.mp cz) n ((f n).mpr b);simpa using this
 conv=>whnf
 trace_state;rw[w];refine⟨rfl,m,_,rs,rfl,getElem?_push (getElem?_push aH),T.hl.wf,⟨M,P⟩,T.hl.deep,λA9 g9=>?_⟩;rw[(zT (val rs) m "" "").mpr (S0 S r hr em hs L P)];exact k _ _ _ _ _ _ (((s.trans N).trans (Gr.push.trans Gr.push)).trans g9)
end
noncomputable def Ea(RE:DX):cC:=f9 (gI 5 (gE 2 nP RE (bG (dC (.int 0)) (bG (bf 4) cg))))
 (f9 (zM (yL (bG (kr uz (bG (bf 4) cg)) cg)) (gN 6) (D_ RE))
  (o8 (gE 2 xB RE (bG (bL lK (bf 4) (dC (.int 0))) (bG (gE 2 nP RE (bG (dC (.int 1)) (bG (bf 4) cg))) cg)))))
noncomputable def Od(RE:DX):cC:=f9 (gI 1 (iT cg))
 (f9 (gI 2 (gE 3 qb RE (bG (bf 0) (bG (bf 1) (bG (iT (bG (iT (bG (dC (.str "a")) (bG (dC (.str "b")) cg))) (bG (iT (bG (dC (.str "a")) (bG (dC (.str "b")) (bG (dC (.str "c")) cg)))) (bG (iT (bG (dC (.str "a")) (bG (dC (.str "b")) (bG (dC (.str "c")) (bG (dC (.str "d")) cg))))) cg)))) cg)))))
 (f9 (gI 3 (fX none [0,1,2] (yL (bG (bL mF (dC (.int 1)) (gE 3 qa RE (bG (bf 0) (bG (bf 1) (bG (dC (.int 4)) cg))))) cg)) jw (gE 4 (xq 3) zh (bG (bf 1) (bG (bf 2) (bG (bf 3) (bG (dC (.int 2)) cg)))))))
 (f9 (gI 4 (kr vQ (bG (fX none [] (ow (bf 3)) (dh (bL qI (gE 1 sZ zh (bG (bf 0) cg)) (dC .aE))) (bf 0)) cg)))
 (f9 (o6 (B8 (dh (bL jI (bf 4) (yb cg))) (dh (bL qI (gE 2 nP RE (bG (dC (.int 1)) (bG (bf 4) cg))) (dC .aE)))) (o8 (dC (.bl true))) o7)
  (Ea RE)))))
section
variable{RE:DX}{R:DK}{nx:bK->Ar->Prop}{ms:List M}{A:Ar}{ns:List Int}{t:Nat}{d2 d3:D}
theorem Kv(h1:1<=ms.length)(b:ms.length<=6)(a:∀m∈ms,Fv m)(c:dw (ms.map ai)=none)(q:∀A',R (.bl true) A'):Ea RE {nx:=nx,rt:=R} [some (.fl ns),some (.ref t),some d2,some d3,some (.tup (ms.map enc)),none,none,none,none,none,none,none] A:=by
 have hz:(1000:Nat)<=sizeLine:=δ
 refine⟨rfl,0,ms,rfl,h1,b,a,.inl ⟨rfl,c,λs q5 E u l1=>?_⟩⟩;have p:((ms.map enc).length:Int)=(ms.length:Int):=by rw[aS]
 refine⟨by rw[aS];omega,by rw[aS];omega,?_⟩;have er:eN 0 ((ms.map enc).length:Int).toNat=eN 0 ms.length:=by rw[aS,kW]
 rw[er];refine gk (λrest τ A'=>∃(i:Nat) (x6 x7 x8 x9 jW jX:Option D),i<=ms.length/\rest=(eN 0 ms.length).drop i/\τ=zS ns t d2 d3 ms q5 x6 x7 x8 x9 jW jX/\Gr s A') ?_ ?_ ?_ _ _ _ ⟨0,none,none,none,none,none,none,bV _,rfl,rfl,Gr.refl⟩
 .intro _ _ _ _
  trivial
 .rintro v rest τ w ⟨i,x6,x7,x8,x9,jW,jX,hi,e,rfl,d⟩ F x
  obtain⟨rfl,rfl,f⟩:=Q3 e;exact I8 b a c f (d.get u) q λx7 x8 x9 jW jX y r=>x _ _ ⟨i+1,_,_,_,_,_,_,ω,rfl,rfl,d.trans r⟩
 .rintro τ w ⟨i,x6,x7,x8,x9,jW,jX,hi,e,rfl,d⟩
  obtain⟨m,em⟩:∃m,ms[0]?=some m:=⟨ms[0],aW ω⟩;have g:=bP em;have h:=a m g;have k:cM (ms.map enc) 0=some (enc m):=nS (j:=0) (by rw[bO,em];rfl);conv=>whnf
  rw[k];refine⟨rfl,1,ms,rfl,h1,b,a,.inr ⟨rfl,λ_ y rs r l B=>?_,λz=>absurd c z⟩⟩;have o:=HP b a c l B;refine⟨rfl,m,rs,rfl,h.hl.wf,⟨o,λn C=>?_⟩,h.hl.deep,λG H=>?_⟩
  .exact(rS (ir b a) l n).mpr ⟨_,c9 g,((g8 h.hl).2.1 n).mpr C⟩
  .rw[cW (SY b a c l g)]
   exact q _
theorem NQ(q:∀A',R (.bl true) A'):Od RE {nx:=nx,rt:=R} [some (.fl ns),none,none,none,none,none,none,none,none,none,none,none] A:=by
 have hz:(1000:Nat)<=sizeLine:=δ
 have t:Tw A.length 0 (A++[C.lst []]):=⟨[],aH,aG _⟩;refine⟨bV _,show 2<=sizeLine by decide,show 3<=sizeLine by decide,show 4<=sizeLine by decide,show 3<=sizeLine by decide,rfl,ns,A.length,_,_,0,rfl,?_,aH,θ,(((t.gr Gr.push).gr Gr.push).gr Gr.push).gr Gr.push,δ,λx P hx u t1=>?_⟩
 .simp
 obtain⟨r,a,rfl,d,h1,w,j⟩:∃(r:Nat) (a:List Str),x=.ref r/\r≠A.length/\P[r]?=some (.lst (a.map D.str))/\a≠[]/\∀x∈a,x∈N4:=by
  rcases bz.mp hx with e|hx
  .exact⟨_,["a","b"],e,θ,u _ _ θ (getElem?_push (getElem?_push (getElem?_push aH))),θ,λx h=>by simp at h;rcases h with rfl|rfl<;>simp[N4]⟩
  rcases bz.mp hx with e|hx
  .exact⟨_,["a","b","c"],e,θ,u _ _ θ (getElem?_push (getElem?_push aH)),θ,λx h=>by simp at h;rcases h with rfl|rfl|rfl<;>simp[N4]⟩
  .exact⟨_,["a","b","c","d"],bH.mp hx,θ,u _ _ θ (getElem?_push aH),θ,λx h=>h⟩
 refine⟨rfl,ns,A.length,4,0+1,rfl,t1,δ,δ,λk Y k0 k1 S T=>⟨ω,ω,?_⟩⟩;have h2:=S _ _ d h1;refine tN (λrest ys A'=>∃(ls:List M) (n:Nat),ys=ls.map enc/\rest.length+ls.length<=4/\n+100*rest.length<=500/\(∀m∈ls,Wf m/\m.deep<=2/\∀x∈m.names,x∈N4)/\Tw A.length n A'/\A'[r]?=some (.lst (a.map D.str))) ?_ ?_ ?_ ?_ _ _ _ ⟨[],2,rfl,?_,?_,λm f=>(by cases f),T,h2⟩
 .intro _ _ _ _
  trivial
 .rintro rest ys A' ⟨ls,n,rfl,h,_⟩
  rw[aS];omega
 .rintro v rest ys U ⟨ls,n,rfl,hl,F,f,t3,y⟩
  rw[gv] at hl F;have Z:cst 3=36:=δ
  refine⟨[v],rfl,λQ i=>⟨rfl,ns,A.length,r,a,n,rfl,δ,d,y,w,λx hx=>lR x (j x hx),t3,ω,λm G V dm W H=>i _ _ ⟨ls++[m],n+cst 3,θ,by simp;omega,ω,λz hz=>?_,H.tw,H.get d y⟩⟩⟩;rcases b_.mp hz with hz|hz
  .exact f z hz
  .rw[bH.mp hz]
   exact⟨V,ω,λx hx=>j x (W x hx)⟩
 .rintro ys U ⟨ls,n,rfl,hl,F,f,t3,y⟩
  have l4:ls.length<=4:=by simpa using hl
  refine dY aH ?_;refine tP enc (λm=>decide (ez [] (bR m "" 1)=none)) enc ls [] _ (λA' g=>g.get aH) (λm b G X=>?_) (by simp;omega) (λG X=>?_)
  .obtain⟨B,I,J⟩:=f m b
   refine⟨[enc m],rfl,λQ i=>⟨rfl,m,rfl,B,ω,λl o=>?_⟩,λ_ l o Q i=>i _ Gr.refl⟩;cases K:ez [] (bR m "" 1) with
   |none=>
    have:=i l o;rw[cW K] at this;exact this
   |some p=>
    have:=i l o;rw[fM (by rw[K];exact λz=>by cases z)] at this;exact this
  rw[fL];generalize s:ls.filter (λm=>decide (ez [] (bR m "" 1)=none))=ms;have E:∀m∈ms,Fv m:=λm b=>by
   rw[<-s] at b;obtain⟨h1,h2⟩:=iH.mp b;obtain⟨B,I,J⟩:=f m h1;exact⟨⟨B,ω,fS h2⟩,I,J⟩
  have L:ms.length<=6:=by
   rw[<-s];have:=List.length_filter_le (λm=>decide (ez [] (bR m "" 1)=none)) ls;omega
  refine vS aH ?_;refine⟨bV _,CV E ?_⟩;refine cD (λ_=>q _) (λc=>?_);have N:1<=ms.length:=rX.mpr c;refine⟨rfl,1,ms,rfl,N,L,E,.inr ⟨rfl,λO l rs o hp hu=>?_,λO l o=>q _⟩⟩;exact Kv N L E O q
 .simp[eN]
  omega
 .simp[eN]
  omega
end
end DP
namespace My
open L2 DP MA
theorem Lj{v:Addr}{fd:FuncData}(T:kg K "law" "law" kJ v fd)(k:mg "range"=none)(l:mg "tuple"=none)(p:mg "len"=none)(t:mg "dict"=none)(g:ay P w K mg base 3 "_law_draw" oV (av mg 3 qa))(j:ay P w K mg base 4 "_law_pick" qV (av mg 3 qb))(b:ay P w K mg base 7 "_law_mobile" uM (av mg 4 (xq 3)))(u:ay P w K mg base 11 "bar" qW (av mg 1 sZ))(a:ay P w K mg base 24 "_law_try" uQ (av mg 2 nP))(d:ay P w K mg base 10 "_law_names" uN (av mg 1 xw))(r:ay P w K mg base 14 "bound" uS (av mg 1 w9))(e:ay P w K mg base 12 "_law_still" uP (av mg 2 xC))(m:ay P w K mg base 19 "is_still" u6 (av mg 2 xB)):fC P w K mg base (bJ P w) 26 v fd zp (av mg 1 A_):=by
 refine LS T GP rfl δ λN RE f x B outer s H E o y hx ds A R h hl=>?_;have n:=o.units;have nd:=GP.nd;refine⟨_,(@aI _ _ _ _ _ _ (dS 1 nd (c8 ah)) (@aI _ _ _ _ _ _ (dS 2 nd (dL j o hx (aa (vr 0) (aa (vr 1) (aa (c8 (aa (c8 (aa bX (aa bX ah))) (aa (c8 (aa bX (aa bX (aa bX ah)))) (aa (c8 (aa bX (aa bX (aa bX (aa bX ah))))) ah)))) ah))))) (@aI _ _ _ _ _ _ (yr none (own:=["_law_k"]) (frees:=["_law_script","_law_town","_law_names_here"]) (ix:=[0,1,2]) (i:=3) nd rfl (by first|exact Or.inl rfl|exact Or.inr rfl) rfl (ym k (aa (cZ aC (dL g o hx (aa (vr 0) (aa (vr 1) (aa aC ah))))) ah)) (λc=>(pG 0 (show(["_law_k","_law_script","_law_town","_law_names_here"]:List Str).Nodup by decide+kernel))) (λc=>(dL b o oY (aa (vr 1) (aa (vr 2) (aa (vr 3) (aa aC ah))))))) (@aI _ _ _ _ _ _ (dS 4 nd (ku tK tU l kY (aa (tX none (own:=["_law_mobile_here"]) (frees:=[]) (ix:=[]) rfl (di (vr 3)) (λc=>(pG 0 (show(["_law_mobile_here"]:List Str).Nodup by decide+kernel))) (λc=>(Ht (dL u o oY (aa (vr 0) ah)) mK)) (λc=>(vr 0))) ah))) (@aI _ _ _ _ _ _ (cF (PW.pt (ig (gu n (vr 4) (dW ah)) (jr (Ht (dL a o hx (aa aC (aa (vr 4) ah))) mK)))) (@aF _ _ _ _ (aU iU)) cO) (@aI _ _ _ _ _ _ (dS 5 nd (dL a o hx (aa aC (aa (vr 4) ah)))) (@aI _ _ _ _ _ _ (gm fQ rfl (ym k (aa (dI gR gj p h_ (aa (vr 4) ah)) ah)) (dG 6 nd) (@aI _ _ _ _ _ _ (dS 7 nd (cZ (tZ (vr 4) t9 (t_ (vr 6))) (tZ (vr 4) (t_ (cZ (vr 6) aC)) t9))) (@aI _ _ _ _ _ _ (dS 8 nd (dL d o hx (aa (dX n (vr 4) (vr 6)) ah))) (@aI _ _ _ _ _ _ (cF (gu n (vr 7) (dW ah)) (@aF _ _ _ _ (aU (uc n (vr 5) (Ck (gu n (dI gR gj p h_ (aa (vr 8) ah)) aC) (c8 (aa aC ah)) (c8 ah))))) cO) (@aI _ _ _ _ _ _ (dS 9 nd (cZ (dL r o hx (aa (vr 7) ah)) (gF none (own:=["_law_name"]) (frees:=[]) (ix:=[]) rfl (di (vr 8)) (λc=>(pG 0 (show(["_law_name"]:List Str).Nodup by decide+kernel))) (λc=>(ku tK tU l kY (aa (c8 (aa (vr 0) ah)) ah)))))) (@aI _ _ _ _ _ _ (Kh none (own:=["_law_group"]) (frees:=["_law_mine"]) (ix:=[8]) (i:=10) nd rfl (by first|exact Or.inl rfl|exact Or.inr rfl) rfl (di (vr 9)) (λc=>(pG 0 (show(["_law_group","_law_mine"]:List Str).Nodup by decide+kernel))) (λc=>(gu n (tX none (own:=["_law_name"]) (frees:=["_law_group"]) (ix:=[0]) rfl (di (vr 1)) (λc=>(pG 0 (show(["_law_name","_law_group"]:List Str).Nodup by decide+kernel))) (λc=>(pA n (vr 0) (vr 1))) (λc=>(vr 0))) (c8 ah))) (λc=>(vr 0))) (@aI _ _ _ _ _ _ (cF (m8 n (CJ n (vr 6) (vr 5)) (Ku n (vr 10) (c8 ah))) (@aF _ _ _ _ (aU iU)) cO) (@aI _ _ _ _ _ _ (dS 11 nd (ku (ql rfl) qv t boot_dict (aa (dL a o hx (aa aC (aa (vr 7) ah))) ah))) (@aF _ _ _ _ (cF (PW.pt (CH (T4 n (vr 6) (vr 5)) (CH (gu n (tX none (own:=["_law_name"]) (frees:=["_law_book"]) (ix:=[11]) rfl (di (vr 8)) (λc=>(pG 0 (show(["_law_name","_law_book"]:List Str).Nodup by decide+kernel))) (λc=>(pA n (vr 0) (vr 1))) (λc=>(vr 0))) (c8 ah)) (Kr (gn (gp (dL e o hx (aa (dX n (vr 4) (vr 6)) (aa (vr 11) ah))))))))) (@aF _ _ _ _ (aU iU)) cO)))))))))) (@aF _ _ _ _ (aU (dL m o hx (aa (dX n (vr 4) aC) (aa (dL a o hx (aa aC (aa (vr 4) ah))) ah)))))))))))),?_⟩;obtain⟨ns,rfl,q⟩:=h;exact NQ q
end My
namespace L2
theorem tD{K:Frag}{h:Heap}{mg:aB}{x:Str}{st:Stmt}{ps:List Str}{f:Addr}{g:Value}{i an:Option Addr}{e:Array (Option Value)}{kV doc pm b ct:Value}(X:K.In h)(G:h.Ns mainGlobals mg)
  (a:nsIn K mainGlobals x=some (some (.ref f)):=by k_is)(l:K.lookup f=some ⟨g,i,.func (fnOf x x (lA st) (gU st) (aK st) .none kV doc pm an b ct),e⟩:=by k_is)(c:codeIn K b x=true:=by k_is)(k:keepIn K (.ref f)=true:=by k_is)
  (j:∀(kV doc pm:Value) (an:Option Addr) (b ct:Value) (d:List Value),d.length=ps.length->bindArgs (fnOf x x (lA st) (gU st) (aK st) .none kV doc pm an b ct) ⟨d,[]⟩=pure (ps.zip d):=by(intro _ _ _ _ _ _ d hl;rcases d with _|⟨_,_|⟨_,_|⟨_,_|⟨_,_|⟨_,_|⟨_,_⟩⟩⟩⟩⟩⟩<;>first|rfl|(simp at hl))):TopD K mg x st ps:=
 ⟨f,_,yF l c k,(yF l c k).binds j,mg_of X G a⟩
theorem bN{K:Frag}{h:Heap}{mg:aB}{x:Str}(X:K.In h)(G:h.Ns mainGlobals mg)(a:nsIn K mainGlobals x=some none:=by k_is):mg x=none:=PySem.W.mg_none_of X G a
theorem eX{K:Frag}{h:Heap}{mg:aB}{x:Str}{v:Value}(X:K.In h)(G:h.Ns mainGlobals mg)(a:nsIn K mainGlobals x=some (some v):=by k_is):mg x=some v:=mg_of X G a
end L2
namespace My
open L2 DP MA
theorem walk{l:PySem.W.OpenLaw}{q:Program}{loose:List Str}{i:(aB)->Heap->Prop}{c:World->Heap->Prop}{d:DefRec}{K:Params->Frag}(j:l.most=some 63)(b:d.params.defaults=[])(m:∀p,(K p).all (λp=>mX p.2)=true)
  (o:∀(w:World) (h:Heap),c w h->(K w.params).In h)
  (F:∀(w:World) (mg:aB) (g:Addr) (h:Heap),(K w.params).In h->h.Ns mainGlobals mg->mg d.name=some (.ref g)->
   ∃fd:FuncData,(∀(s:Shared) (u:Value),BindsTo s fd ⟨[u],[]⟩ [("_law_script",u)])/\∀base:Heap,(K w.params).In base->base.Ns mainGlobals mg->fC l.prog w (K w.params) mg base (bJ l.prog w) 26 g fd ["_law_script"] o_):
  PySem.W.WalkO q loose i c l.row.toRowW d [] (λf vs=>PySem.call f vs):=
 L2.Uw (n:=63) (k:=26) (x:="_law_script") (CX:=λw=>bJ l.prog w) (sp:=λ_=>o_) j δ b ⟨rfl,δ,δ⟩ o F (λw H a ns _ r t=>LX (m w.params) r t) λw H s e s' z=>by
  obtain⟨_,_,_,_,_,z⟩:=z
  exact z
theorem NS{P:Program}{w:World}{K:Frag}{h:Heap}{mg:aB}{o j:Addr}{k b:Option Addr}{l:Array (Option Value)}{m c d g a i:Value}(X:K.In h)(G:h.Ns mainGlobals mg)(n:mg "law"=some (.ref o))
  (p:nsIn K mainGlobals "law"=some (some (.ref j)))(q:K.lookup j=some ⟨m,k,.func (fnOf "law" "law" (lA kJ) (gU kJ) (aK kJ) .none c d g b a i),l⟩)(r:codeIn K a "law"=true)(k3:keepIn K (.ref j)=true)
  (go:∀(base:Heap) {f:Addr} {fd:FuncData},kg K "law" "law" kJ f fd->fC P w K mg base (bJ P w) 26 f fd zp o_):
  ∃fd:FuncData,(∀(s:Shared) (v:Value),BindsTo s fd ⟨[v],[]⟩ [("_law_script",v)])/\∀base:Heap,K.In base->base.Ns mainGlobals mg->fC P w K mg base (bJ P w) 26 o fd ["_law_script"] o_:=by
 have e:=n.symm.trans (mg_of X G p)
 cases e
 exact⟨fnOf "law" "law" (lA kJ) (gU kJ) (aK kJ) .none c d g b a i,λs v=> .of_eq rfl,λbase _ _=>go base (yF q r k3)⟩
end My
end
open PySem PySem.W PyProof.Rows
set_option maxHeartbeats 0
structure PySem.W.Fast:Prop where (tw13912230262833856199 tw861502493610598483 tw7597207336037581707 tw7774113678449685934 tw4209407281634767887 tw12428158363243832775 tw12926932280828267440 tw15795137049058576456 tw1557068044175049091 tw8247596551190957481 tw2136419772891817016 tw13861969467909019144 tw1405931916929532232 tw5667099127317398114 tw1937721966566455358 tw17339309145561079191 tw15617008699501574997 tw12887044766017154078 tw18437792190763421558 tw13135312941875745310 tw17653592248189364939 tw977512076041815475 tw12408111787983249662 tw17351735930882485243 tw4039707410889071942 tw8159993647027272844 tw16902440903046159558 tw12960429369202013873 tw13114645530532618160 tw3721919958574915784 tw14958820412457663293 tw9947508896943372755 tw4699756791338806529 tw1825952489489211193 tw866717566613908145 tw18367749455379333440 tw8760152093665844161 tw15433366417846715934 tw13956191218907399338 tw3475869608268796686 tw13421457143807847188 tw14387916025512776202 tw13855379610559885079 tw15805137534098808535 tw14172470266813156586 tw17292613610259460706 tw10159399881129095643 tw14664691819916384248 tw3382625519597670723 tw17590705303994421779 tw3681537716864247207 tw6557801498797044033 tw10910644110388302437 tw9404705873571188630 tw12954591660760965231 tw2144661209622563809 tw17613222154834848340 tw896239598344801917 tw18328257000508772394 tw13055953723892786844 tw991626836265849350 tw14961746396406840608 tw17817366049700826239 tw15402603294489630176 tw14404928986312190071 tw13444670453868202053 tw2314633323536394700 tw1070438729232803039 tw14904681115217272601 tw6427576097997697322 tw14903569129155370506 tw17338325484393633139 tw1725486776273817318 tw10519837036962490867 tw9806118890596472461 tw9615563845995560447 tw2466311954974566718 tw16873086082458093902 tw14993981098963755598 tw17170472223608059050 tw14226173905949225808 tw5890639436620234070 tw17518593693041627797 tw2931988195819169919 tw13757698761724263525 tw9592521066531166775 tw16120054744476736488 tw4493901809537577575 tw6522051377940421278 tw5217270863462422736 tw11853640710764476214 tw18293242582946804979 tw726351398001015727 tw6278996535519779258 tw18183970276198133131 tw3919386906821981792 tw13437419889732721216 tw10295913840692754127 tw6128145076113358165 tw6162269159774324313 tw5832305185047221409 tw7424060955962978353 tw15438627641174518403 tw14760874974797668852 tw10842938092177581297 tw18418582437962087742 tw5072417060200589145 tw14391293386007564604 tw8498532028676091811 tw18073898193381586223 tw1719895430356276633 tw11024694936033576346 tw15752536640612570366 tw11738243743197964597 tw12269216009862288129 tw9116068151291705539 tw12297992134047619483 tw8219003486749837733 tw8002303944043701648 tw11266997524610791606 tw15227483606004533461 tw12843764043397292189 tw140236481695663071 tw10042083083395451092 tw15042883488752021643 tw5000232492035539693 tw15925456577456769635 tw12459912946257978736 tw5459702643516471331 tw14564479935002850509 tw8374155422468719031 tw2107523057676978006 tw15240619367488684849 tw2694234056635809718 tw3215387988796971590 tw17214186515701724070 tw3419001889969749887 tw16279288168775177219 tw14842496431369740429 tw2483420100392427323 tw6356304189028158447 tw13622603851894308203 tw6229817132586351632 tw2789304352393801511 tw2646887283097553488 tw18157406047293677543 tw4075453323654395381 tw11898673842065290130 tw9860861378791804195 tw14424681132571578402 tw16864618592142003386 tw3239113980409921550 tw3543459598558145280 tw11564986514327137767 tw12382822922155266910 tw6105849179199505303 tw16615150188913437886 tw9879335643197240621 tw16248296213531012650 tw8997383693586321770 tw2261719852989239553 tw15401437161963490237 tw9402243437249704421 tw7322748291113730364 tw6128106870883400570 tw8739830900816887780 tw15173544498738437827 tw8535803893964050539 tw16203965252921439515 tw1864683662541468164 tw17013487888433625170 tw4562827626845409882 tw5994696166404524948 tw443766864951011646 tw16654469307462801742 tw3235425350174046738 tw13547939009206843870 tw1293241653719404408 tw9689729476882780088 tw8171798328758944481 tw7046044490832178742 tw12488014758255163090 tw10826640976665885199 tw1342123614928995077 tw2244103112122482387 tw8080008513338510535 tw4906484309439969231 tw9387514328989991554 tw615563214671542189 tw10624116801336726872 tw3300454383303005205 tw9456574344343218679 tw1972164579936704799 tw1840220198017710270 tw2595585439558603231 tw9972681490609642005 tw5622701340561072331 tw28018229315631829 tw15554417296805563061 tw12903330217458380548 tw1956775160557780875 tw209982475168477708 tw13462424878891718212 tw4480162626587320490 tw1979317910248211280 tw258204147387103276 tw6148498323302512570 tw16298917771340976007 tw11408881796089955267 tw8422229294311615681 tw7480016910919988345 tw12670982853097334264 tw17678831435119133177 tw10988312798546598065 tw14520296925931582552 tw6469784823511061222 tw15590096980072825465 tw13769103115541136327 tw11962351593759143498 tw11384182702204212275 tw4734895289157585001 tw17334828202450815106 tw16053306600634468012 tw2692750590507578028 tw10016166984437732892 tw5323657890516693427 tw1607123104830579860 tw14243238205550065757 tw13810262117814702294 tw855453113358079251 tw14963028359598502718 tw6822071536725586909 tw5101696844757716304 tw16766683885213920930 tw12917704675397863716 tw9582823730064241283 tw938635154573522699 tw17744993626210230056 tw1599053048872161195 tw16919654943277366748 tw16108870410212019532 tw15235614512728720 tw4971374062829452455 tw8912161614967838395 tw5438652380644606353 tw4635989785427082552 tw3985964047577975286 tw3303267245142563540 tw16409965706819354750 tw15621415185263527259 tw8949853181751564097 tw2455152089536381482 tw17062427158221528723 tw740290905518256060 tw16682895059504647277 tw12961523952153894614 tw643336161829623379 tw10374632558016547081 tw4323258101793500111 tw8186657734068701312 tw1207101557538958131 tw1708089923452030704 tw8047209995159408440 tw7164969610272591079 tw2135409205425526673 tw10258873121960336067 tw5449601097390414333 tw3641951560692057861 tw3042748168174471775 tw14782755387869428366 tw11401859456886640639 tw6953138203311097117 tw7476452910721959123 tw2400638427578300857 tw17187875760726034783 tw12727641955093265886 tw10294118229990073760 tw4077048163395320219 tw9977182230042388008 tw5702276774652866934 tw2353497105660221152 tw18101783494082082527 tw9495317472360511255 tw5498123283257192965 tw11766667032028208565 tw11421057715548341654 tw10792498714594961201 tw9919008367099125623 tw9848817304349107530 tw9796564346219866840 tw9784134513789038367 tw9757595895972200118 tw9646623106273453227 tw9536688357841153863 tw9331231397406362311 tw87601786513091389 tw8733291241859026926 tw8431482922422412695 tw8285278889055680438 tw8060666987683057360 tw7943549864190904611 tw7867829370405329436 tw7217548393331319763 tw7086961617601330827 tw6968137755033780318 tw6858818405166986180 tw6798380500665416597 tw6575520176995025181 tw6549852094080907030 tw6548459193220583526 tw6420159726195949164 tw6170744672141170255 tw6056707288978253535 tw5537553045615171315 tw539538531456391632 tw5002640475654186023 tw4953865588907285216 tw4859391219904099992 tw4849480874435393781 tw4804111812005502284 tw4436474186459923750 tw4321966507151631593 tw4189273013823423559 tw4171853373547519906 tw3953844824629472508 tw384561282630992784 tw3778530596728393105 tw3671519592330383864 tw3374319085511977134 tw3308634892276815127 tw3270257207059953099 tw3049343062529576306 tw2950685276103557050 tw2570914705882880060 tw2474200967059427378 tw2358075552688931204 tw2295934692909999376 tw2259672571474061568 tw2080317491765294665 tw1956260828630720203 tw1950803216711332702 tw1915925776726481438 tw17760279517084355780 tw17483705464198625004 tw17435391645217708394 tw1717767836212652739 tw16822532161544500889 tw16756451883985382160 tw16723463757517087524 tw16670775579421159206 tw16636501806038632012 tw16140922888777852060 tw15861351967447197489 tw15685335758407661847 tw15539815450414544023 tw1532491051758110099 tw15254633091992210921 tw15127105006835628225 tw14935467056822913822 tw14827714588952709054 tw14727194681476072466 tw14689541978594310382 tw14611616552423853409 tw14537775516033599862 tw14261769069557060686 tw14219159868682941630 tw14022695629967993375 tw140001813534094272 tw13913613514976480042 tw13812277999558781770 tw13160504802963445071 tw13053770412826190925 tw13034982811429478159 tw12772213712371865176 tw12330612334027959195 tw12147665669636231765 tw12099505692703838030 tw1205274952441263945 tw11823594873375168262 tw11662115353561507501 tw11502921971960690029 tw11373181179767321252 tw11161164713144168021 tw11066385474520676512 tw10879749546641988924 tw10876078143196172821 tw10741264400317747893 tw10551173667578312727 tw10510056951384868246 tw1000662321505670351:True)
open L2 DP MA My
open_top hd for PySem.Challenge.rw_hangstill_k24_whole_spare_and_settled
theorem PySem.Challenge.cw_hangstill_k24_whole_spare_and_settled_holds : PySem.Challenge.rw_hangstill_k24_whole_spare_and_settled.Holds := by
 refine hd ?_;k_fill;refine My.walk (l:=PySem.Challenge.rw_hangstill_k24_whole_spare_and_settled) rfl rfl ?K (λw h Y=>PySem.W.kIn_of Y) ?F;case K=>exact λp=>(Eq.refl true:true=true)
 case F=>
  intro w mg fa h KX G hmg;refine' My.NS KX G hmg ?aL ?lL ?cL ?kL ?Ma;(case aL=>k_is);(case lL=>k_is);(case cL=>k_is);(case kL=>k_is);case Ma=>
   intro base f fd T;have Oe:mg "HangError"=some _:=eX KX G;have Og:mg "NoMobile"=some _:=eX KX G;have Of:mg "NoHall"=some _:=eX KX G;have Ec:mg "NoWeights"=some _:=eX KX G;have Eb:mg "Never"=some _:=eX KX G;have AI:=Lg (P:=PySem.Challenge.rw_hangstill_k24_whole_spare_and_settled.prog) (w:=w) (base:=base) (tD KX G) (bN KX G) (bN KX G) (bN KX G);have AG:=Lf (P:=PySem.Challenge.rw_hangstill_k24_whole_spare_and_settled.prog) (w:=w) (base:=base) (tD KX G) (bN KX G) (bN KX G) (bN KX G) (bN KX G) (eX KX G);have H_:=Ld (tD KX G) (bN KX G) (bN KX G) (bN KX G) (bN KX G) (eX KX G) AG AI 6;have AD:=Le (tD KX G) (eX KX G) H_;have Az:=K4 (tD KX G) Og (by k_exc) AD;have AB:=K_ (P:=PySem.Challenge.rw_hangstill_k24_whole_spare_and_settled.prog) (w:=w) (base:=base) (tD KX G);have AM:=LH (tD KX G) AB;have AK:=LB (tD KX G) AM;have Iq:=LF (tD KX G) AM;have Iv:=LK (tD KX G) AK 6;have AN:=LJ (tD KX G) Az Iv;have Ay:=KZ (tD KX G) AN;have Im:=Lz (tD KX G) (bN KX G) AN;have IB:=LN (P:=PySem.Challenge.rw_hangstill_k24_whole_spare_and_settled.prog) (w:=w) (base:=base) (tD KX G) (bN KX G);have AL:=LC (tD KX G) (bN KX G) IB;have wO:=La (tD KX G) AL;have HV:=K1 (P:=PySem.Challenge.rw_hangstill_k24_whole_spare_and_settled.prog) (w:=w) (base:=base) (tD KX G) (bN KX G);have AA:=K7 (tD KX G) AK Iq;have HZ:=K6 (P:=PySem.Challenge.rw_hangstill_k24_whole_spare_and_settled.prog) (w:=w) (base:=base) (tD KX G) (bN KX G) (bN KX G);have Ir:=LI (tD KX G) wO HZ HV AA;have AH:=Lv (tD KX G) Eb (by k_exc) Ir;have HY:=K5 (tD KX G) (bN KX G) (bN KX G) (bN KX G) (eX KX G) Of (by k_exc) AD Ay;have wQ:=Lc (tD KX G) HY Im;have Ik:=Lu (tD KX G) (bN KX G) (bN KX G) (bN KX G) (eX KX G) AG AI;have Ib:=Li (tD KX G) (bN KX G) (bN KX G) (bN KX G) (bN KX G) (bN KX G) Ik;have AE:=Lk (P:=PySem.Challenge.rw_hangstill_k24_whole_spare_and_settled.prog) (w:=w) (base:=base) (tD KX G) 8;have Ic:=Lm (tD KX G) (bN KX G) AE;have HW:=K2 (tD KX G) Ec (by k_exc) Ib;have H8:=K8 (tD KX G) (bN KX G) Ec (by k_exc) HW AE;have Ip:=LD (tD KX G) Ic;have IC:=LO (tD KX G) Ip 6;have ID:=LP (tD KX G) (bN KX G) Az H8 IC;have Iz:=LM (tD KX G) ID;have Ig:=Lp (tD KX G) AB;have Ih:=Lq (tD KX G) (bN KX G) (bN KX G) (bN KX G) Ig;have H9:=Lb (tD KX G) (bN KX G) AA;have IE:=LQ (tD KX G) (bN KX G) (bN KX G) wQ AH wO Ih H9;have Ia:=Lh (tD KX G) (bN KX G) (bN KX G) AL;have Iw:=LL (tD KX G) (bN KX G) (bN KX G) wQ AH Ia;have HU:=K0 (tD KX G) (bN KX G) (bN KX G) wQ wO;have HX:=K3 (P:=PySem.Challenge.rw_hangstill_k24_whole_spare_and_settled.prog) (w:=w) (base:=base) (tD KX G) (bN KX G);have Ii:=Lr (tD KX G) HX;have wN:=K9 (tD KX G) (bN KX G) Ii;have AJ:=LA (tD KX G) (bN KX G) wN;have Ij:=Ls (tD KX G) wN AJ;have AF:=Lo (P:=PySem.Challenge.rw_hangstill_k24_whole_spare_and_settled.prog) (w:=w) (base:=base) (tD KX G) 8;have Il:=Lw (tD KX G) (bN KX G) (bN KX G) AF;have Iu:=LG (P:=PySem.Challenge.rw_hangstill_k24_whole_spare_and_settled.prog) (w:=w) (base:=base) (tD KX G) 8;have Ie:=Ll (tD KX G) (bN KX G) AF;have IA:=Ln (tD KX G) Iu Ie;have IF:=LR (tD KX G) Oe Eb (by kts_exm) Iw IE;exact(Lj T (bN KX G) (bN KX G) (bN KX G) (bN KX G) wN AJ (Ij 3) Ay IF Il HU (IA.mono δ) Iz).imp λvs H Q E h=>SI h
