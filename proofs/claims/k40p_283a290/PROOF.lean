import PyProof.Rows.All
import Wide.All
import OpenK.AllK
import PySem.Challenge.RW_hangstill_k40_whole_again_and_kept
set_option Elab.async false
set_option linter.all false
set_option maxRecDepth 100000
set_option maxHeartbeats 4000000
open PySem.Heap (DictOf ExtBut SameBut get?_push_ne)
open Option (getD_none getD_some isSome_map map_eq_some_iff map_some)
open PySem.W (Frag codeIn excIn findIn fnOf hideAll hideAll_get instObj keepIn kitOne kitx_dict kitx_list kitx_tuple lookIn methodObj mg_of nsIn of_hideAll plainGet)
open Nat (lt_trans pow_pos pow_succ succ_pos zero_add)
open List (Nodup Pairwise Perm all_eq_true any_map find?_append find?_some forIn_cons forIn_nil length_range length_set map_id map_nil mem_range not_lt of_mem_zip range range_succ replicate set_set take_length take_succ)
open Array (toList toList_push)
open Int (add_comm dvd_trans le_of_dvd mul_nonneg one_mul pow_nonneg)
open PySem.F (args_tuple_add_2 called_tuple entry_set_init entry_tuple_add slot_dict_update slot_tuple_add sub_list_set typeCall_set_1)
open PySem.PyData (canLay0 canLayAll0 depthAll eqvAll strOk)
abbrev Cr:= @_root_.PyProof.Rows.callWith_builtin1
abbrev nj:= @_root_.PyProof.Rows.callWith_type1
abbrev Cv:= @_root_.PyProof.Rows.slot_tuple_getitem
abbrev CB:= @_root_.PySem.F.entry_type_call
abbrev jK:= @_root_.PySem.F.slot_list_append
abbrev CI:= @_root_.PySem.F.slot_list_getattribute
abbrev CJ:= @_root_.PySem.F.slot_tuple_getattribute
abbrev jM:= @_root_.PySem.F.type_list_append
abbrev iS:= @_root_.PySem.Around.under_plainId
abbrev fc:= @_root_.Array.getElem?_eq_getElem
abbrev t_:= @_root_.Array.getElem?_eq_none
abbrev yd:= @_root_.Array.getElem?_eq_some_iff
abbrev lX:= @_root_.Bool.eq_iff_iff
abbrev bV:= @_root_.Bool.false_ne_true
abbrev yh:= @_root_.PySem.Calls.call_function_entry
abbrev yi:= @_root_.PySem.Calls.spliced_cons
abbrev yj:= @_root_.PySem.Calls.spliced_nil
abbrev yk:= @_root_.PyProof.Rows.F.entry_set_update_loop
abbrev qE:= @_root_.PyProof.Rows.F.plain_set_update_loop
abbrev yq:= @_root_.PySem.F.slot_zip_next
abbrev Cy:= @_root_.Int.le_ediv_iff_mul_le
abbrev eZ:= @_root_.Int.le_of_lt
abbrev e_:= @_root_.Int.le_trans
abbrev yE:= @_root_.Int.lt_of_lt_of_le
abbrev qL:= @_root_.Int.mul_le_mul_of_nonneg_left
abbrev CA:= @_root_.Int.mul_le_mul_of_nonneg_right
abbrev k_:= @_root_.Int.ne_of_gt
abbrev kc:= @_root_.Int.pow_succ
abbrev ux:= @_root_.PyProof.Rows.KeyOrd.kle_of_klt
abbrev oX:= @_root_.PyProof.Rows.KeyOrd.kle_refl
abbrev yF:= @_root_.PyProof.Rows.KeyOrd.kle_trans
abbrev CC:= @_root_.List.filterMap_cons
abbrev yG:= @_root_.List.filter_cons_of_neg
abbrev yH:= @_root_.List.filter_cons_of_pos
abbrev CD:= @_root_.List.getElem?_cons_succ
abbrev bY:= @_root_.List.getElem?_eq_some_iff
abbrev CF:= @_root_.List.getElem?_zipIdx
abbrev CG:= @_root_.List.length_filter_le
abbrev kg:= @_root_.List.lt_irrefl
abbrev uy:= @_root_.List.lt_trans
abbrev mh:= @_root_.PySem.Obj.data_mapFields
abbrev CH:= @_root_.PySem.Obj.isFreed_of_fields
abbrev jk:= @_root_.PySem.boot_len
abbrev oY:= @_root_.PySem.mem_of_lookup
abbrev mj:= @_root_.Rat.div_def
abbrev yI:= @_root_.Rat.intCast_lt_intCast
abbrev gI:= @_root_.Rat.intCast_mul
abbrev uz:= @_root_.Rat.inv_pos
abbrev yJ:= @_root_.Rat.mul_assoc
abbrev nC:= @_root_.Rat.mul_pos
abbrev oZ:= @_root_.Rat.one_mul
abbrev lg:= @_root_.Bool.and_eq_true
abbrev o4:= @_root_.List.any_cons
abbrev jL:= @_root_.List.any_eq_true
abbrev mq:= @_root_.List.append_nil
abbrev yK:= @_root_.PyProof.Rows.args_list_sort
abbrev yL:= @_root_.beq_eq_false_iff_ne
abbrev nD:= @_root_.bne_self_eq_false
abbrev nE:= @_root_.PyProof.Rows.boot_dict
abbrev uA:= @_root_.PyProof.Rows.boot_sorted
abbrev kh:= @_root_.PyProof.Rows.boot_tuple
abbrev o5:= @_root_.PySem.builtinLookup_eq_fast
abbrev eO:= @_root_.PySem.F.called_set
abbrev gJ:= @_root_.PySem.codeAny_builtin
abbrev CK:= @_root_.PySem.codeAny_call_builtin
abbrev lu:= @_root_.PySem.codeAny_mono
abbrev uB:= @_root_.PySem.codeAny_of_tree
abbrev ck:= @_root_.congrArg
abbrev fY:= @_root_.decide_eq_false
abbrev dR:= @_root_.decide_eq_true
abbrev nF:= @_root_.decide_eq_true_eq
abbrev mu:= @_root_.List.drop_eq_getElem_cons
abbrev qM:= @_root_.List.drop_eq_nil_of_le
abbrev lz:= @_root_.Int.ediv_le_self
abbrev qN:= @_root_.Int.emod_lt_of_pos
abbrev qO:= @_root_.Int.emod_nonneg
abbrev yM:= @_root_.PyProof.Rows.entry_list_sort
abbrev qP:= @_root_.List.ext_getElem?
abbrev jN:= @_root_.Bool.false_eq_true
abbrev ki:= @_root_.List.find?_cons
abbrev nG:= @_root_.List.find?_eq_none
abbrev qQ:= @_root_.PySem.fits_of_scanBound
abbrev qR:= @_root_.List.flatMap_append
abbrev qS:= @_root_.List.flatMap_cons
abbrev nH:= @_root_.List.foldl_append
abbrev h_:= @_root_.List.foldl_cons
abbrev uC:= @_root_.Int.gcd_dvd_left
abbrev uD:= @_root_.Int.gcd_dvd_right
abbrev bg:= @_root_.PySem.Heap.get?_push_of_some
abbrev b9:= @_root_.PySem.Heap.get?_push_size
abbrev o6:= @_root_.PySem.Heap.get?_update_other
abbrev jl:= @_root_.PySem.Heap.get?_update_self
abbrev iT:= @_root_.Array.getD_eq_getD_getElem?
abbrev fZ:= @_root_.List.getD_eq_getElem?_getD
abbrev iC:= @_root_.List.getElem?_append_left
abbrev qT:= @_root_.List.getElem?_append_right
abbrev a_:= @_root_.List.getElem?_eq_getElem
abbrev o7:= @_root_.List.getElem?_eq_none
abbrev cu:= @_root_.List.getElem?_map
abbrev eF:= @_root_.List.getElem?_set_ne
abbrev eB:= @_root_.List.getElem?_set_self
abbrev qq:= @_root_.Array.getElem?_toList
abbrev jH:= @_root_.List.getElem_mem
abbrev iO:= @_root_.List.getElem_of_mem
abbrev gv:= @_root_.if_false
abbrev ao:= @_root_.if_neg
abbrev aA:= @_root_.if_pos
abbrev lV:= @_root_.if_true
abbrev qt:= @_root_.Option.isSome_iff_exists
abbrev jh:= @_root_.PySem.W.kia_one
abbrev qu:= @_root_.Nat.le_add_right
abbrev ua:= @_root_.Nat.le_max_left
abbrev uc:= @_root_.Nat.le_max_right
abbrev iB:= @_root_.Nat.le_of_lt
abbrev aF:= @_root_.Nat.le_refl
abbrev lW:= @_root_.Nat.le_succ
abbrev cG:= @_root_.Nat.le_trans
abbrev cJ:= @_root_.List.length_append
abbrev gi:= @_root_.List.length_cons
abbrev qv:= @_root_.List.length_drop
abbrev ud:= @_root_.List.length_erase_of_mem
abbrev aM:= @_root_.List.length_map
abbrev nk:= @_root_.List.length_nil
abbrev ye:= @_root_.List.length_pos_iff
abbrev qw:= @_root_.List.length_pos_of_mem
abbrev yf:= @_root_.List.length_singleton
abbrev kZ:= @_root_.List.length_take
abbrev eN:= @_root_.Array.length_toList
abbrev yg:= @_root_.List.length_zipIdx
abbrev iP:= @_root_.List.lookup_cons
abbrev gw:= @_root_.Nat.lt_irrefl
abbrev qx:= @_root_.Int.lt_of_le_of_lt
abbrev cP:= @_root_.Nat.lt_of_lt_of_le
abbrev aR:= @_root_.PySem.Heap.lt_size
abbrev fX:= @_root_.Nat.lt_succ_of_lt
abbrev k8:= @_root_.Nat.lt_succ_self
abbrev dJ:= @_root_.List.map_append
abbrev ue:= @_root_.List.map_congr_left
abbrev cO:= @_root_.List.map_cons
abbrev bK:= @_root_.List.map_map
abbrev bU:= @_root_.List.mem_append
abbrev oK:= @_root_.List.mem_append_left
abbrev ji:= @_root_.List.mem_append_right
abbrev aY:= @_root_.List.mem_cons
abbrev bq:= @_root_.List.mem_cons_of_mem
abbrev aU:= @_root_.List.mem_cons_self
abbrev uf:= @_root_.List.mem_erase_of_ne
abbrev lY:= @_root_.List.mem_filter
abbrev qy:= @_root_.List.mem_filterMap
abbrev gx:= @_root_.List.mem_flatMap
abbrev aJ:= @_root_.List.mem_map
abbrev cQ:= @_root_.List.mem_map_of_mem
abbrev nu:= @_root_.List.mem_of_find?_eq_some
abbrev cU:= @_root_.List.mem_of_getElem?
abbrev qz:= @_root_.List.mem_of_mem_take
abbrev bE:= @_root_.List.mem_singleton
abbrev qA:= @_root_.List.mem_zipIdx_iff_getElem?
abbrev qB:= @_root_.Int.mul_assoc
abbrev oM:= @_root_.Int.mul_comm
abbrev eE:= @_root_.Int.mul_le_mul
abbrev gj:= @_root_.Int.mul_pos
abbrev qC:= @_root_.Int.natCast_pow
abbrev j9:= @_root_.Nat.ne_of_gt
abbrev bx:= @_root_.Nat.ne_of_lt
abbrev fN:= @_root_.List.nil_append
abbrev nv:= @_root_.List.nodup_append
abbrev iQ:= @_root_.List.nodup_cons
abbrev oO:= @_root_.List.nodup_nil
abbrev qD:= @_root_.Nat.not_lt_zero
abbrev fD:= @_root_.List.not_mem_nil
abbrev gy:= @_root_.of_decide_eq_true
abbrev fE:= @_root_.or_false
abbrev gZ:= @_root_.List.pairwise_cons
abbrev ug:= @_root_.List.pairwise_iff_getElem
abbrev jI:= @_root_.List.pairwise_map
abbrev g_:= @_root_.PySem.F.plainAttrs_list
abbrev jJ:= @_root_.PySem.plainId_quiet
abbrev uh:= @_root_.PySem.F.plain_extend_loop
abbrev yl:= @_root_.PySem.F.plain_list_iadd
abbrev fF:= @_root_.Nat.pow_le_pow_right
abbrev ny:= @_root_.PySem.putSet_of
abbrev ym:= @_root_.List.set_append_left
abbrev lZ:= @_root_.PySem.sizeLine_eq
abbrev um:= @_root_.Array.size_append
abbrev eW:= @_root_.PySem.Heap.size_push
abbrev qF:= @_root_.PyProof.Rows.size_push'
abbrev cj:= @_root_.List.size_toArray
abbrev qG:= @_root_.PySem.Heap.size_update
abbrev yo:= @_root_.PySem.F.slot_list_extend
abbrev yp:= @_root_.PyProof.Rows.slot_list_sort
abbrev yr:= @_root_.PyProof.Rows.sortedHeap_at
abbrev yt:= @_root_.PyProof.Rows.sortedHeap_old
abbrev qH:= @_root_.List.take_of_length_le
abbrev yu:= @_root_.Array.toArray_toList
abbrev qI:= @_root_.Int.toNat_natCast
abbrev yv:= @_root_.PySem.tupleKind_room_in1
abbrev oQ:= @_root_.PySem.typeLookup_type
abbrev yw:= @_root_.PySem.F.type_list_extend
abbrev Cu:= @_root_.PySem.weight_type_call_type
abbrev l_:= @_root_.PySem.wpAny_Call_Name_kw
abbrev qJ:= @_root_.PySem.wpAny_attempt
abbrev ah:= @_root_.PySem.wpAny_bind
abbrev oR:= @_root_.PySem.wpAny_callSpecial?_slot
abbrev jj:= @_root_.PySem.wpAny_call_entry
abbrev yx:= @_root_.PySem.wpAny_execs_nil
abbrev j_:= @_root_.PySem.wpAny_field
abbrev yy:= @_root_.PySem.wpAny_fieldsOf
abbrev eY:= @_root_.PySem.wpAny_holding
abbrev yz:= @_root_.PySem.wpAny_isInstance
abbrev yC:= @_root_.PySem.wpAny_loadPart'
abbrev k9:= @_root_.PySem.wpAny_mono
abbrev uo:= @_root_.PySem.wpAny_newList
abbrev gH:= @_root_.PySem.wpAny_newObj_type
abbrev Cz:= @_root_.PySem.wpAny_nextOf_list_item
abbrev oU:= @_root_.PySem.wpAny_passesOwn
abbrev aB:= @_root_.PySem.wpAny_pure
abbrev oV:= @_root_.PySem.wpAny_pyIter_list
abbrev iR:= @_root_.PySem.wpAny_rule
abbrev uq:= @_root_.PySem.wpAny_runValue
abbrev ur:= @_root_.PySem.wpAny_seqItems
abbrev uu:= @_root_.PySem.wpAny_setEntries_of
abbrev qK:= @_root_.PySem.wpAny_setField
abbrev oW:= @_root_.PySem.wpAny_setState_of
abbrev uv:= @_root_.PySem.wpAny_standAt
abbrev yD:= @_root_.PySem.wpAny_storeSet_of
abbrev nA:= @_root_.PySem.wpAny_truthy_bool
abbrev nB:= @_root_.PySem.wpAny_typeOf
abbrev uw:= @_root_.PySem.wpAny_updateSeq
abbrev bP:= @_root_.Nat.zero_le
section
open PySem
abbrev aC:=Str->Option Value
abbrev aT:=Value->Shared->Prop
abbrev aZ:=List (Addr×Obj)
end
section
open PySem PySem.Spec PyProof.Rows
namespace L2
abbrev Key:=Sum Int Str
def lQ:Key->Value->Bool
 |.inl k,v=>Value.isInt k v
 |.inr x,v=>Value.isStrOf x v
def RN(w:World):Key->Int
 |.inl k=>hashInt k
 |.inr x=>hashStr w x
theorem jz:∀{k:Key} {v:Value},lQ k v=true->(∃i t,k=Sum.inl i/\v=Value.int i t)\/(∃x t,k=Sum.inr x/\v=Value.str x t)
 |.inl i,v,h=>by
  obtain⟨t,e⟩:=Value.isInt_shape (k:=i) (v:=v) h;exact .inl ⟨i,t,rfl,e⟩
 |.inr x,v,h=>by
  obtain⟨t,e⟩:=Value.isStrOf_shape (x:=x) (v:=v) h;exact .inr ⟨x,t,rfl,e⟩
theorem RO(i:Int)(t:Tok):lQ (.inl i) (.int i t)=true:=by simp[lQ,Value.isInt]
theorem RP(x:Str)(t:Tok):lQ (.inr x) (.str x t)=true:=by simp[lQ,Value.isStrOf]
theorem RQ(a b:Int):decide ((Sum.inl a:Key)=Sum.inl b)=(a==b):=by
 by_cases e:a=b
 .subst e;simp
 .have h:¬(Sum.inl a:Key)=Sum.inl b:=λq=>e (Sum.inl.inj q)
  rw[fY h];exact(yL.mpr e).symm
theorem RX(a b:Str):decide ((Sum.inr a:Key)=Sum.inr b)=decide (a=b):=by
 by_cases e:a=b
 .subst e;simp
 .have h:¬(Sum.inr a:Key)=Sum.inr b:=λq=>e (Sum.inr.inj q)
  rw[fY h,fY e]
theorem RT(a:Int)(b:Str):decide ((Sum.inl a:Key)=Sum.inr b)=false:=fY (λq=>nomatch q)
theorem RW(a:Str)(b:Int):decide ((Sum.inr a:Key)=Sum.inl b)=false:=fY (λq=>nomatch q)
def dj(prog:Program)(w:World):PySem.KeyKind prog w Key where
 is:=lQ
 hash:=RN w
 inj:=λv a b ha hb=>by
  rcases jz ha with⟨i,t,rfl,rfl⟩|⟨x,t,rfl,rfl⟩
  .rcases jz hb with⟨j,u,rfl,e⟩|⟨y,u,rfl,e⟩
   .injection e with e1 _;rw[e1]
   .exact nomatch e
  .rcases jz hb with⟨j,u,rfl,e⟩|⟨y,u,rfl,e⟩
   .exact nomatch e
   .injection e with e1 _;rw[e1]
 byValue:=λk v h=>by
  rcases jz h with⟨i,t,rfl,rfl⟩|⟨x,t,rfl,rfl⟩<;>rfl
 pyHash:=λhv h=>by
  rcases jz hv with⟨i,t,rfl,rfl⟩|⟨x,t,rfl,rfl⟩
  .exact wpAny_pyHash_int h
  .exact wpAny_pyHash_str h
 eqBool:=λhu hv h=>by
  rcases jz hu with⟨i,t,rfl,rfl⟩|⟨x,t,rfl,rfl⟩
  .rcases jz hv with⟨j,u,rfl,rfl⟩|⟨y,u,rfl,rfl⟩
   .rw[RQ] at h;exact wpAny_eqBool_int h
   .rw[RT] at h;exact SeqAt.EqAt.int_str i t y u _ _ _ _ h
  .rcases jz hv with⟨j,u,rfl,rfl⟩|⟨y,u,rfl,rfl⟩
   .rw[RW] at h;exact SeqAt.EqAt.str_int x t j u _ _ _ _ h
   .rw[RX] at h;exact wpAny_eqBool_str h
 «strs»:=λk x t v h=>by
  rcases jz h with⟨i,u,rfl,e⟩|⟨y,u,rfl,e⟩
  .exact nomatch e
  .injection e with e1 _
   subst e1
   cases v<;>rfl
theorem SW(prog:Program)(w:World)(i:Int)(t:Tok):(dj prog w).is (.inl i) (.int i t)=true:=RO i t
theorem SX(prog:Program)(w:World)(x:Str)(t:Tok):(dj prog w).is (.inr x) (.str x t)=true:=RP x t
inductive V where
 |aG|bl (b:Bool)|int (i:Int)|str (x:Str)|jU (b:Array UInt8)|pP (b:UInt64)|ref (a:Addr)|ty (n:String)
 deriving DecidableEq
def RelV:V->Value->Prop
 |.aG,u=>u=Value.none
 |.bl b,u=>u=Value.bool b
 |.int i,u=>∃t,u=Value.int i t
 |.str x,u=>∃t,u=Value.str x t
 |.jU b,u=>∃t,u=Value.bytes b t
 |.pP b,u=>∃t,u=Value.float b t
 |.ref a,u=>u=Value.ref a
 |.ty n,u=>u=Value.type n
abbrev Vals:List V->List Value->Prop:=Paired RelV
theorem Vals.length{xs:List V}{a:List Value}(r:Vals xs a):xs.length=a.length:=Paired.length r
theorem Vals.get:∀{xs:List V} {a:List Value} {i:Nat} {x:V},Vals xs a->xs[i]?=some x->∃u,a[i]?=some u/\RelV x u
 |_,_,_,_,.nil,e=>by simp at e
 |_,_,0,_,.cons r _,e=>by simp at e;subst e;exact⟨_,rfl,r⟩
 |_,_,i+1,x,.cons _ t,e=>by
  obtain⟨u,h1,h2⟩:=Vals.get (i:=i) (x:=x) t (by simpa using e);exact⟨u,by simpa using h1,h2⟩
theorem Vals.set{x:V}{u:Value}(r:RelV x u):∀{xs:List V} {a:List Value} (i:Nat),Vals xs a->Vals (xs.set i x) (a.set i u)
 |_,_,_,.nil=>.nil
 |_,_,0,.cons _ t=>.cons r t
 |_,_,i+1,.cons q t=>.cons q (Vals.set r i t)
theorem Vals.append:∀{xs ys:List V} {a ws:List Value},Vals xs a->Vals ys ws->Vals (xs++ys) (a++ws)
 |_,_,_,_,.nil,s=>s
 |_,_,_,_,.cons r t,s=>.cons r (Vals.append t s)
theorem Vals.take:∀{xs:List V} {a:List Value} (n:Nat),Vals xs a->Vals (xs.take n) (a.take n)
 |_,_,0,_=>.nil
 |_,_,_+1,.nil=>.nil
 |_,_,n+1,.cons r t=>.cons r (Vals.take n t)
theorem Vals.drop:∀{xs:List V} {a:List Value} (n:Nat),Vals xs a->Vals (xs.drop n) (a.drop n)
 |_,_,0,r=>r
 |_,_,_+1,.nil=>.nil
 |_,_,n+1,.cons _ t=>Vals.drop n t
def jS:Option V->Option Value->Prop
 |some v,some u=>RelV v u
 |none,none=>True
 |_,_=>False
def KV{κ:Type}:List (κ×V)->List (κ×Value)->Prop:=Paired λ(p:κ×V) (q:κ×Value)=>p.1=q.1/\RelV p.2 q.2
def kV:Key->V
 |.inl i=>.int i
 |.inr x=>.str x
def mG(h:Heap)(a:Addr)(items:Array Value):Prop:=∃n,h.get? a=some {cls:=.type "tuple",data:=.seq items n}
theorem mG.is{h:Heap}{a:Addr}{items:Array Value}(x:mG h a items):IsTup h a items:=let ⟨n,e⟩:=x;⟨_,e,rfl,n,rfl⟩
theorem mG.new(h:Heap)(items:Array Value):mG (h.push {cls:=.type "tuple",data:=.seq items}) h.objs.size items:=⟨0,b9 _ rfl⟩
inductive HO where
 |lst (xs:List V)
 |tup (xs:List V)
 |dK (kvs:List (Key×V))|dT (kvs:List (List Key×V))
 |set (S:Int->Bool) (n:Nat)
 |ins (C dx:Addr) (fs:List (Str×V))
 |own (x:Addr)
 |xd (fs:List (Str×V))
 |met (f x:Addr)
 |fT (lo hi:Int)
 |bT (o:Obj) (u:HO)
 |jf (ps:Array Value)
 |ext (φ:Heap->Prop)
abbrev Hp:=Addr->Option HO
def upd(H:Hp)(a:Addr)(o:HO):Hp:=λb=>if b=a then some o else H b
theorem fC{H:Hp}{a:Addr}{o:HO}:upd H a o a=some o:=by unfold upd;rw[aA rfl]
theorem bf{H:Hp}{a b:Addr}{o:HO}(h:b≠a):upd H a o b=H b:=by unfold upd;rw[ao h]
theorem S_{H:Hp}{a b:Addr}{o u:HO}(h:H a=some o)(h':H b=some u)(d:o≠u):a≠b:=by
 intro e;subst e;rw[h] at h';exact d (Option.some.inj h')
theorem dw{H:Hp}{a b:Addr}{o:HO}(h:H a=some o)(h':H b=none):a≠b:=by
 intro e;subst e;rw[h] at h';cases h'
section
variable(P:Program)(w:World)
def b_(H:Hp)(h:Heap)(a:Addr):HO->Prop
 | .lst xs=>xs.length<=sizeLine/\∃(its:List Value) (n:Nat),Vals xs its/\h.get? a=some {cls:= .type "list",data:= .seq its.toArray n}
 | .tup xs=>xs.length<=sizeLine/\∃its:List Value,Vals xs its/\mG h a its.toArray
 | .dK kvs=>kvs.length<=sizeLine/\(a==sysModules)=false/\∃vs,KV kvs vs/\h.DictOf (dj P w) a vs
 | .dT kvs=>kvs.length<=sizeLine/\(a==sysModules)=false/\∃xs:List (List Key×Addr×Value),
  Paired (λ(p:List Key×V) (q:List Key×Addr×Value)=>p.1=q.1/\H q.2.1=some (.tup (p.1.map kV))/\RelV p.2 q.2.2) kvs xs/\
  ∃o es ep,h.get? a=some o/\o.ExactDict/\o.data= .dict es ep/\es.toList=xs.map (entryOfKey (tupleKind (dj P w)))/\(xs.map (·.1)).Nodup
 | .set S n=>h.SetOf (intKind P w) a S n
 | .ins C dx fs=>H dx=some (.own a)/\fs.length<=1000/\dx≠a/\h.get? a=some (instObj C dx)/\
  ∃mA,h.Ns1 dx mA/\(∀f,jS (fs.lookup f) (mA f))/\PySem.Within mA (fs.map (·.1))
 | .own _=>∃o,h.get? a=some o
 | .xd fs=>∃mA,h.Ns1 a mA/\∀f,jS (fs.lookup f) (mA f)
 | .fT lo hi=>∃t u v,h.get? a=some {cls:= .type "range",data:= .fields #[.int lo t,.int hi u,.int 1 v]}
 | .bT o u=>h.get? a=some o/\b_ H h a u
 | .jf ps=>h.get? a=some {cls:= .none,data:= .fields ps}
 | .met f x=>h.get? a=some (methodObj (.ref f) (.ref x))
 | .ext φ=>φ h/\(∃o,h.get? a=some o)/\∀h1 h2:Heap,φ h1->(∀o,h1.get? a=some o->h2.get? a=some o)->φ h2
def cV(H:Hp)(h:Heap):Prop:=∀a o,H a=some o->b_ P w H h a o
end
section
variable{P:Program}{w:World}{H H':Hp}{h h':Heap}{a:Addr}{o:HO}
theorem b_.lt(x:b_ P w H h a o):a<h.objs.size:=by
 cases o with
 |lst xs=>obtain⟨_,_,_,_,e⟩:=x;exact aR e
 |tup xs=>obtain⟨_,_,_,p⟩:=x;exact p.is.lt
 |dK kvs=>obtain⟨_,_,_,_,o,_,_,e,_⟩:=x;exact aR e
 |dT kvs=>obtain⟨_,_,_,_,o,_,_,e,_⟩:=x;exact aR e
 |set S n=>obtain⟨o,_,_,_,e,_⟩:=x;exact aR e
 |ins C dx fs=>obtain⟨_,_,_,e,_⟩:=x;exact aR e
 |own y=>obtain⟨_,e⟩:=x;exact aR e
 |xd fs=>obtain⟨_,⟨_,_,_,e,_⟩,_⟩:=x;exact aR e
 |fT lo hi=>obtain⟨_,_,_,e⟩:=x;exact aR e
 |bT b u=>obtain⟨e,_⟩:=x;exact aR e
 |jf ps=>exact aR (show h.get? a=some _ from x)
 |met f y=>exact aR (show h.get? a=some _ from x)
 |ext c=>obtain⟨_,⟨_,e⟩,_⟩:=x;exact aR e
theorem Paired.kO{α β:Type}{F G:α->β->Prop}:∀{c:List α} {d:List β},Paired F c d->(∀a b,F a b->G a b)->Paired G c d
 |_,_,.nil,_=>.nil
 |_,_,.cons r t,f=>.cons (f _ _ r) (Paired.kO t f)
theorem b_.stay(x:b_ P w H h a o)(k:∀b u,(b=a\/H b=some (.own a))->h.get? b=some u->h'.get? b=some u)
  (l:∀b,H b=some (.own a)->H' b=some (.own a))(m:∀b xs,H b=some (.tup xs)->H' b=some (.tup xs)):b_ P w H' h' a o:=by
 induction o with
 |lst xs=>obtain⟨z,its,n,r,e⟩:=x;exact⟨z,its,n,r,k _ _ (.inl rfl) e⟩
 |tup xs=>obtain⟨z,its,r,n,e⟩:=x;exact⟨z,its,r,n,k _ _ (.inl rfl) e⟩
 |dK kvs=>obtain⟨z,y,vs,r,g,es,ep,e,c⟩:=x;exact⟨z,y,vs,r,g,es,ep,k _ _ (.inl rfl) e,c⟩
 |dT kvs=>
  obtain⟨z,y,xs,r,g,es,ep,e,c⟩:=x;exact⟨z,y,xs,Paired.kO r λp q z=>⟨z.1,m _ _ z.2.1,z.2.2⟩,g,es,ep,k _ _ (.inl rfl) e,c⟩
 |set S n=>obtain⟨g,es,ep,t,e,c⟩:=x;exact⟨g,es,ep,t,k _ _ (.inl rfl) e,c⟩
 |ins C dx fs=>
  obtain⟨d,z,ne,e,i,⟨j,es,ep,s,c⟩,r⟩:=x;exact⟨l _ d,z,ne,k _ _ (.inl rfl) e,i,⟨j,es,ep,k _ _ (.inr d) s,c⟩,r⟩
 |own y=>obtain⟨g,e⟩:=x;exact⟨g,k _ _ (.inl rfl) e⟩
 |xd fs=>obtain⟨i,⟨j,es,ep,e,c⟩,r⟩:=x;exact⟨i,⟨j,es,ep,k _ _ (.inl rfl) e,c⟩,r⟩
 |fT lo hi=>obtain⟨t,u,v,e⟩:=x;exact⟨t,u,v,k _ _ (.inl rfl) e⟩
 |bT g u A=>obtain⟨e,q⟩:=x;exact⟨k _ _ (.inl rfl) e,A q⟩
 |jf ps=>
  have e:h.get? a=some {cls:=.none,data:=.fields ps}:=x;show h'.get? a=some {cls:=.none,data:=.fields ps};exact k a _ (.inl rfl) e
 |met f y=>
  have e:h.get? a=some (methodObj (.ref f) (.ref y)):=x;show h'.get? a=some (methodObj (.ref f) (.ref y));exact k a _ (.inl rfl) e
 |ext B=>obtain⟨p,⟨o,e⟩,st⟩:=x;exact⟨st _ _ p λo q=>k _ _ (.inl rfl) q,⟨o,k _ _ (.inl rfl) e⟩,st⟩
theorem cV.lt(x:cV P w H h)(e:H a=some o):a<h.objs.size:=(x a o e).lt
theorem cV.fresh(x:cV P w H h)(e:h.objs.size<=a):H a=none:=by
 cases q:H a with
 |none=>rfl
 |some u=>exact absurd (cP (x.lt q) e) (gw _)
theorem cV.kept(x:cV P w H h)(k:∀b u,h.get? b=some u->h'.get? b=some u):cV P w H h':=λa o e=>
 (x a o e).stay (λb u _ q=>k b u q) (λ_ q=>q) λ_ _ q=>q
theorem cV.laid(x:cV P w H h)(k:∀b u,h.get? b=some u->h'.get? b=some u)(g:h.objs.size<=a)(new:b_ P w (upd H a o) h' a o):cV P w (upd H a o) h':=λb u e=>by
 have d:=x.fresh g;by_cases f:b=a
 .subst f;rw[fC] at e;cases e;exact new
 .rw[bf f] at e
  exact(x b u e).stay (λc v _ q=>k c v q) (λc q=>by rw[bf (dw q d)];exact q) λc xs q=>by rw[bf (dw q d)];exact q
end
def Rd(H:Hp)(a:Addr)(u:HO):Prop:=H a=some u\/∃o,H a=some (.bT o u)
theorem Rd.ok{P:Program}{w:World}{H:Hp}{h:Heap}{a:Addr}{u:HO}(r:Rd H a u)(x:cV P w H h):b_ P w H h a u:=by
 rcases r with r|⟨o,r⟩
 .exact x a u r
 .obtain⟨_,q⟩:=x a _ r
  exact q
def rm:Option HO->Prop
 |some (.lst _)=>True
 |some (.dK _)=>True
 |some (.dT _)=>True
 |some (.set _ _)=>True
 |some (.ins _ _ _)=>True
 |some (.ext _)=>True
 |_=>False
section
variable{P:Program}{w:World}{H:Hp}{h h':Heap}{x e:Addr}{o':HO}
theorem cV.write(ok:cV P w H h)(g:rm (H x))(l:e=x\/H e=some (.own x))(k:∀b u,b≠e->h.get? b=some u->h'.get? b=some u)(j:∃u,h'.get? e=some u)
  (new:b_ P w (upd H x o') h' x o'):cV P w (upd H x o') h':=λb u q=>by
 have d:∀c y,H c=some (.own y)->c≠x:=λc y r z=>by subst z;rw[r] at g;exact g
 have f:∀c xs,H c=some (.tup xs)->c≠x:=λc xs r z=>by subst z;rw[r] at g;exact g
 by_cases i:b=x
 .subst i;rw[fC] at q;cases q;exact new
 .rw[bf i] at q
  by_cases a:b=e
  .have m:H b=some (.own x):=by
    rcases l with z|z
    .exact absurd (a.trans z) i
    .rw[a];exact z
   rw[q] at m;cases m;obtain⟨v,n⟩:=j;exact⟨v,by rw[a];exact n⟩
  .refine(ok b u q).stay (λc v hc r=>k c v ?_ r) (λc r=>by rw[bf (d c b r)];exact r) λc xs r=>by rw[bf (f c xs r)];exact r
   rcases hc with rfl|hc
   .exact a
   .rintro rfl
    rcases l with z|z
    .exact d c b hc z
    .rw[hc] at z;cases z;exact i rfl
end
structure Un(fs ex:List Addr)(H H':Hp)(h h':Heap):Prop where
 keep:∀b o,h.get? b=some o->H b=none->b∉fs->b∉ex->h'.get? b=some o
 slot:∀b o,h.get? b=some o->H b=none->b∈fs->b∉ex->∃sl,h'.get? b=some {o with slots:=sl}
 free:∀b o,h.get? b=some o->H b=none->b∉ex->H' b=none
 there:∀b o,h.get? b=some o->b∉ex->∃o',h'.get? b=some o'
 tups:∀b xs,H b=some (.tup xs)->H' b=some (.tup xs)
 gV:∀b o u,H b=some (.bT o u)->H' b=some (.bT o u)
 iN:∀b ps,H b=some (.jf ps)->∃more,H' b=some (.jf (ps++more))
section
variable{fs fs' ex ex':List Addr}{H H1 H2:Hp}{h h1 h2 h':Heap}{a x e:Addr}{o:HO}
theorem Un.any(u:Un fs ex H H1 h h1){b:Addr}{a:Obj}(q:h.get? b=some a)(n:H b=none)(c:b∉ex):∃e,h1.get? b=some {a with slots:=e}:=by
 by_cases d:b∈fs
 .exact u.slot b a q n d c
 .exact⟨a.slots,u.keep b a q n d c⟩
theorem Un.kept(k:∀b u,h.get? b=some u->h'.get? b=some u):Un fs ex H H h h':=
 ⟨λb a q _ _ _=>k b a q,λb a q _ _ _=>⟨a.slots,k b a q⟩,λ_ _ _ n _=>n,λb a q _=>⟨a,k b a q⟩,λ_ _ q=>q,λ_ _ _ q=>q,λ_ ps q=>⟨#[],by rw[q];simp⟩⟩
theorem Un.refl:Un fs ex H H h h:=Un.kept λ_ _ q=>q
theorem Un.laid(k:∀b u,h.get? b=some u->h'.get? b=some u)(d:h.objs.size<=a)(c:H a=none):Un fs ex H (upd H a o) h h' where
 keep:=λb u q _ _ _=>k b u q
 slot:=λb u q _ _ _=>⟨u.slots,k b u q⟩
 free:=λb u q n _=>by rw[bf (bx (cP (aR q) d))];exact n
 there:=λb u q _=>⟨u,k b u q⟩
 tups:=λb xs q=>by rw[bf (dw q c)];exact q
 gV:=λb u xs q=>by rw[bf (dw q c)];exact q
 iN:=λb ps q=>⟨#[],by rw[bf (dw q c),q];simp⟩
theorem Un.write(c:rm (H x))(j:e=x\/H e=some (.own x))(k:∀b u,b≠e->h.get? b=some u->h'.get? b=some u)(d:∃u,h'.get? e=some u):Un fs ex H (upd H x o) h h':=by
 have g:∀b,H b=none->b≠x:=λb n z=>by subst z;rw[n] at c;exact c
 have i:∀b,H b=none->b≠e:=λb n z=>by
  subst z;rcases j with r|r
  .exact g b n r
  .rw[n] at r;cases r
 have f:∀b u,H b=some u->¬rm (some u)->b≠x:=λb u q nm z=>by subst z;rw[q] at c;exact nm c
 refine⟨λb u q n _ _=>k b u (i b n) q,λb u q n _ _=>⟨u.slots,k b u (i b n) q⟩,λb u q n _=>by rw[bf (g b n)];exact n,λb u q _=>?_,
  λb xs q=>by rw[bf (f b _ q λz=>z)];exact q,λb u xs q=>by rw[bf (f b _ q λz=>z)];exact q,λb ps q=>⟨#[],by rw[bf (f b _ q λz=>z),q];simp⟩⟩
 by_cases a:b=e
 .subst a;exact d
 .exact⟨u,k b u a q⟩
end
def xX(h:Heap)(H:Hp):List Addr:=(range h.objs.size).filter λa=>(H a).isSome
def lK(h:Heap)(H:Hp):Heap:=hideAll h (xX h H)
theorem QK(h:Heap)(H:Hp):(lK h H).objs.size=h.objs.size:=PySem.W.hideAll_size _ _
theorem QJ{h:Heap}{H:Hp}{b:Addr}{o:Obj}(e:h.get? b=some o)(n:H b=none):(lK h H).get? b=some o:=
 hideAll_get _ e λa=>by
  have q:(H b).isSome=true:=(lY.mp a).2;rw[n] at q;simp at q
theorem TV{h:Heap}{H:Hp}{b:Addr}{o:Obj}(e:(lK h H).get? b=some o):h.get? b=some o/\H b=none:=by
 have a:h.get? b=some o:=of_hideAll (xX h H) e;refine⟨a,?_⟩;cases q:H b with
 |none=>rfl
 |some x=>
  have c:b∈xX h H:=lY.mpr ⟨mem_range.mpr (aR a),by simp[q]⟩;have z:(lK h H).get? b=none:=PySem.W.hideAll_none (xX h H) c;rw[z] at e;cases e
structure Mod(K:Frag)(mg:aC)(base:Heap):Prop where
 vO:K.In base
 glob:base.Ns mainGlobals mg
 blt:∃mb,base.Ns builtinsNs mb/\∀x:Str,x≠"__name__"->mb x=bootBuiltins x
 nolimit:base.NoLimit
structure Cx where
 prog:Program
 w:World
 K:Frag
 mg:aC
 base:Heap
 A:Around
 N:List Str
 s₀:Shared
 H₀:Hp
 env:Env
 outer:List Env
 stack:List Env
 ex:List Addr
 fn:Str->Bool
 calm:Bool
 pn:aZ
 xe:aT
def frs(l:List Env):List Addr:=l.filterMap (·.frame)
abbrev Cx.fs(X:Cx):List Addr:=frs X.outer
def pC(sc:Scope)(x:Str):Prop:=sc.names.lookup x=some .local\/sc.names.lookup x=some .cell\/sc.names.lookup x=some .free
def Loc(sc:Scope)(x:Str):Prop:=sc.names.lookup x=some .local\/sc.names.lookup x=some .cell
def Look(env:Env)(h:Heap)(m:aC)(x:Str)(u:Value):Prop:=
 (env.kindOf x=some .local/\m x=some u)\/((env.kindOf x=some .cell\/env.kindOf x=some .free)/\∃c,env.cells.lookup x=some c/\h.IsCell c (some u))
structure Cx.Ok(X:Cx):Prop where
 mod:Mod X.K X.mg X.base
 kind:X.env.scope.kind= .function
 glob:X.env.globals=mainGlobals
 blt:X.env.builtins=builtinsNs
 above:X.s₀.heap.objs.size<=X.env.locals
 inj:∀x y c,X.env.cells.lookup x=some c->X.env.cells.lookup y=some c->x=y
 has:∀x,(X.env.kindOf x=some .cell\/X.env.kindOf x=some .free)->∃c,X.env.cells.lookup x=some c
 uY:∀x c,X.fn x=true->X.env.cells.lookup x=some c->X.s₀.heap.objs.size<=c
 hd:X.calm=true->X.A.handled=none
 frames:X.A.frames=some X.stack
 stk:X.stack=X.outer\/(X.stack=X.env::X.outer/\X.env.frame=some X.env.locals)
 Ot:∀b∈X.ex,b≠X.env.locals/\∀x c,X.env.cells.lookup x=some c->c≠b
 bs:∀b o,X.base.get? b=some o->X.s₀.heap.get? b=some o/\X.H₀ b=none
 nO:X.base.objs.size<=X.s₀.heap.objs.size
 wg:∀b o,X.base.get? b=some o->b∉X.ex
 Aa:∀b∈X.ex,b∉X.fs
 kJ:X.s₀.heap.FunFrames X.base X.outer
 pQ:∀b∈X.fs,X.H₀ b=none
structure Inv(X:Cx)(pins:aZ)(σ:List (Option V))(H:Hp)(s:Shared):Prop where
 ok:X.Ok
 os:s.os=X.s₀.os
 bare:AllBare s.gens
 base:Un X.fs X.ex X.H₀ H X.s₀.heap s.heap
 loc:∃m,s.heap.Ns X.env.locals m/\∀(i:Nat) (x:Str) (v:V),X.N[i]? =some x->σ[i]? =some (some v)->pC X.env.scope x->∃u,RelV v u/\Look X.env s.heap m x u
 cell:∀x c,X.env.cells.lookup x=some c->∃v,s.heap.IsCell c v
 free:H X.env.locals=none
 kI:∀x c,X.env.cells.lookup x=some c->H c=none
 pin:∀p∈X.pn++pins,s.heap.get? p.1=some p.2/\H p.1=none/\p.1≠X.env.locals/\p.1∉X.fs/\∀v,p.2.data≠ .cell v
 hok:cV X.prog X.w H s.heap
 len:σ.length=X.N.length
section
variable{X:Cx}{pins:aZ}{σ:List (Option V)}{H H':Hp}{s:Shared}{h':Heap}
theorem Cx.Ok.wh(ok:X.Ok){b:Addr}{o:Obj}(e:X.base.get? b=some o):b∉X.fs:=λa=>by
 have:=(ok.kJ.mem a).1;rw[e] at this;cases this
theorem Inv.bs(I:Inv X pins σ H s):∀b o,X.base.get? b=some o->s.heap.get? b=some o/\H b=none:=λb o e=>
 ⟨I.base.keep b o (I.ok.bs b o e).1 (I.ok.bs b o e).2 (I.ok.wh e) (I.ok.wg b o e),I.base.free b o (I.ok.bs b o e).1 (I.ok.bs b o e).2 (I.ok.wg b o e)⟩
theorem Inv.bk(I:Inv X pins σ H s):∀b o,X.base.get? b=some o->s.heap.get? b=some o:=λb o e=>(I.bs b o e).1
theorem Inv.mod(I:Inv X pins σ H s):Mod X.K X.mg X.base:=I.ok.mod
theorem Inv.f_(I:Inv X pins σ H s):X.K.In s.heap:=I.ok.mod.vO.keeps I.bk
theorem Inv.lt(I:Inv X pins σ H s):X.env.locals<s.heap.objs.size:=let ⟨_,a,_⟩:=I.loc;a.lt
theorem Inv.sz(I:Inv X pins σ H s):X.s₀.heap.objs.size<=s.heap.objs.size:=cG I.ok.above (iB I.lt)
theorem Inv.Tt(I:Inv X pins σ H s){a:Addr}(h:s.heap.objs.size<=a):a∉X.fs:=λb=>by
 obtain⟨_,o,c,_⟩:=I.ok.kJ.mem b;exact absurd (cP (aR c) (cG I.sz h)) (gw _)
theorem Inv.nP(I:Inv X pins σ H s):∀x c,X.env.cells.lookup x=some c->c≠X.env.locals:=λx c e z=>by
 obtain⟨v,o,d,hd⟩:=I.cell x c e;obtain⟨m,⟨o',es,ep,a,b,_⟩,_⟩:=I.loc;rw[z,a] at d;cases d;rw[b] at hd;cases hd
theorem Inv.kJ(I:Inv X pins σ H s):s.heap.FunFrames X.base X.outer:=by
 have all:∀(l:List Env),(∀b∈frs l,b∈X.fs)->X.s₀.heap.FunFrames X.base l->s.heap.FunFrames X.base l:=by
  intro l;induction l with
  |nil=>intro _ _;trivial
  |cons env r g=>
   intro f h;obtain⟨i,⟨L,o,a,j,k,hd⟩,m⟩:=h;have c:L∈X.fs:=f L (by unfold frs;rw[CC,a];exact aU);obtain⟨n,e⟩:=I.base.slot L o k (I.ok.pQ L c) c λz=>I.ok.Aa L z c;exact⟨i,⟨L,_,a,j,e,hd⟩,g (λb d=>f b (by unfold frs;rw[CC,a];exact bq _ d)) m⟩
 exact all X.outer (λ_ d=>d) I.ok.kJ
theorem Inv.stack(I:Inv X pins σ H s):s.heap.FunFrames X.base X.stack:=by
 rcases I.ok.stk with e|⟨e,a⟩
 .rw[e];exact I.kJ
 .rw[e]
  obtain⟨m,b,_⟩:=I.loc;refine .cons (by rw[I.ok.kind];decide) a b ?_ I.kJ;exact Heap.get?_none_of_le (cG I.ok.nO I.ok.above)
theorem Inv.qi(I:Inv X pins σ H s):∀b∈frs X.stack,b∈X.env.locals::X.fs:=λb a=>by
 rcases I.ok.stk with e|⟨e,c⟩
 .rw[e] at a;exact bq _ a
 .rw[e] at a
  unfold frs at a;rw[CC,c] at a;exact a
theorem Inv.BR(I:Inv X pins σ H s):∀b∈frs X.stack,H b=none:=λb hb=>by
 rcases aY.mp (I.qi b hb) with e|hb
 .rw[e];exact I.free
 .obtain⟨_,o,a,_⟩:=I.ok.kJ.mem hb
  exact I.base.free b o a (I.ok.pQ b hb) λz=>I.ok.Aa b z hb
theorem Inv.step{g':Array GenState}{t':Nat}{d':Drawn}{ch:List Addr}(I:Inv X pins σ H s)
  (f:∀b∈ch,(b∈X.ex\/X.s₀.heap.objs.size<=b)/\b≠X.env.locals/\(∀x c,X.env.cells.lookup x=some c->c≠b)/\∀p∈X.pn++pins,p.1≠b)
  (keep:∀b o,b≠X.env.locals->b∉X.fs->b∉ch->s.heap.get? b=some o->H b=none->h'.get? b=some o)
  (slot:∀b o,b≠X.env.locals->b∈X.fs->b∉ch->s.heap.get? b=some o->H b=none->∃D,h'.get? b=some {o with slots:=D})(free:∀b o,b∉ch->s.heap.get? b=some o->H b=none->H' b=none)
  (there:∀b o,b∉ch->s.heap.get? b=some o->∃o',h'.get? b=some o')
  (tups:∀b xs,H b=some (.tup xs)->H' b=some (.tup xs))(gV:∀b o u,H b=some (.bT o u)->H' b=some (.bT o u))(iN:∀b ps,H b=some (.jf ps)->∃A,H' b=some (.jf (ps++A)))
  (ns:∀m,s.heap.Ns X.env.locals m->h'.Ns X.env.locals m)(hok:cV X.prog X.w H' h')(J:AllBare g'):
  Inv X pins σ H' {s with heap:=h',gens:=g',drawn:=d',toks:=t'}:=by
 have B:∀b o,X.s₀.heap.get? b=some o->b≠X.env.locals:=λb o e=>bx (cP (aR e) I.ok.above)
 have h:∀b o,X.s₀.heap.get? b=some o->b∉X.ex->b∉ch:=λb o e a t=>by
  rcases (f b t).1 with z|z
  .exact a z
  .exact absurd (cP (aR e) z) (gw _)
 have cellK:∀x c,X.env.cells.lookup x=some c->∀v,s.heap.IsCell c v->h'.IsCell c v:=λx c e v ⟨o,y,hd⟩=>by
  have g:c∉ch:=λz=>(f c z).2.2.1 x c e rfl
  by_cases hc:c∈X.fs
  .obtain⟨D,q⟩:=slot c o (I.nP x c e) hc g y (I.kI x c e)
   exact⟨_,q,hd⟩
  .exact⟨o,keep c o (I.nP x c e) hc g y (I.kI x c e),hd⟩
 refine⟨I.ok,I.os,J,⟨λb o e n t a=> ?_,λb o e n t a=> ?_,λb o e n a=> ?_,λb o e a=> ?_,λb xs e=>tups b xs (I.base.tups b xs e),λb o xs e=>gV b o xs (I.base.gV b o xs e),λb ps e=> ?_⟩,?_,λx c e=> ?_,?_,λx c e=> ?_,λp F=> ?_,hok,I.len⟩
 .exact keep b o (B b o e) t (h b o e a) (I.base.keep b o e n t a) (I.base.free b o e n a)
 .obtain⟨D,j⟩:=I.base.slot b o e n t a
  obtain⟨E,C⟩:=slot b _ (B b o e) t (h b o e a) j (I.base.free b o e n a)
  exact⟨E,C⟩
 .obtain⟨o',j⟩:=I.base.there b o e a
  exact free b o' (h b o e a) j (I.base.free b o e n a)
 .obtain⟨o',j⟩:=I.base.there b o e a
  exact there b o' (h b o e a) j
 .obtain⟨K,j⟩:=I.base.iN b ps e
  obtain⟨L,C⟩:=iN b _ j
  exact⟨K++L,by rw[C,Array.append_assoc]⟩
 .obtain⟨m,M,N⟩:=I.loc
  refine⟨m,ns m M,λi x v j C O=> ?_⟩
  obtain⟨u,r,l⟩:=N i x v j C O
  refine⟨u,r,?_⟩
  rcases l with l|⟨k,c,e,z⟩
  .exact .inl l
  .exact .inr ⟨k,c,e,cellK x c e _ z⟩
 .obtain⟨v,z⟩:=I.cell x c e
  exact⟨v,cellK x c e v z⟩
 .obtain⟨m,⟨o,_,_,y,_⟩,_⟩:=I.loc
  exact free _ o (λz=>(f _ z).2.1 rfl) y I.free
 .obtain⟨v,o,y,hd⟩:=I.cell x c e
  exact free c o (λz=>(f c z).2.2.1 x c e rfl) y (I.kI x c e)
 .obtain⟨e,n,ne,G,d⟩:=I.pin p F
  have g:p.1∉ch:=λz=>(f p.1 z).2.2.2 p F rfl
  exact⟨keep p.1 p.2 ne G g e n,free p.1 p.2 g e n,ne,G,d⟩
theorem Inv.un{t':Nat}(I:Inv X pins σ H s)(u:Un X.fs [] H H' s.heap h')(hok:cV X.prog X.w H' h'):Inv X pins σ H' {s with heap:=h',toks:=t'}:=by
 obtain⟨m,⟨o,es,ep,g,r⟩,_⟩:=id I.loc;obtain⟨j,h⟩:=u.any g I.free (by simp);exact I.step (g':=s.gens) (d':=s.drawn) (ch:=[]) (λ_ z=>nomatch z) (λb o _ c _ e n=>u.keep b o e n c (by simp)) (λb o _ c _ e n=>u.slot b o e n c (by simp)) (λb o _ e n=>u.free b o e n (by simp)) (λb o _ e=>u.there b o e (by simp)) u.tups u.gV u.iN (λk i=>by
  obtain⟨o',d,f,a,r'⟩:=i;rw[g] at a;cases a;exact⟨_,d,f,h,r'⟩) hok I.bare
theorem Inv.call{g':Array GenState}{t':Nat}{d':Drawn}{ch:List Addr}(I:Inv X pins σ H s)(u:Un (frs X.stack) ch H H' s.heap h')(hok:cV X.prog X.w H' h')(j:AllBare g')
  (a:∀b∈ch,(b∈X.ex\/X.s₀.heap.objs.size<=b)/\b≠X.env.locals/\(∀x c,X.env.cells.lookup x=some c->c≠b)/\∀p∈X.pn++pins,p.1≠b):
  Inv X pins σ H' {s with heap:=h',gens:=g',drawn:=d',toks:=t'}:=by
 obtain⟨m,⟨o,es,ep,i,r⟩,_⟩:=id I.loc;obtain⟨q,f⟩:=u.any i I.free λz=>(a _ z).2.1 rfl;exact I.step (ch:=ch) a (λb o f k hc e n=>u.keep b o e n (λz=>(aY.mp (I.qi b z)).elim f k) hc) (λb o _ _ hc e n=>u.any e n hc) (λb o hc e n=>u.free b o e n hc) (λb o hc e=>u.there b o e hc) u.tups u.gV u.iN (λt l=>by
  obtain⟨o',g,h,d,r'⟩:=l;rw[i] at d;cases d;exact⟨_,g,h,f,r'⟩) hok j
theorem Inv.turned{t':Nat}{it:Addr}(I:Inv X pins σ H s)(k:∀b o,b≠it->s.heap.get? b=some o->h'.get? b=some o)(f:H it=none)(d:it≠X.env.locals)
  (h1:it∈X.ex\/X.s₀.heap.objs.size<=it)(h2:∀x c,X.env.cells.lookup x=some c->c≠it)(g:∀p∈X.pn++pins,p.1≠it):Inv X pins σ H {s with heap:=h',toks:=t'}:=by
 have a:∀b u,H b=some u->b≠it:=λb u e z=>by rw[z,f] at e;cases e
 refine I.step (g':=s.gens) (d':=s.drawn) (ch:=[it]) (λb h=>?_) (λb o _ _ hc e _=>k b o (λz=>hc (by simp[z])) e) (λb o _ _ hc e _=>⟨o.slots,k b o (λz=>hc (by simp[z])) e⟩) (λ_ _ _ _ n=>n)
  (λb o hc e=>⟨o,k b o (λz=>hc (by simp[z])) e⟩) (λ_ _ e=>e) (λ_ _ _ e=>e) (λb ps e=>⟨#[],by rw[e];simp⟩) (λm i=>?_) (λb u e=>?_) I.bare
 .have e:b=it:=by simpa using h
  subst e;exact⟨h1,d,h2,g⟩
 .obtain⟨o,es,ep,j,r⟩:=i
  exact⟨o,es,ep,k _ o (Ne.symm d) j,r⟩
 .refine(I.hok b u e).stay (λc v hc q=>k c v ?_ q) (λ_ q=>q) λ_ _ q=>q
  rcases hc with z|z
  .rw[z];exact a b u e
  .exact a c _ z
theorem Inv.tok(I:Inv X pins σ H s)(t:Nat):Inv X pins σ H {s with toks:=t}:=I.un (h':=s.heap) (t':=t) Un.refl I.hok
theorem Inv.kept{t':Nat}(I:Inv X pins σ H s)(k:∀b u,s.heap.get? b=some u->h'.get? b=some u):Inv X pins σ H {s with heap:=h',toks:=t'}:=I.un (Un.kept k) (I.hok.kept k)
theorem Inv.laid{a:Addr}{o:HO}{t':Nat}(I:Inv X pins σ H s)(k:∀b u,s.heap.get? b=some u->h'.get? b=some u)(c:s.heap.objs.size<=a)(new:b_ X.prog X.w (upd H a o) h' a o):
 Inv X pins σ (upd H a o) {s with heap:=h',toks:=t'}:=I.un (Un.laid k c (I.hok.fresh c)) (I.hok.laid k c new)
theorem Inv.write{x e:Addr}{o:HO}{t':Nat}(I:Inv X pins σ H s)(c:rm (H x))(d:e=x\/H e=some (.own x))(k:∀b u,b≠e->s.heap.get? b=some u->h'.get? b=some u)(a:∃u,h'.get? e=some u)
 (new:b_ X.prog X.w (upd H x o) h' x o):Inv X pins σ (upd H x o) {s with heap:=h',toks:=t'}:=I.un (Un.write c d k a) (I.hok.write c d k a new)
theorem Inv.weak{σ':List (Option V)}(I:Inv X pins σ H s)(b:σ'.length=σ.length)(w:∀(i:Nat) v,σ'[i]?=some (some v)->σ[i]?=some (some v)):Inv X pins σ' H s:=
 ⟨I.ok,I.os,I.bare,I.base,let ⟨m,c,a⟩:=I.loc;⟨m,c,λi x v d e f=>a i x v d (w i v e) f⟩,I.cell,I.free,I.kI,I.pin,I.hok,b.trans I.len⟩
theorem Inv.Ie{a:aZ}(I:Inv X pins σ H s)(h:∀p∈a,s.heap.get? p.1=some p.2/\H p.1=none/\p.1≠X.env.locals/\p.1∉X.fs/\∀v,p.2.data≠ .cell v):Inv X a σ H s:=
 ⟨I.ok,I.os,I.bare,I.base,I.loc,I.cell,I.free,I.kI,λp b=>(bU.mp b).elim (λz=>I.pin p (oK _ z)) (h p),I.hok,I.len⟩
theorem HM{N:List Str}(c:N.Nodup){i j:Nat}{x:Str}(a:N[i]?=some x)(b:N[j]?=some x):i=j:=by
 obtain⟨h1,d⟩:=bY.mp a;obtain⟨h2,e⟩:=bY.mp b;exact(List.getElem_inj c).mp (d.trans e.symm)
theorem KC {M : Model} {A : Around} {E : aT} {i : Nat} {x : Str} {v : V} {u : Value} {Q : Unit → Shared → Prop} (I : Inv X pins σ H s) (hN : X.N.Nodup) (hi : X.N[i]? = some x) (l : Loc X.env.scope x) (r : RelV v u)
    (h : ∀ s', Inv X pins (σ.set i (some v)) H s' → (∃ a, SameBut a s.heap s'.heap ∧ (a = X.env.locals ∨ X.env.cells.lookup x = some a)) → Q () s') (hf : X.fn x = true ∨ X.env.scope.names.lookup x = some .local := by first | exact .inl rfl | exact .inr rfl | assumption) : wpAny M A (storeName X.env x u) Q E s := by
  obtain ⟨m, S, hl⟩ := id I.loc
  have J : (X.env.scope.kind == .class || (X.env.scope.kind == .module && X.env.locals != X.env.globals)) = false := by rw [I.ok.kind]; rfl
  have C : i < σ.length := by rw [I.len]; exact (bY.mp hi).1
  have nP := I.nP
  have tracked : ∀ {a : Addr} {h' : Heap}, (∃ o, s.heap.get? a = some o ∧ H a = none) → SameBut a s.heap h' → cV X.prog X.w H h' := fun {a h'} ha f b ob e => by
    obtain ⟨_, _, t⟩ := ha
    refine (I.hok b ob e).stay (fun c R hc q => (f.2 c ?_).trans q) (fun _ q => q) fun _ _ q => q
    rintro rfl
    rcases hc with rfl | hc
    · rw [t] at e; cases e
    · rw [t] at hc; cases hc
  rcases l with hk | hk
  · refine wpAny_storeName_local hk S (fun h' T f => ?_) J
    obtain ⟨oL, _, _, U, _⟩ := id S
    refine h _ ⟨I.ok, I.os, I.bare, ⟨fun b o e n D l => ?_, fun b o e n D l => ?_, I.base.free, fun b o e l => ?_, I.base.tups, I.base.gV, I.base.iN⟩, ⟨_, T, fun j y W g B Y => ?_⟩, fun y c e => ?_, I.free, I.kI, fun p Z => ?_, tracked ⟨oL, U, I.free⟩ f, by simpa using I.len⟩ ⟨_, f, .inl rfl⟩
    · exact (f.2 b (bx (cP (aR e) I.ok.above))).trans (I.base.keep b o e n D l)
    · obtain ⟨sl, g⟩ := I.base.slot b o e n D l
      exact ⟨sl, (f.2 b (bx (cP (aR e) I.ok.above))).trans g⟩
    · obtain ⟨o', g⟩ := I.base.there b o e l
      exact ⟨o', (f.2 b (bx (cP (aR e) I.ok.above))).trans g⟩
    · by_cases F : j = i
      · subst F
        rw [hi] at g; cases g
        rw [eB C] at B
        cases B
        exact ⟨u, r, .inl ⟨hk, by simp⟩⟩
      · rw [eF (Ne.symm F)] at B
        obtain ⟨u', r', q⟩ := hl j y W g B Y
        refine ⟨u', r', ?_⟩
        rcases q with ⟨k, e⟩ | ⟨k, c, e, z⟩
        · refine .inl ⟨k, ?_⟩
          have : y ≠ x := fun e => F (HM hN g (e ▸ hi))
          simp [this, e]
        · exact .inr ⟨k, c, e, z.sameBut f (nP y c e)⟩
    · obtain ⟨R, z⟩ := I.cell y c e
      exact ⟨R, z.sameBut f (nP y c e)⟩
    · obtain ⟨e, n, ne, nf, d⟩ := I.pin p Z
      exact ⟨(f.2 p.1 ne).trans e, n, ne, nf, d⟩
  · have G : X.fn x = true := by
      rcases hf with z | z
      · exact z
      · rw [z] at hk; cases hk
    obtain ⟨c, hc⟩ := I.ok.has x (.inl hk)
    obtain ⟨R, z⟩ := I.cell x c hc
    refine wpAny_storeName_cell I.ok.kind hk hc z (fun h' K f => ?_)
    obtain ⟨oc, L, O⟩ := id z
    refine h { s with heap := h' } ⟨I.ok, I.os, I.bare, ⟨fun b o e n D l => ?_, fun b o e n D l => ?_, I.base.free, fun b o e l => ?_, I.base.tups, I.base.gV, I.base.iN⟩, ⟨m, S.sameBut f (Ne.symm (nP x c hc)), fun j y W g B Y => ?_⟩, fun y c' e => ?_, I.free, I.kI, fun p Z => ?_, tracked ⟨oc, L, I.kI x c hc⟩ f, by simpa using I.len⟩ ⟨c, f, .inr hc⟩
    · exact (f.2 b (bx (cP (aR e) (I.ok.uY x c G hc)))).trans (I.base.keep b o e n D l)
    · obtain ⟨sl, g⟩ := I.base.slot b o e n D l
      exact ⟨sl, (f.2 b (bx (cP (aR e) (I.ok.uY x c G hc)))).trans g⟩
    · obtain ⟨o', g⟩ := I.base.there b o e l
      exact ⟨o', (f.2 b (bx (cP (aR e) (I.ok.uY x c G hc)))).trans g⟩
    · by_cases F : j = i
      · subst F
        rw [hi] at g; cases g
        rw [eB C] at B
        cases B
        exact ⟨u, r, .inr ⟨.inl hk, c, hc, K⟩⟩
      · rw [eF (Ne.symm F)] at B
        obtain ⟨u', r', q⟩ := hl j y W g B Y
        refine ⟨u', r', ?_⟩
        rcases q with q | ⟨k, c', e, z'⟩
        · exact .inl q
        · refine .inr ⟨k, c', e, z'.sameBut f ?_⟩
          rintro rfl
          exact F (HM hN g (I.ok.inj _ _ _ e hc ▸ hi))
    · by_cases P : c' = c
      · subst P; exact ⟨_, K⟩
      · obtain ⟨w2, z2⟩ := I.cell y c' e
        exact ⟨w2, z2.sameBut f P⟩
    · obtain ⟨e, n, ne, nf, d⟩ := I.pin p Z
      refine ⟨(f.2 p.1 ?_).trans e, n, ne, nf, d⟩
      intro q
      rw [q, L] at e
      have q' : oc = p.2 := Option.some.inj e
      exact d R (by rw [← q']; exact O)
theorem tR{M:Model}{A:Around}{E:aT}{i:Nat}{x:Str}{v:V}{u:Value}{Q:Unit->Shared->Prop}(I:Inv X pins σ H s)(a:X.N.Nodup)(hi:X.N[i]?=some x)(b:Loc X.env.scope x)(r:RelV v u)
  (h:∀s',Inv X pins (σ.set i (some v)) H s'->Q () s')(c:X.fn x=true\/X.env.scope.names.lookup x=some .local:=by first|exact .inl rfl|exact .inr rfl|assumption):wpAny M A (storeName X.env x u) Q E s:=
 KC I a hi b r (λs' d _=>h s' d) c
theorem Inv.Mn{s':Shared}{ch:List Addr}(I:Inv X pins σ H s)(d:s'.os=s.os)(u:Un (frs X.stack) ch H H' s.heap s'.heap)(hok:cV X.prog X.w H' s'.heap)(f:AllBare s'.gens)
  (a:∀b∈ch,(b∈X.ex\/X.s₀.heap.objs.size<=b)/\b≠X.env.locals/\(∀x c,X.env.cells.lookup x=some c->c≠b)/\∀p∈X.pn++pins,p.1≠b):Inv X pins σ H' s':=by
 obtain⟨h',g',d',t',o'⟩:=s';have e:o'=s.os:=d;subst e;exact I.call (g':=g') (t':=t') (d':=d') u hok f a
end
abbrev XK:=Value->Option Addr->Hp->Prop
abbrev St:=List (Option V)
abbrev VK:=V->Hp->Prop
abbrev TE:=St->Hp->VK->Prop
abbrev TT:=St->Hp->(Bool->Hp->Prop)->Prop
abbrev TA:=St->Hp->(List V->Hp->Prop)->Prop
structure Ends where
 nx:St->Hp->Prop
 rt:VK
 bk:St->Hp->Prop:=λ_ _=>False
 ct:St->Hp->Prop:=λ_ _=>False
abbrev TS:=Ends->St->Hp->Prop
def EP(X:Cx)(pins:aZ)(σ:St)(Q:VK)(u:Value)(s':Shared):Prop:=∃v H',Inv X pins σ H' s'/\RelV v u/\Q v H'
def TP(X:Cx)(pins:aZ)(σ:St)(Q:Bool->Hp->Prop)(b:Bool)(s':Shared):Prop:=∃H',Inv X pins σ H' s'/\Q b H'
def AP(X:Cx)(pins:aZ)(σ:St)(Q:List V->Hp->Prop)(us:List Value)(s':Shared):Prop:=∃vs H',Inv X pins σ H' s'/\Vals vs us/\Q vs H'
def SP(X:Cx)(pins:aZ)(D:Ends)(f:Flow)(s':Shared):Prop:=
 match f with
 |.next=>∃σ' H',Inv X pins σ' H' s'/\D.nx σ' H'
 |.brk=>∃σ' H',Inv X pins σ' H' s'/\D.bk σ' H'
 |.cont=>∃σ' H',Inv X pins σ' H' s'/\D.ct σ' H'
 |.ret u=>∃v σ' H',Inv X pins σ' H' s'/\RelV v u/\D.rt v H'
def PE(X:Cx)(e:Expr)(t:TE):Prop:=
 ∀(pins:aZ) (s:Shared) (σ:St) (H:Hp) (Q:VK),Inv X pins σ H s->t σ H Q->wpAny (model X.prog X.w) X.A (eval e X.env) (EP X pins σ Q) X.xe s
def PT(X:Cx)(e:Expr)(t:TT):Prop:=
 ∀(pins:aZ) (s:Shared) (σ:St) (H:Hp) (Q:Bool->Hp->Prop),Inv X pins σ H s->t σ H Q->wpAny (model X.prog X.w) X.A (isTrue e X.env (eval e X.env)) (TP X pins σ Q) X.xe s
def PW(X:Cx)(e:Expr)(t:TT):Prop:=
 ∀(whole:Sem Value) (pins:aZ) (s:Shared) (σ:St) (H:Hp) (Q:Bool->Hp->Prop),Inv X pins σ H s->t σ H Q->wpAny (model X.prog X.w) X.A (isTrue e X.env whole) (TP X pins σ Q) X.xe s
theorem PW.pt{X:Cx}{e:Expr}{t:TT}(h:PW X e t):PT X e t:=h _
def PA(X:Cx)(es:List Expr)(t:TA):Prop:=
 ∀(pos:Pos) (pins:aZ) (s:Shared) (σ:St) (H:Hp) (Q:List V->Hp->Prop),Inv X pins σ H s->t σ H Q->wpAny (model X.prog X.w) X.A (spliced (backTo pos (starEach es X.env))) (AP X pins σ Q) X.xe s
def PS(X:Cx)(st:Stmt)(t:TS):Prop:=
 ∀(pins:aZ) (s:Shared) (σ:St) (H:Hp) (D:Ends),Inv X pins σ H s->t D σ H->wpAny (model X.prog X.w) X.A (exec st X.env) (SP X pins D) X.xe s
def dY(X:Cx)(st:List Stmt)(t:TS):Prop:=
 ∀(pins:aZ) (s:Shared) (σ:St) (H:Hp) (D:Ends),Inv X pins σ H s->t D σ H->wpAny (model X.prog X.w) X.A (execs st X.env) (SP X pins D) X.xe s
theorem aK{α:Type}{t:Sem α}{Q b:α->Shared->Prop}{M:Model}{A:Around}{E:aT}{s:Shared}(h:wpAny M A t Q E s)(c:∀a s,Q a s->b a s):wpAny M A t b E s:=k9 h c λ_ _ x=>x
section
variable{X:Cx}
def YG(i:Nat):TE:=λσ H Q=>∃v,σ[i]?=some (some v)/\Q v H
def tC(v:V):TE:=λ_ H Q=>Q v H
theorem UZ{i:Nat}{x:Str}{pos:Pos}(d:X.N[i]?=some x)(f:pC X.env.scope x)(hd:(x==("__debug__":Str))=false:=by decide)(b:(x==("__classdict__":Str))=false:=by decide):PE X (.Name x pos) (YG i):=by
 intro pins s σ H Q I h;obtain⟨v,e,h⟩:=h;obtain⟨m,g,j⟩:=I.loc;obtain⟨u,r,l⟩:=j i x v d e f;have fin:EP X pins σ Q u s:=⟨v,H,I,r,h⟩;rcases l with⟨hk,k⟩|⟨hk,c,hc,a⟩
 .exact wpAny_Name (wpAny_loadName_local I.ok.kind hk g k fin) hd
 .rcases hk with hk|hk
  .exact wpAny_Name (wpAny_loadName_cell I.ok.kind hk hc a fin) hd
  .exact wpAny_Name (wpAny_loadName_free I.ok.kind hk hc a fin b) hd
theorem UK{i j pos}:PE X (.Constant (.int i) j pos) (tC (.int i)):=λ_ _ _ H _ I h=>wpAny_Constant_int ⟨.int i,H,I.tok _,⟨_,rfl⟩,h⟩
theorem Ux{b j pos}:PE X (.Constant (.bool b) j pos) (tC (.bl b)):=λ_ _ _ H _ I h=>Constant_bool ⟨.bl b,H,I,rfl,h⟩
theorem UO{j pos}:PE X (.Constant .none j pos) (tC .aG):=λ_ _ _ H _ I h=>Constant_none ⟨.aG,H,I,rfl,h⟩
theorem UU{x j pos}:PE X (.Constant (.str x) j pos) (tC (.str x)):=λ_ _ _ H _ I h=>Calls.Constant_str ⟨.str x,H,I.tok _,⟨_,rfl⟩,h⟩
def Gl(X:Cx)(x:Str):Prop:=X.env.kindOf x=some .globalImplicit
theorem AM{E:aT}{pins:aZ}{s:Shared}{σ:St}{H:Hp}{x:Str}{u:Value}{pos:Pos}{Q:aT}(I:Inv X pins σ H s)(a:Gl X x)(b:X.mg x=some u)(h:Q u s)
  (hd:(x==("__debug__":Str))=false:=by decide):wpAny (model X.prog X.w) X.A (eval (.Name x pos) X.env) Q E s:=
 Calls.Name_function_global I.ok.kind a (Calls.loadGlobal_global (by rw[I.ok.glob];exact I.mod.glob.keeps I.bk) b h) hd
theorem jA{E:aT}{pins:aZ}{s:Shared}{σ:St}{H:Hp}{x:Str}{u:Value}{pos:Pos}{Q:aT}(I:Inv X pins σ H s)(a:Gl X x)(b:X.mg x=none)(c:bootBuiltins x=some u)(h:Q u s)
  (d:x≠"__name__":=by decide)(hd:(x==("__debug__":Str))=false:=by decide):wpAny (model X.prog X.w) X.A (eval (.Name x pos) X.env) Q E s:=by
 obtain⟨mb,h1,h2⟩:=I.mod.blt;exact Calls.Name_function_global I.ok.kind a (Calls.loadGlobal_builtin (by rw[I.ok.glob];exact I.mod.glob.keeps I.bk) b (by rw[I.ok.blt];exact h1.keeps I.bk) ((h2 x d).trans c) h) hd
theorem UI{x:Str}{v:V}{u:Value}{pos:Pos}(a:Gl X x)(b:X.mg x=some u)(r:RelV v u)(hd:(x==("__debug__":Str))=false:=by decide):PE X (.Name x pos) (tC v):=
 λ_ _ _ H _ I h=>AM I a b ⟨v,H,I,r,h⟩ hd
theorem Uy{x:Str}{v:V}{u:Value}{pos:Pos}(a:Gl X x)(b:X.mg x=none)(c:bootBuiltins x=some u)(r:RelV v u)(d:x≠"__name__":=by decide)(hd:(x==("__debug__":Str))=false:=by decide):PE X (.Name x pos) (tC v):=
 λ_ _ _ H _ I h=>jA I a b c ⟨v,H,I,r,h⟩ d hd
variable{a b:Expr}{ta tb:TE}{pos:Pos}
def tB(t:TE):TT:=λσ H Q=>t σ H λx H1=>∃c,x=.bl c/\Q c H1
theorem VJ{e:Expr}{t:TE}(h:PE X e t)(a:∀whole,isTrue e X.env whole=(do let v <-whole;standAt e.pos;holding [v] (truthy v)):=by intro _;rfl):PT X e (tB t):=by
 intro pins s σ H Q I b;refine isTrue_plain (aK (h pins s σ H _ I b) λv i ⟨x,H1,c,f,g⟩=>?_) (a _);obtain⟨d,rfl,q⟩:=g;cases f;exact nA ⟨H1,c,q⟩
variable{tA xV:TT}{rest:List Expr}
def Yc(t u:TT):TT:=λσ H Q=>t σ H λc H1=>if c=true then u σ H1 Q else Q false H1
def Yu(t u:TT):TT:=λσ H Q=>t σ H λc H1=>if c=true then Q true H1 else u σ H1 Q
def Yt(t:TT):TT:=λσ H Q=>t σ H λc H1=>Q (!c) H1
theorem pw_and1(b:PT X a tA):PW X (.BoolOp .And [a] pos) tA:=by
 intro d pins s σ H Q I h;refine isTrue_and (aK (b pins s σ H Q I h) λc f e=>?_);cases c with
 |true=>exact isTrue_and_nil e
 |false=>exact e
theorem pw_or1(b:PT X a tA):PW X (.BoolOp .Or [a] pos) tA:=by
 intro d pins s σ H Q I h;refine isTrue_or (aK (b pins s σ H Q I h) λc f e=>?_);cases c with
 |false=>exact isTrue_or_nil e
 |true=>exact e
theorem pw_and(f:PT X a tA)(g:PW X (.BoolOp .And (b::rest) pos) xV):PW X (.BoolOp .And (a::b::rest) pos) (Yc tA xV):=by
 intro i pins s σ H Q I h;refine isTrue_and (aK (f pins s σ H _ I h) λc j ⟨H1,d,e⟩=>?_);cases c with
 |true=>exact g i pins j σ H1 Q d e
 |false=>exact⟨H1,d,e⟩
theorem pw_or(f:PT X a tA)(g:PW X (.BoolOp .Or (b::rest) pos) xV):PW X (.BoolOp .Or (a::b::rest) pos) (Yu tA xV):=by
 intro i pins s σ H Q I h;refine isTrue_or (aK (f pins s σ H _ I h) λc j ⟨H1,d,e⟩=>?_);cases c with
 |true=>exact⟨H1,d,e⟩
 |false=>exact g i pins j σ H1 Q d e
theorem VI(b:PT X a tA):PT X (.UnaryOp .Not a pos) (Yt tA):=by
 intro pins s σ H Q I h;exact isTrue_not (b pins s σ H (λc H1=>Q (!c) H1) I h)
def Yd(ta tb:TE):TE:=λσ H Q=>ta σ H λx H1=>∃c,x=.bl c/\if c=true then tb σ H1 Q else Q (.bl false) H1
theorem UP{op}{t:TE}(h:PE X a t):PE X (.BoolOp op [a] pos) t:=λpins s σ H Q I b=>BoolOp_one (h pins s σ H Q I b)
theorem Uw(f:PE X a ta)(g:PE X (.BoolOp .And (b::rest) pos) tb):PE X (.BoolOp .And (a::b::rest) pos) (Yd ta tb):=by
 intro pins s σ H Q I h;refine BoolOp_and (aK (f pins s σ H _ I h) λv i ⟨x,H1,e,j,d⟩=>?_);obtain⟨c,rfl,d⟩:=d;cases j;refine nA ?_;cases c with
 |true=>exact g pins i σ H1 Q e d
 |false=>exact⟨.bl false,H1,e,rfl,d⟩
def Yn(t:TT)(ta tb:TE):TE:=λσ H Q=>t σ H λc H1=>if c=true then ta σ H1 Q else tb σ H1 Q
theorem UJ{c:Expr}(hc:PT X c tA)(i:PE X a ta)(j:PE X b tb):PE X (.IfExp c a b pos) (Yn tA ta tb):=by
 intro pins s σ H Q I h;refine wpAny_IfExp (aK (hc pins s σ H _ I h) λd e ⟨H1,f,g⟩=>?_);cases d with
 |true=>exact i pins e σ H1 Q f g
 |false=>exact j pins e σ H1 Q f g
end
def aW(K:Frag)(H:Hp)(a:Addr)(xs:List V):Prop:=
 Rd H a (.lst xs)\/
  ∃(o:Obj) (its:Array Value) (n:Nat),K.lookup a=some o/\o.cls=.type "list"/\o.dict=none/\o.data=.seq its n/\its.size<=sizeLine/\Vals xs its.toList
def bQ(K:Frag)(H:Hp)(a:Addr)(xs:List V):Prop:=
 Rd H a (.tup xs)\/
  ∃(o:Obj) (its:Array Value) (n:Nat),K.lookup a=some o/\o.cls=.type "tuple"/\o.data=.seq its n/\its.size<=sizeLine/\Vals xs its.toList
def L0:Value->Option V
 |.none=>some .aG
 |.bool b=>some (.bl b)
 |.int i _=>some (.int i)
 |.str x _=>some (.str x)
 |.bytes b _=>some (.jU b)
 |.float b _=>some (.pP b)
 |.ref a=>some (.ref a)
 |.type n=>some (.ty n)
 |_=>none
theorem RelV.abs{x:V}{u:Value}(r:RelV x u):L0 u=some x:=by
 cases x with
 |aG=>cases r;rfl
 |bl _=>cases r;rfl
 |int _=>obtain⟨t,rfl⟩:=r;rfl
 |str _=>obtain⟨t,rfl⟩:=r;rfl
 |jU _=>obtain⟨t,rfl⟩:=r;rfl
 |pP _=>obtain⟨t,rfl⟩:=r;rfl
 |ref _=>cases r;rfl
 |ty _=>cases r;rfl
theorem RelV.inj{x y:V}{u:Value}(r:RelV x u)(q:RelV y u):x=y:=Option.some.inj (r.abs.symm.trans q.abs)
theorem Vals.inj:∀{xs ys:List V} {a:List Value},Vals xs a->Vals ys a->xs=ys
 |_,_,_,.nil,.nil=>rfl
 |_,_,_,.cons r t,.cons r' t'=>by rw[r.inj r',Vals.inj t t']
section
variable{X:Cx}{pins:aZ}{σ:St}{H:Hp}{s:Shared}{a:Addr}{xs ys:List V}
theorem aW.of{K:Frag}(h:H a=some (.lst xs)):aW K H a xs:=.inl (.inl h)
theorem bQ.of{K:Frag}(h:H a=some (.tup xs)):bQ K H a xs:=.inl (.inl h)
theorem Inv.list(I:Inv X pins σ H s)(h:aW X.K H a xs):∃its:List Value,Vals xs its/\PlainL s.heap a its.toArray/\xs.length<=sizeLine:=by
 rcases h with h|⟨o,its,n,b,hc,hd,c,hz,r⟩
 .obtain⟨z,its,n,r,e⟩:=h.ok I.hok
  exact⟨its,r,⟨_,n,e,rfl,rfl,rfl⟩,z⟩
 .refine⟨its.toList,r,⟨o,n,I.f_ a o b,hc,hd,by simpa using c⟩,?_⟩
  have e:=r.length;simp only[eN] at e;omega
theorem Inv.tuple(I:Inv X pins σ H s)(h:bQ X.K H a xs):∃its:List Value,Vals xs its/\IsTup s.heap a its.toArray/\xs.length<=sizeLine:=by
 rcases h with h|⟨o,its,n,b,hc,c,hz,r⟩
 .obtain⟨z,its,r,p⟩:=h.ok I.hok
  exact⟨its,r,p.is,z⟩
 .refine⟨its.toList,r,⟨o,I.f_ a o b,hc,n,by simpa using c⟩,?_⟩
  have e:=r.length;simp only[eN] at e;omega
theorem Inv.YO(I:Inv X pins σ H s)(h:H a=some (.tup xs)):∃(its:List Value) (n:Nat),Vals xs its/\s.heap.get? a=some {cls:=.type "tuple",data:=.seq its.toArray n}/\xs.length<=sizeLine:=by
 obtain⟨z,its,r,n,e⟩:=(show b_ X.prog X.w H s.heap a (.tup xs) from I.hok a _ h);exact⟨its,n,r,e,z⟩
theorem Inv.AS(I:Inv X pins σ H s)(h:aW X.K H a xs)(h':aW X.K H a ys):xs=ys:=by
 obtain⟨its,r,⟨o,n,e,_,_,d⟩,_⟩:=I.list h;obtain⟨its',r',⟨o',n',b,_,_,d'⟩,_⟩:=I.list h';rw[e] at b;cases b;rw[d] at d';injection d' with c _;have:its=its':=by simpa using ck toList c
 subst this;exact r.inj r'
theorem Inv.YQ(I:Inv X pins σ H s)(h:bQ X.K H a xs)(h':bQ X.K H a ys):xs=ys:=by
 obtain⟨its,r,⟨o,e,_,n,d⟩,_⟩:=I.tuple h;obtain⟨its',r',⟨o',b,_,n',d'⟩,_⟩:=I.tuple h';rw[e] at b;cases b;rw[d] at d';injection d' with c _;have:its=its':=by simpa using ck toList c
 subst this;exact r.inj r'
end
section
variable{X:Cx}{st:Stmt}{rest:List Stmt}{t u:TS}{e:Expr}{te:TE}{pos:Pos}
def Yq:TS:=λD σ H=>D.nx σ H
def Yz(t u:TS):TS:=λD σ H=>t {D with nx:=u D} σ H
theorem VE:dY X [] Yq:=λ_ _ σ H _ I h=>yx ⟨σ,H,I,h⟩
theorem VD(h1:PS X st t)(h2:dY X rest u):dY X (st::rest) (Yz t u):=by
 intro pins s σ H D I h;refine wpAny_execs_cons (aK (h1 pins s σ H {D with nx:=u D} I h) λf a q=>?_);cases f with
 |next=>
  obtain⟨σ',H',b,q⟩:=q;exact h2 pins a σ' H' D b q
 |ret v=>exact q
 |brk=>exact q
 |cont=>exact q
theorem VF(h1:PS X st t):dY X [st] t:=by
 intro pins s σ H D I h;refine wpAny_execs_cons (aK (h1 pins s σ H D I h) λf a q=>?_);cases f with
 |next=>exact yx q
 |ret v=>exact q
 |brk=>exact q
 |cont=>exact q
theorem Inv.quiet{pins:aZ}{σ:St}{H:Hp}{s:Shared}(I:Inv X pins σ H s):interactive X.env=false:=by simp[interactive,I.ok.kind]
def Yk(te:TE):TS:=λD σ H=>te σ H λ_ H1=>D.nx σ H1
theorem Vv(a:PE X e te)(b:swapsWith e none pos.line X.env=pure false:=by rfl):PS X (.Expr e pos) (Yk te):=by
 intro pins s σ H D I h;exact wpAny_Expr_any (aK (a pins s σ H _ I h) λv f ⟨x,H1,c,g,d⟩=>⟨σ,H1,c,d⟩) I.quiet b
def Yy(te:TE):TS:=λD σ H=>te σ H D.rt
theorem VA(a:PE X e te):PS X (.Return (some e) pos) (Yy te):=by
 intro pins s σ H D I h;exact wpAny_Return_some (aK (a pins s σ H _ I h) λv f ⟨x,H1,b,c,d⟩=>⟨x,σ,H1,b,c,d⟩)
def Yo(c:TT)(t u:TS):TS:=λD σ H=>c σ H λb H1=>if b=true then t D σ H1 else u D σ H1
theorem Vx{c:Expr}{a b:List Stmt}{tc:TT}(hc:PT X c tc)(i:dY X a t)(j:dY X b u):PS X (.If c a b pos) (Yo tc t u):=by
 intro pins s σ H D I h;refine wpAny_If (aK (hc pins s σ H _ I h) λd e ⟨H1,f,g⟩=>?_);cases d with
 |true=>exact i pins e σ H1 D f g
 |false=>exact j pins e σ H1 D f g
end
abbrev TG:=V->St->Hp->(St->Hp->Prop)->Prop
abbrev kD:=List V->St->Hp->(St->Hp->Prop)->Prop
def PG(X:Cx)(target:Expr)(t:TG):Prop:=
 ∀(pins:aZ) (s:Shared) (σ:St) (H:Hp) (v:V) (u:Value) (Q:St->Hp->Prop),Inv X pins σ H s->RelV v u->t v σ H Q->
  wpAny (model X.prog X.w) X.A (assign target X.env u) (λ_ s'=>∃σ' H',Inv X pins σ' H' s'/\Q σ' H') X.xe s
def ku(X:Cx)(ts:List Expr)(t:kD):Prop:=
 ∀(pins:aZ) (s:Shared) (σ:St) (H:Hp) (vs:List V) (us:List Value) (Q:St->Hp->Prop),Inv X pins σ H s->Vals vs us->t vs σ H Q->
  wpAny (model X.prog X.w) X.A (assignInOrder ((assignEach ts X.env).map (·.2)) us) (λ_ s'=>∃σ' H',Inv X pins σ' H' s'/\Q σ' H') X.xe s
abbrev zx:=V->V->V->Hp->(Hp->Prop)->Prop
def C7(X:Cx)(t:zx):Prop:=
 ∀(pins:aZ) (s:Shared) (σ:St) (H:Hp) (o i v:V) (ov iv u:Value) (Q:Hp->Prop),Inv X pins σ H s->RelV o ov->RelV i iv->RelV v u->t o i v H Q->
  wpAny (model X.prog X.w) X.A (setItem ov iv u) (λ_ s'=>∃H',Inv X pins σ H' s'/\Q H') X.xe s
abbrev uQ:=V->V->Hp->VK->Prop
def C6(X:Cx)(op:Operator)(t:uQ):Prop:=
 ∀(pins:aZ) (s:Shared) (σ:St) (H:Hp) (x y:V) (v u:Value) (Q:VK),Inv X pins σ H s->RelV x v->RelV y u->t x y H Q->
  wpAny (model X.prog X.w) X.A (inplaceOp op v u) (EP X pins σ Q) X.xe s
section
variable{X:Cx}{pos:Pos}
def pS(i:Nat):TG:=λv σ H Q=>Q (σ.set i (some v)) H
theorem Ib{i:Nat}{x:Str}(a:X.N.Nodup)(hi:X.N[i]?=some x)(b:Loc X.env.scope x)(c:X.fn x=true\/X.env.scope.names.lookup x=some .local:=by first|exact .inl rfl|exact .inr rfl|assumption):PG X (.Name x pos) (pS i):=by
 intro pins s σ H v u Q I r h;exact wpAny_assign_Name (tR I a hi b r (λs' d=>⟨_,H,d,h⟩) c)
def F6:kD:=λvs σ H Q=>vs=[]/\Q σ H
def F5(t:TG)(u:kD):kD:=λvs σ H Q=>∃v r,vs=v::r/\t v σ H λσ' H'=>u r σ' H' Q
theorem oE:ku X [] F6:=by
 intro pins s σ H vs a Q I r h;obtain⟨e,h⟩:=h;subst e;cases r;exact assignInOrder_nil ⟨σ,H,I,h⟩
theorem gX{e:Expr}{es:List Expr}{t:TG}{u:kD}(h1:PG X e t)(h2:ku X es u)
  (b:(assignEach (e::es) X.env).map (·.2)=assign e X.env::(assignEach es X.env).map (·.2):=by rfl):ku X (e::es) (F5 t u):=by
 intro pins s σ H vs j Q I r h;obtain⟨v,vr,c,h⟩:=h;subst c;cases r with
 |cons r d=>
  rw[b];refine assignInOrder_cons (aK (h1 pins s σ H _ _ _ I r h) λ_ f ⟨a,H1,g,i⟩=>?_);exact h2 pins f a H1 _ _ Q g d i
def F7(K:Frag)(n:Nat)(t:kD):TG:=λv σ H Q=>∃a xs,v=.ref a/\bQ K H a xs/\xs.length=n/\t xs σ H Q
theorem oB{es:List Expr}{k:Nat}{t:kD}{n:Nat}(hc:X.calm=true)(h:ku X es t)
  (g:(assignEach es X.env).length=n:=by rfl)(c:(assignEach es X.env).findIdx? (·.1)=none:=by rfl):PG X (.Tuple es k pos) (F7 X.K n t):=by
 intro pins s σ H v u Q I r d;obtain⟨a,xs,i,j,l,d⟩:=d;subst i;cases r;obtain⟨its,f,m,hz⟩:=I.tuple j;refine assign_Tuple_tuple (I.ok.hd hc) m (by simp[g,<-l,f.length]) c λh' p=>?_;have q:Inv X pins σ H {s with heap:=h'}:=I.kept (t':=s.toks) λb o e=>p b o (bx (aR e)) e;exact h pins _ σ H xs _ Q q (by simpa using f) d
def P9(to ti:TE)(t:zx):TG:=λv σ H Q=>to σ H λo H1=>ti σ H1 λi H2=>t o i v H2 λH3=>Q σ H3
theorem U3{o i:Expr}{to ti:TE}{t:zx}(c:PE X o to)(hi:PE X i ti)(d:C7 X t)
  (e:∀v,assign (.Subscript o i pos) X.env v=(do
   let a <-holding [v] (eval o X.env)
   let b <-holding [v,a] (eval i X.env)
   standAt pos
   holding [v,a,b] (setItem a b v)
   release [v,a,b] []):=by intro _;rfl):PG X (.Subscript o i pos) (P9 to ti t):=by
 intro pins s σ H v u Q I r h
 rw[e]
 refine ah (eY (aK (c pins s σ H _ I h) λa f ⟨x,H1,g,j,k⟩=> ?_))
 refine ah (eY (aK (hi pins f σ H1 _ g k) λb l ⟨y,H2,m,n,p⟩=> ?_))
 refine ah (uv (ah (eY (aK (d pins l σ H2 x y v a b u _ m j n r p) λ_ A ⟨q,w,z⟩=> ?_))))
 exact wpAny_release ⟨σ,q,w,z⟩
def BU(te:TE)(g:TG):TS:=λD σ H=>te σ H λx H1=>g x σ H1 D.nx
theorem Vs{tg e:Expr}{te:TE}{g:TG}(a:PE X e te)(b:PG X tg g)(c:swapsWithSole [tg] e pos.line X.env=pure false:=by rfl)(d:swappedStores [tg] e X.env=pure none:=by rfl)
  (h1:(assignEach [tg] X.env).map (·.2)=[assign tg X.env]:=by rfl):PS X (.Assign [tg] e pos) (BU te g):=by
 intro pins s σ H D I h;refine wpAny_Assign_stores (aK (a pins s σ H _ I h) λv f ⟨x,H1,i,j,k⟩=>?_) c d;rw[h1];exact aK (b pins f σ H1 x v _ i j k) λ_ l q=>q
theorem VB{i:Nat}{x:Str}{e:Expr}{te:TE}{pos':Pos}(a:X.N.Nodup)(hi:X.N[i]?=some x)(b:Loc X.env.scope x)(c:PE X e te)(d:swapsWith e (some (.Name x pos')) pos.line X.env=pure false:=by rfl)(f:X.fn x=true\/X.env.scope.names.lookup x=some .local:=by first|exact .inl rfl|exact .inr rfl|assumption):
  PS X (.Assign [.Name x pos'] e pos) (BU te (pS i)):=by
 intro pins s σ H D I h;refine wpAny_Assign_Name (aK (c pins s σ H _ I h) λv m ⟨y,H1,g,j,k⟩=>?_) d;exact tR g a hi b j (λn l=>⟨_,H1,l,k⟩) f
def Yv(i j:Nat)(ta:TA):TS:=λD σ H=>ta σ H λvs H1=>∃v w,vs=[v,w]/\D.nx ((σ.set i (some v)).set j (some w)) H1
theorem Vy{i j:Nat}{x y:Str}{a b:Expr}{ta:TA}{px py pt:Pos}{kt k2 c}(hc:X.calm=true)(r:X.N.Nodup)(hi:X.N[i]? =some x)(B:X.N[j]? =some y)(k:i≠j)
  (t:X.env.scope.names.lookup x=some .local)(u:X.env.scope.names.lookup y=some .local)(C:PA X [a,b] ta)
  (E:swappedStores [.Tuple [.Name x px,.Name y py] kt pt] (.Tuple [a,b] k2 c) X.env=pure (some [x,y]))
  (F:swapsWithSole [.Tuple [.Name x px,.Name y py] kt pt] (.Tuple [a,b] k2 c) pos.line X.env=pure false:=by rfl):
  PS X (.Assign [.Tuple [.Name x px,.Name y py] kt pt] (.Tuple [a,b] k2 c) pos) (Yv i j ta):=by
 intro pins s σ H D I h
 rw[exec_Assign_arm]
 refine ah (uv ?_)
 rw[F]
 refine ah (aB ?_)
 rw[ao (by decide)]
 refine ah (Tuple_ (aK (C _ pins s σ H _ I h) λG d ⟨vs,H1,J,K,l⟩=> ?_))
 obtain⟨v,w,L,l⟩:=l
 subst L
 obtain⟨f,g,rfl,M,m⟩:∃f g,G=[f,g]/\RelV v f/\RelV w g:=by
  cases K with
  |cons p q=>
   cases q with
   |cons O P=>
    cases P
    exact⟨_,_,rfl,p,O⟩
 refine gH ?_ (by show 2<=sizeLine;decide)
 have Q:Inv X pins σ H1 {d with heap:=d.heap.push {cls:= .type "tuple",data:= .seq [f,g].toArray}}:=J.kept (t':=d.toks) λb o e=>bg _ e
 rw[E]
 refine ah (aB ?_)
 show wpAny (model X.prog X.w) X.A (do rule "assign.swapped-stores";let items <-unpackItems (.ref d.heap.objs.size) 2 none;assignInOrder [λv=>bindName X.env y v,λv=>bindName X.env x v] items.reverse;pure Flow.next) _ _ _
 refine ah (iR (ah (unpackItems_tuple (items:= #[f,g]) (I.ok.hd hc) (IsTup.new d.heap _) λh' n=> ?_)))
 have R:=Q.kept (h':=h') (t':=d.toks) λb o e=>n b o (bx (aR e)) e
 show wpAny _ _ (assignInOrder [λv=>bindName X.env y v,λv=>bindName X.env x v] [g,f]>>=λ_=>pure Flow.next) _ _ _
 refine ah (assignInOrder_cons (wpAny_bindName (tR R r B (.inl u) m (λT S=> ?_) (.inr u))))
 refine assignInOrder_cons (wpAny_bindName (tR S r hi (.inl t) M (λU z=>assignInOrder_nil (aB ?_)) (.inr t)))
 rw[List.set_comm _ _ (Ne.symm k)] at z
 exact⟨_,H1,z,l⟩
def Ye(i:Nat)(te:TE)(ti:uQ):TS:=λD σ H=>∃x,σ[i]?=some (some x)/\te σ H λy H1=>ti x y H1 λz H2=>D.nx (σ.set i (some z)) H2
theorem Vt{i:Nat}{x:Str}{e:Expr}{te:TE}{op:Operator}{ti:uQ}{pos':Pos}(j:X.N.Nodup)(hi:X.N[i]?=some x)(f:Loc X.env.scope x)(n:PE X e te)(o:C6 X op ti)(p:X.fn x=true\/X.env.scope.names.lookup x=some .local:=by first|exact .inl rfl|exact .inr rfl|assumption):
  PS X (.AugAssign (.Name x pos') op e pos) (Ye i te ti):=by
 intro pins s σ H D I h;obtain⟨v,q,h⟩:=h;obtain⟨m,t,B⟩:=I.loc;have g:pC X.env.scope x:=by rcases f with k|k;exact .inl k;exact .inr (.inl k)
 obtain⟨u,r,l⟩:=B i x v hi q g;refine wpAny_AugAssign_Name ?_;have go:wpAny (model X.prog X.w) X.A (eval e X.env) (λw b=>wpAny (model X.prog X.w) X.A (inplaceOp op u w) (λr d=>wpAny (model X.prog X.w) X.A (storeName X.env x r) (λ_=>SP X pins D .next) X.xe d) X.xe b) X.xe s:=by
  refine aK (n pins s σ H _ I h) λw C ⟨y,H1,E,F,G⟩=>?_;refine aK (o pins C σ H1 v y u w _ E r F G) λz P ⟨Q,H2,J,K,L⟩=>?_;exact tR J j hi f K (λR M=>⟨_,H2,M,L⟩) p
 rcases l with⟨hk,O⟩|⟨hk,c,hc,a⟩
 .exact wpAny_loadName_local I.ok.kind hk t O go
 .rcases hk with hk|hk
  .exact wpAny_loadName_cell I.ok.kind hk hc a go
  .rcases f with k|k
   .have:X.env.scope.names.lookup x=some .free:=hk
    rw[k] at this;cases this
   .have:X.env.scope.names.lookup x=some .free:=hk
    rw[k] at this;cases this
def Rm(f:Int->Int->Int):uQ:=λx y H Q=>∃i j,x=.int i/\y=.int j/\Q (.int (f i j)) H
theorem Rn:C6 X .Add (Rm λi j=>i+j):=by
 intro pins s σ H x y v u Q I a b h;obtain⟨i,j,c,d,q⟩:=h;subst c;subst d;obtain⟨t,rfl⟩:=a;obtain⟨t',rfl⟩:=b;exact iadd_int ⟨.int _,H,I.tok _,⟨_,rfl⟩,q⟩
end
section
variable{X:Cx}{pos:Pos}
def YH(c:TT)(tb:TS):TS:=λD σ H=>∃W:Nat->St->Hp->Prop,(∃m,W m σ H)/\∀m σ H,W m σ H->
 c σ H λb H1=>if b=true then ∃N:St->Hp->Prop,(∀σ' H',N σ' H'->∃m',m'<m/\W m' σ' H')/\tb {D with nx:=N,ct:=N,bk:=D.nx} σ H1 else D.nx σ H1
theorem VC{c:Expr}{body:List Stmt}{tc:TT}{tb:TS}(o:PassesOwn (model X.prog X.w) X.A X.env X.xe)(hc:PT X c tc)(r:dY X body tb):PS X (.While c body [] pos) (YH tc tb):=by
 intro pins s σ H D I h;obtain⟨W,⟨m0,t⟩,turn⟩:=h;refine wpAny_While (codeAny_whileLoop (λn s'=>∃σ' H',Inv X pins σ' H' s'/\W n σ' H') ?_ m0 ⟨σ,H,I,t⟩);rintro n u ⟨d,H1,x,y⟩;refine oU o (aK (hc pins u d H1 _ x (turn n d H1 y)) λb z ⟨H2,p,g⟩=>?_);cases b with
 |true=>
  obtain⟨N,q,g⟩:=g;rw[aA rfl];refine oU o (aK (r pins z d H2 _ p g) λf B i=>?_);cases f with
  |next=>
   obtain⟨a,e,j,n3⟩:=i;obtain⟨k,l,m⟩:=q a e n3;exact⟨k,l,a,e,j,m⟩
  |cont=>
   obtain⟨a,e,j,n3⟩:=i;obtain⟨k,l,m⟩:=q a e n3;exact⟨k,l,a,e,j,m⟩
  |brk=>exact i
  |ret v=>exact i
 |false=>
  rw[ao bV];exact yx ⟨d,H2,p,g⟩
end
structure It where
 go:Nat->Hp->Prop
 yc:Nat->Hp->V->Hp->Prop
 stop:Nat->Hp->Prop
def ia(X:Cx)(pins:aZ)(H:Hp)(b:Addr):Prop:=
 H b=none/\b≠X.env.locals/\b∉X.fs/\(b∈X.ex\/X.s₀.heap.objs.size<=b)/\(∀x c,X.env.cells.lookup x=some c->c≠b)/\∀p∈X.pn++pins,p.1≠b
theorem Inv.mU{X:Cx}{pins:aZ}{σ:St}{H H':Hp}{s:Shared}{b:Addr}(I:Inv X pins σ H s)(a:s.heap.objs.size<=b)(d:H' b=none):ia X pins H' b:=by
 refine⟨d,j9 (cP I.lt a),I.Tt a,.inr (cG I.sz a),λx c e z=>?_,λp f z=>?_⟩
 .obtain⟨v,q⟩:=I.cell x c e
  exact absurd (cP q.lt (by rw[z];exact a)) (gw _)
 .exact absurd (cP (aR (I.pin p f).1) (by rw[z];exact a)) (gw _)
structure Turn(P:Program)(w:World)(K:Frag)(tg:Expr)(J:It)(fp:List Addr)(it:Addr)(tn:Nat->Heap->Prop):Prop where
 mem:it∈fp
 obj:∀i h,tn i h->∀b∈fp,∃o,h.get? b=some o/\∀v,o.data≠ .cell v
 keep:∀i h h',tn i h->(∀b∈fp,∀o,h.get? b=some o->h'.get? b=some o)->tn i h'
 item:∀(X:Cx),X.prog=P->X.w=w->X.K=K->X.calm=true->∀(i:Nat) (pins:aZ) (s:Shared) (σ:St) (H:Hp) (E:aT),Inv X pins σ H s->(∀b∈fp,ia X pins H b)->tn i s.heap->J.go i H->
  wpAny (model P w) X.A (pyNext (.ref it)) (λr s1=>∃u,r=some u/\
   wpAny (model P w) X.A (letOwnedTupleGo tg (.ref it) u) (λ_ s2=>∃x H',Inv X pins σ H' s2/\RelV x u/\J.yc i H x H'/\tn (i+1) s2.heap/\∀b∈fp,H' b=none) E s1) E s
 done:∀(X:Cx),X.prog=P->X.w=w->X.K=K->X.calm=true->∀(i:Nat) (pins:aZ) (s:Shared) (σ:St) (H:Hp) (E:aT),Inv X pins σ H s->(∀b∈fp,ia X pins H b)->tn i s.heap->J.stop i H->
  wpAny (model P w) X.A (pyNext (.ref it)) (λr s1=>r=none/\Inv X pins σ H s1) E s
 self:∀(A:Around) (i:Nat) (s:Shared) (Q:aT) (E:aT),tn i s.heap->Q (.ref it) s->wpAny (model P w) A (pyIter (.ref it)) Q E s
abbrev TI:=St->Hp->(It->Hp->Prop)->Prop
def za(X:Cx)(pins:aZ)(σ:St)(tg:Expr)(R:It->Hp->Prop)(itv:Value)(s2:Shared):Prop:=
 ∃(it:Addr) (fp:List Addr) (tn:Nat->Heap->Prop) (J:It) (H':Hp),itv=.ref it/\Inv X pins σ H' s2/\Turn X.prog X.w X.K tg J fp it tn/\tn 0 s2.heap/\(∀b∈fp,ia X pins H' b)/\R J H'
def PI(X:Cx)(tg iter:Expr)(wi:TI):Prop:=
 ∀(pins:aZ) (s:Shared) (σ:St) (H:Hp) (R:It->Hp->Prop),Inv X pins σ H s->wi σ H R->
  wpAny (model X.prog X.w) X.A (eval iter X.env) (λv s1=>wpAny (model X.prog X.w) X.A (pyIter v) (za X pins σ tg R) X.xe s1) X.xe s
theorem r_{M:Model}{A:Around}{E:aT}{s:Shared}{tg:Expr}{it:Addr}{u:Value}{o:Obj}{n:String}{vs:Array Value}{Q:Unit->Shared->Prop}(b:s.heap.get? it=some o)(hc:o.cls=.type n)(hd:o.data=.fields vs)
  (c:["enumerate","zip","dict_itemiterator","dict_reverseitemiterator","odict_iterator","itertools.zip_longest","itertools.pairwise"].contains n=false)(a:Q () s):wpAny M A (letOwnedTupleGo tg (.ref it) u) Q E s:=by
 unfold letOwnedTupleGo;cases tg<;>first
  |exact aB a
  |(cases u<;>first
    |exact aB a
    |(refine ah (wpAny_load b ?_)
      rw[hc,hd];show wpAny M A (if (["enumerate","zip","dict_itemiterator","dict_reverseitemiterator","odict_iterator","itertools.zip_longest","itertools.pairwise"].contains n&&vs[0]? ==some (rawInt _))=true then _ else _) Q E s;rw[ao (by intro h;rw[c,Bool.false_and] at h;cases h)];exact aB a))
def uI(K:Frag)(a:Addr):It:=
 ⟨λi H=>∃xs x,aW K H a xs/\xs[i]?=some x,λi H x H'=>H'=H/\∀xs,aW K H a xs->xs[i]?=some x,λi H=>∃xs,aW K H a xs/\xs.length<=i⟩
def yW(K:Frag)(a:Addr):It:=
 ⟨λi H=>∃xs x,bQ K H a xs/\xs[i]?=some x,λi H x H'=>H'=H/\∀xs,bQ K H a xs->xs[i]?=some x,λi H=>∃xs,bQ K H a xs/\xs.length<=i⟩
def uJ(lo:Int)(n:Nat):It:=⟨λi _=>i<n,λi H x H'=>H'=H/\x=.int (lo+i),λi _=>n<=i⟩
theorem YV{P:Program}{w:World}{K:Frag}{tg:Expr}(a it:Addr):Turn P w K tg (uI K a) [it] it (λi h=>h.IsListIter it a i) where
 mem:=by simp
 obj:=λi h st b f=>by
  have e:b=it:=by simpa using f
  subst e
  obtain⟨o,e,c,d⟩:=st
  exact⟨o,e,λv z=>by rw[d] at z;cases z⟩
 keep:=λi h h' st k=>st.at λo e=>k it (by simp) o e
 item:=by
  intro X m n q hc i pins s σ H E I j st r
  subst m n q
  obtain⟨xs,x,l,t⟩:=r
  obtain⟨its,y,p,hz⟩:=I.list l
  obtain⟨u,C,D⟩:=y.get t
  obtain⟨f0,f1,f2,A,f4,B⟩:=j it (by simp)
  refine wpAny_pyNext_list_item st p.isList (x:=u) (by simpa using C) λh' g F=> ?_
  have G:Inv X pins σ H {s with heap:=h'}:=I.turned (t':=s.toks) (λb o f e=>(F.2 b f).trans e) f0 f1 A f4 B
  obtain⟨o,e,c,d⟩:=id g
  exact⟨u,rfl,r_ (s:={s with heap:=h'}) e c d (by decide) ⟨x,H,G,D,⟨rfl,λys J=>by rw[I.AS J l];exact t⟩,g,λb f=>(j b f).1⟩⟩
 done:=by
  intro X m n q hc i pins s σ H E I j st r
  subst m n q
  obtain⟨xs,l,t⟩:=r
  obtain⟨its,y,p,hz⟩:=I.list l
  obtain⟨f0,f1,f2,A,f4,B⟩:=j it (by simp)
  have M:=y.length
  exact wpAny_pyNext_list_end (I.ok.hd hc) st p.isList (by simp;omega) λh' L=>⟨rfl,I.turned (t':=s.toks) (λb o f e=>L b o f e) f0 f1 A f4 B⟩
 self:=λ_ _ _ _ _ st h=>wpAny_pyIter_listiter st h
theorem YZ{P:Program}{w:World}{K:Frag}{tg:Expr}(a it:Addr):Turn P w K tg (yW K a) [it] it (λi h=>h.IsTupleIter it a i) where
 mem:=by simp
 obj:=λi h st b f=>by
  have e:b=it:=by simpa using f
  subst e
  obtain⟨o,e,c,d⟩:=st
  exact⟨o,e,λv z=>by rw[d] at z;cases z⟩
 keep:=λi h h' st k=>st.at λo e=>k it (by simp) o e
 item:=by
  intro X m n q hc i pins s σ H E I j st r
  subst m n q
  obtain⟨xs,x,l,t⟩:=r
  obtain⟨its,y,p,hz⟩:=I.tuple l
  obtain⟨u,C,D⟩:=y.get t
  obtain⟨f0,f1,f2,A,f4,B⟩:=j it (by simp)
  refine wpAny_pyNext_tuple_item st (show s.heap.IsTuple a its.toArray from p) (x:=u) (by simpa using C) λh' g F=> ?_
  have G:Inv X pins σ H {s with heap:=h'}:=I.turned (t':=s.toks) (λb o f e=>(F.2 b f).trans e) f0 f1 A f4 B
  obtain⟨o,e,c,d⟩:=id g
  exact⟨u,rfl,r_ (s:={s with heap:=h'}) e c d (by decide) ⟨x,H,G,D,⟨rfl,λys J=>by rw[I.YQ J l];exact t⟩,g,λb f=>(j b f).1⟩⟩
 done:=by
  intro X m n q hc i pins s σ H E I j st r
  subst m n q
  obtain⟨xs,l,t⟩:=r
  obtain⟨its,y,p,hz⟩:=I.tuple l
  obtain⟨f0,f1,f2,A,f4,B⟩:=j it (by simp)
  have M:=y.length
  exact wpAny_pyNext_tuple_end (I.ok.hd hc) st (show s.heap.IsTuple a its.toArray from p) (by simp;omega) λh' L=>⟨rfl,I.turned (t':=s.toks) (λb o f e=>L b o f e) f0 f1 A f4 B⟩
 self:=λ_ _ _ _ _ st h=>wpAny_pyIter_tupleiter st h
theorem YW{P:Program}{w:World}{K:Frag}{tg:Expr}(it:Addr)(lo:Int)(n:Nat):Turn P w K tg (uJ lo n) [it] it (λi h=>IsRangeIter h it (lo+(i:Nat)*1) ((n:Int) - (i:Nat)) 1) where
 mem:=by simp
 obj:=λi h st b a=>by
  have e:b=it:=by simpa using a
  subst e
  exact⟨_,st,λv z=>by
   have r:Data.fields _=Data.cell v:=z
   cases r⟩
 keep:=λi h h' st k=>k it (by simp) _ st
 item:=by
  intro X f g j hc i pins s σ H E I d st l
  subst f g j
  obtain⟨f0,f1,f2,m,f4,p⟩:=d it (by simp)
  have W:=Walks.range (prog:=X.prog) (w:=X.w) (I.ok.hd hc) it lo 1 n
  refine W.item i s _ _ l st λv h' q u c x=> ?_
  obtain⟨t,rfl⟩:=u
  have y:Inv X pins σ H {s with heap:=h',toks:=q}:=I.turned (λb o a e=>x b o (by simpa using a) e) f0 f1 m f4 p
  refine⟨_,rfl,r_ (s:={s with heap:=h',toks:=q}) (n:="range_iterator") c rfl rfl (by decide) ⟨.int (lo+i),H,y,⟨t,?_⟩,⟨rfl,rfl⟩,c,λb a=>(d b a).1⟩⟩
  rw[Int.mul_one]
 done:=by
  intro X f g j hc i pins s σ H E I d st l
  subst f g j
  obtain⟨f0,f1,f2,m,f4,p⟩:=d it (by simp)
  exact wpAny_pyNext_range_end (I.ok.hd hc) st (by have:n<=i:=l;omega) λh' A=>⟨rfl,I.turned (t':=s.toks) (λb o a e=>A b o a e) f0 f1 m f4 p⟩
 self:=λ_ _ _ _ _ st h=>wpAny_pyIter_rangeiter st h
section
variable{X:Cx}{tg:Expr}
theorem VX{pins:aZ}{σ:St}{H:Hp}{s:Shared}{R:It->Hp->Prop}{E:aT}{lo hi:Int}{t u v:Tok}{a:Nat}(I:Inv X pins σ H s)(h1: -(2 ^ 62)<=lo)(h2:lo<2 ^ 62)(d: -(2 ^ 62)<=hi)(f:hi<2 ^ 62)
  (q:R (uJ lo (hi - lo).toNat) H):wpAny (model X.prog X.w) X.A (pyIter (.ref s.heap.objs.size)) (za X pins σ tg R) E {s with heap:=s.heap.push {cls:=.type "range",data:=.fields #[.int lo t,.int hi u,.int 1 v]},toks:=a}:=by
 refine wpAny_pyIter_range (IsRange.new ..) (small_one h1 h2 d f) ?_;have c:Inv X pins σ H {s with heap:=s.heap.push {cls:=.type "range",data:=.fields #[.int lo t,.int hi u,.int 1 v]},toks:=a}:=I.kept λb o e=>bg _ e;refine⟨(s.heap.push {cls:=.type "range",data:=.fields #[.int lo t,.int hi u,.int 1 v]}).objs.size,[(s.heap.push {cls:=.type "range",data:=.fields #[.int lo t,.int hi u,.int 1 v]}).objs.size],_,_,H,rfl,
  c.kept (t':=a) λb o e=>bg _ e,YW _ lo (hi - lo).toNat,?_,λb g=>?_,q⟩
 .have h:lo+((0:Nat):Int)*1=lo:=by simp
  have i:(((hi - lo).toNat:Nat):Int) - ((0:Nat):Int)=Builtin.Range.rangeSize lo hi 1:=by rw[rangeSize_one];split<;>omega
  show IsRangeIter _ _ (lo+((0:Nat):Int)*1) ((((hi - lo).toNat:Nat):Int) - ((0:Nat):Int)) 1;rw[h,i];exact b9 _ rfl
 .have e:b=(s.heap.push {cls:=.type "range",data:=.fields #[.int lo t,.int hi u,.int 1 v]}).objs.size:=by simpa using g
  subst e;exact c.mU (aF _) (c.hok.fresh (aF _))
def Q8(ta:TA):TI:=λσ H R=>ta σ H λvs H1=>∃j:Int,vs=[.int j]/\-(2 ^ 62)<=j/\j<2 ^ 62/\R (uJ 0 j.toNat) H1
theorem U6{a:Expr}{ta:TA}{p pos:Pos}(c:Gl X "range")(d:X.mg "range"=none)(f:PA X [a] ta)(g:starEach [a] X.env=[(false,eval a X.env)]:=by rfl):PI X tg (.Call (.Name "range" p) [a] [] pos) (Q8 ta):=by
 intro pins s σ H R I h;refine Call_ (jA I c d boot_range (nj (aK (f pos pins s σ H _ I h) λn o ⟨vs,H1,i,k,b⟩=>?_) g rfl));obtain⟨j,e,b,l,q⟩:=b;subst e;cases k with
 |cons r m=>
  cases m;obtain⟨t,rfl⟩:=r;exact call_range_1 (VX i (by omega) (by omega) b l (by simpa using q))
def Ym(wi:TI)(g:TG)(tb:TS):TS:=λD σ H=>wi σ H λJ H1=>∃W:Nat->Nat->St->Hp->Prop,(∃m,W 0 m σ H1)/\∀i m σ H,W i m σ H->
 (J.stop i H/\D.nx σ H)\/(J.go i H/\∃N:St->Hp->Prop,(∀σ' H',N σ' H'->∃m',m'<m/\W (i+1) m' σ' H')/\∀x H',J.yc i H x H'->g x σ H' λσ2 H2=>tb {D with nx:=N,ct:=N,bk:=D.nx} σ2 H2)
def s8(fp:List Addr)(h:Heap):aZ:=fp.filterMap λb=>(h.get? b).map λo=>(b,o)
theorem vZ{fp:List Addr}{h:Heap}{b:Addr}{o:Obj}(a:b∈fp)(e:h.get? b=some o):(b,o)∈s8 fp h:=qy.mpr ⟨b,a,by rw[e];rfl⟩
theorem TX{fp:List Addr}{h:Heap}{p:Addr×Obj}(a:p∈s8 fp h):p.1∈fp/\h.get? p.1=some p.2:=by
 obtain⟨b,c,e⟩:=qy.mp a;cases q:h.get? b with
 |none=>rw[q] at e;cases e
 |some o=>
  rw[q] at e;have d:(b,o)=p:=Option.some.inj e;subst d;exact⟨c,q⟩
theorem Inv.pinned{pins:aZ}{σ:St}{H:Hp}{s:Shared}{fp:List Addr}(I:Inv X pins σ H s)(f:∀b∈fp,ia X pins H b)(g:∀b∈fp,∃o,s.heap.get? b=some o/\∀v,o.data≠ .cell v):Inv X (pins++s8 fp s.heap) σ H s:=
 I.Ie λp h=>(bU.mp h).elim (λz=>I.pin p (ji _ z)) λz=>by
  obtain⟨a,e⟩:=TX z;obtain⟨f0,f1,f2,_⟩:=f p.1 a;obtain⟨o,c,d⟩:=g p.1 a;rw[e] at c;cases c;exact⟨e,f0,f1,f2,d⟩
theorem Inv.tX{pins pl:aZ}{σ:St}{H:Hp}{s:Shared}(I:Inv X (pins++pl) σ H s):Inv X pins σ H s:=I.Ie λp a=>I.pin p (ji _ (oK _ a))
theorem Vw{iter:Expr}{body:List Stmt}{wi:TI}{g:TG}{tb:TS}{pos:Pos}(y:PassesOwn (model X.prog X.w) X.A X.env X.xe)(hc:X.calm=true)(hi:PI X tg iter wi)(S:PG X tg g)(c:dY X body tb)
  (U:∀x,foldedSetIterable iter X.env x=pure x:=by intro _;rfl):PS X (.For tg iter body [] pos) (Ym wi g tb):=by
 intro pins s σ H D I h;refine wpAny_For (aK (hi pins s σ H _ I h) λv s1 h1=>aK h1 λV s2 h2=>?_) U;obtain⟨it,fp,O,J,H2,e,Y,T,E,f2,W,⟨m0,Z⟩,turn⟩:=h2;subst e;have j:∀{H':Hp},(∀b∈fp,H' b=none)->∀b∈fp,ia X pins H' b:=λhn b c=>⟨hn b c,(f2 b c).2⟩;refine codeAny_forLoop_any (λn s'=>∃i σ' H',Inv X pins σ' H' s'/\O i s'.heap/\(∀b∈fp,H' b=none)/\W i n σ' H') ?_ m0 ⟨0,σ,H2,Y,E,λb c=>(f2 b c).1,Z⟩;rintro n P ⟨i,k,C,Q,z,B,w3⟩;rcases turn i n k C w3 with⟨stop,qn⟩|⟨go,N,hN,step⟩
 .refine oU y (aK (T.done X rfl rfl rfl hc i pins P k C X.xe Q (j B) z stop) λr s4 ⟨F,I4⟩=>?_)
  subst F;exact yx ⟨k,C,I4,qn⟩
 .refine oU y (aK (T.item X rfl rfl rfl hc i pins P k C X.xe Q (j B) z go) λr s4 ⟨u,F,h4⟩=>?_)
  subst F;refine oU y (aK h4 λ_ s5 ⟨x,R,I5,r5,y5,t,G⟩=>?_);have K:=I5.pinned (j G) (T.obj _ _ t);refine oU y (aK (S _ s5 k R x u _ K r5 (step x R y5)) λ_ s6 ⟨L,H6,I6,q6⟩=>?_);refine oU y (aK (c _ s6 L H6 _ I6 q6) λf M q=>?_);have again:∀{a:St} {l:Hp},Inv X (pins++s8 fp s5.heap) a l M->N a l->∃m,m<n/\∃i σ' H',Inv X pins σ' H' M/\O i M.heap/\(∀b∈fp,H' b=none)/\W i m σ' H':=λ {a l} p n7=>by
   obtain⟨m',hm,w7⟩:=hN a l n7;refine⟨m',hm,i+1,a,l,p.tX,T.keep _ _ _ t λb c o e=>(p.pin (b,o) (ji _ (ji _ (vZ c e)))).1,λb c=>?_,w7⟩;obtain⟨o,e,d⟩:=T.obj _ _ t b c;exact(p.pin (b,o) (ji _ (ji _ (vZ c e)))).2.1
  cases f with
  |next=>obtain⟨a,l,p,n7⟩:=q;exact again p n7
  |cont=>obtain⟨a,l,p,n7⟩:=q;exact again p n7
  |brk=>obtain⟨a,l,p,q⟩:=q;exact⟨a,l,p.tX,q⟩
  |ret v=>obtain⟨x7,a,l,p,r7,q⟩:=q;exact⟨x7,a,l,p.tX,r7,q⟩
end
abbrev R2:=V->V->Hp->VK->Prop
def bL(X:Cx)(f:Value->Value->Sem Value)(r:R2):Prop:=
 ∀(pins:aZ) (s:Shared) (σ:St) (H:Hp) (x y:V) (v u:Value) (Q:VK),Inv X pins σ H s->RelV x v->RelV y u->r x y H Q->
  wpAny (model X.prog X.w) X.A (f v u) (EP X pins σ Q) X.xe s
def zy(X:Cx)(f:Value->Sem Value)(r:V->Hp->VK->Prop):Prop:=
 ∀(pins:aZ) (s:Shared) (σ:St) (H:Hp) (x:V) (v:Value) (Q:VK),Inv X pins σ H s->RelV x v->r x H Q->
  wpAny (model X.prog X.w) X.A (f v) (EP X pins σ Q) X.xe s
def eS(X:Cx)(f:Value)(r:List V->Hp->VK->Prop):Prop:=
 ∀(pins:aZ) (s:Shared) (σ:St) (H:Hp) (xs:List V) (us:List Value) (Q:VK),Inv X pins σ H s->Vals xs us->r xs H Q->
  wpAny (model X.prog X.w) X.A (call f us) (EP X pins σ Q) X.xe s
def tS(r:R2)(ta tb:TE):TE:=λσ H Q=>ta σ H λx H1=>tb σ H1 λy H2=>r x y H2 Q
def YF(r:V->Hp->VK->Prop)(ta:TE):TE:=λσ H Q=>ta σ H λx H1=>r x H1 Q
def rI(C:Int->Int->Prop)(g:Int->Int->V):R2:=λx y H Q=>∃i j,x=.int i/\y=.int j/\C i j/\Q (g i j) H
def jF(g:Int->Int->V):R2:=λx y H Q=>∃i j,x=.int i/\y=.int j/\Q (g i j) H
def rU(g:Int->V):V->Hp->VK->Prop:=λx H Q=>∃i,x=.int i/\Q (g i) H
section
variable{X:Cx}{a b c:Expr}{ta tb tc:TE}{pos:Pos}
theorem zE(g:PE X a ta)(i:PE X b tb){pins:aZ}{s:Shared}{σ:St}{H:Hp}{R:V->V->Hp->Prop}(I:Inv X pins σ H s)
  (h:ta σ H λx H1=>tb σ H1 λy H2=>R x y H2){Q:aT}{f:Value->Value->Sem Value}
  (j:∀v u e x y H2,Inv X pins σ H2 e->RelV x v->RelV y u->R x y H2->wpAny (model X.prog X.w) X.A (f v u) Q X.xe e):
  wpAny (model X.prog X.w) X.A (eval a X.env) (λv c=>wpAny (model X.prog X.w) X.A (eval b X.env) (λu d=>wpAny (model X.prog X.w) X.A (f v u) Q X.xe d) X.xe c) X.xe s:=by
 refine aK (g pins s σ H _ I h) λv k ⟨x,H1,l,m,n⟩=> ?_
 refine aK (i pins k σ H1 _ l n) λu e ⟨y,H2,o,p,q⟩=> ?_
 exact j v u e x y H2 o m p q
theorem UQ{op:Operator}{r:R2}(c:bL X (binaryOp op) r)(d:PE X a ta)(e:PE X b tb):PE X (.BinOp a op b pos) (tS r ta tb):=by
 intro pins s σ H Q I h;exact wpAny_BinOp (zE d e I h λv u f x y H2 g i j q=>c pins f σ H2 x y v u Q g i j q)
theorem UY{op:UnaryOp}{r:V->Hp->VK->Prop}(b:zy X (unaryOp op) r)(c:PE X a ta):PE X (.UnaryOp op a pos) (YF r ta):=by
 intro pins s σ H Q I h;exact UnaryOp_ (aK (c pins s σ H _ I h) λv d ⟨x,H1,e,f,g⟩=>b pins d σ H1 x v Q e f g)
theorem wu{f:Value->Value->Sem Value}{C:Int->Int->Prop}{g:Int->Int->Int}
  (rule:∀(i j:Int) (t u:Tok) (s:Shared) (Q:aT) (E:aT),C i j->Q (.int (g i j) s.toks) {s with toks:=s.toks+1}->wpAny (model X.prog X.w) X.A (f (.int i t) (.int j u)) Q E s):
  bL X f (rI C λi j=>.int (g i j)):=by
 intro pins s σ H x y v u Q I a b h;obtain⟨i,j,rfl,rfl,hc,q⟩:=h;obtain⟨t,rfl⟩:=a;obtain⟨t',rfl⟩:=b;exact rule i j t t' s _ _ hc ⟨.int (g i j),H,I.tok _,⟨_,rfl⟩,q⟩
theorem HU{f:Value->Value->Sem Value}{g:Int->Int->Int}
  (rule:∀(i j:Int) (t u:Tok) (s:Shared) (Q:aT) (E:aT),Q (.int (g i j) s.toks) {s with toks:=s.toks+1}->wpAny (model X.prog X.w) X.A (f (.int i t) (.int j u)) Q E s):
  bL X f (jF λi j=>.int (g i j)):=by
 intro pins s σ H x y v u Q I a b h;obtain⟨i,j,rfl,rfl,q⟩:=h;obtain⟨t,rfl⟩:=a;obtain⟨t',rfl⟩:=b;exact rule i j t t' s _ _ ⟨.int (g i j),H,I.tok _,⟨_,rfl⟩,q⟩
theorem Be{f:Value->Value->Sem Value}{g:Int->Int->Bool}
  (rule:∀(i j:Int) (t u:Tok) (s:Shared) (Q:aT) (E:aT),Q (.bool (g i j)) s->wpAny (model X.prog X.w) X.A (f (.int i t) (.int j u)) Q E s):
  bL X f (jF λi j=>.bl (g i j)):=by
 intro pins s σ H x y v u Q I a b h;obtain⟨i,j,rfl,rfl,q⟩:=h;obtain⟨t,rfl⟩:=a;obtain⟨t',rfl⟩:=b;exact rule i j t t' s _ _ ⟨.bl (g i j),H,I,rfl,q⟩
def CQ(i j:Int):Prop:=0<=j/\j<=1000000/\i.natAbs<2 ^ 64
def qV(i j:Int):Prop:=(-(2 ^ 64)<i/\i<2 ^ 64)\/(-(2 ^ 64)<j/\j<2 ^ 64)
theorem qV.ok{i j:Int}(h:qV i j):IntMulOk i j:=by
 rcases h with⟨h1,h2⟩|⟨h1,h2⟩
 .exact .of_left (intBits_le_64 h1 h2)
 .exact .of_right (intBits_le_64 h1 h2)
theorem T3:bL X (binaryOp .Add) (jF λi j=>.int (i+j)):=HU λ_ _ _ _ _ _ _ q=>add_int q
theorem Uq:bL X (binaryOp .Sub) (jF λi j=>.int (i - j)):=HU λ_ _ _ _ _ _ _ q=>sub_int q
theorem Ui:bL X (binaryOp .Mult) (rI qV λi j=>.int (i*j)):=wu λ_ _ _ _ _ _ _ hc q=>mul_int q hc.ok
theorem Uh:bL X (binaryOp .Mod) (rI (λ_ j=>0<j) λi j=>.int (i%j)):=wu λi j _ _ _ _ _ hc q=>by
 have h1:(0:Int)<j:=hc;exact mod_int' (by omega) (by rw[Int.fmod_eq_emod_of_nonneg i (by omega)];exact q)
theorem Uo:bL X (binaryOp .Pow) (rI CQ λi j=>.int (i ^ j.toNat)):=wu λ_ _ _ _ _ _ _ hc q=>pow_int_small hc.1 hc.2.1 hc.2.2 q
theorem Y5{f:Value->Sem Value}{g:Int->Int}
  (rule:∀(i:Int) (t:Tok) (s:Shared) (Q:aT) (E:aT),Q (.int (g i) s.toks) {s with toks:=s.toks+1}->wpAny (model X.prog X.w) X.A (f (.int i t)) Q E s):
  zy X f (rU λi=>.int (g i)):=by
 intro pins s σ H x v Q I a h;obtain⟨i,rfl,q⟩:=h;obtain⟨t,rfl⟩:=a;exact rule i t s _ _ ⟨.int (g i),H,I.tok _,⟨_,rfl⟩,q⟩
theorem Y6:zy X (unaryOp .USub) (rU λi=>.int (-i)):=Y5 λ_ _ _ _ _ q=>neg_int q
end
def Kf:V->V->Bool
 |.aG,.aG=>true|.aG,.int _=>true|.int _,.aG=>true|.aG,.bl _=>true|.bl _,.aG=>true|.aG,.str _=>true|.str _,.aG=>true
 |.int _,.int _=>true|.bl _,.bl _=>true|.str _,.str _=>true|.jU _,.jU _=>true
 |.int _,.str _=>true|.str _,.int _=>true|.bl _,.str _=>true|.str _,.bl _=>true
 |_,_=>false
def Bv:R2:=λx y H Q=>Kf x y=true/\Q (.bl (decide (x=y))) H
def By:R2:=λx y H Q=>Kf x y=true/\Q (.bl (!decide (x=y))) H
theorem Fc{i j:Int}:decide (V.int i=V.int j)=(i==j):=by
 rw[lX];simp
theorem E9{i j:Bool}:decide (V.bl i=V.bl j)=(i==j):=by
 rw[lX];simp
theorem Fd{i j:Str}:decide (V.str i=V.str j)=(i==j):=by
 rw[lX];simp
theorem E_{i j:Array UInt8}:decide (V.jU i=V.jU j)=(i.toList==j.toList):=by
 rw[lX];cases i;cases j;simp
section
variable{X:Cx}{a b c:Expr}{ta tb tc:TE}{pos:Pos}
theorem cS{pins:aZ}{σ:St}{H:Hp}{s:Shared}{Q:VK}{k a:Bool}(I:Inv X pins σ H s)(q:Q (.bl k) H)(e:k=a):EP X pins σ Q (.bool a) s:=by
 subst e;exact⟨.bl k,H,I,rfl,q⟩
theorem T9:bL X (compareOp .Eq) Bv:=by
 intro pins s σ H x y v u Q I c a h;obtain⟨b,q⟩:=h;cases x with
 |aG=>
  cases c;cases y with
  |aG=>cases a;exact PySem.EqNone.eq_none_none (cS I q (by simp))
  |bl j=>cases a;exact PySem.EqNone.eq_none_bool (cS I q (by simp))
  |int j=>obtain⟨t',rfl⟩:=a;exact PySem.EqNone.eq_none_int (cS I q (by simp))
  |str j=>obtain⟨t',rfl⟩:=a;exact PySem.EqNone.eq_none_str (cS I q (by simp))
  |_=>exact absurd (show false=true from b) bV
 |bl i=>
  cases c;cases y with
  |aG=>cases a;exact PySem.EqNone.eq_bool_none (cS I q (by simp))
  |bl j=>cases a;exact eq_bool (cS I q E9)
  |str j=>obtain⟨t',rfl⟩:=a;exact PySem.EqMixed.eq_bool_str (cS I q (by simp))
  |_=>exact absurd (show false=true from b) bV
 |int i=>
  obtain⟨t,rfl⟩:=c;cases y with
  |aG=>cases a;exact PySem.EqNone.eq_int_none (cS I q (by simp))
  |int j=>obtain⟨t',rfl⟩:=a;exact eq_int (cS I q Fc)
  |str j=>obtain⟨t',rfl⟩:=a;exact PySem.EqMixed.eq_int_str (cS I q (by simp))
  |_=>exact absurd (show false=true from b) bV
 |str i=>
  obtain⟨t,rfl⟩:=c;cases y with
  |aG=>cases a;exact PySem.EqNone.eq_str_none (cS I q (by simp))
  |bl j=>cases a;exact PySem.EqMixed.eq_str_bool (cS I q (by simp))
  |int j=>obtain⟨t',rfl⟩:=a;exact PySem.EqMixed.eq_str_int (cS I q (by simp))
  |str j=>obtain⟨t',rfl⟩:=a;exact eq_str (cS I q Fd)
  |_=>exact absurd (show false=true from b) bV
 |jU i=>
  obtain⟨t,rfl⟩:=c;cases y with
  |jU j=>obtain⟨t',rfl⟩:=a;exact PySem.W.eq_bytes (cS I q E_)
  |_=>exact absurd (show false=true from b) bV
 |_=>cases y<;>exact absurd (show false=true from b) bV
theorem Uj:bL X (compareOp .NotEq) By:=by
 intro pins s σ H x y v u Q I c a h;obtain⟨b,q⟩:=h;cases x with
 |aG=>
  cases c;cases y with
  |aG=>cases a;exact PySem.EqNone.ne_none_none (cS I q (by simp))
  |bl j=>cases a;exact PySem.EqNone.ne_none_bool (cS I q (by simp))
  |int j=>obtain⟨t',rfl⟩:=a;exact PySem.EqNone.ne_none_int (cS I q (by simp))
  |str j=>obtain⟨t',rfl⟩:=a;exact PySem.EqNone.ne_none_str (cS I q (by simp))
  |_=>exact absurd (show false=true from b) bV
 |bl i=>
  cases c;cases y with
  |aG=>cases a;exact PySem.EqNone.ne_bool_none (cS I q (by simp))
  |bl j=>cases a;exact ne_bool (cS I q (ck not E9))
  |str j=>obtain⟨t',rfl⟩:=a;exact PySem.EqMixed.ne_bool_str (cS I q (by simp))
  |_=>exact absurd (show false=true from b) bV
 |int i=>
  obtain⟨t,rfl⟩:=c;cases y with
  |aG=>cases a;exact PySem.EqNone.ne_int_none (cS I q (by simp))
  |int j=>obtain⟨t',rfl⟩:=a;exact ne_int (cS I q (ck not Fc))
  |str j=>obtain⟨t',rfl⟩:=a;exact PySem.EqMixed.ne_int_str (cS I q (by simp))
  |_=>exact absurd (show false=true from b) bV
 |str i=>
  obtain⟨t,rfl⟩:=c;cases y with
  |aG=>cases a;exact PySem.EqNone.ne_str_none (cS I q (by simp))
  |bl j=>cases a;exact PySem.EqMixed.ne_str_bool (cS I q (by simp))
  |int j=>obtain⟨t',rfl⟩:=a;exact PySem.EqMixed.ne_str_int (cS I q (by simp))
  |str j=>obtain⟨t',rfl⟩:=a;exact ne_str (cS I q (ck not Fd))
  |_=>exact absurd (show false=true from b) bV
 |jU i=>
  obtain⟨t,rfl⟩:=c;cases y with
  |jU j=>obtain⟨t',rfl⟩:=a;exact PySem.W.ne_bytes (cS I q (ck not E_))
  |_=>exact absurd (show false=true from b) bV
 |_=>cases y<;>exact absurd (show false=true from b) bV
theorem Ue:bL X (compareOp .Lt) (jF λi j=>.bl (decide (i<j))):=Be λ_ _ _ _ _ _ _ q=>lt_int q
theorem Uc:bL X (compareOp .LtE) (jF λi j=>.bl (decide (i<=j))):=Be λ_ _ _ _ _ _ _ q=>le_int q
theorem Ub:bL X (compareOp .Gt) (jF λi j=>.bl (decide (j<i))):=Be λ_ _ _ _ _ _ _ q=>gt_int q
theorem Ug:bL X (compareOp .Lt) (λx y H Q=>∃i j,x=.str i/\y=.str j/\Q (.bl (decide (i.cps.toList<j.cps.toList))) H):=by
 intro pins s σ H x y v u Q I a b h;obtain⟨i,j,rfl,rfl,q⟩:=h;obtain⟨t,rfl⟩:=a;obtain⟨t',rfl⟩:=b;exact lt_str (cS I q rfl)
theorem Um:bL X (compareOp .IsNot) (λx y H Q=>y=.aG/\Q (.bl (!decide (x=.aG))) H):=by
 intro pins s σ H x y v u Q I a b h;obtain⟨rfl,q⟩:=h;cases b;refine isnot_none_gen (cS I q ?_);cases x<;>first
  |(cases a;rfl)
  |(obtain⟨t,rfl⟩:=a;rfl)
theorem bL.or{f:Value->Value->Sem Value}{r r':R2}(h:bL X f r)(h':bL X f r'):bL X f (λx y H Q=>r x y H Q\/r' x y H Q):=by
 intro pins s σ H x y v u Q I a b q;rcases q with q|q
 .exact h pins s σ H x y v u Q I a b q
 .exact h' pins s σ H x y v u Q I a b q
theorem m5(b:Expr){op:CmpOp}(h:op≠ .In:=by decide)(h2:op≠ .NotIn:=by decide):behindInMarks op b=false:=by
 have a:(op==CmpOp.In)=false:=by cases op<;>first|rfl|exact absurd rfl h
 have c:(op==CmpOp.NotIn)=false:=by cases op<;>first|rfl|exact absurd rfl h2
 cases b<;>simp[behindInMarks,a,c]
theorem UD{op:CmpOp}{r:R2}(c:bL X (compareOp op) r)(d:PE X a ta)(e:PE X b tb)(f:behindInMarks op b=false):PE X (.Compare a [op] [b] pos) (tS r ta tb):=by
 intro pins s σ H Q I h;exact wpAny_Compare1 (zE d e I h λv u g x y H2 i j k q=>c pins g σ H2 x y v u Q i j k q) f
def BZ(t:TE):TT:=λσ H Q=>t σ H λx H'=>∃k,x=.bl k/\Q k H'
theorem VH{op:CmpOp}{r:R2}(d:bL X (compareOp op) r)(f:PE X a ta)(g:PE X b tb)(i:behindInMarks op b=false):PT X (.Compare a [op] [b] pos) (BZ (tS r ta tb)):=by
 intro pins s σ H Q I h;refine wpAny_isTrue_Compare1 (aK (f pins s σ H _ I h) λv j ⟨x,H1,l,m,n⟩=>aK (g pins j σ H1 _ l n) λu o ⟨y,H2,p,q,t⟩=>
  aK (d pins o σ H2 x y v u _ p m q t) λc D ⟨z,w,A,B,k,e,C⟩=>?_) i
 subst e;cases B;exact nA ⟨w,A,C⟩
def BW(r r':R2)(ta tb tc:TE):TE:=λσ H Q=>ta σ H λx H1=>tb σ H1 λy H2=>r x y H2 λz H3=>∃k,z=.bl k/\
 (if k=true then tc σ H3 λw' H4=>r' y w' H4 Q else Q (.bl false) H3)
theorem UC{op f:CmpOp}{r r':R2}(n:bL X (compareOp op) r)(g:bL X (compareOp f) r')(o:PE X a ta)(p:PE X b tb)(hc:PE X c tc)
  (q:lastMarks [op,f] [b,c]=false:=by with_unfolding_all rfl):PE X (.Compare a [op,f] [b,c] pos) (BW r r' ta tb tc):=by
 intro pins s σ H Q I h;refine Compare_chain (aK (o pins s σ H _ I h) λv t ⟨x,H1,w,A,B⟩=>chain_link (aK (p pins t σ H1 _ w B) λu C ⟨y,H2,D,i,E⟩=>
  aK (n pins C σ H2 x y v u _ D A i E) λd F ⟨z,j,l,G,k,e,m⟩=>?_)) q
 subst e;cases G;refine nA ?_;cases k with
 |false=>exact ite_ff ⟨.bl false,j,l,rfl,m⟩
 |true=>exact ite_tt (chain_last (aK (hc pins F σ j _ l m) λJ s4 ⟨K,L,M,N,O⟩=>g pins s4 σ L y K u J Q M i N O))
theorem VG{op f:CmpOp}{r r':R2}(n:bL X (compareOp op) r)(g:bL X (compareOp f) r')(o:PE X a ta)(p:PE X b tb)(hc:PE X c tc)
  (q:lastMarks [op,f] [b,c]=false:=by with_unfolding_all rfl):PT X (.Compare a [op,f] [b,c] pos) (BZ (BW r r' ta tb tc)):=by
 intro pins s σ H Q I h;refine isTrue_chain (aK (o pins s σ H _ I h) λv t ⟨x,H1,w,A,B⟩=>test_link (aK (p pins t σ H1 _ w B) λu C ⟨y,H2,D,i,E⟩=>
  aK (n pins C σ H2 x y v u _ D A i E) λd F ⟨z,j,l,G,k,e,m⟩=>?_)) q
 subst e;cases G;refine nA ?_;cases k with
 |false=>
  obtain⟨Y,J,K⟩:=m;cases J;exact ite_ff ⟨j,l,K⟩
 |true=>
  refine ite_tt (test_last (aK (hc pins F σ j _ l m) λL s4 ⟨M,N,O,P,R⟩=>aK (g pins s4 σ N y M u L _ O i P R) λd' s5 ⟨Z,S,T,U,k2,V,W⟩=>?_));subst V;cases U;exact nA ⟨S,T,W⟩
theorem ZM{κ:Type}{kvs:List (κ×V)}{vs:List (κ×Value)}(r:KV kvs vs):(!vs.isEmpty)= !kvs.isEmpty:=by
 cases r<;>rfl
theorem ZN{xs:List V}{its:List Value}(r:Vals xs its):(!its.toArray.isEmpty)= !xs.isEmpty:=by
 cases r<;>simp
theorem p5:(sizeLine:Nat)<2 ^ 63:=by rw[lZ];decide
theorem T4:bL X (binaryOp .Add) (λx y H Q=>∃i j,x=.str i/\y=.str j/\i.length+j.length<=sizeLine/\Q (.str (i++j)) H):=by
 intro pins s σ H x y v u Q I a b h;obtain⟨i,j,rfl,rfl,hz,q⟩:=h;obtain⟨t,rfl⟩:=a;obtain⟨t',rfl⟩:=b;exact add_str (λt' c=>⟨.str (i++j),H,I.tok _,⟨_,rfl⟩,q⟩) hz
theorem vals1{x:V}{a:List Value}(r:Vals [x] a):∃u,a=[u]/\RelV x u:=by
 cases r with
 |cons b c=>cases c;exact⟨_,rfl,b⟩
theorem vals2{x y:V}{a:List Value}(r:Vals [x,y] a):∃u b,a=[u,b]/\RelV x u/\RelV y b:=by
 cases r with
 |cons c d=>
  cases d with
  |cons e f=>cases f;exact⟨_,_,rfl,c,e⟩
theorem Mt(hc:X.calm=true):eS X (.builtin "max") (λxs H Q=>∃i j,xs=[.int i,.int j]/\Q (.int (if j>i then j else i)) H):=by
 intro pins s σ H xs b Q I r h;obtain⟨i,j,rfl,q⟩:=h;obtain⟨u,c,rfl,⟨t,rfl⟩,⟨t',rfl⟩⟩:=vals2 r;refine max_two_ints (I.ok.hd hc) λh' d k=>⟨_,H,I.kept k,?_,q⟩;by_cases a:j>i
 .rw[aA a,aA a];exact⟨_,rfl⟩
 .rw[ao a,ao a];exact⟨_,rfl⟩
end
structure y_(h:Heap)(x dx C:Addr)(mA:aC):Prop where
 obj:h.get? x=some (instObj C dx)
 ns:h.Ns1 dx mA
 ne:dx≠x
theorem Su{h:Heap}{dx:Addr}{c:aC}(n:h.Ns1 dx c):∃d,h.get? dx=some d/\∀name,lookIn name d=some (c name):=by
 obtain⟨o,es,ep,f,hd,g,_,i⟩:=n;refine⟨o,f,λname=>?_⟩;have e:=i name;unfold nsFind findBy at e;rw[<-Array.find?_toList] at e;unfold lookIn;rw[hd];dsimp only;split
 .rename_i y q
  rw[q] at e;exact ck some e
 .rename_i q
  rw[q] at e;have a:es.toList.any (·.refKey)=false:=by
   rw[List.any_eq_false];intro y j;obtain⟨z,t,b⟩:=g y (Array.mem_toList_iff.mp j);simp[DictEntry.refKey,b]
  have k:¬es.toList.any (·.refKey)=true:=by rw[a];exact bV
  rw[ao k];exact ck some e
theorem y_.look{h:Heap}{x dx C:Addr}{b:aC}(I:y_ h x dx C b):∃a,PySem.W.InstAt h x (instObj C dx) C (some a)/\∀name,lookIn name a=some (b name):=
 let ⟨a,c,d⟩:=Su I.ns
 ⟨a,⟨I.obj,rfl,rfl,c⟩,d⟩
theorem jS.some_of{v:V}{o:Option Value}(r:jS (some v) o):∃u,o=some u/\RelV v u:=by
 cases o with
 |none=>exact(show False from r).elim
 |some u=>exact⟨u,rfl,r⟩
section
variable{P:Program}{w:World}{H H':Hp}{h h':Heap}{a C dx:Addr}{fs fs':List (Str×V)}
theorem Rh(hok:cV P w H h)(e:H a=some (.ins C dx fs)):∃b,y_ h a dx C b/\(∀f,jS (fs.lookup f) (b f))/\PySem.Within b (fs.map (·.1))/\fs.length<=1000/\H dx=some (.own a):=by
 obtain⟨d,z,ne,c,b,n,r,q⟩:=(show b_ P w H h a (.ins C dx fs) from hok a _ e);exact⟨b,⟨c,n,ne⟩,r,q,z,d⟩
end
structure yO(K:Frag)(C:Addr):Prop where
 pg:plainGet K C Str.empty=true
 hd:PySem.W.hasDictIn K C=true
 po:PySem.W.plainOver K C=true
 sa:findIn K (.ref C) "__setattr__"=some (some (.builtin "object.__setattr__"))
theorem yO.get{K:Frag}{C:Addr}(c:yO K C)(f:Str):plainGet K C f=true:=c.pg
section
variable{X:Cx}{pins:aZ}{σ:St}{H:Hp}{s:Shared}{A:Around}{E:aT}{Q:aT}{c:Value}{b:Bool}
inductive iU(K:Frag)(H:Hp):V->Value->Prop where
 |aG:iU K H .aG (.type "NoneType")
 |bl (x:Bool):iU K H (.bl x) (.type "bool")
 |int (i:Int):iU K H (.int i) (.type "int")
 |str (x:Str):iU K H (.str x) (.type "str")
 |pP (x:UInt64):iU K H (.pP x) (.type "float")
 |lst {a:Addr} {xs:List V} (e:H a=some (.lst xs)):iU K H (.ref a) (.type "list")
 |bT {a:Addr} {o:Obj} {xs:List V} (e:H a=some (.bT o (.lst xs))):iU K H (.ref a) (.type "list")
 |tup {a:Addr} {xs:List V} (e:H a=some (.tup xs)):iU K H (.ref a) (.type "tuple")
 |dK {a:Addr} {kvs:List (Key×V)} (e:H a=some (.dK kvs)):iU K H (.ref a) (.type "dict")
 |dT {a:Addr} {kvs:List (List Key×V)} (e:H a=some (.dT kvs)):iU K H (.ref a) (.type "dict")
 |ins {a C dx:Addr} {fs:List (Str×V)} (e:H a=some (.ins C dx fs)) (cl:yO K C) (ha:findIn K (.ref C) "__class__"=some (some (.builtin "object.__class__")))
  (hn:PySem.W.specialIn K (.builtin "object.__class__") "__get__"=some (some (.builtin "getset_descriptor.__get__"))) (htk:PySem.W.takesIn K (.builtin "object.__class__")=some true)
  (hm:PySem.W.mroIn K C (.type "object")=some true):iU K H (.ref a) (.ref C)
theorem Ro{x:V}{u t:Value}(I:Inv X pins σ H s)(d:RelV x u)(ty:iU X.K H x t)(e:kitOne X.K t c=some b)(h:∀j,Q (.bool b) {s with toks:=j}):
  wpAny (model X.prog X.w) A (call (.builtin "isinstance") [u,c]) Q E s:=by
 cases ty with
 |aG=>cases (show u=Value.none from d);exact jh PySem.W.kitx_none I.f_ True.intro e (λz=>nomatch z) h
 |bl y=>cases (show u=Value.bool y from d);exact jh PySem.W.kitx_bool I.f_ True.intro e (λz=>nomatch z) h
 |int i=>obtain⟨t,q⟩:=(show ∃t,u=Value.int i t from d);cases q;exact jh PySem.W.kitx_int I.f_ True.intro e (λz=>nomatch z) h
 |str y=>obtain⟨t,q⟩:=(show ∃t,u=Value.str y t from d);cases q;exact jh PySem.W.kitx_str I.f_ True.intro e (λz=>nomatch z) h
 |pP y=>obtain⟨t,q⟩:=(show ∃t,u=Value.float y t from d);cases q;exact jh PySem.W.kitx_float I.f_ True.intro e (λz=>nomatch z) h
 | @lst a xs f=>
  cases (show u=Value.ref a from d);obtain⟨_,_,n,_,h1⟩:=(show b_ X.prog X.w H s.heap a (.lst xs) from I.hok a _ f);exact jh kitx_list I.f_ ⟨_,h1,rfl⟩ e (λz=>nomatch z) h
 | @bT a k xs f=>
  cases (show u=Value.ref a from d);obtain⟨_,_,_,n,_,h1⟩:=(show b_ X.prog X.w H s.heap a (.bT k (.lst xs)) from I.hok a _ f);exact jh kitx_list I.f_ ⟨_,h1,rfl⟩ e (λz=>nomatch z) h
 | @tup a xs f=>
  cases (show u=Value.ref a from d);obtain⟨_,_,_,p⟩:=(show b_ X.prog X.w H s.heap a (.tup xs) from I.hok a _ f);obtain⟨o,h1,h2,_⟩:=p.is;exact jh kitx_tuple I.f_ ⟨o,h1,h2⟩ e (λz=>nomatch z) h
 | @dK a kvs f=>
  cases (show u=Value.ref a from d);obtain⟨_,_,vs,_,p⟩:=(show b_ X.prog X.w H s.heap a (.dK kvs) from I.hok a _ f);obtain⟨o,es,ep,h1,h2,_⟩:=p;exact jh kitx_dict I.f_ ⟨o,h1,h2.1⟩ e (λz=>nomatch z) h
 | @dT a kvs f=>
  cases (show u=Value.ref a from d);obtain⟨_,_,xs,_,o,es,ep,h1,h2,_⟩:=(show b_ X.prog X.w H s.heap a (.dT kvs) from I.hok a _ f);exact jh kitx_dict I.f_ ⟨o,h1,h2.1⟩ e (λz=>nomatch z) h
 | @ins a C dx fs f cl l m g r=>
  cases (show u=Value.ref a from d);obtain⟨v,O,_⟩:=Rh I.hok f;obtain⟨B,J,_⟩:=O.look;exact jh (PySem.W.kitx_own (cl.get _) cl.hd l m g r) I.f_ J e (λz=>nomatch z) h
end
structure dZ(k:Nat)(A:Around):Prop where
 hd:A.handled=none
 dp:A.depth+3*k+5<recursionLimit
 un:A.units+16*k+200<cLine
theorem dZ.mono{j k:Nat}{A:Around}(r:dZ k A)(h:j<=k):dZ j A:=⟨r.hd,by have:=r.dp;omega,by have:=r.un;omega⟩
theorem dZ.deeper{k:Nat}{A:Around}(r:dZ (k+1) A)(env:Env):dZ k (A.deeper env):=
 ⟨r.hd,by have:=r.dp;show A.depth+1+3*k+5<_;omega,by have:=r.un;show A.units+3+16*k+200<_;omega⟩
theorem dZ.depth{k:Nat}{A:Around}(r:dZ k A):A.depth<recursionLimit:=by have:=r.dp;omega
theorem dZ.units{k:Nat}{A:Around}(r:dZ k A):A.units+64<cLine:=by have:=r.un;omega
def Yr:TA:=λ_ H Q=>Q [] H
def Yh(ta:TE)(tr:TA):TA:=λσ H Q=>ta σ H λx H1=>tr σ H1 λxs H2=>Q (x::xs) H2
section
variable{X:Cx}{e:Expr}{es:List Expr}{te:TE}{t:TA}{pos:Pos}
theorem HW:PA X [] Yr:=λ_ _ _ _ H Q I h=>yj ⟨[],H,I,.nil,h⟩
theorem Bg(a:PE X e te)(b:PA X es t)(c:starEach (e::es) X.env=(false,eval e X.env)::starEach es X.env:=by rfl):PA X (e::es) (Yh te t):=by
 intro pos pins s σ H Q I h;rw[c];show wpAny _ _ (spliced ((false,eval e X.env)::backTo pos (starEach es X.env))) _ _ s;refine yi (aK (a pins s σ H _ I h) λu d ⟨x,H1,f,g,i⟩=>?_);exact aK (b pos pins d σ H1 _ f i) λm n ⟨xs,H2,j,k,l⟩=>⟨x::xs,H2,j,.cons g k,l⟩
def YD(t:TA):TE:=λσ H Q=>t σ H λxs H1=>xs.length<=sizeLine/\∀p,H1 p=none->Q (.ref p) (upd H1 p (.tup xs))
def Yp(t:TA):TE:=λσ H Q=>t σ H λxs H1=>xs.length<=sizeLine/\∀p,H1 p=none->Q (.ref p) (upd H1 p (.lst xs))
theorem UW{d}(h:PA X es t):PE X (.Tuple es d pos) (YD t):=by
 intro pins s σ H Q I f;refine wpAny_Tuple_spliced (aK (h pos pins s σ H _ I f) λg a ⟨xs,H1,c,r,z,q⟩=>⟨by rw[<-r.length];exact z,?_⟩);have i:H1 a.heap.objs.size=none:=c.hok.fresh (aF _);refine⟨.ref a.heap.objs.size,upd H1 a.heap.objs.size (.tup xs),c.laid (t':=a.toks) (λb u e=>bg _ e) (aF _) ?_,rfl,q _ i⟩;exact⟨z,g,r,⟨_,b9 _ rfl⟩⟩
theorem UN(h:PA X es t):PE X (.List es pos) (Yp t):=by
 intro pins s σ H Q I d;refine wpAny_List_spliced (aK (h pos pins s σ H _ I d) λf a ⟨xs,H1,c,r,z,q⟩=>⟨by rw[<-r.length];exact z,?_⟩);have g:H1 a.heap.objs.size=none:=c.hok.fresh (aF _);refine⟨.ref a.heap.objs.size,upd H1 a.heap.objs.size (.lst xs),c.laid (t':=a.toks) (λb u e=>bg _ e) (aF _) ?_,rfl,q _ g⟩;exact⟨z,f,0,r,b9 _ rfl⟩
end
abbrev Sp:=List V->Hp->VK->XK->Prop
abbrev jn:=List Env->Hp->Shared->XK->aT
structure uE(P:Program)(w:World)(K:Frag)(mg:aC)(base:Heap)(A:Around)(outer:List Env)(s:Shared)(H:Hp):Prop where
 frames:A.frames=some outer
 mod:Mod K mg base
 bs:∀b o,base.get? b=some o->s.heap.get? b=some o/\H b=none
 nO:base.objs.size<=s.heap.objs.size
 kJ:s.heap.FunFrames base outer
 pQ:∀b∈frs outer,H b=none
 hok:cV P w H s.heap
 bare:AllBare s.gens
def CE(outer:List Env)(P:Program)(w:World)(H:Hp)(s:Shared)(Q:VK)(u:Value)(s':Shared):Prop:=
 ∃v H',s'.os=s.os/\AllBare s'.gens/\Un (frs outer) [] H H' s.heap s'.heap/\cV P w H' s'.heap/\RelV v u/\Q v H'
def CR(CX:jn)(outer:List Env)(P:Program)(w:World)(H:Hp)(s:Shared)(Q:VK)(E:XK)(r:Result)(s':Shared):Prop:=
 match r with
 |.ok (.ret u)=>CE outer P w H s Q u s'
 |.ok _=>False
 |.error e=>CX outer H s E e s'
structure gk(P:Program)(w:World)(K:Frag)(mg:aC)(base:Heap)(CX:jn)(k:Nat)(f:Addr)(fd:FuncData)(ps:List Str)(sp:Sp):Prop where
 len:∀vs H Q E,sp vs H Q E->vs.length=ps.length
 run:∀(A:Around) (outer:List Env) (s:Shared) (H:Hp) (args:Args) (us:List Value) (vs:List V) (Q:VK) (E:XK),dZ k A->uE P w K mg base A outer s H->BindsTo s fd args (ps.zip us)->Vals vs us->sp vs H Q E->
  codeAny (model P w) A (.call (.ref f) args) (CR CX outer P w H s Q E) s
theorem gk.mono{P:Program}{w:World}{K:Frag}{mg:aC}{base:Heap}{CX:jn}{j k:Nat}{f:Addr}{fd:FuncData}{ps:List Str}{sp:Sp}(F:gk P w K mg base CX j f fd ps sp)(h:j<=k):
 gk P w K mg base CX k f fd ps sp:=⟨F.len,λA outer s H args a vs Q E b=>F.run A outer s H args a vs Q E (b.mono h)⟩
theorem gk.imp{P:Program}{w:World}{K:Frag}{mg:aC}{base:Heap}{CX:jn}{k:Nat}{f:Addr}{fd:FuncData}{ps:List Str}{sp a:Sp}(F:gk P w K mg base CX k f fd ps sp)
  (h:∀vs H Q E,a vs H Q E->sp vs H Q E):gk P w K mg base CX k f fd ps a:=
 ⟨λvs H Q E q=>F.len vs H Q E (h _ _ _ _ q),λA outer s H args b vs Q E c d e g i=>F.run A outer s H args b vs Q E c d e g (h _ _ _ _ i)⟩
section
variable{X:Cx}{pins:aZ}{σ:St}{H:Hp}{s s':Shared}
theorem Inv.Oe(I:Inv X pins σ H s):uE X.prog X.w X.K X.mg X.base X.A X.stack s H:=
 ⟨I.ok.frames,I.ok.mod,I.bs,cG I.ok.nO I.sz,I.stack,I.BR,I.hok,I.bare⟩
theorem Inv.after{Q:VK}{u:Value}(I:Inv X pins σ H s)(h:CE X.stack X.prog X.w H s Q u s'):EP X pins σ Q u s':=by
 obtain⟨v,H',os,bare,un,hok,r,q⟩:=h;obtain⟨c,g,d,t,a⟩:=s';obtain rfl:a=s.os:=os;exact⟨v,H',I.call (h':=c) (g':=g) (d':=d) (t':=t) (ch:=[]) un hok bare (λb z=>absurd z (by simp)),r,q⟩
end
def KQ(sp:Sp)(mT:List V)(E:XK)(t:TA):TE:=λσ H Q=>t σ H λvs H1=>sp (vs++mT) H1 Q E
def Binds(K:Frag)(fd:FuncData)(ps:List Str)(ds:List Value):Prop:=
 ∀(s:Shared) (us:List Value),K.In s.heap->(us++ds).length=ps.length->BindsTo s fd ⟨us,[]⟩ (ps.zip (us++ds))
theorem Binds.all{K:Frag}{fd:FuncData}{ps:List Str}(h:∀a:List Value,a.length=ps.length->bindArgs fd ⟨a,[]⟩=pure (ps.zip a)):Binds K fd ps []:=λs a _ b=>by
 rw[mq] at b ⊢;exact .of_eq (h a b)
def Passes(CX:jn)(X:Cx)(E:XK):Prop:=∀(pins:aZ) (σ:St) (H:Hp) (s:Shared) (e:Value) (s':Shared),Inv X pins σ H s->CX X.stack H s E e s'->X.xe e s'
section
variable{X:Cx}{CX:jn}{k:Nat}{f C:Addr}{fd:FuncData}{ps:List Str}{sp:Sp}{mT:List V}{ds:List Value}{E:XK}{x m:Str}{p pos apos:Pos}{e o:Expr}{es:List Expr}{ta:TE}{t:TA}
theorem Wd{pins:aZ}{σ:St}{H:Hp}{s:Shared}{Q:VK}{a:List Value}{vs:List V}(F:gk X.prog X.w X.K X.mg X.base CX k f fd ps sp)(d:dZ k X.A)(g:Binds X.K fd ps ds)(hd:Vals mT ds)(i:Passes CX X E)
  (I:Inv X pins σ H s)(r:Vals vs a)(h:sp (vs++mT) H Q E):wpAny (model X.prog X.w) X.A (call (.ref f) a) (EP X pins σ Q) X.xe s:=by
 have c:Vals (vs++mT) (a++ds):=r.append hd;have j:(a++ds).length=ps.length:=by rw[<-c.length];exact F.len _ _ _ _ h
 refine wpAny_call (lu (F.run X.A X.stack s H ⟨a,[]⟩ (a++ds) (vs++mT) Q E d I.Oe (g s a I.f_ j) c h) λr s' b=>?_);cases r with
 |error e=>exact i pins σ H s e s' I b
 |ok fl=>
  cases fl with
  |ret u=>exact I.after b
  |next=>exact False.elim b
  |brk=>exact False.elim b
  |cont=>exact False.elim b
theorem Uz(F:gk X.prog X.w X.K X.mg X.base CX k f fd ps sp)(d:dZ k X.A)(g:Gl X x)(i:X.mg x=some (.ref f))(j:keepIn X.K (.ref f)=true)(l:Binds X.K fd ps ds)(hd:Vals mT ds)(m:Passes CX X E)
  (n:PA X (e::es) t)(a:(x==("__debug__":Str))=false:=by decide)(o:starEach (e::es) X.env=(false,eval e X.env)::starEach es X.env:=by rfl)(b:(backTo pos (starEach es X.env)).any (·.1)=false:=by rfl):
  PE X (.Call (.Name x p) (e::es) [] pos) (KQ sp mT E t):=by
 intro pins s σ H Q I h;refine l_ (AM I g i ?_ a);refine PySem.W.callWith_K (h₀:=X.base) I.ok.mod.vO j (aK (n pos pins s σ H _ I h) λu v ⟨vs,H1,c,r,q⟩=>⟨c.f_,?_⟩) o b;exact Wd F d l hd m c r q
end
structure aX(N P:List Str)(sc:Scope):Prop where
 kind:sc.kind= .function
 co:sc.isCoroutine=false
 gen:sc.isGenerator=false
 nd:N.Nodup
 pre:N.take P.length=P
 par:∀x∈P,sc.names.lookup x=some .local\/sc.names.lookup x=some .cell
 Bc:∀y∈sc.names,y.2≠ .free
theorem Eo{kindOf:Str->Option NameKind}{x:Str}:∀{binds:List (Str×Value)} {m:aC},(∀v,(x,v)∉binds)->bindL kindOf binds m x=m x
 |[],_,_=>rfl
 |(n,v)::r,m,h=>by
  unfold bindL;rw[Eo λw a=>h w (bq _ a)];split
  .have:x≠n:=by rintro rfl;exact h v aU
   simp[this]
  .rfl
theorem El{kindOf:Str->Option NameKind}{x:Str}:∀{binds:List (Str×Value)} {m:aC},(∀v,(x,v)∉binds)->bindC kindOf binds m x=m x
 |[],_,_=>rfl
 |(n,v)::r,m,h=>by
  unfold bindC;rw[El λw a=>h w (bq _ a)];split
  .rfl
  .have:x≠n:=by rintro rfl;exact h v aU
   simp[this]
theorem Em{kindOf:Str->Option NameKind}{x:Str}{v:Value}:∀{P:List Str} {vs:List Value} {i:Nat} {m:aC},P.Nodup->P[i]?=some x->vs[i]?=some v->kindOf x=some .local->
  bindL kindOf (P.zip vs) m x=some v
 |[],_,_,_,_,h,_,_=>by simp at h
 |_::_,[],_,_,_,_,h,_=>by simp at h
 |p::P,w::vs,0,m,nd,h1,h2,a=>by
  simp at h1 h2;subst h1;subst h2;show bindL kindOf ((p,w)::P.zip vs) m p=_;unfold bindL;rw[Eo λv b=>(iQ.mp nd).1 (of_mem_zip b).1,aA a];simp
 |p::P,w::vs,i+1,m,nd,h1,h2,a=>by
  show bindL kindOf ((p,w)::P.zip vs) m x=_;unfold bindL;exact Em (i:=i) (iQ.mp nd).2 (by simpa using h1) (by simpa using h2) a
theorem Ek{kindOf:Str->Option NameKind}{x:Str}{v:Value}:∀{P:List Str} {vs:List Value} {i:Nat} {m:aC},P.Nodup->P[i]?=some x->vs[i]?=some v->kindOf x≠some .local->
  bindC kindOf (P.zip vs) m x=some v
 |[],_,_,_,_,h,_,_=>by simp at h
 |_::_,[],_,_,_,_,h,_=>by simp at h
 |p::P,w::vs,0,m,nd,h1,h2,a=>by
  simp at h1 h2;subst h1;subst h2;show bindC kindOf ((p,w)::P.zip vs) m p=_;unfold bindC;rw[El λv b=>(iQ.mp nd).1 (of_mem_zip b).1,ao a];simp
 |p::P,w::vs,i+1,m,nd,h1,h2,a=>by
  show bindC kindOf ((p,w)::P.zip vs) m x=_;unfold bindC;exact Ek (i:=i) (iQ.mp nd).2 (by simpa using h1) (by simpa using h2) a
def start(N:List Str)(vs:List V):St:=vs.map some++replicate (N.length - vs.length) none
def c7(CX:jn)(P:Program)(w:World)(K:Frag)(mg:aC)(base:Heap)(N:List Str)(qual:Str)(scope:Scope)(f:Addr)(cd:Value)(A:Around)(outer:List Env)(s:Shared)(H:Hp)(E:XK):Cx where
 prog:=P
 w:=w
 K:=K
 mg:=mg
 base:=base
 A:=A.deeper (envOfC qual scope s.heap.objs.size f cd)
 N:=N
 s₀:=s
 H₀:=H
 env:=envOfC qual scope s.heap.objs.size f cd
 outer:=outer
 stack:=envOfC qual scope s.heap.objs.size f cd::outer
 ex:=[]
 calm:=true
 fn:=λ_=>true
 pn:=[]
 xe:=λe s'=>wpAny (model P w) (A.deeper (envOfC qual scope s.heap.objs.size f cd)) (leaving (envOfC qual scope s.heap.objs.size f cd) e) (λ_ s''=>CX outer H s E e s'') (λe' s''=>CX outer H s E e' s'') s'
theorem EA{sc:Scope}{n:Nat}{x:Str}(h:sc.names.lookup x=some .cell):∃c,(cellsFrom n sc.names []).lookup x=some c:=by
 have q:=PySem.W.cellsFrom_some sc.names n [] (.inl h);exact qt.mp q
theorem Rk{CX:jn}{P:Program}{w:World}{K:Frag}{mg:aC}{base:Heap}{N ps:List Str}{qual:Str}{scope:Scope}{f:Addr}{cd:Value}{A:Around}{outer:List Env}{s o:Shared}{H:Hp}{E:XK}{m:List Value}{vs:List V}
  (S:aX N ps scope)(hd:A.handled=none)(d:uE P w K mg base A outer s H)(G:vs.length=ps.length)(r:Vals vs m)
  (x:InCallC s s.heap.objs.size (bindL (envOfC qual scope s.heap.objs.size f cd).kindOf (ps.zip m) λ_=>none) (cellsFrom (s.heap.objs.size+1) scope.names []) (bindC (envOfC qual scope s.heap.objs.size f cd).kindOf (ps.zip m) λ_=>none) o):
  Inv (c7 CX P w K mg base N qual scope f cd A outer s H E) [] (start N vs) H o:=by
 have C:ps.length<=N.length:=by have:=ck List.length S.pre;rw[kZ] at this;omega
 obtain⟨h1,I,rfl,t⟩:=x.done
 have g:∀b:Addr,b∉(c7 CX P w K mg base N qual scope f cd A outer s H E).ex:=λb z=>absurd (show b∈([]:List Addr) from z) (by simp)
 refine⟨⟨d.mod,S.kind,rfl,rfl,aF _,λy z c h1 h2=> ?_,λy hy=> ?_,λy c _ h=> ?_,λ_=>hd,Around.frames_deeper d.frames,.inr ⟨rfl,rfl⟩,λb z=>absurd z (g b),d.bs,d.nO,λb _ _=>g b,λb z=>absurd z (g b),d.kJ,d.pQ⟩,
  rfl,d.bare,Un.kept t,⟨_,x.toInCall.ns,λi y v h1 h2 J=> ?_⟩,λy c h=>⟨_,x.cell y c h⟩,d.hok.fresh (aF _),λy c h=> ?_,λp j=>absurd (show p∈([]:aZ) from j) (by simp),d.hok.kept t,?_⟩
 .exact name_of_addr x.apart (oY h1) (oY h2)
 .have hy:scope.names.lookup y=some .cell\/scope.names.lookup y=some .free:=hy
  rcases hy with hy|hy
  .exact EA hy
  .exact absurd rfl (S.Bc _ (oY hy))
 .exact iB (x.above y c (oY h))
 .have hi:i<vs.length:=by
   unfold start at h2
   by_cases hi:i<vs.length
   .exact hi
   .rw[qT (by simpa using hi)] at h2
    rw[List.getElem?_replicate] at h2
    split at h2<;>cases h2
  have D:vs[i]? =some v:=by
   unfold start at h2
   rw[iC (by simpa using hi),cu] at h2
   cases e:vs[i]? with
   |none=>rw[e] at h2;cases h2
   |some a=>rw[e] at h2;cases h2;rfl
  obtain⟨u,B,F⟩:=r.get D
  have j:ps[i]? =some y:=by
   rw[<-S.pre,List.getElem?_take_of_lt (by omega)];exact h1
  have l:ps.Nodup:=by rw[<-S.pre];exact S.nd.sublist (List.take_sublist _ _)
  refine⟨u,F,?_⟩
  rcases S.par y (cU j) with k|k
  .exact .inl ⟨k,Em l j B k⟩
  .obtain⟨c,e⟩:=EA (n:=s.heap.objs.size+1) k
   refine .inr ⟨.inl k,c,e,?_⟩
   have q:=x.cell y c e
   rw[Ek l j B (by show scope.names.lookup y≠_;rw[k];decide)] at q
   exact q
 .exact d.hok.fresh (iB (x.above y c (oY h)))
 .unfold start
  show _=N.length
  rw[cJ,aM,List.length_replicate]
  omega
theorem FW{CX:jn}{P:Program}{w:World}{K:Frag}{mg:aC}{base:Heap}{k:Nat}{f:Addr}{name qual:Str}{params:Arguments}{body:List Stmt}{scope:Scope}{z kV doc pm a ct D:Value}{an F:Option Addr}
  {j:Array (Option Value)}{N ps:List Str}{sp:Sp}(lk:K.lookup f=some ⟨D,F,.func (fnOf name qual params body scope z kV doc pm an a ct),j⟩)(l:codeIn K a qual=true)(S:aX N ps scope)
  (len:∀vs H Q E,sp vs H Q E->vs.length=ps.length)
  (c:∀(A:Around) (outer:List Env) (s:Shared) (H:Hp) (vs:List V) (Q:VK) (E:XK),dZ k (A.deeper (envOfC qual scope s.heap.objs.size f a))->sp vs H Q E->
   ∃t,dY (c7 CX P w K mg base N qual scope f a A outer s H E) body t/\t {nx:=λ_ H'=>Q .aG H',rt:=Q} (start N vs) H):
  gk P w K mg base CX (k+1) f (fnOf name qual params body scope z kV doc pm an a ct) ps sp:=by
 refine⟨len,λA outer s H args G vs Q E m h L r i=> ?_⟩
 have M:=len _ _ _ _ i
 have B:K.In s.heap:=h.mod.vO.keeps λb o e=>(h.bs b o e).1
 have lim:s.heap.NoLimit:=h.mod.nolimit.keeps λb o e=>(h.bs b o e).1
 have d:∀y∈ps.zip G,scope.names.lookup y.1=some .local\/(scope.names.lookup y.1=some .cell/\((cellsFrom (s.heap.objs.size+1) scope.names []).lookup y.1).isSome=true):=λ⟨n,v⟩ O=>by
  rcases S.par n (of_mem_zip O).1 with q|q
  .exact .inl q
  .exact .inr ⟨q,PySem.W.cellsFrom_some _ _ _ (.inl q)⟩
 refine codeAny_call_function m.depth (B _ _ lk) rfl S.co S.gen rfl (PySem.W.codeRec_of B l) (L _ _ _ _ ?_)
 refine wpAny_newFunctionEnv_cells S.kind d λenv R C x=> ?_
 subst R
 refine⟨lim.keeps x.toInCall.keep,codeAny_func ?_⟩
 obtain⟨t,T,U⟩:=c A outer s H vs Q E (m.deeper _) i
 have I:Inv (c7 CX P w K mg base N qual scope f a A outer s H E) [] (start N vs) H C:=Rk S m.hd h M r x
 refine k9 (T [] C (start N vs) H _ I U) (λfl s' g=> ?_) λe s' g=>g
 have fin:∀{σ':St} {H':Hp} {v:V} {u:Value},Inv (c7 CX P w K mg base N qual scope f a A outer s H E) [] σ' H' s'->RelV v u->Q v H'->CE outer P w H s Q u s':=
  λ {σ' H' v u} J p q=>⟨v,H',J.os,J.bare,J.base,J.hok,p,q⟩
 cases fl with
 |ret u=>
  obtain⟨v,σ',H',J,p,q⟩:=g
  exact fin J p q
 |next=>
  obtain⟨σ',H',J,q⟩:=g
  exact fin (v:=V.aG) (u:=Value.none) J rfl q
 |brk=>
  obtain⟨_,_,_,q⟩:=g
  exact False.elim q
 |cont=>
  obtain⟨_,_,_,q⟩:=g
  exact False.elim q
section
variable{X:Cx}{x:Str}{p pos:Pos}{e:Expr}{es:List Expr}{t:TA}{id T:String}{r:List V->Hp->VK->Prop}
def BV(r:List V->Hp->VK->Prop)(t:TA):TE:=λσ H Q=>t σ H λvs H1=>r vs H1 Q
theorem H_(hc:eS X (.builtin id) r)(c:Gl X x)(d:X.mg x=none)(f:bootBuiltins x=some (.builtin id))(g:PA X (e::es) t)(i:x≠"__name__":=by decide)(a:(x==("__debug__":Str))=false:=by decide)
  (j:starEach (e::es) X.env=(false,eval e X.env)::starEach es X.env:=by rfl)(b:(backTo pos (starEach es X.env)).any (·.1)=false:=by rfl):PE X (.Call (.Name x p) (e::es) [] pos) (BV r t):=by
 intro pins s σ H Q I h;refine l_ (jA I c d f ?_ i a);exact Cr (aK (g pos pins s σ H _ I h) λk l ⟨vs,H1,m,n,o⟩=>hc pins l σ H1 vs k Q m n o) j b
theorem UA(hc:eS X (.type T) r)(c:Gl X x)(d:X.mg x=none)(f:bootBuiltins x=some (.type T))(g:PA X (e::es) t)(i:x≠"__name__":=by decide)(a:(x==("__debug__":Str))=false:=by decide)
  (j:starEach (e::es) X.env=(false,eval e X.env)::starEach es X.env:=by rfl)(b:(backTo pos (starEach es X.env)).any (·.1)=false:=by rfl):PE X (.Call (.Name x p) (e::es) [] pos) (BV r t):=by
 intro pins s σ H Q I h;refine l_ (jA I c d f ?_ i a);exact nj (aK (g pos pins s σ H _ I h) λk l ⟨vs,H1,m,n,o⟩=>hc pins l σ H1 vs k Q m n o) j b
end
end L2
end
namespace HT
open PySem PyProof.Rows
section
variable{prog:Program}{w:World}{A:Around}{E:aT}{s:Shared}
theorem ME{t b:Addr}{vs ws:List Value}{Q:aT}(l:IsTup s.heap t vs.toArray)(m:IsTup s.heap b ws.toArray)(i:vs≠[])
  (h1:ws=[]->Q (.ref t) s)(h2:ws≠[]->Q (.ref s.heap.objs.size) {s with heap:=s.heap.push {cls:= .type "tuple",data:= .seq (vs++ws).toArray}})
  (hsz:vs.length+ws.length<=sizeLine):wpAny (model prog w) A (binaryOp .Add (.ref t) (.ref b)) Q E s:=by
 obtain⟨⟨cls,dd,data,j⟩,g,hc,n,hd⟩:=id l
 obtain⟨⟨k,c,data2,d⟩,a,f,n2,hd2⟩:=id m
 simp only at hc hd f hd2
 subst hc hd f hd2
 have e:vs.toArray++ws.toArray=(vs++ws).toArray:=by simp
 by_cases h:ws=[]
 .exact concat_meets ⟨_,g,rfl⟩ ⟨_,a,rfl⟩ noFill_tuple_add seq_tuple_add slot_tuple_add entry_tuple_add (args_tuple_add_2 _ _)
   (tuple_addW1 t b vs.toArray ws.toArray n n2 dd c j d (by simpa using i) (by simp[h])) ⟨g,a,h1 h⟩
 .refine concat_meets ⟨_,g,rfl⟩ ⟨_,a,rfl⟩ noFill_tuple_add seq_tuple_add slot_tuple_add entry_tuple_add (args_tuple_add_2 _ _)
   (tuple_addW2 t b vs.toArray ws.toArray n n2 dd c j d (by simpa using i) (by simpa using h) (by rw[cj,cj];exact hsz)) ⟨g,a,?_⟩
  rw[e]
  exact h2 h
def bu(n d:Nat):Option Int->Nat
 |none=>d
 |some v=>if v<0 then (v+(n:Int)).toNat else min v.toNat n
theorem Wk(n d:Nat):bu n d none=d:=rfl
theorem Wj(n d:Nat)(hd:d<=n)(o:Option Int):bu n d o<=n:=by
 cases o with
 |none=>exact hd
 |some v=>
  show(if v<0 then (v+(n:Int)).toNat else min v.toNat n)<=n;by_cases a:v<0
  .rw[aA a];omega
  .rw[ao a];exact Nat.min_le_right _ _
theorem ED(v:Int)(n d:Nat):(if v<0 then max (v+(n:Int)) 0 else min v (n:Int))=((bu n d (some v):Nat):Int):=by
 show(if v<0 then max (v+(n:Int)) 0 else min v (n:Int))=(((if v<0 then (v+(n:Int)).toNat else min v.toNat n):Nat):Int);by_cases a:v<0
 .simp only[aA a];omega
 .simp only[ao a];omega
theorem L5(lo hi:Option Int)(n:Nat):Builtin.Slice.sliceAdjust lo hi 1 (n:Int)=(((bu n 0 lo:Nat):Int),((bu n n hi:Nat):Int)):=by
 have h1:¬((1:Int)<0):=by omega
 unfold Builtin.Slice.sliceAdjust;simp only[h1,gv];refine Prod.ext ?_ ?_
 .cases lo with
  |none=>rfl
  |some v=>exact ED v n 0
 .cases hi with
  |none=>rfl
  |some v=>exact ED v n n
theorem Vf(i j:Nat):Builtin.Slice.slicePlaces (i:Int) (j:Int) 1=j - i:=by
 unfold Builtin.Slice.slicePlaces;have h1:(1:Int)>0:=by omega
 simp only[h1,lV,Int.ediv_one];split<;>omega
theorem Kp{v:Value}{o:Option Int}{Q:Option Int->Shared->Prop}(p:IsPart v o)(h:Q o s):wpAny (model prog w) A (Builtin.Slice.slicePartIndex v) Q E s:=by
 cases p with
 |none=>exact slicePart_none h
 |int i t=>exact slicePart_int h
theorem XG{e:Addr}{c d:Value}{lo hi:Option Int}{n:Nat}{Q:Int×Int×Nat->Shared->Prop}(f:s.heap.IsSliceOf e c d .none)(pl:IsPart c lo)(pu:IsPart d hi)
  (h:Q (((bu n 0 lo:Nat):Int),1,bu n n hi - bu n 0 lo) s):wpAny (model prog w) A (Builtin.Slice.sliceApplied (.ref e) (pure (n:Int))) Q E s:=by
 obtain⟨os,a,g,b⟩:=id f;unfold Builtin.Slice.sliceApplied Builtin.Slice.sliceFields;refine ah (ah (j_ a b (x:=c) rfl (ah (j_ a b (x:=d) rfl (ah (j_ a b (x:=.none) rfl (aB ?_)))))));refine ah (slicePart_none ?_);show wpAny _ _ (if ((1:Int)==0)=true then _ else _) _ _ s;rw[ao (by decide)];refine ah (Kp pl (ah (Kp pu (ah (aB ?_)))));show wpAny _ _ (match Builtin.Slice.sliceAdjust lo hi 1 (n:Int) with|(lo,hi)=>pure (lo,(1:Int),Builtin.Slice.slicePlaces lo hi 1)) _ _ s;rw[L5 lo hi n];show wpAny _ _ (pure (((bu n 0 lo:Nat):Int),(1:Int),Builtin.Slice.slicePlaces ((bu n 0 lo:Nat):Int) ((bu n n hi:Nat):Int) 1)) _ _ s;rw[Vf];exact aB h
theorem U'(xs:Array Value)(i k:Nat):((range k).filterMap λ(m:Nat)=>xs[((i:Int)+(m:Int)*1).toNat]?).toArray=((xs.toList.drop i).take k).toArray:=by
 have e:(λ(m:Nat)=>xs[((i:Int)+(m:Int)*1).toNat]?)=λm=>xs[i+m]? :=by
  funext m;have:((i:Int)+(m:Int)*1).toNat=i+m:=by omega
  rw[this]
 rw[e];have:=pick_run xs i k;rw[List.filterMap_map] at this;have a:((λx=>xs[x]?)∘λx=>i+x)=λm=>xs[i+m]? :=rfl;rw[a] at this;rw[this]
theorem Qg{t c:Addr}{items:Array Value}{i j:Value}{lo hi:Option Int}{Q:aT}(b:IsTup s.heap t items)(k:s.heap.IsSliceOf c i j .none)(pl:IsPart i lo)(pu:IsPart j hi)
  (l:¬(bu items.size 0 lo=0/\bu items.size items.size hi=items.size))
  (h:Q (.ref s.heap.objs.size) {s with heap:=s.heap.push {cls:= .type "tuple",data:= .seq ((items.toList.drop (bu items.size 0 lo)).take (bu items.size items.size hi - bu items.size 0 lo)).toArray}})
  (hsz:items.size<=sizeLine):wpAny (model prog w) A (getItem (.ref t) (.ref c)) Q E s:=by
 have a:sizeOk (.seq ((items.toList.drop (bu items.size 0 lo)).take (bu items.size items.size hi - bu items.size 0 lo)).toArray):=by
  show((items.toList.drop (bu items.size 0 lo)).take (bu items.size items.size hi - bu items.size 0 lo)).toArray.size<=sizeLine
  rw[cj,kZ,qv,eN]
  omega
 have o:bu items.size items.size hi<=items.size:=Wj _ _ (aF _) hi
 obtain⟨os,d,e,n⟩:=id k
 have f:s.TypeIs (.ref c) "slice":=⟨os,d,e⟩
 unfold getItem
 try with_reducible refine eY ?_
 first|refine ah (aB ?_)|skip
 refine ah (wpAny_sequenceKey b.typeIs (by decide) ?_)
 refine ah (oR (name:=Str.ofString "__getitem__") b.typeIs Cv
  (jj Cv b.typeIs entry_tuple_getitem ?_ (args_tuple_getitem _ _)))
 show wpAny _ _ (Builtin.Tuple.tupleItemsOf (.ref t)>>=_) _ _ s
 refine ah (tupleItemsOf_ b ?_)
 refine ah (nB f ?_)
 rw[aA (by decide)]
 refine ah (XG k pl pu ?_)
 have g:¬((((bu items.size 0 lo:Nat):Int)==0&&(1:Int)==1&&(bu items.size items.size hi - bu items.size 0 lo)==items.size)=true):=by
  intro q
  rw[lg,lg] at q
  have p:((bu items.size 0 lo:Nat):Int)=0:=eq_of_beq q.1.1
  have r:bu items.size items.size hi - bu items.size 0 lo=items.size:=eq_of_beq q.2
  exact l ⟨by omega,by omega⟩
 show wpAny _ _ (if (((bu items.size 0 lo:Nat):Int)==0&&(1:Int)==1&&(bu items.size items.size hi - bu items.size 0 lo)==items.size)=true then _ else _) _ _ s
 rw[ao g,U']
 first
  |exact ah (m:=Builtin.Tuple.tupleExact _) (gH (aB ⟨_,rfl,aB h⟩) a)
  |exact ah (m:=Builtin.Tuple.tupleExact _) (gH (ah (aB (aB ⟨_,rfl,aB h⟩))) a)
  |exact ah (ah (m:=Builtin.Tuple.tupleExact _) (gH (aB (aB ⟨_,rfl,aB h⟩)) a))
  |exact ah (ah (m:=Builtin.Tuple.tupleExact _) (gH (aB ⟨_,rfl,aB h⟩) a))
end
end HT
section
open PySem PySem.Spec PyProof.Rows
namespace L2
abbrev TO:=St->Hp->(Option Int->Hp->Prop)->Prop
def PO(X:Cx)(e:Option Expr)(t:TO):Prop:=
 ∀(pins:aZ) (s:Shared) (σ:St) (H:Hp) (Q:Option Int->Hp->Prop),Inv X pins σ H s->t σ H Q->
  wpAny (model X.prog X.w) X.A (evalPart e X.env) (λu s'=>∃o H',Inv X pins σ H' s'/\IsPart u o/\Q o H') X.xe s
def Ys:TO:=λ_ H Q=>Q none H
def Yw(t:TE):TO:=λσ H Q=>t σ H λx H1=>∃i,x=.int i/\Q (some i) H1
section
variable{X:Cx}{e:Expr}{te:TE}{lo hi:Option Expr}{tl th:TO}{pos p2:Pos}
theorem Vh:PO X none Ys:=by
 intro pins s σ H Q I h;rw[evalPart_none];exact aB ⟨none,H,I,.none,h⟩
theorem Vi(h:PE X e te):PO X (some e) (Yw te):=by
 intro pins s σ H Q I a;rw[evalPart_some];refine aK (h pins s σ H _ I a) λu f ⟨x,H1,b,c,d⟩=>?_;obtain⟨i,rfl,q⟩:=d;obtain⟨t,rfl⟩:=c;exact⟨some i,H1,b,.int i t,q⟩
def nM(X:Cx)(r:V->Option Int->Option Int->Hp->VK->Prop):Prop:=
 ∀(pins:aZ) (s:Shared) (σ:St) (H:Hp) (x:V) (v vl vu:Value) (lo hi:Option Int) (sl:Addr) (Q:VK),Inv X pins σ H s->RelV x v->s.heap.IsSliceOf sl vl vu .none->IsPart vl lo->IsPart vu hi->r x lo hi H Q->
  ∃T id,typeLookup (.type T) "__getitem__"=pure (some (.builtin id))/\s.TypeIs v T/\wpAny (model X.prog X.w) X.A (getItem v (.ref sl)) (EP X pins σ Q) X.xe s
theorem nM.or{r r':V->Option Int->Option Int->Hp->VK->Prop}(h:nM X r)(h':nM X r'):nM X (λx lo hi H Q=>r x lo hi H Q\/r' x lo hi H Q):=by
 intro pins s σ H x v a b lo hi c Q I d e pl pu q;rcases q with q|q
 .exact h pins s σ H x v a b lo hi c Q I d e pl pu q
 .exact h' pins s σ H x v a b lo hi c Q I d e pl pu q
def YA(r:V->Option Int->Option Int->Hp->VK->Prop)(te:TE)(tl th:TO):TE:=λσ H Q=>te σ H λx H1=>tl σ H1 λl H2=>th σ H2 λu H3=>r x l u H3 Q
theorem UR{r:V->Option Int->Option Int->Hp->VK->Prop}(g:nM X r)(i:PE X e te)(j:PO X lo tl)(k:PO X hi th):PE X (.Subscript e (.Slice lo hi none p2) pos) (YA r te tl th):=by
 intro pins s σ H Q I h;refine Subscript_ (aK (i pins s σ H _ I h) λv m ⟨x,H1,n,o,p⟩=>?_);refine wpAny_Slice (aK (j pins m σ H1 _ n p) λc t ⟨l,H2,y,pl,z⟩=>aK (k pins t σ H2 _ y z) λd a ⟨u,f,B,pu,C⟩=>?_);rw[evalPart_none];refine aB ?_;have D:Inv X pins σ f {a with heap:=a.heap.push {cls:=.type "slice",data:=.fields #[c,d,.none]}}:=B.kept (t':=a.toks) λb J q=>bg _ q;obtain⟨T,id,E,F,G⟩:=g pins {a with heap:=a.heap.push {cls:=.type "slice",data:=.fields #[c,d,.none]}} σ f x v c d l u a.heap.objs.size Q D o (Heap.IsSliceOf.new ..) pl pu C;show wpAny (model X.prog X.w) X.A (subscriptTail e (.Slice lo hi none p2) v (.ref a.heap.objs.size)) (EP X pins σ Q) X.xe {a with heap:=a.heap.push {cls:=.type "slice",data:=.fields #[c,d,.none]}};exact tail_any (ops:=[.ref a.heap.objs.size,v]) F E G (by with_unfolding_all rfl)
def mL(xs:List V)(lo hi:Option Int):List V:=(xs.drop (HT.bu xs.length 0 lo)).take (HT.bu xs.length xs.length hi - HT.bu xs.length 0 lo)
theorem EM(xs:List V)(lo hi:Option Int):(mL xs lo hi).length<=xs.length:=by
 unfold mL;rw[kZ,qv];omega
def VW(K:Frag):V->Option Int->Option Int->Hp->VK->Prop:=λx lo hi H Q=>∃a xs,x=.ref a/\bQ K H a xs/\
 ¬(HT.bu xs.length 0 lo=0/\HT.bu xs.length xs.length hi=xs.length)/\∀p,H p=none->Q (.ref p) (upd H p (.tup (mL xs lo hi)))
theorem XF:nM X (VW X.K):=by
 intro pins s σ H x v j k lo hi l Q I e f pl pu h;obtain⟨a,xs,rfl,g,i,q⟩:=h;cases e;obtain⟨its,r,d,hz⟩:=I.tuple g;have c:its.toArray.size=xs.length:=by rw[cj];exact r.length.symm
 refine⟨"tuple",_,Cv.lookup,d.typeIs,?_⟩;refine HT.Qg d f pl pu (by rw[c];exact i) ?_ (by rw[c];exact hz);rw[c];refine⟨.ref s.heap.objs.size,_,I.laid (t':=s.toks) (o:=.tup (mL xs lo hi)) (λb m q=>bg _ q) (aF _) ?_,rfl,q _ (I.hok.fresh (aF _))⟩;exact⟨cG (EM xs lo hi) hz,_,(r.drop (HT.bu xs.length 0 lo)).take (HT.bu xs.length xs.length hi - HT.bu xs.length 0 lo),mG.new _ _⟩
def VR(K:Frag):R2:=λx y H Q=>∃a b xs ys,x=.ref a/\y=.ref b/\bQ K H a xs/\bQ K H b ys/\xs≠[]/\xs.length+ys.length<=sizeLine/\
 (ys=[]->Q (.ref a) H)/\(ys≠[]->∀p,H p=none->Q (.ref p) (upd H p (.tup (xs++ys))))
theorem Vals.Bb{xs:List V}{a:List Value}(r:Vals xs a):a=[]↔xs=[]:=by
 cases r with
 |nil=>simp
 |cons _ _=>simp
theorem T7:bL X (binaryOp .Add) (VR X.K):=by
 intro pins s σ H x y v u Q I f g h;obtain⟨a,b,xs,ys,rfl,rfl,i,j,k,hz,l,m⟩:=h;cases f;cases g;obtain⟨its,d,p1,_⟩:=I.tuple i;obtain⟨e,c,p2,_⟩:=I.tuple j;refine HT.ME p1 p2 (λz=>k (d.Bb.mp z)) (λz=>⟨.ref a,H,I,rfl,l (c.Bb.mp z)⟩) (λz=>?_) (by rw[<-d.length,<-c.length];exact hz);refine⟨.ref s.heap.objs.size,_,I.laid (t':=s.toks) (o:=.tup (xs++ys)) (λb n q=>bg _ q) (aF _) ?_,rfl,m (λw=>z (c.Bb.mpr w)) _ (I.hok.fresh (aF _))⟩;exact⟨by rw[cJ];exact hz,_,d.append c,mG.new _ _⟩
end
def i_(n:Nat)(i:Int):Option Nat:=if 0<=i then (if i<n then some i.toNat else none) else if -(n:Int)<=i then some (i+n).toNat else none
def c6{α:Type}(xs:List α)(i:Int):Option α:=(i_ xs.length i).bind λj=>xs[j]?
theorem GR{n:Nat}{i:Int}{j:Nat}(h:i_ n i=some j):seqIndex? i n=some j/\j<n/\-(n:Int)<=i/\i<n:=by
 unfold i_ at h;by_cases h0:0<=i
 .rw[aA h0] at h
  by_cases h1:i<n
  .rw[aA h1] at h
   have e:i.toNat=j:=Option.some.inj h;exact⟨by rw[seqIndex_of h0 h1,e],by omega,by omega,h1⟩
  .rw[ao h1] at h;cases h
 .rw[ao h0] at h
  by_cases h1: -(n:Int)<=i
  .rw[aA h1] at h
   have e:(i+n).toNat=j:=Option.some.inj h;exact⟨by rw[seqIndex_neg (by omega) h1,e],by omega,h1,by omega⟩
  .rw[ao h1] at h;cases h
theorem zC{α:Type}{xs:List α}{i:Int}{v:α}(h:c6 xs i=some v):∃j,seqIndex? i xs.length=some j/\xs[j]?=some v/\j<xs.length/\-(xs.length:Int)<=i/\i<xs.length:=by
 unfold c6 at h;cases e:i_ xs.length i with
 |none=>rw[e] at h;cases h
 |some j=>
  rw[e] at h;obtain⟨h1,h2,a,b⟩:=GR e;exact⟨j,h1,h,h2,a,b⟩
theorem mH{α:Type}{xs:List α}{j:Nat}{v:α}(h:xs[j]?=some v):c6 xs (j:Int)=some v:=by
 have a:j<xs.length:=(bY.mp h).1;have e:i_ xs.length (j:Int)=some j:=by
  unfold i_;rw[aA (by omega),aA (by omega)];simp
 unfold c6;rw[e];exact h
def zb(b:Expr):Prop:=∀o i,subscripted b false o i=operate [o,i] (getItem o i)
def jQ(X:Cx)(r:R2):Prop:=
 ∀(value slice:Expr) (pins:aZ) (s:Shared) (σ:St) (H:Hp) (x y:V) (v u:Value) (Q:VK),Inv X pins σ H s->RelV x v->RelV y u->r x y H Q->
  subscripted slice false v u=operate [v,u] (getItem v u)->wpAny (model X.prog X.w) X.A (subscriptTail value slice v u) (EP X pins σ Q) X.xe s
def yZ(X:Cx)(id:String)(r:V->List V->Hp->VK->Prop):Prop:=
 ∀(pins:aZ) (s:Shared) (σ:St) (H:Hp) (x:V) (xs:List V) (v:Value) (us:List Value) (Q:VK),Inv X pins σ H s->RelV x v->Vals xs us->r x xs H Q->
  wpAny (model X.prog X.w) X.A (call (.builtin id) (v::us)) (EP X pins σ Q) X.xe s
section
variable{X:Cx}{a b:Expr}{ta tb:TE}{pos:Pos}
theorem jQ.or{r r':R2}(h:jQ X r)(h':jQ X r'):jQ X (λx y H Q=>r x y H Q\/r' x y H Q):=by
 intro value slice pins s σ H x y v u Q I a b q c;rcases q with q|q
 .exact h value slice pins s σ H x y v u Q I a b q c
 .exact h' value slice pins s σ H x y v u Q I a b q c
theorem UL{r:R2}(c:jQ X r)(d:PE X a ta)(e:PE X b tb)(f:zb b):PE X (.Subscript a b pos) (tS r ta tb):=by
 intro pins s σ H Q I h;exact Subscript_ (zE d e I h λv u g x y H2 i j k q=>c a b pins g σ H2 x y v u Q i j k q (f _ _))
def IA(K:Frag):R2:=λx y H Q=>∃p xs i v,x=.ref p/\y=.int i/\aW K H p xs/\c6 xs i=some v/\Q v H
def IC(K:Frag):R2:=λx y H Q=>∃p xs i v,x=.ref p/\y=.int i/\bQ K H p xs/\c6 xs i=some v/\Q v H
def IB:R2:=λx y H Q=>∃z i c,x=.str z/\y=.int i/\z.length<=sizeLine/\c6 z.cps.toList i=some c/\Q (.str ⟨#[c]⟩) H
theorem Ru:jQ X (IA X.K):=by
 intro value slice pins s σ H x y v u Q I e f h c;obtain⟨p,xs,i,z,rfl,rfl,g,k,q⟩:=h;cases e;obtain⟨t,rfl⟩:=f;obtain⟨its,r,pl,hz⟩:=I.list g;obtain⟨j,h1,h2,o,l,m⟩:=zC k;obtain⟨w,d,a⟩:=r.get h2;have n:=r.length;have A:=p5;have fin:EP X pins σ Q w s:=⟨z,H,I,a,q⟩;by_cases h0:0<=i
 .have b:i.toNat=j:=by
   rw[seqIndex_of h0 m] at h1;exact Option.some.inj h1
  exact item_listR pl.isList h0 (by omega) (by rw[b];simpa using d) fin c
 .have b:(i+(its.toArray.size:Int)).toNat=j:=by
   rw[seqIndex_neg (by omega) l] at h1;rw[cj,<-n];exact Option.some.inj h1
  exact subscriptTail_builtinR (x:=w) pl.isList.typeIs slot_list_getitem.lookup
   (wpAny_getItem_list_neg (Q:=λr s'=>r=w/\EP X pins σ Q r s') pl.isList (by omega) (by rw[cj]<;>omega) (by omega) (by rw[b];simpa using d) ⟨rfl,fin⟩) c
theorem Rx:jQ X (IC X.K):=by
 intro value slice pins s σ H x y v u Q I b c h d;obtain⟨p,xs,i,z,rfl,rfl,e,f,q⟩:=h;cases b;obtain⟨t,rfl⟩:=c;obtain⟨its,r,pl,hz⟩:=I.tuple e;obtain⟨j,h1,h2,l,m,n⟩:=zC f;obtain⟨w,g,a⟩:=r.get h2;have k:=r.length;have o:=p5;have fin:EP X pins σ Q w s:=⟨z,H,I,a,q⟩;exact subscriptTail_builtinR (x:=w) pl.typeIs slot_tuple_getitem.lookup
  (getItem_tuple (j:=j) (Q:=λr s'=>r=w/\EP X pins σ Q r s') pl (by omega) (by omega) (by rw[cj,<-k];exact h1) (by simpa using g) ⟨rfl,fin⟩) d
theorem Rw:jQ X IB:=by
 intro value slice pins s σ H x y v u Q I a b h d;obtain⟨z,i,c,rfl,rfl,hz,e,q⟩:=h;obtain⟨t,rfl⟩:=a;obtain⟨t',rfl⟩:=b;obtain⟨j,h1,h2,n,f,g⟩:=zC e;have k:z.cps.toList.length=z.length:=by simp[Str.length]
 rw[k] at h1 f g;have o:=p5;exact tail_any (typeIs_str s z t) slot_str_getitem.lookup (getItem_str (c:=c) (by
  have l:decide (i< -(2 ^ 63:Int))=false:=fY (by omega);have m:decide (i≥2 ^ 63)=false:=fY (by omega);rw[l,m,Bool.or_false]) (by rw[h1];simpa using h2) ⟨.str ⟨#[c]⟩,H,I.tok _,⟨_,rfl⟩,q⟩) d
def Iv(K:Frag):R2:=λx y H Q=>IA K x y H Q\/IC K x y H Q\/IB x y H Q
theorem Rv:jQ X (Iv X.K):=Ru.or (Rx.or Rw)
theorem SK(its:List Value)(n j:Nat)(u:Value):Obj.mapSeq (·.setIfInBounds j u) {cls:=.type "list",data:=.seq its.toArray n}={cls:=.type "list",data:=.seq (its.set j u).toArray n}:=by
 simp[Obj.mapSeq]
theorem Inv.lst{pins:aZ}{σ:St}{H:Hp}{s:Shared}{p:Addr}{xs:List V}(I:Inv X pins σ H s)(h:H p=some (.lst xs)):
  ∃(its:List Value) (n:Nat),Vals xs its/\s.heap.get? p=some {cls:=.type "list",data:=.seq its.toArray n}/\xs.length<=sizeLine:=by
 obtain⟨z,its,n,r,e⟩:=I.hok p _ h;exact⟨its,n,r,e,z⟩
theorem Inv.Sw{pins:aZ}{σ:St}{H:Hp}{s:Shared}{p:Addr}{xs ys:List V}{its its':List Value}{n n':Nat}{f:Obj->Obj}(I:Inv X pins σ H s)(h:H p=some (.lst xs))
  (c:s.heap.get? p=some {cls:=.type "list",data:=.seq its.toArray n})(a:f {cls:=.type "list",data:=.seq its.toArray n}={cls:=.type "list",data:=.seq its'.toArray n'})(r:Vals ys its')(hz:ys.length<=sizeLine)(t:Nat):
  Inv X pins σ (upd H p (.lst ys)) {s with heap:=s.heap.update p f,toks:=t}:=by
 have e:(s.heap.update p f).get? p=some {cls:=.type "list",data:=.seq its'.toArray n'}:=by
  rw[jl f c (by rw[a]<;>rfl),a]
 refine I.write (x:=p) (e:=p) (by rw[h];trivial) (.inl rfl) (λb u d q=>(o6 _ _ (Ne.symm d)).trans q) ⟨_,e⟩ ?_;exact⟨hz,its',n',r,e⟩
def VT:V->V->V->Hp->(Hp->Prop)->Prop:=λo i v H Q=>∃p xs k j,o=.ref p/\i=.int k/\H p=some (.lst xs)/\i_ xs.length k=some j/\Q (upd H p (.lst (xs.set j v)))
theorem set_list:C7 X VT:=by
 intro pins s σ H o i v y z u Q I l m w h;obtain⟨p,xs,k,j,rfl,rfl,d,x,q⟩:=h;cases l;obtain⟨t,rfl⟩:=m;obtain⟨its,n,r,a,hz⟩:=I.lst d;obtain⟨h1,h2,e,f⟩:=GR x;have b:=r.length;have A:=p5;have g:Inv X pins σ (upd H p (.lst (xs.set j v))) {s with heap:=s.heap.update p (Obj.mapSeq (·.setIfInBounds j u))}:=
  I.Sw d a (SK its n j u) (r.set w j) (by rw[length_set];exact hz) s.toks
 by_cases h0:0<=k
 .have c:k.toNat=j:=by
   rw[seqIndex_of h0 f] at h1;exact Option.some.inj h1
  exact PySem.W.ki_setAt a h0 (by omega) (by rw[cj,<-b];exact f) (by rw[c];exact⟨_,g,q⟩)
 .have c:(k+(its.toArray.size:Int)).toNat=j:=by
   rw[seqIndex_neg (by omega) e] at h1;rw[cj,<-b];exact Option.some.inj h1
  exact PySem.W.ki_setBack a (by omega) (by rw[cj,<-b];exact e) (by omega) (by rw[c];exact⟨_,g,q⟩)
theorem XI(lo hi:Option Int)(n:Nat):(sliceBounds lo hi none n).1=((HT.bu n 0 lo:Nat):Int)/\(sliceBounds lo hi none n).2.1=((HT.bu n n hi:Nat):Int)/\(sliceBounds lo hi none n).2.2=1:=by
 refine⟨?_,?_,rfl⟩
 .cases lo with
  |none=>simp[sliceBounds,HT.bu]
  |some i=>
   simp only[sliceBounds,HT.bu,getD_none,show(1:Int)>0 by decide,lV];by_cases h:i<0
   .simp only[h,lV]<;>omega
   .simp only[h,gv]<;>omega
 .cases hi with
  |none=>simp[sliceBounds,HT.bu]
  |some i=>
   simp only[sliceBounds,HT.bu,getD_none,show(1:Int)>0 by decide,lV];by_cases h:i<0
   .simp only[h,lV]<;>omega
   .simp only[h,gv]<;>omega
theorem XH(its:List Value)(lo hi:Option Int):slicePick its.toArray lo hi none=((its.drop (HT.bu its.length 0 lo)).take (HT.bu its.length its.length hi - HT.bu its.length 0 lo)).toArray:=by
 obtain⟨h1,h2,a⟩:=XI lo hi its.toArray.size;unfold slicePick;rw[h1,h2,a];simp only[sliceRange_one,pick_run,cj]<;>rfl
def VU(K:Frag):V->Option Int->Option Int->Hp->VK->Prop:=λx lo hi H Q=>∃a xs,x=.ref a/\aW K H a xs/\∀p,H p=none->Q (.ref p) (upd H p (.lst (mL xs lo hi)))
theorem XE:nM X (VU X.K):=by
 intro pins s σ H x v i j lo hi k Q I e f pl pu h;obtain⟨a,xs,rfl,g,q⟩:=h;cases e;obtain⟨its,r,d,hz⟩:=I.list g;have c:=r.length;refine⟨"list",_,slot_list_getitem.lookup,d.isList.typeIs,?_⟩;refine wpAny_getItem_list_slice d.isList f pl pu .none (by simp) ?_ (by rw[cj]<;>omega);rw[XH,<-c];refine⟨.ref s.heap.objs.size,_,I.laid (t':=s.toks) (o:=.lst (mL xs lo hi)) (λb l q=>bg _ q) (aF _) ?_,rfl,q _ (I.hok.fresh (aF _))⟩;exact⟨cG (EM xs lo hi) hz,_,0,(r.drop (HT.bu xs.length 0 lo)).take (HT.bu xs.length xs.length hi - HT.bu xs.length 0 lo),b9 _ rfl⟩
def kH:V->Bool
 |.aG=>true
 |.bl _=>true
 |.int _=>true
 |.str _=>true
 |_=>false
def jy:V->V->Bool
 |.aG,.aG=>true
 |.bl a,.bl b=>a==b
 |.bl a,.int b=>(if a then 1 else 0)==b
 |.int a,.bl b=>a==(if b then 1 else 0)
 |.int a,.int b=>a==b
 |.str a,.str b=>a==b
 |_,_=>false
theorem Of{A:Around}{s:Shared}{y x:V}{u v:Value}(d:RelV y u)(c:RelV x v)(f:kH y=true)(e:kH x=true):SeqAt.EqAt A s u v (jy y x):=by
 cases y with
 |aG=>
  cases d;cases x with
  |aG=>cases c;exact SeqAt.EqAt.same _
  |bl b=>cases c;exact SeqAt.EqAt.none_bool b
  |int b=>obtain⟨t,rfl⟩:=c;exact SeqAt.EqAt.none_int b t
  |str b=>obtain⟨t,rfl⟩:=c;exact SeqAt.EqAt.none_str b t
  |_=>exact absurd (show false=true from e) bV
 |bl a=>
  cases d;cases x with
  |aG=>cases c;exact SeqAt.EqAt.bool_none a
  |bl b=>cases c;exact SeqAt.EqAt.bool_bool a b
  |int b=>obtain⟨t,rfl⟩:=c;exact SeqAt.EqAt.bool_int a b t
  |str b=>obtain⟨t,rfl⟩:=c;exact SeqAt.EqAt.bool_str a b t
  |_=>exact absurd (show false=true from e) bV
 |int a=>
  obtain⟨t',rfl⟩:=d;cases x with
  |aG=>cases c;exact SeqAt.EqAt.int_none a t'
  |bl b=>cases c;exact SeqAt.EqAt.int_bool a t' b
  |int b=>obtain⟨t,rfl⟩:=c;exact SeqAt.EqAt.int_int a t' b t
  |str b=>obtain⟨t,rfl⟩:=c;exact SeqAt.EqAt.int_str a t' b t
  |_=>exact absurd (show false=true from e) bV
 |str a=>
  obtain⟨t',rfl⟩:=d;cases x with
  |aG=>cases c;exact SeqAt.EqAt.str_none a t'
  |bl b=>cases c;exact SeqAt.EqAt.str_bool a t' b
  |int b=>obtain⟨t,rfl⟩:=c;exact SeqAt.EqAt.str_int a t' b t
  |str b=>obtain⟨t,rfl⟩:=c;exact SeqAt.EqAt.str_str a t' b t
  |_=>exact absurd (show false=true from e) bV
 |_=>exact absurd (show false=true from f) bV
def iz(x:V)(u:Value):Bool:=match u with
 |.none=>jy .aG x
 |.bool b=>jy (.bl b) x
 |.int i _=>jy (.int i) x
 |.str z _=>jy (.str z) x
 |_=>false
theorem FI{x y:V}{u:Value}(r:RelV y u)(f:kH y=true):iz x u=jy y x:=by
 cases y with
 |aG=>cases r;rfl
 |bl b=>cases r;rfl
 |int i=>obtain⟨t,rfl⟩:=r;rfl
 |str z=>obtain⟨t,rfl⟩:=r;rfl
 |_=>exact absurd (show false=true from f) bV
theorem rG{x:V}:∀{xs:List V} {a:List Value},Vals xs a->xs.all kH=true->a.any (iz x)=xs.any λy=>jy y x
 |_,_,.nil,_=>rfl
 |y::xs,u::a,.cons r t,f=>by
  rw[List.all_cons,lg] at f;rw[o4,o4,FI r f.1,rG t f.2]
theorem sM{A:Around}{s:Shared}{x:V}{v:Value}(b:RelV x v)(c:kH x=true):∀{xs:List V} {a:List Value},Vals xs a->xs.all kH=true->∀u∈a,SeqAt.EqAt A s u v (iz x u)
 |_,_,.nil,_=>λu hu=>by cases hu
 |y::xs,u::a,.cons r t,f=>λd hu=>by
  rw[List.all_cons,lg] at f;rcases aY.mp hu with rfl|hu
  .rw[FI r f.1];exact Of r b f.1 c
  .exact sM b c t f.2 d hu
def vK(x:V)(xs:List V):Bool:=xs.any λy=>jy y x
def Bx(K:Frag)(neg:Bool):R2:=λx y H Q=>∃p xs,y=.ref p/\(aW K H p xs\/bQ K H p xs)/\kH x=true/\xs.all kH=true/\Q (.bl (if neg then !vK x xs else vK x xs)) H
theorem HV:bL X (compareOp .In) (Bx X.K false):=by
 intro pins s σ H x y v u Q I b d h;obtain⟨p,xs,rfl,hq,c,fs,q⟩:=h;cases d;rcases hq with hq|hq
 .obtain⟨its,r,pl,hz⟩:=I.list hq
  refine SeqAt.in_listAt (iz x) pl.isList (λw a=>sM b c r fs w (by simpa using a)) ⟨.bl _,H,I,rfl,?_⟩;rw[show its.toArray.any (iz x)=its.any (iz x) by simp,rG r fs];exact q
 .obtain⟨its,r,pl,hz⟩:=I.tuple hq
  refine SeqAt.in_tupleAt (iz x) pl (λw a=>sM b c r fs w (by simpa using a)) ⟨.bl _,H,I,rfl,?_⟩;rw[show its.toArray.any (iz x)=its.any (iz x) by simp,rG r fs];exact q
theorem Ul:bL X (compareOp .NotIn) (Bx X.K true):=by
 intro pins s σ H x y v u Q I b d h;obtain⟨p,xs,rfl,hq,c,fs,q⟩:=h;cases d;rcases hq with hq|hq
 .obtain⟨its,r,pl,hz⟩:=I.list hq
  refine SeqAt.notIn_listAt (iz x) pl.isList (λw a=>sM b c r fs w (by simpa using a)) ⟨.bl _,H,I,rfl,?_⟩;rw[show its.toArray.any (iz x)=its.any (iz x) by simp,rG r fs];exact q
 .obtain⟨its,r,pl,hz⟩:=I.tuple hq
  refine SeqAt.notIn_tupleAt (iz x) pl (λw a=>sM b c r fs w (by simpa using a)) ⟨.bl _,H,I,rfl,?_⟩;rw[show its.toArray.any (iz x)=its.any (iz x) by simp,rG r fs];exact q
theorem Mr:eS X (.builtin "len") (λxs H Q=>∃p ys,xs=[.ref p]/\(aW X.K H p ys\/bQ X.K H p ys)/\Q (.int ys.length) H):=by
 intro pins s σ H xs c Q I r h;obtain⟨p,ys,rfl,hq,q⟩:=h;obtain⟨u,rfl,b⟩:=vals1 r;cases b;have d:=p5;rcases hq with hq|hq
 .obtain⟨its,r',pl,hz⟩:=I.list hq
  have a:=r'.length;exact Calls.call_len_list pl.isList (by simp only[cj]<;>omega) ⟨.int ys.length,H,I.tok _,⟨s.toks+1,by rw[cj,a]⟩,q⟩
 .obtain⟨its,r',pl,hz⟩:=I.tuple hq
  have a:=r'.length;exact len_tuple pl (by simp only[cj]<;>omega) ⟨.int ys.length,H,I.tok _,⟨s.toks+1,by rw[cj,a]⟩,q⟩
theorem Ms:eS X (.builtin "len") (λxs H Q=>∃z,xs=[.str z]/\z.length<=sizeLine/\Q (.int z.length) H):=by
 intro pins s σ H xs a Q I r h;obtain⟨z,rfl,hz,q⟩:=h;obtain⟨u,rfl,t,rfl⟩:=vals1 r;have b:=p5;exact len_str (by omega) ⟨.int z.length,H,I.tok _,⟨_,rfl⟩,q⟩
theorem eS.or{f:Value}{r r':List V->Hp->VK->Prop}(h:eS X f r)(h':eS X f r'):eS X f (λxs H Q=>r xs H Q\/r' xs H Q):=by
 intro pins s σ H xs a Q I rs q;rcases q with q|q
 .exact h pins s σ H xs a Q I rs q
 .exact h' pins s σ H xs a Q I rs q
theorem Ex:eS X (.type "list") (λxs H Q=>∃p ys,xs=[.ref p]/\(aW X.K H p ys\/bQ X.K H p ys)/\∀l,H l=none->Q (.ref l) (upd H l (.lst ys))):=by
 intro pins s σ H xs f Q I r h;obtain⟨p,ys,rfl,hq,q⟩:=h;obtain⟨u,rfl,d⟩:=vals1 r;cases d;have fin:∀(its:List Value),Vals ys its->ys.length<=sizeLine->∀(h':Heap) (c':Nat),(∀b o',s.heap.get? b=some o'->h'.get? b=some o')->
   h'.get? s.heap.objs.size=some {cls:=.type "list",dict:=none,data:=.seq its.toArray c',slots:= #[]}->EP X pins σ Q (.ref s.heap.objs.size) {s with heap:=h'}:=λits r' hz h' c' kp e=>
  ⟨.ref s.heap.objs.size,_,I.laid (t':=s.toks) kp (aF _) (show b_ X.prog X.w _ h' _ (.lst ys) from⟨hz,its,c',r',e⟩),rfl,q _ (I.hok.fresh (aF _))⟩
 rcases hq with hq|hq
 .obtain⟨its,r',pl,hz⟩:=I.list hq
  have a:=r'.length;obtain⟨o,c,hc,n,hd⟩:=pl.isList;exact call_list_seq p (.inl rfl) c hc hd (λh' c' kp e=>fin its r' hz h' c' kp e) (by simp only[cj]<;>omega)
 .obtain⟨its,r',pl,hz⟩:=I.tuple hq
  have a:=r'.length;obtain⟨o,c,hc,n,hd⟩:=pl;exact call_list_seq p (.inr rfl) c hc hd (λh' c' kp e=>fin its r' hz h' c' kp e) (by simp only[cj]<;>omega)
theorem rM:eS X (.type "tuple") (λxs H Q=>∃p ys,xs=[.ref p]/\((aW X.K H p ys/\∀l,H l=none->Q (.ref l) (upd H l (.tup ys)))\/(bQ X.K H p ys/\Q (.ref p) H))):=by
 intro pins s σ H xs i Q I r h;obtain⟨p,ys,rfl,h⟩:=h;obtain⟨u,rfl,f⟩:=vals1 r;cases f;rcases h with⟨a,q⟩|⟨a,q⟩
 .obtain⟨its,r',pl,hz⟩:=I.list a
  have c:=r'.length;refine call_tuple_list pl.isList (λh' kp=>?_) (by simp only[cj]<;>omega);have d:Inv X pins σ H {s with heap:=h'}:=I.kept (t':=s.toks) kp;have g:Inv X pins σ (upd H h'.objs.size (.tup ys)) {s with heap:=h'.push {cls:=.type "tuple",data:=.seq its.toArray}}:=
   d.laid (t':=s.toks) (λb o e=>bg _ e) (aF _) (show b_ X.prog X.w _ _ _ (.tup ys) from⟨hz,its,r',mG.new _ _⟩)
  exact⟨.ref h'.objs.size,_,g,rfl,q _ (d.hok.fresh (aF _))⟩
 .obtain⟨its,r',pl,hz⟩:=I.tuple a
  exact call_tuple_same pl ⟨.ref p,H,I,rfl,q⟩
def Ce(K:Frag)(T:String)(x:V)(H:Hp):Prop:=match x with
 |.str _=>T="str"
 |.int _=>T="int"
 |.ref p=>(T="list"/\∃xs,aW K H p xs)\/(T="tuple"/\∃o,K.lookup p=some o/\o.cls=.type "tuple"/\o.dict=none)\/
  (T="dict"/\((∃kvs,H p=some (.dK kvs))\/∃kvs,H p=some (.dT kvs)))\/(T="set"/\∃S n,H p=some (.set S n))
 |_=>False
theorem Y3{pins:aZ}{σ:St}{H:Hp}{s:Shared}{T:String}{x:V}{v:Value}(I:Inv X pins σ H s)(r:RelV x v)(ty:Ce X.K T x H):
  s.TypeIs v T/\∀a,v=.ref a->∃f,s.heap.get? a=some f/\f.dict=none:=by
 cases x with
 |str z=>
  obtain⟨t,rfl⟩:=r;cases (show T="str" from ty);exact⟨typeIs_str s z t,λ_ e=>nomatch e⟩
 |int i=>
  obtain⟨t,rfl⟩:=r;cases (show T="int" from ty);exact⟨typeIs_int s i t,λ_ e=>nomatch e⟩
 |ref p=>
  cases r;rcases ty with⟨rfl,xs,g⟩|⟨rfl,o,b,hc,hd⟩|⟨rfl,b⟩|⟨rfl,S,n,b⟩
  .obtain⟨its,_,pl,_⟩:=I.list g
   refine⟨pl.isList.typeIs,λa e=>?_⟩;cases e;obtain⟨o,n,e,c,hd,_⟩:=pl;exact⟨o,e,hd⟩
  .refine⟨⟨o,I.f_ p o b,hc⟩,λa e=>?_⟩
   cases e;exact⟨o,I.f_ _ o b,hd⟩
  .have z:∃o,s.heap.get? p=some o/\o.ExactDict:=by
    rcases b with⟨kvs,b⟩|⟨kvs,b⟩
    .obtain⟨_,_,_,_,o,_,_,e,ex,_⟩:=I.hok p _ b
     exact⟨o,e,ex⟩
    .obtain⟨_,_,_,_,o,_,_,e,ex,_⟩:=I.hok p _ b
     exact⟨o,e,ex⟩
   obtain⟨o,e,ex⟩:=z;refine⟨⟨o,e,ex.1⟩,λa d=>?_⟩;cases d;exact⟨o,e,ex.2.1⟩
  .obtain⟨o,_,_,_,e,ex,_⟩:=I.hok p _ b
   refine⟨⟨o,e,ex.1⟩,λa d=>?_⟩;cases d;exact⟨o,e,ex.2.1⟩
 |_=>exact False.elim ty
def Yg(K:Frag)(T:String)(r:V->List V->Hp->VK->Prop)(to:TE)(t:TA):TE:=λσ H Q=>to σ H λx H1=>Ce K T x H1/\t σ H1 λxs H2=>r x xs H2 Q
variable{o e:Expr}{es:List Expr}{to:TE}{t:TA}{name:Str}{apos cpos:Pos}{T id:String}{r:V->List V->Hp->VK->Prop}
theorem H9(k:PlainAttrs T)(slot:Slot T name id)(f:typeOf (.builtin id)=pure (.type "method_descriptor"))(l:yZ X id r)(m:PE X o to)(n:PA X (e::es) t)
  (b:attributeBase o name X.env (eval o X.env)=eval o X.env:=by rfl)
  (d:((backTo cpos (starEach (e::es) X.env)).all (λx=> !x.1)&&(backToKw cpos (keywordEach [] X.env)).all (λx=>x.1.isSome)
   &&decide ((e::es).length+([]:List Keyword).length+(if ([]:List Keyword).isEmpty then 0 else 1)<30))=true:=by rfl)
  (c:(apos.endLine==cpos.line)=true:=by rfl)(p:starEach (e::es) X.env=(false,eval e X.env)::starEach es X.env:=by rfl)(a:(backTo cpos (starEach es X.env)).any (·.1)=false:=by rfl):
  PE X (.Call (.Attribute o name apos) (e::es) [] cpos) (Yg X.K T r to t):=by
 intro pins s σ H Q I h
 refine wpAny_Call_method_late b d c rfl (aK (m pins s σ H _ I h) λv q ⟨x,H1,g,i,ty,u⟩=> ?_)
 obtain⟨h1,h2⟩:=Y3 g i ty
 refine⟨T,id,k,slot,f,h1,h2,?_⟩
 have j:=n cpos pins q σ H1 _ g u
 rw[p] at j ⊢
 refine Calls.callWith_builtin (by show(false||(backTo cpos (starEach es X.env)).any (·.1))=false;rw[a]<;>rfl) (Calls.evalArgs_plain ?_)
 exact aK j λw y ⟨vs,H2,z,A,B⟩=>l pins y σ H2 x vs v w Q z i A B
end
def yY(X:Cx)(id:String)(r:V->List V->Hp->VK->Prop):Prop:=
 ∀(pins:aZ) (s:Shared) (σ:St) (H:Hp) (x:V) (xs:List V) (v:Value) (us:List Value) (Q:VK),Inv X pins σ H s->RelV x v->Vals xs us->r x xs H Q->
  wpAny (model X.prog X.w) X.A (call (.builtin id) (v::us)) (EP X pins σ Q) X.xe s
theorem Vals.one:∀{x:V} {a:List Value},Vals [x] a->∃u,a=[u]/\RelV x u
 |_,_,.cons r .nil=>⟨_,rfl,r⟩
section
variable{X:Cx}{pins:aZ}{σ:St}{H:Hp}{s:Shared}{l b:Addr}{xs ys zs:List V}
theorem Inv.Hq{its its':List Value}{n:Nat}{f:Array Value->Array Value}{t':Nat}(I:Inv X pins σ H s)(a:H l=some (.lst xs))
  (e:s.heap.get? l=some {cls:=.type "list",data:=.seq its.toArray n})(b:f its.toArray=its'.toArray)(c:Vals ys its')(hz:ys.length<=sizeLine):
  Inv X pins σ (upd H l (.lst ys)) {s with heap:=s.heap.update l (Obj.mapSeq f),toks:=t'}:=by
 have q:=PySem.IsL.update e f;rw[b] at q;refine I.write (x:=l) (e:=l) (by rw[a];exact trivial) (.inl rfl) (λh u d g=>(o6 s.heap (Obj.mapSeq f) (Ne.symm d)).trans g) ⟨_,q⟩ ?_;exact⟨hz,its',_,c,q⟩
theorem Inv.Hj{its:List Value}{t':Nat}(I:Inv X pins σ H s)(a:Vals ys its)(hz:ys.length<=sizeLine):
  Inv X pins σ (upd H s.heap.objs.size (.lst ys)) {s with heap:=s.heap.push {cls:=.type "list",data:=.seq its.toArray},toks:=t'}:=
 I.laid (λ_ _ q=>bg _ q) (aF _) ⟨hz,its,0,a,b9 _ rfl⟩
theorem Inv.fresh(I:Inv X pins σ H s):H s.heap.objs.size=none:=I.hok.fresh (aF _)
theorem Inv.sJ(I:Inv X pins σ H s)(a:H l=some (.lst xs)):xs.length<=sizeLine/\∃(its:List Value) (n:Nat),Vals xs its/\xs.length=its.length/\s.heap.get? l=some {cls:=.type "list",data:=.seq its.toArray n}:=by
 obtain⟨z,its,n,r,e⟩:=I.hok l _ a;exact⟨z,its,n,r,r.length,e⟩
theorem TF{n:Nat}(h:n<=sizeLine):Builtin.List.listTooLong n=false:=by
 unfold Builtin.List.listTooLong;exact fY (by omega)
end
section
variable{X:Cx}
def Ip:V->List V->Hp->VK->Prop:=λx vs H Q=>∃l xs y,x=.ref l/\vs=[y]/\H l=some (.lst xs)/\xs.length<sizeLine/\Q .aG (upd H l (.lst (xs++[y])))
theorem ja:yY X "list.append" Ip:=by
 intro pins s σ H x vs v f Q I b c h;obtain⟨l,xs,y,rfl,rfl,a,hz,q⟩:=h;cases b;obtain⟨u,rfl,d⟩:=c.one;obtain⟨z,its,n,r,g,e⟩:=I.sJ a;refine call_meets F.slot_list_append ⟨_,e,rfl⟩ F.entry_list_append (F.args_list_append_2 _ _) (PySem.list_append l its.toArray n u (by rw[cj];omega)) ⟨e,?_⟩;refine⟨.aG,_,I.Hq (its':=its++[u]) a e (by simp) (r.append (.cons d .nil)) ?_,rfl,q⟩;rw[cJ,yf];omega
def Iu:V->List V->Hp->VK->Prop:=λx vs H Q=>∃l b xs zs,x=.ref l/\vs=[.ref b]/\H l=some (.lst xs)/\H b=some (.lst zs)/\xs.length+zs.length<=sizeLine/\Q .aG (upd H l (.lst (xs++zs)))
theorem v9:yY X "list.extend" Iu:=by
 intro pins s σ H x vs v p Q I f g h;obtain⟨l,b,xs,zs,rfl,rfl,d,i,hz,q⟩:=h;cases f;obtain⟨u,rfl,j⟩:=g.one;cases j;obtain⟨z,its,n,r,t,e⟩:=I.sJ d;obtain⟨w,a,n2,k,m,o⟩:=I.sJ i;have hsz:its.toArray.size+a.toArray.size<=sizeLine:=by rw[cj,cj];omega
 have c:¬(!its.toArray.isEmpty&&Builtin.List.listTooLong (its.toArray.size+a.toArray.size))=true:=by
  rw[TF hsz,Bool.and_false];exact bV
 refine call_meets F.slot_list_extend ⟨_,e,rfl⟩ F.entry_list_extend (F.args_list_extend_2 _ _)
  (AutoSeq1.list_extend_list_list_0 l its.toArray n b a.toArray n2 c (by rw[cj];omega) (by omega)) ⟨e,o,?_⟩
 refine⟨.aG,_,I.Hq (its':=its++a) d e (by simp) (r.append k) ?_,rfl,q⟩;rw[cJ];omega
def Iq:R2:=λx y H Q=>∃l b xs zs,x=.ref l/\y=.ref b/\H l=some (.lst xs)/\H b=some (.lst zs)/\xs.length+zs.length<=sizeLine/\∀p,H p=none->Q (.ref p) (upd H p (.lst (xs++zs)))
theorem T5:bL X (binaryOp .Add) Iq:=by
 intro pins s σ H x y v u Q I c d h;obtain⟨l,b,xs,zs,rfl,rfl,f,g,hz,q⟩:=h;cases c;cases d;obtain⟨z,its,n,r,o,e⟩:=I.sJ f;obtain⟨p,a,n2,i,j,k⟩:=I.sJ g;refine PySem.P.add_list e k ?_ (by rw[cj,cj];omega);have m:its.toArray++a.toArray=(its++a).toArray:=by simp
 rw[m];exact⟨.ref _,_,I.Hj (t':=s.toks) (r.append i) (by rw[cJ];omega),rfl,q _ I.fresh⟩
end
section
variable{κ:Type}[DecidableEq κ]
def fM(kvs:List (κ×V))(k:κ):Option V:=(kvs.find? λkv=>decide (kv.1=k)).map (·.2)
def putK(kvs:List (κ×V))(k:κ)(v:V):List (κ×V):=
 if (kvs.any λkv=>decide (kv.1=k))=true then kvs.map (λkv=>if kv.1=k then (kv.1,v) else kv) else kvs++[(k,v)]
theorem Cm{p:κ×V}{r:List (κ×V)}{k:κ}(e:p.1=k):fM (p::r) k=some p.2:=by simp[fM,ki,e]
theorem Ck{p:κ×V}{r:List (κ×V)}{k:κ}(e:¬p.1=k):fM (p::r) k=fM r k:=by simp[fM,ki,e]
theorem K4(k:κ):∀kvs:List (κ×V),(kvs.any λa=>decide (a.1=k))=(fM kvs k).isSome
 |[]=>rfl
 |p::r=>by
  rw[o4];by_cases e:p.1=k
  .simp only[Cm e,dR e,Bool.true_or,Option.isSome_some]
  .rw[Ck e,fY e,Bool.false_or];exact K4 k r
theorem AQ(kvs:List (κ×V))(k:κ)(v:V):(putK kvs k v).length<=kvs.length+1:=by
 unfold putK;split
 .rw[aM];omega
 .rw[cJ,gi,nk];omega
theorem jS.sy{o:Option V}{u:Option Value}(r:jS o u):o.isSome=u.isSome:=by
 cases o with
 |none=>cases u with
  |none=>rfl
  |some _=>exact(show False from r).elim
 |some _=>cases u with
  |none=>exact(show False from r).elim
  |some _=>rfl
theorem KV.val{kvs:List (κ×V)}{vs:List (κ×Value)}(r:KV kvs vs)(k:κ):jS (fM kvs k) (valueAt vs k):=by
 unfold KV at r;induction r with
 |nil=>exact True.intro
 | @cons p q ps qs h t c=>
  obtain⟨h1,h2⟩:=h;by_cases e:p.1=k
  .have a:q.1=k:=h1.symm.trans e
   have b:valueAt (q::qs) k=some q.2:=by simp[valueAt,ki,a]
   rw[Cm e,b];exact h2
  .have a:¬q.1=k:=λz=>e (h1.trans z)
   have b:valueAt (q::qs) k=valueAt qs k:=by simp[valueAt,ki,a]
   rw[Ck e,b];exact c
theorem KV.any{kvs:List (κ×V)}{vs:List (κ×Value)}(r:KV kvs vs)(k:κ):(kvs.any λa=>decide (a.1=k))=vs.any λa=>decide (a.1=k):=by
 unfold KV at r;induction r with
 |nil=>rfl
 |cons h t b=>rw[o4,o4,b,h.1]
theorem KV.repl{kvs:List (κ×V)}{vs:List (κ×Value)}(r:KV kvs vs)(k:κ){y:V}{u:Value}(b:RelV y u):
  KV (kvs.map λa=>if a.1=k then (a.1,y) else a) (vs.map λa=>if a.1=k then (a.1,u) else a):=by
 unfold KV at r ⊢;induction r with
 |nil=>exact .nil
 | @cons p q ps qs h t c=>
  rw[cO,cO];refine .cons ?_ c;obtain⟨h1,h2⟩:=h;by_cases e:p.1=k
  .rw[aA e,aA (h1.symm.trans e)];exact⟨h1,b⟩
  .rw[ao e,ao (λz=>e (h1.trans z))];exact⟨h1,h2⟩
theorem KV.put{kvs:List (κ×V)}{vs:List (κ×Value)}(r:KV kvs vs)(k:κ){y:V}{u:Value}(a:RelV y u):KV (putK kvs k y) (stored vs k u):=by
 unfold putK stored;rw[r.any k];by_cases e:(vs.any λb=>decide (b.1=k))=true
 .rw[aA e,aA e];exact r.repl k a
 .rw[ao e,ao e];exact Paired.snoc r ⟨rfl,a⟩
theorem KV.keys{kvs:List (κ×V)}{vs:List (κ×Value)}(r:KV kvs vs):kvs.map (·.1)=vs.map (·.1):=by
 unfold KV at r;induction r with
 |nil=>rfl
 |cons h t a=>rw[cO,cO,a,h.1]
theorem KV.length{kvs:List (κ×V)}{vs:List (κ×Value)}(r:KV kvs vs):kvs.length=vs.length:=Paired.length r
end
theorem nZ{P:Program}{w:World}{k:Key}{u:Value}(r:RelV (kV k) u):(dj P w).is k u=true:=by
 cases k with
 |inl i=>obtain⟨t,e⟩:=(show ∃t,u=Value.int i t from r);subst e;exact SW P w i t
 |inr x=>obtain⟨t,e⟩:=(show ∃t,u=Value.str x t from r);subst e;exact SX P w x t
theorem GQ{P:Program}{w:World}:∀{ks:List Key} {a:List Value},Vals (ks.map kV) a->ItemsAre (dj P w) ks a
 |[],_,r=>by rw[map_nil] at r;cases r;exact .nil
 |k::ks,_,r=>by
  rw[cO] at r;cases r with
  |cons h t=>exact .cons (nZ h) (GQ t)
abbrev KT(H:Hp):List (List Key×V)->List (List Key×Addr×Value)->Prop:=Paired λp q=>p.1=q.1/\H q.2.1=some (.tup (p.1.map kV))/\RelV p.2 q.2.2
theorem KT.val{H:Hp}{kvs:List (List Key×V)}{xs:List (List Key×Addr×Value)}(r:KT H kvs xs)(k:List Key):jS (fM kvs k) ((atKey xs k).map (·.2)):=by
 induction r with
 |nil=>exact True.intro
 | @cons p q ps qs h t c=>
  obtain⟨h1,_,h2⟩:=h;by_cases e:p.1=k
  .have a:q.1=k:=h1.symm.trans e
   have b:atKey (q::qs) k=some q.2:=by simp[atKey,ki,a]
   rw[Cm e,b];exact h2
  .have a:¬q.1=k:=λz=>e (h1.trans z)
   have b:atKey (q::qs) k=atKey qs k:=by simp[atKey,ki,a]
   rw[Ck e,b];exact c
theorem KT.repl{H:Hp}{kvs:List (List Key×V)}{xs:List (List Key×Addr×Value)}(r:KT H kvs xs)(k:List Key){y:V}{u:Value}(b:RelV y u):
  KT H (kvs.map λa=>if a.1=k then (a.1,y) else a) (xs.map (putAt k u)):=by
 induction r with
 |nil=>exact .nil
 | @cons p q ps qs h t c=>
  rw[cO,cO];refine .cons ?_ c;obtain⟨h1,h2,d⟩:=h;unfold putAt;by_cases e:p.1=k
  .rw[aA e,aA (h1.symm.trans e)];exact⟨h1,h2,b⟩
  .rw[ao e,ao (λz=>e (h1.trans z))];exact⟨h1,h2,d⟩
theorem KT.put{H:Hp}{kvs:List (List Key×V)}{xs:List (List Key×Addr×Value)}(r:KT H kvs xs)(k:List Key){b:Addr}{y:V}{u:Value}(c:H b=some (.tup (k.map kV)))(a:RelV y u):
  KT H (putK kvs k y) (storedH xs k b u):=by
 have e:(kvs.any λd=>decide (d.1=k))=(atKey xs k).isSome:=by
  rw[K4,(r.val k).sy,isSome_map]
 unfold putK storedH;rw[e];by_cases q:(atKey xs k).isSome=true
 .rw[aA q,aA q];exact r.repl k a
 .rw[ao q,ao q];exact Paired.snoc r ⟨rfl,c,a⟩
theorem KT.keeps{H H':Hp}{kvs:List (List Key×V)}{xs:List (List Key×Addr×Value)}(r:KT H kvs xs)(a:∀b ys,H b=some (.tup ys)->H' b=some (.tup ys)):KT H' kvs xs:=
 Paired.kO r λ_ _ z=>⟨z.1,a _ _ z.2.1,z.2.2⟩
section
variable{P:Program}{w:World}{H:Hp}{h:Heap}{a:Addr}
theorem II{u:HO}(ok:cV P w H h)(e:Rd H a u):b_ P w H h a u:=e.ok ok
theorem nS{kvs:List (Key×V)}(ok:cV P w H h)(e:Rd H a (.dK kvs)):kvs.length<=sizeLine/\(a==sysModules)=false/\∃vs,KV kvs vs/\h.DictOf (dj P w) a vs:=
 show b_ P w H h a (.dK kvs) from II ok e
theorem vp{kvs:List (Key×V)}(ok:cV P w H h)(e:H a=some (.dK kvs)):kvs.length<=sizeLine/\(a==sysModules)=false/\∃vs,KV kvs vs/\h.DictOf (dj P w) a vs:=nS ok (.inl e)
theorem sE{ks:List Key}(ok:cV P w H h)(e:H a=some (.tup (ks.map kV))):(tupleKind (dj P w)).is h ks a:=by
 obtain⟨_,its,r,p⟩:=(show b_ P w H h a (.tup (ks.map kV)) from ok a _ e);obtain⟨o,h1,h2,n,b⟩:=p.is;exact⟨o,its.toArray,n,h1,h2,b,by simpa using GQ r⟩
theorem rY{kvs:List (List Key×V)}(ok:cV P w H h)(e:Rd H a (.dT kvs)):kvs.length<=sizeLine/\(a==sysModules)=false/\
  ∃xs,KT H kvs xs/\h.DictOfH (tupleKind (dj P w)) a xs:=by
 obtain⟨z,y,xs,r,o,es,ep,h1,h2,c,d,f⟩:=(show b_ P w H h a (.dT kvs) from II ok e);refine⟨z,y,xs,r,o,es,ep,h1,h2,c,d,λx hx=>?_,f⟩;have all:∀{l:List (List Key×V)} {m:List (List Key×Addr×Value)},KT H l m->∀x∈m,(tupleKind (dj P w)).is h x.1 x.2.1:=by
  intro l m q;induction q with
  |nil=>intro x hx;exact nomatch hx
  | @cons p q ps qs b t g=>
   intro x hx;rcases aY.mp hx with e|hx
   .subst e
    exact sE ok (by rw[<-b.1];exact b.2.1)
   .exact g x hx
 exact all r x hx
theorem N1{kvs:List (List Key×V)}(ok:cV P w H h)(e:H a=some (.dT kvs)):kvs.length<=sizeLine/\(a==sysModules)=false/\
 ∃xs,KT H kvs xs/\h.DictOfH (tupleKind (dj P w)) a xs:=rY ok (.inl e)
end
def o9(H:Hp)(a:Addr)(y:V)(r:Option V):Prop:=
 (∃kvs k,Rd H a (.dK kvs)/\y=kV k/\r=fM kvs k)\/∃kvs k b,Rd H a (.dT kvs)/\y=.ref b/\H b=some (.tup (k.map kV))/\r=fM kvs k
def qW(H:Hp)(a:Addr)(y v:V)(H':Hp):Prop:=
 (∃kvs k,H a=some (.dK kvs)/\y=kV k/\kvs.length<sizeLine/\H'=upd H a (.dK (putK kvs k v)))\/
 ∃kvs k b,H a=some (.dT kvs)/\y= .ref b/\H b=some (.tup (k.map kV))/\kvs.length<sizeLine/\H'=upd H a (.dT (putK kvs k v))
theorem qW.k{H:Hp}{a:Addr}{kvs:List (Key×V)}{k:Key}{v:V}(e:H a=some (.dK kvs))(b:kvs.length<sizeLine):qW H a (kV k) v (upd H a (.dK (putK kvs k v))):=.inl ⟨kvs,k,e,rfl,b,rfl⟩
section
variable{X:Cx}{pins:aZ}{σ:St}{H:Hp}{s:Shared}{a:Addr}{y v:V}{u r:Value}{o:Option V}{A:Around}{E:aT}
theorem Inv.big(I:Inv X pins σ H s):sysModules<s.heap.objs.size:=by
 have h:mainGlobals<s.heap.objs.size:=(I.mod.glob.keeps I.bk).lt;exact lt_trans (by decide) h
theorem Nf{Q:aT}(n:A.units+1<cLine)(I:Inv X pins σ H s)(g:o9 H a y (some v))(m:RelV y u)(h:∀d s',Inv X pins σ H s'->RelV v d->Q d s'):
  wpAny (model X.prog X.w) A (getItem (.ref a) u) Q E s:=by
 rcases g with⟨kvs,k,e,f,l⟩|⟨kvs,k,b,e,f,q,l⟩
 .subst f
  obtain⟨z,hd,vs,rel,dd⟩:=nS I.hok e;obtain⟨d,i,c⟩:=jS.some_of (v:=v) (o:=valueAt vs k) (by rw[l];exact rel.val k);exact wpAny_getItem_of (nZ m) dd.mapOf i (h d _ (I.tok _) c)
 .subst f
  cases (show u=Value.ref b from m);obtain⟨z,hd,xs,rel,dd⟩:=rY I.hok e;obtain⟨d,i,c⟩:=jS.some_of (v:=v) (o:=(atKey xs k).map (·.2)) (by rw[l];exact rel.val k);obtain⟨p,r,j⟩:=map_eq_some_iff.mp i;refine wpAny_getItem_heap (yv n) (sE I.hok q) dd r ?_;rw[j];exact h d _ (I.tok _) c
theorem Nh{Q:aT}(f:A.units+1<cLine)(I:Inv X pins σ H s)(g:o9 H a y o)(d:RelV y u)(h:∀s',Inv X pins σ H s'->Q (.bool o.isSome) s'):
  wpAny (model X.prog X.w) A (compareOp .In u (.ref a)) Q E s:=by
 rcases g with⟨kvs,k,e,c,l⟩|⟨kvs,k,b,e,c,i,l⟩
 .subst c
  obtain⟨z,hd,vs,rel,dd⟩:=nS I.hok e;refine wpAny_in_of (nZ d) hd dd.mapOf ?_;rw[<-(rel.val k).sy,<-l];exact h _ (I.tok _)
 .subst c
  cases (show u=Value.ref b from d);obtain⟨z,hd,xs,rel,dd⟩:=rY I.hok e;refine wpAny_in_heap (yv f) (sE I.hok i) hd dd ?_;have q:=(rel.val k).sy;rw[isSome_map] at q;rw[<-q,<-l];exact h _ (I.tok _)
theorem Nn{Q:aT}(f:A.units+1<cLine)(I:Inv X pins σ H s)(g:o9 H a y o)(d:RelV y u)(h:∀s',Inv X pins σ H s'->Q (.bool (!o.isSome)) s'):
  wpAny (model X.prog X.w) A (compareOp .NotIn u (.ref a)) Q E s:=by
 rcases g with⟨kvs,k,e,c,l⟩|⟨kvs,k,b,e,c,i,l⟩
 .subst c
  obtain⟨z,hd,vs,rel,dd⟩:=nS I.hok e;refine wpAny_notIn_of (nZ d) hd dd.mapOf ?_;rw[<-(rel.val k).sy,<-l];exact h _ (I.tok _)
 .subst c
  cases (show u=Value.ref b from d);obtain⟨z,hd,xs,rel,dd⟩:=rY I.hok e;refine wpAny_notIn_heap (yv f) (sE I.hok i) hd dd ?_;have q:=(rel.val k).sy;rw[isSome_map] at q;rw[<-q,<-l];exact h _ (I.tok _)
theorem vc{h':Heap}{t':Nat}{c:HO}(I:Inv X pins σ H s)(d:rm (H a))(f:SameBut a s.heap h')(g:∃q,h'.get? a=some q)(new:b_ X.prog X.w (upd H a c) h' a c):
  Inv X pins σ (upd H a c) {s with heap:=h',toks:=t'}:=
 I.write (x:=a) (e:=a) d (.inl rfl) (λb q h z=>(f.2 b h).trans z) g new
theorem z0{P:Program}{w:World}{H':Hp}{h':Heap}{kvs:List (Key×V)}{vs:List (Key×Value)}(z:kvs.length<=sizeLine)(hd:(a==sysModules)=false)(rel:KV kvs vs)(dd:h'.DictOf (dj P w) a vs):
 b_ P w H' h' a (.dK kvs):=⟨z,hd,vs,rel,dd⟩
theorem Nq{H':Hp}{Q:Unit->Shared->Prop}(B:A.units+1<cLine)(I:Inv X pins σ H s)(g:qW H a y v H')(o:RelV y u)(p:RelV v r)(h:∀s',Inv X pins σ H' s'->Q () s'):
  wpAny (model X.prog X.w) A (setItem (.ref a) u r) Q E s:=by
 rcases g with⟨kvs,k,e,i,l,j⟩|⟨kvs,k,b,e,i,t,l,j⟩
 .subst i j
  obtain⟨z,hd,vs,rel,dd⟩:=vp I.hok e;have hz:vs.length<=sizeLine:=by rw[<-rel.length];exact z
  have m:(putK kvs k v).length<=sizeLine:=by have:=AQ kvs k v;omega
  refine wpAny_setItem_pairs (hsz:=hz) (nZ o) dd λh' d n=>h _ ?_;have C:∃q,h'.get? a=some q:=let ⟨q,_,_,f,_⟩:=d;⟨q,f⟩;exact vc I (by rw[e];exact True.intro) n C (z0 m hd (rel.put k p) d)
 .subst i j
  cases (show u=Value.ref b from o);obtain⟨z,hd,xs,rel,dd⟩:=N1 I.hok e;have hz:xs.length<=sizeLine:=by rw[<-Paired.length rel];exact z
  have m:(putK kvs k v).length<=sizeLine:=by have:=AQ kvs k v;omega
  refine wpAny_setItem_heap (hsz:=hz) (yv B) (sE I.hok t) dd λh' d n=>h _ ?_;obtain⟨q,es,ep,f,h2,D,F,_,G⟩:=d;refine vc I (by rw[e];exact True.intro) n ⟨q,f⟩ ⟨m,hd,_,(rel.put k t p).keeps λc ys x=>?_,q,es,ep,f,h2,D,F,G⟩;rw[bf (S_ x e (λz=>nomatch z))];exact x
end
section
variable{X:Cx}{pins:aZ}{σ:St}{H:Hp}{s:Shared}{a:Addr}{kvs:List (Key×V)}{k:Key}{u:Value}{A:Around}{E:aT}
theorem iu{Q:aT}(I:Inv X pins σ H s)(e:Rd H a (.dK kvs))(h:∀t s',Inv X pins σ H s'->Q (.int kvs.length t) s'):wpAny (model X.prog X.w) A (call (.builtin "len") [.ref a]) Q E s:=by
 obtain⟨z,hd,vs,rel,dd⟩:=nS I.hok e;refine call_len_dict hd dd (by rw[<-rel.length];rw[lZ] at z;omega) ?_;rw[<-rel.length];exact h _ _ (I.tok _)
end
theorem NP{X:Cx}{pins:aZ}{σ:St}{H:Hp}{s:Shared}{a:Addr}{y:V}{o:Option V}(I:Inv X pins σ H s)(g:o9 H a y o):s.TypeIs (.ref a) "dict":=by
 rcases g with⟨kvs,k,e,_,_⟩|⟨kvs,k,b,e,_,_,_⟩
 .obtain⟨_,_,vs,_,dd⟩:=nS I.hok e
  exact dd.typeIs
 .obtain⟨_,_,xs,_,dd⟩:=rY I.hok e
  exact dd.typeIs
def Wh(td ty tv:TE):TS:=λD σ H=>tv σ H λv H1=>td σ H1 λx H2=>ty σ H2 λy H3=>∃a H4,x=.ref a/\qW H3 a y v H4/\D.nx σ H4
section
variable{X:Cx}{o i e value:Expr}{pos pos' tpos:Pos}{td ty tv:TE}
theorem Vu(b:X.A.units+1<cLine)(c:PE X o td)(hi:PE X i ty)(d:PE X value tv)(e:swapsWith value (some (.Subscript o i pos')) pos.line X.env=pure false):
  PS X (.Assign [.Subscript o i pos'] value pos) (Wh td ty tv):=by
 intro pins s σ H D I h;refine wpAny_Assign_Subscript (aK (d pins s σ H _ I h) λr f ⟨v,H1,j,k,l⟩=>aK (c pins f σ H1 _ j l) λu m ⟨x,H2,n,p,q⟩=>aK (hi pins m σ H2 _ n q) λE F ⟨y,G,t,w,a,z,ex,g,B⟩=>?_) e;subst ex;obtain rfl:u=Value.ref a:=p;exact Nq b t g w k λs4 C=>⟨σ,z,C,B⟩
end
theorem Fp{P:Program}{w:World}{H:Hp}(h:Heap)(a:sysModules<h.objs.size):b_ P w H (h.push {cls:=.type "dict",data:=.dict #[]}) h.objs.size (.dK []):=
 ⟨bP _,yL.mpr (Ne.symm (bx a)),[],.nil,DictOf.new h⟩
def Yi:TE:=λ_ H Q=>∀p,H p=none->Q (.ref p) (upd H p (.dK []))
section
variable{X:Cx}{pos:Pos}
theorem UG:PE X (.Dict [] [] pos) Yi:=λpins s σ H Q I h=>
 wpAny_Dict_empty ⟨.ref s.heap.objs.size,_,I.laid (a:=s.heap.objs.size) (o:=.dK []) (t':=s.toks) (λ_ _ q=>bg _ q) (aF _) (Fp s.heap I.big),rfl,h _ (I.hok.fresh (aF _))⟩
end
def BY:List (TE×TE)->St->Hp->(List (V×V)->Hp->Prop)->Prop
 |[],_,H,Q=>Q [] H
 |(tk,tv)::r,σ,H,Q=>tk σ H λx H1=>tv σ H1 λy H2=>BY r σ H2 λps H3=>Q ((x,y)::ps) H3
abbrev VV:List (V×V)->List (Value×Value)->Prop:=Paired λp q=>RelV p.1 q.1/\RelV p.2 q.2
def uM(X:Cx)(pos:Pos)(keys:List (Option Expr))(values:List Expr)(Cd:List (TE×TE)):Prop:=
 ∀(pins:aZ) (s:Shared) (σ:St) (H:Hp) (Q:List (V×V)->Hp->Prop),Inv X pins σ H s->BY Cd σ H Q->
  wpAny (model X.prog X.w) X.A (evalPairs (pairTrees keys values X.env pos)) (λvs s'=>∃ps H',Inv X pins σ H' s'/\VV ps vs/\Q ps H') X.xe s
theorem Vp{X:Cx}{pos:Pos}:uM X pos [] [] []:=λpins s σ H Q I h=>pairTrees_nil_walk ⟨[],H,I,.nil,h⟩
theorem Vo{X:Cx}{pos:Pos}{k v:Expr}{ks:List (Option Expr)}{vs:List Expr}{b tv:TE}{a:List (TE×TE)}(c:PE X k b)(d:PE X v tv)(e:uM X pos ks vs a):
  uM X pos (some k::ks) (v::vs) ((b,tv)::a):=λpins s σ H Q I h=>
 pairTrees_cons_walk (aK (c pins s σ H _ I h) λu f ⟨x,H1,g,i,j⟩=>aK (d pins f σ H1 _ g j) λt l ⟨y,H2,m,n,o⟩=>
  aK (e pins l σ H2 _ m o) λws w ⟨ps,p,q,rel,r⟩=>⟨(x,y)::ps,p,q,.cons ⟨i,n⟩ rel,r⟩)
def kP(kvs more:List (Key×V)):List (Key×V):=more.foldl (λacc kv=>putK acc kv.1 kv.2) kvs
theorem KV.merge:∀{a:List (Key×V)} {rs:List (Key×Value)} {kvs:List (Key×V)} {vs:List (Key×Value)},KV a rs->KV kvs vs->KV (kP kvs a) (merged vs rs):=by
 intro a rs kvs vs r;unfold KV at r;induction r generalizing kvs vs with
 |nil=>intro q;exact q
 | @cons p q ps qs h t b=>
  intro c;have e:KV (putK kvs p.1 p.2) (stored vs q.1 q.2):=by
   have:=c.put p.1 h.2;rw[<-h.1];exact this
  exact b e
theorem AO:∀(a kvs:List (Key×V)),(kP kvs a).length<=kvs.length+a.length
 |[],kvs=>by show kvs.length<=kvs.length+0;omega
 |p::r,kvs=>by
  have h1:=AO r (putK kvs p.1 p.2);have h2:=AQ kvs p.1 p.2;show(kP (putK kvs p.1 p.2) r).length<=_;rw[gi];omega
theorem Ez{P:Program}{w:World}:∀{kvs:List (Key×V)} {ws:List (Value×Value)},VV (kvs.map λd=>(kV d.1,d.2)) ws->∃rs,Carries (dj P w) ws rs/\KV kvs rs
 |[],_,r=>by rw[map_nil] at r;cases r;exact⟨[],True.intro,.nil⟩
 |p::kvs,_,r=>by
  rw[cO] at r;cases r with
  | @cons a b as bs h t=>
   obtain⟨rs,c,q⟩:=Ez (P:=P) (w:=w) t;obtain⟨f,e⟩:=b;exact⟨(p.1,e)::rs,⟨nZ h.1,rfl,c⟩,.cons ⟨rfl,h.2⟩ q⟩
def Yj(Cd:List (TE×TE)):TE:=λσ H Q=>∀p,H p=none->BY Cd σ (upd H p (.dK [])) λps H2=>H2 p=some (.dK [])/\∃kvs:List (Key×V),ps=kvs.map (λkv=>(kV kv.1,kv.2))/\kvs.length<=15/\Q (.ref p) (upd H2 p (.dK (kP [] kvs)))
theorem UE{X:Cx}{pos:Pos}{keys:List (Option Expr)}{values:List Expr}{b:List (TE×TE)}(h:uM X pos keys values b)(d:keys.all (·.isSome)=true)(j:keys.length=values.length)(h0:keys≠[])
  (g:keys.length<=15):PE X (.Dict keys values pos) (Yj b):=by
 intro pins s σ H Q I q;have k:=I.hok.fresh (aF s.heap.objs.size);have l:=I.laid (a:=s.heap.objs.size) (o:=.dK []) (h':=s.heap.push {cls:=.type "dict",data:=.dict #[]}) (t':=s.toks) (λ_ _ q=>bg _ q) (aF _) (Fp s.heap I.big);refine wpAny_Dict_walk (knd:=dj X.prog X.w) d j h0 g (aK (h pins _ σ _ _ l (q _ k)) λws x ⟨ps,H2,i,rel,e,kvs,ep,lk,m⟩=>?_);subst ep;obtain⟨rs,c,n⟩:=Ez (P:=X.prog) (w:=X.w) rel;obtain⟨z,hd,p,r,dd⟩:=vp i.hok e;cases r;refine⟨rs,c,dd,λh' f t=>⟨.ref s.heap.objs.size,_,?_,rfl,m⟩⟩;have hz:(kP [] kvs).length<=sizeLine:=by
  have h1:=AO kvs [];rw[nk] at h1;rw[lZ];omega
 have u:∃q,h'.get? s.heap.objs.size=some q:=let ⟨q,_,_,v,_⟩:=f;⟨q,v⟩;exact vc i (by rw[e];exact True.intro) t u (z0 hz hd (n.merge .nil) f)
end L2
end
namespace CN
open PySem PySem.W PySem.Calls PyProof.Rows
theorem Rj{P:Params}{h:Heap}:∀(ns:List Int) (vs:List Value),WellAll P h vs (ns.map WData.int)->IntsAre vs ns:=by
 intro ns;induction ns with
 |nil=>
  intro vs w;rw[map_nil] at w;cases w;exact .nil
 |cons n ns c=>
  intro vs w;rw[cO] at w;cases w with
  |cons a b=>
   cases a;exact .cons _ _ (c _ b)
theorem Xq{l:OpenLaw}{n:Nat}(k:l.most=some n){P:Params}{h:Heap}{args:List WData}{vals:List Value}
  (b:l.row.toRowW.claim.pre args=true)(i:WellAll P h vals args):
  ∃a vs ns,vals=[Value.ref a]/\args=[WData.list (ns.map WData.int)]/\h.get? a=some {cls:=.type "list",data:=.seq vs.toArray}/\IntsAre vs ns/\ns.length<=n:=by
 have j:WShape.hasAll [] args [.list .int]=true:=(pre_splitW b).1;have hc:l.pre.holds [] {args:=args}=true:=(pre_splitW b).2;obtain⟨d,r,rfl,h1,h2⟩:=hasAllW_cons j;obtain rfl:=hasAllW_nil h2;obtain⟨xs,rfl,m⟩:=hasW_list h1;obtain⟨ns,rfl⟩:=items_int m;have c:ns.length<=n:=by
  unfold OpenLaw.pre at hc;have f:(WTm.not (.lt (.lit (.int (n:Int))) (.len (.arg 0)))).holds [] {args:=[.list (ns.map .int)]}=true:=by
   have f:=(holds_andW hc).1;rw[k] at f;exact f
  have g:=condW_of f (w_not (w_lt w_lit (w_len_list (w_arg rfl))));rw[aM] at g;refine Nat.le_of_not_lt λq=>?_;have o:(n:Int)<((ns.length:Nat):Int):=by omega
  first
   |(rw[dR o] at g;exact absurd g (by decide))
   |(simp at g;omega)
 cases i with
 |cons p s=>
  cases s;cases p with
  |list t e=>exact⟨_,_,ns,rfl,rfl,t,Rj ns _ e,c⟩
theorem Vj(l:OpenLaw)(args:List WData):l.row.toRowW.claim.post args (.bool true) args=true:=
 postW_of (r:=l.row.toRowW) (X:=(true==true))
  (show WShape.has [] (.bool true) .bool=true by first|rfl|decide|simp[WShape.has,WShape.arms,WShape.armsAll])
  (show(WTm.eq .res (.lit (.bool true))).value [] {args:=args,res:=some (.bool true),after:=args}=some (.bool (true==true)) from w_eq_bool (w_res rfl) w_lit) rfl
theorem Ma{l:OpenLaw}{n:Nat}{q:Program}{loose:List Str}{p:(aC)->Heap->Prop}{s:World->Heap->Prop}{d:DefRec}
  (v:l.most=some n)(i:d.params.defaults=[])
  (call:∀(w:World) (s₀ b:Shared) (mg mb:aC) (c:Addr) (o:Obj) (pm cd doc:Value) (a:Addr) (vs:List Value) (ns:List Int),
   Ground q loose [] p w s₀ mg mb b.heap->s w b.heap->
   b.heap.get? c=some o->o.data= .func (docDef d.name d.params d.body d.scope pm cd doc)->b.heap.CodeRec cd d.name->mg d.name=some (.ref c)->
   b.heap.get? a=some {cls:= .type "list",data:= .seq vs.toArray}->IntsAre vs ns->ns.length<=n->b.gens= #[]->
   codeAny (model l.prog w) callerA (.call (.ref c) ⟨[.ref a],[]⟩) (λr s'=>r= .ok (.ret (.bool true))/\OldK b.heap s'.heap/\s'.os=b.os/\AllBare s'.gens) b):
  WalkO q loose p s l.row.toRowW d [] (λf vs=>PySem.call f vs):=by
 intro w s₀ b mg mb G Y c o pm cd doc x kV y hd j t k z args vals as e u A m B
 obtain rfl:x= .none:=Dflts.none t i
 obtain rfl:kV= .none:=Dflts.noKw t
 obtain⟨a,vs,ns,rfl,rfl,g,hints,h⟩:=Xq v e m
 refine enter_call (lu (call w s₀ b mg mb c o pm cd doc a vs ns G Y y (fd_plain hd) j k g hints h z) λr s' C=> ?_)
 obtain⟨rfl,h2,D,E⟩:=C
 exact⟨.inl ⟨.bool true,.bool true,[],rfl,λ_=>rfl,.bool true,Vj l _,λ_=>⟨Pairwise.nil,λ_ F=>(nomatch F)⟩⟩,h2,D,E⟩
end CN
section
open PySem PySem.Spec PyProof.Rows
namespace L2
theorem K5:∀{vs:List Value} {ns:List Int},IntsAre vs ns->Vals (ns.map V.int) vs
 |_,_,.nil=>.nil
 |_,_,.cons n t h=>.cons ⟨t,rfl⟩ (K5 h)
def uL(H:Hp):Prop:=∀b,H b=none\/∃o xs,H b=some (.bT o (.lst xs))
theorem Sf{P:Program}{w:World}{K:Frag}{mg mb:aC}{CX:jn}{k:Nat}{D a:Addr}{fd:FuncData}{x:Str}{sp:Sp}{c:Shared}{vs:List Value}{ns:List Int}
  (N:K.In c.heap)(l:c.heap.Ns mainGlobals mg)(g:c.heap.Ns builtinsNs mb)(E:∀x:Str,x≠"__name__"->mb x=bootBuiltins x)(p:c.heap.NoLimit)(U:c.gens= #[])
  (C:c.heap.get? a=some {cls:= .type "list",data:= .seq vs.toArray})(hi:IntsAre vs ns)(O:ns.length<=sizeLine)(W:dZ k callerA)
  (F:∀base:Heap,K.In base->base.Ns mainGlobals mg->gk P w K mg base CX k D fd [x] sp)(j:∀(s:Shared) (u:Value),BindsTo s fd ⟨[u],[]⟩ [(x,u)])
  (G:∀H:Hp,uL H->aW K H a (ns.map V.int)->sp [.ref a] H (λv _=>v= .bl true) λ_ _ _=>False)
  (I:∀H e s',CX [] H c (λ_ _ _=>False) e s'->False):
  codeAny (model P w) callerA (.call (.ref D) ⟨[.ref a],[]⟩) (λr s'=>r= .ok (.ret (.bool true))/\OldK c.heap s'.heap/\s'.os=c.os/\AllBare s'.gens) c:=by
 have Q:=K5 hi
 have t:=hi.length
 have core:∀H:Hp,uL H->aW K H a (ns.map V.int)->cV P w H c.heap->(∀b,H b≠none->b=a)->(H a≠none->K.lookup a=none)->
   codeAny (model P w) callerA (.call (.ref D) ⟨[.ref a],[]⟩) (λr s'=>r= .ok (.ret (.bool true))/\OldK c.heap s'.heap/\s'.os=c.os/\AllBare s'.gens) c:=by
  intro H R X hok S Y
  have f:∀{b:Addr} {o:Obj},c.heap.get? b=some o->H b=none->(lK c.heap H).get? b=some o:=λe n=>QJ e n
  have J:∀{b:Addr} {o:Obj} {es:Array DictEntry} {ep:Nat},c.heap.get? b=some o->o.data= .dict es ep->H b=none:=λ {b o es ep} e d=>by
   cases q:H b with
   |none=>rfl
   |some u=>
    have L:b=a:=S b (by rw[q];simp)
    subst L
    rw[C] at e;cases e
    have d':Data.seq vs.toArray _=Data.dict es ep:=d
    cases d'
  have i:∀{b:Addr} {m:aC},c.heap.Ns b m->(lK c.heap H).Ns b m:=λ {b m} ⟨o,es,ep,e,d,r⟩=>⟨o,es,ep,f e (J e d),d,r⟩
  have y:K.In (lK c.heap H):=λb o e=>f (N b o e) (by
   cases q:H b with
   |none=>rfl
   |some u=>
    have L:b=a:=S b (by rw[q];simp)
    subst L
    rw[Y (by rw[q];simp)] at e;cases e)
  have Z:Mod K mg (lK c.heap H):=⟨y,i l,⟨mb,i g,E⟩,let ⟨mc,h1,h2⟩:=p;⟨mc,i h1,h2⟩⟩
  have e0:uE P w K mg (lK c.heap H) callerA [] c H:=⟨rfl,Z,λb o e=>TV e,Nat.le_of_eq (QK _ _),trivial,λb g=>absurd (show b∈([]:List Addr) from g) (by simp),hok,.of_eq U⟩
  refine lu ((F _ y (i l)).run callerA [] c H ⟨[.ref a],[]⟩ [.ref a] [.ref a] _ _ W e0 (j c (.ref a)) (.cons rfl .nil) (G H R X)) λr s' h=> ?_
  cases r with
  |error e=>exact(I H e s' h).elim
  |ok fl=>
   cases fl with
   |next=>exact False.elim h
   |brk=>exact False.elim h
   |cont=>exact False.elim h
   |ret u=>
    obtain⟨v,H',os,bare,un,A,r',q⟩:=h
    have q':v= .bl true:=q
    subst q'
    obtain rfl:u=Value.bool true:=r'
    refine⟨rfl,OldK.of_keep λb o e=> ?_,os,bare⟩
    cases q:H b with
    |none=>exact un.keep b o e q (by intro z;exact absurd (show b∈([]:List Addr) from z) (by simp)) (by simp)
    |some u=>
     rcases R b with z|⟨ob,xs,z⟩
     .rw[q] at z;cases z
     .have z2:=un.gV b ob _ z
      obtain⟨T,_⟩:=hok b _ z
      obtain⟨e2,_⟩:=A b _ z2
      rw[e] at T;cases T
      exact e2
 cases M:K.lookup a with
 |some o=>
  have e:=N a o M
  rw[C] at e
  cases e
  refine core (λ_=>none) (λ_=> .inl rfl) (.inr ⟨_,vs.toArray,_,M,rfl,rfl,rfl,by rw[cj,t];exact O,by simpa using Q⟩) (λb u z=>by have B:(none:Option HO)=some u:=z;cases B) (λb z=>absurd rfl z) λz=>absurd rfl z
 |none=>
  refine core (λb=>if b=a then some (.bT {cls:= .type "list",data:= .seq vs.toArray} (.lst (ns.map V.int))) else none) (λb=> ?_) (.inl (.inr ⟨{cls:= .type "list",data:= .seq vs.toArray},aA rfl⟩)) (λb u z=> ?_) (λb z=> ?_) λ_=>M
  .by_cases g:b=a
   .exact .inr ⟨_,_,aA g⟩
   .exact .inl (ao g)
  .by_cases g:b=a
   .have B:=(aA g).symm.trans z
    cases B
    subst g
    exact⟨C,by rw[aM];exact O,vs,_,Q,C⟩
   .have B:=(ao g).symm.trans z
    cases B
  .by_cases g:b=a
   .exact g
   .exact absurd (ao g) z
theorem Y_{l:PySem.W.OpenLaw}{n k:Nat}{q:Program}{loose:List Str}{C:(aC)->Heap->Prop}{A:World->Heap->Prop}{d:DefRec}{K:Params->Frag}{CX:World->jn}{sp:World->Sp}{x:Str}
  (D:l.most=some n)(p:n<=sizeLine)(r:d.params.defaults=[])(E:dZ k callerA)
  (I:∀(w:World) (h:Heap),A w h->(K w.params).In h)
  (F:∀(w:World) (mg:aC) (m:Addr) (h:Heap),(K w.params).In h->h.Ns mainGlobals mg->mg d.name=some (.ref m)->
   ∃fd:FuncData,(∀(s:Shared) (u:Value),BindsTo s fd ⟨[u],[]⟩ [(x,u)])/\
    ∀base:Heap,(K w.params).In base->base.Ns mainGlobals mg->gk l.prog w (K w.params) mg base (CX w) k m fd [x] (sp w))
  (t:∀(w:World) (H:Hp) (a:Addr) (ns:List Int),ns.length<=n->uL H->aW (K w.params) H a (ns.map V.int)->sp w [.ref a] H (λv _=>v= .bl true) λ_ _ _=>False)
  (y:∀(w:World) (H:Hp) (s:Shared) (e:Value) (s':Shared),CX w [] H s (λ_ _ _=>False) e s'->False):
  PySem.W.WalkO q loose C A l.row.toRowW d [] (λf vs=>PySem.call f vs):=by
 refine CN.Ma D r λw s₀ i mg mb m o pm cd doc a vs ns G Y Q hd J z j hints c L=> ?_
 have B:=I w _ Y
 obtain⟨fd,M,N⟩:=F w mg m _ B G.T.g z
 exact Sf B G.T.g G.T.b G.T.builtins G.T.nolimit L j hints (cG c p) E N M (λH O P=>t w H a ns c O P) λH e s'=>y w H i e s'
def mR(s:Stmt):Arguments:=match s with
 |.FunctionDef _ a _ _ _ _ _ _ _ _=>a
 |_=>{posonlyargs:=[],args:=[],vararg:=none,kwonlyargs:=[],kw_defaults:=[],kwarg:=none,defaults:=[]}
def iI(s:Stmt):List Stmt:=match s with
 |.FunctionDef _ _ b _ _ _ _ _ _ _=>b
 |_=>[]
def aI(s:Stmt):Scope:=match s with
 |.FunctionDef _ _ _ _ _ _ sc _ _ _=>sc
 |_=>{kind:=.function,names:=[],isGenerator:=false,isCoroutine:=false}
structure lC(K:Frag)(x qual:Str)(st:Stmt)(f:Addr)(fd:FuncData):Prop where
 ex:∃(oc:Value) (od:Option Addr) (kV doc pm:Value) (an:Option Addr) (cdv ct:Value) (osl:Array (Option Value)),
  fd=fnOf x qual (mR st) (iI st) (aI st) .none kV doc pm an cdv ct/\K.lookup f=some ⟨oc,od,.func fd,osl⟩/\codeIn K cdv qual=true
 kp:keepIn K (.ref f)=true
section
variable{P:Program}{w:World}{K:Frag}{mg:aC}{base:Heap}
theorem lC.binds{x qual:Str}{st:Stmt}{f:Addr}{fd:FuncData}{ps:List Str}(F:lC K x qual st f fd)
  (h:∀(kV doc pm:Value) (an:Option Addr) (a ct:Value) (b:List Value),b.length=ps.length->bindArgs (fnOf x qual (mR st) (iI st) (aI st) .none kV doc pm an a ct) ⟨b,[]⟩=pure (ps.zip b)):Binds K fd ps []:=by
 obtain⟨e,g,kV,doc,pm,an,a,ct,c,rfl,lk,d⟩:=F.ex;exact .all (h kV doc pm an a ct)
theorem Ah{x qual:Str}{st:Stmt}{f:Addr}{d:Value}{e an:Option Addr}{b:Array (Option Value)}{kV doc pm a ct:Value}(l:K.lookup f=some ⟨d,e,.func (fnOf x qual (mR st) (iI st) (aI st) .none kV doc pm an a ct),b⟩)
 (c:codeIn K a qual=true)(k:keepIn K (.ref f)=true):lC K x qual st f (fnOf x qual (mR st) (iI st) (aI st) .none kV doc pm an a ct):=⟨⟨d,e,kV,doc,pm,an,a,ct,b,rfl,l,c⟩,k⟩
end
section
variable{X:Cx}
theorem Mq:eS X (.builtin "len") (λxs H Q=>∃a kvs,xs=[V.ref a]/\H a=some (.dK kvs)/\Q (.int kvs.length) H):=by
 intro pins s σ H xs e Q I r h;obtain⟨a,kvs,rfl,b,q⟩:=h;obtain⟨u,rfl,c⟩:=vals1 r;cases c;exact iu I (.inl b) λt s' d=>⟨.int kvs.length,H,d,⟨t,rfl⟩,q⟩
end
theorem Rp{A B:Prop}(h:B):if false=true then A else B:=by
 rw[ao bV];exact h
theorem Rq{A B:Prop}(h:A):if true=true then A else B:=by
 rw[aA rfl];exact h
def lE(H H':Hp):Prop:=∀b o,H b=some o->H' b=some o
end L2
end
namespace PySem
open Sem (wp)
namespace ZL
abbrev ko(h:Heap)(z TI TO:Addr)(f0 f1:Value):Prop:=
 h.get? z=some {cls:=.type "zip",dict:=none,data:=.fields #[f0,f1,.bool false,.ref TI,.ref TO],slots:= #[]}
section
variable{prog:Program}{w:World}{A:Around}{E:aT}{s:Shared}
theorem Zh{z TI TO i1 i2 l1 l2 T:Addr}{F:Obj}{m:Bool}{k1 k2:Nat}{xs ys:Array Value}{x y:Value}{Q:aT}(D:ZipApart z TI TO i1 i2 l1 l2)
  (hz:ko s.heap z TI TO (rawInt T) (.bool m))(H:s.heap.get? T=some F)(I:T≠z)(n:IsPair s.heap TI (.ref i1) (.ref i2))
  (h1:s.heap.IsListIter i1 l1 k1)(h2:s.heap.IsListIter i2 l2 k2)(q:s.heap.IsList l1 xs)(t:s.heap.IsList l2 ys)(J:xs[k1]? =some x)(K:ys[k2]? =some y)
  (L:∀h',ko h' z TI TO (rawInt T) (.bool true)->h'.IsListIter i1 l1 (k1+1)->h'.IsListIter i2 l2 (k2+1)->IsPair h' s.heap.objs.size x y->h'.objs.size=s.heap.objs.size+1->
   (∀c o,c≠z->c≠i1->c≠i2->s.heap.get? c=some o->h'.get? c=some o)->Q (.ref s.heap.objs.size) {s with heap:=h'}):
  wpAny (model prog w) A (Builtin.«zip.__next__» ⟨[.ref z],[]⟩) (λfin s'=>∃v,fin= .done (.ret v)/\Q v s') E s:=by
 show wpAny _ _ (field (.ref z) 2>>=_) _ _ _
 refine ah (j_ hz rfl (x:= .bool false) rfl ?_)
 show wpAny _ _ (field (.ref z) 3>>=_) _ _ _
 refine ah (j_ hz rfl (x:= .ref TI) rfl ?_)
 refine ah (ur n rfl ?_)
 show wpAny _ _ (Builtin.SmallTypes.ownedTupleIsFree (.ref z)>>=_) _ _ _
 have first:wpAny (model prog w) A (Builtin.SmallTypes.ownedTupleIsFree (.ref z)) (λb s'=>b=false/\∃f,s'={s with heap:=f}/\ko f z TI TO (rawInt T) (.bool true)/\SameBut z s.heap f) E s:=by
  unfold Builtin.SmallTypes.ownedTupleIsFree
  refine ah (j_ hz rfl (x:=rawInt T) rfl ?_)
  show wpAny _ _ (loadIfAlive ((T:Int)).toNat>>=_) _ _ _
  have M:∀{R:Option Obj->Shared->Prop},R (some F) s->wpAny (model prog w) A (loadIfAlive ((T:Int)).toNat) R E s:=λ {R} h=>by
   intro O p _
   unfold loadIfAlive
   rw[Sem.wp_loadIfAlive,qI,H]
   exact h
  refine ah (M ?_)
  rw[ao (by simp)]
  refine ah (j_ hz rfl (x:= .bool m) rfl ?_)
  cases m with
  |true=>exact aB ⟨rfl,s.heap,rfl,hz,.refl ..⟩
  |false=>
   show wpAny _ _ (setField (.ref z) 1 (.bool true)>>=_) _ _ _
   exact ah (wpAny_setField_rec hz (by simp) λf i a=>aB ⟨rfl,f,rfl,i,a⟩)
 refine ah (k9 first (λb s' N=> ?_) λ_ _ e=>e)
 obtain⟨rfl,f,rfl,i,a⟩:=N
 show wpAny _ _ (forIn _ _ _>>=_) _ _ _
 refine ah ?_
 rw[<-Array.forIn_toList]
 simp only[forIn_cons,forIn_nil]
 refine ah (ah (eY ?_))
 show wpAny _ _ (Builtin.SmallTypes.nextOf (.ref i1)>>=_) _ _ _
 refine ah (Cz (h1.extBut a.extBut D.i1z) (q.extBut a.extBut D.l1z) J λG k d=>aB (aB ?_))
 refine ah (ah (eY ?_))
 show wpAny _ _ (Builtin.SmallTypes.nextOf (.ref i2)>>=_) _ _ _
 refine ah (Cz ((h2.extBut a.extBut D.i2z).extBut d.extBut D.i12.symm) ((t.extBut a.extBut D.l2z).extBut d.extBut D.l2i1) K λj l g=>aB (aB (aB ?_)))
 show wpAny _ _ (newTuple [x,y]>>=λr=>ret r) _ _ _
 have hsz:j.objs.size=s.heap.objs.size:=by rw[g.1,d.1,a.1]
 refine ah (gH (aB ⟨_,rfl,?_⟩) (by show 2<=sizeLine;decide))
 show Q (.ref j.objs.size) _
 rw[hsz]
 have up:∀c o,c≠z->c≠i1->c≠i2->s.heap.get? c=some o->j.get? c=some o:=λc o u B C e=>g.extBut _ _ C (d.extBut _ _ B (a.extBut _ _ u e))
 refine L _ (bg _ (g.extBut _ _ D.i2z.symm (d.extBut _ _ D.i1z.symm i))) ((k.extBut g.extBut D.i12).at λo e=>bg _ e) (l.at λo e=>bg _ e) ?_ (by rw[eW,hsz]) λc o u B C e=>bg _ (up c o u B C e)
 rw[<-hsz]
 exact b9 _ rfl
theorem Uv{z TI TO T:Addr}{f:Obj}{e:Bool}(hz:ko s.heap z TI TO (rawInt T) (.bool e))(g:s.heap.get? T=some f):
  wpAny (model prog w) A (Builtin.SmallTypes.ownedTupleIsFree (.ref z)) (λb s'=>b=false/\∃a,s'={s with heap:=a}/\ko a z TI TO (rawInt T) (.bool true)/\SameBut z s.heap a) E s:=by
 unfold Builtin.SmallTypes.ownedTupleIsFree;refine ah (j_ hz rfl (x:=rawInt T) rfl ?_);show wpAny _ _ (loadIfAlive ((T:Int)).toNat>>=_) _ _ _;have i:∀{R:Option Obj->Shared->Prop},R (some f) s->wpAny (model prog w) A (loadIfAlive ((T:Int)).toNat) R E s:=λ {R} h=>by
  intro j p _;unfold loadIfAlive;rw[Sem.wp_loadIfAlive,qI,g];exact h
 refine ah (i ?_);rw[ao (by simp)];refine ah (j_ hz rfl (x:=.bool e) rfl ?_);cases e with
 |true=>exact aB ⟨rfl,s.heap,rfl,hz,.refl ..⟩
 |false=>
  show wpAny _ _ (setField (.ref z) 1 (.bool true)>>=_) _ _ _;exact ah (wpAny_setField_rec hz (by simp) λa c d=>aB ⟨rfl,a,rfl,c,d⟩)
theorem Zg{z TI TO i1 i2 l1 l2 T:Addr}{C:Obj}{F:Bool}{k1 k2:Nat}{xs ys:Array Value}{Q:Fin->Shared->Prop}(v:A.handled=none)(D:ZipApart z TI TO i1 i2 l1 l2)
  (hz:ko s.heap z TI TO (rawInt T) (.bool F))(G:s.heap.get? T=some C)(l:IsPair s.heap TI (.ref i1) (.ref i2))
  (h1:s.heap.IsListIter i1 l1 k1)(h2:s.heap.IsListIter i2 l2 k2)(i:s.heap.IsList l1 xs)(m:s.heap.IsList l2 ys)(j:xs[k1]? =none\/ys[k2]? =none)
  (y:∀h' e,(∀c o,c≠z->c≠i1->c≠i2->s.heap.get? c=some o->h'.get? c=some o)->(∃o,h'.get? e=some o/\o.cls= .type "StopIteration")->E (.ref e) {s with heap:=h'}):
  wpAny (model prog w) A (Builtin.«zip.__next__» ⟨[.ref z],[]⟩) Q E s:=by
 show wpAny _ _ (field (.ref z) 2>>=_) _ _ _
 refine ah (j_ hz rfl (x:= .bool false) rfl ?_)
 show wpAny _ _ (field (.ref z) 3>>=_) _ _ _
 refine ah (j_ hz rfl (x:= .ref TI) rfl ?_)
 refine ah (ur l rfl ?_)
 show wpAny _ _ (Builtin.SmallTypes.ownedTupleIsFree (.ref z)>>=_) _ _ _
 refine ah (k9 (Uv hz G) (λb s' H=> ?_) λ_ _ e=>e)
 obtain⟨rfl,B,rfl,n,a⟩:=H
 show wpAny _ _ (forIn _ _ _>>=_) _ _ _
 refine ah ?_
 rw[<-Array.forIn_toList]
 simp only[forIn_cons,forIn_nil]
 refine ah (ah (eY ?_))
 show wpAny _ _ (Builtin.SmallTypes.nextOf (.ref i1)>>=_) _ _ _
 cases p:xs[k1]? with
 |none=>
  refine ah (wpAny_nextOf_list_end v (h1.extBut a.extBut D.i1z) (i.extBut a.extBut D.l1z) p λf e d q=> ?_)
  exact y f e (λc o r t _ x=>d _ _ t (a.extBut _ _ r x)) q
 |some x=>
  have I:ys[k2]? =none:=by rcases j with h|h;rw[p] at h;cases h;exact h
  refine ah (Cz (h1.extBut a.extBut D.i1z) (i.extBut a.extBut D.l1z) p λf u d=>aB (aB ?_))
  refine ah (ah (eY ?_))
  show wpAny _ _ (Builtin.SmallTypes.nextOf (.ref i2)>>=_) _ _ _
  refine ah (wpAny_nextOf_list_end v ((h2.extBut a.extBut D.i2z).extBut d.extBut D.i12.symm) ((m.extBut a.extBut D.l2z).extBut d.extBut D.l2i1) I λk e g q=> ?_)
  exact y k e (λc o r t J x=>g _ _ J (d.extBut _ _ t (a.extBut _ _ r x))) q
theorem VP{z TI TO i1 i2 l1 l2 T:Addr}{g:Obj}{h:Bool}{k1 k2:Nat}{xs ys:Array Value}{x y:Value}{Q:Option Value->Shared->Prop}(D:ZipApart z TI TO i1 i2 l1 l2)
  (hz:ko s.heap z TI TO (rawInt T) (.bool h))(i:s.heap.get? T=some g)(b:T≠z)(d:IsPair s.heap TI (.ref i1) (.ref i2))
  (h1:s.heap.IsListIter i1 l1 k1)(h2:s.heap.IsListIter i2 l2 k2)(e:s.heap.IsList l1 xs)(f:s.heap.IsList l2 ys)(j:xs[k1]? =some x)(k:ys[k2]? =some y)
  (l:∀h',ko h' z TI TO (rawInt T) (.bool true)->h'.IsListIter i1 l1 (k1+1)->h'.IsListIter i2 l2 (k2+1)->IsPair h' s.heap.objs.size x y->h'.objs.size=s.heap.objs.size+1->
   (∀c o,c≠z->c≠i1->c≠i2->s.heap.get? c=some o->h'.get? c=some o)->Q (some (.ref s.heap.objs.size)) {s with heap:=h'}):
  wpAny (model prog w) A (pyNext (.ref z)) Q E s:=by
 have a:s.TypeIs (.ref z) "zip":=⟨_,hz,rfl⟩
 unfold pyNext
 exact ah (qJ (oR (name:=Str.ofString "__next__") a yq
  (jj yq a F.entry_zip_next
   (Zh D hz i b d h1 h2 e f j k λh' a1 a2 a3 a4 a5 m=>aB (l h' a1 a2 a3 a4 a5 m)) (F.args_zip_next_1 _))))
theorem VO{z TI TO i1 i2 l1 l2 T:Addr}{i:Obj}{j:Bool}{k1 k2:Nat}{xs ys:Array Value}{Q:Option Value->Shared->Prop}(k:A.handled=none)(D:ZipApart z TI TO i1 i2 l1 l2)
  (hz:ko s.heap z TI TO (rawInt T) (.bool j))(l:s.heap.get? T=some i)(f:IsPair s.heap TI (.ref i1) (.ref i2))
  (h1:s.heap.IsListIter i1 l1 k1)(h2:s.heap.IsListIter i2 l2 k2)(g:s.heap.IsList l1 xs)(h:s.heap.IsList l2 ys)(a:xs[k1]? =none\/ys[k2]? =none)
  (m:∀h',(∀c o,c≠z->c≠i1->c≠i2->s.heap.get? c=some o->h'.get? c=some o)->Q none {s with heap:=h'}):wpAny (model prog w) A (pyNext (.ref z)) Q E s:=by
 have d:s.TypeIs (.ref z) "zip":=⟨_,hz,rfl⟩
 unfold pyNext
 refine ah (qJ (oR (name:=Str.ofString "__next__") d yq
  (jj yq d F.entry_zip_next (Zg k D hz l f h1 h2 g h a λh' e n p=> ?_) (F.args_zip_next_1 _))))
 obtain⟨o,q,hc⟩:=p
 refine ah (yz (T:="StopIteration") (b:=true) ⟨o,q,hc⟩ isSubtype_stop ?_)
 exact aB (m _ n)
structure ZS(z TI TO i1 i2 l1 l2 base:Addr)(xs ys:Array Value)(k:Nat)(h:Heap):Prop where
 zip:(k=0/\IsZip h z TI TO .none)\/(0<k/\∃bb,ko h z TI TO (rawInt base) (.bool bb))
 ti:IsPair h TI (.ref i1) (.ref i2)
 to:∃a b,IsPair h TO a b
 pW:h.IsListIter i1 l1 k
 pX:h.IsListIter i2 l2 k
 mX:h.IsList l1 xs
 mY:h.IsList l2 ys
 sz:h.objs.size=base+k
 old:∀(j:Nat) x y,j<k->xs[j]? =some x->ys[j]? =some y->IsPair h (base+j) x y
structure pF(z TI TO i1 i2 l1 l2 base:Addr):Prop where
 z:z<base
 to:TO<base
 i1:i1<base
 i2:i2<base
theorem ZS.upd{z TI TO i1 i2 l1 l2 base S:Addr}{xs ys:Array Value}{k:Nat}{h h':Heap}(Z:ZS z TI TO i1 i2 l1 l2 base xs ys k h)(c:∀b o,b≠S->h.get? b=some o->h'.get? b=some o)(d:h'.objs.size=h.objs.size)
  (n1:z≠S)(n2:TI≠S)(n3:TO≠S)(n4:i1≠S)(n5:i2≠S)(n6:l1≠S)(n7:l2≠S)(n8:S<base):ZS z TI TO i1 i2 l1 l2 base xs ys k h' where
 zip:=by
  rcases Z.zip with⟨e,q⟩|⟨e,f,q⟩
  .exact .inl ⟨e,c _ _ n1 q⟩
  .exact .inr ⟨e,f,c _ _ n1 q⟩
 ti:=c _ _ n2 Z.ti
 to:=let ⟨a,b,q⟩:=Z.to;⟨a,b,c _ _ n3 q⟩
 pW:=Z.pW.at λo e=>c _ o n4 e
 pX:=Z.pX.at λo e=>c _ o n5 e
 mX:=Z.mX.at λo e=>c _ o n6 e
 mY:=Z.mY.at λo e=>c _ o n7 e
 sz:=d.trans Z.sz
 old:=λj x y g i l=>c _ _ (j9 (cP n8 (qu _ _))) (Z.old j x y g i l)
theorem Zl{z TI TO i1 i2 l1 l2 base:Addr}{xs ys:Array Value}{k:Nat}{x y:Value}{Q:Option Value->Shared->Prop}(D:ZipApart z TI TO i1 i2 l1 l2)(L:pF z TI TO i1 i2 l1 l2 base)
  (Z:ZS z TI TO i1 i2 l1 l2 base xs ys k s.heap)(g:xs[k]? =some x)(h:ys[k]? =some y)
  (I:∀h',ZS z TI TO i1 i2 l1 l2 base xs ys (k+1) h'->(∀c o,c≠z->c≠TO->c≠i1->c≠i2->s.heap.get? c=some o->h'.get? c=some o)->Q (some (.ref (base+k))) {s with heap:=h'}):
  wpAny (model prog w) A (pyNext (.ref z)) Q E s:=by
 obtain⟨a,b,f⟩:=Z.to
 have new:∀h',(∀c o,c≠z->c≠TO->c≠i1->c≠i2->s.heap.get? c=some o->h'.get? c=some o)->IsPair h' s.heap.objs.size x y->∀(j:Nat) i l,j<k+1->xs[j]? =some i->ys[j]? =some l->IsPair h' (base+j) i l:=λh' d K j i l M m n=>by
  by_cases p:j=k
  .subst p
   rw[g] at m;rw[h] at n;cases m;cases n
   rw[<-Z.sz]
   exact K
  .have lo:∀c,c<base->base+j≠c:=λc hc e=>absurd (cP hc (qu base j)) (by rw[e];exact gw _)
   exact d _ _ (lo _ L.z) (lo _ L.to) (lo _ L.i1) (lo _ L.i2) (Z.old j i l (by omega) m n)
 rcases Z.zip with⟨e,q⟩|⟨e,N,q⟩
 .subst e
  refine wpAny_pyNext_zip_item D q Z.ti f Z.pW Z.pX Z.mX Z.mY g h λh' a1 a2 a3 a4 a5 t d=> ?_
  have u:s.heap.objs.size=base:=Z.sz
  have r:=I h' ⟨.inr ⟨succ_pos _,false,by rw[u] at a1;exact a1⟩,d _ _ D.TIz D.TITO D.TIi1 D.TIi2 Z.ti,⟨_,_,a2⟩,a3,a4,Z.mX.at λo e=>d _ o D.l1z D.l1TO D.l1i1 D.l1i2 e,Z.mY.at λo e=>d _ o D.l2z D.l2TO D.l2i1 D.l2i2 e,
   by rw[t,u],new h' d a5⟩ d
  rw[u]
  exact r
 .obtain⟨x0,v⟩:∃x0,xs[0]? =some x0:=⟨xs[0]'(by have:=(yd.mp g).1;omega),fc _⟩
  obtain⟨B,C⟩:∃B,ys[0]? =some B:=⟨ys[0]'(by have:=(yd.mp h).1;omega),fc _⟩
  have J:=Z.old 0 x0 B e v C
  rw[Nat.add_zero] at J
  refine VP D q J (j9 L.z) Z.ti Z.pW Z.pX Z.mX Z.mY g h λh' a1 a3 a4 a5 t d=> ?_
  have r:=I h' ⟨.inr ⟨succ_pos _,true,a1⟩,d _ _ D.TIz D.TIi1 D.TIi2 Z.ti,⟨_,_,d _ _ D.TOz D.TOi1 D.TOi2 f⟩,a3,a4,Z.mX.at λo e=>d _ o D.l1z D.l1i1 D.l1i2 e,Z.mY.at λo e=>d _ o D.l2z D.l2i1 D.l2i2 e,
   by rw[t,Z.sz];rfl,new h' (λc o F _ G H e=>d c o F G H e) a5⟩ λc o F _ G H e=>d c o F G H e
  rw[Z.sz]
  exact r
theorem Zk{z TI TO i1 i2 l1 l2 base:Addr}{xs ys:Array Value}{k:Nat}{Q:Option Value->Shared->Prop}(j:A.handled=none)(D:ZipApart z TI TO i1 i2 l1 l2)
  (Z:ZS z TI TO i1 i2 l1 l2 base xs ys k s.heap)(d:k=min xs.size ys.size)
  (l:∀h',(∀c o,c≠z->c≠TO->c≠i1->c≠i2->s.heap.get? c=some o->h'.get? c=some o)->Q none {s with heap:=h'}):wpAny (model prog w) A (pyNext (.ref z)) Q E s:=by
 obtain⟨a,b,f⟩:=Z.to
 have m:xs[k]? =none\/ys[k]? =none:=by
  subst d
  rcases Nat.le_total xs.size ys.size with h|h
  .exact .inl (by rw[Nat.min_eq_left h];exact t_ (aF _))
  .exact .inr (by rw[Nat.min_eq_right h];exact t_ (aF _))
 rcases Z.zip with⟨e,q⟩|⟨e,v,q⟩
 .exact wpAny_pyNext_zip_end j D q Z.ti f Z.pW Z.pX Z.mX Z.mY m l
 .have g:0<xs.size:=by omega
  have i:0<ys.size:=by omega
  have n:=Z.old 0 _ _ e (fc g) (fc i)
  rw[Nat.add_zero] at n
  exact VO j D q n Z.ti Z.pW Z.pX Z.mX Z.mY m λh' p=>l h' λc o r _ t u e=>p c o r t u e
def fS(base k:Nat):Array Value:=((range k).map λj=>Value.ref (base+j)).toArray
theorem V1(base k:Nat):fS base (k+1)=(fS base k).push (.ref (base+k)):=by
 unfold fS;rw[range_succ,dJ];simp
theorem BC(base k:Nat):(fS base k).size=k:=by simp[fS]
end
namespace F
theorem Zj:typeLookup (.type "zip") "__len__"=pure none:=by rw[oQ,o5];kernel_rfl
theorem Zi:typeLookup (.type "zip") "__length_hint__"=pure none:=by rw[oQ,o5];kernel_rfl
end F
section
variable{prog:Program}{w:World}{A:Around}{s:Shared}{R:Result->Shared->Prop}{z TI TO i1 i2 l1 l2 base S:Addr}{xs ys:Array Value}
structure rB(z TI TO i1 i2 l1 l2 base S:Addr):Prop where
 n1:z≠S
 n2:TI≠S
 n3:TO≠S
 n4:i1≠S
 n5:i2≠S
 n6:l1≠S
 n7:l2≠S
 n8:S<base
theorem Ow(I:A.handled=none)(D:ZipApart z TI TO i1 i2 l1 l2)(L:pF z TI TO i1 i2 l1 l2 base)(O:rB z TI TO i1 i2 l1 l2 base S)(U:min xs.size ys.size<=sizeLine)(res:Value):
  ∀(m k:Nat) (s:Shared) (c:Nat),min xs.size ys.size - k=m->k<=min xs.size ys.size->ZS z TI TO i1 i2 l1 l2 base xs ys k s.heap->s.heap.get? S=some {cls:=.type "list",dict:=none,data:=.seq (fS base k) c,slots:= #[]}->
  (∀h' c',(∀(j:Nat) x y,xs[j]?=some x->ys[j]?=some y->IsPair h' (base+j) x y)->h'.get? S=some {cls:=.type "list",dict:=none,data:=.seq (fS base (min xs.size ys.size)) c',slots:= #[]}->
   (∀b o,b≠S->b≠z->b≠TO->b≠i1->b≠i2->s.heap.get? b=some o->h'.get? b=some o)->R (.ok (.ret res)) {s with heap:=h'})->
  codeAny (model prog w) A (.builtin "list.extend.loop" ⟨[.ref S,.ref z,res],[]⟩) R s:=by
 have lo:∀(c j:Nat),c<base->base+j≠c:=λc j hc e=>absurd (cP hc (qu base j)) (by rw[e];exact gw _);intro m;induction m with
 |zero=>
  intro k s c J K i r t;have f:k=min xs.size ys.size:=by omega
  refine gJ PySem.F.entry_extend_loop ?_;rw[iS uh _];show wpAny _ A.in1 (pyNext (.ref z)>>=_) _ _ s;refine ah (Zk (A:=A.in1) I D i f λh' a=>?_);refine aB (t h' c (λj x y G H=>?_) ?_ λb o u l n p q e=>a b o l n p q e)
  .have M:j<k:=by
    have V:=(yd.mp G).1;have W:=(yd.mp H).1;omega
   exact a _ _ (lo _ _ L.z) (lo _ _ L.to) (lo _ _ L.i1) (lo _ _ L.i2) (i.old j x y M G H)
  .rw[<-f]
   exact a _ _ O.n1.symm O.n3.symm O.n4.symm O.n5.symm r
 |succ m N=>
  intro k s c J K i r t;have v:k<min xs.size ys.size:=by omega
  have P:xs[k]?=some (xs[k]'(by omega)):=fc _;have Q:ys[k]?=some (ys[k]'(by omega)):=fc _;refine gJ PySem.F.entry_extend_loop ?_;rw[iS uh _];show wpAny _ A.in1 (pyNext (.ref z)>>=_) _ _ s;refine ah (Zl (A:=A.in1) D L i P Q λh' B a=>?_);have g:=a _ _ O.n1.symm O.n3.symm O.n4.symm O.n5.symm r;show wpAny _ A.in1 (updateSeq S (·.push (.ref (base+k)))>>=_) _ _ _;refine ah ?_;have h:∀b o,b≠S->h'.get? b=some o->(h'.update S (Obj.mapSeq (·.push (.ref (base+k))))).get? b=some o:=λb o T e=>(o6 _ _ (Ne.symm T)).trans e;have C:=jl (Obj.mapSeq (·.push (.ref (base+k)))) g rfl;have d:∃n',(h'.update S (Obj.mapSeq (·.push (.ref (base+k))))).get? S=some {cls:=.type "list",dict:=none,data:=.seq ((fS base k).push (.ref (base+k))) n',slots:= #[]}:=⟨_,C⟩;obtain⟨n',d⟩:=d;rw[<-V1] at d;refine uw g rfl (aB ⟨jJ uh _,N (k+1) _ n' (by omega) v (B.upd h (qG ..) O.n1 O.n2 O.n3 O.n4 O.n5 O.n6 O.n7 O.n8) d λE c' a1 a2 a3=>?_⟩)
   (by rw[BC];omega) (by show((fS base k).push _).size<=sizeLine+1;rw[Array.size_push,BC];omega)
  .exact t E c' a1 a2 λb o u l n p q e=>a3 b o u l n p q (h b o u (a b o l n p q e))
theorem Ov(n:A.handled=none)(D:ZipApart z TI TO i1 i2 l1 l2)(L:pF z TI TO i1 i2 l1 l2 base)(O:rB z TI TO i1 i2 l1 l2 base S)(p:min xs.size ys.size<=sizeLine)(res:Value)(c₀:Nat)
  (i:ZS z TI TO i1 i2 l1 l2 base xs ys 0 s.heap)(k:s.heap.get? S=some {cls:= .type "list",data:= .seq #[] c₀})
  (r:∀h' c',(∀(j:Nat) x y,xs[j]? =some x->ys[j]? =some y->IsPair h' (base+j) x y)->h'.get? S=some {cls:= .type "list",dict:=none,data:= .seq (fS base (min xs.size ys.size)) c',slots:= #[]}->
   (∀b o,b≠S->b≠z->b≠TO->b≠i1->b≠i2->s.heap.get? b=some o->h'.get? b=some o)->R (.ok (.ret res)) {s with heap:=h'}):
  wpAny (model prog w) A.in1 (Builtin.List.listExtendWith (.ref S) (.ref z) res)
   (λfin s'=>match fin with| .done f=>R (.ok f) s'| .again c'=>c'.quiet=true/\codeAny (model prog w) A c' R s') (λe s'=>R (.error e) s') s:=by
 have d:IsZip s.heap z TI TO .none:=by
  rcases i.zip with⟨_,q⟩|⟨e,_⟩
  .exact q
  .exact absurd e (gw _)
 have h:s.TypeIs (.ref z) "zip":=⟨_,d,rfl⟩
 unfold Builtin.List.listExtendWith
 refine ah (nB h ?_)
 have h1:Builtin.List.listSameRef (.ref S) (.ref z)=false:=by simp[Builtin.List.listSameRef,O.n1.symm]
 have h2:(Value.type "zip" ==Value.type "list")=false:=by decide
 have t:(Value.type "zip" ==Value.type "tuple")=false:=by decide
 simp only[h1,h2,t,Bool.or_false,jN,gv]
 refine ah (wpAny_pyIter_zip d ?_)
 refine ah (eY ?_)
 unfold Builtin.List.listLengthHint
 refine ah (wpAny_specialOf h F.Zj ?_)
 show wpAny _ A.in1 (specialOf (Value.ref z) (Str.ofString "__length_hint__")>>=_) _ _ _
 refine ah (wpAny_specialOf h F.Zi ?_)
 refine aB ?_
 show wpAny _ A.in1 (rule "list.extend.makes-room">>=λ_=>Builtin.List.listTouch (.ref S)>>=λ_=>
  again (.builtin "list.extend.loop" ⟨[.ref S,.ref z,res],[]⟩)) _ _ _
 refine ah (iR ?_)
 refine ah ?_
 show wpAny _ A.in1 (updateSeq S (·.push .none)>>=λ_=>updateSeq S (·.pop)) _ _ _
 refine ah (uw k rfl ?_)
 have a:=jl (Obj.mapSeq (·.push Value.none)) k rfl
 refine uw (hz:=by seq_fits) a rfl ?_
 have c:=jl (Obj.mapSeq (·.pop)) a rfl
 have g:∀b o,b≠S->s.heap.get? b=some o->((s.heap.update S (Obj.mapSeq (·.push Value.none))).update S (Obj.mapSeq (·.pop))).get? b=some o:=
  λb o l e=>(o6 _ _ (Ne.symm l)).trans ((o6 _ _ (Ne.symm l)).trans e)
 refine aB ⟨jJ uh _,Ow n D L O p res _ 0 _ _ rfl (bP _) (i.upd g (by rw[qG,qG]) O.n1 O.n2 O.n3 O.n4 O.n5 O.n6 O.n7 O.n8) c λh' c' a1 a2 a3=> ?_⟩
 exact r h' c' a1 a2 λb o m u v B C e=>a3 b o m u v B C (g b o m e)
end
end ZL
end PySem
section
open PySem PySem.Spec PyProof.Rows
namespace L2
def dc:List (Str×NameKind)->List Str
 |[]=>[]
 |(n,k)::r=>if (k==NameKind.free)=true then n::dc r else dc r
def f9(env:Env):List (Str×NameKind)->List (Str×Addr)->List (Str×Addr)
 |[],acc=>acc
 |(n,k)::r,acc=>if (k==NameKind.free)=true then f9 env r ((n,(env.cells.lookup n).getD 0)::acc) else f9 env r acc
theorem zN{env:Env}{f:(Str×NameKind)->List (Str×Addr)->Sem (ForInStep (List (Str×Addr)))}
  (h1:∀n k cs c,(k==NameKind.free)=true->env.cells.lookup n=some c->f (n,k) cs=pure (.yield ((n,c)::cs)))(h2:∀n k cs,(k==NameKind.free)=false->f (n,k) cs=pure (.yield cs)):
  ∀(names:List (Str×NameKind)) (acc:List (Str×Addr)),(∀n∈dc names,∃c,env.cells.lookup n=some c)->forIn names acc f=pure (f9 env names acc)
 |[],acc,_=>by rw[forIn_nil];rfl
 |(n,k)::r,acc,h=>by
  rw[forIn_cons];cases e:(k==NameKind.free) with
  |true=>
   have b:dc ((n,k)::r)=n::dc r:=by show(if (k==NameKind.free)=true then n::dc r else dc r)=_;rw[aA e]
   obtain⟨c,hc⟩:=h n (by rw[b];exact aU);rw[h1 n k acc c e hc,pure_bind];show forIn r ((n,c)::acc) f=_;rw[zN h1 h2 r _ λm d=>h m (by rw[b];exact bq _ d)];have a:f9 env ((n,k)::r) acc=f9 env r ((n,(env.cells.lookup n).getD 0)::acc):=by
    show(if (k==NameKind.free)=true then _ else _)=_;rw[aA e]
   rw[a,hc];rfl
  |false=>
   have b:dc ((n,k)::r)=dc r:=by show(if (k==NameKind.free)=true then n::dc r else dc r)=_;rw[ao (by rw[e];decide)]
   rw[h2 n k acc e,pure_bind];show forIn r acc f=_;rw[zN h1 h2 r _ λm d=>h m (by rw[b];exact d)];have a:f9 env ((n,k)::r) acc=f9 env r acc:=by
    show(if (k==NameKind.free)=true then _ else _)=_;rw[ao (by rw[e];decide)]
   rw[a]
theorem EE{scope:Scope}{env:Env}(h:∀n∈dc scope.names,∃c,env.cells.lookup n=some c):closureFor scope env=pure (f9 env scope.names []):=by
 unfold closureFor;show(forIn scope.names [] _>>=_)=_;rw[zN (env:=env) (λn k cs c a hc=>?_) (λn k cs a=>?_) scope.names [] h]
 .exact pure_bind _ _
 .dsimp only
  rw[aA a];unfold cellOf;rw[hc];rfl
 .dsimp only
  rw[ao (by rw[a];decide)]
theorem rN{env:Env}{x:Str}:∀(names:List (Str×NameKind)) (acc:List (Str×Addr)),(∀n∈dc names,∃c,env.cells.lookup n=some c)->
  (f9 env names acc).lookup x=if x∈dc names then env.cells.lookup x else acc.lookup x
 |[],acc,_=>by simp[f9,dc]
 |(n,k)::r,acc,h=>by
  cases e:(k==NameKind.free) with
  |true=>
   have b:dc ((n,k)::r)=n::dc r:=by show(if (k==NameKind.free)=true then n::dc r else dc r)=_;rw[aA e]
   obtain⟨c,hc⟩:=h n (by rw[b];exact aU);have a:f9 env ((n,k)::r) acc=f9 env r ((n,(env.cells.lookup n).getD 0)::acc):=by
    show(if (k==NameKind.free)=true then _ else _)=_;rw[aA e]
   rw[a,b,rN r _ λm f=>h m (by rw[b];exact bq _ f)];by_cases d:x∈dc r
   .rw[aA d,aA (bq _ d)]
   .rw[ao d]
    by_cases g:x=n
    .subst g
     rw[aA aU,hc];simp
    .rw[ao (by intro z;rcases aY.mp z with z|z;exact g z;exact d z)]
     have i:(x==n)=false:=by simpa using g
     rw[iP,i]
  |false=>
   have b:dc ((n,k)::r)=dc r:=by show(if (k==NameKind.free)=true then n::dc r else dc r)=_;rw[ao (by rw[e];decide)]
   have a:f9 env ((n,k)::r) acc=f9 env r acc:=by
    show(if (k==NameKind.free)=true then _ else _)=_;rw[ao (by rw[e];decide)]
   rw[a,b,rN r _ λm f=>h m (by rw[b];exact f)]
structure gK(X:Cx)(scope:Scope)(frees:List Str):Prop where
 kind:scope.kind= .function
 HL:∀y∈scope.names,y.2≠ .cell
 locs:∀y∈scope.names,y.2= .local->scope.names.lookup y.1=some .local
 sub:∀n∈dc scope.names,n∈frees
 free:∀n∈frees,scope.names.lookup n=some .free
 kinds:(frees.all λn=>X.env.kindOf n==some .cell||X.env.kindOf n==some .free)=true
theorem gK.frees{X:Cx}{scope:Scope}{fr:List Str}(S:gK X scope fr):∀n∈dc scope.names,X.env.kindOf n=some .cell\/X.env.kindOf n=some .free:=λn a=>by
 have h:=all_eq_true.mp S.kinds n (S.sub n a);rcases Bool.or_eq_true _ _▸h with h|h
 .exact .inl (eq_of_beq h)
 .exact .inr (eq_of_beq h)
theorem vY{x:Str}:∀{names:List (Str×NameKind)},(x,NameKind.free)∈names->x∈dc names
 |(n,k)::r,h=>by
  unfold dc;rcases aY.mp h with e|e
  .injection e with a b
   subst a b;rw[aA (by rfl)];exact aU
  .split
   .exact bq _ (vY e)
   .exact vY e
theorem IK{env:Env}{x:Str}:∀{names:List (Str×NameKind)} {k:NameKind},(names.map λ(n,k)=>if (k==NameKind.free&&env.scope.kind== .function&&env.kindOf n==some .cell) then (n,NameKind.cell) else (n,k)).lookup x=some k->
  ∃k0,names.lookup x=some k0/\(k=k0\/(k0=.free/\k=.cell))
 |[],k,h=>by simp at h
 |(n,k1)::r,k,h=>by
  rw[cO] at h;by_cases b:(x==n)=true
  .by_cases hc:(k1==NameKind.free&&env.scope.kind== .function&&env.kindOf n==some .cell)=true
   .dsimp only at h
    rw[aA hc,iP,b] at h;have e:k=.cell:=by injection h with h;exact h.symm
    have c:k1=.free:=by
     have:=(lg _ _▸(lg _ _▸hc).1).1;exact eq_of_beq this
    exact⟨k1,by rw[iP,b],.inr ⟨c,e⟩⟩
   .dsimp only at h
    rw[ao hc,iP,b] at h;injection h with h;exact⟨k1,by rw[iP,b],.inl h.symm⟩
  .have a:(x==n)=false:=by simpa using b
   have h':(List.map (λ(n,k)=>if (k==NameKind.free&&env.scope.kind== .function&&env.kindOf n==some .cell) then (n,NameKind.cell) else (n,k)) r).lookup x=some k:=by
    by_cases hc:(k1==NameKind.free&&env.scope.kind== .function&&env.kindOf n==some .cell)=true
    .dsimp only at h;rw[aA hc,iP,a] at h;exact h
    .dsimp only at h;rw[ao hc,iP,a] at h;exact h
   obtain⟨k0,c,d⟩:=IK h';exact⟨k0,by rw[iP,a];exact c,d⟩
theorem IJ{env:Env}{x:Str}:∀{names:List (Str×NameKind)},names.lookup x=some .free->
  (names.map λ(n,k)=>if (k==NameKind.free&&env.scope.kind== .function&&env.kindOf n==some .cell) then (n,NameKind.cell) else (n,k)).lookup x=some .cell\/
  (names.map λ(n,k)=>if (k==NameKind.free&&env.scope.kind== .function&&env.kindOf n==some .cell) then (n,NameKind.cell) else (n,k)).lookup x=some .free
 |[],h=>by simp at h
 |(n,k1)::r,h=>by
  rw[cO]
  by_cases b:(x==n)=true
  .rw[iP,b] at h
   injection h with h
   subst h
   by_cases hc:(NameKind.free==NameKind.free&&env.scope.kind== .function&&env.kindOf n==some .cell)=true
   .left;dsimp only;rw[aA hc,iP,b]
   .right;dsimp only;rw[ao hc,iP,b]
  .have a:(x==n)=false:=by simpa using b
   rw[iP,a] at h
   have c:=IJ (env:=env) h
   by_cases hc:(k1==NameKind.free&&env.scope.kind== .function&&env.kindOf n==some .cell)=true
   .dsimp only;rw[aA hc,iP,a];exact c
   .dsimp only;rw[ao hc,iP,a];exact c
structure CP where
 C:Addr
 s:Shared
 H:Hp
 pins:aZ
 fp:List Addr
def bZ(X:Cx)(NC:List Str)(scope:Scope)(c:CP):Cx where
 prog:=X.prog
 w:=X.w
 K:=X.K
 mg:=X.mg
 base:=X.base
 A:=X.A
 N:=NC
 s₀:=c.s
 H₀:=c.H
 env:=compEnvC scope (f9 X.env scope.names []) c.C X.env
 outer:=X.stack
 stack:=X.stack
 ex:=c.fp
 fn:=λ_=>false
 calm:=true
 pn:=X.pn++c.pins
 xe:=λ_ _=>False
section
variable{X:Cx}{scope:Scope}{frees:List Str}{NC:List Str}{pins:aZ}{σ qU:St}{H H':Hp}{s s':Shared}{fp:List Addr}{C:Addr}
theorem gK.has(S:gK X scope frees)(ok:X.Ok):∀n∈dc scope.names,∃c,X.env.cells.lookup n=some c:=λn a=>ok.has n (S.frees n a)
theorem gK.cells(S:gK X scope frees)(ok:X.Ok){x:Str}{c:Addr}(h:(f9 X.env scope.names []).lookup x=some c):x∈dc scope.names/\X.env.cells.lookup x=some c:=by
 rw[rN scope.names [] (S.has ok)] at h;by_cases a:x∈dc scope.names
 .rw[aA a] at h;exact⟨a,h⟩
 .rw[ao a] at h;simp at h
theorem MU(S:gK X scope frees)(hc:X.calm=true)(I:Inv X pins σ H s)(f:∀b∈fp,ia X pins H b/\b<s.heap.objs.size)(m:C=s.heap.objs.size):(bZ X NC scope ⟨C,s,H,pins,fp⟩).Ok where
 mod:=I.ok.mod
 kind:=S.kind
 glob:=I.ok.glob
 blt:=I.ok.blt
 above:=by show s.heap.objs.size<=C;rw[m];exact aF _
 inj:=λx y c h1 h2=>I.ok.inj x y c (S.cells I.ok h1).2 (S.cells I.ok h2).2
 has:=λx p=>by
  have i:∃k,(relabel scope X.env).names.lookup x=some k/\(k= .cell\/k= .free):=by
   rcases p with h|h
   .exact⟨_,h,.inl rfl⟩
   .exact⟨_,h,.inr rfl⟩
  obtain⟨k,h,hk⟩:=i
  obtain⟨k0,q,d⟩:=IK h
  have n:=oY q
  have j:k0= .free:=by
   rcases d with d|⟨d,_⟩
   .rcases hk with hk|hk
    .exact absurd (d▸hk:k0= .cell) (S.HL _ n)
    .exact d▸hk
   .exact d
  subst j
  have g:=vY n
  obtain⟨c,l⟩:=S.has I.ok x g
  exact⟨c,by show(f9 X.env scope.names []).lookup x=some c;rw[rN scope.names [] (S.has I.ok),aA g];exact l⟩
 uY:=λx c h=>nomatch h
 hd:=λ_=>I.ok.hd hc
 frames:=I.ok.frames
 stk:= .inl rfl
 Ot:=λb a=>⟨λz=>by have:=(f b a).2;rw[z] at this;exact absurd (m▸this) (gw _),λx c h=>(f b a).1.2.2.2.2.1 x c (S.cells I.ok h).2⟩
 bs:=I.bs
 nO:=cG I.ok.nO I.sz
 wg:=λb o e a=>by
  rcases (f b a).1.2.2.2.1 with z|z
  .exact I.ok.wg b o e z
  .exact absurd (cP (aR e) (cG I.ok.nO z)) (gw _)
 Aa:=λb a z=>by
  rcases aY.mp (I.qi b z) with e|e
  .exact(f b a).1.2.1 e
  .exact(f b a).1.2.2.1 e
 kJ:=I.stack
 pQ:=I.BR
def stC(own:List Str)(ix:List Nat)(σ:St):St:=own.map (λ_=>none)++ix.map λi=>(σ[i]?).join
theorem XX{own frees:List Str}{ix:List Nat}{σ:St}{b:List Str}(c:ix.map (λi=>b[i]?)=frees.map some){j:Nat}{x:Str}{v:V}(h1:(own++frees)[j]?=some x)(h2:(stC own ix σ)[j]?=some (some v)):
  x∈frees/\∃i:Nat,b[i]?=some x/\σ[i]?=some (some v):=by
 have f:ix.length=frees.length:=by have:=ck List.length c;simpa using this
 unfold stC at h2;by_cases d:j<own.length
 .rw[iC (by simpa using d),cu] at h2
  cases e:own[j]? with
  |none=>rw[e] at h2;simp at h2
  |some o=>rw[e] at h2;simp at h2
 .rw[qT (by simpa using d),cu,aM] at h2
  rw[qT (by omega)] at h1;have a:(ix.map (λi=>b[i]?))[j - own.length]?=(frees.map some)[j - own.length]? :=by rw[c]
  rw[cu,cu,h1] at a;cases e:ix[j - own.length]? with
  |none=>rw[e] at h2;simp at h2
  |some i=>
   rw[e] at h2 a;simp only[map_some,Option.some.injEq] at h2 a;refine⟨cU h1,i,a,?_⟩;cases q:σ[i]? with
   |none=>rw[q] at h2;simp at h2
   |some o=>rw[q] at h2;simp at h2;rw[h2]
theorem XY{own frees:List Str}{ix:List Nat}{σ:St}{a:List Str}(b:ix.map (λi=>a[i]?)=frees.map some):(stC own ix σ).length=(own++frees).length:=by
 have c:ix.length=frees.length:=by have:=ck List.length b;simpa using this
 unfold stC;simp[c]
theorem MT{own:List Str}{ix:List Nat}{a:Heap}{G:Nat}(S:gK X scope frees)(hc:X.calm=true)(I:Inv X pins σ H s)(J:∀b∈fp,ia X pins H b/\b<s.heap.objs.size)(w:C=s.heap.objs.size)
  (E:ix.map (λi=>X.N[i]?)=frees.map some)(y:∃m,a.Ns C m)(g:∀b o,s.heap.get? b=some o->a.get? b=some o):
  Inv (bZ X (own++frees) scope ⟨C,s,H,pins,fp⟩) [] (stC own ix σ) H {s with heap:=a,toks:=G}:=by
 obtain⟨m,K⟩:=y;refine⟨MU S hc I J w,rfl,I.bare,Un.kept g,⟨m,K,λj x v h1 h2 V=>?_⟩,λx c h=>?_,?_,λx c h=>?_,λp L=>?_,I.hok.kept g,XY E⟩
 .obtain⟨M,i,O,P⟩:=XX E h1 h2
  have f:=S.free x M;have k:=vY (oY f);have t:=S.frees x k;obtain⟨m0,_,Q⟩:=I.loc;have A:pC X.env.scope x:=by rcases t with z|z;exact .inr (.inl z);exact .inr (.inr z)
  obtain⟨u,r,l⟩:=Q i x v O P A;refine⟨u,r,?_⟩;rcases l with⟨F,_⟩|⟨_,c,R,T⟩
  .rcases t with z|z
   .rw[F] at z;cases z
   .rw[F] at z;cases z
  .refine .inr ⟨IJ (env:=X.env) f,c,?_,?_⟩
   .show(f9 X.env scope.names []).lookup x=some c
    rw[rN scope.names [] (S.has I.ok),aA k];exact R
   .obtain⟨o,B,hd⟩:=T
    exact⟨o,g _ _ B,hd⟩
 .obtain⟨_,e⟩:=S.cells I.ok h
  obtain⟨v,o,B,hd⟩:=I.cell x c e;exact⟨v,o,g _ _ B,hd⟩
 .show H C=none
  rw[w];exact I.hok.fresh (aF _)
 .exact I.kI x c (S.cells I.ok h).2
 .have D:p∈X.pn++pins:=by
   have:p∈(X.pn++pins)++[]:=L;rwa [mq] at this
  obtain⟨e,n,ne,U,d⟩:=I.pin p D;refine⟨g _ _ e,n,?_,λz=>?_,d⟩
  .show p.1≠C
   rw[w];exact bx (aR e)
  .rcases aY.mp (I.qi p.1 z) with q|q
   .exact ne q
   .exact U q
theorem MR{NC:List Str}(S:gK X scope frees)(I:Inv X pins σ H s)(d:∀b∈fp,ia X pins H b/\b<s.heap.objs.size)(e:C=s.heap.objs.size){b:Addr}(a:b∈fp)(f:H' b=none):ia (bZ X NC scope ⟨C,s,H,pins,fp⟩) [] H' b:=by
 refine⟨f,?_,λz=>?_,.inl a,λx c h=>(d b a).1.2.2.2.2.1 x c (S.cells I.ok h).2,λp g=>(d b a).1.2.2.2.2.2 p ?_⟩
 .show b≠C
  rw[e];exact bx (d b a).2
 .rcases aY.mp (I.qi b z) with q|q
  .exact(d b a).1.2.1 q
  .exact(d b a).1.2.2.1 q
 .have:p∈(X.pn++pins)++[]:=g
  rwa [mq] at this
theorem MQ{NC:List Str}(I:Inv X pins σ H s)(a:∀b∈fp,ia X pins H b/\b<s.heap.objs.size)(J:Inv (bZ X NC scope ⟨C,s,H,pins,fp⟩) [] qU H' s'):Inv X pins σ H' s':=
 I.Mn J.os J.base J.hok J.bare λb c=>⟨(a b c).1.2.2.2.1,(a b c).1.2.1,(a b c).1.2.2.2.2.1,(a b c).1.2.2.2.2.2⟩
theorem MS{h':Heap}(I:Inv X pins σ H s)(a:H C=none)(h1:C≠X.env.locals)(h2:X.s₀.heap.objs.size<=C)(d:∀x c,X.env.cells.lookup x=some c->c≠C)(f:∀p∈X.pn++pins,p.1≠C)(g:SameBut C s.heap h'):
 Inv X pins σ H {s with heap:=h'}:=I.turned (t':=s.toks) (λb o h e=>(g.2 b h).trans e) a h1 (.inr h2) d f
end
inductive ic:St->St->Prop
 |nil:ic [] []
 |own {o:Option V} {a b:St}:ic a b->ic (none::a) (o::b)
 |keep {o:Option V} {a b:St}:ic a b->ic (o::a) (o::b)
theorem ic.len:∀{a b:St},ic a b->b.length=a.length
 |_,_,.nil=>rfl
 |_,_,.own h=>ck (·+1) h.len
 |_,_,.keep h=>ck (·+1) h.len
theorem ic.get:∀{a b:St},ic a b->∀(i:Nat) v,a[i]?=some (some v)->b[i]?=some (some v)
 |_,_,.nil,i,v,e=>by simp at e
 |_,_,.own h,0,v,e=>by simp at e
 |_,_,.own h,i+1,v,e=>by
  rw[CD] at e ⊢;exact h.get i v e
 |_,_,.keep h,0,v,e=>by simpa using e
 |_,_,.keep h,i+1,v,e=>by
  rw[CD] at e ⊢;exact h.get i v e
theorem ic.refl:∀a:St,ic a a
 |[]=>.nil
 |_::r=>.keep (ic.refl r)
inductive jq(X:Cx):List Expr->TT->Prop
 |nil:jq X [] (λ_ H Q=>Q true H)
 |one {c:Expr} {t:TT}:PT X c t->jq X [c] t
theorem jq.run{X:Cx}{ifs:List Expr}{t:TT}(h:jq X ifs t){pins:aZ}{s:Shared}{σ:St}{H:Hp}{Q:Bool->Hp->Prop}(I:Inv X pins σ H s)(a:t σ H Q):
  wpAny (model X.prog X.w) X.A (forIn ifs true λc r=>if r=true then do let ok <-isTrue c X.env (eval c X.env);pure (ForInStep.yield ok) else pure (ForInStep.yield r)) (TP X pins σ Q) X.xe s:=by
 cases h with
 |nil=>exact wpAny_tests_nil ⟨H,I,a⟩
 |one h=>exact wpAny_tests_one (h pins s σ H Q I a)
def Mk(qU:St)(acc:Addr)(g:TG)(tt:TT)(te:TE)(x:V)(ys:List V)(H:Hp)(N:List V->Hp->Prop):Prop:=
 g x qU H λσ2 H2=>ic qU σ2/\tt σ2 H2 λb H3=>if b=true then te σ2 H3 λy H4=>H4 acc=some (.lst ys)/\ys.length<sizeLine/\N (ys++[y]) (upd H4 acc (.lst (ys++[y]))) else N ys H3
def zH(J:It)(qU:St)(acc:Addr)(g:TG)(tt:TT)(te:TE)(H:Hp)(Q:VK):Prop:=
 ∃W:Nat->Nat->List V->Hp->Prop,(∃m,W 0 m [] H)/\∀i m ys H,W i m ys H->H acc=some (.lst ys)/\
  ((J.stop i H/\Q (.ref acc) H)\/(J.go i H/\∃N:List V->Hp->Prop,(∀ys' H',N ys' H'->∃m',m'<m/\W (i+1) m' ys' H')/\∀x H',J.yc i H x H'->Mk qU acc g tt te x ys H' N))
def BX(own:List Str)(ix:List Nat)(wi:TI)(g:CP->TG)(tt:CP->TT)(te:CP->TE):TE:=λσ H Q=>
 wi σ H λJ H1=>∀(c:CP) (acc:Addr),H1 acc=none->zH J (stC own ix σ) acc (g c) (tt c) (te c) (upd H1 acc (.lst [])) Q
section
variable{X:Cx}{scope:Scope}{own frees:List Str}{ix:List Nat}{tg elt iter:Expr}{ifs:List Expr}{pos:Pos}{wi:TI}{g:CP->TG}{tt:CP->TT}{te:CP->TE}
theorem MH{J:It}{it acc:Addr}{fp:List Addr}{E:Nat->Heap->Prop}{c:CP}{σ:St}{H:Hp}{s:Shared}{Q:VK}{R:Result->Shared->Prop}
  (hfp:c.fp=fp)(T:Turn X.prog X.w X.K tg J fp it E)(hg:PG (bZ X (own++frees) scope c) tg (g c))(ht:jq (bZ X (own++frees) scope c) ifs (tt c))(he:PE (bZ X (own++frees) scope c) elt (te c))
  (j:∀b∈fp,∀H':Hp,H' b=none->ia (bZ X (own++frees) scope c) [] H' b)
  (I:Inv (bZ X (own++frees) scope c) [] (stC own ix σ) H s)(st:E 0 s.heap)(fr:∀b∈fp,H b=none)(h:zH J (stC own ix σ) acc (g c) (tt c) (te c) H Q)
  (hR:∀s' H',Inv (bZ X (own++frees) scope c) [] (stC own ix σ) H' s'->Q (.ref acc) H'->R (.ok .next) s'):
  codeAny (model X.prog X.w) X.A (.compLoop (.ListComp elt [⟨tg,iter,ifs,0⟩] scope pos) 0 (.ref it) (.ref acc) (bZ X (own++frees) scope c).env) R s:=by
 obtain⟨W,⟨m0,w0⟩,turn⟩:=h
 refine codeAny_loop rfl (λn s'=>∃i ys H',Inv (bZ X (own++frees) scope c) [] (stC own ix σ) H' s'/\E i s'.heap/\(∀b∈fp,H' b=none)/\W i n ys H') (λn L hI=> ?_) m0 ⟨0,[],H,I,st,fr,w0⟩
 obtain⟨i,ys,H1,I1,p,v,w1⟩:=hI
 show wpAny _ X.A ((compTurn (.ListComp elt [⟨tg,iter,ifs,0⟩] scope pos) 0 (.ref it) (.ref acc) (bZ X (own++frees) scope c).env).onRaise (λx=>do noteFrame x (bZ X (own++frees) scope c).env;theTreesLotGoes x)) _ _ L
 have k:∀{α:Type} {t:Sem α} {P:α->Shared->Prop} {s:Shared},wpAny (model X.prog X.w) X.A t P (λ_ _=>False) s->wpAny (model X.prog X.w) X.A t P (notedBy (model X.prog X.w) X.A (bZ X (own++frees) scope c).env λe s'=>R (.error e) s') s:=
  λh=>k9 h (λ_ _ q=>q) λ_ _ z=>z.elim
 refine wpAny_noted ?_
 rw[compTurn_list]
 obtain⟨ha,hw⟩:=turn i n ys H1 w1
 rcases hw with⟨stop,q⟩|⟨go,N,hN,step⟩
 .refine ah (uv (ah (k (aK (T.done (bZ X (own++frees) scope c) rfl rfl rfl rfl i [] L _ H1 (λ_ _=>False) I1 (λb f=>j b f H1 (v b f)) p stop) λr s2 ⟨M,I2⟩=> ?_))))
  subst M
  exact aB (hR s2 H1 I2 q)
 .refine ah (uv (ah (k (aK (T.item (bZ X (own++frees) scope c) rfl rfl rfl rfl i [] L _ H1 (λ_ _=>False) I1 (λb f=>j b f H1 (v b f)) p go) λr s2 ⟨u,M,h2⟩=> ?_))))
  subst M
  refine ah (k (aK h2 λ_ s3 ⟨x,O,I3,r3,y3,l,S⟩=> ?_))
  have U:=I3.pinned (λb f=>j b f O (S b f)) (T.obj _ _ l)
  refine ah (k (aK (hg _ s3 _ O x u _ U r3 (step x O y3)) λ_ s4 ⟨Zp,H4,I4,ks,q4⟩=> ?_))
  refine ah (k (aK (ht.run I4 q4) λok s5 ⟨H5,V,F⟩=> ?_))
  have a:∀{B:Shared} {C:St} {m:Hp},Inv (bZ X (own++frees) scope c) ([]++s8 fp s3.heap) C m B->E (i+1) B.heap/\∀b∈fp,m b=none:=λ {B C m} D=>
   ⟨T.keep _ _ _ l λb f o e=>(D.pin (b,o) (ji _ (ji _ (vZ f e)))).1,λb f=>by
    obtain⟨o,e,d⟩:=T.obj _ _ l b f
    exact(D.pin (b,o) (ji _ (ji _ (vZ f e)))).2.1⟩
  cases ok with
  |false=>
   rw[ao (by decide)] at F
   obtain⟨Y,Z,w5⟩:=hN _ _ F
   obtain⟨k1,k2⟩:=a V
   exact aB ⟨rfl,Y,Z,i+1,ys,H5,(V.tX).weak ks.len.symm ks.get,k1,k2,w5⟩
  |true=>
   rw[aA rfl] at F
   refine ah (ah (k (aK (he _ s5 _ H5 _ V F) λy B ⟨G,m,D,r6,a6,l6,q6⟩=> ?_)))
   obtain⟨Y,Z,w6⟩:=hN _ _ q6
   obtain⟨k1,k2⟩:=a D
   refine ah (k (aK (ja (X:=bZ X (own++frees) scope c) _ B _ m (.ref acc) [G] (.ref acc) [y] (λ_ H7=>H7=upd m acc (.lst (ys++[G]))) D rfl (.cons r6 .nil) ⟨acc,ys,G,rfl,rfl,a6,l6,rfl⟩) λ_ s7 ⟨_,H7,I7,_,e7⟩=> ?_))
   subst e7
   obtain⟨k1,k2⟩:=a I7
   exact aB (aB ⟨rfl,Y,Z,i+1,ys++[G],_,(I7.tX).weak ks.len.symm ks.get,k1,k2,w6⟩)
structure yN(X:Cx)(pins:aZ)(C:Addr)(H:Hp):Prop where
 no:H C=none
 loc:C≠X.env.locals
 old:X.s₀.heap.objs.size<=C
 iH:∀x c,X.env.cells.lookup x=some c->c≠C
 pin:∀p∈X.pn++pins,p.1≠C
theorem yN.inv{pins:aZ}{σ:St}{H:Hp}{s:Shared}{C:Addr}{h':Heap}(G:yN X pins C H)(I:Inv X pins σ H s)(a:SameBut C s.heap h'):Inv X pins σ H {s with heap:=h'}:=
 MS I G.no G.loc G.old G.iH G.pin a
theorem EJ{pins:aZ}{σ:St}{H:Hp}{s:Shared}{Q:VK}{L:Value->Addr->Result->Shared->Prop}{E:aT}{J:It}{it:Addr}{fp:List Addr}{M:Nat->Heap->Prop}
  (S:gK X scope frees)(hc:X.calm=true)(Z:ix.map (λi=>X.N[i]?)=frees.map some)
  (hg:∀c,PG (bZ X (own++frees) scope c) tg (g c))(ht:∀c,jq (bZ X (own++frees) scope c) ifs (tt c))(he:∀c,PE (bZ X (own++frees) scope c) elt (te c))
  (I:Inv X pins σ H s)(T:Turn X.prog X.w X.K tg J fp it M)(st:M 0 s.heap)(W:∀b∈fp,ia X pins H b)
  (h:∀(c:CP) (acc:Addr),H acc=none->zH J (stC own ix σ) acc (g c) (tt c) (te c) (upd H acc (.lst [])) Q)
  (O:∀(acc C:Addr) s' H' m,Inv X pins σ H' s'->s'.heap.Ns C m->yN X pins C H'->Q (.ref acc) H'->L (.ref acc) C (.ok .next) s'):
  wpAny (model X.prog X.w) X.A (newList []) (λacc r=>wpAny (model X.prog X.w) X.A (newFunctionEnv scope X.env.globals (f9 X.env scope.names []) [] X.env.qual none .none (some X.env)) (λl t=>
   codeAny (model X.prog X.w) X.A (.compStart (.ListComp elt [⟨tg,iter,ifs,0⟩] scope pos) 0 (.ref it) acc {l with scope:=relabel scope X.env}) (L acc l.locals) t) E r) E s:=by
 refine gH (wpAny_newFunctionEnv S.HL (by intro y hy;simp at hy) (λa u B=> ?_) S.kind)
 dsimp only at u B ⊢
 have P:H s.heap.objs.size=none:=I.hok.fresh (aF _)
 have n:Inv X pins σ (upd H s.heap.objs.size (.lst [])) {s with heap:=s.heap.push {cls:= .type "list",data:= .seq ([]:List Value).toArray}}:=I.Hj (its:=[]) (t':=s.toks) .nil (bP _)
 generalize D:({s with heap:=s.heap.push {cls:= .type "list",data:= .seq ([]:List Value).toArray}}:Shared)=f at n
 have F:f.heap=s.heap.push {cls:= .type "list",data:= .seq ([]:List Value).toArray}:=by rw[<-D]
 have Y:∀b∈fp,b<s.heap.objs.size:=λb j=>by
  obtain⟨o,e,_⟩:=T.obj _ _ st b j
  exact aR e
 have sz:f.heap.objs.size=s.heap.objs.size+1:=by rw[F,eW]
 have k:∀b∈fp,ia X pins (upd H s.heap.objs.size (.lst [])) b/\b<f.heap.objs.size:=λb j=>
  ⟨⟨by rw[bf (bx (Y b j))];exact(W b j).1,(W b j).2⟩,by rw[sz];exact fX (Y b j)⟩
 have kp:∀b o,f.heap.get? b=some o->a.get? b=some o:=λb o e=>by
  refine B.extBut b o ?_ (bg _ (F▸e))
  rw[<-F]
  exact bx (aR e)
 have R:a.Ns f.heap.objs.size (λx=>([]:List (Str×Value)).reverse.lookup x):=by rw[F];exact u
 have J0:Inv (bZ X (own++frees) scope ⟨f.heap.objs.size,f,upd H s.heap.objs.size (.lst []),pins,fp⟩) [] (stC own ix σ) (upd H s.heap.objs.size (.lst [])) {f with heap:=a,toks:=s.toks+0}:=
  MT S hc n k rfl Z ⟨_,R⟩ kp
 have U:∀b∈fp,∀H':Hp,H' b=none->ia (bZ X (own++frees) scope ⟨f.heap.objs.size,f,upd H s.heap.objs.size (.lst []),pins,fp⟩) [] H' b:=λb j H' hn=>MR S n k rfl j hn
 have G:M 0 a:=T.keep _ _ _ st λb j o e=>kp b o (by rw[F];exact bg _ e)
 have loop:codeAny (model X.prog X.w) X.A (.compLoop (.ListComp elt [⟨tg,iter,ifs,0⟩] scope pos) 0 (.ref it) (.ref s.heap.objs.size) (bZ X (own++frees) scope ⟨f.heap.objs.size,f,upd H s.heap.objs.size (.lst []),pins,fp⟩).env)
   (L (.ref s.heap.objs.size) f.heap.objs.size) {f with heap:=a,toks:=s.toks+0}:=by
  refine MH rfl T (hg _) (ht _) (he _) U J0 G (λb j=>(k b j).1.1) (h _ _ P) λs' H' V q=> ?_
  obtain⟨m,hm,_⟩:=V.loc
  refine O _ _ s' H' m (MQ n k V) hm ⟨V.free,j9 n.lt,n.sz,λx c e z=> ?_,λp hp z=> ?_⟩ q
  .obtain⟨v,q⟩:=n.cell x c e
   exact absurd (cP q.lt (by rw[z];exact aF _)) (gw _)
  .exact absurd (cP (aR (n.pin p hp).1) (by rw[z];exact aF _)) (gw _)
 have d:=loop
 rw[<-D] at d
 exact codeAny_compStart_list d (T.self _ 0 _ _ _ G d)
theorem Ia(hi:PI X tg iter wi)
  (d:∀c,PG (bZ X (own++frees) scope c) tg (g c))(f:∀c,jq (bZ X (own++frees) scope c) ifs (tt c))(j:∀c,PE (bZ X (own++frees) scope c) elt (te c))(S:gK X scope frees:=by exact⟨rfl,by decide+kernel,by decide+kernel,by decide+kernel,by decide+kernel,rfl⟩)(hc:X.calm=true:=by rfl)(k:ix.map (λi=>X.N[i]?)=frees.map some:=by rfl)(l:∀x,foldedSetIterable iter X.env x=pure x:=by intro _;rfl):
  PE X (.ListComp elt [⟨tg,iter,ifs,0⟩] scope pos) (BX own ix wi g tt te):=by
 intro pins s σ H Q I h;rw[eval_ListComp];refine wpAny_comprehension_free (use:=none) rfl l (EE (S.has I.ok)) S.kind S.locs (aK (hi pins s σ H _ I h) λv u h1=>aK h1 λn w h2=>?_);obtain⟨it,fp,y,J,H2,e,o,T,a,f2,p⟩:=h2;subst e;refine EJ S hc k d f j o T a f2 p λacc C s' H' m r t G q=>?_;exact⟨m,t,λh' b=>⟨.ref acc,H',G.inv r b,rfl,q⟩⟩
theorem Ig{i:Nat}{x:Str}{pos' spos:Pos}(b:X.N.Nodup)(d:X.N[i]? =some x)(o:Loc X.env.scope x)(hi:PI X tg iter wi)
  (p:∀c,PG (bZ X (own++frees) scope c) tg (g c))(r:∀c,jq (bZ X (own++frees) scope c) ifs (tt c))(t:∀c,PE (bZ X (own++frees) scope c) elt (te c))(S:gK X scope frees:=by exact⟨rfl,by decide+kernel,by decide+kernel,by decide+kernel,by decide+kernel,rfl⟩)(hc:X.calm=true:=by rfl)(u:ix.map (λi=>X.N[i]?)=frees.map some:=by rfl)(w:∀x,foldedSetIterable iter X.env x=pure x:=by intro _;rfl)
  (f:swapsWith (.ListComp elt [⟨tg,iter,ifs,0⟩] scope pos) (some (.Name x pos')) spos.line X.env=pure true:=by rfl)(y:X.fn x=true\/X.env.scope.names.lookup x=some .local:=by first|exact .inl rfl|exact .inr rfl|assumption):
  PS X (.Assign [.Name x pos'] (.ListComp elt [⟨tg,iter,ifs,0⟩] scope pos) spos) (BU (BX own ix wi g tt te) (pS i)):=by
 intro pins s σ H D I h
 rw[exec_Assign_Name_used _ _ _ _ f]
 refine ah (uv (ah ?_))
 show wpAny _ X.A (do let _ <-comprehension (.ListComp elt [⟨tg,iter,ifs,0⟩] scope pos) scope X.env _ (newList []) false (eval iter X.env) (some (assign (.Name x pos') X.env))) _ _ s
 refine ah (k9 (wpAny_comprehension_free (use:=some (assign (.Name x pos') X.env)) (Q:=λ_ s'=>SP X pins D .next s') rfl w (EE (S.has I.ok)) S.kind S.locs
  (aK (hi pins s σ H _ I h) λv R h1=>aK h1 λz B h2=> ?_)) (λ_ s' E=>aB (aB E)) λ_ _ e=>e)
 obtain⟨it,fp,U,J,H2,e,F,T,j,f2,K⟩:=h2
 subst e
 refine EJ S hc u p r t F T j f2 K λacc C s' H' m L M G q=> ?_
 show wpAny _ X.A (assign (.Name x pos') X.env (.ref acc)) _ _ _
 refine wpAny_assign_Name (KC L b d o (v:= .ref acc) rfl (λB k ch=> ?_) y)
 obtain⟨a,O,P⟩:=ch
 have l:C≠a:=by
  rcases P with e|e
  .rw[e];exact G.loc
  .exact(G.iH _ _ e).symm
 exact⟨m,M.sameBut O l,λh' n=>⟨_,H',G.inv k n,q⟩⟩
end
section
variable{X:Cx}
theorem zG:∀{bs:List Bool} {its:List Value},Vals (bs.map V.bl) its->LSm.BoolsAre its bs
 |[],_,.nil=>.nil
 |b::r,_,.cons q t=>by
  cases q;exact .cons b (zG t)
theorem uZ(hc:X.calm=true):eS X (.builtin "all") (λxs H Q=>∃(p:Addr) (bs:List Bool),xs=[.ref p]/\aW X.K H p (bs.map V.bl)/\Q (.bl (bs.all id)) H):=by
 intro pins s σ H xs o Q I r h;obtain⟨p,bs,rfl,g,q⟩:=h;obtain⟨u,rfl,j⟩:=vals1 r;cases j;obtain⟨vs,k,pl,hz⟩:=I.list g;have d:=zG k;have a:=pl.isList;have c:p<s.heap.objs.size:=by obtain⟨_,e,_⟩:=a;exact aR e
 refine call_all_walk (oV a ?_);refine⟨s.heap.objs.size,[s.heap.objs.size,p],[s.heap.objs.size],vs.toArray.size,_,_,λi=>(bs[i]?).getD true,rfl,Walks.list (A:=X.A.in1) (I.ok.hd hc) _ p (bx c) vs.toArray,
  ⟨⟨_,b9 _ rfl,rfl,rfl⟩,a.push _⟩,λi v s' t w l f=>?_,λh' m n=>?_⟩
 .obtain⟨b,e,rfl⟩:=d.get i v (by simpa using l)
  simp only[e,getD_some] at f;exact nA f
 .have e:((range vs.toArray.size).all λi=>(bs[i]?).getD true)=bs.all id:=by
   rw[cj,d.length];exact LSm.range_all bs
  rw[e];exact⟨.bl _,H,I.kept (h':=h') (t':=m) (LSm.kept_iter n),rfl,q⟩
theorem Ua:bL X (binaryOp .FloorDiv) (rI (λ_ j=>0<j/\j.natAbs.log2<9000) λi j=>.int (i/j)):=wu λi j _ _ _ _ _ hc q=>by
 have h1:(0:Int)<j:=hc.1;exact floordiv_int (by omega) (by rw[Int.fdiv_eq_ediv_of_nonneg i (by omega)];exact q) (.inl (PyProof.noPylong_of_log2 hc.2))
def yV(y:Str):It:=⟨λi _=>i<y.cps.size,λi H x H'=>H'=H/\∃c,y.cps[i]?=some c/\x=.str ⟨#[c]⟩,λi _=>i=y.cps.size⟩
theorem YY{P:Program}{w:World}{K:Frag}{nm:Str}{px:Pos}{ty:String}{y:Str}{t:Tok}(it:Addr)
  (W:∀A:Around,A.handled=none->Walks P w A it [it] [it] y.cps.size (SignAt y) (λi h=>h.IsStrIter it ty y t i))
  (F:∀(A:Around) (i:Nat) (s:Shared) (Q:aT) (E:aT),s.heap.IsStrIter it ty y t i->Q (.ref it) s->wpAny (model P w) A (pyIter (.ref it)) Q E s):Turn P w K (.Name nm px) (yV y) [it] it (λi h=>h.IsStrIter it ty y t i) where
 mem:=by simp
 obj:=λi h st b a=>by
  have e:b=it:=by simpa using a
  subst e
  obtain⟨o,e,c,d⟩:=st
  exact⟨o,e,λv z=>by rw[d] at z;cases z⟩
 keep:=λi h h' st k=>let ⟨o,G,r⟩:=st;⟨o,k it (by simp) o G,r⟩
 item:=by
  intro X f j l hc i pins s σ H E I g st m
  subst f j l
  obtain⟨f0,f1,f2,n,f4,p⟩:=g it (by simp)
  refine(W X.A (I.ok.hd hc)).item i s _ _ m st λv h' D f q x=> ?_
  obtain⟨c,u,B,rfl⟩:=f
  have J:Inv X pins σ H {s with heap:=h',toks:=D}:=I.turned (λb o a e=>x b o (by simpa using a) e) f0 f1 n f4 p
  exact⟨_,rfl,aB ⟨.str ⟨#[c]⟩,H,J,⟨u,rfl⟩,⟨rfl,c,B,rfl⟩,q,λb a=>(g b a).1⟩⟩
 done:=by
  intro X f j l hc i pins s σ H E I g st m
  subst f j l
  obtain⟨f0,f1,f2,n,f4,p⟩:=g it (by simp)
  have C:i=y.cps.size:=m
  subst C
  exact(W X.A (I.ok.hd hc)).done s _ _ st λh' D x=>⟨rfl,I.turned (λb o a e=>x b o (by simpa using a) e) f0 f1 n f4 p⟩
 self:=λA i s Q E st h=>F A i s Q E st h
def Rb(tl:TE):TI:=λσ H R=>tl σ H λx H1=>∃y,x=.str y/\R (yV y) H1
theorem U9{l:Expr}{tl:TE}{nm:Str}{px:Pos}(j:PE X l tl):PI X (.Name nm px) l (Rb tl):=by
 intro pins s σ H R I h;refine aK (j pins s σ H _ I h) λv a ⟨x,H1,c,k,m⟩=>?_;obtain⟨y,e,q⟩:=m;subst e;obtain⟨t,rfl⟩:=k;have fin:∀(ty:String) (o:Obj) (W:∀A:Around,A.handled=none->Walks X.prog X.w A a.heap.objs.size [a.heap.objs.size] [a.heap.objs.size] y.cps.size (SignAt y) (λi h=>h.IsStrIter a.heap.objs.size ty y t i))
   (f:∀(A:Around) (i:Nat) (s:Shared) (Q:aT) (E:aT),s.heap.IsStrIter a.heap.objs.size ty y t i->Q (.ref a.heap.objs.size) s->wpAny (model X.prog X.w) A (pyIter (.ref a.heap.objs.size)) Q E s),
   (a.heap.push o).IsStrIter a.heap.objs.size ty y t 0->za X pins σ (.Name nm px) R (.ref a.heap.objs.size) {a with heap:=a.heap.push o}:=λty o W f st=>by
  refine⟨a.heap.objs.size,[a.heap.objs.size],_,_,H1,rfl,c.kept (t':=a.toks) λb o e=>bg _ e,YY _ W f,st,λb n=>?_,q⟩;have e:b=a.heap.objs.size:=by simpa using n
  subst e;exact c.mU (aF _) (c.hok.fresh (aF _))
 cases g:y.cps.all (·<128)
 .exact wpAny_pyIter_wide g (fin _ _ (λA' d=>Walks.strWide d _ y t) (λ_ _ _ _ _ st h=>wpAny_pyIter_striter_wide st h) ⟨_,b9 _ rfl,rfl,rfl⟩)
 .exact wpAny_pyIter_ascii g (fin _ _ (λA' d=>Walks.strAscii d _ y t) (λ_ _ _ _ _ st h=>wpAny_pyIter_striter_ascii st h) ⟨_,b9 _ rfl,rfl,rfl⟩)
end
mutual
inductive Dp(K:Frag)(H:Hp):V->PyData->Prop
 |aG:Dp K H .aG .none
 |bl (b:Bool):Dp K H (.bl b) (.bool b)
 |int (i:Int):Dp K H (.int i) (.int i)
 |str (x:Str):Dp K H (.str x) (.str x)
 |lst {a:Addr} {xs:List V} {ds:List PyData}:aW K H a xs->gO K H xs ds->Dp K H (.ref a) (.list ds)
 |tup {a:Addr} {xs:List V} {ds:List PyData}:bQ K H a xs->gO K H xs ds->Dp K H (.ref a) (.tuple ds)
inductive gO(K:Frag)(H:Hp):List V->List PyData->Prop
 |nil:gO K H [] []
 |cons {v:V} {vs:List V} {d:PyData} {ds:List PyData}:Dp K H v d->gO K H vs ds->gO K H (v::vs) (d::ds)
end
section
variable{X:Cx}{pins:aZ}{σ:St}{H H':Hp}{s:Shared}{K:Frag}
mutual
theorem Dp.reads(I:Inv X pins σ H s):∀(d:PyData) (v:V) (u:Value),Dp X.K H v d->RelV v u->∃as,Reads s.heap u d as
 |.none,_,_,h,r=>by cases h;cases r;exact⟨_,.none⟩
 |.bool b,_,_,h,r=>by cases h;cases r;exact⟨_,.bool b⟩
 |.int i,_,_,h,r=>by cases h;obtain⟨t,rfl⟩:=r;exact⟨_,.int i t⟩
 |.str x,_,_,h,r=>by cases h;obtain⟨t,rfl⟩:=r;exact⟨_,.str x t⟩
 |.list ds,_,_,h,r=>by
  cases h with
  |lst a c=>
   cases r;obtain⟨its,f,pl,hz⟩:=I.list a;obtain⟨as,ra⟩:=gO.reads I ds _ _ c f;obtain⟨o,e,hc,n,hd⟩:=pl.isList;exact⟨_,.list e hc hd (by simpa using ra)⟩
 |.tuple ds,_,_,h,r=>by
  cases h with
  |tup a c=>
   cases r;obtain⟨its,f,pl,hz⟩:=I.tuple a;obtain⟨as,ra⟩:=gO.reads I ds _ _ c f;obtain⟨o,e,hc,n,hd⟩:=pl;exact⟨_,.tuple e hc hd (by simpa using ra)⟩
 |.dict _,_,_,h,_=>nomatch h
theorem gO.reads(I:Inv X pins σ H s):∀(ds:List PyData) (vs:List V) (a:List Value),gO X.K H vs ds->Vals vs a->∃as,ReadsAll s.heap a ds as
 |[],_,_,h,r=>by cases h;cases r;exact⟨_,.nil⟩
 |d::ds,_,_,h,r=>by
  cases h with
  |cons h1 h2=>
   cases r with
   |cons b c=>
    obtain⟨as,a1⟩:=Dp.reads I d _ _ h1 b;obtain⟨bs,a2⟩:=gO.reads I ds _ _ h2 c;exact⟨_,.cons a1 a2⟩
end
def Bw(K:Frag):R2:=λx y H Q=>∃d e,Dp K H x d/\Dp K H y e/\d.canLay0=true/\e.canLay0=true/\min d.depth e.depth<=64/\Q (.bl (PyData.eqv d e)) H
def BA(K:Frag):R2:=λx y H Q=>∃d e,Dp K H x d/\Dp K H y e/\d.canLay0=true/\e.canLay0=true/\min d.depth e.depth<=64/\Q (.bl (!PyData.eqv d e)) H
theorem T_(i:X.A.units+64<cLine):bL X (compareOp .Eq) (Bw X.K):=by
 intro pins s σ H x y v u Q I a b h;obtain⟨d,e,h1,h2,c,f,hd,q⟩:=h;obtain⟨as,ra⟩:=Dp.reads I d x v h1 a;obtain⟨bs,g⟩:=Dp.reads I e y u h2 b;exact SeqAt.compareEq_reads ra g c f (by omega) ⟨.bl _,H,I,rfl,q⟩
theorem Uk(i:X.A.units+64<cLine):bL X (compareOp .NotEq) (BA X.K):=by
 intro pins s σ H x y v u Q I a b h;obtain⟨d,e,h1,h2,c,f,hd,q⟩:=h;obtain⟨as,ra⟩:=Dp.reads I d x v h1 a;obtain⟨bs,g⟩:=Dp.reads I e y u h2 b;exact SeqAt.compareNe_reads ra g c f (by omega) ⟨.bl _,H,I,rfl,q⟩
theorem lE.new{p:Addr}(h:H p=none)(o:HO):lE H (upd H p o):=λb u q=>by rw[bf (dw q h)];exact q
theorem gO.ints:∀(xs:List Int),gO K H (xs.map V.int) (xs.map PyData.int)
 |[]=>.nil
 |x::r=>.cons (.int x) (gO.ints r)
end
section
variable{P:Program}{w:World}{K:Frag}{mg:aC}{base:Heap}
def TopD(K:Frag)(mg:aC)(x:Str)(st:Stmt)(ps:List Str):Prop:=∃f fd,lC K x x st f fd/\Binds K fd ps []/\mg x=some (.ref f)
end
section
variable{X:Cx}{k:Nat}{x:Str}{ps:List Str}{sp:Sp}{e:Expr}{es:List Expr}{t:TA}{p pos:Pos}
theorem Ud:bL X (compareOp .LtE) (λx y H Q=>∃i j,x=.str i/\y=.str j/\Q (.bl (!decide (j.cps.toList<i.cps.toList))) H):=by
 intro pins s σ H x y v u Q I a b h;obtain⟨i,j,rfl,rfl,q⟩:=h;obtain⟨t,rfl⟩:=a;obtain⟨t',rfl⟩:=b;exact PySem.P.le_str (cS I q rfl)
end
def yT(K:Frag)(a:Addr):It:=
 ⟨λi H=>∃xs x,aW K H a xs/\xs[i]?=some x,λi H x H'=>∃p y,H p=none/\x=.ref p/\H'=upd H p (.tup [.int (i:Nat),y])/\∀xs,aW K H a xs->xs[i]?=some y,λi H=>∃xs,aW K H a xs/\xs.length<=i⟩
theorem YT{P:Program}{w:World}{K:Frag}{elts:List Expr}{k:Nat}{pos:Pos}(a e it:Addr)(C:e≠it):
  Turn P w K (.Tuple elts k pos) (yT K a) [e,it] e (λi h=>(∃old,IsEnum h e it i old)/\h.IsListIter it a i) where
 mem:=by simp
 obj:=λi h st b f=>by
  have j:b=e\/b=it:=by simpa using f
  obtain⟨⟨old,t⟩,o,e1,c,d⟩:=st
  rcases j with z|z
  .subst z
   exact⟨_,t,λv z=>nomatch (show Data.fields _=Data.cell v from z)⟩
  .subst z
   exact⟨o,e1,λv z=>by rw[d] at z;cases z⟩
 keep:=λi h h' st kp=>by
  obtain⟨⟨old,t⟩,st⟩:=st
  exact⟨⟨old,kp e (by simp) _ t⟩,st.at λo q=>kp it (by simp) o q⟩
 item:=by
  intro X O Q R hc i pins s σ H E I J st S
  subst O Q R
  obtain⟨xs,x,L,T⟩:=S
  obtain⟨its,U,p,hz⟩:=I.list L
  obtain⟨u,hu,ru⟩:=U.get T
  obtain⟨f0,f1,f2,f3,f4,f5⟩:=J e (by simp)
  obtain⟨M,N,g2,V,W,Y⟩:=J it (by simp)
  obtain⟨⟨old,t⟩,y⟩:=st
  refine wpAny_pyNext_enum_item t y p.isList (x:=u) (by simpa using hu) C λh' ho D hT hsz hk=> ?_
  refine⟨_,rfl,wpAny_letOwnedTupleGo_enum ho λA F l=> ?_⟩
  have B:H s.heap.objs.size=none:=I.hok.fresh (aF _)
  have elt:e<s.heap.objs.size:=aR t
  have Z:it<s.heap.objs.size:=by obtain⟨_,q,_⟩:=y;exact aR q
  have kp:∀b o,b≠e->b≠it->s.heap.get? b=some o->A.get? b=some o:=λb o n1 n2 q=>(l.2 b n1).trans (hk b o n1 n2 q)
  have Ay:A.get? s.heap.objs.size=some {cls:= .type "tuple",data:= .seq #[.int i s.toks,u]}:=(l.2 _ (j9 elt)).trans hT
  have nb:∀b,b∉[e,it]->b≠e/\b≠it:=λb f=>⟨λz=>f (by simp[z]),λz=>f (by simp[z])⟩
  have nT:∀b o,s.heap.get? b=some o->b≠s.heap.objs.size:=λb o q=>bx (aR q)
  have I1:Inv X pins σ (upd H s.heap.objs.size (.tup [.int (i:Nat),x])) {s with heap:=A,toks:=s.toks+1}:=by
   refine I.step (g':=s.gens) (d':=s.drawn) (ch:=[e,it]) (λb f=> ?_) (λb o _ _ f q _=>kp b o (nb b f).1 (nb b f).2 q) (λb o _ _ f q _=>⟨o.slots,kp b o (nb b f).1 (nb b f).2 q⟩)
    (λb o f q n=>by rw[bf (nT b o q)];exact n) (λb o f q=>⟨o,kp b o (nb b f).1 (nb b f).2 q⟩) (λb ys q=>by rw[bf (dw q B)];exact q) (λb o v q=>by rw[bf (dw q B)];exact q)
    (λb ps q=>⟨#[],by rw[bf (dw q B),q];simp⟩) (λm hm=> ?_) (λb v q=> ?_) I.bare
   .have j:b=e\/b=it:=by simpa using f
    rcases j with z|z
    .subst z;exact⟨f3,f1,f4,f5⟩
    .subst z;exact⟨V,N,W,Y⟩
   .obtain⟨o,es,ep,q,r⟩:=hm
    exact⟨o,es,ep,kp _ o (Ne.symm f1) (Ne.symm N) q,r⟩
   .by_cases f:b=s.heap.objs.size
    .subst f
     rw[fC] at q
     cases q
     exact⟨by show 2<=sizeLine;decide,[.int i s.toks,u],.cons ⟨_,rfl⟩ (.cons ru .nil),_,Ay⟩
    .rw[bf f] at q
     have ne1:∀c v',H c=some v'->c≠e/\c≠it:=λc v' g=>⟨λz=>(by rw[z,f0] at g;cases g),λz=>(by rw[z,M] at g;cases g)⟩
     refine(I.hok b v q).stay (λc w' G g=>kp c w' ?_ ?_ g) (λc g=>by rw[bf (dw g B)];exact g) λc ys g=>by rw[bf (dw g B)];exact g
     .rcases G with z|z
      .rw[z];exact(ne1 b v q).1
      .exact(ne1 c _ z).1
     .rcases G with z|z
      .rw[z];exact(ne1 b v q).2
      .exact(ne1 c _ z).2
  refine⟨.ref s.heap.objs.size,_,I1,rfl,⟨s.heap.objs.size,x,B,rfl,rfl,λys hy=>by rw[I.AS hy L];exact T⟩,⟨⟨u,by simpa using F⟩,D.at λo q=>(l.2 it C.symm).trans q⟩,λb f=> ?_⟩
  have j:b=e\/b=it:=by simpa using f
  rcases j with z|z
  .subst z;rw[bf (bx elt)];exact f0
  .subst z;rw[bf (bx Z)];exact M
 done:=by
  intro X O Q R hc i pins s σ H E I J st S
  subst O Q R
  obtain⟨xs,L,T⟩:=S
  obtain⟨its,U,p,hz⟩:=I.list L
  obtain⟨M,N,g2,V,W,Y⟩:=J it (by simp)
  obtain⟨⟨old,t⟩,y⟩:=st
  have hl:=U.length
  exact wpAny_pyNext_enum_end (I.ok.hd hc) t y p.isList (by simp;omega) λh' eb=>⟨rfl,I.turned (t':=s.toks) (λb o f e=>eb b o f e) M N V W Y⟩
 self:=λ_ _ _ _ _ st h=>by
  obtain⟨⟨old,t⟩,_⟩:=st
  exact wpAny_pyIter_enum t h
section
variable{X:Cx}
def Q4(K:Frag)(ta:TA):TI:=λσ H R=>ta σ H λvs H1=>∃a xs,vs=[.ref a]/\aW K H1 a xs/\R (yT K a) H1
theorem U4{l:Expr}{ta:TA}{elts:List Expr}{k:Nat}{tpos p pos:Pos}(j:Gl X "enumerate")(m:X.mg "enumerate"=none)(n:PA X [l] ta)(f:bootBuiltins "enumerate"=some (.type "enumerate"))(o:starEach [l] X.env=[(false,eval l X.env)]:=by rfl):
  PI X (.Tuple elts k tpos) (.Call (.Name "enumerate" p) [l] [] pos) (Q4 X.K ta):=by
 intro pins s σ H R I h;refine Call_ (jA I j m f (nj (aK (n pos pins s σ H _ I h) λA c ⟨vs,H1,d,r,t⟩=>?_) o rfl));obtain⟨a,xs,e,v,q⟩:=t;subst e;obtain⟨u,rfl,w⟩:=vals1 r;cases w;obtain⟨its,B,pl,hz⟩:=d.list v;refine call_enumerate_list pl.isList λh' i hit hsz x=>?_;have y:Inv X pins σ H1 {c with heap:=h'}:=d.kept (t':=c.toks) x;refine wpAny_pyIter_enum i ⟨_,[c.heap.objs.size+1,c.heap.objs.size],_,_,H1,rfl,y,YT a _ _ (j9 (k8 _)),⟨⟨_,i⟩,hit⟩,λb f=>?_,q⟩;have g:b=c.heap.objs.size+1\/b=c.heap.objs.size:=by simpa using f
 rcases g with z|z
 .subst z
  exact d.mU (lW _) (d.hok.fresh (lW _))
 .subst z
  exact d.mU (aF _) (d.hok.fresh (aF _))
theorem Inv.many{pins:aZ}{σ:St}{H H':Hp}{s:Shared}{h':Heap}{t':Nat}(I:Inv X pins σ H s)(kp:∀b o,s.heap.get? b=some o->h'.get? b=some o)(d:lE H H')
  (a:∀b o,H' b=some o->H b=some o\/(s.heap.objs.size<=b/\b_ X.prog X.w H' h' b o)):Inv X pins σ H' {s with heap:=h',toks:=t'}:=by
 refine I.un (h':=h') (t':=t') ⟨λb o q _ _ _=>kp b o q,λb o q _ _ _=>⟨o.slots,kp b o q⟩,λb o q n _=>?_,λb o q _=>⟨o,kp b o q⟩,λb xs q=>d _ _ q,λb o u q=>d _ _ q,λb ps q=>⟨#[],by rw[d _ _ q];simp⟩⟩ λb o q=>?_
 .cases e:H' b with
  |none=>rfl
  |some u=>
   rcases a b u e with z|⟨z,_⟩
   .rw[n] at z;cases z
   .exact absurd (cP (aR q) z) (gw _)
 .rcases a b o q with z|⟨_,z⟩
  .exact(I.hok b o z).stay (λc v _ r=>kp c v r) (λc r=>d _ _ r) λc xs r=>d _ _ r
  .exact z
end
inductive rA(K:Frag)(H:Hp):V->Value->Prop where
 |of {x:V} {t:Value} (h:iU K H x t):rA K H x t
 |tup {a:Addr} {xs:List V} (h:bQ K H a xs):rA K H (.ref a) (.type "tuple")
 |lst {a:Addr} {xs:List V} (h:aW K H a xs):rA K H (.ref a) (.type "list")
theorem Mp{X:Cx}:eS X (.builtin "isinstance") (λxs H Q=>∃x c t b,xs=[x,.ty c]/\rA X.K H x t/\kitOne X.K t (.type c)=some b/\Q (.bl b) H):=by
 intro pins s σ H xs j Q I r h;obtain⟨x,c,t,b,rfl,ty,e,q⟩:=h;obtain⟨u,k,rfl,d,f⟩:=vals2 r;cases f;cases ty with
 |of ty=>exact Ro I d ty e λa=>⟨.bl b,H,I.tok a,rfl,q⟩
 |tup g=>
  cases d;obtain⟨its,i,⟨o,h1,h2,_⟩,_⟩:=I.tuple g;exact jh kitx_tuple I.f_ ⟨o,h1,h2⟩ e (λz=>nomatch z) λa=>⟨.bl b,H,I.tok a,rfl,q⟩
 |lst g=>
  cases d;obtain⟨its,i,pl,_⟩:=I.list g;obtain⟨o,h1,h2,_⟩:=pl.isList;exact jh kitx_list I.f_ ⟨o,h1,h2⟩ e (λz=>nomatch z) λa=>⟨.bl b,H,I.tok a,rfl,q⟩
end L2
end
namespace MA
theorem Qf{a b:Int}(c:0<=a)(d:0<b):Int.gcd b (a%b)=Int.gcd a b:=by
 obtain⟨m,rfl⟩:=Int.eq_ofNat_of_zero_le c;obtain⟨n,rfl⟩:=Int.eq_ofNat_of_zero_le (eZ d);rw[<-Int.natCast_emod,Int.gcd_natCast_natCast,Int.gcd_natCast_natCast,Nat.gcd_comm n (m%n),<-Nat.gcd_rec,Nat.gcd_comm]
def rf(x:Rat):Int×Int:=(x.num,(x.den:Int))
theorem cX(x:Rat):0<(rf x).2:=by
 have:=x.den_pos;show(0:Int)<(x.den:Int);omega
theorem gp(x:Rat):((rf x).1:Rat)/((rf x).2:Rat)=x:=by
 show(x.num:Rat)/((x.den:Int):Rat)=x;rw[<-Rat.divInt_eq_div,Rat.divInt_ofNat,Rat.mkRat_self]
theorem V3{x y:Rat}(h:rf x=rf y):x=y:=by rw[<-gp x,<-gp y,h]
theorem xM{a b:Int}(c:0<b):(a/(Int.gcd a b:Int),b/(Int.gcd a b:Int))=rf ((a:Rat)/(b:Rat)):=by
 rw[<-Rat.divInt_eq_div];unfold rf;have h1:=Rat.num_divInt a b;have h2:=Rat.den_divInt a b;rw[h1,h2];have d:b.sign=1:=Int.sign_eq_one_of_pos c;rw[d,ao (by omega),one_mul,Int.gcd_comm b a];congr 1;have:(b.natAbs:Int)=b:=by omega
 rw[Int.natCast_ediv,this]
inductive aV(N:Type) where
 |wt (n:N)
 |bS (l r:Int) (a b:aV N)
namespace aV
variable{N:Type}
def arms:aV N->Prop
 |wt _=>True
 |bS l r a b=>1<=l/\l<=9/\1<=r/\r<=9/\a.arms/\b.arms
def deep:aV N->Nat
 |wt _=>0
 |bS _ _ a b=>max a.deep b.deep+1
def names:aV N->List N
 |wt n=>[n]
 |bS _ _ a b=>a.names++b.names
def sh:aV N->Rat->List Rat
 |wt _,x=>[x]
 |bS l r a b,x=>a.sh (x*((r:Rat)/((l+r:Int):Rat)))++b.sh (x*((l:Rat)/((l+r:Int):Rat)))
theorem lR:∀(m:aV N),m.names.length<=2 ^ m.deep
 |wt _=>aF 1
 |bS _ _ a b=>by
  have h1:=lR a;have h2:=lR b;have c:2 ^ a.deep<=2 ^ max a.deep b.deep:=fF (by decide) (ua _ _);have d:2 ^ b.deep<=2 ^ max a.deep b.deep:=fF (by decide) (uc _ _);show List.length (_++_)<=2 ^ (max a.deep b.deep+1);rw[cJ,pow_succ];omega
theorem om:∀(m:aV N),0<m.names.length
 |wt _=>Nat.zero_lt_one
 |bS _ _ a b=>by
  have h1:=om a;show 0<List.length (_++_);rw[cJ];omega
end aV
theorem BE:rf 1=(1,1):=by rfl
theorem ie{a:Int}(h:a≠0):(a:Rat)≠0:=by
 intro z;exact h (by exact_mod_cast z)
theorem BD(t:Rat)(a b:Int):rf ((((rf t).1*a:Int):Rat)/(((rf t).2*b:Int):Rat))=rf (t*((a:Rat)/(b:Rat))):=by
 have h1:=ie (k_ (cX t));congr 1;rw[gI,gI];have d:=gp t;by_cases c:(b:Rat)=0
 .rw[c];grind
 .grind
theorem IP(t s:Rat):rf ((((rf t).1*(rf s).1:Int):Rat)/(((rf t).2*(rf s).2:Int):Rat))=rf (t*s):=by
 rw[BD,gp]
theorem NH{a b:Int}(c:0<b):(rf ((a:Rat)/(b:Rat))).2<=b:=by
 rw[<-xM c];show b/(Int.gcd a b:Int)<=b;exact lz _ (eZ c)
theorem den_mul{t:Rat}{a b:Int}(c:0<b):(rf (t*((a:Rat)/(b:Rat)))).2<=(rf t).2*b:=by
 rw[<-BD];exact NH (gj (cX t) c)
theorem eL{x:Rat}(h:0<x):0<(rf x).1:=by
 have h1:0<=(rf x).1:=Rat.num_nonneg.mpr (Rat.le_of_lt h);have h2:(rf x).1≠0:=λz=>by
  have e:=gp x;rw[z] at e;have a:x=0:=by rw[<-e,mj];grind
  rw[a] at h;exact absurd h (by decide)
 omega
namespace aV
variable{N:Type}
theorem step_pos{l r:Int}{x:Rat}(a:1<=l)(b:1<=r)(h:0<x):0<x*((r:Rat)/((l+r:Int):Rat)):=by
 have h1:(0:Rat)<(r:Rat):=by exact_mod_cast (show(0:Int)<r by omega)
 have h2:(0:Rat)<((l+r:Int):Rat):=by exact_mod_cast (show(0:Int)<l+r by omega)
 exact nC h (by rw[mj];exact nC h1 (uz.mpr h2))
theorem BL:∀(m:aV N) (x:Rat) (B:Int),m.arms->0<x->(rf x).2<=B->∀s∈m.sh x,0<s/\(rf s).2<=B*18 ^ m.deep
 |wt _,x,B,_,h1,h2,s,hs=>by
  have:s=x:=by simpa[sh] using hs
  subst this;exact⟨h1,by simpa[deep] using h2⟩
 |bS l r a b,x,B,h,h1,h2,s,hs=>by
  obtain⟨f,t,g,u,i,j⟩:=h;have n:0<B:=yE (cX x) h2;have o:(rf (x*((r:Rat)/((l+r:Int):Rat)))).2<=B*18:=by
   refine e_ (den_mul (by omega)) ?_;exact eE h2 (by omega) (by omega) (by omega)
  have p:(rf (x*((l:Rat)/((l+r:Int):Rat)))).2<=B*18:=by
   refine e_ (den_mul (by omega)) ?_;exact eE h2 (by omega) (by omega) (by omega)
  have p1:0<x*((r:Rat)/((l+r:Int):Rat)):=step_pos f g h1;have p2:0<x*((l:Rat)/((l+r:Int):Rat)):=by
   have:=step_pos (l:=r) (r:=l) g f h1;rwa [add_comm r l] at this
  have up:∀k:Nat,k<=max a.deep b.deep->B*18*18 ^ k<=B*18 ^ (max a.deep b.deep+1):=λk q=>by
   rw[kc,qB,oM 18 (18 ^ k)];refine qL ?_ (eZ n);refine CA ?_ (by decide);have:(18:Nat) ^ k<=18 ^ max a.deep b.deep:=fF (by decide) q;exact_mod_cast this
  have c:s∈a.sh (x*((r:Rat)/((l+r:Int):Rat)))\/s∈b.sh (x*((l:Rat)/((l+r:Int):Rat))):=bU.mp hs;rcases c with hs|hs
  .obtain⟨d,e⟩:=BL a _ _ i p1 o s hs
   exact⟨d,e_ e (up _ (ua _ _))⟩
  .obtain⟨d,e⟩:=BL b _ _ j p2 p s hs
   exact⟨d,e_ e (up _ (uc _ _))⟩
end aV
def cR{W N S:Type}[DecidableEq N][DecidableEq S](pre:List (W×N×S)):List (W×N×S)->Option (W×W)
 |[]=>none
 |(w,n,s)::r=>match pre.find? (λp=>decide (p.2.1=n)) with
  |some p=>if p.2.2=s then cR (pre++[(w,n,s)]) r else some (p.1,w)
  |none=>cR (pre++[(w,n,s)]) r
end MA
section
open PySem PySem.Spec PyProof.Rows
namespace L2
section
variable{P:Program}{w:World}{H H':Hp}{h:Heap}{a:Addr}{o:HO}
theorem b_.obj(x:b_ P w H h a o):∃u,h.get? a=some u:=by
 cases o with
 |lst xs=>obtain⟨_,_,_,_,e⟩:=x;exact⟨_,e⟩
 |tup xs=>obtain⟨_,_,_,_,e⟩:=x;exact⟨_,e⟩
 |dK kvs=>obtain⟨_,_,_,_,o,_,_,e,_⟩:=x;exact⟨_,e⟩
 |dT kvs=>obtain⟨_,_,_,_,o,_,_,e,_⟩:=x;exact⟨_,e⟩
 |set S n=>obtain⟨o,_,_,_,e,_⟩:=x;exact⟨_,e⟩
 |ins C dx fs=>obtain⟨_,_,_,e,_⟩:=x;exact⟨_,e⟩
 |own y=>exact x
 |xd fs=>obtain⟨_,⟨_,_,_,e,_⟩,_⟩:=x;exact⟨_,e⟩
 |fT lo hi=>obtain⟨_,_,_,e⟩:=x;exact⟨_,e⟩
 |bT b u=>obtain⟨e,_⟩:=x;exact⟨_,e⟩
 |jf ps=>exact⟨_,(show h.get? a=some _ from x)⟩
 |met f y=>exact⟨_,(show h.get? a=some _ from x)⟩
 |ext c=>obtain⟨_,e,_⟩:=x;exact e
end
structure C0(P:Program)(w:World)(outer:List Env)(H H':Hp)(s s':Shared)(a:Addr)(C:Value):Prop where
 os:s'.os=s.os
 bare:AllBare s'.gens
 slot:∀b o,s.heap.get? b=some o->b∈frs outer->∃sl,s'.heap.get? b=some {o with slots:=sl}
 free:∀b o,s.heap.get? b=some o->H b=none->H' b=none
 tups:∀b xs,H b=some (.tup xs)->H' b=some (.tup xs)
 gV:∀b o u,H b=some (.bT o u)->H' b=some (.bT o u)
 iN:∀b ps,H b=some (.jf ps)->∃more,H' b=some (.jf (ps++more))
 fl:∃(B:Heap) (a0:Value),(∀b o,s.heap.get? b=some o->H b=none->b∉frs outer->B.get? b=some o)/\(∀b o,s.heap.get? b=some o->b∉frs outer->∃o',B.get? b=some o')/\cV P w H' B/\Heap.FlyingW B outer a C a0 s'.heap
def bW(P:Program)(w:World):jn:=λouter H s E e s'=>∃(a:Addr) (C:Value) (H':Hp),e=.ref a/\C0 P w outer H H' s s' a C/\E C none H'
section
variable{X:Cx}{pins:aZ}{σ:St}{H H':Hp}{s s':Shared}{a:Addr}{C:Value}
theorem FU(I:Inv X pins σ H s)(hex:X.ex=[])(os:s'.os=s.os)(bare:AllBare s'.gens)(slot:∀b o,s.heap.get? b=some o->b∈frs X.outer->∃i,s'.heap.get? b=some {o with slots:=i})
  (free:∀b o,s.heap.get? b=some o->H b=none->H' b=none)(tups:∀b xs,H b=some (.tup xs)->H' b=some (.tup xs))(gV:∀b o u,H b=some (.bT o u)->H' b=some (.bT o u))
  (iN:∀b ps,H b=some (.jf ps)->∃d,H' b=some (.jf (ps++d)))
  (fl:∃(B:Heap) (a0:Value),(∀b o,s.heap.get? b=some o->H b=none->b∉frs X.stack->B.get? b=some o)/\(∀b o,s.heap.get? b=some o->b∉frs X.stack->∃o',B.get? b=some o')/\cV X.prog X.w H' B/\Heap.FlyingW B X.outer a C a0 s'.heap):
  C0 X.prog X.w X.outer X.H₀ H' X.s₀ s' a C:=by
 have nx:∀b:Addr,b∉X.ex:=λb=>by rw[hex];simp
 have g:∀b o,X.s₀.heap.get? b=some o->b∉frs X.outer->b∉frs X.stack:=λb o q c z=>by
  rcases aY.mp (I.qi b z) with e|e
  .exact absurd (cP (aR q) I.ok.above) (by rw[e];exact gw _)
  .exact c e
 refine⟨os.trans I.os,bare,λb o q c=> ?_,λb o q n=> ?_,λb xs q=>tups b xs (I.base.tups b xs q),λb o u q=>gV b o u (I.base.gV b o u q),λb ps q=> ?_,?_⟩
 .obtain⟨i,e⟩:=I.base.slot b o q (I.ok.pQ b c) c (nx b)
  obtain⟨j,l⟩:=slot b _ e c
  exact⟨j,l⟩
 .obtain⟨i,e⟩:=I.base.any q n (nx b)
  exact free b _ e (I.base.free b o q n (nx b))
 .obtain⟨m,p⟩:=I.base.iN b ps q
  obtain⟨r,v⟩:=iN b _ p
  exact⟨m++r,by rw[v,Array.append_assoc]⟩
 .obtain⟨B,a0,k,t,h,f⟩:=fl
  refine⟨B,a0,λb o q n c=>k b o (I.base.keep b o q n c (nx b)) (I.base.free b o q n (nx b)) (g b o q c),λb o q c=> ?_,h,f⟩
  obtain⟨o',e⟩:=I.base.there b o q (nx b)
  exact t b o' e (g b o q c)
end
def Raises(X:Cx)(E:XK):Prop:=∀(pins:aZ) (σ:St) (H:Hp) (s:Shared) (e:Addr) (h':Heap) (C:Value) (args:List Value),Inv X pins σ H s->Heap.MadeExcOf s.heap h' e C args->E C none H->X.xe (.ref e) {s with heap:=h'}
section
variable{P:Program}{w:World}{K:Frag}{mg:aC}{base:Heap}{N:List Str}{qual:Str}{scope:Scope}{f:Addr}{cd:Value}{A:Around}{outer:List Env}{s:Shared}{H:Hp}{E:XK}
theorem F2{env:Env}{l:List Env}{b:Addr}(h:b∈frs l):b∈frs (env::l):=by
 obtain⟨e,a,c⟩:=qy.mp h;exact qy.mpr ⟨e,bq _ a,c⟩
theorem IG:Raises (c7 (bW P w) P w K mg base N qual scope f cd A outer s H E) E:=by
 intro pins σ H1 j e h' C args I i k;have stk:=I.stack;have wh:∀b o,H1 b=some o->b∉frs (c7 (bW P w) P w K mg base N qual scope f cd A outer s H E).stack:=λb o q z=>by
  rw[I.BR b z] at q;cases q
 have h:∀a∈(c7 (bW P w) P w K mg base N qual scope f cd A outer s H E).stack,∀b,a.frame=some b->b∈frs (c7 (bW P w) P w K mg base N qual scope f cd A outer s H E).stack:=λa l b d=>qy.mpr ⟨a,l,d⟩;show wpAny (model P w) _ (leaving _ (.ref e)) _ _ _;refine wpAny_leaves_madeW (base:=hideAll j.heap (frs (c7 (bW P w) P w K mg base N qual scope f cd A outer s H E).stack)) I.ok.frames rfl (λb o q=>of_hideAll _ q) (PySem.W.funFrames_hide stk h) i λm t fl tup p up=>?_;refine⟨e,C,H1,rfl,FU I rfl rfl I.bare (λb o q d=>?_) (λ_ _ _ n=>n) (λ_ _ q=>q) (λ_ _ _ q=>q) (λ_ ps q=>⟨#[],by rw[q];simp⟩) ⟨_,_,λb o q n d=>hideAll_get _ q d,λb o q d=>⟨o,hideAll_get _ q d⟩,λb o q=>?_,fl⟩,k⟩
 .obtain⟨_,o',g,hd⟩:=stk.mem (F2 (env:=envOfC qual scope s.heap.objs.size f cd) d)
  rw[q] at g;cases g;exact up b o (i.keeps b o q) hd
 .refine(I.hok b o q).stay (λc u hc r=>hideAll_get _ r ?_) (λ_ r=>r) λ_ _ r=>r
  rcases hc with z|z
  .rw[z];exact wh b o q
  .exact wh c _ z
theorem H8:Passes (bW P w) (c7 (bW P w) P w K mg base N qual scope f cd A outer s H E) E:=by
 intro pins σ H1 p e s' I h;obtain⟨a,C,H',rfl,F,j⟩:=h;obtain⟨B,a0,k,th,hok,fl⟩:=F.fl;show wpAny (model P w) _ (leaving _ (.ref a)) _ _ _;refine wpAny_leaves_onW I.ok.frames rfl fl λl g up=>⟨a,C,H',rfl,FU I rfl F.os F.bare (λb o q m=>?_) F.free F.tups F.gV F.iN ⟨B,a0,k,th,hok,g⟩,j⟩;have c:=F2 (env:=envOfC qual scope s.heap.objs.size f cd) m;obtain⟨r,e⟩:=F.slot b o q c;obtain⟨_,o',d,hd⟩:=fl.2.2.1.mem c;rw[e] at d;cases d;obtain⟨i,n⟩:=up b _ e hd;exact⟨i,n⟩
theorem dQ:PassesOwn (model P w) (c7 (bW P w) P w K mg base N qual scope f cd A outer s H E).A (c7 (bW P w) P w K mg base N qual scope f cd A outer s H E).env (c7 (bW P w) P w K mg base N qual scope f cd A outer s H E).xe:=
 PassesOwn.leaving
end
abbrev j8:List Value:=[.type "ValueError",.type "Exception",.type "BaseException",.type "object"]
theorem Oq{K:Frag}{h:Heap}{C:Addr}{b:List Value}{newId:String}(X:K.In h)(q:excIn K C b newId=true):∃nm d N bs bm hdct sn sub ab col dd k0 k1 k2 k3 k5,∃mN:aC,
  h.get? C=some (excClassObj nm d C N bs bm hdct sn sub ab col dd k0 k1 k2 k3 k5 newId)/\h.Ns N mN/\mN "__init__"=none/\OwnTail h b bm:=by
 unfold excIn at q;split at q
 .rename_i dd cd f j
  split at q
  .rename_i m bm k0 k1 k2 k3 n k5 g i
   simp only[lg,beq_iff_eq,Bool.not_eq_true'] at q;obtain⟨⟨⟨⟨⟨rfl,rfl⟩,a⟩,k⟩,hok⟩,c⟩:=q;obtain⟨nm,bs,mro,ns,d,hd,sn,sub,ab,col,del⟩:=cd;dsimp only at g a hok c;subst g a;have e:f= #[k0,k1,k2,k3,some (.builtin n),k5]:=by
    obtain⟨l⟩:=f;simp only at i;rw[i]
   subst e;exact⟨nm,d,ns,bs,bm,hd,sn,sub,ab,col,dd,k0,k1,k2,k3,k5,_,X _ _ j,.of_isNs (PySem.W.isNs_of_in X hok),PySem.W.nsMap_none_of_in X hok c,PySem.W.tail_of_in X k⟩
  .cases q
 .cases q
section
variable{X:Cx}{E:XK}{x:Str}{C:Addr}{e:Expr}{t:TA}{np cpos pos:Pos}
def Yx(E:XK)(C:Addr)(t:TA):TS:=λ_ σ H=>t σ H λvs H1=>vs.length<=sizeLine/\E (.ref C) none H1
theorem Vz(j:Raises X E)(hc:X.calm=true)(k:X.mg x=some (.ref C))(l:excIn X.K C j8 "ValueError.__new__"=true)(m:PA X [e] t)(n:Gl X x:=by rfl)(b:(x==("__debug__":Str))=false:=by decide)
  (f:starEach [e] X.env=[(false,eval e X.env)]:=by rfl):PS X (.Raise (some (.Call (.Name x np) [e] [] cpos)) none pos) (Yx E C t):=by
 intro pins s σ H D I h;obtain⟨nm,o,N,bs,bm,hdct,sn,sub,ab,col,dd,k0,k1,k2,k3,k5,mN,c,p,d,g⟩:=Oq I.mod.vO l;refine wpAny_Raise_call_subT (nm:=nm) (q:=o) (C:=C) (N:=N) (bs:=bs) (bm:=bm) (hdct:=hdct) (sn:=sn) (sub:=sub) (ab:=ab) (col:=col) (dd:=dd) (k0:=k0) (k1:=k1) (k2:=k2) (k3:=k3) (k5:=k5) (mN:=mN) PySem.F.excBase_ValueError (g.hasType (by decide+kernel)) (I.ok.hd hc) (by rw[f];rfl) d (AM I n k ⟨rfl,?_⟩ b);have h':=m cpos pins s σ H _ I h;rw[f] at h' ⊢;refine Calls.evalArgs_plain (aK h' λr y ⟨vs,H1,a,u,i⟩=>?_);have v:=u.length;exact⟨rfl,by show r.length<=sizeLine;rw[<-v];exact i.1,a.bk _ _ c,p.keeps a.bk,g.keeps a.bk,λh2 z w=>j _ _ _ _ _ _ _ _ a w i.2⟩
end
def excAt(a:Addr)(C:Value)(h:Heap):Prop:=∃o,h.get? a=some o/\o.cls=C
abbrev Oo(a C:Addr):HO:=.ext (excAt a (.ref C))
section
variable{P:Program}{w:World}{K:Frag}{mg:aC}{base:Heap}
def aj(P:Program)(w:World)(K:Frag)(mg:aC)(base:Heap)(k:Nat)(x:Str)(ps:List Str)(sp:Sp):Prop:=
 ∃f fd,gk P w K mg base (bW P w) k f fd ps sp/\Binds K fd ps []/\keepIn K (.ref f)=true/\mg x=some (.ref f)
theorem aj.mono{j k:Nat}{x:Str}{ps:List Str}{sp:Sp}(F:aj P w K mg base j x ps sp)(h:j<=k):aj P w K mg base k x ps sp:=by
 obtain⟨f,fd,F,r⟩:=F;exact⟨f,fd,F.mono h,r⟩
theorem TopD.fnX{x:Str}{st:Stmt}{N ps:List Str}{k:Nat}{sp:Sp}(T:TopD K mg x st ps)(S:aX N ps (aI st))(len:∀vs H Q E,sp vs H Q E->vs.length=ps.length)
  (c:∀(f:Addr) (a:Value) (A:Around) (outer:List Env) (s:Shared) (H:Hp) (vs:List V) (Q:VK) (E:XK),dZ k (A.deeper (envOfC x (aI st) s.heap.objs.size f a))->sp vs H Q E->
   ∃t,dY (c7 (bW P w) P w K mg base N x (aI st) f a A outer s H E) (iI st) t/\t {nx:=λ_ H'=>Q .aG H',rt:=Q} (start N vs) H):aj P w K mg base (k+1) x ps sp:=by
 obtain⟨f,fd,F,b,m⟩:=T;have kp:=F.kp;obtain⟨i,j,kV,doc,pm,an,a,ct,g,rfl,lk,d⟩:=F.ex;exact⟨f,_,FW lk d S len λA outer s H vs Q E h e=>c f a A outer s H vs Q E h e,b,kp,m⟩
end
section
variable{X:Cx}{k:Nat}{x:Str}{ps:List Str}{sp:Sp}{e fe:Expr}{es:List Expr}{t:TA}{tf:TE}{p pos:Pos}{E:XK}
theorem UB(F:aj X.prog X.w X.K X.mg X.base k x ps sp)(d:dZ k X.A)(g:Passes (bW X.prog X.w) X E)(h:PA X (e::es) t)(i:Gl X x:=by rfl)(a:(x==("__debug__":Str))=false:=by decide)
  (j:starEach (e::es) X.env=(false,eval e X.env)::starEach es X.env:=by rfl)(c:(backTo pos (starEach es X.env)).any (·.1)=false:=by rfl):
  PE X (.Call (.Name x p) (e::es) [] pos) (KQ sp [] E t):=by
 obtain⟨f,fd,F,b,kp,m⟩:=F;exact Uz F d i m kp b .nil g h a j c
end
end L2
namespace SR
abbrev Rs(xs:Array Nat):Prop:=xs.toList.Pairwise (·<·)
theorem Rs.lt{xs:Array Nat}(h:Rs xs){a b:Nat}(c:a<b)(d:b<xs.size):xs.getD a 0<xs.getD b 0:=by
 have:=ug.mp h a b (by simp;omega) (by simp;omega) c;rw[iT,iT,fc (by omega),fc d];simpa using this
theorem Aq(xs:Array Nat)(d:Rs xs)(j:Nat):∀(fuel lo hi:Nat),hi<=xs.size->lo<=hi->hi - lo<=fuel->(∀i,i<lo->xs.getD i 0<j)->(∀i,hi<=i->i<xs.size->j<=xs.getD i 0)->
  SetTable.below.go xs j fuel lo hi<=xs.size/\(∀i,i<SetTable.below.go xs j fuel lo hi->xs.getD i 0<j)/\∀i,SetTable.below.go xs j fuel lo hi<=i->i<xs.size->j<=xs.getD i 0
 |0,lo,hi,h1,h2,l,f,g=>by
  have e:lo=hi:=by omega
  show lo<=_/\(∀i,i<lo->_)/\∀i,lo<=i->_;exact⟨by omega,f,λi c=>g i (by omega)⟩
 |fuel+1,lo,hi,h1,h2,l,f,g=>by
  unfold SetTable.below.go;by_cases h:lo<hi
  .rw[aA h]
   dsimp only;have k:(lo+hi)/2<xs.size:=by omega
   have e:xs.getD ((lo+hi)/2) j=xs.getD ((lo+hi)/2) 0:=by
    rw[iT,iT,fc k];rfl
   rw[e];by_cases hc:xs.getD ((lo+hi)/2) 0<j
   .rw[aA hc]
    refine Aq xs d j fuel _ hi h1 (by omega) (by omega) (λi c=>?_) g;by_cases z:i=(lo+hi)/2
    .rw[z];exact hc
    .have:=d.lt (a:=i) (b:=(lo+hi)/2) (by omega) k
     omega
   .rw[ao hc]
    refine Aq xs d j fuel lo _ (by omega) (by omega) (by omega) f (λi c m=>?_);by_cases z:i=(lo+hi)/2
    .rw[z];omega
    .have:=d.lt (a:=(lo+hi)/2) (b:=i) (by omega) m
     omega
  .rw[ao h]
   exact⟨by omega,f,λi c=>g i (by omega)⟩
theorem uW{xs:Array Nat}(a:Rs xs)(j:Nat):SetTable.below xs j<=xs.size/\(∀i,i<SetTable.below xs j->xs.getD i 0<j)/\∀i,SetTable.below xs j<=i->i<xs.size->j<=xs.getD i 0:=
 Aq xs a j xs.size 0 xs.size (aF _) (bP _) (by omega) (λi h=>absurd h (qD _)) (λi h1 h2=>absurd h2 (by omega))
theorem F_{xs:Array Nat}{i:Nat}(h:i<xs.size):xs[i]?=some (xs.getD i 0):=by
 rw[iT,fc h];rfl
theorem Ea{xs:Array Nat}(a:Rs xs):SetTable.below xs 0=0:=by
 obtain⟨h1,h2,b⟩:=uW a 0;by_cases z:SetTable.below xs 0=0
 .exact z
 .exact absurd (h2 0 (by omega)) (qD _)
theorem D_{xs:Array Nat}(c:Rs xs){i:Nat}(hi:i<xs.size):SetTable.below xs (xs.getD i 0+1)=i+1:=by
 obtain⟨h1,h2,d⟩:=uW c (xs.getD i 0+1);have a1:i<SetTable.below xs (xs.getD i 0+1):=by
  by_cases z:i<SetTable.below xs (xs.getD i 0+1)
  .exact z
  .have:=d i (by omega) hi
   omega
 by_cases z:i+1<SetTable.below xs (xs.getD i 0+1)
 .have a2:=h2 (i+1) z
  have a3:=c.lt (a:=i) (b:=i+1) (by omega) (by omega);omega
 .omega
theorem Mf{xs:Array Nat}(b:Rs xs){j:Nat}(h:j∈xs.toList):xs[SetTable.below xs j]?=some j:=by
 obtain⟨i,hi,e⟩:=iO h;have a:i<xs.size:=by simpa using hi
 have c:xs.getD i 0=j:=by
  rw[iT,fc a];simpa using e
 obtain⟨h1,h2,d⟩:=uW b j;have a1:SetTable.below xs j=i:=by
  rcases Nat.lt_trichotomy (SetTable.below xs j) i with z|z|z
  .have a2:=d _ (aF _) (by omega)
   have a3:=b.lt z a;omega
  .exact z
  .have:=h2 i z
   omega
 rw[a1,F_ a,c]
theorem Ri{xs:Array Nat}(f:Rs xs){j:Nat}(o:j∉xs.toList):Rs (SetTable.insertAt xs (SetTable.below xs j) j):=by
 obtain⟨h1,h2,h⟩:=uW f j;unfold SetTable.insertAt Rs;have e:((xs.extract 0 (SetTable.below xs j)).push j++xs.extract (SetTable.below xs j) xs.size).toList=xs.toList.take (SetTable.below xs j)++(j::xs.toList.drop (SetTable.below xs j)):=by
  simp[Array.toList_append,Array.toList_extract];exact qH (by simp)
 rw[e];refine List.pairwise_append.mpr ⟨f.sublist (List.take_sublist _ _),gZ.mpr ⟨λy p=>?_,f.sublist (List.drop_sublist _ _)⟩,λa q b hb=>?_⟩
 .obtain⟨i,hi,e⟩:=iO p
  rw[qv] at hi;rw[List.getElem_drop] at e;have c:SetTable.below xs j+i<xs.size:=by simp at hi;omega
  have:=h (SetTable.below xs j+i) (by omega) c;rw[iT,fc c] at this;have l:xs[SetTable.below xs j+i]=y:=by simpa using e
  have this:j<=y:=by rw[<-l];exact this
  have r:j≠y:=λz=>o (by rw[z,<-l];simp);omega
 .obtain⟨i,hi,e⟩:=iO q
  rw[kZ] at hi;rw[List.getElem_take] at e;have c:i<xs.size:=by omega
  have:=h2 i (by omega);rw[iT,fc c] at this;have s:xs[i]=a:=by simpa using e
  have g:a<j:=by rw[<-s];exact this
  rcases aY.mp hb with z|hb
  .rw[z];exact g
  .obtain⟨k,m,n⟩:=iO hb
   rw[qv] at m;rw[List.getElem_drop] at n;have d:SetTable.below xs j+k<xs.size:=by simp at m;omega
   have:=h (SetTable.below xs j+k) (by omega) d;rw[iT,fc d] at this;have t:xs[SetTable.below xs j+k]=b:=by simpa using n
   have:j<=b:=by rw[<-t];exact this
   omega
theorem XJ{t:SetTable}(a:Rs t.place){j:Nat}(h:∀i,t.slot j≠ .live i):j∉t.place.toList:=λb=>by
 refine h (SetTable.below t.place j) ?_;unfold SetTable.slot;dsimp only;rw[Mf a b];simp
theorem Bs{t:SetTable}{f:Nat->Int}{h:Int}:∀(fuel:Nat) (p:SetTable.Probe),(∀d,p.dummy=some d->t.slot d=.dummy)->∀j a,SetTable.probe.go t f h fuel p=some (.empty j a)->t.slot j=.empty/\∀d,a=some d->t.slot d=.dummy
 |0,p,_,j,a,e=>by cases e
 |fuel+1,p,g,j,a,e=>by
  unfold SetTable.probe.go at e;have b:∀q:SetTable.Probe,(t.advance q).dummy=q.dummy:=λq=>by
   unfold SetTable.advance;split<;>rfl
  cases c:t.slot p.j with
  |empty=>
   rw[c] at e;cases e;exact⟨c,g⟩
  |dummy=>
   rw[c] at e;exact Bs fuel _ (λd hd=>by
    rw[b] at hd;cases hd;exact c) j a e
  |live i=>
   rw[c] at e;dsimp only at e;split at e
   .cases e
   .exact Bs fuel _ (λd hd=>by rw[b] at hd;exact g d hd) j a e
theorem P1{t:SetTable}(f:Rs t.place){h:Int}{j:Nat}{b:Bool}(e:t.freeSlot h=some (j,b)):j∉t.place.toList:=by
 unfold SetTable.freeSlot at e;split at e
 .rename_i a c g
  obtain⟨h1,h2⟩:=Bs _ _ (λd hd=>by unfold SetTable.probeStart at hd;cases hd) a c g;cases e;refine XJ f λi=>?_;cases c with
  |none=>show t.slot a≠_;rw[h1];intro z;cases z
  |some d=>show t.slot d≠_;rw[h2 d rfl];intro z;cases z
 .cases e
theorem VY(n:Nat):Rs (Array.range n):=by
 unfold Rs;rw[Array.toList_range];exact List.pairwise_lt_range
theorem xT(t:SetTable)(n:Nat):Rs (t.standIn n).place:=VY n
theorem Ut{t:SetTable}(n:Nat)(h:Rs t.place):Rs (t.orStandIn n).place:=by
 unfold SetTable.orStandIn;split
 .exact h
 .exact xT _ _
theorem G2{t:SetTable}(a:Rs t.place)(es:Array (Int×Value))(h:Int)(x:Value):Rs (layNew t es h x).2.1.place:=by
 unfold layNew;split
 .rename_i slot c b
  exact Ut _ (Ri a (P1 a b))
 .exact xT _ _
theorem Se{mask finger moves:Nat}{led plain:Bool}{d:Array Int}{t:SetTable}{o:Array Nat}(h:SetTable.laid mask finger moves led plain d=some (t,o)):Rs t.place:=by
 unfold SetTable.laid at h;obtain⟨w,_,h⟩:=Option.bind_eq_some_iff.mp h;cases h;unfold Rs;dsimp only;rw[jI,List.pairwise_filterMap];refine List.pairwise_lt_range.imp λ {a b} c p e q f=>?_;obtain⟨_,_,rfl⟩:=map_eq_some_iff.mp e;obtain⟨_,_,rfl⟩:=map_eq_some_iff.mp f;exact c
theorem IM(t:SetTable)(es:Array (Int×Value))(n:Nat):Rs (relayAll t es n).2.1.place:=by
 unfold relayAll;split
 .rename_i t' o e
  dsimp only;split
  .exact Se e
  .exact xT _ _
 .exact xT _ _
end SR
namespace SS
theorem Ur(t:SetTable)(n:Nat):(t.orStandIn n).led=t.led:=by
 unfold SetTable.orStandIn;split<;>rfl
theorem Us(t:SetTable)(n:Nat)(h:t.plain=false):(t.orStandIn n).plain=false:=by
 unfold SetTable.orStandIn;split
 .exact h
 .rfl
theorem G0(t:SetTable)(es:Array (Int×Value))(h:Int)(x:Value):(layNew t es h x).2.1.led=t.led:=by
 unfold layNew;split
 .exact Ur _ _
 .rfl
theorem G1(t:SetTable)(es:Array (Int×Value))(h:Int)(x:Value)(a:t.plain=false):(layNew t es h x).2.1.plain=false:=by
 unfold layNew;split
 .exact Us _ _ a
 .rfl
theorem Sd{mask finger moves:Nat}{led plain:Bool}{a:Array Int}{t:SetTable}{o:Array Nat}(h:SetTable.laid mask finger moves led plain a=some (t,o)):t.led=led/\t.plain=plain:=by
 unfold SetTable.laid at h;obtain⟨w,_,h⟩:=Option.bind_eq_some_iff.mp h;cases h;exact⟨rfl,rfl⟩
theorem IL(t:SetTable)(es:Array (Int×Value))(n:Nat):(relayAll t es n).2.1.led=t.led:=by
 unfold relayAll;split
 .rename_i t' o e
  dsimp only;split
  .exact(Sd e).1
  .rfl
 .rfl
def strOf(v:Value):Str:=match v with|.str x _=>x|_=>⟨#[]⟩
def cy(prog:Program)(w:World)(h:Heap)(a:Addr)(es:Array (Int×Value)):Prop:=
 ∃o ep t,h.get? a=some o/\o.ExactSet/\o.data=.set es ep t/\ElemsOf (PySem.strKind prog w) es.toList/\(es.toList.map λe=>strOf e.2).Nodup/\es.size<scanBound/\t.fits es.size=true/\
  t.led= !w.params.followText "set-order"/\SR.Rs t.place
def kC(w:World)(h:Heap)(a:Addr)(es:Array (Int×Value)):Prop:=
 ∃o ep t,h.get? a=some o/\o.ExactSet/\o.data=.set es ep t/\es.size<scanBound/\t.fits es.size=true/\t.led= !w.params.followText "set-order"/\SR.Rs t.place
theorem kC.keeps{w:World}{h h':Heap}{a:Addr}{es:Array (Int×Value)}(S:kC w h a es)(k:∀o,h.get? a=some o->h'.get? a=some o):kC w h' a es:=by
 obtain⟨o,ep,t,b,r⟩:=S;exact⟨o,ep,t,k o b,r⟩
theorem cy.y{prog:Program}{w:World}{h:Heap}{a:Addr}{es:Array (Int×Value)}(S:cy prog w h a es):kC w h a es:=by
 obtain⟨o,ep,t,d,hex,hd,_,_,e,f,b,c⟩:=S;exact⟨o,ep,t,d,hex,hd,e,f,b,c⟩
section
variable{prog:Program}{w:World}{A:Around}{E:aT}{s:Shared}
theorem z8{l:List (Int×Value)}(h:ElemsOf (PySem.strKind prog w) l){e:Int×Value}(a:e∈l):∃t,e.2=.str (strOf e.2) t:=by
 obtain⟨⟨k,b,_⟩,_⟩:=h e a;obtain⟨t,q⟩:=Value.isStrOf_shape b;exact⟨t,by rw[q];rfl⟩
theorem GP{e:Int×Value}{x:Str}(h:∃t,e.2=.str (strOf e.2) t):(PySem.strKind prog w).is x e.2=decide (strOf e.2=x):=by
 obtain⟨t,q⟩:=h;rw[q];show Value.isStrOf x (.str (strOf e.2) t)=decide (strOf (.str (strOf e.2) t)=x);by_cases a:strOf e.2=x
 .rw[dR (by rw[<-a];rfl),a]
  simp[Value.isStrOf]
 .rw[fY (by exact a)]
  simp only[Value.isStrOf];simpa[beq_iff_eq] using λz=>a (by first|exact z.symm|exact z)
theorem add{a:Addr}{es:Array (Int×Value)}{x:Str}{n:Tok}{Q:Bool->Shared->Prop}(hS:cy prog w s.heap a es)(M:es.size+1<scanBound)
  (h:∀h' l b,SameBut a s.heap h'->cy prog w h' a l->(x∈es.toList.map (λe=>strOf e.2)->l=es)->(x∉es.toList.map (λe=>strOf e.2)->l.toList.Perm (es.toList++[((PySem.strKind prog w).hash x,.str x n)]))->Q b {s with heap:=h'}):
  wpAny (model prog w) A (setAddHashed a (.str x n) ((PySem.strKind prog w).hash x)) Q E s:=by
 obtain⟨o,ep,t,V,hex,hd,p,W,hb,hf,v,X⟩:=hS
 have F:(PySem.strKind prog w).is x (.str x n)=true:=by show Value.isStrOf x (.str x n)=true;simp[Value.isStrOf]
 have N:(Value.str x n).scannable=true:=rfl
 unfold setAddHashed setAddHashedIn
 refine eY (ah (oW V hd hf ?_))
 dsimp only
 rw[byScan_of N hb p]
 simp only[↓reduceIte]
 unfold setAddByScan
 refine ah ?_
 refine ah (iR ?_)
 refine ah (wpAny_setScan_of F V hd hf p ?_)
 cases hr:List.findIdx? (λe=>(PySem.strKind prog w).is x e.2) es.toList with
 |some j=>
  dsimp only
  obtain⟨hj,Y,_⟩:=List.findIdx?_eq_some_iff_getElem.mp hr
  have hin:x∈es.toList.map (λe=>strOf e.2):=by
   rw[GP (z8 p (jH hj))] at Y
   exact aJ.mpr ⟨_,jH hj,gy Y⟩
  refine aB (aB ?_)
  have e:s={s with heap:=s.heap}:=by cases s;rfl
  rw[e]
  exact h s.heap es _ (SameBut.refl a s.heap) ⟨o,ep,t,V,hex,hd,p,W,hb,hf,v,X⟩ (λ_=>rfl) λz=>absurd hin z
 |none=>
  dsimp only
  have G:x∉es.toList.map (λe=>strOf e.2):=λz=>by
   obtain⟨e,he,q⟩:=aJ.mp z
   have:=List.findIdx?_eq_none_iff.mp hr e he
   rw[GP (z8 p he),dR q] at this
   exact Bool.noConfusion this
  have AB:∀(b:Bool) {f:Shared} {H:Unit->Shared->Prop},H () f->wpAny (model prog w) A (match b with|true=>rule "set.scan.the-table-gave-way"|false=>pure ()) H E f:=
   λb f H u=>by cases b<;>first|exact aB u|exact iR u
  have d:=layNew_perm t es ((PySem.strKind prog w).hash x) (.str x n)
  have k:=layNew_fits t es ((PySem.strKind prog w).hash x) (.str x n)
  have C:=SR.G2 X es ((PySem.strKind prog w).hash x) (.str x n)
  have D:=G0 t es ((PySem.strKind prog w).hash x) (.str x n)
  have Z:=G1 t es ((PySem.strKind prog w).hash x) (.str x n)
  generalize hL:layNew t es ((PySem.strKind prog w).hash x) (.str x n)=L at d k D Z C ⊢
  obtain⟨c,t1,r,Qd⟩:=L
  dsimp only at d k D Z C ⊢
  rw[toList_push] at d
  have I:ElemsOf (PySem.strKind prog w) c.toList:=(p.push F N).perm d
  have AD:((es.toList++[((PySem.strKind prog w).hash x,Value.str x n)]).map λe=>strOf e.2).Nodup:=by
   rw[dJ]
   refine nv.mpr ⟨W,by simp,λy hy z hz=> ?_⟩
   have hz':z=x:=by simpa[strOf] using hz
   rw[hz']
   rintro rfl
   exact G hy
  have J:(c.toList.map λe=>strOf e.2).Nodup:=(d.map _).nodup_iff.mpr AD
  have hsz1:c.size=es.size+1:=by rw[<-eN,d.length_eq,cJ,eN];rfl
  have B:c.size<scanBound:=by rw[hsz1];exact M
  refine ah (AB _ ?_)
  have fin:∀{g:Bool->Sem Unit} {R:Option Bool->Shared->Prop},(∀(b:Bool) (f:Shared) (H:Unit->Shared->Prop),H () f->wpAny (model prog w) A (g b) H E f)->(∀h',Q true {s with heap:=h'}->R (some true) {s with heap:=h'})->
    ∀i:SetTable,i.fits c.size=true->i.led=t.led->SR.Rs i.place->
    wpAny (model prog w) A (do
     storeSet a c i
     if (!r&&i.tooFull)=true then do
       g (relayAll i c (SetTable.grown c.size)).2.2
       storeSet a (relayAll i c (SetTable.grown c.size)).1 (relayAll i c (SetTable.grown c.size)).2.1
       pure (some true)
      else pure (some true)) R E s:=λ {g R} hg hR i hf2 hl2 hr2=>by
   have go:∀h' l,SameBut a s.heap h'->cy prog w h' a l->l.toList.Perm c.toList->R (some true) {s with heap:=h'}:=λh' l q1 q2 q3=>hR h' (h h' l true q1 q2 (λz=>absurd z G) λ_=>q3.trans d)
   refine ah (yD V hd ?_ (qQ B))
   have O:(s.heap.update a (Obj.putSet c i)).get? a=some {o with data:= .set c (ep+1) i}:=by
    have:=jl (Obj.putSet c i) V (by rw[ny c i hd];rfl)
    rw[ny c i hd] at this;exact this
   have K:=SameBut.update s.heap a (Obj.putSet c i)
   split
   .have P:=relayAll_perm i c (SetTable.grown c.size)
    have S:=relayAll_fits i c (SetTable.grown c.size)
    have T:=SR.IM i c (SetTable.grown c.size)
    have U:=IL i c (SetTable.grown c.size)
    generalize QC:relayAll i c (SetTable.grown c.size)=Rl at P S U T ⊢
    obtain⟨m,t3,Qe⟩:=Rl
    dsimp only at P S U T ⊢
    have hsz:m.size=c.size:=by rw[<-eN,P.length_eq,eN]
    have hb2:m.size<scanBound:=by rw[hsz];exact B
    refine ah (hg _ _ _ ?_)
    refine ah (yD O rfl ?_ (qQ hb2))
    have AA:((s.heap.update a (Obj.putSet c i)).update a (Obj.putSet m t3)).get? a=some {o with data:= .set m (ep+1+1) t3}:=by
     have:=jl (Obj.putSet m t3) O (by rw[ny (ep:=ep+1) (t:=i) m t3 rfl];rfl)
     rw[ny (ep:=ep+1) (t:=i) m t3 rfl] at this;exact this
    refine aB (go _ m (K.trans (SameBut.update _ a _)) ⟨_,_,_,AA,hex,rfl,I.perm P,(P.map _).nodup_iff.mpr J,hb2,S,by rw[U,hl2];exact v,T⟩ P)
   .exact aB (go _ c K ⟨_,_,_,O,hex,rfl,I,J,B,hf2,by rw[hl2];exact v,hr2⟩ .rfl)
  split
  .refine ah ?_
   rw[hashByValue_scannable 8 N]
   refine aB ?_
   simp only[show plainKind (Value.str x n)=false from rfl,jN,gv]
   refine fin ?_ ?_ {t1 with plain:=false} (SetTable.fits_plain_off k) D C
   .intro b f H u;cases b<;>first|exact aB u|exact iR u
   .exact λh' u=>aB u
  .rename_i P
   refine ah (aB ?_)
   simp only[↓reduceIte]
   refine fin ?_ ?_ t1 k D C
   .intro b f H u;cases b<;>first|exact aB u|exact iR u
   .exact λh' u=>aB u
end
abbrev names(es:Array (Int×Value)):List Str:=es.toList.map λe=>strOf e.2
theorem cy.keeps{prog:Program}{w:World}{h h':Heap}{a:Addr}{es:Array (Int×Value)}(S:cy prog w h a es)(k:∀o,h.get? a=some o->h'.get? a=some o):cy prog w h' a es:=by
 obtain⟨o,ep,t,b,r⟩:=S;exact⟨o,ep,t,k o b,r⟩
section
variable{prog:Program}{w:World}{A:Around}{R:Result->Shared->Prop}{I:Addr}{fp wr:List Addr}{G:Array GenState->Array GenState->Prop}{n:Nat}{P:Nat->Value->Prop}{St:Nat->Shared->Prop}
theorem loop(W:WalksS prog w A.in1 I fp wr G n P St)(S:Addr)(q:S∉fp)(val:Nat->Str)(r:∀i v,P i v->∃t,v=.str (val i) t)(m:n+1<scanBound):
  ∀(k i:Nat) (s:Shared) (es:Array (Int×Value)),n - i=k->i<=n->St i s->cy prog w s.heap S es->es.size<=i->(∀x,x∈names es↔∃j,j<i/\val j=x)->
   (∀s' c,Moved (S::wr) G s s'->cy prog w s'.heap S c->c.size<=n->(∀x,x∈names c↔∃j,j<n/\val j=x)->R (.ok (.ret .none)) s')->
   codeAny (model prog w) A (.builtin "set.update.loop" ⟨[.ref S,.ref I],[]⟩) R s:=by
 have u:S∉wr:=λh=>q (W.sub _ h);have f:∀b∈wr,b∈S::wr:=λb m=>bq _ m;intro k;induction k with
 |zero=>
  intro i s es hk hi g L hsz d M;have N:i=n:=by omega
  subst N;refine gJ yk ?_;rw[iS qE _];show wpAny _ A.in1 (pyNext (.ref I)>>=_) _ _ s;refine ah (W.done s _ _ g λs' B=>?_);show wpAny _ A.in1 (ret Value.none) _ _ s';exact aB (M s' es (B.mono f) (L.keeps λo O=>B.heap S _ u O) hsz d)
 |succ k ih=>
  intro i s es hk hi g L hsz d M;have C:i<n:=by omega
  refine gJ yk ?_;rw[iS qE _];show wpAny _ A.in1 (pyNext (.ref I)>>=_) _ _ s;refine ah (W.item i s _ _ C g λv s' hP D B=>?_);obtain⟨t,rfl⟩:=r i v hP;have Q:cy prog w s'.heap S es:=L.keeps λo O=>B.heap S _ u O;show wpAny _ A.in1 (holding [Value.str (val i) t] (setAdd S (.str (val i) t))>>=_) _ _ s';refine ah (eY ?_);unfold setAdd;refine eY ?_;refine ah ((PySem.strKind prog w).pyHash (k:=val i) (by show Value.isStrOf (val i) (.str (val i) t)=true;simp[Value.isStrOf]) ?_);refine add (s:={s' with toks:=s'.toks+1}) Q (by omega) λh' c b E T Y Z=>?_;have F:c.size<=i+1:=by
   by_cases p:val i∈es.toList.map (λe=>strOf e.2)
   .rw[Y p];omega
   .rw[<-eN,(Z p).length_eq,cJ,eN]
    simp only[gi,nk];omega
  have l:∀x,x∈names c↔∃j,j<i+1/\val j=x:=λx=>by
   have e1:x∈names c↔x∈names es\/x=val i:=by
    by_cases p:val i∈es.toList.map (λe=>strOf e.2)
    .rw[Y p]
     exact⟨.inl,λz=>z.elim id λe=>e▸p⟩
    .have hp:=((Z p).map λe=>strOf e.2).mem_iff (a:=x)
     rw[dJ,bU] at hp;refine hp.trans ⟨λz=>z.imp id λy=>by simpa[strOf] using y,λz=>z.imp id λy=>by simpa[strOf] using y⟩
   rw[e1,d x];constructor
   .rintro (⟨j,hj,e⟩|rfl)
    .exact⟨j,by omega,e⟩
    .exact⟨i,by omega,rfl⟩
   .rintro ⟨j,hj,e⟩
    by_cases U:j=i
    .exact .inr (by rw[<-e,U])
    .exact .inl ⟨j,by omega,e⟩
  refine aB ⟨jJ qE _,ih (i+1) _ c (by omega) C (W.frame _ s' _ _ D (lW _) λb m o e=>?_) T F l λV H J K hz X=>?_⟩
  .rw[E.2 b (λh:b=S=>q (by rw[<-h];exact m))];exact e
  .refine M V H (Moved.trans W.gtrans ((B.mono f).then_heap (lW _) λb o m e=>?_) J) K hz X
   rw[E.2 b (λh:b=S=>m (by rw[h];exact aU))];exact e
end
section
variable{prog:Program}{w:World}{A:Around}{E:aT}{s:Shared}
abbrev Sj(w:World):Bool:= !w.params.followText "set-order"
abbrev dh(w:World):Obj:={cls:=.type "set",dict:=none,data:=.set #[] 0 (.fresh 0 0 (Sj w))}
theorem code_set_new(a:Value){Q₁:aT}(h:Q₁ (.ref s.heap.objs.size) {s with heap:=s.heap.push (dh w)}):
  codeAny (model prog w) A (.call (.builtin "set.__new__") ⟨[.type "set",a],[]⟩) (wants Q₁ E) s:=by
 refine uB ?_;show wpAny _ A.in1 (do checkBuiltinCall "set.__new__" ⟨[.type "set",a],[]⟩;again (.builtin "set.__new__" ⟨[.type "set",a],[]⟩)) _ _ s;refine ah (wpAny_of_eq (PySem.F.newCall_set_1 a) (aB ⟨jJ PySem.F.plain_set_new _,gJ PySem.F.entry_set_new ?_⟩));rw[iS PySem.F.plain_set_new _];unfold Builtin.«set.__new__» Builtin.Frozenset.newClass;have b:=sub_set_self;obtain⟨c,g,d,e,os⟩:=s;dsimp only;wp_walk;refine wpAny_askSetting (aB ?_);dsimp only;simp only[newObj];refine ah (wpAny_alloc (aB ?_));exact aB h
theorem cy.fresh{h:Heap}{a:Addr}(b:h.get? a=some (dh w)):cy prog w h a #[]:=
 ⟨_,_,_,b,⟨rfl,rfl,rfl⟩,rfl,λe c=>by simp at c,by simp,by decide,by rfl,rfl,Pairwise.nil⟩
theorem zI{l:Addr}{items:Array Value}{val:Nat->Str}{Q:aT}
  (hh:A.handled=none)(hl:s.heap.IsList l items)(hi:∀(i:Nat) (v:Value),items[i]? =some v->∃t:Tok,v=Value.str (val i) t)(J:items.size+1<scanBound)
  (h:∀(h':Heap) (K:Nat) (es:Array (Int×Value)),cy prog w h' s.heap.objs.size es->es.size<=items.size->(∀x,x∈names es↔∃j,j<items.size/\val j=x)->
   (∀b o,b<s.heap.objs.size->s.heap.get? b=some o->h'.get? b=some o)->Q (.ref s.heap.objs.size) {s with heap:=h',toks:=K}):
  wpAny (model prog w) A (call (.type "set") [.ref l]) Q E s:=by
 obtain⟨c,tl,Gw⟩:=eO.mro
 have M:=eO.made
 have hsub:=eO.sub
 refine wpAny_call (uB ?_)
 show wpAny _ _ (callAny (.type "set") _) _ _ _
 refine aB ⟨Code.quiet_builtin _ (by decide+kernel),gJ CB ?_⟩
 rw[Around.under_plain (Cu "set" [.ref l] []) rfl]
 have h1:=eO.notType
 have h2:=eO.canCreate
 have hct:=typeCall_set_1 (.ref l)
 repeat (any_goals (first|assumption|wp_step))
 refine lu (code_set_new (.ref l) (E:=E) (Q₁:=λobj f=>obj= .ref s.heap.objs.size/\f={s with heap:=s.heap.push (dh w)}) ⟨rfl,rfl⟩) λr f N=> ?_
 cases r with
 |error e=>exact N
 |ok fl=>
  cases fl with
  |ret obj=>
   obtain⟨rfl,rfl⟩:=N
   have hS:(s.heap.push (dh w)).get? s.heap.objs.size=some (dh w):=b9 _ rfl
   have hT:Shared.TypeIs {s with heap:=s.heap.push (dh w)} (.ref s.heap.objs.size) "set":=⟨_,hS,rfl⟩
   have hli:=eO.init.lookup
   have hbi:=eO.init.bind (.ref s.heap.objs.size)
   repeat (any_goals (first|assumption|wp_step))
   refine lu (CK (R:=wants (λr g=>r= .none/\∃h' K es,g={s with heap:=h',toks:=K}/\
     cy prog w h' s.heap.objs.size es/\es.size<=items.size/\(∀x,x∈names es↔∃j,j<items.size/\val j=x)/\
     (∀b o,b<s.heap.objs.size->s.heap.get? b=some o->h'.get? b=some o)) E) eO.init.plain entry_set_init (check_set_init_1 hT ?_)) λu g a=> ?_
   .obtain⟨ol,y,B,nl,C⟩:=hl
    obtain⟨HQ,k,O,d⟩:=ol
    simp only at B C
    subst B;subst C
    have D:(s.heap.push (dh w)).get? l=some {cls:= .type "list",dict:=k,data:= .seq items nl,slots:=d}:=bg _ y
    have GA:=sub_list_set
    have Gz:=PySem.F.sub_list_frozenset
    have hne:(Value.type "list" ==Value.type "dict")=false:=by decide
    have G:(s.heap.push (dh w)).IsList l items:=⟨_,D,rfl,nl,rfl⟩
    unfold Builtin.«set.__init__» noKeywords Builtin.Frozenset.updateFrom
    generalize P:pyIter=PI
    wp_walk
    subst P
    refine oV G ?_
    refine ah (uq ?_)
    have H:l<s.heap.objs.size:=aR y
    have S:A.in1.in1.in1.handled=none:=by simp[hh]
    have I:l≠(s.heap.push (dh w)).objs.size:=by
     rw[eW];exact bx (fX H)
    have T:s.heap.objs.size∉[(s.heap.push (dh w)).objs.size,l]:=by
     rw[eW];simp only[aY,bE,fD,fE,not_or]
     exact⟨bx (k8 _),j9 H⟩
    refine loop ((Walks.list S _ l I items).toS) s.heap.objs.size T val (λi v hv=>hi i v hv) J (items.size - 0) 0 _ #[] (by omega) (bP _)
     ⟨⟨_,b9 _ rfl,rfl,rfl⟩,(G.push _)⟩ ?lI (aF _) (λx=>⟨λz=>by simp[names] at z,λ⟨j,hj,_⟩=>absurd hj (qD _)⟩) ?hR
    case lI=>exact cy.fresh (bg _ hS)
    case hR=>
     intro s' U L m n p
     obtain⟨h',g',d',V,W⟩:=s'
     have eg:g'=s.gens:=L.gens
     have ed:d'=s.drawn:=L.drawn
     have eo:W=s.os:=L.os
     subst eg;subst ed;subst eo
     show wpAny _ _ _ _ _ _
     refine aB ?_
     show wpAny _ _ (ret Value.none) _ _ _
     refine aB ⟨rfl,h',V,U,rfl,m,n,p,λb o J e=> ?_⟩
     have X:b≠s.heap.objs.size:=bx J
     have Y:b≠(s.heap.push (dh w)).objs.size:=by
      rw[eW];exact bx (fX J)
     exact L.heap b o (by simp only[aY,bE,fD,fE,not_or];exact⟨X,Y⟩) (bg _ (bg _ e))
   .cases u with
    |error e=>exact a
    |ok q=>
     cases q with
     |ret r=>
      obtain⟨rfl,h',K,es,rfl,m,n,p,Z⟩:=a
      repeat (any_goals (first|assumption|wp_step))
      exact h _ _ es m n p Z
     |_=>exact a.elim
  |_=>exact N.elim
end
theorem Kq:Slot "set" "__iter__" "set.__iter__":=
 .of (owner:="set") (n:="__iter__") (by rw[oQ,o5];kernel_rfl) (by decide+kernel) (by decide+kernel) (by decide+kernel)
  (by first|exact .inl (by decide+kernel)|exact .inr (by decide+kernel)) (by rw[isSubtype_type];kernel_rfl)
theorem slot_next:Slot "set_iterator" "__next__" "set_iterator.__next__":=
 .of (owner:="set_iterator") (n:="__next__") (by rw[oQ,o5];kernel_rfl) (by decide+kernel) (by decide+kernel) (by decide+kernel)
  (by first|exact .inl (by decide+kernel)|exact .inr (by decide+kernel)) (by rw[isSubtype_type];kernel_rfl)
theorem Kr:Slot "set_iterator" "__iter__" "set_iterator.__iter__":=
 .of (owner:="set_iterator") (n:="__iter__") (by rw[oQ,o5];kernel_rfl) (by decide+kernel) (by decide+kernel) (by decide+kernel)
  (by first|exact .inl (by decide+kernel)|exact .inr (by decide+kernel)) (by rw[isSubtype_type];kernel_rfl)
theorem Oc:entryFor table "set.__iter__"=some Builtin.«frozenset.__iter__»:=
 entryFor_alias (id':="frozenset.__iter__") (by kernel_rfl) (by first|rfl|decide+kernel) (by decide+kernel) (by kernel_rfl)
theorem entry_next:entryFor table "set_iterator.__next__"=some Builtin.«set_iterator.__next__»:=entryFor_of_fast (by kernel_rfl)
theorem L7(a:Value):argsOk "set.__iter__" ⟨[a],[]⟩:=by unfold argsOk;kernel_rfl
theorem args_next(a:Value):argsOk "set_iterator.__next__" ⟨[a],[]⟩:=by unfold argsOk;kernel_rfl
theorem Zd{M:Model}{A:Around}{E:aT}{s:Shared}{src:Source}{n:Nat}{Q:Nat->Shared->Prop}(a:n≠0)(h:∀i d,i<n->Q i {s with drawn:=d}):wpAny M A (choose src n) Q E s:=λb p _=>by
 unfold choose;rw[Sem.wp_choose];exact⟨a,h _ _ (Nat.mod_lt _ (Nat.pos_of_ne_zero a))⟩
theorem Bm{α:Type}:∀(xs:List α) (i:Nat) (x:α),xs[i]?=some x->xs.Perm (x::xs.eraseIdx i)
 |[],i,x,h=>by simp at h
 |y::r,0,x,h=>by
  simp at h;subst h;simp
 |y::r,i+1,x,h=>by
  simp only[CD] at h;have:=Bm r i x h;simp only[List.eraseIdx_cons_succ];exact(this.cons y).trans (Perm.swap x y _)
section
variable{M:Model}{A:Around}{E:aT}{s:Shared}
theorem Fv{α:Type}:∀(n:Nat) (xs:List α) (s:Shared) (Q:List α->Shared->Prop),n=xs.length->(∀ys d,ys.Perm xs->Q ys {s with drawn:=d})->wpAny M A (drawOrder n xs) Q E s
 |0,xs,s,Q,a,h=>by
  cases xs with
  |nil=>unfold drawOrder;exact aB (h [] s.drawn .nil)
  |cons x r=>simp at a
 |n+1,[],s,Q,a,h=>by simp at a
 |n+1,x::r,s,Q,a,h=>by
  unfold drawOrder;refine ah (Zd (by simp) λi d hi=>?_);have e:(x::r)[i]?=some ((x::r)[i]'hi):=a_ hi;rw[e];dsimp only;have b:=Bm (x::r) i _ e;refine ah (Fv n _ _ _ ?_ λys d' c=>aB ?_)
  .have:=b.length_eq
   simp only[gi] at this a ⊢;omega
  .exact h _ d' ((c.cons _).trans b.symm)
end
theorem Ic{α:Type}(next:Nat->Nat):∀(fuel k:Nat) (left:List α) (out:Array α),fuel=left.length->(pickOrder.go next fuel k left out).toList.Perm (out.toList++left)
 |0,k,left,out,h=>by
  cases left with
  |nil=>unfold pickOrder.go;simp
  |cons x r=>simp at h
 |fuel+1,k,[],out,h=>by simp at h
 |fuel+1,k,x::r,out,h=>by
  unfold pickOrder.go;have hi:next k%(x::r).length<(x::r).length:=Nat.mod_lt _ (by simp);have e:(x::r)[next k%(x::r).length]?=some ((x::r)[next k%(x::r).length]'hi):=a_ hi;rw[e];dsimp only;have a:=Bm (x::r) _ _ e;refine(Ic next fuel (k+1) _ _ ?_).trans ?_
  .have:=a.length_eq
   simp only[gi] at this h ⊢;omega
  .rw[toList_push,List.append_assoc]
   exact Perm.append_left _ a.symm
theorem U_{α:Type}(next:Nat->Nat)(xs:Array α):(pickOrder next xs).toList.Perm xs.toList:=by
 unfold pickOrder;exact(Ic next xs.size 0 xs.toList #[] (by simp)).trans (by simp)
def gz(h:Heap)(it a:Addr)(first:Value)(i n ep:Nat):Prop:=∃o,h.get? it=some o/\o.cls=.type "set_iterator"/\o.data=.fields #[first,.int i 0,.ref a,.int n 0,.int ep 0]
def jr(h:Heap)(a:Addr)(es:Array (Int×Value))(ep:Nat)(t:SetTable):Prop:=∃o,h.get? a=some o/\o.data=.set es ep t/\t.fits es.size=true
section
variable{prog:Program}{w:World}{A:Around}{E:aT}{s:Shared}{it a:Addr}{es:Array (Int×Value)}{ep:Nat}{t:SetTable}
theorem gz.typeIs{first:Value}{i n:Nat}(h:gz s.heap it a first i n ep):s.TypeIs (.ref it) "set_iterator":=by
 obtain⟨o,h1,h2,_⟩:=h;exact⟨o,h1,h2⟩
theorem gz.put{first v:Value}{i n k:Nat}{h:Heap}(x:gz h it a first i n ep)(o:Obj)(b:h.get? it=some o):(h.update it (Obj.mapFields (·.setIfInBounds k v))).get? it=some (o.mapFields (·.setIfInBounds k v)):=by
 obtain⟨o',h1,h2,c⟩:=x;rw[h1] at b;cases b;exact jl _ h1 (CH (mh c _))
theorem HF{slot:Int}{i:Nat}{x:Value}{nx:Nat}{Q:Option Value->Shared->Prop}(hi:gz s.heap it a (.int slot 0) i es.size ep)(f:jr s.heap a es ep t)
  (g:∀(A:Around) (Q:Option (Value×Nat)->Shared->Prop) (E:aT),Q (some (x,nx)) s->wpAny (model prog w) A (setNext a slot.toNat i ep) Q E s)
  (h:∀h',gz h' it a (.int nx 0) (i+1) es.size ep->SameBut it s.heap h'->Q (some x) {s with heap:=h'}):wpAny (model prog w) A (pyNext (.ref it)) Q E s:=by
 obtain⟨o,c,hc,hd⟩:=id hi
 obtain⟨os,d,e,j⟩:=f
 unfold pyNext
 refine ah (qJ (oR (name:=Str.ofString "__next__") hi.typeIs slot_next (jj slot_next hi.typeIs entry_next ?_ (args_next _))))
 show wpAny _ _ (fieldsOf (.ref it)>>=_) _ _ s
 refine ah (yy c hd ?_)
 show wpAny _ _ (setEntries a>>=_) _ _ s
 refine ah (uu d e j ?_)
 simp only[nD,jN,gv]
 refine ah (g _ _ _ ?_)
 dsimp only
 refine ah (qK c hd (by simp) ?_)
 have b:=hi.put (k:=0) (v:=rawInt nx) o c
 refine ah (qK b (mh hd _) (by simp) (aB ⟨x,rfl,aB (h _ ?_ ((SameBut.update ..).trans (SameBut.update ..)))⟩))
 refine⟨_,jl _ b (CH (mh (mh hd _) _)),(Obj.cls_mapFields ..).trans ((Obj.cls_mapFields ..).trans hc),?_⟩
 rw[mh (mh hd _)]
 simp[rawInt]
end
theorem Od:entryFor table "set_iterator.__iter__"=some Builtin.«dict_keyiterator.__iter__»:=
 entryFor_alias (id':="dict_keyiterator.__iter__") (by kernel_rfl) (by first|rfl|decide+kernel) (by decide+kernel) (by kernel_rfl)
theorem L8(a:Value):argsOk "set_iterator.__iter__" ⟨[a],[]⟩:=by unfold argsOk;kernel_rfl
section
variable{prog:Program}{w:World}{A:Around}{E:aT}{s:Shared}{it a:Addr}{es:Array (Int×Value)}{ep:Nat}{t:SetTable}
theorem AI{first:Value}{i n:Nat}{Q:aT}(hi:gz s.heap it a first i n ep)(h:Q (.ref it) s):wpAny (model prog w) A (pyIter (.ref it)) Q E s:=by
 refine wpAny_pyIter_slot hi.typeIs Kr (jj Kr hi.typeIs Od ?_ (L8 _));show wpAny _ _ (ret (.ref it)) _ _ s;exact aB ⟨_,rfl,"set_iterator",_,hi.typeIs,slot_next.lookup,h⟩
theorem FF{slot:Int}{i:Nat}{Q:Option Value->Shared->Prop}(f:A.handled=none)(hi:gz s.heap it a (.int slot 0) i es.size ep)(g:jr s.heap a es ep t)
  (h:∀(A:Around) (Q:Option (Value×Nat)->Shared->Prop) (E:aT),Q none s->wpAny (model prog w) A (setNext a slot.toNat i ep) Q E s)
  (j:∀h',ExtBut it s.heap h'->Q none {s with heap:=h'}):wpAny (model prog w) A (pyNext (.ref it)) Q E s:=by
 obtain⟨o,e,hc,hd⟩:=id hi
 obtain⟨os,c,d,k⟩:=g
 unfold pyNext
 refine ah (qJ (oR (name:=Str.ofString "__next__") hi.typeIs slot_next (jj slot_next hi.typeIs entry_next ?_ (args_next _))))
 show wpAny _ _ (fieldsOf (.ref it)>>=_) _ _ s
 refine ah (yy e hd ?_)
 show wpAny _ _ (setEntries a>>=_) _ _ s
 refine ah (uu c d k ?_)
 simp only[nD,jN,gv]
 refine ah (h _ _ _ ?_)
 dsimp only
 refine ah (qK e hd (by simp) ?_)
 show wpAny _ _ (newExc (.type "StopIteration") []>>=_) _ _ _
 refine ah ?_
 simp only[newExc,newTuple]
 refine ah (gH ?_ (by size_fits))
 refine ah (m:=firstArgMember _ _) (wpAny_of_eq (a:=Value.none) (by first|rfl|(simp only[firstArgMember];rfl)) ?_)
 refine gH ?_ (by size_fits)
 simp only[raiseNew]
 refine ah (wpAny_handled ?_)
 rw[show A.in1.handled=none from f]
 refine ah (aB (wpAny_throw ?_))
 refine ah (yz (T:="StopIteration") (b:=true) ⟨_,b9 _ rfl,rfl⟩ isSubtype_stop ?_)
 exact aB (j _ (((SameBut.update ..).extBut.push _).push _))
theorem Tc{d:Addr}{ps:List Nat}{i p:Nat}{h0:Int}{x:Value}{Q:Option Value->Shared->Prop}(hi:gz s.heap it a (.ref d) i es.size ep)(k:jr s.heap a es ep t)
  (l:∃o n,s.heap.get? d=some o/\o.data= .seq ((ps.map λ(i:Nat)=>rawInt i).toArray) n)(m:ps[i]? =some p)(q:es[p]? =some (h0,x))
  (r:∀h',gz h' it a (.ref d) (i+1) es.size ep->SameBut it s.heap h'->Q (some x) {s with heap:=h'}):wpAny (model prog w) A (pyNext (.ref it)) Q E s:=by
 obtain⟨o,f,hc,hd⟩:=id hi
 obtain⟨os,b,c,j⟩:=k
 obtain⟨u,v,g,h⟩:=l
 unfold pyNext
 refine ah (qJ (oR (name:=Str.ofString "__next__") hi.typeIs slot_next (jj slot_next hi.typeIs entry_next ?_ (args_next _))))
 show wpAny _ _ (fieldsOf (.ref it)>>=_) _ _ s
 refine ah (yy f hd ?_)
 show wpAny _ _ (setEntries a>>=_) _ _ s
 refine ah (uu b c j ?_)
 simp only[nD,jN,gv]
 refine ah (ur g h ?_)
 have e:((ps.map λ(i:Nat)=>rawInt i).toArray)[((i:Int)).toNat]? =some (Value.int (p:Int) 0):=by
  simp[m,rawInt]
 dsimp only
 rw[e]
 dsimp only
 refine ah ?_
 unfold setNextDrawn
 refine ah (oW b c j ?_)
 dsimp only
 simp only[qI,nD,jN,gv]
 rw[q]
 refine aB ?_
 refine ah (qK f hd (by simp) (aB ⟨x,rfl,aB (r _ ?_ (SameBut.update ..))⟩))
 refine⟨_,jl _ f (CH (mh hd _)),(Obj.cls_mapFields ..).trans hc,?_⟩
 rw[mh hd]
 simp[rawInt]
theorem Oa{l:Addr}{ps:List Nat}{i:Nat}{Q:Option Value->Shared->Prop}(p:A.handled=none)(hi:gz s.heap it a (.ref l) i es.size ep)(q:jr s.heap a es ep t)
  (r:∃o n,s.heap.get? l=some o/\o.data= .seq ((ps.map λ(i:Nat)=>rawInt i).toArray) n)(u:ps[i]? =none)
  (x:∀h',ExtBut it s.heap h'->Q none {s with heap:=h'}):wpAny (model prog w) A (pyNext (.ref it)) Q E s:=by
 obtain⟨o,c,hc,hd⟩:=id hi
 obtain⟨os,d,f,y⟩:=q
 obtain⟨z,B,g,h⟩:=r
 unfold pyNext
 refine ah (qJ (oR (name:=Str.ofString "__next__") hi.typeIs slot_next (jj slot_next hi.typeIs entry_next ?_ (args_next _))))
 show wpAny _ _ (fieldsOf (.ref it)>>=_) _ _ s
 refine ah (yy c hd ?_)
 show wpAny _ _ (setEntries a>>=_) _ _ s
 refine ah (uu d f y ?_)
 simp only[nD,jN,gv]
 refine ah (ur g h ?_)
 have e:((ps.map λ(i:Nat)=>rawInt i).toArray)[((i:Int)).toNat]? =none:=by
  simp only[qI,List.getElem?_toArray,cu,u,Option.map_none]
 dsimp only
 rw[e]
 dsimp only
 refine ah (qK c hd (by simp) ?_)
 have j:=hi.put (k:=0) (v:=rawInt 0) o c
 refine ah (qK j (mh hd _) (by simp) ?_)
 show wpAny _ _ (newExc (.type "StopIteration") []>>=_) _ _ _
 refine ah ?_
 simp only[newExc,newTuple]
 refine ah (gH ?_ (by size_fits))
 refine ah (m:=firstArgMember _ _) (wpAny_of_eq (a:=Value.none) (by first|rfl|(simp only[firstArgMember];rfl)) ?_)
 refine gH ?_ (by size_fits)
 simp only[raiseNew]
 refine ah (wpAny_handled ?_)
 rw[show A.in1.handled=none from p]
 refine ah (aB (wpAny_throw ?_))
 refine ah (yz (T:="StopIteration") (b:=true) ⟨_,b9 _ rfl,rfl⟩ isSubtype_stop ?_)
 exact aB (x _ ((((SameBut.update ..).trans (SameBut.update ..)).extBut.push _).push _))
end
section
variable{prog:Program}{w:World}{A:Around}{E:aT}{s:Shared}{it a:Addr}{es:Array (Int×Value)}{ep:Nat}{t:SetTable}
theorem uX{Q:Bool->Shared->Prop}(h:Q (w.params.followText "set-order") s):wpAny (model prog w) A setsByText Q E s:=by
 unfold setsByText;exact ah (wpAny_askSetting (aB h))
theorem jr.keep{h h':Heap}(x:jr h a es ep t)(k:∀o,h.get? a=some o->h'.get? a=some o):jr h' a es ep t:=by
 obtain⟨o,e,r⟩:=x;exact⟨o,k o e,r⟩
theorem gz.keep{h h':Heap}{first:Value}{i n:Nat}(x:gz h it a first i n ep)(k:∀o,h.get? it=some o->h'.get? it=some o):gz h' it a first i n ep:=by
 obtain⟨o,e,r⟩:=x;exact⟨o,k o e,r⟩
theorem nextT{slot i:Nat}{Q:Option (Value×Nat)->Shared->Prop}(d:w.params.followText "set-order"=true)(g:jr s.heap a es ep t)
  (h:Q (((pickOrder (w.params.setOrder a ep) es)[i]?).map λe=>(e.2,slot)) s):wpAny (model prog w) A (setNext a slot i ep) Q E s:=by
 obtain⟨os,b,c,f⟩:=g;unfold setNext;refine ah (oW b c f ?_);dsimp only;refine ah (uX ?_);rw[d,aA rfl];simp only[nD,jN,gv];refine ah ?_;unfold setWalk;refine ah (oW b c f ?_);dsimp only;refine ah (uX ?_);rw[d,aA rfl];exact ah (wpAny_askSetting (aB (aB h)))
theorem Zc(p:w.params.followText "set-order"=true)(r:A.handled=none)(l:a≠it):
  Walks prog w A it [it,a] [it] ((pickOrder (w.params.setOrder a ep) es).toList.map (·.2)).length (λi v=>((pickOrder (w.params.setOrder a ep) es).toList.map (·.2))[i]? =some v) (λi h=>gz h it a (.int 0 0) i es.size ep/\jr h a es ep t) where
 sub:=λb d=>by simp at d;simp[d]
 frame:=λ_ _ _ st q=>⟨st.1.keep λo e=>q it (by simp) o e,st.2.keep λo e=>q a (by simp) o e⟩
 item:=λi s Q E hi st f=>by
  have c:i<(pickOrder (w.params.setOrder a ep) es).size:=by simpa using hi
  have k:(pickOrder (w.params.setOrder a ep) es)[i]? =some ((pickOrder (w.params.setOrder a ep) es)[i]'c):=fc c
  refine HF (slot:=0) (x:=((pickOrder (w.params.setOrder a ep) es)[i]'c).2) (nx:=0) st.1 st.2 (λA' u y m=>nextT p st.2 (by rw[k];exact m)) λh' g j=> ?_
  refine f _ h' s.toks ?_ ⟨g,st.2.keep λo e=>(j.2 a l).trans e⟩ λb o d e=>(j.2 b λz=>d (by simp[z])).trans e
  rw[cu,qq,k];rfl
 done:=λs Q E st f=>by
  have k:(pickOrder (w.params.setOrder a ep) es)[((pickOrder (w.params.setOrder a ep) es).toList.map (·.2)).length]? =none:=by simp
  exact FF (slot:=0) r st.1 st.2 (λA' u y m=>nextT p st.2 (by rw[k];exact m)) λh' n=>f h' s.toks λb o d e=>n b o (λz=>d (by simp[z])) e
 self:=λ_ _ _ _ st f=>AI st.1 f
theorem Za{g:Addr}{ps:List Nat}(D:A.handled=none)(m:a≠it)(q:g≠it)(u:ps.Perm (range es.size)):
  Walks prog w A it [it,a,g] [it] (ps.map λp=>((es[p]?).getD (0,.none)).2).length (λi v=>(ps.map λp=>((es[p]?).getD (0,.none)).2)[i]? =some v)
   (λi h=>gz h it a (.ref g) i es.size ep/\jr h a es ep t/\∃o n,h.get? g=some o/\o.data= .seq ((ps.map λ(i:Nat)=>rawInt i).toArray) n) where
 sub:=λb j=>by simp at j;simp[j]
 frame:=λ_ _ _ st x=>⟨st.1.keep λo e=>x it (by simp) o e,st.2.1.keep λo e=>x a (by simp) o e,by obtain⟨o,n,e,r⟩:=st.2.2;exact⟨o,n,x g (by simp) o e,r⟩⟩
 item:=λi s Q E hi st k=>by
  have c:i<ps.length:=by simpa using hi
  have B:ps[i]? =some (ps[i]'c):=a_ c
  have d:(ps[i]'c)<es.size:=mem_range.mp (u.mem_iff.mp (jH c))
  have C:es[ps[i]'c]? =some ((es[ps[i]'c]'d).1,(es[ps[i]'c]'d).2):=fc d
  refine Tc st.1 st.2.1 st.2.2 B C λh' l f=> ?_
  refine k _ h' s.toks ?_ ⟨l,st.2.1.keep λo e=>(f.2 a m).trans e,by obtain⟨o,n,e,r⟩:=st.2.2;exact⟨o,n,(f.2 g q).trans e,r⟩⟩ λb o j e=>(f.2 b λz=>j (by simp[z])).trans e
  rw[cu,B]
  simp only[map_some,C,getD_some]
 done:=λs Q E st k=>by
  exact Oa D st.1 st.2.1 st.2.2 (by simp) λh' y=>k h' s.toks λb o j e=>y b o (λz=>j (by simp[z])) e
 self:=λ_ _ _ _ st k=>AI st.1 k
end
section
variable{prog:Program}{w:World}{A:Around}{E:aT}{s:Shared}{it a:Addr}{es:Array (Int×Value)}{ep:Nat}{t:SetTable}
theorem U0{ps:List Nat}(a:ps.Perm (range es.size)):(ps.map λp=>((es[p]?).getD (0,.none)).2).Perm (es.toList.map (·.2)):=by
 refine(a.map _).trans ?_;have:((range es.size).map λp=>((es[p]?).getD (0,.none)).2)=es.toList.map (·.2):=by
  apply qP;intro i;simp only[cu,qq];by_cases hi:i<es.size
  .rw[List.getElem?_range hi,fc hi]
   simp[fc hi]
  .rw[o7 (by simpa using hi),t_ (by omega)];rfl
 rw[this]
theorem HE{slot i:Nat}{Q:Option (Value×Nat)->Shared->Prop}(d:w.params.followText "set-order"=false)(e:t.led=true)(hz:(!t.plain&&decide (es.size>1))=false)(f:jr s.heap a es ep t)
  (h:Q (match es[SetTable.below t.place slot]?,t.place[SetTable.below t.place slot]? with|some (_,x),some j=>some (x,j+1)|_,_=>none) s):wpAny (model prog w) A (setNext a slot i ep) Q E s:=by
 obtain⟨os,b,c,g⟩:=f;unfold setNext;refine ah (oW b c g ?_);dsimp only;refine ah (uX ?_);rw[d,ao (by decide)];show wpAny _ _ (if (!t.plain&&decide (es.size>1))=true then _ else _) _ _ _;rw[hz,ao (by decide)];show wpAny _ _ ((if (!t.led&& !es.isEmpty)=true then _ else _)>>=_) _ _ _;rw[e,ao (by simp)];exact ah (aB (aB h))
theorem Zb(u:w.params.followText "set-order"=false)(y:t.led=true)(hz:(!t.plain&&decide (es.size>1))=false)(m:t.fits es.size=true)(c:SR.Rs t.place)(D:A.handled=none)(n:a≠it):
  Walks prog w A it [it,a] [it] (es.toList.map (·.2)).length (λi v=>(es.toList.map (·.2))[i]? =some v) (λi h=>gz h it a (.int (if i=0 then 0 else t.place.getD (i - 1) 0+1:Nat) 0) i es.size ep/\jr h a es ep t) where
 sub:=λb f=>by simp at f;simp[f]
 frame:=λ_ _ _ st B=>⟨st.1.keep λo e=>B it (by simp) o e,st.2.keep λo e=>B a (by simp) o e⟩
 item:=λi s Q E hi st g=>by
  have d:i<es.size:=by simpa using hi
  have F:t.place.size=es.size:=by simp only[SetTable.fits,lg,beq_iff_eq] at m;exact m.1
  have C:es[i]? =some (es[i]'d):=fc d
  have G:t.place[i]? =some (t.place.getD i 0):=SR.F_ (by omega)
  have p:SetTable.below t.place (if i=0 then 0 else t.place.getD (i - 1) 0+1)=i:=by
   by_cases z:i=0
   .rw[aA z,SR.Ea c,z]
   .rw[ao z,SR.D_ c (by omega)];omega
  refine HF (slot:=((if i=0 then 0 else t.place.getD (i - 1) 0+1:Nat):Int)) (x:=(es[i]'d).2) (nx:=t.place.getD i 0+1) st.1 st.2 (λA' H I q=> ?_) λh' j k=> ?_
  .refine HE u y hz st.2 ?_
   rw[qI,p,C,G]
   exact q
  .refine g _ h' s.toks ?_ ⟨?_,st.2.keep λo e=>(k.2 a n).trans e⟩ λb o f e=>(k.2 b λz=>f (by simp[z])).trans e
   .rw[cu,qq,C];rfl
   .rw[ao (by omega)];exact j
 done:=λs Q E st g=>by
  have F:t.place.size=es.size:=by simp only[SetTable.fits,lg,beq_iff_eq] at m;exact m.1
  have l:(es.toList.map (·.2)).length=es.size:=by simp
  rw[l] at st
  refine FF D st.1 st.2 (λA' H I q=>HE u y hz st.2 ?_) λh' r=>g h' s.toks λb o f e=>r b o (λz=>f (by simp[z])) e
  rw[qI]
  have p:SetTable.below t.place (if es.size=0 then 0 else t.place.getD (es.size - 1) 0+1)=es.size:=by
   by_cases z:es.size=0
   .rw[aA z,SR.Ea c,z]
   .rw[ao z,SR.D_ c (by omega)];omega
  rw[p,t_ (by omega)]
  exact q
 self:=λ_ _ _ _ st g=>AI st.1 g
theorem Rr{Q:aT}(B:kC w s.heap a es)
  (h:∀(h':Heap) (d:Drawn) (it:Addr) (zs:List Value) (fp:List Addr) (St:Nat->Heap->Prop),zs.Perm (es.toList.map (·.2))->(∀A':Around,A'.handled=none->Walks prog w A' it fp [it] zs.length (λi v=>zs[i]?=some v) St)->St 0 h'->
   it∈fp->(∀b∈fp,b=a\/s.heap.objs.size<=b)->(∀b∈fp,b<h'.objs.size)->s.heap.objs.size<=it->(∀b o,s.heap.get? b=some o->h'.get? b=some o)->Q (.ref it) {s with heap:=h',drawn:=d}):wpAny (model prog w) A (pyIter (.ref a)) Q E s:=by
 obtain⟨o,ep,t,f,hex,hd,C,g,k,x⟩:=B;have y:s.TypeIs (.ref a) "set":=⟨o,f,hex.1⟩;have alt:a<s.heap.objs.size:=aR f;refine wpAny_pyIter_slot y Kq (jj Kq y Oc ?_ (L7 _));show wpAny _ _ (Builtin.Frozenset.sizeOf a>>=_) _ _ s;unfold Builtin.Frozenset.sizeOf;refine ah (ah (uu f hd g (aB ?_)));refine ah ?_;unfold setDrawn;refine ah (oW f hd g ?_);dsimp only;refine ah (uX (aB ?_));show wpAny _ _ (if (!w.params.followText "set-order"&&(!t.plain&&decide (es.size>1)))=true then _ else _) _ _ _;by_cases hc:(!w.params.followText "set-order"&&(!t.plain&&decide (es.size>1)))=true
 .rw[aA hc]
  refine ah (Fv _ _ _ _ (by simp) λys d j=>?_);unfold newTuple;have hsz:sizeOk (.seq ((ys.map λ(i:Nat)=>rawInt i).toArray) 0):=by
   show((ys.map λ(i:Nat)=>rawInt i).toArray).size<=sizeLine;rw[cj,aM,j.length_eq,length_range];exact qQ C
  refine ah (gH ?_ hsz);have l:=λb o (e:s.heap.get? b=some o)=>bg {cls:=.type "tuple",data:=.seq ((ys.map λ(i:Nat)=>rawInt i).toArray)} e;have m:=l a o f;refine ah (wpAny_setEpoch_of m hd g ?_);refine ah (gH (aB ⟨_,rfl,"set_iterator",_,⟨_,b9 _ rfl,rfl⟩,slot_next.lookup,?_⟩) (by size_fits));have ne1:a≠(s.heap.push {cls:=.type "tuple",data:=.seq ((ys.map λ(i:Nat)=>rawInt i).toArray)}).objs.size:=by rw[eW];exact bx (fX alt)
  have ne2:s.heap.objs.size≠(s.heap.push {cls:=.type "tuple",data:=.seq ((ys.map λ(i:Nat)=>rawInt i).toArray)}).objs.size:=by rw[eW];exact bx (k8 _)
  refine h _ d _ (ys.map λp=>((es[p]?).getD (0,.none)).2) [_,a,s.heap.objs.size] _ (U0 j) (λA' n=>Za (t:=t) (ep:=ep) n ne1 ne2 j) ⟨⟨_,b9 _ rfl,rfl,rfl⟩,⟨o,bg _ m,hd,g⟩,⟨_,_,bg _ (b9 _ rfl),rfl⟩⟩ (by simp) (λb c=>by
   simp only[aY,fD,fE] at c;rcases c with z|z|z
   .exact .inr (by rw[z,eW];exact lW _)
   .exact .inl z
   .exact .inr (by rw[z];exact aF _)) (λb c=>?_) (by rw[eW];exact lW _) λb o e=>bg _ (l b o e)
  rw[eW,eW];simp only[aY,fD,fE] at c;rcases c with z|z|z
  .rw[z,eW];exact k8 _
  .rw[z];exact fX (fX alt)
  .rw[z];exact fX (k8 _)
 .rw[ao hc]
  refine ah (aB ?_);refine ah (wpAny_setEpoch_of f hd g ?_);refine ah (gH (aB ⟨_,rfl,"set_iterator",_,⟨_,b9 _ rfl,rfl⟩,slot_next.lookup,?_⟩) (by size_fits));have ne1:a≠s.heap.objs.size:=bx alt;have q:∀b∈[s.heap.objs.size,a],b<(s.heap.push {cls:=.type "set_iterator",data:=.fields [rawInt 0,rawInt 0,.ref a,rawInt (es.size:Nat),rawInt (ep:Nat)].toArray}).objs.size:=λb c=>by
   rw[eW];simp only[aY,fD,fE] at c;rcases c with z|z
   .rw[z];exact k8 _
   .rw[z];exact fX alt
  have r:∀b∈[s.heap.objs.size,a],b=a\/s.heap.objs.size<=b:=λb c=>by
   simp only[aY,fD,fE] at c;rcases c with z|z
   .exact .inr (by rw[z];exact aF _)
   .exact .inl z
  cases u:w.params.followText "set-order" with
  |true=>
   exact h _ s.drawn _ ((pickOrder (w.params.setOrder a ep) es).toList.map (·.2)) [_,a] _ ((U_ _ es).map _) (λA' n=>Zc (t:=t) u n ne1) ⟨⟨_,b9 _ rfl,rfl,rfl⟩,⟨o,bg _ f,hd,g⟩⟩ (by simp) r q (aF _) λb o e=>bg _ e
  |false=>
   have hz:(!t.plain&&decide (es.size>1))=false:=by
    rw[u] at hc;simpa using hc
   have D:t.led=true:=by rw[k,u];rfl
   exact h _ s.drawn _ (es.toList.map (·.2)) [_,a] _ (.refl _) (λA' n=>Zb (t:=t) (ep:=ep) u D hz g x n ne1) ⟨⟨_,b9 _ rfl,rfl,rfl⟩,⟨o,bg _ f,hd,g⟩⟩ (by simp) r q (aF _) λb o e=>bg _ e
end
section
variable{prog:Program}{w:World}{A:Around}{E:aT}{s:Shared}{a:Addr}{es:Array (Int×Value)}
theorem EI{Q:List Value->Shared->Prop}(J:A.handled=none)(B:kC w s.heap a es)
  (N:∀(h':Heap) (d:Drawn) (O:Nat) (zs:List Value),zs.Perm (es.toList.map (·.2))->s.heap.objs.size<=h'.objs.size->(∀b o,s.heap.get? b=some o->h'.get? b=some o)->Q zs {s with heap:=h',drawn:=d,toks:=O}):
  wpAny (model prog w) A (collect (.ref a)) Q E s:=by
 have alt:a<s.heap.objs.size:=by obtain⟨o,_,_,C,_⟩:=B;exact aR C
 have hz:es.size<scanBound:=by obtain⟨_,_,_,_,_,_,f,_⟩:=B;exact f
 unfold collect;refine ah (uq (gJ PySem.F.entry_proto_collect ?_));rw[iS PySem.F.plain_proto_collect _];show wpAny _ A.in1 (newList []>>=λl=>again (.builtin "list.__iadd__" ⟨[l,.ref a],[]⟩)) _ _ s;refine ah (gH ?_);refine aB ⟨jJ yl _,gJ PySem.F.entry_list_iadd ?_⟩;rw[iS yl _];have i:kC w (s.heap.push {cls:=.type "list",data:=.seq ([]:List Value).toArray}) a es:=B.keeps λo e=>bg _ e;have v:∀{s':Shared},kC w s'.heap a es->s'.TypeIs (.ref a) "set":=λ {s'} x=>by obtain⟨o,_,_,C,hex,_⟩:=x;exact⟨o,C,hex.1⟩
 show wpAny _ A.in1 (Builtin.List.listExtendWith (.ref s.heap.objs.size) (.ref a) (.ref s.heap.objs.size)) _ _ _;unfold Builtin.List.listExtendWith;refine ah (nB (v (s':={s with heap:=s.heap.push {cls:=.type "list",data:=.seq ([]:List Value).toArray}}) i) ?_);have h1:Builtin.List.listSameRef (.ref s.heap.objs.size) (.ref a)=false:=by simp[Builtin.List.listSameRef,j9 alt]
 have h2:(Value.type "set" ==Value.type "list")=false:=by decide
 have P:(Value.type "set" ==Value.type "tuple")=false:=by decide
 simp only[h1,h2,P,Bool.or_false,jN,gv];refine ah (Rr (s:={s with heap:=s.heap.push {cls:=.type "list",data:=.seq ([]:List Value).toArray}}) i λh2 d it zs fp St m W D hit G R n k2=>?_);have k:kC w h2 a es:=i.keeps λo e=>k2 _ _ e;refine ah (eY ?_);unfold Builtin.List.listLengthHint;refine ah (wpAny_specialOf (v (s':={s with heap:=h2,drawn:=d}) k) PySem.F.slot_set_len.lookup ?_);dsimp only;have g:splitId "set.__len__"=some ("set","__len__"):=by decide+kernel
 rw[g];dsimp only;refine ah (yz (v (s':={s with heap:=h2,drawn:=d}) k) sub_set_self ?_);simp only[Bool.not_true,jN,gv];rw[aA (by decide+kernel)];refine ah (nB (v (s':={s with heap:=h2,drawn:=d}) k) ?_);refine aB ?_;rw[aA (by decide+kernel)];refine ah (iR ?_);have S:(s.heap.push {cls:=.type "list",data:=.seq ([]:List Value).toArray}).get? s.heap.objs.size=some {cls:=.type "list",data:=.seq ([]:List Value).toArray}:=b9 _ rfl;have K:=k2 _ _ S;have p:s.heap.objs.size∉fp:=λz=>by
  rcases G _ z with e|e
  .exact absurd alt (by rw[<-e];exact gw _)
  .rw[eW] at e
   exact absurd e (Nat.not_succ_le_self _)
 have q:s.heap.objs.size<it:=by rw[eW] at n;exact n
 refine ah ?_;show wpAny _ A.in1 (updateSeq s.heap.objs.size (·.push .none)>>=λ_=>updateSeq s.heap.objs.size (·.pop)) _ _ _;refine ah (uw K rfl ?_);have L2:=jl (Obj.mapSeq (·.push Value.none)) K rfl;refine uw L2 rfl ?_;have T:=jl (Obj.mapSeq (·.pop)) L2 rfl;have r:∀b o,b≠s.heap.objs.size->h2.get? b=some o->((h2.update s.heap.objs.size (Obj.mapSeq (·.push Value.none))).update s.heap.objs.size (Obj.mapSeq (·.pop))).get? b=some o:=
  λb o f e=>(o6 _ _ (Ne.symm f)).trans ((o6 _ _ (Ne.symm f)).trans e)
 have U:=(W A.in1 J).toS;have V:zs.length<=sizeLine:=by rw[m.length_eq,aM,eN];exact qQ hz
 refine aB ⟨jJ uh _,codeAny_extend_loopS U V _ p _ zs.length 0 _ _ _ rfl (bP _) ((W A.in1 J).frame 0 _ _ D λb f o e=>r b o (λz=>p (z▸f)) e) T (ItemsOf.nil _) λs' c c' y t h=>?_⟩;show wpAny _ A (load s.heap.objs.size>>=_) _ _ s';refine ah (wpAny_load t ?_);have u:c.toList=zs:=by
  apply qP;intro j;rw[qq];by_cases L:j<c.size
  .have M:c[j]?=some (c[j]'L):=fc L
   rw[M];exact(h.2 j _ M).symm
  .rw[t_ (by omega),o7 (by rw[<-h.1];omega)]
 obtain⟨h',g',d',H,I⟩:=s';have X:g'=s.gens:=y.gens;have Y:d'=d:=y.drawn;have Z:I=s.os:=y.os;subst X;subst Y;subst Z;refine aB ?_;show Q c.toList _;rw[u];have kp:∀b o,s.heap.get? b=some o->h'.get? b=some o:=λb o e=>by
  have f:b<s.heap.objs.size:=aR e;refine y.heap b o ?_ (r b o (bx f) (k2 _ _ (bg _ e)));simp only[aY,fD,fE,not_or];exact⟨bx f,bx (lt_trans f q)⟩
 exact N h' d' H zs m (iB (aR t)) kp
theorem X8{l:List (Int×Value)}(h:ElemsOf (PySem.strKind prog w) l):∀{zs:List Value},zs.Perm (l.map (·.2))->StrsAre zs (zs.map strOf):=λ {zs} a=>by
 have:∀v∈zs,∃t,v=Value.str (strOf v) t:=λv b=>by
  obtain⟨e,c,rfl⟩:=aJ.mp (a.mem_iff.mp b);exact z8 h c
 clear a;induction zs with
 |nil=>exact .nil
 |cons v r d=>
  obtain⟨t,e⟩:=this v (by simp);have r':=d λf h'=>this f (by simp[h']);rw[cO];rw[e];exact .cons _ t r'
theorem BP{Q:aT}(x:A.handled=none)(t:cy prog w s.heap a es)(n:es.size<64)
  (h:∀(h':Heap) (d:Drawn) (k:Nat) (l:Addr) (e:Nat) (out:List Value) (ss:List Str),s.heap.objs.size<=l->h'.get? l=some (seqObj "list" out.toArray e)->StrsAre out ss->ss.Perm (names es)->sortedS ss=true->
   (∀b o,s.heap.get? b=some o->h'.get? b=some o)->Q (.ref l) {s with heap:=h',drawn:=d,toks:=k}):
  wpAny (model prog w) A (call (.builtin "sorted") [.ref a]) Q E s:=by
 have c:ElemsOf (PySem.strKind prog w) es.toList:=by obtain⟨_,_,_,_,_,_,c,_⟩:=t;exact c
 refine yh kind_sorted plain_sorted entry_sorted (args_sorted1 _) ?_;unfold Builtin.«sorted»;refine ah (m:=checkCount "sorted" 1 1 _) (aB ?_);refine ah (EI x t.y λh1 d k zs hz hsz k1=>?_);have f:StrsAre zs (zs.map strOf):=X8 c hz;have i:zs.length<64:=by rw[hz.length_eq,aM,eN];exact n
 refine ah (uo ?_);have g:(h1.push (seqObj "list" zs.toArray 0)).get? h1.objs.size=some (seqObj "list" zs.toArray 0):=b9 _ rfl;show wpAny _ _ _ _ _ {s with heap:=h1.push (seqObj "list" zs.toArray 0),drawn:=d,toks:=k};refine ah (eY (jj yp ⟨_,g,rfl⟩ yM (list_sort_treeK strKind_oneLt g f.keysOf (λu v rest e=>keyKind_strs (by rw[<-e];exact f)) i λj a1 a2=>⟨_,rfl,?_⟩) (yK _)));obtain⟨p,z,B,C⟩:=sorted_out_str f a1 a2;obtain⟨e,D⟩:=yr (out:=(arrOf j).map (·.2)) g;refine aB ⟨_,rfl,h _ d k h1.objs.size e ((arrOf j).map (·.2)).toList p hsz (by rw[yu];exact D) z (B.trans ?_) C λb o q=>?_⟩
 .have:=hz.map strOf
  rw[bK] at this;exact this
 .have r:=k1 b o q
  rw[yt (bx (aR r)) (by rw[qF];exact fX (aR r))];exact bg _ r
end
end SS
namespace L2
section
variable{X:Cx}
theorem X6{xs:List Str}{its:List Value}(r:Vals (xs.map V.str) its):∀(i:Nat) (v:Value),its.toArray[i]?=some v->∃t:Tok,v=Value.str (xs.getD i ⟨#[]⟩) t:=λi v h=>by
 have h':its[i]?=some v:=by simpa using h
 have b:=r.length;have hi:i<its.length:=(bY.mp h').1;have c:(xs.map V.str)[i]?=some (V.str (xs.getD i ⟨#[]⟩)):=by
  rw[cu,fZ];have:i<xs.length:=by rw[<-b,aM] at hi;exact hi
  rw[a_ this];rfl
 obtain⟨u,a,d⟩:=r.get c;rw[h'] at a;cases a;exact d
def strLt(a b:Str):Prop:=a.cps.toList<b.cps.toList
theorem IQ:∀(p:Str) (l:List Str),risingS p l=true->(p::l).Pairwise (λa b=>¬b.cps.toList<a.cps.toList)
 |p,[],_=>List.pairwise_singleton _ _
 |p,x::r,h=>by
  simp only[risingS,lg,Bool.not_eq_true',ltCps_eq,decide_eq_false_iff_not] at h;have c:=IQ x r h.2;refine gZ.mpr ⟨λy d=>?_,c⟩;rcases aY.mp d with e|e
  .rw[e];exact h.1
  .have:=(gZ.mp c).1 y e
   exact λz=>(not_lt.mp this)|>λq=>absurd z (not_lt.mpr (List.le_trans (not_lt.mp h.1) q))
theorem Ku{l:List Str}(h:sortedS l=true):l.Pairwise (λa b=>¬b.cps.toList<a.cps.toList):=by
 cases l with
 |nil=>exact .nil
 |cons x r=>exact IQ x r h
theorem KH{l:List Str}(h:l.Pairwise (λa b=>¬b.cps.toList<a.cps.toList))(nd:l.Nodup):l.Pairwise strLt:=by
 refine(h.and nd).imp λ {a b} q=>?_;by_cases z:a.cps.toList<b.cps.toList
 .exact z
 .have e:a.cps.toList=b.cps.toList:=List.le_antisymm (not_lt.mp q.1) (not_lt.mp z)
  refine absurd ?_ q.2;obtain⟨⟨c⟩⟩:=a;obtain⟨⟨d⟩⟩:=b;have f:c=d:=e;rw[f]
def YB(K:Frag)(ta:TA):TE:=λσ H Q=>ta σ H λvs H1=>∃(a:Addr) (xs:List Str),vs=[.ref a]/\aW K H1 a (xs.map V.str)/\xs.length<64/\
 ∀(l:Addr) (ys:List Str),H1 l=none->ys.Pairwise strLt->(∀x,x∈ys↔x∈xs)->Q (.ref l) (upd H1 l (.lst (ys.map V.str)))
theorem Co:∀{out:List Value} {ss:List Str},StrsAre out ss->Vals (ss.map V.str) out
 |_,_,.nil=>.nil
 |_,_,.cons x t h=>.cons ⟨t,rfl⟩ (Co h)
theorem US{e:Expr}{ta:TA}{p1 p2 pos1 pos2:Pos}(D:X.mg "sorted"=none)(E:X.mg "set"=none)(hc:X.calm=true)(S:PA X [e] ta)(F:Gl X "sorted":=by rfl)(G:Gl X "set":=by rfl)
  (T:starEach [e] X.env=[(false,eval e X.env)]:=by rfl)(hz:starEach [.Call (.Name "set" p2) [e] [] pos2] X.env=[(false,eval (.Call (.Name "set" p2) [e] [] pos2) X.env)]:=by rfl):
  PE X (.Call (.Name "sorted" p1) [.Call (.Name "set" p2) [e] [] pos2] [] pos1) (YB X.K ta):=by
 intro pins s σ H Q I h;refine l_ (jA I F D (show bootBuiltins "sorted"=some (.builtin "sorted") by with_unfolding_all rfl) ?_);refine Cr ?_ hz rfl;rw[hz];refine yi (l_ (jA I G E (show bootBuiltins "set"=some (.type "set") by with_unfolding_all rfl) (nj (aK (S pos2 pins s σ H _ I h) λus t ⟨vs,H1,k,U,W⟩=>?_) T rfl)));obtain⟨a,xs,e,Y,Z,q⟩:=W;subst e;obtain⟨u,rfl,ru⟩:=vals1 U;cases ru;obtain⟨its,O,pl,ZK⟩:=k.list Y;have hl:=O.length;have hsz:its.toArray.size=xs.length:=by rw[cj,<-hl,aM]
 refine SS.zI (val:=λi=>xs.getD i ⟨#[]⟩) (k.ok.hd hc) pl.isList (λi v hv=>X6 O i v hv) (by rw[hsz,show scanBound=4096 from rfl];omega) λh2 tk es J P w k2=>?_;have g:es.size<64:=by omega
 have f:∀b o,t.heap.get? b=some o->h2.get? b=some o:=λb o e=>k2 b o (aR e) e;refine yj ?_;refine SS.BP (s:={t with heap:=h2,toks:=tk}) (k.ok.hd hc) J g λR d y l ep out ss m L M c p k3=>?_;have alt:t.heap.objs.size<h2.objs.size:=by obtain⟨o,_,_,ho,_⟩:=J;exact aR ho
 have C:H1 l=none:=k.hok.fresh (cG (iB alt) m);have nd:ss.Nodup:=c.nodup_iff.mpr (by obtain⟨_,_,_,_,_,_,_,N,_⟩:=J;exact N);have r:∀x,x∈ss↔x∈xs:=λx=>by
  rw[c.mem_iff,w x,hsz];constructor
  .rintro ⟨j,A,rfl⟩
   rw[fZ,a_ A];exact jH A
  .intro hx
   obtain⟨j,A,e⟩:=iO hx;exact⟨j,A,by rw[fZ,a_ A];exact e⟩
 have B:ss.length=es.size:=by rw[c.length_eq,aM,eN]
 have I2:Inv X pins σ (upd H1 l (.lst (ss.map V.str))) {t with heap:=R,drawn:=d,toks:=y}:=by
  refine k.call (ch:=[]) (g':=t.gens) (d':=d) (t':=y) (h':=R) (H':=upd H1 l (.lst (ss.map V.str))) ⟨λb o q _ _ _=>k3 b o (f b o q),λb o q _ _ _=>⟨o.slots,k3 b o (f b o q)⟩,λb o q n _=>?_,λb o q _=>⟨o,k3 b o (f b o q)⟩,λb xs q=>?_,λb o u q=>?_,λb ps q=>⟨#[],?_⟩⟩ ?_ k.bare λb z=>absurd z (by simp)
  .rw[bf (bx (cP (aR q) (cG (iB alt) m)))];exact n
  .rw[bf (dw q C)];exact q
  .rw[bf (dw q C)];exact q
  .rw[bf (dw q C),q];simp
  .exact k.hok.laid (λb u q=>k3 b u (f b u q)) (cG (iB alt) m) ⟨by rw[aM,B];exact iB (cP g (by decide)),out,ep,Co M,L⟩
 exact⟨.ref l,_,I2,rfl,q l ss C (KH (Ku p) nd) r⟩
end
theorem Br(ns:List Int):∀k,k<=ns.length->preSum (λi=>ns.getD i 0) k=(ns.take k).sum
 |0,_=>by simp[preSum]
 |k+1,h=>by
  have e:preSum (λi=>ns.getD i 0) (k+1)=preSum (λi=>ns.getD i 0) k+ns.getD k 0:=by
   first|rfl|(unfold preSum;simp[range_succ])
  rw[e,Br ns k (by omega),List.take_add_one,a_ (by omega),List.sum_append,fZ,a_ (by omega)];simp
theorem KN:∀(ns:List Int) (b:Int),(∀n∈ns,0<=n/\n<=b)->0<=ns.sum/\ns.sum<=b*ns.length
 |[],b,_=>by simp
 |x::r,b,h=>by
  obtain⟨h1,h2⟩:=h x (by simp);obtain⟨c,d⟩:=KN r b λn a=>h n (by simp[a]);rw[List.sum_cons,gi];refine⟨by omega,?_⟩;have:b*((r.length+1:Nat):Int)=b*(r.length:Int)+b:=by rw[Int.natCast_add,Int.mul_add];simp
  rw[this];omega
section
variable{X:Cx}
theorem Mw(hc:X.calm=true):eS X (.builtin "sum") (λxs H Q=>∃(p:Addr) (ns:List Int),xs=[.ref p]/\aW X.K H p (ns.map V.int)/\(∀n∈ns,0<=n/\n<=2 ^ 40)/\ns.length<=1000/\Q (.int ns.sum) H):=by
 intro pins s σ H xs G Q I r h;obtain⟨p,ns,rfl,y,o,J,q⟩:=h;obtain⟨u,rfl,l⟩:=vals1 r;cases l;obtain⟨vs,t,pl,hz⟩:=I.list y;have a:vs.length=ns.length:=by rw[<-t.length,aM]
 have c:=pl.isList;have d:p<s.heap.objs.size:=by obtain⟨_,e,_⟩:=c;exact aR e
 have small:∀k,k<=ns.length->InLong (preSum (λi=>ns.getD i 0) k):=λk m=>by
  rw[Br ns k m];obtain⟨h1,h2⟩:=KN (ns.take k) (2 ^ 40) λn B=>o n (qz B);have C:((ns.take k).length:Int)<=1000:=by rw[kZ];omega
  have L:(2 ^ 40:Int)*((ns.take k).length:Int)<=2 ^ 40*1000:=qL C (by decide);unfold InLong;first|(constructor<;>omega)|omega
 refine call_sum_walk (oV c ?_);refine⟨s.heap.objs.size,[s.heap.objs.size,p],[s.heap.objs.size],vs.toArray.size,_,_,λi=>ns.getD i 0,rfl,Walks.list (A:=X.A.in1) (I.ok.hd hc) _ p (bx d) vs.toArray,
  ⟨⟨_,b9 _ rfl,rfl,rfl⟩,c.push _⟩,λb f=>?_,λi v D=>?_,λj w=>⟨?_,small (j+1) (by simp at w;omega)⟩,λh' E t' m=>?_⟩
 .rw[eW]
  simp only[aY,fD,fE] at f;rcases f with z|z
  .rw[z];exact k8 _
  .rw[z];exact fX d
 .have h':vs[i]?=some v:=by simpa using D
  have hi:i<ns.length:=by rw[<-a];exact(bY.mp h').1
  have F:(ns.map V.int)[i]?=some (V.int (ns.getD i 0)):=by
   rw[cu,fZ,a_ hi];rfl
  obtain⟨u,x,l⟩:=t.get F;rw[h'] at x;cases x;exact l
 .have g:j<ns.length:=by simp at w;omega
  obtain⟨h1,h2⟩:=o (ns.getD j 0) (by rw[fZ,a_ g];exact jH g);show InLong (ns.getD j 0);unfold InLong;first|(constructor<;>omega)|omega
 .have e:preSum (λi=>ns.getD i 0) vs.toArray.size=ns.sum:=by
   rw[cj,a,Br ns _ (aF _),take_length]
  rw[e];exact⟨.int _,H,I.kept (h':=h') (t':=E) (LSm.kept_iter m),⟨_,rfl⟩,q⟩
end
section
variable{X:Cx}
theorem empty_app(x:Str):Str.empty++x=x:=by
 obtain⟨c⟩:=x;show Str.mk (#[]++c)=⟨c⟩;rw[Array.empty_append]
def Yl(x:Str)(te:TE):TE:=λσ H Q=>te σ H λv H1=>∃y,v=.str y/\x.length+y.length<=sizeLine/\Q (.str (x++y)) H1
theorem UH{e:Expr}{te:TE}{x:Str}{k:Nat}{p1 p2 pos:Pos}(c:PE X e te)(d:x.length<=sizeLine:=by decide):PE X (.JoinedStr [.Constant (.str x) k p1,.FormattedValue e (-1) none p2] pos) (Yl x te):=by
 intro pins s σ H Q I h;refine wpAny_JoinedStr ?_;show wpAny _ _ (eval (.Constant (.str x) k p1) X.env) _ _ _;refine Calls.Constant_str ⟨x,_,rfl,?_,?_⟩
 .show(Str.empty++x).length<=sizeLine
  rw[empty_app];exact d
 show wpAny _ _ (eval (.FormattedValue e (-1) none p2) X.env) _ _ _;refine wpAny_FormattedValue_plain (aK (c pins _ σ H _ (I.tok _) h) λu j ⟨v,H1,b,f,y,g,i,q⟩=>?_);subst g;obtain⟨t,rfl⟩:=f;have a:Str.empty++x=x:=empty_app x;have hz:(x++y).length<=sizeLine:=by
  have:(x++y).length=x.length+y.length:=by show(x.cps++y.cps).size=x.cps.size+y.cps.size;exact um
  rw[this];exact i
 refine wpAny_formatField_str ?_ ?_ (by omega)
 .refine⟨y,t,rfl,?_,?_⟩
  .rw[a];exact hz
  .rw[a]
   exact⟨hz,.str (x++y),H1,b.tok _,⟨_,rfl⟩,q⟩
 .refine⟨y,_,rfl,?_,?_⟩
  .rw[a];exact hz
  .rw[a]
   exact⟨hz,.str (x++y),H1,(b.tok _).tok _,⟨_,rfl⟩,q⟩
end
section
variable{prog:Program}{w:World}{A:Around}{E:aT}{s:Shared}
theorem tuple_addW0(l b:Addr)(items a:Array Value)(n n2:Nat)(dd c:Option Addr)(f e:Array (Option Value))(i:items.isEmpty=true):
  Meets (Builtin.«tuple.__add__» ⟨[.ref l,.ref b],[]⟩) (λ_ R s=>s.heap.get? l=some {cls:=.type "tuple",dict:=dd,data:=.seq items n,slots:=f}/\s.heap.get? b=some {cls:=.type "tuple",dict:=c,data:=.seq a n2,slots:=e}/\R (.ok (.ret (Value.ref b))) {s with heap:=s.heap,toks:=s.toks}):=
 .of_wp λprog w A R s h=>by obtain⟨m,g,d,o,os⟩:=s;obtain⟨j,k,h⟩:=h;have f1:=AutoSeq1.idx_int;have f2:=AutoSeq1.sub_tuple_tuple;have p:=AutoSeq1.sub_list_list;have f4:=AutoSeq1.sub_tuple_list;have q:=AutoSeq1.sub_list_tuple;wp_walk using yC j,yC k;exact⟨_,rfl,h⟩
end
section
variable{X:Cx}
def VS(K:Frag):R2:=λx y H Q=>∃a b ys,x=.ref a/\y=.ref b/\bQ K H a []/\bQ K H b ys/\Q (.ref b) H
theorem T8:bL X (binaryOp .Add) (VS X.K):=by
 intro pins s σ H x y v u Q I k l h;obtain⟨a,b,ys,rfl,rfl,m,o,q⟩:=h;cases k;cases l;obtain⟨its,p,p1,_⟩:=I.tuple m;obtain⟨c,t,p2,_⟩:=I.tuple o;cases p;obtain⟨⟨cls,dd,data,r⟩,i,hc,n,hd⟩:=id p1;obtain⟨⟨j,f,data2,g⟩,d,e,n2,hd2⟩:=id p2;simp only at hc hd e hd2;subst hc hd e hd2;exact concat_meets ⟨_,i,rfl⟩ ⟨_,d,rfl⟩ noFill_tuple_add seq_tuple_add slot_tuple_add entry_tuple_add (args_tuple_add_2 _ _)
  (tuple_addW0 a b #[] c.toArray n n2 dd f r g rfl) ⟨i,d,⟨.ref b,H,I,rfl,q⟩⟩
def Ir(K:Frag):R2:=λx y H Q=>∃a b xs ys,x=.ref a/\y=.ref b/\bQ K H a xs/\bQ K H b ys/\xs.length+ys.length<=sizeLine/\
 (xs=[]->Q (.ref b) H)/\(xs≠[]->ys=[]->Q (.ref a) H)/\(xs≠[]->ys≠[]->∀p,H p=none->Q (.ref p) (upd H p (.tup (xs++ys))))
theorem T6:bL X (binaryOp .Add) (Ir X.K):=by
 intro pins s σ H x y v u Q I d e h;obtain⟨a,b,xs,ys,rfl,rfl,f,g,hz,i,j,k⟩:=h;by_cases c:xs=[]
 .subst c
  exact T8 pins s σ H _ _ v u Q I d e ⟨a,b,ys,rfl,rfl,f,g,i rfl⟩
 .exact T7 pins s σ H _ _ v u Q I d e ⟨a,b,xs,ys,rfl,rfl,f,g,c,hz,j c,k c⟩
end
end L2
namespace DP
theorem SO:typeLookup (.type "list") "keys"=pure none:=by rw[oQ,o5];kernel_rfl
theorem SQ:typeLookup (.type "tuple") "keys"=pure none:=by rw[oQ,o5];kernel_rfl
section
variable{prog:Program}{w:World}{A:Around}{E:aT}{s:Shared}
theorem Tu{a:Addr}{xs:Array Value}{k:Nat}{Q:Option Value->Shared->Prop}(i:s.heap.get? a=some {cls:=.type "list",data:=.seq xs k})(m:A.handled=none)
  (h:∀h' j,(∀b o,s.heap.get? b=some o->h'.get? b=some o)->Q none {s with heap:=h',toks:=j}):wpAny (model prog w) A (getAttr? (.ref a) "keys") Q E s:=by
 obtain⟨n,g,d,j,os⟩:=s;have l:∀c,(⟨n,g,d,c,os⟩:Shared).TypeIs (.ref a) "list":=λ_=>⟨_,i,rfl⟩;have f1:=sub_AttributeError;have p:=CI.lookup;have f4:=CI.bind (.ref a);have q:=am_list_getattr_none;unfold getAttr? getAttrBy? getAttrBy;repeat (any_goals (first|assumption|exact l _|((with_reducible show wpAny _ _ (call (Value.builtin "list.__getattribute__") _ _) _ _ _);refine call_meets CI (l _) am_entry_list_getattribute (PySem.F.args_list_getattribute_2 _ _) (meets_getattribute_miss_list a xs k #[] "keys" _ SO (by decide) (by decide)) ⟨i,m,λh' c e f=>?_⟩)|wp_step))
 obtain⟨t',r,t⟩:=f.there;show wpAny _ _ (getattributeRaised _ _ _ _ _ _ _) _ _ _;unfold getattributeRaised;repeat (any_goals (first|assumption|wp_step))
 exact h _ _ f.keeps
theorem Tv{a:Addr}{xs:Array Value}{k:Nat}{Q:Option Value->Shared->Prop}(i:s.heap.get? a=some {cls:=.type "tuple",data:=.seq xs k})(m:A.handled=none)
  (h:∀h' j,(∀b o,s.heap.get? b=some o->h'.get? b=some o)->Q none {s with heap:=h',toks:=j}):wpAny (model prog w) A (getAttr? (.ref a) "keys") Q E s:=by
 obtain⟨n,g,d,j,os⟩:=s;have l:∀c,(⟨n,g,d,c,os⟩:Shared).TypeIs (.ref a) "tuple":=λ_=>⟨_,i,rfl⟩;have f1:=sub_AttributeError;have p:=CJ.lookup;have f4:=CJ.bind (.ref a);have q:=am_tuple_getattr_none;unfold getAttr? getAttrBy? getAttrBy;repeat (any_goals (first|assumption|exact l _|((with_reducible show wpAny _ _ (call (Value.builtin "tuple.__getattribute__") _ _) _ _ _);refine call_meets CJ (l _) am_entry_tuple_getattribute (PySem.F.args_tuple_getattribute_2 _ _) (meets_getattribute_miss_tuple a xs k #[] "keys" _ SQ (by decide) (by decide)) ⟨i,m,λh' c e f=>?_⟩)|wp_step))
 obtain⟨t',r,t⟩:=f.there;show wpAny _ _ (getattributeRaised _ _ _ _ _ _ _) _ _ _;unfold getattributeRaised;repeat (any_goals (first|assumption|wp_step))
 exact h _ _ f.keeps
end
theorem FH:entryFor table "dict.update.loop"=some Builtin.«dict.update.loop»:=entryFor_of_tree (by kernel_rfl)
theorem s9:plainId "dict.update.loop"=true:=by decide+kernel
section
variable{prog:Program}{w:World}{A:Around}{R:Result->Shared->Prop}{I:Addr}{fp wr:List Addr}{n:Nat}{P:Nat->Value->Prop}{St:Nat->Heap->Prop}
theorem loop(W:Walks prog w A.in1 I fp wr n P St)(D:Addr)(p:D∉fp)(h₀:Heap)(key:Nat->L2.Key)(E q:Nat->Value)
  (u:∀i v,i<n->P i v->∃t,v=.ref t/\t≠D/\t∉wr/\IsTup h₀ t #[E i,q i])(x:∀i,i<n->(L2.dj prog w).is (key i) (E i)=true)(hn:n<=sizeLine):
  ∀(k i:Nat) (s:Shared) (kvs:List (L2.Key×Value)),n - i=k->i<=n->St i s.heap->s.heap.DictOf (L2.dj prog w) D kvs->kvs.length<=i->(∀b o,b≠D->b∉wr->h₀.get? b=some o->s.heap.get? b=some o)->
   (∀h' y,h'.DictOf (L2.dj prog w) D (((range n).drop i).foldl (λacc j=>stored acc (key j) (q j)) kvs)->(∀b o,b≠D->b∉wr->s.heap.get? b=some o->h'.get? b=some o)->R (.ok (.ret .none)) {s with heap:=h',toks:=y})->
   codeAny (model prog w) A (.builtin "dict.update.loop" ⟨[.ref D,.ref I,rawInt (i:Nat),.none],[]⟩) R s:=by
 have B:D∉wr:=λh=>p (W.sub _ h);intro k;induction k with
 |zero=>
  intro i s kvs Z hi g G hl H J;have K:i=n:=by omega
  subst K;refine gJ FH ?_;rw[iS s9 _];show wpAny _ A.in1 (pyNext (.ref I)>>=_) _ _ s;refine ah (W.done s _ _ g λh' y l=>?_);show wpAny _ A.in1 (Builtin.Dict.addKeywords D []>>=_) _ _ _;refine ah (aB (aB (J h' y ?_ λb o d a e=>l b o a e)));rw[qM (by simp),List.foldl_nil];obtain⟨o,es,ep,L,r⟩:=G;exact⟨o,es,ep,l D o B L,r⟩
 |succ k ih=>
  intro i s kvs Z hi g G hl H J;have c:i<n:=by omega
  refine gJ FH ?_;rw[iS s9 _];show wpAny _ A.in1 (pyNext (.ref I)>>=_) _ _ s;refine ah (W.item i s _ _ c g λv h1 y hP C l=>?_);obtain⟨t,rfl,tD,tw,ht⟩:=u i v c hP;obtain⟨F,M,N,nt,O⟩:=ht;have f:h1.get? t=some F:=l t F tw (H t F tD tw M);refine ah (eY ?_);refine ah (wpAny_tryCatch ?_);unfold Builtin.Dict.pairItems;refine ah (nB (T:="tuple") ⟨F,f,N⟩ ?_);rw[aA (by decide)];refine ah (ur f O (aB ?_));show wpAny _ _ (holding [E i,q i] (dictSet D (E i) (q i))) _ _ _;have Q:h1.DictOf (L2.dj prog w) D kvs:=by
   obtain⟨o,es,ep,L,r⟩:=G;exact⟨o,es,ep,l D o B L,r⟩
  refine eY (wpAny_dictSet_pairs (s:={s with heap:=h1,toks:=y}) (x i c) Q (λh2 S m=>?_) (by omega));have U:St (i+1) h2:=W.frame _ _ _ C λb d o e=>(m.2 b λz=>p (z▸d)).trans e;have e1:((i:Nat):Int)+1=((i+1:Nat):Int):=by omega
  refine aB ⟨jJ s9 _,?_⟩;show codeAny _ _ (.builtin "dict.update.loop" ⟨[.ref D,.ref I,rawInt (((i:Nat):Int)+1),.none],[]⟩) _ _;rw[e1];refine ih (i+1) _ _ (by omega) c U S ?_ (λb o d a e=>(m.2 b d).trans (l b o a (H b o d a e))) λh' V X Y=>?_
  .have:=stored_length_le kvs (key i) (q i)
   omega
  .refine J h' V ?_ λb o d a e=>Y b o d a ((m.2 b d).trans (l b o a e))
   have e2:(range n).drop i=i::(range n).drop (i+1):=by
    rw[mu (by simpa using c)];simp
   rw[e2,h_];exact X
end
end DP
namespace L2
def putAll(ps:List (Key×V)):List (Key×V):=ps.foldl (λacc p=>putK acc p.1 p.2) []
theorem VL(ps acc:List (Key×V)):(ps.foldl (λacc p=>putK acc p.1 p.2) acc).length<=acc.length+ps.length:=by
 induction ps generalizing acc with
 |nil=>simp
 |cons p r a=>
  rw[h_,gi];refine cG (a _) ?_;have:(putK acc p.1 p.2).length<=acc.length+1:=by
   unfold putK;split
   .rw[aM];omega
   .rw[cJ];simp
  omega
theorem R8{ps:List (Key×V)}{n:Nat}{key:Nat->Key}{a:Nat->Value}(b:n=ps.length)(h:∀i p,ps[i]?=some p->key i=p.1/\RelV p.2 (a i)):KV (putAll ps) ((range n).foldl (λacc j=>stored acc (key j) (a j)) []):=by
 subst b;unfold putAll;have gen:∀(m:Nat),m<=ps.length->KV ((ps.take m).foldl (λacc p=>putK acc p.1 p.2) []) ((range m).foldl (λacc j=>stored acc (key j) (a j)) []):=λm=>by
  induction m with
  |zero=>intro _;simp;exact .nil
  |succ m c=>
   intro d;have e:ps[m]?=some (ps[m]'(by omega)):=a_ (by omega);obtain⟨h1,h2⟩:=h m _ e;rw[List.take_add_one,e,range_succ,nH,nH];simp only[Option.toList_some,h_,List.foldl_nil];rw[h1];exact KV.put (c (by omega)) _ h2
 have:=gen ps.length (aF _);rwa [take_length] at this
section
variable{X:Cx}
def Pairs(K:Frag)(H:Hp)(ts:List V)(ps:List (Key×V)):Prop:=ts.length=ps.length/\∀(i:Nat) (x:V) (p:Key×V),ts[i]?=some x->ps[i]?=some p->∃t,x=.ref t/\bQ K H t [kV p.1,p.2]
theorem mJ(hc:X.calm=true):eS X (.type "dict") (λxs H Q=>∃(p:Addr) (D:List V) (ps:List (Key×V)),xs=[.ref p]/\(H p=some (.lst D)\/H p=some (.tup D))/\Pairs X.K H D ps/\ps.length<=1000/\∀d,H d=none->Q (.ref d) (upd H d (.dK (putAll ps)))):=by
 intro pins s σ H xs us Q I r h;obtain⟨p,D,ps,rfl,hp,hP,hl,q⟩:=h;obtain⟨u,rfl,ru⟩:=vals1 r;cases ru;have hh:=I.ok.hd hc;obtain⟨its,hv,E⟩:∃its:List Value,Vals D its/\((∃n,s.heap.get? p=some {cls:=.type "list",data:=.seq its.toArray n})\/∃n,s.heap.get? p=some {cls:=.type "tuple",data:=.seq its.toArray n}):=by
  rcases hp with hp|hp
  .obtain⟨_,its,n,y,e⟩:=(show b_ X.prog X.w H s.heap p (.lst D) from I.hok p _ hp)
   exact⟨its,y,.inl ⟨n,e⟩⟩
  .obtain⟨its,n,y,e,_⟩:=I.YO hp
   exact⟨its,y,.inr ⟨n,e⟩⟩
 have l:its.length=ps.length:=by rw[<-hv.length];exact hP.1
 have Vg:p<s.heap.objs.size:=by rcases E with⟨_,e⟩|⟨_,e⟩<;>exact aR e
 have pair:∀i,i<ps.length->∃t k v,its[i]?=some (.ref t)/\IsTup s.heap t #[k,v]/\∃p,ps[i]?=some p/\RelV (kV p.1) k/\RelV p.2 v:=λi hi=>by
  have z:ps[i]?=some (ps[i]'hi):=a_ hi;have B:D[i]?=some (D[i]'(by rw[hP.1];exact hi)):=a_ _;obtain⟨t,ex,hq⟩:=hP.2 i _ _ B z;obtain⟨u,hu,ru⟩:=hv.get B;rw[ex] at ru;cases ru;obtain⟨its2,r2,p2,_⟩:=I.tuple hq;obtain⟨k,v,rfl,N,y⟩:=vals2 r2;exact⟨t,k,v,hu,p2,_,z,N,y⟩
 let P:Nat->Value:=λi=>match its[i]? with|some (.ref t)=>(match s.heap.get? t with|some o=>(match o.data with|.seq a _=>a.getD 0 .none|_=>.none)|none=>.none)|_=>.none
 let O:Nat->Value:=λi=>match its[i]? with|some (.ref t)=>(match s.heap.get? t with|some o=>(match o.data with|.seq a _=>a.getD 1 .none|_=>.none)|none=>.none)|_=>.none
 let key:Nat->Key:=λi=>((ps[i]?).map (·.1)).getD (.inl 0);have g:∀i,i<ps.length->∃t p,its[i]?=some (.ref t)/\IsTup s.heap t #[P i,O i]/\ps[i]?=some p/\key i=p.1/\RelV (kV p.1) (P i)/\RelV p.2 (O i):=λi hi=>by
  obtain⟨t,k,v,z,L,pp,B,N,y⟩:=pair i hi;obtain⟨o,G,hcl,n,hd⟩:=id L;have R:P i=k:=by simp only[P,z,G,hd];rfl
  have ev:O i=v:=by simp only[O,z,G,hd];rfl
  have ey:key i=pp.1:=by simp only[key,B];rfl
  rw[R,ev,ey];exact⟨t,pp,z,L,B,rfl,N,y⟩
 have hsz:ps.length<=sizeLine:=cG hl (by decide);refine callType_codes (Q₁:=λobj J=>obj=.ref s.heap.objs.size/\J={s with heap:=s.heap.push {cls:=.type "dict",data:=.dict #[]}}) PySem.F.kt_called_dict (PySem.F.kt_typeCall_dict_1 _) PySem.F.entry_dict_init (kt_code_dict_new _ ⟨rfl,rfl⟩) ?_;rintro obj J ⟨rfl,rfl⟩;have c:(s.heap.push {cls:=.type "dict",data:=.dict #[]}).DictOf (dj X.prog X.w) s.heap.objs.size []:=DictOf.new s.heap;refine⟨c.typeIs,PySem.F.args_dict_init_2 _ _,?_⟩;unfold Builtin.«dict.__init__»;refine ah ?_;unfold Builtin.Dict.selfAndRest;refine ah (wpAny_notOrdered_dict c.typeIs ?_);show wpAny _ _ (pure (s.heap.objs.size,[Value.ref p])) _ _ _;refine aB ?_;show wpAny _ _ (Builtin.Dict.updateFrom "dict.__init__" s.heap.objs.size (.ref p) [] .none) _ _ _;unfold Builtin.Dict.updateFrom;have k0:∀b o,s.heap.get? b=some o->(s.heap.push {cls:=.type "dict",data:=.dict #[]}).get? b=some o:=λb o e=>bg _ e;have pD:p≠s.heap.objs.size:=bx Vg;have go:∀(h1:Heap) (tk:Nat) (S:Addr) (fp:List Addr) (St:Nat->Heap->Prop),(∀b o,(s.heap.push {cls:=.type "dict",data:=.dict #[]}).get? b=some o->h1.get? b=some o)->s.heap.objs.size<S->
   Walks X.prog X.w X.A.in1.in1 S fp [S] its.length (λi v=>its.toArray[i]?=some v) St->St 0 h1->s.heap.objs.size∉fp->
   codeAny (model X.prog X.w) X.A.in1 (.builtin "dict.update.loop" ⟨[.ref s.heap.objs.size,.ref S,rawInt 0,.none],[]⟩) (wants (λr U=>r=.none/\EP X pins σ Q (.ref s.heap.objs.size) U) X.xe) {s with heap:=h1,toks:=tk}:=by
  intro h1 tk S fp St k1 hI W XW hDf;have Qp:h1.DictOf (dj X.prog X.w) s.heap.objs.size []:=by
   obtain⟨o,es,ep,G,r⟩:=c;exact⟨o,es,ep,k1 _ o G,r⟩
  refine DP.loop W s.heap.objs.size hDf s.heap key P O (λi v hi hv'=>?_) (λi hi=>?_) (by rw[l];exact hsz) its.length 0 _ [] rfl (bP _) XW Qp (bP _) (λb o _ _ e=>k1 b o (k0 b o e)) λh2 YL Y k2=>?_
  .obtain⟨t,pp,z,L,_⟩:=g i (by rw[<-l];exact hi)
   have e:its[i]?=some v:=by simpa using hv'
   rw[z] at e;cases e;have Z:t<s.heap.objs.size:=L.lt;exact⟨t,rfl,bx Z,by simp only[bE];exact bx (lt_trans Z hI),L⟩
  .obtain⟨t,pp,z,L,B,R,N,y⟩:=g i (by rw[<-l];exact hi)
   rw[R];exact nZ N
  .have hn:H s.heap.objs.size=none:=I.hok.fresh (aF _)
   have R3:∀b o,s.heap.get? b=some o->h2.get? b=some o:=λb o e=>by
    have hb:b<s.heap.objs.size:=aR e;exact k2 b o (bx hb) (by simp only[bE];exact bx (lt_trans hb hI)) (k1 b o (k0 b o e))
   rw[List.drop_zero,l] at Y;have hkv:KV (putAll ps) ((range ps.length).foldl (λacc j=>stored acc (key j) (O j)) []):=R8 rfl λi pp e=>by
    obtain⟨t,pp',z,L,B,R,N,y⟩:=g i (bY.mp e).1;rw[e] at B;cases B;exact⟨R,y⟩
   have hns:(s.heap.objs.size==sysModules)=false:=beq_false_of_ne (j9 I.big);refine⟨rfl,.ref s.heap.objs.size,_,I.laid (t':=YL) (o:=.dK (putAll ps)) R3 (aF _) ⟨?_,hns,_,hkv,Y⟩,rfl,q _ hn⟩;have:=VL ps [];unfold putAll;simp only[nk,zero_add] at this;omega
 rcases E with⟨n,e⟩|⟨n,e⟩
 .have C:=k0 _ _ e
  refine ah (nB (T:="list") ⟨_,C,rfl⟩ ?_);rw[aA (by decide)];refine ah (DP.Tu (s:={s with heap:=s.heap.push {cls:=.type "dict",data:=.dict #[]}}) C hh λh1 M k1=>?_);rw[aA (show(none:Option Value).isNone=true from rfl)];refine ah (iR ?_);have m:h1.IsList p its.toArray:=⟨_,k1 _ _ C,rfl,n,rfl⟩;have x:p<h1.objs.size:=aR (k1 _ _ C);have f:s.heap.objs.size<h1.objs.size:=by obtain⟨o,_,_,G,_⟩:=c;exact aR (k1 _ _ G)
  refine ah (oV (s:={s with heap:=h1,toks:=M}) m ?_);have W:=Walks.list (prog:=X.prog) (w:=X.w) (A:=X.A.in1.in1) hh h1.objs.size p (bx x) its.toArray;rw[cj] at W;refine aB ⟨jJ DP.s9 _,go _ _ _ _ _ (λb o q=>bg _ (k1 b o q)) f W ⟨⟨_,b9 _ rfl,rfl,rfl⟩,m.push _⟩ ?_⟩;simp only[aY,fD,fE,not_or];exact⟨bx f,Ne.symm pD⟩
 .have C:=k0 _ _ e
  refine ah (nB (T:="tuple") ⟨_,C,rfl⟩ ?_);rw[aA (by decide)];refine ah (DP.Tv (s:={s with heap:=s.heap.push {cls:=.type "dict",data:=.dict #[]}}) C hh λh1 M k1=>?_);rw[aA (show(none:Option Value).isNone=true from rfl)];refine ah (iR ?_);have m:h1.IsTuple p its.toArray:=⟨_,k1 _ _ C,rfl,n,rfl⟩;have x:p<h1.objs.size:=aR (k1 _ _ C);have f:s.heap.objs.size<h1.objs.size:=by obtain⟨o,_,_,G,_⟩:=c;exact aR (k1 _ _ G)
  refine ah (wpAny_pyIter_tuple (s:={s with heap:=h1,toks:=M}) m ?_);have W:=Walks.tuple (prog:=X.prog) (w:=X.w) (A:=X.A.in1.in1) hh h1.objs.size p (bx x) its.toArray;rw[cj] at W;refine aB ⟨jJ DP.s9 _,go _ _ _ _ _ (λb o q=>bg _ (k1 b o q)) f W ⟨⟨_,b9 _ rfl,rfl,rfl⟩,m.push _⟩ ?_⟩;simp only[aY,fD,fE,not_or];exact⟨bx f,Ne.symm pD⟩
end
end L2
end
namespace PySem
open Sem (wp)
namespace ZL
section
variable{prog:Program}{w:World}{A:Around}{E:aT}{s:Shared}{z TI TO i1 i2 l1 l2:Addr}{xs ys:Array Value}
theorem MG{R:List Value->Shared->Prop}(k:A.handled=none)(D:ZipApart z TI TO i1 i2 l1 l2)(L:pF z TI TO i1 i2 l1 l2 (s.heap.objs.size+1))(O:rB z TI TO i1 i2 l1 l2 (s.heap.objs.size+1) s.heap.objs.size)(m:min xs.size ys.size<=sizeLine)
  (n:ZS z TI TO i1 i2 l1 l2 (s.heap.objs.size+1) xs ys 0 (s.heap.push {cls:= .type "list",data:= .seq #[]}))
  (h:∀h':Heap,(∀(j:Nat) x y,xs[j]? =some x->ys[j]? =some y->IsPair h' (s.heap.objs.size+1+j) x y)->s.heap.objs.size<h'.objs.size->
   (∀b o,b≠z->b≠TO->b≠i1->b≠i2->s.heap.get? b=some o->h'.get? b=some o)->R (fS (s.heap.objs.size+1) (min xs.size ys.size)).toList {s with heap:=h'}):
  wpAny (model prog w) A (collect (.ref z)) R E s:=by
 unfold collect
 refine ah (uq (gJ PySem.F.entry_proto_collect ?_))
 rw[iS PySem.F.plain_proto_collect _]
 show wpAny _ A.in1 (newList []>>=λl=>again (.builtin "list.__iadd__" ⟨[l,.ref z],[]⟩)) _ _ s
 refine ah (gH ?_)
 refine aB ⟨jJ yl _,gJ PySem.F.entry_list_iadd ?_⟩
 rw[iS yl _]
 have c:(s.heap.push {cls:= .type "list",data:= .seq ([]:List Value).toArray}).get? s.heap.objs.size=some {cls:= .type "list",data:= .seq #[]}:=b9 _ rfl
 show wpAny _ A.in1 (Builtin.List.listExtendWith (.ref s.heap.objs.size) (.ref z) (.ref s.heap.objs.size)) _ _ _
 have key:=Ov (prog:=prog) (w:=w) (A:=A) (s:={s with heap:=s.heap.push {cls:= .type "list",data:= .seq ([]:List Value).toArray}})
  (R:=λ(q:Result) (s':Shared)=>∃(h':Heap) (c':Nat),q= .ok (.ret (.ref s.heap.objs.size))/\s'={s with heap:=h'}/\
   (∀(j:Nat) x y,xs[j]? =some x->ys[j]? =some y->IsPair h' (s.heap.objs.size+1+j) x y)/\h'.get? s.heap.objs.size=some {cls:= .type "list",dict:=none,data:= .seq (fS (s.heap.objs.size+1) (min xs.size ys.size)) c',slots:= #[]}/\
   ∀b o,b≠z->b≠TO->b≠i1->b≠i2->s.heap.get? b=some o->h'.get? b=some o)
  k D L O m (.ref s.heap.objs.size) 0 n c
  (λh' c' a1 a2 a3=>⟨h',c',rfl,rfl,a1,a2,λb o p r t u e=>a3 b o (bx (aR e)) p r t u (bg _ e)⟩)
 refine k9 key (λfin s' x=> ?_) λe s' x=> ?_
 .cases fin with
  |done f=>
   obtain⟨h',c',e,rfl,d,a,g⟩:=x
   cases e
   show wpAny _ A (load s.heap.objs.size>>=_) _ _ _
   refine ah (wpAny_load a ?_)
   exact aB (h h' d (aR a) g)
  |again c₁=>
   refine⟨x.1,lu x.2 λq i y=> ?_⟩
   obtain⟨h',c',rfl,rfl,d,a,g⟩:=y
   show wpAny _ A (load s.heap.objs.size>>=_) _ _ _
   refine ah (wpAny_load a ?_)
   exact aB (h h' d (aR a) g)
 .obtain⟨_,_,v,_⟩:=x
  cases v
theorem MF{Q₁:aT}(g:A.handled=none)(i:s.TypeIs (.ref z) "zip")(D:ZipApart z TI TO i1 i2 l1 l2)(L:pF z TI TO i1 i2 l1 l2 (s.heap.objs.size+1))(O:rB z TI TO i1 i2 l1 l2 (s.heap.objs.size+1) s.heap.objs.size)(d:min xs.size ys.size<=sizeLine)
  (k:ZS z TI TO i1 i2 l1 l2 (s.heap.objs.size+1) xs ys 0 (s.heap.push {cls:= .type "list",data:= .seq #[]}))
  (h:∀h':Heap,(∀(j:Nat) x y,xs[j]? =some x->ys[j]? =some y->IsPair h' (s.heap.objs.size+1+j) x y)->s.heap.objs.size<h'.objs.size->
   (∀b o,b≠z->b≠TO->b≠i1->b≠i2->s.heap.get? b=some o->h'.get? b=some o)->Q₁ (.ref h'.objs.size) {s with heap:=h'.push {cls:= .type "tuple",data:= .seq (fS (s.heap.objs.size+1) (min xs.size ys.size))}}):
  codeAny (model prog w) A (.call (.builtin "tuple.__new__") ⟨[.type "tuple",.ref z],[]⟩) (wants Q₁ E) s:=by
 refine uB ?_
 show wpAny _ A.in1 (do checkBuiltinCall "tuple.__new__" ⟨[.type "tuple",.ref z],[]⟩;again (.builtin "tuple.__new__" ⟨[.type "tuple",.ref z],[]⟩)) _ _ s
 refine ah (wpAny_of_eq (PySem.F.newCall_tuple_1 _) (aB ⟨jJ PySem.F.plain_tuple_new _,gJ PySem.F.entry_tuple_new ?_⟩))
 rw[iS PySem.F.plain_tuple_new _]
 have f:=sub_tuple_self
 have a:=init_tuple_lookup
 have l:=madeHere_tuple
 wp_walk using nB i,MG (A:=A.in1) g D L O d k
 intro h' m c n
 show wpAny _ _ (Builtin.Tuple.tupleExact (fS (s.heap.objs.size+1) (min xs.size ys.size)).toList.toArray>>=λv=>ret v) _ _ _
 unfold Builtin.Tuple.tupleExact
 refine ah (gH ?_ (by show(fS (s.heap.objs.size+1) (min xs.size ys.size)).toList.toArray.size<=sizeLine;simp only[yu];rw[BC];exact d))
 refine aB ?_
 have e:(fS (s.heap.objs.size+1) (min xs.size ys.size)).toList.toArray=fS (s.heap.objs.size+1) (min xs.size ys.size):=by simp
 rw[e]
 exact h h' m c n
end
section
variable{prog:Program}{w:World}{A:Around}{E:aT}{s:Shared}
theorem YS{l1 l2:Addr}{xs ys:Array Value}{Q:aT}(u:A.handled=none)(f:s.heap.IsList l1 xs)(g:s.heap.IsList l2 ys)(v:min xs.size ys.size<=sizeLine)
  (B:∀(h':Heap) (T:Addr),(∀(j:Nat) x y,xs[j]?=some x->ys[j]?=some y->IsPair h' (s.heap.objs.size+6+j) x y/\@LT.lt Nat _ (s.heap.objs.size+6+j) T)->@LT.lt Nat _ (s.heap.objs.size+5) T->
   h'.get? T=some {cls:=.type "tuple",data:=.seq (fS (s.heap.objs.size+6) (min xs.size ys.size))}->
   (∀b o,s.heap.get? b=some o->h'.get? b=some o)->Q (.ref T) {s with heap:=h'}):
  wpAny (model prog w) A (call (.type "zip") [.ref l1,.ref l2]) (λz c=>wpAny (model prog w) A (call (.type "tuple") [z]) Q E c) E s:=by
 have C: @LT.lt Nat _ l1 s.heap.objs.size:=by obtain⟨_,e,_⟩:=f;exact aR e
 have G: @LT.lt Nat _ l2 s.heap.objs.size:=by obtain⟨_,e,_⟩:=g;exact aR e
 refine call_zip_2 f g λa hz h i k l hsz m=>?_;have hsz: @Eq Nat a.objs.size (s.heap.objs.size+5):=hsz;have D:ZipApart (s.heap.objs.size+4) (s.heap.objs.size+2) (s.heap.objs.size+3) s.heap.objs.size (s.heap.objs.size+1) l1 l2:=by
  constructor<;>first|(show(_:Nat)<(_:Nat);omega)|(intro e;have r: @Eq Nat _ _:=e;omega)
 have L:pF (s.heap.objs.size+4) (s.heap.objs.size+2) (s.heap.objs.size+3) s.heap.objs.size (s.heap.objs.size+1) l1 l2 (a.objs.size+1):=by
  rw[hsz];constructor<;>first|(show(_:Nat)<(_:Nat);omega)|(intro e;have r: @Eq Nat _ _:=e;omega)
 have O:rB (s.heap.objs.size+4) (s.heap.objs.size+2) (s.heap.objs.size+3) s.heap.objs.size (s.heap.objs.size+1) l1 l2 (a.objs.size+1) a.objs.size:=by
  rw[hsz];constructor<;>first|(show(_:Nat)<(_:Nat);omega)|(intro e;have r: @Eq Nat _ _:=e;omega)
 have H:ZS (s.heap.objs.size+4) (s.heap.objs.size+2) (s.heap.objs.size+3) s.heap.objs.size (s.heap.objs.size+1) l1 l2 (a.objs.size+1) xs ys 0 (a.push {cls:=.type "list",data:=.seq #[]}):=
  ⟨.inl ⟨rfl,bg _ hz⟩,bg _ h,⟨_,_,bg _ i⟩,k.at λo e=>bg _ e,l.at λo e=>bg _ e,
   f.at λo e=>bg _ (m _ o e),g.at λo e=>bg _ (m _ o e),by rw[eW],λj x y I=>absurd I (qD _)⟩
 refine callType_codes (Q₁:=λobj c=>c.TypeIs obj "tuple"/\Q obj c) called_tuple (PySem.F.typeCall_tuple_1 _) PySem.F.entry_object_init
  (MF (s:={s with heap:=a}) (xs:=xs) (ys:=ys) u ⟨_,hz,rfl⟩ D L O v H λh' J n p=>⟨⟨_,b9 _ rfl,rfl⟩,?_⟩) λobj c d=>?_
 .have t:a.objs.size+1=s.heap.objs.size+6:=by rw[hsz]
  have q:=B (h'.push {cls:=.type "tuple",data:=.seq (fS (s.heap.objs.size+6) (min xs.size ys.size))}) h'.objs.size (λj x y K M=>?_) (by rw[<-hsz];exact n) (b9 _ rfl) λb o e=>?_
  .show Q (.ref h'.objs.size) {s with heap:=h'.push {cls:=.type "tuple",data:=.seq (fS (a.objs.size+1) (min xs.size ys.size))}}
   rw[t];exact q
  .have pr:=J j x y K M
   have pr:IsPair h' (a.objs.size+1+j) x y:=pr;rw[t] at pr;exact⟨bg _ pr,aR pr⟩
  .have N: @LT.lt Nat _ b s.heap.objs.size:=aR e
   have ne:∀j:Nat,b≠s.heap.objs.size+j:=λj z=>by have P: @Eq Nat b (s.heap.objs.size+j):=z;omega
   exact bg _ (p b o (ne 4) (ne 3) (ne 0) (ne 1) (m b o e))
 .exact⟨d.1,PySem.F.args_object_init_2 obj _,object_init_meets called_tuple.init.lookup called_tuple.made (by decide) prog w A.in1 _ c ⟨d.1,rfl,d.2⟩⟩
end
end ZL
end PySem
section
open PySem PySem.Spec PyProof.Rows
namespace L2
section
variable{X:Cx}
def YE(K:Frag)(ta:TA):TE:=λσ H Q=>ta σ H λvs H1=>∃a b xs ys,vs=[.ref a,.ref b]/\aW K H1 a xs/\aW K H1 b ys/\
 ∀(l:Addr) (H':Hp) (ps:List V),lE H1 H'->H1 l=none->H' l=some (.tup ps)->ps.length=min xs.length ys.length->(∀(j:Nat) p,ps[j]?=some p->∃t x y,p=.ref t/\xs[j]?=some x/\ys[j]?=some y/\H' t=some (.tup [x,y]))->Q (.ref l) H'
theorem UX{a b:Expr}{ta:TA}{p1 p2 pos1 pos2:Pos}(P:Gl X "tuple")(R:X.mg "tuple"=none)(S:bootBuiltins "tuple"=some (.type "tuple"))(U:Gl X "zip")(W:X.mg "zip"=none)(Y:bootBuiltins "zip"=some (.type "zip"))(hc:X.calm=true)(ha:PA X [a,b] ta)
  (hs:starEach [a,b] X.env=[(false,eval a X.env),(false,eval b X.env)]:=by rfl)(B:starEach [b] X.env=[(false,eval b X.env)]:=by rfl)
  (hz:starEach [.Call (.Name "zip" p2) [a,b] [] pos2] X.env=[(false,eval (.Call (.Name "zip" p2) [a,b] [] pos2) X.env)]:=by rfl):
  PE X (.Call (.Name "tuple" p1) [.Call (.Name "zip" p2) [a,b] [] pos2] [] pos1) (YE X.K ta):=by
 intro pins s σ H Q I h
 refine l_ (jA I P R S ?_)
 refine nj ?_ hz rfl
 rw[hz]
 refine yi (l_ (jA I U W Y (nj (aK (ha pos2 pins s σ H _ I h) λus c ⟨vs,H1,g,r1,q1⟩=> ?_) (by rw[hs,B]) (by rw[B];rfl))))
 obtain⟨pa,pb,xs,ys,e,hx,hy,q⟩:=q1
 subst e
 obtain⟨u1,u2,rfl,Z,Wc⟩:=vals2 r1
 cases Z
 cases Wc
 obtain⟨C,i,Vd,hz1⟩:=g.list hx
 obtain⟨D,k,Ve,hz2⟩:=g.list hy
 have l1:=i.length
 have l2:=k.length
 refine aK (ZL.YS (E:=X.xe) (Q:=EP X pins σ Q) (g.ok.hd hc) Vd.isList Ve.isList (by simp only[cj];omega) λh' T F m hS kp=> ?_) λz s2 hq=>yj hq
 have em:min C.toArray.size D.toArray.size=min xs.length ys.length:=by simp only[cj];omega
 rw[em] at hS
 have hn:∀j:Nat,H1 (c.heap.objs.size+j)=none:=λj=>g.hok.fresh (qu _ _)
 have QE:∀j:Nat,j<min xs.length ys.length->@LT.lt Nat _ (c.heap.objs.size+6+j) T:=λj hj=>by
  have d:xs[j]? =some (xs[j]'(by omega)):=a_ _
  have f:ys[j]? =some (ys[j]'(by omega)):=a_ _
  obtain⟨u,hu,_⟩:=i.get d
  obtain⟨v,hv,_⟩:=k.get f
  exact(F j u v (by simpa using hu) (by simpa using hv)).2
 have QF:H1 T=none:=g.hok.fresh (by show @LE.le Nat _ c.heap.objs.size T;have: @LT.lt Nat _ (c.heap.objs.size+5) T:=m;omega)
 have pair:∀j:Nat,j<min xs.length ys.length->∃x y u v,xs[j]? =some x/\ys[j]? =some y/\RelV x u/\RelV y v/\IsPair h' (c.heap.objs.size+6+j) u v:=λj hj=>by
  have d:xs[j]? =some (xs[j]'(by omega)):=a_ _
  have f:ys[j]? =some (ys[j]'(by omega)):=a_ _
  obtain⟨u,hu,ru⟩:=i.get d
  obtain⟨v,hv,n⟩:=k.get f
  exact⟨_,_,u,v,d,f,ru,n,(F j u v (by simpa using hu) (by simpa using hv)).1⟩
 let H':Hp:=λb=>if b=T then some (.tup ((range (min xs.length ys.length)).map λj=>V.ref (c.heap.objs.size+6+j))) else
  if c.heap.objs.size+6<=b/\b - (c.heap.objs.size+6)<min xs.length ys.length then some (.tup [(xs[b - (c.heap.objs.size+6)]?).getD .aG,(ys[b - (c.heap.objs.size+6)]?).getD .aG]) else H1 b
 have G:H' (T)=some (.tup ((range (min xs.length ys.length)).map λj=>V.ref (c.heap.objs.size+6+j))):=by
  show(if _ then _ else _)=_
  rw[aA rfl]
 have J:∀(j:Nat) x y,xs[j]? =some x->ys[j]? =some y->H' (c.heap.objs.size+6+j)=some (.tup [x,y]):=λj x y t A=>by
  have j1:=(bY.mp t).1
  have j2:=(bY.mp A).1
  have L:c.heap.objs.size+6+j - (c.heap.objs.size+6)=j:=Nat.add_sub_cancel_left _ _
  have M:j<min xs.length ys.length:=Nat.lt_min.mpr ⟨j1,j2⟩
  show(if _ then _ else if _ then _ else _)=_
  rw[ao (λz=>by have z': @Eq Nat (c.heap.objs.size+6+j) (T):=z;have:=QE j M;omega),aA ⟨qu _ _,by rw[L];exact M⟩,L,t,A]
  rfl
 have hold:lE H1 H':=λb o e=>by
  have hb: @LT.lt Nat _ b c.heap.objs.size:=g.hok.lt e
  show(if _ then _ else if _ then _ else _)=_
  rw[ao (λz=>by have z': @Eq Nat b (T):=z;have: @LT.lt Nat _ (c.heap.objs.size+5) T:=m;omega),ao (λz=>by have z': @LE.le Nat _ (c.heap.objs.size+6) b:=z.1;omega)]
  exact e
 have N:∀b o,H' b=some o->H1 b=some o\/(c.heap.objs.size<=b/\b_ X.prog X.w H' h' b o):=λb o e=>by
  by_cases hb:b=T
  .subst hb
   rw[G] at e
   cases e
   refine .inr ⟨by show @LE.le Nat _ c.heap.objs.size b;have: @LT.lt Nat _ (c.heap.objs.size+5) b:=m;omega,by rw[aM,length_range];omega,(range (min xs.length ys.length)).map λj=>Value.ref (c.heap.objs.size+6+j),?_,⟨_,hS⟩⟩
   have:∀l:List Nat,Vals (l.map λj=>V.ref (c.heap.objs.size+6+j)) (l.map λj=>Value.ref (c.heap.objs.size+6+j)):=λl=>by
    induction l with
    |nil=>exact .nil
    |cons j r ih=>exact .cons rfl ih
   exact this _
  .by_cases O:c.heap.objs.size+6<=b/\b - (c.heap.objs.size+6)<min xs.length ys.length
   .obtain⟨g1,g2⟩:=O
    have eb:b=c.heap.objs.size+6+(b - (c.heap.objs.size+6)):=(Nat.add_sub_cancel' g1).symm
    obtain⟨x,y,u,v,t,A,ru,n,pr⟩:=pair _ g2
    rw[eb,J _ x y t A] at e
    cases e
    refine .inr ⟨cG (qu _ 6) g1,by show 2<=sizeLine;decide,[u,v],.cons ru (.cons n .nil),?_⟩
    rw[eb]
    exact⟨_,pr⟩
   .left
    have e':(if b=T then some (HO.tup ((range (min xs.length ys.length)).map λj=>V.ref (c.heap.objs.size+6+j))) else
     if c.heap.objs.size+6<=b/\b - (c.heap.objs.size+6)<min xs.length ys.length then some (.tup [(xs[b - (c.heap.objs.size+6)]?).getD .aG,(ys[b - (c.heap.objs.size+6)]?).getD .aG]) else H1 b)=some o:=e
    rw[ao hb,ao O] at e'
    exact e'
 refine⟨.ref (T),H',g.many (h':=h') (t':=c.toks) kp hold N,rfl,q _ H' _ hold QF G (by rw[aM,length_range]) λj p e=> ?_⟩
 rw[cu] at e
 cases er:(range (min xs.length ys.length))[j]? with
 |none=>rw[er] at e;cases e
 |some j'=>
  rw[er] at e
  obtain⟨hj,L⟩:=bY.mp er
  rw[List.getElem_range] at L
  subst L
  cases e
  have hj':j<min xs.length ys.length:=by simpa using hj
  obtain⟨x,y,u,v,t,A,_⟩:=pair j hj'
  exact⟨_,x,y,rfl,t,A,J j x y t A⟩
end
theorem KJ:∀{vs:List Value} {ss:List Str},vs.length=ss.length->(∀(i:Nat) v x,vs[i]?=some v->ss[i]?=some x->∃t,v=Value.str x t)->StrsAre vs ss
 |[],[],_,_=>.nil
 |v::vs,x::ss,a,h=>by
  obtain⟨t,rfl⟩:=h 0 v x rfl rfl;exact .cons x t (KJ (by simpa using a) λi b c d e=>h (i+1) b c (by simpa using d) (by simpa using e))
theorem KV.at{kvs:List (Key×V)}{vs:List (Key×Value)}(r:KV kvs vs):∀{i:Nat} {q:Key×Value},vs[i]?=some q->∃p,kvs[i]?=some p/\p.1=q.1/\RelV p.2 q.2:=by
 induction r with
 |nil=>intro i q h;simp at h
 |cons h1 h2 a=>
  intro i q h;cases i with
  |zero=>simp at h;subst h;exact⟨_,rfl,h1⟩
  |succ i=>exact a (by simpa using h)
theorem KV.len{kvs:List (Key×V)}{vs:List (Key×Value)}(r:KV kvs vs):kvs.length=vs.length:=by
 induction r with
 |nil=>rfl
 |cons h1 h2 a=>simp[a]
section
variable{X:Cx}
theorem Inv.Ht{pins:aZ}{σ:St}{H H':Hp}{s:Shared}{h':Heap}{t':Nat}(I:Inv X pins σ H s)(kp:∀b o,s.heap.get? b=some o->h'.get? b=some o)(d:lE H H')
  (a:∀b o,H' b=some o->H b=some o\/((∀u,s.heap.get? b≠some u)/\b_ X.prog X.w H' h' b o)):Inv X pins σ H' {s with heap:=h',toks:=t'}:=by
 refine I.un (h':=h') (t':=t') ⟨λb o q _ _ _=>kp b o q,λb o q _ _ _=>⟨o.slots,kp b o q⟩,λb o q n _=>?_,λb o q _=>⟨o,kp b o q⟩,λb xs q=>d _ _ q,λb o u q=>d _ _ q,λb ps q=>⟨#[],by rw[d _ _ q];simp⟩⟩ λb o q=>?_
 .cases e:H' b with
  |none=>rfl
  |some u=>
   rcases a b u e with z|⟨z,_⟩
   .rw[n] at z;cases z
   .exact absurd q (z _)
 .rcases a b o q with z|⟨_,z⟩
  .exact(I.hok b o z).stay (λc v _ r=>kp c v r) (λc r=>d _ _ r) λc xs r=>d _ _ r
  .exact z
theorem zJ(hc:X.calm=true):eS X (.builtin "sorted") (λxs H Q=>∃(d:Addr) (kvs:List (Key×V)) (ns:List Str),xs=[.ref d]/\H d=some (.dK kvs)/\kvs.map (·.1)=ns.map Sum.inr/\ns.Nodup/\ns.length<64/\
  ∀(l:Addr) (ys:List Str),H l=none->ys.Pairwise strLt->(∀x,x∈ys↔x∈ns)->Q (.ref l) (upd H l (.lst (ys.map V.str)))):=by
 intro pins s σ H xs us Q I r h;obtain⟨d,kvs,ns,rfl,hd,M,G,B,q⟩:=h;obtain⟨u,rfl,Y⟩:=vals1 r;cases Y;obtain⟨hz,Z,vs,rel,dd⟩:=(show b_ X.prog X.w H s.heap d (.dK kvs) from I.hok d _ hd);obtain⟨ep,J⟩:=dd.dictAt;have C:kvs.length=ns.length:=by
  have:=ck List.length M;simpa using this
 have c:vs.length=ns.length:=by rw[<-rel.len,C]
 refine yh kind_sorted plain_sorted entry_sorted (args_sorted1 _) ?_;unfold Builtin.«sorted»;refine ah (m:=checkCount "sorted" 1 1 _) (aB ?_);refine ah (PySem.W.kdu_collect (A:=X.A.in1) (PySem.W.kdl_dict (knd:=dj X.prog X.w) (kvs:=vs) (ep:=ep) Z) (I.ok.hd hc) J (by rw[c];omega) λh1 N acc k1 a=>?_);have f:StrsAre acc.toList ns:=by
  refine KJ (by rw[eN,a.1,c]) λi v x O e2=>?_;rw[qq] at O;obtain⟨k,y,e3,P⟩:=a.2 i v O;obtain⟨p,e5,e6,_⟩:=rel.at e3;have R:(kvs.map (·.1))[i]?=some k:=by rw[cu,e5];exact ck some e6
  rw[M,cu,e2] at R;have e8:k=Sum.inr x:=(Option.some.inj R).symm;rw[e8] at P;rcases jz (show lQ (Sum.inr x) v=true from P) with⟨_,_,z,_⟩|⟨x',t,z,z2⟩
  .cases z
  .cases z;exact⟨t,z2⟩
 have K:acc.toList.length<64:=by rw[eN,a.1,c];exact B
 refine ah (uo ?_);have g:(h1.push (seqObj "list" acc.toList.toArray 0)).get? h1.objs.size=some (seqObj "list" acc.toList.toArray 0):=b9 _ rfl;show wpAny _ _ _ _ _ {s with heap:=h1.push (seqObj "list" acc.toList.toArray 0),toks:=N};refine ah (eY (jj yp ⟨_,g,rfl⟩ yM (list_sort_treeK strKind_oneLt g f.keysOf (λS T rest e=>keyKind_strs (by rw[<-e];exact f)) K λj a1 a2=>⟨_,rfl,?_⟩) (yK _)));obtain⟨D,q1,L,q3⟩:=sorted_out_str f a1 a2;obtain⟨e,he⟩:=yr (out:=(arrOf j).map (·.2)) g;have kp:∀b o,s.heap.get? b=some o->(sortedHeap (h1.push (seqObj "list" acc.toList.toArray 0)) h1.objs.size acc.toList ((arrOf j).map (·.2))).get? b=some o:=λb o q=>by
  have n:=k1 b o q;rw[yt (bx (aR n)) (by rw[qF];exact fX (aR n))];exact bg _ n
 have E:∀u,s.heap.get? h1.objs.size≠some u:=λu z=>gw _ (aR (k1 _ _ z));have U:H h1.objs.size=none:=by
  cases e0:H h1.objs.size with
  |none=>rfl
  |some o=>
   obtain⟨u,z⟩:=(I.hok _ _ e0).obj;exact absurd z (E u)
 refine aB ⟨_,rfl,.ref h1.objs.size,upd H h1.objs.size (.lst (D.map V.str)),?_,rfl,q _ D U (KH (Ku q3) (L.nodup_iff.mpr G)) λx=>L.mem_iff⟩;refine I.Ht (t':=N) kp (lE.new U _) λb o F=>?_;by_cases n:b=h1.objs.size
 .subst n
  rw[fC] at F;cases F;refine .inr ⟨E,?_⟩;refine⟨by rw[aM,L.length_eq];exact iB (cP B (by decide)),((arrOf j).map (·.2)).toList,e,Co q1,?_⟩;rw[yu];exact he
 .rw[bf n] at F
  exact .inl F
end
end L2
end
namespace MA
theorem G5{b d:Int}(g:0<b)(hd:0<d):0<b*d/(Int.gcd b d:Int)/\b∣b*d/(Int.gcd b d:Int)/\d∣b*d/(Int.gcd b d:Int)/\b*d/(Int.gcd b d:Int)<=b*d:=by
 have i:0<(Int.gcd b d:Int):=by
  have:0<Int.gcd b d:=Int.gcd_pos_of_ne_zero_right _ (by omega);omega
 obtain⟨a,c⟩:=uC b d;obtain⟨d',e⟩:=uD b d;have f:b*d/(Int.gcd b d:Int)=a*d:=by
  conv=>lhs;lhs;lhs;rw[c]
  rw[qB,Int.mul_ediv_cancel_left _ (by omega)]
 have j:b*d/(Int.gcd b d:Int)=b*d':=by
  conv=>lhs;lhs;rhs;rw[e]
  rw[oM (Int.gcd b d:Int) d',<-qB,Int.mul_ediv_cancel _ (by omega)]
 refine⟨?_,⟨d',j⟩,⟨a,by rw[f,oM]⟩,lz _ (eZ (gj g hd))⟩;rw[f];refine gj ?_ hd;rcases Int.lt_or_le 0 a with h|h
 .exact h
 .have:(Int.gcd b d:Int)*a<=0:=Int.mul_nonpos_of_nonneg_of_nonpos (eZ i) h
  omega
def bot:List Rat->Int->Int
 |[],b=>b
 |x::r,b=>bot r (b*(rf x).2/(Int.gcd b (rf x).2:Int))
theorem rL:∀(xs:List Rat) (b:Int),0<b->0<bot xs b/\b∣bot xs b/\∀x∈xs,(rf x).2∣bot xs b
 |[],b,h=>⟨h,Int.dvd_refl _,by simp⟩
 |x::r,b,h=>by
  obtain⟨h1,h2,c,_⟩:=G5 h (cX x);obtain⟨d,a,e⟩:=rL r _ h1;refine⟨d,dvd_trans h2 a,λy hy=>?_⟩;rcases aY.mp hy with rfl|hy
  .exact dvd_trans c a
  .exact e y hy
theorem bot_le(D:Int)(c:1<=D):∀(xs:List Rat) (b:Int),0<b->(∀x∈xs,(rf x).2<=D)->bot xs b<=b*D ^ xs.length
 |[],b,_,_=>by simp[bot]
 |x::r,b,h,a=>by
  obtain⟨h1,h2,f,d⟩:=G5 h (cX x);have:=bot_le D c r _ h1 λy e=>a y (bq _ e);refine e_ this ?_;rw[gi,kc,oM (D ^ r.length) D,<-qB];refine CA ?_ (pow_nonneg (by omega));exact e_ d (qL (a x (by simp)) (eZ h))
def gD:List Int->Int->Int
 |[],d=>d
 |n::r,d=>gD r (Int.gcd d n:Int)
theorem Al:∀(ns:List Int) (d:Int),0<=d->0<=gD ns d/\gD ns d∣d/\(∀n∈ns,gD ns d∣n)/\∀k,k∣d->(∀n∈ns,k∣n)->k∣gD ns d
 |[],d,h=>⟨h,Int.dvd_refl _,by simp,λk a _=>a⟩
 |n::r,d,h=>by
  obtain⟨e,b,f,g⟩:=Al r (Int.gcd d n:Int) (by omega);refine⟨e,dvd_trans b (uC d n),λm hm=>?_,λk a c=>g k (Int.dvd_coe_gcd a (c n (by simp))) λm hm=>c m (bq _ hm)⟩;rcases aY.mp hm with rfl|hm
  .exact dvd_trans b (uD d m)
  .exact f m hm
theorem F8{ns:List Int}{d:Int}(h:0<=d){n:Int}(a:n∈ns)(b:0<n):0<gD ns d/\gD ns d<=n:=by
 obtain⟨f,g,c,i⟩:=Al ns d h;have hd:=c n a;have hle:=le_of_dvd b hd;refine⟨?_,hle⟩;rcases Int.lt_or_le 0 (gD ns d) with z|z
 .exact z
 .have e:gD ns d=0:=by omega
  rw[e] at hd;have:=Int.zero_dvd.mp hd;omega
def ups(xs:List Rat):List Int:=xs.map λx=>(rf x).1*(bot xs 1/(rf x).2)
def lw(xs:List Rat):List Int:=(ups xs).map (·/gD (ups xs) 0)
theorem K3{xs:List Rat}{x:Rat}(a:x∈xs)(b:0<x):0<(rf x).1*(bot xs 1/(rf x).2):=by
 obtain⟨h1,_,c⟩:=rL xs 1 (by decide);refine gj (eL b) ?_;exact Int.ediv_pos_of_pos_of_dvd h1 (eZ (cX x)) (c x a)
theorem SA(xs:List Rat):(lw xs).length=xs.length:=by simp[lw,ups]
theorem SD{xs:List Rat}(d:∀x∈xs,0<x):∀n∈lw xs,1<=n:=by
 intro n e;obtain⟨u,b,rfl⟩:=aJ.mp e;obtain⟨x,c,rfl⟩:=aJ.mp b;have a:=K3 c (d x c);obtain⟨f,gl⟩:=F8 (Int.le_refl 0) b a;have:=(Cy f).mpr (by rw[one_mul];exact gl:1*gD (ups xs) 0<=_);exact this
end MA
section
open PySem PySem.Spec PyProof.Rows
namespace DP
open L2
inductive D where
 |aG|bl (b:Bool)|int (i:Int)|str (x:Str)|tup (xs:List D)|ref (r:Nat)|fl (xs:List Int)|exc (c:Str)
inductive C where
 |lst (xs:List D)|dct (kvs:List (Key×D))|bz (o:Obj) (kvs:List (Key×D))|ins (cl:Str) (fs:List (Str×D))
abbrev Ar:=List C
abbrev Io:=Nat->Addr
section
variable(mg:aC)
mutual
def RV(ι:Io)(n:Nat)(H:Hp):D->V->Prop
 |.aG,v=>v=.aG
 |.bl b,v=>v=.bl b
 |.int i,v=>v=.int i
 |.str x,v=>v=.str x
 |.tup ds,v=>∃a xs,v=.ref a/\H a=some (.tup xs)/\au ι n H ds xs
 |.ref r,v=>r<n/\v=.ref (ι r)
 |.fl ns,v=>∃a o,v=.ref a/\H a=some (.bT o (.lst (ns.map V.int)))
 |.exc c,v=>∃a C,v=.ref a/\mg c=some (.ref C)/\H a=some (Oo a C)
def au(ι:Io)(n:Nat)(H:Hp):List D->List V->Prop
 |[],xs=>xs=[]
 |d::ds,xs=>∃x r,xs=x::r/\RV ι n H d x/\au ι n H ds r
end
def RK(ι:Io)(n:Nat)(H:Hp):List (Key×D)->List (Key×V)->Prop
 |[],xs=>xs=[]
 |p::ds,xs=>∃x r,xs=(p.1,x)::r/\RV mg ι n H p.2 x/\RK ι n H ds r
def RF(ι:Io)(n:Nat)(H:Hp):List (Str×D)->List (Str×V)->Prop
 |[],xs=>xs=[]
 |p::ds,xs=>∃x r,xs=(p.1,x)::r/\RV mg ι n H p.2 x/\RF ι n H ds r
def CO(ι:Io)(n:Nat)(H:Hp)(a:Addr):C->Prop
 |.lst ds=>∃xs,H a=some (.lst xs)/\au mg ι n H ds xs
 |.dct kvs=>∃xs,H a=some (.dK xs)/\RK mg ι n H kvs xs
 |.bz o kvs=>∃xs,H a=some (.bT o (.dK xs))/\RK mg ι n H kvs xs
 |.ins cl fs=>∃Cc dx xs,mg cl=some (.ref Cc)/\H a=some (.ins Cc dx xs)/\RF mg ι n H fs xs
structure RA(ι:Io)(H:Hp)(A:Ar):Prop where
 iH:∀r c,A[r]? =some c->CO mg ι A.length H (ι r) c
 inj:∀r q,r<A.length->q<A.length->ι r=ι q->r=q
end
def jD:HO->Bool
 |.lst _|.dK _|.bT _ (.dK _)|.ins _ _ _=>true
 |_=>false
structure Ext(A:Ar)(ι:Io)(H:Hp)(A':Ar)(ι':Io)(H':Hp):Prop where
 len:A.length<=A'.length
 ag:∀r,r<A.length->ι' r=ι r
 im:∀r,r<A.length->∃o,H (ι r)=some o/\jD o=true
 mo:∀b o,H b=some o->(∀r,r<A.length->ι r≠b)->H' b=some o
 nw:∀r,A.length<=r->r<A'.length->H (ι' r)=none
 al:∀b o,H b=some o->∃o',H' b=some o'
theorem Ext.fix{A A':Ar}{ι ι':Io}{H H':Hp}(e:Ext A ι H A' ι' H'){b:Addr}{o:HO}(a:jD o=false)(h:H b=some o):H' b=some o:=e.mo b o h λr c z=>by
 obtain⟨u,h1,h2⟩:=e.im r c;rw[z,h] at h1;cases h1;rw[a] at h2;cases h2
theorem Ext.trans{A g i:Ar}{ι e d:Io}{H H1 H2:Hp}(a:Ext A ι H g e H1)(b:Ext g e H1 i d H2):Ext A ι H i d H2 where
 len:=cG a.len b.len
 ag:=λr h=>(b.ag r (cP h a.len)).trans (a.ag r h)
 im:=a.im
 mo:=λc o h j=>b.mo c o (a.mo c o h j) λr k z=>by
  by_cases f:r<A.length
  .rw[a.ag r f] at z;exact j r f z
  .have:=a.nw r (by omega) k
   rw[z,h] at this;cases this
 nw:=λr h1 h2=>by
  by_cases f:r<g.length
  .rw[b.ag r f];exact a.nw r h1 f
  .have n1:=b.nw r (by omega) h2
   cases q:H (d r) with
   |none=>rfl
   |some o=>
    obtain⟨o',h'⟩:=a.al _ o q
    rw[h'] at n1;cases n1
 al:=λc o h=>by
  obtain⟨l,h1⟩:=a.al c o h
  exact b.al c l h1
section
variable{mg:aC}{A A':Ar}{ι ι':Io}{H H':Hp}
section
variable{n n':Nat}
mutual
theorem RV.ag(k:n<=n')(e:∀r,r<n->ι' r=ι r)(i:∀b o,jD o=false->H b=some o->H' b=some o):∀(d:D) (v:V),RV mg ι n H d v->RV mg ι' n' H' d v
 |.aG,_,h=>h
 |.bl _,_,h=>h
 |.int _,_,h=>h
 |.str _,_,h=>h
 |.tup ds,v,h=>by
  obtain⟨a,xs,f,g,j⟩:=h;exact⟨a,xs,f,i _ _ rfl g,au.ag k e i ds xs j⟩
 |.ref r,v,h=>⟨cP h.1 k,by rw[e r h.1];exact h.2⟩
 |.fl ns,v,h=>by
  obtain⟨a,o,f,g⟩:=h;exact⟨a,o,f,i _ _ rfl g⟩
 |.exc c,v,h=>by
  obtain⟨a,C,f,g,j⟩:=h;exact⟨a,C,f,g,i _ _ rfl j⟩
theorem au.ag(c:n<=n')(a:∀r,r<n->ι' r=ι r)(e:∀b o,jD o=false->H b=some o->H' b=some o):∀(ds:List D) (vs:List V),au mg ι n H ds vs->au mg ι' n' H' ds vs
 |[],_,h=>h
 |d::ds,vs,h=>by
  obtain⟨x,r,f,g,i⟩:=h;exact⟨x,r,f,RV.ag c a e d x g,au.ag c a e ds r i⟩
end
theorem RK.ag(c:n<=n')(a:∀r,r<n->ι' r=ι r)(e:∀b o,jD o=false->H b=some o->H' b=some o):∀(ds:List (Key×D)) (vs:List (Key×V)),RK mg ι n H ds vs->RK mg ι' n' H' ds vs
 |[],_,h=>h
 |d::ds,vs,h=>by
  obtain⟨x,r,f,g,i⟩:=h;exact⟨x,r,f,RV.ag c a e _ x g,RK.ag c a e ds r i⟩
theorem RF.ag(c:n<=n')(a:∀r,r<n->ι' r=ι r)(e:∀b o,jD o=false->H b=some o->H' b=some o):∀(ds:List (Str×D)) (vs:List (Str×V)),RF mg ι n H ds vs->RF mg ι' n' H' ds vs
 |[],_,h=>h
 |d::ds,vs,h=>by
  obtain⟨x,r,f,g,i⟩:=h;exact⟨x,r,f,RV.ag c a e _ x g,RF.ag c a e ds r i⟩
theorem CO.ag{a:Addr}(g:n<=n')(d:∀r,r<n->ι' r=ι r)(i:∀b o,jD o=false->H b=some o->H' b=some o)(j:∀o,H a=some o->H' a=some o):∀(c:C),CO mg ι n H a c->CO mg ι' n' H' a c
 |.lst ds,h=>by
  obtain⟨xs,e,f⟩:=h;exact⟨xs,j _ e,au.ag g d i ds xs f⟩
 |.dct ds,h=>by
  obtain⟨xs,e,f⟩:=h;exact⟨xs,j _ e,RK.ag g d i ds xs f⟩
 |.bz o ds,h=>by
  obtain⟨xs,e,f⟩:=h;exact⟨xs,j _ e,RK.ag g d i ds xs f⟩
 |.ins cl ds,h=>by
  obtain⟨k,dx,xs,l,e,f⟩:=h;exact⟨k,dx,xs,l,j _ e,RF.ag g d i ds xs f⟩
end
theorem RV.ext(e:Ext A ι H A' ι' H')(d:D)(v:V)(h:RV mg ι A.length H d v):RV mg ι' A'.length H' d v:=RV.ag e.len e.ag (λ_ _ m h=>e.fix m h) d v h
theorem au.ext(e:Ext A ι H A' ι' H')(d:List D)(v:List V)(h:au mg ι A.length H d v):au mg ι' A'.length H' d v:=au.ag e.len e.ag (λ_ _ m h=>e.fix m h) d v h
theorem RK.ext(e:Ext A ι H A' ι' H')(d:List (Key×D))(v:List (Key×V))(h:RK mg ι A.length H d v):RK mg ι' A'.length H' d v:=RK.ag e.len e.ag (λ_ _ m h=>e.fix m h) d v h
theorem CO.ext{a:Addr}(e:Ext A ι H A' ι' H')(b:∀o,H a=some o->H' a=some o)(c:C)(h:CO mg ι A.length H a c):CO mg ι' A'.length H' a c:=CO.ag (a:=a) (H:=H) (H':=H') e.len e.ag (λ_ _ m h=>e.fix m h) b c h
theorem au.length:∀{ds:List D} {vs:List V} {n:Nat},au mg ι n H ds vs->ds.length=vs.length
 |[],vs,_,h=>by have h':vs=[]:=h;rw[h'];rfl
 |d::ds,vs,n,h=>by
  obtain⟨x,r,rfl,_,a⟩:=h;simp[au.length a]
theorem au.get:∀{ds:List D} {vs:List V} {n i:Nat} {d:D},au mg ι n H ds vs->ds[i]?=some d->∃v,vs[i]?=some v/\RV mg ι n H d v
 |[],_,_,_,_,_,e=>by simp at e
 |d::ds,vs,n,0,d',h,e=>by
  obtain⟨x,r,rfl,a,_⟩:=h;simp at e;subst e;exact⟨x,rfl,a⟩
 |d::ds,vs,n,i+1,d',h,e=>by
  obtain⟨x,r,rfl,_,b⟩:=h;obtain⟨v,h1,h2⟩:=au.get (i:=i) b (by simpa using e);exact⟨v,by simpa using h1,h2⟩
theorem au.app:∀{ds es:List D} {vs ws:List V} {n:Nat},au mg ι n H ds vs->au mg ι n H es ws->au mg ι n H (ds++es) (vs++ws)
 |[],_,vs,_,_,h,q=>by have h':vs=[]:=h;rw[h'];exact q
 |d::ds,es,vs,ws,n,h,q=>by
  obtain⟨x,r,rfl,a,b⟩:=h;exact⟨x,r++ws,rfl,a,au.app b q⟩
theorem au.take:∀{ds:List D} {vs:List V} {n:Nat} (k:Nat),au mg ι n H ds vs->au mg ι n H (ds.take k) (vs.take k)
 |ds,vs,n,0,h=>by simp[au]
 |[],vs,n,k+1,h=>by have h':vs=[]:=h;rw[h'];simp[au]
 |d::ds,vs,n,k+1,h=>by
  obtain⟨x,r,rfl,a,b⟩:=h;exact⟨x,r.take k,rfl,a,au.take k b⟩
theorem au.drop:∀{ds:List D} {vs:List V} {n:Nat} (k:Nat),au mg ι n H ds vs->au mg ι n H (ds.drop k) (vs.drop k)
 |ds,vs,n,0,h=>by simpa using h
 |[],vs,n,k+1,h=>by have h':vs=[]:=h;rw[h'];simp[au]
 |d::ds,vs,n,k+1,h=>by
  obtain⟨x,r,rfl,b,a⟩:=h;exact au.drop k a
theorem au.set:∀{ds:List D} {vs:List V} {n:Nat} (i:Nat) {d:D} {v:V},au mg ι n H ds vs->RV mg ι n H d v->au mg ι n H (ds.set i d) (vs.set i v)
 |[],vs,n,i,_,_,h,_=>by have h':vs=[]:=h;rw[h'];simp[au]
 |d::ds,vs,n,0,_,_,h,q=>by
  obtain⟨x,r,rfl,b,a⟩:=h;exact⟨_,r,rfl,q,a⟩
 |d::ds,vs,n,i+1,_,_,h,q=>by
  obtain⟨x,r,rfl,b,a⟩:=h;exact⟨x,_,rfl,b,au.set i a q⟩
theorem RA.im(R:RA mg ι H A):∀r,r<A.length->∃o,H (ι r)=some o/\jD o=true:=λr h=>by
 obtain⟨c',b⟩:∃c',A[r]?=some c':=⟨A[r],by rw[a_ h]⟩;have:=R.iH r c' b;cases c' with
 |lst ds=>obtain⟨xs,a,_⟩:=this;exact⟨_,a,rfl⟩
 |dct ds=>obtain⟨xs,a,_⟩:=this;exact⟨_,a,rfl⟩
 |bz o ds=>obtain⟨xs,a,_⟩:=this;exact⟨_,a,rfl⟩
 |ins cl ds=>obtain⟨c,dx,xs,_,a,_⟩:=this;exact⟨_,a,rfl⟩
theorem RA.refl(R:RA mg ι H A):Ext A ι H A ι H:=⟨aF _,λ_ _=>rfl,R.im,λ_ _ h _=>h,λr h1 h2=>absurd h2 (by omega),λ_ o h=>⟨o,h⟩⟩
theorem RA.vC(R:RA mg ι H A){p:Addr}{o:HO}(a:H p=none):Ext A ι H A ι (upd H p o):=
 ⟨aF _,λ_ _=>rfl,R.im,λb u h _=>by rw[bf (dw h a)];exact h,λr h1 h2=>absurd h2 (by omega),λb u h=>⟨u,by rw[bf (dw h a)];exact h⟩⟩
theorem RA.Ab(R:RA mg ι H A){p:Addr}{o:HO}{c:C}(a:H p=none):Ext A ι H (A++[c]) (λr=>if r=A.length then p else ι r) (upd H p o):=
 ⟨by simp,λr h=>by
  show(if r=A.length then p else ι r)=ι r;rw[ao (by omega)],R.im,λb u h _=>by rw[bf (dw h a)];exact h,λr h1 h2=>by
  have e:r=A.length:=by simp at h2;omega
  show H (if r=A.length then p else ι r)=none;rw[aA e];exact a,λb u h=>⟨u,by rw[bf (dw h a)];exact h⟩⟩
theorem RA.nU(R:RA mg ι H A){r:Nat}{o:HO}{c:C}(d:r<A.length):Ext A ι H (A.set r c) ι (upd H (ι r) o):=
 ⟨by simp,λ_ _=>rfl,R.im,λb u h f=>by rw[bf (λe=>f r d e.symm)];exact h,λq h1 h2=>absurd h2 (by simp;omega),λb u h=>by
  by_cases a:b=ι r
  .subst a;exact⟨o,fC⟩
  .exact⟨u,by rw[bf a];exact h⟩⟩
theorem RA.fix(R:RA mg ι H A)(e:Ext A ι H A ι H')(k:∀b o,H b=some o->H' b=some o):RA mg ι H' A:=⟨λr c h=>CO.ext e (λo q=>k _ o q) c (R.iH r c h),R.inj⟩
theorem RA.push{p:Addr}{o:HO}{c:C}(R:RA mg ι H A)(e:H p=none)(hc:CO mg (λr=>if r=A.length then p else ι r) (A.length+1) (upd H p o) p c):
  RA mg (λr=>if r=A.length then p else ι r) (upd H p o) (A++[c])/\Ext A ι H (A++[c]) (λr=>if r=A.length then p else ι r) (upd H p o):=by
 have E:Ext A ι H (A++[c]) (λr=>if r=A.length then p else ι r) (upd H p o):=R.Ab e;have i:∀r,r<A.length->∃u,H (ι r)=some u:=λr h=>by
  obtain⟨c',f⟩:∃c',A[r]?=some c':=⟨A[r],by rw[a_ h]⟩;have:=R.iH r c' f;cases c' with
  |lst ds=>obtain⟨xs,b,_⟩:=this;exact⟨_,b⟩
  |dct ds=>obtain⟨xs,b,_⟩:=this;exact⟨_,b⟩
  |bz o ds=>obtain⟨xs,b,_⟩:=this;exact⟨_,b⟩
  |ins cl ds=>obtain⟨l,dx,xs,_,b,_⟩:=this;exact⟨_,b⟩
 refine⟨⟨λr c' h=>?_,λr q g j h=>?_⟩,E⟩
 .by_cases g:r<A.length
  .rw[iC g] at h
   have:=CO.ext E (a:=ι r) (λo' q=>by rw[bf (dw q e)];exact q) c' (R.iH r c' h);show CO mg _ _ _ (if r=A.length then p else ι r) c';rw[ao (by omega)];exact this
  .have k:r=A.length:=by
    have:=(bY.mp h).1;simp at this;omega
   subst k;simp at h;subst h;show CO mg _ _ _ (if A.length=A.length then p else ι A.length) c;rw[aA rfl];simpa using hc
 .simp at g j
  have h':(if r=A.length then p else ι r)=(if q=A.length then p else ι q):=h;by_cases h1:r=A.length
  .by_cases h2:q=A.length
   .rw[h1,h2]
   .rw[aA h1,ao h2] at h'
    obtain⟨u,d⟩:=i q (by omega);rw[<-h',e] at d;cases d
  .by_cases h2:q=A.length
   .rw[ao h1,aA h2] at h'
    obtain⟨u,d⟩:=i r (by omega);rw[h',e] at d;cases d
   .rw[ao h1,ao h2] at h'
    exact R.inj r q (by omega) (by omega) h'
theorem RA.put{r:Nat}{u o:HO}{c c':C}(R:RA mg ι H A)(i:A[r]?=some c)(m:H (ι r)=some u)(n:jD u=true)(hc:CO mg ι A.length (upd H (ι r) o) (ι r) c'):
  RA mg ι (upd H (ι r) o) (A.set r c')/\Ext A ι H (A.set r c') ι (upd H (ι r) o):=by
 have f:=(bY.mp i).1;have E:Ext A ι H (A.set r c') ι (upd H (ι r) o):=R.nU f;refine⟨⟨λq d h=>?_,λa b j k=>R.inj a b (by simpa using j) (by simpa using k)⟩,E⟩;by_cases g:q=r
 .subst g
  rw[eB f] at h;cases h;simpa using hc
 .rw[eF (Ne.symm g)] at h
  have l:=(bY.mp h).1;have:=CO.ext E (a:=ι q) (λo' z=>by rw[bf (λe=>g (R.inj q r l f e))];exact z) d (R.iH q d h);simpa using this
end
abbrev bO:=List (Option D)
def lk:bO->Nat->Option D
 |[],_=>none
 |x::_,0=>x
 |_::r,i+1=>lk r i
theorem vU:∀(τ:bO) (i:Nat),lk τ i=(τ[i]?).join
 |[],i=>by simp[lk]
 |x::r,0=>by simp[lk]
 |x::r,i+1=>by simp[lk,vU r i]
structure En where
 A:Ar
 ι:Io
 H:Hp
structure RS(mg:aC)(ι:Io)(n:Nat)(H:Hp)(τ:bO)(σ:L2.St):Prop where
 len:τ.length=σ.length
 at':∀i d,lk τ i=some d->∃v,σ[i]?=some (some v)/\RV mg ι n H d v
structure dN(mg:aC)(N:En)(A:Ar)(ι:Io)(τ:bO)(σ:L2.St)(H:Hp):Prop where
 ra:RA mg ι H A
 rs:RS mg ι A.length H τ σ
 ex:Ext N.A N.ι N.H A ι H
abbrev DK:=D->Ar->Prop
abbrev aP:=bO->Ar->DK->Prop
abbrev ff:=bO->Ar->(Bool->Ar->Prop)->Prop
abbrev dD:=bO->Ar->(List D->Ar->Prop)->Prop
def Kt(mg:aC)(A:Ar)(ι:Io)(H:Hp)(R:DK)(Q:VK):Prop:=∀v A' ι' H' u,R v A'->Ext A ι H A' ι' H'->RA mg ι' H' A'->RV mg ι' A'.length H' v u->Q u H'
def pq(mg:aC)(A:Ar)(ι:Io)(H:Hp)(R:Bool->Ar->Prop)(Q:Bool->Hp->Prop):Prop:=∀v A' ι' H',R v A'->Ext A ι H A' ι' H'->RA mg ι' H' A'->Q v H'
def LV(mg:aC)(A:Ar)(ι:Io)(H:Hp)(R:List D->Ar->Prop)(Q:List V->Hp->Prop):Prop:=∀v A' ι' H' u,R v A'->Ext A ι H A' ι' H'->RA mg ι' H' A'->au mg ι' A'.length H' v u->Q u H'
def up(mg:aC)(N:En)(m:aP):TE:=λσ H Q=>∃A ι τ R,dN mg N A ι τ σ H/\m τ A R/\Kt mg A ι H R Q
def cZ(mg:aC)(N:En)(m:ff):TT:=λσ H Q=>∃A ι τ R,dN mg N A ι τ σ H/\m τ A R/\pq mg A ι H R Q
def fW(mg:aC)(N:En)(m:dD):TA:=λσ H Q=>∃A ι τ R,dN mg N A ι τ σ H/\m τ A R/\LV mg A ι H R Q
section
variable{mg:aC}{N:En}{A A':Ar}{ι ι':Io}{τ:bO}{σ:L2.St}{H H':Hp}
theorem RS.ext(e:Ext A ι H A' ι' H')(r:RS mg ι A.length H τ σ):RS mg ι' A'.length H' τ σ:=⟨r.len,λi d h=>by
 obtain⟨v,h1,h2⟩:=r.at' i d h;exact⟨v,h1,RV.ext e d v h2⟩⟩
theorem dN.next(S:dN mg N A ι τ σ H)(e:Ext A ι H A' ι' H')(r:RA mg ι' H' A'):dN mg N A' ι' τ σ H':=⟨r,S.rs.ext e,S.ex.trans e⟩
theorem Kt.from{R:DK}{Q:VK}(k:Kt mg A ι H R Q)(e:Ext A ι H A' ι' H'):Kt mg A' ι' H' R Q:=λv b a H2 u q c=>k v b a H2 u q (e.trans c)
theorem pq.from{R:Bool->Ar->Prop}{Q:Bool->Hp->Prop}(k:pq mg A ι H R Q)(e:Ext A ι H A' ι' H'):pq mg A' ι' H' R Q:=λv b a H2 q c=>k v b a H2 q (e.trans c)
theorem Kt.here{R:DK}{Q:VK}{d:D}{v:V}(k:Kt mg A ι H R Q)(r:RA mg ι H A)(q:R d A)(h:RV mg ι A.length H d v):Q v H:=k d A ι H v q r.refl r h
theorem pq.here{R:Bool->Ar->Prop}{Q:Bool->Hp->Prop}{b:Bool}(k:pq mg A ι H R Q)(r:RA mg ι H A)(q:R b A):Q b H:=k b A ι H q r.refl r
end
section
variable{X:Cx}{e:Expr}
theorem dP{t t':TE}(h:PE X e t)(w:∀σ H Q,t' σ H Q->t σ H Q):PE X e t':=λpins s σ H Q I q=>h pins s σ H Q I (w σ H Q q)
theorem vA{t t':TT}(h:PT X e t)(w:∀σ H Q,t' σ H Q->t σ H Q):PT X e t':=λpins s σ H Q I q=>h pins s σ H Q I (w σ H Q q)
theorem Fy{t t':TT}(h:PW X e t)(w:∀σ H Q,t' σ H Q->t σ H Q):PW X e t':=λwhole pins s σ H Q I q=>h whole pins s σ H Q I (w σ H Q q)
theorem E2{es:List Expr}{t t':TA}(h:PA X es t)(w:∀σ H Q,t' σ H Q->t σ H Q):PA X es t':=λpos pins s σ H Q I q=>h pos pins s σ H Q I (w σ H Q q)
theorem iZ{st:Stmt}{t t':TS}(h:PS X st t)(w:∀D σ H,t' D σ H->t D σ H):PS X st t':=λpins s σ H D I q=>h pins s σ H D I (w D σ H q)
theorem Fx{st:List Stmt}{t t':TS}(h:dY X st t)(w:∀D σ H,t' D σ H->t D σ H):dY X st t':=λpins s σ H D I q=>h pins s σ H D I (w D σ H q)
end
def ir(i:Nat):aP:=λτ A R=>match lk τ i with
 |some v=>R v A
 |none=>False
def dC(d:D):aP:=λ_ A R=>R d A
section
variable{X:Cx}{N:En}{pos:Pos}
theorem NG{i:Nat}{x:Str}(b:X.N[i]?=some x)(c:pC X.env.scope x)(hd:(x==("__debug__":Str))=false:=by decide)(a:(x==("__classdict__":Str))=false:=by decide):PE X (.Name x pos) (up X.mg N (ir i)):=
 dP (UZ b c hd a) λσ H Q h=>by
  obtain⟨A,ι,τ,R,S,h,k⟩:=h;unfold ir at h;split at h
  .rename_i v e
   obtain⟨u,h1,h2⟩:=S.rs.at' i v e;exact⟨u,h1,k.here S.ra h h2⟩
  .exact h.elim
theorem rW{e:Expr}{d:D}{v:V}(h:PE X e (tC v))(r:∀ι n H,RV X.mg ι n H d v):PE X e (up X.mg N (dC d)):=
 dP h λσ H Q h=>by
  obtain⟨A,ι,τ,R,S,h,k⟩:=h;exact k.here S.ra h (r _ _ _)
theorem ai{i j}:PE X (.Constant (.int i) j pos) (up X.mg N (dC (.int i))):=rW UK λ_ _ _=>rfl
theorem iw{b j}:PE X (.Constant (.bool b) j pos) (up X.mg N (dC (.bl b))):=rW Ux λ_ _ _=>rfl
theorem jX{j}:PE X (.Constant .none j pos) (up X.mg N (dC .aG)):=rW UO λ_ _ _=>rfl
theorem bG{x j}:PE X (.Constant (.str x) j pos) (up X.mg N (dC (.str x))):=rW UU λ_ _ _=>rfl
theorem lG{x:Str}{i:Int}{t:Tok}(a:X.mg x=some (.int i t))(b:Gl X x:=by rfl)(hd:(x==("__debug__":Str))=false:=by decide):PE X (.Name x pos) (up X.mg N (dC (.int i))):=
 rW (UI (v:=.int i) b a ⟨_,rfl⟩ hd) λ_ _ _=>rfl
end
abbrev fG:=D->D->Ar->DK->Prop
def fh(mg:aC)(r:R2)(f:fG):Prop:=∀x y A ι H u v R Q,RA mg ι H A->RV mg ι A.length H x u->RV mg ι A.length H y v->f x y A R->Kt mg A ι H R Q->r u v H Q
def dW(f:fG)(ma mb:aP):aP:=λτ A R=>ma τ A λx A1=>mb τ A1 λy A2=>f x y A2 R
section
variable{X:Cx}{N:En}{pos:Pos}{a b c:Expr}{ma mb mc:aP}{f f':fG}{r r':R2}
theorem ya(h:fh X.mg r f){σ:L2.St}{H:Hp}{Q:VK}(q:up X.mg N (dW f ma mb) σ H Q):tS r (up X.mg N ma) (up X.mg N mb) σ H Q:=by
 obtain⟨A,ι,τ,R,S,q,k⟩:=q;have q:ma τ A (λx a=>mb τ a λy b=>f x y b R):=q;refine⟨A,ι,τ,_,S,q,λx a c H1 u i e j l=>?_⟩;refine⟨a,c,τ,_,S.next e j,i,λy b d H2 v m g n v2=>?_⟩;exact h x y b d H2 u v R Q n (RV.ext g x u l) v2 m (k.from (e.trans g))
theorem pK{op:Operator}(c:bL X (binaryOp op) r)(hd:fh X.mg r f)(d:PE X a (up X.mg N ma))(e:PE X b (up X.mg N mb)):PE X (.BinOp a op b pos) (up X.mg N (dW f ma mb)):=
 dP (UQ c d e) λ_ _ _ h=>ya hd h
theorem vf{op:CmpOp}(c:bL X (compareOp op) r)(hd:fh X.mg r f)(d:PE X a (up X.mg N ma))(e:PE X b (up X.mg N mb))(g:behindInMarks op b=false):PE X (.Compare a [op] [b] pos) (up X.mg N (dW f ma mb)):=
 dP (UD c d e g) λ_ _ _ h=>ya hd h
def ig(m:aP):ff:=λτ A R=>m τ A λx A1=>match x with
 |.bl k=>R k A1
 |_=>False
theorem Ci{t:TE}{m:aP}(d:∀σ H Q,up X.mg N m σ H Q->t σ H Q){σ:L2.St}{H:Hp}{Q:Bool->Hp->Prop}(q:cZ X.mg N (ig m) σ H Q):BZ t σ H Q:=by
 obtain⟨A,ι,τ,R,S,q,k⟩:=q;refine d _ _ _ ⟨A,ι,τ,_,S,q,λx e a H1 u c f g h=>?_⟩;cases x with
 |bl b=>exact⟨b,h,k b e a H1 c f g⟩
 |_=>exact c.elim
theorem lH{op:CmpOp}(c:bL X (compareOp op) r)(hd:fh X.mg r f)(d:PE X a (up X.mg N ma))(e:PE X b (up X.mg N mb))(g:behindInMarks op b=false):PT X (.Compare a [op] [b] pos) (cZ X.mg N (ig (dW f ma mb))):=
 vA (VH c d e g) λ_ _ _ h=>Ci (λ_ _ _ h=>ya hd h) h
def rR(f f':fG)(ma mb mc:aP):aP:=λτ A R=>ma τ A λx A1=>mb τ A1 λy A2=>f x y A2 λz A3=>match z with
 |.bl k=>cond k (mc τ A3 λw A4=>f' y w A4 R) (R (.bl false) A3)
 |_=>False
theorem K1(h:fh X.mg r f)(h':fh X.mg r' f'){σ:L2.St}{H:Hp}{Q:VK}(q:up X.mg N (rR f f' ma mb mc) σ H Q):BW r r' (up X.mg N ma) (up X.mg N mb) (up X.mg N mc) σ H Q:=by
 obtain⟨A,ι,τ,R,S,q,k⟩:=q;refine⟨A,ι,τ,_,S,q,λx s e H1 u t a m B=>?_⟩;refine⟨s,e,τ,_,S.next a m,t,λy C g H2 v D c n v2=>?_⟩;refine h x y C g H2 u v _ _ n (RV.ext c x u B) v2 D λz E i L w j d o F=>?_;cases z with
 |bl b=>
  refine⟨b,F,?_⟩;cases b with
  |true=>
   rw[aA rfl];refine⟨E,i,τ,_,((S.next a m).next c n).next d o,j,λz G l I w J p K v4=>?_⟩;exact h' y z G l I v w R Q K (RV.ext (d.trans p) y v v2) v4 J (k.from (((a.trans c).trans d).trans p))
  |false=>
   rw[ao bV];exact(k.from ((a.trans c).trans d)).here o j rfl
 |_=>exact j.elim
theorem Nu{op d:CmpOp}(i:bL X (compareOp op) r)(e:bL X (compareOp d) r')(hd:fh X.mg r f)(g:fh X.mg r' f')(j:PE X a (up X.mg N ma))(k:PE X b (up X.mg N mb))(hc:PE X c (up X.mg N mc))
  (l:lastMarks [op,d] [b,c]=false:=by with_unfolding_all rfl):PE X (.Compare a [op,d] [b,c] pos) (up X.mg N (rR f f' ma mb mc)):=
 dP (UC i e j k hc l) λ_ _ _ h=>K1 hd g h
theorem NZ{op d:CmpOp}(i:bL X (compareOp op) r)(e:bL X (compareOp d) r')(hd:fh X.mg r f)(g:fh X.mg r' f')(j:PE X a (up X.mg N ma))(k:PE X b (up X.mg N mb))(hc:PE X c (up X.mg N mc))
  (l:lastMarks [op,d] [b,c]=false:=by with_unfolding_all rfl):PT X (.Compare a [op,d] [b,c] pos) (cZ X.mg N (ig (rR f f' ma mb mc))):=
 vA (VG i e j k hc l) λ_ _ _ h=>Ci (λ_ _ _ h=>K1 hd g h) h
theorem fu{m:aP}(h:PE X a (up X.mg N m))(b:∀whole,isTrue a X.env whole=(do let v <-whole;standAt a.pos;holding [v] (truthy v)):=by intro _;rfl):PT X a (cZ X.mg N (ig m)):=
 vA (VJ h b) λ_ _ _ q=>Ci (λ_ _ _ h=>h) q
def MV(t u:ff):ff:=λτ A R=>t τ A λc A1=>cond c (u τ A1 R) (R false A1)
def M_(t u:ff):ff:=λτ A R=>t τ A λc A1=>cond c (R true A1) (u τ A1 R)
def M9(t:ff):ff:=λτ A R=>t τ A λc A1=>R (!c) A1
variable{tA tB:ff}{rest:List Expr}
theorem rZ(b:PT X a (cZ X.mg N tA)):PW X (.BoolOp .And [a] pos) (cZ X.mg N tA):=pw_and1 b
theorem iJ(b:PT X a (cZ X.mg N tA)):PW X (.BoolOp .Or [a] pos) (cZ X.mg N tA):=pw_or1 b
theorem pM(g:PT X a (cZ X.mg N tA))(h:PW X (.BoolOp .And (b::rest) pos) (cZ X.mg N tB)):PW X (.BoolOp .And (a::b::rest) pos) (cZ X.mg N (MV tA tB)):=
 Fy (pw_and g h) λσ H Q q=>by
  obtain⟨A,ι,τ,R,S,q,k⟩:=q;refine⟨A,ι,τ,_,S,q,λx i c H1 e d f=>?_⟩;cases x with
  |true=>rw[aA rfl];exact⟨i,c,τ,_,S.next d f,e,k.from d⟩
  |false=>rw[ao bV];exact(k.from d).here f e
theorem gU(g:PT X a (cZ X.mg N tA))(h:PW X (.BoolOp .Or (b::rest) pos) (cZ X.mg N tB)):PW X (.BoolOp .Or (a::b::rest) pos) (cZ X.mg N (M_ tA tB)):=
 Fy (pw_or g h) λσ H Q q=>by
  obtain⟨A,ι,τ,R,S,q,k⟩:=q;refine⟨A,ι,τ,_,S,q,λx i c H1 e d f=>?_⟩;cases x with
  |true=>rw[aA rfl];exact(k.from d).here f e
  |false=>rw[ao bV];exact⟨i,c,τ,_,S.next d f,e,k.from d⟩
theorem fQ(b:PT X a (cZ X.mg N tA)):PT X (.UnaryOp .Not a pos) (cZ X.mg N (M9 tA)):=
 vA (VI b) λσ H Q q=>by
  obtain⟨A,ι,τ,R,S,q,k⟩:=q;exact⟨A,ι,τ,_,S,q,λx g c H1 d e f=>(k.from e).here f d⟩
def MW(ma mb:aP):aP:=λτ A R=>ma τ A λx A1=>match x with
 |.bl c=>cond c (mb τ A1 R) (R (.bl false) A1)
 |_=>False
theorem zV{op}(h:PE X a (up X.mg N ma)):PE X (.BoolOp op [a] pos) (up X.mg N ma):=UP h
theorem zT(h:PE X a (up X.mg N ma))(i:PE X (.BoolOp .And (b::rest) pos) (up X.mg N mb)):PE X (.BoolOp .And (a::b::rest) pos) (up X.mg N (MW ma mb)):=
 dP (Uw h i) λσ H Q q=>by
  obtain⟨A,ι,τ,R,S,q,k⟩:=q;refine⟨A,ι,τ,_,S,q,λx j d H1 u e f g l=>?_⟩;cases x with
  |bl c=>
   refine⟨c,l,?_⟩;cases c with
   |true=>rw[aA rfl];exact⟨j,d,τ,_,S.next f g,e,k.from f⟩
   |false=>rw[ao bV];exact(k.from f).here g e rfl
  |_=>exact e.elim
def M0(t:ff)(ma mb:aP):aP:=λτ A R=>t τ A λc A1=>cond c (ma τ A1 R) (mb τ A1 R)
theorem vh(hc:PT X c (cZ X.mg N tA))(i:PE X a (up X.mg N ma))(j:PE X b (up X.mg N mb)):PE X (.IfExp c a b pos) (up X.mg N (M0 tA ma mb)):=
 dP (UJ hc i j) λσ H Q q=>by
  obtain⟨A,ι,τ,R,S,q,k⟩:=q;refine⟨A,ι,τ,_,S,q,λx f d H1 g e h=>?_⟩;cases x with
  |true=>rw[aA rfl];exact⟨f,d,τ,_,S.next e h,g,k.from e⟩
  |false=>rw[ao bV];exact⟨f,d,τ,_,S.next e h,g,k.from e⟩
end
def u6:dD:=λ_ A R=>R [] A
def rS(m:aP)(n:dD):dD:=λτ A R=>m τ A λx A1=>n τ A1 λxs A2=>R (x::xs) A2
def Nb(n:dD):aP:=λτ A R=>n τ A λxs A1=>xs.length<=sizeLine/\R (.tup xs) A1
def M6(n:dD):aP:=λτ A R=>n τ A λxs A1=>xs.length<=sizeLine/\R (.ref A1.length) (A1++[.lst xs])
section
variable{X:Cx}{N:En}{pos:Pos}{e:Expr}{es:List Expr}{m:aP}{n:dD}
theorem af:PA X [] (fW X.mg N u6):=E2 HW λσ H Q q=>by
 obtain⟨A,ι,τ,R,S,q,k⟩:=q;exact k [] A ι H [] q S.ra.refl S.ra rfl
theorem aa(f:PE X e (up X.mg N m))(g:PA X es (fW X.mg N n))(h:starEach (e::es) X.env=(false,eval e X.env)::starEach es X.env:=by rfl):PA X (e::es) (fW X.mg N (rS m n)):=
 E2 (Bg f g h) λσ H Q q=>by
  obtain⟨A,ι,τ,R,S,q,k⟩:=q;refine⟨A,ι,τ,_,S,q,λx i a H1 u j c l o=>?_⟩;refine⟨i,a,τ,_,S.next c l,j,λy p b H2 v r d s v2=>?_⟩;exact k _ p b H2 _ r (c.trans d) s ⟨u,v,rfl,RV.ext d x u o,v2⟩
theorem we{mg:aC}{A:Ar}{ι:Io}{H:Hp}{R:DK}{Q:VK}{ds:List D}{xs:List V}{p:Addr}(k:Kt mg A ι H R Q)(r:RA mg ι H A)(h:au mg ι A.length H ds xs)(q:R (.tup ds) A)(a:H p=none):Q (.ref p) (upd H p (.tup xs)):=by
 have E:Ext A ι H A ι (upd H p (.tup xs)):=r.vC a;exact k _ A ι _ _ q E (r.fix E λb o z=>by rw[bf (dw z a)];exact z) ⟨p,xs,rfl,fC,au.ext E ds xs h⟩
theorem j6{mg:aC}{A:Ar}{ι:Io}{H:Hp}{R:DK}{Q:VK}{ds:List D}{xs:List V}{p:Addr}(k:Kt mg A ι H R Q)(r:RA mg ι H A)(h:au mg ι A.length H ds xs)(q:R (.ref A.length) (A++[.lst ds]))(a:H p=none):Q (.ref p) (upd H p (.lst xs)):=by
 have E:Ext A ι H (A++[.lst ds]) (λr=>if r=A.length then p else ι r) (upd H p (.lst xs)):=r.Ab a;obtain⟨b,d⟩:=r.push (c:=.lst ds) (o:=.lst xs) a ⟨xs,fC,by simpa using au.ext E ds xs h⟩;refine k _ _ _ _ _ q d b ⟨by simp,?_⟩;show V.ref p=V.ref (if A.length=A.length then p else ι A.length);rw[aA rfl]
theorem bX{c}(h:PA X es (fW X.mg N n)):PE X (.Tuple es c pos) (up X.mg N (Nb n)):=dP (UW h) λσ H Q q=>by
 obtain⟨A,ι,τ,R,S,q,k⟩:=q;refine⟨A,ι,τ,_,S,q,λx i d H1 u a e f b=>?_⟩;exact⟨by rw[<-au.length b];exact a.1,λp g=>we (k.from e) f b a.2 g⟩
theorem cH(h:PA X es (fW X.mg N n)):PE X (.List es pos) (up X.mg N (M6 n)):=dP (UN h) λσ H Q q=>by
 obtain⟨A,ι,τ,R,S,q,k⟩:=q;refine⟨A,ι,τ,_,S,q,λx g c H1 u a d e b=>?_⟩;exact⟨by rw[<-au.length b];exact a.1,λp f=>j6 (k.from d) e b a.2 f⟩
end
section
variable{mg:aC}{K:Frag}{A:Ar}{ι:Io}{H:Hp}
theorem RA.lst(r:RA mg ι H A){q:Nat}{ds:List D}(h:A[q]?=some (.lst ds)):∃xs,H (ι q)=some (.lst xs)/\au mg ι A.length H ds xs:=r.iH q _ h
theorem RA.dct(r:RA mg ι H A){q:Nat}{ds:List (Key×D)}(h:A[q]?=some (.dct ds)):∃xs,H (ι q)=some (.dK xs)/\RK mg ι A.length H ds xs:=r.iH q _ h
theorem RA.bz(r:RA mg ι H A){q:Nat}{o:Obj}{ds:List (Key×D)}(h:A[q]?=some (.bz o ds)):∃xs,H (ι q)=some (.bT o (.dK xs))/\RK mg ι A.length H ds xs:=r.iH q _ h
theorem au.ints:∀(ns:List Int) {n:Nat},au mg ι n H (ns.map D.int) (ns.map V.int)
 |[],_=>rfl
 |i::r,n=>⟨_,_,rfl,rfl,au.ints r⟩
theorem au.HG{n:Nat}{ds:List D}(h:au mg ι n H ds []):ds=[]:=by
 cases ds with
 |nil=>rfl
 |cons d r=>obtain⟨x,r,e,_⟩:=h;cases e
end
abbrev Im(K:Frag):R2:=λx y H Q=>jF (λi j=>.int (i+j)) x y H Q\/(∃i j,x=.str i/\y=.str j/\i.length+j.length<=sizeLine/\Q (.str (i++j)) H)\/Ir K x y H Q\/Iq x y H Q
theorem TM{X:Cx}:bL X (binaryOp .Add) (Im X.K):=T3.or (T4.or (T6.or T5))
@[irreducible] def u0(r q:Nat)(A:Ar)(R:DK):Prop:=match A[r]?,A[q]? with
 |some (.lst xs),some (.lst ys)=>xs.length+ys.length<=sizeLine/\R (.ref A.length) (A++[.lst (xs++ys)])
 |_,_=>False
def zz:fG:=λx y A R=>match x,y with
 |.int i,.int j=>R (.int (i+j)) A
 |.str a,.str b=>a.length+b.length<=sizeLine/\R (.str (a++b)) A
 |.tup xs,.tup ys=>xs.length+ys.length<=sizeLine/\R (.tup (xs++ys)) A
 |.ref r,.ref q=>u0 r q A R
 |_,_=>False
theorem Nd{mg:aC}{K:Frag}:fh mg (Im K) zz:=by
 intro x y A ι H u v R Q ra e f h k;unfold zz at h;split at h
 .cases e;cases f
  exact .inl ⟨_,_,rfl,rfl,k.here ra h rfl⟩
 .cases e;cases f
  exact .inr (.inl ⟨_,_,rfl,rfl,h.1,k.here ra h.2 rfl⟩)
 .obtain⟨a,xs,rfl,g,c⟩:=e
  obtain⟨b,ys,rfl,i,d⟩:=f;refine .inr (.inr (.inl ⟨a,b,xs,ys,rfl,rfl,bQ.of g,bQ.of i,by rw[<-au.length c,<-au.length d];exact h.1,λz=>?_,λ_ z=>?_,λ_ _ p j=>we k ra (c.app d) h.2 j⟩))
  .subst z
   obtain rfl:=au.HG c;exact k.here ra h.2 ⟨b,ys,rfl,i,d⟩
  .subst z
   obtain rfl:=au.HG d;exact k.here ra h.2 ⟨a,xs,rfl,g,by rw[mq];exact c⟩
 .rename_i r q
  unfold u0 at h;split at h
  .rename_i xs ys g i
   obtain⟨l,h1,c⟩:=ra.lst g;obtain⟨vs,h2,d⟩:=ra.lst i;obtain⟨_,rfl⟩:=e;obtain⟨_,rfl⟩:=f;exact .inr (.inr (.inr ⟨_,_,l,vs,rfl,rfl,h1,h2,by rw[<-au.length c,<-au.length d];exact h.1,λp j=>j6 k ra (c.app d) h.2 j⟩))
  .exact h.elim
 .exact h.elim
def intD(C:Int->Int->Prop)(g:Int->Int->D):fG:=λx y A R=>match x,y with
 |.int i,.int j=>C i j/\R (g i j) A
 |_,_=>False
def vL(g:Int->Int->D):fG:=λx y A R=>match x,y with
 |.int i,.int j=>R (g i j) A
 |_,_=>False
theorem u_{mg:aC}{C:Int->Int->Prop}{g:Int->Int->V}{g':Int->Int->D}(a:∀i j ι n H,RV mg ι n H (g' i j) (g i j)):fh mg (rI C g) (intD C g'):=by
 intro x y A ι H u v R Q ra b c h k;unfold intD at h;split at h
 .cases b;cases c
  exact⟨_,_,rfl,rfl,h.1,k.here ra h.2 (a _ _ _ _ _)⟩
 .exact h.elim
theorem EW{mg:aC}{g:Int->Int->V}{g':Int->Int->D}(a:∀i j ι n H,RV mg ι n H (g' i j) (g i j)):fh mg (jF g) (vL g'):=by
 intro x y A ι H u v R Q ra b c h k;unfold vL at h;split at h
 .cases b;cases c
  exact⟨_,_,rfl,rfl,k.here ra h (a _ _ _ _ _)⟩
 .exact h.elim
abbrev X_:fG:=vL λi j=>.int (i - j)
abbrev S2:fG:=intD qV λi j=>.int (i*j)
abbrev NQ:fG:=intD (λ_ j=>0<j/\j.natAbs.log2<9000) λi j=>.int (i/j)
abbrev S0:fG:=intD (λ_ j=>0<j) λi j=>.int (i%j)
abbrev Vk:fG:=intD CQ λi j=>.int (i ^ j.toNat)
section
variable{X:Cx}{N:En}{pos:Pos}{a b c:Expr}{ma mb mc:aP}
theorem c8(c:PE X a (up X.mg N ma))(d:PE X b (up X.mg N mb)):PE X (.BinOp a .Add b pos) (up X.mg N (dW zz ma mb)):=pK TM Nd c d
theorem rX(c:PE X a (up X.mg N ma))(d:PE X b (up X.mg N mb)):PE X (.BinOp a .Sub b pos) (up X.mg N (dW X_ ma mb)):=pK Uq (EW λ_ _ _ _ _=>rfl) c d
theorem fm(c:PE X a (up X.mg N ma))(d:PE X b (up X.mg N mb)):PE X (.BinOp a .Mult b pos) (up X.mg N (dW S2 ma mb)):=pK Ui (u_ λ_ _ _ _ _=>rfl) c d
theorem pJ(c:PE X a (up X.mg N ma))(d:PE X b (up X.mg N mb)):PE X (.BinOp a .FloorDiv b pos) (up X.mg N (dW NQ ma mb)):=pK Ua (u_ λ_ _ _ _ _=>rfl) c d
theorem mQ(c:PE X a (up X.mg N ma))(d:PE X b (up X.mg N mb)):PE X (.BinOp a .Mod b pos) (up X.mg N (dW S0 ma mb)):=pK Uh (u_ λ_ _ _ _ _=>rfl) c d
theorem ND(c:PE X a (up X.mg N ma))(d:PE X b (up X.mg N mb)):PE X (.BinOp a .Pow b pos) (up X.mg N (dW Vk ma mb)):=pK Uo (u_ λ_ _ _ _ _=>rfl) c d
def M7(m:aP):aP:=λτ A R=>m τ A λx A1=>match x with
 |.int i=>R (.int (-i)) A1
 |_=>False
theorem NB(c:PE X a (up X.mg N ma)):PE X (.UnaryOp .USub a pos) (up X.mg N (M7 ma)):=dP (UY Y6 c) λσ H Q q=>by
 obtain⟨A,ι,τ,R,S,q,k⟩:=q;refine⟨A,ι,τ,_,S,q,λx h d H1 u b e f g=>?_⟩;cases x with
 |int i=>cases g;exact⟨i,rfl,(k.from e).here f b rfl⟩
 |_=>exact b.elim
end
abbrev IE:R2:=λx y H Q=>jF (λi j=>.bl (decide (i<j))) x y H Q\/∃i j,x=.str i/\y=.str j/\Q (.bl (decide (i.cps.toList<j.cps.toList))) H
abbrev ID:R2:=λx y H Q=>jF (λi j=>.bl (decide (i<=j))) x y H Q\/∃i j,x=.str i/\y=.str j/\Q (.bl (!decide (j.cps.toList<i.cps.toList))) H
theorem TN{X:Cx}:bL X (compareOp .Lt) IE:=Ue.or Ug
theorem sN{X:Cx}:bL X (compareOp .LtE) ID:=Uc.or Ud
def AW:fG:=λx y A R=>match x,y with
 |.int i,.int j=>R (.bl (decide (i<j))) A
 |.str a,.str b=>R (.bl (decide (a.cps.toList<b.cps.toList))) A
 |_,_=>False
def oh:fG:=λx y A R=>match x,y with
 |.int i,.int j=>R (.bl (decide (i<=j))) A
 |.str a,.str b=>R (.bl (!decide (b.cps.toList<a.cps.toList))) A
 |_,_=>False
theorem Nj{mg:aC}:fh mg IE AW:=by
 intro x y A ι H u v R Q ra a b h k;unfold AW at h;split at h
 .cases a;cases b;exact .inl ⟨_,_,rfl,rfl,k.here ra h rfl⟩
 .cases a;cases b;exact .inr ⟨_,_,rfl,rfl,k.here ra h rfl⟩
 .exact h.elim
theorem rT{mg:aC}:fh mg ID oh:=by
 intro x y A ι H u v R Q ra a b h k;unfold oh at h;split at h
 .cases a;cases b;exact .inl ⟨_,_,rfl,rfl,k.here ra h rfl⟩
 .cases a;cases b;exact .inr ⟨_,_,rfl,rfl,k.here ra h rfl⟩
 .exact h.elim
abbrev Gk:fG:=vL λi j=>.bl (decide (j<i))
theorem Ng{mg:aC}:fh mg (jF λi j=>.bl (decide (j<i))) Gk:=EW λ_ _ _ _ _=>rfl
def GK:D->Bool
 |.aG=>true
 |_=>false
def Bd:fG:=λx y A R=>match y with
 |.aG=>R (.bl (!GK x)) A
 |_=>False
theorem RV.Tz{mg:aC}{ι:Io}{n:Nat}{H:Hp}{x:D}{u:V}(r:RV mg ι n H x u):decide (u=.aG)=GK x:=by
 cases x with
 |aG=>cases r;rfl
 |bl b=>cases r;rfl
 |int b=>cases r;rfl
 |str b=>cases r;rfl
 |tup ds=>obtain⟨a,xs,rfl,_⟩:=r;rfl
 |ref q=>obtain⟨_,rfl⟩:=r;rfl
 |fl ns=>obtain⟨a,o,rfl,_⟩:=r;rfl
 |exc c=>obtain⟨a,C,rfl,_⟩:=r;rfl
theorem Np{mg:aC}:fh mg (λx y H Q=>y=.aG/\Q (.bl (!decide (x=.aG))) H) Bd:=by
 intro x y A ι H u v R Q ra a b h k;unfold Bd at h;split at h
 .cases b
  refine⟨rfl,?_⟩;rw[a.Tz];exact k.here ra h rfl
 .exact h.elim
mutual
def toQ:D->PyData
 |.aG=>.none
 |.bl b=>.bool b
 |.int i=>.int i
 |.str x=>.str x
 |.tup xs=>.tuple (bR xs)
 |.ref _=>.none
 |.fl ns=>.list (ns.map .int)
 |.exc _=>.none
def bR:List D->List PyData
 |[]=>[]
 |d::r=>toQ d::bR r
end
mutual
def gn:D->Bool
 |.tup xs=>gc xs
 |.ref _=>false
 |.exc _=>false
 |_=>true
def gc:List D->Bool
 |[]=>true
 |d::r=>gn d&&gc r
end
def cY(A:Ar):D->PyData
 |.ref r=>match A[r]? with
  |some (.lst xs)=>.list (bR xs)
  |_=>.none
 |d=>toQ d
def jd(A:Ar):D->Bool
 |.ref r=>match A[r]? with
  |some (.lst xs)=>gc xs
  |_=>false
 |d=>gn d
section
variable{mg:aC}{K:Frag}{A:Ar}{ι:Io}{H:Hp}
theorem NT:∀ns:List Int,gO K H (ns.map V.int) (ns.map PyData.int):=gO.ints
mutual
theorem RV.dp{n:Nat}:∀(d:D) (v:V),gn d=true->RV mg ι n H d v->Dp K H v (toQ d)
 |.aG,_,_,h=>by cases h;exact .aG
 |.bl b,_,_,h=>by cases h;exact .bl b
 |.int i,_,_,h=>by cases h;exact .int i
 |.str x,_,_,h=>by cases h;exact .str x
 |.tup ds,v,p,h=>by
  obtain⟨a,xs,rfl,e,r⟩:=h;exact .tup (bQ.of e) (au.dp ds xs (by simpa[gn] using p) r)
 |.ref _,_,p,_=>by simp[gn] at p
 |.fl ns,v,_,h=>by
  obtain⟨a,o,rfl,e⟩:=h;exact .lst (.inl (.inr ⟨o,e⟩)) (NT ns)
 |.exc _,_,p,_=>by simp[gn] at p
theorem au.dp{n:Nat}:∀(ds:List D) (vs:List V),gc ds=true->au mg ι n H ds vs->gO K H vs (bR ds)
 |[],vs,_,h=>by cases (show vs=[] from h);exact .nil
 |d::ds,vs,p,h=>by
  obtain⟨x,r,rfl,h1,h2⟩:=h;have a:gn d=true/\gc ds=true:=by simpa[gc] using p
  exact .cons (RV.dp d x a.1 h1) (au.dp ds r a.2 h2)
end
theorem RA.dp(ra:RA mg ι H A){d:D}{v:V}(p:jd A d=true)(h:RV mg ι A.length H d v):Dp K H v (cY A d):=by
 cases d with
 |ref r=>
  obtain⟨_,rfl⟩:=h;unfold jd at p;unfold cY;simp only at p ⊢;split at p
  .rename_i xs e
   obtain⟨a,h1,b⟩:=ra.lst e;exact .lst (aW.of h1) (au.dp xs a p b)
  .cases p
 |_=>exact RV.dp _ v p h
end
@[irreducible] def gR(neg:Bool)(x y:D)(A:Ar)(R:DK):Prop:=jd A x=true/\jd A y=true/\(cY A x).canLay0=true/\(cY A y).canLay0=true/\min (cY A x).depth (cY A y).depth<=64/\R (.bl (if neg then !PyData.eqv (cY A x) (cY A y) else PyData.eqv (cY A x) (cY A y))) A
def vB:fG:=λx y A R=>match x,y with
 |.int i,.int j=>R (.bl (decide (i=j))) A
 |.str a,.str b=>R (.bl (decide (a=b))) A
 |.bl a,.bl b=>R (.bl (decide (a=b))) A
 |x,y=>gR false x y A R
def v_:fG:=λx y A R=>match x,y with
 |.int i,.int j=>R (.bl (!decide (i=j))) A
 |.str a,.str b=>R (.bl (!decide (a=b))) A
 |.bl a,.bl b=>R (.bl (!decide (a=b))) A
 |x,y=>gR true x y A R
theorem HN{X:Cx}(a:X.A.units+64<cLine):bL X (compareOp .Eq) (λx y H Q=>Bv x y H Q\/Bw X.K x y H Q):=T9.or (T_ a)
theorem HP{X:Cx}(a:X.A.units+64<cLine):bL X (compareOp .NotEq) (λx y H Q=>By x y H Q\/BA X.K x y H Q):=Uj.or (Uk a)
theorem EU{mg:aC}{K:Frag}:fh mg (λx y H Q=>Bv x y H Q\/Bw K x y H Q) vB:=by
 intro x y A ι H u v R Q ra a b h k;unfold vB at h;split at h
 .cases a;cases b
  rename_i i j;refine .inl ⟨rfl,?_⟩;have e:decide (V.int i=V.int j)=decide (i=j):=by simp
  rw[e];exact k.here ra h rfl
 .cases a;cases b
  rename_i i j;refine .inl ⟨rfl,?_⟩;have e:decide (V.str i=V.str j)=decide (i=j):=by simp
  rw[e];exact k.here ra h rfl
 .cases a;cases b
  rename_i i j;refine .inl ⟨rfl,?_⟩;have e:decide (V.bl i=V.bl j)=decide (i=j):=by simp
  rw[e];exact k.here ra h rfl
 .unfold gR at h
  obtain⟨p1,p2,c,d,hd,q⟩:=h;exact .inr ⟨_,_,ra.dp p1 a,ra.dp p2 b,c,d,hd,k.here ra q rfl⟩
theorem EZ{mg:aC}{K:Frag}:fh mg (λx y H Q=>By x y H Q\/BA K x y H Q) v_:=by
 intro x y A ι H u v R Q ra a b h k;unfold v_ at h;split at h
 .cases a;cases b
  rename_i i j;refine .inl ⟨rfl,?_⟩;have e:decide (V.int i=V.int j)=decide (i=j):=by simp
  rw[e];exact k.here ra h rfl
 .cases a;cases b
  rename_i i j;refine .inl ⟨rfl,?_⟩;have e:decide (V.str i=V.str j)=decide (i=j):=by simp
  rw[e];exact k.here ra h rfl
 .cases a;cases b
  rename_i i j;refine .inl ⟨rfl,?_⟩;have e:decide (V.bl i=V.bl j)=decide (i=j):=by simp
  rw[e];exact k.here ra h rfl
 .unfold gR at h
  obtain⟨p1,p2,c,d,hd,q⟩:=h;exact .inr ⟨_,_,ra.dp p1 a,ra.dp p2 b,c,d,hd,k.here ra q rfl⟩
def gm:D->Option Key
 |.int i=>some (.inl i)
 |.str x=>some (.inr x)
 |_=>none
def bw:List (Key×D)->Key->Option D
 |[],_=>none
 |p::r,k=>if p.1=k then some p.2 else bw r k
@[irreducible] def lO(r:Nat)(y:D)(A:Ar)(R:DK):Prop:=match A[r]? with
 |some (.lst xs)=>(match y with
  |.int i=>(match c6 xs i with
   |some v=>R v A
   |none=>False)
  |_=>False)
 |some (.dct kvs)=>(match gm y with
  |some k=>(match bw kvs k with
   |some v=>R v A
   |none=>False)
  |none=>False)
 |some (.bz _ kvs)=>(match gm y with
  |some k=>(match bw kvs k with
   |some v=>R v A
   |none=>False)
  |none=>False)
 |_=>False
def sC:fG:=λx y A R=>match x,y with
 |.tup xs,.int i=>match c6 xs i with
  |some v=>R v A
  |none=>False
 |.str z,.int i=>match c6 z.cps.toList i with
  |some c=>z.length<=sizeLine/\R (.str ⟨#[c]⟩) A
  |none=>False
 |.fl ns,.int i=>match c6 ns i with
  |some c=>R (.int c) A
  |none=>False
 |.ref r,y=>lO r y A R
 |_,_=>False
section
variable{mg:aC}{K:Frag}{A:Ar}{ι:Io}{H:Hp}
theorem au.c6{n:Nat}{ds:List D}{vs:List V}{i:Int}{d:D}(r:au mg ι n H ds vs)(h:L2.c6 ds i=some d):∃v,L2.c6 vs i=some v/\RV mg ι n H d v:=by
 unfold L2.c6 at h ⊢;rw[<-au.length r];cases q:i_ ds.length i with
 |none=>rw[q] at h;cases h
 |some j=>
  rw[q] at h;exact au.get r h
theorem L_{α β:Type}(f:α->β)(xs:List α)(i:Int):L2.c6 (xs.map f) i=(L2.c6 xs i).map f:=by
 unfold L2.c6;rw[aM];cases i_ xs.length i with
 |none=>rfl
 |some j=>simp
theorem RK.get{n:Nat}:∀{kvs:List (Key×D)} {xs:List (Key×V)} {k:Key},RK mg ι n H kvs xs->(∀d,bw kvs k=some d->∃v,fM xs k=some v/\RV mg ι n H d v)/\(bw kvs k=none->fM xs k=none)
 |[],xs,k,h=>by
  cases (show xs=[] from h);exact⟨λd e=>by simp[bw] at e,λ_=>rfl⟩
 |p::r,xs,k,h=>by
  obtain⟨x,r',rfl,h1,h2⟩:=h;obtain⟨b,c⟩:=RK.get (k:=k) h2;unfold bw;by_cases a:p.1=k
  .rw[aA a]
   have e:fM ((p.1,x)::r') k=some x:=by simp[fM,a]
   rw[e];exact⟨λd z=>by cases z;exact⟨x,rfl,h1⟩,λz=>by cases z⟩
  .rw[ao a]
   have e:fM ((p.1,x)::r') k=fM r' k:=by simp[fM,ki,a]
   rw[e];exact⟨b,c⟩
theorem n9{n:Nat}{y:D}{v:V}{k:Key}(h:gm y=some k)(r:RV mg ι n H y v):v=kV k:=by
 cases y with
 |int i=>cases h;exact r
 |str x=>cases h;exact r
 |_=>cases h
end
def Iz:R2:=λx y H Q=>∃a v,x=.ref a/\o9 H a y (some v)/\Q v H
theorem Rt{X:Cx}(i:X.A.units+64<cLine):jQ X Iz:=by
 intro value slice pins s σ H x y v u Q I c d h e;obtain⟨a,z,rfl,g,q⟩:=h;cases c;exact tail_any (NP I g) PySem.F.slot_dict_getitem.lookup (Nf (by omega) I g d λj k f b=>⟨z,H,f,b,q⟩) e
abbrev Iw(K:Frag):R2:=λx y H Q=>Iv K x y H Q\/Iz x y H Q
theorem Rf{X:Cx}(a:X.A.units+64<cLine):jQ X (Iw X.K):=Rv.or (Rt a)
theorem Ni{mg:aC}{K:Frag}:fh mg (Iw K) sC:=by
 intro x y A ι H u v R Q ra i f h k;unfold sC at h;split at h
 .obtain⟨a,xs,rfl,j,b⟩:=i
  cases f;split at h
  .rename_i d e
   obtain⟨z,hz,c⟩:=b.c6 e;exact .inl (.inr (.inl ⟨a,xs,_,z,rfl,rfl,bQ.of j,hz,k.here ra h c⟩))
  .exact h.elim
 .cases i;cases f
  split at h
  .rename_i d e
   exact .inl (.inr (.inr ⟨_,_,_,rfl,rfl,h.1,e,k.here ra h.2 rfl⟩))
  .exact h.elim
 .obtain⟨a,o,rfl,j⟩:=i
  cases f;split at h
  .rename_i d e
   exact .inl (.inl ⟨a,_,_,_,rfl,rfl,.inl (.inr ⟨o,j⟩),by rw[L_,e];rfl,k.here ra h rfl⟩)
  .exact h.elim
 .obtain⟨_,rfl⟩:=i
  unfold lO at h;split at h
  .rename_i xs e
   obtain⟨g,h1,b⟩:=ra.lst e;split at h
   .cases f
    split at h
    .rename_i d e
     obtain⟨z,hz,c⟩:=b.c6 e;exact .inl (.inl ⟨_,g,_,z,rfl,rfl,aW.of h1,hz,k.here ra h c⟩)
    .exact h.elim
   .exact h.elim
  .rename_i kvs e
   obtain⟨g,h1,b⟩:=ra.dct e;split at h
   .rename_i l m
    cases n9 m f;split at h
    .rename_i d n
     obtain⟨z,hz,c⟩:=(RK.get b).1 d n;exact .inr ⟨_,z,rfl,.inl ⟨g,l,.inl h1,rfl,hz.symm⟩,k.here ra h c⟩
    .exact h.elim
   .exact h.elim
  .rename_i o kvs e
   obtain⟨g,h1,b⟩:=ra.bz e;split at h
   .rename_i l m
    cases n9 m f;split at h
    .rename_i d n
     obtain⟨z,hz,c⟩:=(RK.get b).1 d n;exact .inr ⟨_,z,rfl,.inl ⟨g,l,.inr ⟨o,h1⟩,rfl,hz.symm⟩,k.here ra h c⟩
    .exact h.elim
   .exact h.elim
  .exact h.elim
 .exact h.elim
theorem Ny{X:Cx}{N:En}{pos:Pos}{a b:Expr}{ma mb:aP}(c:X.A.units+64<cLine)(d:PE X a (up X.mg N ma))(e:PE X b (up X.mg N mb))(f:zb b):PE X (.Subscript a b pos) (up X.mg N (dW sC ma mb)):=
 dP (UL (Rf c) d e f) λ_ _ _ h=>ya Ni h
structure nI where
 nx:bO->Ar->Prop
 rt:DK
 bk:bO->Ar->Prop:=λ_ _=>False
 ct:bO->Ar->Prop:=λ_ _=>False
abbrev dM:=nI->bO->Ar->Prop
def kr(mg:aC)(A:Ar)(ι:Io)(H:Hp)(R:bO->Ar->Prop)(Q:L2.St->Hp->Prop):Prop:=∀τ A' ι' σ H',R τ A'->Ext A ι H A' ι' H'->RA mg ι' H' A'->RS mg ι' A'.length H' τ σ->Q σ H'
structure uK(mg:aC)(A:Ar)(ι:Io)(H:Hp)(R:nI)(Q:Ends):Prop where
 nx:kr mg A ι H R.nx Q.nx
 rt:Kt mg A ι H R.rt Q.rt
 bk:kr mg A ι H R.bk Q.bk
 ct:kr mg A ι H R.ct Q.ct
def dB(mg:aC)(N:En)(m:dM):TS:=λQ σ H=>∃A ι τ R,dN mg N A ι τ σ H/\m R τ A/\uK mg A ι H R Q
section
variable{mg:aC}{N:En}{A A':Ar}{ι ι':Io}{τ bB:bO}{σ σ':L2.St}{H H':Hp}
theorem kr.from{R:bO->Ar->Prop}{Q:L2.St->Hp->Prop}(k:kr mg A ι H R Q)(e:Ext A ι H A' ι' H'):kr mg A' ι' H' R Q:=λτ b a σ H2 q c=>k τ b a σ H2 q (e.trans c)
theorem uK.from{R:nI}{Q:Ends}(k:uK mg A ι H R Q)(e:Ext A ι H A' ι' H'):uK mg A' ι' H' R Q:=⟨k.nx.from e,k.rt.from e,k.bk.from e,k.ct.from e⟩
theorem kr.here{R:bO->Ar->Prop}{Q:L2.St->Hp->Prop}(k:kr mg A ι H R Q)(S:dN mg N A ι τ σ H)(q:R τ A):Q σ H:=k τ A ι σ H q S.ra.refl S.ra S.rs
theorem dN.to(S:dN mg N A ι τ σ H)(e:Ext A ι H A' ι' H')(r:RA mg ι' H' A')(s:RS mg ι' A'.length H' bB σ'):dN mg N A' ι' bB σ' H':=⟨r,s,S.ex.trans e⟩
theorem Hi:∀(τ:bO) (i:Nat) (d:D),i<τ.length->lk (τ.set i (some d)) i=some d
 |[],i,d,h=>by simp at h
 |x::r,0,d,_=>rfl
 |x::r,i+1,d,h=>Hi r i d (by simpa using h)
theorem Hh:∀(τ:bO) (i j:Nat) (d:Option D),j≠i->lk (τ.set i d) j=lk τ j
 |[],i,j,d,_=>rfl
 |x::r,0,0,d,h=>absurd rfl h
 |x::r,0,j+1,d,_=>rfl
 |x::r,i+1,0,d,_=>rfl
 |x::r,i+1,j+1,d,h=>Hh r i j d (by omega)
theorem RS.set{n:Nat}{i:Nat}{d:D}{v:V}(r:RS mg ι n H τ σ)(h:RV mg ι n H d v):RS mg ι n H (τ.set i (some d)) (σ.set i (some v)):=⟨by simp[r.len],λj e q=>by
 by_cases a:j=i
 .subst a
  by_cases b:j<τ.length
  .rw[Hi _ _ _ b] at q
   cases q;refine⟨v,?_,h⟩;rw[eB (by rw[<-r.len];exact b)]
  .rw[List.set_eq_of_length_le (by omega)] at q
   rw[vU,o7 (by omega)] at q;cases q
 .rw[Hh _ _ _ _ a] at q
  obtain⟨w,h1,h2⟩:=r.at' j e q;exact⟨w,by rw[eF (Ne.symm a)];exact h1,h2⟩⟩
theorem dN.set{i:Nat}{d:D}{v:V}(S:dN mg N A ι τ σ H)(h:RV mg ι A.length H d v):dN mg N A ι (τ.set i (some d)) (σ.set i (some v)) H:=⟨S.ra,S.rs.set h,S.ex⟩
end
def I0:dM:=λR τ A=>R.nx τ A
def BG(t u:dM):dM:=λR τ A=>t {R with nx:=u R} τ A
def BF(m:aP):dM:=λR τ A=>m τ A λ_ A1=>R.nx τ A1
def Wq(m:aP):dM:=λR τ A=>m τ A R.rt
def IZ(c:ff)(t u:dM):dM:=λR τ A=>c τ A λb A1=>cond b (t R τ A1) (u R τ A1)
section
variable{X:Cx}{N:En}{pos:Pos}{st:Stmt}{rest:List Stmt}{t u:dM}{e:Expr}{m:aP}
theorem bM:dY X [] (dB X.mg N I0):=Fx VE λQ σ H q=>by
 obtain⟨A,ι,τ,R,S,q,k⟩:=q;exact k.nx.here S q
theorem av(h1:PS X st (dB X.mg N t))(h2:dY X rest (dB X.mg N u)):dY X (st::rest) (dB X.mg N (BG t u)):=Fx (VD h1 h2) λQ σ H q=>by
 obtain⟨A,ι,τ,R,S,q,k⟩:=q;exact⟨A,ι,τ,_,S,q,⟨λa d b e H1 f c g h=>⟨d,b,a,R,S.to c g h,f,k.from c⟩,k.rt,k.bk,k.ct⟩⟩
theorem ay(h1:PS X st (dB X.mg N t)):dY X [st] (dB X.mg N t):=VF h1
theorem c_(b:PE X e (up X.mg N m))(c:swapsWith e none pos.line X.env=pure false:=by rfl):PS X (.Expr e pos) (dB X.mg N (BF m)):=iZ (Vv b c) λQ σ H q=>by
 obtain⟨A,ι,τ,R,S,q,k⟩:=q;exact⟨A,ι,τ,_,S,q,λv h d H1 u f a g i=>(k.nx.from a).here (S.next a g) f⟩
theorem aN(a:PE X e (up X.mg N m)):PS X (.Return (some e) pos) (dB X.mg N (Wq m)):=iZ (VA a) λQ σ H q=>by
 obtain⟨A,ι,τ,R,S,q,k⟩:=q;exact⟨A,ι,τ,_,S,q,k.rt⟩
theorem bJ{c:Expr}{a b:List Stmt}{tc:ff}(hc:PT X c (cZ X.mg N tc))(i:dY X a (dB X.mg N t))(j:dY X b (dB X.mg N u)):PS X (.If c a b pos) (dB X.mg N (IZ tc t u)):=iZ (Vx hc i j) λQ σ H q=>by
 obtain⟨A,ι,τ,R,S,q,k⟩:=q;refine⟨A,ι,τ,_,S,q,λx f d H1 g e h=>?_⟩;cases x with
 |true=>rw[aA rfl];exact⟨f,d,τ,R,S.next e h,g,k.from e⟩
 |false=>rw[ao bV];exact⟨f,d,τ,R,S.next e h,g,k.from e⟩
end
abbrev kj:=D->bO->Ar->(bO->Ar->Prop)->Prop
abbrev o_:=List D->bO->Ar->(bO->Ar->Prop)->Prop
def tY(mg:aC)(N:En)(g:kj):TG:=λv σ H Q=>∃A ι τ d R,dN mg N A ι τ σ H/\RV mg ι A.length H d v/\g d τ A R/\kr mg A ι H R Q
def xZ(mg:aC)(N:En)(g:o_):kD:=λvs σ H Q=>∃A ι τ ds R,dN mg N A ι τ σ H/\au mg ι A.length H ds vs/\g ds τ A R/\kr mg A ι H R Q
def gN(i:Nat):kj:=λd τ A R=>R (τ.set i (some d)) A
def Gi:o_:=λds τ A R=>match ds with
 |[]=>R τ A
 |_=>False
def Qk(g:kj)(h:o_):o_:=λds τ A R=>match ds with
 |d::r=>g d τ A λCL A1=>h r CL A1 R
 |[]=>False
def gT(n:Nat)(g:o_):kj:=λd τ A R=>match d with
 |.tup ds=>ds.length=n/\g ds τ A R
 |_=>False
section
variable{X:Cx}{N:En}{pos:Pos}{e tg:Expr}{es:List Expr}{m:aP}{g:kj}{gs:o_}
theorem Fg{t t':TG}(h:PG X tg t)(w:∀v σ H Q,t' v σ H Q->t v σ H Q):PG X tg t':=λpins s σ H v u Q I r q=>h pins s σ H v u Q I r (w v σ H Q q)
theorem Fi{t t':kD}(h:ku X es t)(w:∀v σ H Q,t' v σ H Q->t v σ H Q):ku X es t':=λpins s σ H v u Q I r q=>h pins s σ H v u Q I r (w v σ H Q q)
theorem NK{i:Nat}{x:Str}(a:X.N.Nodup)(hi:X.N[i]?=some x)(b:Loc X.env.scope x)(c:X.fn x=true\/X.env.scope.names.lookup x=some .local:=by first|exact .inl rfl|exact .inr rfl|assumption):PG X (.Name x pos) (tY X.mg N (gN i)):=
 Fg (Ib a hi b c) λv σ H Q q=>by
  obtain⟨A,ι,τ,d,R,S,r,q,k⟩:=q;exact k.here (S.set r) q
theorem kG:ku X [] (xZ X.mg N Gi):=Fi oE λv σ H Q q=>by
 obtain⟨A,ι,τ,ds,R,S,r,q,k⟩:=q;unfold Gi at q;split at q
 .exact⟨r,k.here S q⟩
 .exact q.elim
theorem dH(h1:PG X e (tY X.mg N g))(h2:ku X es (xZ X.mg N gs))(f:(assignEach (e::es) X.env).map (·.2)=assign e X.env::(assignEach es X.env).map (·.2):=by rfl):ku X (e::es) (xZ X.mg N (Qk g gs)):=
 Fi (gX h1 h2 f) λv σ H Q q=>by
  obtain⟨A,ι,τ,ds,R,S,r,q,k⟩:=q;cases ds with
  |nil=>exact q.elim
  |cons d ds=>
   obtain⟨x,xs,rfl,h,i⟩:=r;refine⟨x,xs,rfl,A,ι,τ,d,_,S,h,q,λa j b l H1 m c a1 n=>?_⟩;exact⟨j,b,a,ds,R,S.to c a1 n,au.ext c ds xs i,m,k.from c⟩
theorem kF{k n:Nat}(hc:X.calm=true)(h:ku X es (xZ X.mg N gs))(c:(assignEach es X.env).length=n:=by rfl)(b:(assignEach es X.env).findIdx? (·.1)=none:=by rfl):PG X (.Tuple es k pos) (tY X.mg N (gT n gs)):=
 Fg (oB hc h c b) λv σ H Q q=>by
  obtain⟨A,ι,τ,d,R,S,r,q,k⟩:=q;cases d with
  |tup ds=>
   obtain⟨a,xs,rfl,h1,h2⟩:=r;exact⟨a,xs,rfl,bQ.of h1,by rw[<-au.length h2];exact q.1,A,ι,τ,ds,R,S,h2,q.2,k⟩
  |_=>exact q.elim
def tK(i:Nat)(m:aP):dM:=λR τ A=>m τ A λv A1=>R.nx (τ.set i (some v)) A1
theorem NY{i:Nat}{x:Str}{pos':Pos}(b:X.N.Nodup)(hi:X.N[i]?=some x)(c:Loc X.env.scope x)(d:PE X e (up X.mg N m))(f:swapsWith e (some (.Name x pos')) pos.line X.env=pure false:=by rfl)(g:X.fn x=true\/X.env.scope.names.lookup x=some .local:=by first|exact .inl rfl|exact .inr rfl|assumption):
  PS X (.Assign [.Name x pos'] e pos) (dB X.mg N (tK i m)):=iZ (VB b hi c d f g) λQ σ H q=>by
 obtain⟨A,ι,τ,R,S,q,k⟩:=q;exact⟨A,ι,τ,_,S,q,λv o h H1 u j a l n=>(k.nx.from a).here ((S.next a l).set n) j⟩
def Wl(i j:Nat)(n:dD):dM:=λR τ A=>n τ A λvs A1=>match vs with
 |[v,w]=>R.nx ((τ.set i (some v)).set j (some w)) A1
 |_=>False
theorem vv{i j:Nat}{x y:Str}{a b:Expr}{n:dD}{px py pt:Pos}{kt k2 d}(hc:X.calm=true)(h:X.N.Nodup)(hi:X.N[i]? =some x)(l:X.N[j]? =some y)(e:i≠j)
  (m:X.env.scope.names.lookup x=some .local)(o:X.env.scope.names.lookup y=some .local)(p:PA X [a,b] (fW X.mg N n))
  (r:swappedStores [.Tuple [.Name x px,.Name y py] kt pt] (.Tuple [a,b] k2 d) X.env=pure (some [x,y]))
  (s:swapsWithSole [.Tuple [.Name x px,.Name y py] kt pt] (.Tuple [a,b] k2 d) pos.line X.env=pure false:=by rfl):
  PS X (.Assign [.Tuple [.Name x px,.Name y py] kt pt] (.Tuple [a,b] k2 d) pos) (dB X.mg N (Wl i j n)):=iZ (Vy hc h hi l e m o p r s) λQ σ H q=>by
 obtain⟨A,ι,τ,R,S,q,k⟩:=q
 refine⟨A,ι,τ,_,S,q,λvs D t H1 E c g u f=> ?_⟩
 match vs,c,f with
 |[v,w],c,f=>
  obtain⟨z,_,rfl,h1,B,_,rfl,h2,C⟩:=f
  obtain rfl:=C
  exact⟨z,B,rfl,(k.nx.from g).here (((S.next g u).set h1).set h2) c⟩
 |[],c,_=>exact c.elim
 |[_],c,_=>exact c.elim
 |_::_::_::_,c,_=>exact c.elim
end
abbrev DX:=Str->Ar->Prop
abbrev Ct:=List D->Ar->DK->DX->Prop
def LW(mg:aC)(A:Ar)(ι:Io)(H:Hp)(R:DX)(E:XK):Prop:=∀c A' ι' H' C,R c A'->mg c=some (.ref C)->Ext A ι H A' ι' H'->RA mg ι' H' A'->E (.ref C) none H'
def ak(mg:aC)(n:Nat)(S:Ct):Sp:=λvs H Q E=>∃A ι ds R RE,ds.length=n/\RA mg ι H A/\au mg ι A.length H ds vs/\S ds A R RE/\Kt mg A ι H R Q/\LW mg A ι H RE E
def EL(mg:aC)(N:En)(R:DX):XK:=λC _ H'=>∃c A' ι',(∃a,C=.ref a/\mg c=some (.ref a))/\Ext N.A N.ι N.H A' ι' H'/\RA mg ι' H' A'/\R c A'
def zQ(n:Nat)(S:Ct)(RE:DX)(m:dD):aP:=λτ A R=>m τ A λvs A1=>vs.length=n/\S vs A1 R RE
section
variable{X:Cx}{N:En}{k n:Nat}{x:Str}{ps:List Str}{S:Ct}{RE:DX}{e:Expr}{es:List Expr}{m:dD}{p pos:Pos}
theorem Nt(F:aj X.prog X.w X.K X.mg X.base k x ps (ak X.mg n S))(i:dZ k X.A)(j:Passes (bW X.prog X.w) X (EL X.mg N RE))(l:PA X (e::es) (fW X.mg N m))(o:Gl X x:=by rfl)(a:(x==("__debug__":Str))=false:=by decide)
  (r:starEach (e::es) X.env=(false,eval e X.env)::starEach es X.env:=by rfl)(b:(backTo pos (starEach es X.env)).any (·.1)=false:=by rfl):
  PE X (.Call (.Name x p) (e::es) [] pos) (up X.mg N (zQ n S RE m)):=dP (UB F i j l o a r b) λσ H Q q=>by
 obtain⟨A,ι,τ,R,Z,q,k⟩:=q;refine⟨A,ι,τ,_,Z,q,λvs s d H1 t g h u v=>?_⟩;show ak X.mg n S (t++[]) H1 Q (EL X.mg N RE);rw[mq];exact⟨s,d,vs,R,RE,g.1,u,v,g.2,k.from h,λc y f H2 C z hc B D=>⟨c,y,f,⟨C,rfl,hc⟩,(Z.ex.trans h).trans B,D,z⟩⟩
end
def lU(n:Nat)(ds:List D):bO:=ds.map some++replicate n none
theorem AV:∀(ds:List D) (n i:Nat) (d:D),lk (lU n ds) i=some d->ds[i]?=some d
 |[],n,i,d,h=>by
  rw[vU] at h;simp[lU,List.getElem?_replicate] at h;split at h<;>simp at h
 |x::r,n,0,d,h=>by simpa[lU,lk] using h
 |x::r,n,i+1,d,h=>by simpa using AV r n i d h
theorem TopD.jY{P:Program}{w:World}{K:Frag}{mg:aC}{base:Heap}{x:Str}{st:Stmt}{Nm ps:List Str}{k n:Nat}{S:Ct}(T:TopD K mg x st ps)(Sc:aX Nm ps (aI st))(D:ps.length=n)(W:ps.length<=Nm.length)
  (g:∀(N:En) (RE:DX) (X:Cx),X.prog=P->X.w=w->X.K=K->X.mg=mg->X.base=base->X.N=Nm->X.calm=true->X.ex=[]->(∃f j A outer s H E,X=c7 (bW P w) P w K mg base Nm x (aI st) f j A outer s H E)->dZ k X.A->Raises X (EL X.mg N RE)->Passes (bW X.prog X.w) X (EL X.mg N RE)->
   ∀ds A R,S ds A R RE->ds.length=n->∃m,dY X (iI st) (dB X.mg N m)/\m {nx:=λ_ A'=>R .aG A',rt:=R} (lU (Nm.length - n) ds) A):aj P w K mg base (k+1) x ps (ak mg n S):=by
 refine T.fnX Sc (λvs H Q E h=> ?_) λf j A outer s H vs Q E F h=> ?_
 .obtain⟨A,ι,ds,R,RE,t,_,o,_⟩:=h
  rw[<-au.length o,t,D]
 .obtain⟨p,l,ds,R,RE,t,ra,o,G,y,J⟩:=h
  have B:∀C a H',EL mg ⟨p,l,H⟩ RE C a H'->E C none H':=λC a H' z=>by
   obtain⟨c,A',ι',⟨b,rfl,hc⟩,ex,r,q⟩:=z
   exact J c A' ι' H' b q hc ex r
  obtain⟨m,L,M⟩:=g ⟨p,l,H⟩ RE (c7 (bW P w) P w K mg base Nm x (aI st) f j A outer s H E) rfl rfl rfl rfl rfl rfl rfl rfl ⟨_,_,_,_,_,_,_,rfl⟩ F
   (λpins σ H1 u e h' C args I O z=>IG pins σ H1 u e h' C args I O (B _ _ _ z))
   (λpins σ H1 u e s' I z=>H8 pins σ H1 u e s' I (by
    obtain⟨a,C,H',h1,h2,U⟩:=z
    exact⟨a,C,H',h1,h2,B _ _ _ U⟩)) ds p R G t
  have V:=au.length o
  refine⟨_,L,p,l,_,_,⟨ra,⟨?_,λi d q=> ?_⟩,ra.refl⟩,M,⟨λτ A' ι' σ H' q e r _=>y _ A' ι' H' _ q e r rfl,y,λ_ _ _ _ _ q _ _ _=>q.elim,λ_ _ _ _ _ q _ _ _=>q.elim⟩⟩
  .simp[lU,L2.start]
   omega
  .obtain⟨v,h1,h2⟩:=au.get o (AV ds _ i d q)
   refine⟨v,?_,h2⟩
   have hi:=(bY.mp h1).1
   unfold L2.start
   rw[iC (by simpa using hi),cu,h1]
   rfl
abbrev gM:=List D->Ar->DK->Prop
def iE(mg:aC)(r:List V->Hp->VK->Prop)(f:gM):Prop:=∀ds A ι H us R Q,RA mg ι H A->au mg ι A.length H ds us->f ds A R->Kt mg A ι H R Q->r us H Q
def rQ(f:gM)(m:dD):aP:=λτ A R=>m τ A λvs A1=>f vs A1 R
section
variable{X:Cx}{N:En}{e:Expr}{es:List Expr}{m:dD}{p pos:Pos}{f:gM}{r:List V->Hp->VK->Prop}{x:Str}{id T:String}
theorem K0(h:iE X.mg r f){σ:L2.St}{H:Hp}{Q:VK}(q:up X.mg N (rQ f m) σ H Q):BV r (fW X.mg N m) σ H Q:=by
 obtain⟨A,ι,τ,R,S,q,k⟩:=q;exact⟨A,ι,τ,_,S,q,λvs b a H1 c d e g i=>h vs b a H1 c R Q g i d (k.from e)⟩
theorem dO(hc:eS X (.builtin id) r)(hd:iE X.mg r f)(c:X.mg x=none)(d:bootBuiltins x=some (.builtin id))(g:PA X (e::es) (fW X.mg N m))(i:Gl X x:=by rfl)(j:x≠"__name__":=by decide)(a:(x==("__debug__":Str))=false:=by decide)
 (k:starEach (e::es) X.env=(false,eval e X.env)::starEach es X.env:=by rfl)(b:(backTo pos (starEach es X.env)).any (·.1)=false:=by rfl):PE X (.Call (.Name x p) (e::es) [] pos) (up X.mg N (rQ f m)):=dP (H_ hc i c d g j a k b) λ_ _ _ h=>K0 hd h
theorem iy(hc:eS X (.type T) r)(hd:iE X.mg r f)(c:X.mg x=none)(d:bootBuiltins x=some (.type T))(g:PA X (e::es) (fW X.mg N m))(i:Gl X x:=by rfl)(j:x≠"__name__":=by decide)(a:(x==("__debug__":Str))=false:=by decide)
 (k:starEach (e::es) X.env=(false,eval e X.env)::starEach es X.env:=by rfl)(b:(backTo pos (starEach es X.env)).any (·.1)=false:=by rfl):PE X (.Call (.Name x p) (e::es) [] pos) (up X.mg N (rQ f m)):=dP (UA hc i c d g j a k b) λ_ _ _ h=>K0 hd h
end
@[irreducible] def vR(r:Nat)(A:Ar)(R:DK):Prop:=match A[r]? with
 |some (.lst xs)=>R (.int xs.length) A
 |some (.dct kvs)=>R (.int kvs.length) A
 |_=>False
def G6:gM:=λvs A R=>match vs with
 |[.tup xs]=>R (.int xs.length) A
 |[.str z]=>z.length<=sizeLine/\R (.int z.length) A
 |[.fl ns]=>R (.int ns.length) A
 |[.ref r]=>vR r A R
 |_=>False
theorem RK.length{mg:aC}{ι:Io}{H:Hp}:∀{ds:List (Key×D)} {vs:List (Key×V)} {n:Nat},RK mg ι n H ds vs->ds.length=vs.length
 |[],vs,_,h=>by have h':vs=[]:=h;rw[h'];rfl
 |d::ds,vs,n,h=>by
  obtain⟨x,r,rfl,_,a⟩:=h;simp[RK.length a]
theorem iW{X:Cx}:eS X (.builtin "len") (λxs H Q=>(∃p ys,xs=[.ref p]/\(aW X.K H p ys\/bQ X.K H p ys)/\Q (.int ys.length) H)\/(∃z,xs=[.str z]/\z.length<=sizeLine/\Q (.int z.length) H)\/∃a kvs,xs=[V.ref a]/\H a=some (.dK kvs)/\Q (.int kvs.length) H):=Mr.or (Ms.or Mq)
theorem iu{mg:aC}{K:Frag}:iE mg (λxs H Q=>(∃p ys,xs=[.ref p]/\(aW K H p ys\/bQ K H p ys)/\Q (.int ys.length) H)\/(∃z,xs=[.str z]/\z.length<=sizeLine/\Q (.int z.length) H)\/∃a kvs,xs=[V.ref a]/\H a=some (.dK kvs)/\Q (.int kvs.length) H) G6:=by
 intro ds A ι H c R Q ra rs h k;unfold G6 at h;split at h
 .obtain⟨_,_,rfl,⟨a,xs,rfl,d,b⟩,rfl⟩:=rs
  exact .inl ⟨a,xs,rfl,.inr (bQ.of d),k.here ra h (by rw[au.length b];rfl)⟩
 .obtain⟨_,_,rfl,rfl,rfl⟩:=rs
  exact .inr (.inl ⟨_,rfl,h.1,k.here ra h.2 rfl⟩)
 .obtain⟨_,_,rfl,⟨a,o,rfl,d⟩,rfl⟩:=rs
  exact .inl ⟨a,_,rfl,.inl (.inl (.inr ⟨o,d⟩)),k.here ra h (by rw[aM];rfl)⟩
 .obtain⟨_,_,rfl,⟨_,rfl⟩,rfl⟩:=rs
  unfold vR at h;split at h
  .rename_i xs e
   obtain⟨c,h1,b⟩:=ra.lst e;exact .inl ⟨_,c,rfl,.inl (aW.of h1),k.here ra h (by rw[au.length b];rfl)⟩
  .rename_i xs e
   obtain⟨c,h1,b⟩:=ra.dct e;exact .inr (.inr ⟨_,c,rfl,h1,k.here ra h (by rw[RK.length b];rfl)⟩)
  .exact h.elim
 .exact h.elim
@[irreducible] def vW(r:Nat)(A:Ar)(R:DK):Prop:=match A[r]? with
 |some (.lst xs)=>R (.ref A.length) (A++[.lst xs])
 |_=>False
def Hr:gM:=λvs A R=>match vs with
 |[.tup xs]=>R (.ref A.length) (A++[.lst xs])
 |[.fl ns]=>R (.ref A.length) (A++[.lst (ns.map .int)])
 |[.ref r]=>vW r A R
 |_=>False
theorem EY{mg:aC}{K:Frag}:iE mg (λxs H Q=>∃p ys,xs=[.ref p]/\(aW K H p ys\/bQ K H p ys)/\∀l,H l=none->Q (.ref l) (upd H l (.lst ys))) Hr:=by
 intro ds A ι H f R Q ra rs h k;unfold Hr at h;split at h
 .obtain⟨_,_,rfl,⟨a,xs,rfl,c,d⟩,rfl⟩:=rs
  exact⟨a,xs,rfl,.inr (bQ.of c),λp b=>j6 k ra d h b⟩
 .obtain⟨_,_,rfl,⟨a,o,rfl,c⟩,rfl⟩:=rs
  exact⟨a,_,rfl,.inl (.inl (.inr ⟨o,c⟩)),λp b=>j6 k ra (au.ints _) h b⟩
 .obtain⟨_,_,rfl,⟨_,rfl⟩,rfl⟩:=rs
  unfold vW at h;split at h
  .rename_i xs e
   obtain⟨f,h1,d⟩:=ra.lst e;exact⟨_,f,rfl,.inl (aW.of h1),λp b=>j6 k ra d h b⟩
  .exact h.elim
 .exact h.elim
@[irreducible] def xY(r:Nat)(A:Ar)(R:DK):Prop:=match A[r]? with
 |some (.lst xs)=>R (.tup xs) A
 |_=>False
def KW:gM:=λvs A R=>match vs with
 |[.tup xs]=>R (.tup xs) A
 |[.ref r]=>xY r A R
 |_=>False
theorem rV{mg:aC}{K:Frag}:iE mg (λxs H Q=>∃p ys,xs=[.ref p]/\((aW K H p ys/\∀l,H l=none->Q (.ref l) (upd H l (.tup ys)))\/(bQ K H p ys/\Q (.ref p) H))) KW:=by
 intro ds A ι H c R Q ra rs h k;unfold KW at h;split at h
 .obtain⟨_,_,rfl,⟨a,xs,rfl,d,b⟩,rfl⟩:=rs
  exact⟨a,xs,rfl,.inr ⟨bQ.of d,k.here ra h ⟨a,xs,rfl,d,b⟩⟩⟩
 .obtain⟨_,_,rfl,⟨_,rfl⟩,rfl⟩:=rs
  unfold xY at h;split at h
  .rename_i xs e
   obtain⟨c,h1,b⟩:=ra.lst e;exact⟨_,c,rfl,.inl ⟨aW.of h1,λp f=>we k ra b h f⟩⟩
  .exact h.elim
 .exact h.elim
def maxD:gM:=λvs A R=>match vs with
 |[.int i,.int j]=>R (.int (if j>i then j else i)) A
 |_=>False
theorem Nk{mg:aC}:iE mg (λxs H Q=>∃i j,xs=[.int i,.int j]/\Q (.int (if j>i then j else i)) H) maxD:=by
 intro ds A ι H a R Q ra rs h k;unfold maxD at h;split at h
 .obtain⟨_,_,rfl,rfl,_,_,rfl,rfl,rfl⟩:=rs
  exact⟨_,_,rfl,k.here ra h rfl⟩
 .exact h.elim
def ju:List D->Option (List Bool)
 |[]=>some []
 |.bl b::r=>(ju r).map (b::·)
 |_::_=>none
def i9:List D->Option (List Int)
 |[]=>some []
 |.int b::r=>(i9 r).map (b::·)
 |_::_=>none
theorem zF{mg:aC}{ι:Io}{n:Nat}{H:Hp}:∀{ds:List D} {a:List V} {bs:List Bool},ju ds=some bs->au mg ι n H ds a->a=bs.map V.bl
 |[],a,bs,h,r=>by cases h;exact r
 |d::ds,a,bs,h,r=>by
  obtain⟨x,r',rfl,h1,h2⟩:=r;cases d with
  |bl b=>
   cases q:ju ds with
   |none=>simp[ju,q] at h
   |some l=>
    simp[ju,q] at h;subst h;rw[zF q h2];cases h1;rfl
  |_=>simp[ju] at h
theorem vM{mg:aC}{ι:Io}{n:Nat}{H:Hp}:∀{ds:List D} {a:List V} {bs:List Int},i9 ds=some bs->au mg ι n H ds a->a=bs.map V.int
 |[],a,bs,h,r=>by cases h;exact r
 |d::ds,a,bs,h,r=>by
  obtain⟨x,r',rfl,h1,h2⟩:=r;cases d with
  |int b=>
   cases q:i9 ds with
   |none=>simp[i9,q] at h
   |some l=>
    simp[i9,q] at h;subst h;rw[vM q h2];cases h1;rfl
  |_=>simp[i9] at h
@[irreducible] def allR(r:Nat)(A:Ar)(R:DK):Prop:=match A[r]? with
 |some (.lst xs)=>(match ju xs with
  |some bs=>R (.bl (bs.all id)) A
  |none=>False)
 |_=>False
def D0:gM:=λvs A R=>match vs with
 |[.ref r]=>allR r A R
 |_=>False
theorem u7{mg:aC}{K:Frag}:iE mg (λxs H Q=>∃(p:Addr) (bs:List Bool),xs=[.ref p]/\aW K H p (bs.map V.bl)/\Q (.bl (bs.all id)) H) D0:=by
 intro ds A ι H a R Q ra rs h k;unfold D0 at h;split at h
 .obtain⟨_,_,rfl,⟨_,rfl⟩,rfl⟩:=rs
  unfold allR at h;split at h
  .rename_i xs e
   split at h
   .rename_i bs b
    obtain⟨a,h1,c⟩:=ra.lst e;exact⟨_,bs,rfl,aW.of (by rw[h1,zF b c]),k.here ra h rfl⟩
   .exact h.elim
  .exact h.elim
 .exact h.elim
@[irreducible] def xU(r:Nat)(A:Ar)(R:DK):Prop:=match A[r]? with
 |some (.lst xs)=>(match i9 xs with
  |some ns=>(∀n∈ns,0<=n/\n<=2 ^ 40)/\ns.length<=1000/\R (.int ns.sum) A
  |none=>False)
 |_=>False
def KL:gM:=λvs A R=>match vs with
 |[.ref r]=>xU r A R
 |_=>False
theorem Nr{mg:aC}{K:Frag}:iE mg (λxs H Q=>∃(p:Addr) (ns:List Int),xs=[.ref p]/\aW K H p (ns.map V.int)/\(∀n∈ns,0<=n/\n<=2 ^ 40)/\ns.length<=1000/\Q (.int ns.sum) H) KL:=by
 intro ds A ι H a R Q ra rs h k;unfold KL at h;split at h
 .obtain⟨_,_,rfl,⟨_,rfl⟩,rfl⟩:=rs
  unfold xU at h;split at h
  .rename_i xs e
   split at h
   .rename_i bs b
    obtain⟨a,h1,c⟩:=ra.lst e;exact⟨_,bs,rfl,aW.of (by rw[h1,vM b c]),h.1,h.2.1,k.here ra h.2.2 rfl⟩
   .exact h.elim
  .exact h.elim
 .exact h.elim
def nh(A:Ar):D->Option String
 |.aG=>some "NoneType"
 |.bl _=>some "bool"
 |.int _=>some "int"
 |.str _=>some "str"
 |.tup _=>some "tuple"
 |.fl _=>some "list"
 |.exc _=>none
 |.ref r=>match A[r]? with
  |some (.lst _)=>some "list"
  |some (.dct _)=>some "dict"
  |_=>none
def lN(t c:String):Bool:=t==c||(t=="bool"&&c=="int")
def MZ(c:String)(m:aP):aP:=λτ A R=>m τ A λx A1=>match nh A1 x with
 |some t=>R (.bl (lN t c)) A1
 |none=>False
def tys:List String:=["NoneType","bool","int","str","tuple","list","dict"]
theorem Y0{A:Ar}{d:D}{t:String}(h:nh A d=some t):t∈tys:=by
 cases d with
 |ref r=>
  unfold nh at h;simp only at h;split at h<;>first|(cases h;decide)|cases h
 |exc c=>cases h
 |_=>cases h;decide
theorem RA.ty{mg:aC}{K:Frag}{A:Ar}{ι:Io}{H:Hp}(ra:RA mg ι H A){d:D}{v:V}{t:String}(h:nh A d=some t)(r:RV mg ι A.length H d v):rA K H v (.type t):=by
 cases d with
 |aG=>cases h;cases r;exact .of .aG
 |bl b=>cases h;cases r;exact .of (.bl b)
 |int b=>cases h;cases r;exact .of (.int b)
 |str b=>cases h;cases r;exact .of (.str b)
 |tup ds=>cases h;obtain⟨a,xs,rfl,e,_⟩:=r;exact .of (.tup e)
 |fl ns=>cases h;obtain⟨a,o,rfl,e⟩:=r;exact .of (.bT e)
 |exc c=>cases h
 |ref q=>
  obtain⟨_,rfl⟩:=r;unfold nh at h;simp only at h;split at h
  .rename_i xs e
   cases h;obtain⟨f,h1,_⟩:=ra.lst e;exact .of (.lst h1)
  .rename_i xs e
   cases h;obtain⟨f,h1,_⟩:=ra.dct e;exact .of (.dK h1)
  .cases h
section
variable{X:Cx}{N:En}{e:Expr}{es:List Expr}{m:aP}{p p2 pos:Pos}{x:Str}{c:String}
theorem kE(n:∀t∈tys,kitOne X.K (.type t) (.type c)=some (lN t c))(o:X.mg "isinstance"=none)(b:X.mg x=none)(d:bootBuiltins x=some (.type c))(r:PE X e (up X.mg N m))(s:Gl X "isinstance":=by rfl)(f:Gl X x:=by rfl)(w:x≠"__name__":=by decide)(g:(x==("__debug__":Str))=false:=by decide)
  (h:starEach [e,.Name x p2] X.env=[(false,eval e X.env),(false,eval (.Name x p2) X.env)]:=by rfl):
  PE X (.Call (.Name "isinstance" p) [e,.Name x p2] [] pos) (up X.mg N (MZ c m)):=by
 have y:PE X (.Name x p2) (tC (.ty c)):=Uy f b d rfl w g;refine dP (H_ Mp s o boot_isinstance (Bg r (Bg y HW rfl) (by rw[h];rfl)) (by decide) (by decide) (by rw[h];rfl) rfl) λσ H Q q=>?_;obtain⟨A,ι,τ,R,S,q,k⟩:=q;refine⟨A,ι,τ,_,S,q,λv i z H1 u a B j C=>?_⟩;have a:(match nh i v with|some t=>R (.bl (lN t c)) i|none=>False):=a;split at a
 .rename_i t l
  exact⟨u,c,.type t,lN t c,rfl,j.ty l C,n t (Y0 l),(k.from B).here j a rfl⟩
 .exact a.elim
end
abbrev mC:=D->List D->Ar->DK->Prop
def rj(mg:aC)(K:Frag)(T:String)(r:V->List V->Hp->VK->Prop)(f:mC):Prop:=∀x ds A ι H u us R Q,RA mg ι H A->RV mg ι A.length H x u->au mg ι A.length H ds us->f x ds A R->Kt mg A ι H R Q->r u us H Q
def nY(A:Ar):D->Bool
 |.ref r=>match A[r]? with
  |some (.lst _)=>true
  |_=>false
 |_=>false
def ER(f:mC)(mo:aP)(m:dD):aP:=λτ A R=>mo τ A λx A1=>nY A1 x=true/\m τ A1 λvs A2=>f x vs A2 R
theorem RA.nY{mg:aC}{K:Frag}{A:Ar}{ι:Io}{H:Hp}(ra:RA mg ι H A){d:D}{v:V}(h:nY A d=true)(r:RV mg ι A.length H d v):Ce K "list" v H:=by
 cases d with
 |ref q=>
  obtain⟨_,rfl⟩:=r;unfold DP.nY at h;simp only at h;split at h
  .rename_i xs e
   obtain⟨a,h1,_⟩:=ra.lst e;exact .inl ⟨rfl,a,aW.of h1⟩
  .cases h
 |_=>cases h
section
variable{X:Cx}{N:En}{e o:Expr}{es:List Expr}{mo:aP}{m:dD}{apos cpos:Pos}{f:mC}{r:V->List V->Hp->VK->Prop}{name:Str}{id:String}
theorem gS(t:PlainAttrs "list")(slot:Slot "list" name id)(g:typeOf (.builtin id)=pure (.type "method_descriptor"))(v:yZ X id r)(hd:rj X.mg X.K "list" r f)(w:PE X o (up X.mg N mo))(y:PA X (e::es) (fW X.mg N m))
  (b:attributeBase o name X.env (eval o X.env)=eval o X.env:=by rfl)
  (d:((backTo cpos (starEach (e::es) X.env)).all (λx=> !x.1)&&(backToKw cpos (keywordEach [] X.env)).all (λx=>x.1.isSome)
   &&decide ((e::es).length+([]:List Keyword).length+(if ([]:List Keyword).isEmpty then 0 else 1)<30))=true:=by rfl)
  (c:(apos.endLine==cpos.line)=true:=by rfl)(z:starEach (e::es) X.env=(false,eval e X.env)::starEach es X.env:=by rfl)(a:(backTo cpos (starEach es X.env)).any (·.1)=false:=by rfl):
  PE X (.Call (.Attribute o name apos) (e::es) [] cpos) (up X.mg N (ER f mo m)):=dP (H9 t slot g v w y b d c z a) λσ H Q q=>by
 obtain⟨A,ι,τ,R,S,q,k⟩:=q
 refine⟨A,ι,τ,_,S,q,λx B h H1 u j l n p=> ?_⟩
 refine⟨n.nY j.1 p,B,h,τ,_,S.next l n,j.2,λys C i H2 D E s F v2=> ?_⟩
 exact hd x ys C i H2 u D R Q F (RV.ext s x u p) v2 E (k.from (l.trans s))
end
theorem Il{mg:aC}{A:Ar}{ι:Io}{H:Hp}{R:DK}{Q:VK}{ds es:List D}{xs ys:List V}{q:Nat}{d:D}{v:V}(k:Kt mg A ι H R Q)(r:RA mg ι H A)(a:A[q]?=some (.lst ds))(b:H (ι q)=some (.lst xs))(h:au mg ι A.length H es ys)
  (c:R d (A.set q (.lst es)))(hd:∀H',RV mg ι A.length H' d v):Q v (upd H (ι q) (.lst ys)):=by
 have E:Ext A ι H (A.set q (.lst es)) ι (upd H (ι q) (.lst ys)):=r.nU (bY.mp a).1;obtain⟨e,f⟩:=r.put (c':=.lst es) (o:=.lst ys) a b rfl ⟨ys,fC,by simpa using au.ext E es ys h⟩;exact k _ _ _ _ _ c f e (by simpa using hd _)
@[irreducible] def uT(r:Nat)(y:D)(A:Ar)(R:DK):Prop:=match A[r]? with
 |some (.lst xs)=>xs.length<sizeLine/\R .aG (A.set r (.lst (xs++[y])))
 |_=>False
def zA:mC:=λx vs A R=>match x,vs with
 |.ref r,[y]=>uT r y A R
 |_,_=>False
theorem jw{mg:aC}{K:Frag}:rj mg K "list" Ip zA:=by
 intro x ds A ι H u d R Q ra b rs h k;unfold zA at h;split at h
 .obtain⟨_,rfl⟩:=b
  obtain⟨v,_,rfl,c,rfl⟩:=rs;unfold uT at h;split at h
  .rename_i xs e
   obtain⟨ws,h1,a⟩:=ra.lst e;exact⟨_,ws,v,rfl,rfl,h1,by rw[<-au.length a];exact h.1,Il k ra e h1 (a.app (es:=[_]) (ws:=[v]) ⟨v,[],rfl,c,rfl⟩) h.2 λ_=>rfl⟩
  .exact h.elim
 .exact h.elim
@[irreducible] def r9(r q:Nat)(A:Ar)(R:DK):Prop:=match A[r]?,A[q]? with
 |some (.lst xs),some (.lst ys)=>xs.length+ys.length<=sizeLine/\R .aG (A.set r (.lst (xs++ys)))
 |_,_=>False
def FN:mC:=λx vs A R=>match x,vs with
 |.ref r,[.ref q]=>r9 r q A R
 |_,_=>False
theorem u9{mg:aC}{K:Frag}:rj mg K "list" Iu FN:=by
 intro x ds A ι H u f R Q ra c rs h k;unfold FN at h;split at h
 .obtain⟨_,rfl⟩:=c
  obtain⟨v,_,rfl,⟨_,rfl⟩,rfl⟩:=rs;unfold r9 at h;split at h
  .rename_i xs ys e d
   obtain⟨ws,h1,a⟩:=ra.lst e;obtain⟨zs,h2,b⟩:=ra.lst d;exact⟨_,_,ws,zs,rfl,rfl,h1,h2,by rw[<-au.length a,<-au.length b];exact h.1,Il k ra e h1 (a.app b) h.2 λ_=>rfl⟩
  .exact h.elim
 .exact h.elim
def Wo(RE:DX)(c:Str)(m:dD):dM:=λ_ τ A=>m τ A λvs A1=>vs.length<=sizeLine/\RE c A1
theorem jx{X:Cx}{N:En}{RE:DX}{x:Str}{C:Addr}{e:Expr}{m:dD}{np cpos pos:Pos}(f:Raises X (EL X.mg N RE))(hc:X.calm=true)(c:X.mg x=some (.ref C))(g:excIn X.K C j8 "ValueError.__new__"=true)(h:PA X [e] (fW X.mg N m))(i:Gl X x:=by rfl)(a:(x==("__debug__":Str))=false:=by decide)
  (j:starEach [e] X.env=[(false,eval e X.env)]:=by rfl):PS X (.Raise (some (.Call (.Name x np) [e] [] cpos)) none pos) (dB X.mg N (Wo RE x m)):=iZ (Vz f hc c g h i a j) λQ σ H q=>by
 obtain⟨A,ι,τ,R,S,q,k⟩:=q;exact⟨A,ι,τ,_,S,q,λvs l b H1 r d n o p=>⟨by rw[<-au.length p];exact d.1,x,l,b,⟨C,rfl,c⟩,S.ex.trans n,o,d.2⟩⟩
def i7:D->Bool
 |.int _|.str _=>true
 |_=>false
def r8:D->D->Bool
 |.int i,.int j=>decide (i=j)
 |.str a,.str b=>decide (a=b)
 |_,_=>false
def lM(x:D)(xs:List D):Bool:=xs.any λy=>r8 y x
section
variable{mg:aC}{K:Frag}{A:Ar}{ι:Io}{H:Hp}{n:Nat}
theorem Ac{d:D}{v:V}(h:i7 d=true)(r:RV mg ι n H d v):kH v=true:=by
 cases d with
 |int i=>cases r;rfl
 |str i=>cases r;rfl
 |_=>cases h
theorem Og{d e:D}{u v:V}(h1:i7 d=true)(h2:i7 e=true)(b:RV mg ι n H d u)(a:RV mg ι n H e v):jy u v=r8 d e:=by
 cases d with
 |int i=>
  cases b;cases e with
  |int j=>cases a;simp[jy,r8,Bool.beq_eq_decide_eq]
  |str j=>cases a;rfl
  |_=>cases h2
 |str i=>
  cases b;cases e with
  |int j=>cases a;rfl
  |str j=>cases a;simp[jy,r8,Bool.beq_eq_decide_eq]
  |_=>cases h2
 |_=>cases h1
theorem AG{x:D}{v:V}(a:i7 x=true)(b:RV mg ι n H x v):∀{ds:List D} {vs:List V},ds.all i7=true->au mg ι n H ds vs->vK v vs=lM x ds/\vs.all kH=true
 |[],vs,_,r=>by cases (show vs=[] from r);exact⟨rfl,rfl⟩
 |d::ds,vs,h,r=>by
  obtain⟨y,r',rfl,h1,h2⟩:=r;have h':i7 d=true/\ds.all i7=true:=by simpa using h
  obtain⟨c,e⟩:=AG a b h'.2 h2;constructor
  .show(jy y v||vK v r')=(r8 d x||lM x ds)
   rw[Og h'.1 a h1 b,c]
  .simp[Ac h'.1 h1,e]
end
abbrev tF(neg:Bool):R2:=λx y H Q=>∃a o,y=.ref a/\o9 H a x o/\Q (.bl (if neg then !o.isSome else o.isSome)) H
theorem wo{X:Cx}(e:X.A.units+64<cLine):bL X (compareOp .In) (tF false):=by
 intro pins s σ H x y v u Q I b c h;obtain⟨a,o,rfl,g,q⟩:=h;cases c;exact Nh (by omega) I g b λf d=>⟨.bl o.isSome,H,d,rfl,q⟩
theorem TQ{X:Cx}(e:X.A.units+64<cLine):bL X (compareOp .NotIn) (tF true):=by
 intro pins s σ H x y v u Q I b c h;obtain⟨a,o,rfl,g,q⟩:=h;cases c;exact Nn (by omega) I g b λf d=>⟨.bl (!o.isSome),H,d,rfl,q⟩
@[irreducible] def inR(neg:Bool)(x:D)(r:Nat)(A:Ar)(R:DK):Prop:=match A[r]? with
 |some (.lst xs)=>i7 x=true/\xs.all i7=true/\R (.bl (if neg then !lM x xs else lM x xs)) A
 |some (.dct kvs)=>(match gm x with
  |some k=>R (.bl (if neg then !(bw kvs k).isSome else (bw kvs k).isSome)) A
  |none=>False)
 |_=>False
def inD(neg:Bool):fG:=λx y A R=>match y with
 |.tup xs=>i7 x=true/\xs.all i7=true/\R (.bl (if neg then !lM x xs else lM x xs)) A
 |.ref r=>inR neg x r A R
 |_=>False
theorem zR{mg:aC}{K:Frag}(neg:Bool):fh mg (λx y H Q=>Bx K neg x y H Q\/tF neg x y H Q) (inD neg):=by
 intro x y A ι H u v R Q ra c l h k;unfold inD at h;split at h
 .obtain⟨a,xs,rfl,m,f⟩:=l
  obtain⟨g,i⟩:=AG h.1 c h.2.1 f;exact .inl ⟨a,xs,rfl,.inr (bQ.of m),Ac h.1 c,i,by rw[g];exact k.here ra h.2.2 rfl⟩
 .obtain⟨_,rfl⟩:=l
  unfold inR at h;split at h
  .rename_i xs e
   obtain⟨j,h1,f⟩:=ra.lst e;obtain⟨g,i⟩:=AG h.1 c h.2.1 f;exact .inl ⟨_,j,rfl,.inl (aW.of h1),Ac h.1 c,i,by rw[g];exact k.here ra h.2.2 rfl⟩
  .rename_i kvs e
   obtain⟨j,h1,f⟩:=ra.dct e;split at h
   .rename_i b n
    cases n9 n c;obtain⟨g,i⟩:=RK.get (k:=b) f;refine .inr ⟨_,fM j b,rfl,.inl ⟨j,b,.inl h1,rfl,rfl⟩,?_⟩;have o:(fM j b).isSome=(bw kvs b).isSome:=by
     cases q:bw kvs b with
     |none=>rw[i q];rfl
     |some d=>obtain⟨z,hz,_⟩:=g d q;rw[hz];rfl
    rw[o];exact k.here ra h rfl
   .exact h.elim
  .exact h.elim
 .exact h.elim
section
variable{X:Cx}{N:En}{pos:Pos}{a b c:Expr}{ma mb mc:aP}{x:Str}
theorem vr(i:Nat)(b:X.N[i]?=some x:=by rfl)(c:pC X.env.scope x:=by first|exact Or.inl rfl|exact Or.inr (Or.inl rfl)|exact Or.inr (Or.inr rfl))(hd:(x==("__debug__":Str))=false:=by decide)
 (a:(x==("__classdict__":Str))=false:=by decide):PE X (.Name x pos) (up X.mg N (ir i)):=NG b c hd a
theorem z6(c:X.A.units+64<cLine)(d:PE X a (up X.mg N ma))(e:PE X b (up X.mg N mb)):PE X (.Compare a [.Eq] [b] pos) (up X.mg N (dW vB ma mb)):=vf (HN c) EU d e (m5 _)
theorem d_(c:X.A.units+64<cLine)(d:PE X a (up X.mg N ma))(e:PE X b (up X.mg N mb)):PT X (.Compare a [.Eq] [b] pos) (cZ X.mg N (ig (dW vB ma mb))):=lH (HN c) EU d e (m5 _)
theorem N7(c:X.A.units+64<cLine)(d:PE X a (up X.mg N ma))(e:PE X b (up X.mg N mb)):PE X (.Compare a [.NotEq] [b] pos) (up X.mg N (dW v_ ma mb)):=vf (HP c) EZ d e (m5 _)
theorem j7(c:X.A.units+64<cLine)(d:PE X a (up X.mg N ma))(e:PE X b (up X.mg N mb)):PT X (.Compare a [.NotEq] [b] pos) (cZ X.mg N (ig (dW v_ ma mb))):=lH (HP c) EZ d e (m5 _)
theorem B6(c:PE X a (up X.mg N ma))(d:PE X b (up X.mg N mb)):PT X (.Compare a [.Lt] [b] pos) (cZ X.mg N (ig (dW AW ma mb))):=lH TN Nj c d (m5 _)
theorem YJ(c:PE X a (up X.mg N ma))(d:PE X b (up X.mg N mb)):PT X (.Compare a [.LtE] [b] pos) (cZ X.mg N (ig (dW oh ma mb))):=lH sN rT c d (m5 _)
theorem B4(c:PE X a (up X.mg N ma))(d:PE X b (up X.mg N mb)):PT X (.Compare a [.Gt] [b] pos) (cZ X.mg N (ig (dW Gk ma mb))):=lH Ub Ng c d (m5 _)
theorem qk(c:PE X a (up X.mg N ma))(d:PE X b (up X.mg N mb)):PT X (.Compare a [.IsNot] [b] pos) (cZ X.mg N (ig (dW Bd ma mb))):=lH Um Np c d (m5 _)
theorem N4(c:X.A.units+64<cLine)(d:PE X a (up X.mg N ma))(e:PE X b (up X.mg N mb))(f:behindInMarks .In b=false:=by rfl):PE X (.Compare a [.In] [b] pos) (up X.mg N (dW (inD false) ma mb)):=vf (HV.or (wo c)) (zR false) d e f
theorem xW(c:X.A.units+64<cLine)(d:PE X a (up X.mg N ma))(e:PE X b (up X.mg N mb))(f:behindInMarks .In b=false:=by rfl):PT X (.Compare a [.In] [b] pos) (cZ X.mg N (ig (dW (inD false) ma mb))):=lH (HV.or (wo c)) (zR false) d e f
theorem ql(c:X.A.units+64<cLine)(d:PE X a (up X.mg N ma))(e:PE X b (up X.mg N mb))(f:behindInMarks .NotIn b=false:=by rfl):PT X (.Compare a [.NotIn] [b] pos) (cZ X.mg N (ig (dW (inD true) ma mb))):=lH (Ul.or (TQ c)) (zR true) d e f
theorem FD(d:PE X a (up X.mg N ma))(e:PE X b (up X.mg N mb))(hc:PE X c (up X.mg N mc))(f:lastMarks [.LtE,.LtE] [b,c]=false:=by with_unfolding_all rfl):PE X (.Compare a [.LtE,.LtE] [b,c] pos) (up X.mg N (rR oh oh ma mb mc)):=Nu sN sN rT rT d e hc f
theorem B5(d:PE X a (up X.mg N ma))(e:PE X b (up X.mg N mb))(hc:PE X c (up X.mg N mc))(f:lastMarks [.LtE,.LtE] [b,c]=false:=by with_unfolding_all rfl):PT X (.Compare a [.LtE,.LtE] [b,c] pos) (cZ X.mg N (ig (rR oh oh ma mb mc))):=NZ sN sN rT rT d e hc f
end
theorem jY{P:Program}{w:World}{K:Frag}{mg:aC}{base:Heap}{x:Str}{st:Stmt}{Nm ps:List Str}{k n:Nat}{S:Ct}(T:TopD K mg x st ps)(Sc:aX Nm ps (aI st))(c:ps.length=n)(d:ps.length<=Nm.length)
  (b:∀(N:En) (RE:DX) (f:Addr) (a:Value) (B:Around) (outer:List Env) (s:Shared) (H:Hp) (E:XK),dZ k (c7 (bW P w) P w K mg base Nm x (aI st) f a B outer s H E).A->
   Raises (c7 (bW P w) P w K mg base Nm x (aI st) f a B outer s H E) (EL mg N RE)->Passes (bW P w) (c7 (bW P w) P w K mg base Nm x (aI st) f a B outer s H E) (EL mg N RE)->
   ∀ds A R,S ds A R RE->ds.length=n->∃m,dY (c7 (bW P w) P w K mg base Nm x (aI st) f a B outer s H E) (iI st) (dB mg N m)/\m {nx:=λ_ A'=>R .aG A',rt:=R} (lU (Nm.length - n) ds) A):aj P w K mg base (k+1) x ps (ak mg n S):=by
 refine TopD.jY T Sc c d λN RE X _ _ _ _ _ _ _ _ e g i j ds A R h l=>?_;obtain⟨f,a,B,outer,s,H,E,rfl⟩:=e;exact b N RE f a B outer s H E g i j ds A R h l
def Wr(c:ff)(b:dM):dM:=λR τ A=>∃W:Nat->bO->Ar->Prop,(∃n,W n τ A)/\∀n τ A,W n τ A->c τ A λk A1=>cond k (∃Nx:bO->Ar->Prop,(∀bB A',Nx bB A'->∃n',n'<n/\W n' bB A')/\b {R with nx:=Nx,ct:=Nx,bk:=R.nx} τ A1) (R.nx τ A1)
section
variable{X:Cx}{N:En}{pos:Pos}{c:Expr}{body:List Stmt}{tc:ff}{tb:dM}
theorem z5(y:PassesOwn (model X.prog X.w) X.A X.env X.xe)(hc:PT X c (cZ X.mg N tc))(B:dY X body (dB X.mg N tb)):PS X (.While c body [] pos) (dB X.mg N (Wr tc tb)):=iZ (VC y hc B) λQ σ H q=>by
 obtain⟨A,ι,τ,R,S,⟨W,⟨n,C⟩,turn⟩,k⟩:=q;refine⟨λn σ' H'=>∃A' ι' bB,dN X.mg N A' ι' bB σ' H'/\Ext A ι H A' ι' H'/\W n bB A',⟨n,A,ι,τ,S,S.ra.refl,C⟩,?_⟩;rintro m D H1 ⟨x,o,d,g,h,E⟩;refine⟨x,o,d,_,g,turn m d x E,λb F p H2 j a l=>?_⟩;cases b with
 |true=>
  rw[aA rfl];obtain⟨G,I,j⟩:=j;refine⟨λσ' H'=>∃A' ι' bB,dN X.mg N A' ι' bB σ' H'/\Ext A ι H A' ι' H'/\G bB A',λσ' H' ⟨A',ι',bB,J,K,z⟩=>?_,?_⟩
  .obtain⟨L,M,O⟩:=I bB A' z
   exact⟨L,M,A',ι',bB,J,K,O⟩
  .refine⟨F,p,d,_,g.next a l,j,⟨?_,k.rt.from (h.trans a),k.nx.from (h.trans a),?_⟩⟩
   .exact λe r f s P t i u v=>⟨r,f,e,(g.next a l).to i u v,(h.trans a).trans i,t⟩
   .exact λe r f s P t i u v=>⟨r,f,e,(g.next a l).to i u v,(h.trans a).trans i,t⟩
 |false=>
  rw[ao bV];exact(k.nx.from (h.trans a)).here (g.next a l) j
end
structure lD(mg:aC)(A0:Ar)(K9:Io)(H0:Hp)(J:It)(items:List D)(f7:Ar->Prop):Prop where
 go:∀(i:Nat) d A ι H,items[i]? =some d->Ext A0 K9 H0 A ι H->RA mg ι H A->f7 A->J.go i H/\∀x H',J.yc i H x H'->Ext A ι H A ι H'/\RA mg ι H' A/\RV mg ι A.length H' d x
 stop:∀A ι H,Ext A0 K9 H0 A ι H->RA mg ι H A->f7 A->J.stop items.length H
abbrev jo:=bO->Ar->(List D->(Ar->Prop)->Ar->Prop)->Prop
def jG(mg:aC)(N:En)(m:jo):TI:=λσ H Q=>∃A ι τ R,dN mg N A ι τ σ H/\m τ A R/\∀items f7 A' ι' H' J,R items f7 A'->Ext A ι H A' ι' H'->RA mg ι' H' A'->lD mg A' ι' H' J items f7->Q J H'
theorem pL{X:Cx}{tg e:Expr}{t t':TI}(h:PI X tg e t)(w:∀σ H Q,t' σ H Q->t σ H Q):PI X tg e t':=λpins s σ H Q I q=>h pins s σ H Q I (w σ H Q q)
section
variable{mg:aC}{K:Frag}{A:Ar}{ι:Io}{H:Hp}
theorem RJ{a:Addr}{ds:List D}{xs:List V}(f:H a=some (.tup xs))(g:au mg ι A.length H ds xs):lD mg A ι H (yW K a) ds (λ_=>True) where
 go:=λi d h c H1 hd e r _=>by
  have b:=e.fix rfl f;obtain⟨v,h1,h2⟩:=au.get (au.ext e ds xs g) hd;refine⟨⟨xs,v,bQ.of b,h1⟩,λx H' y=>?_⟩;obtain⟨rfl,y⟩:=y;have:=y xs (bQ.of b);rw[h1] at this;cases this;exact⟨r.refl,r,h2⟩
 stop:=λh c H1 e r _=>⟨xs,bQ.of (e.fix rfl f),by rw[au.length g];exact aF _⟩
theorem RB{a:Addr}{o:Obj}{ns:List Int}(f:H a=some (.bT o (.lst (ns.map V.int)))):lD mg A ι H (uI K a) (ns.map D.int) (λ_=>True) where
 go:=λi d g b H1 hd e r _=>by
  have c:aW K H1 a (ns.map V.int):=.inl (.inr ⟨o,e.fix rfl f⟩);obtain⟨v,h1,h2⟩:=au.get (au.ints (mg:=mg) (ι:=b) (H:=H1) ns (n:=g.length)) hd;refine⟨⟨_,v,c,h1⟩,λx H' y=>?_⟩;obtain⟨rfl,y⟩:=y;have:=y _ c;rw[h1] at this;cases this;exact⟨r.refl,r,h2⟩
 stop:=λg b H1 e r _=>⟨_,.inl (.inr ⟨o,e.fix rfl f⟩),by simp⟩
theorem RD{q:Nat}{ds:List D}(b:q<A.length):lD mg A ι H (uI K (ι q)) ds (λA'=>A'[q]?=some (.lst ds)) where
 go:=λi d f a H1 hd e r hc=>by
  obtain⟨xs,h1,h2⟩:=r.lst hc;rw[e.ag q b] at h1;obtain⟨v,c,g⟩:=au.get h2 hd;refine⟨⟨xs,v,aW.of h1,c⟩,λx H' y=>?_⟩;obtain⟨rfl,y⟩:=y;have:=y xs (aW.of h1);rw[c] at this;cases this;exact⟨r.refl,r,g⟩
 stop:=λf a H1 e r hc=>by
  obtain⟨xs,h1,h2⟩:=r.lst hc;rw[e.ag q b] at h1;exact⟨xs,aW.of h1,by rw[au.length h2];exact aF _⟩
def fT(lo:Int)(n:Nat):List D:=(range n).map λ(i:Nat)=>D.int (lo+i)
theorem RH{lo:Int}{n:Nat}:lD mg A ι H (uJ lo n) (fT lo n) (λ_=>True) where
 go:=λi d c a H1 hd e r _=>by
  unfold fT at hd;rw[cu] at hd;cases q:(range n)[i]? with
  |none=>rw[q] at hd;cases hd
  |some j=>
   rw[q] at hd;have hi:=(bY.mp q).1;have b:=(bY.mp q).2;simp at hi b;subst b;cases hd;refine⟨hi,λx H' y=>?_⟩;obtain⟨rfl,rfl⟩:=y;exact⟨r.refl,r,rfl⟩
 stop:=λc a H1 e r _=>by
  show n<=_;simp[fT]
def lT(z:Str):List D:=z.cps.toList.map λc=>D.str ⟨#[c]⟩
theorem RI{z:Str}:lD mg A ι H (yV z) (lT z) (λ_=>True) where
 go:=λi d b a H1 hd e r _=>by
  unfold lT at hd;rw[cu] at hd;cases q:z.cps.toList[i]? with
  |none=>rw[q] at hd;cases hd
  |some j=>
   rw[q] at hd;cases hd;have hi:=(bY.mp q).1;refine⟨show i<z.cps.size by simpa using hi,λx H' y=>?_⟩;obtain⟨rfl,c,hc,rfl⟩:=y;have:z.cps.toList[i]?=some c:=by simpa using hc
   rw[q] at this;cases this;exact⟨r.refl,r,rfl⟩
 stop:=λb a H1 e r _=>by
  show _=_;simp[lT]
end
def Ra(K:Frag)(tl:TE):TI:=λσ H R=>tl σ H λx H1=>(∃a,x=.ref a/\(∃xs,aW K H1 a xs)/\R (uI K a) H1)\/(∃a,x=.ref a/\(∃xs,bQ K H1 a xs)/\R (yW K a) H1)
theorem U8{X:Cx}{tg l:Expr}{tl:TE}(j:PE X l tl):PI X tg l (Ra X.K tl):=by
 intro pins s σ H R I h;refine aK (j pins s σ H _ I h) λv c ⟨x,H1,d,i,k⟩=>?_;rcases k with⟨a,e,⟨xs,f⟩,q⟩|⟨a,e,⟨xs,f⟩,q⟩
 .subst e
  cases i;obtain⟨its,m,p,hz⟩:=d.list f;refine oV p.isList ?_;refine⟨c.heap.objs.size,[c.heap.objs.size],_,_,H1,rfl,d.kept (t':=c.toks) λb o e=>bg _ e,YV a _,⟨_,b9 _ rfl,rfl,rfl⟩,λb g=>?_,q⟩;have e:b=c.heap.objs.size:=by simpa using g
  subst e;exact d.mU (aF _) (d.hok.fresh (aF _))
 .subst e
  cases i;obtain⟨its,m,p,hz⟩:=d.tuple f;refine wpAny_pyIter_tuple (show c.heap.IsTuple a its.toArray from p) ?_;refine⟨c.heap.objs.size,[c.heap.objs.size],_,_,H1,rfl,d.kept (t':=c.toks) λb o e=>bg _ e,YZ a _,⟨_,b9 _ rfl,rfl,rfl⟩,λb g=>?_,q⟩;have e:b=c.heap.objs.size:=by simpa using g
  subst e;exact d.mU (aF _) (d.hok.fresh (aF _))
@[irreducible] def itR(r:Nat)(A:Ar)(R:List D->(Ar->Prop)->Ar->Prop):Prop:=match A[r]? with
 |some (.lst xs)=>R xs (λA'=>A'[r]?=some (.lst xs)) A
 |_=>False
def Q_(m:aP):jo:=λτ A R=>m τ A λx A1=>match x with
 |.tup xs=>R xs (λ_=>True) A1
 |.fl ns=>R (ns.map .int) (λ_=>True) A1
 |.ref r=>itR r A1 R
 |_=>False
def Rc(m:aP):jo:=λτ A R=>m τ A λx A1=>match x with
 |.str z=>R (lT z) (λ_=>True) A1
 |_=>False
def Q6(n:dD):jo:=λτ A R=>n τ A λvs A1=>match vs with
 |[.int j]=> -(2 ^ 62)<=j/\j<2 ^ 62/\R (fT 0 j.toNat) (λ_=>True) A1
 |_=>False
section
variable{X:Cx}{N:En}{pos p:Pos}{tg e a b:Expr}{m:aP}{n:dD}{nm:Str}{px:Pos}
theorem cC(i:PE X e (up X.mg N m)):PI X tg e (jG X.mg N (Q_ m)):=pL (U8 i) λσ H Q q=>by
 obtain⟨A,ι,τ,R,S,q,k⟩:=q;refine⟨A,ι,τ,_,S,q,λx d c H1 u a g f h=>?_⟩;cases x with
 |tup ds=>
  obtain⟨b,xs,rfl,h1,h2⟩:=h;exact .inr ⟨b,rfl,⟨xs,bQ.of h1⟩,k ds _ d c H1 _ a g f (RJ h1 h2)⟩
 |fl ns=>
  obtain⟨b,o,rfl,h1⟩:=h;exact .inl ⟨b,rfl,⟨_,.inl (.inr ⟨o,h1⟩)⟩,k _ _ d c H1 _ a g f (RB h1)⟩
 |ref r=>
  obtain⟨j,rfl⟩:=h;have a:itR r d R:=a;unfold itR at a;split at a
  .rename_i xs e
   obtain⟨l,h1,_⟩:=f.lst e;exact .inl ⟨_,rfl,⟨l,aW.of h1⟩,k _ _ d c H1 _ a g f (RD j)⟩
  .exact a.elim
 |_=>exact a.elim
theorem NO(c:PE X e (up X.mg N m)):PI X (.Name nm px) e (jG X.mg N (Rc m)):=pL (U9 c) λσ H Q q=>by
 obtain⟨A,ι,τ,R,S,q,k⟩:=q;refine⟨A,ι,τ,_,S,q,λx d a H1 u b f g h=>?_⟩;cases x with
 |str z=>exact⟨z,h,k _ _ d a H1 _ b f g RI⟩
 |_=>exact b.elim
theorem zZ(e:X.mg "range"=none)(f:PA X [a] (fW X.mg N n))(g:Gl X "range":=by rfl)(h:starEach [a] X.env=[(false,eval a X.env)]:=by rfl):PI X tg (.Call (.Name "range" p) [a] [] pos) (jG X.mg N (Q6 n)):=pL (U6 g e f h) λσ H Q q=>by
 obtain⟨A,ι,τ,R,S,q,k⟩:=q;refine⟨A,ι,τ,_,S,q,λx i c H1 u b l m d=>?_⟩;match x,b,d with
 |[.int j],b,d=>
  obtain⟨_,_,rfl,rfl,rfl⟩:=d;exact⟨j,rfl,b.1,b.2.1,k _ _ i c H1 _ b.2.2 l m RH⟩
end
def nQ(f7:Ar->Prop)(g:kj)(b:dM)(R:nI):List D->bO->Ar->Prop
 |[],τ,A=>f7 A/\R.nx τ A
 |x::xs,τ,A=>f7 A/\g x τ A λCL A1=>b {R with nx:=nQ f7 g b R xs,ct:=nQ f7 g b R xs,bk:=R.nx} CL A1
def IY(it:jo)(g:kj)(b:dM):dM:=λR τ A=>it τ A λitems f7 A1=>nQ f7 g b R items τ A1
theorem eH{X:Cx}{N:En}{pos:Pos}{tg iter:Expr}{body:List Stmt}{it:jo}{g:kj}{tb:dM}(T:PassesOwn (model X.prog X.w) X.A X.env X.xe)(hc:X.calm=true)(hi:PI X tg iter (jG X.mg N it))(U:PG X tg (tY X.mg N g))(V:dY X body (dB X.mg N tb))
  (W:∀x,foldedSetIterable iter X.env x=pure x:=by intro _;rfl):PS X (.For tg iter body [] pos) (dB X.mg N (IY it g tb)):=iZ (Vw T hc hi U V W) λQ σ H q=>by
 obtain⟨A,ι,τ,R,S,q,k⟩:=q;refine⟨A,ι,τ,_,S,q,λitems n v b H1 J Y s O P=>?_⟩;have Z:=S.next s O;refine⟨λi m σ' H'=>m=items.length - i/\i<=items.length/\∃A' ι' bB,dN X.mg N A' ι' bB σ' H'/\Ext v b H1 A' ι' H'/\nQ n g tb R (items.drop i) bB A',⟨_,rfl,bP _,v,b,τ,Z,O.refl,by simpa using Y⟩,?_⟩;rintro i m σ2 H2 ⟨rfl,hi,B,c,C,d,f,h⟩;by_cases D:i<items.length
 .right
  have hd:items.drop i=items[i]::items.drop (i+1):=by rw[mu D]
  rw[hd] at h;obtain⟨o,h⟩:=h;obtain⟨g1,g2⟩:=P.go i items[i] B c H2 (by rw[a_ D]) f d.ra o;refine⟨g1,λσ' H'=>∃A' ι' bB,dN X.mg N A' ι' bB σ' H'/\Ext v b H1 A' ι' H'/\nQ n g tb R (items.drop (i+1)) bB A',λσ' H' ⟨A',ι',bB,z⟩=>⟨_,by omega,rfl,D,A',ι',bB,z⟩,λx H3 y=>?_⟩;obtain⟨p,t,v3⟩:=g2 x H3 y;refine⟨B,c,C,items[i],_,d.next p t,v3,h,λE A4 F Zp H4 q4 u G s4=>?_⟩;have a:=p.trans u;refine⟨A4,F,E,_,(d.next p t).to u G s4,q4,⟨?_,k.rt.from ((s.trans f).trans a),k.nx.from ((s.trans f).trans a),?_⟩⟩
  .exact λj I l K H5 L r M s5=>⟨I,l,j,((d.next p t).to u G s4).to r M s5,(f.trans a).trans r,L⟩
  .exact λj I l K H5 L r M s5=>⟨I,l,j,((d.next p t).to u G s4).to r M s5,(f.trans a).trans r,L⟩
 .left
  have e:i=items.length:=by omega
  subst e;rw[List.drop_length] at h;exact⟨P.stop B c H2 f d.ra h.1,(k.nx.from (s.trans f)).here d h.2⟩
def ni:Option Nat->D->Option (List D)
 |none,x=>some [x]
 |some k,.tup ds=>if ds.length=k then some ds else none
 |some _,_=>none
def jV(f7:Ar->Prop)(k:Option Nat)(fr:bO)(tt:ff)(te:aP)(R:List D->Ar->Prop):List D->List D->Ar->Prop
 |[],ys,A=>f7 A/\R ys A
 |x::xs,ys,A=>f7 A/\match ni k x with
  |some vs=>tt (vs.map some++fr) A λb A3=>cond b (te (vs.map some++fr) A3 λy A4=>ys.length<sizeLine/\jV f7 k fr tt te R xs (ys++[y]) A4) (jV f7 k fr tt te R xs ys A3)
  |none=>False
def mO(k:Option Nat)(ix:List Nat)(it:jo)(tt:ff)(te:aP):aP:=λτ A R=>it τ A λitems f7 A1=>jV f7 k (ix.map (lk τ)) tt te (λys A2=>R (.ref A2.length) (A2++[.lst ys])) items [] A1
def sj:Nat->Nat->kD
 |_,0=>F6
 |i,n+1=>F5 (pS i) (sj (i+1) n)
def qm(K:Frag):Option Nat->TG
 |none=>pS 0
 |some k=>F7 K k (sj 0 k)
theorem Gj{Q:L2.St->Hp->Prop}{H:Hp}{fs:L2.St}:∀(xs:List V) (dn:L2.St),Q (dn++(xs.map some++fs)) H->sj dn.length xs.length xs (dn++(replicate xs.length none++fs)) H Q
 |[],dn,h=>⟨rfl,by simpa using h⟩
 |x::r,dn,h=>by
  refine⟨x,r,rfl,?_⟩;show sj (dn.length+1) r.length r ((dn++(replicate (r.length+1) none++fs)).set dn.length (some x)) H Q;have e:(dn++(replicate (r.length+1) none++fs)).set dn.length (some x)=(dn++[some x])++(replicate r.length none++fs):=by
   rw[List.set_append_right _ _ (aF _)];simp[List.replicate_succ]
  rw[e];have:=Gj r (dn++[some x]) (by simpa using h);simpa using this
theorem GV{fs:L2.St}:∀(xs:L2.St),ic (replicate xs.length none++fs) (xs++fs)
 |[]=>ic.refl fs
 |x::r=>.own (GV r)
section
variable{mg:aC}{K:Frag}{A:Ar}{ι:Io}{H:Hp}
theorem YK{k:Option Nat}{d:D}{vs:List D}{x:V}{n:Nat}(b:ni k d=some vs)(r:RV mg ι n H d x):∃xs,au mg ι n H vs xs/\vs.length=k.getD 1/\∀(fs:L2.St) (Q:L2.St->Hp->Prop),Q (xs.map some++fs) H->qm K k x (replicate (k.getD 1) none++fs) H Q:=by
 cases k with
 |none=>
  cases b;exact⟨[x],⟨x,[],rfl,r,rfl⟩,rfl,λfs Q q=>q⟩
 |some k=>
  cases d with
  |tup ds=>
   have b:(if ds.length=k then some ds else none)=some vs:=b;by_cases c:ds.length=k
   .rw[aA c] at b
    cases b;obtain⟨a,xs,rfl,h1,h2⟩:=r;have f:=au.length h2;refine⟨xs,h2,c,λfs Q q=>⟨a,xs,rfl,bQ.of h1,by rw[<-f];exact c,?_⟩⟩;have:=Gj (Q:=Q) (H:=H) (fs:=fs) xs [] q;show sj 0 k xs (replicate k none++fs) H Q;have e:k=xs.length:=by rw[<-f,c]
    rw[e];exact this
   .rw[ao c] at b
    cases b
  |_=>cases b
theorem RA.off(R:RA mg ι H A){p:Addr}{o u:HO}(a:∀r,r<A.length->ι r≠p)(d:H p=some u)(e:jD u=true):RA mg ι (upd H p o) A:=
 ⟨λr c h=>CO.ag (aF _) (λ_ _=>rfl) (λb q m z=>by
  rw[bf]
  .exact z
  .rintro rfl
   rw[d] at z;cases z;rw[e] at m;cases m) (λq z=>by rw[bf (a r (bY.mp h).1)];exact z) c (R.iH r c h),R.inj⟩
end
theorem XZ{own:List Str}{ix:List Nat}{σ:L2.St}:L2.stC own ix σ=replicate own.length none++ix.map λi=>(σ[i]?).join:=by
 unfold L2.stC;rw[List.map_const']
theorem Hg:∀(ds:List D) (fr:bO) (i:Nat) (d:D),lk (ds.map some++fr) i=some d->(ds[i]?=some d)\/(ds.length<=i/\lk fr (i - ds.length)=some d)
 |[],fr,i,d,h=>.inr ⟨bP _,by simpa using h⟩
 |x::r,fr,0,d,h=>.inl (by simpa[lk] using h)
 |x::r,fr,i+1,d,h=>by
  rcases Hg r fr i d (by simpa[lk] using h) with q|⟨a,b⟩
  .exact .inl (by simpa using q)
  .exact .inr ⟨by simpa using a,by simpa using b⟩
theorem RS.block{mg:aC}{ι:Io}{n:Nat}{H:Hp}{τ:bO}{σ:L2.St}{ix:List Nat}{vs:List D}{xs:List V}(r:RS mg ι n H τ σ)(h:au mg ι n H vs xs):RS mg ι n H (vs.map some++ix.map (lk τ)) (xs.map some++ix.map λi=>(σ[i]?).join):=⟨by simp[au.length h],λi d q=>by
 have b:=au.length h;rcases Hg vs _ i d q with q|⟨c,a⟩
 .obtain⟨v,h1,h2⟩:=au.get h q
  have hi:=(bY.mp h1).1;exact⟨v,by rw[iC (by simpa using hi),cu,h1];rfl,h2⟩
 .rw[vU,cu] at a
  cases e:ix[i - vs.length]? with
  |none=>rw[e] at a;simp at a
  |some j=>
   rw[e] at a;have a:lk τ j=some d:=by simpa using a
   obtain⟨v,h1,h2⟩:=r.at' j d a;refine⟨v,?_,h2⟩;rw[qT (by simpa[<-b] using c),cu,aM,<-b,e];simp[h1]⟩
section
variable{X:Cx}{N:En}{own frees:List Str}{ix:List Nat}{it:jo}{tt:ff}{te:aP}{k:Option Nat}
theorem x_(hk:own.length=k.getD 1){tT:CP->TT}(hT:∀c σ H Q,cZ X.mg N tt σ H Q->tT c σ H Q){σ:L2.St}{H:Hp}{Q:VK}(q:up X.mg N (mO k ix it tt te) σ H Q):BX own ix (jG X.mg N it) (λ_=>qm X.K k) tT (λ_=>up X.mg N te) σ H Q:=by
 obtain⟨A,ι,τ,R,S,q,kq⟩:=q;refine⟨A,ι,τ,_,S,q,λitems W A1 F H1 J q1 e1 r1 j1 c acc f=>?_⟩;have S1:=S.next e1 r1;rw[XZ,hk];have Y:∀r,r<A1.length->F r≠acc:=λr n z=>by
  obtain⟨o,h1,_⟩:=r1.im r n;rw[z,f] at h1;cases h1
 have rn:=r1.vC (o:=.lst []) f;refine⟨λi m ys H'=>m=items.length - i/\i<=items.length/\∃A' ι' d,RA X.mg ι' H' A'/\Ext A1 F H1 A' ι' H'/\(∀r,r<A'.length->ι' r≠acc)/\H' acc=some (.lst ys)/\au X.mg ι' A'.length H' d ys/\jV W k (ix.map (lk τ)) tt te (λys a=>R (.ref a.length) (a++[.lst ys])) (items.drop i) d A',
  ⟨_,rfl,bP _,A1,F,[],r1.fix rn (λb o z=>by rw[bf (dw z f)];exact z),rn,Y,fC,rfl,by simpa using q1⟩,?_⟩
 rintro i m ys H2 ⟨rfl,hi,a,g,d,r2,D,l,hy,ry,E⟩;refine⟨hy,?_⟩;by_cases G:i<items.length
 .right
  have hd:items.drop i=items[i]::items.drop (i+1):=by rw[mu G]
  rw[hd] at E;obtain⟨t,E⟩:=E;obtain⟨g1,g2⟩:=j1.go i items[i] a g H2 (by rw[a_ G]) D r2 t;refine⟨g1,λO H'=>∃A' ι' L,RA X.mg ι' H' A'/\Ext A1 F H1 A' ι' H'/\(∀r,r<A'.length->ι' r≠acc)/\H' acc=some (.lst O)/\au X.mg ι' A'.length H' L O/\jV W k (ix.map (lk τ)) tt te (λys a=>R (.ref a.length) (a++[.lst ys])) (items.drop (i+1)) L A',λO H' z=>⟨_,by omega,rfl,G,z⟩,λx H3 y=>?_⟩;obtain⟨e3,r3,v3⟩:=g2 x H3 y;split at E
  .rename_i vs hu
   obtain⟨xs,h1,h2,h3⟩:=YK (K:=X.K) hu v3;refine h3 _ _ ⟨by have:=GV (fs:=ix.map λi=>(σ[i]?).join) (xs.map some);rw[aM,<-au.length h1,h2] at this;exact this,?_⟩;have I:=D.trans e3;have S3:dN X.mg N a g (vs.map some++ix.map (lk τ)) (xs.map some++ix.map λi=>(σ[i]?).join) H3:=⟨r3,RS.block (S1.rs.ext I) h1,S1.ex.trans I⟩;have Z:H3 acc=some (.lst ys):=e3.mo acc _ hy l;refine hT _ _ _ _ ⟨a,g,_,_,S3,E,λb A4 P H4 q4 T r4=>?_⟩;have w:∀r,r<A4.length->P r≠acc:=λr n z=>by
    by_cases G:r<a.length
    .rw[T.ag r G] at z;exact l r G z
    .have:=T.nw r (by omega) n
     rw[z,Z] at this;cases this
   have U:H4 acc=some (.lst ys):=T.mo acc _ Z l;have IV:=au.ext (e3.trans T) d ys ry;cases b with
   |true=>
    refine Rq ?_;refine⟨A4,P,_,_,S3.next T r4,q4,λv A5 K_ H5 u q5 e5 r5 v5=>?_⟩;have V:H5 acc=some (.lst ys):=e5.mo acc _ U w;have M:∀r,r<A5.length->K_ r≠acc:=λr n z=>by
     by_cases G:r<A4.length
     .rw[e5.ag r G] at z;exact w r G z
     .have:=e5.nw r (by omega) n
      rw[z,U] at this;cases this
    have IW:=au.ext e5 d ys IV;have p:=(I.trans T).trans e5;have fx:∀b o,jD o=false->H5 b=some o->upd H5 acc (.lst (ys++[u])) b=some o:=λb o m z=>by
     rw[bf]
     .exact z
     .rintro rfl
      rw[V] at z;cases z;cases m
    refine⟨V,by rw[<-au.length IW];exact q5.1,A5,K_,d++[v],r5.off M V rfl,⟨p.len,p.ag,p.im,λb o z hn=>?_,p.nw,λb o z=>?_⟩,M,fC,?_,q5.2⟩
    .rw[bf (dw z f)];exact p.mo b o z hn
    .obtain⟨o',h'⟩:=p.al b o z
     exact⟨o',by rw[bf (dw z f)];exact h'⟩
    .exact au.ag (aF _) (λ_ _=>rfl) fx _ _ (IW.app (es:=[v]) (ws:=[u]) ⟨u,[],rfl,v5,rfl⟩)
   |false=>
    refine Rp ?_;exact⟨A4,P,d,r4,I.trans T,w,U,IV,q4⟩
  .exact E.elim
 .left
  have e:i=items.length:=by omega
  subst e;rw[List.drop_length] at E;obtain⟨t,E⟩:=E;refine⟨j1.stop a g H2 D r2 t,?_⟩;obtain⟨B,j,at2⟩:∃B:Io,(∀r,r<a.length->B r=g r)/\B a.length=acc:=⟨λr=>if r=a.length then acc else g r,λr h=>by
   show(if r=a.length then acc else g r)=g r;rw[ao (by omega)],by
   show(if a.length=a.length then acc else g a.length)=acc;rw[aA rfl]⟩
  refine kq (.ref a.length) (a++[.lst d]) B H2 _ E (e1.trans ⟨by have:=D.len;simp;omega,λr h=>by rw[j r (cP h D.len)];exact D.ag r h,D.im,D.mo,λr h1 h2=>?_,D.al⟩) ⟨λr c h=>?_,λr s n hs h=>?_⟩ ⟨by simp,by rw[at2]⟩
  .by_cases n:r<a.length
   .rw[j r n];exact D.nw r h1 n
   .have:r=a.length:=by simp at h2;omega
    subst this;rw[at2];exact f
  .by_cases n:r<a.length
   .rw[iC n] at h
    have:=CO.ag (n':=(a++[C.lst d]).length) (ι':=B) (H':=H2) (by simp) j (λ_ _ _ z=>z) (λ_ z=>z) c (r2.iH r c h);rw[j r n];exact this
   .have hr':r=a.length:=by
     have:=(bY.mp h).1;simp at this;omega
    subst hr';simp at h;subst h;rw[at2];exact⟨ys,hy,au.ag (by simp) j (λ_ _ _ z=>z) d ys ry⟩
  .simp at n hs
   by_cases h1:r=a.length
   .by_cases h2:s=a.length
    .rw[h1,h2]
    .subst h1
     rw[at2,j s (by omega)] at h;exact absurd h.symm (l s (by omega))
   .by_cases h2:s=a.length
    .subst h2
     rw[at2,j r (by omega)] at h;exact absurd h (l r (by omega))
    .rw[j r (by omega),j s (by omega)] at h
     exact r2.inj r s (by omega) (by omega) h
end
def oJ:ff:=λ_ A R=>R true A
section
variable{X:Cx}{N:En}{own frees:List Str}{ix:List Nat}{it:jo}{tt:ff}{te:aP}(k:Option Nat){tg iter elt rP:Expr}{scope:Scope}{pos:Pos}
theorem fk(a:own.length=k.getD 1)(hi:PI X tg iter (jG X.mg N it))(b:∀c,PG (bZ X (own++frees) scope c) tg (qm X.K k))(d:∀c,PE (bZ X (own++frees) scope c) elt (up X.mg N te))(S:gK X scope frees:=by exact⟨rfl,by decide+kernel,by decide+kernel,by decide+kernel,by decide+kernel,rfl⟩)(hc:X.calm=true:=by rfl)(e:ix.map (λi=>X.N[i]?)=frees.map some:=by rfl)(f:∀x,foldedSetIterable iter X.env x=pure x:=by intro _;rfl):
  PE X (.ListComp elt [⟨tg,iter,[],0⟩] scope pos) (up X.mg N (mO k ix it oJ te)):=
 dP (Ia hi b (λc=>jq.nil) d S hc e f) λσ H Q q=>x_ (own:=own) a (λ_ σ H Q h=>by
  obtain⟨A,ι,τ,R,S,h,k⟩:=h;exact k.here S.ra h) q
theorem E4(a:own.length=k.getD 1)(hi:PI X tg iter (jG X.mg N it))(b:∀c,PG (bZ X (own++frees) scope c) tg (qm X.K k))(d:∀c,PT (bZ X (own++frees) scope c) rP (cZ X.mg N tt))(e:∀c,PE (bZ X (own++frees) scope c) elt (up X.mg N te))(S:gK X scope frees:=by exact⟨rfl,by decide+kernel,by decide+kernel,by decide+kernel,by decide+kernel,rfl⟩)(hc:X.calm=true:=by rfl)(f:ix.map (λi=>X.N[i]?)=frees.map some:=by rfl)(g:∀x,foldedSetIterable iter X.env x=pure x:=by intro _;rfl):
  PE X (.ListComp elt [⟨tg,iter,[rP],0⟩] scope pos) (up X.mg N (mO k ix it tt te)):=
 dP (Ia hi b (λc=>jq.one (d c)) e S hc f g) λσ H Q q=>x_ (own:=own) a (λ_ σ H Q h=>h) q
variable{i:Nat}{x:Str}{pos' spos:Pos}
theorem Fw(a:X.N.Nodup)(b:X.N[i]?=some x)(f:Loc X.env.scope x)(g:own.length=k.getD 1)(hi:PI X tg iter (jG X.mg N it))(j:∀c,PG (bZ X (own++frees) scope c) tg (qm X.K k))(l:∀c,PE (bZ X (own++frees) scope c) elt (up X.mg N te))(S:gK X scope frees:=by exact⟨rfl,by decide+kernel,by decide+kernel,by decide+kernel,by decide+kernel,rfl⟩)(hc:X.calm=true:=by rfl)(m:ix.map (λi=>X.N[i]?)=frees.map some:=by rfl)(n:∀x,foldedSetIterable iter X.env x=pure x:=by intro _;rfl)
  (d:swapsWith (.ListComp elt [⟨tg,iter,[],0⟩] scope pos) (some (.Name x pos')) spos.line X.env=pure true:=by rfl)(o:X.fn x=true\/X.env.scope.names.lookup x=some .local:=by first|exact .inl rfl|exact .inr rfl|assumption):
  PS X (.Assign [.Name x pos'] (.ListComp elt [⟨tg,iter,[],0⟩] scope pos) spos) (dB X.mg N (tK i (mO k ix it oJ te))):=
 iZ (Ig a b f hi j (λc=>jq.nil) l S hc m n d o) λQ σ H q=>by
  obtain⟨A,ι,τ,R,Z,q,k⟩:=q;exact x_ (own:=own) g (λ_ σ H Q h=>by
   obtain⟨A,ι,τ,R,S,h,k⟩:=h;exact k.here S.ra h) ⟨A,ι,τ,_,Z,q,λv w p H1 u r e s t=>(k.nx.from e).here ((Z.next e s).set t) r⟩
theorem NV(a:X.N.Nodup)(b:X.N[i]?=some x)(f:Loc X.env.scope x)(g:own.length=k.getD 1)(hi:PI X tg iter (jG X.mg N it))(j:∀c,PG (bZ X (own++frees) scope c) tg (qm X.K k))(l:∀c,PT (bZ X (own++frees) scope c) rP (cZ X.mg N tt))(m:∀c,PE (bZ X (own++frees) scope c) elt (up X.mg N te))(S:gK X scope frees:=by exact⟨rfl,by decide+kernel,by decide+kernel,by decide+kernel,by decide+kernel,rfl⟩)(hc:X.calm=true:=by rfl)(n:ix.map (λi=>X.N[i]?)=frees.map some:=by rfl)(o:∀x,foldedSetIterable iter X.env x=pure x:=by intro _;rfl)
  (d:swapsWith (.ListComp elt [⟨tg,iter,[rP],0⟩] scope pos) (some (.Name x pos')) spos.line X.env=pure true:=by rfl)(p:X.fn x=true\/X.env.scope.names.lookup x=some .local:=by first|exact .inl rfl|exact .inr rfl|assumption):
  PS X (.Assign [.Name x pos'] (.ListComp elt [⟨tg,iter,[rP],0⟩] scope pos) spos) (dB X.mg N (tK i (mO k ix it tt te))):=
 iZ (Ig a b f hi j (λc=>jq.one (l c)) m S hc n o d p) λQ σ H q=>by
  obtain⟨A,ι,τ,R,Z,q,k⟩:=q;exact x_ (own:=own) g (λ_ σ H Q h=>h) ⟨A,ι,τ,_,Z,q,λv y r H1 u s e t w=>(k.nx.from e).here ((Z.next e t).set w) s⟩
end
abbrev qX:=bO->Ar->(Option Int->Ar->Prop)->Prop
def x6(mg:aC)(N:En)(m:qX):TO:=λσ H Q=>∃A ι τ R,dN mg N A ι τ σ H/\m τ A R/\∀o A' ι' H',R o A'->Ext A ι H A' ι' H'->RA mg ι' H' A'->Q o H'
def oN:qX:=λ_ A R=>R none A
def oS(m:aP):qX:=λτ A R=>m τ A λx A1=>match x with
 |.int i=>R (some i) A1
 |_=>False
def cutD(xs:List D)(lo hi:Option Int):List D:=(xs.drop (HT.bu xs.length 0 lo)).take (HT.bu xs.length xs.length hi - HT.bu xs.length 0 lo)
theorem au.cut{mg:aC}{ι:Io}{H:Hp}{n:Nat}{ds:List D}{vs:List V}(r:au mg ι n H ds vs)(lo hi:Option Int):au mg ι n H (cutD ds lo hi) (mL vs lo hi):=by
 unfold cutD mL;rw[<-au.length r];exact(r.drop _).take _
@[irreducible] def oG(r:Nat)(lo hi:Option Int)(A:Ar)(R:DK):Prop:=match A[r]? with
 |some (.lst xs)=>R (.ref A.length) (A++[.lst (cutD xs lo hi)])
 |_=>False
def XC(x:D)(lo hi:Option Int)(A:Ar)(R:DK):Prop:=match x with
 |.tup xs=>¬(HT.bu xs.length 0 lo=0/\HT.bu xs.length xs.length hi=xs.length)/\R (.tup (cutD xs lo hi)) A
 |.ref r=>oG r lo hi A R
 |_=>False
def Na(m:aP)(l u:qX):aP:=λτ A R=>m τ A λx A1=>l τ A1 λlo A2=>u τ A2 λhi A3=>XC x lo hi A3 R
section
variable{X:Cx}{N:En}{pos p2:Pos}{e:Expr}{lo hi:Option Expr}{m:aP}{l u:qX}
theorem Ft{t t':TO}(h:PO X lo t)(w:∀σ H Q,t' σ H Q->t σ H Q):PO X lo t':=λpins s σ H Q I q=>h pins s σ H Q I (w σ H Q q)
theorem z3:PO X none (x6 X.mg N oN):=Ft Vh λσ H Q q=>by
 obtain⟨A,ι,τ,R,S,q,k⟩:=q;exact k none A ι H q S.ra.refl S.ra
theorem z4(h:PE X e (up X.mg N m)):PO X (some e) (x6 X.mg N (oS m)):=Ft (Vi h) λσ H Q q=>by
 obtain⟨A,ι,τ,R,S,q,k⟩:=q;refine⟨A,ι,τ,_,S,q,λx c a H1 u b d f g=>?_⟩;cases x with
 |int i=>exact⟨i,g,k (some i) c a H1 b d f⟩
 |_=>exact b.elim
theorem zW(t:PE X e (up X.mg N m))(w:PO X lo (x6 X.mg N l))(y:PO X hi (x6 X.mg N u)):PE X (.Subscript e (.Slice lo hi none p2) pos) (up X.mg N (Na m l u)):=
 dP (UR (XF.or XE) t w y) λσ H Q q=>by
  obtain⟨A,ι,τ,R,S,q,k⟩:=q;refine⟨A,ι,τ,_,S,q,λx z d H1 v B f n C=>?_⟩;refine⟨z,d,τ,_,S.next f n,B,λD E g H2 F h G=>?_⟩;refine⟨E,g,τ,_,(S.next f n).next h G,F,λI J K M b o i=>?_⟩;have c:=(f.trans h).trans o;have s:=RV.ext (h.trans o) x v C;cases x with
  |tup ds=>
   obtain⟨a,xs,rfl,h1,h2⟩:=s;refine .inl ⟨a,xs,rfl,bQ.of h1,by rw[<-au.length h2];exact b.1,λp j=>we (k.from c) i (h2.cut _ _) b.2 j⟩
  |ref r=>
   obtain⟨_,rfl⟩:=s;have b:oG r D I J R:=b;unfold oG at b;split at b
   .rename_i xs e
    obtain⟨L,h1,h2⟩:=i.lst e;exact .inr ⟨_,L,rfl,aW.of h1,λp j=>j6 (k.from c) i (h2.cut _ _) b j⟩
   .exact b.elim
  |_=>exact b.elim
end
def kX:List D->Option (List Str)
 |[]=>some []
 |.str b::r=>(kX r).map (b::·)
 |_::_=>none
theorem KI{mg:aC}{ι:Io}{n:Nat}{H:Hp}:∀{ds:List D} {a:List V} {bs:List Str},kX ds=some bs->au mg ι n H ds a->a=bs.map V.str
 |[],a,bs,h,r=>by cases h;exact r
 |d::ds,a,bs,h,r=>by
  obtain⟨x,r',rfl,h1,h2⟩:=r;cases d with
  |str b=>
   cases q:kX ds with
   |none=>simp[kX,q] at h
   |some l=>
    simp[kX,q] at h;subst h;rw[KI q h2];cases h1;rfl
  |_=>simp[kX] at h
theorem au.strs{mg:aC}{ι:Io}{H:Hp}:∀(ns:List Str) {n:Nat},au mg ι n H (ns.map D.str) (ns.map V.str)
 |[],_=>rfl
 |i::r,n=>⟨_,_,rfl,rfl,au.strs r⟩
@[irreducible] def tQ(r:Nat)(A:Ar)(R:DK):Prop:=match A[r]? with
 |some (.lst xs)=>(match kX xs with
  |some ss=>ss.length<64/\∀ys:List Str,ys.Pairwise strLt->(∀x,x∈ys↔x∈ss)->R (.ref A.length) (A++[.lst (ys.map D.str)])
  |none=>False)
 |_=>False
def XS:gM:=λvs A R=>match vs with
 |[.ref r]=>tQ r A R
 |_=>False
theorem zX{X:Cx}{N:En}{e:Expr}{n:dD}{p1 p2 pos1 pos2:Pos}(b:X.mg "sorted"=none)(c:X.mg "set"=none)(hc:X.calm=true)(i:PA X [e] (fW X.mg N n))(d:Gl X "sorted":=by rfl)(f:Gl X "set":=by rfl)
  (j:starEach [e] X.env=[(false,eval e X.env)]:=by rfl)(hz:starEach [.Call (.Name "set" p2) [e] [] pos2] X.env=[(false,eval (.Call (.Name "set" p2) [e] [] pos2) X.env)]:=by rfl):
  PE X (.Call (.Name "sorted" p1) [.Call (.Name "set" p2) [e] [] pos2] [] pos1) (up X.mg N (rQ XS n)):=dP (US b c hc i d f j hz) λσ H Q q=>by
 obtain⟨A,ι,τ,R,S,q,k⟩:=q;refine⟨A,ι,τ,_,S,q,λvs m o H1 p a s h g=>?_⟩;match vs,a,g with
 |[.ref r],a,g=>
  obtain⟨_,_,rfl,⟨_,rfl⟩,rfl⟩:=g;have a:tQ r m R:=a;unfold tQ at a;split at a
  .rename_i xs e
   split at a
   .rename_i ss es
    obtain⟨p,h1,h2⟩:=h.lst e;exact⟨_,ss,rfl,aW.of (by rw[h1,KI es h2]),a.1,λl ys t u v=>j6 (k.from s) h (au.strs ys) (a.2 ys u v) t⟩
   .exact a.elim
  .exact a.elim
def b5{β:Type}(kvs:List (Key×β))(k:Key)(v:β):List (Key×β):=
 if (kvs.any λkv=>decide (kv.1=k))=true then kvs.map (λkv=>if kv.1=k then (kv.1,v) else kv) else kvs++[(k,v)]
section
variable{mg:aC}{ι:Io}{H:Hp}{n:Nat}
theorem RK.any{k:Key}:∀{kvs:List (Key×D)} {xs:List (Key×V)},RK mg ι n H kvs xs->(kvs.any λa=>decide (a.1=k))=(xs.any λa=>decide (a.1=k))
 |[],xs,h=>by cases (show xs=[] from h);rfl
 |p::r,xs,h=>by
  obtain⟨x,r',rfl,h1,h2⟩:=h;rw[o4,o4,RK.any h2]
theorem RK.A_{k:Key}{d:D}{v:V}(c:RV mg ι n H d v):∀{kvs:List (Key×D)} {xs:List (Key×V)},RK mg ι n H kvs xs->RK mg ι n H (kvs.map λa=>if a.1=k then (a.1,d) else a) (xs.map λa=>if a.1=k then (a.1,v) else a)
 |[],xs,h=>by cases (show xs=[] from h);rfl
 |p::r,xs,h=>by
  obtain⟨x,r',rfl,h1,h2⟩:=h;rw[cO,cO];by_cases b:p.1=k
  .rw[aA b,aA b];exact⟨v,_,rfl,c,RK.A_ c h2⟩
  .rw[ao b,ao b];exact⟨x,_,rfl,h1,RK.A_ c h2⟩
theorem RK.app:∀{ds es:List (Key×D)} {vs ws:List (Key×V)},RK mg ι n H ds vs->RK mg ι n H es ws->RK mg ι n H (ds++es) (vs++ws)
 |[],_,vs,_,h,q=>by have h':vs=[]:=h;rw[h'];exact q
 |d::ds,es,vs,ws,h,q=>by
  obtain⟨x,r,rfl,a,b⟩:=h;exact⟨x,r++ws,rfl,a,RK.app b q⟩
theorem RK.put{k:Key}{d:D}{v:V}(a:RV mg ι n H d v){kvs:List (Key×D)}{xs:List (Key×V)}(h:RK mg ι n H kvs xs):RK mg ι n H (b5 kvs k d) (putK xs k v):=by
 unfold b5 putK;rw[RK.any h];split
 .exact RK.A_ a h
 .exact h.app (es:=[(k,d)]) (ws:=[(k,v)]) ⟨v,[],rfl,a,rfl⟩
end
def fK:List D->Option (List (Key×D))
 |[]=>some []
 |.tup [a,b]::r=>(match gm a,fK r with
  |some k,some l=>some ((k,b)::l)
  |_,_=>none)
 |_::_=>none
def nc(ps:List (Key×D)):List (Key×D):=ps.foldl (λacc p=>b5 acc p.1 p.2) []
section
variable{mg:aC}{K:Frag}{ι:Io}{H:Hp}{n:Nat}
theorem HX:∀{ds:List D} {c:List V} {ps:List (Key×D)},fK ds=some ps->au mg ι n H ds c->∃qs,RK mg ι n H ps qs/\c.length=qs.length/\∀(i:Nat) (x:V) (p:Key×V),c[i]?=some x->qs[i]?=some p->∃t,x=.ref t/\bQ K H t [kV p.1,p.2]
 |[],c,ps,h,r=>by
  cases h;cases (show c=[] from r);exact⟨[],rfl,rfl,λi x p e=>by simp at e⟩
 |.tup [a,b]::ds,c,ps,h,r=>by
  obtain⟨x,r',rfl,h1,h2⟩:=r;unfold fK at h;split at h
  .rename_i k l m o
   cases h;obtain⟨qs,q,s,u⟩:=HX o h2;obtain⟨t,xs,rfl,v,B,_,rfl,w,d,_,rfl,y,A⟩:=h1;obtain rfl:=A;cases n9 m w;refine⟨(k,d)::qs,⟨d,qs,rfl,y,q⟩,by simp[s],λi z p hz j=>?_⟩;cases i with
   |zero=>
    have f:V.ref t=z:=by simpa using hz
    have g:(k,d)=p:=by simpa using j
    subst f g;exact⟨t,rfl,bQ.of v⟩
   |succ i=>exact u i z p (by simpa using hz) (by simpa using j)
  .cases h
 |.aG::_,_,_,h,_=>by simp[fK] at h
 |.bl _::_,_,_,h,_=>by simp[fK] at h
 |.int _::_,_,_,h,_=>by simp[fK] at h
 |.str _::_,_,_,h,_=>by simp[fK] at h
 |.ref _::_,_,_,h,_=>by simp[fK] at h
 |.fl _::_,_,_,h,_=>by simp[fK] at h
 |.exc _::_,_,_,h,_=>by simp[fK] at h
 |.tup []::_,_,_,h,_=>by simp[fK] at h
 |.tup [_]::_,_,_,h,_=>by simp[fK] at h
 |.tup (_::_::_::_)::_,_,_,h,_=>by simp[fK] at h
theorem RK.fold{ps:List (Key×D)}{qs:List (Key×V)}(h:RK mg ι n H ps qs):∀{acc:List (Key×D)} {rE:List (Key×V)},RK mg ι n H acc rE->RK mg ι n H (ps.foldl (λacc p=>b5 acc p.1 p.2) acc) (qs.foldl (λacc p=>putK acc p.1 p.2) rE):=by
 induction ps generalizing qs with
 |nil=>intro acc rE a;cases (show qs=[] from h);exact a
 |cons p r b=>
  intro acc rE a;obtain⟨x,r',rfl,h1,h2⟩:=h;exact b h2 (RK.put h1 a)
end
theorem HD{mg:aC}{A:Ar}{ι:Io}{H:Hp}{R:DK}{Q:VK}{ds:List (Key×D)}{xs:List (Key×V)}{p:Addr}(k:Kt mg A ι H R Q)(r:RA mg ι H A)(h:RK mg ι A.length H ds xs)(q:R (.ref A.length) (A++[.dct ds]))(a:H p=none):Q (.ref p) (upd H p (.dK xs)):=by
 have E:Ext A ι H (A++[.dct ds]) (λr=>if r=A.length then p else ι r) (upd H p (.dK xs)):=r.Ab a;obtain⟨b,d⟩:=r.push (c:=.dct ds) (o:=.dK xs) a ⟨xs,fC,by simpa using RK.ext E ds xs h⟩;refine k _ _ _ _ _ q d b ⟨by simp,?_⟩;show V.ref p=V.ref (if A.length=A.length then p else ι A.length);rw[aA rfl]
@[irreducible] def dctP(xs:List D)(A:Ar)(R:DK):Prop:=match fK xs with
 |some ps=>ps.length<=1000/\R (.ref A.length) (A++[.dct (nc ps)])
 |none=>False
@[irreducible] def vd(r:Nat)(A:Ar)(R:DK):Prop:=match A[r]? with
 |some (.lst xs)=>dctP xs A R
 |_=>False
def E3:gM:=λvs A R=>match vs with
 |[.tup xs]=>dctP xs A R
 |[.ref r]=>vd r A R
 |_=>False
theorem RK.len'{mg:aC}{ι:Io}{H:Hp}{n:Nat}{ds:List (Key×D)}{vs:List (Key×V)}(h:RK mg ι n H ds vs):vs.length=ds.length:=(RK.length h).symm
theorem mP{mg:aC}{K:Frag}:iE mg (λxs H Q=>∃(p:Addr) (b:List V) (ps:List (Key×V)),xs=[.ref p]/\(H p=some (.lst b)\/H p=some (.tup b))/\Pairs K H b ps/\ps.length<=1000/\∀d,H d=none->Q (.ref d) (upd H d (.dK (putAll ps)))) E3:=by
 intro ds A ι H f R Q ra rs h k;have fin:∀(xs:List D) (b:List V) (p:Addr),au mg ι A.length H xs b->(H p=some (.lst b)\/H p=some (.tup b))->dctP xs A R->∃(q:Addr) (b:List V) (ps:List (Key×V)),[V.ref p]=[.ref q]/\(H q=some (.lst b)\/H q=some (.tup b))/\Pairs K H b ps/\ps.length<=1000/\∀d,H d=none->Q (.ref d) (upd H d (.dK (putAll ps))):=λxs b p r i h=>by
  unfold dctP at h;split at h
  .rename_i ps ep
   obtain⟨qs,g,j,l⟩:=HX (K:=K) ep r;exact⟨p,b,qs,rfl,i,⟨j,l⟩,by rw[RK.len' g];exact h.1,λd hd=>HD k ra (RK.fold g (acc:=[]) (rE:=[]) rfl) h.2 hd⟩
  .exact h.elim
 unfold E3 at h;split at h
 .obtain⟨_,_,rfl,⟨a,xs,rfl,m,c⟩,rfl⟩:=rs
  exact fin _ xs a c (.inr m) h
 .obtain⟨_,_,rfl,⟨_,rfl⟩,rfl⟩:=rs
  unfold vd at h;split at h
  .rename_i xs e
   obtain⟨f,h1,c⟩:=ra.lst e;exact fin _ f _ c (.inl h1) h
  .exact h.elim
 .exact h.elim
def M8:aP:=λ_ A R=>R (.ref A.length) (A++[.dct []])
theorem zU{X:Cx}{N:En}{pos:Pos}:PE X (.Dict [] [] pos) (up X.mg N M8):=dP UG λσ H Q q=>by
 obtain⟨A,ι,τ,R,S,q,k⟩:=q;exact λp a=>HD (ds:=[]) (xs:=[]) k S.ra rfl q a
@[irreducible] def tu(r:Nat)(y v:D)(A:Ar)(R:Ar->Prop):Prop:=match A[r]?,gm y with
 |some (.dct kvs),some k=>kvs.length<sizeLine/\R (A.set r (.dct (b5 kvs k v)))
 |_,_=>False
def Wm(mo mi mv:aP):dM:=λR τ A=>mv τ A λv A1=>mo τ A1 λx A2=>mi τ A2 λy A3=>match x with
 |.ref r=>tu r y v A3 λA4=>R.nx τ A4
 |_=>False
theorem vz{X:Cx}{N:En}{pos pos':Pos}{o i value:Expr}{mo s t:aP}(Z:X.A.units+64<cLine)(D:PE X o (up X.mg N mo))(hi:PE X i (up X.mg N s))(F:PE X value (up X.mg N t))(G:swapsWith value (some (.Subscript o i pos')) pos.line X.env=pure false):
  PS X (.Assign [.Subscript o i pos'] value pos) (dB X.mg N (Wm mo s t)):=iZ (Vu (by omega) D hi F G) λQ σ H q=>by
 obtain⟨A,ι,τ,R,S,q,k⟩:=q;refine⟨A,ι,τ,_,S,q,λv I j H1 w J b l K=>?_⟩;refine⟨I,j,τ,_,S.next b l,J,λx L m H2 u M d B v2=>?_⟩;refine⟨L,m,τ,_,(S.next b l).next d B,M,λy O P H3 z a f g T=>?_⟩;have n:=RV.ext (d.trans f) v w K;have p:=RV.ext f x u v2;cases x with
 |ref r=>
  obtain⟨_,rfl⟩:=p;have a:tu r y v O (λU=>R.nx τ U):=a;unfold tu at a;split at a
  .rename_i kvs h e V
   obtain⟨xs,h1,h2⟩:=g.dct e;cases n9 V T;refine⟨_,_,rfl,qW.k h1 (by rw[<-RK.length h2];exact a.1),?_⟩;have W:=(bY.mp e).1;have E:=g.nU (o:=.dK (putK xs h w)) (c:=.dct (b5 kvs h v)) W;obtain⟨Y,C⟩:=g.put (c':=.dct (b5 kvs h v)) (o:=.dK (putK xs h w)) e h1 rfl ⟨_,fC,by simpa using RK.ext E _ _ (RK.put n h2)⟩;exact(k.nx.from (((b.trans d).trans f).trans C)).here ((((S.next b l).next d B).next f g).next C Y) a.2
  .exact a.elim
 |_=>exact a.elim
def MY(x:Str)(m:aP):aP:=λτ A R=>m τ A λv A1=>match v with
 |.str y=>x.length+y.length<=sizeLine/\R (.str (x++y)) A1
 |_=>False
theorem Nv{X:Cx}{N:En}{e:Expr}{m:aP}{x:Str}{k:Nat}{p1 p2 pos:Pos}(b:PE X e (up X.mg N m))(c:x.length<=sizeLine:=by decide):PE X (.JoinedStr [.Constant (.str x) k p1,.FormattedValue e (-1) none p2] pos) (up X.mg N (MY x m)):=
 dP (UH b c) λσ H Q q=>by
  obtain⟨A,ι,τ,R,S,q,k⟩:=q;refine⟨A,ι,τ,_,S,q,λv i d H1 u a f g h=>?_⟩;cases v with
  |str y=>cases h;exact⟨y,rfl,a.1,(k.from f).here g a.2 rfl⟩
  |_=>exact a.elim
def Tp:DX:=λ_ _=>False
theorem m_{X:Cx}{N:En}{P:Program}{w:World}:Passes (bW P w) X (EL X.mg N Tp):=λpins σ H s e s' I h=>by
 obtain⟨a,C,H',_,_,c,A',ι',_,_,_,z⟩:=h;exact z.elim
theorem RZ{K:Frag}:∀t∈tys,kitOne K (.type t) (.type "bool")=some (lN t "bool"):=by
 intro t a;simp only[tys,aY,fD,fE] at a;rcases a with rfl|rfl|rfl|rfl|rfl|rfl|rfl<;>rfl
theorem R0{K:Frag}:∀t∈tys,kitOne K (.type t) (.type "int")=some (lN t "int"):=by
 intro t a;simp only[tys,aY,fD,fE] at a;rcases a with rfl|rfl|rfl|rfl|rfl|rfl|rfl<;>rfl
theorem GU{K:Frag}:∀t∈tys,kitOne K (.type t) (.type "str")=some (lN t "str"):=by
 intro t a;simp only[tys,aY,fD,fE] at a;rcases a with rfl|rfl|rfl|rfl|rfl|rfl|rfl<;>rfl
theorem kit_tuple{K:Frag}:∀t∈tys,kitOne K (.type t) (.type "tuple")=some (lN t "tuple"):=by
 intro t a;simp only[tys,aY,fD,fE] at a;rcases a with rfl|rfl|rfl|rfl|rfl|rfl|rfl<;>rfl
theorem R1{K:Frag}:∀t∈tys,kitOne K (.type t) (.type "list")=some (lN t "list"):=by
 intro t a;simp only[tys,aY,fD,fE] at a;rcases a with rfl|rfl|rfl|rfl|rfl|rfl|rfl<;>rfl
theorem cI{b:Bool}{X Y:Prop}(h1:b=true->X)(h2:b=false->Y):cond b X Y:=by
 cases b with
 |true=>exact h1 rfl
 |false=>exact h2 rfl
theorem cD{p:Prop}[Decidable p]{X Y:Prop}(h1:p->X)(h2:¬p->Y):cond (decide p) X Y:=cI (λe=>h1 (gy e)) λe=>h2 (of_decide_eq_false e)
theorem cN{p:Prop}[Decidable p]{X Y:Prop}(h1:¬p->X)(h2:p->Y):cond (!decide p) X Y:=cI (λe=>h1 (of_decide_eq_false (by simpa using e))) λe=>h2 (gy (by simpa using e))
def cK(t:Nat)(A A':Ar):Prop:=∀q c,q≠t->A[q]?=some c->A'[q]?=some c
theorem cK.refl{t:Nat}{A:Ar}:cK t A A:=λ_ _ _ h=>h
theorem cK.trans{t:Nat}{A B C:Ar}(a:cK t A B)(b:cK t B C):cK t A C:=λq c n h=>b q c n (a q c n h)
theorem cK.set{t:Nat}{A:Ar}{c:C}:cK t A (A.set t c):=λq d n h=>by rw[eF (Ne.symm n)];exact h
def Tw(t n:Nat)(A:Ar):Prop:=∃xs,A[t]?=some (.lst xs)/\xs.length<=n
theorem Tw.mono{t n m:Nat}{A:Ar}(h:Tw t n A)(l:n<=m):Tw t m A:=let ⟨xs,a,b⟩:=h;⟨xs,a,cG b l⟩
theorem getElem?_push{A T:Ar}{q:Nat}{c:C}(h:A[q]?=some c):(A++T)[q]?=some c:=by
 have:=(bY.mp h).1;rw[iC this];exact h
def Gr(A A':Ar):Prop:=∃T,A'=A++T
theorem Gr.refl{A:Ar}:Gr A A:=⟨[],by simp⟩
theorem Gr.push{A T:Ar}:Gr A (A++T):=⟨T,rfl⟩
theorem Gr.trans{A B C:Ar}(a:Gr A B)(b:Gr B C):Gr A C:=by
 obtain⟨T,rfl⟩:=a;obtain⟨c,rfl⟩:=b;exact⟨T++c,by simp⟩
theorem Gr.get{A B:Ar}(a:Gr A B){q:Nat}{c:C}(h:A[q]?=some c):B[q]?=some c:=by
 obtain⟨T,rfl⟩:=a;exact getElem?_push h
theorem Gr.but{A B:Ar}{t:Nat}(a:Gr A B):cK t A B:=λ_ _ _ h=>a.get h
theorem Tw.gr{A B:Ar}{t n:Nat}(h:Tw t n A)(a:Gr A B):Tw t n B:=let ⟨xs,x,y⟩:=h;⟨xs,a.get x,y⟩
def Dd:Ct:=λds A R _=>∃ns k,ds=[.fl ns,.int k]/\0<=k/\∀i A',Gr A A'->R (.int i) A'
def DC:Ct:=λds A R _=>∃ns k m,ds=[.fl ns,.int k,.int m]/\0<=k/\0<m/\∀i A',0<=i->i<m->Gr A A'->R (.int i) A'
def mF:Ct:=λds A R _=>∃ns t m n,ds=[.fl ns,.ref t,.int m]/\Tw t n A/\n<1000000/\0<m/\∀i A',0<=i->i<m->cK t A A'->Tw t (n+1) A'->R (.int i) A'
def nL:Ct:=λds A R _=>∃ns t q xs n,ds=[.fl ns,.ref t,.ref q]/\q≠t/\A[q]?=some (.lst xs)/\xs≠[]/\Tw t n A/\n<1000000/\∀x A',x∈xs->cK t A A'->Tw t (n+1) A'->R x A'
theorem uV{α:Type}{xs:List α}{k:Int}(h0:0<=k)(h:k<(xs.length:Int)):∃v,c6 xs k=some v/\v∈xs:=by
 have a:k.toNat<xs.length:=by omega
 refine⟨xs[k.toNat],?_,jH a⟩;unfold c6 i_;rw[aA h0,aA h];simp[a_ a]
theorem lay_ints:∀ns:List Int,canLayAll0 (ns.map PyData.int)=true
 |[]=>by simp[canLayAll0]
 |n::r=>by simp[canLayAll0,canLay0,lay_ints r]
theorem aE{A:Ar}{c:C}:(A++[c])[A.length]?=some c:=by simp
theorem Oh{ns:List Int}{A:Ar}{R:DK}(h:R (.bl (decide (ns=[]))) (A++[.lst []])):gR false (.fl ns) (.ref A.length) (A++[.lst []]) R:=by
 unfold gR;have a:cY (A++[.lst []]) (.ref A.length)=.list []:=by unfold cY;simp only[aE];rfl
 have b:cY (A++[.lst []]) (.fl ns)=.list (ns.map PyData.int):=by unfold cY;rfl
 refine⟨rfl,?_,?_,?_,?_,?_⟩
 .unfold jd;simp only[aE];rfl
 .rw[b];simpa[canLay0] using lay_ints ns
 .rw[a];simp[canLay0,canLayAll0]
 .rw[a];simp[PyData.depth,depthAll];omega
 .rw[b,a]
  have e:PyData.eqv (.list (ns.map PyData.int)) (.list [])=decide (ns=[]):=by cases ns<;>simp[PyData.eqv,eqvAll]
  rw[ao bV,e];exact h
section
variable{A:Ar}{r q t:Nat}{xs ys:List D}{kvs:List (Key×D)}{R:DK}
theorem gE(h:A[r]?=some (.lst xs)):nY A (.ref r)=true:=by unfold nY;simp only[h]
theorem iV{y:D}(h:A[r]?=some (.lst xs))(hz:xs.length<sizeLine)(k:R .aG (A.set r (.lst (xs++[y])))):uT r y A R:=by
 unfold uT;simp only[h];exact⟨hz,k⟩
theorem vD(h:A[r]?=some (.lst xs))(h2:A[q]?=some (.lst ys))(hz:xs.length+ys.length<=sizeLine)(k:R .aG (A.set r (.lst (xs++ys)))):r9 r q A R:=by
 unfold r9;simp only[h,h2];exact⟨hz,k⟩
theorem iX(h:A[r]?=some (.lst xs))(h2:A[q]?=some (.lst ys))(hz:xs.length+ys.length<=sizeLine)(k:R (.ref A.length) (A++[.lst (xs++ys)])):u0 r q A R:=by
 unfold u0;simp only[h,h2];exact⟨hz,k⟩
theorem vS(h:A[r]?=some (.lst xs))(k:R (.int xs.length) A):vR r A R:=by
 unfold vR;simp only[h];exact k
theorem kK{i:Int}{v:D}(h:A[r]?=some (.lst xs))(hi:c6 xs i=some v)(k:R v A):lO r (.int i) A R:=by
 unfold lO;simp only[h,hi];exact k
theorem tV(h:A[r]?=some (.lst xs))(k:R (.tup xs) A):xY r A R:=by
 unfold xY;simp only[h];exact k
theorem Sx(h:A[r]?=some (.lst xs))(k:R (.ref A.length) (A++[.lst xs])):vW r A R:=by
 unfold vW;simp only[h];exact k
theorem get_set(h:A[t]?=some (.lst xs)):(A.set t (.lst ys))[t]?=some (.lst ys):=by
 rw[eB (bY.mp h).1]
theorem cz{c:C}(h:A[t]?=some c):t<A.length:=(bY.mp h).1
end
theorem K7{ns:List Int}{its:List Value}(r:Vals (ns.map V.int) its):∀(i:Nat) (v:Value),its.toArray[i]?=some v->∃t:Tok,v=Value.int (ns.getD i 0) t:=λi v h=>by
 have h':its[i]?=some v:=by simpa using h
 have hi:=(bY.mp h').1;have c:=r.length;have a:i<(ns.map V.int).length:=by omega
 obtain⟨u,e,b⟩:=r.get (a_ a);rw[h'] at e;cases e;rw[List.getElem_map] at b;obtain⟨t,rfl⟩:=b;refine⟨t,?_⟩;rw[fZ,a_ (by simpa using a)];rfl
open MA
abbrev M:=aV Str
def enc:M->D
 |.wt n=>.tup [.str "weight",.str n]
 |.bS l r a b=>.tup [.str "rod",.int l,.int r,enc a,enc b]
theorem iY{k:Option Nat}{fr:bO}{te:aP}{a:Ar->Prop}{R:List D->Ar->Prop}{A:Ar}(hc:a A)(f:D->D):∀(items ys:List D),(∀x∈items,∃vs,ni k x=some vs/\∀Q:DK,Q (f x) A->te (vs.map some++fr) A Q)->ys.length+items.length<=sizeLine->R (ys++items.map f) A->jV a k fr oJ te R items ys A
 |[],ys,_,_,h=>⟨hc,by simpa using h⟩
 |x::xs,ys,b,c,h=>by
  obtain⟨vs,d,e⟩:=b x (aU ..);refine⟨hc,?_⟩;rw[d];refine e _ ⟨by simp at c;omega,iY hc f xs (ys++[f x]) (λy g=>b y (bq _ g)) (by simp at c ⊢;omega) (by simpa using h)⟩
theorem nN{α:Type}(f:α->Bool):∀xs:List α,ju (xs.map λx=>D.bl (f x))=some (xs.map f)
 |[]=>rfl
 |x::r=>by simp[ju,nN f r]
theorem ints_map{α:Type}(f:α->Int):∀xs:List α,i9 (xs.map λx=>D.int (f x))=some (xs.map f)
 |[]=>rfl
 |x::r=>by simp[i9,ints_map f r]
theorem strs_map{α:Type}(f:α->Str):∀xs:List α,kX (xs.map λx=>D.str (f x))=some (xs.map f)
 |[]=>rfl
 |x::r=>by simp[kX,strs_map f r]
theorem uR{A:Ar}{r:Nat}{xs:List D}{bs:List Bool}{R:DK}(h:A[r]?=some (.lst xs))(a:ju xs=some bs)(k:R (.bl (bs.all id)) A):allR r A R:=by
 unfold allR;simp only[h,a];exact k
theorem Yb{A:Ar}{r:Nat}{xs:List D}{ns:List Int}{R:DK}(h:A[r]?=some (.lst xs))(a:i9 xs=some ns)(h1:∀n∈ns,0<=n/\n<=2 ^ 40)(h2:ns.length<=1000)(k:R (.int ns.sum) A):xU r A R:=by
 unfold xU;simp only[h,a];exact⟨h1,h2,k⟩
theorem BQ{A:Ar}{r:Nat}{xs:List D}{ss:List Str}{R:DK}(h:A[r]?=some (.lst xs))(a:kX xs=some ss)(h2:ss.length<64)(k:∀ys:List Str,ys.Pairwise strLt->(∀x,x∈ys↔x∈ss)->R (.ref A.length) (A++[.lst (ys.map D.str)])):tQ r A R:=by
 unfold tQ;simp only[h,a];exact⟨h2,k⟩
theorem d8{A:Ar}{r:Nat}{xs:List D}{R:List D->(Ar->Prop)->Ar->Prop}(h:A[r]?=some (.lst xs))(k:R xs (λA'=>A'[r]?=some (.lst xs)) A):itR r A R:=by
 unfold itR;simp only[h];exact k
structure Nm(n:Str):Prop where
 lo:1<=n.length
 hi:n.length<=3
 az:∀c∈n.cps.toList,97<=c/\c<=122
structure Wf(m:M):Prop where
 arms:m.arms
 nm:∀n∈m.names,Nm n
def SV(dom:List D->D->Prop):Ct:=λds A R _=>∃v,dom ds v/\∀A',Gr A A'->R v A'
def SL(dom:List D->List D->Prop):Ct:=λds A R _=>∃v,dom ds v/\∀A' r,Gr A A'->A'[r]?=some (.lst v)->R (.ref r) A'
abbrev uP:Ct:=SV λds v=>∃i a b,ds=[.int i,.int a,.int b]/\v=.bl (decide (a<=i)&&decide (i<=b))
abbrev zk:Ct:=SV λds v=>∃n,ds=[.str n]/\Nm n/\v=.bl true
abbrev Ds(d:Nat):Ct:=SV λds v=>∃m,ds=[enc m,.int ((d:Int) - 1)]/\Wf m/\m.deep<d/\v=.bl true
abbrev zh:Ct:=SV λds v=>∃m,ds=[enc m]/\Wf m/\m.deep<=5/\v=.bl true
abbrev pB:Ct:=SV λds v=>∃m,ds=[enc m]/\Wf m/\m.deep<=5/\v=.aG
theorem nW{P:Program}{w:World}{K:Frag}{mg:aC}{base:Heap}{x:Str}{st:Stmt}{ps:List Str}{k n:Nat}{S:Ct}(T:TopD K mg x st ps)(no:∀ds A R RE,¬S ds A R RE):aj P w K mg base k x ps (ak mg n S):=by
 obtain⟨f,fd,F,b,m⟩:=T;have a:∀vs H Q E,¬ak mg n S vs H Q E:=λvs H Q E h=>by
  obtain⟨A,ι,ds,R,RE,_,_,_,z,_⟩:=h;exact no _ _ _ _ z
 exact⟨f,fd,⟨λvs H Q E h=>absurd h (a vs H Q E),λA outer s H args c vs Q E _ _ _ _ h=>absurd h (a vs H Q E)⟩,b,F.kp,m⟩
def bI(r:Str×Int):D:=.tup [.str r.1,.int r.2]
def fy(rs:List (Str×Int)):D:=.tup (rs.map bI)
def dg(rs:List (Str×Int)):List (Key×D):=rs.map λr=>(Sum.inr r.1,.int r.2)
structure jt(rs:List (Str×Int)):Prop where
 nm:∀r∈rs,Nm r.1
 no:∀r∈rs,1<=r.2/\r.2<=999999
 up:(rs.map (·.1)).Pairwise strLt
 len:rs.length<64
def val(rs:List (Str×Int))(n:Str):Int:=((rs.find? λr=>r.1=n).map (·.2)).getD 0
def ld(f:Str->Int):M->Int
 |.wt n=>f n
 |.bS _ _ a b=>ld f a+ld f b
theorem BS{a b:Str}(h:strLt a b):a≠b:=λe=>by
 subst e;exact kg _ h
theorem nX:∀(rs:List (Str×Int)) (n:Str),n∈rs.map (·.1)->bw (dg rs) (Sum.inr n)=some (.int (val rs n))
 |[],n,h=>by simp at h
 |r::rs,n,h=>by
  unfold dg bw val;by_cases e:r.1=n
  .simp[e]
  .have h':n∈rs.map (·.1):=by
    rcases aY.mp (show n∈r.1::rs.map (·.1) from h) with q|q
    .exact absurd q.symm e
    .exact q
   have a:¬(Sum.inr r.1:Key)=Sum.inr n:=λz=>e (Sum.inr.inj z);have:=nX rs n h';simp only[cO,a,gv,ki,e,decide_false];exact this
theorem Cn{rs:List (Str×Int)}(a:jt rs){n:Str}(h:n∈rs.map (·.1)):1<=val rs n/\val rs n<=999999:=by
 unfold val;cases q:rs.find? λr=>r.1=n with
 |none=>
  obtain⟨r,b,e⟩:=aJ.mp h;have:=nG.mp q r b;simp[e] at this
 |some r=>
  have:=nu q;exact a.no r this
theorem Bu{kvs:List (Key×D)}{k:Key}{v:D}(h:∀p∈kvs,p.1≠k):b5 kvs k v=kvs++[(k,v)]:=by
 unfold b5;rw[ao];intro z;obtain⟨p,a,e⟩:=jL.mp z;exact h p a (gy e)
theorem Ik:∀(rs:List (Str×Int)) (acc:List (Key×D)),(rs.map (·.1)).Pairwise strLt->(∀p∈acc,∀r∈rs,p.1≠Sum.inr r.1)->(dg rs).foldl (λacc p=>b5 acc p.1 p.2) acc=acc++dg rs
 |[],acc,_,_=>by simp[dg]
 |r::rs,acc,f,c=>by
  have b:=gZ.mp (show(r.1::rs.map (·.1)).Pairwise strLt from f);have e:b5 acc (Sum.inr r.1) (.int r.2)=acc++[(Sum.inr r.1,.int r.2)]:=Bu λp a=>c p a r (aU ..);show(dg rs).foldl _ (b5 acc (Sum.inr r.1) (.int r.2))=_;rw[e,Ik rs _ b.2]
  .simp[dg]
  .intro p a q d
   rcases bU.mp a with z|z
   .exact c p z q (bq _ d)
   .have g:p=(Sum.inr r.1,.int r.2):=by simpa using z
    subst g;exact λe=>BS (b.1 q.1 (cQ d)) (Sum.inr.inj e)
theorem HY:∀rs:List (Str×Int),fK (rs.map bI)=some (dg rs)
 |[]=>rfl
 |r::rs=>by
  have:=HY rs;simp only[cO,bI,fK,gm,this,dg]
theorem vm{rs:List (Str×Int)}(a:jt rs){A:Ar}{R:DK}(k:R (.ref A.length) (A++[.dct (dg rs)])):dctP (rs.map bI) A R:=by
 unfold dctP;rw[HY];refine⟨by simp[dg];have:=a.len;omega,?_⟩;unfold nc;rw[Ik rs [] a.up (λp h=>by simp at h)];exact k
theorem Fq{a:Ar->Prop}{g:kj}{b:dM}{R:nI}{A:Ar}(hc:a A)(I:bO->Prop):∀(items:List D) (τ:bO),I τ->(∀x∈items,∀τ,I τ->∀c:bO->Ar->Prop,(∀bB,I bB->c bB A)->g x τ A λd j=>b {R with nx:=c,ct:=c,bk:=R.nx} d j)->(∀τ,I τ->R.nx τ A)->nQ a g b R items τ A
 |[],τ,e,_,h=>⟨hc,h τ e⟩
 |x::xs,τ,e,i,h=>⟨hc,i x (aU ..) τ e _ λbB f=>Fq hc I xs bB f (λy k=>i y (bq _ k)) h⟩
def jB:M->Str->List (Str×Str)
 |.wt n,w=>[(w,n)]
 |.bS _ _ a b,w=>jB a (w++"l")++jB b (w++"r")
theorem p8:∀(m:M) (w:Str),(jB m w).map (·.2)=m.names
 |.wt n,w=>rfl
 |.bS _ _ a b,w=>by
  show List.map _ (_++_)=a.names++b.names;rw[dJ,p8 a,p8 b]
theorem sL(m:M)(w:Str):(jB m w).length=m.names.length:=by rw[<-p8 m w,aM]
def kN(p:Str×Str):D:=.tup [.str p.1,.str p.2]
abbrev DF:Ct:=SV λds v=>∃r:Str×Int,ds=[bI r]/\Nm r.1/\(1<=r.2/\r.2<=999999)/\v=.bl true
abbrev Dt:Ct:=SV λds v=>∃rs,ds=[fy rs]/\jt rs/\v=.bl true
abbrev ze:Ct:=SV λds v=>∃m rs,ds=[enc m,fy rs]/\jt rs/\m.deep<=5/\(∀n∈m.names,n∈rs.map (·.1))/\v=.aG
abbrev uO(d:Nat):Ct:=SL λds v=>∃m w,ds=[enc m,.str w]/\m.deep<d/\w.length+d<=100/\d<=8/\v=(jB m w).map kN
def Dw(d:Nat):Ct:=λds A R _=>∃m r rs,ds=[enc m,.ref r]/\A[r]?=some (.dct (dg rs))/\jt rs/\m.deep<=d/\(∀n∈m.names,n∈rs.map (·.1))/\∀A',Gr A A'->R (.int (ld (val rs) m)) A'
theorem AN(f:Str->Int):∀m:M,(m.names.map f).sum=ld f m
 |.wt n=>by simp[aV.names,ld]
 |.bS _ _ a b=>by
  show List.sum (List.map f (a.names++b.names))=ld f a+ld f b;rw[dJ,List.sum_append,AN f a,AN f b]
theorem pI{k:Option Nat}{fr:bO}{te:aP}{a:Ar->Prop}{R:List D->Ar->Prop}(f:D->D):∀(items ys:List D) (A:Ar),(∀A',Gr A A'->a A')->(∀x∈items,∀A',Gr A A'->∃vs,ni k x=some vs/\∀Q:DK,(∀b,Gr A' b->Q (f x) b)->te (vs.map some++fr) A' Q)->ys.length+items.length<=sizeLine->(∀A',Gr A A'->R (ys++items.map f) A')->jV a k fr oJ te R items ys A
 |[],ys,A,hc,_,_,h=>⟨hc A Gr.refl,by simpa using h A Gr.refl⟩
 |x::xs,ys,A,hc,d,e,h=>by
  obtain⟨vs,i,j⟩:=d x (aU ..) A Gr.refl;refine⟨hc A Gr.refl,?_⟩;rw[i];refine j _ λl c=>⟨by simp at e;omega,pI f xs (ys++[f x]) l (λA' g=>hc A' (c.trans g)) (λy m A' g=>d y (bq _ m) A' (c.trans g)) (by simp at e ⊢;omega) (λA' g=>by simpa using h A' (c.trans g))⟩
theorem Nm.ok{n:Str}(h:Nm n):canLay0 (.str n)=true:=by
 have e:n.cps.all (λc=>decide (c<0x110000))=true:=by
  rw[<-Array.all_toList,all_eq_true];intro c hc;have:=h.az c hc;exact dR (by omega)
 simpa[canLay0,strOk] using e
theorem xH:∀ss:List Str,gc (ss.map D.str)=true
 |[]=>rfl
 |s::r=>by simp[gc,gn,xH r]
theorem tE:∀ss:List Str,bR (ss.map D.str)=ss.map PyData.str
 |[]=>rfl
 |s::r=>by simp[bR,toQ,tE r]
theorem vQ:∀ss:List Str,(∀n∈ss,Nm n)->canLayAll0 (ss.map PyData.str)=true
 |[],_=>by simp[canLayAll0]
 |s::r,h=>by
  have h1:=(h s (aU ..)).ok;have h2:=vQ r λn a=>h n (bq _ a);simp[canLayAll0,h1,h2]
theorem zY:∀ss:List Str,depthAll (ss.map PyData.str)=0
 |[]=>by simp[depthAll]
 |s::r=>by simp[depthAll,PyData.depth,zY r]
theorem FL:∀ss a:List Str,eqvAll (ss.map PyData.str) (a.map PyData.str)=decide (ss=a)
 |[],[]=>by simp[eqvAll]
 |[],_::_=>by simp[eqvAll]
 |_::_,[]=>by simp[eqvAll]
 |s::r,t::u=>by
  simp only[cO,eqvAll,PyData.eqv,FL r u];by_cases h1:s=t
  .by_cases h2:r=u<;>simp[h1,h2]
  .simp[h1]
theorem Oj{A:Ar}{r q:Nat}{ss a:List Str}{R:DK}(h1:A[r]?=some (.lst (ss.map D.str)))(h2:A[q]?=some (.lst (a.map D.str)))(n1:∀n∈ss,Nm n)(n2:∀n∈a,Nm n)(k:R (.bl (decide (ss=a))) A):gR false (.ref r) (.ref q) A R:=by
 have b:cY A (.ref r)=.list (ss.map PyData.str):=by unfold cY;simp only[h1,tE]
 have c:cY A (.ref q)=.list (a.map PyData.str):=by unfold cY;simp only[h2,tE]
 unfold gR;rw[b,c];refine⟨by unfold jd;simp only[h1,xH],by unfold jd;simp only[h2,xH],by simpa[canLay0] using vQ ss n1,by simpa[canLay0] using vQ a n2,by simp[PyData.depth,zY],?_⟩;rw[ao bV];show R (.bl (PyData.eqv (.list _) (.list _))) A;rw[show PyData.eqv (.list (ss.map PyData.str)) (.list (a.map PyData.str))=decide (ss=a) by simp only[PyData.eqv,FL]];exact k
theorem fH{A:Ar}{r:Nat}{kvs:List (Key×D)}{y v:D}{k:Key}{R:DK}(h:A[r]?=some (.dct kvs))(a:gm y=some k)(b:bw kvs k=some v)(q:R v A):lO r y A R:=by
 unfold lO;simp only[h,a,b];exact q
theorem iL{A:Ar}{r:Nat}{kvs:List (Key×D)}{y:D}{k:Key}{R:DK}{neg:Bool}(h:A[r]?=some (.dct kvs))(a:gm y=some k)(q:R (.bl (if neg then !(bw kvs k).isSome else (bw kvs k).isSome)) A):inR neg y r A R:=by
 unfold inR;simp only[h,a];exact q
def rd(a b:Int):Int×Int:=(a/(Int.gcd a b:Int),b/(Int.gcd a b:Int))
abbrev zf:Ct:=SV λds v=>∃a b:Int,ds=[.int a,.int b]/\0<=a/\0<=b/\v=.int (Int.gcd a b:Int)
abbrev zq:Ct:=SV λds v=>∃a b:Int,ds=[.int a,.int b]/\0<a/\0<b/\a<2 ^ 2000/\v=.tup [.int (rd a b).1,.int (rd a b).2]
structure Bk(rs:List (Str×Int))(m:M):Prop where
 ok:jt rs
 nm:∀n∈m.names,n∈rs.map (·.1)
theorem Bk.left{rs:List (Str×Int)}{l r:Int}{a b:M}(h:Bk rs (.bS l r a b)):Bk rs a:=⟨h.ok,λn c=>h.nm n (by simp[aV.names,c])⟩
theorem Bk.right{rs:List (Str×Int)}{l r:Int}{a b:M}(h:Bk rs (.bS l r a b)):Bk rs b:=⟨h.ok,λn c=>h.nm n (by simp[aV.names,c])⟩
theorem V0{a b:Int}(d:0<a)(e:0<b):1<=(rd a b).1/\1<=(rd a b).2:=by
 have c:0<(Int.gcd a b:Int):=by
  have:=Int.gcd_pos_of_ne_zero_left b (show a≠0 by omega);omega
 have f:(Int.gcd a b:Int)∣a:=uC ..;have g:(Int.gcd a b:Int)∣b:=uD ..;unfold rd;constructor
 .obtain⟨k,h⟩:=f
  show 1<=a/_;rw[Cy c];have:=le_of_dvd d (uC a b);omega
 .show 1<=b/_
  rw[Cy c];have:=le_of_dvd e (uD a b);omega
theorem VZ{a b:Int}(c:0<a)(d:0<b):(rd a b).1<=a/\(rd a b).2<=b:=by
 unfold rd;exact⟨lz _ (by omega),lz _ (by omega)⟩
theorem Gr.len{A B:Ar}(a:Gr A B):A.length<=B.length:=by
 obtain⟨T,rfl⟩:=a;simp
def cst(d:Nat):Nat:=5*2 ^ d - 4
theorem MN(d:Nat):cst (d+1)=4+2*cst d:=by
 unfold cst;have:0<2 ^ d:=pow_pos (by decide);rw[pow_succ];omega
theorem MM(d:Nat):1<=cst d:=by
 unfold cst;have:0<2 ^ d:=pow_pos (by decide);omega
structure Dr(t:Nat)(A A':Ar)(n k:Nat):Prop where
 but:cK t A A'
 tw:Tw t (n+k) A'
def DE(d:Nat):Ct:=λds A R _=>∃ns t q nms n,ds=[.fl ns,.ref t,.ref q,.int ((d:Int) - 1)]/\0<d/\q≠t/\A[q]?=some (.lst (nms.map D.str))/\nms≠[]/\(∀x∈nms,Nm x)/\Tw t n A/\n+cst d<=1000000/\∀m A',Wf m->m.deep<d->(∀x∈m.names,x∈nms)->Dr t A A' n (cst d)->R (enc m) A'
def Dl(d:Nat):Ct:=λds A R _=>∃m q n,ds=[enc m,.ref q]/\Wf m/\m.deep<d/\d<=8/\Tw q n A/\n+2 ^ d<=1000000/\∀m' A',Wf m'->m'.deep=m.deep->Dr q A A' n (2 ^ d)->R (enc m') A'
abbrev zj(d:Nat):Ct:=SL λds v=>∃m,ds=[enc m]/\m.deep<d/\d<=8/\v=m.names.map D.str
def DJ:Ct:=λds A R _=>∃m,ds=[enc m]/\m.deep<=5/\∀(A':Ar) (r:Nat) (ys:List Str),Gr A A'->A.length<=r->A'[r]?=some (.lst (ys.map D.str))->ys.Pairwise strLt->(∀x,x∈ys↔x∈m.names)->R (.ref r) A'
theorem Ry{z:Str}{i:Int}{c:Nat}{A:Ar}{R:DK}(h:c6 z.cps.toList i=some c)(hz:z.length<=sizeLine)(k:R (.str ⟨#[c]⟩) A):sC (.str z) (.int i) A R:=by
 show(match c6 z.cps.toList i with|some c=>z.length<=sizeLine/\R (.str ⟨#[c]⟩) A|none=>False);rw[h];exact⟨hz,k⟩
def DS(d:Nat):Ct:=λds A R _=>∃ns t n,ds=[.fl ns,.ref t,.int ((d:Nat):Int)]/\Tw t n A/\n+200<=1000000/\∀m A',Wf m->m.deep<=d->Dr t A A' n 200->R (enc m) A'
theorem ML{d:Nat}(h:d<=4):cst (d+1)<=156:=by
 have e:d=0\/d=1\/d=2\/d=3\/d=4:=by omega
 rcases e with rfl|rfl|rfl|rfl|rfl<;>decide
end DP
namespace DP
open L2
theorem u5{α:Type}{k:Option Nat}{fr:bO}{tt:ff}{te:aP}{d:Ar->Prop}{R:List D->Ar->Prop}(g:α->D)(p:α->Bool)(f:α->D):∀(xs:List α) (ys:List D) (A:Ar),(∀a,Gr A a->d a)->(∀x∈xs,∀a,Gr A a->∃vs,ni k (g x)=some vs/\(∀Q:Bool->Ar->Prop,(∀b,Gr a b->Q (p x) b)->tt (vs.map some++fr) a Q)/\∀b,Gr a b->∀Q:DK,(∀e,Gr b e->Q (f x) e)->te (vs.map some++fr) b Q)->ys.length+xs.length<=sizeLine->(∀a,Gr A a->R (ys++(xs.filter p).map f) a)->jV d k fr tt te R (xs.map g) ys A
 |[],ys,A,hc,_,_,h=>⟨hc A Gr.refl,by simpa using h A Gr.refl⟩
 |x::xs,ys,A,hc,i,n,h=>by
  obtain⟨vs,o,q,r⟩:=i x (aU ..) A Gr.refl;refine⟨hc A Gr.refl,?_⟩;rw[o];simp at n;refine q _ λb c=>?_;cases m:p x with
  |true=>
   rw[yH m] at h;exact r b c _ λe j=>⟨by omega,u5 g p f xs (ys++[f x]) e (λa z=>hc a ((c.trans j).trans z)) (λy l a z=>i y (bq _ l) a ((c.trans j).trans z)) (by simp;omega) λa z=>by simpa using h a ((c.trans j).trans z)⟩
  |false=>
   rw[yG (by simp[m])] at h;exact u5 g p f xs ys b (λa z=>hc a (c.trans z)) (λy l a z=>i y (bq _ l) a (c.trans z)) (by omega) λa z=>h a (c.trans z)
theorem Gr.set{A B:Ar}{r:Nat}{c:C}(g:Gr A B)(h:A.length<=r):Gr A (B.set r c):=by
 obtain⟨T,rfl⟩:=g;exact⟨T.set (r - A.length) c,by rw[List.set_append_right _ _ h]⟩
open MA
theorem Wf.left{l r:Int}{a b:M}(h:Wf (.bS l r a b)):Wf a:=⟨h.arms.2.2.2.2.1,λn c=>h.nm n (by simp[aV.names,c])⟩
theorem Wf.right{l r:Int}{a b:M}(h:Wf (.bS l r a b)):Wf b:=⟨h.arms.2.2.2.2.2,λn c=>h.nm n (by simp[aV.names,c])⟩
theorem au.of_get{mg:aC}{ι:Io}{H:Hp}{n:Nat}:∀{ds:List D} {vs:List V},ds.length=vs.length->(∀(i:Nat) d v,ds[i]?=some d->vs[i]?=some v->RV mg ι n H d v)->au mg ι n H ds vs
 |[],[],_,_=>rfl
 |[],_::_,h,_=>by cases h
 |_::_,[],h,_=>by cases h
 |d::ds,v::vs,h,k=>⟨v,vs,rfl,k 0 d v rfl rfl,au.of_get (by simpa using h) λi d v h1 h2=>k (i+1) d v (by simpa using h1) (by simpa using h2)⟩
theorem RA.Ou{mg:aC}{A:Ar}{ι:Io}{H H':Hp}(R:RA mg ι H A)(g:lE H H'):Ext A ι H A ι H':=⟨aF _,λ_ _=>rfl,R.im,λb u h _=>g b u h,λr h1 h2=>absurd h2 (by omega),λb u h=>⟨u,g b u h⟩⟩
@[irreducible] def tW(a b:Nat)(A:Ar)(R:DK):Prop:=match A[a]?,A[b]? with
 |some (.lst xs),some (.lst ys)=>R (.tup ((xs.zip ys).map λp=>.tup [p.1,p.2])) A
 |_,_=>False
def Nc(n:dD):aP:=λτ A R=>n τ A λvs A1=>match vs with
 |[.ref a,.ref b]=>tW a b A1 R
 |_=>False
theorem NF{X:Cx}{N:En}{a b:Expr}{n:dD}{p1 p2 pos1 pos2:Pos}(r:X.mg "tuple"=none)(s:X.mg "zip"=none)(hc:X.calm=true)(O:PA X [a,b] (fW X.mg N n))(u:Gl X "tuple":=by rfl)(v:Gl X "zip":=by rfl)
  (P:starEach [a,b] X.env=[(false,eval a X.env),(false,eval b X.env)]:=by rfl)(w:starEach [b] X.env=[(false,eval b X.env)]:=by rfl)
  (hz:starEach [.Call (.Name "zip" p2) [a,b] [] pos2] X.env=[(false,eval (.Call (.Name "zip" p2) [a,b] [] pos2) X.env)]:=by rfl):
  PE X (.Call (.Name "tuple" p1) [.Call (.Name "zip" p2) [a,b] [] pos2] [] pos1) (up X.mg N (Nc n)):=
 dP (UX u r kh v s (by decide+kernel) hc O P w hz) λσ H Q q=>by
  obtain⟨A,ι,τ,R,S,q,k⟩:=q
  refine⟨A,ι,τ,_,S,q,λvs I z H1 us e T m o=> ?_⟩
  match vs,e,o with
  |[.ref x,.ref y],e,o=>
   obtain⟨_,_,rfl,⟨_,rfl⟩,_,_,rfl,⟨_,rfl⟩,rfl⟩:=o
   have e:tW x y I R:=e
   unfold tW at e
   split at e
   .rename_i ds es U V
    obtain⟨xs,h1,J⟩:=m.lst U
    obtain⟨ys,h2,K⟩:=m.lst V
    refine⟨_,_,xs,ys,rfl,aW.of h1,aW.of h2,λl H' ps L hl W f g=> ?_⟩
    have E:=m.Ou L
    refine k _ I z H' _ e (T.trans E) (m.fix E L) ⟨l,ps,rfl,W,au.of_get ?_ λi d p hd B=> ?_⟩
    .rw[f,aM,List.length_zip,au.length J,au.length K]
    .obtain⟨t,M,C,rfl,Y,Z,ht⟩:=g i p B
     rw[cu] at hd
     cases c:(ds.zip es)[i]? with
     |none=>rw[c] at hd;cases hd
     |some pr=>
      rw[c] at hd
      cases hd
      have D:ds[i]? =some pr.1:=by
       rw[List.getElem?_zip_eq_some] at c
       exact c.1
      have hd2:es[i]? =some pr.2:=by
       rw[List.getElem?_zip_eq_some] at c
       exact c.2
      obtain⟨o,h,F⟩:=au.get J D
      obtain⟨v2,j,G⟩:=au.get K hd2
      rw[Y] at h
      rw[Z] at j
      cases h
      cases j
      exact⟨t,[M,C],rfl,ht,M,[C],rfl,RV.ext E _ _ F,C,[],rfl,RV.ext E _ _ G,rfl⟩
   .exact e.elim
@[irreducible] def xN(r:Nat)(A:Ar)(R:DK):Prop:=match A[r]? with
 |some (.dct kvs)=>∃ns:List Str,kvs.map (·.1)=ns.map Sum.inr/\ns.Nodup/\ns.length<64/\∀ys:List Str,ys.Pairwise strLt->(∀x,x∈ys↔x∈ns)->R (.ref A.length) (A++[.lst (ys.map D.str)])
 |_=>False
def Kg:gM:=λvs A R=>match vs with
 |[.ref r]=>xN r A R
 |_=>False
theorem RK.keys{mg:aC}{ι:Io}{H:Hp}{n:Nat}:∀{ds:List (Key×D)} {vs:List (Key×V)},RK mg ι n H ds vs->vs.map (·.1)=ds.map (·.1)
 |[],vs,h=>by have h':vs=[]:=h;rw[h'];rfl
 |d::ds,vs,h=>by
  obtain⟨x,r,rfl,_,a⟩:=h;simp[RK.keys a]
theorem zS{mg:aC}:iE mg (λxs H Q=>∃(d:Addr) (kvs:List (Key×V)) (ns:List Str),xs=[.ref d]/\H d=some (.dK kvs)/\kvs.map (·.1)=ns.map Sum.inr/\ns.Nodup/\ns.length<64/\
  ∀(l:Addr) (ys:List Str),H l=none->ys.Pairwise strLt->(∀x,x∈ys↔x∈ns)->Q (.ref l) (upd H l (.lst (ys.map V.str)))) Kg:=by
 intro ds A ι H m R Q ra rs h k;unfold Kg at h;split at h
 .obtain⟨_,_,rfl,⟨_,rfl⟩,rfl⟩:=rs
  unfold xN at h;split at h
  .rename_i kvs e
   obtain⟨ns,h1,h2,a,b⟩:=h;obtain⟨xs,c,f⟩:=ra.dct e;exact⟨_,xs,ns,rfl,c,by rw[RK.keys f,h1],h2,a,λl ys g i j=>j6 k ra (au.strs ys) (b ys i j) g⟩
  .exact h.elim
 .exact h.elim
theorem BI{A:Ar}{r:Nat}{kvs:List (Key×D)}{ns:List Str}{R:DK}(h:A[r]?=some (.dct kvs))(b:kvs.map (·.1)=ns.map Sum.inr)(c:ns.Nodup)(a:ns.length<64)(k:∀ys:List Str,ys.Pairwise strLt->(∀x,x∈ys↔x∈ns)->R (.ref A.length) (A++[.lst (ys.map D.str)])):xN r A R:=by
 unfold xN;simp only[h];exact⟨ns,b,c,a,k⟩
theorem Y4{A:Ar}{a b:Nat}{xs ys:List D}{R:DK}(h1:A[a]?=some (.lst xs))(h2:A[b]?=some (.lst ys))(k:R (.tup ((xs.zip ys).map λp=>.tup [p.1,p.2])) A):tW a b A R:=by
 unfold tW;simp only[h1,h2];exact k
open MA
def hr2(w:Str)(x y:Int):List (Str×Str):=if y<x then [(w,"left")] else if x<y then [(w,"right")] else []
def jg(f:Str->Int):M->Str->List (Str×Str)
 |.wt _,_=>[]
 |.bS l r a b,w=>hr2 w (l*ld f a) (r*ld f b)++jg f a (w++"l")++jg f b (w++"r")
theorem Gy(w:Str)(x y:Int):(hr2 w x y).length<=1:=by
 unfold hr2;split
 .simp
 .split<;>simp
theorem tU(f:Str->Int):∀(m:M) (w:Str),(jg f m w).length+1<=2 ^ m.deep
 |.wt _,_=>by simp[jg,aV.deep]
 |.bS l r a b,w=>by
  show(hr2 w (l*ld f a) (r*ld f b)++jg f a (w++"l")++jg f b (w++"r")).length+1<=2 ^ (max a.deep b.deep+1);rw[cJ,cJ,pow_succ];have h1:=Gy w (l*ld f a) (r*ld f b);have h2:=tU f a (w++"l");have c:=tU f b (w++"r");have d:2 ^ a.deep<=2 ^ max a.deep b.deep:=fF (by decide) (ua _ _);have e:2 ^ b.deep<=2 ^ max a.deep b.deep:=fF (by decide) (uc _ _);omega
def bF:M->Str->Rat->List (Str×Str×Rat)
 |.wt n,w,x=>[(w,n,x)]
 |.bS l r a b,w,x=>bF a (w++("l":Str)) (x*((r:Rat)/((l+r:Int):Rat)))++bF b (w++("r":Str)) (x*((l:Rat)/((l+r:Int):Rat)))
theorem ng:∀(m:M) (w:Str) (x:Rat),(bF m w x).length=m.names.length
 |.wt _,_,_=>rfl
 |.bS _ _ a b,w,x=>by
  show List.length (_++_)=List.length (_++_);rw[cJ,cJ,ng a,ng b]
theorem jb{m:M}(h:m.deep<=5):m.names.length<=32:=
 cG (aV.lR m) (fF (by decide) h:2 ^ m.deep<=2 ^ 5)
theorem s_{j k:Nat}(h:j<=k):(18:Int) ^ j<=18 ^ k:=by
 have:(18:Nat) ^ j<=18 ^ k:=fF (by decide) h;exact_mod_cast this
theorem Bq(k:Nat):(1:Int)<=18 ^ k:=by
 have:1<=(18:Nat) ^ k:=Nat.one_le_pow _ _ (by decide);exact_mod_cast this
theorem Fe{D a:Int}{j k:Nat}(h:D*18 ^ (max j k+1)<=1000000000)(hd:a<=D*18)(c:0<D):a*18 ^ j<=1000000000/\a*18 ^ k<=1000000000/\D<=1000000000:=by
 have e:D*18 ^ (max j k+1)=D*18*18 ^ max j k:=by rw[kc,oM (18 ^ max j k) 18,<-qB]
 rw[e] at h;have p1:=s_ (ua j k);have p2:=s_ (uc j k);have b:=Bq (max j k);have d:=Bq j;have f:=Bq k;refine⟨e_ (eE hd p1 (by omega) (by omega)) h,e_ (eE hd p2 (by omega) (by omega)) h,?_⟩;have:D*1<=D*18*18 ^ max j k:=eE (by omega) b (by omega) (by omega);omega
theorem Ss{n:Nat}(h:n<2 ^ 2000):n.log2<9000:=by
 by_cases h0:n=0
 .rw[h0];decide+kernel
 .exact(Nat.log2_lt h0).mpr (cP h (fF (by decide) (by decide)))
theorem Er:∀(xs:List Rat) (x:Rat) (b:Int),bot (xs++[x]) b=bot xs b*(rf x).2/(Int.gcd (bot xs b) (rf x).2:Int)
 |[],x,b=>rfl
 |y::r,x,b=>by
  show bot (r++[x]) _=_;rw[Er r x];rfl
theorem F9:∀(ns:List Int) (n d:Int),gD (ns++[n]) d=(Int.gcd (gD ns d) n:Int)
 |[],n,d=>rfl
 |m::r,n,d=>by
  show gD (r++[n]) _=_;rw[F9 r n];rfl
structure gP(x:Rat):Prop where
 pos:0<x
 num:(rf x).1<=2000000
 den:(rf x).2<=2000000
theorem Vn{c a b:Nat}(hc:0<c)(h:a<=b):(c:Int) ^ a<=(c:Int) ^ b:=by
 rw[<-qC,<-qC];exact Int.ofNat_le.mpr (fF hc h)
theorem Vm{a b:Nat}(h:a<=b):(2000000:Int) ^ a<=2000000 ^ b:=Vn (c:=2000000) (by decide) h
theorem S7{n:Int}{c k:Nat}(h0:0<n)(h:n<=(c:Int) ^ k):n.natAbs<=c ^ k:=by
 have:(n.natAbs:Int)<=(c:Int) ^ k:=by omega
 rw[<-qC] at this;exact Int.ofNat_le.mp this
theorem S6{n:Int}{k:Nat}(h0:0<n)(h:n<=2000000 ^ k):n.natAbs<=2000000 ^ k:=S7 (c:=2000000) h0 h
theorem Mi{xs:List Rat}(h:∀x∈xs,gP x)(a:xs.length<=32):bot xs 1<=2000000 ^ 32:=by
 have:=bot_le 2000000 (by decide) xs 1 (by decide) λx b=>(h x b).den;rw[one_mul] at this;exact e_ this (Vm a)
theorem Cg{xs:List Rat}(h:∀x∈xs,gP x)(c:xs.length<=32){n:Int}(d:n∈ups xs):0<n/\n<=2000000 ^ 33:=by
 obtain⟨x,a,rfl⟩:=aJ.mp d;have f:=h x a;refine⟨K3 a f.pos,?_⟩;have e:=Mi h c;obtain⟨b,_,_⟩:=rL xs 1 (by decide);have h1:bot xs 1/(rf x).2<=bot xs 1:=lz _ (eZ b);have h0:0<=bot xs 1/(rf x).2:=Int.ediv_nonneg (eZ b) (eZ (cX x));have g:=eL f.pos;rw[show(33:Nat)=32+1 from rfl,kc,oM _ (2000000:Int)];exact eE f.num (e_ h1 e) h0 (by decide)
theorem vV{n:Int}(h0:0<n)(h:n<=2000000 ^ 33):n.natAbs.log2<9000:=
 Ss (Nat.lt_of_le_of_lt (S6 h0 h) (by decide+kernel))
theorem Ks{n:Int}(h:n<=2000000):n<=2000000 ^ 33:=e_ h (by decide+kernel)
def Cons{W N S:Type}(l:List (W×N×S)):Prop:=∀a∈l,∀b∈l,a.2.1=b.2.1->a.2.2=b.2.2
theorem found{W N S:Type}[DecidableEq N]{l:List (W×N×S)}{n:N}{p:W×N×S}(h:l.find? (λp=>decide (p.2.1=n))=some p):p.2.1=n:=by
 have:=find?_some h;simpa using this
theorem zD{W N S:Type}[DecidableEq N][DecidableEq S]:∀(r pre:List (W×N×S)),cR pre r=none->Cons pre->Cons (pre++r)
 |[],pre,_,h=>by rw[mq];exact h
 |(g,n,s)::r,pre,l,h=>by
  have e:pre++(g,n,s)::r=(pre++[(g,n,s)])++r:=by simp
  rw[e];cases j:pre.find? (λp=>decide (p.2.1=n)) with
  |none=>
   have i:cR (pre++[(g,n,s)]) r=none:=by
    have:=l;unfold cR at this;rw[j] at this;exact this
   refine zD r _ i λa ha b hbm d=>?_;have no:∀c∈pre,c.2.1≠n:=λc hc z=>by
    have:=nG.mp j c hc;exact this (dR z)
   rcases bU.mp ha with ha|ha<;>rcases bU.mp hbm with hbm|hbm
   .exact h a ha b hbm d
   .rw[bE.mp hbm] at d
    exact absurd d (no a ha)
   .rw[bE.mp ha] at d
    exact absurd d.symm (no b hbm)
   .rw[bE.mp ha,bE.mp hbm]
  |some p=>
   have f:=l;unfold cR at f;rw[j] at f;by_cases es:p.2.2=s
   .have i:cR (pre++[(g,n,s)]) r=none:=by
     have:(if p.2.2=s then cR (pre++[(g,n,s)]) r else some (p.1,g))=none:=f;rwa [aA es] at this
    have m:=nu j;have k:p.2.1=n:=found j;refine zD r _ i λa ha b hbm d=>?_;have to:∀c∈pre,c.2.1=n->c.2.2=s:=λc hc z=>by rw[h c hc p m (by rw[z,k]),es]
    rcases bU.mp ha with ha|ha<;>rcases bU.mp hbm with hbm|hbm
    .exact h a ha b hbm d
    .rw[bE.mp hbm] at d ⊢
     exact to a ha d
    .rw[bE.mp ha] at d ⊢
     exact(to b hbm d.symm).symm
    .rw[bE.mp ha,bE.mp hbm]
   .have:(if p.2.2=s then cR (pre++[(g,n,s)]) r else some (p.1,g))=none:=f
    rw[ao es] at this;cases this
theorem tM:∀(m:M) (w:Str) (x:Rat),(bF m w x).map (·.2.1)=m.names
 |.wt _,_,_=>rfl
 |.bS _ _ a b,w,x=>by
  show((bF a _ _++bF b _ _).map (·.2.1))=a.names++b.names;rw[dJ,tM a,tM b]
theorem BJ:∀(m:M) (w:Str) (x:Rat),(bF m w x).map (·.2.2)=m.sh x
 |.wt _,_,_=>rfl
 |.bS _ _ a b,w,x=>by
  show((bF a _ _++bF b _ _).map (·.2.2))=a.sh _++b.sh _;rw[dJ,BJ a,BJ b]
noncomputable def shr(m:M):Str->Rat:=λx=>match (bF m "" 1).find? (λp=>decide (p.2.1=x)) with|some p=>p.2.2|none=>0
theorem BO{m:M}(h:cR [] (bF m "" 1)=none):(∀a∈bF m "" 1,a.2.2=shr m a.2.1)/\m.names.map (shr m)=m.sh 1:=by
 have hc:=zD (bF m "" 1) [] h (by intro a b;simp at b);rw[fN] at hc;have key:∀a∈bF m "" 1,a.2.2=shr m a.2.1:=λa b=>by
  show _=(match (bF m "" 1).find? (λp=>decide (p.2.1=a.2.1)) with|some p=>p.2.2|none=>0);cases c:(bF m "" 1).find? (λp=>decide (p.2.1=a.2.1)) with
  |none=>exact absurd (dR rfl) (nG.mp c a b)
  |some p=>exact(hc p (nu c) a b (found c)).symm
 refine⟨key,?_⟩;rw[<-tM m "" 1,<-BJ m "" 1,bK];exact ue λa b=>(key a b).symm
theorem num_mul{t:Rat}{a b:Int}(c:0<b)(d:0<=(rf t).1*a):(rf (t*((a:Rat)/(b:Rat)))).1<=(rf t).1*a:=by
 rw[<-BD,<-xM (gj (cX t) c)];exact lz _ d
theorem BN:∀(m:M) (x:Rat) (B:Int),m.arms->0<x->(rf x).1<=B->∀s∈m.sh x,(rf s).1<=B*18 ^ m.deep
 |.wt _,x,B,_,h1,h2,s,hs=>by
  have:s=x:=by simpa[aV.sh] using hs
  subst this;simpa[aV.deep] using h2
 |.bS l r a b,x,B,h,h1,h2,s,hs=>by
  obtain⟨c,o,d,p,e,f⟩:=h;have g:0<B:=yE (eL h1) h2;have np:=eL h1;have i:(rf (x*((r:Rat)/((l+r:Int):Rat)))).1<=B*18:=by
   refine e_ (num_mul (by omega) (mul_nonneg (by omega) (by omega))) ?_;exact eE h2 (by omega) (by omega) (by omega)
  have j:(rf (x*((l:Rat)/((l+r:Int):Rat)))).1<=B*18:=by
   refine e_ (num_mul (by omega) (mul_nonneg (by omega) (by omega))) ?_;exact eE h2 (by omega) (by omega) (by omega)
  have p1:0<x*((r:Rat)/((l+r:Int):Rat)):=aV.step_pos c d h1;have p2:0<x*((l:Rat)/((l+r:Int):Rat)):=by
   have:=aV.step_pos (l:=r) (r:=l) d c h1;rwa [add_comm r l] at this
  have up:∀k:Nat,k<=max a.deep b.deep->B*18*18 ^ k<=B*18 ^ (max a.deep b.deep+1):=λk n=>by
   rw[kc,qB,oM 18 (18 ^ k)];refine qL ?_ (eZ g);exact CA (s_ n) (by decide)
  rcases bU.mp (show s∈a.sh _++b.sh _ from hs) with hs|hs
  .exact e_ (BN a _ _ e p1 i s hs) (up _ (ua _ _))
  .exact e_ (BN b _ _ f p2 j s hs) (up _ (uc _ _))
theorem XA{m:M}(a:m.arms)(f:m.deep<=5):∀s∈m.sh 1,0<s/\(rf s).1<=1889568/\(rf s).2<=1889568:=λs b=>by
 obtain⟨g,c⟩:=aV.BL m 1 1 a (by decide) (by decide) s b;have d:=BN m 1 1 a (by decide) (by decide) s b;have p:=s_ f;have e:(18:Int) ^ 5=1889568:=by decide
 rw[e] at p;rw[one_mul] at c d;exact⟨g,e_ d p,e_ c p⟩
theorem xR{m:M}(a:m.arms)(b:m.deep<=5)(h:cR [] (bF m "" 1)=none){x:Str}(c:x∈m.names):gP (shr m x):=by
 have:shr m x∈m.sh 1:=by
  rw[<-(BO h).2];exact aJ.mpr ⟨x,c,rfl⟩
 obtain⟨h1,h2,d⟩:=XA a b _ this;exact⟨h1,by omega,by omega⟩
theorem eG{a:Ar->Prop}{g:kj}{b:dM}{R:nI}(J:List D->bO->Ar->Prop)(hc:∀rest τ A,J rest τ A->a A)
  (e:∀x rest τ A,J (x::rest) τ A->∀c:bO->Ar->Prop,(∀bB A',J rest bB A'->c bB A')->g x τ A λd h=>b {R with nx:=c,ct:=c,bk:=R.nx} d h)(f:∀τ A,J [] τ A->R.nx τ A):∀(items:List D) (τ:bO) (A:Ar),J items τ A->nQ a g b R items τ A
 |[],τ,A,j=>⟨hc _ _ _ j,f _ _ j⟩
 |x::rest,τ,A,j=>⟨hc _ _ _ j,e _ _ _ _ j _ λbB A' i=>eG J hc e f rest bB A' i⟩
theorem pH{k:Option Nat}{fr:bO}{te:aP}{a:Ar->Prop}{R:List D->Ar->Prop}(J:List D->List D->Ar->Prop)(hc:∀rest ys A,J rest ys A->a A)(c:∀rest ys A,J rest ys A->ys.length<=sizeLine)
  (d:∀x rest ys A,J (x::rest) ys A->∃vs,ni k x=some vs/\∀Q:DK,(∀y b,J rest (ys++[y]) b->Q y b)->te (vs.map some++fr) A Q)(e:∀ys A,J [] ys A->R ys A):∀items ys A,J items ys A->jV a k fr oJ te R items ys A
 |[],ys,A,j=>⟨hc _ _ _ j,e _ _ j⟩
 |x::rest,ys,A,j=>by
  obtain⟨vs,g,q⟩:=d _ _ _ _ j;refine⟨hc _ _ _ j,?_⟩;rw[g];refine q _ λy b f=>⟨?_,pH J hc c d e rest _ _ f⟩;have:=c _ _ _ f;simp at this;omega
theorem zL{k:Option Nat}{fr:bO}{tt:ff}{te:aP}{a:Ar->Prop}{R:List D->Ar->Prop}{A:Ar}(hc:a A)(p:D->Bool)(f:D->D):∀(items ys:List D),(∀x∈items,∃vs,ni k x=some vs/\(∀Q:Bool->Ar->Prop,Q (p x) A->tt (vs.map some++fr) A Q)/\∀Q:DK,Q (f x) A->te (vs.map some++fr) A Q)->ys.length+items.length<=sizeLine->R (ys++(items.filter p).map f) A->jV a k fr tt te R items ys A
 |[],ys,_,_,h=>⟨hc,by simpa using h⟩
 |x::xs,ys,b,e,h=>by
  obtain⟨vs,g,i,j⟩:=b x (aU ..);refine⟨hc,?_⟩;rw[g];simp at e;refine i _ ?_;cases d:p x with
  |true=>
   rw[yH d] at h;exact j _ ⟨by omega,zL hc p f xs (ys++[f x]) (λy c=>b y (bq _ c)) (by simp;omega) (by simpa using h)⟩
  |false=>
   rw[yG (by simp[d])] at h;exact zL hc p f xs ys (λy c=>b y (bq _ c)) (by omega) h
theorem Gr.HR{A d A':Ar}{t:Nat}(g:Gr A d)(e:A.length<=t)(b:cK t d A'):Gr A A':=by
 have key:∀q c,A[q]?=some c->A'[q]?=some c:=λq c h=>b q c (by have:=cz h;omega) (g.get h);refine⟨A'.drop A.length,qP λq=>?_⟩;by_cases a:q<A.length
 .rw[iC a,a_ a]
  exact key q _ (a_ a)
 .rw[qT (by omega),List.getElem?_drop]
  congr 1;omega
end DP
namespace L2
open PySem.SeqAt
def o8(op:CmpOp)(A:Around)(s:Shared)(y x:Value)(b:Bool):Prop:=∀(prog:Program) (w:World) (E:aT) (Q:aT),Q (.bool b) s->wpAny (model prog w) A (richCompare op y x) Q E s
inductive jR(op:CmpOp)(A:Around)(s:Shared)(fin b:Bool):List (Value×Value)->Prop
 |nil:fin=b->jR op A s fin b []
 |eq {y x:Value} {r:List (Value×Value)}:EqAt A s y x true->jR op A s fin b r->jR op A s fin b ((y,x)::r)
 |ne {y x:Value} {r:List (Value×Value)}:EqAt A s y x false->o8 op A s y x b->jR op A s fin b ((y,x)::r)
open MeetsSeq MeetsSeq2 MeetsSeq3 SeqRoads2
theorem YR(l b:Addr)(items a:Array Value)(n n2:Nat)(dd f:Option Addr)(o i:Array (Option Value))(res:Bool):
  Meets (Builtin.«tuple.__lt__» ⟨[.ref l,.ref b],[]⟩)
   (λA R s=>s.heap.get? l=some {cls:=.type "tuple",dict:=dd,data:=.seq items n,slots:=o}/\s.heap.get? b=some {cls:=.type "tuple",dict:=f,data:=.seq a n2,slots:=i}/\
    jR .Lt A.in1 s (decide (items.size<a.size)) res (items.toList.zip a.toList)/\R (.ok (.ret (.bool res))) s):=
 .of_wp λprog w A R s h=>by
  obtain⟨k,g,d,m,os⟩:=s;obtain⟨p,q,r,h⟩:=h;have f2:=AutoSeq1.sub_tuple_tuple;wp_walk using yC p,yC q,wpAny_forIn_list _ (λrest b s'=>b.1=none/\s'=⟨k,g,d,m,os⟩/\jR .Lt A.in1 ⟨k,g,d,m,os⟩ (decide (items.size<a.size)) res rest) _;case turn=>
   rintro ⟨y,x⟩ rest b s' ⟨c,rfl,j⟩;cases j with
   |eq h1 h2=>
    refine ah (h1 prog w _ _ ?_);wp_walk;exact⟨rfl,rfl,h2⟩
   |ne h1 h2=>
    refine ah (h1 prog w _ _ ?_);simp only[Bool.not_false,lV];refine ah (iR ?_);refine ah (h2 prog w _ _ ?_);wp_walk;exact⟨_,rfl,h⟩
  case fin=>
   rintro ⟨t,u⟩ s' ⟨c,rfl,j⟩;simp only at c;subst c;cases j with
   |nil e=>
    wp_walk;exact⟨_,rfl,by rw[<-e] at h;simpa[Builtin.Tuple.tupleCompareSizes] using h⟩
  case h=>
   exact⟨rfl,rfl,r⟩
mutual
def ltQ:PyData->PyData->Option Bool
 |.int i,.int j=>some (decide (i<j))
 |.str x,.str y=>some (decide (x.cps.toList<y.cps.toList))
 |.tuple xs,.tuple ys=>gG xs ys
 |_,_=>none
def gG:List PyData->List PyData->Option Bool
 |[],[]=>some false
 |[],_::_=>some true
 |_::_,[]=>some false
 |x::xs,y::ys=>match PyData.eqv x y with
  |true=>gG xs ys
  |false=>ltQ x y
end
theorem Mx(i j:Int)(A:Around)(s:Shared)(a b:Value)(as bs:List Addr)(r:Bool)(e:ltQ (.int i) (.int j)=some r)(ra:Reads s.heap a (.int i) as)(c:Reads s.heap b (.int j) bs):o8 .Lt A s a b r:=by
 cases ra;cases c;rw[ltQ] at e;cases e;intro prog w E Q q;exact lt_int q
theorem Mz(xs ys:List PyData)(A:Around)(s:Shared)(a b:Value)(as bs:List Addr)(r:Bool)(i:A.units+min (PyData.tuple xs).depth (PyData.tuple ys).depth<cLine)(L:∀d vs as bs,ReadsAll s.heap d xs as->ReadsAll s.heap vs ys bs->A.in1.units+min (depthAll xs) (depthAll ys)<cLine->jR .Lt A.in1 s (decide (d.length<vs.length)) r (d.zip vs))(ra:Reads s.heap a (.tuple xs) as)(m:Reads s.heap b (.tuple ys) bs):o8 .Lt A s a b r:=by
 cases ra with
 | @tuple l o vs n _ e h1 h2 j p=>
  cases m with
  | @tuple l' o' c n' _ f k1 k2 k3 t=>
   obtain⟨cls,dd,data,u⟩:=o;obtain⟨k,g,data2,h⟩:=o';simp only at h2 j k2 k3;subst h2 j k2 k3;have L:=L vs.toList c.toList _ _ p t (room_in i);intro prog w E Q q;exact richCompare_meets_room (op:=.Lt) ⟨_,h1,rfl⟩ ⟨_,k1,rfl⟩ F.slot_tuple_lt F.entry_tuple_lt (F.args_tuple_lt_2 _ _) (YR l l' vs c n n' dd g u h r)
    ⟨h1,k1,by simpa using L,show Value.bool r≠Value.notImplemented/\Q (.bool r) s from⟨(λx=>nomatch x),q⟩⟩ (room_here i)
theorem MC(i j:Str)(A:Around)(s:Shared)(a b:Value)(as bs:List Addr)(r:Bool)(e:ltQ (.str i) (.str j)=some r)(ra:Reads s.heap a (.str i) as)(c:Reads s.heap b (.str j) bs):o8 .Lt A s a b r:=by
 cases ra;cases c;rw[ltQ] at e;cases e;intro prog w E Q q;exact lt_str q
theorem G7{α β:Type}{a:α}{b:β}{u:List α}{v:List β}:decide ((a::u).length<(b::v).length)=decide (u.length<v.length):=by simp
theorem MB(x y:PyData)(xs ys:List PyData)(A:Around)(s:Shared)(a vs:List Value)(as bs:List Addr)(r:Bool)(e:gG (x::xs) (y::ys)=some r)(ra:ReadsAll s.heap a (x::xs) as)(i:ReadsAll s.heap vs (y::ys) bs)(j:canLayAll0 (x::xs)=true)(k:canLayAll0 (y::ys)=true)
 (g:A.units+min (depthAll (x::xs)) (depthAll (y::ys))<cLine)
 (l:∀a vs as bs,gG xs ys=some r->ReadsAll s.heap a xs as->ReadsAll s.heap vs ys bs->canLayAll0 xs=true->canLayAll0 ys=true->A.units+min (depthAll xs) (depthAll ys)<cLine->jR .Lt A s (decide (a.length<vs.length)) r (a.zip vs))
 (L2:∀u v as bs,ltQ x y=some r->Reads s.heap u x as->Reads s.heap v y bs->x.canLay0=true->y.canLay0=true->A.units+min x.depth y.depth<cLine->o8 .Lt A s u v r):jR .Lt A s (decide (a.length<vs.length)) r (a.zip vs):=by
  have b:x.canLay0=true/\canLayAll0 xs=true:=by simpa[canLayAll0] using j
  have d:y.canLay0=true/\canLayAll0 ys=true:=by simpa[canLayAll0] using k
  cases ra with
  |cons a1 a2=>
   cases i with
   |cons h m=>
    have f:=eqAt_reads x y A s _ _ _ _ a1 h b.1 d.1 (room_head g)
    rw[gG] at e
    cases c:PyData.eqv x y with
    |true=>
     rw[c] at e f
     have L:=l _ _ _ _ e a2 m b.2 d.2 (room_tail g)
     rw[G7]
     exact .eq f L
    |false=>
     rw[c] at e f
     exact .ne f (L2 _ _ _ _ e a1 h b.1 d.1 (room_head g))
mutual
theorem MD:∀(d db:PyData) (A:Around) (s:Shared) (a b:Value) (as bs:List Addr) (r:Bool),ltQ d db=some r->Reads s.heap a d as->Reads s.heap b db bs->d.canLay0=true->db.canLay0=true->
  A.units+min d.depth db.depth<cLine->o8 .Lt A s a b r
 |.none,db,A,s,_,_,_,_,r,e,ra,c,_,_,_=>by simp[ltQ] at e
 |.bool _,db,A,s,_,_,_,_,r,e,ra,c,_,_,_=>by simp[ltQ] at e
 |.list _,db,A,s,_,_,_,_,r,e,ra,c,_,_,_=>by simp[ltQ] at e
 |.dict _,db,A,s,_,_,_,_,r,e,ra,c,_,_,_=>by simp[ltQ] at e
 |.int i,db,A,s,_,_,_,_,r,e,ra,c,_,_,_=>by
  cases db with
  |int j=>exact Mx i j A s _ _ _ _ r e ra c
  |_=>simp[ltQ] at e
 |.str i,db,A,s,_,_,_,_,r,e,ra,c,_,_,_=>by
  cases db with
  |str j=>exact MC i j A s _ _ _ _ r e ra c
  |_=>simp[ltQ] at e
 |.tuple xs,db,A,s,_,_,_,_,r,e,ra,c,f,g,h=>by
  cases db with
  |tuple ys=>exact Mz xs ys A s _ _ _ _ r h (λk vs as bs h1 h2 l=>AR xs ys A.in1 s k vs as bs r (by rw[ltQ] at e;exact e) h1 h2 f g l) ra c
  |_=>simp[ltQ] at e
theorem AR:∀(xs ys:List PyData) (A:Around) (s:Shared) (a vs:List Value) (as bs:List Addr) (r:Bool),gG xs ys=some r->ReadsAll s.heap a xs as->ReadsAll s.heap vs ys bs->canLayAll0 xs=true->canLayAll0 ys=true->
  A.units+min (depthAll xs) (depthAll ys)<cLine->jR .Lt A s (decide (a.length<vs.length)) r (a.zip vs)
 |[],ys,A,s,_,_,_,_,r,e,ra,b,_,_,_=>by
  cases ys with
  |nil=>cases ra;cases b;rw[gG] at e;cases e;exact .nil (by simp)
  |cons y ys=>cases ra;cases b;rw[gG] at e;cases e;exact .nil (by simp)
 |x::xs,ys,A,s,a,vs,as,bs,r,e,ra,b,h,i,j=>by
  cases ys with
  |nil=>cases ra;cases b;rw[gG] at e;cases e;exact .nil (by simp)
  |cons y ys=>exact MB x y xs ys A s a vs as bs r e ra b h i j (λa vs as bs h1 h2 c d f g=>AR xs ys A s a vs as bs r h1 h2 c d f g) (λu v as bs h1 h2 c d f g=>MD x y A s u v as bs r h1 h2 c d f g)
end
end L2
namespace SI
open SS
def intOf(v:Value):Int:=match v with|.int x _=>x|_=>0
def cy(prog:Program)(w:World)(h:Heap)(a:Addr)(es:Array (Int×Value)):Prop:=
 ∃o ep t,h.get? a=some o/\o.ExactSet/\o.data=.set es ep t/\ElemsOf (PySem.intKind prog w) es.toList/\(es.toList.map λe=>intOf e.2).Nodup/\es.size<scanBound/\t.fits es.size=true/\
  t.led= !w.params.followText "set-order"/\SR.Rs t.place
theorem cy.y{prog:Program}{w:World}{h:Heap}{a:Addr}{es:Array (Int×Value)}(S:cy prog w h a es):kC w h a es:=by
 obtain⟨o,ep,t,d,hex,hd,_,_,e,f,b,c⟩:=S;exact⟨o,ep,t,d,hex,hd,e,f,b,c⟩
section
variable{prog:Program}{w:World}{A:Around}{E:aT}{s:Shared}
theorem z7{l:List (Int×Value)}(h:ElemsOf (PySem.intKind prog w) l){e:Int×Value}(a:e∈l):∃t,e.2=.int (intOf e.2) t:=by
 obtain⟨⟨k,b,_⟩,_⟩:=h e a;obtain⟨t,q⟩:=Value.isInt_shape b;exact⟨t,by rw[q];rfl⟩
theorem GO{e:Int×Value}{x:Int}(h:∃t,e.2=.int (intOf e.2) t):(PySem.intKind prog w).is x e.2=decide (intOf e.2=x):=by
 obtain⟨t,q⟩:=h;rw[q];show Value.isInt x (.int (intOf e.2) t)=decide (intOf (.int (intOf e.2) t)=x);by_cases a:intOf e.2=x
 .rw[dR (by rw[<-a];rfl),a]
  simp[Value.isInt]
 .rw[fY (by exact a)]
  simp only[Value.isInt];first|exact yL.mpr a|exact yL.mpr (Ne.symm a)|simpa using a|simpa using Ne.symm a
theorem add{a:Addr}{es:Array (Int×Value)}{x:Int}{n:Tok}{Q:Bool->Shared->Prop}(hS:cy prog w s.heap a es)(M:es.size+1<scanBound)
  (h:∀h' l b,SameBut a s.heap h'->cy prog w h' a l->(x∈es.toList.map (λe=>intOf e.2)->l=es)->(x∉es.toList.map (λe=>intOf e.2)->l.toList.Perm (es.toList++[((PySem.intKind prog w).hash x,.int x n)]))->Q b {s with heap:=h'}):
  wpAny (model prog w) A (setAddHashed a (.int x n) ((PySem.intKind prog w).hash x)) Q E s:=by
 obtain⟨o,ep,t,V,hex,hd,p,W,hb,hf,v,X⟩:=hS
 have F:(PySem.intKind prog w).is x (.int x n)=true:=by show Value.isInt x (.int x n)=true;simp[Value.isInt]
 have N:(Value.int x n).scannable=true:=rfl
 unfold setAddHashed setAddHashedIn
 refine eY (ah (oW V hd hf ?_))
 dsimp only
 rw[byScan_of N hb p]
 simp only[↓reduceIte]
 unfold setAddByScan
 refine ah ?_
 refine ah (iR ?_)
 refine ah (wpAny_setScan_of F V hd hf p ?_)
 cases hr:List.findIdx? (λe=>(PySem.intKind prog w).is x e.2) es.toList with
 |some j=>
  dsimp only
  obtain⟨hj,Y,_⟩:=List.findIdx?_eq_some_iff_getElem.mp hr
  have hin:x∈es.toList.map (λe=>intOf e.2):=by
   rw[GO (z7 p (jH hj))] at Y
   exact aJ.mpr ⟨_,jH hj,gy Y⟩
  refine aB (aB ?_)
  have e:s={s with heap:=s.heap}:=by cases s;rfl
  rw[e]
  exact h s.heap es _ (SameBut.refl a s.heap) ⟨o,ep,t,V,hex,hd,p,W,hb,hf,v,X⟩ (λ_=>rfl) λz=>absurd hin z
 |none=>
  dsimp only
  have G:x∉es.toList.map (λe=>intOf e.2):=λz=>by
   obtain⟨e,he,q⟩:=aJ.mp z
   have:=List.findIdx?_eq_none_iff.mp hr e he
   rw[GO (z7 p he),dR q] at this
   exact Bool.noConfusion this
  have AB:∀(b:Bool) {f:Shared} {H:Unit->Shared->Prop},H () f->wpAny (model prog w) A (match b with|true=>rule "set.scan.the-table-gave-way"|false=>pure ()) H E f:=
   λb f H u=>by cases b<;>first|exact aB u|exact iR u
  have d:=layNew_perm t es ((PySem.intKind prog w).hash x) (.int x n)
  have k:=layNew_fits t es ((PySem.intKind prog w).hash x) (.int x n)
  have C:=SR.G2 X es ((PySem.intKind prog w).hash x) (.int x n)
  have D:=G0 t es ((PySem.intKind prog w).hash x) (.int x n)
  have Z:=G1 t es ((PySem.intKind prog w).hash x) (.int x n)
  generalize hL:layNew t es ((PySem.intKind prog w).hash x) (.int x n)=L at d k D Z C ⊢
  obtain⟨c,t1,r,Qd⟩:=L
  dsimp only at d k D Z C ⊢
  rw[toList_push] at d
  have I:ElemsOf (PySem.intKind prog w) c.toList:=(p.push F N).perm d
  have AD:((es.toList++[((PySem.intKind prog w).hash x,Value.int x n)]).map λe=>intOf e.2).Nodup:=by
   rw[dJ]
   refine nv.mpr ⟨W,by simp,λy hy z hz=> ?_⟩
   have hz':z=x:=by simpa[intOf] using hz
   rw[hz']
   rintro rfl
   exact G hy
  have J:(c.toList.map λe=>intOf e.2).Nodup:=(d.map _).nodup_iff.mpr AD
  have hsz1:c.size=es.size+1:=by rw[<-eN,d.length_eq,cJ,eN];rfl
  have B:c.size<scanBound:=by rw[hsz1];exact M
  refine ah (AB _ ?_)
  have fin:∀{g:Bool->Sem Unit} {R:Option Bool->Shared->Prop},(∀(b:Bool) (f:Shared) (H:Unit->Shared->Prop),H () f->wpAny (model prog w) A (g b) H E f)->(∀h',Q true {s with heap:=h'}->R (some true) {s with heap:=h'})->
    ∀i:SetTable,i.fits c.size=true->i.led=t.led->SR.Rs i.place->
    wpAny (model prog w) A (do
     storeSet a c i
     if (!r&&i.tooFull)=true then do
       g (relayAll i c (SetTable.grown c.size)).2.2
       storeSet a (relayAll i c (SetTable.grown c.size)).1 (relayAll i c (SetTable.grown c.size)).2.1
       pure (some true)
      else pure (some true)) R E s:=λ {g R} hg hR i hf2 hl2 hr2=>by
   have go:∀h' l,SameBut a s.heap h'->cy prog w h' a l->l.toList.Perm c.toList->R (some true) {s with heap:=h'}:=λh' l q1 q2 q3=>hR h' (h h' l true q1 q2 (λz=>absurd z G) λ_=>q3.trans d)
   refine ah (yD V hd ?_ (qQ B))
   have O:(s.heap.update a (Obj.putSet c i)).get? a=some {o with data:= .set c (ep+1) i}:=by
    have:=jl (Obj.putSet c i) V (by rw[ny c i hd];rfl)
    rw[ny c i hd] at this;exact this
   have K:=SameBut.update s.heap a (Obj.putSet c i)
   split
   .have P:=relayAll_perm i c (SetTable.grown c.size)
    have S:=relayAll_fits i c (SetTable.grown c.size)
    have T:=SR.IM i c (SetTable.grown c.size)
    have U:=IL i c (SetTable.grown c.size)
    generalize QC:relayAll i c (SetTable.grown c.size)=Rl at P S U T ⊢
    obtain⟨m,t3,Qe⟩:=Rl
    dsimp only at P S U T ⊢
    have hsz:m.size=c.size:=by rw[<-eN,P.length_eq,eN]
    have hb2:m.size<scanBound:=by rw[hsz];exact B
    refine ah (hg _ _ _ ?_)
    refine ah (yD O rfl ?_ (qQ hb2))
    have AA:((s.heap.update a (Obj.putSet c i)).update a (Obj.putSet m t3)).get? a=some {o with data:= .set m (ep+1+1) t3}:=by
     have:=jl (Obj.putSet m t3) O (by rw[ny (ep:=ep+1) (t:=i) m t3 rfl];rfl)
     rw[ny (ep:=ep+1) (t:=i) m t3 rfl] at this;exact this
    refine aB (go _ m (K.trans (SameBut.update _ a _)) ⟨_,_,_,AA,hex,rfl,I.perm P,(P.map _).nodup_iff.mpr J,hb2,S,by rw[U,hl2];exact v,T⟩ P)
   .exact aB (go _ c K ⟨_,_,_,O,hex,rfl,I,J,B,hf2,by rw[hl2];exact v,hr2⟩ .rfl)
  split
  .refine ah ?_
   rw[hashByValue_scannable 8 N]
   refine aB ?_
   simp only[show plainKind (Value.int x n)=true from rfl,lV]
   refine fin ?_ ?_ t1 k D C
   .intro b f H u;cases b<;>first|exact aB u|exact iR u
   .exact λh' u=>aB u
  .rename_i P
   refine ah (aB ?_)
   simp only[↓reduceIte]
   refine fin ?_ ?_ t1 k D C
   .intro b f H u;cases b<;>first|exact aB u|exact iR u
   .exact λh' u=>aB u
end
abbrev nums(es:Array (Int×Value)):List Int:=es.toList.map λe=>intOf e.2
theorem cy.keeps{prog:Program}{w:World}{h h':Heap}{a:Addr}{es:Array (Int×Value)}(S:cy prog w h a es)(k:∀o,h.get? a=some o->h'.get? a=some o):cy prog w h' a es:=by
 obtain⟨o,ep,t,b,r⟩:=S;exact⟨o,ep,t,k o b,r⟩
section
variable{prog:Program}{w:World}{A:Around}{R:Result->Shared->Prop}{I:Addr}{fp wr:List Addr}{G:Array GenState->Array GenState->Prop}{n:Nat}{P:Nat->Value->Prop}{St:Nat->Shared->Prop}
theorem loop(W:WalksS prog w A.in1 I fp wr G n P St)(S:Addr)(q:S∉fp)(val:Nat->Int)(r:∀i v,P i v->∃t,v=.int (val i) t)(m:n+1<scanBound):
  ∀(k i:Nat) (s:Shared) (es:Array (Int×Value)),n - i=k->i<=n->St i s->cy prog w s.heap S es->es.size<=i->(∀x,x∈nums es↔∃j,j<i/\val j=x)->
   (∀s' c,Moved (S::wr) G s s'->cy prog w s'.heap S c->c.size<=n->(∀x,x∈nums c↔∃j,j<n/\val j=x)->R (.ok (.ret .none)) s')->
   codeAny (model prog w) A (.builtin "set.update.loop" ⟨[.ref S,.ref I],[]⟩) R s:=by
 have u:S∉wr:=λh=>q (W.sub _ h);have f:∀b∈wr,b∈S::wr:=λb m=>bq _ m;intro k;induction k with
 |zero=>
  intro i s es hk hi g L hsz d M;have N:i=n:=by omega
  subst N;refine gJ yk ?_;rw[iS qE _];show wpAny _ A.in1 (pyNext (.ref I)>>=_) _ _ s;refine ah (W.done s _ _ g λs' B=>?_);show wpAny _ A.in1 (ret Value.none) _ _ s';exact aB (M s' es (B.mono f) (L.keeps λo O=>B.heap S _ u O) hsz d)
 |succ k ih=>
  intro i s es hk hi g L hsz d M;have C:i<n:=by omega
  refine gJ yk ?_;rw[iS qE _];show wpAny _ A.in1 (pyNext (.ref I)>>=_) _ _ s;refine ah (W.item i s _ _ C g λv s' hP D B=>?_);obtain⟨t,rfl⟩:=r i v hP;have Q:cy prog w s'.heap S es:=L.keeps λo O=>B.heap S _ u O;show wpAny _ A.in1 (holding [Value.int (val i) t] (setAdd S (.int (val i) t))>>=_) _ _ s';refine ah (eY ?_);unfold setAdd;refine eY ?_;refine ah ((PySem.intKind prog w).pyHash (k:=val i) (by show Value.isInt (val i) (.int (val i) t)=true;simp[Value.isInt]) ?_);refine add (s:={s' with toks:=s'.toks+1}) Q (by omega) λh' c b E T Y Z=>?_;have F:c.size<=i+1:=by
   by_cases p:val i∈es.toList.map (λe=>intOf e.2)
   .rw[Y p];omega
   .rw[<-eN,(Z p).length_eq,cJ,eN]
    simp only[gi,nk];omega
  have l:∀x,x∈nums c↔∃j,j<i+1/\val j=x:=λx=>by
   have e1:x∈nums c↔x∈nums es\/x=val i:=by
    by_cases p:val i∈es.toList.map (λe=>intOf e.2)
    .rw[Y p]
     exact⟨.inl,λz=>z.elim id λe=>e▸p⟩
    .have hp:=((Z p).map λe=>intOf e.2).mem_iff (a:=x)
     rw[dJ,bU] at hp;refine hp.trans ⟨λz=>z.imp id λy=>by simpa[intOf] using y,λz=>z.imp id λy=>by simpa[intOf] using y⟩
   rw[e1,d x];constructor
   .rintro (⟨j,hj,e⟩|rfl)
    .exact⟨j,by omega,e⟩
    .exact⟨i,by omega,rfl⟩
   .rintro ⟨j,hj,e⟩
    by_cases U:j=i
    .exact .inr (by rw[<-e,U])
    .exact .inl ⟨j,by omega,e⟩
  refine aB ⟨jJ qE _,ih (i+1) _ c (by omega) C (W.frame _ s' _ _ D (lW _) λb m o e=>?_) T F l λV H J K hz X=>?_⟩
  .rw[E.2 b (λh:b=S=>q (by rw[<-h];exact m))];exact e
  .refine M V H (Moved.trans W.gtrans ((B.mono f).then_heap (lW _) λb o m e=>?_) J) K hz X
   rw[E.2 b (λh:b=S=>m (by rw[h];exact aU))];exact e
end
section
variable{prog:Program}{w:World}{A:Around}{E:aT}{s:Shared}
theorem cy.fresh{h:Heap}{a:Addr}(b:h.get? a=some (SS.dh w)):cy prog w h a #[]:=
 ⟨_,_,_,b,⟨rfl,rfl,rfl⟩,rfl,λe c=>by simp at c,by simp,by decide,by rfl,rfl,Pairwise.nil⟩
theorem zI{l:Addr}{items:Array Value}{val:Nat->Int}{Q:aT}
  (hh:A.handled=none)(hl:s.heap.IsList l items)(hi:∀(i:Nat) (v:Value),items[i]? =some v->∃t:Tok,v=Value.int (val i) t)(J:items.size+1<scanBound)
  (h:∀(h':Heap) (K:Nat) (es:Array (Int×Value)),cy prog w h' s.heap.objs.size es->es.size<=items.size->(∀x,x∈nums es↔∃j,j<items.size/\val j=x)->
   (∀b o,b<s.heap.objs.size->s.heap.get? b=some o->h'.get? b=some o)->Q (.ref s.heap.objs.size) {s with heap:=h',toks:=K}):
  wpAny (model prog w) A (call (.type "set") [.ref l]) Q E s:=by
 obtain⟨c,tl,Gw⟩:=eO.mro
 have M:=eO.made
 have hsub:=eO.sub
 refine wpAny_call (uB ?_)
 show wpAny _ _ (callAny (.type "set") _) _ _ _
 refine aB ⟨Code.quiet_builtin _ (by decide+kernel),gJ CB ?_⟩
 rw[Around.under_plain (Cu "set" [.ref l] []) rfl]
 have h1:=eO.notType
 have h2:=eO.canCreate
 have hct:=typeCall_set_1 (.ref l)
 repeat (any_goals (first|assumption|wp_step))
 refine lu (SS.code_set_new (.ref l) (E:=E) (Q₁:=λobj f=>obj= .ref s.heap.objs.size/\f={s with heap:=s.heap.push (SS.dh w)}) ⟨rfl,rfl⟩) λr f N=> ?_
 cases r with
 |error e=>exact N
 |ok fl=>
  cases fl with
  |ret obj=>
   obtain⟨rfl,rfl⟩:=N
   have hS:(s.heap.push (SS.dh w)).get? s.heap.objs.size=some (SS.dh w):=b9 _ rfl
   have hT:Shared.TypeIs {s with heap:=s.heap.push (SS.dh w)} (.ref s.heap.objs.size) "set":=⟨_,hS,rfl⟩
   have hli:=eO.init.lookup
   have hbi:=eO.init.bind (.ref s.heap.objs.size)
   repeat (any_goals (first|assumption|wp_step))
   refine lu (CK (R:=wants (λr g=>r= .none/\∃h' K es,g={s with heap:=h',toks:=K}/\
     cy prog w h' s.heap.objs.size es/\es.size<=items.size/\(∀x,x∈nums es↔∃j,j<items.size/\val j=x)/\
     (∀b o,b<s.heap.objs.size->s.heap.get? b=some o->h'.get? b=some o)) E) eO.init.plain entry_set_init (check_set_init_1 hT ?_)) λu g a=> ?_
   .obtain⟨ol,y,B,nl,C⟩:=hl
    obtain⟨HQ,k,O,d⟩:=ol
    simp only at B C
    subst B;subst C
    have D:(s.heap.push (SS.dh w)).get? l=some {cls:= .type "list",dict:=k,data:= .seq items nl,slots:=d}:=bg _ y
    have GA:=sub_list_set
    have Gz:=PySem.F.sub_list_frozenset
    have hne:(Value.type "list" ==Value.type "dict")=false:=by decide
    have G:(s.heap.push (SS.dh w)).IsList l items:=⟨_,D,rfl,nl,rfl⟩
    unfold Builtin.«set.__init__» noKeywords Builtin.Frozenset.updateFrom
    generalize P:pyIter=PI
    wp_walk
    subst P
    refine oV G ?_
    refine ah (uq ?_)
    have H:l<s.heap.objs.size:=aR y
    have S:A.in1.in1.in1.handled=none:=by simp[hh]
    have I:l≠(s.heap.push (SS.dh w)).objs.size:=by
     rw[eW];exact bx (fX H)
    have T:s.heap.objs.size∉[(s.heap.push (SS.dh w)).objs.size,l]:=by
     rw[eW];simp only[aY,bE,fD,fE,not_or]
     exact⟨bx (k8 _),j9 H⟩
    refine loop ((Walks.list S _ l I items).toS) s.heap.objs.size T val (λi v hv=>hi i v hv) J (items.size - 0) 0 _ #[] (by omega) (bP _)
     ⟨⟨_,b9 _ rfl,rfl,rfl⟩,(G.push _)⟩ ?lI (aF _) (λx=>⟨λz=>by simp[nums] at z,λ⟨j,hj,_⟩=>absurd hj (qD _)⟩) ?hR
    case lI=>exact cy.fresh (bg _ hS)
    case hR=>
     intro s' U L m n p
     obtain⟨h',g',d',V,W⟩:=s'
     have eg:g'=s.gens:=L.gens
     have ed:d'=s.drawn:=L.drawn
     have eo:W=s.os:=L.os
     subst eg;subst ed;subst eo
     show wpAny _ _ _ _ _ _
     refine aB ?_
     show wpAny _ _ (ret Value.none) _ _ _
     refine aB ⟨rfl,h',V,U,rfl,m,n,p,λb o J e=> ?_⟩
     have X:b≠s.heap.objs.size:=bx J
     have Y:b≠(s.heap.push (SS.dh w)).objs.size:=by
      rw[eW];exact bx (fX J)
     exact L.heap b o (by simp only[aY,bE,fD,fE,not_or];exact⟨X,Y⟩) (bg _ (bg _ e))
   .cases u with
    |error e=>exact a
    |ok q=>
     cases q with
     |ret r=>
      obtain⟨rfl,h',K,es,rfl,m,n,p,Z⟩:=a
      repeat (any_goals (first|assumption|wp_step))
      exact h _ _ es m n p Z
     |_=>exact a.elim
  |_=>exact N.elim
end
section
variable{prog:Program}{w:World}{A:Around}{E:aT}{s:Shared}
theorem Mv{l:Addr}{items:Array Value}{val:Nat->Int}{Q:aT}
  (hh:A.handled=none)(hl:s.heap.IsTuple l items)(hi:∀(i:Nat) (v:Value),items[i]? =some v->∃t:Tok,v=Value.int (val i) t)(J:items.size+1<scanBound)
  (h:∀(h':Heap) (K:Nat) (es:Array (Int×Value)),cy prog w h' s.heap.objs.size es->es.size<=items.size->(∀x,x∈nums es↔∃j,j<items.size/\val j=x)->
   (∀b o,b<s.heap.objs.size->s.heap.get? b=some o->h'.get? b=some o)->Q (.ref s.heap.objs.size) {s with heap:=h',toks:=K}):
  wpAny (model prog w) A (call (.type "set") [.ref l]) Q E s:=by
 obtain⟨c,tl,Gw⟩:=eO.mro
 have M:=eO.made
 have hsub:=eO.sub
 refine wpAny_call (uB ?_)
 show wpAny _ _ (callAny (.type "set") _) _ _ _
 refine aB ⟨Code.quiet_builtin _ (by decide+kernel),gJ CB ?_⟩
 rw[Around.under_plain (Cu "set" [.ref l] []) rfl]
 have h1:=eO.notType
 have h2:=eO.canCreate
 have hct:=typeCall_set_1 (.ref l)
 repeat (any_goals (first|assumption|wp_step))
 refine lu (SS.code_set_new (.ref l) (E:=E) (Q₁:=λobj f=>obj= .ref s.heap.objs.size/\f={s with heap:=s.heap.push (SS.dh w)}) ⟨rfl,rfl⟩) λr f N=> ?_
 cases r with
 |error e=>exact N
 |ok fl=>
  cases fl with
  |ret obj=>
   obtain⟨rfl,rfl⟩:=N
   have hS:(s.heap.push (SS.dh w)).get? s.heap.objs.size=some (SS.dh w):=b9 _ rfl
   have hT:Shared.TypeIs {s with heap:=s.heap.push (SS.dh w)} (.ref s.heap.objs.size) "set":=⟨_,hS,rfl⟩
   have hli:=eO.init.lookup
   have hbi:=eO.init.bind (.ref s.heap.objs.size)
   repeat (any_goals (first|assumption|wp_step))
   refine lu (CK (R:=wants (λr g=>r= .none/\∃h' K es,g={s with heap:=h',toks:=K}/\
     cy prog w h' s.heap.objs.size es/\es.size<=items.size/\(∀x,x∈nums es↔∃j,j<items.size/\val j=x)/\
     (∀b o,b<s.heap.objs.size->s.heap.get? b=some o->h'.get? b=some o)) E) eO.init.plain entry_set_init (check_set_init_1 hT ?_)) λu g a=> ?_
   .obtain⟨ol,y,B,nl,C⟩:=hl
    obtain⟨HQ,k,O,d⟩:=ol
    simp only at B C
    subst B;subst C
    have D:(s.heap.push (SS.dh w)).get? l=some {cls:= .type "tuple",dict:=k,data:= .seq items nl,slots:=d}:=bg _ y
    have GA:=PySem.F.sub_tuple_set
    have Gz:=PySem.F.sub_tuple_frozenset
    have hne:(Value.type "tuple" ==Value.type "dict")=false:=by decide
    have G:(s.heap.push (SS.dh w)).IsTuple l items:=⟨_,D,rfl,nl,rfl⟩
    unfold Builtin.«set.__init__» noKeywords Builtin.Frozenset.updateFrom
    generalize P:pyIter=PI
    wp_walk
    subst P
    refine wpAny_pyIter_tuple G ?_
    refine ah (uq ?_)
    have H:l<s.heap.objs.size:=aR y
    have S:A.in1.in1.in1.handled=none:=by simp[hh]
    have I:l≠(s.heap.push (SS.dh w)).objs.size:=by
     rw[eW];exact bx (fX H)
    have T:s.heap.objs.size∉[(s.heap.push (SS.dh w)).objs.size,l]:=by
     rw[eW];simp only[aY,bE,fD,fE,not_or]
     exact⟨bx (k8 _),j9 H⟩
    refine loop ((Walks.tuple S _ l I items).toS) s.heap.objs.size T val (λi v hv=>hi i v hv) J (items.size - 0) 0 _ #[] (by omega) (bP _)
     ⟨⟨_,b9 _ rfl,rfl,rfl⟩,(G.push _)⟩ ?lI (aF _) (λx=>⟨λz=>by simp[nums] at z,λ⟨j,hj,_⟩=>absurd hj (qD _)⟩) ?hR
    case lI=>exact cy.fresh (bg _ hS)
    case hR=>
     intro s' U L m n p
     obtain⟨h',g',d',V,W⟩:=s'
     have eg:g'=s.gens:=L.gens
     have ed:d'=s.drawn:=L.drawn
     have eo:W=s.os:=L.os
     subst eg;subst ed;subst eo
     show wpAny _ _ _ _ _ _
     refine aB ?_
     show wpAny _ _ (ret Value.none) _ _ _
     refine aB ⟨rfl,h',V,U,rfl,m,n,p,λb o J e=> ?_⟩
     have X:b≠s.heap.objs.size:=bx J
     have Y:b≠(s.heap.push (SS.dh w)).objs.size:=by
      rw[eW];exact bx (fX J)
     exact L.heap b o (by simp only[aY,bE,fD,fE,not_or];exact⟨X,Y⟩) (bg _ (bg _ e))
   .cases u with
    |error e=>exact a
    |ok q=>
     cases q with
     |ret r=>
      obtain⟨rfl,h',K,es,rfl,m,n,p,Z⟩:=a
      repeat (any_goals (first|assumption|wp_step))
      exact h _ _ es m n p Z
     |_=>exact a.elim
  |_=>exact N.elim
end
section
variable{prog:Program}{w:World}{A:Around}{E:aT}{s:Shared}{it a:Addr}{es:Array (Int×Value)}{ep:Nat}{t:SetTable}
theorem ints_of{l:List (Int×Value)}(h:ElemsOf (PySem.intKind prog w) l):∀{zs:List Value},zs.Perm (l.map (·.2))->IntsAre zs (zs.map intOf):=λ {zs} a=>by
 have:∀v∈zs,∃t,v=Value.int (intOf v) t:=λv b=>by
  obtain⟨e,c,rfl⟩:=aJ.mp (a.mem_iff.mp b);exact z7 h c
 clear a;induction zs with
 |nil=>exact .nil
 |cons v r d=>
  obtain⟨t,e⟩:=this v (by simp);have r':=d λf h'=>this f (by simp[h']);rw[cO];rw[e];exact .cons _ t r'
theorem BP{Q:aT}(t:A.handled=none)(r:cy prog w s.heap a es)(j:es.size<64)
  (h:∀(h':Heap) (d:Drawn) (i:Nat) (l:Addr) (e:Nat) (out:List Value) (ss:List Int),s.heap.objs.size<=l->h'.get? l=some (seqObj "list" out.toArray e)->IntsAre out ss->ss.Perm (nums es)->ss.Pairwise (·<=·)->
   (∀b o,s.heap.get? b=some o->h'.get? b=some o)->Q (.ref l) {s with heap:=h',drawn:=d,toks:=i}):
  wpAny (model prog w) A (call (.builtin "sorted") [.ref a]) Q E s:=by
 have c:ElemsOf (PySem.intKind prog w) es.toList:=by obtain⟨_,_,_,_,_,_,c,_⟩:=r;exact c
 refine yh kind_sorted plain_sorted entry_sorted (args_sorted1 _) ?_;unfold Builtin.«sorted»;refine ah (m:=checkCount "sorted" 1 1 _) (aB ?_);refine ah (SS.EI t r.y λh1 d i zs hz hsz k1=>?_);have k:IntsAre zs (zs.map intOf):=ints_of c hz;have g:zs.length<64:=by rw[hz.length_eq,aM,eN];exact j
 refine ah (uo ?_);have f:(h1.push (seqObj "list" zs.toArray 0)).get? h1.objs.size=some (seqObj "list" zs.toArray 0):=b9 _ rfl;show wpAny _ _ _ _ _ {s with heap:=h1.push (seqObj "list" zs.toArray 0),drawn:=d,toks:=i};refine ah (eY (jj yp ⟨_,f,rfl⟩ yM (list_sort_tree f k g λout n u v x=>⟨_,rfl,?_⟩) (yK _)));obtain⟨e,z⟩:=yr (out:=out) f;refine aB ⟨_,rfl,h _ d i h1.objs.size e out.toList n hsz (by rw[yu];exact z) u (v.trans ?_) x λb o q=>?_⟩
 .have:=hz.map intOf
  rw[bK] at this;exact this
 .have p:=k1 b o q
  rw[yt (bx (aR p)) (by rw[qF];exact fX (aR p))];exact bg _ p
end
end SI
namespace L2
section
variable{X:Cx}
theorem K6:∀{out:List Value} {ss:List Int},IntsAre out ss->Vals (ss.map V.int) out
 |_,_,.nil=>.nil
 |_,_,.cons x t h=>.cons ⟨t,rfl⟩ (K6 h)
theorem X5{l:List Int}(h:l.Pairwise (·<=·))(nd:l.Nodup):l.Pairwise (·<·):=(h.and nd).imp λ {a b} q=>by
 have:=q.1;have:=q.2;omega
theorem Xw{A:Around}{E:aT}{pins:aZ}{σ:St}{H1:Hp}{d:Shared}{a:Addr}{xs:List Int}{Q:aT}(r:A.handled=none)(s:Inv X pins σ H1 d)(hq:aW X.K H1 a (xs.map V.int)\/bQ X.K H1 a (xs.map V.int))(t:xs.length<64)
  (h:∀(h':Heap) (f:Nat) (es:Array (Int×Value)),SI.cy X.prog X.w h' d.heap.objs.size es->es.size<64->(∀x,x∈SI.nums es↔x∈xs)->(∀b o,d.heap.get? b=some o->h'.get? b=some o)->Q (.ref d.heap.objs.size) {d with heap:=h',toks:=f}):
  wpAny (model X.prog X.w) A (call (.type "set") [.ref a]) Q E d:=by
 have mem:∀(es:Array (Int×Value)) (n:Nat),n=xs.length->(∀x,x∈SI.nums es↔∃j,j<n/\xs.getD j 0=x)->∀x,x∈SI.nums es↔x∈xs:=λes n u y x=>by
  rw[y x,u];constructor
  .rintro ⟨j,g,rfl⟩
   rw[fZ,a_ g];exact jH g
  .intro z
   obtain⟨j,g,e⟩:=iO z;exact⟨j,g,by rw[fZ,a_ g];exact e⟩
 rcases hq with hq|hq
 .obtain⟨its,k,pl,m⟩:=s.list hq
  have hsz:its.toArray.size=xs.length:=by rw[cj,<-k.length,aM]
  exact SI.zI (val:=λi=>xs.getD i 0) r pl.isList (λi v p=>DP.K7 k i v p) (by rw[hsz,show scanBound=4096 from rfl];omega) λh2 f es q l c k2=>h h2 f es q (by omega) (mem es _ hsz c) λb o e=>k2 b o (aR e) e
 .obtain⟨its,k,pl,m⟩:=s.tuple hq
  have hsz:its.toArray.size=xs.length:=by rw[cj,<-k.length,aM]
  exact SI.Mv (val:=λi=>xs.getD i 0) r (show d.heap.IsTuple a its.toArray from pl) (λi v p=>DP.K7 k i v p) (by rw[hsz,show scanBound=4096 from rfl];omega) λh2 f es q l c k2=>h h2 f es q (by omega) (mem es _ hsz c) λb o e=>k2 b o (aR e) e
def YC(K:Frag)(ta:TA):TE:=λσ H Q=>ta σ H λvs H1=>∃(a:Addr) (xs:List Int),vs=[.ref a]/\(aW K H1 a (xs.map V.int)\/bQ K H1 a (xs.map V.int))/\xs.length<64/\
 ∀(l:Addr) (ys:List Int),H1 l=none->ys.Pairwise (·<·)->(∀x,x∈ys↔x∈xs)->Q (.ref l) (upd H1 l (.lst (ys.map V.int)))
theorem UT{e:Expr}{ta:TA}{p1 p2 pos1 pos2:Pos}(y:X.mg "sorted"=none)(A:X.mg "set"=none)(hc:X.calm=true)(M:PA X [e] ta)(B:Gl X "sorted":=by rfl)(C:Gl X "set":=by rfl)
  (N:starEach [e] X.env=[(false,eval e X.env)]:=by rfl)(hz:starEach [.Call (.Name "set" p2) [e] [] pos2] X.env=[(false,eval (.Call (.Name "set" p2) [e] [] pos2) X.env)]:=by rfl):
  PE X (.Call (.Name "sorted" p1) [.Call (.Name "set" p2) [e] [] pos2] [] pos1) (YC X.K ta):=by
 intro pins s σ H Q I h;refine l_ (jA I B y (show bootBuiltins "sorted"=some (.builtin "sorted") by with_unfolding_all rfl) ?_);refine Cr ?_ hz rfl;rw[hz];refine yi (l_ (jA I C A (show bootBuiltins "set"=some (.type "set") by with_unfolding_all rfl) (nj (aK (M pos2 pins s σ H _ I h) λY v ⟨vs,H1,i,O,P⟩=>?_) N rfl)));obtain⟨a,xs,e,R,D,q⟩:=P;subst e;obtain⟨u,rfl,S⟩:=vals1 O;cases S;refine Xw (i.ok.hd hc) i R D λh2 T es E g p f=>?_;refine yj ?_;refine SI.BP (s:={v with heap:=h2,toks:=T}) (i.ok.hd hc) E g λL d r l ep out ss j F G c k k3=>?_;have alt:v.heap.objs.size<h2.objs.size:=by obtain⟨o,_,_,U,_⟩:=E;exact aR U
 have w:H1 l=none:=i.hok.fresh (cG (iB alt) j);have nd:ss.Nodup:=c.nodup_iff.mpr (by obtain⟨_,_,_,_,_,_,_,J,_⟩:=E;exact J);have m:∀x,x∈ss↔x∈xs:=λx=>by rw[c.mem_iff,p x]
 have t:ss.length=es.size:=by rw[c.length_eq,aM,eN]
 have W:Inv X pins σ (upd H1 l (.lst (ss.map V.int))) {v with heap:=L,drawn:=d,toks:=r}:=by
  refine i.call (ch:=[]) (g':=v.gens) (d':=d) (t':=r) (h':=L) (H':=upd H1 l (.lst (ss.map V.int))) ⟨λb o q _ _ _=>k3 b o (f b o q),λb o q _ _ _=>⟨o.slots,k3 b o (f b o q)⟩,λb o q n _=>?_,λb o q _=>⟨o,k3 b o (f b o q)⟩,λb xs q=>?_,λb o u q=>?_,λb ps q=>⟨#[],?_⟩⟩ ?_ i.bare λb z=>absurd z (by simp)
  .rw[bf (bx (cP (aR q) (cG (iB alt) j)))];exact n
  .rw[bf (dw q w)];exact q
  .rw[bf (dw q w)];exact q
  .rw[bf (dw q w),q];simp
  .exact i.hok.laid (λb u q=>k3 b u (f b u q)) (cG (iB alt) j) ⟨by rw[aM,t];exact iB (cP g (by decide)),out,ep,K6 G,F⟩
 exact⟨.ref l,_,W,rfl,q l ss w (X5 k nd) m⟩
end
end L2
namespace DP
open L2
theorem au.GI{mg:aC}{ι:Io}{H:Hp}{n:Nat}(ns:List Int):au mg ι n H (ns.map D.int) (ns.map V.int):=au.ints ns
@[irreducible] def oH(xs:List D)(A:Ar)(R:DK):Prop:=match i9 xs with
 |some ns=>ns.length<64/\∀ys:List Int,ys.Pairwise (·<·)->(∀x,x∈ys↔x∈ns)->R (.ref A.length) (A++[.lst (ys.map D.int)])
 |none=>False
@[irreducible] def tP(r:Nat)(A:Ar)(R:DK):Prop:=match A[r]? with
 |some (.lst xs)=>oH xs A R
 |_=>False
def XT:gM:=λvs A R=>match vs with
 |[.tup xs]=>oH xs A R
 |[.ref r]=>tP r A R
 |_=>False
section
variable{X:Cx}{N:En}{e:Expr}{n:dD}{p1 p2 pos1 pos2:Pos}
theorem E8(d:X.mg "sorted"=none)(f:X.mg "set"=none)(hc:X.calm=true)(v:PA X [e] (fW X.mg N n))(g:Gl X "sorted":=by rfl)(h:Gl X "set":=by rfl)
  (w:starEach [e] X.env=[(false,eval e X.env)]:=by rfl)(hz:starEach [.Call (.Name "set" p2) [e] [] pos2] X.env=[(false,eval (.Call (.Name "set" p2) [e] [] pos2) X.env)]:=by rfl):
  PE X (.Call (.Name "sorted" p1) [.Call (.Name "set" p2) [e] [] pos2] [] pos1) (up X.mg N (rQ XT n)):=dP (UT d f hc v g h w hz) λσ H Q q=>by
 obtain⟨A,ι,τ,R,S,q,k⟩:=q;refine⟨A,ι,τ,_,S,q,λvs s x H1 t b u i c=>?_⟩;match vs,b,c with
 |[.tup xs],b,c=>
  obtain⟨_,_,rfl,⟨a,t,rfl,y,h2⟩,rfl⟩:=c;have b:oH xs s R:=b;unfold oH at b;split at b
  .rename_i ns j
   exact⟨_,ns,rfl,.inr (bQ.of (by rw[y,vM j h2])),b.1,λl ys m o p=>j6 (k.from u) i (au.GI ys) (b.2 ys o p) m⟩
  .exact b.elim
 |[.ref r],b,c=>
  obtain⟨_,_,rfl,⟨_,rfl⟩,rfl⟩:=c;have b:tP r s R:=b;unfold tP at b;split at b
  .rename_i xs e
   obtain⟨t,h1,h2⟩:=i.lst e;unfold oH at b;split at b
   .rename_i ns j
    exact⟨_,ns,rfl,.inl (aW.of (by rw[h1,vM j h2])),b.1,λl ys m o p=>j6 (k.from u) i (au.GI ys) (b.2 ys o p) m⟩
   .exact b.elim
  .exact b.elim
end
theorem GH:∀ns:List Int,i9 (ns.map D.int)=some ns
 |[]=>rfl
 |i::ns=>by
  show(i9 (ns.map D.int)).map (i::·)=_;rw[GH ns];rfl
theorem KA{A:Ar}{ns:List Int}{R:DK}(a:ns.length<64)(k:∀ys:List Int,ys.Pairwise (·<·)->(∀x,x∈ys↔x∈ns)->R (.ref A.length) (A++[.lst (ys.map D.int)])):oH (ns.map D.int) A R:=by
 unfold oH;rw[GH];exact⟨a,k⟩
theorem XU{A:Ar}{r:Nat}{ns:List Int}{R:DK}(h:A[r]?=some (.lst (ns.map D.int)))(a:ns.length<64)(k:∀ys:List Int,ys.Pairwise (·<·)->(∀x,x∈ys↔x∈ns)->R (.ref A.length) (A++[.lst (ys.map D.int)])):tP r A R:=by
 unfold tP;rw[h];exact KA a k
end DP
namespace L2
section
variable{X:Cx}{pins:aZ}{σ:St}{H:Hp}{s:Shared}{d:Addr}{kvs:List (Key×V)}
theorem Inv.swap{u g:HO}(I:Inv X pins σ H s)(hd:H d=some u)(j:∀xs,u≠ .tup xs)(k:∀ps,u≠ .jf ps)(l:∀a,u≠ .own a)(m:∀o v,X.H₀ d=some (.bT o v)->False)(q:b_ X.prog X.w H s.heap d g):Inv X pins σ (upd H d g) s:=by
 have nn:∀b,H b=none->upd H d g b=none:=λb h=>by
  rw[bf (λz=>by rw[z,hd] at h;cases h)];exact h
 have st:∀(a:Addr) (o:HO),b_ X.prog X.w H s.heap a o->b_ X.prog X.w (upd H d g) s.heap a o:=λa o x=>
  x.stay (λb v _ e=>e) (λb h=>by rw[bf (λz=>by rw[z,hd] at h;exact l a (Option.some.inj h))];exact h) λb xs h=>by rw[bf (λz=>by rw[z,hd] at h;exact j xs (Option.some.inj h))];exact h
 refine⟨I.ok,I.os,I.bare,⟨I.base.keep,I.base.slot,λb o e n r=>nn b (I.base.free b o e n r),I.base.there,λb xs h=>?_,λb o v h=>?_,λb ps h=>?_⟩,I.loc,I.cell,nn _ I.free,λx c e=>nn _ (I.kI x c e),λp i=>?_,λa o h=>?_,I.len⟩
 .have h':=I.base.tups b xs h
  rw[bf (λz=>by rw[z,hd] at h';exact j xs (Option.some.inj h'))];exact h'
 .have h':=I.base.gV b o v h
  rw[bf (λz=>by rw[z] at h;exact m o v h)];exact h'
 .obtain⟨f,h'⟩:=I.base.iN b ps h
  exact⟨f,by rw[bf (λz=>by rw[z,hd] at h';exact k _ (Option.some.inj h'))];exact h'⟩
 .obtain⟨h1,h2,t⟩:=I.pin p i
  exact⟨h1,nn _ h2,t⟩
 .by_cases z:a=d
  .subst z
   rw[fC] at h;cases h;exact st _ _ q
  .rw[bf z] at h
   exact st _ _ (I.hok a o h)
theorem Inv.fz(I:Inv X pins σ H s)(hd:H d=some (.dK kvs)):(∀o v,X.H₀ d=some (.bT o v)->False)/\∃o,Inv X pins σ (upd H d (.bT o (.dK kvs))) s:=by
 have a:∀o v,X.H₀ d=some (.bT o v)->False:=λo v h=>by
  have:=I.base.gV d o v h;rw[hd] at this;cases this
 have b:=I.hok d _ hd;obtain⟨h1,h2,vs,f,c⟩:=id b;obtain⟨o,es,ep,e,r⟩:=id c;exact⟨a,o,I.swap hd (λ_ z=>by cases z) (λ_ z=>by cases z) (λ_ z=>by cases z) a ⟨e,b⟩⟩
theorem Inv.Cf{o:Obj}(I:Inv X pins σ H s)(hd:H d=some (.bT o (.dK kvs)))(a:∀o v,X.H₀ d=some (.bT o v)->False):Inv X pins σ (upd H d (.dK kvs)) s:=
 I.swap hd (λ_ z=>by cases z) (λ_ z=>by cases z) (λ_ z=>by cases z) a (I.hok d _ hd).2
end
def yU(a:Addr)(o:Obj)(ks:List Key):It:=
 ⟨λi H=>∃kvs,H a=some (.bT o (.dK kvs))/\kvs.map (·.1)=ks/\i<ks.length,λi H x H'=>H'=H/\∃k,ks[i]?=some k/\x=kV k,λi H=>∃kvs,H a=some (.bT o (.dK kvs))/\kvs.map (·.1)=ks/\ks.length<=i⟩
theorem V2{k:Key}{v:Value}(h:lQ k v=true):RelV (kV k) v:=by
 rcases jz h with⟨i,t,rfl,rfl⟩|⟨x,t,rfl,rfl⟩
 .exact⟨t,rfl⟩
 .exact⟨t,rfl⟩
theorem Ag{X:Cx}{pins:aZ}{σ:St}{H:Hp}{s:Shared}{a:Addr}{o:Obj}{kvs:List (Key×V)}{es:Array DictEntry}{ep:Nat}(I:Inv X pins σ H s)(h:H a=some (.bT o (.dK kvs)))(b:o.data=.dict es ep):(a==sysModules)=false/\∃vs:List (Key×Value),vs.map (·.1)=kvs.map (·.1)/\s.heap.DictAt (dj X.prog X.w) a vs ep:=by
 obtain⟨e,hz,h2,vs,c,f⟩:=(show b_ X.prog X.w H s.heap a (.bT o (.dK kvs)) from I.hok a _ h);obtain⟨o',g,i,d,hc,hd,r⟩:=f;rw[e] at d;cases d;rw[b] at hd;cases hd;refine⟨h2,vs,?_,⟨o,es,e,hc,b,r⟩⟩;clear r h2 h e hz;unfold KV at c;induction c with
 |nil=>rfl
 |cons p t j=>rw[cO,cO,j,p.1]
theorem YU{P:Program}{w:World}{K:Frag}{tg:Expr}(a it:Addr){o:Obj}{ks:List Key}{es:Array DictEntry}{ep:Nat}(B:o.data= .dict es ep):Turn P w K tg (yU a o ks) [it] it (λi h=>h.IsKeyIter it a i ks.length ep) where
 mem:=by simp
 obj:=λi h st b f=>by
  have e:b=it:=by simpa using f
  subst e
  obtain⟨o,e,c,d⟩:=st
  exact⟨o,e,λv z=>by rw[d] at z;cases z⟩
 keep:=λi h h' st k=>st.at λo e=>k it (by simp) o e
 item:=by
  intro X q r t hc i pins s σ H E I m st u
  subst q r t
  obtain⟨kvs,h1,h2,D⟩:=u
  obtain⟨F,vs,n,g⟩:=Ag I h1 B
  have p:vs.length=ks.length:=by rw[<-h2,<-n,aM]
  obtain⟨f0,f1,f2,x,f4,y⟩:=m it (by simp)
  obtain⟨A,C⟩:∃A,vs[i]? =some A:=⟨vs[i]'(by omega),a_ _⟩
  have G:ks[i]? =some A.1:=by rw[<-h2,<-n,cu,C];rfl
  rw[<-p] at st
  refine wpAny_pyNext_dict_item (knd:=dj X.prog X.w) st g C λkey h' l j J=> ?_
  have L:Inv X pins σ H {s with heap:=h'}:=I.turned (t':=s.toks) (λb o f e=>(J.2 b f).trans e) f0 f1 x f4 y
  obtain⟨o',e,c,d⟩:=id j
  rw[p] at j
  exact⟨key,rfl,r_ (s:={s with heap:=h'}) e c d (by decide) ⟨_,H,L,V2 l,⟨rfl,_,G,rfl⟩,j,λb f=>(m b f).1⟩⟩
 done:=by
  intro X q r t hc i pins s σ H E I m st u
  subst q r t
  obtain⟨kvs,h1,h2,D⟩:=u
  obtain⟨F,vs,n,g⟩:=Ag I h1 B
  have p:vs.length=ks.length:=by rw[<-h2,<-n,aM]
  obtain⟨f0,f1,f2,x,f4,y⟩:=m it (by simp)
  rw[<-p] at st
  exact wpAny_pyNext_dict_end (knd:=dj X.prog X.w) (I.ok.hd hc) st g (o7 (by omega)) λh' M=>⟨rfl,I.turned (t':=s.toks) (λb o f e=>M b o f e) f0 f1 x f4 y⟩
 self:=λ_ _ _ _ _ st h=>wpAny_pyIter_keyiter st h
def Q5(tl:TE):TI:=λσ H R=>tl σ H λx H1=>∃a o kvs,x=.ref a/\H1 a=some (.bT o (.dK kvs))/\R (yU a o (kvs.map (·.1))) H1
theorem U5{X:Cx}{tg l:Expr}{tl:TE}(f:PE X l tl):PI X tg l (Q5 tl):=by
 intro pins s σ H R I h;refine aK (f pins s σ H _ I h) λv c ⟨x,H1,d,k,m⟩=>?_;obtain⟨a,o,kvs,e,i,q⟩:=m;subst e;cases k;obtain⟨e,_,h2,vs,y,n⟩:=(show b_ X.prog X.w H1 c.heap a (.bT o (.dK kvs)) from d.hok a _ i);obtain⟨o',es,ep,j,hc,hd,r⟩:=id n;rw[e] at j;cases j;obtain⟨p,vs,t,g⟩:=Ag d i hd;have f:(kvs.map (·.1)).length=vs.length:=by rw[<-t,aM]
 refine wpAny_pyIter_dict (knd:=dj X.prog X.w) p g ?_;refine⟨c.heap.objs.size,[c.heap.objs.size],_,_,H1,rfl,d.kept (t':=c.toks) λb o e=>bg _ e,YU a _ hd,⟨_,b9 _ rfl,rfl,by rw[f];rfl⟩,λb u=>?_,q⟩;have e:b=c.heap.objs.size:=by simpa using u
 subst e;exact d.mU (aF _) (d.hok.fresh (aF _))
end L2
namespace DP
open L2
def keyOf:Key->D
 |.inl i=>.int i
 |.inr x=>.str x
theorem We{mg:aC}{ι:Io}{n:Nat}{H:Hp}(k:Key):RV mg ι n H (keyOf k) (kV k):=by
 cases k<;>rfl
theorem RK.pR{mg:aC}{ι:Io}{H:Hp}:∀{ds:List (Key×D)} {vs:List (Key×V)} {n:Nat},RK mg ι n H ds vs->vs.map (·.1)=ds.map (·.1)
 |[],vs,_,h=>by have h':vs=[]:=h;rw[h'];rfl
 |d::ds,vs,n,h=>by
  obtain⟨x,r,rfl,_,a⟩:=h;rw[cO,cO,RK.pR a]
theorem RC{mg:aC}{A:Ar}{ι:Io}{H:Hp}{q:Nat}{o:Obj}{kvs:List (Key×D)}(b:q<A.length):lD mg A ι H (yU (ι q) o (kvs.map (·.1))) (kvs.map λp=>keyOf p.1) (λA'=>A'[q]?=some (.bz o kvs)) where
 go:=λi d f a H1 hd e r hc=>by
  obtain⟨xs,h1,h2⟩:=r.bz hc;rw[e.ag q b] at h1;have hi:=(bY.mp hd).1;rw[aM] at hi;refine⟨⟨xs,h1,RK.pR h2,by rw[aM];exact hi⟩,λx H' y=>?_⟩;obtain⟨rfl,k,c,rfl⟩:=y;refine⟨r.refl,r,?_⟩;rw[cu,a_ hi] at hd c;cases hd;cases c;exact We _
 stop:=λf a H1 e r hc=>by
  obtain⟨xs,h1,h2⟩:=r.bz hc;rw[e.ag q b] at h1;exact⟨xs,h1,RK.pR h2,by simp⟩
@[irreducible] def sA(r:Nat)(A:Ar)(R:List D->(Ar->Prop)->Ar->Prop):Prop:=match A[r]? with
 |some (.bz o kvs)=>R (kvs.map λp=>keyOf p.1) (λA'=>A'[r]?=some (.bz o kvs)) A
 |_=>False
def su(m:aP):jo:=λτ A R=>m τ A λx A1=>match x with
 |.ref r=>sA r A1 R
 |_=>False
section
variable{X:Cx}{N:En}{tg e:Expr}{m:aP}
theorem nR(f:PE X e (up X.mg N m)):PI X tg e (jG X.mg N (su m)):=pL (U5 f) λσ H Q q=>by
 obtain⟨A,ι,τ,R,S,q,k⟩:=q;refine⟨A,ι,τ,_,S,q,λx c b H1 u a g d h=>?_⟩;cases x with
 |ref r=>
  obtain⟨i,rfl⟩:=h;have a:sA r c R:=a;unfold sA at a;split at a
  .rename_i o kvs e
   obtain⟨xs,h1,h2⟩:=d.bz e;refine⟨_,o,xs,rfl,h1,?_⟩;rw[RK.pR h2];exact k _ _ c b H1 _ a g d (RC i)
  .exact a.elim
 |_=>exact a.elim
@[irreducible] def vF(r:Nat)(A:Ar)(Q:Obj->Ar->Prop):Prop:=match A[r]? with
 |some (.dct kvs)=>∀o,Q o (A.set r (.bz o kvs))
 |_=>False
def B_(r:Nat)(o:Obj)(A2:Ar)(Q:Ar->Prop):Prop:=∃kvs,A2[r]?=some (.bz o kvs)/\Q (A2.set r (.dct kvs))
def EO(i:Nat)(m:aP):aP:=λτ A R=>match lk τ i with
 |some (.ref r)=>vF r A λo A1=>m τ A1 λx A2=>B_ r o A2 (R x)
 |_=>False
theorem Aj{σ:L2.St}{H:Hp}{A:Ar}{ι:Io}{τ:bO}{r:Nat}{kvs:List (Key×D)}{xs:List (Key×V)}{o:Obj}(S:dN X.mg N A ι τ σ H)(e:A[r]?=some (.dct kvs))(h1:H (ι r)=some (.dK xs))(h2:RK X.mg ι A.length H kvs xs):
  dN X.mg N (A.set r (.bz o kvs)) ι τ σ (upd H (ι r) (.bT o (.dK xs)))/\Ext A ι H (A.set r (.bz o kvs)) ι (upd H (ι r) (.bT o (.dK xs))):=by
 have b:=(bY.mp e).1;have E:=S.ra.nU (o:=.bT o (.dK xs)) (c:=.bz o kvs) b;obtain⟨ra,a⟩:=S.ra.put (c':=.bz o kvs) (o:=.bT o (.dK xs)) e h1 rfl ⟨_,fC,by simpa using RK.ext E kvs xs h2⟩;exact⟨S.next a ra,a⟩
theorem Ai{mg:aC}{H:Hp}{A:Ar}{ι:Io}{r:Nat}{kvs:List (Key×D)}{o:Obj}(ra:RA mg ι H A)(e:A[r]?=some (.bz o kvs)):∃xs,H (ι r)=some (.bT o (.dK xs))/\RA mg ι (upd H (ι r) (.dK xs)) (A.set r (.dct kvs))/\Ext A ι H (A.set r (.dct kvs)) ι (upd H (ι r) (.dK xs)):=by
 obtain⟨xs,h1,h2⟩:=ra.bz e;have a:=(bY.mp e).1;have E:=ra.nU (o:=.dK xs) (c:=.dct kvs) a;obtain⟨b,d⟩:=ra.put (c':=.dct kvs) (o:=.dK xs) e h1 rfl ⟨_,fC,by simpa using RK.ext E kvs xs h2⟩;exact⟨xs,h1,b,d⟩
theorem E6{i:Nat}(n:PE X e (up X.mg N m)):PE X e (up X.mg N (EO i m)):=by
 intro pins s σ H Q I q;obtain⟨A,ι,τ,R,S,q,k⟩:=q;unfold EO at q;split at q
 .rename_i r G
  unfold vF at q;split at q
  .rename_i kvs a
   obtain⟨xs,h1,h2⟩:=S.ra.dct a;have p:=(bY.mp a).1;obtain⟨t,o,w⟩:=I.fz h1;obtain⟨x,y⟩:=Aj (o:=o) S a h1 h2;refine aK (n pins s σ _ (λu H'=>∃xs,H' (ι r)=some (.bT o (.dK xs))/\Q u (upd H' (ι r) (.dK xs))) w ⟨_,ι,τ,_,x,q o,λv A' ι' H' u b g z v2=>?_⟩) λv s' ⟨u,H',B,C,D,h',E⟩=>⟨u,_,B.Cf h' t,C,E⟩;obtain⟨h,c,b⟩:=b;have F:ι' r=ι r:=g.ag r (by simpa using p);obtain⟨d,j,l,f⟩:=Ai z c;rw[F] at j l f;exact⟨d,j,k v _ ι' _ u b ((y.trans g).trans f) l (RV.ext f v u v2)⟩
  .exact q.elim
 .exact q.elim
end
theorem F3{A:Ar}{r:Nat}{kvs:List (Key×D)}{Q:Obj->Ar->Prop}(h:A[r]?=some (.dct kvs))(k:∀o,Q o (A.set r (.bz o kvs))):vF r A Q:=by
 unfold vF;rw[h];exact k
theorem pY{A:Ar}{r:Nat}{o:Obj}{kvs:List (Key×D)}{R:List D->(Ar->Prop)->Ar->Prop}(h:A[r]?=some (.bz o kvs))(k:R (kvs.map λp=>keyOf p.1) (λA'=>A'[r]?=some (.bz o kvs)) A):sA r A R:=by
 unfold sA;rw[h];exact k
theorem sD{A:Ar}{r:Nat}{o:Obj}{kvs:List (Key×D)}{y v:D}{k:Key}{R:DK}(h:A[r]?=some (.bz o kvs))(a:gm y=some k)(b:bw kvs k=some v)(q:R v A):lO r y A R:=by
 unfold lO;rw[h];simp only[a,b];exact q
end DP
namespace L2
theorem range_any(bs:List Bool):((range bs.length).any λi=>(bs[i]?).getD false)=bs.any id:=by
 rw[lX,jL,jL];constructor
 .rintro ⟨i,hi,h⟩
  have hi:i<bs.length:=by simpa using hi
  rw[a_ hi] at h;exact⟨_,jH hi,h⟩
 .rintro ⟨b,a,h⟩
  obtain⟨i,hi,e⟩:=iO a;exact⟨i,by simpa using hi,by rw[a_ hi,e];exact h⟩
section
variable{X:Cx}
theorem Ew(hc:X.calm=true):eS X (.builtin "any") (λxs H Q=>∃(p:Addr) (bs:List Bool),xs=[.ref p]/\aW X.K H p (bs.map V.bl)/\Q (.bl (bs.any id)) H):=by
 intro pins s σ H xs o Q I r h;obtain⟨p,bs,rfl,g,q⟩:=h;obtain⟨u,rfl,j⟩:=vals1 r;cases j;obtain⟨vs,k,pl,hz⟩:=I.list g;have d:=zG k;have a:=pl.isList;have c:p<s.heap.objs.size:=by obtain⟨_,e,_⟩:=a;exact aR e
 refine call_any_walk (oV a ?_);refine⟨s.heap.objs.size,[s.heap.objs.size,p],[s.heap.objs.size],vs.toArray.size,_,_,λi=>(bs[i]?).getD false,rfl,Walks.list (A:=X.A.in1) (I.ok.hd hc) _ p (bx c) vs.toArray,
  ⟨⟨_,b9 _ rfl,rfl,rfl⟩,a.push _⟩,λi v s' t w l f=>?_,λh' m n=>?_⟩
 .obtain⟨b,e,rfl⟩:=d.get i v (by simpa using l)
  simp only[e,getD_some] at f;exact nA f
 .have e:((range vs.toArray.size).any λi=>(bs[i]?).getD false)=bs.any id:=by
   rw[cj,d.length];exact range_any bs
  rw[e];exact⟨.bl _,H,I.kept (h':=h') (t':=m) (LSm.kept_iter n),rfl,q⟩
end
end L2
namespace DP
open L2
theorem Ep:bootBuiltins "any"=some (.builtin "any"):=by with_unfolding_all rfl
@[irreducible] def anyR(r:Nat)(A:Ar)(R:DK):Prop:=match A[r]? with
 |some (.lst xs)=>(match ju xs with
  |some bs=>R (.bl (bs.any id)) A
  |none=>False)
 |_=>False
def D4:gM:=λvs A R=>match vs with
 |[.ref r]=>anyR r A R
 |_=>False
theorem ET{mg:aC}{K:Frag}:iE mg (λxs H Q=>∃(p:Addr) (bs:List Bool),xs=[.ref p]/\aW K H p (bs.map V.bl)/\Q (.bl (bs.any id)) H) D4:=by
 intro ds A ι H a R Q ra rs h k;unfold D4 at h;split at h
 .obtain⟨_,_,rfl,⟨_,rfl⟩,rfl⟩:=rs
  unfold anyR at h;split at h
  .rename_i xs e
   split at h
   .rename_i bs b
    obtain⟨a,h1,c⟩:=ra.lst e;exact⟨_,bs,rfl,aW.of (by rw[h1,zF b c]),k.here ra h rfl⟩
   .exact h.elim
  .exact h.elim
 .exact h.elim
theorem D5{A:Ar}{r:Nat}{xs:List D}{bs:List Bool}{R:DK}(h:A[r]?=some (.lst xs))(a:ju xs=some bs)(k:R (.bl (bs.any id)) A):anyR r A R:=by
 unfold anyR;simp only[h,a];exact k
end DP
end
namespace KO
open PySem PySem.W PyProof.Rows
section
variable{O:KeyOrd}{key:Nat->O.α}{n:Nat}{cmp:Nat->Nat->(Bool->Shared->Prop)->Shared->Prop}{s:Shared}
def kp(O:KeyOrd)(key:Nat->O.α)(p:Array Nat)(i:Nat):O.α:=key (p.getD i 0)
def Up(O:KeyOrd)(key:Nat->O.α)(p:Array Nat)(k:Nat):Prop:=∀i j,i<=j->j<k->O.kle (kp O key p i) (kp O key p j)
def Dn(O:KeyOrd)(key:Nat->O.α)(p:Array Nat)(k:Nat):Prop:=∀i j,i<=j->j<k->O.kle (kp O key p j) (kp O key p i)
def Pm(n:Nat)(p:Array Nat):Prop:=p.Perm (range n).toArray
theorem Pm.size{p:Array Nat}(h:Pm n p):p.size=n:=by
 have:=Array.Perm.size_eq h;simpa using this
theorem Pm.lt{p:Array Nat}(h:Pm n p){i:Nat}(hi:i<n):p.getD i 0<n:=by
 have hz:=h.size;have a:p[i]'(by omega)∈p:=Array.getElem_mem _;have:=(Array.Perm.mem_iff h).mp a;rw[iT,fc (by omega)];simpa using this
theorem sG{p q:Array Nat}{i j:Nat}(h:p[i]?=q[j]?):kp O key p i=kp O key q j:=by
 unfold kp;rw[iT,iT,h]
theorem AK{p:Array Nat}{i j:Nat}(a:j<=p.size)(k:Nat):kp O key (kas_rev p i j) k=if i<=k/\k<j then kp O key p (i+j - 1 - k) else kp O key p k:=by
 have e:=getElem?_mirror_all (xs:=p) (i:=i) a k;split
 .rename_i h;rw[aA h] at e;exact sG e
 .rename_i h;rw[ao h] at e;exact sG e
theorem AJ{p:Array Nat}{i j:Nat}(b:j<=p.size)(a:∀k,i<=k->k<j->kp O key p k=kp O key p (j - 1))(k:Nat):kp O key (kas_rev p i j) k=kp O key p k:=by
 rw[AK b];split
 .rw[a _ (by omega) (by omega),a k (by omega) (by omega)]
 .rfl
theorem Pm.rev{p:Array Nat}(h:Pm n p)(i j:Nat):Pm n (kas_rev p i j):=(mirror_perm _ _ _ _).trans h
theorem Up.snoc{p:Array Nat}{x:Nat}(h:Up O key p x)(h1:1<=x)(c:O.blt (kp O key p x) (kp O key p (x - 1))=false):Up O key p (x+1):=λi j a d=>by
 by_cases b:j<x
 .exact h i j a b
 .have e:j=x:=by omega
  subst e;by_cases hi:i=j
  .subst hi;exact oX _
  .exact yF (h i (j - 1) (by omega) (by omega)) c
theorem Dn.snoc{p:Array Nat}{x:Nat}(h:Dn O key p x)(h1:1<=x)(c:O.kle (kp O key p x) (kp O key p (x - 1))):Dn O key p (x+1):=λi j a d=>by
 by_cases b:j<x
 .exact h i j a b
 .have e:j=x:=by omega
  subst e;by_cases hi:i=j
  .subst hi;exact oX _
  .exact yF c (h i (j - 1) (by omega) (by omega))
variable(hc:∀i j,i<n->j<n->∀C:Bool->Shared->Prop,C (O.blt (key i) (key j)) s->cmp i j C s)
include hc
theorem rH{α:Type}{p:Array Nat}(a:Pm n p){i j:Nat}(hi:i<n)(b:j<n){k:Bool->KasT α}{G:α->Shared->Prop}(h:(k (O.blt (kp O key p i) (kp O key p j))).kasWp cmp G s):(KasT.ask (p.getD i 0) (p.getD j 0) k).kasWp cmp G s:=
 hc _ _ (a.lt hi) (a.lt b) _ h
theorem zB{p:Array Nat}(d:Pm n p){b:Nat}(k:b<=n){G:Nat->Shared->Prop}:∀(f a:Nat),1<=a->a+f=b->Up O key p a->
  (∀m,a<=m->m<=b->Up O key p m->(m=b\/O.klt (kp O key p m) (kp O key p (m - 1)))->G m s)->(kas_asc p f a).kasWp cmp G s
 |0,a,h1,e,c,h=>h a (aF _) (by omega) c (.inl (by omega))
 |f+1,a,h1,e,c,h=>by
  refine rH hc d (i:=a) (j:=a - 1) (by omega) (by omega) ?_;cases g:O.blt (kp O key p a) (kp O key p (a - 1)) with
  |true=>rw[aA rfl];exact h a (aF _) (by omega) c (.inr g)
  |false=>
   rw[ao bV];exact zB d k f (a+1) (by omega) (by omega) (c.snoc h1 g) λm l=>h m (by omega)
theorem vj{a:Nat}(r:a<=n){G:Array Nat×Nat×Nat->Shared->Prop}:∀(f:Nat) (p:Array Nat) (x q:Nat),Pm n p->1<=x->x+f=a->Dn O key p x->q+1<=x->(∀i,x - (q+1)<=i->i<x->kp O key p i=kp O key p (x - 1))->
  (∀b m d,Pm n b->x<=m->m<=a->Dn O key b m->d+1<=m->(∀i,m - (d+1)<=i->i<m->kp O key b i=kp O key b (m - 1))->G (b,m,d) s)->(kas_desc f p x q).kasWp cmp G s
 |0,p,x,q,g,h1,e,k,t,l,h=>h p x q g (aF _) (by omega) k t l
 |f+1,p,x,q,g,h1,e,k,t,l,h=>by
  have hz:=g.size;refine rH hc g (i:=x) (j:=x - 1) (by omega) (by omega) ?_;cases u:O.blt (kp O key p x) (kp O key p (x - 1)) with
  |true=>
   rw[aA rfl];by_cases o:q>0
   .rw[aA o]
    have y:=AJ (O:=O) (key:=key) (p:=p) (i:=x - (q+1)) (j:=x) (by omega) l;refine vj r f _ (x+1) 0 (g.rev _ _) (by omega) (by omega) (λi j v A=>?_) (by omega) (λi i1 i2=>by congr 1;omega) λb m d c z=>h b m d c (by omega);rw[y,y];exact(k.snoc h1 (ux u)) i j v A
   .rw[ao o]
    exact vj r f p (x+1) 0 g (by omega) (by omega) (k.snoc h1 (ux u)) (by omega) (λi i1 i2=>by congr 1;omega) λb m d c z=>h b m d c (by omega)
  |false=>
   rw[ao bV];refine rH hc g (i:=x - 1) (j:=x) (by omega) (by omega) ?_;cases hd:O.blt (kp O key p (x - 1)) (kp O key p x) with
   |true=>rw[aA rfl];exact h p x q g (aF _) (by omega) k t l
   |false=>
    rw[ao bV];have ex:kp O key p x=kp O key p (x - 1):=KeyOrd.kle_antisymm hd u;refine vj r f p (x+1) (q+1) g (by omega) (by omega) (k.snoc h1 hd) (by omega) (λi i1 i2=>?_) λb m d c z=>h b m d c (by omega);rw[show x+1 - 1=x by omega];by_cases w:i=x
    .rw[w]
    .rw[ex];exact l i (by omega) (by omega)
theorem KS{p:Array Nat}(b:Pm n p){m a:Nat}(e:a<=n)(h1:1<=m)(q:m<=a)(f:Dn O key p m){G:Nat×Array Nat->Shared->Prop}(h:∀k c,Pm n c->1<=k->k<=a->Up O key c k->G (k,c) s):(kas_tail3 m a p).kasWp cmp G s:=by
 have hz:=b.size;unfold kas_tail3;rw[KasT.kasWp_bind];refine zB hc (b.rev 0 m) e _ m h1 (by omega) (λi j g r=>?_) λk l d o _=>h k _ (b.rev 0 m) (by omega) d o;rw[AK (by omega),AK (by omega),aA (by omega),aA (by omega)];exact f _ _ (by omega) (by omega)
theorem HZ{p:Array Nat}(r:Pm n p){m a:Nat}(g:a<=n)(x:m+1<=a)(t:Dn O key p (m+1)){G:Nat×Array Nat->Shared->Prop}(h:∀k c,Pm n c->1<=k->k<=a->Up O key c k->G (k,c) s):(kas_descPart m a p).kasWp cmp G s:=by
 unfold kas_descPart;rw[KasT.kasWp_bind];refine vj hc g _ p (m+1) 0 r (by omega) (by omega) t (by omega) (λi i1 i2=>by congr 1;omega) λc k q b u d e y v=>?_;have hz:=b.size;by_cases f:q>0
 .simp only[f,lV]
  have o:=AJ (O:=O) (key:=key) (p:=c) (i:=k - (q+1)) (j:=k) (by omega) v;refine KS hc (b.rev _ _) g (by omega) d (λi j l w=>?_) h;rw[o,o];exact e i j l w
 .simp only[f,gv]
  exact KS hc b g (by omega) d e h
theorem MI{p:Array Nat}(b:Pm n p)(h1:1<=n){G:Nat×Array Nat->Shared->Prop}(h:∀k r,Pm n r->1<=k->k<=n->Up O key r k->G (k,r) s):(kas_count n p).kasWp cmp G s:=by
 have hz:=b.size;unfold kas_count;rw[KasT.kasWp_bind];refine zB hc b (aF n) _ 1 (aF _) (by omega) (λi j a f=>by have e:i=j:=(by omega);rw[e];exact oX _) λm c g o t=>?_;by_cases d:m=n
 .rw[aA (by simpa using d)]
  exact h m p b c g o
 .rw[ao (by simpa using d)]
  have l:=t.resolve_left d;by_cases v:m>1
  .rw[aA v]
   refine rH hc b (i:=0) (j:=m - 1) (by omega) (by omega) ?_;cases w:O.blt (kp O key p 0) (kp O key p (m - 1)) with
   |true=>rw[aA rfl];exact h m p b c g o
   |false=>
    rw[ao bV];have u:∀k,0<=k->k<m->kp O key p k=kp O key p (m - 1):=λk _ q=>
     KeyOrd.kle_antisymm (o k (m - 1) (by omega) (by omega)) (yF w (o 0 k (by omega) q))
    have q:=AJ (O:=O) (key:=key) (p:=p) (i:=0) (j:=m) (by omega) u;refine HZ hc (b.rev 0 m) (aF n) (by omega) (λi j a f=>?_) h;rw[q,q];have hd:Dn O key p m:=λi j a f=>by rw[u i (by omega) (by omega),u j (by omega) f];exact oX _
    exact(hd.snoc c (ux l)) i j a f
  .rw[ao v]
   have e:m=1:=by omega
   subst e;have hd:Dn O key p 1:=λi j a f=>by have e:i=j:=(by omega);rw[e];exact oX _
   exact HZ hc b (aF n) (by omega) (hd.snoc (aF _) (ux l)) h
theorem Bo{p:Array Nat}(g:Pm n p){k:Nat}(m:k<n)(d:Up O key p k){G:Nat->Shared->Prop}:∀(f l r:Nat),l<=r->r<=k->r - l<=f->(∀i,i<l->O.kle (kp O key p i) (kp O key p k))->(∀i,r<=i->i<k->O.klt (kp O key p k) (kp O key p i))->
  (∀l,l<=k->(∀i,i<l->O.kle (kp O key p i) (kp O key p k))->(∀i,l<=i->i<k->O.klt (kp O key p k) (kp O key p i))->G l s)->(kas_place p k f l r).kasWp cmp G s
 |0,l,r,o,q,u,a,b,h=>by
  have e:l=r:=by omega
  exact h l (by omega) a (e▸b)
 |f+1,l,r,o,q,u,a,b,h=>by
  unfold kas_place;by_cases c:l≥r
  .rw[aA c]
   have e:l=r:=by omega
   exact h l (by omega) a (e▸b)
  .rw[ao c]
   refine rH hc g (i:=k) (j:=(l+r)/2) m (by omega) ?_;cases t:O.blt (kp O key p k) (kp O key p ((l+r)/2)) with
   |true=>
    rw[aA rfl];exact Bo g m d f l ((l+r)/2) (by omega) (by omega) (by omega) a (λi i1 i2=>KeyOrd.klt_of_klt_of_kle t (d _ _ i1 i2)) h
   |false=>
    rw[ao bV];exact Bo g m d f ((l+r)/2+1) r (by omega) (by omega) (by omega) (λi i1=>yF (d i ((l+r)/2) (by omega) (by omega)) t) b h
theorem Ej{G:Array Nat->Shared->Prop}(h:∀g,Pm n g->Up O key g n->G g s):∀(f:Nat) (p:Array Nat) (k:Nat),Pm n p->k+f=n->Up O key p k->(kas_bin f p k).kasWp cmp G s
 |0,p,k,b,e,d=>h p b (by rw[<-e];exact d)
 |f+1,p,k,b,e,d=>by
  have hz:=b.size;unfold kas_bin;rw[KasT.kasWp_bind];refine Bo hc b (by omega) d k 0 k (by omega) (aF _) (by omega) (λi hi=>by omega) (λi i1 i2=>by omega) λl r m o=>?_;refine Ej h f _ (k+1) ((bubble_perm _ _ _).trans b) (by omega) λi j q t=>?_;have c:∀x,kp O key (bubble p k (k - l)) x=if x=l then kp O key p k else if l<x/\x<=k then kp O key p (x - 1) else kp O key p x:=λx=>by
   have a:=getElem?_bubble (xs:=p) (src:=k) (by omega) (k - l) (by omega) x;rw[show k - (k - l)=l by omega] at a;split
   .rename_i h1;rw[aA h1] at a;exact sG a
   .rename_i h1
    rw[ao h1] at a;split
    .rename_i h2;rw[aA h2] at a;exact sG a
    .rename_i h2;rw[ao h2] at a;exact sG a
  rw[c,c];repeat' split
  all_goals first
   |(exfalso;omega)
   |exact oX _
   |exact m _ (by omega)
   |exact ux (o _ (by omega) (by omega))
   |exact d _ _ (by omega) (by omega)
theorem XN{G:Array Nat->Shared->Prop}(h1:1<=n)(h:∀a,Pm n a->Up O key a n->G a s):(kas_sort n).kasWp cmp G s:=by
 unfold kas_sort;rw[KasT.kasWp_bind];refine MI hc (Array.Perm.refl _) h1 λk p b e f c=>?_;by_cases d:k<n
 .simp only[d,lV]
  rw[show max k 1=k by omega];exact Ej hc h _ p k b (by omega) c
 .simp only[d,gv]
  exact h p b (by rw[show n=k by omega];exact c)
end
end KO
namespace KP
open PySem PySem.W PySem.Spec PyProof.Rows KO
section
variable{prog:Program}{w:World}{A:Around}{E:aT}{s:Shared}
theorem Sl{κ:SortKind}{O:KeyOrd}{key:Nat->O.α}{a:Addr}{vs:List Value}{n:Nat}{P:PySem.Fin->Shared->Prop}(m:s.heap.get? a=some (seqObj "list" vs.toArray n))(r:vs.length<64)
  (I:∀s':Shared,(∀b o,b≠a->s.heap.get? b=some o->s'.heap.get? b=some o)->2<=vs.length->∀R:SortKind->Shared->Prop,R κ s'->wpAny (model prog w) A (keyKind' vs.toArray) R (λ_ _=>False) s')
  (hc:∀s':Shared,(∀b o,b≠a->s.heap.get? b=some o->s'.heap.get? b=some o)->∀i j,i<vs.length->j<vs.length->∀C:Bool->Shared->Prop,C (O.blt (key i) (key j)) s'->kas_ask prog w A κ vs i j C s')
  (h:∀p:Array Nat,Pm vs.length p->Up O key p vs.length->P (.done (.ret .none)) {s with heap:=sortedHeap s.heap a vs (p.toList.map λi=>vs.getD i Value.none).toArray}):
  wpAny (model prog w) A (Builtin.«list.sort» ⟨[.ref a],[]⟩) P E s:=by
 rw[list_sort_plain]
 have H:a<s.heap.objs.size:=aR m
 refine ah (listItems_at m rfl ?_)
 refine ah (listUpdate_at m rfl ?_ (by rw[cj,lZ];omega) (bP _))
 obtain⟨t,g⟩:∃t,(s.heap.update a (Obj.mapSeq λ_=>(#[]:Array Value))).get? a=some (seqObj "list" #[] t):=⟨_,get?_update_seq m λ_=> #[]⟩
 refine ah (seqEpoch_at g rfl ?_)
 refine ah (wpAny_newTuple ?_ (by show vs.length<=_;rw[lZ];omega))
 refine ah (uo ?_ (bP _))
 refine eY ?_
 have c:(((s.heap.update a (Obj.mapSeq λ_=>(#[]:Array Value))).push (seqObj "tuple" vs.toArray 0)).push (seqObj "list" #[] 0)).get? a=some (seqObj "list" #[] t):=by
  rw[get?_push_ne _ _ _ (by rw[qF,qG];exact bx (fX H)),get?_push_ne _ _ _ (by rw[qG];exact bx H)]
  exact g
 have kp:∀b o,b≠a->s.heap.get? b=some o->(((s.heap.update a (Obj.mapSeq λ_=>(#[]:Array Value))).push (seqObj "tuple" vs.toArray 0)).push (seqObj "list" #[] 0)).get? b=some o:=λb o J q=>
  bg _ (bg _ (by rw[Heap.get?_update_ne _ _ _ _ J];exact q))
 show wpAny (model prog w) A _ P E {s with heap:=((s.heap.update a (Obj.mapSeq λ_=>(#[]:Array Value))).push (seqObj "tuple" vs.toArray 0)).push (seqObj "list" #[] 0)}
 dsimp only
 by_cases h2:vs.toArray.size<2
 .rw[aA h2,aA h2]
  refine ah (aB ?_)
  rw[StateT.run_pure]
  refine ah (aB ?_)
  dsimp only
  have u:vs.length<2:=by simpa using h2
  have e:=h (range vs.length).toArray (Array.Perm.refl _) λi j K W=>by
   have L:i=j:=by omega
   rw[L];exact oX _
  have M:(arrOf (SortSt.mk' general' (vs.toArray.zip vs.toArray) #[] 7 none)).map (·.2)=((range vs.length).toArray.toList.map λi=>vs.getD i Value.none).toArray:=by
   refine kat_snds (ks:=vs) rfl ?_
   have e:=kas_range (vs.toArray.zip vs.toArray)
   rw[show(vs.toArray.zip vs.toArray).size=vs.length by simp] at e
   exact e.symm
  rw[M]
  refine ah (seqEpoch_at c rfl ?_)
  refine ah (listUpdate_at c rfl ?_ (bP _) (by rw[cj,aM,length_range,lZ];omega))
  simp only[nD,jN,gv]
  exact aB e
 .rw[ao h2,ao h2]
  have u:2<=vs.length:=by
   have:vs.toArray.size=vs.length:=by simp
   omega
  obtain⟨f,v⟩:∃f:Shared,f={s with heap:=((s.heap.update a (Obj.mapSeq λ_=>(#[]:Array Value))).push (seqObj "tuple" vs.toArray 0)).push (seqObj "list" #[] 0)}:=⟨_,rfl⟩
  have k:∀b o,b≠a->s.heap.get? b=some o->f.heap.get? b=some o:=by rw[v];exact kp
  rw[<-v]
  refine ah (k9 (I f k u (λl s'=>l=κ/\s'=f) ⟨rfl,rfl⟩) ?_ λ_ _ x=>x.elim)
  rintro l s' ⟨N,es⟩
  rw[N,es]
  refine ah (k9 (kat_run (ks:=vs) (vs:=vs) (Q:=λd s'=>∃p:Array Nat,p.size=vs.length/\arrOf d=p.map (kas_item (vs.toArray.zip vs.toArray))/\failedOf d=none/\Pm vs.length p/\Up O key p vs.length/\s'=f)
   (G:=λp s'=>Pm vs.length p/\Up O key p vs.length/\s'=f) rfl u r (λS d s' a1 a2 a3 a4=>⟨S,a1,a2,a3,a4⟩)
   (XN (O:=O) (key:=key) (hc f k) (by omega) λp y T=>⟨y,T,rfl⟩)) ?_ λ_ _ e=>e)
  rintro ⟨⟨⟩,d⟩ U ⟨p,y,z,V,B,D,F⟩
  dsimp only
  rw[F]
  rw[kat_snds rfl z]
  subst v
  refine ah (seqEpoch_at c rfl ?_)
  refine ah (listUpdate_at c rfl ?_ (bP _) (by rw[cj,aM,eN,y,lZ];omega))
  rw[V]
  simp only[nD,jN,gv]
  exact aB (h p B D)
theorem XO{κ:SortKind}{O:KeyOrd}{key:Nat->O.α}{l:Addr}{vs:List Value}{Q:aT}(f:s.heap.IsList l vs.toArray)(d:vs.length<64)
  (g:∀s':Shared,(∀b o,s.heap.get? b=some o->s'.heap.get? b=some o)->2<=vs.length->∀R:SortKind->Shared->Prop,R κ s'->wpAny (model prog w) A.in1.in1 (keyKind' vs.toArray) R (λ_ _=>False) s')
  (hc:∀s':Shared,(∀b o,s.heap.get? b=some o->s'.heap.get? b=some o)->∀i j,i<vs.length->j<vs.length->∀C:Bool->Shared->Prop,C (O.blt (key i) (key j)) s'->kas_ask prog w A.in1.in1 κ vs i j C s')
  (h:∀(p:Array Nat) (h':Heap) (D:Addr) (e:Nat),Pm vs.length p->Up O key p vs.length->s.heap.objs.size<=D->h'.get? D=some (seqObj "list" (p.toList.map λi=>vs.getD i Value.none).toArray e)->(∀b o,s.heap.get? b=some o->h'.get? b=some o)->Q (.ref D) {s with heap:=h'}):
  wpAny (model prog w) A (call (.builtin "sorted") [.ref l]) Q E s:=by
 refine yh kind_sorted plain_sorted entry_sorted (args_sorted1 _) ?_
 unfold Builtin.«sorted»
 refine ah (m:=checkCount "sorted" 1 1 _) (aB ?_)
 refine ah (collect_list f ?_ (by rw[lZ];omega))
 refine ah (uo ?_ (by rw[lZ];omega))
 have hsz:((s.heap.push (seqObj "list" #[] 0)).update s.heap.objs.size (Obj.mapSeq (·++vs.toArray))).objs.size=s.heap.objs.size+1:=by
  rw[qG,qF]
 have a:(((s.heap.push (seqObj "list" #[] 0)).update s.heap.objs.size (Obj.mapSeq (·++vs.toArray))).push (seqObj "list" vs.toArray 0)).get? (s.heap.objs.size+1)=some (seqObj "list" vs.toArray 0):=by
  rw[<-hsz];exact b9 _ rfl
 have keep:∀b o,s.heap.get? b=some o->(((s.heap.push (seqObj "list" #[] 0)).update s.heap.objs.size (Obj.mapSeq (·++vs.toArray))).push (seqObj "list" vs.toArray 0)).get? b=some o:=λb o q=>by
  have c:b<s.heap.objs.size:=aR q
  rw[get?_push_ne _ _ _ (by rw[hsz];exact bx (fX c)),Heap.get?_update_ne _ _ _ _ (bx c),get?_push_ne _ _ _ (bx c)]
  exact q
 have ne:∀b o,s.heap.get? b=some o->b≠s.heap.objs.size+1:=λb o q=>bx (fX (aR q))
 show wpAny _ _ _ _ _ {s with heap:=((s.heap.push (seqObj "list" #[] 0)).update s.heap.objs.size (Obj.mapSeq (·++vs.toArray))).push (seqObj "list" vs.toArray 0)}
 rw[hsz]
 refine ah (eY (jj yp ⟨_,a,rfl⟩ yM ?body (yK _)))
 case body=>
  refine Sl (κ:=κ) (O:=O) (key:=key) (s:={s with heap:=((s.heap.push (seqObj "list" #[] 0)).update s.heap.objs.size (Obj.mapSeq (·++vs.toArray))).push (seqObj "list" vs.toArray 0)})
   a d (λs' k=>g s' λb o q=>k b o (ne b o q) (keep b o q)) (λs' k=>hc s' λb o q=>k b o (ne b o q) (keep b o q)) λp n r=>⟨_,rfl,aB ⟨_,rfl,?_⟩⟩
  obtain⟨e,t⟩:=yr (out:=(p.toList.map λi=>vs.getD i Value.none).toArray) a
  refine h p _ _ e n r (lW _) t λb o q=> ?_
  rw[yt (ne b o q) (aR (keep b o q))]
  exact keep b o q
theorem G9{b fin r:Bool}{Q:Bool->Shared->Prop}(q:Q r s):∀{zs:List (Value×Value)} {i:Nat},0<i->L2.jR .Lt A s fin r zs->KatLex prog w A b fin Q zs i s
 |[],i,hi,h=>by
  cases h with
  |nil e=>exact kat_nil (by rw[e];exact q)
 |(y,x)::zs,i,hi,h=>by
  refine kat_cons ?_;cases h with
  |eq h1 h2=>exact h1 prog w _ _ (kat_yes (G9 q (by omega) h2))
  |ne h1 h2=>
   refine h1 prog w _ _ (kat_no ?_);have e:(b&&i==0)=false:=by
    cases i with
    |zero=>omega
    |succ i=>simp
   rw[e];exact kat_one _ _ (h2 prog w _ _ q)
theorem RU{x y:Value}{a c:Str}{xs ys:List PyData}{as bs:List Addr}{r:Bool}{Q:Bool->Shared->Prop}(e:L2.ltQ (.tuple (.str a::xs)) (.tuple (.str c::ys))=some r)(t:Reads s.heap x (.tuple (.str a::xs)) as)(u:Reads s.heap y (.tuple (.str c::ys)) bs)
  (v:canLay0 (.tuple (.str a::xs))=true)(z:canLay0 (.tuple (.str c::ys))=true)(j:A.units+min (depthAll (.str a::xs)) (depthAll (.str c::ys))<cLine)(q:Q r s):wpAny (model prog w) A (keyLt' (tuples' true) x y) Q E s:=by
 cases t with
 | @tuple l o vs n _ h h1 h2 B k=>
  cases u with
  | @tuple l' o' b n' _ i k1 k2 k3 m=>
   refine kat_lt h1 B k1 k3 ?_;rw[L2.ltQ] at e;have hsz:decide (vs.size<b.size)=decide (vs.toList.length<b.toList.length):=by simp
   rw[hsz];generalize vs.toList=F at k ⊢;generalize b.toList=C at m ⊢;have d:canLay0 (.str a)=true/\canLayAll0 xs=true:=by simpa[canLay0,canLayAll0] using v
   have f:canLay0 (.str c)=true/\canLayAll0 ys=true:=by simpa[canLay0,canLayAll0] using z
   cases k with
   |cons a1 a2=>
    cases m with
    |cons p D=>
     have g:=SeqAt.eqAt_reads (.str a) (.str c) A s _ _ _ _ a1 p d.1 f.1 (SeqAt.room_head j);cases a1;cases p;rw[List.zip_cons_cons,L2.G7];refine kat_cons ?_;rw[L2.gG] at e;cases ce:PyData.eqv (.str a) (.str c) with
     |true=>
      rw[ce] at e g;exact g prog w _ _ (kat_yes (G9 q (by omega) (L2.AR xs ys A s _ _ _ _ r e a2 D d.2 f.2 (SeqAt.room_tail j))))
     |false=>
      rw[ce] at e g;refine g prog w _ _ (kat_no (oneLt_str ?_));have e:L2.ltQ (.str a) (.str c)=some r:=e;rw[L2.ltQ] at e;cases e;exact q
end
end KP
section
open PySem PySem.Spec PyProof.Rows
namespace L2
open PySem.SeqAt
theorem NJ{xs ys:List PyData}{u:Nat}(h1:(PyData.tuple xs).depth<=60)(a:u+64<cLine):u+2+min (depthAll xs) (depthAll ys)<cLine:=by
 have e:(PyData.tuple xs).depth=depthAll xs+1:=rfl;omega
theorem kat_tups{h:Heap}:∀{vs:List Value} {qs:List PyData},vs.length=qs.length->(∀(i:Nat) v q,vs[i]?=some v->qs[i]?=some q->∃as x r,Reads h v q as/\q=.tuple (.str x::r))->∃fs:List Value,fs.length=vs.length/\PySem.W.KatTups h vs fs/\∀v∈fs,∃x t,v=Value.str x t
 |[],[],_,_=>⟨[],rfl,.nil,λ_ h=>by cases h⟩
 |v::vs,q::qs,e,k=>by
  obtain⟨fs,h1,h2,c⟩:=kat_tups (vs:=vs) (qs:=qs) (by simpa using e) λi d f g j=>k (i+1) d f (by simpa using g) (by simpa using j);obtain⟨as,x,r,rd,rfl⟩:=k 0 v q rfl rfl;cases rd with
  | @tuple l o m n _ a p s u b=>
   generalize w:m.toList=ul at b;cases b with
   | @cons y vr _ _ _ _ a1 a2=>
    cases a1 with
    |str _ t=>
     refine⟨Value.str x t::fs,by simp[h1],.cons p s u ?_ h2,λv hv=>?_⟩
     .rw[<-qq,w];rfl
     .rcases aY.mp hv with rfl|hv
      .exact⟨x,t,rfl⟩
      .exact c v hv
section
variable{X:Cx}
theorem Ey(hc:X.calm=true)(hu:X.A.units+64<cLine):eS X (.builtin "sorted") (λxs H Q=>∃(a:Addr) (vs:List V) (qs:List PyData) (O:KeyOrd) (key:Nat->O.α),xs=[.ref a]/\aW X.K H a vs/\vs.length<64/\vs.length=qs.length/\
  (∀(i:Nat) v q,vs[i]? =some v->qs[i]? =some q->Dp X.K H v q/\q.canLay0=true/\q.depth<=60/\∃x r,q= .tuple (.str x::r))/\(∀(i j:Nat) p q,qs[i]? =some p->qs[j]? =some q->ltQ p q=some (O.blt (key i) (key j)))/\
  ∀(l:Addr) (p:Array Nat),H l=none->KO.Pm vs.length p->KO.Up O key p vs.length->Q (.ref l) (upd H l (.lst (p.toList.map λi=>vs.getD i .aG)))):=by
 intro pins s σ H xs us Q I r h
 obtain⟨a,vs,qs,O,key,rfl,hq,B,hl,hd,hk,q⟩:=h
 obtain⟨u,rfl,ru⟩:=vals1 r
 cases ru
 obtain⟨its,E,pl,hz⟩:=I.list hq
 have F:=E.length
 have rd:∀(i:Nat) u p,its[i]? =some u->qs[i]? =some p->∃as x r,Reads s.heap u p as/\p= .tuple (.str x::r)/\p.canLay0=true/\p.depth<=60:=λi u p k G=>by
  have hi:i<its.length:=(bY.mp k).1
  obtain⟨u',m,J⟩:=Vals.get E (a_ (show i<vs.length by omega))
  rw[k] at m
  cases m
  obtain⟨d1,d2,d3,x,r,d4⟩:=hd i _ p (a_ (show i<vs.length by omega)) G
  obtain⟨as,d5⟩:=Dp.reads I p _ u d1 J
  exact⟨as,x,r,d5,d4,d2,d3⟩
 refine KP.XO (κ:=tuples' true) (O:=O) (key:=key) (vs:=its) pl.isList (by omega) (λs' kp h2 R hR=> ?_) (λs' kp i j hi hj C hC=> ?_) λp h' D e L d hD ho kp=> ?_
 .obtain⟨fs,f1,f2,f3⟩:=kat_tups (h:=s'.heap) (vs:=its) (qs:=qs) (by omega) λi v q k G=>by
   obtain⟨as,x,r,n,M,_⟩:=rd i v q k G
   exact⟨as,x,r,PyProof.Rows.Reads.keeps kp n,M⟩
  refine PySem.W.kat_kind (T:=Value.type "str") f2 (by omega) (λv hv=> ?_) (by decide) hR
  obtain⟨x,t,rfl⟩:=f3 v hv
  exact PySem.W.Looks.of_pure rfl
 .have N:=a_ hi
  have P:=a_ hj
  have S:=a_ (show i<qs.length by omega)
  have U:=a_ (show j<qs.length by omega)
  obtain⟨as,x,r,n,M,Y,Z⟩:=rd i _ _ N S
  obtain⟨bs,y,t,k1,k2,k3,k4⟩:=rd j _ _ P U
  have c:=hk i j _ _ S U
  rw[M] at n Y Z c
  rw[k2] at k1 k3 c
  unfold PySem.W.kas_ask
  rw[fZ,fZ,N,P]
  exact KP.RU c (PyProof.Rows.Reads.keeps kp n) (PyProof.Rows.Reads.keeps kp k1) Y k3 (NJ Z hu) hC
 .have f:∀u,s.heap.get? D≠some u:=λu z=>absurd (cP (aR z) hD) (gw _)
  have hn:H D=none:=by
   cases e0:H D with
   |none=>rfl
   |some o=>
    obtain⟨u,z⟩:=(I.hok _ _ e0).obj
    exact absurd z (f u)
  rw[<-F] at L d
  refine⟨.ref D,upd H D (.lst (p.toList.map λi=>vs.getD i .aG)),?_,rfl,q D p hn L d⟩
  refine I.Ht (t':=s.toks) kp (lE.new hn _) λb o w=> ?_
  by_cases hb:b=D
  .subst hb
   rw[fC] at w
   cases w
   refine .inr ⟨f,?_⟩
   refine⟨by rw[aM,eN,L.size];exact iB (cP B (by decide)),p.toList.map λi=>its.getD i Value.none,e,?_,ho⟩
   generalize p.toList=g
   induction g with
   |nil=>exact .nil
   |cons i g ih=>
    refine .cons ?_ ih
    show RelV (vs.getD i .aG) (its.getD i Value.none)
    rw[fZ,fZ]
    by_cases hi:i<vs.length
    .obtain⟨u',m,J⟩:=Vals.get E (a_ hi)
     rw[a_ hi,m]
     exact J
    .rw[o7 (by omega),o7 (by omega)]
     rfl
  .rw[bf hb] at w
   exact .inl w
end
end L2
namespace DP
open L2
@[irreducible] def xS(r:Nat)(A:Ar)(R:DK):Prop:=match A[r]? with
 |some (.lst ds)=>ds.length<64/\(∀d∈ds,gn d=true/\(toQ d).canLay0=true/\(toQ d).depth<=60/\∃x r,toQ d=.tuple (.str x::r))/\
  ∃(O:KeyOrd) (key:D->O.α),(∀d∈ds,∀e∈ds,ltQ (toQ d) (toQ e)=some (O.blt (key d) (key e)))/\∀es:List D,es.Perm ds->es.Pairwise (λa b=>O.kle (key a) (key b))->R (.ref A.length) (A++[.lst es])
 |_=>False
def Ky:gM:=λvs A R=>match vs with
 |[.ref r]=>xS r A R
 |_=>False
theorem SM{α:Type}(d:α):∀(l:List α),(range l.length).map (λi=>l.getD i d)=l:=λl=>by
 apply List.ext_getElem
 .simp
 .intro i h1 h2
  simp[h2]
theorem E0{mg:aC}{K:Frag}:iE mg (λxs H Q=>∃(a:Addr) (vs:List V) (qs:List PyData) (O:KeyOrd) (key:Nat->O.α),xs=[.ref a]/\aW K H a vs/\vs.length<64/\vs.length=qs.length/\
  (∀(i:Nat) v q,vs[i]? =some v->qs[i]? =some q->Dp K H v q/\q.canLay0=true/\q.depth<=60/\∃x r,q= .tuple (.str x::r))/\(∀(i j:Nat) p q,qs[i]? =some p->qs[j]? =some q->ltQ p q=some (O.blt (key i) (key j)))/\
  ∀(l:Addr) (p:Array Nat),H l=none->KO.Pm vs.length p->KO.Up O key p vs.length->Q (.ref l) (upd H l (.lst (p.toList.map λi=>vs.getD i .aG)))) Ky:=by
 intro ds A ι H T R Q ra rs h k
 unfold Ky at h
 split at h
 .obtain⟨_,_,rfl,⟨_,rfl⟩,rfl⟩:=rs
  unfold xS at h
  split at h
  .rename_i ds e
   obtain⟨E,hd,O,key,F,q⟩:=h
   obtain⟨xs,G,t⟩:=ra.lst e
   have z:=au.length t
   refine⟨_,xs,ds.map toQ,O,λi=>key (ds.getD i .aG),rfl,aW.of G,by omega,by simp[z],λi v p c b=> ?_,λi j p U c b=> ?_,λl p I n g=> ?_⟩
   .rw[cu] at b
    cases f:ds[i]? with
    |none=>rw[f] at b;cases b
    |some d=>
     rw[f] at b
     cases b
     obtain⟨J,o,u⟩:=au.get t f
     rw[c] at o
     cases o
     obtain⟨p1,p2,L,M⟩:=hd d (cU f)
     exact⟨RV.dp _ _ p1 u,p2,L,M⟩
   .rw[cu] at c b
    cases f:ds[i]? with
    |none=>rw[f] at c;cases c
    |some d=>
     cases s:ds[j]? with
     |none=>rw[s] at b;cases b
     |some d'=>
      rw[f] at c
      rw[s] at b
      cases c
      cases b
      show ltQ (toQ d) (toQ d')=some (O.blt (key (ds.getD i .aG)) (key (ds.getD j .aG)))
      rw[fZ,fZ,f,s]
      exact F d (cU f) d' (cU s)
   .rw[<-z] at n g
    have hz:=n.size
    have w:(p.toList.map λi=>ds.getD i .aG).Perm ds:=by
     have:=(Array.perm_iff_toList_perm.mp n).map λi=>ds.getD i D.aG
     rwa [SM] at this
    refine j6 k ra (ds:=p.toList.map λi=>ds.getD i .aG) ?_ (q _ w ?_) I
    .refine au.of_get (by simp) λi d v c b=> ?_
     rw[cu] at c b
     cases ep:p.toList[i]? with
     |none=>rw[ep] at c;cases c
     |some m=>
      rw[ep] at c b
      have N:m<ds.length:=by
       have:=(Array.perm_iff_toList_perm.mp n).mem_iff.mp (cU ep)
       simpa using this
      have B:=a_ N
      obtain⟨J,o,u⟩:=au.get t B
      have c:some (ds.getD m .aG)=some d:=c
      have b:some (xs.getD m .aG)=some v:=b
      rw[fZ,B] at c
      rw[fZ,o] at b
      cases c
      cases b
      exact u
    .rw[jI,ug]
     intro i j hi C y
     have:=g i j (iB y) (by simpa[hz] using C)
     unfold KO.kp at this
     have P:p.getD i 0=p.toList[i]:=by
      rw[iT,fc (by simpa using hi)]
      simp
     have S:p.getD j 0=p.toList[j]:=by
      rw[iT,fc (by simpa using C)]
      simp
     rw[P,S] at this
     exact this
  .exact h.elim
 .exact h.elim
theorem Kz{A:Ar}{r:Nat}{ds:List D}{R:DK}(O:KeyOrd)(key:D->O.α)(h:A[r]?=some (.lst ds))(c:ds.length<64)(hd:∀d∈ds,gn d=true/\(toQ d).canLay0=true/\(toQ d).depth<=60/\∃x r,toQ d=.tuple (.str x::r))
  (f:∀d∈ds,∀e∈ds,ltQ (toQ d) (toQ e)=some (O.blt (key d) (key e)))(k:∀es:List D,es.Perm ds->es.Pairwise (λa b=>O.kle (key a) (key b))->R (.ref A.length) (A++[.lst es])):xS r A R:=by
 unfold xS;simp only[h];exact⟨c,hd,O,key,f,k⟩
abbrev gu:KeyOrd:=strKind.toKeyOrd
theorem KG{a b:Str}(h:a.cps.toList=b.cps.toList):a=b:=by
 cases a;cases b;simp at h;simpa using Array.toList_inj.mp (by simpa using h)
section
variable{es:List Expr}{env:Env}{p:Pos}
theorem qe{c i}:starEach (.Constant c i p::es) env=(false,eval (.Constant c i p) env)::starEach es env:=rfl
end
end DP
namespace L2
abbrev TJ:=St->Hp->Str->(Str->Hp->Prop)->Prop
def PJ(X:Cx)(es:List Expr)(t:TJ):Prop:=∀(pins:aZ) (s:Shared) (σ:St) (H:Hp) (acc:Str) (Q:Str->Hp->Prop),Inv X pins σ H s->t σ H acc Q->
 Joins (model X.prog X.w) X.A X.xe (evalEach es X.env) acc (λout s'=>∃H',Inv X pins σ H' s'/\Q out H') s
def Ad:V->Option Str
 |.str y=>some y
 |.int i=>if i.natAbs.log2<1920 then some (Str.ofString (toString i)) else none
 |_=>none
section
variable{X:Cx}{es:List Expr}{t:TJ}{te:TE}{e:Expr}{p pos:Pos}
theorem uU(x y:Str):(x++y).length=x.length+y.length:=um
theorem Vb:PJ X [] (λσ H acc Q=>Q acc H):=λpins s σ H acc Q I h=>⟨H,I,h⟩
theorem Va{x:Str}{k:Nat}(h:PJ X es t):PJ X (.Constant (.str x) k p::es) (λσ H acc Q=>acc.length+x.length<=sizeLine/\t σ H (acc++x) Q):=λpins s σ H acc Q I q=>by
 show wpAny _ _ (eval (.Constant (.str x) k p) X.env) _ _ _;exact Calls.Constant_str ⟨x,_,rfl,by rw[uU];exact q.1,h pins _ σ H (acc++x) Q (I.tok _) q.2⟩
theorem Vc(j:PE X e te)(h:PJ X es t):PJ X (.FormattedValue e (-1) none p::es) (λσ H acc Q=>te σ H λv H1=>∃y,Ad v=some y/\y.length<=sizeLine/\acc.length+y.length<=sizeLine/\t σ H1 (acc++y) Q):=λpins s σ H acc Q I q=>by
 show wpAny _ _ (eval (.FormattedValue e (-1) none p) X.env) _ _ _;refine wpAny_FormattedValue_plain (aK (j pins s σ H _ I q) λu l ⟨v,H1,b,f,y,a,k,c,d⟩=>?_);cases v with
 |str z=>
  cases (show some z=some y from a);obtain⟨g,rfl⟩:=f;refine wpAny_formatField_str ?_ ?_ k
  .exact⟨_,g,rfl,by rw[uU];exact c,h pins _ σ H1 _ Q b d⟩
  .exact⟨_,_,rfl,by rw[uU];exact c,h pins _ σ H1 _ Q (b.tok _) d⟩
 |int i=>
  obtain⟨g,rfl⟩:=f;unfold Ad at a;simp only at a;split at a
  .rename_i hi
   cases a;refine wpAny_formatField_int hi ?_;exact⟨_,_,rfl,by rw[uU];exact c,h pins _ σ H1 _ Q ((b.tok _).tok _) d⟩
  .cases a
 |_=>cases a
theorem UM{d v2:Expr}{rest:List Expr}(h:PJ X (d::v2::rest) t):PE X (.JoinedStr (d::v2::rest) pos) (λσ H Q=>t σ H Str.empty λout H'=>out.length<=sizeLine/\Q (.str out) H'):=λpins s σ H Q I q=>by
 refine wpAny_JoinedStr (a (h pins s σ H _ _ I q) ?_);rintro out s' ⟨H',f,c,g⟩;exact⟨c,.str out,H',f.tok _,⟨_,rfl⟩,g⟩
where
 a {M:Model} {A:Around} {E:aT}:∀{ps:List (Sem Value)} {acc:Str} {Q b:Str->Shared->Prop} {s:Shared},Joins M A E ps acc Q s->(∀o s',Q o s'->b o s')->Joins M A E ps acc b s
  |[],acc,Q,b,s,h,k=>k _ _ h
  |x::ps,acc,Q,b,s,h,k=>k9 h (λv i ⟨y,t,e,c,r⟩=>⟨y,t,e,c,a r k⟩) λ_ _ z=>z
end
end L2
namespace DP
open L2
abbrev mD:=bO->Ar->Str->(Str->Ar->Prop)->Prop
def qp(mg:aC)(N:En)(m:mD):TJ:=λσ H acc Q=>∃A ι τ R,dN mg N A ι τ σ H/\m τ A acc R/\∀out A' ι' H',R out A'->Ext A ι H A' ι' H'->RA mg ι' H' A'->Q out H'
def nV:D->Option Str
 |.str y=>some y
 |.int i=>if i.natAbs.log2<1920 then some (Str.ofString (toString i)) else none
 |_=>none
def M3:mD:=λ_ A acc R=>R acc A
def M1(x:Str)(m:mD):mD:=λτ A acc R=>acc.length+x.length<=sizeLine/\m τ A (acc++x) R
def M5(me:aP)(m:mD):mD:=λτ A acc R=>me τ A λv A1=>match nV v with
 |some y=>y.length<=sizeLine/\acc.length+y.length<=sizeLine/\m τ A1 (acc++y) R
 |none=>False
def M4(m:mD):aP:=λτ A R=>m τ A Str.empty λout A1=>out.length<=sizeLine/\R (.str out) A1
section
variable{X:Cx}{N:En}{es:List Expr}{m:mD}{me:aP}{e:Expr}{p pos:Pos}
theorem PJ.w{t t':TJ}(h:PJ X es t)(w:∀σ H acc Q,t' σ H acc Q->t σ H acc Q):PJ X es t':=λpins s σ H acc Q I q=>h pins s σ H acc Q I (w σ H acc Q q)
theorem NR:PJ X [] (qp X.mg N M3):=PJ.w Vb λσ H acc Q q=>by
 obtain⟨A,ι,τ,R,S,q,k⟩:=q;exact k acc A ι H q S.ra.refl S.ra
theorem Fo{x:Str}{k:Nat}(h:PJ X es (qp X.mg N m)):PJ X (.Constant (.str x) k p::es) (qp X.mg N (M1 x m)):=PJ.w (Va h) λσ H acc Q q=>by
 obtain⟨A,ι,τ,R,S,q,k⟩:=q;exact⟨q.1,A,ι,τ,R,S,q.2,k⟩
theorem NS(l:PE X e (up X.mg N me))(h:PJ X es (qp X.mg N m)):PJ X (.FormattedValue e (-1) none p::es) (qp X.mg N (M5 me m)):=PJ.w (Vc l h) λσ H acc Q q=>by
 obtain⟨A,ι,τ,R,S,q,k⟩:=q;refine⟨A,ι,τ,_,S,q,λv b c H1 u a g n j=>?_⟩;have ev:Ad u=nV v\/nV v=none:=by
  cases v with
  |str y=>cases j;exact .inl rfl
  |int i=>cases j;exact .inl rfl
  |_=>exact .inr rfl
 rcases ev with ev|ev
 .cases d:nV v with
  |none=>
   have a:(match nV v with|some y=>y.length<=sizeLine/\acc.length+y.length<=sizeLine/\m τ b (acc++y) R|none=>False):=a;rw[d] at a;exact a.elim
  |some y=>
   have a:(match nV v with|some y=>y.length<=sizeLine/\acc.length+y.length<=sizeLine/\m τ b (acc++y) R|none=>False):=a;rw[d] at a;exact⟨y,ev.trans d,a.1,a.2.1,b,c,τ,R,S.next g n,a.2.2,λout o f H2 r s t=>k out o f H2 r (g.trans s) t⟩
 .have a:(match nV v with|some y=>y.length<=sizeLine/\acc.length+y.length<=sizeLine/\m τ b (acc++y) R|none=>False):=a
  rw[ev] at a;exact a.elim
theorem Nz{a v2:Expr}{rest:List Expr}(h:PJ X (a::v2::rest) (qp X.mg N m)):PE X (.JoinedStr (a::v2::rest) pos) (up X.mg N (M4 m)):=dP (UM h) λσ H Q q=>by
 obtain⟨A,ι,τ,R,S,q,k⟩:=q;refine⟨A,ι,τ,_,S,q,λout f c H1 b d e=>⟨b.1,(k.from d).here e b.2 rfl⟩⟩
def IX(i:Nat)(m:aP):dM:=λR τ A=>match lk τ i with
 |some (.int a)=>m τ A λy A1=>match y with
  |.int b=>R.nx (τ.set i (some (.int (a+b)))) A1
  |_=>False
 |_=>False
theorem NU{i:Nat}{x:Str}{pos':Pos}(h:X.N.Nodup)(hi:X.N[i]?=some x)(j:Loc X.env.scope x)(l:PE X e (up X.mg N me))(m:X.fn x=true\/X.env.scope.names.lookup x=some .local:=by first|exact .inl rfl|exact .inr rfl|assumption):
  PS X (.AugAssign (.Name x pos') .Add e pos) (dB X.mg N (IX i me)):=iZ (Vt h hi j l Rn m) λQ σ H q=>by
 obtain⟨A,ι,τ,R,S,q,k⟩:=q;unfold IX at q;cases c:lk τ i with
 |none=>rw[c] at q;exact q.elim
 |some d=>
  rw[c] at q;cases d with
  |int a=>
   obtain⟨v,h1,h2⟩:=S.rs.at' i _ c;cases h2;refine⟨.int a,h1,A,ι,τ,_,S,q,λy r n H1 u f g o p=>?_⟩;cases y with
   |int b=>
    cases p;exact⟨a,b,rfl,rfl,(k.nx.from g).here ((S.next g o).set (d:=.int (a+b)) (v:=.int (a+b)) rfl) f⟩
   |_=>exact f.elim
  |_=>exact q.elim
end
end DP
namespace L2
theorem boot_reversed:bootBuiltins "reversed"=some (.type "reversed"):=by decide+kernel
def yX(K:Frag)(a:Addr)(n:Nat):It:=
 ⟨λi H=>∃xs,aW K H a xs/\xs.length=n/\i<n,λi H x H'=>H'=H/\∀xs,aW K H a xs->xs[n - 1 - i]?=some x,λi H=>n<=i⟩
theorem YX{P:Program}{w:World}{K:Frag}{tg:Expr}(a it:Addr)(n:Nat):Turn P w K tg (yX K a n) [it] it (λi h=>PySem.Heap.IsRevIter h it a ((n:Int) - 1 - i)/\i<=n) where
 mem:=by simp
 obj:=λi h st b g=>by
  have e:b=it:=by simpa using g
  subst e
  obtain⟨⟨o,e,c,d⟩,_⟩:=st
  exact⟨o,e,λv z=>by rw[d] at z;cases z⟩
 keep:=λi h h' st k=>⟨st.1.at λo e=>k it (by simp) o e,st.2⟩
 item:=by
  intro X q r t hc i pins s σ H E I l st m
  subst q r t
  obtain⟨xs,C,S,hi⟩:=m
  obtain⟨its,F,p,hz⟩:=I.list C
  have D:xs[n - 1 - i]? =some (xs[n - 1 - i]'(by omega)):=a_ (by omega)
  obtain⟨u,G,J⟩:=F.get D
  obtain⟨f0,f1,f2,y,f4,A⟩:=l it (by simp)
  have B:(n:Int) - 1 - i=((n - 1 - i:Nat):Int):=by omega
  have f:=st.1
  rw[B] at f
  refine PySem.wpAny_pyNext_rev_item f p.isList (x:=u) (by simpa using G) λh' j L=> ?_
  have M:Inv X pins σ H {s with heap:=h'}:=I.turned (t':=s.toks) (λb o g e=>(L.2 b g).trans e) f0 f1 y f4 A
  obtain⟨o,e,c,d⟩:=id j
  refine⟨u,rfl,r_ (s:={s with heap:=h'}) e c d (by decide) ⟨_,H,M,J,⟨rfl,λys N=>by rw[I.AS N C];exact D⟩,⟨?_,by omega⟩,λb g=>(l b g).1⟩⟩
  have O:(n:Int) - 1 - ((i+1:Nat):Int)=((n - 1 - i:Nat):Int) - 1:=by omega
  rw[O]
  exact j
 done:=by
  intro X q r t hc i pins s σ H E I l st m
  subst q r t
  have m:n<=i:=m
  obtain⟨f0,f1,f2,y,f4,A⟩:=l it (by simp)
  obtain⟨f,Q⟩:=st
  have B:(n:Int) - 1 - i= -1:=by omega
  rw[B] at f
  exact PySem.wpAny_pyNext_rev_end (I.ok.hd hc) f λh' R=>⟨rfl,I.turned (t':=s.toks) (λb o g e=>R b o g e) f0 f1 y f4 A⟩
 self:=λ_ _ _ _ _ st h=>PySem.wpAny_pyIter_revIter st.1 h
section
variable{X:Cx}
def Q7(K:Frag)(ta:TA):TI:=λσ H R=>ta σ H λvs H1=>∃a xs,vs=[.ref a]/\aW K H1 a xs/\R (yX K a xs.length) H1
theorem U7{tg l:Expr}{ta:TA}{p pos:Pos}(f:Gl X "reversed")(g:X.mg "reversed"=none)(i:PA X [l] ta)(j:starEach [l] X.env=[(false,eval l X.env)]:=by rfl):
  PI X tg (.Call (.Name "reversed" p) [l] [] pos) (Q7 X.K ta):=by
 intro pins s σ H R I h;refine Call_ (jA I f g boot_reversed (nj (aK (i pos pins s σ H _ I h) λw c ⟨vs,H1,d,k,m⟩=>?_) j rfl));obtain⟨a,xs,e,n,q⟩:=m;subst e;obtain⟨u,rfl,r⟩:=vals1 k;cases r;obtain⟨its,t,pl,hz⟩:=d.list n;have x:=t.length;refine PySem.call_reversed_list pl.isList ?_;have st:PySem.Heap.IsRevIter (c.heap.push (PySem.revObj a ((its.toArray.size:Int) - 1))) c.heap.objs.size a ((xs.length:Int) - 1 - (0:Nat)):=by
  refine⟨_,b9 _ rfl,rfl,?_⟩;have e:((its.toArray.size:Int) - 1)=((xs.length:Int) - 1 - (0:Nat)):=by simp;omega
  rw[<-e];rfl
 refine PySem.wpAny_pyIter_revIter st ⟨c.heap.objs.size,[c.heap.objs.size],_,_,H1,rfl,d.kept (t':=c.toks) λb o e=>bg _ e,YX a _ _,⟨st,bP _⟩,λb v=>?_,q⟩;have e:b=c.heap.objs.size:=by simpa using v
 subst e;exact d.mU (aF _) (d.hok.fresh (aF _))
end
end L2
namespace DP
open L2
section
variable{mg:aC}{K:Frag}{A:Ar}{ι:Io}{H:Hp}
def iK(ds:List D):List D:=ds.zipIdx.map λp=>D.tup [.int ((p.2:Nat):Int),p.1]
theorem Ob{ds:List D}{i:Nat}{d:D}(h:(iK ds)[i]?=some d):∃x,ds[i]?=some x/\d=.tup [.int ((i:Nat):Int),x]:=by
 unfold iK at h;rw[cu,CF] at h;cases e:ds[i]? with
 |none=>rw[e] at h;cases h
 |some x=>
  rw[e] at h;simp at h;exact⟨x,rfl,h.symm⟩
theorem Rz{q:Nat}{ds:List D}(f:q<A.length):lD mg A ι H (yT K (ι q)) (iK ds) (λA'=>A'[q]?=some (.lst ds)) where
 go:=λi d c a H1 hd e r hc=>by
  obtain⟨xs,h1,h2⟩:=r.lst hc;rw[e.ag q f] at h1;obtain⟨x,j,rfl⟩:=Ob hd;obtain⟨v,g,k⟩:=au.get h2 j;refine⟨⟨xs,v,aW.of h1,g⟩,λy H' z=>?_⟩;obtain⟨p,m,h,rfl,rfl,l⟩:=z;have:=l xs (aW.of h1);rw[g] at this;cases this;have E:Ext c a H1 c a (upd H1 p (.tup [.int (i:Nat),v])):=r.vC h;exact⟨E,r.fix E λb o z=>by rw[bf (dw z h)];exact z,p,[.int (i:Nat),v],rfl,fC,_,_,rfl,rfl,_,_,rfl,RV.ext E _ _ k,rfl⟩
 stop:=λc a H1 e r hc=>by
  obtain⟨xs,h1,h2⟩:=r.lst hc;rw[e.ag q f] at h1;exact⟨xs,aW.of h1,by rw[<-au.length h2];simp[iK]⟩
theorem RG{q:Nat}{ds:List D}{n:Nat}(b:n=ds.length)(c:q<A.length):lD mg A ι H (yX K (ι q) n) ds.reverse (λA'=>A'[q]?=some (.lst ds)) where
 go:=λi d f a H1 hd e r hc=>by
  obtain⟨xs,h1,h2⟩:=r.lst hc;rw[e.ag q c] at h1;have j:=au.length h2;have hi:=(bY.mp hd).1;rw[List.length_reverse] at hi;rw[List.getElem?_reverse hi] at hd;obtain⟨v,g,h⟩:=au.get h2 hd;refine⟨⟨xs,aW.of h1,by omega,by omega⟩,λx H' y=>?_⟩;obtain⟨rfl,y⟩:=y;have:=y xs (aW.of h1);rw[b,g] at this;cases this;exact⟨r.refl,r,h⟩
 stop:=λf a H1 e r hc=>by
  show n<=ds.reverse.length;rw[List.length_reverse];omega
end
@[irreducible] def mW(f:List D->List D)(r:Nat)(A:Ar)(R:List D->(Ar->Prop)->Ar->Prop):Prop:=match A[r]? with
 |some (.lst ds)=>R (f ds) (λA'=>A'[r]?=some (.lst ds)) A
 |_=>False
theorem AH{f:List D->List D}{r:Nat}{A:Ar}{ds:List D}{R:List D->(Ar->Prop)->Ar->Prop}(h:A[r]?=some (.lst ds))(k:R (f ds) (λA'=>A'[r]?=some (.lst ds)) A):mW f r A R:=by
 unfold mW;rw[h];exact k
def Q3(n:dD):jo:=λτ A R=>n τ A λvs A1=>match vs with
 |[.ref r]=>mW iK r A1 R
 |_=>False
def Q9(n:dD):jo:=λτ A R=>n τ A λvs A1=>match vs with
 |[.ref r]=>mW List.reverse r A1 R
 |_=>False
section
variable{X:Cx}{N:En}{tg l:Expr}{n:dD}{p pos:Pos}
theorem Fj{elts:List Expr}{k:Nat}{tpos:Pos}(g:X.mg "enumerate"=none)(h:PA X [l] (fW X.mg N n))(i:Gl X "enumerate":=by rfl)(j:starEach [l] X.env=[(false,eval l X.env)]:=by rfl):PI X (.Tuple elts k tpos) (.Call (.Name "enumerate" p) [l] [] pos) (jG X.mg N (Q3 n)):=pL (U4 i g h boot_enumerate j) λσ H Q q=>by
 obtain⟨A,ι,τ,R,S,q,k⟩:=q;refine⟨A,ι,τ,_,S,q,λvs d b H1 s a m f c=>?_⟩;match vs,a,c with
 |[.ref r],a,c=>
  obtain⟨_,_,rfl,⟨o,rfl⟩,rfl⟩:=c;have a:mW iK r d R:=a;unfold mW at a;split at a
  .rename_i ds e
   obtain⟨xs,h1,h2⟩:=f.lst e;exact⟨_,xs,rfl,aW.of h1,k _ _ d b H1 _ a m f (Rz o)⟩
  .exact a.elim
theorem NL(g:X.mg "reversed"=none)(h:PA X [l] (fW X.mg N n))(i:Gl X "reversed":=by rfl)(j:starEach [l] X.env=[(false,eval l X.env)]:=by rfl):PI X tg (.Call (.Name "reversed" p) [l] [] pos) (jG X.mg N (Q9 n)):=pL (U7 i g h j) λσ H Q q=>by
 obtain⟨A,ι,τ,R,S,q,k⟩:=q;refine⟨A,ι,τ,_,S,q,λvs d b H1 s a m f c=>?_⟩;match vs,a,c with
 |[.ref r],a,c=>
  obtain⟨_,_,rfl,⟨o,rfl⟩,rfl⟩:=c;have a:mW List.reverse r d R:=a;unfold mW at a;split at a
  .rename_i ds e
   obtain⟨xs,h1,h2⟩:=f.lst e;exact⟨_,xs,rfl,aW.of h1,k _ _ d b H1 _ a m f (RG (au.length h2).symm o)⟩
  .exact a.elim
end
end DP
namespace L2
section
variable{X:Cx}
def IF:V->List V->Hp->VK->Prop:=λx vs H Q=>∃d o kvs more,x=.ref d/\vs=[.ref o]/\d≠o/\H d=some (.dK kvs)/\H o=some (.dK more)/\kvs.length+more.length<=1000/\Q .aG (upd H d (.dK (kP kvs more)))
theorem Hy:yY X "dict.update" IF:=by
 intro pins s σ H x vs v y Q I i j h;obtain⟨d,o,kvs,a,rfl,rfl,b,hd,k,hz,q⟩:=h;cases i;obtain⟨u,rfl,l⟩:=j.one;cases l;obtain⟨z,m,c,k1,dd⟩:=vp I.hok hd;obtain⟨A,n,e,k2,f⟩:=vp I.hok k;have g:(1000:Nat)<=sizeLine:=by decide
 have l1:=k1.length;have l2:=k2.length;have lm:=AO a kvs;refine call_meetsIn slot_dict_update (dd.typeIs) PySem.F.entry_dict_update (PySem.F.args_dict_update_2 _ _) (PySem.meets_dict_update (dj X.prog X.w) d o b n) ?_;refine⟨c,e,dd,f,by omega,λh' h1 h2 p=>?_⟩;have r:∃q,h'.get? d=some q:=let ⟨q,_,_,t,_⟩:=h1;⟨q,t⟩;exact⟨.aG,_,vc I (by rw[hd];exact True.intro) p r (z0 (by omega) m (k2.merge k1) h1),rfl,q⟩
theorem CmpOf.X7{prog:Program}{w:World}{A:Around}{P:Nat->Value->Prop}(val:Nat->Str)(a:∀i v,P i v->∃t,v=.str (val i) t):
  CmpOf prog w A .Lt P (λi j=>decide ((val i).cps.toList<(val j).cps.toList)):=λi j b c s Q E hi d h=>by
 obtain⟨t,rfl⟩:=a i b hi;obtain⟨u,rfl⟩:=a j c d;exact PySem.P.lt_str h
theorem Eb(val:Nat->Str):∀k,argBest (λi j=>decide ((val i).cps.toList<(val j).cps.toList)) k<=k/\∀j,j<=k->¬(val j).cps.toList<(val (argBest (λi j=>decide ((val i).cps.toList<(val j).cps.toList)) k)).cps.toList
 |0=>⟨aF _,λj c=>by
  have:j=0:=by omega
  subst this;exact kg _⟩
 |k+1=>by
  obtain⟨h1,h2⟩:=Eb val k;have e:argBest (λi j=>decide ((val i).cps.toList<(val j).cps.toList)) (k+1)=if decide ((val (k+1)).cps.toList<(val (argBest (λi j=>decide ((val i).cps.toList<(val j).cps.toList)) k)).cps.toList)=true then k+1 else argBest (λi j=>decide ((val i).cps.toList<(val j).cps.toList)) k:=rfl
  rw[e];split
  .rename_i h
   rw[nF] at h;refine⟨aF _,λj c a=>?_⟩;by_cases b:j=k+1
   .subst b
    exact kg _ a
   .exact h2 j (by omega) (uy a h)
  .rename_i h
   rw[nF] at h;refine⟨by omega,λj c=>?_⟩;by_cases b:j=k+1
   .subst b
    exact h
   .exact h2 j (by omega)
theorem Mu(hc:X.calm=true):eS X (.builtin "min") (λxs H Q=>∃(d:Addr) (kvs:List (Key×V)) (ns:List Str),xs=[.ref d]/\Rd H d (.dK kvs)/\kvs.map (·.1)=ns.map Sum.inr/\ns≠[]/\∀m∈ns,(∀n∈ns,¬n.cps.toList<m.cps.toList)->Q (.str m) H):=by
 intro pins s σ H xs S Q I r h;obtain⟨d,kvs,ns,rfl,hd,C,p,q⟩:=h;obtain⟨u,rfl,E⟩:=vals1 r;cases E;have D:=ye.mpr p;obtain⟨hz,F,vs,rel,dd⟩:=nS I.hok hd;obtain⟨ep,a⟩:=dd.dictAt;have f:kvs.length=ns.length:=by
  have:=ck List.length C;simpa using this
 have G:vs.length=ns.length:=by rw[<-rel.length,f]
 have g:d<s.heap.objs.size:=by obtain⟨o,_,y,_⟩:=a;exact aR y
 have keys:∀i v,(∃k x,vs[i]?=some (k,x)/\(dj X.prog X.w).is k v=true)->∃t:Tok,v=.str (ns.getD i default) t:=λi v ⟨k,x,h1,h2⟩=>by
  have J:=rel.keys;have c:(vs.map (·.1))[i]?=some k:=by rw[cu,h1];rfl
  rw[<-J,C,cu] at c;cases e:ns[i]? with
  |none=>rw[e] at c;cases c
  |some n=>
   rw[e] at c;have c:k=Sum.inr n:=(Option.some.inj c).symm;subst c;rcases jz (show lQ (Sum.inr n) v=true from h2) with⟨_,_,z,_⟩|⟨T,t,z,K⟩
   .cases z
   .cases z
    refine⟨t,?_⟩;rw[fZ,e];exact K
 refine call_min_walk ?_;refine wpAny_pyIter_dict (knd:=dj X.prog X.w) F a ⟨s.heap.objs.size,_,_,_,_,_,_,rfl,Walks.dictKeys (knd:=dj X.prog X.w) (A:=X.A.in1) (I.ok.hd hc) s.heap.objs.size d (bx g) vs ep,⟨⟨_,b9 _ rfl,rfl,rfl⟩,?_⟩,λb hb=>?_,by omega,CmpOf.X7 (λi=>ns.getD i default) keys,λv h' U L B=>?_⟩
 .obtain⟨o,es,y,r⟩:=a
  exact⟨o,es,bg _ y,r⟩
 .show b<(s.heap.push _).objs.size
  rw[qF];rcases aY.mp hb with e|hb
  .rw[e];exact k8 _
  .rw[bE.mp hb];exact fX g
 .obtain⟨t,rfl⟩:=keys _ v L
  obtain⟨W,M⟩:=Eb (λi=>ns.getD i default) (vs.length - 1);have hi:argBest (λi j=>decide ((ns.getD i default).cps.toList<(ns.getD j default).cps.toList)) (vs.length - 1)<ns.length:=by omega
  have l:ns.getD (argBest (λi j=>decide ((ns.getD i default).cps.toList<(ns.getD j default).cps.toList)) (vs.length - 1)) default∈ns:=by
   rw[fZ,a_ hi];exact jH hi
  have N:=q _ l λn O=>by
   obtain⟨j,P,e⟩:=iO O;have:=M j (by omega);rw[fZ,a_ P] at this;rw[<-e];exact this
  exact⟨.str _,H,I.kept λb o e=>B b o (λz=>by
   have R:b=s.heap.objs.size:=by simpa using z
   exact absurd (aR e) (by rw[R];exact gw _)) (bg _ e),⟨_,rfl⟩,N⟩
end
end L2
namespace DP
open L2
def MX(mk mv:aP):aP:=λτ A R=>mk τ A λk A1=>mv τ A1 λv A2=>match gm k with
 |some ky=>R (.ref A2.length) (A2++[.dct [(ky,v)]])
 |none=>False
theorem E5{X:Cx}{N:En}{pos:Pos}{k v:Expr}{mk F:aP}(T:PE X k (up X.mg N mk))(U:PE X v (up X.mg N F)):PE X (.Dict [some k] [v] pos) (up X.mg N (MX mk F)):=
 dP (UE (Vo T U Vp) rfl rfl (by simp) (show 1<=15 by decide)) λσ H Q q=>by
  obtain⟨A,ι,τ,R,S,q,V⟩:=q;intro p n;have G:=S.ra.vC (o:=.dK []) n;have I:dN X.mg N A ι τ σ (upd H p (.dK [])):=S.next G (S.ra.fix G λb o z=>by rw[bf (dw z n)];exact z);have off:∀r,r<A.length->ι r≠p:=λr g z=>by
   obtain⟨o,h1,_⟩:=S.ra.im r g;rw[z,n] at h1;cases h1
  refine⟨A,ι,τ,_,I,q,λJ W B H1 x Y K Z v1=>?_⟩;refine⟨W,B,τ,_,I.next K Z,Y,λw a i H2 y t e2 L v2=>?_⟩;have d:=K.trans e2;have M:H2 p=some (.dK []):=d.mo p _ fC off;have f:∀r,r<a.length->i r≠p:=λr g z=>by
   by_cases O:r<A.length
   .rw[d.ag r O] at z;exact off r O z
   .have:=d.nw r (by omega) g
    rw[z,fC] at this;cases this
  have t:(match gm J with|some l=>R (.ref a.length) (a++[.dct [(l,w)]])|none=>False):=t;cases D:gm J with
  |none=>rw[D] at t;exact t.elim
  |some l=>
  rw[D] at t;have ex:x=kV l:=n9 D v1;subst ex;refine⟨M,[(l,y)],rfl,show 1<=15 by decide,?_⟩;have em:kP [] [(l,y)]=[(l,y)]:=rfl;rw[em];obtain⟨j,e,at2⟩:∃j:Io,(∀r,r<a.length->j r=i r)/\j a.length=p:=⟨λr=>if r=a.length then p else i r,λr h=>by
   show(if r=a.length then p else i r)=i r;rw[ao (by omega)],by
   show(if a.length=a.length then p else i a.length)=p;rw[aA rfl]⟩
  have P:∀b o,jD o=false->H2 b=some o->upd H2 p (.dK [(l,y)]) b=some o:=λb o m z=>by
   rw[bf]
   .exact z
   .rintro rfl
    rw[M] at z;cases z;cases m
  refine V (.ref a.length) (a++[.dct [(l,w)]]) j _ _ t ⟨?_,λr h=>?_,S.ra.im,λb o h hn=>?_,λr h1 h2=>?_,λb o h=>?_⟩ ⟨λr c h=>?_,λr s g hs h=>?_⟩ ⟨by simp,by rw[at2]⟩
  .have:=d.len;simp;omega
  .rw[e r (cP h d.len)];exact d.ag r h
  .have u:b≠p:=dw h n
   rw[bf u];exact d.mo b o (by rw[bf u];exact h) hn
  .by_cases g:r<a.length
   .rw[e r g]
    have:=d.nw r h1 g;rw[bf (f r g)] at this;exact this
   .have:r=a.length:=by simp at h2;omega
    subst this;rw[at2];exact n
  .have u:b≠p:=dw h n
   obtain⟨o',h'⟩:=d.al b o (by rw[bf u];exact h);exact⟨o',by rw[bf u];exact h'⟩
  .by_cases g:r<a.length
   .rw[iC g] at h
    have:=CO.ag (n':=(a++[C.dct [(l,w)]]).length) (ι':=j) (H':=upd H2 p (.dK [(l,y)])) (by simp) e P (λo z=>by rw[bf (f r g)];exact z) c (L.iH r c h);rw[e r g];exact this
   .have E:r=a.length:=by
     have:=(bY.mp h).1;simp at this;omega
    subst E;simp at h;subst h;rw[at2];exact⟨_,fC,y,[],rfl,RV.ag (by simp) e P w y v2,rfl⟩
  .simp at g hs
   by_cases h1:r=a.length
   .by_cases h2:s=a.length
    .rw[h1,h2]
    .subst h1
     rw[at2,e s (by omega)] at h;exact absurd h.symm (f s (by omega))
   .by_cases h2:s=a.length
    .subst h2
     rw[at2,e r (by omega)] at h;exact absurd h (f r (by omega))
    .rw[e r (by omega),e s (by omega)] at h
     exact L.inj r s (by omega) (by omega) h
def vN(A:Ar):D->Bool
 |.ref r=>match A[r]? with
  |some (.dct _)=>true
  |_=>false
 |_=>false
def ES(f:mC)(mo:aP)(m:dD):aP:=λτ A R=>mo τ A λx A1=>vN A1 x=true/\m τ A1 λvs A2=>f x vs A2 R
theorem GJ{A:Ar}{r:Nat}{kvs:List (Key×D)}(h:A[r]?=some (.dct kvs)):vN A (.ref r)=true:=by unfold vN;simp only[h]
section
variable{X:Cx}{N:En}{e o:Expr}{es:List Expr}{mo:aP}{m:dD}{apos cpos:Pos}{f:mC}{r:V->List V->Hp->VK->Prop}{name:Str}{id:String}
theorem E7(w:PlainAttrs "dict")(slot:Slot "dict" name id)(h:typeOf (.builtin id)=pure (.type "method_descriptor"))(y:yZ X id r)(hd:rj X.mg X.K "dict" r f)(z:PE X o (up X.mg N mo))(B:PA X (e::es) (fW X.mg N m))
  (b:attributeBase o name X.env (eval o X.env)=eval o X.env:=by rfl)
  (d:((backTo cpos (starEach (e::es) X.env)).all (λx=> !x.1)&&(backToKw cpos (keywordEach [] X.env)).all (λx=>x.1.isSome)
   &&decide ((e::es).length+([]:List Keyword).length+(if ([]:List Keyword).isEmpty then 0 else 1)<30))=true:=by rfl)
  (c:(apos.endLine==cpos.line)=true:=by rfl)(C:starEach (e::es) X.env=(false,eval e X.env)::starEach es X.env:=by rfl)(a:(backTo cpos (starEach es X.env)).any (·.1)=false:=by rfl):
  PE X (.Call (.Attribute o name apos) (e::es) [] cpos) (up X.mg N (ES f mo m)):=dP (H9 w slot h y z B b d c C a) λσ H Q q=>by
 obtain⟨A,ι,τ,R,S,q,k⟩:=q
 refine⟨A,ι,τ,_,S,q,λx D i H1 u j p s t=> ?_⟩
 obtain⟨g,j⟩:=j
 refine⟨?_,D,i,τ,_,S.next p s,j,λys E l H2 n F v G v2=> ?_⟩
 .cases x with
  |ref q=>
   obtain⟨_,rfl⟩:=t
   unfold vN at g
   simp only at g
   split at g
   .rename_i kvs I
    obtain⟨n,h1,_⟩:=s.dct I
    exact .inr (.inr (.inl ⟨rfl,.inl ⟨n,h1⟩⟩))
   .cases g
  |_=>cases g
 .exact hd x ys E l H2 _ n R Q G (RV.ext v x u t) v2 F (k.from (p.trans v))
end
def kQ(kvs more:List (Key×D)):List (Key×D):=more.foldl (λacc p=>b5 acc p.1 p.2) kvs
@[irreducible] def yb(r q:Nat)(A:Ar)(R:DK):Prop:=match A[r]?,A[q]? with
 |some (.dct kvs),some (.dct more)=>r≠q/\kvs.length+more.length<=1000/\R .aG (A.set r (.dct (kQ kvs more)))
 |_,_=>False
theorem K2{A:Ar}{r q:Nat}{kvs a:List (Key×D)}{R:DK}(h1:A[r]?=some (.dct kvs))(h2:A[q]?=some (.dct a))(b:r≠q)(hz:kvs.length+a.length<=1000)(k:R .aG (A.set r (.dct (kQ kvs a)))):yb r q A R:=by
 unfold yb;simp only[h1,h2];exact⟨b,hz,k⟩
def Cj:mC:=λx vs A R=>match x,vs with
 |.ref r,[.ref q]=>yb r q A R
 |_,_=>False
theorem E1{mg:aC}{K:Frag}:rj mg K "dict" IF Cj:=by
 intro x ds A ι H u s R Q ra j rs h k;unfold Cj at h;split at h
 .rename_i r q
  obtain⟨e,rfl⟩:=j;obtain⟨_,_,rfl,⟨l,rfl⟩,rfl⟩:=rs;unfold yb at h;split at h
  .rename_i kvs a f m
   obtain⟨b,hz,h⟩:=h;obtain⟨xs,h1,g⟩:=ra.dct f;obtain⟨ys,h2,i⟩:=ra.dct m;have l1:=RK.length g;have l2:=RK.length i;refine⟨_,_,xs,ys,rfl,rfl,λz=>b (ra.inj r q e l z),h1,h2,by omega,?_⟩;have E:=ra.nU (o:=.dK (kP xs ys)) (c:=.dct (kQ kvs a)) e;have n:RK mg ι A.length H (kQ kvs a) (kP xs ys):=RK.fold i g;obtain⟨d,p⟩:=ra.put (c':=.dct (kQ kvs a)) (o:=.dK (kP xs ys)) f h1 rfl ⟨_,fC,by simpa using RK.ext E _ _ n⟩;exact k _ _ ι _ _ h p d rfl
  .exact h.elim
 .exact h.elim
@[irreducible] def v7(r:Nat)(A:Ar)(R:DK):Prop:=∃(kvs:List (Key×D)) (ns:List Str),(A[r]?=some (.dct kvs)\/∃o,A[r]?=some (.bz o kvs))/\kvs.map (·.1)=ns.map Sum.inr/\ns≠[]/\∀m∈ns,(∀n∈ns,¬n.cps.toList<m.cps.toList)->R (.str m) A
def Hv:gM:=λvs A R=>match vs with
 |[.ref r]=>v7 r A R
 |_=>False
theorem SN{A:Ar}{r:Nat}{kvs:List (Key×D)}{ns:List Str}{R:DK}(h:A[r]?=some (.dct kvs)\/∃o,A[r]?=some (.bz o kvs))(b:kvs.map (·.1)=ns.map Sum.inr)(a:ns≠[])(k:∀m∈ns,(∀n∈ns,¬n.cps.toList<m.cps.toList)->R (.str m) A):v7 r A R:=by
 unfold v7;exact⟨kvs,ns,h,b,a,k⟩
theorem Nl{mg:aC}:iE mg (λxs H Q=>∃(d:Addr) (kvs:List (Key×V)) (ns:List Str),xs=[.ref d]/\Rd H d (.dK kvs)/\kvs.map (·.1)=ns.map Sum.inr/\ns≠[]/\∀m∈ns,(∀n∈ns,¬n.cps.toList<m.cps.toList)->Q (.str m) H) Hv:=by
 intro ds A ι H i R Q ra rs h k;unfold Hv at h;split at h
 .obtain⟨_,_,rfl,⟨_,rfl⟩,rfl⟩:=rs
  unfold v7 at h;obtain⟨kvs,ns,h1,h2,f,g⟩:=h;rcases h1 with h1|⟨o,h1⟩
  .obtain⟨xs,b,c⟩:=ra.dct h1
   exact⟨_,xs,ns,rfl,.inl b,by rw[RK.pR c];exact h2,f,λm e a=>k.here ra (g m e a) rfl⟩
  .obtain⟨xs,b,c⟩:=ra.bz h1
   exact⟨_,xs,ns,rfl,.inr ⟨o,b⟩,by rw[RK.pR c];exact h2,f,λm e a=>k.here ra (g m e a) rfl⟩
 .exact h.elim
@[irreducible] def vJ(neg:Bool)(x:D)(r:Nat)(A:Ar)(R:DK):Prop:=∃(kvs:List (Key×D)) (k:Key),(A[r]?=some (.dct kvs)\/∃o,A[r]?=some (.bz o kvs))/\gm x=some k/\R (.bl (if neg then !(bw kvs k).isSome else (bw kvs k).isSome)) A
def vI(neg:Bool):fG:=λx y A R=>match y with
 |.ref r=>vJ neg x r A R
 |_=>False
theorem GG{neg:Bool}{x:D}{r:Nat}{A:Ar}{R:DK}{kvs:List (Key×D)}{k:Key}(h:A[r]?=some (.dct kvs)\/∃o,A[r]?=some (.bz o kvs))(a:gm x=some k)(q:R (.bl (if neg then !(bw kvs k).isSome else (bw kvs k).isSome)) A):vJ neg x r A R:=by
 unfold vJ;exact⟨kvs,k,h,a,q⟩
theorem EV{mg:aC}(neg:Bool):fh mg (tF neg) (vI neg):=by
 intro x y A ι H u v R Q ra g i h k;unfold vI at h;split at h
 .rename_i f
  obtain⟨_,rfl⟩:=i;unfold vJ at h;obtain⟨kvs,b,h1,j,h2⟩:=h;have ex:=n9 j g;subst ex;have fin:∀a,RK mg ι A.length H kvs a->Rd H (ι f) (.dK a)->tF neg (kV b) (.ref (ι f)) H Q:=λa c l=>by
   obtain⟨m,n⟩:=RK.get (k:=b) c;refine⟨_,fM a b,rfl,.inl ⟨a,b,l,rfl,rfl⟩,?_⟩;have p:(fM a b).isSome=(bw kvs b).isSome:=by
    cases q:bw kvs b with
    |none=>rw[n q];rfl
    |some d=>obtain⟨z,hz,_⟩:=m d q;rw[hz];rfl
   rw[p];exact k.here ra h2 rfl
  rcases h1 with h1|⟨o,h1⟩
  .obtain⟨a,e,c⟩:=ra.dct h1
   exact fin a c (.inl e)
  .obtain⟨a,e,c⟩:=ra.bz h1
   exact fin a c (.inr ⟨o,e⟩)
 .exact h.elim
section
variable{X:Cx}{N:En}{pos:Pos}{a b:Expr}{ma mb:aP}
theorem N5(c:X.A.units+64<cLine)(d:PE X a (up X.mg N ma))(e:PE X b (up X.mg N mb))(f:behindInMarks .In b=false:=by rfl):PE X (.Compare a [.In] [b] pos) (up X.mg N (dW (vI false) ma mb)):=vf (wo c) (EV false) d e f
theorem YI(c:X.A.units+64<cLine)(d:PE X a (up X.mg N ma))(e:PE X b (up X.mg N mb))(f:behindInMarks .In b=false:=by rfl):PT X (.Compare a [.In] [b] pos) (cZ X.mg N (ig (dW (vI false) ma mb))):=lH (wo c) (EV false) d e f
end
def EN(m:aP):aP:=λτ A R=>(∃r kvs,A[r]?=some (.dct kvs)/\∀o,m τ (A.set r (.bz o kvs)) λx A2=>B_ r o A2 (R x))\/m τ A R
def Wi(m:dM):dM:=λR τ A=>(∃r kvs,A[r]?=some (.dct kvs)/\∀o,m {nx:=λbB A2=>B_ r o A2 (R.nx bB),rt:=λ_ _=>False} τ (A.set r (.bz o kvs)))\/m R τ A
section
variable{X:Cx}{N:En}{e:Expr}{m:aP}
theorem vg(g:PE X e (up X.mg N m)):PE X e (up X.mg N (EN m)):=by
 intro pins s σ H Q I q;obtain⟨A,ι,τ,R,S,q,k⟩:=q;rcases q with⟨r,kvs,a,q⟩|q
 .obtain⟨xs,h1,h2⟩:=S.ra.dct a
  have n:=(bY.mp a).1;obtain⟨p,o,t⟩:=I.fz h1;obtain⟨w,x⟩:=Aj (o:=o) S a h1 h2;refine aK (g pins s σ _ (λu H'=>∃xs,H' (ι r)=some (.bT o (.dK xs))/\Q u (upd H' (ι r) (.dK xs))) t ⟨_,ι,τ,_,w,q o,λv A' ι' H' u b h y v2=>?_⟩) λv s' ⟨u,H',z,B,C,h',D⟩=>⟨u,_,z.Cf h' p,B,D⟩;obtain⟨i,c,b⟩:=b;have E:ι' r=ι r:=h.ag r (by simpa using n);obtain⟨d,j,l,f⟩:=Ai y c;rw[E] at j l f;exact⟨d,j,k v _ ι' _ u b ((x.trans h).trans f) l (RV.ext f v u v2)⟩
 .exact g pins s σ H Q I ⟨A,ι,τ,R,S,q,k⟩
theorem NW{st:Stmt}{ms:dM}(f:PS X st (dB X.mg N ms)):PS X st (dB X.mg N (Wi ms)):=by
 intro pins s σ H Q I q;obtain⟨A,ι,τ,R,S,q,k⟩:=q;rcases q with⟨r,kvs,a,q⟩|q
 .obtain⟨xs,h1,h2⟩:=S.ra.dct a
  have m:=(bY.mp a).1;obtain⟨n,o,p⟩:=I.fz h1;obtain⟨t,v⟩:=Aj (o:=o) S a h1 h2;refine aK (f pins s σ _ {nx:=λσ' H'=>∃xs,H' (ι r)=some (.bT o (.dK xs))/\Q.nx σ' (upd H' (ι r) (.dK xs)),rt:=λ_ _=>False,bk:=λ_ _=>False,ct:=λ_ _=>False} p ⟨_,ι,τ,_,t,q o,⟨λbB A' ι' σ' H' b g w x=>?_,λ_ _ _ _ _ z=>z.elim,λ_ _ _ _ _ z=>z.elim,λ_ _ _ _ _ z=>z.elim⟩⟩) λfl s' h=>?_
  .obtain⟨i,c,b⟩:=b
   have y:ι' r=ι r:=g.ag r (by simpa using m);obtain⟨d,j,l,e⟩:=Ai w c;rw[y] at j l e;exact⟨d,j,k.nx bB _ ι' σ' _ b ((v.trans g).trans e) l (x.ext e)⟩
  .cases fl with
   |next=>
    obtain⟨σ',H',B,C,h',D⟩:=h;exact⟨σ',_,B.Cf h' n,D⟩
   |brk=>obtain⟨_,_,_,z⟩:=h;exact z.elim
   |cont=>obtain⟨_,_,_,z⟩:=h;exact z.elim
   |ret u=>obtain⟨_,_,_,_,_,z⟩:=h;exact z.elim
 .exact f pins s σ H Q I ⟨A,ι,τ,R,S,q,k⟩
end
end DP
end
namespace L2
theorem bh{N P:List PySem.Str}{sc:PySem.Scope}(kind:sc.kind=.function:=by rfl)(co:sc.isCoroutine=false:=by rfl)(gen:sc.isGenerator=false:=by rfl)(nd:N.Nodup:=by decide+kernel)(pre:N.take P.length=P:=by rfl)
 (par:∀x∈P,sc.names.lookup x=some .local\/sc.names.lookup x=some .cell:=by decide+kernel)(Bc:∀y∈sc.names,y.2≠ .free:=by decide+kernel):aX N P sc:=⟨kind,co,gen,nd,pre,par,Bc⟩
end L2
section
open PySem PySem.Spec PyProof.Rows
namespace DP
open L2
section
variable{X:Cx}{N:En}{pos pos':Pos}{e a b:Expr}{m ma mb:aP}{x:Str}(i:Nat)
theorem dS(a:X.N.Nodup)(b:PE X e (up X.mg N m))(hi:X.N[i]?=some x:=by rfl)(c:Loc X.env.scope x:=by first|exact .inl rfl|exact .inr rfl)(d:swapsWith e (some (.Name x pos')) pos.line X.env=pure false:=by rfl)(f:X.fn x=true\/X.env.scope.names.lookup x=some .local:=by first|exact .inl rfl|exact .inr rfl|assumption):
 PS X (.Assign [.Name x pos'] e pos) (dB X.mg N (tK i m)):=NY a hi c b d f
theorem dG(a:X.N.Nodup)(hi:X.N[i]?=some x:=by rfl)(b:Loc X.env.scope x:=by first|exact .inl rfl|exact .inr rfl)(c:X.fn x=true\/X.env.scope.names.lookup x=some .local:=by first|exact .inl rfl|exact .inr rfl|assumption):PG X (.Name x pos) (tY X.mg N (gN i)):=NK a hi b c
theorem pG(a:X.N.Nodup)(hi:X.N[i]?=some x:=by rfl)(b:Loc X.env.scope x:=by first|exact .inl rfl|exact .inr rfl)(c:X.fn x=true\/X.env.scope.names.lookup x=some .local:=by first|exact .inl rfl|exact .inr rfl|assumption):PG X (.Name x pos) (pS i):=Ib a hi b c
end
section
variable{X:Cx}{N:En}{pos p:Pos}{e a b:Expr}{ma mb:aP}{x:Str}{es:List Expr}{k r n:Nat}{ps:List Str}{S:Ct}{RE:DX}{m:dD}
theorem dX(c:X.A.units+64<cLine)(d:PE X a (up X.mg N ma))(e:PE X b (up X.mg N mb))(f:zb b:=by exact λ_ _=>rfl):PE X (.Subscript a b pos) (up X.mg N (dW sC ma mb)):=Ny c d e f
theorem dL(F:aj X.prog X.w X.K X.mg X.base k x ps (ak X.mg n S))(c:dZ r X.A)(d:Passes (bW X.prog X.w) X (EL X.mg N RE))(f:PA X (e::es) (fW X.mg N m))(g:k<=r:=by omega)(h:Gl X x:=by rfl)(a:(x==("__debug__":Str))=false:=by decide)
 (i:starEach (e::es) X.env=(false,eval e X.env)::starEach es X.env:=by rfl)(b:(backTo pos (starEach es X.env)).any (·.1)=false:=by rfl):
 PE X (.Call (.Name x p) (e::es) [] pos) (up X.mg N (zQ n S RE m)):=Nt F (c.mono g) d f h a i b
end
theorem bH{P:Program}{w:World}{K:Frag}{mg:aC}{base:Heap}{x:Str}{st:Stmt}{Nm ps:List Str}{k n:Nat}{S:Ct}(T:TopD K mg x st ps)(Sc:aX Nm ps (aI st))
  (b:∀{N:En} {RE:DX} {f:Addr} {a:Value} {B:Around} {outer:List Env} {s:Shared} {H:Hp} {E:XK},dZ k (c7 (bW P w) P w K mg base Nm x (aI st) f a B outer s H E).A->
   Raises (c7 (bW P w) P w K mg base Nm x (aI st) f a B outer s H E) (EL mg N RE)->Passes (bW P w) (c7 (bW P w) P w K mg base Nm x (aI st) f a B outer s H E) (EL mg N RE)->
   (c7 (bW P w) P w K mg base Nm x (aI st) f a B outer s H E).A.units+64<cLine->Nm.Nodup->
   ∃m,dY (c7 (bW P w) P w K mg base Nm x (aI st) f a B outer s H E) (iI st) (dB mg N m)/\∀ds A R,S ds A R RE->ds.length=n->m {nx:=λ_ A'=>R .aG A',rt:=R} (lU (Nm.length - n) ds) A)(d:ps.length=n:=by rfl)(e:ps.length<=Nm.length:=by decide):aj P w K mg base (k+1) x ps (ak mg n S):=
 jY T Sc d e λN RE f a B outer s H E c g i ds A R h j=>by
  obtain⟨m,h1,h2⟩:=b c g i c.units Sc.nd;exact⟨m,h1,h2 ds A R h j⟩
@[irreducible] def sI(r:Nat)(y v:D)(A:Ar)(R:Ar->Prop):Prop:=match A[r]?,y with
 |some (.lst xs),.int i=>∃j,i_ xs.length i=some j/\R (A.set r (.lst (xs.set j v)))
 |_,_=>False
def Wn(mo mi mv:aP):dM:=λR τ A=>mv τ A λv A1=>mo τ A1 λx A2=>mi τ A2 λy A3=>match x with
 |.ref r=>sI r y v A3 λA4=>R.nx τ A4
 |_=>False
theorem NX{X:Cx}{N:En}{pos pos':Pos}{o i value:Expr}{mo C D:aP}(I:PE X o (up X.mg N mo))(hi:PE X i (up X.mg N C))(J:PE X value (up X.mg N D))
  (K:swapsWithSole [.Subscript o i pos'] value pos.line X.env=pure false:=by rfl)(L:swappedStores [.Subscript o i pos'] value X.env=pure none:=by rfl)
  (h1:(assignEach [.Subscript o i pos'] X.env).map (·.2)=[assign (.Subscript o i pos') X.env]:=by rfl)
  (M:∀v,assign (.Subscript o i pos') X.env v=(do
   let b <-holding [v] (eval o X.env)
   let l <-holding [v,b] (eval i X.env)
   standAt pos'
   holding [v,b,l] (setItem b l v)
   release [v,b,l] []):=by intro _;rfl):
  PS X (.Assign [.Subscript o i pos'] value pos) (dB X.mg N (Wn mo C D)):=iZ (Vs J (U3 I hi set_list M) K L h1) λQ σ H q=>by
 obtain⟨A,ι,τ,R,S,q,k⟩:=q
 refine⟨A,ι,τ,_,S,q,λv O m H1 w P d n T=> ?_⟩
 refine⟨O,m,τ,_,S.next d n,P,λx U p H2 u V f F v2=> ?_⟩
 refine⟨U,p,τ,_,(S.next d n).next f F,V,λy W Y H3 z a g h Z=> ?_⟩
 have s:=RV.ext (f.trans g) v w T
 have t:=RV.ext g x u v2
 cases x with
 |ref r=>
  obtain⟨_,rfl⟩:=t
  have a:sI r y v W (λA4=>R.nx τ A4):=a
  unfold sI at a
  split at a
  .rename_i xs i e _
   obtain⟨B,h1,h2⟩:=h.lst e
   obtain⟨j,hj,a⟩:=a
   cases Z
   refine⟨_,B,i,j,rfl,rfl,h1,by rw[<-au.length h2];exact hj,?_⟩
   have hl:=(bY.mp e).1
   have E:=h.nU (o:= .lst (B.set j w)) (c:= .lst (xs.set j v)) hl
   obtain⟨r4,G⟩:=h.put (c':= .lst (xs.set j v)) (o:= .lst (B.set j w)) e h1 rfl ⟨_,fC,by simpa using au.ext E _ _ (h2.set j s)⟩
   exact(k.nx.from (((d.trans f).trans g).trans G)).here ((((S.next d n).next f F).next g h).next G r4) a
  .exact a.elim
 |_=>exact a.elim
theorem Sv{A:Ar}{r j:Nat}{i:Int}{xs:List D}{v:D}{R:Ar->Prop}(h:A[r]?=some (.lst xs))(a:i_ xs.length i=some j)(k:R (A.set r (.lst (xs.set j v)))):sI r (.int i) v A R:=by
 unfold sI;rw[h];exact⟨j,a,k⟩
end DP
variable{P:Program}{w:World}{K:Frag}{mg:aC}{base:Heap}
namespace My
open L2 DP
def top(i:Nat):Stmt:=PySem.Challenge.pw_hangstill_k40_whole_again_and_kept.main.body.getD i (.Pass ⟨0,0,0,0⟩)
abbrev JL:Stmt:=top 12
abbrev qa:List Str:=["thing","first","last"]
theorem W6:aX ["thing","first","last"] qa (aI JL):=bh
abbrev JJ:Stmt:=top 13
abbrev sY:List Str:=["thing"]
theorem W4:aX ["thing"] sY (aI JJ):=bh
abbrev JI:Stmt:=top 14
abbrev wZ:List Str:=["thing","rods"]
theorem W3:aX ["thing","rods"] wZ (aI JI):=bh
abbrev JH:Stmt:=top 15
abbrev sX:List Str:=["thing"]
theorem W2:aX ["thing"] sX (aI JH):=bh
abbrev Ju:Stmt:=top 16
abbrev m7:List Str:=["thing"]
theorem WO:aX ["thing"] m7 (aI Ju):=bh
abbrev JK:Stmt:=top 17
abbrev w9:List Str:=["thing"]
theorem W5:aX ["thing"] w9 (aI JK):=bh
abbrev JM:Stmt:=top 18
abbrev w_:List Str:=["thing"]
theorem W7:aX ["thing","names"] w_ (aI JM):=bh
abbrev Js:Stmt:=top 19
abbrev sR:List Str:=["thing"]
theorem WM:aX ["thing"] sR (aI Js):=bh
abbrev Jy:Stmt:=top 20
abbrev sS:List Str:=["mobile","weights"]
theorem WT:aX ["mobile","weights","numbers","way","name"] sS (aI Jy):=bh
abbrev JR:Stmt:=top 21
abbrev qb:List Str:=["mobile","way"]
theorem Xb:aX ["mobile","way"] qb (aI JR):=bh
abbrev JS:Stmt:=top 22
abbrev xo:List Str:=["mobile","numbers"]
theorem Xc:aX ["mobile","numbers"] xo (aI JS):=bh
abbrev JX:Stmt:=top 23
abbrev xw:List Str:=["rod","numbers"]
theorem Xh:aX ["rod","numbers"] xw (aI JX):=bh
abbrev J7:Stmt:=top 24
abbrev xD:List Str:=["mobile","way","numbers"]
theorem Ke:aX ["mobile","way","numbers","both","told"] xD (aI J7):=bh
abbrev JQ:Stmt:=top 25
abbrev xm:List Str:=["mobile"]
theorem Xa:aX ["mobile"] xm (aI JQ):=bh
abbrev J6:Stmt:=top 26
abbrev xC:List Str:=["mobile","weights"]
theorem Xo:aX ["mobile","weights"] xC (aI J6):=bh
abbrev JD:Stmt:=top 28
abbrev sV:List Str:=["one","other"]
theorem WY:aX ["one","other","rest"] sV (aI JD):=bh
abbrev JZ:Stmt:=top 29
abbrev sZ:List Str:=["top","bottom"]
theorem Xj:aX ["top","bottom","divisor"] sZ (aI JZ):=bh
abbrev JW:Stmt:=top 30
abbrev oz:List Str:=["one","other"]
theorem Xg:aX ["one","other"] oz (aI JW):=bh
abbrev JY:Stmt:=top 31
abbrev qc:List Str:=["one","other"]
theorem Xi:aX ["one","other"] qc (aI JY):=bh
abbrev JP:Stmt:=top 32
abbrev xj:List Str:=["fractions"]
theorem W_:aX ["fractions","bottom","fraction","numbers","divisor","number"] xj (aI JP):=bh
abbrev J4:Stmt:=top 34
abbrev xA:List Str:=["mobile","way","share"]
theorem Kd:aX ["mobile","way","share","both","left","right"] xA (aI J4):=bh
abbrev BH:Stmt:=top 35
abbrev m8:List Str:=["mobile"]
theorem Kc:aX ["mobile"] m8 (aI BH):=bh
abbrev JO:Stmt:=top 36
abbrev xh:List Str:=["fractions"]
theorem W9:aX ["fractions","names"] xh (aI JO):=bh
abbrev J3:Stmt:=top 37
abbrev oA:List Str:=["mobile"]
theorem Xm:aX ["mobile"] oA (aI J3):=bh
abbrev Jq:Stmt:=top 38
abbrev ow:List Str:=["mobile"]
theorem WK:aX ["mobile","first","way","name","share"] ow (aI Jq):=bh
abbrev JN:Stmt:=top 39
abbrev xg:List Str:=["mobile"]
theorem W8:aX ["mobile"] xg (aI JN):=bh
abbrev Jt:Stmt:=top 42
abbrev wO:List Str:=["thing"]
theorem WN:aX ["thing","mobile"] wO (aI Jt):=bh
abbrev JG:Stmt:=top 43
abbrev sW:List Str:=["hall"]
theorem W0:aX ["hall"] sW (aI JG):=bh
abbrev J5:Stmt:=top 44
abbrev xB:List Str:=["by_place","name"]
theorem Xn:aX ["by_place","name","steps","place","table"] xB (aI J5):=bh
abbrev JV:Stmt:=top 45
abbrev xu:List Str:=["by_place","start"]
theorem Xf:aX ["by_place","start","paths","reached","at","step"] xu (aI JV):=bh
abbrev JF:Stmt:=top 46
abbrev p_:List Str:=["by_place"]
theorem J':aX ["by_place","told","seen","table","name","paths"] p_ (aI JF):=bh
abbrev Jp:Stmt:=top 47
abbrev wM:List Str:=["steps"]
theorem WJ:aX ["steps"] wM (aI Jp):=bh
abbrev JB:Stmt:=top 48
abbrev sU:List Str:=["by_place","steps"]
theorem WW:aX ["by_place","steps","ratio","place","one","other"] sU (aI JB):=bh
abbrev JA:Stmt:=top 49
abbrev wW:List Str:=["by_place"]
theorem WV:aX ["by_place","steps","place","table","first"] wW (aI JA):=bh
abbrev JC:Stmt:=top 50
abbrev wX:List Str:=["by_place"]
theorem WX:aX ["by_place","paths","group","step","steps"] wX (aI JC):=bh
abbrev Jv:Stmt:=top 51
abbrev wQ:List Str:=["by_place"]
theorem WQ:aX ["by_place"] wQ (aI Jv):=bh
abbrev JE:Stmt:=top 52
abbrev wY:List Str:=["by_place","paths"]
theorem WZ:aX ["by_place","paths"] wY (aI JE):=bh
abbrev Jx:Stmt:=top 53
abbrev wU:List Str:=["by_place","told"]
theorem WS:aX ["by_place","told","name","number"] wU (aI Jx):=bh
abbrev J2:Stmt:=top 54
abbrev xy:List Str:=["weights","told"]
theorem Xl:aX ["weights","told","scale","name","number"] xy (aI J2):=bh
abbrev J1:Stmt:=top 55
abbrev xx:List Str:=["hall","told"]
theorem Xk:aX ["hall","told","by_place","answer","paths","known"] xx (aI J1):=bh
abbrev Jr:Stmt:=top 57
abbrev wN:List Str:=["hall"]
theorem WL:aX ["hall"] wN (aI Jr):=bh
abbrev Jw:Stmt:=top 60
abbrev wR:List Str:=["thing"]
theorem WR:aX ["thing"] wR (aI Jw):=bh
abbrev J8:Stmt:=top 61
abbrev xE:List Str:=["fractions","numbers"]
theorem Xp:aX ["fractions","numbers"] xE (aI J8):=bh
abbrev JT:Stmt:=top 62
abbrev xq:List Str:=["name","fractions","loads"]
theorem Xd:aX ["name","fractions","loads","others","number"] xq (aI JT):=bh
abbrev Jz:Stmt:=top 63
abbrev wV:List Str:=["mobile","numbers"]
theorem WU:aX ["mobile","numbers","weights","told","number","times","chosen"] wV (aI Jz):=bh
abbrev JU:Stmt:=top 64
abbrev xr:List Str:=["mobile","weights"]
theorem Xe:aX ["mobile","weights","numbers","fractions","loads","told","name","number"] xr (aI JU):=bh
abbrev I_:Stmt:=top 66
abbrev wB:List Str:=["_law_script","_law_k"]
theorem Wu:aX ["_law_script","_law_k"] wB (aI I_):=bh
abbrev Jg:Stmt:=top 67
abbrev wH:List Str:=["_law_script","_law_k","_law_many"]
theorem WB:aX ["_law_script","_law_k","_law_many","_law_drawn"] wH (aI Jg):=bh
abbrev Ja:Stmt:=top 68
abbrev kT:List Str:=["_law_script","_law_town","_law_many"]
theorem Wv:aX ["_law_script","_law_town","_law_many"] kT (aI Ja):=bh
abbrev Jk:Stmt:=top 69
abbrev m6:List Str:=["_law_script","_law_town","_law_some_here"]
theorem WE:aX ["_law_script","_law_town","_law_some_here"] m6 (aI Jk):=bh
abbrev Jh:Stmt:=top 70
abbrev wI:List Str:=["_law_script","_law_town","_law_names_here","_law_deep"]
theorem J_:aX ["_law_script","_law_town","_law_names_here","_law_deep","_law_most","_law_left","_law_right","_law_one"] wI (aI Jh):=bh
abbrev Jc:Stmt:=top 71
abbrev wD:List Str:=["_law_part","_law_row"]
theorem J9:aX ["_law_part","_law_row","_law_one"] wD (aI Jc):=bh
abbrev Jl:Stmt:=top 72
abbrev wL:List Str:=["_law_script","_law_town","_law_deep"]
theorem WG:aX ["_law_script","_law_town","_law_deep","_law_part"] wL (aI Jl):=bh
abbrev Jf:Stmt:=top 74
abbrev sO:List Str:=["_law_part"]
theorem WA:aX ["_law_part"] sO (aI Jf):=bh
abbrev Ji:Stmt:=top 75
abbrev wJ:List Str:=["_law_part"]
theorem WC:aX ["_law_part"] wJ (aI Ji):=bh
abbrev Jo:Stmt:=top 76
abbrev sQ:List Str:=["_law_script","_law_town","_law_names_here"]
theorem WI:aX ["_law_script","_law_town","_law_names_here","_law_wide"] sQ (aI Jo):=bh
abbrev Jd:Stmt:=top 79
abbrev wF:List Str:=["_law_script","_law_town"]
theorem Wx:aX ["_law_script","_law_town","_law_way","_law_many","_law_names_here","_law_book","_law_made","_law_k","_law_one","_law_other","_law_left","_law_right"] wF (aI Jd):=bh
abbrev Jj:Stmt:=top 80
abbrev wK:List Str:=["_law_script","_law_town"]
theorem WD:aX ["_law_script","_law_town","_law_wide"] wK (aI Jj):=bh
abbrev Jm:Stmt:=top 81
abbrev sP:List Str:=["_law_hall_here"]
theorem WH:aX ["_law_hall_here"] sP (aI Jm):=bh
abbrev Je:Stmt:=top 82
abbrev wG:List Str:=["_law_hall_here","_law_start"]
theorem Wz:aX ["_law_hall_here","_law_start","_law_known_here","_law_changed","_law_one","_law_other","_law_up","_law_down"] wG (aI Je):=bh
abbrev Jb:Stmt:=top 83
abbrev wC:List Str:=["_law_hall_here"]
theorem Ww:aX ["_law_hall_here","_law_start","_law_more","_law_first","_law_second","_law_known_here","_law_one","_law_other","_law_up","_law_down","_law_mine","_law_its"] wC (aI Jb):=bh
abbrev I8:Stmt:=top 84
abbrev wz:List Str:=["_law_hall_here"]
theorem Ws:aX ["_law_hall_here","_law_names_here","_law_part"] wz (aI I8):=bh
abbrev I9:Stmt:=top 85
abbrev wA:List Str:=["_law_what","_law_mobile_here","_law_hall_here","_law_numbers_here","_law_weights_here"]
theorem Wt:aX ["_law_what","_law_mobile_here","_law_hall_here","_law_numbers_here","_law_weights_here"] wA (aI I9):=bh
abbrev lS:Stmt:=top 86
abbrev Bf:List Str:=["_law_script"]
theorem Ka:aX ["_law_script","_law_town","_law_begin","_law_hall_here","_law_mobile_here","_law_numbers_here","_law_weights_here","_law_k","_law_what","_law_made","_law_copy","_law_anew","_law_told"] Bf (aI lS):=bh
open MA
theorem OZ(T:TopD K mg "is_number" JL qa)(d:mg "isinstance"=none)(f:mg "bool"=none)(g:mg "int"=none):aj P w K mg base 1 "is_number" qa (ak mg 3 uP):=by
 refine bH T W6 λj k l m nd=>⟨_,(av (bJ (PW.pt (gU (fu (kE RZ d f boot_bool (vr 0))) (iJ (fQ (fu (kE R0 d g boot_int (vr 0))))))) (ay (aN iw)) bM)
  (ay (aN (FD (vr 1) (vr 0) (vr 2))))),λds A R h n=>?_⟩
 obtain⟨v,⟨i,a,b,rfl,rfl⟩,q⟩:=h;refine cD (λc=>?_) (λc=>?_)
 .have e:(decide (a<=i)&&decide (i<=b))=decide (i<=b):=by simp[c]
  rw[e] at q;exact q _ Gr.refl
 .have e:(decide (a<=i)&&decide (i<=b))=false:=by simp[c]
  rw[e] at q;exact q _ Gr.refl
theorem HS{c d:Nat}:([c]:List Nat)<[d]↔c<d:=by simp[List.cons_lt_cons_iff]
theorem Xy:("a":Str).cps.toList=[97]:=by decide+kernel
theorem Xz:("z":Str).cps.toList=[122]:=by decide+kernel
theorem OY(T:TopD K mg "is_name" JJ sY)(b:mg "isinstance"=none)(d:mg "str"=none)(g:mg "len"=none)(i:mg "all"=none){t:Tok}(a:mg "LONGEST_NAME"=some (.int 3 t)):aj P w K mg base 1 "is_name" sY (ak mg 1 zk):=by
 refine bH T W4 λr s k u nd=>⟨_,(av (bJ (PW.pt (gU (fQ (fu (kE GU b d boot_str (vr 0)))) (iJ (fQ (B5 ai (dO iW iu g jk (aa (vr 0) af)) (lG a)))))) (ay (aN iw)) bM)
  (ay (aN (dO (uZ rfl) u7 i boot_all (aa (fk none (own:=["letter"]) (frees:=[]) (ix:=[]) rfl (NO (vr 0)) (λc=>(pG 0 (show(["letter"]:List Str).Nodup by decide+kernel))) (λc=>(FD bG (vr 0) bG))) af))))),λds A R h y=>?_⟩
 obtain⟨v,⟨n,rfl,j,rfl⟩,q⟩:=h;have hz:n.length<=sizeLine:=cG j.hi (by decide);have h1:=j.lo;have z:=j.hi;refine⟨hz,cD (λ_=>?_) (λc=>absurd (show(1:Int)<=(n.length:Nat) by omega) c)⟩;refine cN (λc=>absurd (show((n.length:Nat):Int)<=3 by omega) c) (λ_=>?_);refine iY (f:=λ_=>.bl true) trivial _ _ (λx k=>⟨[x],rfl,λQ l=>?_⟩) ?_ ?_
 .obtain⟨c,hc,rfl⟩:=aJ.mp k
  obtain⟨B,C⟩:=j.az c hc;have m:¬((⟨#[c]⟩:Str).cps.toList<("a":Str).cps.toList):=by
   rw[Xy];intro h;have:=HS.mp h;omega
  have o:¬(("z":Str).cps.toList<(⟨#[c]⟩:Str).cps.toList):=by
   rw[Xz];intro h;have:=HS.mp h;omega
  refine cN (λ_=>?_) (λh=>absurd h m);have p:(!decide (("z":Str).cps.toList<(⟨#[c]⟩:Str).cps.toList))=true:=by rw[fY o];rfl
  show Q (.bl (!decide (("z":Str).cps.toList<(⟨#[c]⟩:Str).cps.toList))) A;rw[p];exact l
 .have:(lT n).length=n.length:=by simp[lT,Str.length]
  show 0+(lT n).length<=sizeLine;omega
 .refine uR (bs:=(lT n).map λ_=>true) aE (nN _ _) ?_
  have e:((lT n).map λ_=>true).all id=true:=by simp
  rw[e];exact q _ Gr.push
theorem OW(T:TopD K mg "is_mobile_within" JI wZ)(i:mg "isinstance"=none)(x:mg "str"=none)(u:mg "tuple"=none)(k:mg "len"=none){t:Tok}(g:mg "LONGEST_ARM"=some (.int 9 t))
  (o:aj P w K mg base 1 "is_name" sY (ak mg 1 zk))(j:aj P w K mg base 1 "is_number" qa (ak mg 3 uP)):∀d,aj P w K mg base (d+1) "is_mobile_within" wZ (ak mg 2 (Ds d)):=by
 intro d;induction d with
 |zero=>
  refine nW T λds A R RE h=>?_;obtain⟨v,⟨m,_,_,h,_⟩,_⟩:=h;omega
 |succ d e=>
  refine jY T W3 rfl (by decide) λN RE f I B outer s H E y Z z ds A R h hl=>?_;have p:=y.units;refine⟨_,(av (bJ (PW.pt (gU (fQ (fu (kE kit_tuple i u kh (vr 0)))) (gU (d_ p (dO iW iu k jk (aa (vr 0) af)) ai) (iJ (fQ (fu (kE GU i x boot_str (dX p (vr 0) ai)))))))) (ay (aN iw)) bM)
  (av (bJ (d_ p (dX p (vr 0) ai) bG) (ay (aN (zT (z6 p (dO iW iu k jk (aa (vr 0) af)) ai) (zV (dL o y z (aa (dX p (vr 0) ai) af)))))) bM)
  (av (bJ (PW.pt (gU (j7 p (dX p (vr 0) ai) bG) (gU (j7 p (dO iW iu k jk (aa (vr 0) af)) ai) (iJ (d_ p (vr 1) ai))))) (ay (aN iw)) bM)
  (av (bJ (PW.pt (gU (fQ (fu (dL j y z (aa (dX p (vr 0) ai) (aa ai (aa (lG g) af)))))) (iJ (fQ (fu (dL j y z (aa (dX p (vr 0) ai) (aa ai (aa (lG g) af))))))))) (ay (aN iw)) bM)
  (ay (aN (zT (dL e y z (aa (dX p (vr 0) ai) (aa (rX (vr 1) ai) af))) (zV (dL e y z (aa (dX p (vr 0) ai) (aa (rX (vr 1) ai) af))))))))))),?_⟩
  obtain⟨v,⟨m,rfl,C,hd,rfl⟩,q⟩:=h;cases m with
  |wt n=>
   exact⟨rfl,_,⟨n,rfl,C.nm n (by simp[aV.names]),rfl⟩,q⟩
  |bS l r a b=>
   obtain⟨⟨h1,h2,J,L,M,O⟩,F⟩:=C;have Q:max a.deep b.deep+1<d+1:=hd;have G:((d+1:Nat):Int) - 1 - 1=(d:Int) - 1:=by omega
   have S:(decide (1<=l)&&decide (l<=9))=true:=by simp[h1,h2]
   have U:(decide (1<=r)&&decide (r<=9))=true:=by simp[J,L]
   refine cD (λc=>absurd c (by omega)) (λ_=>?_);refine⟨rfl,_,⟨l,1,9,rfl,rfl⟩,λA1 V=>?_⟩;rw[S];refine⟨rfl,_,⟨r,1,9,rfl,rfl⟩,λA2 W=>?_⟩;rw[U];refine⟨rfl,_,⟨a,show [enc a,D.int (((d+1:Nat):Int) - 1 - 1)]=_ by rw[G],⟨M,λn h=>F n (by simp[aV.names,h])⟩,by omega,rfl⟩,λA3 X=>?_⟩;refine⟨rfl,_,⟨b,show [enc b,D.int (((d+1:Nat):Int) - 1 - 1)]=_ by rw[G],⟨O,λn h=>F n (by simp[aV.names,h])⟩,by omega,rfl⟩,λA4 Y=>?_⟩;exact q _ (((V.trans W).trans X).trans Y)
theorem OX(T:TopD K mg "is_mobile" JH sX){t:Tok}(b:mg "MOST_RODS"=some (.int 5 t))(a:aj P w K mg base 7 "is_mobile_within" wZ (ak mg 2 (Ds 6))):aj P w K mg base 8 "is_mobile" sX (ak mg 1 zh):=by
 refine bH T W2 λc f d g nd=>⟨_,(ay (aN (dL a c d (aa (vr 0) (aa (lG b) af))))),λds A R h i=>?_⟩;obtain⟨v,⟨m,rfl,e,hd,rfl⟩,q⟩:=h;exact⟨rfl,_,⟨m,rfl,e,by omega,rfl⟩,q⟩
theorem OF(T:TopD K mg "check_mobile" Ju m7){a:Addr}(c:mg "NoMobile"=some (.ref a))(d:excIn K a j8 "ValueError.__new__"=true)(b:aj P w K mg base 8 "is_mobile" sX (ak mg 1 zh)):aj P w K mg base 9 "check_mobile" m7 (ak mg 1 pB):=by
 refine bH T WO λe f g k nd=>⟨_,(ay (bJ (fQ (fu (dL b e g (aa (vr 0) af)))) (ay (jx f rfl c d (aa bG af))) bM)),λds A R h l=>?_⟩;obtain⟨v,⟨m,rfl,i,hd,rfl⟩,q⟩:=h;exact⟨rfl,_,⟨m,rfl,i,hd,rfl⟩,λn j=>q _ j⟩
end My
namespace DP
open L2 MA
abbrev zc:Ct:=SV λds v=>∃rs,ds=[fy rs]/\jt rs/\v=.aG
end DP
namespace My
open L2 DP MA
theorem Pd(T:TopD K mg "is_named_number" JK w9)(a:mg "isinstance"=none)(e:mg "tuple"=none)(f:mg "len"=none){t:Tok}(c:mg "HEAVIEST"=some (.int 999999 t))
  (d:aj P w K mg base 1 "is_name" sY (ak mg 1 zk))(b:aj P w K mg base 1 "is_number" qa (ak mg 3 uP)):aj P w K mg base 2 "is_named_number" w9 (ak mg 1 DF):=by
 refine bH T W5 λi n j g nd=>⟨_,(av (bJ (PW.pt (gU (fQ (fu (kE kit_tuple a e kh (vr 0)))) (iJ (j7 g (dO iW iu f jk (aa (vr 0) af)) ai)))) (ay (aN iw)) bM)
  (ay (aN (zT (dL d i j (aa (dX g (vr 0) ai) af)) (zV (dL b i j (aa (dX g (vr 0) ai) (aa ai (aa (lG c) af))))))))),λds A R h o=>?_⟩
 obtain⟨v,⟨r,rfl,k,⟨h1,h2⟩,rfl⟩,q⟩:=h;refine⟨rfl,_,⟨r.1,rfl,k,rfl⟩,λp l=>?_⟩;refine⟨rfl,_,⟨r.2,1,999999,rfl,rfl⟩,λs m=>?_⟩;rw[show(decide (1<=r.2)&&decide (r.2<=999999))=true by simp[h1,h2]];exact q _ (l.trans m)
theorem pw_eq{ys ss:List Str}(h1:ys.Pairwise strLt)(h2:ss.Pairwise strLt)(b:∀x,x∈ys↔x∈ss):ys=ss:=by
 induction ys generalizing ss with
 |nil=>
  cases ss with
  |nil=>rfl
  |cons a r=>exact absurd ((b a).mpr (aU ..)) (by simp)
 |cons y ys d=>
  cases ss with
  |nil=>exact absurd ((b y).mp (aU ..)) (by simp)
  |cons a r=>
   have p1:=gZ.mp h1;have p2:=gZ.mp h2;have e:y=a:=by
    have f:=(b y).mp (aU ..);have g:=(b a).mpr (aU ..);rcases aY.mp f with q|q
    .exact q
    rcases aY.mp g with q'|q'
    .exact q'.symm
    exact absurd (uy (p2.1 y q) (p1.1 a q')) (kg _)
   subst e;rw[d p1.2 p2.2 λx=>?_];constructor
   .intro c
    rcases aY.mp ((b x).mp (bq _ c)) with q|q
    .subst q;exact absurd (p1.1 x c) (kg _)
    .exact q
   .intro c
    rcases aY.mp ((b x).mpr (bq _ c)) with q|q
    .subst q;exact absurd (p2.1 x c) (kg _)
    .exact q
theorem O0(T:TopD K mg "is_weights" JM w_)(b:mg "isinstance"=none)(g:mg "tuple"=none)(j:mg "all"=none)(d:mg "sorted"=none)(k:mg "set"=none)
  (a:aj P w K mg base 2 "is_named_number" w9 (ak mg 1 DF)):aj P w K mg base 3 "is_weights" w_ (ak mg 1 Dt):=by
 refine bH T W7 λl G p t nd=>⟨_,(av (bJ (PW.pt (gU (fQ (fu (kE kit_tuple b g kh (vr 0)))) (iJ (fQ (fu (dO (uZ rfl) u7 j boot_all (aa (fk none (own:=["pair"]) (frees:=[]) (ix:=[]) rfl (cC (vr 0)) (λc=>(pG 0 (show(["pair"]:List Str).Nodup by decide+kernel))) (λc=>(dL a l m_ (aa (vr 0) af)))) af))))))) (ay (aN iw)) bM)
  (av (Fw none (own:=["pair"]) (frees:=[]) (ix:=[]) (i:=1) nd rfl (by first|exact Or.inl rfl|exact Or.inr rfl) rfl (cC (vr 0)) (λc=>(pG 0 (show(["pair"]:List Str).Nodup by decide+kernel))) (λc=>(dX t (vr 0) ai)))
  (ay (aN (z6 t (vr 1) (zX d k rfl (aa (vr 1) af))))))),λds A R h H=>?_⟩
 obtain⟨v,⟨rs,rfl,m,rfl⟩,q⟩:=h;have hz:0+(rs.map bI).length<=sizeLine:=by
  have:=m.len;have:(64:Nat)<=sizeLine:=by decide
  simp;omega
 have o:∀n∈rs.map (·.1),Nm n:=λn z=>by
  obtain⟨r,l,rfl⟩:=aJ.mp z;exact m.nm r l
 refine pI (λ_=>.bl true) _ _ _ (λ_ _=>trivial) (λx p B u=>⟨[x],rfl,λQ s=>?_⟩) hz (λB u=>?_)
 .obtain⟨r,l,rfl⟩:=aJ.mp p
  exact⟨rfl,_,⟨r,rfl,m.nm r l,m.no r l,rfl⟩,s⟩
 refine uR (bs:=(rs.map bI).map λ_=>true) aE (nN _ _) ?_;rw[show((rs.map bI).map λ_=>true).all id=true by simp];refine iY (f:=λx=>match x with|.tup (y::_)=>y|x=>x) trivial _ _ (λx p=>⟨[x],rfl,λQ s=>?_⟩) hz ?_
 .obtain⟨r,l,rfl⟩:=aJ.mp p
  exact s
 have e:(rs.map bI).map (λx=>match x with|.tup (y::_)=>y|x=>x)=(rs.map (·.1)).map D.str:=by
  rw[bK,bK];rfl
 rw[fN,e];refine BQ (ss:=rs.map (·.1)) aE (by have:=strs_map id (rs.map (·.1));simpa using this) (by have:=m.len;simpa using this) λys C E=>?_;have F:=pw_eq C m.up E;subst F;refine Oj (getElem?_push aE) aE o o ?_;rw[dR rfl];exact q _ (((u.trans Gr.push).trans Gr.push).trans Gr.push)
theorem O3(T:TopD K mg "leaves_below" JR qb):∀d,aj P w K mg base (d+1) "leaves_below" qb (ak mg 2 (uO d)):=by
 intro d;induction d with
 |zero=>
  refine nW T λds A R RE h=>?_;obtain⟨v,⟨m,w,_,h,_⟩,_⟩:=h;omega
 |succ d c=>
  refine jY T Xb rfl (by decide) λN RE f k B outer s H E g t i ds A R h u=>?_;have e:=g.units;refine⟨_,(av (bJ (d_ e (dX e (vr 0) ai) bG) (ay (aN (cH (aa (bX (aa (vr 1) (aa (dX e (vr 0) ai) af))) af)))) bM)
  (ay (aN (c8 (dL c g i (aa (dX e (vr 0) ai) (aa (c8 (vr 1) bG) af))) (dL c g i (aa (dX e (vr 0) ai) (aa (c8 (vr 1) bG) af))))))),?_⟩
  obtain⟨v,⟨m,w,rfl,hd,z,C,rfl⟩,q⟩:=h;have D:(100:Nat)<=sizeLine:=by decide
  cases m with
  |wt n=>exact⟨by show 2<=sizeLine;omega,by show 1<=sizeLine;omega,q _ _ Gr.push aE⟩
  |bS l r a b=>
   have o:max a.deep b.deep+1<d+1:=hd;have F:("l":Str).length=1:=by decide+kernel
   have G:("r":Str).length=1:=by decide+kernel
   have al:∀x y:Str,(x++y).length=x.length+y.length:=λx y=>um;refine⟨by omega,rfl,_,⟨a,_,rfl,by omega,by rw[al];omega,by omega,rfl⟩,λI J p h1=>?_⟩;refine⟨by omega,rfl,_,⟨b,_,rfl,by omega,by rw[al];omega,by omega,rfl⟩,λL M j h2=>?_⟩;have n1:=aV.lR a;have n2:=aV.lR b;have p1:2 ^ a.deep<=2 ^ 8:=fF (by decide) (by omega);have p2:2 ^ b.deep<=2 ^ 8:=fF (by decide) (by omega);have hz:(512:Nat)<=sizeLine:=by decide
   refine iX (j.get h1) h2 (by rw[aM,aM,sL,sL];omega) (q _ _ ((p.trans j).trans Gr.push) ?_);rw[aE];simp[jB]
theorem O5(T:TopD K mg "load_below" JS xo)(b:mg "sum"=none)(a:aj P w K mg base 9 "leaves_below" qb (ak mg 2 (uO 8))):aj P w K mg base 10 "load_below" xo (ak mg 2 (Dw 6)):=by
 refine bH T Xc λk y d l nd=>⟨_,(ay (aN (dO (Mw rfl) Nr b boot_sum (aa (fk (some 2) (own:=["way","name"]) (frees:=["numbers"]) (ix:=[1]) rfl (cC (dL a k d (aa (vr 0) (aa bG af)))) (λc=>(oB rfl (gX (pG 0 (show(["way","name","numbers"]:List Str).Nodup by decide+kernel)) (gX (pG 1 (show(["way","name","numbers"]:List Str).Nodup by decide+kernel)) oE)))) (λc=>(dX l (vr 2) (vr 1)))) af)))),λds A R h z=>?_⟩;obtain⟨m,r,rs,rfl,o,s,hd,i,q⟩:=h;refine⟨rfl,_,⟨m,_,rfl,by omega,by decide+kernel,by omega,rfl⟩,λB C j h1=>?_⟩;refine d8 h1 ?_;have n1:=aV.lR m;have p1:2 ^ m.deep<=2 ^ 6:=fF (by decide) hd;have hz:(64:Nat)<=sizeLine:=by decide
 refine iY (f:=λx=>match x with|.tup [_,.str n]=>.int (val rs n)|x=>x) h1 _ _ (λx d=>?_) (by simp[sL];omega) ?_
 .obtain⟨p,t,rfl⟩:=aJ.mp d
  refine⟨[.str p.1,.str p.2],rfl,λQ u=>?_⟩;have v:p.2∈m.names:=by rw[<-p8 m ""];exact cQ t
  exact fH (j.get o) rfl (nX rs p.2 (i _ v)) u
 have e:((jB m "").map kN).map (λx=>match x with|.tup [_,.str n]=>D.int (val rs n)|x=>x)=m.names.map λn=>D.int (val rs n):=by
  rw[<-p8 m "",bK,bK];rfl
 rw[fN,e];refine Yb (ns:=m.names.map (val rs)) aE (ints_map _ _) (λn g=>?_) (by simp;omega) ?_
 .obtain⟨x,d,rfl⟩:=aJ.mp g
  have:=Cn s (i x d);omega
 .rw[AN]
  exact q _ (j.trans Gr.push)
theorem OD(T:TopD K mg "check_are_weights" Js sR){a:Addr}(c:mg "NoWeights"=some (.ref a))(d:excIn K a j8 "ValueError.__new__"=true)
  (b:aj P w K mg base 3 "is_weights" w_ (ak mg 1 Dt)):aj P w K mg base 4 "check_are_weights" sR (ak mg 1 zc):=by
 refine bH T WM λe f g k nd=>⟨_,(ay (bJ (fQ (fu (dL b e g (aa (vr 0) af)))) (ay (jx f rfl c d (aa bG af))) bM)),λds A R h l=>?_⟩;obtain⟨v,⟨rs,rfl,i,rfl⟩,q⟩:=h;exact⟨rfl,_,⟨rs,rfl,i,rfl⟩,λm j=>q _ j⟩
theorem ON(T:TopD K mg "check_weights" Jy sS)(i:mg "dict"=none){d:Addr}(f:mg "NoWeights"=some (.ref d))(g:excIn K d j8 "ValueError.__new__"=true)
  (c:aj P w K mg base 4 "check_are_weights" sR (ak mg 1 zc))(e:aj P w K mg base 9 "leaves_below" qb (ak mg 2 (uO 8))):aj P w K mg base 10 "check_weights" sS (ak mg 2 ze):=by
 refine bH T WT λl s j t nd=>⟨_,(av (c_ (dL c l j (aa (vr 1) af)))
  (av (dS 2 nd (iy (mJ rfl) mP i nE (aa (vr 1) af)))
  (ay (eH dQ rfl (cC (dL e l j (aa (vr 0) (aa bG af)))) (kF rfl (dH (dG 3 nd) (dH (dG 4 nd) kG))) (ay (bJ (ql t (vr 4) (vr 2)) (ay (jx s rfl f g (aa (Nv (vr 4)) af))) bM)))))),λds A R h F=>?_⟩
 obtain⟨v,⟨m,rs,rfl,n,hd,u,rfl⟩,q⟩:=h;refine⟨rfl,_,⟨rs,rfl,n,rfl⟩,λo y=>?_⟩;refine vm n ?_;refine⟨rfl,_,⟨m,_,rfl,by omega,by decide+kernel,by omega,rfl⟩,λz G r h2=>?_⟩;refine d8 h2 ?_;have B:z[o.length]?=some (.dct (dg rs)):=r.get aE;refine Fq h2 (λτ=>∃a b,τ=[some (enc m),some (fy rs),some (.ref o.length),a,b]) _ _ ⟨none,none,rfl⟩ (λx j τ k H C=>?_) (λτ _=>q _ ((y.trans Gr.push).trans r));obtain⟨a,b,rfl⟩:=k;obtain⟨p,D,rfl⟩:=aJ.mp j;have E:p.2∈m.names:=by rw[<-p8 m ""];exact cQ D
 refine⟨rfl,iL B rfl ?_⟩;rw[nX rs p.2 (u _ E)];exact C _ ⟨_,_,rfl⟩
theorem OR(T:TopD K mg "greatest_divisor" JD sV):aj P w K mg base 1 "greatest_divisor" sV (ak mg 2 zf):=by
 refine bH T WY λp s t u nd=>⟨_,(av (z5 dQ (B4 (vr 1) ai) (av (dS 2 nd (mQ (vr 0) (vr 1)))
  (av (dS 0 nd (vr 1))
  (ay (dS 1 nd (vr 2))))))
  (ay (aN (vr 0)))),λds A R h z=>?_⟩
 obtain⟨v,⟨a,b,rfl,i,j,rfl⟩,q⟩:=h;refine⟨λn τ A'=>A'=A/\∃(x y:Int) (r:Option D),τ=[some (.int x),some (.int y),r]/\0<=x/\0<=y/\Int.gcd x y=Int.gcd a b/\n=y.toNat,⟨_,rfl,a,b,none,rfl,i,j,rfl,rfl⟩,?_⟩;rintro n τ A' ⟨rfl,x,y,r,rfl,h0,h1,g,rfl⟩;refine cD (λc=>?_) (λc=>?_)
 .refine⟨λτ k=>k=A'/\∃(f d:Int) (r:Option D),τ=[some (.int f),some (.int d),r]/\0<=f/\0<=d/\Int.gcd f d=Int.gcd a b/\d.toNat<y.toNat,λbB A' ⟨e,f,d,r',h1,h2,l,m,o⟩=>⟨_,o,e,f,d,r',h1,h2,l,m,rfl⟩,?_⟩
  have m0:=qO x (show y≠0 by omega);have B:=qN x (show 0<y by omega);exact⟨c,rfl,y,x%y,_,rfl,h1,m0,by rw[Qf h0 c];exact g,by omega⟩
 .have e:y=0:=by omega
  subst e;have:(x:Int)=(Int.gcd a b:Int):=by rw[<-g,Int.gcd_zero_right];omega
  show R (.int x) A';rw[this];exact q _ Gr.refl
theorem Pu(T:TopD K mg "reduced" JZ sZ)(c:aj P w K mg base 1 "greatest_divisor" sV (ak mg 2 zf)):aj P w K mg base 2 "reduced" sZ (ak mg 2 zq):=by
 refine bH T Xj λf m g o nd=>⟨_,(av (dS 2 nd (dL c f g (aa (vr 0) (aa (vr 1) af))))
  (ay (aN (bX (aa (pJ (vr 0) (vr 2)) (aa (pJ (vr 1) (vr 2)) af)))))),λds A R h i=>?_⟩
 obtain⟨v,⟨a,b,rfl,j,p,hz,rfl⟩,q⟩:=h;have d:0<(Int.gcd a b:Int):=by
  have:=Int.gcd_pos_of_ne_zero_left b (show a≠0 by omega);omega
 have i:(Int.gcd a b:Int)<=a:=le_of_dvd j (uC a b);have e:(Int.gcd a b:Int).natAbs.log2<9000:=by
  have h1:(Int.gcd a b:Int).natAbs<2 ^ 2000:=by omega
  have:=(Nat.log2_lt (n:=(Int.gcd a b:Int).natAbs) (k:=2000) (by omega)).mpr h1;omega
 refine⟨rfl,_,⟨a,b,rfl,by omega,by omega,rfl⟩,λr l=>?_⟩;exact⟨⟨d,e⟩,⟨d,e⟩,show 2<=sizeLine by decide,q _ l⟩
end My
namespace DP
open L2 MA
def fq(x:Rat):D:=.tup [.int (rf x).1,.int (rf x).2]
def oF(p:Str×Str×Rat):D:=.tup [.str p.1,.str p.2.1,fq p.2.2]
theorem BB{a b:Int}(c:0<b):rd a b=rf ((a:Rat)/(b:Rat)):=xM c
def kB:Ct:=λds A R _=>∃a b c d:Int,ds=[.tup [.int a,.int b],.tup [.int c,.int d]]/\0<a/\0<b/\0<c/\0<d/\c<2 ^ 64/\d<2 ^ 64/\a*c<2 ^ 2000/\∀A',Gr A A'->R (fq (((a:Rat)/(b:Rat))*((c:Rat)/(d:Rat)))) A'
theorem mul_div{a b c d:Int}(e:0<b)(hd:0<d):((a*c:Int):Rat)/((b*d:Int):Rat)=((a:Rat)/(b:Rat))*((c:Rat)/(d:Rat)):=by
 have h1:=ie (k_ e);have h2:=ie (k_ hd);rw[gI,gI];grind
def DQ(d:Nat):Ct:=λds A R _=>∃m w x,ds=[enc m,.str w,fq x]/\m.arms/\m.deep<d/\d<=6/\w.length+d<=100/\0<x/\(rf x).1*18 ^ m.deep<=1000000000/\∀A' q,Gr A A'->A'[q]?=some (.lst ((bF m w x).map oF))->A.length<=q->R (.ref q) A'
def rz:Ct:=λds A R _=>∃m,ds=[enc m]/\Wf m/\m.deep<=5/\∀A' q,Gr A A'->A'[q]?=some (.lst ((bF m "" 1).map oF))->A.length<=q->R (.ref q) A'
theorem Eh{a:Int}(h:a<=1000000000000):a<2 ^ 2000:=qx h (yE (show(1000000000000:Int)<2 ^ 64 by decide) (by
 have:(2:Nat) ^ 64<=2 ^ 2000:=fF (by decide) (by decide);exact_mod_cast this))
end DP
namespace My
open L2 DP MA
theorem Po(T:TopD K mg "product" JW oz)(e:aj P w K mg base 2 "reduced" sZ (ak mg 2 zq)):aj P w K mg base 3 "product" oz (ak mg 2 kB):=by
 refine bH T Xg λj s k f nd=>⟨_,(ay (aN (dL e j k (aa (fm (dX f (vr 0) ai) (dX f (vr 1) ai)) (aa (fm (dX f (vr 0) ai) (dX f (vr 1) ai)) af))))),λds A R h t=>?_⟩;obtain⟨a,b,c,d,rfl,h1,h2,l,i,m,n,o,q⟩:=h;refine⟨.inr ⟨by omega,m⟩,.inr ⟨by omega,n⟩,rfl,_,⟨_,_,rfl,gj h1 l,gj h2 i,o,rfl⟩,λp r=>?_⟩;have g:=q p r;rw[<-mul_div h2 i] at g;unfold fq at g;rw[<-BB (gj h2 i)] at g;exact g
theorem Pr(T:TopD K mg "quotient" JY qc)(f:aj P w K mg base 2 "reduced" sZ (ak mg 2 zq)):aj P w K mg base 3 "quotient" qc (ak mg 2 (λds A R E=>∃a b c d:Int,ds=[.tup [.int a,.int b],.tup [.int c,.int d]]/\kB [.tup [.int a,.int b],.tup [.int d,.int c]] A R E)):=by
 refine bH T Xi λk t l g nd=>⟨_,(ay (aN (dL f k l (aa (fm (dX g (vr 0) ai) (dX g (vr 1) ai)) (aa (fm (dX g (vr 0) ai) (dX g (vr 1) ai)) af))))),λds A R h u=>?_⟩;obtain⟨a,b,c,d,rfl,v,x,d',c',e,h1,h2,m,j,n,o,p,q⟩:=h;cases e;refine⟨.inr ⟨by omega,n⟩,.inr ⟨by omega,o⟩,rfl,_,⟨_,_,rfl,gj h1 m,gj h2 j,p,rfl⟩,λr s=>?_⟩;have i:=q r s;rw[<-mul_div h2 j] at i;unfold fq at i;rw[<-BB (gj h2 j)] at i;exact i
theorem PB(T:TopD K mg "shares_below" J4 xA)(e:aj P w K mg base 3 "product" oz (ak mg 2 kB)):∀d,aj P w K mg base (d+3) "shares_below" xA (ak mg 3 (DQ d)):=by
 intro d;induction d with
 |zero=>
  refine nW T λds A R RE h=>?_;obtain⟨m,w,x,_,_,h,_⟩:=h;omega
 |succ d c=>
  refine jY T Kd rfl (by decide) λN RE f D B outer s H E j U k ds A R h V=>?_;have g:=j.units;have nd:=Kd.nd;refine⟨_,(av (bJ (d_ g (dX g (vr 0) ai) bG) (ay (aN (cH (aa (bX (aa (vr 1) (aa (dX g (vr 0) ai) (aa (vr 2) af)))) af)))) bM)
  (av (dS 3 nd (c8 (dX g (vr 0) ai) (dX g (vr 0) ai)))
  (av (dS 4 nd (dL e j k (aa (vr 2) (aa (bX (aa (dX g (vr 0) ai) (aa (vr 3) af))) af))))
  (av (dS 5 nd (dL e j k (aa (vr 2) (aa (bX (aa (dX g (vr 0) ai) (aa (vr 3) af))) af))))
  (ay (aN (c8 (dL c j k (aa (dX g (vr 0) ai) (aa (c8 (vr 1) bG) (aa (vr 4) af)))) (dL c j k (aa (dX g (vr 0) ai) (aa (c8 (vr 1) bG) (aa (vr 5) af))))))))))),?_⟩
  obtain⟨m,w,x,rfl,F,hd,W,X,i,o,q⟩:=h;have Y:(1000:Nat)<=sizeLine:=by decide
  cases m with
  |wt n=>exact⟨show 3<=sizeLine by decide,show 1<=sizeLine by decide,q _ _ Gr.push aE (aF _)⟩
  |bS l r a b=>
   have G:max a.deep b.deep+1<d+1:=hd;obtain⟨u,Z,v,r4,p,t⟩:=F;have ll:("l":Str).length=1:=by decide+kernel
   have lr:("r":Str).length=1:=by decide+kernel
   have al:∀x y:Str,(x++y).length=x.length+y.length:=λx y=>um;have np:=eL i;have dp:=cX x;have o:(rf x).1*18 ^ (max a.deep b.deep+1)<=1000000000:=o;have n1:(rf (x*((r:Rat)/((l+r:Int):Rat)))).1<=(rf x).1*18:=e_ (num_mul (by omega) (mul_nonneg (by omega) (by omega))) (qL (by omega) (by omega));have n2:(rf (x*((l:Rat)/((l+r:Int):Rat)))).1<=(rf x).1*18:=e_ (num_mul (by omega) (mul_nonneg (by omega) (by omega))) (qL (by omega) (by omega));obtain⟨k1,_,k0⟩:=Fe o n1 np;obtain⟨_,k2,_⟩:=Fe o n2 np;have p1:0<x*((r:Rat)/((l+r:Int):Rat)):=aV.step_pos u v i;have p2:0<x*((l:Rat)/((l+r:Int):Rat)):=by
    have:=aV.step_pos (l:=r) (r:=l) v u i;rwa [add_comm r l] at this
   have m1:(rf x).1*r<=1000000000*18:=eE k0 (by omega) (by omega) (by omega);have m2:(rf x).1*l<=1000000000*18:=eE k0 (by omega) (by omega) (by omega);have I:(18:Int)<2 ^ 64:=by decide
   refine⟨show 2<=sizeLine by decide,rfl,_,_,_,_,rfl,np,dp,by omega,by omega,by omega,by omega,Eh (by omega),λA1 J=>?_⟩;refine⟨show 2<=sizeLine by decide,rfl,_,_,_,_,rfl,np,dp,by omega,by omega,by omega,by omega,Eh (by omega),λA2 L=>?_⟩;rw[gp];refine⟨by omega,rfl,a,_,_,rfl,p,by omega,by omega,by rw[al];omega,p1,k1,λA3 q3 M O _=>?_⟩;refine⟨by omega,rfl,b,_,_,rfl,t,by omega,by omega,by rw[al];omega,p2,k2,λQ q4 z S _=>?_⟩;have z1:=jb (m:=a) (by omega);have z2:=jb (m:=b) (by omega);have C:Gr A Q:=((J.trans L).trans M).trans z;refine iX (z.get O) S (by simp[ng];omega) (q _ _ (C.trans Gr.push) ?_ C.len);rw[aE];simp[bF]
theorem Pz(T:TopD K mg "shares" J3 oA)(a:aj P w K mg base 9 "check_mobile" m7 (ak mg 1 pB))(b:aj P w K mg base 9 "shares_below" xA (ak mg 3 (DQ 6))):aj P w K mg base 10 "shares" oA (ak mg 1 rz):=by
 refine bH T Xm λc j d k nd=>⟨_,(av (c_ (dL a c d (aa (vr 0) af)))
  (ay (aN (dL b c d (aa (vr 0) (aa bG (aa (bX (aa ai (aa ai af))) af))))))),λds A R h l=>?_⟩
 obtain⟨m,rfl,f,hd,q⟩:=h;refine⟨rfl,_,⟨m,rfl,f,hd,rfl⟩,λn g=>?_⟩;have o:(D.tup [.int 1,.int 1])=fq 1:=rfl;refine⟨show 2<=sizeLine by decide,rfl,m,_,1,rfl,f.arms,by omega,by omega,by decide+kernel,by decide,?_,λr s i h2 l2=>q _ _ (g.trans i) h2 (cG g.len l2)⟩;have p:=s_ hd;have e:(18:Int) ^ 5=1889568:=by decide
 rw[e] at p;show(1:Int)*18 ^ m.deep<=1000000000;omega
end My
namespace DP
open L2 MA
def bD:Option (Str×Str)->D
 |some p=>.tup [.str p.1,.str p.2]
 |none=>.aG
def rq:Ct:=λds A R _=>∃m,ds=[enc m]/\Wf m/\m.deep<=5/\∀A',Gr A A'->R (bD (cR [] (bF m "" 1))) A'
theorem pT(k:Key)(v:D)(c:Key):∀kvs:List (Key×D),bw (b5 kvs k v) c=if k=c then some v else bw kvs c:=by
 intro kvs;by_cases f:(kvs.any λb=>decide (b.1=k))=true
 .have e:b5 kvs k v=kvs.map λb=>if b.1=k then (b.1,v) else b:=by
   unfold b5;rw[aA f]
  rw[e];clear e;induction kvs with
  |nil=>simp at f
  |cons p r i=>
   by_cases d:p.1=k
   .rw[cO,aA d]
    unfold bw;by_cases a:k=c
    .rw[aA a,aA (by rw[<-a];exact d)]
    .rw[ao a,ao (λz=>a (by rw[<-d];exact z))]
     rw[ao (λz=>a (by rw[<-d];exact z))];by_cases h:(r.any λb=>decide (b.1=k))=true
     .rw[i h,ao a]
     .have:r.map (λb=>if b.1=k then (b.1,v) else b)=r:=by
       rw[ue (g:=id)]
       .simp
       .intro q j
        rw[ao]
        .rfl
        .intro z
         exact h (jL.mpr ⟨q,j,dR z⟩)
      rw[this]
   .have h:(r.any λb=>decide (b.1=k))=true:=by simpa[d] using f
    rw[cO,ao d];unfold bw;by_cases a:p.1=c
    .rw[aA a,ao (λz=>d (by rw[z];exact a)),aA a]
    .rw[ao a,ao a]
     exact i h
 .have e:b5 kvs k v=kvs++[(k,v)]:=by
   unfold b5;rw[ao f]
  rw[e];clear e;induction kvs with
  |nil=>simp[bw]
  |cons p r i=>
   have d:p.1≠k:=λz=>f (by simp[z]);have h:¬(r.any λb=>decide (b.1=k))=true:=λz=>f (by simp[z]);show(if p.1=c then some p.2 else bw (r++[(k,v)]) c)=if k=c then some v else (if p.1=c then some p.2 else bw r c)
   by_cases a:p.1=c
   .rw[aA a,ao (λz=>d (by rw[z];exact a)),aA a]
   .rw[ao a,ao a]
    exact i h
theorem VM(kvs:List (Key×D))(k:Key)(v:D):(b5 kvs k v).length<=kvs.length+1:=by
 unfold b5;split<;>simp
theorem xJ{A:Ar}{r:Nat}{kvs:List (Key×D)}{y v:D}{k:Key}{R:Ar->Prop}(h:A[r]?=some (.dct kvs))(a:gm y=some k)(b:kvs.length<sizeLine)(q:R (A.set r (.dct (b5 kvs k v)))):tu r y v A R:=by
 unfold tu;simp only[h,a];exact⟨b,q⟩
theorem Ao{A:Ar}{r:Nat}{c c':C}(h:A[r]?=some c):(A.set r c')[r]?=some c':=by
 rw[eB (bY.mp h).1]
theorem AL(x:Rat):(toQ (fq x)).canLay0=true:=by simp[fq,toQ,bR,canLay0,canLayAll0]
theorem NI(x:Rat):(toQ (fq x)).depth<=64:=by simp[fq,toQ,bR,PyData.depth,depthAll]
theorem Ol(x y:Rat):PyData.eqv (toQ (fq x)) (toQ (fq y))=decide (x=y):=by
 by_cases h:x=y
 .subst h
  simp[fq,toQ,bR,PyData.eqv,eqvAll]
 .rw[fY h]
  have:¬((rf x).1=(rf y).1/\(rf x).2=(rf y).2):=λz=>h (V3 (Prod.ext z.1 z.2));by_cases h1:(rf x).1=(rf y).1
  .have h2:¬(rf x).2=(rf y).2:=λz=>this ⟨h1,z⟩
   simp[fq,toQ,bR,PyData.eqv,eqvAll,h2]
  .simp[fq,toQ,bR,PyData.eqv,eqvAll,h1]
theorem wc{x y:Rat}{A:Ar}{R:DK}(k:R (.bl (!decide (x=y))) A):gR true (fq x) (fq y) A R:=by
 unfold gR;have h1:cY A (fq x)=toQ (fq x):=rfl;have h2:cY A (fq y)=toQ (fq y):=rfl;rw[h1,h2];have:=NI x;refine⟨rfl,rfl,AL x,AL y,by omega,?_⟩;rw[Ol];exact k
theorem FP{pre:List (Str×Str×Rat)}{p:Str×Str×Rat}{n:Str}:(pre++[p]).find? (λq=>decide (q.2.1=n))=match pre.find? (λq=>decide (q.2.1=n)) with|some q=>some q|none=>if p.2.1=n then some p else none:=by
 rw[find?_append];cases pre.find? (λq=>decide (q.2.1=n)) with
 |some q=>rfl
 |none=>
  by_cases h:p.2.1=n
  .simp[h]
  .simp[h]
end DP
namespace My
open L2 DP MA
theorem OA(T:TopD K mg "bar" Jq ow)(f:aj P w K mg base 10 "shares" oA (ak mg 1 rz)):aj P w K mg base 11 "bar" ow (ak mg 1 rq):=by
 refine bH T WK λO Y Q o nd=>⟨_,(av (dS 1 nd zU)
  (av (eH dQ rfl (cC (dL f O Q (aa (vr 0) af))) (kF rfl (dH (dG 2 nd) (dH (dG 3 nd) (dH (dG 4 nd) kG)))) (ay (bJ (ql o (vr 3) (vr 1)) (ay (vz o (vr 1) (vr 3) (bX (aa (vr 2) (aa (vr 4) af))) rfl)) (ay (bJ (j7 o (dX o (dX o (vr 1) (vr 3)) ai) (vr 4)) (ay (aN (bX (aa (dX o (dX o (vr 1) (vr 3)) ai) (aa (vr 2) af))))) bM)))))
  (ay (aN jX)))),λds A R h Z=>?_⟩
 obtain⟨m,rfl,S,hd,q⟩:=h;obtain⟨r,k⟩:∃t,t=cR [] (bF m "" 1):=⟨_,rfl⟩;rw[<-k] at q;refine⟨rfl,m,rfl,S,hd,λU M H h1 l1=>?_⟩;have l1:A.length+1<=M:=by simpa using l1
 refine d8 h1 ?_;have ln:=ng m "" 1;have nl:=jb hd;have hz:(1000:Nat)<=sizeLine:=by decide
 have V:=H.get (aE (A:=A) (c:=C.dct []));refine eG (λrest τ A'=>∃(pre a:List (Str×Str×Rat)) (kvs:List (Key×D)) (x y z:Option D),rest=a.map oF/\τ=[some (enc m),some (.ref A.length),x,y,z]/\pre++a=bF m "" 1/\cR pre a=r/\A'[A.length]?=some (.dct kvs)/\kvs.length<=pre.length/\(∀n:Str,bw kvs (Sum.inr n)=(pre.find? λq=>decide (q.2.1=n)).map λp=>.tup [.str p.1,fq p.2.2])/\cK A.length U A'/\A.length+1<=A'.length) ?_ ?_ ?_ _ _ _ ⟨[],bF m "" 1,[],none,none,none,rfl,rfl,rfl,k.symm,V,aF _,λn=>rfl,cK.refl,by have:=H.len;simpa using this⟩
 .rintro rest τ A' ⟨pre,a,kvs,x,y,z,_,_,_,_,_,_,_,b,_⟩
  exact b M _ (by omega) h1
 .rintro v rest τ A' ⟨pre,a,kvs,x,y,z,e,rfl,I,d,s,W,J,b,u⟩ Nx N
  cases a with
  |nil=>cases e
  |cons p a=>
   cases e;obtain⟨l,n,i⟩:=p;have g:=J n;have X:pre.length<=32:=by
    have:(pre++(l,n,i)::a).length=(bF m "" 1).length:=by rw[I]
    simp at this;omega
   unfold cR at d;refine⟨rfl,iL s rfl ?_⟩;cases j:pre.find? (λq=>decide (q.2.1=n)) with
   |none=>
    rw[j] at g d;have g:bw kvs (Sum.inr n)=none:=g;rw[g];refine⟨show 2<=sizeLine by decide,xJ s rfl (by omega) ?_⟩;refine N _ _ ⟨pre++[(l,n,i)],a,_,_,_,_,rfl,rfl,by simpa using I,d,Ao s,?_,λn'=>?_,b.trans cK.set,by simpa using u⟩
    .have:=VM kvs (Sum.inr n) (.tup [.str l,fq i])
     simp;omega
    .rw[pT,FP]
     by_cases E:n=n'
     .subst E
      rw[aA rfl,j];simp
     .rw[ao (λz=>E (Sum.inr.inj z)),J n']
      cases pre.find? (λq=>decide (q.2.1=n')) with
      |some q=>rfl
      |none=>simp[E]
   |some B=>
    rw[j] at g d;have g:bw kvs (Sum.inr n)=some (.tup [.str B.1,fq B.2.2]):=g;rw[g];refine fH s rfl g ?_;refine wc ?_;by_cases L:B.2.2=i
    .have d:(if B.2.2=i then cR (pre++[(l,n,i)]) a else some (B.1,l))=r:=d
     rw[aA L] at d;refine cN (λc=>absurd L c) (λ_=>?_);refine N _ _ ⟨pre++[(l,n,i)],a,kvs,_,_,_,rfl,rfl,by simpa using I,d,s,by simp;omega,λn'=>?_,b,u⟩;rw[FP,J n'];cases F:pre.find? (λq=>decide (q.2.1=n')) with
     |some q=>rfl
     |none=>
      by_cases E:n=n'
      .subst E
       rw[j] at F;cases F
      .simp[E]
    .have d:(if B.2.2=i then cR (pre++[(l,n,i)]) a else some (B.1,l))=r:=d
     rw[ao L] at d;refine cN (λ_=>?_) (λc=>absurd c L);refine fH s rfl g ?_;refine⟨show 2<=sizeLine by decide,?_⟩;have G:=q A' (Gr.HR (Gr.push.trans H) (aF _) b);rw[<-d] at G;exact G
 .rintro τ A' ⟨pre,a,kvs,x,y,z,e,rfl,I,d,s,W,J,b,u⟩
  cases a with
  |cons p a=>cases e
  |nil=>
   have G:=q A' (Gr.HR (Gr.push.trans H) (aF _) b);rw[<-d] at G;exact G
theorem OE(T:TopD K mg "_law_cell_at" I_ wB)(a:mg "len"=none):aj P w K mg base 1 "_law_cell_at" wB (ak mg 2 Dd):=by
 refine bH T Wu λi j l d nd=>⟨_,(av (bJ (B6 (vr 1) (dO iW iu a jk (aa (vr 0) af))) (ay (aN (dX d (vr 0) (vr 1)))) bM)
  (av (bJ (d_ d (vr 0) (cH af)) (ay (aN ai)) bM)
  (ay (aN (c8 (fm (dX d (vr 0) (mQ (vr 1) (dO iW iu a jk (aa (vr 0) af)))) ai) (vr 1)))))),λds A R h m=>?_⟩
 obtain⟨ns,k,rfl,g,q⟩:=h;refine cD (λc=>?_) (λc=>?_)
 .obtain⟨v,e,_⟩:=uV g c
  conv=>whnf
  rw[e];exact q v _ Gr.refl
 .refine⟨bP _,Oh ?_⟩
  refine cD (λf=>?_) (λf=>?_)
  .exact q _ _ Gr.push
  .have b:0<(ns.length:Int):=by
    have:=ye.mpr f;omega
   obtain⟨v,e,_⟩:=uV (xs:=ns) (qO k (by omega)) (qN k b);refine⟨b,?_⟩;conv=>whnf
   rw[e];exact⟨.inr ⟨by decide,by decide⟩,q _ _ Gr.push⟩
theorem O_(T:TopD K mg "_law_mixed" Jg wH)(a:aj P w K mg base 1 "_law_cell_at" wB (ak mg 2 Dd)):aj P w K mg base 2 "_law_mixed" wH (ak mg 3 DC):=by
 refine bH T WB λc f d j nd=>⟨_,(av (dS 3 nd (mQ (c8 (c8 (fm (dL a c d (aa (vr 0) (aa (vr 1) af))) ai) (fm ai (vr 1))) ai) ai))
  (ay (aN (mQ (mQ (mQ (ND (vr 3) ai) ai) ai) (vr 2))))),λds A R h l=>?_⟩
 obtain⟨ns,k,m,rfl,e,b,q⟩:=h;refine⟨rfl,ns,k,rfl,e,λi A' g=>?_⟩;refine⟨.inr ⟨by decide,by decide⟩,.inl ⟨by decide,by decide⟩,(by decide:(0:Int)<2147483647),?_⟩;have n:=qO (i*1103515245+7919*k+12345) (show(2147483647:Int)≠0 by decide);have o:=qN (i*1103515245+7919*k+12345) (show(0:Int)<2147483647 by decide);refine⟨⟨by decide,by decide,?_⟩,(by decide:(0:Int)<2147483647),(by decide:(0:Int)<999983),b,?_⟩
 .have:(2147483647:Nat)<2 ^ 64:=by decide
  omega
 exact q _ _ (qO _ (by omega)) (qN _ b) g
theorem OO(T:TopD K mg "_law_draw" Ja kT)(b:mg "len"=none)(a:aj P w K mg base 2 "_law_mixed" wH (ak mg 3 DC)):aj P w K mg base 3 "_law_draw" kT (ak mg 3 mF):=by
 refine bH T Wv λe k f l nd=>⟨_,(av (c_ (gS g_ jK jM ja jw (vr 1) (aa ai af)))
  (ay (aN (dL a e f (aa (vr 0) (aa (dO iW iu b jk (aa (vr 1) af)) (aa (vr 2) af))))))),λds A R h o=>?_⟩
 obtain⟨ns,t,m,n,rfl,⟨xs,d,hz⟩,p,j,q⟩:=h;refine⟨gE d,iV d (by rw[sizeLine];omega) ?_⟩;have c:(A.set t (.lst (xs++[.int 0])))[t]?=some (.lst (xs++[.int 0])):=get_set d;refine vS c ⟨rfl,ns,_,m,rfl,by omega,j,λi A' h0 h1 g=>?_⟩;exact q i A' h0 h1 (cK.set.trans g.but) (Tw.gr ⟨_,c,by simpa using hz⟩ g)
theorem Pn(T:TopD K mg "_law_pick" Jk m6)(c:mg "len"=none)(a:aj P w K mg base 3 "_law_draw" kT (ak mg 3 mF)):aj P w K mg base 4 "_law_pick" m6 (ak mg 3 nL):=by
 refine bH T WE λd o e g nd=>⟨_,(ay (aN (dX g (vr 2) (dL a d e (aa (vr 0) (aa (vr 1) (aa (dO iW iu c jk (aa (vr 2) af)) af))))))),λds A R h p=>?_⟩;obtain⟨ns,t,r,xs,n,rfl,f,d,e,j,k,q⟩:=h;have s:=ye.mpr e;refine vS d ⟨rfl,ns,t,_,n,rfl,j,k,by omega,λi A' h0 h1 b t'=>?_⟩;obtain⟨v,l,m⟩:=uV h0 h1;exact kK (b r _ f d) l (q v A' m b t')
theorem Pa(T:TopD K mg "_law_mobile" Jh wI)(a:aj P w K mg base 3 "_law_draw" kT (ak mg 3 mF))(g:aj P w K mg base 4 "_law_pick" m6 (ak mg 3 nL)):∀d,aj P w K mg base (d+4) "_law_mobile" wI (ak mg 4 (DE d)):=by
 intro d;induction d with
 |zero=>
  refine nW T λds A R RE h=>?_;obtain⟨ns,t,q,p,n,_,h,_⟩:=h;omega
 |succ d e=>
  refine jY T J_ rfl (by decide) λN RE f Z B outer s H E o hR l ds A R h hl=>?_;have S:=o.units;have nd:=J_.nd;refine⟨_,(av (bJ (PW.pt (gU (d_ S (vr 3) ai) (iJ (d_ S (dL a o l (aa (vr 0) (aa (vr 1) (aa ai af)))) ai)))) (ay (aN (bX (aa bG (aa (dL g o l (aa (vr 0) (aa (vr 1) (aa (vr 2) af)))) af))))) bM)
  (av (dS 4 nd (dL g o l (aa (vr 0) (aa (vr 1) (aa (cH (aa ai (aa ai (aa ai (aa ai af))))) af)))))
  (av (vv (i:=5) (j:=6) rfl nd rfl rfl (by decide) rfl rfl (aa (c8 ai (dL a o l (aa (vr 0) (aa (vr 1) (aa (vr 4) af))))) (aa (c8 ai (dL a o l (aa (vr 0) (aa (vr 1) (aa (vr 4) af))))) af)) rfl)
  (av (dS 7 nd (dL e o l (aa (vr 0) (aa (vr 1) (aa (vr 2) (aa (rX (vr 3) ai) af))))))
  (ay (aN (bX (aa bG (aa (vr 5) (aa (vr 6) (aa (vr 7) (aa (dL e o l (aa (vr 0) (aa (vr 1) (aa (vr 2) (aa (rX (vr 3) ai) af))))) af)))))))))))),?_⟩
  obtain⟨ns,t,r,p,n,rfl,_,m,M,u,v,U,hc,q⟩:=h;have hcs:=MN d;have hcp:=MM (d+1);have G:((d+1:Nat):Int) - 1=(d:Int):=by omega
  have leaf:∀F n1,cK t A F->Tw t n1 F->n<=n1->n1+1<=n+cst (d+1)->nL [.fl ns,.ref t,.ref r] F (λx A'=>2<=sizeLine/\R (.tup [.str "weight",x]) A') RE:=λF n1 I t1 h0 h1=>by
   refine⟨ns,t,r,_,n1,rfl,m,I r _ m M,by simpa using u,t1,by omega,λx A' l b t'=>⟨by decide,?_⟩⟩;obtain⟨y,V,rfl⟩:=aJ.mp l;have one:∀z∈aV.names (aV.wt y),z=y:=λz hz=>by simpa[aV.names] using hz
   exact q (.wt y) A' ⟨trivial,λz hz=>by rw[one z hz];exact v y V⟩ (succ_pos _) (λz hz=>by rw[one z hz];exact V) ⟨I.trans b,t'.mono (by omega)⟩
  refine cD (λc=>⟨rfl,leaf A n cK.refl U (by omega) (by omega)⟩) (λc=>?_);refine⟨rfl,ns,t,4,n,rfl,U,by omega,by decide,λi F _ _ I t1=>?_⟩;refine cD (λc2=>⟨rfl,leaf F (n+1) I t1 (by omega) (by omega)⟩) (λc2=>?_);obtain⟨xs1,O,_⟩:=id t1;have hd0:0<d:=by omega
  have l1:=cz O;refine⟨show 4<=sizeLine by decide,rfl,ns,t,_,[.int 2,.int 3,.int 4,.int 9],n+1,rfl,by omega,aE,by simp,t1.gr Gr.push,by omega,λx A2 l b2 t2=>?_⟩;obtain⟨most,rfl,m0,m9⟩:∃k:Int,x=.int k/\2<=k/\k<=9:=by
   simp at l;rcases l with h|h|h|h<;>exact⟨_,h,by omega,by omega⟩
  refine⟨rfl,ns,t,most,n+2,rfl,t2,by omega,by omega,λi3 A3 i0 i1 b3 t3=>?_⟩;refine⟨rfl,ns,t,most,n+3,rfl,t3,by omega,by omega,λi4 A4 j0 j1 b4 t4=>?_⟩;have C:cK t A A4:=(((I.trans (Gr.push.but)).trans b2).trans b3).trans b4;refine⟨rfl,ns,t,r,p,n+4,show [D.fl ns,D.ref t,D.ref r,D.int (((d+1:Nat):Int) - 1 - 1)]=_ by rw[G],hd0,m,C r _ m M,u,v,t4,by omega,λJ A5 W d1 s1 Q=>?_⟩;refine⟨rfl,ns,t,r,p,n+4+cst d,show [D.fl ns,D.ref t,D.ref r,D.int (((d+1:Nat):Int) - 1 - 1)]=_ by rw[G],hd0,m,Q.but r _ m (C r _ m M),u,v,Q.tw,by omega,λL A6 X d2 s2 Y=>?_⟩;refine⟨show 5<=sizeLine by decide,q (.bS (1+i3) (1+i4) J L) A6 ⟨⟨by omega,by omega,by omega,by omega,W.arms,X.arms⟩,λx l=>?_⟩ (show max J.deep L.deep+1<d+1 by omega) (λx l=>?_) ⟨(C.trans Q.but).trans Y.but,Y.tw.mono (by omega)⟩⟩
  .rcases bU.mp (show x∈J.names++L.names from l) with h|h
   .exact W.nm x h
   .exact X.nm x h
  .rcases bU.mp (show x∈J.names++L.names from l) with h|h
   .exact s1 x h
   .exact s2 x h
theorem Tg{c:Nat}(h1:97<=c)(h2:c<=122):Nm ⟨#[c]⟩:=by
 refine⟨by show 1<=1;decide,by show 1<=3;decide,λx a=>?_⟩;have:x=c:=by simpa using a
 omega
theorem DY:("abcdefghijklmnopqrstuvwxyz":Str).cps.toList=(range 26).map (·+97):=by decide+kernel
theorem LZ{k:Int}(h0:0<=k)(h1:k<26):∃c,c6 ("abcdefghijklmnopqrstuvwxyz":Str).cps.toList k=some c/\97<=c/\c<=122:=by
 obtain⟨c,hc,a⟩:=uV (xs:=("abcdefghijklmnopqrstuvwxyz":Str).cps.toList) h0 (by rw[DY];simpa using h1);refine⟨c,hc,?_⟩;rw[DY] at a;obtain⟨j,b,rfl⟩:=aJ.mp a;have:=mem_range.mp b;omega
theorem OQ(T:TopD K mg "_law_fresh" Jc wD)(g:mg "len"=none):∀d,aj P w K mg base (d+1) "_law_fresh" wD (ak mg 2 (Dl d)):=by
 intro d;induction d with
 |zero=>
  refine nW T λds A R RE h=>?_;obtain⟨m,q,n,_,_,h,_⟩:=h;omega
 |succ d e=>
  refine jY T J9 rfl (by decide) λN RE f I B outer s H E t Y o ds A R h Z=>?_;have i:=t.units;have nd:=J9.nd;refine⟨_,(av (bJ (d_ i (dX i (vr 0) ai) bG) (av (c_ (gS g_ jK jM ja jw (vr 1) (aa ai af)))
  (ay (aN (bX (aa bG (aa (dX i bG (mQ (fm (dO iW iu g jk (aa (vr 1) af)) ai) ai)) af)))))) bM)
  (av (dS 2 nd (dL e t o (aa (dX i (vr 0) ai) (aa (vr 1) af))))
  (ay (aN (c8 (zW (vr 0) z3 (z4 ai)) (bX (aa (vr 2) (aa (dL e t o (aa (dX i (vr 0) ai) (aa (vr 1) af))) af)))))))),?_⟩
  obtain⟨m,r,n,rfl,J,hd,h8,⟨xs,p,hz⟩,hn,q⟩:=h;have p2:2 ^ (d+1)=2*2 ^ d:=by rw[pow_succ];omega
  have p0:0<2 ^ d:=pow_pos (by decide);have hsz:(1000000:Nat)<sizeLine:=by decide
  cases m with
  |wt y=>
   refine⟨gE p,iV p (by omega) ?_⟩;have j:(A.set r (.lst (xs++[.int 0])))[r]?=some (.lst (xs++[.int 0])):=get_set p;refine vS j ⟨.inr ⟨by decide,by decide⟩,(by decide:(0:Int)<26),?_⟩;obtain⟨c,hc,L,M⟩:=LZ (qO (((xs++[D.int 0]).length:Nat)*7:Int) (by decide)) (qN (((xs++[D.int 0]).length:Nat)*7:Int) (by decide));refine Ry hc (by decide+kernel) ⟨show 2<=sizeLine by decide,?_⟩;have one:∀z∈aV.names (aV.wt (⟨#[c]⟩:Str)),z=⟨#[c]⟩:=λz hz=>by simpa[aV.names] using hz
   exact q (.wt ⟨#[c]⟩) _ ⟨trivial,λz hz=>by rw[one z hz];exact Tg L M⟩ rfl ⟨cK.set,_,j,by simp;omega⟩
  |bS l r' a b=>
   have O:max a.deep b.deep+1<d+1:=hd;obtain⟨⟨h1,h2,Q,S,U,V⟩,k⟩:=J;refine⟨rfl,a,r,n,rfl,⟨U,λx h=>k x (by simp[aV.names,h])⟩,by omega,by omega,⟨xs,p,hz⟩,by omega,λu A1 C W ra=>?_⟩;refine⟨show ¬(HT.bu 5 0 none=0/\HT.bu 5 5 (some 3)=5) by decide,rfl,b,r,n+2 ^ d,rfl,⟨V,λx h=>k x (by simp[aV.names,h])⟩,by omega,by omega,ra.tw,by omega,λv X F db G=>?_⟩;refine⟨show 2<=sizeLine by decide,show 3+2<=sizeLine by decide,?_⟩;refine q (.bS l r' u v) X ⟨⟨h1,h2,Q,S,C.arms,F.arms⟩,λx o=>?_⟩ (show max u.deep v.deep+1=max a.deep b.deep+1 by rw[W,db]) ⟨ra.but.trans G.but,G.tw.mono (by omega)⟩;rcases bU.mp (show x∈u.names++v.names from o) with h|h
   .exact C.nm x h
   .exact F.nm x h
theorem HH:Nm "a":=⟨by decide+kernel,by decide+kernel,by decide+kernel⟩
theorem HJ:Nm "b":=⟨by decide+kernel,by decide+kernel,by decide+kernel⟩
theorem Te:Nm "c":=⟨by decide+kernel,by decide+kernel,by decide+kernel⟩
theorem Th:Nm "x":=⟨by decide+kernel,by decide+kernel,by decide+kernel⟩
theorem Tf:Nm "kk":=⟨by decide+kernel,by decide+kernel,by decide+kernel⟩
theorem Ti:∀x∈(["a"]:List Str),Nm x:=λx h=>by
 rw[bE.mp h];exact HH
theorem Tj:∀x∈(["a","b"]:List Str),Nm x:=λx h=>by
 rcases aY.mp h with e|h
 .rw[e]
  exact HH
 rw[bE.mp h];exact HJ
theorem Tn:∀x∈(["x","b","kk","c"]:List Str),Nm x:=λx h=>by
 rcases aY.mp h with e|h
 .rw[e]
  exact Th
 rcases aY.mp h with e|h
 .rw[e]
  exact HJ
 rcases aY.mp h with e|h
 .rw[e]
  exact Tf
 rw[bE.mp h];exact Te
theorem PC(T:TopD K mg "_law_some" Jl wL)(f:aj P w K mg base 3 "_law_draw" kT (ak mg 3 mF))(j:aj P w K mg base 4 "_law_pick" m6 (ak mg 3 nL))(FM:∀d,aj P w K mg base (d+4) "_law_mobile" wI (ak mg 4 (DE d)))(b:aj P w K mg base 9 "_law_fresh" wD (ak mg 2 (Dl 8)))(dd:Nat)(s:dd<=4):aj P w K mg base 10 "_law_some" wL (ak mg 3 (DS dd)):=by
 have a:=(FM (dd+1)).mono (show dd+1+4<=9 by omega);refine bH T WG λo hR hx Q nd=>⟨_,(av (dS 3 nd (dL a o hx (aa (vr 0) (aa (vr 1) (aa (dL j o hx (aa (vr 0) (aa (vr 1) (aa (cH (aa (cH (aa bG af)) (aa (cH (aa bG (aa bG af))) (aa (cH (aa bG (aa bG (aa bG (aa bG af))))) af)))) af)))) (aa (vr 2) af))))))
  (ay (aN (vh (d_ Q (dL f o hx (aa (vr 0) (aa (vr 1) (aa ai af)))) ai) (vr 3) (dL b o hx (aa (vr 3) (aa (cH af) af))))))),λds A R h hl=>?_⟩
 obtain⟨ns,t,n,rfl,H,hn,q⟩:=h;obtain⟨S,u,U⟩:=id H;have l0:=cz u;have V:=ML s;have W:(1:Nat)<=sizeLine:=by decide
 have X:(2:Nat)<=sizeLine:=by decide
 have Y:(3:Nat)<=sizeLine:=by decide
 have s4:(4:Nat)<=sizeLine:=by decide
 refine⟨W,X,s4,Y,rfl,ns,t,_,_,n,rfl,?_,aE,by simp,((((H.gr Gr.push).gr Gr.push).gr Gr.push).gr Gr.push),by omega,λx I hx p t1=>?_⟩
 .simp;omega
 have g:Gr A (A++[C.lst [D.str "a"]]++[C.lst [D.str "a",D.str "b"]]++[C.lst [D.str "x",D.str "b",D.str "kk",D.str "c"]]++[C.lst [D.ref A.length,D.ref (A++[C.lst [D.str "a"]]).length,D.ref (A++[C.lst [D.str "a"]]++[C.lst [D.str "a",D.str "b"]]).length]]):=((Gr.push.trans Gr.push).trans Gr.push).trans Gr.push;have e1:(A++[C.lst [D.str "a"]]).length=A.length+1:=by simp
 have e2:(A++[C.lst [D.str "a"]]++[C.lst [D.str "a",D.str "b"]]).length=A.length+2:=by simp
 obtain⟨r,k,rfl,v,h1,y,z⟩:∃(r:Nat) (k:List Str),x=.ref r/\r≠t/\I[r]?=some (.lst (k.map D.str))/\k≠[]/\∀x∈k,Nm x:=by
  rcases aY.mp hx with e|hx
  .exact⟨_,["a"],e,by omega,p _ _ (by omega) (getElem?_push (getElem?_push (getElem?_push aE))),by simp,Ti⟩
  rcases aY.mp hx with e|hx
  .exact⟨_,["a","b"],e,by omega,p _ _ (by omega) (getElem?_push (getElem?_push aE)),by simp,Tj⟩
  .exact⟨_,["x","b","kk","c"],bE.mp hx,by omega,p _ _ (by omega) (getElem?_push aE),by simp,Tn⟩
 have B:cK t A I:=g.but.trans p;refine⟨rfl,ns,t,r,k,n+1,show [D.fl ns,D.ref t,D.ref r,D.int (dd:Nat)]=_ by rw[show(((dd+1:Nat):Int) - 1)=(dd:Nat) by omega],by omega,v,h1,y,z,t1,by omega,λm A2 J dm _ L=>?_⟩;refine⟨rfl,ns,t,2,n+1+cst (dd+1),rfl,L.tw,by omega,by decide,λi M _ _ Z t3=>?_⟩;have E:Dr t A M n 200:=⟨(B.trans L.but).trans Z,t3.mono (by omega)⟩;refine cD (λc=>q m M J (by omega) E) (λc=>⟨bP _,rfl,m,_,0,rfl,J,by omega,by decide,⟨[],aE,aF _⟩,by decide,λm' A4 F Zu N=>?_⟩);refine q m' A4 F (by omega) ?_;obtain⟨G,l,ZJ⟩:=t3;have l3:=cz l;refine⟨λq c O h=>N.but q c ?_ (getElem?_push (E.but q c O h)),?_⟩
 .have:=cz (E.but q c O h)
  omega
 .exact⟨G,N.but t _ (by omega) (getElem?_push l),by omega⟩
end My
namespace DP
open L2 MA
def zv:Ct:=λds A R _=>∃ns t q nms n,ds=[.fl ns,.ref t,.ref q]/\q≠t/\A[q]?=some (.lst (nms.map D.str))/\nms.Pairwise strLt/\(∀x∈nms,Nm x)/\nms.length<64/\Tw t n A/\n+100<=1000000/\∀rs A',jt rs->rs.map (·.1)=nms->Dr t A A' n 100->R (fy rs) A'
end DP
namespace My
open L2 DP MA
theorem O6(T:TopD K mg "_law_leaves" Jf sO):∀d,aj P w K mg base (d+1) "_law_leaves" sO (ak mg 1 (zj d)):=by
 intro d;induction d with
 |zero=>
  refine nW T λds A R RE h=>?_;obtain⟨v,⟨m,_,h,_⟩,_⟩:=h;omega
 |succ d c=>
  refine jY T WA rfl (by decide) λN RE f k B outer s H E g t i ds A R h u=>?_;have e:=g.units;refine⟨_,(ay (aN (vh (d_ e (dX e (vr 0) ai) bG) (cH (aa (dX e (vr 0) ai) af)) (c8 (dL c g i (aa (dX e (vr 0) ai) af)) (dL c g i (aa (dX e (vr 0) ai) af)))))),?_⟩;obtain⟨v,⟨m,rfl,hd,x,rfl⟩,q⟩:=h;cases m with
  |wt n=>exact⟨show 1<=sizeLine by decide,q _ _ Gr.push aE⟩
  |bS l r a b=>
   have o:max a.deep b.deep+1<d+1:=hd;refine⟨rfl,_,⟨a,rfl,by omega,by omega,rfl⟩,λy z p h1=>?_⟩;refine⟨rfl,_,⟨b,rfl,by omega,by omega,rfl⟩,λC D j h2=>?_⟩;have n1:=aV.lR a;have n2:=aV.lR b;have p1:2 ^ a.deep<=2 ^ 8:=fF (by decide) (by omega);have p2:2 ^ b.deep<=2 ^ 8:=fF (by decide) (by omega);have hz:(512:Nat)<=sizeLine:=by decide
   refine iX (j.get h1) h2 (by rw[aM,aM];omega) (q _ _ ((p.trans j).trans Gr.push) ?_);rw[aE];simp[aV.names]
theorem Pf(T:TopD K mg "_law_names" Ji wJ)(b:mg "sorted"=none)(c:mg "set"=none)(a:aj P w K mg base 9 "_law_leaves" sO (ak mg 1 (zj 8))):aj P w K mg base 10 "_law_names" wJ (ak mg 1 DJ):=by
 refine bH T WC λe j f k nd=>⟨_,(ay (aN (zX b c rfl (aa (dL a e f (aa (vr 0) af)) af)))),λds A R h l=>?_⟩;obtain⟨m,rfl,hd,q⟩:=h;refine⟨rfl,_,⟨m,rfl,by omega,by omega,rfl⟩,λn o d h1=>?_⟩;have n1:=aV.lR m;have p1:2 ^ m.deep<=2 ^ 5:=fF (by decide) hd;refine BQ (ss:=m.names) h1 (by have:=strs_map id m.names;simpa using this) (by omega) λys g i=>?_;exact q _ _ ys (d.trans Gr.push) d.len aE g i
theorem PN(T:TopD K mg "_law_weights" Jo sQ)(j:mg "tuple"=none)(d:aj P w K mg base 3 "_law_draw" kT (ak mg 3 mF))(f:aj P w K mg base 4 "_law_pick" m6 (ak mg 3 nL)):aj P w K mg base 5 "_law_weights" sQ (ak mg 3 zv):=by
 refine bH T WI λC O s S nd=>⟨_,(av (dS 3 nd (dL f C s (aa (vr 0) (aa (vr 1) (aa (cH (aa ai (aa ai (aa ai (aa ai af))))) af)))))
  (ay (aN (iy rM rV j kh (aa (fk none (own:=["_law_name"]) (frees:=["_law_script","_law_town","_law_wide"]) (ix:=[0,1,3]) rfl (cC (vr 2)) (λc=>(pG 0 (show(["_law_name","_law_script","_law_town","_law_wide"]:List Str).Nodup by decide+kernel))) (λc=>(bX (aa (vr 0) (aa (c8 ai (dL d C m_ (aa (vr 1) (aa (vr 2) (aa (vr 3) af))))) af))))) af))))),λds A R h U=>?_⟩
 obtain⟨ns,t,r,g,n,rfl,m,E,l,v,F,G,V,q⟩:=h;obtain⟨H,z,_⟩:=id G;have W:=cz z;refine⟨show 4<=sizeLine by decide,rfl,ns,t,_,[.int 1,.int 2,.int 4,.int 12],n,rfl,by omega,aE,by simp,G.gr Gr.push,by omega,λx I s J t1=>?_⟩;obtain⟨wide,rfl,m0,X⟩:∃k:Int,x=.int k/\1<=k/\k<=12:=by
  simp at s;rcases s with h|h|h|h<;>exact⟨_,h,by omega,by omega⟩
 have o:cK t A I:=Gr.push.but.trans J;refine d8 (o r _ m E) ?_;refine pH (λrest ys A'=>∃(rs:List (Str×Int)) (a:List Str),rest=a.map D.str/\ys=rs.map bI/\rs.map (·.1)++a=g/\(∀p∈rs,1<=p.2/\p.2<=12)/\cK t A A'/\Tw t (n+1+rs.length) A') ?_ ?_ ?_ ?_ _ _ _ ⟨[],g,rfl,rfl,rfl,λ_ h=>(by cases h),o,t1⟩
 .rintro rest ys A' ⟨rs,a,_,_,_,_,b,_⟩
  exact b r _ m E
 .rintro rest ys A' ⟨rs,a,_,rfl,e,_,_,_⟩
  have:(rs.map (·.1)++a).length=g.length:=by rw[e]
  have hz:(64:Nat)<=sizeLine:=by decide
  simp at this ⊢;omega
 .rintro x rest ys A' ⟨rs,a,u,rfl,e,B,b,t'⟩
  cases a with
  |nil=>cases u
  |cons y a=>
   cases u;have:(rs.map (·.1)++y::a).length=g.length:=by rw[e]
   simp at this;refine⟨[.str y],rfl,λQ L=>⟨rfl,ns,t,wide,n+1+rs.length,rfl,t',by omega,by omega,λi Y Z i1 M N=>⟨show 2<=sizeLine by decide,L _ _ ⟨rs++[(y,1+i)],a,rfl,by simp[bI],by simpa using e,λp l=>?_,b.trans M,by rw[cJ];exact N⟩⟩⟩⟩;rcases bU.mp l with h|h
   .exact B p h
   .rw[bE.mp h]
    exact⟨show 1<=1+i by omega,show 1+i<=12 by omega⟩
 .rintro ys A' ⟨rs,a,u,rfl,e,B,b,t'⟩
  cases a with
  |cons y a=>cases u
  |nil=>
   have e:rs.map (·.1)=g:=by simpa using e
   have el:rs.length=g.length:=by rw[<-e];simp
   refine tV aE (q rs _ ⟨λp l=>v _ (by rw[<-e];exact cQ l),λp l=>?_,by rw[e];exact l,by omega⟩ e ⟨b.trans Gr.push.but,(t'.gr Gr.push).mono (by omega)⟩);have:=B p l;omega
end My
namespace L2
theorem lC.TZ{P:Program}{w:World}{K:Frag}{mg:aC}{base:Heap}{x:Str}{st:Stmt}{N ps:List Str}{k:Nat}{sp:Sp}{f:Addr}{fd:FuncData}(F:lC K x x st f fd)(S:aX N ps (aI st))(len:∀vs H Q E,sp vs H Q E->vs.length=ps.length)
  (b:∀(f:Addr) (a:Value) (A:Around) (outer:List Env) (s:Shared) (H:Hp) (vs:List V) (Q:VK) (E:XK),dZ k (A.deeper (envOfC x (aI st) s.heap.objs.size f a))->sp vs H Q E->
   ∃t,dY (c7 (bW P w) P w K mg base N x (aI st) f a A outer s H E) (iI st) t/\t {nx:=λ_ H'=>Q .aG H',rt:=Q} (start N vs) H):gk P w K mg base (bW P w) (k+1) f fd ps sp:=by
 obtain⟨h,i,kV,doc,pm,an,a,ct,e,rfl,lk,c⟩:=F.ex;exact FW lk c S len λA outer s H vs Q E g d=>b f a A outer s H vs Q E g d
end L2
namespace DP
open L2 MA
theorem PX{P:Program}{w:World}{K:Frag}{mg:aC}{base:Heap}{x:Str}{st:Stmt}{Nm ps:List Str}{k n:Nat}{S:Ct}{y:Addr}{fd:FuncData}(T:lC K x x st y fd)(Sc:aX Nm ps (aI st))(G:ps.length=n)(Y:ps.length<=Nm.length)
  (j:∀(N:En) (RE:DX) (f:Addr) (g:Value) (B:Around) (outer:List Env) (s:Shared) (H:Hp) (E:XK),dZ k (c7 (bW P w) P w K mg base Nm x (aI st) f g B outer s H E).A->
   Raises (c7 (bW P w) P w K mg base Nm x (aI st) f g B outer s H E) (EL mg N RE)->Passes (bW P w) (c7 (bW P w) P w K mg base Nm x (aI st) f g B outer s H E) (EL mg N RE)->
   ∀ds A R,S ds A R RE->ds.length=n->∃m,dY (c7 (bW P w) P w K mg base Nm x (aI st) f g B outer s H E) (iI st) (dB mg N m)/\m {nx:=λ_ A'=>R .aG A',rt:=R} (lU (Nm.length - n) ds) A):gk P w K mg base (bW P w) (k+1) y fd ps (ak mg n S):=by
 refine T.TZ Sc (λvs H Q E h=> ?_) λf g A outer s H vs Q E J h=> ?_
 .obtain⟨A,ι,ds,R,RE,t,_,o,_⟩:=h
  rw[<-au.length o,t,G]
 .obtain⟨p,l,ds,R,RE,t,ra,o,L,D,M⟩:=h
  have F:∀C a H',EL mg ⟨p,l,H⟩ RE C a H'->E C none H':=λC a H' z=>by
   obtain⟨c,A',ι',⟨b,rfl,hc⟩,ex,r,q⟩:=z
   exact M c A' ι' H' b q hc ex r
  obtain⟨m,O,U⟩:=j ⟨p,l,H⟩ RE f g A outer s H E J
   (λpins σ H1 u e h' C args I V z=>IG pins σ H1 u e h' C args I V (F _ _ _ z))
   (λpins σ H1 u e s' I z=>H8 pins σ H1 u e s' I (by
    obtain⟨a,C,H',h1,h2,W⟩:=z
    exact⟨a,C,H',h1,h2,F _ _ _ W⟩)) ds p R L t
  have X:=au.length o
  refine⟨_,O,p,l,_,_,⟨ra,⟨?_,λi d q=> ?_⟩,ra.refl⟩,U,⟨λτ A' ι' σ H' q e r _=>D _ A' ι' H' _ q e r rfl,D,λ_ _ _ _ _ q _ _ _=>q.elim,λ_ _ _ _ _ q _ _ _=>q.elim⟩⟩
  .simp[lU,L2.start]
   omega
  .obtain⟨v,h1,h2⟩:=au.get o (AV ds _ i d q)
   refine⟨v,?_,h2⟩
   have hi:=(bY.mp h1).1
   unfold L2.start
   rw[iC (by simpa using hi),cu,h1]
   rfl
def Dv:Ct:=λds A R _=>∃ns,ds=[.fl ns]/\∀A',R (.bl true) A'
def qg:Sp:=λvs H Q _=>∃(a:Addr) (o:Obj) (ns:List Int),vs=[.ref a]/\H a=some (.bT o (.lst (ns.map V.int)))/\∀H',Q (.bl true) H'
theorem XR{mg:aC}{vs:List V}{H:Hp}{Q:VK}{E:XK}(h:qg vs H Q E):ak mg 1 Dv vs H Q E:=by
 obtain⟨a,o,ns,rfl,h,q⟩:=h;refine⟨[],λ_=>a,[.fl ns],λv _=>v=.bl true,λ_ _=>False,rfl,⟨λr c h=>by simp at h,λr s b=>by simp at b⟩,⟨_,[],rfl,⟨a,o,rfl,h⟩,rfl⟩,⟨ns,rfl,λ_=>rfl⟩,λv A' ι' H' u e _ _ r=>?_,λ_ _ _ _ _ z=>z.elim⟩;subst e;cases r;exact q _
def oq(o:Obj):Bool:=match o.cls with
 |.type t=> !(decide (t="list"))
 |_=>true
theorem Tr{K:Frag}(h:K.all (λp=>oq p.2)=true){a:Addr}{o:Obj}(e:K.lookup a=some o):oq o=true:=by
 induction K with
 |nil=>cases e
 |cons p r b=>
  have h':oq p.2=true/\List.all r (λp=>oq p.2)=true:=by simpa using h
  rw[List.lookup] at e;split at e
  .cases e
   exact h'.1
  .exact b h'.2 e
theorem P5{K:Frag}(b:K.all (λp=>oq p.2)=true){H:Hp}{a:Addr}{ns:List Int}(d:uL H)(f:aW K H a (ns.map V.int)):qg [.ref a] H (λv _=>v=.bl true) λ_ _ _=>False:=by
 rcases f with (e|⟨o,e⟩)|⟨o,its,n,e,c,_⟩
 .rcases d a with z|⟨o,xs,z⟩
  .rw[z] at e;cases e
  .rw[z] at e;cases e
 .exact⟨a,o,ns,rfl,e,λ_=>rfl⟩
 .have:=Tr b e
  unfold oq at this;rw[c] at this;simp at this
theorem pw_len:∀(ys ss:List Str),ys.Pairwise strLt->(∀x∈ys,x∈ss)->ys.length<=ss.length
 |[],_,_,_=>bP _
 |y::r,ss,d,a=>by
  have p:=gZ.mp d;have b:=a y (aU ..);have:=pw_len r (ss.erase y) p.2 λx c=>(uf (BS (p.1 x c)).symm).mpr (a x (bq _ c));rw[ud b] at this;have:=qw b;simp;omega
def DA:Ct:=λds A R _=>∃r xs,ds=[.ref r]/\A[r]?=some (.lst (xs.map fq))/\xs.length<=32/\(∀x∈xs,gP x)/\xs≠[]/\∀A' q,Gr A A'->A'[q]?=some (.lst ((lw xs).map D.int))->A.length<=q->R (.ref q) A'
structure Fb(kvs:List (Key×D))(ns:List Str)(s:Str->Rat):Prop where
 keys:kvs.map (·.1)=ns.map Sum.inr
 nd:ns.Nodup
 get:∀n∈ns,bw kvs (Sum.inr n)=some (fq (s n))
def zl:Ct:=λds A R _=>∃m,ds=[enc m]/\Wf m/\m.deep<=5/\cR [] (bF m "" 1)=none/\∀(A':Ar) (q:Nat) (kvs:List (Key×D)) (ns:List Str),Gr A A'->A'[q]?=some (.dct kvs)->A.length<=q->Fb kvs ns (shr m)->(∀n,n∈ns↔n∈m.names)->R (.ref q) A'
def DB:Ct:=λds A R _=>∃(r:Nat) (kvs:List (Key×D)) (ns:List Str) (s:Str->Rat),ds=[.ref r]/\A[r]?=some (.dct kvs)/\Fb kvs ns s/\ns.length<=32/\ns≠[]/\(∀n∈ns,gP (s n))/\∀(A':Ar) (ys:List Str),Gr A A'->ys.Pairwise strLt->(∀x,x∈ys↔x∈ns)->R (fy (ys.zip (lw (ys.map s)))) A'
def Dy:Ct:=λds A R RE=>∃m,ds=[enc m]/\Wf m/\m.deep<=5/\∀A',Gr A A'->if cR [] (bF m "" 1)=none then ∀ys:List Str,ys.Pairwise strLt->(∀x,x∈ys↔x∈m.names)->R (fy (ys.zip (lw (ys.map (shr m))))) A' else RE "Never" A'
theorem Af:∀(ps:List (Str×D)) (acc:List (Key×D)) (ns:List Str),acc.map (·.1)=ns.map Sum.inr->ns.Nodup->
  ∃d:List Str,((ps.map λp=>((Sum.inr p.1:Key),p.2)).foldl (λacc p=>b5 acc p.1 p.2) acc).map (·.1)=d.map Sum.inr/\d.Nodup/\(∀n,n∈d↔n∈ns\/n∈ps.map (·.1))
 |[],acc,ns,h1,h2=>⟨ns,h1,h2,λn=>by simp⟩
 |p::ps,acc,ns,h1,h2=>by
  have key:∃f:List Str,(b5 acc (Sum.inr p.1) p.2).map (·.1)=f.map Sum.inr/\f.Nodup/\∀n,n∈f↔n∈ns\/n=p.1:=by
   by_cases j:(acc.any λc=>decide (c.1=(Sum.inr p.1:Key)))=true
   .have e:b5 acc (Sum.inr p.1) p.2=acc.map λc=>if c.1=(Sum.inr p.1:Key) then (c.1,p.2) else c:=by
     unfold b5;rw[aA j]
    refine⟨ns,?_,h2,λn=>?_⟩
    .rw[e,bK,<-h1]
     refine ue λc _=>?_;show(if c.1=(Sum.inr p.1:Key) then (c.1,p.2) else c).1=c.1;split<;>rfl
    .have g:p.1∈ns:=by
      obtain⟨c,i,m⟩:=jL.mp j;have:c.1∈acc.map (·.1):=cQ i;rw[h1,gy m] at this;obtain⟨x,o,e⟩:=aJ.mp this;rw[<-Sum.inr.inj e];exact o
     constructor
     .exact .inl
     .rintro (h|rfl)
      .exact h
      .exact g
   .have e:b5 acc (Sum.inr p.1) p.2=acc++[(Sum.inr p.1,p.2)]:=by
     unfold b5;rw[ao j]
    have k:p.1∉ns:=λg=>j (by
     have:(Sum.inr p.1:Key)∈acc.map (·.1):=by rw[h1];exact cQ g
     obtain⟨c,i,e⟩:=aJ.mp this;exact jL.mpr ⟨c,i,dR e⟩)
    refine⟨ns++[p.1],by rw[e];simp[h1],?_,λn=>by simp⟩;rw[nv];refine⟨h2,by simp,λa l b q=>?_⟩;rw[bE.mp q];exact λz=>k (by rw[<-z];exact l)
  obtain⟨f,k1,k2,k3⟩:=key;obtain⟨d,r,s,t⟩:=Af ps _ f k1 k2;refine⟨d,r,s,λn=>?_⟩;rw[t,k3];simp[or_assoc]
theorem F0(g:Str->D):∀(ps:List (Str×D)) (acc:List (Key×D)) (n:Str),(∀p∈ps,p.2=g p.1)->(n∈ps.map (·.1)\/bw acc (Sum.inr n)=some (g n))->bw ((ps.map λp=>((Sum.inr p.1:Key),p.2)).foldl (λacc p=>b5 acc p.1 p.2) acc) (Sum.inr n)=some (g n)
 |[],acc,n,_,h=>by
  rcases h with h|h
  .simp at h
  .exact h
 |p::ps,acc,n,b,h=>by
  refine F0 g ps _ n (λq c=>b q (bq _ c)) ?_;by_cases a:p.1=n
  .right
   rw[pT,aA (show(Sum.inr p.1:Key)=Sum.inr n by rw[a])];show some p.2=some (g n);rw[b p (aU ..),a]
  .rcases h with h|h
   .rcases aY.mp (show n∈p.1::ps.map (·.1) from h) with e|e
    .exact absurd e.symm a
    .exact .inl e
   .right
    rw[pT,ao (show ¬(Sum.inr p.1:Key)=Sum.inr n from λz=>a (Sum.inr.inj z))];exact h
def wj(p:Str×Str×Rat):D:=.tup [.str p.2.1,fq p.2.2]
theorem Bh:∀a:List (Str×Str×Rat),fK (a.map wj)=some ((a.map λp=>(p.2.1,fq p.2.2)).map λp=>((Sum.inr p.1:Key),p.2))
 |[]=>rfl
 |r::a=>by
  have:=Bh a;simp only[cO,wj,fK,gm,this]
theorem ve{A:Ar}{r:Nat}{xs:List D}{ps:List (Key×D)}{R:DK}(h:A[r]?=some (.lst xs))(a:fK xs=some ps)(b:ps.length<=1000)(k:R (.ref A.length) (A++[.dct (nc ps)])):vd r A R:=by
 unfold vd;simp only[h];unfold dctP;rw[a];exact⟨b,k⟩
theorem Y9{rs:List (Str×Int)}(b:(rs.map (·.1)).Nodup){r:Str×Int}(h:r∈rs):val rs r.1=r.2:=by
 unfold val;induction rs with
 |nil=>cases h
 |cons p rs c=>
  have a:=iQ.mp (show(p.1::rs.map (·.1)).Nodup from b);rcases aY.mp h with rfl|h
  .simp
  .have:¬p.1=r.1:=λz=>a.1 (by rw[z];exact cQ h)
   rw[List.find?_cons_of_neg (by simpa using this)];exact c a.2 h
theorem V8{xs:List Str}(h:xs.Pairwise strLt):xs.Nodup:=h.imp λz=>BS z
end DP
namespace My
open L2 DP MA
theorem O8(T:TopD K mg "least_whole" JP xj)(k:aj P w K mg base 1 "greatest_divisor" sV (ak mg 2 zf)):aj P w K mg base 2 "least_whole" xj (ak mg 1 DA):=by
 refine bH T W_ λN hR O E nd=>⟨_,(av (dS 1 nd ai)
  (av (eH dQ rfl (cC (vr 0)) (dG 2 nd) (ay (dS 1 nd (pJ (fm (vr 1) (dX E (vr 2) ai)) (dL k N O (aa (vr 1) (aa (dX E (vr 2) ai) af)))))))
  (av (Fw none (own:=["fraction"]) (frees:=["bottom"]) (ix:=[1]) (i:=3) nd rfl (by first|exact Or.inl rfl|exact Or.inr rfl) rfl (cC (vr 0)) (λc=>(pG 0 (show(["fraction","bottom"]:List Str).Nodup by decide+kernel))) (λc=>(fm (dX E (vr 0) ai) (pJ (vr 1) (dX E (vr 0) ai)))))
  (av (dS 4 nd ai)
  (av (eH dQ rfl (cC (vr 3)) (dG 5 nd) (ay (dS 4 nd (dL k N O (aa (vr 4) (aa (vr 5) af))))))
  (ay (aN (fk none (own:=["number"]) (frees:=["divisor"]) (ix:=[4]) rfl (cC (vr 3)) (λc=>(pG 0 (show(["number","divisor"]:List Str).Nodup by decide+kernel))) (λc=>(pJ (vr 0) (vr 1))))))))))),λds A R h hl=>?_⟩
 obtain⟨r,xs,rfl,G,l,hok,H,q⟩:=h;have hz:(1000:Nat)<=sizeLine:=by decide
 have D9:(2000000:Int)<2 ^ 64:=by decide
 obtain⟨b0,_,b3⟩:=rL xs 1 (by decide);refine d8 G ?_;refine eG (λrest τ A'=>∃(pre j:List Rat) (x:Option D),rest=j.map fq/\τ=[some (.ref r),some (.int (bot pre 1)),x,none,none,none]/\pre++j=xs/\Gr A A') ?_ ?_ ?_ _ _ _ ⟨[],xs,none,rfl,rfl,rfl,Gr.refl⟩
 .rintro rest τ A' ⟨pre,j,x,_,_,_,g⟩
  exact g.get G
 .rintro v rest τ A' ⟨pre,j,x,e,rfl,m,g⟩ Nx I
  cases j with
  |nil=>cases e
  |cons y j=>
   cases e;have s:=hok y (by rw[<-m];simp);have F:=cX y;have S:=s.den;obtain⟨U,_,_⟩:=rL pre 1 (by decide);have V:0<(Int.gcd (bot pre 1) (rf y).2:Int):=by
    have:=Int.gcd_pos_of_ne_zero_right (bot pre 1) (show(rf y).2≠0 by omega);omega
   have J:(Int.gcd (bot pre 1) (rf y).2:Int)<=(rf y).2:=le_of_dvd F (uD _ _);refine⟨.inr ⟨by omega,by omega⟩,rfl,_,⟨_,_,rfl,by omega,by omega,rfl⟩,λo h1=>⟨⟨V,vV V (Ks (by omega))⟩,?_⟩⟩;refine I _ _ ⟨pre++[y],j,some (fq y),rfl,?_,by simpa using m,g.trans h1⟩;rw[Er];rfl
 rintro τ o ⟨pre,j,x,e,rfl,m,J⟩;cases j with
 |cons p j=>cases e
 |nil=>
 have m:pre=xs:=by simpa using m
 subst m;have t:=J.get G;refine d8 t ?_;refine iY (f:=λd=>match d with|.tup [.int a,.int b]=>.int (a*(bot pre 1/b))|d=>d) t _ _ (λd hd=>?_) (by simp;omega) ?_
 .obtain⟨y,hy,rfl⟩:=aJ.mp hd
  have s:=hok y hy;have x1:=eL s.pos;have F:=cX y;have S:=s.den;have x4:=s.num;exact⟨[fq y],rfl,λQ L=>⟨⟨F,vV F (Ks S)⟩,.inl ⟨by omega,by omega⟩,L⟩⟩
 have eu:(pre.map fq).map (λd=>match d with|.tup [.int a,.int b]=>D.int (a*(bot pre 1/b))|d=>d)=(ups pre).map D.int:=by
  unfold ups;rw[bK,bK];rfl
 rw[fN,eu];have u:(ups pre).length=pre.length:=by simp[ups]
 have M:=aE (A:=o) (c:=C.lst ((ups pre).map D.int));have g2:Gr o (o++[C.lst ((ups pre).map D.int)]):=Gr.push;generalize Zz:o++[C.lst ((ups pre).map D.int)]=A2 at*
 refine d8 M ?_;refine eG (λrest τ A'=>∃(dn j:List Int) (y:Option D),rest=j.map D.int/\τ=[some (.ref r),some (.int (bot pre 1)),x,some (.ref o.length),some (.int (gD dn 0)),y]/\dn++j=ups pre/\Gr A2 A') ?_ ?_ ?_ _ _ _ ⟨[],ups pre,none,rfl,rfl,rfl,Gr.refl⟩
 .rintro rest τ A' ⟨dn,j,y,_,_,_,g⟩
  exact g.get M
 .rintro v rest τ A' ⟨dn,j,y,e,rfl,hd,g⟩ Nx I
  cases j with
  |nil=>cases e
  |cons n j=>
   cases e;obtain⟨W,_⟩:=Cg hok l (show n∈ups pre by rw[<-hd];simp);obtain⟨U,_⟩:=Al dn 0 (Int.le_refl 0);refine⟨rfl,_,⟨_,_,rfl,U,by omega,rfl⟩,λX h3=>?_⟩;refine I _ _ ⟨dn++[n],j,some (.int n),rfl,?_,by simpa using hd,g.trans h3⟩;rw[F9];rfl
 rintro τ X ⟨dn,j,y,e,rfl,hd,Y⟩;cases j with
 |cons p j=>cases e
 |nil=>
 have hd:dn=ups pre:=by simpa using hd
 subst hd;obtain⟨n0,z⟩:∃n,n∈ups pre:=by
  cases e:ups pre with
  |nil=>
   rw[e] at u;exact absurd (List.length_eq_zero_iff.mp u.symm) H
  |cons n r=>exact⟨n,by simp⟩
 obtain⟨W,u1⟩:=Cg hok l z;obtain⟨Z,d1⟩:=F8 (Int.le_refl 0) z W;have B:=Y.get M;refine d8 B ?_;refine iY (f:=λd=>match d with|.int n=>.int (n/gD (ups pre) 0)|d=>d) B _ _ (λd hd=>?_) (by simp;omega) ?_
 .obtain⟨n,hn,rfl⟩:=aJ.mp hd
  exact⟨[.int n],rfl,λQ L=>⟨⟨Z,vV Z (e_ d1 u1)⟩,L⟩⟩
 have el:((ups pre).map D.int).map (λd=>match d with|.int n=>D.int (n/gD (ups pre) 0)|d=>d)=(lw pre).map D.int:=by
  unfold lw;rw[bK,bK];rfl
 rw[fN,el];have gg:Gr A X:=(J.trans g2).trans Y;exact q _ _ (gg.trans Gr.push) aE gg.len
theorem Ph(T:TopD K mg "name_shares" BH m8)(b:mg "dict"=none)(a:aj P w K mg base 10 "shares" oA (ak mg 1 rz)):aj P w K mg base 11 "name_shares" m8 (ak mg 1 zl):=by
 refine bH T Kc λg v o y nd=>⟨_,(ay (aN (iy (mJ rfl) mP b nE (aa (fk (some 3) (own:=["way","name","share"]) (frees:=[]) (ix:=[]) rfl (cC (dL a g o (aa (vr 0) af))) (λc=>(oB rfl (gX (pG 0 (show(["way","name","share"]:List Str).Nodup by decide+kernel)) (gX (pG 1 (show(["way","name","share"]:List Str).Nodup by decide+kernel)) (gX (pG 2 (show(["way","name","share"]:List Str).Nodup by decide+kernel)) oE))))) (λc=>(bX (aa (vr 1) (aa (vr 2) af))))) af)))),λds A R h z=>?_⟩;obtain⟨m,rfl,s,hd,t,q⟩:=h;have hz:(1000:Nat)<=sizeLine:=by decide
 refine⟨rfl,m,rfl,s,hd,λB C j h1 l1=>?_⟩;refine d8 h1 ?_;have ln:=ng m "" 1;have nl:=jb hd;refine iY (f:=λd=>match d with|.tup [_,n,x]=>.tup [n,x]|d=>d) h1 _ _ (λd hd=>?_) (by simp;omega) ?_
 .obtain⟨p,k,rfl⟩:=aJ.mp hd
  exact⟨[.str p.1,.str p.2.1,fq p.2.2],rfl,λQ u=>⟨show 2<=sizeLine by decide,u⟩⟩
 have e:((bF m "" 1).map oF).map (λd=>match d with|.tup [_,n,x]=>D.tup [n,x]|d=>d)=(bF m "" 1).map wj:=by
  rw[bK];rfl
 rw[fN,e];refine ve aE (Bh _) (by simp;omega) ?_;obtain⟨k1,k2⟩:=BO t;obtain⟨ns,n1,n2,n3⟩:=Af ((bF m "" 1).map λp=>(p.2.1,fq p.2.2)) [] [] rfl oO;have l:((bF m "" 1).map λp=>(p.2.1,fq p.2.2)).map (·.1)=m.names:=by
  rw[bK,<-tM m "" 1];rfl
 rw[l] at n3;refine q _ _ _ ns ((j.trans Gr.push).trans Gr.push) aE (by have:=j.len;simp;omega) ⟨n1,n2,λn i=>?_⟩ (λn=>by rw[n3];simp);refine F0 (λn=>fq (shr m n)) _ [] n (λp k=>?_) (.inl ?_)
 .obtain⟨r,g,rfl⟩:=aJ.mp k
  show fq r.2.2=fq (shr m r.2.1);rw[<-k1 r g]
 .rw[l]
  have:=(n3 n).mp i;simpa using this
theorem O9(T:TopD K mg "least_weights" JO xh)(b:mg "sorted"=none)(g:mg "tuple"=none)(i:mg "zip"=none)(a:aj P w K mg base 2 "least_whole" xj (ak mg 1 DA)):aj P w K mg base 3 "least_weights" xh (ak mg 1 DB):=by
 refine bH T W9 λE J k F nd=>⟨_,(av (dS 1 nd (dO (zJ rfl) zS b uA (aa (vr 0) af)))
  (ay (aN (NF g i rfl (aa (vr 1) (aa (dL a E k (aa (fk none (own:=["name"]) (frees:=["fractions"]) (ix:=[0]) rfl (cC (vr 1)) (λc=>(pG 0 (show(["name","fractions"]:List Str).Nodup by decide+kernel))) (λc=>(dX F (vr 1) (vr 0)))) af)) af)))))),λds A R h L=>?_⟩
 obtain⟨r,kvs,ns,j,rfl,v,o,y,s,hok,q⟩:=h;have hz:(1000:Nat)<=sizeLine:=by decide
 refine BI v o.keys o.nd (by omega) λys B l=>?_;have M:=pw_len ys ns B λx k=>(l x).mp k;refine d8 aE ?_;refine iY (f:=λd=>match d with|.str n=>fq (j n)|d=>d) aE _ _ (λd hd=>?_) (by simp;omega) ?_
 .obtain⟨n,u,rfl⟩:=aJ.mp hd
  exact⟨[.str n],rfl,λQ G=>fH (getElem?_push v) rfl (o.get n ((l n).mp u)) G⟩
 have e:(ys.map D.str).map (λd=>match d with|.str n=>fq (j n)|d=>d)=(ys.map j).map fq:=by
  rw[bK,bK];rfl
 rw[fN,e];have m:ys≠[]:=λz=>by
  cases e:ns with
  |nil=>exact s e
  |cons n t=>
   have:=(l n).mpr (by rw[e];simp);rw[z] at this;cases this
 refine⟨rfl,_,ys.map j,rfl,aE,by simp;omega,λx k=>?_,by simpa using m,λN O C H _=>?_⟩
 .obtain⟨n,u,rfl⟩:=aJ.mp k
  exact hok n ((l n).mp u)
 refine Y4 (C.get (getElem?_push aE)) H ?_;have I:(((ys.map D.str).zip ((lw (ys.map j)).map D.int)).map λp=>D.tup [p.1,p.2])=(ys.zip (lw (ys.map j))).map bI:=by
  rw[List.zip_map,bK];rfl
 rw[I];exact q _ ys (((Gr.push.trans Gr.push)).trans C) B l
theorem O4(T:TopD K mg "least" JN xg){c:Addr}(d:mg "Never"=some (.ref c))(f:excIn K c j8 "ValueError.__new__"=true)(j:aj P w K mg base 11 "bar" ow (ak mg 1 rq))(b:aj P w K mg base 11 "name_shares" m8 (ak mg 1 zl))(a:aj P w K mg base 3 "least_weights" xh (ak mg 1 DB)):aj P w K mg base 12 "least" xg (ak mg 1 Dy):=by
 refine bH T W8 λv H g Q nd=>⟨_,(av (bJ (qk (dL j v g (aa (vr 0) af)) jX) (ay (jx H rfl d f (aa bG af))) bM)
  (ay (aN (dL a v g (aa (dL b v g (aa (vr 0) af)) af))))),λds A R h S=>?_⟩
 obtain⟨m,rfl,B,hd,q⟩:=h;refine⟨rfl,m,rfl,B,hd,λI E=>?_⟩;cases o:cR [] (bF m "" 1) with
 |some p=>
  have k:=q I E;rw[ao (by rw[o];simp)] at k;exact⟨by decide,k⟩
 |none=>
  refine⟨rfl,m,rfl,B,hd,o,λU V kvs ns J h2 l2 F s=>?_⟩;have nl:=jb hd;have l1:ns.length<=m.names.length:=by
   have key:∀(xs ys:List Str),xs.Nodup->(∀x∈xs,x∈ys)->xs.length<=ys.length:=by
    intro xs;induction xs with
    |nil=>intro ys _ _;exact bP _
    |cons x r L=>
     intro ys C G;have l:=iQ.mp C;have g:=G x (aU ..);have:=L (ys.erase x) l.2 λy u=>(uf (λz=>l.1 (by rw[<-z];exact u))).mpr (G y (bq _ u));rw[ud g] at this;have:=qw g;simp;omega
   exact key ns m.names F.nd λx g=>(s x).mp g
  have D:ns≠[]:=λz=>by
   have i:=aV.om m;cases e:m.names with
   |nil=>rw[e] at i;simp at i
   |cons n t=>
    have:=(s n).mpr (by rw[e];simp);rw[z] at this;cases this
  refine⟨rfl,_,kvs,ns,shr m,rfl,h2,F,by omega,D,λn C=>xR B.arms hd o ((s n).mp C),λM ys N O u=>?_⟩;have k:=q M ((E.trans J).trans N);rw[aA o] at k;exact k ys O λx=>by rw[u,s]
end My
namespace DP
open L2 MA
abbrev Tb:=List (Str×Rat)
abbrev bC:=Nat×Str×Str
abbrev aS:=List (Str×List bC)
def cE(s:bC):D:=.tup [.int ((s.1:Nat):Int),.str s.2.1,.str s.2.2]
def aH(T:Tb):List Str:=T.map (·.1)
def cg(T:Tb):List (Key×D):=T.map λp=>((Sum.inr p.1:Key),fq p.2)
noncomputable def cT(T:Tb)(n:Str):Rat:=match T.find? (λp=>decide (p.1=n)) with
 |some p=>p.2
 |none=>0
def gY(n:Str)(p:Tb×Nat):List bC:=if n∈aH p.1 then (aH p.1).map (λo=>(p.2,n,o)) else []
def d9(Ts:List Tb)(n:Str):List bC:=Ts.zipIdx.flatMap (gY n)
def cM(P:aS)(n:Str):List bC:=match P.find? (λp=>decide (p.1=n)) with
 |some p=>p.2
 |none=>[]
def aD(P:aS):List Str:=P.map (·.1)
def cB(P:aS)(s:bC):aS:=if s.2.2∈aD P then P else P++[(s.2.2,cM P s.2.1++[s])]
def dU(Ts:List Tb):Nat->Nat->aS->aS
 |0,_,P=>P
 |f+1,i,P=>match P[i]? with
  |some p=>dU Ts f (i+1) ((d9 Ts p.1).foldl cB P)
  |none=>P
def aO(Ts:List Tb)(n:Str):aS:=dU Ts 14 0 [(n,[])]
structure jT(T:Tb):Prop where
 nd:(aH T).Nodup
 ne:T≠[]
 len:T.length<=32
 PY:∀p∈T,gP p.2
structure eT(Ts:List Tb)(NN:List Str):Prop where
 len:Ts.length<=7
 tok:∀T∈Ts,jT T
 nn:NN.length<=12
 sub:∀T∈Ts,∀n∈aH T,n∈NN
theorem Am:∀(T:Tb) (n:Str),bw (cg T) (Sum.inr n)=(T.find? (λp=>decide (p.1=n))).map (λp=>fq p.2)
 |[],n=>rfl
 |p::T,n=>by
  show(if (Sum.inr p.1:Key)=Sum.inr n then some (fq p.2) else bw (cg T) (Sum.inr n))=_;by_cases h:p.1=n
  .rw[aA (by rw[h]),List.find?_cons_of_pos (by simpa using h)]
   rfl
  .rw[ao (λz=>h (Sum.inr.inj z)),List.find?_cons_of_neg (by simpa using h)]
   exact Am T n
theorem find_some{β:Type}{T:List (Str×β)}{n:Str}:(T.find? (λp=>decide (p.1=n))).isSome=decide (n∈T.map (·.1)):=by
 rw[lX,List.find?_isSome,nF];constructor
 .rintro ⟨p,a,h⟩
  rw[<-gy h];exact cQ a
 .intro h
  obtain⟨p,a,e⟩:=aJ.mp h;exact⟨p,a,dR e⟩
theorem Ga(T:Tb)(n:Str):(bw (cg T) (Sum.inr n)).isSome=decide (n∈aH T):=by
 rw[Am,isSome_map];exact find_some
theorem Gb{T:Tb}{n:Str}(h:n∈aH T):bw (cg T) (Sum.inr n)=some (fq (cT T n)):=by
 have:=find_some (T:=T) (n:=n);rw[dR (show n∈T.map (·.1) from h)] at this;obtain⟨p,a⟩:=qt.mp this;rw[Am,a];unfold cT;rw[a];rfl
theorem R6(T:Tb):(cg T).map (·.1)=(aH T).map Sum.inr:=by
 unfold cg aH;rw[bK,bK];rfl
theorem GX(T:Tb):((cg T).map λp=>keyOf p.1)=(aH T).map D.str:=by
 unfold cg aH;rw[bK,bK];rfl
theorem kW{T:Tb}(h:jT T){n:Str}(b:n∈aH T):gP (cT T n):=by
 have:=find_some (T:=T) (n:=n);rw[dR (show n∈T.map (·.1) from b)] at this;obtain⟨p,a⟩:=qt.mp this;unfold cT;rw[a];exact h.PY p (nu a)
theorem rF(P:aS)(s:bC):∀n,n∈aD (cB P s)↔n∈aD P\/n=s.2.2:=λn=>by
 unfold cB;split
 .rename_i h
  constructor
  .exact .inl
  .rintro (h'|rfl)
   .exact h'
   .exact h
 .simp[aD]
theorem L1{P:aS}(s:bC)(h:(aD P).Nodup):(aD (cB P s)).Nodup:=by
 unfold cB;split
 .exact h
 .rename_i d
  unfold aD;rw[dJ,nv];refine⟨h,by simp,λa e b c=>?_⟩;simp at c;rw[c];exact λz=>d (by rw[<-z];exact e)
theorem j5:∀(xs ys:List Str),xs.Nodup->(∀x∈xs,x∈ys)->xs.length<=ys.length:=by
 intro xs;induction xs with
 |nil=>intro ys _ _;exact bP _
 |cons x r e=>
  intro ys f b;have a:=iQ.mp f;have c:=b x (aU ..);have:=e (ys.erase x) a.2 λy d=>(uf (λz=>a.1 (by rw[<-z];exact d))).mpr (b y (bq _ d));rw[ud c] at this;have:=qw c;simp;omega
theorem oj{Ts:List Tb}{n:Str}{s:bC}:s∈d9 Ts n↔∃T,Ts[s.1]?=some T/\n∈aH T/\s.2.1=n/\s.2.2∈aH T:=by
 unfold d9;rw[gx];constructor
 .rintro ⟨⟨T,i⟩,b,a⟩
  have b:=qA.mp b;unfold gY at a;split at a
  .rename_i c
   obtain⟨o,d,rfl⟩:=aJ.mp a;exact⟨T,b,c,rfl,d⟩
  .cases a
 .rintro ⟨T,f,c,e,d⟩
  refine⟨(T,s.1),qA.mpr f,?_⟩;unfold gY;rw[aA c];exact aJ.mpr ⟨s.2.2,d,by rw[<-e]⟩
theorem Ae:∀(ss:List bC) (P:aS) (n:Str),n∈aD (ss.foldl cB P)↔n∈aD P\/n∈ss.map (·.2.2)
 |[],P,n=>by simp
 |s::ss,P,n=>by
  rw[h_,Ae ss,rF];simp[or_assoc]
theorem L3(P:aS)(s:bC):∃X,cB P s=P++X:=by
 unfold cB;split
 .exact⟨[],by simp⟩
 .exact⟨_,rfl⟩
theorem vE:∀(ss:List bC) (P:aS),∃X,ss.foldl cB P=P++X
 |[],P=>⟨[],by simp⟩
 |s::ss,P=>by
  obtain⟨X,e⟩:=L3 P s;obtain⟨Y,a⟩:=vE ss (cB P s);exact⟨X++Y,by rw[h_,a,e,List.append_assoc]⟩
def TabAt(A:Ar)(t:Nat)(T:Tb):Prop:=A[t]?=some (.dct (cg T))\/∃o,A[t]?=some (.bz o (cg T))
def TabsAt(A:Ar):List Nat->List Tb->Prop
 |[],[]=>True
 |t::ts,T::Ts=>TabAt A t T/\TabsAt A ts Ts
 |_,_=>False
def iD(A:Ar)(r:Nat)(Ts:List Tb):Prop:=∃ts,A[r]?=some (.lst (ts.map D.ref))/\TabsAt A ts Ts
theorem TabAt.gr{A B:Ar}{t:Nat}{T:Tb}(h:TabAt A t T)(g:Gr A B):TabAt B t T:=by
 rcases h with h|⟨o,h⟩
 .exact .inl (g.get h)
 .exact .inr ⟨o,g.get h⟩
theorem TabsAt.gr{A B:Ar}(g:Gr A B):∀{a:List Nat} {Ts:List Tb},TabsAt A a Ts->TabsAt B a Ts
 |[],[],_=>trivial
 |t::a,T::Ts,h=>⟨h.1.gr g,TabsAt.gr g h.2⟩
 |[],_::_,h=>h.elim
 |_::_,[],h=>h.elim
theorem TabsAt.len{A:Ar}:∀{a:List Nat} {Ts:List Tb},TabsAt A a Ts->a.length=Ts.length
 |[],[],_=>rfl
 |t::a,T::Ts,h=>by simp[TabsAt.len h.2]
 |[],_::_,h=>h.elim
 |_::_,[],h=>h.elim
theorem TabsAt.get{A:Ar}:∀{a:List Nat} {Ts:List Tb} {i t:Nat},TabsAt A a Ts->a[i]?=some t->∃T,Ts[i]?=some T/\TabAt A t T
 |[],[],i,t,_,e=>by simp at e
 |t::a,T::Ts,0,_,h,e=>by
  simp at e;subst e;exact⟨T,rfl,h.1⟩
 |t::a,T::Ts,i+1,_,h,e=>by
  obtain⟨b,h1,h2⟩:=TabsAt.get (i:=i) h.2 (by simpa using e);exact⟨b,by simpa using h1,h2⟩
 |[],_::_,_,_,h,_=>h.elim
 |_::_,[],_,_,h,_=>h.elim
theorem iD.gr{A B:Ar}{r:Nat}{Ts:List Tb}(h:iD A r Ts)(g:Gr A B):iD B r Ts:=by
 obtain⟨a,h1,h2⟩:=h;exact⟨a,g.get h1,h2.gr g⟩
theorem F1{τ:bO}{A:Ar}{j t:Nat}{ix:List Nat}{te:aP}{R:DK}{T:Tb}(f:D->D)(g:lk τ j=some (.ref t))(l:TabAt A t T)(v:T.length<=1000)
  (b:∀A':Ar,∀o∈aH T,∀Q:DK,Q (f (.str o)) A'->te ([some (.str o)]++ix.map (lk τ)) A' Q)(k:R (.ref A.length) (A++[.lst ((aH T).map λo=>f (.str o))])):EN (mO none ix (su (ir j)) oJ te) τ A R:=by
 have hz:(1000:Nat)<=sizeLine:=by decide
 have c:(aH T).length=T.length:=by simp[aH]
 have em:((cg T).map λp=>keyOf p.1)=(aH T).map D.str:=GX T;have go:∀(A':Ar) (o:Obj) (d:DK),A'[t]?=some (.bz o (cg T))->d (.ref A'.length) (A'++[.lst ((aH T).map λo=>f (.str o))])->mO none ix (su (ir j)) oJ te τ A' d:=λA' o d h' m=>by
  unfold mO su ir;rw[g];refine pY h' ?_;rw[em];refine iY (f:=f) h' _ _ (λx q=>?_) (by simp[c];omega) ?_
  .obtain⟨n,r,rfl⟩:=aJ.mp q
   exact⟨[.str n],rfl,λQ s=>b A' n r Q s⟩
  .rw[fN,bK]
   exact m
 rcases l with h|⟨o,h⟩
 .have a:=cz h
  refine .inl ⟨t,cg T,h,λo=>go _ o _ (eB a) ⟨cg T,?_,?_⟩⟩
  .rw[iC (by simpa using a)]
   exact eB a
  .have e:(A.set t (.bz o (cg T))++[C.lst ((aH T).map λo=>f (.str o))]).set t (.dct (cg T))=A++[.lst ((aH T).map λo=>f (.str o))]:=by
    rw[ym _ _ (by simpa using a),set_set];congr 1;refine qP λi=>?_;by_cases hi:i=t
    .rw[hi,eB a,h]
    .rw[eF (Ne.symm hi)]
   rw[e];have u:(A.set t (C.bz o (cg T))).length=A.length:=by simp
   rw[u];exact k
 .exact .inr (go A o R h k)
def DT:Ct:=λds A R _=>∃r n Ts,ds=[.ref r,.str n]/\iD A r Ts/\Ts.length<=7/\(∀T∈Ts,T.length<=32)/\∀A' q,Gr A A'->A'[q]?=some (.lst ((d9 Ts n).map cE))->A.length<=q->R (.ref q) A'
theorem pN(ds:List D):(iK ds).length=ds.length:=by simp[iK]
theorem FG{ds:List D}{i:Nat}{x:D}(h:ds[i]?=some x):(iK ds)[i]?=some (.tup [.int ((i:Nat):Int),x]):=by
 unfold iK;rw[cu,CF,h];simp
theorem K8{Ts:List Tb}{i:Nat}{T:Tb}(h:Ts[i]?=some T):Ts.zipIdx.take (i+1)=Ts.zipIdx.take i++[(T,i)]:=by
 rw[take_succ,CF,h];simp
theorem X3(n:Str)(p:Tb×Nat)(h:p.1.length<=32):(gY n p).length<=32:=by
 unfold gY;split
 .simp[aH];exact h
 .simp
theorem FT(n:Str):∀(l:List (Tb×Nat)),(∀p∈l,p.1.length<=32)->(l.flatMap (gY n)).length<=32*l.length
 |[],_=>by simp
 |p::l,h=>by
  have h1:=FT n l λq a=>h q (bq _ a);have h2:=X3 n p (h p (aU ..));rw[qS,cJ,gi];omega
end DP
namespace My
open L2 DP MA
theorem PD(T:TopD K mg "steps_from" J5 xB)(a:mg "enumerate"=none):aj P w K mg base 1 "steps_from" xB (ak mg 2 DT):=by
 refine bH T Xn λO S U E nd=>⟨_,(av (dS 2 nd (cH af))
  (av (eH dQ rfl (Fj a (aa (vr 0) af)) (kF rfl (dH (dG 3 nd) (dH (dG 4 nd) kG))) (ay (bJ (YI E (vr 1) (vr 4)) (ay (c_ (gS g_ yo yw v9 u9 (vr 2) (aa (vg (fk none (own:=["other"]) (frees:=["place","name"]) (ix:=[3,1]) rfl (nR (vr 4)) (λc=>(pG 0 (show(["other","place","name"]:List Str).Nodup by decide+kernel))) (λc=>(bX (aa (vr 1) (aa (vr 2) (aa (vr 0) af))))))) af)))) bM)))
  (ay (aN (vr 2))))),λds A R h V=>?_⟩
 obtain⟨r,n,Ts,rfl,F,W,f,q⟩:=h;obtain⟨b,h1,h2⟩:=F;have hz:(1000:Nat)<=sizeLine:=by decide
 have m:=h2.len;have len:∀i,((Ts.zipIdx.take i).flatMap (gY n)).length<=224:=λi=>by
  have:=FT n (Ts.zipIdx.take i) λp G=>by
   have:=qA.mp (qz G);exact f _ (cU this)
  rw[kZ,yg] at this;omega
 refine⟨bP _,AH (getElem?_push h1) ?_⟩;refine eG (λrest τ A'=>∃(i:Nat) (x y:Option D),i<=b.length/\rest=(iK (b.map D.ref)).drop i/\τ=[some (.ref r),some (.str n),some (.ref A.length),x,y]/\A'[A.length]?=some (.lst (((Ts.zipIdx.take i).flatMap (gY n)).map cE))/\Gr A A') ?_ ?_ ?_ _ _ _ ⟨0,none,none,bP _,rfl,rfl,aE,Gr.push⟩
 .rintro rest τ A' ⟨i,x,y,_,_,_,_,g⟩
  exact g.get h1
 .rintro v rest τ H ⟨i,x,y,hi,e,rfl,hc,g⟩ X z
  by_cases j:i<b.length
  .obtain⟨t,B⟩:∃t,b[i]?=some t:=⟨b[i],a_ j⟩
   obtain⟨T,C,I⟩:=h2.get B;have k:=I.gr g;have d:i<(iK (b.map D.ref)).length:=by rw[pN,aM];exact j
   have ev:=FG (ds:=b.map D.ref) (i:=i) (x:=.ref t) (by rw[cu,B];rfl);rw[mu d] at e;rw[a_ d] at ev;have ev:=Option.some.inj ev;rw[ev] at e;cases e;have l:∀L,L=gY n (T,i)->((Ts.zipIdx.take (i+1)).flatMap (gY n))=((Ts.zipIdx.take i).flatMap (gY n))++L:=λL J=>by
    rw[K8 C,qR,J];simp
   have ln:=len i;refine⟨rfl,GG k rfl ?_⟩;rw[ao bV,Ga];refine cD (λc=>?_) (λc=>?_)
   .have s:gY n (T,i)=(aH T).map (λo=>(i,n,o)):=by unfold gY;rw[aA c]
    have M:=f T (cU C);have u:(aH T).length=T.length:=by simp[aH]
    refine⟨gE hc,F1 (λo=>.tup [.int ((i:Nat):Int),.str n,o]) rfl k (by omega) (λA' o Y Q N=>⟨show 3<=sizeLine by omega,N⟩) ?_⟩;refine vD (getElem?_push hc) aE (by rw[aM,aM,u];omega) ?_;have em:((aH T).map λo=>D.tup [.int ((i:Nat):Int),.str n,.str o])=(gY n (T,i)).map cE:=by
     rw[s,bK];rfl
    refine z _ _ ⟨i+1,_,_,by omega,rfl,rfl,?_,(g.trans Gr.push).set (aF _)⟩;rw[l _ rfl,dJ,em];exact get_set (getElem?_push hc)
   .have s:gY n (T,i)=[]:=by unfold gY;rw[ao c]
    refine z _ _ ⟨i+1,_,_,by omega,rfl,rfl,?_,g⟩;rw[l _ rfl,s,mq];exact hc
  .rw[qM (by rw[pN,aM];omega)] at e
   cases e
 .rintro τ H ⟨i,x,y,hi,e,rfl,hc,g⟩
  have hi:i=b.length:=by
   have:=ck List.length e;simp[pN] at this;omega
  rw[hi,m,qH (by rw[yg];exact aF _)] at hc;exact q _ _ g hc (aF _)
end My
namespace DP
open L2 MA
theorem Hf{P X:aS}{n:Str}(h:n∈aD P):cM (P++X) n=cM P n:=by
 have:=find_some (T:=P) (n:=n);rw[dR (show n∈P.map (·.1) from h)] at this;obtain⟨p,a⟩:=qt.mp this;unfold cM;rw[find?_append,a];rfl
theorem Sq{P:aS}{n:Str}{l:List bC}(h:n∉aD P):cM (P++[(n,l)]) n=l:=by
 have:=find_some (T:=P) (n:=n);rw[fY (show ¬n∈P.map (·.1) from h)] at this;have e:P.find? (λp=>decide (p.1=n))=none:=by
  cases e:P.find? (λp=>decide (p.1=n)) with
  |none=>rfl
  |some p=>rw[e] at this;cases this
 unfold cM;rw[find?_append,e];simp
theorem kM{P:aS}{n:Str}(h:n∈aD P):(n,cM P n)∈P:=by
 have:=find_some (T:=P) (n:=n);rw[dR (show n∈P.map (·.1) from h)] at this;obtain⟨p,a⟩:=qt.mp this;have h1:=nu a;have h2:=find?_some a;unfold cM;rw[a];have h2:p.1=n:=gy h2;rw[<-h2];exact h1
def nK(b:Nat)(A:Ar)(P:aS):Prop:=∃kvs,A[b+1]?=some (.dct kvs)/\A[b+2]?=some (.lst ((aD P).map D.str))/\kvs.map (·.1)=(aD P).map Sum.inr/\∀n∈aD P,∃a,a≠b+2/\b<=a/\bw kvs (Sum.inr n)=some (.ref a)/\A[a]?=some (.lst ((cM P n).map cE))
structure f6(P:aS)(NN:List Str):Prop where
 nd:(aD P).Nodup
 sub:∀n∈aD P,n∈NN
 pl:∀p∈P,p.2.length+1<=P.length
theorem f6.len{P:aS}{NN:List Str}(h:f6 P NN):P.length<=NN.length:=by
 have:=j5 (aD P) NN h.nd h.sub;simpa[aD] using this
theorem f6.add{P:aS}{NN:List Str}(h:f6 P NN){s:bC}(h1:s.2.1∈aD P)(h2:s.2.2∈NN):f6 (cB P s) NN:=by
 refine⟨L1 s h.nd,λn a=>?_,λp hp=>?_⟩
 .rcases (rF P s n).mp a with h'|rfl
  .exact h.sub n h'
  .exact h2
 .unfold cB at hp ⊢
  split at hp
  .rename_i hc
   rw[aA hc];exact h.pl p hp
  .rename_i hc
   rw[ao hc,cJ];rcases bU.mp hp with hp|hp
   .have:=h.pl p hp
    simp;omega
   .rw[bE.mp hp]
    have:=h.pl _ (kM h1);simp at this ⊢;omega
def gQ(lo:Nat)(A:Ar)(q:Nat)(P:aS):Prop:=lo<=q/\∃kvs,A[q]?=some (.dct kvs)/\kvs.map (·.1)=(aD P).map Sum.inr/\∀n∈aD P,∃a,lo<=a/\bw kvs (Sum.inr n)=some (.ref a)/\A[a]?=some (.lst ((cM P n).map cE))
theorem gQ.gr{A B:Ar}{lo q:Nat}{P:aS}(h:gQ lo A q P)(g:Gr A B):gQ lo B q P:=by
 obtain⟨h0,kvs,h1,h2,b⟩:=h;exact⟨h0,kvs,g.get h1,h2,λn c=>by obtain⟨a,z,x,y⟩:=b n c;exact⟨a,z,x,g.get y⟩⟩
theorem gQ.set{A:Ar}{lo q t:Nat}{P:aS}{c:C}(h:gQ lo A q P)(g:t<lo):gQ lo (A.set t c) q P:=by
 obtain⟨h0,kvs,h1,h2,e⟩:=h;have b:∀(j:Nat) (d:C),lo<=j->A[j]?=some d->(A.set t c)[j]?=some d:=λj d i hd=>by
  rw[eF (by omega)];exact hd
 exact⟨h0,kvs,b _ _ h0 h1,h2,λn f=>by obtain⟨a,z,x,y⟩:=e n f;exact⟨a,z,x,b _ _ z y⟩⟩
theorem gQ.lo{A:Ar}{lo b q:Nat}{P:aS}(h:gQ lo A q P)(e:b<=lo):gQ b A q P:=by
 obtain⟨h0,kvs,h1,h2,c⟩:=h;exact⟨by omega,kvs,h1,h2,λn d=>by obtain⟨a,z,x,y⟩:=c n d;exact⟨a,by omega,x,y⟩⟩
theorem nK.gr{A B:Ar}{b:Nat}{P:aS}(h:nK b A P)(g:Gr A B):nK b B P:=by
 obtain⟨kvs,h1,h2,c,d⟩:=h;exact⟨kvs,g.get h1,g.get h2,c,λn e=>by obtain⟨a,z,f,x,y⟩:=d n e;exact⟨a,z,f,x,g.get y⟩⟩
theorem sF{kvs:List (Key×D)}{ns:List Str}{n:Str}(h:kvs.map (·.1)=ns.map Sum.inr):(bw kvs (Sum.inr n)).isSome=decide (n∈ns):=by
 induction kvs generalizing ns with
 |nil=>
  cases ns with
  |nil=>rfl
  |cons _ _=>cases h
 |cons p kvs a=>
  cases ns with
  |nil=>cases h
  |cons m ns=>
   rw[cO,cO,List.cons.injEq] at h;show(if p.1=Sum.inr n then some p.2 else bw kvs (Sum.inr n)).isSome=_;rw[h.1];by_cases e:m=n
   .rw[aA (by rw[e])]
    simp[e]
   .rw[ao (λz=>e (Sum.inr.inj z)),a h.2]
    simp[Ne.symm e]
theorem rJ{Ts:List Tb}{f i:Nat}{P:aS}{p:Str×List bC}(h:P[i]?=some p):dU Ts (f+1) i P=dU Ts f (i+1) ((d9 Ts p.1).foldl cB P):=by
 show(match P[i]? with|some p=>dU Ts f (i+1) ((d9 Ts p.1).foldl cB P)|none=>P)=_;rw[h]
theorem Mg{Ts:List Tb}{f i:Nat}{P:aS}(h:P.length<=i):dU Ts f i P=P:=by
 cases f with
 |zero=>rfl
 |succ f=>
  show(match P[i]? with|some p=>dU Ts f (i+1) ((d9 Ts p.1).foldl cB P)|none=>P)=_;rw[o7 h]
def zo:Ct:=λds A R _=>∃r n Ts NN,ds=[.ref r,.str n]/\iD A r Ts/\eT Ts NN/\n∈NN/\∀A' q,Gr A A'->gQ A.length A' q (aO Ts n)->R (.ref q) A'
theorem gq{A:Ar}{i j:Nat}{c d:C}(a:i≠j)(h:A[j]?=some d):(A.set i c)[j]?=some d:=by
 rw[eF a];exact h
theorem tL{A:Ar}{i:Nat}{c d:C}(h:A[i]?=some d):(A.set i c)[i]?=some c:=eB (cz h)
theorem RY{kvs:List (Key×D)}{ns:List Str}{n:Str}{v:D}(h:kvs.map (·.1)=ns.map Sum.inr)(a:n∉ns):(b5 kvs (Sum.inr n) v).map (·.1)=(ns++[n]).map Sum.inr:=by
 rw[Bu (λp b z=>?_)]
 .simp[h]
 .have:p.1∈kvs.map (·.1):=cQ b
  rw[h,z] at this;obtain⟨m,c,e⟩:=aJ.mp this;rw[<-Sum.inr.inj e] at a;exact a c
end DP
namespace My
open L2 DP MA
theorem Pp(T:TopD K mg "paths_from" JV xu)(u:mg "len"=none)(d:aj P w K mg base 1 "steps_from" xB (ak mg 2 DT)):aj P w K mg base 2 "paths_from" xu (ak mg 2 zo):=by
 refine bH T Xf λhr hR hx t nd=>⟨_,(av (dS 2 nd (E5 (vr 1) (cH af)))
  (av (dS 3 nd (cH (aa (vr 1) af)))
  (av (dS 4 nd ai)
  (av (z5 dQ (B6 (vr 4) (dO iW iu u jk (aa (vr 3) af))) (av (eH dQ rfl (cC (dL d hr hx (aa (vr 0) (aa (dX t (vr 3) (vr 4)) af)))) (dG 5 nd) (ay (bJ (ql t (dX t (vr 5) ai) (vr 2)) (av (vz t (vr 2) (dX t (vr 5) ai) (c8 (dX t (vr 2) (dX t (vr 5) ai)) (cH (aa (vr 5) af))) rfl)
  (ay (c_ (gS g_ jK jM ja jw (vr 3) (aa (dX t (vr 5) ai) af))))) bM)))
  (ay (NU (i:=4) nd rfl (by first|exact Or.inl rfl|exact Or.inr rfl) ai))))
  (ay (aN (vr 2))))))),λds A R h hl=>?_⟩
 obtain⟨r,n,Ts,NN,rfl,hB,hok,hn,q⟩:=h;have hz:(1000:Nat)<=sizeLine:=by decide
 have e1:(A++[C.lst []]).length=A.length+1:=by simp
 have e2:(A++[C.lst []]++[C.dct [(Sum.inr n,D.ref A.length)]]).length=A.length+2:=by simp
 refine⟨bP _,show 1<=sizeLine by omega,?_⟩;have lI:nK A.length (A++[C.lst []]++[C.dct [(Sum.inr n,D.ref A.length)]]++[C.lst [D.str n]]) [(n,[])]:=by
  refine⟨[(Sum.inr n,D.ref A.length)],?_,?_,rfl,λm hm=>⟨A.length,by omega,aF _,?_,?_⟩⟩
  .rw[<-e1];exact getElem?_push aE
  .rw[<-e2];exact aE
  .have:m=n:=by simpa[aD] using hm
   subst this;exact aA rfl
  .have:m=n:=by simpa[aD] using hm
   subst this;have e:cM [(m,[])] m=[]:=by simp[cM]
   rw[e];exact getElem?_push (getElem?_push aE)
 refine⟨λk τ A'=>∃(i:Nat) (Q:aS) (x:Option D),k=13 - i/\τ=[some (.ref r),some (.str n),some (.ref (A++[C.lst []]).length),some (.ref (A++[C.lst []]++[C.dct [(Sum.inr n,D.ref A.length)]]).length),some (.int ((i:Nat):Int)),x]/\i<=Q.length/\nK A.length A' Q/\f6 Q NN/\dU Ts (14 - i) i Q=aO Ts n/\Gr A A',⟨13,0,[(n,[])],none,rfl,rfl,by simp,lI,⟨by simp[aD],λm hm=>by
   have:m=n:=by simpa[aD] using hm
   rw[this];exact hn,λp J=>by
   have:p=(n,[]):=by simpa using J
   rw[this];simp⟩,rfl,((Gr.push.trans Gr.push).trans Gr.push)⟩,?_⟩
 rw[e1,e2];rintro k τ A1 ⟨i,Q,x,rfl,rfl,hi,hS,hP,hb,Y⟩;have R_:Q.length<=12:=cG hP.len hok.nn;obtain⟨L,hd0,B,hk0,hv0⟩:=id hS;refine vS B ?_;have M:((aD Q).map D.str).length=Q.length:=by simp[aD]
 refine cD (λc=>?_) (λc=>?_)
 .rw[M] at c
  have c:i<Q.length:=by omega
  obtain⟨p,J⟩:∃p,Q[i]?=some p:=⟨Q[i],a_ c⟩;have QU:p.1∈aD Q:=cQ (cU J);refine⟨λτ A'=>∃(G:aS) (x:Option D),τ=[some (.ref r),some (.str n),some (.ref (A.length+1)),some (.ref (A.length+2)),some (.int ((i+1:Nat):Int)),x]/\i+1<=G.length/\nK A.length A' G/\f6 G NN/\dU Ts (14 - (i+1)) (i+1) G=aO Ts n/\Gr A A',λbB A' ⟨G,x,h1,h2,N,h4,h5,h6⟩=>⟨13 - (i+1),by omega,i+1,G,x,rfl,h1,h2,N,h4,h5,h6⟩,?_⟩;refine kK B (v:=.str p.1) (mH (by rw[cu];unfold aD;rw[cu,J];rfl)) ?_;refine⟨rfl,r,p.1,Ts,rfl,hB.gr Y,hok.len,λT hT=>(hok.tok T hT).len,λA2 Z g2 h2 l2=>?_⟩;have gl:=Y.len;have lr:=cz B;refine d8 h2 ?_;refine eG (λrest τ A'=>∃(dn b:List bC) (x:Option D),rest=b.map cE/\dn++b=d9 Ts p.1/\τ=[some (.ref r),some (.str n),some (.ref (A.length+1)),some (.ref (A.length+2)),some (.int ((i:Nat):Int)),x]/\nK A.length A' (dn.foldl cB Q)/\f6 (dn.foldl cB Q) NN/\A'[Z]?=some (.lst ((d9 Ts p.1).map cE))/\Gr A A') ?_ ?_ ?_ _ _ _ ⟨[],d9 Ts p.1,x,rfl,rfl,rfl,hS.gr g2,hP,h2,Y.trans g2⟩
  .rintro rest τ A' ⟨dn,b,x,_,_,_,_,_,h,_⟩
   exact h
  .rintro v rest τ O ⟨dn,b,x,e,g,rfl,s,j,N,g3⟩ Nx hN
   cases b with
   |nil=>cases e
   |cons st b=>
   cases e;have hst:st∈d9 Ts p.1:=by rw[<-g];simp
   obtain⟨T,hT,hn1,hn2,QS⟩:=oj.mp hst;obtain⟨kvs,hd,S,hk,hv⟩:=id s;have f:(dn++[st]).foldl cB Q=cB (dn.foldl cB Q) st:=by rw[nH];rfl
   generalize QB:dn.foldl cB Q=l at*
   have E:st.2.1∈aD l:=by
    rw[<-QB,Ae,hn2];exact .inl QU
   have Wg:st.2.2∈NN:=hok.sub T (cU hT) _ QS;have l3:l.length<=12:=cG j.len hok.nn;refine iL hd rfl ?_;rw[aA rfl,sF hk];refine cN (λH=>?_) (λH=>?_)
   .obtain⟨a1,na,Z3,ga,ha⟩:=hv _ E
    refine fH hd rfl ga ?_;have hpl:=j.pl _ (kM E);simp at hpl;refine⟨show 1<=sizeLine by omega,iX (getElem?_push ha) aE (by simp;omega) ?_⟩;have ZY:kvs.length=l.length:=by
     have:=ck List.length hk;simpa[aD] using this
    refine xJ (getElem?_push (getElem?_push hd)) rfl (by omega) ?_;have U:=getElem?_push (T:=[C.lst ((cM l st.2.1).map cE++[cE st])]) (getElem?_push (T:=[C.lst [cE st]]) S);have hd2:=getElem?_push (T:=[C.lst ((cM l st.2.1).map cE++[cE st])]) (getElem?_push (T:=[C.lst [cE st]]) hd);have o:=gq (i:=A.length+1) (c:=C.dct (b5 kvs (Sum.inr st.2.2) (D.ref (O++[C.lst [cE st]]).length))) (by omega) U;refine⟨gE o,iV o (by simp[aD];omega) ?_⟩;have Z9:A1.length<=Z:=l2;have nq:A.length+2≠Z:=by omega
    have TH:A.length+1≠Z:=by omega
    have I:cB l st=l++[(st.2.2,cM l st.2.1++[st])]:=by unfold cB;rw[ao H]
    have ek:aD (cB l st)=aD l++[st.2.2]:=by rw[I];simp[aD]
    refine hN _ _ ⟨dn++[st],b,_,rfl,by simpa using g,rfl,?_,?_,?_,?_⟩
    .rw[f]
     refine⟨_,gq (by omega) (tL hd2),?_,?_,λm hm=>?_⟩
     .rw[ek,dJ]
      exact tL o
     .rw[ek]
      exact RY hk H
     .rw[ek] at hm
      have la:(O++[C.lst [cE st]]).length=O.length+1:=by simp
      have Z2:=cz S;rcases bU.mp hm with hm|hm
      .obtain⟨a,V,W,P_,F⟩:=hv m hm
       have hne:¬(Sum.inr st.2.2:Key)=Sum.inr m:=λz=>H (by rw[Sum.inr.inj z];exact hm);refine⟨a,V,W,by rw[pT,ao hne];exact P_,?_⟩;rw[I,Hf hm];have hd':A.length+1≠a:=λz=>by rw[<-z,hd] at F;cases F
       exact gq (Ne.symm V) (gq hd' (getElem?_push (getElem?_push F)))
      .have hm:m=st.2.2:=by simpa using hm
       subst hm;refine⟨(O++[C.lst [cE st]]).length,by omega,by omega,by rw[pT,aA rfl],?_⟩;rw[I,Sq H,dJ];exact gq (by omega) (gq (by omega) aE)
    .rw[f]
     exact j.add E Wg
    .exact gq nq (gq TH (getElem?_push (getElem?_push N)))
    .exact((((g3.trans Gr.push).trans Gr.push).set (by omega)).set (by omega))
   .have I:cB l st=l:=by unfold cB;rw[aA H]
    refine hN _ _ ⟨dn++[st],b,_,rfl,by simpa using g,rfl,?_,?_,N,g3⟩
    .rw[f,I];exact s
    .rw[f,I];exact j
  .rintro τ O ⟨dn,b,x,e,g,rfl,s,j,N,g3⟩
   cases b with
   |cons _ _=>cases e
   |nil=>
   have g:dn=d9 Ts p.1:=by simpa using g
   subst g;refine⟨_,x,by rfl,?_,s,j,?_,g3⟩
   .obtain⟨X,e⟩:=vE (d9 Ts p.1) Q
    rw[e,cJ];omega
   .rw[<-hb,show 14 - i=(14 - (i+1))+1 by omega,rJ J]
 .rw[M] at c
  have c:Q.length<=i:=by omega
  rw[Mg c] at hb;rw[<-hb] at q;refine q A1 _ Y ⟨by omega,L,hd0,hk0,λm hm=>?_⟩;obtain⟨a,_,z,x,y⟩:=hv0 m hm;exact⟨a,z,x,y⟩
end My
namespace DP
open L2 MA
def DN:Ct:=λds A R _=>∃l r' a b r rs,ds=[enc (.bS l r' a b),.ref r]/\A[r]?=some (.dct (dg rs))/\1<=l/\l<=9/\1<=r'/\r'<=9/\Bk rs a/\Bk rs b/\a.deep<=6/\b.deep<=6/\∀A',Gr A A'->R (.tup [.int (l*ld (val rs) a),.int (r'*ld (val rs) b)]) A'
def DU(d:Nat):Ct:=λds A R _=>∃m w r rs,ds=[enc m,.str w,.ref r]/\A[r]?=some (.dct (dg rs))/\Wf m/\Bk rs m/\m.deep<d/\d<=6/\w.length+d<=100/\∀A' q,Gr A A'->A'[q]?=some (.lst ((jg (val rs) m w).map kN))->A.length<=q->R (.ref q) A'
def DV:Ct:=λds A R _=>∃m rs,ds=[enc m,fy rs]/\Wf m/\Bk rs m/\m.deep<=5/\∀A' q,Gr A A'->A'[q]?=some (.lst ((jg (val rs) m "").map kN))->A.length<=q->R (.ref q) A'
theorem FJ{A:Ar}{p:Nat}{xs:List D}{R:DK}(h:A[p]?=some (.lst xs))(c:gc xs=true)(d:canLayAll0 (bR xs)=true)(k:R (.bl (decide (xs=[]))) (A++[.lst []])):gR false (.ref p) (.ref A.length) (A++[.lst []]) R:=by
 unfold gR;have b:cY (A++[.lst []]) (.ref p)=.list (bR xs):=by unfold cY;simp only[getElem?_push h]
 have a:cY (A++[.lst []]) (.ref A.length)=.list []:=by unfold cY;simp only[aE];rfl
 refine⟨?_,?_,?_,?_,?_,?_⟩
 .unfold jd;simp only[getElem?_push h];exact c
 .unfold jd;simp only[aE];rfl
 .rw[b];simpa[canLay0] using d
 .rw[a];simp[canLay0,canLayAll0]
 .rw[a];simp[PyData.depth,depthAll];omega
 .rw[b,a]
  have e:PyData.eqv (.list (bR xs)) (.list [])=decide (xs=[]):=by cases xs<;>simp[bR,PyData.eqv,eqvAll]
  rw[ao (by decide),e];exact k
def Wy(w:Str):Prop:=∀c∈w.cps.toList,c=108\/c=114
theorem EK(x y:Str):(x++y).cps.toList=x.cps.toList++y.cps.toList:=Array.toList_append
theorem Wy.nil:Wy "":=λc h=>by
 have e:("":Str).cps.toList=[]:=by decide+kernel
 rw[e] at h;cases h
theorem MJ:("l":Str).cps.toList=[108]:=by decide+kernel
theorem MK:("r":Str).cps.toList=[114]:=by decide+kernel
theorem Wy.l{w:Str}(h:Wy w):Wy (w++"l"):=λc hc=>by
 rw[EK,MJ] at hc;rcases bU.mp hc with h'|h'
 .exact h c h'
 .exact .inl (bE.mp h')
theorem Wy.r{w:Str}(h:Wy w):Wy (w++"r"):=λc hc=>by
 rw[EK,MK] at hc;rcases bU.mp hc with h'|h'
 .exact h c h'
 .exact .inr (bE.mp h')
theorem Wy.ok{w:Str}(h:Wy w):canLay0 (.str w)=true:=by
 have e:w.cps.all (λc=>decide (c<0x110000))=true:=by
  rw[<-Array.all_toList,all_eq_true];intro c hc;have:=h c hc;exact dR (by omega)
 simpa[canLay0,strOk] using e
theorem Sk:canLay0 (.str "left")=true:=by decide+kernel
theorem V6:canLay0 (.str "right")=true:=by decide+kernel
theorem Cb(f:Str->Int):∀(m:M) (w:Str),Wy w->∀p∈jg f m w,Wy p.1/\(p.2="left"\/p.2="right")
 |.wt _,_,_,p,h=>by cases h
 |.bS l r a b,w,c,p,h=>by
  have h:p∈hr2 w (l*ld f a) (r*ld f b)++jg f a (w++"l")++jg f b (w++"r"):=h;rcases bU.mp h with h|h
  .rcases bU.mp h with h|h
   .unfold hr2 at h
    split at h
    .rw[bE.mp h];exact⟨c,.inl rfl⟩
    .split at h
     .rw[bE.mp h];exact⟨c,.inr rfl⟩
     .cases h
   .exact Cb f a _ c.l p h
  .exact Cb f b _ c.r p h
end DP
namespace My
open L2 DP MA
theorem Pq(T:TopD K mg "pulls" JX xw)(c:aj P w K mg base 10 "load_below" xo (ak mg 2 (Dw 6))):aj P w K mg base 11 "pulls" xw (ak mg 2 DN):=by
 refine bH T Xh λe o f d nd=>⟨_,(ay (aN (bX (aa (fm (dX d (vr 0) ai) (dL c e f (aa (dX d (vr 0) ai) (aa (vr 1) af)))) (aa (fm (dX d (vr 0) ai) (dL c e f (aa (dX d (vr 0) ai) (aa (vr 1) af)))) af))))),λds A R h p=>?_⟩;obtain⟨l,r',a,b,r,rs,rfl,g,h1,h2,s,t,i,j,m,db,q⟩:=h;refine⟨rfl,a,r,rs,rfl,g,i.ok,m,i.nm,λu k=>⟨.inl ⟨by omega,by omega⟩,?_⟩⟩;refine⟨rfl,b,r,rs,rfl,k.get g,j.ok,db,j.nm,λv n=>⟨.inl ⟨by omega,by omega⟩,?_⟩⟩;exact⟨show 2<=sizeLine by decide,q _ (k.trans n)⟩
theorem PF(T:TopD K mg "tips_below" J7 xD)(i:aj P w K mg base 11 "pulls" xw (ak mg 2 DN)):∀d,aj P w K mg base (d+11) "tips_below" xD (ak mg 3 (DU d)):=by
 intro d;induction d with
 |zero=>
  refine nW T λds A R RE h=>?_;obtain⟨m,w,r,rs,_,_,_,_,h,_⟩:=h;omega
 |succ d e=>
  refine jY T Ke rfl (by decide) λN RE f V B outer s H E u hR G ds A R h hl=>?_;have j:=u.units;have nd:=Ke.nd;refine⟨_,(av (bJ (d_ j (dX j (vr 0) ai) bG) (ay (aN (cH af))) bM)
  (av (dS 3 nd (dL i u G (aa (vr 0) (aa (vr 2) af))))
  (av (dS 4 nd (cH af))
  (av (bJ (B4 (dX j (vr 3) ai) (dX j (vr 3) ai)) (ay (c_ (gS g_ jK jM ja jw (vr 4) (aa (bX (aa (vr 1) (aa bG af))) af)))) bM)
  (av (bJ (B6 (dX j (vr 3) ai) (dX j (vr 3) ai)) (ay (c_ (gS g_ jK jM ja jw (vr 4) (aa (bX (aa (vr 1) (aa bG af))) af)))) bM)
  (ay (aN (c8 (c8 (vr 4) (dL e u G (aa (dX j (vr 0) ai) (aa (c8 (vr 1) bG) (aa (vr 2) af))))) (dL e u G (aa (dX j (vr 0) ai) (aa (c8 (vr 1) bG) (aa (vr 2) af)))))))))))),?_⟩
  obtain⟨m,w,r,rs,rfl,O,I,v,hd,h6,J,q⟩:=h;have hs:(1000:Nat)<=sizeLine:=by decide
  cases m with
  |wt n=>exact⟨bP _,q _ _ Gr.push aE (aF _)⟩
  |bS l r' a b=>
   have W:max a.deep b.deep+1<d+1:=hd;have L:=I.arms;obtain⟨X,Y,Z,r4,_,_⟩:=L;have ll:("l":Str).length=1:=by decide+kernel
   have lr:("r":Str).length=1:=by decide+kernel
   have al:∀x y:Str,(x++y).length=x.length+y.length:=λx y=>um;refine⟨rfl,l,r',a,b,r,rs,rfl,O,X,Y,Z,r4,v.left,v.right,by omega,by omega,λg Q=>?_⟩;refine⟨bP _,?_⟩;have n0:=Gy w (l*ld (val rs) a) (r'*ld (val rs) b);have n1:=tU (val rs) a (w++"l");have n2:=tU (val rs) b (w++"r");have p1:2 ^ a.deep<=2 ^ 6:=fF (by decide) (by omega);have p2:2 ^ b.deep<=2 ^ 6:=fF (by decide) (by omega);by_cases k:r'*ld (val rs) b<l*ld (val rs) a;case' pos=>
    have o:hr2 w (l*ld (val rs) a) (r'*ld (val rs) b)=[(w,("left":Str))]:=by unfold hr2;rw[aA k]
    refine cD (λ_=>?_) (λc=>absurd k c);refine⟨gE aE,show 2<=sizeLine by decide,iV aE (by decide) ?_⟩;have h2:=get_set (ys:=[]++[D.tup [.str w,.str "left"]]) (aE (A:=g) (c:=C.lst []));have z:Gr g ((g++[C.lst []]).set g.length (.lst ([]++[D.tup [.str w,.str "left"]]))):=Gr.set Gr.push (aF _);refine cD (λc=>absurd k (by omega)) (λ_=>?_);generalize (g++[C.lst []]).set g.length (.lst ([]++[D.tup [.str w,.str "left"]]))=p at*
    have h2:p[g.length]?=some (.lst ((hr2 w (l*ld (val rs) a) (r'*ld (val rs) b)).map kN)):=by rw[h2,o];rfl
   case' neg=>
    refine cD (λc=>absurd c k) (λ_=>?_);by_cases F:l*ld (val rs) a<r'*ld (val rs) b;case' pos=>
     have o:hr2 w (l*ld (val rs) a) (r'*ld (val rs) b)=[(w,("right":Str))]:=by unfold hr2;rw[ao k,aA F]
     refine cD (λ_=>?_) (λc=>absurd F c);refine⟨gE aE,show 2<=sizeLine by decide,iV aE (by decide) ?_⟩;have h2:=get_set (ys:=[]++[D.tup [.str w,.str "right"]]) (aE (A:=g) (c:=C.lst []));have z:Gr g ((g++[C.lst []]).set g.length (.lst ([]++[D.tup [.str w,.str "right"]]))):=Gr.set Gr.push (aF _);generalize (g++[C.lst []]).set g.length (.lst ([]++[D.tup [.str w,.str "right"]]))=p at*
     have h2:p[g.length]?=some (.lst ((hr2 w (l*ld (val rs) a) (r'*ld (val rs) b)).map kN)):=by rw[h2,o];rfl
    case' neg=>
     have o:hr2 w (l*ld (val rs) a) (r'*ld (val rs) b)=[]:=by unfold hr2;rw[ao k,ao F]
     refine cD (λc=>absurd c F) (λ_=>?_);have h2:=aE (A:=g) (c:=C.lst []);have z:Gr g (g++[C.lst []]):=Gr.push;generalize g++[C.lst []]=p at*
     have h2:p[g.length]?=some (.lst ((hr2 w (l*ld (val rs) a) (r'*ld (val rs) b)).map kN)):=by rw[h2,o];rfl
   all_goals
    have t:=(Q.trans z).get O;refine⟨by omega,rfl,a,_,r,rs,rfl,t,I.left,v.left,by omega,by omega,by rw[al];omega,λA3 q3 M h3 _=>?_⟩;refine iX (M.get h2) h3 (by simp;omega) ?_;refine⟨by omega,rfl,b,_,r,rs,rfl,getElem?_push (M.get t),I.right,v.right,by omega,by omega,by rw[al];omega,λA4 q4 S h4 _=>?_⟩;refine iX (S.get aE) h4 (by simp;omega) ?_;have U:Gr A A4:=(((Q.trans z).trans M).trans Gr.push).trans S;refine q _ _ (U.trans Gr.push) ?_ U.len;rw[aE];simp[jg]
theorem PL(T:TopD K mg "tips" J6 xC)(d:mg "dict"=none)(b:aj P w K mg base 9 "check_mobile" m7 (ak mg 1 pB))(a:aj P w K mg base 10 "check_weights" sS (ak mg 2 ze))(c:aj P w K mg base 17 "tips_below" xD (ak mg 3 (DU 6))):aj P w K mg base 18 "tips" xC (ak mg 2 DV):=by
 refine bH T Xo λf r i s nd=>⟨_,(av (c_ (dL b f i (aa (vr 0) af)))
  (av (c_ (dL a f i (aa (vr 0) (aa (vr 1) af))))
  (ay (aN (dL c f i (aa (vr 0) (aa bG (aa (iy (mJ rfl) mP d nE (aa (vr 1) af)) af)))))))),λds A R h t=>?_⟩
 obtain⟨m,rs,rfl,j,e,hd,q⟩:=h;refine⟨rfl,_,⟨m,rfl,j,hd,rfl⟩,λu k=>?_⟩;refine⟨rfl,_,⟨m,rs,rfl,e.ok,hd,e.nm,rfl⟩,λv l=>?_⟩;refine vm e.ok ?_;have g:=(k.trans l).trans (Gr.push (T:=[C.dct (dg rs)]));exact⟨rfl,m,_,_,rs,rfl,aE,j,e,by omega,by omega,by decide+kernel,λx y n o p=>q _ _ (g.trans n) o (cG g.len p)⟩
end My
namespace DP
open L2 MA
theorem Ei{a:Int}(h:a<=2 ^ 63):a<2 ^ 2000:=qx h (yE (show(2 ^ 63:Int)<2 ^ 64 by decide) (by
 have:(2:Nat) ^ 64<=2 ^ 2000:=fF (by decide) (by decide);exact_mod_cast this))
def eK(rs:List (Str×Int))(s:Str->Rat)(n:Str):Rat:=(((val rs n:Int):Rat)/((1:Int):Rat))*(((rf (s n)).2:Rat)/((rf (s n)).1:Rat))
theorem tH{x:Rat}(h:0<x):0<(rf x).1:=eL h
theorem Sh{rs:List (Str×Int)}{s:Str->Rat}{n:Str}(h:0<s n):eK rs s n*s n=((val rs n:Int):Rat):=by
 unfold eK;have a:(((rf (s n)).1:Int):Rat)≠0:=by have:=tH h;exact_mod_cast (by omega:(rf (s n)).1≠0)
 have b:(((rf (s n)).2:Int):Rat)≠0:=by have:=cX (s n);exact_mod_cast (by omega:(rf (s n)).2≠0)
 have e:(((rf (s n)).2:Rat)/((rf (s n)).1:Rat))*s n=1:=by
  conv=>lhs;rhs;rw[<-gp (s n)]
  rw[mj,mj,yJ,<-yJ (((rf (s n)).1:Rat)⁻¹),Rat.inv_mul_cancel _ a,oZ,Rat.mul_inv_cancel _ b]
 rw[yJ,e,Rat.mul_one,mj];have:(((1:Int):Rat))⁻¹=1:=by
  have h:=Rat.inv_mul_cancel (1:Rat) (by decide);rw[Rat.mul_one] at h;simpa using h
 rw[this,Rat.mul_one]
theorem Si{rs:List (Str×Int)}{s:Str->Rat}{n:Str}(h:gP (s n))(h1:1<=val rs n)(h2:val rs n<=999999):0<eK rs s n/\(rf (eK rs s n)).1<=2000000000000:=by
 have f:=tH h.pos;have g:=cX (s n);have e:eK rs s n=((val rs n*(rf (s n)).2:Int):Rat)/((1*(rf (s n)).1:Int):Rat):=by
  unfold eK;rw[mul_div (by decide) f]
 have c:0<val rs n*(rf (s n)).2:=gj (by omega) g;have d:=BB (a:=val rs n*(rf (s n)).2) (b:=1*(rf (s n)).1) (by omega);rw[<-e] at d;have l:=VZ (a:=val rs n*(rf (s n)).2) (b:=1*(rf (s n)).1) c (by omega);have p:=V0 (a:=val rs n*(rf (s n)).2) (b:=1*(rf (s n)).1) c (by omega);rw[d] at l p;have hd:=h.den;have:val rs n*(rf (s n)).2<=999999*2000000:=eE h2 hd (by omega) (by decide);refine⟨?_,by omega⟩;have h0:(0:Rat)<eK rs s n*s n:=by rw[Sh h.pos];exact_mod_cast (by omega:(0:Int)<val rs n)
 exact(Rat.mul_pos_iff_of_pos_right h.pos).mp h0
theorem As{A b:Ar}{r:Nat}{o:Obj}{kvs:List (Key×D)}(h:A[r]?=some (.dct kvs))(g:Gr (A.set r (.bz o kvs)) b):b[r]?=some (.bz o kvs)/\Gr A (b.set r (.dct kvs)):=by
 obtain⟨T,rfl⟩:=g;have a:=(bY.mp h).1;refine⟨by rw[iC (by simpa using a),eB a],T,?_⟩;rw[ym _ _ (by simpa using a),set_set];congr 1;apply qP;intro i;by_cases e:i=r
 .subst e;rw[eB a,h]
 .rw[eF (Ne.symm e)]
theorem Bt:∀(ps acc:List (Key×D)),((acc++ps).map (·.1)).Nodup->ps.foldl (λacc p=>b5 acc p.1 p.2) acc=acc++ps
 |[],acc,_=>by simp
 |p::ps,acc,h=>by
  rw[h_];have c:(acc.any λa=>decide (a.1=p.1))=false:=by
   rw[List.any_eq_false];intro a b z;rw[dJ] at h;exact(nv.mp h).2.2 a.1 (cQ b) p.1 (by simp) (gy z)
  have e:b5 acc p.1 p.2=acc++[p]:=by
   unfold b5;rw[c];rfl
  rw[e,Bt ps (acc++[p]) (by simpa using h)];simp
theorem An(g:Str->D):∀(ns:List Str) (n:Str),n∈ns->bw (ns.map λn=>((Sum.inr n:Key),g n)) (Sum.inr n)=some (g n)
 |[],n,h=>by cases h
 |x::ns,n,h=>by
  show(if (Sum.inr x:Key)=Sum.inr n then some (g x) else bw _ _)=_;by_cases e:x=n
  .rw[aA (by rw[e]),e]
  .rw[ao (λz=>e (Sum.inr.inj z))]
   rcases aY.mp h with z|z
   .exact absurd z.symm e
   .exact An g ns n z
def fB(g:Str->Rat)(n:Str):D:=.tup [.str n,fq (g n)]
theorem Bj(g:Str->Rat):∀ns:List Str,fK (ns.map (fB g))=some (ns.map λn=>((Sum.inr n:Key),fq (g n)))
 |[]=>rfl
 |n::ns=>by
  have:=Bj g ns;simp[fB,fK,this,gm]
def DW:Ct:=λds A R _=>∃(r1:Nat) (sH:List (Key×D)) (ns:List Str) (s:Str->Rat) (r2:Nat) (rs:List (Str×Int)),ds=[.ref r1,.ref r2]/\A[r1]?=some (.dct sH)/\Fb sH ns s/\A[r2]?=some (.dct (dg rs))/\r1≠r2/\(∀n∈ns,gP (s n)/\1<=val rs n/\val rs n<=999999/\bw (dg rs) (Sum.inr n)=some (.int (val rs n)))/\ns.length<=32/\
 ∀(A':Ar) (q:Nat) (kvs':List (Key×D)),Gr A A'->A'[q]?=some (.dct kvs')->A.length<=q->Fb kvs' ns (eK rs s)->R (.ref q) A'
theorem G8{α:Type}[DecidableEq α]:∀(ys l:List α),ys.Nodup->(∀x∈ys,x∈l)->ys.length<=l.length
 |[],l,_,_=>bP _
 |y::ys,l,h,a=>by
  obtain⟨h1,h2⟩:=iQ.mp h;have:=G8 ys (l.erase y) h2 λx b=>(uf (λz=>h1 (by rw[<-z];exact b))).mpr (a x (bq _ b));have c:=a y (aU ..);have:=ud c;have:=qw c;simp only[gi];omega
def oi:Option Int->D
 |some k=>.int k
 |none=>.aG
def mZ(Uu:List Rat)(x:Rat):Option Int:=match Uu with
 |[]=>none
 |a::r=>if ((a::r).any λy=> !decide (y=a))=true then none else if (rf (a*x)).2=1 then some (rf (a*x)).1 else none
theorem Ii:∀xs:List Rat,gc (xs.map fq)=true
 |[]=>rfl
 |x::xs=>by simp[gc,gn,fq,Ii xs]
theorem G4:∀xs:List Rat,canLayAll0 (bR (xs.map fq))=true
 |[]=>rfl
 |x::xs=>by
  have:=AL x;simp[bR,canLayAll0,this,G4 xs]
theorem Y8{rs:List (Str×Int)}(h:jt rs){n:Str}(b:n∈rs.map (·.1)):1<=val rs n/\val rs n<=999999:=by
 obtain⟨r,a,rfl⟩:=aJ.mp b;rw[Y9 (V8 h.up) a];exact h.no r a
def eU(rs:List (Str×Int))(s:Str->Rat)(ns:List Str)(y:Str):Option (Str×Int):=match mZ ((ns.filter λn=> !decide (n=y)).map (eK rs s)) (s y) with
 |some k=>if k<=999999/\k≠val rs y then some (y,k) else none
 |none=>none
def DM:Ct:=λds A R _=>∃m rs,ds=[enc m,fy rs]/\Wf m/\Bk rs m/\m.deep<=5/\
 (cR [] (bF m "" 1)=none->∀(A':Ar) (q:Nat) (ns ys:List Str),Gr A A'->A.length<=q->ns.Nodup->(∀x,x∈ns↔x∈m.names)->ys.Pairwise strLt->(∀x,x∈ys↔x∈m.names)->A'[q]? =some (.lst ((ys.filterMap (eU rs (shr m) ns)).map bI))->R (.ref q) A')/\
 (cR [] (bF m "" 1)≠none->∀(A':Ar) (q:Nat),Gr A A'->A.length<=q->A'[q]? =some (.lst [])->R (.ref q) A')
def DG:Ct:=λds A R _=>∃(y:Str) (r1:Nat) (sH:List (Key×D)) (ns:List Str) (s:Str->Rat) (r2:Nat) (GY:List (Key×D)) (L:Str->Rat),ds=[.str y,.ref r1,.ref r2]/\A[r1]?=some (.dct sH)/\Fb sH ns s/\A[r2]?=some (.dct GY)/\Fb GY ns L/\r1≠r2/\y∈ns/\ns.length<=32/\(∀n∈ns,gP (s n))/\(∀n∈ns,0<L n/\(rf (L n)).1<=2000000000000)/\
 ∀A',Gr A A'->R (oi (mZ ((ns.filter λn=> !decide (n=y)).map L) (s y))) A'
end DP
namespace My
open L2 DP MA
theorem PM(T:TopD K mg "whole_loads" J8 xE)(k:mg "dict"=none)(f:aj P w K mg base 3 "quotient" qc (ak mg 2 (λds A R E=>∃a b c d:Int,ds=[.tup [.int a,.int b],.tup [.int c,.int d]]/\kB [.tup [.int a,.int b],.tup [.int d,.int c]] A R E))):aj P w K mg base 4 "whole_loads" xE (ak mg 2 DW):=by
 refine bH T Xp λJ hR hx y nd=>⟨_,(ay (aN (iy (mJ rfl) mP k nE (aa (E6 (i:=0) (fk none (own:=["name"]) (frees:=["fractions","numbers"]) (ix:=[0,1]) rfl (nR (vr 0)) (λc=>(pG 0 (show(["name","fractions","numbers"]:List Str).Nodup by decide+kernel))) (λc=>(bX (aa (vr 0) (aa (dL f J m_ (aa (bX (aa (dX y (vr 2) (vr 0)) (aa ai af))) (aa (dX y (vr 1) (vr 0)) af))) af)))))) af)))),λds A R h hl=>?_⟩;obtain⟨r,e,ns,j,L,rs,rfl,m,s,t,u,M,B,q⟩:=h;have hz:(1000:Nat)<=sizeLine:=by decide
 have l1:=cz m;refine F3 m λo=>?_;have v:(A.set r (.bz o e))[r]?=some (.bz o e):=eB l1;have h2:(A.set r (.bz o e))[L]?=some (.dct (dg rs)):=by rw[eF u];exact t
 refine pY v ?_;have N:(e.map λp=>keyOf p.1)=ns.map D.str:=by
  have:=ck (List.map keyOf) s.keys;rw[bK,bK] at this;exact this
 rw[N];refine pI (λd=>match d with|.str n=>fB (eK rs j) n|d=>d) _ _ _ (λA' g=>g.get v) (λd hd A' g=>?_) (by simp;omega) (λF G=>?_)
 .obtain⟨n,l,rfl⟩:=aJ.mp hd
  obtain⟨k1,k2,k3,O⟩:=M n l;have S:=tH k1.pos;have U:=cX (j n);have kn:=k1.num;have V:=k1.den;refine⟨[.str n],rfl,λQ W=>?_⟩;refine fH (g.get h2) rfl O ?_;refine⟨show 2<=sizeLine by decide,?_⟩;refine sD (g.get v) rfl (s.get n l) ?_;refine⟨rfl,val rs n,1,(rf (j n)).1,(rf (j n)).2,rfl,val rs n,1,(rf (j n)).2,(rf (j n)).1,rfl,by omega,by decide,U,S,by omega,by omega,?_,λA3 X=>?_⟩
  .have:val rs n*(rf (j n)).2<=999999*2000000:=eE k3 V (by omega) (by decide)
   exact Ei (by omega)
  .exact⟨show 2<=sizeLine by decide,W _ X⟩
 have Y:(ns.map D.str).map (λd=>match d with|.str n=>fB (eK rs j) n|d=>d)=ns.map (fB (eK rs j)):=by
  rw[bK];rfl
 rw[fN,Y];have Z:=G.trans (Gr.push (T:=[C.lst (ns.map (fB (eK rs j)))]));obtain⟨t1,H⟩:=As m Z;have l2:=G.len;rw[length_set] at l2;refine⟨e,t1,?_⟩;have hL:((F++[C.lst (ns.map (fB (eK rs j)))]).set r (.dct e))[F.length]?=some (.lst (ns.map (fB (eK rs j)))):=by
  rw[eF (by omega)];exact aE
 refine ve hL (Bj _ _) (by simp;omega) ?_;have I:((ns.map λn=>((Sum.inr n:Key),fq (eK rs j n))).map (·.1))=ns.map Sum.inr:=by
  rw[bK];rfl
 have x:(ns.map (Sum.inr:Str->Key)).Nodup:=jI.mpr (s.nd.imp λh z=>h (Sum.inr.inj z));have ep:nc (ns.map λn=>((Sum.inr n:Key),fq (eK rs j n)))=ns.map λn=>((Sum.inr n:Key),fq (eK rs j n)):=by
  have:=Bt (ns.map λn=>((Sum.inr n:Key),fq (eK rs j n))) [] (by rw[fN,I];exact x);simpa[nc] using this
 rw[ep];exact q _ _ _ (H.trans Gr.push) aE (by have:=H.len;simpa using this) ⟨I,s.nd,λn l=>An (λn=>fq (eK rs j n)) ns n l⟩
theorem Pb(T:TopD K mg "number_by_others" JT xq)(t:mg "any"=none)(f:aj P w K mg base 3 "product" oz (ak mg 2 kB)):aj P w K mg base 4 "number_by_others" xq (ak mg 3 DG):=by
 refine bH T Xd λhr hR E k nd=>⟨_,(av (dS 3 nd (E6 (i:=2) (E4 none (own:=["other"]) (frees:=["loads","name"]) (ix:=[2,0]) rfl (nR (vr 2)) (λc=>(pG 0 (show(["other","loads","name"]:List Str).Nodup by decide+kernel))) (λc=>(j7 k (vr 0) (vr 2))) (λc=>(dX k (vr 1) (vr 0))))))
  (av (bJ (PW.pt (gU (d_ k (vr 3) (cH af)) (iJ (fu (dO (Ew rfl) ET t Ep (aa (fk none (own:=["whole"]) (frees:=["others"]) (ix:=[3]) rfl (cC (vr 3)) (λc=>(pG 0 (show(["whole","others"]:List Str).Nodup by decide+kernel))) (λc=>(N7 k (vr 0) (dX k (vr 1) ai)))) af)))))) (ay (aN jX)) bM)
  (av (dS 4 nd (dL f hr E (aa (dX k (vr 3) ai) (aa (dX k (vr 1) (vr 0)) af))))
  (ay (aN (vh (d_ k (dX k (vr 4) ai) ai) (dX k (vr 4) ai) jX)))))),λds A R h hl=>?_⟩
 obtain⟨y,r1,Y,ns,s,l,b,L,rfl,F,N,u,G,hne,Z,H,hs,hL,q⟩:=h;have hz:(1000:Nat)<=sizeLine:=by decide
 have l2:=cz u;refine F3 u λo=>?_;have O:(A.set l (.bz o b))[l]?=some (.bz o b):=eB l2;refine pY O ?_;have ek:(b.map λp=>keyOf p.1)=ns.map D.str:=by
  have:=ck (List.map keyOf) G.keys;rw[bK,bK] at this;exact this
 rw[ek];refine zL O (λd=>match d with|.str n=> !decide (n=y)|_=>true) (λd=>match d with|.str n=>fq (L n)|d=>d) _ _ (λd hd=>?_) (by simp;omega) ?_
 .obtain⟨n,v,rfl⟩:=aJ.mp hd
  exact⟨[.str n],rfl,λQ z=>z,λQ z=>sD O rfl (G.get n v) z⟩
 obtain⟨e,M⟩:∃e,e=(ns.filter λn=> !decide (n=y)).map L:=⟨_,rfl⟩;have e2:((ns.map D.str).filter (λd=>match d with|.str n=> !decide (n=y)|_=>true)).map (λd=>match d with|.str n=>fq (L n)|d=>d)=e.map fq:=by
  rw[List.filter_map,bK,M,bK];rfl
 have S:e.length<=32:=by
  rw[M,aM];exact cG (CG _ _) H
 have U:∀x∈e,0<x/\(rf x).1<=2000000000000:=λx E=>by
  rw[M] at E;obtain⟨n,v,rfl⟩:=aJ.mp E;exact hL n (lY.mp v).1
 rw[fN,e2];rw[<-M] at q;have gA:=Gr.push (A:=A.set l (.bz o b)) (T:=[C.lst (e.map fq)]);obtain⟨t1,t2⟩:=As u gA;refine⟨b,t1,?_⟩;have hO:((A.set l (.bz o b)++[C.lst (e.map fq)]).set l (.dct b))[(A.set l (.bz o b)).length]?=some (.lst (e.map fq)):=by
  rw[eF (by rw[length_set];omega)];exact aE
 generalize (A.set l (.bz o b)++[C.lst (e.map fq)]).set l (.dct b)=B0 at*
 generalize (A.set l (.bz o b)).length=p0 at*
 refine⟨bP _,FJ hO (Ii _) (G4 _) ?_⟩;have V:=t2.trans (Gr.push (T:=[C.lst []]));have m:=getElem?_push (T:=[C.lst []]) hO;have Zy:=V.get F;generalize B0++[C.lst []]=B1 at*
 cases e with
 |nil=>exact q _ V
 |cons a r=>
  obtain⟨a0,a1⟩:=U a (aU ..);have hv:c6 ((a::r).map fq) 0=some (fq a):=mH (j:=0) rfl;refine d8 m ?_;refine u5 fq (λ_=>true) (λx=>.bl (!decide (x=a))) (a::r) [] _ (λA2 B=>B.get m) (λx E A2 B=>⟨[fq x],rfl,λQ z=>z _ Gr.refl,λA3 I Q z=>kK ((B.trans I).get m) hv (wc (z _ Gr.refl))⟩) (by simp at S ⊢;omega) (λA2 B=>?_);have ef:(a::r).filter (λ_=>true)=a::r:=List.filter_eq_self.mpr λ_ _=>rfl;rw[ef,fN];refine D5 (bs:=(a::r).map λx=> !decide (x=a)) aE (nN _ _) ?_;have I:=(V.trans B).trans (Gr.push (T:=[C.lst ((a::r).map λx=>D.bl (!decide (x=a)))]));have W:=(B.trans (Gr.push (T:=[C.lst ((a::r).map λx=>D.bl (!decide (x=a)))]))).get m;have J:=I.get F;have ea:((a::r).map λx=> !decide (x=a)).any id=(a::r).any λx=> !decide (x=a):=by rw[any_map];rfl
  rw[ea];have q:∀A',Gr A A'->R (oi (if ((a::r).any λy=> !decide (y=a))=true then none else if (rf (a*s y)).2=1 then some (rf (a*s y)).1 else none)) A':=q;cases hb:(a::r).any λx=> !decide (x=a) with
  |true=>
   have:=q _ I;rw[aA hb] at this;exact this
  |false=>
   have q:=λA' g=>q A' g;rw[hb] at q;have fs:=hs y Z;have hp:=tH fs.pos;have hq:=cX (s y);have ha:=tH a0;have X:=cX a;have kn:=fs.num;have kd:=fs.den;refine kK W hv ?_;refine fH J rfl (N.get y Z) ?_;refine⟨rfl,(rf a).1,(rf a).2,(rf (s y)).1,(rf (s y)).2,rfl,ha,X,hp,hq,by omega,by omega,?_,λA4 g4=>?_⟩
   .have:(rf a).1*(rf (s y)).1<=2000000000000*2000000:=eE a1 kn (by omega) (by decide)
    exact Ei (by omega)
   rw[gp,gp];have q:=q _ (I.trans g4);rw[ao (by decide)] at q;refine cD (λc=>?_) (λc=>?_)
   .rw[aA (show(rf (a*s y)).2=1 from c)] at q
    exact q
   .rw[ao (show ¬(rf (a*s y)).2=1 from c)] at q
    exact q
theorem Pk(T:TopD K mg "one_changed" JU xr)(B:mg "dict"=none)(o:mg "sorted"=none){t:Tok}(l:mg "HEAVIEST"=some (.int 999999 t))(f:aj P w K mg base 9 "check_mobile" m7 (ak mg 1 pB))(d:aj P w K mg base 10 "check_weights" sS (ak mg 2 ze))(I:aj P w K mg base 11 "bar" ow (ak mg 1 rq))(g:aj P w K mg base 11 "name_shares" m8 (ak mg 1 zl))(i:aj P w K mg base 4 "whole_loads" xE (ak mg 2 DW))(b:aj P w K mg base 4 "number_by_others" xq (ak mg 3 DG)):aj P w K mg base 12 "one_changed" xr (ak mg 2 DM):=by
 refine bH T Xe λV hR y hu nd=>⟨_,(av (c_ (dL f V y (aa (vr 0) af)))
  (av (c_ (dL d V y (aa (vr 0) (aa (vr 1) af))))
  (av (bJ (qk (dL I V y (aa (vr 0) af)) jX) (ay (aN (cH af))) bM)
  (av (dS 2 nd (iy (mJ rfl) mP B nE (aa (vr 1) af)))
  (av (dS 3 nd (dL g V y (aa (vr 0) af)))
  (av (dS 4 nd (dL i V y (aa (vr 3) (aa (vr 2) af))))
  (av (dS 5 nd (cH af))
  (av (eH dQ rfl (cC (dO (zJ rfl) zS o uA (aa (vr 3) af))) (dG 6 nd) (av (dS 7 nd (dL b V y (aa (vr 6) (aa (vr 3) (aa (vr 4) af)))))
  (ay (bJ (PW.pt (pM (qk (vr 7) jX) (pM (YJ (vr 7) (lG l)) (rZ (j7 hu (vr 7) (dX hu (vr 2) (vr 6))))))) (ay (c_ (gS g_ jK jM ja jw (vr 5) (aa (bX (aa (vr 6) (aa (vr 7) af))) af)))) bM))))
  (ay (aN (vr 5))))))))))),λds A R h hl=>?_⟩
 obtain⟨m,rs,rfl,Z,J,hd,q1,q2⟩:=h;refine⟨rfl,_,⟨m,rfl,Z,hd,rfl⟩,λA1 g1=>?_⟩;refine⟨rfl,_,⟨m,rs,rfl,J.ok,hd,J.nm,rfl⟩,λA2 g2=>?_⟩;refine⟨rfl,m,rfl,Z,hd,λL g3=>?_⟩;have M:=(g1.trans g2).trans g3;cases hb:cR [] (bF m "" 1) with
 |some p=>exact⟨bP _,q2 (by rw[hb];intro z;cases z) _ _ (M.trans Gr.push) M.len aE⟩
 |none=>
  have q1:=q1 hb;refine vm J.ok ?_;have hB:=aE (A:=L) (c:=C.dct (dg rs));have gB:=M.trans (Gr.push (T:=[C.dct (dg rs)]));have lB:L.length<(L++[C.dct (dg rs)]).length:=by simp
  generalize L++[C.dct (dg rs)]=B0 at*
  refine⟨rfl,m,rfl,Z,hd,hb,λB1 p1 G ns f1 h1 k1 q N=>?_⟩;have nl:ns.length<=32:=cG (G8 ns m.names q.nd λx y=>(N x).mp y) (jb hd);have O:∀n∈ns,gP (shr m n):=λn H=>xR Z.arms hd hb ((N n).mp H);have E:∀n∈ns,1<=val rs n/\val rs n<=999999:=λn H=>Y8 J.ok (J.nm n ((N n).mp H));have hn2:p1≠L.length:=by omega
  refine⟨rfl,p1,G,ns,shr m,L.length,rs,rfl,h1,q,f1.get hB,hn2,λn H=>⟨O n H,(E n H).1,(E n H).2,nX rs n (J.nm n ((N n).mp H))⟩,nl,λr p2 W f2 h2 k2 PR=>?_⟩;refine⟨bP _,?_⟩;have g0:=(gB.trans f1).trans f2;have lb:=g0.len;have hT:=aE (A:=r) (c:=C.lst []);have Qx:=(Gr.push (A:=r) (T:=[C.lst []])).get (f2.get h1);have ZD:=(Gr.push (A:=r) (T:=[C.lst []])).get h2;have ZE:=(Gr.push (A:=r) (T:=[C.lst []])).get ((f1.trans f2).get hB);refine BI Qx q.keys q.nd (by omega) λys hp hm=>?_;have ly:=pw_len ys ns hp λx y=>(hm x).mp y;refine d8 aE ?_;have hz:(1000:Nat)<=sizeLine:=by decide
  have lt:(r++[C.lst []]).length=r.length+1:=by simp
  have gC:=Gr.push (A:=r++[C.lst []]) (T:=[C.lst (ys.map D.str)]);have hl3:=aE (A:=r++[C.lst []]) (c:=C.lst (ys.map D.str));have ZZ:=cz (f2.get h1);have Z0:=cz h2;have Z1:=cz ((f1.trans f2).get hB);refine eG (λrest τ A'=>∃(dn a:List Str) (x z:Option D),rest=a.map D.str/\dn++a=ys/\τ=[some (enc m),some (fy rs),some (.ref L.length),some (.ref p1),some (.ref p2),some (.ref r.length),x,z]/\A'[r.length]?=some (.lst ((dn.filterMap (eU rs (shr m) ns)).map bI))/\Gr r A'/\A'[(r++[C.lst []]).length]?=some (.lst (ys.map D.str))) ?_ ?_ ?_ _ _ _ ⟨[],ys,none,none,rfl,rfl,rfl,gC.get hT,Gr.push.trans gC,hl3⟩
  .rintro rest τ A' ⟨dn,a,x,z,_,_,_,_,_,h3⟩
   exact h3
  .rintro v rest τ A' ⟨dn,a,x,z,e,j,rfl,ht,X,h3⟩ Nx hN
   cases a with
   |nil=>cases e
   |cons n a=>
    cases e;have Y:n∈ns:=(hm n).mp (by rw[<-j];simp);have hdl:dn.length<=32:=by
     have:(dn++n::a).length=ys.length:=by rw[j]
     simp at this;omega
    have key:(dn++[n]).filterMap (eU rs (shr m) ns)=dn.filterMap (eU rs (shr m) ns)++(eU rs (shr m) ns n).toList:=by
     rw[List.filterMap_append];cases h:eU rs (shr m) ns n<;>simp[h]
    refine⟨rfl,n,p1,G,ns,shr m,p2,W,eK rs (shr m),rfl,X.get (f2.get h1),q,X.get h2,PR,?_,Y,nl,O,λk Q=>Si (O k Q) (E k Q).1 (E k Q).2,λA4 g4=>?_⟩
    .have:=cz h1
     omega
    have s:=g4.get ht;have F:=g4.get h3;have u:=X.trans g4;cases S:mZ ((ns.filter λk=> !decide (k=n)).map (eK rs (shr m))) (shr m n) with
    |none=>
     refine hN _ _ ⟨dn++[n],a,_,_,rfl,by simpa using j,rfl,?_,u,F⟩;have U:eU rs (shr m) ns n=none:=by
      unfold eU;rw[S]
     rw[key,U];simpa using s
    |some k=>
     have no:¬(k<=999999/\k≠val rs n)->A4[r.length]?=some (.lst (((dn++[n]).filterMap (eU rs (shr m) ns)).map bI)):=λc=>by
      have U:eU rs (shr m) ns n=none:=by
       unfold eU;rw[S];simp only[ao c]
      rw[key,U];simpa using s
     refine cD (λc1=>?_) (λc1=>?_)
     .refine fH (u.get ((f1.trans f2).get hB)) rfl (nX rs n (J.nm n ((N n).mp Y))) ?_
      refine cN (λc2=>?_) (λc2=>?_)
      .refine⟨gE s,show 2<=sizeLine by decide,iV s ?_ ?_⟩
       .have:(dn.filterMap (eU rs (shr m) ns)).length<=dn.length:=List.length_filterMap_le _ _
        rw[aM];omega
       .refine hN _ _ ⟨dn++[n],a,_,_,rfl,by simpa using j,rfl,?_,u.set (aF _),?_⟩
        .rw[key]
         have:eU rs (shr m) ns n=some (n,k):=by
          unfold eU;rw[S];simp only[aA (show k<=999999/\k≠val rs n from⟨c1,c2⟩)]
         rw[this,dJ];exact Ao s
        .rw[eF (by omega)]
         exact F
      .exact hN _ _ ⟨dn++[n],a,_,_,rfl,by simpa using j,rfl,no (λz=>z.2 c2),u,F⟩
     .exact hN _ _ ⟨dn++[n],a,_,_,rfl,by simpa using j,rfl,no (λz=>c1 z.1),u,F⟩
  .rintro τ A' ⟨dn,a,x,z,e,j,rfl,ht,X,h3⟩
   cases a with
   |cons n a=>cases e
   |nil=>
    have j:dn=ys:=by simpa using j
    rw[j] at ht;exact q1 _ _ ns ys (g0.trans X) lb q.nd N hp (λx=>by rw[hm,N]) ht
end My
namespace DP
open L2 MA
def fJ(Gs:List aS):List Str:=Gs.flatMap aD
def cW(Ts:List Tb)(Gs:List aS)(n:Str):List aS:=if n∈fJ Gs then Gs else Gs++[aO Ts n]
def br(Ts:List Tb):List aS:=(Ts.flatMap aH).foldl (cW Ts) []
def fP(lo:Nat)(A:Ar):List Nat->List aS->Prop
 |[],[]=>True
 |q::qs,P::Ps=>gQ lo A q P/\fP lo A qs Ps
 |_,_=>False
theorem fP.kO{lo a:Nat}{A B:Ar}(f:∀q P,gQ lo A q P->gQ a B q P):∀{qs:List Nat} {Ps:List aS},fP lo A qs Ps->fP a B qs Ps
 |[],[],_=>trivial
 |q::qs,P::Ps,h=>⟨f q P h.1,fP.kO f h.2⟩
 |[],_::_,h=>h.elim
 |_::_,[],h=>h.elim
theorem fP.snoc{lo:Nat}{A:Ar}{q:Nat}{P:aS}(a:gQ lo A q P):∀{qs:List Nat} {Ps:List aS},fP lo A qs Ps->fP lo A (qs++[q]) (Ps++[P])
 |[],[],_=>⟨a,trivial⟩
 |_::qs,_::Ps,h=>⟨h.1,fP.snoc a h.2⟩
 |[],_::_,h=>h.elim
 |_::_,[],h=>h.elim
theorem fP.len{lo:Nat}{A:Ar}:∀{qs:List Nat} {Ps:List aS},fP lo A qs Ps->qs.length=Ps.length
 |[],[],_=>rfl
 |q::qs,P::Ps,h=>by simp[fP.len h.2]
 |[],_::_,h=>h.elim
 |_::_,[],h=>h.elim
def LU(lo:Nat)(A:Ar)(q:Nat)(Gs:List aS):Prop:=lo<=q/\∃gs,A[q]?=some (.lst (gs.map D.ref))/\fP lo A gs Gs
def mE(b:Nat)(NN:List Str)(A:Ar)(Gs:List aS):Prop:=∃(gs:List Nat) (kvs:List (Key×D)) (ns:List Str),A[b]?=some (.lst (gs.map D.ref))/\fP (b+2) A gs Gs/\A[b+1]?=some (.dct kvs)/\kvs.map (·.1)=ns.map Sum.inr/\ns.Nodup/\(∀n,n∈ns↔n∈fJ Gs)/\∀n∈ns,n∈NN
theorem mE.set{b t:Nat}{NN:List Str}{A:Ar}{Gs:List aS}{c:C}(h:mE b NN A Gs)(e:t<b):mE b NN (A.set t c) Gs:=by
 obtain⟨gs,kvs,ns,h1,h2,a,d⟩:=h;exact⟨gs,kvs,ns,gq (by omega) h1,h2.kO λq P z=>z.set (by omega),gq (by omega) a,d⟩
theorem R9{kvs:List (Key×D)}{ns:List Str}(h:kvs.map (·.1)=ns.map Sum.inr):∃ps:List (Str×D),kvs=ps.map (λp=>((Sum.inr p.1:Key),p.2))/\ps.map (·.1)=ns:=by
 induction kvs generalizing ns with
 |nil=>
  cases ns with
  |nil=>exact⟨[],rfl,rfl⟩
  |cons _ _=>cases h
 |cons p kvs a=>
  cases ns with
  |nil=>cases h
  |cons m ns=>
   rw[cO,cO,List.cons.injEq] at h;obtain⟨ps,b,c⟩:=a h.2;exact⟨(m,p.2)::ps,by rw[cO,<-b,<-h.1],by rw[cO,c]⟩
theorem Hx{kvs b:List (Key×D)}{ns ms:List Str}(h1:kvs.map (·.1)=ns.map Sum.inr)(h2:b.map (·.1)=ms.map Sum.inr)(c:ns.Nodup):∃a:List Str,(kQ kvs b).map (·.1)=a.map Sum.inr/\a.Nodup/\∀n,n∈a↔n∈ns\/n∈ms:=by
 obtain⟨ps,d,e⟩:=R9 h2;obtain⟨a,k1,k2,k3⟩:=Af ps kvs ns h1 c;refine⟨a,?_,k2,λn=>by rw[k3,e]⟩;unfold kQ;rw[d];exact k1
theorem Ef{Ts:List Tb}{NN:List Str}(hok:eT Ts NN):∀(f i:Nat) (P:aS),f6 P NN->f6 (dU Ts f i P) NN/\∃X,dU Ts f i P=P++X
 |0,i,P,h=>⟨h,[],by simp[dU]⟩
 |f+1,i,P,h=>by
  cases e:P[i]? with
  |none=>
   have:dU Ts (f+1) i P=P:=by
    show(match P[i]? with|some p=>dU Ts f (i+1) ((d9 Ts p.1).foldl cB P)|none=>P)=_;rw[e]
   rw[this];exact⟨h,[],by simp⟩
  |some p=>
   rw[rJ e];have key:∀(ss:List bC) (Q:aS),(∀s∈ss,s∈d9 Ts p.1)->f6 Q NN->p.1∈aD Q->f6 (ss.foldl cB Q) NN:=by
    intro ss;induction ss with
    |nil=>intro Q _ h _;exact h
    |cons s ss c=>
     intro Q b d a;obtain⟨T,g,_,j,k⟩:=oj.mp (b s (aU ..));refine c _ (λx l=>b x (bq _ l)) (d.add (by rw[j];exact a) (hok.sub T (cU g) _ k)) ?_;exact(rF Q s p.1).mpr (.inl a)
   have a:p.1∈aD P:=cQ (cU e);obtain⟨h1,X,h2⟩:=Ef hok f (i+1) _ (key (d9 Ts p.1) P (λs h=>h) h a);obtain⟨Y,m⟩:=vE (d9 Ts p.1) P;exact⟨h1,Y++X,by rw[h2,m,List.append_assoc]⟩
theorem gW{Ts:List Tb}{NN:List Str}(hok:eT Ts NN){n:Str}(a:n∈NN):f6 (aO Ts n) NN/\n∈aD (aO Ts n)/\cM (aO Ts n) n=[]:=by
 have h0:f6 [(n,[])] NN:=⟨by simp[aD],λm b=>by
  have:m=n:=by simpa[aD] using b
  rw[this];exact a,λp c=>by
  have:p=(n,[]):=by simpa using c
  rw[this];simp⟩
 obtain⟨h1,X,h2⟩:=Ef hok 14 0 _ h0;have d:n∈aD [(n,([]:List bC))]:=by simp[aD]
 refine⟨h1,?_,?_⟩
 .show n∈aD (dU Ts 14 0 [(n,[])])
  rw[h2];simp[aD]
 .show cM (dU Ts 14 0 [(n,[])]) n=[]
  rw[h2,Hf d];simp[cM]
theorem Qi{Ts:List Tb}{NN:List Str}(hok:eT Ts NN){Gs:List aS}{n:Str}(a:n∈NN):n∈fJ (cW Ts Gs n)/\∀m∈fJ Gs,m∈fJ (cW Ts Gs n):=by
 unfold cW;split
 .rename_i h
  exact⟨h,λ_ h=>h⟩
 .unfold fJ
  rw[qR];refine⟨ji _ ?_,λm b=>oK _ b⟩;simp;exact(gW hok a).2.1
theorem Gf{Ts:List Tb}{NN:List Str}(hok:eT Ts NN):∀(ns:List Str) (Gs:List aS),(∀n∈ns,n∈NN)->(∀n∈ns,n∈fJ (ns.foldl (cW Ts) Gs))/\∀m∈fJ Gs,m∈fJ (ns.foldl (cW Ts) Gs)
 |[],Gs,_=>⟨(λ_ h=>by cases h),λ_ h=>h⟩
 |n::ns,Gs,h=>by
  obtain⟨k1,k2⟩:=Qi hok (Gs:=Gs) (h n (aU ..));obtain⟨b,a⟩:=Gf hok ns (cW Ts Gs n) λm hm=>h m (bq _ hm);refine⟨λm hm=>?_,λm hm=>a m (k2 m hm)⟩;rcases aY.mp hm with rfl|hm
  .exact a _ k1
  .exact b m hm
theorem vH{Ts:List Tb}{NN:List Str}(hok:eT Ts NN){T:Tb}(a:T∈Ts){n:Str}(b:n∈aH T):n∈fJ (br Ts):=by
 refine(Gf hok (Ts.flatMap aH) [] λm c=>?_).1 n (gx.mpr ⟨T,a,b⟩);obtain⟨d,h1,h2⟩:=gx.mp c;exact hok.sub d h1 m h2
theorem Au(Ts:List Tb):∀(ns:List Str) (Gs:List aS),(ns.foldl (cW Ts) Gs).length<=Gs.length+ns.length
 |[],Gs=>aF _
 |n::ns,Gs=>by
  have h:=Au Ts ns (cW Ts Gs n);have h2:(cW Ts Gs n).length<=Gs.length+1:=by
   unfold cW;split
   .omega
   .simp
  rw[h_,gi];omega
theorem Hz:∀(Ts:List Tb),(∀T∈Ts,T.length<=32)->(Ts.flatMap aH).length<=32*Ts.length
 |[],_=>by simp
 |T::Ts,h=>by
  have h1:=Hz Ts λq a=>h q (bq _ a);have h2:=h T (aU ..);have e:(aH T).length=T.length:=by simp[aH]
  rw[qS,cJ,gi];omega
def uN:Ct:=λds A R _=>∃r Ts NN,ds=[.ref r]/\iD A r Ts/\eT Ts NN/\∀A' q,Gr A A'->LU A.length A' q (br Ts)->R (.ref q) A'
theorem TabsAt.fz{A:Ar}{t:Nat}{o:Obj}{T0:Tb}(h0:A[t]?=some (.dct (cg T0))):∀{a:List Nat} {Ts:List Tb},TabsAt A a Ts->TabsAt (A.set t (.bz o (cg T0))) a Ts
 |[],[],_=>trivial
 |q::qs,T::Ts,h=>by
  refine⟨?_,TabsAt.fz h0 h.2⟩;by_cases e:t=q
  .subst e
   rcases h.1 with h'|⟨o',h'⟩
   .rw[h0] at h'
    have b:cg T0=cg T:=by
     have h':=Option.some.inj h';injection h'
    exact .inr ⟨o,by rw[eB (cz h0),b]⟩
   .rw[h0] at h'
    cases h'
  .rcases h.1 with h'|⟨o',h'⟩
   .exact .inl (gq e h')
   .exact .inr ⟨o',gq e h'⟩
 |[],_::_,h=>h.elim
 |_::_,[],h=>h.elim
end DP
namespace My
open L2 DP MA
theorem OS(T:TopD K mg "groups" JF p_)(b:aj P w K mg base 2 "paths_from" xu (ak mg 2 zo)):aj P w K mg base 3 "groups" p_ (ak mg 1 uN):=by
 refine jY T J' rfl (by decide) λN RE f cdv B outer s H E hr hR hx ds A R h hl=>?_;have hu:=hr.units;have nd:=J'.nd;refine⟨_,(av (dS 1 nd (cH af))
  (av (dS 2 nd zU)
  (av (eH dQ rfl (cC (vr 0)) (dG 3 nd) (ay (NW (eH dQ rfl (nR (vr 3)) (dG 4 nd) (ay (bJ (ql hu (vr 4) (vr 2)) (av (dS 5 nd (dL b hr hx (aa (vr 0) (aa (vr 4) af))))
  (av (c_ (E7 PySem.F.plainAttrs_dict slot_dict_update PySem.F.type_dict_update Hy E1 (vr 2) (aa (vr 5) af)))
  (ay (c_ (gS g_ jK jM ja jw (vr 1) (aa (vr 5) af)))))) bM))))))
  (ay (aN (vr 1)))))),?_⟩
 obtain⟨r,Ts,NN,rfl,hB,hok,q⟩:=h;obtain⟨I,h1,h2⟩:=id hB;have hz:(1000:Nat)<=sizeLine:=by decide
 have e1:(A++[C.lst []]).length=A.length+1:=by simp
 have g0:Gr A (A++[C.lst []]++[C.dct []]):=Gr.push.trans Gr.push;refine⟨bP _,d8 (g0.get h1) ?_⟩;rw[e1];have lI:mE A.length NN (A++[C.lst []]++[C.dct []]) []:=⟨[],[],[],getElem?_push aE,trivial,by rw[<-e1];exact aE,rfl,oO,λn=>by simp[fJ],λn h=>by cases h⟩;refine eG (λrest τ A'=>∃(i:Nat) (x y z:Option D),i<=I.length/\rest=(I.map D.ref).drop i/\τ=[some (.ref r),some (.ref A.length),some (.ref (A.length+1)),x,y,z]/\mE A.length NN A' (((Ts.take i).flatMap aH).foldl (cW Ts) [])/\Gr A A') ?_ ?_ ?_ _ _ _ ⟨0,none,none,none,bP _,rfl,rfl,lI,g0⟩
 .rintro rest τ A' ⟨i,x,y,z,_,_,_,_,g⟩
  exact g.get h1
 .rintro v rest τ A1 ⟨i,x,y,z,hi,e,rfl,W,g⟩ Nx hN
  by_cases hlt:i<I.length
  .obtain⟨t,ht⟩:∃t,I[i]?=some t:=⟨I[i],a_ hlt⟩
   obtain⟨T0,hT,hA⟩:=h2.get ht;have Zx:=hA.gr g;have L:i<(I.map D.ref).length:=by rw[aM];exact hlt
   have ev:(I.map D.ref)[i]?=some (.ref t):=by rw[cu,ht];rfl
   rw[mu L] at e;rw[a_ L] at ev;have ev:=Option.some.inj ev;rw[ev] at e;cases e;have GF:T0∈Ts:=cU hT;have tl:t<A.length:=by
    rcases hA with h'|⟨_,h'⟩
    .exact cz h'
    .exact cz h'
   have pO:(Ts.take (i+1)).flatMap aH=(Ts.take i).flatMap aH++aH T0:=by
    rw[take_succ,hT,qR];simp
   obtain⟨M,Q⟩:∃G,G=((Ts.take i).flatMap aH).foldl (cW Ts) []:=⟨_,rfl⟩;have O:((Ts.take (i+1)).flatMap aH).foldl (cW Ts) []=(aH T0).foldl (cW Ts) M:=by rw[pO,nH,Q]
   rw[<-Q] at W;have em:((cg T0).map λp=>keyOf p.1)=(aH T0).map D.str:=GX T0;have go:∀(o:Obj) (S B1:Ar) (Dn:nI),S.length=A.length->S[t]?=some (.bz o (cg T0))->iD S r Ts->Gr S B1->mE A.length NN B1 M->(∀(Y:Ar) (y z:Option D),mE A.length NN Y ((aH T0).foldl (cW Ts) M)->Gr S Y->Dn.nx [some (.ref r),some (.ref A.length),some (.ref (A.length+1)),some (.ref t),y,z] Y)->
     IY (su (ir 3)) (gN 4) (IZ (ig (dW (inD true) (ir 4) (ir 2))) (BG (tK 5 (zQ 2 zo RE (rS (ir 0) (rS (ir 4) u6)))) (BG (BF (ES Cj (ir 2) (rS (ir 5) u6))) (BF (ER zA (ir 1) (rS (ir 5) u6))))) I0) Dn [some (.ref r),some (.ref A.length),some (.ref (A.length+1)),some (.ref t),y,z] B1:=λo S B1 Dn ZG hf Qo g1 QD fin=>by
    refine pY (g1.get hf) ?_;rw[em];refine eG (λrest τ Z=>∃(dn a:List Str) (y z:Option D),rest=a.map D.str/\dn++a=aH T0/\τ=[some (.ref r),some (.ref A.length),some (.ref (A.length+1)),some (.ref t),y,z]/\mE A.length NN Z (dn.foldl (cW Ts) M)/\Gr S Z) ?_ ?_ ?_ _ _ _ ⟨[],aH T0,y,z,rfl,rfl,rfl,QD,g1⟩
    .rintro rest τ Z ⟨_,_,_,_,_,_,_,_,g'⟩
     exact g'.get hf
    .rintro v rest τ Z ⟨dn,a,y,z,e,d,rfl,J,g'⟩ Zt Gp
     cases a with
     |nil=>cases e
     |cons n a=>
     cases e;have QT:n∈aH T0:=by rw[<-d];simp
     have Gx:n∈NN:=hok.sub T0 GF n QT;have k:(dn++[n]).foldl (cW Ts) M=cW Ts (dn.foldl (cW Ts) M) n:=by rw[nH];rfl
     generalize Qs:dn.foldl (cW Ts) M=G3 at*
     obtain⟨gs,kvs,ns,k1,k2,k3,k4,k5,k6,k7⟩:=id J;refine iL k3 rfl ?_;rw[aA rfl,sF k4];refine cN (λc=>?_) (λc=>?_)
     .have U:n∉fJ G3:=λz=>c ((k6 n).mpr z)
      obtain⟨xG,_,_⟩:=gW hok Gx;refine⟨rfl,r,n,Ts,NN,rfl,Qo.gr g',hok,Gx,λY q2 u h2=>?_⟩;obtain⟨lq,l,m1,m2,m3⟩:=id h2;have lB:=cz k3;have ln:ns.length<=12:=cG (j5 ns NN k5 k7) hok.nn;have Sm:kvs.length=ns.length:=by
       have:=ck List.length k4;simpa using this
      have Sn:l.length=(aO Ts n).length:=by
       have:=ck List.length m2;simpa[aD] using this
      have lP:=xG.len;have To:=hok.nn;refine⟨GJ (u.get k3),K2 (u.get k3) m1 (by omega) (by omega) ?_⟩;have hb:=gq (i:=A.length+1) (j:=A.length) (c:=C.dct (kQ kvs l)) (by omega) (u.get k1);have pZ:=k2.len;refine⟨gE hb,iV hb ?_ ?_⟩
      .rw[aM,pZ]
       have l1:=Au Ts dn M;have l2:=Au Ts ((Ts.take i).flatMap aH) [];have l3:=Hz (Ts.take i) λT' Ay=>(hok.tok T' (qz Ay)).len;have l4:dn.length<=32:=by
        have h1:=ck List.length d;have h2:=(hok.tok T0 GF).len;have e:(aH T0).length=T0.length:=by simp[aH]
        rw[cJ] at h1;omega
       rw[kZ] at l3;have h7:=hok.len;rw[Qs] at l1;rw[<-Q] at l2;rw[nk,zero_add] at l2;omega
      obtain⟨ns',j1,j2,j3⟩:=Hx k4 m2 k5;have eg:cW Ts G3 n=G3++[aO Ts n]:=by unfold cW;rw[ao U]
      refine Gp _ _ ⟨dn++[n],a,_,_,rfl,by simpa using d,rfl,?_,?_⟩
      .rw[k,eg]
       refine⟨gs++[q2],_,ns',?_,?_,gq (by omega) (tL (u.get k3)),j1,j2,λm=>?_,λm hm=>?_⟩
       .rw[dJ]
        exact tL hb
       .refine fP.snoc ?_ (k2.kO λq P z=>((z.gr u).set (by omega)).set (by omega))
        exact((h2.lo (by omega)).set (by omega)).set (by omega)
       .rw[j3,k6]
        simp[fJ]
       .rcases (j3 m).mp hm with h'|h'
        .exact k7 m h'
        .exact xG.sub m h'
      .exact(((g'.trans u).set (by omega)).set (by omega))
     .have U:n∈fJ G3:=(k6 n).mp c
      have eg:cW Ts G3 n=G3:=by unfold cW;rw[aA U]
      refine Gp _ _ ⟨dn++[n],a,_,_,rfl,by simpa using d,rfl,?_,g'⟩;rw[k,eg];exact J
    .rintro τ Z ⟨dn,a,y,z,e,d,rfl,J,g'⟩
     cases a with
     |cons _ _=>cases e
     |nil=>
     have d:dn=aH T0:=by simpa using d
     subst d;exact fin Z y z J g'
   rcases hA with hd|⟨o,hd⟩
   .refine .inl ⟨t,cg T0,g.get hd,λo=>?_⟩
    have Zv:A1.set t (.bz o (cg T0))=A1.set t (.bz o (cg T0)):=rfl;have Ql:Gr (A.set t (.bz o (cg T0))) (A1.set t (.bz o (cg T0))):=by
     obtain⟨X,rfl⟩:=g;exact⟨X,by rw[ym _ _ tl]⟩
    refine go o (A.set t (.bz o (cg T0))) _ _ (by simp) (eB tl) ⟨I,?_,h2.fz hd⟩ Ql (W.set tl) λY y z V u=>?_
    .have:t≠r:=λz=>by rw[z,h1] at hd;cases hd
     exact gq this h1
    .obtain⟨u1,u2⟩:=As hd u
     refine⟨cg T0,u1,hN _ _ ⟨i+1,_,_,_,by omega,rfl,rfl,?_,u2⟩⟩;rw[O];exact V.set tl
   .refine .inr (go o A _ _ rfl hd hB g W λY y z V u=>hN _ _ ⟨i+1,_,_,_,by omega,rfl,rfl,?_,u⟩)
    rw[O];exact V
  .rw[qM (by rw[aM];omega)] at e
   cases e
 .rintro τ A1 ⟨i,x,y,z,hi,e,rfl,W,g⟩
  have hi:i=I.length:=by
   have:=ck List.length e;simp at this;omega
  have Sz:=h2.len;rw[hi,Sz,take_length] at W;obtain⟨gs,kvs,ns,k1,k2,_⟩:=W;exact q _ _ g ⟨aF _,gs,k1,k2.kO λq P z=>z.lo (by omega)⟩
end My
namespace DP
open L2 MA
def bwd(ss:List bC):List bC:=ss.reverse.map λs=>(s.1,s.2.2,s.2.1)
noncomputable def xP(Ts:List Tb)(i:Nat)(n:Str):Rat:=match Ts[i]? with
 |some T=>cT T n
 |none=>0
noncomputable def cA(Ts:List Tb)(s:bC):Rat:=xP Ts s.1 s.2.2/xP Ts s.1 s.2.1
noncomputable def dF(Ts:List Tb)(ss:List bC):Rat:=ss.foldl (λx s=>x*cA Ts s) 1
def d7(Ts:List Tb)(s:bC):Prop:=∃T,Ts[s.1]?=some T/\s.2.1∈aH T/\s.2.2∈aH T
theorem kU{Ts:List Tb}{i:Nat}{T:Tb}(h:Ts[i]?=some T)(n:Str):xP Ts i n=cT T n:=by
 unfold xP;rw[h]
theorem tG{a b:Int}(d:0<a)(c:0<b):(rf ((a:Rat)/(b:Rat))).1<=a/\(rf ((a:Rat)/(b:Rat))).2<=b:=by
 rw[<-xM c];exact⟨lz _ (eZ d),lz _ (eZ c)⟩
theorem V4{x y:Rat}(a:0<x)(b:0<y):(rf (x*y)).1<=(rf x).1*(rf y).1:=by
 rw[<-IP];exact(tG (gj (eL a) (eL b)) (gj (cX x) (cX y))).1
theorem Fl{x y:Rat}(b:0<x)(a:0<y):x/y=(((rf x).1*(rf y).2:Int):Rat)/(((rf x).2*(rf y).1:Int):Rat):=by
 have h1:=ie (k_ (cX x));have h2:=ie (k_ (cX y));have c:=ie (k_ (eL a));conv=>lhs;rw[<-gp x,<-gp y]
 rw[gI,gI];grind
theorem Kv{Ts:List Tb}{s:bC}(e:∀T∈Ts,jT T)(h:d7 Ts s):0<cA Ts s/\(rf (cA Ts s)).1<=4000000000000/\(rf (cA Ts s)).2<=4000000000000:=by
 obtain⟨T,h1,h2,f⟩:=h;have c:=e T (cU h1);have f2:=kW c h2;have a:=kW c f;unfold cA;rw[kU h1,kU h1];have p2:=eL f2.pos;have g:=eL a.pos;have d:=cX (cT T s.2.1);have i:=cX (cT T s.2.2);have b:0<cT T s.2.2/cT T s.2.1:=by
  rw[mj];exact nC a.pos (uz.mpr f2.pos)
 refine⟨b,?_⟩;rw[Fl a.pos f2.pos];obtain⟨k1,k2⟩:=tG (gj g d) (gj i p2);have j:(rf (cT T s.2.2)).1*(rf (cT T s.2.1)).2<=2000000*2000000:=eE a.num f2.den (eZ d) (by decide);have k:(rf (cT T s.2.2)).2*(rf (cT T s.2.1)).1<=2000000*2000000:=eE a.den f2.num (eZ p2) (by decide);exact⟨by omega,by omega⟩
theorem EG{Ts:List Tb}(a:∀T∈Ts,jT T):∀(ss:List bC) (x:Rat) (k:Nat),(∀s∈ss,d7 Ts s)->0<x->(rf x).1<=(4000000000000:Int) ^ k->0<ss.foldl (λx s=>x*cA Ts s) x/\(rf (ss.foldl (λx s=>x*cA Ts s) x)).1<=(4000000000000:Int) ^ (k+ss.length)
 |[],x,k,_,h1,h2=>⟨h1,h2⟩
 |s::ss,x,k,b,h1,h2=>by
  obtain⟨p,q,_⟩:=Kv a (b s (aU ..));have c:(rf (x*cA Ts s)).1<=(4000000000000:Int) ^ (k+1):=by
   refine e_ (V4 h1 p) ?_;rw[kc];exact eE h2 q (eZ (eL p)) (pow_nonneg (by decide))
  have:=EG a ss (x*cA Ts s) (k+1) (λy d=>b y (bq _ d)) (nC h1 p) c;rw[h_,gi,show k+(ss.length+1)=k+1+ss.length by omega];exact this
theorem EF{Ts:List Tb}(a:∀T∈Ts,jT T){ss:List bC}(b:∀s∈ss,d7 Ts s):0<dF Ts ss/\(rf (dF Ts ss)).1<=(4000000000000:Int) ^ ss.length:=by
 have:=EG a ss 1 0 b (by decide) (by rw[BE];decide);rw[zero_add] at this;exact this
theorem rO(Ts:List Tb)(ss:List bC)(s:bC):dF Ts (ss++[s])=dF Ts ss*cA Ts s:=by
 unfold dF;rw[nH];rfl
theorem GS{A:Ar}{t:Nat}{T:Tb}{n:Str}{R:DK}(h:TabAt A t T)(a:n∈aH T)(k:R (fq (cT T n)) A):lO t (.str n) A R:=by
 rcases h with h|⟨o,h⟩
 .exact fH h rfl (Gb a) k
 .exact sD h rfl (Gb a) k
def Dc:Ct:=λds A R _=>∃q ss,ds=[.ref q]/\A[q]?=some (.lst (ss.map cE))/\ss.length<=100/\∀A' p,Gr A A'->A'[p]?=some (.lst ((bwd ss).map cE))->A.length<=p->R (.ref p) A'
def zd:Ct:=λds A R _=>∃r q Ts ss,ds=[.ref r,.ref q]/\iD A r Ts/\(∀T∈Ts,jT T)/\A[q]?=some (.lst (ss.map cE))/\(∀s∈ss,d7 Ts s)/\ss.length<=40/\∀A',Gr A A'->R (fq (dF Ts ss)) A'
theorem Vl{c k:Nat}(h:c ^ (k+1)<2 ^ 2000):(c:Int) ^ k*(c:Int)<2 ^ 2000:=by
 have e:(c:Int) ^ k*(c:Int)=((c ^ (k+1):Nat):Int):=by rw[qC,kc]
 rw[e];have h2:((2 ^ 2000:Nat):Int)=(2:Int) ^ 2000:=qC 2 2000;rw[<-h2];exact Int.ofNat_lt.mpr h
theorem Bp{k:Nat}(h:k<=40):(4000000000000:Int) ^ k*4000000000000<2 ^ 2000:=
 Vl (c:=4000000000000) (Nat.lt_of_le_of_lt (fF (by decide) (show k+1<=41 by omega)) (by decide+kernel))
noncomputable def jC(T:Tb):Str:=open Classical in if h:∃m,m∈aH T/\∀n∈aH T,¬n.cps.toList<m.cps.toList then Classical.choose h else default
theorem Hw{T:Tb}{m:Str}(h1:m∈aH T)(h2:∀n∈aH T,¬n.cps.toList<m.cps.toList):jC T=m:=by
 have h:∃m,m∈aH T/\∀n∈aH T,¬n.cps.toList<m.cps.toList:=⟨m,h1,h2⟩;have e:jC T=Classical.choose h:=by unfold jC;rw[dif_pos h]
 obtain⟨k1,k2⟩:=Classical.choose_spec h;rw[e];generalize Classical.choose h=x at k1 k2;have a:=h2 x k1;have b:=k2 m h1;have c:x.cps.toList=m.cps.toList:=List.le_antisymm (not_lt.mp b) (not_lt.mp a);obtain⟨⟨x⟩⟩:=x;obtain⟨⟨m⟩⟩:=m;simp at c;rw[c]
noncomputable def jv(p:Tb×Nat):List bC:=(aH p.1).map (λo=>(p.2,jC p.1,o))
noncomputable def jW(Ts:List Tb):List bC:=Ts.zipIdx.flatMap jv
def Dg:Ct:=λds A R _=>∃r Ts,ds=[.ref r]/\iD A r Ts/\Ts.length<=7/\(∀T∈Ts,jT T)/\∀A' q,Gr A A'->A'[q]?=some (.lst ((jW Ts).map cE))->A.length<=q->R (.ref q) A'
theorem EC:∀(l:List (Tb×Nat)),(∀p∈l,p.1.length<=32)->(l.flatMap jv).length<=32*l.length
 |[],_=>by simp
 |p::l,h=>by
  have h1:=EC l λq a=>h q (bq _ a);have h2:(jv p).length<=32:=by
   unfold jv;rw[aM];have:=h p (aU ..);simpa[aH] using this
  rw[qS,cJ,gi];omega
end DP
namespace My
open L2 DP MA
theorem OC(T:TopD K mg "backward" Jp wM)(g:mg "reversed"=none):aj P w K mg base 1 "backward" wM (ak mg 1 Dc):=by
 refine bH T WJ λk l m n nd=>⟨_,(ay (aN (fk (some 3) (own:=["place","one","other"]) (frees:=[]) (ix:=[]) rfl (NL g (aa (vr 0) af)) (λc=>(oB rfl (gX (pG 0 (show(["place","one","other"]:List Str).Nodup by decide+kernel)) (gX (pG 1 (show(["place","one","other"]:List Str).Nodup by decide+kernel)) (gX (pG 2 (show(["place","one","other"]:List Str).Nodup by decide+kernel)) oE))))) (λc=>(bX (aa (vr 0) (aa (vr 2) (aa (vr 1) af)))))))),λds A R h o=>?_⟩;obtain⟨p,ss,rfl,h1,i,q⟩:=h;have hz:(1000:Nat)<=sizeLine:=by decide
 refine AH h1 ?_;refine iY (f:=λd=>match d with|.tup [a,b,c]=>.tup [a,c,b]|d=>d) h1 _ _ (λd hd=>?_) (by simp;omega) ?_
 .rw[List.mem_reverse] at hd
  obtain⟨st,_,rfl⟩:=aJ.mp hd;exact⟨[.int ((st.1:Nat):Int),.str st.2.1,.str st.2.2],rfl,λQ j=>⟨show 3<=sizeLine by omega,j⟩⟩
 have e:((ss.map cE).reverse.map λd=>match d with|.tup [a,b,c]=>D.tup [a,c,b]|d=>d)=(bwd ss).map cE:=by
  unfold bwd;rw[<-List.map_reverse,bK,bK];rfl
 rw[fN,e];exact q _ _ Gr.push aE (aF _)
theorem OJ(T:TopD K mg "comes_to" JB sU)(k:aj P w K mg base 3 "product" oz (ak mg 2 kB))(i:aj P w K mg base 3 "quotient" qc (ak mg 2 (λds A R E=>∃a b c d:Int,ds=[.tup [.int a,.int b],.tup [.int c,.int d]]/\kB [.tup [.int a,.int b],.tup [.int d,.int c]] A R E))):aj P w K mg base 4 "comes_to" sU (ak mg 2 zd):=by
 refine bH T WW λM hR N G nd=>⟨_,(av (dS 2 nd (bX (aa ai (aa ai af))))
  (av (eH dQ rfl (cC (vr 1)) (kF rfl (dH (dG 3 nd) (dH (dG 4 nd) (dH (dG 5 nd) kG)))) (ay (dS 2 nd (dL k M N (aa (vr 2) (aa (dL i M N (aa (dX G (dX G (vr 0) (vr 3)) (vr 5)) (aa (dX G (dX G (vr 0) (vr 3)) (vr 4)) af))) af))))))
  (ay (aN (vr 2))))),λds A R h hl=>?_⟩
 obtain⟨r,Y,Ts,ss,rfl,Z,I,h1,O,Q,q⟩:=h;obtain⟨H,m,n⟩:=Z;have hz:(1000:Nat)<=sizeLine:=by decide
 refine⟨show 2<=sizeLine by omega,d8 h1 ?_⟩;refine eG (λrest τ A'=>∃(dn f:List bC) (x y z:Option D),rest=f.map cE/\dn++f=ss/\τ=[some (.ref r),some (.ref Y),some (fq (dF Ts dn)),x,y,z]/\Gr A A') ?_ ?_ ?_ _ _ _ ⟨[],ss,none,none,none,rfl,rfl,rfl,Gr.refl⟩
 .rintro rest τ A' ⟨_,_,_,_,_,_,_,_,g⟩
  exact g.get h1
 .rintro v rest τ A1 ⟨dn,f,x,y,z,e,j,rfl,g⟩ Nx hN
  cases f with
  |nil=>cases e
  |cons st f=>
  cases e;have o:=O st (by rw[<-j];simp);have J:∀s∈dn,d7 Ts s:=λs h=>O s (by rw[<-j];simp[h]);obtain⟨c1,c2⟩:=EF I J;obtain⟨S,d2,d3⟩:=Kv I o;have ldn:dn.length<=40:=by
   have:=ck List.length j;simp at this;omega
  obtain⟨T0,p,U,V⟩:=o;have L:st.1<H.length:=by rw[n.len];exact(bY.mp p).1
  obtain⟨t,u⟩:∃t,H[st.1]?=some t:=⟨H[st.1],a_ L⟩;obtain⟨T1,B,hA⟩:=n.get u;rw[p] at B;cases B;have C:=hA.gr g;have F:c6 (H.map D.ref) ((st.1:Nat):Int)=some (.ref t):=mH (by rw[cu,u];rfl);have l:=I T0 (cU p);have f1:=kW l U;have f2:=kW l V;have p1:=eL f1.pos;have p2:=eL f2.pos;have W:=cX (cT T0 st.2.1);have X:=cX (cT T0 st.2.2);have D9:(2000000:Int)<2 ^ 64:=by decide
  have n1:=f1.num;have n2:=f2.num;have k1:=f1.den;have k2:=f2.den;refine⟨rfl,kK (g.get m) F (GS C V (kK (g.get m) F (GS C U ?_)))⟩;refine⟨rfl,_,_,_,_,rfl,_,_,_,_,rfl,p2,X,W,p1,by omega,by omega,?_,λA2 g2=>?_⟩
  .have:(rf (cT T0 st.2.2)).1*(rf (cT T0 st.2.1)).2<=2000000*2000000:=eE n2 k1 (eZ W) (by decide)
   exact qx (show _<=(4000000000000:Int) ^ 0*4000000000000 by rw[Int.pow_zero];omega) (Bp (by decide))
  have eq:((rf (cT T0 st.2.2)).1:Rat)/((rf (cT T0 st.2.2)).2:Rat)*(((rf (cT T0 st.2.1)).2:Rat)/((rf (cT T0 st.2.1)).1:Rat))=cA Ts st:=by
   unfold cA;rw[kU p,kU p,<-mul_div X p1,<-Fl f2.pos f1.pos]
  rw[eq];refine⟨rfl,_,_,_,_,rfl,eL c1,cX _,eL S,cX _,by omega,by omega,?_,λA3 g3=>?_⟩
  .refine qx ?_ (Bp ldn)
   exact eE c2 d2 (eZ (eL S)) (pow_nonneg (by decide))
  rw[gp,gp];exact hN _ _ ⟨dn++[st],f,_,_,_,rfl,by simpa using j,by rw[rO];rfl,(g.trans g2).trans g3⟩
 .rintro τ A1 ⟨dn,f,x,y,z,e,j,rfl,g⟩
  cases f with
  |cons _ _=>cases e
  |nil=>
  have j:dn=ss:=by simpa using j
  subst j;exact q _ g
theorem OI(T:TopD K mg "closing_steps" JA wW)(a:mg "enumerate"=none)(k:mg "min"=none):aj P w K mg base 1 "closing_steps" wW (ak mg 1 Dg):=by
 refine bH T WV λW X Y Z nd=>⟨_,(av (dS 1 nd (cH af))
  (av (eH dQ rfl (Fj a (aa (vr 0) af)) (kF rfl (dH (dG 2 nd) (dH (dG 3 nd) kG))) (av (dS 4 nd (dO (Mu rfl) Nl k boot_min (aa (vr 3) af)))
  (ay (c_ (gS g_ yo yw v9 u9 (vr 1) (aa (vg (fk none (own:=["other"]) (frees:=["place","first"]) (ix:=[2,4]) rfl (nR (vr 3)) (λc=>(pG 0 (show(["other","place","first"]:List Str).Nodup by decide+kernel))) (λc=>(bX (aa (vr 1) (aa (vr 2) (aa (vr 0) af))))))) af))))))
  (ay (aN (vr 1))))),λds A R h hl=>?_⟩
 obtain⟨r,Ts,rfl,J,h7,b,q⟩:=h;obtain⟨d,h1,h2⟩:=J;have hz:(1000:Nat)<=sizeLine:=by decide
 have B:=h2.len;have C:∀T∈Ts,T.length<=32:=λT u=>(b T u).len;have len:∀i,((Ts.zipIdx.take i).flatMap jv).length<=224:=λi=>by
  have:=EC (Ts.zipIdx.take i) λp L=>by
   have:=qA.mp (qz L);exact C _ (cU this)
  rw[kZ,yg] at this;omega
 refine⟨bP _,AH (getElem?_push h1) ?_⟩;refine eG (λrest τ A'=>∃(i:Nat) (x y z:Option D),i<=d.length/\rest=(iK (d.map D.ref)).drop i/\τ=[some (.ref r),some (.ref A.length),x,y,z]/\A'[A.length]?=some (.lst (((Ts.zipIdx.take i).flatMap jv).map cE))/\Gr A A') ?_ ?_ ?_ _ _ _ ⟨0,none,none,none,bP _,rfl,rfl,aE,Gr.push⟩
 .rintro rest τ A' ⟨i,x,y,z,_,_,_,_,g⟩
  exact g.get h1
 .rintro v rest τ M ⟨i,x,y,z,hi,e,rfl,hc,g⟩ Nx N
  by_cases l:i<d.length
  .obtain⟨t,I⟩:∃t,d[i]?=some t:=⟨d[i],a_ l⟩
   obtain⟨T0,u,O⟩:=h2.get I;have n:=O.gr g;have f:i<(iK (d.map D.ref)).length:=by rw[pN,aM];exact l
   have ev:=FG (ds:=d.map D.ref) (i:=i) (x:=.ref t) (by rw[cu,I];rfl);rw[mu f] at e;rw[a_ f] at ev;have ev:=Option.some.inj ev;rw[ev] at e;cases e;have j:=b T0 (cU u);have E:((Ts.zipIdx.take (i+1)).flatMap jv)=((Ts.zipIdx.take i).flatMap jv)++jv (T0,i):=by
    rw[K8 u,qR];simp
   have ln:=len i;have F:aH T0≠[]:=λz=>j.ne (by simpa[aH] using z);have S:=j.len;have G:(aH T0).length=T0.length:=by simp[aH]
   refine⟨rfl,SN n (R6 T0) F λm U s=>?_⟩;have H:=Hw U s;refine⟨gE hc,F1 (λo=>.tup [.int ((i:Nat):Int),.str m,o]) rfl n (by omega) (λA' o ho Q V=>⟨show 3<=sizeLine by omega,V⟩) ?_⟩;refine vD (getElem?_push hc) aE (by rw[aM,aM,G];omega) ?_;have em:((aH T0).map λo=>D.tup [.int ((i:Nat):Int),.str m,.str o])=(jv (T0,i)).map cE:=by
    unfold jv;rw[bK,H];rfl
   refine N _ _ ⟨i+1,_,_,_,by omega,rfl,rfl,?_,(g.trans Gr.push).set (aF _)⟩;rw[E,dJ,em];exact get_set (getElem?_push hc)
  .rw[qM (by rw[pN,aM];omega)] at e
   cases e
 .rintro τ M ⟨i,x,y,z,hi,e,rfl,hc,g⟩
  have hi:i=d.length:=by
   have:=ck List.length e;simp[pN] at this;omega
  rw[hi,B,qH (by rw[yg];exact aF _)] at hc;exact q _ _ g hc (aF _)
end My
namespace DP
open L2 MA
def gb(Gs:List aS)(n:Str):List bC:=Gs.foldl (λacc P=>if n∈aD P then cM P n else acc) []
theorem So(Gs:List aS)(P:aS)(n:Str):gb (Gs++[P]) n=if n∈aD P then cM P n else gb Gs n:=by
 unfold gb;rw[nH];rfl
noncomputable def iM(Ts:List Tb)(s:bC):List bC:=gb (br Ts) s.2.1++[s]++bwd (gb (br Ts) s.2.2)
noncomputable def iA(Ts:List Tb):Option (List bC):=((jW Ts).map (iM Ts)).find? (λss=> !decide (dF Ts ss=1))
theorem fP.get{lo:Nat}{A:Ar}:∀{qs:List Nat} {Ps:List aS} {i q:Nat},fP lo A qs Ps->qs[i]?=some q->∃P,Ps[i]?=some P/\gQ lo A q P
 |[],[],i,t,_,e=>by simp at e
 |t::a,T::Ts,0,_,h,e=>by
  simp at e;subst e;exact⟨T,rfl,h.1⟩
 |t::a,T::Ts,i+1,_,h,e=>by
  obtain⟨b,h1,h2⟩:=fP.get (i:=i) h.2 (by simpa using e);exact⟨b,by simpa using h1,h2⟩
 |[],_::_,_,_,h,_=>h.elim
 |_::_,[],_,_,h,_=>h.elim
theorem Gg{Ts:List Tb}:∀(ns:List Str) (Gs:List aS) (P:aS),P∈ns.foldl (cW Ts) Gs->P∈Gs\/∃n∈ns,P=aO Ts n
 |[],Gs,P,h=>.inl h
 |n::ns,Gs,P,h=>by
  rcases Gg ns (cW Ts Gs n) P h with h|⟨m,h1,h2⟩
  .unfold cW at h
   split at h
   .exact .inl h
   .rcases bU.mp h with h|h
    .exact .inl h
    .exact .inr ⟨n,aU ..,bE.mp h⟩
  .exact .inr ⟨m,bq _ h1,h2⟩
theorem i8{Ts:List Tb}{NN:List Str}(hok:eT Ts NN){P:aS}(h:P∈br Ts):∃n∈NN,(∃T∈Ts,n∈aH T)/\P=aO Ts n:=by
 rcases Gg _ _ P h with h|⟨n,h1,h2⟩
 .cases h
 .obtain⟨T,a,b⟩:=gx.mp h1
  exact⟨n,hok.sub T a n b,⟨T,a,b⟩,h2⟩
theorem Eg{Ts:List Tb}:∀(f i:Nat) (P:aS),(∀p∈P,∀s∈p.2,d7 Ts s)->∀p∈dU Ts f i P,∀s∈p.2,d7 Ts s
 |0,i,P,h=>h
 |f+1,i,P,h=>by
  cases e:P[i]? with
  |none=>
   have:dU Ts (f+1) i P=P:=by
    show(match P[i]? with|some p=>dU Ts f (i+1) ((d9 Ts p.1).foldl cB P)|none=>P)=_;rw[e]
   rw[this];exact h
  |some d=>
   rw[rJ e];refine Eg f (i+1) _ ?_;have key:∀(ss:List bC) (Q:aS),(∀s∈ss,s∈d9 Ts d.1)->(∀p∈Q,∀s∈p.2,d7 Ts s)->∀p∈ss.foldl cB Q,∀s∈p.2,d7 Ts s:=by
    intro ss;induction ss with
    |nil=>intro Q _ h;exact h
    |cons s ss g=>
     intro Q b a;refine g _ (λx j=>b x (bq _ j)) λp hp s' hs'=>?_;unfold cB at hp;split at hp
     .exact a p hp s' hs'
     .rcases bU.mp hp with hp|hp
      .exact a p hp s' hs'
      .rw[bE.mp hp] at hs'
       rcases bU.mp hs' with hs'|hs'
       .by_cases c:s.2.1∈aD Q
        .exact a _ (kM c) s' hs'
        .have k:cM Q s.2.1=[]:=by
          have:=find_some (T:=Q) (n:=s.2.1);rw[fY (show ¬s.2.1∈Q.map (·.1) from c)] at this;unfold cM;cases e:Q.find? (λp=>decide (p.1=s.2.1)) with
          |none=>rfl
          |some p=>rw[e] at this;cases this
         rw[k] at hs';cases hs'
       .rw[bE.mp hs']
        obtain⟨T,h1,h2,l,m⟩:=oj.mp (b s (aU ..));exact⟨T,h1,by rw[l];exact h2,m⟩
   exact key _ _ (λs h=>h) h
theorem xF{Ts:List Tb}{n:Str}:∀p∈aO Ts n,∀s∈p.2,d7 Ts s:=
 Eg 14 0 _ λp b s a=>by
  have:p=(n,[]):=by simpa using b
  rw[this] at a;cases a
theorem G_{Ts:List Tb}{NN:List Str}(hok:eT Ts NN)(n:Str):∀(Gs:List aS) (acc:List bC),(∀P∈Gs,P∈br Ts)->((∀s∈acc,d7 Ts s)/\acc.length<=11)->(∀s∈Gs.foldl (λacc P=>if n∈aD P then cM P n else acc) acc,d7 Ts s)/\(Gs.foldl (λacc P=>if n∈aD P then cM P n else acc) acc).length<=11
 |[],acc,_,h=>h
 |P::Gs,acc,h,c=>by
  rw[h_];refine G_ hok n Gs _ (λQ d=>h Q (bq _ d)) ?_;split
  .rename_i e
   obtain⟨m,f,_,rfl⟩:=i8 hok (h P (aU ..));obtain⟨b,_,_⟩:=gW hok f;have a:=kM e;refine⟨xF _ a,?_⟩;have h1:=b.pl _ a;have h2:=b.len;have g:=hok.nn;simp at h1;omega
  .exact c
theorem p6{Ts:List Tb}{NN:List Str}(hok:eT Ts NN)(Gs:List aS)(n:Str)(h:∀P∈Gs,P∈br Ts):(∀s∈gb Gs n,d7 Ts s)/\(gb Gs n).length<=11:=
 G_ hok n Gs [] h ⟨(λs h=>by cases h),bP _⟩
theorem Mj{Ts:List Tb}{ss:List bC}(h:∀s∈ss,d7 Ts s):∀s∈bwd ss,d7 Ts s:=λs d=>by
 unfold bwd at d;obtain⟨s',h1,rfl⟩:=aJ.mp d;obtain⟨T,a,b,c⟩:=h s' (List.mem_reverse.mp h1);exact⟨T,a,c,b⟩
theorem zK{Ts:List Tb}{s:bC}(h:s∈jW Ts):∃T,Ts[s.1]?=some T/\s.2.1=jC T/\s.2.2∈aH T:=by
 unfold jW at h;obtain⟨⟨T,i⟩,a,b⟩:=gx.mp h;have a:=qA.mp a;unfold jv at b;obtain⟨o,c,rfl⟩:=aJ.mp b;exact⟨T,a,rfl,c⟩
theorem v8{T:Tb}(h:T≠[]):jC T∈aH T/\∀n∈aH T,¬n.cps.toList<(jC T).cps.toList:=by
 have key:∀ns:List Str,ns≠[]->∃m,m∈ns/\∀n∈ns,¬n.cps.toList<m.cps.toList:=by
  intro ns;induction ns with
  |nil=>intro h;exact absurd rfl h
  |cons a ns c=>
   intro _;by_cases hn:ns=[]
   .subst hn
    exact⟨a,by simp,λn hn=>by
     have:n=a:=by simpa using hn
     rw[this];exact kg _⟩
   .obtain⟨m,h1,h2⟩:=c hn
    by_cases b:a.cps.toList<m.cps.toList
    .refine⟨a,by simp,λn hn=>?_⟩
     rcases aY.mp hn with rfl|hn
     .exact kg _
     .exact λz=>h2 n hn (uy z b)
    .refine⟨m,by simp[h1],λn hn=>?_⟩
     rcases aY.mp hn with rfl|hn
     .exact b
     .exact h2 n hn
 obtain⟨m,h1,h2⟩:=key (aH T) (λz=>h (by simpa[aH] using z));rw[Hw h1 h2];exact⟨h1,h2⟩
theorem V5{Ts:List Tb}{NN:List Str}(hok:eT Ts NN){s:bC}(h:s∈jW Ts):(∀x∈iM Ts s,d7 Ts x)/\(iM Ts s).length<=40:=by
 obtain⟨T,h1,h2,a⟩:=zK h;have b:=cU h1;obtain⟨a1,a2⟩:=p6 hok (br Ts) s.2.1 λP h=>h;obtain⟨c,e⟩:=p6 hok (br Ts) s.2.2 λP h=>h;have d:d7 Ts s:=⟨T,h1,by rw[h2];exact(v8 (hok.tok T b).ne).1,a⟩;unfold iM;constructor
 .intro x hx
  rcases bU.mp hx with hx|hx
  .rcases bU.mp hx with hx|hx
   .exact a1 x hx
   .rw[bE.mp hx]
    exact d
  .exact Mj c x hx
 .simp[bwd]
  omega
def DO:Ct:=λds A R _=>∃r Ts NN,ds=[.ref r]/\iD A r Ts/\eT Ts NN/\(iA Ts=none->∀A',Gr A A'->R .aG A')/\∀ss,iA Ts=some ss->∀A' q,Gr A A'->A'[q]?=some (.lst (ss.map cE))->A.length<=q->R (.ref q) A'
def DI:Ct:=λds A R E=>∃r Ts NN,ds=[.ref r]/\iD A r Ts/\eT Ts NN/\(iA Ts=none->∀A',Gr A A'->R .aG A')/\(iA Ts≠none->∀A',Gr A A'->E "Never" A')
theorem Ba:∀(a kvs:List (Key×D)) (k:Key),(a.map (·.1)).Nodup->bw (kQ kvs a) k=match bw a k with|some v=>some v|none=>bw kvs k
 |[],kvs,k,_=>rfl
 |p::a,kvs,k,c=>by
  have b:=iQ.mp (show(p.1::a.map (·.1)).Nodup from c);show bw (kQ (b5 kvs p.1 p.2) a) k=_;rw[Ba a _ k b.2,pT];show _=match (if p.1=k then some p.2 else bw a k) with|some v=>some v|none=>bw kvs k
  by_cases e:p.1=k
  .rw[aA e,aA e]
   have:bw a k=none:=by
    cases h:bw a k with
    |none=>rfl
    |some v=>
     exfalso;refine b.1 ?_;rw[e];clear Ba c b;induction a with
     |nil=>cases h
     |cons q a f=>
      have h:(if q.1=k then some q.2 else bw a k)=some v:=h;by_cases d:q.1=k
      .simp[d]
      .rw[ao d] at h
       simp[f h]
   rw[this]
  .rw[ao e,ao e]
def ri(b:Nat)(NN:List Str)(A:Ar)(Gs:List aS):Prop:=∃(kvs:List (Key×D)) (ns:List Str),A[b]?=some (.dct kvs)/\kvs.map (·.1)=ns.map Sum.inr/\ns.Nodup/\(∀n,n∈ns↔n∈fJ Gs)/\(∀n∈ns,n∈NN)/\∀n∈ns,∃a,b<a/\bw kvs (Sum.inr n)=some (.ref a)/\A[a]?=some (.lst ((gb Gs n).map cE))
theorem ri.gr{b:Nat}{NN:List Str}{A B:Ar}{Gs:List aS}(h:ri b NN A Gs)(g:Gr A B):ri b NN B Gs:=by
 obtain⟨kvs,ns,h1,h2,c,d,e,f⟩:=h;exact⟨kvs,ns,g.get h1,h2,c,d,e,λn i=>by obtain⟨a,x,y,z⟩:=f n i;exact⟨a,x,y,g.get z⟩⟩
theorem HB{ns:List Str}(h:ns.Nodup):(ns.map (Sum.inr:Str->Key)).Nodup:=by
 exact Pairwise.map _ (λa b c e=>c (Sum.inr.inj e)) h
end DP
namespace My
open L2 DP MA
theorem Pw(T:TopD K mg "find_ring" JC wX)(l:aj P w K mg base 3 "groups" p_ (ak mg 1 uN))(d:aj P w K mg base 1 "closing_steps" wW (ak mg 1 Dg))(f:aj P w K mg base 1 "backward" wM (ak mg 1 Dc))(j:aj P w K mg base 4 "comes_to" sU (ak mg 2 zd)):aj P w K mg base 5 "find_ring" wX (ak mg 1 DO):=by
 refine bH T WX λW hR X J nd=>⟨_,(av (dS 1 nd zU)
  (av (eH dQ rfl (cC (dL l W X (aa (vr 0) af))) (dG 2 nd) (ay (c_ (E7 PySem.F.plainAttrs_dict slot_dict_update PySem.F.type_dict_update Hy E1 (vr 1) (aa (vr 2) af)))))
  (av (eH dQ rfl (cC (dL d W X (aa (vr 0) af))) (dG 3 nd) (av (dS 4 nd (c8 (c8 (dX J (vr 1) (dX J (vr 3) ai)) (cH (aa (vr 3) af))) (dL f W X (aa (dX J (vr 1) (dX J (vr 3) ai)) af))))
  (ay (bJ (j7 J (dL j W X (aa (vr 0) (aa (vr 4) af))) (bX (aa ai (aa ai af)))) (ay (aN (vr 4))) bM))))
  (ay (aN jX))))),λds A R h hl=>?_⟩
 obtain⟨r,Ts,NN,rfl,hB,hok,q1,q2⟩:=h;have hz:(1000:Nat)<=sizeLine:=by decide
 have e1:(A++[C.dct []]).length=A.length+1:=by simp
 refine⟨rfl,r,Ts,NN,rfl,hB.gr Gr.push,hok,λA1 q0 g1 hG=>?_⟩;obtain⟨lq,gs,L,B⟩:=hG;rw[e1] at lq B;have pZ:=B.len;have Qt:ri A.length NN A1 []:=⟨[],[],g1.get aE,rfl,oO,λn=>by simp[fJ],(λn h=>by cases h),(λn h=>by cases h)⟩;have P8:Gr A A1:=Gr.push.trans g1;refine d8 L ?_;refine eG (λrest τ A'=>∃(i:Nat) (x:Option D),i<=gs.length/\rest=(gs.map D.ref).drop i/\τ=[some (.ref r),some (.ref A.length),x,none,none]/\ri A.length NN A' ((br Ts).take i)/\A'[q0]?=some (.lst (gs.map D.ref))/\fP (A.length+1) A' gs (br Ts)/\Gr A A') ?_ ?_ ?_ _ _ _ ⟨0,none,bP _,rfl,rfl,Qt,L,B,P8⟩
 .rintro rest τ A' ⟨_,_,_,_,_,_,h,_,_⟩
  exact h
 .rintro v rest τ A2 ⟨i,x,hi,e,rfl,Y,hq,hP,E⟩ Nx hN
  by_cases M:i<gs.length
  .obtain⟨t,ht⟩:∃t,gs[i]?=some t:=⟨gs[i],a_ M⟩
   obtain⟨P0,N,Qy⟩:=hP.get ht;have u:i<(gs.map D.ref).length:=by rw[aM];exact M
   have ev:(gs.map D.ref)[i]?=some (.ref t):=by rw[cu,ht];rfl
   rw[mu u] at e;rw[a_ u] at ev;have ev:=Option.some.inj ev;rw[ev] at e;cases e;obtain⟨m,hm,_,eP⟩:=i8 hok (cU N);obtain⟨p,_,_⟩:=gW hok hm;rw[<-eP] at p;obtain⟨Sy,b,m1,Z,m3⟩:=id Qy;obtain⟨kvs,ns,k1,k2,k3,k4,k5,k6⟩:=Y;have pO:(br Ts).take (i+1)=(br Ts).take i++[P0]:=by rw[take_succ,N];rfl
   have ln:ns.length<=12:=cG (j5 ns NN k3 k5) hok.nn;have Sm:kvs.length=ns.length:=by
    have:=ck List.length k2;simpa using this
   have Sn:b.length=P0.length:=by
    have:=ck List.length Z;simpa[aD] using this
   have lP:=p.len;have To:=hok.nn;obtain⟨ns',j1,j2,j3⟩:=Hx k2 Z k3;have SY:(b.map (·.1)).Nodup:=by rw[Z];exact HB p.nd
   refine⟨GJ k1,K2 k1 m1 (by omega) (by omega) ?_⟩;refine hN _ _ ⟨i+1,_,by omega,rfl,rfl,?_,gq (by omega) hq,hP.kO λq P z=>z.set (by omega),E.set (aF _)⟩;rw[pO];refine⟨_,ns',tL k1,j1,j2,λn=>?_,λn hn=>?_,λn hn=>?_⟩
   .rw[j3,k4]
    simp[fJ]
   .rcases (j3 n).mp hn with h'|h'
    .exact k5 n h'
    .exact p.sub n h'
   .rw[Ba _ _ _ SY,So]
    by_cases o:n∈aD P0
    .obtain⟨a,z,ga,ha⟩:=m3 n o
     rw[ga,aA o];exact⟨a,by omega,rfl,gq (by omega) ha⟩
    .have hn1:n∈ns:=by
      rcases (j3 n).mp hn with h'|h'
      .exact h'
      .exact absurd h' o
     have e0:bw b (Sum.inr n)=none:=by
      have:=sF (n:=n) Z;rw[fY o] at this;cases e:bw b (Sum.inr n) with
      |none=>rfl
      |some v=>rw[e] at this;cases this
     obtain⟨a,z,ga,ha⟩:=k6 n hn1;rw[e0,ao o];exact⟨a,z,ga,gq (by omega) ha⟩
  .rw[qM (by rw[aM];omega)] at e
   cases e
 rintro τ A2 ⟨i,x,hi,e,rfl,Y,hq,hP,E⟩;have hi:i=gs.length:=by
  have:=ck List.length e;simp at this;omega
 rw[hi,pZ,take_length] at Y;refine⟨rfl,r,Ts,rfl,hB.gr E,hok.len,hok.tok,λA3 q3 g3 h3 l3=>?_⟩;refine d8 h3 ?_;refine eG (λrest τ A'=>∃(dn b:List bC) (y z:Option D),rest=b.map cE/\dn++b=jW Ts/\(∀s∈dn,dF Ts (iM Ts s)=1)/\τ=[some (.ref r),some (.ref A.length),x,y,z]/\Gr A3 A') ?_ ?_ ?_ _ _ _ ⟨[],jW Ts,none,none,rfl,rfl,(λ_ h=>by cases h),rfl,Gr.refl⟩
 .rintro rest τ A' ⟨_,_,_,_,_,_,_,_,g⟩
  exact g.get h3
 .rintro v rest τ A4 ⟨dn,b,y,z,e,k,h1,rfl,I⟩ Nx hN
  cases b with
  |nil=>cases e
  |cons st b=>
  cases e;have O:st∈jW Ts:=by rw[<-k];simp
  obtain⟨T0,hT,c1,c2⟩:=zK O;have G:=cU hT;have n1:st.2.1∈fJ (br Ts):=vH hok G (by rw[c1];exact(v8 (hok.tok T0 G).ne).1);have n2:st.2.2∈fJ (br Ts):=vH hok G c2;obtain⟨kvs,ns,k1,k2,k3,k4,k5,k6⟩:=Y.gr (g3.trans I);obtain⟨a1,_,Qa,ha1⟩:=k6 _ ((k4 _).mpr n1);obtain⟨a2,_,Qc,ha2⟩:=k6 _ ((k4 _).mpr n2);obtain⟨_,b1⟩:=p6 hok (br Ts) st.2.1 λP h=>h;obtain⟨_,b2⟩:=p6 hok (br Ts) st.2.2 λP h=>h;obtain⟨r1,r2⟩:=V5 hok O;refine fH k1 rfl Qa ⟨show 1<=sizeLine by omega,iX (getElem?_push ha1) aE (by simp;omega) ?_⟩;refine fH (getElem?_push (getElem?_push k1)) rfl Qc ?_;refine⟨rfl,a2,_,rfl,getElem?_push (getElem?_push ha2),by omega,λA5 q5 g5 h5 l5=>?_⟩;have Q:A5[(A4++[C.lst [cE st]]).length]?=some (.lst ((gb (br Ts) st.2.1).map cE++[cE st])):=g5.get aE;have ZU:(bwd (gb (br Ts) st.2.2)).length<=11:=by simp[bwd];exact b2
  refine iX Q h5 (by simp;omega) ?_;have em:(gb (br Ts) st.2.1).map cE++[cE st]++(bwd (gb (br Ts) st.2.2)).map cE=(iM Ts st).map cE:=by
   unfold iM;simp
  rw[em];have S:Gr A4 (A5++[C.lst ((iM Ts st).map cE)]):=((Gr.push.trans Gr.push).trans g5).trans Gr.push;have U:=(g3.trans I).trans S;refine⟨rfl,r,A5.length,Ts,iM Ts st,rfl,hB.gr (E.trans U),hok.tok,aE,r1,r2,λA6 g6=>⟨show 2<=sizeLine by omega,wc (y:=1) ?_⟩⟩;refine cN (λc=>?_) (λc=>?_)
  .have er:iA Ts=some (iM Ts st):=by
    unfold iA;rw[<-k,dJ,find?_append,cO];have e0:(dn.map (iM Ts)).find? (λss=> !decide (dF Ts ss=1))=none:=by
     rw[nG];intro ss H;obtain⟨s,V,rfl⟩:=aJ.mp H;simp[h1 s V]
    rw[e0,List.find?_cons_of_pos (by simpa using c)];rfl
   have ll:=(E.trans (g3.trans I)).len;have Sa:=g5.len;simp at Sa;exact q2 _ er A6 _ ((E.trans U).trans g6) (g6.get aE) (by omega)
  .refine hN _ _ ⟨dn++[st],b,_,_,rfl,by simpa using k,λs V=>?_,rfl,(I.trans S).trans g6⟩
   rcases bU.mp V with h'|h'
   .exact h1 s h'
   .rw[bE.mp h']
    exact c
 .rintro τ A4 ⟨dn,b,y,z,e,k,h1,rfl,I⟩
  cases b with
  |cons _ _=>cases e
  |nil=>
  have k:dn=jW Ts:=by simpa using k
  subst k;refine q1 ?_ _ ((E.trans g3).trans I);unfold iA;rw[nG];intro ss H;obtain⟨s,V,rfl⟩:=aJ.mp H;simp[h1 s V]
theorem Pe(T:TopD K mg "check_no_ring" Jv wQ){b:Addr}(c:mg "Never"=some (.ref b))(d:excIn K b j8 "ValueError.__new__"=true)(a:aj P w K mg base 5 "find_ring" wX (ak mg 1 DO)):aj P w K mg base 6 "check_no_ring" wQ (ak mg 1 DI):=by
 refine bH T WQ λi j k o nd=>⟨_,(ay (bJ (qk (dL a i k (aa (vr 0) af)) jX) (ay (jx j rfl c d (aa bG af))) bM)),λds A R h p=>?_⟩;obtain⟨r,Ts,NN,rfl,l,hok,m,n⟩:=h;exact⟨rfl,r,Ts,NN,rfl,l,hok,λe f g=>m e f g,λss e f q g h1 l1=>⟨show 1<=sizeLine by decide,n (by rw[e];simp) f g⟩⟩
end My
namespace DP
open L2 MA
def je(T:Tb)(n:Str)(x:Rat):Tb:=if (T.any λp=>decide (p.1=n))=true then T.map (λp=>if p.1=n then (p.1,x) else p) else T++[(n,x)]
def aQ(m:M):Tb:=(bF m "" 1).foldl (λT p=>je T p.2.1 p.2.2) []
theorem R7(T:Tb)(n:Str)(x:Rat):cg (je T n x)=b5 (cg T) (Sum.inr n) (fq x):=by
 have e:((cg T).any λa=>decide (a.1=(Sum.inr n:Key)))=T.any λp=>decide (p.1=n):=by
  unfold cg;rw[any_map];congr 1;funext p;show decide ((Sum.inr p.1:Key)=Sum.inr n)=decide (p.1=n);by_cases h:p.1=n
  .rw[dR h,dR (by rw[h])]
  .rw[fY h,fY (λz=>h (Sum.inr.inj z))]
 unfold je b5;rw[e];split
 .unfold cg
  rw[bK,bK];refine ue λp _=>?_;show((Sum.inr (if p.1=n then (p.1,x) else p).1:Key),fq (if p.1=n then (p.1,x) else p).2)=if (Sum.inr p.1:Key)=Sum.inr n then (Sum.inr p.1,fq x) else (Sum.inr p.1,fq p.2)
  by_cases h:p.1=n
  .rw[aA h,aA (by rw[h])]
  .rw[ao h,ao (λz=>h (Sum.inr.inj z))]
 .unfold cg
  simp
theorem GW:∀(a:List (Str×Str×Rat)) (T:Tb),cg (a.foldl (λT p=>je T p.2.1 p.2.2) T)=((a.map λp=>(p.2.1,fq p.2.2)).map λp=>((Sum.inr p.1:Key),p.2)).foldl (λacc p=>b5 acc p.1 p.2) (cg T)
 |[],T=>rfl
 |p::a,T=>by
  rw[h_,GW a,R7];rfl
theorem Ij(T:Tb)(n:Str)(x:Rat):aH (je T n x)=if n∈aH T then aH T else aH T++[n]:=by
 have e:(T.any λp=>decide (p.1=n))=decide (n∈aH T):=by
  rw[lX,jL,nF];constructor
  .rintro ⟨p,a,h⟩
   rw[<-gy h];exact cQ a
  .intro h
   obtain⟨p,a,e⟩:=aJ.mp h;exact⟨p,a,dR e⟩
 unfold je;rw[e];by_cases h:n∈aH T
 .rw[aA (dR h),aA h]
  unfold aH;rw[bK];refine ue λp _=>?_;show(if p.1=n then (p.1,x) else p).1=p.1;split<;>rfl
 .rw[ao (by simpa using h),ao h]
  simp[aH]
theorem FZ:∀(c:List (Str×Str×Rat)) (T:Tb) (g:Str->Rat),(aH T).Nodup->(∀p∈T,p.2=g p.1)->(∀r∈c,r.2.2=g r.2.1)->
  (aH (c.foldl (λT p=>je T p.2.1 p.2.2) T)).Nodup/\(∀p∈c.foldl (λT p=>je T p.2.1 p.2.2) T,p.2=g p.1)/\∀n,n∈aH (c.foldl (λT p=>je T p.2.1 p.2.2) T)↔n∈aH T\/n∈c.map (·.2.1)
 |[],T,g,h1,h2,_=>⟨h1,h2,λn=>by simp⟩
 |r::c,T,g,h1,h2,i=>by
  have k1:(aH (je T r.2.1 r.2.2)).Nodup:=by
   rw[Ij];split
   .exact h1
   .rename_i k
    rw[nv];refine⟨h1,by simp,λa l b j=>?_⟩;simp at j;rw[j];exact λz=>k (by rw[<-z];exact l)
  have k2:∀p∈je T r.2.1 r.2.2,p.2=g p.1:=λp hp=>by
   have e:=i r (aU ..);unfold je at hp;split at hp
   .obtain⟨d,f,rfl⟩:=aJ.mp hp
    by_cases hc:d.1=r.2.1
    .rw[aA hc]
     show r.2.2=g d.1;rw[e,hc]
    .rw[ao hc]
     exact h2 d f
   .rcases bU.mp hp with hp|hp
    .exact h2 p hp
    .rw[bE.mp hp]
     exact e
  obtain⟨m,o,q⟩:=FZ c _ g k1 k2 λx s=>i x (bq _ s);refine⟨m,o,λn=>?_⟩;rw[h_,q,Ij];by_cases h:r.2.1∈aH T
  .rw[aA h]
   simp;constructor
   .rintro (h'|h')
    .exact .inl h'
    .exact .inr (.inr h')
   .rintro (h'|rfl|h')
    .exact .inl h'
    .exact .inl h
    .exact .inr h'
  .rw[ao h]
   simp[or_assoc]
structure Hl(m:M):Prop where
 wf:Wf m
 deep:m.deep<=5
 bar:cR [] (bF m "" 1)=none
theorem kY{m:M}(h:Hl m):jT (aQ m)/\(∀n,n∈aH (aQ m)↔n∈m.names)/\∀n∈aH (aQ m),cT (aQ m) n=shr m n:=by
 obtain⟨k1,k2⟩:=BO h.bar;obtain⟨d,f,g⟩:=FZ (bF m "" 1) [] (shr m) oO (λp a=>by cases a) k1;have i:(bF m "" 1).map (·.2.1)=m.names:=tM m "" 1;have mem:∀n,n∈aH (aQ m)↔n∈m.names:=λn=>by
  show n∈aH ((bF m "" 1).foldl (λT p=>je T p.2.1 p.2.2) [])↔_;rw[g,i];simp[aH]
 have j:(aH (aQ m)).length=(aQ m).length:=by simp[aH]
 have nl:=jb h.deep;refine⟨⟨d,λz=>?_,?_,λp a=>?_⟩,mem,λn c=>?_⟩
 .have b:=aV.om m
  cases e:m.names with
  |nil=>rw[e] at b;simp at b
  |cons n t=>
   have:=(mem n).mpr (by rw[e];simp);rw[z] at this;cases this
 .have:=j5 (aH (aQ m)) m.names d λx k=>(mem x).mp k
  omega
 .have e:p.2=shr m p.1:=f p a
  rw[e];exact xR h.wf.arms h.deep h.bar ((mem p.1).mp (cQ a))
 .have:=find_some (T:=aQ m) (n:=n)
  rw[dR (show n∈(aQ m).map (·.1) from c)] at this;obtain⟨p,a⟩:=qt.mp this;unfold cT;rw[a];have h2:=find?_some a;have l:p.1=n:=gy h2;rw[<-l];exact f p (nu a)
def DL:Ct:=λds A R _=>∃m,ds=[enc m]/\Hl m/\∀A' q,Gr A A'->A'[q]?=some (.dct (cg (aQ m)))->A.length<=q->R (.ref q) A'
def iF(x:D)(ms:List M):Prop:=x=.tup (ms.map enc)/\1<=ms.length/\ms.length<=6/\∀m∈ms,Hl m
def De:Ct:=λds A R E=>∃x,ds=[x]/\(∃ms,iF x ms)/\((∃ms,iF x ms)->∀A',Gr A A'->R .aG A')/\((¬∃ms,iF x ms)->∀A',Gr A A'->E "NoHall" A')
def zg:Ct:=λds A R E=>∃x,ds=[x]/\(∃ms,iF x ms)/\(∀ms,iF x ms->∀A' q,Gr A A'->iD A' q (ms.map aQ)->A.length<=q->R (.ref q) A')/\((¬∃ms,iF x ms)->∀A',Gr A A'->E "NoHall" A')
theorem z9:∀{a b:M},enc a=enc b->a=b
 |.wt n,.wt k,h=>by
  have h:D.tup [.str "weight",.str n]=.tup [.str "weight",.str k]:=h;simp at h;rw[h]
 |.wt n,.bS l r a b,h=>by
  have h:D.tup [.str "weight",.str n]=.tup [.str "rod",.int l,.int r,enc a,enc b]:=h;simp at h
 |.bS l r a b,.wt n,h=>by
  have h:D.tup [.str "rod",.int l,.int r,enc a,enc b]=.tup [.str "weight",.str n]:=h;simp at h
 |.bS l r a b,.bS l' r' c d,h=>by
  have h:D.tup [.str "rod",.int l,.int r,enc a,enc b]=.tup [.str "rod",.int l',.int r',enc c,enc d]:=h;simp at h;obtain⟨h1,h2,e,f⟩:=h;rw[h1,h2,z9 e,z9 f]
theorem FE:∀{ms a:List M},ms.map enc=a.map enc->ms=a
 |[],[],_=>rfl
 |[],_::_,h=>by cases h
 |_::_,[],h=>by cases h
 |m::ms,b::a,h=>by
  rw[cO,cO,List.cons.injEq] at h;rw[z9 h.1,FE h.2]
theorem TabsAt.snoc{A:Ar}{q:Nat}{T:Tb}(a:TabAt A q T):∀{qs:List Nat} {Ts:List Tb},TabsAt A qs Ts->TabsAt A (qs++[q]) (Ts++[T])
 |[],[],_=>⟨a,trivial⟩
 |_::qs,_::Ts,h=>⟨h.1,TabsAt.snoc a h.2⟩
 |[],_::_,h=>h.elim
 |_::_,[],h=>h.elim
end DP
namespace My
open L2 DP MA
theorem Pj(T:TopD K mg "name_shares" BH m8)(b:mg "dict"=none)(a:aj P w K mg base 10 "shares" oA (ak mg 1 rz)):aj P w K mg base 11 "name_shares" m8 (ak mg 1 DL):=by
 refine bH T Kc λj r k s nd=>⟨_,(ay (aN (iy (mJ rfl) mP b nE (aa (fk (some 3) (own:=["way","name","share"]) (frees:=[]) (ix:=[]) rfl (cC (dL a j k (aa (vr 0) af))) (λc=>(oB rfl (gX (pG 0 (show(["way","name","share"]:List Str).Nodup by decide+kernel)) (gX (pG 1 (show(["way","name","share"]:List Str).Nodup by decide+kernel)) (gX (pG 2 (show(["way","name","share"]:List Str).Nodup by decide+kernel)) oE))))) (λc=>(bX (aa (vr 1) (aa (vr 2) af))))) af)))),λds A R h t=>?_⟩;obtain⟨m,rfl,g,q⟩:=h;have hd:=g.deep;have hz:(1000:Nat)<=sizeLine:=by decide
 refine⟨rfl,m,rfl,g.wf,hd,λu v i h1 l1=>?_⟩;refine d8 h1 ?_;have ln:=ng m "" 1;have nl:=jb hd;refine iY (f:=λd=>match d with|.tup [_,n,x]=>.tup [n,x]|d=>d) h1 _ _ (λd hd=>?_) (by simp;omega) ?_
 .obtain⟨p,y,rfl⟩:=aJ.mp hd
  exact⟨[.str p.1,.str p.2.1,fq p.2.2],rfl,λQ l=>⟨show 2<=sizeLine by decide,l⟩⟩
 have e:((bF m "" 1).map oF).map (λd=>match d with|.tup [_,n,x]=>D.tup [n,x]|d=>d)=(bF m "" 1).map wj:=by
  rw[bK];rfl
 rw[fN,e];refine ve aE (Bh _) (by simp;omega) ?_;refine q _ _ ((i.trans Gr.push).trans Gr.push) ?_ (by have:=i.len;simp;omega);have o:cg (aQ m)=nc (((bF m "" 1).map λp=>(p.2.1,fq p.2.2)).map λp=>((Sum.inr p.1:Key),p.2)):=GW _ [];rw[o];exact aE
theorem OG(T:TopD K mg "check_hall" Jt wO)(c:mg "isinstance"=none)(k:mg "tuple"=none)(l:mg "len"=none){t:Tok}(a:mg "MOST_MOBILES"=some (.int 6 t)){d:Addr}(f:mg "NoHall"=some (.ref d))(i:excIn K d j8 "ValueError.__new__"=true)
  (j:aj P w K mg base 8 "is_mobile" sX (ak mg 1 zh))(n:aj P w K mg base 11 "bar" ow (ak mg 1 rq)):aj P w K mg base 12 "check_hall" wO (ak mg 1 De):=by
 refine bH T WN λq r s J nd=>⟨_,(av (bJ (PW.pt (gU (fQ (fu (kE kit_tuple c k kh (vr 0)))) (iJ (fQ (B5 ai (dO iW iu l jk (aa (vr 0) af)) (lG a)))))) (ay (jx r rfl f i (aa bG af))) bM)
  (ay (eH dQ rfl (cC (vr 0)) (dG 1 nd) (ay (bJ (PW.pt (gU (fQ (fu (dL j q s (aa (vr 1) af)))) (iJ (qk (dL n q s (aa (vr 1) af)) jX)))) (ay (jx r rfl f i (aa bG af))) bM))))),λds A R h L=>?_⟩
 obtain⟨x,rfl,⟨ms,u⟩,C,N⟩:=h;obtain⟨rfl,h1,O,E⟩:=id u;have lm:(ms.map enc).length=ms.length:=aM ..;refine cD (λz=>?_) (λz=>absurd (show(1:Int)<=(((ms.map enc).length:Nat):Int) by omega) z);refine cN (λB=>absurd (show(((ms.map enc).length:Nat):Int)<=6 by omega) B) (λB=>?_);refine eG (λrest τ A'=>∃(dn b:List M) (y:Option D),rest=b.map enc/\dn++b=ms/\τ=[some (.tup (ms.map enc)),y]/\Gr A A') ?_ ?_ ?_ _ _ _ ⟨[],ms,none,rfl,rfl,rfl,Gr.refl⟩
 .intro _ _ _ _
  trivial
 .rintro v rest τ F ⟨dn,b,y,e,o,rfl,g⟩ Q G
  cases b with
  |nil=>cases e
  |cons m b=>
   cases e;have p:=E m (by rw[<-o];simp);refine⟨rfl,_,⟨m,rfl,p.wf,p.deep,rfl⟩,λS H=>⟨rfl,m,rfl,p.wf,p.deep,λU I=>?_⟩⟩;rw[p.bar];exact G _ _ ⟨dn++[m],b,_,rfl,by simpa using o,rfl,(g.trans H).trans I⟩
 .rintro τ F ⟨dn,b,y,e,o,rfl,g⟩
  exact C ⟨ms,u⟩ _ g
theorem OV(T:TopD K mg "hall_shares" JG sW)(d:aj P w K mg base 12 "check_hall" wO (ak mg 1 De))(b:aj P w K mg base 11 "name_shares" m8 (ak mg 1 DL)):aj P w K mg base 13 "hall_shares" sW (ak mg 1 zg):=by
 refine bH T W0 λo E s F nd=>⟨_,(av (c_ (dL d o s (aa (vr 0) af)))
  (ay (aN (fk none (own:=["mobile"]) (frees:=[]) (ix:=[]) rfl (cC (vr 0)) (λc=>(pG 0 (show(["mobile"]:List Str).Nodup by decide+kernel))) (λc=>(dL b o m_ (aa (vr 0) af))))))),λds A R h G=>?_⟩
 obtain⟨x,rfl,t,p,n⟩:=h;have hz:(1000:Nat)<=sizeLine:=by decide
 refine⟨rfl,x,rfl,t,λ⟨ms,q⟩ r k=>?_,λu r k=>n u _ k⟩;have v:=p ms q;clear p;obtain⟨rfl,h1,H,z⟩:=q;refine pH (λrest ys A'=>∃(dn a:List M) (i:List Nat),rest=a.map enc/\dn++a=ms/\ys=i.map D.ref/\TabsAt A' i (dn.map aQ)/\Gr r A') ?_ ?_ ?_ ?_ _ _ _ ⟨[],ms,[],rfl,rfl,rfl,trivial,Gr.refl⟩
 .intro _ _ _ _
  trivial
 .rintro rest ys A' ⟨dn,a,i,_,e,rfl,j,_⟩
  have l1:=j.len;have l2:=ck List.length e;rw[cJ] at l2;rw[aM] at l1 ⊢;omega
 .rintro y rest ys A' ⟨dn,a,i,e,f,rfl,j,g⟩
  cases a with
  |nil=>cases e
  |cons m a=>
   cases e;refine⟨[enc m],rfl,λQ B=>⟨rfl,m,rfl,z m (by rw[<-f];simp),λI n l h2 l2=>B _ _ ⟨dn++[m],a,i++[n],rfl,by simpa using f,by simp,?_,g.trans l⟩⟩⟩;rw[dJ];exact TabsAt.snoc (.inl h2) (j.gr l)
 .rintro ys A' ⟨dn,a,i,e,f,rfl,j,g⟩
  cases a with
  |cons _ _=>cases e
  |nil=>
   have f:dn=ms:=by simpa using f
   subst f;have l:=(k.trans g).trans (Gr.push (T:=[C.lst (i.map D.ref)]));exact v _ _ l ⟨i,aE,j.gr Gr.push⟩ (k.trans g).len
end My
namespace DP
open L2 MA
def mw(Ts:List Tb)(a b:Str):Prop:=∃T∈Ts,a∈aH T/\b∈aH T
inductive iG(Ts:List Tb):Str->Str->Prop
 |refl (a:Str):iG Ts a a
 |step {a b c:Str}:iG Ts a b->mw Ts b c->iG Ts a c
theorem mw.symm{Ts:List Tb}{a b:Str}(h:mw Ts a b):mw Ts b a:=by
 obtain⟨T,h1,h2,c⟩:=h;exact⟨T,h1,c,h2⟩
theorem iG.trans{Ts:List Tb}{a b c:Str}(h:iG Ts a b)(k:iG Ts b c):iG Ts a c:=by
 induction k with
 |refl=>exact h
 |step _ e d=>exact .step d e
theorem iG.symm{Ts:List Tb}{a b:Str}(h:iG Ts a b):iG Ts b a:=by
 induction h with
 |refl=>exact .refl _
 |step _ e c=>exact(iG.step (.refl _) e.symm).trans c
theorem L4{Ts:List Tb}{a b:Str}:mw Ts a b↔∃s∈d9 Ts a,s.2.2=b:=by
 constructor
 .rintro ⟨T,c,h1,h2⟩
  obtain⟨i,hi,e⟩:=iO c;exact⟨(i,a,b),oj.mpr ⟨T,by rw[a_ hi,e],h1,rfl,h2⟩,rfl⟩
 .rintro ⟨s,d,rfl⟩
  obtain⟨T,h1,h2,g,f⟩:=oj.mp d;exact⟨T,cU h1,h2,f⟩
inductive jO(Ts:List Tb):Str->List bC->Str->Prop
 |nil (a:Str):jO Ts a [] a
 |snoc {a b:Str} {l:List bC} {s:bC}:jO Ts a l s.2.1->d7 Ts s->s.2.2=b->jO Ts a (l++[s]) b
theorem jO.xK{Ts:List Tb}{a b:Str}{l:List bC}(h:jO Ts a l b):iG Ts a b:=by
 induction h with
 |nil=>exact .refl _
 |snoc _ c e d=>
  obtain⟨T,h1,h2,f⟩:=c;exact .step d ⟨T,cU h1,h2,by rw[<-e];exact f⟩
theorem FY{Ts:List Tb}{a:Str}:∀(ss:List bC) (P:aS),(∀s∈ss,d7 Ts s/\s.2.1∈aD P)->(∀p∈P,jO Ts a p.2 p.1)->∀p∈ss.foldl cB P,jO Ts a p.2 p.1
 |[],P,_,h=>h
 |s::ss,P,b,h=>by
  obtain⟨d,e⟩:=b s (aU ..);refine FY ss (cB P s) (λx c=>⟨(b x (bq _ c)).1,(rF P s _).mpr (.inl (b x (bq _ c)).2)⟩) λp hp=>?_;unfold cB at hp;split at hp
  .exact h p hp
  .rcases bU.mp hp with hp|hp
   .exact h p hp
   .rw[bE.mp hp]
    exact .snoc (h _ (kM e)) d rfl
theorem X0{Ts:List Tb}{n:Str}{s:bC}(h:s∈d9 Ts n):d7 Ts s/\s.2.1=n:=by
 obtain⟨T,h1,h2,a,b⟩:=oj.mp h;exact⟨⟨T,h1,by rw[a];exact h2,b⟩,a⟩
theorem Ec{Ts:List Tb}{a:Str}:∀(f i:Nat) (P:aS),(∀p∈P,jO Ts a p.2 p.1)->∀p∈dU Ts f i P,jO Ts a p.2 p.1
 |0,i,P,h=>h
 |f+1,i,P,h=>by
  cases e:P[i]? with
  |none=>
   have:dU Ts (f+1) i P=P:=by
    show(match P[i]? with|some p=>dU Ts f (i+1) ((d9 Ts p.1).foldl cB P)|none=>P)=_;rw[e]
   rw[this];exact h
  |some c=>
   rw[rJ e];refine Ec f (i+1) _ (FY _ _ (λs b=>?_) h);obtain⟨h1,h2⟩:=X0 b;exact⟨h1,by rw[h2];exact cQ (cU e)⟩
theorem Ed{Ts:List Tb}{NN:List Str}(hok:eT Ts NN):∀(f i:Nat) (P:aS),f6 P NN->13<=f+i->(∀j,j<i->∀p,P[j]?=some p->∀b,mw Ts p.1 b->b∈aD P)->∀p∈dU Ts f i P,∀b,mw Ts p.1 b->b∈aD (dU Ts f i P)
 |0,i,P,l,r,hc=>λp a b c=>by
  have A:=cG l.len hok.nn;obtain⟨j,g,e⟩:=iO (show p∈P from a);exact hc j (by omega) p (by rw[a_ g,e]) b c
 |f+1,i,P,l,r,hc=>by
  cases e:P[i]? with
  |none=>
   have t:dU Ts (f+1) i P=P:=by
    show(match P[i]? with|some p=>dU Ts f (i+1) ((d9 Ts p.1).foldl cB P)|none=>P)=_;rw[e]
   rw[t];intro p a b c;obtain⟨j,g,m⟩:=iO a;have:P.length<=i:=List.getElem?_eq_none_iff.mp e;exact hc j (by omega) p (by rw[a_ g,m]) b c
  |some d=>
   rw[rJ e];obtain⟨X,eX⟩:=vE (d9 Ts d.1) P;have n:d.1∈aD P:=cQ (cU e);have o:=(bY.mp e).1;have key:∀(ss:List bC) (Q:aS),(∀s∈ss,s∈d9 Ts d.1)->f6 Q NN->d.1∈aD Q->f6 (ss.foldl cB Q) NN:=by
    intro ss;induction ss with
    |nil=>intro Q _ h _;exact h
    |cons s ss u=>
     intro Q k v a;obtain⟨T,w,_,m,y⟩:=oj.mp (k s (aU ..));exact u _ (λx z=>k x (bq _ z)) (v.add (by rw[m];exact a) (hok.sub T (cU w) _ y)) ((rF Q s d.1).mpr (.inl a))
   refine Ed hok f (i+1) _ (key _ _ (λs h=>h) l n) (by omega) λj g p a b c=>?_;rw[Ae];by_cases q:j<i
   .rw[eX,iC (by omega)] at a
    exact .inl (hc j q p a b c)
   .have:j=i:=by omega
    subst this;rw[eX,iC o,e] at a;cases a;obtain⟨s,k,rfl⟩:=L4.mp c;exact .inr (cQ k)
theorem Bl{Ts:List Tb}{n:Str}:∀p∈aO Ts n,jO Ts n p.2 p.1:=Ec 14 0 _ λp a=>by
 have:p=(n,[]):=by simpa using a
 rw[this];exact .nil _
theorem qd{Ts:List Tb}{NN:List Str}(hok:eT Ts NN){n:Str}(c:n∈NN){m:Str}:m∈aD (aO Ts n)↔iG Ts n m:=by
 constructor
 .intro h
  obtain⟨p,a,rfl⟩:=aJ.mp h;exact(Bl p a).xK
 .intro h
  have h0:f6 [(n,[])] NN:=⟨by simp[aD],λm d=>by
   have:m=n:=by simpa[aD] using d
   rw[this];exact c,λp a=>by
   have:p=(n,[]):=by simpa using a
   rw[this];simp⟩
  have b:=Ed hok 14 0 [(n,[])] h0 (by omega) λj g=>by omega
  induction h with
  |refl=>exact(gW hok c).2.1
  |step _ e f=>
   obtain⟨p,a,rfl⟩:=aJ.mp f;exact b p a _ e
theorem Ge{Ts:List Tb}{NN:List Str}(hok:eT Ts NN):∀(ns:List Str) (Gs:List aS),(∀n∈ns,n∈NN)->(∀P∈Gs,∃n∈NN,P=aO Ts n)->Gs.Pairwise (λP Q=>∀m,m∈aD P->m∉aD Q)->(ns.foldl (cW Ts) Gs).Pairwise (λP Q=>∀m,m∈aD P->m∉aD Q)
 |[],Gs,_,_,h=>h
 |n::ns,Gs,f,e,h=>by
  have b:=f n (aU ..);refine Ge hok ns (cW Ts Gs n) (λm d=>f m (bq _ d)) (λP hP=>?_) ?_
  .unfold cW at hP
   split at hP
   .exact e P hP
   .rcases bU.mp hP with hP|hP
    .exact e P hP
    .exact⟨n,b,bE.mp hP⟩
  .unfold cW
   split
   .exact h
   .rename_i c
    rw[List.pairwise_append];refine⟨h,by simp,λP hP Q g m d a=>?_⟩;rw[bE.mp g] at a;obtain⟨k,i,rfl⟩:=e P hP;refine c (gx.mpr ⟨_,hP,?_⟩);rw[qd hok i] at d ⊢;rw[qd hok b] at a;exact d.trans a.symm
theorem sd{Ts:List Tb}{NN:List Str}(hok:eT Ts NN):(br Ts).Pairwise (λP Q=>∀m,m∈aD P->m∉aD Q):=
 Ge hok _ [] (λm a=>by
  obtain⟨T,h1,h2⟩:=gx.mp a;exact hok.sub T h1 m h2) (λP h=>by cases h) Pairwise.nil
theorem AU{n:Str}:∀(Gs:List aS) (acc:List bC) (P:aS),Gs.Pairwise (λP Q=>∀m,m∈aD P->m∉aD Q)->P∈Gs->n∈aD P->Gs.foldl (λacc P=>if n∈aD P then cM P n else acc) acc=cM P n
 |[],acc,P,_,h,_=>by cases h
 |Q::Gs,acc,P,hd,hP,a=>by
  obtain⟨h1,h2⟩:=gZ.mp hd;rw[h_];rcases aY.mp hP with rfl|hP
  .rw[aA a]
   have:∀(Gs:List aS) (acc:List bC),(∀Q∈Gs,n∉aD Q)->Gs.foldl (λacc P=>if n∈aD P then cM P n else acc) acc=acc:=by
    intro Gs;induction Gs with
    |nil=>intro acc _;rfl
    |cons Q Gs c=>
     intro acc h;rw[h_,ao (h Q (aU ..))];exact c acc λd b=>h d (bq _ b)
   exact this Gs _ λQ e=>h1 Q e n a
  .exact AU Gs _ P h2 hP a
structure Cs(Ts:List Tb)(w:Str->Rat):Prop where
 pos:∀n,0<w n
 eq:∀T∈Ts,∀a∈aH T,∀b∈aH T,w a*cT T b=w b*cT T a
theorem jc{x:Rat}(h:0<x):x≠0:=λe=>by rw[e] at h;exact absurd h (by decide)
theorem Kw{Ts:List Tb}{w:Str->Rat}(b:∀T∈Ts,jT T)(h:Cs Ts w){s:bC}(c:d7 Ts s):cA Ts s*w s.2.1=w s.2.2:=by
 obtain⟨T,h1,h2,d⟩:=c;have a:=cU h1;have e:=h.eq T a _ h2 _ d;have p1:=jc (kW (b T a) h2).pos;unfold cA;rw[kU h1,kU h1];grind
theorem zO(Ts:List Tb)(a:List bC):∀b:List bC,dF Ts (a++b)=dF Ts a*dF Ts b:=by
 have key:∀(b:List bC) (x:Rat),b.foldl (λx s=>x*cA Ts s) x=x*b.foldl (λx s=>x*cA Ts s) 1:=by
  intro b;induction b with
  |nil=>intro x;simp[Rat.mul_one]
  |cons s b c=>
   intro x;rw[h_,h_,c (x*cA Ts s),c (1*cA Ts s),oZ,yJ]
 intro b;unfold dF;rw[nH,key]
theorem EB{Ts:List Tb}{w:Str->Rat}(c:∀T∈Ts,jT T)(h:Cs Ts w){a b:Str}{l:List bC}(hc:jO Ts a l b):dF Ts l*w a=w b:=by
 induction hc with
 |nil=>exact oZ _
 |snoc hc d e f=>
  rw[rO,<-e,<-Kw c h d,<-f];grind
theorem zP{Ts:List Tb}(a:∀T∈Ts,jT T):∀(l:List bC),(∀s∈l,d7 Ts s)->dF Ts (bwd l)*dF Ts l=1
 |[],_=>by show(1:Rat)*1=1;exact oZ _
 |s::l,b=>by
  have h:=zP a l λx d=>b x (bq _ d);have e:bwd (s::l)=bwd l++[(s.1,s.2.2,s.2.1)]:=by
   unfold bwd;simp
  have f:dF Ts (s::l)=cA Ts s*dF Ts l:=by
   rw[show s::l=[s]++l from rfl,zO];congr 1;show(1:Rat)*cA Ts s=cA Ts s;exact oZ _
  obtain⟨T,h1,h2,g⟩:=b s (aU ..);have c:=a T (cU h1);have p2:=jc (kW c h2).pos;have i:=jc (kW c g).pos;have j:cA Ts (s.1,s.2.2,s.2.1)*cA Ts s=1:=by
   unfold cA;simp only[kU h1];grind
  rw[e,rO,f];grind
theorem V7{Ts:List Tb}{NN:List Str}(hok:eT Ts NN){w:Str->Rat}(h:Cs Ts w):iA Ts=none:=by
 unfold iA;rw[nG];intro ss g;obtain⟨s,m,rfl⟩:=aJ.mp g;obtain⟨T,h1,h2,l⟩:=zK m;have i:=cU h1;have c:=(v8 (hok.tok T i).ne).1;have f:d7 Ts s:=⟨T,h1,by rw[h2];exact c,l⟩;have n1:s.2.1∈fJ (br Ts):=vH hok i (by rw[h2];exact c);obtain⟨P,j,b⟩:=gx.mp n1;obtain⟨k,n,_,rfl⟩:=i8 hok j;have a:s.2.2∈aD (aO Ts k):=by
  rw[qd hok n] at b ⊢;exact .step b ⟨T,i,by rw[h2];exact c,l⟩
 have d:=sd hok;have l1:gb (br Ts) s.2.1=cM (aO Ts k) s.2.1:=AU _ _ _ d j b;have l2:gb (br Ts) s.2.2=cM (aO Ts k) s.2.2:=AU _ _ _ d j a;have o:=EB hok.tok h (Bl _ (kM b));have p:=EB hok.tok h (Bl _ (kM a));have q:=zP hok.tok (cM (aO Ts k) s.2.2) (xF _ (kM a));have r:=Kw hok.tok h f;simp only at o p;have e:dF Ts (iM Ts s)=1:=by
  unfold iM;rw[l1,l2,zO,rO];have t:=jc (h.pos k);have u:=jc (h.pos s.2.2);have v:=jc (h.pos s.2.1);grind
 simp[e]
theorem TY{Ts:List Tb}{NN:List Str}(hok:eT Ts NN)(h:iA Ts=none):∃w,Cs Ts w:=by
 have pos:∀n,0<dF Ts (gb (br Ts) n):=λn=>(EF hok.tok (p6 hok (br Ts) n λP h=>h).1).1;refine⟨λn=>dF Ts (gb (br Ts) n),pos,λT g a j b k=>?_⟩;obtain⟨i,hi,e⟩:=iO g;have c:Ts[i]?=some T:=by rw[a_ hi,e]
 have d:=(v8 (hok.tok T g).ne).1;have key:∀o∈aH T,dF Ts (gb (br Ts) o)*cT T (jC T)=dF Ts (gb (br Ts) (jC T))*cT T o:=λo l=>by
  have m:(i,jC T,o)∈jW Ts:=by
   unfold jW;exact gx.mpr ⟨(T,i),qA.mpr c,aJ.mpr ⟨o,l,rfl⟩⟩
  unfold iA at h;rw[nG] at h;have f:=h _ (cQ m);simp at f;unfold iM at f;rw[zO,rO] at f;have p:=zP hok.tok (gb (br Ts) o) (p6 hok (br Ts) o λP h=>h).1;have p1:=jc (kW (hok.tok T g) d).pos;have es:cA Ts (i,jC T,o)=cT T o/cT T (jC T):=by
   unfold cA;simp only[kU c]
  rw[es] at f;simp only at f;grind
 have q:=key a j;have r:=key b k;have p1:=jc (kW (hok.tok T g) d).pos;grind
theorem XD{A:Ar}{r:Nat}{lo hi:Option Int}{xs:List D}{R:DK}(h:A[r]?=some (.lst xs))(k:R (.ref A.length) (A++[.lst (cutD xs lo hi)])):oG r lo hi A R:=by
 unfold oG;simp only[h];exact k
theorem MP{xs:List D}{i:Nat}(h:i<=xs.length):cutD xs none (some ((i:Nat):Int))=xs.take i:=by
 unfold cutD;have a:HT.bu xs.length 0 none=0:=rfl;have b:HT.bu xs.length xs.length (some ((i:Nat):Int))=i:=by
  unfold HT.bu;simp;rw[ao (by omega)];omega
 rw[a,b];rfl
structure lA(Ts:List Tb)(es:List (List Str)):Prop where
 qh:∀e∈es,e.Pairwise strLt/\e≠[]
 ord:es.Pairwise λa b=>strLt (a.headD default) (b.headD default)
 Gd:∀e∈es,∃P∈br Ts,∀x,x∈e↔x∈aD P
 all:∀P∈br Ts,∃e∈es,∀x,x∈e↔x∈aD P
def C_:Ct:=λds A R E=>∃x NN,ds=[x]/\(∃ms,iF x ms)/\(∀n∈NN,Nm n)/\(∀ms,iF x ms->eT (ms.map aQ) NN/\∀A' q es,lA (ms.map aQ) es->Gr A A'->A'[q]?=some (.lst (es.map λe=>D.tup (e.map D.str)))->A.length<=q->R (.ref q) A')/\((¬∃ms,iF x ms)->∀A',Gr A A'->E "NoHall" A')
def mV(d:D):gu.α:=match d with
 |.tup (.str n::_)=>n.cps.toList
 |_=>[]
theorem Gh:∀{Gs:List aS} {NN:List Str},(∀P∈Gs,∃n∈aD P,n∈NN)->Gs.Pairwise (λP Q=>∀m,m∈aD P->m∉aD Q)->Gs.length<=NN.length:=by
 intro Gs NN h hd;have:∃a:List Str,a.length=Gs.length/\a.Nodup/\(∀x∈a,x∈NN)/\∀x∈a,∃P∈Gs,x∈aD P:=by
  induction Gs with
  |nil=>exact⟨[],rfl,oO,(λ_ h=>by cases h),(λ_ h=>by cases h)⟩
  |cons P Gs e=>
   obtain⟨f,g⟩:=gZ.mp hd;obtain⟨a,k1,k2,k3,d⟩:=e (λQ b=>h Q (bq _ b)) g;obtain⟨n,n1,n2⟩:=h P (aU ..);refine⟨n::a,by simp[k1],iQ.mpr ⟨λi=>?_,k2⟩,λx hx=>?_,λx hx=>?_⟩
   .obtain⟨Q,b,c⟩:=d n i
    exact f Q b n n1 c
   .rcases aY.mp hx with rfl|hx
    .exact n2
    .exact k3 x hx
   .rcases aY.mp hx with rfl|hx
    .exact⟨P,aU ..,n1⟩
    .obtain⟨Q,b,c⟩:=d x hx
     exact⟨Q,bq _ b,c⟩
 obtain⟨a,k1,k2,k3,_⟩:=this;have:=j5 a NN k2 k3;omega
def eV(e:List Str):D:=.tup (e.map D.str)
theorem Ca{a b:List Str}(h:eV a=eV b):a=b:=by
 have h:=D.tup.inj h;exact(List.map_inj_right λx y e=>D.str.inj e).mp h
theorem YN{e:List Str}(h:∀n∈e,Nm n)(ne:e≠[]):gn (eV e)=true/\(toQ (eV e)).canLay0=true/\(toQ (eV e)).depth<=60/\∃x r,toQ (eV e)=.tuple (.str x::r):=by
 have eq:toQ (eV e)=.tuple (e.map PyData.str):=by
  show PyData.tuple (bR (e.map D.str))=_;rw[tE]
 refine⟨xH e,?_,?_,?_⟩
 .rw[eq]
  simpa[canLay0] using vQ e h
 .rw[eq]
  simp[PyData.depth,zY]
 .cases e with
  |nil=>exact absurd rfl ne
  |cons x r=>exact⟨x,r.map PyData.str,eq⟩
theorem Hs:∀xs:List Str,gG (xs.map PyData.str) (xs.map PyData.str)=some false
 |[]=>rfl
 |x::xs=>by
  rw[cO,gG];have c:PyData.eqv (.str x) (.str x)=true:=by simp[PyData.eqv]
  rw[c];exact Hs xs
theorem YM{a b:List Str}(d:a≠[])(f:b≠[])(h:a.headD default=b.headD default->a=b):ltQ (toQ (eV a)) (toQ (eV b))=some (gu.blt (mV (eV a)) (mV (eV b))):=by
 cases a with
 |nil=>exact absurd rfl d
 |cons x a=>
 cases b with
 |nil=>exact absurd rfl f
 |cons y b=>
 have eq:∀(x:Str) (e:List Str),toQ (eV (x::e))=.tuple (.str x::e.map PyData.str):=λx e=>by
  show PyData.tuple (bR ((x::e).map D.str))=_;rw[tE];rfl
 rw[eq,eq];show _=some (gu.blt x.cps.toList y.cps.toList);by_cases c:x=y
 .have e:=h c
  cases e;rw[ltQ,gu.irrefl];exact Hs (x::a)
 .rw[ltQ,gG]
  have c':PyData.eqv (.str x) (.str y)=false:=by simpa[PyData.eqv] using c
  rw[c'];show ltQ (.str x) (.str y)=_;rw[ltQ]
theorem D6{f:List Str->D}:∀{ds:List D},(∀d∈ds,∃e,d=f e)->∃es:List (List Str),ds=es.map f
 |[],_=>⟨[],rfl⟩
 |d::ds,h=>by
  obtain⟨es,rfl⟩:=D6 (ds:=ds) λx a=>h x (bq _ a);obtain⟨e,rfl⟩:=h d (aU ..);exact⟨e::es,rfl⟩
end DP
namespace My
open L2 DP MA
theorem OB(T:TopD K mg "bound" Jr wN)(q:mg "sorted"=none)(H:mg "tuple"=none)(p:aj P w K mg base 13 "hall_shares" sW (ak mg 1 zg))(F:aj P w K mg base 3 "groups" p_ (ak mg 1 uN)):aj P w K mg base 14 "bound" wN (ak mg 1 C_):=by
 refine bH T WL λhr hR hx hu nd=>⟨_,(ay (aN (dO (Ey rfl hu) E0 q uA (aa (fk none (own:=["paths"]) (frees:=[]) (ix:=[]) rfl (cC (dL F hr hx (aa (dL p hr hx (aa (vr 0) af)) af))) (λc=>(pG 0 (show(["paths"]:List Str).Nodup by decide+kernel))) (λc=>(iy rM rV H kh (aa (dO (zJ rfl) zS q uA (aa (vr 0) af)) af)))) af)))),λds A R h hl=>?_⟩;obtain⟨x,NN,rfl,hk,Ax,q1,q2⟩:=h;have hz:(1000:Nat)<=sizeLine:=by decide
 refine⟨rfl,x,rfl,hk,λms hH A1 q3 g1 hB l1=>?_,λJ A1 g1=>q2 J _ g1⟩;obtain⟨hok,q4⟩:=q1 ms hH;refine⟨rfl,q3,_,NN,rfl,hB,hok,λA2 q5 g2 hG=>?_⟩;obtain⟨_,gs,X,Y⟩:=hG;have pZ:=Y.len;refine d8 X ?_;have gl:(br (ms.map aQ)).length<64:=by
  have:=Gh (Gs:=br (ms.map aQ)) (NN:=NN) (λP u=>?_) (sd hok)
  .have:=hok.nn
   omega
  .obtain⟨n,J,_,rfl⟩:=i8 hok u
   exact⟨n,(gW hok J).2.1,J⟩
 have L:∀P∈br (ms.map aQ),f6 P NN/\aD P≠[]:=λP u=>by
  obtain⟨n,J,_,rfl⟩:=i8 hok u;obtain⟨k1,k2,_⟩:=gW hok J;exact⟨k1,λz=>by rw[z] at k2;cases k2⟩
 refine pH (λrest ys A'=>∃(dn m:List Nat) (es:List (List Str)),rest=m.map D.ref/\dn++m=gs/\ys=es.map (λe=>D.tup (e.map D.str))/\es.length=dn.length/\(∀(i:Nat) (e:List Str) (P:aS),es[i]?=some e->(br (ms.map aQ))[i]?=some P->e.Pairwise strLt/\∀x,x∈e↔x∈aD P)/\Gr A2 A') ?_ ?_ ?_ ?_ _ _ _ ⟨[],gs,[],rfl,rfl,rfl,rfl,(λi e P h=>by simp at h),Gr.refl⟩
 .rintro rest ys A' ⟨_,_,_,_,_,_,_,_,g⟩
  exact g.get X
 .rintro rest ys A' ⟨dn,m,es,_,v,rfl,M,_,g⟩
  have:=ck List.length v;rw[cJ] at this;rw[aM];omega
 .rintro y rest ys A' ⟨dn,m,es,e,v,rfl,M,V,g⟩
  cases m with
  |nil=>cases e
  |cons t m=>
   cases e;have ht:gs[dn.length]?=some t:=by rw[<-v];simp
   obtain⟨P,u,hA⟩:=Y.get ht;have hA:=hA.gr g;obtain⟨_,kvs,hd,hk',_⟩:=hA;have Z:=(L P (cU u)).1;refine⟨[.ref t],rfl,λQ hQ=>?_⟩;refine BI hd hk' Z.nd (by have:=Z.len;have:=hok.nn;simp[aD];omega) λzs z1 z2=>?_;refine tV aE ?_;refine hQ _ _ ⟨dn++[t],m,es++[zs],rfl,by simpa using v,by simp,by simp[M],λi e P' h1 h2=>?_,g.trans Gr.push⟩;by_cases hi:i<es.length
   .rw[iC hi] at h1
    exact V i e P' h1 h2
   .rw[qT (by omega)] at h1
    have hi0:i - es.length=0:=by
     cases hh:i - es.length with
     |zero=>rfl
     |succ k=>rw[hh] at h1;simp at h1
    rw[hi0] at h1;simp at h1;have QL:i=dn.length:=by omega
    rw[QL,u] at h2;cases h2;rw[<-h1];exact⟨z1,z2⟩
 .rintro ys A' ⟨dn,m,es,e,v,rfl,M,V,g⟩
  cases m with
  |cons _ _=>cases e
  |nil=>
   have v:dn=gs:=by simpa using v
   subst v;have ZV:es.length=(br (ms.map aQ)).length:=by omega
   have at_:∀e∈es,∃(i:Nat) (P:aS),es[i]?=some e/\(br (ms.map aQ))[i]?=some P/\e.Pairwise strLt/\(∀x,x∈e↔x∈aD P)/\P∈br (ms.map aQ):=λe o=>by
    obtain⟨i,hi,rfl⟩:=iO o;have u:=a_ (l:=br (ms.map aQ)) (i:=i) (by omega);have o:=a_ (l:=es) (i:=i) hi;obtain⟨k1,k2⟩:=V i _ _ o u;exact⟨i,_,o,u,k1,k2,cU u⟩
   have ne:∀e∈es,e≠[]:=λe o z=>by
    obtain⟨i,P,_,_,_,k,u⟩:=at_ e o;have:=(L P u).2;cases hk:aD P with
    |nil=>exact this hk
    |cons n t=>
     have:=(k n).mpr (by rw[hk];simp);rw[z] at this;cases this
   have E:=sd hok;have same:∀e∈es,∀G∈es,∀x,x∈e->x∈G->e=G:=λe o G B x h1 h2=>by
    obtain⟨i,P,k1,k2,k3,k4,_⟩:=at_ e o;obtain⟨j,P',j1,j2,j3,j4,_⟩:=at_ G B;have N:i=j:=by
     rw[ug] at E;obtain⟨hi,ei⟩:=bY.mp k2;obtain⟨hj,ej⟩:=bY.mp j2;rcases Nat.lt_trichotomy i j with h|h|h
     .exact absurd ((j4 x).mp h2) (by have:=E i j hi hj h x (by rw[ei];exact(k4 x).mp h1);rw[ej] at this;exact this)
     .exact h
     .exact absurd ((k4 x).mp h1) (by have:=E j i hj hi h x (by rw[ej];exact(j4 x).mp h2);rw[ei] at this;exact this)
    subst N;rw[k1] at j1;exact Option.some.inj j1
   have s:∀e:List Str,e≠[]->e.headD default∈e:=λe o=>by
    cases e with
    |nil=>exact absurd rfl o
    |cons x r=>exact aU ..
   have hh:∀e∈es,∀G∈es,e.headD default=G.headD default->e=G:=λe o G B h=>
    same e o G B _ (s e (ne e o)) (by rw[h];exact s G (ne G B))
   have nm:∀e∈es,∀n∈e,Nm n:=λe o n J=>by
    obtain⟨i,P,_,_,_,k,u⟩:=at_ e o;exact Ax n ((L P u).1.sub n ((k n).mp J))
   refine Kz (ds:=es.map eV) gu mV aE (by rw[aM];omega) (λd hd=>?_) (λd hd e o=>?_) λfs pf sf=>?_
   .obtain⟨e,o,rfl⟩:=aJ.mp hd
    exact YN (nm e o) (ne e o)
   .obtain⟨a,O,rfl⟩:=aJ.mp hd
    obtain⟨b,I,rfl⟩:=aJ.mp o;exact YM (ne a O) (ne b I) (hh a O b I)
   obtain⟨zs,rfl⟩:=D6 (f:=eV) (ds:=fs) λd hd=>by
    obtain⟨e,_,rfl⟩:=aJ.mp (pf.mem_iff.mp hd);exact⟨e,rfl⟩
   have W:∀e,e∈zs↔e∈es:=λe=>by
    have h1:e∈zs↔eV e∈zs.map eV:=by
     constructor
     .exact λh=>cQ h
     .intro h
      obtain⟨G,B,h⟩:=aJ.mp h;rw[<-Ca h];exact B
    have h2:e∈es↔eV e∈es.map eV:=by
     constructor
     .exact λh=>cQ h
     .intro h
      obtain⟨G,B,h⟩:=aJ.mp h;rw[<-Ca h];exact B
    rw[h1,h2,pf.mem_iff]
   have Om:es.Nodup:=by
    rw[Nodup,ug];intro i j hi hj N z;have Qz:=a_ (l:=br (ms.map aQ)) (i:=i) (by omega);have QA:=a_ (l:=br (ms.map aQ)) (i:=j) (by omega);obtain⟨_,k1⟩:=V i _ _ (a_ hi) Qz;obtain⟨_,k2⟩:=V j _ _ (a_ hj) QA;have hm:=s es[i] (ne _ (jH hi));have m1:=(k1 _).mp hm;rw[z] at hm;have m2:=(k2 _).mp hm;rw[<-z] at m2;exact(ug.mp E) i j (by omega) (by omega) N _ m1 m2
   have Zn:zs.Nodup:=by
    have h1:(es.map eV).Nodup:=jI.mpr (Om.imp λ {a b} U z=>U (Ca z));have h2:(zs.map eV).Nodup:=pf.nodup_iff.mpr h1;exact Pairwise.imp (R:=λa b=>eV a≠eV b) (S:=λa b:List Str=>a≠b) (λ {a b} U (z:a=b)=>U (by rw[z])) (jI.mp h2)
   have I:lA (ms.map aQ) zs:=by
    refine⟨λe o=>?_,?_,λe o=>?_,λP u=>?_⟩
    .obtain⟨_,_,_,_,k,_,_⟩:=at_ e ((W e).mp o)
     exact⟨k,ne e ((W e).mp o)⟩
    .refine(Pairwise.and_mem.mp ((jI.mp sf).and Zn)).imp ?_
     rintro a b ⟨O,I,k1,k2⟩;have O:=(W a).mp O;have I:=(W b).mp I;have na:=ne a O;have nb:=ne b I;have h1:=hh a O b I;cases a with
     |nil=>exact absurd rfl na
     |cons x a=>
     cases b with
     |nil=>exact absurd rfl nb
     |cons y b=>
     show strLt x y;have k1:gu.blt y.cps.toList x.cps.toList=false:=k1;have k3:gu.blt x.cps.toList y.cps.toList=true:=by
      cases c:gu.blt x.cps.toList y.cps.toList with
      |true=>rfl
      |false=>exact absurd (h1 (KG (gu.total _ _ c k1))) k2
     exact show x.cps.toList<y.cps.toList from gy k3
    .obtain⟨_,P,_,_,_,k,u⟩:=at_ e ((W e).mp o)
     exact⟨P,u,k⟩
    .obtain⟨i,hi,rfl⟩:=iO u
     have o:=a_ (l:=es) (i:=i) (by omega);obtain⟨_,k⟩:=V i _ _ o (a_ hi);exact⟨_,(W _).mpr (cU o),k⟩
   have gg:=((g1.trans g2).trans g).trans (Gr.push (T:=[C.lst (es.map eV)]));exact q4 _ _ zs I (gg.trans Gr.push) aE gg.len
end My
namespace DP
open L2 MA
theorem KU{A B:Ar}{q:Nat}{c d:C}(h:A[q]?=some d)(g:Gr (A.set q c) B):Gr A (B.set q d):=by
 obtain⟨T,rfl⟩:=g;refine⟨T,?_⟩;have a:=cz h;rw[ym _ _ (by simpa using a),set_set];congr 1;refine qP λi=>?_;by_cases hi:i=q
 .rw[hi,eB a,h]
 .rw[eF (Ne.symm hi)]
noncomputable def dI(Ts:List Tb)(P:aS)(n:Str):Rat:=dF Ts (cM P n)
def Dm:Ct:=λds A R _=>∃r q Ts NN n A0,ds=[.ref r,.ref q]/\iD A0 r Ts/\Gr A0 A/\eT Ts NN/\n∈NN/\gQ A0.length A q (aO Ts n)/\∀A' p kvs,Gr A A'->A'[p]?=some (.dct kvs)->A.length<=p->Fb kvs (aD (aO Ts n)) (dI Ts (aO Ts n))->R (.ref p) A'
end DP
namespace My
open L2 DP MA
theorem OT(T:TopD K mg "group_weights" JE wY)(f:mg "dict"=none)(b:aj P w K mg base 4 "comes_to" sU (ak mg 2 zd)):aj P w K mg base 5 "group_weights" wY (ak mg 2 Dm):=by
 refine bH T WZ λO hR hx S nd=>⟨_,(ay (aN (iy (mJ rfl) mP f nE (aa (vg (fk none (own:=["name"]) (frees:=["by_place","paths"]) (ix:=[0,1]) rfl (nR (vr 1)) (λc=>(pG 0 (show(["name","by_place","paths"]:List Str).Nodup by decide+kernel))) (λc=>(bX (aa (vr 0) (aa (dL b O m_ (aa (vr 1) (aa (dX S (vr 2) (vr 0)) af))) af)))))) af)))),λds A R h hl=>?_⟩;obtain⟨r,q,Ts,NN,n,U,rfl,V,W,hok,X,Y,k⟩:=h;obtain⟨Z,kvs,hd,hk,hv⟩:=Y;have hz:(1000:Nat)<=sizeLine:=by decide
 obtain⟨i,_,_⟩:=gW hok X;have pl:=i.len;have S4:=hok.nn;have t:(aD (aO Ts n)).length=(aO Ts n).length:=by simp[aD]
 have y:=cz hd;refine .inl ⟨q,kvs,hd,λo=>?_⟩;generalize e:A.set q (.bz o kvs)=u;have j:u[q]?=some (.bz o kvs):=by rw[<-e];exact eB y
 have B:Gr U u:=by rw[<-e];exact W.set Z
 have E:=V.gr B;refine pY j ?_;have ek:(kvs.map λp=>keyOf p.1)=(aD (aO Ts n)).map D.str:=by
  have:(kvs.map λp=>keyOf p.1)=(kvs.map (·.1)).map keyOf:=by rw[bK];rfl
  rw[this,hk,bK];rfl
 rw[ek];refine pI (λd=>match d with|.str m=>fB (dI Ts (aO Ts n)) m|d=>d) _ [] u (λA' g=>g.get j) (λd F l s=>?_) (by simp[t];omega) (λl s=>?_)
 .obtain⟨m,x,rfl⟩:=aJ.mp F
  obtain⟨a,la,ga,G⟩:=hv m x;have aq:a≠q:=λz=>by rw[z,hd] at G;cases G
  have H:u[a]?=some (.lst ((cM (aO Ts n) m).map cE)):=by
   rw[<-e,eF (Ne.symm aq)];exact G
  refine⟨[.str m],rfl,λQ hQ=>?_⟩;refine sD (s.get j) rfl ga ?_;have pm:=kM x;have I:=i.pl _ pm;refine⟨rfl,r,a,Ts,_,rfl,E.gr s,hok.tok,s.get H,λst J=>xF _ pm st J,by simp at I;omega,λA3 g3=>⟨show 2<=sizeLine by omega,hQ _ g3⟩⟩
 have em:((aD (aO Ts n)).map D.str).map (λd=>match d with|.str m=>fB (dI Ts (aO Ts n)) m|d=>d)=(aD (aO Ts n)).map (fB (dI Ts (aO Ts n))):=by
  rw[bK];rfl
 rw[fN,em];have v:Gr u (l++[C.lst ((aD (aO Ts n)).map (fB (dI Ts (aO Ts n))))]):=s.trans Gr.push;have l2:A.length<=l.length:=by
  have:=s.len;rw[<-e,length_set] at this;exact this
 refine⟨kvs,v.get j,?_⟩;have M:Gr A ((l++[C.lst ((aD (aO Ts n)).map (fB (dI Ts (aO Ts n))))]).set q (.dct kvs)):=KU hd (by rw[e];exact v);have hL:((l++[C.lst ((aD (aO Ts n)).map (fB (dI Ts (aO Ts n))))]).set q (.dct kvs))[l.length]?=some (.lst ((aD (aO Ts n)).map (fB (dI Ts (aO Ts n))))):=by
  rw[eF (by omega)];exact aE
 generalize ((l++[C.lst ((aD (aO Ts n)).map (fB (dI Ts (aO Ts n))))]).set q (.dct kvs):Ar)=A3 at*
 refine ve hL (Bj _ _) (by simp[t];omega) ?_;have N:(((aD (aO Ts n)).map λm=>((Sum.inr m:Key),fq (dI Ts (aO Ts n) m))).map (·.1))=(aD (aO Ts n)).map Sum.inr:=by
  rw[bK];rfl
 have L:=HB i.nd;have ep:nc ((aD (aO Ts n)).map λm=>((Sum.inr m:Key),fq (dI Ts (aO Ts n) m)))=(aD (aO Ts n)).map λm=>((Sum.inr m:Key),fq (dI Ts (aO Ts n) m)):=by
  have:=Bt ((aD (aO Ts n)).map λm=>((Sum.inr m:Key),fq (dI Ts (aO Ts n) m))) [] (by rw[fN,N];exact L);simpa[nc] using this
 rw[ep];exact k _ _ _ (M.trans Gr.push) aE M.len ⟨N,i.nd,λm x=>An (λm=>fq (dI Ts (aO Ts n) m)) _ m x⟩
end My
namespace DP
open L2 MA
theorem rw_okU{p:Str×Int}(h:Nm p.1):gn (bI p)=true/\(toQ (bI p)).canLay0=true/\(toQ (bI p)).depth<=60/\∃x r,toQ (bI p)=.tuple (.str x::r):=by
 have h1:=h.ok;refine⟨rfl,?_,?_,_,_,rfl⟩
 .simp[bI,toQ,bR,canLay0,canLayAll0] at h1 ⊢
  exact h1
 .simp[bI,toQ,bR,PyData.depth,depthAll]
def Di:Ct:=λds A R _=>∃r Ts rs,ds=[.ref r,fy rs]/\iD A r Ts/\Ts.length<=7/\jt rs/\(∀p∈rs,∃T∈Ts,p.1∈aH T)/\∀A',Gr A A'->R .aG A'
noncomputable def gh(s:Str->Rat)(p:Str×Int):Rat:=(p.2:Rat)/s p.1
def DR:Ct:=λds A R E=>∃(q:Nat) (kvs:List (Key×D)) (ns:List Str) (s:Str->Rat) (t:Nat) (rows:List (Str×Int)),ds=[.ref q,.ref t]/\A[q]? =some (.dct kvs)/\Fb kvs ns s/\ns.length<=32/\(∀n∈ns,gP (s n))/\A[t]? =some (.lst (rows.map bI))/\(∀p∈rows,p.1∈ns/\Nm p.1/\1<=p.2/\p.2<=999999)/\
 (rows=[]->∀A' p,Gr A A'->A'[p]? =some (.lst [])->A.length<=p->R (.ref p) A')/\
 ∀p0 more,rows=p0::more->((∀p∈rows,gh s p0*s p.1=(p.2:Rat))->∀A' p,Gr A A'->A'[p]? =some (.lst (ns.map (fB λn=>gh s p0*s n)))->A.length<=p->R (.ref p) A')/\((¬∀p∈rows,gh s p0*s p.1=(p.2:Rat))->∀A',Gr A A'->E "Never" A')
theorem IU:∀{a:List (Str×Int)},(∀p∈a,Nm p.1)->gc (a.map bI)=true/\canLayAll0 (bR (a.map bI))=true
 |[],_=>⟨rfl,rfl⟩
 |p::a,h=>by
  obtain⟨a1,a2,_,_⟩:=rw_okU (h p (aU ..));obtain⟨b,c⟩:=IU λx d=>h x (bq _ d);refine⟨by show(gn (bI p)&&gc (a.map bI))=true;rw[a1,b];rfl,?_⟩;simp[bR,canLayAll0,a2,c]
theorem PZ(i:Int):fq ((i:Int):Rat)=.tup [.int i,.int 1]:=by
 have h:rf ((i:Int):Rat)=(i,1):=by
  unfold rf;simp
 unfold fq;rw[h]
end DP
namespace My
open L2 DP MA
theorem OM(T:TopD K mg "check_told" Jx wU)(l:mg "any"=none){b:Addr}(f:mg "NoWeights"=some (.ref b))(g:excIn K b j8 "ValueError.__new__"=true)(a:aj P w K mg base 4 "check_are_weights" sR (ak mg 1 zc)):aj P w K mg base 5 "check_told" wU (ak mg 2 Di):=by
 refine bH T WS λG H I J nd=>⟨_,(av (c_ (dL a G I (aa (vr 1) af)))
  (ay (eH dQ rfl (cC (vr 1)) (kF rfl (dH (dG 2 nd) (dH (dG 3 nd) kG))) (ay (bJ (fQ (fu (dO (Ew rfl) ET l Ep (aa (fk none (own:=["table"]) (frees:=["name"]) (ix:=[2]) rfl (cC (vr 0)) (λc=>(pG 0 (show(["table","name"]:List Str).Nodup by decide+kernel))) (λc=>(N5 J (vr 1) (vr 0)))) af)))) (ay (jx H rfl f g (aa (Nz (Fo (NS (vr 2) (Fo NR)))) af))) bM))))),λds A R h Y=>?_⟩
 obtain⟨r,Ts,rs,rfl,L,Z,M,s,q⟩:=h;obtain⟨j,h1,h2⟩:=L;have hz:(1000:Nat)<=sizeLine:=by decide
 have u:=h2.len;refine⟨rfl,_,⟨rs,rfl,M,rfl⟩,λA1 N=>?_⟩;refine eG (λrest τ A'=>∃(dn d:List (Str×Int)) (x z:Option D),rest=d.map bI/\dn++d=rs/\τ=[some (.ref r),some (fy rs),x,z]/\Gr A A') ?_ ?_ ?_ _ _ _ ⟨[],rs,none,none,rfl,rfl,rfl,N⟩
 .intro _ _ _ _
  trivial
 .rintro v rest τ E ⟨dn,d,x,z,e,m,rfl,n⟩ Nx O
  cases d with
  |nil=>cases e
  |cons p d=>
  cases e;have S:p∈rs:=by rw[<-m];simp
  refine⟨rfl,d8 (n.get h1) ?_⟩;refine pH (λrest ys A'=>∃i,i<=j.length/\rest=(j.map D.ref).drop i/\ys=(Ts.take i).map (λT=>D.bl (decide (p.1∈aH T)))/\A'=E) ?_ ?_ ?_ ?_ _ _ _ ⟨0,bP _,rfl,rfl,rfl⟩
  .rintro rest ys A' ⟨_,_,_,_,rfl⟩
   exact n.get h1
  .rintro rest ys A' ⟨i,hi,_,rfl,_⟩
   rw[aM,kZ];omega
  .rintro y rest ys A' ⟨i,hi,e,rfl,rfl⟩
   by_cases o:i<j.length
   .obtain⟨t,F⟩:∃t,j[i]?=some t:=⟨j[i],a_ o⟩
    obtain⟨T0,U,V⟩:=h2.get F;have k:i<(j.map D.ref).length:=by rw[aM];exact o
    have ev:(j.map D.ref)[i]?=some (.ref t):=by rw[cu,F];rfl
    rw[mu k] at e;rw[a_ k] at ev;have ev:=Option.some.inj ev;rw[ev] at e;cases e;refine⟨[.ref t],rfl,λQ W=>GG (V.gr n) rfl ?_⟩;rw[ao bV,Ga];refine W _ _ ⟨i+1,by omega,rfl,?_,rfl⟩;rw[take_succ,U,dJ];rfl
   .rw[qM (by rw[aM];omega)] at e
    cases e
  .rintro ys A' ⟨i,hi,e,rfl,rfl⟩
   have hi:i=j.length:=by
    have:=ck List.length e;simp at this;omega
   rw[hi,u,qH (aF _)];refine D5 aE (nN (λT=>decide (p.1∈aH T)) Ts) ?_;obtain⟨T0,B,C⟩:=s p S;have X:((Ts.map λT=>decide (p.1∈aH T)).any id)=true:=by
    rw[any_map,jL];exact⟨T0,B,dR C⟩
   rw[X];exact O _ _ ⟨dn++[p],d,_,_,rfl,by simpa using m,rfl,n.trans Gr.push⟩
 .rintro τ E ⟨dn,d,x,z,e,m,rfl,n⟩
  exact q _ n
end My
namespace DP
open L2 MA
theorem Xx{s:Str->Rat}{p:Str×Int}(d:gP (s p.1))(h1:1<=p.2)(h2:p.2<=999999):0<gh s p/\(rf (gh s p)).1<=2000000000000/\(rf (gh s p)).2<=2000000:=by
 have pn:=eL d.pos;have f:=cX (s p.1);have pos2:(0:Rat)<(p.2:Rat):=by
  have:((0:Int):Rat)<(p.2:Rat):=yI.mpr (by omega);simpa using this
 have c:0<gh s p:=by
  unfold gh;rw[mj];exact nC pos2 (uz.mpr d.pos)
 refine⟨c,?_⟩;have e:gh s p=((p.2*(rf (s p.1)).2:Int):Rat)/((rf (s p.1)).1:Rat):=by
  unfold gh;have h1:=ie (k_ f);have h2:=ie (k_ pn);conv=>lhs;rw[<-gp (s p.1)]
  rw[gI];grind
 rw[e];obtain⟨k1,k2⟩:=tG (a:=p.2*(rf (s p.1)).2) (b:=(rf (s p.1)).1) (gj (by omega) f) pn;have m:p.2*(rf (s p.1)).2<=999999*2000000:=eE h2 d.den (eZ f) (by decide);have n:=d.num;exact⟨by omega,by omega⟩
end DP
namespace My
open L2 DP MA
theorem Py(T:TopD K mg "settled_group" J2 xy){r:Addr}(F:mg "Never"=some (.ref r))(G:excIn K r j8 "ValueError.__new__"=true)(f:aj P w K mg base 3 "product" oz (ak mg 2 kB))(u:aj P w K mg base 3 "quotient" qc (ak mg 2 (λds A R E=>∃a b c d:Int,ds=[.tup [.int a,.int b],.tup [.int c,.int d]]/\kB [.tup [.int a,.int b],.tup [.int d,.int c]] A R E))):aj P w K mg base 4 "settled_group" xy (ak mg 2 DR):=by
 refine bH T Xl λhr hR hx I nd=>⟨_,(av (bJ (d_ I (vr 1) (cH af)) (ay (aN (cH af))) bM)
  (av (dS 2 nd (dL u hr hx (aa (bX (aa (dX I (dX I (vr 1) ai) ai) (aa ai af))) (aa (dX I (vr 0) (dX I (dX I (vr 1) ai) ai)) af))))
  (av (eH dQ rfl (cC (vr 1)) (kF rfl (dH (dG 3 nd) (dH (dG 4 nd) kG))) (ay (bJ (j7 I (dL f hr hx (aa (vr 2) (aa (dX I (vr 0) (vr 3)) af))) (bX (aa (vr 4) (aa ai af)))) (ay (jx hR rfl F G (aa bG af))) bM)))
  (ay (aN (vg (fk none (own:=["name"]) (frees:=["scale","weights"]) (ix:=[2,0]) rfl (nR (vr 0)) (λc=>(pG 0 (show(["name","scale","weights"]:List Str).Nodup by decide+kernel))) (λc=>(bX (aa (vr 0) (aa (dL f hr m_ (aa (vr 1) (aa (dX I (vr 2) (vr 0)) af))) af))))))))))),λds A R h hl=>?_⟩
 obtain⟨q,kvs,ns,l,t,X,rfl,hq,fb,n32,hF,ht,z,k0,k1⟩:=h;have hz:(1000:Nat)<=sizeLine:=by decide
 obtain⟨Vq,Vr⟩:=IU λp hp=>(z p hp).2.1;refine⟨bP _,FJ ht Vq Vr ?_⟩;cases X with
 |nil=>exact⟨bP _,k0 rfl _ _ (Gr.push.trans Gr.push) aE (by simp)⟩
 |cons i k=>
 obtain⟨k2,k3⟩:=k1 i k rfl;clear k0 k1;refine cD (λc=>by cases c) (λ_=>?_);have O:=getElem?_push (T:=[C.lst []]) ht;have Y:=getElem?_push (T:=[C.lst []]) hq;have g1:Gr A (A++[C.lst []]):=Gr.push;generalize (A++[C.lst []]:Ar)=A1 at*
 obtain⟨r1,r2,r3,r4⟩:=z i (aU ..);have f0:=hF _ r1;have pn:=eL f0.pos;have pd:=cX (l i.1);have a0:c6 ((i::k).map bI) 0=some (bI i):=mH (j:=0) rfl;refine kK O a0 ⟨show 2<=sizeLine by omega,kK O a0 ?_⟩;refine fH Y rfl (fb.get _ r1) ?_;have D9:(2000000000000:Int)<2 ^ 64:=by decide
 have n1:=f0.num;have n2:=f0.den;have big:∀x:Int,x<=4000000000000000000000->x<2 ^ 2000:=λx hx=>qx hx (by
  have:(4000000000000000000000:Int)<=(4000000000000:Int) ^ 2*4000000000000:=by decide
  exact qx this (Bp (by decide)))
 refine⟨rfl,i.2,1,(rf (l i.1)).1,(rf (l i.1)).2,rfl,_,_,_,_,rfl,by omega,by decide,pd,pn,by omega,by omega,?_,λA2 g2=>?_⟩
 .refine big _ ?_
  have:i.2*(rf (l i.1)).2<=999999*2000000:=eE r4 n2 (eZ pd) (by decide);omega
 have ec:((i.2:Rat)/((1:Int):Rat))*(((rf (l i.1)).2:Rat)/((rf (l i.1)).1:Rat))=gh l i:=by
  unfold gh;have h1:=ie (k_ pd);have h2:=ie (k_ pn);have h3:((1:Int):Rat)=1:=rfl;conv=>rhs;rw[<-gp (l i.1)]
  rw[h3];grind
 rw[ec];obtain⟨c1,c2,c3⟩:=Xx (s:=l) (p:=i) f0 r3 r4;generalize hc:gh l i=c at*
 have H:∀(n:Str) (A':Ar) (Q:DK) (EX:DX),n∈ns->(∀S,Gr A' S->Q (fq (c*l n)) S)->kB [fq c,fq (l n)] A' Q EX:=λn A' Q EX hn hQ=>by
  have fn:=hF n hn;have m1:=eL fn.pos;have m2:=cX (l n);have m3:=fn.num;have m4:=fn.den;refine⟨_,_,_,_,rfl,eL c1,cX c,m1,m2,by omega,by omega,?_,λS g=>?_⟩
  .refine big _ ?_
   have:(rf c).1*(rf (l n)).1<=2000000000000*2000000:=eE c2 m3 (eZ m1) (by decide);omega
  .rw[gp,gp]
   exact hQ _ g
 have Z:=g2.get Y;have GB:=g2.get O;refine d8 GB ?_;have vG:=g1.trans g2;refine eG (λrest τ A'=>∃(dn mo:List (Str×Int)) (x3 x4:Option D),rest=mo.map bI/\dn++mo=i::k/\τ=[some (.ref q),some (.ref t),some (fq c),x3,x4]/\(∀p∈dn,c*l p.1=(p.2:Rat))/\Gr A2 A') ?_ ?_ ?_ _ _ _ ⟨[],i::k,none,none,rfl,rfl,rfl,λ_ h=>(by cases h),Gr.refl⟩
 .rintro rest τ A' ⟨_,_,_,_,_,_,_,_,g⟩
  exact g.get GB
 .rintro v rest τ A3 ⟨dn,mo,x3,x4,e,B,rfl,J,W⟩ Nx hN
  cases mo with
  |nil=>cases e
  |cons p mo=>
  cases e;have hp:p∈i::k:=by rw[<-B];simp
  obtain⟨pr,_,_,_⟩:=z p hp;refine⟨rfl,fH (W.get Z) rfl (fb.get _ pr) ⟨rfl,H p.1 A3 _ _ pr λA4 g4=>⟨show 2<=sizeLine by omega,?_⟩⟩⟩;have e1:D.tup [.int p.2,.int 1]=fq ((p.2:Int):Rat):=(PZ p.2).symm;rw[e1];refine wc ?_;refine cN (λc5=>?_) (λc5=>?_)
  .exact⟨show 1<=sizeLine by omega,k3 (λhall=>c5 (hall p hp)) _ ((vG.trans W).trans g4)⟩
  .exact hN _ _ ⟨dn++[p],mo,_,_,rfl,by simpa using B,rfl,λy hy=>by
    rcases bU.mp hy with h|h
    .exact J y h
    .rw[bE.mp h]
     exact c5,W.trans g4⟩
 .rintro τ A3 ⟨dn,mo,x3,x4,e,B,rfl,J,W⟩
  cases mo with
  |cons _ _=>cases e
  |nil=>
  have B:dn=i::k:=by simpa using B
  rw[B] at J;have k4:=k2 J;have U:=W.get Z;have hlt:=cz U;have F4:=vG.trans W;refine .inl ⟨q,kvs,U,λo=>?_⟩;generalize V:A3.set q (.bz o kvs)=B1;have L:B1[q]?=some (.bz o kvs):=by rw[<-V];exact eB hlt
  refine pY L ?_;have ek:(kvs.map λp=>keyOf p.1)=ns.map D.str:=by
   have:(kvs.map λp=>keyOf p.1)=(kvs.map (·.1)).map keyOf:=by rw[bK];rfl
   rw[this,fb.keys,bK];rfl
  rw[ek];refine pI (λd=>match d with|.str m=>fB (λn=>c*l n) m|d=>d) _ [] B1 (λA' g=>g.get L) (λd hd' B2 M=>?_) (by simp;omega) (λB2 M=>?_)
  .obtain⟨m,hm,rfl⟩:=aJ.mp hd'
   refine⟨[.str m],rfl,λQ hQ=>?_⟩;refine sD (M.get L) rfl (fb.get m hm) ⟨rfl,H m B2 _ _ hm λB3 P6=>⟨show 2<=sizeLine by omega,hQ _ P6⟩⟩
  have em:(ns.map D.str).map (λd=>match d with|.str m=>fB (λn=>c*l n) m|d=>d)=ns.map (fB λn=>c*l n):=by
   rw[bK];rfl
  rw[fN,em];have N:Gr B1 (B2++[C.lst (ns.map (fB λn=>c*l n))]):=M.trans Gr.push;have l2:A3.length<=B2.length:=by
   have:=M.len;rw[<-V,length_set] at this;exact this
  refine⟨kvs,N.get L,?_⟩;have gF:=KU U (by rw[V];exact N);refine k4 _ _ (F4.trans gF) ?_ (by have:=F4.len;omega);rw[eF (by omega)];exact aE
end My
namespace DP
open L2 MA
def gf(rs:List (Str×Int))(P:aS):List (Str×Int):=rs.filter λp=>decide (p.1∈aD P)
noncomputable def fU(Ts:List Tb)(rs:List (Str×Int))(P:aS):List (Str×Rat):=match gf rs P with
 |[]=>[]
 |p0::_=>(aD P).map λn=>(n,gh (dI Ts P) p0*dI Ts P n)
noncomputable def qf(Ts:List Tb)(rs:List (Str×Int)):List (Str×Rat):=(br Ts).flatMap (fU Ts rs)
def dz(p:Str×Rat):D:=.tup [.str p.1,fq p.2]
def zw(Ts:List Tb)(rs:List (Str×Int)):Prop:=∀P∈br Ts,∀p0 more,gf rs P=p0::more->∀p∈gf rs P,gh (dI Ts P) p0*dI Ts P p.1=(p.2:Rat)
def SSet:Ct:=λds A R E=>∃x NN rs,ds=[x,fy rs]/\(∃ms,iF x ms)/\(∀n∈NN,Nm n)/\jt rs/\(∀ms,iF x ms->eT (ms.map aQ) NN/\(∀p∈rs,∃T∈ms.map aQ,p.1∈aH T)/\(iA (ms.map aQ)≠none->∀A',Gr A A'->E "Never" A')/\(iA (ms.map aQ)=none->(∀P∈br (ms.map aQ),∀n∈aD P,gP (dI (ms.map aQ) P n))/\
 (zw (ms.map aQ) rs->∀A' q (es:List (Str×Rat)),Gr A A'->es.Perm (qf (ms.map aQ) rs)->(es.map (·.1)).Pairwise strLt->A'[q]?=some (.lst (es.map dz))->A.length<=q->R (.ref q) A')/\(¬zw (ms.map aQ) rs->∀A',Gr A A'->E "Never" A')))/\((¬∃ms,iF x ms)->∀A',Gr A A'->E "NoHall" A')
theorem Km{p:Str×Rat}(h:Nm p.1):gn (dz p)=true/\(toQ (dz p)).canLay0=true/\(toQ (dz p)).depth<=60/\∃x r,toQ (dz p)=.tuple (.str x::r):=by
 have h1:=h.ok;refine⟨rfl,?_,?_,_,_,rfl⟩
 .simp[dz,fq,toQ,bR,canLay0,canLayAll0] at h1 ⊢
  exact h1
 .simp[dz,fq,toQ,bR,PyData.depth,depthAll]
theorem Xr{a b:Str×Rat}(h:a.1=b.1->a=b):ltQ (toQ (dz a)) (toQ (dz b))=some (gu.blt (mV (dz a)) (mV (dz b))):=by
 show ltQ (.tuple [.str a.1,toQ (fq a.2)]) (.tuple [.str b.1,toQ (fq b.2)])=some (gu.blt a.1.cps.toList b.1.cps.toList);by_cases c:a.1=b.1
 .have e:=h c
  subst e;rw[ltQ,gu.irrefl,gG];have d:PyData.eqv (.str a.1) (.str a.1)=true:=by simp[PyData.eqv]
  rw[d];show gG [toQ (fq a.2)] [toQ (fq a.2)]=_;rw[gG];have f:PyData.eqv (toQ (fq a.2)) (toQ (fq a.2))=true:=by simp[fq,toQ,bR,PyData.eqv,eqvAll]
  rw[f];rfl
 .rw[ltQ,gG]
  have c':PyData.eqv (.str a.1) (.str b.1)=false:=by simpa[PyData.eqv] using c
  rw[c'];show ltQ (.str a.1) (.str b.1)=_;rw[ltQ]
theorem D7:∀{ds:List D},(∀d∈ds,∃p,d=dz p)->∃rs:List (Str×Rat),ds=rs.map dz
 |[],_=>⟨[],rfl⟩
 |d::ds,h=>by
  obtain⟨rs,rfl⟩:=D7 (ds:=ds) λx a=>h x (bq _ a);obtain⟨p,rfl⟩:=h d (aU ..);exact⟨p::rs,rfl⟩
theorem U1{rs qs:List (Str×Rat)}(h:(rs.map dz).Perm (qs.map dz)):rs.Perm qs:=by
 have inv:∀l:List (Str×Rat),(l.map dz).map (λd=>match d with|.tup [.str n,.tup [.int a,.int b]]=>(n,(a:Rat)/(b:Rat))|_=>(("":Str),(0:Rat)))=l:=λl=>by
  rw[bK];have:((λd=>match d with|D.tup [.str n,.tup [.int a,.int b]]=>(n,(a:Rat)/(b:Rat))|_=>(("":Str),(0:Rat)))∘dz)=id:=by
   funext p;show(p.1,((rf p.2).1:Rat)/((rf p.2).2:Rat))=p;rw[gp]
  rw[this,map_id]
 have:=h.map (λd=>match d with|.tup [.str n,.tup [.int a,.int b]]=>(n,(a:Rat)/(b:Rat))|_=>(("":Str),(0:Rat)));rw[inv,inv] at this;exact this
theorem xO(Ts:List Tb)(rs:List (Str×Int))(P:aS):(fU Ts rs P).map (·.1)=if gf rs P=[] then [] else aD P:=by
 unfold fU;cases gf rs P with
 |nil=>rfl
 |cons a m=>
  rw[ao (by simp)];show((aD P).map _).map _=_;rw[bK];exact map_id _
theorem Kl{Ts:List Tb}{rs:List (Str×Int)}:∀{Gs:List aS},Gs.Pairwise (λP Q=>∀m,m∈aD P->m∉aD Q)->(∀P∈Gs,(aD P).Nodup)->((Gs.flatMap (fU Ts rs)).map (·.1)).Nodup/\∀x,x∈(Gs.flatMap (fU Ts rs)).map (·.1)->x∈fJ Gs
 |[],_,_=>⟨oO,λx h=>by simp at h⟩
 |P::Gs,hd,e=>by
  obtain⟨f,g⟩:=gZ.mp hd;obtain⟨i1,i2⟩:=Kl (Ts:=Ts) (rs:=rs) g λQ c=>e Q (bq _ c);have n1:=xO Ts rs P;have sub:∀x∈(fU Ts rs P).map (·.1),x∈aD P:=λx hx=>by
   rw[n1] at hx;split at hx
   .cases hx
   .exact hx
  rw[qS,dJ];constructor
  .rw[nv]
   refine⟨?_,i1,λa i b j z=>?_⟩
   .rw[n1]
    split
    .exact oO
    .exact e P (aU ..)
   .subst z
    obtain⟨Q,c,d⟩:=gx.mp (show a∈Gs.flatMap aD from i2 a j);exact f Q c a (sub a i) d
  .intro x hx
   rcases bU.mp hx with hx|hx
   .exact gx.mpr ⟨P,aU ..,sub x hx⟩
   .obtain⟨Q,c,d⟩:=gx.mp (show x∈Gs.flatMap aD from i2 x hx)
    exact gx.mpr ⟨Q,bq _ c,d⟩
theorem Kh(Ts:List Tb)(rs:List (Str×Int))(P:aS):(fU Ts rs P).length<=(aD P).length:=by
 have:=ck List.length (xO Ts rs P);rw[aM] at this;rw[this];split
 .exact bP _
 .exact aF _
theorem FQ{f:aS->List (Str×Rat)}{k:Nat}:∀{l:List aS},(∀P∈l,(f P).length<=k)->(l.flatMap f).length<=k*l.length
 |[],_=>by simp
 |P::l,h=>by
  have h1:=FQ (l:=l) λQ a=>h Q (bq _ a);have h2:=h P (aU ..);rw[qS,cJ,gi,Nat.mul_succ];omega
theorem S9{l:List (Str×Rat)}(h:(l.map (·.1)).Nodup):∀a∈l,∀b∈l,a.1=b.1->a=b:=by
 induction l with
 |nil=>intro a d;cases d
 |cons x l g=>
  obtain⟨h1,h2⟩:=iQ.mp (show(x.1::l.map (·.1)).Nodup from h);intro a d b i c;rcases aY.mp d with e|ha'<;>rcases aY.mp i with f|hb'
  .rw[e,f]
  .exact absurd (by rw[<-e,c];exact cQ hb') h1
  .exact absurd (by rw[<-f,<-c];exact cQ ha') h1
  .exact g h2 a ha' b hb' c
theorem Xs{rs:List (Str×Rat)}(f:(rs.map (·.1)).Nodup)(e:(rs.map dz).Pairwise (λa b=>gu.kle (mV a) (mV b))):(rs.map (·.1)).Pairwise strLt:=by
 rw[jI] at e;have d:rs.Pairwise λa b=>a.1≠b.1:=jI.mp f;refine jI.mpr ((e.and d).imp ?_);rintro a b ⟨k1,k2⟩;have k1:gu.blt b.1.cps.toList a.1.cps.toList=false:=k1;have k3:gu.blt a.1.cps.toList b.1.cps.toList=true:=by
  cases c:gu.blt a.1.cps.toList b.1.cps.toList with
  |true=>rfl
  |false=>exact absurd (KG (gu.total _ _ c k1)) k2
 exact show a.1.cps.toList<b.1.cps.toList from gy k3
end DP
namespace My
open L2 DP MA
theorem Px(T:TopD K mg "settled" J1 xx)(s:mg "sorted"=none)(j:aj P w K mg base 13 "hall_shares" sW (ak mg 1 zg))(k:aj P w K mg base 5 "check_told" wU (ak mg 2 Di))(b:aj P w K mg base 6 "check_no_ring" wQ (ak mg 1 DI))(u:aj P w K mg base 3 "groups" p_ (ak mg 1 uN))(f:aj P w K mg base 4 "settled_group" xy (ak mg 2 DR))(g:aj P w K mg base 5 "group_weights" wY (ak mg 2 Dm)):aj P w K mg base 14 "settled" xx (ak mg 2 SSet):=by
 refine bH T Xk λhr hR M hu nd=>⟨_,(av (dS 2 nd (dL j hr M (aa (vr 0) af)))
  (av (c_ (dL k hr M (aa (vr 2) (aa (vr 1) af))))
  (av (c_ (dL b hr M (aa (vr 2) af)))
  (av (dS 3 nd (cH af))
  (av (eH dQ rfl (cC (dL u hr M (aa (vr 2) af))) (dG 4 nd) (av (NV none (own:=["pair"]) (frees:=["paths"]) (ix:=[4]) (i:=5) nd rfl (by first|exact Or.inl rfl|exact Or.inr rfl) rfl (cC (vr 1)) (λc=>(pG 0 (show(["pair","paths"]:List Str).Nodup by decide+kernel))) (λc=>(xW hu (dX hu (vr 0) ai) (vr 1))) (λc=>(vr 0)))
  (ay (c_ (gS g_ yo yw v9 u9 (vr 3) (aa (dL f hr M (aa (dL g hr M (aa (vr 2) (aa (vr 4) af))) (aa (vr 5) af))) af))))))
  (ay (aN (dO (Ey rfl hu) E0 s uA (aa (vr 3) af))))))))),λds A R h hl=>?_⟩
 obtain⟨x,NN,rs,rfl,hk,Ax,hW,q1,q2⟩:=h;have hz:(1000:Nat)<=sizeLine:=by decide
 refine⟨rfl,x,rfl,hk,λms hH A1 r g1 hB l1=>?_,λS A1 g1=>q2 S _ g1⟩;obtain⟨hok,hin,q5,q4⟩:=q1 ms hH;refine⟨rfl,r,_,rs,rfl,hB,hok.len,hW,hin,λZq U=>?_⟩;have Gm:=hB.gr U;refine⟨rfl,r,_,NN,rfl,Gm,hok,λe E g2=>?_,λe E g2=>q5 e _ ((g1.trans U).trans g2)⟩;obtain⟨hF,q6,q7⟩:=q4 e;have hB2:=Gm.gr g2;have V:=(g1.trans U).trans g2;clear q1 q2 q4 q5;generalize ZF:ms.map aQ=Ts at*
 refine⟨bP _,rfl,r,Ts,NN,rfl,hB2.gr Gr.push,hok,λA3 q3 g3 hG=>?_⟩;obtain⟨lq,gs,Gv,W⟩:=hG;have pZ:=W.len;have X:(E++[C.lst []]).length=E.length+1:=by simp
 rw[X] at W lq;have gl:(br Ts).length<=12:=by
  have:=Gh (Gs:=br Ts) (NN:=NN) (λP hP=>?_) (sd hok)
  .have:=hok.nn
   omega
  .obtain⟨n,S,_,rfl⟩:=i8 hok hP
   exact⟨n,(gW hok S).2.1,S⟩
 have QY:A3[E.length]?=some (.lst []):=g3.get aE;have lrs:=hW.len;refine d8 Gv ?_;refine eG (λrest τ A'=>∃(dn a:List Nat) (i:Nat) (x4 x5:Option D),rest=a.map D.ref/\dn++a=gs/\i=dn.length/\τ=[some x,some (fy rs),some (.ref r),some (.ref E.length),x4,x5]/\A'[E.length]?=some (.lst ((((br Ts).take i).flatMap (fU Ts rs)).map dz))/\A'[q3]?=some (.lst (gs.map D.ref))/\fP (E.length+1) A' gs (br Ts)/\Gr E A'/\(∀P∈(br Ts).take i,∀I a,gf rs P=I::a->∀p∈gf rs P,gh (dI Ts P) I*dI Ts P p.1=(p.2:Rat))) ?_ ?_ ?_ _ _ _ ⟨[],gs,0,none,none,rfl,rfl,rfl,rfl,QY,Gv,W,Gr.push.trans g3,λP h=>by simp at h⟩
 .rintro rest τ A' ⟨_,_,_,_,_,_,_,_,_,_,h,_⟩
  exact h
 .rintro v rest τ A4 ⟨dn,a,i,x4,x5,e1,y,hi,rfl,B,sq,Y,g4,J⟩ Nx hN
  cases a with
  |nil=>cases e1
  |cons t a=>
  cases e1;have hgt:gs[i]?=some t:=by rw[hi,<-y];simp
  obtain⟨Pg,Gq,Gu⟩:=Y.get hgt;have F:=cU Gq;obtain⟨n,S,_,N3⟩:=i8 hok F;subst N3;obtain⟨xG,pin,_⟩:=gW hok S;have Z6:=xG.len;have S4:=hok.nn;have ZX:(aD (aO Ts n)).length=(aO Ts n).length:=by simp[aD]
  obtain⟨lt',ZO,QG,QM,ZI⟩:=id Gu;refine u5 bI (λp=>decide (p.1∈aD (aO Ts n))) bI rs [] A4 (λ_ _=>trivial) (λp hp Z g5=>?_) (by simp;omega) (λZ g5=>?_)
  .refine⟨[bI p],rfl,λQ hQ=>?_,λA6 g6 Q hQ=>hQ _ Gr.refl⟩
   refine iL (g5.get QG) rfl ?_;rw[ao bV,sF QM];exact hQ _ Gr.refl
  rw[fN];have QN:(Z++[C.lst ((gf rs (aO Ts n)).map bI)])[Z.length]?=some (.lst ((gf rs (aO Ts n)).map bI)):=aE;have G:=g5.trans (Gr.push (T:=[C.lst ((gf rs (aO Ts n)).map bI)]));have Qm:(Z++[C.lst ((rs.filter λp=>decide (p.1∈aD (aO Ts n))).map bI)]:Ar)=Z++[C.lst ((gf rs (aO Ts n)).map bI)]:=rfl;rw[Qm];generalize Qn:(Z++[C.lst ((gf rs (aO Ts n)).map bI)]:Ar)=A6 at*
  have GC:=G.get B;refine⟨gE GC,rfl,r,t,Ts,NN,n,E,rfl,hB2,g4.trans G,hok,S,(Gu.gr G).lo (by omega),λA7 p kvs g7 h7 l7 fb=>?_⟩;have pO:((br Ts).take (i+1))=(br Ts).take i++[aO Ts n]:=by
   rw[take_succ,Gq];rfl
  have fin:∀(L:Ar) (N:Nat) (x5:Option D) (bB:bO),Gr A7 L->L[N]?=some (.lst ((fU Ts rs (aO Ts n)).map dz))->A7.length<=N->(∀I a,gf rs (aO Ts n)=I::a->∀p∈gf rs (aO Ts n),gh (dI Ts (aO Ts n)) I*dI Ts (aO Ts n) p.1=(p.2:Rat))->bB=[some x,some (fy rs),some (.ref r),some (.ref E.length),some (.ref t),x5]->r9 E.length N L λ_ A'=>Nx bB A':=λL N x5 bB O h8 l8 o sr=>by
   have GD:=O.get (g7.get GC);have Ak:=(G.trans g7).trans O;have sz:((((br Ts).take i).flatMap (fU Ts rs)).map dz).length+((fU Ts rs (aO Ts n)).map dz).length<=sizeLine:=by
    have b1:(((br Ts).take i).flatMap (fU Ts rs)).length<=12*((br Ts).take i).length:=FQ λQ hQ=>by
     obtain⟨n',H,_,rfl⟩:=i8 hok (qz hQ);have:=Kh Ts rs (aO Ts n');have:=(gW hok H).1.len;simp[aD] at*
     omega
    have b2:=Kh Ts rs (aO Ts n);have b3:((br Ts).take i).length<=12:=by rw[kZ];omega
    rw[aM,aM];omega
   refine vD GD h8 sz ?_;refine hN _ _ ⟨dn++[t],a,i+1,_,_,rfl,by simpa using y,by simp[hi],sr,?_,?_,?_,(g4.trans Ak).set (aF _),λP hP=>?_⟩
   .rw[pO,qR,dJ]
    have:([aO Ts n].flatMap (fU Ts rs))=fU Ts rs (aO Ts n):=by simp
    rw[this];exact eB (cz GD)
   .rw[eF (by omega)]
    exact Ak.get sq
   .exact Y.kO λq P hP=>(hP.gr Ak).set (by omega)
   .rw[pO] at hP
    rcases bU.mp hP with hP|hP
    .exact J P hP
    .rw[bE.mp hP]
     exact o
  refine⟨rfl,p,kvs,_,_,Z.length,gf rs (aO Ts n),rfl,h7,fb,by omega,λm hm=>hF _ F m hm,g7.get QN,λp' AE=>?_,λh0 L N O h8 l8=>?_,λI mo h0=>⟨λo L N O h8 l8=>?_,λhbad L O=>?_⟩⟩
  .obtain⟨m1,m2⟩:=lY.mp AE
   exact⟨gy m2,hW.nm _ m1,hW.no _ m1⟩
  .refine fin L N _ _ O ?_ l8 (λI mo z=>by rw[h0] at z;cases z) rfl
   have:fU Ts rs (aO Ts n)=[]:=by unfold fU;rw[h0]
   rw[this];exact h8
  .refine fin L N _ _ O ?_ l8 (λZ5 mo' z=>by rw[h0] at z;cases z;exact o) rfl
   have:(fU Ts rs (aO Ts n)).map dz=(aD (aO Ts n)).map (fB λm=>gh (dI Ts (aO Ts n)) I*dI Ts (aO Ts n) m):=by
    unfold fU;rw[h0];show((aD (aO Ts n)).map _).map dz=_;rw[bK];rfl
   rw[this];exact h8
  .exact q7 (λQX=>hbad (QX _ F I mo h0)) _ (((V.trans g4).trans G).trans (g7.trans O))
 .rintro τ A4 ⟨dn,a,i,x4,x5,e1,y,hi,rfl,B,sq,Y,g4,J⟩
  cases a with
  |cons _ _=>cases e1
  |nil=>
  have y:dn=gs:=by simpa using y
  have hil:i=(br Ts).length:=by rw[hi,y,pZ]
  rw[hil,qH (aF _)] at B J;have B:A4[E.length]?=some (.lst ((qf Ts rs).map dz)):=B;obtain⟨t1,t2⟩:=Kl (Ts:=Ts) (rs:=rs) (sd hok) λP hP=>by
   obtain⟨n',H,_,rfl⟩:=i8 hok hP;exact(gW hok H).1.nd
  have inN:∀x∈(qf Ts rs).map (·.1),x∈NN:=λx M=>by
   obtain⟨Q,hQ,hq⟩:=gx.mp (show x∈(br Ts).flatMap aD from t2 x M);obtain⟨n',H,_,rfl⟩:=i8 hok hQ;exact(gW hok H).1.sub x hq
  have R_:(qf Ts rs).length<=12:=by
   have:=j5 _ NN t1 inN;have:=hok.nn;rw[aM] at*
   exact cG (by assumption) (by assumption)
  have same:=S9 (l:=qf Ts rs) t1;refine Kz gu mV B (by rw[aM];omega) (λd hd=>?_) (λd hd e he=>?_) λes pe se=>?_
  .obtain⟨p,hp,rfl⟩:=aJ.mp hd
   exact Km (Ax _ (inN _ (cQ hp)))
  .obtain⟨p,hp,rfl⟩:=aJ.mp hd
   obtain⟨p',AE,rfl⟩:=aJ.mp he;exact Xr (same p hp p' AE)
  obtain⟨zs,rfl⟩:=D7 (ds:=es) λd hd=>by
   obtain⟨p,_,rfl⟩:=aJ.mp (pe.mem_iff.mp hd);exact⟨p,rfl⟩
  have pr:=U1 pe;exact q6 J _ _ zs ((V.trans g4).trans Gr.push) pr (Xs ((pr.map (·.1)).nodup_iff.mpr t1) se) aE (by have:=(V.trans g4).len;omega)
end My
namespace DP
open L2 MA
def N6:List Str:=["a","b","c","d","e","f"]
theorem kR:∀n∈N6,Nm n:=λn a=>by
 simp only[N6,aY,fD,fE] at a;rcases a with rfl|rfl|rfl|rfl|rfl|rfl<;>exact⟨by decide+kernel,by decide+kernel,by decide+kernel⟩
theorem Y7:N6.Pairwise strLt:=by
 have:∀a b:Str,(decide (a.cps.toList<b.cps.toList))=true->strLt a b:=λa b h=>show a.cps.toList<b.cps.toList from gy h
 simp only[N6,gZ,aY,fD,fE];refine⟨λb c=>?_,λb c=>?_,λb c=>?_,λb c=>?_,λb c=>?_,λb c=>c.elim,.nil⟩;all_goals
  refine this _ _ ?_
 .rcases c with rfl|rfl|rfl|rfl|rfl<;>decide+kernel
 .rcases c with rfl|rfl|rfl|rfl<;>decide+kernel
 .rcases c with rfl|rfl|rfl<;>decide+kernel
 .rcases c with rfl|rfl<;>decide+kernel
 .rcases c with rfl<;>decide+kernel
def One(m:M):Prop:=(∃n∈N6,m=.wt n)\/∃(l r:Int) (a b:Str),m=.bS l r (.wt a) (.wt b)/\(1<=l/\l<=9)/\(1<=r/\r<=9)/\a∈N6/\b∈N6/\a≠b
def Dq:Ct:=λds A R _=>∃ns t n,ds=[.fl ns,.ref t]/\Tw t n A/\n+200<=1000000/\∀(ms:List M) A',1<=ms.length->ms.length<=5->(∀m∈ms,One m)->Dr t A A' n 200->R (.tup (ms.map enc)) A'
theorem IS{k i:Nat}{v:D}{rest:List D}(h:v::rest=(fT 0 k).drop i):v=.int ((i:Nat):Int)/\rest=(fT 0 k).drop (i+1)/\i<k:=by
 have l:(fT 0 k).length=k:=by simp[fT]
 have hi:i<k:=by
  have:=ck List.length h;rw[qv,l] at this;simp at this;omega
 rw[mu (by omega),List.cons.injEq] at h;refine⟨?_,h.2,hi⟩;rw[h.1];simp[fT]
theorem Wa{k i:Nat}(h:[]=(fT 0 k).drop i)(hi:i<=k):i=k:=by
 have l:(fT 0 k).length=k:=by simp[fT]
 have:=ck List.length h;rw[qv,l] at this;simp at this;omega
theorem cK.Xv{t q:Nat}{A A':Ar}{c:C}(h:cK t A A')(b:A.length<=q):cK t A (A'.set q c):=λp d a hd=>by
 rw[eF (by have:=cz hd;omega)];exact h p d a hd
theorem Hu{l r:Int}(h:¬(if r>l then r else l)>9):l<=9/\r<=9:=by
 split at h<;>omega
theorem cK.len{t:Nat}{A A':Ar}(h:cK t A A')(b:t<A'.length):A.length<=A'.length:=by
 by_cases e:A.length=0
 .omega
 by_cases a:A.length - 1=t
 .omega
 .have:=cz (h (A.length - 1) _ a (a_ (by omega)))
  omega
end DP
namespace My
open L2 DP MA
theorem OU(T:TopD K mg "_law_hall" Jd wF)(H:mg "dict"=none)(E:mg "range"=none)(O:mg "max"=none)(F:mg "tuple"=none)(c:aj P w K mg base 3 "_law_draw" kT (ak mg 3 mF))(d:aj P w K mg base 4 "_law_pick" m6 (ak mg 3 nL))(f:aj P w K mg base 5 "_law_weights" sQ (ak mg 3 zv)):aj P w K mg base 6 "_law_hall" wF (ak mg 2 Dq):=by
 refine bH T Wx λQ hR B Z nd=>⟨_,(av (dS 2 nd (dL c Q B (aa (vr 0) (aa (vr 1) (aa ai af)))))
  (av (dS 3 nd (c8 ai (dL c Q B (aa (vr 0) (aa (vr 1) (aa ai af))))))
  (av (dS 4 nd (zW (cH (@aa _ _ _ _ _ _ bG (@aa _ _ _ _ _ _ bG (@aa _ _ _ _ _ _ bG (@aa _ _ _ _ _ _ bG (@aa _ _ _ _ _ _ bG (@aa _ _ _ _ _ _ bG af qe) qe) qe) qe) qe) qe)) z3 (z4 (c8 ai (dL c Q B (aa (vr 0) (aa (vr 1) (aa ai af))))))))
  (av (dS 5 nd (iy (mJ rfl) mP H nE (aa (dL f Q B (aa (vr 0) (aa (vr 1) (aa (vr 4) af)))) af)))
  (av (dS 6 nd (cH af))
  (av (eH dQ rfl (zZ E (aa (vr 3) af)) (dG 7 nd) (av (vv (i:=8) (j:=9) rfl nd rfl rfl (by decide) rfl rfl (aa (dL d Q B (aa (vr 0) (aa (vr 1) (aa (vr 4) af)))) (aa (dL d Q B (aa (vr 0) (aa (vr 1) (aa (vr 4) af)))) af)) rfl)
  (av (vv (i:=10) (j:=11) rfl nd rfl rfl (by decide) rfl rfl (aa (dX Z (vr 5) (vr 9)) (aa (dX Z (vr 5) (vr 8)) af)) rfl)
  (av (bJ (PW.pt (pM (d_ Z (vr 2) ai) (rZ (d_ Z (vr 7) (rX (vr 3) ai))))) (ay (dS 10 nd (c8 ai (dL c Q B (aa (vr 0) (aa (vr 1) (aa ai af))))))) bM)
  (ay (bJ (PW.pt (gU (d_ Z (vr 8) (vr 9)) (iJ (B4 (dO (Mt rfl) Nk O boot_max (aa (vr 10) (aa (vr 11) af))) ai)))) (ay (c_ (gS g_ jK jM ja jw (vr 6) (aa (bX (aa bG (aa (vr 8) af))) af)))) (ay (c_ (gS g_ jK jM ja jw (vr 6) (aa (bX (aa bG (aa (vr 10) (aa (vr 11) (aa (bX (aa bG (aa (vr 8) af))) (aa (bX (aa bG (aa (vr 9) af))) af)))))) af))))))))))
  (ay (aN (iy rM rV F kh (aa (vr 6) af)))))))))),λds A R h hl=>?_⟩
 obtain⟨ns,t,n,rfl,ht,hn,q⟩:=h;have hz:(1000:Nat)<=sizeLine:=by decide
 obtain⟨xs0,QZ,_⟩:=id ht;have Sy:=cz QZ;refine⟨rfl,ns,t,3,n,rfl,ht,by omega,by decide,λway A1 w0 w1 b1 t1=>?_⟩;refine⟨rfl,ns,t,5,n+1,rfl,t1,by omega,by decide,λmany A2 m0 m1 b2 t2=>?_⟩;refine⟨show 6<=sizeLine by omega,rfl,ns,t,5,n+2,rfl,t2.gr Gr.push,by omega,by decide,λsome u s0 s1 b3 t3=>?_⟩;have D8:cK t A u:=((b1.trans b2).trans Gr.push.but).trans b3;have ZR:t<A2.length:=by obtain⟨_,h,_⟩:=id t2;exact cz h
 have hnm:u[A2.length]?=_:=b3 _ _ (by omega) aE;refine XD hnm ?_;obtain⟨k,rfl⟩:∃k:Nat,some=((k:Nat):Int):=⟨some.toNat,by omega⟩;have N8:cutD [D.str "a",.str "b",.str "c",.str "d",.str "e",.str "f"] none (Option.some (2+((k:Nat):Int)))=(N6.take (2+k)).map D.str:=by
  have:=MP (xs:=N6.map D.str) (i:=2+k) (by simp[N6];omega);rw[List.map_take,<-this];rfl
 rw[N8];generalize s:N6.take (2+k)=l;have sub:∀x∈l,x∈N6:=λx B=>by rw[<-s] at B;exact qz B
 have HK:l≠[]:=λz=>by
  rw[<-s] at z;have:=ck List.length z;simp[N6] at this
 have Z4:l.length<=6:=by rw[<-s];simp[N6];omega
 have Sb:t<u.length:=by obtain⟨_,h,_⟩:=id t3;exact cz h
 refine⟨rfl,ns,t,u.length,l,n+3,rfl,by omega,aE,by rw[<-s];exact Y7.sublist (List.take_sublist ..),λx B=>kR x (sub x B),by omega,t3.gr Gr.push,by omega,λrs g hW I d4=>?_⟩;have sq:g[u.length]?=_:=d4.but _ _ (by omega) aE;have Mb:cK t A g:=(D8.trans Gr.push.but).trans d4.but;refine vm hW ?_;have ZT:u.length<g.length:=cz sq;have ZP:A.length<=u.length:=D8.len Sb;refine⟨bP _,by omega,by omega,?_⟩;obtain⟨L,rfl⟩:∃L:Nat,many=((L:Nat):Int):=⟨many.toNat,by omega⟩;have N_:((1:Int)+((L:Nat):Int)).toNat=1+L:=by omega
 rw[N_];have t5:Tw t (n+103) (g++[C.dct (dg rs)]++[C.lst []]):=((d4.tw.gr Gr.push).gr Gr.push).mono (by omega);have Mc:cK t A (g++[C.dct (dg rs)]++[C.lst []]):=(Mb.trans Gr.push.but).trans Gr.push.but;have QV:=getElem?_push (T:=[C.lst []]) (getElem?_push (T:=[C.dct (dg rs)]) sq);have QH:(g++[C.dct (dg rs)]++[C.lst []])[g.length]?=some (.dct (dg rs)):=getElem?_push aE;have eM:(g++[C.dct (dg rs)]).length=g.length+1:=by simp
 have QO:(g++[C.dct (dg rs)]++[C.lst []])[g.length+1]?=some (.lst []):=by rw[<-eM];exact aE
 rw[eM];refine eG (λrest τ A'=>∃(ms:List M) (S U V o p:Option D),rest=(fT 0 (1+L)).drop ms.length/\ms.length<=1+L/\(∀m∈ms,One m)/\τ=[some (.fl ns),some (.ref t),some (.int way),some (.int (1+((L:Nat):Int))),some (.ref u.length),some (.ref g.length),some (.ref (g.length+1)),S,U,V,o,p]/\A'[u.length]?=some (.lst (l.map D.str))/\A'[g.length]?=some (.dct (dg rs))/\A'[g.length+1]?=some (.lst (ms.map enc))/\cK t A A'/\Tw t (n+103+3*ms.length) A') ?_ ?_ ?_ _ _ _ ⟨[],none,none,none,none,none,rfl,by simp,λ_ h=>(by cases h),rfl,QV,QH,QO,Mc,t5⟩
 .intro _ _ _ _
  trivial
 .rintro v rest τ A' ⟨ms,S,U,V,o,p,e,N,W,rfl,hN,hD,hM,bA,tA⟩ Nx Qw
  obtain⟨rfl,rfl,hlt⟩:=IS e;refine⟨rfl,ns,t,u.length,l.map D.str,_,rfl,by omega,hN,by simpa using HK,tA,by omega,λx A6 Q0 b6 t6=>?_⟩;obtain⟨a,ha,rfl⟩:=aJ.mp Q0;refine⟨rfl,ns,t,u.length,l.map D.str,_,rfl,by omega,b6 _ _ (by omega) hN,by simpa using HK,t6,by omega,λx A7 Q2 b7 t7=>?_⟩;obtain⟨b,hb,rfl⟩:=aJ.mp Q2;have J:=b6.trans b7;have Gn:=J _ _ (by omega) hD;have va:=Cn hW (n:=a) (by rw[I];exact ha);have vb:=Cn hW (n:=b) (by rw[I];exact hb);refine fH Gn rfl (nX rs b (by rw[I];exact hb)) ?_;refine fH Gn rfl (nX rs a (by rw[I];exact ha)) ?_;refine cD (λc1=>cD (λc2=>⟨rfl,ns,t,9,_,rfl,t7,by omega,by decide,λi A8 i0 i1 b8 t8=>?g1⟩) (λc2=>?g2)) (λc1=>?g3);case' g1=>
   have X:1<=1+i:=by omega
   have Y:=J.trans b8;have t9:Tw t (n+103+3*(ms.length+1)) A8:=t8.mono (by omega);generalize G:A8=A9 at*
   clear G
  case' g2=>
   have X:1<=val rs b:=vb.1;have Y:=J;have t9:Tw t (n+103+3*(ms.length+1)) A7:=t7.mono (by omega);generalize G:A7=A9 at*
   clear G
  case' g3=>
   have X:1<=val rs b:=vb.1;have Y:=J;have t9:Tw t (n+103+3*(ms.length+1)) A7:=t7.mono (by omega);generalize G:A7=A9 at*
   clear G
  all_goals
   have hr1:=va.1;have Qv:=Y _ _ (show u.length≠t by omega) hN;have Qq:=Y _ _ (show g.length≠t by omega) hD;have r:=Y _ _ (show g.length+1≠t by omega) hM;have Me:=bA.trans Y;have sz:(ms.map enc).length<sizeLine:=by rw[aM];omega
   have done:∀(m:M) (bB:bO) (S U V o p:Option D),One m->bB=[some (.fl ns),some (.ref t),some (.int way),some (.int (1+((L:Nat):Int))),some (.ref u.length),some (.ref g.length),some (.ref (g.length+1)),S,U,V,o,p]->Nx bB (A9.set (g.length+1) (.lst (ms.map enc++[enc m]))):=λm bB S U V o p hm sr=>by
    refine Qw _ _ ⟨ms++[m],S,U,V,o,p,by simp,by simp;omega,λy hy=>?_,sr,?_,?_,?_,Me.Xv (by omega),?_⟩
    .rcases bU.mp hy with h|h
     .exact W y h
     .rw[bE.mp h]
      exact hm
    .rw[eF (by omega)]
     exact Qv
    .rw[eF (by omega)]
     exact Qq
    .rw[dJ]
     exact eB (cz r)
    .obtain⟨ys,y1,y2⟩:=t9
     refine⟨ys,?_,by simpa using y2⟩;rw[eF (by omega)];exact y1
   refine cD (λc3=>?_) (λc3=>cD (λc4=>?_) (λc4=>?_))
   .exact⟨gE r,show 2<=sizeLine by omega,iV r sz (done (.wt a) _ _ _ _ _ _ (.inl ⟨a,sub a ha,rfl⟩) rfl)⟩
   .exact⟨gE r,show 2<=sizeLine by omega,iV r sz (done (.wt a) _ _ _ _ _ _ (.inl ⟨a,sub a ha,rfl⟩) rfl)⟩
   .refine⟨gE r,show 2<=sizeLine by omega,show 2<=sizeLine by omega,show 5<=sizeLine by omega,iV r sz (done (.bS _ (val rs a) (.wt a) (.wt b)) _ _ _ _ _ _ (.inr ⟨_,val rs a,a,b,rfl,⟨X,(Hu c4).1⟩,⟨hr1,(Hu c4).2⟩,sub a ha,sub b hb,c3⟩) rfl)⟩
 .rintro τ A' ⟨ms,S,U,V,o,p,e,N,W,rfl,hN,hD,hM,bA,tA⟩
  have e:=Wa e N;refine tV hM ?_;exact q ms _ (by omega) (by omega) W ⟨bA,tA.mono (by omega)⟩
end My
namespace DP
open L2 MA
abbrev fj:=Str×Str×Int×Int
def GL:M->Bool
 |.bS _ _ _ _=>true
 |.wt _=>false
def KZ:M->fj
 |.bS l r (.wt a) (.wt b)=>(a,b,r,l)
 |_=>("","",1,1)
def fL(ms:List M):List fj:=(ms.filter GL).map KZ
def qo(t:fj):D:=.tup [.str t.1,.str t.2.1,.int t.2.2.1,.int t.2.2.2]
structure LY(t:fj):Prop where
 a:t.1∈N6
 b:t.2.1∈N6
 ne:t.1≠t.2.1
 up:1<=t.2.2.1/\t.2.2.1<=9
 dn:1<=t.2.2.2/\t.2.2.2<=9
theorem KY{ms:List M}(h:∀m∈ms,One m):∀t∈fL ms,LY t:=λt e=>by
 obtain⟨m,c,rfl⟩:=aJ.mp e;obtain⟨c,f⟩:=lY.mp c;rcases h m c with⟨n,_,rfl⟩|⟨l,r,a,b,rfl,g,d,i,j,k⟩
 .cases f
 .exact⟨i,j,k,d,g⟩
structure Cw(L:List fj)(w:Str->Rat):Prop where
 pos:∀n,0<w n
 eq:∀t∈L,w t.1*(t.2.2.2:Rat)=w t.2.1*(t.2.2.1:Rat)
abbrev fO:=List (Str×Int×Int)
def di(ks:fO):List Str:=ks.map (·.1)
def fR(ks:fO):List (Key×D):=ks.map λx=>(Sum.inr x.1,.tup [.int x.2.1,.int x.2.2])
theorem R4(ks:fO):(fR ks).map (·.1)=(di ks).map Sum.inr:=by simp[fR,di]
theorem jZ:∀{ks:fO} {n:Str} {p q:Int},(di ks).Nodup->(n,p,q)∈ks->bw (fR ks) (Sum.inr n)=some (.tup [.int p,.int q])
 |x::ks,n,p,q,a,h=>by
  show(if (Sum.inr x.1:Key)=Sum.inr n then some (D.tup [.int x.2.1,.int x.2.2]) else bw (fR ks) (Sum.inr n))=_;obtain⟨h1,h2⟩:=iQ.mp (show(x.1::di ks).Nodup from a);rcases aY.mp h with e|h
  .rw[<-e,aA rfl]
  .rw[ao (λz=>h1 (by rw[Sum.inr.inj z];exact cQ h)),jZ h2 h]
theorem n_{ks:fO}{n:Str}(h:n∈di ks):∃p q,(n,p,q)∈ks:=by
 obtain⟨⟨m,p,q⟩,a,rfl⟩:=aJ.mp h;exact⟨p,q,a⟩
def TA(L:List fj)(a b:Str):Prop:=∃t∈L,(t.1=a/\t.2.1=b)\/(t.2.1=a/\t.1=b)
inductive RL(L:List fj):Str->Str->Prop
 |refl (a:Str):RL L a a
 |step {a b c:Str}:RL L a b->TA L b c->RL L a c
structure Kn(L:List fj)(s:Str)(ks:fO):Prop where
 nd:(di ks).Nodup
 st:(s,1,1)∈ks
 sub:∀x∈ks,x.1∈N6
 bd:∀x∈ks,(1<=x.2.1/\x.2.1<=(9:Int) ^ ks.length)/\(1<=x.2.2/\x.2.2<=(9:Int) ^ ks.length)
 sound:∀w,Cw L w->∀x∈ks,w x.1*(x.2.2:Rat)=w s*(x.2.1:Rat)
 xK:∀x∈ks,RL L s x.1
theorem Kn.len{L:List fj}{s:Str}{ks:fO}(h:Kn L s ks):ks.length<=6:=by
 have:=j5 (di ks) N6 h.nd λx a=>by
  obtain⟨y,b,rfl⟩:=aJ.mp a;exact h.sub y b
 simpa[di,N6] using this
theorem p9{k:Nat}(h:k<=6):(9:Int) ^ k<=531441:=by
 have:(9:Nat) ^ k<=9 ^ 6:=fF (by decide) h;have e:((9:Int)) ^ k=((9 ^ k:Nat):Int):=by rw[qC];rfl
 rw[e];have:(9:Nat) ^ 6=531441:=by decide
 omega
theorem Kn.small{L:List fj}{s:Str}{ks:fO}(h:Kn L s ks){x:Str×Int×Int}(a:x∈ks):(1<=x.2.1/\x.2.1<=531441)/\(1<=x.2.2/\x.2.2<=531441):=by
 have:=h.bd x a;have:=p9 h.len;omega
theorem Kn.start{L:List fj}{s:Str}(b:s∈N6):Kn L s [(s,1,1)]:=by
 refine⟨by simp[di],by simp,λx a=>?_,λx a=>?_,λw c x a=>?_,λx a=>?_⟩;all_goals
  have e:x=(s,1,1):=by simpa using a
  subst e
 .exact b
 .exact⟨⟨show(1:Int)<=1 by decide,show(1:Int)<=9 ^ 1 by decide⟩,show(1:Int)<=1 by decide,show(1:Int)<=9 ^ 1 by decide⟩
 .rfl
 .exact .refl _
theorem Kn.add{L:List fj}{s:Str}{ks:fO}(h:Kn L s ks){n m:Str}{p q u d:Int}(f:(m,p,q)∈ks)(i:n∉di ks)(k:n∈N6)(j:1<=u/\u<=9)(hd:1<=d/\d<=9)(l:∀w,Cw L w->w m*(d:Rat)=w n*(u:Rat))(g:TA L m n):Kn L s (ks++[(n,p*d,q*u)]):=by
 have e:=h.bd _ f;have hz:(0:Int)<=9 ^ ks.length:=pow_nonneg (by decide);have mono:∀x:Int,x<=9 ^ ks.length->x<=(9:Int) ^ (ks.length+1):=λx hx=>by
  rw[kc];omega
 have mul:∀x y:Int,1<=x->x<=9 ^ ks.length->1<=y->y<=9->1<=x*y/\x*y<=(9:Int) ^ (ks.length+1):=λx y h1 h2 o r=>by
  rw[kc];refine⟨?_,eE h2 r (by omega) hz⟩;have:=eE (a:=1) (b:=1) h1 o (by decide) (by omega);omega
 refine⟨?_,oK _ h.st,λx hx=>?_,λx hx=>?_,λw c x hx=>?_,λx hx=>?_⟩
 .unfold di at i ⊢
  rw[dJ,nv];refine⟨h.nd,by simp,λa t b e=>?_⟩;have:b=n:=by simpa using e
  rw[this];exact λz=>i (by rw[<-z];exact t)
 .rcases bU.mp hx with hx|hx
  .exact h.sub x hx
  .rw[bE.mp hx]
   exact k
 .rw[cJ]
  rcases bU.mp hx with hx|hx
  .have:=h.bd x hx
   exact⟨⟨this.1.1,mono _ this.1.2⟩,this.2.1,mono _ this.2.2⟩
  .rw[bE.mp hx]
   exact⟨mul p d e.1.1 e.1.2 hd.1 hd.2,mul q u e.2.1 e.2.2 j.1 j.2⟩
 .rcases bU.mp hx with hx|hx
  .exact h.sound w c x hx
  .rw[bE.mp hx]
   have h1:=h.sound w c _ f;have h2:=l w c;show w n*((q*u:Int):Rat)=w s*((p*d:Int):Rat);have h1:w m*(q:Rat)=w s*(p:Rat):=h1;rw[gI,gI];grind
 .rcases bU.mp hx with hx|hx
  .exact h.xK x hx
  .rw[bE.mp hx]
   exact .step (h.xK _ f) g
def mz(L:List fj)(ks:fO):Prop:=∀t∈L,(t.1∈di ks↔t.2.1∈di ks)
def q_(L:List fj)(ks:fO):Prop:=∀t∈L,∀p q p' q',(t.1,p,q)∈ks->(t.2.1,p',q')∈ks->p*q'*t.2.2.2=p'*q*t.2.2.1
theorem FO{α:Type}{p q:α->Bool}:∀{l:List α},(∀x∈l,p x=q x)->l.find? p=l.find? q
 |[],_=>rfl
 |x::l,h=>by
  rw[ki,ki,h x (aU ..),FO (l:=l) λy a=>h y (bq _ a)]
theorem cw_of{L:List fj}(h:∀t∈L,∃ks,Kn L t.1 ks/\mz L ks/\q_ L ks):∃w,Cw L w:=by
 classical
 let a:fj->fO:=λt=>if b:t∈L then Classical.choose (h t b) else []
 have j:∀t∈L,Kn L t.1 (a t)/\mz L (a t)/\q_ L (a t):=λt b=>by
  show Kn L t.1 (if b:t∈L then Classical.choose (h t b) else [])/\mz L (if b:t∈L then Classical.choose (h t b) else [])/\q_ L (if b:t∈L then Classical.choose (h t b) else [])
  rw[dif_pos b]
  exact Classical.choose_spec (h t b)
 let rep:Str->Option fj:=λn=>L.find? λt=>decide (n∈di (a t))
 let wt:fO->Str->Rat:=λks n=>match ks.find? (λx=>decide (x.1=n)) with
  |some x=>(x.2.1:Rat)/(x.2.2:Rat)
  |none=>1
 let w:Str->Rat:=λn=>match rep n with
  |some t=>wt (a t) n
  |none=>1
 have c:∀(ks:fO) (n:Str) (p q:Int),(di ks).Nodup->(n,p,q)∈ks->wt ks n=(p:Rat)/(q:Rat):=λks n p q B hx=>by
  have:ks.find? (λx=>decide (x.1=n))=some (n,p,q):=by
   induction ks with
   |nil=>cases hx
   |cons y ks C=>
    obtain⟨h1,h2⟩:=iQ.mp (show(y.1::di ks).Nodup from B)
    rw[ki]
    rcases aY.mp hx with e|hx
    .rw[<-e]
     simp
    .have m:¬y.1=n:=λz=>h1 (by rw[z];exact cQ (f:=(·.1)) hx)
     rw[fY m]
     exact C h2 hx
  show(match ks.find? (λx=>decide (x.1=n)) with|some x=>(x.2.1:Rat)/(x.2.2:Rat)|none=>1)=_
  rw[this]
 have cpos:∀z:Int,1<=z->(0:Rat)<(z:Rat):=λz hz=>by
  have:((0:Int):Rat)<(z:Rat):=yI.mpr (by omega)
  simpa using this
 have k:∀p q:Int,1<=p->1<=q->(0:Rat)<(p:Rat)/(q:Rat):=λp q D E=>by
  rw[mj]
  exact nC (cpos p D) (uz.mpr (cpos q E))
 refine⟨w,λn=> ?_,λt b=> ?_⟩
 .show 0<(match rep n with|some t=>wt (a t) n|none=>1)
  cases e:rep n with
  |none=>exact(by decide:(0:Rat)<1)
  |some t=>
   have o:=nu e
   have l:n∈di (a t):=by have:=find?_some e;exact gy this
   obtain⟨k1,_,_⟩:=j t o
   obtain⟨p,q,d⟩:=n_ l
   show 0<wt (a t) n
   rw[c _ _ _ _ k1.nd d]
   have:=k1.small d
   exact k _ _ this.1.1 this.2.1
 .have F:rep t.1=rep t.2.1:=by
   show L.find? (λs=>decide (t.1∈di (a s)))=L.find? (λs=>decide (t.2.1∈di (a s)))
   refine FO λs G=> ?_
   have:=(j s G).2.1 t b
   rw[lX,nF,nF]
   exact this
  show(match rep t.1 with|some s=>wt (a s) t.1|none=>1)*_=(match rep t.2.1 with|some s=>wt (a s) t.2.1|none=>1)*_
  rw[<-F]
  cases e:rep t.1 with
  |none=>
   have:=nG.mp e t b
   have h1:t.1∈di (a t):=cQ (f:=(·.1)) (j t b).1.st
   exact absurd (dR h1) this
  |some s=>
   have r:=nu e
   have l:t.1∈di (a s):=by have:=find?_some e;exact gy this
   obtain⟨k1,k2,k3⟩:=j s r
   have u:=(k2 t b).mp l
   obtain⟨p,q,d⟩:=n_ l
   obtain⟨A,v,i⟩:=n_ u
   have g:=k3 t b p q A v d i
   show wt (a s) t.1*_=wt (a s) t.2.1*_
   rw[c _ _ _ _ k1.nd d,c _ _ _ _ k1.nd i]
   have H:=k1.small d
   have I:=k1.small i
   have J:=jc (cpos q H.2.1)
   have K:=jc (cpos v I.2.1)
   have g':(p:Rat)*(v:Rat)*(t.2.2.2:Rat)=(A:Rat)*(q:Rat)*(t.2.2.1:Rat):=by
    rw[<-gI,<-gI,<-gI,<-gI,g]
   grind
theorem Tq{L:List fj}{s:Str}{ks:fO}(h:Kn L s ks){t:fj}(f:t∈L){p q b c:Int}(h1:(t.1,p,q)∈ks)(h2:(t.2.1,b,c)∈ks)(e:p*c*t.2.2.2≠b*q*t.2.2.1):¬∃w,Cw L w:=λ⟨w,d⟩=>e (by
 have g:w t.1*(q:Rat)=w s*(p:Rat):=h.sound w d _ h1;have i:w t.2.1*(c:Rat)=w s*(b:Rat):=h.sound w d _ h2;have j:=d.eq t f;have s0:=jc (d.pos s);have key:w s*((p:Rat)*(c:Rat)*(t.2.2.2:Rat))=w s*((b:Rat)*(q:Rat)*(t.2.2.1:Rat)):=by grind
 have a:((p:Rat)*(c:Rat)*(t.2.2.2:Rat))=((b:Rat)*(q:Rat)*(t.2.2.1:Rat)):=by grind
 rw[<-gI,<-gI,<-gI,<-gI] at a;exact Rat.intCast_inj.mp a)
def zu:Ct:=λds A R _=>∃ms:List M,ds=[.tup (ms.map enc)]/\ms.length<=6/\(∀m∈ms,One m)/\∀A' q,Gr A A'->A'[q]?=some (.lst ((fL ms).map qo))->A.length<=q->R (.ref q) A'
def Du:Ct:=λds A R _=>∃(ms:List M) (s:Str),ds=[.tup (ms.map enc),.str s]/\ms.length<=6/\(∀m∈ms,One m)/\s∈N6/\∀ks A' q,Kn (fL ms) s ks->mz (fL ms) ks->Gr A A'->A'[q]?=some (.dct (fR ks))->R (.ref q) A'
def Dj:Ct:=λds A R _=>∃ms:List M,ds=[.tup (ms.map enc)]/\ms.length<=6/\(∀m∈ms,One m)/\∀b A',(b=true↔∃w,Cw (fL ms) w)->Gr A A'->R (.bl b) A'
theorem R5{ks:fO}{n:Str}{p q:Int}(h:n∉di ks):b5 (fR ks) (Sum.inr n) (.tup [.int p,.int q])=fR (ks++[(n,p,q)]):=by
 rw[Bu λx a z=>?_]
 .simp[fR]
 .obtain⟨y,b,rfl⟩:=aJ.mp a
  exact h (by rw[<-Sum.inr.inj z];exact cQ b)
theorem vP(ks:fO)(n:Str):(bw (fR ks) (Sum.inr n)).isSome=decide (n∈di ks):=sF (R4 ks)
theorem zM{α:Type}{k:Option Nat}{fr:bO}{tt:ff}{te:aP}{d:Ar->Prop}{R:List D->Ar->Prop}(g:α->D)(p:α->Bool)(f:α->D):∀(xs:List α) (ys:List D) (A:Ar),(∀a,Gr A a->d a)->(∀x∈xs,∀a,Gr A a->∃vs,ni k (g x)=some vs/\(∀Q:Bool->Ar->Prop,(∀b,Gr a b->Q (p x) b)->tt (vs.map some++fr) a Q)/\(p x=true->∀b,Gr a b->∀Q:DK,(∀e,Gr b e->Q (f x) e)->te (vs.map some++fr) b Q))->ys.length+xs.length<=sizeLine->(∀a,Gr A a->R (ys++(xs.filter p).map f) a)->jV d k fr tt te R (xs.map g) ys A
 |[],ys,A,hc,_,_,h=>⟨hc A Gr.refl,by simpa using h A Gr.refl⟩
 |x::xs,ys,A,hc,i,n,h=>by
  obtain⟨vs,o,q,r⟩:=i x (aU ..) A Gr.refl;refine⟨hc A Gr.refl,?_⟩;rw[o];simp at n;refine q _ λb c=>?_;cases j:p x with
  |true=>
   rw[yH j] at h;exact r j b c _ λe l=>⟨by omega,zM g p f xs (ys++[f x]) e (λa z=>hc a ((c.trans l).trans z)) (λy m a z=>i y (bq _ m) a ((c.trans l).trans z)) (by simp;omega) λa z=>by simpa using h a ((c.trans l).trans z)⟩
  |false=>
   rw[yG (by simp[j])] at h;exact zM g p f xs ys b (λa z=>hc a (c.trans z)) (λy m a z=>i y (bq _ m) a (c.trans z)) (by omega) λa z=>h a (c.trans z)
theorem mK{i j:Int}(h1:1<=j)(h2:j<=531441):qV i j:=.inr ⟨by omega,by omega⟩
end DP
namespace My
open L2 DP MA
theorem PK(T:TopD K mg "_law_ties" Jm sP):aj P w K mg base 1 "_law_ties" sP (ak mg 1 zu):=by
 refine bH T WH λo p s d nd=>⟨_,(ay (aN (E4 none (own:=["_law_part"]) (frees:=[]) (ix:=[]) rfl (cC (vr 0)) (λc=>(pG 0 (show(["_law_part"]:List Str).Nodup by decide+kernel))) (λc=>(d_ d (dX d (vr 0) ai) bG)) (λc=>(bX (aa (dX d (dX d (vr 0) ai) ai) (aa (dX d (dX d (vr 0) ai) ai) (aa (dX d (vr 0) ai) (aa (dX d (vr 0) ai) af))))))))),λds A R h t=>?_⟩;obtain⟨ms,rfl,u,g,q⟩:=h;have hz:(1000:Nat)<=sizeLine:=by decide
 refine zM enc GL (λm=>qo (KZ m)) ms [] A (λ_ _=>trivial) (λm i j f=>?_) (by simp;omega) (λj f=>?_)
 .refine⟨[enc m],rfl,λQ e=>?_,λk v x Q e=>?_⟩
  .rcases g m i with⟨n,_,rfl⟩|⟨l,r,a,b,rfl,_⟩
   .exact e _ Gr.refl
   .exact e _ Gr.refl
  .rcases g m i with⟨n,_,rfl⟩|⟨l,r,a,b,rfl,_⟩
   .cases k
   .exact⟨show 4<=sizeLine by omega,e _ Gr.refl⟩
 .rw[fN]
  refine q _ _ (f.trans Gr.push) ?_ f.len;rw[aE];unfold fL;rw[bK];rfl
theorem O1(T:TopD K mg "_law_known" Je wG)(l:aj P w K mg base 1 "_law_ties" sP (ak mg 1 zu)):aj P w K mg base 2 "_law_known" wG (ak mg 2 Du):=by
 refine bH T Wz λhr hR hx s nd=>⟨_,(av (dS 2 nd (E5 (vr 1) (bX (aa ai (aa ai af)))))
  (av (dS 3 nd iw)
  (av (z5 dQ (fu (vr 3)) (av (dS 3 nd iw)
  (ay (eH dQ rfl (cC (dL l hr hx (aa (vr 0) af))) (kF rfl (dH (dG 4 nd) (dH (dG 5 nd) (dH (dG 6 nd) (dH (dG 7 nd) kG))))) (av (bJ (PW.pt (pM (xW s (vr 4) (vr 2)) (rZ (ql s (vr 5) (vr 2))))) (av (vz s (vr 2) (vr 5) (bX (aa (fm (dX s (dX s (vr 2) (vr 4)) ai) (vr 7)) (aa (fm (dX s (dX s (vr 2) (vr 4)) ai) (vr 6)) af))) rfl)
  (ay (dS 3 nd iw))) bM)
  (ay (bJ (PW.pt (pM (xW s (vr 5) (vr 2)) (rZ (ql s (vr 4) (vr 2))))) (av (vz s (vr 2) (vr 4) (bX (aa (fm (dX s (dX s (vr 2) (vr 5)) ai) (vr 6)) (aa (fm (dX s (dX s (vr 2) (vr 5)) ai) (vr 7)) af))) rfl)
  (ay (dS 3 nd iw))) bM)))))))
  (ay (aN (vr 2)))))),λds A R h hl=>?_⟩
 obtain⟨ms,s0,rfl,O,hO,hs,q⟩:=h;have hz:(1000:Nat)<=sizeLine:=by decide
 have tok:=KY hO;generalize hL:fL ms=L at*
 refine⟨show 2<=sizeLine by omega,?_⟩;refine⟨λk τ A'=>∃(ks:fO) (c:Bool) (B C E F:Option D),k=14 - 2*ks.length+c.toNat/\τ=[some (.tup (ms.map enc)),some (.str s0),some (.ref A.length),some (.bl c),B,C,E,F]/\Kn L s0 ks/\A'[A.length]?=some (.dct (fR ks))/\Gr A A'/\(c=false->mz L ks),⟨_,[(s0,1,1)],true,none,none,none,none,rfl,rfl,Kn.start hs,aE,Gr.push,λh=>by cases h⟩,?_⟩;rintro k τ A1 ⟨ks,c,B,C,E,F,rfl,rfl,Y,hd,g1,hc⟩;cases c with
 |false=>exact q ks A1 _ Y (hc rfl) g1 hd
 |true=>
  have l6:=Y.len;refine⟨λτ A'=>∃(f:fO) (c:Bool) (B C E F:Option D),τ=[some (.tup (ms.map enc)),some (.str s0),some (.ref A.length),some (.bl c),B,C,E,F]/\Kn L s0 f/\A'[A.length]?=some (.dct (fR f))/\Gr A A'/\(c=false->f=ks/\mz L f)/\(c=true->ks.length<f.length),?_,?_⟩
  .rintro bB A' ⟨f,c,B,C,E,F,h1,h2,Z,h4,W,O⟩
   refine⟨_,?_,f,c,B,C,E,F,rfl,h1,h2,Z,h4,λh=>(W h).2⟩;have:=h2.len;cases c with
   |true=>
    have:=O rfl;show 14 - 2*f.length+1<14 - 2*ks.length+1;omega
   |false=>
    rw[(W rfl).1];show 14 - 2*ks.length+0<14 - 2*ks.length+1;omega
  refine⟨rfl,ms,rfl,O,hO,λA2 q2 g2 h2 l2=>?_⟩;rw[hL] at h2;refine d8 h2 ?_;have hd2:=g2.get hd;have nq:A.length≠q2:=λz=>by rw[<-z,hd2] at h2;cases h2
  refine eG (λrest τ A'=>∃(dn i:List fj) (f:fO) (c:Bool) (B C E F:Option D),rest=i.map qo/\dn++i=L/\τ=[some (.tup (ms.map enc)),some (.str s0),some (.ref A.length),some (.bl c),B,C,E,F]/\Kn L s0 f/\A'[A.length]?=some (.dct (fR f))/\A'[q2]?=some (.lst (L.map qo))/\Gr A A'/\ks.length<=f.length/\(c=false->f=ks/\mz dn f)/\(c=true->ks.length<f.length)) ?_ ?_ ?_ _ _ _ ⟨[],L,ks,false,B,C,E,F,rfl,rfl,rfl,Y,hd2,h2,g1.trans g2,aF _,λ_=>⟨rfl,λt H=>by cases H⟩,λh=>by cases h⟩
  .rintro rest τ A' ⟨_,_,_,_,_,_,_,_,_,_,_,_,_,h,_⟩
   exact h
  .rintro v rest τ Q ⟨dn,i,f,c,y4,y5,y6,y7,e,r,rfl,j,g,I,X,hle,G,J⟩ Nx hN
   cases i with
   |nil=>cases e
   |cons t i=>
   cases e;have H:t∈L:=by rw[<-r];simp
   have y:=tok t H;have N:=λx=>vP f x;have ZW:=j.len;have S:(fR f).length<sizeLine:=by
    have:(fR f).length=f.length:=by simp[fR]
    omega
   have new:∀(n m:Str) (p q u d:Int) (bB:bO),(m,p,q)∈f->n∉di f->n∈N6->(1<=u/\u<=9)->(1<=d/\d<=9)->(∀w,Cw L w->w m*(d:Rat)=w n*(u:Rat))->TA L m n->bB=[some (.tup (ms.map enc)),some (.str s0),some (.ref A.length),some (.bl true),some (.str t.1),some (.str t.2.1),some (.int t.2.2.1),some (.int t.2.2.2)]->Kn L s0 (f++[(n,p*d,q*u)])/\(Q.set A.length (.dct (b5 (fR f) (Sum.inr n) (.tup [.int (p*d),.int (q*u)]))))[A.length]?=some (.dct (fR (f++[(n,p*d,q*u)])))/\Nx bB (Q.set A.length (.dct (b5 (fR f) (Sum.inr n) (.tup [.int (p*d),.int (q*u)])))):=λn m p q u d bB h1 h2 Z h4 W O h7 M=>by
    have k1:=j.add h1 h2 Z h4 W O h7;have k2:(Q.set A.length (.dct (b5 (fR f) (Sum.inr n) (.tup [.int (p*d),.int (q*u)]))))[A.length]?=some (.dct (fR (f++[(n,p*d,q*u)]))):=by
     rw[R5 h2];exact eB (cz g)
    refine⟨k1,k2,hN _ _ ⟨dn++[t],i,_,true,_,_,_,_,rfl,by simpa using r,M,k1,k2,?_,X.set (aF _),(by simp;omega),(λh=>by cases h),(λ_=>by simp;omega)⟩⟩;rw[eF nq];exact I
   have keep:(t.1∈di f↔t.2.1∈di f)->∀bB,bB=[some (.tup (ms.map enc)),some (.str s0),some (.ref A.length),some (.bl c),some (.str t.1),some (.str t.2.1),some (.int t.2.2.1),some (.int t.2.2.2)]->Nx bB Q:=λU bB M=>
    hN _ _ ⟨dn++[t],i,f,c,_,_,_,_,rfl,by simpa using r,M,j,g,I,X,hle,λh=>⟨(G h).1,λt' ht'=>by
     rcases bU.mp ht' with h'|h'
     .exact(G h).2 t' h'
     .rw[bE.mp h']
      exact U⟩,J⟩
   refine⟨rfl,iL g rfl ?_⟩;rw[ao bV,N];refine cD (λa=>?_) (λa=>?_)
   .refine iL g rfl ?_
    rw[aA rfl,N];refine cN (λb=>?_) (λb=>?_)
    .obtain⟨p,V,o⟩:=n_ a
     have sm:=j.small o;obtain⟨k1,k2,k3⟩:=new t.2.1 t.1 p V t.2.2.1 t.2.2.2 _ o b y.b y.up y.dn (λw hw=>hw.eq t H) ⟨t,H,.inl ⟨rfl,rfl⟩⟩ rfl;refine fH g rfl (jZ j.nd o) ⟨mK y.dn.1 (by have:=y.dn.2;omega),?_⟩;refine fH g rfl (jZ j.nd o) ⟨mK y.up.1 (by have:=y.up.2;omega),show 2<=sizeLine by omega,?_⟩;refine xJ g rfl S ?_;refine iL k2 rfl ?_;rw[ao bV,vP];have m1:t.2.1∈di (f++[(t.2.1,p*t.2.2.2,V*t.2.2.1)]):=by simp[di]
     have m2:t.1∈di (f++[(t.2.1,p*t.2.2.2,V*t.2.2.1)]):=by
      unfold di at a ⊢;rw[dJ];exact oK _ a
     refine cD (λ_=>?_) (λz=>absurd m1 z);refine iL k2 rfl ?_;rw[aA rfl,vP];exact cN (λz=>absurd m2 z) (λ_=>k3)
    .refine iL g rfl ?_
     rw[ao bV,N];refine cD (λ_=>?_) (λz=>absurd b z);refine iL g rfl ?_;rw[aA rfl,N];exact cN (λz=>absurd a z) (λ_=>keep ⟨λ_=>b,λ_=>a⟩ _ rfl)
   .refine iL g rfl ?_
    rw[ao bV,N];refine cD (λb=>?_) (λb=>?_)
    .refine iL g rfl ?_
     rw[aA rfl,N];refine cN (λ_=>?_) (λz=>absurd z a);obtain⟨p,V,o⟩:=n_ b;have sm:=j.small o;obtain⟨k1,k2,k3⟩:=new t.1 t.2.1 p V t.2.2.2 t.2.2.1 _ o a y.a y.dn y.up (λw hw=>(hw.eq t H).symm) ⟨t,H,.inr ⟨rfl,rfl⟩⟩ rfl;refine fH g rfl (jZ j.nd o) ⟨mK y.up.1 (by have:=y.up.2;omega),?_⟩;refine fH g rfl (jZ j.nd o) ⟨mK y.dn.1 (by have:=y.dn.2;omega),show 2<=sizeLine by omega,?_⟩;exact xJ g rfl S k3
    .exact keep ⟨λz=>absurd z a,λz=>absurd z b⟩ _ rfl
  .rintro τ Q ⟨dn,i,f,c,y4,y5,y6,y7,e,r,rfl,j,g,I,X,hle,G,J⟩
   cases i with
   |cons _ _=>cases e
   |nil=>
    have r:dn=L:=by simpa using r
    subst r;exact⟨f,c,y4,y5,y6,y7,rfl,j,g,X,G,J⟩
theorem OP(T:TopD K mg "_law_free" Jb wC)(k:aj P w K mg base 1 "_law_ties" sP (ak mg 1 zu))(m:aj P w K mg base 2 "_law_known" wG (ak mg 2 Du)):aj P w K mg base 3 "_law_free" wC (ak mg 1 Dj):=by
 refine bH T Ww λQ hR S G nd=>⟨_,(av (eH dQ rfl (cC (dL k Q S (aa (vr 0) af))) (kF rfl (dH (dG 1 nd) (dH (dG 2 nd) (dH (dG 3 nd) (dH (dG 4 nd) kG))))) (av (dS 5 nd (dL m Q S (aa (vr 0) (aa (vr 1) af))))
  (ay (eH dQ rfl (cC (dL k Q S (aa (vr 0) af))) (kF rfl (dH (dG 6 nd) (dH (dG 7 nd) (dH (dG 8 nd) (dH (dG 9 nd) kG))))) (ay (bJ (xW G (vr 6) (vr 5)) (av (vv (i:=10) (j:=11) rfl nd rfl rfl (by decide) rfl rfl (aa (dX G (vr 5) (vr 6)) (aa (dX G (vr 5) (vr 7)) af)) rfl)
  (ay (bJ (j7 G (fm (fm (dX G (vr 10) ai) (dX G (vr 11) ai)) (vr 9)) (fm (fm (dX G (vr 11) ai) (dX G (vr 10) ai)) (vr 8))) (ay (aN iw)) bM))) bM))))))
  (ay (aN iw))),λds A R h hl=>?_⟩
 obtain⟨ms,rfl,U,M,q⟩:=h;have hz:(1000:Nat)<=sizeLine:=by decide
 have tok:=KY M;refine⟨rfl,ms,rfl,U,M,λA1 q1 g1 h1 l1=>?_⟩;refine d8 h1 ?_;refine eG (λrest τ A'=>∃(dn l:List fj) (V W X Y Z y z B C n o:Option D),rest=l.map qo/\dn++l=fL ms/\τ=[some (.tup (ms.map enc)),V,W,X,Y,Z,y,z,B,C,n,o]/\(∀t∈dn,∃ks,Kn (fL ms) t.1 ks/\mz (fL ms) ks/\q_ (fL ms) ks)/\Gr A1 A') ?_ ?_ ?_ _ _ _ ⟨[],fL ms,none,none,none,none,none,none,none,none,none,none,none,rfl,rfl,rfl,λ_ h=>(by cases h),Gr.refl⟩
 .rintro rest τ A' ⟨_,_,_,_,_,_,_,_,_,_,_,_,_,_,_,_,_,g⟩
  exact g.get h1
 .rintro v rest τ A2 ⟨dn,l,V,W,X,Y,Z,y,z,B,C,n,o,e,u,rfl,H,g2⟩ Nx hN
  cases l with
  |nil=>cases e
  |cons t0 l=>
  cases e;have ht0:t0∈fL ms:=by rw[<-u];simp
  refine⟨rfl,rfl,ms,t0.1,rfl,U,M,(tok t0 ht0).a,λks A3 q3 E hC g3 hd=>?_⟩;refine⟨rfl,ms,rfl,U,M,λA4 q4 g4 h4 l4=>?_⟩;have I:=g4.get hd;refine d8 h4 ?_;have L:=(g2.trans g3).trans g4;refine eG (λrest τ A'=>∃(x d:List fj) (y z B C n o:Option D),rest=d.map qo/\x++d=fL ms/\τ=[some (.tup (ms.map enc)),some (.str t0.1),some (.str t0.2.1),some (.int t0.2.2.1),some (.int t0.2.2.2),some (.ref q3),y,z,B,C,n,o]/\q_ x ks/\A'=A4) ?_ ?_ ?_ _ _ _ ⟨[],fL ms,y,z,B,C,n,o,rfl,rfl,rfl,λ_ h=>(by cases h),rfl⟩
  .rintro rest τ A' ⟨_,_,_,_,_,_,_,_,_,_,_,_,rfl⟩
   exact h4
  .rintro v rest τ A' ⟨x,d,y6,y7,y8,y9,Ze,Zf,e,r,rfl,hG,rfl⟩ LX Qu
   cases d with
   |nil=>cases e
   |cons t d=>
   cases e;have ht:t∈fL ms:=by rw[<-r];simp
   have N:=tok t ht;have next:∀(y z B C n o:Option D) (bB:bO),(∀p q p' O,(t.1,p,q)∈ks->(t.2.1,p',O)∈ks->p*O*t.2.2.2=p'*q*t.2.2.1)->bB=[some (.tup (ms.map enc)),some (.str t0.1),some (.str t0.2.1),some (.int t0.2.2.1),some (.int t0.2.2.2),some (.ref q3),y,z,B,C,n,o]->LX bB A':=λy z B C n o bB hg sr=>
    Qu _ _ ⟨x++[t],d,y,z,B,C,n,o,rfl,by simpa using r,sr,λt' J=>by
     rcases bU.mp J with h'|h'
     .exact hG t' h'
     .rw[bE.mp h']
      exact hg,rfl⟩
   refine⟨rfl,iL I rfl ?_⟩;rw[ao bV,vP];refine cD (λa=>?_) (λa=>?_)
   .have b:=(hC t ht).mp a
    obtain⟨p,O,F⟩:=n_ a;obtain⟨p2,q2,s⟩:=n_ b;have s1:=E.small F;have s2:=E.small s;refine fH I rfl (jZ E.nd F) ?_;refine fH I rfl (jZ E.nd s) ?_;refine⟨mK s2.2.1 s2.2.2,mK N.dn.1 (by have:=N.dn.2;omega),mK s1.2.1 s1.2.2,mK N.up.1 (by have:=N.up.2;omega),?_⟩;refine cN (λc=>?_) (λc=>?_)
    .exact q false _ ⟨λh=>(by cases h),λh=>absurd h (Tq E ht F s c)⟩ (g1.trans L)
    .refine next _ _ _ _ _ _ _ (λp' Z7 p2' Z8 k1 k2=>?_) rfl
     have e1:=jZ E.nd k1;rw[jZ E.nd F] at e1;have e2:=jZ E.nd k2;rw[jZ E.nd s] at e2;cases e1;cases e2;exact c
   .refine next _ _ _ _ _ _ _ (λp O p2 q2 k1 k2=>absurd (cQ (f:=(·.1)) k1) a) rfl
  .rintro τ A' ⟨x,d,y6,y7,y8,y9,Ze,Zf,e,r,rfl,hG,rfl⟩
   cases d with
   |cons _ _=>cases e
   |nil=>
    have r:x=fL ms:=by simpa using r
    subst r;exact hN _ _ ⟨dn++[t0],l,_,_,_,_,_,_,_,_,_,_,_,rfl,by simpa using u,rfl,λt' J=>by
     rcases bU.mp J with h'|h'
     .exact H t' h'
     .rw[bE.mp h']
      exact⟨ks,E,hC,hG⟩,L⟩
 .rintro τ A2 ⟨dn,l,V,W,X,Y,Z,y,z,B,C,n,o,e,u,rfl,H,g2⟩
  cases l with
  |cons _ _=>cases e
  |nil=>
   have u:dn=fL ms:=by simpa using u
   subst u;exact q true _ ⟨λ_=>cw_of H,λ_=>rfl⟩ (g1.trans g2)
end My
namespace DP
open L2 MA
theorem jE{m:M}(h:One m):Hl m:=by
 rcases h with⟨n,i,rfl⟩|⟨l,r,a,b,rfl,f,g,j,k,c⟩
 .refine⟨⟨trivial,λx d=>?_⟩,by decide+revert,rfl⟩
  rw[show x=n by simpa[aV.names] using d];exact kR n i
 .refine⟨⟨⟨f.1,f.2,g.1,g.2,trivial,trivial⟩,λx d=>?_⟩,show max 0 0+1<=5 by decide,?_⟩
  .have:x=a\/x=b:=by simpa[aV.names] using d
   rcases this with rfl|rfl
   .exact kR _ j
   .exact kR _ k
  .have e:bF (.bS l r (.wt a) (.wt b)) "" 1=[(""++("l":Str),a,1*((r:Rat)/((l+r:Int):Rat))),(""++("r":Str),b,1*((l:Rat)/((l+r:Int):Rat)))]:=rfl
   rw[e];simp[cR,c]
theorem xQ{l r:Int}{a b:Str}(c:a≠b):shr (.bS l r (.wt a) (.wt b)) a=(r:Rat)/((l+r:Int):Rat)/\shr (.bS l r (.wt a) (.wt b)) b=(l:Rat)/((l+r:Int):Rat):=by
 have e:bF (.bS l r (.wt a) (.wt b)) "" 1=[(""++("l":Str),a,1*((r:Rat)/((l+r:Int):Rat))),(""++("r":Str),b,1*((l:Rat)/((l+r:Int):Rat)))]:=rfl;unfold shr;rw[e];constructor
 .simp[oZ]
 .simp[c,oZ]
theorem lJ{ms:List M}(j:ms.length<=6)(h:∀m∈ms,One m):eT (ms.map aQ) N6:=by
 refine⟨by rw[aM];omega,λT d=>?_,by decide,λT d n e=>?_⟩
 .obtain⟨m,c,rfl⟩:=aJ.mp d
  exact(kY (jE (h m c))).1
 .obtain⟨m,c,rfl⟩:=aJ.mp d
  have:=((kY (jE (h m c))).2.1 n).mp e;rcases h m c with⟨k,f,rfl⟩|⟨l,r,a,b,rfl,_,_,g,i,_⟩
  .rw[show n=k by simpa[aV.names] using this]
   exact f
  .have:n=a\/n=b:=by simpa[aV.names] using this
   rcases this with rfl|rfl
   .exact g
   .exact i
theorem P4{ms:List M}(D:ms.length<=6)(h:∀m∈ms,One m):(∃w,Cw (fL ms) w)↔iA (ms.map aQ)=none:=by
 have hok:=lJ D h;have key:∀w:Str->Rat,Cs (ms.map aQ) w↔Cw (fL ms) w:=λw=>by
  constructor
  .intro c
   refine⟨c.pos,λt p=>?_⟩;obtain⟨m,d,rfl⟩:=aJ.mp p;obtain⟨d,E⟩:=lY.mp d;have g:=kY (jE (h m d));have i:=cQ (f:=aQ) d;rcases h m d with⟨n,_,rfl⟩|⟨l,r,a,b,rfl,F,q,G,H,j⟩
   .cases E
   .have u:=(g.2.1 a).mpr (by simp[aV.names])
    have v:=(g.2.1 b).mpr (by simp[aV.names]);have e:=c.eq _ i a u b v;rw[g.2.2 a u,g.2.2 b v,(xQ j).1,(xQ j).2] at e;show w a*(l:Rat)=w b*(r:Rat);have I:=ie (show(l+r:Int)≠0 by omega);grind
  .intro c
   refine⟨c.pos,λT s x z y A=>?_⟩;obtain⟨m,d,rfl⟩:=aJ.mp s;have g:=kY (jE (h m d));have k:=(g.2.1 x).mp z;have o:=(g.2.1 y).mp A;rw[g.2.2 x z,g.2.2 y A];rcases h m d with⟨n,_,rfl⟩|⟨l,r,a,b,rfl,F,q,G,H,j⟩
   .rw[show x=n by simpa[aV.names] using k,show y=n by simpa[aV.names] using o]
   .have p:(a,b,r,l)∈fL ms:=aJ.mpr ⟨_,lY.mpr ⟨d,rfl⟩,rfl⟩
    have e:w a*(l:Rat)=w b*(r:Rat):=c.eq _ p;have I:=ie (show(l+r:Int)≠0 by omega);have k:x=a\/x=b:=by simpa[aV.names] using k
    have o:y=a\/y=b:=by simpa[aV.names] using o
    obtain⟨B,C⟩:=xQ (l:=l) (r:=r) j;rcases k with rfl|rfl<;>rcases o with rfl|rfl
    .rfl
    .rw[B,C]
     grind
    .rw[B,C]
     grind
    .rfl
 constructor
 .rintro ⟨w,c⟩
  exact V7 hok ((key w).mpr c)
 .intro e
  obtain⟨w,c⟩:=TY hok e;exact⟨w,(key w).mp c⟩
theorem pV{ms:List M}(h1:1<=ms.length)(a:ms.length<=6)(h:∀m∈ms,One m):iF (.tup (ms.map enc)) ms:=⟨rfl,h1,a,λm b=>jE (h m b)⟩
theorem Az{ms a:List M}(h:iF (.tup (ms.map enc)) a):a=ms:=(FE (D.tup.inj h.1)).symm
section
open Classical
abbrev RM(ms:List M)(a b:Str):Prop:=iG (ms.map aQ) a b
theorem DZ{ms:List M}(h:∀m∈ms,One m){a b:Str}:mw (ms.map aQ) a b↔∃m∈ms,a∈m.names/\b∈m.names:=by
 constructor
 .rintro ⟨T,d,h1,h2⟩
  obtain⟨m,c,rfl⟩:=aJ.mp d;have k:=(kY (jE (h m c))).2.1;exact⟨m,c,(k a).mp h1,(k b).mp h2⟩
 .rintro ⟨m,c,h1,h2⟩
  have k:=(kY (jE (h m c))).2.1;exact⟨_,cQ c,(k a).mpr h1,(k b).mpr h2⟩
end
section
open Classical
theorem KD(a:Str):¬strLt a a:=λh=>kg _ (show a.cps.toList<a.cps.toList from h)
theorem qj{a b:Str}(h:strLt a b):¬strLt b a:=λk=>kg _ (uy (show a.cps.toList<b.cps.toList from h) (show b.cps.toList<a.cps.toList from k))
theorem up_eq{α:Type}{r:α->α->Prop}(as:∀a b,r a b->¬r b a):∀{xs ys:List α},xs.Pairwise r->ys.Pairwise r->(∀x,x∈xs↔x∈ys)->xs=ys
 |[],[],_,_,_=>rfl
 |[],y::ys,_,_,h=>by have:=(h y).mpr (aU ..);cases this
 |x::xs,[],_,_,h=>by have:=(h x).mp (aU ..);cases this
 |x::xs,y::ys,g,i,h=>by
  obtain⟨d,j⟩:=gZ.mp g;obtain⟨f,l⟩:=gZ.mp i;have e:x=y:=by
   rcases aY.mp ((h x).mp (aU ..)) with e|m1
   .exact e
   rcases aY.mp ((h y).mpr (aU ..)) with e|m2
   .exact e.symm
   exact absurd (d y m2) (as _ _ (f x m1))
  subst e;have c:∀z,¬r z z:=λz k=>as _ _ k k;rw[up_eq as j l λz=>⟨λhz=>?_,λhz=>?_⟩]
  .rcases aY.mp ((h z).mp (bq _ hz)) with rfl|k
   .exact absurd (d _ hz) (c _)
   .exact k
  .rcases aY.mp ((h z).mpr (bq _ hz)) with rfl|k
   .exact absurd (f _ hz) (c _)
   .exact k
theorem tZ{xs:List Str}(h:xs.Pairwise strLt):xs.Nodup:=Pairwise.imp (S:=λa b:Str=>a≠b) (λ {a b} c (z:a=b)=>KD b (by rw[z] at c;exact c)) h
theorem names6{m:M}(h:One m):∀n∈m.names,n∈N6:=λn c=>by
 rcases h with⟨k,d,rfl⟩|⟨l,r,a,b,rfl,_,_,e,f,_⟩
 .rw[show n=k by simpa[aV.names] using c]
  exact d
 .have:n=a\/n=b:=by simpa[aV.names] using c
  rcases this with rfl|rfl<;>assumption
end
theorem XQ{ms:List M}(h:∀m∈ms,One m){s:bC}(t:d7 (ms.map aQ) s):∃p q:Int,(1<=p/\p<=9)/\(1<=q/\q<=9)/\cA (ms.map aQ) s=(p:Rat)/(q:Rat):=by
 obtain⟨T,h1,h2,f⟩:=t;have d:=cU h1;unfold cA;rw[kU h1,kU h1];obtain⟨m,g,rfl⟩:=aJ.mp d;have c:=kY (jE (h m g));have f2:=jc (kW c.1 h2).pos;have a:=(c.2.1 _).mp h2;have b:=(c.2.1 _).mp f;have same:s.2.1=s.2.2->∃p q:Int,(1<=p/\p<=9)/\(1<=q/\q<=9)/\cT (aQ m) s.2.2/cT (aQ m) s.2.1=(p:Rat)/(q:Rat):=λe=>by
  refine⟨1,1,⟨by decide,by decide⟩,⟨by decide,by decide⟩,?_⟩;have:((1:Int):Rat)=1:=rfl;rw[<-e,this];grind
 by_cases e:s.2.1=s.2.2
 .exact same e
 rw[c.2.2 _ h2,c.2.2 _ f];rcases h m g with⟨n,_,rfl⟩|⟨l,r,x,y,rfl,i,j,_,_,u⟩
 .exact absurd ((show s.2.1=n by simpa[aV.names] using a).trans (show s.2.2=n by simpa[aV.names] using b).symm) e
 .obtain⟨k,o⟩:=xQ (l:=l) (r:=r) u
  have z:=ie (show(l+r:Int)≠0 by omega);have v:=ie (show(l:Int)≠0 by omega);have w:=ie (show(r:Int)≠0 by omega);have a:s.2.1=x\/s.2.1=y:=by simpa[aV.names] using a
  have b:s.2.2=x\/s.2.2=y:=by simpa[aV.names] using b
  rcases a with a|a<;>rcases b with b|b
  .exact absurd (a.trans b.symm) e
  .refine⟨l,r,i,j,?_⟩
   rw[a,b,k,o];grind
  .refine⟨r,l,j,i,?_⟩
   rw[a,b,k,o];grind
  .exact absurd (a.trans b.symm) e
theorem EH{ms:List M}(h:∀m∈ms,One m):∀(ss:List bC) (x:Rat) (k:Nat),(∀s∈ss,d7 (ms.map aQ) s)->0<x->(rf x).1<=(9:Int) ^ k->(rf x).2<=(9:Int) ^ k->0<ss.foldl (λx s=>x*cA (ms.map aQ) s) x/\(rf (ss.foldl (λx s=>x*cA (ms.map aQ) s) x)).1<=(9:Int) ^ (k+ss.length)/\(rf (ss.foldl (λx s=>x*cA (ms.map aQ) s) x)).2<=(9:Int) ^ (k+ss.length)
 |[],x,k,_,h1,h2,c=>⟨h1,h2,c⟩
 |s::ss,x,k,d,h1,h2,c=>by
  obtain⟨p,q,v,w,e⟩:=XQ h (d s (aU ..));have pos:0<cA (ms.map aQ) s:=by
   rw[e,mj];have i:(0:Rat)<(p:Rat):=by
    have:((0:Int):Rat)<(p:Rat):=yI.mpr (by omega);simpa using this
   have j:(0:Rat)<(q:Rat):=by
    have:((0:Int):Rat)<(q:Rat):=yI.mpr (by omega);simpa using this
   exact nC i (uz.mpr j)
  obtain⟨l,n⟩:=tG (a:=p) (b:=q) (by omega) (by omega);rw[<-e] at l n;have z:(0:Int)<=9 ^ k:=pow_nonneg (by decide);have o:=eL h1;have xd:=cX x;have f:=eL pos;have g:=cX (cA (ms.map aQ) s);obtain⟨r,t⟩:=tG (a:=(rf x).1*(rf (cA (ms.map aQ) s)).1) (b:=(rf x).2*(rf (cA (ms.map aQ) s)).2) (gj o f) (gj xd g);rw[IP] at r t;have A:(rf x).1*(rf (cA (ms.map aQ) s)).1<=9 ^ k*9:=eE h2 (by omega) (eZ f) z;have B:(rf x).2*(rf (cA (ms.map aQ) s)).2<=9 ^ k*9:=eE c (by omega) (eZ g) z;have:=EH h ss (x*cA (ms.map aQ) s) (k+1) (λy u=>d y (bq _ u)) (nC h1 pos) (by rw[kc];omega) (by rw[kc];omega);rw[h_,gi,show k+(ss.length+1)=k+1+ss.length by omega];exact this
theorem Aw{ms:List M}(h:∀m∈ms,One m)(d:ms.length<=6):∀P∈br (ms.map aQ),∀n∈aD P,gP (dI (ms.map aQ) P n):=λP e n f=>by
 have hok:=lJ d h;obtain⟨b,c,_,rfl⟩:=i8 hok e;have a:=(gW hok c).1;have pm:=kM f;have pl:=a.pl _ pm;have pn:=a.len;have i:N6.length=6:=rfl;obtain⟨k1,k2,k3⟩:=EH h (cM (aO (ms.map aQ) b) n) 1 0 (λs g=>xF _ pm s g) (by decide) (by rw[BE];decide) (by rw[BE];decide);have j:(cM (aO (ms.map aQ) b) n).length<=6:=by
  simp at pl;omega
 have:=p9 (k:=0+(cM (aO (ms.map aQ) b) n).length) (by omega);exact⟨k1,by show(rf (dF _ _)).1<=_;unfold dF;omega,by show(rf (dF _ _)).2<=_;unfold dF;omega⟩
def jP(ms:List M)(n:Str):Prop:=∃m∈ms,n∈m.names
theorem Qj{ms:List M}(h:∀m∈ms,One m)(g:ms.length<=6){n:Str}(c:jP ms n):∃b∈N6,aO (ms.map aQ) b∈br (ms.map aQ)/\∀x,x∈aD (aO (ms.map aQ) b)↔RM ms n x:=by
 obtain⟨m,d,c⟩:=c;have hok:=lJ g h;have:=vH hok (cQ d) (((kY (jE (h m d))).2.1 n).mpr c);obtain⟨P,e,i⟩:=gx.mp this;obtain⟨b,a,_,rfl⟩:=i8 hok e;have f:=(qd hok a).mp i;exact⟨b,a,e,λx=>by rw[qd hok a];exact⟨λz=>f.symm.trans z,λz=>f.trans z⟩⟩
theorem Av{ms:List M}(h:∀m∈ms,One m)(e:ms.length<=6){P:aS}(f:P∈br (ms.map aQ)):∃a∈N6,jP ms a/\P=aO (ms.map aQ) a/\∀x,x∈aD P↔RM ms a x:=by
 have hok:=lJ e h;obtain⟨a,b,⟨T,g,c⟩,rfl⟩:=i8 hok f;obtain⟨m,d,rfl⟩:=aJ.mp g;exact⟨a,b,⟨m,d,((kY (jE (h m d))).2.1 a).mp c⟩,rfl,λx=>qd hok b⟩
theorem Ko{ms:List M}(h:∀m∈ms,One m)(f:ms.length<=6)(nm:Str)(k:Int):zw (ms.map aQ) [(nm,k)]:=λP g i c e p d=>by
 by_cases a:nm∈aD P
 .have b:gf [(nm,k)] P=[(nm,k)]:=by simp[gf,a]
  rw[b] at e d;cases e;rw[bE.mp d];have j:=jc (Aw h f P g nm a).pos;unfold gh;show(k:Rat)/dI (ms.map aQ) P nm*dI (ms.map aQ) P nm=(k:Rat);grind
 .have b:gf [(nm,k)] P=[]:=by simp[gf,a]
  rw[b] at e;cases e
structure pA(ns:List Int):Prop where
 ne:ns≠[]
 len:ns.length<=6
 up:ns.Pairwise (·<·)
 no:∀n∈ns,1<=n/\n<=999999
def fV(rs:List (Str×Int))(t:Int):List (Str×Int):=rs.map λr=>(r.1,r.2*t)
def hd0(rs:List (Str×Int)):Int:=match rs with|r::_=>r.2|[]=>0
def ou(rs:List (Str×Int))(ns:List Int)(n:Int):Bool:=decide (hd0 rs*(n/hd0 rs)=n)&&(fV rs (n/hd0 rs)).all λr=>decide (r.2∈ns)
def lF(rs:List (Str×Int))(ns dn:List Int):List (List (Str×Int)):=(dn.filter (ou rs ns)).map λn=>fV rs (n/hd0 rs)
theorem Rg(k:Int):∀ns:List Int,lM (.int k) (ns.map D.int)=decide (k∈ns):=λns=>by
 rw[lX,nF];unfold lM;rw[any_map,jL];constructor
 .rintro ⟨x,a,e⟩
  have:x=k:=gy e;rw[<-this];exact a
 .intro h
  exact⟨k,h,dR rfl⟩
theorem PU:∀ns:List Int,(ns.map D.int).all i7=true:=λns=>by simp[List.all_map,i7,Function.comp_def]
theorem Ih:∀ns:List Int,gc (ns.map D.int)=true
 |[]=>rfl
 |n::ns=>by simp[gc,gn,Ih ns]
theorem GZ:∀ns:List Int,canLayAll0 (bR (ns.map D.int))=true
 |[]=>rfl
 |n::ns=>by simp[bR,toQ,canLayAll0,canLay0,GZ ns]
theorem Ff:∀ns:List Int,depthAll (bR (ns.map D.int))=0
 |[]=>by simp[bR,depthAll]
 |n::ns=>by simp[bR,toQ,depthAll,PyData.depth,Ff ns]
theorem VN{ys ss:List Int}(h1:ys.Pairwise (·<·))(h2:ss.Pairwise (·<·))(a:∀x,x∈ys↔x∈ss):ys=ss:=by
 induction ys generalizing ss with
 |nil=>
  cases ss with
  |nil=>rfl
  |cons s ss=>exact absurd ((a s).mpr (aU ..)) (by simp)
 |cons y ys c=>
  cases ss with
  |nil=>exact absurd ((a y).mp (aU ..)) (by simp)
  |cons s ss=>
   have p1:=gZ.mp h1;have p2:=gZ.mp h2;have e:y=s:=by
    rcases aY.mp ((a y).mp (aU ..)) with e|e
    .exact e
    .rcases aY.mp ((a s).mpr (aU ..)) with e'|e'
     .exact e'.symm
     .have:=p1.1 s e'
      have:=p2.1 y e;omega
   subst e;rw[c p1.2 p2.2 λx=>?_];constructor
   .intro b
    rcases aY.mp ((a x).mp (bq _ b)) with e|e
    .have:=p1.1 x b
     omega
    .exact e
   .intro b
    rcases aY.mp ((a x).mpr (bq _ b)) with e|e
    .have:=p2.1 x b
     omega
    .exact e
theorem HC{A:Ar}{p q:Nat}{xs:List D}{R:DK}(h:A[p]?=some (.lst xs))(h':A[q]?=some (.lst xs))(d:gc xs=true)(e:canLayAll0 (bR xs)=true)(hd:depthAll (bR xs)<=60)(k:R (.bl false) A):gR true (.ref p) (.ref q) A R:=by
 unfold gR;have a:cY A (.ref p)=.list (bR xs):=by unfold cY;simp only[h]
 have b:cY A (.ref q)=.list (bR xs):=by unfold cY;simp only[h']
 have c:canLay0 (.list (bR xs))=true:=by simpa[canLay0] using e
 refine⟨?_,?_,?_,?_,?_,?_⟩
 .unfold jd;simp only[h];exact d
 .unfold jd;simp only[h'];exact d
 .rw[a];exact c
 .rw[b];exact c
 .rw[a,b];simp only[PyData.depth];omega
 .rw[a,b,PySem.SeqAt.eqv_refl _ c]
  exact k
theorem SE{m:M}(g:m.arms)(d:m.deep<=5)(h:cR [] (bF m "" 1)=none){ys:List Str}(c:ys.Pairwise strLt)(a:∀x,x∈ys↔x∈m.names):∀k∈lw (ys.map (shr m)),1<=k/\k.natAbs.log2<9000:=by
 have e:∀x∈ys.map (shr m),gP x:=λx b=>by
  obtain⟨y,i,rfl⟩:=aJ.mp b;exact xR g d h ((a y).mp i)
 have j:(ys.map (shr m)).length<=32:=by
  rw[aM];exact cG (pw_len ys m.names c λx b=>(a x).mp b) (jb d)
 intro k f;have h1:=SD (λx b=>(e x b).pos) k f;obtain⟨n,l,rfl⟩:=aJ.mp f;obtain⟨o,n1⟩:=Cg e j l;exact⟨h1,vV (by omega) (e_ (lz _ (by omega)) n1)⟩
theorem Wb{m:M}{ys:List Str}(b:∀x,x∈ys↔x∈m.names):ys.zip (lw (ys.map (shr m)))≠[]:=λz=>by
 have d:(lw (ys.map (shr m))).length=ys.length:=by rw[SA,aM]
 have c:=ck List.length z;rw[List.length_zip,d] at c;have a:=aV.om m;cases e:m.names with
 |nil=>rw[e] at a;simp at a
 |cons n r=>
  have:=(b n).mpr (by rw[e];simp);have h1:=qw this;rw[Nat.min_self] at c;rw[c] at h1;exact absurd h1 (by simp)
def Dh:Ct:=SV λds v=>∃ns,ds=[.tup (ns.map D.int)]/\pA ns/\v=.aG
def Df:Ct:=λds A R _=>∃m ns,ds=[enc m,.tup (ns.map D.int)]/\Wf m/\m.deep<=5/\pA ns/\
 (cR [] (bF m "" 1)=none->∀(A':Ar) (q:Nat) (ys:List Str),Gr A A'->A.length<=q->ys.Pairwise strLt->(∀x,x∈ys↔x∈m.names)->A'[q]? =some (.lst ((lF (ys.zip (lw (ys.map (shr m)))) ns ns).map fy))->R (.ref q) A')/\
 (cR [] (bF m "" 1)≠none->∀(A':Ar) (q:Nat),Gr A A'->A.length<=q->A'[q]? =some (.lst [])->R (.ref q) A')
end DP
namespace My
open L2 DP MA
theorem OL(T:TopD K mg "check_numbers" Jw wR)(f:mg "isinstance"=none)(l:mg "tuple"=none)(n:mg "len"=none)(o:mg "all"=none)(m:mg "list"=none)(j:mg "sorted"=none)(p:mg "set"=none){t1 B:Tok}(e:mg "MOST_NUMBERS"=some (.int 6 t1))(i:mg "HEAVIEST"=some (.int 999999 B)){d:Addr}(a:mg "NoNumber"=some (.ref d))(b:excIn K d j8 "ValueError.__new__"=true)
  (g:aj P w K mg base 1 "is_number" qa (ak mg 3 uP)):aj P w K mg base 2 "check_numbers" wR (ak mg 1 Dh):=by
 refine bH T WR λC s t E nd=>⟨_,(av (bJ (PW.pt (gU (fQ (fu (kE kit_tuple f l kh (vr 0)))) (iJ (fQ (B5 ai (dO iW iu n jk (aa (vr 0) af)) (lG e)))))) (ay (jx s rfl a b (aa bG af))) bM)
  (av (bJ (fQ (fu (dO (uZ rfl) u7 o boot_all (aa (fk none (own:=["number"]) (frees:=[]) (ix:=[]) rfl (cC (vr 0)) (λc=>(pG 0 (show(["number"]:List Str).Nodup by decide+kernel))) (λc=>(dL g C m_ (aa (vr 0) (aa ai (aa (lG i) af)))))) af)))) (ay (jx s rfl a b (aa bG af))) bM)
  (ay (bJ (j7 E (iy Ex EY m boot_list (aa (vr 0) af)) (E8 j p rfl (aa (vr 0) af))) (ay (jx s rfl a b (aa bG af))) bM)))),λds A R h N=>?_⟩
 obtain⟨v,⟨ns,rfl,r,rfl⟩,q⟩:=h;have u:=r.len;have y:0<ns.length:=ye.mpr r.ne;have O:(100:Nat)<=sizeLine:=by decide
 refine cD (λ_=>?_) (λc=>absurd (show(1:Int)<=((ns.map D.int).length:Nat) by rw[aM];omega) c);refine cN (λc=>absurd (show(((ns.map D.int).length:Nat):Int)<=6 by rw[aM];omega) c) (λ_=>?_);refine pI (λ_=>.bl true) _ _ _ (λ_ _=>trivial) (λx t F z=>⟨[x],rfl,λQ G=>?_⟩) (by simp;omega) (λF z=>?_)
 .obtain⟨k,H,rfl⟩:=aJ.mp t
  have:=r.no k H;refine⟨rfl,_,⟨k,1,999999,rfl,rfl⟩,λS I=>?_⟩;rw[show(decide ((1:Int)<=k)&&decide (k<=999999))=true by simp;omega];exact G _ I
 refine uR (bs:=(ns.map D.int).map λ_=>true) aE (nN _ _) ?_;rw[show((ns.map D.int).map λ_=>true).all id=true by simp];refine KA (by omega) λys J L=>?_;have M:=VN J r.up L;subst M;refine HC (getElem?_push aE) aE (Ih _) (GZ _) (by rw[Ff];omega) ?_;exact q _ (((z.trans Gr.push).trans Gr.push).trans Gr.push)
theorem OH(T:TopD K mg "choices" Jz wV)(t:mg "tuple"=none)(G:mg "all"=none)(i:aj P w K mg base 9 "check_mobile" m7 (ak mg 1 pB))(d:aj P w K mg base 2 "check_numbers" wR (ak mg 1 Dh))(H:aj P w K mg base 11 "bar" ow (ak mg 1 rq))(u:aj P w K mg base 12 "least" xg (ak mg 1 Dy)):aj P w K mg base 13 "choices" wV (ak mg 2 Df):=by
 refine bH T WU λF hR B M nd=>⟨_,(av (c_ (dL i F B (aa (vr 0) af)))
  (av (c_ (dL d F B (aa (vr 1) af)))
  (av (bJ (qk (dL H F B (aa (vr 0) af)) jX) (ay (aN (cH af))) bM)
  (av (dS 2 nd (dL u F B (aa (vr 0) af)))
  (av (dS 3 nd (cH af))
  (av (eH dQ rfl (cC (vr 1)) (dG 4 nd) (av (dS 5 nd (pJ (vr 4) (dX M (dX M (vr 2) ai) ai)))
  (av (dS 6 nd (iy rM rV t kh (aa (fk (some 2) (own:=["name","many"]) (frees:=["times"]) (ix:=[5]) rfl (cC (vr 2)) (λc=>(oB rfl (gX (pG 0 (show(["name","many","times"]:List Str).Nodup by decide+kernel)) (gX (pG 1 (show(["name","many","times"]:List Str).Nodup by decide+kernel)) oE)))) (λc=>(bX (aa (vr 0) (aa (fm (vr 1) (vr 2)) af))))) af)))
  (ay (bJ (PW.pt (pM (d_ M (dX M (dX M (vr 6) ai) ai) (vr 4)) (rZ (fu (dO (uZ rfl) u7 G boot_all (aa (fk (some 2) (own:=["name","many"]) (frees:=["numbers"]) (ix:=[1]) rfl (cC (vr 6)) (λc=>(oB rfl (gX (pG 0 (show(["name","many","numbers"]:List Str).Nodup by decide+kernel)) (gX (pG 1 (show(["name","many","numbers"]:List Str).Nodup by decide+kernel)) oE)))) (λc=>(N4 M (vr 1) (vr 2)))) af)))))) (ay (c_ (gS g_ jK jM ja jw (vr 3) (aa (vr 6) af)))) bM)))))
  (ay (aN (vr 3))))))))),λds A R h hl=>?_⟩
 obtain⟨m,ns,rfl,W,hd,Z,N,q2⟩:=h;refine⟨rfl,_,⟨m,rfl,W,hd,rfl⟩,λA1 g1=>?_⟩;refine⟨rfl,_,⟨ns,rfl,Z,rfl⟩,λA2 g2=>?_⟩;refine⟨rfl,m,rfl,W,hd,λA3 g3=>?_⟩;have I:=(g1.trans g2).trans g3;cases X:cR [] (bF m "" 1) with
 |some p=>
  exact⟨bP _,q2 (by rw[X];intro z;cases z) _ _ (I.trans Gr.push) I.len aE⟩
 |none=>
  have N:=N X;refine⟨rfl,m,rfl,W,hd,λA4 g4=>?_⟩;rw[aA X];intro ys J s;have L:=SE W.arms hd X J s;have hne:=Wb (m:=m) s;have O:(ys.zip (lw (ys.map (shr m)))).length<=32:=by
   have:=pw_len ys m.names J λx B=>(s x).mp B;have:=jb hd;simp;omega
  have L:∀r∈ys.zip (lw (ys.map (shr m))),1<=r.2/\r.2.natAbs.log2<9000:=λr F=>L _ (of_mem_zip F).2;have N:=λA' q g l h=>N A' q ys g l J s h;generalize ys.zip (lw (ys.map (shr m)))=rs at*
  have S:=I.trans g4;have hnl:=Z.len;have hs:(100:Nat)<=sizeLine:=by decide
  obtain⟨a,rt,rfl⟩:∃a rt,rs=a::rt:=by
   cases rs with
   |nil=>exact absurd rfl hne
   |cons a rt=>exact⟨a,rt,rfl⟩
  obtain⟨p0,p1⟩:=L a (aU ..);refine⟨bP _,?_⟩;refine eG (λrest τ A'=>∃(dn b:List Int) (x y z:Option D),rest=b.map D.int/\dn++b=ns/\τ=[some (enc m),some (.tup (ns.map D.int)),some (fy (a::rt)),some (.ref A4.length),x,y,z]/\A'[A4.length]?=some (.lst ((lF (a::rt) ns dn).map fy))/\Gr A4 A') ?_ ?_ ?_ _ _ _ ⟨[],ns,none,none,none,rfl,rfl,rfl,aE,Gr.push⟩
  .intros;trivial
  .rintro v rest τ A' ⟨dn,b,x,y,z,e,o,rfl,Y,g⟩ Nx hN
   cases b with
   |nil=>cases e
   |cons n b=>
    cases e;have hnn:=Z.no n (by rw[<-o];simp);have hdl:dn.length<=6:=by
     have:(dn++n::b).length=ns.length:=by rw[o]
     simp at this;omega
    have hv:c6 ((a::rt).map bI) 0=some (bI a):=mH (j:=0) rfl;conv=>whnf
    rw[hv];refine⟨⟨by omega,p1⟩,?_⟩;have t0:0<=n/a.2:=Int.ediv_nonneg (by omega) (by omega);have t1:n/a.2<=999999:=e_ (lz _ (by omega)) hnn.2;have ZH:((a::rt).map bI).length<=32:=by rw[aM];exact O
    refine iY (f:=λx=>match x with|.tup [y,.int k]=>.tup [y,.int (k*(n/a.2))]|x=>x) trivial _ _ (λx B=>?_) (show 0+((a::rt).map bI).length<=sizeLine by omega) ?_
    .obtain⟨r,F,rfl⟩:=aJ.mp B
     exact⟨[.str r.1,.int r.2],rfl,λQ hQ=>⟨.inr ⟨by omega,by omega⟩,show 2<=sizeLine by decide,hQ⟩⟩
    have e1:((a::rt).map bI).map (λx=>match x with|.tup [y,.int k]=>.tup [y,.int (k*(n/a.2))]|x=>x)=(fV (a::rt) (n/a.2)).map bI:=by
     unfold fV;rw[bK,bK];rfl
    rw[fN,e1];refine tV aE ?_;have hv2:c6 ((fV (a::rt) (n/a.2)).map bI) 0=some (bI (a.1,a.2*(n/a.2))):=mH (j:=0) rfl;have key:lF (a::rt) ns (dn++[n])=lF (a::rt) ns dn++(if ou (a::rt) ns n=true then [fV (a::rt) (n/a.2)] else []):=by
     unfold lF;rw[List.filter_append,dJ];congr 1;by_cases c:ou (a::rt) ns n=true
     .rw[aA c,yH c];rfl
     .rw[ao c,yG c];rfl
    have gA:=g.trans (Gr.push (A:=A') (T:=[C.lst ((fV (a::rt) (n/a.2)).map bI)]));have U:=getElem?_push (T:=[C.lst ((fV (a::rt) (n/a.2)).map bI)]) Y;generalize Qn:A'++[C.lst ((fV (a::rt) (n/a.2)).map bI)]=A6 at*
    conv=>whnf
    rw[hv2];refine cD (λc1=>?_) (λc1=>?_)
    .have hl2:((fV (a::rt) (n/a.2)).map bI).length<=32:=by unfold fV;rw[aM,aM];exact O
     refine iY (f:=λx=>match x with|.tup [_,.int k]=>.bl (decide (k∈ns))|x=>x) trivial _ _ (λx B=>?_) (show 0+((fV (a::rt) (n/a.2)).map bI).length<=sizeLine by omega) ?_
     .obtain⟨r,F,rfl⟩:=aJ.mp B
      refine⟨[.str r.1,.int r.2],rfl,λQ hQ=>⟨rfl,PU ns,?_⟩⟩;show Q (.bl (lM (.int r.2) (ns.map D.int))) _;rw[Rg];exact hQ
     have e2:((fV (a::rt) (n/a.2)).map bI).map (λx=>match x with|.tup [_,.int k]=>.bl (decide (k∈ns))|x=>x)=(fV (a::rt) (n/a.2)).map λr=>D.bl (decide (r.2∈ns)):=by
      rw[bK];rfl
     rw[fN,e2];refine uR (bs:=(fV (a::rt) (n/a.2)).map λr=>decide (r.2∈ns)) aE (nN _ _) ?_;rw[List.all_map];have hok:ou (a::rt) ns n=(fV (a::rt) (n/a.2)).all λr=>decide (r.2∈ns):=by
      unfold ou;rw[dR (show hd0 (a::rt)*(n/hd0 (a::rt))=n from c1),Bool.true_and];rfl
     have gB:=gA.trans (Gr.push (A:=A6) (T:=[C.lst ((fV (a::rt) (n/a.2)).map λr=>D.bl (decide (r.2∈ns)))]));have E:=getElem?_push (T:=[C.lst ((fV (a::rt) (n/a.2)).map λr=>D.bl (decide (r.2∈ns)))]) U;generalize ZA:A6++[C.lst ((fV (a::rt) (n/a.2)).map λr=>D.bl (decide (r.2∈ns)))]=A7 at*
     cases V:(fV (a::rt) (n/a.2)).all (id∘λr=>decide (r.2∈ns)) with
     |true=>
      refine⟨gE E,iV E ?_ ?_⟩
      .have:(lF (a::rt) ns dn).length<=dn.length:=by unfold lF;rw[aM];exact CG _ _
       rw[aM];omega
      .refine hN _ _ ⟨dn++[n],b,_,_,_,rfl,by simpa using o,rfl,?_,gB.set (aF _)⟩
       rw[key,aA (hok.trans V),dJ];exact Ao E
     |false=>
      refine hN _ _ ⟨dn++[n],b,_,_,_,rfl,by simpa using o,rfl,?_,gB⟩;rw[key,ao (by rw[hok];exact λz=>absurd (z.symm.trans V) (by decide)),mq];exact E
    .refine hN _ _ ⟨dn++[n],b,_,_,_,rfl,by simpa using o,rfl,?_,gA⟩
     rw[key,ao (by unfold ou;rw[fY (show ¬hd0 (a::rt)*(n/hd0 (a::rt))=n from c1)];simp),mq];exact U
  .rintro τ A' ⟨dn,b,x,y,z,e,o,rfl,Y,g⟩
   cases b with
   |cons n b=>cases e
   |nil=>
    have o:dn=ns:=by simpa using o
    rw[o] at Y;exact N _ _ (S.trans g) S.len Y
end My
namespace DP
open L2 MA
section
open Classical
theorem X4(a b:Str)(h1:strLt a b):¬strLt b a:=λh2=>kg _ (uy h1 h2)
theorem S5:N6.Pairwise strLt:=by
 unfold N6;simp only[gZ,aY,fD,fE,forall_eq_or_imp,forall_eq,Pairwise.nil,and_true,false_imp_iff,implies_true];unfold strLt;decide+kernel
noncomputable def cF(ms:List M)(n:Str):List Str:=N6.filter λx=>decide (RM ms n x)
theorem Mm(ms:List M)(n:Str):(cF ms n).Pairwise strLt:=S5.sublist List.filter_sublist
theorem V_{ms:List M}(h:∀m∈ms,One m){a b:Str}(c:a∈N6)(r:RM ms a b):b∈N6:=by
 induction r with
 |refl=>exact c
 |step _ e _=>
  obtain⟨m,d,_,h2⟩:=(DZ h).mp e;exact names6 (h m d) _ h2
theorem pU{ms:List M}(h:∀m∈ms,One m){n:Str}(a:jP ms n):n∈N6:=by
 obtain⟨m,b,c⟩:=a;exact names6 (h m b) _ c
theorem vX{ms:List M}(h:∀m∈ms,One m){n:Str}(a:n∈N6){x:Str}:x∈cF ms n↔RM ms n x:=by
 unfold cF;rw[lY,nF];exact⟨λz=>z.2,λz=>⟨V_ h a z,z⟩⟩
theorem Ml{ms:List M}{a b:Str}(r:RM ms a b):cF ms a=cF ms b:=by
 unfold cF;refine List.filter_congr λx _=>?_;have:RM ms a x↔RM ms b x:=⟨λz=>r.symm.trans z,λz=>r.trans z⟩;simp only[this]
theorem Xu{ms:List M}(h:∀m∈ms,One m){n:Str}(a:n∈N6):n∈cF ms n:=(vX h a).mpr (.refl _)
theorem GN{ms:List M}(h:∀m∈ms,One m){n:Str}(a:n∈N6){zs:List Str}(b:zs.Pairwise strLt)(c:∀x,x∈zs↔RM ms n x):zs=cF ms n:=
 up_eq X4 b (Mm ms n) λx=>by rw[c,vX h a]
theorem V9{ms:List M}(h:∀m∈ms,One m){a b:Str}(c:jP ms a)(r:RM ms a b):jP ms b:=by
 cases r with
 |refl=>exact c
 |step _ e=>
  obtain⟨m,d,_,h2⟩:=(DZ h).mp e;exact⟨m,d,h2⟩
theorem rK{ms:List M}(h:∀m∈ms,One m)(i:ms.length<=6){es:List (List Str)}(b:lA (ms.map aQ) es)(e:List Str):e∈es↔∃n,jP ms n/\e=cF ms n:=by
 constructor
 .intro a
  obtain⟨P,c,d⟩:=b.Gd e a;obtain⟨j,f,l,_,g⟩:=Av h i c;exact⟨j,l,GN h f (b.qh e a).1 λx=>by rw[d,g]⟩
 .rintro ⟨n,k,rfl⟩
  obtain⟨j,_,c,g⟩:=Qj h i k;obtain⟨e,a,d⟩:=b.all _ c;have:e=cF ms n:=GN h (pU h k) (b.qh e a).1 λx=>by rw[d,g]
  rw[<-this];exact a
abbrev hdS(e:List Str):Str:=e.headD default
theorem QI{e:List Str}(h:e≠[]):hdS e∈e:=by
 cases e with
 |nil=>exact absurd rfl h
 |cons x r=>exact aU
theorem Eu{ms:List M}(h:∀m∈ms,One m){n x:Str}(a:n∈N6)(b:x∈cF ms n):cF ms n=cF ms x:=Ml ((vX h a).mp b)
theorem PV{ms:List M}(h:∀m∈ms,One m)(f:ms.length<=6){es:List (List Str)}(c:lA (ms.map aQ) es):es.flatten.Nodup/\∀x,x∈es.flatten↔jP ms x:=by
 constructor
 .unfold Nodup
  rw[List.pairwise_flatten];refine⟨λe i=>tZ (c.qh e i).1,?_⟩;refine(Pairwise.and_mem.mp c.ord).imp ?_;rintro a b ⟨l,o,k⟩ x d y p z;subst z;obtain⟨n,g,rfl⟩:=(rK h f c a).mp l;obtain⟨n',j,rfl⟩:=(rK h f c b).mp o;have q:=Eu h (pU h g) d;have r:=Eu h (pU h j) p;rw[q,r] at k;exact KD _ k
 .intro x
  rw[List.mem_flatten];constructor
  .rintro ⟨e,i,d⟩
   obtain⟨n,g,rfl⟩:=(rK h f c e).mp i;exact V9 h g ((vX h (pU h g)).mp d)
  .intro d
   exact⟨_,(rK h f c _).mpr ⟨x,d,rfl⟩,Xu h (pU h d)⟩
end
def C9:Ct:=λds A R _=>∃ms:List M,ds=[.tup (ms.map enc)]/\ms.length<=6/\(∀m∈ms,One m)/\∀(A':Ar) (q:Nat) (ys:List Str),Gr A A'->A'[q]?=some (.lst (ys.map D.str))->A.length<=q->ys.Pairwise strLt->(∀x,x∈ys↔jP ms x)->R (.ref q) A'
end DP
namespace My
open L2 DP MA
theorem Ox(T:TopD K mg "_law_all_names" I8 wz)(g:mg "sorted"=none)(i:mg "set"=none)(d:aj P w K mg base 9 "_law_leaves" sO (ak mg 1 (zj 8))):aj P w K mg base 10 "_law_all_names" wz (ak mg 1 C9):=by
 refine bH T Ws λy G j H nd=>⟨_,(av (dS 1 nd (cH af))
  (av (eH dQ rfl (cC (vr 0)) (dG 2 nd) (ay (c_ (gS g_ yo yw v9 u9 (vr 1) (aa (dL d y j (aa (vr 2) af)) af)))))
  (ay (aN (zX g i rfl (aa (vr 1) af)))))),λds A R h I=>?_⟩
 obtain⟨ms,rfl,J,t,q⟩:=h;have hz:(1000:Nat)<=sizeLine:=by decide
 refine⟨bP _,?_⟩;have nl:∀m∈ms,m.names.length<=2:=λm k=>by
  rcases t m k with⟨n,_,rfl⟩|⟨l,r,a,b,rfl,_⟩<;>simp[aV.names]
 have fl:∀ls:List M,(∀m∈ls,m∈ms)->(ls.flatMap aV.names).length<=2*ls.length:=λls=>by
  induction ls with
  |nil=>intro _;simp
  |cons m ls z=>
   intro u;have i1:=z λx j=>u x (bq _ j);have i2:=nl m (u m (aU ..));rw[qS,cJ,gi];omega
 refine eG (λrest τ A'=>∃(dn c:List M) (p:Option D),rest=c.map enc/\dn++c=ms/\τ=[some (.tup (ms.map enc)),some (.ref A.length),p]/\A'[A.length]?=some (.lst ((dn.flatMap aV.names).map D.str))/\Gr A A') ?_ ?_ ?_ _ _ _ ⟨[],ms,none,rfl,rfl,rfl,aE,Gr.push⟩
 .intro _ _ _ _
  trivial
 .rintro v rest τ B ⟨dn,c,p,e,f,rfl,h1,o⟩ L C
  cases c with
  |nil=>cases e
  |cons m c=>
  cases e;have k:m∈ms:=by rw[<-f];simp
  have hd:=(jE (t m k)).deep;refine⟨gE h1,rfl,_,⟨m,rfl,by omega,by omega,rfl⟩,λN O s h2=>?_⟩;have E:=fl dn λx j=>by rw[<-f];simp[j]
  have Q:=nl m k;have S:dn.length<=6:=by
   have:=ck List.length f;simp at this;omega
  refine vD (s.get h1) h2 (by rw[aM,aM];omega) ?_;refine C _ _ ⟨dn++[m],c,_,rfl,by simpa using f,rfl,?_,(o.trans s).set (aF _)⟩;rw[qR,dJ];have:[m].flatMap aV.names=m.names:=by simp
  rw[this];exact eB (cz (s.get h1))
 .rintro τ B ⟨dn,c,p,e,f,rfl,h1,o⟩
  cases c with
  |cons _ _=>cases e
  |nil=>
  have f:dn=ms:=by simpa using f
  subst f;have E:=fl dn λx j=>j;refine BQ (ss:=dn.flatMap aV.names) h1 (by have:=strs_map id (dn.flatMap aV.names);simpa using this) (by omega) λys F k=>?_;refine q _ _ ys (o.trans Gr.push) aE o.len F λx=>?_;rw[k,gx];rfl
end My
namespace DP
open L2 MA
theorem HA{d:List Rat}{x a b:Rat}(g:a∈d)(h:b∈d)(f:a≠b):mZ d x=none:=by
 cases d with
 |nil=>cases g
 |cons c r=>
  unfold mZ;simp only;rw[aA];refine jL.mpr ?_;by_cases e:a=c
  .exact⟨b,h,by simp;exact λz=>f (e.trans z.symm)⟩
  .exact⟨a,g,by simpa using e⟩
theorem len_sub{α:Type}[DecidableEq α]:∀(ys l:List α),ys.Nodup->(∀x∈ys,x∈l)->ys.length<=l.length
 |[],l,_,_=>bP _
 |y::ys,l,h,a=>by
  obtain⟨h1,h2⟩:=iQ.mp h;have:=len_sub ys (l.erase y) h2 λx b=>(uf (λz=>h1 (by rw[<-z];exact b))).mpr (a x (bq _ b));have c:=a y (aU ..);have:=ud c;have:=qw c;simp only[gi];omega
theorem TL{zs ks:List Int}(c:zs.Pairwise (·<·))(a:∀x,x∈zs↔x∈ks)(b:ks≠[])(d:ks.length<=6)(e:∀k∈ks,1<=k/\k<=999999):pA zs:=by
 refine⟨λz=>?_,?_,c,λn f=>e n ((a n).mp f)⟩
 .cases ks with
  |nil=>exact b rfl
  |cons k ks=>
   have:=(a k).mpr (aU ..);rw[z] at this;simp at this
 .exact cG (len_sub zs ks (c.imp λh=>by omega) λx g=>(a x).mp g) d
def DH:Ct:=λds A R _=>∃ns t n,ds=[.fl ns,.ref t]/\Tw t n A/\n+10<=1000000/\∀ks A',pA ks->(∀k∈ks,k<=30)->Dr t A A' n 10->R (.tup (ks.map D.int)) A'
end DP
namespace My
open L2 DP MA
theorem Pc(T:TopD K mg "_law_numbers" Jj wK)(g:mg "tuple"=none)(f:mg "sorted"=none)(m:mg "set"=none)(l:mg "range"=none)(a:aj P w K mg base 3 "_law_draw" kT (ak mg 3 mF))(d:aj P w K mg base 4 "_law_pick" m6 (ak mg 3 nL)):aj P w K mg base 5 "_law_numbers" wK (ak mg 2 DH):=by
 refine bH T WD λr N o O nd=>⟨_,(av (dS 2 nd (dL d r o (aa (vr 0) (aa (vr 1) (aa (cH (aa ai (aa ai (aa ai af)))) af)))))
  (ay (aN (iy rM rV g kh (aa (E8 f m rfl (aa (fk none (own:=["_law_k"]) (frees:=["_law_script","_law_town","_law_wide"]) (ix:=[0,1,2]) rfl (zZ l (aa (c8 ai (dL a r o (aa (vr 0) (aa (vr 1) (aa ai af))))) af)) (λc=>(pG 0 (show(["_law_k","_law_script","_law_town","_law_wide"]:List Str).Nodup by decide+kernel))) (λc=>(c8 ai (dL a r m_ (aa (vr 1) (aa (vr 2) (aa (vr 3) af))))))) af)) af))))),λds A R h S=>?_⟩
 obtain⟨ns,t,n,rfl,B,U,q⟩:=h;obtain⟨E,s,_⟩:=id B;have V:=cz s;have hz:(1000:Nat)<=sizeLine:=by decide
 refine⟨show 3<=sizeLine by decide,rfl,ns,t,_,[.int 4,.int 9,.int 30],n,rfl,by omega,aE,by simp,B.gr Gr.push,by omega,λx F o G t1=>?_⟩;obtain⟨wide,rfl,m0,W⟩:∃k:Int,x=.int k/\1<=k/\k<=30:=by
  simp at o;rcases o with h|h|h<;>exact⟨_,h,by omega,by omega⟩
 have u:cK t A F:=Gr.push.but.trans G;refine⟨rfl,ns,t,6,n+1,rfl,t1,by omega,by omega,λi X Y i1 H I=>?_⟩;refine⟨by omega,by omega,?_⟩;refine pH (λrest ys A'=>∃ks:List Int,ys=ks.map D.int/\(∀k∈ks,1<=k/\k<=30)/\ks.length+rest.length=(1+i).toNat/\cK t A A'/\Tw t (n+2+ks.length) A') ?_ ?_ ?_ ?_ _ _ _ ⟨[],rfl,λ_ h=>(by cases h),by simp[fT],u.trans H,I⟩
 .intro _ _ _ _
  trivial
 .rintro rest ys A' ⟨ks,rfl,_,e,_⟩
  simp;omega
 .rintro x rest ys A' ⟨ks,rfl,p,e,b,t'⟩
  simp at e;refine⟨[x],rfl,λQ J=>?_⟩;refine⟨rfl,ns,t,wide,n+2+ks.length,rfl,t',by omega,by omega,λj Z j0 j1 L t3=>?_⟩;refine J _ _ ⟨ks++[1+j],by simp,λk v=>?_,by simp;omega,b.trans L,by rw[cJ];exact t3⟩;rcases bU.mp v with h|h
  .exact p k h
  .rw[bE.mp h]
   omega
 .rintro ys A' ⟨ks,rfl,p,e,b,t'⟩
  have e:ks.length=(1+i).toNat:=by simpa using e
  have y:ks≠[]:=λz=>by rw[z] at e;simp at e;omega
  refine XU aE (by omega) λzs M C=>?_;refine tV aE (q zs _ (TL M C y (by omega) λk h=>⟨(p k h).1,by have:=(p k h).2;omega⟩) (λk h=>(p k ((C k).mp h)).2) ⟨b.trans (Gr.push.trans Gr.push).but,(t'.gr (Gr.push.trans Gr.push)).mono (by omega)⟩)
end My
namespace DP
open L2 MA
theorem Oi{A:Ar}{p q:Nat}{xs:List D}{R:DK}(h:A[p]?=some (.lst xs))(h':A[q]?=some (.lst xs))(d:gc xs=true)(e:canLayAll0 (bR xs)=true)(hd:depthAll (bR xs)<=60)(k:R (.bl true) A):gR false (.ref p) (.ref q) A R:=by
 unfold gR;have a:cY A (.ref p)=.list (bR xs):=by unfold cY;simp only[h]
 have b:cY A (.ref q)=.list (bR xs):=by unfold cY;simp only[h']
 have c:canLay0 (.list (bR xs))=true:=by simpa[canLay0] using e
 refine⟨?_,?_,?_,?_,?_,?_⟩
 .unfold jd;simp only[h];exact d
 .unfold jd;simp only[h'];exact d
 .rw[a];exact c
 .rw[b];exact c
 .rw[a,b];simp only[PyData.depth];omega
 .rw[a,b,PySem.SeqAt.eqv_refl _ c]
  exact k
def Dk(k:Nat)(d:D):Prop:=gn d=true/\(toQ d).canLay0=true/\(toQ d).depth<=k
theorem vt{k:Nat}:∀{xs:List D},(∀d∈xs,Dk k d)->gc xs=true/\canLayAll0 (bR xs)=true/\depthAll (bR xs)<=k
 |[],_=>⟨rfl,rfl,by simp[bR,depthAll]⟩
 |d::xs,h=>by
  obtain⟨a1,a2,a3⟩:=h d (aU ..);obtain⟨a,b,e⟩:=vt λx c=>h x (bq _ c);refine⟨by show(gn d&&gc xs)=true;rw[a1,a];rfl,?_,?_⟩
  .simp[bR,canLayAll0,a2,b]
  .simp only[bR,depthAll]
   omega
theorem vq{k:Nat}{xs:List D}(h:∀d∈xs,Dk k d):Dk (k+1) (.tup xs):=by
 obtain⟨a,b,c⟩:=vt h;refine⟨a,?_,?_⟩
 .show canLay0 (.tuple (bR xs))=true
  simpa[canLay0] using b
 .show PyData.depth (.tuple (bR xs))<=k+1
  simp only[PyData.depth];omega
theorem mS{s:Str}(h:canLay0 (.str s)=true){k:Nat}:Dk k (.str s):=⟨rfl,h,by simp[toQ,PyData.depth]⟩
theorem vo{i:Int}{k:Nat}:Dk k (.int i):=⟨rfl,by simp[toQ,canLay0],by simp[toQ,PyData.depth]⟩
theorem vn{k:Nat}{a b:D}(c:Dk k a)(e:Dk k b):Dk (k+1) (.tup [a,b]):=vq λd hd=>by
 rcases aY.mp hd with rfl|hd
 .exact c
 .rw[bE.mp hd];exact e
theorem Dk.up{k j:Nat}{d:D}(h:Dk k d)(l:k<=j):Dk j d:=⟨h.1,h.2.1,cG h.2.2 l⟩
theorem AX:∀(m:M) (w:Str),Wy w->(∀n∈m.names,Nm n)->∀p∈jB m w,Wy p.1/\Nm p.2
 |.wt n,w,h,c,p,hp=>by
  have hp:p∈[(w,n)]:=hp;rw[bE.mp hp];exact⟨h,c n (by simp[aV.names])⟩
 |.bS l r a b,w,h,c,p,hp=>by
  have hp:p∈jB a (w++"l")++jB b (w++"r"):=hp;have c:∀n∈a.names++b.names,Nm n:=c;rcases bU.mp hp with hp|hp
  .exact AX a _ h.l (λn d=>c n (oK _ d)) p hp
  .exact AX b _ h.r (λn d=>c n (ji _ d)) p hp
theorem BK:∀(m:M) (w:Str) (x:Rat),Wy w->(∀n∈m.names,Nm n)->∀p∈bF m w x,Wy p.1/\Nm p.2.1
 |.wt n,w,x,h,c,p,hp=>by
  have hp:p∈[(w,n,x)]:=hp;rw[bE.mp hp];exact⟨h,c n (by simp[aV.names])⟩
 |.bS l r a b,w,x,h,c,p,hp=>by
  have hp:p∈bF a (w++"l") _++bF b (w++"r") _:=hp;have c:∀n∈a.names++b.names,Nm n:=c;rcases bU.mp hp with hp|hp
  .exact BK a _ _ h.l (λn d=>c n (oK _ d)) p hp
  .exact BK b _ _ h.r (λn d=>c n (ji _ d)) p hp
theorem IT{r:Str×Int}(h:Nm r.1):Dk 1 (bI r):=vn (mS h.ok) vo
theorem S8{l l':List Rat}(x:Rat)(h:∀z,z∈l↔z∈l'):mZ l x=mZ l' x:=by
 cases l with
 |nil=>
  cases l' with
  |nil=>rfl
  |cons b r'=>exact absurd ((h b).mpr (aU ..)) (by simp)
 |cons a r=>
  cases l' with
  |nil=>exact absurd ((h a).mp (aU ..)) (by simp)
  |cons b r'=>
   by_cases c:∀z∈a::r,z=a
   .have f:b=a:=c b ((h b).mpr (aU ..))
    subst f;have n1:¬((b::r).any λy=> !decide (y=b))=true:=λz=>by
     obtain⟨y,d,e⟩:=jL.mp z;rw[c y d] at e;simp at e
    have n2:¬((b::r').any λy=> !decide (y=b))=true:=λz=>by
     obtain⟨y,d,e⟩:=jL.mp z;rw[c y ((h y).mpr d)] at e;simp at e
    unfold mZ;simp only;rw[ao n1,ao n2]
   .have:∃z∈a::r,z≠a:=Classical.byContradiction λk=>c λz hz=>Classical.byContradiction λe=>k ⟨z,hz,e⟩
    obtain⟨z,hz,ne⟩:=this;rw[HA hz (aU ..) ne,HA ((h z).mp hz) ((h a).mp (aU ..)) ne]
theorem TU{rs:List (Str×Int)}{s:Str->Rat}{ns a:List Str}(h:∀x,x∈ns↔x∈a)(y:Str):eU rs s ns y=eU rs s a y:=by
 unfold eU;rw[S8 (s y) (l:=(ns.filter λn=> !decide (n=y)).map (eK rs s)) (l':=(a.filter λn=> !decide (n=y)).map (eK rs s))];intro z;simp only[aJ,lY,h]
theorem TR{rs:List (Str×Int)}{s:Str->Rat}{ns:List Str}{y:Str}{r:Str×Int}(h:eU rs s ns y=some r):r.1=y:=by
 unfold eU at h;split at h
 .split at h
  .cases h;rfl
  .cases h
 .cases h
theorem Mh{Ts:List Tb}{es fs:List (List Str)}(h1:lA Ts es)(h2:lA Ts fs):es=fs:=by
 have half:∀{es fs:List (List Str)},lA Ts es->lA Ts fs->∀e,e∈es->e∈fs:=λ {es fs} h1 h2 e f=>by
  obtain⟨P,h,i⟩:=h1.Gd e f;obtain⟨g,c,d⟩:=h2.all P h;have:e=g:=up_eq (r:=strLt) (λ_ _=>qj) (h1.qh e f).1 (h2.qh g c).1 λx=>by rw[i,d]
  rw[this];exact c
 exact up_eq (r:=λa b:List Str=>strLt (a.headD default) (b.headD default)) (λ_ _=>qj) h1.ord h2.ord λe=>⟨half h1 h2 e,half h2 h1 e⟩
inductive jm(m:M)(ms:List M)(ks:List Int)(rs:List (Str×Int)):Int->List D->Prop
 |a0:jm m ms ks rs 0 ((jB m "").map kN)
 |a1:jm m ms ks rs 1 ((bF m "" 1).map oF)
 |a2:jm m ms ks rs 2 ((jg (val rs) m "").map kN++[.int 1])
 |a3 (ys:List Str):cR [] (bF m "" 1)=none->ys.Pairwise strLt->(∀x,x∈ys↔x∈m.names)->jm m ms ks rs 3 ((lF (ys.zip (lw (ys.map (shr m)))) ks ks).map fy++[.int 1])
 |rC:cR [] (bF m "" 1)≠none->jm m ms ks rs 3 ([]++[.int 1])
 |a4 (ns ys:List Str):cR [] (bF m "" 1)=none->(∀x,x∈ns↔x∈m.names)->ys.Pairwise strLt->(∀x,x∈ys↔x∈m.names)->jm m ms ks rs 4 ((ys.filterMap (eU rs (shr m) ns)).map bI++[.int 1])
 |rD:cR [] (bF m "" 1)≠none->jm m ms ks rs 4 ([]++[.int 1])
 |a5 (es:List (List Str)):lA (ms.map aQ) es->jm m ms ks rs 5 (es.map λe=>D.tup (e.map D.str))
theorem L6{m:M}{ms:List M}{ks:List Int}{rs:List (Str×Int)}{i:Int}{xs ys:List D}(h:jm m ms ks rs i xs)(h':jm m ms ks rs i ys):xs=ys:=by
 cases h with
 |a0=>cases h';rfl
 |a1=>cases h';rfl
 |a2=>cases h';rfl
 |a3 zs d j k=>
  cases h' with
  |a3 e a b c=>rw[up_eq (r:=strLt) (λ_ _=>qj) j b λx=>(k x).trans (c x).symm]
  |rC a=>exact absurd d a
 |rC d=>
  cases h' with
  |a3 e a b c=>exact absurd a d
  |rC a=>rfl
 |a4 ns zs d n j k=>
  cases h' with
  |a4 f e a g b c=>
   rw[up_eq (r:=strLt) (λ_ _=>qj) j b λx=>(k x).trans (c x).symm,show eU rs (shr m) ns=eU rs (shr m) f from funext λy=>TU (λx=>(n x).trans (g x).symm) y]
  |rD a=>exact absurd d a
 |rD d=>
  cases h' with
  |a4 f e a g b c=>exact absurd a d
  |rD a=>rfl
 |a5 es o=>
  cases h' with
  |a5 fs l=>rw[Mh o l]
theorem tN{xs:List D}{k:Nat}(h:∀d∈xs,Dk k d):∀d∈xs++[D.int 1],Dk k d:=λd hd=>by
 rcases bU.mp hd with hd|hd
 .exact h d hd
 .rw[bE.mp hd];exact vo
theorem tO(xs:List D):xs++[D.int 1]≠[]:=by simp
theorem uS{m:M}{ms:List M}{ks:List Int}{rs:List (Str×Int)}{i:Int}{xs:List D}(q:Wf m)(C:m.deep<=5)(H:pA ks)(h1:1<=ms.length)(E:ms.length<=6)(u:∀m∈ms,One m)(h:jm m ms ks rs i xs):xs≠[]/\xs.length<=100/\∀d∈xs,Dk 3 d:=by
 have ln:=jb C;have L:=aV.om m;cases h with
 |a0=>
  refine⟨λz=>?_,?_,λd hd=>?_⟩
  .have:=ck List.length z
   rw[aM,sL,nk] at this;omega
  .rw[aM,sL];omega
  .obtain⟨p,c,rfl⟩:=aJ.mp hd
   obtain⟨a,b⟩:=AX m "" Wy.nil q.nm p c;exact(vn (k:=0) (mS a.ok) (mS b.ok)).up (by decide)
 |a1=>
  refine⟨λz=>?_,?_,λd hd=>?_⟩
  .have:=ck List.length z
   rw[aM,ng,nk] at this;omega
  .rw[aM,ng];omega
  .obtain⟨p,c,rfl⟩:=aJ.mp hd
   obtain⟨a,b⟩:=BK m "" 1 Wy.nil q.nm p c;refine(vq (k:=1) λd hd=>?_:Dk 2 (oF p)).up (by decide);rcases aY.mp hd with rfl|hd
   .exact mS a.ok
   rcases aY.mp hd with rfl|hd
   .exact mS b.ok
   rw[bE.mp hd];exact vn vo vo
 |a2=>
  have lt:=tU (val rs) m "";have N:2 ^ m.deep<=2 ^ 5:=fF (by decide) C;refine⟨tO _,?_,tN λd hd=>?_⟩
  .rw[cJ,aM]
   simp;omega
  .obtain⟨p,c,rfl⟩:=aJ.mp hd
   obtain⟨a,b⟩:=Cb (val rs) m "" Wy.nil p c;refine(vn (k:=0) (mS a.ok) (mS ?_)).up (by decide);rcases b with b|b<;>rw[b]
   .exact Sk
   .exact V6
 |a3 ys v c s=>
  refine⟨tO _,?_,tN λd hd=>?_⟩
  .rw[cJ,aM]
   unfold lF;rw[aM];have:=CG (ou (ys.zip (lw (ys.map (shr m)))) ks) ks;have:=H.len;simp;omega
  .obtain⟨l,I,rfl⟩:=aJ.mp hd
   obtain⟨n,w,rfl⟩:=aJ.mp I;refine(vq (k:=1) λd hd=>?_:Dk 2 (fy _)).up (by decide);obtain⟨r,A,rfl⟩:=aJ.mp hd;obtain⟨r',B,rfl⟩:=aJ.mp A;exact IT (q.nm _ ((s _).mp (of_mem_zip B).1))
 |rC v=>exact⟨tO _,by simp,tN λd hd=>by cases hd⟩
 |a4 ns ys v w c s=>
  have O:ys.length<=m.names.length:=j5 ys m.names (tZ c) λx j=>(s x).mp j;refine⟨tO _,?_,tN λd hd=>?_⟩
  .rw[cJ,aM]
   have:=List.length_filterMap_le (eU rs (shr m) ns) ys;simp;omega
  .obtain⟨r,A,rfl⟩:=aJ.mp hd
   obtain⟨y,J,e⟩:=qy.mp A;have:=TR e;refine(IT ?_).up (by decide);rw[this];exact q.nm _ ((s y).mp J)
 |rD v=>exact⟨tO _,by simp,tN λd hd=>by cases hd⟩
 |a5 es t=>
  have f:∀e∈es,∀x∈e,x∈N6:=λe g x j=>pU u (((PV u E t).2 x).mp (List.mem_flatten.mpr ⟨e,g,j⟩));refine⟨λz=>?_,?_,λd hd=>?_⟩
  .have z:es=[]:=List.map_eq_nil_iff.mp z
   cases ms with
   |nil=>simp at h1
   |cons m0 ms=>
    have o:=aV.om m0;cases F:m0.names with
    |nil=>rw[F] at o;simp at o
    |cons G P=>
     have:=(rK u E t (cF (m0::ms) G)).mpr ⟨G,⟨m0,aU ..,by rw[F];exact aU ..⟩,rfl⟩;rw[z] at this;cases this
  .rw[aM]
   have K:(es.map hdS).Pairwise strLt:=jI.mpr t.ord;have:=j5 (es.map hdS) N6 (tZ K) λx j=>by
    obtain⟨e,g,rfl⟩:=aJ.mp j;exact f e g _ (QI (t.qh e g).2)
   rw[aM] at this;simp[N6] at this;omega
  .obtain⟨e,g,rfl⟩:=aJ.mp hd
   refine(vq (k:=0) λd hd=>?_:Dk 1 (.tup (e.map D.str))).up (by decide);obtain⟨n,w,rfl⟩:=aJ.mp hd;exact mS (kR n (f e g n w)).ok
theorem XM{A:Ar}{r:Nat}{lo hi:Option Int}{xs:List D}{R:DK}(h:A[r]?=some (.lst xs))(k:R (.ref A.length) (A++[.lst (cutD xs lo hi)])):oG r lo hi A R:=by
 unfold oG;rw[h];exact k
theorem MO(l:List D)(y:D):cutD (l++[y]) none (some (-1))=l:=by
 unfold cutD;have e:HT.bu (l++[y]).length (l++[y]).length (some (-1))=l.length:=by
  show(if (-1:Int)<0 then ((-1:Int)+((l++[y]).length:Int)).toNat else min (-1:Int).toNat (l++[y]).length)=_;rw[aA (by decide)];simp;omega
 rw[e,HT.Wk,List.drop_zero,Nat.sub_zero,List.take_append_of_le_length (by simp),qH (by simp)]
def Dz:Ct:=λds A R _=>∃m,ds=[enc m]/\Wf m/\m.deep<=5/\∀A' q,Gr A A'->A'[q]?=some (.lst ((jB m "").map kN))->R (.ref q) A'
def C8:Ct:=λds A R _=>∃(i:Int) (m:M) (ms:List M) (ks:List Int) (rs:List (Str×Int)),ds=[.int i,enc m,.tup (ms.map enc),.tup (ks.map D.int),fy rs]/\0<=i/\i<6/\Wf m/\m.deep<=5/\Bk rs m/\pA ks/\1<=ms.length/\ms.length<=6/\(∀m∈ms,One m)/\
 ∀A' q xs,Gr A A'->jm m ms ks rs i xs->A'[q]?=some (.lst xs)->R (.ref q) A'
end DP
namespace My
open L2 DP MA
theorem O7(T:TopD K mg "leaves" JQ xm)(a:aj P w K mg base 9 "check_mobile" m7 (ak mg 1 pB))(b:aj P w K mg base 9 "leaves_below" qb (ak mg 2 (uO 8))):aj P w K mg base 10 "leaves" xm (ak mg 1 Dz):=by
 refine bH T Xa λc j d k nd=>⟨_,(av (c_ (dL a c d (aa (vr 0) af)))
  (ay (aN (dL b c d (aa (vr 0) (aa bG af)))))),λds A R h l=>?_⟩
 obtain⟨m,rfl,e,f,q⟩:=h;refine⟨rfl,_,⟨m,rfl,e,f,rfl⟩,λn g=>?_⟩;exact⟨rfl,_,⟨m,"",rfl,by omega,by decide+kernel,by decide,rfl⟩,λo p i h2=>q _ _ (g.trans i) h2⟩
theorem Oz(T:TopD K mg "_law_ask" I9 wA)(c:aj P w K mg base 10 "leaves" xm (ak mg 1 Dz))(d:aj P w K mg base 10 "shares" oA (ak mg 1 rz))(k:aj P w K mg base 18 "tips" xC (ak mg 2 DV))(b:aj P w K mg base 13 "choices" wV (ak mg 2 Df))(a:aj P w K mg base 12 "one_changed" xr (ak mg 2 DM))(j:aj P w K mg base 14 "bound" wN (ak mg 1 C_)):aj P w K mg base 20 "_law_ask" wA (ak mg 5 C8):=by
 refine bH T Wt λp M r x nd=>⟨_,(av (bJ (d_ x (vr 0) ai) (ay (aN (dL c p r (aa (vr 1) af)))) bM)
  (av (bJ (d_ x (vr 0) ai) (ay (aN (dL d p r (aa (vr 1) af)))) bM)
  (av (bJ (d_ x (vr 0) ai) (ay (aN (c8 (dL k p r (aa (vr 1) (aa (vr 4) af))) (cH (aa ai af))))) bM)
  (av (bJ (d_ x (vr 0) ai) (ay (aN (c8 (dL b p r (aa (vr 1) (aa (vr 3) af))) (cH (aa ai af))))) bM)
  (ay (aN (vh (d_ x (vr 0) ai) (c8 (dL a p r (aa (vr 1) (aa (vr 4) af))) (cH (aa ai af))) (dL j p r (aa (vr 2) af))))))))),λds A R h N=>?_⟩
 obtain⟨i,m,ms,ks,rs,rfl,O,Q,o,l,bm,E,h1,s,t,q⟩:=h;have hz:(3000:Nat)<=sizeLine:=by decide
 have ln:=jb l;have e:i=0\/i=1\/i=2\/i=3\/i=4\/i=5:=by omega
 rcases e with rfl|rfl|rfl|rfl|rfl|rfl
 .exact⟨rfl,m,rfl,o,l,λu v f g=>q _ _ _ f .a0 g⟩
 .exact⟨rfl,m,rfl,o,l,λu v f g l1=>q _ _ _ f .a1 g⟩
 .refine⟨rfl,m,rs,rfl,o,bm,l,λu v f g l1=>?_⟩
  have h0:=(uS o l E h1 s t (.a2 (ms:=ms) (ks:=ks) (rs:=rs))).2.1;refine⟨show 1<=sizeLine by decide,iX ((Gr.push (T:=[C.lst [D.int 1]])).get g) aE ?_ (q _ _ _ ((f.trans Gr.push).trans Gr.push) .a2 aE)⟩;rw[cJ] at h0;simp only[yf] at h0 ⊢;omega
 .refine⟨rfl,m,ks,rfl,o,l,E,λn u v ys f l1 y z g=>?_,λn u v f l1 g=>?_⟩
  .have h0:=(uS o l E h1 s t (.a3 (ms:=ms) (ks:=ks) (rs:=rs) ys n y z)).2.1
   refine⟨show 1<=sizeLine by decide,iX ((Gr.push (T:=[C.lst [D.int 1]])).get g) aE ?_ (q _ _ _ ((f.trans Gr.push).trans Gr.push) (.a3 ys n y z) aE)⟩;rw[cJ] at h0;simp only[yf] at h0 ⊢;omega
  .exact⟨show 1<=sizeLine by decide,iX ((Gr.push (T:=[C.lst [D.int 1]])).get g) aE (show 1<=sizeLine by decide) (q _ _ _ ((f.trans Gr.push).trans Gr.push) (.rC n) aE)⟩
 .refine⟨rfl,m,rs,rfl,o,bm,l,λn u v ns ys f l1 F B y z g=>?_,λn u v f l1 g=>?_⟩
  .have h0:=(uS o l E h1 s t (.a4 (ms:=ms) (ks:=ks) (rs:=rs) ns ys n B y z)).2.1
   refine⟨show 1<=sizeLine by decide,iX ((Gr.push (T:=[C.lst [D.int 1]])).get g) aE ?_ (q _ _ _ ((f.trans Gr.push).trans Gr.push) (.a4 ns ys n B y z) aE)⟩;rw[cJ] at h0;simp only[yf] at h0 ⊢;omega
  .exact⟨show 1<=sizeLine by decide,iX ((Gr.push (T:=[C.lst [D.int 1]])).get g) aE (show 1<=sizeLine by decide) (q _ _ _ ((f.trans Gr.push).trans Gr.push) (.rD n) aE)⟩
 .refine⟨rfl,_,N6,rfl,⟨ms,pV h1 s t⟩,kR,λG H=>?_,λF=>absurd ⟨ms,pV h1 s t⟩ F⟩
  have e:=(Az H).symm;subst e;exact⟨lJ s t,λS U es I J L V=>q _ _ _ J (.a5 es I) L⟩
theorem O2{fo:Addr}{fd:FuncData}(T:lC K "law" "law" lS fo fd)(U:mg "list"=none)(X:mg "range"=none)(y:mg "isinstance"=none)(I:aj P w K mg base 3 "_law_draw" kT (ak mg 3 mF))(J:aj P w K mg base 6 "_law_hall" wF (ak mg 2 Dq))(L:aj P w K mg base 10 "_law_some" wL (ak mg 3 (DS 2)))(l:aj P w K mg base 5 "_law_numbers" wK (ak mg 2 DH))(F:aj P w K mg base 10 "_law_names" wJ (ak mg 1 DJ))(o:aj P w K mg base 5 "_law_weights" sQ (ak mg 3 zv))(g:aj P w K mg base 20 "_law_ask" wA (ak mg 5 C8))(M:aj P w K mg base 3 "_law_free" wC (ak mg 1 Dj))(c:aj P w K mg base 10 "_law_all_names" wz (ak mg 1 C9))(t:aj P w K mg base 14 "settled" xx (ak mg 2 SSet)):gk P w K mg base (bW P w) 26 fo fd Bf (ak mg 1 Dv):=by
 refine PX T Ka rfl (by decide) λN RE f cdv B outer s H E i hR O ds A R h hl=>?_;have hu:=i.units;have nd:=Ka.nd;refine⟨_,(@av _ _ _ _ _ _ (dS 1 nd (cH af)) (@av _ _ _ _ _ _ (dS 2 nd (dL I i O (aa (vr 0) (aa (vr 1) (aa ai af))))) (@av _ _ _ _ _ _ (dS 3 nd (dL J i O (aa (vr 0) (aa (vr 1) af)))) (@av _ _ _ _ _ _ (dS 4 nd (dL L i O (aa (vr 0) (aa (vr 1) (aa ai af))))) (@av _ _ _ _ _ _ (dS 5 nd (dL l i O (aa (vr 0) (aa (vr 1) af)))) (@av _ _ _ _ _ _ (dS 6 nd (dL o i O (aa (vr 0) (aa (vr 1) (aa (dL F i O (aa (vr 4) af)) af))))) (@av _ _ _ _ _ _ (eH dQ rfl (zZ X (aa ai af)) (dG 7 nd) (@av _ _ _ _ _ _ (dS 8 nd (mQ (c8 (vr 2) (fm ai (vr 7))) ai)) (@av _ _ _ _ _ _ (dS 9 nd (dL g i O (aa (vr 8) (aa (vr 4) (aa (vr 3) (aa (vr 5) (aa (vr 6) af))))))) (@av _ _ _ _ _ _ (dS 10 nd (iy Ex EY U boot_list (aa (vr 9) af))) (@av _ _ _ _ _ _ (c_ (gS g_ jK jM ja jw (vr 9) (aa bG af))) (@av _ _ _ _ _ _ (NX (vr 9) ai jX) (@av _ _ _ _ _ _ (dS 11 nd (dL g i O (aa (vr 8) (aa (vr 4) (aa (vr 3) (aa (vr 5) (aa (vr 6) af))))))) (@ay _ _ _ _ (bJ (PW.pt (gU (j7 hu (vr 11) (vr 10)) (iJ (fQ (fu (kE R1 y U boot_list (vr 11))))))) (@ay _ _ _ _ (aN iw)) bM))))))))) (@av _ _ _ _ _ _ (bJ (fu (dL M i O (aa (vr 3) af))) (@av _ _ _ _ _ _ (dS 12 nd (dL t i O (aa (vr 3) (aa (bX (aa (bX (aa (dX hu (dL c i O (aa (vr 3) af)) ai) (aa ai af))) af)) af)))) (@av _ _ _ _ _ _ (c_ (gS g_ jK jM ja jw (vr 12) (aa bG af))) (@ay _ _ _ _ (aN (z6 hu (dL t i O (aa (vr 3) (aa (bX (aa (bX (aa (dX hu (dL c i O (aa (vr 3) af)) ai) (aa ai af))) af)) af))) (zW (vr 12) z3 (z4 (NB ai)))))))) bM) (@ay _ _ _ _ (aN iw)))))))))),?_⟩;obtain⟨ns,rfl,q⟩:=h;have hz:(3000:Nat)<=sizeLine:=by decide
 refine⟨bP _,rfl,ns,_,6,0,rfl,⟨[],aE,aF _⟩,by decide,by decide,λb A1 b0 b6 t1 w1=>?_⟩;refine⟨rfl,ns,_,_,rfl,w1,by decide,λms A2 h1 h5 u d2=>?_⟩;have G:ms.length<=6:=by omega
 refine⟨rfl,ns,_,_,rfl,d2.tw,by decide,λm A3 wm dm d3=>?_⟩;have Y:m.deep<=5:=by omega
 refine⟨rfl,ns,_,_,rfl,d3.tw,by decide,λks A4 hk _ d4=>?_⟩;refine⟨rfl,m,rfl,Y,λA5 q5 ys g5 l5 e5 Z AF=>?_⟩;have ly:ys.length<=32:=cG (j5 ys m.names (tZ Z) λx O=>(AF x).mp O) (jb Y);have nt:q5≠A.length:=λz=>by
  obtain⟨_,z1,_⟩:=d4.tw;have:=cz z1;omega
 refine⟨rfl,ns,_,q5,ys,_,rfl,nt,e5,Z,λx O=>wm.nm x ((AF x).mp O),by omega,d4.tw.gr g5,by decide,λrs A6 hW QW d6=>?_⟩;have bm:Bk rs m:=⟨hW,λn Q=>by rw[QW];exact(AF n).mpr Q⟩;clear d2 d3 d4 d6 w1 t1 g5 e5;refine⟨by decide,by decide,?_⟩;refine eG (λrest τ A'=>∃(j:Nat) (x7 x8 x9 Cp Cq:Option D),j<=6/\rest=(fT 0 6).drop j/\τ=[some (.fl ns),some (.ref A.length),some (.int b),some (.tup (ms.map enc)),some (enc m),some (.tup (ks.map D.int)),some (fy rs),x7,x8,x9,Cp,Cq,none]) ?_ ?_ ?_ _ _ _ ⟨0,none,none,none,none,none,bP _,rfl,rfl⟩
 .intro _ _ _ _
  trivial
 .rintro v rest τ A7 ⟨j,x7,x8,x9,Cp,Cq,hj,e,rfl⟩ Nx hN
  obtain⟨rfl,rfl,hlt⟩:=IS e;refine⟨.inl ⟨by decide,by decide⟩,(show(0:Int)<6 by decide),?_⟩;have i0:0<=(b+5*((j:Nat):Int))%6:=qO _ (by decide);have i6:(b+5*((j:Nat):Int))%6<6:=qN _ (by decide);refine⟨rfl,(b+5*((j:Nat):Int))%6,m,ms,ks,rs,rfl,i0,i6,wm,Y,bm,hk,h1,G,u,λA8 q8 xs g8 ha e8=>?_⟩;obtain⟨xne,xl,xd⟩:=uS wm Y hk h1 G u ha;refine Sx e8 ?_;have e9:=(Gr.push (T:=[C.lst xs])).get e8;have c9:(A8++[C.lst xs])[A8.length]?=some (.lst xs):=aE;have ne:q8≠A8.length:=bx (cz e8);generalize ZC:(A8++[C.lst xs]:Ar)=A9 at e9 c9 ⊢;refine⟨gE e9,iV e9 (by omega) ?_⟩;have Fz:(A9.set q8 (.lst (xs++[D.str "changed"])))[q8]?=some (.lst (xs++[D.str "changed"])):=eB (cz e9);have Es:(A9.set q8 (.lst (xs++[D.str "changed"])))[A8.length]?=some (.lst xs):=by rw[eF ne];exact c9
  generalize (A9.set q8 (.lst (xs++[D.str "changed"])):Ar)=CM at Fz Es ⊢;refine Sv (j:=0) Fz (by unfold i_;simp) ?_;have Et:(CM.set q8 (.lst ((xs++[D.str "changed"]).set 0 .aG)))[A8.length]?=some (.lst xs):=by rw[eF ne];exact Es
  generalize (CM.set q8 (.lst ((xs++[D.str "changed"]).set 0 .aG)):Ar)=Zr at Et ⊢;refine⟨rfl,(b+5*((j:Nat):Int))%6,m,ms,ks,rs,rfl,i0,i6,wm,Y,bm,hk,h1,G,u,λLa VQ ys' vG ha' FA=>?_⟩;have ee:=L6 ha' ha;subst ee;obtain⟨s1,s2,s3⟩:=vt xd;refine HC FA (vG.get Et) s1 s2 (by omega) ?_;have ety:nh La (.ref VQ)=some "list":=by unfold nh;simp only[FA]
  conv=>whnf
  rw[ety];conv=>whnf
  exact hN _ _ ⟨j+1,_,_,_,_,_,by omega,rfl,rfl⟩
 .rintro τ A7 ⟨j,x7,x8,x9,Cp,Cq,hj,e,rfl⟩
  refine⟨rfl,ms,rfl,G,u,λbb A8 hb g8=>?_⟩;cases bb with
  |false=>exact q _
  |true=>
  have hr0:iA (ms.map aQ)=none:=(P4 G u).mp (hb.mp rfl);have wk:∀n:Str,Nm n->jt [(n,6)]:=λn Q=>⟨λr i=>by rw[bE.mp i];exact Q,λr i=>by rw[bE.mp i];exact⟨show(1:Int)<=6 by decide,show(6:Int)<=999999 by decide⟩,by simp,by simp⟩;have KR:∀{n:Str},jP ms n->∃T∈ms.map aQ,n∈aH T:=λ {n} ⟨m,hm',Q⟩=>⟨_,cQ hm',((kY (jE (u m hm'))).2.1 n).mpr Q⟩;have D3:∀{n:Str},jP ms n->Nm n:=λ {n} ⟨m,hm',Q⟩=>kR n (names6 (u m hm') n Q);have Td:∀{nm:Str} {k:Int} {es:List (Str×Rat)},es.Perm (qf (ms.map aQ) [(nm,k)])->∀r∈es,Nm r.1:=λ {nm k es} Z r i=>by
   obtain⟨P,hP,i⟩:=gx.mp (Z.mem_iff.mp i);obtain⟨n0,hn0,_,rfl,_⟩:=Av u G hP;have h1:r.1∈(fU (ms.map aQ) [(nm,k)] (aO (ms.map aQ) n0)).map (·.1):=cQ i;rw[xO] at h1;split at h1
   .cases h1
   .exact kR _ ((gW (lJ G u) hn0).1.sub _ h1)
  refine⟨rfl,ms,rfl,G,u,λA9 q9 zs g9 e9 l9 zp zm=>?_⟩;obtain⟨S,zr,rfl⟩:∃S zr,zs=S::zr:=by
   cases zs with
   |cons S zr=>exact⟨S,zr,rfl⟩
   |nil=>
    cases ms with
    |nil=>simp at h1
    |cons m0 ms=>
     have Ho:=aV.om m0;cases e0:m0.names with
     |nil=>rw[e0] at Ho;simp at Ho
     |cons n0 r0=>
      have:=(zm n0).mpr ⟨m0,aU ..,by rw[e0];exact aU ..⟩;cases this
  have V:jP ms S:=(zm S).mp (aU ..);refine kK e9 (v:=.str S) (mH (j:=0) rfl) ?_;refine⟨show 2<=sizeLine by omega,show 1<=sizeLine by omega,rfl,_,N6,[(S,6)],rfl,⟨ms,pV h1 G u⟩,kR,wk S (D3 V),λls hH=>?_,λQ=>absurd ⟨ms,pV h1 G u⟩ Q⟩;have e1:=(Az hH).symm;subst e1;refine⟨lJ G u,λp Z=>by rw[bE.mp Z];exact KR V,λQ=>absurd hr0 Q,λ_=>⟨Aw u G,λ_ B7 p7 W y1 y2 y3 y4 y5=>?_,λQ=>absurd (Ko u G S 6) Q⟩⟩;have Zw:W.length<=6:=by
   have:=j5 (W.map (·.1)) N6 (tZ y3) λx O=>by
    obtain⟨r,i,rfl⟩:=aJ.mp O;obtain⟨P,hP,i⟩:=gx.mp (y2.mem_iff.mp i);obtain⟨n0,hn0,_,rfl,_⟩:=Av u G hP;have h1:r.1∈(fU (ms.map aQ) [(S,6)] (aO (ms.map aQ) n0)).map (·.1):=cQ i;rw[xO] at h1;split at h1
    .cases h1
    .exact(gW (lJ G u) hn0).1.sub _ h1
   rw[aM] at this;simpa[N6] using this
  refine⟨gE y4,iV y4 (by rw[aM];omega) ?_⟩;have t4:(B7.set p7 (.lst (W.map dz++[D.str "changed"])))[p7]?=some (.lst (W.map dz++[D.str "changed"])):=eB (cz y4);generalize (B7.set p7 (.lst (W.map dz++[D.str "changed"])):Ar)=B8 at t4 ⊢;refine⟨rfl,ms,rfl,G,u,λZs Z_ zs' P7 N2 ZQ Zo Zm=>?_⟩;have ez:zs'=S::zr:=up_eq (r:=strLt) (λ_ _=>qj) Zo zp λx=>(Zm x).trans (zm x).symm;subst ez;refine kK N2 (v:=.str S) (mH (j:=0) rfl) ?_;refine⟨show 2<=sizeLine by omega,show 1<=sizeLine by omega,rfl,_,N6,[(S,6)],rfl,⟨ms,pV h1 G u⟩,kR,wk S (D3 V),λls hH=>?_,λQ=>absurd ⟨ms,pV h1 G u⟩ Q⟩;have e1:=(Az hH).symm;subst e1;refine⟨lJ G u,λp Z=>by rw[bE.mp Z];exact KR V,λQ=>absurd hr0 Q,λ_=>⟨Aw u G,λ_ B9 p9 z_ w1 w2 w3 w4 w5=>?_,λQ=>absurd (Ko u G S 6) Q⟩⟩;have N9:z_=W:=up_eq (r:=λa b:Str×Rat=>strLt a.1 b.1) (λ_ _=>qj) (jI.mp w3) (jI.mp y3) λx=>by rw[w2.mem_iff,y2.mem_iff]
  subst N9;have t9:=w1.get (P7.get t4);refine XM t9 ?_;rw[MO];obtain⟨s1,s2,s3⟩:=vt (k:=60) (xs:=z_.map dz) λd hd=>by
   obtain⟨p,Z,rfl⟩:=aJ.mp hd;obtain⟨a1,a2,a3,_⟩:=Km (Td y2 p Z);exact⟨a1,a2,a3⟩
  exact Oi ((Gr.push (T:=[C.lst (z_.map dz)])).get w4) aE s1 s2 s3 (q _)
end My
namespace L2
theorem tD{K:Frag}{h:Heap}{mg:aC}{x:Str}{st:Stmt}{ps:List Str}{f:Addr}{i:Value}{j an:Option Addr}{g:Array (Option Value)}{kV doc pm e ct:Value}(X:K.In h)(G:h.Ns mainGlobals mg)
  (a:nsIn K mainGlobals x=some (some (.ref f)):=by k_is)(l:K.lookup f=some ⟨i,j,.func (fnOf x x (mR st) (iI st) (aI st) .none kV doc pm an e ct),g⟩:=by k_is)(c:codeIn K e x=true:=by k_is)(k:keepIn K (.ref f)=true:=by k_is)
  (m:∀(kV doc pm:Value) (an:Option Addr) (e ct:Value) (b:List Value),b.length=ps.length->bindArgs (fnOf x x (mR st) (iI st) (aI st) .none kV doc pm an e ct) ⟨b,[]⟩=pure (ps.zip b):=by first|(exact λ_ _ _ _ _ _ b d=>match b,d with|[_],_=>rfl)|(exact λ_ _ _ _ _ _ b d=>match b,d with|[_,_],_=>rfl)|(exact λ_ _ _ _ _ _ b d=>match b,d with|[_,_,_],_=>rfl)|(exact λ_ _ _ _ _ _ b d=>match b,d with|[_,_,_,_],_=>rfl)|(exact λ_ _ _ _ _ _ b d=>match b,d with|[_,_,_,_,_],_=>rfl)|(exact λ_ _ _ _ _ _ b d=>match b,d with|[],_=>rfl)):TopD K mg x st ps:=
 ⟨f,_,Ah l c k,(Ah l c k).binds m,mg_of X G a⟩
theorem bN{K:Frag}{h:Heap}{mg:aC}{x:Str}(X:K.In h)(G:h.Ns mainGlobals mg)(a:nsIn K mainGlobals x=some none:=by k_is):mg x=none:=PySem.W.mg_none_of X G a
theorem eX{K:Frag}{h:Heap}{mg:aC}{x:Str}{v:Value}(X:K.In h)(G:h.Ns mainGlobals mg)(a:nsIn K mainGlobals x=some (some v):=by k_is):mg x=some v:=mg_of X G a
end L2
namespace My
open L2 DP MA
theorem walk{l:PySem.W.OpenLaw}{q:Program}{loose:List Str}{i:(aC)->Heap->Prop}{c:World->Heap->Prop}{d:DefRec}{K:Params->Frag}(j:l.most=some 63)(b:d.params.defaults=[])(m:∀p,(K p).all (λp=>oq p.2)=true)
  (o:∀(w:World) (h:Heap),c w h->(K w.params).In h)
  (F:∀(w:World) (mg:aC) (g:Addr) (h:Heap),(K w.params).In h->h.Ns mainGlobals mg->mg d.name=some (.ref g)->
   ∃fd:FuncData,(∀(s:Shared) (u:Value),BindsTo s fd ⟨[u],[]⟩ [("_law_script",u)])/\∀base:Heap,(K w.params).In base->base.Ns mainGlobals mg->gk l.prog w (K w.params) mg base (bW l.prog w) 26 g fd ["_law_script"] qg):
  PySem.W.WalkO q loose i c l.row.toRowW d [] (λf vs=>PySem.call f vs):=
 L2.Y_ (n:=63) (k:=26) (x:="_law_script") (CX:=λw=>bW l.prog w) (sp:=λ_=>qg) j (by decide) b ⟨rfl,by decide,by decide⟩ o F (λw H a ns _ r t=>P5 (m w.params) r t) λw H s e s' z=>by
  obtain⟨_,_,_,_,_,z⟩:=z
  exact z
theorem Sg{P:Program}{w:World}{K:Frag}{h:Heap}{mg:aC}{o j:Addr}{k b:Option Addr}{l:Array (Option Value)}{m c d g a i:Value}(X:K.In h)(G:h.Ns mainGlobals mg)(n:mg "law"=some (.ref o))
  (a3:nsIn K mainGlobals "law"=some (some (.ref j)))(p:K.lookup j=some ⟨m,k,.func (fnOf "law" "law" (mR lS) (iI lS) (aI lS) .none c d g b a i),l⟩)(q:codeIn K a "law"=true)(k3:keepIn K (.ref j)=true)
  (go:∀(base:Heap) {f:Addr} {fd:FuncData},lC K "law" "law" lS f fd->gk P w K mg base (bW P w) 26 f fd Bf qg):
  ∃fd:FuncData,(∀(s:Shared) (v:Value),BindsTo s fd ⟨[v],[]⟩ [("_law_script",v)])/\∀base:Heap,K.In base->base.Ns mainGlobals mg->gk P w K mg base (bW P w) 26 o fd ["_law_script"] qg:=by
 have e:=n.symm.trans (mg_of X G a3)
 cases e
 exact⟨fnOf "law" "law" (mR lS) (iI lS) (aI lS) .none c d g b a i,λs v=> .of_eq rfl,λbase _ _=>go base (Ah p q k3)⟩
end My
end
open PySem PySem.W PyProof.Rows
set_option maxHeartbeats 0
namespace PySem.W.Fast
def tw14739391264513401825:=()
def tw861502493610598483:=()
def tw4287531850137106228:=()
def tw9306511735689505906:=()
def tw7774113678449685934:=()
def tw17546402167060200659:=()
def tw11284616107681220019:=()
def tw16947378819872066576:=()
def tw11509211604773734946:=()
def tw4244922878905308065:=()
def tw1799641797098859658:=()
def tw14594121865129679737:=()
def tw12088173506995129815:=()
def tw17348111734160510231:=()
def tw8331849164307833061:=()
def tw17284588472162393981:=()
def tw5323657890516693427:=()
def tw3332303416296171656:=()
def tw12770481643036789091:=()
def tw11948173574018764312:=()
def tw12297992134047619483:=()
def tw12798174099139212305:=()
def tw514280064592716601:=()
def tw4607425872040536859:=()
def tw15528221797031607849:=()
def tw7933485763601977624:=()
def tw18314875396610151526:=()
def tw15163409612377130007:=()
def tw14904681115217272601:=()
def tw991626836265849350:=()
def tw14963028359598502718:=()
def tw9947508896943372755:=()
def tw17653592248189364939:=()
def tw16203965252921439515:=()
def tw6030501089693204938:=()
def tw14961746396406840608:=()
def tw13861969467909019144:=()
def tw11853640710764476214:=()
def tw14577027041581768965:=()
def tw16873086082458093902:=()
def tw2595585439558603231:=()
def tw3235425350174046738:=()
def tw16753820520455620202:=()
def tw3713540243193553862:=()
def tw8285278889055680438:=()
def tw11161164713144168021:=()
def tw2080317491765294665:=()
def tw8535803893964050539:=()
def tw12314708539913122752:=()
def tw17267597263503486738:=()
def tw14560624547652848805:=()
def tw12740759652641322565:=()
def tw13114645530532618160:=()
def tw12147665669636231765:=()
def tw7480016910919988345:=()
def tw5459702643516471331:=()
def tw977512076041815475:=()
def tw8432719020341155521:=()
def tw12747814925858328940:=()
def tw11024694936033576346:=()
def tw1937721966566455358:=()
def tw6105849179199505303:=()
def tw1708089923452030704:=()
def tw12408111787983249662:=()
def tw2314633323536394700:=()
def tw6542358382571353910:=()
def tw15539815450414544023:=()
def tw17590705303994421779:=()
def tw9404705873571188630:=()
def tw1599053048872161195:=()
def tw12670982853097334264:=()
def tw1532491051758110099:=()
def tw4321966507151631593:=()
def tw13053770412826190925:=()
def tw15621415185263527259:=()
def tw4562827626845409882:=()
def tw3365755272349913518:=()
def tw7867829370405329436:=()
def tw13135312941875745310:=()
def tw6170744672141170255:=()
def tw12099505692703838030:=()
def tw18183970276198133131:=()
def tw8422229294311615681:=()
def tw3681537716864247207:=()
def tw3270257207059953099:=()
def tw9456574344343218679:=()
def tw4493901809537577575:=()
def tw4171853373547519906:=()
def tw8498532028676091811:=()
def tw9402243437249704421:=()
def tw16607193741793207195:=()
def tw5537553045615171315:=()
def tw8159993647027272844:=()
def tw10910644110388302437:=()
def tw11384182702204212275:=()
def tw6548459193220583526:=()
def tw547895379624588593:=()
def tw2261719852989239553:=()
def tw6427576097997697322:=()
def tw14611616552423853409:=()
end PySem.W.Fast
open L2 DP MA My
open_top hd for PySem.Challenge.rw_hangstill_k40_whole_again_and_kept
theorem PySem.Challenge.cw_hangstill_k40_whole_again_and_kept_holds : PySem.Challenge.rw_hangstill_k40_whole_again_and_kept.Holds := by
 refine hd ?_;k_fill;refine My.walk (l:=PySem.Challenge.rw_hangstill_k40_whole_again_and_kept) rfl rfl ?K (λw h Y=>PySem.W.kIn_of Y) ?F;case K=>exact λp=>(Eq.refl true:true=true)
 case F=>
  intro w mg fa h KX G hmg;refine' My.Sg KX G hmg ?aL ?lL ?cL ?kL ?Qh;(case aL=>k_is);(case lL=>k_is);(case cL=>k_is);(case kL=>k_is);case Qh=>
   intro base f fd T;have SH:mg "NoMobile"=some _:=eX KX G;have SG:mg "NoHall"=some _:=eX KX G;have AZ:mg "NoWeights"=some _:=eX KX G;have SJ:mg "NoNumber"=some _:=eX KX G;have AY:mg "Never"=some _:=eX KX G;have yR:=OZ (P:=PySem.Challenge.rw_hangstill_k40_whole_again_and_kept.prog) (w:=w) (base:=base) (tD KX G) (bN KX G) (bN KX G) (bN KX G);have C1:=OY (P:=PySem.Challenge.rw_hangstill_k40_whole_again_and_kept.prog) (w:=w) (base:=base) (tD KX G) (bN KX G) (bN KX G) (bN KX G) (bN KX G) (eX KX G);have Lp:=OW (tD KX G) (bN KX G) (bN KX G) (bN KX G) (bN KX G) (eX KX G) C1 yR 6;have CY:=OX (tD KX G) (eX KX G) Lp;have qY:=OF (tD KX G) SH (by k_exc) CY;have CV:=OR (P:=PySem.Challenge.rw_hangstill_k40_whole_again_and_kept.prog) (w:=w) (base:=base) (tD KX G);have C3:=Pu (tD KX G) CV;have uG:=Po (tD KX G) C3;have yS:=Pr (tD KX G) C3;have LN:=PB (tD KX G) uG 6;have uH:=Pz (tD KX G) qY LN;have uF:=OA (tD KX G) uH;have LG:=Pj (tD KX G) (bN KX G) uH;have LP:=PD (P:=PySem.Challenge.rw_hangstill_k40_whole_again_and_kept.prog) (w:=w) (base:=base) (tD KX G) (bN KX G);have LI:=Pp (tD KX G) (bN KX G) LP;have yP:=OS (tD KX G) LI;have Le:=OC (P:=PySem.Challenge.rw_hangstill_k40_whole_again_and_kept.prog) (w:=w) (base:=base) (tD KX G) (bN KX G);have CT:=OJ (tD KX G) uG yS;have Li:=OI (P:=PySem.Challenge.rw_hangstill_k40_whole_again_and_kept.prog) (w:=w) (base:=base) (tD KX G) (bN KX G) (bN KX G);have LK:=Pw (tD KX G) yP Li Le CT;have LD:=Pe (tD KX G) AY (by k_exc) LK;have Lh:=OG (tD KX G) (bN KX G) (bN KX G) (bN KX G) (eX KX G) SG (by k_exc) CY uF;have CW:=OV (tD KX G) Lh LG;have LC:=Pd (tD KX G) (bN KX G) (bN KX G) (bN KX G) (eX KX G) C1 yR;have Lq:=O0 (tD KX G) (bN KX G) (bN KX G) (bN KX G) (bN KX G) (bN KX G) LC;have yQ:=O3 (P:=PySem.Challenge.rw_hangstill_k40_whole_again_and_kept.prog) (w:=w) (base:=base) (tD KX G) 8;have Ls:=O5 (tD KX G) (bN KX G) yQ;have CS:=OD (tD KX G) AZ (by k_exc) Lq;have CU:=ON (tD KX G) (bN KX G) AZ (by k_exc) CS yQ;have LJ:=Pq (tD KX G) Ls;have LQ:=PF (tD KX G) LJ 6;have LR:=PL (tD KX G) (bN KX G) qY CU LQ;have Lw:=O8 (tD KX G) CV;have C2:=Ph (tD KX G) (bN KX G) uH;have Lx:=O9 (tD KX G) (bN KX G) (bN KX G) (bN KX G) Lw;have Lu:=O4 (tD KX G) AY (by k_exc) uF C2 Lx;have LS:=PM (tD KX G) (bN KX G) yS;have LA:=Pb (tD KX G) (bN KX G) uG;have LH:=Pk (tD KX G) (bN KX G) (bN KX G) (eX KX G) qY CU uF C2 LS LA;have Lj:=OL (tD KX G) (bN KX G) (bN KX G) (bN KX G) (bN KX G) (bN KX G) (bN KX G) (bN KX G) (eX KX G) (eX KX G) SJ (by k_exc) yR;have Lg:=OH (tD KX G) (bN KX G) (bN KX G) qY Lj uF Lu;have Ld:=OB (tD KX G) (bN KX G) (bN KX G) CW yP;have Ln:=OT (tD KX G) (bN KX G) CT;have Lk:=OM (tD KX G) (bN KX G) AZ (by k_exc) CS;have LM:=Py (tD KX G) AY (by k_exc) uG yS;have LL:=Px (tD KX G) (bN KX G) CW Lk LD yP LM Ln;have Lv:=O7 (tD KX G) qY yQ;have Lf:=OE (P:=PySem.Challenge.rw_hangstill_k40_whole_again_and_kept.prog) (w:=w) (base:=base) (tD KX G) (bN KX G);have Ly:=O_ (tD KX G) Lf;have nJ:=OO (tD KX G) (bN KX G) Ly;have qZ:=Pn (tD KX G) (bN KX G) nJ;have Lz:=Pa (tD KX G) nJ qZ;have Lm:=OQ (P:=PySem.Challenge.rw_hangstill_k40_whole_again_and_kept.prog) (w:=w) (base:=base) (tD KX G) (bN KX G) 8;have LO:=PC (tD KX G) nJ qZ Lz Lm 2 (by decide);have CZ:=O6 (P:=PySem.Challenge.rw_hangstill_k40_whole_again_and_kept.prog) (w:=w) (base:=base) (tD KX G) 8;have LF:=Pf (tD KX G) (bN KX G) (bN KX G) CZ;have Lb:=Ox (tD KX G) (bN KX G) (bN KX G) CZ;have C5:=PN (tD KX G) (bN KX G) nJ qZ;have Lo:=OU (tD KX G) (bN KX G) (bN KX G) (bN KX G) (bN KX G) nJ qZ C5;have LB:=Pc (tD KX G) (bN KX G) (bN KX G) (bN KX G) (bN KX G) nJ qZ;have C4:=PK (P:=PySem.Challenge.rw_hangstill_k40_whole_again_and_kept.prog) (w:=w) (base:=base) (tD KX G);have Lr:=O1 (tD KX G) C4;have Ll:=OP (tD KX G) C4 Lr;have Lc:=Oz (tD KX G) Lv uH LR Lg LH Ld;exact(O2 T (bN KX G) (bN KX G) (bN KX G) nJ Lo LO LB LF C5 Lc Ll Lb LL).imp λvs H Q E h=>XR h
